import PyProof.Rows.All
import Lean
import PyProof.EqAt
import PyProof.EqKinds
import PyProof.TupleCall
import KE.KIntText
import PyProof.CompFree
import PyProof.P3Eq
import PyProof.NeData
import PyProof.StrLawsTight
import PyProof.StrLawsReplace
import PyProof.StrCalls2
import KE.IntTextLaws
import KE.KMinBuiltin
import PyProof.WalkInts
import PyProof.Rows.CallKwBuiltin
import PyProof.Rows.CallKw2
import PyProof.SetScanFacts
import PyProof.SetKind
import PyProof.DictStraight
import PyProof.Rows.SetFrom
import PyProof.DictIter
import PyProof.Walks
import PyProof.FactsAll.set_1
import PyProof.Rows.TupIn
import PyProof.CollectWalk
import PyProof.FactsAll.set_2
import PyProof.Rows.SortWalk
import PyProof.MeetsStr
import PyProof.StrLaws
import PyProof.StrBlockL
import PyProof.ListRange
import PyProof.ZipIter
import PyProof.EnumMake
import PyProof.Rows.EnumRows
import PyProof.Rows.FactsT2
import PyProof.DictWalks
import PyProof.Conv_int_bool
import KE.KRevSl
import KE.KDictList
import KE.KLam
import KE.KMinKey
import PyProof.Rows.SortShellK
import PyProof.StrWalks
import KE.KSortTup
import PyProof.DictItems
import KE.KPairComp
import KE.KFromBytes
import KE.KTryOn
import KE.KRevIter
import KE.KNestM
import KE.KDictOf
import KE.RegKIsAll
import KE.RegKTryMore
import PySem.Challenge.RW_roadbook_k30_runs_behind_notices
noncomputable section
local macro_rules|`(tactic| lia) => `(tactic| first|decide +kernel|omega|(intro _ _ _ _ h; cases h; subst_vars; rfl))
set_option maxRecDepth 100000
set_option maxHeartbeats 4000000
set_option bootstrap.genMatcherCode false
set_option Elab.async false
set_option linter.all false
namespace L2
open PySem PySem.Spec PyProof.Rows
def Sa:=@wpAny_bind
def Sb:=@wpAny_pure
def Sc:=@Heap.get?_push_of_some
def Sd:=@Heap.get?_push_size
def Se:=@Heap.lt_size
def Sf:=@Nat.ne_of_lt
def Sg:=@Nat.le_refl
def Sh:=@Nat.le_trans
def Si:=@Nat.lt_of_lt_of_le
def Sj:=@Nat.lt_of_le_of_lt
def Sk:=@Nat.zero_le
def Sl:=@Nat.lt_irrefl
def Sm:=@Nat.lt_succ_self
def Sn:=@Nat.lt_succ_of_lt
def So:=@Option.some.inj
def Sr:=@List.getElem?_eq_some_iff
def Ss:=@List.getElem?_eq_getElem
def Su:=@List.length_append
def Sv:=@List.length_map
def Sw:=@List.length_singleton
def Sx:=@List.length_take
def Sy:=@List.length_cons
def Sz:=@List.length_replicate
def SA:=@List.length_drop
def SC:=@List.mem_cons_of_mem
def SD:=@List.mem_cons_self
def SE:=@List.mem_singleton
def SF:=@List.mem_cons
def SG:=@List.mem_append
def SH:=@List.mem_append_right
def SI:=@List.mem_append_left
def SJ:=@List.mem_map
def SK:=@List.mem_of_getElem?
def SL:=@List.map_append
def SM:=@List.map_cons
def SN:=@List.size_toArray
def SO:=@Bool.false_ne_true
def SQ:=@decide_eq_true
def SR:=@decide_eq_false
def SS:=@of_decide_eq_true
def SU:=@of_decide_eq_false
def SV:=@if_neg
def SW:=@if_pos
def SX:=@Int.natCast_emod
def SY:=@Int.natCast_ediv
def SZ:=@List.take_of_length_le
def S0:=@List.take_add_one
def Oa:=@List.getElem?_map
def Ob:=@List.getElem?_append_right
def Oc:=@List.append_nil
def Od:=@List.append_assoc
def Oe:=@List.map_map
def Of:=@Option.map_eq_some_iff
def Og:=@Nat.not_lt
def Oh:=@Bool.eq_false_iff
def Oi:=@List.getElem_mem
def Oj:=@List.range_succ
def Ol:=@List.nodup_cons
def Om:=@Nat.le_add_left
def On:=@Nat.le_add_right
def Oo:=@Nat.mod_lt
def Op:=@wpAny_mono
def Oq:=@absurd
def Os:=@Bool.true_and
abbrev Ot:=Value->Shared->Prop
abbrev Ou:=List (Addr×Obj)
abbrev Ov:=Str->Option Value
abbrev Ow:=W.Frag
abbrev Ox:=List (Str×Addr)
abbrev Oy:=Array (Option Value)
abbrev Oz:=Unit->Shared->Prop
abbrev OA:=List Value
abbrev OB:=List Str
abbrev OC:=List Expr
abbrev OD:=List Int
abbrev OE:=Option Addr
abbrev OF:=List Nat
abbrev OG:=List Addr
abbrev OH:=SetTable
abbrev OI:=FuncData
abbrev OJ:=Str.ofString
theorem R{α:Sort u}{a:α}:a=a:=rfl
abbrev Zt:=Sum Int Str
def QO:Zt->Value->Bool
 |.inl k,v=>Value.isInt k v
 |.inr x,v=>Value.isStrOf x v
def Zch(w:World):Zt->Int
 |.inl k=>hashInt k
 |.inr x=>hashStr w x
theorem Us:∀{k:Zt} {v:Value},QO k v=true->(∃i t,k=Sum.inl i/\v=Value.int i t)\/(∃x t,k=Sum.inr x/\v=Value.str x t)
 |.inl i,v,h=>by
  obtain⟨t,e⟩:=Value.isInt_shape (k:=i) (v:=v) h;exact .inl ⟨i,t,R,e⟩
 |.inr x,v,h=>by
  obtain⟨t,e⟩:=Value.isStrOf_shape (x:=x) (v:=v) h;exact .inr ⟨x,t,R,e⟩
theorem Zci(i:Int)(t:Tok):QO (.inl i) (.int i t)=true:=by simp[QO,Value.isInt]
theorem Zcj(x:Str)(t:Tok):QO (.inr x) (.str x t)=true:=by simp[QO,Value.isStrOf]
theorem Zck(a b:Int):decide ((Sum.inl a:Zt)=Sum.inl b)=(a == b):=by
 by_cases e:a=b
 ·subst e;simp
 ·have h:¬ (Sum.inl a:Zt)=Sum.inl b:=fun q=>e (Sum.inl.inj q)
  rw[SR h];exact(beq_eq_false_iff_ne.mpr e).symm
theorem Zcl(a b:Str):decide ((Sum.inr a:Zt)=Sum.inr b)=decide (a=b):=by
 by_cases e:a=b
 ·subst e;simp
 ·have h:¬ (Sum.inr a:Zt)=Sum.inr b:=fun q=>e (Sum.inr.inj q)
  rw[SR h,SR e]
theorem Zcm(a:Int)(b:Str):decide ((Sum.inl a:Zt)=Sum.inr b)=false:=SR (fun q=>nomatch q)
theorem Zcn(a:Str)(b:Int):decide ((Sum.inr a:Zt)=Sum.inl b)=false:=SR (fun q=>nomatch q)
def Xk(prog:Program)(w:World):PySem.KeyKind prog w Zt where
 is:=QO
 hash:=Zch w
 inj:=fun v a b ha g=>by
  rcases Us ha with⟨i,t,rfl,rfl⟩|⟨x,t,rfl,rfl⟩
  ·rcases Us g with⟨j,u,rfl,e⟩|⟨y,u,rfl,e⟩
   ·injection e with c _;rw[c]
   ·exact nomatch e
  ·rcases Us g with⟨j,u,rfl,e⟩|⟨y,u,rfl,e⟩
   ·exact nomatch e
   ·injection e with c _;rw[c]
 byValue:=fun k v h=>by
  rcases Us h with⟨i,t,rfl,rfl⟩|⟨x,t,rfl,rfl⟩<;>rfl
 pyHash:=fun f h=>by
  rcases Us f with⟨i,t,rfl,rfl⟩|⟨x,t,rfl,rfl⟩
  ·exact wpAny_pyHash_int h
  ·exact wpAny_pyHash_str h
 eqBool:=fun n f h=>by
  rcases Us n with⟨i,t,rfl,rfl⟩|⟨x,t,rfl,rfl⟩
  ·rcases Us f with⟨j,u,rfl,rfl⟩|⟨y,u,rfl,rfl⟩
   ·rw[Zck]at h;exact wpAny_eqBool_int h
   ·rw[Zcm]at h;exact SeqAt.EqAt.int_str i t y u _ _ _ _ h
  ·rcases Us f with⟨j,u,rfl,rfl⟩|⟨y,u,rfl,rfl⟩
   ·rw[Zcn]at h;exact SeqAt.EqAt.str_int x t j u _ _ _ _ h
   ·rw[Zcl]at h;exact wpAny_eqBool_str h
 «strs»:=fun k x t v h=>by
  rcases Us h with⟨i,u,rfl,e⟩|⟨y,u,rfl,e⟩
  ·exact nomatch e
  ·injection e with c _
   subst c;cases v<;>rfl
theorem Zco(prog:Program)(w:World)(i:Int)(t:Tok):(Xk prog w).is (.inl i) (.int i t)=true:=Zci i t
theorem Zcp(prog:Program)(w:World)(x:Str)(t:Tok):(Xk prog w).is (.inr x) (.str x t)=true:=Zcj x t
inductive V where
 |non|bl (b:Bool)|int (i:Int)|str (x:Str)|byt (b:Array UInt8)|flt (b:UInt64)|ref (a:Addr)|ty (n:String)
 deriving DecidableEq
def ZD:V->Value->Prop
 |.non,u=>u=Value.none
 |.bl b,u=>u=Value.bool b
 |.int i,u=>∃t,u=Value.int i t
 |.str x,u=>∃t,u=Value.str x t
 |.byt b,u=>∃t,u=Value.bytes b t
 |.flt b,u=>∃t,u=Value.float b t
 |.ref a,u=>u=Value.ref a
 |.ty n,u=>u=Value.type n
abbrev Zx:List V->List Value->Prop:=Paired ZD
theorem Zx.length{xs:List V}{us:OA}(r:Zx xs us):xs.length=us.length:=Paired.length r
theorem Zx.get:∀{xs:List V} {us:OA} {i:Nat} {x:V},Zx xs us->xs[i]? = some x->∃u,us[i]? = some u/\ZD x u
 |_,_,_,_,.nil,e=>by simp at e
 |_,_,0,_,.cons r _,e=>by simp at e;subst e;exact⟨_,R,r⟩
 |_,_,i+1,x,.cons _ t,e=>by
  obtain⟨u,h1,c⟩:=Zx.get (i:=i) (x:=x) t (by simpa using e);exact⟨u,by simpa using h1,c⟩
theorem Zx.append:∀{xs ys:List V} {us ws:OA},Zx xs us->Zx ys ws->Zx (xs++ys) (us++ws)
 |_,_,_,_,.nil,s=>s
 |_,_,_,_,.cons r t,s=>.cons r (Zx.append t s)
theorem Zx.take:∀{xs:List V} {us:OA} (n:Nat),Zx xs us->Zx (xs.take n) (us.take n)
 |_,_,0,_=>.nil
 |_,_,_+1,.nil=>.nil
 |_,_,n+1,.cons r t=>.cons r (Zx.take n t)
theorem Zx.drop:∀{xs:List V} {us:OA} (n:Nat),Zx xs us->Zx (xs.drop n) (us.drop n)
 |_,_,0,r=>r
 |_,_,_+1,.nil=>.nil
 |_,_,n+1,.cons _ t=>Zx.drop n t
def XE:Option V->Option Value->Prop
 |some v,some u=>ZD v u
 |none,none=>True
 |_,_=>False
def KV{κ:Type}:List (κ×V)->List (κ×Value)->Prop:=Paired fun(p:κ×V) (q:κ×Value)=>p.1=q.1/\ZD p.2 q.2
def kV:Zt->V
 |.inl i=>.int i
 |.inr x=>.str x
inductive HO where
  |lst (xs:List V)
  |tup (xs:List V)
  |dK (kvs:List (Zt×V))|dT (kvs:List (List Zt×V))
  |set (S:Int->Bool) (n:Nat)
  |ins (C dx:Addr) (fs:List (Str×V))
  |own (x:Addr)
  |xd (fs:List (Str×V))
  |met (f x:Addr)
  |rng (lo hi:Int)
  |frz (o:Obj) (u:HO)
  |tbl (ps:Array Value)
  |ext (φ:Heap->Prop)
abbrev Hp:=Addr->Option HO
def upd(H:Hp)(a:Addr)(o:HO):Hp:=fun b=>if b=a then some o else H b
theorem Zg{H:Hp}{a:Addr}{o:HO}:upd H a o a=some o:=by unfold upd;rw[SW R]
theorem Zd(h:b≠a):upd H a o b=H b:=by unfold upd;rw[SV h]
theorem Z4{H:Hp}{a b:Addr}{o u:HO}(h:H a=some o)(h':H b=some u)(d:o≠u):a≠b:=by
 intro e;subst e;rw[h]at h';exact d (So h')
theorem ZI{H:Hp}{a b:Addr}{o:HO}(h:H a=some o)(h':H b=none):a≠b:=by
 intro e;subst e;rw[h]at h';cases h'
section
variable(P:Program)(w:World)
def Yf(H:Hp)(h:Heap)(a:Addr):HO->Prop
 |.lst xs=>xs.length<=sizeLine/\∃(its:OA) (n:Nat),Zx xs its/\h.get? a=some { cls:=.type "list",data:=.seq its.toArray n }
 |.tup xs=>xs.length<=sizeLine/\∃its:List Value,Zx xs its/\IsTup h a its.toArray
 |.dK e=>e.length<=sizeLine/\(a == sysModules)=false/\∃y,KV e y/\h.DictOf (Xk P w) a y
 |.dT e=>e.length<=sizeLine/\(a == sysModules)=false/\∃xs:List (List Zt×Addr×Value),
   Paired (fun(p:List Zt×V) (q:List Zt×Addr×Value)=>p.1=q.1/\H q.2.1=some (.tup (p.1.map kV))/\ZD p.2 q.2.2) e xs /\
   ∃o D I,h.get? a=some o/\o.ExactDict/\o.data=.dict D I/\D.toList=xs.map (entryOfKey (tupleKind (Xk P w)))/\(xs.map (·.1)).Nodup
 |.set S n=>h.SetOf (intKind P w) a S n
 |.ins C g fs=>H g=some (.own a)/\fs.length<=1000/\g≠a/\h.get? a=some (W.instObj C g) /\
   ∃c,h.Ns1 g c/\(∀f,XE (fs.lookup f) (c f))/\PySem.Within c (fs.map (·.1))
 |.own _=>∃o,h.get? a=some o
 |.xd fs=>∃c,h.Ns1 a c/\∀f,XE (fs.lookup f) (c f)
 |.rng lo G=>∃t u v,h.get? a=some { cls:=.type "range",data:=.fields #[.int lo t,.int G u,.int 1 v] }
 |.frz o u=>h.get? a=some o/\Yf H h a u
 |.tbl E=>h.get? a=some { cls:=.none,data:=.fields E }
 |.met f x=>h.get? a=some (W.methodObj (.ref f) (.ref x))
 |.ext i=>i h/\(∃o,h.get? a=some o)/\∀j B:Heap,i j->(∀o,j.get? a=some o->B.get? a=some o)->i B
def Yi(H:Hp)(h:Heap):Prop:=∀a o,H a=some o->Yf P w H h a o
end
section
variable{P:Program}{w:World}{H H':Hp}{h h':Heap}{a:Addr}{o:HO}
theorem Yf.lt(x:Yf P w H h a o):a<h.objs.size:=by
 cases o with
 |lst c=>obtain⟨_,_,_,_,e⟩:=x;exact Se e
 |tup c=>obtain⟨_,_,_,p⟩:=x;exact p.lt
 |dK g=>obtain⟨_,_,_,_,o,_,_,e,_⟩:=x;exact Se e
 |dT g=>obtain⟨_,_,_,_,o,_,_,e,_⟩:=x;exact Se e
 |set S n=>obtain⟨o,_,_,_,e,_⟩:=x;exact Se e
 |ins C i fs=>obtain⟨_,_,_,e,_⟩:=x;exact Se e
 |own y=>obtain⟨_,e⟩:=x;exact Se e
 |xd fs=>obtain⟨_,⟨_,_,_,e,_⟩,_⟩:=x;exact Se e
 |rng lo q=>obtain⟨_,_,_,e⟩:=x;exact Se e
 |frz ob u=>obtain⟨e,_⟩:=x;exact Se e
 |tbl j=>exact Se (show h.get? a=some _ from x)
 |met f y=>exact Se (show h.get? a=some _ from x)
 |ext v=>obtain⟨_,⟨_,e⟩,_⟩:=x;exact Se e
theorem Paired.mapP{c e:Type}{F G:c->e->Prop}:∀{g:List c} {l₂:List e},Paired F g l₂->(∀a b,F a b->G a b)->Paired G g l₂
 |_,_,.nil,_=>.nil
 |_,_,.cons r t,f=>.cons (f _ _ r) (Paired.mapP t f)
theorem Yf.stay(x:Yf P w H h a o)(k:∀b u,(b=a\/H b=some (.own a))->h.get? b=some u->h'.get? b=some u)
  (I:∀b,H b=some (.own a)->H' b=some (.own a)) (G:∀b xs,H b=some (.tup xs)->H' b=some (.tup xs)):Yf P w H' h' a o:=by
 induction o with
 |lst xs=>obtain⟨z,its,n,r,e⟩:=x;exact⟨z,its,n,r,k _ _ (.inl R) e⟩
 |tup xs=>obtain⟨z,its,r,ob,e,c⟩:=x;exact⟨z,its,r,ob,k _ _ (.inl R) e,c⟩
 |dK J=>obtain⟨z,y,L,r,ob,i,g,e,c⟩:=x;exact⟨z,y,L,r,ob,i,g,k _ _ (.inl R) e,c⟩
 |dT J =>
  obtain⟨z,y,xs,r,ob,i,g,e,c⟩:=x;exact⟨z,y,xs,Paired.mapP r fun p q z=>⟨z.1,G _ _ z.2.1,z.2.2⟩,ob,i,g,k _ _ (.inl R) e,c⟩
 |set S n=>obtain⟨ob,i,g,t,e,c⟩:=x;exact⟨ob,i,g,t,k _ _ (.inl R) e,c⟩
 |ins C O fs =>
  obtain⟨d,z,ne,e,j,⟨B,i,g,E,c⟩,r⟩:=x;exact⟨I _ d,z,ne,k _ _ (.inl R) e,j,⟨B,i,g,k _ _ (.inr d) E,c⟩,r⟩
 |own y=>obtain⟨ob,e⟩:=x;exact⟨ob,k _ _ (.inl R) e⟩
 |xd fs=>obtain⟨j,⟨B,i,g,e,c⟩,r⟩:=x;exact⟨j,⟨B,i,g,k _ _ (.inl R) e,c⟩,r⟩
 |rng lo Q=>obtain⟨t,u,v,e⟩:=x;exact⟨t,u,v,k _ _ (.inl R) e⟩
 |frz ob u M=>obtain⟨e,q⟩:=x;exact⟨k _ _ (.inl R) e,M q⟩
 |tbl D =>
  have e:h.get? a=some { cls:=.none,data:=.fields D }:=x;show h'.get? a=some { cls:=.none,data:=.fields D };exact k a _ (.inl R) e
 |met f y =>
  have e:h.get? a=some (W.methodObj (.ref f) (.ref y)):=x;show h'.get? a=some (W.methodObj (.ref f) (.ref y));exact k a _ (.inl R) e
 |ext T=>obtain⟨p,⟨o,e⟩,st⟩:=x;exact⟨st _ _ p fun o q=>k _ _ (.inl R) q,⟨o,k _ _ (.inl R) e⟩,st⟩
theorem Yi.lt(x:Yi P w H h)(e:H a=some o):a<h.objs.size:=(x a o e).lt
theorem Yi.fresh(x:Yi P w H h)(e:h.objs.size<=a):H a=none:=by
 cases q:H a with
 |none=>rfl
 |some u=>exact Oq (Si (x.lt q) e) (Sl _)
theorem Yi.kept(x:Yi P w H h)(k:∀b u,h.get? b=some u->h'.get? b=some u):Yi P w H h':=fun a o e =>
 (x a o e).stay (fun b u _ q=>k b u q) (fun _ q=>q) fun _ _ q=>q
theorem Yi.laid(x:Yi P w H h)(k:∀b u,h.get? b=some u->h'.get? b=some u)(g:h.objs.size<=a)(new:Yf P w (upd H a o) h' a o):Yi P w (upd H a o) h':=fun b u e=>by
 have hn:=x.fresh g;by_cases f:b=a
 ·subst f;rw[Zg]at e;cases e;exact new
 ·rw[Zd f]at e
  exact(x b u e).stay (fun c v _ q=>k c v q) (fun c q=>by rw[Zd (ZI q hn)];exact q) fun c i q=>by rw[Zd (ZI q hn)];exact q
end
def Rd(H:Hp)(a:Addr)(u:HO):Prop:=H a=some u\/∃o,H a=some (.frz o u)
theorem Rd.ok(r:Rd H a u)(x:Yi P w H h):Yf P w H h a u:=by
 rcases r with r|⟨o,r⟩
 ·exact x a u r
 ·obtain⟨_,q⟩:=x a _ r
  exact q
def C7:Option HO->Prop
 |some (.lst _)=>True
 |some (.dK _)=>True
 |some (.dT _)=>True
 |some (.set _ _)=>True
 |some (.ins _ _ _)=>True
 |some (.ext _)=>True
 |_=>False
section
variable{P:Program}{w:World}{H:Hp}{h h':Heap}{x e:Addr}{o':HO}
theorem Yi.write(ok:Yi P w H h)(i:C7 (H x))(D:e=x\/H e=some (.own x))(k:∀b u,b≠e->h.get? b=some u->h'.get? b=some u)(E:∃u,h'.get? e=some u)
  (new:Yf P w (upd H x o') h' x o'):Yi P w (upd H x o') h':=fun b u q=>by
 have B:∀c y,H c=some (.own y)->c≠x:=fun c y r z=>by subst z;rw[r]at i;exact i
 have G:∀c j,H c=some (.tup j)->c≠x:=fun c j r z=>by subst z;rw[r]at i;exact i
 by_cases g:b=x
 ·subst g;rw[Zg]at q;cases q;exact new
 ·rw[Zd g]at q
  by_cases f:b=e
  ·have C:H b=some (.own x):=by
    rcases D with z|z
    ·exact Oq (f.trans z) g
    ·rw[f];exact z
   rw[q]at C;cases C;obtain⟨v,I⟩:=E;exact⟨v,by rw[f];exact I⟩
  ·refine(ok b u q).stay (fun c v n r=>k c v ?_ r) (fun c r=>by rw[Zd (B c b r)];exact r) fun c j r=>by rw[Zd (G c j r)];exact r
   rcases n with rfl|n
   ·exact f
   ·rintro rfl
    rcases D with z|z
    ·exact B c b n z
    ·rw[n]at z;cases z;exact g R
end
structure Un(fs ex:OG)(H H':Hp)(h h':Heap):Prop where
 keep:∀b o,h.get? b=some o->H b=none->b∉fs->b∉ex->h'.get? b=some o
 slot:∀b o,h.get? b=some o->H b=none->b∈fs->b∉ex->∃sl,h'.get? b=some { o with slots:=sl }
 free:∀b o,h.get? b=some o->H b=none->b∉ex->H' b=none
 there:∀b o,h.get? b=some o->b∉ex->∃o',h'.get? b=some o'
 tups:∀b xs,H b=some (.tup xs)->H' b=some (.tup xs)
 frzs:∀b o u,H b=some (.frz o u)->H' b=some (.frz o u)
 tbls:∀b ps,H b=some (.tbl ps)->∃more,H' b=some (.tbl (ps++more))
section
variable{fs fs' ex ex':OG}{H H1 H2:Hp}{h h1 h2 h':Heap}{a x e:Addr}{o:HO}
theorem Un.any(u:Un fs ex H H1 h h1)(q:h.get? b=some ob)(n:H b=none)(f:b∉ex):∃g,h1.get? b=some { ob with slots:=g }:=by
 by_cases c:b∈fs
 ·exact u.slot b ob q n c f
 ·exact⟨ob.slots,u.keep b ob q n c f⟩
theorem Un.kept(k:∀b u,h.get? b=some u->h'.get? b=some u):Un fs ex H H h h' :=
 ⟨fun b ob q _ _ _=>k b ob q,fun b ob q _ _ _=>⟨ob.slots,k b ob q⟩,fun _ _ _ n _=>n,fun b ob q _=>⟨ob,k b ob q⟩,fun _ _ q=>q,fun _ _ _ q=>q,fun _ c q=>⟨#[],by rw[q];simp⟩⟩
theorem Un.refl:Un fs ex H H h h:=Un.kept fun _ _ q=>q
theorem Un.laid(k:∀b u,h.get? b=some u->h'.get? b=some u)(f:h.objs.size<=a)(hn:H a=none):Un fs ex H (upd H a o) h h' where
 keep:=fun b u q _ _ _=>k b u q
 slot:=fun b u q _ _ _=>⟨u.slots,k b u q⟩
 free:=fun b u q n _=>by rw[Zd (Sf (Si (Se q) f))];exact n
 there:=fun b u q _=>⟨u,k b u q⟩
 tups:=fun b c q=>by rw[Zd (ZI q hn)];exact q
 frzs:=fun b u c q=>by rw[Zd (ZI q hn)];exact q
 tbls:=fun b g q=>⟨#[],by rw[Zd (ZI q hn),q];simp⟩
theorem Un.write(c:C7 (H x))(y:e=x\/H e=some (.own x))(k:∀b u,b≠e->h.get? b=some u->h'.get? b=some u)(j:∃u,h'.get? e=some u):Un fs ex H (upd H x o) h h':=by
 have i:∀b,H b=none->b≠x:=fun b n z=>by subst z;rw[n]at c;exact c
 have g:∀b,H b=none->b≠e:=fun b n z=>by
  subst z;rcases y with r|r
  ·exact i b n r
  ·rw[n]at r;cases r
 have hm:∀b u,H b=some u->¬ C7 (some u)->b≠x:=fun b u q nm z=>by subst z;rw[q]at c;exact nm c
 refine⟨fun b u q n _ _=>k b u (g b n) q,fun b u q n _ _=>⟨u.slots,k b u (g b n) q⟩,fun b u q n _=>by rw[Zd (i b n)];exact n,fun b u q _=>?_,
  fun b v q=>by rw[Zd (hm b _ q fun z=>z)];exact q,fun b u v q=>by rw[Zd (hm b _ q fun z=>z)];exact q,fun b B q=>⟨#[],by rw[Zd (hm b _ q fun z=>z),q];simp⟩⟩
 by_cases f:b=e
 ·subst f;exact j
 ·exact⟨u,k b u f q⟩
end
def JP(h:Heap)(H:Hp):List Addr:=(List.range h.objs.size).filter fun a=>(H a).isSome
def VT(h:Heap)(H:Hp):Heap:=W.hideAll h (JP h H)
theorem Zcq(h:Heap)(H:Hp):(VT h H).objs.size=h.objs.size:=W.hideAll_size _ _
theorem Zcr{h:Heap}(e:h.get? b=some o)(n:H b=none):(VT h H).get? b=some o :=
 W.hideAll_get _ e fun hm=>by
  have q:(H b).isSome=true:=(List.mem_filter.mp hm).2;rw[n]at q;simp at q
theorem Zcs{h:Heap}(e:(VT h H).get? b=some o):h.get? b=some o/\H b=none:=by
 have c:h.get? b=some o:=W.of_hideAll (JP h H) e;refine⟨c,?_⟩;cases q:H b with
 |none=>rfl
 |some x =>
  have hm:b∈JP h H:=List.mem_filter.mpr ⟨List.mem_range.mpr (Se c),by simp[q]⟩;have z:(VT h H).get? b=none:=W.hideAll_none (JP h H) hm;rw[z]at e;cases e
structure Mod(K:Ow)(mg:Ov)(base:Heap):Prop where
 kin:K.In base
 glob:base.Ns mainGlobals mg
 blt:∃mb,base.Ns builtinsNs mb/\∀x:Str,x ≠ "__name__" -> mb x=bootBuiltins x
 nolimit:base.NoLimit
structure Cx where
 prog:Program
 w:World
 K:W.Frag
 mg:Str->Option Value
 base:Heap
 A:Around
 N:List Str
 s₀:Shared
 H₀:Hp
 env:Env
 outer:List Env
 stack:List Env
 ex:List Addr
 fn:Str->Bool
 calm:Bool
 pn:List (Addr×Obj)
 xe:Value->Shared->Prop
def Yl(l:List Env):List Addr:=l.filterMap (·.frame)
abbrev Cx.fs(X:Cx):List Addr:=Yl X.outer
def C8(c:Scope)(x:Str):Prop:=c.names.lookup x=some .local\/c.names.lookup x=some .cell\/c.names.lookup x=some .free
def Qm(c:Scope)(x:Str):Prop:=c.names.lookup x=some .local\/c.names.lookup x=some .cell
def T0(env:Env)(h:Heap)(m:Ov)(x:Str)(u:Value):Prop :=
 (env.kindOf x=some .local/\m x=some u)\/((env.kindOf x=some .cell\/env.kindOf x=some .free)/\∃c,env.cells.lookup x=some c/\h.IsCell c (some u))
structure Cx.Ok(X:Cx):Prop where
 mod:Mod X.K X.mg X.base
 kind:X.env.scope.kind=.function
 glob:X.env.globals=mainGlobals
 blt:X.env.builtins=builtinsNs
 above:X.s₀.heap.objs.size<=X.env.locals
 inj:∀x y c,X.env.cells.lookup x=some c->X.env.cells.lookup y=some c->x=y
 has:∀x,(X.env.kindOf x=some .cell\/X.env.kindOf x=some .free)->∃c,X.env.cells.lookup x=some c
 cab:∀x c,X.fn x=true->X.env.cells.lookup x=some c->X.s₀.heap.objs.size<=c
 hd:X.calm=true->X.A.handled=none
 frames:X.A.frames=some X.stack
 stk:X.stack=X.outer\/(X.stack=X.env::X.outer/\X.env.frame=some X.env.locals)
 exf:∀b∈X.ex,b≠X.env.locals/\∀x c,X.env.cells.lookup x=some c->c≠b
 bs:∀b o,X.base.get? b=some o->X.s₀.heap.get? b=some o/\X.H₀ b=none
 bsz:X.base.objs.size<=X.s₀.heap.objs.size
 noex:∀b o,X.base.get? b=some o->b∉X.ex
 exfs:∀b∈X.ex,b∉X.fs
 funs:X.s₀.heap.FunFrames X.base X.outer
 frf:∀b∈X.fs,X.H₀ b=none
structure Za(X:Cx)(pins:Ou)(σ:List (Option V))(H:Hp)(s:Shared):Prop where
 ok:X.Ok
 os:s.os=X.s₀.os
 bare:AllBare s.gens
 base:Un X.fs X.ex X.H₀ H X.s₀.heap s.heap
 loc:∃m,s.heap.Ns X.env.locals m/\∀(i:Nat) (x:Str) (v:V),X.N[i]? = some x->σ[i]? = some (some v)->C8 X.env.scope x->∃u,ZD v u/\T0 X.env s.heap m x u
 cell:∀x c,X.env.cells.lookup x=some c->∃v,s.heap.IsCell c v
 free:H X.env.locals=none
 freeC:∀x c,X.env.cells.lookup x=some c->H c=none
 pin:∀p∈X.pn++pins,s.heap.get? p.1=some p.2/\H p.1=none/\p.1≠X.env.locals/\p.1∉X.fs/\∀v,p.2.data≠.cell v
 hok:Yi X.prog X.w H s.heap
 len:σ.length=X.N.length
section
variable{X:Cx}{pins:Ou}{σ:List (Option V)}{H H':Hp}{s:Shared}{h':Heap}
theorem Cx.Ok.nofr(ok:X.Ok)(e:X.base.get? b=some o):b∉X.fs:=fun c=>by
 have:=(ok.funs.mem c).1;rw[e]at this;cases this
theorem Za.bs(I:Za X pins σ H s):∀b o,X.base.get? b=some o->s.heap.get? b=some o/\H b=none:=fun b o e =>
 ⟨I.base.keep b o (I.ok.bs b o e).1 (I.ok.bs b o e).2 (I.ok.nofr e) (I.ok.noex b o e),I.base.free b o (I.ok.bs b o e).1 (I.ok.bs b o e).2 (I.ok.noex b o e)⟩
theorem Za.bk(I:Za X pins σ H s):∀b o,X.base.get? b=some o->s.heap.get? b=some o:=fun b o e=>(I.bs b o e).1
theorem Za.mod(I:Za X pins σ H s):Mod X.K X.mg X.base:=I.ok.mod
theorem Za.kIn(I:Za X pins σ H s):X.K.In s.heap:=I.ok.mod.kin.keeps I.bk
theorem Za.fr(I:Za X pins σ H s):∃m,Fr X.base X.env.locals s.heap m :=
 let ⟨m,hn,_⟩:=I.loc
 ⟨m,hn,I.bk,Sh I.ok.bsz I.ok.above⟩
theorem Za.lt(I:Za X pins σ H s):X.env.locals<s.heap.objs.size:=let ⟨_,hn,_⟩:=I.loc;hn.lt
theorem Za.sz(I:Za X pins σ H s):X.s₀.heap.objs.size<=s.heap.objs.size:=Sh I.ok.above (Nat.le_of_lt I.lt)
theorem Za.nofs(I:Za X pins σ H s)(h:s.heap.objs.size<=a):a∉X.fs:=fun c=>by
 obtain⟨_,o,e,_⟩:=I.ok.funs.mem c;exact Oq (Si (Se e) (Sh I.sz h)) (Sl _)
theorem Za.cne(I:Za X pins σ H s):∀x c,X.env.cells.lookup x=some c->c≠X.env.locals:=fun x c e z=>by
 obtain⟨v,o,f,hd⟩:=I.cell x c e;obtain⟨m,⟨i,n,j,g,h,_⟩,_⟩:=I.loc;rw[z,g]at f;cases f;rw[h]at hd;cases hd
theorem Za.funs(I:Za X pins σ H s):s.heap.FunFrames X.base X.outer:=by
 have all:∀(l:List Env),(∀b∈Yl l,b∈X.fs)->X.s₀.heap.FunFrames X.base l->s.heap.FunFrames X.base l:=by
  intro l
  induction l with
  |nil=>intro _ _;trivial
  |cons env r n =>
   intro h i;obtain⟨u,⟨L,o,g,hn,j,hd⟩,q⟩:=i;have c:L∈X.fs:=h L (by unfold Yl;rw[List.filterMap_cons,g];exact SD);obtain⟨v,e⟩:=I.base.slot L o j (I.ok.frf L c) c fun z=>I.ok.exfs L z c;exact⟨u,⟨L,_,g,hn,e,hd⟩,n (fun b f=>h b (by unfold Yl;rw[List.filterMap_cons,g];exact SC _ f)) q⟩
 exact all X.outer (fun _ f=>f) I.ok.funs
theorem Za.stack(I:Za X pins σ H s):s.heap.FunFrames X.base X.stack:=by
 rcases I.ok.stk with e|⟨e,c⟩
 ·rw[e];exact I.funs
 ·rw[e]
  obtain⟨m,hn,_⟩:=I.loc;refine .cons (by rw[I.ok.kind];lia) c hn ?_ I.funs;exact Heap.get?_none_of_le (Sh I.ok.bsz I.ok.above)
theorem Za.stkSub(I:Za X pins σ H s):∀b∈Yl X.stack,b∈X.env.locals::X.fs:=fun b c=>by
 rcases I.ok.stk with e|⟨e,f⟩
 ·rw[e]at c;exact SC _ c
 ·rw[e]at c
  unfold Yl at c;rw[List.filterMap_cons,f]at c;exact c
theorem Za.stkFree(I:Za X pins σ H s):∀b∈Yl X.stack,H b=none:=fun b c=>by
 rcases SF.mp (I.stkSub b c)with e|c
 ·rw[e];exact I.free
 ·obtain⟨_,o,f,_⟩:=I.ok.funs.mem c
  exact I.base.free b o f (I.ok.frf b c) fun z=>I.ok.exfs b z c
theorem Za.step{g':Array GenState}{t':Nat}{d':Drawn}{ch:OG}(I:Za X pins σ H s)
  (E:∀b∈ch,(b∈X.ex\/X.s₀.heap.objs.size<=b)/\b≠X.env.locals/\(∀x c,X.env.cells.lookup x=some c->c≠b)/\∀p∈X.pn++pins,p.1≠b)
  (keep:∀b o,b≠X.env.locals->b∉X.fs->b∉ch->s.heap.get? b=some o->H b=none->h'.get? b=some o)
  (slot:∀b o,b≠X.env.locals->b∈X.fs->b∉ch->s.heap.get? b=some o->H b=none->∃L,h'.get? b=some { o with slots:=L }) (free:∀b o,b∉ch->s.heap.get? b=some o->H b=none->H' b=none)
  (there:∀b o,b∉ch->s.heap.get? b=some o->∃D,h'.get? b=some D)
  (tups:∀b h,H b=some (.tup h)->H' b=some (.tup h)) (frzs:∀b o u,H b=some (.frz o u)->H' b=some (.frz o u)) (tbls:∀b G,H b=some (.tbl G)->∃more,H' b=some (.tbl (G++more)))
  (ns:∀m,s.heap.Ns X.env.locals m->h'.Ns X.env.locals m) (hok:Yi X.prog X.w H' h') (S:AllBare g') :
  Za X pins σ H' { s with heap:=h',gens:=g',drawn:=d',toks:=t' }:=by
 have M:∀b o,X.s₀.heap.get? b=some o->b≠X.env.locals:=fun b o e=>Sf (Si (Se e) I.ok.above);have J:∀b o,X.s₀.heap.get? b=some o->b∉X.ex->b∉ch:=fun b o e f j=>by
  rcases(E b j).1 with z|z
  ·exact f z
  ·exact Oq (Si (Se e) z) (Sl _)
 have cellK:∀x c,X.env.cells.lookup x=some c->∀v,s.heap.IsCell c v->h'.IsCell c v:=fun x c e v ⟨o,y,hd⟩=>by
  have B:c∉ch:=fun z=>(E c z).2.2.1 x c e R;by_cases O:c∈X.fs
  ·obtain⟨L,q⟩:=slot c o (I.cne x c e) O B y (I.freeC x c e)
   exact⟨_,q,hd⟩
  ·exact⟨o,keep c o (I.cne x c e) O B y (I.freeC x c e),hd⟩
 refine⟨I.ok,I.os,S,⟨fun b o e n j f=>?_,fun b o e n j f=>?_,fun b o e n f=>?_,fun b o e f=>?_,fun b h e=>tups b h (I.base.tups b h e),fun b o h e=>frzs b o h (I.base.frzs b o h e),fun b G e=>?_⟩,?_,fun x c e=>?_,?_,fun x c e=>?_,fun p P=>?_,hok,I.len⟩
 ·exact keep b o (M b o e) j (J b o e f) (I.base.keep b o e n j f) (I.base.free b o e n f)
 ·obtain⟨L,g⟩:=I.base.slot b o e n j f
  obtain⟨U,C⟩:=slot b _ (M b o e) j (J b o e f) g (I.base.free b o e n f);exact⟨U,C⟩
 ·obtain⟨D,g⟩:=I.base.there b o e f
  exact free b D (J b o e f) g (I.base.free b o e n f)
 ·obtain⟨D,g⟩:=I.base.there b o e f
  exact there b D (J b o e f) g
 ·obtain⟨T,g⟩:=I.base.tbls b G e
  obtain⟨Q,C⟩:=tbls b _ g;exact⟨T++Q,by rw[C,Array.append_assoc]⟩
 ·obtain⟨m,hn,Y⟩:=I.loc
  refine⟨m,ns m hn,fun i x v g C Z=>?_⟩;obtain⟨u,r,l⟩:=Y i x v g C Z;refine⟨u,r,?_⟩;rcases l with l|⟨k,c,e,z⟩
  ·exact .inl l
  ·exact .inr ⟨k,c,e,cellK x c e _ z⟩
 ·obtain⟨v,z⟩:=I.cell x c e
  exact⟨v,cellK x c e v z⟩
 ·obtain⟨m,⟨o,_,_,y,_⟩,_⟩:=I.loc
  exact free _ o (fun z=>(E _ z).2.1 R) y I.free
 ·obtain⟨v,o,y,hd⟩:=I.cell x c e
  exact free c o (fun z=>(E c z).2.2.1 x c e R) y (I.freeC x c e)
 ·obtain⟨e,n,ne,nf,d⟩:=I.pin p P
  have B:p.1∉ch:=fun z=>(E p.1 z).2.2.2 p P R;exact⟨keep p.1 p.2 ne nf B e n,free p.1 p.2 B e n,ne,nf,d⟩
theorem Za.un{t':Nat}(I:Za X pins σ H s)(u:Un X.fs [] H H' s.heap h')(hok:Yi X.prog X.w H' h'):Za X pins σ H' { s with heap:=h',toks:=t' }:=by
 obtain⟨m,⟨o,C,y,f,r⟩,_⟩:=id I.loc;obtain⟨x,h⟩:=u.any f I.free (by simp);exact I.step (g':=s.gens) (d':=s.drawn) (ch:=[]) (fun _ z=>nomatch z) (fun b o _ c _ e n=>u.keep b o e n c (by simp)) (fun b o _ c _ e n=>u.slot b o e n c (by simp)) (fun b o _ e n=>u.free b o e n (by simp)) (fun b o _ e=>u.there b o e (by simp)) u.tups u.frzs u.tbls (fun B hm=>by
  obtain⟨v,j,i,g,q⟩:=hm;rw[f]at g;cases g;exact⟨_,j,i,h,q⟩) hok I.bare
theorem Za.call{g':Array GenState}{t':Nat}{d':Drawn}{ch:OG}(I:Za X pins σ H s)(u:Un (Yl X.stack) ch H H' s.heap h')(hok:Yi X.prog X.w H' h')(C:AllBare g')
  (i:∀b∈ch,(b∈X.ex\/X.s₀.heap.objs.size<=b)/\b≠X.env.locals/\(∀x c,X.env.cells.lookup x=some c->c≠b)/\∀p∈X.pn++pins,p.1≠b) :
  Za X pins σ H' { s with heap:=h',gens:=g',drawn:=d',toks:=t' }:=by
 obtain⟨m,⟨o,L,G,h,r⟩,_⟩:=id I.loc;obtain⟨E,g⟩:=u.any h I.free fun z=>(i _ z).2.1 R;exact I.step (ch:=ch) i (fun b o g q f e n=>u.keep b o e n (fun z=>(SF.mp (I.stkSub b z)).elim g q) f) (fun b o _ _ f e n=>u.any e n f) (fun b o f e n=>u.free b o e n f) (fun b o f e=>u.there b o e f) u.tups u.frzs u.tbls (fun J hm=>by
  obtain⟨D,y,v,j,B⟩:=hm;rw[h]at j;cases j;exact⟨_,y,v,g,B⟩) hok C
theorem Za.turned{t':Nat}{f:Addr}(I:Za X pins σ H s)(k:∀b o,b≠f->s.heap.get? b=some o->h'.get? b=some o)(hn:H f=none)(h:f≠X.env.locals)
  (h1:f∈X.ex\/X.s₀.heap.objs.size<=f) (B:∀x c,X.env.cells.lookup x=some c->c≠f) (C:∀p∈X.pn++pins,p.1≠f):Za X pins σ H { s with heap:=h',toks:=t' }:=by
 have i:∀b u,H b=some u->b≠f:=fun b u e z=>by rw[z,hn]at e;cases e
 refine I.step (g':=s.gens) (d':=s.drawn) (ch:=[f]) (fun b y=>?_) (fun b o _ _ g e _=>k b o (fun z=>g (by simp[z])) e) (fun b o _ _ g e _=>⟨o.slots,k b o (fun z=>g (by simp[z])) e⟩) (fun _ _ _ _ n=>n)
  (fun b o g e=>⟨o,k b o (fun z=>g (by simp[z])) e⟩) (fun _ _ e=>e) (fun _ _ _ e=>e) (fun b G e=>⟨#[],by rw[e];simp⟩) (fun m hm=>?_) (fun b u e=>?_) I.bare
 ·have e:b=f:=by simpa using y
  subst e;exact⟨h1,h,B,C⟩
 ·obtain⟨o,E,D,j,r⟩:=hm
  exact⟨o,E,D,k _ o (Ne.symm h) j,r⟩
 ·refine(I.hok b u e).stay (fun c v g q=>k c v ?_ q) (fun _ q=>q) fun _ _ q=>q
  rcases g with z|z
  ·rw[z];exact i b u e
  ·exact i c _ z
theorem Za.tok(I:Za X pins σ H s)(t:Nat):Za X pins σ H { s with toks:=t }:=I.un (h':=s.heap) (t':=t) Un.refl I.hok
theorem Za.kept(I:Za X pins σ H s)(k:∀b u,s.heap.get? b=some u->h'.get? b=some u):Za X pins σ H { s with heap:=h',toks:=t' }:=I.un (Un.kept k) (I.hok.kept k)
theorem Za.laid(I:Za X pins σ H s)(k:∀b u,s.heap.get? b=some u->h'.get? b=some u)(c:s.heap.objs.size<=a)(new:Yf X.prog X.w (upd H a o) h' a o) :
  Za X pins σ (upd H a o) { s with heap:=h',toks:=t' }:=I.un (Un.laid k c (I.hok.fresh c)) (I.hok.laid k c new)
theorem Za.write(I:Za X pins σ H s)(f:C7 (H x))(g:e=x\/H e=some (.own x))(k:∀b u,b≠e->s.heap.get? b=some u->h'.get? b=some u)(c:∃u,h'.get? e=some u)
  (new:Yf X.prog X.w (upd H x o) h' x o):Za X pins σ (upd H x o) { s with heap:=h',toks:=t' }:=I.un (Un.write f g k c) (I.hok.write f g k c new)
theorem Za.weak{c:List (Option V)}(I:Za X pins σ H s)(e:c.length=σ.length)(w:∀(i:Nat) v,c[i]? = some (some v)->σ[i]? = some (some v)):Za X pins c H s :=
 ⟨I.ok,I.os,I.bare,I.base,let ⟨m,hn,hl'⟩:=I.loc;⟨m,hn,fun i x v g f h=>hl' i x v g (w i v f) h⟩,I.cell,I.free,I.freeC,I.pin,I.hok,e.trans I.len⟩
theorem Za.pins_of(I:Za X pins σ H s)(h:∀p∈pins',s.heap.get? p.1=some p.2/\H p.1=none/\p.1≠X.env.locals/\p.1∉X.fs/\∀v,p.2.data≠.cell v):Za X pins' σ H s :=
 ⟨I.ok,I.os,I.bare,I.base,I.loc,I.cell,I.free,I.freeC,fun p c=>(SG.mp c).elim (fun z=>I.pin p (SI _ z)) (h p),I.hok,I.len⟩
theorem LL{N:OB}(c:N.Nodup){i j:Nat}{x:Str}(a:N[i]? = some x)(b:N[j]? = some x):i=j:=by
 obtain⟨g,f⟩:=Sr.mp a;obtain⟨h,e⟩:=Sr.mp b;exact(List.getElem_inj c).mp (f.trans e.symm)
theorem T1{M:Model}{A:Around}{E:Ot}{i:Nat}{x:Str}{v:V}{u:Value}{Q:Oz}(I:Za X pins σ H s)(hN:X.N.Nodup)(hi:X.N[i]? = some x)(C:Qm X.env.scope x)(r:ZD v u)
  (h:∀s',Za X pins (σ.set i (some v)) H s'->(∃a,Heap.SameBut a s.heap s'.heap/\(a=X.env.locals\/X.env.cells.lookup x=some a))->Q () s') (hf:X.fn x=true\/X.env.scope.names.lookup x=some .local:=by first|exact .inl rfl|exact .inr rfl|assumption):wpAny M A (storeName X.env x u) Q E s:=by
 obtain⟨m,hn,hl⟩:=id I.loc;have i0:(X.env.scope.kind == .class || (X.env.scope.kind == .module && X.env.locals != X.env.globals))=false:=by rw[I.ok.kind];rfl
 have d0:i<σ.length:=by rw[I.len];exact(Sr.mp hi).1
 have cne:=I.cne;have tracked:∀{a:Addr} {h':Heap},(∃o,s.heap.get? a=some o/\H a=none)->Heap.SameBut a s.heap h'->Yi X.prog X.w H h':=fun{a h'} ha f b ob e=>by
  obtain⟨_,_,f0⟩:=ha;refine(I.hok b ob e).stay (fun c O B q=>(f.2 c ?_).trans q) (fun _ q=>q) fun _ _ q=>q;rintro rfl;rcases B with rfl|B
  ·rw[f0]at e;cases e
  ·rw[f0]at B;cases B
 rcases C with G|G
 ·refine wpAny_storeName_local G hn (fun h' g0 f=>?_) i0
  obtain⟨oL,_,_,j0,_⟩:=id hn;refine h _ ⟨I.ok,I.os,I.bare,⟨fun b o e n J C=>?_,fun b o e n J C=>?_,I.base.free,fun b o e C=>?_,I.base.tups,I.base.frzs,I.base.tbls⟩,⟨_,g0,fun j y v' g D e3=>?_⟩,fun y c e=>?_,I.free,I.freeC,fun p Y=>?_,tracked ⟨oL,j0,I.free⟩ f,by simpa using I.len⟩ ⟨_,f,.inl R⟩
  ·exact(f.2 b (Sf (Si (Se e) I.ok.above))).trans (I.base.keep b o e n J C)
  ·obtain⟨T,g⟩:=I.base.slot b o e n J C
   exact⟨T,(f.2 b (Sf (Si (Se e) I.ok.above))).trans g⟩
  ·obtain⟨U,g⟩:=I.base.there b o e C
   exact⟨U,(f.2 b (Sf (Si (Se e) I.ok.above))).trans g⟩
  ·by_cases L:j=i
   ·subst L
    rw[hi]at g;cases g;rw[List.getElem?_set_self d0]at D;cases D;exact⟨u,r,.inl ⟨G,by simp⟩⟩
   ·rw[List.getElem?_set_ne (Ne.symm L)]at D
    obtain⟨S,Z,q⟩:=hl j y v' g D e3;refine⟨S,Z,?_⟩;rcases q with⟨k,e⟩|⟨k,c,e,z⟩
    ·refine .inl ⟨k,?_⟩
     have:y≠x:=fun e=>L (LL hN g (e ▸ hi));simp[this,e]
    ·exact .inr ⟨k,c,e,z.sameBut f (cne y c e)⟩
  ·obtain⟨O,z⟩:=I.cell y c e
   exact⟨O,z.sameBut f (cne y c e)⟩
  ·obtain⟨e,n,ne,nf,d⟩:=I.pin p Y
   exact⟨(f.2 p.1 ne).trans e,n,ne,nf,d⟩
 ·have a0:X.fn x=true:=by
   rcases hf with z|z
   ·exact z
   ·rw[z]at G;cases G
  obtain⟨c,B⟩:=I.ok.has x (.inl G);obtain⟨O,z⟩:=I.cell x c B;refine wpAny_storeName_cell I.ok.kind G B z (fun h' c0 f=>?_);obtain⟨oc,b0,h0⟩:=id z;refine h { s with heap:=h' } ⟨I.ok,I.os,I.bare,⟨fun b o e n J C=>?_,fun b o e n J C=>?_,I.base.free,fun b o e C=>?_,I.base.tups,I.base.frzs,I.base.tbls⟩,⟨m,hn.sameBut f (Ne.symm (cne x c B)),fun j y v' g D e3=>?_⟩,fun y P e=>?_,I.free,I.freeC,fun p Y=>?_,tracked ⟨oc,b0,I.freeC x c B⟩ f,by simpa using I.len⟩ ⟨c,f,.inr B⟩
  ·exact(f.2 b (Sf (Si (Se e) (I.ok.cab x c a0 B)))).trans (I.base.keep b o e n J C)
  ·obtain⟨T,g⟩:=I.base.slot b o e n J C
   exact⟨T,(f.2 b (Sf (Si (Se e) (I.ok.cab x c a0 B)))).trans g⟩
  ·obtain⟨U,g⟩:=I.base.there b o e C
   exact⟨U,(f.2 b (Sf (Si (Se e) (I.ok.cab x c a0 B)))).trans g⟩
  ·by_cases L:j=i
   ·subst L
    rw[hi]at g;cases g;rw[List.getElem?_set_self d0]at D;cases D;exact⟨u,r,.inr ⟨.inl G,c,B,c0⟩⟩
   ·rw[List.getElem?_set_ne (Ne.symm L)]at D
    obtain⟨S,Z,q⟩:=hl j y v' g D e3;refine⟨S,Z,?_⟩;rcases q with q|⟨k,P,e,z'⟩
    ·exact .inl q
    ·refine .inr ⟨k,P,e,z'.sameBut f ?_⟩
     rintro rfl;exact L (LL hN g (I.ok.inj _ _ _ e B ▸ hi))
  ·by_cases e0:P=c
   ·subst e0;exact⟨_,c0⟩
   ·obtain⟨w2,z2⟩:=I.cell y P e
    exact⟨w2,z2.sameBut f e0⟩
  ·obtain⟨e,n,ne,nf,d⟩:=I.pin p Y
   refine⟨(f.2 p.1 ?_).trans e,n,ne,nf,d⟩;intro q;rw[q,b0]at e;have q':oc=p.2:=So e;exact d O (by rw[<-q'];exact h0)
theorem C9(I:Za X pins σ H s)(c:X.N.Nodup)(hi:X.N[i]? = some x)(g:Qm X.env.scope x)(r:ZD v u)
  (h:∀s',Za X pins (σ.set i (some v)) H s'->Q () s') (f:X.fn x=true\/X.env.scope.names.lookup x=some .local:=by first|exact .inl rfl|exact .inr rfl|assumption):wpAny M A (storeName X.env x u) Q E s :=
 T1 I c hi g r (fun s' e _=>h s' e) f
theorem Za.call'{s':Shared}(I:Za X pins σ H s)(f:s'.os=s.os)(u:Un (Yl X.stack) ch H H' s.heap s'.heap)(hok:Yi X.prog X.w H' s'.heap)(i:AllBare s'.gens)
  (g:∀b∈ch,(b∈X.ex\/X.s₀.heap.objs.size<=b)/\b≠X.env.locals/\(∀x c,X.env.cells.lookup x=some c->c≠b)/\∀p∈X.pn++pins,p.1≠b):Za X pins σ H' s':=by
 obtain⟨h',g',d',t',h⟩:=s';have e:h=s.os:=f;subst e;exact I.call (g':=g') (t':=t') (d':=d') u hok i g
end
abbrev XK:=Value->Option Addr->Hp->Prop
abbrev St:=List (Option V)
abbrev VK:=V->Hp->Prop
abbrev TE:=St->Hp->VK->Prop
abbrev TT:=St->Hp->(Bool->Hp->Prop)->Prop
abbrev TA:=St->Hp->(List V->Hp->Prop)->Prop
structure Wr where
 nx:St->Hp->Prop
 rt:VK
 bk:St->Hp->Prop:=fun _ _=>False
 ct:St->Hp->Prop:=fun _ _=>False
abbrev TS:=Wr->St->Hp->Prop
inductive EP(X:Cx)(pins:Ou)(σ:St)(Q:VK)(u:Value)(s':Shared):Prop|mk v H' (_:Za X pins σ H' s') (_:ZD v u) (_:Q v H')
inductive TP(X:Cx)(pins:Ou)(σ:St)(Q:Bool->Hp->Prop)(b:Bool)(s':Shared):Prop|mk H' (_:Za X pins σ H' s') (_:Q b H')
inductive AP(X:Cx)(pins:Ou)(σ:St)(Q:List V->Hp->Prop)(us:OA)(s':Shared):Prop|mk vs H' (_:Za X pins σ H' s') (_:Zx vs us) (_:Q vs H')
def SP(X:Cx)(pins:Ou)(D:Wr)(f:Flow)(s':Shared):Prop :=
 match f with
 |.next=>∃e c,Za X pins e c s'/\D.nx e c
 |.brk=>∃e c,Za X pins e c s'/\D.bk e c
 |.cont=>∃e c,Za X pins e c s'/\D.ct e c
 |.ret u=>∃v e c,Za X pins e c s'/\ZD v u/\D.rt v c
def PE(X:Cx)(e:Expr)(t:TE):Prop :=
 ∀(pins:Ou) (s:Shared) (σ:St) (H:Hp) (Q:VK),Za X pins σ H s->t σ H Q->wpAny (model X.prog X.w) X.A (eval e X.env) (EP X pins σ Q) X.xe s
def PT(X:Cx)(e:Expr)(t:TT):Prop :=
 ∀(pins:Ou) (s:Shared) (σ:St) (H:Hp) (Q:Bool->Hp->Prop),Za X pins σ H s->t σ H Q->wpAny (model X.prog X.w) X.A (isTrue e X.env (eval e X.env)) (TP X pins σ Q) X.xe s
def PW(X:Cx)(e:Expr)(t:TT):Prop :=
 ∀(whole:Sem Value) (pins:Ou) (s:Shared) (σ:St) (H:Hp) (Q:Bool->Hp->Prop),Za X pins σ H s->t σ H Q->wpAny (model X.prog X.w) X.A (isTrue e X.env whole) (TP X pins σ Q) X.xe s
theorem PW.pt(h:PW X e t):PT X e t:=h _
def PA(X:Cx)(c:OC)(t:TA):Prop :=
 ∀(e:Pos) (pins:Ou) (s:Shared) (σ:St) (H:Hp) (Q:List V->Hp->Prop),Za X pins σ H s->t σ H Q->wpAny (model X.prog X.w) X.A (spliced (backTo e (starEach c X.env))) (AP X pins σ Q) X.xe s
def PS(X:Cx)(st:Stmt)(t:TS):Prop :=
 ∀(pins:Ou) (s:Shared) (σ:St) (H:Hp) (D:Wr),Za X pins σ H s->t D σ H->wpAny (model X.prog X.w) X.A (exec st X.env) (SP X pins D) X.xe s
def XF(X:Cx)(st:List Stmt)(t:TS):Prop :=
 ∀(pins:Ou) (s:Shared) (σ:St) (H:Hp) (D:Wr),Za X pins σ H s->t D σ H->wpAny (model X.prog X.w) X.A (execs st X.env) (SP X pins D) X.xe s
theorem Zq{c:Type}{t:Sem c}{Q e:c->Shared->Prop}{M:Model}{A:Around}{E:Ot}{s:Shared}(h:wpAny M A t Q E s)(f:∀a s,Q a s->e a s):wpAny M A t e E s:=Op h f fun _ _ x=>x
end L2
variable{pins:List (PySem.Addr×PySem.Obj)}{K:PySem.W.Frag}{s:PySem.Shared}{X:L2.Cx}{E:PySem.Value->PySem.Shared->Prop}{A:PySem.Around}{w:PySem.World}{H:L2.Hp}{mg:PySem.Str->Option PySem.Value}{scope:PySem.Scope}{prog:PySem.Program}{P:PySem.Program}{pos:PySem.Pos}{base:PySem.Heap}
namespace L2
open PySem PySem.Spec PyProof.Rows
section
inductive UW(i:Nat)(σ:St)(H:Hp)(Q:VK):Prop|mk v (_:σ[i]? = some (some v)) (_:Q v H)
def tC(v:V):TE:=fun _ H Q=>Q v H
theorem T4(q:X.N[i]? = some x)(D:C8 X.env.scope x)(hd:(x == ("__debug__" : Str))=false:=by lia) (C:(x == ("__classdict__" : Str))=false:=by lia):PE X (.Name x pos) (UW i):=by
 intro pins s B H Q I h;obtain⟨v,e,h⟩:=h;obtain⟨m,hn,y⟩:=I.loc;obtain⟨u,r,l⟩:=y i x v q e D;have g:EP X pins B Q u s:=⟨v,H,I,r,h⟩;rcases l with⟨f,hm⟩|⟨f,c,j,n⟩
 ·exact wpAny_Name (wpAny_loadName_local I.ok.kind f hn hm g) hd
 ·rcases f with f|f
  ·exact wpAny_Name (wpAny_loadName_cell I.ok.kind f j n g) hd
  ·exact wpAny_Name (wpAny_loadName_free I.ok.kind f j n g C) hd
theorem Zb{i j pos}:PE X (.Constant (.int i) j pos) (tC (.int i)):=fun _ _ _ H _ I h=>wpAny_Constant_int ⟨.int i,H,I.tok _,⟨_,R⟩,h⟩
theorem WS{b j pos}:PE X (.Constant (.bool b) j pos) (tC (.bl b)):=fun _ _ _ H _ I h=>Constant_bool ⟨.bl b,H,I,R,h⟩
theorem Ue{j pos}:PE X (.Constant .none j pos) (tC .non):=fun _ _ _ H _ I h=>Constant_none ⟨.non,H,I,R,h⟩
theorem ZJ{x j pos}:PE X (.Constant (.str x) j pos) (tC (.str x)):=fun _ _ _ H _ I h=>Calls.Constant_str ⟨.str x,H,I.tok _,⟨_,R⟩,h⟩
def Gl(X:Cx)(x:Str):Prop:=X.env.kindOf x=some .globalImplicit
theorem Ut(I:Za X pins c H s)(e:Gl X x)(hm:X.mg x=some u)(h:Q u s)
  (hd:(x == ("__debug__" : Str))=false:=by lia):wpAny (model X.prog X.w) X.A (eval (.Name x pos) X.env) Q E s :=
 Calls.Name_function_global I.ok.kind e (Calls.loadGlobal_global (by rw[I.ok.glob];exact I.mod.glob.keeps I.bk) hm h) hd
theorem Uu(I:Za X pins c H s)(i:Gl X x)(hm:X.mg x=none)(g:bootBuiltins x=some u)(h:Q u s)
  (hn:x ≠ "__name__" := by lia) (hd:(x == ("__debug__" : Str))=false:=by lia):wpAny (model X.prog X.w) X.A (eval (.Name x pos) X.env) Q E s:=by
 obtain⟨j,e,f⟩:=I.mod.blt;exact Calls.Name_function_global I.ok.kind i (Calls.loadGlobal_builtin (by rw[I.ok.glob];exact I.mod.glob.keeps I.bk) hm (by rw[I.ok.blt];exact e.keeps I.bk) ((f x hn).trans g) h) hd
theorem T5(c:Gl X x)(hm:X.mg x=some u)(r:ZD v u)(hd:(x == ("__debug__" : Str))=false:=by lia):PE X (.Name x pos) (tC v) :=
 fun _ _ _ H _ I h=>Ut I c hm ⟨v,H,I,r,h⟩ hd
theorem Zct(e:Gl X x)(hm:X.mg x=none)(c:bootBuiltins x=some u)(r:ZD v u)(hn:x ≠ "__name__" := by lia) (hd:(x == ("__debug__" : Str))=false:=by lia):PE X (.Name x pos) (tC v) :=
 fun _ _ _ H _ I h=>Uu I e hm c ⟨v,H,I,r,h⟩ hn hd
variable{a b:Expr}{ta tb:TE}
def PC(X:Cx)(c:CmpOp)(a b:Expr)(t:TE):Prop :=
 ∀(pins:Ou) (s:Shared) (σ:St) (H:Hp) (Q:VK),Za X pins σ H s->t σ H Q ->
  wpAny (model X.prog X.w) X.A (eval a X.env) (fun v e=>wpAny (model X.prog X.w) X.A (eval b X.env) (fun u f=>wpAny (model X.prog X.w) X.A (compareOp c v u) (EP X pins σ Q) X.xe f) X.xe e) X.xe s
theorem T6(b:Expr)(h:c≠.In)(e:c≠.NotIn):behindInMarks c b=false:=by
 have g:(c == CmpOp.In)=false:=by cases c<;>first|rfl|exact Oq R h
 have f:(c == CmpOp.NotIn)=false:=by cases c<;>first|rfl|exact Oq R e
 cases b<;>simp[behindInMarks,g,f]
def Zcu(ta:TE):TE:=fun c H Q=>ta c H fun x e=>Q (.bl (decide (x=.non))) e
def Zcv(ta:TE):TE:=fun c H Q=>ta c H fun x e=>Q (.bl (!decide (x=.non))) e
theorem ZD.none_iff(r:ZD x v):(v == Value.none)=decide (x=.non):=by
 cases x with
 |non=>cases r;rfl
 |bl _=>cases r;rfl
 |int _=>obtain⟨t,rfl⟩:=r;rfl
 |str _=>obtain⟨t,rfl⟩:=r;rfl
 |byt _=>obtain⟨t,rfl⟩:=r;rfl
 |flt _=>obtain⟨t,rfl⟩:=r;rfl
 |ref _=>cases r;rfl
 |ty _=>cases r;rfl
theorem LM{j pos'}(ha:PE X a ta):PC X .Is a (.Constant .none j pos') (Zcu ta):=by
 intro pins s c H Q I h;refine Zq (ha pins s c H _ I h) fun v i ⟨x,f,g,r1,e⟩=>?_;exact Constant_none (is_none_gen ⟨.bl _,f,g,by rw[r1.none_iff];rfl,e⟩)
theorem T7{j pos'}(ha:PE X a ta):PC X .IsNot a (.Constant .none j pos') (Zcv ta):=by
 intro pins s c H Q I h;refine Zq (ha pins s c H _ I h) fun v i ⟨x,f,g,r1,e⟩=>?_;exact Constant_none (isnot_none_gen ⟨.bl _,f,g,by rw[r1.none_iff];rfl,e⟩)
inductive Zcw(Q:Bool->Hp->Prop)(x:V)(H1:Hp):Prop|mk c (_:x=.bl c) (_:Q c H1)
def tB(t:TE):TT:=fun c H Q=>t c H fun x e=>Zcw Q x e
theorem Zcx(h:PC X c a b t)(h1:behindInMarks c b=false:=by first|exact T6 _ (by lia) (by lia)|rfl):PE X (.Compare a [c] [b] pos) t:=fun pins s e H Q I f=>wpAny_Compare1 (h pins s e H Q I f) h1
theorem UX(h:PC X e a b t)(h1:behindInMarks e b=false:=by first|exact T6 _ (by lia) (by lia)|rfl):PT X (.Compare a [e] [b] pos) (tB t):=by
 intro pins s f H Q I y;refine wpAny_isTrue_Compare1 (Zq (h pins s f H _ I y) fun v B h1=>Zq h1 fun u s2 i=>Zq i fun c C ⟨x,j,n,r1,g⟩=>?_) h1;obtain⟨d,rfl,q⟩:=g;cases r1;exact wpAny_truthy_bool ⟨j,n,q⟩
theorem YD{e:Expr}(h:PE X e t)(n:∀whole,isTrue e X.env whole=(do let v <-whole;standAt e.pos;holding [v] (truthy v)):=by intro _;rfl):PT X e (tB t):=by
 intro pins s c H Q I j;refine isTrue_plain (Zq (h pins s c H _ I j) fun v u ⟨x,g,i,r1,f⟩=>?_) (n _);obtain⟨d,rfl,q⟩:=f;cases r1;exact wpAny_truthy_bool ⟨g,i,q⟩
variable{tA tB':TT}{rest:OC}
def Zcy(t u:TT):TT:=fun e H Q=>t e H fun c f=>if c=true then u e f Q else Q false f
def tOr(t u:TT):TT:=fun e H Q=>t e H fun c f=>if c=true then Q true f else u e f Q
def Zcz(t:TT):TT:=fun e H Q=>t e H fun c f=>Q (!c) f
theorem LN(ha:PT X a tA):PW X (.BoolOp .And [a] pos) tA:=by
 intro i pins s f H Q I h;refine isTrue_and (Zq (ha pins s f H Q I h) fun c g e=>?_);cases c with
 |true=>exact isTrue_and_nil e
 |false=>exact e
theorem UY(ha:PT X a tA):PW X (.BoolOp .Or [a] pos) tA:=by
 intro i pins s f H Q I h;refine isTrue_or (Zq (ha pins s f H Q I h) fun c g e=>?_);cases c with
 |false=>exact isTrue_or_nil e
 |true=>exact e
theorem LO(ha:PT X a tA)(n:PW X (.BoolOp .And (b::rest) pos) tB'):PW X (.BoolOp .And (a::b::rest) pos) (Zcy tA tB'):=by
 intro q pins s e H Q I h;refine isTrue_and (Zq (ha pins s e H _ I h) fun c j ⟨g,i,f⟩=>?_);cases c with
 |true=>exact n q pins j e g Q i f
 |false=>exact⟨g,i,f⟩
theorem Uv(ha:PT X a tA)(n:PW X (.BoolOp .Or (b::rest) pos) tB'):PW X (.BoolOp .Or (a::b::rest) pos) (tOr tA tB'):=by
 intro q pins s e H Q I h;refine isTrue_or (Zq (ha pins s e H _ I h) fun c j ⟨g,i,f⟩=>?_);cases c with
 |true=>exact⟨g,i,f⟩
 |false=>exact n q pins j e g Q i f
theorem YE(ha:PT X a tA):PT X (.UnaryOp .Not a pos) (Zcz tA):=by
 intro pins s e H Q I h;exact isTrue_not (Zq (ha pins s e H (fun c f=>Q (!c) f) I h) fun _ _ ⟨a,b,c⟩=>⟨a,b,c⟩)
inductive ZcA(tb:TE)(σ:St)(Q:VK)(x:V)(H1:Hp):Prop|mk c (_:x=.bl c) (_:if c=true then tb σ H1 Q else Q (.bl false) H1)
def ZcB(ta tb:TE):TE:=fun c H Q=>ta c H fun x e=>ZcA tb c Q x e
inductive ZcC(tb:TE)(σ:St)(Q:VK)(x:V)(H1:Hp):Prop|mk c (_:x=.bl c) (_:if c=true then Q (.bl true) H1 else tb σ H1 Q)
def ZcD(ta tb:TE):TE:=fun c H Q=>ta c H fun x e=>ZcC tb c Q x e
inductive ZcE(Q:VK)(x:V)(H1:Hp):Prop|mk c (_:x=.bl c) (_:Q (.bl (!c)) H1)
def T9(ta:TE):TE:=fun c H Q=>ta c H fun x e=>ZcE Q x e
theorem Vb{op}(h:PE X a t):PE X (.BoolOp op [a] pos) t:=fun pins s c H Q I e=>BoolOp_one (h pins s c H Q I e)
theorem Uw(ha:PE X a ta)(n:PE X (.BoolOp .And (b::rest) pos) tb):PE X (.BoolOp .And (a::b::rest) pos) (ZcB ta tb):=by
 intro pins s f H Q I h;refine BoolOp_and (Zq (ha pins s f H _ I h) fun v j ⟨x,g,i,r1,e⟩=>?_);obtain⟨c,rfl,e⟩:=e;cases r1;refine wpAny_truthy_bool ?_;cases c with
 |true=>exact n pins j f g Q i e
 |false=>exact⟨.bl false,g,i,R,e⟩
theorem zA(ha:PE X a ta)(n:PE X (.BoolOp .Or (b::rest) pos) tb):PE X (.BoolOp .Or (a::b::rest) pos) (ZcD ta tb):=by
 intro pins s f H Q I h;refine BoolOp_or (Zq (ha pins s f H _ I h) fun v j ⟨x,g,i,r1,e⟩=>?_);obtain⟨c,rfl,e⟩:=e;cases r1;refine wpAny_truthy_bool ?_;cases c with
 |false=>exact n pins j f g Q i e
 |true=>exact⟨.bl true,g,i,R,e⟩
theorem zB(ha:PE X a ta):PE X (.UnaryOp .Not a pos) (T9 ta):=by
 intro pins s f H Q I h;refine UnaryOp_ (Zq (ha pins s f H _ I h) fun v j ⟨x,g,i,r1,e⟩=>?_);obtain⟨c,rfl,e⟩:=e;cases r1;exact not_of (wpAny_truthy_bool ⟨.bl (!c),g,i,R,e⟩)
def tIf(t:TT)(ta tb:TE):TE:=fun e H Q=>t e H fun c f=>if c=true then ta e f Q else tb e f Q
theorem QP(q:PT X c tA)(ha:PE X a ta)(n:PE X b tb):PE X (.IfExp c a b pos) (tIf tA ta tb):=by
 intro pins s e H Q I h;refine wpAny_IfExp (Zq (q pins s e H _ I h) fun d g ⟨i,j,f⟩=>?_);cases d with
 |true=>exact ha pins g e i Q j f
 |false=>exact n pins g e i Q j f
end
def Zf(K:Ow)(H:Hp)(a:Addr)(xs:List V):Prop :=
 Rd H a (.lst xs) \/
  ∃(o:Obj) (its:Array Value) (n:Nat),K.lookup a=some o/\o.cls=.type "list" /\ o.dict=none/\o.data=.seq its n/\its.size<=sizeLine/\Zx xs its.toList
def Zj(K:Ow)(H:Hp)(a:Addr)(xs:List V):Prop :=
 Rd H a (.tup xs) \/
  ∃(o:Obj) (its:Array Value) (n:Nat),K.lookup a=some o/\o.cls=.type "tuple" /\ o.data=.seq its n/\its.size<=sizeLine/\Zx xs its.toList
def ZcF:Value->Option V
 |.none=>some .non
 |.bool b=>some (.bl b)
 |.int i _=>some (.int i)
 |.str x _=>some (.str x)
 |.bytes b _=>some (.byt b)
 |.float b _=>some (.flt b)
 |.ref a=>some (.ref a)
 |.type n=>some (.ty n)
 |_=>none
theorem ZD.abs(r:ZD x u):ZcF u=some x:=by
 cases x with
 |non=>cases r;rfl
 |bl _=>cases r;rfl
 |int _=>obtain⟨t,rfl⟩:=r;rfl
 |str _=>obtain⟨t,rfl⟩:=r;rfl
 |byt _=>obtain⟨t,rfl⟩:=r;rfl
 |flt _=>obtain⟨t,rfl⟩:=r;rfl
 |ref _=>cases r;rfl
 |ty _=>cases r;rfl
theorem ZD.inj(r:ZD x u)(q:ZD y u):x=y:=So (r.abs.symm.trans q.abs)
theorem Zx.inj:∀{xs ys:List V} {us:OA},Zx xs us->Zx ys us->xs=ys
 |_,_,_,.nil,.nil=>rfl
 |_,_,_,.cons r t,.cons c t'=>by rw[r.inj c,Zx.inj t t']
section
variable{σ:St}{a:Addr}{xs ys:List V}
theorem Zf.of(h:H a=some (.lst xs)):Zf K H a xs:=.inl (.inl h)
theorem Zj.of(h:H a=some (.tup xs)):Zj K H a xs:=.inl (.inl h)
theorem Za.list(I:Za X pins σ H s)(h:Zf X.K H a xs):∃its:List Value,Zx xs its/\PlainL s.heap a its.toArray/\xs.length<=sizeLine:=by
 rcases h with h|⟨o,its,n,f,g,hd,c,i,r⟩
 ·obtain⟨z,its,n,r,e⟩:=h.ok I.hok
  exact⟨its,r,⟨_,n,e,R,R,R⟩,z⟩
 ·refine⟨its.toList,r,⟨o,n,I.kIn a o f,g,hd,by simpa using c⟩,?_⟩
  have e:=r.length;simp only[Array.length_toList]at e;lia
theorem Za.tuple(I:Za X pins σ H s)(h:Zj X.K H a xs):∃its:List Value,Zx xs its/\IsTup s.heap a its.toArray/\xs.length<=sizeLine:=by
 rcases h with h|⟨o,its,n,f,g,c,i,r⟩
 ·obtain⟨z,its,r,p⟩:=h.ok I.hok
  exact⟨its,r,p,z⟩
 ·refine⟨its.toList,r,⟨o,I.kIn a o f,g,n,by simpa using c⟩,?_⟩
  have e:=r.length;simp only[Array.length_toList]at e;lia
theorem Za.list_inj(I:Za X pins σ H s)(h:Zf X.K H a xs)(h':Zf X.K H a ys):xs=ys:=by
 obtain⟨its,r,⟨o,n,e,_,_,d⟩,_⟩:=I.list h;obtain⟨j,i,⟨q,u,f,_,_,c⟩,_⟩:=I.list h';rw[e]at f;cases f;rw[d]at c;injection c with g _;have:its=j:=by simpa using congrArg Array.toList g
 subst this;exact r.inj i
end
abbrev Cx.wish(X:Cx)(E:Ot):Cx:={ X with xe:=E }
abbrev Cx.nox(X:Cx):Cx:=X.wish fun _ _=>False
theorem Cx.Ok.wish(ok:X.Ok)(E:Ot):(X.wish E).Ok :=
 ⟨ok.mod,ok.kind,ok.glob,ok.blt,ok.above,ok.inj,ok.has,ok.cab,ok.hd,ok.frames,ok.stk,ok.exf,ok.bs,ok.bsz,ok.noex,ok.exfs,ok.funs,ok.frf⟩
theorem Cx.Ok.unwish(ok:(X.wish E).Ok):X.Ok :=
 ⟨ok.mod,ok.kind,ok.glob,ok.blt,ok.above,ok.inj,ok.has,ok.cab,ok.hd,ok.frames,ok.stk,ok.exf,ok.bs,ok.bsz,ok.noex,ok.exfs,ok.funs,ok.frf⟩
section
variable{σ:St}
theorem Za.wish(I:Za X pins σ H s)(E:Ot):Za (X.wish E) pins σ H s:=⟨I.ok.wish E,I.os,I.bare,I.base,I.loc,I.cell,I.free,I.freeC,I.pin,I.hok,I.len⟩
theorem Za.unwish(I:Za (X.wish E) pins σ H s):Za X pins σ H s:=⟨I.ok.unwish,I.os,I.bare,I.base,I.loc,I.cell,I.free,I.freeC,I.pin,I.hok,I.len⟩
theorem SP.unwish(h:SP (X.wish E) pins D f s'):SP X pins D f s':=by
 cases f with
 |next=>obtain⟨e,c,I,q⟩:=h;exact⟨e,c,I.unwish,q⟩
 |brk=>obtain⟨e,c,I,q⟩:=h;exact⟨e,c,I.unwish,q⟩
 |cont=>obtain⟨e,c,I,q⟩:=h;exact⟨e,c,I.unwish,q⟩
 |ret u=>obtain⟨v,e,c,I,r,q⟩:=h;exact⟨v,e,c,I.unwish,r,q⟩
theorem XF.nox{st:List Stmt}{t:TS}(h:XF X.nox st t):XF X st t:=fun pins s σ H D I c =>
 Op (h pins s σ H D (I.wish _) c) (fun _ _ q=>q.unwish) fun _ _ z=>False.elim z
end
section
variable{st:Stmt}{rest:List Stmt}{t u:TS}{e:Expr}{te:TE}
def ZcG:TS:=fun D c H=>D.nx c H
def Ya(t u:TS):TS:=fun D c H=>t { D with nx:=u D } c H
theorem ZP:XF X [] ZcG:=fun _ _ c H _ I h=>wpAny_execs_nil ⟨c,H,I,h⟩
theorem Zh(h1:PS X st t)(n:XF X rest u):XF X (st::rest) (Ya t u):=by
 intro pins s c H D I h;refine wpAny_execs_cons (Zq (h1 pins s c H { D with nx:=u D } I h) fun f i q=>?_);cases f with
 |next =>
  obtain⟨x,j,g,q⟩:=q;exact n pins i x j D g q
 |ret v=>exact q
 |brk=>exact q
 |cont=>exact q
theorem Zi(h1:PS X st t):XF X [st] t:=by
 intro pins s c H D I h;refine wpAny_execs_cons (Zq (h1 pins s c H D I h) fun f g q=>?_);cases f with
 |next=>exact wpAny_execs_nil q
 |ret v=>exact q
 |brk=>exact q
 |cont=>exact q
theorem Za.quiet(I:Za X pins c H s):interactive X.env=false:=by simp[interactive,I.ok.kind]
def ZcH(te:TE):TS:=fun D c H=>te c H fun _ f=>D.nx c f
theorem Z3(n:PE X e te)(j:swapsWith e none pos.line X.env=pure false:=by rfl):PS X (.Expr e pos) (ZcH te):=by
 intro pins s c H D I h;exact wpAny_Expr_any (Zq (n pins s c H _ I h) fun v q ⟨x,g,i,r1,f⟩=>⟨c,g,i,f⟩) I.quiet j
def ZcI(te:TE):TS:=fun D c H=>te c H D.rt
theorem ZA(j:PE X e te):PS X (.Return (some e) pos) (ZcI te):=by
 intro pins s c H D I h;exact wpAny_Return_some (Zq (j pins s c H _ I h) fun v n ⟨x,g,i,r1,f⟩=>⟨x,c,g,i,r1,f⟩)
def ZcJ(c:TT)(t u:TS):TS:=fun D f H=>c f H fun b g=>if b=true then t D f g else u D f g
theorem ZN(x:PT X c q)(ha:XF X a t)(v:XF X b u):PS X (.If c a b pos) (ZcJ q t u):=by
 intro pins s f H D I h;refine wpAny_If (Zq (x pins s f H _ I h) fun d i ⟨j,n,g⟩=>?_);cases d with
 |true=>exact ha pins i f j D n g
 |false=>exact v pins i f j D n g
def ZcK:TS:=fun _ _ _=>False
theorem Y9:PS X st ZcK:=fun _ _ _ _ _ _ h=>h.elim
end
abbrev TG:=V->St->Hp->(St->Hp->Prop)->Prop
abbrev JQ:=List V->St->Hp->(St->Hp->Prop)->Prop
def PG(X:Cx)(target:Expr)(t:TG):Prop :=
 ∀(pins:Ou) (s:Shared) (σ:St) (H:Hp) (v:V) (u:Value) (Q:St->Hp->Prop),Za X pins σ H s->ZD v u->t v σ H Q ->
  wpAny (model X.prog X.w) X.A (assign target X.env u) (fun _ f=>∃c e,Za X pins c e f/\Q c e) X.xe s
def JR(X:Cx)(g:OC)(t:JQ):Prop :=
 ∀(pins:Ou) (s:Shared) (σ:St) (H:Hp) (vs:List V) (us:OA) (Q:St->Hp->Prop),Za X pins σ H s->Zx vs us->t vs σ H Q ->
  wpAny (model X.prog X.w) X.A (assignInOrder ((assignEach g X.env).map (·.2)) us) (fun _ f=>∃c e,Za X pins c e f/\Q c e) X.xe s
def Xw(i:Nat):TG:=fun v c H Q=>Q (c.set i (some v)) H
theorem LP(c:X.N.Nodup)(hi:X.N[i]? = some x)(g:Qm X.env.scope x)(f:X.fn x=true\/X.env.scope.names.lookup x=some .local:=by first|exact .inl rfl|exact .inr rfl|assumption):PG X (.Name x pos) (Xw i):=by
 intro pins s j H v u Q I r h;exact wpAny_assign_Name (C9 I c hi g r (fun n e=>⟨_,H,e,h⟩) f)
def ZcL:JQ:=fun e c H Q=>e=[]/\Q c H
inductive ZcM(t:TG)(u:JQ)(vs:List V)(σ:St)(H:Hp)(Q:St->Hp->Prop):Prop|mk v r (_:vs=v::r) (_:t v σ H fun σ' H'=>u r σ' H' Q)
theorem Vv:JR X [] ZcL:=by
 intro pins s c H f g Q I r h;obtain⟨e,h⟩:=h;subst e;cases r;exact assignInOrder_nil ⟨c,H,I,h⟩
theorem YU(h1:PG X e t)(x:JR X c u)
  (n:(assignEach (e::c) X.env).map (·.2)=assign e X.env::(assignEach c X.env).map (·.2):=by rfl):JR X (e::c) (ZcM t u):=by
 intro pins s j H G D Q I r h;obtain⟨v,E,g,h⟩:=h;subst g;cases r with
 |cons r B =>
  rw[n];refine assignInOrder_cons (Zq (h1 pins s j H _ _ _ I r h) fun _ i ⟨y,q,C,f⟩=>?_);exact x pins i y q _ _ Q C B f
inductive LQ(K:Ow)(n:Nat)(t:JQ)(v:V)(σ:St)(H:Hp)(Q:St->Hp->Prop):Prop|mk a xs (_:v=.ref a) (_:Zj K H a xs) (_:xs.length=n) (_:t xs σ H Q)
theorem Vw(y:X.calm=true)(h:JR X c t)
  (hn:(assignEach c X.env).length=n:=by rfl) (x:(assignEach c X.env).findIdx? (·.1)=none:=by rfl):PG X (.Tuple c k pos) (LQ X.K n t):=by
 intro pins s g H v u Q I r f;obtain⟨a,B,j,G,D,f⟩:=f;subst j;cases r;obtain⟨its,i,q,L⟩:=I.tuple G;refine assign_Tuple_tuple (I.ok.hd y) q (by simp[hn,<-D,i.length]) x fun E C=>?_;have J:Za X pins g H { s with heap:=E }:=I.kept (t':=s.toks) fun b o e=>C b o (Sf (Se e)) e;exact h pins _ g H B _ Q J (by simpa using i) f
def JS(e:TE)(g:TG):TS:=fun D c H=>e c H fun x f=>g x c f D.nx
theorem LR(y:PE X e i)(B:PG X c g)(C:swapsWithSole [c] e pos.line X.env=pure false:=by rfl)(E:swappedStores [c] e X.env=pure none:=by rfl)
  (n:(assignEach [c] X.env).map (·.2)=[assign c X.env]:=by rfl):PS X (.Assign [c] e pos) (JS i g):=by
 intro pins s f H D I h;refine wpAny_Assign_stores (Zq (y pins s f H _ I h) fun v u ⟨x,G,J,r1,j⟩=>?_) C E;rw[n];exact Zq (B pins u f G x v _ J r1 j) fun _ s2 q=>q
theorem ZcN{pos':Pos}(f:X.N.Nodup)(hi:X.N[i]? = some x)(G:Qm X.env.scope x)(E:PE X e c)(u:swapsWith e (some (.Name x pos')) pos.line X.env=pure false:=by rfl)(B:X.fn x=true\/X.env.scope.names.lookup x=some .local:=by first|exact .inl rfl|exact .inr rfl|assumption) :
  PS X (.Assign [.Name x pos'] e pos) (JS c (Xw i)):=by
 intro pins s g H D I h;refine wpAny_Assign_Name (Zq (E pins s g H _ I h) fun v J ⟨y,n,q,r1,j⟩=>?_) u;exact C9 q f hi G r1 (fun s2 C=>⟨_,n,C,j⟩) B
inductive ZcO(i j:Nat)(D:Wr)(σ:St)(vs:List V)(H1:Hp):Prop|mk v w (_:vs=[v,w]) (_:D.nx ((σ.set i (some v)).set j (some w)) H1)
def ZcP(i j:Nat)(f:TA):TS:=fun D c H=>f c H fun e g=>ZcO i j D c e g
theorem ZcQ{E:TA}{kt k2 pt2}(O:X.calm=true)(J:X.N.Nodup)(hi:X.N[i]? = some x)(hj:X.N[j]? = some y)(d0:i≠j)
  (D:X.env.scope.names.lookup x=some .local) (C:X.env.scope.names.lookup y=some .local) (ha:PA X [a,b] E)
  (S:swappedStores [.Tuple [.Name x u,.Name y q] kt pt] (.Tuple [a,b] k2 pt2) X.env=pure (some [x,y]))
  (P:swapsWithSole [.Tuple [.Name x u,.Name y q] kt pt] (.Tuple [a,b] k2 pt2) pos.line X.env=pure false:=by rfl) :
  PS X (.Assign [.Tuple [.Name x u,.Name y q] kt pt] (.Tuple [a,b] k2 pt2) pos) (ZcP i j E):=by
 intro pins s B c0 e0 I h;rw[exec_Assign_arm];refine Sa (wpAny_standAt ?_);rw[P];refine Sa (Sb ?_);rw[SV (by lia)];refine Sa (Tuple_ (Zq (ha _ pins s B c0 _ I h) fun T c ⟨vs,G,I1,r1,n⟩=>?_));obtain⟨v,w,M,n⟩:=n;subst M;obtain⟨f,g,rfl,Z,b0⟩:∃f g,T=[f,g]/\ZD v f/\ZD w g:=by
  cases r1 with
  |cons p a0 =>
   cases a0 with
   |cons L U =>
    cases U;exact⟨_,_,R,p,L⟩
 refine wpAny_newObj_type ?_ (by show 2<=sizeLine;lia);have Q:Za X pins B G { c with heap:=c.heap.push { cls:=.type "tuple",data:=.seq [f,g].toArray } }:=I1.kept (t':=c.toks) fun b o e=>Sc _ e;rw[S];refine Sa (Sb ?_);show wpAny (model X.prog X.w) X.A (do rule "assign.swapped-stores";let items <-unpackItems (.ref c.heap.objs.size) 2 none;assignInOrder [fun v=>bindName X.env y v,fun v=>bindName X.env x v] items.reverse;pure Flow.next) _ _ _;refine Sa (wpAny_rule (Sa (unpackItems_tuple (items:=#[f,g]) (I.ok.hd O) (IsTup.new c.heap _) fun h' Y=>?_)));have I3:=Q.kept (h':=h') (t':=c.toks) fun b o e=>Y b o (Sf (Se e)) e;show wpAny _ _ (assignInOrder [fun v=>bindName X.env y v,fun v=>bindName X.env x v] [g,f] >>= fun _=>pure Flow.next) _ _ _;refine Sa (assignInOrder_cons (wpAny_bindName (C9 I3 J hj (.inl C) b0 (fun s2 I4=>?_) (.inr C))));refine assignInOrder_cons (wpAny_bindName (C9 I4 J hi (.inl D) Z (fun s3 H=>assignInOrder_nil (Sb ?_)) (.inr D)));rw[List.set_comm _ _ (Ne.symm d0)]at H;exact⟨_,G,H,n⟩
structure It where
 go:Nat->Hp->Prop
 yld:Nat->Hp->V->Hp->Prop
 stop:Nat->Hp->Prop
def YX(X:Cx)(pins:Ou)(H:Hp)(b:Addr):Prop :=
 H b=none/\b≠X.env.locals/\b∉X.fs/\(b∈X.ex\/X.s₀.heap.objs.size<=b)/\(∀x c,X.env.cells.lookup x=some c->c≠b)/\∀p∈X.pn++pins,p.1≠b
theorem Za.fpOk(I:Za X pins h H s)(f:s.heap.objs.size<=b)(hn:g b=none):YX X pins g b:=by
 refine⟨hn,Nat.ne_of_gt (Si I.lt f),I.nofs f,.inr (Sh I.sz f),fun x c e z=>?_,fun p i z=>?_⟩
 ·obtain⟨v,q⟩:=I.cell x c e
  exact Oq (Si q.lt (by rw[z];exact f)) (Sl _)
 ·exact Oq (Si (Se (I.pin p i).1) (by rw[z];exact f)) (Sl _)
structure Qn(P:Program)(w:World)(K:Ow)(tg:Expr)(J:It)(fp:OG)(it:Addr)(tn:Nat->Heap->Prop):Prop where
 mem:it∈fp
 obj:∀i h,tn i h->∀b∈fp,∃o,h.get? b=some o/\∀v,o.data≠.cell v
 keep:∀i h h',tn i h->(∀b∈fp,∀o,h.get? b=some o->h'.get? b=some o)->tn i h'
 item:∀(X:Cx),X.prog=P->X.w=w->X.K=K->X.calm=true->∀(i:Nat) (pins:Ou) (s:Shared) (σ:St) (H:Hp) (E:Ot),Za X pins σ H s->(∀b∈fp,YX X pins H b)->tn i s.heap->J.go i H ->
  wpAny (model P w) X.A (pyNext (.ref it)) (fun r s1=>∃u,r=some u /\
   wpAny (model P w) X.A (letOwnedTupleGo tg (.ref it) u) (fun _ s2=>∃x H',Za X pins σ H' s2/\ZD x u/\J.yld i H x H'/\tn (i+1) s2.heap/\∀b∈fp,H' b=none) E s1) E s
 done:∀(X:Cx),X.prog=P->X.w=w->X.K=K->X.calm=true->∀(i:Nat) (pins:Ou) (s:Shared) (σ:St) (H:Hp) (E:Ot),Za X pins σ H s->(∀b∈fp,YX X pins H b)->tn i s.heap->J.stop i H ->
  wpAny (model P w) X.A (pyNext (.ref it)) (fun r s1=>r=none/\Za X pins σ H s1) E s
 self:∀(A:Around) (i:Nat) (s:Shared) (Q:Ot) (E:Ot),tn i s.heap->Q (.ref it) s->wpAny (model P w) A (pyIter (.ref it)) Q E s
abbrev TI:=St->Hp->(It->Hp->Prop)->Prop
inductive zC(X:Cx)(pins:Ou)(σ:St)(tg:Expr)(R:It->Hp->Prop)(itv:Value)(s2:Shared):Prop|mk (it:Addr) (fp:OG) (tn:Nat->Heap->Prop) (J:It) (H':Hp) (_:itv=.ref it) (_:Za X pins σ H' s2) (_:Qn X.prog X.w X.K tg J fp it tn) (_:tn 0 s2.heap) (_:(∀b∈fp,YX X pins H' b)) (_:R J H')
def PI(X:Cx)(c iter:Expr)(e:TI):Prop :=
 ∀(pins:Ou) (s:Shared) (σ:St) (H:Hp) (R:It->Hp->Prop),Za X pins σ H s->e σ H R ->
  wpAny (model X.prog X.w) X.A (eval iter X.env) (fun v f=>wpAny (model X.prog X.w) X.A (pyIter v) (zC X pins σ c R) X.xe f) X.xe s
theorem D1 {o:Obj} (g:s.heap.get? f=some o) (i:o.cls=.type n) (hd:o.data=.fields vs)
    (hn:["enumerate","zip","dict_itemiterator","dict_reverseitemiterator","odict_iterator","itertools.zip_longest","itertools.pairwise"].contains n=false) (c:Q () s):wpAny M A (letOwnedTupleGo e (.ref f) u) Q E s:=by
  unfold letOwnedTupleGo;cases e<;>first
    |exact Sb c
    | (cases u <;> first
        |exact Sb c
        | (refine Sa (wpAny_load g ?_)
           rw[i,hd];show wpAny M A (if (["enumerate","zip","dict_itemiterator","dict_reverseitemiterator","odict_iterator","itertools.zip_longest","itertools.pairwise"].contains n && vs[0]? == some (rawInt _))=true then _ else _) Q E s;rw[SV (by intro h;rw[hn,Bool.false_and]at h;cases h)];exact Sb c))
def UZ(K:Ow)(a:Addr):It :=
 ⟨fun i H=>∃c x,Zf K H a c/\c[i]? = some x,fun i H x e=>e=H/\∀c,Zf K H a c->c[i]? = some x,fun i H=>∃c,Zf K H a c/\c.length<=i⟩
def Uf(lo:Int)(n:Nat):It:=⟨fun i _=>i<n,fun i H x c=>c=H/\x=.int (lo+i),fun i _=>n<=i⟩
theorem ZcR{U:Expr}(a f:Addr):Qn P w K U (UZ K a) [f] f (fun i h=>h.IsListIter f a i) where
 mem:=by simp
 obj:=fun i h st b g=>by
  have e:b=f:=by simpa using g
  subst e;obtain⟨o,e,c,d⟩:=st;exact⟨o,e,fun b0 z=>by rw[d]at z;cases z⟩
 keep:=fun i h n st k=>st.at fun o e=>k f (by simp) o e
 item:=by
  intro X C G J Q i pins s S H a0 I j st B;subst C G J;obtain⟨xs,x,q,L⟩:=B;obtain⟨its,O,p,Y⟩:=I.list q;obtain⟨u,hu,ru⟩:=O.get L;obtain⟨E,y,f2,M,D,v⟩:=j f (by simp);refine wpAny_pyNext_list_item st p.isList (x:=u) (by simpa using hu) fun n T sb=>?_;have I1:Za X pins S H { s with heap:=n }:=I.turned (t':=s.toks) (fun b o g e=>(sb.2 b g).trans e) E y M D v;obtain⟨o,e,c,d⟩:=id T;exact⟨u,R,D1 (s:={ s with heap:=n }) e c d (by lia) ⟨x,H,I1,ru,⟨R,fun ys Z=>by rw[I.list_inj Z q];exact L⟩,T,fun b g=>(j b g).1⟩⟩
 done:=by
  intro X C G J Q i pins s S H a0 I j st B;subst C G J;obtain⟨xs,q,L⟩:=B;obtain⟨its,O,p,Y⟩:=I.list q;obtain⟨E,y,f2,M,D,v⟩:=j f (by simp);have hl:=O.length;exact wpAny_pyNext_list_end (I.ok.hd Q) st p.isList (by simp;lia) fun n eb=>⟨R,I.turned (t':=s.toks) (fun b o g e=>eb b o g e) E y M D v⟩
 self:=fun _ _ _ _ _ st h=>wpAny_pyIter_listiter st h
theorem ZcS{O:Expr}(c:Addr)(lo:Int)(n:Nat):Qn P w K O (Uf lo n) [c] c (fun i h=>IsRangeIter h c (lo+(i:Nat)*1) ((n:Int) - (i:Nat)) 1) where
 mem:=by simp
 obj:=fun i h st b f=>by
  have e:b=c:=by simpa using f
  subst e;exact⟨_,st,fun v z=>by
   have Q:Data.fields _=Data.cell v:=z;cases Q⟩
 keep:=fun i h j st k=>k c (by simp) _ st
 item:=by
  intro X B E G x i pins s L H a0 I g st y;subst B E G;obtain⟨D,u,S,J,C,q⟩:=g c (by simp);have W:=Walks.range (prog:=X.prog) (w:=X.w) (I.ok.hd x) c lo 1 n;refine W.item i s _ _ y st fun v j tk Z M U=>?_;obtain⟨t,rfl⟩:=Z;have Y:Za X pins L H { s with heap:=j,toks:=tk }:=I.turned (fun b o f e=>U b o (by simpa using f) e) D u J C q;refine⟨_,R,D1 (s:={ s with heap:=j,toks:=tk }) (n := "range_iterator") M R R (by lia) ⟨.int (lo+i),H,Y,⟨t,?_⟩,⟨R,R⟩,M,fun b f=>(g b f).1⟩⟩;rw[Int.mul_one]
 done:=by
  intro X B E G x i pins s L H a0 I g st y;subst B E G;obtain⟨D,u,S,J,C,q⟩:=g c (by simp);exact wpAny_pyNext_range_end (I.ok.hd x) st (by have:n<=i:=y;lia) fun j T=>⟨R,I.turned (t':=s.toks) (fun b o f e=>T b o f e) D u J C q⟩
 self:=fun _ _ _ _ _ st h=>wpAny_pyIter_rangeiter st h
section
variable{tg:Expr}
inductive ZcT(K:Ow)(R:It->Hp->Prop)(x:V)(H1:Hp):Prop|mk a (_:x=.ref a) (_:(∃xs,Zf K H1 a xs)) (_:R (UZ K a) H1)
def ZcU(K:Ow)(tl:TE):TI:=fun c H e=>tl c H fun x f=>ZcT K e x f
theorem WB{l:Expr}{tl:TE}(j:PE X l tl):PI X tg l (ZcU X.K tl):=by
 intro pins s i H C I h;refine Zq (j pins s i H _ I h) fun v c ⟨x,n,f,r1,g⟩=>?_;obtain⟨a,e,⟨D,y⟩,q⟩:=g;subst e;cases r1;obtain⟨its,E,p,B⟩:=f.list y;refine wpAny_pyIter_list p.isList ?_;refine⟨c.heap.objs.size,[c.heap.objs.size],_,_,n,R,f.kept (t':=c.toks) fun b o e=>Sc _ e,ZcR a _,⟨_,Sd _ R,R,R⟩,fun b u=>?_,q⟩;have e:b=c.heap.objs.size:=by simpa using u
 subst e;exact f.fpOk (Sg _) (f.hok.fresh (Sg _))
theorem zD{c:St}{R:It->Hp->Prop}{lo hi:Int}{t u v:Tok}{tk:Nat}(I:Za X pins c H s)(h1:-(2 ^ 62)<=lo)(j:lo<2 ^ 62)(n:-(2 ^ 62)<=hi)(x:hi<2 ^ 62)
  (q:R (Uf lo (hi - lo).toNat) H):wpAny (model X.prog X.w) X.A (pyIter (.ref s.heap.objs.size)) (zC X pins c tg R) E { s with heap:=s.heap.push { cls:=.type "range",data:=.fields #[.int lo t,.int hi u,.int 1 v] },toks:=tk }:=by
 refine wpAny_pyIter_range (IsRange.new ..) (small_one h1 j n x) ?_;have f:Za X pins c H { s with heap:=s.heap.push { cls:=.type "range",data:=.fields #[.int lo t,.int hi u,.int 1 v] },toks:=tk }:=I.kept fun b o e=>Sc _ e;refine⟨(s.heap.push { cls:=.type "range",data:=.fields #[.int lo t,.int hi u,.int 1 v] }).objs.size,[(s.heap.push { cls:=.type "range",data:=.fields #[.int lo t,.int hi u,.int 1 v] }).objs.size],_,_,H,rfl,
  f.kept (t':=tk) fun b o e=>Sc _ e,ZcS _ lo (hi - lo).toNat,?_,fun b i=>?_,q⟩
 ·have h:lo+((0:Nat):Int)*1=lo:=by simp
  have g:(((hi - lo).toNat:Nat):Int) - ((0:Nat):Int)=Builtin.Range.rangeSize lo hi 1:=by rw[rangeSize_one];split<;>omega
  show IsRangeIter _ _ (lo+((0:Nat):Int)*1) ((((hi - lo).toNat:Nat):Int) - ((0:Nat):Int)) 1;rw[h,g];exact Sd _ rfl
 ·have e:b=(s.heap.push { cls:=.type "range",data:=.fields #[.int lo t,.int hi u,.int 1 v] }).objs.size:=by simpa using i
  subst e;exact f.fpOk (Sg _) (f.hok.fresh (Sg _))
inductive ZcV(R:It->Hp->Prop)(vs:List V)(H1:Hp):Prop|mk (j:Int) (_:vs=[.int j]) (_:-(2 ^ 62)<=j) (_:j<2 ^ 62) (_:R (Uf 0 j.toNat) H1)
def ZcW(f:TA):TI:=fun c H g=>f c H fun e h=>ZcV g e h
inductive ZcX(R:It->Hp->Prop)(vs:List V)(H1:Hp):Prop|mk (i j:Int) (_:vs=[.int i,.int j]) (_:(-(2 ^ 62)<=i/\i<2 ^ 62/\-(2 ^ 62)<=j/\j<2 ^ 62)) (_:R (Uf i (j - i).toNat) H1)
def ZcY(f:TA):TI:=fun c H g=>f c H fun e h=>ZcX g e h
theorem Ug{a:Expr}{f:TA}{p:Pos}(g:Gl X "range") (hm:X.mg "range" = none) (ha:PA X [a] f) (n:starEach [a] X.env=[(false,eval a X.env)]:=by rfl):PI X tg (.Call (.Name "range" p) [a] [] pos) (ZcW f):=by
 intro pins s i H B I h;refine Call_ (Uu I g hm boot_range (PyProof.Rows.callWith_type1 (Zq (ha pos pins s i H _ I h) fun C y ⟨E,D,v,r1,c⟩=>?_) n R));obtain⟨j,e,c,u,q⟩:=c;subst e;cases r1 with
 |cons r x =>
  cases x;obtain⟨t,rfl⟩:=r;exact call_range_1 (zD v (by lia) (by lia) c u (by simpa using q))
theorem JT(u:Gl X "range") (hm:X.mg "range" = none) (ha:PA X [a,b] g) (x:starEach [a,b] X.env=[(false,eval a X.env),(false,eval b X.env)]:=by rfl) (n:starEach [b] X.env=[(false,eval b X.env)]:=by rfl) :
  PI X tg (.Call (.Name "range" p) [a,b] [] pos) (ZcY g):=by
 intro pins s v H J I h;refine Call_ (Uu I u hm boot_range (PyProof.Rows.callWith_type1 (Zq (ha pos pins s v H _ I h) fun L G ⟨P,M,E,r1,c⟩=>?_) (by rw[x,n]) (by rw[n];rfl)));obtain⟨i,j,e,⟨c,D,B,y⟩,q⟩:=c;subst e;cases r1 with
 |cons r f =>
  cases f with
  |cons C f =>
   cases f;obtain⟨t,rfl⟩:=r;obtain⟨O,rfl⟩:=C;exact call_range_2 (zD E c D B y q)
def zE(n:TI)(g:TG)(tb:TS):TS:=fun D c H=>n c H fun J q=>∃W:Nat->Nat->St->Hp->Prop,(∃m,W 0 m c q)/\∀i m c H,W i m c H ->
 (J.stop i H/\D.nx c H)\/(J.go i H/\∃N:St->Hp->Prop,(∀h e,N h e->∃f,f<m/\W (i+1) f h e)/\∀x e,J.yld i H x e->g x c e fun j u=>tb { D with nx:=N,ct:=N,bk:=D.nx } j u)
def Uh(fp:OG)(h:Heap):List (Addr×Obj):=fp.filterMap fun b=>(h.get? b).map fun o=>(b,o)
theorem QQ{h:Heap}(c:b∈fp)(e:h.get? b=some o):(b,o)∈Uh fp h:=List.mem_filterMap.mpr ⟨b,c,by rw[e];rfl⟩
theorem ZcZ{h:Heap}{p:Addr×Obj}(f:p∈Uh fp h):p.1∈fp/\h.get? p.1=some p.2:=by
 obtain⟨b,c,e⟩:=List.mem_filterMap.mp f;cases q:h.get? b with
 |none=>rw[q]at e;cases e
 |some o =>
  rw[q]at e;have g:(b,o)=p:=So e;subst g;exact⟨c,q⟩
theorem Za.pinned(I:Za X pins c H s)(n:∀b∈fp,YX X pins H b)(h:∀b∈fp,∃o,s.heap.get? b=some o/\∀v,o.data≠.cell v):Za X (pins++Uh fp s.heap) c H s :=
 I.pins_of fun p u=>(SG.mp u).elim (fun z=>I.pin p (SH _ z)) fun z=>by
  obtain⟨f,e⟩:=ZcZ z;obtain⟨j,q,i,_⟩:=n p.1 f;obtain⟨o,g,d⟩:=h p.1 f;rw[e]at g;cases g;exact⟨e,j,q,i,d⟩
theorem Za.unpinned(I:Za X (pins++pl) c H s):Za X pins c H s:=I.pins_of fun p e=>I.pin p (SH _ (SI _ e))
theorem zF{iter:Expr}{body:List Stmt}(y:PassesOwn (model X.prog X.w) X.A X.env X.xe)(J:X.calm=true)(hi:PI X tg iter Y)(hg:PG X tg g)(h:XF X body tb)
  (hs:∀x,foldedSetIterable iter X.env x=pure x:=by intro _;rfl):PS X (.For tg iter body [] pos) (zE Y g tb):=by
 intro pins s L g0 l0 i0 a0;refine wpAny_For (Zq (hi pins s L g0 _ i0 a0) fun b0 s1 h1=>Zq h1 fun n0 s2 h2=>?_) hs;obtain⟨it,fp,tn,o0,H2,e,I2,T,e0,M,W,⟨m0,w0⟩,turn⟩:=h2;subst e
 -- what stays true of the iterator's objects through the loop
 have I:∀{q:Hp},(∀b∈fp,q b=none)->∀b∈fp,YX X pins q b:=fun hn b h=>⟨hn b h,(M b h).2⟩;refine codeAny_forLoop_any (fun n Q=>∃i B q,Za X pins B q Q/\tn i Q.heap/\(∀b∈fp,q b=none)/\W i n B q) ?_ m0 ⟨0,L,H2,I2,e0,fun b h=>(M b h).1,w0⟩;rintro n O ⟨i,C,D,U,S,P,w3⟩;rcases turn i n C D w3 with⟨stop,qn⟩|⟨go,N,hN,step⟩
 ·refine wpAny_passesOwn y (Zq (T.done X R R R J i pins O C D X.xe U (I P) S stop) fun r s4 ⟨G,I4⟩=>?_)
  subst G;exact wpAny_execs_nil ⟨C,D,I4,qn⟩
 ·refine wpAny_passesOwn y (Zq (T.item X R R R J i pins O C D X.xe U (I P) S go) fun r s4 ⟨j0,G,h4⟩=>?_)
  subst G;refine wpAny_passesOwn y (Zq h4 fun _ s5 ⟨x,Z,I5,r5,y5,E,h0⟩=>?_);have d0:=I5.pinned (I h0) (T.obj _ _ E);refine wpAny_passesOwn y (Zq (hg _ s5 C Z x j0 _ d0 r5 (step x Z y5)) fun _ s6 ⟨c0,H6,I6,q6⟩=>?_);refine wpAny_passesOwn y (Zq (h _ s6 c0 H6 _ I6 q6) fun f0 H u=>?_);have again:∀{c:St} {j:Hp},Za X (pins++Uh fp s5.heap) c j H->N c j->∃m,m<n/\∃i B q,Za X pins B q H/\tn i H.heap/\(∀b∈fp,q b=none)/\W i m B q:=fun{c j} f v=>by
   obtain⟨m',hm,w7⟩:=hN c j v;refine⟨m',hm,i+1,c,j,f.unpinned,T.keep _ _ _ E fun b h o e=>(f.pin (b,o) (SH _ (SH _ (QQ h e)))).1,fun b h=>?_,w7⟩;obtain⟨o,e,d⟩:=T.obj _ _ E b h;exact(f.pin (b,o) (SH _ (SH _ (QQ h e)))).2.1
  cases f0 with
  |next=>obtain⟨c,j,f,v⟩:=u;exact again f v
  |cont=>obtain⟨c,j,f,v⟩:=u;exact again f v
  |brk=>obtain⟨c,j,f,u⟩:=u;exact⟨c,j,f.unpinned,u⟩
  |ret b0=>obtain⟨x7,c,j,f,r7,u⟩:=u;exact⟨x7,c,j,f.unpinned,r7,u⟩
end
theorem D2{a:Addr}{xs:List V}{g:TG}{tb:TS}{D:Wr}{c:St}(f:Nat->St->Hp->Prop)(G:f 0 c H)(E:∀i c H,i<=xs.length->f i c H->Zf K H a xs)
  (J:∀i x c H,xs[i]? = some x->f i c H->g x c H fun j n=>tb { D with nx:=f (i+1),ct:=f (i+1),bk:=D.nx } j n) (hd:∀c H,f xs.length c H->D.nx c H) :
  ∃W:Nat->Nat->St->Hp->Prop,(∃m,W 0 m c H)/\∀i m c H,W i m c H ->
   ((UZ K a).stop i H/\D.nx c H)\/((UZ K a).go i H/\∃N:St->Hp->Prop,(∀u h,N u h->∃B,B<m/\W (i+1) B u h)/\∀x h,(UZ K a).yld i H x h->g x c h fun j n=>tb { D with nx:=N,ct:=N,bk:=D.nx } j n):=by
 refine⟨fun i m c H=>m=xs.length - i/\i<=xs.length/\f i c H,⟨xs.length,by simp,Sk _,G⟩,?_⟩;rintro i m c H ⟨rfl,I,p⟩;have q:=E i c H I p;by_cases v:i<xs.length
 ·refine .inr ⟨⟨xs,xs[i],q,by simp[v]⟩,f (i+1),fun u h C=>⟨xs.length - (i+1),by lia,R,v,C⟩,fun x h y=>?_⟩
  obtain⟨e,y⟩:=y;subst e;exact J i x c _ (y xs q) p
 ·have e:i=xs.length:=by lia
  subst e;exact .inl ⟨⟨xs,q,Sg _⟩,hd c H p⟩
theorem VU{lo:Int}{n:Nat}{g:TG}{tb:TS}{D:Wr}{c:St}(f:Nat->St->Hp->Prop)(E:f 0 c H)
  (G:∀i c H,i<n->f i c H->g (.int (lo+i)) c H fun j u=>tb { D with nx:=f (i+1),ct:=f (i+1),bk:=D.nx } j u) (hd:∀c H,f n c H->D.nx c H) :
  ∃W:Nat->Nat->St->Hp->Prop,(∃m,W 0 m c H)/\∀i m c H,W i m c H ->
   ((Uf lo n).stop i H/\D.nx c H)\/((Uf lo n).go i H/\∃N:St->Hp->Prop,(∀v h,N v h->∃B,B<m/\W (i+1) B v h)/\∀x h,(Uf lo n).yld i H x h->g x c h fun j u=>tb { D with nx:=N,ct:=N,bk:=D.nx } j u):=by
 refine⟨fun i m c H=>m=n - i/\i<=n/\f i c H,⟨n,by simp,Sk _,E⟩,?_⟩;rintro i m c H ⟨rfl,I,p⟩;by_cases q:i<n
 ·refine .inr ⟨q,f (i+1),fun v h C=>⟨n - (i+1),by lia,R,q,C⟩,fun x h y=>?_⟩
  obtain⟨e,y⟩:=y;subst e y;exact G i c _ q p
 ·have e:i=n:=by lia
  subst e;exact .inl ⟨Sg _,hd c H p⟩
abbrev R2:=V->V->Hp->VK->Prop
def YF(X:Cx)(f:Value->Value->Sem Value)(r:R2):Prop :=
 ∀(pins:Ou) (s:Shared) (σ:St) (H:Hp) (x y:V) (v u:Value) (Q:VK),Za X pins σ H s->ZD x v->ZD y u->r x y H Q ->
  wpAny (model X.prog X.w) X.A (f v u) (EP X pins σ Q) X.xe s
def LU(X:Cx)(f:Value->Sem Value)(r:V->Hp->VK->Prop):Prop :=
 ∀(pins:Ou) (s:Shared) (σ:St) (H:Hp) (x:V) (v:Value) (Q:VK),Za X pins σ H s->ZD x v->r x H Q ->
  wpAny (model X.prog X.w) X.A (f v) (EP X pins σ Q) X.xe s
def YV(X:Cx)(f:Value)(r:List V->Hp->VK->Prop):Prop :=
 ∀(pins:Ou) (s:Shared) (σ:St) (H:Hp) (xs:List V) (us:OA) (Q:VK),Za X pins σ H s->Zx xs us->r xs H Q ->
  wpAny (model X.prog X.w) X.A (call f us) (EP X pins σ Q) X.xe s
def Zc0(X:Cx)(r:V->Hp->(Bool->Hp->Prop)->Prop):Prop :=
 ∀(pins:Ou) (s:Shared) (σ:St) (H:Hp) (x:V) (v:Value) (Q:Bool->Hp->Prop),Za X pins σ H s->ZD x v->r x H Q ->
  wpAny (model X.prog X.w) X.A (truthy v) (TP X pins σ Q) X.xe s
def Vc(r:R2)(e tb:TE):TE:=fun c H Q=>e c H fun x f=>tb c f fun y g=>r x y g Q
def tUn(r:V->Hp->VK->Prop)(e:TE):TE:=fun c H Q=>e c H fun x f=>r x f Q
inductive rI(C:Int->Int->Prop)(g:Int->Int->V)(x:V)(y:V)(H:Hp)(Q:VK):Prop|mk i j (_:x=.int i) (_:y=.int j) (_:C i j) (_:Q (g i j) H)
inductive Ux(g:Int->Int->V)(x:V)(y:V)(H:Hp)(Q:VK):Prop|mk i j (_:x=.int i) (_:y=.int j) (_:Q (g i j) H)
inductive rU(g:Int->V)(x:V)(H:Hp)(Q:VK):Prop|mk i (_:x=.int i) (_:Q (g i) H)
section
variable{a b c:Expr}{ta tb tc:TE}
theorem LV(ha:PE X a ta)(B:PE X b tb){e:St}{R:V->V->Hp->Prop}(I:Za X pins e H s)
  (h:ta e H fun x i=>tb e i fun y g=>R x y g) {Q:Ot} {f:Value->Value->Sem Value}
  (J:∀v u s2 x y g,Za X pins e g s2->ZD x v->ZD y u->R x y g->wpAny (model X.prog X.w) X.A (f v u) Q X.xe s2) :
  wpAny (model X.prog X.w) X.A (eval a X.env) (fun v C=>wpAny (model X.prog X.w) X.A (eval b X.env) (fun u D=>wpAny (model X.prog X.w) X.A (f v u) Q X.xe D) X.xe C) X.xe s:=by
 refine Zq (ha pins s e H _ I h) fun v q ⟨x,i,G,r1,j⟩=>?_;refine Zq (B pins q e i _ G j) fun u s2 ⟨y,g,L,n,E⟩=>?_;exact J v u s2 x y g L r1 n E
theorem Ze{e:Operator}{r:R2}(i:YF X (binaryOp e) r)(ha:PE X a ta)(j:PE X b tb):PE X (.BinOp a e b pos) (Vc r ta tb):=by
 intro pins s g H Q I h;exact wpAny_BinOp (LV ha j I h fun v u s2 x y B n f C q=>i pins s2 g B x y v u Q n f C q)
theorem zG(i:LU X (unaryOp f) r)(ha:PE X a ta):PE X (.UnaryOp f a pos) (tUn r ta):=by
 intro pins s e H Q I h;exact UnaryOp_ (Zq (ha pins s e H _ I h) fun v j ⟨x,n,q,r1,g⟩=>i pins j e n x v Q q r1 g)
theorem D3{f:Value->Value->Sem Value}{C:Int->Int->Prop}{g:Int->Int->Int}
  (rule:∀(i j:Int) (t u:Tok) (s:Shared) (Q:Ot) (E:Ot),C i j->Q (.int (g i j) s.toks) { s with toks:=s.toks+1 }->wpAny (model X.prog X.w) X.A (f (.int i t) (.int j u)) Q E s) :
  YF X f (rI C fun i j=>.int (g i j)):=by
 intro pins s G H x y v u Q I e D h;obtain⟨i,j,rfl,rfl,B,q⟩:=h;obtain⟨t,rfl⟩:=e;obtain⟨n,rfl⟩:=D;exact rule i j t n s _ _ B ⟨.int (g i j),H,I.tok _,⟨_,R⟩,q⟩
theorem LW{f:Value->Value->Sem Value}{g:Int->Int->Int}
  (rule:∀(i j:Int) (t u:Tok) (s:Shared) (Q:Ot) (E:Ot),Q (.int (g i j) s.toks) { s with toks:=s.toks+1 }->wpAny (model X.prog X.w) X.A (f (.int i t) (.int j u)) Q E s) :
  YF X f (Ux fun i j=>.int (g i j)):=by
 intro pins s C H x y v u Q I e B h;obtain⟨i,j,rfl,rfl,q⟩:=h;obtain⟨t,rfl⟩:=e;obtain⟨n,rfl⟩:=B;exact rule i j t n s _ _ ⟨.int (g i j),H,I.tok _,⟨_,R⟩,q⟩
theorem JU{f:Value->Value->Sem Value}{g:Int->Int->Bool}
  (rule:∀(i j:Int) (t u:Tok) (s:Shared) (Q:Ot) (E:Ot),Q (.bool (g i j)) s->wpAny (model X.prog X.w) X.A (f (.int i t) (.int j u)) Q E s) :
  YF X f (Ux fun i j=>.bl (g i j)):=by
 intro pins s C H x y v u Q I e B h;obtain⟨i,j,rfl,rfl,q⟩:=h;obtain⟨t,rfl⟩:=e;obtain⟨n,rfl⟩:=B;exact rule i j t n s _ _ ⟨.bl (g i j),H,I,R,q⟩
def Zc1(i j:Int):Prop:=0<j/\j<1073741824
def Zc2(i j:Int):Prop:=0<=j/\j<=1000000/\i.natAbs<2 ^ 64
def JV(i j:Int):Prop:=(-(2 ^ 64)<i/\i<2 ^ 64)\/(-(2 ^ 64)<j/\j<2 ^ 64)
theorem JV.ok(h:JV i j):IntMulOk i j:=by
 rcases h with⟨f,e⟩|⟨f,e⟩
 ·exact .of_left (intBits_le_64 f e)
 ·exact .of_right (intBits_le_64 f e)
theorem Zc3(k:Nat):(0:Int)<=2 ^ k:=by
 rw[two_pow_cast];exact Int.natCast_nonneg _
theorem Z2:YF X (binaryOp .Add) (Ux fun i j=>.int (i+j)):=LW fun _ _ _ _ _ _ _ q=>add_int q
theorem Ws:YF X (binaryOp .Sub) (Ux fun i j=>.int (i - j)):=LW fun _ _ _ _ _ _ _ q=>sub_int q
theorem VW:YF X (binaryOp .Mult) (rI JV fun i j=>.int (i*j)):=D3 fun _ _ _ _ _ _ _ e q=>mul_int q e.ok
theorem Yt:YF X (binaryOp .FloorDiv) (rI Zc1 fun i j=>.int (i/j)):=D3 fun i j _ _ _ _ _ e q=>by
 have g:(0:Int)<j:=e.1;have f:j<1073741824:=e.2;exact floordiv_int (by lia) (by rw[Int.fdiv_eq_ediv_of_nonneg i (by lia)];exact q) (.inl (PyProof.noPylong_small (by lia)))
theorem ZO:YF X (binaryOp .Mod) (rI (fun _ j=>0<j) fun i j=>.int (i%j)):=D3 fun i j _ _ _ _ _ e q=>by
 have f:(0:Int)<j:=e;exact mod_int' (by lia) (by rw[Int.fmod_eq_emod_of_nonneg i (by lia)];exact q)
theorem zH:YF X (binaryOp .LShift) (rI Zc2 fun i j=>.int (i*2 ^ j.toNat)):=D3 fun _ _ _ _ _ _ _ e q=>lshift_int_small e.1 e.2.1 e.2.2 q
theorem Zc4:YF X (binaryOp .RShift) (rI (fun _ j=>0<=j) fun i j=>.int (i/2 ^ j.toNat)):=D3 fun i j _ _ _ _ _ e q =>
 rshift_int e (by rw[Int.fdiv_eq_ediv_of_nonneg i (Zc3 _)];exact q)
theorem Zc5:YF X (binaryOp .BitAnd) (Ux fun i j=>.int (Builtin.bitAnd i j)):=LW fun _ _ _ _ _ _ _ q=>and_int q
theorem unI{f:Value->Sem Value}{g:Int->Int}
  (rule:∀(i:Int) (t:Tok) (s:Shared) (Q:Ot) (E:Ot),Q (.int (g i) s.toks) { s with toks:=s.toks+1 }->wpAny (model X.prog X.w) X.A (f (.int i t)) Q E s) :
  LU X f (rU fun i=>.int (g i)):=by
 intro pins s j H x v Q I e h;obtain⟨i,rfl,q⟩:=h;obtain⟨t,rfl⟩:=e;exact rule i t s _ _ ⟨.int (g i),H,I.tok _,⟨_,R⟩,q⟩
theorem zI:LU X (unaryOp .USub) (rU fun i=>.int (-i)):=unI fun _ _ _ _ _ q=>neg_int q
end
def LX:V->V->Bool
 |.non,.non=>true|.non,.int _=>true|.int _,.non=>true|.non,.bl _=>true|.bl _,.non=>true|.non,.str _=>true|.str _,.non=>true
 |.int _,.int _=>true|.bl _,.bl _=>true|.str _,.str _=>true|.byt _,.byt _=>true
 |.int _,.str _=>true|.str _,.int _=>true|.bl _,.str _=>true|.str _,.bl _=>true
 |_,_=>false
def rEq:R2:=fun x y H Q=>LX x y=true/\Q (.bl (decide (x=y))) H
def rNe:R2:=fun x y H Q=>LX x y=true/\Q (.bl (!decide (x=y))) H
theorem Vx:decide (V.int i=V.int j)=(i == j):=by
 rw[Bool.eq_iff_iff];simp
theorem JW:decide (V.bl i=V.bl j)=(i == j):=by
 rw[Bool.eq_iff_iff];simp
theorem zJ:decide (V.str i=V.str j)=(i == j):=by
 rw[Bool.eq_iff_iff];simp
theorem zK{i j:Array UInt8}:decide (V.byt i=V.byt j)=(i.toList == j.toList):=by
 rw[Bool.eq_iff_iff];cases i;cases j;simp
section
variable{a b c:Expr}{ta tb tc:TE}
theorem YP(I:Za X pins f H s)(q:Q (.bl k) H)(e:k=g):EP X pins f Q (.bool g) s:=by
 subst e;exact⟨.bl k,H,I,R,q⟩
theorem Y4:YF X (compareOp .Eq) rEq:=by
 intro pins s B H x y v u Q I n e h;obtain⟨g,q⟩:=h;cases x with
 |non =>
  cases n;cases y with
  |non=>cases e;exact PySem.EqNone.eq_none_none (YP I q (by simp))
  |bl j=>cases e;exact PySem.EqNone.eq_none_bool (YP I q (by simp))
  |int j=>obtain⟨f,rfl⟩:=e;exact PySem.EqNone.eq_none_int (YP I q (by simp))
  |str j=>obtain⟨f,rfl⟩:=e;exact PySem.EqNone.eq_none_str (YP I q (by simp))
  |_=>exact Oq (show false=true from g) SO
 |bl i =>
  cases n;cases y with
  |non=>cases e;exact PySem.EqNone.eq_bool_none (YP I q (by simp))
  |bl j=>cases e;exact eq_bool (YP I q JW)
  |str j=>obtain⟨f,rfl⟩:=e;exact PySem.EqMixed.eq_bool_str (YP I q (by simp))
  |_=>exact Oq (show false=true from g) SO
 |int i =>
  obtain⟨t,rfl⟩:=n;cases y with
  |non=>cases e;exact PySem.EqNone.eq_int_none (YP I q (by simp))
  |int j=>obtain⟨f,rfl⟩:=e;exact eq_int (YP I q Vx)
  |str j=>obtain⟨f,rfl⟩:=e;exact PySem.EqMixed.eq_int_str (YP I q (by simp))
  |_=>exact Oq (show false=true from g) SO
 |str i =>
  obtain⟨t,rfl⟩:=n;cases y with
  |non=>cases e;exact PySem.EqNone.eq_str_none (YP I q (by simp))
  |bl j=>cases e;exact PySem.EqMixed.eq_str_bool (YP I q (by simp))
  |int j=>obtain⟨f,rfl⟩:=e;exact PySem.EqMixed.eq_str_int (YP I q (by simp))
  |str j=>obtain⟨f,rfl⟩:=e;exact eq_str (YP I q zJ)
  |_=>exact Oq (show false=true from g) SO
 |byt i =>
  obtain⟨t,rfl⟩:=n;cases y with
  |byt j=>obtain⟨f,rfl⟩:=e;exact W.eq_bytes (YP I q zK)
  |_=>exact Oq (show false=true from g) SO
 |_=>cases y<;>exact Oq (show false=true from g) SO
theorem JX:YF X (compareOp .NotEq) rNe:=by
 intro pins s B H x y v u Q I n e h;obtain⟨g,q⟩:=h;cases x with
 |non =>
  cases n;cases y with
  |non=>cases e;exact PySem.EqNone.ne_none_none (YP I q (by simp))
  |bl j=>cases e;exact PySem.EqNone.ne_none_bool (YP I q (by simp))
  |int j=>obtain⟨f,rfl⟩:=e;exact PySem.EqNone.ne_none_int (YP I q (by simp))
  |str j=>obtain⟨f,rfl⟩:=e;exact PySem.EqNone.ne_none_str (YP I q (by simp))
  |_=>exact Oq (show false=true from g) SO
 |bl i =>
  cases n;cases y with
  |non=>cases e;exact PySem.EqNone.ne_bool_none (YP I q (by simp))
  |bl j=>cases e;exact ne_bool (YP I q (congrArg not JW))
  |str j=>obtain⟨f,rfl⟩:=e;exact PySem.EqMixed.ne_bool_str (YP I q (by simp))
  |_=>exact Oq (show false=true from g) SO
 |int i =>
  obtain⟨t,rfl⟩:=n;cases y with
  |non=>cases e;exact PySem.EqNone.ne_int_none (YP I q (by simp))
  |int j=>obtain⟨f,rfl⟩:=e;exact ne_int (YP I q (congrArg not Vx))
  |str j=>obtain⟨f,rfl⟩:=e;exact PySem.EqMixed.ne_int_str (YP I q (by simp))
  |_=>exact Oq (show false=true from g) SO
 |str i =>
  obtain⟨t,rfl⟩:=n;cases y with
  |non=>cases e;exact PySem.EqNone.ne_str_none (YP I q (by simp))
  |bl j=>cases e;exact PySem.EqMixed.ne_str_bool (YP I q (by simp))
  |int j=>obtain⟨f,rfl⟩:=e;exact PySem.EqMixed.ne_str_int (YP I q (by simp))
  |str j=>obtain⟨f,rfl⟩:=e;exact ne_str (YP I q (congrArg not zJ))
  |_=>exact Oq (show false=true from g) SO
 |byt i =>
  obtain⟨t,rfl⟩:=n;cases y with
  |byt j=>obtain⟨f,rfl⟩:=e;exact W.ne_bytes (YP I q (congrArg not zK))
  |_=>exact Oq (show false=true from g) SO
 |_=>cases y<;>exact Oq (show false=true from g) SO
theorem LY:YF X (compareOp .Lt) (Ux fun i j=>.bl (decide (i<j))):=JU fun _ _ _ _ _ _ _ q=>lt_int q
theorem Wt:YF X (compareOp .LtE) (Ux fun i j=>.bl (decide (i<=j))):=JU fun _ _ _ _ _ _ _ q=>le_int q
theorem D4:YF X (compareOp .Gt) (Ux fun i j=>.bl (decide (j<i))):=JU fun _ _ _ _ _ _ _ q=>gt_int q
theorem zL:YF X (compareOp .GtE) (Ux fun i j=>.bl (decide (j<=i))):=JU fun _ _ _ _ _ _ _ q=>ge_int q
theorem Ui(b:Expr)(h:e≠.In:=by lia)(f:e≠.NotIn:=by lia):behindInMarks e b=false:=by
 have i:(e == CmpOp.In)=false:=by cases e<;>first|rfl|exact Oq R h
 have g:(e == CmpOp.NotIn)=false:=by cases e<;>first|rfl|exact Oq R f
 cases b<;>simp[behindInMarks,i,g]
theorem Vd(i:YF X (compareOp e) r)(ha:PE X a ta)(j:PE X b tb)(hm:behindInMarks e b=false):PE X (.Compare a [e] [b] pos) (Vc r ta tb):=by
 intro pins s g H Q I h;exact wpAny_Compare1 (LV ha j I h fun v u s2 x y B n f C q=>i pins s2 g B x y v u Q n f C q) hm
inductive Zc6(Q:Bool->Hp->Prop)(x:V)(H':Hp):Prop|mk k (_:x=.bl k) (_:Q k H')
def LZ(t:TE):TT:=fun e H Q=>t e H fun x f=>Zc6 Q x f
theorem zM(n:YF X (compareOp g) r)(ha:PE X a ta)(L:PE X b tb)(hm:behindInMarks g b=false):PT X (.Compare a [g] [b] pos) (LZ (Vc r ta tb)):=by
 intro pins s f H Q I h;refine wpAny_isTrue_Compare1 (Zq (ha pins s f H _ I h) fun v j ⟨x,C,O,r1,i⟩=>Zq (L pins j f C _ O i) fun u s2 ⟨y,D,q,J,M⟩ =>
  Zq (n pins s2 f D x y v u _ q r1 J M) fun c P ⟨z,B,G,r3,k,e,E⟩=>?_) hm
 subst e;cases r3;exact wpAny_truthy_bool ⟨B,G,E⟩
inductive Zc7(r':R2)(tc:TE)(σ:St)(Q:VK)(y:V)(z:V)(H3:Hp):Prop|mk k (_:z=.bl k) (_:(if k=true then tc σ H3 fun w' H4=>r' y w' H4 Q else Q (.bl false) H3))
def zN(r i:R2)(ta tb tc:TE):TE:=fun e H Q=>ta e H fun x f=>tb e f fun y g=>r x y g fun z h=>Zc7 i tc e Q y z h
theorem JY(J:YF X (compareOp g) r)(P:YF X (compareOp i) q)(ha:PE X a ta)(Z:PE X b tb)(E:PE X c tc)
  (hm:lastMarks [g,i] [b,c]=false:=by with_unfolding_all rfl):PE X (.Compare a [g,i] [b,c] pos) (zN r q ta tb tc):=by
 intro pins s f a0 Q b0 h;refine Compare_chain (Zq (ha pins s f a0 _ b0 h) fun v D ⟨c0,T,I1,r1,C⟩=>chain_link (Zq (Z pins D f T _ I1 C) fun u s2 ⟨y,Y,O,B,q2⟩ =>
  Zq (J pins s2 f Y c0 y v u _ O r1 B q2) fun d L ⟨z,j,x,r3,k,e,n⟩=>?_)) hm
 subst e;cases r3;refine wpAny_truthy_bool ?_;cases k with
 |false=>exact ite_ff ⟨.bl false,j,x,R,n⟩
 |true=>exact ite_tt (chain_last (Zq (E pins L f j _ x n) fun I M ⟨H,H4,U,G,S⟩=>P pins M f H4 y H u I Q U B G S))
theorem JZ(M:YF X (compareOp g) r)(S:YF X (compareOp i) q)(ha:PE X a ta)(hb:PE X b tb)(H:PE X c tc)
  (hm:lastMarks [g,i] [b,c]=false:=by with_unfolding_all rfl):PT X (.Compare a [g,i] [b,c] pos) (LZ (zN r q ta tb tc)):=by
 intro pins s f a0 d0 b0 h;refine isTrue_chain (Zq (ha pins s f a0 _ b0 h) fun v E ⟨c0,U,I1,r1,C⟩=>test_link (Zq (hb pins E f U _ I1 C) fun u s2 ⟨y,H2,Q,B,q2⟩ =>
  Zq (M pins s2 f H2 c0 y v u _ Q r1 B q2) fun d O ⟨z,j,x,r3,k,e,n⟩=>?_)) hm
 subst e;cases r3;refine wpAny_truthy_bool ?_;cases k with
 |false =>
  obtain⟨k',e',Y⟩:=n;cases e';exact ite_ff ⟨j,x,Y⟩
 |true =>
  refine ite_tt (test_last (Zq (H pins O f j _ x n) fun L P ⟨J,H4,Z,I,T⟩=>Zq (S pins P f H4 y J u L _ Z B I T) fun d' s5 ⟨z2,H5,I5,G,k2,D,q5⟩=>?_));subst D;cases G;exact wpAny_truthy_bool ⟨H5,I5,q5⟩
def zO(K:Ow)(x:V)(H:Hp)(k:Bool):Prop :=
 match x with
 |.non=>k=false
 |.bl b=>k=b
 |.int i=>k=(i != 0)
 |.str y=>y.length<=sizeLine/\k=((y.length:Int) != 0)
 |.byt y=>y.size<=sizeLine/\k=((y.size:Int) != 0)
 |.ref p=>(∃e,Zf K H p e/\k = !e.isEmpty)\/(∃e,Zj K H p e/\k = !e.isEmpty)\/∃f,H p=some (.dK f)/\k = !f.isEmpty
 |_=>False
theorem Zc8{κ:Type}{e:List (κ×V)}{vs:List (κ×Value)}(r:KV e vs):(!vs.isEmpty) = !e.isEmpty:=by
 cases r<;>rfl
theorem zP{xs:List V}{its:OA}(r:Zx xs its):(!its.toArray.isEmpty) = !xs.isEmpty:=by
 cases r<;>simp
theorem QR:(sizeLine:Nat)<2 ^ 63:=by rw[sizeLine_eq];lia
theorem Zc9:Zc0 X (fun x H Q=>∃k,zO X.K x H k/\Q k H):=by
 intro pins s J H x v Q I j h;obtain⟨k,e,q⟩:=h;have M:=QR;have L:sizeLine=16777216:=sizeLine_eq;cases x with
 |non =>
  cases j;have f:k=false:=e;subst f;exact truthy_none ⟨H,I,q⟩
 |bl b =>
  cases j;have f:k=b:=e;subst f;exact wpAny_truthy_bool ⟨H,I,q⟩
 |int i =>
  obtain⟨t,rfl⟩:=j;have f:k=(i != 0):=e;subst f;exact PySem.P.truthy_int ⟨H,I,q⟩
 |str y =>
  obtain⟨t,rfl⟩:=j;obtain⟨G,f⟩:y.length<=sizeLine/\k=((y.length:Int) != 0):=e;subst f;exact PySem.P.truthy_str (by lia) ⟨H,I.tok _,q⟩
 |byt y =>
  obtain⟨t,rfl⟩:=j;obtain⟨G,f⟩:y.size<=sizeLine/\k=((y.size:Int) != 0):=e;subst f;exact W.truthy_bytes (by lia) ⟨H,I.tok _,q⟩
 |ref p =>
  cases j;have f:(∃g,Zf X.K H p g/\k = !g.isEmpty)\/(∃g,Zj X.K H p g/\k = !g.isEmpty)\/∃n,H p=some (.dK n)/\k = !n.isEmpty:=e;rcases f with⟨g,u,f⟩|⟨g,u,f⟩|⟨n,u,f⟩
  ·subst f
   obtain⟨its,r,C,D⟩:=I.list u;have hlen:=r.length;exact wpAny_truthy_list C.isList (by simp only[SN];lia) ⟨H,I.tok _,by rw[zP r];exact q⟩
  ·subst f
   obtain⟨its,r,C,D⟩:=I.tuple u;have hlen:=r.length;exact truthy_tuple C (by simp only[SN];lia) ⟨H,I.tok _,by rw[zP r];exact q⟩
  ·subst f
   obtain⟨D,E,B,r,m⟩:n.length<=sizeLine/\(p == sysModules)=false/\∃B,KV n B/\s.heap.DictOf (Xk X.prog X.w) p B:=I.hok p _ u;have hlen:n.length=B.length:=Paired.length r;exact wpAny_truthy_dict E m (by lia) ⟨H,I.tok _,by rw[Zc8 r];exact q⟩
 |_=>exact(show False from e).elim
theorem zQ:YF X (binaryOp .Add) (fun x y H Q=>∃i j,x=.str i/\y=.str j/\i.length+j.length<=sizeLine/\Q (.str (i++j)) H):=by
 intro pins s B H x y v u Q I e g h;obtain⟨i,j,rfl,rfl,n,q⟩:=h;obtain⟨t,rfl⟩:=e;obtain⟨f,rfl⟩:=g;exact add_str (fun f tk=>⟨.str (i++j),H,I.tok _,⟨_,R⟩,q⟩) n
theorem X1(r:Zx [x] us):∃u,us=[u]/\ZD x u:=by
 cases r with
 |cons r1 e=>cases e;exact⟨_,R,r1⟩
theorem QS(r:Zx [x,y] us):∃u e,us=[u,e]/\ZD x u/\ZD y e:=by
 cases r with
 |cons r1 f =>
  cases f with
  |cons r3 g=>cases g;exact⟨_,_,R,r1,r3⟩
theorem J0(f:X.calm=true):YV X (.builtin "max") (fun xs H Q=>∃i j,xs=[.int i,.int j]/\Q (.int (if j>i then j else i)) H):=by
 intro pins s g H xs v Q I r h;obtain⟨i,j,rfl,q⟩:=h;obtain⟨u,y,rfl,⟨t,rfl⟩,⟨n,rfl⟩⟩:=QS r;refine max_two_ints (I.ok.hd f) fun x tk k=>⟨_,H,I.kept k,?_,q⟩;by_cases e:j>i
 ·rw[SW e,SW e];exact⟨_,R⟩
 ·rw[SV e,SV e];exact⟨_,R⟩
theorem Zda(f:X.calm=true):YV X (.builtin "min") (fun xs H Q=>∃i j,xs=[.int i,.int j]/\Q (.int (if j<i then j else i)) H):=by
 intro pins s g H xs v Q I r h;obtain⟨i,j,rfl,q⟩:=h;obtain⟨u,y,rfl,⟨t,rfl⟩,⟨n,rfl⟩⟩:=QS r;refine min_two_ints (I.ok.hd f) fun x tk k=>⟨_,H,I.kept k,?_,q⟩;by_cases e:j<i
 ·rw[SW e,SW e];exact⟨_,R⟩
 ·rw[SV e,SV e];exact⟨_,R⟩
end
structure Qo(h:Heap)(x dx C:Addr)(mA:Ov):Prop where
 obj:h.get? x=some (W.instObj C dx)
 ns:h.Ns1 dx mA
 ne:dx≠x
theorem Zdb{h:Heap}(n:h.Ns1 c f):∃i,h.get? c=some i/\∀name,W.lookIn name i=some (f name):=by
 obtain⟨o,g,C,v,hd,B,_,hm⟩:=n;refine⟨o,v,fun name=>?_⟩;have e:=hm name;unfold nsFind findBy at e;rw[<-Array.find?_toList]at e;unfold W.lookIn;rw[hd];dsimp only
 split
 ·rename_i y q
  rw[q]at e;exact congrArg some e
 ·rename_i q
  rw[q]at e;have a:g.toList.any (·.refKey)=false:=by
   rw[List.any_eq_false];intro y u;obtain⟨z,t,j⟩:=B y (Array.mem_toList_iff.mp u);simp[DictEntry.refKey,j]
  have x:¬ g.toList.any (·.refKey)=true:=by rw[a];exact SO
  rw[SV x];exact congrArg some e
theorem Qo.look(I:Qo h x e C f):∃c,W.InstAt h x (W.instObj C e) C (some c)/\∀name,W.lookIn name c=some (f name) :=
 let ⟨c,ho,hl⟩:=Zdb I.ns
 ⟨c,⟨I.obj,R,R,ho⟩,hl⟩
section
variable{x dx C f:Addr}{mA:Ov}{name:Str}{v:Value}
theorem Zdc{expr:Bool}(X:K.In s.heap)(I:Qo s.heap x dx C mA)(j:W.plainGet K C name=true)(g:W.hasDictIn K C=true)
  (ha:W.findIn K (.ref C) name=some none) (i:mA name=some v) (e:W.handedIn v=true) (h:Q v { s with toks:=s.toks+1 }) :
  wpAny (model prog w) A (getAttr (.ref x) name expr) Q E s:=by
 obtain⟨n,J,c⟩:=I.look;exact W.get_value X J (W.plainGet_of j).1 (W.findObj_own g ha R (by rw[c,i])) e h
theorem Zdd(X:K.In s.heap)(I:Qo s.heap x dx C mA)(c:W.plainGet K C name=true)
  (i:W.findIn K (.ref C) name=some (some (.ref f))) (g:W.isFn K (.ref f)=true) (n:mA name=none) (h:Q (.ref f,[.ref x]) s) :
  wpAny (model prog w) A (getMethod (.ref x) name pl) Q E s:=by
 obtain⟨j,J,e⟩:=I.look;exact W.method_fn X J (W.plainGet_of c).1 (W.plainGet_of c).2 i (beq_iff_eq.mp g) (by show(W.lookIn name j).map (·.isSome)=some false;rw[e,n];rfl) h
theorem Zde{ns:OB}(X:K.In s.heap)(I:Qo s.heap x dx C mA)
  (B:W.findIn K (.ref C) "__setattr__" = some (some (.builtin "object.__setattr__"))) (H:W.plainOver K C=true) (g:W.takerIn K C name=some none) (i:W.hasDictIn K C=true)
  (D:PySem.Within mA ns) (hsz:ns.length<=sizeLine)
  (h:∀h',Qo h' x dx C (fun y=>if y=name then some v else mA y)->Heap.SameBut dx s.heap h'->Q () { s with heap:=h',toks:=s.toks+2 }) :
  wpAny (model prog w) A (setAttr (.ref x) name v) Q E s:=by
 obtain⟨P,J,S⟩:=I.look;refine W.set_plain X J B (W.osa_open (s:={ s with toks:=s.toks+1 }) (r:=none) X J H g fun b=>?_);obtain⟨T,n,q⟩:=W.any_some i;have G:s.heap.get? x=some ⟨.ref C,some dx,.plain,#[]⟩:=I.obj;refine Sa (Sb (Sa (Sa (wpAny_loadPart G (Sa (W.Looks.here (s:={ s with toks:=s.toks+1 }) (W.looks_clsIn X n) ?_))))));rw[q];refine Sb (a:=some dx) (Sa (Sb (Sa ?_)));refine wpAny_nsSet1 (s:={ s with toks:=s.toks+1 }) I.ns fun h' c e=>?_;obtain⟨U,M,O,L,u,j⟩:=c.count (PySem.Within.cons name v D);refine Sa (wpAny_lookBehind L (by rw[u];exact pastItsLine_dict (Sh j (by rw[Sy];lia))) ?_);exact Sb (h _ ⟨(e.2 _ (Ne.symm I.ne)).trans I.obj,c,I.ne⟩ e)
theorem Zdf{R:Result->Shared->Prop}(X:K.In s.heap)(hm:W.makesIn K C=true)
  (hi:W.findIn K (.ref C) "__init__" = some (some (.ref f))) (e:W.typeIn K (.ref f)=some (.type "function"))
  (h:codeAny (model prog w) (A.under (.builtin "type.__call__" ⟨.ref C::vs,c⟩)) (.call (.ref f) ⟨.ref (s.heap.objs.size+1)::vs,c⟩) (W.InitBack (s.heap.objs.size+1) R)
   { s with heap:=(s.heap.push W.emptyDict).push (W.instObj C s.heap.objs.size) }) :
  codeAny (model prog w) A (.call (.ref C) ⟨vs,c⟩) R s:=by
 obtain⟨i,g,d,t,os⟩:=s;exact W.make_core (W.makes_of X hm) (W.looks_findIn X hi) (fun self=>W.bind_fn X self e) (.inl rfl) h
theorem Zdg{R:Result->Shared->Prop}(X:K.In s.heap)(hm:W.makesIn K C=true)
  (hi:W.findIn K (.ref C) "__init__" = some (some (.builtin "object.__init__")))
  (c:∀self,W.Looks (model prog w) s.heap (bindSpecial (.builtin "object.__init__") self) (.builtin "object.__init__",[self]))
  (h:codeAny (model prog w) (A.under (.builtin "type.__call__" ⟨[.ref C],[]⟩)) (.call (.builtin "object.__init__") ⟨[.ref (s.heap.objs.size+1)],[]⟩) (W.InitBack (s.heap.objs.size+1) R)
   { s with heap:=(s.heap.push W.emptyDict).push (W.instObj C s.heap.objs.size) }) :
  codeAny (model prog w) A (.call (.ref C) ⟨[],[]⟩) R s:=by
 obtain⟨e,g,d,t,os⟩:=s;exact W.make_core (W.makes_of X hm) (W.looks_findIn X hi) c (.inr ⟨rfl,rfl⟩) h
end
def ZV(f:Str)(v:V):List (Str×V)->List (Str×V)
 |[]=>[(f,v)]
 |(g,x)::r=>if g=f then (g,v)::r else (g,x)::ZV f v r
theorem zR(f g:Str)(v:V):∀fs:List (Str×V),(ZV f v fs).lookup g=if g=f then some v else fs.lookup g
 |[]=>by
  show List.lookup g [(f,v)]=_;by_cases h:g=f
  ·have c:(g == f)=true:=beq_iff_eq.mpr h
   simp only[List.lookup,c,SW h]
  ·have c:(g == f)=false:=beq_eq_false_iff_ne.mpr h
   simp only[List.lookup,c,SV h]
 |(k,x)::r=>by
  have j:=zR f g v r;rw[show ZV f v ((k,x)::r)=(if k=f then (k,v)::r else (k,x)::ZV f v r)from R];by_cases i:k=f
  ·rw[SW i]
   by_cases h:g=k
   ·have c:(g == k)=true:=beq_iff_eq.mpr h
    simp only[List.lookup,c,SW (h.trans i)]
   ·have c:(g == k)=false:=beq_eq_false_iff_ne.mpr h
    simp only[List.lookup,c,SV (fun e:g=f=>h (e.trans i.symm))]
  ·rw[SV i]
   by_cases h:g=k
   ·have c:(g == k)=true:=beq_iff_eq.mpr h
    simp only[List.lookup,c,SV (fun e:g=f=>i (h.symm.trans e))]
   ·have c:(g == k)=false:=beq_eq_false_iff_ne.mpr h
    simp only[List.lookup,c];exact j
theorem L8(f:Str)(v:V):∀fs:List (Str×V),f∈(ZV f v fs).map (·.1)/\∀g,g∈fs.map (·.1)->g∈(ZV f v fs).map (·.1)
 |[]=>⟨by simp[ZV],fun g h=>by simp at h⟩
 |(k,x)::r=>by
  obtain⟨j,i⟩:=L8 f v r;rw[show ZV f v ((k,x)::r)=(if k=f then (k,v)::r else (k,x)::ZV f v r)from R];by_cases c:k=f
  ·rw[SW c]
   subst c;exact⟨by simp,fun g h=>by simpa using h⟩
  ·rw[SV c]
   refine⟨?_,fun g h=>?_⟩
   ·rw[SM]
    exact SC _ j
   ·rw[SM]at h ⊢
    rcases SF.mp h with e|e
    ·exact SF.mpr (.inl e)
    ·exact SC _ (i g e)
theorem QT(f:Str)(v:V):∀fs:List (Str×V),(ZV f v fs).length<=fs.length+1
 |[]=>by simp[ZV]
 |(k,x)::r=>by
  have e:=QT f v r;rw[show ZV f v ((k,x)::r)=(if k=f then (k,v)::r else (k,x)::ZV f v r)from R];by_cases c:k=f
  ·rw[SW c,Sy,Sy];lia
  ·rw[SV c,Sy,Sy];lia
theorem XE.some_of(r:XE (some v) o):∃u,o=some u/\ZD v u:=by
 cases o with
 |none=>exact(show False from r).elim
 |some u=>exact⟨u,R,r⟩
theorem XE.none_of(r:XE none o):o=none:=by
 cases o with
 |none=>rfl
 |some u=>exact(show False from r).elim
theorem Zdh(r:ZD v u):W.handedIn u=true:=by
 cases v with
 |non=>cases (show u=Value.none from r);rfl
 |bl b=>cases (show u=Value.bool b from r);rfl
 |int i=>obtain⟨t,e⟩:=(show ∃t,u=Value.int i t from r);cases e;rfl
 |str x=>obtain⟨t,e⟩:=(show ∃t,u=Value.str x t from r);cases e;rfl
 |byt b=>obtain⟨t,e⟩:=(show ∃t,u=Value.bytes b t from r);cases e;rfl
 |flt b=>obtain⟨t,e⟩:=(show ∃t,u=Value.float b t from r);cases e;rfl
 |ref a=>cases (show u=Value.ref a from r);rfl
 |ty n=>cases (show u=Value.type n from r);rfl
section
variable{H':Hp}{h h':Heap}{a C dx:Addr}{fs fs':List (Str×V)}
theorem J2(hok:Yi P w H h)(e:H a=some (.ins C dx fs)):∃c,Qo h a dx C c/\(∀f,XE (fs.lookup f) (c f))/\PySem.Within c (fs.map (·.1))/\fs.length<=1000/\H dx=some (.own a):=by
 obtain⟨d,z,ne,ob,c,n,r,q⟩:=(show Yf P w H h a (.ins C dx fs)from hok a _ e);exact⟨c,⟨ob,n,ne⟩,r,q,z,d⟩
end
structure Yz(K:Ow)(C:Addr):Prop where
 pg:W.plainGet K C Str.empty=true
 hd:W.hasDictIn K C=true
 po:W.plainOver K C=true
 sa:W.findIn K (.ref C) "__setattr__" = some (some (.builtin "object.__setattr__"))
theorem Yz.get{C:Addr}(c:Yz K C)(f:Str):W.plainGet K C f=true:=c.pg
def Y5(K:Ow)(C:Addr)(f:Str):Prop:=W.findIn K (.ref C) f=some none
theorem Y5.taker{C:Addr}{f:Str}(n:Y5 K C f):W.takerIn K C f=some none:=by
 unfold W.takerIn;rw[show W.findIn K (.ref C) f=some none from n];rfl
structure Con(K:Ow)(C:Addr)(f:Str)(v:V)(u:Value):Prop where
 at_:W.findIn K (.ref C) f=some (some u)
 rel:ZD v u
 get:W.specialIn K u "__get__" = some none
 cp:W.copiedNames.contains f=false
structure Yu(K:Ow)(C:Addr)(m:Str)(f:Addr):Prop where
 at_:W.findIn K (.ref C) m=some (some (.ref f))
 fn:W.isFn K (.ref f)=true
 kp:W.keepIn K (.ref f)=true
section
variable{σ:St}{a C dx:Addr}{fs:List (Str×V)}{f:Str}{v:V}
theorem Zdi(I:Za X pins σ H s)(e:H a=some (.ins C dx fs))(c:Yz X.K C)(n:Y5 X.K C f)(l:fs.lookup f=some v)
  (h:∀u s',Za X pins σ H s'->ZD v u->Q u s'):wpAny (model X.prog X.w) A (getAttr (.ref a) f b) Q E s:=by
 obtain⟨i,O,r,_,_,_⟩:=J2 I.hok e;obtain⟨u,g,ru⟩:=XE.some_of (v:=v) (o:=i f) (by rw[<-l];exact r f);exact Zdc I.kIn O (c.get f) c.hd n g (Zdh ru) (h u _ (I.tok _) ru)
theorem D5(I:Za X pins σ H s)(e:H a=some (.ins C dx fs))(c:Yz X.K C)(k:Yu X.K C m g)(l:fs.lookup m=none)
  (h:Q (.ref g,[.ref a]) s):wpAny (model X.prog X.w) A (getMethod (.ref a) m pl) Q E s:=by
 obtain⟨i,O,r,_,_,_⟩:=J2 I.hok e;have hn:i m=none:=XE.none_of (by rw[<-l];exact r m);exact Zdd I.kIn O (c.get m) k.at_ k.fn hn h
theorem Zdj(I:Za X pins σ H s)(e:H a=some (.ins C dx fs))(c:Yz X.K C)(n:Y5 X.K C f)(T:fs.length<1000)(M:ZD y u)
  (h:∀s',Za X pins σ (upd H a (.ins C dx (ZV f y fs))) s'->Q () s'):wpAny (model X.prog X.w) A (setAttr (.ref a) f u) Q E s:=by
 obtain⟨D,O,r,j,_,B⟩:=J2 I.hok e;have S:(fs.map (·.1)).length<=sizeLine:=by rw[Sv,sizeLine_eq];lia
 refine Zde I.kIn O c.sa c.po n.taker c.hd j S fun J i L=>h _ ?_;have hd:∃o,J.get? dx=some o:=let ⟨o,_,_,e',_⟩:=i.ns;⟨o,e'⟩;refine I.write (x:=a) (e:=dx) (by rw[e];exact True.intro) (.inr B) (fun b q G z=>(L.2 b G).trans z) hd ?_;refine⟨by rw[Zd O.ne];exact B,?_,O.ne,i.obj,_,i.ns,fun g=>?_,fun g P=>?_⟩
 ·have:=QT f y fs;lia
 ·show XE ((ZV f y fs).lookup g) (if g=f then some u else D g)
  rw[zR];by_cases q:g=f
  ·rw[SW q,SW q];exact M
  ·rw[SV q,SV q];exact r g
 ·by_cases q:g=f
  ·rw[q];exact(L8 f y fs).1
  ·refine(L8 f y fs).2 g (j g fun z=>P ?_)
   show(if g=f then some u else D g)=none;rw[SV q];exact z
theorem Za.made(I:Za X pins σ H s):Za X pins σ (upd (upd H s.heap.objs.size (.own (s.heap.objs.size+1))) (s.heap.objs.size+1) (.ins C s.heap.objs.size []))
  { s with heap:=(s.heap.push W.emptyDict).push (W.instObj C s.heap.objs.size) }:=by
 have c:(s.heap.push W.emptyDict).get? s.heap.objs.size=some W.emptyDict:=Sd s.heap R;have h:((s.heap.push W.emptyDict).push (W.instObj C s.heap.objs.size)).get? (s.heap.objs.size+1)=some (W.instObj C s.heap.objs.size):=by
  have:=Sd (s.heap.push W.emptyDict) (o:=W.instObj C s.heap.objs.size) R
  rwa [Heap.size_push]at this
 have n:(s.heap.push W.emptyDict).Ns s.heap.objs.size (fun _=>none):=⟨W.emptyDict,#[],_,c,R,(fun e j=>Oq j (by simp)),fun _=>R⟩;have i:=I.laid (a:=s.heap.objs.size) (o:=.own (s.heap.objs.size+1)) (h':=s.heap.push W.emptyDict) (t':=s.toks) (fun b u q=>Sc _ q) (Sg _) ⟨_,c⟩;refine i.laid (a:=s.heap.objs.size+1) (o:=.ins C s.heap.objs.size []) (t':=s.toks) (fun b u q=>Sc _ q) (Nat.le_of_eq (Heap.size_push _ _)) ?_;have ne:s.heap.objs.size≠s.heap.objs.size+1:=Sf (Sm _);refine⟨by rw[Zd ne,Zg],Sk _,ne,h,fun _=>none,(Heap.Ns1.of_empty n).at fun o q=>Sc _ q,fun _=>True.intro,fun y g=>Oq rfl g⟩
theorem Zdk(c:attributeBase e f env (eval e env)=eval e env)
  (h:wpAny (model prog w) A (eval e env) (fun o g=>wpAny (model prog w) A (getAttr o f true) Q E g) E s):wpAny (model prog w) A (eval (.Attribute e f pos) env) Q E s :=
 Attribute_any_ h (by rw[arm_eval_Attribute,c])
end
inductive Zdl(K:Ow)(f:Str)(Q:VK)(x:V)(H1:Hp):Prop|mk a C dx fs v (_:x=.ref a) (_:H1 a=some (.ins C dx fs)) (_:Yz K C) (_:Y5 K C f) (_:fs.lookup f=some v) (_:Q v H1)
def Zdm(K:Ow)(e:TE)(f:Str):TE:=fun c H Q=>e c H fun x g=>Zdl K f Q x g
inductive Zdn(K:Ow)(f:Str)(D:Wr)(σ:St)(y:V)(x:V)(H2:Hp):Prop|mk a C dx fs (_:x=.ref a) (_:H2 a=some (.ins C dx fs)) (_:Yz K C) (_:Y5 K C f) (_:fs.length<1000) (_:D.nx σ (upd H2 a (.ins C dx (ZV f y fs))))
def Zdo(K:Ow)(e i:TE)(f:Str):TS:=fun D c H=>i c H fun y g=>e c g fun x h=>Zdn K f D c y x h
section
variable{o e value:Expr}{f:Str}{pos' tpos:Pos}{ta tv:TE}
theorem ZK(g:PE X e ta)(E:attributeBase e f X.env (eval e X.env)=eval e X.env):PE X (.Attribute e f pos) (Zdm X.K ta f):=by
 intro pins s j H Q I h;refine Zdk E (Zq (g pins s j H _ I h) fun u L ⟨x,D,G,i,a,C,J,fs,v,ex,B,c,n,l,q⟩=>?_);subst ex;obtain rfl:u=Value.ref a:=i;exact Zdi G B c n l fun M s2 y ru=>⟨v,D,y,ru,q⟩
theorem XG(ha:PE X o ta)(Q:PE X value tv)(v:swapsWith value (some (.Attribute o f pos')) pos.line X.env=pure false):PS X (.Assign [.Attribute o f pos'] value pos) (Zdo X.K ta tv f):=by
 intro pins s g H D I h;refine plainObj_wpAny_Assign_Attribute (Zq (Q pins s g H _ I h) fun u i ⟨y,G,O,P,q⟩=>Zq (ha pins i g G _ O q) fun J s2 ⟨x,U,B,j,a,C,S,fs,ex,E,c,n,l,M⟩=>?_) v;subst ex;obtain rfl:J=Value.ref a:=j;exact Zdj B E c n l P fun T L=>⟨g,_,L,M⟩
end
section
variable{σ:St}{Q:Ot}{c:Value}{b:Bool}
inductive X2(K:Ow)(H:Hp):V->Value->Prop where
 |non:X2 K H .non (.type "NoneType")
 |bl (x:Bool):X2 K H (.bl x) (.type "bool")
 |int (i:Int):X2 K H (.int i) (.type "int")
 |str (x:Str):X2 K H (.str x) (.type "str")
 |flt (x:UInt64):X2 K H (.flt x) (.type "float")
 |lst {a:Addr} {xs:List V} (e:H a=some (.lst xs)):X2 K H (.ref a) (.type "list")
 |frz {a:Addr} {o:Obj} {xs:List V} (e:H a=some (.frz o (.lst xs))):X2 K H (.ref a) (.type "list")
 |tup {a:Addr} {xs:List V} (e:H a=some (.tup xs)):X2 K H (.ref a) (.type "tuple")
 |dK {a:Addr} {kvs:List (Zt×V)} (e:H a=some (.dK kvs)):X2 K H (.ref a) (.type "dict")
 |dT {a:Addr} {kvs:List (List Zt×V)} (e:H a=some (.dT kvs)):X2 K H (.ref a) (.type "dict")
 |ins {a C dx:Addr} {fs:List (Str×V)} (e:H a=some (.ins C dx fs)) (cl:Yz K C) (ha:W.findIn K (.ref C) "__class__" = some (some (.builtin "object.__class__")))
   (hn:W.specialIn K (.builtin "object.__class__") "__get__" = some (some (.builtin "getset_descriptor.__get__"))) (htk:W.takesIn K (.builtin "object.__class__")=some true)
   (hm:W.mroIn K C (.type "object")=some true):X2 K H (.ref a) (.ref C)
theorem zS(I:Za X pins σ H s)(f:ZD x u)(ty:X2 X.K H x t)(e:W.kitOne X.K t c=some b)(h:∀tk,Q (.bool b) { s with toks:=tk }) :
  wpAny (model X.prog X.w) A (call (.builtin "isinstance") [u,c]) Q E s:=by
 cases ty with
 |non=>cases (show u=Value.none from f);exact W.kia_one W.kitx_none I.kIn True.intro e (fun z=>nomatch z) h
 |bl y=>cases (show u=Value.bool y from f);exact W.kia_one W.kitx_bool I.kIn True.intro e (fun z=>nomatch z) h
 |int i=>obtain⟨t,q⟩:=(show ∃t,u=Value.int i t from f);cases q;exact W.kia_one W.kitx_int I.kIn True.intro e (fun z=>nomatch z) h
 |str y=>obtain⟨t,q⟩:=(show ∃t,u=Value.str y t from f);cases q;exact W.kia_one W.kitx_str I.kIn True.intro e (fun z=>nomatch z) h
 |flt y=>obtain⟨t,q⟩:=(show ∃t,u=Value.float y t from f);cases q;exact W.kia_one W.kitx_float I.kIn True.intro e (fun z=>nomatch z) h
 |@lst a v g =>
  cases (show u=Value.ref a from f);obtain⟨_,_,n,_,j⟩:=(show Yf X.prog X.w H s.heap a (.lst v)from I.hok a _ g);exact W.kia_one W.kitx_list I.kIn ⟨_,j,R⟩ e (fun z=>nomatch z) h
 |@frz a ob v g =>
  cases (show u=Value.ref a from f);obtain⟨_,_,_,n,_,j⟩:=(show Yf X.prog X.w H s.heap a (.frz ob (.lst v))from I.hok a _ g);exact W.kia_one W.kitx_list I.kIn ⟨_,j,R⟩ e (fun z=>nomatch z) h
 |@tup a v g =>
  cases (show u=Value.ref a from f);obtain⟨_,_,_,p⟩:=(show Yf X.prog X.w H s.heap a (.tup v)from I.hok a _ g);obtain⟨o,j,B,_⟩:=p;exact W.kia_one W.kitx_tuple I.kIn ⟨o,j,B⟩ e (fun z=>nomatch z) h
 |@dK a D g =>
  cases (show u=Value.ref a from f);obtain⟨_,_,U,_,p⟩:=(show Yf X.prog X.w H s.heap a (.dK D)from I.hok a _ g);obtain⟨o,L,G,j,B,_⟩:=p;exact W.kia_one W.kitx_dict I.kIn ⟨o,j,B.1⟩ e (fun z=>nomatch z) h
 |@dT a D g =>
  cases (show u=Value.ref a from f);obtain⟨_,_,v,_,o,L,G,j,B,_⟩:=(show Yf X.prog X.w H s.heap a (.dT D)from I.hok a _ g);exact W.kia_one W.kitx_dict I.kIn ⟨o,j,B.1⟩ e (fun z=>nomatch z) h
 |@ins a C P fs g cl ha hn M hm =>
  cases (show u=Value.ref a from f);obtain⟨S,O,_⟩:=J2 I.hok g;obtain⟨T,J,_⟩:=O.look;exact W.kia_one (W.kitx_own (cl.get _) cl.hd ha hn M hm) I.kIn J e (fun z=>nomatch z) h
end
structure Yb(k:Nat)(A:Around):Prop where
 hd:A.handled=none
 dp:A.depth+3*k+5<recursionLimit
 un:A.units+16*k+200<cLine
theorem Yb.mono(r:Yb k A)(h:j<=k):Yb j A:=⟨r.hd,by have:=r.dp;lia,by have:=r.un;lia⟩
theorem Yb.deeper(r:Yb (k+1) A)(env:Env):Yb k (A.deeper env) :=
 ⟨r.hd,by have:=r.dp;show A.depth+1+3*k+5<_;lia,by have:=r.un;show A.units+3+16*k+200<_;lia⟩
theorem Yb.in1(r:Yb (k+1) A):Yb k A.in1 :=
 ⟨r.hd,by have:=r.dp;show A.depth+3*k+5<_;lia,by have:=r.un;show A.units+1+16*k+200<_;lia⟩
theorem Zdp:(A.under (.builtin "type.__call__" ⟨.ref C::us,c⟩)).depth=A.depth+1:=by
 first|rfl|simp[Around.under,Code.weight,Code.isCreation,Code.isGuard,Code.isCaller,Code.frames,Code.isFrame,guardIds]
theorem Zdq:(A.under (.builtin "type.__call__" ⟨.ref C::us,c⟩)).units=A.units+1:=by
 first|rfl|simp[Around.under,Code.cUnits,Code.frames,Code.isFrame]
theorem Yb.make(r:Yb (k+1) A)(C:Addr)(us:OA)(c:List (Str×Value)):Yb k (A.under (.builtin "type.__call__" ⟨.ref C::us,c⟩)) :=
 ⟨r.hd,by have:=r.dp;rw[Zdp];lia,by have:=r.un;rw[Zdq];lia⟩
theorem Yb.depth(r:Yb k A):A.depth<recursionLimit:=by have:=r.dp;lia
theorem Yb.units(r:Yb k A):A.units+64<cLine:=by have:=r.un;lia
theorem Yb.units0(r:Yb k A):A.units<cLine:=by have:=r.un;lia
def Yv:TA:=fun _ H Q=>Q [] H
def ZZ(f:TE)(e:TA):TA:=fun c H Q=>f c H fun x h=>e c h fun g i=>Q (x::g) i
section
variable{e:Expr}{es:OC}{te:TE}{t:TA}
theorem Xl:PA X [] Yv:=fun _ _ _ _ H Q I h=>Calls.spliced_nil ⟨[],H,I,.nil,h⟩
theorem zT(ha:PE X e te)(y:PA X es t)(j:starEach (e::es) X.env=(false,eval e X.env)::starEach es X.env:=by rfl):PA X (e::es) (ZZ te t):=by
 intro pos pins s c H Q I h;rw[j];show wpAny _ _ (spliced ((false,eval e X.env)::backTo pos (starEach es X.env))) _ _ s;refine Calls.spliced_cons (Zq (ha pins s c H _ I h) fun u g ⟨x,q,D,r1,f⟩=>?_);exact Zq (y pos pins g c q _ D f) fun E s2 ⟨i,v,n,B,C⟩=>⟨x::i,v,n,.cons r1 B,C⟩
def Zdr(t:TA):TE:=fun g H Q=>t g H fun c f=>c.length<=sizeLine/\∀p,f p=none->Q (.ref p) (upd f p (.tup c))
def D6(t:TA):TE:=fun g H Q=>t g H fun c f=>c.length<=sizeLine/\∀p,f p=none->Q (.ref p) (upd f p (.lst c))
theorem Ym{x1}(h:PA X es t):PE X (.Tuple es x1 pos) (Zdr t):=by
 intro pins s i H Q I j;refine wpAny_Tuple_spliced (Zq (h pos pins s i H _ I j) fun n c ⟨v,f,g,r,z,q⟩=>⟨by rw[<-r.length];exact z,?_⟩);have x:f c.heap.objs.size=none:=g.hok.fresh (Sg _);refine⟨.ref c.heap.objs.size,upd f c.heap.objs.size (.tup v),g.laid (t':=c.toks) (fun b u e=>Sc _ e) (Sg _) ?_,R,q _ x⟩;exact⟨z,n,r,⟨_,Sd _ R,R,_,R⟩⟩
theorem Z5(h:PA X es t):PE X (.List es pos) (D6 t):=by
 intro pins s i H Q I j;refine wpAny_List_spliced (Zq (h pos pins s i H _ I j) fun n c ⟨v,f,g,r,z,q⟩=>⟨by rw[<-r.length];exact z,?_⟩);have x:f c.heap.objs.size=none:=g.hok.fresh (Sg _);refine⟨.ref c.heap.objs.size,upd f c.heap.objs.size (.lst v),g.laid (t':=c.toks) (fun b u e=>Sc _ e) (Sg _) ?_,R,q _ x⟩;exact⟨z,n,0,r,Sd _ R⟩
end
abbrev Sp:=List V->Hp->VK->XK->Prop
abbrev XT:=List Env->Hp->Shared->XK->Value->Shared->Prop
structure Ve(P:Program)(w:World)(K:Ow)(mg:Ov)(base:Heap)(A:Around)(outer:List Env)(s:Shared)(H:Hp):Prop where
 frames:A.frames=some outer
 mod:Mod K mg base
 bs:∀b o,base.get? b=some o->s.heap.get? b=some o/\H b=none
 bsz:base.objs.size<=s.heap.objs.size
 funs:s.heap.FunFrames base outer
 frf:∀b∈Yl outer,H b=none
 hok:Yi P w H s.heap
 bare:AllBare s.gens
inductive CE(outer:List Env)(P:Program)(w:World)(H:Hp)(s:Shared)(Q:VK)(u:Value)(s':Shared):Prop|mk v H' (_:s'.os=s.os) (_:AllBare s'.gens) (_:Un (Yl outer) [] H H' s.heap s'.heap) (_:Yi P w H' s'.heap) (_:ZD v u) (_:Q v H')
def CR(CX:XT)(outer:List Env)(P:Program)(w:World)(H:Hp)(s:Shared)(Q:VK)(E:XK)(r:Result)(s':Shared):Prop :=
 match r with
 |.ok (.ret u)=>CE outer P w H s Q u s'
 |.ok _=>False
 |.error e=>CX outer H s E e s'
structure Zn(P:Program)(w:World)(K:Ow)(mg:Ov)(base:Heap)(CX:XT)(k:Nat)(f:Addr)(fd:OI)(ps:OB)(sp:Sp):Prop where
 len:∀vs H Q E,sp vs H Q E->vs.length=ps.length
 run:∀(A:Around) (outer:List Env) (s:Shared) (H:Hp) (args:Args) (us:OA) (vs:List V) (Q:VK) (E:XK),Yb k A->Ve P w K mg base A outer s H->BindsTo s fd args (ps.zip us)->Zx vs us->sp vs H Q E ->
  codeAny (model P w) A (.call (.ref f) args) (CR CX outer P w H s Q E) s
theorem Zn.mono{CX:XT}{j k:Nat}{f:Addr}{e:OI}{c:OB}{sp:Sp}(F:Zn P w K mg base CX j f e c sp)(h:j<=k) :
  Zn P w K mg base CX k f e c sp:=⟨F.len,fun A outer s H args i g Q E n=>F.run A outer s H args i g Q E (n.mono h)⟩
theorem Zn.imp{CX:XT}{k:Nat}{f:Addr}{e:OI}{c:OB}{sp g:Sp}(F:Zn P w K mg base CX k f e c sp)
  (h:∀vs H Q E,g vs H Q E->sp vs H Q E):Zn P w K mg base CX k f e c g :=
 ⟨fun vs H Q E q=>F.len vs H Q E (h _ _ _ _ q),fun A outer s H args j vs Q E v u i x n=>F.run A outer s H args j vs Q E v u i x (h _ _ _ _ n)⟩
theorem Ve.make{outer:List Env}(e:Ve P w K mg base A outer s H)(C:Addr)(us:OA)(c:List (Str×Value)) :
  Ve P w K mg base (A.under (.builtin "type.__call__" ⟨.ref C::us,c⟩)) outer s H:=⟨by first|exact e.frames|(simpa [Around.under,Code.envs,Code.isFrame,pushEnvs]using e.frames),e.mod,e.bs,e.bsz,e.funs,e.frf,e.hok,e.bare⟩
section
variable{σ:St}{s':Shared}
theorem Za.env0(I:Za X pins σ H s):Ve X.prog X.w X.K X.mg X.base X.A X.stack s H :=
 ⟨I.ok.frames,I.ok.mod,I.bs,Sh I.ok.bsz I.sz,I.stack,I.stkFree,I.hok,I.bare⟩
theorem Za.after(I:Za X pins σ H s)(h:CE X.stack X.prog X.w H s Q u s'):EP X pins σ Q u s':=by
 obtain⟨v,e,os,bare,un,hok,r,q⟩:=h;obtain⟨f,g,d,t,c⟩:=s';obtain rfl:c=s.os:=os;exact⟨v,e,I.call (h':=f) (g':=g) (d':=d) (t':=t) (ch:=[]) un hok bare (fun b z=>Oq z (by simp)),r,q⟩
end
def Ma(sp:Sp)(dvs:List V)(E:XK)(t:TA):TE:=fun c H Q=>t c H fun e f=>sp (e++dvs) f Q E
inductive Zds(C:Addr)(m:Str)(sp:Sp)(dvs:List V)(E:XK)(t:TA)(σ:St)(Q:VK)(x:V)(H1:Hp):Prop|mk a dx fs (_:x=.ref a) (_:H1 a=some (.ins C dx fs)) (_:fs.lookup m=none) (_:t σ H1 fun vs H2=>sp (x::(vs++dvs)) H2 Q E)
def zU(C:Addr)(m:Str)(sp:Sp)(dvs:List V)(E:XK)(e:TE)(t:TA):TE:=fun c H Q=>e c H fun x f=>Zds C m sp dvs E t c Q x f
def zV(C:Addr)(sp:Sp)(dvs:List V)(E:XK)(t:TA):TE:=fun f H Q=>t f H fun g e=>∀x c,e x=none->e c=none->c≠x ->
 sp (.ref x::(g++dvs)) (upd (upd e c (.own x)) x (.ins C c [])) (fun v h=>v=.non/\Q (.ref x) h) E
def Xm(K:Ow)(e:OI)(c:OB)(ds:OA):Prop :=
 ∀(s:Shared) (us:OA),K.In s.heap->(us++ds).length=c.length->BindsTo s e ⟨us,[]⟩ (c.zip (us++ds))
theorem Xm.all{f:OI}{c:OB}(h:∀us:List Value,us.length=c.length->bindArgs f ⟨us,[]⟩=pure (c.zip us)):Xm K f c []:=fun s us _ e=>by
 rw[Oc]at e ⊢;exact .of_eq (h us e)
def WC(CX:XT)(X:Cx)(E:XK):Prop:=∀(pins:Ou) (σ:St) (H:Hp) (s:Shared) (e:Value) (s':Shared),Za X pins σ H s->CX X.stack H s E e s'->X.xe e s'
section
variable{CX:XT}{k:Nat}{f C:Addr}{fd:OI}{ps:OB}{sp:Sp}{dvs:List V}{ds:OA}{E:XK}{x m:Str}{p apos:Pos}{e o:Expr}{es:OC}{ta:TE}{t:TA}
theorem Qp(F:Zn X.prog X.w X.K X.mg X.base CX k f fd ps sp)(v:Yb k X.A)(n:Xm X.K fd ps ds)(hd:Zx dvs ds)(y:WC CX X E)
  (I:Za X pins g H s) (r:Zx vs us) (h:sp (vs++dvs) H Q E):wpAny (model X.prog X.w) X.A (call (.ref f) us) (EP X pins g Q) X.xe s:=by
 have i:Zx (vs++dvs) (us++ds):=r.append hd;have j:(us++ds).length=ps.length:=by rw[<-i.length];exact F.len _ _ _ _ h
 refine wpAny_call (codeAny_mono (F.run X.A X.stack s H ⟨us,[]⟩ (us++ds) (vs++dvs) Q E v I.env0 (n s us I.kIn j) i h) fun r q c=>?_);cases r with
 |error e=>exact y pins g H s e q I c
 |ok fl =>
  cases fl with
  |ret u=>exact I.after c
  |next=>exact False.elim c
  |brk=>exact False.elim c
  |cont=>exact False.elim c
theorem Wu(F:Zn X.prog X.w X.K X.mg X.base CX k f fd ps sp)(y:Yb k X.A)(j:Gl X x)(hm:X.mg x=some (.ref f))(i:W.keepIn X.K (.ref f)=true)(B:Xm X.K fd ps ds)(hd:Zx dvs ds)(v:WC CX X E)
  (ha:PA X (e::es) t) (D:(x == ("__debug__" : Str))=false:=by lia) (g:starEach (e::es) X.env=(false,eval e X.env)::starEach es X.env:=by rfl) (u:(backTo pos (starEach es X.env)).any (·.1)=false:=by rfl) :
  PE X (.Call (.Name x p) (e::es) [] pos) (Ma sp dvs E t):=by
 intro pins s n H Q I h;refine wpAny_Call_Name_kw (Ut I j hm ?_ D);refine W.callWith_K (h₀:=X.base) I.ok.mod.kin i (Zq (ha pos pins s n H _ I h) fun J G ⟨M,L,c,r,q⟩=>⟨c.kIn,?_⟩) g u;exact Qp F y B hd v c r q
theorem Zdt(F:Zn X.prog X.w X.K X.mg X.base CX k f fd ps sp)(g:Yb k X.A)(q:Gl X x)(hm:X.mg x=some (.ref f))(i:W.keepIn X.K (.ref f)=true)(c:Xm X.K fd ps ds)(hd:Zx dvs ds)(j:WC CX X E)
  (n:(x == ("__debug__" : Str))=false:=by lia):PE X (.Call (.Name x p) [] [] pos) (Ma sp dvs E Yv):=by
 intro pins s u H Q I h;refine wpAny_Call_Name_kw (Ut I q hm ?_ n);exact W.callWith_K0 I.kIn i (Qp (us:=[]) F g c hd j I .nil h)
theorem YY(D:PE X o ta)(c:Yz X.K C)(hm:Yu X.K C m f)(F:Zn X.prog X.w X.K X.mg X.base CX k f fd ps sp)(P:Yb k X.A)(S:Xm X.K fd ps ds)(hd:Zx dvs ds)(L:WC CX X E)(ha:PA X (e::es) t)
  (B:starEach (e::es) X.env=(false,eval e X.env)::starEach es X.env:=by rfl) (J:(backTo pos (starEach es X.env)).any (·.1)=false:=by rfl)
  (y:eval (.Call (.Attribute o m apos) (e::es) [] pos) X.env=(do
   let j <-eval o X.env
   standAt apos.atName
   let (f,first) <-holding [j] (getMethod j m pl)
   callWith pos f first (backTo pos (starEach (e::es) X.env)) (backToKw pos (keywordEach [] X.env))):=by rfl) :
  PE X (.Call (.Attribute o m apos) (e::es) [] pos) (zU C m sp dvs E ta t):=by
 intro pins s g H Q I h;refine W.methodCall_KW (pl:=pl) (Zq (D pins s g H _ I h) fun u v ⟨x,O,n,G,a,U,fs,ex,M,l,q⟩=>?_) y;subst ex;obtain rfl:u=Value.ref a:=G;refine D5 n M c hm l ?_;refine W.callWith_K (first:=[.ref a]) (h₀:=X.base) I.ok.mod.kin hm.kp (Zq (ha pos pins v g O _ n q) fun us s2 ⟨vs,Y,i,r,T⟩=>⟨i.kIn,?_⟩) B J;exact Qp (us:=.ref a::us) (vs:=.ref a::vs) F P S hd L i (.cons R r) T
theorem zW(n:PE X o ta)(c:Yz X.K C)(hm:Yu X.K C m f)(F:Zn X.prog X.w X.K X.mg X.base CX k f fd ps sp)(G:Yb k X.A)(J:Xm X.K fd ps ds)(hd:Zx dvs ds)(B:WC CX X E)
  (j:eval (.Call (.Attribute o m apos) [] [] pos) X.env=(do
   let i <-eval o X.env
   standAt apos.atName
   let (f,first) <-holding [i] (getMethod i m pl)
   callWith pos f first (backTo pos (starEach [] X.env)) (backToKw pos (keywordEach [] X.env))):=by rfl) :
  PE X (.Call (.Attribute o m apos) [] [] pos) (zU C m sp dvs E ta Yv):=by
 intro pins s y H Q I h;refine W.methodCall_KW (pl:=pl) (Zq (n pins s y H _ I h) fun u M ⟨x,O,g,v,a,L,fs,ex,D,l,q⟩=>?_) j;subst ex;obtain rfl:u=Value.ref a:=v;refine D5 g D c hm l ?_;exact W.callWith_K0 (first:=[.ref a]) g.kIn hm.kp (Qp (us:=[.ref a]) (vs:=[.ref a]) F G J hd B g (.cons R .nil) q)
structure Mk(K:Ow)(C f:Addr):Prop where
 makes:W.makesIn K C=true
 init:W.findIn K (.ref C) "__init__" = some (some (.ref f))
 fn:W.isFn K (.ref f)=true
 kp:W.keepIn K (.ref C)=true
theorem zX(M:Mk X.K C f)(F:Zn X.prog X.w X.K X.mg X.base CX k f fd ps sp)(P:Yb (k+1) X.A)(T:Xm X.K fd ps ds)(hd:Zx dvs ds)
  (B:WC CX X E) (I:Za X pins j H s) (r:Zx vs us)
  (h:∀x g,H x=none->H g=none->g≠x->sp (.ref x::(vs++dvs)) (upd (upd H g (.own x)) x (.ins C g [])) (fun v L=>v=.non/\Q (.ref x) L) E) :
  wpAny (model X.prog X.w) X.A (call (.ref C) us) (EP X pins j Q) X.xe s:=by
 have q:=h (s.heap.objs.size+1) s.heap.objs.size (I.hok.fresh (Nat.le_succ _)) (I.hok.fresh (Sg _)) (Sf (Sm _));have i:=Za.made (C:=C) I;have n:Zx (V.ref (s.heap.objs.size+1)::(vs++dvs)) (Value.ref (s.heap.objs.size+1)::(us++ds)):=.cons R (r.append hd);have D:(Value.ref (s.heap.objs.size+1)::us++ds).length=ps.length:=by
  have e:=n.length;rw[F.len _ _ _ _ q]at e;exact e.symm
 refine wpAny_call (Zdf (f:=f) I.kIn M.makes M.init (beq_iff_eq.mp M.fn) (codeAny_mono (F.run _ X.stack _ _ ⟨Value.ref (s.heap.objs.size+1)::us,[]⟩ (Value.ref (s.heap.objs.size+1)::(us++ds)) _ _ E (P.make C us [])
  (i.env0.make C us []) (T _ (Value.ref (s.heap.objs.size+1)::us) i.kIn D) n q) fun r G c=>?_))
 cases r with
 |error e=>exact B pins j _ _ e G i c
 |ok fl =>
  cases fl with
  |ret u =>
   obtain⟨v,U,S,J,y,O⟩:=i.after c;subst y;exact⟨J,⟨V.ref (s.heap.objs.size+1),U,S,R,O⟩⟩
  |next=>exact False.elim c
  |brk=>exact False.elim c
  |cont=>exact False.elim c
theorem WT(M:Mk X.K C f)(F:Zn X.prog X.w X.K X.mg X.base CX k f fd ps sp)(v:Yb (k+1) X.A)(B:Gl X x)(hm:X.mg x=some (.ref C))(j:Xm X.K fd ps ds)(hd:Zx dvs ds)(y:WC CX X E)
  (ha:PA X (e::es) t) (n:(x == ("__debug__" : Str))=false:=by lia) (u:starEach (e::es) X.env=(false,eval e X.env)::starEach es X.env:=by rfl) (i:(backTo pos (starEach es X.env)).any (·.1)=false:=by rfl) :
  PE X (.Call (.Name x p) (e::es) [] pos) (zV C sp dvs E t):=by
 intro pins s g H Q I h;refine wpAny_Call_Name_kw (Ut I B hm ?_ n);refine W.callWith_K (h₀:=X.base) I.ok.mod.kin M.kp (Zq (ha pos pins s g H _ I h) fun J G ⟨D,L,c,r,q⟩=>⟨c.kIn,?_⟩) u i;exact zX M F v j hd y c r q
theorem Zdu(M:Mk X.K C f)(F:Zn X.prog X.w X.K X.mg X.base CX k f fd ps sp)(g:Yb (k+1) X.A)(n:Gl X x)(hm:X.mg x=some (.ref C))(c:Xm X.K fd ps ds)(hd:Zx dvs ds)(i:WC CX X E)
  (j:(x == ("__debug__" : Str))=false:=by lia):PE X (.Call (.Name x p) [] [] pos) (zV C sp dvs E Yv):=by
 intro pins s q H Q I h;refine wpAny_Call_Name_kw (Ut I n hm ?_ j);exact W.callWith_K0 I.kIn M.kp (zX (us:=[]) M F g c hd i I .nil h)
end
def PK(X:Cx)(e:List Keyword)(t:TA):Prop :=
 ∀(c:Pos) (pins:Ou) (s:Shared) (σ:St) (H:Hp) (Q:List V->Hp->Prop),Za X pins σ H s->t σ H Q->wpAny (model X.prog X.w) X.A (evalAll ((backToKw c (keywordEach e X.env)).map (·.2))) (AP X pins σ Q) X.xe s
section
variable{CX:XT}{k:Nat}{f C:Addr}{fd:OI}{ps ks:OB}{sp:Sp}{E:XK}{x m:Str}{p apos kpos:Pos}{e o:Expr}{es:OC}{kws:List Keyword}{te ta:TE}{t tk:TA}{nm:Option Str}
theorem zY:PK X [] Yv:=fun _ _ _ _ H Q I h=>wpAny_evalAll_nil ⟨[],H,I,.nil,h⟩
theorem zZ(ha:PE X e te)(J:PK X kws t):PK X (⟨nm,e,kpos⟩::kws) (ZZ te t):=by
 intro pos pins s c H Q I h;show wpAny _ _ (evalAll ((do let v <-eval e X.env;standAt pos;pure v)::(backToKw pos (keywordEach kws X.env)).map (·.2))) _ _ s;refine wpAny_evalAll_cons (Sa (Zq (ha pins s c H _ I h) fun u j ⟨x,n,y,r1,g⟩=>Sa (wpAny_standAt (Sb ?_))));exact Zq (J pos pins j c n _ y g) fun L s2 ⟨q,G,D,i,B⟩=>⟨x::q,G,D,.cons r1 i,B⟩
structure Zk5(K:Ow)(fd:OI)(ps ks:OB)(g:List Value->List Value->List Value)(gV:List V->List V->List V):Prop where
 to:∀(s:Shared) (us ws:OA),K.In s.heap->(g us ws).length=ps.length->BindsTo s fd ⟨us,ks.zip ws⟩ (ps.zip (g us ws))
 rel:∀{vs:List V} {us:OA} {zs:List V} {ws:OA},Zx vs us->Zx zs ws->Zx (gV vs zs) (g us ws)
variable{g:List Value->List Value->List Value}{gV:List V->List V->List V}
end
structure Zy(N P:OB)(sc:Scope):Prop where
 kind:sc.kind=.function
 co:sc.isCoroutine=false
 gen:sc.isGenerator=false
 nd:N.Nodup
 pre:N.take P.length=P
 par:∀x∈P,sc.names.lookup x=some .local\/sc.names.lookup x=some .cell
 nofree:∀y∈sc.names,y.2≠.free
theorem yA{kindOf:Str->Option NameKind}{x:Str}:∀{binds:List (Str×Value)} {m:Ov},(∀v,(x,v)∉binds)->bindL kindOf binds m x=m x
 |[],_,_=>rfl
 |(n,v)::r,m,h=>by
  unfold bindL;rw[yA fun w c=>h w (SC _ c)]
  split
  ·have:x≠n:=by rintro rfl;exact h v SD
   simp[this]
  ·rfl
theorem yB{kindOf:Str->Option NameKind}{x:Str}:∀{binds:List (Str×Value)} {m:Ov},(∀v,(x,v)∉binds)->bindC kindOf binds m x=m x
 |[],_,_=>rfl
 |(n,v)::r,m,h=>by
  unfold bindC;rw[yB fun w c=>h w (SC _ c)]
  split
  ·rfl
  ·have:x≠n:=by rintro rfl;exact h v SD
   simp[this]
theorem yC{kindOf:Str->Option NameKind}{x:Str}{v:Value}:∀{P:OB} {vs:OA} {i:Nat} {m:Ov},P.Nodup->P[i]? = some x->vs[i]? = some v->kindOf x=some .local ->
  bindL kindOf (P.zip vs) m x=some v
 |[],_,_,_,_,h,_,_=>by simp at h
 |_::_,[],_,_,_,_,h,_=>by simp at h
 |p::P,w::vs,0,m,nd,h1,c,e=>by
  simp at h1 c;subst h1;subst c;show bindL kindOf ((p,w)::P.zip vs) m p=_;unfold bindL;rw[yA fun v f=>(Ol.mp nd).1 (List.of_mem_zip f).1,SW e];simp
 |p::P,w::vs,i+1,m,nd,h1,c,e=>by
  show bindL kindOf ((p,w)::P.zip vs) m x=_;unfold bindL;exact yC (i:=i) (Ol.mp nd).2 (by simpa using h1) (by simpa using c) e
theorem yD{kindOf:Str->Option NameKind}{x:Str}{v:Value}:∀{P:OB} {vs:OA} {i:Nat} {m:Ov},P.Nodup->P[i]? = some x->vs[i]? = some v->kindOf x≠some .local ->
  bindC kindOf (P.zip vs) m x=some v
 |[],_,_,_,_,h,_,_=>by simp at h
 |_::_,[],_,_,_,_,h,_=>by simp at h
 |p::P,w::vs,0,m,nd,h1,c,e=>by
  simp at h1 c;subst h1;subst c;show bindC kindOf ((p,w)::P.zip vs) m p=_;unfold bindC;rw[yB fun v f=>(Ol.mp nd).1 (List.of_mem_zip f).1,SV e];simp
 |p::P,w::vs,i+1,m,nd,h1,c,e=>by
  show bindC kindOf ((p,w)::P.zip vs) m x=_;unfold bindC;exact yD (i:=i) (Ol.mp nd).2 (by simpa using h1) (by simpa using c) e
def WD(N:OB)(vs:List V):St:=vs.map some++List.replicate (N.length - vs.length) none
def Wv(CX:XT)(P:Program)(w:World)(K:Ow)(mg:Ov)(base:Heap)(N:OB)(qual:Str)(scope:Scope)(f:Addr)(cd:Value)(A:Around)(outer:List Env)(s:Shared)(H:Hp)(E:XK):Cx where
 prog:=P
 w:=w
 K:=K
 mg:=mg
 base:=base
 A:=A.deeper (envOfC qual scope s.heap.objs.size f cd)
 N:=N
 s₀:=s
 H₀:=H
 env:=envOfC qual scope s.heap.objs.size f cd
 outer:=outer
 stack:=envOfC qual scope s.heap.objs.size f cd::outer
 ex:=[]
 calm:=true
 fn:=fun _=>true
 pn:=[]
 xe:=fun e g=>wpAny (model P w) (A.deeper (envOfC qual scope s.heap.objs.size f cd)) (leaving (envOfC qual scope s.heap.objs.size f cd) e) (fun _ c=>CX outer H s E e c) (fun h c=>CX outer H s E h c) g
theorem yE{e:Scope}(h:e.names.lookup x=some .cell):∃c,(cellsFrom n e.names []).lookup x=some c:=by
 have q:=W.cellsFrom_some e.names n [] (.inl h);exact Option.isSome_iff_exists.mp q
theorem yF{CX:XT}{N B:OB}{qual:Str}{f:Addr}{cd:Value}{outer:List Env}{L:Shared}{E:XK}{us:OA}{vs:List V}
  (S:Zy N B scope) (hd:A.handled=none) (j:Ve P w K mg base A outer s H) (Y:vs.length=B.length) (r:Zx vs us)
  (x:InCallC s s.heap.objs.size (bindL (envOfC qual scope s.heap.objs.size f cd).kindOf (B.zip us) fun _=>none) (cellsFrom (s.heap.objs.size+1) scope.names []) (bindC (envOfC qual scope s.heap.objs.size f cd).kindOf (B.zip us) fun _=>none) L) :
  Za (Wv CX P w K mg base N qual scope f cd A outer s H E) [] (WD N vs) H L:=by
 have X:B.length<=N.length:=by have:=congrArg List.length S.pre;rw[Sx]at this;lia
 obtain⟨I,tk,rfl,M⟩:=x.done;have J:∀b:Addr,b∉(Wv CX P w K mg base N qual scope f cd A outer s H E).ex:=fun b z=>Oq (show b∈([]:OG)from z) (by simp);refine⟨⟨j.mod,S.kind,R,R,Sg _,fun y z c I g=>?_,fun y C=>?_,fun y c _ h=>?_,fun _=>hd,Around.frames_deeper j.frames,.inr ⟨R,R⟩,fun b z=>Oq z (J b),j.bs,j.bsz,fun b _ _=>J b,fun b z=>Oq z (J b),j.funs,j.frf⟩,
  rfl,j.bare,Un.kept M,⟨_,x.toInCall.ns,fun i y v I g U=>?_⟩,fun y c h=>⟨_,x.cell y c h⟩,j.hok.fresh (Sg _),fun y c h=>?_,fun p D=>Oq (show p∈([]:Ou)from D) (by simp),j.hok.kept M,?_⟩
 ·exact name_of_addr x.apart (PySem.mem_of_lookup I) (PySem.mem_of_lookup g)
 ·have C:scope.names.lookup y=some .cell\/scope.names.lookup y=some .free:=C
  rcases C with C|C
  ·exact yE C
  ·exact Oq R (S.nofree _ (PySem.mem_of_lookup C))
 ·exact Nat.le_of_lt (x.above y c (PySem.mem_of_lookup h))
 ·have G:i<vs.length:=by
   unfold WD at g;by_cases G:i<vs.length
   ·exact G
   ·rw[Ob (by simpa using G)]at g
    rw[List.getElem?_replicate]at g
    split at g<;>cases g
  have ha:vs[i]? = some v:=by
   unfold WD at g;rw[List.getElem?_append_left (by simpa using G),Oa]at g;cases e:vs[i]? with
   |none=>rw[e]at g;cases g
   |some a=>rw[e]at g;cases g;rfl
  obtain⟨u,Q,T⟩:=r.get ha;have D:B[i]? = some y:=by
   rw[<-S.pre,List.getElem?_take_of_lt (by lia)];exact I
  have O:B.Nodup:=by rw[<-S.pre];exact S.nd.sublist (List.take_sublist _ _)
  refine⟨u,T,?_⟩;rcases S.par y (SK D)with k|k
  ·exact .inl ⟨k,yC O D Q k⟩
  ·obtain⟨c,e⟩:=yE (n:=s.heap.objs.size+1) k
   refine .inr ⟨.inl k,c,e,?_⟩;have q:=x.cell y c e;rw[yD O D Q (by show scope.names.lookup y≠_;rw[k];lia)]at q;exact q
 ·exact j.hok.fresh (Nat.le_of_lt (x.above y c (PySem.mem_of_lookup h)))
 ·unfold WD
  show _=N.length;rw[Su,Sv,Sz];lia
theorem J3{CX:XT}{k:Nat}{f:Addr}{name qual:Str}{params:Arguments}{body:List Stmt}{M kV U T g ct oc:Value}{L od:OE}
  {Z:Oy} {N j:OB} {sp:Sp} (lk:K.lookup f=some ⟨oc,od,.func (W.fnOf name qual params body scope M kV U T L g ct),Z⟩) (b0:W.codeIn K g qual=true) (S:Zy N j scope)
  (len:∀vs H Q E,sp vs H Q E->vs.length=j.length)
  (g0:∀(A:Around) (outer:List Env) (s:Shared) (H:Hp) (vs:List V) (Q:VK) (E:XK),Yb k (A.deeper (envOfC qual scope s.heap.objs.size f g))->sp vs H Q E ->
   ∃t,XF (Wv CX P w K mg base N qual scope f g A outer s H E) body t/\t { nx:=fun _ c=>Q .non c,rt:=Q } (WD N vs) H) :
  Zn P w K mg base CX (k+1) f (W.fnOf name qual params body scope M kV U T L g ct) j sp:=by
 refine⟨len,fun A outer s H args us vs Q E D i hb r O=>?_⟩;have hl:=len _ _ _ _ O;have KX:K.In s.heap:=i.mod.kin.keeps fun b o e=>(i.bs b o e).1;have a0:s.heap.NoLimit:=i.mod.nolimit.keeps fun b o e=>(i.bs b o e).1;have c0:∀y∈j.zip us,scope.names.lookup y.1=some .local\/(scope.names.lookup y.1=some .cell/\((cellsFrom (s.heap.objs.size+1) scope.names []).lookup y.1).isSome=true):=fun⟨f0,v⟩ hy=>by
  rcases S.par f0 (List.of_mem_zip hy).1 with q|q
  ·exact .inl q
  ·exact .inr ⟨q,W.cellsFrom_some _ _ _ (.inl q)⟩
 refine codeAny_call_function D.depth (KX _ _ lk) R S.co S.gen R (W.codeRec_of KX b0) (hb _ _ _ _ ?_);refine wpAny_newFunctionEnv_cells S.kind c0 fun env Y G x=>?_;subst Y;refine⟨a0.keeps x.toInCall.keep,codeAny_func ?_⟩;obtain⟨t,X,hq⟩:=g0 A outer s H vs Q E (D.deeper _) O;have d0:Za (Wv CX P w K mg base N qual scope f g A outer s H E) [] (WD N vs) H G:=yF S D.hd i hl r x;refine Op (X [] G (WD N vs) H _ d0 hq) (fun fl B h=>?_) fun e B h=>h;have I:∀{n:St} {c:Hp} {v:V} {u:Value},Za (Wv CX P w K mg base N qual scope f g A outer s H E) [] n c B->ZD v u->Q v c->CE outer P w H s Q u B :=
  fun{n c v u} J C q=>⟨v,c,J.os,J.bare,J.base,J.hok,C,q⟩
 cases fl with
 |ret u =>
  obtain⟨v,n,c,J,C,q⟩:=h;exact I J C q
 |next =>
  obtain⟨n,c,J,q⟩:=h;exact I (v:=V.non) (u:=Value.none) J R q
 |brk =>
  obtain⟨_,_,_,q⟩:=h;exact False.elim q
 |cont =>
  obtain⟨_,_,_,q⟩:=h;exact False.elim q
section
variable{x:Str}{p:Pos}{e:Expr}{es:OC}{t:TA}{id T:String}{r:List V->Hp->VK->Prop}
def VX(r:List V->Hp->VK->Prop)(t:TA):TE:=fun c H Q=>t c H fun f g=>r f g Q
theorem yG(y:YV X (.builtin id) r)(D:Gl X x)(hm:X.mg x=none)(C:bootBuiltins x=some (.builtin id))(ha:PA X (e::es) t)(hn:x ≠ "__name__" := by lia) (v:(x == ("__debug__" : Str))=false:=by lia)
  (B:starEach (e::es) X.env=(false,eval e X.env)::starEach es X.env:=by rfl) (f:(backTo pos (starEach es X.env)).any (·.1)=false:=by rfl):PE X (.Call (.Name x p) (e::es) [] pos) (VX r t):=by
 intro pins s c H Q I h;refine wpAny_Call_Name_kw (Uu I D hm C ?_ hn v);exact PyProof.Rows.callWith_builtin1 (Zq (ha pos pins s c H _ I h) fun n j ⟨i,q,u,r1,g⟩=>y pins j c q i n Q u r1 g) B f
theorem Yw(y:YV X (.type T) r)(D:Gl X x)(hm:X.mg x=none)(C:bootBuiltins x=some (.type T))(ha:PA X (e::es) t)(hn:x ≠ "__name__" := by lia) (v:(x == ("__debug__" : Str))=false:=by lia)
  (B:starEach (e::es) X.env=(false,eval e X.env)::starEach es X.env:=by rfl) (f:(backTo pos (starEach es X.env)).any (·.1)=false:=by rfl):PE X (.Call (.Name x p) (e::es) [] pos) (VX r t):=by
 intro pins s c H Q I h;refine wpAny_Call_Name_kw (Uu I D hm C ?_ hn v);exact PyProof.Rows.callWith_type1 (Zq (ha pos pins s c H _ I h) fun n j ⟨i,q,u,r1,g⟩=>y pins j c q i n Q u r1 g) B f
end
end L2
namespace HT
open PySem PyProof.Rows
section
open PySem.SeqAt
open PySem.AutoSeq1 (wpAny_loadPart')
open PySem.MeetsSeq PySem.MeetsSeq2 PySem.MeetsSeq3
end
def sIx(n d:Nat):Option Int->Nat
 |none=>d
 |some v=>if v<0 then (v+(n:Int)).toNat else min v.toNat n
end HT
namespace L2
open PySem PySem.Spec PyProof.Rows
abbrev TO:=St->Hp->(Option Int->Hp->Prop)->Prop
def PO(X:Cx)(e:Option Expr)(t:TO):Prop :=
 ∀(pins:Ou) (s:Shared) (σ:St) (H:Hp) (Q:Option Int->Hp->Prop),Za X pins σ H s->t σ H Q ->
  wpAny (model X.prog X.w) X.A (evalPart e X.env) (fun u f=>∃o c,Za X pins σ c f/\IsPart u o/\Q o c) X.xe s
def Zdv:TO:=fun _ H Q=>Q none H
inductive Zdw(Q:Option Int->Hp->Prop)(x:V)(H1:Hp):Prop|mk i (_:x=.int i) (_:Q (some i) H1)
def Zdx(t:TE):TO:=fun c H Q=>t c H fun x e=>Zdw Q x e
section
variable{e:Expr}{te:TE}{lo hi:Option Expr}{tl th:TO}{p2:Pos}
theorem QU:PO X none Zdv:=by
 intro pins s c H Q I h;rw[evalPart_none];exact Sb ⟨none,H,I,.none,h⟩
theorem Uy(h:PE X e te):PO X (some e) (Zdx te):=by
 intro pins s c H Q I n;rw[evalPart_some];refine Zq (h pins s c H _ I n) fun u v ⟨x,g,j,r1,f⟩=>?_;obtain⟨i,rfl,q⟩:=f;obtain⟨t,rfl⟩:=r1;exact⟨some i,g,j,.int i t,q⟩
def Mb(X:Cx)(r:V->Option Int->Option Int->Hp->VK->Prop):Prop :=
 ∀(pins:Ou) (s:Shared) (σ:St) (H:Hp) (x:V) (v vl vu:Value) (lo hi:Option Int) (sl:Addr) (Q:VK),Za X pins σ H s->ZD x v->s.heap.IsSliceOf sl vl vu .none->IsPart vl lo->IsPart vu hi->r x lo hi H Q ->
  ∃T id,typeLookup (.type T) "__getitem__" = pure (some (.builtin id))/\s.TypeIs v T/\wpAny (model X.prog X.w) X.A (getItem v (.ref sl)) (EP X pins σ Q) X.xe s
def tSl(r:V->Option Int->Option Int->Hp->VK->Prop)(te:TE)(tl th:TO):TE:=fun c H Q=>te c H fun x f=>tl c f fun l g=>th c g fun u h=>r x l u h Q
theorem Qq(T:Mb X r)(C:PE X e te)(J:PO X lo tl)(hu:PO X hi th):PE X (.Subscript e (.Slice lo hi none p2) pos) (tSl r te tl th):=by
 intro pins s f H Q I h;refine Subscript_ (Zq (C pins s f H _ I h) fun v y ⟨a0,L,Z,r1,x⟩=>?_);refine wpAny_Slice (Zq (J pins y f L _ Z x) fun i s2 ⟨l,M,G,O,Y⟩=>Zq (hu pins s2 f M _ G Y) fun g c ⟨u,j,U,n,P⟩=>?_);rw[evalPart_none];refine Sb ?_;have S:Za X pins f j { c with heap:=c.heap.push { cls:=.type "slice",data:=.fields #[i,g,.none] } }:=U.kept (t':=c.toks) fun b ob q=>Sc _ q;obtain⟨b0,id,D,B,E⟩:=T pins { c with heap:=c.heap.push { cls:=.type "slice",data:=.fields #[i,g,.none] } } f j a0 v i g l u c.heap.objs.size Q S r1 (Heap.IsSliceOf.new ..) O n P;show wpAny (model X.prog X.w) X.A (subscriptTail e (.Slice lo hi none p2) v (.ref c.heap.objs.size)) (EP X pins f Q) X.xe { c with heap:=c.heap.push { cls:=.type "slice",data:=.fields #[i,g,.none] } };exact tail_any (ops:=[.ref c.heap.objs.size,v]) B D E (by with_unfolding_all rfl)
def WE(xs:List V)(lo hi:Option Int):List V:=(xs.drop (HT.sIx xs.length 0 lo)).take (HT.sIx xs.length xs.length hi - HT.sIx xs.length 0 lo)
theorem Zdy(xs:List V)(lo hi:Option Int):(WE xs lo hi).length<=xs.length:=by
 unfold WE;rw[Sx,SA];lia
end
def QV(n:Nat)(i:Int):Option Nat:=if 0<=i then (if i<n then some i.toNat else none)else if -(n:Int)<=i then some (i+n).toNat else none
def Y6{c:Type}(xs:List c)(i:Int):Option c:=(QV xs.length i).bind fun j=>xs[j]?
theorem Zdz(h:QV n i=some j):seqIndex? i n=some j/\j<n/\-(n:Int)<=i/\i<n:=by
 unfold QV at h;by_cases f:0<=i
 ·rw[SW f]at h
  by_cases c:i<n
  ·rw[SW c]at h
   have e:i.toNat=j:=So h;exact⟨by rw[seqIndex_of f c,e],by lia,by lia,c⟩
  ·rw[SV c]at h;cases h
 ·rw[SV f]at h
  by_cases c:-(n:Int)<=i
  ·rw[SW c]at h
   have e:(i+n).toNat=j:=So h;exact⟨by rw[seqIndex_neg (by lia) c,e],by lia,c,by lia⟩
  ·rw[SV c]at h;cases h
theorem Mc{c:Type}{xs:List c}{i:Int}{v:c}(h:Y6 xs i=some v):∃j,seqIndex? i xs.length=some j/\xs[j]? = some v/\j<xs.length/\-(xs.length:Int)<=i/\i<xs.length:=by
 unfold Y6 at h;cases e:QV xs.length i with
 |none=>rw[e]at h;cases h
 |some j =>
  rw[e]at h;obtain⟨f,g,n,q⟩:=Zdz e;exact⟨j,f,h,g,n,q⟩
theorem WU{c:Type}{xs:List c}{j:Nat}{v:c}(h:xs[j]? = some v):Y6 xs (j:Int)=some v:=by
 have f:j<xs.length:=(Sr.mp h).1;have e:QV xs.length (j:Int)=some j:=by
  unfold QV;rw[SW (by lia),SW (by lia)];simp
 unfold Y6;rw[e];exact h
def yH(b:Expr):Prop:=∀o i,subscripted b false o i=operate [o,i] (getItem o i)
def X3(X:Cx)(r:R2):Prop :=
 ∀(value slice:Expr) (pins:Ou) (s:Shared) (σ:St) (H:Hp) (x y:V) (v u:Value) (Q:VK),Za X pins σ H s->ZD x v->ZD y u->r x y H Q ->
  subscripted slice false v u=operate [v,u] (getItem v u)->wpAny (model X.prog X.w) X.A (subscriptTail value slice v u) (EP X pins σ Q) X.xe s
def Md(X:Cx)(id:String)(r:V->List V->Hp->VK->Prop):Prop :=
 ∀(pins:Ou) (s:Shared) (σ:St) (H:Hp) (x:V) (xs:List V) (v:Value) (us:OA) (Q:VK),Za X pins σ H s->ZD x v->Zx xs us->r x xs H Q ->
  wpAny (model X.prog X.w) X.A (call (.builtin id) (v::us)) (EP X pins σ Q) X.xe s
section
variable{a b:Expr}{ta tb:TE}
theorem ZdA(B:X3 X r)(ha:PE X a ta)(f:PE X b tb)(g:yH b):PE X (.Subscript a b pos) (Vc r ta tb):=by
 intro pins s e H Q I h;exact Subscript_ (LV ha f I h fun v u s2 x y j i c n q=>B a b pins s2 e j x y v u Q i c n q (g _ _))
inductive Me(K:Ow)(x:V)(y:V)(H:Hp)(Q:VK):Prop|mk p xs i v (_:x=.ref p) (_:y=.int i) (_:Zf K H p xs) (_:Y6 xs i=some v) (_:Q v H)
inductive Vy(K:Ow)(x:V)(y:V)(H:Hp)(Q:VK):Prop|mk p xs i v (_:x=.ref p) (_:y=.int i) (_:Zj K H p xs) (_:Y6 xs i=some v) (_:Q v H)
inductive ZdB(x:V)(y:V)(H:Hp)(Q:VK):Prop|mk z i c (_:x=.str z) (_:y=.int i) (_:z.length<=sizeLine) (_:Y6 z.cps.toList i=some c) (_:Q (.str ⟨#[c]⟩) H)
theorem YL:X3 X (Me X.K):=by
 intro value slice pins s u H x y v a0 Q I G S h B;obtain⟨p,Z,i,z,rfl,rfl,P,E,q⟩:=h;cases G;obtain⟨t,rfl⟩:=S;obtain⟨its,r,e,Y⟩:=I.list P;obtain⟨j,c,M,U,T,D⟩:=Mc E;obtain⟨w,C,O⟩:=r.get M;have J:=r.length;have hn:=QR;have n:EP X pins u Q w s:=⟨z,H,I,O,q⟩;by_cases g:0<=i
 ·have f:i.toNat=j:=by
   rw[seqIndex_of g D]at c;exact So c
  exact item_listR e.isList g (by lia) (by rw[f];simpa using C) n B
 ·have f:(i+(its.toArray.size:Int)).toNat=j:=by
   rw[seqIndex_neg (by lia) T]at c;rw[SN,<-J];exact So c
  exact subscriptTail_builtinR (x:=w) e.isList.typeIs slot_list_getitem.lookup
   (wpAny_getItem_list_neg (Q:=fun r L=>r=w/\EP X pins u Q r L) e.isList (by lia) (by rw[SN]<;>omega) (by lia) (by rw[f];simpa using C) ⟨R,n⟩) B
theorem ZF:X3 X (Vy X.K):=by
 intro value slice pins s c H x y v u Q I B O h C;obtain⟨p,U,i,z,rfl,rfl,M,n,q⟩:=h;cases B;obtain⟨t,rfl⟩:=O;obtain⟨its,r,e,T⟩:=I.tuple M;obtain⟨j,f,J,S,Y,P⟩:=Mc n;obtain⟨w,D,L⟩:=r.get J;have E:=r.length;have hn:=QR;have g:EP X pins c Q w s:=⟨z,H,I,L,q⟩;exact subscriptTail_builtinR (x:=w) e.typeIs slot_tuple_getitem.lookup
  (getItem_tuple (j:=j) (Q:=fun r G=>r=w/\EP X pins c Q r G) e (by lia) (by lia) (by rw[SN,<-E];exact f) (by simpa using D) ⟨R,g⟩) C
theorem yI:X3 X ZdB:=by
 intro value slice pins s P H x y v u Q I C J h D;obtain⟨z,i,c,rfl,rfl,O,B,q⟩:=h;obtain⟨t,rfl⟩:=C;obtain⟨S,rfl⟩:=J;obtain⟨j,e,G,M,L,n⟩:=Mc B;have E:z.cps.toList.length=z.length:=by simp[Str.length]
 rw[E]at e L n;have hn:=QR;exact tail_any (typeIs_str s z t) slot_str_getitem.lookup (getItem_str (c:=c) (by
  have g:decide (i < -(2 ^ 63:Int))=false:=SR (by lia);have f:decide (i ≥ 2 ^ 63)=false:=SR (by lia);rw[g,f,Bool.or_false]) (by rw[e];simpa using G) ⟨.str ⟨#[c]⟩,H,I.tok _,⟨_,R⟩,q⟩) D
theorem ZdC(lo hi:Option Int)(n:Nat):(sliceBounds lo hi none n).1=((HT.sIx n 0 lo:Nat):Int)/\(sliceBounds lo hi none n).2.1=((HT.sIx n n hi:Nat):Int)/\(sliceBounds lo hi none n).2.2=1:=by
 refine⟨?_,?_,R⟩
 ·cases lo with
  |none=>simp[sliceBounds,HT.sIx]
  |some i =>
   simp only[sliceBounds,HT.sIx,Option.getD_none,show(1:Int)>0 by lia,if_true];by_cases h:i<0
   ·simp only[h,if_true]<;>omega
   ·simp only[h,if_false]<;>omega
 ·cases hi with
  |none=>simp[sliceBounds,HT.sIx]
  |some i =>
   simp only[sliceBounds,HT.sIx,Option.getD_none,show(1:Int)>0 by lia,if_true];by_cases h:i<0
   ·simp only[h,if_true]<;>omega
   ·simp only[h,if_false]<;>omega
theorem ZdD(its:OA)(lo hi:Option Int):slicePick its.toArray lo hi none=((its.drop (HT.sIx its.length 0 lo)).take (HT.sIx its.length its.length hi - HT.sIx its.length 0 lo)).toArray:=by
 obtain⟨f,e,c⟩:=ZdC lo hi its.toArray.size;unfold slicePick;rw[f,e,c];simp only[sliceRange_one,pick_run,SN]<;>rfl
inductive ZdE(K:Ow)(x:V)(lo:Option Int)(hi:Option Int)(H:Hp)(Q:VK):Prop|mk a xs (_:x=.ref a) (_:Zf K H a xs) (_:∀p,H p=none->Q (.ref p) (upd H p (.lst (WE xs lo hi))))
theorem D7:Mb X (ZdE X.K):=by
 intro pins s C H x v E B lo e D Q I j n y g h;obtain⟨a,c,rfl,u,q⟩:=h;cases j;obtain⟨its,r,f,i⟩:=I.list u;have hlen:=r.length;refine⟨"list",_,slot_list_getitem.lookup,f.isList.typeIs,?_⟩;refine wpAny_getItem_list_slice f.isList n y g .none (by simp) ?_ (by rw[SN]<;>omega);rw[ZdD,<-hlen];refine⟨.ref s.heap.objs.size,_,I.laid (t':=s.toks) (o:=.lst (WE c lo e)) (fun b ob q=>Sc _ q) (Sg _) ?_,R,q _ (I.hok.fresh (Sg _))⟩;exact⟨Sh (Zdy c lo e) i,_,0,(r.drop (HT.sIx c.length 0 lo)).take (HT.sIx c.length c.length e - HT.sIx c.length 0 lo),Sd _ R⟩
def Uz:V->Bool
 |.non=>true
 |.bl _=>true
 |.int _=>true
 |.str _=>true
 |_=>false
def WV:V->V->Bool
 |.non,.non=>true
 |.bl a,.bl b=>a == b
 |.bl a,.int b=>(if a then 1 else 0) == b
 |.int a,.bl b=>a == (if b then 1 else 0)
 |.int a,.int b=>a == b
 |.str a,.str b=>a == b
 |_,_=>false
theorem ZdF(g:ZD y u)(c:ZD x v)(h:Uz y=true)(f:Uz x=true):SeqAt.EqAt A s u v (WV y x):=by
 cases y with
 |non =>
  cases g;cases x with
  |non=>cases c;exact SeqAt.EqAt.same _
  |bl b=>cases c;exact SeqAt.EqAt.none_bool b
  |int b=>obtain⟨t,rfl⟩:=c;exact SeqAt.EqAt.none_int b t
  |str b=>obtain⟨t,rfl⟩:=c;exact SeqAt.EqAt.none_str b t
  |_=>exact Oq (show false=true from f) SO
 |bl a =>
  cases g;cases x with
  |non=>cases c;exact SeqAt.EqAt.bool_none a
  |bl b=>cases c;exact SeqAt.EqAt.bool_bool a b
  |int b=>obtain⟨t,rfl⟩:=c;exact SeqAt.EqAt.bool_int a b t
  |str b=>obtain⟨t,rfl⟩:=c;exact SeqAt.EqAt.bool_str a b t
  |_=>exact Oq (show false=true from f) SO
 |int a =>
  obtain⟨e,rfl⟩:=g;cases x with
  |non=>cases c;exact SeqAt.EqAt.int_none a e
  |bl b=>cases c;exact SeqAt.EqAt.int_bool a e b
  |int b=>obtain⟨t,rfl⟩:=c;exact SeqAt.EqAt.int_int a e b t
  |str b=>obtain⟨t,rfl⟩:=c;exact SeqAt.EqAt.int_str a e b t
  |_=>exact Oq (show false=true from f) SO
 |str a =>
  obtain⟨e,rfl⟩:=g;cases x with
  |non=>cases c;exact SeqAt.EqAt.str_none a e
  |bl b=>cases c;exact SeqAt.EqAt.str_bool a e b
  |int b=>obtain⟨t,rfl⟩:=c;exact SeqAt.EqAt.str_int a e b t
  |str b=>obtain⟨t,rfl⟩:=c;exact SeqAt.EqAt.str_str a e b t
  |_=>exact Oq (show false=true from f) SO
 |_=>exact Oq (show false=true from h) SO
def UA(x:V)(u:Value):Bool:=match u with
 |.none=>WV .non x
 |.bool b=>WV (.bl b) x
 |.int i _=>WV (.int i) x
 |.str z _=>WV (.str z) x
 |_=>false
theorem yJ(r:ZD y u)(f:Uz y=true):UA x u=WV y x:=by
 cases y with
 |non=>cases r;rfl
 |bl b=>cases r;rfl
 |int i=>obtain⟨t,rfl⟩:=r;rfl
 |str z=>obtain⟨t,rfl⟩:=r;rfl
 |_=>exact Oq (show false=true from f) SO
theorem Mf:∀{xs:List V} {us:OA},Zx xs us->xs.all Uz=true->us.any (UA x)=xs.any fun y=>WV y x
 |_,_,.nil,_=>rfl
 |y::xs,u::us,.cons r t,f=>by
  rw[List.all_cons,Bool.and_eq_true]at f;rw[List.any_cons,List.any_cons,yJ r f.1,Mf t f.2]
theorem Mg(e:ZD x v)(g:Uz x=true):∀{xs:List V} {us:OA},Zx xs us->xs.all Uz=true->∀u∈us,SeqAt.EqAt A s u v (UA x u)
 |_,_,.nil,_=>fun u c=>by cases c
 |y::xs,u::us,.cons r t,f=>fun h c=>by
  rw[List.all_cons,Bool.and_eq_true]at f;rcases SF.mp c with rfl|c
  ·rw[yJ r f.1];exact ZdF r e f.1 g
  ·exact Mg e g t f.2 h c
def U0(x:V)(xs:List V):Bool:=xs.any fun y=>WV y x
inductive rIn(K:Ow)(neg:Bool)(x:V)(y:V)(H:Hp)(Q:VK):Prop|mk p xs (_:y=.ref p) (_:(Zf K H p xs\/Zj K H p xs)) (_:Uz x=true) (_:xs.all Uz=true) (_:Q (.bl (if neg then !U0 x xs else U0 x xs)) H)
theorem J4:YF X (compareOp .In) (rIn X.K false):=by
 intro pins s B H x y v u Q I g j h;obtain⟨p,C,rfl,c,i,fs,q⟩:=h;cases j;rcases c with c|c
 ·obtain⟨its,r,f,n⟩:=I.list c
  refine SeqAt.in_listAt (UA x) f.isList (fun w e=>Mg g i r fs w (by simpa using e)) ⟨.bl _,H,I,R,?_⟩;rw[show its.toArray.any (UA x)=its.any (UA x) by simp,Mf r fs];exact q
 ·obtain⟨its,r,f,n⟩:=I.tuple c
  refine SeqAt.in_tupleAt (UA x) f (fun w e=>Mg g i r fs w (by simpa using e)) ⟨.bl _,H,I,R,?_⟩;rw[show its.toArray.any (UA x)=its.any (UA x) by simp,Mf r fs];exact q
theorem XH:YV X (.builtin "len") (fun xs H Q=>∃p ys,xs=[.ref p]/\(Zf X.K H p ys\/Zj X.K H p ys)/\Q (.int ys.length) H):=by
 intro pins s j H xs n Q I r h;obtain⟨p,ys,rfl,c,q⟩:=h;obtain⟨u,rfl,g⟩:=X1 r;cases g;have hn:=QR;rcases c with c|c
 ·obtain⟨its,f,e,i⟩:=I.list c
  have hlen:=f.length;exact Calls.call_len_list e.isList (by simp only[SN]<;>omega) ⟨.int ys.length,H,I.tok _,⟨s.toks+1,by rw[SN,hlen]⟩,q⟩
 ·obtain⟨its,f,e,i⟩:=I.tuple c
  have hlen:=f.length;exact len_tuple e (by simp only[SN]<;>omega) ⟨.int ys.length,H,I.tok _,⟨s.toks+1,by rw[SN,hlen]⟩,q⟩
theorem yK:YV X (.builtin "len") (fun xs H Q=>∃z,xs=[.str z]/\z.length<=sizeLine/\Q (.int z.length) H):=by
 intro pins s c H xs e Q I r h;obtain⟨z,rfl,f,q⟩:=h;obtain⟨u,rfl,t,rfl⟩:=X1 r;have hn:=QR;exact len_str (by lia) ⟨.int z.length,H,I.tok _,⟨_,R⟩,q⟩
theorem U1:YV X (.type "list") (fun xs H Q=>∃p ys,xs=[.ref p]/\(Zf X.K H p ys\/Zj X.K H p ys)/\∀l,H l=none->Q (.ref l) (upd H l (.lst ys))):=by
 intro pins s E H xs G Q I r h;obtain⟨p,ys,rfl,j,q⟩:=h;obtain⟨u,rfl,D⟩:=X1 r;cases D;have B:∀(its:OA),Zx ys its->ys.length<=sizeLine->∀(c:Heap) (f:Nat),(∀b C,s.heap.get? b=some C->c.get? b=some C) ->
   c.get? s.heap.objs.size=some { cls:=.type "list",dict:=none,data:=.seq its.toArray f,slots:=#[] }->EP X pins E Q (.ref s.heap.objs.size) { s with heap:=c }:=fun its g i c f kp e =>
  ⟨.ref s.heap.objs.size,_,I.laid (t':=s.toks) kp (Sg _) (show Yf X.prog X.w _ c _ (.lst ys)from⟨i,its,f,g,e⟩),R,q _ (I.hok.fresh (Sg _))⟩
 rcases j with j|j
 ·obtain⟨its,g,y,i⟩:=I.list j
  have hlen:=g.length;obtain⟨o,x,v,n,hd⟩:=y.isList;exact call_list_seq p (.inl R) x v hd (fun c f kp e=>B its g i c f kp e) (by simp only[SN]<;>omega)
 ·obtain⟨its,g,y,i⟩:=I.tuple j
  have hlen:=g.length;obtain⟨o,x,v,n,hd⟩:=y;exact call_list_seq p (.inr R) x v hd (fun c f kp e=>B its g i c f kp e) (by simp only[SN]<;>omega)
theorem D8:YV X (.type "tuple") (fun xs H Q=>∃p ys,xs=[.ref p]/\((Zf X.K H p ys/\∀l,H l=none->Q (.ref l) (upd H l (.tup ys)))\/(Zj X.K H p ys/\Q (.ref p) H))):=by
 intro pins s j H xs B Q I r h;obtain⟨p,ys,rfl,h⟩:=h;obtain⟨u,rfl,x⟩:=X1 r;cases x;rcases h with⟨f,q⟩|⟨f,q⟩
 ·obtain⟨its,i,g,v⟩:=I.list f
  have hlen:=i.length;refine call_tuple_list g.isList (fun c kp=>?_) (by simp only[SN]<;>omega);have n:Za X pins j H { s with heap:=c }:=I.kept (t':=s.toks) kp;have y:Za X pins j (upd H c.objs.size (.tup ys)) { s with heap:=c.push { cls:=.type "tuple",data:=.seq its.toArray } } :=
   n.laid (t':=s.toks) (fun b o e=>Sc _ e) (Sg _) (show Yf X.prog X.w _ _ _ (.tup ys)from⟨v,its,i,IsTup.new _ _⟩)
  exact⟨.ref c.objs.size,_,y,R,q _ (n.hok.fresh (Sg _))⟩
 ·obtain⟨its,i,g,v⟩:=I.tuple f
  exact call_tuple_same g ⟨.ref p,H,I,R,q⟩
def Mh(K:Ow)(T:String)(x:V)(H:Hp):Prop:=match x with
 |.str _=>T = "str"
 |.int _=>T = "int"
 |.ref p=>(T = "list" /\ ∃e,Zf K H p e)\/(T = "tuple" /\ ∃o,K.lookup p=some o/\o.cls=.type "tuple" /\ o.dict=none) \/
   (T = "dict" /\ ((∃c,H p=some (.dK c))\/∃c,H p=some (.dT c)))\/(T = "set" /\ ∃S n,H p=some (.set S n))
 |_=>False
theorem yL(I:Za X pins j H s)(r:ZD x v)(ty:Mh X.K T x H) :
  s.TypeIs v T/\∀a,v=.ref a->∃ob,s.heap.get? a=some ob/\ob.dict=none:=by
 cases x with
 |str z =>
  obtain⟨t,rfl⟩:=r;cases (show T = "str" from ty);exact⟨typeIs_str s z t,fun _ e=>nomatch e⟩
 |int i =>
  obtain⟨t,rfl⟩:=r;cases (show T = "int" from ty);exact⟨typeIs_int s i t,fun _ e=>nomatch e⟩
 |ref p =>
  cases r;rcases ty with⟨rfl,B,q⟩|⟨rfl,o,f,u,hd⟩|⟨rfl,f⟩|⟨rfl,S,n,f⟩
  ·obtain⟨its,_,h,_⟩:=I.list q
   refine⟨h.isList.typeIs,fun a e=>?_⟩;cases e;obtain⟨o,n,e,c,hd,_⟩:=h;exact⟨o,e,hd⟩
  ·refine⟨⟨o,I.kIn p o f,u⟩,fun a e=>?_⟩
   cases e;exact⟨o,I.kIn _ o f,hd⟩
  ·have z:∃o,s.heap.get? p=some o/\o.ExactDict:=by
    rcases f with⟨y,f⟩|⟨y,f⟩
    ·obtain⟨_,_,_,_,o,_,_,e,ex,_⟩:=I.hok p _ f
     exact⟨o,e,ex⟩
    ·obtain⟨_,_,_,_,o,_,_,e,ex,_⟩:=I.hok p _ f
     exact⟨o,e,ex⟩
   obtain⟨o,e,ex⟩:=z;refine⟨⟨o,e,ex.1⟩,fun a g=>?_⟩;cases g;exact⟨o,e,ex.2.1⟩
  ·obtain⟨o,_,_,_,e,ex,_⟩:=I.hok p _ f
   refine⟨⟨o,e,ex.1⟩,fun a g=>?_⟩;cases g;exact⟨o,e,ex.2.1⟩
 |_=>exact False.elim ty
def ZdG(K:Ow)(T:String)(r:V->List V->Hp->VK->Prop)(to:TE):TE:=fun e H Q=>to e H fun x c=>Mh K T x c/\r x [] c Q
def tBM(K:Ow)(T:String)(r:V->List V->Hp->VK->Prop)(to:TE)(t:TA):TE:=fun c H Q=>to c H fun x e=>Mh K T x e/\t c e fun f g=>r x f g Q
variable{o e:Expr}{es:OC}{to:TE}{t:TA}{name:Str}{apos cpos:Pos}{T id:String}{r:V->List V->Hp->VK->Prop}
theorem ZdH(D:PlainAttrs T)(slot:Slot T name id)(y:typeOf (.builtin id)=pure (.type "method_descriptor")) (hm:Md X id r) (n:PE X o to)
  (B:attributeBase o name X.env (eval o X.env)=eval o X.env:=by rfl) (C:(apos.endLine == cpos.line)=true:=by rfl):PE X (.Call (.Attribute o name apos) [] [] cpos) (ZdG X.K T r to):=by
 intro pins s c H Q I h;refine wpAny_Call_method0_late B C (Zq (n pins s c H _ I h) fun v j ⟨x,q,f,r1,ty,g⟩=>?_);obtain⟨i,u⟩:=yL f r1 ty;exact⟨T,id,D,slot,y,i,u,Calls.callWith_builtin R (PySem.evalArgs_none (hm pins j c q x [] v [] Q f r1 .nil g))⟩
theorem U2(O:PlainAttrs T)(slot:Slot T name id)(D:typeOf (.builtin id)=pure (.type "method_descriptor")) (hm:Md X id r) (u:PE X o to) (ha:PA X (e::es) t)
  (Y:attributeBase o name X.env (eval o X.env)=eval o X.env:=by rfl)
  (q:((backTo cpos (starEach (e::es) X.env)).all (fun x=>!x.1) && (backToKw cpos (keywordEach [] X.env)).all (fun x=>x.1.isSome)
   && decide ((e::es).length+([]:List Keyword).length+(if ([]:List Keyword).isEmpty then 0 else 1)<30))=true:=by rfl)
  (M:(apos.endLine == cpos.line)=true:=by rfl) (y:starEach (e::es) X.env=(false,eval e X.env)::starEach es X.env:=by rfl) (B:(backTo cpos (starEach es X.env)).any (·.1)=false:=by rfl) :
  PE X (.Call (.Attribute o name apos) (e::es) [] cpos) (tBM X.K T r to t):=by
 intro pins s c H Q I h;refine wpAny_Call_method_late Y q M R (Zq (u pins s c H _ I h) fun v n ⟨x,J,g,r1,ty,i⟩=>?_);obtain⟨j,G⟩:=yL g r1 ty;refine⟨T,id,O,slot,D,j,G,?_⟩;have f:=ha cpos pins n c J _ g i;rw[y]at f ⊢;refine Calls.callWith_builtin (by show(false || (backTo cpos (starEach es X.env)).any (·.1))=false;rw[B]<;>rfl) (Calls.evalArgs_plain ?_);exact Zq f fun E s2 ⟨S,L,C,P,U⟩=>hm pins s2 c L x S v E Q C r1 P U
end
def yM(X:Cx)(id:String)(r:V->List V->Hp->VK->Prop):Prop :=
 ∀(pins:Ou) (s:Shared) (σ:St) (H:Hp) (x:V) (xs:List V) (v:Value) (us:OA) (Q:VK),Za X pins σ H s->ZD x v->Zx xs us->r x xs H Q ->
  wpAny (model X.prog X.w) X.A (call (.builtin id) (v::us)) (EP X pins σ Q) X.xe s
theorem Zx.one:∀{x:V} {us:OA},Zx [x] us->∃u,us=[u]/\ZD x u
 |_,_,.cons r .nil=>⟨_,R,r⟩
theorem Zx.zero:∀{us:OA},Zx [] us->us=[]
 |_,.nil=>rfl
theorem Zx.rep(h:Zx xs us):∀k:Nat,Zx (List.replicate k xs).flatten (List.replicate k us).flatten
 |0=>.nil
 |k+1=>by
  rw[List.replicate_succ,List.replicate_succ,List.flatten_cons,List.flatten_cons];exact Zx.append h (Zx.rep h k)
theorem yN(its:OA):∀(k:Nat) (c:OA),
  List.foldl (fun f h=>f++h) c.toArray (List.replicate k its.toArray)=(c++(List.replicate k its).flatten).toArray
 |0,c=>by simp
 |k+1,c=>by
  have e:c.toArray++its.toArray=(c++its).toArray:=by simp
  have g:(c++its)++(List.replicate k its).flatten=c++(List.replicate (k+1) its).flatten:=by
   rw[List.replicate_succ,List.flatten_cons,Od]
  rw[<-g,<-yN its k (c++its),<-e,List.replicate_succ,List.foldl_cons]
section
variable{σ:St}{l b:Addr}{xs ys zs:List V}
theorem Za.lset{its its':OA}(I:Za X pins σ H s)(g:H l=some (.lst xs))
  (e:s.heap.get? l=some { cls:=.type "list",data:=.seq its.toArray n }) (h:f its.toArray=its'.toArray) (j:Zx ys its') (v:ys.length<=sizeLine) :
  Za X pins σ (upd H l (.lst ys)) { s with heap:=s.heap.update l (Obj.mapSeq f),toks:=t' }:=by
 have q:=PySem.IsL.update e f;rw[h]at q;refine I.write (x:=l) (e:=l) (by rw[g];exact trivial) (.inl R) (fun y u c i=>(Heap.get?_update_other s.heap (Obj.mapSeq f) (Ne.symm c)).trans i) ⟨_,q⟩ ?_;exact⟨v,its',_,j,q⟩
theorem Za.lnew{its:OA}(I:Za X pins σ H s)(c:Zx ys its)(hz:ys.length<=sizeLine) :
  Za X pins σ (upd H s.heap.objs.size (.lst ys)) { s with heap:=s.heap.push { cls:=.type "list",data:=.seq its.toArray },toks:=t' } :=
 I.laid (fun _ _ q=>Sc _ q) (Sg _) ⟨hz,its,0,c,Sd _ R⟩
theorem Za.fresh(I:Za X pins σ H s):H s.heap.objs.size=none:=I.hok.fresh (Sg _)
theorem Za.lstM(I:Za X pins σ H s)(c:H l=some (.lst xs)):xs.length<=sizeLine/\∃(its:OA) (n:Nat),Zx xs its/\xs.length=its.length/\s.heap.get? l=some { cls:=.type "list",data:=.seq its.toArray n }:=by
 obtain⟨z,its,n,r,e⟩:=I.hok l _ c;exact⟨z,its,n,r,r.length,e⟩
theorem ZdI(h:n<=sizeLine):Builtin.List.listTooLong n=false:=by
 unfold Builtin.List.listTooLong;exact SR (by lia)
end
inductive ZdJ(x:V)(vs:List V)(H:Hp)(Q:VK):Prop|mk l xs y (_:x=.ref l) (_:vs=[y]) (_:H l=some (.lst xs)) (_:xs.length<sizeLine) (_:Q .non (upd H l (.lst (xs++[y]))))
theorem Qr:yM X "list.append" ZdJ:=by
 intro pins s j H x E v D Q I f g h;obtain⟨l,B,y,rfl,rfl,c,i,q⟩:=h;cases f;obtain⟨u,rfl,ru⟩:=g.one;obtain⟨z,its,n,r,C,e⟩:=I.lstM c;refine call_meets F.slot_list_append ⟨_,e,R⟩ F.entry_list_append (F.args_list_append_2 _ _) (PySem.list_append l its.toArray n u (by rw[SN];lia)) ⟨e,?_⟩;refine⟨.non,_,I.lset (its':=its++[u]) c e (by simp) (r.append (.cons ru .nil)) ?_,R,q⟩;rw[Su,Sw];lia
inductive ZdK(x:V)(vs:List V)(H:Hp)(Q:VK):Prop|mk l xs (_:x=.ref l) (_:vs=[]) (_:H l=some (.lst xs)) (_:Q .non (upd H l (.lst [])))
theorem ZdL:yM X "list.clear" ZdK:=by
 intro pins s u H x y v B Q I f g h;obtain⟨l,C,rfl,rfl,c,q⟩:=h;cases f;have i:=g.zero;subst i;obtain⟨z,its,n,r,j,e⟩:=I.lstM c;refine call_meets F.slot_list_clear ⟨_,e,R⟩ F.entry_list_clear (F.args_list_clear_1 _) (AutoSeq1.list_clear_list_0 l its.toArray n (by rw[SN];lia)) ⟨e,?_⟩;exact⟨.non,_,I.lset (its':=[]) (ys:=[]) c e R .nil (Sk _),R,q⟩
inductive J5(x:V)(y:V)(H:Hp)(Q:VK):Prop|mk l b xs zs (_:x=.ref l) (_:y=.ref b) (_:H l=some (.lst xs)) (_:H b=some (.lst zs)) (_:xs.length+zs.length<=sizeLine) (_:∀p,H p=none->Q (.ref p) (upd H p (.lst (xs++zs))))
theorem XU:YF X (binaryOp .Add) J5:=by
 intro pins s G H x y v u Q I i D h;obtain⟨l,b,M,zs,rfl,rfl,g,B,E,q⟩:=h;cases i;cases D;obtain⟨z,its,n,r,S,e⟩:=I.lstM g;obtain⟨L,c,O,C,J,f⟩:=I.lstM B;refine PySem.P.add_list e f ?_ (by rw[SN,SN];lia);have j:its.toArray++c.toArray=(its++c).toArray:=by simp
 rw[j];exact⟨.ref _,_,I.lnew (t':=s.toks) (r.append C) (by rw[Su];lia),R,q _ I.fresh⟩
inductive D9(x:V)(y:V)(H:Hp)(Q:VK):Prop|mk l k xs (_:x=.ref l) (_:y=.int k) (_:H l=some (.lst xs)) (_:-(2 ^ 63)<=k) (_:k<2 ^ 63) (_:xs.length*k.toNat<=sizeLine) (_:∀p,H p=none->Q (.ref p) (upd H p (.lst (List.replicate k.toNat xs).flatten)))
theorem ZdM{e:Type}(xs:List e)(k:Nat):(List.replicate k xs).flatten.length=k*xs.length:=by
 induction k with
 |zero=>simp
 |succ k c=>rw[List.replicate_succ,List.flatten_cons,Su,c,Nat.succ_mul,Nat.add_comm]
theorem Xd:YF X (binaryOp .Mult) D9:=by
 intro pins s S H x y v u Q I C P h;obtain⟨l,k,Y,rfl,rfl,j,i,O,g,q⟩:=h;cases C;obtain⟨t,rfl⟩:=P;obtain⟨z,its,n,r,G,e⟩:=I.lstM j;have hlen:its.toArray.size*k.toNat<=sizeLine:=by rw[SN,<-G];exact g
 have J:¬ its.toArray.size*k.toNat>(2 ^ 63 - 1)/8:=by
  have:(sizeLine:Nat)<=(2 ^ 63 - 1)/8:=by lia
  lia
 have B:¬ (!Builtin.List.listFitsIndex k)=true:=by
  rw[fitsIndex_both i O];exact SO
 have E:¬ Builtin.List.listTooLong (its.toArray.size*k.toNat)=true:=by
  rw[ZdI hlen];exact SO
 have L:List.foldl (fun c f=>c++f) #[] (List.replicate (if its.toArray.isEmpty=true then 0 else k.toNat) its.toArray)=(List.replicate k.toNat its).flatten.toArray:=by
  have D:∀m:Nat,List.foldl (fun c f=>c++f) #[] (List.replicate m its.toArray)=(List.replicate m its).flatten.toArray:=fun m=>by
   have:=yN its m [];rw[List.nil_append]at this;exact this
  rw[D];cases its with
  |nil=>simp
  |cons a Z=>rw[SV (by simp)]
 refine wpAny_binaryOp_repeat_ref (T := "list") (U := "int") (by lia) ⟨_,e,R⟩ (fun M=>typeIs_int M k t) noFill_list_mul F.fills_int_mul F.slot_int_rmul repeat_list F.slot_int_index.lookup
  (call_meets F.slot_int_rmul (typeIs_int s k t) F.entry_int_rmul (F.args_int_rmul_2 _ _) (int___rmul___int_list k t l its.toArray n)
   ⟨e,R,⟨_,e,R⟩,call_meets F.slot_list_mul ⟨_,e,R⟩ F.entry_list_mul (F.args_list_mul_2 _ _) (AutoListH.list___mul___list_int_3 l its.toArray n k t B J E) ⟨e,?_⟩⟩)
 rw[L];exact⟨.ref _,_,I.lnew (t':=s.toks) (r.rep k.toNat) (by rw[ZdM,Nat.mul_comm];exact g),R,q _ I.fresh⟩
section
set_option maxRecDepth 100000 in
end
end L2
namespace Att
open PySem PySem.W PySem.Calls PyProof.Rows
theorem ZdN{P:Params}:∀(ns:List Int) (vs:List Value),WellAll P h vs (ns.map WData.int)->IntsAre vs ns:=by
 intro ns
 induction ns with
 |nil =>
  intro vs w;rw[List.map_nil]at w;cases w;exact .nil
 |cons n ns c =>
  intro vs w;rw[List.map_cons]at w;cases w with
  |cons a b =>
   cases a;exact .cons _ _ (c _ b)
theorem ZdO{l:OpenLaw}(hn:l.most=some n){P:Params}{h:Heap}{args:List WData}{vals:List Value}
  (f:l.row.toRowW.claim.pre args=true) (v:WellAll P h vals args) :
  ∃a vs ns,vals=[Value.ref a]/\args=[WData.list (ns.map WData.int)]/\h.get? a=some { cls:=.type "list",data:=.seq vs.toArray }/\IntsAre vs ns/\ns.length<=n:=by
 have C:WShape.hasAll [] args [.list .int]=true:=(pre_splitW f).1;have g:l.pre.holds [] { args:=args } = true:=(pre_splitW f).2;obtain⟨d,r,rfl,i,x⟩:=hasAllW_cons C;obtain rfl:=hasAllW_nil x;obtain⟨G,rfl,D⟩:=hasW_list i;obtain⟨ns,rfl⟩:=items_int D;have hlen:ns.length<=n:=by
  unfold OpenLaw.pre at g;have e:(WTm.not (.lt (.lit (.int (n:Int))) (.len (.arg 0)))).holds [] { args:=[.list (ns.map .int)] } = true:=by
   have e:=(holds_andW g).1;rw[hn]at e;exact e
  have c:=condW_of e (w_not (w_lt w_lit (w_len_list (w_arg rfl))));rw[List.length_map]at c;refine Nat.le_of_not_lt fun q=>?_;have y:(n:Int)<((ns.length:Nat):Int):=by lia
  first
   |(rw[decide_eq_true y]at c;exact absurd c (by lia))
   |(simp at c;lia)
 cases v with
 |cons B E =>
  cases E;cases B with
  |list u j=>exact⟨_,_,ns,rfl,rfl,u,ZdN ns _ j,hlen⟩
theorem ZdP(l:OpenLaw)(args:List WData):l.row.toRowW.claim.post args (.bool true) args=true :=
 postW_of (r:=l.row.toRowW) (X:=(true == true))
  (show WShape.has [] (.bool true) .bool=true by first|rfl|decide|simp[WShape.has,WShape.arms,WShape.armsAll])
  (show(WTm.eq .res (.lit (.bool true))).value [] { args:=args,res:=some (.bool true),after:=args } = some (.bool (true == true))from w_eq_bool (w_res rfl) w_lit) rfl
theorem attach_call{l:OpenLaw}{loose:List Str}{d:DefRec}
  (hn:l.most=some n) (O:d.params.defaults=[])
  (call:∀(w:World) (s₀ c:Shared) (mg h:Str->Option Value) (e:Addr) (o:Obj) (i cd j:Value) (a:Addr) (vs:List Value) (ns:List Int),
   Ground q loose [] u w s₀ mg h c.heap->x w c.heap ->
   c.heap.get? e=some o->o.data=.func (docDef d.name d.params d.body d.scope i cd j)->c.heap.CodeRec cd d.name->mg d.name=some (.ref e) ->
   c.heap.get? a=some { cls:=.type "list",data:=.seq vs.toArray }->IntsAre vs ns->ns.length<=n->c.gens = #[] ->
   codeAny (model l.prog w) callerA (.call (.ref e) ⟨[.ref a],[]⟩) (fun r g=>r=.ok (.ret (.bool true))/\OldK c.heap g.heap/\g.os=c.os/\AllBare g.gens) c) :
  WalkO q loose u x l.row.toRowW d [] (fun f vs=>PySem.call f vs):=by
 intro w s₀ c mg h G Y e o i cd j J kV I hd L v D E args vals S H T U B X;obtain rfl:J=.none:=Dflts.none v O;obtain rfl:kV=.none:=Dflts.noKw v;obtain⟨a,vs,ns,rfl,rfl,y,hints,hlen⟩:=ZdO hn H B;refine enter_call (codeAny_mono (call w s₀ c mg h e o i cd j a vs ns G Y I (fd_plain hd) L D y hints hlen E) fun r g P=>?_);obtain⟨rfl,M,C,Q⟩:=P;exact⟨.inl ⟨.bool true,.bool true,[],rfl,fun _=>rfl,.bool true,ZdP l _,fun _=>⟨List.Pairwise.nil,fun _ hm=>(nomatch hm)⟩⟩,M,C,Q⟩
end Att
namespace L2
open PySem PySem.Spec PyProof.Rows
theorem yO:∀{vs:OA} {ns:OD},IntsAre vs ns->Zx (ns.map V.int) vs
 |_,_,.nil=>.nil
 |_,_,.cons n t h=>.cons ⟨t,R⟩ (yO h)
abbrev yP(_:K.In h):W.Frag:=K
def Z7(s:Stmt)(j:Nat):Stmt:=match s with
 |.ClassDef _ _ _ body _ _ _ _ _ _ _=>body.getD j (.Pass ⟨0,0,0,0⟩)
 |_=>.Pass ⟨0,0,0,0⟩
def UB(s:Stmt):Arguments:=match s with
 |.FunctionDef _ a _ _ _ _ _ _ _ _=>a
 |_=>{ posonlyargs:=[],args:=[],vararg:=none,kwonlyargs:=[],kw_defaults:=[],kwarg:=none,defaults:=[] }
def Wf(s:Stmt):List Stmt:=match s with
 |.FunctionDef _ _ b _ _ _ _ _ _ _=>b
 |_=>[]
def Zw(s:Stmt):Scope:=match s with
 |.FunctionDef _ _ _ _ _ _ c _ _ _=>c
 |_=>{ kind:=.function,names:=[],isGenerator:=false,isCoroutine:=false }
abbrev Zo:XT:=fun _ _ _ _ _ _=>False
abbrev E0:XK:=fun _ _ _=>False
theorem Zl:WC Zo X E0:=fun _ _ _ _ _ _ _ h=>h.elim
structure Vf(K:Ow)(x qual:Str)(st:Stmt)(f:Addr)(fd:OI):Prop where
 ex:∃(oc:Value) (od:OE) (kV doc pm:Value) (an:OE) (cdv ct:Value) (osl:Oy),
  fd=W.fnOf x qual (UB st) (Wf st) (Zw st) .none kV doc pm an cdv ct/\K.lookup f=some ⟨oc,od,.func fd,osl⟩/\W.codeIn K cdv qual=true
 kp:W.keepIn K (.ref f)=true
theorem Vf.ok{x qual:Str}{st:Stmt}{f:Addr}{g:OI}{N e:OB}{k:Nat}{sp:Sp}(F:Vf K x qual st f g)(S:Zy N e (Zw st))(len:∀vs H Q E,sp vs H Q E->vs.length=e.length)
  (y:∀(c:Value) (A:Around) (outer:List Env) (s:Shared) (H:Hp) (vs:List V) (Q:VK) (E:XK),Yb k (A.deeper (envOfC qual (Zw st) s.heap.objs.size f c))->sp vs H Q E ->
   ∃t,XF (Wv Zo P w K mg base N qual (Zw st) f c A outer s H E).nox (Wf st) t/\t { nx:=fun _ n=>Q .non n,rt:=Q } (WD N vs) H):Zn P w K mg base Zo (k+1) f g e sp:=by
 obtain⟨C,G,kV,D,B,I,c,ct,J,rfl,v,u⟩:=F.ex;refine J3 v u S len fun A outer s H vs Q E i j=>?_;obtain⟨t,h,q⟩:=y c A outer s H vs Q E i j;exact⟨t,h.nox,q⟩
theorem Vf.binds{x qual:Str}{st:Stmt}{f:Addr}{n:OI}{c:OB}(F:Vf K x qual st f n)
  (h:∀(kV i e:Value) (j:OE) (g ct:Value) (us:OA),us.length=c.length->bindArgs (W.fnOf x qual (UB st) (Wf st) (Zw st) .none kV i e j g ct) ⟨us,[]⟩=pure (c.zip us)):Xm K n c []:=by
 obtain⟨u,v,kV,i,e,j,g,ct,B,rfl,y,q⟩:=F.ex;exact .all (h kV i e j g ct)
theorem Mi{x qual:Str}{st:Stmt}{f:Addr}{j:Value}{n i:OE}{q:Oy}{kV h g e ct:Value}(l:K.lookup f=some ⟨j,n,.func (W.fnOf x qual (UB st) (Wf st) (Zw st) .none kV h g i e ct),q⟩)
  (c:W.codeIn K e qual=true) (k:W.keepIn K (.ref f)=true):Vf K x qual st f (W.fnOf x qual (UB st) (Wf st) (Zw st) .none kV h g i e ct):=⟨⟨j,n,kV,h,g,i,e,ct,q,R,l,c⟩,k⟩
theorem Xn(c:Yb k A):A.units+1<cLine:=Sj (Nat.add_le_add_left (by lia:1<=64) _) c.units
theorem pv(i:Nat)(c:X.N[i]? = some x:=by rfl)(e:C8 X.env.scope x:=by first|exact Or.inl rfl|exact Or.inr (Or.inl rfl)|exact Or.inr (Or.inr rfl))(hd:(x == ("__debug__" : Str))=false:=by lia)
  (f:(x == ("__classdict__" : Str))=false:=by lia):PE X (.Name x pos) (UW i):=T4 c e hd f
theorem WF{c A B:Prop}[Decidable c](h1:c->A)(e:¬ c->B):if c then A else B:=by
 by_cases h:c
 ·rw[SW h]
  exact h1 h
 ·rw[SV h]
  exact e h
def Zc(H c:Hp):Prop:=∀b o,H b=some o->c b=some o
theorem Zc.refl(H:Hp):Zc H H:=fun _ _ h=>h
theorem Zc.trans(a:Zc H f)(b:Zc f e):Zc H e:=fun c o h=>b c o (a c o h)
theorem Zc.free(e:Zc H c)(h:c l=Option.none):H l=Option.none:=by
 cases q:H l with
 |none=>rfl
 |some o =>
  rw[e l o q]at h;cases h
theorem Zc.seq{c:Hp}{a:Addr}{xs:List V}(e:Zc H c)(h:Zf K H a xs):Zf K c a xs:=by
 rcases h with(h|⟨o,h⟩)|h
 ·exact .inl (.inl (e _ _ h))
 ·exact .inl (.inr ⟨o,e _ _ h⟩)
 ·exact .inr h
theorem Yf.has{h:Heap}(x:Yf P w H h a o):∃u,h.get? a=some u:=by
 cases o with
 |lst c=>obtain⟨_,_,_,_,q⟩:=x;exact⟨_,q⟩
 |tup c=>obtain⟨_,_,_,ob,q,_⟩:=x;exact⟨ob,q⟩
 |dK e=>obtain⟨_,_,_,_,ob,_,_,q,_⟩:=x;exact⟨ob,q⟩
 |dT e=>obtain⟨_,_,_,_,ob,_,_,q,_⟩:=x;exact⟨ob,q⟩
 |set S n=>obtain⟨ob,_,_,_,q,_⟩:=x;exact⟨ob,q⟩
 |ins C g fs=>obtain⟨_,_,_,q,_⟩:=x;exact⟨_,q⟩
 |own y=>obtain⟨ob,q⟩:=x;exact⟨ob,q⟩
 |xd fs=>obtain⟨_,⟨ob,_,_,q,_⟩,_⟩:=x;exact⟨ob,q⟩
 |rng lo j=>obtain⟨_,_,_,q⟩:=x;exact⟨_,q⟩
 |frz ob u=>obtain⟨q,_⟩:=x;exact⟨_,q⟩
 |tbl i=>exact⟨_,(show h.get? a=some _ from x)⟩
 |met f y=>exact⟨_,(show h.get? a=some _ from x)⟩
 |ext v=>obtain⟨_,⟨ob,q⟩,_⟩:=x;exact⟨ob,q⟩
def Vz(h:Heap)(e:Addr):Prop:=∃ob c,h.get? e=some ob/\ob.data=.fields c/\c[2]? = some .none
def KC{c:Type}(x:Sem c):Prop:=∀(M:Model) (Γ:PySem.Ctx) (Q:c->Pos->Shared->Prop) (E:Value->Pos->Shared->Prop) (p:Pos) (s:Shared) (e:Addr),Vz s.heap e->Sem.wp M Γ x Q E p s ->
 Sem.wp M Γ x (fun a p s=>Q a p s/\Vz s.heap e) (fun v p s=>E v p s/\Vz s.heap e) p s
section
variable{α β:Type}
theorem KC.bind(i:KC x)(g:∀a,KC (f a)):KC (x >>= f):=fun M c Q E p s e n h=>by
 rw[Sem.wp_bind']at h ⊢;exact Sem.wp_mono M c x (fun a p s q=>g a M c Q E p s e q.2 q.1) (fun _ _ _ q=>q) p s (i M c _ _ p s e n h)
theorem KC.pure(a:α):KC (Pure.pure a:Sem α):=fun M c Q E p s e n h=>by
 rw[Sem.wp_pure']at h ⊢;exact⟨h,n⟩
theorem KC.uns(c:String):KC (.unsupported c:Sem α):=fun M f Q E p s e n h=>by
 rw[Sem.wp_unsupported]at h;exact h.elim
theorem KC.load(a:Addr):KC (PySem.load a):=fun M g Q E p s e n h=>by
 unfold PySem.load at h ⊢;rw[Sem.wp_load]at h ⊢;obtain⟨o,f,c⟩:=h;exact⟨o,f,by rw[Sem.wp_pure]at c ⊢;exact⟨c,n⟩⟩
theorem KC.stack:KC PySem.stack:=fun M c Q E p s e n h=>by
 unfold PySem.stack at h ⊢;rw[Sem.wp_stack]at h ⊢;rw[Sem.wp_pure]at h ⊢;exact⟨h,n⟩
theorem KC.alloc(o:Obj):KC (PySem.alloc o):=fun M f Q E p s e n h=>by
 unfold PySem.alloc at h ⊢;rw[Sem.wp_alloc]at h ⊢;rw[Sem.wp_pure]at h ⊢;obtain⟨ob,c,q,r⟩:=n;exact⟨h,ob,c,Sc _ q,r⟩
theorem KC.update(u:∀o vs,o.data=.fields vs->vs[2]? = some .none->∃g,(f o).data=.fields g/\g[2]? = some .none):KC (PySem.update a f):=fun M x Q E p s e n h=>by
 unfold PySem.update at h ⊢;rw[Sem.wp_update]at h ⊢;refine⟨h.1,?_⟩;have j:=h.2;rw[Sem.wp_pure]at j ⊢;refine⟨j,?_⟩;obtain⟨ob,vs,q,d,c⟩:=n;by_cases z:a=e
 ·subst z
  obtain⟨g,i,v⟩:=u ob vs d c;exact⟨f ob,g,Heap.get?_update_self f q (Obj.isFreed_of_fields i),i,v⟩
 ·exact⟨ob,vs,(Heap.get?_update_other _ f z).trans q,d,c⟩
theorem KC.iff{c:Prop}[Decidable c](e:KC x)(f:KC y):KC (if c then x else y):=by
 split
 ·exact e
 ·exact f
theorem ZdQ(v:Value):KC (fieldsOf v):=by
 unfold fieldsOf
 split
 ·refine KC.bind (KC.load _) fun o=>?_
  split
  ·exact KC.pure _
  ·exact KC.uns _
 ·exact KC.uns _
theorem J6(v:Value)(i:Nat):KC (field v i):=by
 unfold field;refine KC.bind (ZdQ v) fun c=>?_
 split
 ·exact KC.pure _
 ·exact KC.uns _
theorem Mj(v:Value)(i:Nat)(x:Value)(hi:i≠2):KC (setField v i x):=by
 unfold setField
 split
 ·unfold updateField
  refine KC.bind (KC.load _) fun o=>?_
  split
  ·refine KC.iff (KC.update fun o e d c=>?_) (KC.uns _)
   exact⟨_,Obj.data_mapFields d _,by rw[Array.getElem?_setIfInBounds_ne hi];exact c⟩
  ·exact KC.uns _
 ·exact KC.uns _
theorem ZdR(v:Value)(f:OE):KC (setFlight v f):=by
 unfold setFlight;refine KC.bind (J6 v 1) fun tb=>?_;exact KC.iff (Mj _ 3 _ (by lia)) (KC.pure _)
theorem ZdS(env:Env)(outer:List Env):KC (behindIsImport env outer):=by
 unfold behindIsImport;refine KC.iff (KC.pure _) (KC.iff (KC.pure _) (KC.bind (J6 _ _) fun _=>KC.pure _))
theorem ZdT(env:Env)(c:Bool)(l:List Env):KC (keptBack env c l):=by
 unfold keptBack
 split
 ·refine KC.iff (KC.pure _) (KC.bind ?_ fun _=>KC.pure _)
  unfold underTheClaimsCaller;exact KC.bind KC.stack fun _=>KC.pure _
 ·exact KC.pure _
theorem yQ:∀l:List Env,KC (readyFrames l)
 |[]=>by unfold readyFrames;exact KC.pure _
 |env::outer=>by
  unfold readyFrames
  split
  ·refine KC.bind (KC.load _) fun o=>KC.iff (KC.pure _) ?_
   refine KC.bind (ZdS _ _) fun e=>KC.bind (ZdT _ _ _) fun bk=>KC.bind (KC.update fun o vs d c=>⟨vs,d,c⟩) fun _=>yQ outer
  ·exact KC.uns _
theorem ZdU(env:Env):KC (PySem.frameOf env):=by
 unfold PySem.frameOf;refine KC.bind (KC.bind KC.stack fun _=>KC.pure _) fun l=>KC.bind ?_ fun r=>?_
 ·unfold frameObject
  split
  ·exact KC.pure _
  ·exact KC.bind (yQ _) fun _=>KC.pure _
 ·split
  ·exact KC.pure _
  ·exact KC.uns _
theorem ZdV(f:Addr)(b:Bool):KC (entryPlaceOf f b):=by
 unfold entryPlaceOf;refine KC.bind KC.stack fun l=>?_
 split
 ·exact KC.pure _
 ·exact KC.pure _
theorem ZdW(a b c d e:Value)(l:OA):KC (EntryCells.newEntry a b c d e l):=by
 unfold EntryCells.newEntry newFields newObj;have k:∀d:Data,KC (newObjAsIs (.type "traceback") d):=fun d=>by
  unfold newObjAsIs;exact KC.bind (KC.alloc _) fun _=>KC.pure _
 exact KC.iff (KC.bind (KC.uns _) fun _=>k _) (k _)
theorem ZdX(e:Value)(env:Env):KC (noteFrame e env):=by
 unfold noteFrame
 split
 ·refine KC.bind (J6 _ _) fun head=>?_
  have tl:∀f hd,KC (do let b <-PySem.frameOf env;let g <-entryPlaceOf f hd;let c <-EntryCells.newEntry head b .none (rawInt f) .none g;setField e 1 c):=fun f hd =>
   KC.bind (ZdU _) fun _=>KC.bind (ZdV _ _) fun _=>KC.bind (ZdW _ _ _ _ _ _) fun _=>Mj _ 1 _ (by lia)
  refine KC.iff (KC.bind (J6 _ _) fun x=>KC.iff (KC.pure _) (KC.bind (Mj _ 3 _ (by lia)) fun _=>tl _ _)) (tl _ _)
 ·exact KC.uns _
theorem Ml(env:Env)(e:Value):KC (leaving env e):=by
 unfold leaving;exact KC.bind (ZdX _ _) fun _=>ZdR _ _
theorem KC.any0(k:KC x)(n:Vz s.heap e)(h:wpAny M A x Q E s) :
  wpAny M A x (fun a s=>Q a s/\Vz s.heap e) (fun v s=>E v s/\Vz s.heap e) s:=fun c p f=>k M c _ _ p s e n (h c p f)
theorem KC.any{p:Prop}(k:KC x)(n:p->Vz s.heap e)(h:wpAny M A x Q E s) :
  wpAny M A x (fun a s=>Q a s/\(p->Vz s.heap e)) (fun v s=>E v s/\(p->Vz s.heap e)) s:=by
 by_cases z:p
 ·exact Op (k.any0 (n z) h) (fun _ _ q=>⟨q.1,fun _=>q.2⟩) fun _ _ q=>⟨q.1,fun _=>q.2⟩
 ·exact Op h (fun _ _ q=>⟨q,fun y=>Oq y z⟩) fun _ _ q=>⟨q,fun y=>Oq y z⟩
theorem KC.with{M:Model}{x:Sem Unit}{Q:Oz}{e:Addr}{p:Prop}{W:Heap->Prop}(k:KC x)(n:p->Vz s.heap e)
  (h:wpAny M A x (fun _ s'=>∃h',s' = { s with heap:=h' }/\W h') (fun _ _=>False) s) (c:∀h',W h'->(p->Vz h' e)->Q () { s with heap:=h' }):wpAny M A x Q E s :=
 Op (k.any n h) (fun _ s' ⟨⟨h',z,w⟩,f⟩=>by subst z;exact c h' w f) fun _ _ z=>z.1.elim
end
def Mm(l:List Env)(g:Heap)(H:Hp)(a:Addr)(C:Value)(h:Heap):Prop :=
 ∃(B:Heap) (t:Addr),Heap.FlyingW B l a C (.ref t) h/\H a=none /\
  ∀b o,h.get? b=some o->((∃u,g.get? b=some u)\/∃u,H b=some u)->b∉Yl l->B.get? b=some o
def Xo(P:Program)(w:World):XT:=fun outer H s E e c =>
 ∃(a:Addr) (C:Value) (H':Hp),e=.ref a/\c.os=s.os/\AllBare c.gens/\Un (Yl outer) [] H H' s.heap c.heap/\Yi P w H' c.heap/\Mm outer s.heap H' a C c.heap/\∃o:Option Addr,(o=none->Vz c.heap a)/\E C o H'
theorem ZdY{env:Env}{outer:List Env}(g:env.frame=some L)(f:b∈Yl (env::outer)):b=L\/b∈Yl outer:=by
 obtain⟨e,c,q⟩:=List.mem_filterMap.mp f;rcases SF.mp c with rfl|c
 ·rw[g]at q;exact .inl (So q).symm
 ·exact .inr (List.mem_filterMap.mpr ⟨e,c,q⟩)
theorem J7{outer:List Env}(c:b∈Yl outer):b∈Yl (env::outer):=by
 obtain⟨e,f,q⟩:=List.mem_filterMap.mp c;exact List.mem_filterMap.mpr ⟨e,SC _ f,q⟩
theorem Mn{env:Env}{outer:List Env}{g h1 B : Heap}
  (S:env.frame=some L) (O:g.get? L=none) (U:Un (Yl outer) [] H h g h1) (ok:Yi P w h h1) (frf:∀b∈Yl (env::outer),h b=none)
  (frd:∀b∈Yl outer,∀o,h1.get? b=some o->∀vs,o.data≠.fields vs)
  (M:∀b o,h1.get? b=some o->((∃u,g.get? b=some u)\/∃u,h b=some u)->b∉Yl (env::outer)->B.get? b=some o)
  (fl:Heap.FlyingW B outer a C (.ref t) y) (ha:h a=none) (up:h1.UpToSlots y):Un (Yl outer) [] H h g y/\Yi P w h y/\Mm outer g h a C y:=by
 have stay:∀b o,h1.get? b=some o->((∃u,g.get? b=some u)\/∃u,h b=some u)->b∉Yl outer->y.get? b=some o/\B.get? b=some o:=fun b o e f hn=>by
  have nf:b∉Yl (env::outer):=fun z=>by
   rcases ZdY S z with rfl|Q
   ·rcases f with⟨u,q⟩|⟨u,q⟩
    ·rw[O]at q;cases q
    ·rw[frf _ z]at q;cases q
   ·exact hn Q
  have q:=M b o e f nf;exact⟨fl.1 b o q,q⟩
 have nx:([]:OG)=[]:=rfl;have j:∀b:Addr,b∉([]:OG):=fun b z=>nomatch z;have track:∀b u,h b=some u->b∉Yl outer:=fun b u q z=>by
  rw[frf b (J7 z)]at q;cases q
 refine⟨⟨fun b o e n f j=>?_,fun b o e n f j=>?_,U.free,fun b o e j=>?_,U.tups,U.frzs,U.tbls⟩,fun b u q=>?_,B,t,fl,ha,fun b o e f hn=>?_⟩
 ·exact(stay b o (U.keep b o e n f j) (.inl ⟨o,e⟩) f).1
 ·obtain⟨Z,i⟩:=U.slot b o e n f j
  obtain⟨I,x⟩:=up b _ i (frd b f _ i);exact⟨I,x⟩
 ·obtain⟨D,i⟩:=U.there b o e j
  by_cases f:b∈Yl outer
  ·obtain⟨I,x⟩:=up b _ i (frd b f _ i)
   exact⟨_,x⟩
  ·exact⟨D,(stay b D i (.inl ⟨o,e⟩) f).1⟩
 ·refine(ok b u q).stay (fun c v G e=>?_) (fun _ z=>z) fun _ _ z=>z
  have T:∃E,h c=some E:=by
   rcases G with rfl|G
   ·exact⟨u,q⟩
   ·exact⟨_,G⟩
  obtain⟨E,J⟩:=T;exact(stay c v e (.inr ⟨E,J⟩) (track c E J)).1
 ·have Y:∃D,h1.get? b=some D:=by
   rcases f with⟨u,q⟩|⟨u,q⟩
   ·exact U.there b u q (j b)
   ·exact(ok b u q).has
  obtain⟨D,i⟩:=Y;obtain⟨x,X⟩:=stay b D i f hn;rw[e]at x;cases x;exact X
def yR(X:Cx)(E:XK):Prop:=∀(pins:Ou) (σ:St) (H:Hp) (s:Shared) (a:Addr) (C:Value) (vs:OA) (h':Heap),Za X pins σ H s->Heap.MadeExcOf s.heap h' a C vs->E C none H->X.xe (.ref a) { s with heap:=h' }
section
variable{N:OB}{qual:Str}{f:Addr}{cd:Value}{outer:List Env}{E:XK}
theorem Za.frd(I:Za X pins g H s):∀b∈Yl X.stack,∀o,s.heap.get? b=some o->∀vs,o.data≠.fields vs:=fun b h o e=>by
 obtain⟨_,i,c,d⟩:=I.stack.mem h;rw[e]at c;cases c;exact d
theorem Za.hasNo(I:Za X pins c H s)(e:s.heap.get? a=none):H a=none:=by
 cases q:H a with
 |none=>rfl
 |some u =>
  obtain⟨o,z⟩:=(I.hok a u q).has;rw[e]at z;cases z
theorem Mo:yR (Wv (Xo P w) P w K mg base N qual scope f cd A outer s H E) E:=by
 intro pins Q M g a C T J I i O;have B:∀env∈(envOfC qual scope s.heap.objs.size f cd::outer),∀b,env.frame=some b->b∈Yl (envOfC qual scope s.heap.objs.size f cd::outer):=fun env n b j=>List.mem_filterMap.mpr ⟨env,n,j⟩;have x:(A.deeper (envOfC qual scope s.heap.objs.size f cd)).frames=some (envOfC qual scope s.heap.objs.size f cd::outer):=I.ok.frames;have sn:s.heap.get? s.heap.objs.size=none:=Heap.get?_none_of_le (Sg _);obtain⟨S,y,_,_⟩:=i.there;refine KC.with (p:=True) (e:=a) (W:=fun c=>∃t,Heap.FlyingW (PySem.W.hideAll g.heap (Yl (envOfC qual scope s.heap.objs.size f cd::outer))) outer a C (.ref t) c/\J.UpToSlots c) (Ml _ _) (fun _=>⟨_,_,y,R,R⟩)
  (wpAny_leaves_madeW (L:=s.heap.objs.size) (base:=PySem.W.hideAll g.heap (Yl (envOfC qual scope s.heap.objs.size f cd::outer))) (h:=g.heap) x R (fun b o q=>PySem.W.of_hideAll _ q) (PySem.W.funFrames_hide I.stack B) i fun c t fl _ _ up=>⟨c,R,t,fl,up⟩) fun c ⟨t,fl,up⟩ u=>?_
 have frd:=I.frd;obtain⟨v,D,G⟩:=Mn (P:=P) (w:=w) (L:=s.heap.objs.size) (h1:=g.heap) R sn I.base I.hok I.stkFree (fun b j o e=>frd b (J7 j) o e) (fun b o e _ hn=>PySem.W.hideAll_get _ e hn) fl (I.hasNo i.new) ((Heap.UpToSlots.of_keeps i.keeps).trans up);exact⟨a,C,M,R,I.os,I.bare,v,D,G,none,fun _=>u trivial,O⟩
theorem E3:WC (Xo P w) (Wv (Xo P w) P w K mg base N qual scope f cd A outer s H E) E:=by
 intro pins D T S e i I y;obtain⟨a,C,v,rfl,os,bare,un,hok,⟨B,t,fl,ha,x⟩,o,h,Q⟩:=y;have c:Za (Wv (Xo P w) P w K mg base N qual scope f cd A outer s H E) pins D v i:=I.call' os un hok bare fun b z=>nomatch z;have J:(A.deeper (envOfC qual scope s.heap.objs.size f cd)).frames=some (envOfC qual scope s.heap.objs.size f cd::outer):=I.ok.frames;have sn:s.heap.get? s.heap.objs.size=none:=Heap.get?_none_of_le (Sg _);refine KC.with (e:=a) (W:=fun g=>Heap.FlyingW B outer a C (.ref t) g/\i.heap.UpToSlots g) (Ml _ _) h (wpAny_leaves_onW (L:=s.heap.objs.size) J R fl fun g j up=>⟨g,R,j,up⟩) fun g ⟨j,up⟩ h=>?_;have frd:=c.frd;obtain⟨G,M,O⟩:=Mn (P:=P) (w:=w) (L:=s.heap.objs.size) (h1:=i.heap) R sn c.base c.hok c.stkFree (fun b n o e=>frd b (J7 n) o e) (fun b o e n hn=>x b o e (n.imp (fun⟨u,q⟩=>I.base.there b u q fun z=>nomatch z) id) hn) j ha up;exact⟨a,C,v,R,c.os,c.bare,G,M,O,o,h,Q⟩
end
theorem Vf.okX{x qual:Str}{st:Stmt}{f:Addr}{g:OI}{N e:OB}{k:Nat}{sp:Sp}(F:Vf K x qual st f g)(S:Zy N e (Zw st))(len:∀vs H Q E,sp vs H Q E->vs.length=e.length)
  (u:∀(c:Value) (A:Around) (outer:List Env) (s:Shared) (H:Hp) (vs:List V) (Q:VK) (E:XK),Yb k (A.deeper (envOfC qual (Zw st) s.heap.objs.size f c))->sp vs H Q E ->
   ∃t,XF (Wv (Xo P w) P w K mg base N qual (Zw st) f c A outer s H E) (Wf st) t/\t { nx:=fun _ j=>Q .non j,rt:=Q } (WD N vs) H):Zn P w K mg base (Xo P w) (k+1) f g e sp:=by
 obtain⟨y,C,kV,B,v,D,c,ct,G,rfl,q,n⟩:=F.ex;exact J3 q n S len fun A outer s H vs Q E h i=>u c A outer s H vs Q E h i
structure E4(K:Ow)(C:Addr):Prop where
 ex:W.excIn K C [.type "ValueError",.type "Exception",.type "BaseException",.type "object"] "ValueError.__new__" = true
theorem ZdZ{h:Heap}(Y:K.In h)(z:W.excIn K C f e=true) :
  ∃bm i nm j bs hd sn sub ab col dd k0 k1 k2 k3 k5 mN,h.get? C=some (excClassObj nm j C i bs bm hd sn sub ab col dd k0 k1 k2 k3 k5 e)/\h.Ns i mN/\mN "__init__" = none/\OwnTail h f bm:=by
 unfold W.excIn at z
 split at z
 ·next d1 c1 s1 hlk =>
  split at z
  ·next C1 b1 j0 j1 j2 j3 n1 j5 em es =>
   simp only[Bool.and_eq_true,beq_iff_eq,Bool.not_eq_true']at z;obtain⟨⟨⟨⟨⟨z1,q⟩,g⟩,u⟩,c⟩,z6⟩:=z;subst z1 q;obtain⟨n,H,L,y,E,x,D,J,v,G,M⟩:=c1;dsimp only at em g c z6;subst em g;obtain⟨B⟩:=s1;have I:B=[j0,j1,j2,j3,some (.builtin n1),j5]:=es;subst I;exact⟨b1,y,n,E,H,x,D,J,v,G,d1,j0,j1,j2,j3,j5,_,Y _ _ hlk,.of_isNs (W.isNs_of_in Y c),W.nsMap_none_of_in Y c z6,W.tail_of_in Y u⟩
  ·exact Oq z (by lia)
 ·exact Oq z (by lia)
section
variable{E:XK}{x:Str}{C:Addr}{e:Expr}{es:OC}{t:TA}{np cpos:Pos}
def Zd0(E:XK)(C:Addr)(t:TA):TS:=fun _ c H=>t c H fun f g=>f.length<=sizeLine/\E (.ref C) none g
theorem Mp(R:yR X E)(c:E4 X.K C)(n:X.calm=true)(v:Gl X x)(hm:X.mg x=some (.ref C))(ha:PA X (e::es) t)(U:(x == ("__debug__" : Str))=false:=by lia)
  (i:starEach (e::es) X.env=(false,eval e X.env)::starEach es X.env:=by rfl) (y:(backTo cpos (starEach es X.env)).any (·.1)=false:=by rfl) :
  PS X (.Raise (some (.Call (.Name x np) (e::es) [] cpos)) none pos) (Zd0 E C t):=by
 intro pins s j H D I h;obtain⟨bm,Y,nm,u,bs,hd,sn,sub,ab,col,dd,k0,k1,k2,k3,k5,mN,T,Q,P,g⟩:=ZdZ I.ok.mod.kin c.ex;refine wpAny_Raise_call_subT (C:=C) (nm:=nm) (q:=u) (N:=Y) (bs:=bs) (bm:=bm) (hdct:=hd) (sn:=sn) (sub:=sub) (ab:=ab) (col:=col) (dd:=dd) (k0:=k0) (k1:=k1) (k2:=k2) (k3:=k3) (k5:=k5)
  PySem.F.excBase_ValueError (mN:=mN) (g.hasType PySem.F.excBase_ValueError.hasBase) (I.ok.hd n) ?_ P (Ut I v hm ⟨rfl,?_⟩ U)
 ·rw[i]
  show(false || (backTo cpos (starEach es X.env)).any (·.1))=false;rw[y];rfl
 ·have q:=ha cpos pins s j H _ I h
  rw[i]at q ⊢;refine Calls.evalArgs_plain (Zq q fun M s2 B=>?_);obtain⟨Z,O,f,r,J,S⟩:=B;exact⟨rfl,by rw[<-r.length];exact J,f.bk _ _ T,Q.keeps f.bk,g.keeps f.bk,fun L a G=>R pins j O s2 a _ M L f G S⟩
end
theorem Za.moved{h':Heap}(I:Za X pins L H s)
  (keep:∀b o,s.heap.get? b=some o->((∃u,X.s₀.heap.get? b=some u/\b∉X.ex)\/(∃u,H b=some u)\/∃p∈X.pn++pins,p.1=b)->b∉Yl X.stack->h'.get? b=some o) (up:s.heap.UpToSlots h'):Za X pins L H { s with heap:=h' }:=by
 have J:∀b o,X.s₀.heap.get? b=some o->b≠X.env.locals:=fun b o e=>Sf (Si (Se e) I.ok.above);have B:∀b,b≠X.env.locals->b∉X.fs->b∉Yl X.stack:=fun b U h2 z=>(SF.mp (I.stkSub b z)).elim U h2;have T:∀b∈X.fs,∀o,X.s₀.heap.get? b=some o->∀S,o.data≠.fields S:=fun b f o e=>by
  obtain⟨_,D,Q,d⟩:=I.ok.funs.mem f;rw[e]at Q;cases Q;exact d
 have cellK:∀c v,s.heap.IsCell c v->h'.IsCell c v:=fun c v ⟨o,Y,hd⟩=>by
  obtain⟨M,q⟩:=up c o Y fun S z=>by rw[hd]at z;cases z
  exact⟨_,q,hd⟩
 refine⟨I.ok,I.os,I.bare,⟨fun b o e n f g=>?_,fun b o e n f g=>?_,I.base.free,fun b o e g=>?_,I.base.tups,I.base.frzs,I.base.tbls⟩,?_,fun y c e=>?_,I.free,I.freeC,fun p P=>?_,fun b u q=>?_,I.len⟩
 ·exact keep b o (I.base.keep b o e n f g) (.inl ⟨o,e,g⟩) (B b (J b o e) f)
 ·obtain⟨M,j⟩:=I.base.slot b o e n f g
  obtain⟨O,h⟩:=up b _ j (T b f o e);exact⟨O,h⟩
 ·obtain⟨D,j⟩:=I.base.there b o e g
  by_cases f:b∈X.fs
  ·obtain⟨M,h⟩:=I.base.slot b o e (I.ok.frf b f) f g
   obtain⟨O,G⟩:=up b _ h (T b f o e);exact⟨_,G⟩
  ·exact⟨D,keep b D j (.inl ⟨o,e,g⟩) (B b (J b o e) f)⟩
 ·obtain⟨m,hn,hl⟩:=I.loc
  refine⟨m,up.ns hn,fun i y v j h G=>?_⟩;obtain⟨u,r,l⟩:=hl i y v j h G;refine⟨u,r,?_⟩;rcases l with l|⟨k,c,e,z⟩
  ·exact .inl l
  ·exact .inr ⟨k,c,e,cellK c _ z⟩
 ·obtain⟨v,z⟩:=I.cell y c e
  exact⟨v,cellK c v z⟩
 ·obtain⟨e,n,ne,nf,d⟩:=I.pin p P
  exact⟨keep p.1 p.2 e (.inr (.inr ⟨p,P,R⟩)) (B p.1 ne nf),n,ne,nf,d⟩
 ·refine(I.hok b u q).stay (fun c v x e=>?_) (fun _ z=>z) fun _ _ z=>z
  have Z:∃C,H c=some C:=by
   rcases x with rfl|x
   ·exact⟨u,q⟩
   ·exact⟨_,x⟩
  obtain⟨C,E⟩:=Z;refine keep c v e (.inr (.inl ⟨C,E⟩)) fun z=>?_;rw[I.stkFree c z]at E;cases E
theorem Za.track{ob:Obj}(I:Za X pins i H s)(ha:H a=none)(j:s.heap.get? a=some ob)(hd:ob.data=.fields vs)
  (C:X.s₀.heap.get? a=none) (E:∀p∈X.pn++pins,p.1≠a) (new:Yf X.prog X.w (upd H a o) s.heap a o):Za X pins i (upd H a o) s:=by
 have nt:∀b u,H b=some u->b≠a:=fun b u q=>ZI q ha;refine⟨I.ok,I.os,I.bare,⟨I.base.keep,I.base.slot,fun b u e n D=>?_,I.base.there,fun b h q=>?_,fun b u h q=>?_,fun b B q=>?_⟩,I.loc,I.cell,?_,fun y c e=>?_,fun p q=>?_,fun b u q=>?_,I.len⟩
 ·have ne:b≠a:=fun z=>by rw[z,C]at e;cases e
  rw[Zd ne];exact I.base.free b u e n D
 ·have z:=I.base.tups b h q
  rw[Zd (nt _ _ z)];exact z
 ·have z:=I.base.frzs b u h q
  rw[Zd (nt _ _ z)];exact z
 ·obtain⟨m,z⟩:=I.base.tbls b B q
  exact⟨m,by rw[Zd (nt _ _ z)];exact z⟩
 ·have ne:X.env.locals≠a:=fun z=>by
   obtain⟨m,⟨M,J,G,g,f,_⟩,_⟩:=I.loc;rw[z,j]at g;cases g;rw[hd]at f;cases f
  rw[Zd ne];exact I.free
 ·have ne:c≠a:=fun z=>by
   obtain⟨v,L,g,f⟩:=I.cell y c e;rw[z,j]at g;cases g;rw[hd]at f;cases f
  rw[Zd ne];exact I.freeC y c e
 ·obtain⟨e,n,r⟩:=I.pin p q
  exact⟨e,by rw[Zd (E p q)];exact n,r⟩
 ·by_cases x:b=a
  ·subst x;rw[Zg]at q;cases q;exact new
  ·rw[Zd x]at q
   exact(I.hok b u q).stay (fun c v _ z=>z) (fun c z=>by rw[Zd (nt _ _ z)];exact z) fun c h z=>by rw[Zd (nt _ _ z)];exact z
def Wg(a:Addr)(C:Value):HO:=.ext fun h=>∃ob c,h.get? a=some ob/\ob.cls=C/\ob.data=.fields c
def Zd1(X:Cx)(pins:Ou)(c:Value->Hp->Prop)(e:Value)(s':Shared):Prop :=
 ∃(a:Addr) (C:Value) (σ:St) (H:Hp) (g:Heap),e=.ref a/\Za X pins σ H s'/\Mm X.stack g H a C s'.heap/\(∀p∈X.pn++pins,∃u,g.get? p.1=some u) /\
  (∀b u,X.s₀.heap.get? b=some u->b∉X.ex->∃f,g.get? b=some f)/\c C H
abbrev J8(X:Cx)(pins:Ou)(Kx:Value->Hp->Prop):Cx:={ X with pn:=X.pn++pins,xe:=Zd1 X pins Kx }
abbrev QW(X:Cx)(a:Addr):Cx:={ X with A:=X.A.mark (some (.ref a)),calm:=false,xe:=fun _ _=>False }
section
variable{pins':Ou}{σ:St}{Kx:Value->Hp->Prop}{a:Addr}
theorem Za.toTry(I:Za X pins σ H s):Za (J8 X pins Kx) [] σ H s :=
 ⟨⟨I.ok.mod,I.ok.kind,I.ok.glob,I.ok.blt,I.ok.above,I.ok.inj,I.ok.has,I.ok.cab,I.ok.hd,I.ok.frames,I.ok.stk,I.ok.exf,I.ok.bs,I.ok.bsz,I.ok.noex,I.ok.exfs,I.ok.funs,I.ok.frf⟩,
  I.os,I.bare,I.base,I.loc,I.cell,I.free,I.freeC,fun p c=>I.pin p (by simpa using c),I.hok,I.len⟩
theorem Za.ofTry(I:Za (J8 X pins Kx) pins' σ H s):Za X pins σ H s :=
 ⟨⟨I.ok.mod,I.ok.kind,I.ok.glob,I.ok.blt,I.ok.above,I.ok.inj,I.ok.has,I.ok.cab,I.ok.hd,I.ok.frames,I.ok.stk,I.ok.exf,I.ok.bs,I.ok.bsz,I.ok.noex,I.ok.exfs,I.ok.funs,I.ok.frf⟩,
  I.os,I.bare,I.base,I.loc,I.cell,I.free,I.freeC,fun p c=>I.pin p (SI _ c),I.hok,I.len⟩
theorem Za.toSuite(I:Za X pins σ H s):Za (QW X a) pins σ H s :=
 ⟨⟨I.ok.mod,I.ok.kind,I.ok.glob,I.ok.blt,I.ok.above,I.ok.inj,I.ok.has,I.ok.cab,(fun z=>nomatch z),I.ok.frames,I.ok.stk,I.ok.exf,I.ok.bs,I.ok.bsz,I.ok.noex,I.ok.exfs,I.ok.funs,I.ok.frf⟩,
  I.os,I.bare,I.base,I.loc,I.cell,I.free,I.freeC,I.pin,I.hok,I.len⟩
theorem Za.ofSuite(hd:X.calm=true->X.A.handled=none)(I:Za (QW X a) pins σ H s):Za X pins σ H s :=
 ⟨⟨I.ok.mod,I.ok.kind,I.ok.glob,I.ok.blt,I.ok.above,I.ok.inj,I.ok.has,I.ok.cab,hd,I.ok.frames,I.ok.stk,I.ok.exf,I.ok.bs,I.ok.bsz,I.ok.noex,I.ok.exfs,I.ok.funs,I.ok.frf⟩,
  I.os,I.bare,I.base,I.loc,I.cell,I.free,I.freeC,I.pin,I.hok,I.len⟩
theorem Zd2:WC (Xo X.prog X.w) (J8 X pins Kx) (fun C _ H=>Kx C H):=by
 intro E c x g e v I y;obtain⟨a,C,h,rfl,os,bare,un,hok,i,_,_,j⟩:=y;have f:Za X pins c x g:=I.ofTry;have n:Za X pins c h v:=f.call' os un hok bare fun b z=>nomatch z;exact⟨a,C,c,h,g.heap,R,n,i,fun p B=>⟨p.2,(f.pin p B).1⟩,fun b u q D=>f.base.there b u q D,j⟩
theorem Za.frame{E:St}{h':Heap}(I:Za X pins σ H s)(hn:h'.Ns X.env.locals D)(f:Heap.SameBut X.env.locals s.heap h')
  (G:∀(i:Nat) (x:Str) (v:V),X.N[i]? = some x->E[i]? = some (some v)->C8 X.env.scope x->∃u,ZD v u/\T0 X.env h' D x u) (hlen:E.length=σ.length):Za X pins E H { s with heap:=h',toks:=t' }:=by
 have C:∀b o,X.s₀.heap.get? b=some o->b≠X.env.locals:=fun b o e=>Sf (Si (Se e) I.ok.above);refine⟨I.ok,I.os,I.bare,⟨fun b o e n B g=>(f.2 b (C b o e)).trans (I.base.keep b o e n B g),fun b o e n B g=>?_,I.base.free,fun b o e g=>?_,I.base.tups,I.base.frzs,I.base.tbls⟩,⟨D,hn,G⟩,fun y c e=>?_,I.free,I.freeC,fun p M=>?_,fun b u q=>?_,hlen.trans I.len⟩
 ·obtain⟨L,j⟩:=I.base.slot b o e n B g
  exact⟨L,(f.2 b (C b o e)).trans j⟩
 ·obtain⟨J,j⟩:=I.base.there b o e g
  exact⟨J,(f.2 b (C b o e)).trans j⟩
 ·obtain⟨v,z⟩:=I.cell y c e
  exact⟨v,z.sameBut f (I.cne y c e)⟩
 ·obtain⟨e,n,ne,nf,d⟩:=I.pin p M
  exact⟨(f.2 p.1 ne).trans e,n,ne,nf,d⟩
 ·refine(I.hok b u q).stay (fun c v h e=>(f.2 c ?_).trans e) (fun _ z=>z) fun _ _ z=>z
  intro z;have fr:=I.free;rcases h with rfl|h
  ·rw[z,fr]at q;cases q
  ·rw[z,fr]at h;cases h
theorem J9(I:Za X pins σ H s)(hi:X.N[i]? = some n)(O:X.N.Nodup)(C:X.env.scope.names.lookup n=some .local)
  (h:∀s',Za X pins (σ.set i none) H s'->Q () s'):wpAny M A (do bindName X.env n .none;unbindBehindTheSuite X.env n pos) Q E s:=by
 obtain⟨m,hn,G⟩:=id I.loc;refine wpAny_nameGoes_keeps (m:=m) C hn (by rw[I.ok.kind];rfl) fun S v J x=>h _ (I.frame J x (fun j y P g f L=>?_) (by simp));have B:j≠i:=fun z=>by
  rw[z]at f;have D:i<σ.length:=by rw[I.len];exact(Sr.mp hi).1
  rw[List.getElem?_set_self D]at f;cases f
 rw[List.getElem?_set_ne (Ne.symm B)]at f;obtain⟨u,r,q⟩:=G j y P g f L;refine⟨u,r,?_⟩;rcases q with⟨k,e⟩|⟨k,c,e,z⟩
 ·have ne:y≠n:=fun z=>B (LL O g (z ▸ hi))
  exact .inl ⟨k,by simp[ne,e]⟩
 ·exact .inr ⟨k,c,e,z.sameBut x (I.cne y c e)⟩
end
section
variable{body suite:List Stmt}{b₀:Stmt}{n x:Str}{i:Nat}{R:Addr}{np hpos:Pos}{tb:(Value->Hp->Prop)->TS}{th:TS}
def Zd3(K:Ow)(R:Addr)(i N:Nat)(tb:(Value->Hp->Prop)->TS)(th:TS):TS:=fun D g H =>
 tb (fun C f=>W.exmOne K C (.ref R)=some true/\∀a,f a=none ->
  th { nx:=fun e c=>D.nx (e.set i none) c,rt:=D.rt,bk:=fun e c=>D.bk (e.set i none) c,ct:=fun e c=>D.ct (e.set i none) c } ((List.replicate N none).set i (some (.ref a))) (upd f a (Wg a C))) D g H
theorem Zd4(m0:X.stack=X.env::X.outer/\X.env.frame=some X.env.locals)(p0:X.ex=[])(E:X.N.Nodup)(hi:X.N[i]? = some n)(B:X.env.scope.names.lookup n=some .local)(hg:Gl X x)(hm:X.mg x=some (.ref R))
  (L:∀pins Kx,XF (J8 X pins Kx) body (tb Kx)) (hs:∀a,XF (QW X a) (b₀::suite) th) (q0:(x == ("__debug__" : Str))=false:=by lia) :
  PS X (.Try body [.ExceptHandler (some (.Name x np)) (some n) (b₀::suite) hpos] [] [] pos) (Zd3 X.K R i X.N.length tb th):=by
 intro pins s σ u0 n0 I r0;refine wpAny_Try_except (Op (L pins _ [] s σ u0 n0 I.toTry r0) (fun f y q=>?_) fun e y q=>?_)
 ·cases f with
  |next=>obtain⟨g,c,h,q⟩:=q;exact wpAny_execs_nil ⟨g,c,h.ofTry,q⟩
  |brk=>obtain⟨g,c,h,q⟩:=q;exact⟨g,c,h.ofTry,q⟩
  |cont=>obtain⟨g,c,h,q⟩:=q;exact⟨g,c,h.ofTry,q⟩
  |ret u=>obtain⟨v,g,c,h,r,q⟩:=q;exact⟨v,g,c,h.ofTry,r,q⟩
 ·obtain⟨a,C,l0,S,t0,rfl,I1,⟨o0,t,fl,ha,g0⟩,a0,j0,x0,z0⟩:=q
  obtain⟨M,b1⟩:=m0;have mv:∀G,Heap.FlyingW o0 X.stack a C (.ref t) G->y.heap.UpToSlots G->Za X pins l0 S { y with heap:=G }:=fun G e1 up=>I1.moved (fun b o e L hn=>e1.1 b o (g0 b o e (by
   rcases L with⟨u,q,hx⟩|⟨u,q⟩|⟨p,D,rfl⟩
   ·exact .inl (j0 b u q hx)
   ·exact .inr ⟨u,q⟩
   ·exact .inl (a0 p D)) hn)) up
  have s0:X.A.frames=some (X.env::X.outer):=by rw[<-M];exact I.ok.frames
  rw[M]at fl;refine wpAny_looks_onW s0 b1 fl fun h4 f1 c0=>?_;refine wpAny_landsW f1 fun T U b0=>?_;have I5:=mv T (by rw[M];exact U) (c0.trans b0);obtain⟨i1,y0,d1⟩:=U.there;have LT:W.Looks (model X.prog X.w) T (typeOf (.ref a)) C:=d1 ▸ (W.Looks.ld y0).andThen .now;refine wpAny_handleBy_cons (codeAny_handlers_test (Ut (X:=QW X a) I5.toSuite hg hm ?_ q0)) (by intro z;cases z);refine(W.exm_one (K:=X.K) (I5.kIn:X.K.In T) LT x0) _ _ _ _ (fun _ _ z=>z) ?_;refine codeAny_handlers_suite_as ?_;refine lands_againW U fun Y d0 a1=>?_;have I6:=mv Y (by rw[M];exact d0) ((c0.trans b0).trans a1);obtain⟨f0,c1,Q,w0,e0,_⟩:=d0.first;have v0:∀o,y.heap.get? a=some o->a∉Yl X.stack:=fun o e z=>by
   obtain⟨ob,vs,O,_,q2,_⟩:=fl.first;exact I1.frd a z ob O vs q2
  have Z:∀u,t0.get? a=some u->False:=fun u q=>by
   obtain⟨ob,vs,O,_,q2,_⟩:=fl.first;have z:=g0 a ob O (.inl ⟨u,q⟩) (v0 ob O);rw[fl.2.1]at z;cases z
  have h0:X.s₀.heap.get? a=none:=by
   cases q:X.s₀.heap.get? a with
   |none=>rfl
   |some u =>
    obtain⟨u',z⟩:=j0 a u q (by rw[p0];exact fun z=>nomatch z);exact(Z u' z).elim
  have D:∀p∈X.pn++pins,p.1≠a:=fun p D z=>by
   obtain⟨u,q⟩:=a0 p D;rw[z]at q;exact Z u q
  have I7:Za X pins l0 (upd S a (Wg a C)) { y with heap:=Y }:=I6.track ha Q e0 h0 D
   ⟨⟨f0,c1,Q,w0,e0⟩,⟨f0,Q⟩,fun ha L ⟨o,v,z1,z2⟩ k=>⟨o,v,k o z1,z2⟩⟩
  have I8:Za X pins (List.replicate X.N.length none) (upd S a (Wg a C)) { y with heap:=Y }:=I7.weak (by rw[Sz,I7.len]) fun h1 v q=>by
   rw[List.getElem?_replicate]at q
   split at q<;>cases q
  refine C9 (X:=QW X a) I8.toSuite E hi (.inl B) (v:=.ref a) rfl (fun s9 I9=>?_) (.inr B);refine Op (hs a pins s9 _ _ _ I9 (z0 a ha)) (fun f i0 q=>?_) fun _ _ z=>z.elim;have H:∀{g:St} {c:Hp},Za (QW X a) pins g c i0->Za X pins g c i0:=fun J=>J.ofSuite I.ok.hd;cases f with
  |next=>obtain⟨g,c,J,q⟩:=q;exact J9 (H J) hi E B fun P j=>⟨_,c,j,q⟩
  |brk=>obtain⟨g,c,J,q⟩:=q;exact J9 (H J) hi E B fun P j=>⟨_,c,j,q⟩
  |cont=>obtain⟨g,c,J,q⟩:=q;exact J9 (H J) hi E B fun P j=>⟨_,c,j,q⟩
  |ret u=>obtain⟨v,g,c,J,r,q⟩:=q;exact J9 (H J) hi E B fun P j=>⟨v,_,c,j,r,q⟩
end
inductive Zd5(x:V)(lo:Option Int)(hi:Option Int)(H:Hp)(Q:VK):Prop|mk z (_:x=.str z) (_:z.length<=sizeLine) (_:Q (.str (Txt.slice z lo hi)) H)
theorem yS(p:IsPart v o):∃l:Option (Int×Tok),v=partValue l/\l.map (·.1)=o:=by
 cases p with
 |none=>exact⟨none,R,R⟩
 |int i t=>exact⟨some (i,t),R,R⟩
theorem yT:Mb X Zd5:=by
 intro pins s C H x v B j lo y D Q I c f g e h;obtain⟨z,rfl,i,q⟩:=h;obtain⟨t,rfl⟩:=c;obtain⟨l,rfl,rfl⟩:=yS g;obtain⟨u,rfl,rfl⟩:=yS e;refine⟨"str",_,PySem.F.slot_str_getitem.lookup,typeIs_str s z t,wpAny_getItem_str_slice (l:=l) (u:=u) (st:=none) f R ?_⟩;exact post_val_or_str ⟨Sh (Txt.slice_le z _ _) i,fun n k=>⟨.str _,H,I.tok _,⟨_,R⟩,q⟩⟩
def Mq:List V->List V->Bool
 |[],[]=>true
 |x::xs,y::ys=>WV x y && Mq xs ys
 |_,_=>false
theorem yU:∀(xs ys:List V),xs.length=ys.length->(List.range xs.length).all (fun j=>WV (xs.getD j .non) (ys.getD j .non))=Mq xs ys
 |[],[],_=>rfl
 |[],_::_,h=>nomatch h
 |_::_,[],h=>nomatch h
 |x::xs,y::ys,h=>by
  have c:=yU xs ys (by simpa using h);rw[Sy,List.range_succ_eq_map,List.all_cons,List.all_map];show(WV x y && _)=(WV x y && Mq xs ys);rw[<-c];rfl
theorem yV:∀bs:List Bool,(List.range bs.length).all (fun i=>bs.getD i false)=bs.all id
 |[]=>rfl
 |b::bs=>by
  rw[Sy,List.range_succ_eq_map,List.all_cons,List.all_map,List.all_cons];show(b && _)=(b && _);rw[<-yV bs];rfl
theorem yW(C:X.calm=true):YV X (.builtin "all") (fun xs H Q=>∃(p:Addr) (bs:List Bool),xs=[.ref p]/\Zf X.K H p (bs.map V.bl)/\Q (.bl (bs.all id)) H):=by
 intro pins s σ H xs us Q I r h;obtain⟨p,bs,rfl,Y,q⟩:=h;obtain⟨a0,rfl,J⟩:=X1 r;cases J;obtain⟨its,y,g,hz⟩:=I.list Y;have hlen:=y.length;obtain⟨o,b0,M,_⟩:=id g;have O:p≠s.heap.objs.size:=Sf (Se M);have L:TruthOf X.prog X.w X.A.in1 (fun i v=>its.toArray[i]? = some v) (fun i=>bs.getD i false):=by
  intro i v s2 B E2 Z G;have n:its[i]? = some v:=by simpa using Z
  have j:i<bs.length:=by
   have:=(Sr.mp n).1;rw[<-hlen,Sv]at this;exact this
  obtain⟨w,c,f⟩:=y.get (i:=i) (x:=.bl bs[i]) (by rw[Oa,Ss j];rfl);rw[n]at c;cases c;cases f;refine wpAny_truthy_bool ?_;have T:bs.getD i false=bs[i]:=by rw[List.getD_eq_getElem?_getD,Ss j];rfl
  have u:B (bs.getD i false) s2:=G;rw[T]at u;exact u
 refine call_all_walk (wpAny_pyIter_list g.isList ?_);refine⟨s.heap.objs.size,[s.heap.objs.size,p],[s.heap.objs.size],its.toArray.size,_,_,_,R,Walks.list (A:=X.A.in1) (I.ok.hd C) _ _ O its.toArray,⟨⟨_,Sd _ R,R,R⟩,?_⟩,L,fun P tk E=>?_⟩
 ·obtain⟨S,f,U⟩:=g.isList
  exact⟨S,Sc _ f,U⟩
 ·have D:∀b o,s.heap.get? b=some o->P.get? b=some o:=fun b o e=>E b o (fun z=>by
   have c:=Se e;rw[SE.mp z]at c;exact Oq c (Sl _)) (Sc _ e)
  have e:(List.range its.toArray.size).all (fun i=>bs.getD i false)=bs.all id:=by
   rw[SN,<-hlen,Sv];exact yV bs
  rw[e];exact⟨.bl _,H,I.kept (t':=tk) D,R,q⟩
theorem Za.laidN{h':Heap}(I:Za X pins e H s)(k:∀b u,s.heap.get? b=some u->h'.get? b=some u)(hn:s.heap.get? a=none)
  (new:Yf X.prog X.w (upd H a o) h' a o):Za X pins e (upd H a o) { s with heap:=h',toks:=t' }:=by
 have ha:H a=none:=I.hasNo hn;have nt:∀b u,H b=some u->b≠a:=fun b u q=>ZI q ha;refine I.un ⟨fun b u q _ _ _=>k b u q,fun b u q _ _ _=>⟨u.slots,k b u q⟩,fun b u q n _=>?_,fun b u q _=>⟨u,k b u q⟩,fun b g q=>?_,fun b u g q=>?_,fun b h q=>⟨#[],?_⟩⟩ fun b u q=>?_
 ·have ne:b≠a:=fun z=>by rw[z,hn]at q;cases q
  rw[Zd ne];exact n
 ·rw[Zd (nt _ _ q)];exact q
 ·rw[Zd (nt _ _ q)];exact q
 ·rw[Zd (nt _ _ q),q];simp
 ·by_cases f:b=a
  ·subst f;rw[Zg]at q;cases q;exact new
  ·rw[Zd f]at q
   exact(I.hok b u q).stay (fun c v _ z=>k c v z) (fun c z=>by rw[Zd (nt _ _ z)];exact z) fun c g z=>by rw[Zd (nt _ _ z)];exact z
def UC(z:Str)(c:Nat):Bool:=!(Builtin.Str.occurrences z ⟨#[c]⟩ 0 z.length 1).isEmpty
theorem yX{g:Nat->Bool}:∀(cs:OF) (vs rs:OA),vs.length=cs.length->(∀(j:Nat) (v:Value),vs[j]? = some v->∃c u,cs[j]? = some c/\v=.str ⟨#[c]⟩ u) ->
  Paired (fun v r=>∀c u,v=.str ⟨#[c]⟩ u->r=.bool (g c)) vs rs->Zx (cs.map fun c=>V.bl (g c)) rs
 |[],[],_,_,_,.nil=>.nil
 |[],_::_,_,h,_,_=>nomatch h
 |_::_,[],_,h,_,_=>nomatch h
 |c::cs,v::vs,_,h,e,.cons r t=>by
  obtain⟨x,u,i,f⟩:=e 0 v R;have q:c=x:=by simpa using i
  subst q;exact .cons (r c u f) (yX cs vs _ (by simpa using h) (fun j w n=>by simpa using e (j+1) w (by simpa using n)) t)
section
variable{x z:Str}{p1 p2 p3 px:Pos}{iter:Expr}{ti:TE}{cl:Ox}{zs:Str}
def yY(X:Cx)(scope:Scope)(cl:Ox)(z:Str)(p2:Pos)(zs:Str)(c:St):Prop :=
 ∀(pins:Ou) (H:Hp) (s1 s3:Shared) (C:Addr) (Q:Ot) (E:Ot),Za X pins c H s1->(∀b o,s1.heap.get? b=some o->s3.heap.get? b=some o)->(∀t,Q (.str zs t) s3) ->
  wpAny (model X.prog X.w) X.A (eval (.Name z p2) (compEnvC scope cl C X.env)) Q E s3
def Zd6(X:Cx)(scope:Scope)(cl:Ox)(z:Str)(p2:Pos)(ti:TE):TE:=fun e H Q=>∃zs,yY X scope cl z p2 zs e/\ti e H fun v f=>∃y,v=.str y/\y.length<=sizeLine /\
 ∀p,f p=none->Q (.ref p) (upd f p (.lst (y.cps.toList.map fun c=>V.bl (UC zs c))))
theorem Zd7(Y:X.calm=true)(hi:PE X iter ti)(T:closureFor scope X.env=pure cl)(Z:∀y∈scope.names,y.2≠.cell)(S:scope.kind=.function)
  (i0:∀y∈scope.names,y.2=.local->scope.names.lookup y.1=some .local) (M:scope.names.lookup x=some .local) (hs:∀v,foldedSetIterable iter X.env v=pure v:=by intro _;rfl) (hd:(x == ("__debug__" : Str))=false:=by lia) :
  PE X (.ListComp (.Compare (.Name x p1) [.In] [.Name z p2] p3) [⟨.Name x px,iter,[],0⟩] scope pos) (Zd6 X scope cl z p2 ti):=by
 intro pins s σ g0 l0 h0 h;obtain⟨zs,zr,h⟩:=h;refine wpAny_ListComp_free (cl:=cl) (fun _=>true) (fun v r=>∀c u,v=.str ⟨#[c]⟩ u->r=.bool (UC zs c)) T Z S i0 M (Zq (hi pins s σ g0 _ h0 h) fun xv f ⟨v,P,E,r1,y,ev,hy,e0⟩=>?_) hs;subst ev;obtain⟨t,rfl⟩:=r1;refine wpAny_pyIter_str fun o St W U=>?_;have O:∀(q:Heap),(∀b g,b∉[f.heap.objs.size]->(f.heap.push o).get? b=some g->q.get? b=some g)->∀b g,f.heap.get? b=some g->q.get? b=some g:=fun q j b g e =>
  j b g (fun z=>by
   have i:=Se e;rw[SE.mp z]at i;exact Oq i (Sl _)) (Sc _ e)
 refine⟨f.heap.objs.size,[f.heap.objs.size],[f.heap.objs.size],y.cps.size,SignAt y,St,R,W X.A (E.ok.hd Y),hy,U,fun b hb=>?_,⟨?_,?_⟩,?_⟩
 ·rw[SE.mp hb]
  show f.heap.objs.size<(f.heap.push o).objs.size;rw[Heap.size_push];exact Sm _
 ·intro C b0 v n Q E' _ B hn hm j _
  exact Sb ⟨R,n.heap,n.toks,R,fun _ _ e=>e⟩
 ·intro C b0 v n Q E' _ B _ hn hm j _
  obtain⟨c,u,_,rfl⟩:=B;refine wpAny_Compare1 (wpAny_Name (wpAny_loadName_local (env:=compEnvC scope cl C X.env) (m:=Q) S (lookup_relabel_local M) hn hm ?_) hd);refine zr pins P f n C _ _ E (O _ j) fun t3=>?_;refine in_str ⟨fun c' u' e=>?_,n.heap,n.toks,R,fun _ _ e=>e⟩;injection e with i _;injection i with G;have e3:c=c':=by simpa using G
  subst e3;rfl
 ·intro D q tk I H c0 hl a0 hlen B L j
  have J:f.heap.get? D=none:=by
   cases e:f.heap.get? D with
   |none=>rfl
   |some u =>
    have:=Sc o e;rw[show(f.heap.push o).get? D=none from c0]at this;cases this
  obtain⟨j0,hD⟩:=a0;have d0:H.filter (fun _=>true)=H:=List.filter_eq_self.mpr fun _ _=>R;rw[d0]at L;have V1:Zx (y.cps.toList.map fun c=>V.bl (UC zs c)) I.toList:=yX y.cps.toList H I.toList (by rw[hlen];simp) (fun f0 v hv=>by
   obtain⟨c,u,i,G⟩:=B f0 v hv;exact⟨c,u,by simpa using i,G⟩) L
  have new:Yf X.prog X.w (upd P D (.lst (y.cps.toList.map fun c=>V.bl (UC zs c)))) q D (.lst (y.cps.toList.map fun c=>V.bl (UC zs c))):=by
   refine⟨?_,I.toList,j0,V1,?_⟩
   ·rw[Sv]
    have:y.cps.toList.length=y.length:=by simp[Str.length]
    lia
   ·rw[Array.toArray_toList];exact hD
  exact⟨.ref D,_,E.laidN (t':=tk) (O q j) J new,R,e0 D (E.hasNo J)⟩
theorem Zd8(f:(relabel scope X.env).names.lookup z=some .globalImplicit)(g:scope.kind=.function)(hm:X.mg z=some (.str zs t))(hd:(z == ("__debug__" : Str))=false:=by lia):yY X scope cl z p2 zs c:=by
 intro pins H h e C Q E I k q;exact Calls.Name_function_global (env:=compEnvC scope cl C X.env) g f (Calls.loadGlobal_global (env:=compEnvC scope cl C X.env) (by
  show e.heap.Ns X.env.globals X.mg;rw[I.ok.glob];exact(I.mod.glob.keeps I.bk).keeps k) hm (q t)) hd
end
theorem VY:YV X (.builtin "isinstance") (fun xs H Q=>∃x T t b,xs=[x,.ty T]/\X2 X.K H x t/\W.kitOne X.K t (.type T)=some b/\Q (.bl b) H):=by
 intro pins s i H xs j Q I r h;obtain⟨x,T,t,b,rfl,ty,e,q⟩:=h;obtain⟨u,g,rfl,c,f⟩:=QS r;cases (show g=Value.type T from f);exact zS I c ty e fun tk=>⟨.bl b,H,I.tok _,R,q⟩
theorem Zd9:YV X (.builtin "isinstance") (fun xs H Q=>∃x C t b,xs=[x,.ref C]/\X2 X.K H x t/\W.kitOne X.K t (.ref C)=some b/\Q (.bl b) H):=by
 intro pins s i H xs j Q I r h;obtain⟨x,C,t,b,rfl,ty,e,q⟩:=h;obtain⟨u,g,rfl,c,f⟩:=QS r;cases (show g=Value.ref C from f);exact zS I c ty e fun tk=>⟨.bl b,H,I.tok _,R,q⟩
section
variable{x:Str}
theorem X4(c:Gl X x)(hm:X.mg x=some (.ref a))(hd:(x == ("__debug__" : Str))=false:=by lia):PE X (.Name x pos) (tC (.ref a)):=T5 c hm R hd
theorem VA(e:Gl X x)(hm:X.mg x=none)(c:bootBuiltins x=some (.type T))(hn:x ≠ "__name__" := by lia) (hd:(x == ("__debug__" : Str))=false:=by lia):PE X (.Name x pos) (tC (.ty T)):=Zct e hm c R hn hd
end
open PySem PySem.Spec PyProof.Rows PySem.W PySem.Calls Builtin Builtin.ObjectAttr Builtin.Getset_descriptor
section
variable{a C:Addr}{o:Obj}{R:Result->Shared->Prop}
structure X5(K:Ow)(C:Addr):Prop where
 cl:(W.clsIn K C).isSome=true
 g1:W.findIn K (.ref C) "__getattribute__" = some (some (.builtin "BaseException.__getattribute__"))
 g2:W.findIn K (.ref C) "__getattr__" = some none
 g3:W.findIn K (.ref C) "__class__" = some (some (.builtin "object.__class__"))
 g4:W.mroIn K C (.type "object")=some true
 g5:W.mroIn K C (.type "BaseException")=some true
 g6:W.specialIn K (.builtin "object.__class__") "__get__" = some (some (.builtin "getset_descriptor.__get__"))
 g7:W.takesIn K (.builtin "object.__class__")=some true
theorem Zea(Y:K.In s.heap)(c:X5 K C)(i:s.heap.get? a=some o)(f:o.cls=.ref C)(h:R (.ok (.ret (.ref C))) s) :
  codeAny (model prog w) A (.call (.builtin "getset_descriptor.__get__") ⟨[.builtin "object.__class__",.ref a,tp],[]⟩) R s:=by
 obtain⟨e,g,dr,t,os⟩:=s;have n:Looks (model prog w) e (typeOf (.ref a)) (.ref C):=f ▸ (Looks.ld i).andThen .now;have j:=looks_mroIn (M:=model prog w) Y c.g4;refine codeAny_call_builtin KF.slot_gs.plain KF.entry_gs (KF.slot_gs.check _ _ _ _ _ _ _ _ KF.type_class (KF.args_gs _ _ _) ?_);unfold Builtin.«getset_descriptor.__get__» descrGet;rw[dga_obj];refine Sa (Sb ?_);unfold descrGetter descrCheckInstance descrNameAndClass isInstance;simp only[KF.owner_class]
 repeat lk
 refine⟨Code.quiet_builtin _ (by lia),codeAny_builtin KF.entry_class ?_⟩;unfold Builtin.«object.__class__» shownTypeOf
 repeat lk
 exact h
theorem Zeb(Y:K.In s.heap)(c:X5 K C)(f:s.heap.get? a=some o)(e:o.cls=.ref C)(h:Q (.done (.ret (.ref C))) s) :
  wpAny (model prog w) A (Builtin.«object.__getattribute__» ⟨[.ref a,.str "__class__" tk],[]⟩) Q E s:=by
 obtain⟨i,g,dr,t,os⟩:=s;have u:Looks (model prog w) i (typeOf (.ref a)) (.ref C):=e ▸ (Looks.ld f).andThen .now;have q:=looks_findIn (M:=model prog w) Y c.g3;have n:=looks_specialIn (M:=model prog w) Y c.g6;have j:=looks_takesIn (M:=model prog w) Y c.g7;unfold Builtin.«object.__getattribute__»
 repeat lk
 refine wpAny_run (c:=.call (.builtin "getset_descriptor.__get__") ⟨[.builtin "object.__class__",.ref a,.ref C],[]⟩) (h:=none) (Zea (R:=_) Y c f e ?_);exact Sb (Sb h)
theorem Zec(Y:K.In s.heap)(c:X5 K C)(v:s.heap.get? a=some o)(j:o.cls=.ref C)(h:Q () s) :
  wpAny M A (checkBuiltinCall "BaseException.__getattribute__" ⟨[.ref a,e],[]⟩) Q E s:=by
 obtain⟨i,g,dr,t,os⟩:=s;have u:Looks M i (typeOf (.ref a)) (.ref C):=j ▸ (Looks.ld v).andThen .now;have n:=looks_mroIn (M:=M) Y c.g5;have q:builtinKind "BaseException.__getattribute__" = some .slot:=by lia
 have f:splitId "BaseException.__getattribute__" = some ("BaseException","__getattribute__"):=by lia
 have ha:=PySem.F.args_bexc_ga (.ref a) e;simp only[checkBuiltinCall,q,f];refine Sa ?_;unfold isInstance;refine Sa (u.at ?_);refine n.at ?_;rw[SV (by lia)];exact wpAny_of_eq ha h
theorem Zed(Y:K.In s.heap)(c:X5 K C)(f:s.heap.get? a=some o)(e:o.cls=.ref C)(h:Q (some (.ref C)) { s with toks:=s.toks+1 }) :
  wpAny (model prog w) A (getAttr? (.ref a) "__class__") Q E s:=by
 obtain⟨j,g,dr,t,os⟩:=s;have q:Looks (model prog w) j (typeOf (.ref a)) (.ref C):=e ▸ (Looks.ld f).andThen .now;have n:=looks_findIn (M:=model prog w) Y c.g1;have i:=looks_findIn (M:=model prog w) Y c.g2;have u:=PySem.F.excAttr_ValueError.ga.bind (.ref a);unfold getAttr? getAttrBy? getAttrBy;refine Sa (wpAny_mkText (Sa (wpAny_attempt (wpAny_holding (Sa (q.at (Sa (n.at ?_))))))));dsimp only;rw[SV (show ¬ ((onTheHeap (Value.ref C) && Value.builtin "BaseException.__getattribute__" == Value.builtin "object.__getattribute__")=true) by
  rw[show(Value.builtin "BaseException.__getattribute__" == Value.builtin "object.__getattribute__")=false by lia,Bool.and_false];lia)]
 unfold getAttrByItsOwn hookBefore;rw[SW (show onTheHeap (Value.ref C)=true from rfl)];refine Sa (i.at ?_);unfold callGetattribute;rw[SV (by lia)];unfold boundAndCalled;refine Sa (wpAny_attempt (wpAny_holding (Sa (wpAny_of_eq u ?_))));refine wpAny_call (codeAny_call_builtin PySem.F.excAttr_ValueError.ga.plain PySem.F.entry_bexc_ga (Zec Y c f e (Zeb Y c f e ?_)));exact Sb (Sb h)
theorem yZ(c:X5 K C):KitX K (.ref a) (.ref C) (fun h=>∃ob vs,h.get? a=some ob/\ob.cls=.ref C/\ob.data=.fields vs) where
 ty:=fun M h Y ⟨ob,vs,i,g,_⟩=>g ▸ (Looks.ld i).andThen .now
 it:=fun M h Y _=>by
  obtain⟨j,f⟩:=Option.isSome_iff_exists.mp c.cl;unfold clsIn at f
  split at f
  ·next ho =>
   intro v D G x k q;unfold isType loadHead;exact Sa (wpAny_loadPart (k _ _ (Y _ _ ho)) (Sb q))
  ·cases f
 ne:=fun h tp y its n B Y u=>by
  obtain⟨j,f⟩:=Option.isSome_iff_exists.mp c.cl;refine Oh.mpr fun q=>?_;have e:C=tp:=Value.ref.inj (beq_iff_eq.mp q);subst e;unfold clsIn at f
  split at f
  ·next ho =>
   have z:=(Y _ _ ho).symm.trans u;cases z
  ·cases f
 ca:=fun Y ⟨ob,vs,i,g,_⟩ k=>Zed Y c i g k
end
theorem Zee:YV X (.builtin "isinstance") (fun xs H Q=>∃(a C D:Addr) (b:Bool),xs=[.ref a,.ref D]/\H a=some (Wg a (.ref C))/\X5 X.K C/\W.kitOne X.K (.ref C) (.ref D)=some b/\Q (.bl b) H):=by
 intro pins s j H xs n Q I r h;obtain⟨a,C,D,b,rfl,ha,c,e,q⟩:=h;obtain⟨u,i,rfl,f,g⟩:=QS r;cases (show u=Value.ref a from f);cases (show i=Value.ref D from g);obtain⟨p,_⟩:=I.hok a _ ha;exact kia_one (yZ c) I.kIn p e (fun z=>nomatch z) fun tk=>⟨.bl b,H,I.tok _,R,q⟩
theorem Zef:YV X (.builtin "isinstance") (fun xs H Q=>∃(a C:Addr) (T:String) (b:Bool),xs=[.ref a,.ty T]/\H a=some (Wg a (.ref C))/\X5 X.K C/\W.kitOne X.K (.ref C) (.type T)=some b/\Q (.bl b) H):=by
 intro pins s j H xs n Q I r h;obtain⟨a,C,T,b,rfl,ha,c,e,q⟩:=h;obtain⟨u,i,rfl,f,g⟩:=QS r;cases (show u=Value.ref a from f);cases (show i=Value.type T from g);obtain⟨p,_⟩:=I.hok a _ ha;exact kia_one (yZ c) I.kIn p e (fun z=>nomatch z) fun tk=>⟨.bl b,H,I.tok _,R,q⟩
theorem X6{c:Type}{t:Sem c}{Q e:c->Shared->Prop}{M:Model}(h:wpAny M A t Q (fun _ _=>False) s)(f:∀a s,Q a s->e a s):wpAny M A t e E s:=Op h f fun _ _ z=>z.elim
abbrev xA(ifs:OC)(env:Env):Sem Bool:=forIn ifs true fun c r=>if r=true then do let ok <-isTrue c env (eval c env);pure (ForInStep.yield ok)else pure (ForInStep.yield r)
theorem xB{R:Result->Shared->Prop}{iter : Expr}(J:Nat->Shared->Prop)
  (turn:∀k c,J k c->wpAny (model prog w) A (pyNext f) (fun r s2=>match r with
   |none=>R (.ok .next) s2
   |some v=>wpAny (model prog w) A (letOwnedTupleGo e f v) (fun _ i=>wpAny (model prog w) A (assign e env v) (fun _ n=>wpAny (model prog w) A (xA B env) (fun ok s5 =>
     if ok=true then wpAny (model prog w) A (eval u env) (fun x C=>wpAny (model prog w) A (call (.builtin "list.append") [g,x]) (fun _ y=>∃m,m<k/\J m y) (fun _ _=>False) C) (fun _ _=>False) s5
     else ∃m,m<k/\J m s5) (fun _ _=>False) n) (fun _ _=>False) i) (fun _ _=>False) s2) (fun _ _=>False) c)
  (k:Nat) (h:J k s):codeAny (model prog w) A (.compLoop (.ListComp u [⟨e,iter,B,0⟩] scope pos) 0 f g env) R s:=by
 refine codeAny_loop rfl J (fun k c G=>?_) k h;refine wpAny_noted ?_;rw[compTurn_list];refine Sa (wpAny_standAt (Sa (X6 (turn k c G) fun r s2 j=>?_)));cases r with
 |none=>exact Sb j
 |some v =>
  refine Sa (X6 j fun _ i E=>Sa (X6 E fun _ n I=>Sa (X6 I fun ok s5 q=>?_)));cases ok with
  |false=>exact Sb ⟨rfl,q⟩
  |true=>exact Sa (Sa (X6 q fun x C H=>Sa (X6 H fun _ y D=>Sb (Sb ⟨rfl,D⟩))))
abbrev Xa(X:Cx)(N:OB)(scope:Scope)(cl:Ox)(C:Addr)(s0:Shared)(H0:Hp)(ex:OG)(pins:Ou):Cx :=
 { X with N:=N,s₀:=s0,H₀:=H0,env:=compEnvC scope cl C X.env,outer:=X.stack,stack:=X.stack,ex:=ex,fn:=fun _=>false,pn:=X.pn++pins,xe:=fun _ _=>False }
def Vg(X:Cx)(scope:Scope)(cl:Ox):List Str->List (Option Nat)->Prop
 |[],[]=>True
 |_::N,none::fr=>Vg X scope cl N fr
 |y::N,some i::fr=>(X.N[i]? = some y/\(X.env.kindOf y=some .cell\/X.env.kindOf y=some .free)/\((relabel scope X.env).names.lookup y=some .cell\/(relabel scope X.env).names.lookup y=some .free) /\
   ∃c,X.env.cells.lookup y=some c/\cl.lookup y=some c)/\Vg X scope cl N fr
 |_,_=>False
def Qs(fr:List (Option Nat))(c:St):St:=fr.map fun o=>match o with|none=>none|some i=>(c[i]?).getD none
theorem Vg.len:∀{N:OB} {fr:List (Option Nat)},Vg X scope cl N fr->fr.length=N.length
 |[],[],_=>rfl
 |_::N,none::fr,h=>by rw[Sy,Sy,Vg.len (N:=N) h]
 |_::N,some i::fr,h=>by rw[Sy,Sy,Vg.len (N:=N) h.2]
 |[],_::_,h=>h.elim
 |_::_,[],h=>h.elim
theorem Vg.at{cl:Ox}:∀{N:OB} {fr:List (Option Nat)} {j:Nat},Vg X scope cl N fr->N[j]? = some y->(Qs fr f)[j]? = some (some v) ->
  ∃i:Nat,f[i]? = some (some v)/\X.N[i]? = some y/\(X.env.kindOf y=some .cell\/X.env.kindOf y=some .free)/\((relabel scope X.env).names.lookup y=some .cell\/(relabel scope X.env).names.lookup y=some .free) /\
   ∃c,X.env.cells.lookup y=some c/\cl.lookup y=some c
 |[],[],j,_,e,_=>by simp at e
 |[],_::_,_,h,_,_=>h.elim
 |_::_,[],_,h,_,_=>h.elim
 |_::N,none::fr,0,_,_,q=>by cases q
 |_::N,none::fr,j+1,h,e,q=>Vg.at (N:=N) (fr:=fr) (j:=j) h e q
 |x::N,some i::fr,0,h,e,q=>by
  have n:x=y:=So e;subst n;have g:some ((f[i]?).getD none)=some (some v):=q;refine⟨i,?_,h.1⟩;cases z:f[i]? with
  |none=>rw[z]at g;cases g
  |some o=>rw[z]at g;exact congrArg some (So g)
 |_::N,some i::fr,j+1,h,e,q=>Vg.at (N:=N) (fr:=fr) (j:=j) h.2 e q
def VZ(X:Cx):List (Str×Addr)->Prop
 |[]=>True
 |(y,c)::r=>X.env.cells.lookup y=some c/\VZ X r
theorem VZ.at:∀{cl:Ox},VZ X cl->cl.lookup y=some c->X.env.cells.lookup y=some c
 |[],_,e=>by cases e
 |(z,d)::r,h,e=>by
  rw[List.lookup_cons]at e;cases q:y == z with
  |true =>
   rw[q]at e;have g:y=z:=by simpa using q
   have f:d=c:=So e;subst g f;exact h.1
  |false =>
   rw[q]at e;exact VZ.at h.2 e
theorem Mr{c:Type}{p:Str×c->Bool}{y:Str}{k:c}:∀{l:List (Str×c)},l.all p=true->l.lookup y=some k->p (y,k)=true
 |[],_,e=>by cases e
 |(z,d)::r,h,e=>by
  rw[List.all_cons,Bool.and_eq_true]at h;rw[List.lookup_cons]at e;cases q:y == z with
  |true =>
   rw[q]at e;have g:y=z:=by simpa using q
   have f:d=k:=So e;subst g f;exact h.1
  |false =>
   rw[q]at e;exact Mr h.2 e
section
variable{σ:St}{N:OB}{fr:List (Option Nat)}{cl:Ox}
theorem Za.block{h':Heap}(I:Za X pins σ H s)(d0:scope.kind=.function)(L:Vg X scope cl N fr)(h:VZ X cl)
  (e0:((relabel scope X.env).names.all fun p=>!(p.2 == .cell || p.2 == .free) || (cl.lookup p.1).isSome)=true) (i:∀b∈ex,YX X pins H b) (O:∀b∈ex,b<s.heap.objs.size)
  (g:∀b o,s.heap.get? b=some o->h'.get? b=some o) (j:s.heap.objs.size<=C) (Q:h'.Ns C m):Za (Xa X N scope cl C s H ex pins) [] (Qs fr σ) H { s with heap:=h',toks:=tk }:=by
 have E:∀b,b≠X.env.locals->b∉X.fs->b∉Yl X.stack:=fun b M Z z=>(SF.mp (I.stkSub b z)).elim M Z;have T:∀b o,s.heap.get? b=some o->b≠C:=fun b o e=>Sf (Si (Se e) j);refine⟨⟨I.ok.mod,d0,I.ok.glob,I.ok.blt,j,fun x y c u q=>I.ok.inj x y c (h.at u) (h.at q),fun x Y=>?_,(fun _ _ z=>nomatch z),I.ok.hd,I.ok.frames,.inl R,fun b f=>⟨Sf (Si (O b f) j),fun x c e=>(i b f).2.2.2.2.1 x c (h.at e)⟩,
   I.bs,Sh I.ok.bsz I.sz,fun b o e f=>?_,fun b f=>E b (i b f).2.1 (i b f).2.2.1,I.stack,I.stkFree⟩,R,I.bare,Un.kept g,⟨m,Q,fun i0 x v u q e3=>?_⟩,fun x c e=>?_,?_,fun x c e=>I.freeC x c (h.at e),fun p hp=>?_,I.hok.kept g,?_⟩
 ·have a0:∃k,(relabel scope X.env).names.lookup x=some k/\(k=.cell\/k=.free):=Y.elim (fun z=>⟨_,z,.inl R⟩) fun z=>⟨_,z,.inr R⟩
  obtain⟨k,n,D⟩:=a0;have z:=Mr e0 n;have P:(cl.lookup x).isSome=true:=by
   rcases D with rfl|rfl
   ·simpa using z
   ·simpa using z
  exact Option.isSome_iff_exists.mp P
 ·rcases(i b f).2.2.2.1 with z|z
  ·exact I.ok.noex b o e z
  ·exact Oq (Si (Si (Se e) I.ok.bsz) z) (Sl _)
 ·obtain⟨b0,n,D,G,U,c,q5,S⟩:=L.at u q
  obtain⟨m0,j0,f0⟩:=I.loc;obtain⟨g0,r,l⟩:=f0 b0 x v D n (G.elim (fun z=>.inr (.inl z)) fun z=>.inr (.inr z));refine⟨g0,r,.inr ⟨U,c,S,?_⟩⟩;rcases l with⟨k,_⟩|⟨_,c',J,o,B,hd⟩
  ·rcases G with z|z
   ·rw[z]at k;cases k
   ·rw[z]at k;cases k
  ·rw[q5]at J;cases J
   exact⟨o,g _ _ B,hd⟩
 ·obtain⟨v,o,B,hd⟩:=I.cell x c (h.at e)
  exact⟨v,o,g _ _ B,hd⟩
 ·exact I.hok.fresh j
 ·have c0:p∈X.pn++pins:=by simpa using hp
  obtain⟨e,h0,ne,nf,d⟩:=I.pin p c0;exact⟨g _ _ e,h0,T _ _ e,E _ ne nf,d⟩
 ·show(Qs fr σ).length=N.length
  unfold Qs;rw[Sv,L.len]
theorem Za.trackS{ob:Obj}(I:Za X pins σ H s)(ha:H a=none)(i:s.heap.get? a=some ob)(hd:ob.data=.seq vs n)
  (B:X.s₀.heap.get? a=none) (D:∀p∈X.pn++pins,p.1≠a) (new:Yf X.prog X.w (upd H a o) s.heap a o):Za X pins σ (upd H a o) s:=by
 have nt:∀b u,H b=some u->b≠a:=fun b u q=>ZI q ha;refine⟨I.ok,I.os,I.bare,⟨I.base.keep,I.base.slot,fun b u e n C=>?_,I.base.there,fun b h q=>?_,fun b u h q=>?_,fun b x q=>?_⟩,I.loc,I.cell,?_,fun y c e=>?_,fun p q=>?_,fun b u q=>?_,I.len⟩
 ·have ne:b≠a:=fun z=>by rw[z,B]at e;cases e
  rw[Zd ne];exact I.base.free b u e n C
 ·have z:=I.base.tups b h q
  rw[Zd (nt _ _ z)];exact z
 ·have z:=I.base.frzs b u h q
  rw[Zd (nt _ _ z)];exact z
 ·obtain⟨m,z⟩:=I.base.tbls b x q
  exact⟨m,by rw[Zd (nt _ _ z)];exact z⟩
 ·have ne:X.env.locals≠a:=fun z=>by
   obtain⟨m,⟨L,G,E,g,f,_⟩,_⟩:=I.loc;rw[z,i]at g;cases g;rw[hd]at f;cases f
  rw[Zd ne];exact I.free
 ·have ne:c≠a:=fun z=>by
   obtain⟨v,J,g,f⟩:=I.cell y c e;rw[z,i]at g;cases g;rw[hd]at f;cases f
  rw[Zd ne];exact I.freeC y c e
 ·obtain⟨e,n,r⟩:=I.pin p q
  exact⟨e,by rw[Zd (D p q)];exact n,r⟩
 ·by_cases j:b=a
  ·subst j;rw[Zg]at q;cases q;exact new
  ·rw[Zd j]at q
   exact(I.hok b u q).stay (fun c v _ z=>z) (fun c z=>by rw[Zd (nt _ _ z)];exact z) fun c h z=>by rw[Zd (nt _ _ z)];exact z
end
def Ka(X:Cx)(c:OC)(t:TT):Prop :=
 ∀(pins:Ou) (s:Shared) (σ:St) (H:Hp) (Q:Bool->Hp->Prop),Za X pins σ H s->t σ H Q->wpAny (model X.prog X.w) X.A (xA c X.env) (TP X pins σ Q) X.xe s
def VB:TT:=fun _ H Q=>Q true H
theorem V0:Ka X [] VB:=fun _ _ _ H _ I h=>wpAny_tests_nil ⟨H,I,h⟩
theorem Ms(h:PT X c t):Ka X [c] t:=fun pins s e H Q I q=>wpAny_tests_one (h pins s e H Q I q)
def Qt(Q:VK)(c:List V)(H:Hp):Prop:=∀p,H p=none->Q (.ref p) (upd H p (.lst c))
def xC(fr:List (Option Nat))(E:TI)(g:TG)(tt:TT)(D:TE):TE:=fun j H Q=>E j H fun J B=>∃W:Nat->Nat->List V->St->Hp->Prop,(∃m,W 0 m [] (Qs fr j) B)/\∀i m c u H,W i m c u H ->
 (J.stop i H/\Qt Q c H) \/
 (J.go i H/\c.length<sizeLine/\∃N:List V->St->Hp->Prop,(∀v q e,N v q e->∃h,h<m/\W (i+1) h v q e)/\∀x e,J.yld i H x e->g x u e fun f C=>tt f C fun b n=>if b=true then D f n fun y G=>N (c++[y]) f G else N c f n)
theorem VC{iter : Expr}{cl:Ox}
  (P:X.calm=true) (hi:PI X tg iter wi) (w1:closureFor scope X.env=pure cl) (a2:∀y∈scope.names,y.2≠.cell) (o0:scope.kind=.function)
  (e2:∀y∈scope.names,y.2=.local->scope.names.lookup y.1=some .local) (d2:Vg X scope cl N fr) (f0:VZ X cl)
  (e1:((relabel scope X.env).names.all fun p=>!(p.2 == .cell || p.2 == .free) || (cl.lookup p.1).isSome)=true)
  (hg:∀C s0 H0 ex pins,PG (Xa X N scope cl C s0 H0 ex pins) tg g) (ht:∀C s0 H0 ex pins,Ka (Xa X N scope cl C s0 H0 ex pins) r0 tt) (he:∀C s0 H0 ex pins,PE (Xa X N scope cl C s0 H0 ex pins) l0 te)
  (hs:∀v,foldedSetIterable iter X.env v=pure v:=by intro _;rfl):PE X (.ListComp l0 [⟨tg,iter,r0,0⟩] scope pos) (xC fr wi g tt te):=by
 intro pins s Y l1 d1 m1 f1;rw[eval_ListComp];refine wpAny_comprehension_free (use:=none) R hs w1 o0 e2 (Zq (hi pins s Y l1 _ m1 f1) fun xv s1 h1=>Zq h1 fun n2 s2 h2=>?_);obtain⟨it,fp,tn,m2,E,e,J,T,n0,f2,W,⟨m0,w0⟩,turn⟩:=h2;subst e;refine wpAny_newObj_type (wpAny_newFunctionEnv a2 (fun y hy=>nomatch hy) (fun h4 e0 c0=>?_) o0);dsimp only at e0 c0 ⊢;generalize n:s2.heap.objs.size=D at *;generalize hG:s2.heap.push { cls:=.type "list",dict:=none,data:=.seq ([]:OA).toArray } = c1 at e0 c0 ⊢;have hC:c1.objs.size=D+1:=by rw[<-hG,Heap.size_push,n]
 generalize j2:c1.objs.size=C at e0 c0 hC ⊢;subst hC;have p0:∀b o,s2.heap.get? b=some o->h4.get? b=some o:=fun b o e=>by
  have lt:=Se e;rw[n]at lt;exact c0.extBut b o (Sf (Sn lt)) (Sc _ (hG ▸ Sc _ e))
 have j1:h4.get? D=some { cls:=.type "list",dict:=none,data:=.seq ([]:OA).toArray 0 } :=
  c0.extBut _ _ (Sf (Sm _)) (Sc _ (hG ▸ n ▸ Sd _ R))
 have flt:∀b∈fp,b<D:=fun b f=>by
  obtain⟨o,e,_⟩:=T.obj 0 _ n0 b f;have lt:=Se e;rw[n]at lt;exact lt
 have x1:∀b,b≠X.env.locals->b∉X.fs->b∉Yl X.stack:=fun b h1 h2 z=>(SF.mp (J.stkSub b z)).elim h1 h2;have pl:∀p∈X.pn++pins,p.1<D:=fun p h=>by
  have lt:=Se (J.pin p h).1;rw[n]at lt;exact lt
 have I4:∀tk,Za (Xa X N scope cl (D+1) s2 E fp pins) [] (Qs fr Y) E { s2 with heap:=h4,toks:=tk }:=fun tk =>
  J.block o0 d2 f0 e1 f2 (fun b f=>by rw[n];exact flt b f) p0 (by rw[n];exact Nat.le_succ _) e0
 have g0:∀{j:Hp} {o:Obj},(∀b∈fp,j b=none)->∀b∈fp,YX (Xa X N scope cl (D+1) s2 E fp pins) [(D,o)] j b:=fun{j o} hn b f=>by
  obtain⟨_,M,Z,_,L,k5⟩:=f2 b f;refine⟨hn b f,Sf (Sn (flt b f)),x1 b M Z,.inl f,fun x c e=>L x c (f0.at e),fun p h=>?_⟩;rcases SG.mp h with h|h
  ·exact k5 p h
  ·rw[SE.mp h]
   exact(Sf (flt b f)).symm
 have y1:D∉Yl X.stack:=fun z=>by
  obtain⟨_,o,e,_⟩:=J.stack.mem z;have lt:=Se e;rw[n]at lt;exact Oq lt (Sl _)
 have loop:∀tk,codeAny (model X.prog X.w) X.A (.compLoop (.ListComp l0 [⟨tg,iter,r0,0⟩] scope pos) 0 (.ref it) (.ref D) (compEnvC scope cl (D+1) X.env)) (compPost (model X.prog X.w) X.A X.xe none (EP X pins Y d1) (.ref D) (D+1)) { s2 with heap:=h4,toks:=tk }:=fun tk=>by
  refine xB (fun k s'=>∃i a0 j its G I,Za (Xa X N scope cl (D+1) s2 E fp pins) [] a0 j s' /\
    s'.heap.get? D=some { cls:=.type "list",dict:=none,data:=.seq (List.toArray its) G }/\j D=none/\Zx I its/\I.length<=sizeLine/\tn i s'.heap/\(∀b∈fp,j b=none)/\W i k I a0 j) ?_ m0
   ⟨0,_,E,[],0,[],I4 tk,j1,J.hok.fresh (by rw[n];exact Sg _),.nil,Sk _,T.keep 0 _ _ n0 fun b _ o e=>p0 b o e,fun b f=>(f2 b f).1,w0⟩
  rintro k s5 ⟨i,j0,H,its,G,I,I5,hL,h0,va,b1,v0,z0,w5⟩;have c2:∀x c,cl.lookup x=some c->c≠D:=fun x c e z=>by
   obtain⟨v,q⟩:=J.cell x c (f0.at e);have lt:=q.lt;rw[n,z]at lt;exact Oq lt (Sl _)
  have a1:Za (Xa X N scope cl (D+1) s2 E fp pins) [(D,{ cls:=.type "list",dict:=none,data:=.seq (List.toArray its) G })] j0 H s5:=I5.pins_of fun p h=>by
   rw[SE.mp h];exact⟨hL,h0,Sf (Sm _),y1,fun v z=>by cases z⟩
  rcases turn i k I j0 H w5 with⟨stop,qn⟩|⟨go,l2,N1,u0,step⟩
  ·refine X6 (T.done (Xa X N scope cl (D+1) s2 E fp pins) R R R P i _ s5 _ H _ a1 (g0 z0) v0 stop) fun r s6 ⟨hr,B⟩=>?_
   subst hr;obtain⟨m6,b2,_⟩:=B.loc;refine⟨m6,b2,fun Q U=>?_⟩;have t0:Q.get? D=some { cls:=.type "list",dict:=none,data:=.seq (List.toArray its) G }:=U.extBut _ _ (Sf (Sm _)) (B.pin (D,_) (SH _ (SE.mpr R))).1;have q0:∀b o,s2.heap.get? b=some o->b≠D+1:=fun b o e=>by
    have lt:=Se e;rw[n]at lt;exact Sf (Sn lt)
   have nt:∀b u,H b=some u->b≠D+1:=fun b u q z=>by
    have u1:=B.free;rw[z]at q;rw[show H (D+1)=none from u1]at q;cases q
   have un:Un (Yl X.stack) fp E H s2.heap Q:=⟨fun b o e d0 f hx=>U.extBut b o (q0 b o e) (B.base.keep b o e d0 f hx),
    fun b o e d0 f hx=>let ⟨sl,q⟩:=B.base.slot b o e d0 f hx;⟨sl,U.extBut b _ (q0 b o e) q⟩,B.base.free,fun b o e hx=>let ⟨o',q⟩:=B.base.there b o e hx;⟨o',U.extBut b _ (q0 b o e) q⟩,B.base.tups,B.base.frzs,B.base.tbls⟩
   have hok:Yi X.prog X.w H Q:=fun b u q=>(B.hok b u q).stay (fun c v P e=>U.extBut c v (by
    rcases P with rfl|P
    ·exact nt _ _ q
    ·exact nt _ _ P) e) (fun _ z=>z) fun _ _ z=>z
   have I8:Za X pins Y H { s6 with heap:=Q }:=J.call' (s':={ s6 with heap:=Q }) B.os un hok B.bare fun b f=>let ⟨_,M,_,O,L,k5⟩:=f2 b f;⟨O,M,L,k5⟩;have I9:Za X pins Y (upd H D (.lst I)) { s6 with heap:=Q }:=I8.trackS h0 t0 R (by
     cases z:X.s₀.heap.get? D with
     |none=>rfl
     |some o =>
      have lt:=Si (Se z) J.sz;rw[n]at lt;exact Oq lt (Sl _)) (fun p h=>Sf (pl p h)) ⟨b1,its,G,va,t0⟩
   exact⟨.ref D,_,I9,R,qn D h0⟩
  ·refine X6 (T.item (Xa X N scope cl (D+1) s2 E fp pins) R R R P i _ s5 _ H _ a1 (g0 z0) v0 go) fun r s6 ⟨u,hr,h6⟩=>?_
   subst hr;refine X6 h6 fun _ s7 ⟨x,H7,I7,r7,y7,i0,q1⟩=>?_;have v1:Za (Xa X N scope cl (D+1) s2 E fp pins) ([(D,{ cls:=.type "list",dict:=none,data:=.seq (List.toArray its) G })]++Uh fp s7.heap) j0 H7 s7:=I7.pinned (g0 q1) (T.obj _ _ i0);refine X6 (hg _ _ _ _ _ _ s7 _ H7 x u _ v1 r7 (step x H7 y7)) fun _ s8 ⟨b0,H8,I8,q8⟩=>?_;refine X6 (ht _ _ _ _ _ _ s8 b0 H8 _ I8 q8) fun ok s9 ⟨H9,I9,q9⟩=>?_;have wk:∀{a0:St} {j:Hp} {s':Shared},Za (Xa X N scope cl (D+1) s2 E fp pins) ([(D,{ cls:=.type "list",dict:=none,data:=.seq (List.toArray its) G })]++Uh fp s7.heap) a0 j s' ->
     tn (i+1) s'.heap/\(∀b∈fp,j b=none)/\s'.heap.get? D=some { cls:=.type "list",dict:=none,data:=.seq (List.toArray its) G }/\j D=none:=fun{a0 j s'} J'=>by
    have pin:∀p∈([(D,{ cls:=.type "list",dict:=none,data:=.seq (List.toArray its) G })]:Ou)++Uh fp s7.heap,s'.heap.get? p.1=some p.2/\j p.1=none:=fun p h=>let ⟨e,d0,_⟩:=J'.pin p (SH _ h);⟨e,d0⟩;refine⟨T.keep _ _ _ i0 fun b f o e=>(pin (b,o) (SH _ (QQ f e))).1,fun b f=>?_,(pin (D,_) (SI _ (SE.mpr R))).1,(pin (D,_) (SI _ (SE.mpr R))).2⟩;obtain⟨o,e,_⟩:=T.obj _ _ i0 b f;exact(pin (b,o) (SH _ (QQ f e))).2
   cases ok with
   |false =>
    obtain⟨m',hm,w9⟩:=u0 _ _ _ q9;obtain⟨M,Z,O,L⟩:=wk I9;exact⟨m',hm,i+1,b0,H9,its,G,I,I9.pins_of (fun _ z=>nomatch z),O,L,va,b1,M,Z,w9⟩
   |true =>
    refine X6 (he _ _ _ _ _ _ s9 b0 H9 _ I9 q9) fun y S ⟨v,x0,y0,i1,n1⟩=>?_;obtain⟨m',hm,i2⟩:=u0 _ _ _ n1;obtain⟨M,Z,O,L⟩:=wk y0;refine call_meets F.slot_list_append ⟨_,O,R⟩ F.entry_list_append (F.args_list_append_2 _ _) (PySem.list_append D its.toArray G y (by rw[SN,<-va.length];lia)) ⟨O,?_⟩;have up:∀b o,b≠D->S.heap.get? b=some o->(S.heap.update D (Obj.mapSeq fun z=>z.push y)).get? b=some o:=fun b o f e=>(Heap.get?_update_other S.heap _ (Ne.symm f)).trans e;have o1:Za (Xa X N scope cl (D+1) s2 E fp pins) [] b0 x0 { S with heap:=S.heap.update D (Obj.mapSeq fun z=>z.push y),toks:=S.toks } :=
     (y0.pins_of (pins':=[]) fun _ z=>nomatch z).turned up L (Sf (Sm _)) (.inr (by rw[n];exact Sg _)) c2 fun p h=>by
      have t1:p∈X.pn++pins:=by simpa using h
      exact Sf (pl p t1)
    have q:=PySem.IsL.update O (fun z=>z.push y);rw[show(List.toArray its).push y=(its++[y]).toArray by simp]at q;refine⟨m',hm,i+1,b0,x0,its++[y],_,I++[v],o1,q,L,va.append (.cons i1 .nil),?_,T.keep _ _ _ M fun b f o e=>up b o (Sf (flt b f)) e,Z,i2⟩;rw[Su,Sw];lia
 exact codeAny_compStart_list (loop _) (T.self _ 0 _ _ _ (T.keep 0 _ _ n0 fun b _ o e=>p0 b o e) (loop _))
theorem Uj{a:Addr}{xs:List V}{g:TG}{tt:TT}{L:TE}{J:St}{Q:VK}(n:Nat->List V->St->Hp->Prop)(M:n 0 [] J H)(hz:xs.length<=sizeLine)(S:∀i c j H,i<=xs.length->n i c j H->Zf K H a xs)
  (P:∀i x c j H,c.length<=i->xs[i]? = some x->n i c j H->g x j H fun f D=>tt f D fun b B=>if b=true then L f B fun y E=>(c++[y]).length<=i+1/\n (i+1) (c++[y]) f E else c.length<=i+1/\n (i+1) c f B)
  (hd:∀c j H,c.length<=xs.length->n xs.length c j H->Qt Q c H) :
  ∃W:Nat->Nat->List V->St->Hp->Prop,(∃m,W 0 m [] J H)/\∀i m c u H,W i m c u H ->
   ((UZ K a).stop i H/\Qt Q c H) \/
   ((UZ K a).go i H/\c.length<sizeLine/\∃N:List V->St->Hp->Prop,(∀v C h,N v C h->∃I,I<m/\W (i+1) I v C h)/\∀x h,(UZ K a).yld i H x h->g x u h fun f D=>tt f D fun b B=>if b=true then L f B fun y E=>N (c++[y]) f E else N c f B):=by
 refine⟨fun i m c j H=>m=xs.length - i/\i<=xs.length/\c.length<=i/\n i c j H,⟨xs.length,by simp,Sk _,Sk _,M⟩,?_⟩;rintro i m c u H ⟨rfl,O,ha,p⟩;have q:=S i c u H O p;by_cases G:i<xs.length
 ·refine .inr ⟨⟨xs,xs[i],q,by simp[G]⟩,by lia,fun v C h=>v.length<=i+1/\n (i+1) v C h,fun v C h z=>⟨xs.length - (i+1),by lia,R,G,z.1,z.2⟩,fun x h y=>?_⟩
  obtain⟨e,y⟩:=y;subst e;exact P i x c u _ ha (y xs q) p
 ·have e:i=xs.length:=by lia
  subst e;exact .inl ⟨⟨xs,q,Sg _⟩,hd c u H ha p⟩
theorem Mt{lo:Int}{n:Nat}{g:TG}{tt:TT}{L:TE}{J:St}{Q:VK}(j:Nat->List V->St->Hp->Prop)(M:j 0 [] J H)(hz:n<=sizeLine)
  (O:∀i c q H,i<n->c.length<=i->j i c q H->g (.int (lo+i)) q H fun f E=>tt f E fun b v=>if b=true then L f v fun y G=>(c++[y]).length<=i+1/\j (i+1) (c++[y]) f G else c.length<=i+1/\j (i+1) c f v)
  (hd:∀c q H,c.length<=n->j n c q H->Qt Q c H) :
  ∃W:Nat->Nat->List V->St->Hp->Prop,(∃m,W 0 m [] J H)/\∀i m c C H,W i m c C H ->
   ((Uf lo n).stop i H/\Qt Q c H) \/
   ((Uf lo n).go i H/\c.length<sizeLine/\∃N:List V->St->Hp->Prop,(∀u B h,N u B h->∃I,I<m/\W (i+1) I u B h)/\∀x h,(Uf lo n).yld i H x h->g x C h fun f E=>tt f E fun b v=>if b=true then L f v fun y G=>N (c++[y]) f G else N c f v):=by
 refine⟨fun i m c q H=>m=n - i/\i<=n/\c.length<=i/\j i c q H,⟨n,by simp,Sk _,Sk _,M⟩,?_⟩;rintro i m c C H ⟨rfl,P,ha,p⟩;by_cases D:i<n
 ·refine .inr ⟨D,by lia,fun u B h=>u.length<=i+1/\j (i+1) u B h,fun u B h z=>⟨n - (i+1),by lia,R,D,z.1,z.2⟩,fun x h y=>?_⟩
  obtain⟨e,y⟩:=y;subst e y;exact O i c C _ D ha p
 ·have e:i=n:=by lia
  subst e;exact .inl ⟨Sg _,hd c C H ha p⟩
mutual
inductive DV(K:Ow)(H:Hp):V->PyData->Prop
 |non:DV K H .non .none
 |bl (b:Bool):DV K H (.bl b) (.bool b)
 |int (i:Int):DV K H (.int i) (.int i)
 |str (x:Str) (h:(PyData.str x).canLay0=true):DV K H (.str x) (.str x)
 |lst {a:Addr} {xs:List V} {ds:List PyData} (h:Zf K H a xs) (r:X7 K H xs ds):DV K H (.ref a) (.list ds)
 |tup {a:Addr} {xs:List V} {ds:List PyData} (h:Zj K H a xs) (r:X7 K H xs ds):DV K H (.ref a) (.tuple ds)
inductive X7(K:Ow)(H:Hp):List V->List PyData->Prop
 |nil:X7 K H [] []
 |cons {x:V} {xs:List V} {d:PyData} {ds:List PyData} (h:DV K H x d) (r:X7 K H xs ds):X7 K H (x::xs) (d::ds)
end
mutual
theorem DV.can:∀{x:V} {d:PyData},DV K H x d->d.canLay0=true
 |_,_,.non=>by simp only[PyData.canLay0]
 |_,_,.bl _=>by simp only[PyData.canLay0]
 |_,_,.int _=>by simp only[PyData.canLay0]
 |_,_,.str _ h=>h
 |_,_,.lst _ r=>by simp only[PyData.canLay0];exact X7.can r
 |_,_,.tup _ r=>by simp only[PyData.canLay0];exact X7.can r
theorem X7.can:∀{xs:List V} {ds:List PyData},X7 K H xs ds->PyData.canLayAll0 ds=true
 |_,_,.nil=>by simp only[PyData.canLayAll0]
 |_,_,.cons h r=>by simp only[PyData.canLayAll0,Bool.and_eq_true];exact⟨DV.can h,X7.can r⟩
end
theorem Zj.sameT{c:Hp}{a:Addr}{xs:List V}(e:Zc H c)(h:Zj K H a xs):Zj K c a xs:=by
 rcases h with(h|⟨o,h⟩)|h
 ·exact .inl (.inl (e _ _ h))
 ·exact .inl (.inr ⟨o,e _ _ h⟩)
 ·exact .inr h
section
variable{σ:St}
mutual
theorem DV.reads(I:Za X pins σ H s):∀{x:V} {d:PyData} {u:Value},DV X.K H x d->ZD x u->∃c,Reads s.heap u d c
 |_,_,_,.non,r=>by cases r;exact⟨_,.none⟩
 |_,_,_,.bl b,r=>by cases r;exact⟨_,.bool b⟩
 |_,_,_,.int i,r=>by obtain⟨t,rfl⟩:=r;exact⟨_,.int i t⟩
 |_,_,_,.str x _,r=>by obtain⟨t,rfl⟩:=r;exact⟨_,.str x t⟩
 |_,_,_,.lst h j,r=>by
  cases r;obtain⟨its,v,g,_⟩:=I.list h;obtain⟨o,n,e,f,_,hd⟩:=g;obtain⟨c,q⟩:=X7.reads I j v;exact⟨_,.list e f hd (by simpa using q)⟩
 |_,_,_,.tup h j,r=>by
  cases r;obtain⟨its,v,g,_⟩:=I.tuple h;obtain⟨o,e,f,n,hd⟩:=g;obtain⟨c,q⟩:=X7.reads I j v;exact⟨_,.tuple e f hd (by simpa using q)⟩
theorem X7.reads(I:Za X pins σ H s):∀{xs:List V} {ds:List PyData} {us:OA},X7 X.K H xs ds->Zx xs us->∃c,ReadsAll s.heap us ds c
 |_,_,_,.nil,.nil=>⟨_,.nil⟩
 |_,_,_,.cons h r,.cons v vs=>by
  obtain⟨c,f⟩:=DV.reads I h v;obtain⟨bs,e⟩:=X7.reads I r vs;exact⟨_,.cons f e⟩
end
end
inductive xD(K:Ow)(neg:Bool)(x:V)(y:V)(H:Hp)(Q:VK):Prop|mk dx dy (_:DV K H x dx) (_:DV K H y dy) (_:dx.depth<=60) (_:Q (.bl (if neg then !PyData.eqv dx dy else PyData.eqv dx dy)) H)
theorem xE(D:X.A.units+64<cLine):YF X (compareOp .Eq) (xD X.K false):=by
 intro pins s C H x y v u Q I f i h;obtain⟨j,B,e,c,hd,q⟩:=h;obtain⟨n,r1⟩:=e.reads I f;obtain⟨bs,g⟩:=c.reads I i;exact SeqAt.compareEq_reads r1 g e.can c.can (by lia) ⟨.bl _,H,I,R,q⟩
theorem xF(D:X.A.units+64<cLine):YF X (compareOp .NotEq) (xD X.K true):=by
 intro pins s C H x y v u Q I f i h;obtain⟨j,B,e,c,hd,q⟩:=h;obtain⟨n,r1⟩:=e.reads I f;obtain⟨bs,g⟩:=c.reads I i;exact SeqAt.compareNe_reads r1 g e.can c.can (by lia) ⟨.bl _,H,I,R,q⟩
section
variable{x:Str}
theorem YA(c:Gl X x)(hm:∃t,X.mg x=some (.int k t))(hd:(x == ("__debug__" : Str))=false:=by lia):PE X (.Name x pos) (tC (.int k)):=by
 obtain⟨t,hm⟩:=hm;exact T5 c hm ⟨t,R⟩ hd
def Zeg:TE:=fun _ H Q=>∀p,H p=none->Q (.ref p) (upd H p (.dK []))
theorem UD:PE X (.Dict [] [] pos) Zeg:=by
 intro pins s c H Q I h;have lt:sysModules<s.heap.objs.size:=Nat.lt_trans (show sysModules<mainGlobals by lia) (I.mod.glob.keeps I.bk).lt;have new:Yf X.prog X.w (upd H s.heap.objs.size (.dK [])) (s.heap.push { cls:=.type "dict",data:=.dict #[] }) s.heap.objs.size (.dK []) :=
  ⟨Sk _,beq_eq_false_iff_ne.mpr (Ne.symm (Sf lt)),[],.nil,Heap.DictOf.new s.heap⟩
 exact wpAny_Dict_empty ⟨.ref s.heap.objs.size,_,I.laid (t':=s.toks) (fun _ _ q=>Sc _ q) (Sg _) new,R,h _ (I.hok.fresh (Sg _))⟩
theorem E5(x:Str):[x].Nodup:=by simp
def Xe:Expr->Bool
 |.Starred _ _=>false
 |_=>true
theorem Mu(h:Xe e=true):starEach (e::c) env=(false,eval e env)::starEach c env:=by
 cases e<;>first|rfl|cases h
theorem YM(ha:PE X e f)(g:PA X c t)(h:Xe e=true:=by rfl):PA X (e::c) (ZZ f t):=zT ha g (Mu h)
end
end L2
namespace K1
open PySem L2
def E6:V->Int->Int->Bool
 |.int i,lo,hi=>decide (lo<=i/\i<=hi)
 |_,_,_=>false
inductive Kd(H:Hp):V->String->Prop where
 |non:Kd H .non "NoneType"
 |bl (b:Bool):Kd H (.bl b) "bool"
 |int (i:Int):Kd H (.int i) "int"
 |str (x:Str):Kd H (.str x) "str"
 |lst {a:Addr} {xs:List V} (e:H a=some (.lst xs)):Kd H (.ref a) "list"
 |tup {a:Addr} {xs:List V} (e:H a=some (.tup xs)):Kd H (.ref a) "tuple"
 |dK {a:Addr} {kvs:List (Zt×V)} (e:H a=some (.dK kvs)):Kd H (.ref a) "dict"
theorem Kd.ty(k:Kd H v T):X2 K H v (.type T):=by
 cases k with
 |non=>exact .non
 |bl b=>exact .bl b
 |int i=>exact .int i
 |str x=>exact .str x
 |lst e=>exact .lst e
 |tup e=>exact .tup e
 |dK e=>exact .dK e
theorem Zeh(k:Kd H v T):W.kitOne K (.type T) (.type "int")=some (decide (T = "int" \/ T = "bool")):=by
 cases k<;>rfl
theorem Mv(k:Kd H v T):W.kitOne K (.type T) (.type "bool")=some (decide (T = "bool")):=by
 cases k<;>rfl
theorem xG(k:Kd H v T):W.kitOne K (.type T) (.type "str")=some (decide (T = "str")):=by
 cases k<;>rfl
theorem Z9{c A B:Prop}[Decidable c](h:c)(a:A):if c then A else B:=by rw[SW h];exact a
theorem Zp{c A B:Prop}[Decidable c](h:¬ c)(b:B):if c then A else B:=by rw[SV h];exact b
theorem Zu(h:H p=none)(o:HO):Zc H (upd H p o):=fun b u q=>by rw[Zd (ZI q h)];exact q
theorem Zei{e:Type}(g:e->Bool)(l:List e):(l.map fun c=>V.bl (g c))=(l.map g).map V.bl:=by rw[Oe];rfl
def Zej:V->Bool
 |.int _=>true
 |_=>false
structure Zk6(tp:Addr)(k:Int)(H H':Hp):Prop where
 keep:∀b o,b≠tp->H b=some o->H' b=some o
 tape:H' tp=some (.lst [.int k])
theorem xH(c:0<=y)(h1:y<18446744073709551616):JV x y:=.inr ⟨by lia,by lia⟩
theorem QX{p:V->Prop}{xs:List V}{d:Int}(h:∀v∈xs,p v)(e:0<=d)(h1:d<xs.length):∃v,Y6 xs d=some v/\p v:=by
 have c:d.toNat<xs.length:=by lia
 refine⟨xs[d.toNat],?_,h _ (Oi c)⟩;have q:Y6 xs ((d.toNat:Nat):Int)=some xs[d.toNat]:=WU (Ss c);rw[show((d.toNat:Nat):Int)=d by lia]at q;exact q
end K1
namespace K1
open PySem L2
theorem xI(z:Str):z.cps.toList.length=z.length:=by simp[Str.length]
theorem Zek(z:Str)(j:Nat)(h:j<=z.length):Txt.slice z none (some (j:Int))=⟨(z.cps.toList.take j).toArray⟩:=by
 have e:=StrLaws.sliceText_to (x:=z) (j:=(j:Int)) ⟨by lia,by rw[xI];lia⟩;rw[List.drop_zero,show((j:Int) - 0).toNat=j by lia]at e;exact e
theorem Zel(z:Str)(j:Nat)(h:j<=z.length):Txt.slice z (some (j:Int)) none=⟨(z.cps.toList.drop j).toArray⟩:=by
 have e:=StrLaws.sliceText_from (x:=z) (i:=(j:Int)) ⟨by lia,by rw[xI];lia⟩;rw[show((j:Int)).toNat=j by lia,SZ (by rw[SA];lia)]at e;exact e
end K1
namespace L2
open PySem PySem.Spec PyProof.Rows
section
variable{m:Str}{o e:Expr}{es:OC}{ta:TE}{t:TA}{apos:Pos}
inductive xJ(X:Cx)(m:Str)(t:TA)(σ:St)(Q:VK)(x:V)(H1:Hp):Prop|mk (a C dx:Addr) (fs:List (Str×V)) (f:Addr) (fd:OI) (k:Nat) (ps:OB) (sp:Sp) (CX:XT) (E:XK) (_:x=.ref a) (_:H1 a=some (.ins C dx fs)) (_:fs.lookup m=none) (_:Yz X.K C) (_:Yu X.K C m f) (_:Zn X.prog X.w X.K X.mg X.base CX k f fd ps sp) (_:Yb k X.A) (_:Xm X.K fd ps []) (_:WC CX X E) (_:t σ H1 fun vs H2=>sp (.ref a::vs) H2 Q E)
def xK(X:Cx)(m:Str)(ta:TE)(t:TA):TE:=fun c H Q=>ta c H fun x f=>xJ X m t c Q x f
theorem U3(B:PE X o ta)(ha:PA X (e::es) t)
  (y:starEach (e::es) X.env=(false,eval e X.env)::starEach es X.env:=by rfl) (E:(backTo pos (starEach es X.env)).any (·.1)=false:=by rfl)
  (x:eval (.Call (.Attribute o m apos) (e::es) [] pos) X.env=(do
   let j <-eval o X.env
   standAt apos.atName
   let (f,first) <-holding [j] (getMethod j m pl)
   callWith pos f first (backTo pos (starEach (e::es) X.env)) (backToKw pos (keywordEach [] X.env))):=by rfl) :
  PE X (.Call (.Attribute o m apos) (e::es) [] pos) (xK X m ta t):=by
 intro pins s g H Q I h;refine W.methodCall_KW (pl:=pl) (Zq (B pins s g H _ I h) fun u v z=>?_) x;obtain⟨a0,L,n,D,a,C,S,fs,f,U,k,T,sp,Z,b0,ex,J,l,c,hm,F,M,O,G,q⟩:=z;subst ex;obtain rfl:u=Value.ref a:=D;refine D5 n J c hm l ?_;refine W.callWith_K (first:=[.ref a]) (h₀:=X.base) I.ok.mod.kin hm.kp (Zq (ha pos pins v g L _ n q) fun us s2 ⟨vs,Y,i,r,P⟩=>⟨i.kIn,?_⟩) y E;exact Qp (us:=.ref a::us) (vs:=.ref a::vs) (dvs:=[]) F M O .nil G i (.cons R r) (by rw[Oc];exact P)
theorem E7(n:PE X o ta)
  (j:eval (.Call (.Attribute o m apos) [] [] pos) X.env=(do
   let i <-eval o X.env
   standAt apos.atName
   let (f,first) <-holding [i] (getMethod i m pl)
   callWith pos f first (backTo pos (starEach [] X.env)) (backToKw pos (keywordEach [] X.env))):=by rfl) :
  PE X (.Call (.Attribute o m apos) [] [] pos) (xK X m ta Yv):=by
 intro pins s y H Q I h;refine W.methodCall_KW (pl:=pl) (Zq (n pins s y H _ I h) fun u O z=>?_) j;obtain⟨x,S,g,v,a,C,L,fs,f,P,k,M,sp,T,E,ex,D,l,c,hm,F,G,J,B,q⟩:=z;subst ex;obtain rfl:u=Value.ref a:=v;refine D5 g D c hm l ?_;exact W.callWith_K0 (first:=[.ref a]) g.kIn hm.kp (Qp (us:=[.ref a]) (vs:=[.ref a]) (dvs:=[]) F G J .nil B g (.cons R .nil) q)
structure Mw(K:Ow)(C:Addr):Prop where
 makes:W.makesIn K C=true
 init:W.findIn K (.ref C) "__init__" = some (some (.builtin "object.__init__"))
 kp:W.keepIn K (.ref C)=true
def Zem(C:Addr):TE:=fun _ H Q=>∀x c,H x=none->H c=none->c≠x->Q (.ref x) (upd (upd H c (.own x)) x (.ins C c []))
theorem xL(M:Mw X.K C)(i:Gl X x)(hm:X.mg x=some (.ref C))(c:(x == ("__debug__" : Str))=false:=by lia):PE X (.Call (.Name x p) [] [] pos) (Zem C):=by
 intro pins s j H Q I h;refine wpAny_Call_Name_kw (Ut I i hm ?_ c);refine W.callWith_K0 I.kIn M.kp ?_;have q:=h (s.heap.objs.size+1) s.heap.objs.size (I.hok.fresh (Nat.le_succ _)) (I.hok.fresh (Sg _)) (Sf (Sm _));have f:=Za.made (C:=C) I;have Y:=W.makes_of (M:=model X.prog X.w) I.kIn M.makes;refine wpAny_call (Zdg (C:=C) I.kIn M.makes M.init (fun self=>W.Looks.of_pure (W.oi_bind self)) ?_);have g1:((s.heap.push W.emptyDict).push (W.instObj C s.heap.objs.size)).get? (s.heap.objs.size+1)=some (W.instObj C s.heap.objs.size):=by
  have:=Sd (s.heap.push W.emptyDict) (o:=W.instObj C s.heap.objs.size) R;rw[Heap.size_push]at this;exact this
 have g:W.Looks (model X.prog X.w) ((s.heap.push W.emptyDict).push (W.instObj C s.heap.objs.size)) (typeOf (.ref (s.heap.objs.size+1))) (.ref C):=(W.Looks.ld g1).andThen .now;have t2:W.Looks (model X.prog X.w) ((s.heap.push W.emptyDict).push (W.instObj C s.heap.objs.size)) (isInstance (.ref (s.heap.objs.size+1)) (.type "object")) true :=
  g.andThen (Y.top.keeps fun b o e=>Sc _ (Sc _ e))
 refine codeAny_call_builtin W.oi_plain W.entry_oi ?_;refine @W.check_slot (model X.prog X.w) _ _ _ "object.__init__" "object" "__init__" (.ref (s.heap.objs.size+1)) [] [] _ W.oi_kind W.oi_split t2 (W.oi_args _) ?_;rw[W.oi_run];exact Sb (And.intro rfl ⟨.ref _,_,f,rfl,q⟩)
end
theorem Mx(ns:OD):∀k,k<=ns.length->preSum (fun i=>ns.getD i 0) k=(ns.take k).sum
 |0,_=>by simp[preSum]
 |k+1,h=>by
  have c:=Mx ns k (by lia);show preSum (fun i=>ns.getD i 0) k+ns.getD k 0=_;rw[c,S0,List.sum_append];have e:k<ns.length:=by lia
  rw[List.getD_eq_getElem?_getD,Ss e];simp
theorem Zen(P:X.calm=true):YV X (.builtin "sum") (fun xs H Q=>∃(p:Addr) (ns:OD),xs=[.ref p]/\Zf X.K H p (ns.map V.int)/\(∀n∈ns,0<=n/\n<=1000000)/\ns.length<=1000/\Q (.int ns.sum) H):=by
 intro pins s σ H xs us Q I r h;obtain⟨p,ns,rfl,hq,L,hl,q⟩:=h;obtain⟨a0,rfl,S⟩:=X1 r;cases S;obtain⟨its,J,g,hz⟩:=I.list hq;have hlen:=J.length;obtain⟨o,n,C,_⟩:=id g;have T:p≠s.heap.objs.size:=Sf (Se C);have bound:∀k,k<=ns.length->0<=(ns.take k).sum/\(ns.take k).sum<=1000000*k:=by
  intro k
  induction k with
  |zero=>intro _;simp
  |succ k ih =>
   intro B;have D:k<ns.length:=by lia
   have:=ih (by lia);have b:=L ns[k] (Oi D);rw[S0,List.sum_append,Ss D];simp only[Option.toList_some,List.sum_cons,List.sum_nil];lia
 refine call_sum_walk (wpAny_pyIter_list g.isList ?_);refine⟨s.heap.objs.size,[s.heap.objs.size,p],[s.heap.objs.size],its.toArray.size,_,_,fun i=>ns.getD i 0,R,Walks.list (A:=X.A.in1) (I.ok.hd P) _ _ T its.toArray,⟨⟨_,Sd _ R,R,R⟩,?_⟩,?_,?_,?_,fun U tk t' B=>?_⟩
 ·obtain⟨Y,f,Z⟩:=g.isList
  exact⟨Y,Sc _ f,Z⟩
 ·intro b u
  show b<(s.heap.push _).objs.size;rw[Heap.size_push];rcases SF.mp u with rfl|u
  ·exact Sm _
  ·rw[SE.mp u]
   exact Sn (Se C)
 ·intro i v hv
  have E:its[i]? = some v:=by simpa using hv
  have y:i<ns.length:=by
   have:=(Sr.mp E).1;rw[<-hlen,Sv]at this;exact this
  obtain⟨w,c,f⟩:=J.get (i:=i) (x:=.int ns[i]) (by rw[Oa,Ss y];rfl);rw[E]at c;cases c;obtain⟨t,rfl⟩:=f;exact⟨t,by dsimp only;rw[List.getD_eq_getElem?_getD,Ss y];rfl⟩
 ·intro j M
  have G:j<ns.length:=by
   rw[SN,<-hlen,Sv]at M;exact M
  have b1:=L ns[j] (Oi G);have b2:=bound (j+1) (by lia);have c:ns.getD j 0=ns[j]:=by rw[List.getD_eq_getElem?_getD,Ss G];rfl
  rw[Mx ns (j+1) (by lia)];dsimp only;rw[c];have b3:(1000000:Int)*((j+1:Nat):Int)<=1000000000:=by lia
  unfold InLong;lia
 ·have O:∀b o,s.heap.get? b=some o->U.get? b=some o:=fun b o e=>B b o (fun z=>by
   have c:=Se e;rw[SE.mp z]at c;exact Oq c (Sl _)) (Sc _ e)
  have e:preSum (fun i=>ns.getD i 0) its.toArray.size=ns.sum:=by
   rw[SN,<-hlen,Sv,Mx ns _ (Sg _),List.take_length]
  rw[e];exact⟨.int _,H,I.kept (t':=tk) O,⟨_,R⟩,q⟩
structure E8(K:Ow)(x qual:Str)(st:Stmt)(f:Addr)(fd:OI)(D:Addr)(ds:OA):Prop where
 ex:∃(oc:Value) (od:OE) (kV doc pm:Value) (an:OE) (cdv ct:Value) (osl:Oy),
  fd=W.fnOf x qual (UB st) (Wf st) (Zw st) (.ref D) kV doc pm an cdv ct/\K.lookup f=some ⟨oc,od,.func fd,osl⟩/\W.codeIn K cdv qual=true
 dt:∃(o:Obj) (n:Nat),K.lookup D=some o/\o.data=.seq ds.toArray n
 kp:W.keepIn K (.ref f)=true
end L2
namespace K1
open PySem L2
inductive RT where
 |always
 |week (b:Nat)
 |span (a b:Nat) (r:RT)
 |each (n:Nat) (ss:OF)
 |either (r s:RT)
 |both (r s:RT)
 |but (ds:OF) (r:RT)
def RT.weight:RT->Nat
 |.always|.week _|.each _ _=>1
 |.span _ _ r|.but _ r=>1+r.weight
 |.either r s|.both r s=>1+(r.weight+s.weight)
def RT.depth:RT->Nat
 |.always|.week _|.each _ _=>1
 |.span _ _ r|.but _ r=>1+r.depth
 |.either r s|.both r s=>1+max r.depth s.depth
def RT.runs:RT->Nat->Bool
 |.always,_=>true
 |.week b,d=>b/2 ^ (d%7)%2 == 1
 |.span a b r,d=>decide (a<=d) && decide (d<=b) && r.runs d
 |.each n c,d=>c.contains (d%n)
 |.either r s,d=>r.runs d || s.runs d
 |.both r s,d=>r.runs d && s.runs d
 |.but ds r,d=>r.runs d != ds.contains d
theorem RT.depth_pos:∀r:RT,1<=r.depth
 |.always|.week _|.each _ _=>Sg 1
 |.span _ _ r|.but _ r=>On 1 _
 |.either r s|.both r s=>On 1 _
structure RC where
 rule:Addr
 week:Addr
 span:Addr
 each:Addr
 either:Addr
 both:Addr
 but:Addr
abbrev Yx(l:OF):List V:=l.map fun n=>V.int (n:Nat)
inductive ZQ(c:RC)(K:Ow)(H:Hp):Addr->RT->Prop
 |always {a dx:Addr} (h:H a=some (.ins c.rule dx [])):ZQ c K H a .always
 |week {a dx:Addr} {b:Nat} (h:H a=some (.ins c.week dx [("bits",.int b)])) (hb:b<=127):ZQ c K H a (.week b)
 |span {a dx i:Addr} {x y:Nat} {r:RT} (h:H a=some (.ins c.span dx [("first",.int x),("last",.int y),("inner",.ref i)])) (hx:x<=y) (hy:y<=9999) (hi:ZQ c K H i r):ZQ c K H a (.span x y r)
 |each {a dx p:Addr} {n:Nat} {ss:OF} (h:H a=some (.ins c.each dx [("length",.int n),("starts",.ref p)])) (hn:1<=n) (hn2:n<=28) (hp:Zj K H p (Yx ss)):ZQ c K H a (.each n ss)
 |either {a dx i j:Addr} {r s:RT} (h:H a=some (.ins c.either dx [("one",.ref i),("other",.ref j)])) (hi:ZQ c K H i r) (hj:ZQ c K H j s):ZQ c K H a (.either r s)
 |both {a dx i j:Addr} {r s:RT} (h:H a=some (.ins c.both dx [("one",.ref i),("other",.ref j)])) (hi:ZQ c K H i r) (hj:ZQ c K H j s):ZQ c K H a (.both r s)
 |but {a dx p i:Addr} {ds:OF} {r:RT} (h:H a=some (.ins c.but dx [("days",.ref p),("inner",.ref i)])) (hp:Zj K H p (Yx ds)) (hi:ZQ c K H i r):ZQ c K H a (.but ds r)
theorem ZQ.same(s:Zc H j)(h:ZQ c K H a r):ZQ c K j a r:=by
 induction h with
 |always h=>exact .always (s _ _ h)
 |week h q=>exact .week (s _ _ h) q
 |span h v n _ f=>exact .span (s _ _ h) v n f
 |each h hn u g=>exact .each (s _ _ h) hn u (Zj.sameT s g)
 |either h _ _ i e=>exact .either (s _ _ h) i e
 |both h _ _ i e=>exact .both (s _ _ h) i e
 |but h g _ f=>exact .but (s _ _ h) (Zj.sameT s g) f
theorem E9(d:Nat):∀l:List Nat,U0 (.int d) (Yx l)=l.contains d
 |[]=>rfl
 |x::r=>by
  have c:=E9 d r;show(WV (.int (x:Int)) (.int (d:Int)) || U0 (.int (d:Int)) (Yx r))=_;rw[c,List.contains_cons]
  congr 1
  show((x:Int) == (d:Int))=(d == x);rw[Bool.eq_iff_iff,beq_iff_eq,beq_iff_eq];lia
theorem Kb(l:OF):(Yx l).all Uz=true:=by
 rw[List.all_map];exact List.all_eq_true.mpr fun _ _=>R
theorem Zeo(b k:Nat):(Builtin.bitAnd ((b:Int)/2 ^ k) 1 == 1)=(b/2 ^ k%2 == 1):=by
 have e:(b:Int)/2 ^ k=((b/2 ^ k:Nat):Int):=by
  rw[SY,Int.natCast_pow];rfl
 rw[e,PyProof.Rows.bitAnd_pp (Int.natCast_nonneg _) (by lia)];have c:(((b/2 ^ k:Nat):Int).toNat &&& (1:Int).toNat:Nat)=b/2 ^ k%2:=by
  rw[Int.toNat_natCast];exact Nat.and_one_is_mod _
 rw[c,Bool.eq_iff_iff,beq_iff_eq,beq_iff_eq];lia
end K1
namespace L2
open PySem PySem.Spec PyProof.Rows
def QY:Option Int->Int->Int
 |none,y=>y
 |some x,y=>if y>x then y else x
def VD:Option Int->List Int->Option Int
 |b,[]=>b
 |b,y::r=>VD (some (QY b y)) r
def xM(S:Addr)(h:Heap)(b:Option Int):Prop:=∃(e:Array Value) (c:Nat),h.get? S=some { cls:=.type "list",dict:=none,data:=.seq e c,slots:=#[] }/\match b with
 |none=>e = #[]
 |some x=>∃t,e = #[.int x t,.int x t]
def Zep(d:Value)(b:Option Int)(v:Value):Prop:=match b with
 |none=>v=d
 |some x=>∃t,v=.int x t
theorem Zeq{R:Result->Shared->Prop}{I:Addr}{fp wr:OG}{n:Nat}{P:Nat->Value->Prop}{St:Nat->Heap->Prop}{nm:Str}{d:Value}{g:Nat->Int}
  (W:Walks prog w A.in1 I fp wr n P St) (X:∀i v,P i v->∃t,v=.int (g i) t) {S:Addr} (out:S∉fp) :
  ∀(l:OD) (j:Nat) (s:Shared) (b:Option Int),j+l.length=n->(∀i y,l[i]? = some y->y=g (j+i))->St j s.heap->xM S s.heap b ->
  (∀v h' tk,Zep d (VD b l) v->(∀a o,a∉wr->a≠S->s.heap.get? a=some o->h'.get? a=some o)->R (.ok (.ret v)) { s with heap:=h',toks:=tk }) ->
  codeAny (model prog w) A (.builtin "max.loop" ⟨[.ref I,.none,.ref S],[(nm,d)]⟩) R s:=by
 have O:S∉wr:=fun z=>out (W.sub _ z);have G:(toString "max" ++ toString ".loop" : String) = "max.loop" := by lia
 intro l
 induction l with
 |nil =>
  intro j s b D H st m q;obtain rfl:j=n:=D;obtain⟨vs,a0,e,z⟩:=id m;apply codeAny_builtin PySem.F.entry_max_loop;rw[Around.under_plainId PySem.F.plain_max_loop];apply Sa;apply wpAny_seqItems e rfl;apply Sa;apply wpAny_tryCatch;apply W.done s _ _ st;intro h' tk k;cases b with
  |none =>
   subst z;apply Sa;apply wpAny_rule;apply Sb;exact q d h' tk rfl fun a o f _ u=>k a o f u
  |some x =>
   obtain⟨t,rfl⟩:=z;apply Sa;refine wpAny_updateSeq (k S _ O e) rfl ?_;apply Sa;apply wpAny_letGo;apply Sb;exact q _ _ tk ⟨t,rfl⟩ fun a o f c u=>(Heap.get?_update_other _ _ (Ne.symm c)).trans (k a o f u)
 |cons y l ih =>
  intro j s b D H st m q;obtain⟨vs,a0,e,z⟩:=id m;have Q:j<n:=by rw[<-D,Sy];lia
  have J:y=g j:=H 0 y rfl;apply codeAny_builtin PySem.F.entry_max_loop;rw[Around.under_plainId PySem.F.plain_max_loop];apply Sa;apply wpAny_seqItems e rfl;apply Sa;apply wpAny_tryCatch;apply W.item j s _ _ Q st;intro v h' tk pv b0 k;obtain⟨h,rfl⟩:=X j v pv;have B:=k S _ O e;have next:∀(c:Heap),xM S c (some (QY b y))->(∀a o,a≠S->h'.get? a=some o->c.get? a=some o)->codeAny (model prog w) A (.builtin "max.loop" ⟨[.ref I,.none,.ref S],[(nm,d)]⟩) R { s with heap:=c,toks:=tk }:=fun c U M =>
   ih (j+1) { s with heap:=c,toks:=tk } _ (by rw[<-D,Sy];lia) (fun i y' Y=>(H (i+1) y' Y).trans (by congr 1;lia))
    (W.frame _ _ _ b0 fun a ha o Z=>M a o (fun z=>out (z ▸ ha)) Z) U fun v2 u c0 r T=>q v2 u c0 r fun a o f L d0=>T a o f L (M a o L (k a o f d0))
  cases b with
  |none =>
   subst z;show wpAny _ _ (updateSeq S (fun _=>#[.int (g j) h,.int (g j) h]) >>= _) _ _ _;apply Sa;refine wpAny_updateSeq B rfl ?_;rw[G];apply Sb;refine⟨plainId_quiet PySem.F.plain_max_loop _,next _ ⟨_,_,Heap.get?_update_self _ B rfl,h,?_⟩ fun a o f c=>(Heap.get?_update_other _ _ (Ne.symm f)).trans c⟩;rw[J];rfl
  |some x =>
   obtain⟨t,rfl⟩:=z;show wpAny _ _ (tryCatch (holding [.int (g j) h,.int (g j) h] (richCompare .Gt (.int (g j) h) (.int x t) >>= _)) _ >>= _) _ _ _;apply Sa;apply wpAny_tryCatch;apply wpAny_holding;apply Sa;refine CmpOf.ints_gt (P:=fun i v=>∃t,v=.int (if i=0 then g j else x) t) (fun i=>if i=0 then g j else x) (fun _ _ z=>z) 0 1 _ _ _ _ _ ⟨_,rfl⟩ ⟨_,rfl⟩ ?_;apply Sa;apply wpAny_holding;apply wpAny_truthy_bool;apply Sa;apply wpAny_letGo;apply Sb;by_cases C:g j>x
   ·rw[SW (show(fun i E:Nat=>decide ((if i=0 then g j else x)>if E=0 then g j else x)) 0 1=true from SQ C)]
    apply Sa;refine wpAny_updateSeq B rfl ?_;apply Sa;apply wpAny_letGo;rw[G];apply Sb;refine⟨plainId_quiet PySem.F.plain_max_loop _,next _ ⟨_,_,Heap.get?_update_self _ B rfl,h,?_⟩ fun a o f c=>(Heap.get?_update_other _ _ (Ne.symm f)).trans c⟩;rw[show QY (some x) y=g j by rw[J];exact SW C]
   ·rw[SV (show ¬(fun i E:Nat=>decide ((if i=0 then g j else x)>if E=0 then g j else x)) 0 1=true from fun z=>C (SS z))]
    apply Sa;apply wpAny_letGo;rw[G];apply Sb;refine⟨plainId_quiet PySem.F.plain_max_loop _,next _ ⟨_,_,B,t,?_⟩ fun a o _ c=>c⟩;rw[show QY (some x) y=x by rw[J];exact SV C]
theorem Zer(a v:Value):argsOk "max" ⟨[a],[(OJ "default",v)]⟩:=by unfold argsOk;kernel_rfl
theorem Zes{B:St}{Q:VK}{p:Addr}{ns:OD}{d:Int}{td:Tok}(J:X.calm=true)(I:Za X pins B H s)(Y:Zf X.K H p (ns.map V.int))(q:Q (.int ((VD none ns).getD d)) H) :
  wpAny (model X.prog X.w) X.A (call (.builtin "max") [.ref p] [(OJ "default",.int d td)]) (EP X pins B Q) X.xe s:=by
 obtain⟨its,G,h,Z⟩:=I.list Y;have hlen:=G.length;obtain⟨o,n,C,_⟩:=id h;have O:p≠s.heap.objs.size:=Sf (Se C);have M:(toString "max" ++ toString ".loop" : String) = "max.loop" := by lia
 refine kmb_tree PySem.F.kind_max PySem.F.plain_max PySem.F.entry_max (Zer _ _) ?_;show wpAny _ _ (Builtin.Builtins.bindParams "max" ["key","default"] 0 ⟨[],[(OJ "default",.int d td)]⟩ >>= _) _ _ s;apply Sa;refine wpAny_of_eq (show Builtin.Builtins.bindParams "max" ["key","default"] 0 ⟨[],[(OJ "default",.int d td)]⟩=pure [none,some (.int d td)] from R) ?_;apply Sa;apply Sb;apply Sa;refine wpAny_pyIter_list h.isList ?_;apply Sa;refine wpAny_newObj_type ?_;rw[M];refine Sb ⟨plainId_quiet PySem.F.plain_max_loop _,?_⟩;refine Zeq (fp:=[s.heap.objs.size,p]) (wr:=[s.heap.objs.size]) (g:=fun i=>ns.getD i 0) (Walks.list (A:=X.A.in1) (I.ok.hd J) _ _ O its.toArray) ?_ ?_ ns 0 _ none ?_ ?_ ?_ ?_ ?_
 ·intro i v j
  have D:its[i]? = some v:=by simpa using j
  have u:i<ns.length:=by
   have:=(Sr.mp D).1;rw[<-hlen,Sv]at this;exact this
  obtain⟨w,c,f⟩:=G.get (i:=i) (x:=.int ns[i]) (by rw[Oa,Ss u];rfl);rw[D]at c;cases c;obtain⟨t,rfl⟩:=f;exact⟨t,by rw[List.getD_eq_getElem?_getD,Ss u];rfl⟩
 ·intro hm
  have c:(s.heap.push { cls:=.type "list_iterator",data:=.fields #[.ref p,.int 0 0] }).objs.size=s.heap.objs.size+1:=Heap.size_push ..;have lt:=Se C;rcases SF.mp hm with z|z
  ·have:s.heap.objs.size+1=s.heap.objs.size:=c.symm.trans z
   lia
  ·have:s.heap.objs.size+1=p:=c.symm.trans (SE.mp z)
   rw[<-this]at lt;exact Oq lt (Og.mpr (Nat.le_succ _))
 ·rw[SN,<-hlen,Sv,Nat.zero_add]
 ·intro i y L
  rw[Nat.zero_add,List.getD_eq_getElem?_getD,L];rfl
 ·refine⟨⟨_,Sc _ (Sd _ R),R,R⟩,?_⟩
  obtain⟨T,f,U⟩:=h.isList;exact⟨T,Sc _ (Sc _ f),U⟩
 ·exact⟨_,_,Sd _ R,R⟩
 ·intro v S tk r k
  have P:∀b o,s.heap.get? b=some o->S.get? b=some o:=fun b o e=>k b o (fun z=>by
    have c:=Se e;rw[SE.mp z]at c;exact Oq c (Sl _)) (fun z=>by
    have c:=Se (Sc { cls:=.type "list_iterator",data:=.fields #[.ref p,.int 0 0] } e);rw[z]at c;exact Oq c (Sl _)) (Sc _ (Sc _ e))
  have j:∃E,v=.int ((VD none ns).getD d) E:=by
   cases e:VD none ns with
   |none=>rw[e]at r;exact⟨td,r⟩
   |some x=>rw[e]at r;exact r
  obtain⟨E,rfl⟩:=j;exact⟨.int _,H,I.kept (t':=tk) P,⟨_,R⟩,q⟩
inductive Zet(K:Ow)(Q:VK)(vs:List V)(zs:List V)(H2:Hp):Prop|mk (p:Addr) (ns:OD) (d:Int) (_:vs=[.ref p]) (_:zs=[.int d]) (_:Zf K H2 p (ns.map V.int)) (_:Q (.int ((VD none ns).getD d)) H2)
def Zeu(K:Ow)(t tk:TA):TE:=fun c H Q=>t c H fun e f=>tk c f fun zs g=>Zet K Q e zs g
theorem Zev(v:X.calm=true)(B:Gl X "max") (hm:X.mg "max" = none) (M:bootBuiltins "max" = some (.builtin "max"))
  (ha:PA X (e::c) t) (x:PK X f tk) (i:(backToKw pos (keywordEach f X.env)).all (·.1.isSome)=true:=by rfl) (S:(backToKw pos (keywordEach f X.env)).filterMap (·.1)=[OJ "default"]:=by rfl)
  (y:starEach (e::c) X.env=(false,eval e X.env)::starEach c X.env:=by rfl)
  (D:(backTo pos (starEach (e::c) X.env)).any (·.1)=false:=by rfl) (J:(backToKw pos (keywordEach f X.env)).any (·.1.isNone)=false:=by rfl) :
  PE X (.Call (.Name "max" p) (e::c) f pos) (Zeu X.K t tk):=by
 intro pins s g H a0 I h;refine wpAny_Call_Name_kw (Uu I B hm M ?_ (by lia) (by lia));refine callWith_builtin_kwB D J (evalArgs_kw2 i (Zq (ha pos pins s g H _ I h) fun U j ⟨Z,G,Q,r,q⟩=>?_) y);refine Zq (x pos pins j g G _ Q q) fun T s2 ⟨zs,Y,E,n,P⟩=>?_;rw[S];obtain⟨l,ns,d,rfl,rfl,O,L⟩:=P;obtain⟨u,rfl,C⟩:=X1 r;cases C;obtain⟨u,rfl,td,rfl⟩:=X1 n;exact Zes v E O L
open PySem
abbrev UE(xs:Array Nat):Prop:=xs.toList.Pairwise (· < ·)
theorem Kc{xs:Array Nat}(h:UE xs)(e:i<k)(c:k<xs.size):xs.getD i d<xs.getD k d:=by
 have q:=List.pairwise_iff_getElem.mp h i k (by simpa using Nat.lt_trans e c) (by simpa using c) e;simpa [Array.getD,Nat.lt_trans e c,c]using q
theorem My{xs:Array Nat}(h:UE xs):∀(n lo hi:Nat),hi - lo<=n->lo<=hi->hi<=xs.size->(∀i,i<lo->xs.getD i j<j)->(∀i,hi<=i->i<xs.size->j<=xs.getD i j) ->
  SetTable.below.go xs j n lo hi<=xs.size/\(∀i,i<SetTable.below.go xs j n lo hi->xs.getD i j<j)/\∀i,SetTable.below.go xs j n lo hi<=i->i<xs.size->j<=xs.getD i j
 |0,lo,hi,hn,q,g,h1,f=>by
  have e:lo=hi:=by lia
  subst e;exact⟨g,h1,f⟩
 |n+1,lo,hi,hn,q,g,h1,f=>by
  unfold SetTable.below.go;by_cases c:lo<hi
  ·rw[SW c]
   dsimp only;by_cases d:xs.getD ((lo+hi)/2) j<j
   ·rw[SW d]
    refine My h n _ hi (by lia) (by lia) g (fun i u=>?_) f;by_cases e:i=(lo+hi)/2
    ·rw[e];exact d
    ·exact Nat.lt_trans (Kc h (show i<(lo+hi)/2 by lia) (by lia)) d
   ·rw[SV d]
    refine My h n lo _ (by lia) (by lia) (by lia) h1 (fun i u v=>?_);by_cases e:i=(lo+hi)/2
    ·rw[e];lia
    ·have:=Kc (d:=j) h (show(lo+hi)/2<i by lia) v
     lia
  ·rw[SV c]
   have e:lo=hi:=by lia
   subst e;exact⟨g,h1,f⟩
theorem Mz{xs:Array Nat}(h:UE xs):SetTable.below xs j<=xs.size/\(∀i,i<SetTable.below xs j->xs.getD i j<j)/\∀i,SetTable.below xs j<=i->i<xs.size->j<=xs.getD i j :=
 My h _ 0 _ (by lia) (Sk _) (Sg _) (fun i z=>Oq z (Nat.not_lt_zero _)) (fun i a b=>by lia)
theorem Zew(h:UE xs)(hn:xs[SetTable.below xs j]?≠some j):UE (SetTable.insertAt xs (SetTable.below xs j) j):=by
  obtain⟨y,v,q⟩:=Mz (j:=j) h;show List.Pairwise _ _;rw[SetTable.toList_insertAt];have get:∀i (c:i<xs.size),xs.getD i j=xs.toList[i]'(by simpa using c):=fun i c=>by simp[Array.getD,c]
  have u:∀b∈xs.toList.drop (SetTable.below xs j),j<b:=fun b f=>by
    obtain⟨i,c,rfl⟩:=List.getElem_of_mem f;rw[SA]at c;have hz:SetTable.below xs j+i<xs.size:=by simpa using(show SetTable.below xs j+i<xs.toList.length by lia)
    rw[List.getElem_drop,<-get _ hz];have g:=q _ (On (SetTable.below xs j) i) hz;refine Nat.lt_of_le_of_ne g fun e=>?_;by_cases x:i=0
    · subst x
      refine hn ?_;rw[Nat.add_zero]at e hz;rw[Array.getElem?_eq_getElem hz];have:=get _ hz;rw[<-e]at this;simpa using this.symm
    · have l:=Kc (d:=j) h (show SetTable.below xs j<SetTable.below xs j+i by lia) hz
      have B:=q _ (Sg _) (show SetTable.below xs j<xs.size by lia);lia
  refine List.pairwise_append.mpr ⟨h.sublist (List.take_sublist _ _),List.pairwise_cons.mpr ⟨u,h.sublist (List.drop_sublist _ _)⟩,fun a ha b f=>?_⟩;have n:a<j:=by
    obtain⟨i,c,rfl⟩:=List.getElem_of_mem ha;rw[Sx]at c
    have hz : i < xs.size := by have : xs.toList.length=xs.size := by simp
                                lia
    rw[List.getElem_take,<-get _ hz];exact v i (by lia)
  rcases SF.mp f with rfl|f
  · exact n
  · exact Nat.lt_trans n (u b f)
structure U4(t:OH):Prop where
 du:t.dummies = #[]
 ri:t.plain=true->UE t.place
theorem xN(j:Nat):SetTable.has #[] j=false:=rfl
theorem Zex{t:OH}(h:t.slot j=.empty):t.place[SetTable.below t.place j]?≠some j:=by
 intro e;unfold SetTable.slot at h;dsimp only at h;rw[e]at h;simp at h
theorem Zey{t:OH}(c:U4 t):t.slot j≠.dummy:=by
 unfold SetTable.slot;rw[c.du];dsimp only
 split
 ·intro z;cases z
 ·rw[xN]
  intro z;cases z
theorem xO{t:OH}(q:U4 t):∀(n:Nat) (p:SetTable.Probe) (j:Nat) (d:Option Nat),p.dummy=none->SetTable.probe.go t g h n p=some (.empty j d)->t.slot j=.empty/\d=none
 |0,p,j,d,_,e=>by cases e
 |n+1,p,j,d,f,e=>by
  unfold SetTable.probe.go at e;cases c:t.slot p.j with
  |empty =>
   rw[c]at e;injection e with e;injection e with v u;subst v;exact⟨c,u.symm.trans f⟩
  |dummy=>exact Oq c (Zey q)
  |live i =>
   rw[c]at e;dsimp only at e
   split at e
   ·injection e with e;cases e
   ·refine xO q n _ j d ?_ e
    unfold SetTable.advance
    split
    ·exact f
    ·exact f
theorem Zez{t:OH}(e:U4 t)(f:Array (Int×Value))(h:Int)(x:Value):U4 (layNew t f h x).2.1/\(layNew t f h x).2.1.led=t.led:=by
 unfold layNew;cases c:t.freeSlot h with
 |none=>exact⟨⟨R,fun z=>by cases z⟩,rfl⟩
 |some q =>
  obtain⟨j,B⟩:=q;have u:t.slot j=.empty:=by
   unfold SetTable.freeSlot at c
   split at c
   ·rename_i y v n
    obtain⟨i,rfl⟩:=xO e _ _ _ _ R n;injection c with c;injection c with g C;rw[<-g];exact i
   ·cases c
  dsimp only;unfold SetTable.orStandIn
  split
  ·refine⟨⟨?_,fun z=>?_⟩,R⟩
   ·show(if SetTable.has t.dummies j=true then _ else t.dummies) = #[]
    rw[e.du,xN];rfl
   ·exact Zew (e.ri z) (Zex u)
  ·exact⟨⟨R,fun z=>by cases z⟩,rfl⟩
theorem ZeA{t:OH}(C:U4 t)(e:Array (Int×Value))(n:Nat):U4 (relayAll t e n).2.1/\(relayAll t e n).2.1.led=t.led:=by
 unfold relayAll;cases c:t.relaid (e.map (·.1)) n with
 |none=>exact⟨⟨R,fun z=>by cases z⟩,rfl⟩
 |some q =>
  obtain⟨v,x⟩:=q;dsimp only
  split
  ·unfold SetTable.relaid SetTable.laid at c
   cases h:SetTable.layClean (SetTable.sizeAbove n - 1) (e.map (·.1))with
   |none=>rw[h]at c;cases c
   |some g =>
    rw[h]at c;injection c with c;injection c with i B;subst i;refine⟨⟨R,fun _=>?_⟩,R⟩;show List.Pairwise _ _;rw[List.toList_toArray];rw[List.map_filterMap];refine List.Pairwise.sublist (l₂:=List.range (SetTable.sizeAbove n - 1+1)) ?_ List.pairwise_lt_range;have u:∀l:List Nat,List.Sublist (l.filterMap fun j=>Option.map (fun p:Nat×Nat=>p.1) ((g.getD j none).map fun y=>(j,y))) l:=by
     intro l
     induction l with
     |nil=>exact .slnil
     |cons a r f =>
      rw[List.filterMap_cons];cases g.getD a none with
      |none=>exact f.cons _
      |some y=>exact f.cons_cons _
    exact u _
  ·exact⟨⟨R,fun z=>by cases z⟩,rfl⟩
open PySem
def keyOf(e:Int×Value):Int:=match e.2 with
 |.int k _=>k
 |_=>0
theorem xP(h:ElemsOf (intKind prog w) l){e:Int×Value}(f:e∈l):∃t,e.2=.int (keyOf e) t:=by
 obtain⟨⟨k,c,_⟩,_⟩:=h e f;obtain⟨t,q⟩:=Value.isInt_shape (k:=k) (v:=e.2) c;refine⟨t,?_⟩;unfold keyOf;rw[q]
theorem ZeB(h:ElemsOf (intKind prog w) l){e:Int×Value}(c:e∈l)(q:(intKind prog w).is k e.2=true):keyOf e=k:=by
 obtain⟨t,q⟩:=Value.isInt_shape (k:=k) (v:=e.2) q;unfold keyOf;rw[q]
def Xf(prog:Program)(w:World)(h:Heap)(a:Addr)(ks:OD):Prop:=∃(o:Obj) (es:Array (Int×Value)) (ep:Nat) (t:OH),
 h.get? a=some o/\o.ExactSet/\o.data=.set es ep t/\ElemsOf (intKind prog w) es.toList/\t.fits es.size=true/\U4 t/\(w.params.followText "set-order" = false->t.led=true) /\
 (es.toList.map keyOf).Nodup/\(∀k,k∈es.toList.map keyOf↔k∈ks)/\es.size<=ks.length
theorem Xf.keep{h h':Heap}(x:Xf prog w h a ks)(k:∀o,h.get? a=some o->h'.get? a=some o):Xf prog w h' a ks :=
 let ⟨o,es,ep,t,ho,r⟩:=x
 ⟨o,es,ep,t,k _ ho,r⟩
theorem xQ{h:Heap}{o:Obj}{c : Array (Int×Value)}{t' : SetTable}{ks:OD}(j:h.get? a=some o)(v:o.ExactSet)(hd:o.data=.set x e t)
  (i:ElemsOf (intKind prog w) c.toList) (u:t'.fits c.size=true) (n:U4 t') (f:w.params.followText "set-order" = false->t'.led=true) (nd:(c.toList.map keyOf).Nodup)
  (mem:∀k,k∈c.toList.map keyOf↔k∈ks) (sz:c.size<=ks.length) :
  (h.update a (Obj.putSet c t')).get? a=some { o with data:=.set c (e+1) t' }/\Xf prog w (h.update a (Obj.putSet c t')) a ks:=by
 have g:(h.update a (Obj.putSet c t')).get? a=some { o with data:=.set c (e+1) t' }:=by
  have q:=Heap.get?_update_self (Obj.putSet c t') j (by rw[putSet_of c t' hd];rfl);rw[putSet_of c t' hd]at q;exact q
 exact⟨g,_,c,e+1,t',g,v,R,i,u,n,f,nd,mem,sz⟩
theorem ZeC{c e:Array (Int×Value)}(p:List.Perm e.toList c.toList):e.size=c.size:=by
 have:=p.length_eq;simpa using this
theorem ZeD{ks:OD}(hS:Xf prog w s.heap a ks)(hr:ks.length+1<scanBound)
  (h:∀b h',Heap.SameBut a s.heap h'->Xf prog w h' a (ks++[k])->Q b { s with heap:=h' }):wpAny (model prog w) A (setAddHashed a (.int k tk) ((intKind prog w).hash k)) Q E s:=by
 obtain⟨o,f,ep,t,y,P,hd,j,O,T,hl,nd,mem,sz⟩:=hS;have hz:f.size<scanBound:=by lia
 have Z:(intKind prog w).is k (.int k tk)=true:=intKind_is _ _ _ _;unfold setAddHashed setAddHashedIn;refine wpAny_holding (Sa (wpAny_setState_of y hd O ?_));dsimp only;rw[byScan_of (knd:=intKind prog w) (x:=.int k tk) R hz j];simp only[↓reduceIte];unfold setAddByScan;refine Sa (Sa (wpAny_rule (Sa (wpAny_setScan_of Z y hd O j ?_))));cases X:List.findIdx? (fun e=>(intKind prog w).is k e.2) f.toList with
 |some e0 =>
  dsimp only;obtain⟨hj,hp,_⟩:=List.findIdx?_eq_some_iff_getElem.mp X;have I:k∈f.toList.map keyOf:=SJ.mpr ⟨f.toList[e0],Oi hj,ZeB j (Oi hj) hp⟩;have q:=h false s.heap (Heap.SameBut.refl a s.heap) ⟨o,f,ep,t,y,P,hd,j,O,T,hl,nd,fun i=>by
   rw[SG,SE,mem i];exact⟨.inl,fun z=>z.elim id fun e=>by rw[e];exact(mem k).mp I⟩,by rw[Su];lia⟩
  exact Sb (Sb q)
 |none =>
  dsimp only;have I:k∉f.toList.map keyOf:=fun z=>by
   obtain⟨e,Y,ek⟩:=SJ.mp z;have q:=List.findIdx?_eq_none_iff.mp X e Y;obtain⟨te,ee⟩:=xP j Y;rw[ee,ek,intKind_is]at q;cases q
  have gw:∀(b:Bool) {D:Shared} {H:Oz},H () D->wpAny (model prog w) A (match b with|true=>rule "set.scan.the-table-gave-way" | false=>pure ()) H E D :=
   fun b D H q=>by
    cases b
    ·exact Sb q
    ·exact wpAny_rule q
  have v:=layNew_perm t f ((intKind prog w).hash k) (.int k tk);have G:=layNew_fits t f ((intKind prog w).hash k) (.int k tk);obtain⟨B,J⟩:=Zez T f ((intKind prog w).hash k) (.int k tk);generalize layNew t f ((intKind prog w).hash k) (.int k tk)=d0 at v G B J ⊢;obtain⟨c,g,wd,gv⟩:=d0;dsimp only at v G B J ⊢;rw[Array.toList_push]at v;have a0:ElemsOf (intKind prog w) c.toList:=(j.push Z R).perm v;have km:List.Perm (c.toList.map keyOf) (f.toList.map keyOf++[k]):=by
   have:=v.map keyOf;rw[SL]at this;exact this
  have E5:(c.toList.map keyOf).Nodup:=km.nodup_iff.mpr (List.nodup_append.mpr ⟨nd,by simp,fun a ha b u=>by
   rw[SE]at u;subst u;intro e;subst e;exact I ha⟩)
  have b0:∀i,i∈c.toList.map keyOf↔i∈ks++[k]:=fun i=>by
   rw[km.mem_iff,SG,SG,mem i]
  have h0:c.size=f.size+1:=by
   have:=v.length_eq;simpa using this
  have z1:c.size<=(ks++[k]).length:=by rw[Su,Sw];lia
  have l1:w.params.followText "set-order" = false->g.led=true:=fun z=>J.trans (hl z);refine Sa (gw _ ?_);have tail:∀{M:Option Bool->Shared->Prop},(∀h',Heap.SameBut a s.heap h'->Xf prog w h' a (ks++[k])->M (some true) { s with heap:=h' }) ->
    wpAny (model prog w) A (do
     storeSet a c g
     if (!wd && g.tooFull)=true then do
      (match (relayAll g c (SetTable.grown c.size)).2.2 with|true=>rule "set.scan.the-table-gave-way" | false=>pure ())
      storeSet a (relayAll g c (SetTable.grown c.size)).1 (relayAll g c (SetTable.grown c.size)).2.1
      pure (some true)
     else pure (some true)) M E s:=by
   intro M hR;refine Sa (wpAny_storeSet_of y hd ?_ (fits_of_scanBound (by lia)));obtain⟨g1,i1⟩:=xQ (prog:=prog) (w:=w) y P hd a0 G B l1 E5 b0 z1;have U:=Heap.SameBut.update s.heap a (Obj.putSet c g)
   split
   ·have n:=relayAll_perm g c (SetTable.grown c.size);have L:=relayAll_fits g c (SetTable.grown c.size)
    obtain⟨t2,S⟩:=ZeA B c (SetTable.grown c.size);generalize relayAll g c (SetTable.grown c.size)=c0 at n L t2 S ⊢;obtain⟨g0,t3,f0⟩:=c0;dsimp only at n L t2 S ⊢;have s2:=ZeC n;refine Sa (gw _ (Sa (wpAny_storeSet_of g1 R ?_ (fits_of_scanBound (by lia)))));obtain⟨_,i2⟩:=xQ (prog:=prog) (w:=w) (ks:=ks++[k]) g1 P R (a0.perm n) L t2 (fun z=>S.trans (l1 z)) ((n.map keyOf).nodup_iff.mpr E5) (fun i=>by rw[(n.map keyOf).mem_iff];exact b0 i) (by lia);exact Sb (hR _ (U.trans (Heap.SameBut.update _ a _)) i2)
   ·exact Sb (hR _ U i1)
  split
  ·refine Sa ?_
   rw[hashByValue_scannable 8 (show Value.scannable (.int k tk)=true from R)];refine Sb ?_;show wpAny _ _ _ _ _ _;exact tail fun h' u C=>Sb (h true h' u C)
  ·refine Sa (Sb ?_)
   exact tail fun h' u C=>Sb (h true h' u C)
section
variable{R:Result->Shared->Prop}{I:Addr}{fp wr:OG}{G:Array GenState->Array GenState->Prop}{n:Nat}{P:Nat->Value->Prop}{St:Nat->Shared->Prop}
theorem ZeE(W:WalksS prog w A.in1 I fp wr G n P St)(S:Addr)(u:S∉fp)(val:Nat->Int)(H:∀i v,P i v->∃t,v=.int (val i) t)(f:n+1<scanBound) :
  ∀(k i:Nat) (s:Shared),n - i=k->i<=n->St i s->Xf prog w s.heap S ((List.range i).map val)->(∀s',Moved (S::wr) G s s'->Xf prog w s'.heap S ((List.range n).map val)->R (.ok (.ret .none)) s') ->
   codeAny (model prog w) A (.builtin "set.update.loop" ⟨[.ref S,.ref I],[]⟩) R s:=by
 have q:S∉wr:=fun z=>u (W.sub _ z);have x:∀b∈wr,b∈S::wr:=fun b z=>SC _ z;intro k
 induction k with
 |zero =>
  intro i s B c st g h;obtain rfl:i=n:=by lia
  refine codeAny_builtin PyProof.Rows.F.entry_set_update_loop ?_;rw[Around.under_plainId PyProof.Rows.F.plain_set_update_loop _];refine Sa (m:=pyNext (.ref I)) (W.done s _ _ st fun s' hm=>?_);exact Sb (h s' (hm.mono x) (g.keep fun o e=>hm.heap S o q e))
 |succ k L =>
  intro i s B c st g h;have lt:i<n:=by lia
  refine codeAny_builtin PyProof.Rows.F.entry_set_update_loop ?_;rw[Around.under_plainId PyProof.Rows.F.plain_set_update_loop _];refine Sa (m:=pyNext (.ref I)) (W.item i s _ _ lt st fun v s' D C hm=>?_);obtain⟨tk,rfl⟩:=H i v D;have y:=g.keep fun o e=>hm.heap S o q e;refine Sa (m:=holding [Value.int (val i) tk] (setAdd S (.int (val i) tk))) (wpAny_holding ?_);unfold setAdd;refine wpAny_holding (Sa ((intKind prog w).pyHash (k:=val i) (intKind_is _ _ _ _) ?_));refine ZeD (s:={ s' with toks:=s'.toks+1 }) y (by rw[Sv,List.length_range];lia) fun b O j c=>?_;have e:((List.range i).map val)++[val i]=(List.range (i+1)).map val:=by rw[Oj,SL];rfl
  rw[e]at c;refine Sb ⟨plainId_quiet PyProof.Rows.F.plain_set_update_loop _,L (i+1) _ (by lia) lt (W.frame _ s' _ _ C (Nat.le_succ _) fun b f o e=>?_) c fun M J E=>?_⟩
  ·rw[j.2 b (fun z:b=S=>u (by rw[<-z];exact f))];exact e
  ·refine h M (Moved.trans W.gtrans ((hm.mono x).then_heap (Nat.le_succ _) fun b o f e=>?_) J) E
   rw[j.2 b (fun z:b=S=>f (by rw[z];exact SD))];exact e
end
open PySem
theorem MA{c:Type}:∀(l:List c) (i:Nat) (x:c),l[i]? = some x->List.Perm (x::l.eraseIdx i) l
 |[],i,x,h=>by cases h
 |a::r,0,x,h=>by cases h;exact .refl _
 |a::r,i+1,x,h=>(List.Perm.swap a x _).trans ((MA r i x h).cons a)
theorem xR{c:Type}(f:Nat->Nat):∀(n k:Nat) (l:List c) (out:Array c),l.length=n->List.Perm (pickOrder.go f n k l out).toList (out.toList++l)
 |0,k,l,out,h=>by
  cases l with
  |nil=>unfold pickOrder.go;rw[Oc]
  |cons a r=>cases h
 |n+1,k,l,out,h=>by
  unfold pickOrder.go;have e:f k%l.length<l.length:=Oo _ (by lia);rw[Ss e];dsimp only;have p:=MA l _ _ (Ss e);refine(xR f n (k+1) _ _ ?_).trans ?_
  ·have:=p.length_eq
   rw[Sy]at this;lia
  ·rw[Array.toList_push,Od]
   exact List.Perm.append_left _ p
theorem MB{c:Type}(f:Nat->Nat)(xs:Array c):List.Perm (pickOrder f xs).toList xs.toList:=by
 have:=xR f xs.size 0 xs.toList #[] (by simp);rw[show(#[]:Array c).toList++xs.toList=xs.toList from R]at this;exact this
theorem ZeF(hn:n≠0)(h:∀i d,i<n->Q i { s with drawn:=d }):wpAny M A (choose c n) Q E s:=fun e p f=>by
 show Sem.wp M e (Sem.choose c n Sem.pure) _ _ p s;unfold Sem.wp;refine⟨hn,?_⟩;unfold Sem.wp;exact h _ _ (Oo _ (Nat.pos_of_ne_zero hn))
theorem xS{M:Model}{e:Type}:∀(n:Nat) (xs:List e) (s:Shared) {Q:List e->Shared->Prop},xs.length=n->(∀ys d,List.Perm ys xs->Q ys { s with drawn:=d })->wpAny M A (drawOrder n xs) Q E s
 |0,xs,s,Q,c,h=>by
  cases xs with
  |nil=>exact Sb (h [] s.drawn .nil)
  |cons a r=>cases c
 |n+1,xs,s,Q,c,h=>by
  cases xs with
  |nil=>cases c
  |cons a r =>
   unfold drawOrder;refine Sa (ZeF (by simp) fun i d f=>?_);rw[Ss f];dsimp only;have p:=MA (a::r) _ _ (Ss f);refine Sa (xS n _ _ (by have:=p.length_eq;rw[Sy]at this;lia) fun ys g j=>?_);exact Sb (h _ g ((j.cons _).trans p))
def Wh(h:Heap)(I:Addr)(f:Value)(i:Nat)(p n c:Nat):Prop:=∃o,h.get? I=some o/\o.cls=.type "set_iterator" /\ o.data=.fields #[f,.int i 0,.ref p,.int n 0,.int c 0]
theorem Wh.ty(x:Wh s.heap I f i p n c):s.TypeIs (.ref I) "set_iterator" := let ⟨o,ho,hc,_⟩:=x;⟨o,ho,hc⟩
def WW(h:Heap)(p e:Nat)(c:Array (Int×Value))(t:OH):Prop:=∃o,h.get? p=some o/\o.ExactSet/\o.data=.set c e t/\t.fits c.size=true
theorem UF:Slot "set_iterator" "__next__" "set_iterator.__next__" := .of (owner := "set_iterator") (n := "__next__") (by rw[typeLookup_type,builtinLookup_eq_fast];kernel_rfl) (by lia) (by lia) (by lia) (by first|exact .inl (by lia)|exact .inr (by lia)) (by rw[isSubtype_type];kernel_rfl)
theorem Ke:entryFor table "set_iterator.__next__" = some Builtin.«set_iterator.__next__»:=entryFor_of_tree (by kernel_rfl)
theorem Kf(a:Value):argsOk "set_iterator.__next__" ⟨[a],[]⟩:=by unfold argsOk;kernel_rfl
theorem ZeG:entryFor table "set.__iter__" = some Builtin.«frozenset.__iter__»:=entryFor_alias (id' := "frozenset.__iter__") (by kernel_rfl) R (by lia) (by kernel_rfl)
theorem xT:typeLookup (.type "set_iterator") "__next__" = pure (some (.builtin "set_iterator.__next__")):=UF.lookup
theorem ZeH{h:Array (Int×Value)}{t:OH}(P:WW s.heap p x h t)
  (X:(w.params.followText "set-order" = true\/(t.plain=true\/h.size<=1))->Q (.ref s.heap.objs.size) { s with heap:=s.heap.push { cls:=.type "set_iterator",data:=.fields #[.int 0 0,.int 0 0,.ref p,.int h.size 0,.int x 0] } })
  (hd:∀(n:OF) (d:Drawn),List.Perm n (List.range h.size)->Q (.ref (s.heap.objs.size+1)) { s with heap:=(s.heap.push { cls:=.type "tuple",data:=.seq (n.map fun i=>rawInt (i:Nat)).toArray }).push { cls:=.type "set_iterator",data:=.fields #[.ref s.heap.objs.size,.int 0 0,.ref p,.int h.size 0,.int x 0] },drawn:=d })
  (S:h.size<=sizeLine):wpAny (model prog w) A (pyIter (.ref p)) Q E s:=by
 obtain⟨o,u,Y,C,B⟩:=P;have D:s.TypeIs (.ref p) "set" := ⟨o,u,Y.1⟩;refine wpAny_pyIter_slot D F.slot_set_iter (wpAny_call_entry F.slot_set_iter D ZeG ?_ (F.args_set_iter_1 _));unfold Builtin.«frozenset.__iter__»;refine Sa (m:=Builtin.Frozenset.slot0 "__iter__" _) (Sb ?_);refine Sa (m:=Builtin.Frozenset.sizeOf p) ?_;unfold Builtin.Frozenset.sizeOf setEntries;refine Sa (Sa (wpAny_setState_of u C B (Sb (Sb ?_))));unfold setDrawn setsByText;refine Sa (Sa (wpAny_setState_of u C B (Sa (Sa (wpAny_askSetting (Sb (Sb ?_)))))));have I:∀{f:Value} {j:Heap} {d:Drawn},j.get? p=some o->Q (.ref j.objs.size) { s with heap:=j.push { cls:=.type "set_iterator",data:=.fields #[f,.int 0 0,.ref p,.int h.size 0,.int x 0] },drawn:=d } ->
   wpAny (model prog w) A.in1 (do
    let O <-setEpoch p
    let U <-newFields "set_iterator" [f,rawInt 0,Value.ref p,rawInt (h.size:Nat),rawInt (O:Nat)]
    ret U) (fun M H=>∃v,M=Fin.done (Flow.ret v)/\∃G r,H.TypeIs v G/\typeLookup (Value.type G) (OJ "__next__")=pure (some r)/\Q v H) E { s with heap:=j,drawn:=d }:=fun{f j d} g q=>by
  refine Sa (wpAny_setEpoch_of (s:={ s with heap:=j,drawn:=d }) g C B ?_);exact Sa (wpAny_newObj_type (Sb ⟨_,R,"set_iterator",_,⟨_,Sd _ R,R⟩,xT,q⟩))
 refine wpAny_ite_split (fun c=>?_) (fun c=>?_)
 ·refine Sa (xS h.size _ _ (by simp) fun n d J=>?_)
  have T:n.length=h.size:=by have:=J.length_eq;simpa using this
  refine Sa (m:=newTuple _) (wpAny_newObj_type ?_ (by show(n.map fun i=>rawInt (i:Nat)).toArray.size<=sizeLine;rw[SN,Sv,T];exact S));have q:=hd n d J;have e:s.heap.objs.size+1=(s.heap.push { cls:=.type "tuple",data:=.seq (n.map fun i=>rawInt (i:Nat)).toArray }).objs.size:=(Heap.size_push _ _).symm;rw[e]at q;exact I (Sc _ u) q
 ·refine Sa (Sb (I (d:=s.drawn) u (X ?_)))
  have y:¬ (!w.params.followText "set-order" && (!t.plain && decide (h.size>1)))=true:=c;cases L:w.params.followText "set-order" with
  |true=>exact .inl rfl
  |false =>
   right
   cases j:t.plain with
   |true=>exact .inl rfl
   |false =>
    right
    rw[L,j]at y;simp at y;exact y
open PySem
theorem ZeI{h:Heap}(x:Wh h I f i p n c) :
  Wh ((h.update I (Obj.mapFields (·.setIfInBounds 0 g))).update I (Obj.mapFields (·.setIfInBounds 1 (rawInt ((i:Int)+1))))) I g (i+1) p n c:=by
 obtain⟨o,q,u,hd⟩:=x;have e:=Obj.data_mapFields hd (·.setIfInBounds 0 g);have g1:=Heap.get?_update_self (Obj.mapFields (·.setIfInBounds 0 g)) q (Obj.isFreed_of_fields e);have j:=Obj.data_mapFields e (·.setIfInBounds 1 (rawInt ((i:Int)+1)));refine⟨_,Heap.get?_update_self _ g1 (Obj.isFreed_of_fields j),(Obj.cls_mapFields ..).trans ((Obj.cls_mapFields ..).trans u),?_⟩;rw[j];simp[rawInt]
theorem xU{I p e i slot nx:Nat}{g:Array (Int×Value)}{t:OH}{x:Value}{Q:Option Value->Shared->Prop}(c:Wh s.heap I (.int slot 0) i p g.size e)(B:WW s.heap p e g t)
  (n:∀(u:Around) (E':Ot) (Q':Option (Value×Nat)->Shared->Prop),Q' (some (x,nx)) s->wpAny (model prog w) u (setNext p slot i e) Q' E' s)
  (q:∀h',Wh h' I (.int nx 0) (i+1) p g.size e->Heap.SameBut I s.heap h'->Q (some x) { s with heap:=h' }):wpAny (model prog w) A (pyNext (.ref I)) Q E s:=by
 obtain⟨o,f,G,hd⟩:=id c;obtain⟨C,j,D,v,y⟩:=B;unfold pyNext;refine Sa (wpAny_attempt (wpAny_callSpecial?_slot (name:=OJ "__next__") c.ty UF (wpAny_call_entry UF c.ty Ke ?_ (Kf _))));unfold Builtin.«set_iterator.__next__»;refine Sa (m:=slotArgs "__next__" 0 _) (Sb ?_);refine Sa (wpAny_fieldsOf f hd ?_);dsimp only;unfold setEntries;refine Sa (Sa (wpAny_setState_of j v y (Sb ?_)));rw[SV (by simp)];simp only[Int.toNat_natCast];refine Sa (n _ _ _ ?_);dsimp only;refine Sa (wpAny_setField f hd (by simp) ?_);have h:=Obj.data_mapFields hd (·.setIfInBounds 0 (rawInt (nx:Int)));have g1:=Heap.get?_update_self (Obj.mapFields (·.setIfInBounds 0 (rawInt (nx:Int)))) f (Obj.isFreed_of_fields h);refine Sa (wpAny_setField (s:={ s with heap:=s.heap.update I (Obj.mapFields (·.setIfInBounds 0 (rawInt (nx:Int)))) }) g1 h (by simp) ?_);exact Sb ⟨_,R,Sb (q _ (ZeI c) ((Heap.SameBut.update ..).trans (Heap.SameBut.update ..)))⟩
theorem xV{I p e i slot:Nat}{g:Array (Int×Value)}{t:OH}{Q:Option Value->Shared->Prop}(y:A.handled=none)(c:Wh s.heap I (.int slot 0) i p g.size e)(B:WW s.heap p e g t)
  (j:∀(q:Around) (E':Ot) (Q':Option (Value×Nat)->Shared->Prop),Q' none s->wpAny (model prog w) q (setNext p slot i e) Q' E' s)
  (n:∀h',Heap.ExtBut I s.heap h'->Q none { s with heap:=h' }):wpAny (model prog w) A (pyNext (.ref I)) Q E s:=by
 obtain⟨o,f,G,hd⟩:=id c;obtain⟨C,h,D,v,x⟩:=id B;unfold pyNext;refine Sa (wpAny_attempt (wpAny_callSpecial?_slot (name:=OJ "__next__") c.ty UF (wpAny_call_entry UF c.ty Ke ?_ (Kf _))));unfold Builtin.«set_iterator.__next__»;refine Sa (m:=slotArgs "__next__" 0 _) (Sb ?_);refine Sa (wpAny_fieldsOf f hd ?_);dsimp only;unfold setEntries;refine Sa (Sa (wpAny_setState_of h v x (Sb ?_)));rw[SV (by simp)];simp only[Int.toNat_natCast];refine Sa (j _ _ _ ?_);dsimp only;refine Sa (wpAny_setField f hd (by simp) ?_);have u:=Heap.SameBut.update s.heap I (Obj.mapFields (·.setIfInBounds 2 Value.none));simp only[newExc,newTuple];refine Sa (Sa (wpAny_newObj_type (Sa (m:=firstArgMember _ _) (wpAny_of_eq (a:=Value.none) (by simp only[firstArgMember];rfl) (wpAny_newObj_type ?_ (by size_fits)))) (by size_fits)));simp only[raiseNew];refine Sa (wpAny_handled ?_);rw[show A.in1.handled=none from y];refine Sa (Sb (wpAny_throw ?_));refine Sa (wpAny_isInstance (T := "StopIteration") (b:=true) ⟨_,Sd _ R,R⟩ isSubtype_stop ?_);exact Sb (n _ ((u.extBut.push _).push _))
def QZ(h:Heap)(T:Nat)(ys:OF):Prop:=∃o,h.get? T=some o/\o.cls=.type "tuple" /\ ∃n,o.data=.seq (ys.map fun i=>rawInt (i:Nat)).toArray n
theorem ZeJ{f:Array (Int×Value)}{e:Int×Value}(h:Wh s.heap I (.ref T) i p f.size c)(B:WW s.heap p c f t)(C:QZ s.heap T ys)
  (J:ys[i]? = some j) (y:f[j]? = some e) (G:∀h',Wh h' I (.ref T) (i+1) p f.size c->Heap.SameBut I s.heap h'->Q (some e.2) { s with heap:=h' }):wpAny (model prog w) A (pyNext (.ref I)) Q E s:=by
 obtain⟨o,g,x,hd⟩:=id h;obtain⟨P,v,S,n,q⟩:=id B;unfold pyNext;refine Sa (wpAny_attempt (wpAny_callSpecial?_slot (name:=OJ "__next__") h.ty UF (wpAny_call_entry UF h.ty Ke ?_ (Kf _))));unfold Builtin.«set_iterator.__next__»;refine Sa (m:=slotArgs "__next__" 0 _) (Sb ?_);refine Sa (wpAny_fieldsOf g hd ?_);dsimp only;unfold setEntries;refine Sa (Sa (wpAny_setState_of v n q (Sb ?_)));rw[SV (by simp)];obtain⟨M,D,L,O,H⟩:=C;refine Sa (wpAny_seqItems D H ?_);dsimp only;rw[Int.toNat_natCast,List.getElem?_toArray,Oa,J];show wpAny _ _ (setNextDrawn p j c >>= _) _ _ s;unfold setNextDrawn;refine Sa (Sa (wpAny_setState_of v n q ?_));dsimp only;rw[SV (by simp)];rw[y];refine Sb (Sa (wpAny_setField g hd (by simp) ?_));have u:=Obj.data_mapFields hd (·.setIfInBounds 1 (rawInt ((i:Int)+1)));refine Sb ⟨_,R,Sb (G _ ⟨_,Heap.get?_update_self _ g (Obj.isFreed_of_fields u),(Obj.cls_mapFields ..).trans x,?_⟩ (Heap.SameBut.update ..))⟩;rw[u];simp[rawInt]
theorem ZeK{g:Array (Int×Value)}(n:A.handled=none)(e:Wh s.heap I (.ref T) i p g.size f)(q:WW s.heap p f g t)(u:QZ s.heap T ys)
  (G:ys[i]? = none) (C:∀h',Heap.ExtBut I s.heap h'->Q none { s with heap:=h' }):wpAny (model prog w) A (pyNext (.ref I)) Q E s:=by
 obtain⟨o,c,J,hd⟩:=id e;obtain⟨O,B,P,v,x⟩:=id q;unfold pyNext;refine Sa (wpAny_attempt (wpAny_callSpecial?_slot (name:=OJ "__next__") e.ty UF (wpAny_call_entry UF e.ty Ke ?_ (Kf _))));unfold Builtin.«set_iterator.__next__»;refine Sa (m:=slotArgs "__next__" 0 _) (Sb ?_);refine Sa (wpAny_fieldsOf c hd ?_);dsimp only;unfold setEntries;refine Sa (Sa (wpAny_setState_of B v x (Sb ?_)));rw[SV (by simp)];obtain⟨L,y,H,M,D⟩:=u;refine Sa (wpAny_seqItems y D ?_);dsimp only;rw[Int.toNat_natCast,List.getElem?_toArray,Oa,G];dsimp only[Option.map_none];refine Sa (wpAny_setField c hd (by simp) ?_);have h:=Obj.data_mapFields hd (·.setIfInBounds 0 (rawInt 0));have g1:=Heap.get?_update_self (Obj.mapFields (·.setIfInBounds 0 (rawInt 0))) c (Obj.isFreed_of_fields h);refine Sa (wpAny_setField (s:={ s with heap:=s.heap.update I (Obj.mapFields (·.setIfInBounds 0 (rawInt 0))) }) g1 h (by simp) ?_);have j:=(Heap.SameBut.update s.heap I (Obj.mapFields (·.setIfInBounds 0 (rawInt 0)))).trans (Heap.SameBut.update (s.heap.update I (Obj.mapFields (·.setIfInBounds 0 (rawInt 0)))) I (Obj.mapFields (·.setIfInBounds 2 Value.none)));simp only[newExc,newTuple];refine Sa (Sa (wpAny_newObj_type (Sa (m:=firstArgMember _ _) (wpAny_of_eq (a:=Value.none) (by simp only[firstArgMember];rfl) (wpAny_newObj_type ?_ (by size_fits)))) (by size_fits)));simp only[raiseNew];refine Sa (wpAny_handled ?_);rw[show A.in1.handled=none from n];refine Sa (Sb (wpAny_throw ?_));refine Sa (wpAny_isInstance (T := "StopIteration") (b:=true) ⟨_,Sd _ R,R⟩ isSubtype_stop ?_);exact Sb (C _ ((j.extBut.push _).push _))
theorem xW{slot : Nat}(q:w.params.followText "set-order" = true) (u:WW s.heap p c n t)
  (h:Q (((pickOrder (w.params.setOrder p c) n)[i]?).map fun e=>(e.2,slot)) s):wpAny (model prog w) A (setNext p slot i c) Q E s:=by
 obtain⟨v,f,x,g,j⟩:=u;unfold setNext setsByText;refine Sa (wpAny_setState_of f g j (Sa (Sa (wpAny_askSetting (Sb ?_)))));dsimp only;rw[SW (show(model prog w).w.params.followText "set-order" = true from q),SV (by simp)];unfold setWalk setsByText;refine Sa (Sa (wpAny_setState_of f g j (Sa (Sa (wpAny_askSetting (Sb ?_))))));dsimp only;rw[SW (show(model prog w).w.params.followText "set-order" = true from q)];exact Sa (wpAny_askSetting (Sb (Sb h)))
theorem xX{slot : Nat}{e:Array (Int×Value)}{t:OH}(C:w.params.followText "set-order" = false) (f:t.plain=true\/e.size<=1) (u:t.led=true) (B:WW s.heap p n e t)
  (h:Q (match e[SetTable.below t.place slot]?,t.place[SetTable.below t.place slot]? with|some (_,x),some j=>some (x,j+1)|_,_=>none) s):wpAny (model prog w) A (setNext p slot i n) Q E s:=by
 obtain⟨D,q,G,v,y⟩:=B;unfold setNext setsByText;refine Sa (wpAny_setState_of q v y (Sa (Sa (wpAny_askSetting (Sb ?_)))));dsimp only;rw[SV (show ¬ (model prog w).w.params.followText "set-order" = true by intro z;rw[show(model prog w).w.params.followText "set-order" = w.params.followText "set-order" from R,C]at z;cases z)];refine wpAny_ite_split (fun c=>?_) (fun c=>?_)
 ·exfalso
  have g:(!t.plain && decide (e.size>1))=true:=c;rw[Bool.and_eq_true,decide_eq_true_eq]at g;rcases f with f|f
  ·rw[f]at g;cases g.1
  ·omega
 ·refine Sa ?_
  show wpAny _ _ (if (!t.led && !e.isEmpty)=true then unsupported _ else pure ()) _ _ _;rw[SV (by rw[u];simp)];exact Sb (Sb h)
open PySem PyProof.Rows
theorem xY:Slot "set_iterator" "__iter__" "set_iterator.__iter__" := .of (owner := "set_iterator") (n := "__iter__") (by rw[typeLookup_type,builtinLookup_eq_fast];kernel_rfl) (by lia) (by lia) (by lia) (by first|exact .inl (by lia)|exact .inr (by lia)) (by rw[isSubtype_type];kernel_rfl)
theorem ZeL:entryFor table "set_iterator.__iter__" = some Builtin.«dict_keyiterator.__iter__»:=entryFor_alias (id' := "dict_keyiterator.__iter__") (by kernel_rfl) R (by lia) (by kernel_rfl)
theorem ZeM(a:Value):argsOk "set_iterator.__iter__" ⟨[a],[]⟩:=by unfold argsOk;kernel_rfl
theorem MC(x:Wh s.heap I f i p n c)(h:Q (.ref I) s):wpAny (model prog w) A (pyIter (.ref I)) Q E s:=by
 refine wpAny_pyIter_slot x.ty xY (wpAny_call_entry xY x.ty ZeL (show wpAny _ _ (ret (.ref I)) _ _ s from ?_) (ZeM _));exact Sb ⟨_,R,"set_iterator",_,x.ty,xT,h⟩
theorem Wh.keep{h h':Heap}(x:Wh h I f i p n c)(k:∀o,h.get? I=some o->h'.get? I=some o):Wh h' I f i p n c:=let ⟨o,ho,r⟩:=x;⟨o,k _ ho,r⟩
theorem WW.keep{h h':Heap}(x:WW h p e c t)(k:∀o,h.get? p=some o->h'.get? p=some o):WW h' p e c t:=let ⟨o,ho,r⟩:=x;⟨o,k _ ho,r⟩
theorem QZ.keep{h h':Heap}(x:QZ h T ys)(k:∀o,h.get? T=some o->h'.get? T=some o):QZ h' T ys:=let ⟨o,ho,r⟩:=x;⟨o,k _ ho,r⟩
theorem ZeN(B:A.handled=none)(I p f:Nat)(G:p≠I)(c:Array (Int×Value))(t:OH)(y:w.params.followText "set-order" = true) :
  Walks prog w A I [I,p] [I] c.size (fun i v=>((pickOrder (w.params.setOrder p f) c).toList.map (·.2))[i]? = some v) (fun i h=>Wh h I (.int 0 0) i p c.size f/\WW h p f c t) where
 sub:=fun b j=>by rw[SE]at j;rw[j];exact SD
 frame:=fun _ _ _ st k=>⟨st.1.keep (k I SD),st.2.keep (k p (SC _ SD))⟩
 item:=fun i s Q E M st n=>by
  have H:i<(pickOrder (w.params.setOrder p f) c).size:=by
   have:=(MB (w.params.setOrder p f) c).length_eq;rw[Array.length_toList,Array.length_toList]at this;lia
  have g:=Array.getElem?_eq_getElem H;refine xU (nx:=0) (x:=((pickOrder (w.params.setOrder p f) c)[i]).2) (slot:=0) st.1 st.2 (fun L D C q=>xW y st.2 (by rw[g];exact q)) fun u J j=>?_;refine n _ u s.toks ?_ ⟨J,st.2.keep fun o e=>j.extBut p o G e⟩ fun b o hn e=>j.extBut b o (fun z=>hn (by rw[z];exact SE.mpr R)) e;rw[Oa,Array.getElem?_toList,g];rfl
 done:=fun s Q E st n=>by
  have g:(pickOrder (w.params.setOrder p f) c)[c.size]? = none:=by
   have:=(MB (w.params.setOrder p f) c).length_eq;rw[Array.length_toList,Array.length_toList]at this;exact Array.getElem?_eq_none (by lia)
  exact xV (slot:=0) B st.1 st.2 (fun L D C q=>xW y st.2 (by rw[g];exact q)) fun u j=>n u s.toks fun b o hn e=>j b o (fun z=>hn (by rw[z];exact SE.mpr R)) e
 self:=fun _ _ _ _ st n=>MC st.1 n
def V2(t:OH):Nat->Nat
 |0=>0
 |i+1=>t.place.getD i 0+1
theorem xZ{t:OH}(h:UE t.place):∀i,i<=t.place.size->SetTable.below t.place (V2 t i)=i
 |0,_=>by
  obtain⟨u,g,q⟩:=Mz (j:=V2 t 0) h;by_cases c:SetTable.below t.place (V2 t 0)=0
  ·exact c
  ·exact Oq (g 0 (by lia)) (Nat.not_lt_zero _)
 |i+1,n=>by
  obtain⟨u,g,q⟩:=Mz (j:=V2 t (i+1)) h;have e:∀k d,k<t.place.size->t.place.getD k d=t.place.getD k 0:=fun k d f=>by simp[Array.getD,f]
  have x:i<SetTable.below t.place (V2 t (i+1)):=by
   by_cases c:SetTable.below t.place (V2 t (i+1))<=i
   ·have:=q i c n
    rw[e i _ n]at this;exact Oq this (Nat.not_succ_le_self _)
   ·omega
  by_cases v:SetTable.below t.place (V2 t (i+1))=i+1
  ·exact v
  ·have l:=g (i+1) (by lia)
   have f:i+1<t.place.size:=by lia
   rw[e _ _ f]at l;have r:t.place.getD i 0<t.place.getD (i+1) 0:=Kc (d:=0) h (Sm i) f;have y:t.place.getD (i+1) 0<t.place.getD i 0+1:=l;lia
theorem ZeO(L:A.handled=none)(I p u:Nat)(P:p≠I)(c:Array (Int×Value))(t:OH)(y:w.params.followText "set-order" = false) (D:t.plain=true\/c.size<=1) (C:t.led=true) (hz:t.place.size=c.size) (G:UE t.place) :
  Walks prog w A I [I,p] [I] c.size (fun i v=>(c.toList.map (·.2))[i]? = some v) (fun i h=>Wh h I (.int (V2 t i) 0) i p c.size u/\WW h p u c t) where
 sub:=fun b f=>by rw[SE]at f;rw[f];exact SD
 frame:=fun _ _ _ st k=>⟨st.1.keep (k I SD),st.2.keep (k p (SC _ SD))⟩
 item:=fun i s Q E H st j=>by
  have g:=Array.getElem?_eq_getElem H;have B:i<t.place.size:=by lia
  have g2:=Array.getElem?_eq_getElem B;have J:V2 t (i+1)=t.place[i]+1:=by
   show t.place.getD i 0+1=_;simp[Array.getD,B]
  refine xU (nx:=t.place[i]+1) (x:=(c[i]).2) (slot:=V2 t i) st.1 st.2 (fun S O M q=>xX y D C st.2 (by rw[xZ G i (by lia),g,g2];exact q)) fun n T f=>?_;refine j _ n s.toks ?_ ⟨by rw[J];exact T,st.2.keep fun o e=>f.extBut p o P e⟩ fun b o hn e=>f.extBut b o (fun z=>hn (by rw[z];exact SE.mpr R)) e;rw[Oa,Array.getElem?_toList,g];rfl
 done:=fun s Q E st j=>by
  have g:c[c.size]? = none:=Array.getElem?_eq_none (Sg _);exact xV (slot:=V2 t c.size) L st.1 st.2 (fun S O M q=>xX y D C st.2 (by rw[xZ G _ (by lia),g];exact q)) fun n f=>j n s.toks fun b o hn e=>f b o (fun z=>hn (by rw[z];exact SE.mpr R)) e
 self:=fun _ _ _ _ st j=>MC st.1 j
theorem ZeP(G:A.handled=none)(I p T y:Nat)(H:p≠I)(D:T≠I)(f:Array (Int×Value))(t:OH)(ys:OF)(q:List.Perm ys (List.range f.size)) :
  Walks prog w A I [I,p,T] [I] f.size (fun i v=>(ys.map fun j=>(f.getD j (0,.none)).2)[i]? = some v) (fun i h=>Wh h I (.ref T) i p f.size y/\WW h p y f t/\QZ h T ys) where
 sub:=fun b c=>by rw[SE]at c;rw[c];exact SD
 frame:=fun _ _ _ st k=>⟨st.1.keep (k I (by simp)),st.2.1.keep (k p (by simp)),st.2.2.keep (k T (by simp))⟩
 item:=fun i s Q E J st n=>by
  have x:i<ys.length:=by have:=q.length_eq;rw[List.length_range]at this;lia
  have g:=Ss x;have B:ys[i]<f.size:=List.mem_range.mp (q.mem_iff.mp (Oi x));refine ZeJ st.1 st.2.1 st.2.2 g (Array.getElem?_eq_getElem B) fun u C c=>?_;refine n _ u s.toks ?_ ⟨C,st.2.1.keep fun o e=>c.extBut p o H e,st.2.2.keep fun o e=>c.extBut T o D e⟩ fun b o hn e=>c.extBut b o (fun z=>hn (by rw[z];exact SE.mpr R)) e;rw[Oa,g];simp[Array.getD,B]
 done:=fun s Q E st n=>by
  have g:ys[f.size]? = none:=List.getElem?_eq_none (by have:=q.length_eq;rw[List.length_range]at this;lia);exact ZeK G st.1 st.2.1 st.2.2 g fun u c=>n u s.toks fun b o hn e=>c b o (fun z=>hn (by rw[z];exact SE.mpr R)) e
 self:=fun _ _ _ _ st n=>MC st.1 n
theorem ZeQ{l:List (Int×Value)}(h:∀e∈l,∃t,e.2=.int (keyOf e) t):IntsAre (l.map (·.2)) (l.map keyOf):=by
 induction l with
 |nil=>exact .nil
 |cons e r c =>
  obtain⟨t,q⟩:=h e SD;rw[SM,SM,q];exact .cons _ t (c fun x f=>h x (SC _ f))
theorem ZeR{e:Type}(c:Array e)(d:e):(List.range c.size).map (fun j=>c.getD j d)=c.toList:=by
 refine List.ext_getElem (by simp) fun i h g=>?_;have f:i<c.size:=by simpa using g
 simp[Array.getD,f]
theorem ZeS{ks:OD}(M:A.handled=none)(u:Xf prog w s.heap p ks)(hk:ks.length<=1000)
  (h:∀(I:Addr) (fp:OG) (St:Nat->Heap->Prop) (h':Heap) (d:Drawn) (its:OA) (ns:OD),Walks prog w A I fp [I] its.length (fun i v=>its[i]? = some v) St->St 0 h' ->
   (∀b o,s.heap.get? b=some o->h'.get? b=some o)->(∀b∈fp,b=p\/s.heap.objs.size<=b)->s.heap.objs.size<=I->IntsAre its ns->ns.Nodup->(∀k,k∈ns↔k∈ks)->its.length<=ks.length->Q (.ref I) { s with heap:=h',drawn:=d }) :
  wpAny (model prog w) A (pyIter (.ref p)) Q E s:=by
 obtain⟨o,f,g,t,U,b0,hd,X,H,Y,hl,nd,mem,sz⟩:=u;have u:WW s.heap p g f t:=⟨o,U,b0,hd,H⟩;have O:p<s.heap.objs.size:=Se U;have hz:t.place.size=f.size:=by
  unfold SetTable.fits at H;rw[Bool.and_eq_true]at H;exact beq_iff_eq.mp H.1
 have L:∀(l:List (Int×Value)),List.Perm l f.toList->IntsAre (l.map (·.2)) (l.map keyOf)/\(l.map keyOf).Nodup/\(∀k,k∈l.map keyOf↔k∈ks)/\(l.map (·.2)).length=f.size:=fun l x =>
  ⟨ZeQ fun e Z=>xP X (x.mem_iff.mp Z),(x.map keyOf).nodup_iff.mpr nd,fun k=>((x.map keyOf).mem_iff).trans (mem k),by rw[Sv,x.length_eq,Array.length_toList]⟩
 have P:∀b∈[s.heap.objs.size,p],b=p\/s.heap.objs.size<=b:=fun b D=>by
  simp only[SF,List.not_mem_nil,or_false]at D;rcases D with rfl|rfl
  ·exact .inr (Sg _)
  ·exact .inl rfl
 refine ZeH u (fun c=>?_) (fun G d T=>?_) (Sh (Sh sz hk) (by lia))
 ·cases J:w.params.followText "set-order" with
  |true =>
   obtain⟨q,B,C,n⟩:=L _ (MB (w.params.setOrder p g) f);have W:=ZeN (prog:=prog) M s.heap.objs.size p g (Sf O) f t J;rw[<-n]at W;exact h _ _ _ _ s.drawn _ _ W ⟨⟨_,Sd _ R,R,by rw[n];rfl⟩,u.keep fun o e=>Sc _ e⟩ (fun b o e=>Sc _ e) P (Sg _) q B C (by lia)
  |false =>
   have y:t.plain=true\/f.size<=1:=by
    rcases c with c|c
    ·rw[J]at c;cases c
    ·exact c
   have hr:UE t.place:=by
    rcases y with y|y
    ·exact Y.ri y
    ·have a0:t.place.toList.length<=1:=by rw[Array.length_toList];lia
     show List.Pairwise _ _
     match t.place.toList,a0 with
     |[],_=>exact .nil
     |[a],_=>exact List.pairwise_singleton _ _
   obtain⟨q,B,C,n⟩:=L _ (.refl _);have W:=ZeO (prog:=prog) M s.heap.objs.size p g (Sf O) f t J y (hl J) hz hr;rw[<-n]at W;exact h _ _ _ _ s.drawn _ _ W ⟨⟨_,Sd _ R,R,by rw[n];rfl⟩,u.keep fun o e=>Sc _ e⟩ (fun b o e=>Sc _ e) P (Sg _) q B C (by lia)
 ·have x:List.Perm (G.map fun j=>f.getD j (0,.none)) f.toList:=by
   have:=T.map fun j=>f.getD j (0,Value.none);rw[ZeR]at this;exact this
  obtain⟨q,B,C,n⟩:=L _ x;have W:=ZeP (prog:=prog) (w:=w) (A:=A) M (s.heap.objs.size+1) p s.heap.objs.size g (Sf (Sn O)) (Sf (Sm _)) f t G T;rw[Oe]at q n;have S:(G.map fun j=>(f.getD j (0,.none)).2).length=f.size:=n;rw[<-S]at W;have gI:((s.heap.push { cls:=.type "tuple",data:=.seq (G.map fun i=>rawInt (i:Nat)).toArray }).push { cls:=.type "set_iterator",data:=.fields #[.ref s.heap.objs.size,.int 0 0,.ref p,.int f.size 0,.int g 0] }).get? (s.heap.objs.size+1)=some { cls:=.type "set_iterator",data:=.fields #[.ref s.heap.objs.size,.int 0 0,.ref p,.int f.size 0,.int g 0] }:=by
   have:=Sd (s.heap.push { cls:=.type "tuple",data:=.seq (G.map fun i=>rawInt (i:Nat)).toArray }) (o:={ cls:=.type "set_iterator",data:=.fields #[.ref s.heap.objs.size,.int 0 0,.ref p,.int f.size 0,.int g 0] }) R;rw[Heap.size_push]at this;exact this
  refine h _ _ _ _ d _ _ W ⟨⟨_,gI,R,by rw[S];rfl⟩,u.keep fun o e=>Sc _ (Sc _ e),⟨_,Sc _ (Sd _ R),R,_,R⟩⟩ (fun b o e=>Sc _ (Sc _ e)) (fun b D=>?_) (Nat.le_succ _) q B C (by lia)
  ·simp only[SF,List.not_mem_nil,or_false]at D
   rcases D with rfl|rfl|rfl
   ·exact .inr (Nat.le_succ _)
   ·exact .inl rfl
   ·exact .inr (Sg _)
open PySem PyProof.Rows
theorem ZeT(c:s.TypeIs (.ref r) "set") (h:Q false s):wpAny (model prog w) A (Builtin.List.listLengthHint (.ref r)) Q E s:=by
 unfold Builtin.List.listLengthHint;refine Sa (wpAny_specialOf c F.slot_set_len.lookup ?_);generalize e:("set.__len__" : String)=f
 wp_delta;rw[show splitId f=some ("set","__len__")from by subst e;lia]
 subst e;refine Sa (wpAny_isInstance (T := "set") (b:=true) c (by rw[isSubtype_type];kernel_rfl) ?_);refine wpAny_ite_split (fun z=>Oq z (by lia)) (fun _=>wpAny_ite_split (fun _=>?_) (fun z=>Oq (by lia) z));exact Sa (wpAny_typeOf c (Sb h))
def MD(ks:OD)(its:OA):Prop:=∃ns,IntsAre its ns/\ns.Nodup/\(∀k,k∈ns↔k∈ks)/\its.length<=ks.length
theorem Xf.ty(x:Xf prog w s.heap p ks):s.TypeIs (.ref p) "set" := let ⟨o,_,_,_,ho,hex,_⟩:=x;⟨o,ho,hex.1⟩
theorem Xf.lt{h:Heap}(x:Xf prog w h p ks):p<h.objs.size:=let ⟨_,_,_,_,ho,_⟩:=x;Se ho
theorem ZeU{its:OA}{c:Array Value}(h:ItemsOf (fun i v=>its[i]? = some v) c its.length):c.toList=its:=by
 refine List.ext_getElem? fun i=>?_;by_cases f:i<its.length
 ·have ha:i<c.size:=by rw[h.1];exact f
  have:=h.2 i c[i] (Array.getElem?_eq_getElem ha);rw[Array.getElem?_toList,Array.getElem?_eq_getElem ha,this]
 ·have e:c.toList.length=its.length:=by rw[Array.length_toList,h.1]
  rw[List.getElem?_eq_none (l:=its) (by lia),List.getElem?_eq_none (l:=c.toList) (by lia)]
theorem ZeV{R:Result->Shared->Prop}{ks:OD}(Z:A.handled=none)(y:Xf prog w s.heap p ks)(C:ks.length<=1000)(G:S≠p)
  (L:s.heap.get? S=some { cls:=.type "list",data:=.seq #[] J })
  (hR:∀B d tk v c,(∀b o,b≠S->s.heap.get? b=some o->B.get? b=some o)->B.get? S=some { cls:=.type "list",dict:=none,data:=.seq v c,slots:=#[] }->MD ks v.toList->R (.ok (.ret res)) { s with heap:=B,drawn:=d,toks:=tk }) :
  wpAny (model prog w) A.in1 (Builtin.List.listExtendWith (.ref S) (.ref p) res) (fun n g=>match n with|.done f=>R (.ok f) g|.again u=>u.quiet=true/\codeAny (model prog w) A u R g) (fun e g=>R (.error e) g) s:=by
 unfold Builtin.List.listExtendWith;refine Sa (wpAny_typeOf (T := "set") y.ty ?_);have U:Builtin.List.listSameRef (.ref S) (.ref p)=false:=by simp[Builtin.List.listSameRef,G]
 have X:(Value.type "set" == Value.type "list")=false:=by lia
 have e3:(Value.type "set" == Value.type "tuple")=false:=by lia
 simp only[U,X,e3,Bool.or_false,Bool.false_eq_true,if_false];refine Sa (ZeS (A:=A.in1) Z y C fun I fp St x d its ns W st keep Q M i1 i2 i3 D=>?_);have O:=Se L;have H:S∉fp:=fun z=>by
  rcases Q S z with e|e
  ·exact G e
  ·exact Oq O (Og.mpr e)
 have d0:I≠S:=fun z=>Oq O (Og.mpr (by rw[<-z];exact M));have g1:=keep _ _ L;have n:∀(h:Heap) (c:Nat) (tk:Nat),St 0 h->(∀b o,b≠S->s.heap.get? b=some o->h.get? b=some o)->h.get? S=some { cls:=.type "list",data:=.seq #[] c } ->
   codeAny (model prog w) A (.builtin "list.extend.loop" ⟨[.ref S,.ref I,res],[]⟩) R { s with heap:=h,drawn:=d,toks:=tk }:=fun h c tk a0 k b0=>by
  refine codeAny_extend_loopS W.toS (Sh (Sh D C) (by lia)) S H res its.length 0 _ #[] c rfl (Sk _) a0 b0 (ItemsOf.nil _) fun g v u hm g' c0=>?_;have e:=ZeU c0;have es:g = { s with heap:=g.heap,drawn:=d,toks:=g.toks }:=by
   obtain⟨a1,a2,a3,a4,a5⟩:=g;have Y:a2=s.gens:=hm.gens;have b2:a3=d:=hm.drawn;have b3:a5=s.os:=hm.os;subst Y b2 b3;rfl
  rw[es];refine hR g.heap d g.toks v u (fun b o j q=>hm.heap b o (fun z=>?_) (k b o j q)) g' (by rw[e];exact⟨ns,i1,i2,i3,D⟩);rcases SF.mp z with z|z
  ·exact j z
  ·exact Oq (Se q) (Og.mpr (by rw[SE.mp z];exact M))
 refine Sa (wpAny_holding (ZeT (s:={ s with heap:=x,drawn:=d }) (y.keep (keep p)).ty ?_));refine wpAny_ite_split (fun _=>?_) (fun _=>Sb ⟨plainId_quiet F.plain_extend_loop _,n _ J _ st (fun b o _ e=>keep b o e) g1⟩);refine Sa (wpAny_rule (Sa ?_));show wpAny _ _ (updateSeq S (fun i=>i.push .none) >>= fun _=>updateSeq S (fun i=>i.pop)) _ _ _;refine Sa (wpAny_updateSeq (s:={ s with heap:=x,drawn:=d }) g1 rfl ?_);have g2:=Heap.get?_update_self (Obj.mapSeq (fun i=>i.push Value.none)) g1 rfl;refine wpAny_updateSeq (s:={ s with heap:=x.update S (Obj.mapSeq (fun i=>i.push Value.none)),drawn:=d }) (hz:=by seq_fits) g2 rfl ?_;have g3:=Heap.get?_update_self (Obj.mapSeq (fun i=>i.pop)) g2 rfl;refine Sb ⟨plainId_quiet F.plain_extend_loop _,n _ _ _ (W.frame 0 _ _ st fun b j o e=>?_) (fun b o j e=>?_) g3⟩
 ·have P:b≠S:=fun z=>H (z ▸ j)
  exact(Heap.get?_update_other _ _ (Ne.symm P)).trans ((Heap.get?_update_other _ _ (Ne.symm P)).trans e)
 ·exact(Heap.get?_update_other _ _ (Ne.symm j)).trans ((Heap.get?_update_other _ _ (Ne.symm j)).trans (keep b o e))
theorem ZeW{R:List Value->Shared->Prop}{ks:OD}(G:A.handled=none)(n:Xf prog w s.heap p ks)(D:ks.length<=1000)
  (h:∀h' d tk its,(∀b o,s.heap.get? b=some o->h'.get? b=some o)->MD ks its->R its { s with heap:=h',drawn:=d,toks:=tk }):wpAny (model prog w) A (collect (.ref p)) R E s:=by
 have lt:=n.lt;unfold collect;refine Sa (wpAny_runValue (codeAny_builtin F.entry_proto_collect ?_));rw[Around.under_plainId F.plain_proto_collect _];show wpAny _ A.in1 (newList [] >>= fun u=>again (.builtin "list.__iadd__" ⟨[u,.ref p],[]⟩)) _ _ s;refine Sa (wpAny_newObj_type (Sb ⟨plainId_quiet F.plain_list_iadd _,codeAny_builtin F.entry_list_iadd ?_⟩));rw[Around.under_plainId F.plain_list_iadd _];have B:(s.heap.push { cls:=.type "list",data:=.seq ([]:OA).toArray }).get? s.heap.objs.size=some { cls:=.type "list",data:=.seq #[] }:=Sd _ rfl;have C:=ZeV (A:=A) (s:={ s with heap:=s.heap.push { cls:=.type "list",data:=.seq ([]:OA).toArray } }) (res:=.ref s.heap.objs.size)
  (R:=fun(q:Result) (j:Shared)=>∃(h':Heap) (d:Drawn) (tk:Nat) (i:Array Value) (c:Nat),q=.ok (.ret (.ref s.heap.objs.size))/\j = { s with heap:=h',drawn:=d,toks:=tk }/\(∀b o,s.heap.get? b=some o->h'.get? b=some o) /\
   h'.get? s.heap.objs.size=some { cls:=.type "list",dict:=none,data:=.seq i c,slots:=#[] }/\MD ks i.toList) G (n.keep fun o e=>Sc _ e) D (Nat.ne_of_gt lt) B
  (fun h' d tk i c k g m=>⟨h',d,tk,i,c,rfl,rfl,fun b o e=>k b o (Sf (Se e)) (Sc _ e),g,m⟩)
 show wpAny _ A.in1 (Builtin.List.listExtendWith (.ref s.heap.objs.size) (.ref p) (.ref s.heap.objs.size)) _ _ _;refine Op C (fun v j x=>?_) fun e j x=>?_
 ·cases v with
  |done f =>
   obtain⟨h',d,tk,i,c,e,rfl,k,g,m⟩:=x;cases e;exact Sa (m:=load s.heap.objs.size) (wpAny_load g (Sb (h h' d tk _ k m)))
  |again I =>
   refine⟨x.1,codeAny_mono x.2 fun q s2 y=>?_⟩;obtain⟨h',d,tk,i,c,rfl,rfl,k,g,m⟩:=y;exact Sa (m:=load s.heap.objs.size) (wpAny_load g (Sb (h h' d tk _ k m)))
 ·obtain⟨_,_,_,_,_,H,_⟩:=x
  cases H
theorem IntsAre.len{vs:OA}{ns:OD}(h:IntsAre vs ns):vs.length=ns.length:=by
 induction h with
 |nil=>rfl
 |cons n t _ c=>rw[Sy,Sy,c]
theorem ZeX{zs:OD}(h:zs.Pairwise (·<=·))(n:zs.Nodup):zs.Pairwise (· < ·) :=
 (List.Pairwise.and h n).imp fun⟨a,b⟩=>by lia
theorem ZeY{ks:OD}(v:A.handled=none)(y:Xf prog w s.heap p ks)(B:ks.length<64)
  (h:∀(D:Addr) (h':Heap) (d:Drawn) (tk:Nat) (out:Array Value) (e:Nat) (zs:OD),(∀b o,s.heap.get? b=some o->h'.get? b=some o)->s.heap.get? D=none->h'.get? D=some (seqObj "list" out e)->IntsAre out.toList zs->zs.Pairwise (· < ·) ->
   (∀k,k∈zs↔k∈ks)->zs.length<=ks.length->Q (.ref D) { s with heap:=h',drawn:=d,toks:=tk }):wpAny (model prog w) A (call (.builtin "sorted") [.ref p]) Q E s:=by
 refine Calls.call_function_entry kind_sorted plain_sorted entry_sorted (args_sorted1 _) ?_;unfold Builtin.«sorted»;refine Sa (m:=checkCount "sorted" 1 1 _) (Sb (Sa (ZeW (A:=A.in1) v y (by lia) fun f d tk its keep mt=>?_)));obtain⟨ns,n,H,x,I⟩:=mt;have C:its.length<=sizeLine:=Sh (Sh I (Nat.le_of_lt B)) (by lia);refine Sa (wpAny_newList ?_ C);have g:(f.push (seqObj "list" its.toArray 0)).get? f.objs.size=some (seqObj "list" its.toArray 0):=Sd _ R;have no:s.heap.get? f.objs.size=none:=by
  cases c:s.heap.get? f.objs.size with
  |none=>rfl
  |some o=>exact Oq (Se (keep _ _ c)) (Sl _)
 refine Sa (wpAny_holding (wpAny_call_entry (s:={ s with heap:=f.push (seqObj "list" its.toArray 0),drawn:=d,toks:=tk }) slot_list_sort ⟨_,g,R⟩ entry_list_sort (list_sort_tree g n (by lia) fun out j G i L=>⟨_,R,?_⟩) (args_list_sort _)));obtain⟨e,M⟩:=sortedHeap_at (out:=out) g;have J:j.Nodup:=i.nodup_iff.mpr H;refine Sb ⟨_,R,h f.objs.size _ d tk out e j (fun b o q=>?_) no M G (ZeX L J) (fun k=>(i.mem_iff).trans (x k)) (by have:=i.length_eq;have:=IntsAre.len n;lia)⟩;have u:=Se (keep b o q);exact(sortedHeap_old (Sf u) (by rw[Heap.size_push];exact Sn u)).trans (Sc _ (keep b o q))
def V3(w:World):Obj:={ cls:=.type "set",dict:=none,data:=.set #[] 0 (.fresh 0 0 (!w.params.followText "set-order")) }
theorem ZeZ{h:Heap}(g:h.get? a=some (V3 w)):Xf prog w h a [] :=
 ⟨_,#[],0,_,g,⟨R,R,R⟩,R,(fun e c=>by cases c),rfl,⟨rfl,fun _=>List.Pairwise.nil⟩,(fun z=>by show(!w.params.followText "set-order")=true;rw[z];rfl),List.Pairwise.nil,(fun k=>by simp),Sk _⟩
theorem Ze0(x:Value)(h:Q (.ref s.heap.objs.size) { s with heap:=s.heap.push (V3 w) }) :
  codeAny (model prog w) A (.call (.builtin "set.__new__") ⟨[.type "set",x],[]⟩) (wants Q E) s:=by
 refine codeAny_of_tree (show wpAny _ A.in1 (do checkBuiltinCall "set.__new__" ⟨[.type "set",x],[]⟩;again (.builtin "set.__new__" ⟨[.type "set",x],[]⟩)) _ _ s from ?_);refine Sa (wpAny_of_eq (PySem.F.newCall_set_1 x) (Sb ⟨plainId_quiet PySem.F.plain_set_new _,codeAny_builtin PySem.F.entry_set_new ?_⟩));rw[Around.under_plainId PySem.F.plain_set_new _];unfold Builtin.«set.__new__» Builtin.Frozenset.newClass;have c:=sub_set_self;obtain⟨e,g,d,tk,os⟩:=s;dsimp only;wp_walk;refine wpAny_askSetting (Sb ?_);dsimp only;simp only[newObj];exact Sa (wpAny_alloc (Sb (Sb h)))
theorem Ze1{items:Array Value}{ns:OD}(I:A.handled=none)(hl:s.heap.IsList l items)(hi:IntsAre items.toList ns)(hb:items.size+1<scanBound)
  (h:∀(h':Heap) (tk:Nat),Xf prog w h' s.heap.objs.size ((List.range items.size).map fun i=>ns.getD i 0)->(∀b o,s.heap.get? b=some o->h'.get? b=some o)->Q (.ref s.heap.objs.size) { s with heap:=h',toks:=tk }) :
  wpAny (model prog w) A (call (.type "set") [.ref l]) Q E s:=by
 obtain⟨c0,tl,mr⟩:=PySem.F.called_set.mro;have md:=PySem.F.called_set.made;have sb:=PySem.F.called_set.sub;refine wpAny_call (codeAny_of_tree (show wpAny _ _ (callAny (.type "set") _) _ _ _ from Sb ⟨Code.quiet_builtin _ (by lia),codeAny_builtin PySem.F.entry_type_call ?_⟩));rw[Around.under_plain (weight_type_call_type "set" [.ref l] []) rfl];have k1:=PySem.F.called_set.notType;have k2:=PySem.F.called_set.canCreate;have k3:=PySem.F.typeCall_set_1 (.ref l)
 repeat (any_goals (first|assumption|wp_step))
 refine codeAny_mono (Ze0 (.ref l) (E:=E) (Q:=fun ob j=>ob=.ref s.heap.objs.size/\j = { s with heap:=s.heap.push (V3 w) }) ⟨rfl,rfl⟩) fun r j f=>?_;cases r with
 |error e=>exact f
 |ok fl =>
  cases fl with
  |ret ob =>
   obtain⟨rfl,rfl⟩:=f;have n:(s.heap.push (V3 w)).get? s.heap.objs.size=some (V3 w):=Sd _ rfl;have L:Shared.TypeIs { s with heap:=s.heap.push (V3 w) } (.ref s.heap.objs.size) "set" := ⟨_,n,rfl⟩;have u1:=PySem.F.called_set.init.lookup;have u2:=PySem.F.called_set.init.bind (.ref s.heap.objs.size)
   repeat (any_goals (first|assumption|wp_step))
   refine codeAny_mono (codeAny_call_builtin (R:=wants (fun r s2=>r=.none/\∃h' tk,s2 = { s with heap:=h',toks:=tk }/\Xf prog w h' s.heap.objs.size ((List.range items.size).map fun i=>ns.getD i 0)/\(∀b o,s.heap.get? b=some o->h'.get? b=some o)) E)
    PySem.F.called_set.init.plain PySem.F.entry_set_init (check_set_init_1 L ?_)) fun r2 s2 g=>?_
   ·obtain⟨U,q,x,D,C⟩:=id hl
    obtain⟨oc,S,d0,os⟩:=U;simp only at x C;subst x;subst C;have P:(s.heap.push (V3 w)).get? l=some { cls:=.type "list",dict:=S,data:=.seq items D,slots:=os }:=Sc _ q;have v2:=PySem.F.sub_list_set;have v3:=PySem.F.sub_list_frozenset;have v4:(Value.type "list" == Value.type "dict")=false:=by lia
    have u:(s.heap.push (V3 w)).IsList l items:=⟨_,P,rfl,D,rfl⟩;have fd:(V3 w).data=.set #[] 0 (.fresh 0 0 (!w.params.followText "set-order")):=rfl;unfold Builtin.«set.__init__» noKeywords Builtin.Frozenset.updateFrom;generalize b0:pyIter=PI
    wp_walk
    subst b0;refine wpAny_pyIter_list u (Sa (wpAny_runValue ?_));have B:l<s.heap.objs.size:=Se q;have H:A.in1.in1.in1.handled=none:=by simp[I]
    have J:l≠(s.heap.push (V3 w)).objs.size:=by rw[Heap.size_push];exact Sf (Sn B)
    have G:s.heap.objs.size∉[(s.heap.push (V3 w)).objs.size,l]:=by
     rw[Heap.size_push];intro z;simp only[SF,List.not_mem_nil,or_false]at z;rcases z with z|z
     ·exact Oq z (Sf (Sm _))
     ·exact Oq z (Nat.ne_of_gt B)
    refine ZeE ((Walks.list H _ l J items).toS) s.heap.objs.size G (fun i=>ns.getD i 0) (fun i v hv=>IntsAre.int_at hi i v (by rw[Array.getElem?_toList];exact hv)) hb (items.size - 0) 0 _ (by lia) (Sk _)
     ⟨⟨_,Sd _ rfl,rfl,rfl⟩,(u.push _)⟩ (ZeZ (Sc _ n)) fun s' hm c=>?_
    obtain⟨h',g',Y,a0,X⟩:=s';have M:g'=s.gens:=hm.gens;have ed:Y=s.drawn:=hm.drawn;have Z:X=s.os:=hm.os;subst M ed Z;refine Sb (Sb ⟨rfl,h',a0,rfl,c,fun b o e=>?_⟩);have y:=Se e;refine hm.heap b o (fun z=>?_) (Sc _ (Sc _ e));simp only[SF,List.not_mem_nil,or_false]at z;rcases z with z|z
    ·exact Oq z (Sf y)
    ·rw[Heap.size_push]at z
     exact Oq z (Sf (Sn y))
   ·cases r2 with
    |error e=>exact g
    |ok O =>
     cases O with
     |ret r =>
      obtain⟨rfl,h',tk,rfl,c,T⟩:=g
      repeat (any_goals (first|assumption|wp_step))
      exact h _ _ c T
     |_=>exact g.elim
  |_=>exact f.elim
theorem Za.drawnTo(I:Za X pins c H s)(d:Drawn):Za X pins c H { s with drawn:=d }:=⟨I.ok,I.os,I.bare,I.base,I.loc,I.cell,I.free,I.freeC,I.pin,I.hok,I.len⟩
def F0(P:Program)(w:World)(a:Addr)(ks:OD):HO:=.ext fun h=>Xf P w h a ks
theorem Ze2(x:Xf P w h a ks):Yf P w H h a (F0 P w a ks) :=
 ⟨x,let ⟨o,_,_,_,ho,_⟩:=id x;⟨o,ho⟩,fun c e y k=>Xf.keep (h:=c) y k⟩
theorem wA:∀{ns:OD} {us:OA},Zx (ns.map V.int) us->IntsAre us ns
 |[],_,.nil=>.nil
 |n::r,_,.cons (b:=u) h t=>by
  obtain⟨tk,rfl⟩:=h;exact .cons n tk (wA t)
theorem wB:∀{ns:OD} {us:OA},IntsAre us ns->Zx (ns.map V.int) us
 |_,_,.nil=>.nil
 |_,_,.cons n t h=>.cons ⟨t,R⟩ (wB h)
theorem wC(j:X.calm=true):YV X (.type "set") (fun xs H Q=>∃(p:Addr) (ns:OD),xs=[.ref p]/\Zf X.K H p (ns.map V.int)/\ns.length<=1000/\∀l,H l=none->Q (.ref l) (upd H l (F0 X.prog X.w l ns))):=by
 intro pins s E H xs L Q I r h;obtain⟨p,ns,rfl,B,G,q⟩:=h;obtain⟨u,rfl,n⟩:=X1 r;cases n;obtain⟨its,y,x,D⟩:=I.list B;have g:IntsAre its ns:=wA y;have c:its.length=ns.length:=IntsAre.len g;refine Ze1 (I.ok.hd j) x.isList (by simpa using g) (by rw[SN,c];show _<4096;lia) fun J tk f keep=>?_;have e:(List.range its.toArray.size).map (fun i=>ns.getD i 0)=ns:=by
  rw[SN,c];refine List.ext_getElem (by simp) fun i C v=>?_;simp[List.getD_eq_getElem?_getD,v]
 rw[e]at f;exact⟨.ref _,_,I.laid (t':=tk) keep (Sg _) (Ze2 f),R,q _ (I.hok.fresh (Sg _))⟩
theorem wD(i:X.calm=true):YV X (.builtin "sorted") (fun xs H Q=>∃(p:Addr) (ks:OD),xs=[.ref p]/\H p=some (F0 X.prog X.w p ks)/\ks.length<64 /\
  ∀(l:Addr) (zs:OD),H l=none->zs.Pairwise (· < ·)->(∀k,k∈zs↔k∈ks)->zs.length<=ks.length->Q (.ref l) (upd H l (.lst (zs.map V.int)))):=by
 intro pins s G H xs J Q I r h;obtain⟨p,ks,rfl,C,f,q⟩:=h;obtain⟨u,rfl,v⟩:=X1 r;cases v;have j:Xf X.prog X.w s.heap p ks:=(I.hok p _ C).1;refine ZeY (I.ok.hd i) j f fun D B d tk E e zs keep no g x y mem c=>?_;have n:(zs.map V.int).length<=sizeLine:=by
  rw[Sv];exact Sh (Sh c (Nat.le_of_lt f)) (by lia)
 have new:Yf X.prog X.w (upd H D (.lst (zs.map V.int))) B D (.lst (zs.map V.int)):=⟨n,E.toList,e,wB x,by rw[Array.toArray_toList];exact g⟩;exact⟨.ref D,_,(I.laidN (t':=tk) keep no new).drawnTo d,R,q D zs (I.hasNo no) y mem c⟩
theorem wE{H:Str}{pos' e1:Pos}{iter : Expr}{cl:Ox}
  (i1:X.N.Nodup) (m2:X.N[i0]? = some H) (e2:Qm X.env.scope H) (hc:X.calm=true) (hi:PI X S iter wi) (d2:closureFor scope X.env=pure cl) (l2:∀y∈scope.names,y.2≠.cell) (q0:scope.kind=.function)
  (q2:∀y∈scope.names,y.2=.local->scope.names.lookup y.1=some .local) (p2:Vg X scope cl N fr) (h0:VZ X cl)
  (j1:((relabel scope X.env).names.all fun p=>!(p.2 == .cell || p.2 == .free) || (cl.lookup p.1).isSome)=true)
  (hg:∀C s0 H0 ex pins,PG (Xa X N scope cl C s0 H0 ex pins) S g) (ht:∀C s0 H0 ex pins,Ka (Xa X N scope cl C s0 H0 ex pins) e0 tt) (he:∀C s0 H0 ex pins,PE (Xa X N scope cl C s0 H0 ex pins) b0 te)
  (c2:swapsWith (.ListComp b0 [⟨S,iter,e0,0⟩] scope pos) (some (.Name H pos')) e1.line X.env=pure true:=by rfl) (t1:X.fn H=true\/X.env.scope.names.lookup H=some .local:=by first|exact .inl rfl|exact .inr rfl)
  (hs:∀v,foldedSetIterable iter X.env v=pure v:=by intro _;rfl):PS X (.Assign [.Name H pos'] (.ListComp b0 [⟨S,iter,e0,0⟩] scope pos) e1) (JS (xC fr wi g tt te) (Xw i0)):=by
 intro pins s σ o1 D0 q1 l1;rw[exec_Assign_Name_used _ _ _ _ c2];refine Sa (wpAny_standAt (Sa ?_));show wpAny _ _ (do let _ <-comprehension (.ListComp b0 [⟨S,iter,e0,0⟩] scope pos) scope X.env _ (newList []) false (eval iter X.env) (some (assign (.Name H pos') X.env))) _ _ s;refine Sa (Zq (wpAny_comprehension_free (use:=some (assign (.Name H pos') X.env)) (Q:=fun _ s'=>SP X pins D0 .next s') R hs d2 q0 q2 (Zq (hi pins s σ o1 _ q1 l1) fun xv s1 h1=>Zq h1 fun x2 s2 h2=>?_)) fun _ s' hq=>Sb (Sb hq));obtain⟨it,fp,tn,w2,G,e,E,T,p0,f2,W,⟨m0,w0⟩,turn⟩:=h2;subst e;refine wpAny_newObj_type (wpAny_newFunctionEnv l2 (fun y hy=>nomatch hy) (fun h4 g0 d0=>?_) q0);dsimp only at g0 d0 ⊢;generalize j:s2.heap.objs.size=D at *;generalize hG:s2.heap.push { cls:=.type "list",dict:=none,data:=.seq ([]:OA).toArray } = f1 at g0 d0 ⊢;have hC:f1.objs.size=D+1:=by rw[<-hG,Heap.size_push,j]
 generalize u2:f1.objs.size=C at g0 d0 hC ⊢;subst hC;have r0:∀b o,s2.heap.get? b=some o->h4.get? b=some o:=fun b o e=>by
  have lt:=Se e;rw[j]at lt;exact d0.extBut b o (Sf (Sn lt)) (Sc _ (hG ▸ Sc _ e))
 have n1:h4.get? D=some { cls:=.type "list",dict:=none,data:=.seq ([]:OA).toArray 0 } :=
  d0.extBut _ _ (Sf (Sm _)) (Sc _ (hG ▸ j ▸ Sd _ R))
 have flt:∀b∈fp,b<D:=fun b f=>by
  obtain⟨o,e,_⟩:=T.obj 0 _ p0 b f;have lt:=Se e;rw[j]at lt;exact lt
 have i2:∀b,b≠X.env.locals->b∉X.fs->b∉Yl X.stack:=fun b h1 h2 z=>(SF.mp (E.stkSub b z)).elim h1 h2;have pl:∀p∈X.pn++pins,p.1<D:=fun p h=>by
  have lt:=Se (E.pin p h).1;rw[j]at lt;exact lt
 have I4:∀tk,Za (Xa X N scope cl (D+1) s2 G fp pins) [] (Qs fr σ) G { s2 with heap:=h4,toks:=tk }:=fun tk =>
  E.block q0 p2 h0 j1 f2 (fun b f=>by rw[j];exact flt b f) r0 (by rw[j];exact Nat.le_succ _) g0
 have j0:∀{u:Hp} {o:Obj},(∀b∈fp,u b=none)->∀b∈fp,YX (Xa X N scope cl (D+1) s2 G fp pins) [(D,o)] u b:=fun{u o} hn b f=>by
  obtain⟨_,M,Z,_,J,k5⟩:=f2 b f;refine⟨hn b f,Sf (Sn (flt b f)),i2 b M Z,.inl f,fun x c e=>J x c (h0.at e),fun p h=>?_⟩;rcases SG.mp h with h|h
  ·exact k5 p h
  ·rw[SE.mp h]
   exact(Sf (flt b f)).symm
 have j2:D∉Yl X.stack:=fun z=>by
  obtain⟨_,o,e,_⟩:=E.stack.mem z;have lt:=Se e;rw[j]at lt;exact Oq lt (Sl _)
 have loop:∀tk,codeAny (model X.prog X.w) X.A (.compLoop (.ListComp b0 [⟨S,iter,e0,0⟩] scope pos) 0 (.ref it) (.ref D) (compEnvC scope cl (D+1) X.env)) (compPost (model X.prog X.w) X.A X.xe (some (assign (.Name H pos') X.env)) (fun _ s'=>SP X pins D0 .next s') (.ref D) (D+1)) { s2 with heap:=h4,toks:=tk }:=fun tk=>by
  refine xB (fun k s'=>∃i a0 u its B I,Za (Xa X N scope cl (D+1) s2 G fp pins) [] a0 u s' /\
    s'.heap.get? D=some { cls:=.type "list",dict:=none,data:=.seq (List.toArray its) B }/\u D=none/\Zx I its/\I.length<=sizeLine/\tn i s'.heap/\(∀b∈fp,u b=none)/\W i k I a0 u) ?_ m0
   ⟨0,_,G,[],0,[],I4 tk,n1,E.hok.fresh (by rw[j];exact Sg _),.nil,Sk _,T.keep 0 _ _ p0 fun b _ o e=>r0 b o e,fun b f=>(f2 b f).1,w0⟩
  rintro k s5 ⟨i,o0,U,its,B,I,I5,hL,l0,va,d1,y0,b1,w5⟩;have o2:∀x c,cl.lookup x=some c->c≠D:=fun x c e z=>by
   obtain⟨v,q⟩:=E.cell x c (h0.at e);have lt:=q.lt;rw[j,z]at lt;exact Oq lt (Sl _)
  have c1:Za (Xa X N scope cl (D+1) s2 G fp pins) [(D,{ cls:=.type "list",dict:=none,data:=.seq (List.toArray its) B })] o0 U s5:=I5.pins_of fun p h=>by
   rw[SE.mp h];exact⟨hL,l0,Sf (Sm _),j2,fun v z=>by cases z⟩
  rcases turn i k I o0 U w5 with⟨stop,qn⟩|⟨go,v2,N1,v0,step⟩
  ·refine X6 (T.done (Xa X N scope cl (D+1) s2 G fp pins) R R R hc i _ s5 _ U _ c1 (j0 b1) y0 stop) fun r s6 ⟨hr,L⟩=>?_
   subst hr;obtain⟨m6,n2,_⟩:=L.loc;have a1:=(L.pin (D,{ cls:=.type "list",dict:=none,data:=.seq (List.toArray its) B }) (SH _ (SE.mpr R))).1;have I8:Za X pins σ U s6:=E.call' (s':=s6) L.os L.base L.hok L.bare fun b f=>let ⟨_,M,_,O,J,k5⟩:=f2 b f;⟨O,M,J,k5⟩;have I9:Za X pins σ (upd U D (.lst I)) s6:=I8.trackS l0 a1 R (by
     cases z:X.s₀.heap.get? D with
     |none=>rfl
     |some o =>
      have lt:=Si (Se z) E.sz;rw[j]at lt;exact Oq lt (Sl _)) (fun p h=>Sf (pl p h)) ⟨d1,its,B,va,a1⟩
   have t0:X.env.locals<D+1:=by
    have:=E.lt;rw[j]at this;exact Sn this
   have u0:∀x c,X.env.cells.lookup x=some c->c<D+1:=fun x c e=>by
    obtain⟨v,q⟩:=E.cell x c e;have lt:=q.lt;rw[j]at lt;exact Sn lt
   refine wpAny_assign_Name (T1 (v:=.ref D) I9 i1 m2 e2 R (fun P f0 hz=>?_) t1);obtain⟨aa,sb,ha⟩:=hz;have nC:D+1≠aa:=by
    rcases ha with rfl|ha
    ·exact Nat.ne_of_gt t0
    ·exact Nat.ne_of_gt (u0 _ _ ha)
   refine⟨m6,n2.sameBut sb nC,fun h8 w1=>⟨_,_,f0.turned (h':=h8) (t':=P.toks) (fun b o f e=>w1.extBut b o f e) ?_ (Nat.ne_of_gt t0) (.inr ?_) (fun x c e=>Sf (u0 x c e)) (fun p h=>Sf (Sn (pl p h))),qn D l0⟩⟩
   ·rw[Zd (Nat.ne_of_gt (Sm D))]
    exact L.free
   ·have:=E.sz
    rw[j]at this;exact Nat.le_succ_of_le this
  ·refine X6 (T.item (Xa X N scope cl (D+1) s2 G fp pins) R R R hc i _ s5 _ U _ c1 (j0 b1) y0 go) fun r s6 ⟨a2,hr,h6⟩=>?_
   subst hr;refine X6 h6 fun _ P ⟨x,H7,I7,r7,y7,n0,x1⟩=>?_;have b2:Za (Xa X N scope cl (D+1) s2 G fp pins) ([(D,{ cls:=.type "list",dict:=none,data:=.seq (List.toArray its) B })]++Uh fp P.heap) o0 H7 P:=I7.pinned (j0 x1) (T.obj _ _ n0);refine X6 (hg _ _ _ _ _ _ P _ H7 x a2 _ b2 r7 (step x H7 y7)) fun _ s8 ⟨c0,H8,I8,q8⟩=>?_;refine X6 (ht _ _ _ _ _ _ s8 c0 H8 _ I8 q8) fun ok s9 ⟨H9,I9,q9⟩=>?_;have wk:∀{a0:St} {u:Hp} {s':Shared},Za (Xa X N scope cl (D+1) s2 G fp pins) ([(D,{ cls:=.type "list",dict:=none,data:=.seq (List.toArray its) B })]++Uh fp P.heap) a0 u s' ->
     tn (i+1) s'.heap/\(∀b∈fp,u b=none)/\s'.heap.get? D=some { cls:=.type "list",dict:=none,data:=.seq (List.toArray its) B }/\u D=none:=fun{a0 u s'} J'=>by
    have pin:∀p∈([(D,{ cls:=.type "list",dict:=none,data:=.seq (List.toArray its) B })]:Ou)++Uh fp P.heap,s'.heap.get? p.1=some p.2/\u p.1=none:=fun p h=>let ⟨e,n,_⟩:=J'.pin p (SH _ h);⟨e,n⟩;refine⟨T.keep _ _ _ n0 fun b f o e=>(pin (b,o) (SH _ (QQ f e))).1,fun b f=>?_,(pin (D,_) (SI _ (SE.mpr R))).1,(pin (D,_) (SI _ (SE.mpr R))).2⟩;obtain⟨o,e,_⟩:=T.obj _ _ n0 b f;exact(pin (b,o) (SH _ (QQ f e))).2
   cases ok with
   |false =>
    obtain⟨m',hm,w9⟩:=v0 _ _ _ q9;obtain⟨M,Z,O,J⟩:=wk I9;exact⟨m',hm,i+1,c0,H9,its,B,I,I9.pins_of (fun _ z=>nomatch z),O,J,va,d1,M,Z,w9⟩
   |true =>
    refine X6 (he _ _ _ _ _ _ s9 c0 H9 _ I9 q9) fun y Y ⟨v,z0,f0,m1,u1⟩=>?_;obtain⟨m',hm,r2⟩:=v0 _ _ _ u1;obtain⟨M,Z,O,J⟩:=wk f0;refine call_meets F.slot_list_append ⟨_,O,R⟩ F.entry_list_append (F.args_list_append_2 _ _) (PySem.list_append D its.toArray B y (by rw[SN,<-va.length];lia)) ⟨O,?_⟩;have up:∀b o,b≠D->Y.heap.get? b=some o->(Y.heap.update D (Obj.mapSeq fun z=>z.push y)).get? b=some o:=fun b o f e=>(Heap.get?_update_other Y.heap _ (Ne.symm f)).trans e;have v1:Za (Xa X N scope cl (D+1) s2 G fp pins) [] c0 z0 { Y with heap:=Y.heap.update D (Obj.mapSeq fun z=>z.push y),toks:=Y.toks } :=
     (f0.pins_of (pins':=[]) fun _ z=>nomatch z).turned up J (Sf (Sm _)) (.inr (by rw[j];exact Sg _)) o2 fun p h=>by
      have y1:p∈X.pn++pins:=by simpa using h
      exact Sf (pl p y1)
    have q:=PySem.IsL.update O (fun z=>z.push y);rw[show(List.toArray its).push y=(its++[y]).toArray by simp]at q;refine⟨m',hm,i+1,c0,z0,its++[y],_,I++[v],v1,q,J,va.append (.cons m1 .nil),?_,T.keep _ _ _ M fun b f o e=>up b o (Sf (flt b f)) e,Z,r2⟩;rw[Su,Sw];lia
 exact codeAny_compStart_list (loop _) (T.self _ 0 _ _ _ (T.keep 0 _ _ p0 fun b _ o e=>r0 b o e) (loop _))
end L2
namespace K1
open PySem L2
structure ME(l:OF)(lo hi:Nat):Prop where
 one:1<=l.length
 few:l.length<=12
 up:l.Pairwise (· < ·)
 all:∀x∈l,lo<=x/\x<=hi
def RT.good:RT->Prop
 |.always=>True
 |.week b=>b<=127
 |.span a b r=>a<=b/\b<=9999/\r.good
 |.each n c=>1<=n/\n<=28/\ME c 0 (n - 1)
 |.either r s|.both r s=>r.good/\s.good
 |.but ds r=>ME ds 0 9999/\r.good
structure Ww(K:Ow)(C:Addr):Prop where
 ha:W.findIn K (.ref C) "__class__" = some (some (.builtin "object.__class__"))
 hn:W.specialIn K (.builtin "object.__class__") "__get__" = some (some (.builtin "getset_descriptor.__get__"))
 tk:W.takesIn K (.builtin "object.__class__")=some true
 hm:W.mroIn K C (.type "object")=some true
theorem Ww.ty(o:Ww K C)(c:Yz K C)(e:H a=some (.ins C f fs)):X2 K H (.ref a) (.ref C):=.ins e c o.ha o.hn o.tk o.hm
def YZ(c H:Hp):Hp:=fun a=>match H a with
 |none=>c a
 |some _=>none
theorem V4(n:H a=none)(e:c a=some o):YZ c H a=some o:=by
 unfold YZ;rw[n];exact e
theorem Q0(e:YZ c H a=some o):H a=none/\c a=some o:=by
 unfold YZ at e;cases h:H a with
 |none=>rw[h]at e;exact⟨R,e⟩
 |some u=>rw[h]at e;cases e
theorem V5(c H:Hp):Zc (YZ c H) c:=fun _ _ e=>(Q0 e).2
theorem F1(h:Zc c H)(i:∀a o,H a=none->f a=some o->g a=some o):Zc (YZ f H) (YZ g c):=fun a o e =>
 V4 (h.free (Q0 e).1) (i a o (Q0 e).1 (Q0 e).2)
theorem XI(n:c x=none)(s:Zc c H)(o:HO):Zc c (upd H x o):=fun b u e=>by
 rw[Zd (ZI e n)];exact s _ _ e
theorem U5{b:Nat}{lo hi:Int}(h1:lo<=b)(c:(b:Int)<=hi):E6 (.int b) lo hi=true:=SQ ⟨h1,c⟩
inductive YN(tp:Addr)(H:Hp):V->RT->Prop
 |always {a:Addr} (h:H a=some (.tup [.str (OJ "always")])):YN tp H (.ref a) .always
 |week {a:Addr} {b:Nat} (h:H a=some (.tup [.str (OJ "week"),.int b])):YN tp H (.ref a) (.week b)
 |span {a:Addr} {x y:Nat} {v:V} {r:RT} (h:H a=some (.tup [.str (OJ "span"),.int x,.int y,v])) (hv:YN tp H v r):YN tp H (.ref a) (.span x y r)
 |each {a l:Addr} {n:Nat} {ss:OF} (h:H a=some (.tup [.str (OJ "each"),.int n,.ref l])) (hl:H l=some (.lst (Yx ss))) (ne:l≠tp):YN tp H (.ref a) (.each n ss)
 |either {a:Addr} {v u:V} {r s:RT} (h:H a=some (.tup [.str (OJ "either"),v,u])) (hv:YN tp H v r) (hu:YN tp H u s):YN tp H (.ref a) (.either r s)
 |both {a:Addr} {v u:V} {r s:RT} (h:H a=some (.tup [.str (OJ "both"),v,u])) (hv:YN tp H v r) (hu:YN tp H u s):YN tp H (.ref a) (.both r s)
 |but {a l:Addr} {ds:OF} {v:V} {r:RT} (h:H a=some (.tup [.str (OJ "but"),.ref l,v])) (hl:H l=some (.lst (Yx ds))) (ne:l≠tp) (hv:YN tp H v r):YN tp H (.ref a) (.but ds r)
theorem YN.same(s:Zc H i)(h:YN tp H v r):YN tp i v r:=by
 induction h with
 |always h=>exact .always (s _ _ h)
 |week h=>exact .week (s _ _ h)
 |span h _ f=>exact .span (s _ _ h) f
 |each h c ne=>exact .each (s _ _ h) (s _ _ c) ne
 |either h _ _ g e=>exact .either (s _ _ h) g e
 |both h _ _ g e=>exact .both (s _ _ h) g e
 |but h c ne _ f=>exact .but (s _ _ h) (s _ _ c) ne f
end K1
namespace L2
open PySem PySem.Spec PyProof.Rows
end L2
namespace K1
open PySem L2
end K1
namespace L2
open PySem PySem.Spec PyProof.Rows
theorem wF:∀{c:OB} {us:OA},Zx (c.map V.str) us->∃l:List (Str×Tok),us=strValues l/\l.map (·.1)=c
 |[],_,.nil=>⟨[],R,R⟩
 |t::r,_,.cons (b:=u) h q=>by
  obtain⟨tk,rfl⟩:=h;obtain⟨l,rfl,e⟩:=wF q;exact⟨(t,tk)::l,R,by rw[SM,e]⟩
theorem wG(n:Nat):∀(c:OB) (k:Nat),c.foldl (fun a x=>a+x.length+n) k=k+(c.map fun x=>x.length+n).sum
 |[],k=>by simp
 |t::r,k=>by
  rw[List.foldl_cons,wG n r,SM,List.sum_cons];lia
theorem wH(n:Nat):∀c:List Str,(c.map fun x=>x.length+n).sum=(c.map (·.length)).sum+c.length*n
 |[]=>by simp
 |y::r=>by
  have e:=wH n r;simp only[SM,List.sum_cons,Sy,Nat.succ_mul];lia
inductive Ze3(K:Ow)(x:V)(xs:List V)(H:Hp)(Q:VK):Prop|mk (z:Str) (p:Addr) (ts:OB) (_:x=.str z) (_:xs=[.ref p]) (_:Zf K H p (ts.map V.str)) (_:(ts.map fun x=>x.length+z.length).sum<=sizeLine) (_:Q (.str (Str.join z ts)) H)
theorem Ze4:Md X "str.join" (Ze3 X.K):=by
 intro pins s C H x T v U Q I B r h;obtain⟨z,p,f,rfl,rfl,M,S,q⟩:=h;obtain⟨t,rfl⟩:=B;obtain⟨u,rfl,e⟩:=X1 r;cases e;obtain⟨its,L,J,_⟩:=I.list M;obtain⟨l,rfl,c⟩:=wF L;have E:Builtin.Str.tooLong ((l.map (·.1)).toArray.foldl (· + ·.length+z.length) 0)=false:=by
  rw[c,List.foldl_toArray,wG];unfold Builtin.Str.tooLong;exact SR (by lia)
 refine call_meets F.slot_str_join (typeIs_str _ _ _) F.entry_str_join (F.args_str_join_2 _ _) (meets_str_join_list z t p l E) ⟨J.isList,?_⟩;have i:Builtin.Str.glued z (l.map (·.1))=Str.join z f:=by rw[c];exact StrLaws.glued_eq_join z f
 have n:(Str.join z f).length<=sizeLine:=by
  have O:=StrLaws.join_length_le z f;have Y:=wH z.length f;lia
 have many:∀(m:Made),m=.str (Builtin.Str.glued z (l.map (·.1)))->m.post (fun v G=>wants (EP X pins C Q) X.xe (.ok (.ret v)) G) s:=fun m e=>by
  subst e;refine⟨by rw[i];exact n,?_⟩;rw[i];exact⟨.str _,H,I.tok _,⟨_,R⟩,q⟩
 match l,c,many with
 |[],c,many=>exact many _ R
 |[y],c,many =>
  obtain⟨g,D⟩:=y;have j:Str.join z f=g:=by rw[<-c];rfl
  rw[j]at q;exact⟨.str g,H,I,⟨D,R⟩,q⟩
 |y::P::Z,c,many=>exact many _ R
end L2
namespace K1
open PySem L2
theorem Ze5{z:Str}{c:OB}{m:Nat}(hz:z.length<=1)(hm:c.length<=20)(h:∀x∈c,x.length<=10):(c.map fun x=>x.length+z.length).sum<=sizeLine:=by
 have e:∀l:List Str,(∀x∈l,x.length<=10)->(l.map fun x=>x.length+z.length).sum<=11*l.length:=by
  intro l
  induction l with
  |nil=>intro _;simp
  |cons y r f =>
   intro h;have i:=h y SD;have j:=f fun x g=>h x (SC _ g);simp only[SM,List.sum_cons,Sy];lia
 have:=e c h;exact Sh (show _<=1000 by lia) (by lia)
end K1
namespace L2
open PySem PySem.Spec PyProof.Rows
inductive Ze6(t u:TS)(D:Wr)(σ:St)(H:Hp):Prop|mk (J:St->Hp->Prop) (_:t { D with nx:=J } σ H) (_:∀σ' H',J σ' H'->u D σ' H')
theorem Vh{st:Stmt}{rest:List Stmt}{t u:TS}(h1:PS X st t)(i:XF X rest u):XF X (st::rest) (Ze6 t u):=by
 intro pins s c H D I h;obtain⟨J,h,n⟩:=h;refine wpAny_execs_cons (Zq (h1 pins s c H { D with nx:=J } I h) fun f e q=>?_);cases f with
 |next =>
  obtain⟨x,j,g,q⟩:=q;exact i pins e x j D g (n _ _ q)
 |ret v=>exact q
 |brk=>exact q
 |cont=>exact q
section
variable{σ:St}{h':Heap}
theorem Za.turnedL{t':Nat}{fp:OG}(I:Za X pins σ H s)(k:∀b o,b∉fp->s.heap.get? b=some o->h'.get? b=some o)(g:∀b∈fp,YX X pins H b):Za X pins σ H { s with heap:=h',toks:=t' }:=by
 have i:∀b u,H b=some u->b∉fp:=fun b u e z=>by rw[(g b z).1]at e;cases e
 refine I.step (g':=s.gens) (d':=s.drawn) (ch:=fp) (fun b h=>⟨(g b h).2.2.2.1,(g b h).2.1,(g b h).2.2.2.2.1,(g b h).2.2.2.2.2⟩) (fun b o _ _ f e _=>k b o f e) (fun b o _ _ f e _=>⟨o.slots,k b o f e⟩) (fun _ _ _ _ n=>n)
  (fun b o f e=>⟨o,k b o f e⟩) (fun _ _ e=>e) (fun _ _ _ e=>e) (fun b B e=>⟨#[],by rw[e];simp⟩) (fun m hm=>?_) (fun b u e=>?_) I.bare
 ·obtain⟨o,y,x,j,r⟩:=hm
  exact⟨o,y,x,k _ o (fun z=>(g _ z).2.1 R) j,r⟩
 ·refine(I.hok b u e).stay (fun c v f q=>k c v ?_ q) (fun _ q=>q) fun _ _ q=>q
  rcases f with z|z
  ·rw[z];exact i b u e
  ·exact i c _ z
theorem Za.paired{t':Nat}{fp:OG}{x y:V}{u v:Value}(I:Za X pins σ H s)(i:∀b∈fp,YX X pins H b)(n:∀b∈fp,∃o,s.heap.get? b=some o)
  (k:∀b o,b∉fp->s.heap.get? b=some o->h'.get? b=some o) (D:h'.get? s.heap.objs.size=some { cls:=.type "tuple",data:=.seq #[u,v] }) (j:ZD x u) (C:ZD y v) :
  Za X pins σ (upd H s.heap.objs.size (.tup [x,y])) { s with heap:=h',toks:=t' }/\∀b∈fp,upd H s.heap.objs.size (.tup [x,y]) b=none:=by
 have B:Za X pins σ (upd H s.heap.objs.size (.tup [x,y])) { s with heap:=s.heap.push { cls:=.type "tuple",data:=.seq #[u,v] },toks:=t' } :=
  I.laid (fun b ob q=>Sc _ q) (Sg _) ⟨show 2<=sizeLine by lia,[u,v],.cons j (.cons C .nil),IsTup.new _ _⟩
 have ne:∀b∈fp,b≠s.heap.objs.size:=fun b c e=>by
  obtain⟨o,q⟩:=n b c;exact Oq (Se q) (by rw[e];exact Sl _)
 have h:∀b∈fp,upd H s.heap.objs.size (.tup [x,y]) b=none:=fun b c=>by rw[Zd (ne b c)];exact(i b c).1
 refine⟨Za.turnedL (s:={ s with heap:=s.heap.push { cls:=.type "tuple",data:=.seq #[u,v] },toks:=t' }) (t':=t') (fp:=fp) B (fun b o c e=>?_) (fun b c=>⟨h b c,(i b c).2⟩),h⟩;have f:(s.heap.push { cls:=.type "tuple",data:=.seq #[u,v] }).get? b=some o:=e;by_cases g:b=s.heap.objs.size
 ·subst g
  rw[Sd _ R]at f;cases f;exact D
 ·rw[Heap.get?_push_ne _ _ _ g]at f
  exact k b o c f
end
def F2(K:Ow)(l:Addr):It :=
 ⟨fun i H=>∃c x,Zf K H l c/\c[i]? = some x,fun i H v e=>∃p x,H p=none/\(∀c,Zf K H l c->c[i]? = some x)/\v=.ref p/\e=upd H p (.tup [.int i,x]),fun i H=>∃c,Zf K H l c/\c.length<=i⟩
def F3(K:Ow)(l m:Addr):It :=
 ⟨fun i H=>∃e c x y,Zf K H l e/\Zf K H m c/\e[i]? = some x/\c[i]? = some y,fun i H v f=>∃p x y,H p=none/\(∀e,Zf K H l e->e[i]? = some x)/\(∀c,Zf K H m c->c[i]? = some y)/\v=.ref p/\f=upd H p (.tup [x,y]),
  fun i H=>∃e c,Zf K H l e/\Zf K H m c/\(e.length<=i\/c.length<=i)⟩
theorem Ze7{es:OC}{k:Nat}(l e c:Addr)(S:e≠c):Qn P w K (.Tuple es k pos) (F2 K l) [e,c] e (fun i h=>(∃j,IsEnum h e c i j)/\h.IsListIter c l i) where
 mem:=by simp
 obj:=fun i h st b g=>by
  obtain⟨⟨j,f⟩,o,D,B,hd⟩:=st;have O:b=e\/b=c:=by simpa using g
  rcases O with rfl|rfl
  ·exact⟨_,f,fun a0 z=>by cases z⟩
  ·exact⟨o,D,fun a0 z=>by rw[hd]at z;cases z⟩
 keep:=fun i h h' st U=>⟨let ⟨j,f⟩:=st.1;⟨j,U e (by simp) _ f⟩,st.2.at fun o q=>U c (by simp) o q⟩
 item:=by
  intro c0 E H J B i pins s σ g0 i0 I G st C;subst E H J;obtain⟨xs,x,v,L⟩:=C;obtain⟨its,M,p,hz⟩:=I.list v;obtain⟨u,hu,ru⟩:=M.get L;obtain⟨⟨j,f⟩,n⟩:=st;have d0:=n;refine wpAny_pyNext_enum_item f n p.isList (x:=u) (by simpa using hu) S fun Z D h0 hT l0 hk=>⟨_,R,?_⟩;refine wpAny_letOwnedTupleGo_enum (s:={ s with heap:=Z,toks:=s.toks+1 }) D fun T e0 Q=>?_;have b0:e<s.heap.objs.size:=Se f;have j0:c<s.heap.objs.size:=by obtain⟨_,q,_⟩:=n;exact Se q
  have Y:T.get? s.heap.objs.size=some { cls:=.type "tuple",data:=.seq #[.int i s.toks,u] }:=(Q.2 _ (Nat.ne_of_gt b0)).trans hT;obtain⟨I2,n2⟩:=I.paired (t':=s.toks+1) (fp:=[e,c]) (x:=.int i) (y:=x) (h':=T) G (fun b g=>by
   have O:b=e\/b=c:=by simpa using g
   rcases O with rfl|rfl
   ·exact⟨_,f⟩
   ·obtain⟨o,q,_⟩:=d0;exact⟨o,q⟩) (fun b o g q=>by
   have X:b≠e:=fun z=>g (by simp[z]);have f0:b≠c:=fun z=>g (by simp[z]);exact(Q.2 b X).trans (hk b o X f0 q)) Y ⟨s.toks,R⟩ ru
  refine⟨.ref s.heap.objs.size,_,I2,R,⟨_,x,I.hok.fresh (Sg _),fun ys hy=>by rw[I.list_inj hy v];exact L,R,R⟩,⟨⟨_,by simpa using e0⟩,h0.at fun o q=>(Q.2 c S.symm).trans q⟩,n2⟩
 done:=by
  intro c0 E H J B i pins s σ g0 i0 I G st C;subst E H J;obtain⟨xs,v,L⟩:=C;obtain⟨its,M,p,hz⟩:=I.list v;obtain⟨⟨j,f⟩,n⟩:=st;have hl:=M.length;exact wpAny_pyNext_enum_end (I.ok.hd B) f n p.isList (by simp;lia) fun h' eb=>⟨R,I.turnedL (t':=s.toks) (fp:=[e,c]) (fun b o g q=>eb b o (fun z=>g (by simp[z])) q) G⟩
 self:=fun _ _ _ _ _ st h=>by
  obtain⟨⟨j,f⟩,_⟩:=st;exact wpAny_pyIter_enum f h
theorem Ze8{es:OC}{k:Nat}(l m z TI TO e f:Addr)(D:ZipApart z TI TO e f l m):Qn P w K (.Tuple es k pos) (F3 K l m) [z,TI,TO,e,f] z (fun i h=>IsZip h z TI TO .none/\IsPair h TI (.ref e) (.ref f)/\(∃a b,IsPair h TO a b)/\h.IsListIter e l i/\h.IsListIter f m i) where
 mem:=by simp
 obj:=fun i h st b c=>by
  obtain⟨g,j,⟨a,o0,u⟩,⟨o1,g1,_,d1⟩,⟨o2,g2,_,d2⟩⟩:=st;have Y:b=z\/b=TI\/b=TO\/b=e\/b=f:=by simpa using c
  rcases Y with rfl|rfl|rfl|rfl|rfl
  ·exact⟨_,g,fun v z=>by cases z⟩
  ·exact⟨_,j,fun v z=>by cases z⟩
  ·exact⟨_,u,fun v z=>by cases z⟩
  ·exact⟨o1,g1,fun v z=>by rw[d1]at z;cases z⟩
  ·exact⟨o2,g2,fun v z=>by rw[d2]at z;cases z⟩
 keep:=fun i h h' st B=>⟨B z (by simp) _ st.1,B TI (by simp) _ st.2.1,let ⟨a,b,q⟩:=st.2.2.1;⟨a,b,B TO (by simp) _ q⟩,st.2.2.2.1.at fun o q=>B e (by simp) o q,st.2.2.2.2.at fun o q=>B f (by simp) o q⟩
 item:=by
  intro e0 O T U Z i pins s σ m0 n0 I S st M;subst O T U;obtain⟨xs,ys,x,y,H,E,n,G⟩:=M;obtain⟨i0,X,p1,c0⟩:=I.list H;obtain⟨g0,L,Q,f0⟩:=I.list E;obtain⟨a0,hu,ru⟩:=X.get n;obtain⟨v,hv,rv⟩:=L.get G;obtain⟨g,j,⟨a,b,u⟩,C,J⟩:=st;have l0:=C;have j0:=J;refine wpAny_pyNext_zip_item D g j u C J p1.isList Q.isList (x:=a0) (y:=v) (by simpa using hu) (by simpa using hv) fun g1 a1 a2 a3 a4 a5 a6 hk=>⟨_,R,?_⟩;refine wpAny_letOwnedTupleGo_zip (s:={ s with heap:=g1 }) a1 fun g2 b1 bs=>?_;have d0:z<s.heap.objs.size:=Se g;have b0:g2.get? s.heap.objs.size=some { cls:=.type "tuple",data:=.seq #[a0,v] }:=(bs.2 _ (Nat.ne_of_gt d0)).trans a5;obtain⟨I2,n2⟩:=I.paired (t':=s.toks) (fp:=[z,TI,TO,e,f]) (x:=x) (y:=y) (h':=g2) S (fun b c=>by
   have Y:b=z\/b=TI\/b=TO\/b=e\/b=f:=by simpa using c
   rcases Y with rfl|rfl|rfl|rfl|rfl
   ·exact⟨_,g⟩
   ·exact⟨_,j⟩
   ·exact⟨_,u⟩
   ·obtain⟨o,q,_⟩:=l0;exact⟨o,q⟩
   ·obtain⟨o,q,_⟩:=j0;exact⟨o,q⟩) (fun b o c q=>by
   have c1:b≠z:=fun w=>c (by simp[w]);have c2:b≠TO:=fun w=>c (by simp[w]);have c3:b≠e:=fun w=>c (by simp[w]);have c4:b≠f:=fun w=>c (by simp[w]);exact(bs.2 b c1).trans (hk b o c1 c2 c3 c4 q)) b0 ru rv
  exact⟨.ref s.heap.objs.size,_,I2,R,⟨_,x,y,I.hok.fresh (Sg _),fun zs G=>by rw[I.list_inj G H];exact n,fun zs h0=>by rw[I.list_inj h0 E];exact G,R,R⟩,
   ⟨b1,(bs.2 _ D.TIz).trans (hk _ _ D.TIz D.TITO D.TIi1 D.TIi2 j),⟨_,_,(bs.2 _ D.TOz).trans a2⟩,a3.at fun o q=>(bs.2 _ D.i1z).trans q,a4.at fun o q=>(bs.2 _ D.i2z).trans q⟩,n2⟩
 done:=by
  intro e0 O T U Z i pins s σ m0 n0 I S st M;subst O T U;obtain⟨xs,ys,H,E,n⟩:=M;obtain⟨i0,X,p1,c0⟩:=I.list H;obtain⟨g0,L,Q,f0⟩:=I.list E;have l1:=X.length;have l2:=L.length;obtain⟨g,j,⟨a,b,u⟩,C,J⟩:=st;exact wpAny_pyNext_zip_end (I.ok.hd Z) D g j u C J p1.isList Q.isList (by rcases n with n|n;exact .inl (by simp;lia);exact .inr (by simp;lia)) fun h' eb =>
   ⟨R,I.turnedL (t':=s.toks) (fp:=[z,TI,TO,e,f]) (fun b o c q=>eb b o (fun w=>c (by simp[w])) (fun w=>c (by simp[w])) (fun w=>c (by simp[w])) (fun w=>c (by simp[w])) q) S⟩
 self:=fun _ _ _ _ _ st h=>wpAny_pyIter_zip st.1 h
inductive Ze9(K:Ow)(R:It->Hp->Prop)(vs:List V)(H1:Hp):Prop|mk a (_:vs=[.ref a]) (_:(∃xs,Zf K H1 a xs)) (_:R (F2 K a) H1)
def Zfa(K:Ow)(f:TA):TI:=fun c H g=>f c H fun e h=>Ze9 K g e h
inductive Zfb(K:Ow)(R:It->Hp->Prop)(vs:List V)(H1:Hp):Prop|mk a b (_:vs=[.ref a,.ref b]) (_:(∃xs,Zf K H1 a xs)) (_:(∃ys,Zf K H1 b ys)) (_:R (F3 K a b) H1)
def Zfc(K:Ow)(f:TA):TI:=fun c H g=>f c H fun e h=>Zfb K g e h
theorem wI{v:OC}{k:Nat}{tp:Pos}{a:Expr}{i:TA}{p:Pos}(x:Gl X "enumerate") (hm:X.mg "enumerate" = none) (ha:PA X [a] i) (B:starEach [a] X.env=[(false,eval a X.env)]:=by rfl):PI X (.Tuple v k tp) (.Call (.Name "enumerate" p) [a] [] pos) (Zfa X.K i):=by
 intro pins s y H Q I h;refine Call_ (Uu I x hm boot_enumerate (PyProof.Rows.callWith_type1 (Zq (ha pos pins s y H _ I h) fun T c ⟨Z,D,f,r1,n⟩=>?_) B R));obtain⟨l,e,⟨S,M⟩,q⟩:=n;subst e;cases r1 with
 |cons r O =>
  cases O;cases r;obtain⟨its,U,G,P⟩:=f.list M;refine call_enumerate_list G.isList fun C g E Y u=>?_;refine wpAny_pyIter_enum (s:={ c with heap:=C }) g ?_;refine⟨c.heap.objs.size+1,[c.heap.objs.size+1,c.heap.objs.size],_,_,D,R,f.kept (t':=c.toks) u,Ze7 l _ _ (Nat.succ_ne_self _),⟨⟨_,g⟩,E⟩,fun b L=>?_,q⟩;have J:b=c.heap.objs.size+1\/b=c.heap.objs.size:=by simpa using L
  have j:c.heap.objs.size<=b:=by rcases J with rfl|rfl;exact Nat.le_succ _;exact Sg _
  exact f.fpOk j (f.hok.fresh j)
theorem Zfd{C:OC}{k:Nat}{tp:Pos}{a b:Expr}{n:TA}{p:Pos}(D:Gl X "zip") (hm:X.mg "zip" = none) (ha:PA X [a,b] n) (L:starEach [a,b] X.env=[(false,eval a X.env),(false,eval b X.env)]:=by rfl) (u:starEach [b] X.env=[(false,eval b X.env)]:=by rfl) :
  PI X (.Tuple C k tp) (.Call (.Name "zip" p) [a,b] [] pos) (Zfc X.K n):=by
 intro pins s G H R I h;refine Call_ (Uu I D hm boot_zip (PyProof.Rows.callWith_type1 (Zq (ha pos pins s G H _ I h) fun us c ⟨vs,Q,f,r1,y⟩=>?_) (by rw[L,u]) (by rw[u];rfl)));obtain⟨l,m,e,⟨xs,O⟩,⟨ys,E⟩,q⟩:=y;subst e;cases r1 with
 |cons r g =>
  cases g with
  |cons T g =>
   cases g;cases r;cases T;obtain⟨f0,d0,p1,b0⟩:=f.list O;obtain⟨e0,a0,j,c0⟩:=f.list E;have Z:l<c.heap.objs.size:=by obtain⟨o,e,_⟩:=p1.isList;exact Se e
   have U:m<c.heap.objs.size:=by obtain⟨o,e,_⟩:=j.isList;exact Se e
   refine call_zip_2 p1.isList j.isList fun P i J Y S M g0 B=>?_;refine wpAny_pyIter_zip (s:={ c with heap:=P }) i ?_;refine⟨c.heap.objs.size+4,[c.heap.objs.size+4,c.heap.objs.size+2,c.heap.objs.size+3,c.heap.objs.size,c.heap.objs.size+1],_,_,Q,rfl,f.kept (t':=c.toks) B,Ze8 l m _ _ _ _ _ (zipApart_new Z U),⟨i,J,⟨_,_,Y⟩,S,M⟩,fun b x=>?_,q⟩;have v:c.heap.objs.size<=b:=by
    simp only[SF,List.not_mem_nil,or_false]at x;rcases x with rfl|rfl|rfl|rfl|rfl
    ·exact On _ _
    ·exact On _ _
    ·exact On _ _
    ·exact Sg _
    ·exact On _ _
   exact f.fpOk v (f.hok.fresh v)
theorem wJ{a:Addr}{xs:List V}{g:TG}{tb:TS}{D:Wr}{c:St}(f:Nat->St->Hp->Prop)(G:f 0 c H)(L:∀i c H,i<=xs.length->f i c H->Zf K H a xs)
  (J:∀i x p c H,xs[i]? = some x->H p=none->f i c H->g (.ref p) c (upd H p (.tup [.int i,x])) fun j n=>tb { D with nx:=f (i+1),ct:=f (i+1),bk:=D.nx } j n) (hd:∀c H,f xs.length c H->D.nx c H) :
  ∃W:Nat->Nat->St->Hp->Prop,(∃m,W 0 m c H)/\∀i m c H,W i m c H ->
   ((F2 K a).stop i H/\D.nx c H)\/((F2 K a).go i H/\∃N:St->Hp->Prop,(∀u h,N u h->∃C,C<m/\W (i+1) C u h)/\∀x h,(F2 K a).yld i H x h->g x c h fun j n=>tb { D with nx:=N,ct:=N,bk:=D.nx } j n):=by
 refine⟨fun i m c H=>m=xs.length - i/\i<=xs.length/\f i c H,⟨xs.length,by simp,Sk _,G⟩,?_⟩;rintro i m c H ⟨rfl,I,p⟩;have q:=L i c H I p;by_cases B:i<xs.length
 ·refine .inr ⟨⟨xs,xs[i],q,by simp[B]⟩,f (i+1),fun u h E=>⟨xs.length - (i+1),by lia,R,B,E⟩,fun v h y=>?_⟩
  obtain⟨r,x,M,y,rfl,rfl⟩:=y;exact J i x r c _ (y xs q) M p
 ·have e:i=xs.length:=by lia
  subst e;exact .inl ⟨⟨xs,q,Sg _⟩,hd c H p⟩
section
variable{κ:Type}[DecidableEq κ]
def Zz(e:List (κ×V))(k:κ):Option V:=(e.find? fun c=>decide (c.1=k)).map (·.2)
def YB(e:List (κ×V))(k:κ)(v:V):List (κ×V) :=
 if (e.any fun c=>decide (c.1=k))=true then e.map (fun c=>if c.1=k then (c.1,v)else c)else e++[(k,v)]
def Vi(e:List (κ×V))(k:κ):List (κ×V):=e.filter fun c=>decide (c.1≠k)
theorem WX{p:κ×V}(e:p.1=k):Zz (p::r) k=some p.2:=by simp[Zz,List.find?_cons,e]
theorem WG{p:κ×V}(e:¬ p.1=k):Zz (p::r) k=Zz r k:=by simp[Zz,List.find?_cons,e]
theorem F4(k:κ):∀c:List (κ×V),(c.any fun f=>decide (f.1=k))=(Zz c k).isSome
 |[]=>rfl
 |p::r=>by
  rw[List.any_cons];by_cases e:p.1=k
  ·simp only[WX e,SQ e,Bool.true_or,Option.isSome_some]
  ·rw[WG e,SR e,Bool.false_or];exact F4 k r
theorem wK(k j:κ)(y:V):∀g:List (κ×V),Zz (g.map fun c=>if c.1=k then (c.1,y)else c) j=(Zz g j).map fun x=>if j=k then y else x
 |[]=>rfl
 |p::r=>by
  have f:=wK k j y r;rw[SM];by_cases h:p.1=k
  ·rw[SW h]
   by_cases e:p.1=j
   ·rw[WX (p:=(p.1,y)) e,WX e,Option.map_some,SW (e.symm.trans h)]
   ·rw[WG (p:=(p.1,y)) e,WG e,f]
  ·rw[SV h]
   by_cases e:p.1=j
   ·rw[WX (p:=p) e,WX e,Option.map_some,SV (fun z=>h (e.trans z))]
   ·rw[WG (p:=p) e,WG e,f]
theorem wL(k j:κ)(y:V):∀c:List (κ×V),Zz c k=none->Zz (c++[(k,y)]) j=if j=k then some y else Zz c j
 |[],_=>by
  by_cases e:k=j
  ·rw[SW e.symm];exact WX (p:=(k,y)) e
  ·rw[SV (fun z=>e z.symm)];exact WG (p:=(k,y)) e
 |p::r,hn=>by
  rw[List.cons_append];have f:¬ p.1=k:=fun z=>by rw[WX z]at hn;cases hn
  rw[WG f]at hn;have g:=wL k j y r hn;by_cases e:p.1=j
  ·rw[WX e,WX e,SV (fun z=>f (e.trans z))]
  ·rw[WG e,WG e,g]
theorem MF(c:List (κ×V))(k j:κ)(y:V):Zz (YB c k y) j=if j=k then some y else Zz c j:=by
 unfold YB;by_cases a:(c.any fun f=>decide (f.1=k))=true
 ·rw[SW a,wK]
  rw[F4]at a;by_cases e:j=k
  ·obtain⟨x,g⟩:=Option.isSome_iff_exists.mp a
   rw[SW e,e,g,Option.map_some,SW R]
  ·rw[SV e]
   cases Zz c j with
   |none=>rfl
   |some x=>rw[Option.map_some,SV e]
 ·rw[SV a]
  refine wL k j y c ?_;rw[F4]at a;cases q:Zz c k with
  |none=>rfl
  |some x=>rw[q]at a;exact(a R).elim
theorem Q2(c:List (κ×V))(k:κ)(v:V):(YB c k v).length<=c.length+1:=by
 unfold YB
 split
 ·rw[Sv];lia
 ·rw[Su,Sy,List.length_nil];lia
theorem UG{c:List (κ×V)}{k:κ}(v:V)(h:Zz c k=none):YB c k v=c++[(k,v)]:=by
 unfold YB;rw[F4,h];exact SV (by lia)
theorem XE.isSome_eq{o:Option V}{u:Option Value}(r:XE o u):o.isSome=u.isSome:=by
 cases o with
 |none=>cases u with
  |none=>rfl
  |some _=>exact(show False from r).elim
 |some _=>cases u with
  |none=>exact(show False from r).elim
  |some _=>rfl
theorem XE.getD{o:Option V}{u:Option Value}(r:XE o u)(c:ZD d d'):ZD (o.getD d) (u.getD d'):=by
 cases o with
 |none=>cases u with
  |none=>exact c
  |some _=>exact(show False from r).elim
 |some _=>cases u with
  |none=>exact(show False from r).elim
  |some _=>exact r
theorem KV.val(r:KV i vs)(k:κ):XE (Zz i k) (valueAt vs k):=by
 unfold KV at r
 induction r with
 |nil=>exact True.intro
 |@cons p q u f h t n =>
  obtain⟨g,j⟩:=h;by_cases e:p.1=k
  ·have c:q.1=k:=g.symm.trans e
   have b:valueAt (q::f) k=some q.2:=by simp[valueAt,List.find?_cons,c]
   rw[WX e,b];exact j
  ·have c:¬ q.1=k:=fun z=>e (g.trans z)
   have b:valueAt (q::f) k=valueAt f k:=by simp[valueAt,List.find?_cons,c]
   rw[WG e,b];exact n
theorem KV.any{e:List (κ×V)}{vs:List (κ×Value)}(r:KV e vs)(k:κ):(e.any fun c=>decide (c.1=k))=vs.any fun c=>decide (c.1=k):=by
 unfold KV at r
 induction r with
 |nil=>rfl
 |cons h t f=>rw[List.any_cons,List.any_cons,f,h.1]
theorem KV.repl{g:List (κ×V)}{vs:List (κ×Value)}(r:KV g vs)(k:κ)(n:ZD y u) :
  KV (g.map fun c=>if c.1=k then (c.1,y)else c) (vs.map fun c=>if c.1=k then (c.1,u)else c):=by
 unfold KV at r ⊢
 induction r with
 |nil=>exact .nil
 |@cons p q v x h t j =>
  rw[SM,SM];refine .cons ?_ j;obtain⟨f,i⟩:=h;by_cases e:p.1=k
  ·rw[SW e,SW (f.symm.trans e)];exact⟨f,n⟩
  ·rw[SV e,SV (fun z=>e (f.trans z))];exact⟨f,i⟩
theorem KV.put(r:KV c vs)(k:κ)(f:ZD y u):KV (YB c k y) (stored vs k u):=by
 unfold YB stored;rw[r.any k];by_cases e:(vs.any fun g=>decide (g.1=k))=true
 ·rw[SW e,SW e];exact r.repl k f
 ·rw[SV e,SV e];exact Paired.snoc r ⟨R,f⟩
theorem KV.length{c:List (κ×V)}{vs:List (κ×Value)}(r:KV c vs):c.length=vs.length:=Paired.length r
theorem Q3(c:List (κ×V))(k:κ):(Vi c k).length<=c.length:=List.length_filter_le _ _
end
theorem Q4(r:ZD (kV k) u):(Xk P w).is k u=true:=by
 cases k with
 |inl i=>obtain⟨t,e⟩:=(show ∃t,u=Value.int i t from r);subst e;exact Zco P w i t
 |inr x=>obtain⟨t,e⟩:=(show ∃t,u=Value.str x t from r);subst e;exact Zcp P w x t
theorem wM:∀{ks:List Zt} {us:OA},Zx (ks.map kV) us->ItemsAre (Xk P w) ks us
 |[],_,r=>by rw[List.map_nil]at r;cases r;exact .nil
 |k::ks,_,r=>by
  rw[SM]at r;cases r with
  |cons h t=>exact .cons (Q4 h) (wM t)
abbrev KT(H:Hp):List (List Zt×V)->List (List Zt×Addr×Value)->Prop:=Paired fun p q=>p.1=q.1/\H q.2.1=some (.tup (p.1.map kV))/\ZD p.2 q.2.2
theorem KT.val(r:KT H i xs)(k:List Zt):XE (Zz i k) ((atKey xs k).map (·.2)):=by
 induction r with
 |nil=>exact True.intro
 |@cons p q u f h t n =>
  obtain⟨g,_,j⟩:=h;by_cases e:p.1=k
  ·have c:q.1=k:=g.symm.trans e
   have b:atKey (q::f) k=some q.2:=by simp[atKey,List.find?_cons,c]
   rw[WX e,b];exact j
  ·have c:¬ q.1=k:=fun z=>e (g.trans z)
   have b:atKey (q::f) k=atKey f k:=by simp[atKey,List.find?_cons,c]
   rw[WG e,b];exact n
theorem KT.repl{i:List (List Zt×V)}{xs:List (List Zt×Addr×Value)}(r:KT H i xs)(k:List Zt)(v:ZD y u) :
  KT H (i.map fun f=>if f.1=k then (f.1,y)else f) (xs.map (putAt k u)):=by
 induction r with
 |nil=>exact .nil
 |@cons p q x B h t j =>
  rw[SM,SM];refine .cons ?_ j;obtain⟨c,g,n⟩:=h;unfold putAt;by_cases e:p.1=k
  ·rw[SW e,SW (c.symm.trans e)];exact⟨c,g,v⟩
  ·rw[SV e,SV (fun z=>e (c.trans z))];exact⟨c,g,n⟩
theorem KT.put(r:KT H c xs)(k:List Zt)(h:H b=some (.tup (k.map kV)))(f:ZD y u) :
  KT H (YB c k y) (storedH xs k b u):=by
 have e:(c.any fun g=>decide (g.1=k))=(atKey xs k).isSome:=by
  rw[F4,(r.val k).isSome_eq,Option.isSome_map]
 unfold YB storedH;rw[e];by_cases q:(atKey xs k).isSome=true
 ·rw[SW q,SW q];exact r.repl k f
 ·rw[SV q,SV q];exact Paired.snoc r ⟨R,h,f⟩
theorem KT.keeps(r:KT H e xs)(f:∀b ys,H b=some (.tup ys)->c b=some (.tup ys)):KT c e xs :=
 Paired.mapP r fun _ _ z=>⟨z.1,f _ _ z.2.1,z.2.2⟩
section
variable{h:Heap}{a:Addr}
theorem wN(ok:Yi P w H h)(e:Rd H a u):Yf P w H h a u:=e.ok ok
theorem Qu{c:List (Zt×V)}(ok:Yi P w H h)(e:Rd H a (.dK c)):c.length<=sizeLine/\(a == sysModules)=false/\∃vs,KV c vs/\h.DictOf (Xk P w) a vs :=
 show Yf P w H h a (.dK c)from wN ok e
theorem wO{c:List (Zt×V)}(ok:Yi P w H h)(e:H a=some (.dK c)):c.length<=sizeLine/\(a == sysModules)=false/\∃vs,KV c vs/\h.DictOf (Xk P w) a vs:=Qu ok (.inl e)
theorem Q5{ks:List Zt}(ok:Yi P w H h)(e:H a=some (.tup (ks.map kV))):(tupleKind (Xk P w)).is h ks a:=by
 obtain⟨_,its,r,o,g,f,n,c⟩:=(show Yf P w H h a (.tup (ks.map kV))from ok a _ e);exact⟨o,its.toArray,n,g,f,c,by simpa using wM r⟩
theorem Q6{f:List (List Zt×V)}(ok:Yi P w H h)(e:Rd H a (.dT f)):f.length<=sizeLine/\(a == sysModules)=false /\
  ∃xs,KT H f xs/\h.DictOfH (tupleKind (Xk P w)) a xs:=by
 obtain⟨z,y,xs,r,o,D,B,i,j,v,C,n⟩:=(show Yf P w H h a (.dT f)from wN ok e);refine⟨z,y,xs,r,o,D,B,i,j,v,C,fun x c=>?_,n⟩;have all:∀{l:List (List Zt×V)} {m:List (List Zt×Addr×Value)},KT H l m->∀x∈m,(tupleKind (Xk P w)).is h x.1 x.2.1:=by
  intro l m q
  induction q with
  |nil=>intro x c;exact nomatch c
  |@cons p q E G g t u =>
   intro x c;rcases SF.mp c with e|c
   ·subst e
    exact Q5 ok (by rw[<-g.1];exact g.2.1)
   ·exact u x c
 exact all r x c
theorem wP{c:List (List Zt×V)}(ok:Yi P w H h)(e:H a=some (.dT c)):c.length<=sizeLine/\(a == sysModules)=false /\
  ∃xs,KT H c xs/\h.DictOfH (tupleKind (Xk P w)) a xs:=Q6 ok (.inl e)
end
def Yr(H:Hp)(a:Addr)(y:V)(r:Option V):Prop :=
 (∃c k,Rd H a (.dK c)/\y=kV k/\r=Zz c k)\/∃c k b,Rd H a (.dT c)/\y=.ref b/\H b=some (.tup (k.map kV))/\r=Zz c k
def XV(H:Hp)(a:Addr)(y v:V)(e:Hp):Prop :=
 (∃c k,H a=some (.dK c)/\y=kV k/\c.length<sizeLine/\e=upd H a (.dK (YB c k v))) \/
 ∃c k b,H a=some (.dT c)/\y=.ref b/\H b=some (.tup (k.map kV))/\c.length<sizeLine/\e=upd H a (.dT (YB c k v))
theorem Yr.k{a:Addr}{c:List (Zt×V)}{k:Zt}(e:H a=some (.dK c)):Yr H a (kV k) (Zz c k):=.inl ⟨c,k,.inl e,R,R⟩
theorem Yr.t{k:List Zt}(e:H a=some (.dT c))(f:H b=some (.tup (k.map kV))):Yr H a (.ref b) (Zz c k):=.inr ⟨c,k,b,.inl e,R,f,R⟩
theorem XV.k{a:Addr}{c:List (Zt×V)}{k:Zt}{v:V}(e:H a=some (.dK c))(f:c.length<sizeLine):XV H a (kV k) v (upd H a (.dK (YB c k v))):=.inl ⟨c,k,e,R,f,R⟩
theorem XV.t{c:List (List Zt×V)}{k:List Zt}(e:H a=some (.dT c))(f:H b=some (.tup (k.map kV)))(g:c.length<sizeLine) :
  XV H a (.ref b) v (upd H a (.dT (YB c k v))):=.inr ⟨c,k,b,e,R,f,g,R⟩
section
variable{σ:St}{a:Addr}{y v:V}{u r:Value}{o:Option V}
theorem Za.big(I:Za X pins σ H s):sysModules<s.heap.objs.size:=by
 have h:mainGlobals<s.heap.objs.size:=(I.mod.glob.keeps I.bk).lt;exact Nat.lt_trans (by lia) h
theorem Zfe(G:A.units+1<cLine)(I:Za X pins σ H s)(g:Yr H a y (some v))(q:ZD y u)(h:∀c s',Za X pins σ H s'->ZD v c->Q c s') :
  wpAny (model X.prog X.w) A (getItem (.ref a) u) Q E s:=by
 rcases g with⟨L,k,e,i,l⟩|⟨L,k,b,e,i,D,l⟩
 ·subst i
  obtain⟨z,hd,B,rel,j⟩:=Qu I.hok e;obtain⟨c,n,f⟩:=XE.some_of (v:=v) (o:=valueAt B k) (by rw[l];exact rel.val k);exact wpAny_getItem_of (Q4 q) j.mapOf n (h c _ (I.tok _) f)
 ·subst i
  cases (show u=Value.ref b from q);obtain⟨z,hd,C,rel,j⟩:=Q6 I.hok e;obtain⟨c,n,f⟩:=XE.some_of (v:=v) (o:=(atKey C k).map (·.2)) (by rw[l];exact rel.val k);obtain⟨p,J,x⟩:=Of.mp n;refine wpAny_getItem_heap (tupleKind_room_in1 G) (Q5 I.hok D) j J ?_;rw[x];exact h c _ (I.tok _) f
theorem Zff(n:A.units+1<cLine)(I:Za X pins σ H s)(g:Yr H a y o)(i:ZD y u)(h:∀s',Za X pins σ H s'->Q (.bool o.isSome) s') :
  wpAny (model X.prog X.w) A (compareOp .In u (.ref a)) Q E s:=by
 rcases g with⟨x,k,e,c,l⟩|⟨x,k,b,e,c,j,l⟩
 ·subst c
  obtain⟨z,hd,B,rel,f⟩:=Qu I.hok e;refine wpAny_in_of (Q4 i) hd f.mapOf ?_;rw[<-(rel.val k).isSome_eq,<-l];exact h _ (I.tok _)
 ·subst c
  cases (show u=Value.ref b from i);obtain⟨z,hd,C,rel,f⟩:=Q6 I.hok e;refine wpAny_in_heap (tupleKind_room_in1 n) (Q5 I.hok j) hd f ?_;have q:=(rel.val k).isSome_eq;rw[Option.isSome_map]at q;rw[<-q,<-l];exact h _ (I.tok _)
theorem Kg{h':Heap}(I:Za X pins σ H s)(f:C7 (H a))(g:Heap.SameBut a s.heap h')(h:∃q,h'.get? a=some q)(new:Yf X.prog X.w (upd H a ob) h' a ob) :
  Za X pins σ (upd H a ob) { s with heap:=h',toks:=t' } :=
 I.write (x:=a) (e:=a) f (.inl R) (fun b q c z=>(g.2 b c).trans z) h new
theorem wQ{h':Heap}{c:List (Zt×V)}(z:c.length<=sizeLine)(hd:(a == sysModules)=false)(rel:KV c vs)(dd:h'.DictOf (Xk P w) a vs) :
  Yf P w e h' a (.dK c):=⟨z,hd,vs,rel,dd⟩
theorem Zfg(hu:A.units+1<cLine)(I:Za X pins σ H s)(g:XV H a y v O)(P:ZD y u)(L:ZD v r)(h:∀s',Za X pins σ O s'->Q () s') :
  wpAny (model X.prog X.w) A (setItem (.ref a) u r) Q E s:=by
 rcases g with⟨c,k,e,D,l,C⟩|⟨c,k,b,e,D,G,l,C⟩
 ·subst D C
  obtain⟨z,hd,vs,rel,x⟩:=wO I.hok e;have j:vs.length<=sizeLine:=by rw[<-rel.length];exact z
  have B:(YB c k v).length<=sizeLine:=by have:=Q2 c k v;lia
  refine wpAny_setItem_pairs (hsz:=j) (Q4 P) x fun J i n=>h _ ?_;have Y:∃q,J.get? a=some q:=let ⟨q,_,_,f,_⟩:=i;⟨q,f⟩;exact Kg I (by rw[e];exact True.intro) n Y (wQ B hd (rel.put k L) i)
 ·subst D C
  cases (show u=Value.ref b from P);obtain⟨z,hd,xs,rel,x⟩:=wP I.hok e;have j:xs.length<=sizeLine:=by rw[<-Paired.length rel];exact z
  have B:(YB c k v).length<=sizeLine:=by have:=Q2 c k v;lia
  refine wpAny_setItem_heap (hsz:=j) (tupleKind_room_in1 hu) (Q5 I.hok G) x fun J i n=>h _ ?_;obtain⟨q,Z,U,f,h2,T,h4,_,S⟩:=i;refine Kg I (by rw[e];exact True.intro) n ⟨q,f⟩ ⟨B,hd,_,(rel.put k G L).keeps fun a0 ys M=>?_,q,Z,U,f,h2,T,h4,S⟩;rw[Zd (Z4 M e (fun z=>nomatch z))];exact M
end
section
variable{σ:St}{a:Addr}{kvs:List (Zt×V)}{k:Zt}{u:Value}
theorem Zfh(I:Za X pins σ H s)(e:Rd H a (.dK kvs))(h:∀t s',Za X pins σ H s'->Q (.int kvs.length t) s'):wpAny (model X.prog X.w) A (call (.builtin "len") [.ref a]) Q E s:=by
 obtain⟨z,hd,f,rel,c⟩:=Qu I.hok e;refine call_len_dict hd c (by rw[<-rel.length];rw[sizeLine_eq]at z;lia) ?_;rw[<-rel.length];exact h _ _ (I.tok _)
end
def MG(i:Expr):Prop:=∀c e,subscripted i false c e=operate [c,e] (getItem c e)
theorem Zfi{env:Env}{value slice:Expr}{T id:String}{Q:Ot}
  (q:typeLookup (.type T) "__getitem__" = pure (some (.builtin id))) (v:MG slice)
  (h:wpAny (model prog w) A (eval value env) (fun o g=>wpAny (model prog w) A (eval slice env) (fun i c=>c.TypeIs o T/\wpAny (model prog w) A (getItem o i) Q E c) E g) E s) :
  wpAny (model prog w) A (eval (.Subscript value slice pos) env) Q E s:=by
 refine Subscript_ (Op h (fun o g u=>Op u (fun i c e=>?_) fun _ _ x=>x) fun _ _ x=>x);obtain⟨n,e⟩:=e;unfold subscriptTail;refine Sa ?_;rw[getitemInPython_of_ne n.not_modules];refine Sa (wpAny_specialOf n q ?_);have f:wpAny (model prog w) A (subscripted slice false o i) (fun r j=>wpAny (model prog w) A (letTemporaryGo value o r >>= fun _=>pure r) Q E j) E c:=by
  rw[v o i];exact wpAny_operating (Op e (fun r j y=>Sa (wpAny_letTemporaryGo (Sb y))) fun _ _ x=>x)
 first
  |exact Sb (Sa f)
  |exact Sa (Sb (Sa f))
  |exact Sa f
theorem Zfj(I:Za X pins f H s)(g:Yr H a y o):s.TypeIs (.ref a) "dict" := by
 rcases g with⟨h,k,e,_,_⟩|⟨h,k,b,e,_,_,_⟩
 ·obtain⟨_,_,i,_,c⟩:=Qu I.hok e
  exact c.typeIs
 ·obtain⟨_,_,j,_,c⟩:=Q6 I.hok e
  exact c.typeIs
inductive Zfk(Q:VK)(x:V)(y:V)(H2:Hp):Prop|mk a v (_:x=.ref a) (_:Yr H2 a y (some v)) (_:Q v H2)
def wR(td ty:TE):TE:=fun c H Q=>td c H fun x e=>ty c e fun y f=>Zfk Q x y f
inductive Zfl(Q:VK)(y:V)(x:V)(H2:Hp):Prop|mk a o (_:x=.ref a) (_:Yr H2 a y o) (_:Q (.bl o.isSome) H2)
def Zfm(ty td:TE):TE:=fun c H Q=>ty c H fun y e=>td c e fun x f=>Zfl Q y x f
inductive Zfn(D:Wr)(σ:St)(v:V)(x:V)(y:V)(H3:Hp):Prop|mk a H4 (_:x=.ref a) (_:XV H3 a y v H4) (_:D.nx σ H4)
def Zfo(td ty g:TE):TS:=fun D c H=>g c H fun v e=>td c e fun x f=>ty c f fun y h=>Zfn D c v x y h
section
variable{o i e value:Expr}{pos' tpos:Pos}{td ty tv:TE}
theorem Zfp(P:X.A.units+1<cLine)(B:PE X o td)(hi:PE X i ty)(C:MG i):PE X (.Subscript o i pos) (wR td ty):=by
 intro pins s c H Q I h;refine Zfi PySem.F.slot_dict_getitem.lookup C (Zq (B pins s c H _ I h) fun u n ⟨x,D,M,q,j⟩=>Zq (hi pins n c D _ M j) fun U s2 ⟨y,E,f,O,a,v,ex,g,L⟩=>?_);subst ex;obtain rfl:u=Value.ref a:=q;exact⟨Zfj f g,Zfe P f g O fun S T G J=>⟨v,E,G,J,L⟩⟩
theorem Kh(M:X.A.units+1<cLine)(hi:PE X i ty)(q:PE X o td):PC X .In i o (Zfm ty td):=by
 intro pins s c H Q I h;refine Zq (hi pins s c H _ I h) fun P j ⟨y,B,J,L,f⟩=>Zq (q pins j c B _ J f) fun u s2 ⟨x,D,v,n,a,C,ex,g,G⟩=>?_;subst ex;obtain rfl:u=Value.ref a:=n;exact Zff M v g L fun O E=>⟨.bl C.isSome,D,E,R,G⟩
theorem VE(S:X.A.units+1<cLine)(q:PE X o td)(hi:PE X i ty)(U:PE X value tv)(x:swapsWith value (some (.Subscript o i pos')) pos.line X.env=pure false) :
  PS X (.Assign [.Subscript o i pos'] value pos) (Zfo td ty tv):=by
 intro pins s c H D I h;refine wpAny_Assign_Subscript (Zq (U pins s c H _ I h) fun r j ⟨v,C,P,E,f⟩=>Zq (q pins j c C _ P f) fun u s2 ⟨a0,J,B,n,O⟩=>Zq (hi pins s2 c J _ B O) fun iv Y ⟨y,H3,M,T,a,Q,ex,g,L⟩=>?_) x;subst ex;obtain rfl:u=Value.ref a:=n;exact Zfg S M g T E fun Z G=>⟨c,Q,G,L⟩
end
theorem Zfq(h:Heap)(c:sysModules<h.objs.size):Yf P w H (h.push { cls:=.type "dict",data:=.dict #[] }) h.objs.size (.dK []) :=
 ⟨Sk _,beq_eq_false_iff_ne.mpr (Ne.symm (Sf c)),[],.nil,Heap.DictOf.new h⟩
theorem Zfr(h:Heap)(c:sysModules<h.objs.size):Yf P w H (h.push { cls:=.type "dict",data:=.dict #[] }) h.objs.size (.dT []) :=
 ⟨Sk _,beq_eq_false_iff_ne.mpr (Ne.symm (Sf c)),[],.nil,_,#[],0,Sd _ R,⟨R,R,R⟩,R,R,List.nodup_nil⟩
def Zfs:TE:=fun _ H Q=>∀p,H p=none->Q (.ref p) (upd H p (.dT []))
theorem Q7:PE X (.Dict [] [] pos) Zfs:=fun pins s c H Q I h =>
 wpAny_Dict_empty ⟨.ref s.heap.objs.size,_,I.laid (a:=s.heap.objs.size) (o:=.dT []) (t':=s.toks) (fun _ _ q=>Sc _ q) (Sg _) (Zfr s.heap I.big),R,h _ (I.hok.fresh (Sg _))⟩
def MH:List (TE×TE)->St->Hp->(List (V×V)->Hp->Prop)->Prop
 |[],_,H,Q=>Q [] H
 |(tk,h)::r,c,H,Q=>tk c H fun x f=>h c f fun y g=>MH r c g fun e i=>Q ((x,y)::e) i
abbrev VV:List (V×V)->List (Value×Value)->Prop:=Paired fun p q=>ZD p.1 q.1/\ZD p.2 q.2
def Ki(X:Cx)(pos:Pos)(keys:List (Option Expr))(values:OC)(h:List (TE×TE)):Prop :=
 ∀(pins:Ou) (s:Shared) (σ:St) (H:Hp) (Q:List (V×V)->Hp->Prop),Za X pins σ H s->MH h σ H Q ->
  wpAny (model X.prog X.w) X.A (evalPairs (pairTrees keys values X.env pos)) (fun f g=>∃c e,Za X pins σ e g/\VV c f/\Q c e) X.xe s
theorem Zft:Ki X pos [] [] []:=fun pins s c H Q I h=>pairTrees_nil_walk ⟨[],H,I,.nil,h⟩
theorem F5(n:PE X k tk)(S:PE X v f)(G:Ki X pos ks vs e) :
  Ki X pos (some k::ks) (v::vs) ((tk,f)::e):=fun pins s c H Q I h =>
 pairTrees_cons_walk (Zq (n pins s c H _ I h) fun u j ⟨x,D,O,q,i⟩=>Zq (S pins j c D _ O i) fun Y s2 ⟨y,E,B,P,M⟩ =>
  Zq (G pins s2 c E _ B M) fun T U ⟨g,C,L,rel,J⟩=>⟨(x,y)::g,C,L,.cons ⟨q,P⟩ rel,J⟩)
def F6(e more:List (Zt×V)):List (Zt×V):=more.foldl (fun f c=>YB f c.1 c.2) e
theorem KV.merge:∀{more:List (Zt×V)} {rs:List (Zt×Value)} {c:List (Zt×V)} {vs:List (Zt×Value)},KV more rs->KV c vs->KV (F6 c more) (merged vs rs):=by
 intro more rs c vs r;unfold KV at r
 induction r generalizing c vs with
 |nil=>intro q;exact q
 |@cons p q i j h t f =>
  intro g;have e:KV (YB c p.1 p.2) (stored vs q.1 q.2):=by
   have:=g.put p.1 h.2;rw[<-h.1];exact this
  exact f e
theorem wS:∀(more c:List (Zt×V)),(F6 c more).length<=c.length+more.length
 |[],c=>by show c.length<=c.length+0;lia
 |p::r,c=>by
  have h1:=wS r (YB c p.1 p.2);have e:=Q2 c p.1 p.2;show(F6 (YB c p.1 p.2) r).length<=_;rw[Sy];lia
theorem wT{P:Program}{w:World}:∀{e:List (Zt×V)} {ws:List (Value×Value)},VV (e.map fun f=>(kV f.1,f.2)) ws->∃rs,Carries (Xk P w) ws rs/\KV e rs
 |[],_,r=>by rw[List.map_nil]at r;cases r;exact⟨[],True.intro,.nil⟩
 |p::e,_,r=>by
  rw[SM]at r;cases r with
  |@cons a b i bs h t =>
   obtain⟨rs,c,q⟩:=wT (P:=P) (w:=w) t;obtain⟨j,g⟩:=b;exact⟨(p.1,g)::rs,⟨Q4 h.1,R,c⟩,.cons ⟨R,h.2⟩ q⟩
def Zfu(i:List (TE×TE)):TE:=fun g H Q=>∀p,H p=none->MH i g (upd H p (.dK [])) fun h f=>f p=some (.dK [])/\∃c:List (Zt×V),h=c.map (fun e=>(kV e.1,e.2))/\c.length<=15/\Q (.ref p) (upd f p (.dK (F6 [] c)))
theorem Zfv{keys:List (Option Expr)}{values:OC}(h:Ki X pos keys values f)(x:keys.all (·.isSome)=true)(J:keys.length=values.length)(u:keys≠[])
  (n:keys.length<=15):PE X (.Dict keys values pos) (Zfu f):=by
 intro pins s E a0 Q I q;have hn:=I.hok.fresh (Sg s.heap.objs.size);have O:=I.laid (a:=s.heap.objs.size) (o:=.dK []) (h':=s.heap.push { cls:=.type "dict",data:=.dict #[] }) (t':=s.toks) (fun _ _ q=>Sc _ q) (Sg _) (Zfq s.heap I.big);refine wpAny_Dict_walk (knd:=Xk X.prog X.w) x J u n (Zq (h pins _ E _ _ O (q _ hn)) fun U s2 ⟨T,Y,g,rel,e,i,y,lk,M⟩=>?_);subst y;obtain⟨C,c,L⟩:=wT (P:=X.prog) (w:=X.w) rel;obtain⟨z,hd,Z,S,H⟩:=wO g.hok e;cases S;refine⟨C,c,H,fun h' j G=>⟨.ref s.heap.objs.size,_,?_,R,M⟩⟩;have D:(F6 [] i).length<=sizeLine:=by
  have v:=wS i [];rw[List.length_nil]at v;rw[sizeLine_eq];lia
 have B:∃q,h'.get? s.heap.objs.size=some q:=let ⟨q,_,_,hq,_⟩:=j;⟨q,hq⟩;exact Kg g (by rw[e];exact True.intro) G B (wQ D hd (L.merge .nil) j)
structure M1(X:Cx)(o:Expr)(m:Str)(apos:Pos)(e:Expr)(cpos:Pos):Prop where
 base:attributeBase o m X.env (eval o X.env)=eval o X.env
 few:((backTo cpos (starEach [e] X.env)).all (fun x=>!x.1) && (backToKw cpos (keywordEach [] X.env)).all (fun x=>x.1.isSome)
  && decide (([e]:OC).length+([]:List Keyword).length+(if ([]:List Keyword).isEmpty then 0 else 1)<30))=true
 line:(apos.endLine == cpos.line)=true
 trees:backTo cpos (starEach [e] X.env)=[(false,eval e X.env)]
structure M2(X:Cx)(o:Expr)(m:Str)(apos:Pos)(e f:Expr)(cpos:Pos):Prop where
 base:attributeBase o m X.env (eval o X.env)=eval o X.env
 few:((backTo cpos (starEach [e,f] X.env)).all (fun x=>!x.1) && (backToKw cpos (keywordEach [] X.env)).all (fun x=>x.1.isSome)
  && decide (([e,f]:OC).length+([]:List Keyword).length+(if ([]:List Keyword).isEmpty then 0 else 1)<30))=true
 line:(apos.endLine == cpos.line)=true
 trees:backTo cpos (starEach [e,f] X.env)=[(false,eval e X.env),(false,eval f X.env)]
def MI(H:Hp)(a:Addr):Prop:=(∃c,Rd H a (.dK c))\/∃c,Rd H a (.dT c)
theorem wU(I:Za X pins h H s)(d:MI H a) :
  s.TypeIs (.ref a) "dict" /\ (∀b,Value.ref a=.ref b->∃ob,s.heap.get? b=some ob/\ob.dict=none)/\(a == sysModules)=false:=by
 rcases d with⟨i,e⟩|⟨i,e⟩
 ·obtain⟨_,hd,j,_,c⟩:=Qu I.hok e
  refine⟨c.typeIs,fun b q=>?_,hd⟩;cases q;obtain⟨ob,_,_,f,g,_⟩:=c;exact⟨ob,f,g.2.1⟩
 ·obtain⟨_,hd,n,_,c⟩:=Q6 I.hok e
  refine⟨c.typeIs,fun b q=>?_,hd⟩;cases q;obtain⟨ob,_,_,f,g,_⟩:=c;exact⟨ob,f,g.2.1⟩
section
variable{σ:St}{a:Addr}{y d:V}{u r:Value}{o:Option V}
theorem Zfw(x:A.units+1<cLine)(I:Za X pins σ H s)(g:Yr H a y o)(j:ZD y u)(i:ZD d r)(h:∀n s',Za X pins σ H s'->ZD (o.getD d) n->Q n s') :
  wpAny (model X.prog X.w) A (call (.builtin "dict.get") [.ref a,u,r]) Q E s:=by
 rcases g with⟨B,k,e,f,l⟩|⟨B,k,b,e,f,v,l⟩
 ·subst f
  obtain⟨z,hd,C,rel,c⟩:=Qu I.hok e;refine call_meetsIn PySem.F.slot_dict_get c.typeIs PySem.F.entry_dict_get (PySem.F.args_dict_get_3 _ _ _) (meets_dict_get_default (Xk X.prog X.w) a (Q4 j) hd r) ⟨_,c.mapOf,h _ _ (I.tok _) ?_⟩;rw[l];exact(rel.val k).getD i
 ·subst f
  cases (show u=Value.ref b from j);obtain⟨z,hd,q,rel,c⟩:=Q6 I.hok e;refine call_meetsIn PySem.F.slot_dict_get c.typeIs PySem.F.entry_dict_get (PySem.F.args_dict_get_3 _ _ _) (meetsH_dict_get_default (tupleKind (Xk X.prog X.w)) a b hd r) ⟨tupleKind_room_in1 x,k,q,Q5 I.hok v,c,h _ _ (I.tok _) ?_⟩;rw[l];exact(rel.val k).getD i
end
inductive Zfx(ty tx:TE)(σ:St)(Q:VK)(x:V)(H1:Hp):Prop|mk a (_:x=.ref a) (_:MI H1 a) (_:ty σ H1 fun y H2=>tx σ H2 fun z H3=>∃o,Yr H3 a y o/\Q (o.getD z) H3)
def Zfy(td ty tx:TE):TE:=fun c H Q=>td c H fun x e=>Zfx ty tx c Q x e
section
variable{o e f:Expr}{apos cpos:Pos}{td ty tx:TE}
theorem MJ(U:X.A.units+1<cLine)(B:PE X o td)(v:PE X e ty)(C:PE X f tx)(m:M2 X o "get" apos e f cpos):PE X (.Call (.Attribute o "get" apos) [e,f] [] cpos) (Zfy td ty tx):=by
 intro pins s c H b0 I h;refine wpAny_Call_method m.base m.few m.line PySem.F.plainAttrs_dict PySem.F.slot_dict_get PySem.F.type_dict_get (Zq (B pins s c H _ I h) fun u n ⟨a0,G,i,x,a,ex,d,j⟩=>?_);subst ex;obtain rfl:u=Value.ref a:=x;obtain⟨T,t2,_⟩:=wU i d;refine⟨T,t2,?_⟩;rw[m.trees];refine Calls.callWith_builtin R (Calls.evalArgs_plain (Calls.spliced_cons (Zq (v pins n c G _ i j) fun iv s2 ⟨y,L,D,S,Q⟩ =>
  Calls.spliced_cons (Zq (C pins s2 c L _ D Q) fun fv Z ⟨z,E,O,q,ov,g,M⟩=>Calls.spliced_nil ?_))))
 exact Zfw U O g S q fun Y s4 J P=>⟨_,E,J,P,M⟩
end
theorem Zfz:YV X (.builtin "len") (fun xs H Q=>∃a c,xs=[V.ref a]/\H a=some (.dK c)/\Q (.int c.length) H):=by
 intro pins s f H xs g Q I r h;obtain⟨a,c,rfl,ha,q⟩:=h;obtain⟨u,rfl,ru⟩:=X1 r;cases ru;exact Zfh I (.inl ha) fun t i e=>⟨.int c.length,H,e,⟨t,R⟩,q⟩
theorem wV:∀{c:List (Zt×V)} {vs:List (Zt×Value)} {acc:OA},KV c vs->acc.length=vs.length->(∀(j:Nat) (v:Value),acc[j]? = some v->∃(k:Zt) (x:Value),vs[j]? = some (k,x)/\(Xk X.prog X.w).is k v=true)->Zx (c.map fun g=>kV g.1) acc
 |_,_,[],.nil,_,_=>.nil
 |_,_,[],.cons _ _,e,_=>by cases e
 |_,_,_::_,.nil,e,_=>by cases e
 |(k0,_)::_,(k1,_)::_,u::us,.cons r t,e,h=>by
  obtain⟨y,_⟩:=r;obtain⟨k,x,B,f⟩:=h 0 u R;cases B;refine .cons ?_ (wV t (Nat.succ.inj e) fun j v q=>h (j+1) v q);have n:k0=k1:=y;subst n;cases k0 with
  |inl i=>exact Value.isInt_shape f
  |inr z=>exact Value.isStrOf_shape f
theorem F7(i:X.calm=true):YV X (.type "list") (fun xs H Q=>∃d f,xs=[.ref d]/\H d=some (.dK f)/\∀l,H l=none->Q (.ref l) (upd H l (.lst (f.map fun c=>kV c.1)))):=by
 intro pins s O H xs P Q I r h;obtain⟨d,f,rfl,hd,q⟩:=h;obtain⟨u,rfl,y⟩:=X1 r;cases y;obtain⟨D,C,J,c,x⟩:=I.hok d _ hd;obtain⟨M,n⟩:=x.dictAt;have hlen:J.length=f.length:=(Paired.length c).symm;refine W.kdl_call (W.kdl_dict C) (I.ok.hd i) n (by lia) fun E tk L B kp e g=>?_;obtain⟨G⟩:=L;refine⟨.ref s.heap.objs.size,_,I.laid (t':=tk) kp (Sg _) (show Yf X.prog X.w _ E _ (.lst (f.map fun c=>kV c.1))from⟨by rw[Sv];exact D,G,B,wV (X:=X) c (by simpa using g.1) (fun j v q=>g.2 j v (by simpa using q)),e⟩),R,q _ (I.hok.fresh (Sg _))⟩
theorem X8:YV X (.type "int") (fun xs H Q=>∃b,xs=[.bl b]/\Q (.int (if b=true then 1 else 0)) H):=by
 intro pins s e H xs f Q I r h;obtain⟨b,rfl,q⟩:=h;obtain⟨u,rfl,c⟩:=X1 r;cases c;refine PySem.call_int_bool ⟨.int (if b=true then 1 else 0),H,I.tok _,⟨_,R⟩,q⟩
theorem wW:∀{xs ys:List V} {us vs:OA},Zx xs us->Zx ys vs->Zx (xs++ys) (us++vs)
 |_,_,_,_,.nil,r=>r
 |_,_,_,_,.cons r t,q=>.cons r (wW t q)
theorem wX:∀{xs:List V} {us:OA},Zx xs us->Zx xs.reverse us.reverse
 |_,_,.nil=>.nil
 |_,_,.cons r t=>by rw[List.reverse_cons,List.reverse_cons];exact wW (wX t) (.cons r .nil)
end L2
namespace K1
open PySem L2
def wo(H:Hp)(l:Addr):Hp:=fun a=>if a=l then none else H a
theorem U6(h:a≠l):wo H l a=H a:=SV h
theorem Wx:Zc (wo H l) H:=fun a o e=>by
 by_cases h:a=l
 ·rw[wo,SW h]at e;cases e
 ·rw[U6 h]at e;exact e
theorem Yn(e:wo H l a=some o):a≠l/\H a=some o:=by
 by_cases h:a=l
 ·rw[wo,SW h]at e;cases e
 ·rw[U6 h]at e;exact⟨h,e⟩
theorem U7(s:Zc H c):Zc (wo H l) (wo c l):=fun a o e=>by
 obtain⟨h,e⟩:=Yn e;rw[U6 h];exact s _ _ e
theorem Q8:wo (upd H l o) l=wo H l:=by
 funext a
 by_cases h:a=l
 ·rw[wo,wo,SW h,SW h]
 ·rw[U6 h,U6 h,Zd h]
theorem ZT(e:H a=some o)(h:a≠l):wo H l a=some o:=by rw[U6 h];exact e
theorem YW(s:Zc c H)(n:c l=none)(o:HO):Zc c (upd H l o):=fun a u e=>by
 rw[Zd (ZI e n)];exact s _ _ e
theorem Kj(s:Zc c H)(n:c l=none):Zc c (wo H l):=fun a u e=>by
 rw[U6 (ZI e n)];exact s _ _ e
inductive Al{β α:Type}(R:β->α->Prop):List β->List α->Prop where
 |nil:Al R [] []
 |cons {v:β} {x:α} {vs:List β} {xs:List α}:R v x->Al R vs xs->Al R (v::vs) (x::xs)
section
variable{β α:Type}{R R':β->α->Prop}
theorem Al.length{vs:List β}{xs:List α}(h:Al R vs xs):vs.length=xs.length:=by
 induction h with
 |nil=>rfl
 |cons _ _ c=>rw[Sy,Sy,c]
theorem Al.imp(h:Al R vs xs)(f:∀v x,R v x->R' v x):Al R' vs xs:=by
 induction h with
 |nil=>exact .nil
 |cons a _ c=>exact .cons (f _ _ a) c
theorem Al.app(h:Al R vs xs)(g:Al R us ys):Al R (vs++us) (xs++ys):=by
 induction h with
 |nil=>exact g
 |cons a _ c=>exact .cons a c
theorem Al.snoc(h:Al R vs xs)(g:R v x):Al R (vs++[v]) (xs++[x]):=h.app (.cons g .nil)
theorem Al.get(h:Al R vs xs):∀{i:Nat} {v:β},vs[i]? = some v->∃x,xs[i]? = some x/\R v x:=by
 induction h with
 |nil=>intro i v e;cases e
 |cons a _ c =>
  intro i v e;cases i with
  |zero=>cases e;exact⟨_,rfl,a⟩
  |succ i=>exact c e
theorem Al.take{vs:List β}{xs:List α}(h:Al R vs xs):∀n,Al R (vs.take n) (xs.take n):=by
 induction h with
 |nil=>intro n;rw[List.take_nil,List.take_nil];exact .nil
 |cons a _ c =>
  intro n;cases n with
  |zero=>exact .nil
  |succ n=>exact .cons a (c n)
end
end K1
namespace L2
open PySem PySem.Spec PyProof.Rows
section
variable{a b:Expr}{rest:OC}{ta tb:TE}
inductive ZfA(K:Ow)(tb:TE)(σ:St)(Q:VK)(x:V)(H1:Hp):Prop|mk c (_:zO K x H1 c) (_:if c=true then Q x H1 else tb σ H1 Q)
def ZfB(K:Ow)(ta tb:TE):TE:=fun c H Q=>ta c H fun x e=>ZfA K tb c Q x e
theorem wY(ha:PE X a ta)(B:PE X (.BoolOp .Or (b::rest) pos) tb):PE X (.BoolOp .Or (a::b::rest) pos) (ZfB X.K ta tb):=by
 intro pins s g H Q I h;refine BoolOp_or (Zq (ha pins s g H _ I h) fun v u ⟨x,j,D,r1,e⟩=>?_);obtain⟨c,y,e⟩:=e;refine Zq (Zc9 pins u g j x v (fun f C=>f=c/\C=j) D r1 ⟨c,y,R,R⟩) fun f s2 ⟨E,i,q,n⟩=>?_;subst q n;cases f with
 |false=>exact B pins s2 g _ Q i e
 |true=>exact⟨x,_,i,r1,e⟩
end
section
variable{σ:St}
open Classical in
noncomputable def Uk (h:Heap) (dx:PyData) (u:Value):Bool:=if ∃d as,Reads h u d as/\PyData.eqv d dx=true then true else false
theorem wZ{d : PyData}(r:Reads h u d g)(c:d.canLay0=true):Uk h f u=PyData.eqv d f:=by
 unfold Uk;cases e:PyData.eqv d f with
 |true=>exact SW ⟨d,g,r,e⟩
 |false =>
  refine SV ?_;rintro⟨j,n,q,i⟩;rw[<-SeqAt.Reads.unique d j u g n c r q,e]at i;exact Bool.noConfusion i
theorem MK:∀{us:OA} {ds:List PyData} {as:OG},ReadsAll h us ds as->PyData.canLayAll0 ds=true->us.any (Uk h e)=ds.any fun d=>PyData.eqv d e
 |_,_,_,.nil,_=>rfl
 |_,_,_,.cons r rs,c=>by
  simp only[PyData.canLayAll0,Bool.and_eq_true]at c;rw[List.any_cons,List.any_cons,wZ r c.1,MK rs c.2]
theorem ML{e:PyData}(g:Reads s.heap v e bs)(h:e.canLay0=true)(f:A.units+e.depth<cLine):∀{us:OA} {ds:List PyData} {as:OG},ReadsAll s.heap us ds as->PyData.canLayAll0 ds=true->∀u∈us,SeqAt.EqAt A s u v (Uk s.heap e u)
 |_,_,_,.nil,_=>fun u f=>by cases f
 |_,_,_,.cons r rs,c=>fun i hm=>by
  simp only[PyData.canLayAll0,Bool.and_eq_true]at c;rcases SF.mp hm with rfl|hm
  ·rw[wZ r c.1]
   exact SeqAt.eqAt_reads _ _ A s _ _ _ _ r g c.1 h (by lia)
  ·exact ML g h f rs c.2 i hm
inductive vA(K:Ow)(neg:Bool)(x:V)(y:V)(H:Hp)(Q:VK):Prop|mk p xs dx ds (_:y=.ref p) (_:(Zf K H p xs\/Zj K H p xs)) (_:DV K H x dx) (_:X7 K H xs ds) (_:dx.depth<=60) (_:Q (.bl (if neg then !(ds.any fun d=>PyData.eqv d dx)else ds.any fun d=>PyData.eqv d dx)) H)
theorem ZfC(L:X.A.units+64<cLine):YF X (compareOp .In) (vA X.K false):=by
 intro pins s σ H x y v u Q I D E h;obtain⟨p,J,c,ds,rfl,g,j,e,hd,q⟩:=h;cases E;obtain⟨G,r1⟩:=j.reads I D;have B:X.A.in1.units+c.depth<cLine:=by show X.A.units+1+_<_;lia
 rcases g with g|g
 ·obtain⟨its,r,n,C⟩:=I.list g
  obtain⟨bs,f⟩:=e.reads I r;refine SeqAt.in_listAt (Uk s.heap c) n.isList (fun w i=>ML r1 j.can B f e.can w (by simpa using i)) ⟨.bl _,H,I,R,?_⟩;rw[show its.toArray.any (Uk s.heap c)=its.any (Uk s.heap c) by simp,MK f e.can];exact q
 ·obtain⟨its,r,n,C⟩:=I.tuple g
  obtain⟨bs,f⟩:=e.reads I r;refine SeqAt.in_tupleAt (Uk s.heap c) n (fun w i=>ML r1 j.can B f e.can w (by simpa using i)) ⟨.bl _,H,I,R,?_⟩;rw[show its.toArray.any (Uk s.heap c)=its.any (Uk s.heap c) by simp,MK f e.can];exact q
end
theorem vB:∀bs:List Bool,(List.range bs.length).any (fun i=>bs.getD i false)=bs.any id
 |[]=>rfl
 |b::bs=>by
  rw[Sy,List.range_succ_eq_map,List.any_cons,List.any_map,List.any_cons];show(b || _)=(b || _);rw[<-vB bs];rfl
theorem vC(C:X.calm=true):YV X (.builtin "any") (fun xs H Q=>∃(p:Addr) (bs:List Bool),xs=[.ref p]/\Zf X.K H p (bs.map V.bl)/\Q (.bl (bs.any id)) H):=by
 intro pins s σ H xs us Q I r h;obtain⟨p,bs,rfl,Y,q⟩:=h;obtain⟨a0,rfl,J⟩:=X1 r;cases J;obtain⟨its,y,g,hz⟩:=I.list Y;have hlen:=y.length;obtain⟨o,b0,M,_⟩:=id g;have O:p≠s.heap.objs.size:=Sf (Se M);have L:TruthOf X.prog X.w X.A.in1 (fun i v=>its.toArray[i]? = some v) (fun i=>bs.getD i false):=by
  intro i v s2 B E2 Z G;have n:its[i]? = some v:=by simpa using Z
  have j:i<bs.length:=by
   have:=(Sr.mp n).1;rw[<-hlen,Sv]at this;exact this
  obtain⟨w,c,f⟩:=y.get (i:=i) (x:=.bl bs[i]) (by rw[Oa,Ss j];rfl);rw[n]at c;cases c;cases f;refine wpAny_truthy_bool ?_;have T:bs.getD i false=bs[i]:=by rw[List.getD_eq_getElem?_getD,Ss j];rfl
  have u:B (bs.getD i false) s2:=G;rw[T]at u;exact u
 refine call_any_walk (wpAny_pyIter_list g.isList ?_);refine⟨s.heap.objs.size,[s.heap.objs.size,p],[s.heap.objs.size],its.toArray.size,_,_,_,R,Walks.list (A:=X.A.in1) (I.ok.hd C) _ _ O its.toArray,⟨⟨_,Sd _ R,R,R⟩,?_⟩,L,fun P tk E=>?_⟩
 ·obtain⟨S,f,U⟩:=g.isList
  exact⟨S,Sc _ f,U⟩
 ·have D:∀b o,s.heap.get? b=some o->P.get? b=some o:=fun b o e=>E b o (fun z=>by
   have c:=Se e;rw[SE.mp z]at c;exact Oq c (Sl _)) (Sc _ e)
  have e:(List.range its.toArray.size).any (fun i=>bs.getD i false)=bs.any id:=by
   rw[SN,<-hlen,Sv];exact vB bs
  rw[e];exact⟨.bl _,H,I.kept (t':=tk) D,R,q⟩
theorem ZfD{k:Nat}{f c:Addr}{name qual:Str}{params:Arguments}{body:Expr}{C n:Value}{N g:OB}(S:Zy N g scope)
 {outer:List Env} {us:OA} {vs:List V} {Q:VK} {E:XK} {B:TE}
  (u:Yb (k+1) A) (h:Ve P w K mg base A outer s H) (M:s.heap.get? f=some (W.kla_obj name qual params body scope [] C c n)) (D:s.heap.CodeRec (.ref c) qual)
  (Z:bindArgs (W.kla_fn name qual params body scope [] C (.ref c) n) ⟨us,[]⟩=pure (g.zip us)) (r:Zx vs us) (T:vs.length=g.length)
  (G:PE (Wv Zo P w K mg base N qual scope f (.ref c) A outer s H E) body B) (hq:B (WD N vs) H Q) :
  codeAny (model P w) A (.call (.ref f) ⟨us,[]⟩) (CR Zo outer P w H s Q E) s:=by
 have I:s.heap.NoLimit:=h.mod.nolimit.keeps fun b o e=>(h.bs b o e).1;have Y:∀y∈g.zip us,scope.names.lookup y.1=some .local\/(scope.names.lookup y.1=some .cell/\((cellsFrom (s.heap.objs.size+1) scope.names []).lookup y.1).isSome=true):=fun⟨b0,v⟩ L=>by
  rcases S.par b0 (List.of_mem_zip L).1 with q|q
  ·exact .inl q
  ·exact .inr ⟨q,W.cellsFrom_some _ _ _ (.inl q)⟩
 refine W.kla_callFunE u.depth M R S.co S.gen R D ?_;rw[Z];refine Sb ?_;refine wpAny_newFunctionEnv_cells S.kind Y fun env O j x=>?_;subst O;refine⟨I.keeps x.toInCall.keep,W.kla_codeExpr ?_⟩;have a0:Za (Wv Zo P w K mg base N qual scope f (.ref c) A outer s H E) [] (WD N vs) H j:=yF S u.hd h T r x;refine Op (G [] j (WD N vs) H _ a0 hq) (fun c0 U i=>?_) fun e U i=>i;obtain⟨v,H',J,X,q⟩:=i;exact⟨v,H',J.os,J.bare,J.base,J.hok,X,q⟩
theorem Za.one{h':Heap}(I:Za X pins f H s)(e:YX X pins H b)(k:∀c o,c≠b->s.heap.get? c=some o->h'.get? c=some o):Za X pins f H { s with heap:=h',toks:=t' } :=
 I.turned (t':=t') k e.1 e.2.1 e.2.2.2.1 e.2.2.2.2.1 e.2.2.2.2.2
def XJ(c:Addr)(qual:Str):HO:=.ext fun h=>h.CodeRec (.ref c) qual
def UH(f:Addr)(qual:Str)(params:Arguments)(body:Expr)(scope:Scope)(c:Value)(g:Addr)(e:Value):HO:=.ext fun h=>h.get? f=some (W.kla_obj "<lambda>" qual params body scope [] c g e)
def BM(mg:Ov)(base:Heap):Prop:=∃c ob,mg "__builtins__" = some (.ref c)/\c≠builtinsNs/\c≠mainGlobals/\base.get? c=some ob/\ob.cls=.type "module" /\ ob.dict=some builtinsNs/\ob.data=.plain
theorem vD{h:Heap}{qual:Str}(j:h.CodeRec (.ref g) qual):Yf P w H h g (XJ g qual):=by
 refine⟨j,?_,fun v x q k=>?_⟩
 ·obtain⟨u,c,i,t,e,f,_⟩:=j
  cases e;exact⟨c,f⟩
 ·obtain⟨u,c,i,t,e,f,hd,n⟩:=q
  cases e;exact⟨_,c,i,t,R,k _ f,hd,n⟩
theorem vE{h:Heap}{qual:Str}{params:Arguments}{body:Expr}(e:h.get? f=some (W.kla_obj "<lambda>" qual params body scope [] c i g)):Yf P w H h f (UH f qual params body scope c i g) :=
 ⟨e,⟨_,e⟩,fun _ _ q k=>k _ q⟩
inductive vF(P:Addr)(mg:Ov)(qual:Str)(params:Arguments)(body:Expr)(scope:Scope)(pos:Pos)(_e0:St)(H:Hp)(Q:VK):Prop|mk (ps:Array Value) (_:H P=some (.tbl ps)) (_:TriplesOk ps.toList) (_:((codeAmong pos ps.toList=none/\∀f c' ctv,H f=none->H c'=none->f≠c'->Q (.ref f) (upd (upd (upd H P (.tbl (ps ++ #[rawInt pos.line,rawInt pos.col,.ref c']))) c' (XJ c' qual)) f (UH f qual params body scope ((mg "__name__").getD .none) c' ctv)))\/∃c',codeAmong pos ps.toList=some (.ref c')/\∀f ctv,H f=none->Q (.ref f) (upd H f (UH f qual params body scope ((mg "__name__").getD .none) c' ctv))))
theorem ZfE{params:Arguments}{body:Expr}{P : Addr}(b0:X.env.code=.ref c)(C:W.CodeHd X.base c P)(d0:BM X.mg X.base)(Z:closureFor scope X.env=pure [])(e0:defaultsOf params X.env=([],[])) :
  PE X (.Lambda params body scope pos) (vF P X.mg (X.env.qual ++ "<lambda>") params body scope pos):=by
 intro pins s σ H h0 I h;obtain⟨x,g,Q,h⟩:=h;have M:s.heap.get? P=some (W.tabObj x):=I.hok P _ g;have S:∀{b o},X.base.get? b=some o->b≠P:=fun e z=>by
  have:=(I.bs _ _ e).2;rw[z,g]at this;cases this
 have f0:mainGlobals≠P:=by
  obtain⟨o,es,ep,e,_⟩:=I.mod.glob;exact S e
 obtain⟨bm,ob,b1,b2,b3,b4,b5,b6,b7⟩:=d0;have hb:s.heap.BuiltinsAt X.mg P:=⟨bm,ob,b1,b2,b3,S b4,I.bk _ _ b4,b5,b6,b7⟩;refine W.kla_eval e0 ?_;rcases h with⟨hn,q⟩|⟨f,hf,q⟩
 ·refine W.kla_makeFunction (mg:=X.mg) Z I.ok.glob (I.mod.glob.keeps I.bk) b0 (C.keeps I.bk) M Q hn f0 hb fun f i h' tk j D U c0 Y=>?_
  have G:H f=none:=I.hok.fresh D;have g0:P<s.heap.objs.size:=Se M;have cP:f≠P:=Nat.ne_of_gt (Si g0 D);have y:∀{b o},H b=some o->(∀E,o≠.tbl E)->upd (upd H P (.tbl (x ++ #[rawInt pos.line,rawInt pos.col,.ref f]))) f (XJ f (X.env.qual ++ "<lambda>")) b=some o:=fun e n=>by
   rw[Zd (ZI e G),Zd (Z4 e g (n _))];exact e
  have I1:Za X pins σ (upd (upd H P (.tbl (x ++ #[rawInt pos.line,rawInt pos.col,.ref f]))) f (XJ f (X.env.qual ++ "<lambda>"))) { s with heap:=h',gens:=s.gens,drawn:=s.drawn,toks:=tk }:=by
   refine I.step (ch:=[]) (fun _ z=>nomatch z) (fun b o _ _ _ e n=>j b o (fun z=>by rw[z,g]at n;cases n) e) (fun b o _ _ _ e n=>⟨o.slots,j b o (fun z=>by rw[z,g]at n;cases n) e⟩) (fun b o _ e n=>?_) (fun b o _ e=>?_) (fun b xs e=>y e fun _ z=>by cases z) (fun b o u e=>y e fun _ z=>by cases z) (fun b E e=>?_) (fun m hn=>hn.extBut j fun z=>?_) (fun b u e=>?_) I.bare
   ·rw[Zd (Sf (Si (Se e) D)),Zd fun z=>by rw[z,g]at n;cases n]
    exact n
   ·by_cases z:b=P
    ·exact⟨_,by rw[z];exact Y⟩
    ·exact⟨o,j b o z e⟩
   ·by_cases z:b=P
    ·subst z
     rw[g]at e;obtain rfl:x=E:=by injection e with e;injection e
     exact⟨#[rawInt pos.line,rawInt pos.col,.ref f],by rw[Zd cP.symm,Zg]⟩
    ·exact⟨#[],by rw[Zd (ZI e G),Zd z,e];simp⟩
   ·have:=I.free
    rw[z,g]at this;cases this
   ·by_cases z:b=f
    ·subst z
     rw[Zg]at e;obtain rfl:=So e;exact vD c0
    ·rw[Zd z]at e
     by_cases J:b=P
     ·subst J
      rw[Zg]at e;obtain rfl:=So e;exact Y
     ·rw[Zd J]at e
      refine(I.hok b u e).stay (fun O u' B v=>j O u' (fun T=>?_) v) (fun O v=>y v fun _ z=>by cases z) (fun O xs v=>y v fun _ z=>by cases z);rcases B with rfl|B
      ·exact J T
      ·rw[T,g]at B;cases B
  have L:=I1.laid (a:=h'.objs.size) (o:=UH h'.objs.size (X.env.qual ++ "<lambda>") params body scope ((X.mg "__name__").getD .none) f i) (t':=tk) (h':=h'.push (W.kla_obj "<lambda>" (X.env.qual ++ "<lambda>") params body scope [] ((X.mg "__name__").getD .none) f i)) (fun b u e=>Sc _ e) (Sg _) (vE (Sd _ R));have nf:H h'.objs.size=none:=I.hok.fresh (Sh D (Nat.le_of_lt U));exact⟨.ref _,_,L,R,q _ f i nf G (Nat.ne_of_gt U)⟩
 ·refine W.kla_makeFunctionHit (mg:=X.mg) Z I.ok.glob (I.mod.glob.keeps I.bk) b0 (C.keeps I.bk) M Q hf hb fun i h' tk hk a0=>?_
  have L:=I.laid (a:=h'.objs.size) (o:=UH h'.objs.size (X.env.qual ++ "<lambda>") params body scope ((X.mg "__name__").getD .none) f i) (t':=tk) (h':=h'.push (W.kla_obj "<lambda>" (X.env.qual ++ "<lambda>") params body scope [] ((X.mg "__name__").getD .none) f i)) (fun b u e=>Sc _ (hk b u e)) a0 (vE (Sd _ R));exact⟨.ref _,_,L,R,q _ i (I.hok.fresh a0)⟩
theorem Vf.okC{x qual:Str}{st:Stmt}{f:Addr}{g:OI}{N e:OB}{k:Nat}{sp:Sp}(F:Vf K x qual st f g)(S:Zy N e (Zw st))(len:∀vs H Q E,sp vs H Q E->vs.length=e.length)
  (y:∀(c:Value) (A:Around) (outer:List Env) (s:Shared) (H:Hp) (vs:List V) (Q:VK) (E:XK),g.code=c->Yb k (A.deeper (envOfC qual (Zw st) s.heap.objs.size f c))->sp vs H Q E ->
   ∃t,XF (Wv Zo P w K mg base N qual (Zw st) f c A outer s H E).nox (Wf st) t/\t { nx:=fun _ n=>Q .non n,rt:=Q } (WD N vs) H):Zn P w K mg base Zo (k+1) f g e sp:=by
 obtain⟨C,G,kV,D,B,I,c,ct,J,rfl,v,u⟩:=F.ex;refine J3 v u S len fun A outer s H vs Q E i j=>?_;obtain⟨t,h,q⟩:=y c A outer s H vs Q E R i j;exact⟨t,h.nox,q⟩
end L2
namespace K1
open PySem L2
def Xp(lt:Addr)(pos:Pos)(q:Str)(H:Hp):Prop:=H lt=some (.tbl #[])\/∃c,H lt=some (.tbl #[rawInt pos.line,rawInt pos.col,.ref c])/\H c=some (XJ c q)
theorem Xp.same(s:Zc H c)(h:Xp lt pos q H):Xp lt pos q c:=by
 rcases h with h|⟨f,h,e⟩
 ·exact .inl (s _ _ h)
 ·exact .inr ⟨f,s _ _ h,s _ _ e⟩
theorem Xp.at(h:Xp lt pos q H):∃c,H lt=some (.tbl c):=by
 rcases h with h|⟨f,h,e⟩
 ·exact⟨_,h⟩
 ·exact⟨_,h⟩
theorem ZfF{params:Arguments}{body:Expr}(h:Xp lt pos q H)
  (k:∀(f c:Addr) (g:Value) (H':Hp),Zc (wo H lt) H'->Xp lt pos q H'->H' f=some (UH f q params body scope ((mg "__name__").getD .none) c g)->H' c=some (XJ c q)->Q (.ref f) H'):vF lt mg q params body scope pos x H Q:=by
 rcases h with h|⟨c,h,j⟩
 ·refine⟨#[],h,trivial,.inl ⟨R,fun f c g i u ne=>?_⟩⟩
  have nf:lt≠f:=ZI h i;have y:lt≠c:=ZI h u;have v:(upd (upd (upd H lt (.tbl (#[] ++ #[rawInt pos.line,rawInt pos.col,.ref c]))) c (XJ c q)) f (UH f q params body scope ((mg "__name__").getD .none) c g)) c=some (XJ c q):=by
   rw[Zd (Ne.symm ne),Zg]
  refine k f c g _ (fun a o e=>?_) (.inr ⟨c,?_,v⟩) Zg v
  ·obtain⟨n,e⟩:=Yn e
   rw[Zd (ZI e i),Zd (ZI e u),Zd n];exact e
  ·rw[Zd nf,Zd y,Zg];rfl
 ·refine⟨_,h,trivial,.inr ⟨c,?_,fun f g i=>?_⟩⟩
  ·show codeAmong pos [rawInt pos.line,rawInt pos.col,.ref c]=some (.ref c)
   simp[codeAmong,rawInt]
  ·have s:=Zu i (UH f q params body scope ((mg "__name__").getD .none) c g)
   exact k f c g _ (Wx.trans s) (.inr ⟨c,s _ _ h,s _ _ j⟩) Zg (s _ _ j)
theorem Xp.put(h:Xp lt pos q H)(e:H a=some (.lst xs)):Xp lt pos q (upd H a o):=by
 rcases h with h|⟨f,h,c⟩
 ·exact .inl (by rw[Zd fun z=>by rw[z,e]at h;cases h];exact h)
 ·exact .inr ⟨f,by rw[Zd fun z=>by rw[z,e]at h;cases h];exact h,by rw[Zd fun z=>by rw[z,e]at c;cases c];exact c⟩
theorem Ul(h:H lt=some (.tbl c))(e:H a=some o)(n:∀c,o≠.tbl c):wo H lt a=some o :=
 ZT e fun z=>by rw[z,h]at e;exact n c (So e).symm
end K1
namespace L2
open PySem PySem.Spec PyProof.Rows
structure SB(k₀:SortKind)(a₀:Array Keyed)(st:SortSt):Prop where
 perm:(arrOf st).Perm a₀
 kind:kindOf st=k₀
 failed:failedOf st=none
 pend:pendingOf st = #[]
theorem SB.size{c:SortKind}{a₀:Array Keyed}{st:SortSt}(h:SB c a₀ st):(arrOf st).size=a₀.size:=h.perm.size_eq
theorem SB.arr{c:SortKind}{a₀:Array Keyed}{st:SortSt}(h:SB c a₀ st){xs:Array Keyed}(p:xs.Perm (arrOf st)):SB c a₀ (setArr st xs):=⟨p.trans h.perm,h.kind,h.failed,h.pend⟩
def UI(prog:Program)(w:World)(A:Around)(s:Shared)(c:SortKind)(κ:PyProof.Rows.KeyKind):Prop :=
 ∀(E:Ot) (x y:Value) (a b:κ.α) (Q:Bool->Shared->Prop),κ.keyOf x=some a->κ.keyOf y=some b->Q (κ.blt a b) s->wpAny (model prog w) A (keyLt' c x y) Q E s
section
variable{k₀:SortKind}{κ:PyProof.Rows.KeyKind}{a₀:Array Keyed}
theorem vG{st:SortSt}(c:SB k₀ a₀ st)(f:KeysOf κ a₀){i:Nat}(hi:i<a₀.size):∃x p,(arrOf st)[i]? = some (x,p)/\κ.keyOf x=some (KK κ (arrOf st) i):=by
 have g:i<(arrOf st).size:=by rw[c.size];exact hi
 have e:(arrOf st)[i]? = some (arrOf st)[i]:=getElem?_pos _ i g;have mem:(arrOf st)[i]∈a₀.toList:=(Array.perm_iff_toList_perm.mp c.perm).mem_iff.mp (by simp);obtain⟨a,ha⟩:=f _ mem;refine⟨(arrOf st)[i].1,(arrOf st)[i].2,e,?_⟩;rw[ha];unfold KK;rw[e];show some a=some ((κ.keyOf (arrOf st)[i].1).getD κ.dflt);rw[ha];rfl
theorem F8{st:SortSt}{i j:Nat}{Q:Option Bool->SortSt->Prop}(f:UI prog w A s k₀ κ)(c:SB k₀ a₀ st)(e:KeysOf κ a₀)(hi:i<a₀.size)(v:j<a₀.size)
  (h:Q (some (κ.blt (KK κ (arrOf st) i) (KK κ (arrOf st) j))) st):wpS (model prog w) A E s (ltAt' i j) Q st:=by
 obtain⟨x,p,n,B⟩:=vG c e hi;obtain⟨y,q,g,u⟩:=vG c e v;rw[ltAt'_eq];apply wpS_bind;apply wpS_get;apply wpS_bind;rw[elem'_eq,n];apply wpS_pure;apply wpS_bind;rw[elem'_eq,g];apply wpS_pure;rw[lt'_eq];apply wpS_bind;apply wpS_get;apply wpS_bind;rw[c.kind];refine wpS_lift (wpAny_attempt (f _ x y _ _ _ B u ⟨R,?_⟩));exact wpS_pure h
theorem ZfG{xs:Array Keyed}(q:k<xs.size)(x:l<=k)(g:SortedToK κ xs k)(lo:∀i,i<l->κ.kle (KK κ xs i) (KK κ xs k))(hi:∀i,l<=i->i<k->κ.klt (KK κ xs k) (KK κ xs i)):SortedToK κ (bubble xs k (k - l)) (k+1):=by
 intro i j u v;rw[KK_bubble q (by lia) i,KK_bubble q (by lia) j];have e:k - (k - l)=l:=by lia
 rw[e];by_cases n:i=l
 ·rw[SW n]
  by_cases c:j=l
  ·rw[SW c];exact KeyOrd.kle_refl _
  ·rw[SV c]
   by_cases f:l<j/\j<=k
   ·rw[SW f];exact KeyOrd.kle_of_klt (hi (j - 1) (by lia) (by lia))
   ·omega
 ·rw[SV n]
  by_cases h:l<i/\i<=k
  ·rw[SW h]
   have c:¬ j=l:=by lia
   have f:l<j/\j<=k:=by lia
   rw[SV c,SW f];exact g (i - 1) (j - 1) (by lia) (by lia)
  ·rw[SV h]
   by_cases c:j=l
   ·rw[SW c];exact lo i (by lia)
   ·rw[SV c]
    by_cases f:l<j/\j<=k
    ·rw[SW f];exact g i (j - 1) (by lia) (by lia)
    ·rw[SV f];exact g i j u (by lia)
theorem ZfH{st:SortSt}{n ok:Nat}{Q:Bool->SortSt->Prop}(O:UI prog w A s k₀ κ)(J:KeysOf κ a₀)(hn:n<=a₀.size)(hok:ok<=n)(T:SB k₀ a₀ st)(D:SortedToK κ (arrOf st) ok)
  (h:∀e,SB k₀ a₀ e->SortedToK κ (arrOf e) n->Q true e):wpS (model prog w) A E s (binarySort' 0 n ok) Q st:=by
 rw[binarySort'_eq];simp only[Nat.zero_add];apply wpS_bind;refine wpS_mono (Q:=fun c e=>c=(none,())/\SB k₀ a₀ e/\SortedToK κ (arrOf e) n) (wpS_forRange (fun k c e=>c=(none,())/\SB k₀ a₀ e/\(k<=n->SortedToK κ (arrOf e) k)/\(n<k->SortedToK κ (arrOf e) n)) ?_ ?_ ?_) ?_
 ·rintro k c e X Z ⟨rfl,u,y,_⟩
  have I:k<a₀.size:=by lia
  have B:=y (by lia);apply wpS_bind;refine wpS_mono (Q:=fun c f=>f=e/\∃l r,c=(none,l,r)/\l<=k/\(∀i,i<l->κ.kle (KK κ (arrOf e) i) (KK κ (arrOf e) k))/\∀i,l<=i->i<k->κ.klt (KK κ (arrOf e) k) (KK κ (arrOf e) i))
   (wpS_forRange (fun x c f=>f=e/\∃l r,c=(none,l,r)/\l<=r/\r<=k/\r+x<=l+k/\(∀i,i<l->κ.kle (KK κ (arrOf e) i) (KK κ (arrOf e) k))/\∀i,r<=i->i<k->κ.klt (KK κ (arrOf e) k) (KK κ (arrOf e) i)) ?_ ?_ ?_) ?_
  ·rintro x c f _ Y ⟨rfl,l,r,rfl,P,H,hm,lo,g⟩
   dsimp only;by_cases G:l ≥ r
   ·rw[SW G]
    exact wpS_pure ⟨R,l,r,R,by lia,lo,fun i q v=>g i (by lia) v⟩
   ·rw[SV G]
    apply wpS_bind;refine F8 O u J I (by lia) ?_;dsimp only;cases c:κ.blt (KK κ (arrOf f) k) (KK κ (arrOf f) ((l+r)/2))with
    |true =>
     rw[SW R];refine wpS_pure ⟨R,l,(l+r)/2,R,by lia,by lia,by lia,lo,fun i q v=>?_⟩;exact KeyOrd.klt_of_klt_of_kle c (B ((l+r)/2) i q v)
    |false =>
     rw[SV SO];refine wpS_pure ⟨R,(l+r)/2+1,r,R,by lia,by lia,by lia,fun i q=>?_,g⟩;exact KeyOrd.kle_trans (B i ((l+r)/2) (by lia) (by lia)) c
  ·rintro c f ⟨rfl,l,r,rfl,P,H,hm,lo,g⟩
   have:l=r:=by lia
   subst this;exact⟨R,l,l,R,H,lo,g⟩
  ·exact⟨R,0,k,R,by lia,by lia,by lia,fun i g=>by lia,fun i q v=>by lia⟩
  ·rintro c f ⟨rfl,l,r,rfl,L,lo,g⟩
   dsimp only;apply wpS_bind;rw[moveDown'_eq];apply wpS_modify;have S:k<(arrOf f).size:=by rw[u.size];exact I
   have sp:=ZfG S L B lo g;exact wpS_pure ⟨R,u.arr (bubble_perm _ _ _),fun _=>sp,fun z=>Oq z (by lia)⟩
 ·rintro c e ⟨M,u,q,v⟩
  refine⟨M,u,?_⟩;by_cases z:max (max ok 1) n<=n
  ·have:max (max ok 1) n=n:=by lia
   rw[this]at q;exact q (Sg _)
  ·exact v (by lia)
 ·refine⟨R,T,fun _=>?_,fun _=>?_⟩
  ·intro i j C U
   by_cases z:ok=0
   ·have:i=j:=by lia
    subst this;exact KeyOrd.kle_refl _
   ·exact D i j C (by lia)
  ·intro i j C U
   by_cases z:ok=0
   ·have:i=j:=by lia
    subst this;exact KeyOrd.kle_refl _
   ·exact D i j C (by lia)
 ·rintro c e ⟨rfl,u,y⟩
  exact wpS_pure (h e u y)
theorem ZfI(h:1<=n)(c:SortedToK κ xs n)(k:κ.kle (KK κ xs (n - 1)) (KK κ xs n)):SortedToK κ xs (n+1):=by
 intro i j g q;by_cases e:j=n
 ·subst e
  by_cases f:i=j
  ·subst f;exact KeyOrd.kle_refl _
  ·exact KeyOrd.kle_trans (c i (j - 1) (by lia) (by lia)) k
 ·exact c i j g (by lia)
theorem F9(h:1<=n)(c:NonIncK κ xs n)(k:κ.kle (KK κ xs n) (KK κ xs (n - 1))):NonIncK κ xs (n+1):=by
 intro i j g q;by_cases e:j=n
 ·subst e
  by_cases f:i=j
  ·subst f;exact KeyOrd.kle_refl _
  ·exact KeyOrd.kle_trans k (c i (j - 1) (by lia) (by lia))
 ·exact c i j g (by lia)
theorem vH{st:SortSt}{a e:Nat}{Q:AscSt->SortSt->Prop}(j:UI prog w A s k₀ κ)(i:KeysOf κ a₀)(hn:e<=a₀.size)(ha:1<=a)(v:a<=e)(u:SB k₀ a₀ st)(q:SortedToK κ (arrOf st) a)
  (h:∀n,a<=n->n<=e->SortedToK κ (arrOf st) n->(n=e\/κ.klt (KK κ (arrOf st) n) (KK κ (arrOf st) (n - 1)))->Q (none,n) st):wpS (model prog w) A E s (ascLoop a e) Q st:=by
 unfold ascLoop;refine wpS_forRange (fun x c f=>f=st/\c=(none,x)/\SortedToK κ (arrOf st) x) ?_ ?_ ⟨R,R,q⟩
 ·rintro x c f y B ⟨rfl,rfl,g⟩
  dsimp only;apply wpS_bind;refine F8 j u i (by lia) (by lia) ?_;dsimp only;cases c:κ.blt (KK κ (arrOf f) x) (KK κ (arrOf f) (x - 1))with
  |true =>
   rw[SW R];exact wpS_pure (h x y (by lia) g (.inr c))
  |false =>
   rw[SV SO];exact wpS_pure ⟨R,R,ZfI (by lia) g c⟩
 ·rintro c f ⟨rfl,rfl,g⟩
  rw[show max a e=e by lia]at g ⊢;exact h e v (Sg _) g (.inl R)
theorem ZfJ{xs:Array Keyed}(hn:n<=xs.size)(h:NonIncK κ xs n):SortedToK κ (mirror xs 0 n ((n - 0)/2)) n:=by
 intro i j e c;rw[KK_mirror hn i,KK_mirror hn j,SW (by lia),SW (by lia)];exact h _ _ (by lia) (by lia)
theorem vI{st:SortSt}{n c:Nat}{Q:Option Nat->SortSt->Prop}(j:UI prog w A s k₀ κ)(i:KeysOf κ a₀)(hn:c<=a₀.size)(h1:1<=n)(q:n<=c)(f:SB k₀ a₀ st)(u:NonIncK κ (arrOf st) n)
  (h:∀m e,SB k₀ a₀ e->1<=m->m<=c->SortedToK κ (arrOf e) m->Q (some m) e):wpS (model prog w) A E s (tail3 n c) Q st:=by
 unfold tail3;apply wpS_bind;refine wpS_reverse ?_;apply wpS_bind;have g:SB k₀ a₀ (setArr st (mirror (arrOf st) 0 n ((n - 0)/2))):=f.arr (mirror_perm _ _ _ _);refine vH j i hn h1 q g (ZfJ (by rw[f.size];lia) u) fun m y v x _=>?_;exact wpS_pure (h m _ g (by lia) v x)
theorem ZfK{st:SortSt}{n u:Nat}{Q:DescSt->SortSt->Prop}(H:UI prog w A s k₀ κ)(G:KeysOf κ a₀)(hn:u<=a₀.size)(h1:1<=n)(S:n<=u)(O:SB k₀ a₀ st)(L:NonIncK κ (arrOf st) n)
  (h:∀m q e,SB k₀ a₀ e->n<=m->m<=u->q+1<=m->NonIncK κ (arrOf e) m->(∀k,m - (q+1)<=k->k<m->KK κ (arrOf e) k=KK κ (arrOf e) (m - 1))->Q (none,m,q) e):wpS (model prog w) A E s (descLoop n u) Q st:=by
 unfold descLoop;refine wpS_forRange (fun x c e=>∃q,c=(none,x,q)/\SB k₀ a₀ e/\q+1<=x/\NonIncK κ (arrOf e) x/\∀k,x - (q+1)<=k->k<x->KK κ (arrOf e) k=KK κ (arrOf e) (x - 1)) ?_ ?_ ⟨0,R,O,by lia,L,fun k D C=>by rw[show k=n - 1 by lia]⟩
 ·rintro x c e M Y ⟨q,rfl,f,B,g,v⟩
  dsimp only;apply wpS_bind;refine F8 H f G (by lia) (by lia) ?_;dsimp only;cases c:κ.blt (KK κ (arrOf e) x) (KK κ (arrOf e) (x - 1))with
  |true =>
   rw[SW R];by_cases I:q>0
   ·rw[SW I]
    apply wpS_bind;refine wpS_reverse ?_;have y:∀k,KK κ (mirror (arrOf e) (x - (q+1)) x ((x - (x - (q+1)))/2)) k=KK κ (arrOf e) k:=fun k=>KK_mirror_equal (by rw[f.size];lia) v k;refine wpS_pure ⟨0,R,f.arr (mirror_perm _ _ _ _),by lia,?_,fun k D C=>by rw[show k=x+1 - 1 by lia]⟩;refine F9 (by lia) (fun i j X U=>?_) ?_
    ·show κ.kle (KK κ (mirror (arrOf e) (x - (q+1)) x ((x - (x - (q+1)))/2)) j) (KK κ (mirror (arrOf e) (x - (q+1)) x ((x - (x - (q+1)))/2)) i)
     rw[y,y];exact g i j X U
    ·show κ.kle (KK κ (mirror (arrOf e) (x - (q+1)) x ((x - (x - (q+1)))/2)) x) (KK κ (mirror (arrOf e) (x - (q+1)) x ((x - (x - (q+1)))/2)) (x - 1))
     rw[y,y];exact KeyOrd.kle_of_klt c
   ·rw[SV I]
    exact wpS_pure ⟨0,R,f,by lia,F9 (by lia) g (KeyOrd.kle_of_klt c),fun k D C=>by rw[show k=x+1 - 1 by lia]⟩
  |false =>
   rw[SV SO];apply wpS_bind;refine F8 H f G (by lia) (by lia) ?_;dsimp only;cases J:κ.blt (KK κ (arrOf e) (x - 1)) (KK κ (arrOf e) x)with
   |true =>
    rw[SW R];exact wpS_pure (h x q e f M (by lia) B g v)
   |false =>
    rw[SV SO];have P:KK κ (arrOf e) x=KK κ (arrOf e) (x - 1):=κ.total _ _ c J;refine wpS_pure ⟨q+1,R,f,by lia,F9 (by lia) g J,fun k D C=>?_⟩;rw[show x+1 - 1=x by lia];by_cases z:k=x
    ·rw[z]
    ·rw[P]
     exact v k (by lia) (by lia)
 ·rintro c e ⟨q,rfl,f,B,g,v⟩
  have T:max n u=u:=by lia
  rw[T]at B g v ⊢;exact h u q e f S (Sg _) B g v
theorem vJ{st:SortSt}{n e:Nat}{Q:Option Nat->SortSt->Prop}(g:UI prog w A s k₀ κ)(f:KeysOf κ a₀)(hn:e<=a₀.size)(H:n+1<=e)(G:SB k₀ a₀ st)(D:NonIncK κ (arrOf st) (n+1))
  (h:∀m c,SB k₀ a₀ c->1<=m->m<=e->SortedToK κ (arrOf c) m->Q (some m) c):wpS (model prog w) A E s (descPart n e) Q st:=by
 unfold descPart;apply wpS_bind;refine wpS_lift (wpAny_rule ⟨R,?_⟩);apply wpS_bind;refine ZfK g f hn (by lia) H G D fun m q c u L y M x C=>?_;dsimp only;by_cases B:q>0
 ·rw[SW B]
  apply wpS_bind;refine wpS_reverse ?_;have v:∀k,KK κ (mirror (arrOf c) (m - (q+1)) m ((m - (m - (q+1)))/2)) k=KK κ (arrOf c) k:=fun k=>KK_mirror_equal (by rw[u.size];lia) C k;refine vI g f hn (by lia) y (u.arr (mirror_perm _ _ _ _)) (fun i j J I=>?_) h;show κ.kle (KK κ (mirror (arrOf c) (m - (q+1)) m ((m - (m - (q+1)))/2)) j) (KK κ (mirror (arrOf c) (m - (q+1)) m ((m - (m - (q+1)))/2)) i);rw[v,v];exact x i j J I
 ·rw[SV B]
  exact vI g f hn (by lia) y u x h
theorem ZfL{st:SortSt}{q:Nat}{Q:Option Nat->SortSt->Prop}(x:UI prog w A s k₀ κ)(u:KeysOf κ a₀)(hn:q<=a₀.size)(h1:1<=q)(f:SB k₀ a₀ st)
  (h:∀m B,SB k₀ a₀ B->1<=m->m<=q->SortedToK κ (arrOf B) m->Q (some m) B):wpS (model prog w) A E s (countRun' 0 q) Q st:=by
 rw[countRun0_eq];apply wpS_bind;refine vH x u hn (Sg 1) h1 f (fun i j I D=>by have:i=j:=(by lia);subst this;exact KeyOrd.kle_refl _) fun n H G y J=>?_;dsimp only;by_cases e:n=q
 ·rw[SW (by simpa using e)]
  exact wpS_pure (h n st f H G y)
 ·rw[SV (by simpa using e)]
  have lt:=J.resolve_left e;by_cases g:n>1
  ·rw[SW g]
   apply wpS_bind;refine F8 x f u (by lia) (by lia) ?_;dsimp only;cases c:κ.blt (KK κ (arrOf st) 0) (KK κ (arrOf st) (n - 1))with
   |true =>
    rw[SW R];exact wpS_pure (h n st f H G y)
   |false =>
    rw[SV SO];apply wpS_bind;refine wpS_reverse ?_;have C:∀k,0<=k->k<n->KK κ (arrOf st) k=KK κ (arrOf st) (n - 1):=fun k _ L=>KeyOrd.kle_antisymm (y k (n - 1) (by lia) (by lia)) (KeyOrd.kle_trans c (y 0 k (by lia) L));have v:∀k,KK κ (mirror (arrOf st) 0 n ((n - 0)/2)) k=KK κ (arrOf st) k:=fun k=>KK_mirror_equal (by rw[f.size];lia) C k;refine vJ x u hn (by lia) (f.arr (mirror_perm _ _ _ _)) (F9 (by lia) (fun i j I D=>?_) ?_) h
    ·show κ.kle (KK κ (mirror (arrOf st) 0 n ((n - 0)/2)) j) (KK κ (mirror (arrOf st) 0 n ((n - 0)/2)) i)
     rw[v,v,C i (by lia) (by lia),C j (by lia) D];exact KeyOrd.kle_refl _
    ·show κ.kle (KK κ (mirror (arrOf st) 0 n ((n - 0)/2)) n) (KK κ (mirror (arrOf st) 0 n ((n - 0)/2)) (n - 1))
     rw[v,v];exact KeyOrd.kle_of_klt lt
  ·rw[SV g]
   have M:n=1:=by lia
   subst M;exact vJ x u hn (by lia) f (F9 (by lia) (fun i j I D=>by have:i=j:=(by lia);subst this;exact KeyOrd.kle_refl _) (KeyOrd.kle_of_klt lt)) h
theorem ZfM{st:SortSt}{Q:Unit->SortSt->Prop}(y:UI prog w A s k₀ κ)(v:KeysOf κ a₀)(q:SB k₀ a₀ st)(P:2<=a₀.size)(J:a₀.size<64)
  (h:∀f,(arrOf f).Perm a₀->failedOf f=none->SortedToK κ (arrOf f) a₀.size->Q () f):wpS (model prog w) A E s sortRuns' Q st:=by
 rw[sortRuns'_eq];apply wpS_bind;apply wpS_get;have I:minRun' (arrOf st).size (arrOf st).size 0=a₀.size:=by
  rw[q.size];obtain⟨m,e⟩:∃m,a₀.size=m+1:=⟨a₀.size - 1,by lia⟩;rw[e,minRun'_succ,SW (by lia)]
 dsimp only;rw[I,q.size];apply wpS_bind;refine wpS_mono (Q:=fun c f=>c=(none,a₀.size)/\(arrOf f).Perm a₀/\failedOf f=none/\pendingOf f = #[(0,a₀.size,0)]/\SortedToK κ (arrOf f) a₀.size) (wpS_forRange (fun x c f=>(x=0/\c=(none,0)/\f=st)\/(1<=x/\c=(none,a₀.size)/\(arrOf f).Perm a₀/\failedOf f=none/\pendingOf f = #[(0,a₀.size,0)]/\SortedToK κ (arrOf f) a₀.size)) ?_ ?_ (.inl ⟨R,R,R⟩)) ?_
 ·rintro x c f _ O (⟨rfl,rfl,rfl⟩|⟨S,rfl,r1,u,r3,n⟩)
  ·dsimp only
   rw[SV (by lia)];apply wpS_bind;refine ZfL y v (by lia) (by lia) q fun m H i M L B=>?_;dsimp only;by_cases hm:m<a₀.size
   ·rw[SW hm]
    apply wpS_bind;refine wpS_lift (wpAny_rule ⟨R,?_⟩);apply wpS_bind;refine ZfH y v (by lia) (by lia) i B fun G j C=>?_;rw[SV (by lia)];apply wpS_bind;apply wpS_get;rw[show min (a₀.size - 0) a₀.size=a₀.size by lia]at C ⊢;rw[j.pend];show wpS _ _ _ _ (modify _ >>= fun _=>pure _) _ _;apply wpS_bind;apply wpS_modify;refine wpS_pure (.inr ⟨by lia,by rw[Nat.zero_add],j.perm,j.failed,?_,C⟩);show(pendingOf G).push (0,a₀.size,0)=_;rw[j.pend];rfl
   ·rw[SV hm]
    have D:m=a₀.size:=by lia
    subst D;apply wpS_bind;apply wpS_get;rw[i.pend];show wpS _ _ _ _ (modify _ >>= fun _=>pure _) _ _;apply wpS_bind;apply wpS_modify;refine wpS_pure (.inr ⟨by lia,by rw[Nat.zero_add],i.perm,i.failed,?_,B⟩);show(pendingOf H).push (0,a₀.size,0)=_;rw[i.pend];rfl
  ·dsimp only
   rw[SW (by lia)];exact wpS_pure ⟨R,r1,u,r3,n⟩
 ·rintro c f (⟨e,_⟩|⟨_,r⟩)
  ·omega
  ·exact r
 ·rintro c f ⟨rfl,r1,u,r3,n⟩
  dsimp only;apply wpS_bind;refine wpS_mono (Q:=fun c g=>c=(none,())/\g=f) (wpS_forRange (fun x c g=>c=(none,())/\g=f) ?_ ?_ ⟨R,R⟩) ?_
  ·rintro x c g _ _ ⟨rfl,rfl⟩
   apply wpS_bind;apply wpS_get;rw[SW (by rw[r3];exact Sg 1)];exact wpS_pure ⟨R,R⟩
  ·rintro c g z
   exact z
  ·rintro c g ⟨rfl,rfl⟩
   exact wpS_pure (h g r1 u n)
end
def UJ:Sum Int (List Nat)->Sum Int (List Nat)->Bool
 |.inl a,.inl b=>decide (a<b)
 |.inl _,.inr _=>true
 |.inr _,.inl _=>false
 |.inr a,.inr b=>decide (a<b)
@[reducible] def Vj:KeyOrd where
 α:=Sum Int (List Nat)
 blt:=UJ
 irrefl a:=by
  cases a with
  |inl a=>exact SR (Int.lt_irrefl a)
  |inr a=>exact strKind.irrefl a
 trans a b c h1 h2:=by
  cases a with
  |inl a =>
   cases b with
   |inl b =>
    cases c with
    |inl c =>
     have h1:=SS h1;have h2:=SS h2;exact SQ (Int.lt_trans h1 h2)
    |inr c=>rfl
   |inr b =>
    cases c with
    |inl c=>cases h2
    |inr c=>rfl
  |inr a =>
   cases b with
   |inl b=>cases h1
   |inr b =>
    cases c with
    |inl c=>cases h2
    |inr c=>exact strKind.trans a b c h1 h2
 negTrans a b c h:=by
  cases a with
  |inl a =>
   cases b with
   |inl b =>
    cases c with
    |inl c =>
     have h:=SS h;by_cases z:a<b
     ·exact .inl (SQ z)
     ·exact .inr (SQ (by lia))
    |inr c=>exact .inr rfl
   |inr b=>exact .inl rfl
  |inr a =>
   cases c with
   |inl c=>cases h
   |inr c =>
    cases b with
    |inl b=>exact .inr rfl
    |inr b=>exact strKind.negTrans a b c h
 total a b h1 h2:=by
  cases a with
  |inl a =>
   cases b with
   |inl b =>
    have h1:=SU h1;have h2:=SU h2;rw[show a=b by lia]
   |inr b=>cases h1
  |inr a =>
   cases b with
   |inl b=>cases h2
   |inr b=>rw[strKind.total a b h1 h2]
def Xb(O:KeyOrd):List O.α->List O.α->Bool
 |[],[]=>false
 |[],_::_=>true
 |_::_,[]=>false
 |a::c,b::bs=>if O.blt a b=true then true else if O.blt b a=true then false else Xb O c bs
theorem Wy{O:KeyOrd}{a b:O.α}{g bs:List O.α}:Xb O (a::g) (b::bs)=true↔O.blt a b=true\/(a=b/\Xb O g bs=true):=by
 show(if O.blt a b=true then true else if O.blt b a=true then false else Xb O g bs)=true↔_;by_cases c:O.blt a b=true
 ·rw[SW c];exact⟨fun _=>.inl c,fun _=>R⟩
 ·rw[SV c]
  by_cases f:O.blt b a=true
  ·rw[SW f]
   refine⟨fun z=>(by cases z),fun z=>?_⟩;rcases z with z|⟨z,_⟩
   ·exact Oq z c
   ·subst z;exact Oq f c
  ·rw[SV f]
   have e:a=b:=O.total a b (Oh.mpr c) (Oh.mpr f);exact⟨fun z=>.inr ⟨e,z⟩,fun z=>z.elim (fun z=>Oq z c) (·.2)⟩
theorem MN{O:KeyOrd}:∀a:List O.α,Xb O a a=false
 |[]=>rfl
 |a::c=>by
  rw[Oh];intro z;rcases Wy.mp z with z|⟨_,z⟩
  ·rw[O.irrefl]at z;cases z
  ·rw[MN c]at z;cases z
theorem vK{O:KeyOrd}:∀a b c:List O.α,Xb O a b=true->Xb O b c=true->Xb O a c=true
 |[],[],_,h1,_=>by cases h1
 |[],_::_,[],_,e=>by cases e
 |[],_::_,_::_,_,_=>rfl
 |_::_,[],_,h1,_=>by cases h1
 |_::_,_::_,[],_,e=>by cases e
 |a::h,b::bs,c::cs,h1,e=>by
  refine Wy.mpr ?_;rcases Wy.mp h1 with g1|⟨g,g1⟩
  ·rcases Wy.mp e with g2|⟨f,g2⟩
   ·exact .inl (O.trans _ _ _ g1 g2)
   ·rw[<-f];exact .inl g1
  ·rcases Wy.mp e with g2|⟨f,g2⟩
   ·rw[g];exact .inl g2
   ·exact .inr ⟨g.trans f,vK h bs cs g1 g2⟩
theorem vL{O:KeyOrd}:∀a b c:List O.α,Xb O a c=true->Xb O a b=true\/Xb O b c=true
 |[],_,[],h=>by cases h
 |[],[],_::_,_=>.inr R
 |[],_::_,_::_,_=>.inl R
 |_::_,_,[],h=>by cases h
 |_::_,[],_::_,_=>.inr R
 |a::j,b::bs,c::cs,h=>by
  rcases Wy.mp h with g|⟨f,g⟩
  ·rcases O.negTrans a b c g with z|z
   ·exact .inl (Wy.mpr (.inl z))
   ·exact .inr (Wy.mpr (.inl z))
  ·by_cases h1:O.blt a b=true
   ·exact .inl (Wy.mpr (.inl h1))
   ·by_cases i:O.blt b a=true
    ·rw[<-f];exact .inr (Wy.mpr (.inl i))
    ·have e:a=b:=O.total a b (Oh.mpr h1) (Oh.mpr i)
     subst e;rcases vL j bs cs g with z|z
     ·exact .inl (Wy.mpr (.inr ⟨R,z⟩))
     ·exact .inr (Wy.mpr (.inr ⟨f,z⟩))
theorem vM{O:KeyOrd}:∀a b:List O.α,Xb O a b=false->Xb O b a=false->a=b
 |[],[],_,_=>rfl
 |[],_::_,h,_=>by cases h
 |_::_,[],_,h=>by cases h
 |a::f,b::bs,h1,c=>by
  have n:O.blt a b=false:=Oh.mpr fun z=>by rw[Wy.mpr (.inl z)]at h1;cases h1
  have i:O.blt b a=false:=Oh.mpr fun z=>by rw[Wy.mpr (.inl z)]at c;cases c
  have e:=O.total a b n i;subst e;have j:Xb O f bs=false:=Oh.mpr fun z=>by rw[Wy.mpr (.inr ⟨R,z⟩)]at h1;cases h1
  have g:Xb O bs f=false:=Oh.mpr fun z=>by rw[Wy.mpr (.inr ⟨R,z⟩)]at c;cases c
  rw[vM f bs j g]
def vN(O:KeyOrd):KeyOrd:=⟨List O.α,Xb O,MN,vK,vL,vM⟩
inductive ZfN(K:Ow)(neg:Bool)(x:V)(y:V)(H:Hp)(Q:VK):Prop|mk l b xs (_:x=.ref l) (_:y=.ref b) (_:Zf K H l xs) (_:Zf K H b []) (_:Q (.bl (if neg then !xs.isEmpty else xs.isEmpty)) H)
theorem vO(n:X.A.units<cLine):YF X (compareOp .NotEq) (ZfN X.K true):=by
 intro pins s M H x y v u Q I C L h;obtain⟨l,b,E,rfl,rfl,G,D,q⟩:=h;cases C;cases L;obtain⟨its,r,f,_⟩:=I.list G;obtain⟨O,J,g,_⟩:=I.list D;have c:=r.length;have i:=J.length;cases E with
 |nil =>
  refine SeqAt.RcNeAt.lists (e:=fun j=>WV (([]:List V).getD j .non) (([]:List V).getD j .non)) f.isList g.isList (by simp;simp at c i;lia) n (fun j B _=>by simp at B c;lia) _ _ _ _ ?_;rw[SN,<-c,yU [] [] R];exact⟨.bl _,H,I,R,q⟩
 |cons x P =>
  refine SeqAt.RcNeAt.lists_lengths f.isList g.isList (by simp;simp at c i;lia) n _ _ _ _ ?_;exact⟨.bl _,H,I,R,q⟩
abbrev Q9(o:Obj):HO:=.frz o (.own 0)
def lent(cs:Addr->Option Obj)(H:Hp):Hp:=fun b=>match cs b with|some o=>some (Q9 o)|none=>H b
def unl(cs:Addr->Option Obj)(H:Hp):Hp:=fun b=>match cs b with|some _=>none|none=>H b
section
variable{cs:Addr->Option Obj}{H':Hp}{h h':Heap}{b:Addr}{o:Obj}{fs:OG}
theorem A0(q:cs b=some o):lent cs H b=some (Q9 o):=by unfold lent;rw[q]
theorem Xx(q:cs b=none):lent cs H b=H b:=by unfold lent;rw[q]
theorem Qv(q:cs b=some o):unl cs H b=none:=by unfold unl;rw[q]
theorem WY(q:cs b=none):unl cs H b=H b:=by unfold unl;rw[q]
theorem G0(n:H b=none):unl cs H b=none:=by
 cases q:cs b with
 |some o=>exact Qv q
 |none=>rw[WY q];exact n
theorem Yi.lent(x:Yi P w H h)(c:∀b o,cs b=some o->h.get? b=some o/\H b=none):Yi P w (L2.lent cs H) h:=fun a u e=>by
 have no:∀b u,H b=some u->cs b=none:=fun b u e=>by
  cases q:cs b with
  |none=>rfl
  |some o=>rw[(c b o q).2]at e;cases e
 cases q:cs a with
 |some ob =>
  rw[A0 q]at e;obtain rfl:=So e;exact⟨(c a ob q).1,⟨ob,(c a ob q).1⟩⟩
 |none =>
  rw[Xx q]at e;exact(x a u e).stay (fun _ _ _ z=>z) (fun b z=>by rw[Xx (no b _ z)];exact z) fun b f z=>by rw[Xx (no b _ z)];exact z
theorem Yi.unl(x:Yi P w H h)(f:∀b o,cs b=some o->H b=some (Q9 o)):Yi P w (L2.unl cs H) h:=fun a u e=>by
 cases q:cs a with
 |some ob=>rw[Qv q]at e;cases e
 |none =>
  rw[WY q]at e;refine(x a u e).stay (fun _ _ _ z=>z) (fun b z=>?_) fun b g z=>?_
  ·cases c:cs b with
   |some ob=>rw[f b ob c]at z;cases z
   |none=>rw[WY c];exact z
  ·cases c:cs b with
   |some ob=>rw[f b ob c]at z;cases z
   |none=>rw[WY c];exact z
theorem Un.unlend(u:Un fs [] (lent cs H) H' h h')(g:∀b o,cs b=some o->h.get? b=some o/\H b=none)(ok:Yi P w H' h'):Un fs [] H (unl cs H') h h':=by
 have i:∀b o,cs b=some o->H' b=some (Q9 o):=fun b o q=>u.frzs b o _ (A0 q);have no:∀b u,H b=some u->cs b=none:=fun b u e=>by
  cases q:cs b with
  |none=>rfl
  |some o=>rw[(g b o q).2]at e;cases e
 refine⟨fun b o e n f c=>?_,fun b o e n f c=>?_,fun b o e n c=>?_,u.there,fun b v e=>?_,fun b o x e=>?_,fun b j e=>?_⟩
 ·cases q:cs b with
  |some ob =>
   have:=(g b ob q).1;rw[e]at this;obtain rfl:=So this;obtain⟨z,_⟩:=ok b _ (i b _ q);exact z
  |none=>exact u.keep b o e (by rw[Xx q];exact n) f c
 ·cases q:cs b with
  |some ob =>
   have:=(g b ob q).1;rw[e]at this;obtain rfl:=So this;obtain⟨z,_⟩:=ok b _ (i b _ q);exact⟨_,z⟩
  |none=>exact u.slot b o e (by rw[Xx q];exact n) f c
 ·cases q:cs b with
  |some ob=>exact Qv q
  |none=>rw[WY q];exact u.free b o e (by rw[Xx q];exact n) c
 ·have q:=no b _ e
  rw[WY q];exact u.tups b v (by rw[Xx q];exact e)
 ·have q:=no b _ e
  rw[WY q];exact u.frzs b o x (by rw[Xx q];exact e)
 ·have q:=no b _ e
  obtain⟨m,z⟩:=u.tbls b j (by rw[Xx q];exact e);exact⟨m,by rw[WY q];exact z⟩
theorem Un.relend(u:Un fs [] (unl cs H) H' h h')(f:∀b o,cs b=some o->H b=some (Q9 o)):Un fs [] H (lent cs H') h h':=by
 have no:∀b,H b=none->cs b=none:=fun b e=>by
  cases q:cs b with
  |none=>rfl
  |some o=>rw[f b o q]at e;cases e
 refine⟨fun b o e n g c=>?_,fun b o e n g c=>?_,fun b o e n c=>?_,u.there,fun b j e=>?_,fun b o x e=>?_,fun b i e=>?_⟩
 ·exact u.keep b o e (G0 n) g c
 ·exact u.slot b o e (G0 n) g c
 ·rw[Xx (no b n)];exact u.free b o e (G0 n) c
 ·cases q:cs b with
  |some ob=>rw[f b ob q]at e;cases e
  |none=>rw[Xx q];exact u.tups b j (by rw[WY q];exact e)
 ·cases q:cs b with
  |some ob=>rw[A0 q,<-f b ob q];exact e
  |none=>rw[Xx q];exact u.frzs b o x (by rw[WY q];exact e)
 ·cases q:cs b with
  |some ob=>rw[f b ob q]at e;cases e
  |none =>
   obtain⟨m,z⟩:=u.tbls b i (by rw[WY q];exact e);exact⟨m,by rw[Xx q];exact z⟩
end
def Um(f:Addr)(qual:Str)(params:Arguments)(body:Expr)(scope:Scope)(cl:Ox)(c:Value)(g:Addr)(e:Value):HO:=.ext fun h=>h.get? f=some (W.kla_obj "<lambda>" qual params body scope cl c g e)
theorem vP{h:Heap}{qual:Str}{params:Arguments}{body:Expr}(e:h.get? f=some (W.kla_obj "<lambda>" qual params body scope cl c i g)):Yf P w H h f (Um f qual params body scope cl c i g) :=
 ⟨e,⟨_,e⟩,fun _ _ q k=>k _ q⟩
def A1(CX:XT)(P:Program)(w:World)(K:Ow)(mg:Ov)(base:Heap)(N:OB)(qual:Str)(scope:Scope)(cl:Ox)(f:Addr)(cd:Value)(A:Around)(outer:List Env)(s:Shared)(H:Hp)(E:XK):Cx where
 prog:=P
 w:=w
 K:=K
 mg:=mg
 base:=base
 A:=A.deeper (W.envX qual scope s.heap.objs.size f cd cl)
 N:=N
 s₀:=s
 H₀:=H
 env:=W.envX qual scope s.heap.objs.size f cd cl
 outer:=outer
 stack:=W.envX qual scope s.heap.objs.size f cd cl::outer
 ex:=[]
 calm:=true
 fn:=fun _=>false
 pn:=[]
 xe:=fun e g=>wpAny (model P w) (A.deeper (W.envX qual scope s.heap.objs.size f cd cl)) (leaving (W.envX qual scope s.heap.objs.size f cd cl) e) (fun _ c=>CX outer H s E e c) (fun h c=>CX outer H s E h c) g
section
variable{N:OB}{qual:Str}{cl:Ox}{f:Addr}{cd:Value}{outer:List Env}{E:XK}
theorem MO:WC (Xo P w) (A1 (Xo P w) P w K mg base N qual scope cl f cd A outer s H E) E:=by
 intro pins D T S e i I y;obtain⟨a,C,v,rfl,os,bare,un,hok,⟨B,t,fl,ha,x⟩,o,h,Q⟩:=y;have c:Za (A1 (Xo P w) P w K mg base N qual scope cl f cd A outer s H E) pins D v i:=I.call' os un hok bare fun b z=>nomatch z;have J:(A.deeper (PySem.W.envX qual scope s.heap.objs.size f cd cl)).frames=some (PySem.W.envX qual scope s.heap.objs.size f cd cl::outer):=I.ok.frames;have sn:s.heap.get? s.heap.objs.size=none:=Heap.get?_none_of_le (Sg _);refine KC.with (e:=a) (W:=fun g=>Heap.FlyingW B outer a C (.ref t) g/\i.heap.UpToSlots g) (Ml _ _) h (wpAny_leaves_onW (L:=s.heap.objs.size) J R fl fun g j up=>⟨g,R,j,up⟩) fun g ⟨j,up⟩ h=>?_;have frd:=c.frd;obtain⟨G,M,O⟩:=Mn (P:=P) (w:=w) (L:=s.heap.objs.size) (h1:=i.heap) R sn c.base c.hok c.stkFree (fun b n o e=>frd b (J7 n) o e) (fun b o e n hn=>x b o e (n.imp (fun⟨u,q⟩=>I.base.there b u q fun z=>nomatch z) id) hn) j ha up;exact⟨a,C,v,R,c.os,c.bare,G,M,O,o,h,Q⟩
end
structure MP(N:OB)(scope:Scope)(cl:Ox)(vs:List V)(cs:Addr->Option Obj):Prop where
 len:vs.length=N.length
 val:∀(i:Nat) (x:Str) (v:V),N[i]? = some x->vs[i]? = some v->∃c o u,cl.lookup x=some c/\cs c=some o/\o.data=.cell (some u)/\ZD v u
 cell:∀x c,cl.lookup x=some c->∃o v,cs c=some o/\o.data=.cell v
 inj:∀x y c,cl.lookup x=some c->cl.lookup y=some c->x=y
 has:∀x,(scope.names.lookup x=some .cell\/scope.names.lookup x=some .free)->∃c,cl.lookup x=some c
 fre:∀x∈N,scope.names.lookup x=some .free
 dat:∀b o,cs b=some o->∃v,o.data=.cell v
theorem ZfO{CX:XT}{N:OB}{qual:Str}{cl:Ox}{f:Addr}{cd:Value}{outer:List Env}{E:XK}{vs:List V}{cs:Addr->Option Obj}{h':Heap}{m:Ov}{tk:Nat}
  (J:scope.kind=.function) (hd:A.handled=none) (g:Ve P w K mg base A outer s H) (j:MP N scope cl vs cs) (D:∀b o,cs b=some o->s.heap.get? b=some o/\H b=none)
  (L:h'.Ns s.heap.objs.size m) (y:∀b o,s.heap.get? b=some o->h'.get? b=some o):Za (A1 CX P w K mg base N qual scope cl f cd A outer s H E) [] (vs.map some) H { s with heap:=h',toks:=tk }:=by
 have C:∀b:Addr,b∉(A1 CX P w K mg base N qual scope cl f cd A outer s H E).ex:=fun b z=>Oq (show b∈([]:OG)from z) (by simp);refine⟨⟨g.mod,J,R,R,Sg _,j.inj,j.has,(fun _ _ z=>nomatch z),fun _=>hd,Around.frames_deeper g.frames,.inr ⟨R,R⟩,fun b z=>Oq z (C b),g.bs,g.bsz,fun b _ _=>C b,fun b z=>Oq z (C b),g.funs,g.frf⟩,
  rfl,g.bare,Un.kept y,⟨m,L,fun i x v G q S=>?_⟩,fun x c h=>?_,g.hok.fresh (Sg _),fun x c h=>?_,fun p Q=>Oq (show p∈([]:Ou)from Q) (by simp),g.hok.kept y,?_⟩
 ·have I:vs[i]? = some v:=by
   rw[Oa]at q;cases e:vs[i]? with
   |none=>rw[e]at q;cases q
   |some a=>rw[e]at q;exact So q ▸ R
  obtain⟨c,o,u,n,B,O,M⟩:=j.val i x v G I;exact⟨u,M,.inr ⟨.inr (j.fre x (SK G)),c,n,o,y _ _ (D c o B).1,O⟩⟩
 ·obtain⟨o,v,n,B⟩:=j.cell x c h
  exact⟨v,o,y _ _ (D c o n).1,B⟩
 ·obtain⟨o,v,n,B⟩:=j.cell x c h
  exact(D c o n).2
 ·show(vs.map some).length=N.length
  rw[Sv,j.len]
def MQ(P:Program)(w:World)(K:PySem.W.Frag)(mg:Ov)(base:Heap)(k:Nat)(f:Addr)(H:Hp)(W:VK->XK->Prop):Prop :=
 (∀h:Heap,Yi P w H h->PySem.W.FnAt f h)/\∀(A:Around) (outer:List Env) (s:Shared) (Q:VK) (E:XK),Yb k A->Ve P w K mg base A outer s H->W Q E->codeAny (model P w) A (.call (.ref f) ⟨[],[]⟩) (CR (Xo P w) outer P w H s Q E) s
theorem ZfP{k:Nat}{f i:Addr}{qual:Str}{params:Arguments}{body:Expr}{cl:Ox}{pm U:Value}{N:OB}{vs:List V}{cs:Addr->Option Obj}{te:XK->TE}
  (Y:H f=some (Um f qual params body scope cl pm i U)) (h0:H i=some (XJ i qual)) (m0:scope.isCoroutine=false) (c0:scope.isGenerator=false) (X:scope.kind=.function) (j0:∀x∈scope.names,x.2≠.cell)
  (h:bindArgs (W.kla_fn "<lambda>" qual params body scope cl pm (.ref i) U) ⟨[],[]⟩=pure []) (hC:MP N scope cl vs cs) (B:∀b o,cs b=some o->H b=some (Q9 o))
  (n0:∀(A:Around) (outer:List Env) (s:Shared) (E:XK),Yb k (A.deeper (W.envX qual scope s.heap.objs.size f (.ref i) cl))->PE (A1 (Xo P w) P w K mg base N qual scope cl f (.ref i) A outer s (unl cs H) E) body (te E)) :
  MQ P w K mg base (k+1) f H fun Q E=>te (fun C o c=>(∀b ob,cs b=some ob->c b=none)->E C o (lent cs c)) (vs.map some) (unl cs H) fun v c=>(∀b ob,cs b=some ob->c b=none)->Q v (lent cs c):=by
 refine⟨fun p0 ok=>?_,fun A outer s Q E M g hW=>?_⟩
 ·have z:=(ok f _ Y).1
  exact⟨_,_,_,_,z⟩
 have y:∀b o,cs b=some o->s.heap.get? b=some o:=fun b o q=>by
  obtain⟨z,_⟩:=g.hok b _ (B b o q);exact z
 have b0:∀b o,cs b=some o->b∉Yl outer:=fun b o q z=>by
  have:=g.frf b z;rw[B b o q]at this;cases this
 have e1:Ve P w K mg base A outer s (unl cs H):=⟨g.frames,g.mod,fun b o e=>⟨(g.bs b o e).1,G0 (g.bs b o e).2⟩,g.bsz,g.funs,fun b h=>G0 (g.frf b h),g.hok.unl B,g.bare⟩;have d0:s.heap.NoLimit:=g.mod.nolimit.keeps fun b o e=>(g.bs b o e).1;have ho:=(g.hok f _ Y).1;have o0:=(g.hok i _ h0).1;have back:∀{c:Hp} {j:Heap},Un (Yl outer) [] (unl cs H) c s.heap j->Yi P w c j->Un (Yl outer) [] H (lent cs c) s.heap j/\Yi P w (lent cs c) j/\(∀b o,cs b=some o->j.get? b=some o)/\∀b o,cs b=some o->c b=none:=fun{c j} u ok=>by
  have O:∀b o,cs b=some o->j.get? b=some o/\c b=none:=fun b o q=>⟨u.keep b o (y b o q) (Qv q) (b0 b o q) (fun z=>nomatch z),u.free b o (y b o q) (Qv q) fun z=>nomatch z⟩;exact⟨u.relend B,ok.lent O,fun b o q=>(O b o q).1,fun b o q=>(O b o q).2⟩
 refine W.kla_callFunE M.depth ho R m0 c0 R o0 ?_;rw[h];refine Sb ?_;refine wpAny_newFunctionEnv j0 (fun x hx=>nomatch hx) (fun h' g0 T=>?_) X;refine⟨d0.fresh _ T,?_⟩;have i0:∀b o,s.heap.get? b=some o->h'.get? b=some o:=fun b o e=>T.extBut b o (Sf (Se e)) (Sc _ e);show codeAny (model P w) A (.expr body (W.envX qual scope s.heap.objs.size f (.ref i) cl)) _ _;refine W.kla_codeExpr ?_;have l0:=ZfO (CX:=Xo P w) (E:=fun C o c=>(∀b ob,cs b=some ob->c b=none)->E C o (lent cs c)) (f:=f) (cd:=.ref i) (qual:=qual) (tk:=s.toks+([]:List (Str×Value)).length) X M.hd e1 hC (fun b o q=>⟨y b o q,Qv q⟩) g0 i0;have conv:∀(e:Value) (n:Shared),Xo P w outer (unl cs H) s (fun C o c=>(∀b ob,cs b=some ob->c b=none)->E C o (lent cs c)) e n->Xo P w outer H s E e n:=by
  rintro e n ⟨a,C,c,rfl,os,bare,un,hok,⟨f0,t,fl,ha,a0⟩,o,nc,hE⟩;obtain⟨D,I,u3,L⟩:=back un hok;refine⟨a,C,lent cs c,R,os,bare,D,I,⟨f0,t,fl,?_,fun b o e h hn=>a0 b o e ?_ hn⟩,o,nc,hE L⟩
  ·cases q:cs a with
   |none=>rw[Xx q];exact ha
   |some o =>
    obtain⟨ob,q0,S,_,q2,_⟩:=fl.first;obtain⟨v,q3⟩:=hC.dat a o q;rw[u3 a o q]at S;obtain rfl:=So S;rw[q3]at q2;cases q2
  ·rcases h with h|⟨u,h⟩
   ·exact .inl h
   ·cases q:cs b with
    |none=>rw[Xx q]at h;exact .inr ⟨u,h⟩
    |some Z=>exact .inl ⟨Z,y b Z q⟩
 refine Op (n0 A outer s _ (M.deeper _) [] _ (vs.map some) (unl cs H) _ l0 hW) (fun u s' G=>?_) fun e s' G=>?_
 ·obtain⟨v,c,J,rv,q⟩:=G
  obtain⟨D,I,_,L⟩:=back J.base J.hok;exact⟨v,lent cs c,J.os,J.bare,D,I,rv,q L⟩
 ·exact Op G (fun _ n z=>conv e n z) fun e' n z=>conv e' n z
inductive vQ(P:Program)(w:World)(K:PySem.W.Frag)(mg:Ov)(base:Heap)(k i:Nat)(E:XK)(σ:St)(H:Hp)(Q:VK):Prop|mk f W (_:σ[i]? = some (some (.ref f))) (_:MQ P w K mg base k f H W) (_:W Q E)
theorem ZfQ{E:XK}(M:X.N[i]? = some x)(L:C8 X.env.scope x)(J:Yb k X.A)(C:WC (Xo X.prog X.w) X E)(hd:(x == ("__debug__" : Str))=false:=by lia) (B:(x == ("__classdict__" : Str))=false:=by lia) :
  PE X (.Call (.Name x p) [] [] pos) (vQ X.prog X.w X.K X.mg X.base k i E):=by
 intro pins s n H Q I h;obtain⟨f,W,e,⟨S,P⟩,G⟩:=h;refine wpAny_Call_Name_kw ?_;refine Zq (T4 M L hd B pins s n H (fun v O=>v=.ref f/\O=H) I ⟨_,e,R,R⟩) fun u j ⟨v,T,g,r,y,q⟩=>?_;subst y q;obtain rfl:u=Value.ref f:=r;refine PySem.W.callWith_F0 (S _ g.hok) ?_;refine wpAny_call (codeAny_mono (P X.A X.stack j Q E J g.env0 G) fun r D c=>?_);cases r with
 |error e=>exact C pins n _ j e D g c
 |ok fl =>
  cases fl with
  |ret u=>exact g.after c
  |next=>exact False.elim c
  |brk=>exact False.elim c
  |cont=>exact False.elim c
inductive MR(P:Addr)(mg:Ov)(qual:Str)(params:Arguments)(body:Expr)(scope:Scope)(cl:Ox)(pos:Pos)(_e0:St)(H:Hp)(Q:VK):Prop|mk (ps:Array Value) (_:H P=some (.tbl ps)) (_:TriplesOk ps.toList) (_:((codeAmong pos ps.toList=none/\∀f c' ctv,H f=none->H c'=none->f≠c'->Q (.ref f) (upd (upd (upd H P (.tbl (ps ++ #[rawInt pos.line,rawInt pos.col,.ref c']))) c' (XJ c' qual)) f (Um f qual params body scope cl ((mg "__name__").getD .none) c' ctv)))\/∃c',codeAmong pos ps.toList=some (.ref c')/\∀f ctv,H f=none->Q (.ref f) (upd H f (Um f qual params body scope cl ((mg "__name__").getD .none) c' ctv))))
theorem MS{params:Arguments}{body:Expr}{P : Addr}(b0:X.env.code=.ref c)(C:W.CodeHd X.base c P)(d0:BM X.mg X.base)(Z:closureFor scope X.env=pure cl)(e0:defaultsOf params X.env=([],[])) :
  PE X (.Lambda params body scope pos) (MR P X.mg (X.env.qual ++ "<lambda>") params body scope cl pos):=by
 intro pins s σ H h0 I h;obtain⟨x,g,Q,h⟩:=h;have M:s.heap.get? P=some (W.tabObj x):=I.hok P _ g;have S:∀{b o},X.base.get? b=some o->b≠P:=fun e z=>by
  have:=(I.bs _ _ e).2;rw[z,g]at this;cases this
 have f0:mainGlobals≠P:=by
  obtain⟨o,es,ep,e,_⟩:=I.mod.glob;exact S e
 obtain⟨bm,ob,b1,b2,b3,b4,b5,b6,b7⟩:=d0;have hb:s.heap.BuiltinsAt X.mg P:=⟨bm,ob,b1,b2,b3,S b4,I.bk _ _ b4,b5,b6,b7⟩;refine W.kla_eval e0 ?_;rcases h with⟨hn,q⟩|⟨f,hf,q⟩
 ·refine W.kla_makeFunction (mg:=X.mg) Z I.ok.glob (I.mod.glob.keeps I.bk) b0 (C.keeps I.bk) M Q hn f0 hb fun f i h' tk j D U c0 Y=>?_
  have G:H f=none:=I.hok.fresh D;have g0:P<s.heap.objs.size:=Se M;have cP:f≠P:=Nat.ne_of_gt (Si g0 D);have y:∀{b o},H b=some o->(∀E,o≠.tbl E)->upd (upd H P (.tbl (x ++ #[rawInt pos.line,rawInt pos.col,.ref f]))) f (XJ f (X.env.qual ++ "<lambda>")) b=some o:=fun e n=>by
   rw[Zd (ZI e G),Zd (Z4 e g (n _))];exact e
  have I1:Za X pins σ (upd (upd H P (.tbl (x ++ #[rawInt pos.line,rawInt pos.col,.ref f]))) f (XJ f (X.env.qual ++ "<lambda>"))) { s with heap:=h',gens:=s.gens,drawn:=s.drawn,toks:=tk }:=by
   refine I.step (ch:=[]) (fun _ z=>nomatch z) (fun b o _ _ _ e n=>j b o (fun z=>by rw[z,g]at n;cases n) e) (fun b o _ _ _ e n=>⟨o.slots,j b o (fun z=>by rw[z,g]at n;cases n) e⟩) (fun b o _ e n=>?_) (fun b o _ e=>?_) (fun b xs e=>y e fun _ z=>by cases z) (fun b o u e=>y e fun _ z=>by cases z) (fun b E e=>?_) (fun m hn=>hn.extBut j fun z=>?_) (fun b u e=>?_) I.bare
   ·rw[Zd (Sf (Si (Se e) D)),Zd fun z=>by rw[z,g]at n;cases n]
    exact n
   ·by_cases z:b=P
    ·exact⟨_,by rw[z];exact Y⟩
    ·exact⟨o,j b o z e⟩
   ·by_cases z:b=P
    ·subst z
     rw[g]at e;obtain rfl:x=E:=by injection e with e;injection e
     exact⟨#[rawInt pos.line,rawInt pos.col,.ref f],by rw[Zd cP.symm,Zg]⟩
    ·exact⟨#[],by rw[Zd (ZI e G),Zd z,e];simp⟩
   ·have:=I.free
    rw[z,g]at this;cases this
   ·by_cases z:b=f
    ·subst z
     rw[Zg]at e;obtain rfl:=So e;exact vD c0
    ·rw[Zd z]at e
     by_cases J:b=P
     ·subst J
      rw[Zg]at e;obtain rfl:=So e;exact Y
     ·rw[Zd J]at e
      refine(I.hok b u e).stay (fun O u' B v=>j O u' (fun T=>?_) v) (fun O v=>y v fun _ z=>by cases z) (fun O xs v=>y v fun _ z=>by cases z);rcases B with rfl|B
      ·exact J T
      ·rw[T,g]at B;cases B
  have L:=I1.laid (a:=h'.objs.size) (o:=Um h'.objs.size (X.env.qual ++ "<lambda>") params body scope cl ((X.mg "__name__").getD .none) f i) (t':=tk) (h':=h'.push (W.kla_obj "<lambda>" (X.env.qual ++ "<lambda>") params body scope cl ((X.mg "__name__").getD .none) f i)) (fun b u e=>Sc _ e) (Sg _) (vP (Sd _ R));have nf:H h'.objs.size=none:=I.hok.fresh (Sh D (Nat.le_of_lt U));exact⟨.ref _,_,L,R,q _ f i nf G (Nat.ne_of_gt U)⟩
 ·refine W.kla_makeFunctionHit (mg:=X.mg) Z I.ok.glob (I.mod.glob.keeps I.bk) b0 (C.keeps I.bk) M Q hf hb fun i h' tk hk a0=>?_
  have L:=I.laid (a:=h'.objs.size) (o:=Um h'.objs.size (X.env.qual ++ "<lambda>") params body scope cl ((X.mg "__name__").getD .none) f i) (t':=tk) (h':=h'.push (W.kla_obj "<lambda>" (X.env.qual ++ "<lambda>") params body scope cl ((X.mg "__name__").getD .none) f i)) (fun b u e=>Sc _ (hk b u e)) a0 (vP (Sd _ R));exact⟨.ref _,_,L,R,q _ i (I.hok.fresh a0)⟩
structure Kk(FN:List (Str×Nat))(cl:Ox)(cs:Addr->Option Obj)(σ:St)(H:Hp):Prop where
 free:∀b o,cs b=some o->H b=none/\∃v,o.data=.cell v
 cell:∀x c,cl.lookup x=some c->∃o v,cs c=some o/\o.data=.cell v
 val:∀p∈FN,∀v,σ[p.2]? = some (some v)->∃c o u,cl.lookup p.1=some c/\cs c=some o/\o.data=.cell (some u)/\ZD v u
theorem VZ.mem:∀{cl:Ox},VZ X cl->(y,c)∈cl->X.env.cells.lookup y=some c
 |(z,d)::r,h,e=>by
  rcases SF.mp e with e|e
  ·cases e;exact h.1
  ·exact VZ.mem h.2 e
def MT(sp:Sp)(FN:List (Str×Nat))(cl:Ox)(tl:TE):TE:=fun c H Q=>tl c H fun v e=>∀cs:Addr->Option Obj,Kk FN cl cs c e->sp [v] (lent cs e) (fun r f=>Q r (unl cs f)) fun _ _ _=>False
theorem MU{H:OB}{cl:Ox}{p:Pos}(F:Zn X.prog X.w X.K X.mg X.base Zo k f Z H sp)(hr:Yb k X.A)(hg:Gl X x)(hm:X.mg x=some (.ref f))(hk:W.keepIn X.K (.ref f)=true)(u:Xm X.K Z H [])
  (j0:∀y,X.fn y=true) (a0:VZ X cl) (d0:∀p∈FN,X.N[p.2]? = some p.1/\X.env.scope.names.lookup p.1=some .cell/\∃c,X.env.cells.lookup p.1=some c/\cl.lookup p.1=some c) (he:PE X e tl) (T:Xe e=true:=by rfl) (l0:(x == ("__debug__" : Str))=false:=by lia) :
  PE X (.Call (.Name x p) [e] [] pos) (MT sp FN cl tl):=by
 intro pins s M i0 h0 I c0;refine wpAny_Call_Name_kw (Ut I hg hm ?_ l0);refine W.callWith_K (h₀:=X.base) I.ok.mod.kin hk (Zq ((zT he Xl (Mu T)) pos pins s M i0 (fun Q B=>match Q with|[v]=>∀cs:Addr->Option Obj,Kk FN cl cs M B->sp [v] (lent cs B) (fun r H2=>h0 r (unl cs H2)) (fun _ _ _=>False)|_=>False) I c0) fun C g ⟨Q,B,h,r,q⟩=>⟨h.kIn,?_⟩) (Mu T) R
 match Q,q,r with
 |[],q,_=>exact q.elim
 |_::_::_,q,_=>exact q.elim
 |[v],q,r =>
  have G:∀b o,(if b∈cl.map (·.2)then g.heap.get? b else none)=some o->(∃y,X.env.cells.lookup y=some b)/\g.heap.get? b=some o:=fun b o e=>by
   by_cases u:b∈cl.map (·.2)
   ·rw[SW u]at e
    obtain⟨⟨y,c⟩,j,ec⟩:=SJ.mp u;obtain rfl:c=b:=ec;exact⟨⟨y,a0.mem j⟩,e⟩
   ·rw[SV u]at e;cases e
  have L:∀b o,(if b∈cl.map (·.2)then g.heap.get? b else none)=some o->g.heap.get? b=some o/\B b=none:=fun b o e=>by
   obtain⟨⟨y,j⟩,e⟩:=G b o e;exact⟨e,h.freeC y b j⟩
  have big:∀b o,(if b∈cl.map (·.2)then g.heap.get? b else none)=some o->X.s₀.heap.objs.size<=b:=fun b o e=>by
   obtain⟨⟨y,j⟩,_⟩:=G b o e;exact h.ok.cab y b (j0 y) j
  have S:∀y c,cl.lookup y=some c->∃v,g.heap.IsCell c v/\c∈cl.map (·.2):=fun y c e=>by
   obtain⟨v,z⟩:=h.cell y c (a0.at e);exact⟨v,z,SJ.mpr ⟨(y,c),PySem.mem_of_lookup e,R⟩⟩
  have LC:Kk FN cl (fun b=>if b∈cl.map (·.2)then g.heap.get? b else none) M B:=by
   refine⟨fun b o e=>⟨(L b o e).2,?_⟩,fun y c e=>?_,fun p hp v ev=>?_⟩
   ·obtain⟨⟨y,j⟩,e⟩:=G b o e
    obtain⟨v,D,z1,O⟩:=h.cell y b j;rw[e]at z1;obtain rfl:=So z1;exact⟨v,O⟩
   ·obtain⟨v,⟨o,z1,O⟩,J⟩:=S y c e
    exact⟨o,v,by rw[SW J];exact z1,O⟩
   ·obtain⟨q1,n,c,q3,Y⟩:=d0 p hp
    obtain⟨m,hn,P⟩:=h.loc;obtain⟨b0,ru,l⟩:=P p.2 p.1 v q1 ev (.inr (.inl n));obtain⟨_,_,J⟩:=S p.1 c Y;rcases l with⟨z,_⟩|⟨_,c',e',o,ho,hd⟩
    ·rw[show X.env.kindOf p.1=X.env.scope.names.lookup p.1 from R,n]at z;cases z
    ·rw[q3]at e'
     obtain rfl:=So e';exact⟨c,o,b0,Y,by rw[SW J];exact ho,hd,ru⟩
  have i:=h.env0;have e1:Ve X.prog X.w X.K X.mg X.base X.A X.stack g (lent (fun b=>if b∈cl.map (·.2)then g.heap.get? b else none) B):=by
   refine⟨i.frames,i.mod,fun b o e=>⟨(i.bs b o e).1,?_⟩,i.bsz,i.funs,fun b u=>?_,i.hok.lent L,i.bare⟩
   ·cases n:(fun b=>if b∈cl.map (·.2)then g.heap.get? b else none) b with
    |none=>rw[Xx n];exact(i.bs b o e).2
    |some D =>
     have:=big b D n;exact Oq (Si (Se e) h.ok.bsz) (Og.mpr this)
   ·cases n:(fun b=>if b∈cl.map (·.2)then g.heap.get? b else none) b with
    |none=>rw[Xx n];exact i.frf b u
    |some D =>
     have h1:=big b D n;obtain⟨⟨y,j⟩,_⟩:=G b D n;rcases SF.mp (h.stkSub b u)with z|z
     ·exact Oq z (h.cne y b j)
     ·obtain⟨_,o2,f0,_⟩:=h.ok.funs.mem z
      exact Oq (Se f0) (Og.mpr h1)
  have U:=q _ LC;have r2:Zx ([v]++[]) (C++[]):=r.append .nil;have P:(C++[]).length=H.length:=by rw[<-r2.length];exact F.len _ _ _ _ U
  refine wpAny_call (codeAny_mono (F.run X.A X.stack g _ ⟨C,[]⟩ (C++[]) ([v]++[]) _ _ hr e1 (u g C h.kIn P) r2 U) fun rr s' E=>?_);cases rr with
  |error e=>exact False.elim E
  |ok fl =>
   cases fl with
   |next=>exact False.elim E
   |brk=>exact False.elim E
   |cont=>exact False.elim E
   |ret b0 =>
    obtain⟨w',H',os,bare,un,hok,g0,q'⟩:=E;exact h.after ⟨w',_,os,bare,un.unlend L hok,hok.unl (fun b o z=>un.frzs b o _ (A0 z)),g0,q'⟩
def Qw{c:Type}(P:c->Prop):List c->Prop
 |[]=>True
 |a::r=>P a/\Qw P r
theorem G1{c:Type}{P:c->Prop}:∀{l:List c},Qw P l->∀a∈l,P a
 |_::_,h,a,m=>by
  rcases SF.mp m with rfl|m
  ·exact h.1
  ·exact G1 h.2 a m
theorem MV{FN:List (Str×Nat)}{cl:Ox}(h:Qw (fun p=>X.N[p.2]? = some p.1/\X.env.scope.names.lookup p.1=some .cell/\∃c,X.env.cells.lookup p.1=some c/\cl.lookup p.1=some c) FN) :
  ∀p∈FN,X.N[p.2]? = some p.1/\X.env.scope.names.lookup p.1=some .cell/\∃c,X.env.cells.lookup p.1=some c/\cl.lookup p.1=some c:=G1 h
theorem ZfR{Q:Ov}{CX:XT}{k:Nat}{O a:Addr}{i:List (Addr×Addr)}{fd:OI}{x:Str}{sp:Sp}{c:Shared}{vs:OA}{ns:OD}
  (KX:K.In c.heap) (d0:c.heap.Ns mainGlobals mg) (f:c.heap.Ns builtinsNs Q) (i0:∀x:Str,x ≠ "__name__" -> Q x=bootBuiltins x) (r0:c.heap.NoLimit) (hg:c.gens = #[])
  (ha:c.heap.get? a=some { cls:=.type "list",data:=.seq vs.toArray }) (hi:IntsAre vs ns) (hl:ns.length<=sizeLine) (hr:Yb k callerA)
  (T:∀p∈i,W.CodeHd c.heap p.1 p.2/\c.heap.get? p.2=some (W.tabObj #[])/\K.lookup p.2=none) (h0:BM mg c.heap)
  (F:∀base:Heap,K.In base->base.Ns mainGlobals mg->(∀p∈i,W.CodeHd base p.1 p.2)->BM mg base->Zn P w K mg base CX k O fd [x] sp) (g0:∀(s:Shared) (u:Value),BindsTo s fd ⟨[u],[]⟩ [(x,u)])
  (j0:∀H:Hp,(∀p∈i,H p.2=some (.tbl #[]))->Zf K H a (ns.map V.int)->sp [.ref a] H (fun v _=>v=.bl true) fun _ _ _=>False)
  (o0:∀H e n,CX [] H c (fun _ _ _=>False) e n->False) :
  codeAny (model P w) callerA (.call (.ref O) ⟨[.ref a],[]⟩) (fun r n=>r=.ok (.ret (.bool true))/\OldK c.heap n.heap/\n.os=c.os/\AllBare n.gens) c:=by
 have rv:=yO hi;have q0:=hi.length;have D:∀{b:Addr},b∈i.map (·.2)->c.heap.get? b=some (W.tabObj #[])/\K.lookup b=none:=fun{b} f=>by
  obtain⟨p,C,rfl⟩:=SJ.mp f;exact(T p C).2
 have aT:a∉i.map (·.2):=fun z=>by rw[(D z).1]at ha;cases ha
 have core:∀H:Hp,(∀b,H b=none\/(b∈i.map (·.2)/\H b=some (.tbl #[]))\/∃o xs,H b=some (.frz o (.lst xs)))->(∀b∈i.map (·.2),H b=some (.tbl #[]))->Zf K H a (ns.map V.int)->Yi P w H c.heap->(∀b,H b≠none->b=a\/b∈i.map (·.2))->(H a≠none->K.lookup a=none) ->
   codeAny (model P w) callerA (.call (.ref O) ⟨[.ref a],[]⟩) (fun r n=>r=.ok (.ret (.bool true))/\OldK c.heap n.heap/\n.os=c.os/\AllBare n.gens) c:=by
  intro H hO a0 hS hok X hK;have I:∀{b:Addr} {o:Obj},c.heap.get? b=some o->H b=none->(VT c.heap H).get? b=some o:=fun e s0=>Zcr e s0;have c0:∀{b:Addr} {o:Obj},c.heap.get? b=some o->o.cls≠.type "list" -> o.cls≠.none->H b=none:=fun{b o} e n1 n2=>by
   cases q:H b with
   |none=>rfl
   |some u =>
    rcases X b (by rw[q];simp)with rfl|f
    ·rw[ha]at e;cases e;exact Oq R n1
    ·rw[(D f).1]at e;cases e;exact Oq R n2
  have f0:∀{b:Addr} {o:Obj} {G:Array DictEntry} {E:Nat},c.heap.get? b=some o->o.data=.dict G E->H b=none:=fun{b o G E} e d=>by
   cases q:H b with
   |none=>rfl
   |some u =>
    rcases X b (by rw[q];simp)with rfl|f
    ·rw[ha]at e;cases e
     have d':Data.seq vs.toArray _=Data.dict G E:=d;cases d'
    ·rw[(D f).1]at e;cases e;cases d
  have J:∀{b:Addr} {m:Ov},c.heap.Ns b m->(VT c.heap H).Ns b m:=fun{b m} ⟨o,G,E,e,d,r⟩=>⟨o,G,E,I e (f0 e d),d,r⟩;have b0:K.In (VT c.heap H):=fun b o e=>I (KX b o e) (by
   cases q:H b with
   |none=>rfl
   |some u =>
    rcases X b (by rw[q];simp)with rfl|f
    ·rw[hK (by rw[q];simp)]at e;cases e
    ·rw[(D f).2]at e;cases e)
  have l0:∀p∈i,W.CodeHd (VT c.heap H) p.1 p.2:=fun p C=>by
   obtain⟨o,ws,file,tf,flags,tg,m0,text,tt,e,L,r⟩:=(T p C).1;exact⟨o,ws,file,tf,flags,tg,m0,text,tt,I e (c0 e (by rw[L];exact fun z=>Oq (Value.type.inj z) (by lia)) (by rw[L];intro z;cases z)),L,r⟩
  have p0:BM mg (VT c.heap H):=by
   obtain⟨bm,ob,b1,b2,b3,b4,U,b6⟩:=h0;exact⟨bm,ob,b1,b2,b3,I b4 (c0 b4 (by rw[U];exact fun z=>Oq (Value.type.inj z) (by lia)) (by rw[U];intro z;cases z)),U,b6⟩
  have hM:Mod K mg (VT c.heap H):=⟨b0,J d0,⟨Q,J f,i0⟩,let ⟨mc,j,y⟩:=r0;⟨mc,J j,y⟩⟩;have e0:Ve P w K mg (VT c.heap H) callerA [] c H:=⟨R,hM,fun b o e=>Zcs e,Nat.le_of_eq (Zcq _ _),trivial,fun b f=>Oq (show b∈([]:OG)from f) (by simp),hok,.of_eq hg⟩;refine codeAny_mono ((F _ b0 (J d0) l0 p0).run callerA [] c H ⟨[.ref a],[]⟩ [.ref a] [.ref a] _ _ hr e0 (g0 c (.ref a)) (.cons R .nil) (j0 H (fun p C=>a0 p.2 (SJ.mpr ⟨p,C,R⟩)) hS)) fun r n h=>?_;cases r with
  |error e=>exact(o0 H e n h).elim
  |ok fl =>
   cases fl with
   |next=>exact False.elim h
   |brk=>exact False.elim h
   |cont=>exact False.elim h
   |ret u =>
    obtain⟨v,H',os,bare,un,Z,r',q⟩:=h;have q':v=.bl true:=q;subst q';obtain rfl:u=Value.bool true:=r';have keep:∀b o,b∉i.map (·.2)->c.heap.get? b=some o->n.heap.get? b=some o:=fun b o nT e=>by
     cases q:H b with
     |none=>exact un.keep b o e q (by intro z;exact Oq (show b∈([]:OG)from z) (by simp)) (by simp)
     |some u =>
      rcases hO b with z|⟨z,_⟩|⟨ob,xs,z⟩
      ·rw[q]at z;cases z
      ·exact Oq z nT
      ·have z2:=un.frzs b ob _ z
       obtain⟨e1,_⟩:=hok b _ z;obtain⟨e2,_⟩:=Z b _ z2;rw[e]at e1;cases e1;exact e2
    have gT:∀b∈i.map (·.2),∃more:Array Value,n.heap.get? b=some { cls:=.none,data:=.fields (#[]++more) }:=fun b f=>by
     obtain⟨more,hm⟩:=un.tbls b _ (a0 b f);exact⟨more,Z b _ hm⟩
    refine⟨R,⟨fun b o e=>?_,fun b o e=>?_⟩,os,bare⟩
    ·by_cases z:b∈i.map (·.2)
     ·obtain⟨more,g⟩:=gT b z
      obtain⟨p,C,rfl⟩:=SJ.mp z;obtain⟨n0,hT,_⟩:=T p C;rw[hT]at e;obtain rfl:=So e;exact .inr (.inl ⟨(n0.tab hT).isCodeTable,R,#[],more,R,g⟩)
     ·exact .inl (keep b o z e)
    ·by_cases z:b∈i.map (·.2)
     ·obtain⟨more,g⟩:=gT b z
      exact⟨_,g⟩
     ·exact⟨o,keep b o z e⟩
 cases S:K.lookup a with
 |some o =>
  have e:=KX a o S;rw[ha]at e;cases e;refine core (fun b=>if b∈i.map (·.2)then some (.tbl #[])else none) (fun b=>?_) (fun b f=>SW f) (.inr ⟨_,vs.toArray,_,S,R,R,R,by rw[SN,q0];exact hl,by simpa using rv⟩) (fun b u z=>?_) (fun b z=>?_) fun z=>Oq (SV aT) z
  ·by_cases f:b∈i.map (·.2)
   ·exact .inr (.inl ⟨f,SW f⟩)
   ·exact .inl (SV f)
  ·by_cases f:b∈i.map (·.2)
   ·have B:=(SW f).symm.trans z
    cases B;exact(D f).1
   ·have B:=(SV f).symm.trans z
    cases B
  ·by_cases f:b∈i.map (·.2)
   ·exact .inr f
   ·exact Oq (SV f) z
 |none =>
  have M:∀b,b∉i.map (·.2)->b≠a->(fun b=>if b∈i.map (·.2)then some (HO.tbl #[])else if b=a then some (.frz { cls:=.type "list",data:=.seq vs.toArray } (.lst (ns.map V.int)))else none) b=none:=fun b j y=>by
   show(if b∈i.map (·.2)then _ else if b=a then _ else _)=none;rw[SV j,SV y]
  have Y:(fun b=>if b∈i.map (·.2)then some (HO.tbl #[])else if b=a then some (.frz { cls:=.type "list",data:=.seq vs.toArray } (.lst (ns.map V.int)))else none) a=some (.frz { cls:=.type "list",data:=.seq vs.toArray } (.lst (ns.map V.int))):=by
   show(if a∈i.map (·.2)then _ else if a=a then _ else _)=_;rw[SV aT,SW R]
  refine core (fun b=>if b∈i.map (·.2)then some (.tbl #[])else if b=a then some (.frz { cls:=.type "list",data:=.seq vs.toArray } (.lst (ns.map V.int)))else none) (fun b=>?_) (fun b f=>SW f) (.inl (.inr ⟨{ cls:=.type "list",data:=.seq vs.toArray },Y⟩)) (fun b u z=>?_) (fun b z=>?_) fun _=>S
  ·by_cases j:b∈i.map (·.2)
   ·exact .inr (.inl ⟨j,SW j⟩)
   ·by_cases y:b=a
    ·subst y;exact .inr (.inr ⟨_,_,Y⟩)
    ·exact .inl (M b j y)
  ·by_cases j:b∈i.map (·.2)
   ·have B:=(SW j).symm.trans z
    cases B;exact(D j).1
   ·by_cases y:b=a
    ·subst y
     have B:=Y.symm.trans z;cases B;exact⟨ha,by rw[Sv];exact hl,vs,_,rv,ha⟩
    ·have B:=(M b j y).symm.trans z
     cases B
  ·by_cases j:b∈i.map (·.2)
   ·exact .inr j
   ·by_cases y:b=a
    ·exact .inl y
    ·exact Oq (M b j y) z
theorem ZfS{l:W.OpenLaw}{n k:Nat}{q:Program}{loose:OB}{L:(Str->Option Value)->Heap->Prop}{J:World->Heap->Prop}{d:DefRec}{K:Params->W.Frag}{CX:XT}{sp:W.Frag->List Addr->Sp}{x:Str}{j:OG}
  (hn:l.most=some n) (d0:n<=sizeLine) (f0:d.params.defaults=[]) (hr:Yb k callerA)
  (hY:∀(w:World) (h:Heap),J w h->(K w.params).In h/\∀P∈j,h.get? P=some (W.tabObj #[]))
  (F:∀(u:OG),u=j->∀(w:World) (mg:Ov) (i:Addr) (h:Heap),(K w.params).In h->h.Ns mainGlobals mg->mg d.name=some (.ref i) ->
   ∃c:List (Addr×Addr),(∀p∈c,(W.codeHdIn (K w.params) p.1 p.2=true/\p.2∈u)/\(K w.params).lookup p.2=none)/\∃B:FuncData,(∀(s:Shared) (u:Value),BindsTo s B ⟨[u],[]⟩ [(x,u)]) /\
    ∀base:Heap,(K w.params).In base->base.Ns mainGlobals mg->(∀p∈c,W.CodeHd base p.1 p.2)->BM mg base->Zn l.prog w (K w.params) mg base CX k i B [x] (sp (K w.params) (c.map (·.2))))
  (g0:∀(K:Ow) (c:OG) (H:Hp) (a:Addr) (ns:OD),ns.length<=n->(∀T∈c,H T=some (.tbl #[]))->Zf K H a (ns.map V.int)->sp K c [.ref a] H (fun v _=>v=.bl true) fun _ _ _=>False)
  (h0:∀(H:Hp) (s:Shared) (e:Value) (s':Shared),CX [] H s (fun _ _ _=>False) e s'->False) :
  W.WalkO q loose L J l.row.toRowW d [] (fun f vs=>PySem.call f vs):=by
 refine Att.attach_call hn f0 fun w s₀ C mg mb i o pm cd j0 a vs ns G Y ho hd i0 a0 O hints hlen hg=>?_;obtain⟨KX,Q⟩:=hY w _ Y;obtain⟨c,S,B,hb,hF⟩:=F j R w mg i _ KX G.T.g a0;have e0:∀p∈c,W.CodeHd C.heap p.1 p.2/\C.heap.get? p.2=some (W.tabObj #[])/\(K w.params).lookup p.2=none:=fun⟨c0,T⟩ D=>by
  obtain⟨⟨M,h2⟩,h3⟩:=S (c0,T) D;exact⟨W.codeHd_of_K KX M,Q _ h2,h3⟩
 obtain⟨I,ob,Z,b2,E,b4,b5,y⟩:=G.T.bmain;have U:I≠mainGlobals:=fun z=>by
  obtain⟨o',es,ep,e,b0,_⟩:=G.T.g;rw[z,e]at E;cases E;rw[b0]at y;cases y
 exact ZfR KX G.T.g G.T.b G.T.builtins G.T.nolimit hg O hints (Sh hlen d0) hr e0 ⟨I,ob,Z,b2,U,E,b4,b5,y⟩ hF hb (fun H X hS=>g0 _ _ H a ns hlen (fun T hT=>by obtain⟨p,D,rfl⟩:=SJ.mp hT;exact X p D) hS) fun H e s'=>h0 H C e s'
theorem on0{c:Type}{P:List c->Prop}(h:P []):∀us:List c,us.length=0->P us
 |[],_=>h
theorem Y0{e:Type}{P:List e->Prop}(h:∀c,P [c]):∀us:List e,us.length=1->P us
 |[c],_=>h c
theorem Xg{f:Type}{P:List f->Prop}(h:∀c e,P [c,e]):∀us:List f,us.length=2->P us
 |[c,e],_=>h c e
theorem X9{g:Type}{P:List g->Prop}(h:∀c e f,P [c,e,f]):∀us:List g,us.length=3->P us
 |[c,e,f],_=>h c e f
theorem U8{i:Type}{P:List i->Prop}(h:∀c e g f,P [c,e,g,f]):∀us:List i,us.length=4->P us
 |[c,e,g,f],_=>h c e g f
theorem MW{j:Type}{P:List j->Prop}(h:∀c e g f i,P [c,e,g,f,i]):∀us:List j,us.length=5->P us
 |[c,e,g,f,i],_=>h c e g f i
theorem on6{n:Type}{P:List n->Prop}(h:∀c e i g j f,P [c,e,i,g,j,f]):∀us:List n,us.length=6->P us
 |[c,e,i,g,j,f],_=>h c e i g j f
inductive MX:Value->Sum Int (List Nat)->Prop
 |int (i:Int) (t:Tok):MX (.int i t) (.inl i)
 |str (z:Str) (t:Tok):MX (.str z t) (.inr z.cps.toList)
inductive VF:List Value->List (Sum Int (List Nat))->Prop
 |nil:VF [] []
 |cons {v:Value} {a:Sum Int (List Nat)} {vs:OA} {as:List (Sum Int (List Nat))}:MX v a->VF vs as->VF (v::vs) (a::as)
def XM:Sum Int (List Nat)->Bool
 |.inl _=>true
 |.inr _=>false
theorem vR(h:a≠b):Xb Vj (a::c) (b::bs)=UJ a b:=by
 show(if UJ a b=true then true else if UJ b a=true then false else Xb Vj c bs)=_;cases f:UJ a b with
 |true=>rw[SW R]
 |false =>
  rw[SV SO];cases e:UJ b a with
  |true=>rw[SW R]
  |false=>exact Oq (Vj.total a b f e) h
theorem vS:Xb Vj (a::c) (a::bs)=Xb Vj c bs:=by
 show(if UJ a a=true then true else if UJ a a=true then false else Xb Vj c bs)=_;rw[show UJ a a=false from Vj.irrefl a,SV SO,SV SO]
section
variable{b:Bool}{Q:Bool->Shared->Prop}
theorem ZfT(h:Q (decide (x<y)) s):wpAny (model prog w) A (oneLt' c (.int x t) (.int y u)) Q E s:=by
 cases c with
 |true=>exact oneLt_int h
 |false=>exact W.kat_one _ _ (lt_int h)
theorem ZfU{x y:Str}(h:Q (decide (x.cps.toList<y.cps.toList)) s):wpAny (model prog w) A (oneLt' c (.str x t) (.str y u)) Q E s:=by
 cases c with
 |true=>exact oneLt_str h
 |false=>exact W.kat_one _ _ (lt_str h)
theorem ZfV(h:Q true s):wpAny (model prog w) A (eqBool v v) Q E s:=by
 unfold eqBool;refine wpAny_holding ?_;rw[SW (beq_iff_eq.mpr R)];exact Sa (wpAny_rule (Sb h))
theorem MY(h:Q false s):∀(r:OA) (i:Nat),W.KatLex prog w A b false Q (r.zip r) i s
 |[],_=>W.kat_nil h
 |v::r,i=>W.kat_cons (ZfV (W.kat_yes (MY h r (i+1))))
theorem ZfW{c:List (Sum Int (List Nat))}(h1:VF xs c):∀{ys:OA} {bs:List (Sum Int (List Nat))} (i:Nat),VF ys bs->c.map XM=bs.map XM->(c=bs->r=C)->Q (Xb Vj c bs) s->W.KatLex prog w A b false Q ((xs++r).zip (ys++C)) i s:=by
 induction h1 with
 |nil =>
  intro ys bs i j f g h;cases j with
  |nil=>rw[<-g R];exact MY h r i
  |cons _ _=>cases f
 |cons H _ B =>
  intro ys bs i j f g h;cases j with
  |nil=>cases f
  |cons D q =>
   obtain⟨n,v⟩:=List.cons.inj f;cases H with
   |int x t =>
    cases D with
    |str _ _=>cases n
    |int y u =>
     refine W.kat_cons (wpAny_eqBool_int (W.kat_go (fun e=>W.kat_yes ?_) fun e=>W.kat_no (ZfT ?_)))
     ·have e:=beq_iff_eq.mp e
      subst e;rw[vS]at h;exact B (i+1) q v (fun z=>g (by rw[z])) h
     ·rw[vR (fun z=>beq_eq_false_iff_ne.mp e (Sum.inl.inj z))]at h
      exact h
   |str x t =>
    cases D with
    |int _ _=>cases n
    |str y u =>
     refine W.kat_cons (wpAny_eqBool_str (W.kat_go (fun e=>W.kat_yes ?_) fun e=>W.kat_no (ZfU ?_)))
     ·have e:=SS e
      subst e;rw[vS]at h;exact B (i+1) q v (fun z=>g (by rw[z])) h
     ·rw[vR fun z=>SU e ?_]at h
      ·exact h
      ·obtain⟨I⟩:=x
       obtain⟨G⟩:=y;rw[show I=G from Array.toList_inj.mp (Sum.inr.inj z)]
end
structure WZ(h:Heap)(k:Value)(as:List (Sum Int (List Nat)))(m:Nat):Prop where
 ex:∃a o xs n vs r,k=.ref a/\h.get? a=some o/\o.cls=.type "tuple" /\ o.data=.seq xs n/\xs.toList=vs++r/\VF vs as/\r.length=m
theorem VF.length{vs:OA}{c:List (Sum Int (List Nat))}(h:VF vs c):vs.length=c.length:=by
 induction h with
 |nil=>rfl
 |cons _ _ e=>rw[Sy,Sy,e]
theorem VF.uniq(h:VF vs c):∀{bs:List (Sum Int (List Nat))},VF vs bs->c=bs:=by
 induction h with
 |nil=>intro bs h;cases h;rfl
 |cons v _ f =>
  intro bs h;cases h with
  |cons g e=>rw[f e];cases v<;>cases g<;>rfl
theorem WZ.uniq(x:WZ h k c m)(y:WZ h k bs m):c=bs:=by
 obtain⟨a,o,J,n,D,r,rfl,i,G,hd,e,C,l⟩:=x.ex;obtain⟨L,M,O,I,v,P,u,g,H,f,B,q,E⟩:=y.ex;cases u;rw[i]at g;cases g;rw[hd]at f;cases f;have j:D=v:=(List.append_inj' (e.symm.trans B) (l.trans E.symm)).1;subst j;exact C.uniq q
@[reducible] def A2 (ks:OA) (kf:Nat->List (Sum Int (List Nat))):PyProof.Rows.KeyKind:={ vN Vj with keyOf:=fun v=>(ks.findIdx? (· == v)).map kf,dflt:=([]:List (Sum Int (List Nat))) }
section
variable{ks:OA}{kf:Nat->List (Sum Int (List Nat))}{sh:List Bool}{m:Nat}
theorem vT(h:(ks.findIdx? (· == v)).map kf=some c):∃i,ks[i]? = some v/\kf i=c/\i<ks.length:=by
 obtain⟨i,e,rfl⟩:=Of.mp h;obtain⟨f,g,_⟩:=List.findIdx?_eq_some_iff_getElem.mp e;exact⟨i,by rw[Ss f,eq_of_beq g],R,f⟩
theorem ZfX(c:∀i k,ks[i]? = some k->WZ s.heap k (kf i) m)(e:ks[i]? = some v):(ks.findIdx? (· == v)).map kf=some (kf i):=by
 cases h:ks.findIdx? (· == v)with
 |none=>exact Oq (beq_iff_eq.mpr R) (Oh.mp (List.findIdx?_eq_none_iff.mp h v (SK e)))
 |some j =>
  obtain⟨g,f,_⟩:=List.findIdx?_eq_some_iff_getElem.mp h;have n:ks[j]? = some v:=by rw[Ss g,eq_of_beq f]
  exact congrArg some ((c j v n).uniq (c i v e))
theorem ZfY(B:∀i k,ks[i]? = some k->WZ s.heap k (kf i) m)(v:∀i,i<ks.length->(kf i).map XM=sh)(Y:∀i j,i<ks.length->j<ks.length->kf i=kf j->i=j\/m=0):UI prog w A s (tuples' b) (A2 ks kf):=by
 intro d0 x y as bs Q T S h;obtain⟨i,M,rfl,u⟩:=vT T;obtain⟨j,q,rfl,G⟩:=vT S;obtain⟨a,o,E,c0,vs,r,rfl,D,hc,hd,e,L,l⟩:=(B i x M).ex;obtain⟨X,o',I,n',b0,r',rfl,n,a0,g,J,H,Z⟩:=(B j y q).ex;have C:=(v i u).trans (v j G).symm;have sz:E.size=I.size:=by
  have l1:=L.length;have l2:=H.length;have O:=congrArg List.length C;have P:=congrArg List.length e;have U:=congrArg List.length J;rw[Sv,Sv]at O;rw[Su,Array.length_toList]at P U;lia
 refine W.kat_lt D hd n g ?_;rw[SR (show ¬ E.size<I.size by lia)];by_cases c:kf i=kf j/\i=j
 ·obtain⟨_,rfl⟩:=c
  have h:Q (Xb Vj (kf i) (kf i)) s:=h;rw[MN]at h;obtain rfl:a=X:=by rw[M]at q;cases q;rfl
  rw[D]at n;cases n;rw[hd]at g;cases g;exact MY h _ _
 ·rw[e,J]
  refine ZfW L _ H C (fun z=>?_) h;rcases Y i j u G z with f|f
  ·exact Oq ⟨z,f⟩ c
  ·rw[List.eq_nil_of_length_eq_zero (l.trans f),List.eq_nil_of_length_eq_zero (Z.trans f)]
theorem vU(H:∀i k,ks[i]? = some k->WZ s.heap k (kf i) m)(D:∀i,i<ks.length->(kf i).map XM=sh)(O:sh≠[])(h2:0<ks.length)
  (h:∀b,Q (tuples' b) s):wpAny M A (keyKind' ks.toArray) Q E s:=by
 obtain⟨b,f,rfl⟩:∃b f,sh=b::f:=by
  cases sh with
  |nil=>exact Oq R O
  |cons b f=>exact⟨b,f,R⟩
 have go:∀(c:OA),(∀k∈c,∃j,WZ s.heap k j m/\j.map XM=b::f)->∃fs:List Value,fs.length=c.length/\W.KatTups s.heap c fs/\∀v∈fs,W.Looks M s.heap (typeOf v) (.type (if b=true then "int" else "str")):=by
  intro c
  induction c with
  |nil=>intro _;exact⟨[],R,W.KatTups.nil,fun v g=>by cases g⟩
  |cons k c X =>
   intro g;obtain⟨fs,y,t,ty⟩:=X fun T S=>g T (SC _ S);obtain⟨j,C,B⟩:=g k SD;obtain⟨a,o,Z,c0,Y,r,rfl,J,G,hd,P,U,_⟩:=C.ex;cases U with
   |nil=>cases B
   |@cons v I a0 b0 L its =>
    have x:XM I=b:=(List.cons.inj B).1;refine⟨v::fs,by rw[Sy,Sy,y],W.KatTups.cons J G hd (by rw[<-Array.getElem?_toList,P];rfl) t,fun u n=>?_⟩;rcases SF.mp n with rfl|n
    ·cases L with
     |int i t=>rw[<-x];exact W.Looks.of_pure R
     |str z t=>rw[<-x];exact W.Looks.of_pure R
    ·exact ty u n
 obtain⟨fs,y,t,ty⟩:=go ks fun k hm=>by
  obtain⟨i,q,e⟩:=List.getElem_of_mem hm;exact⟨kf i,H i k (by rw[Ss q,e]),D i q⟩
 exact W.kat_kind t (by lia) ty (by cases b<;>rfl) (h _)
theorem vV{g j:Type}{f:g->j}:∀{l:List j} {T:List g},l.Perm (T.map f)->∃c:List g,c.Perm T/\c.map f=l
 |[],T,h=>by
  have:T.map f=[]:=h.symm.eq_nil;rw[List.map_eq_nil_iff]at this;subst this;exact⟨[],.nil,R⟩
 |b::l,T,h=>by
  obtain⟨t,n,e⟩:=SJ.mp (h.mem_iff.mp SD);obtain⟨A,B,rfl⟩:=List.append_of_mem n;have i:(b::l).Perm (f t::(A++B).map f):=by
   refine h.trans ?_;rw[SL,SM,SL];exact List.perm_middle
  rw[e]at i;obtain⟨c,p,q⟩:=vV i.cons_inv;exact⟨t::c,(p.cons t).trans List.perm_middle.symm,by rw[SM,e,q]⟩
theorem MZ{ks us:OA}(h:ks.length=us.length):(ks.toArray.zip us.toArray).toList=(List.range us.length).map fun i=>(ks.getD i Value.none,us.getD i Value.none):=by
 refine List.ext_getElem (by simp[h]) fun i e c=>?_;simp at e c;simp[c,show i<ks.length by lia]
def VG(kf:Nat->List (Sum Int (List Nat)))(n:Nat)(is:OF):Prop:=is.Perm (List.range n)/\is.Pairwise fun i j=>Xb Vj (kf j) (kf i)=false
theorem VG.few(h:n<2):VG kf n (List.range n):=by
 refine⟨.refl _,?_⟩;rcases(show n=0\/n=1 by lia)with rfl|rfl
 ·exact .nil
 ·exact List.pairwise_singleton _ _
theorem vW{us:OA}(G:us.length<64)(Y:¬ us.length<2)(y:ks.length=us.length)(v:∀i k,ks[i]? = some k->WZ s.heap k (kf i) m)(H:∀i,i<ks.length->(kf i).map XM=sh)(P:∀i j,i<ks.length->j<ks.length->kf i=kf j->i=j\/m=0)
  (h:∀is c,VG kf us.length is->(arrOf c).toList=(is.map fun i=>(ks.getD i Value.none,us.getD i Value.none))->failedOf c=none->Q ((),c) s):wpAny (model prog w) A ((sortRuns').run (SortSt.mk' (tuples' b) (ks.toArray.zip us.toArray) #[] 7 none)) Q E s:=by
 have x:=MZ y;have n:(ks.toArray.zip us.toArray).size=us.length:=by simp[y]
 have D:∀i,i<us.length->(A2 ks kf).keyOf (ks.getD i Value.none)=some (kf i):=fun i f=>ZfX v (by rw[List.getD_eq_getElem?_getD,Ss (by lia)];rfl);refine Op (ZfM (κ:=A2 ks kf) (a₀:=ks.toArray.zip us.toArray) (Q:=fun _ c=>(arrOf c).Perm (ks.toArray.zip us.toArray)/\failedOf c=none/\SortedToK (A2 ks kf) (arrOf c) (ks.toArray.zip us.toArray).size) (ZfY v H P) (fun p g=>?_) ⟨Array.Perm.refl _,R,R,R⟩ (by rw[n];lia) (by rw[n];exact G) fun c I S O=>⟨I,S,O⟩) ?_ fun _ _ e=>e
 ·rw[x]at g
  obtain⟨i,f,rfl⟩:=SJ.mp g;exact⟨_,D i (List.mem_range.mp f)⟩
 ·rintro⟨⟨⟩,c⟩ X ⟨rfl,g,M,L⟩
  have J:(arrOf c).toList.Perm ((List.range us.length).map fun i=>(ks.getD i Value.none,us.getD i Value.none)):=by rw[<-x];exact Array.perm_iff_toList_perm.mp g
  obtain⟨is,u,B⟩:=vV J;have hlen:is.length=us.length:=by rw[u.length_eq,List.length_range]
  have mem:∀i∈is,i<us.length:=fun i f=>List.mem_range.mp (u.mem_iff.mp f);refine h is c ⟨u,?_⟩ B.symm M;have C:∀i (f:i<is.length),KK (A2 ks kf) (arrOf c) i=kf is[i]:=fun i f=>by
   unfold KK;have e:(arrOf c)[i]? = some (ks.getD is[i] Value.none,us.getD is[i] Value.none):=by
    rw[<-Array.getElem?_toList,<-B,Oa,Ss f];rfl
   rw[e];show((A2 ks kf).keyOf (ks.getD is[i] Value.none)).getD _=_;rw[D _ (mem _ (Oi f))];rfl
  rw[List.pairwise_iff_getElem];intro i j f T U;have q:=L i j (Nat.le_of_lt U) (by rw[n];lia);rw[C i f,C j T]at q;exact q
end
inductive WH:List V->List (Sum Int (List Nat))->Prop
 |nil:WH [] []
 |int (i:Int) {vs:List V} {as:List (Sum Int (List Nat))}:WH vs as->WH (.int i::vs) (.inl i::as)
 |str (z:Str) {vs:List V} {as:List (Sum Int (List Nat))}:WH vs as->WH (.str z::vs) (.inr z.cps.toList::as)
theorem WH.its{rs : List V}(h:WH zs g):∀{us:OA},Zx (zs++rs) us->∃vs r,us=vs++r/\VF vs g/\r.length=rs.length:=by
 induction h with
 |nil=>intro us r;exact⟨[],us,R,.nil,r.length.symm⟩
 |int i _ e =>
  intro us r;cases r with
  |cons a r=>obtain⟨t,rfl⟩:=a;obtain⟨vs,c,rfl,f,l⟩:=e r;exact⟨_::vs,c,R,.cons (.int _ _) f,l⟩
 |str z _ e =>
  intro us r;cases r with
  |cons a r=>obtain⟨t,rfl⟩:=a;obtain⟨vs,c,rfl,f,l⟩:=e r;exact⟨_::vs,c,R,.cons (.str _ _) f,l⟩
theorem WZ.of{rs : List V}(ok:Yf P w H h l (.tup (zs++rs)))(k:WH zs c):WZ h (.ref l) c rs.length:=by
 obtain⟨_,its,r,o,g,j,n,hd⟩:=ok;obtain⟨f,q,e,u,i⟩:=k.its r;exact⟨l,o,its.toArray,n,f,q,R,g,j,hd,by rw[List.toList_toArray];exact e,u,i⟩
theorem M0{xs:List V}{us:OA}(r:Zx xs us):∀{is:OF},(∀i∈is,i<xs.length)->Zx (is.map fun i=>xs.getD i .non) (is.map fun i=>us.getD i Value.none)
 |[],_=>.nil
 |i::is,h=>by
  have hi:=h i SD;obtain⟨u,c,ru⟩:=r.get (Ss hi);refine .cons ?_ (M0 r fun j e=>h j (SC _ e));show ZD (xs.getD i .non) (us.getD i Value.none);rw[List.getD_eq_getElem?_getD,List.getD_eq_getElem?_getD,Ss hi,c];exact ru
section
variable{σ:St}{H':Hp}{D S:Addr}{e e1:Nat}{ks us:OA}{xs:List V}{kf:Nat->List (Sum Int (List Nat))}{sh:List Bool}{P:PySem.Fin->Shared->Prop}
theorem vX{st:SortSt}{is:OF}(I:Za X pins σ H' s)(B:YX X pins H' S)(J:YX X pins H' D)(y:S≠D)(C:s.heap.get? S=some (seqObj "list" ks.toArray e)) (G:s.heap.get? D=some (seqObj "list" #[] e1)) (M:us.length<64) (L:ks.length=us.length)
  (v:(arrOf st).toList=is.map fun i=>(ks.getD i Value.none,us.getD i Value.none)) (x:failedOf st=none) (hlen:is.length=us.length)
  (h:∀c s',Za X pins σ H' s'->s'.heap.get? D=some (seqObj "list" (is.map fun i=>us.getD i Value.none).toArray c)->P (.done (.ret .none)) s'):wpAny (model X.prog X.w) A (ksk_tail D false e1 (.ref S) st) P E s:=by
 have q:(arrOf st).map (·.2)=(is.map fun i=>us.getD i Value.none).toArray:=by
  apply Array.toList_inj.mp;rw[Array.toList_map,v,Oe];rfl
 have n:=Heap.SameBut.update s.heap S (Obj.mapSeq fun _=>(#[]:Array Value));have f:(s.heap.update S (Obj.mapSeq fun _=>(#[]:Array Value))).get? D=some (seqObj "list" #[] e1):=(n.2 D y.symm).trans G;have s2:=Heap.SameBut.update (s.heap.update S (Obj.mapSeq fun _=>(#[]:Array Value))) D (Obj.mapSeq fun _=>(is.map fun i=>us.getD i Value.none).toArray);obtain⟨j,u⟩:∃j,((s.heap.update S (Obj.mapSeq fun _=>(#[]:Array Value))).update D (Obj.mapSeq fun _=>(is.map fun i=>us.getD i Value.none).toArray)).get? D=some (seqObj "list" (is.map fun i=>us.getD i Value.none).toArray j) :=
  ⟨_,get?_update_seq f fun _=>(is.map fun i=>us.getD i Value.none).toArray⟩
 unfold ksk_tail
 try dsimp only
 rw[q];refine Sa (listUpdate_at C R ?_ (by rw[SN,sizeLine_eq];lia) (Sk _));refine Sa (wpAny_letGo ?_);refine Sa (seqEpoch_at f R ?_);simp only[Bool.false_eq_true,if_false];refine Sa (listUpdate_at f R ?_ (Sk _) (by rw[SN,Sv,hlen,sizeLine_eq];lia));rw[x];simp only[bne_self_eq_false,Bool.false_eq_true,if_false];exact Sb (h j _ ((I.one (t':=s.toks) B fun c o g e=>(n.2 c g).trans e).one (t':=s.toks) J fun c o g e=>(s2.2 c g).trans e) u)
theorem ZfZ(I:Za X pins σ H' s)(y:YX X pins H' S)(J:YX X pins H' D)(v:S≠D)(C:s.heap.get? S=some (seqObj "list" ks.toArray e)) (G:s.heap.get? D=some (seqObj "list" #[] e1)) (q:us.length<64) (j:ks.length=us.length)
  (B:∀i k,ks[i]? = some k->WZ s.heap k (kf i) 0) (x:∀i,i<ks.length->(kf i).map XM=sh) (M:sh≠[])
  (h:∀is c s',VG kf us.length is->Za X pins σ H' s'->s'.heap.get? D=some (seqObj "list" (is.map fun i=>us.getD i Value.none).toArray c)->P (.done (.ret .none)) s'):wpAny (model X.prog X.w) A (ksk_end D false us.toArray e1 (.ref S) ks.toArray) P E s:=by
 unfold ksk_end
 try dsimp only
 simp only[Bool.false_eq_true,if_false];by_cases f:us.toArray.size<2
 ·rw[SW f,SW f]
  refine Sa (Sb ?_);rw[StateT.run_pure];refine Sa (Sb ?_)
  try dsimp only
  rw[SN]at f;exact vX (st:=SortSt.mk' general' (ks.toArray.zip us.toArray) #[] 7 none) (is:=List.range us.length) I y J v C G q j (MZ j) R (by simp) fun c s' n g=>h _ c s' (.few f) n g
 ·rw[SV f,SV f]
  rw[SN]at f;refine Sa (vU B x M (by lia) fun b=>Sa (vW q f j B x (fun _ _ _ _ _=>.inr R) fun is Q u L O=>?_));exact vX I y J v C G q j L O (by rw[u.1.length_eq,List.length_range]) fun c s2 n g=>h is c s2 u n g
theorem Zf0(q0:Za X pins σ H s)(fS:YX X pins H S)(fD:YX X pins H D)(a0:S≠D)(gS:s.heap.get? S=some (seqObj "list" #[] 0)) (gD:s.heap.get? D=some (seqObj "list" #[] e1)) (rv:Zx xs us) (g0:us.length<64)
  (f0:∀i,i<us.length->(kf i).map XM=sh) (i0:sh≠[])
  (turn:∀(i:Nat) (v:V),xs[i]? = some v->∀(n:Hp) (u:Value) (pins':Ou) (s':Shared),Zc H n->ZD v u->Za X pins' σ n s'->wpAny (model X.prog X.w) A (call (.ref f) [u]) (EP X pins' σ fun r y=>Zc n y/\∃l zs,r=.ref l/\y l=some (.tup zs)/\WH zs (kf i)) (fun _ _=>False) s')
  (h:∀is c s' H',VG kf us.length is->Zc H H'->YX X pins H' D->Za X pins σ H' s'->s'.heap.get? D=some (seqObj "list" (is.map fun i=>us.getD i Value.none).toArray c)->P (.done (.ret .none)) s'):wpAny (model X.prog X.w) A (ksk_rest D (.ref f) false us.toArray e1 (.ref S)) P E s:=by
 unfold ksk_rest;refine Sa (wpAny_rule ?_)
 first
  |rw[List.forIn_toArray]
  |(rw[<-Array.forIn_toList];simp only[List.toList_toArray])
  |rw[<-Array.forIn_toList]
 refine Sa (ksk_fold (fun i s'=>∃(H':Hp) (ks:OA) (e:Nat),Za X pins σ H' s'/\Zc H H'/\YX X pins H' S/\YX X pins H' D/\s'.heap.get? S=some (seqObj "list" ks.toArray e)/\s'.heap.get? D=some (seqObj "list" #[] e1)/\ks.length=i/\∀j k,ks[j]? = some k->∃l zs,k=.ref l/\H' l=some (.tup zs)/\WH zs (kf j)) us 0 s
  ⟨H,[],0,q0,Zc.refl H,fS,fD,gS,gD,R,fun j k e=>by simp at e⟩ ?step ?done)
 case step =>
  rintro j u s' hu ⟨n,ks,e,C,M,B,x,L,U,G,Q⟩;simp only[Nat.zero_add]at G ⊢;have hj:j<us.length:=(Sr.mp hu).1;obtain⟨v,ev⟩:∃v,xs[j]? = some v:=⟨_,Ss (by rw[rv.length];exact hj)⟩;obtain⟨u',c0,ru⟩:=rv.get ev;rw[hu]at c0;obtain rfl:=So c0;have I2:Za X (pins++[(S,seqObj "list" ks.toArray e),(D,seqObj "list" #[] e1)]) σ n s':=C.pins_of fun m0 q=>by
   rcases SG.mp q with q|q
   ·exact C.pin m0 (SH _ q)
   ·rcases SF.mp q with rfl|q
    ·exact⟨L,B.1,B.2.1,B.2.2.1,fun v z=>by cases z⟩
    ·rw[SE.mp q]
     exact⟨U,x.1,x.2.1,x.2.2.1,fun v z=>by cases z⟩
  refine Sa (wpAny_attempt (Op (turn j v ev n u _ s' M ru I2) (fun r0 s2 he=>?_) fun _ _ hF=>hF.elim));obtain⟨vy,y,J,ry,S2,l,zs,rfl,h0,p0⟩:=he;cases ry;have J1:=J.unpinned;have T:=J.pin (S,seqObj "list" ks.toArray e) (SH _ (SH _ (.head _)));have pD:=J.pin (D,seqObj "list" #[] e1) (SH _ (SH _ (.tail _ (.head _))));have b0:YX X pins y S:=⟨T.2.1,B.2⟩;have l0:YX X pins y D:=⟨pD.2.1,x.2⟩;have s1:=Heap.SameBut.update s2.heap S (Obj.mapSeq (·.push (Value.ref l)));have ea:ks.toArray.push (Value.ref l)=(ks++[Value.ref l]).toArray:=by simp
  obtain⟨Z,d0⟩:∃Z,(s2.heap.update S (Obj.mapSeq (·.push (Value.ref l)))).get? S=some (seqObj "list" (ks++[Value.ref l]).toArray Z):=⟨_,by rw[<-ea];exact get?_update_seq T.1 (·.push (Value.ref l))⟩
  try dsimp only
  refine Sa (listUpdate_at T.1 R ?_ (by rw[SN,sizeLine_eq];lia) (Sh (Nat.le_of_eq (Array.size_push ..)) (by rw[SN,sizeLine_eq];lia)));refine Sb ⟨R,y,ks++[Value.ref l],Z,J1.one (t':=s2.toks) b0 fun c o hc e=>(s1.2 c hc).trans e,M.trans S2,b0,l0,d0,(s1.2 D a0.symm).trans pD.1,by rw[Su,Sw,G],fun I k g=>?_⟩;by_cases n0:I<ks.length
  ·rw[List.getElem?_append_left n0]at g
   obtain⟨l',o0,e1,O,Y⟩:=Q I k g;exact⟨l',o0,e1,S2 _ _ O,Y⟩
  ·rw[Ob (by lia)]at g
   have e0:I - ks.length=0:=by
    have:=(Sr.mp g).1;rw[Sw]at this;lia
   rw[e0]at g;obtain rfl:=So g;exact⟨l,zs,R,h0,by rw[show I=j by lia];exact p0⟩
 case done =>
  rintro s' ⟨n,ks,e,C,M,B,x,L,U,G,Q⟩
  try dsimp only
  refine Sa (listItems_at L R ?_);rw[Nat.zero_add]at G;refine ZfZ C B x a0 L U g0 G (fun i k g=>?_) (fun i hi=>f0 i (by lia)) i0 fun is c s2 o I' j0=>h is c s2 n o M x I' j0;obtain⟨l,zs,rfl,O,Y⟩:=Q i k g;exact WZ.of (rs:=[]) (by rw[Oc];exact C.hok l _ O) Y
theorem Zf1(I:Za X pins σ H s)(B:YX X pins H D)(g:s.heap.get? D=some (seqObj "list" us.toArray n)) (L:Zx xs us) (M:us.length<64)
  (O:∀i,i<us.length->(kf i).map XM=sh) (T:sh≠[])
  (turn:∀(i:Nat) (v:V),xs[i]? = some v->∀(j:Hp) (u:Value) (pins':Ou) (s':Shared),Zc H j->ZD v u->Za X pins' σ j s'->wpAny (model X.prog X.w) A (call (.ref f) [u]) (EP X pins' σ fun r y=>Zc j y/\∃l zs,r=.ref l/\y l=some (.tup zs)/\WH zs (kf i)) (fun _ _=>False) s')
  (h:∀is c s' H',VG kf us.length is->Zc H H'->YX X pins H' D->Za X pins σ H' s'->s'.heap.get? D=some (seqObj "list" (is.map fun i=>us.getD i Value.none).toArray c)->P (.done (.ret .none)) s'):wpAny (model X.prog X.w) A (ksk_tree D (.ref f) false) P E s:=by
 have U:D<s.heap.objs.size:=Se g;have G:=Heap.SameBut.update s.heap D (Obj.mapSeq fun _=>(#[]:Array Value));obtain⟨e1,q⟩:∃e1,(s.heap.update D (Obj.mapSeq fun _=>(#[]:Array Value))).get? D=some (seqObj "list" #[] e1):=⟨_,get?_update_seq g fun _=>#[]⟩;have J:=I.one (t':=s.toks) B fun c o Q e=>(G.2 c Q).trans e;have x:((s.heap.update D (Obj.mapSeq fun _=>(#[]:Array Value))).push (seqObj "tuple" us.toArray 0)).objs.size=s.heap.objs.size+1:=by rw[size_push',Heap.size_update]
 unfold ksk_tree;refine Sa (listItems_at g R ?_);refine Sa (listUpdate_at g R ?_ (by rw[SN,sizeLine_eq];lia) (Sk _));refine Sa (seqEpoch_at q R ?_);refine Sa (wpAny_newTuple ?_ (by show us.length<=_;rw[sizeLine_eq];lia));refine Sa (wpAny_newList ?_ (Sk _));refine wpAny_holding ?_;have C:H (s.heap.objs.size+1)=none:=I.hok.fresh (by lia);refine Zf0 (s:={ s with heap:=((s.heap.update D (Obj.mapSeq fun _=>(#[]:Array Value))).push (seqObj "tuple" us.toArray 0)).push (seqObj "list" #[] 0) }) (S:=((s.heap.update D (Obj.mapSeq fun _=>(#[]:Array Value))).push (seqObj "tuple" us.toArray 0)).objs.size)
  (J.kept (t':=s.toks) fun b u e=>Sc _ (Sc _ e)) (by rw[x];exact I.fpOk (by lia) C) B (by rw[x];exact Nat.ne_of_gt (Sn U)) (Sd _ R) (Sc _ (Sc _ q)) L M O T turn h
theorem Zf2(f0:Za X pins σ H s)(fD:YX X pins H D)(J:s.heap.get? D=some (seqObj "list" us.toArray n)) (Z:Zx xs us) (b0:us.length<64)
  (hx:∀i v,xs[i]? = some v->∃l zs rs,v=.ref l/\H l=some (.tup (zs++rs))/\WH zs (kf i)/\rs.length=m) (O:∀i,i<us.length->(kf i).map XM=sh) (e0:sh≠[]) (hR:∀i j,i<us.length->j<us.length->kf i=kf j->i=j)
  (h:∀is c s',VG kf us.length is->Za X pins σ H s'->s'.heap.get? D=some (seqObj "list" (is.map fun i=>us.getD i Value.none).toArray c)->P (.done (.ret .none)) s'):wpAny (model X.prog X.w) A (Builtin.«list.sort» ⟨[.ref D],[]⟩) P E s:=by
 have s1:=Heap.SameBut.update s.heap D (Obj.mapSeq fun _=>(#[]:Array Value));obtain⟨e1,Y⟩:∃e1,(s.heap.update D (Obj.mapSeq fun _=>(#[]:Array Value))).get? D=some (seqObj "list" #[] e1):=⟨_,get?_update_seq J fun _=>#[]⟩;have G:=(f0.one (t':=s.toks) fD fun c o y e=>(s1.2 c y).trans e).kept (t':=s.toks) (h':=((s.heap.update D (Obj.mapSeq fun _=>(#[]:Array Value))).push (seqObj "tuple" us.toArray 0)).push (seqObj "list" #[] 0)) fun b g0 e=>Sc _ (Sc _ e);have u:=Sc (seqObj "list" #[] 0) (Sc (seqObj "tuple" us.toArray 0) Y);rw[list_sort_plain];refine Sa (listItems_at J R ?_);refine Sa (listUpdate_at J R ?_ (by rw[SN,sizeLine_eq];lia) (Sk _));refine Sa (seqEpoch_at Y R ?_);refine Sa (wpAny_newTuple ?_ (by show us.length<=_;rw[sizeLine_eq];lia));refine Sa (wpAny_newList ?_ (Sk _));refine wpAny_holding ?_;show wpAny _ _ _ _ _ { s with heap:=((s.heap.update D (Obj.mapSeq fun _=>(#[]:Array Value))).push (seqObj "tuple" us.toArray 0)).push (seqObj "list" #[] 0) };generalize ((s.heap.update D (Obj.mapSeq fun _=>(#[]:Array Value))).push (seqObj "tuple" us.toArray 0)).push (seqObj "list" #[] 0)=g at G u ⊢;have M:∀(is:OF) (st:SortSt),VG kf us.length is->(arrOf st).toList=(is.map fun i=>(us.getD i Value.none,us.getD i Value.none))->failedOf st=none->wpAny (model X.prog X.w) A (do
   let touched:=(<-seqEpoch D) != e1
   Builtin.List.listUpdate (.ref D) fun _=>(arrOf st).map (·.2)
   if let some e:=failedOf st then rule "list.sort.comparison-raised";throw e
   if touched then rule "list.sort.modified";raiseError "ValueError" "list modified during sort"
   ret .none) P E { s with heap:=g }:=fun is st q C B=>by
  have c0:(arrOf st).map (·.2)=(is.map fun i=>us.getD i Value.none).toArray:=by
   apply Array.toList_inj.mp;rw[Array.toList_map,C,Oe];rfl
  have s2:=Heap.SameBut.update g D (Obj.mapSeq fun _=>(is.map fun i=>us.getD i Value.none).toArray);obtain⟨I,a0⟩:∃I,(g.update D (Obj.mapSeq fun _=>(is.map fun i=>us.getD i Value.none).toArray)).get? D=some (seqObj "list" (is.map fun i=>us.getD i Value.none).toArray I):=⟨_,get?_update_seq u fun _=>(is.map fun i=>us.getD i Value.none).toArray⟩;refine Sa (seqEpoch_at u R ?_);rw[c0,B];refine Sa (listUpdate_at u R ?_ (Sk _) (by rw[SN,Sv,q.1.length_eq,List.length_range,sizeLine_eq];lia));simp only[bne_self_eq_false,Bool.false_eq_true,if_false];exact Sb (h is I _ q (G.one (t':=s.toks) fD fun c o y e=>(s2.2 c y).trans e) a0)
 dsimp only;by_cases f:us.toArray.size<2
 ·rw[SW f,SW f]
  refine Sa (Sb ?_);rw[StateT.run_pure];refine Sa (Sb ?_);rw[SN]at f;exact M (List.range us.length) (SortSt.mk' general' (us.toArray.zip us.toArray) #[] 7 none) (.few f) (MZ R) R
 ·rw[SV f,SV f]
  rw[SN]at f;have Q:∀i k,us[i]? = some k->WZ g k (kf i) m:=fun i k L=>by
   have x:=(Sr.mp L).1;obtain⟨v,U⟩:∃v,xs[i]? = some v:=⟨_,Ss (by rw[Z.length];exact x)⟩;obtain⟨g0,T,ru⟩:=Z.get U;rw[L]at T;cases T;obtain⟨l,zs,rs,rfl,hl,k1,rfl⟩:=hx i v U;cases ru;exact WZ.of (G.hok l _ hl) k1
  refine Sa (vU (s:={ s with heap:=g }) Q O e0 (by lia) fun b=>Sa (vW (s:={ s with heap:=g }) b0 f R Q O (fun i j x hj e=>.inl (hR i j x hj e)) fun is d0 q C B=>?_));exact M is d0 q C B
theorem vY(I:Za X pins σ H s)(us:OA):((s.heap.push (seqObj "list" #[] 0)).update s.heap.objs.size (Obj.mapSeq (· ++ us.toArray))).objs.size=s.heap.objs.size+1/\(((s.heap.push (seqObj "list" #[] 0)).update s.heap.objs.size (Obj.mapSeq (· ++ us.toArray))).push (seqObj "list" us.toArray 0)).get? (s.heap.objs.size+1)=some (seqObj "list" us.toArray 0) /\
  Za X pins σ H { s with heap:=((s.heap.push (seqObj "list" #[] 0)).update s.heap.objs.size (Obj.mapSeq (· ++ us.toArray))).push (seqObj "list" us.toArray 0) }/\H (s.heap.objs.size+1)=none/\YX X pins H (s.heap.objs.size+1):=by
 have f:((s.heap.push (seqObj "list" #[] 0)).update s.heap.objs.size (Obj.mapSeq (· ++ us.toArray))).objs.size=s.heap.objs.size+1:=by
  rw[Heap.size_update,size_push']
 have h:(((s.heap.push (seqObj "list" #[] 0)).update s.heap.objs.size (Obj.mapSeq (· ++ us.toArray))).push (seqObj "list" us.toArray 0)).get? (s.heap.objs.size+1)=some (seqObj "list" us.toArray 0):=by
  rw[<-f];exact Sd _ R
 have keep:∀b o,s.heap.get? b=some o->(((s.heap.push (seqObj "list" #[] 0)).update s.heap.objs.size (Obj.mapSeq (· ++ us.toArray))).push (seqObj "list" us.toArray 0)).get? b=some o:=fun b o q=>by
  have c:b<s.heap.objs.size:=Se q;rw[Heap.get?_push_ne _ _ _ (by rw[f];exact Sf (Sn c)),Heap.get?_update_ne _ _ _ _ (Sf c),Heap.get?_push_ne _ _ _ (Sf c)];exact q
 have g:H (s.heap.objs.size+1)=none:=I.hok.fresh (by lia);exact⟨f,h,I.kept (t':=s.toks) keep,g,I.fpOk (by lia) g⟩
theorem Zf3(I:Za X pins σ H s)(hq:Zf X.K H p xs)(a0:xs.length<64)(J:∀i,i<xs.length->(kf i).map XM=sh)(T:sh≠[])
  (turn:∀(i:Nat) (v:V),xs[i]? = some v->∀(j:Hp) (u:Value) (pins':Ou) (s':Shared),Zc H j->ZD v u->Za X pins' σ j s'->wpAny (model X.prog X.w) X.A.in1.in1 (call (.ref f) [u]) (EP X pins' σ fun r B=>Zc j B/\∃l zs,r=.ref l/\B l=some (.tup zs)/\WH zs (kf i)) (fun _ _=>False) s')
  (q:∀(is:OF) (l:Addr) (H':Hp),VG kf xs.length is->Zc H H'->H' l=none->H l=none->Q (.ref l) (upd H' l (.lst (is.map fun i=>xs.getD i .non)))) :
  wpAny (model X.prog X.w) X.A (call (.builtin "sorted") [.ref p] [(OJ "key",.ref f)]) (EP X pins σ Q) E s:=by
 obtain⟨us,n,U,L⟩:=I.list hq;have hlen:=n.length;refine call_function_entry_kw kind_sorted plain_sorted entry_sorted (ksk_s1 _ _) ?_;unfold Builtin.«sorted»;refine Sa (m:=checkCount "sorted" 1 1 _) (Sb ?_);refine Sa (collect_list U.isList ?_ (by rw[sizeLine_eq];lia));refine Sa (wpAny_newList ?_ (by rw[sizeLine_eq];lia));obtain⟨Z,C,I1,O,Y⟩:=vY I us;show wpAny _ _ _ _ _ { s with heap:=((s.heap.push (seqObj "list" #[] 0)).update s.heap.objs.size (Obj.mapSeq (· ++ us.toArray))).push (seqObj "list" us.toArray 0) };rw[Z];refine Sa (wpAny_holding (wpAny_call_entry_kw slot_list_sort ⟨_,C,R⟩ entry_list_sort ?body (ksk_l1 _ _)))
 case body =>
  show wpAny _ X.A.in1.in1 (Builtin.«list.sort» ⟨[.ref (s.heap.objs.size+1)],[(OJ "key",.ref f)]⟩) _ _ _;rw[ksk_t1];refine Zf1 (xs:=xs) I1 Y C n (by lia) (fun i y=>J i (by lia)) T turn fun is c s' H' h G x M g=>⟨_,R,Sb ⟨_,R,?_⟩⟩;rw[<-hlen]at h;have hm:∀i∈is,i<xs.length:=fun i y=>List.mem_range.mp (h.1.mem_iff.mp y);have zl:(is.map fun i=>xs.getD i .non).length<=sizeLine:=by rw[Sv,h.1.length_eq,List.length_range];exact L
  have new:Yf X.prog X.w (upd H' (s.heap.objs.size+1) (.lst (is.map fun i=>xs.getD i .non))) s'.heap (s.heap.objs.size+1) (.lst (is.map fun i=>xs.getD i .non)):=⟨zl,_,c,M0 n hm,g⟩;exact⟨.ref _,_,M.trackS x.1 g R (Heap.get?_none_of_le (Sh I.sz (Nat.le_succ _))) x.2.2.2.2.2 new,R,q is _ H' h G x.1 O⟩
end
theorem Zf4:YV X (.builtin "sorted") (fun xs H Q=>∃(p:Addr) (ys:List V) (kf:Nat->List (Sum Int (List Nat))) (y:List Bool) (m:Nat),xs=[.ref p]/\Zf X.K H p ys/\ys.length<64/\(∀i v,ys[i]? = some v->∃l zs rs,v=.ref l/\H l=some (.tup (zs++rs))/\WH zs (kf i)/\rs.length=m)/\(∀i,i<ys.length->(kf i).map XM=y)/\y≠[]/\(∀i j,i<ys.length->j<ys.length->kf i=kf j->i=j) /\
  ∀(is:OF) (l:Addr),VG kf ys.length is->H l=none->Q (.ref l) (upd H l (.lst (is.map fun i=>ys.getD i .non)))):=by
 intro pins s σ H xs f Q I r h;obtain⟨p,xs,kf,y,m,rfl,U,a0,M,C,L,T,q⟩:=h;obtain⟨b0,rfl,E⟩:=X1 r;cases E;obtain⟨f,u,P,D⟩:=I.list U;have hlen:=u.length;refine Calls.call_function_entry kind_sorted plain_sorted entry_sorted (args_sorted1 _) ?_;unfold Builtin.«sorted»;refine Sa (m:=checkCount "sorted" 1 1 _) (Sb ?_);refine Sa (collect_list P.isList ?_ (by rw[sizeLine_eq];lia));refine Sa (wpAny_newList ?_ (by rw[sizeLine_eq];lia));obtain⟨S,B,Y,J,x⟩:=vY I f;show wpAny _ _ _ _ _ { s with heap:=((s.heap.push (seqObj "list" #[] 0)).update s.heap.objs.size (Obj.mapSeq (· ++ f.toArray))).push (seqObj "list" f.toArray 0) };rw[S];refine Sa (wpAny_holding (wpAny_call_entry slot_list_sort ⟨_,B,R⟩ entry_list_sort ?body (args_list_sort _)))
 case body =>
  refine Zf2 (xs:=xs) Y x B u (by lia) M (fun i n=>C i (by lia)) L (fun i j n hj=>T i j (by lia) (by lia)) fun is c O e G g=>⟨_,R,Sb ⟨_,R,?_⟩⟩;rw[<-hlen]at e;have hm:∀i∈is,i<xs.length:=fun i n=>List.mem_range.mp (e.1.mem_iff.mp n);have Z:(is.map fun i=>xs.getD i .non).length<=sizeLine:=by rw[Sv,e.1.length_eq,List.length_range];exact D
  have new:Yf X.prog X.w (upd H (s.heap.objs.size+1) (.lst (is.map fun i=>xs.getD i .non))) O.heap (s.heap.objs.size+1) (.lst (is.map fun i=>xs.getD i .non)):=⟨Z,_,c,M0 u hm,g⟩;exact⟨.ref _,_,G.trackS x.1 g R (Heap.get?_none_of_le (Sh I.sz (Nat.le_succ _))) x.2.2.2.2.2 new,R,q is _ e J⟩
inductive Zf5(K:Ow)(N:OB)(qual:Str)(params:Arguments)(body:Expr)(scope:Scope)(te:TE)(Q:VK)(vs:List V)(zs:List V)(H2:Hp):Prop|mk (p f c':Addr) (pm ctv:Value) (xs:List V) (kf:Nat->List (Sum Int (List Nat))) (sh:List Bool) (_:vs=[.ref p]) (_:zs=[.ref f]) (_:Zf K H2 p xs) (_:xs.length<64) (_:(∀i,i<xs.length->(kf i).map XM=sh)) (_:sh≠[]) (_:H2 f=some (UH f qual params body scope pm c' ctv)) (_:H2 c'=some (XJ c' qual)) (_:(∀(i:Nat) (v:V),xs[i]? = some v->∀H3,Zc H2 H3->te (WD N [v]) H3 fun r H'=>Zc H3 H'/\∃l zs,r=.ref l/\H' l=some (.tup zs)/\WH zs (kf i))) (_:∀(is:OF) (l:Addr) (H':Hp),VG kf xs.length is->Zc H2 H'->H' l=none->H2 l=none->Q (.ref l) (upd H' l (.lst (is.map fun i=>xs.getD i .non))))
def Zf6(K:Ow)(N:OB)(qual:Str)(params:Arguments)(body:Expr)(scope:Scope)(e:TE)(t tk:TA):TE:=fun c H Q=>t c H fun f g=>tk c g fun zs h=>Zf5 K N qual params body scope e Q f zs h
theorem Zf7{qual:Str}{params:Arguments}{body:Expr}(hg:Gl X "sorted") (hm:X.mg "sorted" = none) (hv:bootBuiltins "sorted" = some (.builtin "sorted"))
  (G:Yb (k+3) X.A) (S:Zy N [x] scope) (hb:∀(L:Value) (c:Addr) (B u:Value),bindArgs (W.kla_fn "<lambda>" qual params body scope [] L (.ref c) B) ⟨[u],[]⟩=pure [(x,u)])
  (i0:∀(f c:Addr) (A:Around) (outer:List Env) (s:Shared) (H:Hp),Yb k (A.deeper (envOfC qual scope s.heap.objs.size f (.ref c)))->PE (Wv Zo X.prog X.w X.K X.mg X.base N qual scope f (.ref c) A outer s H E0) body J)
  (ha:PA X (e::g) t) (U:PK X i tk) (M:(backToKw pos (keywordEach i X.env)).all (·.1.isSome)=true:=by rfl) (h0:(backToKw pos (keywordEach i X.env)).filterMap (·.1)=[OJ "key"]:=by rfl)
  (Y:starEach (e::g) X.env=(false,eval e X.env)::starEach g X.env:=by rfl)
  (a0:(backTo pos (starEach (e::g) X.env)).any (·.1)=false:=by rfl) (f0:(backToKw pos (keywordEach i X.env)).any (·.1.isNone)=false:=by rfl) :
  PE X (.Call (.Name "sorted" p) (e::g) i pos) (Zf6 X.K N qual params body scope J t tk):=by
 intro pins s C H m0 I h;refine wpAny_Call_Name_kw (Uu I hg hm hv ?_ (by lia) (by lia));refine callWith_builtin_kwB a0 f0 (evalArgs_kw2 M (Zq (ha pos pins s C H _ I h) fun us O ⟨vs,H1,I1,r,g0⟩=>?_) Y);refine Zq (U pos pins O C H1 _ I1 g0) fun ws s2 ⟨zs,H2,I2,P,q2⟩=>?_;rw[h0];obtain⟨l,f,c,L,B,xs,kf,sh,rfl,rfl,hq,T,Q,c0,hf,b0,turn,q3⟩:=q2;obtain⟨u,rfl,q⟩:=X1 r;cases q;obtain⟨u,rfl,q⟩:=X1 P;cases q;refine Zf3 I2 hq T Q c0 (fun d0 v ev y u l0 D sm ru j=>?_) q3;have ho:=(j.hok f _ (sm _ _ hf)).1;have j0:=(j.hok c _ (sm _ _ b0)).1;have Z:Ve X.prog X.w X.K X.mg X.base X.A.in1.in1 X.stack D y:={ j.env0 with frames:=j.env0.frames };refine wpAny_call (codeAny_mono (ZfD (E:=E0) S G.in1.in1 Z ho j0 (hb _ _ _ _) (.cons ru .nil) R (i0 f c X.A.in1.in1 X.stack D y (G.in1.in1.deeper _)) (turn d0 v ev y sm)) fun r s3 n=>?_);cases r with
 |error e=>exact False.elim n
 |ok fl =>
  cases fl with
  |ret u=>exact j.after n
  |next=>exact False.elim n
  |brk=>exact False.elim n
  |cont=>exact False.elim n
def Kl(b:List Stmt)(i:Nat):Arguments×Expr×Scope×Pos:=match b[i]? with
 |some (.Return (some (.Call _ _ (f::_) _)) _)=>match f.value with
  |.Lambda a e c p=>(a,e,c,p)
  |_=>(⟨[],[],none,[],[],none,[]⟩,.Name "" ⟨0,0,0,0⟩,⟨.function,[],false,false,[]⟩,⟨0,0,0,0⟩)
 |_=>(⟨[],[],none,[],[],none,[]⟩,.Name "" ⟨0,0,0,0⟩,⟨.function,[],false,false,[]⟩,⟨0,0,0,0⟩)
theorem vZ{K f:Type}[DecidableEq K]:∀{xs:List (K×f)} {j:Nat} {k:K} {p:f},(xs.map (·.1)).Nodup->xs[j]? = some (k,p)->xs.eraseIdx j=xs.filter fun x=>decide (x.1≠k)
 |[],_,_,_,_,h=>by simp at h
 |x::xs,0,k,p,hn,h=>by
  have e:x=(k,p):=So h;subst e;rw[SM,Ol]at hn;rw[List.eraseIdx_cons_zero,List.filter_cons,SV (by simp)];refine(List.filter_eq_self.mpr fun y g=>?_).symm;have ne:y.1≠k:=fun z=>hn.1 (by rw[<-z];exact SJ.mpr ⟨y,g,R⟩);simpa using ne
 |x::xs,j+1,k,p,hn,h=>by
  rw[SM,Ol]at hn;have c:xs[j]? = some (k,p):=by simpa using h
  have ne:x.1≠k:=fun z=>hn.1 (by rw[z];exact SJ.mpr ⟨(k,p),SK c,R⟩);rw[List.eraseIdx_cons_succ,List.filter_cons,SW (by simpa using ne),vZ hn.2 c]
theorem uA{c e:Type}(f:c->e):∀(xs:List c) (j:Nat),(xs.map f).eraseIdx j=(xs.eraseIdx j).map f
 |[],_=>rfl
 |x::xs,0=>rfl
 |x::xs,j+1=>by
  rw[SM,List.eraseIdx_cons_succ,List.eraseIdx_cons_succ,SM,uA f xs j]
section
variable{K:Type}[DecidableEq K]{knd:HeapKind prog w K}{d a:Addr}{k:K}{xs:List (K×Addr×Value)}
def G2(xs:List (K×Addr×Value))(k:K):List (K×Addr×Value):=xs.filter fun x=>decide (x.1≠k)
theorem Zf8(u:knd.room A)(n:knd.is s.heap k a)(hm:s.heap.DictOfH knd d xs)(hsz:xs.length<=sizeLine)
  (H:(atKey xs k).map (·.2)=none->Q none { s with toks:=s.toks+knd.draws k })
  (y:∀e,(atKey xs k).map (·.2)=some e.val->∀h,h.DictOfH knd d (G2 xs k)->Heap.SameBut d s.heap h->Q (some e) { s with heap:=h,toks:=s.toks+knd.draws k }) :
  wpAny (model prog w) A (Builtin.Dict.takeOut d (.ref a)) Q E s:=by
 obtain⟨o,i,C,c,D,hd,f,q,hn⟩:=hm;unfold Builtin.Dict.takeOut
 try with_reducible refine wpAny_holding ?_
 refine Sa (knd.pyHash u n (Sa (wpAny_dictFind_heap (s:={ s with toks:=s.toks+knd.draws k }) u n c hd f q hn ?_ ?_)))
 ·intro G
  exact Sb (H (by rw[atKey_none_of_get G];rfl))
 ·intro j p g
  refine Sa (wpAny_dictEntries (s:={ s with toks:=s.toks+knd.draws k }) c hd ?_);rw[entry_at f j,g];refine Sa (wpAny_updateDictKeys (hz:=by have e:=size_of_entries f;lia) (s:={ s with toks:=s.toks+knd.draws k }) c hd (Sb (y _ (by rw[atKey_of_get hn g];rfl) _ ⟨_,_,C+1,Heap.get?_update_self _ c (Obj.isFreed_of_dict (Obj.data_mapDictKeys hd _)),
   D.mapDictKeys _,Obj.data_mapDictKeys hd _,?_,?_,?_⟩ (Heap.SameBut.update ..))))
  ·have v:(i.eraseIdxIfInBounds j).toList=i.toList.eraseIdx j:=by
    obtain⟨l⟩:=i;simp
   rw[v,f,uA,vZ hn g];rfl
  ·intro x B
   exact knd.keeps (q x ((List.mem_filter.mp B).1)) c hd (Heap.SameBut.update ..)
  ·unfold G2
   exact List.Nodup.sublist (List.Sublist.map _ List.filter_sublist) hn
theorem Zf9(knd:HeapKind prog w K)(d a:Addr)(hd:(d == sysModules)=false)(dflt:Value) :
  MeetsIn prog w (Builtin.«dict.pop» ⟨[.ref d,.ref a,dflt],[]⟩) (fun A R s=>knd.room A.in1/\∃k xs,knd.is s.heap k a/\s.heap.DictOfH knd d xs/\xs.length<=sizeLine /\
   ((atKey xs k).map (·.2)=none->∀t,R (.ok (.ret dflt)) { s with toks:=t }) /\
   ∀v,(atKey xs k).map (·.2)=some v->∀c t,c.DictOfH knd d (G2 xs k)->Heap.SameBut d s.heap c->R (.ok (.ret v)) { s with heap:=c,toks:=t }) :=
 .of_wp fun A R s ⟨G,k,xs,j,hm,C,f,B⟩=>by
  unfold Builtin.«dict.pop»;refine Sa ?_;unfold Builtin.Dict.keyAndDefault;refine Sa (wpAny_notOrdered_dict hm.typeIs ?_);show wpAny _ _ (pure (d,Value.ref a,some dflt)) _ _ s;refine Sb ?_;obtain⟨o,g,H,n,I,y,h,J,hn⟩:=id hm;dsimp only;rw[SV (show ¬ (keyPart (Value.ref a)).isSome=true by simp[keyPart])];refine Sa (wpAny_dictEntries n y (Sa (Sb ?_)));cases D:g.isEmpty with
  |true =>
   have i:xs=[]:=by
    have:=size_of_entries h;have z:g.size=0:=by simpa using D
    exact List.length_eq_zero_iff.mp (by lia)
   subst i;simp only[if_true];refine Sa (wpAny_rule (Sa (Sb ?_)));simp only[Option.isNone_none,if_true];refine Sa (wpAny_missedRemoval_other hd ?_);exact Sa (wpAny_rule (Sb ⟨dflt,rfl,f rfl _⟩))
  |false =>
   simp only[Bool.false_eq_true,if_false];refine Sa (Zf8 G j hm C (fun hn=>?_) fun e u c x q=>?_)
   ·simp only[Option.isNone_none,if_true]
    refine Sa (wpAny_missedRemoval_other hd ?_);exact Sa (wpAny_rule (Sb ⟨dflt,rfl,f hn _⟩))
   ·simp only[Option.isNone_some,Bool.false_eq_true,if_false]
    exact Sa (wpAny_letGo (Sb ⟨e.val,rfl,B _ u c _ x q⟩))
end
theorem KT.drop(r:KT H f xs)(k:List Zt):KT H (Vi f k) (G2 xs k):=by
 unfold Vi G2
 induction r with
 |nil=>exact .nil
 |@cons p q g i h t c =>
  rw[List.filter_cons,List.filter_cons,<-h.1];by_cases e:p.1=k
  ·rw[SV (by simpa using e),SV (by simpa using e)];exact c
  ·rw[SW (by simpa using e),SW (by simpa using e)];exact .cons h c
theorem Zga{k:List Zt}(P:A.units+1<cLine)(I:Za X pins g H s)(e:H a=some (.dT f))(G:H b=some (.tup (k.map kV)))
  (h1:Zz f k=none->∀s',Za X pins g H s'->Q r s') (J:∀v,Zz f k=some v->∀h s',Za X pins g (upd H a (.dT (Vi f k))) s'->ZD v h->Q h s'):wpAny (model X.prog X.w) A (call (.builtin "dict.pop") [.ref a,.ref b,r]) Q E s:=by
 obtain⟨x,hd,C,rel,i⟩:=wP I.hok e;refine call_meetsIn PySem.F.slot_dict_pop i.typeIs PySem.F.entry_dict_pop (PySem.F.args_dict_pop_3 _ _ _) (Zf9 (tupleKind (Xk X.prog X.w)) a b hd r) ⟨tupleKind_room_in1 P,k,C,Q5 I.hok G,i,by rw[<-Paired.length rel];exact x,fun hn t=>?_,fun v L S t O D=>?_⟩
 ·have q:XE (Zz f k) none:=by rw[<-hn];exact rel.val k
  refine h1 ?_ _ (I.tok t);cases c:Zz f k with
  |none=>rfl
  |some v=>rw[c]at q;exact q.elim
 ·have q:XE (Zz f k) (some v):=by rw[<-L];exact rel.val k
  obtain⟨u,B,y,n,g2,g3,g4,_,g5⟩:=O;cases c:Zz f k with
  |none=>rw[c]at q;exact q.elim
  |some M =>
   rw[c]at q;refine J M c v _ (Kg I (by rw[e];exact True.intro) D ⟨u,n⟩ ⟨Sh (Q3 f k) x,hd,_,(rel.drop k).keeps fun c T j=>?_,u,B,y,n,g2,g3,g4,g5⟩) q;rw[Zd (Z4 j e (fun z=>nomatch z))];exact j
inductive Zgb(ty tx:TE)(σ:St)(Q:VK)(x:V)(H1:Hp):Prop|mk a (_:x=.ref a) (_:MI H1 a) (_:ty σ H1 fun y H2=>tx σ H2 fun z H3=>∃kvs k b,H3 a=some (.dT kvs)/\y=.ref b/\H3 b=some (.tup (k.map kV))/\(∀v,Zz kvs k=some v->Q v (upd H3 a (.dT (Vi kvs k))))/\(Zz kvs k=none->Q z H3))
def Zgc(td ty tx:TE):TE:=fun c H Q=>td c H fun x e=>Zgb ty tx c Q x e
theorem M3{apos : Pos}(hu:X.A.units+1<cLine)(B:PE X o td)(x:PE X e ty)(D:PE X f tx)(m:M2 X o "pop" apos e f i):PE X (.Call (.Attribute o "pop" apos) [e,f] [] i) (Zgc td ty tx):=by
 intro pins s c H e0 I h;refine wpAny_Call_method m.base m.few m.line PySem.F.plainAttrs_dict PySem.F.slot_dict_pop PySem.F.type_dict_pop (Zq (B pins s c H _ I h) fun a0 q ⟨c0,P,j,y,a,ex,d,n⟩=>?_);subst ex;obtain rfl:a0=Value.ref a:=y;obtain⟨t1,t2,_⟩:=wU j d;refine⟨t1,t2,?_⟩;rw[m.trees];refine Calls.callWith_builtin R (Calls.evalArgs_plain (Calls.spliced_cons (Zq (x pins q c P _ j n) fun J s2 ⟨b0,Q,E,ry,Z⟩ =>
  Calls.spliced_cons (Zq (D pins s2 c Q _ E Z) fun fv s3 ⟨z,M,T,u,d0,k,b,O,Y,G,S,L⟩=>Calls.spliced_nil ?_))))
 subst Y;cases (show J=Value.ref b from ry);exact Zga hu T O G (fun l C g=>⟨z,M,g,u,L l⟩) fun v l w' C g U=>⟨v,_,g,U,S v l⟩
theorem Zgd{a b:Addr}{xs ys:List V}{g:TG}{tt:TT}{M:TE}{J:St}{Q:VK}(j:Nat->List V->St->Hp->Prop)(O:j 0 [] J H)(hz:xs.length<=sizeLine)(X:∀i c h H,i<=xs.length->i<=ys.length->j i c h H->Zf K H a xs/\Zf K H b ys)
  (U:∀i x y p c h H,c.length<=i->xs[i]? = some x->ys[i]? = some y->H p=none->j i c h H->g (.ref p) h (upd H p (.tup [x,y])) fun e C=>tt e C fun b u=>if b=true then M e u fun z E=>(c++[z]).length<=i+1/\j (i+1) (c++[z]) e E else c.length<=i+1/\j (i+1) c e u)
  (hd:∀i c h H,i=min xs.length ys.length->c.length<=i->j i c h H->Qt Q c H) :
  ∃W:Nat->Nat->List V->St->Hp->Prop,(∃m,W 0 m [] J H)/\∀i m c n H,W i m c n H ->
   ((F3 K a b).stop i H/\Qt Q c H) \/
   ((F3 K a b).go i H/\c.length<sizeLine/\∃N:List V->St->Hp->Prop,(∀q v f,N q v f->∃I,I<m/\W (i+1) I q v f)/\∀x f,(F3 K a b).yld i H x f->g x n f fun e C=>tt e C fun b u=>if b=true then M e u fun y E=>N (c++[y]) e E else N c e u):=by
 refine⟨fun i m c h H=>m=xs.length - i/\(i<=xs.length/\i<=ys.length)/\c.length<=i/\j i c h H,⟨xs.length,by simp,⟨Sk _,Sk _⟩,Sk _,O⟩,?_⟩;rintro i m c n H ⟨rfl,⟨S,hj⟩,ha,p⟩;obtain⟨B,D⟩:=X i c n H S hj p;by_cases T:i<xs.length/\i<ys.length
 ·obtain⟨G,L⟩:=T
  refine .inr ⟨⟨xs,ys,xs[i],ys[i],B,D,by simp[G],by simp[L]⟩,by lia,fun q v f=>q.length<=i+1/\j (i+1) q v f,fun q v f z=>⟨xs.length - (i+1),by lia,R,⟨G,L⟩,z.1,z.2⟩,fun a0 f y=>?_⟩;obtain⟨r,x,y,Y,Z,P,rfl,rfl⟩:=y;exact U i x y r c n _ ha (Z xs B) (P ys D) Y p
 ·exact .inl ⟨⟨xs,ys,B,D,by lia⟩,hd i c n H (by lia) ha p⟩
section
variable{σ:St}
theorem Za.refit(I:Za X pins σ H s)(e:H d=some v)(nt:∀xs,v≠.tup xs)(B:∀f,v≠.tbl f)(no:∀x,v≠.own x)(nf:∀o u,X.H₀ d≠some (.frz o u))(ok:Yf X.prog X.w H s.heap d u):Za X pins σ (upd H d u) s:=by
 have ne:∀b,H b=none->b≠d:=fun b n z=>by rw[z,e]at n;cases n
 have tup:∀b xs,H b=some (.tup xs)->upd H d u b=some (.tup xs):=fun b xs q=>by
  rw[Zd fun z=>by rw[z,e]at q;exact nt xs (So q)];exact q
 have own:∀b x,H b=some (.own x)->upd H d u b=some (.own x):=fun b x q=>by
  rw[Zd fun z=>by rw[z,e]at q;exact no x (So q)];exact q
 refine⟨I.ok,I.os,I.bare,⟨I.base.keep,I.base.slot,fun b o q n D=>?_,I.base.there,fun b xs q=>tup b xs (I.base.tups b xs q),fun b o w q=>?_,fun b f q=>?_⟩,I.loc,I.cell,?_,fun x c q=>?_,fun p C=>?_,fun b w q=>?_,I.len⟩
 ·have:=I.base.free b o q n D
  rw[Zd (ne b this)];exact this
 ·have z:b≠d:=fun z=>nf o w (by rw[<-z];exact q)
  rw[Zd z];exact I.base.frzs b o w q
 ·obtain⟨more,g⟩:=I.base.tbls b f q
  exact⟨more,by rw[Zd fun z=>by rw[z,e]at g;exact B _ (So g)];exact g⟩
 ·rw[Zd (ne _ I.free)];exact I.free
 ·rw[Zd (ne _ (I.freeC x c q))];exact I.freeC x c q
 ·obtain⟨j,i,y⟩:=I.pin p C
  exact⟨j,by rw[Zd (ne _ i)];exact i,y⟩
 ·by_cases h:b=d
  ·subst h
   rw[Zg]at q;obtain rfl:=So q;exact ok.stay (fun _ _ _ q=>q) (fun c q=>own c _ q) tup
  ·rw[Zd h]at q
   exact(I.hok b w q).stay (fun _ _ _ q=>q) (fun c q=>own c _ q) tup
def Km(u:HO):Prop:=(∃c,u=.dK c)\/∃c,u=.dT c
theorem Km.nt(h:Km u):(∀xs,u≠.tup xs)/\(∀c,u≠.tbl c)/\(∀x,u≠.own x)/\∀o v,u≠.frz o v:=by
 rcases h with⟨_,rfl⟩|⟨_,rfl⟩<;>exact⟨fun _ z=>(nomatch z),fun _ z=>(nomatch z),fun _ z=>(nomatch z),fun _ _ z=>(nomatch z)⟩
theorem Za.freeze(I:Za X pins σ H s)(e:H d=some u)(c:Km u):∃o,Za X pins σ (upd H d (.frz o u)) s/\∀o u,X.H₀ d≠some (.frz o u):=by
 obtain⟨j,h,g,i⟩:=c.nt;have nf:∀o u,X.H₀ d≠some (.frz o u):=fun o v q=>by
  have:=I.base.frzs d o v q;rw[e]at this;exact i _ _ (So this)
 have ok:=I.hok d u e;obtain⟨o,f⟩:∃o,s.heap.get? d=some o:=by
  rcases c with⟨_,rfl⟩|⟨_,rfl⟩
  ·obtain⟨_,_,_,_,o,_,_,q,_⟩:=ok;exact⟨o,q⟩
  ·obtain⟨_,_,_,_,o,_,_,q,_⟩:=ok;exact⟨o,q⟩
 exact⟨o,I.refit e j h g nf ⟨f,ok⟩,nf⟩
theorem Za.thaw(I:Za X pins σ H s)(e:H d=some (.frz o u))(nf:∀o u,X.H₀ d≠some (.frz o u)):Za X pins σ (upd H d u) s :=
 I.refit e (fun _ z=>(nomatch z)) (fun _ z=>(nomatch z)) (fun _ z=>(nomatch z)) nf (I.hok d _ e).2
inductive Zge(t:TS)(D:Wr)(σ:St)(H:Hp):Prop|mk d u (_:H d=some u) (_:Km u) (_:∀o,t { nx:=fun σ' H'=>H' d=some (.frz o u)/\D.nx σ' (upd H' d u),rt:=fun v H'=>H' d=some (.frz o u)/\D.rt v (upd H' d u),bk:=fun σ' H'=>H' d=some (.frz o u)/\D.bk σ' (upd H' d u),ct:=fun σ' H'=>H' d=some (.frz o u)/\D.ct σ' (upd H' d u) } σ (upd H d (.frz o u)))
theorem G3{st:Stmt}{t:TS}(h:PS X st t):PS X st (Zge t):=by
 intro pins s σ H D I q;obtain⟨d,u,e,B,q⟩:=q;obtain⟨o,y,nf⟩:=I.freeze e B;refine Zq (h pins s σ _ _ y (q o)) fun f C r=>?_;cases f with
 |next=>obtain⟨c,n,j,i,g⟩:=r;exact⟨c,_,j.thaw i nf,g⟩
 |cont=>obtain⟨c,n,j,i,g⟩:=r;exact⟨c,_,j.thaw i nf,g⟩
 |brk=>obtain⟨c,n,j,i,g⟩:=r;exact⟨c,_,j.thaw i nf,g⟩
 |ret v=>obtain⟨x,c,n,j,r1,i,g⟩:=r;exact⟨x,c,_,j.thaw i nf,r1,g⟩
end
theorem uB(h:(Xk P w).is k u=true):ZD (kV k) u:=by
 cases k with
 |inl i=>exact Value.isInt_shape h
 |inr z=>exact Value.isStrOf_shape h
theorem KV.at(r:KV f vs):∀{i:Nat} {c:Zt×V},f[i]? = some c->∃u,vs[i]? = some (c.1,u)/\ZD c.2 u:=by
 induction r with
 |nil=>intro i c e;cases e
 |@cons a b j n h _ g =>
  intro i c e;cases i with
  |zero =>
   obtain rfl:=So e;exact⟨b.2,by rw[List.getElem?_cons_zero,h.1],h.2⟩
  |succ i =>
   rw[List.getElem?_cons_succ]at e;obtain⟨u,x,y⟩:=g e;exact⟨u,by rw[List.getElem?_cons_succ];exact x,y⟩
def G4(d:Addr)(ob:Obj)(c:List (Zt×V)):It :=
 ⟨fun i H=>H d=some (.frz ob (.dK c))/\i<c.length,fun i H v f=>∃p e,H p=none/\c[i]? = some e/\v=.ref p/\f=upd H p (.tup [kV e.1,e.2]),fun i H=>H d=some (.frz ob (.dK c))/\c.length<=i⟩
theorem A3{ob:Obj}(I:Za X pins q H s)(e:H d=some (.frz ob (.dK j))) :
  (d == sysModules)=false/\∃vs c f,KV j vs/\s.heap.DictAt (Xk X.prog X.w) d vs c/\ob.data=.dict f c:=by
 obtain⟨i,v,u,vs,n,o,f,c,h,r1,g,r3⟩:=I.hok d _ e;rw[i]at h;obtain rfl:=So h;exact⟨u,vs,c,f,n,⟨_,f,i,r1,g,r3⟩,g⟩
theorem Zgf{e:OC}{k:Nat}(d g:Addr)(ob:Obj)(v:List (Zt×V))(j0:d≠g) :
  Qn P w K (.Tuple e k pos) (G4 d ob v) [g] g (fun i h=>∃f e ok j,IsItemIter h g d i v.length f ok j/\ob.data=.dict e f) where
 mem:=by simp
 obj:=fun i h st b n=>by
  obtain⟨f,e,ok,j,c,_⟩:=st;rw[SE.mp n];exact⟨_,c,fun i0 z=>by cases z⟩
 keep:=fun i h h' st kk=>by
  obtain⟨f,e,ok,j,c,hd⟩:=st;exact⟨f,e,ok,j,kk g (by simp) _ c,hd⟩
 item:=by
  intro d0 H L M T i pins s σ f0 E I J st G;subst H L M;obtain⟨f,e,ok,j,c,hd⟩:=st;obtain⟨C,S⟩:=G;obtain⟨hs,O,D,Q,B,hm,u⟩:=A3 I C;rw[hd]at u;obtain⟨rfl,rfl⟩:e=Q/\f=D:=by injection u with a b;exact⟨a,b⟩
  have hlen:O.length=v.length:=(Paired.length B).symm;obtain⟨x,U⟩:∃x,v[i]? = some x:=⟨_,Ss S⟩;obtain⟨h0,hu,ru⟩:=KV.at B U;rw[<-hlen]at c;refine wpAny_pyNext_items_item c hm hu fun g0 h1 c0 ho hT l0 hk=>⟨_,R,?_⟩;refine wpAny_letOwnedTupleGo_items (s:={ s with heap:=h1 }) ho fun X e0 Y=>?_;have b0:g<s.heap.objs.size:=Se c;have a0:X.get? s.heap.objs.size=some { cls:=.type "tuple",data:=.seq #[g0,h0] }:=(Y.2 _ (Nat.ne_of_gt b0)).trans hT;obtain⟨I2,n2⟩:=I.paired (t':=s.toks) (fp:=[g]) (x:=kV x.1) (y:=x.2) (h':=X) J (fun b n=>by
   rw[SE.mp n];exact⟨_,c⟩) (fun b o n q=>by
   have Z:b≠g:=fun z=>n (by simp[z]);exact(Y.2 b Z).trans (hk b o Z q)) a0 (uB c0) ru
  refine⟨.ref s.heap.objs.size,_,I2,R,⟨_,x,I.hok.fresh (Sg _),U,R,R⟩,⟨f,e,_,_,by rw[<-hlen];exact e0,hd⟩,n2⟩
 done:=by
  intro d0 H L M T i pins s σ f0 E I J st G;subst H L M;obtain⟨f,e,ok,j,c,hd⟩:=st;obtain⟨C,S⟩:=G;obtain⟨hs,O,D,Q,B,hm,u⟩:=A3 I C;rw[hd]at u;obtain⟨rfl,rfl⟩:e=Q/\f=D:=by injection u with a b;exact⟨a,b⟩
  have hlen:O.length=v.length:=(Paired.length B).symm;rw[<-hlen]at c;exact wpAny_pyNext_items_end (I.ok.hd T) c hm (List.getElem?_eq_none (by lia)) fun h' eb=>⟨R,I.turnedL (t':=s.toks) (fp:=[g]) (fun b o n q=>eb b o (fun z=>n (by simp[z])) q) J⟩
 self:=fun A i s m0 E st h=>by
  obtain⟨f,e,ok,j,c,_⟩:=st;exact W.kcp_self c h
inductive Zgg(R:It->Hp->Prop)(x:V)(H1:Hp):Prop|mk d ob kvs (_:x=.ref d) (_:H1 d=some (.frz ob (.dK kvs))) (_:R (G4 d ob kvs) H1)
def Zgh(td:TE):TI:=fun c H e=>td c H fun x f=>Zgg e x f
theorem Kn{C:OC}{k:Nat}{tp:Pos}{o:Expr}{td:TE}{apos g:Pos}(E:PE X o td)(Y:attributeBase o "items" X.env (eval o X.env)=eval o X.env:=by rfl) (P:(apos.endLine == g.line)=true:=by rfl) :
  PI X (.Tuple C k tp) (.Call (.Attribute o "items" apos) [] [] g) (Zgh td):=by
 intro pins s D H R I h;refine wpAny_Call_method0_late Y P (Zq (E pins s D H _ I h) fun v c ⟨c0,M,f,r1,x⟩=>?_);obtain⟨d,ob,i,rfl,hd,q⟩:=x;cases r1;obtain⟨G,u,B,T,Q,hm,Z⟩:=A3 f hd;obtain⟨L,a0,O,U,b0,_⟩:=id hm;refine⟨"dict","dict.items",PySem.F.plainAttrs_dict,PySem.F.slot_dict_items,PySem.F.type_dict_items,hm.dictOf.typeIs,fun a e=>by cases e;exact⟨L,O,U.2.1⟩,Calls.callWith_builtin rfl (PySem.evalArgs_none ?_)⟩;refine call_meetsIn PySem.F.slot_dict_items hm.dictOf.typeIs PySem.F.entry_dict_items (PySem.F.args_dict_items_1 _) (meets_dict_items (Xk X.prog X.w) d G) ⟨⟨u,hm.dictOf⟩,?_⟩;have J:=hm.push { cls:=.type "dict_items",data:=.fields #[.ref d] };refine wpAny_pyIter_items (s:={ c with heap:=c.heap.push { cls:=.type "dict_items",data:=.fields #[.ref d] } }) ⟨_,Sd _ rfl,rfl,rfl⟩ J ?_;have hlen:u.length=i.length:=(Paired.length Q).symm;have y:d<c.heap.objs.size:=hm.lt_size;have j:(c.heap.push { cls:=.type "dict_items",data:=.fields #[.ref d] }).objs.size=c.heap.objs.size+1:=by simp[Heap.push]
 refine⟨(c.heap.push { cls:=.type "dict_items",data:=.fields #[.ref d] }).objs.size,[(c.heap.push { cls:=.type "dict_items",data:=.fields #[.ref d] }).objs.size],_,_,M,rfl,f.kept (t':=c.toks) (fun b o e=>Sc _ (Sc _ e)),Zgf d _ ob i (by rw[j];exact Sf (Sn y)),⟨B,T,_,_,by rw[<-hlen];exact Sd _ rfl,Z⟩,fun b S=>?_,q⟩;have n:c.heap.objs.size<=b:=by rw[SE.mp S,j];exact Nat.le_succ _
 exact f.fpOk n (f.hok.fresh n)
theorem Ko{d:Addr}{ob:Obj}{f:List (Zt×V)}{g:TG}{tb:TS}{D:Wr}{c:St}(h:Nat->St->Hp->Prop)(I:h 0 c H)(O:∀i c H,i<=f.length->h i c H->H d=some (.frz ob (.dK f)))
  (M:∀i u p c H,f[i]? = some u->H p=none->h i c H->g (.ref p) c (upd H p (.tup [kV u.1,u.2])) fun v B=>tb { D with nx:=h (i+1),ct:=h (i+1),bk:=D.nx } v B) (hd:∀c H,h f.length c H->D.nx c H) :
  ∃W:Nat->Nat->St->Hp->Prop,(∃m,W 0 m c H)/\∀i m c H,W i m c H ->
   ((G4 d ob f).stop i H/\D.nx c H)\/((G4 d ob f).go i H/\∃N:St->Hp->Prop,(∀C j,N C j->∃G,G<m/\W (i+1) G C j)/\∀x j,(G4 d ob f).yld i H x j->g x c j fun v B=>tb { D with nx:=N,ct:=N,bk:=D.nx } v B):=by
 refine⟨fun i m c H=>m=f.length - i/\i<=f.length/\h i c H,⟨f.length,by simp,Sk _,I⟩,?_⟩;rintro i m c H ⟨rfl,J,p⟩;have q:=O i c H J p;by_cases E:i<f.length
 ·refine .inr ⟨⟨q,E⟩,h (i+1),fun C j n=>⟨f.length - (i+1),by lia,R,E,n⟩,fun x j y=>?_⟩
  obtain⟨a,u,ha,L,rfl,rfl⟩:=y;exact M i u a c H L ha p
 ·have e:i=f.length:=by lia
  subst e;exact .inl ⟨⟨q,Sg _⟩,hd c H p⟩
def G5(d:Addr)(ob:Obj)(c:List (Zt×V)):It :=
 ⟨fun i H=>H d=some (.frz ob (.dK c))/\i<c.length,fun i H v f=>f=H/\∃e,c[i]? = some e/\v=kV e.1,fun i H=>H d=some (.frz ob (.dK c))/\c.length<=i⟩
theorem Zgi{tg:Expr}(d j:Addr)(ob:Obj)(v:List (Zt×V))(i0:d≠j) :
  Qn P w K tg (G5 d ob v) [j] j (fun i h=>∃c g,h.IsKeyIter j d i v.length c/\ob.data=.dict g c) where
 mem:=by simp
 obj:=fun i h st b n=>by
  obtain⟨c,g,⟨o,f,q,hd⟩,_⟩:=st;rw[SE.mp n];exact⟨o,f,fun h0 z=>by rw[hd]at z;cases z⟩
 keep:=fun i h h' st kk=>by
  obtain⟨c,g,⟨o,f,q⟩,hd⟩:=st;exact⟨c,g,⟨o,kk j (by simp) _ f,q⟩,hd⟩
 item:=by
  intro a0 M S T q i pins s σ H c0 I y st L;subst M S T;obtain⟨c,g,f,hd⟩:=st;obtain⟨C,Z⟩:=L;obtain⟨hs,X,D,Y,B,hm,u⟩:=A3 I C;rw[hd]at u;obtain⟨rfl,rfl⟩:g=Y/\c=D:=by injection u with a b;exact⟨a,b⟩
  have hlen:X.length=v.length:=(Paired.length B).symm;obtain⟨x,hx⟩:∃x,v[i]? = some x:=⟨_,Ss Z⟩;obtain⟨l0,hu,ru⟩:=KV.at B hx;rw[<-hlen]at f;obtain⟨Q,G,f2,U,O,E⟩:=y j (by simp);refine wpAny_pyNext_dict_item f hm hu fun g0 h1 d0 b0 sb=>?_;have I1:Za a0 pins σ H { s with heap:=h1 }:=I.turned (t':=s.toks) (fun b o n e=>(sb.2 b n).trans e) Q G U O E;obtain⟨o,e,e0,d'⟩:=id b0;exact⟨g0,R,D1 (s:={ s with heap:=h1 }) e e0 d' (by lia) ⟨kV x.1,H,I1,uB d0,⟨R,x,hx,R⟩,⟨c,g,by rw[<-hlen];exact b0,hd⟩,fun b n=>(y b n).1⟩⟩
 done:=by
  intro a0 M S T q i pins s σ H c0 I y st L;subst M S T;obtain⟨c,g,f,hd⟩:=st;obtain⟨C,Z⟩:=L;obtain⟨hs,X,D,Y,B,hm,u⟩:=A3 I C;rw[hd]at u;obtain⟨rfl,rfl⟩:g=Y/\c=D:=by injection u with a b;exact⟨a,b⟩
  have hlen:X.length=v.length:=(Paired.length B).symm;rw[<-hlen]at f;obtain⟨Q,G,f2,U,O,E⟩:=y j (by simp);exact wpAny_pyNext_dict_end (I.ok.hd q) f hm (List.getElem?_eq_none (by lia)) fun h' eb=>⟨R,I.turned (t':=s.toks) (fun b o n e=>eb b o n e) Q G U O E⟩
 self:=fun A i s j0 c0 st h=>by
  obtain⟨c,g,f,_⟩:=st;have J:=f.typeIs;refine wpAny_pyIter_slot J PySem.F.slot_dict_keyiterator_iter (wpAny_call_entry PySem.F.slot_dict_keyiterator_iter J PySem.F.entry_dict_keyiterator_iter ?_ (PySem.F.args_dict_keyiterator_iter_1 _));show wpAny _ _ (ret (.ref j)) _ _ s;exact Sb ⟨_,R,"dict_keyiterator",_,J,PySem.F.slot_dict_keyiterator_next.lookup,h⟩
inductive Zgj(R:It->Hp->Prop)(x:V)(H1:Hp):Prop|mk d ob kvs (_:x=.ref d) (_:H1 d=some (.frz ob (.dK kvs))) (_:R (G5 d ob kvs) H1)
def Zgk(td:TE):TI:=fun c H e=>td c H fun x f=>Zgj e x f
theorem Zgl{n o:Expr}{td:TE}(C:PE X o td):PI X n o (Zgk td):=by
 intro pins s B H P I h;refine Zq (C pins s B H _ I h) fun v c ⟨x,E,f,r1,j⟩=>?_;obtain⟨d,ob,g,rfl,hd,q⟩:=j;cases r1;obtain⟨D,J,y,M,G,hm,O⟩:=A3 f hd;have hlen:J.length=g.length:=(Paired.length G).symm;have u:d<c.heap.objs.size:=hm.lt_size;refine wpAny_pyIter_dict D hm ?_;refine⟨c.heap.objs.size,[c.heap.objs.size],_,_,E,R,f.kept (t':=c.toks) (fun b o e=>Sc _ e),Zgi d _ ob g (Sf u),⟨y,M,⟨_,Sd _ R,R,by rw[hlen];rfl⟩,O⟩,fun b L=>?_,q⟩;have i:c.heap.objs.size<=b:=by rw[SE.mp L];exact Sg _
 exact f.fpOk i (f.hok.fresh i)
theorem Zgm{d:Addr}{ob:Obj}{f:List (Zt×V)}{g:TG}{tb:TS}{D:Wr}{c:St}(h:Nat->St->Hp->Prop)(I:h 0 c H)(O:∀i c H,i<=f.length->h i c H->H d=some (.frz ob (.dK f)))
  (M:∀i u c H,f[i]? = some u->h i c H->g (kV u.1) c H fun v B=>tb { D with nx:=h (i+1),ct:=h (i+1),bk:=D.nx } v B) (hd:∀c H,h f.length c H->D.nx c H) :
  ∃W:Nat->Nat->St->Hp->Prop,(∃m,W 0 m c H)/\∀i m c H,W i m c H ->
   ((G5 d ob f).stop i H/\D.nx c H)\/((G5 d ob f).go i H/\∃N:St->Hp->Prop,(∀C j,N C j->∃G,G<m/\W (i+1) G C j)/\∀x j,(G5 d ob f).yld i H x j->g x c j fun v B=>tb { D with nx:=N,ct:=N,bk:=D.nx } v B):=by
 refine⟨fun i m c H=>m=f.length - i/\i<=f.length/\h i c H,⟨f.length,by simp,Sk _,I⟩,?_⟩;rintro i m c H ⟨rfl,J,p⟩;have q:=O i c H J p;by_cases E:i<f.length
 ·refine .inr ⟨⟨q,E⟩,h (i+1),fun C j n=>⟨f.length - (i+1),by lia,R,E,n⟩,fun x j y=>?_⟩
  obtain⟨rfl,u,L,rfl⟩:=y;exact M i u c j L p
 ·have e:i=f.length:=by lia
  subst e;exact .inl ⟨⟨q,Sg _⟩,hd c H p⟩
inductive Zgn(K:Ow)(Q:VK)(x:V)(st:Option Int)(H2:Hp):Prop|mk a xs ys (_:(st=some 1/\ys=xs\/st=some (-1)/\ys=xs.reverse)) (_:x=.ref a) (_:Zf K H2 a xs) (_:∀p,H2 p=none->Q (.ref p) (upd H2 p (.lst ys)))
def Zgo(K:Ow)(e:TE)(h:TO):TE:=fun c H Q=>e c H fun x f=>h c f fun st g=>Zgn K Q x st g
theorem Zgp{e st:Expr}{n:TE}{i:TO}{G:Pos}(D:PE X e n)(B:PO X (some st) i):PE X (.Subscript e (.Slice none none (some st) G) pos) (Zgo X.K n i):=by
 intro pins s f H Q I h;refine Subscript_ (Zq (D pins s f H _ I h) fun v y ⟨x,L,Y,r1,u⟩=>?_);refine wpAny_Slice ?_;rw[evalPart_none];refine Sb (Sb ?_);refine Zq (B pins y f L _ Y u) fun O s2 ⟨Z,M,J,ZG,U⟩=>?_;obtain⟨a,E,S,C,rfl,P,q⟩:=U;cases r1;have c:Za X pins f M { s2 with heap:=s2.heap.push { cls:=.type "slice",data:=.fields #[.none,.none,O] } }:=J.kept (t':=s2.toks) fun b ob q=>Sc _ q;obtain⟨its,r,g,j⟩:=c.list P;have hlen:=r.length;refine tail_any (ops:=[.ref a,.ref s2.heap.objs.size]) (T := "list") g.isList.typeIs slot_list_getitem.lookup ?_ (by with_unfolding_all rfl);rcases C with⟨rfl,rfl⟩|⟨rfl,rfl⟩
 ·refine wpAny_getItem_list_slice g.isList (Heap.IsSliceOf.new ..) .none .none ZG (by simp) ?_ (by rw[SN]<;>omega)
  rw[show slicePick its.toArray none none (some 1)=slicePick its.toArray none none none from R,slicePick_all];refine⟨.ref _,_,c.laid (t':=s2.toks) (o:=.lst S) (fun b ob q=>Sc _ q) (Sg _) ?_,R,q _ (c.hok.fresh (Sg _))⟩;exact⟨j,its,0,r,Sd _ R⟩
 refine wpAny_getItem_list_slice g.isList (Heap.IsSliceOf.new ..) .none .none ZG (by simp) ?_ (by rw[SN]<;>omega);rw[W.krv_pick];refine⟨.ref _,_,c.laid (t':=s2.toks) (o:=.lst E.reverse) (fun b ob q=>Sc _ q) (Sg _) ?_,R,q _ (c.hok.fresh (Sg _))⟩;exact⟨by rw[List.length_reverse];exact j,its.reverse,0,wX r,Sd _ R⟩
end L2
namespace K1
open PySem L2
structure Xh(lt:Addr)(q:Str)(H:Hp):Prop where
 ex:∃ps,H lt=some (.tbl ps)/\TriplesOk ps.toList/\∀pos v,codeAmong pos ps.toList=some v->∃a,v=.ref a/\H a=some (XJ a q)
theorem Xh.at(h:Xh lt q H):∃c,H lt=some (.tbl c):=let ⟨c,e,_⟩:=h.ex;⟨c,e⟩
theorem Xh.keep(k1:∀f,H lt=some (.tbl f)->g lt=some (.tbl f))(k2:∀a,H a=some (XJ a q)->g a=some (XJ a q))(h:Xh lt q H):Xh lt q g:=let ⟨f,e,t,c⟩:=h.ex;⟨f,k1 _ e,t,fun i v e=>let ⟨a,ea,ha⟩:=c i v e;⟨a,ea,k2 _ ha⟩⟩
theorem Xh.same(s:Zc H c)(h:Xh lt q H):Xh lt q c:=h.keep (fun _=>s _ _) fun _=>s _ _
theorem Xh.nil(h:H lt=some (.tbl #[])):Xh lt q H:=⟨#[],h,trivial,fun _ _ e=>by cases e⟩
theorem Zgq:∀{l:OA},TriplesOk l->TriplesOk (l++[rawInt a,rawInt b,c]):=by
 intro l
 induction l using TriplesOk.induct with
 |case1=>exact fun _=>trivial
 |case2 i tok j n hd rest g =>
  intro h;rw[TriplesOk.eq_2]at h;show TriplesOk (Value.int i tok::Value.int j n::hd::(rest++_));rw[TriplesOk.eq_2];exact g h
 |case3 t e f =>
  intro h;rw[TriplesOk.eq_3 t e f]at h;exact h.elim
theorem Zgr:∀{l:OA},TriplesOk l->∀v,codeAmong pos (l++[rawInt a,rawInt b,c])=some v->codeAmong pos l=some v\/v=c:=by
 intro l
 induction l using TriplesOk.induct with
 |case1 =>
  intro _ v e;rw[show[]++[rawInt a,rawInt b,c]=[Value.int a 0,Value.int b 0,c] from R,codeAmong.eq_1]at e
  split at e
  ·exact .inr (So e).symm
  ·cases e
 |case2 i tok f g hd rest q =>
  intro h v e;rw[TriplesOk.eq_2]at h;rw[show(Value.int i tok::Value.int f g::hd::rest)++[rawInt a,rawInt b,c]=Value.int i tok::Value.int f g::hd::(rest++[rawInt a,rawInt b,c])from R,codeAmong.eq_1]at e;rw[codeAmong.eq_1]
  split at e
  ·next hc=>rw[SW hc];exact .inl e
  ·next hc=>rw[SV hc];exact q h v e
 |case3 t j n =>
  intro h;rw[TriplesOk.eq_3 t j n]at h;exact h.elim
theorem Zgs{params:Arguments}{body:Expr}(h:Xh lt q H)
  (k:∀(f c:Addr) (g:Value) (H':Hp),Zc (wo H lt) H'->Xh lt q H'->H' f=some (Um f q params body scope cl ((mg "__name__").getD .none) c g)->H' c=some (XJ c q)->Q (.ref f) H'):MR lt mg q params body scope cl pos D H Q:=by
 obtain⟨i,u,x,B⟩:=h.ex;refine⟨i,u,x,?_⟩;cases I:codeAmong pos i.toList with
 |none =>
  refine .inl ⟨R,fun f c g j C ne=>?_⟩;have nf:lt≠f:=ZI u j;have E:lt≠c:=ZI u C;have y:(upd (upd (upd H lt (.tbl (i ++ #[rawInt pos.line,rawInt pos.col,.ref c]))) c (XJ c q)) f (Um f q params body scope cl ((mg "__name__").getD .none) c g)) c=some (XJ c q):=by
   rw[Zd (Ne.symm ne),Zg]
  have S:Zc (wo H lt) (upd (upd (upd H lt (.tbl (i ++ #[rawInt pos.line,rawInt pos.col,.ref c]))) c (XJ c q)) f (Um f q params body scope cl ((mg "__name__").getD .none) c g)):=fun a o e=>by
   obtain⟨n,e⟩:=Yn e;rw[Zd (ZI e j),Zd (ZI e C),Zd n];exact e
  refine k f c g _ S ⟨_,by rw[Zd nf,Zd E,Zg],?_,fun pos' v e=>?_⟩ Zg y
  ·rw[Array.toList_append];exact Zgq x
  ·rw[Array.toList_append]at e
   rcases Zgr x v e with e|rfl
   ·obtain⟨a,rfl,ha⟩:=B pos' v e
    exact⟨a,R,S _ _ (ZT ha fun z=>by rw[z,u]at ha;cases ha)⟩
   ·exact⟨c,R,y⟩
 |some v =>
  obtain⟨c,rfl,G⟩:=B pos v I;refine .inr ⟨c,R,fun f g j=>?_⟩;have s:=Zu j (Um f q params body scope cl ((mg "__name__").getD .none) c g);exact k f c g _ (Wx.trans s) (h.same s) Zg (s _ _ G)
theorem Zgt(h:∀b o,cs b=some o->H b=none):unl cs (lent cs H)=H:=by
 funext b
 cases q:cs b with
 |some o=>rw[Qv q,h b o q]
 |none=>rw[WY q,Xx q]
theorem uC(h:∀b o,cs b=some o->H b=none)(s:Zc (lent cs H) c):Zc H (unl cs c):=fun a o e=>by
 cases q:cs a with
 |some ob=>rw[h a ob q]at e;cases e
 |none=>rw[WY q];exact s _ _ (by rw[Xx q];exact e)
theorem uD:∀{cl:Ox} {x y:Str} {c:Addr},(cl.map (·.2)).Nodup->cl.lookup x=some c->cl.lookup y=some c->x=y
 |[],_,_,_,_,h,_=>by cases h
 |(z,d)::r,x,y,c,nd,h1,f=>by
  rw[SM,Ol]at nd;rw[List.lookup_cons]at h1 f;have mem:∀{w:Str},r.lookup w=some c->c∈r.map (·.2):=fun{w} e=>SJ.mpr ⟨(w,c),PySem.mem_of_lookup e,R⟩;cases i:x == z with
  |true =>
   rw[i]at h1;have n:d=c:=So h1;cases g:y == z with
   |true=>rw[eq_of_beq i,eq_of_beq g]
   |false=>rw[g]at f;exact Oq (mem f) (by rw[<-n];exact nd.1)
  |false =>
   rw[i]at h1;cases g:y == z with
   |true =>
    rw[g]at f;have j:d=c:=So f;exact Oq (mem h1) (by rw[<-j];exact nd.1)
   |false=>rw[g]at f;exact uD nd.2 h1 f
end K1
namespace L2
open PySem PySem.Spec PyProof.Rows
structure YG(K:Ow)(mg:Ov)(x:Str)(st:Stmt)(ps:OB)(f:Addr)(d:OI):Prop where
 F:Vf K x x st f d
 m:mg x=some (.ref f)
 b:Xm K d ps []
structure DM(K:Ow)(x:Str)(st:Stmt)(f:Addr)(d:OI):Prop where
 a:W.nsIn K mainGlobals x=some (some (.ref f))
 F:Vf K x x st f d
theorem YJ{h:Heap}{x:Str}{st:Stmt}{i:OB}{f:Addr}{d:OI}(X:K.In h)(G:h.Ns mainGlobals mg)(p:DM K x st f d)
  (j:∀(us:OA),us.length=i.length->∀(kV q n:Value) (an:OE) (cdv ct:Value),bindArgs (W.fnOf x x (UB st) (Wf st) (Zw st) .none kV q n an cdv ct) ⟨us,[]⟩=pure (i.zip us)):YG K mg x st i f d :=
 ⟨p.F,W.mg_of X G p.a,p.F.binds fun a b c d e g us l=>j us l a b c d e g⟩
structure Z6(K:Ow)(C:Addr)(x q:Str)(st:Stmt)(ps:OB)(f:Addr)(d:OI):Prop where
 F:Vf K x q st f d
 me:Yu K C x f
 b:Xm K d ps []
structure MM(K:Ow)(C:Addr)(x q:Str)(st:Stmt)(f:Addr)(d:OI):Prop where
 me:Yu K C x f
 F:Vf K x q st f d
theorem Z8{C:Addr}{x q:Str}{st:Stmt}{h:OB}{f:Addr}{d:OI}(p:MM K C x q st f d)
  (i:∀(us:OA),us.length=h.length->∀(kV n j:Value) (an:OE) (cdv ct:Value),bindArgs (W.fnOf x q (UB st) (Wf st) (Zw st) .none kV n j an cdv ct) ⟨us,[]⟩=pure (h.zip us)):Z6 K C x q st h f d :=
 ⟨p.F,p.me,p.F.binds fun a b c d e g us l=>i us l a b c d e g⟩
theorem uE{C:Addr}{cd:ClassData}(c:W.clsIn K C=some cd)(g1:W.findIn K (.ref C) "__getattribute__" = some (some (.builtin "BaseException.__getattribute__"))) (g2:W.findIn K (.ref C) "__getattr__" = some none) (g3:W.findIn K (.ref C) "__class__" = some (some (.builtin "object.__class__"))) (g4:W.mroIn K C (.type "object")=some true) (g5:W.mroIn K C (.type "BaseException")=some true) (g6:W.specialIn K (.builtin "object.__class__") "__get__" = some (some (.builtin "getset_descriptor.__get__"))) (g7:W.takesIn K (.builtin "object.__class__")=some true):X5 K C:=⟨by rw[c];rfl,g1,g2,g3,g4,g5,g6,g7⟩
def KX(K:Ow)(C:Addr):List (Addr×Bool)->Prop
 |[]=>True
 |p::L=>W.kitOne K (.ref C) (.ref p.1)=some p.2/\KX K C L
theorem uF{C:Addr}:KX K C []:=trivial
theorem YH{C D:Addr}{b:Bool}{L:List (Addr×Bool)}(h:W.kitOne K (.ref C) (.ref D)=some b)(r:KX K C L):KX K C ((D,b)::L):=⟨h,r⟩
theorem ZC{N P:OB}{i:Scope}(h:(decide (i.kind=.function) && !i.isCoroutine && !i.isGenerator && decide N.Nodup && decide (N.take P.length=P) && P.all (fun x=>decide (i.names.lookup x=some .local\/i.names.lookup x=some .cell)) && i.names.all (fun y=>decide (y.2≠.free)))=true):Zy N P i:=by
 simp only[Bool.and_eq_true,decide_eq_true_eq,Bool.not_eq_true',List.all_eq_true]at h;obtain⟨⟨⟨⟨⟨⟨a,b⟩,c⟩,d⟩,e⟩,f⟩,g⟩:=h;exact⟨a,b,c,d,e,f,g⟩
section
variable{CX:XT}{k j:Nat}{f C:Addr}{fd:OI}{ps:OB}{sp:Sp}{E:XK}{x m q:Str}{st:Stmt}{e o:Expr}{es:OC}{t:TA}{ta:TE}{p apos:Pos}
theorem ZB(D:YG X.K X.mg x st ps f fd)(F:Zn X.prog X.w X.K X.mg X.base CX k f fd ps sp)(h:Yb j X.A)(n:WC CX X E)(ha:PA X (e::es) t)(i:k<=j:=by lia)(v:Gl X x:=by rfl)(u:(x == ("__debug__" : Str))=false:=by lia) (g:starEach (e::es) X.env=(false,eval e X.env)::starEach es X.env:=by rfl) (c:(backTo pos (starEach es X.env)).any (·.1)=false:=by rfl) :
  PE X (.Call (.Name x p) (e::es) [] pos) (Ma sp [] E t):=Wu F (h.mono i) v D.m D.F.kp D.b .nil n ha u g c
end
inductive Kq(K:Ow)(xs:List V)(H:Hp)(Q:VK):Prop|mk (a C D:Addr) (b:Bool) (_:xs=[.ref a,.ref D]) (_:H a=some (Wg a (.ref C))) (_:X5 K C) (_:W.kitOne K (.ref C) (.ref D)=some b) (_:Q (.bl b) H)
theorem Wi(h:X.K=K:=by rfl):YV X (.builtin "isinstance") (Kq K):=by
 subst h;intro pins s c H j i Q I r ⟨a,C,D,b,g,f,n,e,q⟩;exact Zee pins s c H j i Q I r ⟨a,C,D,b,g,f,n,e,q⟩
inductive uG(K:Ow)(xs:List V)(H:Hp)(Q:VK):Prop|mk (a C:Addr) (T:String) (b:Bool) (_:xs=[.ref a,.ty T]) (_:H a=some (Wg a (.ref C))) (_:X5 K C) (_:W.kitOne K (.ref C) (.type T)=some b) (_:Q (.bl b) H)
theorem Zgu(h:X.K=K:=by rfl):YV X (.builtin "isinstance") (uG K):=by
 subst h;intro pins s c H j i Q I r ⟨a,C,T,b,g,f,n,e,q⟩;exact Zef pins s c H j i Q I r ⟨a,C,T,b,g,f,n,e,q⟩
theorem kx:X.nox.K=X.K:=rfl
theorem ky{CX:XT}{N:OB}{q:Str}{c:Scope}{f:Addr}{cd:Value}{o:List Env}{E:XK}:(Wv CX P w K mg base N q c f cd A o s H E).K=K:=rfl
theorem Sq1{e:TS}{D:Wr}{c:St}(h:let d:=D;let f:=e d;let s:=c;f s H):(e) D c H:=h
theorem Gq1{e:TS}{D:Wr}{c:St}{i:Nat}{x:V}(h:let d:=D;let f:=e d;let s:=c.set i (some x);f s H):Xw i x c H (fun c H=>(e) D c H):=h
theorem Sq2(h:let d:=D;let f:=t2 d;let g:=e { d with nx:=f };let s:=c;g s H):(Ya e t2) D c H:=h
theorem Gq2{c:St}(h:let d:=D;let f:=t2 d;let g:=e { d with nx:=f };let s:=c.set i (some x);g s H):Xw i x c H (fun c H=>(Ya e t2) D c H):=h
theorem Sq3(h:let d:=D;let j:=f d;let g:=t2 { d with nx:=j };let i:=e { d with nx:=g };let s:=c;i s H):(Ya e (Ya t2 f)) D c H:=h
theorem Gq3{c:St}(h:let d:=D;let n:=f d;let g:=t2 { d with nx:=n };let j:=e { d with nx:=g };let s:=c.set i (some x);j s H):Xw i x c H (fun c H=>(Ya e (Ya t2 f)) D c H):=h
theorem Sq4(h:let d:=D;let q:=f d;let n:=g { d with nx:=q };let i:=t2 { d with nx:=n };let j:=e { d with nx:=i };let s:=c;j s H):(Ya e (Ya t2 (Ya g f))) D c H:=h
theorem Sq5(h:let d:=D;let v:=e d;let u:=g { d with nx:=v };let q:=i { d with nx:=u };let j:=t2 { d with nx:=q };let n:=f { d with nx:=j };let s:=c;n s H):(Ya f (Ya t2 (Ya i (Ya g e)))) D c H:=h
theorem Sq6(h:let d:=D;let n:=j d;let y:=e { d with nx:=n };let x:=g { d with nx:=y };let v:=i { d with nx:=x };let q:=t2 { d with nx:=v };let u:=f { d with nx:=q };let s:=c;u s H):(Ya f (Ya t2 (Ya i (Ya g (Ya e j))))) D c H:=h
theorem Sq7(h:let d:=D;let B:=c d;let q:=n { d with nx:=B };let C:=f { d with nx:=q };let y:=i { d with nx:=C };let x:=j { d with nx:=y };let u:=t2 { d with nx:=x };let v:=g { d with nx:=u };let s:=e;v s H):(Ya g (Ya t2 (Ya j (Ya i (Ya f (Ya n c)))))) D e H:=h
theorem Gq7{c:St}(h:let d:=D;let E:=e d;let u:=q { d with nx:=E };let G:=f { d with nx:=u };let C:=j { d with nx:=G };let B:=n { d with nx:=C };let v:=t2 { d with nx:=B };let y:=g { d with nx:=v };let s:=c.set i (some x);y s H):Xw i x c H (fun c H=>(Ya g (Ya t2 (Ya n (Ya j (Ya f (Ya q e)))))) D c H):=h
theorem Sq9(h:let d:=D;let v:=g d;let x:=u { d with nx:=v };let B:=j { d with nx:=x };let C:=e { d with nx:=B };let J:=i { d with nx:=C };let I:=n { d with nx:=J };let G:=c { d with nx:=I };let E:=t2 { d with nx:=G };let y:=q { d with nx:=E };let s:=f;y s H):(Ya q (Ya t2 (Ya c (Ya n (Ya i (Ya e (Ya j (Ya u g)))))))) D f H:=h
theorem Sq10(h:let d:=D;let J:=j d;let x:=g { d with nx:=J };let y:=v { d with nx:=x };let C:=n { d with nx:=y };let E:=e { d with nx:=C };let M:=i { d with nx:=E };let L:=q { d with nx:=M };let I:=c { d with nx:=L };let G:=t2 { d with nx:=I };let B:=u { d with nx:=G };let s:=f;B s H):(Ya u (Ya t2 (Ya c (Ya q (Ya i (Ya e (Ya n (Ya v (Ya g j))))))))) D f H:=h
section
variable{a b c e o i:Expr}{es:OC}{ta tb td ty te:TE}{t:TA}{r:R2}{op:CmpOp}{pos' p:Pos}{x:Str}
theorem Zk(h1:PE X f g)(h:Xe f=true:=by rfl):PA X [f] (ZZ g Yv):=(YM h1 Xl h)
theorem Zm(h1:PE X f h)(j:PE X g t2)(q:Xe f=true:=by rfl)(n:Xe g=true:=by rfl):PA X [f,g] (ZZ h (ZZ t2 Yv)):=(YM h1 (YM j Xl n) q)
theorem Ys(h1:PE X f j)(q:PE X h t2)(v:PE X g n)(B:Xe f=true:=by rfl)(y:Xe h=true:=by rfl)(u:Xe g=true:=by rfl):PA X [f,h,g] (ZZ j (ZZ t2 (ZZ n Yv))):=(YM h1 (YM q (YM v Xl u) y) B)
theorem Wz(h1:PE X f q)(v:PE X h t2)(B:PE X g u)(C:PE X j n)(G:Xe f=true:=by rfl)(D:Xe h=true:=by rfl)(y:Xe g=true:=by rfl)(E:Xe j=true:=by rfl):PA X [f,h,g,j] (ZZ q (ZZ t2 (ZZ u (ZZ n Yv)))):=(YM h1 (YM v (YM B (YM C Xl E) y) D) G)
theorem M4(h1:PE X g u)(B:PE X j t2)(G:PE X h y)(H:PE X n v)(D:PE X f q)(L:Xe g=true:=by rfl)(I:Xe j=true:=by rfl)(C:Xe h=true:=by rfl)(J:Xe n=true:=by rfl)(E:Xe f=true:=by rfl):PA X [g,j,h,n,f] (ZZ u (ZZ t2 (ZZ y (ZZ v (ZZ q Yv))))):=(YM h1 (YM B (YM G (YM H (YM D Xl E) J) C) I) L)
theorem pa6(h1:PE X f C)(L:PE X q t2)(E:PE X j u)(Q:PE X h B)(D:PE X n y)(I:PE X g v)(J:Xe f=true:=by rfl)(H:Xe q=true:=by rfl)(O:Xe j=true:=by rfl)(M:Xe h=true:=by rfl)(P:Xe n=true:=by rfl)(G:Xe g=true:=by rfl):PA X [f,q,j,h,n,g] (ZZ C (ZZ t2 (ZZ u (ZZ B (ZZ y (ZZ v Yv)))))):=(YM h1 (YM L (YM E (YM Q (YM D (YM I Xl G) P) M) O) H) J)
theorem Zs(h:X3 X r)(ha:PE X a ta)(f:PE X b tb)(g:yH b:=by exact fun _ _=>R):PE X (.Subscript a b pos) (Vc r ta tb):=ZdA h ha f g
theorem YT(h:Yb k X.A)(g:PE X o td)(hi:PE X i ty)(f:MG i:=by exact fun _ _=>R):PE X (.Subscript o i pos) (wR td ty):=Zfp (Xn h) g hi f
theorem ZG(k:Nat)(f:X.N.Nodup)(j:PE X e te)(hi:X.N[k]? = some x:=by rfl)(n:Qm X.env.scope x:=by first|exact .inl rfl|exact .inr rfl)(g:swapsWith e (some (.Name x pos')) pos.line X.env=pure false:=by rfl)(h:X.fn x=true\/X.env.scope.names.lookup x=some .local:=by first|exact .inl rfl|exact .inr rfl|assumption):PS X (.Assign [.Name x pos'] e pos) (JS te (Xw k)):=ZcN f hi n j g h
theorem Z0(k:Nat)(g:X.N.Nodup)(hi:X.N[k]? = some x:=by rfl)(h:Qm X.env.scope x:=by first|exact .inl rfl|exact .inr rfl)(f:X.fn x=true\/X.env.scope.names.lookup x=some .local:=by first|exact .inl rfl|exact .inr rfl|assumption):PG X (.Name x pos) (Xw k):=LP g hi h f
theorem Xs{iter : Expr}{body:List Stmt}{tb:TS}(hi:PI X f iter h)(v:PG X f g)(j:XF X body tb)(u:PassesOwn (model X.prog X.w) X.A X.env X.xe:=by exact PassesOwn.never)(q:X.calm=true:=by rfl)(n:∀x,foldedSetIterable iter X.env x=pure x:=by intro _;rfl):PS X (.For f iter body [] pos) (zE h g tb):=zF u q hi v j n
theorem Yy(j:YF X (compareOp op) r)(ha:PE X a ta)(f:PE X b tb)(h:op≠.In:=by lia)(g:op≠.NotIn:=by lia):PT X (.Compare a [op] [b] pos) (LZ (Vc r ta tb)):=zM j ha f (Ui _ h g)
theorem ZM{id:String}{r:List V->Hp->VK->Prop}(g:YV X (.builtin id) r)(hm:X.mg x=none)(j:bootBuiltins x=some (.builtin id))(ha:PA X (e::es) t)(q:Gl X x:=by rfl)(hn:x ≠ "__name__" := by lia) (n:(x == ("__debug__" : Str))=false:=by lia) (h:starEach (e::es) X.env=(false,eval e X.env)::starEach es X.env:=by rfl) (f:(backTo pos (starEach es X.env)).any (·.1)=false:=by rfl):PE X (.Call (.Name x p) (e::es) [] pos) (VX r t):=yG g q hm j ha hn n h f
end
end L2
local macro_rules|`(tactic| sleep $n) => `(tactic| ((try dsimp only[L2.kx, L2.ky]); refine $(Lean.mkIdent (.str (.str .anonymous "L2") (if n.getNat<99 then s!"Sq{n.getNat}" else s!"Gq{n.getNat-100}"))) ?_; intros))
namespace K30
open PySem L2 K1
seal PySem.wpAny
def top(i:Nat):Stmt:=PySem.Challenge.pw_roadbook_k30_runs_behind_notices.main.body.getD i (.Pass ⟨0,0,0,0⟩)
abbrev M5:Stmt:=top 23
theorem Zgv:Zy ["value"] ["value"] (Zw M5):=ZC (by lia)
abbrev M6:Stmt:=top 24
theorem Zgw:Zy ["value","least","most"] ["value","least","most"] (Zw M6):=ZC (by lia)
abbrev M7:Stmt:=top 25
theorem Zgx:Zy ["value","least","most"] ["value","least","most"] (Zw M7):=ZC (by lia)
abbrev M8:Stmt:=top 26
theorem Kr:Zy ["values","longest","least","most","floor","value"] ["values","longest","least","most"] (Zw M8):=ZC (by lia)
abbrev M9:Stmt:=top 27
theorem Zgy:Zy ["value"] ["value"] (Zw M9):=ZC (by lia)
abbrev Na:Stmt:=top 28
theorem Zgz:Zy ["value","named"] ["value","named"] (Zw Na):=ZC (by lia)
abbrev Nb:Stmt:=top 39
theorem ZgA:Zy ["rule"] ["rule"] (Zw Nb):=ZC (by lia)
abbrev Nc:Stmt:=top 40
theorem ZgB:Zy ["rule"] ["rule"] (Zw Nc):=ZC (by lia)
abbrev Nd:Stmt:=top 61
theorem ZgC:Zy ["name","named"] ["name","named"] (Zw Nd):=ZC (by lia)
abbrev Nf:Stmt:=top 62
theorem uH:Zy ["kept","most"] ["kept","most"] (Zw Nf):=ZC (by lia)
abbrev Ng:Stmt:=top 63
theorem ZgD:Zy ["calls"] ["calls"] (Zw Ng):=ZC (by lia)
abbrev Nh:Stmt:=top 64
theorem ZgE:Zy ["call","ahead"] ["call","ahead"] (Zw Nh):=ZC (by lia)
abbrev Ni:Stmt:=top 68
theorem ZgF:Zy ["calls","begin","late"] ["calls","begin","late"] (Zw Ni):=ZC (by lia)
abbrev Nj:Stmt:=top 69
theorem uI:Zy ["calls","number"] ["calls"] (Zw Nj):=ZC (by lia)
abbrev U9:Stmt:=top 72
theorem Qa:Zy ["net","begin","end","notices","known","first","last","found","trip","day","calls"] ["net","begin","end","notices"] (Zw U9):=ZC (by lia)
abbrev Nk:Stmt:=top 73
theorem ZgG:Zy ["calls","begin","end"] ["calls","begin","end"] (Zw Nk):=ZC (by lia)
abbrev Nl:Stmt:=top 75
theorem ZgH:Zy ["_law_script","_law_k"] ["_law_script","_law_k"] (Zw Nl):=ZC (by lia)
abbrev Nm:Stmt:=top 76
theorem uJ:Zy ["_law_cell","_law_k","_law_number"] ["_law_cell","_law_k"] (Zw Nm):=ZC (by lia)
abbrev Nn:Stmt:=top 77
theorem Ks:Zy ["_law_seed","_law_k","_law_letters","_law_tail","_law_at"] ["_law_seed","_law_k"] (Zw Nn):=ZC (by lia)
abbrev No:Stmt:=top 78
theorem A4:Zy ["_law_number","_law_deep","_law_more","_law_way","_law_starts","_law_inner"] ["_law_number","_law_deep"] (Zw No):=ZC (by lia)
abbrev Np:Stmt:=top 79
theorem uK:Zy ["_law_told"] ["_law_told"] (Zw Np):=ZC (by lia)
abbrev Nq:Stmt:=top 80
theorem Nr:Zy ["_law_told","_law_day","_law_one","_law_other"] ["_law_told","_law_day"] (Zw Nq):=ZC (by lia)
abbrev Nt:Stmt:=top 81
theorem V6:Zy ["_law_number","_law_stops","_law_many","_law_found","_law_time","_law_last","_law_k","_law_mixed_here","_law_left","_law_arrive","_law_leave"] ["_law_number","_law_stops","_law_many"] (Zw Nt):=ZC (by lia)
abbrev Nu:Stmt:=top 82
theorem ZgI:Zy [] [] (Zw Nu):=ZC (by lia)
abbrev Nv:Stmt:=top 83
theorem W0:Zy ["_law_seed","_law_world_here","_law_names","_law_k","_law_stops","_law_pair","_law_mixed_here","_law_zones","_law_rules"] ["_law_seed"] (Zw Nv):=ZC (by lia)
abbrev Nw:Stmt:=top 84
theorem Vk:Zy ["_law_world_here","_law_net","_law_name_here","_law_told","_law_pair","_law_one","_law_other","_law_minutes"] ["_law_world_here"] (Zw Nw):=ZC (by lia)
abbrev Nx:Stmt:=top 85
theorem V7:Zy ["_law_call","e","_law_found"] ["_law_call"] (Zw Nx):=ZC (by lia)
abbrev Ny:Stmt:=top 86
theorem UK:Zy ["_law_world_here","_law_gaps","_law_trip","_law_day","_law_rule_here","_law_calls_here","_law_own","_law_found","_law_k","_law_stop","_law_arrive","_law_leave"] ["_law_world_here","_law_gaps","_law_trip","_law_day"] (Zw Ny):=ZC (by lia)
abbrev Nz:Stmt:=top 87
theorem A5:Zy ["_law_world_here","_law_gaps","_law_begin","_law_end","_law_found","_law_day","_law_trip","_law_calls_here","_law_leaves"] ["_law_world_here","_law_gaps","_law_begin","_law_end"] (Zw Nz):=ZC (by lia)
abbrev NC:Stmt:=top 88
theorem A6:Zy ["_law_net","_law_notices","_law_world_here","_law_gaps","_law_window_here","_law_begin","_law_end","_law_found","_law_due","_law_run"] ["_law_net","_law_notices","_law_world_here","_law_gaps","_law_window_here"] (Zw NC):=ZC (by lia)
abbrev ND:Stmt:=top 89
theorem A8:Zy ["_law_world_here","_law_gaps","_law_start","_law_number","_law_begin","_law_end","_law_trips","_law_calls_here","_law_leave"] ["_law_world_here","_law_gaps","_law_start","_law_number"] (Zw ND):=ZC (by lia)
abbrev NE:Stmt:=top 90
theorem Uo:Zy ["_law_notices","_law_world_here","_law_gaps","_law_trip","_law_day","_law_mixed_here","_law_many","_law_call","_law_minutes","_law_found","_law_fresh"] ["_law_notices","_law_world_here","_law_gaps","_law_trip","_law_day","_law_mixed_here"] (Zw NE):=ZC (by lia)
abbrev NF:Stmt:=top 91
theorem Vl:Zy ["_law_script","_law_world_here","_law_net","_law_notices","_law_gaps","_law_start","_law_trips","_law_k","_law_cell","_law_mixed_here","_law_window_here"] ["_law_script"] (Zw NF):=ZC (by lia)
abbrev NG:Stmt:=Z7 (top 41) 0
theorem ZgJ:Zy ["self"] ["self"] (Zw NG):=ZC (by lia)
abbrev NH:Stmt:=Z7 (top 41) 1
theorem ZgK:Zy ["self"] ["self"] (Zw NH):=ZC (by lia)
abbrev NI:Stmt:=Z7 (top 41) 2
theorem ZgL:Zy ["self","day"] ["self","day"] (Zw NI):=ZC (by lia)
abbrev NJ:Stmt:=Z7 (top 41) 4
theorem uL:Zy ["self"] ["self"] (Zw NJ):=ZC (by lia)
abbrev NK:Stmt:=Z7 (top 41) 5
theorem uM:Zy ["self"] ["self"] (Zw NK):=ZC (by lia)
abbrev NL:Stmt:=Z7 (top 42) 0
theorem ZgM:Zy ["self","bits"] ["self","bits"] (Zw NL):=ZC (by lia)
abbrev NM:Stmt:=Z7 (top 42) 1
theorem ZgN:Zy ["self"] ["self"] (Zw NM):=ZC (by lia)
abbrev NN:Stmt:=Z7 (top 42) 2
theorem ZgO:Zy ["self","day"] ["self","day"] (Zw NN):=ZC (by lia)
abbrev NO:Stmt:=Z7 (top 43) 0
theorem ZgP:Zy ["self","first","last","rule"] ["self","first","last","rule"] (Zw NO):=ZC (by lia)
abbrev NP:Stmt:=Z7 (top 43) 1
theorem uN:Zy ["self"] ["self"] (Zw NP):=ZC (by lia)
abbrev NQ:Stmt:=Z7 (top 43) 2
theorem ZgQ:Zy ["self"] ["self"] (Zw NQ):=ZC (by lia)
abbrev NR:Stmt:=Z7 (top 43) 3
theorem uO:Zy ["self","day"] ["self","day"] (Zw NR):=ZC (by lia)
abbrev NT:Stmt:=Z7 (top 44) 0
theorem ZgR:Zy ["self","length","starts"] ["self","length","starts"] (Zw NT):=ZC (by lia)
abbrev NU:Stmt:=Z7 (top 44) 1
theorem ZgS:Zy ["self"] ["self"] (Zw NU):=ZC (by lia)
abbrev NV:Stmt:=Z7 (top 44) 2
theorem ZgT:Zy ["self","day"] ["self","day"] (Zw NV):=ZC (by lia)
abbrev NW:Stmt:=Z7 (top 45) 0
theorem ZgU:Zy ["self","one","other"] ["self","one","other"] (Zw NW):=ZC (by lia)
abbrev NX:Stmt:=Z7 (top 45) 1
theorem uP:Zy ["self"] ["self"] (Zw NX):=ZC (by lia)
abbrev NY:Stmt:=Z7 (top 45) 2
theorem ZgV:Zy ["self"] ["self"] (Zw NY):=ZC (by lia)
abbrev NZ:Stmt:=Z7 (top 45) 3
theorem uQ:Zy ["self","day"] ["self","day"] (Zw NZ):=ZC (by lia)
abbrev N0:Stmt:=Z7 (top 46) 0
theorem ZgW:Zy ["self","one","other"] ["self","one","other"] (Zw N0):=ZC (by lia)
abbrev N2:Stmt:=Z7 (top 46) 1
theorem uR:Zy ["self"] ["self"] (Zw N2):=ZC (by lia)
abbrev N3:Stmt:=Z7 (top 46) 2
theorem ZgX:Zy ["self"] ["self"] (Zw N3):=ZC (by lia)
abbrev N4:Stmt:=Z7 (top 46) 3
theorem uS:Zy ["self","day"] ["self","day"] (Zw N4):=ZC (by lia)
abbrev N5:Stmt:=Z7 (top 47) 0
theorem ZgY:Zy ["self","days","rule"] ["self","days","rule"] (Zw N5):=ZC (by lia)
abbrev N6:Stmt:=Z7 (top 47) 1
theorem uT:Zy ["self"] ["self"] (Zw N6):=ZC (by lia)
abbrev N7:Stmt:=Z7 (top 47) 2
theorem ZgZ:Zy ["self"] ["self"] (Zw N7):=ZC (by lia)
abbrev N8:Stmt:=Z7 (top 47) 3
theorem uU:Zy ["self","day"] ["self","day"] (Zw N8):=ZC (by lia)
abbrev N9:Stmt:=Z7 (top 65) 0
theorem Zg0:Zy ["self"] ["self"] (Zw N9):=ZC (by lia)
abbrev Pa:Stmt:=Z7 (top 65) 2
theorem Zg1:Zy ["self","name","zone","change"] ["self","name","zone","change"] (Zw Pa):=ZC (by lia)
abbrev Pb:Stmt:=Z7 (top 65) 3
theorem Zg2:Zy ["self","one","other","minutes"] ["self","one","other","minutes"] (Zw Pb):=ZC (by lia)
abbrev Pc:Stmt:=Z7 (top 65) 4
theorem uV:Zy ["self","name","rule","kept"] ["self","name","rule"] (Zw Pc):=ZC (by lia)
abbrev Pd:Stmt:=Z7 (top 65) 5
theorem Zg3:Zy ["self","name","price","lasts","zones"] ["self","name","price","lasts","zones"] (Zw Pd):=ZC (by lia)
abbrev Pe:Stmt:=Z7 (top 65) 6
theorem Pf:Zy ["self","name","rule","calls","number","call"] ["self","name","rule","calls"] (Zw Pe):=ZC (by lia)
abbrev Pg:Stmt:=Z7 (top 65) 7
theorem Zg4:Zy ["self","name"] ["self","name"] (Zw Pg):=ZC (by lia)
abbrev Ph:Stmt:=Z7 (top 65) 8
theorem Zg5:Zy ["self","name"] ["self","name"] (Zw Ph):=ZC (by lia)
abbrev Pi:Stmt:=Z7 (top 65) 9
theorem Zg6:Zy ["self","call"] ["self","call"] (Zw Pi):=ZC (by lia)
abbrev Pj:Stmt:=Z7 (top 65) 10
theorem Zg7:Zy ["self","one","other"] ["self","one","other"] (Zw Pj):=ZC (by lia)
abbrev Pk:Stmt:=Z7 (top 65) 15
theorem Zg8:Zy ["self"] ["self"] (Zw Pk):=ZC (by lia)
abbrev Pl:Stmt:=Z7 (top 65) 18
theorem Zg9:Zy ["self","name"] ["self","name"] (Zw Pl):=ZC (by lia)
abbrev Pm:Stmt:=Z7 (top 65) 20
theorem Zha:Zy ["self","trip"] ["self","trip"] (Zw Pm):=ZC (by lia)
abbrev Pn:Stmt:=Z7 (top 65) 21
theorem Zhb:Zy ["self","trip"] ["self","trip"] (Zw Pn):=ZC (by lia)
abbrev Po:Stmt:=Z7 (top 70) 0
theorem uW:Zy ["self","net","trip"] ["self","net"] (Zw Po):=ZC (by lia)
abbrev Pp:Stmt:=Z7 (top 70) 2
theorem Pq:Zy ["self","trip","day","call","minutes","calls","late"] ["self","trip","day","call","minutes"] (Zw Pp):=ZC (by lia)
abbrev Pr:Stmt:=Z7 (top 70) 3
theorem Zhc:Zy ["self","trip","day"] ["self","trip","day"] (Zw Pr):=ZC (by lia)
abbrev Ps:Stmt:=Z7 (top 70) 4
theorem Zhd:Zy ["self","trip","day"] ["self","trip","day"] (Zw Ps):=ZC (by lia)
abbrev Pu:Stmt:=Z7 (top 70) 5
theorem Zhe:Zy ["self","trip","day"] ["self","trip","day"] (Zw Pu):=ZC (by lia)
abbrev Pv:Stmt:=Z7 (top 70) 7
theorem uX:Zy ["self","trip","day","on_time"] ["self","trip","day"] (Zw Pv):=ZC (by lia)
abbrev Pw:Stmt:=Z7 (top 70) 8
theorem Zhf:Zy ["self","trip","day"] ["self","trip","day"] (Zw Pw):=ZC (by lia)
abbrev Px:Stmt:=Z7 (top 70) 9
theorem Zhg:Zy ["self","trip","day"] ["self","trip","day"] (Zw Px):=ZC (by lia)
abbrev Py:Stmt:=Z7 (top 70) 10
theorem Zhh:Zy ["self","trip","day"] ["self","trip","day"] (Zw Py):=ZC (by lia)
theorem Zhi:bootBuiltins "ValueError" = some (.type "ValueError"):=by lia
theorem uY:bootBuiltins "all" = some (.builtin "all"):=by lia
theorem uZ:bootBuiltins "any" = some (.builtin "any"):=by lia
theorem qA:bootBuiltins "bool" = some (.type "bool"):=by lia
theorem XW:bootBuiltins "int" = some (.type "int"):=by lia
theorem YQ:bootBuiltins "isinstance" = some (.builtin "isinstance"):=by lia
theorem Xq:bootBuiltins "len" = some (.builtin "len"):=by lia
theorem Wj:bootBuiltins "list" = some (.type "list"):=by lia
theorem G6:bootBuiltins "max" = some (.builtin "max"):=by lia
theorem Zhj:bootBuiltins "min" = some (.builtin "min"):=by lia
theorem qB:bootBuiltins "set" = some (.type "set"):=by lia
theorem Kt:bootBuiltins "sorted" = some (.builtin "sorted"):=by lia
theorem qC:bootBuiltins "str" = some (.type "str"):=by lia
theorem Zhk:bootBuiltins "sum" = some (.builtin "sum"):=by lia
theorem Qx:bootBuiltins "tuple" = some (.type "tuple"):=by lia
set_option genInjectivity false in
structure Yd where
 qD:Addr
 qE:FuncData
 qF:Addr
 qG:FuncData
 qH:Addr
 qI:FuncData
 qJ:Addr
 qK:FuncData
 qL:Addr
 qM:FuncData
 qN:Addr
 qO:FuncData
 Pz:Addr
 PB:FuncData
 qP:Addr
 qQ:FuncData
 qR:Addr
 qS:FuncData
 PD:Addr
 PF:FuncData
 qT:Addr
 qU:FuncData
 qV:Addr
 qW:FuncData
 qX:Addr
 qY:FuncData
 qZ:Addr
 jA:FuncData
 PH:Addr
 G7:FuncData
 Zhl:Addr
 PJ:List Value
 jB:Addr
 jC:FuncData
 jD:Addr
 jE:FuncData
 jF:Addr
 jG:FuncData
 jH:Addr
 jI:FuncData
 jJ:Addr
 jK:FuncData
 jL:Addr
 jM:FuncData
 jN:Addr
 jO:FuncData
 jP:Addr
 jQ:FuncData
 jR:Addr
 jS:FuncData
 jT:Addr
 jU:FuncData
 jV:Addr
 jW:FuncData
 jX:Addr
 jY:FuncData
 jZ:Addr
 kA:FuncData
 kB:Addr
 kC:FuncData
 kD:Addr
 kE:FuncData
 kF:Addr
 kG:FuncData
 kH:Addr
 PL:FuncData
 kI:Addr
 PM:FuncData
 PN:Addr
 PP:FuncData
 Ku:Addr
 kJ:FuncData
 PQ:Addr
 PR:FuncData
 UL:Addr
 kK:FuncData
 UM:Addr
 kL:FuncData
 Kv:Addr
 PU:FuncData
 PV:Addr
 PX:FuncData
 PY:Addr
 PZ:FuncData
 Kw:Addr
 P0:FuncData
 P1:Addr
 P2:FuncData
 kM:Addr
 kN:FuncData
 P3:Addr
 P4:FuncData
 Ky:Addr
 P5:FuncData
 P6:Addr
 P7:FuncData
 P8:Addr
 P9:FuncData
 Kz:Addr
 Ra:FuncData
 Rb:Addr
 Rc:FuncData
 kO:Addr
 kP:FuncData
 Re:Addr
 Rf:FuncData
 KA:Addr
 Rg:FuncData
 Rh:Addr
 Ri:FuncData
 kQ:Addr
 kR:FuncData
 Rj:Addr
 Rk:FuncData
 KB:Addr
 Rl:FuncData
 Rm:Addr
 Ro:FuncData
 kS:Addr
 kT:FuncData
 Rp:Addr
 Rq:FuncData
 Rr:Addr
 kU:FuncData
 kW:Addr
 kX:FuncData
 kY:Addr
 kZ:FuncData
 gA:Addr
 gB:FuncData
 gC:Addr
 gE:FuncData
 gF:Addr
 gG:FuncData
 gH:Addr
 gJ:FuncData
 gK:Addr
 gL:FuncData
 gM:Addr
 gN:FuncData
 gO:Addr
 gP:FuncData
 gQ:Addr
 gR:FuncData
 gU:Addr
 gW:FuncData
 gX:Addr
 gY:FuncData
 gZ:Addr
 Zaa:FuncData
 Rs:Addr
 Zab:FuncData
 Zac:Addr
 Zad:FuncData
 Zae:Addr
 Zaf:FuncData
 Zag:Addr
 Zah:FuncData
 Zai:Addr
 Zaj:FuncData
 Zak:Addr
 Zal:FuncData
 Zam:Addr
 Zan:FuncData
 Zao:Addr
 Zap:FuncData
 Zaq:Addr
 Zar:FuncData
 KD:Addr
 KG:Addr
 KH:Addr
 KI:Addr
 KJ:Addr
 KL:Addr
 KM:Addr
 KN:Addr
 KO:Addr
 KP:Addr
 KQ:Addr
 VH:Addr
 KR:Addr
 W2:Addr
 KS:Addr
 KU:Addr
 KW:Addr
 KY:Addr
 XN:Addr
 Vm:Addr
 XX:Addr
 WI:Addr
 XO:Addr
 XP:Addr
 Wk:Addr
 ZR:Addr
 YI:Addr
 A9:Addr
 Yo:Addr
 G8:Addr
 Y7:Addr
 kf:W.Frag
structure Zv(K:Ow)(mg:Ov)(t:Yd):Prop where
 Zhm:mg "ValueError" = none
 Zas:mg "all" = none
 Zat:mg "any" = none
 Zau:mg "bool" = none
 Zav:mg "enumerate" = none
 XY:mg "int" = none
 YR:mg "isinstance" = none
 Xr:mg "len" = none
 Wm:mg "list" = none
 G9:mg "max" = none
 Zhn:mg "min" = none
 W3:mg "range" = none
 Zaw:mg "set" = none
 KZ:mg "sorted" = none
 Zax:mg "str" = none
 Zho:mg "sum" = none
 Qy:mg "tuple" = none
 Zhp:mg "zip" = none
 Zhq:∃tk,mg "LETTERS" = some (.str (OJ "abcdefghijklmnopqrstuvwxyz") tk)
 Zhr:∃tk,mg "MOST_LETTERS" = some (.int 8 tk)
 I0:∃tk,mg "LAST_DAY" = some (.int 9999 tk)
 Rt:∃tk,mg "DAY_MINUTES" = some (.int 1440 tk)
 Ru:∃tk,mg "LAST_MINUTE" = some (.int 2879 tk)
 Zhs:∃tk,mg "WEEK_DAYS" = some (.int 7 tk)
 Zht:∃tk,mg "ALL_WEEK" = some (.int 127 tk)
 Zhu:∃tk,mg "MOST_LENGTH" = some (.int 28 tk)
 Zay:∃tk,mg "MOST_LISTED" = some (.int 12 tk)
 Zhv:∃tk,mg "MOST_WEIGHT" = some (.int 15 tk)
 Zhw:∃tk,mg "MOST_DEPTH" = some (.int 8 tk)
 Zhx:∃tk,mg "MOST_STOPS" = some (.int 8 tk)
 Zhy:∃tk,mg "MOST_WALKS" = some (.int 12 tk)
 Zhz:∃tk,mg "MOST_RULES" = some (.int 6 tk)
 ZhA:∃tk,mg "MOST_TICKETS" = some (.int 3 tk)
 ZhB:∃tk,mg "MOST_TRIPS" = some (.int 10 tk)
 Rv:∃tk,mg "LAST_ZONE" = some (.int 6 tk)
 ZhC:∃tk,mg "MOST_CHANGE" = some (.int 30 tk)
 ZhD:∃tk,mg "MOST_WALKED" = some (.int 60 tk)
 ZhE:∃tk,mg "MOST_PRICE" = some (.int 10000 tk)
 ZhF:∃tk,mg "MOST_LASTING" = some (.int 1440 tk)
 ZhG:∃tk,mg "LEAST_CALLS" = some (.int 2 tk)
 ZhH:∃tk,mg "MOST_CALLS" = some (.int 6 tk)
 Zaz:∃tk,mg "MOST_LATE" = some (.int 300 tk)
 ZaA:YG K mg "is_any_number" M5 ["value"] t.qD t.qE
 Qb:YG K mg "is_number" M6 ["value","least","most"] t.qF t.qG
 Up:YG K mg "check_number" M7 ["value","least","most"] t.qH t.qI
 K2:YG K mg "are_rising" M8 ["values","longest","least","most"] t.qJ t.qK
 ZaB:YG K mg "is_name" M9 ["value"] t.qL t.qM
 B1:YG K mg "is_known" Na ["value","named"] t.qN t.qO
 UN:YG K mg "copy_of" Nb ["rule"] t.Pz t.PB
 Jl:YG K mg "check_size" Nc ["rule"] t.qP t.qQ
 Jm:YG K mg "check_new" Nd ["name","named"] t.qR t.qS
 Qz:YG K mg "check_room" Nf ["kept","most"] t.PD t.PF
 ZaC:YG K mg "have_calls_form" Ng ["calls"] t.qT t.qU
 Rw:YG K mg "can_follow" Nh ["call","ahead"] t.qV t.qW
 Rx:YG K mg "moved" Ni ["calls","begin","late"] t.qX t.qY
 ZaD:YG K mg "check_rising" Nj ["calls"] t.qZ t.jA
 K3:E8 K "runs_between" "runs_between" U9 t.PH t.G7 t.Zhl t.PJ
 ZhI:Zx [.non] t.PJ
 ZhJ:Xm K t.G7 ["net","begin","end","notices"] t.PJ
 m_runs_between:mg "runs_between" = some (.ref t.PH)
 ZaE:Xm K t.G7 ["net","begin","end","notices"] []
 ZaF:YG K mg "leaves_within" Nk ["calls","begin","end"] t.jB t.jC
 K4:YG K mg "_law_cell_at" Nl ["_law_script","_law_k"] t.jD t.jE
 Vn:YG K mg "_law_mixed" Nm ["_law_cell","_law_k"] t.jF t.jG
 ZaG:YG K mg "_law_name" Nn ["_law_seed","_law_k"] t.jH t.jI
 UO:YG K mg "_law_days" No ["_law_number","_law_deep"] t.jJ t.jK
 Xy:YG K mg "_law_rule" Np ["_law_told"] t.jL t.jM
 WJ:YG K mg "_law_runs" Nq ["_law_told","_law_day"] t.jN t.jO
 ZaH:YG K mg "_law_calls" Nt ["_law_number","_law_stops","_law_many"] t.jP t.jQ
 K5:YG K mg "_law_world" Nu [] t.jR t.jS
 ZaI:YG K mg "_law_drawn" Nv ["_law_seed"] t.jT t.jU
 ZaJ:YG K mg "_law_made" Nw ["_law_world_here"] t.jV t.jW
 Uq:YG K mg "_law_said" Nx ["_law_call"] t.jX t.jY
 Ry:YG K mg "_law_moments" Ny ["_law_world_here","_law_gaps","_law_trip","_law_day"] t.jZ t.kA
 Rz:YG K mg "_law_all" Nz ["_law_world_here","_law_gaps","_law_begin","_law_end"] t.kB t.kC
 RA:YG K mg "_law_right" NC ["_law_net","_law_notices","_law_world_here","_law_gaps","_law_window_here"] t.kD t.kE
 RB:YG K mg "_law_window" ND ["_law_world_here","_law_gaps","_law_start","_law_number"] t.kF t.kG
 ZaK:YG K mg "_law_noted" NE ["_law_notices","_law_world_here","_law_gaps","_law_trip","_law_day","_law_mixed_here"] t.kH t.PL
 RD:YG K mg "law" NF ["_law_script"] t.kI t.PM
 RE:Z6 K t.XN "copied" "Rule.copied" NG ["self"] t.PN t.PP
 Jn:Z6 K t.XN "parts" "Rule.parts" NH ["self"] t.Ku t.kJ
 RF:Z6 K t.XN "runs" "Rule.runs" NI ["self","day"] t.PQ t.PR
 Jo:Z6 K t.XN "weight" "Rule.weight" NJ ["self"] t.UL t.kK
 Jp:Z6 K t.XN "depth" "Rule.depth" NK ["self"] t.UM t.kL
 RG:Z6 K t.Vm "__init__" "Week.__init__" NL ["self","bits"] t.Kv t.PU
 RH:Z6 K t.Vm "copied" "Week.copied" NM ["self"] t.PV t.PX
 RI:Z6 K t.Vm "runs" "Week.runs" NN ["self","day"] t.PY t.PZ
 RJ:Z6 K t.XX "__init__" "Span.__init__" NO ["self","first","last","rule"] t.Kw t.P0
 K6:Z6 K t.XX "copied" "Span.copied" NP ["self"] t.P1 t.P2
 RK:Z6 K t.XX "parts" "Span.parts" NQ ["self"] t.kM t.kN
 K7:Z6 K t.XX "runs" "Span.runs" NR ["self","day"] t.P3 t.P4
 RL:Z6 K t.WI "__init__" "Each.__init__" NT ["self","length","starts"] t.Ky t.P5
 RM:Z6 K t.WI "copied" "Each.copied" NU ["self"] t.P6 t.P7
 RN:Z6 K t.WI "runs" "Each.runs" NV ["self","day"] t.P8 t.P9
 RO:Z6 K t.XO "__init__" "Either.__init__" NW ["self","one","other"] t.Kz t.Ra
 K8:Z6 K t.XO "copied" "Either.copied" NX ["self"] t.Rb t.Rc
 RP:Z6 K t.XO "parts" "Either.parts" NY ["self"] t.kO t.kP
 K9:Z6 K t.XO "runs" "Either.runs" NZ ["self","day"] t.Re t.Rf
 RQ:Z6 K t.XP "__init__" "Both.__init__" N0 ["self","one","other"] t.KA t.Rg
 La:Z6 K t.XP "copied" "Both.copied" N2 ["self"] t.Rh t.Ri
 RR:Z6 K t.XP "parts" "Both.parts" N3 ["self"] t.kQ t.kR
 Lb:Z6 K t.XP "runs" "Both.runs" N4 ["self","day"] t.Rj t.Rk
 RS:Z6 K t.Wk "__init__" "But.__init__" N5 ["self","days","rule"] t.KB t.Rl
 Lc:Z6 K t.Wk "copied" "But.copied" N6 ["self"] t.Rm t.Ro
 RU:Z6 K t.Wk "parts" "But.parts" N7 ["self"] t.kS t.kT
 Ld:Z6 K t.Wk "runs" "But.runs" N8 ["self","day"] t.Rp t.Rq
 ZaL:Z6 K t.ZR "__init__" "Net.__init__" N9 ["self"] t.Rr t.kU
 RV:Z6 K t.ZR "add_stop" "Net.add_stop" Pa ["self","name","zone","change"] t.kW t.kX
 RW:Z6 K t.ZR "add_walk" "Net.add_walk" Pb ["self","one","other","minutes"] t.kY t.kZ
 RX:Z6 K t.ZR "add_rule" "Net.add_rule" Pc ["self","name","rule"] t.gA t.gB
 RY:Z6 K t.ZR "add_ticket" "Net.add_ticket" Pd ["self","name","price","lasts","zones"] t.gC t.gE
 RZ:Z6 K t.ZR "add_trip" "Net.add_trip" Pe ["self","name","rule","calls"] t.gF t.gG
 QA:Z6 K t.ZR "check_stop" "Net.check_stop" Pg ["self","name"] t.gH t.gJ
 Jq:Z6 K t.ZR "check_trip" "Net.check_trip" Ph ["self","name"] t.gK t.gL
 R0:Z6 K t.ZR "check_call" "Net.check_call" Pi ["self","call"] t.gM t.gN
 R1:Z6 K t.ZR "has_walk" "Net.has_walk" Pj ["self","one","other"] t.gO t.gP
 Jr:Z6 K t.ZR "trips" "Net.trips" Pk ["self"] t.gQ t.gR
 R6:Z6 K t.ZR "rule" "Net.rule" Pl ["self","name"] t.gU t.gW
 R7:Z6 K t.ZR "rule_name" "Net.rule_name" Pm ["self","trip"] t.gX t.gY
 R8:Z6 K t.ZR "calls" "Net.calls" Pn ["self","trip"] t.gZ t.Zaa
 R9:Z6 K t.YI "__init__" "Notices.__init__" Po ["self","net"] t.Rs t.Zab
 Ta:Z6 K t.YI "late" "Notices.late" Pp ["self","trip","day","call","minutes"] t.Zac t.Zad
 Tb:Z6 K t.YI "out" "Notices.out" Pr ["self","trip","day"] t.Zae t.Zaf
 Tc:Z6 K t.YI "back" "Notices.back" Ps ["self","trip","day"] t.Zag t.Zah
 Td:Z6 K t.YI "moments" "Notices.moments" Pu ["self","trip","day"] t.Zai t.Zaj
 Js:Z6 K t.YI "late_minutes" "Notices.late_minutes" Pv ["self","trip","day"] t.Zak t.Zal
 Jt:Z6 K t.YI "check_day" "Notices.check_day" Pw ["self","trip","day"] t.Zam t.Zan
 Ju:Z6 K t.YI "check_runs" "Notices.check_runs" Px ["self","trip","day"] t.Zao t.Zap
 Jv:Z6 K t.YI "check_goes" "Notices.check_goes" Py ["self","trip","day"] t.Zaq t.Zar
 Jw:Yz K t.XN
 ZaM:Mw K t.XN
 Qc:Yz K t.Vm
 ZaN:Mk K t.Vm t.Kv
 ZhK:Yu K t.Vm "depth" t.UM
 ZhL:Yu K t.Vm "parts" t.Ku
 ZhM:Yu K t.Vm "weight" t.UL
 Te:Y5 K t.Vm "bits"
 WK:Yz K t.XX
 ZaO:Mk K t.XX t.Kw
 ZhN:Yu K t.XX "depth" t.UM
 ZhO:Yu K t.XX "weight" t.UL
 Tf:Y5 K t.XX "first"
 Tg:Y5 K t.XX "last"
 Le:Y5 K t.XX "inner"
 V8:Yz K t.WI
 ZaP:Mk K t.WI t.Ky
 ZhP:Yu K t.WI "depth" t.UM
 ZhQ:Yu K t.WI "parts" t.Ku
 ZhR:Yu K t.WI "weight" t.UL
 Th:Y5 K t.WI "length"
 Ti:Y5 K t.WI "starts"
 Vo:Yz K t.XO
 ZaQ:Mk K t.XO t.Kz
 ZhS:Yu K t.XO "depth" t.UM
 ZhT:Yu K t.XO "weight" t.UL
 Lf:Y5 K t.XO "one"
 Lg:Y5 K t.XO "other"
 Vp:Yz K t.XP
 ZaR:Mk K t.XP t.KA
 ZhU:Yu K t.XP "depth" t.UM
 ZhV:Yu K t.XP "weight" t.UL
 Lh:Y5 K t.XP "one"
 Li:Y5 K t.XP "other"
 VI:Yz K t.Wk
 ZaS:Mk K t.Wk t.KB
 ZhW:Yu K t.Wk "depth" t.UM
 ZhX:Yu K t.Wk "weight" t.UL
 Tj:Y5 K t.Wk "days"
 Lj:Y5 K t.Wk "inner"
 Yg:Yz K t.ZR
 ZhY:Mk K t.ZR t.Rr
 Jx:Y5 K t.ZR "stop_rows"
 Lk:Y5 K t.ZR "walk_rows"
 QB:Y5 K t.ZR "rule_rows"
 Ll:Y5 K t.ZR "ticket_rows"
 Qd:Y5 K t.ZR "trip_rows"
 YK:Yz K t.YI
 ZaT:Mk K t.YI t.Rs
 Qf:Y5 K t.YI "timetable"
 QC:Y5 K t.YI "taken"
 Jy:Y5 K t.YI "lateness"
 ZhZ:Ww K t.XN
 Zh0:W.kitOne K (.ref t.XN) (.ref t.XN)=some true
 Zh1:Ww K t.Vm
 Zh2:W.kitOne K (.ref t.Vm) (.ref t.XN)=some true
 Zh3:Ww K t.XX
 Zh4:W.kitOne K (.ref t.XX) (.ref t.XN)=some true
 Zh5:Ww K t.WI
 Zh6:W.kitOne K (.ref t.WI) (.ref t.XN)=some true
 Zh7:Ww K t.XO
 Zh8:W.kitOne K (.ref t.XO) (.ref t.XN)=some true
 Zh9:Ww K t.XP
 Zia:W.kitOne K (.ref t.XP) (.ref t.XN)=some true
 Zib:Ww K t.Wk
 Zic:W.kitOne K (.ref t.Wk) (.ref t.XN)=some true
 Zid:mg "RoadError" = some (.ref t.KD)
 Zie:mg "BadClock" = some (.ref t.KG)
 Zif:mg "BadRule" = some (.ref t.KH)
 Zig:mg "TooMany" = some (.ref t.KI)
 Zih:mg "BadName" = some (.ref t.KJ)
 Zii:mg "Twice" = some (.ref t.KL)
 Zij:mg "NoStop" = some (.ref t.KM)
 Zik:mg "NoRule" = some (.ref t.KN)
 Zil:mg "NoTicket" = some (.ref t.KO)
 Zim:mg "NoTrip" = some (.ref t.KP)
 Zin:mg "BadNumber" = some (.ref t.KQ)
 ZaU:mg "BadCalls" = some (.ref t.VH)
 Zio:mg "BadRow" = some (.ref t.KR)
 Tk:mg "NoRun" = some (.ref t.W2)
 Zip:mg "NoPlan" = some (.ref t.KS)
 Ziq:mg "TooLate" = some (.ref t.KU)
 Zir:mg "NoTraveller" = some (.ref t.KW)
 Zis:mg "BadLine" = some (.ref t.KY)
 Tl:mg "Rule" = some (.ref t.XN)
 ZaV:mg "Week" = some (.ref t.Vm)
 ZaW:mg "Span" = some (.ref t.XX)
 ZaX:mg "Each" = some (.ref t.WI)
 ZaY:mg "Either" = some (.ref t.XO)
 ZaZ:mg "Both" = some (.ref t.XP)
 Za0:mg "But" = some (.ref t.Wk)
 Zit:mg "Net" = some (.ref t.ZR)
 Za1:mg "Notices" = some (.ref t.YI)
 Za2:E4 K t.W2
 Ziu:X5 K t.W2
 Ziv:KX K t.W2 [(t.KG,false),(t.KH,false),(t.KI,false),(t.KJ,false),(t.KL,false),(t.KM,false),(t.KN,false),(t.KO,false),(t.KP,false),(t.KQ,false),(t.VH,false),(t.KR,false),(t.W2,true),(t.KS,false),(t.KU,false),(t.KY,false),(t.KW,false)]
 Ziw:W.kitOne K (.ref t.W2) (.type "ValueError")=some true
 Zix:W.exmOne K (.ref t.W2) (.ref t.KD)=some true
 Ziy:E4 K t.VH
 Ziz:X5 K t.VH
 ZiA:KX K t.VH [(t.KG,false),(t.KH,false),(t.KI,false),(t.KJ,false),(t.KL,false),(t.KM,false),(t.KN,false),(t.KO,false),(t.KP,false),(t.KQ,false),(t.VH,true),(t.KR,false),(t.W2,false),(t.KS,false),(t.KU,false),(t.KY,false),(t.KW,false)]
 ZiB:W.kitOne K (.ref t.VH) (.type "ValueError")=some true
 ZiC:W.exmOne K (.ref t.VH) (.ref t.KD)=some true
 ZiD:t.G7.code=.ref t.A9
 ZiE:W.codeHdIn K t.A9 t.Yo=true
 ZiF:K.lookup t.Yo=none
 Tn:t.PL.code=.ref t.G8
 ZiG:W.codeHdIn K t.G8 t.Y7=true
 ZiH:K.lookup t.Y7=none
 ZiI:t.Yo≠t.Y7
 kf:t.kf=K
section
variable{t:Yd}
def YO(z:Str):Prop:=1<=z.length/\z.length<=8/\(∀c∈z.cps.toList,97<=c/\c<=122)/\True
inductive ZiJ(vs:List V)(H:Hp)(Q:VK)(_e3:XK):Prop|mk (v:V) (T:String) (_:vs=[v]) (_:Kd H v T) (_:Q (.bl (Zej v)) H)
theorem ZiK(c:Zv K mg t):Zn P w K mg base Zo 1 t.qD t.qE ["value"] ZiJ:=by
 refine c.ZaA.F.ok Zgv (by lia) fun j A outer s H g Q E n h=>?_;obtain⟨v,T,rfl,f,q⟩:=h;refine⟨_,(Zi (ZA (Uw (ZM VY c.YR YQ (Zm (pv 0) (VA R c.XY XW))) (Vb (zB (ZM VY c.YR YQ (Zm (pv 0) (VA R c.Zau qA)))))))),?_⟩;sleep 1;refine⟨_,R,v,"int",_,_,R,f.ty,Zeh f,_,R,?_⟩;cases f with
 |non=>exact Zp (by lia) q
 |str x=>exact Zp (by lia) q
 |lst e=>exact Zp (by lia) q
 |tup e=>exact Zp (by lia) q
 |dK e=>exact Zp (by lia) q
 |bl b=>exact Z9 (by lia) ⟨_,R,_,"bool",_,_,R,(Kd.bl b).ty (H:=H),Mv (H:=H) (.bl b),_,R,q⟩
 |int i=>exact Z9 (by lia) ⟨_,R,_,"bool",_,_,R,(Kd.int i).ty (H:=H),Mv (H:=H) (.int i),_,R,q⟩
inductive ZiL(vs:List V)(H:Hp)(Q:VK)(_e3:XK):Prop|mk (v:V) (lo hi:Int) (T:String) (_:vs=[v,.int lo,.int hi]) (_:Kd H v T) (_:Q (.bl (E6 v lo hi)) H)
theorem QD(g:Zv K mg t):Zn P w K mg base Zo 2 t.qF t.qG ["value","least","most"] ZiL:=by
 refine g.Qb.F.ok Zgw (by lia) fun B A outer s H y Q E u h=>?_;obtain⟨v,lo,f,T,rfl,n,q⟩:=h;refine⟨_,(Zi (ZA (Uw (ZB g.ZaA (ZiK g) u Zl (Zk (pv 0))) (Vb (JY Wt Wt (pv 1) (pv 0) (pv 2)))))),?_⟩;sleep 1;refine⟨_,R,v,T,R,n,_,R,?_⟩;cases n with
 |non=>exact Zp SO q
 |str x=>exact Zp SO q
 |lst e=>exact Zp SO q
 |tup e=>exact Zp SO q
 |dK e=>exact Zp SO q
 |bl b=>exact Zp SO q
 |int i =>
  refine Z9 R ?_;refine⟨_,R,_,R,_,_,R,R,_,R,?_⟩;refine WF (fun c=>?_) (fun c=>?_)
  ·refine⟨_,R,_,_,R,R,?_⟩
   have j:lo<=i:=SS c;have e:decide (i<=f)=E6 (.int i) lo f:=by
    show decide (i<=f)=decide (lo<=i/\i<=f);exact decide_eq_decide.mpr ⟨fun z=>⟨j,z⟩,fun z=>z.2⟩
   rw[<-e]at q;exact q
  ·have j:¬ lo<=i:=SU (Oh.mpr c)
   have e:false=E6 (.int i) lo f:=by
    show false=decide (lo<=i/\i<=f);exact(SR fun z=>j z.1).symm
   rw[<-e]at q;exact q
inductive ZiM(vs:List V)(H:Hp)(Q:VK)(_e3:XK):Prop|mk (a:Addr) (ss:OF) (n lo:Nat) (hi:Int) (_:vs=[.ref a,.int n,.int lo,.int hi]) (_:H a=some (.lst (Yx ss))) (_:1<=ss.length) (_:ss.length<=n) (_:ss.Pairwise (· < ·)) (_:(∀x∈ss,lo<=x/\((x:Nat):Int)<=hi)) (_:Q (.bl true) H)
theorem To(u:Zv K mg t):Zn P w K mg base Zo 3 t.qJ t.qK ["values","longest","least","most"] ZiM:=by
 refine u.K2.F.ok Kr (by lia) fun O A outer s H U Q E L h=>?_;obtain⟨a,c,n,lo,I,rfl,ha,S,X,up,G,q⟩:=h;refine⟨_,(Zh (ZN (PW.pt (Uv (YE (YD (ZM VY u.YR YQ (Zm (pv 0) (VA R u.Wm Wj))))) (UY (YE (JZ Wt Wt Zb (ZM XH u.Xr Xq (Zk (pv 0))) (pv 1)))))) (Zi (ZA WS)) ZP) (Zh (ZG 4 Kr.nd (pv 2)) (Zh (Xs (WB (pv 0)) (Z0 5 Kr.nd) (Zh (ZN (YE (YD (ZB u.Qb (QD u) L Zl (Ys (pv 5) (pv 4) (pv 3))))) (Zi (ZA WS)) ZP) (Zi (ZG 4 Kr.nd (Ze Z2 (pv 5) Zb))))) (Zi (ZA WS))))),?_⟩;sleep 4;have hlen:(Yx c).length=c.length:=Sv ..;refine⟨_,R,.ref a,"list",_,_,R,.lst ha,R,_,R,Zp (by lia) ?_⟩;refine⟨_,R,a,_,R,.inl (Zf.of ha),_,_,R,R,_,R,Z9 (SQ (by rw[hlen];lia)) ?_⟩;refine⟨_,R,_,_,R,R,_,R,Zp (by rw[SQ (show(((Yx c).length:Nat):Int)<=(n:Int) by rw[hlen];lia)];lia) ?_⟩;sleep 1;refine⟨_,R,_,R,a,R,⟨_,Zf.of ha⟩,D2 (xs:=Yx c) (fun i C D=>D=H/\∃(f:Nat) (v:Option V),C=[some (.ref a),some (.int n),some (.int lo),some (.int I),some (.int (f:Nat)),v]/\∀j x,i<=j->c[j]? = some x->f<=x)
  ⟨R,lo,_,R,fun j x _ e=>(G x (SK e)).1⟩ (fun i C D _ ⟨e,_⟩=>by rw[e];exact Zf.of ha) ?_ ?_⟩
 ·rintro i x C D B ⟨rfl,f,v,rfl,J⟩
  rw[Oa]at B;sleep 102;cases g:c[i]? with
  |none=>rw[g]at B;cases B
  |some m =>
   rw[g]at B;obtain rfl:V.int (m:Int)=x:=So B;have hm:=G m (SK g);have M:=J i m (Sg _) g;refine⟨_,R,_,R,_,R,.int m,_,_,"int",R,.int _,_,R,Zp (by rw[U5 (by lia) hm.2];lia) ?_⟩;refine⟨_,R,_,_,R,R,R,m+1,_,R,fun j y T e=>?_⟩;have:=List.pairwise_iff_getElem.mp up i j (Sr.mp g).1 (Sr.mp e).1 (by lia);rw[(Sr.mp g).2,(Sr.mp e).2]at this;exact this
 ·rintro C D ⟨rfl,f,v,rfl,_⟩
  exact q
abbrev rc(t:Yd):RC:=⟨t.XN,t.Vm,t.XX,t.WI,t.XO,t.XP,t.Wk⟩
inductive WL(c:RC)(K:Ow)(q:RT->Prop)(n:Nat)(vs:List V)(H:Hp)(Q:VK)(_e3:XK):Prop|mk (a:Addr) (r:RT) (d:Nat) (_:vs=[.ref a,.int d]) (_:ZQ c K H a r) (_:q r) (_:r.depth<=n) (_:Q (.bl (r.runs d)) H)
def Lm:RT->Prop|.always=>True|_=>False
def Ln:RT->Prop|.week _=>True|_=>False
def Jz:RT->Prop|.span _ _ _=>True|_=>False
def Lo:RT->Prop|.each _ _=>True|_=>False
def JA:RT->Prop|.either _ _=>True|_=>False
def JB:RT->Prop|.both _ _=>True|_=>False
def JC:RT->Prop|.but _ _=>True|_=>False
structure QE(P:Program)(w:World)(K:Ow)(mg:Ov)(base:Heap)(t:Yd)(n:Nat):Prop where
 rule:Zn P w K mg base Zo (n+1) t.PQ t.PR ["self","day"] (WL (rc t) K Lm n)
 week:Zn P w K mg base Zo (n+1) t.PY t.PZ ["self","day"] (WL (rc t) K Ln n)
 span:Zn P w K mg base Zo (n+1) t.P3 t.P4 ["self","day"] (WL (rc t) K Jz n)
 each:Zn P w K mg base Zo (n+1) t.P8 t.P9 ["self","day"] (WL (rc t) K Lo n)
 either:Zn P w K mg base Zo (n+1) t.Re t.Rf ["self","day"] (WL (rc t) K JA n)
 both:Zn P w K mg base Zo (n+1) t.Rj t.Rk ["self","day"] (WL (rc t) K JB n)
 but:Zn P w K mg base Zo (n+1) t.Rp t.Rq ["self","day"] (WL (rc t) K JC n)
theorem QE.at(R:QE P w K mg base t n)(c:Zv K mg t){r:RT}(h:ZQ (rc t) K H a r)(hn:r.depth<=n) :
  ∃(C j:Addr) (fs:List (Str×V)) (f:Addr) (fd:OI) (sp:Sp),H a=some (.ins C j fs)/\fs.lookup ("runs" : Str)=none/\Yz K C/\Yu K C "runs" f/\Zn P w K mg base Zo (n+1) f fd ["self","day"] sp/\Xm K fd ["self","day"] [] /\
   ∀(d:Nat) (Q:VK),Q (.bl (r.runs d)) H->sp [.ref a,.int (d:Nat)] H Q E0:=by
 cases h with
 |always h=>exact⟨_,_,_,_,_,_,h,rfl,c.Jw,c.RF.me,R.rule,c.RF.b,fun d Q q=>⟨a,_,d,rfl,.always h,trivial,hn,q⟩⟩
 |week h x=>exact⟨_,_,_,_,_,_,h,rfl,c.Qc,c.RI.me,R.week,c.RI.b,fun d Q q=>⟨a,_,d,rfl,.week h x,trivial,hn,q⟩⟩
 |span h B u e=>exact⟨_,_,_,_,_,_,h,rfl,c.WK,c.K7.me,R.span,c.K7.b,fun d Q q=>⟨a,_,d,rfl,.span h B u e,trivial,hn,q⟩⟩
 |each h v y g=>exact⟨_,_,_,_,_,_,h,rfl,c.V8,c.RN.me,R.each,c.RN.b,fun d Q q=>⟨a,_,d,rfl,.each h v y g,trivial,hn,q⟩⟩
 |either h e i=>exact⟨_,_,_,_,_,_,h,rfl,c.Vo,c.K9.me,R.either,c.K9.b,fun d Q q=>⟨a,_,d,rfl,.either h e i,trivial,hn,q⟩⟩
 |both h e i=>exact⟨_,_,_,_,_,_,h,rfl,c.Vp,c.Lb.me,R.both,c.Lb.b,fun d Q q=>⟨a,_,d,rfl,.both h e i,trivial,hn,q⟩⟩
 |but h g e=>exact⟨_,_,_,_,_,_,h,rfl,c.VI,c.Ld.me,R.but,c.Ld.b,fun d Q q=>⟨a,_,d,rfl,.but h g e,trivial,hn,q⟩⟩
theorem Za3(e:Zv K mg t)(n:Nat):Zn P w K mg base Zo (n+1) t.PQ t.PR ["self","day"] (WL (rc t) K Lm n):=by
 refine e.RF.F.ok ZgL (by lia) fun g A outer s H f Q E i h=>?_;obtain⟨a,r,d,rfl,h,c,hn,q⟩:=h;refine⟨_,(Zi (ZA WS)),?_⟩;sleep 1;cases r<;>first|exact q|exact c.elim
theorem Za4(c:Zv K mg t)(n:Nat):Zn P w K mg base Zo (n+1) t.PY t.PZ ["self","day"] (WL (rc t) K Ln n):=by
 refine c.RI.F.ok ZgO (by lia) fun v A outer s H j Q E x h=>?_;obtain⟨a,r,d,rfl,h,g,hn,q⟩:=h;refine⟨_,(Zi (ZA (Vd Y4 (Ze Zc5 (Ze Zc4 (ZK (pv 0) R) (Ze ZO (pv 1) (YA R c.Zhs))) Zb) Zb (Ui _)))),?_⟩;sleep 1;cases h with
 |week h u =>
  rename_i i b;refine⟨_,R,a,_,_,_,_,R,h,c.Qc,c.Te,R,_,R,_,_,R,R,(by show(0:Int)<7;lia),_,_,R,R,Int.emod_nonneg _ (by lia),_,_,R,R,R,?_⟩;have e:((d:Int)%7).toNat=d%7:=by lia
  have f:decide (V.int (Builtin.bitAnd ((b:Int)/2 ^ ((d:Int)%7).toNat) 1)=V.int 1)=(RT.week b).runs d:=by
   rw[e];have:=Zeo b (d%7);rw[Vx];exact this
  rw[<-f]at q;exact q
 |_=>exact g.elim
theorem Za5(c:Zv K mg t)(n:Nat):Zn P w K mg base Zo (n+1) t.P8 t.P9 ["self","day"] (WL (rc t) K Lo n):=by
 refine c.RN.F.ok ZgT (by lia) fun B A outer s H x Q E C h=>?_;obtain⟨a,r,d,rfl,h,i,hn,q⟩:=h;refine⟨_,(Zi (ZA (Vd J4 (Ze ZO (pv 1) (ZK (pv 0) R)) (ZK (pv 0) R) R))),?_⟩;sleep 1;cases h with
 |each h v y j =>
  rename_i u p m f;refine⟨_,R,_,R,a,_,_,_,_,R,h,c.V8,c.Th,R,_,_,R,R,(by show(0:Int)<_;lia),_,R,a,_,_,_,_,R,h,c.V8,c.Ti,R,p,_,R,.inr j,R,Kb f,?_⟩;have e:(d:Int)%(m:Int)=((d%m:Nat):Int):=by lia
  have g:U0 (.int ((d:Int)%(m:Int))) (Yx f)=(RT.each m f).runs d:=by
   rw[e];exact E9 (d%m) f
  rw[<-g]at q;exact q
 |_=>exact i.elim
theorem ZiN(c:Zv K mg t)(n:Nat)(R:QE P w K mg base t n):Zn P w K mg base Zo (n+2) t.P3 t.P4 ["self","day"] (WL (rc t) K Jz (n+1)):=by
 refine c.K7.F.ok uO (by lia) fun M A outer s H S Q E D h=>?_;obtain⟨a,r,d,rfl,h,I,hn,q⟩:=h;refine⟨_,(Zi (ZA (Uw (JY Wt Wt (ZK (pv 0) rfl) (pv 1) (ZK (pv 0) rfl)) (Vb (U3 (ZK (pv 0) rfl) (Zk (pv 1))))))),?_⟩;sleep 1;cases h with
 |span h O L v =>
  rename_i J i x y r;have hd:r.depth<=n:=by
   have:(RT.span x y r).depth=1+r.depth:=rfl;lia
  obtain⟨C,G,fs,f,B,sp,g1,g2,g3,g4,g5,g6,g7⟩:=R.at c v hd;refine⟨_,rfl,a,_,_,_,_,rfl,h,c.WK,c.Tf,rfl,?_⟩;have g:∀b:Bool,b=(decide (x<=d) && decide (d<=y) && r.runs d)->Q (.bl b) H:=fun b e=>by rw[e];exact q
  refine⟨_,rfl,_,_,rfl,rfl,_,rfl,?_⟩;by_cases j:x<=d
  ·refine Z9 (SQ (by lia)) ?_
   refine⟨_,rfl,a,_,_,_,_,rfl,h,c.WK,c.Tg,rfl,_,_,rfl,rfl,_,rfl,?_⟩;by_cases u:d<=y
   ·refine Z9 (SQ (by lia)) ?_
    refine⟨_,rfl,a,_,_,_,_,rfl,h,c.WK,c.Le,rfl,i,C,G,fs,f,B,_,_,sp,Zo,E0,rfl,g1,g2,g3,g4,g5,D.mono (by lia),g6,Zl,_,rfl,?_⟩;exact g7 d Q (g _ (by rw[SQ j,SQ u];rfl))
   ·refine Zp (by rw[SR (by lia)];lia) ?_
    exact g _ (by rw[SR u,Bool.and_false,Bool.false_and])
  ·refine Zp (by rw[SR (by lia)];lia) ?_
   exact⟨_,rfl,Zp (by lia) (g _ (by rw[SR j,Bool.false_and,Bool.false_and]))⟩
 |_=>exact I.elim
theorem ZiO(c:Zv K mg t)(n:Nat)(R:QE P w K mg base t n):Zn P w K mg base Zo (n+2) t.Re t.Rf ["self","day"] (WL (rc t) K JA (n+1)):=by
 refine c.K9.F.ok uQ (by lia) fun J A outer s H L Q E y h=>?_;obtain⟨a,r,d,rfl,h,D,hn,q⟩:=h;refine⟨_,(Zi (ZA (zA (U3 (ZK (pv 0) rfl) (Zk (pv 1))) (Vb (U3 (ZK (pv 0) rfl) (Zk (pv 1))))))),?_⟩;sleep 1;cases h with
 |either h B G =>
  rename_i I i j r g;have hd:r.depth<=n/\g.depth<=n:=by
   have:(RT.either r g).depth=1+max r.depth g.depth:=rfl;lia
  obtain⟨C,x,fs,f,v,sp,g1,g2,g3,g4,g5,g6,g7⟩:=R.at c B hd.1;refine⟨_,rfl,a,_,_,_,_,rfl,h,c.Vo,c.Lf,rfl,i,C,x,fs,f,v,_,_,sp,Zo,E0,rfl,g1,g2,g3,g4,g5,y.mono (by lia),g6,Zl,_,rfl,g7 d _ ⟨_,rfl,?_⟩⟩;have u:Q (.bl (r.runs d || g.runs d)) H:=q;cases e:r.runs d with
  |true=>exact Z9 rfl (by rw[e]at u;exact u)
  |false =>
   refine Zp (by lia) ?_;obtain⟨C,x,fs,f,v,sp,g1,g2,g3,g4,g5,g6,g7⟩:=R.at c G hd.2;refine⟨_,rfl,a,_,_,_,_,rfl,h,c.Vo,c.Lg,rfl,j,C,x,fs,f,v,_,_,sp,Zo,E0,rfl,g1,g2,g3,g4,g5,y.mono (by lia),g6,Zl,_,rfl,g7 d _ ?_⟩;rw[e,Bool.false_or]at u;exact u
 |_=>exact D.elim
theorem ZiP(c:Zv K mg t)(n:Nat)(R:QE P w K mg base t n):Zn P w K mg base Zo (n+2) t.Rj t.Rk ["self","day"] (WL (rc t) K JB (n+1)):=by
 refine c.Lb.F.ok uS (by lia) fun J A outer s H L Q E y h=>?_;obtain⟨a,r,d,rfl,h,D,hn,q⟩:=h;refine⟨_,(Zi (ZA (Uw (U3 (ZK (pv 0) rfl) (Zk (pv 1))) (Vb (U3 (ZK (pv 0) rfl) (Zk (pv 1))))))),?_⟩;sleep 1;cases h with
 |both h B G =>
  rename_i I i j r g;have hd:r.depth<=n/\g.depth<=n:=by
   have:(RT.both r g).depth=1+max r.depth g.depth:=rfl;lia
  obtain⟨C,x,fs,f,v,sp,g1,g2,g3,g4,g5,g6,g7⟩:=R.at c B hd.1;refine⟨_,rfl,a,_,_,_,_,rfl,h,c.Vp,c.Lh,rfl,i,C,x,fs,f,v,_,_,sp,Zo,E0,rfl,g1,g2,g3,g4,g5,y.mono (by lia),g6,Zl,_,rfl,g7 d _ ⟨_,rfl,?_⟩⟩;have u:Q (.bl (r.runs d && g.runs d)) H:=q;cases e:r.runs d with
  |false=>exact Zp (by lia) (by rw[e]at u;exact u)
  |true =>
   refine Z9 rfl ?_;obtain⟨C,x,fs,f,v,sp,g1,g2,g3,g4,g5,g6,g7⟩:=R.at c G hd.2;refine⟨_,rfl,a,_,_,_,_,rfl,h,c.Vp,c.Li,rfl,j,C,x,fs,f,v,_,_,sp,Zo,E0,rfl,g1,g2,g3,g4,g5,y.mono (by lia),g6,Zl,_,rfl,g7 d _ ?_⟩;rw[e,Os]at u;exact u
 |_=>exact D.elim
theorem ZiQ(c:Zv K mg t)(n:Nat)(R:QE P w K mg base t n):Zn P w K mg base Zo (n+2) t.Rp t.Rq ["self","day"] (WL (rc t) K JC (n+1)):=by
 refine c.Ld.F.ok uU (by lia) fun G A outer s H I Q E x h=>?_;obtain⟨a,r,d,rfl,h,B,hn,q⟩:=h;refine⟨_,(Zi (ZA (Vd JX (U3 (ZK (pv 0) rfl) (Zk (pv 1))) (Vd J4 (pv 1) (ZK (pv 0) rfl) rfl) (Ui _)))),?_⟩;sleep 1;cases h with
 |but h v j =>
  rename_i D p i ds r;have hd:r.depth<=n:=by
   have:(RT.but ds r).depth=1+r.depth:=rfl;lia
  obtain⟨C,y,fs,f,u,sp,g1,g2,g3,g4,g5,g6,g7⟩:=R.at c j hd;refine⟨_,rfl,a,_,_,_,_,rfl,h,c.VI,c.Lj,rfl,i,C,y,fs,f,u,_,_,sp,Zo,E0,rfl,g1,g2,g3,g4,g5,x.mono (by lia),g6,Zl,_,rfl,g7 d _ ?_⟩;refine⟨_,rfl,_,rfl,a,_,_,_,_,rfl,h,c.VI,c.Tj,rfl,p,_,rfl,.inr v,rfl,Kb ds,rfl,?_⟩;have g:Q (.bl (r.runs d != ds.contains d)) H:=q;have e:(!decide (V.bl (r.runs d)=V.bl (U0 (.int (d:Int)) (Yx ds))))=(r.runs d != ds.contains d):=by
   rw[E9,JW];rfl
  rw[<-e]at g;exact g
 |_=>exact B.elim
theorem Za6(c:Zv K mg t):∀n,QE P w K mg base t n
 |0=>by
  have no:∀{q:RT->Prop},∀vs H Q E,WL (rc t) K q 0 vs H Q E->False:=fun vs H Q E h=>by
   obtain⟨a,r,d,rfl,h,i,hn,_⟩:=h;have:=r.depth_pos;lia
  exact⟨Za3 c 0,Za4 c 0,
   c.K7.F.ok uO (fun vs H Q E h=>(no vs H Q E h).elim) (fun f A outer s H vs Q E g h=>(no vs H Q E h).elim),Za5 c 0,
   c.K9.F.ok uQ (fun vs H Q E h=>(no vs H Q E h).elim) (fun f A outer s H vs Q E g h=>(no vs H Q E h).elim),
   c.Lb.F.ok uS (fun vs H Q E h=>(no vs H Q E h).elim) (fun f A outer s H vs Q E g h=>(no vs H Q E h).elim),
   c.Ld.F.ok uU (fun vs H Q E h=>(no vs H Q E h).elim) (fun f A outer s H vs Q E g h=>(no vs H Q E h).elim)⟩
 |n+1=>have e:=Za6 c n
  ⟨Za3 c (n+1),Za4 c (n+1),ZiN c n e,Za5 c (n+1),ZiO c n e,ZiP c n e,ZiQ c n e⟩
def Tq(c:RC)(K:Ow)(H:Hp)(r:RT)(xs:List V):Prop:=match r with
 |.always|.week _|.each _ _=>xs=[]
 |.span _ _ r1|.but _ r1=>∃i,xs=[.ref i]/\ZQ c K H i r1
 |.either r1 e|.both r1 e=>∃i j,xs=[.ref i,.ref j]/\ZQ c K H i r1/\ZQ c K H j e
inductive JD(c:RC)(K:Ow)(q:RT->Prop)(vs:List V)(H:Hp)(Q:VK)(_e3:XK):Prop|mk (a:Addr) (r:RT) (_:vs=[.ref a]) (_:ZQ c K H a r) (_:q r) (_:∀p xs,H p=none->Tq c K H r xs->Q (.ref p) (upd H p (.lst xs)))
def ZiR:RT->Prop|.always|.week _|.each _ _=>True|_=>False
theorem Tr(e:Zv K mg t):Zn P w K mg base Zo 1 t.Ku t.kJ ["self"] (JD (rc t) K ZiR):=by
 refine e.Jn.F.ok ZgK (by lia) fun i A outer s H g Q E j h=>?_;obtain⟨a,r,rfl,h,c,q⟩:=h;refine⟨_,(Zi (ZA (Z5 Xl))),?_⟩;sleep 1;refine⟨by show 0<=sizeLine;lia,fun p f=>q p _ f ?_⟩;cases r<;>first|rfl|exact c.elim
theorem ZiS(c:Zv K mg t):Zn P w K mg base Zo 1 t.kM t.kN ["self"] (JD (rc t) K Jz):=by
 refine c.RK.F.ok ZgQ (by lia) fun n A outer s H j Q E u h=>?_;obtain⟨a,r,rfl,h,f,q⟩:=h;refine⟨_,(Zi (ZA (Z5 (Zk (ZK (pv 0) R))))),?_⟩;sleep 1;cases h with
 |span h v i e=>exact⟨_,R,a,_,_,_,_,R,h,c.WK,c.Le,R,by show 1<=sizeLine;lia,fun p g=>q p _ g ⟨_,R,e⟩⟩
 |_=>exact f.elim
theorem ZiT(c:Zv K mg t):Zn P w K mg base Zo 1 t.kS t.kT ["self"] (JD (rc t) K JC):=by
 refine c.RU.F.ok ZgZ (by lia) fun j A outer s H i Q E n h=>?_;obtain⟨a,r,rfl,h,g,q⟩:=h;refine⟨_,(Zi (ZA (Z5 (Zk (ZK (pv 0) R))))),?_⟩;sleep 1;cases h with
 |but h e f=>exact⟨_,R,a,_,_,_,_,R,h,c.VI,c.Lj,R,by show 1<=sizeLine;lia,fun p e=>q p _ e ⟨_,R,f⟩⟩
 |_=>exact g.elim
theorem ZiU(c:Zv K mg t):Zn P w K mg base Zo 1 t.kO t.kP ["self"] (JD (rc t) K JA):=by
 refine c.RP.F.ok ZgV (by lia) fun n A outer s H j Q E u h=>?_;obtain⟨a,r,rfl,h,g,q⟩:=h;refine⟨_,(Zi (ZA (Z5 (Zm (ZK (pv 0) R) (ZK (pv 0) R))))),?_⟩;sleep 1;cases h with
 |either h f e=>exact⟨_,R,a,_,_,_,_,R,h,c.Vo,c.Lf,R,_,R,a,_,_,_,_,R,h,c.Vo,c.Lg,R,by show 2<=sizeLine;lia,fun p i=>q p _ i ⟨_,_,R,f,e⟩⟩
 |_=>exact g.elim
theorem ZiV(c:Zv K mg t):Zn P w K mg base Zo 1 t.kQ t.kR ["self"] (JD (rc t) K JB):=by
 refine c.RR.F.ok ZgX (by lia) fun n A outer s H j Q E u h=>?_;obtain⟨a,r,rfl,h,g,q⟩:=h;refine⟨_,(Zi (ZA (Z5 (Zm (ZK (pv 0) R) (ZK (pv 0) R))))),?_⟩;sleep 1;cases h with
 |both h f e=>exact⟨_,R,a,_,_,_,_,R,h,c.Vp,c.Lh,R,_,R,a,_,_,_,_,R,h,c.Vp,c.Li,R,by show 2<=sizeLine;lia,fun p i=>q p _ i ⟨_,_,R,f,e⟩⟩
 |_=>exact g.elim
theorem Za7(c:Zv K mg t)(h:ZQ (rc t) K H a r) :
  ∃(C j:Addr) (fs:List (Str×V)) (f:Addr) (fd:OI) (sp:Sp),H a=some (.ins C j fs)/\fs.lookup ("parts" : Str)=none/\Yz K C/\Yu K C "parts" f/\Zn P w K mg base Zo 1 f fd ["self"] sp/\Xm K fd ["self"] [] /\
   ∀(Q:VK),(∀p xs,H p=none->Tq (rc t) K H r xs->Q (.ref p) (upd H p (.lst xs)))->sp [.ref a] H Q E0:=by
 cases h with
 |always h=>exact⟨_,_,_,_,_,_,h,R,c.Jw,c.Jn.me,Tr c,c.Jn.b,fun Q q=>⟨a,_,R,.always h,trivial,q⟩⟩
 |week h v=>exact⟨_,_,_,_,_,_,h,R,c.Qc,c.ZhL,Tr c,c.Jn.b,fun Q q=>⟨a,_,R,.week h v,trivial,q⟩⟩
 |span h y n e=>exact⟨_,_,_,_,_,_,h,R,c.WK,c.RK.me,ZiS c,c.RK.b,fun Q q=>⟨a,_,R,.span h y n e,trivial,q⟩⟩
 |each h u x g=>exact⟨_,_,_,_,_,_,h,R,c.V8,c.ZhQ,Tr c,c.Jn.b,fun Q q=>⟨a,_,R,.each h u x g,trivial,q⟩⟩
 |either h e i=>exact⟨_,_,_,_,_,_,h,R,c.Vo,c.RP.me,ZiU c,c.RP.b,fun Q q=>⟨a,_,R,.either h e i,trivial,q⟩⟩
 |both h e i=>exact⟨_,_,_,_,_,_,h,R,c.Vp,c.RR.me,ZiV c,c.RR.b,fun Q q=>⟨a,_,R,.both h e i,trivial,q⟩⟩
 |but h g e=>exact⟨_,_,_,_,_,_,h,R,c.VI,c.RU.me,ZiT c,c.RU.b,fun Q q=>⟨a,_,R,.but h g e,trivial,q⟩⟩
theorem Lp(c:Zv K mg t)(h:ZQ (rc t) K H a r):∃(C f:Addr) (fs:List (Str×V)),H a=some (.ins C f fs)/\Yz K C/\(fs.lookup ("weight" : Str)=none/\Yu K C "weight" t.UL)/\(fs.lookup ("depth" : Str)=none/\Yu K C "depth" t.UM):=by
 cases h with
 |always h=>exact⟨_,_,_,h,c.Jw,⟨R,c.Jo.me⟩,⟨R,c.Jp.me⟩⟩
 |week h q=>exact⟨_,_,_,h,c.Qc,⟨R,c.ZhM⟩,⟨R,c.ZhK⟩⟩
 |span h v j e=>exact⟨_,_,_,h,c.WK,⟨R,c.ZhO⟩,⟨R,c.ZhN⟩⟩
 |each h n u g=>exact⟨_,_,_,h,c.V8,⟨R,c.ZhR⟩,⟨R,c.ZhP⟩⟩
 |either h e i=>exact⟨_,_,_,h,c.Vo,⟨R,c.ZhT⟩,⟨R,c.ZhS⟩⟩
 |both h e i=>exact⟨_,_,_,h,c.Vp,⟨R,c.ZhV⟩,⟨R,c.ZhU⟩⟩
 |but h g e=>exact⟨_,_,_,h,c.VI,⟨R,c.ZhX⟩,⟨R,c.ZhW⟩⟩
inductive ZiW(P:Program)(w:World)(K:Ow)(mg:Ov)(base:Heap)(k:Nat)(m:Str)(Q:VK)(x:V)(H1:Hp):Prop|mk (a C dx:Addr) (fs:List (Str×V)) (f:Addr) (fd:OI) (ps:OB) (sp:Sp) (_:x=.ref a) (_:H1 a=some (.ins C dx fs)) (_:fs.lookup m=none) (_:Yz K C) (_:Yu K C m f) (_:Zn P w K mg base Zo k f fd ps sp) (_:Xm K fd ps []) (_:sp [.ref a] H1 Q E0)
def ZiX(P:Program)(w:World)(K:Ow)(mg:Ov)(base:Heap)(k:Nat)(m:Str)(e:TE):TE:=fun c H Q=>e c H fun x f=>ZiW P w K mg base k m Q x f
theorem Za8{apos:Pos}(P:Program)(w:World)(K:Ow)(mg:Ov)(base:Heap)(k:Nat)(L:Yb k X.A)(v:PE X o i)
  (D:X.prog=P:=by rfl) (E:X.w=w:=by rfl) (G:X.K=K:=by rfl) (hm:X.mg=mg:=by rfl) (e:X.base=base:=by rfl)
  (n:eval (.Call (.Attribute o m apos) [] [] pos) X.env=(do
   let j <-eval o X.env
   standAt apos.atName
   let (f,first) <-holding [j] (getMethod j m pl)
   callWith pos f first (backTo pos (starEach [] X.env)) (backToKw pos (keywordEach [] X.env))):=by rfl) :
  PE X (.Call (.Attribute o m apos) [] [] pos) (ZiX P w K mg base k m i):=by
 subst D E G hm e;intro pins s B H Q I h;refine W.methodCall_KW (pl:=pl) (Zq (v pins s B H _ I h) fun u S ⟨x,U,g,y,a,C,M,fs,f,T,O,sp,ex,J,l,c,hm,F,e,q⟩=>?_) n;subst ex;obtain rfl:u=Value.ref a:=y;refine D5 g J c hm l ?_;exact W.callWith_K0 (first:=[.ref a]) g.kIn hm.kp (Qp (us:=[.ref a]) (vs:=[.ref a]) (dvs:=[]) F L e .nil Zl g (.cons R .nil) q)
def WM:RT->List RT
 |.always|.week _|.each _ _=>[]
 |.span _ _ r|.but _ r=>[r]
 |.either r s|.both r s=>[r,s]
theorem Tt(r:RT):r.weight=1+((WM r).map RT.weight).sum:=by
 cases r<;>simp[WM,RT.weight]
theorem Za9{r k:RT}(h:k∈WM r):k.depth<r.depth:=by
 cases r<;>simp[WM]at h
 all_goals simp only[RT.depth]
 ·subst h;lia
 ·rcases h with rfl|rfl<;>omega
 ·rcases h with rfl|rfl<;>omega
 ·subst h;lia
theorem Zba(r:RT):(WM r).length<=2:=by
 cases r<;>simp[WM]
theorem Zbb{xs:List V}(h:Tq c K H r xs):xs.length=(WM r).length/\∀(i:Nat) (x:V),xs[i]? = some x->∃(j:Addr) (k:RT),x=.ref j/\(WM r)[i]? = some k/\ZQ c K H j k:=by
 have none:∀(i:Nat) (x:V),([]:List V)[i]? = some x->False:=fun i x e=>by cases e
 have one:∀{a:Addr} {r1:RT},ZQ c K H a r1->∀(i:Nat) (x:V),[V.ref a][i]? = some x->∃(j:Addr) (k:RT),x=.ref j/\[r1][i]? = some k/\ZQ c K H j k:=fun{a r1} q i x e=>by
  match i,e with
  |0,e=>exact⟨a,r1,(So e).symm,R,q⟩
  |_+1,e=>cases e
 have v:∀{a b:Addr} {r1 f:RT},ZQ c K H a r1->ZQ c K H b f->∀(i:Nat) (x:V),[V.ref a,V.ref b][i]? = some x->∃(j:Addr) (k:RT),x=.ref j/\[r1,f][i]? = some k/\ZQ c K H j k:=fun{a b r1 f} g u i x e=>by
  match i,e with
  |0,e=>exact⟨a,r1,(So e).symm,R,g⟩
  |1,e=>exact⟨b,f,(So e).symm,R,u⟩
  |_+2,e=>cases e
 cases r with
 |always=>cases h;exact⟨R,fun i x e=>(none i x e).elim⟩
 |week b=>cases h;exact⟨R,fun i x e=>(none i x e).elim⟩
 |each n y=>cases h;exact⟨R,fun i x e=>(none i x e).elim⟩
 |span a b r1=>obtain⟨i,rfl,q⟩:=h;exact⟨R,one q⟩
 |but ds r1=>obtain⟨i,rfl,q⟩:=h;exact⟨R,one q⟩
 |either r1 f=>obtain⟨i,j,rfl,g,u⟩:=h;exact⟨R,v g u⟩
 |both r1 f=>obtain⟨i,j,rfl,g,u⟩:=h;exact⟨R,v g u⟩
theorem Zbc:∀l:List Nat,(l.map fun n=>((n:Nat):Int)).sum=((l.sum:Nat):Int)
 |[]=>rfl
 |x::r=>by
  rw[SM,List.sum_cons,List.sum_cons,Zbc r];lia
theorem Tu:∀{l:OF},x∈l->x<=l.sum
 |y::r,h=>by
  rw[List.sum_cons];rcases SF.mp h with rfl|h
  ·omega
  ·have:=Tu h
   lia
inductive ZiY(c:RC)(K:Ow)(n:Nat)(vs:List V)(H:Hp)(Q:VK)(_e3:XK):Prop|mk (a:Addr) (r:RT) (_:vs=[.ref a]) (_:ZQ c K H a r) (_:r.depth<=n) (_:r.weight<=1000000) (_:∀H',Zc H H'->Q (.int (r.weight:Nat)) H')
theorem ZiZ(c:Zv K mg t):∀n:Nat,Zn P w K mg base Zo (n+1) t.UL t.kK ["self"] (ZiY (rc t) K n):=by
 intro n
 induction n with
 |zero =>
  refine c.Jo.F.ok uL (fun I H Q E h=>?_) (fun Y A outer s H I Q E B h=>?_)
  ·obtain⟨a,r,rfl,_⟩:=h
   rfl
  ·obtain⟨a,r,rfl,h,hd,_⟩:=h
   have:=r.depth_pos;lia
 |succ n ih =>
 refine c.Jo.F.ok uL (by lia) fun Y A outer s H I Q E B h=>?_;obtain⟨a,r,rfl,h,hd,hw,c0⟩:=h;refine⟨_,(Zi (ZA (Ze Z2 Zb (ZM (Zen R) c.Zho Zhk (Zk (VC (cl:=[]) (N:=["part"]) (fr:=[none]) R (WB (E7 (pv 0))) R (by lia) R (by lia) trivial trivial R (fun _ _ _ _ _=>LP (i:=0) (E5 _) R (Or.inl R)) (fun _ _ _ _ _=>V0) (fun _ _ _ _ _=>Za8 P w K mg base (n+1) (B.mono (by lia)) (pv 0)))))))),?_⟩;sleep 1;obtain⟨C,O,fs,f,fd,sp,l,lk,cl,me,F,hb,pp⟩:=Za7 (P:=P) (w:=w) (mg:=mg) (base:=base) c h;refine⟨_,R,a,C,O,fs,f,fd,_,_,sp,Zo,E0,R,l,lk,cl,me,F,B.mono (by lia),hb,Zl,pp _ fun p xs hp y=>?_⟩;obtain⟨hl,X⟩:=Zbb y;have kl:=Zba r;have G:Zc H (upd H p (.lst xs)):=Zu hp _;refine⟨p,R,⟨xs,Zf.of Zg⟩,Uj (K:=K) (a:=p) (xs:=xs) (fun i q u x=>Zc (upd H p (.lst xs)) x/\q=(((WM r).take i).map fun k=>V.int (k.weight:Nat))/\∃v,u=[v])
  ⟨Zc.refl _,R,_,R⟩ (by show xs.length<=sizeLine;exact Sh (by lia) (show 2<=sizeLine by lia)) (fun i q u x _ ⟨g,_⟩=>Zf.of (g _ _ Zg)) ?_ ?_⟩
 ·rintro i b0 q u x ha y ⟨g,e,v,rfl⟩
  obtain⟨j,k,rfl,D,U⟩:=X i b0 y;have J:k∈WM r:=SK D;have kd:=Za9 J;have kw:k.weight<=r.weight:=by
   rw[Tt r];have:=Tu (List.mem_map_of_mem (f:=RT.weight) J);lia
  dsimp only[Xw,VB];rw[SW R];have M:=U.same (G.trans g);obtain⟨C2,e0,T,l2,a0,⟨f0,d0⟩,_⟩:=Lp c M;refine⟨_,R,j,C2,e0,T,_,_,_,_,R,l2,f0,a0,d0,ih,c.Jo.b,j,k,R,M,by lia,by lia,fun H3 Z=>⟨?_,g.trans Z,?_,_,R⟩⟩
  ·rw[Su,Sw];lia
  ·rw[e,S0,D]
   simp
 ·rintro q u x ha ⟨g,e,v,rfl⟩ p3 g3
  have S:q=((((WM r).map RT.weight).map fun n=>((n:Nat):Int)).map V.int):=by
   rw[e,hl,List.take_length,Oe,Oe];rfl
  refine⟨p3,_,R,Zf.of (by rw[Zg,S]),?_,?_,?_⟩
  ·intro n hn
   obtain⟨m,hm,rfl⟩:=SJ.mp hn;have:=Tu hm;have:=Tt r;lia
  ·rw[Sv,Sv];lia
  ·have s4:=(G.trans g).trans (Zu g3 (.lst q))
   have L:=c0 _ s4;rw[Tt r]at L;refine⟨_,_,R,R,?_⟩;rw[Zbc];exact L
theorem Zbd:∀(l:OF) (x:Nat),VD (some (x:Int)) (l.map fun n=>((n:Nat):Int))=some (((l.foldl max x:Nat)):Int)
 |[],x=>rfl
 |y::r,x=>by
  show VD (some (QY (some (x:Int)) (y:Int))) _=_;have e:QY (some (x:Int)) (y:Int)=((max x y:Nat):Int):=by
   show(if (y:Int)>(x:Int)then (y:Int)else (x:Int))=_
   split<;>omega
  rw[e];exact Zbd r (max x y)
theorem Zi0(r:RT):(1:Int)+(VD none (((WM r).map RT.depth).map fun n=>((n:Nat):Int))).getD 0=((r.depth:Nat):Int):=by
 have one:∀k:Nat,(1:Int)+(VD none ([k].map fun n=>((n:Nat):Int))).getD 0=((1+k:Nat):Int):=fun k=>by
  show(1:Int)+(k:Int)=_;lia
 have c:∀k m:Nat,(1:Int)+(VD none ([k,m].map fun n=>((n:Nat):Int))).getD 0=((1+max k m:Nat):Int):=fun k m=>by
  show(1:Int)+(VD (some (k:Int)) ([m].map fun n=>((n:Nat):Int))).getD 0=_;rw[Zbd];show(1:Int)+((max k m:Nat):Int)=_;lia
 cases r with
 |always=>rfl
 |week b=>rfl
 |each n f=>rfl
 |span a b r1=>exact one _
 |but ds r1=>exact one _
 |either r1 e=>exact c _ _
 |both r1 e=>exact c _ _
inductive Zi1(c:RC)(K:Ow)(n:Nat)(vs:List V)(H:Hp)(Q:VK)(_e3:XK):Prop|mk (a:Addr) (r:RT) (_:vs=[.ref a]) (_:ZQ c K H a r) (_:r.depth<=n) (_:∀H',Zc H H'->Q (.int (r.depth:Nat)) H')
theorem Zi2(c:Zv K mg t):∀n:Nat,Zn P w K mg base Zo (n+1) t.UM t.kL ["self"] (Zi1 (rc t) K n):=by
 intro n
 induction n with
 |zero =>
  refine c.Jp.F.ok uM (fun G H Q E h=>?_) (fun U A outer s H G Q E y h=>?_)
  ·obtain⟨a,r,rfl,_⟩:=h
   rfl
  ·obtain⟨a,r,rfl,h,hd,_⟩:=h
   have:=r.depth_pos;lia
 |succ n ih =>
 refine c.Jp.F.ok uM (by lia) fun U A outer s H G Q E y h=>?_;obtain⟨a,r,rfl,h,hd,b0⟩:=h;refine⟨_,(Zi (ZA (Ze Z2 Zb (Zev R R c.G9 G6 (YM (VC (cl:=[]) (N:=["part"]) (fr:=[none]) R (WB (E7 (pv 0))) R (by lia) R (by lia) trivial trivial R (fun _ _ _ _ _=>LP (i:=0) (E5 _) R (Or.inl R)) (fun _ _ _ _ _=>V0) (fun _ _ _ _ _=>Za8 P w K mg base (n+1) (y.mono (by lia)) (pv 0))) Xl) (zZ Zb zY))))),?_⟩;sleep 1;obtain⟨C,L,fs,e0,fd,sp,l,lk,cl,me,F,hb,pp⟩:=Za7 (P:=P) (w:=w) (mg:=mg) (base:=base) c h;refine⟨_,R,a,C,L,fs,e0,fd,_,_,sp,Zo,E0,R,l,lk,cl,me,F,y.mono (by lia),hb,Zl,pp _ fun p xs hp x=>?_⟩;obtain⟨hl,T⟩:=Zbb x;have kl:=Zba r;have D:Zc H (upd H p (.lst xs)):=Zu hp _;refine⟨p,R,⟨xs,Zf.of Zg⟩,Uj (K:=K) (a:=p) (xs:=xs) (fun i g q u=>Zc (upd H p (.lst xs)) u/\g=(((WM r).take i).map fun k=>V.int (k.depth:Nat))/\∃v,q=[v])
  ⟨Zc.refl _,R,_,R⟩ (by show xs.length<=sizeLine;exact Sh (by lia) (show 2<=sizeLine by lia)) (fun i g q u _ ⟨f,_⟩=>Zf.of (f _ _ Zg)) ?_ ?_⟩
 ·rintro i a0 g q u ha x ⟨f,e,v,rfl⟩
  obtain⟨j,k,rfl,B,S⟩:=T i a0 x;have km:k∈WM r:=SK B;have kd:=Za9 km;dsimp only[Xw,VB];rw[SW R];have J:=S.same (D.trans f);obtain⟨C2,d0,O,l2,Y,_,⟨f0,c0⟩⟩:=Lp c J;refine⟨_,R,j,C2,d0,O,_,_,_,_,R,l2,f0,Y,c0,ih,c.Jp.b,j,k,R,J,by lia,fun H3 X=>⟨?_,f.trans X,?_,_,R⟩⟩
  ·rw[Su,Sw];lia
  ·rw[e,S0,B]
   simp
 ·rintro g q u ha ⟨f,e,v,rfl⟩ p3 g3
  have M:g=((((WM r).map RT.depth).map fun n=>((n:Nat):Int)).map V.int):=by
   rw[e,hl,List.take_length,Oe,Oe];rfl
  have Z:=(D.trans f).trans (Zu g3 (.lst g));have I:=b0 _ Z;rw[<-Zi0 r]at I;exact⟨p3,_,0,R,R,Zf.of (by rw[Zg,M]),_,_,R,R,I⟩
inductive Zi3(c:RC)(K:Ow)(vs:List V)(H:Hp)(Q:VK)(_e3:XK):Prop|mk (a:Addr) (r:RT) (_:vs=[.ref a]) (_:ZQ c K H a r) (_:r.weight<=15) (_:r.depth<=8) (_:∀H',Zc H H'->Q .non H')
theorem Lq(c:Zv K mg t):Zn P w K mg base Zo 10 t.qP t.qQ ["rule"] (Zi3 (rc t) K):=by
 refine c.Jl.F.ok ZgB (by lia) fun v A outer s H u Q E j h=>?_;obtain⟨a,r,rfl,h,y,hd,q⟩:=h;refine⟨_,(Zh (ZN (Yy D4 (E7 (pv 0)) (YA R c.Zhv)) (Zi Y9) ZP) (Zi (ZN (Yy D4 (E7 (pv 0)) (YA R c.Zhw)) (Zi Y9) ZP))),?_⟩;sleep 2;obtain⟨C,e,fs,l,cl,⟨f,me⟩,_⟩:=Lp c h;refine⟨_,R,a,C,e,fs,_,_,_,_,_,Zo,E0,R,l,f,cl,me,ZiZ c 8,j.mono (by lia),c.Jo.b,Zl,a,r,R,h,hd,by lia,fun x i=>?_⟩;refine⟨_,_,R,R,_,R,Zp (by rw[SR (by lia)];lia) ?_⟩;sleep 1;have g:=h.same i;obtain⟨C,e,fs,l,cl,_,⟨f,me⟩⟩:=Lp c g;refine⟨_,R,a,C,e,fs,_,_,_,_,_,Zo,E0,R,l,f,cl,me,Zi2 c 8,j.mono (by lia),c.Jp.b,Zl,a,r,R,g,hd,fun n s2=>?_⟩;exact⟨_,_,R,R,_,R,Zp (by rw[SR (by lia)];lia) (q n (i.trans s2))⟩
inductive WN(c:RC)(K:Ow)(q:RT->Prop)(n:Nat)(vs:List V)(H:Hp)(Q:VK)(_e3:XK):Prop|mk (a:Addr) (r:RT) (_:vs=[.ref a]) (_:ZQ c K H a r) (_:q r) (_:r.good) (_:r.weight<=15) (_:r.depth<=8) (_:r.depth<=n) (_:∀b H',Zc H H'->ZQ c K (YZ H' H) b r->Q (.ref b) H')
structure VJ(P:Program)(w:World)(K:Ow)(mg:Ov)(base:Heap)(t:Yd)(n:Nat):Prop where
 rule:Zn P w K mg base Zo (4*n+10) t.PN t.PP ["self"] (WN (rc t) K Lm n)
 week:Zn P w K mg base Zo (4*n+10) t.PV t.PX ["self"] (WN (rc t) K Ln n)
 span:Zn P w K mg base Zo (4*n+10) t.P1 t.P2 ["self"] (WN (rc t) K Jz n)
 each:Zn P w K mg base Zo (4*n+10) t.P6 t.P7 ["self"] (WN (rc t) K Lo n)
 either:Zn P w K mg base Zo (4*n+10) t.Rb t.Rc ["self"] (WN (rc t) K JA n)
 both:Zn P w K mg base Zo (4*n+10) t.Rh t.Ri ["self"] (WN (rc t) K JB n)
 but:Zn P w K mg base Zo (4*n+10) t.Rm t.Ro ["self"] (WN (rc t) K JC n)
theorem VJ.at(R:VJ P w K mg base t n)(c:Zv K mg t){r:RT}(h:ZQ (rc t) K H a r)(g:r.good)(i:r.weight<=15)(hd:r.depth<=8)(hn:r.depth<=n) :
  ∃(C x:Addr) (fs:List (Str×V)) (f:Addr) (fd:OI) (sp:Sp),H a=some (.ins C x fs)/\fs.lookup ("copied" : Str)=none/\Yz K C/\Yu K C "copied" f/\Zn P w K mg base Zo (4*n+10) f fd ["self"] sp/\Xm K fd ["self"] [] /\
   ∀(Q:VK),(∀b j,Zc H j->ZQ (rc t) K (YZ j H) b r->Q (.ref b) j)->sp [.ref a] H Q E0:=by
 cases h with
 |always h=>exact⟨_,_,_,_,_,_,h,rfl,c.Jw,c.RE.me,R.rule,c.RE.b,fun Q q=>⟨a,_,rfl,.always h,trivial,g,i,hd,hn,q⟩⟩
 |week h D=>exact⟨_,_,_,_,_,_,h,rfl,c.Qc,c.RH.me,R.week,c.RH.b,fun Q q=>⟨a,_,rfl,.week h D,trivial,g,i,hd,hn,q⟩⟩
 |span h G y e=>exact⟨_,_,_,_,_,_,h,rfl,c.WK,c.K6.me,R.span,c.K6.b,fun Q q=>⟨a,_,rfl,.span h G y e,trivial,g,i,hd,hn,q⟩⟩
 |each h B E u=>exact⟨_,_,_,_,_,_,h,rfl,c.V8,c.RM.me,R.each,c.RM.b,fun Q q=>⟨a,_,rfl,.each h B E u,trivial,g,i,hd,hn,q⟩⟩
 |either h e v=>exact⟨_,_,_,_,_,_,h,rfl,c.Vo,c.K8.me,R.either,c.K8.b,fun Q q=>⟨a,_,rfl,.either h e v,trivial,g,i,hd,hn,q⟩⟩
 |both h e v=>exact⟨_,_,_,_,_,_,h,rfl,c.Vp,c.La.me,R.both,c.La.b,fun Q q=>⟨a,_,rfl,.both h e v,trivial,g,i,hd,hn,q⟩⟩
 |but h u e=>exact⟨_,_,_,_,_,_,h,rfl,c.VI,c.Lc.me,R.but,c.Lc.b,fun Q q=>⟨a,_,rfl,.but h u e,trivial,g,i,hd,hn,q⟩⟩
theorem Zi4(c:Zv K mg t)(h:ZQ (rc t) K H a r):∃C,X2 K H (.ref a) (.ref C)/\W.kitOne K (.ref C) (.ref t.XN)=some true:=by
 cases h with
 |always h=>exact⟨_,c.ZhZ.ty c.Jw h,c.Zh0⟩
 |week h n=>exact⟨_,c.Zh1.ty c.Qc h,c.Zh2⟩
 |span h u i e=>exact⟨_,c.Zh3.ty c.WK h,c.Zh4⟩
 |each h j q f=>exact⟨_,c.Zh5.ty c.V8 h,c.Zh6⟩
 |either h e g=>exact⟨_,c.Zh7.ty c.Vo h,c.Zh8⟩
 |both h e g=>exact⟨_,c.Zh9.ty c.Vp h,c.Zia⟩
 |but h f e=>exact⟨_,c.Zib.ty c.VI h,c.Zic⟩
inductive Zi5(c:RC)(K:Ow)(n:Nat)(vs:List V)(H:Hp)(Q:VK)(_e3:XK):Prop|mk (a:Addr) (r:RT) (_:vs=[.ref a]) (_:ZQ c K H a r) (_:r.good) (_:r.weight<=15) (_:r.depth<=8) (_:r.depth<=n) (_:∀b H',Zc H H'->ZQ c K (YZ H' H) b r->Q (.ref b) H')
theorem QF(c:Zv K mg t)(n:Nat)(R:VJ P w K mg base t n):Zn P w K mg base Zo (4*n+11) t.Pz t.PB ["rule"] (Zi5 (rc t) K n):=by
 refine c.UN.F.ok ZgA (by lia) fun y A outer s H x Q E u h=>?_;obtain⟨a,r,rfl,h,g,j,hd,hn,q⟩:=h;refine⟨_,(Zh (ZN (YE (YD (ZM Zd9 c.YR YQ (Zm (pv 0) (X4 rfl c.Tl))))) (Zi Y9) ZP) (Zi (ZA (E7 (pv 0))))),?_⟩;sleep 2;obtain⟨B,ty,i⟩:=Zi4 c h;refine⟨_,rfl,.ref a,t.XN,_,_,rfl,ty,i,_,rfl,Zp (by lia) ?_⟩;sleep 1;obtain⟨C,e,fs,f,v,sp,g1,g2,g3,g4,g5,g6,g7⟩:=R.at c h g j hd hn;exact⟨_,rfl,a,C,e,fs,f,v,_,_,sp,Zo,E0,rfl,g1,g2,g3,g4,g5,u.mono (by lia),g6,Zl,g7 _ q⟩
theorem JE(f:Str)(v:V):(ZV f v []).length<1000:=Sj (QT _ _ _) (by lia)
theorem Zi6(f g:Str)(v u:V):(ZV f v (ZV g u [])).length<1000:=Sj (QT _ _ _) (Sj (Nat.succ_le_succ (QT _ _ _)) (by lia))
structure B2(H0 H:Hp)(x C:Addr):Prop where
 no:H0 x=none
 sm:Zc H0 H
 at_:∃dx,H x=some (.ins C dx [])
inductive Zbe(c:RC)(K:Ow)(vs:List V)(H:Hp)(Q:VK)(_e3:XK):Prop|mk (x:Addr) (H0:Hp) (b:Nat) (_:vs=[.ref x,.int b]) (_:B2 H0 H x c.week) (_:b<=127) (_:∀H',Zc H0 H'->ZQ c K (YZ H' H0) x (.week b)->Q .non H')
inductive Zbf(c:RC)(K:Ow)(vs:List V)(H:Hp)(Q:VK)(_e3:XK):Prop|mk (x l:Addr) (H0:Hp) (n:Nat) (ss:OF) (_:vs=[.ref x,.int n,.ref l]) (_:B2 H0 H x c.each) (_:H0 l=some (.lst (Yx ss))) (_:(RT.each n ss).good) (_:∀H',Zc H0 H'->ZQ c K (YZ H' H0) x (.each n ss)->Q .non H')
inductive Zbg(c:RC)(K:Ow)(n:Nat)(vs:List V)(H:Hp)(Q:VK)(_e3:XK):Prop|mk (x i:Addr) (H0:Hp) (a b:Nat) (r:RT) (_:vs=[.ref x,.int a,.int b,.ref i]) (_:B2 H0 H x c.span) (_:ZQ c K H0 i r) (_:(RT.span a b r).good) (_:(RT.span a b r).weight<=15) (_:(RT.span a b r).depth<=8) (_:r.depth<=n) (_:∀H',Zc H0 H'->ZQ c K (YZ H' H0) x (.span a b r)->Q .non H')
inductive Zbh(c:RC)(K:Ow)(n:Nat)(vs:List V)(H:Hp)(Q:VK)(_e3:XK):Prop|mk (x l i:Addr) (H0:Hp) (ds:OF) (r:RT) (_:vs=[.ref x,.ref l,.ref i]) (_:B2 H0 H x c.but) (_:H0 l=some (.lst (Yx ds))) (_:ZQ c K H0 i r) (_:(RT.but ds r).good) (_:(RT.but ds r).weight<=15) (_:(RT.but ds r).depth<=8) (_:r.depth<=n) (_:∀H',Zc H0 H'->ZQ c K (YZ H' H0) x (.but ds r)->Q .non H')
inductive Lr(c:RC)(K:Ow)(n:Nat)(C:Addr)(mk:RT->RT->RT)(vs:List V)(H:Hp)(Q:VK)(_e3:XK):Prop|mk (x i j:Addr) (H0:Hp) (r s:RT) (_:vs=[.ref x,.ref i,.ref j]) (_:B2 H0 H x C) (_:ZQ c K H0 i r) (_:ZQ c K H0 j s) (_:(mk r s).good) (_:(mk r s).weight<=15) (_:(mk r s).depth<=8) (_:r.depth<=n) (_:s.depth<=n) (_:∀H',Zc H0 H'->ZQ c K (YZ H' H0) x (mk r s)->Q .non H')
theorem Zbi(c:Zv K mg t):Zn P w K mg base Zo 3 t.Kv t.PU ["self","bits"] (Zbe (rc t) K):=by
 refine c.RG.F.ok ZgM (by lia) fun y A outer s H u Q E j h=>?_;obtain⟨x,v,b,rfl,⟨e,f,g,n⟩,i,q⟩:=h;refine⟨_,(Zh (ZN (YE (YD (ZB c.Qb (QD c) j Zl (Ys (pv 1) Zb (YA R c.Zht))))) (Zi Y9) ZP) (Zi (XG (pv 0) (pv 1) R))),?_⟩;sleep 2;refine⟨_,R,.int b,0,127,"int",R,.int _,_,R,Zp (by rw[U5 (by lia) (by lia)];lia) ?_⟩;sleep 1;exact⟨_,R,_,R,x,_,g,[],R,n,c.Qc,c.Te,by lia,q _ (XI e f _) (.week (V4 e Zg) i)⟩
theorem Zbj(c:Zv K mg t):Zn P w K mg base Zo 4 t.Ky t.P5 ["self","length","starts"] (Zbf (rc t) K):=by
 refine c.RL.F.ok ZgR (by lia) fun O A outer s H S Q E v h=>?_;obtain⟨x,l,G,n,D,rfl,⟨j,B,e,M⟩,u,⟨I,J,g⟩,q⟩:=h;refine⟨_,(Zh (ZN (YE (YD (ZB c.Qb (QD c) v Zl (Ys (pv 1) Zb (YA R c.Zhu))))) (Zi Y9) ZP) (Zh (ZN (YE (YD (ZB c.K2 (To c) v Zl (Wz (pv 2) (YA R c.Zay) Zb (Ze Ws (pv 1) Zb))))) (Zi Y9) ZP) (Zh (XG (pv 0) (pv 1) R) (Zi (XG (pv 0) (Yw D8 R c.Qy Qx (Zk (pv 2))) R))))),?_⟩;sleep 4;refine⟨_,R,.int n,1,28,"int",R,.int _,_,R,Zp (by rw[U5 (by lia) (by lia)];lia) ?_⟩;sleep 1;refine⟨_,R,_,R,_,_,R,R,l,D,12,0,_,R,B _ _ u,g.one,g.few,g.up,fun y L=>⟨Sk _,by have:=(g.all y L).2;lia⟩,_,R,Zp (by lia) ?_⟩;refine⟨_,R,_,R,x,_,e,[],R,M,c.V8,c.Th,by lia,?_⟩;have f:=XI j B (.ins t.WI e (ZV "length" (.int n) []));refine⟨_,R,l,_,R,.inl ⟨Zf.of (f _ _ u),fun p i=>?_⟩⟩;have np:p≠x:=fun z=>by rw[z,Zg]at i;cases i
 have C:G p=none:=f.free i;refine⟨_,R,x,_,e,_,R,(by rw[Zd np.symm];exact Zg),c.V8,c.Ti,JE _ _,?_⟩;refine q _ (XI j (XI C f _) _) (.each (V4 j Zg) I J (Zj.of (V4 C (by rw[Zd np];exact Zg))))
theorem Ls(h:Zc f c)(i:c x=some j)(o:HO):Zc (YZ g c) (YZ (upd g x o) f) :=
 F1 h fun a u n e=>by rw[Zd (fun z=>by rw[z,i]at n;cases n)];exact e
theorem Lu(s:Zc f c):Zc (YZ f g) (YZ c g):=fun a o e=>V4 (Q0 e).1 (s _ _ (Q0 e).2)
theorem Zbk(e:Zv K mg t)(n:Nat)(R:VJ P w K mg base t n):Zn P w K mg base Zo (4*n+12) t.Kw t.P0 ["self","first","last","rule"] (Zbg (rc t) K n):=by
 refine e.RJ.F.ok ZgP (by lia) fun U A outer s H Z Q a0 j h=>?_;obtain⟨x,i,C,a,b,r,rfl,⟨u,S,f,M⟩,B,⟨E,I,g⟩,L,hd,hn,q⟩:=h;have X:(RT.span a b r).weight=1+r.weight:=rfl;have Y:(RT.span a b r).depth=1+r.depth:=rfl;refine⟨_,(Zh (ZN (YE (YD (ZB e.Qb (QD e) j Zl (Ys (pv 1) Zb (YA rfl e.I0))))) (Zi Y9) ZP) (Zh (ZN (YE (YD (ZB e.Qb (QD e) j Zl (Ys (pv 2) (pv 1) (YA rfl e.I0))))) (Zi Y9) ZP) (Zh (XG (pv 0) (pv 1) rfl) (Zh (XG (pv 0) (pv 2) rfl) (Zh (XG (pv 0) (ZB e.UN (QF e n R) j Zl (Zk (pv 3))) rfl) (Zi (Z3 (ZB e.Jl (Lq e) j Zl (Zk (pv 0)))))))))),?_⟩;sleep 6;refine⟨_,rfl,.int a,0,9999,"int",rfl,.int _,_,rfl,Zp (by rw[U5 (by lia) (by lia)];lia) ?_⟩;sleep 1;refine⟨_,rfl,_,rfl,.int b,(a:Nat),9999,"int",rfl,.int _,_,rfl,Zp (by rw[U5 (by lia) (by lia)];lia) ?_⟩;refine⟨_,rfl,_,rfl,x,_,f,[],rfl,M,e.WK,e.Tf,by lia,?_⟩;have D:=XI u S (.ins t.XX f (ZV "first" (.int a) []));refine⟨_,rfl,_,rfl,x,_,f,_,rfl,Zg,e.WK,e.Tg,JE _ _,?_⟩;have s2:=XI u D (.ins t.XX f (ZV "last" (.int b) (ZV "first" (.int a) [])));refine⟨_,rfl,i,r,rfl,B.same s2,g,by lia,by lia,hn,fun c O y G=>?_⟩;refine⟨_,rfl,x,_,f,_,rfl,y _ _ Zg,e.WK,e.Le,Zi6 _ _ _ _,?_⟩;have J:=XI u (s2.trans y) (.ins t.XX f (ZV "inner" (.ref c) (ZV "last" (.int b) (ZV "first" (.int a) []))));have v:ZQ (rc t) K (YZ (upd O x (.ins t.XX f (ZV "inner" (.ref c) (ZV "last" (.int b) (ZV "first" (.int a) []))))) C) x (.span a b r) :=
  .span (V4 u Zg) E I (G.same (Ls s2 Zg _))
 exact⟨_,rfl,x,_,rfl,v.same (V5 _ _),L,hd,fun T s5=>q T (J.trans s5) (v.same (Lu s5))⟩
theorem Zbl(e:Zv K mg t)(n:Nat)(R:VJ P w K mg base t n):Zn P w K mg base Zo (4*n+12) t.KB t.Rl ["self","days","rule"] (Zbh (rc t) K n):=by
 refine e.RS.F.ok ZgY (by lia) fun Z A outer s b0 vs a0 c0 C h=>?_;obtain⟨x,l,i,E,ds,r,rfl,⟨D,u,f,H⟩,J,M,⟨j,g⟩,X,hd,hn,q⟩:=h;have ew:(RT.but ds r).weight=1+r.weight:=rfl;have ed:(RT.but ds r).depth=1+r.depth:=rfl;refine⟨_,(Zh (ZN (YE (YD (ZB e.K2 (To e) C Zl (Wz (pv 1) (YA rfl e.Zay) Zb (YA rfl e.I0))))) (Zi Y9) ZP) (Zh (XG (pv 0) (Yw D8 rfl e.Qy Qx (Zk (pv 1))) rfl) (Zh (XG (pv 0) (ZB e.UN (QF e n R) C Zl (Zk (pv 2))) rfl) (Zi (Z3 (ZB e.Jl (Lq e) C Zl (Zk (pv 0)))))))),?_⟩;sleep 4;refine⟨_,rfl,l,ds,12,0,_,rfl,u _ _ J,j.one,j.few,j.up,fun y T=>⟨Sk _,by have:=(j.all y T).2;lia⟩,_,rfl,Zp (by lia) ?_⟩;sleep 1;refine⟨_,rfl,l,_,rfl,.inl ⟨Zf.of (u _ _ J),fun p B=>?_⟩⟩;have np:p≠x:=fun z=>by rw[z,H]at B;cases B
 have L:E p=none:=u.free B;have O:=XI L u (.tup (Yx ds));refine⟨_,rfl,x,_,f,[],rfl,(by rw[Zd np.symm];exact H),e.VI,e.Tj,by lia,?_⟩;have s2:=XI D O (.ins t.Wk f (ZV "days" (.ref p) []));refine⟨_,rfl,i,r,rfl,M.same s2,g,by lia,by lia,hn,fun c I v Q=>?_⟩;refine⟨_,rfl,x,_,f,_,rfl,v _ _ Zg,e.VI,e.Lj,JE _ _,?_⟩;have U:=XI D (s2.trans v) (.ins t.Wk f (ZV "inner" (.ref c) (ZV "days" (.ref p) [])));have S:I p=some (.tup (Yx ds)):=v _ _ (by rw[Zd np];exact Zg);have G:ZQ (rc t) K (YZ (upd I x (.ins t.Wk f (ZV "inner" (.ref c) (ZV "days" (.ref p) [])))) E) x (.but ds r) :=
  .but (V4 D Zg) (Zj.of (V4 L (by rw[Zd np];exact S))) (Q.same (Ls s2 Zg _))
 exact⟨_,rfl,x,_,rfl,G.same (V5 _ _),X,hd,fun Y s5=>q Y (U.trans s5) (G.same (Lu s5))⟩
theorem Zbm(f:Zv K mg t)(n:Nat)(R:VJ P w K mg base t n):Zn P w K mg base Zo (4*n+12) t.Kz t.Ra ["self","one","other"] (Lr (rc t) K n t.XO .either):=by
 refine f.RO.F.ok ZgU (by lia) fun b0 A outer s a0 vs c0 e0 y h=>?_;obtain⟨x,i,j,E,r,u,rfl,⟨C,B,g,I⟩,O,Y,⟨g1,g2⟩,T,hd,L,U,q⟩:=h;have ew:(RT.either r u).weight=1+(r.weight+u.weight):=rfl;have ed:(RT.either r u).depth=1+max r.depth u.depth:=rfl;refine⟨_,(Zh (XG (pv 0) (ZB f.UN (QF f n R) y Zl (Zk (pv 1))) rfl) (Zh (XG (pv 0) (ZB f.UN (QF f n R) y Zl (Zk (pv 2))) rfl) (Zi (Z3 (ZB f.Jl (Lq f) y Zl (Zk (pv 0))))))),?_⟩;sleep 3;refine⟨_,rfl,i,r,rfl,O.same B,g1,by lia,by lia,L,fun c X D M=>?_⟩;refine⟨_,rfl,x,_,g,_,rfl,D _ _ I,f.Vo,f.Lf,by lia,?_⟩;have s2:=XI C (B.trans D) (.ins t.XO g (ZV "one" (.ref c) []));refine⟨_,rfl,j,u,rfl,Y.same s2,g2,by lia,by lia,U,fun d J v Q=>?_⟩;refine⟨_,rfl,x,_,g,_,rfl,v _ _ Zg,f.Vo,f.Lg,JE _ _,?_⟩;have S:=XI C (s2.trans v) (.ins t.XO g (ZV "other" (.ref d) (ZV "one" (.ref c) [])));have Z:Zc (YZ X a0) (YZ (upd J x (.ins t.XO g (ZV "other" (.ref d) (ZV "one" (.ref c) [])))) E):=F1 B fun a d0 H e=>by
  have ne:a≠x:=fun z=>by rw[z,I]at H;cases H
  rw[Zd ne];exact v _ _ (by rw[Zd ne];exact e)
 have G:ZQ (rc t) K (YZ (upd J x (.ins t.XO g (ZV "other" (.ref d) (ZV "one" (.ref c) [])))) E) x (.either r u) :=
  .either (V4 C Zg) (M.same Z) (Q.same (Ls s2 Zg _))
 exact⟨_,rfl,x,_,rfl,G.same (V5 _ _),T,hd,fun H5 s5=>q H5 (S.trans s5) (G.same (Lu s5))⟩
theorem Zbn(f:Zv K mg t)(n:Nat)(R:VJ P w K mg base t n):Zn P w K mg base Zo (4*n+12) t.KA t.Rg ["self","one","other"] (Lr (rc t) K n t.XP .both):=by
 refine f.RQ.F.ok ZgW (by lia) fun b0 A outer s a0 vs c0 e0 y h=>?_;obtain⟨x,i,j,E,r,u,rfl,⟨C,B,g,I⟩,O,Y,⟨g1,g2⟩,T,hd,L,U,q⟩:=h;have ew:(RT.both r u).weight=1+(r.weight+u.weight):=rfl;have ed:(RT.both r u).depth=1+max r.depth u.depth:=rfl;refine⟨_,(Zh (XG (pv 0) (ZB f.UN (QF f n R) y Zl (Zk (pv 1))) rfl) (Zh (XG (pv 0) (ZB f.UN (QF f n R) y Zl (Zk (pv 2))) rfl) (Zi (Z3 (ZB f.Jl (Lq f) y Zl (Zk (pv 0))))))),?_⟩;sleep 3;refine⟨_,rfl,i,r,rfl,O.same B,g1,by lia,by lia,L,fun c X D M=>?_⟩;refine⟨_,rfl,x,_,g,_,rfl,D _ _ I,f.Vp,f.Lh,by lia,?_⟩;have s2:=XI C (B.trans D) (.ins t.XP g (ZV "one" (.ref c) []));refine⟨_,rfl,j,u,rfl,Y.same s2,g2,by lia,by lia,U,fun d J v Q=>?_⟩;refine⟨_,rfl,x,_,g,_,rfl,v _ _ Zg,f.Vp,f.Li,JE _ _,?_⟩;have S:=XI C (s2.trans v) (.ins t.XP g (ZV "other" (.ref d) (ZV "one" (.ref c) [])));have Z:Zc (YZ X a0) (YZ (upd J x (.ins t.XP g (ZV "other" (.ref d) (ZV "one" (.ref c) [])))) E):=F1 B fun a d0 H e=>by
  have ne:a≠x:=fun z=>by rw[z,I]at H;cases H
  rw[Zd ne];exact v _ _ (by rw[Zd ne];exact e)
 have G:ZQ (rc t) K (YZ (upd J x (.ins t.XP g (ZV "other" (.ref d) (ZV "one" (.ref c) [])))) E) x (.both r u) :=
  .both (V4 C Zg) (M.same Z) (Q.same (Ls s2 Zg _))
 exact⟨_,rfl,x,_,rfl,G.same (V5 _ _),T,hd,fun H5 s5=>q H5 (S.trans s5) (G.same (Lu s5))⟩
theorem VL(nx:H x=none)(nd:H c=none):B2 H (upd (upd H c (.own x)) x (.ins C c [])) x C :=
 ⟨nx,XI nx (XI nd (Zc.refl _) _) _,c,Zg⟩
theorem Zbo(c:Zv K mg t)(n:Nat):Zn P w K mg base Zo (4*n+10) t.PN t.PP ["self"] (WN (rc t) K Lm n):=by
 refine c.RE.F.ok ZgJ (by lia) fun j A outer s H i Q E y h=>?_;obtain⟨a,r,rfl,h,e,g,u,hd,hn,q⟩:=h;refine⟨_,(Zi (ZA (xL c.ZaM R c.Tl))),?_⟩;sleep 1;cases h with
 |always h=>exact fun x f nx nd v=>q x _ (XI nx (XI nd (Zc.refl _) _) _) (.always (V4 nx Zg))
 |_=>exact e.elim
theorem Zbp(c:Zv K mg t)(n:Nat):Zn P w K mg base Zo (4*n+10) t.PV t.PX ["self"] (WN (rc t) K Ln n):=by
 refine c.RH.F.ok ZgN (by lia) fun B A outer s H G Q E i h=>?_;obtain⟨a,r,rfl,h,u,g,C,hd,hn,q⟩:=h;refine⟨_,(Zi (ZA (WT c.ZaN (Zbi c) (i.mono (by lia)) R c.ZaV c.RG.b .nil Zl (Zk (ZK (pv 0) R))))),?_⟩;sleep 1;cases h with
 |week h j=>exact⟨_,R,a,_,_,_,_,R,h,c.Qc,c.Te,R,fun x y nx nd D=>⟨x,H,_,R,VL nx nd,j,fun v f e=>⟨R,q x v f e⟩⟩⟩
 |_=>exact u.elim
theorem Zbq(c:Zv K mg t)(n:Nat):Zn P w K mg base Zo (4*n+10) t.P6 t.P7 ["self"] (WN (rc t) K Lo n):=by
 refine c.RM.F.ok ZgS (by lia) fun J A outer s H X Q E v h=>?_;obtain⟨a,r,rfl,h,C,g,L,hd,hn,q⟩:=h;refine⟨_,(Zi (ZA (WT c.ZaP (Zbj c) (v.mono (by lia)) R c.ZaX c.RL.b .nil Zl (Zm (ZK (pv 0) R) (Yw U1 R c.Wm Wj (Zk (ZK (pv 0) R))))))),?_⟩;sleep 1;cases h with
 |each h I S y =>
  rename_i O U T B;refine⟨_,R,a,_,_,_,_,R,h,c.V8,c.Th,R,_,R,a,_,_,_,_,R,h,c.V8,c.Ti,R,_,_,R,.inr y,fun l i x G nx nd M=>?_⟩;have f:=Zu i (.lst (Yx B));exact⟨x,l,_,_,_,R,VL nx nd,Zg,g,fun D u j=>⟨R,q x D (f.trans u) (j.same (F1 f fun _ _ _ e=>e))⟩⟩
 |_=>exact C.elim
theorem Zi7(c:Zv K mg t)(n:Nat)(R:VJ P w K mg base t n):Zn P w K mg base Zo (4*(n+1)+10) t.P1 t.P2 ["self"] (WN (rc t) K Jz (n+1)):=by
 refine c.K6.F.ok uN (by lia) fun L A outer s H U Q E C h=>?_;obtain⟨a,r,rfl,h,D,g,u,hd,hn,q⟩:=h;refine⟨_,(Zi (ZA (WT c.ZaO (Zbk c n R) (C.mono (by lia)) rfl c.ZaW c.RJ.b .nil Zl (Ys (ZK (pv 0) rfl) (ZK (pv 0) rfl) (ZK (pv 0) rfl))))),?_⟩;sleep 1;cases h with
 |span h S J f =>
  rename_i O i v j e;have T:(RT.span v j e).depth=1+e.depth:=rfl;exact⟨_,rfl,a,_,_,_,_,rfl,h,c.WK,c.Tf,rfl,_,rfl,a,_,_,_,_,rfl,h,c.WK,c.Tg,rfl,_,rfl,a,_,_,_,_,rfl,h,c.WK,c.Le,rfl,
   fun x I nx nd M=>⟨x,_,H,_,_,_,rfl,VL nx nd,f,g,u,hd,by lia,fun G B y=>⟨rfl,q x G B y⟩⟩⟩
 |_=>exact D.elim
theorem Zi8(c:Zv K mg t)(n:Nat)(R:VJ P w K mg base t n):Zn P w K mg base Zo (4*(n+1)+10) t.Rm t.Ro ["self"] (WN (rc t) K JC (n+1)):=by
 refine c.Lc.F.ok uT (by lia) fun O A outer s H Y Q E I h=>?_;obtain⟨a,r,rfl,h,J,g,y,hd,hn,q⟩:=h;refine⟨_,(Zi (ZA (WT c.ZaS (Zbl c n R) (I.mono (by lia)) rfl c.Za0 c.RS.b .nil Zl (Zm (Yw U1 rfl c.Wm Wj (Zk (ZK (pv 0) rfl))) (ZK (pv 0) rfl))))),?_⟩;sleep 1;cases h with
 |but h G v =>
  rename_i T X i u j;have U:(RT.but u j).depth=1+j.depth:=rfl;refine⟨_,rfl,a,_,_,_,_,rfl,h,c.VI,c.Tj,rfl,_,_,rfl,.inr G,fun l B=>?_⟩;have f:=Zu B (.lst (Yx u));exact⟨_,rfl,a,_,_,_,_,rfl,f _ _ h,c.VI,c.Lj,rfl,fun x M nx nd S=>⟨x,l,_,_,_,_,rfl,VL nx nd,Zg,v.same f,g,y,hd,by lia,fun L D C=>⟨rfl,q x L (f.trans D) (C.same (F1 f fun _ _ _ e=>e))⟩⟩⟩
 |_=>exact J.elim
theorem Zi9(c:Zv K mg t)(n:Nat)(R:VJ P w K mg base t n):Zn P w K mg base Zo (4*(n+1)+10) t.Rb t.Rc ["self"] (WN (rc t) K JA (n+1)):=by
 refine c.K8.F.ok uP (by lia) fun J A outer s H S Q E B h=>?_;obtain⟨a,r,rfl,h,C,g,u,hd,hn,q⟩:=h;refine⟨_,(Zi (ZA (WT c.ZaQ (Zbm c n R) (B.mono (by lia)) rfl c.ZaY c.RO.b .nil Zl (Zm (ZK (pv 0) rfl) (ZK (pv 0) rfl))))),?_⟩;sleep 1;cases h with
 |either h f G =>
  rename_i M i j e r1;have O:(RT.either e r1).depth=1+max e.depth r1.depth:=rfl;exact⟨_,rfl,a,_,_,_,_,rfl,h,c.Vo,c.Lf,rfl,_,rfl,a,_,_,_,_,rfl,h,c.Vo,c.Lg,rfl,
   fun x I nx nd L=>⟨x,_,_,H,_,_,rfl,VL nx nd,f,G,g,u,hd,by lia,by lia,fun D y v=>⟨rfl,q x D y v⟩⟩⟩
 |_=>exact C.elim
theorem Zja(c:Zv K mg t)(n:Nat)(R:VJ P w K mg base t n):Zn P w K mg base Zo (4*(n+1)+10) t.Rh t.Ri ["self"] (WN (rc t) K JB (n+1)):=by
 refine c.La.F.ok uR (by lia) fun J A outer s H S Q E B h=>?_;obtain⟨a,r,rfl,h,C,g,u,hd,hn,q⟩:=h;refine⟨_,(Zi (ZA (WT c.ZaR (Zbn c n R) (B.mono (by lia)) rfl c.ZaZ c.RQ.b .nil Zl (Zm (ZK (pv 0) rfl) (ZK (pv 0) rfl))))),?_⟩;sleep 1;cases h with
 |both h f G =>
  rename_i M i j e r1;have O:(RT.both e r1).depth=1+max e.depth r1.depth:=rfl;exact⟨_,rfl,a,_,_,_,_,rfl,h,c.Vp,c.Lh,rfl,_,rfl,a,_,_,_,_,rfl,h,c.Vp,c.Li,rfl,
   fun x I nx nd L=>⟨x,_,_,H,_,_,rfl,VL nx nd,f,G,g,u,hd,by lia,by lia,fun D y v=>⟨rfl,q x D y v⟩⟩⟩
 |_=>exact C.elim
theorem B3(c:Zv K mg t):∀n,VJ P w K mg base t n
 |0=>by
  have no:∀{q:RT->Prop},∀vs H Q E,WN (rc t) K q 0 vs H Q E->False:=fun vs H Q E h=>by
   obtain⟨a,r,rfl,h,j,g,u,hd,hn,_⟩:=h;have:=r.depth_pos;lia
  exact⟨Zbo c 0,Zbp c 0,
   c.K6.F.ok uN (fun vs H Q E h=>(no vs H Q E h).elim) (fun f A outer s H vs Q E i h=>(no vs H Q E h).elim),Zbq c 0,
   c.K8.F.ok uP (fun vs H Q E h=>(no vs H Q E h).elim) (fun f A outer s H vs Q E i h=>(no vs H Q E h).elim),
   c.La.F.ok uR (fun vs H Q E h=>(no vs H Q E h).elim) (fun f A outer s H vs Q E i h=>(no vs H Q E h).elim),
   c.Lc.F.ok uT (fun vs H Q E h=>(no vs H Q E h).elim) (fun f A outer s H vs Q E i h=>(no vs H Q E h).elim)⟩
 |n+1=>have e:=B3 c n
  ⟨Zbo c (n+1),Zbp c (n+1),Zi7 c n e,Zbq c (n+1),Zi9 c n e,Zja c n e,Zi8 c n e⟩
theorem Zjb(c:Zv K mg t):Zn P w K mg base Zo 40 t.Kw t.P0 ["self","first","last","rule"] (Zbg (rc t) K 7):=Zbk c 7 (B3 c 7)
theorem Zjc(c:Zv K mg t):Zn P w K mg base Zo 40 t.KB t.Rl ["self","days","rule"] (Zbh (rc t) K 7):=Zbl c 7 (B3 c 7)
theorem Zjd(c:Zv K mg t):Zn P w K mg base Zo 40 t.Kz t.Ra ["self","one","other"] (Lr (rc t) K 7 t.XO .either):=Zbm c 7 (B3 c 7)
theorem Zje(c:Zv K mg t):Zn P w K mg base Zo 40 t.KA t.Rg ["self","one","other"] (Lr (rc t) K 7 t.XP .both):=Zbn c 7 (B3 c 7)
theorem Zjf(c:Zv K mg t):Zn P w K mg base Zo 40 t.Kv t.PU ["self","bits"] (Zbe (rc t) K):=(Zbi c).mono (by lia)
theorem Zjg(c:Zv K mg t):Zn P w K mg base Zo 40 t.Ky t.P5 ["self","length","starts"] (Zbf (rc t) K):=(Zbj c).mono (by lia)
def tx(l:OF):Str:=⟨l.toArray⟩
theorem V9(l:OF):(tx l).length=l.length:=by show l.toArray.size=_;rw[SN]
theorem Lv(a b:OF):tx a++tx b=tx (a++b):=by
 show Str.mk (a.toArray++b.toArray)=_;rw[List.append_toArray];rfl
theorem JF(l:OF):(tx l).cps.toList=l:=by show l.toArray.toList=l;rfl
theorem Zjh(h:tx a=tx b):a=b:=by
 have:=congrArg (fun z:Str=>z.cps.toList) h
 rwa [JF,JF]at this
theorem Zbr:∀l:List Nat,Str.join (OJ "") (l.map fun c=>tx [c])=tx l
 |[]=>rfl
 |c::l=>by
  rw[SM,show OJ "" = (⟨#[]⟩:Str)from R,PyProof.Rows.join_nil_cons];have e:=Zbr l;rw[show OJ "" = (⟨#[]⟩:Str)from R]at e;rw[e,Lv];rfl
theorem Zbs:∀i:Nat,i<26->Y6 (OJ "abcdefghijklmnopqrstuvwxyz").cps.toList (i:Int)=some (97+i):=by lia
theorem Zji(l:OF)(h:l.length<=20):((l.map fun c=>tx [c]).map fun x=>x.length+(OJ "").length).sum<=sizeLine :=
 Ze5 (m:=0) (by lia) (by rw[Sv];exact h) fun x e=>by
  obtain⟨c,_,rfl⟩:=SJ.mp e;rw[V9,Sw];lia
structure Yh where
 nm:Str
 z:Nat
 ch:Nat
structure Cl where
 st:Str
 ar:Nat
 lv:Nat
def Yp(H:Hp)(v:V)(c:Cl):Prop:=∃p,v=.ref p/\H p=some (.tup [.str c.st,.int (c.ar:Nat),.int (c.lv:Nat)])
theorem Yp.same(s:Zc H f)(h:Yp H v c):Yp f v c:=let ⟨p,e,h⟩:=h;⟨p,e,s _ _ h⟩
def Zbt(c k:Int):Int:=(c%1000000007+7919*k+13)*(c%1000000007+7919*k+13)%1000000007*(c%1000000007+7919*k+13)%998244353/11
def XZ(c k:Int):Nat:=(Zbt c k).toNat
theorem Zjj(c k:Int):Zbt c k=((XZ c k:Nat):Int):=by
 have e:∀z:Int,z%998244353/11=(((z%998244353/11).toNat:Nat):Int):=fun z=>by lia
 exact e _
theorem Tv(c k:Int):XZ c k<998244353:=by
 have e:∀z:Int,(z%998244353/11).toNat<998244353:=fun z=>by lia
 exact e _
inductive Zjk(vs:List V)(H:Hp)(Q:VK)(_e3:XK):Prop|mk (c k:Int) (_:vs=[.int c,.int k]) (_:0<=k) (_:k<=100000) (_:Q (.int (XZ c k:Nat)) H)
theorem VM(e:Zv K mg t):Zn P w K mg base Zo 1 t.jF t.jG ["_law_cell","_law_k"] Zjk:=by
 refine e.Vn.F.ok uJ (by lia) fun g A outer s H f Q E i h=>?_;obtain⟨c,k,rfl,k0,j,q⟩:=h;refine⟨_,(Zh (ZG 2 uJ.nd (Ze Z2 (Ze Z2 (Ze ZO (pv 0) Zb) (Ze VW Zb (pv 1))) Zb)) (Zi (ZA (Ze Yt (Ze ZO (Ze VW (Ze ZO (Ze VW (pv 2) (pv 2)) Zb) (pv 2)) Zb) Zb)))),?_⟩;sleep 2;have g1:0<=c%1000000007:=Int.emod_nonneg _ (by lia);have g2:c%1000000007<1000000007:=Int.emod_lt_of_pos _ (by lia);refine⟨_,R,_,_,R,R,(by show(0:Int)<1000000007;lia),_,R,_,_,R,R,.inl ⟨by lia,by lia⟩,_,_,R,R,_,_,R,R,?_⟩;refine⟨_,R,_,R,_,_,R,R,xH (by show 0<=c%1000000007+7919*k+13;lia) (by show c%1000000007+7919*k+13<_;lia),_,_,R,R,(by show(0:Int)<1000000007;lia),_,R,_,_,R,R,
  xH (by show 0<=c%1000000007+7919*k+13;lia) (by show c%1000000007+7919*k+13<_;lia),_,_,R,R,(by show(0:Int)<998244353;lia),_,_,R,R,⟨by lia,by lia⟩,?_⟩
 rw[<-Zjj c k]at q;exact q
inductive Zjl(K:Ow)(vs:List V)(H:Hp)(Q:VK)(_e3:XK):Prop|mk (a:Addr) (ns:OD) (k:Int) (_:vs=[.ref a,.int k]) (_:Zf K H a (ns.map V.int)) (_:0<=k) (_:∀d:Int,Q (.int d) H)
theorem Tw(f:Zv K mg t):Zn P w K mg base Zo 2 t.jD t.jE ["_law_script","_law_k"] (Zjl K):=by
 refine f.K4.F.ok ZgH (by lia) fun u A outer s H n Q E v h=>?_;obtain⟨a,ns,k,rfl,g,k0,q⟩:=h;refine⟨_,(Zh (ZN (Yy LY (pv 1) (ZM XH f.Xr Xq (Zk (pv 0)))) (Zi (ZA (Zs YL (pv 0) (pv 1)))) ZP) (Zi (ZA Zb))),?_⟩;sleep 2;refine⟨_,R,_,R,a,_,R,.inl g,_,_,R,R,_,R,?_⟩;refine WF (fun c=>?_) (fun c=>?_)
 ·sleep 1;have j:k<((ns.map V.int).length:Nat):=SS c
  rw[Sv]at j;have i:k.toNat<ns.length:=by lia
  have e:Y6 (ns.map V.int) ((k.toNat:Nat):Int)=some (.int ns[k.toNat]):=WU (by rw[Oa,Ss i];rfl);rw[show((k.toNat:Nat):Int)=k by lia]at e;exact⟨_,R,_,R,a,_,_,_,R,R,g,e,q _⟩
 ·sleep 1;exact q 0
def Wo(d n:Nat):List Nat:=(List.range n).map fun j=>97+XZ (d:Nat) ((20+j:Nat):Int)%26
theorem Qg(d n:Nat):(Wo d n).length=n:=by unfold Wo;rw[Sv,List.length_range]
theorem Zbu(d n:Nat):∀c∈Wo d n,97<=c/\c<=122:=fun c h=>by
 obtain⟨j,_,rfl⟩:=SJ.mp h;lia
def ZL(d k:Nat):Str:=tx ((Wo d (d%7)).take (d/7%(d%7+1))++[97+(d/56+3*k)%26]++(Wo d (d%7)).drop (d/7%(d%7+1)))
theorem Lw(d k:Nat):YO (ZL d k):=by
 unfold ZL;refine⟨?_,?_,fun c e=>?_,trivial⟩
 ·rw[V9,Su,Su,Sw];lia
 ·rw[V9,Su,Su,Sw,Sx,SA,Qg];lia
 ·rw[JF]at e
  rcases SG.mp e with e|e
  ·rcases SG.mp e with e|e
   ·exact Zbu d _ c (List.mem_of_mem_take e)
   ·rw[SE]at e;lia
  ·exact Zbu d _ c (List.mem_of_mem_drop e)
theorem Tz(c:i<j)(f:j<8):ZL d i≠ZL d j:=fun e=>by
 unfold ZL at e;have e:=Zjh e;rw[Od,Od]at e;have e:=List.append_cancel_left e;injection e with e _;lia
inductive Zjm(vs:List V)(H:Hp)(Q:VK)(_e3:XK):Prop|mk (d k:Nat) (_:vs=[.int d,.int k]) (_:k<=10) (_:∀H',Zc H H'->Q (.str (ZL d k)) H')
theorem Zjn(e:Zv K mg t):Zn P w K mg base Zo 2 t.jH t.jI ["_law_seed","_law_k"] Zjm:=by
 refine e.ZaG.F.ok Ks (by lia) fun S A outer s H U Q E L h=>?_;obtain⟨d,k,rfl,O,q⟩:=h;refine⟨_,(Zh (ZG 2 Ks.nd ZJ) (Zh (ZG 3 Ks.nd (U2 PySem.F.plainAttrs_str PySem.F.slot_str_join PySem.F.type_str_join Ze4 ZJ (Zk (VC (cl:=[(OJ "_law_seed",s.heap.objs.size+1),(OJ "_law_letters",s.heap.objs.size+2)]) (N:=["_law_j","_law_letters","_law_seed"]) (fr:=[none,some 2,some 0]) R (Ug R e.W3 (Zk (Ze ZO (pv 0) Zb))) R (by lia) R (by lia) ⟨⟨R,Or.inl R,Or.inl R,_,R,R⟩,⟨⟨R,Or.inl R,Or.inl R,_,R,R⟩,trivial⟩⟩ ⟨R,⟨R,trivial⟩⟩ R (fun _ _ _ _ _=>(Z0 0 (show List.Nodup (["_law_j","_law_letters","_law_seed"]:OB) by lia))) (fun _ _ _ _ _=>V0) (fun _ _ _ _ _=>(Zs yI (pv 1) (Ze ZO (ZB e.Vn (VM e) L Zl (Zm (pv 2) (Ze Z2 Zb (pv 0)))) Zb))))))) (Zh (ZG 4 Ks.nd (Ze ZO (Ze Yt (pv 0) Zb) (Ze Z2 (ZM yK e.Xr Xq (Zk (pv 3))) Zb))) (Zi (ZA (Ze zQ (Ze zQ (Qq yT (pv 3) QU (Uy (pv 4))) (Zs yI (pv 2) (Ze ZO (Ze Z2 (Ze Yt (pv 0) Zb) (Ze VW Zb (pv 1))) Zb))) (Qq yT (pv 3) (Uy (pv 4)) QU))))))),?_⟩;sleep 4;have C:(d:Int)%7=((d%7:Nat):Int):=by lia
 refine⟨R,_,R,_,_,R,R,(by show(0:Int)<7;lia),?_⟩;dsimp only;rw[C];refine⟨_,R,by lia,by lia,Mt (fun i u j x=>x=H/\u=((Wo d i).map fun c=>tx [c]).map V.str/\∃v,j=[v,some (.str (OJ "abcdefghijklmnopqrstuvwxyz")),some (.int d)]) ⟨R,R,none,R⟩ (Sh (show _<=7 by lia) (by lia)) ?_ ?_⟩
 ·rintro i u j x M ha ⟨rfl,rfl,v,rfl⟩
  dsimp only[Xw,VB];rw[SW R];have D:(20:Int)+(0+(i:Int))=((20+i:Nat):Int):=by lia
  refine⟨_,R,_,R,_,R,_,_,R,R,?_⟩;dsimp only[Yv,ZZ,Oc];rw[D];refine⟨_,_,R,by lia,by lia,_,_,R,R,(by show(0:Int)<26;lia),_,_,97+XZ (d:Nat) ((20+i:Nat):Int)%26,R,R,by lia,?_,?_⟩
  ·have:=Zbs (XZ (d:Nat) ((20+i:Nat):Int)%26) (by lia)
   rw[show((XZ (d:Nat) ((20+i:Nat):Int)%26:Nat):Int)=((XZ (d:Nat) ((20+i:Nat):Int):Nat):Int)%26 by lia]at this;exact this
  ·refine⟨by rw[Su,Sw];lia,R,?_,_,R⟩
   unfold Wo;rw[Oj,SL,SL,SL];rfl
 ·rintro u j x ha ⟨rfl,rfl,v,rfl⟩ p J
  have G:((d%7:Nat):Int).toNat=d%7:=by lia
  rw[G];have s2:=Zu J (.lst (((Wo d (d%7)).map fun c=>tx [c]).map V.str));refine⟨_,p,(Wo d (d%7)).map fun c=>tx [c],R,R,Zf.of Zg,Zji _ (by rw[Qg];lia),?_⟩;rw[Zbr];have n:(tx (Wo d (d%7))).length<=sizeLine:=by rw[V9,Qg];exact Sh (show _<=7 by lia) (by lia)
  refine⟨_,R,_,_,R,R,⟨by lia,by lia⟩,_,R,_,R,n,_,_,R,R,_,_,R,R,(by show(0:Int)<((tx (Wo d (d%7))).length:Int)+1;lia),?_⟩;dsimp only;have I:(d:Int)/7%((((tx (Wo d (d%7))).length:Nat):Int)+1)=((d/7%(d%7+1):Nat):Int):=by
   have B:=SX (d/7) (d%7+1);rw[V9,Qg,B,SY d 7];rfl
  rw[I];have g:d/7%(d%7+1)<=d%7:=by have:=Oo (d/7) (show d%7+1>0 by lia);lia
  unfold ZL at q;generalize d/7%(d%7+1)=f at g q ⊢;refine⟨_,R,_,R,_,R,_,R,n,?_⟩;rw[Zek _ _ (by rw[V9,Qg];exact g),JF];refine⟨_,R,_,R,_,_,R,R,⟨by lia,by lia⟩,_,R,_,_,R,R,.inl ⟨by lia,by lia⟩,_,_,R,R,_,_,R,R,(by show(0:Int)<26;lia),_,_,97+(d/56+3*k)%26,R,R,by lia,?_,?_⟩
  ·have:=Zbs ((d/56+3*k)%26) (by lia)
   rw[show(((d/56+3*k)%26:Nat):Int)=((d:Int)/56+3*(k:Int))%26 by lia]at this;exact this
  have T:((Wo d (d%7)).take f).length<=8:=by rw[Sx,Qg];lia
  have X:((Wo d (d%7)).drop f).length<=8:=by rw[SA,Qg];lia
  refine⟨_,_,R,R,?_,?_⟩
  ·show(tx ((Wo d (d%7)).take f)).length+(tx [97+(d/56+3*k)%26]).length<=sizeLine
   rw[V9,V9,Sw];exact Sh (show _<=9 by lia) (by lia)
  refine⟨_,R,_,R,_,R,_,R,n,?_⟩;rw[Zel _ _ (by rw[V9,Qg];exact g),JF];refine⟨_,_,R,R,?_,?_⟩
  ·show(tx ((Wo d (d%7)).take f)++tx [97+(d/56+3*k)%26]).length+(tx ((Wo d (d%7)).drop f)).length<=sizeLine
   rw[Lv,V9,V9,Su,Sw];exact Sh (show _<=17 by lia) (by lia)
  have y:=q _ s2;rw[<-Lv,<-Lv]at y;exact y
structure Vq(NS:OB)(cs:List Cl):Prop where
 st:∀c∈cs,c.st∈NS
 rng:∀c∈cs,c.ar<=c.lv/\c.lv<=2879
 fol:∀i a b,cs[i]? = some a->cs[i+1]? = some b->b.st≠a.st/\a.lv<b.ar
 gap:∀i a b,cs[i]? = some a->cs[i+1]? = some b->b.ar<=a.lv+40
theorem Vq.nil(c:OB):Vq c []:=⟨fun _ h=>(nomatch h),fun _ h=>(nomatch h),fun _ _ _ h=>(nomatch h),fun _ _ _ h=>(nomatch h)⟩
def Zbv(cs:List Cl)(v:V)(T:Nat):Prop:=(cs=[]/\v=.non)\/∃e c,cs=e++[c]/\v=.str c.st/\T=c.lv
theorem Vq.snoc{c:Cl}(h:Vq y cs)(l:Zbv cs v T)(E:c.st∈y)(G:c.ar<=c.lv/\c.lv<=2879)(C:V.str c.st≠v)(B:T<c.ar)(H:c.ar<=T+40):Vq y (cs++[c]):=by
 refine⟨fun x j=>?_,fun x j=>?_,fun i a b f g=>?_,fun i a b f g=>?_⟩
 ·rcases SG.mp j with j|j
  ·exact h.st x j
  ·rw[SE.mp j];exact E
 ·rcases SG.mp j with j|j
  ·exact h.rng x j
  ·rw[SE.mp j];exact G
 ·have u:=(Sr.mp g).1
  rw[Su,Sw]at u;by_cases D:i+1<cs.length
  ·rw[List.getElem?_append_left (by lia)]at f g
   exact h.fol i a b f g
  ·have n:i+1=cs.length:=by lia
   rw[n,Ob (Sg _),Nat.sub_self]at g;obtain rfl:c=b:=So g;rw[List.getElem?_append_left (by lia)]at f;rcases l with⟨rfl,_⟩|⟨q,k,rfl,rfl,rfl⟩
   ·simp at n
   ·rw[Su,Sw]at n
    rw[show i=q.length by lia,Ob (Sg _),Nat.sub_self]at f;obtain rfl:k=a:=So f;exact⟨fun e=>C (by rw[e]),B⟩
 ·have u:=(Sr.mp g).1
  rw[Su,Sw]at u;by_cases D:i+1<cs.length
  ·rw[List.getElem?_append_left (by lia)]at f g
   exact h.gap i a b f g
  ·have n:i+1=cs.length:=by lia
   rw[n,Ob (Sg _),Nat.sub_self]at g;obtain rfl:c=b:=So g;rw[List.getElem?_append_left (by lia)]at f;rcases l with⟨rfl,_⟩|⟨q,k,rfl,rfl,rfl⟩
   ·simp at n
   ·rw[Su,Sw]at n
    rw[show i=q.length by lia,Ob (Sg _),Nat.sub_self]at f;obtain rfl:k=a:=So f;exact H
inductive Zjo(vs:List V)(H:Hp)(Q:VK)(_e3:XK):Prop|mk (d many:Nat) (ls:Addr) (NS:OB) (_:vs=[.int d,.ref ls,.int many]) (_:H ls=some (.lst (NS.map V.str))) (_:NS.Nodup) (_:2<=NS.length) (_:NS.length<=8) (_:many<=5) (_:∀(cs:List Cl) l vs H',Zc H H'->H l=none->H' l=some (.lst vs)->Al (Yp H') vs cs->Vq NS cs->cs.length=many->Q (.ref l) H')
theorem Zjp{g:OB}(nd:g.Nodup)(f:2<=g.length)(v:V):(g.filter fun z=>!decide (V.str z=v))≠[]:=by
 match g,nd,f with
 |a::b::r,nd,_ =>
  have i:a≠b:=fun e=>(Ol.mp nd).1 (by rw[e];exact SD);intro e;have c:¬ ((!decide (V.str a=v))=true):=fun h=>by have:a∈([]:OB):=e ▸ List.mem_filter.mpr ⟨SD,h⟩;cases this
  have f:¬ ((!decide (V.str b=v))=true):=fun h=>by have:b∈([]:OB):=e ▸ List.mem_filter.mpr ⟨SC _ SD,h⟩;cases this
  simp at c f;rw[<-f]at c;injection c with c;exact i c
theorem Zjq(C:Zv K mg t):Zn P w K mg base Zo 2 t.jP t.jQ ["_law_number","_law_stops","_law_many"] Zjo:=by
 refine C.ZaH.F.ok V6 (by lia) fun s0 A outer s b0 q u0 v0 hr j0=>?_;obtain⟨d,many,Z,c,rfl,h0,nd,n2,n8,hm,q0⟩:=j0;refine⟨_,(Zh (ZG 3 V6.nd (Z5 Xl)) (Zh (ZG 4 V6.nd (Ze Z2 (Zs YL (Z5 (Wz Zb Zb Zb Zb)) (Ze ZO (pv 0) Zb)) (Ze ZO (Ze Yt (pv 0) Zb) Zb))) (Zh (ZG 5 V6.nd Ue) (Zh (Xs (Ug R C.W3 (Zk (pv 2))) (Z0 6 V6.nd) (Zh (ZG 7 V6.nd (ZB C.Vn (VM C) hr Zl (Zm (pv 0) (Ze Z2 Zb (pv 6))))) (Zh (wE (i0:=8) (cl:=[(OJ "_law_last",s.heap.objs.size+1)]) (N:=["_law_stop","_law_last"]) (fr:=[none,some 5]) V6.nd R (Or.inl R) R (WB (pv 1)) R (by lia) R (by lia) ⟨⟨R,Or.inl R,Or.inl R,_,R,R⟩,trivial⟩ ⟨R,trivial⟩ R (fun _ _ _ _ _=>(Z0 0 (show List.Nodup (["_law_stop","_law_last"]:OB) by lia))) (fun _ _ _ _ _=>(Ms (Yy JX (pv 0) (pv 1)))) (fun _ _ _ _ _=>(pv 0))) (Zh (ZG 5 V6.nd (Zs YL (pv 8) (Ze ZO (pv 7) (ZM XH C.Xr Xq (Zk (pv 8)))))) (Zh (ZG 9 V6.nd (Ze Z2 (Ze Z2 (pv 4) Zb) (Ze ZO (Ze Yt (pv 7) Zb) Zb))) (Zh (ZG 10 V6.nd (Ze Z2 (pv 9) (Ze ZO (Ze Yt (pv 7) Zb) Zb))) (Zh (Z3 (U2 PySem.F.plainAttrs_list PySem.F.slot_list_append PySem.F.type_list_append Qr (pv 3) (Zk (Ym (Ys (pv 5) (pv 9) (pv 10)))))) (Zi (ZG 4 V6.nd (pv 10)))))))))) (Zi (ZA (pv 3))))))),?_⟩;sleep 5;refine⟨by show 0<=sizeLine;lia,fun g O=>?_⟩;have s1:=Zu O (.lst []);have k1:=@Zg b0 g (.lst []);generalize upd b0 g (.lst [])=H1 at s1 k1 ⊢;refine⟨by show 4<=sizeLine;lia,fun U l0=>?_⟩;have s2:=Zu l0 (.lst [.int 300,.int 600,.int 1380,.int 2600]);have k2:=@Zg H1 U (.lst [.int 300,.int 600,.int 1380,.int 2600]);generalize upd H1 U (.lst [.int 300,.int 600,.int 1380,.int 2600])=H2 at s2 k2 ⊢;obtain⟨B,hB,eB⟩:∃B:Nat,B<=2600/\Y6 [V.int 300,.int 600,.int 1380,.int 2600] ((d:Int)%4)=some (.int (B:Nat)):=by
  have h4:d%4<4:=Oo _ (by lia);rw[show(d:Int)%4=((d%4:Nat):Int) by lia];generalize d%4=m at h4 ⊢
  match m,h4 with
  |0,_=>exact⟨300,by lia,R⟩
  |1,_=>exact⟨600,by lia,R⟩
  |2,_=>exact⟨1380,by lia,R⟩
  |3,_=>exact⟨2600,by lia,R⟩
 refine⟨_,R,_,_,R,R,(by show(0:Int)<4;lia),U,_,_,_,R,R,Zf.of k2,eB,_,R,_,_,R,R,⟨by lia,by lia⟩,_,_,R,R,(by show(0:Int)<60;lia),_,_,R,R,?_⟩;have S2:=s1.trans s2;have eT:(B:Int)+(d:Int)/4%60=((B+d/4%60:Nat):Int):=by lia
 refine⟨_,R,_,R,by lia,by lia,?_⟩;have en:(many:Int).toNat=many:=by lia
 refine VU (n:=(many:Int).toNat) (fun i h f=>Zc b0 f/\∃(cs:List Cl) (q:List V) (T:Nat) (lv:V),f g=some (.lst q)/\Al (Yp (wo f g)) q cs/\Vq c cs/\cs.length=i/\Zbv cs lv T/\T<=2659+44*i /\
  ∃v6 v7 Q M c0:Option V,h=[some (.int d),some (.ref Z),some (.int many),some (.ref g),some (.int T),some lv,v6,v7,Q,M,c0])
  ⟨S2,[],[],B+d/4%60,.non,s2 _ _ k1,.nil,(Vq.nil c),R,.inl ⟨R,R⟩,by lia,none,none,none,none,none,?_⟩ ?_ ?_
 ·rw[<-eT];rfl
 ·rintro i h Y hi ⟨y,cs,q,T,lv,E,G,ok,a0,last,hT,v6,v7,Q,M,c0,rfl⟩
  rw[en]at hi;rw[show(0:Int)+(i:Int)=(i:Int) by lia];sleep 107;have m0:(50:Int)+(i:Int)=((50+i:Nat):Int):=by lia
  refine⟨_,R,_,R,_,_,R,R,?_⟩;dsimp only[Yv,ZZ,Oc];rw[m0];refine⟨_,_,R,by lia,by lia,?_⟩;generalize XZ (d:Int) ((50+i:Nat):Int)=m;refine⟨_,R,Z,R,⟨_,Zf.of (y _ _ h0)⟩,Uj (K:=K) (a:=Z) (xs:=c.map V.str) (fun j J h f=>f=Y/\J=(((c.take j).filter fun z=>!decide (V.str z=lv))).map V.str/\∃v,h=[v,some lv]) ⟨R,R,none,R⟩ (by rw[Sv];exact Sh n8 (by lia)) (fun j J h f _ ⟨e,_⟩=>by rw[e];exact Zf.of (y _ _ h0)) ?_ ?_⟩
  ·rintro j n0 J h f hj x ⟨rfl,rfl,v,rfl⟩
   rw[Oa]at x;cases u:c[j]? with
   |none=>rw[u]at x;cases x
   |some z =>
    rw[u]at x;obtain rfl:V.str z=n0:=So x;have et:c.take (j+1)=c.take j++[z]:=by rw[S0,u];rfl
    have sc:LX (.str z) lv=true:=by
     rcases last with⟨_,rfl⟩|⟨_,_,_,rfl,_⟩<;>rfl
    dsimp only[Xw];refine⟨_,R,_,R,sc,_,R,?_⟩;cases hb:(!decide (V.str z=lv))with
    |true =>
     refine Z9 R ⟨_,R,by rw[Su,Sw];lia,R,?_,_,R⟩;rw[et,List.filter_append,List.filter_cons,hb,SL];rfl
    |false =>
     refine Zp SO ⟨by lia,R,?_,_,R⟩;rw[et,List.filter_append,List.filter_cons,hb];simp
  ·rintro J h f ha ⟨rfl,rfl,v,rfl⟩ D S
   rw[Sv,List.take_length];have H:=Zu S (.lst ((c.filter fun z=>!decide (V.str z=lv)).map V.str));have I:=@Zg f D (.lst ((c.filter fun z=>!decide (V.str z=lv)).map V.str));have g0:=Zjp nd n2 lv;have t0:D≠g:=fun e=>by rw[e,E]at S;cases S
   generalize upd f D (.lst ((c.filter fun z=>!decide (V.str z=lv)).map V.str))=H4 at H I ⊢;have f0:∀z∈c.filter (fun z=>!decide (V.str z=lv)),z∈c/\V.str z≠lv:=fun z u=>by
    have:=List.mem_filter.mp u;exact⟨this.1,by simpa using this.2⟩
   generalize c.filter (fun z=>!decide (V.str z=lv))=L at I g0 f0 ⊢;have hL:0<L.length:=List.length_pos_iff.mpr g0;have lp:(0:Int)<(((L.map V.str).length:Nat):Int):=by rw[Sv];lia
   obtain⟨z,u,ez⟩:∃z∈L,Y6 (L.map V.str) ((m:Int)%(((L.map V.str).length:Nat):Int))=some (.str z):=by
    have e0:m%L.length<L.length:=Oo _ hL;refine⟨L[m%L.length],Oi e0,?_⟩;rw[Sv,<-SX];exact WU (by rw[Oa,Ss e0];rfl)
   obtain⟨r0,p0⟩:=f0 z u;refine⟨_,R,_,R,_,R,D,_,R,.inl (Zf.of I),_,_,R,R,lp,D,_,_,_,R,R,Zf.of I,ez,?_⟩;refine⟨_,R,_,_,R,R,_,R,_,_,R,R,⟨by lia,by lia⟩,_,_,R,R,(by show(0:Int)<40;lia),_,_,R,R,?_⟩;dsimp only;rw[show(T:Int)+1+(m:Int)/8%40=((T+1+m/8%40:Nat):Int) by lia];refine⟨_,R,_,R,_,_,R,R,⟨by lia,by lia⟩,_,_,R,R,(by show(0:Int)<5;lia),_,_,R,R,?_⟩;dsimp only;rw[show((T+1+m/8%40:Nat):Int)+(m:Int)/320%5=((T+1+m/8%40+m/320%5:Nat):Int) by lia];have d0:=H _ _ E;refine⟨_,R,.inl ⟨R,_,Zf.of d0⟩,_,R,_,R,_,R,by show 3<=sizeLine;lia,fun pt X=>?_⟩;have o0:pt≠g:=fun e=>by rw[e,d0]at X;cases X
   have s7:=Zu X (.tup [.str z,.int ((T+1+m/8%40:Nat):Int),.int ((T+1+m/8%40+m/320%5:Nat):Int)]);have Vr:q.length<=6:=by rw[G.length];lia
   refine⟨g,_,_,R,R,s7 _ _ d0,Sj Vr (by lia),?_⟩;refine⟨_,R,YW ((y.trans H).trans s7) O _,cs++[⟨z,T+1+m/8%40,T+1+m/8%40+m/320%5⟩],q++[.ref pt],T+1+m/8%40+m/320%5,.str z,Zg,?_,ok.snoc last r0 ⟨by show T+1+m/8%40<=T+1+m/8%40+m/320%5;lia,by show T+1+m/8%40+m/320%5<=2879;lia⟩ p0 (by show T<T+1+m/8%40;lia) (by show T+1+m/8%40<=T+40;lia),by rw[Su,Sw,a0],.inr ⟨cs,_,R,R,R⟩,(by lia),_,_,_,_,_,R⟩;rw[Q8];refine(G.imp fun _ _=>Yp.same (U7 (H.trans s7))).app (.cons ⟨pt,R,?_⟩ .nil);rw[U6 o0];exact Zg
 ·rintro h Y ⟨y,cs,q,T,lv,E,G,ok,a0,last,hT,v6,v7,Q,M,c0,rfl⟩
  exact⟨_,R,q0 cs g q Y y O E (G.imp fun _ _=>Yp.same Wx) ok (by rw[a0,en])⟩
def Lx(b:Int)(c:Cl)(l:Nat):Str×Int×Int:=(c.st,b+l+c.ar,b+l+c.lv)
def Xz(b:Int)(cs:List Cl)(c:OF):List (Str×Int×Int):=List.zipWith (Lx b) cs c
def Y8(H:Hp)(v:V)(c:Str×Int×Int):Prop:=∃p,v=.ref p/\H p=some (.tup [.str c.1,.int c.2.1,.int c.2.2])
theorem Y8.same(s:Zc H f)(h:Y8 H v c):Y8 f v c:=let ⟨p,e,h⟩:=h;⟨p,e,s _ _ h⟩
inductive Zjr(K:Ow)(vs:List V)(H:Hp)(Q:VK)(_e3:XK):Prop|mk (a la:Addr) (b:Int) (cvs:List V) (cs:List Cl) (ls:OF) (_:vs=[.ref a,.int b,.ref la]) (_:Zf K H a cvs) (_:Al (Yp H) cvs cs) (_:Zf K H la (ls.map fun n=>V.int (n:Nat))) (_:cs.length<=6) (_:ls.length=cs.length) (_:∀l vs H',Zc H H'->H l=none->H' l=some (.lst vs)->Al (Y8 H') vs (Xz b cs ls)->Q (.ref l) H')
theorem Zbw(M:Zv K mg t):Zn P w K mg base Zo 1 t.qX t.qY ["calls","begin","late"] (Zjr K):=by
 refine M.Rx.F.ok ZgF (by lia) fun d0 A outer s H vs f0 g0 hr h=>?_;obtain⟨a,la,b,X,cs,f,rfl,G,E,J,l6,U,q⟩:=h;refine⟨_,(Zi (ZA (VC (cl:=[(OJ "begin",s.heap.objs.size+1)]) (N:=["call","minutes","begin"]) (fr:=[none,none,some 1]) R (Zfd R M.Zhp (Zm (pv 0) (pv 2))) R (by lia) R (by lia) ⟨⟨R,Or.inl R,Or.inl R,_,R,R⟩,trivial⟩ ⟨R,trivial⟩ R (fun _ _ _ _ _=>(show PG _ _ (LQ K 2 _)from Vw R (YU (Z0 0 (show List.Nodup (["call","minutes","begin"]:OB) by lia)) (YU (Z0 1 (show List.Nodup (["call","minutes","begin"]:OB) by lia)) Vv)))) (fun _ _ _ _ _=>V0) (fun _ _ _ _ _=>(Ym (Ys (Zs (show X3 _ (Vy K)from ZF) (pv 0) Zb) (Ze Z2 (Ze Z2 (pv 2) (pv 1)) (Zs (show X3 _ (Vy K)from ZF) (pv 0) Zb)) (Ze Z2 (Ze Z2 (pv 2) (pv 1)) (Zs (show X3 _ (Vy K)from ZF) (pv 0) Zb)))))))),?_⟩;sleep 1;have lc:=E.length;have lz:(Xz b cs f).length=cs.length:=by unfold Xz;rw[List.length_zipWith,U,Nat.min_self]
 refine⟨_,R,_,R,a,la,R,⟨_,G⟩,⟨_,J⟩,Zgd (K:=K) (a:=a) (b:=la) (xs:=X) (ys:=f.map fun b0=>V.int (b0:Nat)) (fun i g x D=>Zc H D/\Al (Y8 D) g ((Xz b cs f).take i)/\∃C B,x=[C,B,some (.int b)]) ⟨Zc.refl H,.nil,none,none,R⟩ (Sh (show _<=6 by lia) (by lia)) (fun i g x D _ _ ⟨s,_⟩=>⟨s.seq G,s.seq J⟩) ?_ ?_⟩
 ·rintro i e0 c0 p g x Q ha Y L Z ⟨n,y,C,B,rfl⟩
  obtain⟨c,ec,u,rfl,a0⟩:=E.get Y;rw[Oa]at L;obtain⟨l,T,rfl⟩:=Of.mp L;have j:=Zu Z (.tup [.ref u,.int l]);refine⟨p,_,R,Zj.of Zg,R,_,_,R,_,_,R,R,?_⟩;dsimp only[VB];rw[SW R];have v:=j _ _ (n _ _ a0);generalize upd Q p (.tup [.ref u,.int l])=H2 at j v ⊢;refine⟨_,R,u,_,0,_,R,R,Zj.of v,R,_,R,_,R,_,_,R,R,_,R,u,_,1,_,R,R,Zj.of v,R,_,_,R,R,_,R,_,R,_,_,R,R,_,R,u,_,2,_,R,R,Zj.of v,R,_,_,R,R,by show 3<=sizeLine;lia,fun p3 g3=>?_⟩;have I:=j.trans (Zu g3 (.tup [.str c.st,.int (b+(l:Int)+((c.ar:Nat):Int)),.int (b+(l:Int)+((c.lv:Nat):Int))]));refine⟨by rw[Su,Sw];lia,n.trans I,?_,_,_,R⟩;have em:(Xz b cs f)[i]? = some (Lx b c l):=by
   unfold Xz;rw[List.getElem?_zipWith,ec,T]
  rw[S0,em];exact(y.imp fun _ _=>Y8.same I).snoc ⟨p3,R,Zg⟩
 ·rintro i g x Q S _ ⟨n,y,C,B,rfl⟩ l O
  have e:(Xz b cs f).take i=Xz b cs f:=SZ (by rw[lz,S,Sv];lia);rw[e]at y;have j:=Zu O (.lst g);exact q l g _ (n.trans j) (n.free O) Zg (y.imp fun _ _=>Y8.same j)
def UP(c a:Str×Int×Int):Bool:=!decide (V.str c.1=V.str a.1) && decide (c.2.1>a.2.2)
inductive Zjs(vs:List V)(H:Hp)(Q:VK)(_e3:XK):Prop|mk (v u:V) (c a:Str×Int×Int) (_:vs=[v,u]) (_:Y8 H v c) (_:Y8 H u a) (_:Q (.bl (UP c a)) H)
theorem Zbx(g:Zv K mg t):Zn P w K mg base Zo 1 t.qV t.qW ["call","ahead"] Zjs:=by
 refine g.Rw.F.ok ZgE (by lia) fun j A outer s H i Q E n h=>?_;obtain⟨v,u,c,a,rfl,⟨p,rfl,f⟩,⟨r,rfl,e⟩,q⟩:=h;refine⟨_,(Zi (ZA (Uw (Vd JX (Zs ZF (pv 0) Zb) (Zs ZF (pv 1) Zb) (Ui _)) (Vb (Vd D4 (Zs ZF (pv 0) Zb) (Zs ZF (pv 1) Zb) (Ui _)))))),?_⟩;sleep 1;refine⟨_,R,p,_,0,_,R,R,Zj.of f,R,_,R,r,_,0,_,R,R,Zj.of e,R,R,_,R,?_⟩;unfold UP at q;refine WF (fun z=>?_) (fun z=>?_)
 ·refine⟨_,R,p,_,1,_,R,R,Zj.of f,R,_,R,r,_,2,_,R,R,Zj.of e,R,_,_,R,R,?_⟩
  rw[show(!decide (V.str c.1=V.str a.1))=true from z,Os]at q;exact q
 ·rw[show(!decide (V.str c.1=V.str a.1))=false by simpa using z,Bool.false_and]at q
  exact q
abbrev R3:=RT
def R3.Ok(r:R3):Prop:=RT.good r/\RT.weight r<=15/\RT.depth r<=8
def X0(t:Yd)(H:Hp)(v:V)(r:R3):Prop:=∃b,v=.ref b/\ZQ (rc t) t.kf H b r
theorem X0.same(s:Zc H c)(h:X0 t H v r):X0 t c v r:=let ⟨b,e,h⟩:=h;⟨b,e,h.same s⟩
inductive Zjt(t:Yd)(vs:List V)(H:Hp)(Q:VK)(_e3:XK):Prop|mk (v:V) (r:R3) (_:vs=[v]) (_:X0 t H v r) (_:r.Ok) (_:True) (_:∀v' H',Zc H H'->X0 t H' v' r->Q v' H')
theorem Zby(c:Zv K mg t):Zn P w K mg base Zo 43 t.Pz t.PB ["rule"] (Zjt t) :=
 (QF c 8 (B3 c 8)).imp fun n H Q E ⟨v,r,e,⟨b,h,f⟩,ok,_,q⟩=>by
  subst h;rw[c.kf]at f;exact⟨b,r,e,f,ok.1,ok.2.1,ok.2.2,ok.2.2,fun g u i j=>q _ _ i ⟨g,R,by rw[c.kf];exact j.same (V5 _ _)⟩⟩
theorem ZQ.keepF(e:∀x C dx (fs:List (Str×V)),fs.lookup ("timetable" : Str)=none->H x=some (.ins C dx fs)->g x=some (.ins C dx fs)) (q:∀p xs,Zj K H p xs->Zj K g p xs) (h:ZQ c K H a r):ZQ c K g a r:=by
 induction h with
 |always h=>exact .always (e _ _ _ _ R h)
 |week h v=>exact .week (e _ _ _ _ R h) v
 |span h y u _ i=>exact .span (e _ _ _ _ R h) y u i
 |each h hn B j=>exact .each (e _ _ _ _ R h) hn B (q _ _ j)
 |either h _ _ n f=>exact .either (e _ _ _ _ R h) n f
 |both h _ _ n f=>exact .both (e _ _ _ _ R h) n f
 |but h j _ i=>exact .but (e _ _ _ _ R h) (q _ _ j) i
theorem TB(k1:H p=some (.tup xs)->c p=some (.tup xs))(k2:∀o,H p=some (.frz o (.tup xs))->c p=some (.frz o (.tup xs)))(h:Zj K H p xs):Zj K c p xs :=
 h.imp (fun r=>r.imp k1 fun⟨o,e⟩=>⟨o,k2 o e⟩) id
theorem U5{b:Nat}{lo hi:Int}(h1:lo<=b)(c:(b:Int)<=hi):E6 (.int b) lo hi=true:=SQ ⟨h1,c⟩
def B4:Str:=⟨#[97,98,99,100,101,102,103,104,105,106,107,108,109,110,111,112,113,114,115,116,117,118,119,120,121,122]⟩
theorem Zju:OJ "abcdefghijklmnopqrstuvwxyz" = B4:=by lia
theorem Zjv:∀i:Nat,i<26->UC B4 (97+i)=true:=by lia
theorem Zjw{z:Str}(h:YO z):((z.cps.toList.map fun c=>UC B4 c).all id)=true:=by
 rw[List.all_eq_true];intro b f;obtain⟨c,g,rfl⟩:=SJ.mp f;have:=h.2.2.1 c g;have e:=Zjv (c - 97) (by lia);rw[show 97+(c - 97)=c by lia]at e;exact e
inductive Zjx(vs:List V)(H:Hp)(Q:VK)(_e3:XK):Prop|mk (b:Nat) (lo hi:Int) (_:vs=[.int b,.int lo,.int hi]) (_:lo<=b) (_:(b:Int)<=hi) (_:Q .non H)
theorem UQ(c:Zv K mg t):Zn P w K mg base Zo 3 t.qH t.qI ["value","least","most"] Zjx:=by
 refine c.Up.F.ok Zgx (by lia) fun n A outer s H j Q E i h=>?_;obtain⟨b,lo,e,rfl,f,g,q⟩:=h;refine⟨_,(Zi (ZN (YE (YD (ZB c.Qb (QD c) i Zl (Ys (pv 0) (pv 1) (pv 2))))) (Zi Y9) ZP)),?_⟩;sleep 1;exact⟨_,R,_,R,_,R,.int b,lo,e,"int",R,.int _,_,R,Zp (by rw[U5 f g];lia) q⟩
inductive Zjy(vs:List V)(H:Hp)(Q:VK)(_e3:XK):Prop|mk (z:Str) (_:vs=[.str z]) (_:YO z) (_:∀H',Zc H H'->Q (.bl true) H')
theorem Zjz(e:Zv K mg t):Zn P w K mg base Zo 1 t.qL t.qM ["value"] Zjy:=by
 refine e.ZaB.F.ok Zgy (by lia) fun u A outer s H n Q E v h=>?_;obtain⟨z,rfl,hn,q⟩:=h;obtain⟨tk,g⟩:=e.Zhq;rw[Zju]at g;have i:z.length<=sizeLine:=Sh hn.2.1 (by lia);refine⟨_,(Zh (ZN (PW.pt (Uv (YE (YD (ZM VY e.YR YQ (Zm (pv 0) (VA R e.Zax qC))))) (UY (YE (JZ Wt Wt Zb (ZM yK e.Xr Xq (Zk (pv 0))) (YA R e.Zhr)))))) (Zi (ZA WS)) ZP) (Zi (ZA (ZM (yW R) e.Zas uY (Zk (Zd7 (cl:=[]) R (pv 0) R (by lia) R (by lia) R)))))),?_⟩;sleep 2;refine⟨_,R,.str z,"str",_,_,R,(Kd.str z).ty (H:=H),xG (H:=H) (.str z),_,R,Zp (by lia) ?_⟩;refine⟨_,R,z,R,i,_,_,R,R,_,R,Z9 (SQ (by have:=hn.1;lia)) ?_⟩;refine⟨_,_,R,R,_,R,Zp (by rw[SQ (show((z.length:Nat):Int)<=8 by have:=hn.2.1;lia)];lia) ?_⟩;sleep 1;refine⟨B4,Zd8 (t:=tk) R R g,_,R,z,R,i,fun p j=>?_⟩;refine⟨p,z.cps.toList.map (fun c=>UC B4 c),R,Zf.of (by rw[Zg,Zei]),?_⟩;have f:=q _ (Zu j (HO.lst (z.cps.toList.map fun c=>V.bl (UC B4 c))));rw[<-Zjw hn]at f;exact f
inductive ZjA(vs:List V)(H:Hp)(Q:VK)(_e3:XK):Prop|mk (z:Str) (d:Addr) (kvs:List (Zt×V)) (_:vs=[.str z,.ref d]) (_:H d=some (.dK kvs)) (_:Q (.bl (Zz kvs (Sum.inr z)).isSome) H)
theorem JG(c:Zv K mg t):Zn P w K mg base Zo 1 t.qN t.qO ["value","named"] ZjA:=by
 refine c.B1.F.ok Zgz (by lia) fun g A outer s H f Q E e h=>?_;obtain⟨z,d,i,rfl,hd,q⟩:=h;refine⟨_,(Zi (ZA (Uw (ZM VY c.YR YQ (Zm (pv 0) (VA R c.Zax qC))) (Vb (Zcx (Kh (Xn e) (pv 0) (pv 1))))))),?_⟩;sleep 1;exact⟨_,R,.str z,"str",_,_,R,(Kd.str z).ty (H:=H),xG (H:=H) (.str z),_,R,Z9 (by lia) ⟨_,R,_,R,d,_,R,Yr.k (k:=Sum.inr z) hd,q⟩⟩
inductive ZjB(vs:List V)(H:Hp)(Q:VK)(_e3:XK):Prop|mk (z:Str) (d:Addr) (kvs:List (Zt×V)) (_:vs=[.str z,.ref d]) (_:H d=some (.dK kvs)) (_:YO z) (_:Zz kvs (Sum.inr z)=none) (_:∀H',Zc H H'->Q .non H')
theorem Ly(c:Zv K mg t):Zn P w K mg base Zo 2 t.qR t.qS ["name","named"] ZjB:=by
 refine c.Jm.F.ok ZgC (by lia) fun n A outer s H j Q E f h=>?_;obtain⟨z,d,u,rfl,hd,hn,i,q⟩:=h;refine⟨_,(Zh (ZN (YE (YD (ZB c.ZaB (Zjz c) f Zl (Zk (pv 0))))) (Zi Y9) ZP) (Zi (ZN (UX (Kh (Xn f) (pv 0) (pv 1))) (Zi Y9) ZP))),?_⟩;sleep 2;refine⟨_,R,z,R,hn,fun g e=>⟨_,R,Zp (by lia) ?_⟩⟩;sleep 1;exact⟨_,R,_,R,d,_,R,Yr.k (k:=Sum.inr z) (e _ _ hd),_,R,Zp (by rw[i];lia) (q g e)⟩
inductive ZjC(vs:List V)(H:Hp)(Q:VK)(_e3:XK):Prop|mk (d:Addr) (kvs:List (Zt×V)) (n:Int) (_:vs=[.ref d,.int n]) (_:H d=some (.dK kvs)) (_:(kvs.length:Int)<n) (_:Q .non H)
theorem Lz(c:Zv K mg t):Zn P w K mg base Zo 1 t.PD t.PF ["kept","most"] ZjC:=by
 refine c.Qz.F.ok uH (by lia) fun i A outer s H g Q E j h=>?_;obtain⟨d,e,n,rfl,hd,f,q⟩:=h;refine⟨_,(Zi (ZN (Yy zL (ZM Zfz c.Xr Xq (Zk (pv 0))) (pv 1)) (Zi Y9) ZP)),?_⟩;sleep 1;exact⟨_,R,d,e,R,hd,_,R,_,_,R,R,_,R,Zp (by rw[SR (by lia)];lia) q⟩
def ZY{c:Type}(nm:c->Str)(xs:List c)(z:Str):Option c:=xs.find? fun x=>decide (nm x=z)
theorem Qh{c:Type}{nm:c->Str}{xs:List c}{z:Str}{x:c}(h:ZY nm xs z=some x):x∈xs/\nm x=z:=⟨List.mem_of_find?_eq_some h,SS (List.find?_some (p:=fun x=>decide (nm x=z)) h)⟩
theorem Xt{g:Type}{nm:g->Str}{R:Zt×V->g->Prop}(q:∀c x,R c x->c.1=Sum.inr (nm x)){rows:List (Zt×V)}{xs:List g}(h:Al R rows xs)(z:Str) :
  (ZY nm xs z=none->Zz rows (Sum.inr z)=none)/\∀x,ZY nm xs z=some x->∃c,Zz rows (Sum.inr z)=some c.2/\R c x:=by
 induction h with
 |nil=>exact⟨fun _=>rfl,fun k e=>by cases e⟩
 |@cons c k rows xs j _ y =>
  by_cases e:nm k=z
  ·have i:c.1=Sum.inr z:=by rw[q _ _ j,e]
   have f:ZY nm (k::xs) z=some k:=by unfold ZY;rw[List.find?_cons,SQ e]
   refine⟨fun n=>(by rw[f]at n;cases n),fun B u=>?_⟩;rw[f]at u;cases u;exact⟨c,WX i,j⟩
  ·have i:c.1≠Sum.inr z:=fun x=>e (by rw[q _ _ j]at x;exact Sum.inr.inj x)
   have f:ZY nm (k::xs) z=ZY nm xs z:=by unfold ZY;rw[List.find?_cons,SR e]
   have v:Zz (c::rows) (Sum.inr z)=Zz rows (Sum.inr z):=by unfold Zz;rw[List.find?_cons,SR i]
   rw[f,v];exact y
theorem JH{c:Type}{nm:c->Str}{xs:List c}(nd:(xs.map nm).Nodup){i:Nat}{x:c}(e:xs[i]? = some x):ZY nm (xs.take i) (nm x)=none:=by
 unfold ZY;rw[List.find?_eq_none];intro y h;rw[decide_eq_true_eq];intro ex;obtain⟨j,g,f⟩:=List.mem_iff_getElem.mp h;rw[Sx]at g;obtain⟨n,q⟩:=Sr.mp e;rw[List.getElem_take]at f;have:=List.pairwise_iff_getElem.mp nd j i (by rw[Sv];lia) (by rw[Sv];exact n) (by lia);rw[List.getElem_map,List.getElem_map,f,q]at this;exact this ex
theorem LA{c:Type}{nm:c->Str}{xs:List c}{x:c}(h:x∈xs):∃y,ZY nm xs (nm x)=some y:=by
 cases e:ZY nm xs (nm x)with
 |some y=>exact⟨y,R⟩
 |none =>
  unfold ZY at e;rw[List.find?_eq_none]at e;exact Oq (SQ R) (e x h)
theorem UR{f:Type}{nm:f->Str}{xs:List f}(nd:(xs.map nm).Nodup){x:f}(h:x∈xs):ZY nm xs (nm x)=some x:=by
 obtain⟨y,c⟩:=LA (nm:=nm) h;have:=Qh c;obtain⟨i,u,g⟩:=List.mem_iff_getElem.mp h;obtain⟨j,v,q⟩:=List.mem_iff_getElem.mp this.1;by_cases e:i=j
 ·subst e;rw[c,<-g,q]
 ·exfalso
  rcases Nat.lt_or_gt_of_ne e with n|n
  ·have:=List.pairwise_iff_getElem.mp nd i j (by rw[Sv];exact u) (by rw[Sv];exact v) n
   rw[List.getElem_map,List.getElem_map,q,g]at this;exact this (by rw[(Qh c).2])
  ·have:=List.pairwise_iff_getElem.mp nd j i (by rw[Sv];exact v) (by rw[Sv];exact u) n
   rw[List.getElem_map,List.getElem_map,q,g]at this;exact this (by rw[(Qh c).2])
structure Wl where
 o:Str
 t:Str
 m:Nat
structure Yj where
 nm:Str
 r:R3
structure WO where
 nm:Str
 pr:Nat
 la:Nat
 zs:List Nat
structure Tp where
 nm:Str
 ru:Str
 cs:List Cl
structure WO.Ok(k:WO):Prop where
 nm:YO k.nm
 pr:k.pr<=10000
 la1:1<=k.la
 la:k.la<=1440
 z1:1<=k.zs.length
 z6:k.zs.length<=6
 up:k.zs.Pairwise (· < ·)
 rng:∀z∈k.zs,1<=z/\z<=6
def Wb(H:Hp)(c:Zt×V)(k:WO):Prop:=c.1=Sum.inr k.nm/\∃r z,c.2=.ref r/\H r=some (.tup [.int (k.pr:Nat),.int (k.la:Nat),.ref z])/\H z=some (.tup (Yx k.zs))
theorem Wb.same(s:Zc H f)(h:Wb H c k):Wb f c k:=let ⟨e,r,z,e1,e2,e3⟩:=h;⟨e,r,z,e1,s _ _ e2,s _ _ e3⟩
def YS(H:Hp)(c:Zt×V)(k:Yh):Prop:=c.1=Sum.inr k.nm/\∃r,c.2=.ref r/\H r=some (.tup [.int (k.z:Nat),.int (k.ch:Nat)])
theorem YS.same(s:Zc H f)(h:YS H c k):YS f c k:=let ⟨e,r,e1,e2⟩:=h;⟨e,r,e1,s _ _ e2⟩
def Xu(H:Hp)(c:Zt×V)(k:Tp):Prop:=c.1=Sum.inr k.nm/\∃r q e,c.2=.ref r/\H r=some (.tup [.str k.ru,.ref q])/\H q=some (.tup e)/\Al (Yp H) e k.cs
theorem Xu.same(s:Zc H f)(h:Xu H c k):Xu f c k:=let ⟨e,r,q,vs,e1,e2,e3,e4⟩:=h;⟨e,r,q,vs,e1,s _ _ e2,s _ _ e3,e4.imp fun _ _=>Yp.same s⟩
def XQ(t:Yd)(H:Hp)(c:Zt×V)(k:Yj):Prop:=c.1=Sum.inr k.nm/\X0 t H c.2 k.r
theorem XQ.same(s:Zc H e)(h:XQ t H c k):XQ t e c k:=⟨h.1,h.2.same s⟩
def Y1(H:Hp)(v:V)(x:Wl):Prop:=∃p,v=.ref p/\H p=some (.tup [.str x.o,.str x.t,.int (x.m:Nat)])
theorem Y1.same(s:Zc H c)(h:Y1 H v x):Y1 c v x:=let ⟨p,e,h⟩:=h;⟨p,e,s _ _ h⟩
structure Z1 where
 st:List Yh
 wk:List Wl
 ru:List Yj
 tk:List WO
 tp:List Tp
structure NA where
 ds:Addr
 lw:Addr
 dr:Addr
 dt:Addr
 dp:Addr
structure ZjD(fs:List (Str×V))(a:NA):Prop where
 fs1:fs.lookup ("stop_rows" : Str)=some (V.ref a.ds)
 fw:fs.lookup ("walk_rows" : Str)=some (V.ref a.lw)
 fr:fs.lookup ("rule_rows" : Str)=some (V.ref a.dr)
 ft:fs.lookup ("ticket_rows" : Str)=some (V.ref a.dt)
 fp:fs.lookup ("trip_rows" : Str)=some (V.ref a.dp)
 n_calls:fs.lookup ("calls" : Str)=none
 n_rule_name:fs.lookup ("rule_name" : Str)=none
 n_rule:fs.lookup ("rule" : Str)=none
 n_trips:fs.lookup ("trips" : Str)=none
 n_check_stop:fs.lookup ("check_stop" : Str)=none
 n_check_trip:fs.lookup ("check_trip" : Str)=none
 n_check_call:fs.lookup ("check_call" : Str)=none
 n_has_walk:fs.lookup ("has_walk" : Str)=none
 n_add_stop:fs.lookup ("add_stop" : Str)=none
 n_add_walk:fs.lookup ("add_walk" : Str)=none
 n_add_rule:fs.lookup ("add_rule" : Str)=none
 n_add_ticket:fs.lookup ("add_ticket" : Str)=none
 n_add_trip:fs.lookup ("add_trip" : Str)=none
 n_zone:fs.lookup ("zone" : Str)=none
 n_change:fs.lookup ("change" : Str)=none
 n_stops:fs.lookup ("stops" : Str)=none
 n_walks:fs.lookup ("walks" : Str)=none
 n_tickets:fs.lookup ("tickets" : Str)=none
 n_ticket:fs.lookup ("ticket" : Str)=none
structure Zbz(a:NA):Prop where
 sr:a.ds≠a.dr
 st:a.ds≠a.dt
 sp:a.ds≠a.dp
 rt:a.dr≠a.dt
 rp:a.dr≠a.dp
 tp:a.dt≠a.dp
structure Ye(t:Yd)(H:Hp)(n:Addr)(a:NA)(N:Z1):Prop where
 ob:∃dx fs,H n=some (.ins t.ZR dx fs)/\ZjD fs a
 ap:Zbz a
 st:∃rows,H a.ds=some (.dK rows)/\Al (YS H) rows N.st
 wk:∃vs,H a.lw=some (.lst vs)/\Al (Y1 H) vs N.wk
 ru:∃rows,H a.dr=some (.dK rows)/\Al (XQ t H) rows N.ru
 tk:∃rows,H a.dt=some (.dK rows)/\Al (Wb H) rows N.tk
 tp:∃rows,H a.dp=some (.dK rows)/\Al (Xu H) rows N.tp
theorem Ye.same(s:Zc H c)(h:Ye t H n a N):Ye t c n a N:=by
 obtain⟨⟨f,fs,u,q⟩,ap,⟨r1,g,y⟩,⟨v,e,i⟩,⟨j,C,D⟩,⟨r3,x,B⟩,⟨E,I,G⟩⟩:=h;exact⟨⟨f,fs,s _ _ u,q⟩,ap,⟨r1,s _ _ g,y.imp fun _ _=>YS.same s⟩,⟨v,s _ _ e,i.imp fun _ _=>Y1.same s⟩,⟨j,s _ _ C,D.imp fun _ _=>XQ.same s⟩,⟨r3,s _ _ x,B.imp fun _ _=>Wb.same s⟩,⟨E,s _ _ I,G.imp fun _ _=>Xu.same s⟩⟩
structure VN(H0:Hp)(a:NA):Prop where
 s:H0 a.ds=none
 w:H0 a.lw=none
 r:H0 a.dr=none
 t:H0 a.dt=none
 p:H0 a.dp=none
def Wd(t:Yd)(H:Hp)(n:Addr)(N:Z1):Prop:=∃a,Ye t H n a N
theorem Wd.same(s:Zc H c)(h:Wd t H n N):Wd t c n N:=let ⟨a,h⟩:=h;⟨a,h.same s⟩
theorem QG{fs:List (Str×V)}(h:fs.length<=n):(ZV f v fs).length<=n+1:=Sh (QT _ _ _) (Nat.succ_le_succ h)
inductive ZjE(t:Yd)(vs:List V)(H:Hp)(Q:VK)(_e3:XK):Prop|mk (x:Addr) (H0:Hp) (_:vs=[.ref x]) (_:H0 x=none) (_:Zc H0 H) (_:(∃dx,H x=some (.ins t.ZR dx []))) (_:∀H' a,Zc H0 H'->Ye t H' x a ⟨[],[],[],[],[]⟩->VN H0 a->Q .non H')
theorem ZjF(j:Zv K mg t):Zn P w K mg base Zo 1 t.Rr t.kU ["self"] (ZjE t):=by
 refine j.ZaL.F.ok Zg0 (by lia) fun z0 A outer s H vs a1 b1 hr r0=>?_;obtain⟨x,H0,rfl,L,s0,⟨c,hx⟩,w0⟩:=r0;refine⟨_,(Zh (XG (pv 0) UD R) (Zh (XG (pv 0) (Z5 Xl) R) (Zh (XG (pv 0) UD R) (Zh (XG (pv 0) UD R) (Zi (XG (pv 0) UD R)))))),?_⟩;sleep 5;intro p1 g1;have D:p1≠x:=fun z=>by rw[z,hx]at g1;cases g1
 have d1:=s0.free g1;refine⟨_,R,x,_,c,_,R,(by rw[Zd D.symm];exact hx),j.Yg,j.Jx,by lia,?_⟩;generalize d0:ZV "stop_rows" (.ref p1) []=B;have j0:B.length<=1:=by rw[<-d0];exact QG (Sk 0)
 have U:=YW (s0.trans (Zu g1 (.dK []))) L (.ins t.ZR c B);have y1:(upd (upd H p1 (.dK [])) x (.ins t.ZR c B)) x=some (.ins t.ZR c B):=Zg;have e:(upd (upd H p1 (.dK [])) x (.ins t.ZR c B)) p1=some (.dK []):=by rw[Zd D];exact Zg
 generalize upd (upd H p1 (.dK [])) x (.ins t.ZR c B)=M at U y1 e ⊢;refine⟨by show 0<=sizeLine;lia,fun f g2=>?_⟩;have I:f≠x:=fun z=>by rw[z,y1]at g2;cases g2
 have v0:p1≠f:=ZI e g2;have d2:=U.free g2;refine⟨_,R,x,_,c,_,R,(by rw[Zd I.symm];exact y1),j.Yg,j.Lk,Sj j0 (by lia),?_⟩;generalize q0:ZV "walk_rows" (.ref f) B=y;have p0:y.length<=2:=by rw[<-q0];exact QG j0
 have X:=YW (U.trans (Zu g2 (.lst []))) L (.ins t.ZR c y);have Q:(upd (upd M f (.lst [])) x (.ins t.ZR c y)) x=some (.ins t.ZR c y):=Zg;have e:(upd (upd M f (.lst [])) x (.ins t.ZR c y)) p1=some (.dK []):=by rw[Zd D,Zd v0];exact e
 have i:(upd (upd M f (.lst [])) x (.ins t.ZR c y)) f=some (.lst []):=by rw[Zd I];exact Zg
 generalize upd (upd M f (.lst [])) x (.ins t.ZR c y)=J at X Q e i ⊢;intro p3 g3;have O:p3≠x:=fun z=>by rw[z,Q]at g3;cases g3
 have f0:p1≠p3:=ZI e g3;have u0:f≠p3:=ZI i g3;have d3:=X.free g3;refine⟨_,R,x,_,c,_,R,(by rw[Zd O.symm];exact Q),j.Yg,j.QB,Sj p0 (by lia),?_⟩;generalize l0:ZV "rule_rows" (.ref p3) y=v;have c0:v.length<=3:=by rw[<-l0];exact QG p0
 have Y:=YW (X.trans (Zu g3 (.dK []))) L (.ins t.ZR c v);have S:(upd (upd J p3 (.dK [])) x (.ins t.ZR c v)) x=some (.ins t.ZR c v):=Zg;have e:(upd (upd J p3 (.dK [])) x (.ins t.ZR c v)) p1=some (.dK []):=by rw[Zd D,Zd f0];exact e
 have i:(upd (upd J p3 (.dK [])) x (.ins t.ZR c v)) f=some (.lst []):=by rw[Zd I,Zd u0];exact i
 have q:(upd (upd J p3 (.dK [])) x (.ins t.ZR c v)) p3=some (.dK []):=by rw[Zd O];exact Zg
 generalize upd (upd J p3 (.dK [])) x (.ins t.ZR c v)=E at Y S e i q ⊢;intro g g4;have T:g≠x:=fun z=>by rw[z,S]at g4;cases g4
 have o0:p1≠g:=ZI e g4;have t0:f≠g:=ZI i g4;have h0:p3≠g:=ZI q g4;have d4:=Y.free g4;refine⟨_,R,x,_,c,_,R,(by rw[Zd T.symm];exact S),j.Yg,j.Ll,Sj c0 (by lia),?_⟩;generalize b0:ZV "ticket_rows" (.ref g) v=u;have a0:u.length<=4:=by rw[<-b0];exact QG c0
 have Z:=YW (Y.trans (Zu g4 (.dK []))) L (.ins t.ZR c u);have y4:(upd (upd E g (.dK [])) x (.ins t.ZR c u)) x=some (.ins t.ZR c u):=Zg;have e:(upd (upd E g (.dK [])) x (.ins t.ZR c u)) p1=some (.dK []):=by rw[Zd D,Zd o0];exact e
 have i:(upd (upd E g (.dK [])) x (.ins t.ZR c u)) f=some (.lst []):=by rw[Zd I,Zd t0];exact i
 have q:(upd (upd E g (.dK [])) x (.ins t.ZR c u)) p3=some (.dK []):=by rw[Zd O,Zd h0];exact q
 have G:(upd (upd E g (.dK [])) x (.ins t.ZR c u)) g=some (.dK []):=by rw[Zd T];exact Zg
 generalize upd (upd E g (.dK [])) x (.ins t.ZR c u)=C at Z y4 e i q G ⊢;intro h g5;have x5:h≠x:=fun z=>by rw[z,y4]at g5;cases g5
 have g0:p1≠h:=ZI e g5;have x0:f≠h:=ZI i g5;have i0:p3≠h:=ZI q g5;have e0:g≠h:=ZI G g5;have d5:=Z.free g5;refine⟨_,R,x,_,c,_,R,(by rw[Zd x5.symm];exact y4),j.Yg,j.Qd,Sj a0 (by lia),?_⟩;generalize m0:ZV "trip_rows" (.ref h) u=n;have y0:n.length<=5:=by rw[<-m0];exact QG a0
 have u5:=YW (Z.trans (Zu g5 (.dK []))) L (.ins t.ZR c n);have y5:(upd (upd C h (.dK [])) x (.ins t.ZR c n)) x=some (.ins t.ZR c n):=Zg;have e:(upd (upd C h (.dK [])) x (.ins t.ZR c n)) p1=some (.dK []):=by rw[Zd D,Zd g0];exact e
 have i:(upd (upd C h (.dK [])) x (.ins t.ZR c n)) f=some (.lst []):=by rw[Zd I,Zd x0];exact i
 have q:(upd (upd C h (.dK [])) x (.ins t.ZR c n)) p3=some (.dK []):=by rw[Zd O,Zd i0];exact q
 have G:(upd (upd C h (.dK [])) x (.ins t.ZR c n)) g=some (.dK []):=by rw[Zd T,Zd e0];exact G
 have k5:(upd (upd C h (.dK [])) x (.ins t.ZR c n)) h=some (.dK []):=by rw[Zd x5];exact Zg
 generalize upd (upd C h (.dK [])) x (.ins t.ZR c n)=H5 at u5 y5 e i q G k5 ⊢;subst d0 q0 l0 b0 m0;exact w0 _ ⟨p1,f,p3,g,h⟩ u5 ⟨⟨c,_,y5,⟨R,R,R,R,R,R,R,R,R,R,R,R,R,R,R,R,R,R,R,R,R,R,R,R⟩⟩,⟨f0,o0,g0,h0,i0,e0⟩,⟨[],e,.nil⟩,⟨[],i,.nil⟩,⟨[],q,.nil⟩,⟨[],G,.nil⟩,⟨[],k5,.nil⟩⟩ ⟨d1,d2,d3,d4,d5⟩
structure ZE(u:HO):Prop where
 nt:∀ys,u≠.tup ys
 ni:∀c x fs,u≠.ins c x fs
 nf:∀o v,u≠.frz o v
theorem ZE.k:ZE (.dK c):=⟨fun _ z=>(nomatch z),fun _ _ _ z=>(nomatch z),fun _ _ z=>(nomatch z)⟩
theorem ZE.l:ZE (.lst xs):=⟨fun _ z=>(nomatch z),fun _ _ _ z=>(nomatch z),fun _ _ z=>(nomatch z)⟩
theorem ZE.dt:ZE (.dT c):=⟨fun _ z=>(nomatch z),fun _ _ _ z=>(nomatch z),fun _ _ z=>(nomatch z)⟩
theorem XA(hd:H d=some u)(lo:ZE u)(h:H p=some (.tup xs)):upd H d o p=some (.tup xs):=by
 rw[Zd (Z4 h hd (fun z=>lo.nt _ z.symm))];exact h
theorem Qi(hd:H d=some u)(lo:ZE u)(h:H p=some (.ins c x fs)):upd H d o p=some (.ins c x fs):=by
 rw[Zd (Z4 h hd (fun z=>lo.ni _ _ _ z.symm))];exact h
section Pt
variable{d:Addr}{u o:HO}(hd:H d=some u)(lo:ZE u)
include hd lo
theorem Wb.put(h:Wb H c k):Wb (upd H d o) c k:=let ⟨e,r,z,e1,e2,e3⟩:=h;⟨e,r,z,e1,XA hd lo e2,XA hd lo e3⟩
theorem YS.put(h:YS H c k):YS (upd H d o) c k:=let ⟨e,r,e1,e2⟩:=h;⟨e,r,e1,XA hd lo e2⟩
theorem Yp.put(h:Yp H v c):Yp (upd H d o) v c:=let ⟨p,e,h⟩:=h;⟨p,e,XA hd lo h⟩
theorem Xu.put(h:Xu H c k):Xu (upd H d o) c k:=let ⟨e,r,q,vs,e1,e2,e3,e4⟩:=h;⟨e,r,q,vs,e1,XA hd lo e2,XA hd lo e3,e4.imp fun _ _=>Yp.put hd lo⟩
theorem Y1.put(h:Y1 H v x):Y1 (upd H d o) v x:=let ⟨p,e,h⟩:=h;⟨p,e,XA hd lo h⟩
theorem X0.put(h:X0 t H v r):X0 t (upd H d o) v r:=let ⟨b,e,h⟩:=h;⟨b,e,ZQ.keepF (fun _ _ _ _ _ e=>Qi hd lo e) (fun _ _=>TB (XA hd lo) fun _ e=>by rw[Zd (Z4 e hd (fun z=>lo.nf _ _ z.symm))];exact e) h⟩
theorem XQ.put(h:XQ t H c k):XQ t (upd H d o) c k:=⟨h.1,h.2.put hd lo⟩
end Pt
theorem Ye.addSt{a:NA}{N:Z1}{rows:List (Zt×V)}{x:Yh}(h:Ye t H n a N)(c:H a.ds=some (.dK rows))(C:Al (YS H) rows N.st)(g:Zz rows (Sum.inr x.nm)=none)(L:YS H (Sum.inr x.nm,v) x) :
  Ye t (upd H a.ds (.dK (YB rows (Sum.inr x.nm) v))) n a { N with st:=N.st++[x] }:=by
 obtain⟨⟨f,fs,u,q⟩,ap,_,⟨y,e,i⟩,⟨j,E,G⟩,⟨r3,B,D⟩,⟨I,M,J⟩⟩:=h;refine⟨⟨f,fs,Qi c ZE.k u,q⟩,ap,⟨_,Zg,?_⟩,⟨y,by rw[Zd (Z4 e c (by intro z;cases z))];exact e,i.imp fun _ _=>Y1.put c ZE.k⟩,⟨j,by rw[Zd (ap.sr.symm)];exact E,G.imp fun _ _=>XQ.put c ZE.k⟩,⟨r3,by rw[Zd (ap.st.symm)];exact B,D.imp fun _ _=>Wb.put c ZE.k⟩,⟨I,by rw[Zd (ap.sp.symm)];exact M,J.imp fun _ _=>Xu.put c ZE.k⟩⟩;rw[UG v g];exact(C.imp fun _ _=>YS.put c ZE.k).snoc (L.put c ZE.k)
theorem Ye.addWk{a:NA}{N:Z1}(h:Ye t H n a N)(c:H a.lw=some (.lst vs))(B:Al (Y1 H) vs N.wk)(J:Y1 H v x) :
  Ye t (upd H a.lw (.lst (vs++[v]))) n a { N with wk:=N.wk++[x] }:=by
 obtain⟨⟨j,fs,y,u⟩,ap,⟨r1,e,C⟩,_,⟨q,g,E⟩,⟨r3,f,D⟩,⟨G,i,I⟩⟩:=h;refine⟨⟨j,fs,Qi c ZE.l y,u⟩,ap,⟨r1,by rw[Zd (Z4 e c (by intro z;cases z))];exact e,C.imp fun _ _=>YS.put c ZE.l⟩,⟨_,Zg,?_⟩,⟨q,by rw[Zd (Z4 g c (by intro z;cases z))];exact g,E.imp fun _ _=>XQ.put c ZE.l⟩,⟨r3,by rw[Zd (Z4 f c (by intro z;cases z))];exact f,D.imp fun _ _=>Wb.put c ZE.l⟩,⟨G,by rw[Zd (Z4 i c (by intro z;cases z))];exact i,I.imp fun _ _=>Xu.put c ZE.l⟩⟩;exact(B.imp fun _ _=>Y1.put c ZE.l).snoc (J.put c ZE.l)
theorem Ye.addRu{a:NA}{N:Z1}{rows:List (Zt×V)}{x:Yj}(h:Ye t H n a N)(c:H a.dr=some (.dK rows))(C:Al (XQ t H) rows N.ru)(j:Zz rows (Sum.inr x.nm)=none)(J:XQ t H (Sum.inr x.nm,v) x) :
  Ye t (upd H a.dr (.dK (YB rows (Sum.inr x.nm) v))) n a { N with ru:=N.ru++[x] }:=by
 obtain⟨⟨f,fs,u,q⟩,ap,⟨r1,g,D⟩,⟨y,e,i⟩,_,⟨r3,B,E⟩,⟨G,L,I⟩⟩:=h;refine⟨⟨f,fs,Qi c ZE.k u,q⟩,ap,⟨r1,by rw[Zd (ap.sr)];exact g,D.imp fun _ _=>YS.put c ZE.k⟩,⟨y,by rw[Zd (Z4 e c (by intro z;cases z))];exact e,i.imp fun _ _=>Y1.put c ZE.k⟩,⟨_,Zg,?_⟩,⟨r3,by rw[Zd (ap.rt.symm)];exact B,E.imp fun _ _=>Wb.put c ZE.k⟩,⟨G,by rw[Zd (ap.rp.symm)];exact L,I.imp fun _ _=>Xu.put c ZE.k⟩⟩;rw[UG v j];exact(C.imp fun _ _=>XQ.put c ZE.k).snoc (J.put c ZE.k)
theorem Ye.addTk{a:NA}{N:Z1}{rows:List (Zt×V)}{x:WO}(h:Ye t H n a N)(c:H a.dt=some (.dK rows))(C:Al (Wb H) rows N.tk)(B:Zz rows (Sum.inr x.nm)=none)(L:Wb H (Sum.inr x.nm,v) x) :
  Ye t (upd H a.dt (.dK (YB rows (Sum.inr x.nm) v))) n a { N with tk:=N.tk++[x] }:=by
 obtain⟨⟨f,fs,u,q⟩,ap,⟨r1,g,D⟩,⟨y,e,i⟩,⟨j,E,G⟩,_,⟨I,M,J⟩⟩:=h;refine⟨⟨f,fs,Qi c ZE.k u,q⟩,ap,⟨r1,by rw[Zd (ap.st)];exact g,D.imp fun _ _=>YS.put c ZE.k⟩,⟨y,by rw[Zd (Z4 e c (by intro z;cases z))];exact e,i.imp fun _ _=>Y1.put c ZE.k⟩,⟨j,by rw[Zd (ap.rt)];exact E,G.imp fun _ _=>XQ.put c ZE.k⟩,⟨_,Zg,?_⟩,⟨I,by rw[Zd (ap.tp.symm)];exact M,J.imp fun _ _=>Xu.put c ZE.k⟩⟩;rw[UG v B];exact(C.imp fun _ _=>Wb.put c ZE.k).snoc (L.put c ZE.k)
theorem Ye.addTp{a:NA}{N:Z1}{rows:List (Zt×V)}{x:Tp}(h:Ye t H n a N)(c:H a.dp=some (.dK rows))(D:Al (Xu H) rows N.tp)(y:Zz rows (Sum.inr x.nm)=none)(L:Xu H (Sum.inr x.nm,v) x) :
  Ye t (upd H a.dp (.dK (YB rows (Sum.inr x.nm) v))) n a { N with tp:=N.tp++[x] }:=by
 obtain⟨⟨f,fs,u,q⟩,ap,⟨r1,g,E⟩,⟨B,e,i⟩,⟨j,I,J⟩,⟨r3,C,G⟩,_⟩:=h;refine⟨⟨f,fs,Qi c ZE.k u,q⟩,ap,⟨r1,by rw[Zd (ap.sp)];exact g,E.imp fun _ _=>YS.put c ZE.k⟩,⟨B,by rw[Zd (Z4 e c (by intro z;cases z))];exact e,i.imp fun _ _=>Y1.put c ZE.k⟩,⟨j,by rw[Zd (ap.rp)];exact I,J.imp fun _ _=>XQ.put c ZE.k⟩,⟨r3,by rw[Zd (ap.tp)];exact C,G.imp fun _ _=>Wb.put c ZE.k⟩,⟨_,Zg,?_⟩⟩;rw[UG v y];exact(D.imp fun _ _=>Xu.put c ZE.k).snoc (L.put c ZE.k)
inductive ZjG(t:Yd)(vs:List V)(H:Hp)(Q:VK)(_e3:XK):Prop|mk (n:Addr) (a:NA) (N:Z1) (x:Yh) (H0:Hp) (_:vs=[.ref n,.str x.nm,.int (x.z:Nat),.int (x.ch:Nat)]) (_:Ye t H n a N) (_:VN H0 a) (_:Zc H0 H) (_:YO x.nm) (_:1<=x.z) (_:x.z<=6) (_:x.ch<=30) (_:ZY Yh.nm N.st x.nm=none) (_:N.st.length<8) (_:∀H',Zc H0 H'->Ye t H' n a { N with st:=N.st++[x] }->Q .non H')
theorem ZjH(c:Zv K mg t):Zn P w K mg base Zo 4 t.kW t.kX ["self","name","zone","change"] (ZjG t):=by
 refine c.RV.F.ok Zg1 (by lia) fun U A outer s H Y Q E f h=>?_;obtain⟨n,a,N,x,T,rfl,B,M,S,D,z1,z6,Z,I,hlen,q⟩:=h;obtain⟨i,fs,u,j⟩:=B.ob;obtain⟨rows,g,y⟩:=B.st;have C:=(Xt (fun O x (h:YS H O x)=>h.1) y x.nm).1 I;have L:rows.length<8:=by rw[y.length];exact hlen
 refine⟨_,(Zh (Z3 (ZB c.Jm (Ly c) f Zl (Zm (pv 1) (ZK (pv 0) R)))) (Zh (Z3 (ZB c.Up (UQ c) f Zl (Ys (pv 2) Zb (YA R c.Rv)))) (Zh (Z3 (ZB c.Up (UQ c) f Zl (Ys (pv 3) Zb (YA R c.ZhC)))) (Zh (Z3 (ZB c.Qz (Lz c) f Zl (Zm (ZK (pv 0) R) (YA R c.Zhx)))) (Zi (VE (Xn f) (ZK (pv 0) R) (pv 1) (Ym (Zm (pv 2) (pv 3))) R)))))),?_⟩;sleep 5;refine⟨_,R,_,R,n,_,i,_,_,R,u,c.Yg,c.Jx,j.fs1,x.nm,a.ds,rows,R,g,D,C,fun X v=>?_⟩;refine⟨_,R,x.z,1,6,R,by lia,by lia,?_⟩;refine⟨_,R,x.ch,0,30,R,by lia,by lia,?_⟩;refine⟨_,R,n,_,i,_,_,R,v _ _ u,c.Yg,c.Jx,j.fs1,a.ds,rows,8,R,v _ _ g,by lia,?_⟩;refine⟨_,R,_,R,by show 2<=sizeLine;lia,fun r J=>?_⟩;have G:=Zu J (.tup [.int (x.z:Nat),.int (x.ch:Nat)]);have e:=v.trans G;refine⟨_,R,n,_,i,_,_,R,e _ _ u,c.Yg,c.Jx,j.fs1,_,R,a.ds,_,R,XV.k (k:=Sum.inr x.nm) (e _ _ g) (Nat.lt_trans L (by lia)),?_⟩;exact q _ (YW (S.trans e) M.s _) ((B.same e).addSt (e _ _ g) (y.imp fun _ _=>YS.same e) C ⟨R,r,R,Zg⟩)
inductive ZjI(t:Yd)(vs:List V)(H:Hp)(Q:VK)(_e3:XK):Prop|mk (n:Addr) (a:NA) (N:Z1) (x:Yj) (v:V) (H0:Hp) (_:vs=[.ref n,.str x.nm,v]) (_:Ye t H n a N) (_:VN H0 a) (_:Zc H0 H) (_:YO x.nm) (_:X0 t H v x.r) (_:x.r.Ok) (_:ZY Yj.nm N.ru x.nm=none) (_:N.ru.length<6) (_:∀H',Zc H0 H'->Ye t H' n a { N with ru:=N.ru++[x] }->Q .non H')
theorem ZjJ(c:Zv K mg t):Zn P w K mg base Zo 44 t.gA t.gB ["self","name","rule"] (ZjI t):=by
 refine c.RX.F.ok uV (by lia) fun X A outer s H vs a0 b0 g h=>?_;obtain⟨n,a,N,x,v,U,rfl,B,J,O,E,S,L,G,Q,q⟩:=h;obtain⟨i,fs,u,j⟩:=B.ob;obtain⟨rows,f,y⟩:=B.ru;have D:=(Xt (fun M x (h:XQ t H M x)=>h.1) y x.nm).1 G;have I:rows.length<6:=by rw[y.length];exact Q
 refine⟨_,(Zh (Z3 (ZB c.Jm (Ly c) g Zl (Zm (pv 1) (ZK (pv 0) R)))) (Zh (ZG 3 uV.nd (ZB c.UN (Zby c) g Zl (Zk (pv 2)))) (Zh (Z3 (ZB c.Qz (Lz c) g Zl (Zm (ZK (pv 0) R) (YA R c.Zhz)))) (Zi (VE (Xn g) (ZK (pv 0) R) (pv 1) (pv 3) R))))),?_⟩;sleep 4;refine⟨_,R,_,R,n,_,i,_,_,R,u,c.Yg,c.QB,j.fr,x.nm,a.dr,rows,R,f,E,D,fun Y C=>?_⟩;refine⟨_,R,v,x.r,R,S.same C,L,trivial,fun v' Z s2 T=>?_⟩;have e:=C.trans s2;refine⟨_,R,n,_,i,_,_,R,e _ _ u,c.Yg,c.QB,j.fr,a.dr,rows,6,R,e _ _ f,by lia,?_⟩;refine⟨_,R,_,R,n,_,i,_,_,R,e _ _ u,c.Yg,c.QB,j.fr,_,R,a.dr,_,R,XV.k (k:=Sum.inr x.nm) (e _ _ f) (Nat.lt_trans I (by lia)),?_⟩;exact q _ (YW (O.trans e) J.r _) ((B.same e).addRu (e _ _ f) (y.imp fun _ _=>XQ.same e) D ⟨R,T⟩)
inductive ZjK(t:Yd)(vs:List V)(H:Hp)(Q:VK)(_e3:XK):Prop|mk (n:Addr) (a:NA) (N:Z1) (k:WO) (zl:Addr) (H0:Hp) (_:vs=[.ref n,.str k.nm,.int (k.pr:Nat),.int (k.la:Nat),.ref zl]) (_:Ye t H n a N) (_:VN H0 a) (_:Zc H0 H) (_:H zl=some (.lst (Yx k.zs))) (_:k.Ok) (_:ZY WO.nm N.tk k.nm=none) (_:N.tk.length<3) (_:∀H',Zc H0 H'->Ye t H' n a { N with tk:=N.tk++[k] }->Q .non H')
theorem ZjL(c:Zv K mg t):Zn P w K mg base Zo 4 t.gC t.gE ["self","name","price","lasts","zones"] (ZjK t):=by
 refine c.RY.F.ok Zg3 (by lia) fun X A outer s H Z a0 b0 f h=>?_;obtain⟨n,a,N,k,G,U,rfl,B,O,T,C,ok,J,hlen,q⟩:=h;obtain⟨j,fs,v,u⟩:=B.ob;obtain⟨rows,i,y⟩:=B.tk;have I:=(Xt (fun S x (h:Wb H S x)=>h.1) y k.nm).1 J;have M:rows.length<3:=by rw[y.length];exact hlen
 refine⟨_,(Zh (Z3 (ZB c.Jm (Ly c) f Zl (Zm (pv 1) (ZK (pv 0) R)))) (Zh (Z3 (ZB c.Up (UQ c) f Zl (Ys (pv 2) Zb (YA R c.ZhE)))) (Zh (Z3 (ZB c.Up (UQ c) f Zl (Ys (pv 3) Zb (YA R c.ZhF)))) (Zh (ZN (YE (YD (ZB c.K2 (To c) f Zl (Wz (pv 4) (YA R c.Rv) Zb (YA R c.Rv))))) (Zi Y9) ZP) (Zh (Z3 (ZB c.Qz (Lz c) f Zl (Zm (ZK (pv 0) R) (YA R c.ZhA)))) (Zi (VE (Xn f) (ZK (pv 0) R) (pv 1) (Ym (Ys (pv 2) (pv 3) (Yw D8 R c.Qy Qx (Zk (pv 4))))) R))))))),?_⟩;sleep 6;refine⟨_,R,_,R,n,_,j,_,_,R,v,c.Yg,c.Ll,u.ft,k.nm,a.dt,rows,R,i,ok.nm,I,fun Y g=>?_⟩;refine⟨_,R,k.pr,0,10000,R,by lia,by have:=ok.pr;lia,?_⟩;refine⟨_,R,k.la,1,1440,R,by have:=ok.la1;lia,by have:=ok.la;lia,?_⟩;refine⟨_,R,G,k.zs,6,1,6,R,g _ _ C,ok.z1,ok.z6,ok.up,fun x E=>⟨(ok.rng x E).1,by have:=(ok.rng x E).2;lia⟩,_,R,Zp (by lia) ?_⟩;sleep 1;refine⟨_,R,n,_,j,_,_,R,g _ _ v,c.Yg,c.Ll,u.ft,a.dt,rows,3,R,g _ _ i,by lia,?_⟩;refine⟨_,R,_,R,_,R,G,_,R,.inl ⟨Zf.of (g _ _ C),fun p Q=>?_⟩⟩;have s2:=Zu Q (.tup (Yx k.zs));refine⟨by show 3<=sizeLine;lia,fun r L=>?_⟩;have D:=Zu L (.tup [.int (k.pr:Nat),.int (k.la:Nat),.ref p]);have e:=(g.trans s2).trans D;refine⟨_,R,n,_,j,_,_,R,e _ _ v,c.Yg,c.Ll,u.ft,_,R,a.dt,_,R,XV.k (k:=Sum.inr k.nm) (e _ _ i) (Nat.lt_trans M (by lia)),?_⟩;exact q _ (YW (T.trans e) O.t _) ((B.same e).addTk (e _ _ i) (y.imp fun _ _=>Wb.same e) I ⟨R,r,p,R,Zg,D _ _ Zg⟩)
inductive ZjM(t:Yd)(vs:List V)(H:Hp)(Q:VK)(_e3:XK):Prop|mk (n:Addr) (N:Z1) (z:Str) (_:vs=[.ref n,.str z]) (_:Wd t H n N) (_:(ZY Yh.nm N.st z).isSome=true) (_:Q .non H)
theorem TC(c:Zv K mg t):Zn P w K mg base Zo 2 t.gH t.gJ ["self","name"] (ZjM t):=by
 refine c.QA.F.ok Zg4 (by lia) fun D A outer s H G Q E C h=>?_;obtain⟨n,N,z,rfl,⟨a,f⟩,y,q⟩:=h;obtain⟨g,fs,u,j⟩:=f.ob;obtain⟨rows,i,B⟩:=f.st;obtain⟨x,ex⟩:=Option.isSome_iff_exists.mp y;obtain⟨e,v,_⟩:=(Xt (fun e x (h:YS H e x)=>h.1) B z).2 x ex;refine⟨_,(Zi (ZN (YE (YD (ZB c.B1 (JG c) C Zl (Zm (pv 1) (ZK (pv 0) R))))) (Zi Y9) ZP)),?_⟩;sleep 1;exact⟨_,R,_,R,n,_,g,_,_,R,u,c.Yg,c.Jx,j.fs1,z,a.ds,rows,R,i,_,R,Zp (by rw[v];exact SO) q⟩
inductive ZjN(t:Yd)(vs:List V)(H:Hp)(Q:VK)(_e3:XK):Prop|mk (n:Addr) (N:Z1) (z:Str) (_:vs=[.ref n,.str z]) (_:Wd t H n N) (_:(ZY Tp.nm N.tp z).isSome=true) (_:Q .non H)
theorem ZbA(c:Zv K mg t):Zn P w K mg base Zo 2 t.gK t.gL ["self","name"] (ZjN t):=by
 refine c.Jq.F.ok Zg5 (by lia) fun D A outer s H G Q E C h=>?_;obtain⟨n,N,z,rfl,⟨a,f⟩,y,q⟩:=h;obtain⟨g,fs,u,j⟩:=f.ob;obtain⟨rows,i,B⟩:=f.tp;obtain⟨x,ex⟩:=Option.isSome_iff_exists.mp y;obtain⟨e,v,_⟩:=(Xt (fun e x (h:Xu H e x)=>h.1) B z).2 x ex;refine⟨_,(Zi (ZN (YE (YD (ZB c.B1 (JG c) C Zl (Zm (pv 1) (ZK (pv 0) R))))) (Zi Y9) ZP)),?_⟩;sleep 1;exact⟨_,R,_,R,n,_,g,_,_,R,u,c.Yg,c.Qd,j.fp,z,a.dp,rows,R,i,_,R,Zp (by rw[v];exact SO) q⟩
inductive ZjO(t:Yd)(vs:List V)(H:Hp)(Q:VK)(_e3:XK):Prop|mk (n:Addr) (N:Z1) (_:vs=[.ref n]) (_:Wd t H n N) (_:∀l,H l=none->Q (.ref l) (upd H l (.lst ((N.tp.map Tp.nm).map V.str))))
theorem ZjP{rows:List (Zt×V)}{tp:List Tp}(h:Al (Xu H) rows tp):(rows.map fun c=>kV c.1)=(tp.map Tp.nm).map V.str:=by
 induction h with
 |nil=>rfl
 |cons a _ e=>rw[SM,SM,SM,e,a.1];rfl
theorem ZbB(c:Zv K mg t):Zn P w K mg base Zo 1 t.gQ t.gR ["self"] (ZjO t):=by
 refine c.Jr.F.ok Zg8 (by lia) fun y A outer s H x Q E B h=>?_;obtain⟨n,N,rfl,⟨a,e⟩,q⟩:=h;obtain⟨f,fs,j,i⟩:=e.ob;obtain⟨rows,u,v⟩:=e.tp;refine⟨_,(Zi (ZA (Yw (F7 R) R c.Wm Wj (Zk (ZK (pv 0) R))))),?_⟩;sleep 1;refine⟨_,R,n,_,f,_,_,R,j,c.Yg,c.Qd,i.fp,a.dp,rows,R,u,fun l g=>?_⟩;rw[ZjP v];exact q l g
inductive ZjQ(t:Yd)(vs:List V)(H:Hp)(Q:VK)(_e3:XK):Prop|mk (n:Addr) (N:Z1) (z:Str) (x:Tp) (_:vs=[.ref n,.str z]) (_:Wd t H n N) (_:ZY Tp.nm N.tp z=some x) (_:∀l vs H',Zc H H'->H l=none->H' l=some (.lst vs)->Al (Yp H') vs x.cs->Q (.ref l) H')
theorem ZjR(c:Zv K mg t):Zn P w K mg base Zo 3 t.gZ t.Zaa ["self","trip"] (ZjQ t):=by
 refine c.R8.F.ok Zhb (by lia) fun T A outer s H B Q E u h=>?_;obtain⟨n,N,z,x,rfl,j,ex,q⟩:=h;have J:=j;obtain⟨a,y⟩:=J;obtain⟨f,fs,i,g⟩:=y.ob;obtain⟨rows,C,O⟩:=y.tp;obtain⟨v,G,_,r,I,B,D,S,M,L⟩:=(Xt (fun v x (h:Xu H v x)=>h.1) O z).2 x ex;refine⟨_,(Zh (Z3 (YY (pv 0) c.Yg c.Jq.me (ZbA c) (u.mono (by lia)) c.Jq.b .nil Zl (Zk (pv 1)))) (Zi (ZA (Yw U1 R c.Wm Wj (Zk (Zs ZF (YT u (ZK (pv 0) R) (pv 1)) Zb)))))),?_⟩;sleep 2;refine⟨_,R,n,f,_,R,i,g.n_check_trip,_,R,n,N,z,R,j,by rw[ex];rfl,?_⟩;refine⟨_,R,n,_,f,_,_,R,i,c.Yg,c.Qd,g.fp,_,R,a.dp,.ref r,R,?_,r,_,1,_,R,R,Zj.of S,R,I,_,R,.inr (Zj.of M),fun l e=>?_⟩
 ·rw[<-D,<-G];exact Yr.k (k:=Sum.inr z) C
 ·exact q l B _ (Zu e _) e Zg (L.imp fun _ _=>Yp.same (Zu e _))
inductive ZjS(t:Yd)(vs:List V)(H:Hp)(Q:VK)(_e3:XK):Prop|mk (n:Addr) (N:Z1) (z:Str) (x:Tp) (_:vs=[.ref n,.str z]) (_:Wd t H n N) (_:ZY Tp.nm N.tp z=some x) (_:Q (.str x.ru) H)
theorem ZjT(c:Zv K mg t):Zn P w K mg base Zo 3 t.gX t.gY ["self","trip"] (ZjS t):=by
 refine c.R7.F.ok Zha (by lia) fun L A outer s H J Q E j h=>?_;obtain⟨n,N,z,x,rfl,i,ex,q⟩:=h;have D:=i;obtain⟨a,v⟩:=D;obtain⟨e,fs,g,f⟩:=v.ob;obtain⟨rows,y,G⟩:=v.tp;obtain⟨u,C,_,r,M,J,B,I,S,O⟩:=(Xt (fun u x (h:Xu H u x)=>h.1) G z).2 x ex;refine⟨_,(Zh (Z3 (YY (pv 0) c.Yg c.Jq.me (ZbA c) (j.mono (by lia)) c.Jq.b .nil Zl (Zk (pv 1)))) (Zi (ZA (Zs ZF (YT j (ZK (pv 0) R) (pv 1)) Zb)))),?_⟩;sleep 2;refine⟨_,R,n,e,_,R,g,f.n_check_trip,_,R,n,N,z,R,i,by rw[ex];rfl,?_⟩;refine⟨_,R,n,_,e,_,_,R,g,c.Yg,c.Qd,f.fp,_,R,a.dp,.ref r,R,?_,r,_,0,_,R,R,Zj.of I,R,q⟩;rw[<-B,<-C];exact Yr.k (k:=Sum.inr z) y
inductive ZjU(t:Yd)(vs:List V)(H:Hp)(Q:VK)(_e3:XK):Prop|mk (n:Addr) (N:Z1) (z:Str) (x:Yj) (_:vs=[.ref n,.str z]) (_:Wd t H n N) (_:ZY Yj.nm N.ru z=some x) (_:x.r.Ok) (_:∀v' H',Zc H H'->X0 t H' v' x.r->Q v' H')
theorem ZjV(c:Zv K mg t):Zn P w K mg base Zo 44 t.gU t.gW ["self","name"] (ZjU t):=by
 refine c.R6.F.ok Zg9 (by lia) fun D A outer s H G Q E f h=>?_;obtain⟨n,N,z,x,rfl,⟨a,y⟩,ex,ok,q⟩:=h;obtain⟨g,fs,u,j⟩:=y.ob;obtain⟨rows,i,C⟩:=y.ru;obtain⟨e,v,_,B⟩:=(Xt (fun e x (h:XQ t H e x)=>h.1) C z).2 x ex;refine⟨_,(Zh (ZN (YE (YD (ZB c.B1 (JG c) f Zl (Zm (pv 1) (ZK (pv 0) R))))) (Zi Y9) ZP) (Zi (ZA (ZB c.UN (Zby c) f Zl (Zk (YT f (ZK (pv 0) R) (pv 1))))))),?_⟩;sleep 2;refine⟨_,R,_,R,n,_,g,_,_,R,u,c.Yg,c.QB,j.fr,z,a.dr,rows,R,i,_,R,Zp (by rw[v];exact SO) ?_⟩;sleep 1;refine⟨_,R,n,_,g,_,_,R,u,c.Yg,c.QB,j.fr,_,R,a.dr,e.2,R,?_,e.2,x.r,R,B,ok,trivial,q⟩;rw[<-v];exact Yr.k (k:=Sum.inr z) i
theorem Qj(h:YO z):(PyData.str z).canLay0=true:=by
 simp only[PyData.canLay0];show z.cps.all (fun c=>decide (c<0x110000))=true;rw[<-Array.all_toList,List.all_eq_true];intro c e;have:=h.2.2.1 c e;exact SQ (by lia)
def JI(c:List Wl)(a b:Str):Bool:=c.any fun x=>(a == x.o && b == x.t) || (b == x.o && a == x.t)
inductive ZjW(K:Ow)(vs:List V)(H:Hp)(Q:VK)(_e3:XK):Prop|mk (l:Addr) (xs:List V) (n:Int) (_:vs=[.ref l,.int n]) (_:Zf K H l xs) (_:(xs.length:Int)<n) (_:Q .non H)
theorem ZjX(c:Zv K mg t):Zn P w K mg base Zo 1 t.PD t.PF ["kept","most"] (ZjW K):=by
 refine c.Qz.F.ok uH (by lia) fun i A outer s H g Q E j h=>?_;obtain⟨d,e,n,rfl,hd,f,q⟩:=h;refine⟨_,(Zi (ZN (zM zL (yG XH R c.Xr Xq (YM (pv 0) Xl)) (pv 1) (Ui _))
  (Zi Y9)
  ZP)),?_⟩
 sleep 1;exact⟨_,R,d,e,R,.inl hd,_,R,_,_,R,R,_,R,Zp (by rw[SR (by lia)];lia) q⟩
inductive ZjY(t:Yd)(vs:List V)(H:Hp)(Q:VK)(_e3:XK):Prop|mk (n:Addr) (N:Z1) (a b:Str) (_:vs=[.ref n,.str a,.str b]) (_:Wd t H n N) (_:YO a) (_:YO b) (_:(∀x∈N.wk,YO x.o/\YO x.t)) (_:N.wk.length<=12) (_:∀H',Zc H H'->Q (.bl (JI N.wk a b)) H')
theorem ZjZ(f:Zv K mg t):Zn P w K mg base Zo 1 t.gO t.gP ["self","one","other"] (ZjY t):=by
 refine f.R1.F.ok Zg7 (by lia) fun e0 A outer s H vs f0 g0 hr h=>?_;obtain⟨d0,N,a,b,rfl,⟨y,J⟩,O,D,c0,Z,a0⟩:=h;obtain⟨Q,fs,T,S⟩:=J.ob;obtain⟨X,u,q⟩:=J.wk;refine⟨_,(Zi (ZA (ZM (vC R) f.Zat uZ (Zk (VC (cl:=[(OJ "other",s.heap.objs.size+2),(OJ "one",s.heap.objs.size+1)]) (N:=["walk","one","other"]) (fr:=[none,some 1,some 2]) R (WB (ZK (pv 0) R)) R (by lia) R (by lia) ⟨⟨R,Or.inl R,Or.inl R,_,R,R⟩,⟨⟨R,Or.inl R,Or.inl R,_,R,R⟩,trivial⟩⟩ ⟨R,⟨R,trivial⟩⟩ R (fun _ _ _ _ _=>(Z0 0 (show List.Nodup (["walk","one","other"]:OB) by lia))) (fun _ _ _ _ _=>V0) (fun _ _ _ _ _=>(Vd (show YF _ (compareOp .In) (vA K false)from ZfC hr.units) (Ym (Zm (Zs (show X3 _ (Vy K)from ZF) (pv 0) Zb) (Zs (show X3 _ (Vy K)from ZF) (pv 0) Zb))) (Ym (Zm (Ym (Zm (pv 1) (pv 2))) (Ym (Zm (pv 2) (pv 1))))) R))))))),?_⟩;sleep 1;refine⟨_,R,d0,_,Q,_,_,R,T,f.Yg,f.Lk,S.fw,y.lw,R,⟨_,Zf.of u⟩,Uj (K:=K) (a:=y.lw) (xs:=X) (fun i j e L=>Zc H L/\(∃v,e=[v,some (.str a),some (.str b)])/\j=((N.wk.take i).map fun x=>(a == x.o && b == x.t) || (b == x.o && a == x.t)).map V.bl) ⟨Zc.refl H,⟨_,R⟩,R⟩
  (Sh (show _<=12 by rw[q.length];exact Z) (by lia)) (fun i j e L _ ⟨s',_⟩=>Zf.of (s' _ _ u)) ?_ ?_⟩
 ·rintro i v j e H1 E hv ⟨c,⟨v0,rfl⟩,rfl⟩
  obtain⟨x,ex,M,rfl,b0⟩:=q.get hv;have B:=c0 x (SK ex);have I:=c _ _ b0;dsimp only[Xw,VB];rw[SW R];refine⟨_,R,M,_,0,_,R,R,Zj.of I,R,_,R,M,_,1,_,R,R,Zj.of I,R,by show 2<=sizeLine;lia,fun p1 g1=>?_⟩;have Y:=Zu g1 (.tup [.str x.o,.str x.t]);refine⟨_,R,_,R,by show 2<=sizeLine;lia,fun C g2=>?_⟩;have G:=Zu g2 (.tup [.str a,.str b]);refine⟨_,R,_,R,by show 2<=sizeLine;lia,fun p3 g3=>?_⟩;have n:=Zu g3 (.tup [.str b,.str a]);refine⟨by show 2<=sizeLine;lia,fun p4 g4=>?_⟩;have g:=Zu g4 (.tup [.ref C,.ref p3]);have k1:=((G.trans n).trans g) p1 _ Zg;have k2:=(n.trans g) C _ Zg;have U:=g p3 _ Zg;have S4:=(((c.trans Y).trans G).trans n).trans g;refine⟨p4,_,.tuple [.str x.o,.str x.t],[.tuple [.str a,.str b],.tuple [.str b,.str a]],R,.inr (Zj.of Zg),.tup (Zj.of k1) (.cons (.str _ (Qj B.1)) (.cons (.str _ (Qj B.2)) .nil)),.cons (.tup (Zj.of k2) (.cons (.str _ (Qj O)) (.cons (.str _ (Qj D)) .nil))) (.cons (.tup (Zj.of U) (.cons (.str _ (Qj D)) (.cons (.str _ (Qj O)) .nil))) .nil),?_,?_⟩
  ·simp[PyData.depth,PyData.depthAll]
  refine⟨by rw[Su,Sw];lia,S4,⟨_,R⟩,?_⟩;rw[S0,ex,SL,SL]
  congr 1
  simp[PyData.eqv,PyData.eqvAll]
 ·rintro j e H1 ha ⟨c,⟨v0,rfl⟩,rfl⟩ l E
  rw[q.length,List.take_length];refine⟨l,_,R,Zf.of Zg,?_⟩;rw[List.any_map];exact a0 _ (c.trans (Zu E _))
inductive Zj0(t:Yd)(vs:List V)(H:Hp)(Q:VK)(_e3:XK):Prop|mk (n:Addr) (a:NA) (N:Z1) (x:Wl) (H0:Hp) (_:vs=[.ref n,.str x.o,.str x.t,.int (x.m:Nat)]) (_:Ye t H n a N) (_:VN H0 a) (_:Zc H0 H) (_:(∀y∈N.wk,YO y.o/\YO y.t)) (_:YO x.o) (_:YO x.t) (_:(ZY Yh.nm N.st x.o).isSome=true) (_:(ZY Yh.nm N.st x.t).isSome=true) (_:x.o≠x.t) (_:JI N.wk x.o x.t=false) (_:1<=x.m) (_:x.m<=60) (_:N.wk.length<12) (_:∀H',Zc H0 H'->Ye t H' n a { N with wk:=N.wk++[x] }->Q .non H')
theorem Zj1(c:Zv K mg t):Zn P w K mg base Zo 4 t.kY t.kZ ["self","one","other","minutes"] (Zj0 t):=by
 refine c.RW.F.ok Zg2 (by lia) fun U A outer s b0 vs a0 c0 j h=>?_;obtain⟨n,a,N,x,S,rfl,e,L,M,O,Q,E,H,D,ne,I,T,Z,X,q⟩:=h;obtain⟨f,fs,i,g⟩:=e.ob;refine⟨_,(Zh (Z3 (YY (pv 0) c.Yg c.QA.me (TC c) (j.mono (by lia)) c.QA.b .nil Zl (Zk (pv 1)))) (Zh (Z3 (YY (pv 0) c.Yg c.QA.me (TC c) (j.mono (by lia)) c.QA.b .nil Zl (Zk (pv 2)))) (Zh (ZN (PW.pt (Uv (Yy Y4 (pv 1) (pv 2)) (UY (YD (YY (pv 0) c.Yg c.R1.me (ZjZ c) (j.mono (by lia)) c.R1.b .nil Zl (Zm (pv 1) (pv 2))))))) (Zi Y9) ZP) (Zh (Z3 (ZB c.Up (UQ c) j Zl (Ys (pv 3) Zb (YA R c.ZhD)))) (Zh (Z3 (ZB c.Qz (ZjX c) j Zl (Zm (ZK (pv 0) R) (YA R c.Zhy)))) (Zi (Z3 (U2 PySem.F.plainAttrs_list PySem.F.slot_list_append PySem.F.type_list_append Qr (ZK (pv 0) R) (Zk (Ym (Ys (pv 1) (pv 2) (pv 3)))))))))))),?_⟩;sleep 6;refine⟨_,R,n,f,_,R,i,g.n_check_stop,_,R,n,N,x.o,R,⟨a,e⟩,H,?_⟩;refine⟨_,R,n,f,_,R,i,g.n_check_stop,_,R,n,N,x.t,R,⟨a,e⟩,D,?_⟩;refine⟨_,R,_,R,R,_,R,Zp (by show ¬ decide (V.str x.o=V.str x.t)=true;simp[ne]) ?_⟩;refine⟨_,R,n,f,_,R,i,g.n_has_walk,_,R,_,R,n,N,x.o,x.t,R,⟨a,e⟩,Q,E,O,by lia,fun Y u=>?_⟩;rw[I];refine⟨_,R,Zp SO ?_⟩;sleep 1;obtain⟨G,v,y⟩:=(e.same u).wk;refine⟨_,R,x.m,1,60,R,by lia,by lia,?_⟩;refine⟨_,R,n,_,f,_,_,R,u _ _ i,c.Yg,c.Lk,g.fw,a.lw,G,12,R,Zf.of v,by rw[y.length];lia,?_⟩;refine⟨_,R,n,_,f,_,_,R,u _ _ i,c.Yg,c.Lk,g.fw,.inl ⟨R,_,Zf.of v⟩,_,R,_,R,_,R,by show 3<=sizeLine;lia,fun r J=>?_⟩;have s2:=Zu J (.tup [.str x.o,.str x.t,.int (x.m:Nat)]);have C:=u.trans s2;have B:=s2 _ _ v;refine⟨a.lw,_,_,R,R,B,Sj (show _<=12 by rw[y.length];lia) (by lia),?_⟩;exact q _ (YW (M.trans C) L.w _) ((e.same C).addWk B (y.imp fun _ _=>Y1.same s2) ⟨r,R,Zg⟩)
inductive Zj2(K:Ow)(vs:List V)(H:Hp)(Q:VK)(_e3:XK):Prop|mk (l:Addr) (vs':List V) (cs:List Cl) (_:vs=[.ref l]) (_:H l=some (.lst vs')) (_:Al (Yp H) vs' cs) (_:2<=cs.length) (_:cs.length<=6) (_:∀H',Zc H H'->Q (.bl true) H')
theorem Zj3(f:Zv K mg t):Zn P w K mg base Zo 1 t.qT t.qU ["calls"] (Zj2 K):=by
 refine f.ZaC.F.ok ZgD (by lia) fun S A outer s H Y Q E U h=>?_;obtain⟨l,g,cs,rfl,n,G,Z,O,q⟩:=h;have lv:=G.length;refine⟨_,(Zh (ZN (PW.pt (Uv (YE (YD (ZM VY f.YR YQ (Zm (pv 0) (VA R f.Wm Wj))))) (UY (YE (JZ Wt Wt (YA R f.ZhG) (ZM XH f.Xr Xq (Zk (pv 0))) (YA R f.ZhH)))))) (Zi (ZA WS)) ZP) (Zi (ZA (ZM (yW R) f.Zas uY (Zk (VC (cl:=[]) (N:=["call"]) (fr:=[none]) R (WB (pv 0)) R (by lia) R (by lia) trivial trivial R (fun _ _ _ _ _=>(Z0 0 (show List.Nodup (["call"]:OB) by lia))) (fun _ _ _ _ _=>V0) (fun _ _ _ _ _=>(Uw (ZM (show YV _ (.builtin "isinstance") (fun xs H Q=>∃x T t b,xs=[x,V.ty T]/\X2 K H x t/\W.kitOne K t (Value.type T)=some b/\Q (V.bl b) H)from VY) f.YR YQ (Zm (pv 0) (VA R f.Qy Qx))) (Vb (Vd Y4 (ZM (show YV _ (.builtin "len") (fun xs H Q=>∃p D,xs=[V.ref p]/\(Zf K H p D\/Zj K H p D)/\Q (V.int ↑D.length) H)from XH) f.Xr Xq (Zk (pv 0))) Zb (Ui _))))))))))),?_⟩;sleep 2;refine⟨_,R,.ref l,"list",_,_,R,.lst n,R,_,R,Zp (by lia) ?_⟩;refine⟨_,R,l,_,R,.inl (Zf.of n),_,_,R,R,_,R,Z9 (SQ (by lia)) ?_⟩;refine⟨_,_,R,R,_,R,Zp (by rw[SQ (show((g.length:Nat):Int)<=6 by lia)];lia) ?_⟩;sleep 1;refine⟨_,R,l,R,⟨_,Zf.of n⟩,Uj (K:=K) (a:=l) (xs:=g) (fun i B j C=>C=H/\B=(List.replicate i true).map V.bl/\∃v,j=[v]) ⟨R,R,_,R⟩ (Sh (show _<=6 by lia) (by lia)) (fun i B j C _ ⟨e,_⟩=>by rw[e];exact Zf.of n) ?_ ?_⟩
 ·rintro i y B j C M I ⟨rfl,rfl,v,rfl⟩
  obtain⟨c,X,p,rfl,u⟩:=G.get I;dsimp only[Xw,VB];rw[SW R];refine⟨_,R,.ref p,"tuple",_,_,R,.tup u,R,_,R,Z9 (by lia) ⟨_,R,p,_,R,.inr (Zj.of u),R,?_⟩⟩;refine⟨by rw[Su,Sw];lia,R,?_,_,R⟩;rw[List.replicate_succ',SL];rfl
 ·rintro B j C ha ⟨rfl,rfl,v,rfl⟩ p u
  refine⟨p,List.replicate g.length true,R,Zf.of Zg,?_⟩;have L:=q _ (Zu u (.lst ((List.replicate g.length true).map V.bl)));rw[show(List.replicate g.length true).all id=true by rw[List.all_eq_true];intro x J;rw[(List.mem_replicate.mp J).2];rfl];exact L
theorem ZbC{c:Cl}(h:Yp H v c):Y8 H v (c.st,((c.ar:Nat):Int),((c.lv:Nat):Int)):=h
theorem Zj4{c k:Cl}(h:c.st≠k.st/\k.lv<c.ar):UP (c.st,((c.ar:Nat):Int),((c.lv:Nat):Int)) (k.st,((k.ar:Nat):Int),((k.lv:Nat):Int))=true:=by
 unfold UP;rw[Bool.and_eq_true];refine⟨?_,SQ (show((k.lv:Nat):Int)<((c.ar:Nat):Int) by lia)⟩;show(!decide (V.str c.st=V.str k.st))=true;simpa using h.1
theorem Zj5{c:Type}{nm:c->Str}{xs:List c}{z:Str}(h:z∈xs.map nm):(ZY nm xs z).isSome=true:=by
 obtain⟨x,f,rfl⟩:=SJ.mp h;obtain⟨y,e⟩:=LA (nm:=nm) f;rw[e];rfl
inductive Zj6(t:Yd)(vs:List V)(H:Hp)(Q:VK)(_e3:XK):Prop|mk (n:Addr) (N:Z1) (v:V) (c:Cl) (_:vs=[.ref n,v]) (_:Wd t H n N) (_:Yp H v c) (_:(ZY Yh.nm N.st c.st).isSome=true) (_:c.ar<=c.lv) (_:c.lv<=2879) (_:Q .non H)
theorem Zj7(e:Zv K mg t):Zn P w K mg base Zo 4 t.gM t.gN ["self","call"] (Zj6 t):=by
 refine e.R0.F.ok Zg6 (by lia) fun G A outer s H J Q E g h=>?_;obtain⟨n,N,v,c,rfl,i,⟨p,rfl,f⟩,y,D,I,q⟩:=h;have B:=i;obtain⟨a,C⟩:=B;obtain⟨j,fs,x,u⟩:=C.ob;refine⟨_,(Zh (Z3 (YY (pv 0) e.Yg e.QA.me (TC e) (g.mono (by lia)) e.QA.b .nil Zl (Zk (Zs ZF (pv 1) Zb)))) (Zh (Z3 (ZB e.Up (UQ e) g Zl (Ys (Zs ZF (pv 1) Zb) Zb (YA R e.Ru)))) (Zh (Z3 (ZB e.Up (UQ e) g Zl (Ys (Zs ZF (pv 1) Zb) Zb (YA R e.Ru)))) (Zi (ZN (Yy LY (Zs ZF (pv 1) Zb) (Zs ZF (pv 1) Zb)) (Zi Y9) ZP))))),?_⟩;sleep 4;refine⟨_,R,n,j,_,R,x,u.n_check_stop,_,R,p,_,0,_,R,R,Zj.of f,R,n,N,c.st,R,i,y,?_⟩;refine⟨_,R,p,_,1,_,R,R,Zj.of f,R,c.ar,0,2879,R,by lia,by lia,?_⟩;refine⟨_,R,p,_,2,_,R,R,Zj.of f,R,c.lv,0,2879,R,by lia,by lia,?_⟩;exact⟨_,R,p,_,2,_,R,R,Zj.of f,R,_,R,p,_,1,_,R,R,Zj.of f,R,_,_,R,R,_,R,Zp (by rw[SR (by lia)];lia) q⟩
inductive Zj8(t:Yd)(K:Ow)(vs:List V)(H:Hp)(Q:VK)(_e3:XK):Prop|mk (n:Addr) (a:NA) (N:Z1) (x:Tp) (l:Addr) (vs':List V) (H0:Hp) (_:vs=[.ref n,.str x.nm,.str x.ru,.ref l]) (_:Ye t H n a N) (_:VN H0 a) (_:Zc H0 H) (_:H l=some (.lst vs')) (_:Al (Yp H) vs' x.cs) (_:Vq (N.st.map Yh.nm) x.cs) (_:2<=x.cs.length) (_:x.cs.length<=6) (_:YO x.nm) (_:(ZY Yj.nm N.ru x.ru).isSome=true) (_:ZY Tp.nm N.tp x.nm=none) (_:N.tp.length<10) (_:∀H',Zc H0 H'->Zc (wo H a.dp) H'->Ye t H' n a { N with tp:=N.tp++[x] }->Q .non H')
theorem Zj9(f:Zv K mg t):Zn P w K mg base Zo 6 t.gF t.gG ["self","name","rule","calls"] (Zj8 t K):=by
 refine f.RZ.F.ok Pf (by lia) fun q0 A outer s H vs Q r0 C h=>?_;obtain⟨n,a,N,x,l,g,H0,rfl,J,hW,s0,G,E,ok,c2,c6,l0,c0,hf,hlen,n0⟩:=h;obtain⟨O,fs,M,L⟩:=J.ob;obtain⟨rows,T,X⟩:=J.tp;obtain⟨e0,b0,i0⟩:=J.ru;obtain⟨ry,h0⟩:=Option.isSome_iff_exists.mp c0;obtain⟨t0,j0,_⟩:=(Xt (fun Z x (h:XQ t H Z x)=>h.1) i0 x.ru).2 ry h0;have hv:=(Xt (fun Z x (h:Xu H Z x)=>h.1) X x.nm).1 hf;have m0:rows.length<10:=by rw[X.length];exact hlen
 have lv:=E.length;have d0:g.length<=sizeLine:=Sh (show g.length<=6 by lia) (by lia);refine⟨_,(Zh (Z3 (ZB f.Jm (Ly f) C Zl (Zm (pv 1) (ZK (pv 0) R)))) (Zh (ZN (YE (YD (ZB f.B1 (JG f) C Zl (Zm (pv 2) (ZK (pv 0) R))))) (Zi Y9) ZP) (Zh (ZN (YE (YD (ZB f.ZaC (Zj3 f) C Zl (Zk (pv 3))))) (Zi Y9) ZP) (Zh (Xs (wI R f.Zav (Zk (pv 3))) (Vw (n:=2) R (YU (Z0 4 Pf.nd) (YU (Z0 5 Pf.nd) Vv))) (Zh (Z3 (YY (pv 0) f.Yg f.R0.me (Zj7 f) (C.mono (by lia)) f.R0.b .nil Zl (Zk (pv 5)))) (Zi (ZN (PW.pt (LO (Yy D4 (pv 4) Zb) (LN (YE (YD (ZB f.Rw (Zbx f) C Zl (Zm (pv 5) (Zs YL (pv 3) (Ze Ws (pv 4) Zb))))))))) (Zi Y9) ZP)))) (Zh (Z3 (ZB f.Qz (Lz f) C Zl (Zm (ZK (pv 0) R) (YA R f.ZhB)))) (Zi (VE (Xn C) (ZK (pv 0) R) (pv 1) (Ym (Zm (pv 2) (Yw D8 R f.Qy Qx (Zk (VC (cl:=[]) (N:=["call"]) (fr:=[none]) R (WB (pv 3)) R (by lia) R (by lia) trivial trivial R (fun _ _ _ _ _=>(Z0 0 (show List.Nodup (["call"]:OB) by lia))) (fun _ _ _ _ _=>V0) (fun _ _ _ _ _=>(Yw (show YV _ (.type "tuple") (fun xs H Q=>∃p ys,xs=[.ref p]/\((Zf K H p ys/\∀l,H l=none->Q (.ref l) (upd H l (.tup ys)))\/(Zj K H p ys/\Q (.ref p) H)))from D8) R f.Qy Qx (Zk (pv 0))))))))) R))))))),?_⟩;sleep 6;refine⟨_,R,_,R,n,_,O,_,_,R,M,f.Yg,f.Qd,L.fp,x.nm,a.dp,rows,R,T,l0,hv,fun H1 I=>?_⟩;refine⟨_,R,_,R,n,_,O,_,_,R,I _ _ M,f.Yg,f.QB,L.fr,x.ru,a.dr,e0,R,I _ _ b0,_,R,Zp (by rw[j0];exact SO) ?_⟩;sleep 1;refine⟨_,R,l,g,x.cs,R,I _ _ G,E.imp fun _ _=>Yp.same I,c2,c6,fun H2 s2=>⟨_,R,Zp (by lia) ?_⟩⟩;have S2:=I.trans s2;refine⟨_,R,l,R,⟨_,Zf.of (S2 _ _ G)⟩,wJ (xs:=g) (fun i q D=>Zc H D/\∃v4 v5:Option V,q=[some (.ref n),some (.str x.nm),some (.str x.ru),some (.ref l),v4,v5]) ⟨S2,_,_,R⟩ (fun i q D _ ⟨s',_⟩=>Zf.of (s' _ _ G)) ?_ ?_⟩
 ·rintro i v pp q H3 hx f0 ⟨B,v4,v5,rfl⟩
  have u:=B.trans (Zu f0 (.tup [.int i,v]));obtain⟨c,Y,hc⟩:=E.get hx;have mc:=SK Y;refine⟨pp,_,R,Zj.of Zg,R,_,_,R,_,_,R,R,?_⟩;sleep 2;refine⟨_,R,n,O,_,R,u _ _ M,L.n_check_call,_,R,n,N,v,c,R,⟨a,J.same u⟩,hc.same u,Zj5 (ok.st c mc),(ok.rng c mc).1,(ok.rng c mc).2,?_⟩;refine⟨_,R,_,_,R,R,_,R,?_⟩;by_cases ci:0<i
  ·refine Z9 (SQ (by lia)) ?_
   obtain⟨j,rfl⟩:∃j,i=j+1:=⟨i - 1,by lia⟩;have hj:j<g.length:=by have:=(Sr.mp hx).1;lia
   obtain⟨k,ea,ha⟩:=E.get (Ss hj);have fo:=ok.fol j k c ea Y;have g0:Y6 g (((j+1:Nat):Int) - 1)=some g[j]:=by
    have:Y6 g (j:Int)=some g[j]:=WU (Ss hj);rw[show(((j+1:Nat):Int) - 1)=(j:Int) by lia];exact this
   exact⟨_,R,_,R,_,R,_,_,R,R,l,_,_,_,R,R,Zf.of (u _ _ G),g0,v,_,_,_,R,ZbC (hc.same u),ZbC (ha.same u),_,R,Zp (by rw[Zj4 fo];lia) ⟨u,_,_,R⟩⟩
  ·exact Zp (by rw[SR (by lia)];lia) (Zp (by lia) ⟨u,_,_,R⟩)
 ·rintro q H3 ⟨B,v4,v5,rfl⟩
  refine⟨_,R,n,_,O,_,_,R,B _ _ M,f.Yg,f.Qd,L.fp,a.dp,rows,10,R,B _ _ T,by lia,?_⟩;refine⟨_,R,_,R,l,R,⟨_,Zf.of (B _ _ G)⟩,Uj (K:=K) (a:=l) (xs:=g) (fun i S q D=>D=H3/\S=g.take i/\∃v,q=[v]) ⟨R,R,_,R⟩ d0 (fun i S q D _ ⟨e,_⟩=>by rw[e];exact Zf.of (B _ _ G)) ?_ ?_⟩
  ·rintro i p0 S q D hi hy ⟨rfl,rfl,v,rfl⟩
   obtain⟨c,Y,p,rfl,U⟩:=E.get hy;dsimp only[Xw,VB];rw[SW R];refine⟨_,R,p,_,R,.inr ⟨Zj.of (B _ _ U),?_⟩⟩;refine⟨by rw[Su,Sw];lia,R,?_,_,R⟩;rw[S0,hy];rfl
  ·rintro S q D ha ⟨rfl,rfl,v,rfl⟩ p U
   rw[List.take_length];have s5:=Zu U (.lst g);refine⟨p,_,R,.inl ⟨Zf.of Zg,fun p2 o0=>?_⟩⟩;have s6:=Zu o0 (.tup g);refine⟨by show 2<=sizeLine;lia,fun r a0=>?_⟩;have s7:=Zu a0 (.tup [.str x.ru,.ref p2]);have y:=((B.trans s5).trans s6).trans s7;refine⟨_,R,n,_,O,_,_,R,y _ _ M,f.Yg,f.Qd,L.fp,_,R,a.dp,_,R,XV.k (k:=Sum.inr x.nm) (y _ _ T) (Nat.lt_trans m0 (by lia)),?_⟩;exact n0 _ (YW (s0.trans y) hW.p _) (fun b ob e=>by obtain⟨nb,e⟩:=Yn e;rw[Zd nb];exact y _ _ e) ((J.same y).addTp (y _ _ T) (X.imp fun _ _=>Xu.same y) hv ⟨R,r,p2,g,R,Zg,s7 _ _ Zg,E.imp fun _ _=>Yp.same y⟩)
structure Zr where
 nm:Str
 r:R3
 cs:List Cl
structure Zr.Ok(x:Zr):Prop where
 r:x.r.Ok
 len:x.cs.length<=6
abbrev ZU:=Str->Nat->Option (Option (List Nat))
def XR(KF:ZU)(z:Str)(day:Nat)(o:Option (List Nat)):ZU:=fun e c=>if e=z/\c=day then some o else KF e c
def XB(x:Zr):Option (Option (List Nat))->List Nat
 |some (some c)=>c
 |_=>List.replicate x.cs.length 0
def Y2(x:Zr)(o:Option (Option (List Nat)))(day:Nat):Option (List (Str×Int×Int)):=if x.r.runs day=true then (if o=some none then none else some (Xz (1440*(day:Nat)) x.cs (XB x o)))else none
def YC(t:Yd)(H:Hp)(c:Zt×V)(x:Zr):Prop:=c.1=Sum.inr x.nm/\∃r e l f,c.2=.ref r/\H r=some (.tup [e,.ref l])/\X0 t H e x.r/\H l=some (.lst f)/\Al (Yp H) f x.cs
theorem YC.same(s:Zc H f)(h:YC t H c x):YC t f c x:=let ⟨e,r,rv,l,vs,e1,e2,e3,e4,e5⟩:=h;⟨e,r,rv,l,vs,e1,s _ _ e2,e3.same s,s _ _ e4,e5.imp fun _ _=>Yp.same s⟩
theorem YC.put(hd:H d=some u)(lo:ZE u)(f:∀xs,u≠.lst xs)(h:YC t H c x):YC t (upd H d o) c x :=
 let ⟨e,r,rv,l,vs,e1,e2,e3,e4,e5⟩:=h;⟨e,r,rv,l,vs,e1,XA hd lo e2,e3.put hd lo,by rw[Zd (Z4 e4 hd (fun z=>f _ z.symm))];exact e4,e5.imp fun _ _=>Yp.put hd lo⟩
theorem X0.wx{f:List (Str×V)}(j:H x=some (.ins c y f))(q:f.lookup ("timetable" : Str)≠none) (h:X0 t H v r):X0 t (wo H x) v r:=by
 have ne:∀{p B u:Addr} {g:List (Str×V)},H p=some (.ins B u g)->g.lookup ("timetable" : Str)=none->p≠x:=fun i n z=>by
  rw[z,j]at i;injection i with i;injection i with _ _ i;rw[i]at q;exact q n
 obtain⟨b,e,h⟩:=h;exact⟨b,e,ZQ.keepF (fun _ _ _ _ n e=>ZT e (ne e n)) (fun _ _=>TB (fun e=>ZT e fun z=>by rw[z,j]at e;cases e) fun _ e=>ZT e fun z=>by rw[z,j]at e;cases e) h⟩
theorem YC.wx{f:List (Str×V)}(g:H x=some (.ins c u f))(C:f.lookup ("timetable" : Str)≠none) (h:YC t H q k):YC t (wo H x) q k:=by
 obtain⟨e,r,D,l,B,y,j,G,i,v⟩:=h;exact⟨e,r,D,l,B,y,ZT j fun z=>(by rw[z,g]at j;cases j),G.wx g C,ZT i fun z=>(by rw[z,g]at i;cases i),v.imp fun _ _ ⟨p,E,n⟩=>⟨p,E,ZT n fun z=>by rw[z,g]at n;cases n⟩⟩
def JJ(H f:Hp):Prop:=∀a o,H a=some o->(∀c,o≠.dT c)->(∀e,o≠.tbl e)->(∀b c,o≠.frz b (.dK c))->f a=some o
section Kp
variable{H':Hp}(y:JJ H H')
include y
theorem JJ.tup{a:Addr}{xs:List V}(h:H a=some (.tup xs)):H' a=some (.tup xs):=y _ _ h (fun _ z=>(nomatch z)) (fun _ z=>(nomatch z)) (fun _ _ z=>(nomatch z))
theorem JJ.lst{a:Addr}{xs:List V}(h:H a=some (.lst xs)):H' a=some (.lst xs):=y _ _ h (fun _ z=>(nomatch z)) (fun _ z=>(nomatch z)) (fun _ _ z=>(nomatch z))
theorem JJ.ins{a c x:Addr}{fs:List (Str×V)}(h:H a=some (.ins c x fs)):H' a=some (.ins c x fs):=y _ _ h (fun _ z=>(nomatch z)) (fun _ z=>(nomatch z)) (fun _ _ z=>(nomatch z))
theorem JJ.dk(h:H a=some (.dK c)):H' a=some (.dK c):=y _ _ h (fun _ z=>(nomatch z)) (fun _ z=>(nomatch z)) (fun _ _ z=>(nomatch z))
theorem Yp.keep(h:Yp H v c):Yp H' v c:=let ⟨p,e,h⟩:=h;⟨p,e,y.tup h⟩
theorem X0.keep(h:X0 t H v r):X0 t H' v r:=let ⟨b,e,h⟩:=h;⟨b,e,ZQ.keepF (fun _ _ _ _ _ e=>y.ins e) (fun _ _=>TB y.tup fun _ e=>y _ _ e (fun _ z=>(nomatch z)) (fun _ z=>(nomatch z)) (fun _ _ z=>(by injection z with _ z;cases z))) h⟩
theorem YC.keep(h:YC t H c x):YC t H' c x:=let ⟨e,r,rv,l,vs,e1,e2,e3,e4,e5⟩:=h;⟨e,r,rv,l,vs,e1,y.tup e2,e3.keep y,y.lst e4,e5.imp fun _ _=>Yp.keep y⟩
theorem Ye.keep(h:Ye t H n a N):Ye t H' n a N:=by
 obtain⟨⟨i,fs,f,c⟩,ap,⟨r1,C,v⟩,⟨u,J,E⟩,⟨L,Q,x⟩,⟨r3,G,O⟩,⟨B,D,I⟩⟩:=h;exact⟨⟨i,fs,y.ins f,c⟩,ap,⟨r1,y.dk C,v.imp fun _ _ ⟨e,r,f,c⟩=>⟨e,r,f,y.tup c⟩⟩,⟨u,y.lst J,E.imp fun _ _ ⟨p,e,h⟩=>⟨p,e,y.tup h⟩⟩,⟨L,y.dk Q,x.imp fun _ _ h=>⟨h.1,h.2.keep y⟩⟩,⟨r3,y.dk G,O.imp fun _ _ ⟨e,r,z,f,c,g⟩=>⟨e,r,z,f,y.tup c,y.tup g⟩⟩,⟨B,y.dk D,I.imp fun _ _ ⟨e,r,q,M,f,c,g,j⟩=>⟨e,r,q,M,f,y.tup c,y.tup g,j.imp fun _ _=>Yp.keep y⟩⟩⟩
end Kp
structure NB where
 dt:Addr
 dk:Addr
 dl:Addr
structure Zka(fs:List (Str×V))(b:NB):Prop where
 ft:fs.lookup ("timetable" : Str)=some (V.ref b.dt)
 fk:fs.lookup ("taken" : Str)=some (V.ref b.dk)
 fl:fs.lookup ("lateness" : Str)=some (V.ref b.dl)
 n_late:fs.lookup ("late" : Str)=none
 n_out:fs.lookup ("out" : Str)=none
 n_back:fs.lookup ("back" : Str)=none
 n_moments:fs.lookup ("moments" : Str)=none
 n_told:fs.lookup ("told" : Str)=none
 n_late_minutes:fs.lookup ("late_minutes" : Str)=none
 n_check_day:fs.lookup ("check_day" : Str)=none
 n_check_runs:fs.lookup ("check_runs" : Str)=none
 n_check_goes:fs.lookup ("check_goes" : Str)=none
def Yc(day:Nat)(z:Str):List Zt:=[Sum.inl (day:Int),Sum.inr z]
theorem B5(e:Yc d' f=Yc d z):f=z/\d'=d:=by
 unfold Yc at e;injection e with g c;injection c with c _;have g:=Sum.inl.inj g;exact⟨Sum.inr.inj c,by lia⟩
def LB(H:Hp)(c:List (List Zt×V))(KF:ZU):Prop:=∀(z:Str) (day:Nat),match KF z day with
 |some (some e)=>∃l,Zz c (Yc day z)=some (.ref l)/\H l=some (.lst (e.map fun n=>V.int (n:Nat)))
 |_=>Zz c (Yc day z)=none
theorem LB.same(s:Zc H f)(h:LB H c KF):LB f c KF:=fun z day=>by
 have:=h z day;revert this;cases KF z day with
 |none=>exact id
 |some o=>cases o with
  |none=>exact id
  |some g=>exact fun⟨l,e,h⟩=>⟨l,e,s _ _ h⟩
structure Yq(t:Yd)(H:Hp)(n:Addr)(b:NB)(TS:List Zr)(KF:ZU)(m:Nat):Prop where
 ob:∃dx fs,H n=some (.ins t.YI dx fs)/\Zka fs b
 ap:b.dk≠b.dl
 tt:∃rows,H b.dt=some (.dK rows)/\Al (YC t H) rows TS
 tk:∃kvs,H b.dk=some (.dT kvs)/\kvs.length<=m/\∀z day,(Zz kvs (Yc day z)).isSome=decide (KF z day=some none)
 lt:∃kvs,H b.dl=some (.dT kvs)/\kvs.length<=m/\LB H kvs KF
theorem Yq.same{c:Hp}{n:Addr}{b:NB}{TS:List Zr}{KF:ZU}{m:Nat}(s:Zc H c)(h:Yq t H n b TS KF m):Yq t c n b TS KF m:=by
 obtain⟨⟨e,fs,j,i⟩,ap,⟨rows,g,v⟩,⟨D,f,B,q⟩,⟨u,x,C,y⟩⟩:=h;exact⟨⟨e,fs,s _ _ j,i⟩,ap,⟨rows,s _ _ g,v.imp fun _ _=>YC.same s⟩,⟨D,s _ _ f,B,q⟩,⟨u,s _ _ x,C,y.same s⟩⟩
def K0:ZU:=fun _ _=>none
def US(N:Z1)(y:Tp)(x:Zr):Prop:=y.nm=x.nm/\y.cs=x.cs/\∃u,ZY Yj.nm N.ru y.ru=some u/\u.r=x.r
inductive Zkb(t:Yd)(vs:List V)(H:Hp)(Q:VK)(_e3:XK):Prop|mk (x n:Addr) (H0:Hp) (N:Z1) (TS:List Zr) (_:vs=[.ref x,.ref n]) (_:H0 x=none) (_:Zc H0 H) (_:(∃dx,H x=some (.ins t.YI dx []))) (_:Wd t H0 n N) (_:Al (US N) N.tp TS) (_:(TS.map Zr.nm).Nodup) (_:(∀x∈TS,x.r.Ok)) (_:TS.length<=10) (_:∀H' b,Zc H0 H'->Yq t H' x b TS K0 0->H0 b.dt=none->H0 b.dk=none->H0 b.dl=none->Q .non H')
theorem TD{tp:List Tp}{TS:List Zr}(h:Al (US N) tp TS):tp.map Tp.nm=TS.map Zr.nm:=by
 induction h with
 |nil=>rfl
 |cons a _ c=>rw[SM,SM,c,a.1]
theorem ZbD(c:Zv K mg t):Zn P w K mg base Zo 46 t.Rs t.Zab ["self","net"] (Zkb t):=by
 refine c.R9.F.ok uW (by lia) fun l1 A outer s b0 vs m1 n1 I h=>?_;obtain⟨x,n,H0,N,TS,rfl,n0,s0,⟨f,hx⟩,l0,Z,nd,i1,s1,x0⟩:=h;have hA:=l0.same s0;obtain⟨a,J⟩:=l0;obtain⟨X,v1,Y,a0⟩:=J.ob;refine⟨_,(Zh (XG (pv 0) UD R) (Zh (Xs (WB (zW (pv 1) c.Yg c.Jr.me (ZbB c) (I.mono (by lia)) c.Jr.b .nil Zl)) (Z0 2 uW.nd) (Zi (VE (Xn I) (ZK (pv 0) R) (pv 2) (Ym (Zm (YY (pv 1) c.Yg c.R6.me (ZjV c) (I.mono (by lia)) c.R6.b .nil Zl (Zk (YY (pv 1) c.Yg c.R7.me (ZjT c) (I.mono (by lia)) c.R7.b .nil Zl (Zk (pv 2))))) (YY (pv 1) c.Yg c.R8.me (ZjR c) (I.mono (by lia)) c.R8.b .nil Zl (Zk (pv 2))))) R))) (Zh (XG (pv 0) Q7 R) (Zi (XG (pv 0) Q7 R))))),?_⟩;sleep 4;intro p1 g1;have O:p1≠x:=fun z=>by rw[z,hx]at g1;cases g1
 have d1:=s0.free g1;refine⟨_,R,x,_,f,_,R,(by rw[Zd O.symm];exact hx),c.YK,c.Qf,by lia,?_⟩;generalize c0:ZV "timetable" (.ref p1) []=j;have g0:j.length<=1:=by rw[<-c0];exact QG (Sk 0)
 have o0:j.lookup ("timetable" : Str)=some (.ref p1):=by rw[<-c0];rfl
 have U:=YW (s0.trans (Zu g1 (.dK []))) n0 (.ins t.YI f j);have y1:(upd (upd b0 p1 (.dK [])) x (.ins t.YI f j)) x=some (.ins t.YI f j):=Zg;have k1:(upd (upd b0 p1 (.dK [])) x (.ins t.YI f j)) p1=some (.dK []):=by rw[Zd O];exact Zg
 generalize upd (upd b0 p1 (.dK [])) x (.ins t.YI f j)=H1 at U y1 k1 ⊢;refine⟨_,R,n,X,_,R,U _ _ Y,a0.n_trips,n,N,R,⟨a,J.same U⟩,fun l gl=>?_⟩;rw[TD Z];have w0:l≠p1:=(ZI k1 gl).symm;have o1:l≠x:=(ZI y1 gl).symm;have t2:=Zu gl (.lst ((TS.map Zr.nm).map V.str));have u2:=U.trans t2;have cl:=@Zg H1 l (.lst ((TS.map Zr.nm).map V.str));have y2:=t2 _ _ y1;have k2:=t2 _ _ k1;generalize upd H1 l (.lst ((TS.map Zr.nm).map V.str))=H2 at u2 cl y2 k2 ⊢;refine⟨l,R,⟨_,Zf.of cl⟩,D2 (K:=K) (a:=l) (xs:=(TS.map Zr.nm).map V.str) (fun i T E=>Zc H0 E/\E l=some (.lst ((TS.map Zr.nm).map V.str))/\E x=some (.ins t.YI f j)/\∃(rows:List (Zt×V)) (v2:Option V),E p1=some (.dK rows)/\Al (YC t E) rows (TS.take i)/\T=[some (.ref x),some (.ref n),v2]) ⟨u2,cl,y2,[],none,k2,.nil,R⟩ (fun i T E _ ⟨_,h,_⟩=>Zf.of h) ?_ ?_⟩
 ·rintro i t1 T v hv ⟨y,h0,C,rows,v2,k3,G,rfl⟩
  rw[Oe,Oa]at hv;sleep 101;obtain⟨tx,S,rfl⟩:=Of.mp hv;have hi:=(Sr.mp S).1;have q1:=Z.length;obtain⟨ty,d0⟩:∃ty,N.tp[i]? = some ty:=⟨_,Ss (show i<N.tp.length by lia)⟩;obtain⟨q,u0,en,ec,ru,p0,er⟩:=Z.get d0;have e0:q=tx:=So (u0.symm.trans S);subst e0;have mem:=SK S;have v0:(N.tp.map Tp.nm).Nodup:=by rw[TD Z];exact nd
  have j0:ZY Tp.nm N.tp q.nm=some ty:=by rw[<-en];exact UR v0 (SK d0)
  have c1:ru.r.Ok:=by rw[er];exact i1 _ mem
  refine⟨_,R,n,X,_,R,y _ _ Y,a0.n_rule,_,R,n,X,_,R,y _ _ Y,a0.n_rule_name,_,R,n,N,q.nm,ty,R,⟨a,J.same y⟩,j0,?_⟩;refine⟨n,N,ty.ru,ru,R,⟨a,J.same y⟩,p0,c1,fun L H4 s4 r0=>?_⟩;have D:=y.trans s4;refine⟨_,R,n,X,_,R,D _ _ Y,a0.n_calls,_,R,n,N,q.nm,ty,R,⟨a,J.same D⟩,j0,fun M h1 H5 s5 gc hc t0=>?_⟩;refine⟨by show 2<=sizeLine;lia,fun Q g6=>?_⟩;have t6:=Zu g6 (.tup [L,.ref M]);have B:=(s4.trans s5).trans t6;have e1:=@Zg H5 Q (.tup [L,.ref M]);have f0:YC t (upd H5 Q (.tup [L,.ref M])) (Sum.inr q.nm,.ref Q) q:=⟨R,Q,L,M,h1,R,e1,by rw[<-er];exact(r0.same s5).same t6,t6 _ _ hc,by rw[<-ec];exact t0.imp fun _ _=>Yp.same t6⟩;dsimp only[Yv,ZZ,Oc];generalize upd H5 Q (.tup [L,.ref M])=H6 at B f0 ⊢;have k6:=B _ _ k3;have j1:rows.length<=10:=by rw[G.length,Sx];lia
  refine⟨_,R,x,_,f,_,_,R,B _ _ C,c.YK,c.Qf,o0,_,R,p1,_,R,XV.k (k:=Sum.inr q.nm) k6 (Sj j1 (by lia)),?_⟩;have z0:Zz rows (Sum.inr q.nm)=none:=(Xt (fun kv x (h:YC t v kv x)=>h.1) G q.nm).1 (JH nd S);refine⟨YW (y.trans B) d1 _,by rw[Zd w0];exact B _ _ h0,by rw[Zd O.symm];exact B _ _ C,_,_,Zg,?_,R⟩;rw[UG _ z0,S0,S];exact((G.imp fun _ _=>YC.same B).snoc f0).imp fun _ _=>YC.put k6 ZE.k (fun _ z=>(nomatch z))
 ·rintro T v ⟨y,h0,C,rows,v2,k3,G,rfl⟩
  rw[SZ (by rw[Sv,Sv];exact Sg _)]at G;intro g g4;have x4:g≠x:=fun z=>by rw[z,C]at g4;cases g4
  have d4:=y.free g4;refine⟨_,R,x,_,f,_,R,(by rw[Zd x4.symm];exact C),c.YK,c.QC,Sj g0 (by lia),?_⟩;generalize i0:ZV "taken" (.ref g) j=u;have a1:u.length<=2:=by rw[<-i0];exact QG g0
  have q0:p1≠g:=ZI k3 g4;have t4:=Zu g4 (.dT []);have D:=YW (y.trans t4) n0 (.ins t.YI f u);have y4:(upd (upd v g (.dT [])) x (.ins t.YI f u)) x=some (.ins t.YI f u):=Zg;have k4:(upd (upd v g (.dT [])) x (.ins t.YI f u)) p1=some (.dK rows):=by rw[Zd O,Zd q0];exact k3
  have k5:(upd (upd v g (.dT [])) x (.ins t.YI f u)) g=some (.dT []):=by rw[Zd x4];exact Zg
  have w4:Zc (wo v x) (upd (upd v g (.dT [])) x (.ins t.YI f u)):=fun b1 o e=>by
   obtain⟨nc,e⟩:=Yn e;rw[Zd nc];exact t4 _ _ e
  generalize upd (upd v g (.dT [])) x (.ins t.YI f u)=H4 at D y4 k4 k5 w4 ⊢;intro H g5;have x5:H≠x:=fun z=>by rw[z,y4]at g5;cases g5
  have d5:=D.free g5;refine⟨_,R,x,_,f,_,R,(by rw[Zd x5.symm];exact y4),c.YK,c.Jy,Sj a1 (by lia),?_⟩;have y0:p1≠H:=ZI k4 g5;have m0:g≠H:=ZI k5 g5;have t5:=Zu g5 (.dT []);refine x0 _ ⟨p1,g,H⟩ (YW (D.trans t5) n0 _) ⟨⟨f,_,Zg,?_⟩,m0,⟨rows,by rw[Zd O,Zd y0];exact k4,?_⟩,⟨[],by rw[Zd x4,Zd m0];exact k5,Sg _,fun z day=>R⟩,⟨[],by rw[Zd x5];exact Zg,Sg _,fun z day=>R⟩⟩ d1 d4 d5
  ·subst c0 i0
   exact⟨R,R,R,R,R,R,R,R,R,R,R,R⟩
  ·-- rows keep: nothing of them lies at x
   have sw:Zc (wo v x) (upd (upd H4 H (.dT [])) x (.ins t.YI f (ZV "lateness" (.ref H) u))):=fun b1 o e=>by
    obtain⟨nc,e'⟩:=Yn e;rw[Zd nc];exact t5 _ _ (w4 _ _ e)
   exact(G.imp fun _ _ h=>YC.wx C (by rw[o0];exact fun z=>(nomatch z)) h).imp fun _ _=>YC.same sw
inductive Wn where
 |run|calls
def Wn.cls(t:Yd):Wn->Addr
 |.run=>t.W2
 |.calls=>t.VH
def Wn.txt:Wn->Str
 |.run=>OJ "run"
 |.calls=>OJ "calls"
def Ua(t:Yd)(H:Hp)(n:Addr)(TS:List Zr)(KF:ZU)(m:Nat):Prop:=∃b,Yq t H n b TS KF m
theorem Ua.same{c:Hp}{n:Addr}{TS:List Zr}{KF:ZU}{m:Nat}(s:Zc H c)(h:Ua t H n TS KF m):Ua t c n TS KF m:=let ⟨b,h⟩:=h;⟨b,h.same s⟩
theorem ZbE{e:St}{v:V}{r:R3}{day:Nat}{Q:VK}{g:TA}(c:Zv X.K X.mg t)(u:Yb 9 X.A)(j:X0 t H v r)(ok:r.Ok)(n:∀Z:List V->Hp->Prop,Z [.int day] H->g e H Z)(q:Q (.bl (r.runs day)) H) :
  xJ X "runs" g e Q v H:=by
 obtain⟨b,rfl,h⟩:=j;rw[c.kf]at h;obtain⟨C,i,fs,f,x,sp,g1,g2,g3,g4,g5,g6,g7⟩:=(Za6 (P:=X.prog) (w:=X.w) (mg:=X.mg) (base:=X.base) c 8).at c h ok.2.2;exact⟨b,C,i,fs,f,x,_,_,sp,Zo,E0,R,g1,g2,g3,g4,g5,u,g6,Zl,n _ (g7 day _ q)⟩
inductive Zkc(t:Yd)(vs:List V)(H:Hp)(Q:VK)(_e3:XK):Prop|mk (n:Addr) (TS:List Zr) (KF:ZU) (m:Nat) (z:Str) (day:Nat) (_:vs=[.ref n,.str z,.int day]) (_:Ua t H n TS KF m) (_:(ZY Zr.nm TS z).isSome=true) (_:day<=9999) (_:Q .non H)
theorem ZbF(c:Zv K mg t):Zn P w K mg base Zo 3 t.Zam t.Zan ["self","trip","day"] (Zkc t):=by
 refine c.Jt.F.ok Zhf (by lia) fun G A outer s H J Q E e h=>?_;obtain⟨n,TS,I,m,z,day,rfl,⟨b,g⟩,B,D,q⟩:=h;obtain⟨i,fs,v,u⟩:=g.ob;obtain⟨rows,j,C⟩:=g.tt;obtain⟨x,ex⟩:=Option.isSome_iff_exists.mp B;obtain⟨f,y,_⟩:=(Xt (fun f x (h:YC t H f x)=>h.1) C z).2 x ex;refine⟨_,(Zh (ZN (YE (YD (ZB c.B1 (JG c) e Zl (Zm (pv 1) (ZK (pv 0) R))))) (Zi Y9) ZP) (Zi (ZN (YE (YD (ZB c.Qb (QD c) e Zl (Ys (pv 2) Zb (YA R c.I0))))) (Zi Y9) ZP))),?_⟩;sleep 2;refine⟨_,R,_,R,n,_,i,_,_,R,v,c.YK,c.Qf,u.ft,z,b.dt,rows,R,j,_,R,Zp (by rw[y];exact SO) ?_⟩;exact⟨_,R,.int day,0,9999,"int",R,.int day,_,R,Zp (by rw[U5 (show(0:Int)<=(day:Int) by lia) (show(day:Int)<=9999 by lia)];lia) q⟩
inductive ZbG(t:Yd)(d:Zr->Option (Option (List Nat))->Nat->Bool)(vs:List V)(H:Hp)(Q:VK)(E:XK):Prop|mk (n:Addr) (TS:List Zr) (KF:ZU) (m:Nat) (z:Str) (day:Nat) (x:Zr) (_:vs=[.ref n,.str z,.int day]) (_:Ua t H n TS KF m) (_:ZY Zr.nm TS z=some x) (_:day<=9999) (_:x.r.Ok) (_:(d x (KF z day) day=false->∀H',Zc H H'->E (.ref t.W2) none H')) (_:(d x (KF z day) day=true->∀H',Zc H H'->Q .non H'))
theorem ZbH(c:Zv K mg t):Zn P w K mg base (Xo P w) 11 t.Zao t.Zap ["self","trip","day"] (ZbG t fun x _ day=>x.r.runs day):=by
 refine c.Ju.F.okX Zhg (by lia) fun Q A outer s H Y a0 b0 f h=>?_;obtain⟨n,TS,O,m,z,day,x,rfl,u,ex,G,ok,e,q⟩:=h;have J:=u;obtain⟨b,y⟩:=J;obtain⟨g,fs,j,i⟩:=y.ob;obtain⟨rows,C,L⟩:=y.tt;obtain⟨v,I,_,r,X,l,S,D,M,E,U,T⟩:=(Xt (fun v x (h:YC t H v x)=>h.1) L z).2 x ex;refine⟨_,(Zh (Z3 (YY (pv 0) c.YK c.Jt.me (ZbF c) (f.mono (by lia)) c.Jt.b .nil Zl (Zm (pv 1) (pv 2)))) (Zi (ZN (YE (YD (U3 (Zs ZF (YT f (ZK (pv 0) R) (pv 1)) Zb) (Zk (pv 2))))) (Zi (Mp Mo c.Za2 R R c.Tk (Zk ZJ))) ZP))),?_⟩;sleep 2;refine⟨_,R,n,g,_,R,j,i.n_check_day,_,R,_,R,n,TS,O,m,z,day,R,u,by rw[ex];rfl,G,?_⟩;refine⟨_,R,n,_,g,_,_,R,j,c.YK,c.Qf,i.ft,_,R,b.dt,.ref r,R,by rw[<-D,<-I];exact Yr.k (k:=Sum.inr z) C,r,_,0,_,R,R,Zj.of M,R,?_⟩;refine ZbE (r:=x.r) (day:=day) c (f.mono (by lia)) E ok (fun Z h=>⟨_,R,h⟩) ⟨_,R,?_⟩;cases B:x.r.runs day with
 |false=>exact Z9 (by lia) ⟨by show 1<=sizeLine;lia,e B H (Zc.refl H)⟩
 |true=>exact Zp (by lia) (q B H (Zc.refl H))
def UT(x:Zr)(o:Option (Option (List Nat)))(day:Nat):Bool:=x.r.runs day && !decide (o=some none)
theorem ZbI(c:Zv K mg t):Zn P w K mg base (Xo P w) 12 t.Zaq t.Zar ["self","trip","day"] (ZbG t UT):=by
 refine c.Jv.F.okX Zhh (by lia) fun T A outer s H Y Q E B h=>?_;obtain⟨n,TS,D,m,z,day,x,rfl,y,ex,I,ok,e,q⟩:=h;have J:=y;obtain⟨b,C⟩:=J;obtain⟨i,fs,u,j⟩:=C.ob;obtain⟨U,O,X,G⟩:=C.tk;refine⟨_,(Zh (Z3 (YY (pv 0) c.YK c.Ju.me (ZbH c) (B.mono (by lia)) c.Ju.b .nil E3 (Zm (pv 1) (pv 2)))) (Zi (ZN (UX (Kh (Xn B) (Ym (Zm (pv 2) (pv 1))) (ZK (pv 0) R))) (Zi (Mp Mo c.Za2 R R c.Tk (Zk ZJ))) ZP))),?_⟩;unfold UT at e q;sleep 2;refine⟨_,R,n,i,_,R,u,j.n_check_runs,_,R,_,R,n,TS,D,m,z,day,x,R,y,ex,I,ok,fun h=>e (by rw[show x.r.runs day=false from h];rfl),fun M S L=>?_⟩;rw[show x.r.runs day=true from M,Os]at e q;refine⟨_,R,_,R,by show 2<=sizeLine;lia,fun p g=>?_⟩;have f:=L.trans (Zu g (.tup [.int day,.str z]));refine⟨_,R,n,_,i,_,_,R,f _ _ u,c.YK,c.QC,j.fk,b.dk,_,R,Yr.t (k:=Yc day z) (f _ _ O) Zg,_,R,?_⟩;rw[G];cases v:decide (D z day=some none)with
 |true=>exact Z9 (by lia) ⟨by show 1<=sizeLine;lia,e (by rw[v];rfl) _ f⟩
 |false=>exact Zp (by lia) (q (by rw[v];rfl) _ f)
inductive Zkd(t:Yd)(vs:List V)(H:Hp)(Q:VK)(_e3:XK):Prop|mk (n:Addr) (TS:List Zr) (KF:ZU) (m:Nat) (z:Str) (day:Nat) (x:Zr) (_:vs=[.ref n,.str z,.int day]) (_:Ua t H n TS KF m) (_:ZY Zr.nm TS z=some x) (_:x.cs.length<=6) (_:∀l H',Zc H H'->H l=none->H' l=some (.lst ((XB x (KF z day)).map fun n=>V.int (n:Nat)))->Q (.ref l) H')
theorem B6(m:Nat)(k:Nat):(List.replicate m [V.int k]).flatten=(List.replicate m k).map fun n:Nat=>V.int (n:Nat):=by
 rw[List.map_replicate]
 induction m with
 |zero=>rfl
 |succ m c=>rw[List.replicate_succ,List.replicate_succ,List.flatten_cons,c];rfl
theorem ZbJ(c:Zv K mg t):Zn P w K mg base Zo 1 t.Zak t.Zal ["self","trip","day"] (Zkd t):=by
 refine c.Js.F.ok uX (by lia) fun n0 A outer s H vs q0 r0 Q h=>?_;obtain⟨n,TS,T,m,z,day,x,rfl,⟨b,v⟩,ex,l6,i0⟩:=h;obtain⟨B,fs,E,D⟩:=v.ob;obtain⟨rows,Y,h2⟩:=v.tt;obtain⟨L,X,k2,k3⟩:=v.lt;obtain⟨S,ev,_,r,rv,lc,q,Z,j0,m0,hl,d0⟩:=(Xt (fun S x (h:YC t H S x)=>h.1) h2 z).2 x ex;have o0:=d0.length;refine⟨_,(Zh (ZG 3 uX.nd (Ze Xd (Z5 (Zk Zb)) (ZM XH c.Xr Xq (Zk (Zs ZF (YT Q (ZK (pv 0) R) (pv 1)) Zb))))) (Zi (ZA (Yw U1 R c.Wm Wj (Zk (MJ (Xn Q) (ZK (pv 0) R) (Ym (Zm (pv 2) (pv 1))) (pv 3) ⟨R,R,R,R⟩)))))),?_⟩;sleep 2;refine⟨by show 1<=sizeLine;lia,fun y g0=>?_⟩;have e:=Zu g0 (.lst [.int 0]);have C:=@Zg H y (.lst [.int 0]);generalize upd H y (.lst [.int 0])=M at e C ⊢;refine⟨_,R,n,_,B,_,_,R,e _ _ E,c.YK,c.Qf,D.ft,_,R,b.dt,.ref r,R,by rw[<-Z,<-ev];exact Yr.k (k:=Sum.inr z) (e _ _ Y),r,_,1,_,R,R,Zj.of (e _ _ j0),R,lc,_,R,.inl (Zf.of (e _ _ hl)),y,((q.length:Nat):Int),_,R,R,C,by lia,by lia,by show 1*_<=sizeLine;exact Sh (show _<=6 by lia) (by lia),fun pr gr=>?_⟩;have h0:(List.replicate ((q.length:Nat):Int).toNat [V.int 0]).flatten=(List.replicate x.cs.length 0).map fun n:Nat=>V.int (n:Nat):=by
  rw[show((q.length:Nat):Int).toNat=x.cs.length by lia];exact B6 _ 0
 rw[h0];have t2:=Zu gr (.lst ((List.replicate x.cs.length 0).map fun n:Nat=>V.int (n:Nat)));have J:=@Zg M pr (.lst ((List.replicate x.cs.length 0).map fun n:Nat=>V.int (n:Nat)));have j:=e.trans t2;generalize upd M pr (.lst ((List.replicate x.cs.length 0).map fun n:Nat=>V.int (n:Nat)))=O at j J ⊢;refine⟨_,R,n,_,B,_,_,R,j _ _ E,c.YK,c.Jy,D.fl,b.dl,R,.inr ⟨L,.inl (j _ _ X)⟩,_,R,_,R,by show 2<=sizeLine;lia,fun p f0=>?_⟩;have G:=Zu f0 (.tup [.int day,.str z]);have i:=j.trans G;have U:=@Zg O p (.tup [.int day,.str z]);have u:=G _ _ J;generalize upd O p (.tup [.int day,.str z])=H3 at i U u ⊢;refine⟨_,R,_,Yr.t (k:=Yc day z) (i _ _ X) U,?_⟩;have g:=k3.same i z day;have l0:∃f,(Zz L (Yc day z)).getD (.ref pr)=.ref f/\H3 f=some (.lst ((XB x (T z day)).map fun n=>V.int (n:Nat))):=by
  revert g;cases T z day with
  |none=>exact fun g=>⟨pr,by rw[g];rfl,u⟩
  |some o=>cases o with
   |none=>exact fun g=>⟨pr,by rw[g];rfl,u⟩
   |some ls=>exact fun⟨f,b0,h⟩=>⟨f,by rw[b0];rfl,h⟩
 obtain⟨f,e0,a0⟩:=l0;rw[e0];refine⟨f,_,R,.inl (Zf.of a0),fun l I=>?_⟩;exact i0 l _ (i.trans (Zu I _)) (i.free I) Zg
inductive Zke(t:Yd)(vs:List V)(H:Hp)(Q:VK)(_e3:XK):Prop|mk (n:Addr) (TS:List Zr) (KF:ZU) (m:Nat) (z:Str) (day:Nat) (x:Zr) (_:vs=[.ref n,.str z,.int day]) (_:Ua t H n TS KF m) (_:ZY Zr.nm TS z=some x) (_:day<=9999) (_:x.Ok) (_:(∀ls,KF z day=some (some ls)->ls.length=x.cs.length)) (_:(Y2 x (KF z day) day=none->∀H',Zc H H'->Q .non H')) (_:∀ms,Y2 x (KF z day) day=some ms->∀l vs H',Zc H H'->H l=none->H' l=some (.lst vs)->Al (Y8 H') vs ms->Q (.ref l) H')
theorem B7{x:Zr}(h:∀c,o=some (some c)->c.length=x.cs.length):(XB x o).length=x.cs.length:=by
 cases o with
 |none=>exact Sz
 |some o=>cases o with
  |none=>exact Sz
  |some c=>exact h c R
theorem Zkf(c:Zv K mg t):Zn P w K mg base Zo 11 t.Zai t.Zaj ["self","trip","day"] (Zke t):=by
 refine c.Td.F.ok Zhe (by lia) fun f0 A outer s H vs i0 j0 f h=>?_;obtain⟨n,TS,v,m,z,day,x,rfl,B,ex,Y,y,Z,E,q2⟩:=h;have c0:=B;obtain⟨b,C⟩:=c0;obtain⟨g,fs,j,i⟩:=C.ob;obtain⟨rows,G,h2⟩:=C.tt;obtain⟨g0,k1,k2,T⟩:=C.tk;refine⟨_,(Zh (Z3 (YY (pv 0) c.YK c.Jt.me (ZbF c) (f.mono (by lia)) c.Jt.b .nil Zl (Zm (pv 1) (pv 2)))) (Zh (ZN (PW.pt (Uv (YE (YD (U3 (Zs ZF (YT f (ZK (pv 0) R) (pv 1)) Zb) (Zk (pv 2))))) (UY (UX (Kh (Xn f) (Ym (Zm (pv 2) (pv 1))) (ZK (pv 0) R)))))) (Zi (ZA Ue)) ZP) (Zi (ZA (ZB c.Rx (Zbw c) f Zl (Ys (Zs ZF (YT f (ZK (pv 0) R) (pv 1)) Zb) (Ze VW (pv 2) (YA R c.Rt)) (YY (pv 0) c.YK c.Js.me (ZbJ c) (f.mono (by lia)) c.Js.b .nil Zl (Zm (pv 1) (pv 2))))))))),?_⟩;sleep 3;refine⟨_,R,n,g,_,R,j,i.n_check_day,_,R,_,R,n,TS,v,m,z,day,R,B,by rw[ex];rfl,Y,?_⟩;obtain⟨O,L,_,r,rv,lc,b0,I,M,S,hl,d0⟩:=(Xt (fun O x (h:YC t H O x)=>h.1) h2 z).2 x ex;refine⟨_,R,n,_,g,_,_,R,j,c.YK,c.Qf,i.ft,_,R,b.dt,.ref r,R,by rw[<-I,<-L];exact Yr.k (k:=Sum.inr z) G,r,_,0,_,R,R,Zj.of M,R,?_⟩;refine ZbE (r:=x.r) (day:=day) c (f.mono (by lia)) S y.r (fun h0 h=>⟨_,R,h⟩) ⟨_,R,?_⟩;cases D:x.r.runs day with
 |false=>exact Z9 (by lia) (E (by unfold Y2;rw[D,SV SO]) _ (Zc.refl H))
 |true =>
  refine Zp (by lia) ⟨_,R,_,R,by show 2<=sizeLine;lia,fun p e0=>?_⟩;have e:=Zu e0 (.tup [.int day,.str z]);have Q:=@Zg H p (.tup [.int day,.str z]);generalize upd H p (.tup [.int day,.str z])=H1 at e Q ⊢;refine⟨_,R,n,_,g,_,_,R,e _ _ j,c.YK,c.QC,i.fk,b.dk,_,R,Yr.t (k:=Yc day z) (e _ _ k1) Q,_,R,?_⟩;rw[T];by_cases q:v z day=some none
  ·exact Z9 (SQ q) (E (by unfold Y2;rw[D,SW R,SW q]) _ e)
  ·refine Zp (by rw[SR q];lia) ?_
   sleep 1;refine⟨_,R,n,_,g,_,_,R,e _ _ j,c.YK,c.Qf,i.ft,_,R,b.dt,.ref r,R,by rw[<-I,<-L];exact Yr.k (k:=Sum.inr z) (e _ _ G),r,_,1,_,R,R,Zj.of (e _ _ M),R,?_⟩;refine⟨_,R,_,_,R,R,.inr ⟨by lia,by lia⟩,?_⟩;refine⟨_,R,n,g,_,R,e _ _ j,i.n_late_minutes,_,R,_,R,n,TS,v,m,z,day,x,R,B.same e,ex,y.len,fun l2 H2 t2 g2 c2=>?_⟩;have u:=e.trans t2;refine⟨lc,l2,_,b0,x.cs,XB x (v z day),R,Zf.of (u _ _ hl),d0.imp fun _ _=>Yp.same u,Zf.of c2,y.len,B7 Z,fun U a0 H3 X g3 c3 J=>?_⟩;rw[Int.mul_comm]at J;exact q2 _ (by unfold Y2;rw[D,SW R,SV q]) U a0 H3 (u.trans X) (u.free g3) c3 J
def Qk:List (Str×Int×Int)->Bool
 |x::y::r=>UP y x && Qk (y::r)
 |_=>true
theorem TF:∀ms:List (Str×Int×Int),Qk ms=true↔∀i x y,ms[i]? = some x->ms[i+1]? = some y->UP y x=true
 |[]=>⟨fun _ _ _ _ h=>(nomatch h),fun _=>R⟩
 |[a]=>⟨fun _ i x y _ h=>(by cases i<;>cases h),fun _=>rfl⟩
 |a::b::r=>by
  have e:=TF (b::r);show(UP b a && Qk (b::r))=true↔_;rw[Bool.and_eq_true];constructor
  ·rintro⟨g,f⟩ i x y ex c
   cases i with
   |zero=>cases ex;cases c;exact g
   |succ i=>exact e.mp f i x y ex c
  ·intro h
   exact⟨h 0 a b R R,e.mpr fun i x y ex c=>h (i+1) x y ex c⟩
inductive Zkg(t:Yd)(K:Ow)(vs:List V)(H:Hp)(Q:VK)(E:XK):Prop|mk (a:Addr) (mvv:List V) (ms:List (Str×Int×Int)) (_:vs=[.ref a]) (_:Zf K H a mvv) (_:Al (Y8 H) mvv ms) (_:ms.length<=6) (_:(Qk ms=true->Q .non H)) (_:(Qk ms=false->E (.ref t.VH) none H))
theorem Zkh(f:Zv K mg t):Zn P w K mg base (Xo P w) 2 t.qZ t.jA ["calls"] (Zkg t K):=by
 refine f.ZaD.F.okX uI (by lia) fun a0 A outer s H vs b0 c0 X h=>?_;obtain⟨a,g,ms,rfl,D,C,l6,q,e⟩:=h;refine⟨_,(Zi (zF PassesOwn.leaving R (JT R f.W3 (Zm Zb (ZM XH f.Xr Xq (Zk (pv 0))))) (Z0 1 uI.nd) (Zi (ZN (YE (YD (ZB f.Rw (Zbx f) X Zl (Zm (Zs YL (pv 0) (pv 1)) (Zs YL (pv 0) (Ze Ws (pv 1) Zb)))))) (Zi (Mp Mo f.Ziy R R f.ZaU (Zk ZJ))) ZP)))),?_⟩;sleep 1;have lm:=C.length;refine⟨_,R,a,_,R,.inl D,1,_,R,⟨by lia,by lia,by lia,by lia⟩,VU (lo:=1) (n:=(((g.length:Nat):Int) - 1).toNat) (fun i E Y=>Y=H/\(∀j x y,j<i->ms[j]? = some x->ms[j+1]? = some y->UP y x=true)/\∃v,E=[some (.ref a),v]) ⟨R,fun _ _ _ h=>(nomatch h),none,R⟩ ?_ ?_⟩
 ·rintro i E U Z ⟨rfl,ok,v,rfl⟩
  sleep 101;have J:i+1<g.length:=by lia
  obtain⟨y,u,Q⟩:=C.get (Ss J);obtain⟨x,ex,S⟩:=C.get (Ss (show i<g.length by lia));have M:Y6 g ((1:Int)+(i:Int))=some g[i+1]:=by
   rw[show(1:Int)+(i:Int)=((i+1:Nat):Int) by lia];exact WU (Ss J)
  have O:Y6 g ((1:Int)+(i:Int) - 1)=some g[i]:=by
   rw[show(1:Int)+(i:Int) - 1=(i:Int) by lia];exact WU (Ss (by lia))
  refine⟨_,R,_,R,a,_,_,_,R,R,D,M,_,R,_,R,_,_,R,R,a,_,_,_,R,R,D,O,_,_,y,x,R,Q,S,_,R,?_⟩;cases G:UP y x with
  |true =>
   refine Zp (by lia) ⟨R,fun j L T hj I B=>?_,_,R⟩;by_cases c:j<i
   ·exact ok j L T c I B
   ·obtain rfl:j=i:=by lia
    rw[ex]at I;rw[u]at B;cases I;cases B;exact G
  |false =>
   refine Z9 (by lia) ⟨by show 1<=sizeLine;lia,e ?_⟩;cases c:Qk ms with
   |false=>rfl
   |true=>rw[(TF ms).mp c i x y ex u]at G;cases G
 ·rintro E U ⟨rfl,ok,v,rfl⟩
  exact q ((TF ms).mpr fun i x y ex u=>ok i x y (by have:=(Sr.mp u).1;lia) ex u)
theorem JK{κ:Type}[DecidableEq κ](h:List (κ×V))(k j:κ):Zz (Vi h k) j=if j=k then none else Zz h j:=by
 induction h with
 |nil =>
  by_cases e:j=k
  ·rw[SW e];rfl
  ·rw[SV e];rfl
 |cons a r c =>
  unfold Vi at c ⊢;by_cases f:a.1=k
  ·rw[List.filter_cons,SV (by rw[decide_eq_true_eq];exact fun z=>z f),c]
   by_cases e:j=k
   ·rw[SW e,SW e]
   ·rw[SV e,SV e,WG (fun z=>e (z.symm.trans f))]
  ·rw[List.filter_cons,SW (SQ f)]
   by_cases e:j=k
   ·rw[SW e]at c ⊢
    rw[WG (fun z=>f (z.trans e)),c]
   ·rw[SV e]at c ⊢
    by_cases g:a.1=j
    ·rw[WX g,WX g]
    ·rw[WG g,WG g,c]
def We(x:Zr)(o:Option (Option (List Nat)))(c k:Nat):List Nat:=(XB x o).take c++List.replicate (x.cs.length - c) k
theorem ZbK{x:Zr}(h:∀e,o=some (some e)->e.length=x.cs.length)(k:Nat)(f:c<=x.cs.length):(We x o c k).length=x.cs.length:=by
 unfold We;rw[Su,Sx,B7 h,Sz];lia
inductive Zki(t:Yd)(vs:List V)(H:Hp)(Q:VK)(E:XK):Prop|mk (n:Addr) (b:NB) (TS:List Zr) (KF:ZU) (m:Nat) (z:Str) (day c k:Nat) (x:Zr) (_:vs=[.ref n,.str z,.int day,.int c,.int k]) (_:Yq t H n b TS KF m) (_:m<1000) (_:ZY Zr.nm TS z=some x) (_:day<=9999) (_:x.Ok) (_:(∀ls,KF z day=some (some ls)->ls.length=x.cs.length)) (_:c<x.cs.length) (_:k<=300) (_:(UT x (KF z day) day=false->∀H',Zc H H'->E (.ref t.W2) none H')) (_:(UT x (KF z day) day=true->Qk (Xz 0 x.cs (We x (KF z day) c k))=false->∀H',Zc H H'->E (.ref t.VH) none H')) (_:(UT x (KF z day) day=true->Qk (Xz 0 x.cs (We x (KF z day) c k))=true->∀H',Zc (wo (wo H b.dk) b.dl) H'->Yq t H' n b TS (XR KF z day (some (We x (KF z day) c k))) (m+1)->Q .non H'))
theorem D1{x:Zr}(h:UT x o day=true):x.r.runs day=true/\o≠some none:=by
 unfold UT at h;rw[Bool.and_eq_true]at h;exact⟨h.1,fun z=>by rw[SQ z]at h;cases h.2⟩
theorem ZbL(xs:List V)(c:Nat):WE xs none (some (c:Int))=xs.take c:=by
 unfold WE HT.sIx;dsimp only;rw[SV (by lia),List.drop_zero];by_cases h:c<=xs.length
 ·congr 1;lia
 ·rw[SZ (by lia),SZ (by lia)]
theorem Yq.late{n:Addr}{b:NB}{TS:List Zr}{KF:ZU}{m:Nat}{z:Str}{day:Nat}{l:Addr}{q:OF}{j:List (List Zt×V)}(h:Yq t H n b TS KF m)(L:KF z day≠some none)(c:H b.dl=some (.dT j))(E:H l=some (.lst (q.map fun n=>V.int (n:Nat)))) :
  Yq t (upd H b.dl (.dT (YB j (Yc day z) (.ref l)))) n b TS (XR KF z day (some q)) (m+1):=by
 obtain⟨⟨y,fs,C,B⟩,ap,⟨rows,u,J⟩,⟨Q,D,T,I⟩,⟨G,i,S,O⟩⟩:=h;obtain rfl:j=G:=by rw[c]at i;injection i with i;injection i
 have keep:∀{p v},H p=some (.lst v)->∀o,upd H b.dl o p=some (.lst v):=fun x o=>by rw[Zd (Z4 x c (by intro z;cases z))];exact x
 refine⟨⟨y,fs,Qi c ZE.dt C,B⟩,ap,⟨rows,by rw[Zd (Z4 u c (by intro z;cases z))];exact u,J.imp fun _ _=>YC.put c ZE.dt (fun _ z=>(nomatch z))⟩,⟨Q,by rw[Zd ap];exact D,by lia,fun f g=>?_⟩,⟨_,Zg,Sh (Q2 _ _ _) (by lia),fun f g=>?_⟩⟩
 ·rw[I]
  unfold XR;by_cases e:f=z/\g=day
  ·rw[SW e,e.1,e.2,SR L];rfl
  ·rw[SV e]
 ·rw[MF]
  have M:=O f g;unfold XR;by_cases e:f=z/\g=day
  ·rw[SW e]
   show ∃_,_;rw[e.1,e.2,SW R];exact⟨l,R,keep E _⟩
  ·rw[SV e,SV fun z=>e (B5 z)]
   revert M;cases KF f g with
   |none=>exact id
   |some o=>cases o with
    |none=>exact id
    |some q=>exact fun⟨l,e,h⟩=>⟨l,e,keep h _⟩
theorem Zkj(f:Zv K mg t):Zn P w K mg base (Xo P w) 13 t.Zac t.Zad ["self","trip","day","call","minutes"] (Zki t):=by
 refine f.Ta.F.okX Pq (by lia) fun p0 A outer s g0 vs r0 s0 i h=>?_;obtain⟨n,b,TS,g,m,z,day,c,k,x,rfl,u,m1,ex,d9,ok,b0,hc,hk,h0,E,q⟩:=h;obtain⟨G,fs,C,y⟩:=u.ob;obtain⟨rows,h1,h2⟩:=u.tt;obtain⟨n0,k1,k2,k3⟩:=u.lt;refine⟨_,(Zh (Z3 (YY (pv 0) f.YK f.Jv.me (ZbI f) (i.mono (by lia)) f.Jv.b .nil E3 (Zm (pv 1) (pv 2)))) (Zh (ZG 5 Pq.nd (Zs ZF (YT i (ZK (pv 0) R) (pv 1)) Zb)) (Zh (Z3 (ZB f.Up (UQ f) i Zl (Ys (pv 3) Zb (Ze Ws (ZM XH f.Xr Xq (Zk (pv 5))) Zb)))) (Zh (Z3 (ZB f.Up (UQ f) i Zl (Ys (pv 4) Zb (YA R f.Zaz)))) (Zh (ZG 6 Pq.nd (Ze XU (Qq D7 (YY (pv 0) f.YK f.Js.me (ZbJ f) (i.mono (by lia)) f.Js.b .nil Zl (Zm (pv 1) (pv 2))) QU (Uy (pv 3))) (Ze Xd (Z5 (Zk (pv 4))) (Ze Ws (ZM XH f.Xr Xq (Zk (pv 5))) (pv 3))))) (Zh (Z3 (ZB f.ZaD (Zkh f) i E3 (Zk (ZB f.Rx (Zbw f) i Zl (Ys (pv 5) Zb (pv 6)))))) (Zi (VE (Xn i) (ZK (pv 0) R) (Ym (Zm (pv 2) (pv 1))) (pv 6) R)))))))),?_⟩;sleep 7;refine⟨_,R,n,G,_,R,C,y.n_check_goes,_,R,_,R,n,TS,g,m,z,day,x,R,⟨b,u⟩,ex,d9,ok.r,h0,fun H H1 j=>?_⟩;have I:=ok.len;obtain⟨q0,nk⟩:=D1 H
 replace E:=E H
 replace q:=q H
 obtain⟨kv,ev,_,r,rv,M,U,er,f0,o0,X,d0⟩:=(Xt (fun kv x (h:YC t g0 kv x)=>h.1) h2 z).2 x ex;have t0:=d0.length;have lm:=B7 b0;refine⟨_,R,n,_,G,_,_,R,j _ _ C,f.YK,f.Qf,y.ft,_,R,b.dt,.ref r,R,by rw[<-er,<-ev];exact Yr.k (k:=Sum.inr z) (j _ _ h1),r,_,1,_,R,R,Zj.of (j _ _ f0),R,?_⟩;refine⟨_,R,_,R,M,_,R,.inl (Zf.of (j _ _ X)),_,_,R,R,c,0,_,R,by lia,by lia,?_⟩;refine⟨_,R,k,0,300,R,by lia,by lia,?_⟩;refine⟨_,R,n,G,_,R,j _ _ C,y.n_late_minutes,_,R,_,R,n,TS,g,m,z,day,x,R,⟨b,u.same j⟩,ex,I,fun l2 H2 s2 g2 c2=>?_⟩;have S2:=j.trans s2;refine⟨_,R,_,R,l2,_,R,Zf.of c2,fun T g3=>?_⟩;rw[show WE ((XB x (g z day)).map fun n:Nat=>V.int (n:Nat)) none (some (c:Int))=((XB x (g z day)).take c).map fun n:Nat=>V.int (n:Nat) by rw[ZbL,List.map_take]];have t3:=Zu g3 (.lst (((XB x (g z day)).take c).map fun n:Nat=>V.int (n:Nat)));have S3:=S2.trans t3;have c3:=@Zg H2 T (.lst (((XB x (g z day)).take c).map fun n:Nat=>V.int (n:Nat)));generalize upd H2 T (.lst (((XB x (g z day)).take c).map fun n:Nat=>V.int (n:Nat)))=H3 at S3 c3 ⊢;refine⟨_,R,by show 1<=sizeLine;lia,fun L g4=>?_⟩;have t4:=Zu g4 (.lst [.int k]);have O:=S3.trans t4;have c4:=@Zg H3 L (.lst [.int k]);have c0:=t4 _ _ c3;generalize upd H3 L (.lst [.int k])=H4 at O c4 c0 ⊢;refine⟨_,R,M,_,R,.inl (Zf.of (O _ _ X)),_,R,_,_,R,R,L,((U.length:Nat):Int) - (c:Int),_,R,R,c4,by lia,by lia,by show 1*_<=sizeLine;exact Sh (show _<=6 by lia) (by lia),fun Y g5=>?_⟩;rw[show(((U.length:Nat):Int) - (c:Int)).toNat=x.cs.length - c by lia,B6];have t5:=Zu g5 (.lst ((List.replicate (x.cs.length - c) k).map fun n:Nat=>V.int (n:Nat)));have S5:=O.trans t5;have c5:=@Zg H4 Y (.lst ((List.replicate (x.cs.length - c) k).map fun n:Nat=>V.int (n:Nat)));have a0:=t5 _ _ c0;generalize upd H4 Y (.lst ((List.replicate (x.cs.length - c) k).map fun n:Nat=>V.int (n:Nat)))=H5 at S5 c5 a0 ⊢;refine⟨T,Y,_,_,R,R,a0,c5,by rw[Sv,Sv,Sx,Sz,lm];exact Sh (show _<=6 by lia) (by lia),fun S g6=>?_⟩;rw[<-SL,show(XB x (g z day)).take c++List.replicate (x.cs.length - c) k=We x (g z day) c k from R];have Z:=ZbK b0 k (show c<=x.cs.length by lia);generalize We x (g z day) c k=v at Z E q ⊢;have t6:=Zu g6 (.lst (v.map fun n:Nat=>V.int (n:Nat)));have D:=S5.trans t6;have Q:=@Zg H5 S (.lst (v.map fun n:Nat=>V.int (n:Nat)));generalize upd H5 S (.lst (v.map fun n:Nat=>V.int (n:Nat)))=H6 at D Q ⊢;refine⟨_,R,_,R,M,S,0,U,x.cs,v,R,Zf.of (D _ _ X),d0.imp fun _ _=>Yp.same D,Zf.of Q,I,Z,fun l7 m0 H7 s7 g7 c7 l0=>?_⟩;have S7:=D.trans s7;have e0:=s7 _ _ Q;have i0:(Xz 0 x.cs v).length<=6:=by unfold Xz;rw[List.length_zipWith,Z,Nat.min_self];exact I
 refine⟨l7,m0,_,R,Zf.of c7,l0,i0,fun J=>?_,fun J=>E J _ S7⟩;have S8:=S7;have j0:=e0
 replace q:=q J
 refine⟨_,R,_,R,n,_,G,_,_,R,S8 _ _ C,f.YK,f.Jy,y.fl,_,R,_,R,by show 2<=sizeLine;lia,fun p9 g9=>?_⟩;have t9:=Zu g9 (.tup [.int day,.str z]);have B:=S8.trans t9;refine⟨b.dl,_,R,XV.t (k:=Yc day z) (B _ _ k1) Zg (Sj (show n0.length<=1000 by lia) (by lia)),?_⟩;refine q _ (fun a o e=>?_) ((u.same B).late nk (B _ _ k1) (t9 _ _ j0));obtain⟨na,e⟩:=Yn e;obtain⟨_,e⟩:=Yn e;rw[Zd na];exact B _ _ e
inductive Zkk(t:Yd)(vs:List V)(H:Hp)(Q:VK)(E:XK):Prop|mk (n:Addr) (b:NB) (TS:List Zr) (KF:ZU) (m:Nat) (z:Str) (day:Nat) (x:Zr) (_:vs=[.ref n,.str z,.int day]) (_:Yq t H n b TS KF m) (_:m<1000) (_:ZY Zr.nm TS z=some x) (_:day<=9999) (_:x.r.Ok) (_:(UT x (KF z day) day=false->∀H',Zc H H'->E (.ref t.W2) none H')) (_:(UT x (KF z day) day=true->∀H',Zc (wo (wo H b.dk) b.dl) H'->Yq t H' n b TS (XR KF z day none) (m+1)->Q .non H'))
theorem Yq.outs{n:Addr}{b:NB}{TS:List Zr}{KF:ZU}{m:Nat}{z:Str}{day:Nat}{x g:List (List Zt×V)}(h:Yq t H n b TS KF m)(E:H b.dl=some (.dT x))(D:H b.dk=some (.dT g)){y:List (List Zt×V)}(ll:y.length<=x.length)(T:∀j,Zz y j=if j=Yc day z then none else Zz x j){i:Hp}(s:Zc (wo H b.dl) i)(a0:i b.dl=some (.dT y))(b0:i b.dk=some (.dT g))(v:V) :
  Yq t (upd i b.dk (.dT (YB g (Yc day z) v))) n b TS (XR KF z day none) (m+1):=by
 obtain⟨⟨G,fs,C,B⟩,ap,⟨rows,L,Y⟩,⟨k1,u,a2,X⟩,⟨U,q,b2,b3⟩⟩:=h;obtain rfl:x=U:=by rw[E]at q;injection q with q;injection q
 obtain rfl:g=k1:=by rw[D]at u;injection u with u;injection u
 have S:Zc (wo (wo H b.dl) b.dk) (upd i b.dk (.dT (YB g (Yc day z) v))):=fun a o e=>by
  obtain⟨M,e⟩:=Yn e;rw[Zd M];exact s _ _ e
 have up:∀{a o},H a=some o->(∀O,o≠.dT O)->wo (wo H b.dl) b.dk a=some o:=fun e n=>ZT (ZT e (Z4 e E (n _))) (Z4 e D (n _));have r2:Al (YC t (wo (wo H b.dl) b.dk)) rows TS:=Y.imp fun _ _ Q=>by
  obtain⟨e,r,Z,l,vs,C,B,e3,I,J⟩:=Q;exact YC.keep (fun a o e nd _ _=>up e nd) ⟨e,r,Z,l,vs,C,B,e3,I,J⟩
 refine⟨⟨G,fs,S _ _ (up C (fun _ z=>(nomatch z))),B⟩,ap,⟨rows,S _ _ (up L (fun _ z=>(nomatch z))),r2.imp fun _ _=>YC.same S⟩,⟨_,Zg,Sh (Q2 _ _ _) (by lia),fun c f=>?_⟩,⟨y,by rw[Zd ap.symm];exact a0,by lia,fun c f=>?_⟩⟩
 ·rw[MF]
  unfold XR;by_cases e:c=z/\f=day
  ·rw[e.1,e.2,SW R,SW ⟨R,R⟩];rfl
  ·rw[SV e,SV fun z=>e (B5 z),X]
 ·rw[T]
  have hb:=b3 c f;unfold XR;by_cases e:c=z/\f=day
  ·rw[SW e]
   show _=none;rw[e.1,e.2,SW R]
  ·rw[SV e,SV fun z=>e (B5 z)]
   revert hb;cases KF c f with
   |none=>exact id
   |some o=>cases o with
    |none=>exact id
    |some ls=>exact fun⟨l,e,h⟩=>⟨l,e,S _ _ (up h (fun _ z=>(nomatch z)))⟩
theorem Zkl(f:Zv K mg t):Zn P w K mg base (Xo P w) 13 t.Zae t.Zaf ["self","trip","day"] (Zkk t):=by
 refine f.Tb.F.okX Zhc (by lia) fun g0 A outer s i0 vs e0 j0 M a0=>?_;obtain⟨n,b,TS,KF,m,z,day,c0,rfl,y,m1,ex,d9,ok,e,q⟩:=a0;obtain⟨B,fs,v,D⟩:=y.ob;obtain⟨i,C,l2,l3⟩:=y.lt;obtain⟨G,I,k2,k3⟩:=y.tk;refine⟨_,(Zh (Z3 (YY (pv 0) f.YK f.Jv.me (ZbI f) (M.mono (by lia)) f.Jv.b .nil E3 (Zm (pv 1) (pv 2)))) (Zh (Z3 (M3 (Xn M) (ZK (pv 0) R) (Ym (Zm (pv 2) (pv 1))) Ue ⟨R,R,R,R⟩)) (Zi (VE (Xn M) (ZK (pv 0) R) (Ym (Zm (pv 2) (pv 1))) WS R)))),?_⟩;sleep 3;refine⟨_,R,n,B,_,R,v,D.n_check_goes,_,R,_,R,n,TS,KF,m,z,day,c0,R,⟨b,y⟩,ex,d9,ok,e,fun hn Y J=>?_⟩
 replace q:=q hn
 refine⟨_,R,n,_,B,_,_,R,J _ _ v,f.YK,f.Jy,D.fl,b.dl,R,.inr ⟨i,.inl (J _ _ C)⟩,_,R,_,R,by show 2<=sizeLine;lia,fun L g2=>?_⟩;have t2:=Zu g2 (.tup [.int day,.str z]);have c:=J.trans t2;have c2:=@Zg Y L (.tup [.int day,.str z]);generalize upd Y L (.tup [.int day,.str z])=x at c c2 ⊢;have Z:∀(h:Hp) (H:List (List Zt×V)),H.length<=i.length->(∀j,Zz H j=if j=Yc day z then none else Zz i j)->Zc (wo x b.dl) h->h b.dl=some (.dT H)->h b.dk=some (.dT G)->h n=some (.ins t.YI B fs)->∀p g,h p=none->e0 .non (upd (upd h p g) b.dk (.dT (YB G (Yc day z) (.bl true)))):=fun h H ll vl U b0 d0 h0 p g gp=>by
  have u:=Zu gp g;refine q _ (fun a o e=>?_) ((y.same c).outs (c _ _ C) (c _ _ I) ll vl (U.trans u) (u _ _ b0) (u _ _ d0) _);obtain⟨n1,e⟩:=Yn e;obtain⟨n2,e⟩:=Yn e;rw[Zd n2];exact u _ _ (U _ _ (ZT (c _ _ e) n1))
 refine⟨i,Yc day z,L,c _ _ C,R,c2,fun f0 X=>?_,fun X=>?_⟩
 ·have E:Zc (wo x b.dl) (upd x b.dl (.dT (Vi i (Yc day z)))):=fun a o e=>by
   obtain⟨na,e⟩:=Yn e;rw[Zd na];exact e
  have Q:=E _ _ (ZT (c _ _ v) (Z4 (c _ _ v) (c _ _ C) (by intro z;cases z)));have S:=E _ _ (ZT (c _ _ I) y.ap);have T:=@Zg x b.dl (.dT (Vi i (Yc day z)));generalize upd x b.dl (.dT (Vi i (Yc day z)))=h at E Q S T ⊢;refine⟨_,R,n,_,B,_,_,R,Q,f.YK,f.QC,D.fk,_,R,_,R,by show 2<=sizeLine;lia,fun O g4=>?_⟩;have u:=Zu g4 (.tup [.int day,.str z]);exact⟨b.dk,_,R,XV.t (k:=Yc day z) (u _ _ S) Zg (Sj (show G.length<=1000 by lia) (by lia)),Z h _ (Q3 _ _) (fun j=>JK _ _ _) E T S Q O _ g4⟩
 ·refine⟨_,R,n,_,B,_,_,R,c _ _ v,f.YK,f.QC,D.fk,_,R,_,R,by show 2<=sizeLine;lia,fun O g4=>?_⟩
  have u:=Zu g4 (.tup [.int day,.str z]);refine⟨b.dk,_,R,XV.t (k:=Yc day z) (u _ _ (c _ _ I)) Zg (Sj (show G.length<=1000 by lia) (by lia)),Z x i (Sg _) (fun j=>?_) Wx (c _ _ C) (c _ _ I) (c _ _ v) O _ g4⟩;by_cases e:j=Yc day z
  ·rw[SW e,e,X]
  ·rw[SV e]
def QH(KF:ZU)(z:Str)(day:Nat):ZU:=fun e c=>if e=z/\c=day then none else KF e c
theorem Yq.backs{x:Hp}{n:Addr}{b:NB}{TS:List Zr}{KF:ZU}{m:Nat}{z:Str}{day:Nat}{q u v y:List (List Zt×V)}(h:Yq t H n b TS KF m)(C:H b.dl=some (.dT q))(B:H b.dk=some (.dT u))(ll:v.length<=q.length)(lk:y.length<=u.length)(Q:∀j,Zz v j=if j=Yc day z then none else Zz q j)(J:∀j,Zz y j=if j=Yc day z then none else Zz u j)(s:Zc (wo (wo H b.dk) b.dl) x)(a0:x b.dl=some (.dT v))(O:x b.dk=some (.dT y)) :
  Yq t x n b TS (QH KF z day) m:=by
 obtain⟨⟨D,fs,I,G⟩,ap,⟨rows,E,U⟩,⟨k1,i,a2,T⟩,⟨S,g,b2,Z⟩⟩:=h;obtain rfl:q=S:=by rw[C]at g;injection g with g;injection g
 obtain rfl:u=k1:=by rw[B]at i;injection i with i;injection i
 have up:∀{a o},H a=some o->(∀L,o≠.dT L)->wo (wo H b.dk) b.dl a=some o:=fun e n=>ZT (ZT e (Z4 e B (n _))) (Z4 e C (n _));have X:Al (YC t (wo (wo H b.dk) b.dl)) rows TS:=U.imp fun _ _ M=>YC.keep (fun a o e nd _ _=>up e nd) M;refine⟨⟨D,fs,s _ _ (up I (fun _ z=>(nomatch z))),G⟩,ap,⟨rows,s _ _ (up E (fun _ z=>(nomatch z))),X.imp fun _ _=>YC.same s⟩,⟨y,O,by lia,fun c f=>?_⟩,⟨v,a0,by lia,fun c f=>?_⟩⟩
 ·rw[J]
  unfold QH;by_cases e:c=z/\f=day
  ·rw[e.1,e.2,SW R,SW ⟨R,R⟩];rfl
  ·rw[SV e,SV fun z=>e (B5 z),T]
 ·rw[Q]
  have Y:=Z c f;unfold QH;by_cases e:c=z/\f=day
  ·rw[SW e]
   show _=none;rw[e.1,e.2,SW R]
  ·rw[SV e,SV fun z=>e (B5 z)]
   revert Y;cases KF c f with
   |none=>exact id
   |some o=>cases o with
    |none=>exact id
    |some ls=>exact fun⟨l,e,h⟩=>⟨l,e,s _ _ (up h (fun _ z=>(nomatch z)))⟩
theorem LD(h:Zz c k=none)(j:List Zt):Zz c j=if j=k then none else Zz c j:=by
 by_cases e:j=k
 ·rw[SW e,e,h]
 ·rw[SV e]
inductive Zkm(t:Yd)(vs:List V)(H:Hp)(Q:VK)(E:XK):Prop|mk (n:Addr) (b:NB) (TS:List Zr) (KF:ZU) (m:Nat) (z:Str) (day:Nat) (x:Zr) (_:vs=[.ref n,.str z,.int day]) (_:Yq t H n b TS KF m) (_:ZY Zr.nm TS z=some x) (_:day<=9999) (_:x.r.Ok) (_:(x.r.runs day=false->∀H',Zc H H'->E (.ref t.W2) none H')) (_:(x.r.runs day=true->∀H',Zc (wo (wo H b.dk) b.dl) H'->Yq t H' n b TS (QH KF z day) m->Q .non H'))
theorem Zkn(f:Zv K mg t):Zn P w K mg base (Xo P w) 12 t.Zag t.Zah ["self","trip","day"] (Zkm t):=by
 refine f.Tc.F.okX Zhd (by lia) fun h0 A outer s f0 vs e0 i0 hr b0=>?_;obtain⟨n,b,TS,KF,m,z,day,c0,rfl,x,ex,d9,ok,e,d0⟩:=b0;obtain⟨H,fs,B,I⟩:=x.ob;obtain⟨h,y,l2,l3⟩:=x.lt;obtain⟨u,G,k2,k3⟩:=x.tk;refine⟨_,(Zh (Z3 (YY (pv 0) f.YK f.Ju.me (ZbH f) (hr.mono (by lia)) f.Ju.b .nil E3 (Zm (pv 1) (pv 2)))) (Zh (Z3 (M3 (Xn hr) (ZK (pv 0) R) (Ym (Zm (pv 2) (pv 1))) Ue ⟨R,R,R,R⟩)) (Zi (Z3 (M3 (Xn hr) (ZK (pv 0) R) (Ym (Zm (pv 2) (pv 1))) Ue ⟨R,R,R,R⟩))))),?_⟩;sleep 3;refine⟨_,R,n,H,_,R,B,I.n_check_runs,_,R,_,R,n,TS,KF,m,z,day,c0,R,⟨b,x⟩,ex,d9,ok,e,fun hn H1 O=>?_⟩;refine⟨_,R,n,_,H,_,_,R,O _ _ B,f.YK,f.Jy,I.fl,b.dl,R,.inr ⟨h,.inl (O _ _ y)⟩,_,R,_,R,by show 2<=sizeLine;lia,fun U g2=>?_⟩;generalize hE:upd H1 U _=i;have c:Zc f0 i:=O.trans (hE ▸ Zu g2 _);have c2:i U=some (.tup [.int day,.str z]):=hE ▸ Zg;clear hE;have go:∀(v:Hp) (J:List (List Zt×V)),J.length<=h.length->(∀j,Zz J j=if j=Yc day z then none else Zz h j)->Zc (wo i b.dl) v->v b.dl=some (.dT J)->∀(E:Hp) (L:List (List Zt×V)),L.length<=u.length->(∀j,Zz L j=if j=Yc day z then none else Zz u j)->Zc (wo v b.dk) E->E b.dk=some (.dT L)->e0 .non E:=fun v J ll vl s3 h3 E L lk vk X h4=>by
  refine d0 hn E ?_ ((x.same c).backs (c _ _ y) (c _ _ G) ll lk vl vk ?_ ?_ h4)
  ·intro a o g
   obtain⟨Z,g⟩:=Yn g;obtain⟨Y,g⟩:=Yn g;exact X _ _ (ZT (s3 _ _ (ZT (c _ _ g) Z)) Y)
  ·intro a o g
   obtain⟨Z,g⟩:=Yn g;obtain⟨Y,g⟩:=Yn g;exact X _ _ (ZT (s3 _ _ (ZT g Z)) Y)
  ·exact X _ _ (ZT h3 x.ap.symm)
 have wk:∀(a0:Hp) (k':List (List Zt×V)),Zc (wo a0 b.dk) (upd a0 b.dk (.dT k')):=fun a0 k' a o e=>by
  obtain⟨Q,e⟩:=Yn e;rw[Zd Q];exact e
 refine⟨h,Yc day z,U,c _ _ y,R,c2,fun g0 T=>?_,fun T=>?_⟩
 ·have C:Zc (wo i b.dl) (upd i b.dl (.dT (Vi h (Yc day z)))):=fun a o e=>by
   obtain⟨Q,e⟩:=Yn e;rw[Zd Q];exact e
  have n3:=C _ _ (ZT (c _ _ B) (Z4 (c _ _ B) (c _ _ y) (by intro z;cases z)));have M:=C _ _ (ZT (c _ _ G) x.ap);have S:=@Zg i b.dl (.dT (Vi h (Yc day z)));generalize upd i b.dl (.dT (Vi h (Yc day z)))=v at C n3 M S ⊢;refine⟨_,R,n,_,H,_,_,R,n3,f.YK,f.QC,I.fk,b.dk,R,.inr ⟨u,.inl M⟩,_,R,_,R,by show 2<=sizeLine;lia,fun p4 g4=>?_⟩;have q:=Zu g4 (.tup [.int day,.str z]);refine⟨u,Yc day z,p4,q _ _ M,R,Zg,fun v2 D=>?_,fun D=>?_⟩
  ·exact go v _ (Q3 _ _) (fun j=>JK _ _ _) C S _ _ (Q3 _ _) (fun j=>JK _ _ _) (fun a o e=>wk _ _ _ _ (ZT (q _ _ (Yn e).2) (Yn e).1)) Zg
  ·exact go v _ (Q3 _ _) (fun j=>JK _ _ _) C S _ u (Sg _) (LD D) (fun a o e=>q _ _ (Yn e).2) (q _ _ M)
 ·refine⟨_,R,n,_,H,_,_,R,c _ _ B,f.YK,f.QC,I.fk,b.dk,R,.inr ⟨u,.inl (c _ _ G)⟩,_,R,_,R,by show 2<=sizeLine;lia,fun p4 g4=>?_⟩
  have q:=Zu g4 (.tup [.int day,.str z]);refine⟨u,Yc day z,p4,q _ _ (c _ _ G),R,Zg,fun v2 D=>?_,fun D=>?_⟩
  ·exact go i h (Sg _) (LD T) Wx (c _ _ y) _ _ (Q3 _ _) (fun j=>JK _ _ _) (fun a o e=>wk _ _ _ _ (ZT (q _ _ (Yn e).2) (Yn e).1)) Zg
  ·exact go i h (Sg _) (LD T) Wx (c _ _ y) _ u (Sg _) (LD D) (fun a o e=>q _ _ (Yn e).2) (q _ _ (c _ _ G))
theorem Zko{c:OD}(h:∀z∈c,0<=z):c.map V.int=Yx (c.map Int.toNat):=by
 unfold Yx;rw[Oe];exact List.map_congr_left fun z e=>by
  show V.int z=V.int ((z.toNat:Nat):Int);rw[show((z.toNat:Nat):Int)=z by have:=h z e;lia]
theorem ZbM{zs:OD}{a b:Nat}{hi:Nat}(ha:a<=hi)(j:b<=hi)(i:zs.Pairwise (· < ·))(mem:∀z,z∈zs↔z∈[(a:Int),(b:Int)])(u:zs.length<=2):∃g:List Nat,zs.map V.int=Yx g/\ME g 0 hi:=by
 have f:∀z∈zs,0<=z/\z<=(hi:Int):=fun z c=>by
  have h:=(mem z).mp c;simp only[SF,List.not_mem_nil,or_false]at h;lia
 refine⟨zs.map Int.toNat,Zko fun z c=>(f z c).1,?_,?_,?_,fun x n=>?_⟩
 ·rw[Sv]
  exact List.length_pos_iff.mpr fun e=>by have:=(mem (a:Nat)).mpr SD;rw[e]at this;cases this
 ·rw[Sv];lia
 ·rw[List.pairwise_map]
  exact i.imp_of_mem fun ha j q=>by have:=(f _ ha).1;lia
 ·obtain⟨z,c,rfl⟩:=SJ.mp n
  have:=f z c;exact⟨Sk _,by lia⟩
inductive Zkp(n:Nat)(vs:List V)(H:Hp)(Q:VK)(_e3:XK):Prop|mk (d deep:Nat) (_:vs=[.int d,.int deep]) (_:d<2147483647) (_:deep<n) (_:n<=3) (_:∀(r:RT) (v:V) (H':Hp),Zc H H'->r.good->r.weight+1<=2 ^ (deep+1)->r.depth<=deep+1->(∀tp,H tp≠none->YN tp H' v r)->Q v H')
theorem Zkq(j:Zv K mg t):∀n:Nat,Zn P w K mg base Zo (n+1) t.jJ t.jK ["_law_number","_law_deep"] (Zkp n):=by
 intro n
 induction n with
 |zero =>
  refine j.UO.F.ok A4 (fun vs H c0 d0 h=>?_) (fun f0 A outer s H vs c0 d0 Z h=>?_)
  ·obtain⟨d,deep,rfl,_⟩:=h
   rfl
  ·obtain⟨d,deep,rfl,_,J,_⟩:=h
   lia
 |succ n ih =>
 refine j.UO.F.ok A4 (by lia) fun f0 A outer s H vs c0 d0 Z h=>?_;obtain⟨d,deep,rfl,hd,i0,h3,q⟩:=h;refine⟨_,(Zh (ZG 2 A4.nd (Ze Yt (pv 0) Zb)) (Vh (ZG 3 A4.nd (QP (Yy D4 (pv 1) Zb) (Ze ZO (pv 0) Zb) (Zs YL (Z5 (Ys Zb Zb Zb)) (Ze ZO (pv 0) Zb)))) (Zh (ZN (Yy Y4 (pv 3) Zb) (Zi (ZA (Ym (Zk ZJ)))) ZP) (Zh (ZN (Yy Y4 (pv 3) Zb) (Zi (ZA (Ym (Zm ZJ (Ze ZO (pv 2) Zb))))) ZP) (Zh (ZN (Yy Y4 (pv 3) Zb) (Zh (ZG 4 A4.nd (ZM (wD R) j.KZ Kt (Zk (Yw (wC R) R j.Zaw qB (Zk (Z5 (Zm (Ze ZO (pv 2) Zb) (Ze ZO (Ze Yt (pv 2) Zb) Zb)))))))) (Zi (ZA (Ym (Ys ZJ (Ze Z2 Zb (Ze ZO (Ze Yt (pv 2) Zb) Zb)) (pv 4)))))) ZP) (Zh (ZG 5 A4.nd (Wu ih (Z.mono (by lia)) R j.UO.m j.UO.F.kp j.UO.b .nil Zl (Zm (Ze ZO (Ze VW (pv 2) Zb) Zb) (Ze Ws (pv 1) Zb)))) (Zh (ZN (Yy Y4 (pv 3) Zb) (Zi (ZA (Ym (Wz ZJ (Ze ZO (pv 2) Zb) (Ze Z2 (Ze ZO (pv 2) Zb) (Ze ZO (Ze Yt (pv 2) Zb) Zb)) (pv 5))))) ZP) (Zh (ZN (Yy Y4 (pv 3) Zb) (Zi (ZA (Ym (Ys ZJ (ZM (wD R) j.KZ Kt (Zk (Yw (wC R) R j.Zaw qB (Zk (Z5 (Zm (Ze ZO (pv 2) Zb) (Ze ZO (Ze Yt (pv 2) Zb) Zb))))))) (pv 5))))) ZP) (Zi (ZA (Ym (Ys (Zs YL (Z5 (Zm ZJ ZJ)) (Ze Ws (pv 3) Zb)) (pv 5) (Wu ih (Z.mono (by lia)) R j.UO.m j.UO.F.kp j.UO.b .nil Zl (Zm (Ze ZO (Ze VW (pv 2) Zb) Zb) (Ze Ws (pv 1) Zb))))))))))))))),?_⟩;sleep 2;refine⟨_,R,_,_,R,R,⟨by lia,by lia⟩,?_⟩;have e7:(d:Int)/7=((d/7:Nat):Int):=by lia
 refine⟨fun g0 H'=>∃f:Nat,Zc H H'/\f<7/\(deep=0->f=0\/f=1\/f=3)/\g0=[some (.int d),some (.int deep),some (.int ((d/7:Nat):Int)),some (.int (f:Nat)),none,none],?_,?_⟩
 ·rw[<-e7]
  sleep 1;refine⟨_,R,_,_,R,R,_,R,?_⟩;by_cases c:0<deep
  ·refine Z9 (SQ (by lia)) ⟨_,R,_,_,R,R,(by show(0:Int)<7;lia),d%7,Zc.refl H,by lia,by lia,?_⟩
   rw[show((d%7:Nat):Int)=(d:Int)%7 by lia];rfl
  ·refine Zp (by rw[SR (by lia)];lia) ⟨by show 3<=sizeLine;lia,fun p g=>?_⟩
   refine⟨_,R,_,_,R,R,(by show(0:Int)<3;lia),?_⟩;obtain⟨v,ev,f,rfl,hw⟩:=QX (p:=fun v=>∃f:Nat,v=V.int (f:Nat)/\(f=0\/f=1\/f=3)) (xs:=[.int 0,.int 1,.int 3]) (d:=(d:Int)%3) (fun v hv=>by
    simp only[SF,List.not_mem_nil,or_false]at hv;rcases hv with rfl|rfl|rfl
    ·exact⟨0,R,by lia⟩
    ·exact⟨1,R,by lia⟩
    ·exact⟨3,R,by lia⟩) (by lia) (by show(d:Int)%3<3;lia)
   exact⟨p,_,_,_,R,R,Zf.of Zg,ev,f,Zu g _,by lia,fun _=>hw,R⟩
 rintro σ H1 ⟨f,B,hw,J,rfl⟩;have hm:d/7<306783379:=by lia
 generalize d/7=m at hm;sleep 7;have M:∀r:RT,r.weight=1->r.weight+1<=2 ^ (deep+1):=fun r h=>by rw[h,Nat.pow_succ];have:=Nat.one_le_two_pow (n:=deep);lia
 refine⟨_,R,R,_,R,WF (fun _=>?_) (fun n0=>?_)⟩
 ·sleep 1;exact⟨by show 1<=sizeLine;lia,fun p g=>q .always _ _ (B.trans (Zu g _)) trivial (M _ R) (Om _ _) fun tp _=>.always Zg⟩
 sleep 1;refine⟨_,R,R,_,R,WF (fun _=>?_) (fun X=>?_)⟩
 ·sleep 1;refine⟨_,R,_,_,R,R,(by show(0:Int)<128;lia),by show 2<=sizeLine;lia,fun p g=>?_⟩
  refine q (.week (m%128)) _ _ (B.trans (Zu g _)) (show m%128<=127 by lia) (M _ R) (Om _ _) fun tp _=>.week ?_;rw[Zg,show((m%128:Nat):Int)=(m:Int)%128 by lia]
 have e4:∀k:Nat,(m:Int)%((k:Nat):Int)=((m%k:Nat):Int):=fun k=>(SX m k).symm;have e5:∀a0 k:Nat,(m:Int)/((a0:Nat):Int)%((k:Nat):Int)=((m/a0%k:Nat):Int):=fun a0 k=>by rw[SX,SY]
 refine⟨_,R,R,_,R,WF (fun _=>?_) (fun n3=>?_)⟩
 ·sleep 2;refine⟨_,R,_,_,R,R,(by show(0:Int)<4;lia),_,R,_,_,R,R,⟨by lia,by lia⟩,_,_,R,R,(by show(0:Int)<4;lia),by show 2<=sizeLine;lia,fun p1 g1=>?_⟩
  have x:=Zu g1 (.lst [.int ((m:Int)%4),.int ((m:Int)/4%4)]);refine⟨p1,[(m:Int)%4,(m:Int)/4%4],R,Zf.of Zg,by show 2<=1000;lia,fun G g2=>?_⟩;have t2:=x.trans (Zu g2 (F0 P w G [(m:Int)%4,(m:Int)/4%4]));refine⟨G,_,R,Zg,by show 2<64;lia,fun C zs g3 Y mem S=>?_⟩;have y:=Zu g3 (.lst (zs.map V.int));have U:=(B.trans t2).free g3;refine⟨_,R,_,_,R,R,⟨by lia,by lia⟩,_,_,R,R,(by show(0:Int)<25;lia),_,_,R,R,_,R,by show 3<=sizeLine;lia,fun p4 g4=>?_⟩;have u:=Zu g4 (.tup [.str (OJ "each"),.int (4+(m:Int)/16%25),.ref C]);obtain⟨L,O,Q⟩:=ZbM (a:=m%4) (b:=m/4%4) (hi:=3+m/16%25) (by lia) (by lia) Y (fun z=>by rw[mem,<-e4 4,<-e5 4 4];exact Iff.rfl) S;refine q (.each (4+m/16%25) L) _ _ (((B.trans t2).trans y).trans u) ⟨by lia,by lia,by rw[show 4+m/16%25 - 1=3+m/16%25 by lia];exact Q⟩ (M _ R) (Om _ _) fun tp i=>.each (l:=C) ?_ ?_ fun e=>i (e ▸ U)
  ·rw[Zg,show((4+m/16%25:Nat):Int)=4+(m:Int)/16%25 by lia]
  ·exact u _ _ (by rw[Zg,O])
 have d1:1<=deep:=by
  rcases Nat.eq_zero_or_pos deep with h|h
  ·have:=J h
   have n0:¬ (f:Int)=0:=fun e=>n0 (by rw[Vx];simpa using e);have X:¬ (f:Int)=1:=fun e=>X (by rw[Vx];simpa using e);have n3:¬ (f:Int)=3:=fun e=>n3 (by rw[Vx];simpa using e);lia
  ·exact h
 obtain⟨dp,rfl⟩:∃dp,deep=dp+1:=⟨deep - 1,by lia⟩;have er:∀c:Nat,(m:Int)*((c:Nat):Int)%2147483647=((m*c%2147483647:Nat):Int):=fun c=>by rw[SX,Int.natCast_mul];rfl
 have ea:∀c:Nat,[V.int ((m:Int)*((c:Nat):Int)%2147483647),V.int (((dp+1:Nat):Int) - 1)]=[.int ((m*c%2147483647:Nat):Int),.int (dp:Int)]:=fun c=>by rw[er c,show((dp+1:Nat):Int) - 1=(dp:Int) by lia]
 have lt:∀c:Nat,m*c%2147483647<2147483647:=fun c=>Oo _ (by lia);refine⟨_,R,_,_,R,R,.inr ⟨by lia,by lia⟩,_,_,R,R,(by show(0:Int)<2147483647;lia),_,R,_,_,R,R,m*48271%2147483647,dp,ea 48271,lt _,by lia,by lia,fun r v H2 s2 g2 w2 p2 T2=>?_⟩;have D:=B.trans s2;have I:∀tp,H tp≠none->YN tp H2 v r:=fun tp h=>T2 tp fun e=>h (B.free e);have j0:2 ^ (dp+1+1)=2*2 ^ (dp+1):=by rw[Nat.pow_succ,Nat.mul_comm]
 refine⟨_,R,R,_,R,WF (fun _=>?_) (fun n2=>?_)⟩
 ·sleep 1;refine⟨_,R,_,_,R,R,(by show(0:Int)<20;lia),_,R,_,_,R,R,(by show(0:Int)<20;lia),_,R,_,_,R,R,⟨by lia,by lia⟩,_,_,R,R,(by show(0:Int)<30;lia),_,_,R,R,_,R,by show 4<=sizeLine;lia,fun p g=>?_⟩
  have y:=Zu g (.tup [.str (OJ "span"),.int ((m:Int)%20),.int ((m:Int)%20+(m:Int)/20%30),v]);refine q (.span (m%20) (m%20+m/20%30) r) _ _ (D.trans y) ⟨by lia,by lia,g2⟩ (by show 1+r.weight+1<=_;lia) (by show 1+r.depth<=_;lia) fun tp i=>.span (v:=v) ?_ ((I tp i).same y);rw[Zg,show((m%20+m/20%30:Nat):Int)=(m:Int)%20+(m:Int)/20%30 by lia,show((m%20:Nat):Int)=(m:Int)%20 by lia]
 refine⟨_,R,R,_,R,WF (fun _=>?_) (fun n4=>?_)⟩
 ·sleep 1;refine⟨_,R,_,_,R,R,(by show(0:Int)<9;lia),_,R,_,_,R,R,⟨by lia,by lia⟩,_,_,R,R,(by show(0:Int)<9;lia),by show 2<=sizeLine;lia,fun p1 g1=>?_⟩
  have x:=Zu g1 (.lst [.int ((m:Int)%9),.int ((m:Int)/9%9)]);refine⟨p1,[(m:Int)%9,(m:Int)/9%9],R,Zf.of Zg,by show 2<=1000;lia,fun G g3=>?_⟩;have t2:=x.trans (Zu g3 (F0 P w G [(m:Int)%9,(m:Int)/9%9]));refine⟨G,_,R,Zg,by show 2<64;lia,fun C zs g4 Y mem S=>?_⟩;have y:=Zu g4 (.lst (zs.map V.int));have U:=(D.trans t2).free g4;refine⟨_,R,by show 3<=sizeLine;lia,fun p4 g5=>?_⟩;have u:=Zu g5 (.tup [.str (OJ "but"),.ref C,v]);obtain⟨L,O,Q⟩:=ZbM (a:=m%9) (b:=m/9%9) (hi:=9999) (by lia) (by lia) Y (fun z=>by rw[mem,<-e4 9,<-e5 9 9];exact Iff.rfl) S;refine q (.but L r) _ _ (((D.trans t2).trans y).trans u) ⟨Q,g2⟩ (by show 1+r.weight+1<=_;lia) (by show 1+r.depth<=_;lia) fun tp i=>.but (l:=C) Zg ?_ (fun e=>i (e ▸ U)) ((I tp i).same ((t2.trans y).trans u));exact u _ _ (by rw[Zg,O])
 have e0:f=5\/f=6:=by
  have J:¬ (f:Int)=0:=fun e=>n0 (by rw[Vx];simpa using e);have h1:¬ (f:Int)=1:=fun e=>X (by rw[Vx];simpa using e);have h2:¬ (f:Int)=2:=fun e=>n2 (by rw[Vx];simpa using e);have h3:¬ (f:Int)=3:=fun e=>n3 (by rw[Vx];simpa using e);have h4:¬ (f:Int)=4:=fun e=>n4 (by rw[Vx];simpa using e);lia
 refine⟨by show 2<=sizeLine;lia,fun p1 g1=>?_⟩;have x:=Zu g1 (.lst [.str (OJ "either"),.str (OJ "both")]);obtain⟨E,ek,hk⟩:∃E,Y6 [V.str (OJ "either"),V.str (OJ "both")] ((f:Int) - 5)=some E/\(E=.str (OJ "either")\/E=.str (OJ "both")):=by
  rcases e0 with rfl|rfl
  ·exact⟨_,R,.inl R⟩
  ·exact⟨_,R,.inr R⟩
 refine⟨_,R,_,_,R,R,p1,_,_,_,R,R,Zf.of Zg,ek,_,R,?_⟩;refine⟨_,R,_,_,R,R,.inr ⟨by lia,by lia⟩,_,_,R,R,(by show(0:Int)<2147483647;lia),_,R,_,_,R,R,m*16807%2147483647,dp,ea 16807,lt _,by lia,by lia,fun r3 v3 H3 T g3 w3 p3 T3=>?_⟩;refine⟨by show 3<=sizeLine;lia,fun p4 g4=>?_⟩;have u:=Zu g4 (.tup [E,v,v3]);have b0:∀tp,H tp≠none->YN tp H3 v3 r3:=fun tp h=>T3 tp fun e=>h ((D.trans x).free e);have S4:=((D.trans x).trans T).trans u;rcases hk with rfl|rfl
 ·exact q (.either r r3) _ _ S4 ⟨g2,g3⟩ (by show 1+(r.weight+r3.weight)+1<=_;lia) (by show 1+max r.depth r3.depth<=_;lia) fun tp i=>.either Zg ((I tp i).same ((x.trans T).trans u)) ((b0 tp i).same u)
 ·exact q (.both r r3) _ _ S4 ⟨g2,g3⟩ (by show 1+(r.weight+r3.weight)+1<=_;lia) (by show 1+max r.depth r3.depth<=_;lia) fun tp i=>.both Zg ((I tp i).same ((x.trans T).trans u)) ((b0 tp i).same u)
inductive Zkr(c:RC)(K:Ow)(n:Nat)(vs:List V)(H:Hp)(Q:VK)(_e3:XK):Prop|mk (tp:Addr) (v:V) (r:RT) (_:vs=[v]) (_:YN tp H v r) (_:r.good) (_:r.weight<=15) (_:r.depth<=8) (_:r.depth<=n) (_:∀b H',Zc H H'->ZQ c K H' b r->Q (.ref b) H')
theorem Zks(e:Zv K mg t):∀n:Nat,Zn P w K mg base Zo (n+42) t.jL t.jM ["_law_told"] (Zkr (rc t) K n):=by
 intro n
 induction n with
 |zero =>
  refine e.Xy.F.ok uK (fun vs a0 c0 d0 h=>?_) (fun e0 A outer s a0 vs c0 d0 i h=>?_)
  ·obtain⟨tp,v,r,rfl,_⟩:=h
   rfl
  ·obtain⟨tp,v,r,rfl,h,g,J,I,hd,_⟩:=h
   have:=r.depth_pos;lia
 |succ n H =>
 refine e.Xy.F.ok uK (by lia) fun e0 A outer s a0 vs c0 d0 i h=>?_;obtain⟨tp,v,r,rfl,h,g,J,I,hd,q⟩:=h;refine⟨_,(Zh (ZN (Yy Y4 (Zs ZF (pv 0) Zb) ZJ) (Zi (ZA (xL e.ZaM R e.Tl))) ZP) (Zh (ZN (Yy Y4 (Zs ZF (pv 0) Zb) ZJ) (Zi (ZA (WT e.ZaN (Zjf e) (i.mono (by lia)) R e.ZaV e.RG.b .nil Zl (Zk (Zs ZF (pv 0) Zb))))) ZP) (Zh (ZN (Yy Y4 (Zs ZF (pv 0) Zb) ZJ) (Zi (ZA (WT e.ZaP (Zjg e) (i.mono (by lia)) R e.ZaX e.RL.b .nil Zl (Zm (Zs ZF (pv 0) Zb) (Yw U1 R e.Wm Wj (Zk (Zs ZF (pv 0) Zb))))))) ZP) (Zh (ZN (Yy Y4 (Zs ZF (pv 0) Zb) ZJ) (Zi (ZA (WT e.ZaO (Zjb e) (i.mono (by lia)) R e.ZaW e.RJ.b .nil Zl (Ys (Zs ZF (pv 0) Zb) (Zs ZF (pv 0) Zb) (Wu H (i.mono (by lia)) R e.Xy.m e.Xy.F.kp e.Xy.b .nil Zl (Zk (Zs ZF (pv 0) Zb))))))) ZP) (Zh (ZN (Yy Y4 (Zs ZF (pv 0) Zb) ZJ) (Zi (ZA (WT e.ZaS (Zjc e) (i.mono (by lia)) R e.Za0 e.RS.b .nil Zl (Zm (Yw U1 R e.Wm Wj (Zk (Zs ZF (pv 0) Zb))) (Wu H (i.mono (by lia)) R e.Xy.m e.Xy.F.kp e.Xy.b .nil Zl (Zk (Zs ZF (pv 0) Zb))))))) ZP) (Zh (ZN (Yy Y4 (Zs ZF (pv 0) Zb) ZJ) (Zi (ZA (WT e.ZaQ (Zjd e) (i.mono (by lia)) R e.ZaY e.RO.b .nil Zl (Zm (Wu H (i.mono (by lia)) R e.Xy.m e.Xy.F.kp e.Xy.b .nil Zl (Zk (Zs ZF (pv 0) Zb))) (Wu H (i.mono (by lia)) R e.Xy.m e.Xy.F.kp e.Xy.b .nil Zl (Zk (Zs ZF (pv 0) Zb))))))) ZP) (Zi (ZA (WT e.ZaR (Zje e) (i.mono (by lia)) R e.ZaZ e.RQ.b .nil Zl (Zm (Wu H (i.mono (by lia)) R e.Xy.m e.Xy.F.kp e.Xy.b .nil Zl (Zk (Zs ZF (pv 0) Zb))) (Wu H (i.mono (by lia)) R e.Xy.m e.Xy.F.kp e.Xy.b .nil Zl (Zk (Zs ZF (pv 0) Zb))))))))))))),?_⟩;cases h with
 |always h =>
  refine⟨_,R,_,_,0,_,R,R,Zj.of h,R,R,_,R,Z9 (by lia) ?_⟩;exact fun x E nx nd G=>q x _ (XI nx (XI nd (Zc.refl _) _) _) (.always Zg)
 |week h =>
  refine⟨_,R,_,_,0,_,R,R,Zj.of h,R,R,_,R,Zp (by lia) ?_⟩;refine⟨_,R,_,_,0,_,R,R,Zj.of h,R,R,_,R,Z9 (by lia) ?_⟩;exact⟨_,R,_,_,1,_,R,R,Zj.of h,R,fun x E nx nd G=>⟨x,a0,_,R,VL nx nd,g,fun B y u=>⟨R,q x B y (u.same (V5 _ _))⟩⟩⟩
 |each h U ne =>
  rename_i a l m ss;refine⟨_,R,_,_,0,_,R,R,Zj.of h,R,R,_,R,Zp (by lia) ?_⟩;refine⟨_,R,_,_,0,_,R,R,Zj.of h,R,R,_,R,Zp (by lia) ?_⟩;refine⟨_,R,_,_,0,_,R,R,Zj.of h,R,R,_,R,Z9 (by lia) ?_⟩;refine⟨_,R,_,_,1,_,R,R,Zj.of h,R,_,R,_,_,2,_,R,R,Zj.of h,R,l,_,R,.inl (Zf.of U),fun p Y x E nx nd G=>?_⟩;have f:=Zu Y (.lst (Yx ss));exact⟨x,p,_,_,_,R,VL nx nd,Zg,g,fun B y u=>⟨R,q x B (f.trans y) (u.same (V5 _ _))⟩⟩
 |span h D =>
  rename_i a T Q v r;have Z:(RT.span T Q r).depth=1+r.depth:=rfl;have S:(RT.span T Q r).weight=1+r.weight:=rfl;refine⟨_,R,_,_,0,_,R,R,Zj.of h,R,R,_,R,Zp (by lia) ?_⟩;refine⟨_,R,_,_,0,_,R,R,Zj.of h,R,R,_,R,Zp (by lia) ?_⟩;refine⟨_,R,_,_,0,_,R,R,Zj.of h,R,R,_,R,Zp (by lia) ?_⟩;refine⟨_,R,_,_,0,_,R,R,Zj.of h,R,R,_,R,Z9 (by lia) ?_⟩;refine⟨_,R,_,_,1,_,R,R,Zj.of h,R,_,R,_,_,2,_,R,R,Zj.of h,R,_,R,_,_,3,_,R,R,Zj.of h,R,tp,v,r,R,D,g.2.2,by lia,by lia,by lia,fun b X f C=>?_⟩;exact fun x E nx nd G=>⟨x,b,X,T,Q,r,R,VL nx nd,C,g,J,I,by lia,fun B y u=>⟨R,q x B (f.trans y) (u.same (V5 _ _))⟩⟩
 |but h U ne D =>
  rename_i a l ds v r;have Z:(RT.but ds r).depth=1+r.depth:=rfl;have S:(RT.but ds r).weight=1+r.weight:=rfl;refine⟨_,R,_,_,0,_,R,R,Zj.of h,R,R,_,R,Zp (by lia) ?_⟩;refine⟨_,R,_,_,0,_,R,R,Zj.of h,R,R,_,R,Zp (by lia) ?_⟩;refine⟨_,R,_,_,0,_,R,R,Zj.of h,R,R,_,R,Zp (by lia) ?_⟩;refine⟨_,R,_,_,0,_,R,R,Zj.of h,R,R,_,R,Zp (by lia) ?_⟩;refine⟨_,R,_,_,0,_,R,R,Zj.of h,R,R,_,R,Z9 (by lia) ?_⟩;refine⟨_,R,_,_,1,_,R,R,Zj.of h,R,l,_,R,.inl (Zf.of U),fun p Y=>?_⟩;have f:=Zu Y (.lst (Yx ds));have C:=f _ _ h;refine⟨_,R,_,_,2,_,R,R,Zj.of C,R,tp,v,r,R,D.same f,g.2,by lia,by lia,by lia,fun b M s2 L=>?_⟩;exact fun x E nx nd G=>⟨x,p,b,M,ds,r,R,VL nx nd,s2 _ _ Zg,L,g,J,I,by lia,fun B y u=>⟨R,q x B ((f.trans s2).trans y) (u.same (V5 _ _))⟩⟩
 |either h D hu =>
  rename_i a v b0 r j;have Z:(RT.either r j).depth=1+max r.depth j.depth:=rfl;have S:(RT.either r j).weight=1+(r.weight+j.weight):=rfl;refine⟨_,R,_,_,0,_,R,R,Zj.of h,R,R,_,R,Zp (by lia) ?_⟩;refine⟨_,R,_,_,0,_,R,R,Zj.of h,R,R,_,R,Zp (by lia) ?_⟩;refine⟨_,R,_,_,0,_,R,R,Zj.of h,R,R,_,R,Zp (by lia) ?_⟩;refine⟨_,R,_,_,0,_,R,R,Zj.of h,R,R,_,R,Zp (by lia) ?_⟩;refine⟨_,R,_,_,0,_,R,R,Zj.of h,R,R,_,R,Zp (by lia) ?_⟩;refine⟨_,R,_,_,0,_,R,R,Zj.of h,R,R,_,R,Z9 (by lia) ?_⟩;refine⟨_,R,_,_,1,_,R,R,Zj.of h,R,tp,v,r,R,D,g.1,by lia,by lia,by lia,fun b X f C=>?_⟩;have L:=f _ _ h;refine⟨_,R,_,_,2,_,R,R,Zj.of L,R,tp,b0,j,R,hu.same f,g.2,by lia,by lia,by lia,fun c M s2 O=>?_⟩;exact fun x E nx nd G=>⟨x,b,c,M,r,j,R,VL nx nd,C.same s2,O,g,J,I,by lia,by lia,fun B y u=>⟨R,q x B ((f.trans s2).trans y) (u.same (V5 _ _))⟩⟩
 |both h D hu =>
  rename_i a v b0 r j;have Z:(RT.both r j).depth=1+max r.depth j.depth:=rfl;have S:(RT.both r j).weight=1+(r.weight+j.weight):=rfl;refine⟨_,R,_,_,0,_,R,R,Zj.of h,R,R,_,R,Zp (by lia) ?_⟩;refine⟨_,R,_,_,0,_,R,R,Zj.of h,R,R,_,R,Zp (by lia) ?_⟩;refine⟨_,R,_,_,0,_,R,R,Zj.of h,R,R,_,R,Zp (by lia) ?_⟩;refine⟨_,R,_,_,0,_,R,R,Zj.of h,R,R,_,R,Zp (by lia) ?_⟩;refine⟨_,R,_,_,0,_,R,R,Zj.of h,R,R,_,R,Zp (by lia) ?_⟩;refine⟨_,R,_,_,0,_,R,R,Zj.of h,R,R,_,R,Zp (by lia) ?_⟩;refine⟨_,R,_,_,1,_,R,R,Zj.of h,R,tp,v,r,R,D,g.1,by lia,by lia,by lia,fun b X f C=>?_⟩;have L:=f _ _ h;refine⟨_,R,_,_,2,_,R,R,Zj.of L,R,tp,b0,j,R,hu.same f,g.2,by lia,by lia,by lia,fun c M s2 O=>?_⟩;exact fun x E nx nd G=>⟨x,b,c,M,r,j,R,VL nx nd,C.same s2,O,g,J,I,by lia,by lia,fun B y u=>⟨R,q x B ((f.trans s2).trans y) (u.same (V5 _ _))⟩⟩
inductive Zkt(n:Nat)(vs:List V)(H:Hp)(Q:VK)(_e3:XK):Prop|mk (tp:Addr) (v:V) (r:RT) (d:Nat) (_:vs=[v,.int d]) (_:YN tp H v r) (_:r.good) (_:r.depth<=n) (_:∀H',Zc H H'->Q (.bl (r.runs d)) H')
theorem Zku(f:Zv K mg t):∀n:Nat,Zn P w K mg base Zo (n+1) t.jN t.jO ["_law_told","_law_day"] (Zkt n):=by
 intro n
 induction n with
 |zero =>
  refine f.WJ.F.ok Nr (fun vs H Q a0 h=>?_) (fun b0 A outer s H vs Q a0 L h=>?_)
  ·obtain⟨tp,v,r,d,rfl,_⟩:=h
   rfl
  ·obtain⟨tp,v,r,d,rfl,h,g,hd,_⟩:=h
   have:=r.depth_pos;lia
 |succ n O =>
 refine f.WJ.F.ok Nr (by lia) fun b0 A outer s H vs Q a0 L h=>?_;obtain⟨tp,v,r,d,rfl,h,g,hd,q⟩:=h;refine⟨_,(Zh (ZN (Yy Y4 (Zs ZF (pv 0) Zb) ZJ) (Zi (ZA WS)) ZP) (Zh (ZN (Yy Y4 (Zs ZF (pv 0) Zb) ZJ) (Zi (ZA (Vd Y4 (Ze ZO (Ze Yt (Zs ZF (pv 0) Zb) (Ze zH Zb (Ze ZO (pv 1) Zb))) Zb) Zb (Ui _)))) ZP) (Zh (ZN (Yy Y4 (Zs ZF (pv 0) Zb) ZJ) (Zi (ZA (Vd J4 (Ze ZO (pv 1) (Zs ZF (pv 0) Zb)) (Zs ZF (pv 0) Zb) R))) ZP) (Zh (ZN (Yy Y4 (Zs ZF (pv 0) Zb) ZJ) (Zi (ZA (Uw (JY Wt Wt (Zs ZF (pv 0) Zb) (pv 1) (Zs ZF (pv 0) Zb)) (Vb (Wu O (L.mono (by lia)) R f.WJ.m f.WJ.F.kp f.WJ.b .nil Zl (Zm (Zs ZF (pv 0) Zb) (pv 1))))))) ZP) (Zh (ZN (Yy Y4 (Zs ZF (pv 0) Zb) ZJ) (Zi (ZA (Vd JX (Wu O (L.mono (by lia)) R f.WJ.m f.WJ.F.kp f.WJ.b .nil Zl (Zm (Zs ZF (pv 0) Zb) (pv 1))) (Vd J4 (pv 1) (Zs ZF (pv 0) Zb) R) (Ui _)))) ZP) (Zh (ZcQ (i:=2) (j:=3) R Nr.nd R R (by lia) R R (Zm (Wu O (L.mono (by lia)) R f.WJ.m f.WJ.F.kp f.WJ.b .nil Zl (Zm (Zs ZF (pv 0) Zb) (pv 1))) (Wu O (L.mono (by lia)) R f.WJ.m f.WJ.F.kp f.WJ.b .nil Zl (Zm (Zs ZF (pv 0) Zb) (pv 1)))) R) (Zi (ZA (QP (Yy Y4 (Zs ZF (pv 0) Zb) ZJ) (zA (pv 2) (Vb (pv 3))) (Uw (pv 2) (Vb (pv 3)))))))))))),?_⟩;cases h with
 |always h =>
  refine⟨_,R,_,_,0,_,R,R,Zj.of h,R,R,_,R,Z9 (by lia) ?_⟩;exact q _ (Zc.refl _)
 |week h =>
  rename_i a b;refine⟨_,R,_,_,0,_,R,R,Zj.of h,R,R,_,R,Zp (by lia) ?_⟩;refine⟨_,R,_,_,0,_,R,R,Zj.of h,R,R,_,R,Z9 (by lia) ?_⟩;have eN:((d:Int)%7).toNat=d%7:=by lia
  have pL:(1:Int)*2 ^ ((d:Int)%7).toNat=((2 ^ (d%7):Nat):Int):=by rw[eN,Int.one_mul,Int.natCast_pow];rfl
  have pP:0<2 ^ (d%7):=Nat.two_pow_pos _;have pU:2 ^ (d%7)<=2 ^ 6:=Nat.pow_le_pow_right (by lia) (by lia);refine⟨_,R,_,_,1,_,R,R,Zj.of h,R,_,R,_,_,R,R,(by show(0:Int)<7;lia),_,_,R,R,⟨by lia,by lia,by lia⟩,_,_,R,R,?_,_,_,R,R,(by show(0:Int)<2;lia),R,?_⟩
  ·rw[pL]
   exact⟨by lia,by lia⟩
  have c:=q H (Zc.refl _);have e:(RT.week b).runs d=decide (V.int ((b:Int)/((1:Int)*2 ^ ((d:Int)%7).toNat)%2)=V.int 1):=by
   rw[pL,Vx,<-SY];show(b/2 ^ (d%7)%2 == 1)=_;rw[Bool.eq_iff_iff,beq_iff_eq,beq_iff_eq];lia
  rw[e]at c;exact c
 |each h T ne =>
  rename_i a l m M;obtain⟨g1,g2,g3⟩:=g;refine⟨_,R,_,_,0,_,R,R,Zj.of h,R,R,_,R,Zp (by lia) ?_⟩;refine⟨_,R,_,_,0,_,R,R,Zj.of h,R,R,_,R,Zp (by lia) ?_⟩;refine⟨_,R,_,_,0,_,R,R,Zj.of h,R,R,_,R,Z9 (by lia) ?_⟩;have e1:(d:Int)%(m:Int)=((d%m:Nat):Int):=(SX d m).symm;refine⟨_,R,_,R,_,_,1,_,R,R,Zj.of h,R,_,_,R,R,(by show(0:Int)<(m:Int);lia),_,R,_,_,2,_,R,R,Zj.of h,R,l,_,R,.inl (Zf.of T),R,Kb M,?_⟩;have c:=q H (Zc.refl _);have e2:U0 (.int ((d:Int)%(m:Int))) (Yx M)=(RT.each m M).runs d:=by
   rw[e1];exact E9 (d%m) M
  rw[<-e2]at c;exact c
 |span h E =>
  rename_i a x y v r;have Z:(RT.span x y r).depth=1+r.depth:=rfl;have Y:∀b:Bool,b=(decide (x<=d) && decide (d<=y) && r.runs d)->∀G,Zc H G->Q (.bl b) G:=fun b e G U=>by rw[e];exact q G U
  refine⟨_,R,_,_,0,_,R,R,Zj.of h,R,R,_,R,Zp (by lia) ?_⟩;refine⟨_,R,_,_,0,_,R,R,Zj.of h,R,R,_,R,Zp (by lia) ?_⟩;refine⟨_,R,_,_,0,_,R,R,Zj.of h,R,R,_,R,Zp (by lia) ?_⟩;refine⟨_,R,_,_,0,_,R,R,Zj.of h,R,R,_,R,Z9 (by lia) ?_⟩;refine⟨_,R,_,_,1,_,R,R,Zj.of h,R,_,R,_,_,R,R,_,R,?_⟩;by_cases D:x<=d
  ·rw[SW (SQ (by lia))]
   refine⟨_,R,_,_,2,_,R,R,Zj.of h,R,_,_,R,R,_,R,?_⟩;by_cases h2:d<=y
   ·refine Z9 (SQ (by lia)) ?_
    exact⟨_,R,_,_,3,_,R,R,Zj.of h,R,_,R,tp,v,r,d,R,E,g.2.2,by lia,fun G U=>Y _ (by rw[SQ D,SQ h2];rfl) G U⟩
   ·refine Zp (by rw[SR (by lia)];lia) ?_
    exact Y _ (by rw[SR h2,Bool.and_false,Bool.false_and]) H (Zc.refl _)
  ·rw[SV (by rw[SR (by lia)];lia)]
   exact⟨_,R,Zp (by lia) (Y _ (by rw[SR D,Bool.false_and,Bool.false_and]) H (Zc.refl _))⟩
 |but h T ne E =>
  rename_i a l ds v r;have Z:(RT.but ds r).depth=1+r.depth:=rfl;refine⟨_,R,_,_,0,_,R,R,Zj.of h,R,R,_,R,Zp (by lia) ?_⟩;refine⟨_,R,_,_,0,_,R,R,Zj.of h,R,R,_,R,Zp (by lia) ?_⟩;refine⟨_,R,_,_,0,_,R,R,Zj.of h,R,R,_,R,Zp (by lia) ?_⟩;refine⟨_,R,_,_,0,_,R,R,Zj.of h,R,R,_,R,Zp (by lia) ?_⟩;refine⟨_,R,_,_,0,_,R,R,Zj.of h,R,R,_,R,Z9 (by lia) ?_⟩;refine⟨_,R,_,_,2,_,R,R,Zj.of h,R,_,R,tp,v,r,d,R,E,g.2,by lia,fun X B=>?_⟩;have D:=B _ _ h;refine⟨_,R,_,R,_,_,1,_,R,R,Zj.of D,R,l,_,R,.inl (Zf.of (B _ _ T)),R,Kb ds,R,?_⟩;have c:=q X B;have e:(RT.but ds r).runs d=(!decide (V.bl (r.runs d)=V.bl (U0 (.int (d:Int)) (Yx ds)))):=by
   rw[E9,JW];rfl
  rw[e]at c;exact c
 |either h E hu =>
  rename_i a v u r C;have Z:(RT.either r C).depth=1+max r.depth C.depth:=rfl;refine⟨_,R,_,_,0,_,R,R,Zj.of h,R,R,_,R,Zp (by lia) ?_⟩;refine⟨_,R,_,_,0,_,R,R,Zj.of h,R,R,_,R,Zp (by lia) ?_⟩;refine⟨_,R,_,_,0,_,R,R,Zj.of h,R,R,_,R,Zp (by lia) ?_⟩;refine⟨_,R,_,_,0,_,R,R,Zj.of h,R,R,_,R,Zp (by lia) ?_⟩;refine⟨_,R,_,_,0,_,R,R,Zj.of h,R,R,_,R,Zp (by lia) ?_⟩;refine⟨_,R,_,_,1,_,R,R,Zj.of h,R,_,R,tp,v,r,d,R,E,g.1,by lia,fun X B=>?_⟩;have D:=B _ _ h;refine⟨_,R,_,_,2,_,R,R,Zj.of D,R,_,R,tp,u,C,d,R,hu.same B,g.2,by lia,fun H2 s2=>?_⟩;have J:=B.trans s2;have S:=J _ _ h;refine⟨_,_,R,?_⟩;refine⟨_,R,_,_,0,_,R,R,Zj.of S,R,R,_,R,Z9 (by lia) ?_⟩;have c:=q _ J;refine⟨_,R,_,R,?_⟩;have e:(RT.either r C).runs d=(r.runs d || C.runs d):=rfl;rw[e]at c;cases I:r.runs d with
  |true=>rw[I]at c;exact Z9 R c
  |false=>rw[I]at c;exact Zp (by lia) ⟨_,R,c⟩
 |both h E hu =>
  rename_i a v u r C;have Z:(RT.both r C).depth=1+max r.depth C.depth:=rfl;refine⟨_,R,_,_,0,_,R,R,Zj.of h,R,R,_,R,Zp (by lia) ?_⟩;refine⟨_,R,_,_,0,_,R,R,Zj.of h,R,R,_,R,Zp (by lia) ?_⟩;refine⟨_,R,_,_,0,_,R,R,Zj.of h,R,R,_,R,Zp (by lia) ?_⟩;refine⟨_,R,_,_,0,_,R,R,Zj.of h,R,R,_,R,Zp (by lia) ?_⟩;refine⟨_,R,_,_,0,_,R,R,Zj.of h,R,R,_,R,Zp (by lia) ?_⟩;refine⟨_,R,_,_,1,_,R,R,Zj.of h,R,_,R,tp,v,r,d,R,E,g.1,by lia,fun X B=>?_⟩;have D:=B _ _ h;refine⟨_,R,_,_,2,_,R,R,Zj.of D,R,_,R,tp,u,C,d,R,hu.same B,g.2,by lia,fun H2 s2=>?_⟩;have J:=B.trans s2;have S:=J _ _ h;refine⟨_,_,R,?_⟩;refine⟨_,R,_,_,0,_,R,R,Zj.of S,R,R,_,R,Zp (by lia) ?_⟩;have c:=q _ J;refine⟨_,R,_,R,?_⟩;have e:(RT.both r C).runs d=(r.runs d && C.runs d):=rfl;rw[e]at c;cases I:r.runs d with
  |true=>rw[I]at c;exact Z9 R ⟨_,R,c⟩
  |false=>rw[I]at c;exact Zp (by lia) c
theorem ZW(g:H p=none)(e:upd H p o=c):Zc H c:=e ▸ Zu g o
theorem ZX(e:upd H p o=c):c p=some o:=e ▸ Zg
structure Zkv(kvs:List (Zt×V))(a:NA):Prop where
 s:Zz kvs (Sum.inr (OJ "stops"))=some (.ref a.ds)
 w:Zz kvs (Sum.inr (OJ "walks"))=some (.ref a.lw)
 r:Zz kvs (Sum.inr (OJ "rules"))=some (.ref a.dr)
 t:Zz kvs (Sum.inr (OJ "tickets"))=some (.ref a.dt)
 p:Zz kvs (Sum.inr (OJ "trips"))=some (.ref a.dp)
def Xv(H:Hp)(c:Zt×V)(k:Yj):Prop:=c.1=Sum.inr k.nm/\∃tp,YN tp H c.2 k.r
theorem Xv.same(s:Zc H f)(h:Xv H c k):Xv f c k:=let ⟨e,tp,h⟩:=h;⟨e,tp,h.same s⟩
def WP(H:Hp)(c:Zt×V)(k:WO):Prop:=c.1=Sum.inr k.nm/\∃r z,c.2=.ref r/\H r=some (.tup [.int (k.pr:Nat),.int (k.la:Nat),.ref z])/\H z=some (.lst (Yx k.zs))
theorem WP.same(s:Zc H f)(h:WP H c k):WP f c k:=let ⟨e,r,z,e1,e2,e3⟩:=h;⟨e,r,z,e1,s _ _ e2,s _ _ e3⟩
def Xi(H:Hp)(c:Zt×V)(k:Tp):Prop:=c.1=Sum.inr k.nm/\∃r l e,c.2=.ref r/\H r=some (.tup [.str k.ru,.ref l])/\H l=some (.lst e)/\Al (Yp H) e k.cs
theorem Xi.same(s:Zc H f)(h:Xi H c k):Xi f c k:=let ⟨e,r,l,vs,e1,e2,e3,e4⟩:=h;⟨e,r,l,vs,e1,s _ _ e2,s _ _ e3,e4.imp fun _ _=>Yp.same s⟩
structure Y3(H:Hp)(wd:Addr)(a:NA)(W:Z1):Prop where
 ob:∃kvs,H wd=some (.dK kvs)/\Zkv kvs a
 ap:Zbz a
 st:∃rows,H a.ds=some (.dK rows)/\Al (YS H) rows W.st
 wk:∃vs,H a.lw=some (.lst vs)/\Al (Y1 H) vs W.wk
 ru:∃rows,H a.dr=some (.dK rows)/\Al (Xv H) rows W.ru
 tk:∃rows,H a.dt=some (.dK rows)/\Al (WP H) rows W.tk
 tp:∃rows,H a.dp=some (.dK rows)/\Al (Xi H) rows W.tp
theorem Y3.same{W:Z1}(s:Zc H c)(h:Y3 H n a W):Y3 c n a W:=by
 obtain⟨⟨G,q,j⟩,ap,⟨r1,f,x⟩,⟨u,e,g⟩,⟨i,B,C⟩,⟨r3,v,y⟩,⟨D,I,E⟩⟩:=h;exact⟨⟨G,s _ _ q,j⟩,ap,⟨r1,s _ _ f,x.imp fun _ _=>YS.same s⟩,⟨u,s _ _ e,g.imp fun _ _=>Y1.same s⟩,⟨i,s _ _ B,C.imp fun _ _=>Xv.same s⟩,⟨r3,s _ _ v,y.imp fun _ _=>WP.same s⟩,⟨D,s _ _ I,E.imp fun _ _=>Xi.same s⟩⟩
def Zkw:Sp:=fun f H Q _=>f=[]/\∀c a e,Zc H e->H c=none->VN H a->(c≠a.ds/\c≠a.dr/\c≠a.dt/\c≠a.dp)->Y3 e c a ⟨[],[],[],[],[]⟩->Q (.ref c) e
theorem Zkx(O:Zv K mg t):Zn P w K mg base Zo 1 t.jR t.jS [] Zkw:=by
 refine O.K5.F.ok ZgI (by lia) fun h0 A outer s d0 vs i0 j0 hr h=>?_;obtain⟨rfl,a0⟩:=h;refine⟨_,(Zi (ZA (Zfv (F5 ZJ UD (F5 ZJ (Z5 Xl) (F5 ZJ UD (F5 ZJ UD (F5 ZJ UD Zft))))) R R (fun h=>nomatch h) (by lia)))),?_⟩;sleep 1;intro p x;generalize c:upd d0 p _=H;have q:=ZW x c;have n:=ZX c;clear c;refine fun p1 g1=>?_;generalize c:upd H p1 _=H1;have e:=ZW g1 c;have v:=ZX c;clear c;refine⟨by show 0<=sizeLine;lia,fun u g2=>?_⟩;generalize c:upd H1 u _=H2;have s2:=ZW g2 c;have c2:=ZX c;clear c;refine fun p3 g3=>?_;generalize c:upd H2 p3 _=T;have f:=ZW g3 c;have y:=ZX c;clear c;refine fun i g4=>?_;generalize c:upd T i _=H4;have g:=ZW g4 c;have B:=ZX c;clear c;refine fun j g5=>?_;generalize c:upd H4 j _=H5;have s5:=ZW g5 c;have X:=ZX c;clear c;have k0:=s5 _ _ (g _ _ (f _ _ (s2 _ _ (e _ _ n))));have k1:=s5 _ _ (g _ _ (f _ _ (s2 _ _ v)));have Z:=s5 _ _ (g _ _ (f _ _ c2));have J:=s5 _ _ (g _ _ y);have Y:=s5 _ _ B;have U:=q.free g1;have Q:=(q.trans e).free g2;have n3:=((q.trans e).trans s2).free g3;have n4:=(((q.trans e).trans s2).trans f).free g4;have n5:=((((q.trans e).trans s2).trans f).trans g).free g5;have C:p≠p1:=ZI n g1;have b0:p≠u:=ZI (e _ _ n) g2;have G:p≠p3:=ZI (s2 _ _ (e _ _ n)) g3;have D:p≠i:=ZI (f _ _ (s2 _ _ (e _ _ n))) g4;have E:p≠j:=ZI (g _ _ (f _ _ (s2 _ _ (e _ _ n)))) g5;have f0:p1≠p3:=ZI (s2 _ _ v) g3;have L:p1≠i:=ZI (f _ _ (s2 _ _ v)) g4;have I:p1≠j:=ZI (g _ _ (f _ _ (s2 _ _ v))) g5;have M:p3≠i:=ZI y g4;have e0:p3≠j:=ZI (g _ _ y) g5;have g0:i≠j:=ZI B g5;refine⟨k0,[(Sum.inr (OJ "stops"),.ref p1),(Sum.inr (OJ "walks"),.ref u),(Sum.inr (OJ "rules"),.ref p3),(Sum.inr (OJ "tickets"),.ref i),(Sum.inr (OJ "trips"),.ref j)],R,by show 5<=15;lia,?_⟩;have S:=((((q.trans e).trans s2).trans f).trans g).trans s5;refine a0 p ⟨p1,u,p3,i,j⟩ _ (YW S x _) x ⟨U,Q,n3,n4,n5⟩ ⟨C,G,D,E⟩ ⟨⟨_,Zg,⟨R,R,R,R,R⟩⟩,⟨f0,L,I,M,e0,g0⟩,⟨[],by rw[Zd C.symm];exact k1,.nil⟩,⟨[],by rw[Zd b0.symm];exact Z,.nil⟩,⟨[],by rw[Zd G.symm];exact J,.nil⟩,⟨[],by rw[Zd D.symm];exact Y,.nil⟩,⟨[],by rw[Zd E.symm];exact X,.nil⟩⟩
structure LF(H:Hp)(wd:Addr)(a:NA):Prop extends VN H a where
 d:H wd=none
 ns:wd≠a.ds
 nr:wd≠a.dr
 nt:wd≠a.dt
 np:wd≠a.dp
section Wp
variable{d:Addr}{kvs:List (Zt×V)}{o:HO}(hd:H d=some (.dK kvs))
include hd
theorem XC(h:H p=some (.lst xs)):upd H d o p=some (.lst xs):=by rw[Zd (Z4 h hd (by intro z;cases z))];exact h
theorem YN.put(h:YN tp H v r):YN tp (upd H d o) v r:=by
 induction h with
 |always h=>exact .always (XA hd ZE.k h)
 |week h=>exact .week (XA hd ZE.k h)
 |span h _ e=>exact .span (XA hd ZE.k h) e
 |each h f ne=>exact .each (XA hd ZE.k h) (XC hd f) ne
 |either h _ _ g c=>exact .either (XA hd ZE.k h) g c
 |both h _ _ g c=>exact .both (XA hd ZE.k h) g c
 |but h f ne _ e=>exact .but (XA hd ZE.k h) (XC hd f) ne e
theorem Xv.put(h:Xv H c k):Xv (upd H d o) c k:=let ⟨e,tp,h⟩:=h;⟨e,tp,YN.put hd h⟩
theorem WP.put(h:WP H c k):WP (upd H d o) c k:=let ⟨e,r,z,e1,e2,e3⟩:=h;⟨e,r,z,e1,XA hd ZE.k e2,XC hd e3⟩
theorem Xi.put(h:Xi H c k):Xi (upd H d o) c k:=let ⟨e,r,l,vs,e1,e2,e3,e4⟩:=h;⟨e,r,l,vs,e1,XA hd ZE.k e2,XC hd e3,e4.imp fun _ _=>Yp.put hd ZE.k⟩
end Wp
section Wa
variable{H0:Hp}{wd:Addr}{a:NA}{W:Z1}{rows:List (Zt×V)}{v:V}(h:Y3 H wd a W)(n:LF H0 wd a)
include h n
theorem Y3.addSt{x:Yh}(c:H a.ds=some (.dK rows))(C:Al (YS H) rows W.st)(g:Zz rows (Sum.inr x.nm)=none)(L:YS H (Sum.inr x.nm,v) x):Y3 (upd H a.ds (.dK (YB rows (Sum.inr x.nm) v))) wd a { W with st:=W.st++[x] }:=by
 obtain⟨⟨f,u,q⟩,ap,_,⟨y,e,i⟩,⟨j,E,G⟩,⟨r3,B,D⟩,⟨I,M,J⟩⟩:=h;refine⟨⟨f,by rw[Zd n.ns];exact u,q⟩,ap,⟨_,Zg,?_⟩,⟨y,XC c e,i.imp fun _ _=>Y1.put c ZE.k⟩,⟨j,by rw[Zd (ap.sr.symm)];exact E,G.imp fun _ _=>Xv.put c⟩,⟨r3,by rw[Zd (ap.st.symm)];exact B,D.imp fun _ _=>WP.put c⟩,⟨I,by rw[Zd (ap.sp.symm)];exact M,J.imp fun _ _=>Xi.put c⟩⟩;rw[UG v g];exact(C.imp fun _ _=>YS.put c ZE.k).snoc (L.put c ZE.k)
theorem Y3.addWk(c:H a.lw=some (.lst vs))(D:Al (Y1 H) vs W.wk)(J:Y1 H v x)(nr:W.ru=[])(nt:W.tk=[])(np:W.tp=[]):Y3 (upd H a.lw (.lst (vs++[v]))) wd a { W with wk:=W.wk++[x] }:=by
 obtain⟨⟨j,B,y⟩,ap,⟨r1,q,E⟩,_,⟨u,G,g⟩,⟨r3,C,f⟩,⟨I,L,i⟩⟩:=h;have kp:∀{p:Addr} {k:List (Zt×V)},H p=some (.dK k)->upd H a.lw (.lst (vs++[v])) p=some (.dK k):=fun e=>by rw[Zd (Z4 e c (by intro z;cases z))];exact e
 refine⟨⟨j,kp B,y⟩,ap,⟨r1,kp q,E.imp fun _ _=>YS.put c ZE.l⟩,⟨_,Zg,?_⟩,⟨u,kp G,?_⟩,⟨r3,kp C,?_⟩,⟨I,kp L,?_⟩⟩
 ·exact(D.imp fun _ _=>Y1.put c ZE.l).snoc (J.put c ZE.l)
 ·rw[nr]at g ⊢;cases g;exact .nil
 ·rw[nt]at f ⊢;cases f;exact .nil
 ·rw[np]at i ⊢;cases i;exact .nil
theorem Y3.addRu{x:Yj}(c:H a.dr=some (.dK rows))(C:Al (Xv H) rows W.ru)(g:Zz rows (Sum.inr x.nm)=none)(J:Xv H (Sum.inr x.nm,v) x):Y3 (upd H a.dr (.dK (YB rows (Sum.inr x.nm) v))) wd a { W with ru:=W.ru++[x] }:=by
 obtain⟨⟨f,u,q⟩,ap,⟨r1,j,D⟩,⟨y,e,i⟩,_,⟨r3,B,E⟩,⟨G,L,I⟩⟩:=h;refine⟨⟨f,by rw[Zd n.nr];exact u,q⟩,ap,⟨r1,by rw[Zd (ap.sr)];exact j,D.imp fun _ _=>YS.put c ZE.k⟩,⟨y,XC c e,i.imp fun _ _=>Y1.put c ZE.k⟩,⟨_,Zg,?_⟩,⟨r3,by rw[Zd (ap.rt.symm)];exact B,E.imp fun _ _=>WP.put c⟩,⟨G,by rw[Zd (ap.rp.symm)];exact L,I.imp fun _ _=>Xi.put c⟩⟩;rw[UG v g];exact(C.imp fun _ _=>Xv.put c).snoc (J.put c)
theorem Y3.addTk{x:WO}(c:H a.dt=some (.dK rows))(C:Al (WP H) rows W.tk)(g:Zz rows (Sum.inr x.nm)=none)(L:WP H (Sum.inr x.nm,v) x):Y3 (upd H a.dt (.dK (YB rows (Sum.inr x.nm) v))) wd a { W with tk:=W.tk++[x] }:=by
 obtain⟨⟨f,u,q⟩,ap,⟨r1,j,D⟩,⟨y,e,i⟩,⟨B,E,G⟩,_,⟨I,M,J⟩⟩:=h;refine⟨⟨f,by rw[Zd n.nt];exact u,q⟩,ap,⟨r1,by rw[Zd (ap.st)];exact j,D.imp fun _ _=>YS.put c ZE.k⟩,⟨y,XC c e,i.imp fun _ _=>Y1.put c ZE.k⟩,⟨B,by rw[Zd (ap.rt)];exact E,G.imp fun _ _=>Xv.put c⟩,⟨_,Zg,?_⟩,⟨I,by rw[Zd (ap.tp.symm)];exact M,J.imp fun _ _=>Xi.put c⟩⟩;rw[UG v g];exact(C.imp fun _ _=>WP.put c).snoc (L.put c)
theorem Y3.addTp{x:Tp}(c:H a.dp=some (.dK rows))(D:Al (Xi H) rows W.tp)(g:Zz rows (Sum.inr x.nm)=none)(L:Xi H (Sum.inr x.nm,v) x):Y3 (upd H a.dp (.dK (YB rows (Sum.inr x.nm) v))) wd a { W with tp:=W.tp++[x] }:=by
 obtain⟨⟨f,u,q⟩,ap,⟨r1,j,E⟩,⟨B,e,i⟩,⟨y,I,J⟩,⟨r3,C,G⟩,_⟩:=h;refine⟨⟨f,by rw[Zd n.np];exact u,q⟩,ap,⟨r1,by rw[Zd (ap.sp)];exact j,E.imp fun _ _=>YS.put c ZE.k⟩,⟨B,XC c e,i.imp fun _ _=>Y1.put c ZE.k⟩,⟨y,by rw[Zd (ap.rp)];exact I,J.imp fun _ _=>Xv.put c⟩,⟨r3,by rw[Zd (ap.tp)];exact C,G.imp fun _ _=>WP.put c⟩,⟨_,Zg,?_⟩⟩;rw[UG v g];exact(D.imp fun _ _=>Xi.put c).snoc (L.put c)
end Wa
structure Ub(W:Z1):Prop where
 s2:2<=W.st.length
 s5:W.st.length<=5
 sn:(W.st.map Yh.nm).Nodup
 so:∀x∈W.st,YO x.nm/\1<=x.z/\x.z<=6/\x.ch<=30
 w4:W.wk.length<=4
 wo:∀x∈W.wk,x.o∈W.st.map Yh.nm/\x.t∈W.st.map Yh.nm/\x.o≠x.t/\1<=x.m/\x.m<=60
 wn:∀i x,W.wk[i]? = some x->JI (W.wk.take i) x.o x.t=false
 r1:1<=W.ru.length
 r3:W.ru.length<=3
 rn:(W.ru.map Yj.nm).Nodup
 ro:∀x∈W.ru,YO x.nm/\x.r.Ok
 t2:W.tk.length<=2
 tn:(W.tk.map WO.nm).Nodup
 to:∀x∈W.tk,x.Ok
 p1:1<=W.tp.length
 p3:W.tp.length<=3
 pn:(W.tp.map Tp.nm).Nodup
 po:∀x∈W.tp,YO x.nm/\x.ru∈W.ru.map Yj.nm/\Vq (W.st.map Yh.nm) x.cs/\2<=x.cs.length/\x.cs.length<=6
inductive Zky(vs:List V)(H:Hp)(Q:VK)(_e3:XK):Prop|mk (d:Nat) (_:vs=[.int d]) (_:d<998244353) (_:∀wd a W H',Zc H H'->LF H wd a->Y3 H' wd a W->Ub W->Q (.ref wd) H')
def Va(d:Nat):List Str:=(List.range 8).map (ZL d)
theorem Zkz(h:i<8):(Va d)[i]? = some (ZL d i):=by
 unfold Va;rw[Oa,List.getElem?_range h];rfl
theorem LG{d i:Nat}(h:i<8):Y6 ((Va d).map V.str) (i:Int)=some (.str (ZL d i)):=WU (by rw[Oa,Zkz h];rfl)
theorem LH(hi:i<8)(c:j<8)(e:ZL d i=ZL d j):i=j:=by
 rcases Nat.lt_trichotomy i j with h|h|h
 ·exact Oq e (Tz h c)
 ·exact h
 ·exact Oq e.symm (Tz h hi)
theorem TH{c:Type}{nm:c->Str}{xs:List c}{d k i:Nat}(e:xs.map nm=(List.range i).map fun j=>ZL d (j+k))(h:i+k<8):ZY nm xs (ZL d (i+k))=none:=by
 unfold ZY;rw[List.find?_eq_none];intro y g n;have hm:nm y∈xs.map nm:=SJ.mpr ⟨y,g,R⟩;rw[e,SS n]at hm;obtain⟨j,f,q⟩:=SJ.mp hm;have f:=List.mem_range.mp f;have:=LH (by lia) h q;lia
theorem JL(h:i+k<=8):((List.range i).map fun j=>ZL d (j+k)).Nodup:=by
 refine List.pairwise_map.mpr (List.nodup_range.imp_of_mem fun{a b} ha c f e=>f ?_);have:=LH (by have:=List.mem_range.mp ha;lia) (by have:=List.mem_range.mp c;lia) e;lia
theorem QI{c:Type}{nm:c->Str}{xs:List c}{f:Nat->Str}{i:Nat}(e:xs.map nm=(List.range i).map f):xs.length=i:=by
 have:=congrArg List.length e
 rwa [Sv,Sv,List.length_range]at this
theorem LI{e:Type}{nm:e->Str}{R:Zt×V->e->Prop}(f:∀c x,R c x->c.1=Sum.inr (nm x)){rows:List (Zt×V)}{xs:List e}(h:Al R rows xs):(rows.map fun c=>kV c.1)=(xs.map nm).map V.str:=by
 induction h with
 |nil=>rfl
 |cons a _ g=>rw[SM,SM,SM,g,f _ _ a];rfl
def QJ(d:Nat)(c:List Wl):Prop:=∀j x,c[j]? = some x->(x.o=ZL d j/\x.t=ZL d (j+1)\/x.o=ZL d (j+1)/\x.t=ZL d j)/\1<=x.m/\x.m<=60
theorem QJ.snoc{f:List Wl}{x:Wl}(h:QJ d f)(i:(x.o=ZL d f.length/\x.t=ZL d (f.length+1)\/x.o=ZL d (f.length+1)/\x.t=ZL d f.length)/\1<=x.m/\x.m<=60):QJ d (f++[x]):=fun j y e=>by
 by_cases c:j<f.length
 ·rw[List.getElem?_append_left c]at e;exact h j y e
 ·have g:=(Sr.mp e).1
  rw[Su,Sw]at g;obtain rfl:j=f.length:=by lia
  rw[Ob (Sg _),Nat.sub_self]at e;cases e;exact i
theorem QJ.new{f:List Wl}(h:QJ d f)(l:f.length<=6):∀i x,f[i]? = some x->JI (f.take i) x.o x.t=false:=fun i x e=>by
 unfold JI;rw[List.any_eq_false];intro y D c;obtain⟨j,G,C⟩:=List.mem_iff_getElem.mp D;rw[Sx]at G;rw[List.getElem_take]at C;have E:=h j y (by rw[<-C];exact Ss (by lia));have ex:=h i x e;have H:=(Sr.mp e).1;have inj:∀{a b},a<=7->b<=7->ZL d a=ZL d b->a=b:=fun ha L e=>LH (by lia) (by lia) e;simp only[Bool.or_eq_true,Bool.and_eq_true,beq_iff_eq]at c;rcases ex.1 with⟨q,v⟩|⟨q,v⟩<;>rcases E.1 with⟨u,B⟩|⟨u,B⟩<;>rcases c with⟨g,n⟩|⟨g,n⟩<;>(simp only[q,v,u,B]at g n;have J:=inj (by lia) (by lia) g;have I:=inj (by lia) (by lia) n;lia)
theorem ZkA(C:Zv K mg t):Zn P w K mg base Zo 8 t.jT t.jU ["_law_seed"] Zky:=by
 refine C.ZaI.F.ok W0 (by lia) fun v2 A outer s b0 vs x2 y2 M h=>?_;obtain⟨d,rfl,hd,q2⟩:=h;refine⟨_,(Zh (ZG 1 W0.nd (Zdt (Zkx C) (M.mono (by lia)) R C.K5.m C.K5.F.kp C.K5.b .nil Zl)) (Zh (wE (i0:=2) (cl:=[(OJ "_law_seed",s.heap.objs.size+1)]) (N:=["_law_k","_law_seed"]) (fr:=[none,some 0]) W0.nd R (Or.inl R) R (Ug R C.W3 (Zk Zb)) R (by lia) R (by lia) ⟨⟨R,Or.inl R,Or.inl R,_,R,R⟩,trivial⟩ ⟨R,trivial⟩ R (fun _ _ _ _ _=>(Z0 0 (show List.Nodup (["_law_k","_law_seed"]:OB) by lia))) (fun _ _ _ _ _=>V0) (fun _ _ _ _ _=>(ZB C.ZaG (Zjn C) M Zl (Zm (pv 1) (pv 0))))) (Vh (Xs (Ug R C.W3 (Zk (Ze Z2 Zb (Ze ZO (pv 0) Zb)))) (Z0 3 W0.nd) (Zi (VE (Xn M) (YT M (pv 1) ZJ) (Zs YL (pv 2) (pv 3)) (Ym (Zm (Ze Z2 Zb (Ze ZO (ZB C.Vn (VM C) M Zl (Zm (pv 0) (Ze Z2 Zb (pv 3)))) Zb)) (Ze ZO (ZB C.Vn (VM C) M Zl (Zm (pv 0) (Ze Z2 Zb (pv 3)))) Zb))) R))) (Zh (ZG 4 W0.nd (Yw (F7 R) R C.Wm Wj (Zk (YT M (pv 1) ZJ)))) (Vh (Xs (Ug R C.W3 (Zk (Ze ZO (Ze Yt (pv 0) Zb) (ZM XH C.Xr Xq (Zk (pv 4)))))) (Z0 3 W0.nd) (Zh (ZG 5 W0.nd (QP (Yy LY (Ze Z2 (pv 3) Zb) (ZM XH C.Xr Xq (Zk (pv 4)))) (Zgp (Z5 (Zm (Zs YL (pv 4) (pv 3)) (Zs YL (pv 4) (Ze Z2 (pv 3) Zb)))) (Uy (Ze Ws Zb (Ze VW Zb (Ze ZO (Ze Yt (pv 0) Zb) Zb))))) (Z5 Xl))) (Zi (ZN (Yy (vO M.units0) (pv 5) (Z5 Xl)) (Zi (Z3 (U2 PySem.F.plainAttrs_list PySem.F.slot_list_append PySem.F.type_list_append Qr (YT M (pv 1) ZJ) (Zk (Ym (Ys (Zs YL (pv 5) Zb) (Zs YL (pv 5) Zb) (Ze Z2 Zb (Ze ZO (ZB C.Vn (VM C) M Zl (Zm (pv 0) (Ze Z2 Zb (pv 3)))) Zb)))))))) ZP)))) (Vh (Xs (Ug R C.W3 (Zk (Ze Z2 Zb (Ze ZO (Ze Yt (pv 0) Zb) Zb)))) (Z0 3 W0.nd) (Zi (VE (Xn M) (YT M (pv 1) ZJ) (Zs YL (pv 2) (Ze Z2 (pv 3) Zb)) (ZB C.UO (Zkq C 3) M Zl (Zm (ZB C.Vn (VM C) M Zl (Zm (pv 0) (Ze Z2 Zb (pv 3)))) Zb)) R))) (Vh (Xs (Ug R C.W3 (Zk (Ze ZO (Ze Yt (pv 0) Zb) Zb))) (Z0 3 W0.nd) (Zh (ZG 6 W0.nd (ZB C.Vn (VM C) M Zl (Zm (pv 0) (Ze Z2 Zb (pv 3))))) (Vh (ZG 7 W0.nd (wY (VC (cl:=[(OJ "_law_mixed_here",s.heap.objs.size+2)]) (N:=["_law_zone","_law_mixed_here"]) (fr:=[none,some 6]) R (JT R C.W3 (Zm Zb Zb)) R (by lia) R (by lia) ⟨⟨R,Or.inl R,Or.inl R,_,R,R⟩,trivial⟩ ⟨R,trivial⟩ R (fun _ _ _ _ _=>(Z0 0 (show List.Nodup (["_law_zone","_law_mixed_here"]:OB) by lia))) (fun _ _ _ _ _=>(Ms (Yy Y4 (Ze ZO (Ze Yt (pv 1) (Ze zH Zb (pv 0))) Zb) Zb))) (fun _ _ _ _ _=>(pv 0))) (Vb (Z5 (Zk Zb))))) (Zi (VE (Xn M) (YT M (pv 1) ZJ) (Zs YL (pv 2) (pv 3)) (Ym (Ys (Ze ZO (Ze Yt (pv 6) Zb) Zb) (Ze Z2 Zb (Ze ZO (Ze Yt (pv 6) Zb) Zb)) (pv 7))) R))))) (Zh (ZG 8 W0.nd (Yw (F7 R) R C.Wm Wj (Zk (YT M (pv 1) ZJ)))) (Vh (Xs (Ug R C.W3 (Zk (Ze Z2 Zb (Ze ZO (Ze Yt (pv 0) Zb) Zb)))) (Z0 3 W0.nd) (Zh (ZG 6 W0.nd (ZB C.Vn (VM C) M Zl (Zm (pv 0) (Ze Z2 Zb (pv 3))))) (Zi (VE (Xn M) (YT M (pv 1) ZJ) (Zs YL (pv 2) (Ze Z2 (pv 3) Zb)) (Ym (Zm (Zs YL (pv 8) (Ze ZO (pv 6) (ZM XH C.Xr Xq (Zk (pv 8))))) (ZB C.ZaH (Zjq C) M Zl (Ys (Ze Yt (pv 6) Zb) (pv 4) (Ze Z2 Zb (Ze ZO (Ze Yt (pv 6) Zb) Zb)))))) R)))) (Zi (ZA (pv 1)))))))))))),?_⟩;sleep 3;refine⟨R,fun D a H1 s1 k2 l2 dd W1=>?_⟩;have Z:LF b0 D a:=⟨l2,k2,dd.1,dd.2.1,dd.2.2.1,dd.2.2.2⟩;refine⟨8,R,by lia,by lia,Mt (fun i j0 g c=>Zc H1 c/\j0=((List.range i).map (ZL d)).map V.str/\∃v,g=[v,some (.int d)]) ⟨Zc.refl _,R,_,R⟩ (by show 8<=sizeLine;lia) ?_ ?_⟩
 ·rintro i j0 g c hi ha ⟨s',h0,v,rfl⟩
  dsimp only[Xw,VB];rw[SW R];refine⟨_,R,_,R,d,i,by show[V.int d,V.int (0+(i:Int))]=_;rw[Int.zero_add],by lia,fun H2 s2=>⟨by rw[Su,Sw];lia,s'.trans s2,?_,_,R⟩⟩;rw[h0,Oj,SL,SL];rfl
 rintro j0 g H2 ha ⟨s2,h0,v,rfl⟩ G gn;subst h0;rw[show(List.range (Int.toNat 8)).map (ZL d)=Va d from R];generalize u:upd H2 G _=H3;have s3:=ZW gn u;have hn:=ZX u;clear u;have e3:=(s1.trans s2).free gn;have nl:G≠a.lw:=by
  obtain⟨vs,h,_⟩:=(W1.same s2).wk;exact(ZI h gn).symm
 replace s3:Zc H1 H3:=s2.trans s3
 have S3:=s1.trans s3
 replace W1:=W1.same s3
 clear s2 s3 gn;refine⟨fun g c=>∃(e:List Yh) (y:Option V),Zc b0 c/\c G=some (.lst ((Va d).map V.str))/\Y3 c D a ⟨e,[],[],[],[]⟩/\e.map Yh.nm=(List.range (2+d%4)).map (ZL d)/\(∀x∈e,YO x.nm/\1<=x.z/\x.z<=6/\x.ch<=30)/\g=[some (.int d),some (.ref D),some (.ref G),y,none,none,none,none,none],?_,?_⟩
 ·sleep 1;have en:((2:Int)+(d:Int)%4).toNat=2+d%4:=by lia
  refine⟨_,R,_,_,R,R,(by show(0:Int)<4;lia),_,_,R,R,_,R,by lia,by lia,VU (fun i g c=>∃(e:List Yh) (y:Option V),Zc b0 c/\c G=some (.lst ((Va d).map V.str))/\Y3 c D a ⟨e,[],[],[],[]⟩/\e.map Yh.nm=(List.range i).map (ZL d)/\(∀x∈e,YO x.nm/\1<=x.z/\x.z<=6/\x.ch<=30)/\g=[some (.int d),some (.ref D),some (.ref G),y,none,none,none,none,none])
   ⟨[],_,S3,hn,W1,R,fun _ h=>(nomatch h),R⟩ ?_ ?_⟩
  ·rintro i g H4 hi ⟨e,y,S4,m0,W4,X,oS,rfl⟩
   sleep 101;have c0:i<8:=by lia
   refine⟨_,R,_,R,_,_,R,R,_,_,R,by lia,by lia,_,_,R,R,(by show(0:Int)<6;lia),_,_,R,R,_,R,_,R,_,_,R,R,_,_,R,by lia,by lia,_,_,R,R,(by show(0:Int)<31;lia),by show 2<=sizeLine;lia,fun p l0=>?_⟩;generalize XZ _ (1+(0+(i:Int)))=q at *;generalize XZ _ (6+(0+(i:Int)))=m2 at *;generalize u:upd H4 p _=H5;have s5:=ZW l0 u;have c5:=ZX u;clear u;have W5:=W4.same s5;obtain⟨w0,e1,e2⟩:=W5.ob;obtain⟨rows,E,L⟩:=W5.st;have lS:e.length=i:=by have:=congrArg List.length X;rw[Sv,Sv,List.length_range]at this;exact this
   have hf:ZY Yh.nm e (ZL d i)=none:=by
    unfold ZY;rw[List.find?_eq_none];intro x0 hy ey;have hm:x0.nm∈e.map Yh.nm:=SJ.mpr ⟨x0,hy,R⟩;rw[X,SS ey]at hm;obtain⟨j,hj,ej⟩:=SJ.mp hm;have hj:=List.mem_range.mp hj;have:=LH (by lia) c0 ej;lia
   have hv:=(Xt (fun kv x (h:YS H5 kv x)=>h.1) L (ZL d i)).1 hf;refine⟨_,R,D,_,R,by rw[<-e2.s];exact Yr.k (k:=Sum.inr (OJ "stops")) e1,_,R,_,R,G,_,_,_,R,R,Zf.of (s5 _ _ m0),by rw[Int.zero_add];exact LG c0,a.ds,_,R,XV.k (k:=Sum.inr (ZL d i)) E (Sj (show rows.length<=8 by rw[L.length,lS];lia) (by lia)),?_⟩;refine⟨e++[⟨ZL d i,1+q%6,m2%31⟩],_,YW (S4.trans s5) Z.s _,XC E (s5 _ _ m0),W5.addSt (x:=⟨ZL d i,1+q%6,m2%31⟩) Z E L hv ⟨R,p,R,?_⟩,?_,fun x H=>?_,R⟩
   ·rw[c5,show((1+q%6:Nat):Int)=1+(q:Int)%6 by lia,show((m2%31:Nat):Int)=(m2:Int)%31 by lia]
   ·rw[SL,X,Oj,SL];rfl
   ·rcases SG.mp H with H|H
    ·exact oS x H
    ·rw[SE.mp H];exact⟨Lw d i,by show 1<=1+q%6;lia,by show 1+q%6<=6;lia,by show m2%31<=30;lia⟩
  ·rintro g H4 ⟨e,y,S4,m0,W4,X,oS,rfl⟩
   exact⟨e,y,S4,m0,W4,by rw[X,en],oS,R⟩
 rintro g H4 ⟨e,y,S4,m0,W4,X,oS,rfl⟩;generalize hm:2+d%4=m at X;sleep 2;have lS:=QI X;obtain⟨d3,o1,t1⟩:=W4.ob;obtain⟨b3,n1,v1⟩:=W4.st;refine⟨_,R,D,_,R,by rw[<-t1.s];exact Yr.k (k:=Sum.inr (OJ "stops")) o1,a.ds,_,R,n1,fun I gs=>?_⟩;rw[LI (fun kv x (h:YS H4 kv x)=>h.1) v1];generalize u:upd H4 I _=H5;have s5:=ZW gs u;have d1:=ZX u;clear u;have w1:I≠a.lw:=by
  obtain⟨vs,h,_⟩:=W4.wk;exact(ZI h gs).symm
 have j1:=s5 _ _ m0;have W5:=W4.same s5;have S5:=S4.trans s5;have lL:((e.map Yh.nm).map V.str).length=m:=by rw[Sv,Sv,lS]
 have atS:∀j:Nat,j<m->Y6 ((e.map Yh.nm).map V.str) ((j:Nat):Int)=some (.str (ZL d j)):=fun j hj=>WU (by rw[X,Oa,Oa,List.getElem?_range hj];rfl);clear W4 m0 S4 s5 n1 v1 o1 t1 gs;refine⟨fun g c=>∃(J:List Wl) (y T:Option V),Zc b0 c/\c G=some (.lst ((Va d).map V.str))/\c I=some (.lst ((e.map Yh.nm).map V.str))/\Y3 c D a ⟨e,J,[],[],[]⟩/\QJ d J/\J.length+1<=m/\g=[some (.int d),some (.ref D),some (.ref G),y,some (.ref I),T,none,none,none],?_,?_⟩
 ·sleep 1;have em:(d:Int)/4%((((e.map Yh.nm).map V.str).length:Nat):Int)=((d/4%m:Nat):Int):=by rw[lL,SX,SY];rfl
  have z2:d/4%m<m:=Oo _ (by lia);have en:((d:Int)/4%((((e.map Yh.nm).map V.str).length:Nat):Int)).toNat=d/4%m:=by rw[em];lia
  refine⟨_,R,_,_,R,R,⟨by lia,by lia⟩,_,R,I,_,R,.inl (Zf.of d1),_,_,R,R,(by show(0:Int)<((((e.map Yh.nm).map V.str).length:Nat):Int);lia),_,R,by rw[em];lia,by rw[em];lia,?_⟩;refine VU (fun i g c=>∃(J:List Wl) (y T:Option V),Zc b0 c/\c G=some (.lst ((Va d).map V.str))/\c I=some (.lst ((e.map Yh.nm).map V.str))/\Y3 c D a ⟨e,J,[],[],[]⟩/\QJ d J/\J.length=i/\g=[some (.int d),some (.ref D),some (.ref G),y,some (.ref I),T,none,none,none])
   ⟨[],y,none,S5,j1,d1,W5,fun j x h0=>(nomatch h0),R,R⟩ ?_ ?_
  ·rintro i g H6 hi ⟨J,y,T,S6,t0,e0,W6,iW,lW,rfl⟩
   rw[en]at hi;sleep 102;have b2:i+1<m:=by lia
   have a0:Y6 ((e.map Yh.nm).map V.str) (0+(i:Int))=some (.str (ZL d i)):=by rw[Int.zero_add];exact atS i (by lia)
   have a1:Y6 ((e.map Yh.nm).map V.str) (0+(i:Int)+1)=some (.str (ZL d (i+1))):=by rw[Int.zero_add];exact atS (i+1) b2
   refine⟨_,R,_,_,R,R,_,R,I,_,R,.inl (Zf.of e0),_,_,R,R,_,R,Z9 (SQ (by lia)) ?_⟩;refine⟨_,R,_,R,I,_,_,_,R,R,Zf.of e0,a0,_,R,_,R,_,_,R,R,I,_,_,_,R,R,Zf.of e0,a1,by show 2<=sizeLine;lia,fun p1 g1=>?_⟩;generalize u:upd H6 p1 _=H7;have s7:=ZW g1 u;have c7:=ZX u;clear u;obtain⟨f0,v,j2,x1⟩:∃f0 v:Str,((f0=ZL d i/\v=ZL d (i+1))\/(f0=ZL d (i+1)/\v=ZL d i))/\((some ((1:Int) - 2*((d:Int)/16%2))=some 1/\[V.str f0,V.str v]=[V.str (ZL d i),V.str (ZL d (i+1))])\/(some ((1:Int) - 2*((d:Int)/16%2))=some (-1)/\[V.str f0,V.str v]=[V.str (ZL d i),V.str (ZL d (i+1))].reverse)):=by
    rcases(show(d:Int)/16%2=0\/(d:Int)/16%2=1 by lia)with h|h
    ·exact⟨_,_,.inl ⟨R,R⟩,.inl ⟨by rw[h];rfl,R⟩⟩
    ·exact⟨_,_,.inr ⟨R,R⟩,.inr ⟨by rw[h];rfl,R⟩⟩
   refine⟨_,R,_,_,R,R,⟨by lia,by lia⟩,_,_,R,R,(by show(0:Int)<2;lia),_,_,R,R,.inl ⟨by lia,by lia⟩,_,_,R,R,_,R,p1,_,[V.str f0,V.str v],x1,R,Zf.of c7,fun p2 g2=>?_⟩;generalize u:upd H7 p2 _=H8;have U:=ZW g2 u;have c8:=ZX u;clear u;refine⟨_,R,by show 0<=sizeLine;lia,fun p3 g3=>?_⟩;generalize u:upd H8 p3 _=H9;have s9:=ZW g3 u;have c9:=ZX u;clear u;have c1:=s9 _ _ c8;have b1:=(s7.trans U).trans s9;have W9:=W6.same b1;obtain⟨w0,e1,e2⟩:=W9.ob;obtain⟨vs,E,L⟩:=W9.wk;refine⟨p2,p3,_,R,R,Zf.of c1,Zf.of c9,_,R,Z9 R ?_⟩;sleep 1;refine⟨_,R,D,.ref a.lw,R,by rw[<-e2.w];exact Yr.k (k:=Sum.inr (OJ "walks")) e1,.inl ⟨R,_,Zf.of E⟩,_,R,p2,_,0,_,R,R,Zf.of c1,R,_,R,p2,_,1,_,R,R,Zf.of c1,R,_,R,_,R,_,_,R,R,_,_,R,by lia,by lia,_,_,R,R,(by show(0:Int)<60;lia),_,_,R,R,by show 3<=sizeLine;lia,fun p4 g4=>?_⟩;generalize XZ _ _=q at *;generalize u:upd H9 p4 _=r0;have Q:=ZW g4 u;have f1:=ZX u;clear u;refine⟨a.lw,_,_,R,R,Q _ _ E,Sj (show vs.length<=6 by rw[L.length];show J.length<=6;lia) (by lia),?_⟩;have o0:=S6.trans (b1.trans Q);have k1:=b1.trans Q;refine⟨J++[⟨f0,v,1+q%60⟩],_,_,YW o0 Z.w _,by rw[Zd nl];exact k1 _ _ t0,by rw[Zd w1];exact k1 _ _ e0,(W9.same Q).addWk (x:=⟨f0,v,1+q%60⟩) Z (Q _ _ E) (L.imp fun _ _=>Y1.same Q) ⟨p4,R,?_⟩ R R R,iW.snoc ⟨by rw[lW];exact j2,by show 1<=1+q%60;lia,by show 1+q%60<=60;lia⟩,by rw[Su,lW];rfl,R⟩;rw[f1,show((1+q%60:Nat):Int)=1+(q:Int)%60 by lia]
  ·rintro g H6 ⟨J,y,T,S6,t0,e0,W6,iW,lW,rfl⟩
   rw[en]at lW;exact⟨J,y,T,S6,t0,e0,W6,iW,by lia,R⟩
 rintro g H6 ⟨J,y,T,S6,t0,e0,W6,iW,lW,rfl⟩;sleep 1;clear S5 j1 d1 W5;refine⟨fun g c=>∃(B:List Yj) (y:Option V),Zc b0 c/\c G=some (.lst ((Va d).map V.str))/\c I=some (.lst ((e.map Yh.nm).map V.str))/\Y3 c D a ⟨e,J,B,[],[]⟩/\B.map Yj.nm=(List.range (1+d/32%3)).map (fun j=>ZL d (j+2))/\(∀x∈B,YO x.nm/\x.r.Ok)/\g=[some (.int d),some (.ref D),some (.ref G),y,some (.ref I),T,none,none,none],?_,?_⟩
 ·sleep 1;have en:((1:Int)+(d:Int)/32%3).toNat=1+d/32%3:=by lia
  refine⟨_,R,_,_,R,R,⟨by lia,by lia⟩,_,_,R,R,(by show(0:Int)<3;lia),_,_,R,R,_,R,by lia,by lia,VU (fun i g c=>∃(B:List Yj) (y:Option V),Zc b0 c/\c G=some (.lst ((Va d).map V.str))/\c I=some (.lst ((e.map Yh.nm).map V.str))/\Y3 c D a ⟨e,J,B,[],[]⟩/\B.map Yj.nm=(List.range i).map (fun j=>ZL d (j+2))/\(∀x∈B,YO x.nm/\x.r.Ok)/\g=[some (.int d),some (.ref D),some (.ref G),y,some (.ref I),T,none,none,none])
   ⟨[],_,S6,t0,e0,W6,R,fun _ h=>(nomatch h),R⟩ ?_ ?_⟩
  ·rintro i g H7 hi ⟨B,y,S7,g0,p0,W7,eR,oR,rfl⟩
   sleep 101;have c0:i+2<8:=by lia
   have lR:=QI eR;refine⟨_,R,_,R,_,_,R,R,_,_,R,by lia,by lia,?_⟩;have ml:=Tv (d:Int) (30+(0+(i:Int)));generalize XZ (d:Int) (30+(0+(i:Int)))=q at ml;refine⟨q,2,R,by lia,by lia,by lia,fun r v H8 U gr wr pr T8=>?_⟩;have Y:=W7.same U;obtain⟨w0,e1,e2⟩:=Y.ob;obtain⟨rows,E,L⟩:=Y.ru;have hv:=(Xt (fun kv x (h:Xv H8 kv x)=>h.1) L (ZL d (i+2))).1 (TH eR c0);refine⟨_,R,D,.ref a.dr,R,by rw[<-e2.r];exact Yr.k (k:=Sum.inr (OJ "rules")) e1,_,R,_,R,_,_,R,R,G,_,_,_,R,R,Zf.of (U _ _ g0),by rw[Int.zero_add];exact LG c0,a.dr,_,R,XV.k (k:=Sum.inr (ZL d (i+2))) E (Sj (show rows.length<=8 by rw[L.length,show List.length ({ st:=e,wk:=J,ru:=B,tk:=[],tp:=[] }:Z1).ru=i from lR];lia) (by lia)),?_⟩;refine⟨B++[⟨ZL d (i+2),r⟩],_,YW (S7.trans U) Z.r _,XC E (U _ _ g0),XC E (U _ _ p0),Y.addRu (x:=⟨ZL d (i+2),r⟩) Z E L hv ⟨R,D,T8 D ?_⟩,?_,fun x H=>?_,R⟩
   ·obtain⟨k7,e7,_⟩:=W7.ob
    rw[e7];exact fun z=>(nomatch z)
   ·rw[SL,eR,Oj,SL];rfl
   ·rcases SG.mp H with H|H
    ·exact oR x H
    ·rw[SE.mp H];exact⟨Lw d (i+2),gr,Sh (Nat.le_of_lt wr) (by lia),Sh pr (by lia)⟩
  ·rintro g H7 ⟨B,y,S7,g0,p0,W7,eR,oR,rfl⟩
   rw[en]at eR;exact⟨B,y,S7,g0,p0,W7,eR,oR,R⟩
 rintro g H7 ⟨B,f3,S7,g0,p0,W7,eR,oR,rfl⟩;sleep 1;clear S6 t0 e0 W6;refine⟨fun g c=>∃(O:List WO) (y S v7:Option V),Zc b0 c/\c G=some (.lst ((Va d).map V.str))/\c I=some (.lst ((e.map Yh.nm).map V.str))/\Y3 c D a ⟨e,J,B,O,[]⟩/\O.map WO.nm=(List.range (d/96%3)).map (fun j=>ZL d (j+0))/\(∀x∈O,x.Ok)/\g=[some (.int d),some (.ref D),some (.ref G),y,some (.ref I),T,S,v7,none],?_,?_⟩
 ·sleep 1;have en:((d:Int)/96%3).toNat=d/96%3:=by lia
  refine⟨_,R,_,_,R,R,⟨by lia,by lia⟩,_,_,R,R,(by show(0:Int)<3;lia),_,R,by lia,by lia,VU (fun i g c=>∃(O:List WO) (y S v7:Option V),Zc b0 c/\c G=some (.lst ((Va d).map V.str))/\c I=some (.lst ((e.map Yh.nm).map V.str))/\Y3 c D a ⟨e,J,B,O,[]⟩/\O.map WO.nm=(List.range i).map (fun j=>ZL d (j+0))/\(∀x∈O,x.Ok)/\g=[some (.int d),some (.ref D),some (.ref G),y,some (.ref I),T,S,v7,none])
   ⟨[],_,_,_,S7,g0,p0,W7,R,fun _ h=>(nomatch h),R⟩ ?_ ?_⟩
  ·rintro i g H8 hi ⟨O,y,S,v7,S8,n0,s0,Y,eT,oT,rfl⟩
   sleep 102;have c0:i<8:=by lia
   have lT:=QI eT;refine⟨_,R,_,R,_,_,R,R,_,_,R,by lia,by lia,?_⟩;generalize XZ (d:Int) (34+(0+(i:Int)))=q;refine⟨fun f2 c=>∃(zl:Addr) (ZS:OF),Zc H8 c/\c zl=some (.lst (Yx ZS))/\1<=ZS.length/\ZS.length<=6/\ZS.Pairwise (· < ·)/\(∀z∈ZS,1<=z/\z<=6)/\f2=[some (.int d),some (.ref D),some (.ref G),some (.int (0+(i:Int))),some (.ref I),T,some (.int q),some (.ref zl),none],?_,?_⟩
   ·sleep 1;refine⟨1,7,R,⟨by lia,by lia,by lia,by lia⟩,Mt (lo:=1) (n:=6) (fun i j0 g c=>c=H8/\(∃zs:List Nat,j0=Yx zs/\zs.Pairwise (· < ·)/\∀z∈zs,1<=z/\z<=i)/\∃v,g=[v,some (.int q)]) ⟨R,⟨[],R,.nil,fun _ h=>(nomatch h)⟩,_,R⟩ (by lia) ?_ ?_⟩
    ·rintro j j0 g c hj ha ⟨rfl,⟨zs,rfl,pw,zr⟩,v,rfl⟩
     have pS:(1:Int)*2 ^ ((1:Int)+(j:Int)).toNat=((2 ^ (1+j):Nat):Int):=by rw[Int.one_mul,Int.natCast_pow,show((1:Int)+(j:Int)).toNat=1+j by lia];rfl
     have pP:0<2 ^ (1+j):=Nat.two_pow_pos _;have pU:2 ^ (1+j)<=2 ^ 6:=Nat.pow_le_pow_right (by lia) (by lia);refine⟨_,R,_,R,_,_,R,R,⟨by lia,by lia,by lia⟩,_,_,R,R,(by rw[pS];exact⟨by lia,by lia⟩),_,_,R,R,(by show(0:Int)<2;lia),R,_,R,?_⟩;refine WF (fun _=>?_) (fun _=>?_)
     ·refine⟨_,R,by rw[Su,Sw];lia,R,⟨zs++[j+1],?_,?_,fun z hz=>?_⟩,_,R⟩
      ·rw[show Yx (zs++[j+1])=Yx zs++[V.int ((j+1:Nat):Int)] from SL,show((j+1:Nat):Int)=1+(j:Int) by lia]
      ·rw[List.pairwise_append]
       exact⟨pw,List.pairwise_singleton _ _,fun x H x0 hy=>by rw[SE.mp hy];have:=(zr x H).2;lia⟩
      ·rcases SG.mp hz with hz|hz
       ·have:=zr z hz;lia
       ·rw[SE.mp hz];lia
     ·exact⟨by lia,R,⟨zs,R,pw,fun z hz=>by have:=zr z hz;lia⟩,_,R⟩
    rintro j0 g c ha ⟨rfl,⟨zs,rfl,pw,zr⟩,v,rfl⟩ lz gz;have sz:=Zu gz (.lst (Yx zs));have cz:=@Zg c lz (.lst (Yx zs));have l6:zs.length<=6:=by have:=ha;rwa [Sv]at this
    generalize upd c lz (.lst (Yx zs))=Hz at sz cz ⊢;refine⟨_,.inl ⟨_,Zf.of cz,R⟩,?_⟩;cases zs with
    |cons z i2=>exact Z9 R ⟨lz,z::i2,sz,cz,Nat.succ_pos _,l6,pw,zr,R⟩
    |nil =>
     refine Zp (by lia) ⟨by show 1<=sizeLine;lia,fun p l0=>⟨p,[6],sz.trans (Zu l0 _),Zg,Sg 1,by lia,List.pairwise_singleton _ _,fun z hz=>by rw[SE.mp hz];exact⟨by lia,by lia⟩,R⟩⟩
   rintro g H9 ⟨zl,ZS,s9,hz,z1,z6,zp,zr,rfl⟩;sleep 1;refine⟨_,R,_,_,R,R,⟨by lia,by lia⟩,_,_,R,R,(by show(0:Int)<10001;lia),_,R,_,_,R,R,⟨by lia,by lia⟩,_,_,R,R,(by show(0:Int)<1440;lia),_,_,R,R,_,R,by show 3<=sizeLine;lia,fun p l0=>?_⟩;generalize u:upd H9 p _=r0;have Q:=ZW l0 u;have f1:=ZX u;clear u;have U:=s9.trans Q;have d0:=Y.same U;obtain⟨w0,e1,e2⟩:=d0.ob;obtain⟨rows,E,L⟩:=d0.tk;have hv:=(Xt (fun kv x (h:WP r0 kv x)=>h.1) L (ZL d (i+0))).1 (TH eT (by lia));refine⟨_,R,D,.ref a.dt,R,by rw[<-e2.t];exact Yr.k (k:=Sum.inr (OJ "tickets")) e1,_,R,_,R,G,_,_,_,R,R,Zf.of (U _ _ n0),by rw[Int.zero_add];exact LG c0,a.dt,_,R,XV.k (k:=Sum.inr (ZL d (i+0))) E (Sj (show rows.length<=8 by rw[L.length,show List.length ({ st:=e,wk:=J,ru:=B,tk:=O,tp:=[] }:Z1).tk=i from lT];lia) (by lia)),?_⟩;refine⟨O++[⟨ZL d (i+0),q/128%10001,1+q/7%1440,ZS⟩],_,_,_,YW (S8.trans U) Z.t _,XC E (U _ _ n0),XC E (U _ _ s0),d0.addTk (x:=⟨ZL d (i+0),q/128%10001,1+q/7%1440,ZS⟩) Z E L hv ⟨R,p,zl,R,?_,Q _ _ hz⟩,?_,fun x H=>?_,R⟩
   ·rw[f1,show((1+q/7%1440:Nat):Int)=1+(q:Int)/7%1440 by lia,show((q/128%10001:Nat):Int)=(q:Int)/128%10001 by lia]
   ·rw[SL,eT,Oj,SL];rfl
   ·rcases SG.mp H with H|H
    ·exact oT x H
    ·rw[SE.mp H]
     exact⟨Lw d (i+0),by show q/128%10001<=10000;lia,by show 1<=1+q/7%1440;lia,by show 1+q/7%1440<=1440;lia,z1,z6,zp,zr⟩
  ·rintro g H8 ⟨O,y,S,v7,S8,n0,s0,Y,eT,oT,rfl⟩
   rw[en]at eT;exact⟨O,y,S,v7,S8,n0,s0,Y,eT,oT,R⟩
 rintro g H8 ⟨O,y,S,v7,S8,n0,s0,Y,eT,oT,rfl⟩;sleep 2;clear S7 g0 p0 W7;have lR:=QI eR;obtain⟨w2,l1,u1⟩:=Y.ob;obtain⟨a3,i1,q1⟩:=Y.ru;refine⟨_,R,D,.ref a.dr,R,by rw[<-u1.r];exact Yr.k (k:=Sum.inr (OJ "rules")) l1,a.dr,_,R,i1,fun lr gr=>?_⟩;rw[LI (fun kv x (h:Xv H8 kv x)=>h.1) q1];generalize u:upd H8 lr _=H9;have s9:=ZW gr u;have o2:H9 lr=some (.lst ((B.map Yj.nm).map V.str)):=ZX u;clear u;have W9:=Y.same s9;have S9:=S8.trans s9;have d2:=s9 _ _ n0;have a2:=s9 _ _ s0;clear Y S8 n0 s0 s9 i1 q1 l1 u1 gr;have c3:((B.map Yj.nm).map V.str).length=1+d/32%3:=by rw[Sv,Sv,lR]
 refine⟨fun g c=>∃(TP:List Tp) (y S:Option V),Zc b0 c/\c G=some (.lst ((Va d).map V.str))/\c I=some (.lst ((e.map Yh.nm).map V.str))/\c lr=some (.lst ((B.map Yj.nm).map V.str))/\Y3 c D a ⟨e,J,B,O,TP⟩/\TP.map Tp.nm=(List.range (1+d/288%3)).map (fun j=>ZL d (j+1))/\(∀x∈TP,YO x.nm/\x.ru∈B.map Yj.nm/\Vq (e.map Yh.nm) x.cs/\2<=x.cs.length/\x.cs.length<=6)/\g=[some (.int d),some (.ref D),some (.ref G),y,some (.ref I),T,S,v7,some (.ref lr)],?_,?_⟩
 ·sleep 1;have en:((1:Int)+(d:Int)/288%3).toNat=1+d/288%3:=by lia
  refine⟨_,R,_,_,R,R,⟨by lia,by lia⟩,_,_,R,R,(by show(0:Int)<3;lia),_,_,R,R,_,R,by lia,by lia,VU (fun i g c=>∃(TP:List Tp) (y S:Option V),Zc b0 c/\c G=some (.lst ((Va d).map V.str))/\c I=some (.lst ((e.map Yh.nm).map V.str))/\c lr=some (.lst ((B.map Yj.nm).map V.str))/\Y3 c D a ⟨e,J,B,O,TP⟩/\TP.map Tp.nm=(List.range i).map (fun j=>ZL d (j+1))/\(∀x∈TP,YO x.nm/\x.ru∈B.map Yj.nm/\Vq (e.map Yh.nm) x.cs/\2<=x.cs.length/\x.cs.length<=6)/\g=[some (.int d),some (.ref D),some (.ref G),y,some (.ref I),T,S,v7,some (.ref lr)])
   ⟨[],_,_,S9,d2,a2,o2,W9,R,fun _ h=>(nomatch h),R⟩ ?_ ?_⟩
  ·rintro i g r0 hi ⟨TP,y,S,o0,u0,v0,q0,d0,eP,oP,rfl⟩
   sleep 102;have c0:i+1<8:=by lia
   have lP:=QI eP;refine⟨_,R,_,R,_,_,R,R,_,_,R,by lia,by lia,?_⟩;have ml:=Tv (d:Int) (37+(0+(i:Int)));generalize XZ (d:Int) (37+(0+(i:Int)))=q at ml;have n2:∃z,Y6 ((B.map Yj.nm).map V.str) ((q:Int)%((((B.map Yj.nm).map V.str).length:Nat):Int))=some (.str z)/\z∈B.map Yj.nm:=by
    have h0:(q:Int)%((((B.map Yj.nm).map V.str).length:Nat):Int)=((q%((B.map Yj.nm).map V.str).length:Nat):Int):=(SX _ _).symm;have hl:q%((B.map Yj.nm).map V.str).length<(B.map Yj.nm).length:=by have:=Oo q (show 0<((B.map Yj.nm).map V.str).length by lia);rwa [Sv (f:=V.str)]at this ⊢
    refine⟨_,by rw[h0];exact WU (by rw[Oa,Ss hl];rfl),Oi hl⟩
   obtain⟨z,ez,mz⟩:=n2;refine⟨_,R,_,R,_,R,lr,_,R,.inl (Zf.of q0),_,_,R,R,(by show(0:Int)<((((B.map Yj.nm).map V.str).length:Nat):Int);lia),lr,_,_,_,R,R,Zf.of q0,ez,?_⟩;refine⟨_,R,_,_,R,R,⟨by lia,by lia⟩,_,R,_,R,_,_,R,R,⟨by lia,by lia⟩,_,_,R,R,(by show(0:Int)<4;lia),_,_,R,R,?_⟩;refine⟨q/4,2+q/3%4,I,e.map Yh.nm,?_,v0,by rw[X];exact JL (k:=0) (by lia),by rw[Sv,lS];lia,by rw[Sv,lS];lia,by lia,fun cs l vs y1 c2 gl hl al ok lc=>?_⟩
   ·show[V.int ((q:Int)/4),V.ref I,V.int (2+(q:Int)/3%4)]=_
    rw[show((q/4:Nat):Int)=(q:Int)/4 by lia,show((2+q/3%4:Nat):Int)=2+(q:Int)/3%4 by lia]
   refine⟨by show 2<=sizeLine;lia,fun p l0=>?_⟩;generalize u:upd y1 p _=r2;have y0:=ZW l0 u;have u2:=ZX u;clear u;have Q:=c2.trans y0;have z0:=d0.same Q;obtain⟨w0,e1,e2⟩:=z0.ob;obtain⟨rows,E,L⟩:=z0.tp;have hv:=(Xt (fun kv x (h:Xi r2 kv x)=>h.1) L (ZL d (i+1))).1 (TH eP c0);refine⟨_,R,D,.ref a.dp,R,by rw[<-e2.p];exact Yr.k (k:=Sum.inr (OJ "trips")) e1,_,R,_,R,_,_,R,R,G,_,_,_,R,R,Zf.of (Q _ _ u0),by rw[Int.zero_add];exact LG c0,a.dp,_,R,XV.k (k:=Sum.inr (ZL d (i+1))) E (Sj (show rows.length<=8 by rw[L.length,show List.length ({ st:=e,wk:=J,ru:=B,tk:=O,tp:=TP }:Z1).tp=i from lP];lia) (by lia)),?_⟩;refine⟨TP++[⟨ZL d (i+1),z,cs⟩],_,_,YW (o0.trans Q) Z.p _,XC E (Q _ _ u0),XC E (Q _ _ v0),XC E (Q _ _ q0),z0.addTp (x:=⟨ZL d (i+1),z,cs⟩) Z E L hv ⟨R,p,l,vs,R,u2,y0 _ _ hl,al.imp fun _ _=>Yp.same y0⟩,?_,fun x H=>?_,R⟩
   ·rw[SL,eP,Oj,SL];rfl
   ·rcases SG.mp H with H|H
    ·exact oP x H
    ·rw[SE.mp H]
     exact⟨Lw d (i+1),mz,ok,by show 2<=cs.length;lia,by show cs.length<=6;lia⟩
  ·rintro g r0 ⟨TP,y,S,o0,u0,v0,q0,d0,eP,oP,rfl⟩
   rw[en]at eP;exact⟨TP,y,S,o0,u0,v0,q0,d0,eP,oP,R⟩
 rintro g r0 ⟨TP,y,S,o0,u0,v0,q0,d0,eP,oP,rfl⟩;sleep 1;refine⟨_,R,q2 D a _ r0 o0 Z d0 ?_⟩;have lP:=QI eP;have lT:=QI eT;refine⟨by show 2<=e.length;lia,by show e.length<=5;lia,by show(e.map Yh.nm).Nodup;rw[X];exact JL (k:=0) (by lia),oS,by show J.length<=4;lia,fun x H=>?_,iW.new (by lia),by show 1<=B.length;lia,by show B.length<=3;lia,by show(B.map Yj.nm).Nodup;rw[eR];exact JL (by lia),oR,by show O.length<=2;lia,by show(O.map WO.nm).Nodup;rw[eT];exact JL (by lia),oT,by show 1<=TP.length;lia,by show TP.length<=3;lia,by show(TP.map Tp.nm).Nodup;rw[eP];exact JL (by lia),oP⟩;obtain⟨j,hj,ej⟩:=List.mem_iff_getElem.mp H;have hW:=iW j x (by rw[<-ej];exact Ss hj);have hj:j<J.length:=hj;have mem:∀k,k<m->ZL d k∈e.map Yh.nm:=fun k hk=>by rw[X];exact SJ.mpr ⟨k,List.mem_range.mpr hk,R⟩
 have ne:ZL d j≠ZL d (j+1):=Tz (by lia) (by lia);rcases hW.1 with⟨E,L⟩|⟨E,L⟩
 ·exact⟨by rw[E];exact mem _ (by lia),by rw[L];exact mem _ (by lia),by rw[E,L];exact ne,hW.2⟩
 ·exact⟨by rw[E];exact mem _ (by lia),by rw[L];exact mem _ (by lia),by rw[E,L];exact ne.symm,hW.2⟩
theorem Ye.put{a:NA}(h:Ye t H n a N)(hd:H d=some (.dK x))(B:a.ds≠d)(v:a.dr≠d)(M:a.dt≠d)(G:a.dp≠d):Ye t (upd H d o) n a N:=by
 obtain⟨⟨c,fs,f,e⟩,ap,⟨r1,u,i⟩,⟨g,I,C⟩,⟨J,O,j⟩,⟨r3,D,L⟩,⟨q,y,E⟩⟩:=h;exact⟨⟨c,fs,Qi hd ZE.k f,e⟩,ap,⟨r1,by rw[Zd B];exact u,i.imp fun _ _=>YS.put hd ZE.k⟩,⟨g,XC hd I,C.imp fun _ _=>Y1.put hd ZE.k⟩,⟨J,by rw[Zd v];exact O,j.imp fun _ _=>XQ.put hd ZE.k⟩,⟨r3,by rw[Zd M];exact D,L.imp fun _ _=>Wb.put hd ZE.k⟩,⟨q,by rw[Zd G];exact y,E.imp fun _ _=>Xu.put hd ZE.k⟩⟩
theorem Ye.thaw{n d:Addr}{a:NA}{N:Z1}{ob:Obj}{c:List (Zt×V)}{o:HO}(h:Ye t H n a N)(hd:H d=some (.frz ob (.dK c))):Ye t (upd H d o) n a N :=
 Ye.keep (fun b u e _ _ nf=>by rw[Zd (fun z=>by rw[z,hd]at e;exact nf ob c (So e).symm)];exact e) h
structure Xj(H:Hp)(d:Addr)(ob:Obj)(kvs:List (Zt×V))(H':Hp):Prop where
 at_:H d=some (.dK kvs)
 s:Zc (upd H d (.frz ob (.dK kvs))) H'
theorem Xj.new(ob:Obj)(h:H d=some (.dK f))(s:Zc H g):Xj H d ob f (upd g d (.frz ob (.dK f))):=⟨h,fun a o e=>by
 by_cases c:a=d
 ·rw[c,Zg]at e ⊢;exact e
 ·rw[Zd c]at e ⊢;exact s _ _ e⟩
theorem Xj.same(h:Xj H d ob c e)(s:Zc e f):Xj H d ob c f:=⟨h.at_,h.s.trans s⟩
theorem Xj.frz{H e:Hp}{d:Addr}{ob:Obj}{c:List (Zt×V)}(h:Xj H d ob c e):e d=some (.frz ob (.dK c)):=h.s _ _ Zg
theorem Xj.thaw(h:Xj H d ob f g):Zc H (upd g d (.dK f)):=fun a o e=>by
 by_cases c:a=d
 ·rw[c,h.at_]at e;rw[c,Zg];exact e
 ·rw[Zd c];exact h.s _ _ (by rw[Zd c];exact e)
theorem VN.held(h:VN H a)(hd:H d=some u):VN (upd H d o) a:=by
 have k:∀{x},H x=none->upd H d o x=none:=fun e=>by rw[Zd (ZI hd e).symm];exact e
 exact⟨k h.s,k h.w,k h.r,k h.t,k h.p⟩
inductive ZkB(t:Yd)(vs:List V)(H:Hp)(Q:VK)(_e3:XK):Prop|mk (wd:Addr) (a:NA) (W:Z1) (H00:Hp) (_:vs=[.ref wd]) (_:Y3 H wd a W) (_:LF H00 wd a) (_:Ub W) (_:∀n b H',Zc H H'->Ye t H' n b W->VN H b->Q (.ref n) H')
theorem ZkC(c:Zv K mg t):Zn P w K mg base Zo 52 t.jV t.jW ["_law_world_here"] (ZkB t):=by
 refine c.ZaJ.F.ok Vk (by lia) fun d1 A outer s g0 vs f1 h1 L h=>?_;obtain⟨B,a,W,i1,rfl,hW,nW,ok,z0⟩:=h;obtain⟨i0,e1,e2⟩:=hW.ob;obtain⟨X,b0,u0⟩:=hW.st;obtain⟨wv,t0,q0⟩:=hW.wk;obtain⟨rr,a0,r0⟩:=hW.ru;obtain⟨rt,Y,p0⟩:=hW.tk;obtain⟨rp,M,s0⟩:=hW.tp;refine⟨_,(Zh (ZG 1 Vk.nd (Zdu c.ZhY (ZjF c) (L.mono (by lia)) R c.Zit c.ZaL.b .nil Zl)) (Zh (G3 (Xs (Kn (YT L (pv 0) ZJ)) (Vw (n:=2) R (YU (Z0 2 Vk.nd) (YU (Z0 3 Vk.nd) Vv))) (Zi (Z3 (YY (pv 1) c.Yg c.RX.me (ZjJ c) (L.mono (by lia)) c.RX.b .nil Zl (Zm (pv 2) (ZB c.Xy (Zks c 8) L Zl (Zk (pv 3))))))))) (Zh (G3 (Xs (Kn (YT L (pv 0) ZJ)) (Vw (n:=2) R (YU (Z0 2 Vk.nd) (YU (Z0 4 Vk.nd) Vv))) (Zi (Z3 (YY (pv 1) c.Yg c.RV.me (ZjH c) (L.mono (by lia)) c.RV.b .nil Zl (Ys (pv 2) (Zs ZF (pv 4) Zb) (Zs ZF (pv 4) Zb))))))) (Zh (G3 (Xs (Kn (YT L (pv 0) ZJ)) (Vw (n:=2) R (YU (Z0 2 Vk.nd) (YU (Z0 3 Vk.nd) Vv))) (Zi (Z3 (YY (pv 1) c.Yg c.RZ.me (Zj9 c) (L.mono (by lia)) c.RZ.b .nil Zl (Ys (pv 2) (Zs ZF (pv 3) Zb) (Yw U1 R c.Wm Wj (Zk (Zs ZF (pv 3) Zb))))))))) (Zh (G3 (Xs (Kn (YT L (pv 0) ZJ)) (Vw (n:=2) R (YU (Z0 2 Vk.nd) (YU (Z0 3 Vk.nd) Vv))) (Zi (Z3 (YY (pv 1) c.Yg c.RY.me (ZjL c) (L.mono (by lia)) c.RY.b .nil Zl (Wz (pv 2) (Zs ZF (pv 3) Zb) (Zs ZF (pv 3) Zb) (Yw U1 R c.Wm Wj (Zk (Zs ZF (pv 3) Zb))))))))) (Zh (Xs (WB (YT L (pv 0) ZJ)) (Vw (n:=3) R (YU (Z0 5 Vk.nd) (YU (Z0 6 Vk.nd) (YU (Z0 7 Vk.nd) Vv)))) (Zi (Z3 (YY (pv 1) c.Yg c.RW.me (Zj1 c) (L.mono (by lia)) c.RW.b .nil Zl (Ys (pv 5) (pv 6) (pv 7)))))) (Zi (ZA (pv 1))))))))),?_⟩;sleep 7;intro n dx nn O w0;refine⟨n,g0,R,nn,YW (Zu O _) nn _,⟨dx,Zg⟩,fun H1 b S1 y0 j=>⟨R,?_⟩⟩;have get:∀{g:Hp} {z:Str} {l:Addr},g B=some (.dK i0)->Zz i0 (Sum.inr z)=some (.ref l)->Yr g B (.str z) (some (.ref l)):=fun s' v0=>by rw[<-v0];exact Yr.k (k:=Sum.inr _) s'
 clear nn O w0;refine⟨a.dr,.dK rr,S1 _ _ a0,.inl ⟨rr,R⟩,fun ob=>?_⟩;sleep 1;have q:=Xj.new ob a0 S1;have G:=y0.put (o:=.frz ob (.dK rr)) (S1 _ _ a0) (ZI a0 j.s).symm (ZI a0 j.r).symm (ZI a0 j.t).symm (ZI a0 j.p).symm;have H:upd H1 a.dr (.frz ob (.dK rr)) B=some (.dK i0):=by rw[Zd nW.nr];exact S1 _ _ e1
 have U:=j.held (o:=.frz ob (.dK rr)) a0;generalize upd H1 a.dr (.frz ob (.dK rr))=Hf at q G H ⊢;refine⟨_,R,B,.ref a.dr,R,get H e2.r,a.dr,ob,rr,R,q.frz,Ko (fun i f g=>Xj g0 a.dr ob rr g/\Ye t g n b ⟨[],[],W.ru.take i,[],[]⟩/\∃C y D:Option V,f=[some (.ref B),some (.ref n),C,y,D,none,none,none]) ⟨q,G,_,_,_,R⟩ (fun i f g _ h=>h.1.frz) ?_ ?_⟩
 ·rintro i kv p f Q f0 gp ⟨S,I,C,y,D,rfl⟩
  generalize E:upd Q p _=H4;have T:=ZW gp E;have Z:=ZX E;clear E;have v:=I.same T;have u:=S.same T;obtain⟨O,o0,c0,d0⟩:=v.ob;obtain⟨x,ex,ek,tp,hT⟩:=r0.get f0;have e:=ok.ro x (SK ex);rw[ek]at Z;refine⟨p,_,R,Zj.of Z,R,_,_,R,_,_,R,R,?_⟩;sleep 1;refine⟨_,R,n,O,_,R,c0,d0.n_add_rule,_,R,_,R,tp,kv.2,x.r,R,(YN.put a0 hT).same u.s,e.2.1,e.2.2.1,e.2.2.2,e.2.2.2,fun rb H5 s5 R5=>?_⟩;refine⟨n,b,_,x,.ref rb,_,R,v.same s5,U,(u.same s5).s,e.1,⟨rb,R,by rw[c.kf];exact R5⟩,e.2,JH ok.rn ex,?_,fun H6 s6 J=>⟨⟨a0,s6⟩,?_,_,_,_,R⟩⟩
  ·show(W.ru.take i).length<6
   rw[Sx];have:=ok.r3;lia
  ·rw[S0,ex];exact J
 rintro f H2 ⟨h2,m0,C,y,D,rfl⟩;rw[SZ (by rw[r0.length];exact Sg _)]at m0;refine⟨h2.frz,?_⟩;have S2:=h2.thaw
 replace m0:=m0.thaw (o:=.dK rr) h2.frz
 generalize upd H2 a.dr (.dK rr)=H2 at S2 m0 ⊢;clear h2 q G H U;refine⟨a.ds,.dK X,S2 _ _ b0,.inl ⟨X,R⟩,fun ob=>?_⟩;sleep 1;have q:=Xj.new ob b0 S2;have G:=m0.put (o:=.frz ob (.dK X)) (S2 _ _ b0) (ZI b0 j.s).symm (ZI b0 j.r).symm (ZI b0 j.t).symm (ZI b0 j.p).symm;have H:upd H2 a.ds (.frz ob (.dK X)) B=some (.dK i0):=by rw[Zd nW.ns];exact S2 _ _ e1
 have U:=j.held (o:=.frz ob (.dK X)) b0;generalize upd H2 a.ds (.frz ob (.dK X))=Hf at q G H ⊢;refine⟨_,R,B,.ref a.ds,R,get H e2.s,a.ds,ob,X,R,q.frz,Ko (fun i f g=>Xj g0 a.ds ob X g/\Ye t g n b ⟨W.st.take i,[],W.ru,[],[]⟩/\∃C y D:Option V,f=[some (.ref B),some (.ref n),C,y,D,none,none,none]) ⟨q,G,_,_,_,R⟩ (fun i f g _ h=>h.1.frz) ?_ ?_⟩
 ·rintro i kv p f Q f0 gp ⟨S,I,C,y,D,rfl⟩
  generalize E:upd Q p _=H4;have T:=ZW gp E;have Z:=ZX E;clear E;have v:=I.same T;have u:=S.same T;obtain⟨O,o0,c0,d0⟩:=v.ob;obtain⟨x,ex,ek,r,er,j0⟩:=u0.get f0;have e:=ok.so x (SK ex);have e0:=(u.s) _ _ (XA (o:=.frz ob (.dK X)) b0 ZE.k j0);rw[ek]at Z;refine⟨p,_,R,Zj.of Z,R,_,_,R,_,_,R,R,?_⟩;sleep 1;refine⟨_,R,n,O,_,R,c0,d0.n_add_stop,_,R,_,R,r,_,0,_,er,R,Zj.of e0,R,_,R,r,_,1,_,er,R,Zj.of e0,R,n,b,_,x,_,R,v,U,u.s,e.1,e.2.1,e.2.2.1,e.2.2.2,JH ok.sn ex,?_,fun H6 s6 J=>⟨⟨b0,s6⟩,?_,_,_,_,R⟩⟩
  ·show(W.st.take i).length<8
   rw[Sx];have:=ok.s5;lia
  ·rw[S0,ex];exact J
 rintro f Q ⟨S,I,C,y,D,rfl⟩;rw[SZ (by rw[u0.length];exact Sg _)]at I;refine⟨S.frz,?_⟩;have S3:=S.thaw
 replace I:=I.thaw (o:=.dK X) S.frz
 generalize upd Q a.ds (.dK X)=Q at S3 I ⊢;clear S q G H U;refine⟨a.dp,.dK rp,S3 _ _ M,.inl ⟨rp,R⟩,fun ob=>?_⟩;sleep 1;have q:=Xj.new ob M S3;have G:=I.put (o:=.frz ob (.dK rp)) (S3 _ _ M) (ZI M j.s).symm (ZI M j.r).symm (ZI M j.t).symm (ZI M j.p).symm;have H:upd Q a.dp (.frz ob (.dK rp)) B=some (.dK i0):=by rw[Zd nW.np];exact S3 _ _ e1
 have U:=j.held (o:=.frz ob (.dK rp)) M;generalize upd Q a.dp (.frz ob (.dK rp))=Hf at q G H ⊢;refine⟨_,R,B,.ref a.dp,R,get H e2.p,a.dp,ob,rp,R,q.frz,Ko (fun i f g=>Xj g0 a.dp ob rp g/\Ye t g n b ⟨W.st,[],W.ru,[],W.tp.take i⟩/\∃C y D:Option V,f=[some (.ref B),some (.ref n),C,y,D,none,none,none]) ⟨q,G,_,_,_,R⟩ (fun i f g _ h=>h.1.frz) ?_ ?_⟩
 ·rintro i kv p f Q f0 gp ⟨S,I,C,y,D,rfl⟩
  generalize E:upd Q p _=H4;have T:=ZW gp E;have Z:=ZX E;clear E;have v:=I.same T;have u:=S.same T;obtain⟨O,o0,c0,d0⟩:=v.ob;obtain⟨x,ex,ek,r,l,vs,er,j0,hl,al⟩:=s0.get f0;have e:=ok.po x (SK ex);have e0:=(u.s) _ _ (XA (o:=.frz ob (.dK rp)) M ZE.k j0);have b1:=(u.s) _ _ (XC (o:=.frz ob (.dK rp)) M hl);have x0:Al (Yp H4) vs x.cs:=al.imp fun _ _ h=>(Yp.put (o:=.frz ob (.dK rp)) M ZE.k h).same u.s;rw[ek]at Z;refine⟨p,_,R,Zj.of Z,R,_,_,R,_,_,R,R,?_⟩;sleep 1;refine⟨_,R,n,O,_,R,c0,d0.n_add_trip,_,R,_,R,r,_,0,_,er,R,Zj.of e0,R,_,R,r,_,1,_,er,R,Zj.of e0,R,l,_,R,.inl (Zf.of b1),fun l2 g2=>?_⟩;have s5:=Zu g2 (.lst vs);refine⟨n,b,_,x,l2,vs,_,R,v.same s5,U,(u.same s5).s,Zg,x0.imp fun _ _=>Yp.same s5,e.2.2.1,e.2.2.2.1,e.2.2.2.2,e.1,?_,JH ok.pn ex,?_,fun H6 s6 _ J=>⟨⟨M,s6⟩,?_,_,_,_,R⟩⟩
  ·obtain⟨n0,hy,ey⟩:=SJ.mp e.2.1
   obtain⟨y',e'⟩:=LA (nm:=Yj.nm) hy;show(ZY Yj.nm W.ru x.ru).isSome=true;rw[<-ey,e'];rfl
  ·show(W.tp.take i).length<10
   rw[Sx];have:=ok.p3;lia
  ·rw[S0,ex];exact J
 rintro f H4 ⟨u,v,C,y,D,rfl⟩;rw[SZ (by rw[s0.length];exact Sg _)]at v;refine⟨u.frz,?_⟩;have S4:=u.thaw
 replace v:=v.thaw (o:=.dK rp) u.frz
 generalize upd H4 a.dp (.dK rp)=H4 at S4 v ⊢;clear u q G H U;refine⟨a.dt,.dK rt,S4 _ _ Y,.inl ⟨rt,R⟩,fun ob=>?_⟩;sleep 1;have q:=Xj.new ob Y S4;have G:=v.put (o:=.frz ob (.dK rt)) (S4 _ _ Y) (ZI Y j.s).symm (ZI Y j.r).symm (ZI Y j.t).symm (ZI Y j.p).symm;have H:upd H4 a.dt (.frz ob (.dK rt)) B=some (.dK i0):=by rw[Zd nW.nt];exact S4 _ _ e1
 have U:=j.held (o:=.frz ob (.dK rt)) Y;generalize upd H4 a.dt (.frz ob (.dK rt))=Hf at q G H ⊢;refine⟨_,R,B,.ref a.dt,R,get H e2.t,a.dt,ob,rt,R,q.frz,Ko (fun i f g=>Xj g0 a.dt ob rt g/\Ye t g n b ⟨W.st,[],W.ru,W.tk.take i,W.tp⟩/\∃C y D:Option V,f=[some (.ref B),some (.ref n),C,y,D,none,none,none]) ⟨q,G,_,_,_,R⟩ (fun i f g _ h=>h.1.frz) ?_ ?_⟩
 ·rintro i kv p f Q f0 gp ⟨S,I,C,y,D,rfl⟩
  generalize E:upd Q p _=H4;have T:=ZW gp E;have Z:=ZX E;clear E;have v:=I.same T;have u:=S.same T;obtain⟨O,o0,c0,d0⟩:=v.ob;obtain⟨x,ex,ek,r,z,er,j0,hz⟩:=p0.get f0;have e:=ok.to x (SK ex);have e0:=(u.s) _ _ (XA (o:=.frz ob (.dK rt)) Y ZE.k j0);have c1:=(u.s) _ _ (XC (o:=.frz ob (.dK rt)) Y hz);rw[ek]at Z;refine⟨p,_,R,Zj.of Z,R,_,_,R,_,_,R,R,?_⟩;sleep 1;refine⟨_,R,n,O,_,R,c0,d0.n_add_ticket,_,R,_,R,r,_,0,_,er,R,Zj.of e0,R,_,R,r,_,1,_,er,R,Zj.of e0,R,_,R,r,_,2,_,er,R,Zj.of e0,R,z,_,R,.inl (Zf.of c1),fun l2 g2=>?_⟩;have s5:=Zu g2 (.lst (Yx x.zs));refine⟨n,b,_,x,l2,_,R,v.same s5,U,(u.same s5).s,Zg,e,JH ok.tn ex,?_,fun H6 s6 J=>⟨⟨Y,s6⟩,?_,_,_,_,R⟩⟩
  ·show(W.tk.take i).length<3
   rw[Sx];have:=ok.t2;lia
  ·rw[S0,ex];exact J
 rintro f H5 ⟨h5,l0,C,y,D,rfl⟩;rw[SZ (by rw[p0.length];exact Sg _)]at l0;refine⟨h5.frz,?_⟩;have S5:=h5.thaw
 replace l0:=l0.thaw (o:=.dK rt) h5.frz
 generalize upd H5 a.dt (.dK rt)=H5 at S5 l0 ⊢;clear h5 q G H U;refine⟨_,R,B,.ref a.lw,R,get (S5 _ _ e1) e2.w,a.lw,R,⟨_,Zf.of (S5 _ _ t0)⟩,D2 (K:=K) (a:=a.lw) (xs:=wv) (fun i f g=>Zc g0 g/\Ye t g n b ⟨W.st,W.wk.take i,W.ru,W.tk,W.tp⟩/\∃v5 v6 v7:Option V,f=[some (.ref B),some (.ref n),C,y,D,v5,v6,v7]) ⟨S5,l0,_,_,_,R⟩ (fun i f g _ ⟨s',_⟩=>Zf.of (s' _ _ t0)) ?_ ?_⟩
 ·rintro i j1 f H6 hv ⟨S6,J,v5,v6,v7,rfl⟩
  obtain⟨x,ex,p,rfl,hp⟩:=q0.get hv;have e:=ok.wo x (SK ex);obtain⟨O,o0,c0,d0⟩:=J.ob;have h0:∀z,z∈W.st.map Yh.nm->YO z/\(ZY Yh.nm W.st z).isSome=true:=fun z hz=>by
   obtain⟨n0,hy,rfl⟩:=SJ.mp hz;obtain⟨y',e'⟩:=LA (nm:=Yh.nm) hy;exact⟨(ok.so n0 hy).1,by rw[e'];rfl⟩
  refine⟨p,_,R,Zj.of (S6 _ _ hp),R,_,_,R,_,_,R,_,_,R,R,?_⟩;sleep 1;refine⟨_,R,n,O,_,R,c0,d0.n_add_walk,_,R,_,R,_,R,n,b,_,x,g0,R,J,j,S6,fun n0 hy=>?_,(h0 _ e.1).1,(h0 _ e.2.1).1,(h0 _ e.1).2,(h0 _ e.2.1).2,e.2.2.1,ok.wn i x ex,e.2.2.2.1,e.2.2.2.2,?_,fun H7 s7 a1=>⟨s7,?_,_,_,_,R⟩⟩
  ·have hy:=ok.wo n0 (List.mem_of_mem_take hy)
   exact⟨(h0 _ hy.1).1,(h0 _ hy.2.1).1⟩
  ·show(W.wk.take i).length<12
   rw[Sx];have:=ok.w4;lia
  ·rw[S0,ex];exact a1
 rintro f H6 ⟨S6,J,v5,v6,v7,rfl⟩;rw[SZ (by rw[q0.length];exact Sg _)]at J;exact⟨_,R,z0 n b H6 S6 J j⟩
def Vs(W:Z1)(y:Tp):Zr:=⟨y.nm,((ZY Yj.nm W.ru y.ru).map Yj.r).getD .always,y.cs⟩
def ZH(W:Z1):List Zr:=W.tp.map (Vs W)
structure QK(H:Hp)(wd:Addr)(W:Z1):Prop where
 ex:∃kvs dr dp rr rp,H wd=some (.dK kvs)/\Zz kvs (Sum.inr (OJ "rules"))=some (.ref dr)/\Zz kvs (Sum.inr (OJ "trips"))=some (.ref dp)/\Rd H dr (.dK rr)/\Rd H dp (.dK rp)/\Al (Xv H) rr W.ru/\Al (Xi H) rp W.tp
theorem QK.same{W:Z1}(s:Zc H c)(h:QK H e W):QK c e W:=by
 obtain⟨x,dr,dp,v,rp,j,i,y,f,g,u,n⟩:=h.ex;exact⟨x,dr,dp,v,rp,s _ _ j,i,y,f.imp (s _ _) fun⟨o,q⟩=>⟨o,s _ _ q⟩,g.imp (s _ _) fun⟨o,q⟩=>⟨o,s _ _ q⟩,u.imp fun _ _=>Xv.same s,n.imp fun _ _=>Xi.same s⟩
structure B8(H:Hp)(wd:Addr)(x:Zr)(ru:Str):Prop where
 ex:∃kvs dr dp rr rp r l vs v tp,H wd=some (.dK kvs)/\Zz kvs (Sum.inr (OJ "rules"))=some (.ref dr)/\Zz kvs (Sum.inr (OJ "trips"))=some (.ref dp)/\Rd H dr (.dK rr)/\Rd H dp (.dK rp) /\
  Zz rp (Sum.inr x.nm)=some (.ref r)/\H r=some (.tup [.str ru,.ref l])/\H l=some (.lst vs)/\Al (Yp H) vs x.cs/\Zz rr (Sum.inr ru)=some v/\YN tp H v x.r
theorem B8.same(s:Zc H c)(h:B8 H e x ru):B8 c e x ru:=by
 obtain⟨G,dr,dp,D,rp,r,l,y,v,tp,n,j,I,g,i,B,u,J,f,C,E⟩:=h.ex;exact⟨G,dr,dp,D,rp,r,l,y,v,tp,s _ _ n,j,I,g.imp (s _ _) fun⟨o,q⟩=>⟨o,s _ _ q⟩,i.imp (s _ _) fun⟨o,q⟩=>⟨o,s _ _ q⟩,B,s _ _ u,s _ _ J,f.imp fun _ _=>Yp.same s,C,E.same s⟩
theorem TJ{c e:Type}{nm:c->Str}{f:c->e}{nm':e->Str}(h:∀x,nm' (f x)=nm x)(z:Str):∀xs:List c,ZY nm' (xs.map f) z=(ZY nm xs z).map f
 |[]=>rfl
 |x::r=>by
  unfold ZY;rw[SM,List.find?_cons,List.find?_cons,h];cases decide (nm x=z)with
  |true=>rfl
  |false=>exact TJ h z r
theorem QK.trip{W:Z1}(h:QK H v W)(ok:Ub W){x:Zr}(e:ZY Zr.nm (ZH W) z=some x):∃ru,B8 H v x ru/\x.Ok/\x.nm=z/\2<=x.cs.length/\Vq (W.st.map Yh.nm) x.cs:=by
 obtain⟨T,dr,dp,rr,rp,G,E,Y,C,D,e6,I⟩:=h.ex;unfold ZH at e;rw[TJ (nm:=Tp.nm) (f:=Vs W) (nm':=Zr.nm) (fun _=>R)]at e;obtain⟨y,j,rfl⟩:=Of.mp e;have c:=ok.po y (Qh j).1;obtain⟨u,B,O⟩:=SJ.mp c.2.1;have i:ZY Yj.nm W.ru y.ru=some u:=by rw[<-O];exact UR ok.rn B
 obtain⟨g,Q,_,r,l,Z,J,X,U,L⟩:=(Xt (fun g x (h:Xi H g x)=>h.1) I z).2 y j;obtain⟨q,S,_,tp,M⟩:=(Xt (fun g x (h:Xv H g x)=>h.1) e6 y.ru).2 u i;have n:=(Qh j).2;refine⟨y.ru,⟨T,dr,dp,rr,rp,r,l,Z,q.2,tp,G,E,Y,C,D,?_,X,U,L,S,?_⟩,⟨?_,c.2.2.2.2⟩,n,c.2.2.2.1,c.2.2.1⟩
 ·show Zz rp (Sum.inr y.nm)=_
  rw[n,Q,J]
 ·show YN tp H q.2 (((ZY Yj.nm W.ru y.ru).map Yj.r).getD .always)
  rw[i];exact M
 ·show R3.Ok (((ZY Yj.nm W.ru y.ru).map Yj.r).getD .always)
  rw[i];exact(ok.ro u B).2
def XD(H:Hp)(c:List (List Zt×V))(f:ZU):Prop:=∀(z:Str) (day:Nat),match f z day with
 |none=>Zz c (Yc day z)=none
 |some none=>Zz c (Yc day z)=some .non
 |some (some e)=>∃l,Zz c (Yc day z)=some (.ref l)/\H l=some (.lst (e.map fun n=>V.int (n:Nat)))
theorem XD.keep(k:∀l xs,H l=some (.lst xs)->f l=some (.lst xs))(h:XD H g c):XD f g c:=fun z day=>by
 have:=h z day;revert this;cases c z day with
 |none=>exact id
 |some o=>cases o with
  |none=>exact id
  |some i=>exact fun⟨l,e,h⟩=>⟨l,e,k _ _ h⟩
theorem XD.same(s:Zc H f)(h:XD H e c):XD f e c:=h.keep fun _ _=>s _ _
inductive ZbN(vs:List V)(H:Hp)(Q:VK)(_e3:XK):Prop|mk (wd g:Addr) (day:Nat) (x:Zr) (ru:Str) (kvs:List (List Zt×V)) (GF:ZU) (_:vs=[.ref wd,.ref g,.str x.nm,.int day]) (_:B8 H wd x ru) (_:x.Ok) (_:H g=some (.dT kvs)) (_:XD H kvs GF) (_:(∀ls,GF x.nm day=some (some ls)->ls.length=x.cs.length)) (_:(Y2 x (GF x.nm day) day=none->∀H',Zc H H'->Q .non H')) (_:∀ms,Y2 x (GF x.nm day) day=some ms->∀l vs H',Zc H H'->H l=none->H' l=some (.lst vs)->Al (Y8 H') vs ms->Q (.ref l) H')
theorem ZbO(y:Zv K mg t):Zn P w K mg base Zo 12 t.jZ t.kA ["_law_world_here","_law_gaps","_law_trip","_law_day"] ZbN:=by
 refine y.Ry.F.ok UK (by lia) fun y0 A outer s h0 q z0 a1 v h=>?_;obtain⟨wd,f0,day,x,ru,b0,C,rfl,hT,S,hg,gp,s0,q1,q2⟩:=h;obtain⟨wk,dr,dp,rr,rp,r,D,I,j0,tp,e1,e2,e3,e4,e5,e6,e7,L,e9,r0,w0⟩:=hT.ex;have d1:=e9.length;have l6:=S.len;refine⟨_,(Zh (LR (YT v (YT v (pv 0) ZJ) (pv 2)) (Vw (n:=2) R (YU (Z0 4 UK.nd) (YU (Z0 5 UK.nd) Vv)))) (Zh (ZG 6 UK.nd (MJ (Xn v) (pv 1) (Ym (Zm (pv 3) (pv 2))) (Ze Xd (Z5 (Zk Zb)) (ZM XH y.Xr Xq (Zk (pv 5)))) ⟨R,R,R,R⟩)) (Zh (ZN (PW.pt (Uv (UX (LM (pv 6))) (UY (YE (YD (ZB y.WJ (Zku y 8) v Zl (Zm (YT v (YT v (pv 0) ZJ) (pv 4)) (pv 3)))))))) (Zi (ZA Ue)) ZP) (Zh (ZG 7 UK.nd (Z5 Xl)) (Zh (Xs (Ug R y.W3 (Zk (ZM XH y.Xr Xq (Zk (pv 5))))) (Z0 8 UK.nd) (Zh (LR (Zs YL (pv 5) (pv 8)) (Vw (n:=3) R (YU (Z0 9 UK.nd) (YU (Z0 10 UK.nd) (YU (Z0 11 UK.nd) Vv))))) (Zi (Z3 (U2 PySem.F.plainAttrs_list PySem.F.slot_list_append PySem.F.type_list_append Qr (pv 7) (Zk (Ym (Ys (pv 9) (Ze Z2 (Ze Z2 (Ze VW Zb (pv 3)) (pv 10)) (Zs YL (pv 6) (pv 8))) (Ze Z2 (Ze Z2 (Ze VW Zb (pv 3)) (pv 11)) (Zs YL (pv 6) (pv 8))))))))))) (Zi (ZA (pv 7)))))))),?_⟩;sleep 6;refine⟨_,R,wd,.ref dp,R,by rw[<-e3];exact Yr.k (k:=Sum.inr (OJ "trips")) e1,_,R,dp,.ref r,R,.inl ⟨rp,Sum.inr x.nm,e5,R,e6.symm⟩,r,_,R,Zj.of e7,R,_,_,R,_,_,R,R,?_⟩;refine⟨_,R,f0,R,.inr ⟨b0,.inl hg⟩,_,R,_,R,by show 2<=sizeLine;lia,fun pk gk=>?_⟩;generalize e:upd h0 pk _=H1;have s1:=ZW gk e;have c1:=ZX e;clear e;refine⟨by show 1<=sizeLine;lia,fun p0 g0=>?_⟩;generalize e:upd H1 p0 _=H2;have s2:=ZW g0 e;have c2:=ZX e;clear e;have S2:=s1.trans s2;refine⟨_,R,D,_,R,.inl (Zf.of (S2 _ _ L)),p0,((I.length:Nat):Int),_,R,R,c2,by lia,by lia,by show 1*_<=sizeLine;exact Sh (show _<=6 by lia) (by lia),fun pr gr=>?_⟩;rw[show(List.replicate ((I.length:Nat):Int).toNat [V.int 0]).flatten=(List.replicate x.cs.length 0).map fun n:Nat=>V.int (n:Nat) by rw[show((I.length:Nat):Int).toNat=x.cs.length by lia];exact B6 _ 0];generalize e:upd H2 pr _=H3;have s3:=ZW gr e;have c3:=ZX e;clear e;have u:=S2.trans s3;refine⟨_,Yr.t (k:=Yc day x.nm) (u _ _ hg) ((s2.trans s3) _ _ c1),?_⟩;have G:=gp.same u x.nm day;have x0:C x.nm day=some none/\Zz b0 (Yc day x.nm)=some .non\/C x.nm day≠some none/\∃g,(Zz b0 (Yc day x.nm)).getD (.ref pr)=.ref g/\H3 g=some (.lst ((XB x (C x.nm day)).map fun n=>V.int (n:Nat))):=by
  revert G;cases C x.nm day with
  |none=>exact fun G=>.inr ⟨fun z=>(nomatch z),pr,by rw[G];rfl,c3⟩
  |some o=>cases o with
   |none=>exact fun G=>.inl ⟨R,G⟩
   |some ls=>exact fun⟨g,m0,h⟩=>.inr ⟨fun z=>(nomatch z),g,by rw[m0];rfl,h⟩
 rcases x0 with⟨hn,e0⟩|⟨hn,g,e0,Z⟩
 ·rw[e0]
  exact⟨_,R,_,R,Z9 (SQ R) (q1 (by unfold Y2;rw[hn];simp) H3 u)⟩
 rw[e0];refine⟨_,R,_,R,Zp (by rw[SR (show ¬ V.ref g=V.non from fun z=>nomatch z)];lia) ?_⟩;refine⟨_,R,wd,.ref dr,R,by rw[<-e2];exact Yr.k (k:=Sum.inr (OJ "rules")) (u _ _ e1),_,R,dr,j0,R,.inl ⟨rr,Sum.inr ru,e4.imp (u _ _) fun⟨o,t0⟩=>⟨o,u _ _ t0⟩,R,r0.symm⟩,_,R,tp,j0,x.r,day,R,w0.same u,S.r.1,S.r.2.2,fun H4 X=>⟨_,R,?_⟩⟩;have M:=u.trans X;cases d0:x.r.runs day with
 |false=>exact Z9 (by lia) (q1 (by unfold Y2;rw[d0,SV SO]) _ M)
 |true =>
  refine Zp (by lia) ⟨by show 0<=sizeLine;lia,fun j gf=>?_⟩;generalize e:upd H4 j _=H5;have s5:=ZW gf e;have c5:=ZX e;clear e;have S5:=M.trans s5;have nf:=M.free gf;have lm:=B7 s0;generalize hL:XB x (C x.nm day)=f at Z lm;have q0:=s5 _ _ (X _ _ Z);have v0:g≠j:=ZI (X _ _ Z) gf;have b1:D≠j:=ZI (M _ _ L) gf;have q3:=q2 _ (by unfold Y2;rw[d0,SW R,SV hn,hL]);clear q2 q1;refine⟨_,R,D,_,R,.inl (Zf.of (S5 _ _ L)),_,R,by lia,by lia,VU (fun i U O=>∃(q:List V) (T v9 Y a0:Option V),Zc h0 O/\O j=some (.lst q)/\O g=some (.lst (f.map fun n=>V.int (n:Nat)))/\Al (Y8 (wo O j)) q ((Xz (1440*(day:Nat)) x.cs f).take i)/\U=[some (.ref wd),some (.ref f0),some (.str x.nm),some (.int day),some (.str ru),some (.ref D),some (.ref g),some (.ref j),T,v9,Y,a0])
   ⟨[],_,_,_,_,S5,c5,q0,.nil,R⟩ ?_ ?_⟩
  ·rintro i U H6 hi ⟨q,T,v9,Y,a0,E,H,J,B,rfl⟩
   sleep 102;have c0:i<I.length:=by lia
   obtain⟨c,ec,pc,ep,u0⟩:=e9.get (Ss c0);have i0:i<f.length:=by lia
   have n0:Y6 I (0+(i:Int))=some (.ref pc):=by rw[Int.zero_add,<-ep];exact WU (Ss c0)
   have l0:Y6 (f.map fun n=>V.int (n:Nat)) (0+(i:Int))=some (.int (f[i]:Nat)):=by rw[Int.zero_add];exact WU (by rw[Oa,Ss i0];rfl)
   refine⟨_,R,_,R,D,_,_,_,R,R,Zf.of (E _ _ L),n0,pc,_,R,Zj.of (E _ _ u0),R,_,_,R,_,_,R,_,_,R,R,?_⟩;refine⟨_,R,.inl ⟨R,_,Zf.of H⟩,_,R,_,R,_,_,R,R,.inl ⟨by lia,by lia⟩,_,R,_,_,R,R,_,R,_,R,g,_,_,_,R,R,Zf.of J,l0,_,_,R,R,_,R,_,_,R,R,.inl ⟨by lia,by lia⟩,_,R,_,_,R,R,_,R,_,R,g,_,_,_,R,R,Zf.of J,l0,_,_,R,R,by show 3<=sizeLine;lia,fun p g6=>?_⟩;generalize e:upd H6 p _=H7;have Q:=ZW g6 e;have c7:=ZX e;clear e;have Vr:=B.length;have o0:p≠j:=(ZI H g6).symm;refine⟨j,_,_,R,R,Q _ _ H,Sj (show q.length<=6 by rw[Vr,Sx];lia) (by lia),?_⟩;refine⟨q++[.ref p],_,_,_,_,YW (E.trans Q) nf _,Zg,by rw[Zd v0];exact Q _ _ J,?_,R⟩;have em:(Xz (1440*(day:Int)) x.cs f)[i]? = some (Lx (1440*(day:Nat)) c f[i]):=by
    unfold Xz;rw[List.getElem?_zipWith,ec,Ss i0]
   rw[S0,em,Q8];refine(B.imp fun _ _=>Y8.same (U7 (l:=j) Q)).snoc ⟨p,R,ZT ?_ o0⟩;rw[c7];show some (HO.tup [.str c.st,.int (1440*(day:Int)+((c.ar:Nat):Int)+((f[i]:Nat):Int)),.int (1440*(day:Int)+((c.lv:Nat):Int)+((f[i]:Nat):Int))])=some (.tup [.str c.st,.int (1440*(day:Int)+((f[i]:Nat):Int)+((c.ar:Nat):Int)),.int (1440*(day:Int)+((f[i]:Nat):Int)+((c.lv:Nat):Int))]);rw[Int.add_right_comm (1440*(day:Int)) ((c.ar:Nat):Int),Int.add_right_comm (1440*(day:Int)) ((c.lv:Nat):Int)]
  ·rintro U H6 ⟨q,T,v9,Y,a0,E,H,J,B,rfl⟩
   rw[SZ (by unfold Xz;rw[List.length_zipWith];lia)]at B;exact⟨_,R,q3 j q H6 E nf H (B.imp fun _ _=>Y8.same Wx)⟩
def wl(b:Bool)(w:Str):List V:=match b with
 |true=>[.str w]
 |false=>[]
theorem C0(b:Bool)(w:Str):(wl b w).length<=1:=by
 cases b
 ·exact Sk _
 ·exact Sg _
def C3(t:TE)(e:St)(G:Hp->Prop)(L:List V):Prop:=∀H Q,G H->(∀p c,Zc H c->c p=some (.lst L)->Q (.ref p) c)->t e H Q
theorem JM{f e:List V}(q:∀H i,Zc H i->G H->G i)(n:f.length+e.length<=sizeLine)(h1:C3 j c G f)(x:C3 t2 c G e):C3 (Vc J5 j t2) c G (f++e):=fun H Q g k=>h1 H _ g fun p1 y h v=>x y _ (q _ _ h g) fun B D s2 u =>
 ⟨p1,B,_,_,R,R,s2 _ _ v,u,n,fun p C=>k p _ ((h.trans s2).trans (Zu C _)) Zg⟩
theorem ZbP(e:c[i]? = some (some (.ref l)))(f:∀H,G H->H l=some (.lst L)):C3 (UW i) c G L:=fun H Q g k=>⟨_,e,k l H (Zc.refl H) (f H g)⟩
theorem JN{w:Str}(h:e[i]? = some (some (.ref a)))(q:∀H,G H->H a=some (Wg a (.ref C)))(ex:X5 c C)(n:W.kitOne c (.ref C) (.ref D)=some b) :
  C3 (Vc D9 (D6 (ZZ (tC (.str w)) Yv)) (VX (fun xs H Q=>∃b,xs=[.bl b]/\Q (.int (if b=true then 1 else 0)) H) (ZZ (VX (Kq c) (ZZ (UW i) (ZZ (tC (.ref D)) Yv))) Yv))) e G (wl b w):=fun H Q g k=>by
 refine⟨by show 1<=sizeLine;lia,fun p1 g1=>?_⟩;have f:=Zu g1 (.lst [.str w]);refine⟨_,h,a,C,D,b,R,f _ _ (q H g),ex,n,b,R,p1,_,_,R,R,Zg,?_,?_,?_,fun j g2=>?_⟩
 ·cases b<;>decide
 ·cases b<;>decide
 ·cases b
  ·show 1*0<=sizeLine;lia
  ·show 1*1<=sizeLine;lia
 ·refine k j _ (f.trans (Zu g2 _)) ?_
  rw[Zg];cases b<;>rfl
theorem ZkD{w:Str}(h:e[i]? = some (some (.ref a)))(q:∀H,G H->H a=some (Wg a (.ref C)))(ex:X5 c C)(n:W.kitOne c (.ref C) (.type "ValueError")=some true) :
  C3 (Vc D9 (D6 (ZZ (tC (.str w)) Yv)) (VX (fun xs H Q=>∃b,xs=[.bl b]/\Q (.int (if b=true then 1 else 0)) H) (ZZ (T9 (VX (uG c) (ZZ (UW i) (ZZ (tC (.ty "ValueError")) Yv)))) Yv))) e G []:=fun H Q g k=>by
 refine⟨by show 1<=sizeLine;lia,fun p1 g1=>?_⟩;have f:=Zu g1 (.lst [.str w]);refine⟨_,h,a,C,"ValueError",true,R,f _ _ (q H g),ex,n,_,R,_,R,p1,_,_,R,R,Zg,by lia,by lia,by show 1*0<=sizeLine;lia,fun j g2=>?_⟩;refine k j _ (f.trans (Zu g2 _)) ?_;rw[Zg];rfl
theorem ZkE(e:Zv K mg t)(c:Wn):W.exmOne K (.ref (c.cls t)) (.ref t.KD)=some true:=by
 cases c with
 |run=>exact e.Zix
 |calls=>exact e.ZiC
theorem ZkF(e:Zv K mg t)(c:Wn):X5 K (c.cls t):=by
 cases c with
 |run=>exact e.Ziu
 |calls=>exact e.Ziz
theorem ZkG(e:Zv K mg t)(c:Wn):W.kitOne K (.ref (c.cls t)) (.type "ValueError")=some true:=by
 cases c with
 |run=>exact e.Ziw
 |calls=>exact e.ZiB
def Wn.is(a:Wn):Wn->Bool
 |.run=>(match a with|.run=>true|_=>false)
 |.calls=>(match a with|.calls=>true|_=>false)
theorem kts(e:Zv K mg t)(c:Wn):KX K (c.cls t) [(t.KG,false),(t.KH,false),(t.KI,false),(t.KJ,false),(t.KL,false),(t.KM,false),(t.KN,false),(t.KO,false),(t.KP,false),(t.KQ,false),(t.VH,c.is .calls),(t.KR,false),(t.W2,c.is .run),(t.KS,false),(t.KU,false),(t.KY,false),(t.KW,false)]:=by
 cases c with
 |run=>exact e.Ziv
 |calls=>exact e.ZiA
theorem QL{L:List V}(E:u[2]? = some (some (.ref v)))(y:u[1]? = some (some (.ref a)))(ex:X5 e C)(k1:W.kitOne e (.ref C) (.ref B)=some f)(k2:W.kitOne e (.ref C) (.ref D)=some i)(M:L.length<=n)(hn:n<=100)(x:H a=some (Wg a (.ref C)))(I:H v=some (.lst L))
  (h:∀p c,Zc H c->c a=some (Wg a (.ref C))->c p=some (.lst (L++wl f j++wl i q))->(L++wl f j++wl i q).length<=n+2->Q (.ref p) c) :
  Vc J5 (Vc J5 (UW 2) (Vc D9 (D6 (ZZ (tC (.str j)) Yv)) (VX (fun xs H Q=>∃b,xs=[.bl b]/\Q (.int (if b=true then 1 else 0)) H) (ZZ (VX (Kq e) (ZZ (UW 1) (ZZ (tC (.ref B)) Yv))) Yv)))) (Vc D9 (D6 (ZZ (tC (.str q)) Yv)) (VX (fun xs H Q=>∃b,xs=[.bl b]/\Q (.int (if b=true then 1 else 0)) H) (ZZ (VX (Kq e) (ZZ (UW 1) (ZZ (tC (.ref D)) Yv))) Yv))) u H Q:=by
 have O:=C0 f j;have S:=C0 i q;have J:sizeLine ≥ 200:=by lia
 refine JM (G:=fun H=>H a=some (Wg a (.ref C))/\H v=some (.lst L)) (fun _ _ s g=>⟨s _ _ g.1,s _ _ g.2⟩) (by rw[Su];lia) (JM (fun _ _ s g=>⟨s _ _ g.1,s _ _ g.2⟩) (by lia) (ZbP E (fun _ g=>g.2)) (JN y (fun _ g=>g.1) ex k1)) (JN y (fun _ g=>g.1) ex k2) H _ ⟨x,I⟩ fun p c s k=>h p c s (s _ _ x) k ?_;rw[Su,Su];lia
inductive ZbQ(t:Yd)(P:Program)(w:World)(K:Ow)(mg:Ov)(base:Heap)(vs:List V)(H:Hp)(Q:VK)(_e3:XK):Prop|mk (f:Addr) (Wc:VK->XK->Prop) (TOLD:V->Hp->Prop) (REF:Wn->Hp->Prop) (_:vs=[.ref f]) (_:MQ P w K mg base 20 f H Wc) (_:(∀Q1 E1,(∀v H',TOLD v H'->Q1 v H')->(∀wd H',REF wd H'->E1 (.ref (wd.cls t)) none H')->Wc Q1 E1)) (_:(∀v H' H'' p,TOLD v H'->Zc H' H''->H'' p=some (.tup [.str (OJ "told"),v])->Q (.ref p) H'')) (_:(∀wd H' H'',REF wd H'->Zc H' H''->Q (.str wd.txt) H''))
theorem TK(c:Zv K mg t):Zn P w K mg base Zo 22 t.jX t.jY ["_law_call"] (ZbQ t P w K mg base):=by
 refine c.Uq.F.ok V7 (by lia) fun x0 A outer s H vs Q y0 hr h=>?_;obtain⟨j0,Wc,z0,a1,rfl,hC,hW,q1,u⟩:=h;refine⟨_,(Zi (Zd4 (i:=1) ⟨R,R⟩ R V7.nd R R R c.Zid (fun pins Kx=>(Zi (ZA (Ym (Zm ZJ (show PE _ _ (vQ P w K mg base 20 0 fun e0 _ H=>Kx e0 H)from ZfQ (x := "_law_call") (k:=20) (i:=0) R (Or.inl R) (hr.mono (j:=20) (by lia)) Zd2)))))) (fun a=>(Zh (ZG 2 V7.nd (Ze XU (Ze Xd (Z5 (Zk ZJ)) (Yw X8 R c.XY XW (Zk (ZM (Wi (K:=K)) c.YR YQ (Zm (pv 1) (X4 R c.Zie)))))) (Ze Xd (Z5 (Zk ZJ)) (Yw X8 R c.XY XW (Zk (ZM (Wi (K:=K)) c.YR YQ (Zm (pv 1) (X4 R c.Zif)))))))) (Zh (ZG 2 V7.nd (Ze XU (Ze XU (pv 2) (Ze Xd (Z5 (Zk ZJ)) (Yw X8 R c.XY XW (Zk (ZM (Wi (K:=K)) c.YR YQ (Zm (pv 1) (X4 R c.Zig))))))) (Ze Xd (Z5 (Zk ZJ)) (Yw X8 R c.XY XW (Zk (ZM (Wi (K:=K)) c.YR YQ (Zm (pv 1) (X4 R c.Zih)))))))) (Zh (ZG 2 V7.nd (Ze XU (Ze XU (pv 2) (Ze Xd (Z5 (Zk ZJ)) (Yw X8 R c.XY XW (Zk (ZM (Wi (K:=K)) c.YR YQ (Zm (pv 1) (X4 R c.Zii))))))) (Ze Xd (Z5 (Zk ZJ)) (Yw X8 R c.XY XW (Zk (ZM (Wi (K:=K)) c.YR YQ (Zm (pv 1) (X4 R c.Zij)))))))) (Zh (ZG 2 V7.nd (Ze XU (Ze XU (pv 2) (Ze Xd (Z5 (Zk ZJ)) (Yw X8 R c.XY XW (Zk (ZM (Wi (K:=K)) c.YR YQ (Zm (pv 1) (X4 R c.Zik))))))) (Ze Xd (Z5 (Zk ZJ)) (Yw X8 R c.XY XW (Zk (ZM (Wi (K:=K)) c.YR YQ (Zm (pv 1) (X4 R c.Zil)))))))) (Zh (ZG 2 V7.nd (Ze XU (Ze XU (pv 2) (Ze Xd (Z5 (Zk ZJ)) (Yw X8 R c.XY XW (Zk (ZM (Wi (K:=K)) c.YR YQ (Zm (pv 1) (X4 R c.Zim))))))) (Ze Xd (Z5 (Zk ZJ)) (Yw X8 R c.XY XW (Zk (ZM (Wi (K:=K)) c.YR YQ (Zm (pv 1) (X4 R c.Zin)))))))) (Zh (ZG 2 V7.nd (Ze XU (Ze XU (pv 2) (Ze Xd (Z5 (Zk ZJ)) (Yw X8 R c.XY XW (Zk (ZM (Wi (K:=K)) c.YR YQ (Zm (pv 1) (X4 R c.ZaU))))))) (Ze Xd (Z5 (Zk ZJ)) (Yw X8 R c.XY XW (Zk (ZM (Wi (K:=K)) c.YR YQ (Zm (pv 1) (X4 R c.Zio)))))))) (Zh (ZG 2 V7.nd (Ze XU (Ze XU (pv 2) (Ze Xd (Z5 (Zk ZJ)) (Yw X8 R c.XY XW (Zk (ZM (Wi (K:=K)) c.YR YQ (Zm (pv 1) (X4 R c.Tk))))))) (Ze Xd (Z5 (Zk ZJ)) (Yw X8 R c.XY XW (Zk (ZM (Wi (K:=K)) c.YR YQ (Zm (pv 1) (X4 R c.Zip)))))))) (Zh (ZG 2 V7.nd (Ze XU (Ze XU (pv 2) (Ze Xd (Z5 (Zk ZJ)) (Yw X8 R c.XY XW (Zk (ZM (Wi (K:=K)) c.YR YQ (Zm (pv 1) (X4 R c.Ziq))))))) (Ze Xd (Z5 (Zk ZJ)) (Yw X8 R c.XY XW (Zk (ZM (Wi (K:=K)) c.YR YQ (Zm (pv 1) (X4 R c.Zis)))))))) (Zh (ZG 2 V7.nd (Ze XU (Ze XU (pv 2) (Ze Xd (Z5 (Zk ZJ)) (Yw X8 R c.XY XW (Zk (ZM (Wi (K:=K)) c.YR YQ (Zm (pv 1) (X4 R c.Zir))))))) (Ze Xd (Z5 (Zk ZJ)) (Yw X8 R c.XY XW (Zk (zB (ZM (Zgu (K:=K)) c.YR YQ (Zm (pv 1) (VA R c.Zhm Zhi))))))))) (Zi (ZA (QP (Yy Y4 (ZM (show YV _ (.builtin "len") (fun xs H Q=>∃p v,xs=[V.ref p]/\(Zf K H p v\/Zj K H p v)/\Q (V.int ↑v.length) H)from XH) c.Xr Xq (Zk (pv 2))) Zb) (Zs (show X3 _ (Me K)from YL) (pv 2) Zb) ZJ))))))))))))))),?_⟩;sleep 1;refine⟨j0,Wc,R,hC,hW _ _ (fun o0 n hT=>⟨by show 2<=sizeLine;lia,fun p hp=>q1 o0 n _ p hT (Zu hp _) Zg⟩) (fun f n hR=>⟨ZkE c f,fun a ha=>?_⟩)⟩;sleep 10;have T:=Zu ha (Wg a (.ref (f.cls t)));have e:=@Zg n a (Wg a (.ref (f.cls t)));have u:=fun t0=>u f n t0 hR;have ex:=ZkF c f;have M:=kts c f;dsimp only[KX]at M;obtain⟨c0,g0,r0,w0,v0,f0,d0,h0,l0,i0,b0,p0,a0,q0,u0,m0,n0,_⟩:=M;generalize upd n a (Wg a (.ref (f.cls t)))=H0 at T e ⊢;have room:∀m,m<=100->m<=sizeLine:=fun m h=>Sh h (by lia);refine JM (G:=fun H=>H a=some (Wg a (.ref (f.cls t)))) (fun _ _ s g=>s _ _ g) (room _ (by have L:=C0 false (OJ "clock");have h2:=C0 false (OJ "days");lia)) (JN (w:=OJ "clock") (i:=1) R (fun _ g=>g) ex c0) (JN (w:=OJ "days") (i:=1) R (fun _ g=>g) ex g0) H0 _ e fun p1 H1 y X=>?_;have e:=y _ _ e;have l1:(wl false (OJ "clock")++wl false (OJ "days")).length<=2:=by lia
 have S1:=T.trans y;generalize e1:(wl (false) (OJ "clock")++wl (false) (OJ "days"))=L1 at X l1;refine QL R R ex r0 w0 l1 (by lia) e X fun p2 H2 s2 e D J=>?_;have S2:=S1.trans s2;generalize e2:L1++_++_=L2 at D J;refine QL R R ex v0 f0 J (by lia) e D fun p3 H3 s3 e Y l3=>?_;have S3:=S2.trans s3;generalize e3:L2++_++_=L3 at Y l3;refine QL R R ex d0 h0 l3 (by lia) e Y fun p4 H4 s4 e k4 l4=>?_;have S4:=S3.trans s4;generalize e4:L3++_++_=L4 at k4 l4;refine QL R R ex l0 i0 l4 (by lia) e k4 fun p5 H5 s5 e C S=>?_;have S5:=S4.trans s5;generalize e5:L4++_++_=L5 at C S;refine QL R R ex b0 p0 S (by lia) e C fun p6 H6 s6 e I E=>?_;have S6:=S5.trans s6;generalize e6:L5++_++_=L6 at I E;refine QL R R ex a0 q0 E (by lia) e I fun p7 H7 s7 e k7 U=>?_;have S7:=S6.trans s7;generalize e7:L6++_++_=L7 at k7 U;refine QL R R ex u0 m0 U (by lia) e k7 fun p8 H8 s8 e O l8=>?_;have S8:=S7.trans s8;generalize e8:L7++_++_=Z at O l8;refine JM (G:=fun H=>H a=some (Wg a (.ref (f.cls t)))/\H p8=some (.lst Z)) (fun _ _ s g=>⟨s _ _ g.1,s _ _ g.2⟩) (room _ (by rw[Su];have L:=C0 (false) (OJ "traveller");have h3:([]:List V).length=0:=rfl;lia)) (JM (fun _ _ s g=>⟨s _ _ g.1,s _ _ g.2⟩) (room _ (by have L:=C0 (false) (OJ "traveller");lia)) (ZbP R (fun _ g=>g.2)) (JN (w:=OJ "traveller") (i:=1) R (fun _ g=>g.1) ex n0)) (ZkD (w:=OJ "bare") (i:=1) R (fun _ g=>g.1) ex (ZkG c f)) H8 _ ⟨e,O⟩ fun B H9 s9 q=>?_;have S9:=S8.trans s9;generalize e9:Z++wl (false) (OJ "traveller")++([]:List V)=L9 at q;have eL:L9=[.str f.txt]:=by
  rw[<-e9,<-e8,<-e7,<-e6,<-e5,<-e4,<-e3,<-e2,<-e1];cases f<;>rfl
 rw[eL]at q;refine⟨_,R,B,_,R,.inl (Zf.of q),R,_,R,Z9 (SQ R) ?_⟩;exact⟨_,R,B,_,0,_,R,R,Zf.of q,R,u H9 S9⟩
def Vt(b e:Int)(ms:List (Str×Int×Int)):Bool:=ms.dropLast.any fun m=>decide (b<=m.2.2) && decide (m.2.2<=e)
theorem ZbR(xs:List V):WE xs none (some (-1))=xs.take (xs.length - 1):=by
 unfold WE HT.sIx;dsimp only;rw[SW (by lia),List.drop_zero]
 congr 1
 lia
inductive ZkH(K:Ow)(vs:List V)(H:Hp)(Q:VK)(_e3:XK):Prop|mk (a:Addr) (b e:Int) (mvv:List V) (ms:List (Str×Int×Int)) (_:vs=[.ref a,.int b,.int e]) (_:Zf K H a mvv) (_:Al (Y8 H) mvv ms) (_:ms.length<=6) (_:∀H',Zc H H'->Q (.bl (Vt b e ms)) H')
theorem ZkI(I:Zv K mg t):Zn P w K mg base Zo 1 t.jB t.jC ["calls","begin","end"] (ZkH K):=by
 refine I.ZaF.F.ok ZgG (by lia) fun a0 A outer s H vs c0 d0 hr h=>?_;obtain⟨a,b,e,g,ms,rfl,S,G,l6,q⟩:=h;refine⟨_,(Zi (ZA (ZM (vC R) I.Zat uZ (Zk (VC (cl:=[(OJ "end",s.heap.objs.size+2),(OJ "begin",s.heap.objs.size+1)]) (N:=["call","begin","end"]) (fr:=[none,some 1,some 2]) R (WB (Qq D7 (pv 0) QU (Uy (zG zI Zb)))) R (by lia) R (by lia) ⟨⟨R,Or.inl R,Or.inl R,_,R,R⟩,⟨⟨R,Or.inl R,Or.inl R,_,R,R⟩,trivial⟩⟩ ⟨R,⟨R,trivial⟩⟩ R (fun _ _ _ _ _=>(Z0 0 (show List.Nodup (["call","begin","end"]:OB) by lia))) (fun _ _ _ _ _=>V0) (fun _ _ _ _ _=>(JY Wt Wt (pv 1) (Zs (show X3 _ (Vy K)from ZF) (pv 0) Zb) (pv 2)))))))),?_⟩;sleep 1;have U:=G.length;refine⟨_,R,_,R,_,R,a,_,R,S,fun p1 g1=>?_⟩;rw[show WE g none (some (-1))=g.take (g.length - 1)from ZbR g,U];have B:=Zu g1 (.lst (g.take (ms.length - 1)));have x:=@Zg H p1 (.lst (g.take (ms.length - 1)));have j:=(G.take (ms.length - 1)).imp fun _ _=>Y8.same B;rw[<-List.dropLast_eq_take]at j;generalize J:ms.dropLast=f at j;have b0:f.length<=6:=by rw[<-J,List.length_dropLast];lia
 unfold Vt at q;rw[J]at q;have lv:=j.length;generalize g.take (ms.length - 1)=C at B x j lv ⊢;generalize upd H p1 (.lst C)=Y at B x j ⊢;refine⟨p1,R,⟨_,Zf.of x⟩,Uj (K:=K) (a:=p1) (xs:=C) (fun i y u M=>M=Y/\y=((f.take i).map fun m=>decide (b<=m.2.2) && decide (m.2.2<=e)).map V.bl/\∃v,u=[v,some (.int b),some (.int e)]) ⟨R,R,none,R⟩ (Sh (show _<=6 by lia) (by lia)) (fun i y u M _ ⟨z,_⟩=>by rw[z];exact Zf.of x) ?_ ?_⟩
 ·rintro i v y u D ha hv ⟨rfl,rfl,vv,rfl⟩
  obtain⟨m,em,L,rfl,Q⟩:=j.get hv;dsimp only[Xw,VB];rw[SW R];refine⟨_,R,_,R,L,_,2,_,R,R,Zj.of Q,R,_,_,R,R,_,R,?_⟩;have E:∀n:Bool,n=(decide (b<=m.2.2) && decide (m.2.2<=e))->(((((f.take i).map fun m=>decide (b<=m.2.2) && decide (m.2.2<=e)).map V.bl)++[V.bl n]).length<=i+1/\(D=D/\((((f.take i).map fun m=>decide (b<=m.2.2) && decide (m.2.2<=e)).map V.bl)++[V.bl n])=(((f.take (i+1)).map fun m=>decide (b<=m.2.2) && decide (m.2.2<=e)).map V.bl)/\∃v,[some (V.ref L),some (.int b),some (.int e)]=[v,some (.int b),some (.int e)])):=fun n Z=>by
   refine⟨by rw[Su,Sw];lia,R,?_,_,R⟩;rw[S0,em,SL,SL,Z];rfl
  refine WF (fun c=>?_) (fun c=>?_)
  ·refine⟨_,R,_,_,R,R,E _ ?_⟩
   rw[show decide (b<=m.2.2)=true from c,Os]
  ·refine E _ ?_
   rw[show decide (b<=m.2.2)=false by simpa using c,Bool.false_and]
 ·rintro y u D _ ⟨rfl,rfl,v,rfl⟩ l X
  have T:f.take C.length=f:=SZ (by lia);rw[T];have t2:=Zu X (.lst ((f.map fun m=>decide (b<=m.2.2) && decide (m.2.2<=e)).map V.bl));refine⟨l,_,R,Zf.of Zg,?_⟩;have O:=q _ (B.trans t2);rw[List.any_map];exact O
structure Rn where
 nm:Str
 day:Nat
 ms:List (Str×Int×Int)
def LJ:List (Str×Int×Int)->Int
 |[]=>0
 |m::_=>m.2.2
def Uc(r:Rn):List (Sum Int (List Nat)):=[.inl (LJ r.ms),.inr r.nm.cps.toList,.inl ((r.day:Nat):Int)]
def Yk(b e:Int)(KF:ZU)(x:Zr)(d:Nat):Option Rn:=match Y2 x (KF x.nm d) d with
 |none=>none
 |some ms=>if Vt b e ms=true then some ⟨x.nm,d,ms⟩else none
theorem Vu{x:Zr}{r:Rn}(h:Yk b e KF x d=some r):r.nm=x.nm/\r.day=d/\Y2 x (KF x.nm d) d=some r.ms/\Vt b e r.ms=true:=by
 unfold Yk at h;cases hm:Y2 x (KF x.nm d) d with
 |none=>rw[hm]at h;cases h
 |some ms =>
  rw[hm]at h;by_cases c:Vt b e ms=true
  ·rw[show(match some ms with|none=>none|some ms=>if Vt b e ms=true then some (Rn.mk x.nm d ms)else none)=some (Rn.mk x.nm d ms)from SW c]at h
   obtain rfl:=So h;exact⟨R,R,R,c⟩
  ·rw[show(match some ms with|none=>none|some ms=>if Vt b e ms=true then some (Rn.mk x.nm d ms)else none)=none from SV c]at h
   cases h
def WQ(b e:Int)(KF:ZU)(TS:List Zr)(f n:Nat):List Rn:=TS.flatMap fun x=>(List.range n).filterMap fun j=>Yk b e KF x (f+j)
def WR(b e:Int)(KF:ZU)(TS:List Zr)(f n:Nat):List Rn:=(List.range n).flatMap fun j=>TS.filterMap fun x=>Yk b e KF x (f+j)
def VO(b e:Int)(KF:ZU)(TS:List Zr):List Rn:=WQ b e KF TS 0 10000
structure VP(TS:List Zr):Prop where
 nd:(TS.map Zr.nm).Nodup
 ok:∀x∈TS,x.Ok
 rng:∀x∈TS,∀c∈x.cs,c.lv<=2879
 len:TS.length<=4
def Wq(TS:List Zr)(KF:ZU):Prop:=∀x∈TS,∀d c,KF x.nm d=some (some c)->c.length=x.cs.length/\∀l∈c,l<=300
theorem Wq.k0{TS:List Zr}:Wq TS K0:=fun x e d c h=>(nomatch h)
theorem C4{b e:Int}{KF:ZU}{TS:List Zr}{f n:Nat}{r:Rn}:r∈WQ b e KF TS f n↔∃x∈TS,∃j,j<n/\Yk b e KF x (f+j)=some r:=by
 unfold WQ;rw[List.mem_flatMap];constructor
 ·rintro⟨x,c,h⟩
  obtain⟨j,g,h⟩:=List.mem_filterMap.mp h;exact⟨x,c,j,List.mem_range.mp g,h⟩
 ·rintro⟨x,c,j,g,h⟩
  exact⟨x,c,List.mem_filterMap.mpr ⟨j,List.mem_range.mpr g,h⟩⟩
theorem ZkJ{b e:Int}{KF:ZU}{TS:List Zr}{f n:Nat}{r:Rn}:r∈WR b e KF TS f n↔∃x∈TS,∃j,j<n/\Yk b e KF x (f+j)=some r:=by
 unfold WR;rw[List.mem_flatMap];constructor
 ·rintro⟨j,g,h⟩
  obtain⟨x,c,h⟩:=List.mem_filterMap.mp h;exact⟨x,c,j,List.mem_range.mp g,h⟩
 ·rintro⟨x,c,j,g,h⟩
  exact⟨j,List.mem_range.mpr g,List.mem_filterMap.mpr ⟨x,c,h⟩⟩
theorem ZbS{TS:List Zr}(nd:(TS.map Zr.nm).Nodup):TS.Pairwise fun x y=>x.nm≠y.nm:=List.pairwise_map.mp nd
theorem ZbT{TS:List Zr}(nd:(TS.map Zr.nm).Nodup)(f n:Nat):(WQ b e KF TS f n).Nodup:=by
 unfold WQ;show List.Pairwise _ _;rw[List.pairwise_flatMap];refine⟨fun x _=>?_,(ZbS nd).imp fun u r i v g z=>?_⟩
 ·rw[List.pairwise_filterMap]
  refine(List.pairwise_lt_range (n:=n)).imp fun y r i v g z=>?_;have c:=(Vu i).2.1;have j:=(Vu g).2.1;rw[z]at c;lia
 ·obtain⟨_,_,h⟩:=List.mem_filterMap.mp i
  obtain⟨_,_,q⟩:=List.mem_filterMap.mp g;have c:=(Vu h).1;have j:=(Vu q).1;rw[z]at c;exact u (c.symm.trans j)
theorem ZkK{TS:List Zr}(nd:(TS.map Zr.nm).Nodup)(f n:Nat):(WR b e KF TS f n).Nodup:=by
 unfold WR;show List.Pairwise _ _;rw[List.pairwise_flatMap];refine⟨fun j _=>?_,(List.pairwise_lt_range (n:=n)).imp fun y r i x g z=>?_⟩
 ·rw[List.pairwise_filterMap]
  refine(ZbS nd).imp fun v r i x g z=>?_;have c:=(Vu i).1;have q:=(Vu g).1;rw[z]at c;exact v (c.symm.trans q)
 ·obtain⟨_,_,h⟩:=List.mem_filterMap.mp i
  obtain⟨_,_,u⟩:=List.mem_filterMap.mp g;have c:=(Vu h).2.1;have q:=(Vu u).2.1;rw[z]at c;lia
theorem LK{c g i:Type}{f:c->g->i}{z:i}:∀{xs:List c} {ys:List g},z∈List.zipWith f xs ys->∃x∈xs,∃y∈ys,f x y=z
 |[],_,h=>by simp at h
 |_::_,[],h=>by simp at h
 |x::xs,y::ys,h=>by
  rw[List.zipWith_cons_cons]at h;rcases SF.mp h with e|h
  ·exact⟨x,SD,y,SD,e.symm⟩
  ·obtain⟨a,ha,b,j,e⟩:=LK h
   exact⟨a,SC _ ha,b,SC _ j,e⟩
theorem ZkL{b e:Int}{KF:ZU}{TS:List Zr}(T:VP TS)(kf:Wq TS KF){x:Zr}(n:x∈TS){d:Nat}{r:Rn}(h:Yk b e KF x d=some r):b<=1440*(d:Nat)+3179/\1440*(d:Int)<=e:=by
 obtain⟨_,_,hm,j⟩:=Vu h;unfold Vt at j;obtain⟨m,C,i⟩:=List.any_eq_true.mp j;rw[Bool.and_eq_true]at i;have u:=SS i.1;have y:=SS i.2;have mem:=(List.dropLast_sublist _).subset C;unfold Y2 at hm
 split at hm
 ·split at hm
  ·cases hm
  ·obtain D:=So hm
   rw[<-D]at mem;unfold Xz at mem;obtain⟨c,B,l,f,rfl⟩:=LK mem;have E:=T.rng x n c B;have G:l<=300:=by
    cases g:KF x.nm d with
    |none=>rw[g]at f;rw[List.eq_of_mem_replicate f];lia
    |some o=>cases o with
     |none=>rw[g]at f;rw[List.eq_of_mem_replicate f];lia
     |some q=>rw[g]at f;exact(kf x n d q g).2 l f
   have v:(Lx (1440*(d:Int)) c l).2.2=1440*(d:Int)+(l:Int)+((c.lv:Nat):Int):=rfl;rw[v]at u y;lia
 ·cases hm
theorem ZbU{b e:Int}{KF:ZU}{TS:List Zr}(T:VP TS)(kf:Wq TS KF){F:List Rn}{f n:Nat}(nd:F.Nodup)(u:∀r,r∈F↔∃x∈TS,∃j,j<n/\Yk b e KF x (f+j)=some r)(q:∀d:Nat,b<=1440*((d:Nat):Int)+3179->1440*((d:Nat):Int)<=e->d<10000->f<=d/\d<f+n)(C:n=0\/f+n<=10000):F.Perm (VO b e KF TS):=by
 refine(List.perm_ext_iff_of_nodup nd (ZbT T.nd 0 10000)).mpr fun r=>?_;rw[u,C4];constructor
 ·rintro⟨x,c,j,g,h⟩
  exact⟨x,c,f+j,by lia,by rw[Nat.zero_add];exact h⟩
 ·rintro⟨x,c,j,g,h⟩
  rw[Nat.zero_add]at h;obtain⟨i,v⟩:=ZkL T kf c h;obtain⟨y,B⟩:=q j i v g;exact⟨x,c,j - f,by lia,by rw[show f+(j - f)=j by lia];exact h⟩
theorem ZbV{b e:Int}{KF:ZU}{TS:List Zr}(T:VP TS){r c:Rn}(S:r∈VO b e KF TS)(M:c∈VO b e KF TS)(h:Uc r=Uc c):r=c:=by
 obtain⟨x,L,j,_,B⟩:=C4.mp S;obtain⟨y,I,k,_,O⟩:=C4.mp M;obtain⟨J,Y,q,_⟩:=Vu B;obtain⟨E,G,X,_⟩:=Vu O;unfold Uc at h;injection h with _ h;injection h with f h;injection h with v _;have f:=Sum.inr.inj f;have v:=Sum.inl.inj v;have g:r.nm=c.nm:=by
  have:r.nm.cps=c.nm.cps:=Array.toList_inj.mp f;cases D:r.nm;cases U:c.nm;rw[D,U]at this;exact congrArg Str.mk this
 have H:x=y:=by
  have C:=UR T.nd L;have n:=UR T.nd I;rw[<-E,<-g,J]at n;exact So (C.symm.trans n)
 subst H;have i:r.day=c.day:=by lia
 have Q:0+j=0+k:=by rw[<-Y,<-G,i]
 rw[Q,X]at q;have u:=So q;cases r;cases c;simp only at g i u;rw[g,i,u]
def Ql(F S:List Rn):Prop:=S.Perm F/\S.Pairwise fun a b=>Xb Vj (Uc b) (Uc a)=false
theorem ZbW{i:Type}{h:i->i->Prop}:∀{S f:List i},S.Perm f->S.Pairwise h->f.Pairwise h->(∀a∈S,∀b∈S,h a b->h b a->a=b)->S=f
 |[],f,c,_,_,_=>(List.nil_perm.mp c).symm
 |a::S,[],c,_,_,_=>Oq (List.perm_nil.mp c) (by simp)
 |a::S,b::f,c,h1,j,n=>by
  have u:a=b:=by
   have ha:a∈b::f:=c.mem_iff.mp SD;have g:b∈a::S:=c.mem_iff.mpr SD;rcases SF.mp ha with e|ha
   ·exact e
   ·rcases SF.mp g with e|g
    ·exact e.symm
    ·exact n a SD b (SC _ g) ((List.pairwise_cons.mp h1).1 b g) ((List.pairwise_cons.mp j).1 a ha)
  subst u;rw[ZbW (List.Perm.cons_inv c) (List.pairwise_cons.mp h1).2 (List.pairwise_cons.mp j).2 fun x v y q=>n x (SC _ v) y (SC _ q)]
theorem Ql.uniq{b e:Int}{KF:ZU}{TS:List Zr}(T:VP TS){S c:List Rn}(h:Ql (VO b e KF TS) S)(h':Ql (VO b e KF TS) c):S=c:=by
 refine ZbW (h.1.trans h'.1.symm) h.2 h'.2 fun x j y f g i=>?_;refine ZbV T (h.1.mem_iff.mp j) (h.1.mem_iff.mp f) ?_;exact(vN Vj).total _ _ i g
theorem ZbX{F : List Rn}(v:F.Perm G){is:OF}(g:∀i r,F[i]? = some r->kf i=Uc r)(h:VG kf F.length is):Ql G (is.map fun i=>F.getD i ⟨Str.empty,0,[]⟩):=by
 have hm:∀i∈is,i<F.length:=fun i c=>List.mem_range.mp (h.1.mem_iff.mp c);refine⟨List.Perm.trans ?_ v,?_⟩
 ·have:=h.1.map fun i=>F.getD i ⟨Str.empty,0,[]⟩
  refine this.trans (List.Perm.of_eq ?_);refine List.ext_getElem (by rw[Sv,List.length_range]) fun i x u=>?_;rw[List.getElem_map,List.getElem_range,List.getD_eq_getElem?_getD,Ss u];rfl
 ·rw[List.pairwise_map]
  refine h.2.imp_of_mem fun{i j} c q e=>?_;have n:=Ss (hm i c);have f:=Ss (hm j q);rw[g i _ n,g j _ f]at e;rw[List.getD_eq_getElem?_getD,List.getD_eq_getElem?_getD,n,f];exact e
theorem TL{R:V->Rn->Prop}{xs:List V}{F:List Rn}(c:Al R xs F):∀{is:OF},(∀i∈is,i<F.length)->Al R (is.map fun i=>xs.getD i .non) (is.map fun i=>F.getD i ⟨Str.empty,0,[]⟩)
 |[],_=>.nil
 |i::is,h=>by
  have hi:=h i SD;have e:i<xs.length:=by rw[c.length];exact hi
  obtain⟨r,g,n⟩:=c.get (Ss e);rw[SM,SM];refine .cons ?_ (TL c fun j f=>h j (SC _ f));rw[List.getD_eq_getElem?_getD,List.getD_eq_getElem?_getD,Ss e,g];exact n
theorem TM{c g:Type}{f:c->List g}{n:Nat}:∀{xs:List c},(∀x∈xs,(f x).length<=n)->(xs.flatMap f).length<=xs.length*n
 |[],_=>Sk _
 |x::xs,h=>by
  rw[List.flatMap_cons,Su,Sy,Nat.succ_mul];have:=TM (xs:=xs) fun y e=>h y (SC _ e);have:=h x SD;lia
theorem ZbY{TS:List Zr}(f n:Nat):(WQ b e KF TS f n).length<=TS.length*n:=TM fun x _=>Sh (List.length_filterMap_le _ _) (by rw[List.length_range];exact Sg _)
theorem ZbZ{TS:List Zr}(f n:Nat):(WR b e KF TS f n).length<=n*TS.length:=by
 have:=TM (n:=TS.length) (xs:=List.range n) (f:=fun j=>TS.filterMap fun x=>Yk b e KF x (f+j)) fun x _=>List.length_filterMap_le _ _;rw[List.length_range]at this;exact this
def Xc(G H:Hp)(v:V)(r:Rn):Prop:=∃p l c,v=.ref p/\H p=some (.tup [.str r.nm,.int (r.day:Nat),.ref l])/\H l=some (.lst c)/\Al (Y8 H) c r.ms/\G l=none
theorem Xc.same(s:Zc H c)(h:Xc G H v r):Xc G c v r:=let ⟨p,l,vs,e,h1,h2,h3,h4⟩:=h;⟨p,l,vs,e,s _ _ h1,s _ _ h2,h3.imp fun _ _=>Y8.same s,h4⟩
theorem Xc.tab(c:H lt=some (.tbl f))(h:Xc G H v r):Xc G (wo H lt) v r :=
 let ⟨p,l,vs,e,h1,h2,h3,h4⟩:=h;⟨p,l,vs,e,Ul c h1 fun _ z=>(nomatch z),Ul c h2 fun _ z=>(nomatch z),h3.imp fun _ _ ⟨q,g,i⟩=>⟨q,g,Ul c i fun _ z=>(nomatch z)⟩,h4⟩
def VQ:Pos:=(Kl (Wf U9) 5).2.2.2
def VR:Str:=(("runs_between" : Str) ++ ".<locals>.") ++ "<lambda>"
theorem ZkM{qual : Str}{g:OI}{e : List Str}(F:E8 K x qual st f g D ds)(S:Zy N e (Zw st))(len:∀vs H Q E,sp vs H Q E->vs.length=e.length)
  (y:∀(c:Value) (A:Around) (outer:List Env) (s:Shared) (H:Hp) (vs:List V) (Q:VK) (E:XK),g.code=c->Yb k (A.deeper (PyProof.Rows.envOfC qual (Zw st) s.heap.objs.size f c))->sp vs H Q E ->
   ∃t,XF (Wv Zo P w K mg base N qual (Zw st) f c A outer s H E).nox (Wf st) t/\t { nx:=fun _ n=>Q .non n,rt:=Q } (WD N vs) H):Zn P w K mg base Zo (k+1) f g e sp:=by
 obtain⟨C,I,kV,G,B,J,c,ct,L,rfl,v,u⟩:=F.ex;refine J3 v u S len fun A outer s H vs Q E i j=>?_;obtain⟨t,h,q⟩:=y c A outer s H vs Q E R i j;exact⟨t,h.nox,q⟩
theorem Zb0{r:Rn}(h:Yk b e KF x d=some r):∃m ms,r.ms=m::ms:=by
 obtain⟨_,_,_,c⟩:=Vu h;cases hm:r.ms with
 |nil=>rw[hm]at c;cases c
 |cons m ms=>exact⟨m,ms,R⟩
theorem TN{b e:Int}{KF:ZU}{TS:List Zr}(T:VP TS)(kf:Wq TS KF){x:Zr}(c:x∈TS){d:Nat}{ms:List (Str×Int×Int)}(h:Y2 x (KF x.nm d) d=some ms):ms.length<=6:=by
 unfold Y2 at h
 split at h
 ·split at h
  ·cases h
  ·obtain rfl:=So h
   unfold Xz;rw[List.length_zipWith];have:=(T.ok x c).len;lia
 ·cases h
theorem ZkN{r:Rn}{m:Str×Int×Int}(h:Xc G H v r)(e:r.ms=m::ms):∃p l c cs vs,v=.ref p/\Zj K H p [.str r.nm,.int (r.day:Nat),.ref l]/\Zf K H l vs/\vs=.ref c::cs/\Zj K H c [.str m.1,.int m.2.1,.int m.2.2]/\LJ r.ms=m.2.2:=by
 obtain⟨p,l,vs,rfl,i,g,f,_⟩:=h;rw[e]at f;cases f with
 |cons a _ =>
  obtain⟨c,rfl,j⟩:=a;exact⟨p,l,c,_,_,R,Zj.of i,Zf.of g,R,Zj.of j,by rw[e];rfl⟩
inductive Zb1(t:Yd)(vs:List V)(H:Hp)(Q:VK)(_e3:XK):Prop|mk (n:Addr) (nv:V) (b e:Int) (N:Z1) (TS:List Zr) (KF:ZU) (G:Hp) (_:vs=[.ref n,.int b,.int e,nv]) (_:Zc G H) (_:G t.Yo=none) (_:Xp t.Yo VQ VR H) (_:Wd t G n N) (_:Al (US N) N.tp TS) (_:VP TS) (_:Wq TS KF) (_:((nv=.non/\KF=K0)\/∃no m,nv=.ref no/\Ua t G no TS KF m)) (_:0<=b) (_:b<=e) (_:e<=b+4320) (_:b<=15000000) (_:∀(S:List Rn) l vs H',Ql (VO b e KF TS) S->Zc G H'->Zc (wo H t.Yo) H'->G l=none->Xp t.Yo VQ VR H'->H' l=some (.lst vs)->vs.length<64->Al (Xc G (wo H' l)) vs S->Q (.ref l) H')
theorem TQ(f:Zv K mg t)(q2:W.CodeHd base t.A9 t.Yo)(w1:BM mg base):Zn P w K mg base Zo 48 t.PH t.G7 ["net","begin","end","notices"] (Zb1 t):=by
 refine ZkM f.K3 Qa (by lia) fun u2 A outer s c0 vs w2 x2 d2 C h=>?_;obtain⟨n,nv,b,e,N,TS,KF,G,rfl,sG,gl,hT,hA,al,T,kf,j1,b0,be,e4,r2,q⟩:=h;refine⟨_,(Vh (ZG 4 Qa.nd (QP (UX (LM (pv 3))) (WT f.ZaT (ZbD f) (C.mono (by lia)) R f.Za1 f.R9.b .nil Zl (Zk (pv 0))) (pv 3))) (Zh (ZG 5 Qa.nd (ZM (J0 R) f.G9 G6 (Zm Zb (Ze Yt (Ze Ws (Ze Ws (pv 1) (YA R f.Ru)) (YA R f.Zaz)) (YA R f.Rt))))) (Zh (ZG 6 Qa.nd (ZM (Zda R) f.Zhn Zhj (Zm (YA R f.I0) (Ze Yt (pv 2) (YA R f.Rt))))) (Zh (ZG 7 Qa.nd (Z5 Xl)) (Zh (Xs (WB (zW (pv 0) f.Yg f.Jr.me (ZbB f) (C.mono (by lia)) f.Jr.b .nil Zl)) (Z0 8 Qa.nd) (Zi (Xs (JT R f.W3 (Zm (pv 5) (Ze Z2 (pv 6) Zb))) (Z0 9 Qa.nd) (Zh (ZG 10 Qa.nd (YY (pv 4) f.YK f.Td.me (Zkf f) (C.mono (by lia)) f.Td.b .nil Zl (Zm (pv 8) (pv 9)))) (Zi (ZN (PW.pt (LO (UX (T7 (pv 10))) (LN (YD (ZB f.ZaF (ZkI f) C Zl (Ys (pv 10) (pv 1) (pv 2))))))) (Zi (Z3 (U2 PySem.F.plainAttrs_list PySem.F.slot_list_append PySem.F.type_list_append Qr (pv 7) (Zk (Ym (Ys (pv 8) (pv 9) (pv 10))))))) ZP)))))) (Zi (ZA (Zf7 (k:=0) (N:=["run"]) (x := "run") (qual:=(("runs_between" : Str) ++ ".<locals>.") ++ "<lambda>") (params:=Prod.fst (Kl (Wf U9) 5)) (body:=Prod.fst (Prod.snd (Kl (Wf U9) 5))) (scope:=Prod.fst (Prod.snd (Prod.snd (Kl (Wf U9) 5)))) R f.KZ Kt (C.mono (by lia)) ⟨R,R,R,by lia,R,by lia,by lia⟩ (fun _ _ _ _=>R) (fun _ _ _ _ _ _ _=>(Ym (Ys (Zs (show X3 _ (Vy K)from ZF) (Zs (show X3 _ (Me K)from YL) (Zs (show X3 _ (Vy K)from ZF) (pv 0) Zb) Zb) Zb) (Zs (show X3 _ (Vy K)from ZF) (pv 0) Zb) (Zs (show X3 _ (Vy K)from ZF) (pv 0) Zb)))) (Zk (pv 7)) (zZ (ZfE (d2.symm.trans f.ZiD) q2 w1 R R) zY))))))))),?_⟩;sleep 1;have c1:=hA;obtain⟨na,hN⟩:=c1;obtain⟨q1,z2,v1,e2⟩:=hN.ob;refine⟨fun D B=>∃J m,D=[some (.ref n),some (.int b),some (.int e),some nv,some (.ref J),none,none,none,none,none,none]/\Zc c0 B/\Ua t B J TS KF m,?_,?_⟩
 ·sleep 1;rcases j1 with⟨rfl,rfl⟩|⟨no,m,rfl,l2⟩
  ·refine⟨_,R,_,R,Z9 (SQ R) ⟨_,R,fun x dx nx a2 v2=>?_⟩⟩
   refine⟨x,n,c0,N,TS,R,nx,YW (Zu a2 _) nx _,⟨dx,Zg⟩,hA.same sG,al,T.nd,fun a1 hy=>(T.ok a1 hy).r,by have:=T.len;lia,fun B bb s' hO _ _ _=>⟨R,x,0,R,s',bb,hO⟩⟩
  ·exact⟨_,R,_,R,Zp (by rw[SR (fun z=>(nomatch z))];lia) ⟨_,R,no,m,R,Zc.refl c0,l2.same sG⟩⟩
 ·rintro D H1 ⟨J,m,rfl,s1,hK⟩
  sleep 5;obtain⟨kb,r0⟩:=hK;obtain⟨s0,c2,k1,d1⟩:=r0.ob;have f1:=hT.same s1;have Z:=sG.trans s1;refine⟨_,R,_,_,R,R,_,_,R,R,_,_,R,R,⟨by lia,by lia⟩,_,_,R,?_⟩;refine⟨_,R,_,_,R,R,⟨by lia,by lia⟩,_,_,R,?_⟩;obtain⟨c,i0⟩:∃c:Nat,(if (b - 2879 - 300)/1440>0 then (b - 2879 - 300)/1440 else 0)=((c:Nat):Int):=⟨(if (b - 2879 - 300)/1440>0 then (b - 2879 - 300)/1440 else 0).toNat,by split<;>omega⟩;obtain⟨la,d0⟩:∃la:Nat,(if e/1440<9999 then e/1440 else 9999)=((la:Nat):Int):=⟨(if e/1440<9999 then e/1440 else 9999).toNat,by split<;>omega⟩;dsimp only;rw[i0,d0];obtain⟨g,k2⟩:∃g:Nat,g=((la:Int)+1 - (c:Int)).toNat:=⟨_,R⟩;have l0:g<=7:=by
   split at i0<;>split at d0<;>omega
  have o1:g=0\/c+g<=10000:=by
   split at d0<;>omega
  have j2:∀d:Nat,b<=1440*((d:Nat):Int)+3179->1440*((d:Nat):Int)<=e->d<10000->c<=d/\d<c+g:=fun d h1 h2 h3=>by
   split at i0<;>split at d0<;>omega
  have w0:=ZbU T kf (ZbT T.nd c g) (fun r=>C4) j2 o1;refine⟨by show 0<=sizeLine;lia,fun v gf=>?_⟩;have t2:=Zu gf (.lst []);have cf:=@Zg H1 v (.lst []);have a3:G v=none:=Z.free gf;generalize upd H1 v (.lst [])=H2 at t2 cf ⊢;have x0:=Z.trans t2;refine⟨_,R,n,q1,_,R,x0 _ _ v1,e2.n_trips,n,N,R,hA.same x0,fun lt gt=>?_⟩;rw[TD al];have t3:=Zu gt (.lst ((TS.map Zr.nm).map V.str));have ct:=@Zg H2 lt (.lst ((TS.map Zr.nm).map V.str));have p0:=t3 _ _ cf;have y1:lt≠v:=fun z=>by rw[z,cf]at gt;cases gt
  have v0:=t2.trans t3;generalize upd H2 lt (.lst ((TS.map Zr.nm).map V.str))=H3 at v0 ct p0 ⊢;refine⟨lt,R,⟨_,Zf.of ct⟩,D2 (K:=K) (a:=lt) (xs:=(TS.map Zr.nm).map V.str) (fun i D B=>Zc H1 B/\B lt=some (.lst ((TS.map Zr.nm).map V.str))/\∃(u:List V) (v8 L I:Option V),B v=some (.lst u)/\Al (Xc G (wo B v)) u (WQ b e KF (TS.take i) c g)/\D=[some (.ref n),some (.int b),some (.int e),some nv,some (.ref J),some (.int c),some (.int la),some (.ref v),v8,L,I]) ⟨v0,ct,[],none,none,none,p0,.nil,R⟩ (fun i D B _ ⟨_,h,_⟩=>Zf.of h) ?_ ?_⟩
  ·rintro i m2 D H4 hv ⟨Q,t0,u,v8,L,I,j0,O,rfl⟩
   sleep 101;rw[Oe,Oa]at hv;obtain⟨x,ex,rfl⟩:=Of.mp hv;have hx:=SK ex;have hi:=(Sr.mp ex).1;have f2:=UR T.nd hx;refine⟨_,R,_,R,_,_,R,R,_,_,R,⟨by lia,by lia,by lia,by lia⟩,?_⟩;rw[<-k2];refine VU (lo:=(c:Int)) (n:=g) (fun j D B=>Zc H1 B/\B lt=some (.lst ((TS.map Zr.nm).map V.str))/\∃(u:List V) (L I:Option V),B v=some (.lst u)/\Al (Xc G (wo B v)) u (WQ b e KF (TS.take i) c g++(List.range j).filterMap fun j=>Yk b e KF x (c+j))/\D=[some (.ref n),some (.int b),some (.int e),some nv,some (.ref J),some (.int c),some (.int la),some (.ref v),some (.str x.nm),L,I]) ⟨Q,t0,u,L,I,j0,by rw[List.range_zero,List.filterMap_nil,Oc];exact O,R⟩ ?_ ?_
   ·rintro j D H5 hj ⟨s5,Y,u,L,I,H,E,rfl⟩
    have e0:(c:Int)+(j:Int)=((c+j:Nat):Int):=by lia
    rw[e0];sleep 102;have i1:c+j<=9999:=by lia
    have p2:H5 J=some (.ins t.YI s0 c2):=s5 _ _ k1;have h0:∀r,Yk b e KF x (c+j)=r->(List.range (j+1)).filterMap (fun j=>Yk b e KF x (c+j))=(List.range j).filterMap (fun j=>Yk b e KF x (c+j))++r.toList:=fun r C=>by
     rw[Oj,List.filterMap_append];cases r with
     |none=>simp[C]
     |some r=>simp[C]
    have hlen:u.length<=40:=by
     rw[E.length,Su];have h1:=ZbY (b:=b) (e:=e) (KF:=KF) (TS:=TS.take i) c g;rw[Sx]at h1;have h2:((List.range j).filterMap fun j=>Yk b e KF x (c+j)).length<=j:=Sh (List.length_filterMap_le _ _) (by rw[List.length_range];exact Sg _);have h4:=T.len;have h5:min i TS.length*g<=4*7:=Nat.mul_le_mul (by lia) l0;lia
    refine⟨_,R,J,s0,_,R,p2,d1.n_moments,_,R,_,R,J,TS,KF,m,x.nm,c+j,x,R,⟨kb,r0.same s5⟩,f2,i1,T.ok x hx,fun ls h=>(kf x hx _ ls h).1,fun hm H6 y=>?_,fun ms hm l mv H6 y X q0 u0=>?_⟩
    ·have M:Yk b e KF x (c+j)=none:=by unfold Yk;rw[hm]
     refine⟨_,R,_,R,Zp (by lia) ⟨s5.trans y,y _ _ Y,u,_,_,y _ _ H,?_,R⟩⟩;rw[h0 none M];show Al _ u (_++(_++[]));rw[Oc];exact E.imp fun _ _=>Xc.same (U7 y)
    ·have l6:=TN (b:=b) (e:=e) T kf hx hm
     refine⟨_,R,_,R,Z9 (by rw[SR (fun z=>(nomatch z))];rfl) ⟨_,R,_,R,_,R,l,b,e,mv,ms,R,Zf.of q0,u0,l6,fun H7 s7=>⟨_,R,?_⟩⟩⟩;have U:=y.trans s7;have a0:=U _ _ H;have n1:=s7 _ _ q0;have b2:l≠v:=fun z=>by rw[z,H]at X;cases X
     have z0:=E.imp fun _ _=>Xc.same (U7 (l:=v) U);have f0:G l=none:=(Z.trans s5).free X;cases hw:Vt b e ms with
     |false =>
      have M:Yk b e KF x (c+j)=none:=by unfold Yk;rw[hm];exact SV (by rw[hw];lia)
      refine Zp (by lia) ⟨s5.trans U,U _ _ Y,u,_,_,a0,?_,R⟩;rw[h0 none M];show Al _ u (_++(_++[]));rw[Oc];exact z0
     |true =>
      have M:Yk b e KF x (c+j)=some ⟨x.nm,c+j,ms⟩:=by unfold Yk;rw[hm];exact SW hw
      refine Z9 R ⟨_,R,.inl ⟨R,_,Zf.of a0⟩,_,R,_,R,_,R,by show 3<=sizeLine;lia,fun p8 g8=>?_⟩;have S:=Zu g8 (.tup [.str x.nm,.int ((c+j:Nat):Int),.ref l]);have n8:p8≠v:=fun z=>by rw[z,a0]at g8;cases g8
      refine⟨v,_,_,R,R,S _ _ a0,Sj hlen (by lia),?_⟩;refine⟨YW (s5.trans (U.trans S)) gf _,by rw[Zd y1];exact S _ _ (U _ _ Y),u++[.ref p8],_,_,Zg,?_,R⟩;rw[h0 _ M,Q8];show Al _ _ (_++(_++[_]));rw[<-Od];refine(z0.imp fun _ _=>Xc.same (U7 (l:=v) S)).snoc ⟨p8,l,mv,R,ZT Zg n8,ZT (S _ _ n1) b2,?_,f0⟩;exact u0.imp fun _ _ ⟨pm,u1,g0⟩=>⟨pm,u1,ZT (S _ _ (s7 _ _ g0)) fun z=>by rw[z,y _ _ H]at g0;cases g0⟩
   ·rintro D H5 ⟨s5,Y,u,L,I,H,E,rfl⟩
    refine⟨s5,Y,u,_,_,_,H,?_,R⟩;have:WQ b e KF (TS.take (i+1)) c g=WQ b e KF (TS.take i) c g++(List.range g).filterMap fun j=>Yk b e KF x (c+j):=by
     unfold WQ;rw[S0,ex,List.flatMap_append];show _++List.flatMap _ [x]=_;rw[List.flatMap_singleton]
    rw[this];exact E
  ·rintro D H4 ⟨Q,t0,u,v8,L,I,j0,O,rfl⟩
   rw[SZ (by rw[Sv,Sv];exact Sg _)]at O
   replace O:=O.imp fun _ _=>Xc.same (Wx (l:=v))
   refine⟨_,R,?_⟩;dsimp only[Yv,ZZ];have y0:=f1.same Q;refine ZfF (q:=VR) (pos:=VQ) y0 fun i2 c' b1 H5 s5 e1 hf n2=>?_;obtain⟨ps,eT⟩:=y0.at;have E:=O.imp fun _ _ h=>(Xc.tab eT h).same s5;have H:=s5 _ _ (Ul eT j0 fun _ z=>(nomatch z));have lF:(WQ b e KF TS c g).length<64:=by
    have h1:=ZbY (b:=b) (e:=e) (KF:=KF) (TS:=TS) c g;have h4:=T.len;have h5:TS.length*g<=4*7:=Nat.mul_le_mul h4 l0;lia
   have o0:∀(i:Nat) (r:Rn),(WQ b e KF TS c g)[i]? = some r->∃m ms,r.ms=m::ms:=fun i r C=>by
    obtain⟨x,_,j,_,h⟩:=C4.mp (SK C);exact Zb0 h
   generalize WQ b e KF TS c g=F at w0 E O lF o0 ⊢;have n0:=E.length;refine⟨v,i2,c',_,b1,u,fun i=>Uc (F.getD i ⟨Str.empty,0,[]⟩),[XM (.inl 0),XM (.inr []),XM (.inl 0)],R,R,Zf.of H,by lia,fun i _=>R,fun z=>(by cases z),hf,n2,fun i m2 ev H6 y=>?_,fun is l H6 io y X x1=>?_⟩
   ·obtain⟨r,M,l1⟩:=E.get ev
    obtain⟨m0,y2,m1⟩:=o0 i r M;obtain⟨p,l,o2,cs,vs,rfl,g1,g2,rfl,g3,e3⟩:=ZkN (K:=K) (l1.same y) m1;refine⟨_,R,p,_,2,_,R,R,g1,R,l,_,0,_,R,R,g2,WU (j:=0) R,o2,_,2,_,R,R,g3,R,_,R,p,_,0,_,R,R,g1,R,_,R,p,_,1,_,R,R,g1,R,by show 3<=sizeLine;lia,fun pt gt=>⟨Zu gt _,pt,_,R,Zg,?_⟩⟩;have eg:F.getD i ⟨Str.empty,0,[]⟩=r:=by rw[List.getD_eq_getElem?_getD,M];rfl
    try dsimp only
    rw[eg];unfold Uc;rw[e3];exact .int _ (.str _ (.int _ .nil))
   ·have f0:G l=none:=by
     have t1:Zc G H5:=(Kj (Z.trans Q) gl).trans s5;exact t1.free x1
    have hS:=ZbX w0 (kf:=fun i=>Uc (F.getD i ⟨Str.empty,0,[]⟩)) (fun i r C=>by rw[List.getD_eq_getElem?_getD,C];rfl) (by rw[<-n0];exact io);have t7:=Zu X (.lst (is.map fun i=>u.getD i .non));have sw:Zc (wo c0 t.Yo) H6:=fun a o e=>y _ _ (s5 _ _ (by
     obtain⟨na,e⟩:=Yn e;exact ZT (Q _ _ (s1 _ _ e)) na))
    refine q _ l _ _ hS (YW (((Kj (Z.trans Q) gl).trans s5).trans y) f0 _) (sw.trans t7) f0 ((e1.same y).same t7) Zg (by rw[Sv,io.1.length_eq,List.length_range];lia) ?_;rw[Q8];refine(TL (E.imp fun _ _=>Xc.same (y.trans (Kj (Zc.refl H6) X))) fun i hi=>?_);rw[<-n0];exact List.mem_range.mp (io.1.mem_iff.mp hi)
def Vr(ms:List (Str×Int×Int)):List Int:=ms.dropLast.map fun m=>m.2.2
def VS(b e:Int)(l:Int):Bool:=decide (b<=l) && decide (l<=e)
theorem Zb2(b e:Int)(ms:List (Str×Int×Int)):Vt b e ms=(Vr ms).any (VS b e):=by
 unfold Vt Vr;rw[List.any_map];rfl
theorem Xj.free(h:Xj H d ob g f)(e:f l=none):H l=none:=by
 cases z:H l with
 |none=>rfl
 |some o =>
  by_cases c:l=d
  ·rw[c,h.frz]at e;cases e
  ·rw[h.s _ _ (by rw[Zd c];exact z)]at e;cases e
def R4(G H:Hp)(v:V)(r:Rn):Prop:=∃p l c,v=.ref p/\H p=some (.tup [.int (LJ r.ms),.str r.nm,.int (r.day:Nat),.ref l])/\H l=some (.lst c)/\Al (Y8 H) c r.ms/\G l=none
theorem R4.keep(k:∀a o,H a=some o->(∀b u,o≠.frz b u)->(∀q,o≠.dK q)->c a=some o)(h:R4 G H v r):R4 G c v r:=by
 obtain⟨p,l,g,e,f,i,j,n⟩:=h;exact⟨p,l,g,e,k _ _ f (fun _ _ z=>(nomatch z)) (fun _ z=>(nomatch z)),k _ _ i (fun _ _ z=>(nomatch z)) (fun _ z=>(nomatch z)),j.imp fun _ _ ⟨p,e,h⟩=>⟨p,e,k _ _ h (fun _ _ z=>(nomatch z)) (fun _ z=>(nomatch z))⟩,n⟩
theorem R4.same(s:Zc H c)(h:R4 G H v r):R4 G c v r:=h.keep fun a o e _ _=>s a o e
theorem Zb3{W:Z1}(ok:Ub W){y:Tp}(c:y∈W.tp):ZY Zr.nm (ZH W) y.nm=some (Vs W y):=by
 unfold ZH;rw[TJ (nm:=Tp.nm) (f:=Vs W) (nm':=Zr.nm) (fun _=>R),UR ok.pn c];rfl
structure WA(H:Hp)(wd:Addr)(W:Z1):Prop where
 ex:∃kvs dr dp rr rp,H wd=some (.dK kvs)/\Zz kvs (Sum.inr (OJ "rules"))=some (.ref dr)/\Zz kvs (Sum.inr (OJ "trips"))=some (.ref dp)/\H dr=some (.dK rr)/\H dp=some (.dK rp)/\Al (Xv H) rr W.ru/\Al (Xi H) rp W.tp/\wd≠dp/\dr≠dp
theorem WA.toT{W:Z1}(h:WA H c W):QK H c W:=by
 obtain⟨u,dr,dp,q,rp,i,g,v,e,f,n,j,_⟩:=h.ex;exact⟨u,dr,dp,q,rp,i,g,v,.inl e,.inl f,n,j⟩
theorem WA.same{W:Z1}(s:Zc H c)(h:WA H e W):WA c e W:=by
 obtain⟨v,dr,dp,u,rp,j,i,x,f,g,q,n,y⟩:=h.ex;exact⟨v,dr,dp,u,rp,s _ _ j,i,x,s _ _ f,s _ _ g,q.imp fun _ _=>Xv.same s,n.imp fun _ _=>Xi.same s,y⟩
theorem WA.hold{W:Z1}(h:WA G e W):∃c dp rp,G e=some (.dK c)/\Zz c (Sum.inr (OJ "trips"))=some (.ref dp)/\G dp=some (.dK rp)/\Al (Xi G) rp W.tp/\∀ob g,Xj G dp ob rp g->QK g e W/\g e=some (.dK c):=by
 obtain⟨c,dr,dp,B,rp,j,x,u,v,i,y,n,D,C⟩:=h.ex;refine⟨c,dp,rp,j,u,i,n,fun ob g f=>?_⟩;have q:=f.s _ _ (show upd G dp (.frz ob (.dK rp)) e=some (.dK c) by rw[Zd D];exact j);exact⟨⟨c,dr,dp,B,rp,q,x,u,.inl (f.s _ _ (by rw[Zd C];exact v)),.inr ⟨ob,f.frz⟩,y.imp fun _ _ h=>(Xv.put i h).same f.s,n.imp fun _ _ h=>(Xi.put i h).same f.s⟩,q⟩
theorem ZkO{x:Zr}(h:∀ms,Y2 x (KF x.nm d) d=some ms->Vt b e ms=false):Yk b e KF x d=none:=by
 unfold Yk;cases hm:Y2 x (KF x.nm d) d with
 |none=>rfl
 |some ms=>exact SV (by rw[h ms hm];lia)
def C5(G H:Hp)(v:V):Option (List (Str×Int×Int))->Prop
 |none=>v=.non
 |some ms=>∃l vs,v=.ref l/\G l=none/\H l=some (.lst vs)/\Al (Y8 H) vs ms
theorem C5.same(s:Zc H c)(h:C5 G H v o):C5 G c v o:=by
 cases o with
 |none=>exact h
 |some ms=>obtain⟨l,i,e,g,f,j⟩:=h;exact⟨l,i,e,g,s _ _ f,j.imp fun _ _=>Y8.same s⟩
theorem Zb4{x:Zr}{E:XK}(C:B8 H q x ru)(ok:x.Ok)(D:H g=some (.dT i))(gp:XD H i f)(j:∀u,f x.nm day=some (some u)->u.length=x.cs.length)(h:∀v c,Zc H c->C5 H c v (Y2 x (f x.nm day) day)->Q v c):ZbN [.ref q,.ref g,.str x.nm,.int day] H Q E :=
 ⟨q,g,day,x,ru,i,f,R,C,ok,D,gp,j,fun e c s=>h _ _ s (by rw[e];rfl),fun ms e l y c s n j B=>h _ _ s (by rw[e];exact⟨l,y,R,n,j,B⟩)⟩
def JO:Option (List (Str×Int×Int))->List Int
 |none=>[]
 |some ms=>Vr ms
inductive ZkP(vs:List V)(H:Hp)(Q:VK)(_e3:XK):Prop|mk (wd g:Addr) (b e:Int) (W:Z1) (kvs:List (List Zt×V)) (GF:ZU) (_:vs=[.ref wd,.ref g,.int b,.int e]) (_:WA H wd W) (_:Ub W) (_:H g=some (.dT kvs)) (_:XD H kvs GF) (_:VP (ZH W)) (_:Wq (ZH W) GF) (_:0<=b) (_:b<=e) (_:e<=b+4320) (_:e<14400000) (_:∀(S:List Rn) l vs H',Ql (VO b e GF (ZH W)) S->Zc H H'->H l=none->H' l=some (.lst vs)->Al (Xc H (wo H' l)) vs S->Q (.ref l) H')
theorem Zb5(Tx:Zv K mg t):Zn P w K mg base Zo 14 t.kB t.kC ["_law_world_here","_law_gaps","_law_begin","_law_end"] ZkP:=by
 refine Tx.Rz.F.ok A5 (by lia) fun o3 A outer s H vs s3 t3 O h=>?_;obtain⟨wd,n0,b,e,W,y1,n,rfl,hW,i2,hg,gp,T,kf,b0,be,e4,e9,e3⟩:=h;obtain⟨wk,dp,rp,f1,f2,f3,f4,hold⟩:=hW.hold;refine⟨_,(Zh (ZG 4 A5.nd (Z5 Xl)) (Zh (Xs (JT R Tx.W3 (Zm (ZM (J0 R) Tx.G9 G6 (Zm Zb (Ze Ws (Ze Yt (pv 2) Zb) Zb))) (Ze Z2 (Ze Yt (pv 3) Zb) Zb))) (Z0 5 A5.nd) (Zi (G3 (Xs (Zgl (YT O (pv 0) ZJ)) (Z0 6 A5.nd) (Zh (ZG 7 A5.nd (ZB Tx.Ry (ZbO Tx) O Zl (Wz (pv 0) (pv 1) (pv 6) (pv 5)))) (Vh (ZG 8 A5.nd (QP (UX (LM (pv 7))) (Z5 Xl) (VC (cl:=[]) (N:=["_law_call"]) (fr:=[none]) R (WB (Qq D7 (pv 7) QU (Uy (zG zI Zb)))) R (by lia) R (by lia) trivial trivial R (fun _ _ _ _ _=>(Z0 0 (show List.Nodup (["_law_call"]:OB) by lia))) (fun _ _ _ _ _=>V0) (fun _ _ _ _ _=>(Zs (show X3 _ (Vy K)from ZF) (pv 0) Zb))))) (Zi (ZN (Yy (vO O.units0) (VC (cl:=[(OJ "_law_end",s.heap.objs.size+2),(OJ "_law_begin",s.heap.objs.size+1)]) (N:=["_law_leave","_law_begin","_law_end"]) (fr:=[none,some 2,some 3]) R (WB (pv 8)) R (by lia) R (by lia) ⟨⟨R,Or.inl R,Or.inl R,_,R,R⟩,⟨⟨R,Or.inl R,Or.inl R,_,R,R⟩,trivial⟩⟩ ⟨R,⟨R,trivial⟩⟩ R (fun _ _ _ _ _=>(Z0 0 (show List.Nodup (["_law_leave","_law_begin","_law_end"]:OB) by lia))) (fun _ _ _ _ _=>(Ms (JZ Wt Wt (pv 1) (pv 0) (pv 2)))) (fun _ _ _ _ _=>(pv 0))) (Z5 Xl)) (Zi (Z3 (U2 PySem.F.plainAttrs_list PySem.F.slot_list_append PySem.F.type_list_append Qr (pv 4) (Zk (Ym (Wz (Zs ZF (Zs YL (pv 7) Zb) Zb) (pv 6) (pv 5) (pv 7))))))) ZP)))))))) (Zi (ZA (VC (cl:=[]) (N:=["_law_leave","_law_trip","_law_day","_law_calls_here"]) (fr:=[none,none,none,none]) R (WB (ZM Zf4 Tx.KZ Kt (Zk (pv 4)))) R (by lia) R (by lia) trivial trivial R (fun _ _ _ _ _=>(show PG _ _ (LQ K 4 _)from Vw R (YU (Z0 0 (show List.Nodup (["_law_leave","_law_trip","_law_day","_law_calls_here"]:OB) by lia)) (YU (Z0 1 (show List.Nodup (["_law_leave","_law_trip","_law_day","_law_calls_here"]:OB) by lia)) (YU (Z0 2 (show List.Nodup (["_law_leave","_law_trip","_law_day","_law_calls_here"]:OB) by lia)) (YU (Z0 3 (show List.Nodup (["_law_leave","_law_trip","_law_day","_law_calls_here"]:OB) by lia)) Vv)))))) (fun _ _ _ _ _=>V0) (fun _ _ _ _ _=>(Ym (Ys (pv 1) (pv 2) (pv 3))))))))),?_⟩;sleep 3;refine⟨by show 0<=sizeLine;lia,fun B gf=>?_⟩;generalize f:upd H B _=H2;have t2:=ZW gf f;have cf:=ZX f;clear f;obtain⟨c,r0⟩:∃c:Nat,(if b/1440 - 3>0 then b/1440 - 3 else 0)=((c:Nat):Int):=⟨(if b/1440 - 3>0 then b/1440 - 3 else 0).toNat,by split<;>omega⟩;obtain⟨E,d2⟩:∃E:Nat,E=(e/1440+1 - (c:Int)).toNat:=⟨_,R⟩;have x0:E<=9/\(E=0\/c+E<=10000)/\∀d:Nat,b<=1440*((d:Nat):Int)+3179->1440*((d:Nat):Int)<=e->d<10000->c<=d/\d<c+E:=by
  refine⟨by split at r0<;>omega,by split at r0<;>omega,fun d h1 h2 h3=>by split at r0<;>omega⟩
 obtain⟨x0,q1,x1⟩:=x0;have e1:=ZkK (b:=b) (e:=e) (KF:=n) T.nd c E;have t0:=ZbU T kf e1 (fun r=>ZkJ) x1 q1;have k3:(ZH W).length=rp.length:=by unfold ZH;rw[Sv,f4.length]
 refine⟨_,R,_,_,R,R,⟨by lia,by lia⟩,_,_,R,R,_,_,R,_,R,_,_,R,R,⟨by lia,by lia⟩,_,_,R,R,(c:Int),_,by rw[<-r0],⟨by lia,by lia,by lia,by lia⟩,VU (lo:=(c:Int)) (fun j g q=>Zc H q/\∃(u:List V) (v5 S U M:Option V),q B=some (.lst u)/\Al (R4 H (wo q B)) u (WR b e n (ZH W) c j)/\g=[some (.ref wd),some (.ref n0),some (.int b),some (.int e),some (.ref B),v5,S,U,M]) ⟨t2,[],none,none,none,none,cf,.nil,R⟩ ?_ ?_⟩
 ·rintro j g H4 hj ⟨s4,u,v5,S,U,M,b1,G,rfl⟩
  rw[<-d2]at hj;have e0:(c:Int)+(j:Int)=((c+j:Nat):Int):=by lia
  rw[e0];refine Gq1 ?_;intros;refine⟨dp,.dK rp,s4 _ _ f3,.inl ⟨rp,R⟩,fun ob=>?_⟩;sleep 1;have y:=Xj.new ob f3 s4;have z0:upd H4 dp (.frz ob (.dK rp)) B=some (.lst u):=XC (s4 _ _ f3) b1;have i1:Al (R4 H (wo (upd H4 dp (.frz ob (.dK rp))) B)) u (WR b e n (ZH W) c j):=G.imp fun _ _ h=>h.keep fun a o J _ nk=>by
   obtain⟨na,J⟩:=Yn J;exact ZT (by rw[Zd (Z4 J (s4 _ _ f3) (nk _))];exact J) na
  generalize upd H4 dp (.frz ob (.dK rp))=Hf at y z0 i1 ⊢;refine⟨_,R,wd,.ref dp,R,by rw[<-f2];exact Yr.k (k:=Sum.inr (OJ "trips")) (hold ob Hf y).2,dp,ob,rp,R,y.frz,Zgm (fun i g q=>Xj H dp ob rp q/\∃(u:List V) (S U M:Option V),q B=some (.lst u)/\Al (R4 H (wo q B)) u (WR b e n (ZH W) c j++((ZH W).take i).filterMap fun x=>Yk b e n x (c+j))/\g=[some (.ref wd),some (.ref n0),some (.int b),some (.int e),some (.ref B),some (.int ((c+j:Nat):Int)),S,U,M]) ⟨y,u,S,U,M,z0,by rw[List.take_zero,List.filterMap_nil,Oc];exact i1,R⟩ (fun i g q _ ⟨h',_⟩=>h'.frz) ?_ ?_⟩
  ·clear y z0 i1
   rintro i kv g Q r2 ⟨y,u,S,U,M,c0,f0,rfl⟩;obtain⟨u0,ey,ek,_⟩:=f4.get r2;have hx:=Zb3 i2 (SK ey);have ex:(ZH W)[i]? = some (Vs W u0):=by unfold ZH;rw[Oa,ey];rfl
   generalize u2:Vs W u0=x at hx ex;have s1:u0.nm=x.nm:=by rw[<-u2];rfl
   rw[s1]at hx;have j1:=(Qh hx).1;rw[ek,s1];have l1:∀r,Yk b e n x (c+j)=r->((ZH W).take (i+1)).filterMap (fun x=>Yk b e n x (c+j))=((ZH W).take i).filterMap (fun x=>Yk b e n x (c+j))++r.toList:=fun r O=>by
    rw[S0,ex,List.filterMap_append];cases r with
    |none=>simp[O]
    |some r=>simp[O]
   have hlen:u.length<=40:=by
    rw[f0.length,Su];have h1:=ZbZ (b:=b) (e:=e) (KF:=n) (TS:=ZH W) c j;have h2:(((ZH W).take i).filterMap fun x=>Yk b e n x (c+j)).length<=4:=Sh (List.length_filterMap_le _ _) (by rw[Sx];have:=T.len;lia);have h5:j*(ZH W).length<=9*4:=Nat.mul_le_mul (by lia) T.len;lia
   obtain⟨ru,hT,j2,_,l2,cs⟩:=(hold ob Q y).1.trip i2 hx;have w1:=y.s _ _ (show upd H dp (.frz ob (.dK rp)) n0=some (.dT y1) by rw[Zd (Z4 hg f3 (by intro z;cases z))];exact hg);have e2:XD Q y1 n:=gp.keep fun l xs e=>y.s _ _ (XC f3 e);have m2:∀ls,n x.nm (c+j)=some (some ls)->ls.length=x.cs.length:=fun ls h=>(kf x j1 _ ls h).1;sleep 102;refine⟨_,R,_,R,_,R,_,R,?_⟩;dsimp only[Yv,ZZ,Oc];have b3:∀l,Q l=none->H l=none/\l≠B:=fun l e=>⟨y.free e,fun z=>by rw[z,c0]at e;cases e⟩;refine Zb4 hT j2 w1 e2 m2 fun v H6 Z Y=>?_;generalize ho:Y2 x (n x.nm (c+j)) (c+j)=o at Y;refine⟨fun g q=>∃L,Xj H dp ob rp q/\q B=some (.lst u)/\Al (R4 H (wo q B)) u (WR b e n (ZH W) c j++((ZH W).take i).filterMap fun x=>Yk b e n x (c+j))/\C5 Q q v o/\q L=some (.lst ((JO o).map V.int))/\g=[some (.ref wd),some (.ref n0),some (.int b),some (.int e),some (.ref B),some (.int ((c+j:Nat):Int)),some (.str x.nm),some v,some (.ref L)],?_,?_⟩
   ·sleep 1;have u1:∀L D,Zc H6 D->D L=some (.lst ((JO o).map V.int))->Xj H dp ob rp D/\D B=some (.lst u)/\Al (R4 H (wo D B)) u (WR b e n (ZH W) c j++((ZH W).take i).filterMap fun x=>Yk b e n x (c+j))/\C5 Q D v o/\D L=some (.lst ((JO o).map V.int)):=fun L D s7 hl=>by
     have d0:=Z.trans s7;exact⟨y.same d0,d0 _ _ c0,f0.imp fun _ _=>R4.same (U7 d0),Y.same s7,hl⟩
    cases o with
    |none =>
     obtain rfl:v=.non:=Y;refine⟨_,R,_,R,Z9 (SQ R) ⟨by show 0<=sizeLine;lia,fun I g7=>?_⟩⟩;obtain⟨a1,a2,a3,a4,a5⟩:=u1 I _ (Zu g7 (.lst [])) Zg;exact⟨I,a1,a2,a3,a4,a5,R⟩
    |some ms =>
     obtain⟨l,mv,rfl,u3,q2,p0⟩:=Y;have l6:=TN (b:=b) (e:=e) T kf j1 ho;have lm:=p0.length;refine⟨_,R,_,R,Zp (by rw[SR (fun z=>(nomatch z))];lia) ?_⟩;refine⟨_,R,_,R,_,R,l,_,R,Zf.of q2,fun I g7=>?_⟩;rw[show WE mv none (some (-1))=mv.take (mv.length - 1)from ZbR mv,lm];generalize f:upd H6 I _=D;have t7:=ZW g7 f;have c7:=ZX f;clear f;have s0:=(p0.take (ms.length - 1)).imp fun _ _=>Y8.same t7;rw[<-List.dropLast_eq_take]at s0;generalize mv.take (ms.length - 1)=k2 at c7 s0;have lv:=s0.length;have q3:ms.dropLast.length<=6:=by rw[List.length_dropLast];lia
     refine⟨I,R,⟨_,Zf.of c7⟩,Uj (K:=K) (a:=I) (xs:=k2) (fun i C g q=>q=D/\C=((Vr ms).take i).map V.int/\∃v,g=[v]) ⟨R,R,none,R⟩ (Sh (show _<=6 by lia) (by lia)) (fun i C g q _ ⟨z,_⟩=>by rw[z];exact Zf.of c7) ?_ ?_⟩
     ·rintro i v C g H8 ha hv ⟨rfl,rfl,vv,rfl⟩
      obtain⟨m,em,pm,rfl,X⟩:=s0.get hv;dsimp only[Xw,VB];rw[SW R];refine⟨_,R,pm,_,2,_,R,R,Zj.of X,R,by rw[Su,Sw];lia,R,?_,_,R⟩;rw[S0,show(Vr ms)[i]? = some m.2.2 by unfold Vr;rw[Oa,em];rfl,SL];rfl
     ·rintro C g H8 _ ⟨rfl,rfl,v,rfl⟩ l8 a0
      rw[SZ (by unfold Vr;rw[Sv];lia)];obtain⟨a1,a2,a3,a4,a5⟩:=u1 l8 _ (t7.trans (Zu a0 _)) Zg;exact⟨l8,a1,a2,a3,a4,a5,R⟩
   ·clear Y Z c0 f0 hT w1 e2 y
    rintro g D ⟨L,y,n2,l3,Y,w0,rfl⟩;sleep 1;have l6:(JO o).length<=6:=by
     cases o with
     |none=>exact Sk _
     |some ms=>show(Vr ms).length<=6;unfold Vr;rw[Sv,List.length_dropLast];have:=TN (b:=b) (e:=e) T kf j1 ho;lia
    generalize hL:JO o=h0 at w0 l6;refine⟨_,R,L,R,⟨_,Zf.of w0⟩,Uj (K:=K) (a:=L) (xs:=h0.map V.int) (fun i C g q=>q=D/\C.isEmpty = !((h0.take i).any (VS b e))/\∃v,g=[v,some (.int b),some (.int e)]) ⟨R,R,none,R⟩ (Sh (show _<=6 by rw[Sv];lia) (by lia)) (fun i C g q _ ⟨z,_⟩=>by rw[z];exact Zf.of w0) ?_ ?_⟩
    ·rintro i v C g H8 ha hv ⟨rfl,j0,vv,rfl⟩
     rw[Oa]at hv;obtain⟨m,em,rfl⟩:=Of.mp hv;have nx:(h0.take (i+1)).any (VS b e)=((h0.take i).any (VS b e) || VS b e m):=by
      rw[S0,em,List.any_append];simp
     dsimp only[Xw];refine⟨_,R,_,R,_,_,R,R,_,R,WF (fun c1=>?_) (fun c1=>?_)⟩
     ·refine⟨_,R,_,_,R,R,_,R,WF (fun c2=>?_) (fun c2=>?_)⟩
      ·refine⟨_,R,by rw[Su,Sw];lia,R,?_,_,R⟩
       rw[nx,show VS b e m=true by unfold VS;rw[show decide (b<=m)=true from c1,show decide (m<=e)=true from c2];rfl];simp
      ·refine⟨by lia,R,?_,_,R⟩
       rw[nx,show VS b e m=false by unfold VS;rw[show decide (m<=e)=false by simpa using c2,Bool.and_false],j0];simp
     ·refine⟨_,R,Zp (by simpa using c1) ⟨by lia,R,?_,_,R⟩⟩
      rw[nx,show VS b e m=false by unfold VS;rw[show decide (b<=m)=false by simpa using c1,Bool.false_and],j0];simp
    ·rintro C g H8 _ ⟨rfl,j0,v',rfl⟩ l8 a0
     rw[Sv,List.take_length]at j0;generalize f:upd H8 l8 _=H9;have t8:=ZW a0 f;have c8:=ZX f;clear f;refine⟨by show 0<=sizeLine;lia,fun p9 g9=>?_⟩;generalize f:upd H9 p9 _=x2;have t9:=ZW g9 f;have c9:=ZX f;clear f;have S9:=t8.trans t9;refine⟨l8,p9,C,R,R,Zf.of (t9 _ _ c8),Zf.of c9,_,R,?_⟩;have g0:=S9 _ _ n2;have t1:=l3.imp fun _ _=>R4.same (U7 (l:=B) S9);show(if (!C.isEmpty)=true then _ else _);rw[j0,Bool.not_not];cases d1:h0.any (VS b e)with
     |false =>
      refine Zp (by lia) ⟨y.same S9,u,_,_,_,g0,?_,R⟩;rw[l1 none (ZkO fun ms hm=>by rw[ho]at hm;subst hm;rw[Zb2];subst hL;exact d1)];show Al _ u (_++(_++[]));rw[Oc];exact t1
     |true =>
      cases o with
      |none=>subst hL;cases d1
      |some ms =>
       subst hL;have hw:Vt b e ms=true:=by rw[Zb2];exact d1
       obtain⟨l,mv,rfl,i3,o1,p0⟩:=Y.same S9;have er:Yk b e n x (c+j)=some ⟨x.nm,c+j,ms⟩:=by unfold Yk;rw[ho];exact SW hw
       obtain⟨m0,w3,rfl⟩:=Zb0 er;cases p0 with
       |cons n1 j3 =>
        obtain⟨pm,rfl,X⟩:=id n1;refine Z9 R ⟨_,R,.inl ⟨R,_,Zf.of g0⟩,_,R,l,_,0,_,R,R,Zf.of o1,WU (j:=0) R,pm,_,2,_,R,R,Zj.of X,R,_,R,_,R,_,R,by show 4<=sizeLine;lia,fun o0 y0=>?_⟩;dsimp only[Yv,ZZ,Oc];have o2:o0≠B:=fun z=>by rw[z,g0]at y0;cases y0
        obtain⟨gl,z2⟩:=b3 l i3;generalize f:upd x2 o0 _=n3;have i0:=ZW y0 f;have p2:=ZX f;clear f;refine⟨B,_,_,R,R,i0 _ _ g0,Sj hlen (by lia),?_⟩;have w2:=S9.trans i0;refine⟨⟨y.at_,YW (y.same w2).s (by rw[Zd (ZI f3 gf).symm];exact gf) _⟩,u++[.ref o0],_,_,_,Zg,?_,R⟩;rw[l1 _ er,Q8];show Al _ _ (_++(_++[_]));rw[<-Od];refine(t1.imp fun _ _=>R4.same (U7 (l:=B) i0)).snoc ⟨o0,l,_,R,ZT p2 o2,ZT (i0 _ _ o1) z2,?_,gl⟩;exact(Al.cons n1 j3).imp fun _ _ ⟨pm,y2,X⟩=>⟨pm,y2,ZT (i0 _ _ X) fun z=>by rw[z,g0]at X;cases X⟩
  ·rintro g Q ⟨y,u,S,U,M,c0,f0,rfl⟩
   refine⟨y.frz,y.thaw,u,_,_,_,_,by rw[Zd (Z4 c0 y.frz (by intro z;cases z))];exact c0,?_,R⟩;have:WR b e n (ZH W) c (j+1)=WR b e n (ZH W) c j++(ZH W).filterMap fun x=>Yk b e n x (c+j):=by
    unfold WR;rw[Oj,List.flatMap_append];show _++List.flatMap _ [j]=_;rw[List.flatMap_singleton]
   rw[this];rw[<-k3,List.take_length]at f0;exact f0.imp fun _ _ h=>h.keep fun a o J nf _=>by
    obtain⟨na,J⟩:=Yn J;exact ZT (by rw[Zd (Z4 J y.frz (nf _ _))];exact J) na
 ·rintro g H4 ⟨s4,u,v5,S,U,M,b1,G,rfl⟩
  rw[<-d2]at G;clear hold x0 x1 q1
  replace G:=G.imp fun _ _=>R4.same (Wx (l:=B))
  have lF:(WR b e n (ZH W) c E).length<64:=by
   have h1:=ZbZ (b:=b) (e:=e) (KF:=n) (TS:=ZH W) c E;have h5:E*(ZH W).length<=9*4:=Nat.mul_le_mul (by lia) T.len;lia
  generalize WR b e n (ZH W) c E=F at t0 G lF e1;have k1:=G.length;have gD:∀i r,F[i]? = some r->F.getD i ⟨Str.empty,0,[]⟩=r:=fun i r h=>by rw[List.getD_eq_getElem?_getD,h];rfl
  refine⟨_,R,B,u,fun i=>Uc (F.getD i ⟨Str.empty,0,[]⟩),[XM (.inl 0),XM (.inr []),XM (.inl 0)],1,R,Zf.of b1,by lia,fun i v ev=>?_,fun i _=>R,fun z=>(by cases z),fun i j hi hj ek=>?_,fun is l io gl=>?_⟩
  ·obtain⟨r,er,p,l,vs,rfl,h1,h2,h3,h4⟩:=G.get ev
   refine⟨p,[.int (LJ r.ms),.str r.nm,.int (r.day:Nat)],[.ref l],R,h1,?_,R⟩
   try dsimp only
   rw[gD i r er];exact .int _ (.str _ (.int _ .nil))
  ·have m1:i<F.length:=by lia
   have b2:j<F.length:=by lia
   have gi:=Ss m1;have gj:=Ss b2
   try dsimp only at ek
   rw[gD i _ gi,gD j _ gj]at ek;have:=ZbV T (t0.mem_iff.mp (Oi m1)) (t0.mem_iff.mp (Oi b2)) ek;exact(List.getElem_inj e1).mp this
  ·have hS:=ZbX t0 (kf:=fun i=>Uc (F.getD i ⟨Str.empty,0,[]⟩)) (fun i r O=>by rw[List.getD_eq_getElem?_getD,O];rfl) (by rw[<-k1];exact io)
   have q0:=TL G (is:=is) fun i hi=>by rw[<-k1];exact List.mem_range.mp (io.1.mem_iff.mp hi)
   have c3:is.length<64:=by rw[io.1.length_eq,List.length_range];lia
   generalize f:upd H4 l _=Q;have t5:=ZW gl f;have c5:=ZX f;clear f;have d3:(is.map fun i=>u.getD i .non).length<64:=by rw[Sv];exact c3
   generalize (is.map fun i=>u.getD i .non)=sv at q0 c5 d3;generalize (is.map fun i=>F.getD i ⟨Str.empty,0,[]⟩)=d0 at q0 hS;have lS:=q0.length;have m3:=q0.imp fun _ _=>R4.same t5;refine⟨l,R,⟨_,Zf.of c5⟩,Uj (K:=K) (a:=l) (xs:=sv) (fun i C g q=>Zc Q q/\Al (Xc H q) C (d0.take i)/\∃v0 v1 v2 v3:Option V,g=[v0,v1,v2,v3]) ⟨Zc.refl _,.nil,none,none,none,none,R⟩ (Sh (show _<=64 by lia) (by lia)) (fun i C g q _ ⟨s',_⟩=>Zf.of (s' _ _ c5)) ?_ ?_⟩
   ·rintro i v C g H6 ha hv ⟨Z,l0,v0,v1,v2,v3,rfl⟩
    obtain⟨r,er,p,l',vs,rfl,h1,h2,h3,h4⟩:=m3.get hv;refine⟨p,_,R,Zj.of (Z _ _ h1),R,_,_,R,_,_,R,_,_,R,_,_,R,R,?_⟩;dsimp only[Xw,VB];rw[SW R];refine⟨_,R,_,R,_,R,by show 3<=sizeLine;lia,fun I g7=>?_⟩;generalize f:upd H6 I _=D;have t7:=ZW g7 f;have c7:=ZX f;clear f;have s7:=Z.trans t7;refine⟨by rw[Su,Sw];lia,s7,?_,_,_,_,_,R⟩;rw[S0,er];exact(l0.imp fun _ _=>Xc.same t7).snoc ⟨I,l',vs,R,c7,s7 _ _ h2,h3.imp fun _ _=>Y8.same s7,h4⟩
   ·rintro C g H6 _ ⟨Z,l0,v0,v1,v2,v3,rfl⟩ l8 a0
    rw[SZ (by lia)]at l0;have S6:=(s4.trans t5).trans Z;refine e3 d0 l8 C _ hS (S6.trans (Zu a0 _)) (S6.free a0) Zg ?_;rw[Q8];exact l0.imp fun _ _=>Xc.same (Kj (Zc.refl H6) a0)
theorem ZkQ{KF:ZU}{TS:List Zr}(T:VP TS)(kf:Wq TS KF){x:Zr}(i:x∈TS){d:Nat}{ms:List (Str×Int×Int)}(h:Y2 x (KF x.nm d) d=some ms):ms.length=x.cs.length/\∀m∈ms,0<=m.2.2/\m.2.2<=1440*(d:Int)+3179:=by
 unfold Y2 at h
 split at h
 ·split at h
  ·cases h
  ·obtain rfl:=So h
   have j:=B7 (x:=x) (o:=KF x.nm d) fun g h=>(kf x i d g h).1;unfold Xz;refine⟨by rw[List.length_zipWith,j,Nat.min_self],fun m hm=>?_⟩;obtain⟨c,n,l,e,rfl⟩:=LK hm;have q:=T.rng x i c n;have u:l<=300:=by
    cases f:KF x.nm d with
    |none=>rw[f]at e;rw[List.eq_of_mem_replicate e];lia
    |some o=>cases o with
     |none=>rw[f]at e;rw[List.eq_of_mem_replicate e];lia
     |some g=>rw[f]at e;exact(kf x i d g f).2 l e
   show 0<=1440*(d:Int)+(l:Int)+((c.lv:Nat):Int)/\1440*(d:Int)+(l:Int)+((c.lv:Nat):Int)<=_;lia
 ·cases h
theorem TR{xs:List V}(h:0<xs.length)(m:Nat):∃(j:Nat) (hj:j<xs.length),Y6 xs ((m:Int)%((xs.length:Nat):Int))=some xs[j]:=by
 have c:=Oo m h;exact⟨_,c,by rw[<-SX];exact WU (Ss c)⟩
theorem Zb6{W:Z1}(e:Ub W)(h:v∈(W.tp.map Tp.nm).map V.str):∃x,v=.str x.nm/\ZY Zr.nm (ZH W) x.nm=some x:=by
 obtain⟨z,f,rfl⟩:=SJ.mp h;obtain⟨y,c,rfl⟩:=SJ.mp f;exact⟨Vs W y,R,Zb3 e c⟩
inductive ZkR(vs:List V)(H:Hp)(Q:VK)(_e3:XK):Prop|mk (wd g:Addr) (s0 M:Nat) (W:Z1) (kvs:List (List Zt×V)) (GF:ZU) (_:vs=[.ref wd,.ref g,.int s0,.int M]) (_:WA H wd W) (_:Ub W) (_:H g=some (.dT kvs)) (_:XD H kvs GF) (_:VP (ZH W)) (_:Wq (ZH W) GF) (_:s0<=9990) (_:∀(b e:Int) p H',Zc H H'->H' p=some (.tup [.int b,.int e])->0<=b->b<=e->e<=b+4320->e<14400000->Q (.ref p) H')
theorem Zb7(g:Zv K mg t):Zn P w K mg base Zo 13 t.kF t.kG ["_law_world_here","_law_gaps","_law_start","_law_number"] ZkR:=by
 refine g.RB.F.ok A8 (by lia) fun n0 A outer s H vs Q o0 T h=>?_;obtain⟨wd,p0,j,M,W,u0,U,rfl,hW,O,hg,gp,f0,kf,h9,h0⟩:=h;obtain⟨wk,dr,dp,rr,rp,e1,e2,e3,e4,e5,e6,e7,_⟩:=hW.ex;refine⟨_,(Zh (ZG 4 A8.nd (Ze Z2 (Ze VW Zb (Ze Z2 (pv 2) (Ze ZO (pv 3) Zb))) (Zs YL (Z5 (Zm Zb (Ze ZO (Ze Yt (pv 3) Zb) Zb))) (Ze ZO (Ze Yt (pv 3) Zb) Zb)))) (Zh (ZG 5 A8.nd (Ze Z2 (pv 4) (Zs YL (Z5 (M4 Zb Zb Zb Zb Zb)) (Ze ZO (Ze Yt (pv 3) Zb) Zb)))) (Zh (ZG 6 A8.nd (Yw (F7 R) R g.Wm Wj (Zk (YT T (pv 0) ZJ)))) (Zh (ZG 7 A8.nd (ZB g.Ry (ZbO g) T Zl (Wz (pv 0) (pv 1) (Zs YL (pv 6) (Ze ZO (Ze Yt (pv 3) Zb) (ZM XH g.Xr Xq (Zk (pv 6))))) (Ze Z2 (pv 2) (Ze ZO (Ze Yt (pv 3) Zb) Zb))))) (Zh (ZN (PW.pt (LO (UX (T7 (pv 7))) (LN (Yy Y4 (Ze ZO (Ze Yt (pv 3) Zb) Zb) Zb)))) (Zh (ZG 8 A8.nd (ZM (J0 R) g.G9 G6 (Zm Zb (Ze Ws (Ze Z2 (Zs ZF (Zs YL (pv 7) (Ze ZO (Ze Yt (pv 3) Zb) (ZM XH g.Xr Xq (Zk (pv 7))))) Zb) (Ze ZO (Ze Yt (pv 3) Zb) Zb)) Zb)))) (Zi (ZA (Zs YL (Z5 (Zm (Ym (Zm (pv 8) (Ze Ws (Ze Z2 (pv 8) (pv 5)) (pv 4)))) (Ym (Zm (ZM (J0 R) g.G9 G6 (Zm Zb (Ze Z2 (Ze Ws (pv 8) (pv 5)) (pv 4)))) (pv 8))))) (Ze ZO (Ze Yt (pv 3) Zb) Zb))))) ZP) (Zi (ZA (Ym (Zm (pv 4) (pv 5)))))))))),?_⟩;sleep 6;refine⟨_,R,_,R,_,_,R,R,(by show(0:Int)<6;lia),_,_,R,R,_,_,R,R,.inl ⟨by lia,by lia⟩,_,R,_,_,R,R,⟨by lia,by lia⟩,_,_,R,R,(by show(0:Int)<1440;lia),by show 2<=sizeLine;lia,fun p1 g1=>?_⟩;generalize c:upd H p1 _=H1;have s1:=ZW g1 c;have c1:=ZX c;clear c;obtain⟨_,es,u1,rfl,r0⟩:=QX (p:=fun v=>∃b:Nat,v=V.int (b:Nat)/\b<=1439) (xs:=[.int 0,.int ((M:Int)/6%1440)]) (d:=(M:Int)/7%2) (fun v f=>by
  simp only[SF,List.not_mem_nil,or_false]at f;rcases f with rfl|rfl
  ·exact⟨0,R,by lia⟩
  ·exact⟨M/6%1440,R,by lia⟩) (by lia) (by show(M:Int)/7%2<2;lia)
 refine⟨_,R,_,_,R,R,⟨by lia,by lia⟩,_,_,R,R,(by show(0:Int)<2;lia),p1,_,_,_,R,R,Zf.of c1,es,_,_,R,R,?_⟩;obtain⟨B,eB,B0,B9⟩:∃B:Int,1440*((j:Int)+(M:Int)%6)+(u1:Int)=B/\0<=B/\B<=14394239:=⟨_,R,by lia,by lia⟩;dsimp only;rw[eB];refine⟨_,R,by show 5<=sizeLine;lia,fun S g2=>?_⟩;generalize c:upd H1 S _=H2;have s2:=s1.trans (ZW g2 c);have c2:=ZX c;clear c;obtain⟨_,l0,u2,rfl,q0⟩:=QX (p:=fun v=>∃b:Nat,v=V.int (b:Nat)/\b<=2880) (xs:=[.int 0,.int 60,.int 600,.int 1440,.int 2880]) (d:=(M:Int)/11%5) (fun v f=>by
  simp only[SF,List.not_mem_nil,or_false]at f;rcases f with rfl|rfl|rfl|rfl|rfl
  ·exact⟨0,R,by lia⟩
  ·exact⟨60,R,by lia⟩
  ·exact⟨600,R,by lia⟩
  ·exact⟨1440,R,by lia⟩
  ·exact⟨2880,R,by lia⟩) (by lia) (by show(M:Int)/11%5<5;lia)
 refine⟨_,R,_,_,R,R,⟨by lia,by lia⟩,_,_,R,R,(by show(0:Int)<5;lia),S,_,_,_,R,R,Zf.of c2,l0,_,_,R,R,?_⟩;refine⟨_,R,wd,.ref dp,R,by rw[<-e3];exact Yr.k (k:=Sum.inr (OJ "trips")) (s2 _ _ e1),dp,rp,R,s2 _ _ e5,fun lt gt=>?_⟩;rw[LI (fun kv x (h:Xi H kv x)=>h.1) e7];generalize c:upd H2 lt _=H3;have y:=s2.trans (ZW gt c);have c3:=ZX c;clear c;have lT:0<((W.tp.map Tp.nm).map V.str).length:=by rw[Sv,Sv];exact O.p1
 obtain⟨t0,hj,ej⟩:=TR lT (M/13);obtain⟨x,ex,X⟩:=Zb6 O (Oi hj);rw[ex]at ej;have a0:=(Qh X).1;obtain⟨ru,hT,d0,_,l2,cs⟩:=hW.toT.trip O X;have e0:∀u,U x.nm (j+M/17%5)=some (some u)->u.length=x.cs.length:=fun u h=>(kf x a0 _ u h).1;refine⟨_,R,_,R,_,R,_,R,_,_,R,R,⟨by lia,by lia⟩,_,R,lt,_,R,.inl (Zf.of c3),_,_,R,R,(by show(0:Int)<(_:Nat);lia),lt,_,_,_,R,R,Zf.of c3,ej,_,R,_,R,_,_,R,R,⟨by lia,by lia⟩,_,_,R,R,(by show(0:Int)<5;lia),_,_,R,R,?_⟩;dsimp only[Yv,ZZ,Oc];refine Zb4 (day:=j+M/17%5) (hT.same y) d0 (y _ _ hg) (gp.same y) e0 fun v n s4 G=>?_;have S4:=y.trans s4;have last:∀(b e:Int) p i,Zc n i->i p=some (.tup [.int b,.int e])->0<=b->b<=e->e<=b+2880->e<14400000->Q (.ref p) i:=fun b e p i s5 E a1 a2 a3 a4=>h0 b e p i (S4.trans s5) E a1 a2 (by lia) a4;have plain:∀p,n p=none->Q (.ref p) (upd n p (.tup [.int B,.int (B+(u2:Int))])):=fun p gp=>last B _ p _ (Zu gp _) Zg B0 (by lia) (by lia) (by lia);generalize ho:Y2 x (U x.nm (j+M/17%5)) (j+M/17%5)=o at G;cases o with
 |none =>
  obtain rfl:v=.non:=G;exact⟨_,R,_,R,Zp (by lia) ⟨_,R,_,R,by show 2<=sizeLine;lia,fun p gp=>plain p gp⟩⟩
 |some ms =>
  obtain⟨l,mv,rfl,gl,hl,b0⟩:=G;obtain⟨m0,bd⟩:=ZkQ f0 kf a0 ho;have lm:=b0.length;refine⟨_,R,_,R,Z9 (by rw[SR (fun z=>(nomatch z))];rfl) ⟨_,R,_,_,R,R,⟨by lia,by lia⟩,_,_,R,R,(by show(0:Int)<2;lia),R,_,R,WF (fun _=>?_) (fun _=>?_)⟩⟩
  ·sleep 2;obtain⟨j2,j0,Z⟩:=TR (xs:=mv) (by lia) (M/23)
   obtain⟨m,em,pm,g0,c0⟩:=b0.get (Ss j0);rw[g0]at Z;obtain⟨b1,b2⟩:=bd m (SK em);refine⟨_,R,_,R,_,_,R,R,⟨by lia,by lia⟩,_,R,l,_,R,.inl (Zf.of hl),_,_,R,R,(by show(0:Int)<(_:Nat);lia),l,_,_,_,R,R,Zf.of hl,Z,pm,_,2,_,R,R,Zj.of c0,R,_,R,_,_,R,R,⟨by lia,by lia⟩,_,_,R,R,(by show(0:Int)<3;lia),_,_,R,R,_,_,R,R,_,_,R,?_⟩;obtain⟨L,eL,L0,L9⟩:∃L:Int,(if m.2.2+(M:Int)/29%3 - 1>0 then m.2.2+(M:Int)/29%3 - 1 else 0)=L/\0<=L/\L<=14395000:=⟨_,R,by split<;>omega,by split<;>omega⟩;dsimp only;rw[eL];refine⟨_,R,_,R,_,R,_,_,R,R,_,R,_,_,R,R,by show 2<=sizeLine;lia,fun D g5=>?_⟩;dsimp only[Yv,ZZ,Oc];generalize c:upd n D _=i;have s5:=ZW g5 c;have c5:=ZX c;clear c;refine⟨_,R,_,R,_,_,R,R,_,R,_,_,R,R,_,_,R,_,R,by show 2<=sizeLine;lia,fun q g6=>?_⟩;dsimp only[Yv,ZZ,Oc];generalize c:upd i q _=H6;have I:=ZW g6 c;have c6:=ZX c;clear c;refine⟨by show 2<=sizeLine;lia,fun Y g7=>?_⟩;generalize c:upd H6 Y _=J;have C:=ZW g7 c;have c7:=ZX c;clear c;obtain⟨_,i0,p,rfl,E⟩:=QX (p:=fun v=>∃p:Addr,v=V.ref p/\Q (.ref p) J) (xs:=[.ref D,.ref q]) (d:=(M:Int)/31%2) (fun v f=>by
    simp only[SF,List.not_mem_nil,or_false]at f;rcases f with rfl|rfl
    ·exact⟨D,R,last _ _ D J ((s5.trans I).trans C) (C _ _ (I _ _ c5)) L0 (by lia) (by lia) (by lia)⟩
    ·exact⟨q,R,last _ _ q J ((s5.trans I).trans C) (C _ _ c6) (by split<;>omega) (by split<;>omega) (by split<;>omega) (by lia)⟩) (by lia) (by show(M:Int)/31%2<2;lia)
   exact⟨_,R,_,_,R,R,⟨by lia,by lia⟩,_,_,R,R,(by show(0:Int)<2;lia),Y,_,_,_,R,R,Zf.of c7,i0,E⟩
  ·sleep 1;exact⟨_,R,_,R,by show 2<=sizeLine;lia,fun p gp=>plain p gp⟩
theorem ZkS{L:List (Str×V×Nat)}{cl:Ox}(f:Kk FN cl cs j H)(G:Qw (fun q:Str×V×Nat=>(q.1,q.2.2)∈FN/\j[q.2.2]? = some (some q.2.1)) L)(nd:(cl.map (·.2)).Nodup)
  (C:(scope.names.all fun p=>!(p.2 == .cell || p.2 == .free) || (cl.lookup p.1).isSome)=true) (E:Qw (fun x=>scope.names.lookup x=some .free) (L.map (·.1))):MP (L.map (·.1)) scope cl (L.map (·.2.1)) cs:=by
 refine⟨by rw[Sv,Sv],fun i x v n g=>?_,f.cell,fun x y c=>uD nd,fun x h=>?_,fun x h=>G1 E x h,fun b o e=>(f.free b o e).2⟩
 ·rw[Oa]at n g
  obtain⟨q,u,rfl⟩:=Of.mp n;rw[u]at g;cases g;obtain⟨m,e⟩:=G1 G q (SK u);exact f.val _ m _ e
 ·have q:∃k,scope.names.lookup x=some k/\(k=.cell\/k=.free):=h.elim (fun z=>⟨_,z,.inl R⟩) fun z=>⟨_,z,.inr R⟩
  obtain⟨k,B,I⟩:=q;have z:=Mr C B;have D:(cl.lookup x).isSome=true:=by
   rcases I with rfl|rfl
   ·simpa using z
   ·simpa using z
  exact Option.isSome_iff_exists.mp D
abbrev QM:Str:=(("_law_noted" : Str) ++ ".<locals>.") ++ "<lambda>"
theorem Yq.tab{c:Hp}{n:Addr}{b:NB}{TS:List Zr}{KF:ZU}{m:Nat}(k:∀a o,H a=some o->(∀i,o≠.tbl i)->c a=some o)(h:Yq t H n b TS KF m):Yq t c n b TS KF m:=by
 obtain⟨⟨f,fs,u,q⟩,ap,⟨rows,j,y⟩,⟨G,g,D,x⟩,⟨v,B,E,C⟩⟩:=h;refine⟨⟨f,fs,k _ _ u fun _ z=>(nomatch z),q⟩,ap,⟨rows,k _ _ j fun _ z=>(nomatch z),y.imp fun _ _=>YC.keep fun a o e _ nt _=>k a o e nt⟩,⟨G,k _ _ g fun _ z=>(nomatch z),D,x⟩,⟨v,k _ _ B fun _ z=>(nomatch z),E,fun z day=>?_⟩⟩;have:=C z day;revert this;cases KF z day with
 |none=>exact id
 |some o=>cases o with
  |none=>exact id
  |some I=>exact fun⟨l,e,h⟩=>⟨l,e,k _ _ h fun _ z=>(nomatch z)⟩
theorem Yq.more{n:Addr}{b:NB}{TS:List Zr}{KF:ZU}{m:Nat}(h:Yq t H n b TS KF m):Yq t H n b TS KF (m+1):=by
 obtain⟨o,ap,r,⟨u,c,j,f⟩,⟨e,g,q,i⟩⟩:=h;exact⟨o,ap,r,⟨u,c,Nat.le_succ_of_le j,f⟩,⟨e,g,Nat.le_succ_of_le q,i⟩⟩
theorem ZkT(h:Xh lt q H)(h1:H f=some (.dT k1))(c:H g=some (.dT k2)):Xh lt q (wo (wo H f) g) :=
 h.keep (fun i e=>ZT (ZT e (Z4 e h1 (fun z=>(nomatch z)))) (Z4 e c (fun z=>(nomatch z)))) fun a e=>ZT (ZT e (Z4 e h1 (fun z=>(nomatch z)))) (Z4 e c (fun z=>(nomatch z)))
def TU(TS:List Zr)(KF c:ZU):Prop:=∀x∈TS,∀day,(KF x.nm day=some none↔c x.nm day=some none)/\XB x (KF x.nm day)=XB x (c x.nm day)
theorem ZkU{TS:List Zr}{KF f:ZU}(h:TU TS KF f){x:Zr}(g:x∈TS)(day:Nat):Y2 x (KF x.nm day) day=Y2 x (f x.nm day) day:=by
 have:=h x g day;unfold Y2;by_cases c:KF x.nm day=some none
 ·rw[SW c,SW (this.1.mp c)]
 ·rw[SV c,SV (fun e=>c (this.1.mpr e)),this.2]
theorem XD.put(h:XD H c j)(E:H g=some (.dT c))(B:match o with|none=>v=.non|some f=>∃l,v=.ref l/\H l=some (.lst (f.map fun n=>V.int (n:Nat)))) :
  XD (upd H g (.dT (YB c (Yc day z) v))) (YB c (Yc day z) v) (XR j z day o):=fun q i=>by
 have keep:∀{p x},H p=some (.lst x)->∀u,upd H g u p=some (.lst x):=fun y u=>by rw[Zd (Z4 y E (by intro z;cases z))];exact y
 rw[MF];have D:=h q i;unfold XR;by_cases e:q=z/\i=day
 ·rw[SW e]
  rw[e.1,e.2,SW R];cases o with
  |none=>exact congrArg some B
  |some f=>obtain⟨l,rfl,C⟩:=B;exact⟨l,R,keep C _⟩
 ·rw[SV e,SV fun z=>e (B5 z)]
  revert D;cases j q i with
  |none=>exact id
  |some o=>cases o with
   |none=>exact id
   |some f=>exact fun⟨l,e,h⟩=>⟨l,e,keep h _⟩
structure Ud(TS:List Zr)(KF GF:ZU):Prop where
 kf:Wq TS KF
 gf:Wq TS GF
 ag:TU TS KF GF
theorem Ud.upd{TS:List Zr}{x:Zr}(h:Ud TS KF u)(nd:(TS.map Zr.nm).Nodup)(B:x∈TS)(q:∀z d,¬ (z=x.nm/\d=day)->j z d=KF z d/\n z d=u z d)(ag:(j x.nm day=some none↔n x.nm day=some none)/\XB x (j x.nm day)=XB x (n x.nm day))
  (C:∀f,j x.nm day=some (some f)->f.length=x.cs.length/\∀l∈f,l<=300) (v:∀f,n x.nm day=some (some f)->f.length=x.cs.length/\∀l∈f,l<=300):Ud TS j n:=by
 have one:∀y∈TS,y.nm=x.nm->y=x:=fun y g e=>So ((UR nd g).symm.trans (e ▸ UR nd B));refine⟨fun y g d f e=>?_,fun y g d f e=>?_,fun y g d=>?_⟩
 ·by_cases c:y.nm=x.nm/\d=day
  ·obtain⟨i,rfl⟩:=c;obtain rfl:=one y g i;exact C f e
  ·rw[(q _ _ c).1]at e;exact h.kf y g d f e
 ·by_cases c:y.nm=x.nm/\d=day
  ·obtain⟨i,rfl⟩:=c;obtain rfl:=one y g i;exact v f e
  ·rw[(q _ _ c).2]at e;exact h.gf y g d f e
 ·by_cases c:y.nm=x.nm/\d=day
  ·obtain⟨i,rfl⟩:=c;obtain rfl:=one y g i;exact ag
  ·rw[(q _ _ c).1,(q _ _ c).2];exact h.ag y g d
theorem Ur(KF:ZU)(z:Str)(day:Nat)(o:Option (List Nat)):XR KF z day o z day=some o:=SW ⟨R,R⟩
theorem Zb8(KF:ZU)(z:Str)(day:Nat):QH KF z day z day=none:=SW ⟨R,R⟩
theorem Zb9{x:Zr}(h:∀g,o=some (some g)->g.length=x.cs.length/\∀l∈g,l<=300)(i:c<=x.cs.length)(j:k<=300):(We x o c k).length=x.cs.length/\∀l∈We x o c k,l<=300:=by
 refine⟨ZbK (fun g e=>(h g e).1) k i,fun l f=>?_⟩;unfold We at f;rcases SG.mp f with f|f
 ·have f:=List.mem_of_mem_take f
  cases o with
  |none=>rw[List.eq_of_mem_replicate f];lia
  |some o=>cases o with
   |none=>rw[List.eq_of_mem_replicate f];lia
   |some g=>exact(h g R).2 l f
 ·rw[List.eq_of_mem_replicate f];exact j
def ZkV(H:Hp)(v:V):Option (List Nat)->Prop
 |none=>v=.non
 |some c=>∃l,v=.ref l/\H l=some (.lst (c.map fun n=>V.int (n:Nat)))
theorem TV{FN:List (Str×Nat)}{cl:Ox}{lt:Addr}{q:Str}{params:Arguments}{body:Expr}{J:St}{Q:VK}{L:List (Str×V×Nat)}{U:XK->TE}(i0:Xh lt q H)(hv:Qw (fun q:Str×V×Nat=>(q.1,q.2.2)∈FN/\J[q.2.2]? = some (some q.2.1)) L)(nd:(cl.map (·.2)).Nodup)
  (a0:(scope.names.all fun p=>!(p.2 == .cell || p.2 == .free) || (cl.lookup p.1).isSome)=true) (e0:Qw (fun x=>scope.names.lookup x=some .free) (L.map (·.1))) (f0:scope.isCoroutine=false) (b0:scope.isGenerator=false) (hk:scope.kind=.function) (d0:∀x∈scope.names,x.2≠.cell)
  (hb:∀pm n G,bindArgs (W.kla_fn "<lambda>" q params body scope cl pm (.ref n) G) ⟨[],[]⟩=pure [])
  (g0:∀(f n:Addr) (g:Hp) (A:Around) (outer:List Env) (s:Shared) (E:XK),Yb 19 (A.deeper (W.envX q scope s.heap.objs.size f (.ref n) cl))->PE (A1 (Xo P w) P w K mg base (L.map (·.1)) q scope cl f (.ref n) A outer s g E) body (U E))
  (h:∀g,Zc (wo H lt) g->Xh lt q g->∃told ref:Hp->Prop,(∀(D:VK) (O:XK),(∀c,told c->D .non c)->(∀(i:Wn) c,ref c->O (.ref (i.cls t)) none c)->U O ((L.map (·.2.1)).map some) g D)/\(∀c u p,told c->Zc c u->u p=some (.tup [.str (OJ "told"),.non])->Q (.ref p) u)/\∀(i:Wn) c u,ref c->Zc c u->Q (.str i.txt) u) :
  MT (ZbQ t P w K mg base) FN cl (MR lt mg q params body scope cl pos) J H Q:=by
 dsimp only[MT];refine Zgs i0 ?_;intro f n G g s2 c0 M I cs C;have T:∀b o,cs b=some o->g b=none:=fun b o e=>(C.free b o e).1;have X:∀{a o},g a=some o->cs a=none:=fun{a o} e=>by
  cases z:cs a with
  |none=>rfl
  |some ob=>rw[T a ob z]at e;cases e
 obtain⟨told,ref,Y,Z,h2⟩:=h g s2 c0;have calls:=ZfP (P:=P) (w:=w) (K:=K) (mg:=mg) (base:=base) (k:=19) (H:=lent cs g) (by rw[Xx (X M)];exact M) (by rw[Xx (X I)];exact I) f0 b0 hk d0 (hb _ _ _) (ZkS C hv nd a0 e0) (fun b o e=>A0 e) (fun A outer s E hr=>g0 f n _ A outer s E hr);rw[Zgt T]at calls;refine⟨f,_,fun v y=>∃c,y=lent cs c/\(∀b o,cs b=some o->c b=none)/\v=.non/\told c,fun i y=>∃c,y=lent cs c/\(∀b o,cs b=some o->c b=none)/\ref c,R,calls,fun Q1 E1 a1 a2=>Y _ _ (fun c h j=>a1 _ _ ⟨c,R,j,R,h⟩) fun i c h j=>a2 i _ ⟨c,R,j,h⟩,?_,?_⟩
 ·rintro v y H3 p ⟨c,rfl,j,rfl,h⟩ B S
  have cp:cs p=none:=by
   cases z:cs p with
   |none=>rfl
   |some o=>have:=B p _ (A0 z);rw[S]at this;cases this
  exact Z c _ p h (uC j B) (by rw[WY cp];exact S)
 ·rintro i y H3 ⟨c,rfl,j,h⟩ B
  exact h2 _ c _ h (uC j B)
theorem TW(h:H p=some (.tup [.str (OJ "told"),.non])):DV K H (.ref p) (.tuple [.str (OJ "told"),.none]):=.tup (Zj.of h) (.cons (.str _ (by lia)) (.cons .non .nil))
def XS(H f:Hp):Prop:=∀a o,H a=some o->(∀c,o≠.dT c)->(∀e,o≠.tbl e)->f a=some o
theorem XS.of(s:Zc H c):XS H c:=fun a o e _ _=>s a o e
theorem XS.trans(a:XS H f)(b:XS f g):XS H g:=fun c o e i h=>b c o (a c o e i h) i h
theorem Yq.keepE{c:Hp}{n:Addr}{b:NB}{TS:List Zr}{KF:ZU}{m:Nat}(k:XS H c)(G:c b.dk=H b.dk)(B:c b.dl=H b.dl)(h:Yq t H n b TS KF m):Yq t c n b TS KF m:=by
 obtain⟨⟨f,fs,q,j⟩,ap,⟨rows,i,x⟩,⟨I,g,D,v⟩,⟨u,y,E,C⟩⟩:=h;refine⟨⟨f,fs,k _ _ q (fun _ z=>(nomatch z)) fun _ z=>(nomatch z),j⟩,ap,⟨rows,k _ _ i (fun _ z=>(nomatch z)) fun _ z=>(nomatch z),x.imp fun _ _=>YC.keep fun a o e nd nt _=>k a o e nd nt⟩,⟨I,G.trans g,D,v⟩,⟨u,B.trans y,E,fun z day=>?_⟩⟩;have:=C z day;revert this;cases KF z day with
 |none=>exact id
 |some o=>cases o with
  |none=>exact id
  |some J=>exact fun⟨l,e,h⟩=>⟨l,e,k _ _ h (fun _ z=>(nomatch z)) fun _ z=>(nomatch z)⟩
def UU(t:Yd)(g:Hp)(n:Addr)(b:NB)(TS:List Zr)(KF:ZU)(m:Nat)(f:ZU)(e:V)(c:Hp):Prop:=Zc (wo (wo (wo g b.dk) b.dl) t.Y7) c/\Xh t.Y7 QM c/\((∃h:Wn,e=.str h.txt/\Yq t c n b TS KF m)\/∃p,e=.ref p/\c p=some (.tup [.str (OJ "told"),.non])/\Yq t c n b TS f (m+1))
theorem UU.same{f j g:Hp}{n:Addr}{b:NB}{TS:List Zr}{KF c:ZU}{m:Nat}{i:V}(h:UU t f n b TS KF m c i j)(s:Zc j g):UU t f n b TS KF m c i g:=by
 obtain⟨q,v,u⟩:=h;refine⟨q.trans s,v.same s,?_⟩;rcases u with⟨z,e,h⟩|⟨p,e,x,h⟩
 ·exact .inl ⟨z,e,h.same s⟩
 ·exact .inr ⟨p,e,s _ _ x,h.same s⟩
theorem TX{q c g h:Hp}{n p:Addr}{b:NB}{TS:List Zr}{KF j:ZU}{m:Nat}(i:Yq t c n b TS KF m)(s2:Zc (wo q t.Y7) c)(tl:Xh t.Y7 QM c)(s':Zc (wo (wo c b.dk) b.dl) g)(f:Zc g h)(x:Yq t g n b TS j (m+1))(B:h p=some (.tup [.str (OJ "told"),.non])):UU t q n b TS KF m j (.ref p) h:=by
 obtain⟨G,C,_⟩:=i.tk;obtain⟨E,D,_⟩:=i.lt;refine⟨fun a o e=>?_,(ZkT tl C D).same (s'.trans f),.inr ⟨p,R,B,x.same f⟩⟩;obtain⟨v,e⟩:=Yn e;obtain⟨y,e⟩:=Yn e;obtain⟨u,e⟩:=Yn e;exact f _ _ (s' _ _ (ZT (ZT (s2 _ _ (ZT e v)) u) y))
theorem TY{f c g:Hp}{n:Addr}{b:NB}{TS:List Zr}{KF i:ZU}{m:Nat}(h:Yq t c n b TS KF m)(s2:Zc (wo f t.Y7) c)(tl:Xh t.Y7 QM c)(s':Zc c g)(z:Wn):UU t f n b TS KF m i (.str z.txt) g:=by
 refine⟨fun a o e=>?_,tl.same s',.inl ⟨z,R,h.same s'⟩⟩;obtain⟨j,e⟩:=Yn e;obtain⟨u,e⟩:=Yn e;obtain⟨q,e⟩:=Yn e;exact s' _ _ (s2 _ _ (ZT e j))
inductive ZkW(t:Yd)(vs:List V)(H:Hp)(Q:VK)(_e3:XK):Prop|mk (n wd g:Addr) (b:NB) (W:Z1) (KF GF:ZU) (m day M:Nat) (x:Zr) (kvs:List (List Zt×V)) (_:vs=[.ref n,.ref wd,.ref g,.str x.nm,.int day,.int M]) (_:Yq t H n b (ZH W) KF m) (_:m<1000) (_:WA H wd W) (_:Ub W) (_:ZY Zr.nm (ZH W) x.nm=some x) (_:day<=9999) (_:H g=some (.dT kvs)) (_:kvs.length<=m) (_:XD H kvs GF) (_:Ud (ZH W) KF GF) (_:Xh t.Y7 QM H) (_:g≠b.dk) (_:g≠b.dl) (_:∀KF' GF' kvs' H',Zc (wo (wo (wo (wo H b.dk) b.dl) t.Y7) g) H'->Xh t.Y7 QM H'->Yq t H' n b (ZH W) KF' (m+1)->H' g=some (.dT kvs')->kvs'.length<=m+1->XD H' kvs' GF'->Ud (ZH W) KF' GF'->Q .non H')
theorem ZkX(j:Zv K mg t)(q0:W.CodeHd base t.G8 t.Y7)(o0:BM mg base):Zn P w K mg base Zo 24 t.kH t.PL ["_law_notices","_law_world_here","_law_gaps","_law_trip","_law_day","_law_mixed_here"] (ZkW t):=by
 refine j.ZaK.F.okC Uo (by lia) fun j2 A outer s a2 vs y1 l0 t0 B h=>?_;obtain⟨n,O,g,b,W,q,G,m,day,M,x,T,rfl,hN,m1,hW,v1,hx,d9,hg,lk,gp,told,a0,g1,g2,h1⟩:=h;obtain⟨ru,hT,Z,_,l2,cs⟩:=hW.toT.trip v1 hx;obtain⟨wk,dr,dp,rr,rp,r,lc,p2,v0,tp,e1,e2,e3,e4,e5,e6,e7,e8,e9,k2,o2⟩:=hT.ex;have b0:=(Qh hx).1;have nd:((ZH W).map Zr.nm).Nodup:=by unfold ZH;rw[Oe];exact v1.pn
 have c2:=e9.length;refine⟨_,(Zh (ZG 6 Uo.nd (ZM XH j.Xr Xq (Zk (Zs ZF (YT B (YT B (pv 1) ZJ) (pv 3)) Zb)))) (Zh (ZG 7 Uo.nd (Ze ZO (Ze Yt (pv 5) Zb) (pv 6))) (Zh (ZG 8 Uo.nd (Zs YL (Z5 (Ys Zb Zb (Ze ZO (Ze Yt (pv 5) Zb) Zb))) (Ze ZO (Ze Yt (pv 5) Zb) Zb))) (Vh (ZN (Yy Y4 (Ze ZO (pv 5) Zb) Zb) (Vh (ZG 9 Uo.nd (MU (FN:=[(OJ "_law_trip",3),(OJ "_law_day",4),(OJ "_law_notices",0)]) (cl:=[(OJ "_law_trip",s.heap.objs.size+2),(OJ "_law_notices",s.heap.objs.size+1),(OJ "_law_day",s.heap.objs.size+3)]) (TK j) (B.mono (by lia)) R j.Uq.m j.Uq.F.kp j.Uq.b (fun _=>R) ⟨R,⟨R,⟨R,trivial⟩⟩⟩ (MV ⟨⟨R,R,_,R,R⟩,⟨R,R,_,R,R⟩,⟨R,R,_,R,R⟩,trivial⟩) (MS (cl:=[(OJ "_law_trip",s.heap.objs.size+2),(OJ "_law_notices",s.heap.objs.size+1),(OJ "_law_day",s.heap.objs.size+3)]) (t0.symm.trans j.Tn) q0 o0 R R))) (Zi (ZG 10 Uo.nd Ue))) (Zi (ZN (Yy Y4 (Ze ZO (pv 5) Zb) Zb) (Vh (ZG 9 Uo.nd (MU (FN:=[(OJ "_law_trip",3),(OJ "_law_day",4),(OJ "_law_notices",0)]) (cl:=[(OJ "_law_trip",s.heap.objs.size+2),(OJ "_law_notices",s.heap.objs.size+1),(OJ "_law_day",s.heap.objs.size+3)]) (TK j) (B.mono (by lia)) R j.Uq.m j.Uq.F.kp j.Uq.b (fun _=>R) ⟨R,⟨R,⟨R,trivial⟩⟩⟩ (MV ⟨⟨R,R,_,R,R⟩,⟨R,R,_,R,R⟩,⟨R,R,_,R,R⟩,trivial⟩) (MS (cl:=[(OJ "_law_trip",s.heap.objs.size+2),(OJ "_law_notices",s.heap.objs.size+1),(OJ "_law_day",s.heap.objs.size+3)]) (t0.symm.trans j.Tn) q0 o0 R R))) (Zi (ZG 10 Uo.nd (Ze Xd (Z5 (Zk Zb)) (pv 6))))) (Vh (ZG 9 Uo.nd (MU (FN:=[(OJ "_law_trip",3),(OJ "_law_day",4),(OJ "_law_call",7),(OJ "_law_minutes",8),(OJ "_law_notices",0)]) (cl:=[(OJ "_law_trip",s.heap.objs.size+2),(OJ "_law_notices",s.heap.objs.size+1),(OJ "_law_minutes",s.heap.objs.size+5),(OJ "_law_day",s.heap.objs.size+3),(OJ "_law_call",s.heap.objs.size+4)]) (TK j) (B.mono (by lia)) R j.Uq.m j.Uq.F.kp j.Uq.b (fun _=>R) ⟨R,⟨R,⟨R,⟨R,⟨R,trivial⟩⟩⟩⟩⟩ (MV ⟨⟨R,R,_,R,R⟩,⟨R,R,_,R,R⟩,⟨R,R,_,R,R⟩,⟨R,R,_,R,R⟩,⟨R,R,_,R,R⟩,trivial⟩) (MS (cl:=[(OJ "_law_trip",s.heap.objs.size+2),(OJ "_law_notices",s.heap.objs.size+1),(OJ "_law_minutes",s.heap.objs.size+5),(OJ "_law_day",s.heap.objs.size+3),(OJ "_law_call",s.heap.objs.size+4)]) (t0.symm.trans j.Tn) q0 o0 R R))) (Zi (ZG 10 Uo.nd (Ze XU (Qq D7 (wY (MJ (Xn B) (pv 2) (Ym (Zm (pv 4) (pv 3))) Ue ⟨R,R,R,R⟩) (Vb (Ze Xd (Z5 (Zk Zb)) (pv 6)))) QU (Uy (pv 7))) (Ze Xd (Z5 (Zk (pv 8))) (Ze Ws (pv 6) (pv 7)))))))))) (Zi (ZN (Yy (xE B.units) (pv 9) (Ym (Zm ZJ Ue))) (Zi (VE (Xn B) (pv 2) (Ym (Zm (pv 4) (pv 3))) (pv 10) R)) ZP)))))),?_⟩;sleep 4;refine⟨_,R,O,.ref dp,R,by rw[<-e3];exact Yr.k (k:=Sum.inr (OJ "trips")) e1,_,R,dp,.ref r,R,.inl ⟨rp,Sum.inr x.nm,e5,R,e6.symm⟩,r,_,1,_,R,R,Zj.of e7,R,lc,_,R,.inl (Zf.of e8),?_⟩;dsimp only;rw[c2];refine⟨_,R,_,_,R,R,⟨by lia,by lia⟩,_,R,_,_,R,R,(by show(0:Int)<(_:Nat);lia),?_⟩;obtain⟨c,ec,hc⟩:∃c:Nat,(M:Int)/4%((x.cs.length:Nat):Int)=((c:Nat):Int)/\c<x.cs.length:=⟨M/4%x.cs.length,R,Oo _ (by lia)⟩;dsimp only;rw[ec];refine⟨_,R,_,_,R,R,⟨by lia,by lia⟩,_,_,R,R,(by show(0:Int)<301;lia),by show 3<=sizeLine;lia,fun p1 y0=>?_⟩;generalize i:upd a2 p1 _=S;have s1:=ZW y0 i;have c1:=ZX i;clear i;obtain⟨_,es,k,rfl,Y⟩:=QX (p:=fun v0=>∃b:Nat,v0=V.int (b:Nat)/\b<=300) (xs:=[.int 300,.int 0,.int ((M:Int)/20%301)]) (d:=(M:Int)/5%3) (fun v0 hv=>by
  simp only[SF,List.not_mem_nil,or_false]at hv;rcases hv with rfl|rfl|rfl
  ·exact⟨300,R,by lia⟩
  ·exact⟨0,R,by lia⟩
  ·exact⟨M/20%301,R,by lia⟩) (by lia) (by show(M:Int)/5%3<3;lia)
 refine⟨_,R,_,_,R,R,⟨by lia,by lia⟩,_,_,R,R,(by show(0:Int)<3;lia),p1,_,_,_,R,R,Zf.of c1,es,?_⟩
 replace hN:=hN.same s1
 replace hg:=s1 _ _ hg
 replace gp:=gp.same s1
 replace a0:=a0.same s1
 have d1:∀Q j0 d0 f,Zc (wo (wo (wo (wo S b.dk) b.dl) t.Y7) g) f->Xh t.Y7 QM f->Yq t f n b (ZH W) Q (m+1)->f g=some (.dT d0)->d0.length<=m+1->XD f d0 j0->Ud (ZH W) Q j0->y1 .non f:=fun Q j0 d0 f y=>h1 Q j0 d0 f fun a o e=>by
  obtain⟨n1,e⟩:=Yn e;obtain⟨v,e⟩:=Yn e;obtain⟨n3,e⟩:=Yn e;obtain⟨n4,e⟩:=Yn e;exact y _ _ (ZT (ZT (ZT (ZT (s1 _ _ e) n4) n3) v) n1)
 clear h1 c1 es y0;obtain⟨m2,r0⟩:=a0.at;have up:∀{H2},Zc (wo S t.Y7) H2->Yq t H2 n b (ZH W) q m:=fun s2=>hN.tab fun a o e ne=>s2 _ _ (Ul r0 e ne);have n0:∀(o:Option (List Nat)) z d,¬ (z=x.nm/\d=day)->XR G x.nm day o z d=G z d:=fun o z d h=>SV h;have w1:∀(o:Option (List Nat)) z d,¬ (z=x.nm/\d=day)->XR q x.nm day o z d=q z d:=fun o z d h=>SV h;have z0:∀{H3},Zc (wo (wo (wo S b.dk) b.dl) t.Y7) H3->H3 g=some (.dT T)/\XD H3 T G:=fun I=>by
  obtain⟨kk,l1,_⟩:=hN.tk;obtain⟨kl,x0,_⟩:=hN.lt;exact⟨I _ _ (ZT (ZT (ZT hg g1) g2) (Z4 hg r0 (by intro z;cases z))),gp.keep fun l xs e=>I _ _ (ZT (ZT (ZT e (Z4 e l1 (by intro z;cases z))) (Z4 e x0 (by intro z;cases z))) (Z4 e r0 (by intro z;cases z)))⟩
 have b1:=told.kf x b0 day;have w0:=told.gf x b0 day;refine⟨fun D f=>∃(u fr:V) (fo:Option (List Nat)) (Q:ZU),UU t S n b (ZH W) q m Q u f/\ZkV f fr fo/\Ud (ZH W) Q (XR G x.nm day fo)/\D=[some (.ref n),some (.ref O),some (.ref g),some (.str x.nm),some (.int day),some (.int M),some (.int (x.cs.length:Nat)),some (.int c),some (.int k),some u,some fr],?_,?_⟩
 ·sleep 1;refine⟨_,R,_,_,R,R,(by show(0:Int)<4;lia),R,_,R,WF (fun _=>?_) (fun _=>?_)⟩
  ·sleep 1;refine⟨fun D f=>∃u,UU t S n b (ZH W) q m (XR q x.nm day none) u f/\D=[some (.ref n),some (.ref O),some (.ref g),some (.str x.nm),some (.int day),some (.int M),some (.int (x.cs.length:Nat)),some (.int c),some (.int k),some u,none],?_,?_⟩
   ·refine TV (L:=[("_law_notices",.ref n,0),("_law_trip",.str x.nm,3),("_law_day",.int day,4)]) a0 ⟨⟨.tail _ (.tail _ (.head _)),R⟩,⟨.head _,R⟩,⟨.tail _ (.head _),R⟩,trivial⟩ (by simp) R ⟨R,R,R,trivial⟩ R R R (by lia) (fun _ _ _=>R) (fun j1 c' H2 A outer s l0 B=>(YY (pv 0) j.YK j.Tb.me (Zkl j) (B.mono (by lia)) j.Tb.b .nil MO (YM (pv 1) (YM (pv 2) Xl)))) fun H2 s2 J=>?_
    have v:=up s2;obtain⟨dx,fs,f1,f2⟩:=v.ob;exact⟨fun f=>Zc (wo (wo H2 b.dk) b.dl) f/\Yq t f n b (ZH W) (XR q x.nm day none) (m+1),fun f=>Zc H2 f,fun Qe Ee q1 q2=>⟨_,R,n,dx,_,R,f1,f2.n_out,_,R,_,R,n,b,ZH W,q,m,x.nm,day,x,R,v,m1,hx,d9,Z.r,fun _ f y=>q2 .run f y,fun _ f y c0=>q1 f ⟨y,c0⟩⟩,fun f h0 p h E X=>⟨_,TX v s2 J h.1 E h.2 X,R⟩,fun z f h0 h E=>⟨_,TY v s2 J (h.trans E) z,R⟩⟩
   ·rintro D H3 ⟨u,hJ,rfl⟩
    sleep 1;refine⟨u,.non,none,_,hJ,R,told.upd nd b0 (fun z d h=>⟨w1 _ z d h,n0 _ z d h⟩) ?_ (fun H e=>?_) (fun H e=>?_),R⟩
    ·rw[Ur,Ur];exact⟨Iff.rfl,R⟩
    ·rw[Ur]at e;cases e
    ·rw[Ur]at e;cases e
  ·sleep 1;refine⟨_,R,_,_,R,R,(by show(0:Int)<4;lia),R,_,R,WF (fun _=>?_) (fun _=>?_)⟩
   ·sleep 1;refine⟨fun D f=>∃u,UU t S n b (ZH W) q m (QH q x.nm day) u f/\D=[some (.ref n),some (.ref O),some (.ref g),some (.str x.nm),some (.int day),some (.int M),some (.int (x.cs.length:Nat)),some (.int c),some (.int k),some u,none],?_,?_⟩
    ·refine TV (L:=[("_law_notices",.ref n,0),("_law_trip",.str x.nm,3),("_law_day",.int day,4)]) a0 ⟨⟨.tail _ (.tail _ (.head _)),R⟩,⟨.head _,R⟩,⟨.tail _ (.head _),R⟩,trivial⟩ (by simp) R ⟨R,R,R,trivial⟩ R R R (by lia) (fun _ _ _=>R) (fun j1 c' H2 A outer s l0 B=>(YY (pv 0) j.YK j.Tc.me (Zkn j) (B.mono (by lia)) j.Tc.b .nil MO (YM (pv 1) (YM (pv 2) Xl)))) fun H2 s2 J=>?_
     have v:=up s2;obtain⟨dx,fs,f1,f2⟩:=v.ob;exact⟨fun f=>Zc (wo (wo H2 b.dk) b.dl) f/\Yq t f n b (ZH W) (QH q x.nm day) m,fun f=>Zc H2 f,fun Qe Ee q1 q2=>⟨_,R,n,dx,_,R,f1,f2.n_back,_,R,_,R,n,b,ZH W,q,m,x.nm,day,x,R,v,hx,d9,Z.r,fun _ f y=>q2 .run f y,fun _ f y c0=>q1 f ⟨y,c0⟩⟩,fun f h0 p h E X=>⟨_,TX v s2 J h.1 E h.2.more X,R⟩,fun z f h0 h E=>⟨_,TY v s2 J (h.trans E) z,R⟩⟩
    ·rintro D H3 ⟨u,hJ,rfl⟩
     sleep 1;refine⟨by show 1<=sizeLine;lia,fun p0 g0=>?_⟩;generalize i:upd H3 p0 _=H4;have C:=ZW g0 i;have c4:=ZX i;clear i;refine⟨_,R,p0,((x.cs.length:Nat):Int),_,R,R,c4,by lia,by have:=Z.len;lia,by show 1*_<=sizeLine;exact Sh (show _<=6 by have:=Z.len;lia) (by lia),fun pr gr=>?_⟩;rw[show(List.replicate ((x.cs.length:Nat):Int).toNat [V.int 0]).flatten=(List.replicate x.cs.length 0).map fun n:Nat=>V.int (n:Nat)from B6 _ 0];refine⟨u,.ref pr,some (List.replicate x.cs.length 0),_,(hJ.same C).same (Zu gr _),⟨pr,R,Zg⟩,told.upd nd b0 (fun z d h=>⟨SV h,n0 _ z d h⟩) ?_ (fun H e=>?_) (fun H e=>?_),R⟩
     ·rw[Ur,Zb8];exact⟨⟨fun z=>(nomatch z),fun z=>(nomatch z)⟩,R⟩
     ·rw[Zb8]at e;cases e
     ·rw[Ur]at e;cases e;exact⟨Sz,fun l hl=>by rw[List.eq_of_mem_replicate hl];lia⟩
   ·sleep 1;refine⟨fun D f=>∃u,UU t S n b (ZH W) q m (XR q x.nm day (some (We x (q x.nm day) c k))) u f/\D=[some (.ref n),some (.ref O),some (.ref g),some (.str x.nm),some (.int day),some (.int M),some (.int (x.cs.length:Nat)),some (.int c),some (.int k),some u,none],?_,?_⟩
    ·refine TV (L:=[("_law_notices",.ref n,0),("_law_trip",.str x.nm,3),("_law_day",.int day,4),("_law_call",.int c,7),("_law_minutes",.int k,8)]) a0 ⟨⟨.tail _ (.tail _ (.tail _ (.tail _ (.head _)))),R⟩,⟨.head _,R⟩,⟨.tail _ (.head _),R⟩,⟨.tail _ (.tail _ (.head _)),R⟩,⟨.tail _ (.tail _ (.tail _ (.head _))),R⟩,trivial⟩ (by simp) R ⟨R,R,R,R,R,trivial⟩ R R R (by lia) (fun _ _ _=>R) (fun j1 c' H2 A outer s l0 B=>(YY (pv 0) j.YK j.Ta.me (Zkj j) (B.mono (by lia)) j.Ta.b .nil MO (YM (pv 1) (YM (pv 2) (YM (pv 3) (YM (pv 4) Xl)))))) fun H2 s2 J=>?_
     have v:=up s2;obtain⟨dx,fs,f1,f2⟩:=v.ob;exact⟨fun f=>Zc (wo (wo H2 b.dk) b.dl) f/\Yq t f n b (ZH W) (XR q x.nm day (some (We x (q x.nm day) c k))) (m+1),fun f=>Zc H2 f,fun Qe Ee q1 q2=>⟨_,R,n,dx,_,R,f1,f2.n_late,_,R,_,R,_,R,_,R,n,b,ZH W,q,m,x.nm,day,c,k,x,R,v,m1,hx,d9,Z,fun H h=>(b1 H h).1,hc,Y,fun _ f y=>q2 .run f y,fun _ _ f y=>q2 .calls f y,fun _ _ f y c0=>q1 f ⟨y,c0⟩⟩,fun f h0 p h E X=>⟨_,TX v s2 J h.1 E h.2 X,R⟩,fun z f h0 h E=>⟨_,TY v s2 J (h.trans E) z,R⟩⟩
    ·rintro D H3 ⟨u,hJ,rfl⟩
     sleep 1;obtain⟨i1,h2⟩:=z0 hJ.1;have l6:=Z.len;refine⟨_,R,g,R,.inr ⟨T,.inl i1⟩,_,R,_,R,by show 2<=sizeLine;lia,fun pk gk=>?_⟩;generalize i:upd H3 pk _=H4;have C:=ZW gk i;have c4:=ZX i;clear i;refine⟨_,Yr.t (k:=Yc day x.nm) (C _ _ i1) c4,?_⟩;have d2:=h2.same C x.nm day;have t1:((Zz T (Yc day x.nm)).getD .non=.non/\List.replicate x.cs.length 0=XB x (G x.nm day))\/∃U:Addr,(Zz T (Yc day x.nm)).getD .non=.ref U/\H4 U=some (.lst ((XB x (G x.nm day)).map fun n:Nat=>V.int (n:Nat))):=by
      revert d2;cases G x.nm day with
      |none=>exact fun Y=>.inl ⟨by rw[Y];rfl,R⟩
      |some o=>cases o with
       |none=>exact fun Y=>.inl ⟨by rw[Y];rfl,R⟩
       |some H=>exact fun⟨U,e,h⟩=>.inr ⟨U,by rw[e];rfl,h⟩
     have lm:=B7 fun H h=>(w0 H h).1;have nw:Ud (ZH W) (XR q x.nm day (some (We x (q x.nm day) c k))) (XR G x.nm day (some (We x (G x.nm day) c k))):=by
      refine told.upd nd b0 (fun z d h=>⟨w1 _ z d h,n0 _ z d h⟩) ?_ (fun H e=>?_) (fun H e=>?_)
      ·rw[Ur,Ur]
       refine⟨⟨fun z=>(nomatch z),fun z=>(nomatch z)⟩,?_⟩;show We x _ c k=We x _ c k;unfold We;rw[(told.ag x b0 day).2]
      ·rw[Ur]at e;cases e;exact Zb9 b1 (Nat.le_of_lt hc) Y
      ·rw[Ur]at e;cases e;exact Zb9 w0 (Nat.le_of_lt hc) Y
     unfold We at nw;generalize XB x (G x.nm day)=LS at t1 lm nw;have b2:((LS.take c).map fun n:Nat=>V.int (n:Nat)).length+((List.replicate (x.cs.length - c) k).map fun n:Nat=>V.int (n:Nat)).length<=sizeLine:=by rw[Sv,Sv,Sx,Sz];exact Sh (show _<=6 by lia) (by lia)
     rcases t1 with⟨e0,eL⟩|⟨U,e0,m0⟩<;>rw[e0]
     case' inl =>
      refine⟨false,R,Zp (by lia) ⟨by show 1<=sizeLine;lia,fun p0 g0=>?_⟩⟩;generalize i:upd H4 p0 _=H5;have s5:=C.trans (ZW g0 i);have c5:=ZX i;clear i;refine⟨_,R,p0,((x.cs.length:Nat):Int),_,R,R,c5,by lia,by lia,by show 1*_<=sizeLine;exact Sh (show _<=6 by lia) (by lia),fun U gr=>?_⟩;rw[show(List.replicate ((x.cs.length:Nat):Int).toNat [V.int 0]).flatten=LS.map fun n:Nat=>V.int (n:Nat)from eL ▸ B6 _ 0];generalize i:upd H5 U _=H6;have s6:=s5.trans (ZW gr i);have m0:=ZX i;clear i
     case' inr =>
      refine⟨_,.inl ⟨_,Zf.of m0,R⟩,?_⟩;have s6:=C;cases LS with
      |nil=>exact Oq lm (by show ¬ 0=_;lia)
      |cons i2 ys=>?_
      refine Z9 R ?_
     all_goals
      refine⟨_,R,_,R,U,_,R,Zf.of m0,fun l3 g3=>?_⟩;rw[show WE (List.map (fun n:Nat=>V.int (n:Nat)) _) none (some (c:Int))=((List.take c _).map fun n:Nat=>V.int (n:Nat))from by rw[ZbL,List.map_take]];generalize i:upd _ l3 _=H7;have s7:=s6.trans (ZW g3 i);have c7:=ZX i;clear i;refine⟨_,R,by show 1<=sizeLine;lia,fun p4 g4=>?_⟩;generalize i:upd H7 p4 _=H8;have s8:=ZW g4 i;have c8:=ZX i;clear i;refine⟨_,R,_,R,_,_,R,R,p4,((x.cs.length:Nat):Int) - (c:Int),_,R,R,c8,by lia,by lia,by show 1*_<=sizeLine;exact Sh (show _<=6 by lia) (by lia),fun p5 g5=>?_⟩;rw[show(((x.cs.length:Nat):Int) - (c:Int)).toNat=x.cs.length - c by lia,B6];generalize i:upd H8 p5 _=H9;have s9:=s8.trans (ZW g5 i);have c9:=ZX i;clear i;refine⟨l3,p5,_,_,R,R,s9 _ _ c7,c9,b2,fun p6 g6=>?_⟩;rw[<-SL];exact⟨u,.ref p6,some (List.take c _++List.replicate (x.cs.length - c) k),_,hJ.same ((s7.trans s9).trans (Zu g6 _)),⟨p6,R,Zg⟩,nw,R⟩
 ·rintro D H2 ⟨u,fr,fo,Q,⟨s2,J,hO⟩,o1,x1,rfl⟩
  sleep 1;obtain⟨k1,u1⟩:=z0 s2;have a1:Zc (wo (wo (wo (wo S b.dk) b.dl) t.Y7) g) H2:=fun a o e=>s2 _ _ (Yn e).2;rcases hO with⟨O,rfl,s0⟩|⟨p,rfl,X,s0⟩
  ·refine⟨_,R,by show 2<=sizeLine;lia,fun p3 g3=>?_⟩
   have I:=Zu g3 (.tup [.str (OJ "told"),.non]);have i0:DV K (upd H2 p3 (.tup [.str (OJ "told"),.non])) (.str O.txt) (.str O.txt):=.str _ (by cases O<;>decide +kernel);exact⟨_,_,i0,TW Zg,by simp[PyData.depth,PyData.depthAll],_,R,Zp (by cases O<;>decide +kernel) (d1 q G T _ (a1.trans I) (J.same I) (s0.same I).more (I _ _ k1) (by lia) (u1.same I) told)⟩
  ·refine⟨_,R,by show 2<=sizeLine;lia,fun p3 g3=>?_⟩
   generalize i:upd H2 p3 _=H3;have I:=ZW g3 i;have c3:=ZX i;clear i;have i0:DV K H3 (.ref p) _:=TW (I _ _ X);refine⟨_,_,i0,TW c3,by simp[PyData.depth,PyData.depthAll],_,R,Z9 (by rw[SeqAt.eqv_refl _ i0.can];rfl) ⟨_,R,_,R,_,R,_,R,by show 2<=sizeLine;lia,fun p4 g4=>?_⟩⟩;generalize i:upd H3 p4 _=H4;have C:=I.trans (ZW g4 i);have c4:=ZX i;clear i;have f0:=C _ _ k1;refine⟨g,_,R,XV.t (k:=Yc day x.nm) f0 c4 (Sj (show T.length<=1000 by lia) (by lia)),?_⟩;have u0:=s0.same C;obtain⟨kk,l1,_⟩:=u0.tk;obtain⟨kl,x0,_⟩:=u0.lt;have kp:∀a o,H4 a=some o->a≠g->upd H4 g (.dT (YB T (Yc day x.nm) fr)) a=some o:=fun a o e n=>by rw[Zd n];exact e
   refine d1 Q _ _ _ (fun a o e=>kp _ _ ((a1.trans C) _ _ e) (Yn e).1) ?_ ?_ Zg (Sh (Q2 _ _ _) (by lia)) ((u1.same C).put f0 ?_) x1
   ·exact(J.same C).keep (fun ps e=>kp _ _ e (Z4 e f0 (by intro z;cases z))) fun a e=>kp _ _ e (Z4 e f0 (by intro z;cases z))
   ·exact u0.keepE (fun a o e n1 _=>kp _ _ e (Z4 e f0 (n1 _))) (by rw[Zd g1.symm]) (by rw[Zd g2.symm])
   ·cases fo with
    |none=>exact o1
    |some H=>obtain⟨l,e,h⟩:=o1;exact⟨l,e,C _ _ h⟩
def dM(m:Str×Int×Int):PyData:=.tuple [.str m.1,.int m.2.1,.int m.2.2]
def dR(r:Rn):PyData:=.tuple [.str r.nm,.int ((r.day:Nat):Int),.list (r.ms.map dM)]
def Zca(r:Rn):Prop:=YO r.nm/\∀m∈r.ms,YO m.1
theorem Zcb:∀{vs:List V} {ms:List (Str×Int×Int)},Al (Y8 H) vs ms->(∀m∈ms,YO m.1)->X7 K H vs (ms.map dM)
 |_,_,.nil,_=>.nil
 |_,_,.cons ⟨p,e,h⟩ r,ok=>by
  subst e;exact .cons (.tup (Zj.of h) (.cons (.str _ (Qj (ok _ SD))) (.cons (.int _) (.cons (.int _) .nil)))) (Zcb r fun m hm=>ok m (SC _ hm))
theorem C6:∀{vs:List V} {S:List Rn},Al (Xc G H) vs S->(∀r∈S,Zca r)->X7 K H vs (S.map dR)
 |_,_,.nil,_=>.nil
 |_,_,.cons ⟨p,l,g,e,h1,f,c,_⟩ r,ok=>by
  subst e;have:=ok _ SD;exact .cons (.tup (Zj.of h1) (.cons (.str _ (Qj this.1)) (.cons (.int _) (.cons (.lst (Zf.of f) (Zcb c this.2)) .nil)))) (C6 r fun m hm=>ok m (SC _ hm))
theorem Zcc:∀ms:List (Str×Int×Int),PyData.depthAll (ms.map dM)<=1
 |[]=>by simp[PyData.depthAll]
 |m::ms=>by
  have:=Zcc ms;simp[dM,PyData.depth,PyData.depthAll];lia
theorem TZ:∀S:List Rn,PyData.depthAll (S.map dR)<=3
 |[]=>by simp[PyData.depthAll]
 |r::S=>by
  have:=TZ S;have:=Zcc r.ms;simp[dR,PyData.depth,PyData.depthAll];lia
theorem Zcd{W:Z1}(g:Ub W)(h:Ql (VO b e KF (ZH W)) S):∀r∈S,Zca r:=fun r u=>by
 obtain⟨x,D,j,_,q⟩:=C4.mp (h.1.mem_iff.mp u);obtain⟨i,_,f,_⟩:=Vu q;obtain⟨y,n,rfl⟩:=SJ.mp D;have po:=g.po y n;refine⟨by rw[i];exact po.1,fun m hm=>?_⟩;unfold Y2 at f
 split at f
 ·split at f
  ·cases f
  ·rw[<-So f]at hm
   unfold Xz at hm;obtain⟨c,B,l,_,rfl⟩:=LK hm;obtain⟨s,v,C⟩:=SJ.mp (po.2.2.1.st c B);show YO c.st;rw[<-C];exact(g.so s v).1
 ·cases f
theorem ZkY{TS:List Zr}{KF f:ZU}(h:TU TS KF f)(b e:Int):VO b e KF TS=VO b e f TS:=by
 unfold VO WQ;have one:∀x∈TS,∀d,Yk b e KF x d=Yk b e f x d:=fun x g d=>by
  unfold Yk;rw[ZkU h g]
 have:∀c:List Zr,(∀x∈c,∀d,Yk b e KF x d=Yk b e f x d)->(c.flatMap fun x=>(List.range 10000).filterMap fun j=>Yk b e KF x (0+j))=c.flatMap fun x=>(List.range 10000).filterMap fun j=>Yk b e f x (0+j):=fun c=>by
  induction c with
  |nil=>exact fun _=>R
  |cons x c n =>
   intro g;rw[List.flatMap_cons,List.flatMap_cons,n fun y i=>g y (SC _ i)];rw[show(fun j=>Yk b e KF x (0+j))=fun j=>Yk b e f x (0+j)from funext fun j=>g x SD _]
 exact this TS one
theorem WA.keepE(k:XS H g){W:Z1}(h:WA H y W):WA g y W:=by
 have q:∀{a f},H a=some (.dK f)->g a=some (.dK f):=fun e=>k _ _ e (fun _ z=>(nomatch z)) fun _ z=>(nomatch z);have c:∀{a f},H a=some (.tup f)->g a=some (.tup f):=fun e=>k _ _ e (fun _ z=>(nomatch z)) fun _ z=>(nomatch z);have u:∀{a f},H a=some (.lst f)->g a=some (.lst f):=fun e=>k _ _ e (fun _ z=>(nomatch z)) fun _ z=>(nomatch z);have J:∀{tp v r},YN tp H v r->YN tp g v r:=fun h=>by
  induction h with
  |always h=>exact .always (c h)
  |week h=>exact .week (c h)
  |span h _ x=>exact .span (c h) x
  |each h n ne=>exact .each (c h) (u n) ne
  |either h _ _ i j=>exact .either (c h) i j
  |both h _ _ i j=>exact .both (c h) i j
  |but h n ne _ x=>exact .but (c h) (u n) ne x
 obtain⟨L,dr,dp,X,rp,E,D,Q,B,C,U,G,S⟩:=h.ex;exact⟨L,dr,dp,X,rp,q E,D,Q,q B,q C,U.imp fun _ _ ⟨e,tp,h⟩=>⟨e,tp,J h⟩,G.imp fun _ _ ⟨e,r,l,T,I,Y,O,M⟩=>⟨e,r,l,T,I,c Y,u O,M.imp fun _ _ ⟨p,e,h⟩=>⟨p,e,c h⟩⟩,S⟩
def QN(lt:Addr)(G g e c:Hp):Prop:=∀a o,e a=some o->a≠lt->((∀f,o≠.lst f)\/G a≠none\/g a=none)->c a=some o
theorem QN.put(h:QN lt G f i j)(q:i l=some (.lst xs))(g:G l=none)(h1:f l≠none)(o:HO):QN lt G f i (upd j l o):=fun a u e n c=>by
 rw[Zd fun z=>?_]
 ·exact h a u e n c
 ·subst z
  rw[q]at e;cases e;rcases c with c|c|c
  ·exact c xs R
  ·exact c g
  ·exact h1 c
theorem Xc.rest(i:c lt=some (.tbl x))(s:QN lt G f c g)(h:Xc f c v r):Xc f g v r:=by
 have q:∀{a n},c a=some (.tup n)->g a=some (.tup n):=fun e=>s _ _ e (Z4 e i fun z=>(nomatch z)) (.inl fun _ z=>(nomatch z));obtain⟨p,l,B,e,y,j,C,u⟩:=h;exact⟨p,l,B,e,q y,s _ _ j (Z4 j i fun z=>(nomatch z)) (.inr (.inr u)),C.imp fun _ _ ⟨p,e,h⟩=>⟨p,e,q h⟩,u⟩
def NtV(t:Yd)(H:Hp)(TS:List Zr)(KF:ZU)(c:V):Prop:=(c=.non/\KF=K0)\/∃no m,c=.ref no/\Ua t H no TS KF m
inductive ZkZ(t:Yd)(vs:List V)(H:Hp)(Q:VK)(_e3:XK):Prop|mk (nn wd g pw:Addr) (nv:V) (b e:Int) (W:Z1) (KF GF:ZU) (kvs:List (List Zt×V)) (_:vs=[.ref nn,nv,.ref wd,.ref g,.ref pw]) (_:H pw=some (.tup [.int b,.int e])) (_:0<=b) (_:b<=e) (_:e<=b+4320) (_:e<14400000) (_:Xp t.Yo VQ VR H) (_:Wd t H nn W) (_:Al (US W) W.tp (ZH W)) (_:NtV t H (ZH W) KF nv) (_:WA H wd W) (_:Ub W) (_:H g=some (.dT kvs)) (_:XD H kvs GF) (_:VP (ZH W)) (_:Ud (ZH W) KF GF) (_:∀H',Zc (wo H t.Yo) H'->Xp t.Yo VQ VR H'->Q (.bl true) H')
theorem Zce(f:Zv K mg t)(c1:W.CodeHd base t.A9 t.Yo)(r0:BM mg base):Zn P w K mg base Zo 50 t.kD t.kE ["_law_net","_law_notices","_law_world_here","_law_gaps","_law_window_here"] (ZkZ t):=by
 refine f.RA.F.ok A6 (by lia) fun k2 A outer s H q m2 n2 x h=>?_;obtain⟨Y,wd,p0,pw,E,b,e,W,X,GF,b1,rfl,j1,b0,be,e4,e9,hT,hA,al,l1,hW,f1,hg,gp,T,told,u0⟩:=h;obtain⟨ps,ht⟩:=hT.at;have y:∀a o,H a=some o->(∀ps,o≠.tbl ps)->wo H t.Yo a=some o:=fun a o e n=>Ul ht e n;have e0:Wd t (wo H t.Yo) Y W:=by
  obtain⟨na,h⟩:=hA;exact⟨na,h.keep fun a o e _ n _=>y a o e n⟩
 have h0:(E=.non/\X=K0)\/∃no m,E=.ref no/\Ua t (wo H t.Yo) no (ZH W) X m:=by
  rcases l1 with h|⟨no,m,e,b,h⟩
  ·exact .inl h
  ·exact .inr ⟨no,m,e,b,h.tab y⟩
 have y0:WA (wo H t.Yo) wd W:=hW.keepE fun a o e _ n=>y a o e n;have Z:wo H t.Yo t.Yo=none:=SW R;have t0:=y _ _ hg fun _ z=>(nomatch z);have n0:XD (wo H t.Yo) b1 GF:=gp.keep fun l xs e=>y _ _ e fun _ z=>(nomatch z);have sG:Zc (wo H t.Yo) H:=Wx;generalize wo H t.Yo=G at e0 h0 y0 Z t0 n0 sG u0;refine⟨_,(Zh (LR (pv 4) (Vw (n:=2) R (YU (Z0 5 A6.nd) (YU (Z0 6 A6.nd) Vv)))) (Zh (ZG 7 A6.nd (Wu (TQ f c1 r0) (x.mono (by lia)) R f.m_runs_between f.K3.kp f.ZaE .nil Zl (Wz (pv 0) (pv 5) (pv 6) (pv 1)))) (Zh (ZG 8 A6.nd (ZB f.Rz (Zb5 f) x Zl (Wz (pv 2) (pv 3) (pv 5) (pv 6)))) (Zh (ZN (PW.pt (Uv (YE (YD (ZM VY f.YR YQ (Zm (pv 7) (VA R f.Wm Wj))))) (UY (Yy (xF x.units) (pv 7) (pv 8))))) (Zi (ZA WS)) ZP) (Zh (Xs (WB (pv 7)) (Z0 9 A6.nd) (Zh (ZN (PW.pt (Uv (YE (YD (ZM VY f.YR YQ (Zm (pv 9) (VA R f.Qy Qx))))) (Uv (YE (YD (ZM VY f.YR YQ (Zm (Zs ZF (pv 9) Zb) (VA R f.Wm Wj))))) (UY (YD (ZM VY f.YR YQ (Zm (Zs ZF (pv 9) Zb) (VA R f.Zau qA)))))))) (Zi (ZA WS)) ZP) (Zi (Z3 (ZdH PySem.F.plainAttrs_list PySem.F.slot_list_clear PySem.F.type_list_clear ZdL (Zs ZF (pv 9) Zb)))))) (Zh (Z3 (U2 PySem.F.plainAttrs_list PySem.F.slot_list_append PySem.F.type_list_append Qr (pv 7) (Zk ZJ))) (Zi (ZA (Vd (xE x.units) (Wu (TQ f c1 r0) (x.mono (by lia)) R f.m_runs_between f.K3.kp f.ZaE .nil Zl (Wz (pv 0) (pv 5) (pv 6) (pv 1))) (pv 8) (Ui _)))))))))),?_⟩;sleep 7;refine⟨_,R,pw,_,R,Zj.of j1,R,_,_,R,_,_,R,R,?_⟩;refine⟨_,R,_,R,_,R,_,R,Y,E,b,e,W,ZH W,X,G,R,sG,Z,hT,e0,al,T,told.kf,h0,b0,be,e4,by lia,fun S l q u hS L _ gl q0 i0 f2 s0=>?_⟩;refine⟨_,R,_,R,_,R,_,R,wd,p0,b,e,W,b1,GF,R,y0.same L,f1,L _ _ t0,n0.same L,T,told.gf,b0,be,e4,e9,fun S2 l2 o2 i x0 s2 b2 z0 k1=>?_⟩;rw[<-ZkY told.ag]at x0;obtain rfl:=hS.uniq T x0;have f0:=Zcd f1 hS;have I:=s2 _ _ i0;have J:DV K i (.ref l) (.list (S.map dR)):=.lst (Zf.of I) (C6 (s0.imp fun _ _ h=>(h.same Wx).same s2) f0);have dp:(PyData.list (S.map dR)).depth<=5:=by have:=TZ S;simp[PyData.depth];lia
 obtain⟨q2,o0⟩:=(q0.same s2).at;have d2:∀{H'},QN t.Yo G u i H'->DV K H' (.ref l2) (.list (S.map dR)):=fun r=>.lst (Zf.of (r _ _ z0 (Z4 z0 o0 fun z=>(nomatch z)) (.inr (.inr b2)))) (C6 (k1.imp fun _ _ h=>(h.same Wx).rest o0 r) f0);refine⟨_,R,.ref l,"list",_,_,R,.lst I,R,_,R,Zp (by lia) ?_⟩;refine⟨_,R,_,R,_,_,J,d2 fun _ _ e _ _=>e,by lia,_,R,Zp (by rw[SeqAt.eqv_refl _ J.can];lia) ?_⟩;sleep 1;have j2:u l≠none:=by rw[i0];exact fun z=>(nomatch z)
 have weak:∀v∈q,∃(p c:Addr) (U:V) (j:Int) (g xs:List V),v=.ref p/\i p=some (.tup [U,.int j,.ref c])/\i c=some (.lst xs)/\i c=some (.lst g)/\G c=none/\u c≠none/\c≠l:=fun v hv=>by
  obtain⟨v0,hj,ej⟩:=List.mem_iff_getElem.mp hv;obtain⟨r,_,p,c,g,e1,h1,h2,_,h4⟩:=s0.get (Ss hj);have h3:=(Yn h2).2;exact⟨p,c,_,_,g,g,ej.symm.trans e1,s2 _ _ (Yn h1).2,s2 _ _ h3,s2 _ _ h3,h4,by rw[h3];exact fun z=>(nomatch z),(Yn h2).1⟩
 refine⟨_,R,l,R,⟨_,Zf.of I⟩,D2 (K:=K) (a:=l) (xs:=q) (fun v0 M H'=>QN t.Yo G u i H'/\Xp t.Yo VQ VR H'/\H' l=some (.lst q)/\(∀v∈q,∃(p c:Addr) (U:V) (j:Int) (g xs:List V),v=.ref p/\H' p=some (.tup [U,.int j,.ref c])/\i c=some (.lst xs)/\H' c=some (.lst g)/\G c=none/\u c≠none/\c≠l)/\∃v9:Option V,M=[some (.ref Y),some E,some (.ref wd),some (.ref p0),some (.ref pw),some (.int b),some (.int e),some (.ref l),some (.ref l2),v9]) ⟨fun _ _ e _ _=>e,q0.same s2,I,weak,_,R⟩ (fun w2 M H' _ ⟨_,_,h,_⟩=>Zf.of h) ?_ ?_⟩
 ·rintro v0 v M C hv ⟨r3,g0,D,a0,vv,rfl⟩
  sleep 102;obtain⟨p,c,U,j,g,xs,rfl,Q,hx,B,t1,e2,nl⟩:=a0 v (SK hv);refine⟨_,R,.ref p,"tuple",_,_,R,.tup Q,R,_,R,Zp (by lia) ?_⟩;refine⟨_,R,p,_,2,_,R,R,Zj.of Q,R,.ref c,"list",_,_,R,.lst B,R,_,R,Zp (by lia) ?_⟩;refine⟨_,R,p,_,1,_,R,R,Zj.of Q,R,.int j,"bool",_,_,R,(Kd.int j).ty (H:=C),Mv (H:=C) (.int j),_,R,Zp (by lia) ?_⟩;refine⟨_,R,p,_,2,_,R,R,Zj.of Q,R,.inl ⟨R,_,Zf.of B⟩,c,g,R,R,B,?_⟩;refine⟨r3.put hx t1 e2 _,g0.put B,by rw[Zd nl.symm];exact D,fun v' x1=>?_,_,R⟩;obtain⟨p',O,d0,c0,i1,l0,e',w0,j0,q1,a1,a2,a3⟩:=a0 v' x1;have m0:upd C c (.lst []) p'=some (.tup [d0,.int c0,.ref O]):=by rw[Zd (Z4 w0 B (fun z=>(nomatch z)))];exact w0
  by_cases el:O=c
  ·exact⟨p',O,d0,c0,[],l0,e',m0,j0,by rw[el];exact Zg,a1,a2,a3⟩
  ·exact⟨p',O,d0,c0,i1,l0,e',m0,j0,by rw[Zd el];exact q1,a1,a2,a3⟩
 ·rintro M C ⟨r3,g0,D,a0,vv,rfl⟩
  refine⟨_,R,.inl ⟨R,_,Zf.of D⟩,l,q,_,R,R,D,Si f2 (by lia),?_⟩;generalize hE:upd C l _=H4;have r4:QN t.Yo G u i H4:=hE ▸ r3.put I gl j2 _;have y1:Xp t.Yo VQ VR H4:=hE ▸ g0.put D;clear hE;have v1:Zc G H4:=fun a o e=>r4 _ _ (s2 _ _ (L _ _ e)) (fun z=>by rw[z,Z]at e;cases e) (.inr (.inl (by rw[e];exact fun z=>(nomatch z))));refine⟨_,R,_,R,_,R,_,R,Y,E,b,e,W,ZH W,X,G,R,v1,Z,y1,e0,al,T,told.kf,h0,b0,be,e4,by lia,fun S' l' p2 H5 o1 s5 c2 r2 w1 n1 v2 m1=>?_⟩;obtain rfl:=hS.uniq T o1;have J:DV K H5 (.ref l') (.list (S.map dR)):=.lst (Zf.of n1) (C6 (m1.imp fun _ _ h=>h.same Wx) f0);exact⟨_,R,_,_,J,d2 fun a o e n i2=>c2 _ _ (ZT (r4 a o e n i2) n),by lia,by rw[SeqAt.eqv_refl _ J.can];exact u0 H5 s5 w1⟩
inductive sp_law(K:Ow)(Ts:OG)(vs:List V)(H:Hp)(Q:VK)(_e3:XK):Prop|mk (a:Addr) (ns:OD) (_:vs=[.ref a]) (_:(∀T∈Ts,H T=some (.tbl #[]))) (_:Zf K H a (ns.map V.int)) (_:ns.length<=63) (_:∀H',Q (.bl true) H')
theorem Zk0(h:Xp lt pos q H)(ne:lt≠c)(i:H c=some (.tbl g))(k:∀a o,H a=some o->(∀j,o≠.dT j)->a≠c->e a=some o):Xp lt pos q e:=by
 rcases h with h|⟨n,h,f⟩
 ·exact .inl (k _ _ h (fun _ z=>(nomatch z)) ne)
 ·exact .inr ⟨n,k _ _ h (fun _ z=>(nomatch z)) ne,k _ _ f (fun _ z=>(nomatch z)) (Z4 f i fun z=>(nomatch z))⟩
structure UV(t:Yd)(W:Z1)(n g:Addr)(b:NB)(H H':Hp)(KF GF:ZU)(m:Nat):Prop where
 k:XS H H'
 no:Yq t H' n b (ZH W) KF m
 gp:∃kvs,H' g=some (.dT kvs)/\kvs.length<=m/\XD H' kvs GF
 td:Ud (ZH W) KF GF
 tb:Xh t.Y7 QM H'
 tl:Xp t.Yo VQ VR H'
theorem UV.same{W:Z1}(h:UV t W n g b H c KF f m)(s:Zc c e):UV t W n g b H e KF f m:=by
 obtain⟨k,no,⟨u,i,q,j⟩,td,tb,tl⟩:=h;exact⟨k.trans (XS.of s),no.same s,⟨u,s _ _ i,q,j.same s⟩,td,tb.same s,tl.same s⟩
theorem UV.asked{W:Z1}(h:UV t W n g b H i KF j m)(ne:t.Y7≠t.Yo)(s:Zc (wo i t.Yo) c)(x:Xp t.Yo VQ VR c):UV t W n g b H c KF j m:=by
 obtain⟨k,no,⟨B,q,y,u⟩,td,tb,tl⟩:=h;obtain⟨f,v⟩:=tl.at;have up:∀a o,i a=some o->(∀f,o≠.tbl f)->c a=some o:=fun a o e n=>s _ _ (Ul v e n);exact⟨k.trans fun a o e _ n=>up a o e n,no.tab up,⟨B,up _ _ q fun _ z=>(nomatch z),y,u.keep fun l C e=>up _ _ e fun _ z=>(nomatch z)⟩,td,tb.keep (fun f e=>s _ _ (ZT e ne)) fun a e=>up _ _ e fun _ z=>(nomatch z),x⟩
theorem Zk1{W:Z1}{E:XK}(q:Xp t.Yo VQ VR H)(i:Wd t H f W)(g:Al (US W) W.tp (ZH W))(T:VP (ZH W))(kf:Wq (ZH W) KF)(I:j=.non/\KF=K0)(C:0<=b)(D:b<=e)(u:e<=b+4320)(J:e<14400000)
  (h:∀S l vs c,Ql (VO b e KF (ZH W)) S->Zc (wo H t.Yo) c->Xp t.Yo VQ VR c->c l=some (.lst vs)->Al (Xc (wo H t.Yo) c) vs S->Q (.ref l) c):Zb1 t [.ref f,.int b,.int e,j] H Q E:=by
 obtain⟨L,x⟩:=q.at;obtain⟨y,i⟩:=i;exact⟨f,j,b,e,W,ZH W,KF,wo H t.Yo,R,Wx,SW R,q,⟨y,i.keep fun a o e _ n _=>Ul x e n⟩,g,T,kf,.inl I,C,D,u,by lia,fun S l vs c B v _ M tb G _ g=>h S l vs c B v tb G (g.imp fun _ _ h=>h.same Wx)⟩
theorem Zcf{TS:List Zr}:Ud TS K0 K0:=⟨Wq.k0,Wq.k0,fun _ _ _=>⟨Iff.rfl,R⟩⟩
theorem Zk2{W:Z1}(ok:Ub W):Al (US W) W.tp (ZH W)/\VP (ZH W):=by
 have q:∀y∈W.tp,US W y (Vs W y)/\(Vs W y).r.Ok:=fun y e=>by
  obtain⟨u,j,v⟩:=SJ.mp (ok.po y e).2.1;have i:ZY Yj.nm W.ru y.ru=some u:=by rw[<-v];exact UR ok.rn j
  have n:(Vs W y).r=u.r:=by unfold Vs;rw[i];rfl
  exact⟨⟨R,R,u,i,n.symm⟩,by rw[n];exact(ok.ro u j).2⟩
 refine⟨?_,⟨by unfold ZH;rw[Oe];exact ok.pn,fun x g=>?_,fun x g c C=>?_,by unfold ZH;rw[Sv];have:=ok.p3;lia⟩⟩
 ·unfold ZH
  have:∀f:List Tp,(∀y∈f,US W y (Vs W y))->Al (US W) f (f.map (Vs W)):=fun f=>by
   induction f with
   |nil=>exact fun _=>.nil
   |cons y f B=>exact fun h=>.cons (h y SD) (B fun z D=>h z (SC _ D))
  exact this _ fun y e=>(q y e).1
 ·obtain⟨y,e,rfl⟩:=SJ.mp g
  exact⟨(q y e).2,(ok.po y e).2.2.2.2⟩
 ·obtain⟨y,e,rfl⟩:=SJ.mp g
  exact((ok.po y e).2.2.1.rng c C).2
theorem Zk3(f:Zv K mg t)(h1:W.CodeHd base t.A9 t.Yo)(b3:W.CodeHd base t.G8 t.Y7)(j0:BM mg base):Zn P w K mg base Zo 60 t.kI t.PM ["_law_script"] (sp_law K [t.Yo,t.Y7]):=by
 refine f.RD.F.ok Vl (by lia) fun w3 A outer s y2 vs x3 d4 q h=>?_;obtain⟨a,ns,rfl,b1,hS,y3,k3⟩:=h;have neT:=f.ZiI;refine⟨_,(Zh (ZG 1 Vl.nd (ZB f.ZaI (ZkA f) q Zl (Zk (ZB f.Vn (VM f) q Zl (Zm (ZB f.K4 (Tw f) q Zl (Zm (pv 0) Zb)) Zb))))) (Zh (ZG 2 Vl.nd (ZB f.ZaJ (ZkC f) q Zl (Zk (pv 1)))) (Zh (ZG 3 Vl.nd (WT f.ZaT (ZbD f) (q.mono (by lia)) R f.Za1 f.R9.b .nil Zl (Zk (pv 2)))) (Zh (ZG 4 Vl.nd Q7) (Zh (ZG 5 Vl.nd (Zs YL (Z5 (Wz Zb Zb Zb Zb)) (Ze ZO (ZB f.K4 (Tw f) q Zl (Zm (pv 0) Zb)) Zb))) (Zh (ZG 6 Vl.nd (Yw (F7 R) R f.Wm Wj (Zk (YT q (pv 1) ZJ)))) (Zh (Xs (wI R f.Zav (Zk (Qq D7 (pv 0) (Uy Zb) (Uy Zb)))) (Vw (n:=2) R (YU (Z0 7 Vl.nd) (YU (Z0 8 Vl.nd) Vv))) (Zh (ZG 9 Vl.nd (ZB f.Vn (VM f) q Zl (Zm (pv 8) (Ze Z2 Zb (pv 7))))) (Zh (Z3 (ZB f.ZaK (ZkX f b3 j0) q Zl (pa6 (pv 3) (pv 1) (pv 4) (Zs YL (pv 6) (Ze ZO (pv 9) (ZM XH f.Xr Xq (Zk (pv 6))))) (Ze Z2 (pv 5) (Ze ZO (Ze Yt (pv 9) Zb) Zb)) (Ze Yt (pv 9) Zb)))) (Zh (ZG 10 Vl.nd (ZB f.RB (Zb7 f) q Zl (Wz (pv 1) (pv 4) (pv 5) (ZB f.Vn (VM f) q Zl (Zm (pv 8) (Ze Z2 Zb (pv 7))))))) (Zi (ZN (YE (YD (ZB f.RA (Zce f h1 j0) q Zl (M4 (pv 2) (pv 3) (pv 1) (pv 4) (pv 10))))) (Zi (ZA WS)) ZP)))))) (Zh (Xs (Ug R f.W3 (Zk Zb)) (Z0 7 Vl.nd) (Zh (ZG 10 Vl.nd (ZB f.RB (Zb7 f) q Zl (Wz (pv 1) Q7 (pv 5) (ZB f.Vn (VM f) q Zl (Zm (ZB f.K4 (Tw f) q Zl (Zm (pv 0) Zb)) (Ze Z2 Zb (pv 7))))))) (Zh (ZN (Yy (xF q.units) (Wu (TQ f h1 j0) (q.mono (by lia)) R f.m_runs_between f.K3.kp f.ZhJ f.ZhI Zl (Ys (pv 2) (Zs ZF (pv 10) Zb) (Zs ZF (pv 10) Zb))) (ZB f.Rz (Zb5 f) q Zl (Wz (pv 1) Q7 (Zs ZF (pv 10) Zb) (Zs ZF (pv 10) Zb)))) (Zi (ZA WS)) ZP) (Zi (ZN (YE (YD (ZB f.RA (Zce f h1 j0) q Zl (M4 (pv 2) Ue (pv 1) Q7 (pv 10))))) (Zi (ZA WS)) ZP))))) (Zi (ZA WS)))))))))),?_⟩;sleep 9;refine⟨_,R,a,ns,0,R,hS,by lia,fun d=>⟨d,0,R,by lia,by lia,XZ d 0,R,Tv _ _,fun u aw W H1 s1 nw Y y=>?_⟩⟩;obtain⟨e0,T⟩:=Zk2 y;have v1:WA H1 u W:=by
  obtain⟨E,e1,e2⟩:=Y.ob;obtain⟨r2,a2,b2⟩:=Y.ru;obtain⟨r4,a4,b4⟩:=Y.tp;exact⟨E,aw.dr,aw.dp,r2,r4,e1,e2.r,e2.p,a2,a4,b2,b4,nw.np,Y.ap.rp⟩
 refine⟨_,R,u,aw,W,y2,R,Y,nw,y,fun L bn H2 s2 hN _=>?_⟩;refine⟨_,R,fun x dx g1 g2 nd=>?_⟩;refine⟨x,L,H2,W,ZH W,R,g1,YW (Zu g2 _) g1 _,⟨dx,Zg⟩,⟨bn,hN⟩,e0,T.nd,fun q0 hy=>(T.ok q0 hy).r,by have:=T.len;lia,fun H3 b s3 p0 _ _ _=>⟨R,?_⟩⟩;refine fun g X=>?_;generalize j:upd H3 g _=H4;have s4:=ZW X j;have c4:=ZX j;clear j;obtain⟨kk,o0,_⟩:=p0.tk;obtain⟨kl,d0,_⟩:=p0.lt;have f3:g≠b.dk:=fun z=>by rw[z,o0]at X;cases X
 have q2:g≠b.dl:=fun z=>by rw[z,d0]at X;cases X
 have l0:=(s2.trans s3).trans s4;refine⟨by show 4<=sizeLine;lia,fun p gp=>?_⟩;generalize j:upd H4 p _=H5;have s5:=ZW gp j;have c5:=ZX j;clear j;refine⟨_,R,a,ns,1,R,((s1.trans l0).trans s5).seq hS,by lia,fun d1=>?_⟩;obtain⟨_,es,s0,rfl,j1⟩:=QX (p:=fun v=>∃b:Nat,v=V.int (b:Nat)/\b<=9990) (xs:=[.int 0,.int 2,.int 50,.int 9990]) (d:=d1%4) (fun v B=>by
  simp only[SF,List.not_mem_nil,or_false]at B;rcases B with rfl|rfl|rfl|rfl
  ·exact⟨0,R,by lia⟩
  ·exact⟨2,R,by lia⟩
  ·exact⟨50,R,by lia⟩
  ·exact⟨9990,R,by lia⟩) (by lia) (by show d1%4<4;lia)
 refine⟨_,_,R,R,(by show(0:Int)<4;lia),p,_,_,_,R,R,Zf.of c5,es,?_⟩;obtain⟨wk,dr,dp,rr,rp,e1,e2,e3,I,e5,e6,e7,_⟩:=v1.ex;have m0:=l0.trans s5;refine⟨_,R,u,.ref dp,R,by rw[<-e3];exact Yr.k (k:=Sum.inr (OJ "trips")) (m0 _ _ e1),dp,rp,R,m0 _ _ e5,fun lt gt=>?_⟩;rw[LI (fun kv x (h:Xi H1 kv x)=>h.1) e7];generalize j:upd H5 lt _=H6;have s6:=ZW gt j;have c6:=ZX j;clear j;refine⟨_,R,2,R,12,R,a,_,R,((s1.trans m0).trans s6).seq hS,fun ls x1=>?_⟩;generalize j:upd H6 ls _=Z;have s7:=ZW x1 j;have c7:=ZX j;clear j;have c0:=(s5.trans s6).trans s7;have n0:=l0.trans c0;have W7:=v1.same n0;have d3:=(s1.trans n0).seq hS;have A7:Wd t Z L W:=⟨bn,((hN.same s3).same s4).same c0⟩;have l1:=s7 _ _ c6;have f2:UV t W x g b Z Z K0 K0 0:=⟨XS.of (Zc.refl _),(p0.same s4).same c0,⟨[],c0 _ _ c4,Sg _,fun z day=>R⟩,Zcf,Xh.nil ((s1.trans n0) _ _ (b1 _ (.tail _ (.head _)))),.inl ((s1.trans n0) _ _ (b1 _ (.head _)))⟩;generalize v0:WE (ns.map V.int) (some 2) (some 12)=xs at c7;have k4:xs.length<=63:=by
  rw[<-v0];unfold WE;rw[Sx,SA,Sv];lia
 have m3:∀v∈xs,∃c:Int,v=.int c:=fun v B=>by
  rw[<-v0]at B;unfold WE at B;obtain⟨c,_,rfl⟩:=SJ.mp (List.mem_of_mem_drop (List.mem_of_mem_take B));exact⟨c,R⟩
 have lT:0<((W.tp.map Tp.nm).map V.str).length:=by rw[Sv,Sv];exact y.p1
 have y0:∀{H'},XS Z H'->Wd t H' L W:=fun k=>by
  obtain⟨na,h⟩:=A7;exact⟨na,h.keep fun a o e J n2 _=>k a o e J n2⟩
 clear v0 p0 o0 d0 c4 s4 c5 s5 c6 s6 l0 m0 c0 X gp x1 s7 b1 hN s3 s2 Y e1 e2 e3 I e5 e6 e7;refine⟨ls,R,⟨_,Zf.of c7⟩,wJ (xs:=xs) (fun i D H'=>∃(KF GF:ZU) (O v8 v9 H:Option V),UV t W x g b Z H' KF GF i/\D=[some (.ref a),some (.ref u),some (.ref L),some (.ref x),some (.ref g),some (.int s0),some (.ref lt),O,v8,v9,H]) ⟨K0,K0,_,_,_,_,f2,R⟩ (fun i D H' _ ⟨_,_,_,_,_,_,st,_⟩=>Zf.of (st.k _ _ c7 (fun _ z=>(nomatch z)) fun _ z=>(nomatch z))) ?_ ?_⟩
 ·rintro i v pp D H8 B t1 ⟨KF,GF,O,v8,v9,H,st,rfl⟩
  have hi:=(Sr.mp B).1;obtain⟨c,rfl⟩:=m3 v (SK B);generalize j:upd H8 pp _=H9;have st:=st.same (ZW t1 j);have c9:=ZX j;clear j t1 B;refine⟨pp,_,R,Zj.of c9,R,_,_,R,_,_,R,R,?_⟩;sleep 4;refine⟨_,R,_,R,_,_,R,R,c,2+(i:Nat),R,by lia,by lia,?_⟩;generalize XZ c (2+(i:Nat))=f1;obtain⟨j4,hj,ej⟩:=TR lT f1;obtain⟨q0,ey,hy⟩:=Zb6 y (Oi hj);rw[ey]at ej;have h6:=st.k _ _ l1 (fun _ z=>(nomatch z)) fun _ z=>(nomatch z);obtain⟨E,S,lk,gp⟩:=st.gp;refine⟨_,R,_,R,_,R,_,R,_,R,_,R,lt,_,R,.inl (Zf.of h6),_,_,R,R,(by show(0:Int)<(_:Nat);lia),lt,_,_,_,R,R,Zf.of h6,ej,_,R,_,R,_,_,R,R,⟨by lia,by lia⟩,_,_,R,R,(by show(0:Int)<5;lia),_,_,R,R,_,R,_,_,R,R,⟨by lia,by lia⟩,?_⟩;dsimp only[Yv,ZZ,Oc];refine⟨x,u,g,b,W,KF,GF,i,s0+f1/3%5,f1/15,q0,E,R,st.no,by lia,W7.keepE st.k,y,hy,by lia,S,lk,gp,st.td,st.tb,f3,q2,fun a1 i0 c3 w0 M q1 w1 u1 i2 m2 k2=>?_⟩;have st:UV t W x g b Z w0 a1 i0 (i+1):=by
   obtain⟨ps,U⟩:=st.tb.at;obtain⟨kk,o0,_⟩:=st.no.tk;obtain⟨kl,d0,_⟩:=st.no.lt;have up:∀a o,H9 a=some o->(∀E,o≠.dT E)->a≠t.Y7->w0 a=some o:=fun a o e J n2=>M _ _ (ZT (ZT (ZT (ZT e (Z4 e o0 (J _))) (Z4 e d0 (J _))) n2) (Z4 e S (J _)));exact⟨st.k.trans fun a o e J n2=>up a o e J (Z4 e U (n2 _)),w1,⟨c3,u1,i2,m2⟩,k2,q1,Zk0 st.tl neT U up⟩
  clear M q1 w1 u1 i2 m2 k2 S lk gp h6;obtain⟨E,S,lk,gp⟩:=st.gp;refine⟨_,R,_,R,_,R,_,R,_,R,_,_,R,R,c,30+(i:Nat),R,by lia,by lia,?_⟩;refine⟨u,g,s0,XZ c (30+(i:Nat)),W,E,i0,R,W7.keepE st.k,y,S,gp,T,st.td.gf,j1,fun bb ee Q i1 G C b0 be I e9=>?_⟩;have st:=st.same G;refine⟨_,R,_,R,_,R,_,R,_,R,L,u,g,Q,.ref x,bb,ee,W,a1,i0,E,R,C,b0,be,I,e9,st.tl,y0 st.k,e0,.inr ⟨x,i+1,R,b,st.no⟩,W7.keepE st.k,y,G _ _ S,gp.same G,T,st.td,fun c1 r0 h0=>⟨_,R,Zp (by lia) ⟨a1,i0,_,_,_,_,st.asked neT.symm r0 h0,R⟩⟩⟩
 ·rintro D H8 ⟨KF,GF,O,v8,v9,H,st,rfl⟩
  have k8:=st.k;have a3:=st.tl;clear st f2 c7 l1;have W8:=W7.keepE k8;have v2:∀{H'},XS H8 H'->Zf K H' a (ns.map V.int):=fun k=>d3.imp (fun r=>r.imp (fun e=>(k8.trans k) _ _ e (fun _ z=>(nomatch z)) fun _ z=>(nomatch z)) fun⟨o,e⟩=>⟨o,(k8.trans k) _ _ e (fun _ z=>(nomatch z)) fun _ z=>(nomatch z)⟩) id;refine⟨_,R,by lia,by lia,VU (fun i D H'=>XS H8 H'/\Xp t.Yo VQ VR H'/\∃O H:Option V,D=[some (.ref a),some (.ref u),some (.ref L),some (.ref x),some (.ref g),some (.int s0),some (.ref lt),O,v8,v9,H]) ⟨XS.of (Zc.refl _),a3,_,_,R⟩ ?_ ?_⟩
  ·rintro i D H9 hi ⟨k9,z0,O,H,rfl⟩
   rw[show(0:Int)+(i:Int)=(i:Int) by lia];sleep 103;have i4:i<2:=by lia
   have S9:=v2 k9;refine⟨_,R,fun g1 u3=>?_⟩;generalize j:upd H9 g1 _=w0;have M:=ZW u3 j;have q3:=ZX j;clear j;refine⟨_,R,_,R,a,ns,1,R,M.seq S9,by lia,fun d2=>?_⟩;refine⟨_,R,_,_,R,R,d2,20+(i:Nat),R,by lia,by lia,?_⟩;dsimp only[Yv,ZZ,Oc];have j2:=k9.trans (XS.of M);refine⟨u,g1,s0,XZ d2 (20+(i:Nat)),W,[],K0,R,W8.keepE j2,y,q3,fun z day=>R,T,Wq.k0,j1,fun bb ee Q i1 G C b0 be I e9=>?_⟩;have c2:=j2.trans (XS.of G);refine⟨_,R,_,R,Q,_,0,_,R,R,Zj.of C,R,_,R,Q,_,1,_,R,R,Zj.of C,R,?_⟩;dsimp only[Yv,ZZ,Oc];refine Zk1 ((z0.same M).same G) (y0 (k8.trans c2)) e0 T Wq.k0 ⟨R,R⟩ b0 be I e9 fun u0 l vs c1 o1 r0 h0 t3 l3=>?_;obtain⟨ps,U⟩:=((z0.same M).same G).at;have up:∀a o,i1 a=some o->(∀ps,o≠.tbl ps)->c1 a=some o:=fun a o e n=>r0 _ _ (Ul U e n);have z2:=c2.trans fun a o e _ n=>up a o e n;have C:=up _ _ C fun _ z=>(nomatch z);refine⟨_,R,fun g2 n3=>?_⟩;generalize j:upd c1 g2 _=m4;have g0:=ZW n3 j;have j3:=ZX j;clear j;have h2:=z2.trans (XS.of g0);refine⟨_,R,Q,_,0,_,R,R,Zj.of (g0 _ _ C),R,_,R,Q,_,1,_,R,R,Zj.of (g0 _ _ C),R,?_⟩;dsimp only[Yv,ZZ,Oc];refine⟨u,g2,bb,ee,W,[],K0,R,W8.keepE h2,y,j3,fun z day=>R,T,Wq.k0,b0,be,I,e9,fun S2 l2 f4 t0 u2 k1 h4 h3 o3=>?_⟩;obtain rfl:=o1.uniq T u2;have y1:=Zcd y o1;have a0:=g0.trans k1;have m1:DV K t0 (.ref l) (.list (u0.map dR)):=.lst (Zf.of (a0 _ _ t3)) (C6 (l3.imp fun _ _ h=>h.same a0) y1);have x2:DV K t0 (.ref l2) (.list (u0.map dR)):=.lst (Zf.of h3) (C6 (o3.imp fun _ _ h=>h.same Wx) y1);have p2:=h2.trans (XS.of k1);refine⟨_,_,m1,x2,by have:=TZ u0;simp[PyData.depth];lia,_,R,Zp (by rw[SeqAt.eqv_refl _ m1.can];lia) ?_⟩;sleep 1;refine⟨_,R,_,R,fun g3 w2=>?_⟩;generalize j:upd t0 g3 _=z3;have f0:=ZW w2 j;have o2:=ZX j;clear j;have x0:=p2.trans (XS.of f0);dsimp only[Yv,ZZ,Oc];refine⟨_,R,L,u,g3,Q,.non,bb,ee,W,K0,K0,[],R,f0 _ _ (a0 _ _ C),b0,be,I,e9,(h0.same a0).same f0,y0 (k8.trans x0),e0,.inl ⟨R,R⟩,W8.keepE x0,y,o2,fun z day=>R,T,Zcf,fun l4 i3 v3=>⟨_,R,Zp (by lia) ⟨x0.trans fun a o e _ n=>?_,v3,_,_,R⟩⟩⟩;obtain⟨ps,U⟩:=((h0.same a0).same f0).at;exact i3 _ _ (Ul U e n)
  ·rintro D H9 ⟨k9,z0,O,H,rfl⟩
   exact k3 H9
end
theorem Zcg{f D:Addr}{d:OI}(p:E8 K "runs_between" "runs_between" U9 f d D [Value.none]):Xm K d ["net","begin","end","notices"] [Value.none]/\Xm K d ["net","begin","end","notices"] []:=by
 obtain⟨⟨_,_,_,_,_,_,_,_,_,rfl,_,_⟩,⟨_,_,g,hd⟩,_⟩:=p;constructor<;>(intro s e kin c;rcases e with _|⟨_,_|⟨_,_|⟨_,_|⟨_,_|_⟩⟩⟩⟩<;>first|(cases c;done)|exact .of_defaults R (kin _ _ g) hd R R)
theorem all_mk{h:Heap}(X:K.In h)(G:h.Ns mainGlobals mg)
  {Aa Ab Ac Ad Ae Af Ag Ah Ai Aj Ak Al Am An Ao Ap Aq Ar As At Au Av Aw Ax:Tok}
  {Ay Az AA AB AC AD AE AF AG AH AI AJ AK AL AM AN AO AP AQ AR AS AT AU AV AW AX AY AZ Ba Bb Bc Bd Be Bf Bg Bh Bi Bj Bk Bl Bm Bn Bo Bp Bq Br Bs Bt Bu Bv Bw Bx By Bz BA BB BC BD BE BF BG BH BI BJ BK BL BM BN BO BP BQ BR BS BT BU BV BW BX BY BZ Ca Cb Cc Cd Ce Cf Cg Ch Ci Cj Ck Cl Cm Cn Co Cp Cq Cr Cs Ct Cu Cv Cw Cx Cy Cz CA CB CC CD CE CF CG CH CI:Addr}
  {CJ CK CL CM CN CO CP CQ CR CS CT CU CV CW CY CZ Da Db Dc Dd De Df Dg Dh Di Dj Dk Dl Dm Dn Do Dp Dq Dr Ds Dt Du Dv Dw Dx Dy Dz DA DB DC DD DE DF DG DH DI DJ DK DL DN DO DP DQ DR DS DT DU DV DW DX DY DZ Ea Eb Ec Ed Ee Ef Eg Eh Ei Ej Ek El Em En Eo Ep:OI}
  {Er Es:Value}
  {Et Eu:OE}
  {Ev Ew:Array Value}
  {Ex Ey:Oy}
  (Ez:OG)
  (EA:W.nsIn K mainGlobals "runs_between" = some (some (.ref AM)))
  (EB:W.nsIn K mainGlobals "RoadError" = some (some (.ref Bg)))
  (EC:W.nsIn K mainGlobals "BadClock" = some (some (.ref Bh)))
  (ED:W.nsIn K mainGlobals "BadRule" = some (some (.ref Bi)))
  (EE:W.nsIn K mainGlobals "TooMany" = some (some (.ref Bj)))
  (EF:W.nsIn K mainGlobals "BadName" = some (some (.ref Bk)))
  (EG:W.nsIn K mainGlobals "Twice" = some (some (.ref Bl)))
  (EH:W.nsIn K mainGlobals "NoStop" = some (some (.ref Bm)))
  (EI:W.nsIn K mainGlobals "NoRule" = some (some (.ref Bn)))
  (EJ:W.nsIn K mainGlobals "NoTicket" = some (some (.ref Bo)))
  (EK:W.nsIn K mainGlobals "NoTrip" = some (some (.ref Bp)))
  (EL:W.nsIn K mainGlobals "BadNumber" = some (some (.ref Bq)))
  (EM:W.nsIn K mainGlobals "BadCalls" = some (some (.ref Br)))
  (EN:W.nsIn K mainGlobals "BadRow" = some (some (.ref Bs)))
  (EO:W.nsIn K mainGlobals "NoRun" = some (some (.ref Bt)))
  (EP:W.nsIn K mainGlobals "NoPlan" = some (some (.ref Bu)))
  (EQ:W.nsIn K mainGlobals "TooLate" = some (some (.ref Bv)))
  (ER:W.nsIn K mainGlobals "NoTraveller" = some (some (.ref Bw)))
  (ES:W.nsIn K mainGlobals "BadLine" = some (some (.ref Bx)))
  (ET:W.nsIn K mainGlobals "Rule" = some (some (.ref By)))
  (EU:W.nsIn K mainGlobals "Week" = some (some (.ref Bz)))
  (EV:W.nsIn K mainGlobals "Span" = some (some (.ref BA)))
  (EW:W.nsIn K mainGlobals "Each" = some (some (.ref BB)))
  (EX:W.nsIn K mainGlobals "Either" = some (some (.ref BC)))
  (EY:W.nsIn K mainGlobals "Both" = some (some (.ref BD)))
  (EZ:W.nsIn K mainGlobals "But" = some (some (.ref BE)))
  (Fa:W.nsIn K mainGlobals "Net" = some (some (.ref BF)))
  (Fb:W.nsIn K mainGlobals "Notices" = some (some (.ref BG)))
  (Fc:W.nsIn K mainGlobals "ValueError" = some none)
  (Fd:W.nsIn K mainGlobals "all" = some none)
  (Fe:W.nsIn K mainGlobals "any" = some none)
  (Ff:W.nsIn K mainGlobals "bool" = some none)
  (Fg:W.nsIn K mainGlobals "enumerate" = some none)
  (Fh:W.nsIn K mainGlobals "int" = some none)
  (Fi:W.nsIn K mainGlobals "isinstance" = some none)
  (Fj:W.nsIn K mainGlobals "len" = some none)
  (Fk:W.nsIn K mainGlobals "list" = some none)
  (Fl:W.nsIn K mainGlobals "max" = some none)
  (Fm:W.nsIn K mainGlobals "min" = some none)
  (Fn:W.nsIn K mainGlobals "range" = some none)
  (Fo:W.nsIn K mainGlobals "set" = some none)
  (Fp:W.nsIn K mainGlobals "sorted" = some none)
  (Fq:W.nsIn K mainGlobals "str" = some none)
  (Fr:W.nsIn K mainGlobals "sum" = some none)
  (Fs:W.nsIn K mainGlobals "tuple" = some none)
  (Ft:W.nsIn K mainGlobals "zip" = some none)
  (Fu:W.nsIn K mainGlobals "LETTERS" = some (some (.str (OJ "abcdefghijklmnopqrstuvwxyz") Aa)))
  (Fv:W.nsIn K mainGlobals "MOST_LETTERS" = some (some (.int 8 Ab)))
  (Fw:W.nsIn K mainGlobals "LAST_DAY" = some (some (.int 9999 Ac)))
  (Fx:W.nsIn K mainGlobals "DAY_MINUTES" = some (some (.int 1440 Ad)))
  (Fy:W.nsIn K mainGlobals "LAST_MINUTE" = some (some (.int 2879 Ae)))
  (Fz:W.nsIn K mainGlobals "WEEK_DAYS" = some (some (.int 7 Af)))
  (FA:W.nsIn K mainGlobals "ALL_WEEK" = some (some (.int 127 Ag)))
  (FB:W.nsIn K mainGlobals "MOST_LENGTH" = some (some (.int 28 Ah)))
  (FC:W.nsIn K mainGlobals "MOST_LISTED" = some (some (.int 12 Ai)))
  (FD:W.nsIn K mainGlobals "MOST_WEIGHT" = some (some (.int 15 Aj)))
  (FE:W.nsIn K mainGlobals "MOST_DEPTH" = some (some (.int 8 Ak)))
  (FF:W.nsIn K mainGlobals "MOST_STOPS" = some (some (.int 8 Al)))
  (FG:W.nsIn K mainGlobals "MOST_WALKS" = some (some (.int 12 Am)))
  (FH:W.nsIn K mainGlobals "MOST_RULES" = some (some (.int 6 An)))
  (FI:W.nsIn K mainGlobals "MOST_TICKETS" = some (some (.int 3 Ao)))
  (FJ:W.nsIn K mainGlobals "MOST_TRIPS" = some (some (.int 10 Ap)))
  (FK:W.nsIn K mainGlobals "LAST_ZONE" = some (some (.int 6 Aq)))
  (FL:W.nsIn K mainGlobals "MOST_CHANGE" = some (some (.int 30 Ar)))
  (FM:W.nsIn K mainGlobals "MOST_WALKED" = some (some (.int 60 As)))
  (FN:W.nsIn K mainGlobals "MOST_PRICE" = some (some (.int 10000 At)))
  (FO:W.nsIn K mainGlobals "MOST_LASTING" = some (some (.int 1440 Au)))
  (FP:W.nsIn K mainGlobals "LEAST_CALLS" = some (some (.int 2 Av)))
  (FQ:W.nsIn K mainGlobals "MOST_CALLS" = some (some (.int 6 Aw)))
  (FR:W.nsIn K mainGlobals "MOST_LATE" = some (some (.int 300 Ax)))
  (FS:DM K "is_any_number" M5 Ay CJ)
  (FT:DM K "is_number" M6 Az CK)
  (FU:DM K "check_number" M7 AA CL)
  (FV:DM K "are_rising" M8 AB CM)
  (FW:DM K "is_name" M9 AC CN)
  (FX:DM K "is_known" Na AD CO)
  (FY:DM K "copy_of" Nb AE CP)
  (FZ:DM K "check_size" Nc AF CQ)
  (Ga:DM K "check_new" Nd AG CR)
  (Gb:DM K "check_room" Nf AH CS)
  (Gc:DM K "have_calls_form" Ng AI CT)
  (Gd:DM K "can_follow" Nh AJ CU)
  (Ge:DM K "moved" Ni AK CV)
  (Gf:DM K "check_rising" Nj AL CW)
  (Gg:E8 K "runs_between" "runs_between" U9 AM CY AN [Value.none])
  (Gh:DM K "leaves_within" Nk AO CZ)
  (Gi:DM K "_law_cell_at" Nl AP Da)
  (Gj:DM K "_law_mixed" Nm AQ Db)
  (Gk:DM K "_law_name" Nn AR Dc)
  (Gl:DM K "_law_days" No AS Dd)
  (Gm:DM K "_law_rule" Np AT De)
  (Gn:DM K "_law_runs" Nq AU Df)
  (Go:DM K "_law_calls" Nt AV Dg)
  (Gp:DM K "_law_world" Nu AW Dh)
  (Gq:DM K "_law_drawn" Nv AX Di)
  (Gr:DM K "_law_made" Nw AY Dj)
  (Gs:DM K "_law_said" Nx AZ Dk)
  (Gt:DM K "_law_moments" Ny Ba Dl)
  (Gu:DM K "_law_all" Nz Bb Dm)
  (Gv:DM K "_law_right" NC Bc Dn)
  (Gw:DM K "_law_window" ND Bd Do)
  (Gx:DM K "_law_noted" NE Be Dp)
  (Gy:DM K "law" NF Bf Dq)
  (Gz:MM K By "copied" "Rule.copied" NG BH Dr)
  (GA:MM K By "parts" "Rule.parts" NH BI Ds)
  (GB:MM K By "runs" "Rule.runs" NI BJ Dt)
  (GC:MM K By "weight" "Rule.weight" NJ BK Du)
  (GD:MM K By "depth" "Rule.depth" NK BL Dv)
  (GE:MM K Bz "__init__" "Week.__init__" NL BM Dw)
  (GF:MM K Bz "copied" "Week.copied" NM BN Dx)
  (GG:MM K Bz "runs" "Week.runs" NN BO Dy)
  (GH:MM K BA "__init__" "Span.__init__" NO BP Dz)
  (GI:MM K BA "copied" "Span.copied" NP BQ DA)
  (GJ:MM K BA "parts" "Span.parts" NQ BR DB)
  (GK:MM K BA "runs" "Span.runs" NR BS DC)
  (GL:MM K BB "__init__" "Each.__init__" NT BT DD)
  (GM:MM K BB "copied" "Each.copied" NU BU DE)
  (GN:MM K BB "runs" "Each.runs" NV BV DF)
  (GO:MM K BC "__init__" "Either.__init__" NW BW DG)
  (GP:MM K BC "copied" "Either.copied" NX BX DH)
  (GQ:MM K BC "parts" "Either.parts" NY BY DI)
  (GR:MM K BC "runs" "Either.runs" NZ BZ DJ)
  (GS:MM K BD "__init__" "Both.__init__" N0 Ca DK)
  (GT:MM K BD "copied" "Both.copied" N2 Cb DL)
  (GU:MM K BD "parts" "Both.parts" N3 Cc DN)
  (GV:MM K BD "runs" "Both.runs" N4 Cd DO)
  (GW:MM K BE "__init__" "But.__init__" N5 Ce DP)
  (GX:MM K BE "copied" "But.copied" N6 Cf DQ)
  (GY:MM K BE "parts" "But.parts" N7 Cg DR)
  (GZ:MM K BE "runs" "But.runs" N8 Ch DS)
  (Ha:MM K BF "__init__" "Net.__init__" N9 Ci DT)
  (Hb:MM K BF "add_stop" "Net.add_stop" Pa Cj DU)
  (Hc:MM K BF "add_walk" "Net.add_walk" Pb Ck DV)
  (Hd:MM K BF "add_rule" "Net.add_rule" Pc Cl DW)
  (He:MM K BF "add_ticket" "Net.add_ticket" Pd Cm DX)
  (Hf:MM K BF "add_trip" "Net.add_trip" Pe Cn DY)
  (Hg:MM K BF "check_stop" "Net.check_stop" Pg Co DZ)
  (Hh:MM K BF "check_trip" "Net.check_trip" Ph Cp Ea)
  (Hi:MM K BF "check_call" "Net.check_call" Pi Cq Eb)
  (Hj:MM K BF "has_walk" "Net.has_walk" Pj Cr Ec)
  (Hk:MM K BF "trips" "Net.trips" Pk Cs Ed)
  (Hl:MM K BF "rule" "Net.rule" Pl Ct Ee)
  (Hm:MM K BF "rule_name" "Net.rule_name" Pm Cu Ef)
  (Hn:MM K BF "calls" "Net.calls" Pn Cv Eg)
  (Ho:MM K BG "__init__" "Notices.__init__" Po Cw Eh)
  (Hp:MM K BG "late" "Notices.late" Pp Cx Ei)
  (Hq:MM K BG "out" "Notices.out" Pr Cy Ej)
  (Hr:MM K BG "back" "Notices.back" Ps Cz Ek)
  (Hs:MM K BG "moments" "Notices.moments" Pu CA El)
  (Ht:MM K BG "late_minutes" "Notices.late_minutes" Pv CB Em)
  (Hu:MM K BG "check_day" "Notices.check_day" Pw CC En)
  (Hv:MM K BG "check_runs" "Notices.check_runs" Px CD Eo)
  (Hw:MM K BG "check_goes" "Notices.check_goes" Py CE Ep)
  (Hx:Yz K By)
  (Hy:Mw K By)
  (Hz:Yz K Bz)
  (HA:Mk K Bz BM)
  (HB:Yu K Bz "depth" BL)
  (HC:Yu K Bz "parts" BI)
  (HD:Yu K Bz "weight" BK)
  (HE:W.findIn K (.ref Bz) "bits" = some none)
  (HF:Yz K BA)
  (HG:Mk K BA BP)
  (HH:Yu K BA "depth" BL)
  (HI:Yu K BA "weight" BK)
  (HJ:W.findIn K (.ref BA) "first" = some none)
  (HK:W.findIn K (.ref BA) "last" = some none)
  (HL:W.findIn K (.ref BA) "inner" = some none)
  (HM:Yz K BB)
  (HN:Mk K BB BT)
  (HO:Yu K BB "depth" BL)
  (HP:Yu K BB "parts" BI)
  (HQ:Yu K BB "weight" BK)
  (HR:W.findIn K (.ref BB) "length" = some none)
  (HS:W.findIn K (.ref BB) "starts" = some none)
  (HT:Yz K BC)
  (HU:Mk K BC BW)
  (HV:Yu K BC "depth" BL)
  (HW:Yu K BC "weight" BK)
  (HX:W.findIn K (.ref BC) "one" = some none)
  (HY:W.findIn K (.ref BC) "other" = some none)
  (HZ:Yz K BD)
  (Ia:Mk K BD Ca)
  (Ib:Yu K BD "depth" BL)
  (Ic:Yu K BD "weight" BK)
  (Ie:W.findIn K (.ref BD) "one" = some none)
  (If:W.findIn K (.ref BD) "other" = some none)
  (Ig:Yz K BE)
  (Ih:Mk K BE Ce)
  (Ii:Yu K BE "depth" BL)
  (Ij:Yu K BE "weight" BK)
  (Ik:W.findIn K (.ref BE) "days" = some none)
  (Il:W.findIn K (.ref BE) "inner" = some none)
  (Im:Yz K BF)
  (Io:Mk K BF Ci)
  (Ip:W.findIn K (.ref BF) "stop_rows" = some none)
  (Iq:W.findIn K (.ref BF) "walk_rows" = some none)
  (Ir:W.findIn K (.ref BF) "rule_rows" = some none)
  (Is:W.findIn K (.ref BF) "ticket_rows" = some none)
  (It:W.findIn K (.ref BF) "trip_rows" = some none)
  (Iu:Yz K BG)
  (Iv:Mk K BG Cw)
  (Iw:W.findIn K (.ref BG) "timetable" = some none)
  (Ix:W.findIn K (.ref BG) "taken" = some none)
  (Iy:W.findIn K (.ref BG) "lateness" = some none)
  (Iz:Ww K By)
  (IA:W.kitOne K (.ref By) (.ref By)=some true)
  (IB:Ww K Bz)
  (IC:W.kitOne K (.ref Bz) (.ref By)=some true)
  (ID:Ww K BA)
  (IE:W.kitOne K (.ref BA) (.ref By)=some true)
  (IF:Ww K BB)
  (IG:W.kitOne K (.ref BB) (.ref By)=some true)
  (IH:Ww K BC)
  (II:W.kitOne K (.ref BC) (.ref By)=some true)
  (IJ:Ww K BD)
  (IK:W.kitOne K (.ref BD) (.ref By)=some true)
  (IL:Ww K BE)
  (IM:W.kitOne K (.ref BE) (.ref By)=some true)
  (IN:E4 K Bt)
  (IP:X5 K Bt)
  (IQ:KX K Bt [(Bh,false),(Bi,false),(Bj,false),(Bk,false),(Bl,false),(Bm,false),(Bn,false),(Bo,false),(Bp,false),(Bq,false),(Br,false),(Bs,false),(Bt,true),(Bu,false),(Bv,false),(Bx,false),(Bw,false)])
  (IR:W.kitOne K (.ref Bt) (.type "ValueError")=some true)
  (IS:W.exmOne K (.ref Bt) (.ref Bg)=some true)
  (IT:E4 K Br)
  (IU:X5 K Br)
  (IV:KX K Br [(Bh,false),(Bi,false),(Bj,false),(Bk,false),(Bl,false),(Bm,false),(Bn,false),(Bo,false),(Bp,false),(Bq,false),(Br,true),(Bs,false),(Bt,false),(Bu,false),(Bv,false),(Bx,false),(Bw,false)])
  (IW:W.kitOne K (.ref Br) (.type "ValueError")=some true)
  (IX:W.exmOne K (.ref Br) (.ref Bg)=some true)
  (IY:CY.code=.ref CF)
  (IZ:K.lookup CF=some ⟨Er,Et,.fields Ev,Ex⟩)
  (Ja:(Ev[11]?:Option Value)=some (.ref CG))
  (Jb:K.lookup CG=none)
  (Jc:W.codeHdIn K CF CG=true)
  (Jd:CG∈Ez)
  (Je:Dp.code=.ref CH)
  (Jf:K.lookup CH=some ⟨Es,Eu,.fields Ew,Ey⟩)
  (Jg:(Ew[11]?:Option Value)=some (.ref CI))
  (Jh:K.lookup CI=none)
  (Ji:W.codeHdIn K CH CI=true)
  (Jj:CI∈Ez)
  (Jk:CG≠CI)
  : ∃t:Yd,Zv K mg t/\t.Yo∈Ez/\t.Y7∈Ez :=
 ⟨⟨Ay,CJ,Az,CK,AA,CL,AB,CM,AC,CN,AD,CO,AE,CP,AF,CQ,AG,CR,AH,CS,AI,CT,AJ,CU,AK,CV,AL,CW,AM,CY,AN,[Value.none],AO,CZ,AP,Da,AQ,Db,AR,Dc,AS,Dd,AT,De,AU,Df,AV,Dg,AW,Dh,AX,Di,AY,Dj,AZ,Dk,Ba,Dl,Bb,Dm,Bc,Dn,Bd,Do,Be,Dp,Bf,Dq,BH,Dr,BI,Ds,BJ,Dt,BK,Du,BL,Dv,BM,Dw,BN,Dx,BO,Dy,BP,Dz,BQ,DA,BR,DB,BS,DC,BT,DD,BU,DE,BV,DF,BW,DG,BX,DH,BY,DI,BZ,DJ,Ca,DK,Cb,DL,Cc,DN,Cd,DO,Ce,DP,Cf,DQ,Cg,DR,Ch,DS,Ci,DT,Cj,DU,Ck,DV,Cl,DW,Cm,DX,Cn,DY,Co,DZ,Cp,Ea,Cq,Eb,Cr,Ec,Cs,Ed,Ct,Ee,Cu,Ef,Cv,Eg,Cw,Eh,Cx,Ei,Cy,Ej,Cz,Ek,CA,El,CB,Em,CC,En,CD,Eo,CE,Ep,Bg,Bh,Bi,Bj,Bk,Bl,Bm,Bn,Bo,Bp,Bq,Br,Bs,Bt,Bu,Bv,Bw,Bx,By,Bz,BA,BB,BC,BD,BE,BF,BG,CF,CG,CH,CI,K⟩,⟨W.mg_none_of X G Fc,
  W.mg_none_of X G Fd,
  W.mg_none_of X G Fe,
  W.mg_none_of X G Ff,
  W.mg_none_of X G Fg,
  W.mg_none_of X G Fh,
  W.mg_none_of X G Fi,
  W.mg_none_of X G Fj,
  W.mg_none_of X G Fk,
  W.mg_none_of X G Fl,
  W.mg_none_of X G Fm,
  W.mg_none_of X G Fn,
  W.mg_none_of X G Fo,
  W.mg_none_of X G Fp,
  W.mg_none_of X G Fq,
  W.mg_none_of X G Fr,
  W.mg_none_of X G Fs,
  W.mg_none_of X G Ft,
  ⟨_,W.mg_of X G Fu⟩,
  ⟨_,W.mg_of X G Fv⟩,
  ⟨_,W.mg_of X G Fw⟩,
  ⟨_,W.mg_of X G Fx⟩,
  ⟨_,W.mg_of X G Fy⟩,
  ⟨_,W.mg_of X G Fz⟩,
  ⟨_,W.mg_of X G FA⟩,
  ⟨_,W.mg_of X G FB⟩,
  ⟨_,W.mg_of X G FC⟩,
  ⟨_,W.mg_of X G FD⟩,
  ⟨_,W.mg_of X G FE⟩,
  ⟨_,W.mg_of X G FF⟩,
  ⟨_,W.mg_of X G FG⟩,
  ⟨_,W.mg_of X G FH⟩,
  ⟨_,W.mg_of X G FI⟩,
  ⟨_,W.mg_of X G FJ⟩,
  ⟨_,W.mg_of X G FK⟩,
  ⟨_,W.mg_of X G FL⟩,
  ⟨_,W.mg_of X G FM⟩,
  ⟨_,W.mg_of X G FN⟩,
  ⟨_,W.mg_of X G FO⟩,
  ⟨_,W.mg_of X G FP⟩,
  ⟨_,W.mg_of X G FQ⟩,
  ⟨_,W.mg_of X G FR⟩,
  YJ X G FS (Y0 fun _ _ _ _ _ _ _=>R),
  YJ X G FT (X9 fun _ _ _ _ _ _ _ _ _=>R),
  YJ X G FU (X9 fun _ _ _ _ _ _ _ _ _=>R),
  YJ X G FV (U8 fun _ _ _ _ _ _ _ _ _ _=>R),
  YJ X G FW (Y0 fun _ _ _ _ _ _ _=>R),
  YJ X G FX (Xg fun _ _ _ _ _ _ _ _=>R),
  YJ X G FY (Y0 fun _ _ _ _ _ _ _=>R),
  YJ X G FZ (Y0 fun _ _ _ _ _ _ _=>R),
  YJ X G Ga (Xg fun _ _ _ _ _ _ _ _=>R),
  YJ X G Gb (Xg fun _ _ _ _ _ _ _ _=>R),
  YJ X G Gc (Y0 fun _ _ _ _ _ _ _=>R),
  YJ X G Gd (Xg fun _ _ _ _ _ _ _ _=>R),
  YJ X G Ge (X9 fun _ _ _ _ _ _ _ _ _=>R),
  YJ X G Gf (Y0 fun _ _ _ _ _ _ _=>R),
  Gg,
  .cons R (.nil),
  (Zcg Gg).1,
  W.mg_of X G EA,
  (Zcg Gg).2,
  YJ X G Gh (X9 fun _ _ _ _ _ _ _ _ _=>R),
  YJ X G Gi (Xg fun _ _ _ _ _ _ _ _=>R),
  YJ X G Gj (Xg fun _ _ _ _ _ _ _ _=>R),
  YJ X G Gk (Xg fun _ _ _ _ _ _ _ _=>R),
  YJ X G Gl (Xg fun _ _ _ _ _ _ _ _=>R),
  YJ X G Gm (Y0 fun _ _ _ _ _ _ _=>R),
  YJ X G Gn (Xg fun _ _ _ _ _ _ _ _=>R),
  YJ X G Go (X9 fun _ _ _ _ _ _ _ _ _=>R),
  YJ X G Gp (on0 fun _ _ _ _ _ _=>R),
  YJ X G Gq (Y0 fun _ _ _ _ _ _ _=>R),
  YJ X G Gr (Y0 fun _ _ _ _ _ _ _=>R),
  YJ X G Gs (Y0 fun _ _ _ _ _ _ _=>R),
  YJ X G Gt (U8 fun _ _ _ _ _ _ _ _ _ _=>R),
  YJ X G Gu (U8 fun _ _ _ _ _ _ _ _ _ _=>R),
  YJ X G Gv (MW fun _ _ _ _ _ _ _ _ _ _ _=>R),
  YJ X G Gw (U8 fun _ _ _ _ _ _ _ _ _ _=>R),
  YJ X G Gx (on6 fun _ _ _ _ _ _ _ _ _ _ _ _=>R),
  YJ X G Gy (Y0 fun _ _ _ _ _ _ _=>R),
  Z8 Gz (Y0 fun _ _ _ _ _ _ _=>R),
  Z8 GA (Y0 fun _ _ _ _ _ _ _=>R),
  Z8 GB (Xg fun _ _ _ _ _ _ _ _=>R),
  Z8 GC (Y0 fun _ _ _ _ _ _ _=>R),
  Z8 GD (Y0 fun _ _ _ _ _ _ _=>R),
  Z8 GE (Xg fun _ _ _ _ _ _ _ _=>R),
  Z8 GF (Y0 fun _ _ _ _ _ _ _=>R),
  Z8 GG (Xg fun _ _ _ _ _ _ _ _=>R),
  Z8 GH (U8 fun _ _ _ _ _ _ _ _ _ _=>R),
  Z8 GI (Y0 fun _ _ _ _ _ _ _=>R),
  Z8 GJ (Y0 fun _ _ _ _ _ _ _=>R),
  Z8 GK (Xg fun _ _ _ _ _ _ _ _=>R),
  Z8 GL (X9 fun _ _ _ _ _ _ _ _ _=>R),
  Z8 GM (Y0 fun _ _ _ _ _ _ _=>R),
  Z8 GN (Xg fun _ _ _ _ _ _ _ _=>R),
  Z8 GO (X9 fun _ _ _ _ _ _ _ _ _=>R),
  Z8 GP (Y0 fun _ _ _ _ _ _ _=>R),
  Z8 GQ (Y0 fun _ _ _ _ _ _ _=>R),
  Z8 GR (Xg fun _ _ _ _ _ _ _ _=>R),
  Z8 GS (X9 fun _ _ _ _ _ _ _ _ _=>R),
  Z8 GT (Y0 fun _ _ _ _ _ _ _=>R),
  Z8 GU (Y0 fun _ _ _ _ _ _ _=>R),
  Z8 GV (Xg fun _ _ _ _ _ _ _ _=>R),
  Z8 GW (X9 fun _ _ _ _ _ _ _ _ _=>R),
  Z8 GX (Y0 fun _ _ _ _ _ _ _=>R),
  Z8 GY (Y0 fun _ _ _ _ _ _ _=>R),
  Z8 GZ (Xg fun _ _ _ _ _ _ _ _=>R),
  Z8 Ha (Y0 fun _ _ _ _ _ _ _=>R),
  Z8 Hb (U8 fun _ _ _ _ _ _ _ _ _ _=>R),
  Z8 Hc (U8 fun _ _ _ _ _ _ _ _ _ _=>R),
  Z8 Hd (X9 fun _ _ _ _ _ _ _ _ _=>R),
  Z8 He (MW fun _ _ _ _ _ _ _ _ _ _ _=>R),
  Z8 Hf (U8 fun _ _ _ _ _ _ _ _ _ _=>R),
  Z8 Hg (Xg fun _ _ _ _ _ _ _ _=>R),
  Z8 Hh (Xg fun _ _ _ _ _ _ _ _=>R),
  Z8 Hi (Xg fun _ _ _ _ _ _ _ _=>R),
  Z8 Hj (X9 fun _ _ _ _ _ _ _ _ _=>R),
  Z8 Hk (Y0 fun _ _ _ _ _ _ _=>R),
  Z8 Hl (Xg fun _ _ _ _ _ _ _ _=>R),
  Z8 Hm (Xg fun _ _ _ _ _ _ _ _=>R),
  Z8 Hn (Xg fun _ _ _ _ _ _ _ _=>R),
  Z8 Ho (Xg fun _ _ _ _ _ _ _ _=>R),
  Z8 Hp (MW fun _ _ _ _ _ _ _ _ _ _ _=>R),
  Z8 Hq (X9 fun _ _ _ _ _ _ _ _ _=>R),
  Z8 Hr (X9 fun _ _ _ _ _ _ _ _ _=>R),
  Z8 Hs (X9 fun _ _ _ _ _ _ _ _ _=>R),
  Z8 Ht (X9 fun _ _ _ _ _ _ _ _ _=>R),
  Z8 Hu (X9 fun _ _ _ _ _ _ _ _ _=>R),
  Z8 Hv (X9 fun _ _ _ _ _ _ _ _ _=>R),
  Z8 Hw (X9 fun _ _ _ _ _ _ _ _ _=>R),
  Hx,
  Hy,
  Hz,
  HA,
  HB,
  HC,
  HD,
  HE,
  HF,
  HG,
  HH,
  HI,
  HJ,
  HK,
  HL,
  HM,
  HN,
  HO,
  HP,
  HQ,
  HR,
  HS,
  HT,
  HU,
  HV,
  HW,
  HX,
  HY,
  HZ,
  Ia,
  Ib,
  Ic,
  Ie,
  If,
  Ig,
  Ih,
  Ii,
  Ij,
  Ik,
  Il,
  Im,
  Io,
  Ip,
  Iq,
  Ir,
  Is,
  It,
  Iu,
  Iv,
  Iw,
  Ix,
  Iy,
  Iz,
  IA,
  IB,
  IC,
  ID,
  IE,
  IF,
  IG,
  IH,
  II,
  IJ,
  IK,
  IL,
  IM,
  W.mg_of X G EB,
  W.mg_of X G EC,
  W.mg_of X G ED,
  W.mg_of X G EE,
  W.mg_of X G EF,
  W.mg_of X G EG,
  W.mg_of X G EH,
  W.mg_of X G EI,
  W.mg_of X G EJ,
  W.mg_of X G EK,
  W.mg_of X G EL,
  W.mg_of X G EM,
  W.mg_of X G EN,
  W.mg_of X G EO,
  W.mg_of X G EP,
  W.mg_of X G EQ,
  W.mg_of X G ER,
  W.mg_of X G ES,
  W.mg_of X G ET,
  W.mg_of X G EU,
  W.mg_of X G EV,
  W.mg_of X G EW,
  W.mg_of X G EX,
  W.mg_of X G EY,
  W.mg_of X G EZ,
  W.mg_of X G Fa,
  W.mg_of X G Fb,
  IN,
  IP,
  IQ,
  IR,
  IS,
  IT,
  IU,
  IV,
  IW,
  IX,
  IY,
  Jc,
  Jb,
  Je,
  Ji,
  Jh,
  Jk,
  rfl⟩,Jd,Jj⟩
theorem Zk4{x:Str}{st:Stmt}{f D:Addr}{u kV g e c ct i:Value}{v h j:OE}{B y:Oy}{n:Nat}{ds:OA}(l:K.lookup f=some ⟨u,v,.func (W.fnOf x x (UB st) (Wf st) (Zw st) (.ref D) kV g e h c ct),B⟩)(q:W.codeIn K c x=true)(t:K.lookup D=some ⟨i,j,.seq (List.toArray ds) n,y⟩)(k:W.keepIn K (.ref f)=true) :
  E8 K x x st f (W.fnOf x x (UB st) (Wf st) (Zw st) (.ref D) kV g e h c ct) D ds:=⟨⟨_,_,_,_,_,_,_,_,_,R,l,q⟩,⟨_,_,t,R⟩,k⟩
end K30
local macro_rules|`(command|#where)=>do
 let n:=`PySem.Challenge
 let f(k:String)(i:Nat):=Lean.mkIdent (.str `PySem.W.Fast s!"tw{((n.str "cw_roadbook_k30_runs_behind_notices_holds").str s!"{k}{i}").hash}")
 let x:=(Array.range 1287).map (f "o_")++#[41].map (f "env_")++#[39,46,1247].map (f "heap_")++#[49,71,86,101,116,131,146,161,176,191,206,221,236,258,273,295,310,325,373,396,450,493,543,586,636,686,736,764,1014,1028,1119,1198].map (f "sts_")++#[47,70,85,100,115,130,145,160,175,190,205,220,235,257,272,294,309,324,372,395,449,492,542,585,635,685,735,763,929,1010,1027,1118,1197,1246].map (f "tree_")++#[39].map (f "view_")
 return Lean.mkNullNode (←x.mapM λi=>`(theorem $i:ident:True:=trivial))
#where
def PySem.W.Fast.tw11090729173275595585:=0
open PySem PySem.W PyProof.Rows
set_option maxRecDepth 100000 in
set_option maxHeartbeats 0 in
theorem PySem.Challenge.cw_roadbook_k30_runs_behind_notices_holds : PySem.Challenge.rw_roadbook_k30_runs_behind_notices.Holds := by
 w_on;o_law;k_head;(case hw=>w_witness2)
 k_fill
 refine L2.ZfS (l:=PySem.Challenge.rw_roadbook_k30_runs_behind_notices) (n:=63) (k:=60) (x := "_law_script") (CX:=L2.Zo) (sp:=K30.sp_law) rfl (by lia) rfl ⟨rfl,by lia,by lia⟩ (fun w h Y=>⟨PySem.W.km_in_of Y,PySem.W.km_tabs_of Y⟩) ?F (fun _ _ _ a ns hl hT hS=>⟨a,ns,rfl,hT,hS,hl,fun _=>rfl⟩) fun _ _ _ _ z=>z
 case F =>
  intro Ez eu w mg fa h KX G hmg
  have T:∃t,K30.Zv (L2.yP KX) mg t/\t.Yo∈Ez/\t.Y7∈Ez:=by
   dsimp only[L2.yP]
   refine' K30.all_mk (Ez:=Ez) KX G ?EA ?EB ?EC ?ED ?EE ?EF ?EG ?EH ?EI ?EJ ?EK ?EL ?EM ?EN ?EO ?EP ?EQ ?ER ?ES ?ET ?EU ?EV ?EW ?EX ?EY ?EZ ?Fa ?Fb ?Fc ?Fd ?Fe ?Ff ?Fg ?Fh ?Fi ?Fj ?Fk ?Fl ?Fm ?Fn ?Fo ?Fp ?Fq ?Fr ?Fs ?Ft ?Fu ?Fv ?Fw ?Fx ?Fy ?Fz ?FA ?FB ?FC ?FD ?FE ?FF ?FG ?FH ?FI ?FJ ?FK ?FL ?FM ?FN ?FO ?FP ?FQ ?FR ?FS ?FT ?FU ?FV ?FW ?FX ?FY ?FZ ?Ga ?Gb ?Gc ?Gd ?Ge ?Gf ?Gg ?Gh ?Gi ?Gj ?Gk ?Gl ?Gm ?Gn ?Go ?Gp ?Gq ?Gr ?Gs ?Gt ?Gu ?Gv ?Gw ?Gx ?Gy ?Gz ?GA ?GB ?GC ?GD ?GE ?GF ?GG ?GH ?GI ?GJ ?GK ?GL ?GM ?GN ?GO ?GP ?GQ ?GR ?GS ?GT ?GU ?GV ?GW ?GX ?GY ?GZ ?Ha ?Hb ?Hc ?Hd ?He ?Hf ?Hg ?Hh ?Hi ?Hj ?Hk ?Hl ?Hm ?Hn ?Ho ?Hp ?Hq ?Hr ?Hs ?Ht ?Hu ?Hv ?Hw ?Hx ?Hy ?Hz ?HA ?HB ?HC ?HD ?HE ?HF ?HG ?HH ?HI ?HJ ?HK ?HL ?HM ?HN ?HO ?HP ?HQ ?HR ?HS ?HT ?HU ?HV ?HW ?HX ?HY ?HZ ?Ia ?Ib ?Ic ?Ie ?If ?Ig ?Ih ?Ii ?Ij ?Ik ?Il ?Im ?Io ?Ip ?Iq ?Ir ?Is ?It ?Iu ?Iv ?Iw ?Ix ?Iy ?Iz ?IA ?IB ?IC ?ID ?IE ?IF ?IG ?IH ?II ?IJ ?IK ?IL ?IM ?IN ?IP ?IQ ?IR ?IS ?IT ?IU ?IV ?IW ?IX ?IY ?IZ ?Ja ?Jb ?Jc ?Jd ?Je ?Jf ?Jg ?Jh ?Ji ?Jj ?Jk
   (case EA|EB|EC|ED|EE|EF|EG|EH|EI|EJ|EK|EL|EM|EN|EO|EP|EQ|ER|ES|ET|EU|EV|EW|EX|EY|EZ|Fa|Fb|Fc|Fd|Fe|Ff|Fg|Fh|Fi|Fj|Fk|Fl|Fm|Fn|Fo|Fp|Fq|Fr|Fs|Ft|Fu|Fv|Fw|Fx|Fy|Fz|FA|FB|FC|FD|FE|FF|FG|FH|FI|FJ|FK|FL|FM|FN|FO|FP|FQ|FR=>k_is)
   (case FS|FT|FU|FV|FW|FX|FY|FZ|Ga|Gb|Gc|Gd|Ge|Gf=>refine' ⟨?a,L2.Mi ?b ?c ?d⟩;(case a|b|c|d=>k_is))
   (case Gg=>refine' K30.Zk4 ?a ?b ?c ?d;(case a|b|c|d=>k_is))
   (case Gh|Gi|Gj|Gk|Gl|Gm|Gn|Go|Gp|Gq|Gr|Gs|Gt|Gu|Gv|Gw|Gx|Gy=>refine' ⟨?a,L2.Mi ?b ?c ?d⟩;(case a|b|c|d=>k_is))
   (case Gz|GA|GB|GC|GD|GE|GF|GG|GH|GI|GJ|GK|GL|GM|GN|GO|GP|GQ|GR|GS|GT|GU|GV|GW|GX|GY|GZ|Ha|Hb|Hc|Hd|He|Hf|Hg|Hh|Hi|Hj|Hk|Hl|Hm|Hn|Ho|Hp|Hq|Hr|Hs|Ht|Hu|Hv|Hw=>refine' ⟨⟨?a,?b,?c⟩,L2.Mi ?d ?e ?f⟩;(case a|b|c|d|e|f=>k_is))
   (case Hx=>refine' ⟨?a,?b,?c,?d⟩;(case a|b|c|d=>k_is))
   (case Hy=>refine' ⟨?a,?b,?c⟩;(case a|b|c=>k_is))
   (case Hz|HA=>refine' ⟨?a,?b,?c,?d⟩;(case a|b|c|d=>k_is))
   (case HB|HC|HD=>refine' ⟨?a,?b,?c⟩;(case a|b|c=>k_is))
   (case HE=>k_is)
   (case HF|HG=>refine' ⟨?a,?b,?c,?d⟩;(case a|b|c|d=>k_is))
   (case HH|HI=>refine' ⟨?a,?b,?c⟩;(case a|b|c=>k_is))
   (case HJ|HK|HL=>k_is)
   (case HM|HN=>refine' ⟨?a,?b,?c,?d⟩;(case a|b|c|d=>k_is))
   (case HO|HP|HQ=>refine' ⟨?a,?b,?c⟩;(case a|b|c=>k_is))
   (case HR|HS=>k_is)
   (case HT|HU=>refine' ⟨?a,?b,?c,?d⟩;(case a|b|c|d=>k_is))
   (case HV|HW=>refine' ⟨?a,?b,?c⟩;(case a|b|c=>k_is))
   (case HX|HY=>k_is)
   (case HZ|Ia=>refine' ⟨?a,?b,?c,?d⟩;(case a|b|c|d=>k_is))
   (case Ib|Ic=>refine' ⟨?a,?b,?c⟩;(case a|b|c=>k_is))
   (case Ie|If=>k_is)
   (case Ig|Ih=>refine' ⟨?a,?b,?c,?d⟩;(case a|b|c|d=>k_is))
   (case Ii|Ij=>refine' ⟨?a,?b,?c⟩;(case a|b|c=>k_is))
   (case Ik|Il=>k_is)
   (case Im|Io=>refine' ⟨?a,?b,?c,?d⟩;(case a|b|c|d=>k_is))
   (case Ip|Iq|Ir|Is|It=>k_is)
   (case Iu|Iv=>refine' ⟨?a,?b,?c,?d⟩;(case a|b|c|d=>k_is))
   (case Iw|Ix|Iy=>k_is)
   (case Iz=>refine' ⟨?a,?b,?c,?d⟩;(case a|b|c|d=>k_is))
   (case IA=>kit_is)
   (case IB=>refine' ⟨?a,?b,?c,?d⟩;(case a|b|c|d=>k_is))
   (case IC=>kit_is)
   (case ID=>refine' ⟨?a,?b,?c,?d⟩;(case a|b|c|d=>k_is))
   (case IE=>kit_is)
   (case IF=>refine' ⟨?a,?b,?c,?d⟩;(case a|b|c|d=>k_is))
   (case IG=>kit_is)
   (case IH=>refine' ⟨?a,?b,?c,?d⟩;(case a|b|c|d=>k_is))
   (case II=>kit_is)
   (case IJ=>refine' ⟨?a,?b,?c,?d⟩;(case a|b|c|d=>k_is))
   (case IK=>kit_is)
   (case IL=>refine' ⟨?a,?b,?c,?d⟩;(case a|b|c|d=>k_is))
   (case IM=>kit_is)
   (case IN=>refine' ⟨?_⟩;k_exc)
   (case IP=>refine' L2.uE ?a ?b ?c ?d ?e ?f ?g ?h;(case a|b|c|d|e|f|g|h=>k_is))
   (case IQ=>refine' L2.YH ?_ (L2.YH ?_ (L2.YH ?_ (L2.YH ?_ (L2.YH ?_ (L2.YH ?_ (L2.YH ?_ (L2.YH ?_ (L2.YH ?_ (L2.YH ?_ (L2.YH ?_ (L2.YH ?_ (L2.YH ?_ (L2.YH ?_ (L2.YH ?_ (L2.YH ?_ (L2.YH ?_ (L2.uF)))))))))))))))))<;>kit_is)
   (case IR=>kit_is)
   (case IS=>kts_exm)
   (case IT=>refine' ⟨?_⟩;k_exc)
   (case IU=>refine' L2.uE ?a ?b ?c ?d ?e ?f ?g ?h;(case a|b|c|d|e|f|g|h=>k_is))
   (case IV=>refine' L2.YH ?_ (L2.YH ?_ (L2.YH ?_ (L2.YH ?_ (L2.YH ?_ (L2.YH ?_ (L2.YH ?_ (L2.YH ?_ (L2.YH ?_ (L2.YH ?_ (L2.YH ?_ (L2.YH ?_ (L2.YH ?_ (L2.YH ?_ (L2.YH ?_ (L2.YH ?_ (L2.YH ?_ (L2.uF)))))))))))))))))<;>kit_is)
   (case IW=>kit_is)
   (case IX=>kts_exm)
   (case IY=>exact rfl)
   (case IZ=>k_is)
   (case Ja=>exact rfl)
   (case Jb=>first|k_is|exact rfl|decide +kernel)
   (case Jc=>first|kernel_rfl|k_is|exact rfl|decide +kernel)
   (case Jd=>rw[eu];lia)
   (case Je=>exact rfl)
   (case Jf=>k_is)
   (case Jg=>exact rfl)
   (case Jh=>first|k_is|exact rfl|decide +kernel)
   (case Ji=>first|kernel_rfl|k_is|exact rfl|decide +kernel)
   (case Jj=>rw[eu];lia)
   (case Jk=>decide)
  obtain⟨t,T,m_runs_between,m_law_noted⟩:=T
  have e0:=hmg.symm.trans T.RD.m
  cases e0
  refine' ⟨[(t.A9,t.Yo),(t.G8,t.Y7)],L2.G1 ⟨⟨⟨T.ZiE,m_runs_between⟩,T.ZiF⟩,⟨⟨T.ZiG,m_law_noted⟩,T.ZiH⟩,trivial⟩,t.PM,?b,fun base kb nb hC hB=>K30.Zk3 T (hC _ (.head _)) (hC _ (.tail _ (.head _))) hB⟩
  obtain⟨oc,od,kV,doc,pm,an,cdv,ct,osl,e,_,_⟩:=T.RD.F.ex
  rw[e]
  exact fun s Ez=>.of_eq rfl
