import PyProof.Rows.All
import Lean
import PyProof.EqAt
import PyProof.EqKinds
import PyProof.TupleCall
import KE.KIntText
import PyProof.CompFree
import PyProof.P3Eq
import PyProof.NeData
import PyProof.StrLawsTight
import PyProof.StrLawsReplace
import PyProof.StrCalls2
import KE.IntTextLaws
import KE.KMinBuiltin
import PyProof.WalkInts
import PyProof.Rows.CallKwBuiltin
import PyProof.Rows.CallKw2
import PyProof.SetScanFacts
import PyProof.SetKind
import PyProof.DictStraight
import PyProof.Rows.SetFrom
import PyProof.DictIter
import PyProof.Walks
import PyProof.FactsAll.set_1
import PyProof.Rows.TupIn
import PyProof.CollectWalk
import PyProof.FactsAll.set_2
import PyProof.Rows.SortWalk
import PyProof.MeetsStr
import PyProof.StrLaws
import PyProof.StrBlockL
import PyProof.ListRange
import PyProof.ZipIter
import PyProof.EnumMake
import PyProof.Rows.EnumRows
import PyProof.Rows.FactsT2
import PyProof.DictWalks
import PyProof.Conv_int_bool
import KE.KRevSl
import KE.KDictList
import KE.KLam
import KE.KMinKey
import PyProof.StrWalks
import PyProof.Rows.SortStr
import KE.KFromBytes
import KE.KPairComp
import KE.KTryOn
import KE.KRevIter
import KE.KNestM
import KE.KDictOf
import KE.RegKIsAll
import KE.RegKTryMore
import PySem.Challenge.RW_roadbook_k06_nets_put_together
noncomputable section
local macro_rules|`(tactic| lia) => `(tactic| first|decide +kernel|(intros; contradiction)|lia -verbose|omega|(intro _ _ _ _ h; cases h; subst_vars; rfl))
local macro_rules|`(tactic|erw[$t:term])=>`(tactic|refine $t)
local macro_rules|`(tactic|ext $p:rcasesPat $h:ident)=>`(tactic|obtain $p:rcasesPat:=$h)
local macro_rules | `(()) => `(by lia)
theorem L2.zL9{n:Nat}(h:Nat.ble n 99=true):n<=PySem.sizeLine:=Nat.le_trans (Nat.le_of_ble_eq_true h) (by decide)
set_option maxRecDepth 100000
set_option maxHeartbeats 4000000
set_option bootstrap.genMatcherCode false
set_option Elab.async false
set_option linter.all false
namespace L2
open PySem PySem.Spec PyProof.Rows
def Sa:=@wpAny_bind
def Sb:=@wpAny_pure
def Sc:=@Heap.get?_push_of_some
def Sd:=@Heap.get?_push_size
def Se:=@Heap.lt_size
def Sf:=@Nat.ne_of_lt
def Sg:=@Nat.le_refl
def Sh:=@Nat.le_trans
def Si:=@Nat.lt_of_lt_of_le
def Sj:=@Nat.lt_of_le_of_lt
def Sk:=@Nat.zero_le
def Sl:=@Nat.lt_irrefl
def Sm:=@Nat.lt_succ_self
def Sn:=@Nat.lt_succ_of_lt
def So:=@Option.some.inj
def Sr:=@List.getElem?_eq_some_iff
def Ss:=@List.getElem?_eq_getElem
def Su:=@List.length_append
def Sv:=@List.length_map
def Sw:=@List.length_singleton
def Sx:=@List.length_take
def Sy:=@List.length_cons
def Sz:=@List.length_replicate
def SA:=@List.length_drop
def SB:=@List.mem_cons_of_mem
def SC:=@List.mem_cons_self
def SD:=@List.mem_singleton
def SE:=@List.mem_cons
def SF:=@List.mem_append
def SG:=@List.mem_append_right
def SH:=@List.mem_append_left
def SI:=@List.mem_map
def SJ:=@List.mem_of_getElem?
def SK:=@List.map_append
def SL:=@List.map_cons
def SM:=@List.size_toArray
def SO:=@Bool.false_ne_true
def SQ:=@decide_eq_true
def SR:=@decide_eq_false
def SS:=@of_decide_eq_true
def SU:=@of_decide_eq_false
def SV:=@if_neg
def SW:=@if_pos
def SX:=@Int.natCast_emod
def SY:=@Int.natCast_ediv
def SZ:=@List.take_of_length_le
def S0:=@List.take_add_one
def Oa:=@List.getElem?_map
def Ob:=@List.getElem?_append_right
def Oc:=@List.append_nil
def Od:=@List.append_assoc
def Oe:=@List.map_map
def Of:=@Option.map_eq_some_iff
def Og:=@Nat.not_lt
def Oh:=@Bool.eq_false_iff
def Oi:=@List.getElem_mem
def Oj:=@List.range_succ
def Ol:=@List.nodup_cons
def Om:=@Nat.le_add_left
def On:=@Nat.le_add_right
def Oo:=@Nat.mod_lt
def Op:=@wpAny_load
def Oq:=@wpAny_mono
def Os:=@absurd
def Ot:=@Bool.true_and
abbrev Ou:=Value->Shared->Prop
abbrev Ov:=List (Addr×Obj)
abbrev Ow:=Str->Option Value
abbrev Ox:=W.Frag
abbrev Oy:=List (Str×Addr)
abbrev Oz:=Array (Option Value)
abbrev OA:=Unit->Shared->Prop
abbrev OB:=List Value
abbrev OC:=List Str
abbrev OD:=List Expr
abbrev OE:=List Int
abbrev OF:=Option Addr
abbrev OG:=List Nat
abbrev OH:=List Addr
abbrev OI:=SetTable
abbrev OJ:=FuncData
abbrev OK:=Str.ofString
def R{α:Sort u}{a:α}:a=a:=rfl
abbrev ZF:=Sum Int Str
def Q0:ZF->Value->Bool
 |.inl k,v=>Value.isInt k v
 |.inr x,v=>Value.isStrOf x v
def ZcH(w:World):ZF->Int
 |.inl k=>hashInt k
 |.inr x=>hashStr w x
theorem UO:∀{k:ZF} {v:Value},Q0 k v=true->(∃i t,k=Sum.inl i/\v=Value.int i t)\/(∃x t,k=Sum.inr x/\v=Value.str x t)
 |.inl i,v,h=>by
  obtain⟨t,e⟩:=Value.isInt_shape (k:=i) (v:=v) h;exact .inl ⟨i,t,R,e⟩
 |.inr x,v,h=>by
  obtain⟨t,e⟩:=Value.isStrOf_shape (x:=x) (v:=v) h;exact .inr ⟨x,t,R,e⟩
def ZcI(i:Int)(t:Tok):Q0 (.inl i) (.int i t)=true:=by simp[Q0,Value.isInt]
def ZcJ(x:Str)(t:Tok):Q0 (.inr x) (.str x t)=true:=by simp[Q0,Value.isStrOf]
def ZcK(a b:Int):decide ((Sum.inl a:ZF)=Sum.inl b)=(a==b):=by
 by_cases e:a=b;subst e;simp;have h:¬ (Sum.inl a:ZF)=Sum.inl b:=λq=>e (Sum.inl.inj q);rw[SR h];exact(beq_eq_false_iff_ne.mpr e).symm
def ZcL(a b:Str):decide ((Sum.inr a:ZF)=Sum.inr b)=decide (a=b):=by
 by_cases e:a=b;subst e;simp;have h:¬ (Sum.inr a:ZF)=Sum.inr b:=λq=>e (Sum.inr.inj q);rw[SR h,SR e]
def ZcM(a:Int)(b:Str):decide ((Sum.inl a:ZF)=Sum.inr b)=false:=SR (λq=>nomatch q)
def ZcN(a:Str)(b:Int):decide ((Sum.inr a:ZF)=Sum.inl b)=false:=SR (λq=>nomatch q)
def WG(prog:Program)(w:World):PySem.KeyKind prog w ZF where
 is:=Q0
 hash:=ZcH w
 inj:=λv a b ha f=>by
  rcases UO ha with⟨i,t,rfl,rfl⟩|⟨x,t,rfl,rfl⟩;rcases UO f with⟨j,u,rfl,e⟩|⟨y,u,rfl,e⟩;injection e with c _;rw[c];exact nomatch e;rcases UO f with⟨j,u,rfl,e⟩|⟨y,u,rfl,e⟩;exact nomatch e;injection e with c _;rw[c]
 byValue:=λk v h=>by
  rcases UO h with⟨i,t,rfl,rfl⟩|⟨x,t,rfl,rfl⟩<;>rfl
 pyHash:=λd h=>by
  rcases UO d with⟨i,t,rfl,rfl⟩|⟨x,t,rfl,rfl⟩;exact wpAny_pyHash_int h;exact wpAny_pyHash_str h
 eqBool:=λg d h=>by
  rcases UO g with⟨i,t,rfl,rfl⟩|⟨x,t,rfl,rfl⟩;rcases UO d with⟨j,u,rfl,rfl⟩|⟨y,u,rfl,rfl⟩;rw[ZcK]at h;exact wpAny_eqBool_int h;rw[ZcM]at h;exact SeqAt.EqAt.int_str i t y u _ _ _ _ h;rcases UO d with⟨j,u,rfl,rfl⟩|⟨y,u,rfl,rfl⟩;rw[ZcN]at h;exact SeqAt.EqAt.str_int x t j u _ _ _ _ h;rw[ZcL]at h;exact wpAny_eqBool_str h
 «strs»:=λk x t v h=>by
  rcases UO h with⟨i,u,rfl,e⟩|⟨y,u,rfl,e⟩;exact nomatch e;injection e with c _;subst c;cases v<;>rfl
def ZcO(prog:Program)(w:World)(i:Int)(t:Tok):(WG prog w).is (.inl i) (.int i t)=true:=ZcI i t
def ZcP(prog:Program)(w:World)(x:Str)(t:Tok):(WG prog w).is (.inr x) (.str x t)=true:=ZcJ x t
inductive V where
 |non|bl (b:Bool)|int (i:Int)|str (x:Str)|byt (b:Array UInt8)|flt (b:UInt64)|ref (a:Addr)|ty (n:String)
 deriving DecidableEq
def ZL:V->Value->Prop
 |.non,u=>u=Value.none
 |.bl b,u=>u=Value.bool b
 |.int i,u=>∃t,u=Value.int i t
 |.str x,u=>∃t,u=Value.str x t
 |.byt b,u=>∃t,u=Value.bytes b t
 |.flt b,u=>∃t,u=Value.float b t
 |.ref a,u=>u=Value.ref a
 |.ty n,u=>u=Value.type n
abbrev ZB:List V->List Value->Prop:=Paired ZL
def ZB.length{xs:List V}{us:OB}(r:ZB xs us):xs.length=us.length:=Paired.length r
theorem ZB.get:∀{xs:List V} {us:OB} {i:Nat} {x:V},ZB xs us->xs[i]? = some x->∃u,us[i]? = some u/\ZL x u
 |_,_,_,_,.nil,e=>by simp at e
 |_,_,0,_,.cons r _,e=>by simp at e;subst e;exact⟨_,R,r⟩
 |_,_,i+1,x,.cons _ t,e=>by
  obtain⟨u,h1,c⟩:=ZB.get (i:=i) (x:=x) t (by simpa using e);exact⟨u,by simpa using h1,c⟩
theorem ZB.set(r:ZL x u):∀{xs:List V} {us:OB} (i:Nat),ZB xs us->ZB (xs.set i x) (us.set i u)
 |_,_,_,.nil=>.nil
 |_,_,0,.cons _ t=>.cons r t
 |_,_,i+1,.cons q t=>.cons q (ZB.set r i t)
theorem ZB.append:∀{xs ys:List V} {us ws:OB},ZB xs us->ZB ys ws->ZB (xs++ys) (us++ws)
 |_,_,_,_,.nil,s=>s
 |_,_,_,_,.cons r t,s=>.cons r (ZB.append t s)
theorem ZB.take:∀{xs:List V} {us:OB} (n:Nat),ZB xs us->ZB (xs.take n) (us.take n)
 |_,_,0,_=>.nil
 |_,_,_+1,.nil=>.nil
 |_,_,n+1,.cons r t=>.cons r (ZB.take n t)
theorem ZB.drop:∀{xs:List V} {us:OB} (n:Nat),ZB xs us->ZB (xs.drop n) (us.drop n)
 |_,_,0,r=>r
 |_,_,_+1,.nil=>.nil
 |_,_,n+1,.cons _ t=>ZB.drop n t
def WH:Option V->Option Value->Prop
 |some v,some u=>ZL v u
 |none,none=>True
 |_,_=>False
def KV{c:Type}:List (c×V)->List (c×Value)->Prop:=Paired λ(p:c×V) (q:c×Value)=>p.1=q.1/\ZL p.2 q.2
def kV:ZF->V
 |.inl i=>.int i
 |.inr x=>.str x
inductive HO where
  |lst (xs:List V)
  |tup (xs:List V)
  |dK (kvs:List (ZF×V))|dT (kvs:List (List ZF×V))
  |set (S:Int->Bool) (n:Nat)
  |ins (C dx:Addr) (fs:List (Str×V))
  |own (x:Addr)
  |xd (fs:List (Str×V))
  |met (f x:Addr)
  |rng (lo hi:Int)
  |frz (o:Obj) (u:HO)
  |tbl (ps:Array Value)
  |ext (φ:Heap->Prop)
abbrev Hp:=Addr->Option HO
def Zb(H:Hp)(a:Addr)(o:HO):Hp:=λb=>if b=a then some o else H b
def Zj{H:Hp}{a:Addr}{o:HO}:Zb H a o a=some o:=by unfold Zb;rw[SW R]
def Zm(h:b≠a):Zb H a o b=H b:=by unfold Zb;rw[SV h]
def Yr{H:Hp}{a b:Addr}{o u:HO}(h:H a=some o)(h':H b=some u)(d:o≠u):a≠b:=by
 intro e;subst e;rw[h]at h';exact d (So h')
def Z1{H:Hp}{a b:Addr}{o:HO}(h:H a=some o)(h':H b=none):a≠b:=by
 intro e;subst e;rw[h]at h';cases h'
section
variable(P:Program)(w:World)
def Yi(H:Hp)(h:Heap)(a:Addr):HO->Prop
 |.lst xs=>xs.length<=sizeLine/\∃(d:OB) (n:Nat),ZB xs d/\h.get? a=some {cls:=.type "list",data:=.seq d.toArray n}
 |.tup xs=>xs.length<=sizeLine/\∃d:List Value,ZB xs d/\IsTup h a d.toArray
 |.dK g=>g.length<=sizeLine/\(a==sysModules)=false/\∃B,KV g B/\h.DictOf (WG P w) a B
 |.dT g=>g.length<=sizeLine/\(a==sysModules)=false/\∃xs:List (List ZF×Addr×Value),
   Paired (λ(p:List ZF×V) (q:List ZF×Addr×Value)=>p.1=q.1/\H q.2.1=some (.tup (p.1.map kV))/\ZL p.2 q.2.2) g xs /\
   ∃o E I,h.get? a=some o/\o.ExactDict/\o.data=.dict E I/\E.toList=xs.map (entryOfKey (tupleKind (WG P w)))/\(xs.map (·.1)).Nodup
 |.set S n=>h.SetOf (intKind P w) a S n
 |.ins C i fs=>H i=some (.own a)/\fs.length<=1000/\i≠a/\h.get? a=some (W.instObj C i) /\
   ∃c,h.Ns1 i c/\(∀f,WH (fs.lookup f) (c f))/\PySem.Within c (fs.map (·.1))
 |.own _=>∃o,h.get? a=some o
 |.xd fs=>∃c,h.Ns1 a c/\∀f,WH (fs.lookup f) (c f)
 |.rng lo J=>∃t u v,h.get? a=some {cls:=.type "range",data:=.fields #[.int lo t,.int J u,.int 1 v]}
 |.frz o u=>h.get? a=some o/\Yi H h a u
 |.tbl G=>h.get? a=some {cls:=.none,data:=.fields G}
 |.met f x=>h.get? a=some (W.methodObj (.ref f) (.ref x))
 |.ext j=>j h/\(∃o,h.get? a=some o)/\∀D y:Heap,j D->(∀o,D.get? a=some o->y.get? a=some o)->j y
def Yf(H:Hp)(h:Heap):Prop:=∀a o,H a=some o->Yi P w H h a o
end
section
variable{P:Program}{w:World}{H H':Hp}{h h':Heap}{a:Addr}{o:HO}
def Yi.lt(x:Yi P w H h a o):a<h.objs.size:=by
 cases o with
 |lst c=>ext⟨_,_,_,_,e⟩ x;exact Se e
 |tup c=>ext⟨_,_,_,p⟩ x;exact p.lt
 |dK d=>ext⟨_,_,_,_,o,_,_,e,_⟩ x;exact Se e
 |dT d=>ext⟨_,_,_,_,o,_,_,e,_⟩ x;exact Se e
 |set S n=>ext⟨o,_,_,_,e,_⟩ x;exact Se e
 |ins C i fs=>ext⟨_,_,_,e,_⟩ x;exact Se e
 |own y=>ext⟨_,e⟩ x;exact Se e
 |xd fs=>ext⟨_,⟨_,_,_,e,_⟩,_⟩ x;exact Se e
 |rng lo j=>ext⟨_,_,_,e⟩ x;exact Se e
 |frz ob u=>ext⟨e,_⟩ x;exact Se e
 |tbl g=>exact Se (show h.get? a=some _ from x)
 |met f y=>exact Se (show h.get? a=some _ from x)
 |ext v=>ext⟨_,⟨_,e⟩,_⟩ x;exact Se e
theorem Paired.mapP{g c:Type}{F G:g->c->Prop}:∀{d:List g} {l₂:List c},Paired F d l₂->(∀a b,F a b->G a b)->Paired G d l₂
 |_,_,.nil,_=>.nil
 |_,_,.cons r t,f=>.cons (f _ _ r) (Paired.mapP t f)
def Yi.stay(x:Yi P w H h a o)(k:∀b u,(b=a\/H b=some (.own a))->h.get? b=some u->h'.get? b=some u)
  (O:∀b,H b=some (.own a)->H' b=some (.own a)) (L:∀b xs,H b=some (.tup xs)->H' b=some (.tup xs)):Yi P w H' h' a o:=by
 induction o with
 |lst xs=>ext⟨z,D,n,r,e⟩ x;exact⟨z,D,n,r,k _ _ (.inl R) e⟩
 |tup xs=>ext⟨z,D,r,ob,e,c⟩ x;exact⟨z,D,r,ob,k _ _ (.inl R) e,c⟩
 |dK M=>ext⟨z,y,G,r,ob,g,i,e,c⟩ x;exact⟨z,y,G,r,ob,g,i,k _ _ (.inl R) e,c⟩
 |dT M =>
  ext⟨z,y,xs,r,ob,g,i,e,c⟩ x;exact⟨z,y,xs,Paired.mapP r λp q z=>⟨z.1,L _ _ z.2.1,z.2.2⟩,ob,g,i,k _ _ (.inl R) e,c⟩
 |set S n=>ext⟨ob,g,i,t,e,c⟩ x;exact⟨ob,g,i,t,k _ _ (.inl R) e,c⟩
 |ins C T fs =>
  ext⟨d,z,ne,e,j,⟨B,g,i,I,c⟩,r⟩ x;exact⟨O _ d,z,ne,k _ _ (.inl R) e,j,⟨B,g,i,k _ _ (.inr d) I,c⟩,r⟩
 |own y=>ext⟨ob,e⟩ x;exact⟨ob,k _ _ (.inl R) e⟩
 |xd fs=>ext⟨j,⟨B,g,i,e,c⟩,r⟩ x;exact⟨j,⟨B,g,i,k _ _ (.inl R) e,c⟩,r⟩
 |rng lo Q=>ext⟨t,u,v,e⟩ x;exact⟨t,u,v,k _ _ (.inl R) e⟩
 |frz ob u J=>ext⟨e,q⟩ x;exact⟨k _ _ (.inl R) e,J q⟩
 |tbl E =>
  have e:h.get? a=some {cls:=.none,data:=.fields E}:=x;show h'.get? a=some {cls:=.none,data:=.fields E};exact k a _ (.inl R) e
 |met f y =>
  have e:h.get? a=some (W.methodObj (.ref f) (.ref y)):=x;show h'.get? a=some (W.methodObj (.ref f) (.ref y));exact k a _ (.inl R) e
 |ext U=>ext⟨p,⟨o,e⟩,st⟩ x;exact⟨st _ _ p λo q=>k _ _ (.inl R) q,⟨o,k _ _ (.inl R) e⟩,st⟩
def Yf.lt(x:Yf P w H h)(e:H a=some o):a<h.objs.size:=(x a o e).lt
def Yf.fresh(x:Yf P w H h)(e:h.objs.size<=a):H a=none:=by
 cases q:H a with
 |none=>rfl
 |some u=>exact Os (Si (x.lt q) e) (Sl _)
def Yf.kept(x:Yf P w H h)(k:∀b u,h.get? b=some u->h'.get? b=some u):Yf P w H h':=λa o e =>
 (x a o e).stay (λb u _ q=>k b u q) (λ_ q=>q) λ_ _ q=>q
def Yf.laid(x:Yf P w H h)(k:∀b u,h.get? b=some u->h'.get? b=some u)(g:h.objs.size<=a)(f:Yi P w (Zb H a o) h' a o):Yf P w (Zb H a o) h':=λb u e=>by
 have hn:=x.fresh g;by_cases d:b=a;subst d;rw[Zj]at e;cases e;exact f;rw[Zm d]at e;exact(x b u e).stay (λc v _ q=>k c v q) (λc q=>by rwa[Zm (Z1 q hn)]) λc i q=>by rwa[Zm (Z1 q hn)]
end
def Rd(H:Hp)(a:Addr)(u:HO):Prop:=H a=some u\/∃o,H a=some (.frz o u)
def Rd.ok(r:Rd H a u)(x:Yf P w H h):Yi P w H h a u:=by
 rcases r with r|⟨o,r⟩;exact x a u r;obtain⟨_,q⟩:=x a _ r;exact q
def E8:Option HO->Prop
 |some (.lst _)=>True
 |some (.dK _)=>True
 |some (.dT _)=>True
 |some (.set _ _)=>True
 |some (.ins _ _ _)=>True
 |some (.ext _)=>True
 |_=>False
section
variable{P:Program}{w:World}{H:Hp}{h h':Heap}{x e:Addr}{o':HO}
def Yf.write(ok:Yf P w H h)(d:E8 (H x))(C:e=x\/H e=some (.own x))(k:∀b u,b≠e->h.get? b=some u->h'.get? b=some u)(J:∃u,h'.get? e=some u)
  (G:Yi P w (Zb H x o') h' x o'):Yf P w (Zb H x o') h':=λb u q=>by
 have B:∀c y,H c=some (.own y)->c≠x:=λc y r z=>by subst z;rw[r]at d;exact d
 have E:∀c g,H c=some (.tup g)->c≠x:=λc g r z=>by subst z;rw[r]at d;exact d
 by_cases j:b=x;subst j;rw[Zj]at q;cases q;exact G;rw[Zm j]at q;by_cases i:b=e;have D:H b=some (.own x):=by
  rcases C with z|z;exact Os (i.trans z) j;rwa[i]
 rw[q]at D;cases D;ext⟨v,I⟩ J;exact⟨v,by rwa[i]⟩;refine(ok b u q).stay (λc v f r=>k c v ?_ r) (λc r=>by rwa[Zm (B c b r)]) λc g r=>by rwa[Zm (E c g r)]
 rcases f with rfl|f;exact i;rintro rfl;rcases C with z|z;exact B c b f z;rw[f]at z;cases z;exact j R
end
structure Un(fs ex:OH)(H H':Hp)(h h':Heap):Prop where
 keep:∀b o,h.get? b=some o->H b=none->b∉fs->b∉ex->h'.get? b=some o
 slot:∀b o,h.get? b=some o->H b=none->b∈fs->b∉ex->∃sl,h'.get? b=some {o with slots:=sl}
 free:∀b o,h.get? b=some o->H b=none->b∉ex->H' b=none
 there:∀b o,h.get? b=some o->b∉ex->∃o',h'.get? b=some o'
 tups:∀b xs,H b=some (.tup xs)->H' b=some (.tup xs)
 frzs:∀b o u,H b=some (.frz o u)->H' b=some (.frz o u)
 tbls:∀b ps,H b=some (.tbl ps)->∃more,H' b=some (.tbl (ps++more))
section
variable{fs fs' ex ex':OH}{H H1 H2:Hp}{h h1 h2 h':Heap}{a x e:Addr}{o:HO}
def Un.any(u:Un fs ex H H1 h h1)(q:h.get? b=some ob)(n:H b=none)(d:b∉ex):∃f,h1.get? b=some {ob with slots:=f}:=by
 by_cases c:b∈fs;exact u.slot b ob q n c d;exact⟨ob.slots,u.keep b ob q n c d⟩
def Un.kept(k:∀b u,h.get? b=some u->h'.get? b=some u):Un fs ex H H h h' :=
 ⟨λb ob q _ _ _=>k b ob q,λb ob q _ _ _=>⟨ob.slots,k b ob q⟩,λ_ _ _ n _=>n,λb ob q _=>⟨ob,k b ob q⟩,λ_ _ q=>q,λ_ _ _ q=>q,λ_ c q=>⟨#[],by rw[q];simp⟩⟩
def Un.refl:Un fs ex H H h h:=Un.kept λ_ _ q=>q
def Un.laid(k:∀b u,h.get? b=some u->h'.get? b=some u)(d:h.objs.size<=a)(hn:H a=none):Un fs ex H (Zb H a o) h h' where
 keep:=λb u q _ _ _=>k b u q
 slot:=λb u q _ _ _=>⟨u.slots,k b u q⟩
 free:=λb u q n _=>by rwa[Zm (Sf (Si (Se q) d))]
 there:=λb u q _=>⟨u,k b u q⟩
 tups:=λb c q=>by rwa[Zm (Z1 q hn)]
 frzs:=λb u c q=>by rwa[Zm (Z1 q hn)]
 tbls:=λb f q=>⟨#[],by rw[Zm (Z1 q hn),q];simp⟩
def Un.write(c:E8 (H x))(j:e=x\/H e=some (.own x))(k:∀b u,b≠e->h.get? b=some u->h'.get? b=some u)(v:∃u,h'.get? e=some u):Un fs ex H (Zb H x o) h h':=by
 have d:∀b,H b=none->b≠x:=λb n z=>by subst z;rw[n]at c;exact c
 have g:∀b,H b=none->b≠e:=λb n z=>by
  subst z;rcases j with r|r;exact d b n r;rw[n]at r;cases r
 have hm:∀b u,H b=some u->¬ E8 (some u)->b≠x:=λb u q nm z=>by subst z;rw[q]at c;exact nm c
 refine⟨λb u q n _ _=>k b u (g b n) q,λb u q n _ _=>⟨u.slots,k b u (g b n) q⟩,λb u q n _=>by rwa[Zm (d b n)],λb u q _=>?_,
  λb i q=>by rwa[Zm (hm b _ q λz=>z)],λb u i q=>by rwa[Zm (hm b _ q λz=>z)],λb y q=>⟨#[],by rw[Zm (hm b _ q λz=>z),q];simp⟩⟩
 by_cases f:b=e;subst f;exact v;exact⟨u,k b u f q⟩
end
def KY(h:Heap)(H:Hp):List Addr:=(List.range h.objs.size).filter λa=>(H a).isSome
def VU(h:Heap)(H:Hp):Heap:=W.hideAll h (KY h H)
def ZcQ(h:Heap)(H:Hp):(VU h H).objs.size=h.objs.size:=W.hideAll_size _ _
def ZcR{h:Heap}(e:h.get? b=some o)(n:H b=none):(VU h H).get? b=some o :=
 W.hideAll_get _ e λhm=>by
  have q:(H b).isSome=true:=(List.mem_filter.mp hm).2;rw[n]at q;simp at q
def ZcS{h:Heap}(e:(VU h H).get? b=some o):h.get? b=some o/\H b=none:=by
 have c:h.get? b=some o:=W.of_hideAll (KY h H) e;erw[⟨c,?_⟩];cases q:H b with
 |none=>rfl
 |some x =>
  have hm:b∈KY h H:=List.mem_filter.mpr ⟨List.mem_range.mpr (Se c),by simp[q]⟩;have z:(VU h H).get? b=none:=W.hideAll_none (KY h H) hm;rw[z]at e;cases e
structure Mod(K:Ox)(mg:Ow)(base:Heap):Prop where
 kin:K.In base
 glob:base.Ns mainGlobals mg
 blt:∃mb,base.Ns builtinsNs mb/\∀x:Str,x ≠ "__name__" -> mb x=bootBuiltins x
 nolimit:base.NoLimit
structure Cx where
 prog:Program
 w:World
 K:W.Frag
 mg:Str->Option Value
 base:Heap
 A:Around
 N:List Str
 s₀:Shared
 H₀:Hp
 env:Env
 outer:List Env
 stack:List Env
 ex:List Addr
 fn:Str->Bool
 calm:Bool
 pn:List (Addr×Obj)
 xe:Value->Shared->Prop
def Yp(l:List Env):List Addr:=l.filterMap (·.frame)
abbrev Cx.fs(X:Cx):List Addr:=Yp X.outer
def E9(c:Scope)(x:Str):Prop:=c.names.lookup x=some .local\/c.names.lookup x=some .cell\/c.names.lookup x=some .free
def QE(c:Scope)(x:Str):Prop:=c.names.lookup x=some .local\/c.names.lookup x=some .cell
def yI(env:Env)(h:Heap)(m:Ow)(x:Str)(u:Value):Prop :=
 (env.kindOf x=some .local/\m x=some u)\/((env.kindOf x=some .cell\/env.kindOf x=some .free)/\∃c,env.cells.lookup x=some c/\h.IsCell c (some u))
structure Cx.Ok(X:Cx):Prop where
 mod:Mod X.K X.mg X.base
 kind:X.env.scope.kind=.function
 glob:X.env.globals=mainGlobals
 blt:X.env.builtins=builtinsNs
 above:X.s₀.heap.objs.size<=X.env.locals
 inj:∀x y c,X.env.cells.lookup x=some c->X.env.cells.lookup y=some c->x=y
 has:∀x,(X.env.kindOf x=some .cell\/X.env.kindOf x=some .free)->∃c,X.env.cells.lookup x=some c
 cab:∀x c,X.fn x=true->X.env.cells.lookup x=some c->X.s₀.heap.objs.size<=c
 hd:X.calm=true->X.A.handled=none
 frames:X.A.frames=some X.stack
 stk:X.stack=X.outer\/(X.stack=X.env::X.outer/\X.env.frame=some X.env.locals)
 exf:∀b∈X.ex,b≠X.env.locals/\∀x c,X.env.cells.lookup x=some c->c≠b
 bs:∀b o,X.base.get? b=some o->X.s₀.heap.get? b=some o/\X.H₀ b=none
 bsz:X.base.objs.size<=X.s₀.heap.objs.size
 noex:∀b o,X.base.get? b=some o->b∉X.ex
 exfs:∀b∈X.ex,b∉X.fs
 funs:X.s₀.heap.FunFrames X.base X.outer
 frf:∀b∈X.fs,X.H₀ b=none
structure Zd(X:Cx)(pins:Ov)(σ:List (Option V))(H:Hp)(s:Shared):Prop where
 ok:X.Ok
 os:s.os=X.s₀.os
 bare:AllBare s.gens
 base:Un X.fs X.ex X.H₀ H X.s₀.heap s.heap
 loc:∃m,s.heap.Ns X.env.locals m/\∀(i:Nat) (x:Str) (v:V),X.N[i]? = some x->σ[i]? = some (some v)->E9 X.env.scope x->∃u,ZL v u/\yI X.env s.heap m x u
 cell:∀x c,X.env.cells.lookup x=some c->∃v,s.heap.IsCell c v
 free:H X.env.locals=none
 freeC:∀x c,X.env.cells.lookup x=some c->H c=none
 pin:∀p∈X.pn++pins,s.heap.get? p.1=some p.2/\H p.1=none/\p.1≠X.env.locals/\p.1∉X.fs/\∀v,p.2.data≠.cell v
 hok:Yf X.prog X.w H s.heap
 len:σ.length=X.N.length
section
variable{X:Cx}{pins:Ov}{σ:List (Option V)}{H H':Hp}{s:Shared}{h':Heap}
def Cx.Ok.nofr(ok:X.Ok)(e:X.base.get? b=some o):b∉X.fs:=λc=>by
 have:=(ok.funs.mem c).1;rw[e]at this;cases this
def Zd.bs(I:Zd X pins σ H s):∀b o,X.base.get? b=some o->s.heap.get? b=some o/\H b=none:=λb o e =>
 ⟨I.base.keep b o (I.ok.bs b o e).1 (I.ok.bs b o e).2 (I.ok.nofr e) (I.ok.noex b o e),I.base.free b o (I.ok.bs b o e).1 (I.ok.bs b o e).2 (I.ok.noex b o e)⟩
def Zd.bk(I:Zd X pins σ H s):∀b o,X.base.get? b=some o->s.heap.get? b=some o:=λb o e=>(I.bs b o e).1
def Zd.mod(I:Zd X pins σ H s):Mod X.K X.mg X.base:=I.ok.mod
def Zd.kIn(I:Zd X pins σ H s):X.K.In s.heap:=I.ok.mod.kin.keeps I.bk
def Zd.fr(I:Zd X pins σ H s):∃m,Fr X.base X.env.locals s.heap m :=
 let ⟨m,hn,_⟩:=I.loc
 ⟨m,hn,I.bk,Sh I.ok.bsz I.ok.above⟩
def Zd.lt(I:Zd X pins σ H s):X.env.locals<s.heap.objs.size:=let ⟨_,hn,_⟩:=I.loc;hn.lt
def Zd.sz(I:Zd X pins σ H s):X.s₀.heap.objs.size<=s.heap.objs.size:=Sh I.ok.above (Nat.le_of_lt I.lt)
def Zd.nofs(I:Zd X pins σ H s)(h:s.heap.objs.size<=a):a∉X.fs:=λd=>by
 obtain⟨_,o,c,_⟩:=I.ok.funs.mem d;exact Os (Si (Se c) (Sh I.sz h)) (Sl _)
def Zd.cne(I:Zd X pins σ H s):∀x c,X.env.cells.lookup x=some c->c≠X.env.locals:=λx c e z=>by
 obtain⟨v,o,d,hd⟩:=I.cell x c e;ext⟨m,⟨i,j,h,f,g,_⟩,_⟩ I.loc;rw[z,f]at d;cases d;rw[g]at hd;cases hd
def Zd.funs(I:Zd X pins σ H s):s.heap.FunFrames X.base X.outer:=by
 have all:∀(l:List Env),(∀b∈Yp l,b∈X.fs)->X.s₀.heap.FunFrames X.base l->s.heap.FunFrames X.base l:=by
  intro l;induction l with
  |nil=>intro _ _;trivial
  |cons env r j =>
   intro g h;ext⟨i,⟨L,o,d,hn,u,hd⟩,v⟩ h;have c:L∈X.fs:=g L (by unfold Yp;rw[List.filterMap_cons,d];exact SC);obtain⟨x,e⟩:=I.base.slot L o u (I.ok.frf L c) c λz=>I.ok.exfs L z c;exact⟨i,⟨L,_,d,hn,e,hd⟩,j (λb f=>g b (by unfold Yp;rw[List.filterMap_cons,d];exact SB _ f)) v⟩
 exact all X.outer (λ_ f=>f) I.ok.funs
def Zd.stack(I:Zd X pins σ H s):s.heap.FunFrames X.base X.stack:=by
 rcases I.ok.stk with e|⟨e,c⟩;rw[e];exact I.funs;rw[e];ext⟨m,hn,_⟩ I.loc;erw[.cons (by rw[I.ok.kind];lia) c hn ?_ I.funs];exact Heap.get?_none_of_le (Sh I.ok.bsz I.ok.above)
def Zd.stkSub(I:Zd X pins σ H s):∀b∈Yp X.stack,b∈X.env.locals::X.fs:=λb c=>by
 rcases I.ok.stk with e|⟨e,d⟩;rw[e]at c;exact SB _ c;rw[e]at c;unfold Yp at c;rw[List.filterMap_cons,d]at c;exact c
def Zd.stkFree(I:Zd X pins σ H s):∀b∈Yp X.stack,H b=none:=λb c=>by
 rcases SE.mp (I.stkSub b c)with e|c;rw[e];exact I.free;obtain⟨_,o,d,_⟩:=I.ok.funs.mem c;exact I.base.free b o d (I.ok.frf b c) λz=>I.ok.exfs b z c
def Zd.step{g':Array GenState}{t':Nat}{d':Drawn}{ch:OH}(I:Zd X pins σ H s)
  (B:∀b∈ch,(b∈X.ex\/X.s₀.heap.objs.size<=b)/\b≠X.env.locals/\(∀x c,X.env.cells.lookup x=some c->c≠b)/\∀p∈X.pn++pins,p.1≠b)
  (keep:∀b o,b≠X.env.locals->b∉X.fs->b∉ch->s.heap.get? b=some o->H b=none->h'.get? b=some o)
  (slot:∀b o,b≠X.env.locals->b∈X.fs->b∉ch->s.heap.get? b=some o->H b=none->∃L,h'.get? b=some {o with slots:=L}) (free:∀b o,b∉ch->s.heap.get? b=some o->H b=none->H' b=none)
  (there:∀b o,b∉ch->s.heap.get? b=some o->∃D,h'.get? b=some D)
  (tups:∀b h,H b=some (.tup h)->H' b=some (.tup h)) (frzs:∀b o u,H b=some (.frz o u)->H' b=some (.frz o u)) (tbls:∀b J,H b=some (.tbl J)->∃more,H' b=some (.tbl (J++more)))
  (ns:∀m,s.heap.Ns X.env.locals m->h'.Ns X.env.locals m) (hok:Yf X.prog X.w H' h') (T:AllBare g') :
  Zd X pins σ H' {s with heap:=h',gens:=g',drawn:=d',toks:=t'}:=by
 have M:∀b o,X.s₀.heap.get? b=some o->b≠X.env.locals:=λb o e=>Sf (Si (Se e) I.ok.above);have G:∀b o,X.s₀.heap.get? b=some o->b∉X.ex->b∉ch:=λb o e f j=>by
  rcases(B b j).1 with z|z;exact f z;exact Os (Si (Se e) z) (Sl _)
 have cellK:∀x c,X.env.cells.lookup x=some c->∀v,s.heap.IsCell c v->h'.IsCell c v:=λx c e v ⟨o,y,hd⟩=>by
  have C:c∉ch:=λz=>(B c z).2.2.1 x c e R;by_cases P:c∈X.fs;obtain⟨L,q⟩:=slot c o (I.cne x c e) P C y (I.freeC x c e);exact⟨_,q,hd⟩;exact⟨o,keep c o (I.cne x c e) P C y (I.freeC x c e),hd⟩
 erw[⟨I.ok,I.os,T,⟨λb o e n j f=>?_,λb o e n j f=>?_,λb o e n f=>?_,λb o e f=>?_,λb h e=>tups b h (I.base.tups b h e),λb o h e=>frzs b o h (I.base.frzs b o h e),λb J e=>?_⟩,?_,λx c e=>?_,?_,λx c e=>?_,λp O=>?_,hok,I.len⟩];exact keep b o (M b o e) j (G b o e f) (I.base.keep b o e n j f) (I.base.free b o e n f);obtain⟨L,g⟩:=I.base.slot b o e n j f;obtain⟨Z,E⟩:=slot b _ (M b o e) j (G b o e f) g (I.base.free b o e n f);exact⟨Z,E⟩;obtain⟨D,g⟩:=I.base.there b o e f;exact free b D (G b o e f) g (I.base.free b o e n f);obtain⟨D,g⟩:=I.base.there b o e f;exact there b D (G b o e f) g;obtain⟨S,g⟩:=I.base.tbls b J e;obtain⟨Y,E⟩:=tbls b _ g;exact⟨S++Y,by rw[E,Array.append_assoc]⟩;ext⟨m,hn,Q⟩ I.loc;erw[⟨m,ns m hn,λi x v g E U=>?_⟩];obtain⟨u,r,l⟩:=Q i x v g E U;erw[⟨u,r,?_⟩];rcases l with l|⟨k,c,e,z⟩;exact .inl l;exact .inr ⟨k,c,e,cellK x c e _ z⟩;obtain⟨v,z⟩:=I.cell x c e;exact⟨v,cellK x c e v z⟩;ext⟨m,⟨o,_,_,y,_⟩,_⟩ I.loc;exact free _ o (λz=>(B _ z).2.1 R) y I.free;obtain⟨v,o,y,hd⟩:=I.cell x c e;exact free c o (λz=>(B c z).2.2.1 x c e R) y (I.freeC x c e);obtain⟨e,n,ne,nf,d⟩:=I.pin p O;have C:p.1∉ch:=λz=>(B p.1 z).2.2.2 p O R;exact⟨keep p.1 p.2 ne nf C e n,free p.1 p.2 C e n,ne,nf,d⟩
def Zd.un{t':Nat}(I:Zd X pins σ H s)(u:Un X.fs [] H H' s.heap h')(hok:Yf X.prog X.w H' h'):Zd X pins σ H' {s with heap:=h',toks:=t'}:=by
 obtain⟨m,⟨o,C,x,f,r⟩,_⟩:=id I.loc;obtain⟨v,g⟩:=u.any f I.free (by simp);exact I.step (g':=s.gens) (d':=s.drawn) (ch:=[]) (λ_ z=>nomatch z) (λb o _ c _ e n=>u.keep b o e n c (by simp)) (λb o _ c _ e n=>u.slot b o e n c (by simp)) (λb o _ e n=>u.free b o e n (by simp)) (λb o _ e=>u.there b o e (by simp)) u.tups u.frzs u.tbls (λB hm=>by
  ext⟨y,i,h,d,j⟩ hm;rw[f]at d;cases d;exact⟨_,i,h,g,j⟩) hok I.bare
def Zd.call{g':Array GenState}{t':Nat}{d':Drawn}{ch:OH}(I:Zd X pins σ H s)(u:Un (Yp X.stack) ch H H' s.heap h')(hok:Yf X.prog X.w H' h')(B:AllBare g')
  (h:∀b∈ch,(b∈X.ex\/X.s₀.heap.objs.size<=b)/\b≠X.env.locals/\(∀x c,X.env.cells.lookup x=some c->c≠b)/\∀p∈X.pn++pins,p.1≠b) :
  Zd X pins σ H' {s with heap:=h',gens:=g',drawn:=d',toks:=t'}:=by
 obtain⟨m,⟨o,L,E,i,r⟩,_⟩:=id I.loc;obtain⟨D,f⟩:=u.any i I.free λz=>(h _ z).2.1 R;exact I.step (ch:=ch) h (λb o f y d e n=>u.keep b o e n (λz=>(SE.mp (I.stkSub b z)).elim f y) d) (λb o _ _ d e n=>u.any e n d) (λb o d e n=>u.free b o e n d) (λb o d e=>u.there b o e d) u.tups u.frzs u.tbls (λJ hm=>by
  ext⟨G,C,v,g,j⟩ hm;rw[i]at g;cases g;exact⟨_,C,v,f,j⟩) hok B
def Zd.turned{t':Nat}{d:Addr}(I:Zd X pins σ H s)(k:∀b o,b≠d->s.heap.get? b=some o->h'.get? b=some o)(hn:H d=none)(g:d≠X.env.locals)
  (h1:d∈X.ex\/X.s₀.heap.objs.size<=d) (i:∀x c,X.env.cells.lookup x=some c->c≠d) (B:∀p∈X.pn++pins,p.1≠d):Zd X pins σ H {s with heap:=h',toks:=t'}:=by
 have h:∀b u,H b=some u->b≠d:=λb u e z=>by rw[z,hn]at e;cases e
 refine I.step (g':=s.gens) (d':=s.drawn) (ch:=[d]) (λb D=>?_) (λb o _ _ f e _=>k b o (λz=>f (by simp[z])) e) (λb o _ _ f e _=>⟨o.slots,k b o (λz=>f (by simp[z])) e⟩) (λ_ _ _ _ n=>n)
  (λb o f e=>⟨o,k b o (λz=>f (by simp[z])) e⟩) (λ_ _ e=>e) (λ_ _ _ e=>e) (λb E e=>⟨#[],by rw[e];simp⟩) (λm hm=>?_) (λb u e=>?_) I.bare
 have e:b=d:=by simpa using D
 subst e;exact⟨h1,g,i,B⟩;ext⟨o,C,j,y,r⟩ hm;exact⟨o,C,j,k _ o (Ne.symm g) y,r⟩;erw[(I.hok b u e).stay (λc v f q=>k c v ?_ q) (λ_ q=>q) λ_ _ q=>q];rcases f with z|z;rw[z];exact h b u e;exact h c _ z
def Zd.tok(I:Zd X pins σ H s)(t:Nat):Zd X pins σ H {s with toks:=t}:=I.un (h':=s.heap) (t':=t) Un.refl I.hok
def Zd.kept(I:Zd X pins σ H s)(k:∀b u,s.heap.get? b=some u->h'.get? b=some u):Zd X pins σ H {s with heap:=h',toks:=t'}:=I.un (Un.kept k) (I.hok.kept k)
def Zd.laid(I:Zd X pins σ H s)(k:∀b u,s.heap.get? b=some u->h'.get? b=some u)(c:s.heap.objs.size<=a)(d:Yi X.prog X.w (Zb H a o) h' a o) :
  Zd X pins σ (Zb H a o) {s with heap:=h',toks:=t'}:=I.un (Un.laid k c (I.hok.fresh c)) (I.hok.laid k c d)
def Zd.write(I:Zd X pins σ H s)(c:E8 (H x))(d:e=x\/H e=some (.own x))(k:∀b u,b≠e->s.heap.get? b=some u->h'.get? b=some u)(f:∃u,h'.get? e=some u)
  (g:Yi X.prog X.w (Zb H x o) h' x o):Zd X pins σ (Zb H x o) {s with heap:=h',toks:=t'}:=I.un (Un.write c d k f) (I.hok.write c d k f g)
def Zd.weak{c:List (Option V)}(I:Zd X pins σ H s)(d:c.length=σ.length)(w:∀(i:Nat) v,c[i]? = some (some v)->σ[i]? = some (some v)):Zd X pins c H s :=
 ⟨I.ok,I.os,I.bare,I.base,let ⟨m,hn,hl'⟩:=I.loc;⟨m,hn,λi x v h g f=>hl' i x v h (w i v g) f⟩,I.cell,I.free,I.freeC,I.pin,I.hok,d.trans I.len⟩
def Zd.pins_of(I:Zd X pins σ H s)(h:∀p∈pins',s.heap.get? p.1=some p.2/\H p.1=none/\p.1≠X.env.locals/\p.1∉X.fs/\∀v,p.2.data≠.cell v):Zd X pins' σ H s :=
 ⟨I.ok,I.os,I.bare,I.base,I.loc,I.cell,I.free,I.freeC,λp c=>(SF.mp c).elim (λz=>I.pin p (SH _ z)) (h p),I.hok,I.len⟩
def ME{N:OC}(c:N.Nodup){i j:Nat}{x:Str}(a:N[i]? = some x)(b:N[j]? = some x):i=j:=by
 obtain⟨h,f⟩:=Sr.mp a;obtain⟨g,d⟩:=Sr.mp b;exact(List.getElem_inj c).mp (f.trans d.symm)
def yJ{M:Model}{A:Around}{E:Ou}{i:Nat}{x:Str}{v:V}{u:Value}{Q:OA}(I:Zd X pins σ H s)(hN:X.N.Nodup)(hi:X.N[i]? = some x)(C:QE X.env.scope x)(r:ZL v u)
  (h:∀s',Zd X pins (σ.set i (some v)) H s'->(∃a,Heap.SameBut a s.heap s'.heap/\(a=X.env.locals\/X.env.cells.lookup x=some a))->Q Unit.unit s') (hf:X.fn x=true\/X.env.scope.names.lookup x=some .local:=by first|exact .inl rfl|exact .inr rfl|assumption):wpAny M A (storeName X.env x u) Q E s:=by
 obtain⟨m,hn,hl⟩:=id I.loc;have h0:(X.env.scope.kind==.class || (X.env.scope.kind==.module && X.env.locals != X.env.globals))=false:=by rw[I.ok.kind];rfl
 have c0:i<σ.length:=by rw[I.len];exact(Sr.mp hi).1
 have cne:=I.cne;have tracked:∀{a:Addr} {h':Heap},(∃o,s.heap.get? a=some o/\H a=none)->Heap.SameBut a s.heap h'->Yf X.prog X.w H h':=λ{a h'} ha f b ob e=>by
  ext⟨_,_,a0⟩ ha;erw[(I.hok b ob e).stay (λc O B q=>(f.2 c ?_).trans q) (λ_ q=>q) λ_ _ q=>q];rintro rfl;rcases B with rfl|B;rw[a0]at e;cases e;rw[a0]at B;cases B
 rcases C with G|G;erw[wpAny_storeName_local G hn (λh' i0 f=>?_) h0];obtain⟨oL,_,_,f0,_⟩:=id hn;erw[h _ ⟨I.ok,I.os,I.bare,⟨λb o e n L C=>?_,λb o e n L C=>?_,I.base.free,λb o e C=>?_,I.base.tups,I.base.frzs,I.base.tbls⟩,⟨_,i0,λj y S g D Z=>?_⟩,λy c e=>?_,I.free,I.freeC,λp hp=>?_,tracked ⟨oL,f0,I.free⟩ f,by simpa using I.len⟩ ⟨_,f,.inl R⟩];exact(f.2 b (Sf (Si (Se e) I.ok.above))).trans (I.base.keep b o e n L C);obtain⟨sl,g⟩:=I.base.slot b o e n L C;exact⟨sl,(f.2 b (Sf (Si (Se e) I.ok.above))).trans g⟩;obtain⟨o',g⟩:=I.base.there b o e C;exact⟨o',(f.2 b (Sf (Si (Se e) I.ok.above))).trans g⟩;by_cases J:j=i;subst J;rw[hi]at g;cases g;rw[List.getElem?_set_self c0]at D;cases D;exact⟨u,r,.inl ⟨G,by simp⟩⟩;rw[List.getElem?_set_ne (Ne.symm J)]at D;obtain⟨U,Y,q⟩:=hl j y S g D Z;erw[⟨U,Y,?_⟩];rcases q with⟨k,e⟩|⟨k,c,e,z⟩;erw[.inl ⟨k,?_⟩];have:y≠x:=λe=>J (ME hN g (e ▸ hi));simp[this,e];exact .inr ⟨k,c,e,z.sameBut f (cne y c e)⟩;obtain⟨O,z⟩:=I.cell y c e;exact⟨O,z.sameBut f (cne y c e)⟩;obtain⟨e,n,ne,nf,d⟩:=I.pin p hp;exact⟨(f.2 p.1 ne).trans e,n,ne,nf,d⟩;have T:X.fn x=true:=by
  rcases hf with z|z;exact z;rw[z]at G;cases G
 obtain⟨c,B⟩:=I.ok.has x (.inl G);obtain⟨O,z⟩:=I.cell x c B;erw[wpAny_storeName_cell I.ok.kind G B z (λh' e0 f=>?_)];obtain⟨oc,d0,g0⟩:=id z;erw[h {s with heap:=h'} ⟨I.ok,I.os,I.bare,⟨λb o e n L C=>?_,λb o e n L C=>?_,I.base.free,λb o e C=>?_,I.base.tups,I.base.frzs,I.base.tbls⟩,⟨m,hn.sameBut f (Ne.symm (cne x c B)),λj y S g D Z=>?_⟩,λy P e=>?_,I.free,I.freeC,λp hp=>?_,tracked ⟨oc,d0,I.freeC x c B⟩ f,by simpa using I.len⟩ ⟨c,f,.inr B⟩];exact(f.2 b (Sf (Si (Se e) (I.ok.cab x c T B)))).trans (I.base.keep b o e n L C);obtain⟨sl,g⟩:=I.base.slot b o e n L C;exact⟨sl,(f.2 b (Sf (Si (Se e) (I.ok.cab x c T B)))).trans g⟩;obtain⟨o',g⟩:=I.base.there b o e C;exact⟨o',(f.2 b (Sf (Si (Se e) (I.ok.cab x c T B)))).trans g⟩;by_cases J:j=i;subst J;rw[hi]at g;cases g;rw[List.getElem?_set_self c0]at D;cases D;exact⟨u,r,.inr ⟨.inl G,c,B,e0⟩⟩;rw[List.getElem?_set_ne (Ne.symm J)]at D;obtain⟨U,Y,q⟩:=hl j y S g D Z;erw[⟨U,Y,?_⟩];rcases q with q|⟨k,P,e,z'⟩;exact .inl q;erw[.inr ⟨k,P,e,z'.sameBut f ?_⟩];rintro rfl;exact J (ME hN g (I.ok.inj _ _ _ e B ▸ hi));by_cases b0:P=c;subst b0;exact⟨_,e0⟩;obtain⟨w2,z2⟩:=I.cell y P e;exact⟨w2,z2.sameBut f b0⟩;obtain⟨e,n,ne,nf,d⟩:=I.pin p hp;erw[⟨(f.2 p.1 ?_).trans e,n,ne,nf,d⟩];intro q;rw[q,d0]at e;have q':oc=p.2:=So e;exact d O (by rwa[<-q'])
def F0(I:Zd X pins σ H s)(f:X.N.Nodup)(hi:X.N[i]? = some x)(d:QE X.env.scope x)(r:ZL v u)
  (h:∀s',Zd X pins (σ.set i (some v)) H s'->Q Unit.unit s') (g:X.fn x=true\/X.env.scope.names.lookup x=some .local:=by first|exact .inl rfl|exact .inr rfl|assumption):wpAny M A (storeName X.env x u) Q E s :=
 yJ I f hi d r (λs' c _=>h s' c) g
def Zd.call'{s':Shared}(I:Zd X pins σ H s)(h:s'.os=s.os)(u:Un (Yp X.stack) ch H H' s.heap s'.heap)(hok:Yf X.prog X.w H' s'.heap)(f:AllBare s'.gens)
  (g:∀b∈ch,(b∈X.ex\/X.s₀.heap.objs.size<=b)/\b≠X.env.locals/\(∀x c,X.env.cells.lookup x=some c->c≠b)/\∀p∈X.pn++pins,p.1≠b):Zd X pins σ H' s':=by
 ext⟨h',g',d',t',d⟩ s';have e:d=s.os:=h;subst e;exact I.call (g':=g') (t':=t') (d':=d') u hok f g
end
abbrev XK:=Value->Option Addr->Hp->Prop
abbrev St:=List (Option V)
abbrev VK:=V->Hp->Prop
abbrev TE:=St->Hp->VK->Prop
abbrev TT:=St->Hp->(Bool->Hp->Prop)->Prop
abbrev TA:=St->Hp->(List V->Hp->Prop)->Prop
structure Vd where
 nx:St->Hp->Prop
 rt:VK
 bk:St->Hp->Prop:=λ_ _=>False
 ct:St->Hp->Prop:=λ_ _=>False
abbrev TS:=Vd->St->Hp->Prop
inductive EP(X:Cx)(pins:Ov)(σ:St)(Q:VK)(u:Value)(s':Shared):Prop|mk v H' (_:Zd X pins σ H' s') (_:ZL v u) (_:Q v H')
inductive TP(X:Cx)(pins:Ov)(σ:St)(Q:Bool->Hp->Prop)(b:Bool)(s':Shared):Prop|mk H' (_:Zd X pins σ H' s') (_:Q b H')
inductive AP(X:Cx)(pins:Ov)(σ:St)(Q:List V->Hp->Prop)(us:OB)(s':Shared):Prop|mk vs H' (_:Zd X pins σ H' s') (_:ZB vs us) (_:Q vs H')
def SP(X:Cx)(pins:Ov)(D:Vd)(f:Flow)(s':Shared):Prop :=
 match f with
 |.next=>∃d c,Zd X pins d c s'/\D.nx d c
 |.brk=>∃d c,Zd X pins d c s'/\D.bk d c
 |.cont=>∃d c,Zd X pins d c s'/\D.ct d c
 |.ret u=>∃v d c,Zd X pins d c s'/\ZL v u/\D.rt v c
def PE(X:Cx)(e:Expr)(t:TE):Prop :=
 ∀(pins:Ov) (s:Shared) (σ:St) (H:Hp) (Q:VK),Zd X pins σ H s->t σ H Q->wpAny (model X.prog X.w) X.A (eval e X.env) (EP X pins σ Q) X.xe s
def PT(X:Cx)(e:Expr)(t:TT):Prop :=
 ∀(pins:Ov) (s:Shared) (σ:St) (H:Hp) (Q:Bool->Hp->Prop),Zd X pins σ H s->t σ H Q->wpAny (model X.prog X.w) X.A (isTrue e X.env (eval e X.env)) (TP X pins σ Q) X.xe s
def PW(X:Cx)(e:Expr)(t:TT):Prop :=
 ∀(whole:Sem Value) (pins:Ov) (s:Shared) (σ:St) (H:Hp) (Q:Bool->Hp->Prop),Zd X pins σ H s->t σ H Q->wpAny (model X.prog X.w) X.A (isTrue e X.env whole) (TP X pins σ Q) X.xe s
def PW.pt(h:PW X e t):PT X e t:=h _
def PA(X:Cx)(d:OD)(t:TA):Prop :=
 ∀(c:Pos) (pins:Ov) (s:Shared) (σ:St) (H:Hp) (Q:List V->Hp->Prop),Zd X pins σ H s->t σ H Q->wpAny (model X.prog X.w) X.A (spliced (backTo c (starEach d X.env))) (AP X pins σ Q) X.xe s
def PS(X:Cx)(st:Stmt)(t:TS):Prop :=
 ∀(pins:Ov) (s:Shared) (σ:St) (H:Hp) (D:Vd),Zd X pins σ H s->t D σ H->wpAny (model X.prog X.w) X.A (exec st X.env) (SP X pins D) X.xe s
def XV(X:Cx)(st:List Stmt)(t:TS):Prop :=
 ∀(pins:Ov) (s:Shared) (σ:St) (H:Hp) (D:Vd),Zd X pins σ H s->t D σ H->wpAny (model X.prog X.w) X.A (execs st X.env) (SP X pins D) X.xe s
def Zx{c:Type}{t:Sem c}{Q d:c->Shared->Prop}{M:Model}{A:Around}{E:Ou}{s:Shared}(h:wpAny M A t Q E s)(f:∀a s,Q a s->d a s):wpAny M A t d E s:=Oq h f λ_ _ x=>x
end L2
variable{pins:List (PySem.Addr×PySem.Obj)}{K:PySem.W.Frag}{s:PySem.Shared}{X:L2.Cx}{E:PySem.Value->PySem.Shared->Prop}{A:PySem.Around}{w:PySem.World}{H:L2.Hp}{mg:PySem.Str->Option PySem.Value}{scope:PySem.Scope}{prog:PySem.Program}{P:PySem.Program}{pos:PySem.Pos}{base:PySem.Heap}
namespace L2
open PySem PySem.Spec PyProof.Rows
section
inductive U9(i:Nat)(σ:St)(H:Hp)(Q:VK):Prop|mk v (_:σ[i]? = some (some v)) (_:Q v H)
def tC(v:V):TE:=λ_ H Q=>Q v H
def yK(C:X.N[i]? = some x)(G:E9 X.env.scope x)(hd:(x==("__debug__" : Str))=false:=by lia) (E:(x==("__classdict__" : Str))=false:=by lia):PE X (.Name x B) (U9 i):=by
 intro pins s D H Q I h;ext⟨v,e,h⟩ h;ext⟨m,hn,y⟩ I.loc;obtain⟨u,r,l⟩:=y i x v C e G;have f:EP X pins D Q u s:=⟨v,H,I,r,h⟩;rcases l with⟨d,hm⟩|⟨d,c,j,g⟩;exact wpAny_Name (wpAny_loadName_local I.ok.kind d hn hm f) hd;rcases d with d|d;exact wpAny_Name (wpAny_loadName_cell I.ok.kind d j g f) hd;exact wpAny_Name (wpAny_loadName_free I.ok.kind d j g f E) hd
def Za{i j pos}:PE X (.Constant (.int i) j pos) (tC (.int i)):=λ_ _ _ H _ I h=>wpAny_Constant_int ⟨.int i,H,I.tok _,⟨_,R⟩,h⟩
def YY{b j pos}:PE X (.Constant (.bool b) j pos) (tC (.bl b)):=λ_ _ _ H _ I h=>Constant_bool ⟨.bl b,H,I,R,h⟩
def UP{j pos}:PE X (.Constant .none j pos) (tC .non):=λ_ _ _ H _ I h=>Constant_none ⟨.non,H,I,R,h⟩
def Zs{x j pos}:PE X (.Constant (.str x) j pos) (tC (.str x)):=λ_ _ _ H _ I h=>Calls.Constant_str ⟨.str x,H,I.tok _,⟨_,R⟩,h⟩
def Gl(X:Cx)(x:Str):Prop:=X.env.kindOf x=some .globalImplicit
def UQ(I:Zd X pins f H s)(c:Gl X x)(hm:X.mg x=some u)(h:Q u s)
  (hd:(x==("__debug__" : Str))=false:=by lia):wpAny (model X.prog X.w) X.A (eval (.Name x d) X.env) Q E s :=
 Calls.Name_function_global I.ok.kind c (Calls.loadGlobal_global (by rw[I.ok.glob];exact I.mod.glob.keeps I.bk) hm h) hd
def Q2(I:Zd X pins f H s)(j:Gl X x)(hm:X.mg x=none)(i:bootBuiltins x=some u)(h:Q u s)
  (hn:x ≠ "__name__" := by lia) (hd:(x==("__debug__" : Str))=false:=by lia):wpAny (model X.prog X.w) X.A (eval (.Name x c) X.env) Q E s:=by
 ext⟨v,g,d⟩ I.mod.blt;exact Calls.Name_function_global I.ok.kind j (Calls.loadGlobal_builtin (by rw[I.ok.glob];exact I.mod.glob.keeps I.bk) hm (by rw[I.ok.blt];exact g.keeps I.bk) ((d x hn).trans i) h) hd
def yL(d:Gl X x)(hm:X.mg x=some u)(r:ZL v u)(hd:(x==("__debug__" : Str))=false:=by lia):PE X (.Name x c) (tC v) :=
 λ_ _ _ H _ I h=>UQ I d hm ⟨v,H,I,r,h⟩ hd
def ZcT(f:Gl X x)(hm:X.mg x=none)(d:bootBuiltins x=some u)(r:ZL v u)(hn:x ≠ "__name__" := by lia) (hd:(x==("__debug__" : Str))=false:=by lia):PE X (.Name x c) (tC v) :=
 λ_ _ _ H _ I h=>Q2 I f hm d ⟨v,H,I,r,h⟩ hn hd
variable{a b:Expr}{ta tb:TE}
def PC(X:Cx)(d:CmpOp)(a b:Expr)(t:TE):Prop :=
 ∀(pins:Ov) (s:Shared) (σ:St) (H:Hp) (Q:VK),Zd X pins σ H s->t σ H Q ->
  wpAny (model X.prog X.w) X.A (eval a X.env) (λv c=>wpAny (model X.prog X.w) X.A (eval b X.env) (λu f=>wpAny (model X.prog X.w) X.A (compareOp d v u) (EP X pins σ Q) X.xe f) X.xe c) X.xe s
def yM(b:Expr)(h:c≠.In)(d:c≠.NotIn):behindInMarks c b=false:=by
 have f:(c==CmpOp.In)=false:=by cases c<;>first|rfl|exact Os R h
 have g:(c==CmpOp.NotIn)=false:=by cases c<;>first|rfl|exact Os R d
 cases b<;>simp[behindInMarks,f,g]
def ZcU(ta:TE):TE:=λc H Q=>ta c H λx d=>Q (.bl (decide (x=.non))) d
def ZL.none_iff(r:ZL x v):(v==Value.none)=decide (x=.non):=by
 cases x with
 |non=>cases r;rfl
 |bl _=>cases r;rfl
 |int _=>ext⟨t,rfl⟩ r;rfl
 |str _=>ext⟨t,rfl⟩ r;rfl
 |byt _=>ext⟨t,rfl⟩ r;rfl
 |flt _=>ext⟨t,rfl⟩ r;rfl
 |ref _=>cases r;rfl
 |ty _=>cases r;rfl
def Ve{j pos'}(ha:PE X a ta):PC X .Is a (.Constant .none j pos') (ZcU ta):=by
 intro pins s c H Q I h;erw[Zx (ha pins s c H _ I h) λv s1 ⟨x,g,f,i,d⟩=>?_];exact Constant_none (is_none_gen ⟨.bl _,g,f,by rw[i.none_iff];rfl,d⟩)
inductive ZcV(Q:Bool->Hp->Prop)(x:V)(H1:Hp):Prop|mk c (_:x=.bl c) (_:Q c H1)
def tB(t:TE):TT:=λc H Q=>t c H λx d=>ZcV Q x d
def ZcW(h:PC X c a b t)(h1:behindInMarks c b=false:=by first|exact yM _ () ()|rfl):PE X (.Compare a [c] [b] pos) t:=λpins s f H Q I d=>wpAny_Compare1 (h pins s f H Q I d) h1
def Wo(h:PC X f a b t)(h1:behindInMarks f b=false:=by first|exact yM _ () ()|rfl):PT X (.Compare a [f] [b] pos) (tB t):=by
 intro pins s j H Q I i;erw[wpAny_isTrue_Compare1 (Zx (h pins s j H _ I i) λv s1 h1=>Zx h1 λu s2 g=>Zx g λc s3 ⟨x,C,B,D,y⟩=>?_) h1];ext⟨d,rfl,q⟩ y;cases D;exact wpAny_truthy_bool ⟨C,B,q⟩
def ZW{e:Expr}(h:PE X e t)(u:∀whole,isTrue e X.env whole=(do let v <-whole;standAt e.pos;holding [v] (truthy v)):=by intro _;rfl):PT X e (tB t):=by
 intro pins s f H Q I c;erw[isTrue_plain (Zx (h pins s f H _ I c) λv s1 ⟨x,j,i,y,g⟩=>?_) (u _)];ext⟨d,rfl,q⟩ g;cases y;exact wpAny_truthy_bool ⟨j,i,q⟩
variable{tA tB':TT}{rest:OD}
def ZcX(t u:TT):TT:=λd H Q=>t d H λc f=>if c=true then u d f Q else Q false f
def tOr(t u:TT):TT:=λd H Q=>t d H λc f=>if c=true then Q true f else u d f Q
def ZcY(t:TT):TT:=λd H Q=>t d H λc f=>Q (!c) f
def W0(ha:PT X a tA):PW X (.BoolOp .And [a] pos) tA:=by
 intro f pins s d H Q I h;erw[isTrue_and (Zx (ha pins s d H Q I h) λc s1 e=>?_)];cases c with
 |true=>exact isTrue_and_nil e
 |false=>exact e
def Vu(ha:PT X a tA):PW X (.BoolOp .Or [a] pos) tA:=by
 intro f pins s d H Q I h;erw[isTrue_or (Zx (ha pins s d H Q I h) λc s1 e=>?_)];cases c with
 |false=>exact isTrue_or_nil e
 |true=>exact e
def W1(ha:PT X a tA)(u:PW X (.BoolOp .And (b::rest) pos) tB'):PW X (.BoolOp .And (a::b::rest) pos) (ZcX tA tB'):=by
 intro j pins s d H Q I h;erw[isTrue_and (Zx (ha pins s d H _ I h) λc s1 ⟨i,g,f⟩=>?_)];cases c with
 |true=>exact u j pins s1 d i Q g f
 |false=>exact⟨i,g,f⟩
def Vf(ha:PT X a tA)(u:PW X (.BoolOp .Or (b::rest) pos) tB'):PW X (.BoolOp .Or (a::b::rest) pos) (tOr tA tB'):=by
 intro j pins s d H Q I h;erw[isTrue_or (Zx (ha pins s d H _ I h) λc s1 ⟨i,g,f⟩=>?_)];cases c with
 |true=>exact⟨i,g,f⟩
 |false=>exact u j pins s1 d i Q g f
def ZX(ha:PT X a tA):PT X (.UnaryOp .Not a pos) (ZcY tA):=by
 intro pins s d H Q I h;exact isTrue_not (Zx (ha pins s d H (λc f=>Q (!c) f) I h) λ_ _ ⟨a,b,c⟩=>⟨a,b,c⟩)
inductive ZcZ(tb:TE)(σ:St)(Q:VK)(x:V)(H1:Hp):Prop|mk c (_:x=.bl c) (_:if c=true then tb σ H1 Q else Q (.bl false) H1)
def Zc0(ta tb:TE):TE:=λc H Q=>ta c H λx d=>ZcZ tb c Q x d
inductive Zc1(tb:TE)(σ:St)(Q:VK)(x:V)(H1:Hp):Prop|mk c (_:x=.bl c) (_:if c=true then Q (.bl true) H1 else tb σ H1 Q)
def Zc2(ta tb:TE):TE:=λc H Q=>ta c H λx d=>Zc1 tb c Q x d
inductive Zc3(Q:VK)(x:V)(H1:Hp):Prop|mk c (_:x=.bl c) (_:Q (.bl (!c)) H1)
def yN(ta:TE):TE:=λc H Q=>ta c H λx d=>Zc3 Q x d
def X6{op}(h:PE X a t):PE X (.BoolOp op [a] pos) t:=λpins s d H Q I c=>BoolOp_one (h pins s d H Q I c)
def WI(ha:PE X a ta)(u:PE X (.BoolOp .And (b::rest) pos) tb):PE X (.BoolOp .And (a::b::rest) pos) (Zc0 ta tb):=by
 intro pins s f H Q I h;erw[BoolOp_and (Zx (ha pins s f H _ I h) λv s1 ⟨x,i,g,j,d⟩=>?_)];ext⟨c,rfl,d⟩ d;cases j;erw[wpAny_truthy_bool ?_];cases c with
 |true=>exact u pins s1 f i Q g d
 |false=>exact⟨.bl false,i,g,R,d⟩
def MF(ha:PE X a ta)(u:PE X (.BoolOp .Or (b::rest) pos) tb):PE X (.BoolOp .Or (a::b::rest) pos) (Zc2 ta tb):=by
 intro pins s f H Q I h;erw[BoolOp_or (Zx (ha pins s f H _ I h) λv s1 ⟨x,i,g,j,d⟩=>?_)];ext⟨c,rfl,d⟩ d;cases j;erw[wpAny_truthy_bool ?_];cases c with
 |false=>exact u pins s1 f i Q g d
 |true=>exact⟨.bl true,i,g,R,d⟩
def MG(ha:PE X a ta):PE X (.UnaryOp .Not a pos) (yN ta):=by
 intro pins s f H Q I h;erw[UnaryOp_ (Zx (ha pins s f H _ I h) λv s1 ⟨x,i,g,j,d⟩=>?_)];ext⟨c,rfl,d⟩ d;cases j;exact not_of (wpAny_truthy_bool ⟨.bl (!c),i,g,R,d⟩)
def tIf(t:TT)(ta tb:TE):TE:=λd H Q=>t d H λc f=>if c=true then ta d f Q else tb d f Q
def Qa(u:PT X c tA)(ha:PE X a ta)(v:PE X b tb):PE X (.IfExp c a b pos) (tIf tA ta tb):=by
 intro pins s f H Q I h;erw[wpAny_IfExp (Zx (u pins s f H _ I h) λd s1 ⟨j,i,g⟩=>?_)];cases d with
 |true=>exact ha pins s1 f j Q i g
 |false=>exact v pins s1 f j Q i g
end
def Ze(K:Ox)(H:Hp)(a:Addr)(xs:List V):Prop :=
 Rd H a (.lst xs) \/
  ∃(o:Obj) (its:Array Value) (n:Nat),K.lookup a=some o/\o.cls=.type "list" /\ o.dict=none/\o.data=.seq its n/\its.size<=sizeLine/\ZB xs its.toList
def Zk(K:Ox)(H:Hp)(a:Addr)(xs:List V):Prop :=
 Rd H a (.tup xs) \/
  ∃(o:Obj) (its:Array Value) (n:Nat),K.lookup a=some o/\o.cls=.type "tuple" /\ o.data=.seq its n/\its.size<=sizeLine/\ZB xs its.toList
def Zc4:Value->Option V
 |.none=>some .non
 |.bool b=>some (.bl b)
 |.int i _=>some (.int i)
 |.str x _=>some (.str x)
 |.bytes b _=>some (.byt b)
 |.float b _=>some (.flt b)
 |.ref a=>some (.ref a)
 |.type n=>some (.ty n)
 |_=>none
def ZL.abs(r:ZL x u):Zc4 u=some x:=by
 cases x with
 |non=>cases r;rfl
 |bl _=>cases r;rfl
 |int _=>ext⟨t,rfl⟩ r;rfl
 |str _=>ext⟨t,rfl⟩ r;rfl
 |byt _=>ext⟨t,rfl⟩ r;rfl
 |flt _=>ext⟨t,rfl⟩ r;rfl
 |ref _=>cases r;rfl
 |ty _=>cases r;rfl
def ZL.inj(r:ZL x u)(q:ZL y u):x=y:=So (r.abs.symm.trans q.abs)
theorem ZB.inj:∀{xs ys:List V} {us:OB},ZB xs us->ZB ys us->xs=ys
 |_,_,_,.nil,.nil=>rfl
 |_,_,_,.cons r t,.cons c t'=>by rw[r.inj c,ZB.inj t t']
section
variable{σ:St}{a:Addr}{xs ys:List V}
def Ze.of(h:H a=some (.lst xs)):Ze K H a xs:=.inl (.inl h)
def Zk.of(h:H a=some (.tup xs)):Zk K H a xs:=.inl (.inl h)
def Zd.list(I:Zd X pins σ H s)(h:Ze X.K H a xs):∃c:List Value,ZB xs c/\PlainL s.heap a c.toArray/\xs.length<=sizeLine:=by
 rcases h with h|⟨o,c,n,d,f,hd,g,i,r⟩;obtain⟨z,c,n,r,e⟩:=h.ok I.hok;exact⟨c,r,⟨_,n,e,R,R,R⟩,z⟩;erw[⟨c.toList,r,⟨o,n,I.kIn a o d,f,hd,by simpa using g⟩,?_⟩];have e:=r.length;simp only[Array.length_toList]at e;lia
def Zd.tuple(I:Zd X pins σ H s)(h:Zk X.K H a xs):∃c:List Value,ZB xs c/\IsTup s.heap a c.toArray/\xs.length<=sizeLine:=by
 rcases h with h|⟨o,c,n,d,f,g,i,r⟩;obtain⟨z,c,r,p⟩:=h.ok I.hok;exact⟨c,r,p,z⟩;erw[⟨c.toList,r,⟨o,I.kIn a o d,f,n,by simpa using g⟩,?_⟩];have e:=r.length;simp only[Array.length_toList]at e;lia
def Zd.list_inj(I:Zd X pins σ H s)(h:Ze X.K H a xs)(h':Ze X.K H a ys):xs=ys:=by
 obtain⟨j,r,⟨o,n,e,_,_,d⟩,_⟩:=I.list h;obtain⟨g,u,⟨x,v,f,_,_,c⟩,_⟩:=I.list h';rw[e]at f;cases f;rw[d]at c;injection c with i _;have:j=g:=by simpa using congrArg Array.toList i
 subst this;exact r.inj u
def Zd.tuple_inj(I:Zd X pins σ H s)(h:Zk X.K H a xs)(h':Zk X.K H a ys):xs=ys:=by
 obtain⟨j,r,⟨o,e,_,n,d⟩,_⟩:=I.tuple h;obtain⟨g,u,⟨x,f,_,v,c⟩,_⟩:=I.tuple h';rw[e]at f;cases f;rw[d]at c;injection c with i _;have:j=g:=by simpa using congrArg Array.toList i
 subst this;exact r.inj u
end
abbrev Cx.wish(X:Cx)(E:Ou):Cx:={X with xe:=E}
abbrev Cx.nox(X:Cx):Cx:=X.wish λ_ _=>False
def Cx.Ok.wish(ok:X.Ok)(E:Ou):(X.wish E).Ok :=
 ⟨ok.mod,ok.kind,ok.glob,ok.blt,ok.above,ok.inj,ok.has,ok.cab,ok.hd,ok.frames,ok.stk,ok.exf,ok.bs,ok.bsz,ok.noex,ok.exfs,ok.funs,ok.frf⟩
def Cx.Ok.unwish(ok:(X.wish E).Ok):X.Ok :=
 ⟨ok.mod,ok.kind,ok.glob,ok.blt,ok.above,ok.inj,ok.has,ok.cab,ok.hd,ok.frames,ok.stk,ok.exf,ok.bs,ok.bsz,ok.noex,ok.exfs,ok.funs,ok.frf⟩
section
variable{σ:St}
def Zd.wish(I:Zd X pins σ H s)(E:Ou):Zd (X.wish E) pins σ H s:=⟨I.ok.wish E,I.os,I.bare,I.base,I.loc,I.cell,I.free,I.freeC,I.pin,I.hok,I.len⟩
def Zd.unwish(I:Zd (X.wish E) pins σ H s):Zd X pins σ H s:=⟨I.ok.unwish,I.os,I.bare,I.base,I.loc,I.cell,I.free,I.freeC,I.pin,I.hok,I.len⟩
def SP.unwish(h:SP (X.wish E) pins D f s'):SP X pins D f s':=by
 cases f with
 |next=>ext⟨c,d,I,q⟩ h;exact⟨c,d,I.unwish,q⟩
 |brk=>ext⟨c,d,I,q⟩ h;exact⟨c,d,I.unwish,q⟩
 |cont=>ext⟨c,d,I,q⟩ h;exact⟨c,d,I.unwish,q⟩
 |ret u=>ext⟨v,c,d,I,r,q⟩ h;exact⟨v,c,d,I.unwish,r,q⟩
def XV.nox{st:List Stmt}{t:TS}(h:XV X.nox st t):XV X st t:=λpins s σ H D I c =>
 Oq (h pins s σ H D (I.wish _) c) (λ_ _ q=>q.unwish) λ_ _ z=>False.elim z
end
section
variable{st:Stmt}{rest:List Stmt}{t u:TS}{e:Expr}{te:TE}
def Zc5:TS:=λD c H=>D.nx c H
def Yj(t u:TS):TS:=λD c H=>t {D with nx:=u D} c H
def ZK:XV X [] Zc5:=λ_ _ c H _ I h=>wpAny_execs_nil ⟨c,H,I,h⟩
def Zg(h1:PS X st t)(c:XV X rest u):XV X (st::rest) (Yj t u):=by
 intro pins s i H D I h;erw[wpAny_execs_cons (Zx (h1 pins s i H {D with nx:=u D} I h) λf s1 q=>?_)];cases f with
 |next =>
  ext⟨d,j,g,q⟩ q;exact c pins s1 d j D g q
 |ret v=>exact q
 |brk=>exact q
 |cont=>exact q
def Zf(h1:PS X st t):XV X [st] t:=by
 intro pins s c H D I h;erw[wpAny_execs_cons (Zx (h1 pins s c H D I h) λf s1 q=>?_)];cases f with
 |next=>exact wpAny_execs_nil q
 |ret v=>exact q
 |brk=>exact q
 |cont=>exact q
def Zd.quiet(I:Zd X pins c H s):interactive X.env=false:=by simp[interactive,I.ok.kind]
def Zc6(te:TE):TS:=λD c H=>te c H λ_ d=>D.nx c d
def Yk(i:PE X e te)(j:swapsWith e none pos.line X.env=pure false:=by rfl):PS X (.Expr e pos) (Zc6 te):=by
 intro pins s c H D I h;exact wpAny_Expr_any (Zx (i pins s c H _ I h) λv s1 ⟨x,g,f,y,d⟩=>⟨c,g,f,d⟩) I.quiet j
def Zc7(te:TE):TS:=λD c H=>te c H D.rt
def Zw(i:PE X e te):PS X (.Return (some e) pos) (Zc7 te):=by
 intro pins s c H D I h;exact wpAny_Return_some (Zx (i pins s c H _ I h) λv s1 ⟨x,g,f,j,d⟩=>⟨x,c,g,f,j,d⟩)
def Zc8(c:TT)(t u:TS):TS:=λD d H=>c d H λb f=>if b=true then t D d f else u D d f
def ZC(x:PT X c v)(ha:XV X a t)(y:XV X b u):PS X (.If c a b pos) (Zc8 v t u):=by
 intro pins s f H D I h;erw[wpAny_If (Zx (x pins s f H _ I h) λd s1 ⟨j,i,g⟩=>?_)];cases d with
 |true=>exact ha pins s1 f j D i g
 |false=>exact y pins s1 f j D i g
def Zc9:TS:=λ_ _ _=>False
def Vv:PS X st Zc9:=λ_ _ _ _ _ _ h=>h.elim
end
abbrev TG:=V->St->Hp->(St->Hp->Prop)->Prop
abbrev F1:=List V->St->Hp->(St->Hp->Prop)->Prop
def PG(X:Cx)(target:Expr)(t:TG):Prop :=
 ∀(pins:Ov) (s:Shared) (σ:St) (H:Hp) (v:V) (u:Value) (Q:St->Hp->Prop),Zd X pins σ H s->ZL v u->t v σ H Q ->
  wpAny (model X.prog X.w) X.A (assign target X.env u) (λ_ f=>∃c d,Zd X pins c d f/\Q c d) X.xe s
def F2(X:Cx)(f:OD)(t:F1):Prop :=
 ∀(pins:Ov) (s:Shared) (σ:St) (H:Hp) (vs:List V) (us:OB) (Q:St->Hp->Prop),Zd X pins σ H s->ZB vs us->t vs σ H Q ->
  wpAny (model X.prog X.w) X.A (assignInOrder ((assignEach f X.env).map (·.2)) us) (λ_ g=>∃d c,Zd X pins d c g/\Q d c) X.xe s
abbrev yO:=V->V->V->Hp->(Hp->Prop)->Prop
def yP(X:Cx)(t:yO):Prop :=
 ∀(pins:Ov) (s:Shared) (σ:St) (H:Hp) (o i v:V) (ov iv u:Value) (Q:Hp->Prop),Zd X pins σ H s->ZL o ov->ZL i iv->ZL v u->t o i v H Q ->
  wpAny (model X.prog X.w) X.A (setItem ov iv u) (λ_ d=>∃c,Zd X pins σ c d/\Q c) X.xe s
def YK(i:Nat):TG:=λv c H Q=>Q (c.set i (some v)) H
def MH(f:X.N.Nodup)(hi:X.N[i]? = some x)(d:QE X.env.scope x)(g:X.fn x=true\/X.env.scope.names.lookup x=some .local:=by first|exact .inl rfl|exact .inr rfl|assumption):PG X (.Name x pos) (YK i):=by
 intro pins s j H v u Q I r h;exact wpAny_assign_Name (F0 I f hi d r (λy c=>⟨_,H,c,h⟩) g)
def Zda:F1:=λd c H Q=>d=[]/\Q c H
inductive Zdb(t:TG)(u:F1)(vs:List V)(σ:St)(H:Hp)(Q:St->Hp->Prop):Prop|mk v r (_:vs=v::r) (_:t v σ H λσ' H'=>u r σ' H' Q)
def KZ:F2 X [] Zda:=by
 intro pins s c H d f Q I r h;ext⟨e,h⟩ h;subst e;cases r;exact assignInOrder_nil ⟨c,H,I,h⟩
def UR(h1:PG X e t)(d:F2 X c u)
  (f:(assignEach (e::c) X.env).map (·.2)=assign e X.env::(assignEach c X.env).map (·.2):=by rfl):F2 X (e::c) (Zdb t u):=by
 intro pins s g H E G Q I r h;ext⟨v,D,j,h⟩ h;subst j;cases r with
 |cons r B =>
  rw[f];erw[assignInOrder_cons (Zx (h1 pins s g H _ _ _ I r h) λ_ s1 ⟨C,x,y,i⟩=>?_)];exact d pins s1 C x _ _ Q y B i
inductive Zdc(K:Ox)(n:Nat)(t:F1)(v:V)(σ:St)(H:Hp)(Q:St->Hp->Prop):Prop|mk a xs (_:v=.ref a) (_:Zk K H a xs) (_:xs.length=n) (_:t xs σ H Q)
def MI(J:X.calm=true)(h:F2 X c t)
  (hn:(assignEach c X.env).length=n:=by rfl) (D:(assignEach c X.env).findIdx? (·.1)=none:=by rfl):PG X (.Tuple c k pos) (Zdc X.K n t):=by
 intro pins s g H v u Q I r d;ext⟨a,y,j,i,x,d⟩ d;subst j;cases r;obtain⟨M,f,G,L⟩:=I.tuple i;erw[assign_Tuple_tuple (I.ok.hd J) G (by simp[hn,<-x,f.length]) D λC E=>?_];have B:Zd X pins g H {s with heap:=C}:=I.kept (t':=s.toks) λb o e=>E b o (Sf (Se e)) e;exact h pins _ g H y _ Q B (by simpa using f) d
def Zdd(to g:TE)(t:yO):TG:=λv c H Q=>to c H λo d=>g c d λi f=>t o i v f λh=>Q c h
def yQ(T:PE X o to)(hi:PE X i g)(S:yP X t)
  (ha:∀v,assign (.Subscript o i pos) X.env v=(do
   let c <-holding [v] (eval o X.env)
   let d <-holding [v,c] (eval i X.env)
   standAt pos
   holding [v,c,d] (setItem c d v)
   release [v,c,d] []):=by intro _;rfl):PG X (.Subscript o i pos) (Zdd to g t):=by
 intro pins s f H v u Q I r h;rw[ha];erw[Sa (wpAny_holding (Zx (T pins s f H _ I h) λc s1 ⟨x,B,J,C,j⟩=>?_))];erw[Sa (wpAny_holding (Zx (hi pins s1 f B _ J j) λd s2 ⟨y,D,O,M,G⟩=>?_))];erw[Sa (wpAny_standAt (Sa (wpAny_holding (Zx (S pins s2 f D x y v c d u _ O C M r G) λ_ s3 ⟨E,L,P⟩=>?_))))];exact wpAny_release ⟨f,E,L,P⟩
def QF(f:TE)(g:TG):TS:=λD c H=>f c H λx d=>g x c d D.nx
def K0(C:PE X e f)(G:PG X c g)(J:swapsWithSole [c] e pos.line X.env=pure false:=by rfl)(i:swappedStores [c] e X.env=pure none:=by rfl)
  (B:(assignEach [c] X.env).map (·.2)=[assign c X.env]:=by rfl):PS X (.Assign [c] e pos) (QF f g):=by
 intro pins s d H D I h;erw[wpAny_Assign_stores (Zx (C pins s d H _ I h) λv s1 ⟨x,y,u,E,j⟩=>?_) J i];rw[B];exact Zx (G pins s1 d y x v _ u E j) λ_ s2 q=>q
def Zde{pos':Pos}(f:X.N.Nodup)(hi:X.N[i]? = some x)(d:QE X.env.scope x)(C:PE X e c)(L:swapsWith e (some (.Name x pos')) pos.line X.env=pure false:=by rfl)(J:X.fn x=true\/X.env.scope.names.lookup x=some .local:=by first|exact .inl rfl|exact .inr rfl|assumption) :
  PS X (.Assign [.Name x pos'] e pos) (QF c (YK i)):=by
 intro pins s g H D I h;erw[wpAny_Assign_Name (Zx (C pins s g H _ I h) λv s1 ⟨y,B,u,G,j⟩=>?_) L];exact F0 u f hi d G (λs2 E=>⟨_,B,E,j⟩) J
inductive Zdf(i j:Nat)(D:Vd)(σ:St)(vs:List V)(H1:Hp):Prop|mk v w (_:vs=[v,w]) (_:D.nx ((σ.set i (some v)).set j (some w)) H1)
def Zdg(i j:Nat)(g:TA):TS:=λD c H=>g c H λd f=>Zdf i j D c d f
def Q3{kt k2 pt2}(hc:X.calm=true)(G:X.N.Nodup)(hi:X.N[i]? = some x)(hj:X.N[j]? = some y)(Z:i≠j)
  (E:X.env.scope.names.lookup x=some .local) (D:X.env.scope.names.lookup y=some .local) (ha:PA X [a,b] B)
  (Q:swappedStores [.Tuple [.Name x h,.Name y g] kt pt] (.Tuple [a,b] k2 pt2) X.env=pure (some [x,y]))
  (hs:swapsWithSole [.Tuple [.Name x h,.Name y g] kt pt] (.Tuple [a,b] k2 pt2) pos.line X.env=pure false:=by rfl) :
  PS X (.Assign [.Tuple [.Name x h,.Name y g] kt pt] (.Tuple [a,b] k2 pt2) pos) (Zdg i j B):=by
 intro pins s H a0 c0 I b0;rw[exec_Assign_arm];erw[Sa (wpAny_standAt ?_)];rw[hs];erw[Sa (Sb ?_)];rw[SV ()];erw[Sa (Tuple_ (Zx (ha _ pins s H a0 _ I b0) λU s1 ⟨vs,u,T,L,f⟩=>?_))];ext⟨v,w,M,f⟩ f;subst M;obtain⟨c,d,rfl,P,S⟩:∃c d,U=[c,d]/\ZL v c/\ZL w d:=by
  cases L with
  |cons p q =>
   cases q with
   |cons p' q' =>
    cases q';exact⟨_,_,R,p,p'⟩
 erw[wpAny_newObj_type ?_ (zL9 R)];have I2:Zd X pins H u {s1 with heap:=s1.heap.push {cls:=.type "tuple",data:=.seq [c,d].toArray} }:=T.kept (t':=s1.toks) λb o e=>Sc _ e;rw[Q];erw[Sa (Sb ?_)];show wpAny (model X.prog X.w) X.A (do rule "assign.swapped-stores";let items <-unpackItems (.ref s1.heap.objs.size) 2 none;assignInOrder [λv=>bindName X.env y v,λv=>bindName X.env x v] items.reverse;pure Flow.next) _ _ _;erw[Sa (wpAny_rule (Sa (unpackItems_tuple (items:=#[c,d]) (I.ok.hd hc) (IsTup.new s1.heap _) λh' J=>?_)))];have Y:=I2.kept (h':=h') (t':=s1.toks) λb o e=>J b o (Sf (Se e)) e;show wpAny _ _ (assignInOrder [λv=>bindName X.env y v,λv=>bindName X.env x v] [d,c] >>= λ_=>pure Flow.next) _ _ _;erw[Sa (assignInOrder_cons (wpAny_bindName (F0 Y G hj (.inl D) S (λs2 O=>?_) (.inr D))))];erw[assignInOrder_cons (wpAny_bindName (F0 O G hi (.inl E) P (λs3 C=>assignInOrder_nil (Sb ?_)) (.inr E)))];rw[List.set_comm _ _ (Ne.symm Z)]at C;exact⟨_,u,C,f⟩
structure It where
 go:Nat->Hp->Prop
 yld:Nat->Hp->V->Hp->Prop
 stop:Nat->Hp->Prop
def Vw(X:Cx)(pins:Ov)(H:Hp)(b:Addr):Prop :=
 H b=none/\b≠X.env.locals/\b∉X.fs/\(b∈X.ex\/X.s₀.heap.objs.size<=b)/\(∀x c,X.env.cells.lookup x=some c->c≠b)/\∀p∈X.pn++pins,p.1≠b
def Zd.fpOk(I:Zd X pins g H s)(d:s.heap.objs.size<=b)(hn:f b=none):Vw X pins f b:=by
 erw[⟨hn,Nat.ne_of_gt (Si I.lt d),I.nofs d,.inr (Sh I.sz d),λx c e z=>?_,λp h z=>?_⟩];obtain⟨v,q⟩:=I.cell x c e;exact Os (Si q.lt (by rwa[z])) (Sl _);exact Os (Si (Se (I.pin p h).1) (by rwa[z])) (Sl _)
structure Q4(P:Program)(w:World)(K:Ox)(tg:Expr)(J:It)(fp:OH)(it:Addr)(tn:Nat->Heap->Prop):Prop where
 mem:it∈fp
 obj:∀i h,tn i h->∀b∈fp,∃o,h.get? b=some o/\∀v,o.data≠.cell v
 keep:∀i h h',tn i h->(∀b∈fp,∀o,h.get? b=some o->h'.get? b=some o)->tn i h'
 item:∀(X:Cx),X.prog=P->X.w=w->X.K=K->X.calm=true->∀(i:Nat) (pins:Ov) (s:Shared) (σ:St) (H:Hp) (E:Ou),Zd X pins σ H s->(∀b∈fp,Vw X pins H b)->tn i s.heap->J.go i H ->
  wpAny (model P w) X.A (pyNext (.ref it)) (λr s1=>∃u,r=some u /\
   wpAny (model P w) X.A (letOwnedTupleGo tg (.ref it) u) (λ_ s2=>∃x H',Zd X pins σ H' s2/\ZL x u/\J.yld i H x H'/\tn (i+1) s2.heap/\∀b∈fp,H' b=none) E s1) E s
 done:∀(X:Cx),X.prog=P->X.w=w->X.K=K->X.calm=true->∀(i:Nat) (pins:Ov) (s:Shared) (σ:St) (H:Hp) (E:Ou),Zd X pins σ H s->(∀b∈fp,Vw X pins H b)->tn i s.heap->J.stop i H ->
  wpAny (model P w) X.A (pyNext (.ref it)) (λr s1=>r=none/\Zd X pins σ H s1) E s
 self:∀(A:Around) (i:Nat) (s:Shared) (Q:Ou) (E:Ou),tn i s.heap->Q (.ref it) s->wpAny (model P w) A (pyIter (.ref it)) Q E s
abbrev TI:=St->Hp->(It->Hp->Prop)->Prop
inductive yR(X:Cx)(pins:Ov)(σ:St)(tg:Expr)(R:It->Hp->Prop)(itv:Value)(s2:Shared):Prop|mk (it:Addr) (fp:OH) (tn:Nat->Heap->Prop) (J:It) (H':Hp) (_:itv=.ref it) (_:Zd X pins σ H' s2) (_:Q4 X.prog X.w X.K tg J fp it tn) (_:tn 0 s2.heap) (_:(∀b∈fp,Vw X pins H' b)) (_:R J H')
def PI(X:Cx)(d iter:Expr)(c:TI):Prop :=
 ∀(pins:Ov) (s:Shared) (σ:St) (H:Hp) (R:It->Hp->Prop),Zd X pins σ H s->c σ H R ->
  wpAny (model X.prog X.w) X.A (eval iter X.env) (λv s1=>wpAny (model X.prog X.w) X.A (pyIter v) (yR X pins σ d R) X.xe s1) X.xe s
def K2 {o:Obj} (i:s.heap.get? f=some o) (g:o.cls=.type n) (hd:o.data=.fields vs)
    (hn:["enumerate","zip","dict_itemiterator","dict_reverseitemiterator","odict_iterator","itertools.zip_longest","itertools.pairwise"].contains n=false) (c:Q Unit.unit s):wpAny M A (letOwnedTupleGo d (.ref f) u) Q E s:=by
  unfold letOwnedTupleGo;cases d<;>first
    |exact Sb c
    | (cases u <;> first
        |exact Sb c
        | (refine Sa (Op i ?_)
           rw[g,hd];show wpAny M A (if (["enumerate","zip","dict_itemiterator","dict_reverseitemiterator","odict_iterator","itertools.zip_longest","itertools.pairwise"].contains n && vs[0]? == some (rawInt _))=true then _ else _) Q E s;rw[SV (by intro h;rw[hn,Bool.false_and]at h;cases h)];exact Sb c))
def Qb(K:Ox)(a:Addr):It :=
 ⟨λi H=>∃c x,Ze K H a c/\c[i]? = some x,λi H x d=>d=H/\∀c,Ze K H a c->c[i]? = some x,λi H=>∃c,Ze K H a c/\c.length<=i⟩
def F3(K:Ox)(a:Addr):It :=
 ⟨λi H=>∃c x,Zk K H a c/\c[i]? = some x,λi H x d=>d=H/\∀c,Zk K H a c->c[i]? = some x,λi H=>∃c,Zk K H a c/\c.length<=i⟩
def US(lo:Int)(n:Nat):It:=⟨λi _=>i<n,λi H x c=>c=H/\x=.int (lo+i),λi _=>n<=i⟩
def Zdh{tg:Expr}(a f:Addr):Q4 P w K tg (Qb K a) [f] f (λi h=>h.IsListIter f a i) where
 mem:=by simp
 obj:=λi h st b g=>by
  have e:b=f:=by simpa using g
  subst e;ext⟨o,e,c,d⟩ st;exact⟨o,e,λc0 z=>by rw[d]at z;cases z⟩
 keep:=λi h y st k=>st.at λo e=>k f (by simp) o e
 item:=by
  intro X J E O Y i pins s U H a0 I v st M;subst J E O;ext⟨xs,x,j,Q⟩ M;obtain⟨b0,D,p,hz⟩:=I.list j;obtain⟨u,Z,ru⟩:=D.get Q;obtain⟨B,G,f2,L,S,C⟩:=v f (by simp);erw[wpAny_pyNext_list_item st p.isList (x:=u) (by simpa using Z) λy T sb=>?_];have I1:Zd X pins U H {s with heap:=y}:=I.turned (t':=s.toks) (λb o g e=>(sb.2 b g).trans e) B G L S C;obtain⟨o,e,c,d⟩:=id T;exact⟨u,R,K2 (s:={s with heap:=y}) e c d () ⟨x,H,I1,ru,⟨R,λys hy=>by rwa[I.list_inj hy j]⟩,T,λb g=>(v b g).1⟩⟩
 done:=by
  intro X J E O Y i pins s U H a0 I v st M;subst J E O;ext⟨xs,j,Q⟩ M;obtain⟨b0,D,p,hz⟩:=I.list j;obtain⟨B,G,f2,L,S,C⟩:=v f (by simp);have hl:=D.length;exact wpAny_pyNext_list_end (I.ok.hd Y) st p.isList (by simp;lia) λy eb=>⟨R,I.turned (t':=s.toks) (λb o g e=>eb b o g e) B G L S C⟩
 self:=λ_ _ _ _ _ st h=>wpAny_pyIter_listiter st h
def Zdi{tg:Expr}(a f:Addr):Q4 P w K tg (F3 K a) [f] f (λi h=>h.IsTupleIter f a i) where
 mem:=by simp
 obj:=λi h st b g=>by
  have e:b=f:=by simpa using g
  subst e;ext⟨o,e,c,d⟩ st;exact⟨o,e,λb0 z=>by rw[d]at z;cases z⟩
 keep:=λi h y st k=>st.at λo e=>k f (by simp) o e
 item:=by
  intro X J E O Z i pins s Y H a0 I v st M;subst J E O;ext⟨xs,x,j,Q⟩ M;obtain⟨T,D,p,hz⟩:=I.tuple j;obtain⟨u,hu,ru⟩:=D.get Q;obtain⟨B,G,f2,L,S,C⟩:=v f (by simp);erw[wpAny_pyNext_tuple_item st (show s.heap.IsTuple a T.toArray from p) (x:=u) (by simpa using hu) λy U sb=>?_];have I1:Zd X pins Y H {s with heap:=y}:=I.turned (t':=s.toks) (λb o g e=>(sb.2 b g).trans e) B G L S C;obtain⟨o,e,c,d⟩:=id U;exact⟨u,R,K2 (s:={s with heap:=y}) e c d () ⟨x,H,I1,ru,⟨R,λys hy=>by rwa[I.tuple_inj hy j]⟩,U,λb g=>(v b g).1⟩⟩
 done:=by
  intro X J E O Z i pins s Y H a0 I v st M;subst J E O;ext⟨xs,j,Q⟩ M;obtain⟨T,D,p,hz⟩:=I.tuple j;obtain⟨B,G,f2,L,S,C⟩:=v f (by simp);have hl:=D.length;exact wpAny_pyNext_tuple_end (I.ok.hd Z) st (show s.heap.IsTuple a T.toArray from p) (by simp;lia) λy eb=>⟨R,I.turned (t':=s.toks) (λb o g e=>eb b o g e) B G L S C⟩
 self:=λ_ _ _ _ _ st h=>wpAny_pyIter_tupleiter st h
def Zdj{O:Expr}(c:Addr)(lo:Int)(n:Nat):Q4 P w K O (US lo n) [c] c (λi h=>IsRangeIter h c (lo+(i:Nat)*1) ((n:Int) - (i:Nat)) 1) where
 mem:=by simp
 obj:=λi h st b d=>by
  have e:b=c:=by simpa using d
  subst e;exact⟨_,st,λv z=>by
   have T:Data.fields _=Data.cell v:=z;cases T⟩
 keep:=λi h g st k=>k c (by simp) _ st
 item:=by
  intro X B x E J i pins s M H a0 I f st D;subst B x E;obtain⟨j,y,S,C,G,u⟩:=f c (by simp);have W:=Walks.range (prog:=X.prog) (w:=X.w) (I.ok.hd J) c lo 1 n;erw[W.item i s _ _ D st λv g tk Q L Z=>?_];ext⟨t,rfl⟩ Q;have Y:Zd X pins M H {s with heap:=g,toks:=tk}:=I.turned (λb o d e=>Z b o (by simpa using d) e) j y C G u;erw[⟨_,R,K2 (s:={s with heap:=g,toks:=tk}) (n := "range_iterator") L R R () ⟨.int (lo+i),H,Y,⟨t,?_⟩,⟨R,R⟩,L,λb d=>(f b d).1⟩⟩];rw[Int.mul_one]
 done:=by
  intro X B x E J i pins s M H a0 I f st D;subst B x E;obtain⟨j,y,S,C,G,u⟩:=f c (by simp);exact wpAny_pyNext_range_end (I.ok.hd J) st (by have:n<=i:=D;lia) λg U=>⟨R,I.turned (t':=s.toks) (λb o d e=>U b o d e) j y C G u⟩
 self:=λ_ _ _ _ _ st h=>wpAny_pyIter_rangeiter st h
section
variable{tg:Expr}
inductive Zdk(K:Ox)(R:It->Hp->Prop)(x:V)(H1:Hp):Prop|mk a (_:x=.ref a) (_:(∃xs,Ze K H1 a xs)) (_:R (Qb K a) H1)
def Zdl(K:Ox)(tl:TE):TI:=λc H f=>tl c H λx d=>Zdk K f x d
inductive Zdm(K:Ox)(R:It->Hp->Prop)(x:V)(H1:Hp):Prop|mk a (_:x=.ref a) (_:(∃xs,Zk K H1 a xs)) (_:R (F3 K a) H1)
def Zdn(K:Ox)(tl:TE):TI:=λc H f=>tl c H λx d=>Zdm K f x d
def Xx{l:Expr}{tl:TE}(f:PE X l tl):PI X tg l (Zdl X.K tl):=by
 intro pins s g H G I h;erw[Zx (f pins s g H _ I h) λv s1 ⟨x,j,c,u,i⟩=>?_];ext⟨a,e,⟨E,d⟩,q⟩ i;subst e;cases u;obtain⟨B,C,p,D⟩:=c.list d;erw[wpAny_pyIter_list p.isList ?_];erw[⟨s1.heap.objs.size,[s1.heap.objs.size],_,_,j,R,c.kept (t':=s1.toks) λb o e=>Sc _ e,Zdh a _,⟨_,Sd _ R,R,R⟩,λb y=>?_,q⟩];have e:b=s1.heap.objs.size:=by simpa using y
 subst e;exact c.fpOk (Sg _) (c.hok.fresh (Sg _))
def yS{l:Expr}{tl:TE}(f:PE X l tl):PI X tg l (Zdn X.K tl):=by
 intro pins s i H G I h;erw[Zx (f pins s i H _ I h) λv s1 ⟨x,u,c,y,j⟩=>?_];ext⟨a,e,⟨E,d⟩,q⟩ j;subst e;cases y;obtain⟨g,C,p,D⟩:=c.tuple d;erw[wpAny_pyIter_tuple (show s1.heap.IsTuple a g.toArray from p) ?_];erw[⟨s1.heap.objs.size,[s1.heap.objs.size],_,_,u,R,c.kept (t':=s1.toks) λb o e=>Sc _ e,Zdi a _,⟨_,Sd _ R,R,R⟩,λb B=>?_,q⟩];have e:b=s1.heap.objs.size:=by simpa using B
 subst e;exact c.fpOk (Sg _) (c.hok.fresh (Sg _))
def Zdo{c:St}{R:It->Hp->Prop}{lo hi:Int}{t u v:Tok}{tk:Nat}(I:Zd X pins c H s)(h1:-(2 ^ 62)<=lo)(f:lo<2 ^ 62)(i:-(2 ^ 62)<=hi)(g:hi<2 ^ 62)
  (q:R (US lo (hi - lo).toNat) H):wpAny (model X.prog X.w) X.A (pyIter (.ref s.heap.objs.size)) (yR X pins c tg R) E {s with heap:=s.heap.push {cls:=.type "range",data:=.fields #[.int lo t,.int hi u,.int 1 v]},toks:=tk}:=by
 erw[wpAny_pyIter_range (IsRange.new ..) (small_one h1 f i g) ?_];have d:Zd X pins c H {s with heap:=s.heap.push {cls:=.type "range",data:=.fields #[.int lo t,.int hi u,.int 1 v]},toks:=tk}:=I.kept λb o e=>Sc _ e;refine⟨(s.heap.push {cls:=.type "range",data:=.fields #[.int lo t,.int hi u,.int 1 v]}).objs.size,[(s.heap.push {cls:=.type "range",data:=.fields #[.int lo t,.int hi u,.int 1 v]}).objs.size],_,_,H,rfl,
  d.kept (t':=tk) λb o e=>Sc _ e,Zdj _ lo (hi - lo).toNat,?_,λb x=>?_,q⟩
 have j:lo+((0:Nat):Int)*1=lo:=by simp
 have h:(((hi - lo).toNat:Nat):Int) - ((0:Nat):Int)=Builtin.Range.rangeSize lo hi 1:=by rw[rangeSize_one];split<;>omega
 show IsRangeIter _ _ (lo+((0:Nat):Int)*1) ((((hi - lo).toNat:Nat):Int) - ((0:Nat):Int)) 1;rw[j,h];exact Sd _ rfl;have e:b=(s.heap.push {cls:=.type "range",data:=.fields #[.int lo t,.int hi u,.int 1 v]}).objs.size:=by simpa using x
 subst e;exact d.fpOk (Sg _) (d.hok.fresh (Sg _))
inductive Zdp(R:It->Hp->Prop)(vs:List V)(H1:Hp):Prop|mk (j:Int) (_:vs=[.int j]) (_:-(2 ^ 62)<=j) (_:j<2 ^ 62) (_:R (US 0 j.toNat) H1)
def Zdq(h:TA):TI:=λd H g=>h d H λc f=>Zdp g c f
def VW{a:Expr}{f:TA}{p d:Pos}(y:Gl X "range") (hm:X.mg "range"=none) (ha:PA X [a] f) (g:starEach [a] X.env=[(false,eval a X.env)]:=by rfl):PI X tg (.Call (.Name "range" p) [a] [] d) (Zdq f):=by
 intro pins s i H G I h;erw[Call_ (Q2 I y hm boot_range (PyProof.Rows.callWith_type1 (Zx (ha d pins s i H _ I h) λE s1 ⟨C,D,u,x,c⟩=>?_) g R))];ext⟨j,e,c,B,q⟩ c;subst e;cases x with
 |cons r v =>
  cases v;ext⟨t,rfl⟩ r;exact call_range_1 (Zdo u () () c B (by simpa using q))
def yT(B:TI)(g:TG)(j:TS):TS:=λD c H=>B c H λJ u=>∃W:Nat->Nat->St->Hp->Prop,(∃m,W 0 m c u)/\∀i m c H,W i m c H ->
 (J.stop i H/\D.nx c H)\/(J.go i H/\∃N:St->Hp->Prop,(∀f d,N f d->∃h,h<m/\W (i+1) h f d)/\∀x d,J.yld i H x d->g x c d λy v=>j {D with nx:=N,ct:=N,bk:=D.nx} y v)
def QG(fp:OH)(h:Heap):List (Addr×Obj):=fp.filterMap λb=>(h.get? b).map λo=>(b,o)
def K3{h:Heap}(c:b∈fp)(e:h.get? b=some o):(b,o)∈QG fp h:=List.mem_filterMap.mpr ⟨b,c,by rw[e];rfl⟩
def Zdr{h:Heap}{p:Addr×Obj}(f:p∈QG fp h):p.1∈fp/\h.get? p.1=some p.2:=by
 obtain⟨b,d,e⟩:=List.mem_filterMap.mp f;cases q:h.get? b with
 |none=>rw[q]at e;cases e
 |some o =>
  rw[q]at e;have c:(b,o)=p:=So e;subst c;exact⟨d,q⟩
def Zd.pinned(I:Zd X pins f H s)(x:∀b∈fp,Vw X pins H b)(y:∀b∈fp,∃o,s.heap.get? b=some o/\∀v,o.data≠.cell v):Zd X (pins++QG fp s.heap) f H s :=
 I.pins_of λp u=>(SF.mp u).elim (λz=>I.pin p (SG _ z)) λz=>by
  obtain⟨g,e⟩:=Zdr z;obtain⟨h,i,j,_⟩:=x p.1 g;obtain⟨o,c,d⟩:=y p.1 g;rw[e]at c;cases c;exact⟨e,h,i,j,d⟩
def Zd.unpinned(I:Zd X (pins++pl) c H s):Zd X pins c H s:=I.pins_of λp d=>I.pin p (SG _ (SH _ d))
def yU{iter:Expr}{body:List Stmt}{P:TS}(C:PassesOwn (model X.prog X.w) X.A X.env X.xe)(hc:X.calm=true)(hi:PI X tg iter O)(hg:PG X tg g)(h:XV X body P)
  (hs:∀x,foldedSetIterable iter X.env x=pure x:=by intro _;rfl):PS X (.For tg iter body [] i0) (yT O g P):=by
 intro pins s Z d0 n0 a0 h0;erw[wpAny_For (Zx (hi pins s Z d0 _ a0 h0) λg0 s1 h1=>Zx h1 λo0 s2 h2=>?_) hs];ext⟨it,fp,tn,p0,H2,e,I2,T,e0,L,W,⟨m0,w0⟩,turn⟩ h2;subst e
 -- what stays true of the iterator's objects through the loop
 have G:∀{j:Hp},(∀b∈fp,j b=none)->∀b∈fp,Vw X pins j b:=λhn b h=>⟨hn b h,(L b h).2⟩;erw[codeAny_forLoop_any (λn U=>∃i B j,Zd X pins B j U/\tn i U.heap/\(∀b∈fp,j b=none)/\W i n B j) ?_ m0 ⟨0,Z,H2,I2,e0,λb h=>(L b h).1,w0⟩];rintro n s3 ⟨i,v,D,Q,M,S,w3⟩;rcases turn i n v D w3 with⟨stop,qn⟩|⟨go,N,hN,step⟩;erw[wpAny_passesOwn C (Zx (T.done X R R R hc i pins s3 v D X.xe Q (G S) M stop) λr s4 ⟨I,I4⟩=>?_)];subst I;exact wpAny_execs_nil ⟨v,D,I4,qn⟩;erw[wpAny_passesOwn C (Zx (T.item X R R R hc i pins s3 v D X.xe Q (G S) M go) λr s4 ⟨c0,I,h4⟩=>?_)];subst I;erw[wpAny_passesOwn C (Zx h4 λ_ J ⟨x,Y,I5,r5,y5,E,j0⟩=>?_)];have b0:=I5.pinned (G j0) (T.obj _ _ E);erw[wpAny_passesOwn C (Zx (hg _ J v Y x c0 _ b0 r5 (step x Y y5)) λ_ s6 ⟨k0,H6,I6,q6⟩=>?_)];erw[wpAny_passesOwn C (Zx (h _ s6 k0 H6 _ I6 q6) λf0 H u=>?_)];have again:∀{c:St} {f:Hp},Zd X (pins++QG fp J.heap) c f H->N c f->∃m,m<n/\∃i B j,Zd X pins B j H/\tn i H.heap/\(∀b∈fp,j b=none)/\W i m B j:=λ{c f} d y=>by
  obtain⟨m',hm,w7⟩:=hN c f y;erw[⟨m',hm,i+1,c,f,d.unpinned,T.keep _ _ _ E λb h o e=>(d.pin (b,o) (SG _ (SG _ (K3 h e)))).1,λb h=>?_,w7⟩];obtain⟨o,e,l0⟩:=T.obj _ _ E b h;exact(d.pin (b,o) (SG _ (SG _ (K3 h e)))).2.1
 cases f0 with
 |next=>ext⟨c,f,d,y⟩ u;exact again d y
 |cont=>ext⟨c,f,d,y⟩ u;exact again d y
 |brk=>ext⟨c,f,d,u⟩ u;exact⟨c,f,d.unpinned,u⟩
 |ret g0=>ext⟨x7,c,f,d,r7,u⟩ u;exact⟨x7,c,f,d.unpinned,r7,u⟩
end
def F4{a:Addr}{xs:List V}{g:TG}{v:TS}{D:Vd}{c:St}(d:Nat->St->Hp->Prop)(I:d 0 c H)(E:∀i c H,i<=xs.length->d i c H->Ze K H a xs)
  (J:∀i x c H,xs[i]? = some x->d i c H->g x c H λu j=>v {D with nx:=d (i+1),ct:=d (i+1),bk:=D.nx} u j) (hd:∀c H,d xs.length c H->D.nx c H) :
  ∃W:Nat->Nat->St->Hp->Prop,(∃m,W 0 m c H)/\∀i m c H,W i m c H ->
   ((Qb K a).stop i H/\D.nx c H)\/((Qb K a).go i H/\∃N:St->Hp->Prop,(∀h f,N h f->∃C,C<m/\W (i+1) C h f)/\∀x f,(Qb K a).yld i H x f->g x c f λu j=>v {D with nx:=N,ct:=N,bk:=D.nx} u j):=by
 erw[⟨λi m c H=>m=xs.length - i/\i<=xs.length/\d i c H,⟨xs.length,by simp,Sk _,I⟩,?_⟩];rintro i m c H ⟨rfl,G,p⟩;have q:=E i c H G p;by_cases B:i<xs.length;erw[.inr ⟨⟨xs,xs[i],q,by simp[B]⟩,d (i+1),λh f L=>⟨xs.length - (i+1),(),R,B,L⟩,λx f y=>?_⟩];ext⟨e,y⟩ y;subst e;exact J i x c _ (y xs q) p;have e:i=xs.length:=by lia
 subst e;exact .inl ⟨⟨xs,q,Sg _⟩,hd c H p⟩
def yV{a:Addr}{xs:List V}{g:TG}{v:TS}{D:Vd}{c:St}(d:Nat->St->Hp->Prop)(I:d 0 c H)(E:∀i c H,i<=xs.length->d i c H->Zk K H a xs)
  (J:∀i x c H,xs[i]? = some x->d i c H->g x c H λu j=>v {D with nx:=d (i+1),ct:=d (i+1),bk:=D.nx} u j) (hd:∀c H,d xs.length c H->D.nx c H) :
  ∃W:Nat->Nat->St->Hp->Prop,(∃m,W 0 m c H)/\∀i m c H,W i m c H ->
   ((F3 K a).stop i H/\D.nx c H)\/((F3 K a).go i H/\∃N:St->Hp->Prop,(∀h f,N h f->∃C,C<m/\W (i+1) C h f)/\∀x f,(F3 K a).yld i H x f->g x c f λu j=>v {D with nx:=N,ct:=N,bk:=D.nx} u j):=by
 erw[⟨λi m c H=>m=xs.length - i/\i<=xs.length/\d i c H,⟨xs.length,by simp,Sk _,I⟩,?_⟩];rintro i m c H ⟨rfl,G,p⟩;have q:=E i c H G p;by_cases B:i<xs.length;erw[.inr ⟨⟨xs,xs[i],q,by simp[B]⟩,d (i+1),λh f L=>⟨xs.length - (i+1),(),R,B,L⟩,λx f y=>?_⟩];ext⟨e,y⟩ y;subst e;exact J i x c _ (y xs q) p;have e:i=xs.length:=by lia
 subst e;exact .inl ⟨⟨xs,q,Sg _⟩,hd c H p⟩
def Q5{lo:Int}{n:Nat}{g:TG}{B:TS}{D:Vd}{c:St}(d:Nat->St->Hp->Prop)(E:d 0 c H)
  (G:∀i c H,i<n->d i c H->g (.int (lo+i)) c H λv u=>B {D with nx:=d (i+1),ct:=d (i+1),bk:=D.nx} v u) (hd:∀c H,d n c H->D.nx c H) :
  ∃W:Nat->Nat->St->Hp->Prop,(∃m,W 0 m c H)/\∀i m c H,W i m c H ->
   ((US lo n).stop i H/\D.nx c H)\/((US lo n).go i H/\∃N:St->Hp->Prop,(∀h f,N h f->∃C,C<m/\W (i+1) C h f)/\∀x f,(US lo n).yld i H x f->g x c f λv u=>B {D with nx:=N,ct:=N,bk:=D.nx} v u):=by
 erw[⟨λi m c H=>m=n - i/\i<=n/\d i c H,⟨n,by simp,Sk _,E⟩,?_⟩];rintro i m c H ⟨rfl,J,p⟩;by_cases j:i<n;erw[.inr ⟨j,d (i+1),λh f I=>⟨n - (i+1),(),R,j,I⟩,λx f y=>?_⟩];ext⟨e,y⟩ y;subst e y;exact G i c _ j p;have e:i=n:=by lia
 subst e;exact .inl ⟨Sg _,hd c H p⟩
abbrev R2:=V->V->Hp->VK->Prop
def YB(X:Cx)(f:Value->Value->Sem Value)(r:R2):Prop :=
 ∀(pins:Ov) (s:Shared) (σ:St) (H:Hp) (x y:V) (v u:Value) (Q:VK),Zd X pins σ H s->ZL x v->ZL y u->r x y H Q ->
  wpAny (model X.prog X.w) X.A (f v u) (EP X pins σ Q) X.xe s
def MJ(X:Cx)(f:Value->Sem Value)(r:V->Hp->VK->Prop):Prop :=
 ∀(pins:Ov) (s:Shared) (σ:St) (H:Hp) (x:V) (v:Value) (Q:VK),Zd X pins σ H s->ZL x v->r x H Q ->
  wpAny (model X.prog X.w) X.A (f v) (EP X pins σ Q) X.xe s
def Y4(X:Cx)(f:Value)(r:List V->Hp->VK->Prop):Prop :=
 ∀(pins:Ov) (s:Shared) (σ:St) (H:Hp) (xs:List V) (us:OB) (Q:VK),Zd X pins σ H s->ZB xs us->r xs H Q ->
  wpAny (model X.prog X.w) X.A (call f us) (EP X pins σ Q) X.xe s
def W2(r:R2)(h d:TE):TE:=λc H Q=>h c H λx f=>d c f λy g=>r x y g Q
def tUn(r:V->Hp->VK->Prop)(f:TE):TE:=λc H Q=>f c H λx d=>r x d Q
inductive rI(C:Int->Int->Prop)(g:Int->Int->V)(x:V)(y:V)(H:Hp)(Q:VK):Prop|mk i j (_:x=.int i) (_:y=.int j) (_:C i j) (_:Q (g i j) H)
inductive UT(g:Int->Int->V)(x:V)(y:V)(H:Hp)(Q:VK):Prop|mk i j (_:x=.int i) (_:y=.int j) (_:Q (g i j) H)
inductive rU(g:Int->V)(x:V)(H:Hp)(Q:VK):Prop|mk i (_:x=.int i) (_:Q (g i) H)
section
variable{a b c:Expr}{ta tb tc:TE}
def MK(ha:PE X a ta)(M:PE X b tb){d:St}{R:V->V->Hp->Prop}(I:Zd X pins d H s)
  (h:ta d H λx i=>tb d i λy g=>R x y g) {Q:Ou} {f:Value->Value->Sem Value}
  (L:∀v u s2 x y g,Zd X pins d g s2->ZL x v->ZL y u->R x y g->wpAny (model X.prog X.w) X.A (f v u) Q X.xe s2) :
  wpAny (model X.prog X.w) X.A (eval a X.env) (λv j=>wpAny (model X.prog X.w) X.A (eval b X.env) (λu D=>wpAny (model X.prog X.w) X.A (f v u) Q X.xe D) X.xe j) X.xe s:=by
 erw[Zx (ha pins s d H _ I h) λv s1 ⟨x,i,C,J,B⟩=>?_];erw[Zx (M pins s1 d i _ C B) λu s2 ⟨y,g,G,E,O⟩=>?_];exact L v u s2 x y g G J E O
def Zl{d:Operator}{r:R2}(j:YB X (binaryOp d) r)(ha:PE X a ta)(D:PE X b tb):PE X (.BinOp a d b pos) (W2 r ta tb):=by
 intro pins s f H Q I h;exact wpAny_BinOp (MK ha D I h λv u s2 x y C B g i q=>j pins s2 f C x y v u Q B g i q)
def yW(y:MJ X (unaryOp f) r)(ha:PE X a ta):PE X (.UnaryOp f a pos) (tUn r ta):=by
 intro pins s d H Q I h;exact UnaryOp_ (Zx (ha pins s d H _ I h) λv s1 ⟨x,j,i,u,g⟩=>y pins s1 d j x v Q i u g)
def F5{f:Value->Value->Sem Value}{C:Int->Int->Prop}{g:Int->Int->Int}
  (rule:∀(i j:Int) (t u:Tok) (s:Shared) (Q:Ou) (E:Ou),C i j->Q (.int (g i j) s.toks) {s with toks:=s.toks+1}->wpAny (model X.prog X.w) X.A (f (.int i t) (.int j u)) Q E s) :
  YB X f (rI C λi j=>.int (g i j)):=by
 intro pins s J H x y v u Q I D B h;ext⟨i,j,rfl,rfl,d,q⟩ h;ext⟨t,rfl⟩ D;ext⟨G,rfl⟩ B;exact rule i j t G s _ _ d ⟨.int (g i j),H,I.tok _,⟨_,R⟩,q⟩
def ML{f:Value->Value->Sem Value}{g:Int->Int->Int}
  (rule:∀(i j:Int) (t u:Tok) (s:Shared) (Q:Ou) (E:Ou),Q (.int (g i j) s.toks) {s with toks:=s.toks+1}->wpAny (model X.prog X.w) X.A (f (.int i t) (.int j u)) Q E s) :
  YB X f (UT λi j=>.int (g i j)):=by
 intro pins s D H x y v u Q I B d h;ext⟨i,j,rfl,rfl,q⟩ h;ext⟨t,rfl⟩ B;ext⟨C,rfl⟩ d;exact rule i j t C s _ _ ⟨.int (g i j),H,I.tok _,⟨_,R⟩,q⟩
def K4{f:Value->Value->Sem Value}{g:Int->Int->Bool}
  (rule:∀(i j:Int) (t u:Tok) (s:Shared) (Q:Ou) (E:Ou),Q (.bool (g i j)) s->wpAny (model X.prog X.w) X.A (f (.int i t) (.int j u)) Q E s) :
  YB X f (UT λi j=>.bl (g i j)):=by
 intro pins s D H x y v u Q I B d h;ext⟨i,j,rfl,rfl,q⟩ h;ext⟨t,rfl⟩ B;ext⟨C,rfl⟩ d;exact rule i j t C s _ _ ⟨.bl (g i j),H,I,R,q⟩
def Zds(i j:Int):Prop:=0<j/\j<1073741824
def Zdt(i j:Int):Prop:=0<=j/\j<=1000000/\i.natAbs<2 ^ 64
def K5(i j:Int):Prop:=(-(2 ^ 64)<i/\i<2 ^ 64)\/(-(2 ^ 64)<j/\j<2 ^ 64)
def K5.ok(h:K5 i j):IntMulOk i j:=by
 rcases h with⟨f,d⟩|⟨f,d⟩;exact .of_left (intBits_le_64 f d);exact .of_right (intBits_le_64 f d)
def Zdu(k:Nat):(0:Int)<=2 ^ k:=by
 rw[two_pow_cast];exact Int.natCast_nonneg _
def YZ:YB X (binaryOp .Add) (UT λi j=>.int (i+j)):=ML λ_ _ _ _ _ _ _ q=>add_int q
def Q6:YB X (binaryOp .Sub) (UT λi j=>.int (i - j)):=ML λ_ _ _ _ _ _ _ q=>sub_int q
def Q7:YB X (binaryOp .Mult) (rI K5 λi j=>.int (i*j)):=F5 λ_ _ _ _ _ _ _ d q=>mul_int q d.ok
def Y5:YB X (binaryOp .FloorDiv) (rI Zds λi j=>.int (i/j)):=F5 λi j _ _ _ _ _ d q=>by
 have g:(0:Int)<j:=d.1;have f:j<1073741824:=d.2;exact floordiv_int () (by rwa[Int.fdiv_eq_ediv_of_nonneg i ()]) (.inl (PyProof.noPylong_small ()))
def ZQ:YB X (binaryOp .Mod) (rI (λ_ j=>0<j) λi j=>.int (i%j)):=F5 λi j _ _ _ _ _ d q=>by
 have f:(0:Int)<j:=d;exact mod_int' () (by rwa[Int.fmod_eq_emod_of_nonneg i ()])
def Zdv:YB X (binaryOp .LShift) (rI Zdt λi j=>.int (i*2 ^ j.toNat)):=F5 λ_ _ _ _ _ _ _ d q=>lshift_int_small d.1 d.2.1 d.2.2 q
def Zdw:YB X (binaryOp .RShift) (rI (λ_ j=>0<=j) λi j=>.int (i/2 ^ j.toNat)):=F5 λi j _ _ _ _ _ d q =>
 rshift_int d (by rwa[Int.fdiv_eq_ediv_of_nonneg i (Zdu _)])
def Zdx:YB X (binaryOp .BitAnd) (UT λi j=>.int (Builtin.bitAnd i j)):=ML λ_ _ _ _ _ _ _ q=>and_int q
def unI{f:Value->Sem Value}{g:Int->Int}
  (rule:∀(i:Int) (t:Tok) (s:Shared) (Q:Ou) (E:Ou),Q (.int (g i) s.toks) {s with toks:=s.toks+1}->wpAny (model X.prog X.w) X.A (f (.int i t)) Q E s) :
  MJ X f (rU λi=>.int (g i)):=by
 intro pins s j H x v Q I d h;ext⟨i,rfl,q⟩ h;ext⟨t,rfl⟩ d;exact rule i t s _ _ ⟨.int (g i),H,I.tok _,⟨_,R⟩,q⟩
def yX:MJ X (unaryOp .USub) (rU λi=>.int (-i)):=unI λ_ _ _ _ _ q=>neg_int q
end
def MN:V->V->Bool
 |.non,.non=>true|.non,.int _=>true|.int _,.non=>true|.non,.bl _=>true|.bl _,.non=>true|.non,.str _=>true|.str _,.non=>true
 |.int _,.int _=>true|.bl _,.bl _=>true|.str _,.str _=>true|.byt _,.byt _=>true
 |.int _,.str _=>true|.str _,.int _=>true|.bl _,.str _=>true|.str _,.bl _=>true
 |_,_=>false
def rEq:R2:=λx y H Q=>MN x y=true/\Q (.bl (decide (x=y))) H
def rNe:R2:=λx y H Q=>MN x y=true/\Q (.bl (!decide (x=y))) H
def Vx:decide (V.int i=V.int j)=(i==j):=by
 rw[Bool.eq_iff_iff];simp
def K6:decide (V.bl i=V.bl j)=(i==j):=by
 rw[Bool.eq_iff_iff];simp
def yY:decide (V.str i=V.str j)=(i==j):=by
 rw[Bool.eq_iff_iff];simp
def yZ{i j:Array UInt8}:decide (V.byt i=V.byt j)=(i.toList==j.toList):=by
 rw[Bool.eq_iff_iff];cases i;cases j;simp
section
variable{a b c:Expr}{ta tb tc:TE}
def YV(I:Zd X pins d H s)(q:Q (.bl k) H)(e:k=f):EP X pins d Q (.bool f) s:=by
 subst e;exact⟨.bl k,H,I,R,q⟩
def Ye:YB X (compareOp .Eq) rEq:=by
 intro pins s C H x y v u Q I B d h;ext⟨g,q⟩ h;cases x with
 |non =>
  cases B;cases y with
  |non=>cases d;exact PySem.EqNone.eq_none_none (YV I q (by simp))
  |bl j=>cases d;exact PySem.EqNone.eq_none_bool (YV I q (by simp))
  |int j=>ext⟨f,rfl⟩ d;exact PySem.EqNone.eq_none_int (YV I q (by simp))
  |str j=>ext⟨f,rfl⟩ d;exact PySem.EqNone.eq_none_str (YV I q (by simp))
  |_=>exact Os (show false=true from g) SO
 |bl i =>
  cases B;cases y with
  |non=>cases d;exact PySem.EqNone.eq_bool_none (YV I q (by simp))
  |bl j=>cases d;exact eq_bool (YV I q K6)
  |str j=>ext⟨f,rfl⟩ d;exact PySem.EqMixed.eq_bool_str (YV I q (by simp))
  |_=>exact Os (show false=true from g) SO
 |int i =>
  ext⟨t,rfl⟩ B;cases y with
  |non=>cases d;exact PySem.EqNone.eq_int_none (YV I q (by simp))
  |int j=>ext⟨f,rfl⟩ d;exact eq_int (YV I q Vx)
  |str j=>ext⟨f,rfl⟩ d;exact PySem.EqMixed.eq_int_str (YV I q (by simp))
  |_=>exact Os (show false=true from g) SO
 |str i =>
  ext⟨t,rfl⟩ B;cases y with
  |non=>cases d;exact PySem.EqNone.eq_str_none (YV I q (by simp))
  |bl j=>cases d;exact PySem.EqMixed.eq_str_bool (YV I q (by simp))
  |int j=>ext⟨f,rfl⟩ d;exact PySem.EqMixed.eq_str_int (YV I q (by simp))
  |str j=>ext⟨f,rfl⟩ d;exact eq_str (YV I q yY)
  |_=>exact Os (show false=true from g) SO
 |byt i =>
  ext⟨t,rfl⟩ B;cases y with
  |byt j=>ext⟨f,rfl⟩ d;exact W.eq_bytes (YV I q yZ)
  |_=>exact Os (show false=true from g) SO
 |_=>cases y<;>exact Os (show false=true from g) SO
def K7:YB X (compareOp .NotEq) rNe:=by
 intro pins s C H x y v u Q I B d h;ext⟨g,q⟩ h;cases x with
 |non =>
  cases B;cases y with
  |non=>cases d;exact PySem.EqNone.ne_none_none (YV I q (by simp))
  |bl j=>cases d;exact PySem.EqNone.ne_none_bool (YV I q (by simp))
  |int j=>ext⟨f,rfl⟩ d;exact PySem.EqNone.ne_none_int (YV I q (by simp))
  |str j=>ext⟨f,rfl⟩ d;exact PySem.EqNone.ne_none_str (YV I q (by simp))
  |_=>exact Os (show false=true from g) SO
 |bl i =>
  cases B;cases y with
  |non=>cases d;exact PySem.EqNone.ne_bool_none (YV I q (by simp))
  |bl j=>cases d;exact ne_bool (YV I q (congrArg not K6))
  |str j=>ext⟨f,rfl⟩ d;exact PySem.EqMixed.ne_bool_str (YV I q (by simp))
  |_=>exact Os (show false=true from g) SO
 |int i =>
  ext⟨t,rfl⟩ B;cases y with
  |non=>cases d;exact PySem.EqNone.ne_int_none (YV I q (by simp))
  |int j=>ext⟨f,rfl⟩ d;exact ne_int (YV I q (congrArg not Vx))
  |str j=>ext⟨f,rfl⟩ d;exact PySem.EqMixed.ne_int_str (YV I q (by simp))
  |_=>exact Os (show false=true from g) SO
 |str i =>
  ext⟨t,rfl⟩ B;cases y with
  |non=>cases d;exact PySem.EqNone.ne_str_none (YV I q (by simp))
  |bl j=>cases d;exact PySem.EqMixed.ne_str_bool (YV I q (by simp))
  |int j=>ext⟨f,rfl⟩ d;exact PySem.EqMixed.ne_str_int (YV I q (by simp))
  |str j=>ext⟨f,rfl⟩ d;exact ne_str (YV I q (congrArg not yY))
  |_=>exact Os (show false=true from g) SO
 |byt i =>
  ext⟨t,rfl⟩ B;cases y with
  |byt j=>ext⟨f,rfl⟩ d;exact W.ne_bytes (YV I q (congrArg not yZ))
  |_=>exact Os (show false=true from g) SO
 |_=>cases y<;>exact Os (show false=true from g) SO
def F6:YB X (compareOp .Lt) (UT λi j=>.bl (decide (i<j))):=K4 λ_ _ _ _ _ _ _ q=>lt_int q
def XE:YB X (compareOp .LtE) (UT λi j=>.bl (decide (i<=j))):=K4 λ_ _ _ _ _ _ _ q=>le_int q
def F7:YB X (compareOp .Gt) (UT λi j=>.bl (decide (j<i))):=K4 λ_ _ _ _ _ _ _ q=>gt_int q
def xA:YB X (compareOp .GtE) (UT λi j=>.bl (decide (j<=i))):=K4 λ_ _ _ _ _ _ _ q=>ge_int q
def Zdy:YB X (compareOp .NotIn) (λx y H Q=>∃i j,x=.str i/\y=.str j/\Q (.bl (!(!(Builtin.Str.occurrences j i 0 j.length 1).isEmpty))) H):=by
 intro pins s g H x y v u Q I f d h;ext⟨i,j,rfl,rfl,q⟩ h;ext⟨t,rfl⟩ f;ext⟨B,rfl⟩ d;exact notIn_str (YV I q R)
def Xq(b:Expr)(h:d≠.In:=by lia)(f:d≠.NotIn:=by lia):behindInMarks d b=false:=by
 have g:(d==CmpOp.In)=false:=by cases d<;>first|rfl|exact Os R h
 have i:(d==CmpOp.NotIn)=false:=by cases d<;>first|rfl|exact Os R f
 cases b<;>simp[behindInMarks,g,i]
def Y7(j:YB X (compareOp d) r)(ha:PE X a ta)(D:PE X b tb)(hm:behindInMarks d b=false):PE X (.Compare a [d] [b] pos) (W2 r ta tb):=by
 intro pins s f H Q I h;exact wpAny_Compare1 (MK ha D I h λv u s2 x y C B g i q=>j pins s2 f C x y v u Q B g i q) hm
inductive Zdz(Q:Bool->Hp->Prop)(x:V)(H':Hp):Prop|mk k (_:x=.bl k) (_:Q k H')
def MO(t:TE):TT:=λd H Q=>t d H λx f=>Zdz Q x f
def K8(E:YB X (compareOp d) r)(ha:PE X a ta)(S:PE X b tb)(hm:behindInMarks d b=false):PT X (.Compare a [d] [b] pos) (MO (W2 r ta tb)):=by
 intro pins s f H Q I h;refine wpAny_isTrue_Compare1 (Zx (ha pins s f H _ I h) λv s1 ⟨x,j,J,B,g⟩=>Zx (S pins s1 f j _ J g) λu s2 ⟨y,C,O,M,G⟩ =>
  Zx (E pins s2 f C x y v u _ O B M G) λc s3 ⟨z,D,L,i,k,e,P⟩=>?_) hm
 subst e;cases i;exact wpAny_truthy_bool ⟨D,L,P⟩
inductive ZdA(r':R2)(tc:TE)(σ:St)(Q:VK)(y:V)(z:V)(H3:Hp):Prop|mk k (_:z=.bl k) (_:(if k=true then tc σ H3 λw' H4=>r' y w' H4 Q else Q (.bl false) H3))
def xB(r i:R2)(ta tb tc:TE):TE:=λd H Q=>ta d H λx f=>tb d f λy g=>r x y g λz h=>ZdA i tc d Q y z h
def K9(P:YB X (compareOp f) r)(Y:YB X (compareOp g) j)(ha:PE X a ta)(hb:PE X b tb)(hc:PE X c tc)
  (hm:lastMarks [f,g] [b,c]=false:=by with_unfolding_all rfl):PE X (.Compare a [f,g] [b,c] pos) (xB r j ta tb tc):=by
 intro pins s d H Q I b0;refine Compare_chain (Zx (ha pins s d H _ I b0) λa0 s1 ⟨x,G,U,L,D⟩=>chain_link (Zx (hb pins s1 d G _ U D) λu s2 ⟨y,M,I2,v,S⟩ =>
  Zx (P pins s2 d M x y a0 u _ I2 L v S) λc0 s3 ⟨z,h,i,E,k,e,B⟩=>?_)) hm
 subst e;cases E;erw[wpAny_truthy_bool ?_];cases k with
 |false=>exact ite_ff ⟨.bl false,h,i,R,B⟩
 |true=>exact ite_tt (chain_last (Zx (hc pins s3 d h _ i B) λC s4 ⟨O,Z,T,r4,J⟩=>Y pins s4 d Z y O u C Q T v r4 J))
def Q8(Q:YB X (compareOp f) r)(Y:YB X (compareOp g) j)(ha:PE X a ta)(hb:PE X b tb)(hc:PE X c tc)
  (hm:lastMarks [f,g] [b,c]=false:=by with_unfolding_all rfl):PT X (.Compare a [f,g] [b,c] pos) (MO (xB r j ta tb tc)):=by
 intro pins s d H d0 I b0;refine isTrue_chain (Zx (ha pins s d H _ I b0) λa0 s1 ⟨x,G,U,L,D⟩=>test_link (Zx (hb pins s1 d G _ U D) λu s2 ⟨y,M,I2,v,P⟩ =>
  Zx (Q pins s2 d M x y a0 u _ I2 L v P) λc0 s3 ⟨z,h,i,E,k,e,B⟩=>?_)) hm
 subst e;cases E;erw[wpAny_truthy_bool ?_];cases k with
 |false =>
  ext⟨k',e',q'⟩ B;cases e';exact ite_ff ⟨h,i,q'⟩
 |true =>
  erw[ite_tt (test_last (Zx (hc pins s3 d h _ i B) λC s4 ⟨O,Z,T,r4,J⟩=>Zx (Y pins s4 d Z y O u C _ T v r4 J) λd' s5 ⟨z2,H5,S,r5,k2,e2,q5⟩=>?_))];subst e2;cases r5;exact wpAny_truthy_bool ⟨H5,S,q5⟩
def Q9:(sizeLine:Nat)<2 ^ 63:=by rw[sizeLine_eq];lia
def xC:YB X (binaryOp .Add) (λx y H Q=>∃i j,x=.str i/\y=.str j/\i.length+j.length<=sizeLine/\Q (.str (i++j)) H):=by
 intro pins s C H x y v u Q I g f h;ext⟨i,j,rfl,rfl,d,q⟩ h;ext⟨t,rfl⟩ g;ext⟨B,rfl⟩ f;exact add_str (λB tk=>⟨.str (i++j),H,I.tok _,⟨_,R⟩,q⟩) d
def Wq(r:ZB [x] us):∃u,us=[u]/\ZL x u:=by
 cases r with
 |cons f d=>cases d;exact⟨_,R,f⟩
def La(r:ZB [x,y] us):∃u d,us=[u,d]/\ZL x u/\ZL y d:=by
 cases r with
 |cons i h =>
  cases h with
  |cons g f=>cases f;exact⟨_,_,R,i,g⟩
end
structure QH(h:Heap)(x dx C:Addr)(mA:Ow):Prop where
 obj:h.get? x=some (W.instObj C dx)
 ns:h.Ns1 dx mA
 ne:dx≠x
def ZdB{h:Heap}(n:h.Ns1 d f):∃c,h.get? d=some c/\∀name,W.lookIn name c=some (f name):=by
 ext⟨o,g,B,x,hd,v,_,hm⟩ n;erw[⟨o,x,λname=>?_⟩];have e:=hm name;unfold nsFind findBy at e;rw[<-Array.find?_toList]at e;unfold W.lookIn;rw[hd];dsimp only;split;rename_i y q;rw[q]at e;exact congrArg some e;rename_i q;rw[q]at e;have a:g.toList.any (·.refKey)=false:=by
  rw[List.any_eq_false];intro y i;obtain⟨z,t,u⟩:=v y (Array.mem_toList_iff.mp i);simp[DictEntry.refKey,u]
 have j:¬ g.toList.any (·.refKey)=true:=by rw[a];exact SO
 rw[SV j];exact congrArg some e
def QH.look(I:QH h x f C d):∃c,W.InstAt h x (W.instObj C f) C (some c)/\∀name,W.lookIn name c=some (d name) :=
 let ⟨c,ho,hl⟩:=ZdB I.ns
 ⟨c,⟨I.obj,R,R,ho⟩,hl⟩
section
variable{x dx C f:Addr}{mA:Ow}{name:Str}{v:Value}
def ZdC{expr:Bool}(X:K.In s.heap)(I:QH s.heap x dx C mA)(i:W.plainGet K C name=true)(j:W.hasDictIn K C=true)
  (ha:W.findIn K (.ref C) name=some none) (g:mA name=some v) (d:W.handedIn v=true) (h:Q v {s with toks:=s.toks+1}) :
  wpAny (model prog w) A (getAttr (.ref x) name expr) Q E s:=by
 ext⟨u,J,c⟩ I.look;exact W.get_value X J (W.plainGet_of i).1 (W.findObj_own j ha R (by rw[c,g])) d h
def ZdD(X:K.In s.heap)(I:QH s.heap x dx C mA)(c:W.plainGet K C name=true)
  (u:W.findIn K (.ref C) name=some (some (.ref f))) (i:W.isFn K (.ref f)=true) (j:mA name=none) (h:Q (.ref f,[.ref x]) s) :
  wpAny (model prog w) A (getMethod (.ref x) name pl) Q E s:=by
 ext⟨d,J,g⟩ I.look;exact W.method_fn X J (W.plainGet_of c).1 (W.plainGet_of c).2 u (beq_iff_eq.mp i) (by show(W.lookIn name d).map (·.isSome)=some false;rw[g,j];rfl) h
def ZdE{ns:OC}(X:K.In s.heap)(I:QH s.heap x dx C mA)
  (D:W.findIn K (.ref C) "__setattr__"=some (some (.builtin "object.__setattr__"))) (B:W.plainOver K C=true) (H:W.takerIn K C name=some none) (i:W.hasDictIn K C=true)
  (j:PySem.Within mA ns) (hsz:ns.length<=sizeLine)
  (h:∀h',QH h' x dx C (λy=>if y=name then some v else mA y)->Heap.SameBut dx s.heap h'->Q Unit.unit {s with heap:=h',toks:=s.toks+2}) :
  wpAny (model prog w) A (setAttr (.ref x) name v) Q E s:=by
 ext⟨P,J,S⟩ I.look;erw[W.set_plain X J D (W.osa_open (s:={s with toks:=s.toks+1}) (r:=none) X J B H λb=>?_)];obtain⟨Z,L,O⟩:=W.any_some i;have G:s.heap.get? x=some ⟨.ref C,some dx,.plain,#[]⟩:=I.obj;erw[Sa (Sb (Sa (Sa (wpAny_loadPart G (Sa (W.Looks.here (s:={s with toks:=s.toks+1}) (W.looks_clsIn X L) ?_))))))];rw[O];erw[Sb (a:=some dx) (Sa (Sb (Sa ?_)))];erw[wpAny_nsSet1 (s:={s with toks:=s.toks+1}) I.ns λh' c d=>?_];obtain⟨Y,U,T,M,u,g⟩:=c.count (PySem.Within.cons name v j);erw[Sa (wpAny_lookBehind M (by rw[u];exact pastItsLine_dict (Sh g (by rw[Sy];lia))) ?_)];exact Sb (h _ ⟨(d.2 _ (Ne.symm I.ne)).trans I.obj,c,I.ne⟩ d)
def ZdF{R:Result->Shared->Prop}(X:K.In s.heap)(hm:W.makesIn K C=true)
  (hi:W.findIn K (.ref C) "__init__"=some (some (.ref f))) (i:W.typeIn K (.ref f)=some (.type "function"))
  (h:codeAny (model prog w) (A.under (.builtin "type.__call__" ⟨.ref C::vs,c⟩)) (.call (.ref f) ⟨.ref (s.heap.objs.size+1)::vs,c⟩) (W.InitBack (s.heap.objs.size+1) R)
   {s with heap:=(s.heap.push W.emptyDict).push (W.instObj C s.heap.objs.size)}) :
  codeAny (model prog w) A (.call (.ref C) ⟨vs,c⟩) R s:=by
 ext⟨j,g,d,t,os⟩ s;exact W.make_core (W.makes_of X hm) (W.looks_findIn X hi) (λself=>W.bind_fn X self i) (.inl rfl) h
def ZdG{R:Result->Shared->Prop}(X:K.In s.heap)(hm:W.makesIn K C=true)
  (hi:W.findIn K (.ref C) "__init__"=some (some (.builtin "object.__init__")))
  (c:∀self,W.Looks (model prog w) s.heap (bindSpecial (.builtin "object.__init__") self) (.builtin "object.__init__",[self]))
  (h:codeAny (model prog w) (A.under (.builtin "type.__call__" ⟨[.ref C],[]⟩)) (.call (.builtin "object.__init__") ⟨[.ref (s.heap.objs.size+1)],[]⟩) (W.InitBack (s.heap.objs.size+1) R)
   {s with heap:=(s.heap.push W.emptyDict).push (W.instObj C s.heap.objs.size)}) :
  codeAny (model prog w) A (.call (.ref C) ⟨[],[]⟩) R s:=by
 ext⟨i,g,d,t,os⟩ s;exact W.make_core (W.makes_of X hm) (W.looks_findIn X hi) c (.inr ⟨rfl,rfl⟩) h
end
def ZY(f:Str)(v:V):List (Str×V)->List (Str×V)
 |[]=>[(f,v)]
 |(g,x)::r=>if g=f then (g,v)::r else (g,x)::ZY f v r
theorem xD(f g:Str)(v:V):∀fs:List (Str×V),(ZY f v fs).lookup g=if g=f then some v else fs.lookup g
 |[]=>by
  show List.lookup g [(f,v)]=_;by_cases h:g=f;have c:(g==f)=true:=beq_iff_eq.mpr h;simp only[List.lookup,c,SW h];have c:(g==f)=false:=beq_eq_false_iff_ne.mpr h;simp only[List.lookup,c,SV h]
 |(k,x)::r=>by
  have i:=xD f g v r;rw[show ZY f v ((k,x)::r)=(if k=f then (k,v)::r else (k,x)::ZY f v r)from R];by_cases d:k=f;rw[SW d];by_cases h:g=k;have c:(g==k)=true:=beq_iff_eq.mpr h;simp only[List.lookup,c,SW (h.trans d)];have c:(g==k)=false:=beq_eq_false_iff_ne.mpr h;simp only[List.lookup,c,SV (λe:g=f=>h (e.trans d.symm))];rw[SV d];by_cases h:g=k;have c:(g==k)=true:=beq_iff_eq.mpr h;simp only[List.lookup,c,SV (λe:g=f=>d (h.symm.trans e))];have c:(g==k)=false:=beq_eq_false_iff_ne.mpr h;simp only[List.lookup,c];exact i
theorem MP(f:Str)(v:V):∀fs:List (Str×V),f∈(ZY f v fs).map (·.1)/\∀g,g∈fs.map (·.1)->g∈(ZY f v fs).map (·.1)
 |[]=>⟨by simp[ZY],λg h=>by simp at h⟩
 |(k,x)::r=>by
  obtain⟨d,i⟩:=MP f v r;rw[show ZY f v ((k,x)::r)=(if k=f then (k,v)::r else (k,x)::ZY f v r)from R];by_cases c:k=f;rw[SW c];subst c;exact⟨by simp,λg h=>by simpa using h⟩;rw[SV c];erw[⟨?_,λg h=>?_⟩];rw[SL];exact SB _ d;rw[SL]at h ⊢;rcases SE.mp h with e|e;exact SE.mpr (.inl e);exact SB _ (i g e)
theorem A0(f:Str)(v:V):∀fs:List (Str×V),(ZY f v fs).length<=fs.length+1
 |[]=>by simp[ZY]
 |(k,x)::r=>by
  have d:=A0 f v r;rw[show ZY f v ((k,x)::r)=(if k=f then (k,v)::r else (k,x)::ZY f v r)from R];by_cases c:k=f;rw[SW c,Sy,Sy];lia;rw[SV c,Sy,Sy];lia
def WH.some_of(r:WH (some v) o):∃u,o=some u/\ZL v u:=by
 cases o with
 |none=>exact(show False from r).elim
 |some u=>exact⟨u,R,r⟩
def WH.none_of(r:WH none o):o=none:=by
 cases o with
 |none=>rfl
 |some u=>exact(show False from r).elim
def ZdH(r:ZL v u):W.handedIn u=true:=by
 cases v with
 |non=>cases (show u=Value.none from r);rfl
 |bl b=>cases (show u=Value.bool b from r);rfl
 |int i=>obtain⟨t,e⟩:=(show ∃t,u=Value.int i t from r);cases e;rfl
 |str x=>obtain⟨t,e⟩:=(show ∃t,u=Value.str x t from r);cases e;rfl
 |byt b=>obtain⟨t,e⟩:=(show ∃t,u=Value.bytes b t from r);cases e;rfl
 |flt b=>obtain⟨t,e⟩:=(show ∃t,u=Value.float b t from r);cases e;rfl
 |ref a=>cases (show u=Value.ref a from r);rfl
 |ty n=>cases (show u=Value.type n from r);rfl
section
variable{H':Hp}{h h':Heap}{a C dx:Addr}{fs fs':List (Str×V)}
def Lb(hok:Yf P w H h)(e:H a=some (.ins C dx fs)):∃c,QH h a dx C c/\(∀f,WH (fs.lookup f) (c f))/\PySem.Within c (fs.map (·.1))/\fs.length<=1000/\H dx=some (.own a):=by
 obtain⟨d,z,ne,ob,c,n,r,q⟩:=(show Yi P w H h a (.ins C dx fs)from hok a _ e);exact⟨c,⟨ob,n,ne⟩,r,q,z,d⟩
end
structure YO(K:Ox)(C:Addr):Prop where
 pg:W.plainGet K C Str.empty=true
 hd:W.hasDictIn K C=true
 po:W.plainOver K C=true
 sa:W.findIn K (.ref C) "__setattr__"=some (some (.builtin "object.__setattr__"))
def YO.get{C:Addr}(c:YO K C)(f:Str):W.plainGet K C f=true:=c.pg
def Xr(K:Ox)(C:Addr)(f:Str):Prop:=W.findIn K (.ref C) f=some none
def Xr.taker{C:Addr}{f:Str}(n:Xr K C f):W.takerIn K C f=some none:=by
 unfold W.takerIn;rw[show W.findIn K (.ref C) f=some none from n];rfl
structure Con(K:Ox)(C:Addr)(f:Str)(v:V)(u:Value):Prop where
 at_:W.findIn K (.ref C) f=some (some u)
 rel:ZL v u
 get:W.specialIn K u "__get__"=some none
 cp:W.copiedNames.contains f=false
structure Ym(K:Ox)(C:Addr)(m:Str)(f:Addr):Prop where
 at_:W.findIn K (.ref C) m=some (some (.ref f))
 fn:W.isFn K (.ref f)=true
 kp:W.keepIn K (.ref f)=true
section
variable{σ:St}{a C dx:Addr}{fs:List (Str×V)}{f:Str}{v:V}
def ZdI(I:Zd X pins σ H s)(e:H a=some (.ins C dx fs))(c:YO X.K C)(n:Xr X.K C f)(l:fs.lookup f=some v)
  (h:∀u s',Zd X pins σ H s'->ZL v u->Q u s'):wpAny (model X.prog X.w) A (getAttr (.ref a) f b) Q E s:=by
 obtain⟨g,O,r,_,_,_⟩:=Lb I.hok e;obtain⟨u,d,ru⟩:=WH.some_of (v:=v) (o:=g f) (by rw[<-l];exact r f);exact ZdC I.kIn O (c.get f) c.hd n d (ZdH ru) (h u _ (I.tok _) ru)
def A1(I:Zd X pins σ H s)(e:H a=some (.ins C dx fs))(c:YO X.K C)(k:Ym X.K C m g)(l:fs.lookup m=none)
  (h:Q (.ref g,[.ref a]) s):wpAny (model X.prog X.w) A (getMethod (.ref a) m pl) Q E s:=by
 obtain⟨d,O,r,_,_,_⟩:=Lb I.hok e;have hn:d m=none:=WH.none_of (by rw[<-l];exact r m);exact ZdD I.kIn O (c.get m) k.at_ k.fn hn h
def ZdJ(I:Zd X pins σ H s)(e:H a=some (.ins C dx fs))(c:YO X.K C)(n:Xr X.K C f)(S:fs.length<1000)(J:ZL y u)
  (h:∀s',Zd X pins σ (Zb H a (.ins C dx (ZY f y fs))) s'->Q Unit.unit s'):wpAny (model X.prog X.w) A (setAttr (.ref a) f u) Q E s:=by
 obtain⟨i,O,r,j,_,B⟩:=Lb I.hok e;have G:(fs.map (·.1)).length<=sizeLine:=by rw[Sv,sizeLine_eq];lia
 erw[ZdE I.kIn O c.sa c.po n.taker c.hd j G λM d D=>h _ ?_];have hd:∃o,M.get? dx=some o:=let ⟨o,_,_,e',_⟩:=d.ns;⟨o,e'⟩;erw[I.write (x:=a) (e:=dx) (by rw[e];exact True.intro) (.inr B) (λb q L z=>(D.2 b L).trans z) hd ?_];erw[⟨by rwa[Zm O.ne],?_,O.ne,d.obj,_,d.ns,λg=>?_,λg P=>?_⟩];have:=A0 f y fs;lia;show WH ((ZY f y fs).lookup g) (if g=f then some u else i g);rw[xD];by_cases q:g=f;rwa[SW q,SW q];rw[SV q,SV q];exact r g;by_cases q:g=f;rw[q];exact(MP f y fs).1;erw[(MP f y fs).2 g (j g λz=>P ?_)];show(if g=f then some u else i g)=none;rwa[SV q]
def Zd.made(I:Zd X pins σ H s):Zd X pins σ (Zb (Zb H s.heap.objs.size (.own (s.heap.objs.size+1))) (s.heap.objs.size+1) (.ins C s.heap.objs.size []))
  {s with heap:=(s.heap.push W.emptyDict).push (W.instObj C s.heap.objs.size)}:=by
 have c:(s.heap.push W.emptyDict).get? s.heap.objs.size=some W.emptyDict:=Sd s.heap R;have j:((s.heap.push W.emptyDict).push (W.instObj C s.heap.objs.size)).get? (s.heap.objs.size+1)=some (W.instObj C s.heap.objs.size):=by
  have:=Sd (s.heap.push W.emptyDict) (o:=W.instObj C s.heap.objs.size) R;rwa [Heap.size_push]at this
 have g:(s.heap.push W.emptyDict).Ns s.heap.objs.size (λ_=>none):=⟨W.emptyDict,#[],_,c,R,(λe i=>Os i (by simp)),λ_=>R⟩;have h:=I.laid (a:=s.heap.objs.size) (o:=.own (s.heap.objs.size+1)) (h':=s.heap.push W.emptyDict) (t':=s.toks) (λb u q=>Sc _ q) (Sg _) ⟨_,c⟩;erw[h.laid (a:=s.heap.objs.size+1) (o:=.ins C s.heap.objs.size []) (t':=s.toks) (λb u q=>Sc _ q) (Nat.le_of_eq (Heap.size_push _ _)) ?_];have ne:s.heap.objs.size≠s.heap.objs.size+1:=Sf (Sm _);erw[⟨by rw[Zm ne,Zj],Sk _,ne,j,λ_=>none,(Heap.Ns1.of_empty g).at λo q=>Sc _ q,λ_=>True.intro,λy d=>Os rfl d⟩]
def ZdK(g:attributeBase e f env (eval e env)=eval e env)
  (h:wpAny (model prog w) A (eval e env) (λo c=>wpAny (model prog w) A (getAttr o f true) Q E c) E s):wpAny (model prog w) A (eval (.Attribute e f d) env) Q E s :=
 Attribute_any_ h (by rw[arm_eval_Attribute,g])
end
inductive ZdL(K:Ox)(f:Str)(Q:VK)(x:V)(H1:Hp):Prop|mk a C dx fs v (_:x=.ref a) (_:H1 a=some (.ins C dx fs)) (_:YO K C) (_:Xr K C f) (_:fs.lookup f=some v) (_:Q v H1)
def ZdM(K:Ox)(g:TE)(f:Str):TE:=λc H Q=>g c H λx d=>ZdL K f Q x d
inductive ZdN(K:Ox)(f:Str)(D:Vd)(σ:St)(y:V)(x:V)(H2:Hp):Prop|mk a C dx fs (_:x=.ref a) (_:H2 a=some (.ins C dx fs)) (_:YO K C) (_:Xr K C f) (_:fs.length<1000) (_:D.nx σ (Zb H2 a (.ins C dx (ZY f y fs))))
def ZdO(K:Ox)(i d:TE)(f:Str):TS:=λD c H=>d c H λy g=>i c g λx h=>ZdN K f D c y x h
section
variable{o e value:Expr}{f:Str}{pos' tpos:Pos}{ta tv:TE}
def ZR(D:PE X e ta)(E:attributeBase e f X.env (eval e X.env)=eval e X.env):PE X (.Attribute e f pos) (ZdM X.K ta f):=by
 intro pins s B H Q I h;erw[ZdK E (Zx (D pins s B H _ I h) λu s1 ⟨x,d,g,i,a,C,J,fs,v,ex,y,c,n,l,q⟩=>?_)];subst ex;obtain rfl:u=Value.ref a:=i;exact ZdI g y c n l λG s2 j ru=>⟨v,d,j,ru,q⟩
def Wr(ha:PE X o ta)(i:PE X value tv)(L:swapsWith value (some (.Attribute o f pos')) pos.line X.env=pure false):PS X (.Assign [.Attribute o f pos'] value pos) (ZdO X.K ta tv f):=by
 intro pins s d H D I h;erw[plainObj_wpAny_Assign_Attribute (Zx (i pins s d H _ I h) λu s1 ⟨y,g,v,E,q⟩=>Zx (ha pins s1 d g _ v q) λO s2 ⟨x,P,J,G,a,C,Q,fs,ex,M,c,n,l,j⟩=>?_) L];subst ex;obtain rfl:O=Value.ref a:=G;exact ZdJ J M c n l E λs3 B=>⟨d,_,B,j⟩
end
section
variable{σ:St}{Q:Ou}{c:Value}{b:Bool}
inductive XW(K:Ox)(H:Hp):V->Value->Prop where
 |non:XW K H .non (.type "NoneType")
 |bl (x:Bool):XW K H (.bl x) (.type "bool")
 |int (i:Int):XW K H (.int i) (.type "int")
 |str (x:Str):XW K H (.str x) (.type "str")
 |flt (x:UInt64):XW K H (.flt x) (.type "float")
 |lst {a:Addr} {xs:List V} (e:H a=some (.lst xs)):XW K H (.ref a) (.type "list")
 |frz {a:Addr} {o:Obj} {xs:List V} (e:H a=some (.frz o (.lst xs))):XW K H (.ref a) (.type "list")
 |tup {a:Addr} {xs:List V} (e:H a=some (.tup xs)):XW K H (.ref a) (.type "tuple")
 |dK {a:Addr} {kvs:List (ZF×V)} (e:H a=some (.dK kvs)):XW K H (.ref a) (.type "dict")
 |dT {a:Addr} {kvs:List (List ZF×V)} (e:H a=some (.dT kvs)):XW K H (.ref a) (.type "dict")
 |ins {a C dx:Addr} {fs:List (Str×V)} (e:H a=some (.ins C dx fs)) (cl:YO K C) (ha:W.findIn K (.ref C) "__class__"=some (some (.builtin "object.__class__")))
   (hn:W.specialIn K (.builtin "object.__class__") "__get__"=some (some (.builtin "getset_descriptor.__get__"))) (htk:W.takesIn K (.builtin "object.__class__")=some true)
   (hm:W.mroIn K C (.type "object")=some true):XW K H (.ref a) (.ref C)
def xE(I:Zd X pins σ H s)(d:ZL x u)(ty:XW X.K H x t)(e:W.kitOne X.K t c=some b)(h:∀tk,Q (.bool b) {s with toks:=tk}) :
  wpAny (model X.prog X.w) A (call (.builtin "isinstance") [u,c]) Q E s:=by
 cases ty with
 |non=>cases (show u=Value.none from d);exact W.kia_one W.kitx_none I.kIn True.intro e (λz=>nomatch z) h
 |bl y=>cases (show u=Value.bool y from d);exact W.kia_one W.kitx_bool I.kIn True.intro e (λz=>nomatch z) h
 |int i=>obtain⟨t,q⟩:=(show ∃t,u=Value.int i t from d);cases q;exact W.kia_one W.kitx_int I.kIn True.intro e (λz=>nomatch z) h
 |str y=>obtain⟨t,q⟩:=(show ∃t,u=Value.str y t from d);cases q;exact W.kia_one W.kitx_str I.kIn True.intro e (λz=>nomatch z) h
 |flt y=>obtain⟨t,q⟩:=(show ∃t,u=Value.float y t from d);cases q;exact W.kia_one W.kitx_float I.kIn True.intro e (λz=>nomatch z) h
 |@lst a j f =>
  cases (show u=Value.ref a from d);obtain⟨_,_,n,_,g⟩:=(show Yi X.prog X.w H s.heap a (.lst j)from I.hok a _ f);exact W.kia_one W.kitx_list I.kIn ⟨_,g,R⟩ e (λz=>nomatch z) h
 |@frz a ob j f =>
  cases (show u=Value.ref a from d);obtain⟨_,_,_,n,_,g⟩:=(show Yi X.prog X.w H s.heap a (.frz ob (.lst j))from I.hok a _ f);exact W.kia_one W.kitx_list I.kIn ⟨_,g,R⟩ e (λz=>nomatch z) h
 |@tup a j f =>
  cases (show u=Value.ref a from d);obtain⟨_,_,_,p⟩:=(show Yi X.prog X.w H s.heap a (.tup j)from I.hok a _ f);ext⟨o,g,v,_⟩ p;exact W.kia_one W.kitx_tuple I.kIn ⟨o,g,v⟩ e (λz=>nomatch z) h
 |@dK a B f =>
  cases (show u=Value.ref a from d);obtain⟨_,_,S,_,p⟩:=(show Yi X.prog X.w H s.heap a (.dK B)from I.hok a _ f);ext⟨o,G,L,g,v,_⟩ p;exact W.kia_one W.kitx_dict I.kIn ⟨o,g,v.1⟩ e (λz=>nomatch z) h
 |@dT a B f =>
  cases (show u=Value.ref a from d);obtain⟨_,_,j,_,o,G,L,g,v,_⟩:=(show Yi X.prog X.w H s.heap a (.dT B)from I.hok a _ f);exact W.kia_one W.kitx_dict I.kIn ⟨o,g,v.1⟩ e (λz=>nomatch z) h
 |@ins a C T fs f cl ha hn D hm =>
  cases (show u=Value.ref a from d);obtain⟨M,O,_⟩:=Lb I.hok f;ext⟨P,J,_⟩ O.look;exact W.kia_one (W.kitx_own (cl.get _) cl.hd ha hn D hm) I.kIn J e (λz=>nomatch z) h
end
structure Yn(k:Nat)(A:Around):Prop where
 hd:A.handled=none
 dp:A.depth+3*k+5<recursionLimit
 un:A.units+16*k+200<cLine
 gd:A.guards=some []
def Yn.mono(r:Yn k A)(h:j<=k):Yn j A:=⟨r.hd,by have:=r.dp;lia,by have:=r.un;lia,r.gd⟩
def Yn.deeper(r:Yn (k+1) A)(env:Env):Yn k (A.deeper env) :=
 ⟨r.hd,by have:=r.dp;show A.depth+1+3*k+5<_;lia,by have:=r.un;show A.units+3+16*k+200<_;lia,r.gd⟩
def ZdP:(A.under (.builtin "type.__call__" ⟨.ref C::us,c⟩)).depth=A.depth+1:=by
 first|rfl|simp[Around.under,Code.weight,Code.isCreation,Code.isGuard,Code.isCaller,Code.frames,Code.isFrame,guardIds]
def ZdQ:(A.under (.builtin "type.__call__" ⟨.ref C::us,c⟩)).units=A.units+1:=by
 first|rfl|simp[Around.under,Code.cUnits,Code.frames,Code.isFrame]
def Yn.make(r:Yn (k+1) A)(C:Addr)(us:OB)(c:List (Str×Value)):Yn k (A.under (.builtin "type.__call__" ⟨.ref C::us,c⟩)) :=
 ⟨r.hd,by have:=r.dp;rw[ZdP];lia,by have:=r.un;rw[ZdQ];lia,by have:=r.gd;first|exact this|simp[Around.under,Code.guards,Code.isGuard,guardIds,this]⟩
def Yn.depth(r:Yn k A):A.depth<recursionLimit:=by have:=r.dp;lia
def Yn.units(r:Yn k A):A.units+64<cLine:=by have:=r.un;lia
def Yn.units0(r:Yn k A):A.units<cLine:=by have:=r.un;lia
def YP:TA:=λ_ H Q=>Q [] H
def ZU(i:TE)(g:TA):TA:=λc H Q=>i c H λx f=>g c f λd h=>Q (x::d) h
section
variable{e:Expr}{es:OD}{te:TE}{t:TA}
def YG:PA X [] YP:=λ_ _ _ _ H Q I h=>Calls.spliced_nil ⟨[],H,I,.nil,h⟩
def xF(ha:PE X e te)(E:PA X es t)(D:starEach (e::es) X.env=(false,eval e X.env)::starEach es X.env:=by rfl):PA X (e::es) (ZU te t):=by
 intro pos pins s c H Q I h;rw[D];show wpAny _ _ (spliced ((false,eval e X.env)::backTo pos (starEach es X.env))) _ _ s;erw[Calls.spliced_cons (Zx (ha pins s c H _ I h) λu s1 ⟨x,f,y,g,d⟩=>?_)];exact Zx (E pos pins s1 c f _ y d) λG s2 ⟨v,i,C,B,j⟩=>⟨x::v,i,C,.cons g B,j⟩
def xG(t:TA):TE:=λf H Q=>t f H λc d=>c.length<=sizeLine/\∀p,d p=none->Q (.ref p) (Zb d p (.tup c))
def UU(t:TA):TE:=λf H Q=>t f H λc d=>c.length<=sizeLine/\∀p,d p=none->Q (.ref p) (Zb d p (.lst c))
def YH{x1}(h:PA X es t):PE X (.Tuple es x1 pos) (xG t):=by
 intro pins s g H Q I f;erw[wpAny_Tuple_spliced (Zx (h pos pins s g H _ I f) λj s1 ⟨i,d,c,r,z,q⟩=>⟨by rwa[<-r.length],?_⟩)];have v:d s1.heap.objs.size=none:=c.hok.fresh (Sg _);erw[⟨.ref s1.heap.objs.size,Zb d s1.heap.objs.size (.tup i),c.laid (t':=s1.toks) (λb u e=>Sc _ e) (Sg _) ?_,R,q _ v⟩];exact⟨z,j,r,⟨_,Sd _ R,R,_,R⟩⟩
def ZI(h:PA X es t):PE X (.List es pos) (UU t):=by
 intro pins s g H Q I f;erw[wpAny_List_spliced (Zx (h pos pins s g H _ I f) λj s1 ⟨i,d,c,r,z,q⟩=>⟨by rwa[<-r.length],?_⟩)];have v:d s1.heap.objs.size=none:=c.hok.fresh (Sg _);erw[⟨.ref s1.heap.objs.size,Zb d s1.heap.objs.size (.lst i),c.laid (t':=s1.toks) (λb u e=>Sc _ e) (Sg _) ?_,R,q _ v⟩];exact⟨z,j,0,r,Sd _ R⟩
end
abbrev Sp:=List V->Hp->VK->XK->Prop
abbrev X7:=List Env->Hp->Shared->XK->Value->Shared->Prop
structure VX(P:Program)(w:World)(K:Ox)(mg:Ow)(base:Heap)(A:Around)(outer:List Env)(s:Shared)(H:Hp):Prop where
 frames:A.frames=some outer
 mod:Mod K mg base
 bs:∀b o,base.get? b=some o->s.heap.get? b=some o/\H b=none
 bsz:base.objs.size<=s.heap.objs.size
 funs:s.heap.FunFrames base outer
 frf:∀b∈Yp outer,H b=none
 hok:Yf P w H s.heap
 bare:AllBare s.gens
inductive CE(outer:List Env)(P:Program)(w:World)(H:Hp)(s:Shared)(Q:VK)(u:Value)(s':Shared):Prop|mk v H' (_:s'.os=s.os) (_:AllBare s'.gens) (_:Un (Yp outer) [] H H' s.heap s'.heap) (_:Yf P w H' s'.heap) (_:ZL v u) (_:Q v H')
def CR(CX:X7)(outer:List Env)(P:Program)(w:World)(H:Hp)(s:Shared)(Q:VK)(E:XK)(r:Result)(s':Shared):Prop :=
 match r with
 |.ok (.ret u)=>CE outer P w H s Q u s'
 |.ok _=>False
 |.error e=>CX outer H s E e s'
structure Zp(P:Program)(w:World)(K:Ox)(mg:Ow)(base:Heap)(CX:X7)(k:Nat)(f:Addr)(fd:OJ)(ps:OC)(sp:Sp):Prop where
 len:∀vs H Q E,sp vs H Q E->vs.length=ps.length
 run:∀(A:Around) (outer:List Env) (s:Shared) (H:Hp) (args:Args) (us:OB) (vs:List V) (Q:VK) (E:XK),Yn k A->VX P w K mg base A outer s H->BindsTo s fd args (ps.zip us)->ZB vs us->sp vs H Q E ->
  codeAny (model P w) A (.call (.ref f) args) (CR CX outer P w H s Q E) s
def Zp.mono{CX:X7}{j k:Nat}{f:Addr}{d:OJ}{c:OC}{sp:Sp}(F:Zp P w K mg base CX j f d c sp)(h:j<=k) :
  Zp P w K mg base CX k f d c sp:=⟨F.len,λA outer s H args i g Q E u=>F.run A outer s H args i g Q E (u.mono h)⟩
def VX.make{outer:List Env}(e:VX P w K mg base A outer s H)(C:Addr)(us:OB)(c:List (Str×Value)) :
  VX P w K mg base (A.under (.builtin "type.__call__" ⟨.ref C::us,c⟩)) outer s H:=⟨by first|exact e.frames|(simpa [Around.under,Code.envs,Code.isFrame,pushEnvs]using e.frames),e.mod,e.bs,e.bsz,e.funs,e.frf,e.hok,e.bare⟩
section
variable{σ:St}{s':Shared}
def Zd.env0(I:Zd X pins σ H s):VX X.prog X.w X.K X.mg X.base X.A X.stack s H :=
 ⟨I.ok.frames,I.ok.mod,I.bs,Sh I.ok.bsz I.sz,I.stack,I.stkFree,I.hok,I.bare⟩
def Zd.after(I:Zd X pins σ H s)(h:CE X.stack X.prog X.w H s Q u s'):EP X pins σ Q u s':=by
 ext⟨v,f,os,bare,un,hok,r,q⟩ h;ext⟨i,g,d,t,c⟩ s';obtain rfl:c=s.os:=os;exact⟨v,f,I.call (h':=i) (g':=g) (d':=d) (t':=t) (ch:=[]) un hok bare (λb z=>Os z (by simp)),r,q⟩
end
def MQ(sp:Sp)(dvs:List V)(E:XK)(t:TA):TE:=λd H Q=>t d H λc f=>sp (c++dvs) f Q E
inductive ZdR(C:Addr)(m:Str)(sp:Sp)(dvs:List V)(E:XK)(t:TA)(σ:St)(Q:VK)(x:V)(H1:Hp):Prop|mk a dx fs (_:x=.ref a) (_:H1 a=some (.ins C dx fs)) (_:fs.lookup m=none) (_:t σ H1 λvs H2=>sp (x::(vs++dvs)) H2 Q E)
def xH(C:Addr)(m:Str)(sp:Sp)(dvs:List V)(E:XK)(f:TE)(t:TA):TE:=λc H Q=>f c H λx d=>ZdR C m sp dvs E t c Q x d
def xI(C:Addr)(sp:Sp)(dvs:List V)(E:XK)(t:TA):TE:=λg H Q=>t g H λf d=>∀x c,d x=none->d c=none->c≠x ->
 sp (.ref x::(f++dvs)) (Zb (Zb d c (.own x)) x (.ins C c [])) (λv h=>v=.non/\Q (.ref x) h) E
def XF(K:Ox)(d:OJ)(c:OC)(ds:OB):Prop :=
 ∀(s:Shared) (us:OB),K.In s.heap->(us++ds).length=c.length->BindsTo s d ⟨us,[]⟩ (c.zip (us++ds))
def XF.all{d:OJ}{c:OC}(h:∀us:List Value,us.length=c.length->bindArgs d ⟨us,[]⟩=pure (c.zip us)):XF K d c []:=λs us _ f=>by
 rw[Oc]at f ⊢;exact .of_eq (h us f)
def WJ(CX:X7)(X:Cx)(E:XK):Prop:=∀(pins:Ov) (σ:St) (H:Hp) (s:Shared) (e:Value) (s':Shared),Zd X pins σ H s->CX X.stack H s E e s'->X.xe e s'
section
variable{CX:X7}{k:Nat}{f C:Addr}{fd:OJ}{ps:OC}{sp:Sp}{dvs:List V}{ds:OB}{E:XK}{x m:Str}{p apos:Pos}{e o:Expr}{es:OD}{ta:TE}{t:TA}
def Qc(F:Zp X.prog X.w X.K X.mg X.base CX k f fd ps sp)(B:Yn k X.A)(v:XF X.K fd ps ds)(hd:ZB dvs ds)(j:WJ CX X E)
  (I:Zd X pins d H s) (r:ZB vs us) (h:sp (vs++dvs) H Q E):wpAny (model X.prog X.w) X.A (call (.ref f) us) (EP X pins d Q) X.xe s:=by
 have g:ZB (vs++dvs) (us++ds):=r.append hd;have i:(us++ds).length=ps.length:=by rw[<-g.length];exact F.len _ _ _ _ h
 erw[wpAny_call (codeAny_mono (F.run X.A X.stack s H ⟨us,[]⟩ (us++ds) (vs++dvs) Q E B I.env0 (v s us I.kIn i) g h) λr y c=>?_)];cases r with
 |error e=>exact j pins d H s e y I c
 |ok D =>
  cases D with
  |ret u=>exact I.after c
  |next=>exact False.elim c
  |brk=>exact False.elim c
  |cont=>exact False.elim c
def Vg(F:Zp X.prog X.w X.K X.mg X.base CX k f fd ps sp)(y:Yn k X.A)(B:Gl X x)(hm:X.mg x=some (.ref f))(u:W.keepIn X.K (.ref f)=true)(D:XF X.K fd ps ds)(hd:ZB dvs ds)(g:WJ CX X E)
  (ha:PA X (e::es) t) (j:(x==("__debug__" : Str))=false:=by lia) (v:starEach (e::es) X.env=(false,eval e X.env)::starEach es X.env:=by rfl) (d:(backTo pos (starEach es X.env)).any (·.1)=false:=by rfl) :
  PE X (.Call (.Name x p) (e::es) [] pos) (MQ sp dvs E t):=by
 intro pins s i H Q I h;erw[wpAny_Call_Name_kw (UQ I B hm ?_ j)];erw[W.callWith_K (h₀:=X.base) I.ok.mod.kin u (Zx (ha pos pins s i H _ I h) λL s1 ⟨G,J,c,r,q⟩=>⟨c.kIn,?_⟩) v d];exact Qc F y D hd g c r q
def xJ(F:Zp X.prog X.w X.K X.mg X.base CX k f fd ps sp)(i:Yn k X.A)(j:Gl X x)(hm:X.mg x=some (.ref f))(g:W.keepIn X.K (.ref f)=true)(u:XF X.K fd ps ds)(hd:ZB dvs ds)(c:WJ CX X E)
  (d:(x==("__debug__" : Str))=false:=by lia):PE X (.Call (.Name x p) [] [] pos) (MQ sp dvs E YP):=by
 intro pins s v H Q I h;erw[wpAny_Call_Name_kw (UQ I j hm ?_ d)];exact W.callWith_K0 I.kIn g (Qc (us:=[]) F i u hd c I .nil h)
def Xc(M:PE X o ta)(c:YO X.K C)(hm:Ym X.K C m f)(F:Zp X.prog X.w X.K X.mg X.base CX k f fd ps sp)(P:Yn k X.A)(S:XF X.K fd ps ds)(hd:ZB dvs ds)(L:WJ CX X E)(ha:PA X (e::es) t)
  (D:starEach (e::es) X.env=(false,eval e X.env)::starEach es X.env:=by rfl) (G:(backTo pos (starEach es X.env)).any (·.1)=false:=by rfl)
  (O:eval (.Call (.Attribute o m apos) (e::es) [] pos) X.env=(do
   let j <-eval o X.env
   standAt apos.atName
   let (f,first) <-holding [j] (getMethod j m pl)
   callWith pos f first (backTo pos (starEach (e::es) X.env)) (backToKw pos (keywordEach [] X.env))):=by rfl) :
  PE X (.Call (.Attribute o m apos) (e::es) [] pos) (xH C m sp dvs E ta t):=by
 intro pins s i H Q I h;erw[W.methodCall_KW (pl:=pl) (Zx (M pins s i H _ I h) λu s1 ⟨x,v,d,B,a,U,fs,ex,J,l,q⟩=>?_) O];subst ex;obtain rfl:u=Value.ref a:=B;erw[A1 d J c hm l ?_];erw[W.callWith_K (first:=[.ref a]) (h₀:=X.base) I.ok.mod.kin hm.kp (Zx (ha pos pins s1 i v _ d q) λus s2 ⟨vs,T,g,r,y⟩=>⟨g.kIn,?_⟩) D G];exact Qc (us:=.ref a::us) (vs:=.ref a::vs) F P S hd L g (.cons R r) y
def F8(B:PE X o ta)(c:YO X.K C)(hm:Ym X.K C m f)(F:Zp X.prog X.w X.K X.mg X.base CX k f fd ps sp)(G:Yn k X.A)(J:XF X.K fd ps ds)(hd:ZB dvs ds)(j:WJ CX X E)
  (D:eval (.Call (.Attribute o m apos) [] [] pos) X.env=(do
   let g <-eval o X.env
   standAt apos.atName
   let (f,first) <-holding [g] (getMethod g m pl)
   callWith pos f first (backTo pos (starEach [] X.env)) (backToKw pos (keywordEach [] X.env))):=by rfl) :
  PE X (.Call (.Attribute o m apos) [] [] pos) (xH C m sp dvs E ta YP):=by
 intro pins s v H Q I h;erw[W.methodCall_KW (pl:=pl) (Zx (B pins s v H _ I h) λu s1 ⟨x,M,d,y,a,L,fs,ex,i,l,q⟩=>?_) D];subst ex;obtain rfl:u=Value.ref a:=y;erw[A1 d i c hm l ?_];exact W.callWith_K0 (first:=[.ref a]) d.kIn hm.kp (Qc (us:=[.ref a]) (vs:=[.ref a]) F G J hd j d (.cons R .nil) q)
structure Mk(K:Ox)(C f:Addr):Prop where
 makes:W.makesIn K C=true
 init:W.findIn K (.ref C) "__init__"=some (some (.ref f))
 fn:W.isFn K (.ref f)=true
 kp:W.keepIn K (.ref C)=true
def xK(M:Mk X.K C f)(F:Zp X.prog X.w X.K X.mg X.base CX k f fd ps sp)(Y:Yn (k+1) X.A)(Z:XF X.K fd ps ds)(hd:ZB dvs ds)
  (U:WJ CX X E) (I:Zd X pins i H s) (r:ZB vs us)
  (h:∀x d,H x=none->H d=none->d≠x->sp (.ref x::(vs++dvs)) (Zb (Zb H d (.own x)) x (.ins C d [])) (λv B=>v=.non/\Q (.ref x) B) E) :
  wpAny (model X.prog X.w) X.A (call (.ref C) us) (EP X pins i Q) X.xe s:=by
 have j:=h (s.heap.objs.size+1) s.heap.objs.size (I.hok.fresh (Nat.le_succ _)) (I.hok.fresh (Sg _)) (Sf (Sm _));have g:=Zd.made (C:=C) I;have y:ZB (V.ref (s.heap.objs.size+1)::(vs++dvs)) (Value.ref (s.heap.objs.size+1)::(us++ds)):=.cons R (r.append hd);have D:(Value.ref (s.heap.objs.size+1)::us++ds).length=ps.length:=by
  have e:=y.length;rw[F.len _ _ _ _ j]at e;exact e.symm
 refine wpAny_call (ZdF (f:=f) I.kIn M.makes M.init (beq_iff_eq.mp M.fn) (codeAny_mono (F.run _ X.stack _ _ ⟨Value.ref (s.heap.objs.size+1)::us,[]⟩ (Value.ref (s.heap.objs.size+1)::(us++ds)) _ _ E (Y.make C us [])
  (g.env0.make C us []) (Z _ (Value.ref (s.heap.objs.size+1)::us) g.kIn D) y j) λr O c=>?_))
 cases r with
 |error e=>exact U pins i _ _ e O g c
 |ok T =>
  cases T with
  |ret u =>
   obtain⟨v,P,L,G,J,S⟩:=g.after c;subst J;exact⟨G,⟨V.ref (s.heap.objs.size+1),P,L,R,S⟩⟩
  |next=>exact False.elim c
  |brk=>exact False.elim c
  |cont=>exact False.elim c
def Vy(M:Mk X.K C f)(F:Zp X.prog X.w X.K X.mg X.base CX k f fd ps sp)(v:Yn (k+1) X.A)(y:Gl X x)(hm:X.mg x=some (.ref C))(B:XF X.K fd ps ds)(hd:ZB dvs ds)(g:WJ CX X E)
  (ha:PA X (e::es) t) (j:(x==("__debug__" : Str))=false:=by lia) (u:starEach (e::es) X.env=(false,eval e X.env)::starEach es X.env:=by rfl) (d:(backTo pos (starEach es X.env)).any (·.1)=false:=by rfl) :
  PE X (.Call (.Name x p) (e::es) [] pos) (xI C sp dvs E t):=by
 intro pins s i H Q I h;erw[wpAny_Call_Name_kw (UQ I y hm ?_ j)];erw[W.callWith_K (h₀:=X.base) I.ok.mod.kin M.kp (Zx (ha pos pins s i H _ I h) λJ s1 ⟨D,G,c,r,q⟩=>⟨c.kIn,?_⟩) u d];exact xK M F v B hd g c r q
def xL(M:Mk X.K C f)(F:Zp X.prog X.w X.K X.mg X.base CX k f fd ps sp)(g:Yn (k+1) X.A)(i:Gl X x)(hm:X.mg x=some (.ref C))(j:XF X.K fd ps ds)(hd:ZB dvs ds)(c:WJ CX X E)
  (d:(x==("__debug__" : Str))=false:=by lia):PE X (.Call (.Name x p) [] [] pos) (xI C sp dvs E YP):=by
 intro pins s u H Q I h;erw[wpAny_Call_Name_kw (UQ I i hm ?_ d)];exact W.callWith_K0 I.kIn M.kp (xK (us:=[]) M F g j hd c I .nil h)
end
def PK(X:Cx)(d:List Keyword)(t:TA):Prop :=
 ∀(c:Pos) (pins:Ov) (s:Shared) (σ:St) (H:Hp) (Q:List V->Hp->Prop),Zd X pins σ H s->t σ H Q->wpAny (model X.prog X.w) X.A (evalAll ((backToKw c (keywordEach d X.env)).map (·.2))) (AP X pins σ Q) X.xe s
section
variable{CX:X7}{k:Nat}{f C:Addr}{fd:OJ}{ps ks:OC}{sp:Sp}{E:XK}{x m:Str}{p apos kpos:Pos}{e o:Expr}{es:OD}{kws:List Keyword}{te ta:TE}{t tk:TA}{nm:Option Str}
def ZdS:PK X [] YP:=λ_ _ _ _ H Q I h=>wpAny_evalAll_nil ⟨[],H,I,.nil,h⟩
def ZdT(ha:PE X e te)(d:PK X kws t):PK X (⟨nm,e,kpos⟩::kws) (ZU te t):=by
 intro pos pins s c H Q I h;show wpAny _ _ (evalAll ((do let v <-eval e X.env;standAt pos;pure v)::(backToKw pos (keywordEach kws X.env)).map (·.2))) _ _ s;erw[wpAny_evalAll_cons (Sa (Zx (ha pins s c H _ I h) λu s1 ⟨x,j,y,G,g⟩=>Sa (wpAny_standAt (Sb ?_))))];exact Zx (d pos pins s1 c j _ y g) λM s2 ⟨i,J,D,B,L⟩=>⟨x::i,J,D,.cons G B,L⟩
structure ZlG(K:Ox)(fd:OJ)(ps ks:OC)(g:List Value->List Value->List Value)(gV:List V->List V->List V):Prop where
 to:∀(s:Shared) (us ws:OB),K.In s.heap->(g us ws).length=ps.length->BindsTo s fd ⟨us,ks.zip ws⟩ (ps.zip (g us ws))
 rel:∀{vs:List V} {us:OB} {zs:List V} {ws:OB},ZB vs us->ZB zs ws->ZB (gV vs zs) (g us ws)
variable{g:List Value->List Value->List Value}{gV:List V->List V->List V}
end
structure ZE(N P:OC)(sc:Scope):Prop where
 kind:sc.kind=.function
 co:sc.isCoroutine=false
 gen:sc.isGenerator=false
 nd:N.Nodup
 pre:N.take P.length=P
 par:∀x∈P,sc.names.lookup x=some .local\/sc.names.lookup x=some .cell
 nofree:∀y∈sc.names,y.2≠.free
theorem xM{kindOf:Str->Option NameKind}{x:Str}:∀{binds:List (Str×Value)} {m:Ow},(∀v,(x,v)∉binds)->bindL kindOf binds m x=m x
 |[],_,_=>rfl
 |(n,v)::r,m,h=>by
  unfold bindL;rw[xM λw c=>h w (SB _ c)];split;have:x≠n:=by rintro rfl;exact h v SC
  simp[this];rfl
theorem xN{kindOf:Str->Option NameKind}{x:Str}:∀{binds:List (Str×Value)} {m:Ow},(∀v,(x,v)∉binds)->bindC kindOf binds m x=m x
 |[],_,_=>rfl
 |(n,v)::r,m,h=>by
  unfold bindC;rw[xN λw c=>h w (SB _ c)];split;rfl;have:x≠n:=by rintro rfl;exact h v SC
  simp[this]
theorem xO{kindOf:Str->Option NameKind}{x:Str}{v:Value}:∀{P:OC} {vs:OB} {i:Nat} {m:Ow},P.Nodup->P[i]? = some x->vs[i]? = some v->kindOf x=some .local ->
  bindL kindOf (P.zip vs) m x=some v
 |[],_,_,_,_,h,_,_=>by simp at h
 |_::_,[],_,_,_,_,h,_=>by simp at h
 |p::P,w::vs,0,m,nd,h1,c,d=>by
  simp at h1 c;subst h1;subst c;show bindL kindOf ((p,w)::P.zip vs) m p=_;unfold bindL;rw[xM λv f=>(Ol.mp nd).1 (List.of_mem_zip f).1,SW d];simp
 |p::P,w::vs,i+1,m,nd,h1,c,d=>by
  show bindL kindOf ((p,w)::P.zip vs) m x=_;unfold bindL;exact xO (i:=i) (Ol.mp nd).2 (by simpa using h1) (by simpa using c) d
theorem xP{kindOf:Str->Option NameKind}{x:Str}{v:Value}:∀{P:OC} {vs:OB} {i:Nat} {m:Ow},P.Nodup->P[i]? = some x->vs[i]? = some v->kindOf x≠some .local ->
  bindC kindOf (P.zip vs) m x=some v
 |[],_,_,_,_,h,_,_=>by simp at h
 |_::_,[],_,_,_,_,h,_=>by simp at h
 |p::P,w::vs,0,m,nd,h1,c,d=>by
  simp at h1 c;subst h1;subst c;show bindC kindOf ((p,w)::P.zip vs) m p=_;unfold bindC;rw[xN λv f=>(Ol.mp nd).1 (List.of_mem_zip f).1,SV d];simp
 |p::P,w::vs,i+1,m,nd,h1,c,d=>by
  show bindC kindOf ((p,w)::P.zip vs) m x=_;unfold bindC;exact xP (i:=i) (Ol.mp nd).2 (by simpa using h1) (by simpa using c) d
def Ux(N:OC)(vs:List V):St:=vs.map some++List.replicate (N.length - vs.length) none
def Vz(CX:X7)(P:Program)(w:World)(K:Ox)(mg:Ow)(base:Heap)(N:OC)(qual:Str)(scope:Scope)(f:Addr)(cd:Value)(A:Around)(outer:List Env)(s:Shared)(H:Hp)(E:XK):Cx where
 prog:=P
 w:=w
 K:=K
 mg:=mg
 base:=base
 A:=A.deeper (envOfC qual scope s.heap.objs.size f cd)
 N:=N
 s₀:=s
 H₀:=H
 env:=envOfC qual scope s.heap.objs.size f cd
 outer:=outer
 stack:=envOfC qual scope s.heap.objs.size f cd::outer
 ex:=[]
 calm:=true
 fn:=λ_=>true
 pn:=[]
 xe:=λe g=>wpAny (model P w) (A.deeper (envOfC qual scope s.heap.objs.size f cd)) (leaving (envOfC qual scope s.heap.objs.size f cd) e) (λ_ c=>CX outer H s E e c) (λd c=>CX outer H s E d c) g
def xQ{d:Scope}(h:d.names.lookup x=some .cell):∃c,(cellsFrom n d.names []).lookup x=some c:=by
 have q:=W.cellsFrom_some d.names n [] (.inl h);exact Option.isSome_iff_exists.mp q
def ZdU{CX:X7}{N j:OC}{qual:Str}{f:Addr}{cd:Value}{outer:List Env}{s1:Shared}{E:XK}{us:OB}{vs:List V}
  (S:ZE N j scope) (hd:A.handled=none) (g:VX P w K mg base A outer s H) (Q:vs.length=j.length) (r:ZB vs us)
  (x:InCallC s s.heap.objs.size (bindL (envOfC qual scope s.heap.objs.size f cd).kindOf (j.zip us) λ_=>none) (cellsFrom (s.heap.objs.size+1) scope.names []) (bindC (envOfC qual scope s.heap.objs.size f cd).kindOf (j.zip us) λ_=>none) s1) :
  Zd (Vz CX P w K mg base N qual scope f cd A outer s H E) [] (Ux N vs) H s1:=by
 have U:j.length<=N.length:=by have:=congrArg List.length S.pre;rw[Sx]at this;lia
 ext⟨D,tk,rfl,M⟩ x.done;have I:∀b:Addr,b∉(Vz CX P w K mg base N qual scope f cd A outer s H E).ex:=λb z=>Os (show b∈([]:OH)from z) (by simp);refine⟨⟨g.mod,S.kind,R,R,Sg _,λy z c D d=>?_,λy B=>?_,λy c _ h=>?_,λ_=>hd,Around.frames_deeper g.frames,.inr ⟨R,R⟩,λb z=>Os z (I b),g.bs,g.bsz,λb _ _=>I b,λb z=>Os z (I b),g.funs,g.frf⟩,
  rfl,g.bare,Un.kept M,⟨_,x.toInCall.ns,λi y v D d T=>?_⟩,λy c h=>⟨_,x.cell y c h⟩,g.hok.fresh (Sg _),λy c h=>?_,λp C=>Os (show p∈([]:Ov)from C) (by simp),g.hok.kept M,?_⟩
 exact name_of_addr x.apart (PySem.mem_of_lookup D) (PySem.mem_of_lookup d);have B:scope.names.lookup y=some .cell\/scope.names.lookup y=some .free:=B;rcases B with B|B;exact xQ B;exact Os R (S.nofree _ (PySem.mem_of_lookup B));exact Nat.le_of_lt (x.above y c (PySem.mem_of_lookup h));have G:i<vs.length:=by
  unfold Ux at d;by_cases G:i<vs.length;exact G;rw[Ob (by simpa using G)]at d;rw[List.getElem?_replicate]at d;split at d<;>cases d
 have ha:vs[i]? = some v:=by
  unfold Ux at d;rw[List.getElem?_append_left (by simpa using G),Oa]at d;cases e:vs[i]? with
  |none=>rw[e]at d;cases d
  |some a=>rw[e]at d;cases d;rfl
 obtain⟨u,J,O⟩:=r.get ha;have C:j[i]? = some y:=by
  rwa[<-S.pre,List.getElem?_take_of_lt ()]
 have L:j.Nodup:=by rw[<-S.pre];exact S.nd.sublist (List.take_sublist _ _)
 erw[⟨u,O,?_⟩];rcases S.par y (SJ C)with k|k;exact .inl ⟨k,xO L C J k⟩;obtain⟨c,e⟩:=xQ (n:=s.heap.objs.size+1) k;erw[.inr ⟨.inl k,c,e,?_⟩];have q:=x.cell y c e;rw[xP L C J (by show scope.names.lookup y≠_;rw[k];lia)]at q;exact q;exact g.hok.fresh (Nat.le_of_lt (x.above y c (PySem.mem_of_lookup h)));unfold Ux;show _=N.length;rw[Su,Sv,Sz];lia
def MR{CX:X7}{k:Nat}{f:Addr}{name qual:Str}{params:Arguments}{body:List Stmt}{O kV G pm d ct oc:Value}{T Z:OF}
  {a0:Oz} {N i:OC} {sp:Sp} (lk:K.lookup f=some ⟨oc,Z,.func (W.fnOf name qual params body scope O kV G pm T d ct),a0⟩) (c0:W.codeIn K d qual=true) (S:ZE N i scope)
  (len:∀vs H Q E,sp vs H Q E->vs.length=i.length)
  (Y:∀(A:Around) (outer:List Env) (s:Shared) (H:Hp) (vs:List V) (Q:VK) (E:XK),Yn k (A.deeper (envOfC qual scope s.heap.objs.size f d))->sp vs H Q E ->
   ∃t,XV (Vz CX P w K mg base N qual scope f d A outer s H E) body t/\t {nx:=λ_ c=>Q .non c,rt:=Q} (Ux N vs) H) :
  Zp P w K mg base CX (k+1) f (W.fnOf name qual params body scope O kV G pm T d ct) i sp:=by
 erw[⟨len,λA outer s H args us vs Q E D h hb r M=>?_⟩];have hl:=len _ _ _ _ M;have KX:K.In s.heap:=h.mod.kin.keeps λb o e=>(h.bs b o e).1;have X:s.heap.NoLimit:=h.mod.nolimit.keeps λb o e=>(h.bs b o e).1;have b0:∀y∈i.zip us,scope.names.lookup y.1=some .local\/(scope.names.lookup y.1=some .cell/\((cellsFrom (s.heap.objs.size+1) scope.names []).lookup y.1).isSome=true):=λ⟨n,v⟩ hy=>by
  rcases S.par n (List.of_mem_zip hy).1 with q|q;exact .inl q;exact .inr ⟨q,W.cellsFrom_some _ _ _ (.inl q)⟩
 erw[codeAny_call_function D.depth (KX _ _ lk) R S.co S.gen R (W.codeRec_of KX c0) (hb _ _ _ _ ?_)];erw[wpAny_newFunctionEnv_cells S.kind b0 λenv he s1 x=>?_];subst he;erw[⟨X.keeps x.toInCall.keep,codeAny_func ?_⟩];obtain⟨t,ht,U⟩:=Y A outer s H vs Q E (D.deeper _) M;have I:Zd (Vz CX P w K mg base N qual scope f d A outer s H E) [] (Ux N vs) H s1:=ZdU S D.hd h hl r x;erw[Oq (ht [] s1 (Ux N vs) H _ I U) (λfl C g=>?_) λe C g=>g];have L:∀{j:St} {c:Hp} {v:V} {u:Value},Zd (Vz CX P w K mg base N qual scope f d A outer s H E) [] j c C->ZL v u->Q v c->CE outer P w H s Q u C :=
  λ{j c v u} J B q=>⟨v,c,J.os,J.bare,J.base,J.hok,B,q⟩
 cases fl with
 |ret u =>
  ext⟨v,j,c,J,B,q⟩ g;exact L J B q
 |next =>
  ext⟨j,c,J,q⟩ g;exact L (v:=V.non) (u:=Value.none) J R q
 |brk =>
  ext⟨_,_,_,q⟩ g;exact False.elim q
 |cont =>
  ext⟨_,_,_,q⟩ g;exact False.elim q
section
variable{x:Str}{p:Pos}{e:Expr}{es:OD}{t:TA}{id T:String}{r:List V->Hp->VK->Prop}
def VY(r:List V->Hp->VK->Prop)(t:TA):TE:=λd H Q=>t d H λc f=>r c f Q
def xR(E:Y4 X (.builtin id) r)(D:Gl X x)(hm:X.mg x=none)(v:bootBuiltins x=some (.builtin id))(ha:PA X (e::es) t)(hn:x ≠ "__name__" := by lia) (u:(x==("__debug__" : Str))=false:=by lia)
  (B:starEach (e::es) X.env=(false,eval e X.env)::starEach es X.env:=by rfl) (d:(backTo pos (starEach es X.env)).any (·.1)=false:=by rfl):PE X (.Call (.Name x p) (e::es) [] pos) (VY r t):=by
 intro pins s c H Q I h;erw[wpAny_Call_Name_kw (Q2 I D hm v ?_ hn u)];exact PyProof.Rows.callWith_builtin1 (Zx (ha pos pins s c H _ I h) λy s1 ⟨f,j,i,C,g⟩=>E pins s1 c j f y Q i C g) B d
def Z2(E:Y4 X (.type T) r)(D:Gl X x)(hm:X.mg x=none)(v:bootBuiltins x=some (.type T))(ha:PA X (e::es) t)(hn:x ≠ "__name__" := by lia) (u:(x==("__debug__" : Str))=false:=by lia)
  (B:starEach (e::es) X.env=(false,eval e X.env)::starEach es X.env:=by rfl) (d:(backTo pos (starEach es X.env)).any (·.1)=false:=by rfl):PE X (.Call (.Name x p) (e::es) [] pos) (VY r t):=by
 intro pins s c H Q I h;erw[wpAny_Call_Name_kw (Q2 I D hm v ?_ hn u)];exact PyProof.Rows.callWith_type1 (Zx (ha pos pins s c H _ I h) λy s1 ⟨f,j,i,C,g⟩=>E pins s1 c j f y Q i C g) B d
end
end L2
namespace HT
open PySem PyProof.Rows
section
open PySem.SeqAt
open PySem.AutoSeq1 (wpAny_loadPart')
open PySem.MeetsSeq PySem.MeetsSeq2 PySem.MeetsSeq3
end
def sIx(n d:Nat):Option Int->Nat
 |none=>d
 |some v=>if v<0 then (v+(n:Int)).toNat else min v.toNat n
def ZdV(n d:Nat)(hd:d<=n)(o:Option Int):sIx n d o<=n:=by
 cases o with
 |none=>exact hd
 |some v =>
  show(if v<0 then (v+(n:Int)).toNat else min v.toNat n)<=n;by_cases c:v<0;rw[if_pos c];lia;rw[if_neg c];exact Nat.min_le_right _ _
def xS(v:Int)(n d:Nat):(if v<0 then max (v+(n:Int)) 0 else min v (n:Int))=((sIx n d (some v):Nat):Int):=by
 show(if v<0 then max (v+(n:Int)) 0 else min v (n:Int))=(((if v<0 then (v+(n:Int)).toNat else min v.toNat n):Nat):Int);by_cases c:v<0;simp only[if_pos c];lia;simp only[if_neg c];lia
def ZdW(lo hi:Option Int)(n:Nat):Builtin.Slice.sliceAdjust lo hi 1 (n:Int)=(((sIx n 0 lo:Nat):Int),((sIx n n hi:Nat):Int)):=by
 have c:¬ ((1:Int)<0):=by lia
 unfold Builtin.Slice.sliceAdjust;simp only[c,if_false];erw[Prod.ext ?_ ?_];cases lo with
 |none=>rfl
 |some v=>exact xS v n 0
 cases hi with
 |none=>rfl
 |some v=>exact xS v n n
def ZdX(i j:Nat):Builtin.Slice.slicePlaces (i:Int) (j:Int) 1=j - i:=by
 unfold Builtin.Slice.slicePlaces;have c:(1:Int)>0:=by lia
 simp only[c,if_true,Int.ediv_one];split<;>omega
def xT(p:IsPart v o)(h:Q o s):wpAny (model prog w) A (Builtin.Slice.slicePartIndex v) Q E s:=by
 cases p with
 |none=>exact slicePart_none h
 |int i t=>exact slicePart_int h
def ZdY{i:Addr}{d f:Value}{lo hi:Option Int}{n:Nat}{Q:Int×Int×Nat->Shared->Prop}(u:s.heap.IsSliceOf i d f .none)(pl:IsPart d lo)(j:IsPart f hi)
  (h:Q (((sIx n 0 lo:Nat):Int),1,sIx n n hi - sIx n 0 lo) s):wpAny (model prog w) A (Builtin.Slice.sliceApplied (.ref i) (pure (n:Int))) Q E s:=by
 obtain⟨os,g,v,c⟩:=id u;unfold Builtin.Slice.sliceApplied Builtin.Slice.sliceFields;erw[wpAny_bind (wpAny_bind (wpAny_field g c (x:=d) rfl (wpAny_bind (wpAny_field g c (x:=f) rfl (wpAny_bind (wpAny_field g c (x:=.none) rfl (wpAny_pure ?_)))))))];erw[wpAny_bind (slicePart_none ?_)];show wpAny _ _ (if ((1:Int)==0)=true then _ else _) _ _ s;rw[if_neg ()];erw[wpAny_bind (xT pl (wpAny_bind (xT j (wpAny_bind (wpAny_pure ?_)))))];show wpAny _ _ (match Builtin.Slice.sliceAdjust lo hi 1 (n:Int)with|(lo,hi)=>pure (lo,(1:Int),Builtin.Slice.slicePlaces lo hi 1)) _ _ s;rw[ZdW lo hi n];show wpAny _ _ (pure (((sIx n 0 lo:Nat):Int),(1:Int),Builtin.Slice.slicePlaces ((sIx n 0 lo:Nat):Int) ((sIx n n hi:Nat):Int) 1)) _ _ s;rw[ZdX];exact wpAny_pure h
def ZdZ(xs:Array Value)(i k:Nat):((List.range k).filterMap λ(m:Nat)=>xs[((i:Int)+(m:Int)*1).toNat]?).toArray=((xs.toList.drop i).take k).toArray:=by
 have e:(λ(m:Nat)=>xs[((i:Int)+(m:Int)*1).toNat]?)=λm=>xs[i+m]?:=by
  funext m;have:((i:Int)+(m:Int)*1).toNat=i+m:=by lia
  rw[this]
 rw[e];have:=pick_run xs i k;rw[List.filterMap_map]at this;have c:((λx=>xs[x]?) ∘ λx=>i+x)=λm=>xs[i+m]?:=rfl;rw[c]at this;rw[this]
def getItem_tuple_cut{t f:Addr}{items:Array Value}{g i:Value}{lo hi:Option Int}{Q:Value->Shared->Prop}(c:IsTup s.heap t items)(j:s.heap.IsSliceOf f g i .none)(pl:IsPart g lo)(u:IsPart i hi)
  (x:¬ (sIx items.size 0 lo=0/\sIx items.size items.size hi=items.size))
  (h:Q (.ref s.heap.objs.size) {s with heap:=s.heap.push {cls:=.type "tuple",data:=.seq ((items.toList.drop (sIx items.size 0 lo)).take (sIx items.size items.size hi - sIx items.size 0 lo)).toArray} })
  (I:items.size<=sizeLine):wpAny (model prog w) A (getItem (.ref t) (.ref f)) Q E s:=by
 have d:sizeOk (.seq ((items.toList.drop (sIx items.size 0 lo)).take (sIx items.size items.size hi - sIx items.size 0 lo)).toArray):=by
  show((items.toList.drop (sIx items.size 0 lo)).take (sIx items.size items.size hi - sIx items.size 0 lo)).toArray.size<=sizeLine;rw[List.size_toArray,List.length_take,List.length_drop,Array.length_toList];lia
 have H:sIx items.size items.size hi<=items.size:=ZdV _ _ (Nat.le_refl _) hi;obtain⟨os,C,B,G⟩:=id j;have y:s.TypeIs (.ref f) "slice" := ⟨os,C,B⟩;unfold getItem
 try with_reducible erw[wpAny_holding ?_]
 first|refine wpAny_bind (wpAny_pure ?_)|skip
 erw[wpAny_bind (wpAny_sequenceKey c.typeIs () ?_)];refine wpAny_bind (wpAny_callSpecial?_slot (name:=Str.ofString "__getitem__") c.typeIs PyProof.Rows.slot_tuple_getitem
  (wpAny_call_entry PyProof.Rows.slot_tuple_getitem c.typeIs entry_tuple_getitem ?_ (args_tuple_getitem _ _)))
 show wpAny _ _ (Builtin.Tuple.tupleItemsOf (.ref t) >>= _) _ _ s;erw[wpAny_bind (tupleItemsOf_ c ?_)];erw[wpAny_bind (wpAny_typeOf y ?_)];rw[if_pos ()];erw[wpAny_bind (ZdY j pl u ?_)];have v:¬ ((((sIx items.size 0 lo:Nat):Int)==0 && (1:Int)==1 && (sIx items.size items.size hi - sIx items.size 0 lo)==items.size)=true):=by
  intro q;rw[Bool.and_eq_true,Bool.and_eq_true]at q;have D:((sIx items.size 0 lo:Nat):Int)=0:=eq_of_beq q.1.1;have J:sIx items.size items.size hi - sIx items.size 0 lo=items.size:=eq_of_beq q.2;exact x ⟨(),()⟩
 show wpAny _ _ (if (((sIx items.size 0 lo:Nat):Int)==0 && (1:Int)==1 && (sIx items.size items.size hi - sIx items.size 0 lo)==items.size)=true then _ else _) _ _ s;rw[if_neg v,ZdZ]
 first
  |exact wpAny_bind (m:=Builtin.Tuple.tupleExact _) (wpAny_newObj_type (wpAny_pure ⟨_,rfl,wpAny_pure h⟩) d)
  |exact wpAny_bind (m:=Builtin.Tuple.tupleExact _) (wpAny_newObj_type (wpAny_bind (wpAny_pure (wpAny_pure ⟨_,rfl,wpAny_pure h⟩))) d)
  |exact wpAny_bind (wpAny_bind (m:=Builtin.Tuple.tupleExact _) (wpAny_newObj_type (wpAny_pure (wpAny_pure ⟨_,rfl,wpAny_pure h⟩)) d))
  |exact wpAny_bind (wpAny_bind (m:=Builtin.Tuple.tupleExact _) (wpAny_newObj_type (wpAny_pure ⟨_,rfl,wpAny_pure h⟩) d))
end HT
namespace L2
open PySem PySem.Spec PyProof.Rows
abbrev TO:=St->Hp->(Option Int->Hp->Prop)->Prop
def PO(X:Cx)(e:Option Expr)(t:TO):Prop :=
 ∀(pins:Ov) (s:Shared) (σ:St) (H:Hp) (Q:Option Int->Hp->Prop),Zd X pins σ H s->t σ H Q ->
  wpAny (model X.prog X.w) X.A (evalPart e X.env) (λu d=>∃o c,Zd X pins σ c d/\IsPart u o/\Q o c) X.xe s
def Zd0:TO:=λ_ H Q=>Q none H
inductive Zd1(Q:Option Int->Hp->Prop)(x:V)(H1:Hp):Prop|mk i (_:x=.int i) (_:Q (some i) H1)
def Zd2(t:TE):TO:=λc H Q=>t c H λx d=>Zd1 Q x d
section
variable{e:Expr}{te:TE}{lo hi:Option Expr}{tl th:TO}{p2:Pos}
def F9:PO X none Zd0:=by
 intro pins s c H Q I h;rw[evalPart_none];exact Sb ⟨none,H,I,.none,h⟩
def Qd(h:PE X e te):PO X (some e) (Zd2 te):=by
 intro pins s d H Q I c;rw[evalPart_some];erw[Zx (h pins s d H _ I c) λu s1 ⟨x,j,g,v,f⟩=>?_];ext⟨i,rfl,q⟩ f;ext⟨t,rfl⟩ v;exact⟨some i,j,g,.int i t,q⟩
def G0(X:Cx)(r:V->Option Int->Option Int->Hp->VK->Prop):Prop :=
 ∀(pins:Ov) (s:Shared) (σ:St) (H:Hp) (x:V) (v vl vu:Value) (lo hi:Option Int) (sl:Addr) (Q:VK),Zd X pins σ H s->ZL x v->s.heap.IsSliceOf sl vl vu .none->IsPart vl lo->IsPart vu hi->r x lo hi H Q ->
  ∃T id,typeLookup (.type T) "__getitem__"=pure (some (.builtin id))/\s.TypeIs v T/\wpAny (model X.prog X.w) X.A (getItem v (.ref sl)) (EP X pins σ Q) X.xe s
def tSl(r:V->Option Int->Option Int->Hp->VK->Prop)(te:TE)(tl th:TO):TE:=λc H Q=>te c H λx d=>tl c d λl f=>th c f λu g=>r x l u g Q
def A2(hr:G0 X r)(Z:PE X e te)(G:PO X lo tl)(i:PO X hi th):PE X (.Subscript e (.Slice lo hi none p2) pos) (tSl r te tl th):=by
 intro pins s c H Q I h;erw[Subscript_ (Zx (Z pins s c H _ I h) λv s1 ⟨x,y,M,B,j⟩=>?_)];erw[wpAny_Slice (Zx (G pins s1 c y _ M j) λf s2 ⟨l,C,S,J,D⟩=>Zx (i pins s2 c C _ S D) λd s3 ⟨u,g,O,E,T⟩=>?_)];rw[evalPart_none];erw[Sb ?_];have L:Zd X pins c g {s3 with heap:=s3.heap.push {cls:=.type "slice",data:=.fields #[f,d,.none]} }:=O.kept (t':=s3.toks) λb ob q=>Sc _ q;obtain⟨a0,id,U,Y,P⟩:=hr pins {s3 with heap:=s3.heap.push {cls:=.type "slice",data:=.fields #[f,d,.none]} } c g x v f d l u s3.heap.objs.size Q L B (Heap.IsSliceOf.new ..) J E T;show wpAny (model X.prog X.w) X.A (subscriptTail e (.Slice lo hi none p2) v (.ref s3.heap.objs.size)) (EP X pins c Q) X.xe {s3 with heap:=s3.heap.push {cls:=.type "slice",data:=.fields #[f,d,.none]} };exact tail_any (ops:=[.ref s3.heap.objs.size,v]) Y U P (by with_unfolding_all rfl)
def WP(xs:List V)(lo hi:Option Int):List V:=(xs.drop (HT.sIx xs.length 0 lo)).take (HT.sIx xs.length xs.length hi - HT.sIx xs.length 0 lo)
def MS(xs:List V)(lo hi:Option Int):(WP xs lo hi).length<=xs.length:=by
 unfold WP;rw[Sx,SA];lia
inductive xU(K:Ox)(x:V)(lo:Option Int)(hi:Option Int)(H:Hp)(Q:VK):Prop|mk a xs (_:x=.ref a) (_:Zk K H a xs) (_:¬ (HT.sIx xs.length 0 lo=0/\HT.sIx xs.length xs.length hi=xs.length)) (_:∀p,H p=none->Q (.ref p) (Zb H p (.tup (WP xs lo hi))))
def Zd3:G0 X (xU X.K):=by
 intro pins s J H x v E D lo hi G Q I u y i g h;ext⟨a,c,rfl,B,j,q⟩ h;cases u;obtain⟨C,r,f,d⟩:=I.tuple B;have hlen:C.toArray.size=c.length:=by rw[SM];exact r.length.symm
 erw[⟨"tuple",_,PyProof.Rows.slot_tuple_getitem.lookup,f.typeIs,?_⟩];erw[HT.getItem_tuple_cut f y i g (by rwa[hlen]) ?_ (by rwa[hlen])];rw[hlen];erw[⟨.ref s.heap.objs.size,_,I.laid (t':=s.toks) (o:=.tup (WP c lo hi)) (λb ob q=>Sc _ q) (Sg _) ?_,R,q _ (I.hok.fresh (Sg _))⟩];exact⟨Sh (MS c lo hi) d,_,(r.drop (HT.sIx c.length 0 lo)).take (HT.sIx c.length c.length hi - HT.sIx c.length 0 lo),IsTup.new _ _⟩
end
def Qg(n:Nat)(i:Int):Option Nat:=if 0<=i then (if i<n then some i.toNat else none)else if -(n:Int)<=i then some (i+n).toNat else none
def Xy{c:Type}(xs:List c)(i:Int):Option c:=(Qg xs.length i).bind λj=>xs[j]?
def xV(h:Qg n i=some j):seqIndex? i n=some j/\j<n/\-(n:Int)<=i/\i<n:=by
 unfold Qg at h;by_cases d:0<=i;rw[SW d]at h;by_cases c:i<n;rw[SW c]at h;have e:i.toNat=j:=So h;exact⟨by rw[seqIndex_of d c,e],(),(),c⟩;rw[SV c]at h;cases h;rw[SV d]at h;by_cases c:-(n:Int)<=i;rw[SW c]at h;have e:(i+n).toNat=j:=So h;exact⟨by rw[seqIndex_neg () c,e],(),c,()⟩;rw[SV c]at h;cases h
def MT{c:Type}{xs:List c}{i:Int}{v:c}(h:Xy xs i=some v):∃j,seqIndex? i xs.length=some j/\xs[j]? = some v/\j<xs.length/\-(xs.length:Int)<=i/\i<xs.length:=by
 unfold Xy at h;cases e:Qg xs.length i with
 |none=>rw[e]at h;cases h
 |some j =>
  rw[e]at h;obtain⟨g,d,u,f⟩:=xV e;exact⟨j,g,h,d,u,f⟩
def Qh{c:Type}{xs:List c}{j:Nat}{v:c}(h:xs[j]? = some v):Xy xs (j:Int)=some v:=by
 have d:j<xs.length:=(Sr.mp h).1;have e:Qg xs.length (j:Int)=some j:=by
  unfold Qg;rw[SW (),SW ()];simp
 unfold Xy;rwa[e]
def xW(b:Expr):Prop:=∀o i,subscripted b false o i=operate [o,i] (getItem o i)
def Xt(X:Cx)(r:R2):Prop :=
 ∀(value slice:Expr) (pins:Ov) (s:Shared) (σ:St) (H:Hp) (x y:V) (v u:Value) (Q:VK),Zd X pins σ H s->ZL x v->ZL y u->r x y H Q ->
  subscripted slice false v u=operate [v,u] (getItem v u)->wpAny (model X.prog X.w) X.A (subscriptTail value slice v u) (EP X pins σ Q) X.xe s
def Lc(X:Cx)(id:String)(r:V->List V->Hp->VK->Prop):Prop :=
 ∀(pins:Ov) (s:Shared) (σ:St) (H:Hp) (x:V) (xs:List V) (v:Value) (us:OB) (Q:VK),Zd X pins σ H s->ZL x v->ZB xs us->r x xs H Q ->
  wpAny (model X.prog X.w) X.A (call (.builtin id) (v::us)) (EP X pins σ Q) X.xe s
section
variable{a b:Expr}{ta tb:TE}
def Vh(c:Xt X r)(ha:PE X a ta)(C:PE X b tb)(B:xW b):PE X (.Subscript a b pos) (W2 r ta tb):=by
 intro pins s d H Q I h;exact Subscript_ (MK ha C I h λv u s2 x y j i g f q=>c a b pins s2 d j x y v u Q i g f q (B _ _))
inductive WQ(K:Ox)(x:V)(y:V)(H:Hp)(Q:VK):Prop|mk p xs i v (_:x=.ref p) (_:y=.int i) (_:Ze K H p xs) (_:Xy xs i=some v) (_:Q v H)
inductive G1(K:Ox)(x:V)(y:V)(H:Hp)(Q:VK):Prop|mk p xs i v (_:x=.ref p) (_:y=.int i) (_:Zk K H p xs) (_:Xy xs i=some v) (_:Q v H)
inductive Zd4(x:V)(y:V)(H:Hp)(Q:VK):Prop|mk z i c (_:x=.str z) (_:y=.int i) (_:z.length<=sizeLine) (_:Xy z.cps.toList i=some c) (_:Q (.str ⟨#[c]⟩) H)
def ZJ:Xt X (WQ X.K):=by
 intro value slice pins s C H x a0 b0 u Q I O P h B;ext⟨p,Z,i,z,rfl,rfl,D,U,q⟩ h;cases O;ext⟨t,rfl⟩ P;obtain⟨E,r,d,Y⟩:=I.list D;obtain⟨j,c,J,h3,L,T⟩:=MT U;obtain⟨w,v,M⟩:=r.get J;have G:=r.length;have hn:=Q9;have g:EP X pins C Q w s:=⟨z,H,I,M,q⟩;by_cases y:0<=i;have f:i.toNat=j:=by
  rw[seqIndex_of y T]at c;exact So c
 exact item_listR d.isList y () (by rw[f];simpa using v) g B;have f:(i+(E.toArray.size:Int)).toNat=j:=by
  rw[seqIndex_neg () L]at c;rw[SM,<-G];exact So c
 exact subscriptTail_builtinR (x:=w) d.isList.typeIs slot_list_getitem.lookup
  (wpAny_getItem_list_neg (Q:=λr S=>r=w/\EP X pins C Q r S) d.isList () (by rw[SM]<;>omega) () (by rw[f];simpa using v) ⟨R,g⟩) B
def ZV:Xt X (G1 X.K):=by
 intro value slice pins s d H x y v u Q I J L h O;ext⟨p,U,i,z,rfl,rfl,f,P,q⟩ h;cases J;ext⟨t,rfl⟩ L;obtain⟨a0,r,c,T⟩:=I.tuple f;obtain⟨j,D,B,Y,S,Z⟩:=MT P;obtain⟨w,G,C⟩:=r.get B;have g:=r.length;have hn:=Q9;have E:EP X pins d Q w s:=⟨z,H,I,C,q⟩;exact subscriptTail_builtinR (x:=w) c.typeIs slot_tuple_getitem.lookup
  (getItem_tuple (j:=j) (Q:=λr M=>r=w/\EP X pins d Q r M) c () () (by rwa[SM,<-g]) (by simpa using G) ⟨R,E⟩) O
def xX:Xt X Zd4:=by
 intro value slice pins s S H x y v u Q I D E h G;ext⟨z,i,c,rfl,rfl,O,M,q⟩ h;ext⟨t,rfl⟩ D;ext⟨T,rfl⟩ E;obtain⟨j,d,B,P,C,J⟩:=MT M;have g:z.cps.toList.length=z.length:=by simp[Str.length]
 rw[g]at d C J;have hn:=Q9;exact tail_any (typeIs_str s z t) slot_str_getitem.lookup (getItem_str (c:=c) (by
  have f:decide (i < -(2 ^ 63:Int))=false:=SR ();have L:decide (i ≥ 2 ^ 63)=false:=SR ();rw[f,L,Bool.or_false]) (by rw[d];simpa using B) ⟨.str ⟨#[c]⟩,H,I.tok _,⟨_,R⟩,q⟩) G
def Zd5(c:OB)(n j:Nat)(u:Value):Obj.mapSeq (·.setIfInBounds j u) {cls:=.type "list",data:=.seq c.toArray n} = {cls:=.type "list",data:=.seq (c.set j u).toArray n}:=by
 simp[Obj.mapSeq]
def Zd.lst{pins:Ov}{d:St}{H:Hp}{s:Shared}{p:Addr}{xs:List V}(I:Zd X pins d H s)(h:H p=some (.lst xs)) :
  ∃(c:OB) (n:Nat),ZB xs c/\s.heap.get? p=some {cls:=.type "list",data:=.seq c.toArray n}/\xs.length<=sizeLine:=by
 obtain⟨z,c,n,r,e⟩:=I.hok p _ h;exact⟨c,n,r,e,z⟩
def Zd.lstUpd{ys : List V}{g its':OB}(I:Zd X pins d H s)(h:H p=some (.lst xs))
  (y:s.heap.get? p=some {cls:=.type "list",data:=.seq g.toArray n}) (i:f {cls:=.type "list",data:=.seq g.toArray n} = {cls:=.type "list",data:=.seq its'.toArray c}) (r:ZB ys its') (j:ys.length<=sizeLine) (t:Nat) :
  Zd X pins d (Zb H p (.lst ys)) {s with heap:=s.heap.update p f,toks:=t}:=by
 have e:(s.heap.update p f).get? p=some {cls:=.type "list",data:=.seq its'.toArray c}:=by
  rw[Heap.get?_update_self f y (by rw[i]<;>rfl),i]
 erw[I.write (x:=p) (e:=p) (by rw[h];trivial) (.inl R) (λb u v q=>(Heap.get?_update_other _ _ (Ne.symm v)).trans q) ⟨_,e⟩ ?_];exact⟨j,its',c,r,e⟩
inductive Zd6(o:V)(i:V)(v:V)(H:Hp)(Q:(Hp->Prop)):Prop|mk p xs k j (_:o=.ref p) (_:i=.int k) (_:H p=some (.lst xs)) (_:Qg xs.length k=some j) (_:Q (Zb H p (.lst (xs.set j v))))
def xY:yP X Zd6:=by
 intro pins s O H o i v T S u Q I ro ri G h;ext⟨p,L,k,j,rfl,rfl,D,M,q⟩ h;cases ro;ext⟨t,rfl⟩ ri;obtain⟨E,n,r,g,J⟩:=I.lst D;obtain⟨c,P,B,y⟩:=xV M;have d:=r.length;have hn:=Q9;have x:Zd X pins O (Zb H p (.lst (L.set j v))) {s with heap:=s.heap.update p (Obj.mapSeq (·.setIfInBounds j u))} :=
  I.lstUpd D g (Zd5 E n j u) (r.set G j) (by rwa[List.length_set]) s.toks
 by_cases C:0<=k;have f:k.toNat=j:=by
  rw[seqIndex_of C y]at c;exact So c
 exact W.ki_setAt g C () (by rwa[SM,<-d]) (by rw[f];exact⟨_,x,q⟩);have f:(k+(E.toArray.size:Int)).toNat=j:=by
  rw[seqIndex_neg () B]at c;rw[SM,<-d];exact So c
 exact W.ki_setBack g () (by rwa[SM,<-d]) () (by rw[f];exact⟨_,x,q⟩)
def Zd7(lo hi:Option Int)(n:Nat):(sliceBounds lo hi none n).1=((HT.sIx n 0 lo:Nat):Int)/\(sliceBounds lo hi none n).2.1=((HT.sIx n n hi:Nat):Int)/\(sliceBounds lo hi none n).2.2=1:=by
 erw[⟨?_,?_,R⟩];cases lo with
 |none=>simp[sliceBounds,HT.sIx]
 |some i =>
  simp only[sliceBounds,HT.sIx,Option.getD_none,show(1:Int)>0 by lia,if_true];by_cases h:i<0;simp only[h,if_true]<;>omega
  simp only[h,if_false]<;>omega
 cases hi with
 |none=>simp[sliceBounds,HT.sIx]
 |some i =>
  simp only[sliceBounds,HT.sIx,Option.getD_none,show(1:Int)>0 by lia,if_true];by_cases h:i<0;simp only[h,if_true]<;>omega
  simp only[h,if_false]<;>omega
def Zd8(c:OB)(lo hi:Option Int):slicePick c.toArray lo hi none=((c.drop (HT.sIx c.length 0 lo)).take (HT.sIx c.length c.length hi - HT.sIx c.length 0 lo)).toArray:=by
 obtain⟨g,f,d⟩:=Zd7 lo hi c.toArray.size;unfold slicePick;rw[g,f,d];simp only[sliceRange_one,pick_run,SM]<;>rfl
inductive Zd9(K:Ox)(x:V)(lo:Option Int)(hi:Option Int)(H:Hp)(Q:VK):Prop|mk a xs (_:x=.ref a) (_:Ze K H a xs) (_:∀p,H p=none->Q (.ref p) (Zb H p (.lst (WP xs lo hi))))
def MU:G0 X (Zd9 X.K):=by
 intro pins s G H x v D C lo d E Q I u y i g h;ext⟨a,c,rfl,B,q⟩ h;cases u;obtain⟨J,r,f,j⟩:=I.list B;have hlen:=r.length;erw[⟨"list",_,slot_list_getitem.lookup,f.isList.typeIs,?_⟩];erw[wpAny_getItem_list_slice f.isList y i g .none (by simp) ?_ (by rw[SM]<;>omega)];rw[Zd8,<-hlen];erw[⟨.ref s.heap.objs.size,_,I.laid (t':=s.toks) (o:=.lst (WP c lo d)) (λb ob q=>Sc _ q) (Sg _) ?_,R,q _ (I.hok.fresh (Sg _))⟩];exact⟨Sh (MS c lo d) j,_,0,(r.drop (HT.sIx c.length 0 lo)).take (HT.sIx c.length c.length d - HT.sIx c.length 0 lo),Sd _ R⟩
def WR:V->Bool
 |.non=>true
 |.bl _=>true
 |.int _=>true
 |.str _=>true
 |_=>false
def Ws:V->V->Bool
 |.non,.non=>true
 |.bl a,.bl b=>a==b
 |.bl a,.int b=>(if a then 1 else 0)==b
 |.int a,.bl b=>a==(if b then 1 else 0)
 |.int a,.int b=>a==b
 |.str a,.str b=>a==b
 |_,_=>false
def xZ(g:ZL y u)(c:ZL x v)(h:WR y=true)(f:WR x=true):SeqAt.EqAt A s u v (Ws y x):=by
 cases y with
 |non =>
  cases g;cases x with
  |non=>cases c;exact SeqAt.EqAt.same _
  |bl b=>cases c;exact SeqAt.EqAt.none_bool b
  |int b=>ext⟨t,rfl⟩ c;exact SeqAt.EqAt.none_int b t
  |str b=>ext⟨t,rfl⟩ c;exact SeqAt.EqAt.none_str b t
  |_=>exact Os (show false=true from f) SO
 |bl a =>
  cases g;cases x with
  |non=>cases c;exact SeqAt.EqAt.bool_none a
  |bl b=>cases c;exact SeqAt.EqAt.bool_bool a b
  |int b=>ext⟨t,rfl⟩ c;exact SeqAt.EqAt.bool_int a b t
  |str b=>ext⟨t,rfl⟩ c;exact SeqAt.EqAt.bool_str a b t
  |_=>exact Os (show false=true from f) SO
 |int a =>
  ext⟨d,rfl⟩ g;cases x with
  |non=>cases c;exact SeqAt.EqAt.int_none a d
  |bl b=>cases c;exact SeqAt.EqAt.int_bool a d b
  |int b=>ext⟨t,rfl⟩ c;exact SeqAt.EqAt.int_int a d b t
  |str b=>ext⟨t,rfl⟩ c;exact SeqAt.EqAt.int_str a d b t
  |_=>exact Os (show false=true from f) SO
 |str a =>
  ext⟨d,rfl⟩ g;cases x with
  |non=>cases c;exact SeqAt.EqAt.str_none a d
  |bl b=>cases c;exact SeqAt.EqAt.str_bool a d b
  |int b=>ext⟨t,rfl⟩ c;exact SeqAt.EqAt.str_int a d b t
  |str b=>ext⟨t,rfl⟩ c;exact SeqAt.EqAt.str_str a d b t
  |_=>exact Os (show false=true from f) SO
 |_=>exact Os (show false=true from h) SO
def UV(x:V)(u:Value):Bool:=match u with
 |.none=>Ws .non x
 |.bool b=>Ws (.bl b) x
 |.int i _=>Ws (.int i) x
 |.str z _=>Ws (.str z) x
 |_=>false
def wA(r:ZL y u)(f:WR y=true):UV x u=Ws y x:=by
 cases y with
 |non=>cases r;rfl
 |bl b=>cases r;rfl
 |int i=>ext⟨t,rfl⟩ r;rfl
 |str z=>ext⟨t,rfl⟩ r;rfl
 |_=>exact Os (show false=true from f) SO
theorem MV:∀{xs:List V} {us:OB},ZB xs us->xs.all WR=true->us.any (UV x)=xs.any λy=>Ws y x
 |_,_,.nil,_=>rfl
 |y::xs,u::us,.cons r t,f=>by
  rw[List.all_cons,Bool.and_eq_true]at f;rw[List.any_cons,List.any_cons,wA r f.1,MV t f.2]
theorem MW(d:ZL x v)(g:WR x=true):∀{xs:List V} {us:OB},ZB xs us->xs.all WR=true->∀u∈us,SeqAt.EqAt A s u v (UV x u)
 |_,_,.nil,_=>λu c=>by cases c
 |y::xs,u::us,.cons r t,f=>λh c=>by
  rw[List.all_cons,Bool.and_eq_true]at f;rcases SE.mp c with rfl|c;rw[wA r f.1];exact xZ r d f.1 g;exact MW d g t f.2 h c
def Qi(x:V)(xs:List V):Bool:=xs.any λy=>Ws y x
inductive rIn(K:Ox)(neg:Bool)(x:V)(y:V)(H:Hp)(Q:VK):Prop|mk p xs (_:y=.ref p) (_:(Ze K H p xs\/Zk K H p xs)) (_:WR x=true) (_:xs.all WR=true) (_:Q (.bl (if neg then !Qi x xs else Qi x xs)) H)
def G2:YB X (compareOp .In) (rIn X.K false):=by
 intro pins s D H x y v u Q I j C h;ext⟨p,E,rfl,c,i,fs,q⟩ h;cases C;rcases c with c|c;obtain⟨d,r,f,B⟩:=I.list c;erw[SeqAt.in_listAt (UV x) f.isList (λw g=>MW j i r fs w (by simpa using g)) ⟨.bl _,H,I,R,?_⟩];rwa[show d.toArray.any (UV x)=d.any (UV x) by simp,MV r fs];obtain⟨d,r,f,B⟩:=I.tuple c;erw[SeqAt.in_tupleAt (UV x) f (λw g=>MW j i r fs w (by simpa using g)) ⟨.bl _,H,I,R,?_⟩];rwa[show d.toArray.any (UV x)=d.any (UV x) by simp,MV r fs]
def VA:Y4 X (.builtin "len") (λxs H Q=>∃p ys,xs=[.ref p]/\(Ze X.K H p ys\/Zk X.K H p ys)/\Q (.int ys.length) H):=by
 intro pins s v H xs x Q I r h;ext⟨p,ys,rfl,c,q⟩ h;obtain⟨u,rfl,i⟩:=Wq r;cases i;have hn:=Q9;rcases c with c|c;obtain⟨j,f,d,g⟩:=I.list c;have hlen:=f.length;exact Calls.call_len_list d.isList (by simp only[SM]<;>omega) ⟨.int ys.length,H,I.tok _,⟨s.toks+1,by rw[SM,hlen]⟩,q⟩;obtain⟨j,f,d,g⟩:=I.tuple c;have hlen:=f.length;exact len_tuple d (by simp only[SM]<;>omega) ⟨.int ys.length,H,I.tok _,⟨s.toks+1,by rw[SM,hlen]⟩,q⟩
def MX:Y4 X (.builtin "len") (λxs H Q=>∃z,xs=[.str z]/\z.length<=sizeLine/\Q (.int z.length) H):=by
 intro pins s d H xs f Q I r h;ext⟨z,rfl,c,q⟩ h;obtain⟨u,rfl,t,rfl⟩:=Wq r;have hn:=Q9;exact len_str () ⟨.int z.length,H,I.tok _,⟨_,R⟩,q⟩
def VB:Y4 X (.type "list") (λxs H Q=>∃p ys,xs=[.ref p]/\(Ze X.K H p ys\/Zk X.K H p ys)/\∀l,H l=none->Q (.ref l) (Zb H l (.lst ys))):=by
 intro pins s D H xs G Q I r h;ext⟨p,ys,rfl,i,q⟩ h;obtain⟨u,rfl,E⟩:=Wq r;cases E;have C:∀(d:OB),ZB ys d->ys.length<=sizeLine->∀(c:Heap) (g:Nat),(∀b B,s.heap.get? b=some B->c.get? b=some B) ->
   c.get? s.heap.objs.size=some {cls:=.type "list",dict:=none,data:=.seq d.toArray g,slots:=#[]}->EP X pins D Q (.ref s.heap.objs.size) {s with heap:=c}:=λd f j c g kp e =>
  ⟨.ref s.heap.objs.size,_,I.laid (t':=s.toks) kp (Sg _) (show Yi X.prog X.w _ c _ (.lst ys)from⟨j,d,g,f,e⟩),R,q _ (I.hok.fresh (Sg _))⟩
 rcases i with i|i;obtain⟨d,f,v,j⟩:=I.list i;have hlen:=f.length;ext⟨o,y,x,n,hd⟩ v.isList;exact call_list_seq p (.inl R) y x hd (λc g kp e=>C d f j c g kp e) (by simp only[SM]<;>omega);obtain⟨d,f,v,j⟩:=I.tuple i;have hlen:=f.length;ext⟨o,y,x,n,hd⟩ v;exact call_list_seq p (.inr R) y x hd (λc g kp e=>C d f j c g kp e) (by simp only[SM]<;>omega)
def G3:Y4 X (.type "tuple") (λxs H Q=>∃p ys,xs=[.ref p]/\((Ze X.K H p ys/\∀l,H l=none->Q (.ref l) (Zb H l (.tup ys)))\/(Zk X.K H p ys/\Q (.ref p) H))):=by
 intro pins s v H xs C Q I r h;ext⟨p,ys,rfl,h⟩ h;obtain⟨u,rfl,y⟩:=Wq r;cases y;rcases h with⟨d,q⟩|⟨d,q⟩;obtain⟨g,i,f,j⟩:=I.list d;have hlen:=i.length;erw[call_tuple_list f.isList (λc kp=>?_) (by simp only[SM]<;>omega)];have x:Zd X pins v H {s with heap:=c}:=I.kept (t':=s.toks) kp;have B:Zd X pins v (Zb H c.objs.size (.tup ys)) {s with heap:=c.push {cls:=.type "tuple",data:=.seq g.toArray} } :=
  x.laid (t':=s.toks) (λb o e=>Sc _ e) (Sg _) (show Yi X.prog X.w _ _ _ (.tup ys)from⟨j,g,i,IsTup.new _ _⟩)
 exact⟨.ref c.objs.size,_,B,R,q _ (x.hok.fresh (Sg _))⟩;obtain⟨g,i,f,j⟩:=I.tuple d;exact call_tuple_same f ⟨.ref p,H,I,R,q⟩
def MY(K:Ox)(T:String)(x:V)(H:Hp):Prop:=match x with
 |.str _=>T="str"
 |.int _=>T="int"
 |.ref p=>(T="list" /\ ∃d,Ze K H p d)\/(T="tuple" /\ ∃o,K.lookup p=some o/\o.cls=.type "tuple" /\ o.dict=none) \/
   (T="dict" /\ ((∃c,H p=some (.dK c))\/∃c,H p=some (.dT c)))\/(T="set" /\ ∃S n,H p=some (.set S n))
 |_=>False
def wB(I:Zd X pins j H s)(r:ZL x v)(ty:MY X.K T x H) :
  s.TypeIs v T/\∀a,v=.ref a->∃ob,s.heap.get? a=some ob/\ob.dict=none:=by
 cases x with
 |str z =>
  ext⟨t,rfl⟩ r;cases (show T="str" from ty);exact⟨typeIs_str s z t,λ_ e=>nomatch e⟩
 |int i =>
  ext⟨t,rfl⟩ r;cases (show T="int" from ty);exact⟨typeIs_int s i t,λ_ e=>nomatch e⟩
 |ref p =>
  cases r;rcases ty with⟨rfl,B,h⟩|⟨rfl,o,d,y,hd⟩|⟨rfl,d⟩|⟨rfl,S,n,d⟩;obtain⟨C,_,g,_⟩:=I.list h;erw[⟨g.isList.typeIs,λa e=>?_⟩];cases e;ext⟨o,n,e,c,hd,_⟩ g;exact⟨o,e,hd⟩;erw[⟨⟨o,I.kIn p o d,y⟩,λa e=>?_⟩];cases e;exact⟨o,I.kIn _ o d,hd⟩;have z:∃o,s.heap.get? p=some o/\o.ExactDict:=by
   rcases d with⟨u,d⟩|⟨u,d⟩;obtain⟨_,_,_,_,o,_,_,e,ex,_⟩:=I.hok p _ d;exact⟨o,e,ex⟩;obtain⟨_,_,_,_,o,_,_,e,ex,_⟩:=I.hok p _ d;exact⟨o,e,ex⟩
  ext⟨o,e,ex⟩ z;erw[⟨⟨o,e,ex.1⟩,λa f=>?_⟩];cases f;exact⟨o,e,ex.2.1⟩;obtain⟨o,_,_,_,e,ex,_⟩:=I.hok p _ d;erw[⟨⟨o,e,ex.1⟩,λa f=>?_⟩];cases f;exact⟨o,e,ex.2.1⟩
 |_=>exact False.elim ty
def Zea(K:Ox)(T:String)(r:V->List V->Hp->VK->Prop)(to:TE):TE:=λd H Q=>to d H λx c=>MY K T x c/\r x [] c Q
def tBM(K:Ox)(T:String)(r:V->List V->Hp->VK->Prop)(to:TE)(t:TA):TE:=λc H Q=>to c H λx d=>MY K T x d/\t c d λf g=>r x f g Q
variable{o e:Expr}{es:OD}{to:TE}{t:TA}{name:Str}{apos cpos:Pos}{T id:String}{r:V->List V->Hp->VK->Prop}
def MZ(C:PlainAttrs T)(slot:Slot T name id)(g:typeOf (.builtin id)=pure (.type "method_descriptor")) (hm:Lc X id r) (E:PE X o to)
  (j:attributeBase o name X.env (eval o X.env)=eval o X.env:=by rfl) (D:(apos.endLine==cpos.line)=true:=by rfl):PE X (.Call (.Attribute o name apos) [] [] cpos) (Zea X.K T r to):=by
 intro pins s c H Q I h;erw[wpAny_Call_method0_late j D (Zx (E pins s c H _ I h) λv s1 ⟨x,y,d,f,ty,u⟩=>?_)];obtain⟨B,i⟩:=wB d f ty;exact⟨T,id,C,slot,g,B,i,Calls.callWith_builtin R (PySem.evalArgs_none (hm pins s1 c y x [] v [] Q d f .nil u))⟩
def Vi(L:PlainAttrs T)(slot:Slot T name id)(i:typeOf (.builtin id)=pure (.type "method_descriptor")) (hm:Lc X id r) (Z:PE X o to) (ha:PA X (e::es) t)
  (j:attributeBase o name X.env (eval o X.env)=eval o X.env:=by rfl)
  (M:((backTo cpos (starEach (e::es) X.env)).all (λx=>!x.1) && (backToKw cpos (keywordEach [] X.env)).all (λx=>x.1.isSome)
   && decide ((e::es).length+([]:List Keyword).length+(if ([]:List Keyword).isEmpty then 0 else 1)<30))=true:=by rfl)
  (S:(apos.endLine==cpos.line)=true:=by rfl) (U:starEach (e::es) X.env=(false,eval e X.env)::starEach es X.env:=by rfl) (Y:(backTo cpos (starEach es X.env)).any (·.1)=false:=by rfl) :
  PE X (.Call (.Attribute o name apos) (e::es) [] cpos) (tBM X.K T r to t):=by
 intro pins s c H Q I h;erw[wpAny_Call_method_late j M S R (Zx (Z pins s c H _ I h) λv s1 ⟨x,y,g,f,ty,u⟩=>?_)];obtain⟨G,D⟩:=wB g f ty;erw[⟨T,id,L,slot,i,G,D,?_⟩];have d:=ha cpos pins s1 c y _ g u;rw[U]at d ⊢;erw[Calls.callWith_builtin (by show(false || (backTo cpos (starEach es X.env)).any (·.1))=false;rw[Y]<;>rfl) (Calls.evalArgs_plain ?_)];exact Zx d λJ s2 ⟨E,B,P,O,C⟩=>hm pins s2 c B x E v J Q P f O C
end
def wC(X:Cx)(id:String)(r:V->List V->Hp->VK->Prop):Prop :=
 ∀(pins:Ov) (s:Shared) (σ:St) (H:Hp) (x:V) (xs:List V) (v:Value) (us:OB) (Q:VK),Zd X pins σ H s->ZL x v->ZB xs us->r x xs H Q ->
  wpAny (model X.prog X.w) X.A (call (.builtin id) (v::us)) (EP X pins σ Q) X.xe s
theorem ZB.one:∀{x:V} {us:OB},ZB [x] us->∃u,us=[u]/\ZL x u
 |_,_,.cons r .nil=>⟨_,R,r⟩
theorem ZB.zero:∀{us:OB},ZB [] us->us=[]
 |_,.nil=>rfl
theorem ZB.rep(h:ZB xs us):∀k:Nat,ZB (List.replicate k xs).flatten (List.replicate k us).flatten
 |0=>.nil
 |k+1=>by
  rw[List.replicate_succ,List.replicate_succ,List.flatten_cons,List.flatten_cons];exact ZB.append h (ZB.rep h k)
theorem wD(c:OB):∀(k:Nat) (d:OB),
  List.foldl (λg h=>g++h) d.toArray (List.replicate k c.toArray)=(d++(List.replicate k c).flatten).toArray
 |0,d=>by simp
 |k+1,d=>by
  have e:d.toArray++c.toArray=(d++c).toArray:=by simp
  have f:(d++c)++(List.replicate k c).flatten=d++(List.replicate (k+1) c).flatten:=by
   rw[List.replicate_succ,List.flatten_cons,Od]
  rw[<-f,<-wD c k (d++c),<-e,List.replicate_succ,List.foldl_cons]
section
variable{σ:St}{l b:Addr}{xs ys zs:List V}
def Zd.lset{c its':OB}(I:Zd X pins σ H s)(g:H l=some (.lst xs))
  (e:s.heap.get? l=some {cls:=.type "list",data:=.seq c.toArray n}) (j:f c.toArray=its'.toArray) (i:ZB ys its') (h:ys.length<=sizeLine) :
  Zd X pins σ (Zb H l (.lst ys)) {s with heap:=s.heap.update l (Obj.mapSeq f),toks:=t'}:=by
 have q:=PySem.IsL.update e f;rw[j]at q;erw[I.write (x:=l) (e:=l) (by rw[g];exact trivial) (.inl R) (λy u v d=>(Heap.get?_update_other s.heap (Obj.mapSeq f) (Ne.symm v)).trans d) ⟨_,q⟩ ?_];exact⟨h,its',_,i,q⟩
def Zd.lnew{c:OB}(I:Zd X pins σ H s)(d:ZB ys c)(hz:ys.length<=sizeLine) :
  Zd X pins σ (Zb H s.heap.objs.size (.lst ys)) {s with heap:=s.heap.push {cls:=.type "list",data:=.seq c.toArray},toks:=t'} :=
 I.laid (λ_ _ q=>Sc _ q) (Sg _) ⟨hz,c,0,d,Sd _ R⟩
def Zd.fresh(I:Zd X pins σ H s):H s.heap.objs.size=none:=I.hok.fresh (Sg _)
def Zd.lstM(I:Zd X pins σ H s)(d:H l=some (.lst xs)):xs.length<=sizeLine/\∃(c:OB) (n:Nat),ZB xs c/\xs.length=c.length/\s.heap.get? l=some {cls:=.type "list",data:=.seq c.toArray n}:=by
 obtain⟨z,c,n,r,e⟩:=I.hok l _ d;exact⟨z,c,n,r,r.length,e⟩
def Zeb(h:n<=sizeLine):Builtin.List.listTooLong n=false:=by
 unfold Builtin.List.listTooLong;exact SR ()
end
inductive Zec(x:V)(vs:List V)(H:Hp)(Q:VK):Prop|mk l xs y (_:x=.ref l) (_:vs=[y]) (_:H l=some (.lst xs)) (_:xs.length<sizeLine) (_:Q .non (Zb H l (.lst (xs++[y]))))
def VC:wC X "list.append" Zec:=by
 intro pins s C H x j v E Q I g f h;ext⟨l,D,y,rfl,rfl,c,B,q⟩ h;cases g;ext⟨u,rfl,ru⟩ f.one;obtain⟨z,d,n,r,i,e⟩:=I.lstM c;erw[call_meets F.slot_list_append ⟨_,e,R⟩ F.entry_list_append (F.args_list_append_2 _ _) (PySem.list_append l d.toArray n u (by rw[SM];lia)) ⟨e,?_⟩];erw[⟨.non,_,I.lset (its':=d++[u]) c e (by simp) (r.append (.cons ru .nil)) ?_,R,q⟩];rw[Su,Sw];lia
inductive Zed(x:V)(vs:List V)(H:Hp)(Q:VK):Prop|mk l xs (_:x=.ref l) (_:vs=[]) (_:H l=some (.lst xs)) (_:Q .non (Zb H l (.lst [])))
def wE:wC X "list.clear" Zed:=by
 intro pins s y H x u v C Q I g f h;ext⟨l,B,rfl,rfl,c,q⟩ h;cases g;have i:=f.zero;subst i;obtain⟨z,d,n,r,j,e⟩:=I.lstM c;erw[call_meets F.slot_list_clear ⟨_,e,R⟩ F.entry_list_clear (F.args_list_clear_1 _) (AutoSeq1.list_clear_list_0 l d.toArray n (by rw[SM];lia)) ⟨e,?_⟩];exact⟨.non,_,I.lset (its':=[]) (ys:=[]) c e R .nil (Sk _),R,q⟩
inductive Ld(x:V)(y:V)(H:Hp)(Q:VK):Prop|mk l b xs zs (_:x=.ref l) (_:y=.ref b) (_:H l=some (.lst xs)) (_:H b=some (.lst zs)) (_:xs.length+zs.length<=sizeLine) (_:∀p,H p=none->Q (.ref p) (Zb H p (.lst (xs++zs))))
def XX:YB X (binaryOp .Add) Ld:=by
 intro pins s O H x y v u Q I g i h;ext⟨l,b,L,zs,rfl,rfl,f,j,J,q⟩ h;cases g;cases i;obtain⟨z,d,n,r,G,e⟩:=I.lstM f;obtain⟨E,c,S,B,M,D⟩:=I.lstM j;erw[PySem.P.add_list e D ?_ (by rw[SM,SM];lia)];have C:d.toArray++c.toArray=(d++c).toArray:=by simp
 rw[C];exact⟨.ref _,_,I.lnew (t':=s.toks) (r.append B) (by rw[Su];lia),R,q _ I.fresh⟩
inductive G4(x:V)(y:V)(H:Hp)(Q:VK):Prop|mk l k xs (_:x=.ref l) (_:y=.int k) (_:H l=some (.lst xs)) (_:-(2 ^ 63)<=k) (_:k<2 ^ 63) (_:xs.length*k.toNat<=sizeLine) (_:∀p,H p=none->Q (.ref p) (Zb H p (.lst (List.replicate k.toNat xs).flatten)))
def Zee{c:Type}(xs:List c)(k:Nat):(List.replicate k xs).flatten.length=k*xs.length:=by
 induction k with
 |zero=>simp
 |succ k d=>rw[List.replicate_succ,List.flatten_cons,Su,d,Nat.succ_mul,Nat.add_comm]
def X8:YB X (binaryOp .Mult) G4:=by
 intro pins s Z H x y v u Q I M L h;ext⟨l,k,S,rfl,rfl,E,D,C,g,q⟩ h;cases M;ext⟨t,rfl⟩ L;obtain⟨z,c,n,r,B,e⟩:=I.lstM E;have hlen:c.toArray.size*k.toNat<=sizeLine:=by rwa[SM,<-B]
 have P:¬ c.toArray.size*k.toNat>(2 ^ 63 - 1)/8:=by
  have:(sizeLine:Nat)<=(2 ^ 63 - 1)/8:=by lia
  lia
 have G:¬ (!Builtin.List.listFitsIndex k)=true:=by
  rw[fitsIndex_both D C];exact SO
 have J:¬ Builtin.List.listTooLong (c.toArray.size*k.toNat)=true:=by
  rw[Zeb hlen];exact SO
 have i:List.foldl (λf d=>f++d) #[] (List.replicate (if c.toArray.isEmpty=true then 0 else k.toNat) c.toArray)=(List.replicate k.toNat c).flatten.toArray:=by
  have j:∀m:Nat,List.foldl (λf d=>f++d) #[] (List.replicate m c.toArray)=(List.replicate m c).flatten.toArray:=λm=>by
   have:=wD c m [];rw[List.nil_append]at this;exact this
  rw[j];cases c with
  |nil=>simp
  |cons a Y=>rw[SV (by simp)]
 refine wpAny_binaryOp_repeat_ref (T := "list") (U := "int") () ⟨_,e,R⟩ (λO=>typeIs_int O k t) noFill_list_mul F.fills_int_mul F.slot_int_rmul repeat_list F.slot_int_index.lookup
  (call_meets F.slot_int_rmul (typeIs_int s k t) F.entry_int_rmul (F.args_int_rmul_2 _ _) (int___rmul___int_list k t l c.toArray n)
   ⟨e,R,⟨_,e,R⟩,call_meets F.slot_list_mul ⟨_,e,R⟩ F.entry_list_mul (F.args_list_mul_2 _ _) (AutoListH.list___mul___list_int_3 l c.toArray n k t G P J) ⟨e,?_⟩⟩)
 rw[i];exact⟨.ref _,_,I.lnew (t':=s.toks) (r.rep k.toNat) (by rwa[Zee,Nat.mul_comm]),R,q _ I.fresh⟩
section
set_option maxRecDepth 100000 in
end
end L2
namespace Att
open PySem PySem.W PySem.Calls PyProof.Rows
def Zef{P:Params}:∀(ns:List Int) (vs:List Value),WellAll P h vs (ns.map WData.int)->IntsAre vs ns:=by
 intro ns;induction ns with
 |nil =>
  intro vs w;rw[List.map_nil]at w;cases w;exact .nil
 |cons n ns c =>
  intro vs w;rw[List.map_cons]at w;cases w with
  |cons a b =>
   cases a;exact .cons _ _ (c _ b)
def Zeg{l:OpenLaw}(hn:l.most=some n){P:Params}{h:Heap}{args:List WData}{vals:List Value}
  (g:l.row.toRowW.claim.pre args=true) (D:WellAll P h vals args) :
  ∃a vs ns,vals=[Value.ref a]/\args=[WData.list (ns.map WData.int)]/\h.get? a=some {cls:=.type "list",data:=.seq vs.toArray}/\IntsAre vs ns/\ns.length<=n:=by
 have x:WShape.hasAll [] args [.list .int]=true:=(pre_splitW g).1;have i:l.pre.holds [] {args:=args} = true:=(pre_splitW g).2;obtain⟨d,r,rfl,v,u⟩:=hasAllW_cons x;obtain rfl:=hasAllW_nil u;obtain⟨H,rfl,y⟩:=hasW_list v;obtain⟨ns,rfl⟩:=items_int y;have hlen:ns.length<=n:=by
  unfold OpenLaw.pre at i;have f:(WTm.not (.lt (.lit (.int (n:Int))) (.len (.arg 0)))).holds [] {args:=[.list (ns.map .int)]} = true:=by
   have f:=(holds_andW i).1;rw[hn]at f;exact f
  have c:=condW_of f (w_not (w_lt w_lit (w_len_list (w_arg rfl))));rw[List.length_map]at c;erw[Nat.le_of_not_lt λq=>?_];have B:(n:Int)<((ns.length:Nat):Int):=by lia
  first
   |(rw[decide_eq_true B]at c;exact absurd c ())
   |(simp at c;lia)
 cases D with
 |cons E j =>
  cases j;cases E with
  |list G C=>exact⟨_,_,ns,rfl,rfl,G,Zef ns _ C,hlen⟩
def Zeh(l:OpenLaw)(args:List WData):l.row.toRowW.claim.post args (.bool true) args=true :=
 postW_of (r:=l.row.toRowW) (X:=(true==true))
  (show WShape.has [] (.bool true) .bool=true by first|rfl|decide|simp[WShape.has,WShape.arms,WShape.armsAll])
  (show(WTm.eq .res (.lit (.bool true))).value [] {args:=args,res:=some (.bool true),after:=args} = some (.bool (true==true))from w_eq_bool (w_res rfl) w_lit) rfl
def attach_call{l:OpenLaw}{loose:List Str}{d:DefRec}
  (hn:l.most=some n) (B:d.params.defaults=[])
  (call:∀(w:World) (s₀ c:Shared) (mg i:Str->Option Value) (g:Addr) (o:Obj) (pm cd j:Value) (a:Addr) (vs:List Value) (ns:List Int),
   Ground q loose [] v w s₀ mg i c.heap->x w c.heap ->
   c.heap.get? g=some o->o.data=.func (docDef d.name d.params d.body d.scope pm cd j)->c.heap.CodeRec cd d.name->mg d.name=some (.ref g) ->
   c.heap.get? a=some {cls:=.type "list",data:=.seq vs.toArray}->IntsAre vs ns->ns.length<=n->c.gens=#[] ->
   codeAny (model l.prog w) callerA (.call (.ref g) ⟨[.ref a],[]⟩) (λr h=>r=.ok (.ret (.bool true))/\OldK c.heap h.heap/\h.os=c.os/\AllBare h.gens) c) :
  WalkO q loose v x l.row.toRowW d [] (λf vs=>PySem.call f vs):=by
 intro w s₀ c mg i G Y g o pm cd j L kV Q hd P u C J args vals U D T X M S;obtain rfl:L=.none:=Dflts.none u B;obtain rfl:kV=.none:=Dflts.noKw u;obtain⟨a,vs,ns,rfl,rfl,O,hints,hlen⟩:=Zeg hn D M;erw[enter_call (codeAny_mono (call w s₀ c mg i g o pm cd j a vs ns G Y Q (fd_plain hd) P C O hints hlen J) λr h y=>?_)];ext⟨rfl,E,I,H⟩ y;exact⟨.inl ⟨.bool true,.bool true,[],rfl,λ_=>rfl,.bool true,Zeh l _,λ_=>⟨List.Pairwise.nil,()⟩⟩,E,I,H⟩
end Att
namespace L2
open PySem PySem.Spec PyProof.Rows
theorem wF:∀{vs:OB} {ns:OE},IntsAre vs ns->ZB (ns.map V.int) vs
 |_,_,.nil=>.nil
 |_,_,.cons n t h=>.cons ⟨t,R⟩ (wF h)
abbrev wG(_:K.In h):W.Frag:=K
def Z8(s:Stmt)(j:Nat):Stmt:=match s with
 |.ClassDef _ _ _ body _ _ _ _ _ _ _=>body.getD j (.Pass ⟨0,0,0,0⟩)
 |_=>.Pass ⟨0,0,0,0⟩
def QI(s:Stmt):Arguments:=match s with
 |.FunctionDef _ a _ _ _ _ _ _ _ _=>a
 |_=>{posonlyargs:=[],args:=[],vararg:=none,kwonlyargs:=[],kw_defaults:=[],kwarg:=none,defaults:=[]}
def Uy(s:Stmt):List Stmt:=match s with
 |.FunctionDef _ _ b _ _ _ _ _ _ _=>b
 |_=>[]
def Zz(s:Stmt):Scope:=match s with
 |.FunctionDef _ _ _ _ _ _ c _ _ _=>c
 |_=>{kind:=.function,names:=[],isGenerator:=false,isCoroutine:=false}
abbrev Zv:X7:=λ_ _ _ _ _ _=>False
abbrev E0:XK:=λ_ _ _=>False
def Zu:WJ Zv X E0:=λ_ _ _ _ _ _ _ h=>h.elim
structure WS(K:Ox)(x qual:Str)(st:Stmt)(f:Addr)(fd:OJ):Prop where
 ex:∃(oc:Value) (od:OF) (kV doc pm:Value) (an:OF) (cdv ct:Value) (osl:Oz),
  fd=W.fnOf x qual (QI st) (Uy st) (Zz st) .none kV doc pm an cdv ct/\K.lookup f=some ⟨oc,od,.func fd,osl⟩/\W.codeIn K cdv qual=true
 kp:W.keepIn K (.ref f)=true
def WS.ok{x qual:Str}{st:Stmt}{f:Addr}{g:OJ}{N d:OC}{k:Nat}{sp:Sp}(F:WS K x qual st f g)(S:ZE N d (Zz st))(len:∀vs H Q E,sp vs H Q E->vs.length=d.length)
  (v:∀(c:Value) (A:Around) (outer:List Env) (s:Shared) (H:Hp) (vs:List V) (Q:VK) (E:XK),Yn k (A.deeper (envOfC qual (Zz st) s.heap.objs.size f c))->sp vs H Q E ->
   ∃t,XV (Vz Zv P w K mg base N qual (Zz st) f c A outer s H E).nox (Uy st) t/\t {nx:=λ_ y=>Q .non y,rt:=Q} (Ux N vs) H):Zp P w K mg base Zv (k+1) f g d sp:=by
 ext⟨D,C,kV,I,pm,G,c,ct,J,rfl,j,i⟩ F.ex;erw[MR j i S len λA outer s H vs Q E B u=>?_];obtain⟨t,h,q⟩:=v c A outer s H vs Q E B u;exact⟨t,h.nox,q⟩
def WS.binds{x qual:Str}{st:Stmt}{f:Addr}{j:OJ}{c:OC}(F:WS K x qual st f j)
  (h:∀(kV d pm:Value) (i:OF) (g ct:Value) (us:OB),us.length=c.length->bindArgs (W.fnOf x qual (QI st) (Uy st) (Zz st) .none kV d pm i g ct) ⟨us,[]⟩=pure (c.zip us)):XF K j c []:=by
 ext⟨v,u,kV,d,pm,i,g,ct,C,rfl,B,y⟩ F.ex;exact .all (h kV d pm i g ct)
def wH{x qual:Str}{st:Stmt}{f:Addr}{j:Value}{i h:OF}{u:Oz}{kV g pm d ct:Value}(l:K.lookup f=some ⟨j,i,.func (W.fnOf x qual (QI st) (Uy st) (Zz st) .none kV g pm h d ct),u⟩)
  (c:W.codeIn K d qual=true) (k:W.keepIn K (.ref f)=true):WS K x qual st f (W.fnOf x qual (QI st) (Uy st) (Zz st) .none kV g pm h d ct):=⟨⟨j,i,kV,g,pm,h,d,ct,u,R,l,c⟩,k⟩
def W3(c:Yn k A):A.units+1<cLine:=Sj (Nat.add_le_add_left (():1<=64) _) c.units
def pv(i:Nat)(f:X.N[i]? = some x:=by rfl)(c:E9 X.env.scope x:=by first|exact Or.inl rfl|exact Or.inr (Or.inl rfl)|exact Or.inr (Or.inr rfl))(hd:(x==("__debug__" : Str))=false:=by lia)
  (g:(x==("__classdict__" : Str))=false:=by lia):PE X (.Name x d) (U9 i):=yK f c hd g
def Xs{c A B:Prop}[Decidable c](h1:c->A)(d:¬ c->B):if c then A else B:=by
 by_cases h:c;rw[SW h];exact h1 h;rw[SV h];exact d h
def Zc(H c:Hp):Prop:=∀b o,H b=some o->c b=some o
def Zc.refl(H:Hp):Zc H H:=λ_ _ h=>h
def Zc.trans(a:Zc H f)(b:Zc f d):Zc H d:=λc o h=>b c o (a c o h)
def Zc.free(e:Zc H c)(h:c l=Option.none):H l=Option.none:=by
 cases q:H l with
 |none=>rfl
 |some o =>
  rw[e l o q]at h;cases h
def Zc.seq{c:Hp}{a:Addr}{xs:List V}(e:Zc H c)(h:Ze K H a xs):Ze K c a xs:=by
 rcases h with(h|⟨o,h⟩)|h;exact .inl (.inl (e _ _ h));exact .inl (.inr ⟨o,e _ _ h⟩);exact .inr h
def Yi.has{h:Heap}(x:Yi P w H h a o):∃u,h.get? a=some u:=by
 cases o with
 |lst c=>ext⟨_,_,_,_,q⟩ x;exact⟨_,q⟩
 |tup c=>ext⟨_,_,_,ob,q,_⟩ x;exact⟨ob,q⟩
 |dK d=>ext⟨_,_,_,_,ob,_,_,q,_⟩ x;exact⟨ob,q⟩
 |dT d=>ext⟨_,_,_,_,ob,_,_,q,_⟩ x;exact⟨ob,q⟩
 |set S n=>ext⟨ob,_,_,_,q,_⟩ x;exact⟨ob,q⟩
 |ins C i fs=>ext⟨_,_,_,q,_⟩ x;exact⟨_,q⟩
 |own y=>ext⟨ob,q⟩ x;exact⟨ob,q⟩
 |xd fs=>ext⟨_,⟨ob,_,_,q,_⟩,_⟩ x;exact⟨ob,q⟩
 |rng lo j=>ext⟨_,_,_,q⟩ x;exact⟨_,q⟩
 |frz ob u=>ext⟨q,_⟩ x;exact⟨_,q⟩
 |tbl g=>exact⟨_,(show h.get? a=some _ from x)⟩
 |met f y=>exact⟨_,(show h.get? a=some _ from x)⟩
 |ext v=>ext⟨_,⟨ob,q⟩,_⟩ x;exact⟨ob,q⟩
def VD(h:Heap)(e:Addr):Prop:=∃ob c,h.get? e=some ob/\ob.data=.fields c/\c[2]? = some .none
def KC{c:Type}(x:Sem c):Prop:=∀(M:Model) (Γ:PySem.Ctx) (Q:c->Pos->Shared->Prop) (E:Value->Pos->Shared->Prop) (p:Pos) (s:Shared) (e:Addr),VD s.heap e->Sem.wp M Γ x Q E p s ->
 Sem.wp M Γ x (λa p s=>Q a p s/\VD s.heap e) (λv p s=>E v p s/\VD s.heap e) p s
section
variable{α β:Type}
def KC.bind(d:KC x)(g:∀a,KC (f a)):KC (x >>= f):=λM c Q E p s e n h=>by
 rw[Sem.wp_bind']at h ⊢;exact Sem.wp_mono M c x (λa p s q=>g a M c Q E p s e q.2 q.1) (λ_ _ _ q=>q) p s (d M c _ _ p s e n h)
def KC.pure(a:α):KC (Pure.pure a:Sem α):=λM c Q E p s e n h=>by
 rw[Sem.wp_pure']at h ⊢;exact⟨h,n⟩
def KC.uns(c:String):KC (.unsupported c:Sem α):=λM d Q E p s e n h=>by
 rw[Sem.wp_unsupported]at h;exact h.elim
def KC.load(a:Addr):KC (PySem.load a):=λM f Q E p s e n h=>by
 unfold PySem.load at h ⊢;rw[Sem.wp_load]at h ⊢;ext⟨o,d,c⟩ h;exact⟨o,d,by rw[Sem.wp_pure]at c ⊢;exact⟨c,n⟩⟩
def KC.stack:KC PySem.stack:=λM c Q E p s e n h=>by
 unfold PySem.stack at h ⊢;rw[Sem.wp_stack]at h ⊢;rw[Sem.wp_pure]at h ⊢;exact⟨h,n⟩
def KC.alloc(o:Obj):KC (PySem.alloc o):=λM d Q E p s e n h=>by
 unfold PySem.alloc at h ⊢;rw[Sem.wp_alloc]at h ⊢;rw[Sem.wp_pure]at h ⊢;ext⟨ob,c,q,r⟩ n;exact⟨h,ob,c,Sc _ q,r⟩
def KC.update(u:∀o vs,o.data=.fields vs->vs[2]? = some .none->∃g,(f o).data=.fields g/\g[2]? = some .none):KC (PySem.update a f):=λM x Q E p s e n h=>by
 unfold PySem.update at h ⊢;rw[Sem.wp_update]at h ⊢;erw[⟨h.1,?_⟩];have j:=h.2;rw[Sem.wp_pure]at j ⊢;erw[⟨j,?_⟩];ext⟨ob,vs,q,d,c⟩ n;by_cases z:a=e;subst z;obtain⟨g,i,v⟩:=u ob vs d c;exact⟨f ob,g,Heap.get?_update_self f q (Obj.isFreed_of_fields i),i,v⟩;exact⟨ob,vs,(Heap.get?_update_other _ f z).trans q,d,c⟩
def KC.iff{c:Prop}[Decidable c](f:KC x)(d:KC y):KC (if c then x else y):=by
 split;exact f;exact d
def Zei(v:Value):KC (fieldsOf v):=by
 unfold fieldsOf;split;erw[KC.bind (KC.load _) λo=>?_];split;exact KC.pure _;exact KC.uns _;exact KC.uns _
def Le(v:Value)(i:Nat):KC (field v i):=by
 unfold field;erw[KC.bind (Zei v) λc=>?_];split;exact KC.pure _;exact KC.uns _
def M0(v:Value)(i:Nat)(x:Value)(hi:i≠2):KC (setField v i x):=by
 unfold setField;split;unfold updateField;erw[KC.bind (KC.load _) λo=>?_];split;erw[KC.iff (KC.update λo f d c=>?_) (KC.uns _)];exact⟨_,Obj.data_mapFields d _,by rwa[Array.getElem?_setIfInBounds_ne hi]⟩;exact KC.uns _;exact KC.uns _
def Zej(v:Value)(f:OF):KC (setFlight v f):=by
 unfold setFlight;erw[KC.bind (Le v 1) λc=>?_];exact KC.iff (M0 _ 3 _ ()) (KC.pure _)
def Zek(env:Env)(outer:List Env):KC (behindIsImport env outer):=by
 unfold behindIsImport;erw[KC.iff (KC.pure _) (KC.iff (KC.pure _) (KC.bind (Le _ _) λ_=>KC.pure _))]
def Zel(env:Env)(c:Bool)(l:List Env):KC (keptBack env c l):=by
 unfold keptBack;split;erw[KC.iff (KC.pure _) (KC.bind ?_ λ_=>KC.pure _)];unfold underTheClaimsCaller;exact KC.bind KC.stack λ_=>KC.pure _;exact KC.pure _
theorem wI:∀l:List Env,KC (readyFrames l)
 |[]=>by unfold readyFrames;exact KC.pure _
 |env::outer=>by
  unfold readyFrames;split;erw[KC.bind (KC.load _) λo=>KC.iff (KC.pure _) ?_];erw[KC.bind (Zek _ _) λf=>KC.bind (Zel _ _ _) λbk=>KC.bind (KC.update λo vs d c=>⟨vs,d,c⟩) λ_=>wI outer];exact KC.uns _
def Zem(env:Env):KC (PySem.frameOf env):=by
 unfold PySem.frameOf;erw[KC.bind (KC.bind KC.stack λ_=>KC.pure _) λl=>KC.bind ?_ λr=>?_];unfold frameObject;split;exact KC.pure _;exact KC.bind (wI _) λ_=>KC.pure _;split;exact KC.pure _;exact KC.uns _
def Zen(f:Addr)(b:Bool):KC (entryPlaceOf f b):=by
 unfold entryPlaceOf;erw[KC.bind KC.stack λl=>?_];split;exact KC.pure _;exact KC.pure _
def Zeo(a b c d e:Value)(l:OB):KC (EntryCells.newEntry a b c d e l):=by
 unfold EntryCells.newEntry newFields newObj;have k:∀d:Data,KC (newObjAsIs (.type "traceback") d):=λd=>by
  unfold newObjAsIs;exact KC.bind (KC.alloc _) λ_=>KC.pure _
 exact KC.iff (KC.bind (KC.uns _) λ_=>k _) (k _)
def Zep(e:Value)(env:Env):KC (noteFrame e env):=by
 unfold noteFrame;split;erw[KC.bind (Le _ _) λhead=>?_];have tl:∀f hd,KC (do let b <-PySem.frameOf env;let d <-entryPlaceOf f hd;let c <-EntryCells.newEntry head b .none (rawInt f) .none d;setField e 1 c):=λf hd =>
  KC.bind (Zem _) λ_=>KC.bind (Zen _ _) λ_=>KC.bind (Zeo _ _ _ _ _ _) λ_=>M0 _ 1 _ ()
 erw[KC.iff (KC.bind (Le _ _) λx=>KC.iff (KC.pure _) (KC.bind (M0 _ 3 _ ()) λ_=>tl _ _)) (tl _ _)];exact KC.uns _
def M3(env:Env)(e:Value):KC (leaving env e):=by
 unfold leaving;exact KC.bind (Zep _ _) λ_=>Zej _ _
def KC.any0(k:KC x)(n:VD s.heap e)(h:wpAny M A x Q E s) :
  wpAny M A x (λa s=>Q a s/\VD s.heap e) (λv s=>E v s/\VD s.heap e) s:=λc p d=>k M c _ _ p s e n (h c p d)
def KC.any{p:Prop}(k:KC x)(n:p->VD s.heap e)(h:wpAny M A x Q E s) :
  wpAny M A x (λa s=>Q a s/\(p->VD s.heap e)) (λv s=>E v s/\(p->VD s.heap e)) s:=by
 by_cases z:p;exact Oq (k.any0 (n z) h) (λ_ _ q=>⟨q.1,λ_=>q.2⟩) λ_ _ q=>⟨q.1,λ_=>q.2⟩;exact Oq h (λ_ _ q=>⟨q,λy=>Os y z⟩) λ_ _ q=>⟨q,λy=>Os y z⟩
theorem KC.with{M:Model}{x:Sem Unit}{Q:OA}{e:Addr}{p:Prop}{W:Heap->Prop}(k:KC x)(n:p->VD s.heap e)
  (h:wpAny M A x (λ_ s'=>∃h',s' = {s with heap:=h'}/\W h') (λ_ _=>False) s) (c:∀h',W h'->(p->VD h' e)->Q Unit.unit {s with heap:=h'}):wpAny M A x Q E s :=
 Oq (k.any n h) (λ_ s' ⟨⟨h',z,w⟩,d⟩=>by subst z;exact c h' w d) λ_ _ z=>z.1.elim
end
def M4(l:List Env)(g:Heap)(H:Hp)(a:Addr)(C:Value)(h:Heap):Prop :=
 ∃(B:Heap) (t:Addr),Heap.FlyingW B l a C (.ref t) h/\H a=none /\
  ∀b o,h.get? b=some o->((∃u,g.get? b=some u)\/∃u,H b=some u)->b∉Yp l->B.get? b=some o
def YC(P:Program)(w:World):X7:=λouter H s E e c =>
 ∃(a:Addr) (C:Value) (H':Hp),e=.ref a/\c.os=s.os/\AllBare c.gens/\Un (Yp outer) [] H H' s.heap c.heap/\Yf P w H' c.heap/\M4 outer s.heap H' a C c.heap/\∃o:Option Addr,(o=none->VD c.heap a)/\E C o H'
def Zeq{env:Env}{outer:List Env}(d:env.frame=some L)(f:b∈Yp (env::outer)):b=L\/b∈Yp outer:=by
 obtain⟨e,c,q⟩:=List.mem_filterMap.mp f;rcases SE.mp c with rfl|c;rw[d]at q;exact .inl (So q).symm;exact .inr (List.mem_filterMap.mpr ⟨e,c,q⟩)
def Lf{outer:List Env}(d:b∈Yp outer):b∈Yp (env::outer):=by
 obtain⟨e,c,q⟩:=List.mem_filterMap.mp d;exact List.mem_filterMap.mpr ⟨e,SB _ c,q⟩
def M5{env:Env}{outer:List Env}{g h1 B : Heap}
  (Q:env.frame=some L) (Y:g.get? L=none) (U:Un (Yp outer) [] H f g h1) (ok:Yf P w f h1) (frf:∀b∈Yp (env::outer),f b=none)
  (frd:∀b∈Yp outer,∀o,h1.get? b=some o->∀vs,o.data≠.fields vs)
  (M:∀b o,h1.get? b=some o->((∃u,g.get? b=some u)\/∃u,f b=some u)->b∉Yp (env::outer)->B.get? b=some o)
  (I:Heap.FlyingW B outer a C (.ref t) j) (ha:f a=none) (up:h1.UpToSlots j):Un (Yp outer) [] H f g j/\Yf P w f j/\M4 outer g f a C j:=by
 have stay:∀b o,h1.get? b=some o->((∃u,g.get? b=some u)\/∃u,f b=some u)->b∉Yp outer->j.get? b=some o/\B.get? b=some o:=λb o e d hn=>by
  have nf:b∉Yp (env::outer):=λz=>by
   rcases Zeq Q z with rfl|T;rcases d with⟨u,q⟩|⟨u,q⟩;rw[Y]at q;cases q;rw[frf _ z]at q;cases q;exact hn T
  have q:=M b o e d nf;exact⟨I.1 b o q,q⟩
 have nx:([]:OH)=[]:=rfl;have i:∀b:Addr,b∉([]:OH):=λb z=>nomatch z;have track:∀b u,f b=some u->b∉Yp outer:=λb u q z=>by
  rw[frf b (Lf z)]at q;cases q
 erw[⟨⟨λb o e n d i=>?_,λb o e n d i=>?_,U.free,λb o e i=>?_,U.tups,U.frzs,U.tbls⟩,λb u q=>?_,B,t,I,ha,λb o e d hn=>?_⟩];exact(stay b o (U.keep b o e n d i) (.inl ⟨o,e⟩) d).1;obtain⟨Z,h⟩:=U.slot b o e n d i;obtain⟨G,y⟩:=up b _ h (frd b d _ h);exact⟨G,y⟩;obtain⟨x,h⟩:=U.there b o e i;by_cases d:b∈Yp outer;obtain⟨G,y⟩:=up b _ h (frd b d _ h);exact⟨_,y⟩;exact⟨x,(stay b x h (.inl ⟨o,e⟩) d).1⟩;erw[(ok b u q).stay (λc v E e=>?_) (λ_ z=>z) λ_ _ z=>z];have S:∃D,f c=some D:=by
  rcases E with rfl|E;exact⟨u,q⟩;exact⟨_,E⟩
 ext⟨D,J⟩ S;exact(stay c v e (.inr ⟨D,J⟩) (track c D J)).1;have O:∃x,h1.get? b=some x:=by
  rcases d with⟨u,q⟩|⟨u,q⟩;exact U.there b u q (i b);exact(ok b u q).has
 ext⟨x,h⟩ O;obtain⟨y,X⟩:=stay b x h d hn;rw[e]at y;cases y;exact X
def wJ(X:Cx)(E:XK):Prop:=∀(pins:Ov) (σ:St) (H:Hp) (s:Shared) (a:Addr) (C:Value) (vs:OB) (h':Heap),Zd X pins σ H s->Heap.MadeExcOf s.heap h' a C vs->E C none H->X.xe (.ref a) {s with heap:=h'}
section
variable{N:OC}{qual:Str}{f:Addr}{cd:Value}{outer:List Env}{E:XK}
def Zd.frd(I:Zd X pins g H s):∀b∈Yp X.stack,∀o,s.heap.get? b=some o->∀vs,o.data≠.fields vs:=λb h o e=>by
 obtain⟨_,i,c,d⟩:=I.stack.mem h;rw[e]at c;cases c;exact d
def Zd.hasNo(I:Zd X pins c H s)(e:s.heap.get? a=none):H a=none:=by
 cases q:H a with
 |none=>rfl
 |some u =>
  obtain⟨o,z⟩:=(I.hok a u q).has;rw[e]at z;cases z
def Vj:wJ (Vz (YC P w) P w K mg base N qual scope f cd A outer s H E) E:=by
 intro pins T v s1 a C Q J I d y;have M:∀env∈(envOfC qual scope s.heap.objs.size f cd::outer),∀b,env.frame=some b->b∈Yp (envOfC qual scope s.heap.objs.size f cd::outer):=λenv O b i=>List.mem_filterMap.mpr ⟨env,O,i⟩;have D:(A.deeper (envOfC qual scope s.heap.objs.size f cd)).frames=some (envOfC qual scope s.heap.objs.size f cd::outer):=I.ok.frames;have sn:s.heap.get? s.heap.objs.size=none:=Heap.get?_none_of_le (Sg _);ext⟨S,G,_,_⟩ d.there;refine KC.with (p:=True) (e:=a) (W:=λc=>∃t,Heap.FlyingW (PySem.W.hideAll s1.heap (Yp (envOfC qual scope s.heap.objs.size f cd::outer))) outer a C (.ref t) c/\J.UpToSlots c) (M3 _ _) (λ_=>⟨_,_,G,R,R⟩)
  (wpAny_leaves_madeW (L:=s.heap.objs.size) (base:=PySem.W.hideAll s1.heap (Yp (envOfC qual scope s.heap.objs.size f cd::outer))) (h:=s1.heap) D R (λb o q=>PySem.W.of_hideAll _ q) (PySem.W.funFrames_hide I.stack M) d λc t g _ _ up=>⟨c,R,t,g,up⟩) λc ⟨t,g,up⟩ x=>?_
 have frd:=I.frd;obtain⟨u,B,j⟩:=M5 (P:=P) (w:=w) (L:=s.heap.objs.size) (h1:=s1.heap) R sn I.base I.hok I.stkFree (λb i o e=>frd b (Lf i) o e) (λb o e _ hn=>PySem.W.hideAll_get _ e hn) g (I.hasNo d.new) ((Heap.UpToSlots.of_keeps d.keeps).trans up);exact⟨a,C,v,R,I.os,I.bare,u,B,j,none,λ_=>x trivial,y⟩
def Xd:WJ (YC P w) (Vz (YC P w) P w K mg base N qual scope f cd A outer s H E) E:=by
 intro pins Q T s1 e i I S;ext⟨a,C,v,rfl,os,bare,un,hok,⟨B,t,O,ha,x⟩,o,h,G⟩ S;have c:Zd (Vz (YC P w) P w K mg base N qual scope f cd A outer s H E) pins Q v i:=I.call' os un hok bare λb z=>nomatch z;have M:(A.deeper (envOfC qual scope s.heap.objs.size f cd)).frames=some (envOfC qual scope s.heap.objs.size f cd::outer):=I.ok.frames;have sn:s.heap.get? s.heap.objs.size=none:=Heap.get?_none_of_le (Sg _);erw[KC.with (e:=a) (W:=λd=>Heap.FlyingW B outer a C (.ref t) d/\i.heap.UpToSlots d) (M3 _ _) h (wpAny_leaves_onW (L:=s.heap.objs.size) M R O λd g up=>⟨d,R,g,up⟩) λd ⟨g,up⟩ h=>?_];have frd:=c.frd;obtain⟨D,J,y⟩:=M5 (P:=P) (w:=w) (L:=s.heap.objs.size) (h1:=i.heap) R sn c.base c.hok c.stkFree (λb j o e=>frd b (Lf j) o e) (λb o e j hn=>x b o e (j.imp (λ⟨u,q⟩=>I.base.there b u q λz=>nomatch z) id) hn) g ha up;exact⟨a,C,v,R,c.os,c.bare,D,J,y,o,h,G⟩
end
def WS.okX{x qual:Str}{st:Stmt}{f:Addr}{g:OJ}{N d:OC}{k:Nat}{sp:Sp}(F:WS K x qual st f g)(S:ZE N d (Zz st))(len:∀vs H Q E,sp vs H Q E->vs.length=d.length)
  (u:∀(c:Value) (A:Around) (outer:List Env) (s:Shared) (H:Hp) (vs:List V) (Q:VK) (E:XK),Yn k (A.deeper (envOfC qual (Zz st) s.heap.objs.size f c))->sp vs H Q E ->
   ∃t,XV (Vz (YC P w) P w K mg base N qual (Zz st) f c A outer s H E) (Uy st) t/\t {nx:=λ_ v=>Q .non v,rt:=Q} (Ux N vs) H):Zp P w K mg base (YC P w) (k+1) f g d sp:=by
 ext⟨C,B,kV,G,pm,D,c,ct,I,rfl,i,h⟩ F.ex;exact MR i h S len λA outer s H vs Q E y j=>u c A outer s H vs Q E y j
structure XY(K:Ox)(C:Addr):Prop where
 ex:W.excIn K C [.type "ValueError",.type "Exception",.type "BaseException",.type "object"] "ValueError.__new__"=true
def Zer{h:Heap}(Y:K.In h)(z:W.excIn K C d g=true) :
  ∃bm i nm H bs hd sn sub ab col dd k0 k1 k2 k3 k5 mN,h.get? C=some (excClassObj nm H C i bs bm hd sn sub ab col dd k0 k1 k2 k3 k5 g)/\h.Ns i mN/\mN "__init__"=none/\OwnTail h d bm:=by
 unfold W.excIn at z;split at z
 ·next d1 c1 s1 hlk =>
  split at z
  ·next C1 b1 j0 j1 j2 j3 n1 j5 em es =>
   simp only[Bool.and_eq_true,beq_iff_eq,Bool.not_eq_true']at z;ext⟨⟨⟨⟨⟨z1,x⟩,f⟩,u⟩,c⟩,z6⟩ z;subst z1 x;ext⟨L,B,O,j,I,y,J,G,v,D,P⟩ c1;dsimp only at em f c z6;subst em f;ext⟨M⟩ s1;have E:M=[j0,j1,j2,j3,some (.builtin n1),j5]:=es;subst E;exact⟨b1,j,L,I,B,y,J,G,v,D,d1,j0,j1,j2,j3,j5,_,Y _ _ hlk,.of_isNs (W.isNs_of_in Y c),W.nsMap_none_of_in Y c z6,W.tail_of_in Y u⟩
  exact Os z ()
 exact Os z ()
section
variable{E:XK}{x:Str}{C:Addr}{e:Expr}{es:OD}{t:TA}{np cpos:Pos}
def Zes(E:XK)(C:Addr)(t:TA):TS:=λ_ c H=>t c H λf d=>f.length<=sizeLine/\E (.ref C) none d
def Vl(R:wJ X E)(c:XY X.K C)(U:X.calm=true)(G:Gl X x)(hm:X.mg x=some (.ref C))(ha:PA X (e::es) t)(T:(x==("__debug__" : Str))=false:=by lia)
  (i:starEach (e::es) X.env=(false,eval e X.env)::starEach es X.env:=by rfl) (P:(backTo cpos (starEach es X.env)).any (·.1)=false:=by rfl) :
  PS X (.Raise (some (.Call (.Name x np) (e::es) [] cpos)) none pos) (Zes E C t):=by
 intro pins s g H D I h;obtain⟨bm,Y,nm,L,bs,hd,sn,sub,ab,col,dd,k0,k1,k2,k3,k5,mN,J,S,j,f⟩:=Zer I.ok.mod.kin c.ex;refine wpAny_Raise_call_subT (C:=C) (nm:=nm) (q:=L) (N:=Y) (bs:=bs) (bm:=bm) (hdct:=hd) (sn:=sn) (sub:=sub) (ab:=ab) (col:=col) (dd:=dd) (k0:=k0) (k1:=k1) (k2:=k2) (k3:=k3) (k5:=k5)
  PySem.F.excBase_ValueError (mN:=mN) (f.hasType PySem.F.excBase_ValueError.hasBase) (I.ok.hd U) ?_ j (UQ I G hm ⟨rfl,?_⟩ T)
 rw[i];show(false || (backTo cpos (starEach es X.env)).any (·.1))=false;rw[P];rfl;have q:=ha cpos pins s g H _ I h;rw[i]at q ⊢;erw[Calls.evalArgs_plain (Zx q λB s2 O=>?_)];ext⟨Z,u,d,r,v,y⟩ O;exact⟨rfl,by rwa[<-r.length],d.bk _ _ J,S.keeps d.bk,f.keeps d.bk,λM a Q=>R pins g u s2 a _ B M d Q y⟩
end
def Zd.moved{h':Heap}(I:Zd X pins S H s)
  (keep:∀b o,s.heap.get? b=some o->((∃u,X.s₀.heap.get? b=some u/\b∉X.ex)\/(∃u,H b=some u)\/∃p∈X.pn++pins,p.1=b)->b∉Yp X.stack->h'.get? b=some o) (up:s.heap.UpToSlots h'):Zd X pins S H {s with heap:=h'}:=by
 have M:∀b o,X.s₀.heap.get? b=some o->b≠X.env.locals:=λb o e=>Sf (Si (Se e) I.ok.above);have x:∀b,b≠X.env.locals->b∉X.fs->b∉Yp X.stack:=λb h1 Z z=>(SE.mp (I.stkSub b z)).elim h1 Z;have T:∀b∈X.fs,∀o,X.s₀.heap.get? b=some o->∀L,o.data≠.fields L:=λb f o e=>by
  obtain⟨_,D,Q,d⟩:=I.ok.funs.mem f;rw[e]at Q;cases Q;exact d
 have cellK:∀c v,s.heap.IsCell c v->h'.IsCell c v:=λc v ⟨o,ho,hd⟩=>by
  obtain⟨P,q⟩:=up c o ho λL z=>by rw[hd]at z;cases z
  exact⟨_,q,hd⟩
 erw[⟨I.ok,I.os,I.bare,⟨λb o e n f g=>?_,λb o e n f g=>?_,I.base.free,λb o e g=>?_,I.base.tups,I.base.frzs,I.base.tbls⟩,?_,λy c e=>?_,I.free,I.freeC,λp O=>?_,λb u q=>?_,I.len⟩];exact keep b o (I.base.keep b o e n f g) (.inl ⟨o,e,g⟩) (x b (M b o e) f);obtain⟨P,h⟩:=I.base.slot b o e n f g;obtain⟨J,j⟩:=up b _ h (T b f o e);exact⟨J,j⟩;obtain⟨D,h⟩:=I.base.there b o e g;by_cases f:b∈X.fs;obtain⟨P,j⟩:=I.base.slot b o e (I.ok.frf b f) f g;obtain⟨J,C⟩:=up b _ j (T b f o e);exact⟨_,C⟩;exact⟨D,keep b D h (.inl ⟨o,e,g⟩) (x b (M b o e) f)⟩;ext⟨m,hn,Y⟩ I.loc;erw[⟨m,up.ns hn,λi y v h j C=>?_⟩];obtain⟨u,r,l⟩:=Y i y v h j C;erw[⟨u,r,?_⟩];rcases l with l|⟨k,c,e,z⟩;exact .inl l;exact .inr ⟨k,c,e,cellK c _ z⟩;obtain⟨v,z⟩:=I.cell y c e;exact⟨v,cellK c v z⟩;obtain⟨e,n,ne,nf,d⟩:=I.pin p O;exact⟨keep p.1 p.2 e (.inr (.inr ⟨p,O,R⟩)) (x p.1 ne nf),n,ne,nf,d⟩;erw[(I.hok b u q).stay (λc v G e=>?_) (λ_ z=>z) λ_ _ z=>z];have U:∃B,H c=some B:=by
  rcases G with rfl|G;exact⟨u,q⟩;exact⟨_,G⟩
 ext⟨B,E⟩ U;erw[keep c v e (.inr (.inl ⟨B,E⟩)) λz=>?_];rw[I.stkFree c z]at E;cases E
def Zd.track{ob:Obj}(I:Zd X pins i H s)(ha:H a=none)(h:s.heap.get? a=some ob)(hd:ob.data=.fields vs)
  (C:X.s₀.heap.get? a=none) (D:∀p∈X.pn++pins,p.1≠a) (B:Yi X.prog X.w (Zb H a o) s.heap a o):Zd X pins i (Zb H a o) s:=by
 have nt:∀b u,H b=some u->b≠a:=λb u q=>Z1 q ha;erw[⟨I.ok,I.os,I.bare,⟨I.base.keep,I.base.slot,λb u e n E=>?_,I.base.there,λb g q=>?_,λb u g q=>?_,λb x q=>?_⟩,I.loc,I.cell,?_,λy c e=>?_,λp q=>?_,λb u q=>?_,I.len⟩];have ne:b≠a:=λz=>by rw[z,C]at e;cases e
 rw[Zm ne];exact I.base.free b u e n E;have z:=I.base.tups b g q;rwa[Zm (nt _ _ z)];have z:=I.base.frzs b u g q;rwa[Zm (nt _ _ z)];obtain⟨m,z⟩:=I.base.tbls b x q;exact⟨m,by rwa[Zm (nt _ _ z)]⟩;have ne:X.env.locals≠a:=λz=>by
  ext⟨m,⟨M,G,L,d,f,_⟩,_⟩ I.loc;rw[z,h]at d;cases d;rw[hd]at f;cases f
 rw[Zm ne];exact I.free;have ne:c≠a:=λz=>by
  obtain⟨v,J,d,f⟩:=I.cell y c e;rw[z,h]at d;cases d;rw[hd]at f;cases f
 rw[Zm ne];exact I.freeC y c e;obtain⟨e,n,r⟩:=I.pin p q;exact⟨e,by rwa[Zm (D p q)],r⟩;by_cases j:b=a;subst j;rw[Zj]at q;cases q;exact B;rw[Zm j]at q;exact(I.hok b u q).stay (λc v _ z=>z) (λc z=>by rwa[Zm (nt _ _ z)]) λc g z=>by rwa[Zm (nt _ _ z)]
def Wt(a:Addr)(C:Value):HO:=.ext λh=>∃ob c,h.get? a=some ob/\ob.cls=C/\ob.data=.fields c
def Zet(X:Cx)(pins:Ov)(d:Value->Hp->Prop)(e:Value)(s':Shared):Prop :=
 ∃(a:Addr) (C:Value) (σ:St) (H:Hp) (g:Heap),e=.ref a/\Zd X pins σ H s'/\M4 X.stack g H a C s'.heap/\(∀p∈X.pn++pins,∃u,g.get? p.1=some u) /\
  (∀b u,X.s₀.heap.get? b=some u->b∉X.ex->∃c,g.get? b=some c)/\d C H
abbrev Lg(X:Cx)(pins:Ov)(Kx:Value->Hp->Prop):Cx:={X with pn:=X.pn++pins,xe:=Zet X pins Kx}
abbrev A3(X:Cx)(a:Addr):Cx:={X with A:=X.A.mark (some (.ref a)),calm:=false,xe:=λ_ _=>False}
section
variable{pins':Ov}{σ:St}{Kx:Value->Hp->Prop}{a:Addr}
def Zd.toTry(I:Zd X pins σ H s):Zd (Lg X pins Kx) [] σ H s :=
 ⟨⟨I.ok.mod,I.ok.kind,I.ok.glob,I.ok.blt,I.ok.above,I.ok.inj,I.ok.has,I.ok.cab,I.ok.hd,I.ok.frames,I.ok.stk,I.ok.exf,I.ok.bs,I.ok.bsz,I.ok.noex,I.ok.exfs,I.ok.funs,I.ok.frf⟩,
  I.os,I.bare,I.base,I.loc,I.cell,I.free,I.freeC,λp c=>I.pin p (by simpa using c),I.hok,I.len⟩
def Zd.ofTry(I:Zd (Lg X pins Kx) pins' σ H s):Zd X pins σ H s :=
 ⟨⟨I.ok.mod,I.ok.kind,I.ok.glob,I.ok.blt,I.ok.above,I.ok.inj,I.ok.has,I.ok.cab,I.ok.hd,I.ok.frames,I.ok.stk,I.ok.exf,I.ok.bs,I.ok.bsz,I.ok.noex,I.ok.exfs,I.ok.funs,I.ok.frf⟩,
  I.os,I.bare,I.base,I.loc,I.cell,I.free,I.freeC,λp c=>I.pin p (SH _ c),I.hok,I.len⟩
def Zd.toSuite(I:Zd X pins σ H s):Zd (A3 X a) pins σ H s :=
 ⟨⟨I.ok.mod,I.ok.kind,I.ok.glob,I.ok.blt,I.ok.above,I.ok.inj,I.ok.has,I.ok.cab,(λz=>nomatch z),I.ok.frames,I.ok.stk,I.ok.exf,I.ok.bs,I.ok.bsz,I.ok.noex,I.ok.exfs,I.ok.funs,I.ok.frf⟩,
  I.os,I.bare,I.base,I.loc,I.cell,I.free,I.freeC,I.pin,I.hok,I.len⟩
def Zd.ofSuite(hd:X.calm=true->X.A.handled=none)(I:Zd (A3 X a) pins σ H s):Zd X pins σ H s :=
 ⟨⟨I.ok.mod,I.ok.kind,I.ok.glob,I.ok.blt,I.ok.above,I.ok.inj,I.ok.has,I.ok.cab,hd,I.ok.frames,I.ok.stk,I.ok.exf,I.ok.bs,I.ok.bsz,I.ok.noex,I.ok.exfs,I.ok.funs,I.ok.frf⟩,
  I.os,I.bare,I.base,I.loc,I.cell,I.free,I.freeC,I.pin,I.hok,I.len⟩
def Zeu:WJ (YC X.prog X.w) (Lg X pins Kx) (λC _ H=>Kx C H):=by
 intro D d v s1 e x I j;ext⟨a,C,f,rfl,os,bare,un,hok,B,_,_,h⟩ j;have c:Zd X pins d v s1:=I.ofTry;have i:Zd X pins d f x:=c.call' os un hok bare λb z=>nomatch z;exact⟨a,C,d,f,s1.heap,R,i,B,λp y=>⟨p.2,(c.pin p y).1⟩,λb u q g=>c.base.there b u q g,h⟩
def Zd.frame{j:St}{h':Heap}(I:Zd X pins σ H s)(hn:h'.Ns X.env.locals C)(f:Heap.SameBut X.env.locals s.heap h')
  (G:∀(i:Nat) (x:Str) (v:V),X.N[i]? = some x->j[i]? = some (some v)->E9 X.env.scope x->∃u,ZL v u/\yI X.env h' C x u) (hlen:j.length=σ.length):Zd X pins j H {s with heap:=h',toks:=t'}:=by
 have B:∀b o,X.s₀.heap.get? b=some o->b≠X.env.locals:=λb o e=>Sf (Si (Se e) I.ok.above);erw[⟨I.ok,I.os,I.bare,⟨λb o e n E g=>(f.2 b (B b o e)).trans (I.base.keep b o e n E g),λb o e n E g=>?_,I.base.free,λb o e g=>?_,I.base.tups,I.base.frzs,I.base.tbls⟩,⟨C,hn,G⟩,λy c e=>?_,I.free,I.freeC,λp M=>?_,λb u q=>?_,hlen.trans I.len⟩];obtain⟨J,D⟩:=I.base.slot b o e n E g;exact⟨J,(f.2 b (B b o e)).trans D⟩;obtain⟨L,D⟩:=I.base.there b o e g;exact⟨L,(f.2 b (B b o e)).trans D⟩;obtain⟨v,z⟩:=I.cell y c e;exact⟨v,z.sameBut f (I.cne y c e)⟩;obtain⟨e,n,ne,nf,d⟩:=I.pin p M;exact⟨(f.2 p.1 ne).trans e,n,ne,nf,d⟩;erw[(I.hok b u q).stay (λc v h e=>(f.2 c ?_).trans e) (λ_ z=>z) λ_ _ z=>z];intro z;have fr:=I.free;rcases h with rfl|h;rw[z,fr]at q;cases q;rw[z,fr]at h;cases h
def Lh(I:Zd X pins σ H s)(hi:X.N[i]? = some n)(L:X.N.Nodup)(O:X.env.scope.names.lookup n=some .local)
  (h:∀s',Zd X pins (σ.set i none) H s'->Q Unit.unit s'):wpAny M A (do bindName X.env n .none;unbindBehindTheSuite X.env n J) Q E s:=by
 obtain⟨m,hn,C⟩:=id I.loc;erw[wpAny_nameGoes_keeps (m:=m) O hn (by rw[I.ok.kind];rfl) λS v G x=>h _ (I.frame G x (λj y P f d D=>?_) (by simp))];have g:j≠i:=λz=>by
  rw[z]at d;have B:i<σ.length:=by rw[I.len];exact(Sr.mp hi).1
  rw[List.getElem?_set_self B]at d;cases d
 rw[List.getElem?_set_ne (Ne.symm g)]at d;obtain⟨u,r,q⟩:=C j y P f d D;erw[⟨u,r,?_⟩];rcases q with⟨k,e⟩|⟨k,c,e,z⟩;have ne:y≠n:=λz=>g (ME L f (z ▸ hi));exact .inl ⟨k,by simp[ne,e]⟩;exact .inr ⟨k,c,e,z.sameBut x (I.cne y c e)⟩
end
section
variable{body suite:List Stmt}{b₀:Stmt}{n x:Str}{i:Nat}{R:Addr}{np hpos:Pos}{tb:(Value->Hp->Prop)->TS}{th:TS}
def Zev(K:Ox)(R:Addr)(i N:Nat)(tb:(Value->Hp->Prop)->TS)(th:TS):TS:=λD g H =>
 tb (λC f=>W.exmOne K C (.ref R)=some true/\∀a,f a=none ->
  th {nx:=λc d=>D.nx (c.set i none) d,rt:=D.rt,bk:=λc d=>D.bk (c.set i none) d,ct:=λc d=>D.ct (c.set i none) d} ((List.replicate N none).set i (some (.ref a))) (Zb f a (Wt a C))) D g H
def Zew(y0:X.stack=X.env::X.outer/\X.env.frame=some X.env.locals)(a1:X.ex=[])(D:X.N.Nodup)(hi:X.N[i]? = some n)(j:X.env.scope.names.lookup n=some .local)(hg:Gl X x)(hm:X.mg x=some (.ref R))
  (M:∀pins Kx,XV (Lg X pins Kx) body (tb Kx)) (hs:∀a,XV (A3 X a) (b₀::suite) th) (b1:(x==("__debug__" : Str))=false:=by lia) :
  PS X (.Try body [.ExceptHandler (some (.Name x np)) (some n) (b₀::suite) hpos] [] [] pos) (Zev X.K R i X.N.length tb th):=by
 intro pins s σ t0 p0 I x0;erw[wpAny_Try_except (Oq (M pins _ [] s σ t0 p0 I.toTry x0) (λf s1 q=>?_) λe s1 q=>?_)];cases f with
 |next=>ext⟨d,c,h,q⟩ q;exact wpAny_execs_nil ⟨d,c,h.ofTry,q⟩
 |brk=>ext⟨d,c,h,q⟩ q;exact⟨d,c,h.ofTry,q⟩
 |cont=>ext⟨d,c,h,q⟩ q;exact⟨d,c,h.ofTry,q⟩
 |ret u=>ext⟨v,d,c,h,r,q⟩ q;exact⟨v,d,c,h.ofTry,r,q⟩
 ext⟨a,C,d0,O,z0,rfl,I1,⟨n0,t,B,ha,Y⟩,Z,a0,w0,v0⟩ q;ext⟨H,q0⟩ y0;have mv:∀L,Heap.FlyingW n0 X.stack a C (.ref t) L->s1.heap.UpToSlots L->Zd X pins d0 O {s1 with heap:=L}:=λL o0 up=>I1.moved (λb o e M hn=>o0.1 b o (Y b o e (by
  rcases M with⟨u,q,hx⟩|⟨u,q⟩|⟨p,y,rfl⟩;exact .inl (a0 b u q hx);exact .inr ⟨u,q⟩;exact .inl (Z p y)) hn)) up
 have e1:X.A.frames=some (X.env::X.outer):=by rw[<-H];exact I.ok.frames
 rw[H]at B;erw[wpAny_looks_onW e1 q0 B λh4 m0 j0=>?_];erw[wpAny_landsW m0 λU S f0=>?_];have I5:=mv U (by rwa[H]) (j0.trans f0);ext⟨f1,r0,k0⟩ S.there;have LT:W.Looks (model X.prog X.w) U (typeOf (.ref a)) C:=k0 ▸ (W.Looks.ld r0).andThen .now;erw[wpAny_handleBy_cons (codeAny_handlers_test (UQ (X:=A3 X a) I5.toSuite hg hm ?_ b1)) (by intro z;cases z)];erw[(W.exm_one (K:=X.K) (I5.kIn:X.K.In U) LT w0) _ _ _ _ (λ_ _ z=>z) ?_];erw[codeAny_handlers_suite_as ?_];erw[lands_againW S λT g0 u0=>?_];have I6:=mv T (by rwa[H]) ((j0.trans f0).trans u0);ext⟨b0,c1,P,d1,c0,_⟩ g0.first;have l0:∀o,s1.heap.get? a=some o->a∉Yp X.stack:=λo e z=>by
  ext⟨ob,vs,G,_,q2,_⟩ B.first;exact I1.frd a z ob G vs q2
 have e0:∀u,z0.get? a=some u->False:=λu q=>by
  ext⟨ob,vs,G,_,q2,_⟩ B.first;have z:=Y a ob G (.inl ⟨u,q⟩) (l0 ob G);rw[B.2.1]at z;cases z
 have h0:X.s₀.heap.get? a=none:=by
  cases q:X.s₀.heap.get? a with
  |none=>rfl
  |some u =>
   obtain⟨u',z⟩:=a0 a u q (by rw[a1];exact λz=>nomatch z);exact(e0 u' z).elim
 have y:∀p∈X.pn++pins,p.1≠a:=λp y z=>by
  obtain⟨u,q⟩:=Z p y;rw[z]at q;exact e0 u q
 have I7:Zd X pins d0 (Zb O a (Wt a C)) {s1 with heap:=T}:=I6.track ha P c0 h0 y
  ⟨⟨b0,c1,P,d1,c0⟩,⟨b0,P⟩,λha M ⟨o,v,z1,z2⟩ k=>⟨o,v,k o z1,z2⟩⟩
 have I8:Zd X pins (List.replicate X.N.length none) (Zb O a (Wt a C)) {s1 with heap:=T}:=I7.weak (by rw[Sz,I7.len]) λh1 v q=>by
  rw[List.getElem?_replicate]at q;split at q<;>cases q
 erw[F0 (X:=A3 X a) I8.toSuite D hi (.inl j) (v:=.ref a) rfl (λs9 I9=>?_) (.inr j)];erw[Oq (hs a pins s9 _ _ _ I9 (v0 a ha)) (λf i0 q=>?_) λ_ _ z=>z.elim];have E:∀{d:St} {c:Hp},Zd (A3 X a) pins d c i0->Zd X pins d c i0:=λJ=>J.ofSuite I.ok.hd;cases f with
 |next=>ext⟨d,c,J,q⟩ q;exact Lh (E J) hi D j λQ g=>⟨_,c,g,q⟩
 |brk=>ext⟨d,c,J,q⟩ q;exact Lh (E J) hi D j λQ g=>⟨_,c,g,q⟩
 |cont=>ext⟨d,c,J,q⟩ q;exact Lh (E J) hi D j λQ g=>⟨_,c,g,q⟩
 |ret u=>ext⟨v,d,c,J,r,q⟩ q;exact Lh (E J) hi D j λQ g=>⟨v,_,c,g,r,q⟩
end
inductive Zex(x:V)(lo:Option Int)(hi:Option Int)(H:Hp)(Q:VK):Prop|mk z (_:x=.str z) (_:z.length<=sizeLine) (_:Q (.str (Txt.slice z lo hi)) H)
def wK(p:IsPart v o):∃l:Option (Int×Tok),v=partValue l/\l.map (·.1)=o:=by
 cases p with
 |none=>exact⟨none,R,R⟩
 |int i t=>exact⟨some (i,t),R,R⟩
def wL:G0 X Zex:=by
 intro pins s y H x v C D lo B j Q I g i d c h;ext⟨z,rfl,f,q⟩ h;ext⟨t,rfl⟩ g;obtain⟨l,rfl,rfl⟩:=wK d;obtain⟨u,rfl,rfl⟩:=wK c;erw[⟨"str",_,PySem.F.slot_str_getitem.lookup,typeIs_str s z t,wpAny_getItem_str_slice (l:=l) (u:=u) (st:=none) i R ?_⟩];exact post_val_or_str ⟨Sh (Txt.slice_le z _ _) f,λE k=>⟨.str _,H,I.tok _,⟨_,R⟩,q⟩⟩
def WK:List V->List V->Bool
 |[],[]=>true
 |x::xs,y::ys=>Ws x y && WK xs ys
 |_,_=>false
theorem wM:∀{xs ys:List V},xs.length≠ys.length->WK xs ys=false
 |[],[],h=>Os R h
 |[],_::_,_=>rfl
 |_::_,[],_=>rfl
 |x::xs,y::ys,h=>by
  have:WK xs ys=false:=wM λz=>h (by rw[Sy,Sy,z]);show(Ws x y && WK xs ys)=false;rw[this,Bool.and_false]
theorem M6:∀(xs ys:List V),xs.length=ys.length->(List.range xs.length).all (λj=>Ws (xs.getD j .non) (ys.getD j .non))=WK xs ys
 |[],[],_=>rfl
 |[],_::_,h=>nomatch h
 |_::_,[],h=>nomatch h
 |x::xs,y::ys,h=>by
  have c:=M6 xs ys (by simpa using h);rw[Sy,List.range_succ_eq_map,List.all_cons,List.all_map];show(Ws x y && _)=(Ws x y && WK xs ys);rw[<-c];rfl
inductive Zey(K:Ox)(neg:Bool)(x:V)(y:V)(H:Hp)(Q:VK):Prop|mk l b xs ys (_:x=.ref l) (_:y=.ref b) (_:Ze K H l xs) (_:Ze K H b ys) (_:xs.all WR=true) (_:ys.all WR=true) (_:Q (.bl (if neg then !WK xs ys else WK xs ys)) H)
def Zez{xs ys:List V}{d c:OB}(r:ZB xs d)(v:ZB ys c)(B:xs.all WR=true)(H:ys.all WR=true) :
  ∀(j:Nat) (h1:j<d.toArray.size) (g:j<c.toArray.size),SeqAt.EqAt A s d.toArray[j] c.toArray[j] (Ws (xs.getD j .non) (ys.getD j .non)):=by
 intro j h1 g;have G:=r.length;have y:=v.length;have h:j<xs.length:=by rw[G];simpa using h1
 have f:j<ys.length:=by rw[y];simpa using g
 obtain⟨u,x,E⟩:=r.get (Ss h);obtain⟨w,i,I⟩:=v.get (Ss f);have C:d.toArray[j]=u:=by
  rw[List.getElem_toArray];rw[Ss (by simpa using h1)]at x;exact So x
 have D:c.toArray[j]=w:=by
  rw[List.getElem_toArray];rw[Ss (by simpa using g)]at i;exact So i
 have g1:xs.getD j .non=xs[j]:=by rw[List.getD_eq_getElem?_getD,Ss h];rfl
 have g2:ys.getD j .non=ys[j]:=by rw[List.getD_eq_getElem?_getD,Ss f];rfl
 rw[C,D,g1,g2];exact xZ E I (List.all_eq_true.mp B _ (Oi h)) (List.all_eq_true.mp H _ (Oi f))
def wN(f:X.A.units<cLine):YB X (compareOp .Eq) (Zey X.K false):=by
 intro pins s S H x y v u Q I D E h;ext⟨l,b,c,d,rfl,rfl,L,J,C,G,q⟩ h;cases D;cases E;obtain⟨T,r,j,_⟩:=I.list L;obtain⟨O,B,g,_⟩:=I.list J;have M:=r.length;have P:=B.length;by_cases i:c.length=d.length;erw[SeqAt.eq_listAt j.isList g.isList (by simp;lia) f (Zez r B C G) ?_];rw[SM,<-M,M6 c d i];exact⟨.bl _,H,I,R,q⟩;erw[SeqAt.eq_list_lengthsAt j.isList g.isList (by simp;lia) f ?_];rw[show(if false=true then !WK c d else WK c d)=false from wM i]at q;exact⟨.bl _,H,I,R,q⟩
theorem wO:∀bs:List Bool,(List.range bs.length).all (λi=>bs.getD i false)=bs.all id
 |[]=>rfl
 |b::bs=>by
  rw[Sy,List.range_succ_eq_map,List.all_cons,List.all_map,List.all_cons];show(b && _)=(b && _);rw[<-wO bs];rfl
def M7(Z:X.calm=true):Y4 X (.builtin "all") (λxs H Q=>∃(p:Addr) (bs:List Bool),xs=[.ref p]/\Ze X.K H p (bs.map V.bl)/\Q (.bl (bs.all id)) H):=by
 intro pins s σ H xs us Q I r h;ext⟨p,bs,rfl,C,q⟩ h;obtain⟨a0,rfl,O⟩:=Wq r;cases O;obtain⟨d,u,f,hz⟩:=I.list C;have hlen:=u.length;obtain⟨o,n,ho,_⟩:=id f;have E:p≠s.heap.objs.size:=Sf (Se ho);have P:TruthOf X.prog X.w X.A.in1 (λi v=>d.toArray[i]? = some v) (λi=>bs.getD i false):=by
  intro i v s2 G E2 D U;have y:d[i]? = some v:=by simpa using D
  have j:i<bs.length:=by
   have:=(Sr.mp y).1;rw[<-hlen,Sv]at this;exact this
  obtain⟨w,c,g⟩:=u.get (i:=i) (x:=.bl bs[i]) (by rw[Oa,Ss j];rfl);rw[y]at c;cases c;cases g;erw[wpAny_truthy_bool ?_];have L:bs.getD i false=bs[i]:=by rw[List.getD_eq_getElem?_getD,Ss j];rfl
  have B:G (bs.getD i false) s2:=U;rw[L]at B;exact B
 erw[call_all_walk (wpAny_pyIter_list f.isList ?_)];erw[⟨s.heap.objs.size,[s.heap.objs.size,p],[s.heap.objs.size],d.toArray.size,_,_,_,R,Walks.list (A:=X.A.in1) (I.ok.hd Z) _ _ E d.toArray,⟨⟨_,Sd _ R,R,R⟩,?_⟩,P,λT tk Y=>?_⟩];ext⟨M,g,S⟩ f.isList;exact⟨M,Sc _ g,S⟩;have J:∀b o,s.heap.get? b=some o->T.get? b=some o:=λb o e=>Y b o (λz=>by
  have c:=Se e;rw[SD.mp z]at c;exact Os c (Sl _)) (Sc _ e)
 have e:(List.range d.toArray.size).all (λi=>bs.getD i false)=bs.all id:=by
  rw[SM,<-hlen,Sv];exact wO bs
 rw[e];exact⟨.bl _,H,I.kept (t':=tk) J,R,q⟩
def Zd.laidN{h':Heap}(I:Zd X pins d H s)(k:∀b u,s.heap.get? b=some u->h'.get? b=some u)(hn:s.heap.get? a=none)
  (h:Yi X.prog X.w (Zb H a o) h' a o):Zd X pins d (Zb H a o) {s with heap:=h',toks:=t'}:=by
 have ha:H a=none:=I.hasNo hn;have nt:∀b u,H b=some u->b≠a:=λb u q=>Z1 q ha;erw[I.un ⟨λb u q _ _ _=>k b u q,λb u q _ _ _=>⟨u.slots,k b u q⟩,λb u q n _=>?_,λb u q _=>⟨u,k b u q⟩,λb f q=>?_,λb u f q=>?_,λb i q=>⟨#[],?_⟩⟩ λb u q=>?_];have ne:b≠a:=λz=>by rw[z,hn]at q;cases q
 rwa[Zm ne];rwa[Zm (nt _ _ q)];rwa[Zm (nt _ _ q)];rw[Zm (nt _ _ q),q];simp;by_cases g:b=a;subst g;rw[Zj]at q;cases q;exact h;rw[Zm g]at q;exact(I.hok b u q).stay (λc v _ z=>k c v z) (λc z=>by rwa[Zm (nt _ _ z)]) λc f z=>by rwa[Zm (nt _ _ z)]
def Xz(z:Str)(c:Nat):Bool:=!(Builtin.Str.occurrences z ⟨#[c]⟩ 0 z.length 1).isEmpty
theorem wP{g:Nat->Bool}:∀(cs:OG) (vs rs:OB),vs.length=cs.length->(∀(j:Nat) (v:Value),vs[j]? = some v->∃c u,cs[j]? = some c/\v=.str ⟨#[c]⟩ u) ->
  Paired (λv r=>∀c u,v=.str ⟨#[c]⟩ u->r=.bool (g c)) vs rs->ZB (cs.map λc=>V.bl (g c)) rs
 |[],[],_,_,_,.nil=>.nil
 |[],_::_,_,h,_,_=>nomatch h
 |_::_,[],_,h,_,_=>nomatch h
 |c::cs,v::vs,_,h,d,.cons r t=>by
  obtain⟨B,u,y,x⟩:=d 0 v R;have i:c=B:=by simpa using y
  subst i;exact .cons (r c u x) (wP cs vs _ (by simpa using h) (λj w f=>by simpa using d (j+1) w (by simpa using f)) t)
section
variable{x z:Str}{p1 p2 p3 px:Pos}{iter:Expr}{ti:TE}{cl:Oy}{zs:Str}
def wQ(X:Cx)(scope:Scope)(cl:Oy)(z:Str)(p2:Pos)(zs:Str)(c:St):Prop :=
 ∀(pins:Ov) (H:Hp) (s1 s3:Shared) (C:Addr) (Q:Ou) (E:Ou),Zd X pins c H s1->(∀b o,s1.heap.get? b=some o->s3.heap.get? b=some o)->(∀t,Q (.str zs t) s3) ->
  wpAny (model X.prog X.w) X.A (eval (.Name z p2) (compEnvC scope cl C X.env)) Q E s3
def ZeA(X:Cx)(scope:Scope)(cl:Oy)(z:Str)(p2:Pos)(ti:TE):TE:=λd H Q=>∃zs,wQ X scope cl z p2 zs d/\ti d H λv f=>∃y,v=.str y/\y.length<=sizeLine /\
 ∀p,f p=none->Q (.ref p) (Zb f p (.lst (y.cps.toList.map λc=>V.bl (Xz zs c))))
def ZeB(hc:X.calm=true)(hi:PE X iter ti)(h0:closureFor scope X.env=pure cl)(b0:∀y∈scope.names,y.2≠.cell)(Q:scope.kind=.function)
  (e0:∀y∈scope.names,y.2=.local->scope.names.lookup y.1=some .local) (S:scope.names.lookup x=some .local) (hs:∀v,foldedSetIterable iter X.env v=pure v:=by intro _;rfl) (hd:(x==("__debug__" : Str))=false:=by lia) :
  PE X (.ListComp (.Compare (.Name x p1) [.In] [.Name z p2] p3) [⟨.Name x px,iter,[],0⟩] scope pos) (ZeA X scope cl z p2 ti):=by
 intro pins s σ d0 j0 I h;ext⟨zs,zr,h⟩ h;erw[wpAny_ListComp_free (cl:=cl) (λ_=>true) (λv r=>∀c u,v=.str ⟨#[c]⟩ u->r=.bool (Xz zs c)) h0 b0 Q e0 S (Zx (hi pins s σ d0 _ I h) λxv s1 ⟨v,L,B,r1,y,ev,hy,q⟩=>?_) hs];subst ev;ext⟨t,rfl⟩ r1;erw[wpAny_pyIter_str λo St W f0=>?_];have O:∀(g:Heap),(∀b d,b∉[s1.heap.objs.size]->(s1.heap.push o).get? b=some d->g.get? b=some d)->∀b d,s1.heap.get? b=some d->g.get? b=some d:=λg j b d e =>
  j b d (λz=>by
   have f:=Se e;rw[SD.mp z]at f;exact Os f (Sl _)) (Sc _ e)
 erw[⟨s1.heap.objs.size,[s1.heap.objs.size],[s1.heap.objs.size],y.cps.size,SignAt y,St,R,W X.A (B.ok.hd hc),hy,f0,λb hb=>?_,⟨?_,?_⟩,?_⟩];rw[SD.mp hb];show s1.heap.objs.size<(s1.heap.push o).objs.size;rw[Heap.size_push];exact Sm _;intro C i v s3 P Z _ E hn hm j _;exact Sb ⟨R,s3.heap,s3.toks,R,λ_ _ e=>e⟩;intro C i v s3 P Z _ E _ hn hm j _;ext⟨c,u,_,rfl⟩ E;erw[wpAny_Compare1 (wpAny_Name (wpAny_loadName_local (env:=compEnvC scope cl C X.env) (m:=P) Q (lookup_relabel_local S) hn hm ?_) hd)];erw[zr pins L s1 s3 C _ _ B (O _ j) λt3=>?_];erw[in_str ⟨λc' u' e=>?_,s3.heap,s3.toks,R,λ_ _ e=>e⟩];injection e with f _;injection f with J;have e3:c=c':=by simpa using J
 subst e3;rfl;intro D g tk H G U hl g0 hlen E T j;have M:s1.heap.get? D=none:=by
  cases e:s1.heap.get? D with
  |none=>rfl
  |some u =>
   have:=Sc o e;rw[show(s1.heap.push o).get? D=none from U]at this;cases this
 ext⟨n,hD⟩ g0;have c0:G.filter (λ_=>true)=G:=List.filter_eq_self.mpr λ_ _=>R;rw[c0]at T;have V1:ZB (y.cps.toList.map λc=>V.bl (Xz zs c)) H.toList:=wP y.cps.toList G H.toList (by rw[hlen];simp) (λi0 v Y=>by
  obtain⟨c,u,f,J⟩:=E i0 v Y;exact⟨c,u,by simpa using f,J⟩) T
 have a0:Yi X.prog X.w (Zb L D (.lst (y.cps.toList.map λc=>V.bl (Xz zs c)))) g D (.lst (y.cps.toList.map λc=>V.bl (Xz zs c))):=by
  erw[⟨?_,H.toList,n,V1,?_⟩];rw[Sv];have:y.cps.toList.length=y.length:=by simp[Str.length]
  lia;rw[Array.toArray_toList];exact hD
 exact⟨.ref D,_,B.laidN (t':=tk) (O g j) M a0,R,q D (B.hasNo M)⟩
def ZeC(f:(relabel scope X.env).names.lookup z=some .globalImplicit)(d:scope.kind=.function)(hm:X.mg z=some (.str zs t))(hd:(z==("__debug__" : Str))=false:=by lia):wQ X scope cl z p2 zs c:=by
 intro pins H s1 s3 C Q E I k q;exact Calls.Name_function_global (env:=compEnvC scope cl C X.env) d f (Calls.loadGlobal_global (env:=compEnvC scope cl C X.env) (by
  show s3.heap.Ns X.env.globals X.mg;rw[I.ok.glob];exact(I.mod.glob.keeps I.bk).keeps k) hm (q t)) hd
end
def X9:Y4 X (.builtin "isinstance") (λxs H Q=>∃x T t b,xs=[x,.ty T]/\XW X.K H x t/\W.kitOne X.K t (.type T)=some b/\Q (.bl b) H):=by
 intro pins s g H xs i Q I r h;ext⟨x,T,t,b,rfl,ty,e,q⟩ h;obtain⟨u,c,rfl,f,d⟩:=La r;cases (show c=Value.type T from d);exact xE I f ty e λtk=>⟨.bl b,H,I.tok _,R,q⟩
def wR:Y4 X (.builtin "isinstance") (λxs H Q=>∃x C t b,xs=[x,.ref C]/\XW X.K H x t/\W.kitOne X.K t (.ref C)=some b/\Q (.bl b) H):=by
 intro pins s g H xs i Q I r h;ext⟨x,C,t,b,rfl,ty,e,q⟩ h;obtain⟨u,c,rfl,f,d⟩:=La r;cases (show c=Value.ref C from d);exact xE I f ty e λtk=>⟨.bl b,H,I.tok _,R,q⟩
section
variable{x:Str}
def XZ(c:Gl X x)(hm:X.mg x=some (.ref a))(hd:(x==("__debug__" : Str))=false:=by lia):PE X (.Name x pos) (tC (.ref a)):=yL c hm R hd
def X0(d:Gl X x)(hm:X.mg x=none)(c:bootBuiltins x=some (.type T))(hn:x ≠ "__name__" := by lia) (hd:(x==("__debug__" : Str))=false:=by lia):PE X (.Name x pos) (tC (.ty T)):=ZcT d hm c R hn hd
end
open PySem PySem.Spec PyProof.Rows PySem.W PySem.Calls Builtin Builtin.ObjectAttr Builtin.Getset_descriptor
section
variable{a C:Addr}{o:Obj}{R:Result->Shared->Prop}
structure YS(K:Ox)(C:Addr):Prop where
 cl:(W.clsIn K C).isSome=true
 g1:W.findIn K (.ref C) "__getattribute__"=some (some (.builtin "BaseException.__getattribute__"))
 g2:W.findIn K (.ref C) "__getattr__"=some none
 g3:W.findIn K (.ref C) "__class__"=some (some (.builtin "object.__class__"))
 g4:W.mroIn K C (.type "object")=some true
 g5:W.mroIn K C (.type "BaseException")=some true
 g6:W.specialIn K (.builtin "object.__class__") "__get__"=some (some (.builtin "getset_descriptor.__get__"))
 g7:W.takesIn K (.builtin "object.__class__")=some true
def ZeD(Y:K.In s.heap)(c:YS K C)(d:s.heap.get? a=some o)(f:o.cls=.ref C)(h:R (.ok (.ret (.ref C))) s) :
  codeAny (model prog w) A (.call (.builtin "getset_descriptor.__get__") ⟨[.builtin "object.__class__",.ref a,tp],[]⟩) R s:=by
 ext⟨i,g,dr,t,os⟩ s;have j:Looks (model prog w) i (typeOf (.ref a)) (.ref C):=f ▸ (Looks.ld d).andThen .now;have u:=looks_mroIn (M:=model prog w) Y c.g4;erw[codeAny_call_builtin KF.slot_gs.plain KF.entry_gs (KF.slot_gs.check _ _ _ _ _ _ _ _ KF.type_class (KF.args_gs _ _ _) ?_)];unfold Builtin.«getset_descriptor.__get__» descrGet;rw[dga_obj];erw[Sa (Sb ?_)];unfold descrGetter descrCheckInstance descrNameAndClass isInstance;simp only[KF.owner_class]
 repeat lk
 erw[⟨Code.quiet_builtin _ (),codeAny_builtin KF.entry_class ?_⟩];unfold Builtin.«object.__class__» shownTypeOf
 repeat lk
 exact h
def ZeE(Y:K.In s.heap)(c:YS K C)(d:s.heap.get? a=some o)(f:o.cls=.ref C)(h:Q (.done (.ret (.ref C))) s) :
  wpAny (model prog w) A (Builtin.«object.__getattribute__» ⟨[.ref a,.str "__class__" tk],[]⟩) Q E s:=by
 ext⟨i,g,dr,t,os⟩ s;have j:Looks (model prog w) i (typeOf (.ref a)) (.ref C):=f ▸ (Looks.ld d).andThen .now;have v:=looks_findIn (M:=model prog w) Y c.g3;have u:=looks_specialIn (M:=model prog w) Y c.g6;have x:=looks_takesIn (M:=model prog w) Y c.g7;unfold Builtin.«object.__getattribute__»
 repeat lk
 erw[wpAny_run (c:=.call (.builtin "getset_descriptor.__get__") ⟨[.builtin "object.__class__",.ref a,.ref C],[]⟩) (h:=none) (ZeD (R:=_) Y c d f ?_)];exact Sb (Sb h)
def ZeF(Y:K.In s.heap)(c:YS K C)(i:s.heap.get? a=some o)(x:o.cls=.ref C)(h:Q Unit.unit s) :
  wpAny M A (checkBuiltinCall "BaseException.__getattribute__" ⟨[.ref a,d],[]⟩) Q E s:=by
 ext⟨y,g,dr,t,os⟩ s;have f:Looks M y (typeOf (.ref a)) (.ref C):=x ▸ (Looks.ld i).andThen .now;have j:=looks_mroIn (M:=M) Y c.g5;have u:builtinKind "BaseException.__getattribute__"=some .slot:=by lia
 have v:splitId "BaseException.__getattribute__"=some ("BaseException","__getattribute__"):=by lia
 have ha:=PySem.F.args_bexc_ga (.ref a) d;simp only[checkBuiltinCall,u,v];erw[Sa ?_];unfold isInstance;erw[Sa (f.at ?_)];erw[j.at ?_];rw[SV ()];exact wpAny_of_eq ha h
def ZeG(Y:K.In s.heap)(c:YS K C)(d:s.heap.get? a=some o)(f:o.cls=.ref C)(h:Q (some (.ref C)) {s with toks:=s.toks+1}) :
  wpAny (model prog w) A (getAttr? (.ref a) "__class__") Q E s:=by
 ext⟨x,g,dr,t,os⟩ s;have i:Looks (model prog w) x (typeOf (.ref a)) (.ref C):=f ▸ (Looks.ld d).andThen .now;have u:=looks_findIn (M:=model prog w) Y c.g1;have j:=looks_findIn (M:=model prog w) Y c.g2;have v:=PySem.F.excAttr_ValueError.ga.bind (.ref a);unfold getAttr? getAttrBy? getAttrBy;erw[Sa (wpAny_mkText (Sa (wpAny_attempt (wpAny_holding (Sa (i.at (Sa (u.at ?_))))))))];dsimp only;rw[SV (show ¬ ((onTheHeap (Value.ref C) && Value.builtin "BaseException.__getattribute__"==Value.builtin "object.__getattribute__")=true) by
  rw[show(Value.builtin "BaseException.__getattribute__"==Value.builtin "object.__getattribute__")=false by lia,Bool.and_false];lia)]
 unfold getAttrByItsOwn hookBefore;rw[SW (show onTheHeap (Value.ref C)=true from rfl)];erw[Sa (j.at ?_)];unfold callGetattribute;rw[SV ()];unfold boundAndCalled;erw[Sa (wpAny_attempt (wpAny_holding (Sa (wpAny_of_eq v ?_))))];erw[wpAny_call (codeAny_call_builtin PySem.F.excAttr_ValueError.ga.plain PySem.F.entry_bexc_ga (ZeF Y c d f (ZeE Y c d f ?_)))];exact Sb (Sb h)
def wS(c:YS K C):KitX K (.ref a) (.ref C) (λh=>∃ob vs,h.get? a=some ob/\ob.cls=.ref C/\ob.data=.fields vs) where
 ty:=λM h Y ⟨ob,vs,f,g,_⟩=>g ▸ (Looks.ld f).andThen .now
 it:=λM h Y _=>by
  obtain⟨j,d⟩:=Option.isSome_iff_exists.mp c.cl;unfold clsIn at d;split at d
  ·next ho =>
   intro B D x y k q;unfold isType loadHead;exact Sa (wpAny_loadPart (k _ _ (Y _ _ ho)) (Sb q))
  cases d
 ne:=λh tp v G n u Y i=>by
  obtain⟨j,d⟩:=Option.isSome_iff_exists.mp c.cl;erw[Oh.mpr λq=>?_];have e:C=tp:=Value.ref.inj (beq_iff_eq.mp q);subst e;unfold clsIn at d;split at d
  ·next ho =>
   have z:=(Y _ _ ho).symm.trans i;cases z
  cases d
 ca:=λY ⟨ob,vs,f,g,_⟩ k=>ZeG Y c f g k
end
def ZeH:Y4 X (.builtin "isinstance") (λxs H Q=>∃(a C D:Addr) (b:Bool),xs=[.ref a,.ref D]/\H a=some (Wt a (.ref C))/\YS X.K C/\W.kitOne X.K (.ref C) (.ref D)=some b/\Q (.bl b) H):=by
 intro pins s i H xs j Q I r h;ext⟨a,C,D,b,rfl,ha,c,e,q⟩ h;obtain⟨u,d,rfl,g,f⟩:=La r;cases (show u=Value.ref a from g);cases (show d=Value.ref D from f);obtain⟨p,_⟩:=I.hok a _ ha;exact kia_one (wS c) I.kIn p e (λz=>nomatch z) λtk=>⟨.bl b,H,I.tok _,R,q⟩
def ZeI:Y4 X (.builtin "isinstance") (λxs H Q=>∃(a C:Addr) (T:String) (b:Bool),xs=[.ref a,.ty T]/\H a=some (Wt a (.ref C))/\YS X.K C/\W.kitOne X.K (.ref C) (.type T)=some b/\Q (.bl b) H):=by
 intro pins s i H xs j Q I r h;ext⟨a,C,T,b,rfl,ha,c,e,q⟩ h;obtain⟨u,d,rfl,g,f⟩:=La r;cases (show u=Value.ref a from g);cases (show d=Value.type T from f);obtain⟨p,_⟩:=I.hok a _ ha;exact kia_one (wS c) I.kIn p e (λz=>nomatch z) λtk=>⟨.bl b,H,I.tok _,R,q⟩
def VE{c:Type}{t:Sem c}{Q d:c->Shared->Prop}{M:Model}(h:wpAny M A t Q (λ_ _=>False) s)(f:∀a s,Q a s->d a s):wpAny M A t d E s:=Oq h f λ_ _ z=>z.elim
abbrev wT(ifs:OD)(env:Env):Sem Bool:=forIn ifs true λc r=>if r=true then do let ok <-isTrue c env (eval c env);pure (ForInStep.yield ok)else pure (ForInStep.yield r)
theorem ZeJ{R:Result->Shared->Prop}{iter : Expr}(J:Nat->Shared->Prop)
  (turn:∀k s1,J k s1->wpAny (model prog w) A (pyNext f) (λr s2=>match r with
   |none=>R (.ok .next) s2
   |some v=>wpAny (model prog w) A (letOwnedTupleGo d f v) (λ_ s3=>wpAny (model prog w) A (assign d env v) (λ_ s4=>wpAny (model prog w) A (wT u env) (λok c =>
     if ok=true then wpAny (model prog w) A (eval y env) (λx C=>wpAny (model prog w) A (call (.builtin "list.append") [B,x]) (λ_ j=>∃m,m<k/\J m j) (λ_ _=>False) C) (λ_ _=>False) c
     else ∃m,m<k/\J m c) (λ_ _=>False) s4) (λ_ _=>False) s3) (λ_ _=>False) s2) (λ_ _=>False) s1)
  (k:Nat) (h:J k s):codeAny (model prog w) A (.compLoop (.ListComp y [⟨d,iter,u,0⟩] scope G) 0 f B env) R s:=by
 erw[codeAny_loop rfl J (λk s1 L=>?_) k h];erw[wpAny_noted ?_];rw[compTurn_list];erw[Sa (wpAny_standAt (Sa (VE (turn k s1 L) λr s2 i=>?_)))];cases r with
 |none=>exact Sb i
 |some v =>
  erw[Sa (VE i λ_ s3 I=>Sa (VE I λ_ s4 E=>Sa (VE E λok c g=>?_)))];cases ok with
  |false=>exact Sb ⟨rfl,g⟩
  |true=>exact Sa (Sa (VE g λx C H=>Sa (VE H λ_ j D=>Sb (Sb ⟨rfl,D⟩))))
abbrev XG(X:Cx)(N:OC)(scope:Scope)(cl:Oy)(C:Addr)(s0:Shared)(H0:Hp)(ex:OH)(pins:Ov):Cx :=
 {X with N:=N,s₀:=s0,H₀:=H0,env:=compEnvC scope cl C X.env,outer:=X.stack,stack:=X.stack,ex:=ex,fn:=λ_=>false,pn:=X.pn++pins,xe:=λ_ _=>False}
def W4(X:Cx)(scope:Scope)(cl:Oy):List Str->List (Option Nat)->Prop
 |[],[]=>True
 |_::N,none::fr=>W4 X scope cl N fr
 |y::N,some i::fr=>(X.N[i]? = some y/\(X.env.kindOf y=some .cell\/X.env.kindOf y=some .free)/\((relabel scope X.env).names.lookup y=some .cell\/(relabel scope X.env).names.lookup y=some .free) /\
   ∃c,X.env.cells.lookup y=some c/\cl.lookup y=some c)/\W4 X scope cl N fr
 |_,_=>False
def A4(fr:List (Option Nat))(c:St):St:=fr.map λo=>match o with|none=>none|some i=>(c[i]?).getD none
theorem W4.len:∀{N:OC} {fr:List (Option Nat)},W4 X scope cl N fr->fr.length=N.length
 |[],[],_=>rfl
 |_::N,none::fr,h=>by rw[Sy,Sy,W4.len (N:=N) h]
 |_::N,some i::fr,h=>by rw[Sy,Sy,W4.len (N:=N) h.2]
 |[],_::_,h=>h.elim
 |_::_,[],h=>h.elim
theorem W4.at{cl:Oy}:∀{N:OC} {fr:List (Option Nat)} {j:Nat},W4 X scope cl N fr->N[j]? = some y->(A4 fr d)[j]? = some (some v) ->
  ∃i:Nat,d[i]? = some (some v)/\X.N[i]? = some y/\(X.env.kindOf y=some .cell\/X.env.kindOf y=some .free)/\((relabel scope X.env).names.lookup y=some .cell\/(relabel scope X.env).names.lookup y=some .free) /\
   ∃c,X.env.cells.lookup y=some c/\cl.lookup y=some c
 |[],[],j,_,e,_=>by simp at e
 |[],_::_,_,h,_,_=>h.elim
 |_::_,[],_,h,_,_=>h.elim
 |_::N,none::fr,0,_,_,q=>by cases q
 |_::N,none::fr,j+1,h,e,q=>W4.at (N:=N) (fr:=fr) (j:=j) h e q
 |x::N,some i::fr,0,h,e,q=>by
  have g:x=y:=So e;subst g;have f:some ((d[i]?).getD none)=some (some v):=q;erw[⟨i,?_,h.1⟩];cases z:d[i]? with
  |none=>rw[z]at f;cases f
  |some o=>rw[z]at f;exact congrArg some (So f)
 |_::N,some i::fr,j+1,h,e,q=>W4.at (N:=N) (fr:=fr) (j:=j) h.2 e q
def VF(X:Cx):List (Str×Addr)->Prop
 |[]=>True
 |(y,c)::r=>X.env.cells.lookup y=some c/\VF X r
theorem VF.at:∀{cl:Oy},VF X cl->cl.lookup y=some c->X.env.cells.lookup y=some c
 |[],_,e=>by cases e
 |(z,d)::r,h,e=>by
  rw[List.lookup_cons]at e;cases q:y==z with
  |true =>
   rw[q]at e;have f:y=z:=by simpa using q
   have g:d=c:=So e;subst f g;exact h.1
  |false =>
   rw[q]at e;exact VF.at h.2 e
theorem M8{c:Type}{p:Str×c->Bool}{y:Str}{k:c}:∀{l:List (Str×c)},l.all p=true->l.lookup y=some k->p (y,k)=true
 |[],_,e=>by cases e
 |(z,d)::r,h,e=>by
  rw[List.all_cons,Bool.and_eq_true]at h;rw[List.lookup_cons]at e;cases q:y==z with
  |true =>
   rw[q]at e;have f:y=z:=by simpa using q
   have g:d=k:=So e;subst f g;exact h.1
  |false =>
   rw[q]at e;exact M8 h.2 e
section
variable{σ:St}{N:OC}{fr:List (Option Nat)}{cl:Oy}
def Zd.block{h':Heap}(I:Zd X pins σ H s)(c0:scope.kind=.function)(G:W4 X scope cl N fr)(h:VF X cl)
  (O:((relabel scope X.env).names.all λp=>!(p.2==.cell || p.2==.free) || (cl.lookup p.1).isSome)=true) (j:∀b∈ex,Vw X pins H b) (Z:∀b∈ex,b<s.heap.objs.size)
  (g:∀b o,s.heap.get? b=some o->h'.get? b=some o) (i:s.heap.objs.size<=C) (P:h'.Ns C m):Zd (XG X N scope cl C s H ex pins) [] (A4 fr σ) H {s with heap:=h',toks:=tk}:=by
 have J:∀b,b≠X.env.locals->b∉X.fs->b∉Yp X.stack:=λb h1 Y z=>(SE.mp (I.stkSub b z)).elim h1 Y;have U:∀b o,s.heap.get? b=some o->b≠C:=λb o e=>Sf (Si (Se e) i);refine⟨⟨I.ok.mod,c0,I.ok.glob,I.ok.blt,i,λx d0 c y D=>I.ok.inj x d0 c (h.at y) (h.at D),λx hx=>?_,(λ_ _ z=>nomatch z),I.ok.hd,I.ok.frames,.inl R,λb f=>⟨Sf (Si (Z b f) i),λx c e=>(j b f).2.2.2.2.1 x c (h.at e)⟩,
   I.bs,Sh I.ok.bsz I.sz,λb o e f=>?_,λb f=>J b (j b f).2.1 (j b f).2.2.1,I.stack,I.stkFree⟩,R,I.bare,Un.kept g,⟨m,P,λf0 x v y D e3=>?_⟩,λx c e=>?_,?_,λx c e=>I.freeC x c (h.at e),λp hp=>?_,I.hok.kept g,?_⟩
 have q:∃k,(relabel scope X.env).names.lookup x=some k/\(k=.cell\/k=.free):=hx.elim (λz=>⟨_,z,.inl R⟩) λz=>⟨_,z,.inr R⟩;ext⟨k,u,B⟩ q;have z:=M8 O u;have T:(cl.lookup x).isSome=true:=by
  rcases B with rfl|rfl;simpa using z;simpa using z
 exact Option.isSome_iff_exists.mp T;rcases(j b f).2.2.2.1 with z|z;exact I.ok.noex b o e z;exact Os (Si (Si (Se e) I.ok.bsz) z) (Sl _);obtain⟨e0,u,B,L,S,c,q5,q6⟩:=G.at y D;ext⟨m0,g0,b0⟩ I.loc;obtain⟨a0,r,l⟩:=b0 e0 x v B u (L.elim (λz=>.inr (.inl z)) λz=>.inr (.inr z));erw[⟨a0,r,.inr ⟨S,c,q6,?_⟩⟩];rcases l with⟨k,_⟩|⟨_,c',M,o,E,hd⟩;rcases L with z|z;rw[z]at k;cases k;rw[z]at k;cases k;rw[q5]at M;cases M;exact⟨o,g _ _ E,hd⟩;obtain⟨v,o,E,hd⟩:=I.cell x c (h.at e);exact⟨v,o,g _ _ E,hd⟩;exact I.hok.fresh i;have Q:p∈X.pn++pins:=by simpa using hp
 obtain⟨e,n,ne,nf,d⟩:=I.pin p Q;exact⟨g _ _ e,n,U _ _ e,J _ ne nf,d⟩;show(A4 fr σ).length=N.length;unfold A4;rw[Sv,G.len]
def Zd.trackS{ob:Obj}(I:Zd X pins σ H s)(ha:H a=none)(h:s.heap.get? a=some ob)(hd:ob.data=.seq vs n)
  (B:X.s₀.heap.get? a=none) (C:∀p∈X.pn++pins,p.1≠a) (x:Yi X.prog X.w (Zb H a o) s.heap a o):Zd X pins σ (Zb H a o) s:=by
 have nt:∀b u,H b=some u->b≠a:=λb u q=>Z1 q ha;erw[⟨I.ok,I.os,I.bare,⟨I.base.keep,I.base.slot,λb u e n D=>?_,I.base.there,λb g q=>?_,λb u g q=>?_,λb j q=>?_⟩,I.loc,I.cell,?_,λy c e=>?_,λp q=>?_,λb u q=>?_,I.len⟩];have ne:b≠a:=λz=>by rw[z,B]at e;cases e
 rw[Zm ne];exact I.base.free b u e n D;have z:=I.base.tups b g q;rwa[Zm (nt _ _ z)];have z:=I.base.frzs b u g q;rwa[Zm (nt _ _ z)];obtain⟨m,z⟩:=I.base.tbls b j q;exact⟨m,by rwa[Zm (nt _ _ z)]⟩;have ne:X.env.locals≠a:=λz=>by
  ext⟨m,⟨L,E,J,d,f,_⟩,_⟩ I.loc;rw[z,h]at d;cases d;rw[hd]at f;cases f
 rw[Zm ne];exact I.free;have ne:c≠a:=λz=>by
  obtain⟨v,G,d,f⟩:=I.cell y c e;rw[z,h]at d;cases d;rw[hd]at f;cases f
 rw[Zm ne];exact I.freeC y c e;obtain⟨e,n,r⟩:=I.pin p q;exact⟨e,by rwa[Zm (C p q)],r⟩;by_cases i:b=a;subst i;rw[Zj]at q;cases q;exact x;rw[Zm i]at q;exact(I.hok b u q).stay (λc v _ z=>z) (λc z=>by rwa[Zm (nt _ _ z)]) λc g z=>by rwa[Zm (nt _ _ z)]
end
def G5(X:Cx)(c:OD)(t:TT):Prop :=
 ∀(pins:Ov) (s:Shared) (σ:St) (H:Hp) (Q:Bool->Hp->Prop),Zd X pins σ H s->t σ H Q->wpAny (model X.prog X.w) X.A (wT c X.env) (TP X pins σ Q) X.xe s
def Wb:TT:=λ_ H Q=>Q true H
def Wu:G5 X [] Wb:=λ_ _ _ H _ I h=>wpAny_tests_nil ⟨H,I,h⟩
def G6(h:PT X c t):G5 X [c] t:=λpins s d H Q I q=>wpAny_tests_one (h pins s d H Q I q)
def Qj(Q:VK)(c:List V)(H:Hp):Prop:=∀p,H p=none->Q (.ref p) (Zb H p (.lst c))
def M9(fr:List (Option Nat))(I:TI)(g:TG)(M:TT)(E:TE):TE:=λB H Q=>I B H λJ D=>∃W:Nat->Nat->List V->St->Hp->Prop,(∃m,W 0 m [] (A4 fr B) D)/\∀i m c u H,W i m c u H ->
 (J.stop i H/\Qj Q c H) \/
 (J.go i H/\c.length<sizeLine/\∃N:List V->St->Hp->Prop,(∀j v d,N j v d->∃C,C<m/\W (i+1) C j v d)/\∀x d,J.yld i H x d->g x u d λf G=>M f G λb h=>if b=true then E f h λy L=>N (c++[y]) f L else N c f h)
def wU{iter : Expr}{cl:Oy}
  (hc:X.calm=true) (hi:PI X tg iter wi) (n1:closureFor scope X.env=pure cl) (r1:∀y∈scope.names,y.2≠.cell) (g0:scope.kind=.function)
  (e1:∀y∈scope.names,y.2=.local->scope.names.lookup y.1=some .local) (u1:W4 X scope cl N fr) (l0:VF X cl)
  (o1:((relabel scope X.env).names.all λp=>!(p.2==.cell || p.2==.free) || (cl.lookup p.1).isSome)=true)
  (hg:∀C s0 H0 ex pins,PG (XG X N scope cl C s0 H0 ex pins) tg g) (ht:∀C s0 H0 ex pins,G5 (XG X N scope cl C s0 H0 ex pins) e0 tt) (he:∀C s0 H0 ex pins,PE (XG X N scope cl C s0 H0 ex pins) h0 te)
  (hs:∀v,foldedSetIterable iter X.env v=pure v) (p1:Zd X pins Z H s) (h:M9 fr wi g tt te Z H Q)
  (l1:∀(D:Nat) (s2 s6:Shared) (j L:Hp) (fp:OH) (G:List V) (f:OB) (I:Nat) (O:St),s2.heap.objs.size=D->Zd X pins Z j s2->(∀b∈fp,Vw X pins j b)->Zd (XG X N scope cl (D+1) s2 j fp pins) [(D,{cls:=.type "list",dict:=none,data:=.seq (List.toArray f) I})] O L s6->L D=none->ZB G f->G.length<=sizeLine->Qj Q G L->(∀p∈X.pn++pins,p.1<D)->X.s₀.heap.get? D=none->compPost (model X.prog X.w) X.A X.xe j0 Qf (.ref D) (D+1) (.ok .next) s6) :
  wpAny (model X.prog X.w) X.A (comprehension (.ListComp h0 [⟨tg,iter,e0,0⟩] scope o0) scope X.env x1 (newList []) false (eval iter X.env) j0) Qf X.xe s:=by
 erw[wpAny_comprehension_free R hs n1 g0 e1 (Zx (hi pins s Z H _ p1 h) λxv s1 h1=>Zx h1 λy1 s2 h2=>?_)];ext⟨it,fp,tn,a2,j,e,M,T,k0,f2,W,⟨m0,w0⟩,turn⟩ h2;subst e;erw[wpAny_newObj_type (wpAny_newFunctionEnv r1 (λy hy=>nomatch hy) (λh4 d0 a0=>?_) g0)];dsimp only at d0 a0 ⊢;generalize E:s2.heap.objs.size=D at *;generalize hG:s2.heap.push {cls:=.type "list",dict:=none,data:=.seq ([]:OB).toArray} = u0 at d0 a0 ⊢;have hC:u0.objs.size=D+1:=by rw[<-hG,Heap.size_push,E]
 generalize b2:u0.objs.size=C at d0 a0 hC ⊢;subst hC;have f0:∀b o,s2.heap.get? b=some o->h4.get? b=some o:=λb o e=>by
  have lt:=Se e;rw[E]at lt;exact a0.extBut b o (Sf (Sn lt)) (Sc _ (hG ▸ Sc _ e))
 have t1:h4.get? D=some {cls:=.type "list",dict:=none,data:=.seq ([]:OB).toArray 0} :=
  a0.extBut _ _ (Sf (Sm _)) (Sc _ (hG ▸ E ▸ Sd _ R))
 have flt:∀b∈fp,b<D:=λb d=>by
  obtain⟨o,e,_⟩:=T.obj 0 _ k0 b d;have lt:=Se e;rw[E]at lt;exact lt
 have v1:∀b,b≠X.env.locals->b∉X.fs->b∉Yp X.stack:=λb h1 h2 z=>(SE.mp (M.stkSub b z)).elim h1 h2;have pl:∀p∈X.pn++pins,p.1<D:=λp B=>by
  have lt:=Se (M.pin p B).1;rw[E]at lt;exact lt
 have I4:∀tk,Zd (XG X N scope cl (D+1) s2 j fp pins) [] (A4 fr Z) j {s2 with heap:=h4,toks:=tk}:=λtk =>
  M.block g0 u1 l0 o1 f2 (λb d=>by rw[E];exact flt b d) f0 (by rw[E];exact Nat.le_succ _) d0
 have i0:∀{u:Hp} {o:Obj},(∀b∈fp,u b=none)->∀b∈fp,Vw (XG X N scope cl (D+1) s2 j fp pins) [(D,o)] u b:=λ{u o} hn b d=>by
  obtain⟨_,k1,U,_,P,k5⟩:=f2 b d;erw[⟨hn b d,Sf (Sn (flt b d)),v1 b k1 U,.inl d,λx c e=>P x c (l0.at e),λp B=>?_⟩];rcases SF.mp B with B|B;exact k5 p B;rw[SD.mp B];exact(Sf (flt b d)).symm
 have q1:D∉Yp X.stack:=λz=>by
  obtain⟨_,o,e,_⟩:=M.stack.mem z;have lt:=Se e;rw[E]at lt;exact Os lt (Sl _)
 have loop:∀tk,codeAny (model X.prog X.w) X.A (.compLoop (.ListComp h0 [⟨tg,iter,e0,0⟩] scope o0) 0 (.ref it) (.ref D) (compEnvC scope cl (D+1) X.env)) (compPost (model X.prog X.w) X.A X.xe j0 Qf (.ref D) (D+1)) {s2 with heap:=h4,toks:=tk}:=λtk=>by
  refine ZeJ (λk J=>∃i c0 u f I G,Zd (XG X N scope cl (D+1) s2 j fp pins) [] c0 u J /\
    J.heap.get? D=some {cls:=.type "list",dict:=none,data:=.seq (List.toArray f) I}/\u D=none/\ZB G f/\G.length<=sizeLine/\tn i J.heap/\(∀b∈fp,u b=none)/\W i k G c0 u) ?_ m0
   ⟨0,_,j,[],0,[],I4 tk,t1,M.hok.fresh (by rw[E];exact Sg _),.nil,Sk _,T.keep 0 _ _ k0 λb _ o e=>f0 b o e,λb d=>(f2 b d).1,w0⟩
  rintro k s5 ⟨i,O,L,f,I,G,I5,hL,v0,va,y0,t0,r0,w5⟩;have i1:∀x c,cl.lookup x=some c->c≠D:=λx c e z=>by
   obtain⟨v,q⟩:=M.cell x c (l0.at e);have lt:=q.lt;rw[E,z]at lt;exact Os lt (Sl _)
  have p0:Zd (XG X N scope cl (D+1) s2 j fp pins) [(D,{cls:=.type "list",dict:=none,data:=.seq (List.toArray f) I})] O L s5:=I5.pins_of λp B=>by
   rw[SD.mp B];exact⟨hL,v0,Sf (Sm _),q1,λv z=>by cases z⟩
  rcases turn i k G O L w5 with⟨stop,qn⟩|⟨go,c2,N1,z0,step⟩;erw[VE (T.done (XG X N scope cl (D+1) s2 j fp pins) R R R hc i _ s5 _ L _ p0 (i0 r0) t0 stop) λr s6 ⟨hr,I6⟩=>?_];subst hr;exact l1 D s2 s6 j L fp G f I O E M f2 I6 v0 va y0 qn pl (by
    cases z:X.s₀.heap.get? D with
    |none=>rfl
    |some o =>
     have lt:=Si (Se z) M.sz;rw[E]at lt;exact Os lt (Sl _))
  erw[VE (T.item (XG X N scope cl (D+1) s2 j fp pins) R R R hc i _ s5 _ L _ p0 (i0 r0) t0 go) λr s6 ⟨m1,hr,h6⟩=>?_];subst hr;erw[VE h6 λ_ Y ⟨x,H7,I7,r7,y7,n0,c1⟩=>?_];have w1:Zd (XG X N scope cl (D+1) s2 j fp pins) ([(D,{cls:=.type "list",dict:=none,data:=.seq (List.toArray f) I})]++QG fp Y.heap) O H7 Y:=I7.pinned (i0 c1) (T.obj _ _ n0);erw[VE (hg _ _ _ _ _ _ Y _ H7 x m1 _ w1 r7 (step x H7 y7)) λ_ s8 ⟨b0,H8,I8,q8⟩=>?_];erw[VE (ht _ _ _ _ _ _ s8 b0 H8 _ I8 q8) λok s9 ⟨H9,I9,q9⟩=>?_];have wk:∀{c0:St} {u:Hp} {J:Shared},Zd (XG X N scope cl (D+1) s2 j fp pins) ([(D,{cls:=.type "list",dict:=none,data:=.seq (List.toArray f) I})]++QG fp Y.heap) c0 u J ->
    tn (i+1) J.heap/\(∀b∈fp,u b=none)/\J.heap.get? D=some {cls:=.type "list",dict:=none,data:=.seq (List.toArray f) I}/\u D=none:=λ{c0 u J} J'=>by
   have pin:∀p∈([(D,{cls:=.type "list",dict:=none,data:=.seq (List.toArray f) I})]:Ov)++QG fp Y.heap,J.heap.get? p.1=some p.2/\u p.1=none:=λp B=>let ⟨e,n,_⟩:=J'.pin p (SG _ B);⟨e,n⟩;erw[⟨T.keep _ _ _ n0 λb d o e=>(pin (b,o) (SG _ (K3 d e))).1,λb d=>?_,(pin (D,_) (SH _ (SD.mpr R))).1,(pin (D,_) (SH _ (SD.mpr R))).2⟩];obtain⟨o,e,_⟩:=T.obj _ _ n0 b d;exact(pin (b,o) (SG _ (K3 d e))).2
  cases ok with
  |false =>
   obtain⟨m',hm,w9⟩:=z0 _ _ _ q9;obtain⟨k1,U,k3,P⟩:=wk I9;exact⟨m',hm,i+1,b0,H9,f,I,G,I9.pins_of (λ_ z=>nomatch z),k3,P,va,y0,k1,U,w9⟩
  |true =>
   erw[VE (he _ _ _ _ _ _ s9 b0 H9 _ I9 q9) λy S ⟨v,x0,q0,j1,f1⟩=>?_];obtain⟨m',hm,d1⟩:=z0 _ _ _ f1;obtain⟨k1,U,k3,P⟩:=wk q0;erw[call_meets F.slot_list_append ⟨_,k3,R⟩ F.entry_list_append (F.args_list_append_2 _ _) (PySem.list_append D f.toArray I y (by rw[SM,<-va.length];lia)) ⟨k3,?_⟩];have up:∀b o,b≠D->S.heap.get? b=some o->(S.heap.update D (Obj.mapSeq λz=>z.push y)).get? b=some o:=λb o d e=>(Heap.get?_update_other S.heap _ (Ne.symm d)).trans e;have b1:Zd (XG X N scope cl (D+1) s2 j fp pins) [] b0 x0 {S with heap:=S.heap.update D (Obj.mapSeq λz=>z.push y),toks:=S.toks} :=
    (q0.pins_of (pins':=[]) λ_ z=>nomatch z).turned up P (Sf (Sm _)) (.inr (by rw[E];exact Sg _)) i1 λp B=>by
     have a1:p∈X.pn++pins:=by simpa using B
     exact Sf (pl p a1)
   have q:=PySem.IsL.update k3 (λz=>z.push y);rw[show(List.toArray f).push y=(f++[y]).toArray by simp]at q;erw[⟨m',hm,i+1,b0,x0,f++[y],_,G++[v],b1,q,P,va.append (.cons j1 .nil),?_,T.keep _ _ _ k1 λb d o e=>up b o (Sf (flt b d)) e,U,d1⟩];rw[Su,Sw];lia
 exact codeAny_compStart_list (loop _) (T.self _ 0 _ _ _ (T.keep 0 _ _ k0 λb _ o e=>f0 b o e) (loop _))
def Wv{E iter : Expr}{cl:Oy}
  (x:X.calm=true) (hi:PI X E iter J) (l0:closureFor scope X.env=pure cl) (e0:∀y∈scope.names,y.2≠.cell) (g0:scope.kind=.function)
  (i0:∀y∈scope.names,y.2=.local->scope.names.lookup y.1=some .local) (Z:W4 X scope cl N fr) (m0:VF X cl)
  (Y:((relabel scope X.env).names.all λp=>!(p.2==.cell || p.2==.free) || (cl.lookup p.1).isSome)=true)
  (hg:∀C s0 i ex pins,PG (XG X N scope cl C s0 i ex pins) E g) (ht:∀C s0 i ex pins,G5 (XG X N scope cl C s0 i ex pins) M U) (he:∀C s0 i ex pins,PE (XG X N scope cl C s0 i ex pins) Q I)
  (hs:∀v,foldedSetIterable iter X.env v=pure v:=by intro _;rfl):PE X (.ListComp Q [⟨E,iter,M,0⟩] scope k0) (M9 fr J g U I):=by
 intro pins s S p0 n0 a0 j0;rw[eval_ListComp];erw[wU x hi l0 e0 g0 i0 Z m0 Y hg ht he hs a0 j0 λD s2 H H2 f fp d0 L T o0 hD I2 f2 c O va c0 qn pl hz=>?_];ext⟨m6,f0,_⟩ c.loc;erw[⟨m6,f0,λd j=>?_⟩];have P:d.get? D=some {cls:=.type "list",dict:=none,data:=.seq (List.toArray L) T}:=j.extBut _ _ (Sf (Sm _)) (c.pin (D,_) (SG _ (SD.mpr R))).1;have G:∀b o,s2.heap.get? b=some o->b≠D+1:=λb o e=>by
  have lt:=Se e;rw[hD]at lt;exact Sf (Sn lt)
 have nt:∀b u,f b=some u->b≠D+1:=λb u q z=>by
  have h0:=c.free;rw[z]at q;rw[show f (D+1)=none from h0]at q;cases q
 have un:Un (Yp X.stack) fp H2 f s2.heap d:=⟨λb o e n B h=>j.extBut b o (G b o e) (c.base.keep b o e n B h),
  λb o e n B h=>let ⟨sl,q⟩:=c.base.slot b o e n B h;⟨sl,j.extBut b _ (G b o e) q⟩,c.base.free,λb o e h=>let ⟨o',q⟩:=c.base.there b o e h;⟨o',j.extBut b _ (G b o e) q⟩,c.base.tups,c.base.frzs,c.base.tbls⟩
 have hok:Yf X.prog X.w f d:=λb u q=>(c.hok b u q).stay (λb0 v x e=>j.extBut b0 v (by
  rcases x with rfl|x;exact nt _ _ q;exact nt _ _ x) e) (λ_ z=>z) λ_ _ z=>z
 have I8:Zd X pins S f {H with heap:=d}:=I2.call' (s':={H with heap:=d}) c.os un hok c.bare λb B=>let ⟨_,k1,_,k3,k4,k5⟩:=f2 b B;⟨k3,k1,k4,k5⟩;have I9:Zd X pins S (Zb f D (.lst d0)) {H with heap:=d}:=I8.trackS O P R hz (λp hp=>Sf (pl p hp)) ⟨c0,L,T,va,P⟩;exact⟨.ref D,_,I9,R,qn D O⟩
def WL{a:Addr}{xs:List V}{g:TG}{M:TT}{G:TE}{J:St}{Q:VK}(h:Nat->List V->St->Hp->Prop)(S:h 0 [] J H)(hz:xs.length<=sizeLine)(O:∀i c j H,i<=xs.length->h i c j H->Ze K H a xs)
  (T:∀i x c j H,c.length<=i->xs[i]? = some x->h i c j H->g x j H λf D=>M f D λb B=>if b=true then G f B λy E=>(c++[y]).length<=i+1/\h (i+1) (c++[y]) f E else c.length<=i+1/\h (i+1) c f B)
  (hd:∀c j H,c.length<=xs.length->h xs.length c j H->Qj Q c H) :
  ∃W:Nat->Nat->List V->St->Hp->Prop,(∃m,W 0 m [] J H)/\∀i m c v H,W i m c v H ->
   ((Qb K a).stop i H/\Qj Q c H) \/
   ((Qb K a).go i H/\c.length<sizeLine/\∃N:List V->St->Hp->Prop,(∀u C d,N u C d->∃L,L<m/\W (i+1) L u C d)/\∀x d,(Qb K a).yld i H x d->g x v d λf D=>M f D λb B=>if b=true then G f B λy E=>N (c++[y]) f E else N c f B):=by
 erw[⟨λi m c j H=>m=xs.length - i/\i<=xs.length/\c.length<=i/\h i c j H,⟨xs.length,by simp,Sk _,Sk _,S⟩,?_⟩];rintro i m c v H ⟨rfl,P,ha,p⟩;have q:=O i c v H P p;by_cases I:i<xs.length;erw[.inr ⟨⟨xs,xs[i],q,by simp[I]⟩,(),λu C d=>u.length<=i+1/\h (i+1) u C d,λu C d z=>⟨xs.length - (i+1),(),R,I,z.1,z.2⟩,λx d y=>?_⟩];ext⟨e,y⟩ y;subst e;exact T i x c v _ ha (y xs q) p;have e:i=xs.length:=by lia
 subst e;exact .inl ⟨⟨xs,q,Sg _⟩,hd c v H ha p⟩
def G7{lo:Int}{n:Nat}{g:TG}{M:TT}{I:TE}{J:St}{Q:VK}(h:Nat->List V->St->Hp->Prop)(O:h 0 [] J H)(hz:n<=sizeLine)
  (P:∀i c u H,i<n->c.length<=i->h i c u H->g (.int (lo+i)) u H λf D=>M f D λb v=>if b=true then I f v λy G=>(c++[y]).length<=i+1/\h (i+1) (c++[y]) f G else c.length<=i+1/\h (i+1) c f v)
  (hd:∀c u H,c.length<=n->h n c u H->Qj Q c H) :
  ∃W:Nat->Nat->List V->St->Hp->Prop,(∃m,W 0 m [] J H)/\∀i m c B H,W i m c B H ->
   ((US lo n).stop i H/\Qj Q c H) \/
   ((US lo n).go i H/\c.length<sizeLine/\∃N:List V->St->Hp->Prop,(∀j C d,N j C d->∃L,L<m/\W (i+1) L j C d)/\∀x d,(US lo n).yld i H x d->g x B d λf D=>M f D λb v=>if b=true then I f v λy G=>N (c++[y]) f G else N c f v):=by
 erw[⟨λi m c u H=>m=n - i/\i<=n/\c.length<=i/\h i c u H,⟨n,by simp,Sk _,Sk _,O⟩,?_⟩];rintro i m c B H ⟨rfl,S,ha,p⟩;by_cases E:i<n;erw[.inr ⟨E,(),λj C d=>j.length<=i+1/\h (i+1) j C d,λj C d z=>⟨n - (i+1),(),R,E,z.1,z.2⟩,λx d y=>?_⟩];ext⟨e,y⟩ y;subst e y;exact P i c B _ E ha p;have e:i=n:=by lia
 subst e;exact .inl ⟨Sg _,hd c B H ha p⟩
mutual
inductive DV(K:Ox)(H:Hp):V->PyData->Prop
 |non:DV K H .non .none
 |bl (b:Bool):DV K H (.bl b) (.bool b)
 |int (i:Int):DV K H (.int i) (.int i)
 |str (x:Str) (h:(PyData.str x).canLay0=true):DV K H (.str x) (.str x)
 |lst {a:Addr} {xs:List V} {ds:List PyData} (h:Ze K H a xs) (r:YD K H xs ds):DV K H (.ref a) (.list ds)
 |tup {a:Addr} {xs:List V} {ds:List PyData} (h:Zk K H a xs) (r:YD K H xs ds):DV K H (.ref a) (.tuple ds)
inductive YD(K:Ox)(H:Hp):List V->List PyData->Prop
 |nil:YD K H [] []
 |cons {x:V} {xs:List V} {d:PyData} {ds:List PyData} (h:DV K H x d) (r:YD K H xs ds):YD K H (x::xs) (d::ds)
end
mutual
theorem DV.can:∀{x:V} {d:PyData},DV K H x d->d.canLay0=true
 |_,_,.non=>by simp only[PyData.canLay0]
 |_,_,.bl _=>by simp only[PyData.canLay0]
 |_,_,.int _=>by simp only[PyData.canLay0]
 |_,_,.str _ h=>h
 |_,_,.lst _ r=>by simp only[PyData.canLay0];exact YD.can r
 |_,_,.tup _ r=>by simp only[PyData.canLay0];exact YD.can r
theorem YD.can:∀{xs:List V} {ds:List PyData},YD K H xs ds->PyData.canLayAll0 ds=true
 |_,_,.nil=>by simp only[PyData.canLayAll0]
 |_,_,.cons h r=>by simp only[PyData.canLayAll0,Bool.and_eq_true];exact⟨DV.can h,YD.can r⟩
end
def Zk.sameT{c:Hp}{a:Addr}{xs:List V}(e:Zc H c)(h:Zk K H a xs):Zk K c a xs:=by
 rcases h with(h|⟨o,h⟩)|h;exact .inl (.inl (e _ _ h));exact .inl (.inr ⟨o,e _ _ h⟩);exact .inr h
mutual
theorem DV.same{c:Hp}(s:Zc H c):∀{x:V} {d:PyData},DV K H x d->DV K c x d
 |_,_,.non=>.non
 |_,_,.bl b=>.bl b
 |_,_,.int i=>.int i
 |_,_,.str x h=>.str x h
 |_,_,.lst h r=>.lst (s.seq h) (YD.same s r)
 |_,_,.tup h r=>.tup (Zk.sameT s h) (YD.same s r)
theorem YD.same{c:Hp}(s:Zc H c):∀{xs:List V} {ds:List PyData},YD K H xs ds->YD K c xs ds
 |_,_,.nil=>.nil
 |_,_,.cons h r=>.cons (DV.same s h) (YD.same s r)
end
section
variable{σ:St}
mutual
theorem DV.reads(I:Zd X pins σ H s):∀{x:V} {d:PyData} {u:Value},DV X.K H x d->ZL x u->∃f,Reads s.heap u d f
 |_,_,_,.non,r=>by cases r;exact⟨_,.none⟩
 |_,_,_,.bl b,r=>by cases r;exact⟨_,.bool b⟩
 |_,_,_,.int i,r=>by ext⟨t,rfl⟩ r;exact⟨_,.int i t⟩
 |_,_,_,.str x _,r=>by ext⟨t,rfl⟩ r;exact⟨_,.str x t⟩
 |_,_,_,.lst h c,r=>by
  cases r;obtain⟨B,v,g,_⟩:=I.list h;ext⟨o,n,y,j,_,hd⟩ g;obtain⟨f,q⟩:=YD.reads I c v;exact⟨_,.list y j hd (by simpa using q)⟩
 |_,_,_,.tup h c,r=>by
  cases r;obtain⟨B,v,g,_⟩:=I.tuple h;ext⟨o,y,j,n,hd⟩ g;obtain⟨f,q⟩:=YD.reads I c v;exact⟨_,.tuple y j hd (by simpa using q)⟩
theorem YD.reads(I:Zd X pins σ H s):∀{xs:List V} {ds:List PyData} {us:OB},YD X.K H xs ds->ZB xs us->∃c,ReadsAll s.heap us ds c
 |_,_,_,.nil,.nil=>⟨_,.nil⟩
 |_,_,_,.cons h r,.cons v vs=>by
  obtain⟨c,d⟩:=DV.reads I h v;obtain⟨bs,f⟩:=YD.reads I r vs;exact⟨_,.cons d f⟩
end
end
inductive Na(K:Ox)(neg:Bool)(x:V)(y:V)(H:Hp)(Q:VK):Prop|mk dx dy (_:DV K H x dx) (_:DV K H y dy) (_:dx.depth<=60) (_:Q (.bl (if neg then !PyData.eqv dx dy else PyData.eqv dx dy)) H)
def G8(B:X.A.units+64<cLine):YB X (compareOp .Eq) (Na X.K false):=by
 intro pins s E H x y v u Q I g i h;ext⟨C,G,d,c,hd,q⟩ h;obtain⟨D,f⟩:=d.reads I g;obtain⟨bs,j⟩:=c.reads I i;exact SeqAt.compareEq_reads f j d.can c.can () ⟨.bl _,H,I,R,q⟩
def Li(B:X.A.units+64<cLine):YB X (compareOp .NotEq) (Na X.K true):=by
 intro pins s E H x y v u Q I g i h;ext⟨C,G,d,c,hd,q⟩ h;obtain⟨D,f⟩:=d.reads I g;obtain⟨bs,j⟩:=c.reads I i;exact SeqAt.compareNe_reads f j d.can c.can () ⟨.bl _,H,I,R,q⟩
section
variable{x:Str}
def Y8(c:Gl X x)(hm:∃t,X.mg x=some (.int k t))(hd:(x==("__debug__" : Str))=false:=by lia):PE X (.Name x pos) (tC (.int k)):=by
 ext⟨t,hm⟩ hm;exact yL c hm ⟨t,R⟩ hd
def wV:TE:=λ_ H Q=>∀p,H p=none->Q (.ref p) (Zb H p (.dK []))
def Uz:PE X (.Dict [] [] pos) wV:=by
 intro pins s d H Q I h;have lt:sysModules<s.heap.objs.size:=Nat.lt_trans (show sysModules<mainGlobals by lia) (I.mod.glob.keeps I.bk).lt;have c:Yi X.prog X.w (Zb H s.heap.objs.size (.dK [])) (s.heap.push {cls:=.type "dict",data:=.dict #[]}) s.heap.objs.size (.dK []) :=
  ⟨Sk _,beq_eq_false_iff_ne.mpr (Ne.symm (Sf lt)),[],.nil,Heap.DictOf.new s.heap⟩
 exact wpAny_Dict_empty ⟨.ref s.heap.objs.size,_,I.laid (t':=s.toks) (λ_ _ q=>Sc _ q) (Sg _) c,R,h _ (I.hok.fresh (Sg _))⟩
def A5(x:Str):[x].Nodup:=by simp
def YW:Expr->Bool
 |.Starred _ _=>false
 |_=>true
def Nb(h:YW e=true):starEach (e::c) env=(false,eval e env)::starEach c env:=by
 cases e<;>first|rfl|cases h
def ZM(ha:PE X e c)(f:PA X d t)(h:YW e=true:=by rfl):PA X (e::d) (ZU c t):=xF ha f (Nb h)
end
end L2
namespace K1
open PySem L2
def Yq:V->Int->Int->Bool
 |.int i,lo,hi=>decide (lo<=i/\i<=hi)
 |_,_,_=>false
inductive Kd(H:Hp):V->String->Prop where
 |non:Kd H .non "NoneType"
 |bl (b:Bool):Kd H (.bl b) "bool"
 |int (i:Int):Kd H (.int i) "int"
 |str (x:Str):Kd H (.str x) "str"
 |lst {a:Addr} {xs:List V} (e:H a=some (.lst xs)):Kd H (.ref a) "list"
 |tup {a:Addr} {xs:List V} (e:H a=some (.tup xs)):Kd H (.ref a) "tuple"
 |dK {a:Addr} {kvs:List (ZF×V)} (e:H a=some (.dK kvs)):Kd H (.ref a) "dict"
def Kd.ty(k:Kd H v T):XW K H v (.type T):=by
 cases k with
 |non=>exact .non
 |bl b=>exact .bl b
 |int i=>exact .int i
 |str x=>exact .str x
 |lst e=>exact .lst e
 |tup e=>exact .tup e
 |dK e=>exact .dK e
def Kd.same(s:Zc H c)(k:Kd H v T):Kd c v T:=by
 cases k with
 |non=>exact .non
 |bl b=>exact .bl b
 |int i=>exact .int i
 |str x=>exact .str x
 |lst e=>exact .lst (s _ _ e)
 |tup e=>exact .tup (s _ _ e)
 |dK e=>exact .dK (s _ _ e)
def wW(k:Kd H v T):W.kitOne K (.type T) (.type "int")=some (decide (T="int" \/ T="bool")):=by
 cases k<;>rfl
def Lj(k:Kd H v T):W.kitOne K (.type T) (.type "bool")=some (decide (T="bool")):=by
 cases k<;>rfl
def Nc(k:Kd H v T):W.kitOne K (.type T) (.type "str")=some (decide (T="str")):=by
 cases k<;>rfl
def Zo{c A B:Prop}[Decidable c](h:c)(a:A):if c then A else B:=by rwa[SW h]
def Zi{c A B:Prop}[Decidable c](h:¬ c)(b:B):if c then A else B:=by rwa[SV h]
def Zt(h:H p=none)(o:HO):Zc H (Zb H p o):=λb u q=>by rwa[Zm (Z1 q h)]
def ZeK{d:Type}(g:d->Bool)(l:List d):(l.map λc=>V.bl (g c))=(l.map g).map V.bl:=by rw[Oe];rfl
def ZeL:V->Bool
 |.int _=>true
 |_=>false
structure ZlH(tp:Addr)(k:Int)(H H':Hp):Prop where
 keep:∀b o,b≠tp->H b=some o->H' b=some o
 tape:H' tp=some (.lst [.int k])
def wX(c:0<=y)(h1:y<18446744073709551616):K5 x y:=.inr ⟨(),()⟩
def VG{p:V->Prop}{xs:List V}{d:Int}(h:∀v∈xs,p v)(f:0<=d)(h1:d<xs.length):∃v,Xy xs d=some v/\p v:=by
 have c:d.toNat<xs.length:=by lia
 erw[⟨xs[d.toNat],?_,h _ (Oi c)⟩];have q:Xy xs ((d.toNat:Nat):Int)=some xs[d.toNat]:=Qh (Ss c);rw[show((d.toNat:Nat):Int)=d by lia]at q;exact q
end K1
namespace K1
open PySem L2
def wY(z:Str):z.cps.toList.length=z.length:=by simp[Str.length]
def ZeM(z:Str)(j:Nat)(h:j<=z.length):Txt.slice z none (some (j:Int))=⟨(z.cps.toList.take j).toArray⟩:=by
 have e:=StrLaws.sliceText_to (x:=z) (j:=(j:Int)) ⟨(),by rw[wY];lia⟩;rw[List.drop_zero,show((j:Int) - 0).toNat=j by lia]at e;exact e
def ZeN(z:Str)(j:Nat)(h:j<=z.length):Txt.slice z (some (j:Int)) none=⟨(z.cps.toList.drop j).toArray⟩:=by
 have e:=StrLaws.sliceText_from (x:=z) (i:=(j:Int)) ⟨(),by rw[wY];lia⟩;rw[show((j:Int)).toNat=j by lia,SZ (by rw[SA];lia)]at e;exact e
end K1
namespace L2
open PySem PySem.Spec PyProof.Rows
section
variable{m:Str}{o e:Expr}{es:OD}{ta:TE}{t:TA}{apos:Pos}
inductive ZeO(X:Cx)(m:Str)(t:TA)(σ:St)(Q:VK)(x:V)(H1:Hp):Prop|mk (a C dx:Addr) (fs:List (Str×V)) (f:Addr) (fd:OJ) (k:Nat) (ps:OC) (sp:Sp) (CX:X7) (E:XK) (_:x=.ref a) (_:H1 a=some (.ins C dx fs)) (_:fs.lookup m=none) (_:YO X.K C) (_:Ym X.K C m f) (_:Zp X.prog X.w X.K X.mg X.base CX k f fd ps sp) (_:Yn k X.A) (_:XF X.K fd ps []) (_:WJ CX X E) (_:t σ H1 λvs H2=>sp (.ref a::vs) H2 Q E)
def wZ(X:Cx)(m:Str)(ta:TE)(t:TA):TE:=λc H Q=>ta c H λx d=>ZeO X m t c Q x d
def A6(M:PE X o ta)(ha:PA X (e::es) t)
  (D:starEach (e::es) X.env=(false,eval e X.env)::starEach es X.env:=by rfl) (G:(backTo pos (starEach es X.env)).any (·.1)=false:=by rfl)
  (O:eval (.Call (.Attribute o m apos) (e::es) [] pos) X.env=(do
   let j <-eval o X.env
   standAt apos.atName
   let (f,first) <-holding [j] (getMethod j m pl)
   callWith pos f first (backTo pos (starEach (e::es) X.env)) (backToKw pos (keywordEach [] X.env))):=by rfl) :
  PE X (.Call (.Attribute o m apos) (e::es) [] pos) (wZ X m ta t):=by
 intro pins s i H Q I h;erw[W.methodCall_KW (pl:=pl) (Zx (M pins s i H _ I h) λu s1 z=>?_) O];ext⟨x,v,d,B,a,C,dx,fs,f,Z,k,Y,sp,U,E,ex,J,l,c,hm,F,P,S,L,q⟩ z;subst ex;obtain rfl:u=Value.ref a:=B;erw[A1 d J c hm l ?_];erw[W.callWith_K (first:=[.ref a]) (h₀:=X.base) I.ok.mod.kin hm.kp (Zx (ha pos pins s1 i v _ d q) λus s2 ⟨vs,T,g,r,y⟩=>⟨g.kIn,?_⟩) D G];exact Qc (us:=.ref a::us) (vs:=.ref a::vs) (dvs:=[]) F P S .nil L g (.cons R r) (by rwa[Oc])
def A7(B:PE X o ta)
  (D:eval (.Call (.Attribute o m apos) [] [] pos) X.env=(do
   let g <-eval o X.env
   standAt apos.atName
   let (f,first) <-holding [g] (getMethod g m pl)
   callWith pos f first (backTo pos (starEach [] X.env)) (backToKw pos (keywordEach [] X.env))):=by rfl) :
  PE X (.Call (.Attribute o m apos) [] [] pos) (wZ X m ta YP):=by
 intro pins s y H Q I h;erw[W.methodCall_KW (pl:=pl) (Zx (B pins s y H _ I h) λu s1 z=>?_) D];ext⟨x,L,d,i,a,C,S,fs,f,P,k,O,sp,M,E,ex,j,l,c,hm,F,G,J,v,q⟩ z;subst ex;obtain rfl:u=Value.ref a:=i;erw[A1 d j c hm l ?_];exact W.callWith_K0 (first:=[.ref a]) d.kIn hm.kp (Qc (us:=[.ref a]) (vs:=[.ref a]) (dvs:=[]) F G J .nil v d (.cons R .nil) q)
structure Nd(K:Ox)(C:Addr):Prop where
 makes:W.makesIn K C=true
 init:W.findIn K (.ref C) "__init__"=some (some (.builtin "object.__init__"))
 kp:W.keepIn K (.ref C)=true
def ZeP(C:Addr):TE:=λ_ H Q=>∀x c,H x=none->H c=none->c≠x->Q (.ref x) (Zb (Zb H c (.own x)) x (.ins C c []))
def vA(M:Nd X.K C)(i:Gl X x)(hm:X.mg x=some (.ref C))(f:(x==("__debug__" : Str))=false:=by lia):PE X (.Call (.Name x p) [] [] pos) (ZeP C):=by
 intro pins s j H Q I h;erw[wpAny_Call_Name_kw (UQ I i hm ?_ f)];erw[W.callWith_K0 I.kIn M.kp ?_];have q:=h (s.heap.objs.size+1) s.heap.objs.size (I.hok.fresh (Nat.le_succ _)) (I.hok.fresh (Sg _)) (Sf (Sm _));have g:=Zd.made (C:=C) I;have Y:=W.makes_of (M:=model X.prog X.w) I.kIn M.makes;erw[wpAny_call (ZdG (C:=C) I.kIn M.makes M.init (λself=>W.Looks.of_pure (W.oi_bind self)) ?_)];have g1:((s.heap.push W.emptyDict).push (W.instObj C s.heap.objs.size)).get? (s.heap.objs.size+1)=some (W.instObj C s.heap.objs.size):=by
  have:=Sd (s.heap.push W.emptyDict) (o:=W.instObj C s.heap.objs.size) R;rw[Heap.size_push]at this;exact this
 have d:W.Looks (model X.prog X.w) ((s.heap.push W.emptyDict).push (W.instObj C s.heap.objs.size)) (typeOf (.ref (s.heap.objs.size+1))) (.ref C):=(W.Looks.ld g1).andThen .now;have c:W.Looks (model X.prog X.w) ((s.heap.push W.emptyDict).push (W.instObj C s.heap.objs.size)) (isInstance (.ref (s.heap.objs.size+1)) (.type "object")) true :=
  d.andThen (Y.top.keeps λb o e=>Sc _ (Sc _ e))
 erw[codeAny_call_builtin W.oi_plain W.entry_oi ?_];erw[@W.check_slot (model X.prog X.w) _ _ _ "object.__init__" "object" "__init__" (.ref (s.heap.objs.size+1)) [] [] _ W.oi_kind W.oi_split c (W.oi_args _) ?_];rw[W.oi_run];exact Sb (And.intro rfl ⟨.ref _,_,g,rfl,q⟩)
end
theorem Ng(ns:OE):∀k,k<=ns.length->preSum (λi=>ns.getD i 0) k=(ns.take k).sum
 |0,_=>by simp[preSum]
 |k+1,h=>by
  have c:=Ng ns k ();show preSum (λi=>ns.getD i 0) k+ns.getD k 0=_;rw[c,S0,List.sum_append];have d:k<ns.length:=by lia
  rw[List.getD_eq_getElem?_getD,Ss d];simp
def ZeQ(hc:X.calm=true):Y4 X (.builtin "sum") (λxs H Q=>∃(p:Addr) (ns:OE),xs=[.ref p]/\Ze X.K H p (ns.map V.int)/\(∀n∈ns,0<=n/\n<=1000000)/\ns.length<=1000/\Q (.int ns.sum) H):=by
 intro pins s σ H xs us Q I r a0;ext⟨p,ns,rfl,M,L,hl,q⟩ a0;obtain⟨b0,rfl,U⟩:=Wq r;cases U;obtain⟨d,B,f,hz⟩:=I.list M;have hlen:=B.length;obtain⟨o,n,u,_⟩:=id f;have P:p≠s.heap.objs.size:=Sf (Se u);have bound:∀k,k<=ns.length->0<=(ns.take k).sum/\(ns.take k).sum<=1000000*k:=by
  intro k;induction k with
  |zero=>intro _;simp
  |succ k ih =>
   intro G;have D:k<ns.length:=by lia
   have:=ih ();have b:=L ns[k] (Oi D);rw[S0,List.sum_append,Ss D];simp only[Option.toList_some,List.sum_cons,List.sum_nil];lia
 erw[call_sum_walk (wpAny_pyIter_list f.isList ?_)];erw[⟨s.heap.objs.size,[s.heap.objs.size,p],[s.heap.objs.size],d.toArray.size,_,_,λi=>ns.getD i 0,R,Walks.list (A:=X.A.in1) (I.ok.hd hc) _ _ P d.toArray,⟨⟨_,Sd _ R,R,R⟩,?_⟩,?_,?_,?_,λZ tk t' G=>?_⟩];ext⟨T,h,Y⟩ f.isList;exact⟨T,Sc _ h,Y⟩;intro b g;show b<(s.heap.push _).objs.size;rw[Heap.size_push];rcases SE.mp g with rfl|g;exact Sm _;rw[SD.mp g];exact Sn (Se u);intro i v O;have C:d[i]? = some v:=by simpa using O
 have y:i<ns.length:=by
  have:=(Sr.mp C).1;rw[<-hlen,Sv]at this;exact this
 obtain⟨w,c,h⟩:=B.get (i:=i) (x:=.int ns[i]) (by rw[Oa,Ss y];rfl);rw[C]at c;cases c;ext⟨t,rfl⟩ h;exact⟨t,by dsimp only;rw[List.getD_eq_getElem?_getD,Ss y];rfl⟩;intro j J;have E:j<ns.length:=by
  rw[SM,<-hlen,Sv]at J;exact J
 have b1:=L ns[j] (Oi E);have b2:=bound (j+1) ();have c:ns.getD j 0=ns[j]:=by rw[List.getD_eq_getElem?_getD,Ss E];rfl
 rw[Ng ns (j+1) ()];dsimp only;rw[c];have b3:(1000000:Int)*((j+1:Nat):Int)<=1000000000:=by lia
 unfold InLong
 first|omega
 have S:∀b o,s.heap.get? b=some o->Z.get? b=some o:=λb o e=>G b o (λz=>by
  have c:=Se e;rw[SD.mp z]at c;exact Os c (Sl _)) (Sc _ e)
 have e:preSum (λi=>ns.getD i 0) d.toArray.size=ns.sum:=by
  rw[SM,<-hlen,Sv,Ng ns _ (Sg _),List.take_length]
 rw[e];exact⟨.int _,H,I.kept (t':=tk) S,⟨_,R⟩,q⟩
structure ZlI(K:Ox)(x qual:Str)(st:Stmt)(f:Addr)(fd:OJ)(D:Addr)(ds:OB):Prop where
 ex:∃(oc:Value) (od:OF) (kV doc pm:Value) (an:OF) (cdv ct:Value) (osl:Oz),
  fd=W.fnOf x qual (QI st) (Uy st) (Zz st) (.ref D) kV doc pm an cdv ct/\K.lookup f=some ⟨oc,od,.func fd,osl⟩/\W.codeIn K cdv qual=true
 dt:∃(o:Obj) (n:Nat),K.lookup D=some o/\o.data=.seq ds.toArray n
 kp:W.keepIn K (.ref f)=true
end L2
namespace K1
open PySem L2
inductive RT where
 |always
 |week (b:Nat)
 |span (a b:Nat) (r:RT)
 |each (n:Nat) (ss:OG)
 |either (r s:RT)
 |both (r s:RT)
 |but (ds:OG) (r:RT)
def RT.weight:RT->Nat
 |.always|.week _|.each _ _=>1
 |.span _ _ r|.but _ r=>1+r.weight
 |.either r s|.both r s=>1+(r.weight+s.weight)
def RT.depth:RT->Nat
 |.always|.week _|.each _ _=>1
 |.span _ _ r|.but _ r=>1+r.depth
 |.either r s|.both r s=>1+max r.depth s.depth
def RT.runs:RT->Nat->Bool
 |.always,_=>true
 |.week b,d=>b/2 ^ (d%7)%2==1
 |.span a b r,d=>decide (a<=d) && decide (d<=b) && r.runs d
 |.each n c,d=>c.contains (d%n)
 |.either r s,d=>r.runs d || s.runs d
 |.both r s,d=>r.runs d && s.runs d
 |.but ds r,d=>r.runs d != ds.contains d
theorem RT.depth_pos:∀r:RT,1<=r.depth
 |.always|.week _|.each _ _=>Sg 1
 |.span _ _ r|.but _ r=>On 1 _
 |.either r s|.both r s=>On 1 _
structure RC where
 rule:Addr
 week:Addr
 span:Addr
 each:Addr
 either:Addr
 both:Addr
 but:Addr
abbrev YL(l:OG):List V:=l.map λn=>V.int (n:Nat)
inductive ZS(c:RC)(K:Ox)(H:Hp):Addr->RT->Prop
 |always {a dx:Addr} (h:H a=some (.ins c.rule dx [])):ZS c K H a .always
 |week {a dx:Addr} {b:Nat} (h:H a=some (.ins c.week dx [("bits",.int b)])) (hb:b<=127):ZS c K H a (.week b)
 |span {a dx i:Addr} {x y:Nat} {r:RT} (h:H a=some (.ins c.span dx [("first",.int x),("last",.int y),("inner",.ref i)])) (hx:x<=y) (hy:y<=9999) (hi:ZS c K H i r):ZS c K H a (.span x y r)
 |each {a dx p:Addr} {n:Nat} {ss:OG} (h:H a=some (.ins c.each dx [("length",.int n),("starts",.ref p)])) (hn:1<=n) (hn2:n<=28) (hp:Zk K H p (YL ss)):ZS c K H a (.each n ss)
 |either {a dx i j:Addr} {r s:RT} (h:H a=some (.ins c.either dx [("one",.ref i),("other",.ref j)])) (hi:ZS c K H i r) (hj:ZS c K H j s):ZS c K H a (.either r s)
 |both {a dx i j:Addr} {r s:RT} (h:H a=some (.ins c.both dx [("one",.ref i),("other",.ref j)])) (hi:ZS c K H i r) (hj:ZS c K H j s):ZS c K H a (.both r s)
 |but {a dx p i:Addr} {ds:OG} {r:RT} (h:H a=some (.ins c.but dx [("days",.ref p),("inner",.ref i)])) (hp:Zk K H p (YL ds)) (hi:ZS c K H i r):ZS c K H a (.but ds r)
def ZS.same(s:Zc H j)(h:ZS c K H a r):ZS c K j a r:=by
 induction h with
 |always h=>exact .always (s _ _ h)
 |week h y=>exact .week (s _ _ h) y
 |span h v u _ f=>exact .span (s _ _ h) v u f
 |each h hn x i=>exact .each (s _ _ h) hn x (Zk.sameT s i)
 |either h _ _ g d=>exact .either (s _ _ h) g d
 |both h _ _ g d=>exact .both (s _ _ h) g d
 |but h i _ f=>exact .but (s _ _ h) (Zk.sameT s i) f
theorem G9(d:Nat):∀l:List Nat,Qi (.int d) (YL l)=l.contains d
 |[]=>rfl
 |x::r=>by
  have c:=G9 d r;show(Ws (.int (x:Int)) (.int (d:Int)) || Qi (.int (d:Int)) (YL r))=_;rw[c,List.contains_cons];congr 1;show((x:Int)==(d:Int))=(d==x);rw[Bool.eq_iff_iff,beq_iff_eq,beq_iff_eq];lia
def Lk(l:OG):(YL l).all WR=true:=by
 rw[List.all_map];exact List.all_eq_true.mpr λ_ _=>R
def ZeR(b k:Nat):(Builtin.bitAnd ((b:Int)/2 ^ k) 1==1)=(b/2 ^ k%2==1):=by
 have e:(b:Int)/2 ^ k=((b/2 ^ k:Nat):Int):=by
  rw[SY,Int.natCast_pow];rfl
 rw[e,PyProof.Rows.bitAnd_pp (Int.natCast_nonneg _) ()];have c:(((b/2 ^ k:Nat):Int).toNat &&& (1:Int).toNat:Nat)=b/2 ^ k%2:=by
  rw[Int.toNat_natCast];exact Nat.and_one_is_mod _
 rw[c,Bool.eq_iff_iff,beq_iff_eq,beq_iff_eq];lia
end K1
namespace L2
open PySem PySem.Spec PyProof.Rows
def A8:Option Int->Int->Int
 |none,y=>y
 |some x,y=>if y>x then y else x
def VH:Option Int->List Int->Option Int
 |b,[]=>b
 |b,y::r=>VH (some (A8 b y)) r
def vB(S:Addr)(h:Heap)(b:Option Int):Prop:=∃(d:Array Value) (c:Nat),h.get? S=some {cls:=.type "list",dict:=none,data:=.seq d c,slots:=#[]}/\match b with
 |none=>d=#[]
 |some x=>∃t,d=#[.int x t,.int x t]
def ZeS(d:Value)(b:Option Int)(v:Value):Prop:=match b with
 |none=>v=d
 |some x=>∃t,v=.int x t
def ZeT{R:Result->Shared->Prop}{I:Addr}{fp wr:OH}{n:Nat}{P:Nat->Value->Prop}{St:Nat->Heap->Prop}{nm:Str}{d:Value}{g:Nat->Int}
  (W:Walks prog w A.in1 I fp wr n P St) (Z:∀i v,P i v->∃t,v=.int (g i) t) {S:Addr} (out:S∉fp) :
  ∀(l:OE) (j:Nat) (s:Shared) (b:Option Int),j+l.length=n->(∀i y,l[i]? = some y->y=g (j+i))->St j s.heap->vB S s.heap b ->
  (∀v h' tk,ZeS d (VH b l) v->(∀a o,a∉wr->a≠S->s.heap.get? a=some o->h'.get? a=some o)->R (.ok (.ret v)) {s with heap:=h',toks:=tk}) ->
  codeAny (model prog w) A (.builtin "max.loop" ⟨[.ref I,.none,.ref S],[(nm,d)]⟩) R s:=by
 have Q:S∉wr:=λz=>out (W.sub _ z);have L:(toString "max" ++ toString ".loop" : String)="max.loop" := by lia
 intro l;induction l with
 |nil =>
  intro j s b E H st m q;obtain rfl:j=n:=E;obtain⟨Y,c,e,z⟩:=id m;apply codeAny_builtin PySem.F.entry_max_loop;rw[Around.under_plainId PySem.F.plain_max_loop];apply Sa;apply wpAny_seqItems e rfl;apply Sa;apply wpAny_tryCatch;apply W.done s _ _ st;intro h' tk k;cases b with
  |none =>
   subst z;apply Sa;apply wpAny_rule;apply Sb;exact q d h' tk rfl λa o h _ B=>k a o h B
  |some x =>
   ext⟨t,rfl⟩ z;apply Sa;erw[wpAny_updateSeq (k S _ Q e) rfl ?_];apply Sa;apply wpAny_letGo;apply Sb;exact q _ _ tk ⟨t,rfl⟩ λa o h f B=>(Heap.get?_update_other _ _ (Ne.symm f)).trans (k a o h B)
 |cons y l ih =>
  intro j s b E H st m q;obtain⟨Y,c,e,z⟩:=id m;have U:j<n:=by rw[<-E,Sy];lia
  have J:y=g j:=H 0 y rfl;apply codeAny_builtin PySem.F.entry_max_loop;rw[Around.under_plainId PySem.F.plain_max_loop];apply Sa;apply wpAny_seqItems e rfl;apply Sa;apply wpAny_tryCatch;apply W.item j s _ _ U st;intro v h' tk pv T k;obtain⟨u,rfl⟩:=Z j v pv;have C:=k S _ Q e;have next:∀(f:Heap),vB S f (some (A8 b y))->(∀a o,a≠S->h'.get? a=some o->f.get? a=some o)->codeAny (model prog w) A (.builtin "max.loop" ⟨[.ref I,.none,.ref S],[(nm,d)]⟩) R {s with heap:=f,toks:=tk}:=λf m2 M =>
   ih (j+1) {s with heap:=f,toks:=tk} _ (by rw[<-E,Sy];lia) (λi X hy=>(H (i+1) X hy).trans (by congr 1;lia))
    (W.frame _ _ _ T λa ha o ho=>M a o (λz=>out (z ▸ ha)) ho) m2 λv2 B a0 r k3=>q v2 B a0 r λa o h O b0=>k3 a o h O (M a o O (k a o h b0))
  cases b with
  |none =>
   subst z;show wpAny _ _ (updateSeq S (λ_=>#[.int (g j) u,.int (g j) u]) >>= _) _ _ _;apply Sa;erw[wpAny_updateSeq C rfl ?_];rw[L];apply Sb;erw[⟨plainId_quiet PySem.F.plain_max_loop _,next _ ⟨_,_,Heap.get?_update_self _ C rfl,u,?_⟩ λa o h f=>(Heap.get?_update_other _ _ (Ne.symm h)).trans f⟩];rw[J];rfl
  |some x =>
   ext⟨t,rfl⟩ z;show wpAny _ _ (tryCatch (holding [.int (g j) u,.int (g j) u] (richCompare .Gt (.int (g j) u) (.int x t) >>= _)) _ >>= _) _ _ _;apply Sa;apply wpAny_tryCatch;apply wpAny_holding;apply Sa;erw[CmpOf.ints_gt (P:=λi v=>∃t,v=.int (if i=0 then g j else x) t) (λi=>if i=0 then g j else x) (λ_ _ z=>z) 0 1 _ _ _ _ _ ⟨_,rfl⟩ ⟨_,rfl⟩ ?_];apply Sa;apply wpAny_holding;apply wpAny_truthy_bool;apply Sa;apply wpAny_letGo;apply Sb;by_cases D:g j>x;rw[SW (show(λi G:Nat=>decide ((if i=0 then g j else x)>if G=0 then g j else x)) 0 1=true from SQ D)];apply Sa;erw[wpAny_updateSeq C rfl ?_];apply Sa;apply wpAny_letGo;rw[L];apply Sb;erw[⟨plainId_quiet PySem.F.plain_max_loop _,next _ ⟨_,_,Heap.get?_update_self _ C rfl,u,?_⟩ λa o h f=>(Heap.get?_update_other _ _ (Ne.symm h)).trans f⟩];rw[show A8 (some x) y=g j by rw[J];exact SW D];rw[SV (show ¬(λi G:Nat=>decide ((if i=0 then g j else x)>if G=0 then g j else x)) 0 1=true from λz=>D (SS z))];apply Sa;apply wpAny_letGo;rw[L];apply Sb;erw[⟨plainId_quiet PySem.F.plain_max_loop _,next _ ⟨_,_,C,t,?_⟩ λa o _ f=>f⟩];rw[show A8 (some x) y=x by rw[J];exact SV D]
def ZeU(a v:Value):argsOk "max" ⟨[a],[(OK "default",v)]⟩:=by unfold argsOk;kernel_rfl
def ZeV{E:St}{Q:VK}{p:Addr}{ns:OE}{d:Int}{f:Tok}(Z:X.calm=true)(I:Zd X pins E H s)(L:Ze X.K H p (ns.map V.int))(q:Q (.int ((VH none ns).getD d)) H) :
  wpAny (model X.prog X.w) X.A (call (.builtin "max") [.ref p] [(OK "default",.int d f)]) (EP X pins E Q) X.xe s:=by
 obtain⟨G,C,j,hz⟩:=I.list L;have hlen:=C.length;obtain⟨o,n,J,_⟩:=id j;have M:p≠s.heap.objs.size:=Sf (Se J);have O:(toString "max" ++ toString ".loop" : String)="max.loop" := by lia
 erw[kmb_tree PySem.F.kind_max PySem.F.plain_max PySem.F.entry_max (ZeU _ _) ?_];show wpAny _ _ (Builtin.Builtins.bindParams "max" ["key","default"] 0 ⟨[],[(OK "default",.int d f)]⟩ >>= _) _ _ s;apply Sa;erw[wpAny_of_eq (show Builtin.Builtins.bindParams "max" ["key","default"] 0 ⟨[],[(OK "default",.int d f)]⟩=pure [none,some (.int d f)] from R) ?_];apply Sa;apply Sb;apply Sa;erw[wpAny_pyIter_list j.isList ?_];apply Sa;erw[wpAny_newObj_type ?_];rw[O];erw[Sb ⟨plainId_quiet PySem.F.plain_max_loop _,?_⟩];erw[ZeT (fp:=[s.heap.objs.size,p]) (wr:=[s.heap.objs.size]) (g:=λi=>ns.getD i 0) (Walks.list (A:=X.A.in1) (I.ok.hd Z) _ _ M G.toArray) ?_ ?_ ns 0 _ none ?_ ?_ ?_ ?_ ?_];intro i v h;have D:G[i]? = some v:=by simpa using h
 have B:i<ns.length:=by
  have:=(Sr.mp D).1;rw[<-hlen,Sv]at this;exact this
 obtain⟨w,c,u⟩:=C.get (i:=i) (x:=.int ns[i]) (by rw[Oa,Ss B];rfl);rw[D]at c;cases c;ext⟨t,rfl⟩ u;exact⟨t,by rw[List.getD_eq_getElem?_getD,Ss B];rfl⟩;intro hm;have c:(s.heap.push {cls:=.type "list_iterator",data:=.fields #[.ref p,.int 0 0]}).objs.size=s.heap.objs.size+1:=Heap.size_push ..;have lt:=Se J;rcases SE.mp hm with z|z;have:s.heap.objs.size+1=s.heap.objs.size:=c.symm.trans z;lia;have:s.heap.objs.size+1=p:=c.symm.trans (SD.mp z);rw[<-this]at lt;exact Os lt (Og.mpr (Nat.le_succ _));rw[SM,<-hlen,Sv,Nat.zero_add];intro i a0 Y;rw[Nat.zero_add,List.getD_eq_getElem?_getD,Y];rfl;erw[⟨⟨_,Sc _ (Sd _ R),R,R⟩,?_⟩];ext⟨S,u,T⟩ j.isList;exact⟨S,Sc _ (Sc _ u),T⟩;exact⟨_,_,Sd _ R,R⟩;intro v U tk r k;have P:∀b o,s.heap.get? b=some o->U.get? b=some o:=λb o e=>k b o (λz=>by
   have c:=Se e;rw[SD.mp z]at c;exact Os c (Sl _)) (λz=>by
   have c:=Se (Sc {cls:=.type "list_iterator",data:=.fields #[.ref p,.int 0 0]} e);rw[z]at c;exact Os c (Sl _)) (Sc _ (Sc _ e))
 have h:∃y,v=.int ((VH none ns).getD d) y:=by
  cases e:VH none ns with
  |none=>rw[e]at r;exact⟨f,r⟩
  |some x=>rw[e]at r;exact r
 ext⟨y,rfl⟩ h;exact⟨.int _,H,I.kept (t':=tk) P,⟨_,R⟩,q⟩
inductive ZeW(K:Ox)(Q:VK)(vs:List V)(zs:List V)(H2:Hp):Prop|mk (p:Addr) (ns:OE) (d:Int) (_:vs=[.ref p]) (_:zs=[.int d]) (_:Ze K H2 p (ns.map V.int)) (_:Q (.int ((VH none ns).getD d)) H2)
def ZeX(K:Ox)(t tk:TA):TE:=λc H Q=>t c H λd f=>tk c f λzs g=>ZeW K Q d zs g
def ZeY(B:X.calm=true)(E:Gl X "max") (hm:X.mg "max"=none) (y:bootBuiltins "max"=some (.builtin "max"))
  (ha:PA X (e::f) t) (G:PK X g tk) (M:(backToKw c (keywordEach g X.env)).all (·.1.isSome)=true:=by rfl) (v:(backToKw c (keywordEach g X.env)).filterMap (·.1)=[OK "default"]:=by rfl)
  (T:starEach (e::f) X.env=(false,eval e X.env)::starEach f X.env:=by rfl)
  (S:(backTo c (starEach (e::f) X.env)).any (·.1)=false:=by rfl) (U:(backToKw c (keywordEach g X.env)).any (·.1.isNone)=false:=by rfl) :
  PE X (.Call (.Name "max" p) (e::f) g c) (ZeX X.K t tk):=by
 intro pins s i H Q I h;erw[wpAny_Call_Name_kw (Q2 I E hm y ?_ () ())];erw[callWith_builtin_kwB S U (evalArgs_kw2 M (Zx (ha c pins s i H _ I h) λus s1 ⟨vs,x,D,r,q⟩=>?_) T)];erw[Zx (G c pins s1 i x _ D q) λY s2 ⟨zs,Z,O,J,C⟩=>?_];rw[v];ext⟨l,ns,d,rfl,rfl,j,P⟩ C;obtain⟨u,rfl,L⟩:=Wq r;cases L;obtain⟨u,rfl,td,rfl⟩:=Wq J;exact ZeV B O j P
open PySem
abbrev UW(xs:Array Nat):Prop:=xs.toList.Pairwise (· < ·)
def Ll{xs:Array Nat}(h:UW xs)(f:i<k)(c:k<xs.size):xs.getD i d<xs.getD k d:=by
 have q:=List.pairwise_iff_getElem.mp h i k (by simpa using Nat.lt_trans f c) (by simpa using c) f;simpa [Array.getD,Nat.lt_trans f c,c]using q
theorem Nh{xs:Array Nat}(h:UW xs):∀(n lo hi:Nat),hi - lo<=n->lo<=hi->hi<=xs.size->(∀i,i<lo->xs.getD i j<j)->(∀i,hi<=i->i<xs.size->j<=xs.getD i j) ->
  SetTable.below.go xs j n lo hi<=xs.size/\(∀i,i<SetTable.below.go xs j n lo hi->xs.getD i j<j)/\∀i,SetTable.below.go xs j n lo hi<=i->i<xs.size->j<=xs.getD i j
 |0,lo,hi,hn,u,g,h1,f=>by
  have e:lo=hi:=by lia
  subst e;exact⟨g,h1,f⟩
 |n+1,lo,hi,hn,u,g,h1,f=>by
  unfold SetTable.below.go;by_cases c:lo<hi;rw[SW c];dsimp only;by_cases d:xs.getD ((lo+hi)/2) j<j;rw[SW d];erw[Nh h n _ hi () () g (λi v=>?_) f];by_cases e:i=(lo+hi)/2;rwa[e];exact Nat.lt_trans (Ll h (show i<(lo+hi)/2 by lia) ()) d;rw[SV d];erw[Nh h n lo _ () () () h1 (λi v x=>?_)];by_cases e:i=(lo+hi)/2;rw[e];lia;have:=Ll (d:=j) h (show(lo+hi)/2<i by lia) x;lia;rw[SV c];have e:lo=hi:=by lia
  subst e;exact⟨g,h1,f⟩
def Ni{xs:Array Nat}(h:UW xs):SetTable.below xs j<=xs.size/\(∀i,i<SetTable.below xs j->xs.getD i j<j)/\∀i,SetTable.below xs j<=i->i<xs.size->j<=xs.getD i j :=
 Nh h _ 0 _ () (Sk _) (Sg _) (λi z=>Os z (Nat.not_lt_zero _)) (λi a b=>by lia)
def ZeZ(h:UW xs)(hn:xs[SetTable.below xs j]?≠some j):UW (SetTable.insertAt xs (SetTable.below xs j) j):=by
  obtain⟨D,y,u⟩:=Ni (j:=j) h;show List.Pairwise _ _;rw[SetTable.toList_insertAt];have get:∀i (c:i<xs.size),xs.getD i j=xs.toList[i]'(by simpa using c):=λi c=>by simp[Array.getD,c]
  have v:∀b∈xs.toList.drop (SetTable.below xs j),j<b:=λb f=>by
    obtain⟨i,c,rfl⟩:=List.getElem_of_mem f;rw[SA]at c;have hz:SetTable.below xs j+i<xs.size:=by simpa using(show SetTable.below xs j+i<xs.toList.length by lia)
    rw[List.getElem_drop,<-get _ hz];have g:=u _ (On (SetTable.below xs j) i) hz;erw[Nat.lt_of_le_of_ne g λe=>?_];by_cases B:i=0
    · subst B
      erw[hn ?_];rw[Nat.add_zero]at e hz;rw[Array.getElem?_eq_getElem hz];have:=get _ hz;rw[<-e]at this;simpa using this.symm
    · have l:=Ll (d:=j) h (show SetTable.below xs j<SetTable.below xs j+i by lia) hz
      have C:=u _ (Sg _) (show SetTable.below xs j<xs.size by lia);lia
  erw[List.pairwise_append.mpr ⟨h.sublist (List.take_sublist _ _),List.pairwise_cons.mpr ⟨v,h.sublist (List.drop_sublist _ _)⟩,λa ha b f=>?_⟩];have x:a<j:=by
    obtain⟨i,c,rfl⟩:=List.getElem_of_mem ha;rw[Sx]at c
    have hz : i < xs.size := by have : xs.toList.length=xs.size := by simp
                                lia
    rw[List.getElem_take,<-get _ hz];exact y i ()
  rcases SE.mp f with rfl|f;exact x;exact Nat.lt_trans x (v b f)
structure Qk(t:OI):Prop where
 du:t.dummies=#[]
 ri:t.plain=true->UW t.place
def vC(j:Nat):SetTable.has #[] j=false:=rfl
def Ze0{t:OI}(h:t.slot j=.empty):t.place[SetTable.below t.place j]?≠some j:=by
 intro e;unfold SetTable.slot at h;dsimp only at h;rw[e]at h;simp at h
def Ze1{t:OI}(c:Qk t):t.slot j≠.dummy:=by
 unfold SetTable.slot;rw[c.du];dsimp only;split;intro z;cases z;rw[vC];intro z;cases z
theorem vD{t:OI}(u:Qk t):∀(n:Nat) (p:SetTable.Probe) (j:Nat) (d:Option Nat),p.dummy=none->SetTable.probe.go t g h n p=some (.empty j d)->t.slot j=.empty/\d=none
 |0,p,j,d,_,e=>by cases e
 |n+1,p,j,d,f,e=>by
  unfold SetTable.probe.go at e;cases c:t.slot p.j with
  |empty =>
   rw[c]at e;injection e with e;injection e with v x;subst v;exact⟨c,x.symm.trans f⟩
  |dummy=>exact Os c (Ze1 u)
  |live i =>
   rw[c]at e;dsimp only at e;split at e;injection e with e;cases e;erw[vD u n _ j d ?_ e];unfold SetTable.advance;split;exact f;exact f
def Ze2{t:OI}(d:Qk t)(f:Array (Int×Value))(h:Int)(x:Value):Qk (layNew t f h x).2.1/\(layNew t f h x).2.1.led=t.led:=by
 unfold layNew;cases c:t.freeSlot h with
 |none=>exact⟨⟨R,λz=>by cases z⟩,rfl⟩
 |some q =>
  ext⟨j,wd⟩ q;have v:t.slot j=.empty:=by
   unfold SetTable.freeSlot at c;split at c;rename_i B y i;obtain⟨u,rfl⟩:=vD d _ _ _ _ R i;injection c with c;injection c with g C;rwa[<-g];cases c
  dsimp only;unfold SetTable.orStandIn;split;erw[⟨⟨?_,λz=>?_⟩,R⟩];show(if SetTable.has t.dummies j=true then _ else t.dummies)=#[];rw[d.du,vC];rfl;exact ZeZ (d.ri z) (Ze0 v);exact⟨⟨R,λz=>by cases z⟩,rfl⟩
def Ze3{t:OI}(x:Qk t)(d:Array (Int×Value))(n:Nat):Qk (relayAll t d n).2.1/\(relayAll t d n).2.1.led=t.led:=by
 unfold relayAll;cases c:t.relaid (d.map (·.1)) n with
 |none=>exact⟨⟨R,λz=>by cases z⟩,rfl⟩
 |some q =>
  ext⟨B,u⟩ q;dsimp only;split;unfold SetTable.relaid SetTable.laid at c;cases g:SetTable.layClean (SetTable.sizeAbove n - 1) (d.map (·.1))with
  |none=>rw[g]at c;cases c
  |some ow =>
   rw[g]at c;injection c with c;injection c with h v;subst h;erw[⟨⟨R,λ_=>?_⟩,R⟩];show List.Pairwise _ _;rw[List.toList_toArray];rw[List.map_filterMap];erw[List.Pairwise.sublist (l₂:=List.range (SetTable.sizeAbove n - 1+1)) ?_ List.pairwise_lt_range];have i:∀l:List Nat,List.Sublist (l.filterMap λj=>Option.map (λp:Nat×Nat=>p.1) ((ow.getD j none).map λy=>(j,y))) l:=by
    intro l;induction l with
    |nil=>exact .slnil
    |cons a r f =>
     rw[List.filterMap_cons];cases ow.getD a none with
     |none=>exact f.cons _
     |some y=>exact f.cons_cons _
   exact i _
  exact⟨⟨R,λz=>by cases z⟩,rfl⟩
open PySem
def Xi(e:Int×Value):Int:=match e.2 with
 |.int k _=>k
 |_=>0
def vE(h:ElemsOf (intKind prog w) l){e:Int×Value}(d:e∈l):∃t,e.2=.int (Xi e) t:=by
 obtain⟨⟨k,c,_⟩,_⟩:=h e d;obtain⟨t,q⟩:=Value.isInt_shape (k:=k) (v:=e.2) c;erw[⟨t,?_⟩];unfold Xi;rw[q]
def Ze4(h:ElemsOf (intKind prog w) l){e:Int×Value}(c:e∈l)(q:(intKind prog w).is k e.2=true):Xi e=k:=by
 obtain⟨t,q⟩:=Value.isInt_shape (k:=k) (v:=e.2) q;unfold Xi;rw[q]
def Xj(prog:Program)(w:World)(h:Heap)(a:Addr)(ks:OE):Prop:=∃(o:Obj) (es:Array (Int×Value)) (ep:Nat) (t:OI),
 h.get? a=some o/\o.ExactSet/\o.data=.set es ep t/\ElemsOf (intKind prog w) es.toList/\t.fits es.size=true/\Qk t/\(w.params.followText "set-order"=false->t.led=true) /\
 (es.toList.map Xi).Nodup/\(∀k,k∈es.toList.map Xi↔k∈ks)/\es.size<=ks.length
def Xj.keep{h h':Heap}(x:Xj prog w h a ks)(k:∀o,h.get? a=some o->h'.get? a=some o):Xj prog w h' a ks :=
 let ⟨o,es,ep,t,ho,r⟩:=x
 ⟨o,es,ep,t,k _ ho,r⟩
def vF{h:Heap}{o:Obj}{c : Array (Int×Value)}{t' : SetTable}{ks:OE}(y:h.get? a=some o)(i:o.ExactSet)(hd:o.data=.set x d t)
  (j:ElemsOf (intKind prog w) c.toList) (v:t'.fits c.size=true) (u:Qk t') (f:w.params.followText "set-order"=false->t'.led=true) (nd:(c.toList.map Xi).Nodup)
  (mem:∀k,k∈c.toList.map Xi↔k∈ks) (sz:c.size<=ks.length) :
  (h.update a (Obj.putSet c t')).get? a=some {o with data:=.set c (d+1) t'}/\Xj prog w (h.update a (Obj.putSet c t')) a ks:=by
 have g:(h.update a (Obj.putSet c t')).get? a=some {o with data:=.set c (d+1) t'}:=by
  have q:=Heap.get?_update_self (Obj.putSet c t') y (by rw[putSet_of c t' hd];rfl);rw[putSet_of c t' hd]at q;exact q
 exact⟨g,_,c,d+1,t',g,i,R,j,v,u,f,nd,mem,sz⟩
def Ze5{c d:Array (Int×Value)}(p:List.Perm d.toList c.toList):d.size=c.size:=by
 have:=p.length_eq;simpa using this
def Ze6{ks:OE}(hS:Xj prog w s.heap a ks)(hr:ks.length+1<scanBound)
  (h:∀b h',Heap.SameBut a s.heap h'->Xj prog w h' a (ks++[k])->Q b {s with heap:=h'}):wpAny (model prog w) A (setAddHashed a (.int k tk) ((intKind prog w).hash k)) Q E s:=by
 ext⟨o,d,ep,t,v,M,hd,j,D,ht,T,nd,mem,sz⟩ hS;have hz:d.size<scanBound:=by lia
 have X:(intKind prog w).is k (.int k tk)=true:=intKind_is _ _ _ _;unfold setAddHashed setAddHashedIn;erw[wpAny_holding (Sa (wpAny_setState_of v hd D ?_))];dsimp only;rw[byScan_of (knd:=intKind prog w) (x:=.int k tk) R hz j];simp only[↓reduceIte];unfold setAddByScan;erw[Sa (Sa (wpAny_rule (Sa (wpAny_setScan_of X v hd D j ?_))))];cases hc:List.findIdx? (λe=>(intKind prog w).is k e.2) d.toList with
 |some d0 =>
  dsimp only;obtain⟨hj,hp,_⟩:=List.findIdx?_eq_some_iff_getElem.mp hc;have O:k∈d.toList.map Xi:=SI.mpr ⟨d.toList[d0],Oi hj,Ze4 j (Oi hj) hp⟩;have q:=h false s.heap (Heap.SameBut.refl a s.heap) ⟨o,d,ep,t,v,M,hd,j,D,ht,T,nd,λg=>by
   rw[SF,SD,mem g];exact⟨.inl,λz=>z.elim id λe=>by rw[e];exact(mem k).mp O⟩,by rw[Su];lia⟩
  exact Sb (Sb q)
 |none =>
  dsimp only;have O:k∉d.toList.map Xi:=λz=>by
   obtain⟨e,he,ek⟩:=SI.mp z;have q:=List.findIdx?_eq_none_iff.mp hc e he;obtain⟨te,ee⟩:=vE j he;rw[ee,ek,intKind_is]at q;cases q
  have U:∀(b:Bool) {s1:Shared} {L:OA},L Unit.unit s1->wpAny (model prog w) A (match b with|true=>rule "set.scan.the-table-gave-way" | false=>pure Unit.unit) L E s1 :=
   λb s1 L q=>by
    cases b;exact Sb q;exact wpAny_rule q
  have pm:=layNew_perm t d ((intKind prog w).hash k) (.int k tk);have G:=layNew_fits t d ((intKind prog w).hash k) (.int k tk);obtain⟨y,lm⟩:=Ze2 ht d ((intKind prog w).hash k) (.int k tk);generalize layNew t d ((intKind prog w).hash k) (.int k tk)=b0 at pm G y lm ⊢;ext⟨c,f,wd,gv⟩ b0;dsimp only at pm G y lm ⊢;rw[Array.toList_push]at pm;have S:ElemsOf (intKind prog w) c.toList:=(j.push X R).perm pm;have km:List.Perm (c.toList.map Xi) (d.toList.map Xi++[k]):=by
   have:=pm.map Xi;rw[SK]at this;exact this
  have A5:(c.toList.map Xi).Nodup:=km.nodup_iff.mpr (List.nodup_append.mpr ⟨nd,by simp,λa ha b u=>by
   rw[SD]at u;subst u;intro e;subst e;exact O ha⟩)
  have a0:∀g,g∈c.toList.map Xi↔g∈ks++[k]:=λg=>by
   rw[km.mem_iff,SF,SF,mem g]
  have f0:c.size=d.size+1:=by
   have:=pm.length_eq;simpa using this
  have z1:c.size<=(ks++[k]).length:=by rw[Su,Sw];lia
  have Z:w.params.followText "set-order"=false->f.led=true:=λz=>lm.trans (T z);erw[Sa (U _ ?_)];have tail:∀{I:Option Bool->Shared->Prop},(∀h',Heap.SameBut a s.heap h'->Xj prog w h' a (ks++[k])->I (some true) {s with heap:=h'}) ->
    wpAny (model prog w) A (do
     storeSet a c f
     if (!wd && f.tooFull)=true then do
      (match (relayAll f c (SetTable.grown c.size)).2.2 with|true=>rule "set.scan.the-table-gave-way" | false=>pure Unit.unit)
      storeSet a (relayAll f c (SetTable.grown c.size)).1 (relayAll f c (SetTable.grown c.size)).2.1
      pure (some true)
     else pure (some true)) I E s:=by
   intro I P;erw[Sa (wpAny_storeSet_of v hd ?_ (fits_of_scanBound ()))];obtain⟨g1,i1⟩:=vF (prog:=prog) (w:=w) v M hd S G y Z A5 a0 z1;have Y:=Heap.SameBut.update s.heap a (Obj.putSet c f);split;have i:=relayAll_perm f c (SetTable.grown c.size);have C:=relayAll_fits f c (SetTable.grown c.size);obtain⟨B,J⟩:=Ze3 y c (SetTable.grown c.size);generalize relayAll f c (SetTable.grown c.size)=c0 at i C B J ⊢;ext⟨g0,t3,e0⟩ c0;dsimp only at i C B J ⊢;have s2:=Ze5 i;erw[Sa (U _ (Sa (wpAny_storeSet_of g1 R ?_ (fits_of_scanBound ()))))];obtain⟨_,i2⟩:=vF (prog:=prog) (w:=w) (ks:=ks++[k]) g1 M R (S.perm i) C B (λz=>J.trans (Z z)) ((i.map Xi).nodup_iff.mpr A5) (λg=>by rw[(i.map Xi).mem_iff];exact a0 g) ();exact Sb (P _ (Y.trans (Heap.SameBut.update _ a _)) i2);exact Sb (P _ Y i1)
  split;erw[Sa ?_];rw[hashByValue_scannable 8 (show Value.scannable (.int k tk)=true from R)];erw[Sb ?_];show wpAny _ _ _ _ _ _;exact tail λh' u H=>Sb (h true h' u H);erw[Sa (Sb ?_)];exact tail λh' u H=>Sb (h true h' u H)
section
variable{R:Result->Shared->Prop}{I:Addr}{fp wr:OH}{G:Array GenState->Array GenState->Prop}{n:Nat}{P:Nat->Value->Prop}{St:Nat->Shared->Prop}
def Ze7(W:WalksS prog w A.in1 I fp wr G n P St)(S:Addr)(j:S∉fp)(val:Nat->Int)(J:∀i v,P i v->∃t,v=.int (val i) t)(d:n+1<scanBound) :
  ∀(k i:Nat) (s:Shared),n - i=k->i<=n->St i s->Xj prog w s.heap S ((List.range i).map val)->(∀s',Moved (S::wr) G s s'->Xj prog w s'.heap S ((List.range n).map val)->R (.ok (.ret .none)) s') ->
   codeAny (model prog w) A (.builtin "set.update.loop" ⟨[.ref S,.ref I],[]⟩) R s:=by
 have nw:S∉wr:=λz=>j (W.sub _ z);have h:∀b∈wr,b∈S::wr:=λb z=>SB _ z;intro k;induction k with
 |zero =>
  intro i s C c st g f;obtain rfl:i=n:=by lia
  erw[codeAny_builtin PyProof.Rows.F.entry_set_update_loop ?_];rw[Around.under_plainId PyProof.Rows.F.plain_set_update_loop _];erw[Sa (m:=pyNext (.ref I)) (W.done s _ _ st λs' hm=>?_)];exact Sb (f s' (hm.mono h) (g.keep λo e=>hm.heap S o nw e))
 |succ k D =>
  intro i s C c st g f;have lt:i<n:=by lia
  erw[codeAny_builtin PyProof.Rows.F.entry_set_update_loop ?_];rw[Around.under_plainId PyProof.Rows.F.plain_set_update_loop _];erw[Sa (m:=pyNext (.ref I)) (W.item i s _ _ lt st λv s' E y hm=>?_)];obtain⟨tk,rfl⟩:=J i v E;have B:=g.keep λo e=>hm.heap S o nw e;erw[Sa (m:=holding [Value.int (val i) tk] (setAdd S (.int (val i) tk))) (wpAny_holding ?_)];unfold setAdd;erw[wpAny_holding (Sa ((intKind prog w).pyHash (k:=val i) (intKind_is _ _ _ _) ?_))];erw[Ze6 (s:={s' with toks:=s'.toks+1}) B (by rw[Sv,List.length_range];lia) λb M u c=>?_];have e:((List.range i).map val)++[val i]=(List.range (i+1)).map val:=by rw[Oj,SK];rfl
  rw[e]at c;erw[Sb ⟨plainId_quiet PyProof.Rows.F.plain_set_update_loop _,D (i+1) _ () lt (W.frame _ s' _ _ y (Nat.le_succ _) λb d o e=>?_) c λL x H=>?_⟩];rwa[u.2 b (λz:b=S=>j (by rw[<-z];exact d))];erw[f L (Moved.trans W.gtrans ((hm.mono h).then_heap (Nat.le_succ _) λb o d e=>?_) x) H];rwa[u.2 b (λz:b=S=>d (by rw[z];exact SC))]
end
open PySem
theorem Nj{c:Type}:∀(l:List c) (i:Nat) (x:c),l[i]? = some x->List.Perm (x::l.eraseIdx i) l
 |[],i,x,h=>by cases h
 |a::r,0,x,h=>by cases h;exact .refl _
 |a::r,i+1,x,h=>(List.Perm.swap a x _).trans ((Nj r i x h).cons a)
theorem vG{c:Type}(f:Nat->Nat):∀(n k:Nat) (l:List c) (out:Array c),l.length=n->List.Perm (pickOrder.go f n k l out).toList (out.toList++l)
 |0,k,l,out,h=>by
  cases l with
  |nil=>unfold pickOrder.go;rw[Oc]
  |cons a r=>cases h
 |n+1,k,l,out,h=>by
  unfold pickOrder.go;have d:f k%l.length<l.length:=Oo _ ();rw[Ss d];dsimp only;have p:=Nj l _ _ (Ss d);erw[(vG f n (k+1) _ _ ?_).trans ?_];have:=p.length_eq;rw[Sy]at this;lia;rw[Array.toList_push,Od];exact List.Perm.append_left _ p
def Nk{c:Type}(f:Nat->Nat)(xs:Array c):List.Perm (pickOrder f xs).toList xs.toList:=by
 have:=vG f xs.size 0 xs.toList #[] (by simp);rw[show(#[]:Array c).toList++xs.toList=xs.toList from R]at this;exact this
def Ze8(hn:n≠0)(h:∀i d,i<n->Q i {s with drawn:=d}):wpAny M A (choose c n) Q E s:=λf p g=>by
 show Sem.wp M f (Sem.choose c n Sem.pure) _ _ p s;unfold Sem.wp;erw[⟨hn,?_⟩];unfold Sem.wp;exact h _ _ (Oo _ (Nat.pos_of_ne_zero hn))
theorem vH{M:Model}{f:Type}:∀(n:Nat) (xs:List f) (s:Shared) {Q:List f->Shared->Prop},xs.length=n->(∀ys d,List.Perm ys xs->Q ys {s with drawn:=d})->wpAny M A (drawOrder n xs) Q E s
 |0,xs,s,Q,c,h=>by
  cases xs with
  |nil=>exact Sb (h [] s.drawn .nil)
  |cons a r=>cases c
 |n+1,xs,s,Q,c,h=>by
  cases xs with
  |nil=>cases c
  |cons a r =>
   unfold drawOrder;erw[Sa (Ze8 (by simp) λi d g=>?_)];rw[Ss g];dsimp only;have p:=Nj (a::r) _ _ (Ss g);erw[Sa (vH n _ _ (by have:=p.length_eq;rw[Sy]at this;lia) λys j u=>?_)];exact Sb (h _ j ((u.cons _).trans p))
def Ww(h:Heap)(I:Addr)(f:Value)(i:Nat)(p n c:Nat):Prop:=∃o,h.get? I=some o/\o.cls=.type "set_iterator" /\ o.data=.fields #[f,.int i 0,.ref p,.int n 0,.int c 0]
def Ww.ty(x:Ww s.heap I f i p n c):s.TypeIs (.ref I) "set_iterator" := let ⟨o,ho,hc,_⟩:=x;⟨o,ho,hc⟩
def W5(h:Heap)(p d:Nat)(c:Array (Int×Value))(t:OI):Prop:=∃o,h.get? p=some o/\o.ExactSet/\o.data=.set c d t/\t.fits c.size=true
def UX:Slot "set_iterator" "__next__" "set_iterator.__next__" := .of (owner := "set_iterator") (n := "__next__") (by rw[typeLookup_type,builtinLookup_eq_fast];kernel_rfl) () () () (by first|exact .inl ()|exact .inr ()) (by rw[isSubtype_type];kernel_rfl)
def Lm:entryFor table "set_iterator.__next__"=some Builtin.«set_iterator.__next__»:=entryFor_of_tree (by kernel_rfl)
def Ln(a:Value):argsOk "set_iterator.__next__" ⟨[a],[]⟩:=by unfold argsOk;kernel_rfl
def Ze9:entryFor table "set.__iter__"=some Builtin.«frozenset.__iter__»:=entryFor_alias (id' := "frozenset.__iter__") (by kernel_rfl) R () (by kernel_rfl)
def vI:typeLookup (.type "set_iterator") "__next__"=pure (some (.builtin "set_iterator.__next__")):=UX.lookup
def Zfa{h:Array (Int×Value)}{t:OI}(Y:W5 s.heap p y h t)
  (M:(w.params.followText "set-order"=true\/(t.plain=true\/h.size<=1))->Q (.ref s.heap.objs.size) {s with heap:=s.heap.push {cls:=.type "set_iterator",data:=.fields #[.int 0 0,.int 0 0,.ref p,.int h.size 0,.int y 0]} })
  (hd:∀(u:OG) (d:Drawn),List.Perm u (List.range h.size)->Q (.ref (s.heap.objs.size+1)) {s with heap:=(s.heap.push {cls:=.type "tuple",data:=.seq (u.map λi=>rawInt (i:Nat)).toArray}).push {cls:=.type "set_iterator",data:=.fields #[.ref s.heap.objs.size,.int 0 0,.ref p,.int h.size 0,.int y 0]},drawn:=d})
  (O:h.size<=sizeLine):wpAny (model prog w) A (pyIter (.ref p)) Q E s:=by
 ext⟨o,x,X,C,B⟩ Y;have L:s.TypeIs (.ref p) "set" := ⟨o,x,X.1⟩;erw[wpAny_pyIter_slot L F.slot_set_iter (wpAny_call_entry F.slot_set_iter L Ze9 ?_ (F.args_set_iter_1 _))];unfold Builtin.«frozenset.__iter__»;erw[Sa (m:=Builtin.Frozenset.slot0 "__iter__" _) (Sb ?_)];erw[Sa (m:=Builtin.Frozenset.sizeOf p) ?_];unfold Builtin.Frozenset.sizeOf setEntries;erw[Sa (Sa (wpAny_setState_of x C B (Sb (Sb ?_))))];unfold setDrawn setsByText;erw[Sa (Sa (wpAny_setState_of x C B (Sa (Sa (wpAny_askSetting (Sb (Sb ?_)))))))];have J:∀{f:Value} {j:Heap} {d:Drawn},j.get? p=some o->Q (.ref j.objs.size) {s with heap:=j.push {cls:=.type "set_iterator",data:=.fields #[f,.int 0 0,.ref p,.int h.size 0,.int y 0]},drawn:=d} ->
   wpAny (model prog w) A.in1 (do
    let Z <-setEpoch p
    let T <-newFields "set_iterator" [f,rawInt 0,Value.ref p,rawInt (h.size:Nat),rawInt (Z:Nat)]
    ret T) (λP H=>∃v,P=Fin.done (Flow.ret v)/\∃G r,H.TypeIs v G/\typeLookup (Value.type G) (OK "__next__")=pure (some r)/\Q v H) E {s with heap:=j,drawn:=d}:=λ{f j d} g q=>by
  erw[Sa (wpAny_setEpoch_of (s:={s with heap:=j,drawn:=d}) g C B ?_)];exact Sa (wpAny_newObj_type (Sb ⟨_,R,"set_iterator",_,⟨_,Sd _ R,R⟩,vI,q⟩))
 erw[wpAny_ite_split (λc=>?_) (λc=>?_)];erw[Sa (vH h.size _ _ (by simp) λu d I=>?_)];have U:u.length=h.size:=by have:=I.length_eq;simpa using this
 erw[Sa (m:=newTuple _) (wpAny_newObj_type ?_ (by show(u.map λi=>rawInt (i:Nat)).toArray.size<=sizeLine;rwa[SM,Sv,U]))];have q:=hd u d I;have e:s.heap.objs.size+1=(s.heap.push {cls:=.type "tuple",data:=.seq (u.map λi=>rawInt (i:Nat)).toArray}).objs.size:=(Heap.size_push _ _).symm;rw[e]at q;exact J (Sc _ x) q;erw[Sa (Sb (J (d:=s.drawn) x (M ?_)))];have D:¬ (!w.params.followText "set-order" && (!t.plain && decide (h.size>1)))=true:=c;cases S:w.params.followText "set-order" with
 |true=>exact .inl rfl
 |false =>
  right
  cases j:t.plain with
  |true=>exact .inl rfl
  |false =>
   right
   rw[S,j]at D;simp at D;exact D
open PySem
def Zfb{h:Heap}(x:Ww h I f i p n d) :
  Ww ((h.update I (Obj.mapFields (·.setIfInBounds 0 g))).update I (Obj.mapFields (·.setIfInBounds 1 (rawInt ((i:Int)+1))))) I g (i+1) p n d:=by
 ext⟨o,v,u,hd⟩ x;have j:=Obj.data_mapFields hd (·.setIfInBounds 0 g);have g1:=Heap.get?_update_self (Obj.mapFields (·.setIfInBounds 0 g)) v (Obj.isFreed_of_fields j);have c:=Obj.data_mapFields j (·.setIfInBounds 1 (rawInt ((i:Int)+1)));erw[⟨_,Heap.get?_update_self _ g1 (Obj.isFreed_of_fields c),(Obj.cls_mapFields ..).trans ((Obj.cls_mapFields ..).trans u),?_⟩];rw[c];simp[rawInt]
def vJ{I p d i slot nx:Nat}{f:Array (Int×Value)}{t:OI}{x:Value}{Q:Option Value->Shared->Prop}(c:Ww s.heap I (.int slot 0) i p f.size d)(u:W5 s.heap p d f t)
  (v:∀(B:Around) (E':Ou) (Q':Option (Value×Nat)->Shared->Prop),Q' (some (x,nx)) s->wpAny (model prog w) B (setNext p slot i d) Q' E' s)
  (y:∀h',Ww h' I (.int nx 0) (i+1) p f.size d->Heap.SameBut I s.heap h'->Q (some x) {s with heap:=h'}):wpAny (model prog w) A (pyNext (.ref I)) Q E s:=by
 obtain⟨o,g,J,hd⟩:=id c;ext⟨H,j,G,C,D⟩ u;unfold pyNext;erw[Sa (wpAny_attempt (wpAny_callSpecial?_slot (name:=OK "__next__") c.ty UX (wpAny_call_entry UX c.ty Lm ?_ (Ln _))))];unfold Builtin.«set_iterator.__next__»;erw[Sa (m:=slotArgs "__next__" 0 _) (Sb ?_)];erw[Sa (wpAny_fieldsOf g hd ?_)];dsimp only;unfold setEntries;erw[Sa (Sa (wpAny_setState_of j C D (Sb ?_)))];rw[SV (by simp)];simp only[Int.toNat_natCast];erw[Sa (v _ _ _ ?_)];dsimp only;erw[Sa (wpAny_setField g hd (by simp) ?_)];have h:=Obj.data_mapFields hd (·.setIfInBounds 0 (rawInt (nx:Int)));have g1:=Heap.get?_update_self (Obj.mapFields (·.setIfInBounds 0 (rawInt (nx:Int)))) g (Obj.isFreed_of_fields h);erw[Sa (wpAny_setField (s:={s with heap:=s.heap.update I (Obj.mapFields (·.setIfInBounds 0 (rawInt (nx:Int))))}) g1 h (by simp) ?_)];exact Sb ⟨_,R,Sb (y _ (Zfb c) ((Heap.SameBut.update ..).trans (Heap.SameBut.update ..)))⟩
def vK{I p d i slot:Nat}{f:Array (Int×Value)}{t:OI}{Q:Option Value->Shared->Prop}(x:A.handled=none)(c:Ww s.heap I (.int slot 0) i p f.size d)(j:W5 s.heap p d f t)
  (u:∀(y:Around) (E':Ou) (Q':Option (Value×Nat)->Shared->Prop),Q' none s->wpAny (model prog w) y (setNext p slot i d) Q' E' s)
  (v:∀h',Heap.ExtBut I s.heap h'->Q none {s with heap:=h'}):wpAny (model prog w) A (pyNext (.ref I)) Q E s:=by
 obtain⟨o,g,H,hd⟩:=id c;obtain⟨G,h,D,B,C⟩:=id j;unfold pyNext;erw[Sa (wpAny_attempt (wpAny_callSpecial?_slot (name:=OK "__next__") c.ty UX (wpAny_call_entry UX c.ty Lm ?_ (Ln _))))];unfold Builtin.«set_iterator.__next__»;erw[Sa (m:=slotArgs "__next__" 0 _) (Sb ?_)];erw[Sa (wpAny_fieldsOf g hd ?_)];dsimp only;unfold setEntries;erw[Sa (Sa (wpAny_setState_of h B C (Sb ?_)))];rw[SV (by simp)];simp only[Int.toNat_natCast];erw[Sa (u _ _ _ ?_)];dsimp only;erw[Sa (wpAny_setField g hd (by simp) ?_)];have s1:=Heap.SameBut.update s.heap I (Obj.mapFields (·.setIfInBounds 2 Value.none));simp only[newExc,newTuple];erw[Sa (Sa (wpAny_newObj_type (Sa (m:=firstArgMember _ _) (wpAny_of_eq (a:=Value.none) (by simp only[firstArgMember];rfl) (wpAny_newObj_type ?_ (by size_fits)))) (by size_fits)))];simp only[raiseNew];erw[Sa (wpAny_handled ?_)];rw[show A.in1.handled=none from x];erw[Sa (Sb (wpAny_throw ?_))];erw[Sa (wpAny_isInstance (T := "StopIteration") (b:=true) ⟨_,Sd _ R,R⟩ isSubtype_stop ?_)];exact Sb (v _ ((s1.extBut.push _).push _))
def A9(h:Heap)(T:Nat)(ys:OG):Prop:=∃o,h.get? T=some o/\o.cls=.type "tuple" /\ ∃n,o.data=.seq (ys.map λi=>rawInt (i:Nat)).toArray n
def Zfc{c:Array (Int×Value)}{e:Int×Value}(f:Ww s.heap I (.ref T) i p c.size d)(C:W5 s.heap p d c t)(D:A9 s.heap T ys)
  (L:ys[i]? = some j) (G:c[j]? = some e) (y:∀h',Ww h' I (.ref T) (i+1) p c.size d->Heap.SameBut I s.heap h'->Q (some e.2) {s with heap:=h'}):wpAny (model prog w) A (pyNext (.ref I)) Q E s:=by
 obtain⟨o,g,H,hd⟩:=id f;obtain⟨O,h,S,u,v⟩:=id C;unfold pyNext;erw[Sa (wpAny_attempt (wpAny_callSpecial?_slot (name:=OK "__next__") f.ty UX (wpAny_call_entry UX f.ty Lm ?_ (Ln _))))];unfold Builtin.«set_iterator.__next__»;erw[Sa (m:=slotArgs "__next__" 0 _) (Sb ?_)];erw[Sa (wpAny_fieldsOf g hd ?_)];dsimp only;unfold setEntries;erw[Sa (Sa (wpAny_setState_of h u v (Sb ?_)))];rw[SV (by simp)];ext⟨P,J,M,U,B⟩ D;erw[Sa (wpAny_seqItems J B ?_)];dsimp only;rw[Int.toNat_natCast,List.getElem?_toArray,Oa,L];show wpAny _ _ (setNextDrawn p j d >>= _) _ _ s;unfold setNextDrawn;erw[Sa (Sa (wpAny_setState_of h u v ?_))];dsimp only;rw[SV (by simp)];rw[G];erw[Sb (Sa (wpAny_setField g hd (by simp) ?_))];have x:=Obj.data_mapFields hd (·.setIfInBounds 1 (rawInt ((i:Int)+1)));erw[Sb ⟨_,R,Sb (y _ ⟨_,Heap.get?_update_self _ g (Obj.isFreed_of_fields x),(Obj.cls_mapFields ..).trans H,?_⟩ (Heap.SameBut.update ..))⟩];rw[x];simp[rawInt]
def Zfd{f:Array (Int×Value)}(u:A.handled=none)(c:Ww s.heap I (.ref T) i p f.size h)(C:W5 s.heap p h f t)(D:A9 s.heap T ys)
  (H:ys[i]? = none) (y:∀h',Heap.ExtBut I s.heap h'->Q none {s with heap:=h'}):wpAny (model prog w) A (pyNext (.ref I)) Q E s:=by
 obtain⟨o,d,P,hd⟩:=id c;obtain⟨L,j,O,v,x⟩:=id C;unfold pyNext;erw[Sa (wpAny_attempt (wpAny_callSpecial?_slot (name:=OK "__next__") c.ty UX (wpAny_call_entry UX c.ty Lm ?_ (Ln _))))];unfold Builtin.«set_iterator.__next__»;erw[Sa (m:=slotArgs "__next__" 0 _) (Sb ?_)];erw[Sa (wpAny_fieldsOf d hd ?_)];dsimp only;unfold setEntries;erw[Sa (Sa (wpAny_setState_of j v x (Sb ?_)))];rw[SV (by simp)];ext⟨M,G,J,S,B⟩ D;erw[Sa (wpAny_seqItems G B ?_)];dsimp only;rw[Int.toNat_natCast,List.getElem?_toArray,Oa,H];dsimp only[Option.map_none];erw[Sa (wpAny_setField d hd (by simp) ?_)];have g:=Obj.data_mapFields hd (·.setIfInBounds 0 (rawInt 0));have g1:=Heap.get?_update_self (Obj.mapFields (·.setIfInBounds 0 (rawInt 0))) d (Obj.isFreed_of_fields g);erw[Sa (wpAny_setField (s:={s with heap:=s.heap.update I (Obj.mapFields (·.setIfInBounds 0 (rawInt 0)))}) g1 g (by simp) ?_)];have s1:=(Heap.SameBut.update s.heap I (Obj.mapFields (·.setIfInBounds 0 (rawInt 0)))).trans (Heap.SameBut.update (s.heap.update I (Obj.mapFields (·.setIfInBounds 0 (rawInt 0)))) I (Obj.mapFields (·.setIfInBounds 2 Value.none)));simp only[newExc,newTuple];erw[Sa (Sa (wpAny_newObj_type (Sa (m:=firstArgMember _ _) (wpAny_of_eq (a:=Value.none) (by simp only[firstArgMember];rfl) (wpAny_newObj_type ?_ (by size_fits)))) (by size_fits)))];simp only[raiseNew];erw[Sa (wpAny_handled ?_)];rw[show A.in1.handled=none from u];erw[Sa (Sb (wpAny_throw ?_))];erw[Sa (wpAny_isInstance (T := "StopIteration") (b:=true) ⟨_,Sd _ R,R⟩ isSubtype_stop ?_)];exact Sb (y _ ((s1.extBut.push _).push _))
def vL{slot : Nat}(f:w.params.followText "set-order"=true) (v:W5 s.heap p c u t)
  (h:Q (((pickOrder (w.params.setOrder p c) u)[i]?).map λe=>(e.2,slot)) s):wpAny (model prog w) A (setNext p slot i c) Q E s:=by
 ext⟨y,d,x,g,j⟩ v;unfold setNext setsByText;erw[Sa (wpAny_setState_of d g j (Sa (Sa (wpAny_askSetting (Sb ?_)))))];dsimp only;rw[SW (show(model prog w).w.params.followText "set-order"=true from f),SV (by simp)];unfold setWalk setsByText;erw[Sa (Sa (wpAny_setState_of d g j (Sa (Sa (wpAny_askSetting (Sb ?_))))))];dsimp only;rw[SW (show(model prog w).w.params.followText "set-order"=true from f)];exact Sa (wpAny_askSetting (Sb (Sb h)))
def vM{slot : Nat}{d:Array (Int×Value)}{t:OI}(B:w.params.followText "set-order"=false) (f:t.plain=true\/d.size<=1) (v:t.led=true) (C:W5 s.heap p u d t)
  (h:Q (match d[SetTable.below t.place slot]?,t.place[SetTable.below t.place slot]? with|some (_,x),some j=>some (x,j+1)|_,_=>none) s):wpAny (model prog w) A (setNext p slot i u) Q E s:=by
 ext⟨I,y,H,D,G⟩ C;unfold setNext setsByText;erw[Sa (wpAny_setState_of y D G (Sa (Sa (wpAny_askSetting (Sb ?_)))))];dsimp only;rw[SV (show ¬ (model prog w).w.params.followText "set-order"=true by intro z;rw[show(model prog w).w.params.followText "set-order"=w.params.followText "set-order" from R,B]at z;cases z)];erw[wpAny_ite_split (λc=>?_) (λc=>?_)];exfalso;have g:(!t.plain && decide (d.size>1))=true:=c;rw[Bool.and_eq_true,decide_eq_true_eq]at g;rcases f with f|f;rw[f]at g;cases g.1;omega;erw[Sa ?_];show wpAny _ _ (if (!t.led && !d.isEmpty)=true then unsupported _ else pure Unit.unit) _ _ _;rw[SV (by rw[v];simp)];exact Sb (Sb h)
open PySem PyProof.Rows
def vN:Slot "set_iterator" "__iter__" "set_iterator.__iter__" := .of (owner := "set_iterator") (n := "__iter__") (by rw[typeLookup_type,builtinLookup_eq_fast];kernel_rfl) () () () (by first|exact .inl ()|exact .inr ()) (by rw[isSubtype_type];kernel_rfl)
def Zfe:entryFor table "set_iterator.__iter__"=some Builtin.«dict_keyiterator.__iter__»:=entryFor_alias (id' := "dict_keyiterator.__iter__") (by kernel_rfl) R () (by kernel_rfl)
def Zff(a:Value):argsOk "set_iterator.__iter__" ⟨[a],[]⟩:=by unfold argsOk;kernel_rfl
def Nl(x:Ww s.heap I f i p n c)(h:Q (.ref I) s):wpAny (model prog w) A (pyIter (.ref I)) Q E s:=by
 erw[wpAny_pyIter_slot x.ty vN (wpAny_call_entry vN x.ty Zfe (show wpAny _ _ (ret (.ref I)) _ _ s from ?_) (Zff _))];exact Sb ⟨_,R,"set_iterator",_,x.ty,vI,h⟩
def Ww.keep{h h':Heap}(x:Ww h I f i p n c)(k:∀o,h.get? I=some o->h'.get? I=some o):Ww h' I f i p n c:=let ⟨o,ho,r⟩:=x;⟨o,k _ ho,r⟩
def W5.keep{h h':Heap}(x:W5 h p c d t)(k:∀o,h.get? p=some o->h'.get? p=some o):W5 h' p c d t:=let ⟨o,ho,r⟩:=x;⟨o,k _ ho,r⟩
def A9.keep{h h':Heap}(x:A9 h T ys)(k:∀o,h.get? T=some o->h'.get? T=some o):A9 h' T ys:=let ⟨o,ho,r⟩:=x;⟨o,k _ ho,r⟩
def Zfg(J:A.handled=none)(I p d:Nat)(C:p≠I)(c:Array (Int×Value))(t:OI)(y:w.params.followText "set-order"=true) :
  Walks prog w A I [I,p] [I] c.size (λi v=>((pickOrder (w.params.setOrder p d) c).toList.map (·.2))[i]? = some v) (λi h=>Ww h I (.int 0 0) i p c.size d/\W5 h p d c t) where
 sub:=λb f=>by rw[SD]at f;rw[f];exact SC
 frame:=λ_ _ _ st k=>⟨st.1.keep (k I SC),st.2.keep (k p (SB _ SC))⟩
 item:=λi s Q E M st j=>by
  have B:i<(pickOrder (w.params.setOrder p d) c).size:=by
   have:=(Nk (w.params.setOrder p d) c).length_eq;rw[Array.length_toList,Array.length_toList]at this;lia
  have g:=Array.getElem?_eq_getElem B;erw[vJ (nx:=0) (x:=((pickOrder (w.params.setOrder p d) c)[i]).2) (slot:=0) st.1 st.2 (λG D H q=>vL y st.2 (by rwa[g])) λu L f=>?_];erw[j _ u s.toks ?_ ⟨L,st.2.keep λo e=>f.extBut p o C e⟩ λb o hn e=>f.extBut b o (λz=>hn (by rw[z];exact SD.mpr R)) e];rw[Oa,Array.getElem?_toList,g];rfl
 done:=λs Q E st j=>by
  have g:(pickOrder (w.params.setOrder p d) c)[c.size]? = none:=by
   have:=(Nk (w.params.setOrder p d) c).length_eq;rw[Array.length_toList,Array.length_toList]at this;exact Array.getElem?_eq_none ()
  exact vK (slot:=0) J st.1 st.2 (λG D H q=>vL y st.2 (by rwa[g])) λu f=>j u s.toks λb o hn e=>f b o (λz=>hn (by rw[z];exact SD.mpr R)) e
 self:=λ_ _ _ _ st j=>Nl st.1 j
def VZ(t:OI):Nat->Nat
 |0=>0
 |i+1=>t.place.getD i 0+1
theorem vO{t:OI}(h:UW t.place):∀i,i<=t.place.size->SetTable.below t.place (VZ t i)=i
 |0,_=>by
  obtain⟨x,g,v⟩:=Ni (j:=VZ t 0) h;by_cases c:SetTable.below t.place (VZ t 0)=0;exact c;exact Os (g 0 ()) (Nat.not_lt_zero _)
 |i+1,u=>by
  obtain⟨x,g,v⟩:=Ni (j:=VZ t (i+1)) h;have e:∀k d,k<t.place.size->t.place.getD k d=t.place.getD k 0:=λk d f=>by simp[Array.getD,f]
  have B:i<SetTable.below t.place (VZ t (i+1)):=by
   by_cases c:SetTable.below t.place (VZ t (i+1))<=i;have:=v i c u;rw[e i _ u]at this;exact Os this (Nat.not_succ_le_self _);omega
  by_cases y:SetTable.below t.place (VZ t (i+1))=i+1;exact y;have l:=g (i+1) ();have f:i+1<t.place.size:=by lia
  rw[e _ _ f]at l;have r:t.place.getD i 0<t.place.getD (i+1) 0:=Ll (d:=0) h (Sm i) f;have C:t.place.getD (i+1) 0<t.place.getD i 0+1:=l;lia
def Zfh(J:A.handled=none)(I p D:Nat)(M:p≠I)(c:Array (Int×Value))(t:OI)(C:w.params.followText "set-order"=false) (B:t.plain=true\/c.size<=1) (y:t.led=true) (hz:t.place.size=c.size) (G:UW t.place) :
  Walks prog w A I [I,p] [I] c.size (λi v=>(c.toList.map (·.2))[i]? = some v) (λi h=>Ww h I (.int (VZ t i) 0) i p c.size D/\W5 h p D c t) where
 sub:=λb d=>by rw[SD]at d;rw[d];exact SC
 frame:=λ_ _ _ st k=>⟨st.1.keep (k I SC),st.2.keep (k p (SB _ SC))⟩
 item:=λi s Q E O st f=>by
  have g:=Array.getElem?_eq_getElem O;have u:i<t.place.size:=by lia
  have g2:=Array.getElem?_eq_getElem u;have S:VZ t (i+1)=t.place[i]+1:=by
   show t.place.getD i 0+1=_;simp[Array.getD,u]
  erw[vJ (nx:=t.place[i]+1) (x:=(c[i]).2) (slot:=VZ t i) st.1 st.2 (λT H P q=>vM C B y st.2 (by rwa[vO G i (),g,g2])) λj L d=>?_];erw[f _ j s.toks ?_ ⟨by rwa[S],st.2.keep λo e=>d.extBut p o M e⟩ λb o hn e=>d.extBut b o (λz=>hn (by rw[z];exact SD.mpr R)) e];rw[Oa,Array.getElem?_toList,g];rfl
 done:=λs Q E st f=>by
  have g:c[c.size]? = none:=Array.getElem?_eq_none (Sg _);exact vK (slot:=VZ t c.size) J st.1 st.2 (λT H P q=>vM C B y st.2 (by rwa[vO G _ (),g])) λj d=>f j s.toks λb o hn e=>d b o (λz=>hn (by rw[z];exact SD.mpr R)) e
 self:=λ_ _ _ _ st f=>Nl st.1 f
def Zfi(H:A.handled=none)(I p T B:Nat)(D:p≠I)(G:T≠I)(d:Array (Int×Value))(t:OI)(ys:OG)(u:List.Perm ys (List.range d.size)) :
  Walks prog w A I [I,p,T] [I] d.size (λi v=>(ys.map λj=>(d.getD j (0,.none)).2)[i]? = some v) (λi h=>Ww h I (.ref T) i p d.size B/\W5 h p B d t/\A9 h T ys) where
 sub:=λb c=>by rw[SD]at c;rw[c];exact SC
 frame:=λ_ _ _ st k=>⟨st.1.keep (k I (by simp)),st.2.1.keep (k p (by simp)),st.2.2.keep (k T (by simp))⟩
 item:=λi s Q E L st f=>by
  have y:i<ys.length:=by have:=u.length_eq;rw[List.length_range]at this;lia
  have g:=Ss y;have C:ys[i]<d.size:=List.mem_range.mp (u.mem_iff.mp (Oi y));erw[Zfc st.1 st.2.1 st.2.2 g (Array.getElem?_eq_getElem C) λx J c=>?_];erw[f _ x s.toks ?_ ⟨J,st.2.1.keep λo e=>c.extBut p o D e,st.2.2.keep λo e=>c.extBut T o G e⟩ λb o hn e=>c.extBut b o (λz=>hn (by rw[z];exact SD.mpr R)) e];rw[Oa,g];simp[Array.getD,C]
 done:=λs Q E st f=>by
  have g:ys[d.size]? = none:=List.getElem?_eq_none (by have:=u.length_eq;rw[List.length_range]at this;lia);exact Zfd H st.1 st.2.1 st.2.2 g λx c=>f x s.toks λb o hn e=>c b o (λz=>hn (by rw[z];exact SD.mpr R)) e
 self:=λ_ _ _ _ st f=>Nl st.1 f
def Zfj{l:List (Int×Value)}(h:∀e∈l,∃t,e.2=.int (Xi e) t):IntsAre (l.map (·.2)) (l.map Xi):=by
 induction l with
 |nil=>exact .nil
 |cons e r c =>
  obtain⟨t,q⟩:=h e SC;rw[SL,SL,q];exact .cons _ t (c λx d=>h x (SB _ d))
def Zfk{f:Type}(c:Array f)(d:f):(List.range c.size).map (λj=>c.getD j d)=c.toList:=by
 erw[List.ext_getElem (by simp) λi u g=>?_];have h:i<c.size:=by simpa using g
 simp[Array.getD,h]
def Zfl{ks:OE}(O:A.handled=none)(B:Xj prog w s.heap p ks)(hk:ks.length<=1000)
  (h:∀(I:Addr) (fp:OH) (St:Nat->Heap->Prop) (h':Heap) (d:Drawn) (its:OB) (ns:OE),Walks prog w A I fp [I] its.length (λi v=>its[i]? = some v) St->St 0 h' ->
   (∀b o,s.heap.get? b=some o->h'.get? b=some o)->(∀b∈fp,b=p\/s.heap.objs.size<=b)->s.heap.objs.size<=I->IntsAre its ns->ns.Nodup->(∀k,k∈ns↔k∈ks)->its.length<=ks.length->Q (.ref I) {s with heap:=h',drawn:=d}) :
  wpAny (model prog w) A (pyIter (.ref p)) Q E s:=by
 ext⟨o,f,g,t,T,b0,hd,a0,L,ht,hl,nd,mem,sz⟩ B;have B:W5 s.heap p g f t:=⟨o,T,b0,hd,L⟩;have S:p<s.heap.objs.size:=Se T;have hz:t.place.size=f.size:=by
  unfold SetTable.fits at L;rw[Bool.and_eq_true]at L;exact beq_iff_eq.mp L.1
 have P:∀(l:List (Int×Value)),List.Perm l f.toList->IntsAre (l.map (·.2)) (l.map Xi)/\(l.map Xi).Nodup/\(∀k,k∈l.map Xi↔k∈ks)/\(l.map (·.2)).length=f.size:=λl x =>
  ⟨Zfj λe he=>vE a0 (x.mem_iff.mp he),(x.map Xi).nodup_iff.mpr nd,λk=>((x.map Xi).mem_iff).trans (mem k),by rw[Sv,x.length_eq,Array.length_toList]⟩
 have X:∀b∈[s.heap.objs.size,p],b=p\/s.heap.objs.size<=b:=λb H=>by
  simp only[SE,List.not_mem_nil,or_false]at H;rcases H with rfl|rfl;exact .inr (Sg _);exact .inl rfl
 erw[Zfa B (λc=>?_) (λG d Y=>?_) (Sh (Sh sz hk) ())];cases M:w.params.followText "set-order" with
 |true =>
  obtain⟨y,C,D,u⟩:=P _ (Nk (w.params.setOrder p g) f);have W:=Zfg (prog:=prog) O s.heap.objs.size p g (Sf S) f t M;rw[<-u]at W;exact h _ _ _ _ s.drawn _ _ W ⟨⟨_,Sd _ R,R,by rw[u];rfl⟩,B.keep λo e=>Sc _ e⟩ (λb o e=>Sc _ e) X (Sg _) y C D ()
 |false =>
  have J:t.plain=true\/f.size<=1:=by
   rcases c with c|c;rw[M]at c;cases c;exact c
  have hr:UW t.place:=by
   rcases J with J|J;exact ht.ri J;have c0:t.place.toList.length<=1:=by rw[Array.length_toList];lia
   show List.Pairwise _ _
   match t.place.toList,c0 with
   |[],_=>exact .nil
   |[a],_=>exact List.pairwise_singleton _ _
  obtain⟨y,C,D,u⟩:=P _ (.refl _);have W:=Zfh (prog:=prog) O s.heap.objs.size p g (Sf S) f t M J (hl M) hz hr;rw[<-u]at W;exact h _ _ _ _ s.drawn _ _ W ⟨⟨_,Sd _ R,R,by rw[u];rfl⟩,B.keep λo e=>Sc _ e⟩ (λb o e=>Sc _ e) X (Sg _) y C D ()
 have x:List.Perm (G.map λj=>f.getD j (0,.none)) f.toList:=by
  have:=Y.map λj=>f.getD j (0,Value.none);rw[Zfk]at this;exact this
 obtain⟨y,C,D,u⟩:=P _ x;have W:=Zfi (prog:=prog) (w:=w) (A:=A) O (s.heap.objs.size+1) p s.heap.objs.size g (Sf (Sn S)) (Sf (Sm _)) f t G Y;rw[Oe]at y u;have U:(G.map λj=>(f.getD j (0,.none)).2).length=f.size:=u;rw[<-U]at W;have Z:((s.heap.push {cls:=.type "tuple",data:=.seq (G.map λi=>rawInt (i:Nat)).toArray}).push {cls:=.type "set_iterator",data:=.fields #[.ref s.heap.objs.size,.int 0 0,.ref p,.int f.size 0,.int g 0]}).get? (s.heap.objs.size+1)=some {cls:=.type "set_iterator",data:=.fields #[.ref s.heap.objs.size,.int 0 0,.ref p,.int f.size 0,.int g 0]}:=by
  have:=Sd (s.heap.push {cls:=.type "tuple",data:=.seq (G.map λi=>rawInt (i:Nat)).toArray}) (o:={cls:=.type "set_iterator",data:=.fields #[.ref s.heap.objs.size,.int 0 0,.ref p,.int f.size 0,.int g 0]}) R;rw[Heap.size_push]at this;exact this
 erw[h _ _ _ _ d _ _ W ⟨⟨_,Z,R,by rw[U];rfl⟩,B.keep λo e=>Sc _ (Sc _ e),⟨_,Sc _ (Sd _ R),R,_,R⟩⟩ (λb o e=>Sc _ (Sc _ e)) (λb H=>?_) (Nat.le_succ _) y C D ()];simp only[SE,List.not_mem_nil,or_false]at H;rcases H with rfl|rfl|rfl;exact .inr (Nat.le_succ _);exact .inl rfl;exact .inr (Sg _)
open PySem PyProof.Rows
def Zfm(c:s.TypeIs (.ref r) "set") (h:Q false s):wpAny (model prog w) A (Builtin.List.listLengthHint (.ref r)) Q E s:=by
 unfold Builtin.List.listLengthHint;erw[Sa (wpAny_specialOf c F.slot_set_len.lookup ?_)];generalize d:("set.__len__" : String)=f
 wp_delta;rw[show splitId f=some ("set","__len__")from by subst d;lia]
 subst d;erw[Sa (wpAny_isInstance (T := "set") (b:=true) c (by rw[isSubtype_type];kernel_rfl) ?_)];erw[wpAny_ite_split (λz=>Os z ()) (λ_=>wpAny_ite_split (λ_=>?_) (λz=>Os () z))];exact Sa (wpAny_typeOf c (Sb h))
def Nm(ks:OE)(c:OB):Prop:=∃ns,IntsAre c ns/\ns.Nodup/\(∀k,k∈ns↔k∈ks)/\c.length<=ks.length
def Xj.ty(x:Xj prog w s.heap p ks):s.TypeIs (.ref p) "set" := let ⟨o,_,_,_,ho,hex,_⟩:=x;⟨o,ho,hex.1⟩
def Xj.lt{h:Heap}(x:Xj prog w h p ks):p<h.objs.size:=let ⟨_,_,_,_,ho,_⟩:=x;Se ho
def Zfn{c:OB}{d:Array Value}(h:ItemsOf (λi v=>c[i]? = some v) d c.length):d.toList=c:=by
 erw[List.ext_getElem? λi=>?_];by_cases f:i<c.length;have ha:i<d.size:=by rwa[h.1]
 have:=h.2 i d[i] (Array.getElem?_eq_getElem ha);rw[Array.getElem?_toList,Array.getElem?_eq_getElem ha,this];have e:d.toList.length=c.length:=by rw[Array.length_toList,h.1]
 rw[List.getElem?_eq_none (l:=c) (),List.getElem?_eq_none (l:=d.toList) ()]
def Zfo{R:Result->Shared->Prop}{ks:OE}{P:Nat}(hh:A.handled=none)(C:Xj prog w s.heap p ks)(Q:ks.length<=1000)(L:S≠p)
  (J:s.heap.get? S=some {cls:=.type "list",data:=.seq #[] P})
  (U:∀B d tk u c,(∀b o,b≠S->s.heap.get? b=some o->B.get? b=some o)->B.get? S=some {cls:=.type "list",dict:=none,data:=.seq u c,slots:=#[]}->Nm ks u.toList->R (.ok (.ret res)) {s with heap:=B,drawn:=d,toks:=tk}) :
  wpAny (model prog w) A.in1 (Builtin.List.listExtendWith (.ref S) (.ref p) res) (λv g=>match v with|.done f=>R (.ok f) g|.again x=>x.quiet=true/\codeAny (model prog w) A x R g) (λe g=>R (.error e) g) s:=by
 unfold Builtin.List.listExtendWith;erw[Sa (wpAny_typeOf (T := "set") C.ty ?_)];have e1:Builtin.List.listSameRef (.ref S) (.ref p)=false:=by simp[Builtin.List.listSameRef,L]
 have e2:(Value.type "set"==Value.type "list")=false:=by lia
 have e3:(Value.type "set"==Value.type "tuple")=false:=by lia
 simp only[e1,e2,e3,Bool.or_false,Bool.false_eq_true,if_false];erw[Sa (Zfl (A:=A.in1) hh C Q λI fp St y d c0 ns W st keep a0 H i1 i2 i3 G=>?_)];have O:=Se J;have D:S∉fp:=λz=>by
  rcases a0 S z with e|e;exact L e;exact Os O (Og.mpr e)
 have d0:I≠S:=λz=>Os O (Og.mpr (by rwa[<-z]));have g1:=keep _ _ J;have v:∀(h:Heap) (c:Nat) (tk:Nat),St 0 h->(∀b o,b≠S->s.heap.get? b=some o->h.get? b=some o)->h.get? S=some {cls:=.type "list",data:=.seq #[] c} ->
   codeAny (model prog w) A (.builtin "list.extend.loop" ⟨[.ref S,.ref I,res],[]⟩) R {s with heap:=h,drawn:=d,toks:=tk}:=λh c tk X k b0=>by
  erw[codeAny_extend_loopS W.toS (Sh (Sh G Q) ()) S D res c0.length 0 _ #[] c rfl (Sk _) X b0 (ItemsOf.nil _) λg u x hm g' Y=>?_];have e:=Zfn Y;have es:g = {s with heap:=g.heap,drawn:=d,toks:=g.toks}:=by
   ext⟨a1,a2,a3,a4,a5⟩ g;have b1:a2=s.gens:=hm.gens;have Z:a3=d:=hm.drawn;have b3:a5=s.os:=hm.os;subst b1 Z b3;rfl
  rw[es];erw[U g.heap d g.toks u x (λb o j q=>hm.heap b o (λz=>?_) (k b o j q)) g' (by rw[e];exact⟨ns,i1,i2,i3,G⟩)];rcases SE.mp z with z|z;exact j z;exact Os (Se q) (Og.mpr (by rwa[SD.mp z]))
 erw[Sa (wpAny_holding (Zfm (s:={s with heap:=y,drawn:=d}) (C.keep (keep p)).ty ?_))];erw[wpAny_ite_split (λ_=>?_) (λ_=>Sb ⟨plainId_quiet F.plain_extend_loop _,v _ P _ st (λb o _ e=>keep b o e) g1⟩)];erw[Sa (wpAny_rule (Sa ?_))];show wpAny _ _ (updateSeq S (λi=>i.push .none) >>= λ_=>updateSeq S (λi=>i.pop)) _ _ _;erw[Sa (wpAny_updateSeq (s:={s with heap:=y,drawn:=d}) g1 rfl ?_)];have g2:=Heap.get?_update_self (Obj.mapSeq (λi=>i.push Value.none)) g1 rfl;erw[wpAny_updateSeq (s:={s with heap:=y.update S (Obj.mapSeq (λi=>i.push Value.none)),drawn:=d}) (hz:=by seq_fits) g2 rfl ?_];have g3:=Heap.get?_update_self (Obj.mapSeq (λi=>i.pop)) g2 rfl;erw[Sb ⟨plainId_quiet F.plain_extend_loop _,v _ _ _ (W.frame 0 _ _ st λb j o e=>?_) (λb o j e=>?_) g3⟩];have M:b≠S:=λz=>D (z ▸ j);exact(Heap.get?_update_other _ _ (Ne.symm M)).trans ((Heap.get?_update_other _ _ (Ne.symm M)).trans e);exact(Heap.get?_update_other _ _ (Ne.symm j)).trans ((Heap.get?_update_other _ _ (Ne.symm j)).trans (keep b o e))
def Zfp{R:List Value->Shared->Prop}{ks:OE}(J:A.handled=none)(u:Xj prog w s.heap p ks)(G:ks.length<=1000)
  (h:∀h' d tk v,(∀b o,s.heap.get? b=some o->h'.get? b=some o)->Nm ks v->R v {s with heap:=h',drawn:=d,toks:=tk}):wpAny (model prog w) A (collect (.ref p)) R E s:=by
 have lt:=u.lt;unfold collect;erw[Sa (wpAny_runValue (codeAny_builtin F.entry_proto_collect ?_))];rw[Around.under_plainId F.plain_proto_collect _];show wpAny _ A.in1 (newList [] >>= λD=>again (.builtin "list.__iadd__" ⟨[D,.ref p],[]⟩)) _ _ s;erw[Sa (wpAny_newObj_type (Sb ⟨plainId_quiet F.plain_list_iadd _,codeAny_builtin F.entry_list_iadd ?_⟩))];rw[Around.under_plainId F.plain_list_iadd _];have I:(s.heap.push {cls:=.type "list",data:=.seq ([]:OB).toArray}).get? s.heap.objs.size=some {cls:=.type "list",data:=.seq #[]}:=Sd _ rfl;have C:=Zfo (A:=A) (s:={s with heap:=s.heap.push {cls:=.type "list",data:=.seq ([]:OB).toArray} }) (res:=.ref s.heap.objs.size)
  (R:=λ(q:Result) (j:Shared)=>∃(h':Heap) (d:Drawn) (tk:Nat) (i:Array Value) (c:Nat),q=.ok (.ret (.ref s.heap.objs.size))/\j = {s with heap:=h',drawn:=d,toks:=tk}/\(∀b o,s.heap.get? b=some o->h'.get? b=some o) /\
   h'.get? s.heap.objs.size=some {cls:=.type "list",dict:=none,data:=.seq i c,slots:=#[]}/\Nm ks i.toList) J (u.keep λo e=>Sc _ e) G (Nat.ne_of_gt lt) I
  (λh' d tk i c k g m=>⟨h',d,tk,i,c,rfl,rfl,λb o e=>k b o (Sf (Se e)) (Sc _ e),g,m⟩)
 show wpAny _ A.in1 (Builtin.List.listExtendWith (.ref s.heap.objs.size) (.ref p) (.ref s.heap.objs.size)) _ _ _;erw[Oq C (λH j x=>?_) λe j x=>?_];cases H with
 |done f =>
  ext⟨h',d,tk,i,c,e,rfl,k,g,m⟩ x;cases e;exact Sa (m:=load s.heap.objs.size) (Op g (Sb (h h' d tk _ k m)))
 |again L =>
  erw[⟨x.1,codeAny_mono x.2 λq s2 y=>?_⟩];ext⟨h',d,tk,i,c,rfl,rfl,k,g,m⟩ y;exact Sa (m:=load s.heap.objs.size) (Op g (Sb (h h' d tk _ k m)))
 ext⟨_,_,_,_,_,B,_⟩ x;cases B
def IntsAre.len{vs:OB}{ns:OE}(h:IntsAre vs ns):vs.length=ns.length:=by
 induction h with
 |nil=>rfl
 |cons n t _ c=>rw[Sy,Sy,c]
def Zfq{zs:OE}(h:zs.Pairwise (·<=·))(n:zs.Nodup):zs.Pairwise (· < ·) :=
 (List.Pairwise.and h n).imp λ⟨a,b⟩=>by lia
def Zfr{ks:OE}(C:A.handled=none)(O:Xj prog w s.heap p ks)(P:ks.length<64)
  (h:∀(D:Addr) (h':Heap) (d:Drawn) (tk:Nat) (out:Array Value) (e:Nat) (zs:OE),(∀b o,s.heap.get? b=some o->h'.get? b=some o)->s.heap.get? D=none->h'.get? D=some (seqObj "list" out e)->IntsAre out.toList zs->zs.Pairwise (· < ·) ->
   (∀k,k∈zs↔k∈ks)->zs.length<=ks.length->Q (.ref D) {s with heap:=h',drawn:=d,toks:=tk}):wpAny (model prog w) A (call (.builtin "sorted") [.ref p]) Q E s:=by
 erw[Calls.call_function_entry kind_sorted plain_sorted entry_sorted (args_sorted1 _) ?_];unfold Builtin.«sorted»;erw[Sa (m:=checkCount "sorted" 1 1 _) (Sb (Sa (Zfp (A:=A.in1) C O () λf d tk i keep mt=>?_)))];ext⟨ns,v,I,M,B⟩ mt;have G:i.length<=sizeLine:=Sh (Sh B (Nat.le_of_lt P)) ();erw[Sa (wpAny_newList ?_ G)];have g:(f.push (seqObj "list" i.toArray 0)).get? f.objs.size=some (seqObj "list" i.toArray 0):=Sd _ R;have no:s.heap.get? f.objs.size=none:=by
  cases c:s.heap.get? f.objs.size with
  |none=>rfl
  |some o=>exact Os (Se (keep _ _ c)) (Sl _)
 erw[Sa (wpAny_holding (wpAny_call_entry (s:={s with heap:=f.push (seqObj "list" i.toArray 0),drawn:=d,toks:=tk}) slot_list_sort ⟨_,g,R⟩ entry_list_sort (list_sort_tree g v () λout x L j H=>⟨_,R,?_⟩) (args_list_sort _)))];obtain⟨e,y⟩:=sortedHeap_at (out:=out) g;have J:x.Nodup:=j.nodup_iff.mpr I;erw[Sb ⟨_,R,h f.objs.size _ d tk out e x (λb o q=>?_) no y L (Zfq H J) (λk=>(j.mem_iff).trans (M k)) (by have:=j.length_eq;have:=IntsAre.len v;lia)⟩];have u:=Se (keep b o q);exact(sortedHeap_old (Sf u) (by rw[Heap.size_push];exact Sn u)).trans (Sc _ (keep b o q))
def V0(w:World):Obj:={cls:=.type "set",dict:=none,data:=.set #[] 0 (.fresh 0 0 (!w.params.followText "set-order"))}
def Zfs{h:Heap}(g:h.get? a=some (V0 w)):Xj prog w h a [] :=
 ⟨_,#[],0,_,g,⟨R,R,R⟩,R,(λe c=>by cases c),rfl,⟨rfl,λ_=>List.Pairwise.nil⟩,(λz=>by show(!w.params.followText "set-order")=true;rw[z];rfl),List.Pairwise.nil,(λk=>by simp),Sk _⟩
def Zft(x:Value)(h:Q (.ref s.heap.objs.size) {s with heap:=s.heap.push (V0 w)}) :
  codeAny (model prog w) A (.call (.builtin "set.__new__") ⟨[.type "set",x],[]⟩) (wants Q E) s:=by
 erw[codeAny_of_tree (show wpAny _ A.in1 (do checkBuiltinCall "set.__new__" ⟨[.type "set",x],[]⟩;again (.builtin "set.__new__" ⟨[.type "set",x],[]⟩)) _ _ s from ?_)];erw[Sa (wpAny_of_eq (PySem.F.newCall_set_1 x) (Sb ⟨plainId_quiet PySem.F.plain_set_new _,codeAny_builtin PySem.F.entry_set_new ?_⟩))];rw[Around.under_plainId PySem.F.plain_set_new _];unfold Builtin.«set.__new__» Builtin.Frozenset.newClass;have c:=sub_set_self;ext⟨f,g,d,tk,os⟩ s;dsimp only;wp_walk;erw[wpAny_askSetting (Sb ?_)];dsimp only;simp only[newObj];exact Sa (wpAny_alloc (Sb (Sb h)))
def Zfu{items:Array Value}{ns:OE}(H:A.handled=none)(J:s.heap.IsList l items)(hi:IntsAre items.toList ns)(hb:items.size+1<scanBound)
  (h:∀(h':Heap) (tk:Nat),Xj prog w h' s.heap.objs.size ((List.range items.size).map λi=>ns.getD i 0)->(∀b o,s.heap.get? b=some o->h'.get? b=some o)->Q (.ref s.heap.objs.size) {s with heap:=h',toks:=tk}) :
  wpAny (model prog w) A (call (.type "set") [.ref l]) Q E s:=by
 ext⟨a0,tl,mr⟩ PySem.F.called_set.mro;have md:=PySem.F.called_set.made;have sb:=PySem.F.called_set.sub;erw[wpAny_call (codeAny_of_tree (show wpAny _ _ (callAny (.type "set") _) _ _ _ from Sb ⟨Code.quiet_builtin _ (),codeAny_builtin PySem.F.entry_type_call ?_⟩))];rw[Around.under_plain (weight_type_call_type "set" [.ref l] []) rfl];have k1:=PySem.F.called_set.notType;have k2:=PySem.F.called_set.canCreate;have k3:=PySem.F.typeCall_set_1 (.ref l)
 repeat (any_goals (first|assumption|wp_step))
 erw[codeAny_mono (Zft (.ref l) (E:=E) (Q:=λob s1=>ob=.ref s.heap.objs.size/\s1 = {s with heap:=s.heap.push (V0 w)}) ⟨rfl,rfl⟩) λr s1 d=>?_];cases r with
 |error e=>exact d
 |ok fl =>
  cases fl with
  |ret ob =>
   ext⟨rfl,rfl⟩ d;have j:(s.heap.push (V0 w)).get? s.heap.objs.size=some (V0 w):=Sd _ rfl;have hT:Shared.TypeIs {s with heap:=s.heap.push (V0 w)} (.ref s.heap.objs.size) "set" := ⟨_,j,rfl⟩;have u1:=PySem.F.called_set.init.lookup;have u2:=PySem.F.called_set.init.bind (.ref s.heap.objs.size)
   repeat (any_goals (first|assumption|wp_step))
   refine codeAny_mono (codeAny_call_builtin (R:=wants (λr s2=>r=.none/\∃h' tk,s2 = {s with heap:=h',toks:=tk}/\Xj prog w h' s.heap.objs.size ((List.range items.size).map λi=>ns.getD i 0)/\(∀b o,s.heap.get? b=some o->h'.get? b=some o)) E)
    PySem.F.called_set.init.plain PySem.F.entry_set_init (check_set_init_1 hT ?_)) λY s2 f=>?_
   obtain⟨ol,y,x,nl,B⟩:=id J;ext⟨oc,I,b0,os⟩ ol;simp only at x B;subst x;subst B;have X:(s.heap.push (V0 w)).get? l=some {cls:=.type "list",dict:=I,data:=.seq items nl,slots:=os}:=Sc _ y;have v2:=PySem.F.sub_list_set;have v3:=PySem.F.sub_list_frozenset;have v4:(Value.type "list"==Value.type "dict")=false:=by lia
   have C:(s.heap.push (V0 w)).IsList l items:=⟨_,X,rfl,nl,rfl⟩;have fd:(V0 w).data=.set #[] 0 (.fresh 0 0 (!w.params.followText "set-order")):=rfl;unfold Builtin.«set.__init__» noKeywords Builtin.Frozenset.updateFrom;generalize U:pyIter=PI
   wp_walk
   subst U;erw[wpAny_pyIter_list C (Sa (wpAny_runValue ?_))];have u:l<s.heap.objs.size:=Se y;have M:A.in1.in1.in1.handled=none:=by simp[H]
   have nI:l≠(s.heap.push (V0 w)).objs.size:=by rw[Heap.size_push];exact Sf (Sn u)
   have nS:s.heap.objs.size∉[(s.heap.push (V0 w)).objs.size,l]:=by
    rw[Heap.size_push];intro z;simp only[SE,List.not_mem_nil,or_false]at z;rcases z with z|z;exact Os z (Sf (Sm _));exact Os z (Nat.ne_of_gt u)
   refine Ze7 ((Walks.list M _ l nI items).toS) s.heap.objs.size nS (λi=>ns.getD i 0) (λi v D=>IntsAre.int_at hi i v (by rwa[Array.getElem?_toList])) hb (items.size - 0) 0 _ () (Sk _)
    ⟨⟨_,Sd _ rfl,rfl,rfl⟩,(C.push _)⟩ (Zfs (Sc _ j)) λZ hm c=>?_
   ext⟨h',g',O,P,L⟩ Z;have T:g'=s.gens:=hm.gens;have ed:O=s.drawn:=hm.drawn;have eo:L=s.os:=hm.os;subst T ed eo;erw[Sb (Sb ⟨rfl,h',P,rfl,c,λb o e=>?_⟩)];have g:=Se e;erw[hm.heap b o (λz=>?_) (Sc _ (Sc _ e))];simp only[SE,List.not_mem_nil,or_false]at z;rcases z with z|z;exact Os z (Sf g);rw[Heap.size_push]at z;exact Os z (Sf (Sn g));cases Y with
   |error e=>exact f
   |ok G =>
    cases G with
    |ret r =>
     ext⟨rfl,h',tk,rfl,c,S⟩ f
     repeat (any_goals (first|assumption|wp_step))
     exact h _ _ c S
    |_=>exact f.elim
  |_=>exact d.elim
def Zd.drawnTo(I:Zd X pins c H s)(d:Drawn):Zd X pins c H {s with drawn:=d}:=⟨I.ok,I.os,I.bare,I.base,I.loc,I.cell,I.free,I.freeC,I.pin,I.hok,I.len⟩
def B0(P:Program)(w:World)(a:Addr)(ks:OE):HO:=.ext λh=>Xj P w h a ks
def Zfv(x:Xj P w h a ks):Yi P w H h a (B0 P w a ks) :=
 ⟨x,let ⟨o,_,_,_,ho,_⟩:=id x;⟨o,ho⟩,λc d y k=>Xj.keep (h:=c) y k⟩
theorem vP:∀{ns:OE} {us:OB},ZB (ns.map V.int) us->IntsAre us ns
 |[],_,.nil=>.nil
 |n::r,_,.cons (b:=u) h t=>by
  ext⟨tk,rfl⟩ h;exact .cons n tk (vP t)
theorem vQ:∀{ns:OE} {us:OB},IntsAre us ns->ZB (ns.map V.int) us
 |_,_,.nil=>.nil
 |_,_,.cons n t h=>.cons ⟨t,R⟩ (vQ h)
def Nn(C:X.calm=true):Y4 X (.type "set") (λxs H Q=>∃(p:Addr) (ns:OE),xs=[.ref p]/\Ze X.K H p (ns.map V.int)/\ns.length<=1000/\∀l,H l=none->Q (.ref l) (Zb H l (B0 X.prog X.w l ns))):=by
 intro pins s M H xs J Q I r h;ext⟨p,ns,rfl,j,D,q⟩ h;obtain⟨u,rfl,B⟩:=Wq r;cases B;obtain⟨c,y,x,E⟩:=I.list j;have d:IntsAre c ns:=vP y;have f:c.length=ns.length:=IntsAre.len d;erw[Zfu (I.ok.hd C) x.isList (by simpa using d) (by rw[SM,f];show _<4096;lia) λL tk g keep=>?_];have e:(List.range c.toArray.size).map (λi=>ns.getD i 0)=ns:=by
  rw[SM,f];erw[List.ext_getElem (by simp) λi G v=>?_];simp[List.getD_eq_getElem?_getD,v]
 rw[e]at g;exact⟨.ref _,_,I.laid (t':=tk) keep (Sg _) (Zfv g),R,q _ (I.hok.fresh (Sg _))⟩
def No(J:X.calm=true):Y4 X (.builtin "sorted") (λxs H Q=>∃(p:Addr) (ks:OE),xs=[.ref p]/\H p=some (B0 X.prog X.w p ks)/\ks.length<64 /\
  ∀(l:Addr) (zs:OE),H l=none->zs.Pairwise (· < ·)->(∀k,k∈zs↔k∈ks)->zs.length<=ks.length->Q (.ref l) (Zb H l (.lst (zs.map V.int)))):=by
 intro pins s M H xs L Q I r h;ext⟨p,ks,rfl,E,c,q⟩ h;obtain⟨u,rfl,y⟩:=Wq r;cases y;have G:Xj X.prog X.w s.heap p ks:=(I.hok p _ E).1;erw[Zfr (I.ok.hd J) G c λD C d tk i e zs keep no g B x mem f=>?_];have v:(zs.map V.int).length<=sizeLine:=by
  rw[Sv];exact Sh (Sh f (Nat.le_of_lt c)) ()
 have j:Yi X.prog X.w (Zb H D (.lst (zs.map V.int))) C D (.lst (zs.map V.int)):=⟨v,i.toList,e,vQ B,by rwa[Array.toArray_toList]⟩;exact⟨.ref D,_,(I.laidN (t':=tk) keep no j).drawnTo d,R,q D zs (I.hasNo no) x mem f⟩
def I0{pos' M:Pos}{iter : Expr}{cl:Oy}{P:TE}
  (j0:X.N.Nodup) (n0:X.N[i0]? = some f) (m0:QE X.env.scope f) (hc:X.calm=true) (hi:PI X h iter Q) (t0:closureFor scope X.env=pure cl) (k0:∀y∈scope.names,y.2≠.cell) (o0:scope.kind=.function)
  (p0:∀y∈scope.names,y.2=.local->scope.names.lookup y.1=some .local) (c0:W4 X scope cl N fr) (v0:VF X cl)
  (b0:((relabel scope X.env).names.all λp=>!(p.2==.cell || p.2==.free) || (cl.lookup p.1).isSome)=true)
  (hg:∀C s0 i ex pins,PG (XG X N scope cl C s0 i ex pins) h g) (ht:∀C s0 i ex pins,G5 (XG X N scope cl C s0 i ex pins) j tt) (he:∀C s0 i ex pins,PE (XG X N scope cl C s0 i ex pins) B P)
  (u0:swapsWith (.ListComp B [⟨h,iter,j,0⟩] scope J) (some (.Name f pos')) M.line X.env=pure true:=by rfl) (h0:X.fn f=true\/X.env.scope.names.lookup f=some .local:=by first|exact .inl rfl|exact .inr rfl)
  (hs:∀v,foldedSetIterable iter X.env v=pure v:=by intro _;rfl):PS X (.Assign [.Name f pos'] (.ListComp B [⟨h,iter,j,0⟩] scope J) M) (QF (M9 fr Q g tt P) (YK i0)):=by
 intro pins s σ y0 D0 d0 q0;rw[exec_Assign_Name_used _ _ _ _ u0];erw[Sa (wpAny_standAt (Sa ?_))];show wpAny _ _ (do let _ <-comprehension (.ListComp B [⟨h,iter,j,0⟩] scope J) scope X.env _ (newList []) false (eval iter X.env) (some (assign (.Name f pos') X.env))) _ _ s;erw[Sa (Zx (wU (Qf:=λ_ s'=>SP X pins D0 .next s') hc hi t0 k0 o0 p0 c0 v0 b0 hg ht he hs d0 q0 λD s2 I H2 Z fp f0 T nD w0 G u f2 d Y va e0 qn U E=>?_) λ_ s' hq=>Sb (Sb hq))];ext⟨m6,l0,_⟩ d.loc;have O:=(d.pin (D,{cls:=.type "list",dict:=none,data:=.seq (List.toArray T) nD}) (SG _ (SD.mpr R))).1;have I8:Zd X pins σ Z I:=u.call' (s':=I) d.os d.base d.hok d.bare λb L=>let ⟨_,k1,_,k3,k4,k5⟩:=f2 b L;⟨k3,k1,k4,k5⟩;have I9:Zd X pins σ (Zb Z D (.lst f0)) I:=I8.trackS Y O R E (λp H=>Sf (U p H)) ⟨e0,T,nD,va,O⟩;have a0:X.env.locals<D+1:=by
  have:=u.lt;rw[G]at this;exact Sn this
 have S:∀x c,X.env.cells.lookup x=some c->c<D+1:=λx c e=>by
  obtain⟨v,q⟩:=u.cell x c e;have lt:=q.lt;rw[G]at lt;exact Sn lt
 erw[wpAny_assign_Name (yJ (v:=.ref D) I9 j0 n0 m0 R (λs7 r0 E=>?_) h0)];ext⟨aa,sb,ha⟩ E;have nC:D+1≠aa:=by
  rcases ha with rfl|ha;exact Nat.ne_of_gt a0;exact Nat.ne_of_gt (S _ _ ha)
 erw[⟨m6,l0.sameBut sb nC,λh8 g0=>⟨_,_,r0.turned (h':=h8) (t':=s7.toks) (λb o L e=>g0.extBut b o L e) ?_ (Nat.ne_of_gt a0) (.inr ?_) (λx c e=>Sf (S x c e)) (λp H=>Sf (Sn (U p H))),qn D Y⟩⟩];rw[Zm (Nat.ne_of_gt (Sm D))];exact d.free;have:=u.sz;rw[G]at this;exact Nat.le_succ_of_le this
end L2
namespace K1
open PySem L2
structure Np(l:OG)(lo hi:Nat):Prop where
 one:1<=l.length
 few:l.length<=12
 up:l.Pairwise (· < ·)
 all:∀x∈l,lo<=x/\x<=hi
def RT.good:RT->Prop
 |.always=>True
 |.week b=>b<=127
 |.span a b r=>a<=b/\b<=9999/\r.good
 |.each n c=>1<=n/\n<=28/\Np c 0 (n - 1)
 |.either r s|.both r s=>r.good/\s.good
 |.but ds r=>Np ds 0 9999/\r.good
structure WM(K:Ox)(C:Addr):Prop where
 ha:W.findIn K (.ref C) "__class__"=some (some (.builtin "object.__class__"))
 hn:W.specialIn K (.builtin "object.__class__") "__get__"=some (some (.builtin "getset_descriptor.__get__"))
 tk:W.takesIn K (.builtin "object.__class__")=some true
 hm:W.mroIn K C (.type "object")=some true
def WM.ty(o:WM K C)(c:YO K C)(e:H a=some (.ins C d fs)):XW K H (.ref a) (.ref C):=.ins e c o.ha o.hn o.tk o.hm
def Y9(c H:Hp):Hp:=λa=>match H a with
 |none=>c a
 |some _=>none
def V2(n:H a=none)(e:c a=some o):Y9 c H a=some o:=by
 unfold Y9;rwa[n]
def B1(e:Y9 c H a=some o):H a=none/\c a=some o:=by
 unfold Y9 at e;cases h:H a with
 |none=>rw[h]at e;exact⟨R,e⟩
 |some u=>rw[h]at e;cases e
def V3(c H:Hp):Zc (Y9 c H) c:=λ_ _ e=>(B1 e).2
def I3(s0:Zc c H)(s1:∀a o,H a=none->f a=some o->d a=some o):Zc (Y9 f H) (Y9 d c):=λa o e =>
 V2 (s0.free (B1 e).1) (s1 a o (B1 e).1 (B1 e).2)
def XH(n:c x=none)(s:Zc c H)(o:HO):Zc c (Zb H x o):=λb u e=>by
 rw[Zm (Z1 e n)];exact s _ _ e
def Ql{b:Nat}{lo hi:Int}(h1:lo<=b)(c:(b:Int)<=hi):Yq (.int b) lo hi=true:=SQ ⟨h1,c⟩
inductive YM(tp:Addr)(H:Hp):V->RT->Prop
 |always {a:Addr} (h:H a=some (.tup [.str (OK "always")])):YM tp H (.ref a) .always
 |week {a:Addr} {b:Nat} (h:H a=some (.tup [.str (OK "week"),.int b])):YM tp H (.ref a) (.week b)
 |span {a:Addr} {x y:Nat} {v:V} {r:RT} (h:H a=some (.tup [.str (OK "span"),.int x,.int y,v])) (hv:YM tp H v r):YM tp H (.ref a) (.span x y r)
 |each {a l:Addr} {n:Nat} {ss:OG} (h:H a=some (.tup [.str (OK "each"),.int n,.ref l])) (hl:H l=some (.lst (YL ss))) (ne:l≠tp):YM tp H (.ref a) (.each n ss)
 |either {a:Addr} {v u:V} {r s:RT} (h:H a=some (.tup [.str (OK "either"),v,u])) (hv:YM tp H v r) (hu:YM tp H u s):YM tp H (.ref a) (.either r s)
 |both {a:Addr} {v u:V} {r s:RT} (h:H a=some (.tup [.str (OK "both"),v,u])) (hv:YM tp H v r) (hu:YM tp H u s):YM tp H (.ref a) (.both r s)
 |but {a l:Addr} {ds:OG} {v:V} {r:RT} (h:H a=some (.tup [.str (OK "but"),.ref l,v])) (hl:H l=some (.lst (YL ds))) (ne:l≠tp) (hv:YM tp H v r):YM tp H (.ref a) (.but ds r)
def YM.same(s:Zc H i)(h:YM tp H v r):YM tp i v r:=by
 induction h with
 |always h=>exact .always (s _ _ h)
 |week h=>exact .week (s _ _ h)
 |span h _ f=>exact .span (s _ _ h) f
 |each h d ne=>exact .each (s _ _ h) (s _ _ d) ne
 |either h _ _ g c=>exact .either (s _ _ h) g c
 |both h _ _ g c=>exact .both (s _ _ h) g c
 |but h d ne _ f=>exact .but (s _ _ h) (s _ _ d) ne f
end K1
namespace L2
open PySem PySem.Spec PyProof.Rows
def B2:WJ (YC X.prog X.w) X E0:=λ_ _ _ _ _ _ _ h=>by
 ext⟨_,_,_,_,_,_,_,_,_,_,_,z⟩ h;exact z.elim
end L2
namespace K1
open PySem L2
end K1
namespace L2
open PySem PySem.Spec PyProof.Rows
theorem vR:∀{c:OC} {us:OB},ZB (c.map V.str) us->∃l:List (Str×Tok),us=strValues l/\l.map (·.1)=c
 |[],_,.nil=>⟨[],R,R⟩
 |t::r,_,.cons (b:=u) h q=>by
  ext⟨tk,rfl⟩ h;obtain⟨l,rfl,e⟩:=vR q;exact⟨(t,tk)::l,R,by rw[SL,e]⟩
theorem vS(n:Nat):∀(c:OC) (k:Nat),c.foldl (λa x=>a+x.length+n) k=k+(c.map λx=>x.length+n).sum
 |[],k=>by simp
 |t::r,k=>by
  rw[List.foldl_cons,vS n r,SL,List.sum_cons];lia
theorem vT(n:Nat):∀c:List Str,(c.map λx=>x.length+n).sum=(c.map (·.length)).sum+c.length*n
 |[]=>by simp
 |y::r=>by
  have d:=vT n r;simp only[SL,List.sum_cons,Sy,Nat.succ_mul];lia
inductive Zfw(K:Ox)(x:V)(xs:List V)(H:Hp)(Q:VK):Prop|mk (z:Str) (p:Addr) (ts:OC) (_:x=.str z) (_:xs=[.ref p]) (_:Ze K H p (ts.map V.str)) (_:(ts.map λx=>x.length+z.length).sum<=sizeLine) (_:Q (.str (Str.join z ts)) H)
def Zfx:Lc X "str.join" (Zfw X.K):=by
 intro pins s J H x S v U Q I D r h;ext⟨z,p,d,rfl,rfl,i,P,q⟩ h;ext⟨t,rfl⟩ D;obtain⟨u,rfl,e⟩:=Wq r;cases e;obtain⟨a0,C,B,_⟩:=I.list i;obtain⟨l,rfl,c⟩:=vR C;have j:Builtin.Str.tooLong ((l.map (·.1)).toArray.foldl (· + ·.length+z.length) 0)=false:=by
  rw[c,List.foldl_toArray,vS];unfold Builtin.Str.tooLong;exact SR ()
 erw[call_meets F.slot_str_join (typeIs_str _ _ _) F.entry_str_join (F.args_str_join_2 _ _) (meets_str_join_list z t p l j) ⟨B.isList,?_⟩];have g:Builtin.Str.glued z (l.map (·.1))=Str.join z d:=by rw[c];exact StrLaws.glued_eq_join z d
 have G:(Str.join z d).length<=sizeLine:=by
  have T:=StrLaws.join_length_le z d;have O:=vT z.length d;lia
 have many:∀(m:Made),m=.str (Builtin.Str.glued z (l.map (·.1)))->m.post (λv E=>wants (EP X pins J Q) X.xe (.ok (.ret v)) E) s:=λm e=>by
  subst e;erw[⟨by rwa[g],?_⟩];rw[g];exact⟨.str _,H,I.tok _,⟨_,R⟩,q⟩
 match l,c,many with
 |[],c,many=>exact many _ R
 |[y],c,many =>
  ext⟨f,M⟩ y;have L:Str.join z d=f:=by rw[<-c];rfl
  rw[L]at q;exact⟨.str f,H,I,⟨M,R⟩,q⟩
 |y::Y::Z,c,many=>exact many _ R
end L2
namespace K1
open PySem L2
def Zfy{z:Str}{c:OC}{m:Nat}(hz:z.length<=1)(hm:c.length<=20)(h:∀x∈c,x.length<=10):(c.map λx=>x.length+z.length).sum<=sizeLine:=by
 have f:∀l:List Str,(∀x∈l,x.length<=10)->(l.map λx=>x.length+z.length).sum<=11*l.length:=by
  intro l;induction l with
  |nil=>intro _;simp
  |cons y r g =>
   intro h;have j:=h y SC;have i:=g λx d=>h x (SB _ d);simp only[SL,List.sum_cons,Sy];lia
 have:=f c h;exact Sh (show _<=1000 by lia) ()
end K1
namespace L2
open PySem PySem.Spec PyProof.Rows
inductive Zfz(t u:TS)(D:Vd)(σ:St)(H:Hp):Prop|mk (J:St->Hp->Prop) (_:t {D with nx:=J} σ H) (_:∀σ' H',J σ' H'->u D σ' H')
def Qm{st:Stmt}{rest:List Stmt}{t u:TS}(h1:PS X st t)(c:XV X rest u):XV X (st::rest) (Zfz t u):=by
 intro pins s i H D I h;ext⟨J,h,x⟩ h;erw[wpAny_execs_cons (Zx (h1 pins s i H {D with nx:=J} I h) λf s1 q=>?_)];cases f with
 |next =>
  ext⟨d,j,g,q⟩ q;exact c pins s1 d j D g (x _ _ q)
 |ret v=>exact q
 |brk=>exact q
 |cont=>exact q
section
variable{σ:St}{h':Heap}
def Zd.turnedL{t':Nat}{fp:OH}(I:Zd X pins σ H s)(k:∀b o,b∉fp->s.heap.get? b=some o->h'.get? b=some o)(f:∀b∈fp,Vw X pins H b):Zd X pins σ H {s with heap:=h',toks:=t'}:=by
 have h:∀b u,H b=some u->b∉fp:=λb u e z=>by rw[(f b z).1]at e;cases e
 refine I.step (g':=s.gens) (d':=s.drawn) (ch:=fp) (λb g=>⟨(f b g).2.2.2.1,(f b g).2.1,(f b g).2.2.2.2.1,(f b g).2.2.2.2.2⟩) (λb o _ _ d e _=>k b o d e) (λb o _ _ d e _=>⟨o.slots,k b o d e⟩) (λ_ _ _ _ n=>n)
  (λb o d e=>⟨o,k b o d e⟩) (λ_ _ e=>e) (λ_ _ _ e=>e) (λb y e=>⟨#[],by rw[e];simp⟩) (λm hm=>?_) (λb u e=>?_) I.bare
 ext⟨o,j,i,x,r⟩ hm;exact⟨o,j,i,k _ o (λz=>(f _ z).2.1 R) x,r⟩;erw[(I.hok b u e).stay (λc v d q=>k c v ?_ q) (λ_ q=>q) λ_ _ q=>q];rcases d with z|z;rw[z];exact h b u e;exact h c _ z
def Zd.paired{t':Nat}{fp:OH}{x y:V}{u v:Value}(I:Zd X pins σ H s)(f:∀b∈fp,Vw X pins H b)(B:∀b∈fp,∃o,s.heap.get? b=some o)
  (k:∀b o,b∉fp->s.heap.get? b=some o->h'.get? b=some o) (i:h'.get? s.heap.objs.size=some {cls:=.type "tuple",data:=.seq #[u,v]}) (D:ZL x u) (C:ZL y v) :
  Zd X pins σ (Zb H s.heap.objs.size (.tup [x,y])) {s with heap:=h',toks:=t'}/\∀b∈fp,Zb H s.heap.objs.size (.tup [x,y]) b=none:=by
 have j:Zd X pins σ (Zb H s.heap.objs.size (.tup [x,y])) {s with heap:=s.heap.push {cls:=.type "tuple",data:=.seq #[u,v]},toks:=t'} :=
  I.laid (λb ob q=>Sc _ q) (Sg _) ⟨show 2<=sizeLine by lia,[u,v],.cons D (.cons C .nil),IsTup.new _ _⟩
 have ne:∀b∈fp,b≠s.heap.objs.size:=λb c e=>by
  obtain⟨o,q⟩:=B b c;exact Os (Se q) (by rw[e];exact Sl _)
 have g:∀b∈fp,Zb H s.heap.objs.size (.tup [x,y]) b=none:=λb c=>by rw[Zm (ne b c)];exact(f b c).1
 erw[⟨Zd.turnedL (s:={s with heap:=s.heap.push {cls:=.type "tuple",data:=.seq #[u,v]},toks:=t'}) (t':=t') (fp:=fp) j (λb o c e=>?_) (λb c=>⟨g b c,(f b c).2⟩),g⟩];have d:(s.heap.push {cls:=.type "tuple",data:=.seq #[u,v]}).get? b=some o:=e;by_cases h:b=s.heap.objs.size;subst h;rw[Sd _ R]at d;cases d;exact i;rw[Heap.get?_push_ne _ _ _ h]at d;exact k b o c d
end
def JR(K:Ox)(l:Addr):It :=
 ⟨λi H=>∃c x,Ze K H l c/\c[i]? = some x,λi H v d=>∃p x,H p=none/\(∀c,Ze K H l c->c[i]? = some x)/\v=.ref p/\d=Zb H p (.tup [.int i,x]),λi H=>∃c,Ze K H l c/\c.length<=i⟩
def ZfA{es:OD}{k:Nat}{i0:Pos}(l e c:Addr)(X:e≠c):Q4 P w K (.Tuple es k i0) (JR K l) [e,c] e (λi h=>(∃g,IsEnum h e c i g)/\h.IsListIter c l i) where
 mem:=by simp
 obj:=λi h st b f=>by
  ext⟨⟨g,d⟩,o,Q,O,hd⟩ st;have M:b=e\/b=c:=by simpa using f
  rcases M with rfl|rfl;exact⟨_,d,λh0 z=>by cases z⟩;exact⟨o,Q,λh0 z=>by rw[hd]at z;cases z⟩
 keep:=λi h h' st U=>⟨let ⟨g,d⟩:=st.1;⟨g,U e (by simp) _ d⟩,st.2.at λo q=>U c (by simp) o q⟩
 item:=by
  intro d0 E D J O i pins s σ g0 e0 I B st H;subst E D J;ext⟨xs,x,v,L⟩ H;obtain⟨k0,C,p,hz⟩:=I.list v;obtain⟨u,Y,ru⟩:=C.get L;ext⟨⟨g,d⟩,j⟩ st;have j0:=j;erw[wpAny_pyNext_enum_item d j p.isList (x:=u) (by simpa using Y) X λh1 Q Z hT m0 hk=>⟨_,R,?_⟩];erw[wpAny_letOwnedTupleGo_enum (s:={s with heap:=h1,toks:=s.toks+1}) Q λT c0 G=>?_];have b0:e<s.heap.objs.size:=Se d;have l0:c<s.heap.objs.size:=by ext⟨_,q,_⟩ j;exact Se q
  have f0:T.get? s.heap.objs.size=some {cls:=.type "tuple",data:=.seq #[.int i s.toks,u]}:=(G.2 _ (Nat.ne_of_gt b0)).trans hT;obtain⟨I2,n2⟩:=I.paired (t':=s.toks+1) (fp:=[e,c]) (x:=.int i) (y:=x) (h':=T) B (λb f=>by
   have M:b=e\/b=c:=by simpa using f
   rcases M with rfl|rfl;exact⟨_,d⟩;ext⟨o,q,_⟩ j0;exact⟨o,q⟩) (λb o f q=>by
   have S:b≠e:=λz=>f (by simp[z]);have a0:b≠c:=λz=>f (by simp[z]);exact(G.2 b S).trans (hk b o S a0 q)) f0 ⟨s.toks,R⟩ ru
  erw[⟨.ref s.heap.objs.size,_,I2,R,⟨_,x,I.hok.fresh (Sg _),λys hy=>by rwa[I.list_inj hy v],R,R⟩,⟨⟨_,by simpa using c0⟩,Z.at λo q=>(G.2 c X.symm).trans q⟩,n2⟩]
 done:=by
  intro d0 E D J O i pins s σ g0 e0 I B st H;subst E D J;ext⟨xs,v,L⟩ H;obtain⟨k0,C,p,hz⟩:=I.list v;ext⟨⟨g,d⟩,j⟩ st;have hl:=C.length;exact wpAny_pyNext_enum_end (I.ok.hd O) d j p.isList (by simp;lia) λh' eb=>⟨R,I.turnedL (t':=s.toks) (fp:=[e,c]) (λb o f q=>eb b o (λz=>f (by simp[z])) q) B⟩
 self:=λ_ _ _ _ _ st h=>by
  ext⟨⟨g,d⟩,_⟩ st;exact wpAny_pyIter_enum d h
inductive ZfB(K:Ox)(R:It->Hp->Prop)(vs:List V)(H1:Hp):Prop|mk a (_:vs=[.ref a]) (_:(∃xs,Ze K H1 a xs)) (_:R (JR K a) H1)
def ZfC(K:Ox)(h:TA):TI:=λd H g=>h d H λc f=>ZfB K g c f
def vU{B:OD}{k:Nat}{tp:Pos}{a:Expr}{d:TA}{p g:Pos}(D:Gl X "enumerate") (hm:X.mg "enumerate"=none) (ha:PA X [a] d) (G:starEach [a] X.env=[(false,eval a X.env)]:=by rfl):PI X (.Tuple B k tp) (.Call (.Name "enumerate" p) [a] [] g) (ZfC X.K d):=by
 intro pins s L H Z I h;erw[Call_ (Q2 I D hm boot_enumerate (PyProof.Rows.callWith_type1 (Zx (ha g pins s L H _ I h) λY s1 ⟨S,x,c,y,v⟩=>?_) G R))];ext⟨l,e,⟨U,u⟩,q⟩ v;subst e;cases y with
 |cons r O =>
  cases O;cases r;obtain⟨b0,Q,C,T⟩:=c.list u;erw[call_enumerate_list C.isList λE i j a0 M=>?_];erw[wpAny_pyIter_enum (s:={s1 with heap:=E}) i ?_];erw[⟨s1.heap.objs.size+1,[s1.heap.objs.size+1,s1.heap.objs.size],_,_,x,R,c.kept (t':=s1.toks) M,ZfA l _ _ (Nat.succ_ne_self _),⟨⟨_,i⟩,j⟩,λb P=>?_,q⟩];have J:b=s1.heap.objs.size+1\/b=s1.heap.objs.size:=by simpa using P
  have f:s1.heap.objs.size<=b:=by rcases J with rfl|rfl;exact Nat.le_succ _;exact Sg _
  exact c.fpOk f (c.hok.fresh f)
def vV{a:Addr}{xs:List V}{g:TG}{B:TS}{D:Vd}{c:St}(d:Nat->St->Hp->Prop)(L:d 0 c H)(I:∀i c H,i<=xs.length->d i c H->Ze K H a xs)
  (M:∀i x p c H,xs[i]? = some x->H p=none->d i c H->g (.ref p) c (Zb H p (.tup [.int i,x])) λj u=>B {D with nx:=d (i+1),ct:=d (i+1),bk:=D.nx} j u) (hd:∀c H,d xs.length c H->D.nx c H) :
  ∃W:Nat->Nat->St->Hp->Prop,(∃m,W 0 m c H)/\∀i m c H,W i m c H ->
   ((JR K a).stop i H/\D.nx c H)\/((JR K a).go i H/\∃N:St->Hp->Prop,(∀h f,N h f->∃E,E<m/\W (i+1) E h f)/\∀x f,(JR K a).yld i H x f->g x c f λj u=>B {D with nx:=N,ct:=N,bk:=D.nx} j u):=by
 erw[⟨λi m c H=>m=xs.length - i/\i<=xs.length/\d i c H,⟨xs.length,by simp,Sk _,L⟩,?_⟩];rintro i m c H ⟨rfl,J,p⟩;have q:=I i c H J p;by_cases C:i<xs.length;erw[.inr ⟨⟨xs,xs[i],q,by simp[C]⟩,d (i+1),λh f O=>⟨xs.length - (i+1),(),R,C,O⟩,λv f y=>?_⟩];ext⟨r,x,G,y,rfl,rfl⟩ y;exact M i x r c _ (y xs q) G p;have e:i=xs.length:=by lia
 subst e;exact .inl ⟨⟨xs,q,Sg _⟩,hd c H p⟩
section
variable{κ:Type}[DecidableEq κ]
def Ys(c:List (κ×V))(k:κ):Option V:=(c.find? λd=>decide (d.1=k)).map (·.2)
def Xf(d:List (κ×V))(k:κ)(v:V):List (κ×V) :=
 if (d.any λc=>decide (c.1=k))=true then d.map (λc=>if c.1=k then (c.1,v)else c)else d++[(k,v)]
def Lo{p:κ×V}(e:p.1=k):Ys (p::r) k=some p.2:=by simp[Ys,List.find?_cons,e]
def Nq{p:κ×V}(e:¬ p.1=k):Ys (p::r) k=Ys r k:=by simp[Ys,List.find?_cons,e]
theorem Nr(k:κ):∀c:List (κ×V),(c.any λd=>decide (d.1=k))=(Ys c k).isSome
 |[]=>rfl
 |p::r=>by
  rw[List.any_cons];by_cases e:p.1=k;simp only[Lo e,SQ e,Bool.true_or,Option.isSome_some];rw[Nq e,SR e,Bool.false_or];exact Nr k r
def Nu(c:List (κ×V))(k:κ)(v:V):(Xf c k v).length<=c.length+1:=by
 unfold Xf;split;rw[Sv];lia;rw[Su,Sy,List.length_nil];lia
def Qn{c:List (κ×V)}{k:κ}(v:V)(h:Ys c k=none):Xf c k v=c++[(k,v)]:=by
 unfold Xf;rw[Nr,h];exact SV ()
def WH.isSome_eq{o:Option V}{u:Option Value}(r:WH o u):o.isSome=u.isSome:=by
 cases o with
 |none=>cases u with
  |none=>rfl
  |some _=>exact(show False from r).elim
 |some _=>cases u with
  |none=>exact(show False from r).elim
  |some _=>rfl
def KV.val(r:KV g vs)(k:κ):WH (Ys g k) (valueAt vs k):=by
 unfold KV at r;induction r with
 |nil=>exact True.intro
 |@cons p q u d h t j =>
  ext⟨f,i⟩ h;by_cases e:p.1=k;have c:q.1=k:=f.symm.trans e;have b:valueAt (q::d) k=some q.2:=by simp[valueAt,List.find?_cons,c]
  rwa[Lo e,b];have c:¬ q.1=k:=λz=>e (f.trans z);have b:valueAt (q::d) k=valueAt d k:=by simp[valueAt,List.find?_cons,c]
  rwa[Nq e,b]
def KV.any{d:List (κ×V)}{vs:List (κ×Value)}(r:KV d vs)(k:κ):(d.any λc=>decide (c.1=k))=vs.any λc=>decide (c.1=k):=by
 unfold KV at r;induction r with
 |nil=>rfl
 |cons h t f=>rw[List.any_cons,List.any_cons,f,h.1]
def KV.repl{f:List (κ×V)}{vs:List (κ×Value)}(r:KV f vs)(k:κ)(j:ZL y u) :
  KV (f.map λc=>if c.1=k then (c.1,y)else c) (vs.map λc=>if c.1=k then (c.1,u)else c):=by
 unfold KV at r ⊢;induction r with
 |nil=>exact .nil
 |@cons p q v x h t i =>
  rw[SL,SL];erw[.cons ?_ i];ext⟨d,g⟩ h;by_cases e:p.1=k;rw[SW e,SW (d.symm.trans e)];exact⟨d,j⟩;rw[SV e,SV (λz=>e (d.trans z))];exact⟨d,g⟩
def KV.put(r:KV d vs)(k:κ)(c:ZL y u):KV (Xf d k y) (stored vs k u):=by
 unfold Xf stored;rw[r.any k];by_cases e:(vs.any λf=>decide (f.1=k))=true;rw[SW e,SW e];exact r.repl k c;rw[SV e,SV e];exact Paired.snoc r ⟨R,c⟩
def KV.length{c:List (κ×V)}{vs:List (κ×Value)}(r:KV c vs):c.length=vs.length:=Paired.length r
end
def B3(r:ZL (kV k) u):(WG P w).is k u=true:=by
 cases k with
 |inl i=>obtain⟨t,e⟩:=(show ∃t,u=Value.int i t from r);subst e;exact ZcO P w i t
 |inr x=>obtain⟨t,e⟩:=(show ∃t,u=Value.str x t from r);subst e;exact ZcP P w x t
theorem vW:∀{ks:List ZF} {us:OB},ZB (ks.map kV) us->ItemsAre (WG P w) ks us
 |[],_,r=>by rw[List.map_nil]at r;cases r;exact .nil
 |k::ks,_,r=>by
  rw[SL]at r;cases r with
  |cons h t=>exact .cons (B3 h) (vW t)
abbrev KT(H:Hp):List (List ZF×V)->List (List ZF×Addr×Value)->Prop:=Paired λp q=>p.1=q.1/\H q.2.1=some (.tup (p.1.map kV))/\ZL p.2 q.2.2
def KT.val(r:KT H g xs)(k:List ZF):WH (Ys g k) ((atKey xs k).map (·.2)):=by
 induction r with
 |nil=>exact True.intro
 |@cons p q u d h t j =>
  ext⟨f,_,i⟩ h;by_cases e:p.1=k;have c:q.1=k:=f.symm.trans e;have b:atKey (q::d) k=some q.2:=by simp[atKey,List.find?_cons,c]
  rwa[Lo e,b];have c:¬ q.1=k:=λz=>e (f.trans z);have b:atKey (q::d) k=atKey d k:=by simp[atKey,List.find?_cons,c]
  rwa[Nq e,b]
def KT.repl{g:List (List ZF×V)}{xs:List (List ZF×Addr×Value)}(r:KT H g xs)(k:List ZF)(j:ZL y u) :
  KT H (g.map λd=>if d.1=k then (d.1,y)else d) (xs.map (putAt k u)):=by
 induction r with
 |nil=>exact .nil
 |@cons p q x B h t i =>
  rw[SL,SL];erw[.cons ?_ i];ext⟨c,f,v⟩ h;unfold putAt;by_cases e:p.1=k;rw[SW e,SW (c.symm.trans e)];exact⟨c,f,j⟩;rw[SV e,SV (λz=>e (c.trans z))];exact⟨c,f,v⟩
def KT.put(r:KT H c xs)(k:List ZF)(g:H b=some (.tup (k.map kV)))(d:ZL y u) :
  KT H (Xf c k y) (storedH xs k b u):=by
 have e:(c.any λf=>decide (f.1=k))=(atKey xs k).isSome:=by
  rw[Nr,(r.val k).isSome_eq,Option.isSome_map]
 unfold Xf storedH;rw[e];by_cases q:(atKey xs k).isSome=true;rw[SW q,SW q];exact r.repl k d;rw[SV q,SV q];exact Paired.snoc r ⟨R,g,d⟩
def KT.keeps(r:KT H c xs)(f:∀b ys,H b=some (.tup ys)->d b=some (.tup ys)):KT d c xs :=
 Paired.mapP r λ_ _ z=>⟨z.1,f _ _ z.2.1,z.2.2⟩
section
variable{h:Heap}{a:Addr}
def vX(ok:Yf P w H h)(e:Rd H a u):Yi P w H h a u:=e.ok ok
def B4{c:List (ZF×V)}(ok:Yf P w H h)(e:Rd H a (.dK c)):c.length<=sizeLine/\(a==sysModules)=false/\∃vs,KV c vs/\h.DictOf (WG P w) a vs :=
 show Yi P w H h a (.dK c)from vX ok e
def vY{c:List (ZF×V)}(ok:Yf P w H h)(e:H a=some (.dK c)):c.length<=sizeLine/\(a==sysModules)=false/\∃vs,KV c vs/\h.DictOf (WG P w) a vs:=B4 ok (.inl e)
def JS{ks:List ZF}(ok:Yf P w H h)(e:H a=some (.tup (ks.map kV))):(tupleKind (WG P w)).is h ks a:=by
 obtain⟨_,c,r,o,g,f,n,d⟩:=(show Yi P w H h a (.tup (ks.map kV))from ok a _ e);exact⟨o,c.toArray,n,g,f,d,by simpa using vW r⟩
def JT{d:List (List ZF×V)}(ok:Yf P w H h)(e:Rd H a (.dT d)):d.length<=sizeLine/\(a==sysModules)=false /\
  ∃xs,KT H d xs/\h.DictOfH (tupleKind (WG P w)) a xs:=by
 obtain⟨z,y,xs,r,o,D,u,v,i,C,j,g⟩:=(show Yi P w H h a (.dT d)from vX ok e);erw[⟨z,y,xs,r,o,D,u,v,i,C,j,λx c=>?_,g⟩];have all:∀{l:List (List ZF×V)} {m:List (List ZF×Addr×Value)},KT H l m->∀x∈m,(tupleKind (WG P w)).is h x.1 x.2.1:=by
  intro l m q;induction q with
  |nil=>intro x c;exact nomatch c
  |@cons p q E G f t B =>
   intro x c;rcases SE.mp c with e|c;subst e;exact JS ok (by rw[<-f.1];exact f.2.1);exact B x c
 exact all r x c
def ZfD{c:List (List ZF×V)}(ok:Yf P w H h)(e:H a=some (.dT c)):c.length<=sizeLine/\(a==sysModules)=false /\
  ∃xs,KT H c xs/\h.DictOfH (tupleKind (WG P w)) a xs:=JT ok (.inl e)
end
def Xk(H:Hp)(a:Addr)(y:V)(r:Option V):Prop :=
 (∃c k,Rd H a (.dK c)/\y=kV k/\r=Ys c k)\/∃c k b,Rd H a (.dT c)/\y=.ref b/\H b=some (.tup (k.map kV))/\r=Ys c k
def VI(H:Hp)(a:Addr)(y v:V)(d:Hp):Prop :=
 (∃c k,H a=some (.dK c)/\y=kV k/\c.length<sizeLine/\d=Zb H a (.dK (Xf c k v))) \/
 ∃c k b,H a=some (.dT c)/\y=.ref b/\H b=some (.tup (k.map kV))/\c.length<sizeLine/\d=Zb H a (.dT (Xf c k v))
theorem Xk.k{a:Addr}{c:List (ZF×V)}{k:ZF}(e:H a=some (.dK c)):Xk H a (kV k) (Ys c k):=.inl ⟨c,k,.inl e,R,R⟩
theorem VI.k{a:Addr}{c:List (ZF×V)}{k:ZF}{v:V}(e:H a=some (.dK c))(d:c.length<sizeLine):VI H a (kV k) v (Zb H a (.dK (Xf c k v))):=.inl ⟨c,k,e,R,d,R⟩
section
variable{σ:St}{a:Addr}{y v:V}{u r:Value}{o:Option V}
def Zd.big(I:Zd X pins σ H s):sysModules<s.heap.objs.size:=by
 have h:mainGlobals<s.heap.objs.size:=(I.mod.glob.keeps I.bk).lt;exact Nat.lt_trans () h
def ZfE(B:A.units+1<cLine)(I:Zd X pins σ H s)(g:Xk H a y (some v))(x:ZL y u)(h:∀c s',Zd X pins σ H s'->ZL v c->Q c s') :
  wpAny (model X.prog X.w) A (getItem (.ref a) u) Q E s:=by
 rcases g with⟨J,k,e,j,l⟩|⟨J,k,b,e,j,D,l⟩;subst j;obtain⟨z,hd,C,rel,f⟩:=B4 I.hok e;obtain⟨c,d,i⟩:=WH.some_of (v:=v) (o:=valueAt C k) (by rw[l];exact rel.val k);exact wpAny_getItem_of (B3 x) f.mapOf d (h c _ (I.tok _) i);subst j;cases (show u=Value.ref b from x);obtain⟨z,hd,G,rel,f⟩:=JT I.hok e;obtain⟨c,d,i⟩:=WH.some_of (v:=v) (o:=(atKey G k).map (·.2)) (by rw[l];exact rel.val k);obtain⟨p,M,L⟩:=Of.mp d;erw[wpAny_getItem_heap (tupleKind_room_in1 B) (JS I.hok D) f M ?_];rw[L];exact h c _ (I.tok _) i
def ZfF(i:A.units+1<cLine)(I:Zd X pins σ H s)(g:Xk H a y o)(f:ZL y u)(h:∀s',Zd X pins σ H s'->Q (.bool o.isSome) s') :
  wpAny (model X.prog X.w) A (compareOp .In u (.ref a)) Q E s:=by
 rcases g with⟨x,k,e,d,l⟩|⟨x,k,b,e,d,j,l⟩;subst d;obtain⟨z,hd,B,rel,c⟩:=B4 I.hok e;erw[wpAny_in_of (B3 f) hd c.mapOf ?_];rw[<-(rel.val k).isSome_eq,<-l];exact h _ (I.tok _);subst d;cases (show u=Value.ref b from f);obtain⟨z,hd,C,rel,c⟩:=JT I.hok e;erw[wpAny_in_heap (tupleKind_room_in1 i) (JS I.hok j) hd c ?_];have q:=(rel.val k).isSome_eq;rw[Option.isSome_map]at q;rw[<-q,<-l];exact h _ (I.tok _)
def ZfG(i:A.units+1<cLine)(I:Zd X pins σ H s)(g:Xk H a y o)(f:ZL y u)(h:∀s',Zd X pins σ H s'->Q (.bool (!o.isSome)) s') :
  wpAny (model X.prog X.w) A (compareOp .NotIn u (.ref a)) Q E s:=by
 rcases g with⟨x,k,e,d,l⟩|⟨x,k,b,e,d,j,l⟩;subst d;obtain⟨z,hd,B,rel,c⟩:=B4 I.hok e;erw[wpAny_notIn_of (B3 f) hd c.mapOf ?_];rw[<-(rel.val k).isSome_eq,<-l];exact h _ (I.tok _);subst d;cases (show u=Value.ref b from f);obtain⟨z,hd,C,rel,c⟩:=JT I.hok e;erw[wpAny_notIn_heap (tupleKind_room_in1 i) (JS I.hok j) hd c ?_];have q:=(rel.val k).isSome_eq;rw[Option.isSome_map]at q;rw[<-q,<-l];exact h _ (I.tok _)
def Nv{h':Heap}(I:Zd X pins σ H s)(c:E8 (H a))(g:Heap.SameBut a s.heap h')(f:∃q,h'.get? a=some q)(d:Yi X.prog X.w (Zb H a ob) h' a ob) :
  Zd X pins σ (Zb H a ob) {s with heap:=h',toks:=t'} :=
 I.write (x:=a) (e:=a) c (.inl R) (λb q h z=>(g.2 b h).trans z) f d
def vZ{h':Heap}{c:List (ZF×V)}(z:c.length<=sizeLine)(hd:(a==sysModules)=false)(rel:KV c vs)(dd:h'.DictOf (WG P w) a vs) :
  Yi P w d h' a (.dK c):=⟨z,hd,vs,rel,dd⟩
def ZfH(S:A.units+1<cLine)(I:Zd X pins σ H s)(g:VI H a y v O)(M:ZL y u)(G:ZL v r)(h:∀s',Zd X pins σ O s'->Q Unit.unit s') :
  wpAny (model X.prog X.w) A (setItem (.ref a) u r) Q E s:=by
 rcases g with⟨c,k,e,B,l,C⟩|⟨c,k,b,e,B,J,l,C⟩;subst B C;obtain⟨z,hd,Z,rel,x⟩:=vY I.hok e;have j:Z.length<=sizeLine:=by rwa[<-rel.length]
 have i:(Xf c k v).length<=sizeLine:=by have:=Nu c k v;lia
 erw[wpAny_setItem_pairs (hsz:=j) (B3 M) x λP f D=>h _ ?_];have he:∃q,P.get? a=some q:=let ⟨q,_,_,d,_⟩:=f;⟨q,d⟩;exact Nv I (by rw[e];exact True.intro) D he (vZ i hd (rel.put k G) f);subst B C;cases (show u=Value.ref b from M);obtain⟨z,hd,xs,rel,x⟩:=ZfD I.hok e;have j:xs.length<=sizeLine:=by rwa[<-Paired.length rel]
 have i:(Xf c k v).length<=sizeLine:=by have:=Nu c k v;lia
 erw[wpAny_setItem_heap (hsz:=j) (tupleKind_room_in1 S) (JS I.hok J) x λP f D=>h _ ?_];ext⟨q,T,ep,d,U,h3,Y,_,h5⟩ f;erw[Nv I (by rw[e];exact True.intro) D ⟨q,d⟩ ⟨i,hd,_,(rel.put k J G).keeps λa0 ys L=>?_,q,T,ep,d,U,h3,Y,h5⟩];rwa[Zm (Yr L e (λz=>nomatch z))]
end
section
variable{σ:St}{a:Addr}{kvs:List (ZF×V)}{k:ZF}{u:Value}
def ZfI(I:Zd X pins σ H s)(e:Rd H a (.dK kvs))(h:∀t s',Zd X pins σ H s'->Q (.int kvs.length t) s'):wpAny (model X.prog X.w) A (call (.builtin "len") [.ref a]) Q E s:=by
 obtain⟨z,hd,d,rel,c⟩:=B4 I.hok e;erw[call_len_dict hd c (by rw[<-rel.length];rw[sizeLine_eq]at z;lia) ?_];rw[<-rel.length];exact h _ _ (I.tok _)
end
def Nw(i:Expr):Prop:=∀d c,subscripted i false d c=operate [d,c] (getItem d c)
def ZfJ{env:Env}{value slice:Expr}{v:Pos}{T id:String}{Q:Ou}
  (y:typeLookup (.type T) "__getitem__"=pure (some (.builtin id))) (D:Nw slice)
  (h:wpAny (model prog w) A (eval value env) (λo g=>wpAny (model prog w) A (eval slice env) (λi c=>c.TypeIs o T/\wpAny (model prog w) A (getItem o i) Q E c) E g) E s) :
  wpAny (model prog w) A (eval (.Subscript value slice v) env) Q E s:=by
 erw[Subscript_ (Oq h (λo g B=>Oq B (λi c d=>?_) λ_ _ x=>x) λ_ _ x=>x)];ext⟨j,d⟩ d;unfold subscriptTail;erw[Sa ?_];rw[getitemInPython_of_ne j.not_modules];erw[Sa (wpAny_specialOf j y ?_)];have f:wpAny (model prog w) A (subscripted slice false o i) (λr u=>wpAny (model prog w) A (letTemporaryGo value o r >>= λ_=>pure r) Q E u) E c:=by
  rw[D o i];exact wpAny_operating (Oq d (λr u C=>Sa (wpAny_letTemporaryGo (Sb C))) λ_ _ x=>x)
 first
  |exact Sb (Sa f)
  |exact Sa (Sb (Sa f))
  |exact Sa f
def ZfK(I:Zd X pins d H s)(g:Xk H a y o):s.TypeIs (.ref a) "dict" := by
 rcases g with⟨f,k,e,_,_⟩|⟨f,k,b,e,_,_,_⟩;obtain⟨_,_,h,_,c⟩:=B4 I.hok e;exact c.typeIs;obtain⟨_,_,i,_,c⟩:=JT I.hok e;exact c.typeIs
inductive ZfL(Q:VK)(x:V)(y:V)(H2:Hp):Prop|mk a v (_:x=.ref a) (_:Xk H2 a y (some v)) (_:Q v H2)
def uA(g ty:TE):TE:=λc H Q=>g c H λx d=>ty c d λy f=>ZfL Q x y f
inductive ZfM(Q:VK)(y:V)(x:V)(H2:Hp):Prop|mk a o (_:x=.ref a) (_:Xk H2 a y o) (_:Q (.bl o.isSome) H2)
def ZfN(ty g:TE):TE:=λc H Q=>ty c H λy d=>g c d λx f=>ZfM Q y x f
inductive ZfO(Q:VK)(y:V)(x:V)(H2:Hp):Prop|mk a o (_:x=.ref a) (_:Xk H2 a y o) (_:Q (.bl (!o.isSome)) H2)
def ZfP(ty g:TE):TE:=λc H Q=>ty c H λy d=>g c d λx f=>ZfO Q y x f
inductive ZfQ(D:Vd)(σ:St)(v:V)(x:V)(y:V)(H3:Hp):Prop|mk a H4 (_:x=.ref a) (_:VI H3 a y v H4) (_:D.nx σ H4)
def ZfR(h ty d:TE):TS:=λD c H=>d c H λv f=>h c f λx g=>ty c g λy i=>ZfQ D c v x y i
section
variable{o i e value:Expr}{pos' tpos:Pos}{td ty tv:TE}
def ZfS(f:X.A.units+1<cLine)(P:PE X o td)(hi:PE X i ty)(O:Nw i):PE X (.Subscript o i pos) (uA td ty):=by
 intro pins s d H Q I h;erw[ZfJ PySem.F.slot_dict_getitem.lookup O (Zx (P pins s d H _ I h) λu s1 ⟨x,B,G,L,j⟩=>Zx (hi pins s1 d B _ G j) λT s2 ⟨y,C,c,M,a,v,ex,g,D⟩=>?_)];subst ex;obtain rfl:u=Value.ref a:=L;exact⟨ZfK c g,ZfE f c g M λS s3 J E=>⟨v,C,J,E,D⟩⟩
def Nx(d:X.A.units+1<cLine)(hi:PE X i ty)(M:PE X o td):PC X .In i o (ZfN ty td):=by
 intro pins s c H Q I h;erw[Zx (hi pins s c H _ I h) λO s1 ⟨y,j,C,E,f⟩=>Zx (M pins s1 c j _ C f) λu s2 ⟨x,v,J,G,a,L,ex,g,B⟩=>?_];subst ex;obtain rfl:u=Value.ref a:=G;exact ZfF d J g E λs3 D=>⟨.bl L.isSome,v,D,R,B⟩
def uB(d:X.A.units+1<cLine)(hi:PE X i ty)(M:PE X o td):PC X .NotIn i o (ZfP ty td):=by
 intro pins s c H Q I h;erw[Zx (hi pins s c H _ I h) λO s1 ⟨y,j,C,E,f⟩=>Zx (M pins s1 c j _ C f) λu s2 ⟨x,v,J,G,a,L,ex,g,B⟩=>?_];subst ex;obtain rfl:u=Value.ref a:=G;exact ZfG d J g E λs3 D=>⟨.bl (!L.isSome),v,D,R,B⟩
def Qo(d:X.A.units+1<cLine)(U:PE X o td)(hi:PE X i ty)(v:PE X value tv)(T:swapsWith value (some (.Subscript o i pos')) pos.line X.env=pure false) :
  PS X (.Assign [.Subscript o i pos'] value pos) (ZfR td ty tv):=by
 intro pins s c H D I h;erw[wpAny_Assign_Subscript (Zx (v pins s c H _ I h) λr s1 ⟨a0,j,J,E,f⟩=>Zx (U pins s1 c j _ J f) λu s2 ⟨x,B,Q,M,C⟩=>Zx (hi pins s2 c B _ Q C) λZ s3 ⟨y,Y,L,O,a,P,ex,g,S⟩=>?_) T];subst ex;obtain rfl:u=Value.ref a:=M;exact ZfH d L g O E λs4 G=>⟨c,P,G,S⟩
end
def ZfT(h:Heap)(c:sysModules<h.objs.size):Yi P w H (h.push {cls:=.type "dict",data:=.dict #[]}) h.objs.size (.dK []) :=
 ⟨Sk _,beq_eq_false_iff_ne.mpr (Ne.symm (Sf c)),[],.nil,Heap.DictOf.new h⟩
def Ny:List (TE×TE)->St->Hp->(List (V×V)->Hp->Prop)->Prop
 |[],_,H,Q=>Q [] H
 |(tk,f)::r,c,H,Q=>tk c H λx g=>f c g λy h=>Ny r c h λd i=>Q ((x,y)::d) i
abbrev VV:List (V×V)->List (Value×Value)->Prop:=Paired λp q=>ZL p.1 q.1/\ZL p.2 q.2
def Lp(X:Cx)(f:Pos)(keys:List (Option Expr))(values:OD)(i:List (TE×TE)):Prop :=
 ∀(pins:Ov) (s:Shared) (σ:St) (H:Hp) (Q:List (V×V)->Hp->Prop),Zd X pins σ H s->Ny i σ H Q ->
  wpAny (model X.prog X.w) X.A (evalPairs (pairTrees keys values X.env f)) (λg h=>∃c d,Zd X pins σ d h/\VV c g/\Q c d) X.xe s
def ZfU:Lp X c [] [] []:=λpins s d H Q I h=>pairTrees_nil_walk ⟨[],H,I,.nil,h⟩
def JU(T:PE X k tk)(B:PE X v d)(U:Lp X g ks vs f) :
  Lp X g (some k::ks) (v::vs) ((tk,d)::f):=λpins s c H Q I h =>
 pairTrees_cons_walk (Zx (T pins s c H _ I h) λu s1 ⟨x,j,J,M,i⟩=>Zx (B pins s1 c j _ J i) λY s2 ⟨y,C,P,O,E⟩ =>
  Zx (U pins s2 c C _ P E) λZ s3 ⟨G,D,L,rel,S⟩=>⟨(x,y)::G,D,L,.cons ⟨M,O⟩ rel,S⟩)
def JV(d more:List (ZF×V)):List (ZF×V):=more.foldl (λf c=>Xf f c.1 c.2) d
def KV.merge:∀{more:List (ZF×V)} {d:List (ZF×Value)} {c:List (ZF×V)} {vs:List (ZF×Value)},KV more d->KV c vs->KV (JV c more) (merged vs d):=by
 intro more d c vs r;unfold KV at r;induction r generalizing c vs with
 |nil=>intro q;exact q
 |@cons p q i j h t f =>
  intro g;have e:KV (Xf c p.1 p.2) (stored vs q.1 q.2):=by
   have:=g.put p.1 h.2;rw[<-h.1];exact this
  exact f e
theorem uC:∀(more c:List (ZF×V)),(JV c more).length<=c.length+more.length
 |[],c=>by show c.length<=c.length+0;lia
 |p::r,c=>by
  have h1:=uC r (Xf c p.1 p.2);have d:=Nu c p.1 p.2;show(JV (Xf c p.1 p.2) r).length<=_;rw[Sy];lia
theorem uD{P:Program}{w:World}:∀{f:List (ZF×V)} {ws:List (Value×Value)},VV (f.map λg=>(kV g.1,g.2)) ws->∃d,Carries (WG P w) ws d/\KV f d
 |[],_,r=>by rw[List.map_nil]at r;cases r;exact⟨[],True.intro,.nil⟩
 |p::f,_,r=>by
  rw[SL]at r;cases r with
  |@cons a b j bs h t =>
   obtain⟨d,c,q⟩:=uD (P:=P) (w:=w) t;ext⟨u,i⟩ b;exact⟨(p.1,i)::d,⟨B3 h.1,R,c⟩,.cons ⟨R,h.2⟩ q⟩
def ZfV(i:List (TE×TE)):TE:=λh H Q=>∀p,H p=none->Ny i h (Zb H p (.dK [])) λg f=>f p=some (.dK [])/\∃c:List (ZF×V),g=c.map (λd=>(kV d.1,d.2))/\c.length<=15/\Q (.ref p) (Zb f p (.dK (JV [] c)))
def ZfW{keys:List (Option Expr)}{values:OD}(h:Lp X i keys values g)(H:keys.all (·.isSome)=true)(B:keys.length=values.length)(J:keys≠[])
  (T:keys.length<=15):PE X (.Dict keys values i) (ZfV g):=by
 intro pins s O b0 Q I q;have hn:=I.hok.fresh (Sg s.heap.objs.size);have E:=I.laid (a:=s.heap.objs.size) (o:=.dK []) (h':=s.heap.push {cls:=.type "dict",data:=.dict #[]}) (t':=s.toks) (λ_ _ q=>Sc _ q) (Sg _) (ZfT s.heap I.big);erw[wpAny_Dict_walk (knd:=WG X.prog X.w) H B J T (Zx (h pins _ O _ _ E (q _ hn)) λU s2 ⟨Z,Y,f,rel,e,j,M,lk,x⟩=>?_)];subst M;obtain⟨y,c,u⟩:=uD (P:=X.prog) (w:=X.w) rel;obtain⟨z,hd,a0,v,D⟩:=vY f.hok e;cases v;erw[⟨y,c,D,λh' d L=>⟨.ref s.heap.objs.size,_,?_,R,x⟩⟩];have C:(JV [] j).length<=sizeLine:=by
  have G:=uC j [];rw[List.length_nil]at G;rw[sizeLine_eq];lia
 have S:∃q,h'.get? s.heap.objs.size=some q:=let ⟨q,_,_,hq,_⟩:=d;⟨q,hq⟩;exact Nv f (by rw[e];exact True.intro) L S (vZ C hd (u.merge .nil) d)
structure M1(X:Cx)(o:Expr)(m:Str)(apos:Pos)(e:Expr)(cpos:Pos):Prop where
 base:attributeBase o m X.env (eval o X.env)=eval o X.env
 few:((backTo cpos (starEach [e] X.env)).all (λx=>!x.1) && (backToKw cpos (keywordEach [] X.env)).all (λx=>x.1.isSome)
  && decide (([e]:OD).length+([]:List Keyword).length+(if ([]:List Keyword).isEmpty then 0 else 1)<30))=true
 line:(apos.endLine==cpos.line)=true
 trees:backTo cpos (starEach [e] X.env)=[(false,eval e X.env)]
structure M2(X:Cx)(o:Expr)(m:Str)(apos:Pos)(e f:Expr)(cpos:Pos):Prop where
 base:attributeBase o m X.env (eval o X.env)=eval o X.env
 few:((backTo cpos (starEach [e,f] X.env)).all (λx=>!x.1) && (backToKw cpos (keywordEach [] X.env)).all (λx=>x.1.isSome)
  && decide (([e,f]:OD).length+([]:List Keyword).length+(if ([]:List Keyword).isEmpty then 0 else 1)<30))=true
 line:(apos.endLine==cpos.line)=true
 trees:backTo cpos (starEach [e,f] X.env)=[(false,eval e X.env),(false,eval f X.env)]
def JW:Y4 X (.builtin "len") (λxs H Q=>∃a c,xs=[V.ref a]/\H a=some (.dK c)/\Q (.int c.length) H):=by
 intro pins s f H xs g Q I r h;ext⟨a,c,rfl,ha,q⟩ h;obtain⟨u,rfl,ru⟩:=Wq r;cases ru;exact ZfI I (.inl ha) λt i d=>⟨.int c.length,H,d,⟨t,R⟩,q⟩
theorem uE:∀{d:List (ZF×V)} {vs:List (ZF×Value)} {acc:OB},KV d vs->acc.length=vs.length->(∀(j:Nat) (v:Value),acc[j]? = some v->∃(k:ZF) (x:Value),vs[j]? = some (k,x)/\(WG X.prog X.w).is k v=true)->ZB (d.map λB=>kV B.1) acc
 |_,_,[],.nil,_,_=>.nil
 |_,_,[],.cons _ _,e,_=>by cases e
 |_,_,_::_,.nil,e,_=>by cases e
 |(k0,_)::_,(k1,_)::_,u::us,.cons r t,e,h=>by
  ext⟨f,_⟩ r;obtain⟨k,x,y,c⟩:=h 0 u R;cases y;erw[.cons ?_ (uE t (Nat.succ.inj e) λj v q=>h (j+1) v q)];have g:k0=k1:=f;subst g;cases k0 with
  |inl i=>exact Value.isInt_shape c
  |inr z=>exact Value.isStrOf_shape c
def VJ(L:X.calm=true):Y4 X (.type "list") (λxs H Q=>∃d f,xs=[.ref d]/\H d=some (.dK f)/\∀l,H l=none->Q (.ref l) (Zb H l (.lst (f.map λc=>kV c.1)))):=by
 intro pins s P H xs O Q I r h;ext⟨d,f,rfl,hd,q⟩ h;obtain⟨u,rfl,E⟩:=Wq r;cases E;obtain⟨y,J,B,c,C⟩:=I.hok d _ hd;ext⟨S,i⟩ C.dictAt;have hlen:B.length=f.length:=(Paired.length c).symm;erw[W.kdl_call (W.kdl_dict J) (I.ok.hd L) i () λG tk D M kp e g=>?_];ext⟨x⟩ D;erw[⟨.ref s.heap.objs.size,_,I.laid (t':=tk) kp (Sg _) (show Yi X.prog X.w _ G _ (.lst (f.map λc=>kV c.1))from⟨by rwa[Sv],x,M,uE (X:=X) c (by simpa using g.1) (λj v q=>g.2 j v (by simpa using q)),e⟩),R,q _ (I.hok.fresh (Sg _))⟩]
def XI:Y4 X (.type "int") (λxs H Q=>∃b,xs=[.bl b]/\Q (.int (if b=true then 1 else 0)) H):=by
 intro pins s d H xs f Q I r h;ext⟨b,rfl,q⟩ h;obtain⟨u,rfl,c⟩:=Wq r;cases c;erw[PySem.call_int_bool ⟨.int (if b=true then 1 else 0),H,I.tok _,⟨_,R⟩,q⟩]
inductive ZfX(K:Ox)(Q:VK)(x:V)(st:Option Int)(H2:Hp):Prop|mk a xs (_:st=some (-1)) (_:x=.ref a) (_:Ze K H2 a xs) (_:∀p,H2 p=none->Q (.ref p) (Zb H2 p (.lst xs.reverse)))
def ZfY(K:Ox)(g:TE)(d:TO):TE:=λc H Q=>g c H λx f=>d c f λst h=>ZfX K Q x st h
theorem uF:∀{xs ys:List V} {us vs:OB},ZB xs us->ZB ys vs->ZB (xs++ys) (us++vs)
 |_,_,_,_,.nil,r=>r
 |_,_,_,_,.cons r t,q=>.cons r (uF t q)
theorem uG:∀{xs:List V} {us:OB},ZB xs us->ZB xs.reverse us.reverse
 |_,_,.nil=>.nil
 |_,_,.cons r t=>by rw[List.reverse_cons,List.reverse_cons];exact uF (uG t) (.cons r .nil)
def ZfZ{e st:Expr}{f:TE}{i:TO}{E O:Pos}(S:PE X e f)(U:PO X (some st) i):PE X (.Subscript e (.Slice none none (some st) E) O) (ZfY X.K f i):=by
 intro pins s d H Q I h;erw[Subscript_ (Zx (S pins s d H _ I h) λv s1 ⟨x,y,L,B,u⟩=>?_)];erw[wpAny_Slice ?_];rw[evalPart_none];erw[Sb (Sb ?_)];erw[Zx (U pins s1 d y _ L u) λP s2 ⟨Z,C,M,ZA,D⟩=>?_];ext⟨a,J,rfl,rfl,j,q⟩ D;cases B;have c:Zd X pins d C {s2 with heap:=s2.heap.push {cls:=.type "slice",data:=.fields #[.none,.none,P]} }:=M.kept (t':=s2.toks) λb ob q=>Sc _ q;obtain⟨Y,r,g,G⟩:=c.list j;have hlen:=r.length;erw[tail_any (ops:=[.ref a,.ref s2.heap.objs.size]) (T := "list") g.isList.typeIs slot_list_getitem.lookup ?_ (by with_unfolding_all rfl)];erw[wpAny_getItem_list_slice g.isList (Heap.IsSliceOf.new ..) .none .none ZA (by simp) ?_ (by rw[SM]<;>omega)];rw[W.krv_pick];erw[⟨.ref _,_,c.laid (t':=s2.toks) (o:=.lst J.reverse) (λb ob q=>Sc _ q) (Sg _) ?_,R,q _ (c.hok.fresh (Sg _))⟩];exact⟨by rwa[List.length_reverse],Y.reverse,0,uG r,Sd _ R⟩
end L2
namespace K1
open PySem L2
def wo(H:Hp)(l:Addr):Hp:=λa=>if a=l then none else H a
def V4(h:a≠l):wo H l a=H a:=SV h
def Nz:Zc (wo H l) H:=λa o e=>by
 by_cases h:a=l;rw[wo,SW h]at e;cases e;rw[V4 h]at e;exact e
def UA(e:wo H l a=some o):a≠l/\H a=some o:=by
 by_cases h:a=l;rw[wo,SW h]at e;cases e;rw[V4 h]at e;exact⟨h,e⟩
def QJ(s:Zc H c):Zc (wo H l) (wo c l):=λa o e=>by
 obtain⟨h,e⟩:=UA e;rw[V4 h];exact s _ _ e
def Zf0:wo (Zb H l o) l=wo H l:=by
 funext a;by_cases h:a=l;rw[wo,wo,SW h,SW h];rw[V4 h,V4 h,Zm h]
def Z4(e:H a=some o)(h:a≠l):wo H l a=some o:=by rwa[V4 h]
def Vm(s:Zc c H)(n:c l=none)(o:HO):Zc c (Zb H l o):=λa u e=>by
 rw[Zm (Z1 e n)];exact s _ _ e
inductive Al{β α:Type}(R:β->α->Prop):List β->List α->Prop where
 |nil:Al R [] []
 |cons {v:β} {x:α} {vs:List β} {xs:List α}:R v x->Al R vs xs->Al R (v::vs) (x::xs)
section
variable{β α:Type}{R R':β->α->Prop}
def Al.length{vs:List β}{xs:List α}(h:Al R vs xs):vs.length=xs.length:=by
 induction h with
 |nil=>rfl
 |cons _ _ c=>rw[Sy,Sy,c]
def Al.imp(h:Al R vs xs)(f:∀v x,R v x->R' v x):Al R' vs xs:=by
 induction h with
 |nil=>exact .nil
 |cons a _ c=>exact .cons (f _ _ a) c
def Al.app(h:Al R vs xs)(g:Al R us ys):Al R (vs++us) (xs++ys):=by
 induction h with
 |nil=>exact g
 |cons a _ c=>exact .cons a c
def Al.snoc(h:Al R vs xs)(g:R v x):Al R (vs++[v]) (xs++[x]):=h.app (.cons g .nil)
def Al.get(h:Al R vs xs):∀{i:Nat} {v:β},vs[i]? = some v->∃x,xs[i]? = some x/\R v x:=by
 induction h with
 |nil=>intro i v e;cases e
 |cons a _ c =>
  intro i v e;cases i with
  |zero=>cases e;exact⟨_,rfl,a⟩
  |succ i=>exact c e
end
end K1
namespace L2
open PySem PySem.Spec PyProof.Rows
section
variable{σ:St}
open Classical in
noncomputable def UB (h:Heap) (dx:PyData) (u:Value):Bool:=if ∃d as,Reads h u d as/\PyData.eqv d dx=true then true else false
def uH{d : PyData}(r:Reads h u d f)(c:d.canLay0=true):UB h g u=PyData.eqv d g:=by
 unfold UB;cases e:PyData.eqv d g with
 |true=>exact SW ⟨d,f,r,e⟩
 |false =>
  erw[SV ?_];rintro⟨j,v,x,i⟩;rw[<-SeqAt.Reads.unique d j u f v c r x,e]at i;exact Bool.noConfusion i
theorem NB:∀{us:OB} {ds:List PyData} {as:OH},ReadsAll h us ds as->PyData.canLayAll0 ds=true->us.any (UB h f)=ds.any λd=>PyData.eqv d f
 |_,_,_,.nil,_=>rfl
 |_,_,_,.cons r g,c=>by
  simp only[PyData.canLayAll0,Bool.and_eq_true]at c;rw[List.any_cons,List.any_cons,uH r c.1,NB g c.2]
theorem NC{d:PyData}(g:Reads s.heap v d bs)(h:d.canLay0=true)(f:A.units+d.depth<cLine):∀{us:OB} {ds:List PyData} {as:OH},ReadsAll s.heap us ds as->PyData.canLayAll0 ds=true->∀u∈us,SeqAt.EqAt A s u v (UB s.heap d u)
 |_,_,_,.nil,_=>λu f=>by cases f
 |_,_,_,.cons r i,c=>λj hm=>by
  simp only[PyData.canLayAll0,Bool.and_eq_true]at c;rcases SE.mp hm with rfl|hm;rw[uH r c.1];exact SeqAt.eqAt_reads _ _ A s _ _ _ _ r g c.1 h ();exact NC g h f i c.2 j hm
inductive uI(K:Ox)(neg:Bool)(x:V)(y:V)(H:Hp)(Q:VK):Prop|mk p xs dx ds (_:y=.ref p) (_:(Ze K H p xs\/Zk K H p xs)) (_:DV K H x dx) (_:YD K H xs ds) (_:dx.depth<=60) (_:Q (.bl (if neg then !(ds.any λd=>PyData.eqv d dx)else ds.any λd=>PyData.eqv d dx)) H)
def uJ(M:X.A.units+64<cLine):YB X (compareOp .In) (uI X.K false):=by
 intro pins s σ H x y v u Q I J L h;ext⟨p,O,c,ds,rfl,f,C,d,hd,q⟩ h;cases L;obtain⟨P,D⟩:=C.reads I J;have E:X.A.in1.units+c.depth<cLine:=by show X.A.units+1+_<_;lia
 rcases f with f|f;obtain⟨i,r,j,G⟩:=I.list f;obtain⟨bs,g⟩:=d.reads I r;erw[SeqAt.in_listAt (UB s.heap c) j.isList (λw B=>NC D C.can E g d.can w (by simpa using B)) ⟨.bl _,H,I,R,?_⟩];rwa[show i.toArray.any (UB s.heap c)=i.any (UB s.heap c) by simp,NB g d.can];obtain⟨i,r,j,G⟩:=I.tuple f;obtain⟨bs,g⟩:=d.reads I r;erw[SeqAt.in_tupleAt (UB s.heap c) j (λw B=>NC D C.can E g d.can w (by simpa using B)) ⟨.bl _,H,I,R,?_⟩];rwa[show i.toArray.any (UB s.heap c)=i.any (UB s.heap c) by simp,NB g d.can]
end
theorem uK:∀bs:List Bool,(List.range bs.length).any (λi=>bs.getD i false)=bs.any id
 |[]=>rfl
 |b::bs=>by
  rw[Sy,List.range_succ_eq_map,List.any_cons,List.any_map,List.any_cons];show(b || _)=(b || _);rw[<-uK bs];rfl
def Zf1(Z:X.calm=true):Y4 X (.builtin "any") (λxs H Q=>∃(p:Addr) (bs:List Bool),xs=[.ref p]/\Ze X.K H p (bs.map V.bl)/\Q (.bl (bs.any id)) H):=by
 intro pins s σ H xs us Q I r h;ext⟨p,bs,rfl,C,q⟩ h;obtain⟨a0,rfl,O⟩:=Wq r;cases O;obtain⟨d,u,f,hz⟩:=I.list C;have hlen:=u.length;obtain⟨o,n,ho,_⟩:=id f;have E:p≠s.heap.objs.size:=Sf (Se ho);have P:TruthOf X.prog X.w X.A.in1 (λi v=>d.toArray[i]? = some v) (λi=>bs.getD i false):=by
  intro i v s2 G E2 D U;have y:d[i]? = some v:=by simpa using D
  have j:i<bs.length:=by
   have:=(Sr.mp y).1;rw[<-hlen,Sv]at this;exact this
  obtain⟨w,c,g⟩:=u.get (i:=i) (x:=.bl bs[i]) (by rw[Oa,Ss j];rfl);rw[y]at c;cases c;cases g;erw[wpAny_truthy_bool ?_];have L:bs.getD i false=bs[i]:=by rw[List.getD_eq_getElem?_getD,Ss j];rfl
  have B:G (bs.getD i false) s2:=U;rw[L]at B;exact B
 erw[call_any_walk (wpAny_pyIter_list f.isList ?_)];erw[⟨s.heap.objs.size,[s.heap.objs.size,p],[s.heap.objs.size],d.toArray.size,_,_,_,R,Walks.list (A:=X.A.in1) (I.ok.hd Z) _ _ E d.toArray,⟨⟨_,Sd _ R,R,R⟩,?_⟩,P,λT tk Y=>?_⟩];ext⟨M,g,S⟩ f.isList;exact⟨M,Sc _ g,S⟩;have J:∀b o,s.heap.get? b=some o->T.get? b=some o:=λb o e=>Y b o (λz=>by
  have c:=Se e;rw[SD.mp z]at c;exact Os c (Sl _)) (Sc _ e)
 have e:(List.range d.toArray.size).any (λi=>bs.getD i false)=bs.any id:=by
  rw[SM,<-hlen,Sv];exact uK bs
 rw[e];exact⟨.bl _,H,I.kept (t':=tk) J,R,q⟩
def VL(c:Addr)(qual:Str):HO:=.ext λh=>h.CodeRec (.ref c) qual
def V5(f:Addr)(qual:Str)(params:Arguments)(body:Expr)(scope:Scope)(cl:Oy)(pm:Value)(d:Addr)(c:Value):HO:=.ext λh=>h.get? f=some (W.kla_obj "<lambda>" qual params body scope cl pm d c)
def uL{h:Heap}{qual:Str}{params:Arguments}{body:Expr}(e:h.get? f=some (W.kla_obj "<lambda>" qual params body scope cl pm d c)):Yi P w H h f (V5 f qual params body scope cl pm d c) :=
 ⟨e,⟨_,e⟩,λ_ _ q k=>k _ q⟩
abbrev ZlJ(f:Addr)(qual:Str)(params:Arguments)(body:Expr)(scope:Scope)(pm:Value)(c':Addr)(ctv:Value):HO:=V5 f qual params body scope [] pm c' ctv
def BM(mg:Ow)(base:Heap):Prop:=∃c ob,mg "__builtins__"=some (.ref c)/\c≠builtinsNs/\c≠mainGlobals/\base.get? c=some ob/\ob.cls=.type "module" /\ ob.dict=some builtinsNs/\ob.data=.plain
def Zf2{h:Heap}{qual:Str}(i:h.CodeRec (.ref f) qual):Yi P w H h f (VL f qual):=by
 erw[⟨i,?_,λx v q k=>?_⟩];ext⟨u,c,g,t,e,d,_⟩ i;cases e;exact⟨c,d⟩;ext⟨u,c,g,t,e,d,hd,j⟩ q;cases e;exact⟨_,c,g,t,R,k _ d,hd,j⟩
inductive Lq(P:Addr)(mg:Ow)(qual:Str)(params:Arguments)(body:Expr)(scope:Scope)(cl:Oy)(pos:Pos)(_e0:St)(H:Hp)(Q:VK):Prop|mk (ps:Array Value) (_:H P=some (.tbl ps)) (_:TriplesOk ps.toList) (_:((codeAmong pos ps.toList=none/\∀f c' ctv,H f=none->H c'=none->f≠c'->Q (.ref f) (Zb (Zb (Zb H P (.tbl (ps ++ #[rawInt pos.line,rawInt pos.col,.ref c']))) c' (VL c' qual)) f (V5 f qual params body scope cl ((mg "__name__").getD .none) c' ctv)))\/∃c',codeAmong pos ps.toList=some (.ref c')/\∀f ctv,H f=none->Q (.ref f) (Zb H f (V5 f qual params body scope cl ((mg "__name__").getD .none) c' ctv))))
def V6{params:Arguments}{body:Expr}{P : Addr}(U:X.env.code=.ref c)(C:W.CodeHd X.base c P)(d0:BM X.mg X.base)(a0:closureFor scope X.env=pure cl)(b0:defaultsOf params X.env=([],[])) :
  PE X (.Lambda params body scope g) (Lq P X.mg (X.env.qual ++ "<lambda>") params body scope cl g):=by
 intro pins s σ H g0 I h;ext⟨x,f,Z,h⟩ h;have gP:s.heap.get? P=some (W.tabObj x):=I.hok P _ f;have Q:∀{b o},X.base.get? b=some o->b≠P:=λe z=>by
  have:=(I.bs _ _ e).2;rw[z,f]at this;cases this
 have f0:mainGlobals≠P:=by
  ext⟨o,es,ep,e,_⟩ I.mod.glob;exact Q e
 ext⟨bm,ob,b1,b2,b3,S,b5,b6,b7⟩ d0;have hb:s.heap.BuiltinsAt X.mg P:=⟨bm,ob,b1,b2,b3,Q S,I.bk _ _ S,b5,b6,b7⟩;erw[W.kla_eval b0 ?_];rcases h with⟨hn,q⟩|⟨d,hf,q⟩;erw[W.kla_makeFunction (mg:=X.mg) a0 I.ok.glob (I.mod.glob.keeps I.bk) U (C.keeps I.bk) gP Z hn f0 hb λd i h' tk j D T c0 O=>?_];have L:H d=none:=I.hok.fresh D;have e0:P<s.heap.objs.size:=Se gP;have cP:d≠P:=Nat.ne_of_gt (Si e0 D);have B:∀{b o},H b=some o->(∀E,o≠.tbl E)->Zb (Zb H P (.tbl (x ++ #[rawInt g.line,rawInt g.col,.ref d]))) d (VL d (X.env.qual ++ "<lambda>")) b=some o:=λe n=>by
  rwa[Zm (Z1 e L),Zm (Yr e f (n _))]
 have I1:Zd X pins σ (Zb (Zb H P (.tbl (x ++ #[rawInt g.line,rawInt g.col,.ref d]))) d (VL d (X.env.qual ++ "<lambda>"))) {s with heap:=h',gens:=s.gens,drawn:=s.drawn,toks:=tk}:=by
  erw[I.step (ch:=[]) (λ_ z=>nomatch z) (λb o _ _ _ e n=>j b o (λz=>by rw[z,f]at n;cases n) e) (λb o _ _ _ e n=>⟨o.slots,j b o (λz=>by rw[z,f]at n;cases n) e⟩) (λb o _ e n=>?_) (λb o _ e=>?_) (λb xs e=>B e λ_ z=>by cases z) (λb o u e=>B e λ_ z=>by cases z) (λb E e=>?_) (λm hn=>hn.extBut j λz=>?_) (λb u e=>?_) I.bare];rw[Zm (Sf (Si (Se e) D)),Zm λz=>by rw[z,f]at n;cases n];exact n;by_cases z:b=P;exact⟨_,by rwa[z]⟩;exact⟨o,j b o z e⟩;by_cases z:b=P;subst z;rw[f]at e;obtain rfl:x=E:=by injection e with e;injection e
  exact⟨#[rawInt g.line,rawInt g.col,.ref d],by rw[Zm cP.symm,Zj]⟩;exact⟨#[],by rw[Zm (Z1 e L),Zm z,e];simp⟩;have:=I.free;rw[z,f]at this;cases this;by_cases z:b=d;subst z;rw[Zj]at e;obtain rfl:=So e;exact Zf2 c0;rw[Zm z]at e;by_cases J:b=P;subst J;rw[Zj]at e;obtain rfl:=So e;exact O;rw[Zm J]at e;erw[(I.hok b u e).stay (λG u' y v=>j G u' (λzz=>?_) v) (λG v=>B v λ_ z=>by cases z) (λG xs v=>B v λ_ z=>by cases z)];rcases y with rfl|y;exact J zz;rw[zz,f]at y;cases y
 have M:=I1.laid (a:=h'.objs.size) (o:=V5 h'.objs.size (X.env.qual ++ "<lambda>") params body scope cl ((X.mg "__name__").getD .none) d i) (t':=tk) (h':=h'.push (W.kla_obj "<lambda>" (X.env.qual ++ "<lambda>") params body scope cl ((X.mg "__name__").getD .none) d i)) (λb u e=>Sc _ e) (Sg _) (uL (Sd _ R));have nf:H h'.objs.size=none:=I.hok.fresh (Sh D (Nat.le_of_lt T));exact⟨.ref _,_,M,R,q _ d i nf L (Nat.ne_of_gt T)⟩;erw[W.kla_makeFunctionHit (mg:=X.mg) a0 I.ok.glob (I.mod.glob.keeps I.bk) U (C.keeps I.bk) gP Z hf hb λi h' tk hk Y=>?_];have M:=I.laid (a:=h'.objs.size) (o:=V5 h'.objs.size (X.env.qual ++ "<lambda>") params body scope cl ((X.mg "__name__").getD .none) d i) (t':=tk) (h':=h'.push (W.kla_obj "<lambda>" (X.env.qual ++ "<lambda>") params body scope cl ((X.mg "__name__").getD .none) d i)) (λb u e=>Sc _ (hk b u e)) Y (uL (Sd _ R));exact⟨.ref _,_,M,R,q _ i (I.hok.fresh Y)⟩
abbrev ZlK(P:Addr)(mg:Ow)(qual:Str)(params:Arguments)(body:Expr)(scope:Scope)(pos:Pos):TE:=Lq P mg qual params body scope [] pos
def WS.okC{x qual:Str}{st:Stmt}{f:Addr}{g:OJ}{N d:OC}{k:Nat}{sp:Sp}(F:WS K x qual st f g)(S:ZE N d (Zz st))(len:∀vs H Q E,sp vs H Q E->vs.length=d.length)
  (v:∀(c:Value) (A:Around) (outer:List Env) (s:Shared) (H:Hp) (vs:List V) (Q:VK) (E:XK),g.code=c->Yn k (A.deeper (envOfC qual (Zz st) s.heap.objs.size f c))->sp vs H Q E ->
   ∃t,XV (Vz Zv P w K mg base N qual (Zz st) f c A outer s H E).nox (Uy st) t/\t {nx:=λ_ y=>Q .non y,rt:=Q} (Ux N vs) H):Zp P w K mg base Zv (k+1) f g d sp:=by
 ext⟨D,C,kV,I,pm,G,c,ct,J,rfl,j,i⟩ F.ex;erw[MR j i S len λA outer s H vs Q E B u=>?_];obtain⟨t,h,q⟩:=v c A outer s H vs Q E R B u;exact⟨t,h.nox,q⟩
end L2
namespace K1
open PySem L2
def Lr(h:H lt=some (.tbl c))(e:H a=some o)(n:∀c,o≠.tbl c):wo H lt a=some o :=
 Z4 e λz=>by rw[z,h]at e;exact n c (So e).symm
end K1
namespace L2
open PySem PySem.Spec PyProof.Rows PySem.W
def Vn(h:Heap)(d:Addr)(f:Array DictEntry)(c:Nat):Prop:=∃o,h.get? d=some o/\o.ExactDict/\o.data=.dict f c
def Vn.typeIs(x:Vn s.heap d f c):s.TypeIs (.ref d) "dict" := let ⟨o,ho,hc,_⟩:=x;⟨o,ho,hc.1⟩
def Vn.at{h h':Heap}(x:Vn h d f c)(k:∀o,h.get? d=some o->h'.get? d=some o):Vn h' d f c:=let ⟨o,ho,r⟩:=x;⟨o,k o ho,r⟩
def Vn.lt{h:Heap}(x:Vn h d f c):d<h.objs.size:=let ⟨_,ho,_⟩:=x;Se ho
def Zf3{i:Array DictEntry}(c:s.heap.IsValuesView v d)(hm:Vn s.heap d i g)
  (u:Q (.ref s.heap.objs.size) {s with heap:=s.heap.push {cls:=.type "dict_valueiterator",data:=.fields #[.ref d,.int 0 0,.int i.size 0,.int g 0]} }):wpAny (model prog w) A (pyIter (.ref v)) Q E s:=by
 obtain⟨D,j,B,y⟩:=id c;obtain⟨o,h,C,f⟩:=id hm;apply wpAny_pyIter_slot c.typeIs F.slot_dict_values_iter;erw[wpAny_call_entry F.slot_dict_values_iter c.typeIs F.entry_dict_values_iter ?_ (F.args_dict_values_iter_1 _)];unfold Builtin.«dict_values.__iter__»;apply Sa;apply Sb;apply Sa;unfold Builtin.Dict_items.dictOf;apply Sa;erw[wpAny_field j y (x:=.ref d) R ?_];apply Sb;apply Sa;unfold Builtin.Dict_items.newIterator;apply Sa;erw[wpAny_dictEntries h f ?_];apply Sa;erw[wpAny_dictEpoch h f ?_];simp only[show Builtin.Dict_items.ownsTuple "dict_valueiterator"=false by lia,Bool.false_eq_true,if_false];erw[wpAny_newObj_type ?_];apply Sb;erw[⟨_,R,"dict_valueiterator",_,⟨_,Sd _ R,R⟩,F.slot_dict_valueiterator_next.lookup,?_⟩];simpa [rawInt]using u
def Zf4{g:Array DictEntry}(f:s.heap.IsValIter c d i g.size h)(hm:Vn s.heap d g h)(hi:i<g.size)
  (B:∀h',h'.IsValIter c d (i+1) g.size h->Heap.SameBut c s.heap h'->Q (some g[i].val) {s with heap:=h'}):wpAny (model prog w) A (pyNext (.ref c)) Q E s:=by
 obtain⟨D,u,C,j⟩:=id f;obtain⟨o,y,G,x⟩:=id hm;unfold pyNext;apply Sa;apply wpAny_attempt;erw[wpAny_callSpecial?_slot (name:=OK "__next__") f.typeIs F.slot_dict_valueiterator_next ?_];erw[wpAny_call_entry F.slot_dict_valueiterator_next f.typeIs F.entry_dict_valueiterator_next ?_ (F.args_dict_valueiterator_next_1 _)];apply Sa;apply Sb;apply Sa;apply Sa;apply Sa
 first|refine wpAny_typeNameOfWhole_valiter f.typeIs ?_|refine wpAny_typeNameOf_valiter f.typeIs ?_
 apply Sb;apply Sa;erw[wpAny_fieldsOf u j ?_];simp only[show Builtin.Dict_items.ownsTuple "dict_valueiterator"=false by lia,Bool.false_eq_true,if_false];show wpAny _ _ (if (Value.ref d==Value.none)=true then _ else _) _ _ s;rw[SV (by intro z;cases z)];apply Sa;apply Sb;apply Sa;erw[wpAny_dictEntries y x ?_];rw[SV (by simp)];apply Sa;apply Sb;apply Sa;erw[wpAny_dictEpoch y x ?_];rw[SV (by simp)];apply Sb;simp only[show ¬ ((i:Int)<0) by lia,if_false,Int.toNat_natCast,Array.getElem?_eq_getElem hi];apply Sa;apply Sa
 first|refine wpAny_typeNameOfWhole_valiter f.typeIs ?_|refine wpAny_typeNameOf_valiter f.typeIs ?_
 apply Sb;apply Sa;erw[wpAny_isOneOf_valiter f.typeIs ?_];show wpAny _ _ (setField (.ref c) 1 (rawInt ((i:Int)+1)) >>= _) _ _ s;apply Sa;erw[wpAny_setField u j (by simp) ?_];have v:(s.heap.update c (Obj.mapFields (·.setIfInBounds 1 (rawInt ((i:Int)+1))))).IsValIter c d (i+1) g.size h :=
  ⟨_,Heap.get?_update_self _ u (Obj.isFreed_of_fields (Obj.data_mapFields j _)),(Obj.cls_mapFields ..).trans C,by rw[Obj.data_mapFields j];simp[rawInt]⟩
 apply Sa;apply wpAny_holding;apply Sa;erw[wpAny_isOneOf_valiter (s:={s with heap:=s.heap.update c (Obj.mapFields (·.setIfInBounds 1 (rawInt ((i:Int)+1))))}) v.typeIs ?_];apply Sa;erw[wpAny_isOneOf_valiter (s:={s with heap:=s.heap.update c (Obj.mapFields (·.setIfInBounds 1 (rawInt ((i:Int)+1))))}) v.typeIs ?_];show wpAny _ _ (pure g[i].val) _ _ _;apply Sb;apply Sb;erw[⟨_,R,?_⟩];apply Sb;exact B _ v (Heap.SameBut.update ..)
def Zf5{g:Array DictEntry}(y:A.handled=none)(c:s.heap.IsValIter f d g.size g.size j)(hm:Vn s.heap d g j)
  (x:∀h',Heap.ExtBut f s.heap h'->Q none {s with heap:=h'}):wpAny (model prog w) A (pyNext (.ref f)) Q E s:=by
 obtain⟨B,h,C,v⟩:=id c;obtain⟨o,u,D,i⟩:=id hm;unfold pyNext;apply Sa;apply wpAny_attempt;erw[wpAny_callSpecial?_slot (name:=OK "__next__") c.typeIs F.slot_dict_valueiterator_next ?_];erw[wpAny_call_entry F.slot_dict_valueiterator_next c.typeIs F.entry_dict_valueiterator_next ?_ (F.args_dict_valueiterator_next_1 _)];apply Sa;apply Sb;apply Sa;apply Sa;apply Sa
 first|refine wpAny_typeNameOfWhole_valiter c.typeIs ?_|refine wpAny_typeNameOf_valiter c.typeIs ?_
 apply Sb;apply Sa;erw[wpAny_fieldsOf h v ?_];simp only[show Builtin.Dict_items.ownsTuple "dict_valueiterator"=false by lia,Bool.false_eq_true,if_false];show wpAny _ _ (if (Value.ref d==Value.none)=true then _ else _) _ _ s;rw[SV (by intro z;cases z)];apply Sa;apply Sb;apply Sa;erw[wpAny_dictEntries u i ?_];rw[SV (by simp)];apply Sa;apply Sb;apply Sa;erw[wpAny_dictEpoch u i ?_];rw[SV (by simp)];apply Sb;simp only[show ¬ ((g.size:Int)<0) by lia,if_false,Int.toNat_natCast,Array.getElem?_eq_none (Sg _)];apply Sa;apply Sa
 first|refine wpAny_typeNameOfWhole_valiter c.typeIs ?_|refine wpAny_typeNameOf_valiter c.typeIs ?_
 apply Sb;show wpAny _ _ (setField (.ref f) 0 .none >>= _) _ _ s;apply Sa;erw[wpAny_setField h v (by simp) ?_];show wpAny _ _ (newExc (.type "StopIteration") [] >>= _) _ _ _;apply Sa;simp only[newExc,newTuple];apply Sa;erw[wpAny_newObj_type ?_ (by size_fits)];apply Sa (m:=firstArgMember _ _);erw[wpAny_of_eq (a:=Value.none) (by first|rfl|(simp only[firstArgMember];rfl)) ?_];erw[wpAny_newObj_type ?_ (by size_fits)];simp only[raiseNew];apply Sa;apply wpAny_handled;rw[show A.in1.handled=none from y];erw[Sa (Sb ?_)];apply wpAny_throw;apply Sa;erw[wpAny_isInstance (T := "StopIteration") (b:=true) ⟨_,Sd _ R,R⟩ isSubtype_stop ?_];apply Sb;exact x _ (((Heap.SameBut.update ..).extBut.push _).push _)
def Zf6(G:A.handled=none)(I d:Addr)(C:d≠I)(g:Array DictEntry)(x:Nat) :
  Walks prog w A I [I,d] [I] g.size (λi v=>∃e,g[i]? = some e/\e.val=v) (λi h=>h.IsValIter I d i g.size x/\Vn h d g x) where
 sub:=λb c=>by simp at c;simp[c]
 frame:=λ_ _ _ st y=>⟨st.1.at λo e=>y I (by simp) o e,st.2.at λo e=>y d (by simp) o e⟩
 item:=λi s Q E B st f=>Zf4 st.1 st.2 B λj H u=>f _ j s.toks ⟨_,Array.getElem?_eq_getElem B,R⟩ ⟨H,st.2.at λo e=>u.extBut d o C e⟩ λb o c e=>u.extBut b o (λh=>c (by simp[h])) e
 done:=λs Q E st f=>Zf5 G st.1 st.2 λj D=>f j s.toks λb o c e=>D b o (λh=>c (by simp[h])) e
 self:=λ_ _ _ _ st f=>wpAny_pyIter_valiter st.1 f
def Zf7{c:Array DictEntry}:KdlSrc prog w "dict_values" r d c.size (λi v=>∃e,c[i]? = some e/\e.val=v) (λh=>h.IsValuesView r d/\Vn h d c g) where
 type:=λ_ hm=>hm.1.typeIs
 there:=λ_ hm=>⟨let ⟨_,ho,_⟩:=hm.1;Se ho,hm.2.lt⟩
 keep:=λ_ _ hm j=>⟨let ⟨o,ho,x⟩:=hm.1;⟨o,j r (.inl R) o ho,x⟩,hm.2.at λo e=>j d (.inr R) o e⟩
 notList:=by lia
 notTuple:=by lia
 hint:=λ_ _ _ _ hm f=>kdl_hint_values hm.1.typeIs f
 iter:=λ_ _ u hm=>⟨_,_,(λ_ _ f=>Zf3 hm.1 hm.2 f),Zf6 u _ d (Sf hm.2.lt) c g,⟨⟨_,Sd _ R,R,R⟩,hm.2.at λo e=>Sc _ e⟩⟩
def Ls(v d:Addr):HO:=.ext λh=>h.IsValuesView v d
def Zf8{h:Heap}(x:h.IsValuesView v d):Yi P w H h v (Ls v d) :=
 ⟨x,let ⟨o,c,_⟩:=x;⟨o,c⟩,λ_ _ ⟨o,c,r⟩ k=>⟨o,k _ c,r⟩⟩
inductive Zf9(K:Ox)(neg:Bool)(x:V)(y:V)(H:Hp)(Q:VK):Prop|mk l b xs (_:x=.ref l) (_:y=.ref b) (_:Ze K H l xs) (_:Ze K H b []) (_:Q (.bl (if neg then !xs.isEmpty else xs.isEmpty)) H)
def Lu(d:X.A.units<cLine):YB X (compareOp .Eq) (Zf9 X.K false):=by
 intro pins s P H x y v u Q I D E h;ext⟨l,b,B,rfl,rfl,L,J,q⟩ h;cases D;cases E;obtain⟨S,r,g,_⟩:=I.list L;obtain⟨M,G,f,_⟩:=I.list J;have c:=r.length;have i:=G.length;cases B with
 |nil =>
  erw[SeqAt.eq_listAt (e:=λj=>Ws (([]:List V).getD j .non) (([]:List V).getD j .non)) g.isList f.isList (by simp;simp at c i;lia) d (λj C _=>by simp at C c;lia) ?_];rw[SM,<-c,M6 [] [] R];exact⟨.bl _,H,I,R,q⟩
 |cons x O =>
  erw[SeqAt.eq_list_lengthsAt g.isList f.isList (by simp;simp at c i;lia) d ?_];exact⟨.bl _,H,I,R,q⟩
theorem uM{items:Array Value}(h:t≠c):∀(n i:Nat) (s:Shared) (Q:List Value->Shared->Prop),s.heap.IsListIter c t i->s.heap.IsList t items->i+n<=items.size ->
  (∀h',h'.IsListIter c t (i+n)->Heap.SameBut c s.heap h'->Q ((items.toList.drop i).take n) {s with heap:=h'})->wpAny (model prog w) A (draw (.ref c) n) Q E s
 |0,i,s,Q,d,_,_,f=>by
  show wpAny _ _ (pure []) Q E s;exact Sb (by simpa using f s.heap d (Heap.SameBut.refl ..))
 |n+1,i,s,Q,d,j,H,f=>by
  have g:i<items.size:=by lia
  show wpAny _ _ (pyNext (.ref c) >>= _) Q E s;erw[Sa (wpAny_pyNext_list_item d j (x:=items[i]) (by simp[g]) λD B u=>?_)];have C:D.IsList t items:=let ⟨o,ho,r⟩:=j;⟨o,u.extBut t o h ho,r⟩;erw[Sa (wpAny_holding (uM h n (i+1) _ _ B C () λv G y=>Sb ?_))];have hd:items.toList.drop i=items[i]::items.toList.drop (i+1):=by simp[List.drop_eq_getElem_cons,g]
  have:=f v (by rwa[show i+(n+1)=i+1+n by lia]) (u.trans y);rw[hd,List.take_succ_cons]at this;exact this
def Zga{items:Array Value}(D:A.handled=none)(d:s.heap.IsList t items)
  (B:∀h',Heap.ExtBut s.heap.objs.size s.heap h'->Q items.toList {s with heap:=h'}):wpAny (model prog w) A (unpackItems (.ref t) items.size none) Q E s:=by
 have f:t≠s.heap.objs.size:=by ext⟨o,c,_⟩ d;exact Sf (Se c)
 unfold unpackItems;erw[Sa ?_];unfold notIterableAtAll;erw[Sa (wpAny_specialOf d.typeIs slot_list_iter.lookup ?_)];erw[Sb ?_];simp only[Bool.false_eq_true,if_false];erw[Sa (wpAny_holding (wpAny_pyIter_list d ?_))];have g:(s.heap.push {cls:=.type "list_iterator",data:=.fields #[.ref t,.int 0 0]}).IsList t items:=let ⟨o,c,r⟩:=d;⟨o,Sc _ c,r⟩;erw[Sa (wpAny_holding (uM f items.size 0 _ _ ⟨_,Sd _ R,R,R⟩ g () λv u h=>?_))];have C:List.take items.size (List.drop 0 items.toList)=items.toList:=by
  rw[List.drop_zero];exact SZ (by simp)
 rw[C];rw[SV (by simp)];have y:v.IsList t items:=let ⟨o,c,r⟩:=g;⟨o,h.extBut t o f c,r⟩;erw[Sa (wpAny_holding (wpAny_pyNext_list_end D u y (by simp) λj x=>?_))];simp only[Option.isSome_none,Bool.false_eq_true,if_false];erw[Sb (B j λb o i e=>x b o i (h.extBut b o i (Sc _ e)))]
def Zgb{elts:OD}{x1}{items:Array Value}(f:A.handled=none)(c:s.heap.IsList t items)
  (hn:(assignEach elts env).length=items.size) (g:(assignEach elts env).findIdx? (·.1)=none)
  (h:∀h',Heap.ExtBut s.heap.objs.size s.heap h'->wpAny (model prog w) A (assignInOrder ((assignEach elts env).map (·.2)) items.toList) Q E {s with heap:=h'}) :
  wpAny (model prog w) A (assign (.Tuple elts x1 d) env (.ref t)) Q E s:=by
 rw[assign_Tuple];erw[Sa (wpAny_standAt ?_)];unfold unpack;rw[hn,g];exact Sa (wpAny_holding (Zga f c h))
inductive Zgc(K:Ox)(n:Nat)(t:F1)(v:V)(σ:St)(H:Hp)(Q:St->Hp->Prop):Prop|mk a xs (_:v=.ref a) (_:Ze K H a xs) (_:xs.length=n) (_:t xs σ H Q)
def Zgd{E:Pos}(L:X.calm=true)(h:F2 X c t)
  (hn:(assignEach c X.env).length=n:=by rfl) (D:(assignEach c X.env).findIdx? (·.1)=none:=by rfl):PG X (.Tuple c k E) (Zgc X.K n t):=by
 intro pins s g H v u Q I r d;ext⟨a,y,j,i,x,d⟩ d;subst j;cases r;obtain⟨O,f,J,M⟩:=I.list i;erw[Zgb (I.ok.hd L) J.isList (by simp[hn,<-x,f.length]) D λC G=>?_];have B:Zd X pins g H {s with heap:=C}:=I.kept (t':=s.toks) λb o e=>G b o (Sf (Se e)) e;exact h pins _ g H y _ Q B (by simpa using f) d
def JX(z:Str):It:=⟨λi _=>i<z.cps.size,λi H x d=>d=H/\∃c,z.cps.toList[i]? = some c/\x=.str ⟨#[c]⟩,λi _=>i=z.cps.size⟩
def uN{Y:Expr}(z:Str)(t:Tok)(f:Addr)(ty:String)(U:["enumerate","zip","dict_itemiterator","dict_reverseitemiterator","odict_iterator","itertools.zip_longest","itertools.pairwise"].contains ty=false)
  (W:∀A:Around,A.handled=none->Walks P w A f [f] [f] z.cps.size (SignAt z) (λi h=>h.IsStrIter f ty z t i))
  (b0:∀(A:Around) (i:Nat) (s:Shared) (Q:Ou) (E:Ou),s.heap.IsStrIter f ty z t i->Q (.ref f) s->wpAny (model P w) A (pyIter (.ref f)) Q E s):Q4 P w K Y (JX z) [f] f (λi h=>h.IsStrIter f ty z t i) where
 mem:=by simp
 obj:=λi h st b g=>by
  have e:b=f:=by simpa using g
  subst e;ext⟨o,e,c,d⟩ st;exact⟨o,e,λc0 z=>by rw[d]at z;cases z⟩
 keep:=λi h x st k=>let ⟨o,ho,r⟩:=st;⟨o,k f (by simp) o ho,r⟩
 item:=by
  intro X j C J O i pins s T H E I v st u;subst j C J;obtain⟨y,D,Z,G,M,B⟩:=v f (by simp);erw[(W X.A (I.ok.hd O)).item i s _ E u st λc0 x tk j S L=>?_];ext⟨c,a0,e1,rfl⟩ j;have I1:Zd X pins T H {s with heap:=x,toks:=tk}:=I.turned (t':=tk) (λb o g e=>L b o (by simpa using g) e) y D G M B;obtain⟨o,e,c',d⟩:=id S;exact⟨_,R,K2 (s:={s with heap:=x,toks:=tk}) e c' d U ⟨.str ⟨#[c]⟩,H,I1,⟨a0,R⟩,⟨R,c,by simpa using e1,R⟩,S,λb g=>(v b g).1⟩⟩
 done:=by
  intro X j C J O i pins s T H E I v st u;subst j C J;obtain⟨y,D,Z,G,M,B⟩:=v f (by simp);have u:i=z.cps.size:=u;subst u;exact(W X.A (I.ok.hd O)).done s _ E st λx tk L=>⟨R,I.turned (t':=tk) (λb o g e=>L b o (by simpa using g) e) y D G M B⟩
 self:=λA i s Q E st h=>b0 A i s Q E st h
inductive Zge(R:It->Hp->Prop)(x:V)(H1:Hp):Prop|mk z (_:x=.str z) (_:R (JX z) H1)
def Zgf(tl:TE):TI:=λc H f=>tl c H λx d=>Zge f x d
def Zgg{u l:Expr}{tl:TE}(j:PE X l tl):PI X u l (Zgf tl):=by
 intro pins s y H D I h;erw[Zx (j pins s y H _ I h) λv s1 ⟨x,d,c,B,z,e,q⟩=>?_];subst e;ext⟨t,rfl⟩ B;have g:∀b∈[s1.heap.objs.size],Vw X pins d b:=λb C=>by
  have e:b=s1.heap.objs.size:=by simpa using C
  subst e;exact c.fpOk (Sg _) (c.hok.fresh (Sg _))
 cases ha:z.cps.all (· < 128);erw[wpAny_pyIter_wide ha ?_];exact⟨s1.heap.objs.size,[s1.heap.objs.size],_,_,d,R,c.kept (t':=s1.toks) λb o e=>Sc _ e,uN z t _ "str_iterator" () (λA f=>Walks.strWide f _ z t) (λA i s Q E st h=>wpAny_pyIter_striter_wide st h),⟨_,Sd _ R,R,R⟩,g,q⟩;erw[wpAny_pyIter_ascii ha ?_];exact⟨s1.heap.objs.size,[s1.heap.objs.size],_,_,d,R,c.kept (t':=s1.toks) λb o e=>Sc _ e,uN z t _ "str_ascii_iterator" () (λA f=>Walks.strAscii f _ z t) (λA i s Q E st h=>wpAny_pyIter_striter_ascii st h),⟨_,Sd _ R,R,R⟩,g,q⟩
def Zgh{z:Str}{g:TG}{O:TT}{I:TE}{L:St}{Q:VK}(j:Nat->List V->St->Hp->Prop)(P:j 0 [] L H)(hz:z.length<=sizeLine)
  (S:∀i c d v H,d.length<=i->z.cps.toList[i]? = some c->j i d v H->g (.str ⟨#[c]⟩) v H λh E=>O h E λb B=>if b=true then I h B λy G=>(d++[y]).length<=i+1/\j (i+1) (d++[y]) h G else d.length<=i+1/\j (i+1) d h B)
  (hd:∀d v H,d.length<=z.cps.size->j z.cps.size d v H->Qj Q d H) :
  ∃W:Nat->Nat->List V->St->Hp->Prop,(∃m,W 0 m [] L H)/\∀i m d C H,W i m d C H ->
   ((JX z).stop i H/\Qj Q d H) \/
   ((JX z).go i H/\d.length<sizeLine/\∃N:List V->St->Hp->Prop,(∀u D f,N u D f->∃M,M<m/\W (i+1) M u D f)/\∀x f,(JX z).yld i H x f->g x C f λh E=>O h E λb B=>if b=true then I h B λy G=>N (d++[y]) h G else N d h B):=by
 erw[⟨λi m d v H=>m=z.cps.size - i/\i<=z.cps.size/\d.length<=i/\j i d v H,⟨z.cps.size,by simp,Sk _,Sk _,P⟩,?_⟩];rintro i m d C H ⟨rfl,U,ha,p⟩;have hz:z.cps.size<=sizeLine:=hz;by_cases J:i<z.cps.size;erw[.inr ⟨J,(),λu D f=>u.length<=i+1/\j (i+1) u D f,λu D f z=>⟨_,(),R,J,z.1,z.2⟩,λx f y=>?_⟩];ext⟨e,c,T,y⟩ y;subst e y;exact S i c d C _ ha T p;have e:i=z.cps.size:=by lia
 subst e;exact .inl ⟨R,hd d C H ha p⟩
abbrev B5(o:Obj):HO:=.frz o (.own 0)
def lent(cs:Addr->Option Obj)(H:Hp):Hp:=λb=>match cs b with|some o=>some (B5 o)|none=>H b
def unl(cs:Addr->Option Obj)(H:Hp):Hp:=λb=>match cs b with|some _=>none|none=>H b
section
variable{cs:Addr->Option Obj}{H':Hp}{h h':Heap}{b:Addr}{o:Obj}{fs:OH}
def B6(q:cs b=some o):lent cs H b=some (B5 o):=by unfold lent;rw[q]
def XA(q:cs b=none):lent cs H b=H b:=by unfold lent;rw[q]
def QK(q:cs b=some o):unl cs H b=none:=by unfold unl;rw[q]
def W6(q:cs b=none):unl cs H b=H b:=by unfold unl;rw[q]
def JY(n:H b=none):unl cs H b=none:=by
 cases q:cs b with
 |some o=>exact QK q
 |none=>rwa[W6 q]
def Yf.lent(x:Yf P w H h)(c:∀b o,cs b=some o->h.get? b=some o/\H b=none):Yf P w (L2.lent cs H) h:=λa u e=>by
 have no:∀b u,H b=some u->cs b=none:=λb u e=>by
  cases q:cs b with
  |none=>rfl
  |some o=>rw[(c b o q).2]at e;cases e
 cases q:cs a with
 |some ob =>
  rw[B6 q]at e;obtain rfl:=So e;exact⟨(c a ob q).1,⟨ob,(c a ob q).1⟩⟩
 |none =>
  rw[XA q]at e;exact(x a u e).stay (λ_ _ _ z=>z) (λb z=>by rwa[XA (no b _ z)]) λb d z=>by rwa[XA (no b _ z)]
def Yf.unl(x:Yf P w H h)(d:∀b o,cs b=some o->H b=some (B5 o)):Yf P w (L2.unl cs H) h:=λa u e=>by
 cases q:cs a with
 |some ob=>rw[QK q]at e;cases e
 |none =>
  rw[W6 q]at e;erw[(x a u e).stay (λ_ _ _ z=>z) (λb z=>?_) λb f z=>?_];cases c:cs b with
  |some ob=>rw[d b ob c]at z;cases z
  |none=>rwa[W6 c]
  cases c:cs b with
  |some ob=>rw[d b ob c]at z;cases z
  |none=>rwa[W6 c]
def Un.unlend(u:Un fs [] (lent cs H) H' h h')(d:∀b o,cs b=some o->h.get? b=some o/\H b=none)(ok:Yf P w H' h'):Un fs [] H (unl cs H') h h':=by
 have g:∀b o,cs b=some o->H' b=some (B5 o):=λb o q=>u.frzs b o _ (B6 q);have no:∀b u,H b=some u->cs b=none:=λb u e=>by
  cases q:cs b with
  |none=>rfl
  |some o=>rw[(d b o q).2]at e;cases e
 erw[⟨λb o e n f c=>?_,λb o e n f c=>?_,λb o e n c=>?_,u.there,λb j e=>?_,λb o x e=>?_,λb i e=>?_⟩];cases q:cs b with
 |some ob =>
  have:=(d b ob q).1;rw[e]at this;obtain rfl:=So this;obtain⟨z,_⟩:=ok b _ (g b _ q);exact z
 |none=>exact u.keep b o e (by rwa[XA q]) f c
 cases q:cs b with
 |some ob =>
  have:=(d b ob q).1;rw[e]at this;obtain rfl:=So this;obtain⟨z,_⟩:=ok b _ (g b _ q);exact⟨_,z⟩
 |none=>exact u.slot b o e (by rwa[XA q]) f c
 cases q:cs b with
 |some ob=>exact QK q
 |none=>rw[W6 q];exact u.free b o e (by rwa[XA q]) c
 have q:=no b _ e;rw[W6 q];exact u.tups b j (by rwa[XA q]);have q:=no b _ e;rw[W6 q];exact u.frzs b o x (by rwa[XA q]);have q:=no b _ e;obtain⟨m,z⟩:=u.tbls b i (by rwa[XA q]);exact⟨m,by rwa[W6 q]⟩
def Un.relend(u:Un fs [] (unl cs H) H' h h')(d:∀b o,cs b=some o->H b=some (B5 o)):Un fs [] H (lent cs H') h h':=by
 have no:∀b,H b=none->cs b=none:=λb e=>by
  cases q:cs b with
  |none=>rfl
  |some o=>rw[d b o q]at e;cases e
 erw[⟨λb o e n f c=>?_,λb o e n f c=>?_,λb o e n c=>?_,u.there,λb i e=>?_,λb o x e=>?_,λb g e=>?_⟩];exact u.keep b o e (JY n) f c;exact u.slot b o e (JY n) f c;rw[XA (no b n)];exact u.free b o e (JY n) c;cases q:cs b with
 |some ob=>rw[d b ob q]at e;cases e
 |none=>rw[XA q];exact u.tups b i (by rwa[W6 q])
 cases q:cs b with
 |some ob=>rwa[B6 q,<-d b ob q]
 |none=>rw[XA q];exact u.frzs b o x (by rwa[W6 q])
 cases q:cs b with
 |some ob=>rw[d b ob q]at e;cases e
 |none =>
  obtain⟨m,z⟩:=u.tbls b g (by rwa[W6 q]);exact⟨m,by rwa[XA q]⟩
end
def B7(CX:X7)(P:Program)(w:World)(K:Ox)(mg:Ow)(base:Heap)(N:OC)(qual:Str)(scope:Scope)(cl:Oy)(f:Addr)(cd:Value)(A:Around)(outer:List Env)(s:Shared)(H:Hp)(E:XK):Cx where
 prog:=P
 w:=w
 K:=K
 mg:=mg
 base:=base
 A:=A.deeper (W.envX qual scope s.heap.objs.size f cd cl)
 N:=N
 s₀:=s
 H₀:=H
 env:=W.envX qual scope s.heap.objs.size f cd cl
 outer:=outer
 stack:=W.envX qual scope s.heap.objs.size f cd cl::outer
 ex:=[]
 calm:=true
 fn:=λ_=>false
 pn:=[]
 xe:=λe g=>wpAny (model P w) (A.deeper (W.envX qual scope s.heap.objs.size f cd cl)) (leaving (W.envX qual scope s.heap.objs.size f cd cl) e) (λ_ c=>CX outer H s E e c) (λd c=>CX outer H s E d c) g
section
variable{N:OC}{qual:Str}{cl:Oy}{f:Addr}{cd:Value}{outer:List Env}{E:XK}
def V7:WJ (YC P w) (B7 (YC P w) P w K mg base N qual scope cl f cd A outer s H E) E:=by
 intro pins Q T s1 e i I S;ext⟨a,C,v,rfl,os,bare,un,hok,⟨B,t,O,ha,x⟩,o,h,G⟩ S;have c:Zd (B7 (YC P w) P w K mg base N qual scope cl f cd A outer s H E) pins Q v i:=I.call' os un hok bare λb z=>nomatch z;have M:(A.deeper (PySem.W.envX qual scope s.heap.objs.size f cd cl)).frames=some (PySem.W.envX qual scope s.heap.objs.size f cd cl::outer):=I.ok.frames;have sn:s.heap.get? s.heap.objs.size=none:=Heap.get?_none_of_le (Sg _);erw[KC.with (e:=a) (W:=λd=>Heap.FlyingW B outer a C (.ref t) d/\i.heap.UpToSlots d) (M3 _ _) h (wpAny_leaves_onW (L:=s.heap.objs.size) M R O λd g up=>⟨d,R,g,up⟩) λd ⟨g,up⟩ h=>?_];have frd:=c.frd;obtain⟨D,J,y⟩:=M5 (P:=P) (w:=w) (L:=s.heap.objs.size) (h1:=i.heap) R sn c.base c.hok c.stkFree (λb j o e=>frd b (Lf j) o e) (λb o e j hn=>x b o e (j.imp (λ⟨u,q⟩=>I.base.there b u q λz=>nomatch z) id) hn) g ha up;exact⟨a,C,v,R,c.os,c.bare,D,J,y,o,h,G⟩
end
structure ND(N:OC)(scope:Scope)(cl:Oy)(vs:List V)(cs:Addr->Option Obj):Prop where
 len:vs.length=N.length
 val:∀(i:Nat) (x:Str) (v:V),N[i]? = some x->vs[i]? = some v->∃c o u,cl.lookup x=some c/\cs c=some o/\o.data=.cell (some u)/\ZL v u
 cell:∀x c,cl.lookup x=some c->∃o v,cs c=some o/\o.data=.cell v
 inj:∀x y c,cl.lookup x=some c->cl.lookup y=some c->x=y
 has:∀x,(scope.names.lookup x=some .cell\/scope.names.lookup x=some .free)->∃c,cl.lookup x=some c
 fre:∀x∈N,scope.names.lookup x=some .free
 dat:∀b o,cs b=some o->∃v,o.data=.cell v
def Zgi{CX:X7}{N:OC}{qual:Str}{cl:Oy}{f:Addr}{cd:Value}{outer:List Env}{E:XK}{vs:List V}{cs:Addr->Option Obj}{h':Heap}{m:Ow}{tk:Nat}
  (S:scope.kind=.function) (hd:A.handled=none) (d:VX P w K mg base A outer s H) (g:ND N scope cl vs cs) (D:∀b o,cs b=some o->s.heap.get? b=some o/\H b=none)
  (J:h'.Ns s.heap.objs.size m) (C:∀b o,s.heap.get? b=some o->h'.get? b=some o):Zd (B7 CX P w K mg base N qual scope cl f cd A outer s H E) [] (vs.map some) H {s with heap:=h',toks:=tk}:=by
 have G:∀b:Addr,b∉(B7 CX P w K mg base N qual scope cl f cd A outer s H E).ex:=λb z=>Os (show b∈([]:OH)from z) (by simp);refine⟨⟨d.mod,S,R,R,Sg _,g.inj,g.has,(λ_ _ z=>nomatch z),λ_=>hd,Around.frames_deeper d.frames,.inr ⟨R,R⟩,λb z=>Os z (G b),d.bs,d.bsz,λb _ _=>G b,λb z=>Os z (G b),d.funs,d.frf⟩,
  rfl,d.bare,Un.kept C,⟨m,J,λi x v I y T=>?_⟩,λx c h=>?_,d.hok.fresh (Sg _),λx c h=>?_,λp M=>Os (show p∈([]:Ov)from M) (by simp),d.hok.kept C,?_⟩
 have Q:vs[i]? = some v:=by
  rw[Oa]at y;cases e:vs[i]? with
  |none=>rw[e]at y;cases y
  |some a=>rw[e]at y;exact So y ▸ R
 obtain⟨c,o,u,j,B,O,L⟩:=g.val i x v I Q;exact⟨u,L,.inr ⟨.inr (g.fre x (SJ I)),c,j,o,C _ _ (D c o B).1,O⟩⟩;obtain⟨o,v,j,B⟩:=g.cell x c h;exact⟨v,o,C _ _ (D c o j).1,B⟩;obtain⟨o,v,j,B⟩:=g.cell x c h;exact(D c o j).2;show(vs.map some).length=N.length;rw[Sv,g.len]
def NE(P:Program)(w:World)(K:PySem.W.Frag)(mg:Ow)(base:Heap)(k:Nat)(f:Addr)(H:Hp)(W:VK->XK->Prop):Prop :=
 (∀h:Heap,Yf P w H h->PySem.W.FnAt f h)/\∀(A:Around) (outer:List Env) (s:Shared) (Q:VK) (E:XK),Yn k A->VX P w K mg base A outer s H->W Q E->codeAny (model P w) A (.call (.ref f) ⟨[],[]⟩) (CR (YC P w) outer P w H s Q E) s
def Zgj{k:Nat}{f h:Addr}{qual:Str}{params:Arguments}{body:Expr}{cl:Oy}{pm Z:Value}{N:OC}{vs:List V}{cs:Addr->Option Obj}{T:XK->TE}
  (U:H f=some (V5 f qual params body scope cl pm h Z)) (n0:H h=some (VL h qual)) (o0:scope.isCoroutine=false) (i0:scope.isGenerator=false) (hk:scope.kind=.function) (m0:∀x∈scope.names,x.2≠.cell)
  (g:bindArgs (W.kla_fn "<lambda>" qual params body scope cl pm (.ref h) Z) ⟨[],[]⟩=pure []) (Y:ND N scope cl vs cs) (B:∀b o,cs b=some o->H b=some (B5 o))
  (g0:∀(A:Around) (outer:List Env) (s:Shared) (E:XK),Yn k (A.deeper (W.envX qual scope s.heap.objs.size f (.ref h) cl))->PE (B7 (YC P w) P w K mg base N qual scope cl f (.ref h) A outer s (unl cs H) E) body (T E)) :
  NE P w K mg base (k+1) f H λQ E=>T (λC o c=>(∀b ob,cs b=some ob->c b=none)->E C o (lent cs c)) (vs.map some) (unl cs H) λv c=>(∀b ob,cs b=some ob->c b=none)->Q v (lent cs c):=by
 erw[⟨λq0 ok=>?_,λA outer s Q E O d hW=>?_⟩];have z:=(ok f _ U).1;exact⟨_,_,_,_,z⟩;have y:∀b o,cs b=some o->s.heap.get? b=some o:=λb o q=>by
  obtain⟨z,_⟩:=d.hok b _ (B b o q);exact z
 have h0:∀b o,cs b=some o->b∉Yp outer:=λb o q z=>by
  have:=d.frf b z;rw[B b o q]at this;cases this
 have e1:VX P w K mg base A outer s (unl cs H):=⟨d.frames,d.mod,λb o e=>⟨(d.bs b o e).1,JY (d.bs b o e).2⟩,d.bsz,d.funs,λb g=>JY (d.frf b g),d.hok.unl B,d.bare⟩;have f0:s.heap.NoLimit:=d.mod.nolimit.keeps λb o e=>(d.bs b o e).1;have ho:=(d.hok f _ U).1;have k0:=(d.hok h _ n0).1;have back:∀{c:Hp} {i:Heap},Un (Yp outer) [] (unl cs H) c s.heap i->Yf P w c i->Un (Yp outer) [] H (lent cs c) s.heap i/\Yf P w (lent cs c) i/\(∀b o,cs b=some o->i.get? b=some o)/\∀b o,cs b=some o->c b=none:=λ{c i} u ok=>by
  have G:∀b o,cs b=some o->i.get? b=some o/\c b=none:=λb o q=>⟨u.keep b o (y b o q) (QK q) (h0 b o q) (λz=>nomatch z),u.free b o (y b o q) (QK q) λz=>nomatch z⟩;exact⟨u.relend B,ok.lent G,λb o q=>(G b o q).1,λb o q=>(G b o q).2⟩
 erw[W.kla_callFunE O.depth ho R o0 i0 R k0 ?_];rw[g];erw[Sb ?_];erw[wpAny_newFunctionEnv m0 (λx hx=>nomatch hx) (λh' c0 a0=>?_) hk];erw[⟨f0.fresh _ a0,?_⟩];have l0:∀b o,s.heap.get? b=some o->h'.get? b=some o:=λb o e=>a0.extBut b o (Sf (Se e)) (Sc _ e);show codeAny (model P w) A (.expr body (W.envX qual scope s.heap.objs.size f (.ref h) cl)) _ _;erw[W.kla_codeExpr ?_];have d0:=Zgi (CX:=YC P w) (E:=λC o c=>(∀b ob,cs b=some ob->c b=none)->E C o (lent cs c)) (f:=f) (cd:=.ref h) (qual:=qual) (tk:=s.toks+([]:List (Str×Value)).length) hk O.hd e1 Y (λb o q=>⟨y b o q,QK q⟩) c0 l0;have conv:∀(e:Value) (j:Shared),YC P w outer (unl cs H) s (λC o c=>(∀b ob,cs b=some ob->c b=none)->E C o (lent cs c)) e j->YC P w outer H s E e j:=by
  rintro e j ⟨a,C,c,rfl,os,bare,un,hok,⟨j0,t,fl,ha,b0⟩,o,nc,hE⟩;obtain⟨D,I,u3,L⟩:=back un hok;erw[⟨a,C,lent cs c,R,os,bare,D,I,⟨j0,t,fl,?_,λb o e g hn=>b0 b o e ?_ hn⟩,o,nc,hE L⟩];cases q:cs a with
  |none=>rw[XA q];exact ha
  |some o =>
   ext⟨ob,p0,S,_,X,_⟩ fl.first;obtain⟨v,q3⟩:=Y.dat a o q;rw[u3 a o q]at S;obtain rfl:=So S;rw[q3]at X;cases X
  rcases g with g|⟨u,g⟩;exact .inl g;cases q:cs b with
  |none=>rw[XA q]at g;exact .inr ⟨u,g⟩
  |some o'=>exact .inl ⟨o',y b o' q⟩
 erw[Oq (g0 A outer s _ (O.deeper _) [] _ (vs.map some) (unl cs H) _ d0 hW) (λu s' M=>?_) λe s' M=>?_];ext⟨v,c,J,rv,q⟩ M;obtain⟨D,I,_,L⟩:=back J.base J.hok;exact⟨v,lent cs c,J.os,J.bare,D,I,rv,q L⟩;exact Oq M (λ_ j z=>conv e j z) λe' j z=>conv e' j z
inductive uO(P:Program)(w:World)(K:PySem.W.Frag)(mg:Ow)(base:Heap)(k i:Nat)(E:XK)(σ:St)(H:Hp)(Q:VK):Prop|mk f W (_:σ[i]? = some (some (.ref f))) (_:NE P w K mg base k f H W) (_:W Q E)
def Zgk{E:XK}(S:X.N[i]? = some x)(j:E9 X.env.scope x)(U:Yn k X.A)(P:WJ (YC X.prog X.w) X E)(hd:(x==("__debug__" : Str))=false:=by lia) (T:(x==("__classdict__" : Str))=false:=by lia) :
  PE X (.Call (.Name x p) [] [] O) (uO X.prog X.w X.K X.mg X.base k i E):=by
 intro pins s g H Q I h;ext⟨f,W,e,⟨y,G⟩,D⟩ h;erw[wpAny_Call_Name_kw ?_];erw[Zx (yK S j hd T pins s g H (λv L=>v=.ref f/\L=H) I ⟨_,e,R,R⟩) λu s1 ⟨v,Y,d,r,B,C⟩=>?_];subst B C;obtain rfl:u=Value.ref f:=r;erw[PySem.W.callWith_F0 (y _ d.hok) ?_];erw[wpAny_call (codeAny_mono (G X.A X.stack s1 Q E U d.env0 D) λr J c=>?_)];cases r with
 |error e=>exact P pins g _ s1 e J d c
 |ok M =>
  cases M with
  |ret u=>exact d.after c
  |next=>exact False.elim c
  |brk=>exact False.elim c
  |cont=>exact False.elim c
structure Lv(FN:List (Str×Nat))(cl:Oy)(cs:Addr->Option Obj)(σ:St)(H:Hp):Prop where
 free:∀b o,cs b=some o->H b=none/\∃v,o.data=.cell v
 cell:∀x c,cl.lookup x=some c->∃o v,cs c=some o/\o.data=.cell v
 val:∀p∈FN,∀v,σ[p.2]? = some (some v)->∃c o u,cl.lookup p.1=some c/\cs c=some o/\o.data=.cell (some u)/\ZL v u
theorem VF.mem:∀{cl:Oy},VF X cl->(y,c)∈cl->X.env.cells.lookup y=some c
 |(z,d)::r,h,e=>by
  rcases SE.mp e with e|e;cases e;exact h.1;exact VF.mem h.2 e
def NF(sp:Sp)(FN:List (Str×Nat))(cl:Oy)(tl:TE):TE:=λc H Q=>tl c H λv d=>∀cs:Addr->Option Obj,Lv FN cl cs c d->sp [v] (lent cs d) (λr f=>Q r (unl cs f)) λ_ _ _=>False
def V8{cl:Oy}{p : Pos}(F:Zp X.prog X.w X.K X.mg X.base Zv k f T J sp)(hr:Yn k X.A)(hg:Gl X x)(hm:X.mg x=some (.ref f))(hk:W.keepIn X.K (.ref f)=true)(j:XF X.K T J [])
  (b0:∀y,X.fn y=true) (a0:VF X cl) (i0:∀p∈FN,X.N[p.2]? = some p.1/\X.env.scope.names.lookup p.1=some .cell/\∃c,X.env.cells.lookup p.1=some c/\cl.lookup p.1=some c) (he:PE X e tl) (Y:YW e=true:=by rfl) (j0:(x==("__debug__" : Str))=false:=by lia) :
  PE X (.Call (.Name x p) [e] [] Z) (NF sp FN cl tl):=by
 intro pins s O g0 c0 I h0;erw[wpAny_Call_Name_kw (UQ I hg hm ?_ j0)];erw[W.callWith_K (h₀:=X.base) I.ok.mod.kin hk (Zx ((xF he YG (Nb Y)) Z pins s O g0 (λM B=>match M with|[v]=>∀cs:Addr->Option Obj,Lv FN cl cs O B->sp [v] (lent cs B) (λr H2=>c0 r (unl cs H2)) (λ_ _ _=>False)|_=>False) I h0) λD s1 ⟨M,B,d,r,q⟩=>⟨d.kIn,?_⟩) (Nb Y) R]
 match M,q,r with
 |[],q,_=>exact q.elim
 |_::_::_,q,_=>exact q.elim
 |[v],q,r =>
  have G:∀b o,(if b∈cl.map (·.2)then s1.heap.get? b else none)=some o->(∃y,X.env.cells.lookup y=some b)/\s1.heap.get? b=some o:=λb o e=>by
   by_cases j:b∈cl.map (·.2);rw[SW j]at e;obtain⟨⟨y,c⟩,h,ec⟩:=SI.mp j;obtain rfl:c=b:=ec;exact⟨⟨y,a0.mem h⟩,e⟩;rw[SV j]at e;cases e
  have Q:∀b o,(if b∈cl.map (·.2)then s1.heap.get? b else none)=some o->s1.heap.get? b=some o/\B b=none:=λb o e=>by
   obtain⟨⟨y,h⟩,e⟩:=G b o e;exact⟨e,d.freeC y b h⟩
  have big:∀b o,(if b∈cl.map (·.2)then s1.heap.get? b else none)=some o->X.s₀.heap.objs.size<=b:=λb o e=>by
   obtain⟨⟨y,h⟩,_⟩:=G b o e;exact d.ok.cab y b (b0 y) h
  have lk:∀y c,cl.lookup y=some c->∃v,s1.heap.IsCell c v/\c∈cl.map (·.2):=λy c e=>by
   obtain⟨v,z⟩:=d.cell y c (a0.at e);exact⟨v,z,SI.mpr ⟨(y,c),PySem.mem_of_lookup e,R⟩⟩
  have LC:Lv FN cl (λb=>if b∈cl.map (·.2)then s1.heap.get? b else none) O B:=by
   erw[⟨λb o e=>⟨(Q b o e).2,?_⟩,λy c e=>?_,λp hp v ev=>?_⟩];obtain⟨⟨y,h⟩,e⟩:=G b o e;obtain⟨v,E,z1,H⟩:=d.cell y b h;rw[e]at z1;obtain rfl:=So z1;exact⟨v,H⟩;obtain⟨v,⟨o,z1,H⟩,P⟩:=lk y c e;exact⟨o,v,by rwa[SW P],H⟩;obtain⟨q1,g,c,q3,S⟩:=i0 p hp;ext⟨m,hn,L⟩ d.loc;obtain⟨u,ru,l⟩:=L p.2 p.1 v q1 ev (.inr (.inl g));obtain⟨_,_,P⟩:=lk p.1 c S;rcases l with⟨z,_⟩|⟨_,c',e',o,ho,hd⟩;rw[show X.env.kindOf p.1=X.env.scope.names.lookup p.1 from R,g]at z;cases z;rw[q3]at e';obtain rfl:=So e';exact⟨c,o,u,S,by rw[SW P];exact ho,hd,ru⟩
  have i:=d.env0;have e1:VX X.prog X.w X.K X.mg X.base X.A X.stack s1 (lent (λb=>if b∈cl.map (·.2)then s1.heap.get? b else none) B):=by
   erw[⟨i.frames,i.mod,λb o e=>⟨(i.bs b o e).1,?_⟩,i.bsz,i.funs,λb j=>?_,i.hok.lent Q,i.bare⟩];cases g:(λb=>if b∈cl.map (·.2)then s1.heap.get? b else none) b with
   |none=>rw[XA g];exact(i.bs b o e).2
   |some E =>
    have:=big b E g;exact Os (Si (Se e) d.ok.bsz) (Og.mpr this)
   cases g:(λb=>if b∈cl.map (·.2)then s1.heap.get? b else none) b with
   |none=>rw[XA g];exact i.frf b j
   |some E =>
    have h1:=big b E g;obtain⟨⟨y,h⟩,_⟩:=G b E g;rcases SE.mp (d.stkSub b j)with z|z;exact Os z (d.cne y b h);obtain⟨_,o2,f0,_⟩:=d.ok.funs.mem z;exact Os (Se f0) (Og.mpr h1)
  have qq:=q _ LC;have U:ZB ([v]++[]) (D++[]):=r.append .nil;have L:(D++[]).length=J.length:=by rw[<-U.length];exact F.len _ _ _ _ qq
  erw[wpAny_call (codeAny_mono (F.run X.A X.stack s1 _ ⟨D,[]⟩ (D++[]) ([v]++[]) _ _ hr e1 (j s1 D d.kIn L) U qq) λrr s' C=>?_)];cases rr with
  |error e=>exact False.elim C
  |ok fl =>
   cases fl with
   |next=>exact False.elim C
   |brk=>exact False.elim C
   |cont=>exact False.elim C
   |ret u =>
    ext⟨w',H',os,bare,un,hok,d0,q'⟩ C;exact d.after ⟨w',_,os,bare,un.unlend Q hok,hok.unl (λb o z=>un.frzs b o _ (B6 z)),d0,q'⟩
def QL{c:Type}(P:c->Prop):List c->Prop
 |[]=>True
 |a::r=>P a/\QL P r
theorem JZ{c:Type}{P:c->Prop}:∀{l:List c},QL P l->∀a∈l,P a
 |_::_,h,a,m=>by
  rcases SE.mp m with rfl|m;exact h.1;exact JZ h.2 a m
def V9{FN:List (Str×Nat)}{cl:Oy}(h:QL (λp=>X.N[p.2]? = some p.1/\X.env.scope.names.lookup p.1=some .cell/\∃c,X.env.cells.lookup p.1=some c/\cl.lookup p.1=some c) FN) :
  ∀p∈FN,X.N[p.2]? = some p.1/\X.env.scope.names.lookup p.1=some .cell/\∃c,X.env.cells.lookup p.1=some c/\cl.lookup p.1=some c:=JZ h
def Zgl{Q:Ow}{CX:X7}{k:Nat}{U a:Addr}{i:List (Addr×Addr)}{fd:OJ}{x:Str}{sp:Sp}{c:Shared}{vs:OB}{ns:OE}
  (KX:K.In c.heap) (d0:c.heap.Ns mainGlobals mg) (f:c.heap.Ns builtinsNs Q) (g0:∀x:Str,x ≠ "__name__" -> Q x=bootBuiltins x) (i0:c.heap.NoLimit) (hg:c.gens=#[])
  (ha:c.heap.get? a=some {cls:=.type "list",data:=.seq vs.toArray}) (hi:IntsAre vs ns) (hl:ns.length<=sizeLine) (hr:Yn k callerA)
  (S:∀p∈i,W.CodeHd c.heap p.1 p.2/\c.heap.get? p.2=some (W.tabObj #[])/\K.lookup p.2=none) (o0:BM mg c.heap)
  (F:∀base:Heap,K.In base->base.Ns mainGlobals mg->(∀p∈i,W.CodeHd base p.1 p.2)->BM mg base->Zp P w K mg base CX k U fd [x] sp) (m0:∀(s:Shared) (u:Value),BindsTo s fd ⟨[u],[]⟩ [(x,u)])
  (r0:∀H:Hp,(∀p∈i,H p.2=some (.tbl #[]))->Ze K H a (ns.map V.int)->sp [.ref a] H (λv _=>v=.bl true) λ_ _ _=>False)
  (q0:∀H e y,CX [] H c (λ_ _ _=>False) e y->False) :
  codeAny (model P w) callerA (.call (.ref U) ⟨[.ref a],[]⟩) (λr y=>r=.ok (.ret (.bool true))/\OldK c.heap y.heap/\y.os=c.os/\AllBare y.gens) c:=by
 have rv:=wF hi;have k0:=hi.length;have E:∀{b:Addr},b∈i.map (·.2)->c.heap.get? b=some (W.tabObj #[])/\K.lookup b=none:=λ{b} f=>by
  obtain⟨p,D,rfl⟩:=SI.mp f;exact(S p D).2
 have aT:a∉i.map (·.2):=λz=>by rw[(E z).1]at ha;cases ha
 have core:∀H:Hp,(∀b,H b=none\/(b∈i.map (·.2)/\H b=some (.tbl #[]))\/∃o xs,H b=some (.frz o (.lst xs)))->(∀b∈i.map (·.2),H b=some (.tbl #[]))->Ze K H a (ns.map V.int)->Yf P w H c.heap->(∀b,H b≠none->b=a\/b∈i.map (·.2))->(H a≠none->K.lookup a=none) ->
   codeAny (model P w) callerA (.call (.ref U) ⟨[.ref a],[]⟩) (λr y=>r=.ok (.ret (.bool true))/\OldK c.heap y.heap/\y.os=c.os/\AllBare y.gens) c:=by
  intro H hO b0 hS hok T hK;have J:∀{b:Addr} {o:Obj},c.heap.get? b=some o->H b=none->(VU c.heap H).get? b=some o:=λe n=>ZcR e n;have a0:∀{b:Addr} {o:Obj},c.heap.get? b=some o->o.cls≠.type "list" -> o.cls≠.none->H b=none:=λ{b o} e n1 n2=>by
   cases q:H b with
   |none=>rfl
   |some u =>
    rcases T b (by rw[q];simp)with rfl|f;rw[ha]at e;cases e;exact Os R n1;rw[(E f).1]at e;cases e;exact Os R n2
  have l0:∀{b:Addr} {o:Obj} {G:Array DictEntry} {I:Nat},c.heap.get? b=some o->o.data=.dict G I->H b=none:=λ{b o G I} e d=>by
   cases q:H b with
   |none=>rfl
   |some u =>
    rcases T b (by rw[q];simp)with rfl|f;rw[ha]at e;cases e;have d':Data.seq vs.toArray _=Data.dict G I:=d;cases d';rw[(E f).1]at e;cases e;cases d
  have L:∀{b:Addr} {m:Ow},c.heap.Ns b m->(VU c.heap H).Ns b m:=λ{b m} ⟨o,G,I,e,d,r⟩=>⟨o,G,I,J e (l0 e d),d,r⟩;have f0:K.In (VU c.heap H):=λb o e=>J (KX b o e) (by
   cases q:H b with
   |none=>rfl
   |some u =>
    rcases T b (by rw[q];simp)with rfl|f;rw[hK (by rw[q];simp)]at e;cases e;rw[(E f).2]at e;cases e)
  have h0:∀p∈i,W.CodeHd (VU c.heap H) p.1 p.2:=λp D=>by
   obtain⟨o,ws,file,tf,flags,tg,p0,text,tt,e,O,r⟩:=(S p D).1;exact⟨o,ws,file,tf,flags,tg,p0,text,tt,J e (a0 e (by rw[O];exact λz=>Os (Value.type.inj z) ()) (by rw[O];intro z;cases z)),O,r⟩
  have j0:BM mg (VU c.heap H):=by
   ext⟨bm,ob,b1,b2,b3,b4,M,b6⟩ o0;exact⟨bm,ob,b1,b2,b3,J b4 (a0 b4 (by rw[M];exact λz=>Os (Value.type.inj z) ()) (by rw[M];intro z;cases z)),M,b6⟩
  have hM:Mod K mg (VU c.heap H):=⟨f0,L d0,⟨Q,L f,g0⟩,let ⟨mc,j,B⟩:=i0;⟨mc,L j,B⟩⟩;have e0:VX P w K mg (VU c.heap H) callerA [] c H:=⟨R,hM,λb o e=>ZcS e,Nat.le_of_eq (ZcQ _ _),trivial,λb f=>Os (show b∈([]:OH)from f) (by simp),hok,.of_eq hg⟩;erw[codeAny_mono ((F _ f0 (L d0) h0 j0).run callerA [] c H ⟨[.ref a],[]⟩ [.ref a] [.ref a] _ _ hr e0 (m0 c (.ref a)) (.cons R .nil) (r0 H (λp D=>b0 p.2 (SI.mpr ⟨p,D,R⟩)) hS)) λr y h=>?_];cases r with
  |error e=>exact(q0 H e y h).elim
  |ok fl =>
   cases fl with
   |next=>exact False.elim h
   |brk=>exact False.elim h
   |cont=>exact False.elim h
   |ret u =>
    ext⟨v,H',os,bare,un,c0,r',q⟩ h;have q':v=.bl true:=q;subst q';obtain rfl:u=Value.bool true:=r';have keep:∀b o,b∉i.map (·.2)->c.heap.get? b=some o->y.heap.get? b=some o:=λb o nT e=>by
     cases q:H b with
     |none=>exact un.keep b o e q (by intro z;exact Os (show b∈([]:OH)from z) (by simp)) (by simp)
     |some u =>
      rcases hO b with z|⟨z,_⟩|⟨ob,xs,z⟩;rw[q]at z;cases z;exact Os z nT;have z2:=un.frzs b ob _ z;obtain⟨e1,_⟩:=hok b _ z;obtain⟨e2,_⟩:=c0 b _ z2;rw[e]at e1;cases e1;exact e2
    have gT:∀b∈i.map (·.2),∃more:Array Value,y.heap.get? b=some {cls:=.none,data:=.fields (#[]++more)}:=λb f=>by
     obtain⟨more,hm⟩:=un.tbls b _ (b0 b f);exact⟨more,c0 b _ hm⟩
    erw[⟨R,⟨λb o e=>?_,λb o e=>?_⟩,os,bare⟩];by_cases z:b∈i.map (·.2);obtain⟨more,g⟩:=gT b z;obtain⟨p,D,rfl⟩:=SI.mp z;obtain⟨n0,hT,_⟩:=S p D;rw[hT]at e;obtain rfl:=So e;exact .inr (.inl ⟨(n0.tab hT).isCodeTable,R,#[],more,R,g⟩);exact .inl (keep b o z e);by_cases z:b∈i.map (·.2);obtain⟨more,g⟩:=gT b z;exact⟨_,g⟩;exact⟨o,keep b o z e⟩
 cases Y:K.lookup a with
 |some o =>
  have e:=KX a o Y;rw[ha]at e;cases e;erw[core (λb=>if b∈i.map (·.2)then some (.tbl #[])else none) (λb=>?_) (λb f=>SW f) (.inr ⟨_,vs.toArray,_,Y,R,R,R,by rw[SM,k0];exact hl,by simpa using rv⟩) (λb u z=>?_) (λb z=>?_) λz=>Os (SV aT) z];by_cases f:b∈i.map (·.2);exact .inr (.inl ⟨f,SW f⟩);exact .inl (SV f);by_cases f:b∈i.map (·.2);have C:=(SW f).symm.trans z;cases C;exact(E f).1;have C:=(SV f).symm.trans z;cases C;by_cases f:b∈i.map (·.2);exact .inr f;exact Os (SV f) z
 |none =>
  have X:∀b,b∉i.map (·.2)->b≠a->(λb=>if b∈i.map (·.2)then some (HO.tbl #[])else if b=a then some (.frz {cls:=.type "list",data:=.seq vs.toArray} (.lst (ns.map V.int)))else none) b=none:=λb j B=>by
   show(if b∈i.map (·.2)then _ else if b=a then _ else _)=none;rw[SV j,SV B]
  have Z:(λb=>if b∈i.map (·.2)then some (HO.tbl #[])else if b=a then some (.frz {cls:=.type "list",data:=.seq vs.toArray} (.lst (ns.map V.int)))else none) a=some (.frz {cls:=.type "list",data:=.seq vs.toArray} (.lst (ns.map V.int))):=by
   show(if a∈i.map (·.2)then _ else if a=a then _ else _)=_;rw[SV aT,SW R]
  erw[core (λb=>if b∈i.map (·.2)then some (.tbl #[])else if b=a then some (.frz {cls:=.type "list",data:=.seq vs.toArray} (.lst (ns.map V.int)))else none) (λb=>?_) (λb f=>SW f) (.inl (.inr ⟨{cls:=.type "list",data:=.seq vs.toArray},Z⟩)) (λb u z=>?_) (λb z=>?_) λ_=>Y];by_cases j:b∈i.map (·.2);exact .inr (.inl ⟨j,SW j⟩);by_cases B:b=a;subst B;exact .inr (.inr ⟨_,_,Z⟩);exact .inl (X b j B);by_cases j:b∈i.map (·.2);have C:=(SW j).symm.trans z;cases C;exact(E j).1;by_cases B:b=a;subst B;have C:=Z.symm.trans z;cases C;exact⟨ha,by rw[Sv];exact hl,vs,_,rv,ha⟩;have C:=(X b j B).symm.trans z;cases C;by_cases j:b∈i.map (·.2);exact .inr j;by_cases B:b=a;exact .inl B;exact Os (X b j B) z
def Zgm{l:W.OpenLaw}{n k:Nat}{q:Program}{loose:OC}{XP:(Str->Option Value)->Heap->Prop}{L:World->Heap->Prop}{d:DefRec}{K:Params->W.Frag}{CX:X7}{sp:W.Frag->List Addr->Sp}{x:Str}{I:OH}
  (hn:l.most=some n) (Q:n<=sizeLine) (M:d.params.defaults=[]) (hr:Yn k callerA)
  (U:∀(w:World) (h:Heap),L w h->(K w.params).In h/\∀P∈I,h.get? P=some (W.tabObj #[]))
  (F:∀(u:OH),u=I->∀(w:World) (mg:Ow) (j:Addr) (h:Heap),(K w.params).In h->h.Ns mainGlobals mg->mg d.name=some (.ref j) ->
   ∃i:List (Addr×Addr),(∀p∈i,(W.codeHdIn (K w.params) p.1 p.2=true/\p.2∈u)/\(K w.params).lookup p.2=none)/\∃C:FuncData,(∀(s:Shared) (u:Value),BindsTo s C ⟨[u],[]⟩ [(x,u)]) /\
    ∀base:Heap,(K w.params).In base->base.Ns mainGlobals mg->(∀p∈i,W.CodeHd base p.1 p.2)->BM mg base->Zp l.prog w (K w.params) mg base CX k j C [x] (sp (K w.params) (i.map (·.2))))
  (a0:∀(K:Ox) (i:OH) (H:Hp) (a:Addr) (ns:OE),ns.length<=n->(∀T∈i,H T=some (.tbl #[]))->Ze K H a (ns.map V.int)->sp K i [.ref a] H (λv _=>v=.bl true) λ_ _ _=>False)
  (Z:∀(H:Hp) (s:Shared) (e:Value) (s':Shared),CX [] H s (λ_ _ _=>False) e s'->False) :
  W.WalkO q loose XP L l.row.toRowW d [] (λf vs=>PySem.call f vs):=by
 erw[Att.attach_call hn M λw s₀ y mg mb j o pm cd f0 a vs ns G d0 ho hd g0 O b0 hints hlen hg=>?_];obtain⟨KX,S⟩:=U w _ d0;obtain⟨i,ht,C,hb,hF⟩:=F I R w mg j _ KX G.T.g O;have Y:∀p∈i,W.CodeHd y.heap p.1 p.2/\y.heap.get? p.2=some (W.tabObj #[])/\(K w.params).lookup p.2=none:=λ⟨c,T⟩ E=>by
  obtain⟨⟨h1,h2⟩,h3⟩:=ht (c,T) E;exact⟨W.codeHd_of_K KX h1,S _ h2,h3⟩
 ext⟨J,ob,b1,X,B,b4,b5,D⟩ G.T.bmain;have c0:J≠mainGlobals:=λz=>by
  ext⟨o',es,ep,e,e0,_⟩ G.T.g;rw[z,e]at B;cases B;rw[e0]at D;cases D
 exact Zgl KX G.T.g G.T.b G.T.builtins G.T.nolimit hg b0 hints (Sh hlen Q) hr Y ⟨J,ob,b1,X,c0,B,b4,b5,D⟩ hF hb (λH hH hS=>a0 _ _ H a ns hlen (λT hT=>by obtain⟨p,E,rfl⟩:=SI.mp hT;exact hH p E) hS) λH e s'=>Z H y e s'
theorem on0{c:Type}{P:List c->Prop}(h:P []):∀us:List c,us.length=0->P us
 |[],_=>h
theorem Y0{d:Type}{P:List d->Prop}(h:∀c,P [c]):∀us:List d,us.length=1->P us
 |[c],_=>h c
theorem YX{f:Type}{P:List f->Prop}(h:∀d c,P [d,c]):∀us:List f,us.length=2->P us
 |[d,c],_=>h d c
theorem W7{g:Type}{P:List g->Prop}(h:∀d c f,P [d,c,f]):∀us:List g,us.length=3->P us
 |[d,c,f],_=>h d c f
theorem Qp{i:Type}{P:List i->Prop}(h:∀d c g f,P [d,c,g,f]):∀us:List i,us.length=4->P us
 |[d,c,g,f],_=>h d c g f
theorem on5{j:Type}{P:List j->Prop}(h:∀f c i g d,P [f,c,i,g,d]):∀us:List j,us.length=5->P us
 |[f,c,i,g,d],_=>h f c i g d
def Zgn{zs:OC}:∀{us:OB},ZB (zs.map V.str) us->StrsAre us zs:=by
 induction zs with
 |nil=>intro us r;cases r;exact .nil
 |cons z zs c =>
  intro us r;cases r with
  |cons a r=>ext⟨t,rfl⟩ a;exact .cons z t (c r)
theorem uP:∀{us:OB} {zs:OC},StrsAre us zs->ZB (zs.map V.str) us
 |_,_,.nil=>.nil
 |_,_,.cons y t r=>.cons ⟨t,R⟩ (uP r)
def Zgo{o:Obj}{vs:OB}(d:T="list" \/ T="tuple") (f:s.heap.get? l=some o) (g:o.cls=.type T) (hd:o.data=.seq vs.toArray n)
  (h:Q vs {s with heap:=(s.heap.push (seqObj "list" #[] 0)).update s.heap.objs.size (Obj.mapSeq (· ++ vs.toArray))}) (i:vs.length<=sizeLine) :
  wpAny (model prog w) A (collect (.ref l)) Q E s:=by
 unfold collect;erw[Sa (wpAny_runValue (codeAny_builtin entry_proto_collect' ?_))];show wpAny _ _ (do again (.builtin "list.__iadd__" ⟨[<-newList [],.ref l],[]⟩)) _ _ s;erw[Sa (wpAny_newList (Sb ⟨Code.quiet_builtin _ (),codeAny_builtin entry_list_iadd' ?_⟩))];show wpAny _ _ (Builtin.List.listExtendWith (.ref s.heap.objs.size) (.ref l) (.ref s.heap.objs.size)) _ _ {s with heap:=s.heap.push (seqObj "list" #[] 0)};unfold Builtin.List.listExtendWith;have c:(s.heap.push (seqObj "list" #[] 0)).get? l=some o:=Sc _ f;erw[Sa (wpAny_typeOf (T:=T) ⟨o,c,g⟩ ?_)];rw[SW (by rcases d with rfl|rfl<;>simp)];erw[Sa (listItems_at c hd ?_)];erw[Sa (listItems_at (xs:=#[]) (n:=0) (Sd _ R) R ?_)];rw[SV (by simp)];erw[Sa (listUpdate_at (xs:=#[]) (n:=0) (Sd _ R) R ?_ (Sk _) (by show(#[]++vs.toArray).size<=sizeLine+1;simp only[Array.size_append,SM,List.length_nil];lia))];erw[Sb ?_];show wpAny (model prog w) A (do
   let o <-load s.heap.objs.size
   match o.data with
   |.seq xs _=>pure xs.toList
   |_=>unsupported "internal:collect") Q E {s with heap:=(s.heap.push (seqObj "list" #[] 0)).update s.heap.objs.size (Obj.mapSeq (· ++ vs.toArray))}
 erw[Sa (Op (get?_update_seq (Sd _ R) _) ?_)];show wpAny _ _ (pure ((#[]:Array Value)++vs.toArray).toList) Q E _;rw[show((#[]:Array Value)++vs.toArray).toList=vs by simp];exact Sb h
def Zgp{o:Obj}{vs:OB}(u:T="list" \/ T="tuple") (y:s.heap.get? l=some o) (x:o.cls=.type T) (hd:o.data=.seq vs.toArray n) (d:StrsAre vs f) (v:vs.length<64)
  (h:∀(out:Array Value) (c:OC),StrsAre out.toList c->c.Perm f->sortedS c=true->Q (.ref (s.heap.objs.size+1)) {s with heap:=sortedAll s.heap vs out}) :
  wpAny (model prog w) A (call (.builtin "sorted") [.ref l]) Q E s:=by
 erw[Calls.call_function_entry kind_sorted plain_sorted entry_sorted (args_sorted1 _) ?_];unfold Builtin.«sorted»;erw[Sa (m:=checkCount "sorted" 1 1 _) (Sb ?_)];erw[Sa (Zgo u y x hd ?_ (by rw[sizeLine_eq];lia))];erw[Sa (wpAny_newList ?_ (by rw[sizeLine_eq];lia))];have i:((s.heap.push (seqObj "list" #[] 0)).update s.heap.objs.size (Obj.mapSeq (· ++ vs.toArray))).objs.size=s.heap.objs.size+1:=by
  rw[Heap.size_update,size_push']
 have g:(((s.heap.push (seqObj "list" #[] 0)).update s.heap.objs.size (Obj.mapSeq (· ++ vs.toArray))).push (seqObj "list" vs.toArray 0)).get? (s.heap.objs.size+1)=some (seqObj "list" vs.toArray 0):=by
  rw[<-i];exact Sd _ R
 show wpAny _ _ _ _ _ {s with heap:=((s.heap.push (seqObj "list" #[] 0)).update s.heap.objs.size (Obj.mapSeq (· ++ vs.toArray))).push (seqObj "list" vs.toArray 0)};rw[i];erw[Sa (wpAny_holding (wpAny_call_entry slot_list_sort ⟨_,g,R⟩ entry_list_sort (list_sort_treeK strKind_oneLt g d.keysOf (λI H rest e=>keyKind_strs (by rwa[<-e])) v λJ C G=>⟨_,R,?_⟩) (args_list_sort _)))];obtain⟨c,j,D,B⟩:=sorted_out_str d C G;exact Sb ⟨_,R,h _ c j D B⟩
def uQ(K:Ox):List V->Hp->VK->Prop:=λc H Q=>∃(p:Addr) (zs:OC),c=[.ref p]/\(Ze K H p (zs.map V.str)\/Zk K H p (zs.map V.str))/\zs.length<64 /\
  ∀(l:Addr) (ys:OC),H l=none->ys.Perm zs->sortedS ys=true->Q (.ref l) (Zb H l (.lst (ys.map V.str)))
def uR:Y4 X (.builtin "sorted") (uQ X.K):=by
 intro pins s P H Y Z Q I r h;ext⟨p,zs,rfl,f,y,q⟩ h;obtain⟨u,rfl,L⟩:=Wq r;cases L;have B:∀{c:OB} {T:String} {o:Obj} {n:Nat},ZB (zs.map V.str) c->(T="list" \/ T="tuple")->s.heap.get? p=some o->o.cls=.type T->o.data=.seq c.toArray n->wpAny (model X.prog X.w) X.A (call (.builtin "sorted") [.ref p]) (EP X pins P Q) X.xe s:=by
  intro c T o n d S i g hd;have O:=Zgn d;have hlen:c.length<64:=by rwa[<-d.length,Sv]
  erw[Zgp S i g hd O hlen λv j M C J=>?_];obtain⟨e,U⟩:=sortedAll_at s.heap c v;have D:(j.map V.str).length<=sizeLine:=by rw[Sv,C.length_eq];exact Sh (Nat.le_of_lt y) ()
  have E:Yi X.prog X.w (Zb H (s.heap.objs.size+1) (.lst (j.map V.str))) (sortedAll s.heap c v) (s.heap.objs.size+1) (.lst (j.map V.str)):=⟨D,v.toList,e,uP M,by rwa[Array.toArray_toList]⟩;exact⟨.ref _,_,I.laid (t':=s.toks) (λb o q=>sortedAll_old q) (Nat.le_succ _) E,R,q _ j (I.hok.fresh (Nat.le_succ _)) C J⟩
 rcases f with f|f;obtain⟨c,d,x,G⟩:=I.list f;ext⟨o,i,g,n,hd⟩ x.isList;exact B d (.inl R) i g hd;obtain⟨c,d,x,G⟩:=I.tuple f;ext⟨o,i,g,n,hd⟩ x;exact B d (.inr R) i g hd
open PySem PySem.Spec PyProof.Rows PySem.W
def uS{g:List (ZF×V)}(x:Yi P w H h d (.dK g)):g.length<=sizeLine/\(d==sysModules)=false/\∃c f,Vn h d c f/\ZB (g.map (·.2)) (c.toList.map (·.val)):=by
 ext⟨i,v,y,rel,o,c,f,e,ex,j,_,pr,nd⟩ x;erw[⟨i,v,c,f,⟨o,e,ex,j⟩,?_⟩];generalize c.toList=l at pr;clear j ex e i nd;induction rel generalizing l with
 |nil=>cases pr;exact .nil
 |cons a _ u=>cases pr with|cons _ ev r=>exact .cons (by dsimp only;rw[ev];exact a.2) (u _ r)
def Zgq:Lc X "dict.values" (λx vs H Q=>∃d f,x=.ref d/\vs=[]/\H d=some (.dK f)/\∀v,H v=none->Q (.ref v) (Zb H v (Ls v d))):=by
 intro pins s j H x vs v G Q I B i h;ext⟨d,f,rfl,rfl,hd,q⟩ h;cases B;cases i;obtain⟨D,g,J,E,c,_⟩:=uS (I.hok d _ hd);have y:EP X pins j Q (.ref s.heap.objs.size) {s with heap:=s.heap.push {cls:=.type "dict_values",data:=.fields #[.ref d]} }:=by
  have C:=I.laid (a:=s.heap.objs.size) (o:=Ls s.heap.objs.size d) (t':=s.toks) (h':=s.heap.push {cls:=.type "dict_values",data:=.fields #[.ref d]}) (λb u e=>Sc _ e) (Sg _) (Zf8 ⟨_,Sd _ R,R,R⟩);exact⟨.ref _,_,C,R,q _ (I.hok.fresh (Sg _))⟩
 erw[wpAny_call_entry F.slot_dict_values c.typeIs F.entry_dict_values ?_ (F.args_dict_values_1 _)];unfold Builtin.«dict.values»;apply Sa;unfold Builtin.Dict.noArgs;apply Sa;erw[wpAny_notOrdered_dict c.typeIs ?_];show wpAny _ _ (pure d) _ _ s;apply Sb;show wpAny _ _ (Builtin.Dict.showsAll d >>= _) _ _ s;unfold Builtin.Dict.showsAll;rw[SV (by rw[g];exact SO)];apply Sa;apply Sb;apply Sa;erw[wpAny_newObj_type ?_];apply Sb;exact⟨_,R,y⟩
def Zgr(T:X.calm=true):Y4 X (.type "list") (λxs H Q=>∃v d c,xs=[.ref v]/\H v=some (Ls v d)/\H d=some (.dK c)/\∀l,H l=none->Q (.ref l) (Zb H l (.lst (c.map (·.2))))):=by
 intro pins s σ H xs Y Q I r h;ext⟨v,d,c,rfl,y,hd,q⟩ h;obtain⟨u,rfl,J⟩:=Wq r;cases J;have O:s.heap.IsValuesView v d:=(I.hok v _ y).1;obtain⟨C,Z,f,ep,S,vals⟩:=uS (I.hok d _ hd);have hn:f.size=c.length:=by have:=vals.length;rw[Sv,Sv,Array.length_toList]at this;exact this.symm
 erw[kdl_call Zf7 (I.ok.hd T) ⟨O,S⟩ () λL tk G U kp e g=>?_];ext⟨i⟩ G;have D:i=f.toList.map (·.val):=by
  apply List.ext_getElem;have:=g.1;rw[Sv,Array.length_toList];simpa using this;intro j E x;obtain⟨M,B,P⟩:=g.2 j i[j] (by simp[E]);rw[List.getElem_map,<-P];have:f.toList[j]? = some M:=by rwa[Array.getElem?_toList]
  rw[Ss (by rw[Sv]at x;exact x)]at this;rw[So this]
 subst D;exact⟨.ref s.heap.objs.size,_,I.laid (t':=tk) kp (Sg _) (show Yi X.prog X.w _ L _ (.lst (c.map (·.2)))from⟨by rwa[Sv],_,U,vals,e⟩),R,q _ (I.hok.fresh (Sg _))⟩
end L2
namespace K1
open PySem L2
structure YI(lt:Addr)(q:Str)(H:Hp):Prop where
 ex:∃ps,H lt=some (.tbl ps)/\TriplesOk ps.toList/\∀pos v,codeAmong pos ps.toList=some v->∃a,v=.ref a/\H a=some (VL a q)
def YI.at(h:YI lt q H):∃c,H lt=some (.tbl c):=let ⟨c,e,_⟩:=h.ex;⟨c,e⟩
def YI.keep(k1:∀d,H lt=some (.tbl d)->f lt=some (.tbl d))(k2:∀a,H a=some (VL a q)->f a=some (VL a q))(h:YI lt q H):YI lt q f:=let ⟨d,e,t,c⟩:=h.ex;⟨d,k1 _ e,t,λg v e=>let ⟨a,ea,ha⟩:=c g v e;⟨a,ea,k2 _ ha⟩⟩
def YI.same(s:Zc H c)(h:YI lt q H):YI lt q c:=h.keep (λ_=>s _ _) λ_=>s _ _
def YI.nil(h:H lt=some (.tbl #[])):YI lt q H:=⟨#[],h,trivial,λ_ _ e=>by cases e⟩
def Zgs:∀{l:OB},TriplesOk l->TriplesOk (l++[rawInt a,rawInt b,c]):=by
 intro l;induction l using TriplesOk.induct with
 |case1=>exact λ_=>trivial
 |case2 i tok g u hd rest j =>
  intro h;rw[TriplesOk.eq_2]at h;show TriplesOk (Value.int i tok::Value.int g u::hd::(rest++_));rw[TriplesOk.eq_2];exact j h
 |case3 t f d =>
  intro h;rw[TriplesOk.eq_3 t f d]at h;exact h.elim
def Zgt:∀{l:OB},TriplesOk l->∀v,codeAmong d (l++[rawInt a,rawInt b,c])=some v->codeAmong d l=some v\/v=c:=by
 intro l;induction l using TriplesOk.induct with
 |case1 =>
  intro _ v e;rw[show[]++[rawInt a,rawInt b,c]=[Value.int a 0,Value.int b 0,c] from R,codeAmong.eq_1]at e;split at e;exact .inr (So e).symm;cases e
 |case2 i tok f g hd rest x =>
  intro h v e;rw[TriplesOk.eq_2]at h;rw[show(Value.int i tok::Value.int f g::hd::rest)++[rawInt a,rawInt b,c]=Value.int i tok::Value.int f g::hd::(rest++[rawInt a,rawInt b,c])from R,codeAmong.eq_1]at e;rw[codeAmong.eq_1];split at e
  ·next hc=>rw[SW hc];exact .inl e
  ·next hc=>rw[SV hc];exact x h v e
 |case3 t u j =>
  intro h;rw[TriplesOk.eq_3 t u j]at h;exact h.elim
def Zgu{params:Arguments}{body:Expr}{E:St}(h:YI lt q H)
  (k:∀(f c:Addr) (d:Value) (H':Hp),Zc (wo H lt) H'->YI lt q H'->H' f=some (V5 f q params body scope cl ((mg "__name__").getD .none) c d)->H' c=some (VL c q)->Q (.ref f) H'):Lq lt mg q params body scope cl g E H Q:=by
 ext⟨i,j,x,B⟩ h.ex;erw[⟨i,j,x,?_⟩];cases I:codeAmong g i.toList with
 |none =>
  erw[.inl ⟨R,λf c d u y ne=>?_⟩];have nf:lt≠f:=Z1 j u;have D:lt≠c:=Z1 j y;have C:(Zb (Zb (Zb H lt (.tbl (i ++ #[rawInt g.line,rawInt g.col,.ref c]))) c (VL c q)) f (V5 f q params body scope cl ((mg "__name__").getD .none) c d)) c=some (VL c q):=by
   rw[Zm (Ne.symm ne),Zj]
  have S:Zc (wo H lt) (Zb (Zb (Zb H lt (.tbl (i ++ #[rawInt g.line,rawInt g.col,.ref c]))) c (VL c q)) f (V5 f q params body scope cl ((mg "__name__").getD .none) c d)):=λa o e=>by
   obtain⟨n,e⟩:=UA e;rwa[Zm (Z1 e u),Zm (Z1 e y),Zm n]
  erw[k f c d _ S ⟨_,by rw[Zm nf,Zm D,Zj],?_,λpos' v e=>?_⟩ Zj C];rw[Array.toList_append];exact Zgs x;rw[Array.toList_append]at e;rcases Zgt x v e with e|rfl;obtain⟨a,rfl,ha⟩:=B pos' v e;exact⟨a,R,S _ _ (Z4 ha λz=>by rw[z,j]at ha;cases ha)⟩;exact⟨c,R,C⟩
 |some v =>
  obtain⟨c,rfl,G⟩:=B g v I;erw[.inr ⟨c,R,λf d u=>?_⟩];have s:=Zt u (V5 f q params body scope cl ((mg "__name__").getD .none) c d);exact k f c d _ (Nz.trans s) (h.same s) Zj (s _ _ G)
def Zgv(h:∀b o,cs b=some o->H b=none):unl cs (lent cs H)=H:=by
 funext b;cases q:cs b with
 |some o=>rw[QK q,h b o q]
 |none=>rw[W6 q,XA q]
def uT(h:∀b o,cs b=some o->H b=none)(s:Zc (lent cs H) c):Zc H (unl cs c):=λa o e=>by
 cases q:cs a with
 |some ob=>rw[h a ob q]at e;cases e
 |none=>rw[W6 q];exact s _ _ (by rwa[XA q])
theorem uU:∀{cl:Oy} {x y:Str} {c:Addr},(cl.map (·.2)).Nodup->cl.lookup x=some c->cl.lookup y=some c->x=y
 |[],_,_,_,_,h,_=>by cases h
 |(z,d)::r,x,y,c,nd,h1,f=>by
  rw[SL,Ol]at nd;rw[List.lookup_cons]at h1 f;have mem:∀{w:Str},r.lookup w=some c->c∈r.map (·.2):=λ{w} e=>SI.mpr ⟨(w,c),PySem.mem_of_lookup e,R⟩;cases i:x==z with
  |true =>
   rw[i]at h1;have u:d=c:=So h1;cases g:y==z with
   |true=>rw[eq_of_beq i,eq_of_beq g]
   |false=>rw[g]at f;exact Os (mem f) (by rw[<-u];exact nd.1)
  |false =>
   rw[i]at h1;cases g:y==z with
   |true =>
    rw[g]at f;have j:d=c:=So f;exact Os (mem h1) (by rw[<-j];exact nd.1)
   |false=>rw[g]at f;exact uU nd.2 h1 f
end K1
namespace L2
open PySem PySem.Spec PyProof.Rows
structure Yt(K:Ox)(mg:Ow)(x:Str)(st:Stmt)(ps:OC)(f:Addr)(d:OJ):Prop where
 F:WS K x x st f d
 m:mg x=some (.ref f)
 b:XF K d ps []
structure DM(K:Ox)(x:Str)(st:Stmt)(f:Addr)(d:OJ):Prop where
 a:W.nsIn K mainGlobals x=some (some (.ref f))
 F:WS K x x st f d
def YE{h:Heap}{x:Str}{st:Stmt}{i:OC}{f:Addr}{d:OJ}(X:K.In h)(G:h.Ns mainGlobals mg)(p:DM K x st f d)
  (u:∀(us:OB),us.length=i.length->∀(kV j pm:Value) (an:OF) (cdv ct:Value),bindArgs (W.fnOf x x (QI st) (Uy st) (Zz st) .none kV j pm an cdv ct) ⟨us,[]⟩=pure (i.zip us)):Yt K mg x st i f d :=
 ⟨p.F,W.mg_of X G p.a,p.F.binds λa b c d e g us l=>u us l a b c d e g⟩
structure Z6(K:Ox)(C:Addr)(x q:Str)(st:Stmt)(ps:OC)(f:Addr)(d:OJ):Prop where
 F:WS K x q st f d
 me:Ym K C x f
 b:XF K d ps []
structure MM(K:Ox)(C:Addr)(x q:Str)(st:Stmt)(f:Addr)(d:OJ):Prop where
 me:Ym K C x f
 F:WS K x q st f d
def Z9{C:Addr}{x q:Str}{st:Stmt}{h:OC}{f:Addr}{d:OJ}(p:MM K C x q st f d)
  (j:∀(us:OB),us.length=h.length->∀(kV i pm:Value) (an:OF) (cdv ct:Value),bindArgs (W.fnOf x q (QI st) (Uy st) (Zz st) .none kV i pm an cdv ct) ⟨us,[]⟩=pure (h.zip us)):Z6 K C x q st h f d :=
 ⟨p.F,p.me,p.F.binds λa b c d e g us l=>j us l a b c d e g⟩
def UY{C:Addr}{cd:ClassData}(c:W.clsIn K C=some cd)(g1:W.findIn K (.ref C) "__getattribute__"=some (some (.builtin "BaseException.__getattribute__"))) (g2:W.findIn K (.ref C) "__getattr__"=some none) (g3:W.findIn K (.ref C) "__class__"=some (some (.builtin "object.__class__"))) (g4:W.mroIn K C (.type "object")=some true) (g5:W.mroIn K C (.type "BaseException")=some true) (g6:W.specialIn K (.builtin "object.__class__") "__get__"=some (some (.builtin "getset_descriptor.__get__"))) (g7:W.takesIn K (.builtin "object.__class__")=some true):YS K C:=⟨by rw[c];rfl,g1,g2,g3,g4,g5,g6,g7⟩
def KX(K:Ox)(C:Addr):List (Addr×Bool)->Prop
 |[]=>True
 |p::L=>W.kitOne K (.ref C) (.ref p.1)=some p.2/\KX K C L
def UZ{C:Addr}:KX K C []:=trivial
def Zn{C D:Addr}{b:Bool}{L:List (Addr×Bool)}(h:W.kitOne K (.ref C) (.ref D)=some b)(r:KX K C L):KX K C ((D,b)::L):=⟨h,r⟩
def ZG{N P:OC}{i:Scope}(h:(decide (i.kind=.function) && !i.isCoroutine && !i.isGenerator && decide N.Nodup && decide (N.take P.length=P) && P.all (λx=>decide (i.names.lookup x=some .local\/i.names.lookup x=some .cell)) && i.names.all (λy=>decide (y.2≠.free)))=true):ZE N P i:=by
 simp only[Bool.and_eq_true,decide_eq_true_eq,Bool.not_eq_true',List.all_eq_true]at h;ext⟨⟨⟨⟨⟨⟨a,b⟩,c⟩,d⟩,e⟩,f⟩,g⟩ h;exact⟨a,b,c,d,e,f,g⟩
section
variable{CX:X7}{k j:Nat}{f C:Addr}{fd:OJ}{ps:OC}{sp:Sp}{E:XK}{x m q:Str}{st:Stmt}{e o:Expr}{es:OD}{t:TA}{ta:TE}{p apos:Pos}
def ZD(D:Yt X.K X.mg x st ps f fd)(F:Zp X.prog X.w X.K X.mg X.base CX k f fd ps sp)(v:Yn j X.A)(g:WJ CX X E)(ha:PA X (e::es) t)(i:k<=j:=by lia)(d:Gl X x:=by rfl)(h:(x==("__debug__" : Str))=false:=by lia) (u:starEach (e::es) X.env=(false,eval e X.env)::starEach es X.env:=by rfl) (c:(backTo pos (starEach es X.env)).any (·.1)=false:=by rfl) :
  PE X (.Call (.Name x p) (e::es) [] pos) (MQ sp [] E t):=Vg F (v.mono i) d D.m D.F.kp D.b .nil g ha h u c
end
inductive Lw(K:Ox)(xs:List V)(H:Hp)(Q:VK):Prop|mk (a C D:Addr) (b:Bool) (_:xs=[.ref a,.ref D]) (_:H a=some (Wt a (.ref C))) (_:YS K C) (_:W.kitOne K (.ref C) (.ref D)=some b) (_:Q (.bl b) H)
def Wx(h:X.K=K:=by rfl):Y4 X (.builtin "isinstance") (Lw K):=by
 subst h;intro pins s f H g j Q I r ⟨a,C,D,b,u,i,d,c,q⟩;exact ZeH pins s f H g j Q I r ⟨a,C,D,b,u,i,d,c,q⟩
inductive uV(K:Ox)(xs:List V)(H:Hp)(Q:VK):Prop|mk (a C:Addr) (T:String) (b:Bool) (_:xs=[.ref a,.ty T]) (_:H a=some (Wt a (.ref C))) (_:YS K C) (_:W.kitOne K (.ref C) (.type T)=some b) (_:Q (.bl b) H)
def Zgw(h:X.K=K:=by rfl):Y4 X (.builtin "isinstance") (uV K):=by
 subst h;intro pins s f H g j Q I r ⟨a,C,T,b,u,i,d,c,q⟩;exact ZeI pins s f H g j Q I r ⟨a,C,T,b,u,i,d,c,q⟩
def kx:X.nox.K=X.K:=rfl
def ky{CX:X7}{N:OC}{q:Str}{c:Scope}{f:Addr}{cd:Value}{o:List Env}{E:XK}:(Vz CX P w K mg base N q c f cd A o s H E).K=K:=rfl
def Sq1{f:TS}{D:Vd}{c:St}(h:let d:=D;let g:=f d;let s:=c;g s H):(f) D c H:=h
def Sq2(h:let d:=D;let i:=c d;let j:=g {d with nx:=i};let s:=f;j s H):(Yj g c) D f H:=h
def Gq2{c:St}(h:let d:=D;let j:=f d;let u:=g {d with nx:=j};let s:=c.set i (some x);u s H):YK i x c H (λc H=>(Yj g f) D c H):=h
def Sq3(h:let d:=D;let i:=t3 d;let j:=c {d with nx:=i};let u:=g {d with nx:=j};let s:=f;u s H):(Yj g (Yj c t3)) D f H:=h
def Sq4(h:let d:=D;let x:=i d;let j:=t3 {d with nx:=x};let u:=c {d with nx:=j};let v:=g {d with nx:=u};let s:=f;v s H):(Yj g (Yj c (Yj t3 i))) D f H:=h
def Sq5(h:let d:=D;let B:=g d;let y:=j {d with nx:=B};let u:=t3 {d with nx:=y};let v:=c {d with nx:=u};let x:=i {d with nx:=v};let s:=f;x s H):(Yj i (Yj c (Yj t3 (Yj j g)))) D f H:=h
def Sq6(h:let d:=D;let v:=j d;let E:=g {d with nx:=v};let C:=u {d with nx:=E};let x:=t3 {d with nx:=C};let y:=c {d with nx:=x};let B:=i {d with nx:=y};let s:=f;B s H):(Yj i (Yj c (Yj t3 (Yj u (Yj g j))))) D f H:=h
def Sq7(h:let d:=D;let y:=g d;let x:=u {d with nx:=y};let I:=i {d with nx:=x};let G:=v {d with nx:=I};let B:=t3 {d with nx:=G};let C:=c {d with nx:=B};let E:=j {d with nx:=C};let s:=f;E s H):(Yj j (Yj c (Yj t3 (Yj v (Yj i (Yj u g)))))) D f H:=h
def Gq7{c:St}(h:let d:=D;let C:=g d;let B:=v {d with nx:=C};let L:=j {d with nx:=B};let J:=y {d with nx:=L};let E:=t3 {d with nx:=J};let G:=f {d with nx:=E};let I:=u {d with nx:=G};let s:=c.set i (some x);I s H):YK i x c H (λc H=>(Yj u (Yj f (Yj t3 (Yj y (Yj j (Yj v g)))))) D c H):=h
def Sq10(h:let d:=D;let E:=j d;let P:=i {d with nx:=E};let M:=B {d with nx:=P};let Q:=u {d with nx:=M};let C:=y {d with nx:=Q};let J:=v {d with nx:=C};let O:=f {d with nx:=J};let G:=t3 {d with nx:=O};let L:=c {d with nx:=G};let I:=g {d with nx:=L};let s:=x;I s H):(Yj g (Yj c (Yj t3 (Yj f (Yj v (Yj y (Yj u (Yj B (Yj i j))))))))) D x H:=h
section
variable{a b c e o i:Expr}{es:OD}{ta tb td ty te:TE}{t:TA}{r:R2}{op:CmpOp}{pos' p:Pos}{x:Str}
def Zh(h1:PE X d f)(g:YW d=true:=by rfl):PA X [d] (ZU f YP):=(ZM h1 YG g)
def Zq(h1:PE X d h)(j:PE X f g)(v:YW d=true:=by rfl)(u:YW f=true:=by rfl):PA X [d,f] (ZU h (ZU g YP)):=(ZM h1 (ZM j YG u) v)
def Z5(h1:PE X d j)(u:PE X g h)(B:PE X f t3)(y:YW d=true:=by rfl)(v:YW g=true:=by rfl)(C:YW f=true:=by rfl):PA X [d,g,f] (ZU j (ZU h (ZU t3 YP))):=(ZM h1 (ZM u (ZM B YG C) v) y)
def X1(h1:PE X d u)(y:PE X h j)(E:PE X g t3)(B:PE X f v)(D:YW d=true:=by rfl)(C:YW h=true:=by rfl)(H:YW g=true:=by rfl)(G:YW f=true:=by rfl):PA X [d,h,g,f] (ZU u (ZU j (ZU t3 (ZU v YP)))):=(ZM h1 (ZM y (ZM E (ZM B YG G) H) C) D)
def uW(h1:PE X d y)(D:PE X h u)(J:PE X g t3)(E:PE X f B)(C:PE X j v)(I:YW d=true:=by rfl)(H:YW h=true:=by rfl)(M:YW g=true:=by rfl)(L:YW f=true:=by rfl)(G:YW j=true:=by rfl):PA X [d,h,g,f,j] (ZU y (ZU u (ZU t3 (ZU B (ZU v YP))))):=(ZM h1 (ZM D (ZM J (ZM E (ZM C YG G) L) M) H) I)
def uX(h1:PE X u B)(G:PE X h v)(I:PE X g t3)(H:PE X d y)(O:PE X j C)(M:PE X f D)(L:YW u=true:=by rfl)(Q:YW h=true:=by rfl)(J:YW g=true:=by rfl)(S:YW d=true:=by rfl)(E:YW j=true:=by rfl)(P:YW f=true:=by rfl):PA X [u,h,g,d,j,f] (ZU B (ZU v (ZU t3 (ZU y (ZU C (ZU D YP)))))):=(ZM h1 (ZM G (ZM I (ZM H (ZM O (ZM M YG P) E) S) J) Q) L)
def J0{E : TE}(h1:PE X v C)(J:PE X h y)(M:PE X g t3)(L:PE X d B)(T:PE X j E)(Q:PE X f G)(I:PE X u D)(S:YW v=true:=by rfl)(Y:YW h=true:=by rfl)(O:YW g=true:=by rfl)(Z:YW d=true:=by rfl)(H:YW j=true:=by rfl)(U:YW f=true:=by rfl)(P:YW u=true:=by rfl):PA X [v,h,g,d,j,f,u] (ZU C (ZU y (ZU t3 (ZU B (ZU E (ZU G (ZU D YP))))))):=(ZM h1 (ZM J (ZM M (ZM L (ZM T (ZM Q (ZM I YG P) U) H) Z) O) Y) S)
def Zr(d:Xt X r)(ha:PE X a ta)(g:PE X b tb)(f:xW b:=by exact λ_ _=>R):PE X (.Subscript a b pos) (W2 r ta tb):=Vh d ha g f
def Yu(d:Yn k X.A)(g:PE X o td)(hi:PE X i ty)(f:Nw i:=by exact λ_ _=>R):PE X (.Subscript o i pos) (uA td ty):=ZfS (W3 d) g hi f
def ZA(k:Nat)(f:X.N.Nodup)(g:PE X e te)(hi:X.N[k]? = some x:=by rfl)(d:QE X.env.scope x:=by first|exact .inl rfl|exact .inr rfl)(j:swapsWith e (some (.Name x pos')) pos.line X.env=pure false:=by rfl)(h:X.fn x=true\/X.env.scope.names.lookup x=some .local:=by first|exact .inl rfl|exact .inr rfl|assumption):PS X (.Assign [.Name x pos'] e pos) (QF te (YK k)):=Zde f hi d g j h
def Yl(k:Nat)(d:X.N.Nodup)(hi:X.N[k]? = some x:=by rfl)(g:QE X.env.scope x:=by first|exact .inl rfl|exact .inr rfl)(f:X.fn x=true\/X.env.scope.names.lookup x=some .local:=by first|exact .inl rfl|exact .inr rfl|assumption):PG X (.Name x pos) (YK k):=MH d hi g f
def W8{iter : Expr}{body:List Stmt}{tb:TS}(hi:PI X d iter f)(u:PG X d g)(y:XV X body tb)(h:PassesOwn (model X.prog X.w) X.A X.env X.xe:=by exact PassesOwn.never)(j:X.calm=true:=by rfl)(v:∀x,foldedSetIterable iter X.env x=pure x:=by intro _;rfl):PS X (.For d iter body [] pos) (yT f g tb):=yU h j hi u y v
def ZZ(g:YB X (compareOp op) r)(ha:PE X a ta)(d:PE X b tb)(h:op≠.In:=by lia)(f:op≠.NotIn:=by lia):PT X (.Compare a [op] [b] pos) (MO (W2 r ta tb)):=K8 g ha d (Xq _ h f)
def ZN{id:String}{r:List V->Hp->VK->Prop}(j:Y4 X (.builtin id) r)(hm:X.mg x=none)(h:bootBuiltins x=some (.builtin id))(ha:PA X (e::es) t)(u:Gl X x:=by rfl)(hn:x ≠ "__name__" := by lia) (f:(x==("__debug__" : Str))=false:=by lia) (g:starEach (e::es) X.env=(false,eval e X.env)::starEach es X.env:=by rfl) (d:(backTo pos (starEach es X.env)).any (·.1)=false:=by rfl):PE X (.Call (.Name x p) (e::es) [] pos) (VY r t):=xR j u hm h ha hn f g d
end
end L2
local macro_rules|`(tactic| sleep $n) => `(tactic| ((try dsimp only[L2.kx, L2.ky]); erw[$(Lean.mkIdent (.str (.str .anonymous "L2") (if n.getNat<99 then s!"Sq{n.getNat}" else s!"Gq{n.getNat-100}"))) ?_]; intros))
namespace K06
open PySem L2 K1
seal PySem.wpAny
def top(i:Nat):Stmt:=PySem.Challenge.pw_roadbook_k06_nets_put_together.main.body.getD i (.Pass ⟨0,0,0,0⟩)
abbrev NG:Stmt:=top 23
def Zgx:ZE ["value"] ["value"] (Zz NG):=ZG ()
abbrev NH:Stmt:=top 24
def Zgy:ZE ["value","least","most"] ["value","least","most"] (Zz NH):=ZG ()
abbrev NI:Stmt:=top 25
def Zgz:ZE ["value","least","most"] ["value","least","most"] (Zz NI):=ZG ()
abbrev NJ:Stmt:=top 26
def Qq:ZE ["values","longest","least","most","floor","value"] ["values","longest","least","most"] (Zz NJ):=ZG ()
abbrev NK:Stmt:=top 27
def ZgA:ZE ["value"] ["value"] (Zz NK):=ZG ()
abbrev NL:Stmt:=top 28
def ZgB:ZE ["value","named"] ["value","named"] (Zz NL):=ZG ()
abbrev NM:Stmt:=top 38
def uY:ZE ["rule"] ["rule"] (Zz NM):=ZG ()
abbrev NN:Stmt:=top 39
def ZgC:ZE ["rule"] ["rule"] (Zz NN):=ZG ()
abbrev NO:Stmt:=top 60
def ZgD:ZE ["name","named"] ["name","named"] (Zz NO):=ZG ()
abbrev NP:Stmt:=top 61
def uZ:ZE ["kept","most"] ["kept","most"] (Zz NP):=ZG ()
abbrev NQ:Stmt:=top 62
def ZgE:ZE ["calls"] ["calls"] (Zz NQ):=ZG ()
abbrev NR:Stmt:=top 63
def ZgF:ZE ["call","ahead"] ["call","ahead"] (Zz NR):=ZG ()
abbrev NT:Stmt:=top 66
def ZgG:ZE ["_law_script","_law_k"] ["_law_script","_law_k"] (Zz NT):=ZG ()
abbrev NU:Stmt:=top 67
def qA:ZE ["_law_cell","_law_k","_law_number"] ["_law_cell","_law_k"] (Zz NU):=ZG ()
abbrev NV:Stmt:=top 68
def ZgH:ZE ["_law_thing","_law_least","_law_most"] ["_law_thing","_law_least","_law_most"] (Zz NV):=ZG ()
abbrev NX:Stmt:=top 69
def Lx:ZE ["_law_seed","_law_k","_law_letters","_law_tail","_law_at"] ["_law_seed","_law_k"] (Zz NX):=ZG ()
abbrev NY:Stmt:=top 70
def ZgI:ZE ["_law_thing"] ["_law_thing"] (Zz NY):=ZG ()
abbrev NZ:Stmt:=top 71
def Ua:ZE ["_law_call","e","_law_found"] ["_law_call"] (Zz NZ):=ZG ()
abbrev N9:Stmt:=top 72
def B8:ZE ["_law_number","_law_deep","_law_more","_law_way","_law_starts","_law_inner"] ["_law_number","_law_deep"] (Zz N9):=ZG ()
abbrev Pa:Stmt:=top 73
def qB:ZE ["_law_told"] ["_law_told"] (Zz Pa):=ZG ()
abbrev Pb:Stmt:=top 74
def Pc:ZE ["_law_told","_law_day","_law_one_here","_law_other"] ["_law_told","_law_day"] (Zz Pb):=ZG ()
abbrev Pd:Stmt:=top 75
def Ub:ZE ["_law_number","_law_stops","_law_many","_law_found","_law_time","_law_last","_law_k","_law_mixed_here","_law_left","_law_arrive","_law_leave"] ["_law_number","_law_stops","_law_many"] (Zz Pd):=ZG ()
abbrev Pe:Stmt:=top 76
def ZgJ:ZE [] [] (Zz Pe):=ZG ()
abbrev Pf:Stmt:=top 77
def ZgK:ZE ["_law_name_here","_law_kept"] ["_law_name_here","_law_kept"] (Zz Pf):=ZG ()
abbrev Pg:Stmt:=top 78
def ZgL:ZE ["_law_thing"] ["_law_thing"] (Zz Pg):=ZG ()
abbrev Ph:Stmt:=top 79
def Ly:ZE ["_law_world_here","_law_given_here","_law_due"] ["_law_world_here","_law_given_here"] (Zz Ph):=ZG ()
abbrev Pi:Stmt:=top 80
def B9:ZE ["_law_world_here","_law_given_here","_law_one_here","_law_other","_law_minutes","_law_name_here","_law_pairs"] ["_law_world_here","_law_given_here"] (Zz Pi):=ZG ()
abbrev Pj:Stmt:=top 81
def Lz:ZE ["_law_world_here","_law_name_here","_law_told","_law_due"] ["_law_world_here","_law_name_here","_law_told"] (Zz Pj):=ZG ()
abbrev Pk:Stmt:=top 82
def J1:ZE ["_law_world_here","_law_given_here","_law_due","_law_good"] ["_law_world_here","_law_given_here"] (Zz Pk):=ZG ()
abbrev Pl:Stmt:=top 83
def LA:ZE ["_law_world_here","_law_given_here","_law_due"] ["_law_world_here","_law_given_here"] (Zz Pl):=ZG ()
abbrev Pm:Stmt:=top 84
def WT:ZE ["_law_world_here","_law_names","_law_mixed_here","_law_sort","_law_name_here","_law_more","_law_odd_name","_law_odd","_law_at","_law_given_here","_law_some","_law_stops","_law_wants"] ["_law_world_here","_law_names","_law_mixed_here"] (Zz Pm):=ZG ()
abbrev Pn:Stmt:=top 85
def W9:ZE ["_law_net","_law_world_here","_law_sort","_law_given_here","_law_found","_law_due","_law_rule_here","_law_zones","_law_calls_here"] ["_law_net","_law_world_here","_law_sort","_law_given_here"] (Zz Pn):=ZG ()
abbrev Po:Stmt:=top 86
def XJ:ZE ["_law_net","_law_world_here","_law_way","_law_olds","_law_found","_law_due","_law_told","_law_good","_law_name_here","_law_days_here","_law_ticket","_law_trip"] ["_law_net","_law_world_here","_law_way","_law_olds"] (Zz Po):=ZG ()
abbrev Pp:Stmt:=top 87
def Pq:ZE ["_law_net","_law_world_here","_law_turn","_law_olds","_law_order"] ["_law_net","_law_world_here","_law_turn","_law_olds"] (Zz Pp):=ZG ()
abbrev Ps:Stmt:=top 88
def Pu:ZE ["_law_net","_law_names","_law_mixed_here","_law_odd","_law_asked"] ["_law_net","_law_names","_law_mixed_here"] (Zz Ps):=ZG ()
abbrev Pv:Stmt:=top 89
def UC:ZE ["_law_net","_law_world_here","_law_seed","_law_names","_law_k","_law_stops","_law_rules","_law_calls_here"] ["_law_net","_law_world_here","_law_seed"] (Zz Pv):=ZG ()
abbrev Pw:Stmt:=top 90
def Va:ZE ["_law_script","_law_seed","_law_names","_law_nets","_law_worlds","_law_olds","_law_k","_law_cell","_law_mixed_here","_law_at","_law_sort","_law_given_here","_law_turn"] ["_law_script"] (Zz Pw):=ZG ()
abbrev Px:Stmt:=Z8 (top 40) 0
def ZgM:ZE ["self"] ["self"] (Zz Px):=ZG ()
abbrev Py:Stmt:=Z8 (top 40) 1
def ZgN:ZE ["self"] ["self"] (Zz Py):=ZG ()
abbrev Pz:Stmt:=Z8 (top 40) 2
def ZgO:ZE ["self","day"] ["self","day"] (Zz Pz):=ZG ()
abbrev PB:Stmt:=Z8 (top 40) 4
def qC:ZE ["self"] ["self"] (Zz PB):=ZG ()
abbrev PD:Stmt:=Z8 (top 40) 5
def qD:ZE ["self"] ["self"] (Zz PD):=ZG ()
abbrev PF:Stmt:=Z8 (top 41) 0
def ZgP:ZE ["self","bits"] ["self","bits"] (Zz PF):=ZG ()
abbrev PH:Stmt:=Z8 (top 41) 1
def ZgQ:ZE ["self"] ["self"] (Zz PH):=ZG ()
abbrev PJ:Stmt:=Z8 (top 41) 2
def ZgR:ZE ["self","day"] ["self","day"] (Zz PJ):=ZG ()
abbrev PL:Stmt:=Z8 (top 42) 0
def ZgS:ZE ["self","first","last","rule"] ["self","first","last","rule"] (Zz PL):=ZG ()
abbrev PM:Stmt:=Z8 (top 42) 1
def qE:ZE ["self"] ["self"] (Zz PM):=ZG ()
abbrev PN:Stmt:=Z8 (top 42) 2
def ZgT:ZE ["self"] ["self"] (Zz PN):=ZG ()
abbrev PP:Stmt:=Z8 (top 42) 3
def qF:ZE ["self","day"] ["self","day"] (Zz PP):=ZG ()
abbrev PQ:Stmt:=Z8 (top 43) 0
def ZgU:ZE ["self","length","starts"] ["self","length","starts"] (Zz PQ):=ZG ()
abbrev PR:Stmt:=Z8 (top 43) 1
def ZgV:ZE ["self"] ["self"] (Zz PR):=ZG ()
abbrev PU:Stmt:=Z8 (top 43) 2
def ZgW:ZE ["self","day"] ["self","day"] (Zz PU):=ZG ()
abbrev PV:Stmt:=Z8 (top 44) 0
def ZgX:ZE ["self","one","other"] ["self","one","other"] (Zz PV):=ZG ()
abbrev PX:Stmt:=Z8 (top 44) 1
def qG:ZE ["self"] ["self"] (Zz PX):=ZG ()
abbrev PY:Stmt:=Z8 (top 44) 2
def ZgY:ZE ["self"] ["self"] (Zz PY):=ZG ()
abbrev PZ:Stmt:=Z8 (top 44) 3
def qH:ZE ["self","day"] ["self","day"] (Zz PZ):=ZG ()
abbrev P0:Stmt:=Z8 (top 45) 0
def ZgZ:ZE ["self","one","other"] ["self","one","other"] (Zz P0):=ZG ()
abbrev P1:Stmt:=Z8 (top 45) 1
def qI:ZE ["self"] ["self"] (Zz P1):=ZG ()
abbrev P2:Stmt:=Z8 (top 45) 2
def Zg0:ZE ["self"] ["self"] (Zz P2):=ZG ()
abbrev P3:Stmt:=Z8 (top 45) 3
def qJ:ZE ["self","day"] ["self","day"] (Zz P3):=ZG ()
abbrev P4:Stmt:=Z8 (top 46) 0
def Zg1:ZE ["self","days","rule"] ["self","days","rule"] (Zz P4):=ZG ()
abbrev P5:Stmt:=Z8 (top 46) 1
def qK:ZE ["self"] ["self"] (Zz P5):=ZG ()
abbrev P6:Stmt:=Z8 (top 46) 2
def Zg2:ZE ["self"] ["self"] (Zz P6):=ZG ()
abbrev P7:Stmt:=Z8 (top 46) 3
def qL:ZE ["self","day"] ["self","day"] (Zz P7):=ZG ()
abbrev P8:Stmt:=Z8 (top 64) 0
def Zg3:ZE ["self"] ["self"] (Zz P8):=ZG ()
abbrev P9:Stmt:=Z8 (top 64) 2
def Zg4:ZE ["self","name","zone","change"] ["self","name","zone","change"] (Zz P9):=ZG ()
abbrev Ra:Stmt:=Z8 (top 64) 3
def Zg5:ZE ["self","one","other","minutes"] ["self","one","other","minutes"] (Zz Ra):=ZG ()
abbrev Rb:Stmt:=Z8 (top 64) 4
def qM:ZE ["self","name","rule","kept"] ["self","name","rule"] (Zz Rb):=ZG ()
abbrev Rc:Stmt:=Z8 (top 64) 5
def Zg6:ZE ["self","name","price","lasts","zones"] ["self","name","price","lasts","zones"] (Zz Rc):=ZG ()
abbrev Re:Stmt:=Z8 (top 64) 6
def Rf:ZE ["self","name","rule","calls","number","call"] ["self","name","rule","calls"] (Zz Re):=ZG ()
abbrev Rg:Stmt:=Z8 (top 64) 7
def Zg7:ZE ["self","name"] ["self","name"] (Zz Rg):=ZG ()
abbrev Rh:Stmt:=Z8 (top 64) 8
def Zg8:ZE ["self","name"] ["self","name"] (Zz Rh):=ZG ()
abbrev Ri:Stmt:=Z8 (top 64) 9
def Zg9:ZE ["self","call"] ["self","call"] (Zz Ri):=ZG ()
abbrev Rj:Stmt:=Z8 (top 64) 10
def Zha:ZE ["self","one","other"] ["self","one","other"] (Zz Rj):=ZG ()
abbrev Rk:Stmt:=Z8 (top 64) 11
def Zhb:ZE ["self"] ["self"] (Zz Rk):=ZG ()
abbrev Rl:Stmt:=Z8 (top 64) 12
def Zhc:ZE ["self"] ["self"] (Zz Rl):=ZG ()
abbrev Rm:Stmt:=Z8 (top 64) 13
def Zhd:ZE ["self"] ["self"] (Zz Rm):=ZG ()
abbrev Rn:Stmt:=Z8 (top 64) 14
def Zhe:ZE ["self"] ["self"] (Zz Rn):=ZG ()
abbrev Ro:Stmt:=Z8 (top 64) 15
def Zhf:ZE ["self"] ["self"] (Zz Ro):=ZG ()
abbrev Rp:Stmt:=Z8 (top 64) 16
def Zhg:ZE ["self","stop"] ["self","stop"] (Zz Rp):=ZG ()
abbrev Rq:Stmt:=Z8 (top 64) 17
def Zhh:ZE ["self","stop"] ["self","stop"] (Zz Rq):=ZG ()
abbrev Rr:Stmt:=Z8 (top 64) 18
def Zhi:ZE ["self","name"] ["self","name"] (Zz Rr):=ZG ()
abbrev Rs:Stmt:=Z8 (top 64) 19
def qN:ZE ["self","name","row"] ["self","name"] (Zz Rs):=ZG ()
abbrev Rt:Stmt:=Z8 (top 64) 20
def Zhj:ZE ["self","trip"] ["self","trip"] (Zz Rt):=ZG ()
abbrev Ru:Stmt:=Z8 (top 64) 21
def Zhk:ZE ["self","trip"] ["self","trip"] (Zz Ru):=ZG ()
def Zhl:bootBuiltins "ValueError"=some (.type "ValueError"):=by lia
def Rv:bootBuiltins "all"=some (.builtin "all"):=by lia
def Zhm:bootBuiltins "any"=some (.builtin "any"):=by lia
def qO:bootBuiltins "bool"=some (.type "bool"):=by lia
def Xu:bootBuiltins "int"=some (.type "int"):=by lia
def Yx:bootBuiltins "isinstance"=some (.builtin "isinstance"):=by lia
def XM:bootBuiltins "len"=some (.builtin "len"):=by lia
def YT:bootBuiltins "list"=some (.type "list"):=by lia
def Zhn:bootBuiltins "max"=some (.builtin "max"):=by lia
def Rw:bootBuiltins "set"=some (.type "set"):=by lia
def J2:bootBuiltins "sorted"=some (.builtin "sorted"):=by lia
def Rx:bootBuiltins "str"=some (.type "str"):=by lia
def Zho:bootBuiltins "sum"=some (.builtin "sum"):=by lia
def U0:bootBuiltins "tuple"=some (.type "tuple"):=by lia
set_option genInjectivity false in
structure Ya where
 qP:Addr
 qQ:FuncData
 qR:Addr
 qS:FuncData
 qT:Addr
 qU:FuncData
 Ry:Addr
 Rz:FuncData
 qV:Addr
 qW:FuncData
 qX:Addr
 qY:FuncData
 RA:Addr
 RB:FuncData
 qZ:Addr
 jA:FuncData
 jB:Addr
 jC:FuncData
 RD:Addr
 RE:FuncData
 jD:Addr
 jE:FuncData
 jF:Addr
 jG:FuncData
 jH:Addr
 jI:FuncData
 jJ:Addr
 jK:FuncData
 jL:Addr
 jM:FuncData
 jN:Addr
 jO:FuncData
 jP:Addr
 jQ:FuncData
 jR:Addr
 jS:FuncData
 jT:Addr
 jU:FuncData
 jV:Addr
 jW:FuncData
 jX:Addr
 jY:FuncData
 jZ:Addr
 kA:FuncData
 kB:Addr
 kC:FuncData
 kD:Addr
 kE:FuncData
 kF:Addr
 kG:FuncData
 kI:Addr
 kJ:FuncData
 kK:Addr
 kL:FuncData
 kM:Addr
 kN:FuncData
 kO:Addr
 kP:FuncData
 kQ:Addr
 kR:FuncData
 kS:Addr
 kT:FuncData
 kU:Addr
 RF:FuncData
 kW:Addr
 kX:FuncData
 kY:Addr
 kZ:FuncData
 gA:Addr
 RG:FuncData
 gB:Addr
 gC:FuncData
 gD:Addr
 RH:FuncData
 RI:Addr
 RJ:FuncData
 LB:Addr
 gE:FuncData
 RK:Addr
 RL:FuncData
 U1:Addr
 gF:FuncData
 U2:Addr
 gG:FuncData
 LD:Addr
 RM:FuncData
 RO:Addr
 RP:FuncData
 RQ:Addr
 RR:FuncData
 LF:Addr
 RS:FuncData
 RU:Addr
 RV:FuncData
 gH:Addr
 gI:FuncData
 RW:Addr
 RX:FuncData
 LG:Addr
 RY:FuncData
 RZ:Addr
 R0:FuncData
 R1:Addr
 R4:FuncData
 LH:Addr
 R5:FuncData
 R6:Addr
 R7:FuncData
 gJ:Addr
 gK:FuncData
 R8:Addr
 R9:FuncData
 LI:Addr
 Ta:FuncData
 Tb:Addr
 Td:FuncData
 gL:Addr
 gM:FuncData
 Te:Addr
 Tf:FuncData
 LJ:Addr
 Tg:FuncData
 Th:Addr
 Ti:FuncData
 gN:Addr
 gO:FuncData
 Tj:Addr
 Tk:FuncData
 Tn:Addr
 gQ:FuncData
 gU:Addr
 gX:FuncData
 gY:Addr
 gZ:FuncData
 Zaa:Addr
 Zab:FuncData
 Zac:Addr
 Zad:FuncData
 Zae:Addr
 Zaf:FuncData
 Zag:Addr
 Zah:FuncData
 Zai:Addr
 Zaj:FuncData
 Zak:Addr
 Zal:FuncData
 Zam:Addr
 Zan:FuncData
 Zao:Addr
 Zap:FuncData
 Zaq:Addr
 Zar:FuncData
 Zas:Addr
 Zat:FuncData
 Zau:Addr
 Zav:FuncData
 Zaw:Addr
 Zax:FuncData
 Zay:Addr
 Zaz:FuncData
 ZaA:Addr
 ZaB:FuncData
 ZaC:Addr
 ZaD:FuncData
 ZaE:Addr
 ZaF:FuncData
 ZaG:Addr
 ZaH:FuncData
 ZaI:Addr
 ZaJ:FuncData
 Uc:Addr
 Ud:Addr
 Wd:Addr
 X2:Addr
 We:Addr
 Wf:Addr
 X3:Addr
 Wh:Addr
 Wi:Addr
 XN:Addr
 Wj:Addr
 Ue:Addr
 Uf:Addr
 Ug:Addr
 Uh:Addr
 Ui:Addr
 Uj:Addr
 Uk:Addr
 Y6:Addr
 Vo:Addr
 X4:Addr
 WU:Addr
 XO:Addr
 XQ:Addr
 Wy:Addr
 ZP:Addr
 C0:Addr
 YR:Addr
 J3:Addr
 Xg:Addr
 kf:W.Frag
structure Zy(K:Ox)(mg:Ow)(t:Ya):Prop where
 Zhp:mg "ValueError"=none
 Tq:mg "all"=none
 Zhq:mg "any"=none
 ZaK:mg "bool"=none
 ZaL:mg "enumerate"=none
 Xv:mg "int"=none
 Yy:mg "isinstance"=none
 XR:mg "len"=none
 YU:mg "list"=none
 Zhr:mg "max"=none
 Ul:mg "range"=none
 Tu:mg "set"=none
 J4:mg "sorted"=none
 Tv:mg "str"=none
 Zhs:mg "sum"=none
 U3:mg "tuple"=none
 Zht:∃tk,mg "LETTERS"=some (.str (OK "abcdefghijklmnopqrstuvwxyz") tk)
 Zhu:∃tk,mg "MOST_LETTERS"=some (.int 8 tk)
 Tw:∃tk,mg "LAST_DAY"=some (.int 9999 tk)
 ZaM:∃tk,mg "LAST_MINUTE"=some (.int 2879 tk)
 Zhv:∃tk,mg "WEEK_DAYS"=some (.int 7 tk)
 Zhw:∃tk,mg "ALL_WEEK"=some (.int 127 tk)
 Zhx:∃tk,mg "MOST_LENGTH"=some (.int 28 tk)
 ZaN:∃tk,mg "MOST_LISTED"=some (.int 12 tk)
 Zhy:∃tk,mg "MOST_WEIGHT"=some (.int 15 tk)
 Zhz:∃tk,mg "MOST_DEPTH"=some (.int 8 tk)
 ZhA:∃tk,mg "MOST_STOPS"=some (.int 8 tk)
 ZhB:∃tk,mg "MOST_WALKS"=some (.int 12 tk)
 ZhC:∃tk,mg "MOST_RULES"=some (.int 6 tk)
 ZhD:∃tk,mg "MOST_TICKETS"=some (.int 3 tk)
 ZhE:∃tk,mg "MOST_TRIPS"=some (.int 10 tk)
 TB:∃tk,mg "LAST_ZONE"=some (.int 6 tk)
 ZhF:∃tk,mg "MOST_CHANGE"=some (.int 30 tk)
 ZhG:∃tk,mg "MOST_WALKED"=some (.int 60 tk)
 ZhH:∃tk,mg "MOST_PRICE"=some (.int 10000 tk)
 ZhI:∃tk,mg "MOST_LASTING"=some (.int 1440 tk)
 ZhJ:∃tk,mg "LEAST_CALLS"=some (.int 2 tk)
 ZhK:∃tk,mg "MOST_CALLS"=some (.int 6 tk)
 ZaO:Yt K mg "is_any_number" NG ["value"] t.qP t.qQ
 Qr:Yt K mg "is_number" NH ["value","least","most"] t.qR t.qS
 Qs:Yt K mg "check_number" NI ["value","least","most"] t.qT t.qU
 J5:Yt K mg "are_rising" NJ ["values","longest","least","most"] t.Ry t.Rz
 ZaP:Yt K mg "is_name" NK ["value"] t.qV t.qW
 C2:Yt K mg "is_known" NL ["value","named"] t.qX t.qY
 UD:Yt K mg "copy_of" NM ["rule"] t.RA t.RB
 J6:Yt K mg "check_size" NN ["rule"] t.qZ t.jA
 J7:Yt K mg "check_new" NO ["name","named"] t.jB t.jC
 QM:Yt K mg "check_room" NP ["kept","most"] t.RD t.RE
 ZaQ:Yt K mg "have_calls_form" NQ ["calls"] t.jD t.jE
 ZaR:Yt K mg "can_follow" NR ["call","ahead"] t.jF t.jG
 ZaS:Yt K mg "_law_cell_at" NT ["_law_script","_law_k"] t.jH t.jI
 C3:Yt K mg "_law_mixed" NU ["_law_cell","_law_k"] t.jJ t.jK
 QN:Yt K mg "_law_among" NV ["_law_thing","_law_least","_law_most"] t.jL t.jM
 TC:Yt K mg "_law_name" NX ["_law_seed","_law_k"] t.jN t.jO
 LK:Yt K mg "_law_is_name" NY ["_law_thing"] t.jP t.jQ
 YQ:Yt K mg "_law_said" NZ ["_law_call"] t.jR t.jS
 U4:Yt K mg "_law_days" N9 ["_law_number","_law_deep"] t.jT t.jU
 XB:Yt K mg "_law_rule" Pa ["_law_told"] t.jV t.jW
 WV:Yt K mg "_law_runs" Pb ["_law_told","_law_day"] t.jX t.jY
 TD:Yt K mg "_law_calls" Pd ["_law_number","_law_stops","_law_many"] t.jZ t.kA
 QO:Yt K mg "_law_world" Pe [] t.kB t.kC
 J8:Yt K mg "_law_fresh" Pf ["_law_name_here","_law_kept"] t.kD t.kE
 ZaT:Yt K mg "_law_are_zones" Pg ["_law_thing"] t.kF t.kG
 ZaU:Yt K mg "_law_due_stop" Ph ["_law_world_here","_law_given_here"] t.kI t.kJ
 ZaV:Yt K mg "_law_due_walk" Pi ["_law_world_here","_law_given_here"] t.kK t.kL
 ZaW:Yt K mg "_law_due_rule" Pj ["_law_world_here","_law_name_here","_law_told"] t.kM t.kN
 ZaX:Yt K mg "_law_due_ticket" Pk ["_law_world_here","_law_given_here"] t.kO t.kP
 ZaY:Yt K mg "_law_due_trip" Pl ["_law_world_here","_law_given_here"] t.kQ t.kR
 ZaZ:Yt K mg "_law_given" Pm ["_law_world_here","_law_names","_law_mixed_here"] t.kS t.kT
 UE:Yt K mg "_law_put" Pn ["_law_net","_law_world_here","_law_sort","_law_given_here"] t.kU t.RF
 Za0:Yt K mg "_law_one" Po ["_law_net","_law_world_here","_law_way","_law_olds"] t.kW t.kX
 TF:Yt K mg "_law_stands" Pp ["_law_net","_law_world_here","_law_turn","_law_olds"] t.kY t.kZ
 Za1:Yt K mg "_law_not_there" Ps ["_law_net","_law_names","_law_mixed_here"] t.gA t.RG
 Za2:Yt K mg "_law_filled" Pv ["_law_net","_law_world_here","_law_seed"] t.gB t.gC
 TH:Yt K mg "law" Pw ["_law_script"] t.gD t.RH
 TJ:Z6 K t.Y6 "copied" "Rule.copied" Px ["self"] t.RI t.RJ
 J9:Z6 K t.Y6 "parts" "Rule.parts" Py ["self"] t.LB t.gE
 TK:Z6 K t.Y6 "runs" "Rule.runs" Pz ["self","day"] t.RK t.RL
 Ka:Z6 K t.Y6 "weight" "Rule.weight" PB ["self"] t.U1 t.gF
 Kb:Z6 K t.Y6 "depth" "Rule.depth" PD ["self"] t.U2 t.gG
 TL:Z6 K t.Vo "__init__" "Week.__init__" PF ["self","bits"] t.LD t.RM
 TM:Z6 K t.Vo "copied" "Week.copied" PH ["self"] t.RO t.RP
 TN:Z6 K t.Vo "runs" "Week.runs" PJ ["self","day"] t.RQ t.RR
 TQ:Z6 K t.X4 "__init__" "Span.__init__" PL ["self","first","last","rule"] t.LF t.RS
 LL:Z6 K t.X4 "copied" "Span.copied" PM ["self"] t.RU t.RV
 TR:Z6 K t.X4 "parts" "Span.parts" PN ["self"] t.gH t.gI
 LM:Z6 K t.X4 "runs" "Span.runs" PP ["self","day"] t.RW t.RX
 TU:Z6 K t.WU "__init__" "Each.__init__" PQ ["self","length","starts"] t.LG t.RY
 TV:Z6 K t.WU "copied" "Each.copied" PR ["self"] t.RZ t.R0
 TW:Z6 K t.WU "runs" "Each.runs" PU ["self","day"] t.R1 t.R4
 TX:Z6 K t.XO "__init__" "Either.__init__" PV ["self","one","other"] t.LH t.R5
 LN:Z6 K t.XO "copied" "Either.copied" PX ["self"] t.R6 t.R7
 TY:Z6 K t.XO "parts" "Either.parts" PY ["self"] t.gJ t.gK
 LO:Z6 K t.XO "runs" "Either.runs" PZ ["self","day"] t.R8 t.R9
 TZ:Z6 K t.XQ "__init__" "Both.__init__" P0 ["self","one","other"] t.LI t.Ta
 LP:Z6 K t.XQ "copied" "Both.copied" P1 ["self"] t.Tb t.Td
 T0:Z6 K t.XQ "parts" "Both.parts" P2 ["self"] t.gL t.gM
 LQ:Z6 K t.XQ "runs" "Both.runs" P3 ["self","day"] t.Te t.Tf
 T1:Z6 K t.Wy "__init__" "But.__init__" P4 ["self","days","rule"] t.LJ t.Tg
 LR:Z6 K t.Wy "copied" "But.copied" P5 ["self"] t.Th t.Ti
 T4:Z6 K t.Wy "parts" "But.parts" P6 ["self"] t.gN t.gO
 LS:Z6 K t.Wy "runs" "But.runs" P7 ["self","day"] t.Tj t.Tk
 T5:Z6 K t.ZP "__init__" "Net.__init__" P8 ["self"] t.Tn t.gQ
 T6:Z6 K t.ZP "add_stop" "Net.add_stop" P9 ["self","name","zone","change"] t.gU t.gX
 T7:Z6 K t.ZP "add_walk" "Net.add_walk" Ra ["self","one","other","minutes"] t.gY t.gZ
 T8:Z6 K t.ZP "add_rule" "Net.add_rule" Rb ["self","name","rule"] t.Zaa t.Zab
 T9:Z6 K t.ZP "add_ticket" "Net.add_ticket" Rc ["self","name","price","lasts","zones"] t.Zac t.Zad
 zA:Z6 K t.ZP "add_trip" "Net.add_trip" Re ["self","name","rule","calls"] t.Zae t.Zaf
 Um:Z6 K t.ZP "check_stop" "Net.check_stop" Rg ["self","name"] t.Zag t.Zah
 Kc:Z6 K t.ZP "check_trip" "Net.check_trip" Rh ["self","name"] t.Zai t.Zaj
 zB:Z6 K t.ZP "check_call" "Net.check_call" Ri ["self","call"] t.Zak t.Zal
 zC:Z6 K t.ZP "has_walk" "Net.has_walk" Rj ["self","one","other"] t.Zam t.Zan
 zD:Z6 K t.ZP "stops" "Net.stops" Rk ["self"] t.Zao t.Zap
 zE:Z6 K t.ZP "walks" "Net.walks" Rl ["self"] t.Zaq t.Zar
 zF:Z6 K t.ZP "rules" "Net.rules" Rm ["self"] t.Zas t.Zat
 zG:Z6 K t.ZP "tickets" "Net.tickets" Rn ["self"] t.Zau t.Zav
 zH:Z6 K t.ZP "trips" "Net.trips" Ro ["self"] t.Zaw t.Zax
 Ke:Z6 K t.ZP "zone" "Net.zone" Rp ["self","stop"] t.Zay t.Zaz
 Kf:Z6 K t.ZP "change" "Net.change" Rq ["self","stop"] t.ZaA t.ZaB
 Kg:Z6 K t.ZP "rule" "Net.rule" Rr ["self","name"] t.ZaC t.ZaD
 Kh:Z6 K t.ZP "ticket" "Net.ticket" Rs ["self","name"] t.ZaE t.ZaF
 Ki:Z6 K t.ZP "rule_name" "Net.rule_name" Rt ["self","trip"] t.ZaG t.ZaH
 Kj:Z6 K t.ZP "calls" "Net.calls" Ru ["self","trip"] t.ZaI t.ZaJ
 Kk:YO K t.Y6
 Za3:Nd K t.Y6
 Qt:YO K t.Vo
 Za4:Mk K t.Vo t.LD
 ZhL:Ym K t.Vo "depth" t.U2
 ZhM:Ym K t.Vo "parts" t.LB
 ZhN:Ym K t.Vo "weight" t.U1
 zI:Xr K t.Vo "bits"
 WW:YO K t.X4
 Za5:Mk K t.X4 t.LF
 ZhO:Ym K t.X4 "depth" t.U2
 ZhP:Ym K t.X4 "weight" t.U1
 zJ:Xr K t.X4 "first"
 zK:Xr K t.X4 "last"
 LU:Xr K t.X4 "inner"
 Uo:YO K t.WU
 Za6:Mk K t.WU t.LG
 ZhQ:Ym K t.WU "depth" t.U2
 ZhR:Ym K t.WU "parts" t.LB
 ZhS:Ym K t.WU "weight" t.U1
 zL:Xr K t.WU "length"
 zM:Xr K t.WU "starts"
 Vp:YO K t.XO
 Za7:Mk K t.XO t.LH
 ZhT:Ym K t.XO "depth" t.U2
 ZhU:Ym K t.XO "weight" t.U1
 LV:Xr K t.XO "one"
 LW:Xr K t.XO "other"
 Vq:YO K t.XQ
 Za8:Mk K t.XQ t.LI
 ZhV:Ym K t.XQ "depth" t.U2
 ZhW:Ym K t.XQ "weight" t.U1
 LX:Xr K t.XQ "one"
 LY:Xr K t.XQ "other"
 VM:YO K t.Wy
 Za9:Mk K t.Wy t.LJ
 ZhX:Ym K t.Wy "depth" t.U2
 ZhY:Ym K t.Wy "weight" t.U1
 zN:Xr K t.Wy "days"
 LZ:Xr K t.Wy "inner"
 ZO:YO K t.ZP
 Zba:Mk K t.ZP t.Tn
 Qu:Xr K t.ZP "stop_rows"
 Kl:Xr K t.ZP "walk_rows"
 Qv:Xr K t.ZP "rule_rows"
 QP:Xr K t.ZP "ticket_rows"
 Qw:Xr K t.ZP "trip_rows"
 ZhZ:WM K t.Y6
 Zh0:W.kitOne K (.ref t.Y6) (.ref t.Y6)=some true
 Zh1:WM K t.Vo
 Zh2:W.kitOne K (.ref t.Vo) (.ref t.Y6)=some true
 Zh3:WM K t.X4
 Zh4:W.kitOne K (.ref t.X4) (.ref t.Y6)=some true
 Zh5:WM K t.WU
 Zh6:W.kitOne K (.ref t.WU) (.ref t.Y6)=some true
 Zh7:WM K t.XO
 Zh8:W.kitOne K (.ref t.XO) (.ref t.Y6)=some true
 Zh9:WM K t.XQ
 Zia:W.kitOne K (.ref t.XQ) (.ref t.Y6)=some true
 Zib:WM K t.Wy
 Zic:W.kitOne K (.ref t.Wy) (.ref t.Y6)=some true
 Zid:W.kitOne K (.type "NoneType") (.ref t.Y6)=some false
 Zie:W.kitOne K (.type "bool") (.ref t.Y6)=some false
 Zif:W.kitOne K (.type "int") (.ref t.Y6)=some false
 Zig:W.kitOne K (.type "str") (.ref t.Y6)=some false
 Zih:W.kitOne K (.type "list") (.ref t.Y6)=some false
 Zii:W.kitOne K (.type "tuple") (.ref t.Y6)=some false
 Zij:mg "RoadError"=some (.ref t.Uc)
 Zik:mg "BadClock"=some (.ref t.Ud)
 Zbb:mg "BadRule"=some (.ref t.Wd)
 zO:mg "TooMany"=some (.ref t.X2)
 Zbc:mg "BadName"=some (.ref t.We)
 zP:mg "Twice"=some (.ref t.Wf)
 Zbd:mg "NoStop"=some (.ref t.X3)
 zQ:mg "NoRule"=some (.ref t.Wh)
 Zbe:mg "NoTicket"=some (.ref t.Wi)
 Zbf:mg "NoTrip"=some (.ref t.XN)
 zR:mg "BadNumber"=some (.ref t.Wj)
 Zil:mg "BadCalls"=some (.ref t.Ue)
 Zim:mg "BadRow"=some (.ref t.Uf)
 Zin:mg "NoRun"=some (.ref t.Ug)
 Zio:mg "NoPlan"=some (.ref t.Uh)
 Zip:mg "TooLate"=some (.ref t.Ui)
 Ziq:mg "NoTraveller"=some (.ref t.Uj)
 Zir:mg "BadLine"=some (.ref t.Uk)
 L0:mg "Rule"=some (.ref t.Y6)
 Zbg:mg "Week"=some (.ref t.Vo)
 Zbh:mg "Span"=some (.ref t.X4)
 Zbi:mg "Each"=some (.ref t.WU)
 Zbj:mg "Either"=some (.ref t.XO)
 Zbk:mg "Both"=some (.ref t.XQ)
 Zbl:mg "But"=some (.ref t.Wy)
 Zbm:mg "Net"=some (.ref t.ZP)
 Zis:XY K t.Wd
 Zit:YS K t.Wd
 Ziu:KX K t.Wd [(t.Ud,false),(t.Wd,true),(t.X2,false),(t.We,false),(t.Wf,false),(t.X3,false),(t.Wh,false),(t.Wi,false),(t.XN,false),(t.Wj,false),(t.Ue,false),(t.Uf,false),(t.Ug,false),(t.Uh,false),(t.Ui,false),(t.Uk,false),(t.Uj,false)]
 Ziv:W.kitOne K (.ref t.Wd) (.type "ValueError")=some true
 Ziw:W.exmOne K (.ref t.Wd) (.ref t.Uc)=some true
 Zbn:XY K t.X2
 Zix:YS K t.X2
 Ziy:KX K t.X2 [(t.Ud,false),(t.Wd,false),(t.X2,true),(t.We,false),(t.Wf,false),(t.X3,false),(t.Wh,false),(t.Wi,false),(t.XN,false),(t.Wj,false),(t.Ue,false),(t.Uf,false),(t.Ug,false),(t.Uh,false),(t.Ui,false),(t.Uk,false),(t.Uj,false)]
 Ziz:W.kitOne K (.ref t.X2) (.type "ValueError")=some true
 ZiA:W.exmOne K (.ref t.X2) (.ref t.Uc)=some true
 ZiB:XY K t.We
 ZiC:YS K t.We
 ZiD:KX K t.We [(t.Ud,false),(t.Wd,false),(t.X2,false),(t.We,true),(t.Wf,false),(t.X3,false),(t.Wh,false),(t.Wi,false),(t.XN,false),(t.Wj,false),(t.Ue,false),(t.Uf,false),(t.Ug,false),(t.Uh,false),(t.Ui,false),(t.Uk,false),(t.Uj,false)]
 ZiE:W.kitOne K (.ref t.We) (.type "ValueError")=some true
 ZiF:W.exmOne K (.ref t.We) (.ref t.Uc)=some true
 Zbo:XY K t.Wf
 ZiG:YS K t.Wf
 ZiH:KX K t.Wf [(t.Ud,false),(t.Wd,false),(t.X2,false),(t.We,false),(t.Wf,true),(t.X3,false),(t.Wh,false),(t.Wi,false),(t.XN,false),(t.Wj,false),(t.Ue,false),(t.Uf,false),(t.Ug,false),(t.Uh,false),(t.Ui,false),(t.Uk,false),(t.Uj,false)]
 ZiI:W.kitOne K (.ref t.Wf) (.type "ValueError")=some true
 ZiJ:W.exmOne K (.ref t.Wf) (.ref t.Uc)=some true
 ZiK:XY K t.X3
 ZiL:YS K t.X3
 ZiM:KX K t.X3 [(t.Ud,false),(t.Wd,false),(t.X2,false),(t.We,false),(t.Wf,false),(t.X3,true),(t.Wh,false),(t.Wi,false),(t.XN,false),(t.Wj,false),(t.Ue,false),(t.Uf,false),(t.Ug,false),(t.Uh,false),(t.Ui,false),(t.Uk,false),(t.Uj,false)]
 ZiN:W.kitOne K (.ref t.X3) (.type "ValueError")=some true
 ZiO:W.exmOne K (.ref t.X3) (.ref t.Uc)=some true
 Zbp:XY K t.Wh
 ZiP:YS K t.Wh
 ZiQ:KX K t.Wh [(t.Ud,false),(t.Wd,false),(t.X2,false),(t.We,false),(t.Wf,false),(t.X3,false),(t.Wh,true),(t.Wi,false),(t.XN,false),(t.Wj,false),(t.Ue,false),(t.Uf,false),(t.Ug,false),(t.Uh,false),(t.Ui,false),(t.Uk,false),(t.Uj,false)]
 ZiR:W.kitOne K (.ref t.Wh) (.type "ValueError")=some true
 ZiS:W.exmOne K (.ref t.Wh) (.ref t.Uc)=some true
 ZiT:XY K t.Wi
 ZiU:YS K t.Wi
 ZiV:KX K t.Wi [(t.Ud,false),(t.Wd,false),(t.X2,false),(t.We,false),(t.Wf,false),(t.X3,false),(t.Wh,false),(t.Wi,true),(t.XN,false),(t.Wj,false),(t.Ue,false),(t.Uf,false),(t.Ug,false),(t.Uh,false),(t.Ui,false),(t.Uk,false),(t.Uj,false)]
 ZiW:W.kitOne K (.ref t.Wi) (.type "ValueError")=some true
 ZiX:W.exmOne K (.ref t.Wi) (.ref t.Uc)=some true
 ZiY:XY K t.XN
 ZiZ:YS K t.XN
 Zi0:KX K t.XN [(t.Ud,false),(t.Wd,false),(t.X2,false),(t.We,false),(t.Wf,false),(t.X3,false),(t.Wh,false),(t.Wi,false),(t.XN,true),(t.Wj,false),(t.Ue,false),(t.Uf,false),(t.Ug,false),(t.Uh,false),(t.Ui,false),(t.Uk,false),(t.Uj,false)]
 Zi1:W.kitOne K (.ref t.XN) (.type "ValueError")=some true
 Zi2:W.exmOne K (.ref t.XN) (.ref t.Uc)=some true
 Zbq:XY K t.Wj
 Zi3:YS K t.Wj
 Zi4:KX K t.Wj [(t.Ud,false),(t.Wd,false),(t.X2,false),(t.We,false),(t.Wf,false),(t.X3,false),(t.Wh,false),(t.Wi,false),(t.XN,false),(t.Wj,true),(t.Ue,false),(t.Uf,false),(t.Ug,false),(t.Uh,false),(t.Ui,false),(t.Uk,false),(t.Uj,false)]
 Zi5:W.kitOne K (.ref t.Wj) (.type "ValueError")=some true
 Zi6:W.exmOne K (.ref t.Wj) (.ref t.Uc)=some true
 Km:t.RF.code=.ref t.C0
 Zi7:W.codeHdIn K t.C0 t.YR=true
 Zi8:K.lookup t.YR=none
 C4:t.RG.code=.ref t.J3
 Zi9:W.codeHdIn K t.J3 t.Xg=true
 Zja:K.lookup t.Xg=none
 Zjb:t.YR≠t.Xg
 kf:t.kf=K
section
variable{t:Ya}
def Yc(z:Str):Prop:=1<=z.length/\z.length<=8/\(∀c∈z.cps.toList,97<=c/\c<=122)/\True
inductive Zjc(vs:List V)(H:Hp)(Q:VK)(_e3:XK):Prop|mk (v:V) (T:String) (_:vs=[v]) (_:Kd H v T) (_:Q (.bl (ZeL v)) H)
def Zjd(c:Zy K mg t):Zp P w K mg base Zv 1 t.qP t.qQ ["value"] Zjc:=by
 erw[c.ZaO.F.ok Zgx () λg A outer s H f Q E d h=>?_];ext⟨v,T,rfl,kd,q⟩ h;erw[⟨_,(Zf (Zw (WI (ZN X9 c.Yy Yx (Zq (pv 0) (X0 R c.Xv Xu))) (X6 (MG (ZN X9 c.Yy Yx (Zq (pv 0) (X0 R c.ZaK qO)))))))),?_⟩];sleep 1;erw[⟨_,R,v,"int",_,_,R,kd.ty,wW kd,_,R,?_⟩];cases kd with
 |non=>exact Zi () q
 |str x=>exact Zi () q
 |lst e=>exact Zi () q
 |tup e=>exact Zi () q
 |dK e=>exact Zi () q
 |bl b=>exact Zo () ⟨_,R,_,"bool",_,_,R,(Kd.bl b).ty (H:=H),Lj (H:=H) (.bl b),_,R,q⟩
 |int i=>exact Zo () ⟨_,R,_,"bool",_,_,R,(Kd.int i).ty (H:=H),Lj (H:=H) (.int i),_,R,q⟩
inductive Zje(vs:List V)(H:Hp)(Q:VK)(_e3:XK):Prop|mk (v:V) (lo hi:Int) (T:String) (_:vs=[v,.int lo,.int hi]) (_:Kd H v T) (_:Q (.bl (Yq v lo hi)) H)
def QQ(f:Zy K mg t):Zp P w K mg base Zv 2 t.qR t.qS ["value","least","most"] Zje:=by
 erw[f.Qr.F.ok Zgy () λy A outer s H u Q E j h=>?_];ext⟨v,lo,d,T,rfl,kd,q⟩ h;erw[⟨_,(Zf (Zw (WI (ZD f.ZaO (Zjd f) j Zu (Zh (pv 0))) (X6 (K9 XE XE (pv 1) (pv 0) (pv 2)))))),?_⟩];sleep 1;erw[⟨_,R,v,T,R,kd,_,R,?_⟩];cases kd with
 |non=>exact Zi SO q
 |str x=>exact Zi SO q
 |lst e=>exact Zi SO q
 |tup e=>exact Zi SO q
 |dK e=>exact Zi SO q
 |bl b=>exact Zi SO q
 |int i =>
  erw[Zo R ?_];erw[⟨_,R,_,R,_,_,R,R,_,R,?_⟩];erw[Xs (λc=>?_) (λc=>?_)];erw[⟨_,R,_,_,R,R,?_⟩];have g:lo<=i:=SS c;have e:decide (i<=d)=Yq (.int i) lo d:=by
   show decide (i<=d)=decide (lo<=i/\i<=d);exact decide_eq_decide.mpr ⟨λz=>⟨g,z⟩,λz=>z.2⟩
  rw[<-e]at q;exact q;have g:¬ lo<=i:=SU (Oh.mpr c);have e:false=Yq (.int i) lo d:=by
   show false=decide (lo<=i/\i<=d);exact(SR λz=>g z.1).symm
  rw[<-e]at q;exact q
inductive Zjf(vs:List V)(H:Hp)(Q:VK)(_e3:XK):Prop|mk (a:Addr) (ss:OG) (n lo:Nat) (hi:Int) (_:vs=[.ref a,.int n,.int lo,.int hi]) (_:H a=some (.lst (YL ss))) (_:1<=ss.length) (_:ss.length<=n) (_:ss.Pairwise (· < ·)) (_:(∀x∈ss,lo<=x/\((x:Nat):Int)<=hi)) (_:Q (.bl true) H)
def Zbr(c:Zy K mg t):Zp P w K mg base Zv 3 t.Ry t.Rz ["values","longest","least","most"] Zjf:=by
 erw[c.J5.F.ok Qq () λL A outer s H O Q E J h=>?_];ext⟨a,g,n,lo,I,rfl,ha,T,S,up,D,q⟩ h;erw[⟨_,(Zg (ZC (PW.pt (Vf (ZX (ZW (ZN X9 c.Yy Yx (Zq (pv 0) (X0 R c.YU YT))))) (Vu (ZX (Q8 XE XE Za (ZN VA c.XR XM (Zh (pv 0))) (pv 1)))))) (Zf (Zw YY)) ZK) (Zg (ZA 4 Qq.nd (pv 2)) (Zg (W8 (Xx (pv 0)) (Yl 5 Qq.nd) (Zg (ZC (ZX (ZW (ZD c.Qr (QQ c) J Zu (Z5 (pv 5) (pv 4) (pv 3))))) (Zf (Zw YY)) ZK) (Zf (ZA 4 Qq.nd (Zl YZ (pv 5) Za))))) (Zf (Zw YY))))),?_⟩];sleep 4;have hlen:(YL g).length=g.length:=Sv ..;erw[⟨_,R,.ref a,"list",_,_,R,.lst ha,R,_,R,Zi () ?_⟩];erw[⟨_,R,a,_,R,.inl (Ze.of ha),_,_,R,R,_,R,Zo (SQ (by rw[hlen];lia)) ?_⟩];erw[⟨_,R,_,_,R,R,_,R,Zi (by rw[SQ (show(((YL g).length:Nat):Int)<=(n:Int) by rw[hlen];lia)];lia) ?_⟩];sleep 1;refine⟨_,R,_,R,a,R,⟨_,Ze.of ha⟩,F4 (xs:=YL g) (λi C B=>B=H/\∃(f:Nat) (v:Option V),C=[some (.ref a),some (.int n),some (.int lo),some (.int I),some (.int (f:Nat)),v]/\∀j x,i<=j->g[j]? = some x->f<=x)
  ⟨R,lo,_,R,λj x _ e=>(D x (SJ e)).1⟩ (λi C B _ ⟨e,_⟩=>by rw[e];exact Ze.of ha) ?_ ?_⟩
 rintro i x C B u ⟨rfl,f,v,rfl,G⟩;rw[Oa]at u;sleep 102;cases d:g[i]? with
 |none=>rw[d]at u;cases u
 |some m =>
  rw[d]at u;obtain rfl:V.int (m:Int)=x:=So u;have hm:=D m (SJ d);have M:=G i m (Sg _) d;erw[⟨_,R,_,R,_,R,.int m,_,_,"int",R,.int _,_,R,Zi (by rw[Ql () hm.2];lia) ?_⟩];erw[⟨_,R,_,_,R,R,R,m+1,_,R,λj y U e=>?_⟩];have:=List.pairwise_iff_getElem.mp up i j (Sr.mp d).1 (Sr.mp e).1 ();rw[(Sr.mp d).2,(Sr.mp e).2]at this;exact this
 rintro C B ⟨rfl,f,v,rfl,_⟩;exact q
abbrev rc(t:Ya):RC:=⟨t.Y6,t.Vo,t.X4,t.WU,t.XO,t.XQ,t.Wy⟩
inductive WX(c:RC)(K:Ox)(q:RT->Prop)(n:Nat)(vs:List V)(H:Hp)(Q:VK)(_e3:XK):Prop|mk (a:Addr) (r:RT) (d:Nat) (_:vs=[.ref a,.int d]) (_:ZS c K H a r) (_:q r) (_:r.depth<=n) (_:Q (.bl (r.runs d)) H)
def L8:RT->Prop|.always=>True|_=>False
def Ma:RT->Prop|.week _=>True|_=>False
def Kn:RT->Prop|.span _ _ _=>True|_=>False
def Mb:RT->Prop|.each _ _=>True|_=>False
def Kr:RT->Prop|.either _ _=>True|_=>False
def Ks:RT->Prop|.both _ _=>True|_=>False
def Kt:RT->Prop|.but _ _=>True|_=>False
structure QR(P:Program)(w:World)(K:Ox)(mg:Ow)(base:Heap)(t:Ya)(n:Nat):Prop where
 rule:Zp P w K mg base Zv (n+1) t.RK t.RL ["self","day"] (WX (rc t) K L8 n)
 week:Zp P w K mg base Zv (n+1) t.RQ t.RR ["self","day"] (WX (rc t) K Ma n)
 span:Zp P w K mg base Zv (n+1) t.RW t.RX ["self","day"] (WX (rc t) K Kn n)
 each:Zp P w K mg base Zv (n+1) t.R1 t.R4 ["self","day"] (WX (rc t) K Mb n)
 either:Zp P w K mg base Zv (n+1) t.R8 t.R9 ["self","day"] (WX (rc t) K Kr n)
 both:Zp P w K mg base Zv (n+1) t.Te t.Tf ["self","day"] (WX (rc t) K Ks n)
 but:Zp P w K mg base Zv (n+1) t.Tj t.Tk ["self","day"] (WX (rc t) K Kt n)
def QR.at(R:QR P w K mg base t n)(c:Zy K mg t){r:RT}(h:ZS (rc t) K H a r)(hn:r.depth<=n) :
  ∃(C x:Addr) (fs:List (Str×V)) (f:Addr) (fd:OJ) (sp:Sp),H a=some (.ins C x fs)/\fs.lookup ("runs" : Str)=none/\YO K C/\Ym K C "runs" f/\Zp P w K mg base Zv (n+1) f fd ["self","day"] sp/\XF K fd ["self","day"] [] /\
   ∀(d:Nat) (Q:VK),Q (.bl (r.runs d)) H->sp [.ref a,.int (d:Nat)] H Q E0:=by
 cases h with
 |always h=>exact⟨_,_,_,_,_,_,h,rfl,c.Kk,c.TK.me,R.rule,c.TK.b,λd Q q=>⟨a,_,d,rfl,.always h,trivial,hn,q⟩⟩
 |week h D=>exact⟨_,_,_,_,_,_,h,rfl,c.Qt,c.TN.me,R.week,c.TN.b,λd Q q=>⟨a,_,d,rfl,.week h D,trivial,hn,q⟩⟩
 |span h y u g=>exact⟨_,_,_,_,_,_,h,rfl,c.WW,c.LM.me,R.span,c.LM.b,λd Q q=>⟨a,_,d,rfl,.span h y u g,trivial,hn,q⟩⟩
 |each h B v i=>exact⟨_,_,_,_,_,_,h,rfl,c.Uo,c.TW.me,R.each,c.TW.b,λd Q q=>⟨a,_,d,rfl,.each h B v i,trivial,hn,q⟩⟩
 |either h g j=>exact⟨_,_,_,_,_,_,h,rfl,c.Vp,c.LO.me,R.either,c.LO.b,λd Q q=>⟨a,_,d,rfl,.either h g j,trivial,hn,q⟩⟩
 |both h g j=>exact⟨_,_,_,_,_,_,h,rfl,c.Vq,c.LQ.me,R.both,c.LQ.b,λd Q q=>⟨a,_,d,rfl,.both h g j,trivial,hn,q⟩⟩
 |but h i g=>exact⟨_,_,_,_,_,_,h,rfl,c.VM,c.LS.me,R.but,c.LS.b,λd Q q=>⟨a,_,d,rfl,.but h i g,trivial,hn,q⟩⟩
def Zbs(f:Zy K mg t)(n:Nat):Zp P w K mg base Zv (n+1) t.RK t.RL ["self","day"] (WX (rc t) K L8 n):=by
 erw[f.TK.F.ok ZgO () λj A outer s H i Q E g h=>?_];ext⟨a,r,d,rfl,h,c,hn,q⟩ h;erw[⟨_,(Zf (Zw YY)),?_⟩];sleep 1;cases r<;>first|exact q|exact c.elim
def Zbt(c:Zy K mg t)(n:Nat):Zp P w K mg base Zv (n+1) t.RQ t.RR ["self","day"] (WX (rc t) K Ma n):=by
 erw[c.TN.F.ok ZgR () λv A outer s H u Q E i h=>?_];ext⟨a,r,d,rfl,h,f,hn,q⟩ h;erw[⟨_,(Zf (Zw (Y7 Ye (Zl Zdx (Zl Zdw (ZR (pv 0) R) (Zl ZQ (pv 1) (Y8 R c.Zhv))) Za) Za (Xq _)))),?_⟩];sleep 1;cases h with
 |week h x =>
  rename_i j b;erw[⟨_,R,a,_,_,_,_,R,h,c.Qt,c.zI,R,_,R,_,_,R,R,(),_,_,R,R,Int.emod_nonneg _ (),_,_,R,R,R,?_⟩];have e:((d:Int)%7).toNat=d%7:=by lia
  have g:decide (V.int (Builtin.bitAnd ((b:Int)/2 ^ ((d:Int)%7).toNat) 1)=V.int 1)=(RT.week b).runs d:=by
   rw[e];have:=ZeR b (d%7);rw[Vx];exact this
  rw[<-g]at q;exact q
 |_=>exact f.elim
def Zbu(c:Zy K mg t)(n:Nat):Zp P w K mg base Zv (n+1) t.R1 t.R4 ["self","day"] (WX (rc t) K Mb n):=by
 erw[c.TW.F.ok ZgW () λC A outer s H y Q E u h=>?_];ext⟨a,r,d,rfl,h,g,hn,q⟩ h;erw[⟨_,(Zf (Zw (Y7 G2 (Zl ZQ (pv 1) (ZR (pv 0) R)) (ZR (pv 0) R) R))),?_⟩];sleep 1;cases h with
 |each h B v j =>
  rename_i x p m f;erw[⟨_,R,_,R,a,_,_,_,_,R,h,c.Uo,c.zL,R,_,_,R,R,(by show(0:Int)<_;lia),_,R,a,_,_,_,_,R,h,c.Uo,c.zM,R,p,_,R,.inr j,R,Lk f,?_⟩];have e:(d:Int)%(m:Int)=((d%m:Nat):Int):=by lia
  have i:Qi (.int ((d:Int)%(m:Int))) (YL f)=(RT.each m f).runs d:=by
   rw[e];exact G9 (d%m) f
  rw[<-i]at q;exact q
 |_=>exact g.elim
def Zjg(c:Zy K mg t)(n:Nat)(R:QR P w K mg base t n):Zp P w K mg base Zv (n+2) t.RW t.RX ["self","day"] (WX (rc t) K Kn (n+1)):=by
 erw[c.LM.F.ok qF () λJ A outer s H L Q E I h=>?_];ext⟨a,r,d,rfl,h,v,hn,q⟩ h;erw[⟨_,(Zf (Zw (WI (K9 XE XE (ZR (pv 0) rfl) (pv 1) (ZR (pv 0) rfl)) (X6 (A6 (ZR (pv 0) rfl) (Zh (pv 1))))))),?_⟩];sleep 1;cases h with
 |span h S O B =>
  rename_i M i x y r;have hd:r.depth<=n:=by
   have:(RT.span x y r).depth=1+r.depth:=rfl;lia
  obtain⟨C,G,fs,f,D,sp,g1,g2,g3,g4,g5,g6,g7⟩:=R.at c B hd;erw[⟨_,rfl,a,_,_,_,_,rfl,h,c.WW,c.zJ,rfl,?_⟩];have g:∀b:Bool,b=(decide (x<=d) && decide (d<=y) && r.runs d)->Q (.bl b) H:=λb e=>by rwa[e]
  erw[⟨_,rfl,_,_,rfl,rfl,_,rfl,?_⟩];by_cases u:x<=d;erw[Zo (SQ ()) ?_];erw[⟨_,rfl,a,_,_,_,_,rfl,h,c.WW,c.zK,rfl,_,_,rfl,rfl,_,rfl,?_⟩];by_cases j:d<=y;erw[Zo (SQ ()) ?_];erw[⟨_,rfl,a,_,_,_,_,rfl,h,c.WW,c.LU,rfl,i,C,G,fs,f,D,_,_,sp,Zv,E0,rfl,g1,g2,g3,g4,g5,I.mono (),g6,Zu,_,rfl,?_⟩];exact g7 d Q (g _ (by rw[SQ u,SQ j];rfl));erw[Zi (by rw[SR ()];lia) ?_];exact g _ (by rw[SR j,Bool.and_false,Bool.false_and]);erw[Zi (by rw[SR ()];lia) ?_];exact⟨_,rfl,Zi () (g _ (by rw[SR u,Bool.false_and,Bool.false_and]))⟩
 |_=>exact v.elim
def Zjh(c:Zy K mg t)(n:Nat)(R:QR P w K mg base t n):Zp P w K mg base Zv (n+2) t.R8 t.R9 ["self","day"] (WX (rc t) K Kr (n+1)):=by
 erw[c.LO.F.ok qH () λI A outer s H J Q E y h=>?_];ext⟨a,r,d,rfl,h,B,hn,q⟩ h;erw[⟨_,(Zf (Zw (MF (A6 (ZR (pv 0) rfl) (Zh (pv 1))) (X6 (A6 (ZR (pv 0) rfl) (Zh (pv 1))))))),?_⟩];sleep 1;cases h with
 |either h D G =>
  rename_i L i j r g;have hd:r.depth<=n/\g.depth<=n:=by
   have:(RT.either r g).depth=1+max r.depth g.depth:=rfl;lia
  obtain⟨C,x,fs,f,v,sp,g1,g2,g3,g4,g5,g6,g7⟩:=R.at c D hd.1;erw[⟨_,rfl,a,_,_,_,_,rfl,h,c.Vp,c.LV,rfl,i,C,x,fs,f,v,_,_,sp,Zv,E0,rfl,g1,g2,g3,g4,g5,y.mono (),g6,Zu,_,rfl,g7 d _ ⟨_,rfl,?_⟩⟩];have u:Q (.bl (r.runs d || g.runs d)) H:=q;cases e:r.runs d with
  |true=>exact Zo rfl (by rw[e]at u;exact u)
  |false =>
   erw[Zi () ?_];obtain⟨C,x,fs,f,v,sp,g1,g2,g3,g4,g5,g6,g7⟩:=R.at c G hd.2;erw[⟨_,rfl,a,_,_,_,_,rfl,h,c.Vp,c.LW,rfl,j,C,x,fs,f,v,_,_,sp,Zv,E0,rfl,g1,g2,g3,g4,g5,y.mono (),g6,Zu,_,rfl,g7 d _ ?_⟩];rw[e,Bool.false_or]at u;exact u
 |_=>exact B.elim
def Zji(c:Zy K mg t)(n:Nat)(R:QR P w K mg base t n):Zp P w K mg base Zv (n+2) t.Te t.Tf ["self","day"] (WX (rc t) K Ks (n+1)):=by
 erw[c.LQ.F.ok qJ () λI A outer s H J Q E y h=>?_];ext⟨a,r,d,rfl,h,B,hn,q⟩ h;erw[⟨_,(Zf (Zw (WI (A6 (ZR (pv 0) rfl) (Zh (pv 1))) (X6 (A6 (ZR (pv 0) rfl) (Zh (pv 1))))))),?_⟩];sleep 1;cases h with
 |both h D G =>
  rename_i L i j r g;have hd:r.depth<=n/\g.depth<=n:=by
   have:(RT.both r g).depth=1+max r.depth g.depth:=rfl;lia
  obtain⟨C,x,fs,f,v,sp,g1,g2,g3,g4,g5,g6,g7⟩:=R.at c D hd.1;erw[⟨_,rfl,a,_,_,_,_,rfl,h,c.Vq,c.LX,rfl,i,C,x,fs,f,v,_,_,sp,Zv,E0,rfl,g1,g2,g3,g4,g5,y.mono (),g6,Zu,_,rfl,g7 d _ ⟨_,rfl,?_⟩⟩];have u:Q (.bl (r.runs d && g.runs d)) H:=q;cases e:r.runs d with
  |false=>exact Zi () (by rw[e]at u;exact u)
  |true =>
   erw[Zo rfl ?_];obtain⟨C,x,fs,f,v,sp,g1,g2,g3,g4,g5,g6,g7⟩:=R.at c G hd.2;erw[⟨_,rfl,a,_,_,_,_,rfl,h,c.Vq,c.LY,rfl,j,C,x,fs,f,v,_,_,sp,Zv,E0,rfl,g1,g2,g3,g4,g5,y.mono (),g6,Zu,_,rfl,g7 d _ ?_⟩];rw[e,Ot]at u;exact u
 |_=>exact B.elim
def Zjj(c:Zy K mg t)(n:Nat)(R:QR P w K mg base t n):Zp P w K mg base Zv (n+2) t.Tj t.Tk ["self","day"] (WX (rc t) K Kt (n+1)):=by
 erw[c.LS.F.ok qL () λD A outer s H G Q E B h=>?_];ext⟨a,r,d,rfl,h,j,hn,q⟩ h;erw[⟨_,(Zf (Zw (Y7 K7 (A6 (ZR (pv 0) rfl) (Zh (pv 1))) (Y7 G2 (pv 1) (ZR (pv 0) rfl) rfl) (Xq _)))),?_⟩];sleep 1;cases h with
 |but h x u =>
  rename_i I p i ds r;have hd:r.depth<=n:=by
   have:(RT.but ds r).depth=1+r.depth:=rfl;lia
  obtain⟨C,y,fs,f,v,sp,g1,g2,g3,g4,g5,g6,g7⟩:=R.at c u hd;erw[⟨_,rfl,a,_,_,_,_,rfl,h,c.VM,c.LZ,rfl,i,C,y,fs,f,v,_,_,sp,Zv,E0,rfl,g1,g2,g3,g4,g5,B.mono (),g6,Zu,_,rfl,g7 d _ ?_⟩];erw[⟨_,rfl,_,rfl,a,_,_,_,_,rfl,h,c.VM,c.zN,rfl,p,_,rfl,.inr x,rfl,Lk ds,rfl,?_⟩];have g:Q (.bl (r.runs d != ds.contains d)) H:=q;have e:(!decide (V.bl (r.runs d)=V.bl (Qi (.int (d:Int)) (YL ds))))=(r.runs d != ds.contains d):=by
   rw[G9,K6];rfl
  rw[<-e]at g;exact g
 |_=>exact j.elim
theorem Zbv(c:Zy K mg t):∀n,QR P w K mg base t n
 |0=>by
  have no:∀{q:RT->Prop},∀vs H Q E,WX (rc t) K q 0 vs H Q E->False:=λvs H Q E h=>by
   ext⟨a,r,d,rfl,h,j,hn,_⟩ h;have:=r.depth_pos;lia
  exact⟨Zbs c 0,Zbt c 0,
   c.LM.F.ok qF (λvs H Q E h=>(no vs H Q E h).elim) (λi A outer s H vs Q E g h=>(no vs H Q E h).elim),Zbu c 0,
   c.LO.F.ok qH (λvs H Q E h=>(no vs H Q E h).elim) (λi A outer s H vs Q E g h=>(no vs H Q E h).elim),
   c.LQ.F.ok qJ (λvs H Q E h=>(no vs H Q E h).elim) (λi A outer s H vs Q E g h=>(no vs H Q E h).elim),
   c.LS.F.ok qL (λvs H Q E h=>(no vs H Q E h).elim) (λi A outer s H vs Q E g h=>(no vs H Q E h).elim)⟩
 |n+1=>have f:=Zbv c n
  ⟨Zbs c (n+1),Zbt c (n+1),Zjg c n f,Zbu c (n+1),Zjh c n f,Zji c n f,Zjj c n f⟩
def zS(c:RC)(K:Ox)(H:Hp)(r:RT)(xs:List V):Prop:=match r with
 |.always|.week _|.each _ _=>xs=[]
 |.span _ _ d|.but _ d=>∃i,xs=[.ref i]/\ZS c K H i d
 |.either d f|.both d f=>∃i j,xs=[.ref i,.ref j]/\ZS c K H i d/\ZS c K H j f
inductive Ku(c:RC)(K:Ox)(q:RT->Prop)(vs:List V)(H:Hp)(Q:VK)(_e3:XK):Prop|mk (a:Addr) (r:RT) (_:vs=[.ref a]) (_:ZS c K H a r) (_:q r) (_:∀p xs,H p=none->zS c K H r xs->Q (.ref p) (Zb H p (.lst xs)))
def Zjk:RT->Prop|.always|.week _|.each _ _=>True|_=>False
def zT(f:Zy K mg t):Zp P w K mg base Zv 1 t.LB t.gE ["self"] (Ku (rc t) K Zjk):=by
 erw[f.J9.F.ok ZgN () λj A outer s H i Q E g h=>?_];ext⟨a,r,rfl,h,c,q⟩ h;erw[⟨_,(Zf (Zw (ZI YG))),?_⟩];sleep 1;erw[⟨zL9 R,λp d=>q p _ d ?_⟩];cases r<;>first|rfl|exact c.elim
def Zjl(c:Zy K mg t):Zp P w K mg base Zv 1 t.gH t.gI ["self"] (Ku (rc t) K Kn):=by
 erw[c.TR.F.ok ZgT () λx A outer s H v Q E i h=>?_];ext⟨a,r,rfl,h,d,q⟩ h;erw[⟨_,(Zf (Zw (ZI (Zh (ZR (pv 0) R))))),?_⟩];sleep 1;cases h with
 |span h u j f=>exact⟨_,R,a,_,_,_,_,R,h,c.WW,c.LU,R,zL9 R,λp g=>q p _ g ⟨_,R,f⟩⟩
 |_=>exact d.elim
def Zjm(c:Zy K mg t):Zp P w K mg base Zv 1 t.gN t.gO ["self"] (Ku (rc t) K Kt):=by
 erw[c.T4.F.ok Zg2 () λu A outer s H j Q E i h=>?_];ext⟨a,r,rfl,h,f,q⟩ h;erw[⟨_,(Zf (Zw (ZI (Zh (ZR (pv 0) R))))),?_⟩];sleep 1;cases h with
 |but h d g=>exact⟨_,R,a,_,_,_,_,R,h,c.VM,c.LZ,R,zL9 R,λp d=>q p _ d ⟨_,R,g⟩⟩
 |_=>exact f.elim
def Zjn(c:Zy K mg t):Zp P w K mg base Zv 1 t.gJ t.gK ["self"] (Ku (rc t) K Kr):=by
 erw[c.TY.F.ok ZgY () λv A outer s H u Q E j h=>?_];ext⟨a,r,rfl,h,d,q⟩ h;erw[⟨_,(Zf (Zw (ZI (Zq (ZR (pv 0) R) (ZR (pv 0) R))))),?_⟩];sleep 1;cases h with
 |either h f i=>exact⟨_,R,a,_,_,_,_,R,h,c.Vp,c.LV,R,_,R,a,_,_,_,_,R,h,c.Vp,c.LW,R,zL9 R,λp g=>q p _ g ⟨_,_,R,f,i⟩⟩
 |_=>exact d.elim
def Zjo(c:Zy K mg t):Zp P w K mg base Zv 1 t.gL t.gM ["self"] (Ku (rc t) K Ks):=by
 erw[c.T0.F.ok Zg0 () λv A outer s H u Q E j h=>?_];ext⟨a,r,rfl,h,d,q⟩ h;erw[⟨_,(Zf (Zw (ZI (Zq (ZR (pv 0) R) (ZR (pv 0) R))))),?_⟩];sleep 1;cases h with
 |both h f i=>exact⟨_,R,a,_,_,_,_,R,h,c.Vq,c.LX,R,_,R,a,_,_,_,_,R,h,c.Vq,c.LY,R,zL9 R,λp g=>q p _ g ⟨_,_,R,f,i⟩⟩
 |_=>exact d.elim
def Zbw(c:Zy K mg t)(h:ZS (rc t) K H a r) :
  ∃(C v:Addr) (fs:List (Str×V)) (f:Addr) (fd:OJ) (sp:Sp),H a=some (.ins C v fs)/\fs.lookup ("parts" : Str)=none/\YO K C/\Ym K C "parts" f/\Zp P w K mg base Zv 1 f fd ["self"] sp/\XF K fd ["self"] [] /\
   ∀(Q:VK),(∀p xs,H p=none->zS (rc t) K H r xs->Q (.ref p) (Zb H p (.lst xs)))->sp [.ref a] H Q E0:=by
 cases h with
 |always h=>exact⟨_,_,_,_,_,_,h,R,c.Kk,c.J9.me,zT c,c.J9.b,λQ q=>⟨a,_,R,.always h,trivial,q⟩⟩
 |week h B=>exact⟨_,_,_,_,_,_,h,R,c.Qt,c.ZhM,zT c,c.J9.b,λQ q=>⟨a,_,R,.week h B,trivial,q⟩⟩
 |span h x j d=>exact⟨_,_,_,_,_,_,h,R,c.WW,c.TR.me,Zjl c,c.TR.b,λQ q=>⟨a,_,R,.span h x j d,trivial,q⟩⟩
 |each h y u g=>exact⟨_,_,_,_,_,_,h,R,c.Uo,c.ZhR,zT c,c.J9.b,λQ q=>⟨a,_,R,.each h y u g,trivial,q⟩⟩
 |either h d i=>exact⟨_,_,_,_,_,_,h,R,c.Vp,c.TY.me,Zjn c,c.TY.b,λQ q=>⟨a,_,R,.either h d i,trivial,q⟩⟩
 |both h d i=>exact⟨_,_,_,_,_,_,h,R,c.Vq,c.T0.me,Zjo c,c.T0.b,λQ q=>⟨a,_,R,.both h d i,trivial,q⟩⟩
 |but h g d=>exact⟨_,_,_,_,_,_,h,R,c.VM,c.T4.me,Zjm c,c.T4.b,λQ q=>⟨a,_,R,.but h g d,trivial,q⟩⟩
def Mc(c:Zy K mg t)(h:ZS (rc t) K H a r):∃(C f:Addr) (fs:List (Str×V)),H a=some (.ins C f fs)/\YO K C/\(fs.lookup ("weight" : Str)=none/\Ym K C "weight" t.U1)/\(fs.lookup ("depth" : Str)=none/\Ym K C "depth" t.U2):=by
 cases h with
 |always h=>exact⟨_,_,_,h,c.Kk,⟨R,c.Ka.me⟩,⟨R,c.Kb.me⟩⟩
 |week h y=>exact⟨_,_,_,h,c.Qt,⟨R,c.ZhN⟩,⟨R,c.ZhL⟩⟩
 |span h v j d=>exact⟨_,_,_,h,c.WW,⟨R,c.ZhP⟩,⟨R,c.ZhO⟩⟩
 |each h x u g=>exact⟨_,_,_,h,c.Uo,⟨R,c.ZhS⟩,⟨R,c.ZhQ⟩⟩
 |either h d i=>exact⟨_,_,_,h,c.Vp,⟨R,c.ZhU⟩,⟨R,c.ZhT⟩⟩
 |both h d i=>exact⟨_,_,_,h,c.Vq,⟨R,c.ZhW⟩,⟨R,c.ZhV⟩⟩
 |but h g d=>exact⟨_,_,_,h,c.VM,⟨R,c.ZhY⟩,⟨R,c.ZhX⟩⟩
inductive Zjp(P:Program)(w:World)(K:Ox)(mg:Ow)(base:Heap)(k:Nat)(m:Str)(Q:VK)(x:V)(H1:Hp):Prop|mk (a C dx:Addr) (fs:List (Str×V)) (f:Addr) (fd:OJ) (ps:OC) (sp:Sp) (_:x=.ref a) (_:H1 a=some (.ins C dx fs)) (_:fs.lookup m=none) (_:YO K C) (_:Ym K C m f) (_:Zp P w K mg base Zv k f fd ps sp) (_:XF K fd ps []) (_:sp [.ref a] H1 Q E0)
def Zjq(P:Program)(w:World)(K:Ox)(mg:Ow)(base:Heap)(k:Nat)(m:Str)(f:TE):TE:=λc H Q=>f c H λx d=>Zjp P w K mg base k m Q x d
def Zbx{apos : Pos}(P:Program)(w:World)(K:Ox)(mg:Ow)(base:Heap)(k:Nat)(O:Yn k X.A)(L:PE X o j)
  (B:X.prog=P:=by rfl) (y:X.w=w:=by rfl) (G:X.K=K:=by rfl) (hm:X.mg=mg:=by rfl) (i:X.base=base:=by rfl)
  (M:eval (.Call (.Attribute o m apos) [] [] d) X.env=(do
   let v <-eval o X.env
   standAt apos.atName
   let (f,first) <-holding [v] (getMethod v m pl)
   callWith d f first (backTo d (starEach [] X.env)) (backToKw d (keywordEach [] X.env))):=by rfl) :
  PE X (.Call (.Attribute o m apos) [] [] d) (Zjq P w K mg base k m j):=by
 subst B y G hm i;intro pins s J H Q I h;erw[W.methodCall_KW (pl:=pl) (Zx (L pins s J H _ I h) λu s1 ⟨x,S,g,D,a,C,Y,fs,f,U,T,sp,ex,E,l,c,hm,F,i,q⟩=>?_) M];subst ex;obtain rfl:u=Value.ref a:=D;erw[A1 g E c hm l ?_];exact W.callWith_K0 (first:=[.ref a]) g.kIn hm.kp (Qc (us:=[.ref a]) (vs:=[.ref a]) (dvs:=[]) F O i .nil Zu g (.cons R .nil) q)
def WY:RT->List RT
 |.always|.week _|.each _ _=>[]
 |.span _ _ r|.but _ r=>[r]
 |.either r s|.both r s=>[r,s]
def zU(r:RT):r.weight=1+((WY r).map RT.weight).sum:=by
 cases r<;>simp[WY,RT.weight]
def Zby{r k:RT}(h:k∈WY r):k.depth<r.depth:=by
 cases r<;>simp[WY]at h
 all_goals simp only[RT.depth]
 subst h;lia;rcases h with rfl|rfl<;>omega
 rcases h with rfl|rfl<;>omega
 subst h;lia
def Zbz(r:RT):(WY r).length<=2:=by
 cases r<;>simp[WY]
def ZbA{xs:List V}(h:zS c K H r xs):xs.length=(WY r).length/\∀(i:Nat) (x:V),xs[i]? = some x->∃(j:Addr) (k:RT),x=.ref j/\(WY r)[i]? = some k/\ZS c K H j k:=by
 have none:∀(i:Nat) (x:V),([]:List V)[i]? = some x->False:=λi x e=>by cases e
 have one:∀{a:Addr} {d:RT},ZS c K H a d->∀(i:Nat) (x:V),[V.ref a][i]? = some x->∃(j:Addr) (k:RT),x=.ref j/\[d][i]? = some k/\ZS c K H j k:=λ{a d} q i x e=>by
  match i,e with
  |0,e=>exact⟨a,d,(So e).symm,R,q⟩
  |_+1,e=>cases e
 have v:∀{a b:Addr} {d f:RT},ZS c K H a d->ZS c K H b f->∀(i:Nat) (x:V),[V.ref a,V.ref b][i]? = some x->∃(j:Addr) (k:RT),x=.ref j/\[d,f][i]? = some k/\ZS c K H j k:=λ{a b d f} g u i x e=>by
  match i,e with
  |0,e=>exact⟨a,d,(So e).symm,R,g⟩
  |1,e=>exact⟨b,f,(So e).symm,R,u⟩
  |_+2,e=>cases e
 cases r with
 |always=>cases h;exact⟨R,λi x e=>(none i x e).elim⟩
 |week b=>cases h;exact⟨R,λi x e=>(none i x e).elim⟩
 |each n y=>cases h;exact⟨R,λi x e=>(none i x e).elim⟩
 |span a b d=>ext⟨i,rfl,q⟩ h;exact⟨R,one q⟩
 |but ds d=>ext⟨i,rfl,q⟩ h;exact⟨R,one q⟩
 |either d f=>ext⟨i,j,rfl,g,u⟩ h;exact⟨R,v g u⟩
 |both d f=>ext⟨i,j,rfl,g,u⟩ h;exact⟨R,v g u⟩
theorem ZbB:∀l:List Nat,(l.map λn=>((n:Nat):Int)).sum=((l.sum:Nat):Int)
 |[]=>rfl
 |x::r=>by
  rw[SL,List.sum_cons,List.sum_cons,ZbB r];lia
theorem zV:∀{l:OG},x∈l->x<=l.sum
 |y::r,h=>by
  rw[List.sum_cons];rcases SE.mp h with rfl|h;omega;have:=zV h;lia
inductive Zjr(c:RC)(K:Ox)(n:Nat)(vs:List V)(H:Hp)(Q:VK)(_e3:XK):Prop|mk (a:Addr) (r:RT) (_:vs=[.ref a]) (_:ZS c K H a r) (_:r.depth<=n) (_:r.weight<=1000000) (_:∀H',Zc H H'->Q (.int (r.weight:Nat)) H')
def Zjs(g:Zy K mg t):∀n:Nat,Zp P w K mg base Zv (n+1) t.U1 t.gF ["self"] (Zjr (rc t) K n):=by
 intro n;induction n with
 |zero =>
  erw[g.Ka.F.ok qC (λG H Q E h=>?_) (λO A outer s H G Q E C h=>?_)];ext⟨a,r,rfl,_⟩ h;rfl;ext⟨a,r,rfl,h,hd,_⟩ h;have:=r.depth_pos;lia
 |succ n ih =>
 erw[g.Ka.F.ok qC () λO A outer s H G Q E C h=>?_];ext⟨a,r,rfl,h,hd,hw,q⟩ h;erw[⟨_,(Zf (Zw (Zl YZ Za (ZN (ZeQ R) g.Zhs Zho (Zh (Wv (cl:=[]) (N:=["part"]) (fr:=[none]) R (Xx (A7 (pv 0))) R () R () trivial trivial R (λ_ _ _ _ _=>MH (i:=0) (A5 _) R (Or.inl R)) (λ_ _ _ _ _=>Wu) (λ_ _ _ _ _=>Zbx P w K mg base (n+1) (C.mono ()) (pv 0)))))))),?_⟩];sleep 1;obtain⟨b0,dx,fs,f,X,sp,l,lk,cl,me,F,hb,pp⟩:=Zbw (P:=P) (w:=w) (mg:=mg) (base:=base) g h;erw[⟨_,R,a,b0,dx,fs,f,X,_,_,sp,Zv,E0,R,l,lk,cl,me,F,C.mono (),hb,Zu,pp _ λp xs hp B=>?_⟩];obtain⟨T,hk⟩:=ZbA B;have kl:=Zbz r;have s0:Zc H (Zb H p (.lst xs)):=Zt hp _;refine⟨p,R,⟨xs,Ze.of Zj⟩,WL (K:=K) (a:=p) (xs:=xs) (λi c y u=>Zc (Zb H p (.lst xs)) u/\c=(((WY r).take i).map λk=>V.int (k.weight:Nat))/\∃v,y=[v])
  ⟨Zc.refl _,R,_,R⟩ (by show xs.length<=sizeLine;exact Sh () (show 2<=sizeLine by lia)) (λi c y u _ ⟨d,_⟩=>Ze.of (d _ _ Zj)) ?_ ?_⟩
 rintro i x c y u ha B ⟨d,e,v,rfl⟩;obtain⟨j,k,rfl,I,a0⟩:=hk i x B;have J:k∈WY r:=SJ I;have kd:=Zby J;have kw:k.weight<=r.weight:=by
  rw[zU r];have:=zV (List.mem_map_of_mem (f:=RT.weight) J);lia
 dsimp only[YK,Wb];rw[SW R];have L:=a0.same (s0.trans d);obtain⟨Y,d0,S,l2,c0,⟨Z,M⟩,_⟩:=Mc g L;erw[⟨_,R,j,Y,d0,S,_,_,_,_,R,l2,Z,c0,M,ih,g.Ka.b,j,k,R,L,(),(),λH3 s3=>⟨?_,d.trans s3,?_,_,R⟩⟩];rw[Su,Sw];lia;rw[e,S0,I];simp;rintro c y u ha ⟨d,e,v,rfl⟩ U g3;have e2:c=((((WY r).map RT.weight).map λn=>((n:Nat):Int)).map V.int):=by
  rw[e,T,List.take_length,Oe,Oe];rfl
 erw[⟨U,_,R,Ze.of (by rw[Zj,e2]),?_,?_,?_⟩];intro n hn;obtain⟨m,hm,rfl⟩:=SI.mp hn;have:=zV hm;have:=zU r;lia;rw[Sv,Sv];lia;have s4:=(s0.trans d).trans (Zt g3 (.lst c));have D:=q _ s4;rw[zU r]at D;erw[⟨_,_,R,R,?_⟩];rwa[ZbB]
theorem ZbC:∀(l:OG) (x:Nat),VH (some (x:Int)) (l.map λn=>((n:Nat):Int))=some (((l.foldl max x:Nat)):Int)
 |[],x=>rfl
 |y::r,x=>by
  show VH (some (A8 (some (x:Int)) (y:Int))) _=_;have e:A8 (some (x:Int)) (y:Int)=((max x y:Nat):Int):=by
   show(if (y:Int)>(x:Int)then (y:Int)else (x:Int))=_;split<;>omega
  rw[e];exact ZbC r (max x y)
def Zjt(r:RT):(1:Int)+(VH none (((WY r).map RT.depth).map λn=>((n:Nat):Int))).getD 0=((r.depth:Nat):Int):=by
 have one:∀k:Nat,(1:Int)+(VH none ([k].map λn=>((n:Nat):Int))).getD 0=((1+k:Nat):Int):=λk=>by
  show(1:Int)+(k:Int)=_;lia
 have d:∀k m:Nat,(1:Int)+(VH none ([k,m].map λn=>((n:Nat):Int))).getD 0=((1+max k m:Nat):Int):=λk m=>by
  show(1:Int)+(VH (some (k:Int)) ([m].map λn=>((n:Nat):Int))).getD 0=_;rw[ZbC];show(1:Int)+((max k m:Nat):Int)=_;lia
 cases r with
 |always=>rfl
 |week b=>rfl
 |each n g=>rfl
 |span a b c=>exact one _
 |but ds c=>exact one _
 |either c f=>exact d _ _
 |both c f=>exact d _ _
inductive Zju(c:RC)(K:Ox)(n:Nat)(vs:List V)(H:Hp)(Q:VK)(_e3:XK):Prop|mk (a:Addr) (r:RT) (_:vs=[.ref a]) (_:ZS c K H a r) (_:r.depth<=n) (_:∀H',Zc H H'->Q (.int (r.depth:Nat)) H')
def Zjv(f:Zy K mg t):∀n:Nat,Zp P w K mg base Zv (n+1) t.U2 t.gG ["self"] (Zju (rc t) K n):=by
 intro n;induction n with
 |zero =>
  erw[f.Kb.F.ok qD (λD H Q E h=>?_) (λL A outer s H D Q E B h=>?_)];ext⟨a,r,rfl,_⟩ h;rfl;ext⟨a,r,rfl,h,hd,_⟩ h;have:=r.depth_pos;lia
 |succ n ih =>
 erw[f.Kb.F.ok qD () λL A outer s H D Q E B h=>?_];ext⟨a,r,rfl,h,hd,q⟩ h;erw[⟨_,(Zf (Zw (Zl YZ Za (ZeY R R f.Zhr Zhn (ZM (Wv (cl:=[]) (N:=["part"]) (fr:=[none]) R (Xx (A7 (pv 0))) R () R () trivial trivial R (λ_ _ _ _ _=>MH (i:=0) (A5 _) R (Or.inl R)) (λ_ _ _ _ _=>Wu) (λ_ _ _ _ _=>Zbx P w K mg base (n+1) (B.mono ()) (pv 0))) YG) (ZdT Za ZdS))))),?_⟩];sleep 1;obtain⟨a0,Z,fs,b0,T,sp,l,lk,cl,me,F,hb,pp⟩:=Zbw (P:=P) (w:=w) (mg:=mg) (base:=base) f h;erw[⟨_,R,a,a0,Z,fs,b0,T,_,_,sp,Zv,E0,R,l,lk,cl,me,F,B.mono (),hb,Zu,pp _ λp xs hp y=>?_⟩];obtain⟨O,hk⟩:=ZbA y;have kl:=Zbz r;have s0:Zc H (Zb H p (.lst xs)):=Zt hp _;refine⟨p,R,⟨xs,Ze.of Zj⟩,WL (K:=K) (a:=p) (xs:=xs) (λi c u g=>Zc (Zb H p (.lst xs)) g/\c=(((WY r).take i).map λk=>V.int (k.depth:Nat))/\∃v,u=[v])
  ⟨Zc.refl _,R,_,R⟩ (by show xs.length<=sizeLine;exact Sh () (show 2<=sizeLine by lia)) (λi c u g _ ⟨d,_⟩=>Ze.of (d _ _ Zj)) ?_ ?_⟩
 rintro i x c u g ha y ⟨d,e,v,rfl⟩;obtain⟨j,k,rfl,G,Y⟩:=hk i x y;have km:k∈WY r:=SJ G;have kd:=Zby km;dsimp only[YK,Wb];rw[SW R];have I:=Y.same (s0.trans d);obtain⟨U,d0,M,l2,c0,_,⟨X,J⟩⟩:=Mc f I;erw[⟨_,R,j,U,d0,M,_,_,_,_,R,l2,X,c0,J,ih,f.Kb.b,j,k,R,I,(),λH3 s3=>⟨?_,d.trans s3,?_,_,R⟩⟩];rw[Su,Sw];lia;rw[e,S0,G];simp;rintro c u g ha ⟨d,e,v,rfl⟩ S g3;have e2:c=((((WY r).map RT.depth).map λn=>((n:Nat):Int)).map V.int):=by
  rw[e,O,List.take_length,Oe,Oe];rfl
 have s4:=(s0.trans d).trans (Zt g3 (.lst c));have C:=q _ s4;rw[<-Zjt r]at C;exact⟨S,_,0,R,R,Ze.of (by rw[Zj,e2]),_,_,R,R,C⟩
inductive Zjw(c:RC)(K:Ox)(vs:List V)(H:Hp)(Q:VK)(_e3:XK):Prop|mk (a:Addr) (r:RT) (_:vs=[.ref a]) (_:ZS c K H a r) (_:r.weight<=15) (_:r.depth<=8) (_:∀H',Zc H H'->Q .non H')
def Me(c:Zy K mg t):Zp P w K mg base Zv 10 t.qZ t.jA ["rule"] (Zjw (rc t) K):=by
 erw[c.J6.F.ok ZgC () λx A outer s H v Q E g h=>?_];ext⟨a,r,rfl,h,u,hd,q⟩ h;erw[⟨_,(Zg (ZC (ZZ F7 (A7 (pv 0)) (Y8 R c.Zhy)) (Zf Vv) ZK) (Zf (ZC (ZZ F7 (A7 (pv 0)) (Y8 R c.Zhz)) (Zf Vv) ZK))),?_⟩];sleep 2;obtain⟨C,d,fs,l,cl,⟨f,me⟩,_⟩:=Mc c h;erw[⟨_,R,a,C,d,fs,_,_,_,_,_,Zv,E0,R,l,f,cl,me,Zjs c 8,g.mono (),c.Ka.b,Zu,a,r,R,h,hd,(),λy s1=>?_⟩];erw[⟨_,_,R,R,_,R,Zi (by rw[SR ()];lia) ?_⟩];sleep 1;have i:=h.same s1;obtain⟨C,d,fs,l,cl,_,⟨f,me⟩⟩:=Mc c i;erw[⟨_,R,a,C,d,fs,_,_,_,_,_,Zv,E0,R,l,f,cl,me,Zjv c 8,g.mono (),c.Kb.b,Zu,a,r,R,i,hd,λj s2=>?_⟩];exact⟨_,_,R,R,_,R,Zi (by rw[SR ()];lia) (q j (s1.trans s2))⟩
inductive WZ(c:RC)(K:Ox)(q:RT->Prop)(n:Nat)(vs:List V)(H:Hp)(Q:VK)(_e3:XK):Prop|mk (a:Addr) (r:RT) (_:vs=[.ref a]) (_:ZS c K H a r) (_:q r) (_:r.good) (_:r.weight<=15) (_:r.depth<=8) (_:r.depth<=n) (_:∀b H',Zc H H'->ZS c K (Y9 H' H) b r->Q (.ref b) H')
structure VN(P:Program)(w:World)(K:Ox)(mg:Ow)(base:Heap)(t:Ya)(n:Nat):Prop where
 rule:Zp P w K mg base Zv (4*n+10) t.RI t.RJ ["self"] (WZ (rc t) K L8 n)
 week:Zp P w K mg base Zv (4*n+10) t.RO t.RP ["self"] (WZ (rc t) K Ma n)
 span:Zp P w K mg base Zv (4*n+10) t.RU t.RV ["self"] (WZ (rc t) K Kn n)
 each:Zp P w K mg base Zv (4*n+10) t.RZ t.R0 ["self"] (WZ (rc t) K Mb n)
 either:Zp P w K mg base Zv (4*n+10) t.R6 t.R7 ["self"] (WZ (rc t) K Kr n)
 both:Zp P w K mg base Zv (4*n+10) t.Tb t.Td ["self"] (WZ (rc t) K Ks n)
 but:Zp P w K mg base Zv (4*n+10) t.Th t.Ti ["self"] (WZ (rc t) K Kt n)
def VN.at(R:VN P w K mg base t n)(c:Zy K mg t){r:RT}(h:ZS (rc t) K H a r)(g:r.good)(d:r.weight<=15)(hd:r.depth<=8)(hn:r.depth<=n) :
  ∃(C B:Addr) (fs:List (Str×V)) (f:Addr) (fd:OJ) (sp:Sp),H a=some (.ins C B fs)/\fs.lookup ("copied" : Str)=none/\YO K C/\Ym K C "copied" f/\Zp P w K mg base Zv (4*n+10) f fd ["self"] sp/\XF K fd ["self"] [] /\
   ∀(Q:VK),(∀b j,Zc H j->ZS (rc t) K (Y9 j H) b r->Q (.ref b) j)->sp [.ref a] H Q E0:=by
 cases h with
 |always h=>exact⟨_,_,_,_,_,_,h,rfl,c.Kk,c.TJ.me,R.rule,c.TJ.b,λQ q=>⟨a,_,rfl,.always h,trivial,g,d,hd,hn,q⟩⟩
 |week h G=>exact⟨_,_,_,_,_,_,h,rfl,c.Qt,c.TM.me,R.week,c.TM.b,λQ q=>⟨a,_,rfl,.week h G,trivial,g,d,hd,hn,q⟩⟩
 |span h D x i=>exact⟨_,_,_,_,_,_,h,rfl,c.WW,c.LL.me,R.span,c.LL.b,λQ q=>⟨a,_,rfl,.span h D x i,trivial,g,d,hd,hn,q⟩⟩
 |each h E y u=>exact⟨_,_,_,_,_,_,h,rfl,c.Uo,c.TV.me,R.each,c.TV.b,λQ q=>⟨a,_,rfl,.each h E y u,trivial,g,d,hd,hn,q⟩⟩
 |either h i v=>exact⟨_,_,_,_,_,_,h,rfl,c.Vp,c.LN.me,R.either,c.LN.b,λQ q=>⟨a,_,rfl,.either h i v,trivial,g,d,hd,hn,q⟩⟩
 |both h i v=>exact⟨_,_,_,_,_,_,h,rfl,c.Vq,c.LP.me,R.both,c.LP.b,λQ q=>⟨a,_,rfl,.both h i v,trivial,g,d,hd,hn,q⟩⟩
 |but h u i=>exact⟨_,_,_,_,_,_,h,rfl,c.VM,c.LR.me,R.but,c.LR.b,λQ q=>⟨a,_,rfl,.but h u i,trivial,g,d,hd,hn,q⟩⟩
def ZbD(c:Zy K mg t)(h:ZS (rc t) K H a r):∃C,XW K H (.ref a) (.ref C)/\W.kitOne K (.ref C) (.ref t.Y6)=some true:=by
 cases h with
 |always h=>exact⟨_,c.ZhZ.ty c.Kk h,c.Zh0⟩
 |week h x=>exact⟨_,c.Zh1.ty c.Qt h,c.Zh2⟩
 |span h u i d=>exact⟨_,c.Zh3.ty c.WW h,c.Zh4⟩
 |each h v j f=>exact⟨_,c.Zh5.ty c.Uo h,c.Zh6⟩
 |either h d g=>exact⟨_,c.Zh7.ty c.Vp h,c.Zh8⟩
 |both h d g=>exact⟨_,c.Zh9.ty c.Vq h,c.Zia⟩
 |but h f d=>exact⟨_,c.Zib.ty c.VM h,c.Zic⟩
inductive Zjx(c:RC)(K:Ox)(n:Nat)(vs:List V)(H:Hp)(Q:VK)(_e3:XK):Prop|mk (a:Addr) (r:RT) (_:vs=[.ref a]) (_:ZS c K H a r) (_:r.good) (_:r.weight<=15) (_:r.depth<=8) (_:r.depth<=n) (_:∀b H',Zc H H'->ZS c K (Y9 H' H) b r->Q (.ref b) H')
def C5(c:Zy K mg t)(n:Nat)(R:VN P w K mg base t n):Zp P w K mg base Zv (4*n+11) t.RA t.RB ["rule"] (Zjx (rc t) K n):=by
 erw[c.UD.F.ok uY () λy A outer s H x Q E i h=>?_];ext⟨a,r,rfl,h,g,j,hd,hn,q⟩ h;erw[⟨_,(Zg (ZC (ZX (ZW (ZN wR c.Yy Yx (Zq (pv 0) (XZ rfl c.L0))))) (Zf Vv) ZK) (Zf (Zw (A7 (pv 0))))),?_⟩];sleep 2;obtain⟨B,ty,d⟩:=ZbD c h;erw[⟨_,rfl,.ref a,t.Y6,_,_,rfl,ty,d,_,rfl,Zi () ?_⟩];sleep 1;obtain⟨C,u,fs,f,v,sp,g1,g2,g3,g4,g5,g6,g7⟩:=R.at c h g j hd hn;exact⟨_,rfl,a,C,u,fs,f,v,_,_,sp,Zv,E0,rfl,g1,g2,g3,g4,g5,i.mono (),g6,Zu,g7 _ q⟩
def Kv(f:Str)(v:V):(ZY f v []).length<1000:=Sj (A0 _ _ _) ()
def Zjy(f g:Str)(v u:V):(ZY f v (ZY g u [])).length<1000:=Sj (A0 _ _ _) (Sj (Nat.succ_le_succ (A0 _ _ _)) ())
structure C6(H0 H:Hp)(x C:Addr):Prop where
 no:H0 x=none
 sm:Zc H0 H
 at_:∃dx,H x=some (.ins C dx [])
inductive ZbE(c:RC)(K:Ox)(vs:List V)(H:Hp)(Q:VK)(_e3:XK):Prop|mk (x:Addr) (H0:Hp) (b:Nat) (_:vs=[.ref x,.int b]) (_:C6 H0 H x c.week) (_:b<=127) (_:∀H',Zc H0 H'->ZS c K (Y9 H' H0) x (.week b)->Q .non H')
inductive ZbF(c:RC)(K:Ox)(vs:List V)(H:Hp)(Q:VK)(_e3:XK):Prop|mk (x l:Addr) (H0:Hp) (n:Nat) (ss:OG) (_:vs=[.ref x,.int n,.ref l]) (_:C6 H0 H x c.each) (_:H0 l=some (.lst (YL ss))) (_:(RT.each n ss).good) (_:∀H',Zc H0 H'->ZS c K (Y9 H' H0) x (.each n ss)->Q .non H')
inductive ZbG(c:RC)(K:Ox)(n:Nat)(vs:List V)(H:Hp)(Q:VK)(_e3:XK):Prop|mk (x i:Addr) (H0:Hp) (a b:Nat) (r:RT) (_:vs=[.ref x,.int a,.int b,.ref i]) (_:C6 H0 H x c.span) (_:ZS c K H0 i r) (_:(RT.span a b r).good) (_:(RT.span a b r).weight<=15) (_:(RT.span a b r).depth<=8) (_:r.depth<=n) (_:∀H',Zc H0 H'->ZS c K (Y9 H' H0) x (.span a b r)->Q .non H')
inductive ZbH(c:RC)(K:Ox)(n:Nat)(vs:List V)(H:Hp)(Q:VK)(_e3:XK):Prop|mk (x l i:Addr) (H0:Hp) (ds:OG) (r:RT) (_:vs=[.ref x,.ref l,.ref i]) (_:C6 H0 H x c.but) (_:H0 l=some (.lst (YL ds))) (_:ZS c K H0 i r) (_:(RT.but ds r).good) (_:(RT.but ds r).weight<=15) (_:(RT.but ds r).depth<=8) (_:r.depth<=n) (_:∀H',Zc H0 H'->ZS c K (Y9 H' H0) x (.but ds r)->Q .non H')
inductive Mf(c:RC)(K:Ox)(n:Nat)(C:Addr)(mk:RT->RT->RT)(vs:List V)(H:Hp)(Q:VK)(_e3:XK):Prop|mk (x i j:Addr) (H0:Hp) (r s:RT) (_:vs=[.ref x,.ref i,.ref j]) (_:C6 H0 H x C) (_:ZS c K H0 i r) (_:ZS c K H0 j s) (_:(mk r s).good) (_:(mk r s).weight<=15) (_:(mk r s).depth<=8) (_:r.depth<=n) (_:s.depth<=n) (_:∀H',Zc H0 H'->ZS c K (Y9 H' H0) x (mk r s)->Q .non H')
def ZbI(c:Zy K mg t):Zp P w K mg base Zv 3 t.LD t.RM ["self","bits"] (ZbE (rc t) K):=by
 erw[c.TL.F.ok ZgP () λy A outer s H u Q E f h=>?_];ext⟨x,v,b,rfl,⟨d,s0,g,i⟩,j,q⟩ h;erw[⟨_,(Zg (ZC (ZX (ZW (ZD c.Qr (QQ c) f Zu (Z5 (pv 1) Za (Y8 R c.Zhw))))) (Zf Vv) ZK) (Zf (Wr (pv 0) (pv 1) R))),?_⟩];sleep 2;erw[⟨_,R,.int b,0,127,"int",R,.int _,_,R,Zi (by rw[Ql () ()];lia) ?_⟩];sleep 1;exact⟨_,R,_,R,x,_,g,[],R,i,c.Qt,c.zI,(),q _ (XH d s0 _) (.week (V2 d Zj) j)⟩
def ZbJ(c:Zy K mg t):Zp P w K mg base Zv 4 t.LG t.RY ["self","length","starts"] (ZbF (rc t) K):=by
 erw[c.TU.F.ok ZgU () λL A outer s H M Q E v h=>?_];ext⟨x,l,I,n,J,rfl,⟨d,s0,f,G⟩,u,⟨C,B,g⟩,q⟩ h;erw[⟨_,(Zg (ZC (ZX (ZW (ZD c.Qr (QQ c) v Zu (Z5 (pv 1) Za (Y8 R c.Zhx))))) (Zf Vv) ZK) (Zg (ZC (ZX (ZW (ZD c.J5 (Zbr c) v Zu (X1 (pv 2) (Y8 R c.ZaN) Za (Zl Q6 (pv 1) Za))))) (Zf Vv) ZK) (Zg (Wr (pv 0) (pv 1) R) (Zf (Wr (pv 0) (Z2 G3 R c.U3 U0 (Zh (pv 2))) R))))),?_⟩];sleep 4;erw[⟨_,R,.int n,1,28,"int",R,.int _,_,R,Zi (by rw[Ql () ()];lia) ?_⟩];sleep 1;erw[⟨_,R,_,R,_,_,R,R,l,J,12,0,_,R,s0 _ _ u,g.one,g.few,g.up,λy D=>⟨Sk _,by have:=(g.all y D).2;lia⟩,_,R,Zi () ?_⟩];erw[⟨_,R,_,R,x,_,f,[],R,G,c.Uo,c.zL,(),?_⟩];have s1:=XH d s0 (.ins t.WU f (ZY "length" (.int n) []));erw[⟨_,R,l,_,R,.inl ⟨Ze.of (s1 _ _ u),λp i=>?_⟩⟩];have np:p≠x:=λz=>by rw[z,Zj]at i;cases i
 have j:I p=none:=s1.free i;erw[⟨_,R,x,_,f,_,R,(by rw[Zm np.symm];exact Zj),c.Uo,c.zM,Kv _ _,?_⟩];erw[q _ (XH d (XH j s1 _) _) (.each (V2 d Zj) C B (Zk.of (V2 j (by rw[Zm np];exact Zj))))]
def Mg(s0:Zc d c)(h:c x=some g)(o:HO):Zc (Y9 f c) (Y9 (Zb f x o) d) :=
 I3 s0 λa u n e=>by rwa[Zm (λz=>by rw[z,h]at n;cases n)]
def Mh(s:Zc f d):Zc (Y9 f c) (Y9 d c):=λa o e=>V2 (B1 e).1 (s _ _ (B1 e).2)
def ZbK(d:Zy K mg t)(n:Nat)(R:VN P w K mg base t n):Zp P w K mg base Zv (4*n+12) t.LF t.RS ["self","first","last","rule"] (ZbG (rc t) K n):=by
 erw[d.TQ.F.ok ZgS () λS A outer s H T Q E u h=>?_];ext⟨x,i,O,a,b,r,rfl,⟨j,s0,f,M⟩,J,⟨G,B,g⟩,D,hd,hn,q⟩ h;have U:(RT.span a b r).weight=1+r.weight:=rfl;have X:(RT.span a b r).depth=1+r.depth:=rfl;erw[⟨_,(Zg (ZC (ZX (ZW (ZD d.Qr (QQ d) u Zu (Z5 (pv 1) Za (Y8 rfl d.Tw))))) (Zf Vv) ZK) (Zg (ZC (ZX (ZW (ZD d.Qr (QQ d) u Zu (Z5 (pv 2) (pv 1) (Y8 rfl d.Tw))))) (Zf Vv) ZK) (Zg (Wr (pv 0) (pv 1) rfl) (Zg (Wr (pv 0) (pv 2) rfl) (Zg (Wr (pv 0) (ZD d.UD (C5 d n R) u Zu (Zh (pv 3))) rfl) (Zf (Yk (ZD d.J6 (Me d) u Zu (Zh (pv 0)))))))))),?_⟩];sleep 6;erw[⟨_,rfl,.int a,0,9999,"int",rfl,.int _,_,rfl,Zi (by rw[Ql () ()];lia) ?_⟩];sleep 1;erw[⟨_,rfl,_,rfl,.int b,(a:Nat),9999,"int",rfl,.int _,_,rfl,Zi (by rw[Ql () ()];lia) ?_⟩];erw[⟨_,rfl,_,rfl,x,_,f,[],rfl,M,d.WW,d.zJ,(),?_⟩];have s1:=XH j s0 (.ins t.X4 f (ZY "first" (.int a) []));erw[⟨_,rfl,_,rfl,x,_,f,_,rfl,Zj,d.WW,d.zK,Kv _ _,?_⟩];have s2:=XH j s1 (.ins t.X4 f (ZY "last" (.int b) (ZY "first" (.int a) [])));erw[⟨_,rfl,i,r,rfl,J.same s2,g,(),(),hn,λc C s3 I=>?_⟩];erw[⟨_,rfl,x,_,f,_,rfl,s3 _ _ Zj,d.WW,d.LU,Zjy _ _ _ _,?_⟩];have s4:=XH j (s2.trans s3) (.ins t.X4 f (ZY "inner" (.ref c) (ZY "last" (.int b) (ZY "first" (.int a) []))));have y:ZS (rc t) K (Y9 (Zb C x (.ins t.X4 f (ZY "inner" (.ref c) (ZY "last" (.int b) (ZY "first" (.int a) []))))) O) x (.span a b r) :=
  .span (V2 j Zj) G B (I.same (Mg s2 Zj _))
 exact⟨_,rfl,x,_,rfl,y.same (V3 _ _),D,hd,λL v=>q L (s4.trans v) (y.same (Mh v))⟩
def ZbL(d:Zy K mg t)(n:Nat)(R:VN P w K mg base t n):Zp P w K mg base Zv (4*n+12) t.LJ t.Tg ["self","days","rule"] (ZbH (rc t) K n):=by
 erw[d.T1.F.ok Zg1 () λY A outer s a0 Z Q E B h=>?_];ext⟨x,l,i,L,ds,r,rfl,⟨u,s0,f,J⟩,H,S,⟨j,g⟩,M,hd,hn,q⟩ h;have ew:(RT.but ds r).weight=1+r.weight:=rfl;have ed:(RT.but ds r).depth=1+r.depth:=rfl;erw[⟨_,(Zg (ZC (ZX (ZW (ZD d.J5 (Zbr d) B Zu (X1 (pv 1) (Y8 rfl d.ZaN) Za (Y8 rfl d.Tw))))) (Zf Vv) ZK) (Zg (Wr (pv 0) (Z2 G3 rfl d.U3 U0 (Zh (pv 1))) rfl) (Zg (Wr (pv 0) (ZD d.UD (C5 d n R) B Zu (Zh (pv 2))) rfl) (Zf (Yk (ZD d.J6 (Me d) B Zu (Zh (pv 0)))))))),?_⟩];sleep 4;erw[⟨_,rfl,l,ds,12,0,_,rfl,s0 _ _ H,j.one,j.few,j.up,λy T=>⟨Sk _,by have:=(j.all y T).2;lia⟩,_,rfl,Zi () ?_⟩];sleep 1;erw[⟨_,rfl,l,_,rfl,.inl ⟨Ze.of (s0 _ _ H),λp v=>?_⟩⟩];have np:p≠x:=λz=>by rw[z,J]at v;cases v
 have C:L p=none:=s0.free v;have s1:=XH C s0 (.tup (YL ds));erw[⟨_,rfl,x,_,f,[],rfl,(by rwa[Zm np.symm]),d.VM,d.zN,(),?_⟩];have s2:=XH u s1 (.ins t.Wy f (ZY "days" (.ref p) []));erw[⟨_,rfl,i,r,rfl,S.same s2,g,(),(),hn,λc G s3 O=>?_⟩];erw[⟨_,rfl,x,_,f,_,rfl,s3 _ _ Zj,d.VM,d.LZ,Kv _ _,?_⟩];have s4:=XH u (s2.trans s3) (.ins t.Wy f (ZY "inner" (.ref c) (ZY "days" (.ref p) [])));have X:G p=some (.tup (YL ds)):=s3 _ _ (by rw[Zm np];exact Zj);have I:ZS (rc t) K (Y9 (Zb G x (.ins t.Wy f (ZY "inner" (.ref c) (ZY "days" (.ref p) [])))) L) x (.but ds r) :=
  .but (V2 u Zj) (Zk.of (V2 C (by rwa[Zm np]))) (O.same (Mg s2 Zj _))
 exact⟨_,rfl,x,_,rfl,I.same (V3 _ _),M,hd,λU D=>q U (s4.trans D) (I.same (Mh D))⟩
def ZbM(f:Zy K mg t)(n:Nat)(R:VN P w K mg base t n):Zp P w K mg base Zv (4*n+12) t.LH t.R5 ["self","one","other"] (Mf (rc t) K n t.XO .either):=by
 erw[f.TX.F.ok ZgX () λZ A outer s H vs a0 c0 y h=>?_];ext⟨x,i,j,I,r,u,rfl,⟨v,s0,g,G⟩,T,Y,⟨g1,g2⟩,O,hd,U,L,q⟩ h;have ew:(RT.either r u).weight=1+(r.weight+u.weight):=rfl;have ed:(RT.either r u).depth=1+max r.depth u.depth:=rfl;erw[⟨_,(Zg (Wr (pv 0) (ZD f.UD (C5 f n R) y Zu (Zh (pv 1))) rfl) (Zg (Wr (pv 0) (ZD f.UD (C5 f n R) y Zu (Zh (pv 2))) rfl) (Zf (Yk (ZD f.J6 (Me f) y Zu (Zh (pv 0))))))),?_⟩];sleep 3;erw[⟨_,rfl,i,r,rfl,T.same s0,g1,(),(),U,λc M s1 Q=>?_⟩];erw[⟨_,rfl,x,_,g,_,rfl,s1 _ _ G,f.Vp,f.LV,(),?_⟩];have s2:=XH v (s0.trans s1) (.ins t.XO g (ZY "one" (.ref c) []));erw[⟨_,rfl,j,u,rfl,Y.same s2,g2,(),(),L,λd C s3 S=>?_⟩];erw[⟨_,rfl,x,_,g,_,rfl,s3 _ _ Zj,f.Vp,f.LW,Kv _ _,?_⟩];have s4:=XH v (s2.trans s3) (.ins t.XO g (ZY "other" (.ref d) (ZY "one" (.ref c) [])));have J:Zc (Y9 M H) (Y9 (Zb C x (.ins t.XO g (ZY "other" (.ref d) (ZY "one" (.ref c) [])))) I):=I3 s0 λa b0 E e=>by
  have ne:a≠x:=λz=>by rw[z,G]at E;cases E
  rw[Zm ne];exact s3 _ _ (by rwa[Zm ne])
 have D:ZS (rc t) K (Y9 (Zb C x (.ins t.XO g (ZY "other" (.ref d) (ZY "one" (.ref c) [])))) I) x (.either r u) :=
  .either (V2 v Zj) (Q.same J) (S.same (Mg s2 Zj _))
 exact⟨_,rfl,x,_,rfl,D.same (V3 _ _),O,hd,λX B=>q X (s4.trans B) (D.same (Mh B))⟩
def ZbN(f:Zy K mg t)(n:Nat)(R:VN P w K mg base t n):Zp P w K mg base Zv (4*n+12) t.LI t.Ta ["self","one","other"] (Mf (rc t) K n t.XQ .both):=by
 erw[f.TZ.F.ok ZgZ () λZ A outer s H vs a0 c0 y h=>?_];ext⟨x,i,j,I,r,u,rfl,⟨v,s0,g,G⟩,T,Y,⟨g1,g2⟩,O,hd,U,L,q⟩ h;have ew:(RT.both r u).weight=1+(r.weight+u.weight):=rfl;have ed:(RT.both r u).depth=1+max r.depth u.depth:=rfl;erw[⟨_,(Zg (Wr (pv 0) (ZD f.UD (C5 f n R) y Zu (Zh (pv 1))) rfl) (Zg (Wr (pv 0) (ZD f.UD (C5 f n R) y Zu (Zh (pv 2))) rfl) (Zf (Yk (ZD f.J6 (Me f) y Zu (Zh (pv 0))))))),?_⟩];sleep 3;erw[⟨_,rfl,i,r,rfl,T.same s0,g1,(),(),U,λc M s1 Q=>?_⟩];erw[⟨_,rfl,x,_,g,_,rfl,s1 _ _ G,f.Vq,f.LX,(),?_⟩];have s2:=XH v (s0.trans s1) (.ins t.XQ g (ZY "one" (.ref c) []));erw[⟨_,rfl,j,u,rfl,Y.same s2,g2,(),(),L,λd C s3 S=>?_⟩];erw[⟨_,rfl,x,_,g,_,rfl,s3 _ _ Zj,f.Vq,f.LY,Kv _ _,?_⟩];have s4:=XH v (s2.trans s3) (.ins t.XQ g (ZY "other" (.ref d) (ZY "one" (.ref c) [])));have J:Zc (Y9 M H) (Y9 (Zb C x (.ins t.XQ g (ZY "other" (.ref d) (ZY "one" (.ref c) [])))) I):=I3 s0 λa b0 E e=>by
  have ne:a≠x:=λz=>by rw[z,G]at E;cases E
  rw[Zm ne];exact s3 _ _ (by rwa[Zm ne])
 have D:ZS (rc t) K (Y9 (Zb C x (.ins t.XQ g (ZY "other" (.ref d) (ZY "one" (.ref c) [])))) I) x (.both r u) :=
  .both (V2 v Zj) (Q.same J) (S.same (Mg s2 Zj _))
 exact⟨_,rfl,x,_,rfl,D.same (V3 _ _),O,hd,λX B=>q X (s4.trans B) (D.same (Mh B))⟩
def VO(nx:H x=none)(nd:H c=none):C6 H (Zb (Zb H c (.own x)) x (.ins C c [])) x C :=
 ⟨nx,XH nx (XH nd (Zc.refl _) _) _,c,Zj⟩
def ZbO(c:Zy K mg t)(n:Nat):Zp P w K mg base Zv (4*n+10) t.RI t.RJ ["self"] (WZ (rc t) K L8 n):=by
 erw[c.TJ.F.ok ZgM () λy A outer s H u Q E f h=>?_];ext⟨a,r,rfl,h,d,g,j,hd,hn,q⟩ h;erw[⟨_,(Zf (Zw (vA c.Za3 R c.L0))),?_⟩];sleep 1;cases h with
 |always h=>exact λx i nx nd v=>q x _ (XH nx (XH nd (Zc.refl _) _) _) (.always (V2 nx Zj))
 |_=>exact d.elim
def ZbP(c:Zy K mg t)(n:Nat):Zp P w K mg base Zv (4*n+10) t.RO t.RP ["self"] (WZ (rc t) K Ma n):=by
 erw[c.TM.F.ok ZgQ () λG A outer s H C Q E d h=>?_];ext⟨a,r,rfl,h,f,g,B,hd,hn,q⟩ h;erw[⟨_,(Zf (Zw (Vy c.Za4 (ZbI c) (d.mono ()) R c.Zbg c.TL.b .nil Zu (Zh (ZR (pv 0) R))))),?_⟩];sleep 1;cases h with
 |week h v=>exact⟨_,R,a,_,_,_,_,R,h,c.Qt,c.zI,R,λx y nx nd D=>⟨x,H,_,R,VO nx nd,v,λj i u=>⟨R,q x j i u⟩⟩⟩
 |_=>exact f.elim
def ZbQ(c:Zy K mg t)(n:Nat):Zp P w K mg base Zv (4*n+10) t.RZ t.R0 ["self"] (WZ (rc t) K Mb n):=by
 erw[c.TV.F.ok ZgV () λD A outer s H J Q E B h=>?_];ext⟨a,r,rfl,h,d,g,I,hd,hn,q⟩ h;erw[⟨_,(Zf (Zw (Vy c.Za6 (ZbJ c) (B.mono ()) R c.Zbi c.TU.b .nil Zu (Zq (ZR (pv 0) R) (Z2 VB R c.YU YT (Zh (ZR (pv 0) R))))))),?_⟩];sleep 1;cases h with
 |each h M G y =>
  rename_i O C T f;erw[⟨_,R,a,_,_,_,_,R,h,c.Uo,c.zL,R,_,R,a,_,_,_,_,R,h,c.Uo,c.zM,R,_,_,R,.inr y,λl i x S nx nd L=>?_⟩];have s1:=Zt i (.lst (YL f));exact⟨x,l,_,_,_,R,VO nx nd,Zj,g,λu j v=>⟨R,q x u (s1.trans j) (v.same (I3 s1 λ_ _ _ e=>e))⟩⟩
 |_=>exact d.elim
def Zjz(c:Zy K mg t)(n:Nat)(R:VN P w K mg base t n):Zp P w K mg base Zv (4*(n+1)+10) t.RU t.RV ["self"] (WZ (rc t) K Kn (n+1)):=by
 erw[c.LL.F.ok qE () λI A outer s H J Q E G h=>?_];ext⟨a,r,rfl,h,f,g,j,hd,hn,q⟩ h;erw[⟨_,(Zf (Zw (Vy c.Za5 (ZbK c n R) (G.mono ()) rfl c.Zbh c.TQ.b .nil Zu (Z5 (ZR (pv 0) rfl) (ZR (pv 0) rfl) (ZR (pv 0) rfl))))),?_⟩];sleep 1;cases h with
 |span h T S u =>
  rename_i M i D v d;have U:(RT.span D v d).depth=1+d.depth:=rfl;exact⟨_,rfl,a,_,_,_,_,rfl,h,c.WW,c.zJ,rfl,_,rfl,a,_,_,_,_,rfl,h,c.WW,c.zK,rfl,_,rfl,a,_,_,_,_,rfl,h,c.WW,c.LU,rfl,
   λx O nx nd L=>⟨x,_,H,_,_,_,rfl,VO nx nd,u,g,j,hd,(),λB y C=>⟨rfl,q x B y C⟩⟩⟩
 |_=>exact f.elim
def ZjA(c:Zy K mg t)(n:Nat)(R:VN P w K mg base t n):Zp P w K mg base Zv (4*(n+1)+10) t.Th t.Ti ["self"] (WZ (rc t) K Kt (n+1)):=by
 erw[c.LR.F.ok qK () λL A outer s H M Q E I h=>?_];ext⟨a,r,rfl,h,j,g,v,hd,hn,q⟩ h;erw[⟨_,(Zf (Zw (Vy c.Za9 (ZbL c n R) (I.mono ()) rfl c.Zbl c.T1.b .nil Zu (Zq (Z2 VB rfl c.YU YT (Zh (ZR (pv 0) rfl))) (ZR (pv 0) rfl))))),?_⟩];sleep 1;cases h with
 |but h D y =>
  rename_i S J i d f;have U:(RT.but d f).depth=1+f.depth:=rfl;erw[⟨_,rfl,a,_,_,_,_,rfl,h,c.VM,c.zN,rfl,_,_,rfl,.inr D,λl u=>?_⟩];have s1:=Zt u (.lst (YL d));exact⟨_,rfl,a,_,_,_,_,rfl,s1 _ _ h,c.VM,c.LZ,rfl,λx T nx nd O=>⟨x,l,_,_,_,_,rfl,VO nx nd,Zj,y.same s1,g,v,hd,(),λC B G=>⟨rfl,q x C (s1.trans B) (G.same (I3 s1 λ_ _ _ e=>e))⟩⟩⟩
 |_=>exact j.elim
def ZjB(c:Zy K mg t)(n:Nat)(R:VN P w K mg base t n):Zp P w K mg base Zv (4*(n+1)+10) t.R6 t.R7 ["self"] (WZ (rc t) K Kr (n+1)):=by
 erw[c.LN.F.ok qG () λJ A outer s H L Q E G h=>?_];ext⟨a,r,rfl,h,u,g,v,hd,hn,q⟩ h;erw[⟨_,(Zf (Zw (Vy c.Za7 (ZbM c n R) (G.mono ()) rfl c.Zbj c.TX.b .nil Zu (Zq (ZR (pv 0) rfl) (ZR (pv 0) rfl))))),?_⟩];sleep 1;cases h with
 |either h y I =>
  rename_i O i j f d;have T:(RT.either f d).depth=1+max f.depth d.depth:=rfl;exact⟨_,rfl,a,_,_,_,_,rfl,h,c.Vp,c.LV,rfl,_,rfl,a,_,_,_,_,rfl,h,c.Vp,c.LW,rfl,
   λx S nx nd M=>⟨x,_,_,H,_,_,rfl,VO nx nd,y,I,g,v,hd,(),(),λC B D=>⟨rfl,q x C B D⟩⟩⟩
 |_=>exact u.elim
def ZjC(c:Zy K mg t)(n:Nat)(R:VN P w K mg base t n):Zp P w K mg base Zv (4*(n+1)+10) t.Tb t.Td ["self"] (WZ (rc t) K Ks (n+1)):=by
 erw[c.LP.F.ok qI () λJ A outer s H L Q E G h=>?_];ext⟨a,r,rfl,h,u,g,v,hd,hn,q⟩ h;erw[⟨_,(Zf (Zw (Vy c.Za8 (ZbN c n R) (G.mono ()) rfl c.Zbk c.TZ.b .nil Zu (Zq (ZR (pv 0) rfl) (ZR (pv 0) rfl))))),?_⟩];sleep 1;cases h with
 |both h y I =>
  rename_i O i j f d;have T:(RT.both f d).depth=1+max f.depth d.depth:=rfl;exact⟨_,rfl,a,_,_,_,_,rfl,h,c.Vq,c.LX,rfl,_,rfl,a,_,_,_,_,rfl,h,c.Vq,c.LY,rfl,
   λx S nx nd M=>⟨x,_,_,H,_,_,rfl,VO nx nd,y,I,g,v,hd,(),(),λC B D=>⟨rfl,q x C B D⟩⟩⟩
 |_=>exact u.elim
theorem C7(c:Zy K mg t):∀n,VN P w K mg base t n
 |0=>by
  have no:∀{q:RT->Prop},∀vs H Q E,WZ (rc t) K q 0 vs H Q E->False:=λvs H Q E h=>by
   ext⟨a,r,rfl,h,j,g,u,hd,hn,_⟩ h;have:=r.depth_pos;lia
  exact⟨ZbO c 0,ZbP c 0,
   c.LL.F.ok qE (λvs H Q E h=>(no vs H Q E h).elim) (λi A outer s H vs Q E f h=>(no vs H Q E h).elim),ZbQ c 0,
   c.LN.F.ok qG (λvs H Q E h=>(no vs H Q E h).elim) (λi A outer s H vs Q E f h=>(no vs H Q E h).elim),
   c.LP.F.ok qI (λvs H Q E h=>(no vs H Q E h).elim) (λi A outer s H vs Q E f h=>(no vs H Q E h).elim),
   c.LR.F.ok qK (λvs H Q E h=>(no vs H Q E h).elim) (λi A outer s H vs Q E f h=>(no vs H Q E h).elim)⟩
 |n+1=>have d:=C7 c n
  ⟨ZbO c (n+1),ZbP c (n+1),Zjz c n d,ZbQ c (n+1),ZjB c n d,ZjC c n d,ZjA c n d⟩
def ZjD(c:Zy K mg t):Zp P w K mg base Zv 40 t.LF t.RS ["self","first","last","rule"] (ZbG (rc t) K 7):=ZbK c 7 (C7 c 7)
def ZjE(c:Zy K mg t):Zp P w K mg base Zv 40 t.LJ t.Tg ["self","days","rule"] (ZbH (rc t) K 7):=ZbL c 7 (C7 c 7)
def ZjF(c:Zy K mg t):Zp P w K mg base Zv 40 t.LH t.R5 ["self","one","other"] (Mf (rc t) K 7 t.XO .either):=ZbM c 7 (C7 c 7)
def ZjG(c:Zy K mg t):Zp P w K mg base Zv 40 t.LI t.Ta ["self","one","other"] (Mf (rc t) K 7 t.XQ .both):=ZbN c 7 (C7 c 7)
def ZjH(c:Zy K mg t):Zp P w K mg base Zv 40 t.LD t.RM ["self","bits"] (ZbE (rc t) K):=(ZbI c).mono ()
def ZjI(c:Zy K mg t):Zp P w K mg base Zv 40 t.LG t.RY ["self","length","starts"] (ZbF (rc t) K):=(ZbJ c).mono ()
def tx(l:OG):Str:=⟨l.toArray⟩
def Up(l:OG):(tx l).length=l.length:=by show l.toArray.size=_;rw[SM]
def Mi(a b:OG):tx a++tx b=tx (a++b):=by
 show Str.mk (a.toArray++b.toArray)=_;rw[List.append_toArray];rfl
def Kw(l:OG):(tx l).cps.toList=l:=by show l.toArray.toList=l;rfl
def ZjJ(h:tx a=tx b):a=b:=by
 have:=congrArg (λz:Str=>z.cps.toList) h;rwa [Kw,Kw]at this
theorem ZbR:∀l:List Nat,Str.join (OK "") (l.map λc=>tx [c])=tx l
 |[]=>rfl
 |c::l=>by
  rw[SL,show OK ""=(⟨#[]⟩:Str)from R,PyProof.Rows.join_nil_cons];have d:=ZbR l;rw[show OK ""=(⟨#[]⟩:Str)from R]at d;rw[d,Mi];rfl
def ZbS:∀i:Nat,i<26->Xy (OK "abcdefghijklmnopqrstuvwxyz").cps.toList (i:Int)=some (97+i):=by lia
def ZjK(h:∀i j,i<j->j<n->f i≠f j):((List.range n).map f).Nodup:=by
 unfold List.Nodup;rw[List.pairwise_map];exact List.Pairwise.imp_of_mem (λ{a b} ha d c=>h a b c (List.mem_range.mp d)) List.pairwise_lt_range
def ZjL(l:OG)(h:l.length<=20):((l.map λc=>tx [c]).map λx=>x.length+(OK "").length).sum<=sizeLine :=
 Zfy (m:=0) () (by rwa[Sv]) λx d=>by
  obtain⟨c,_,rfl⟩:=SI.mp d;rw[Up,Sw];lia
structure Yg where
 nm:Str
 z:Nat
 ch:Nat
structure Cl where
 st:Str
 ar:Nat
 lv:Nat
def Yd(H:Hp)(v:V)(c:Cl):Prop:=∃p,v=.ref p/\H p=some (.tup [.str c.st,.int (c.ar:Nat),.int (c.lv:Nat)])
def Yd.same(s:Zc H d)(h:Yd H v c):Yd d v c:=let ⟨p,e,h⟩:=h;⟨p,e,s _ _ h⟩
def Ky:V->Int
 |.int i=>i
 |_=>0
def XS(lo hi:Int):List V->Bool
 |[]=>true
 |x::r=>Yq x lo hi && XS (Ky x+1) hi r
def Kz(k:Kd H v T):W.kitOne K (.type T) (.type "list")=some (decide (T="list")):=by
 cases k<;>rfl
inductive ZjM(vs:List V)(H:Hp)(Q:VK)(_e3:XK):Prop|mk (v:V) (n lo hi:Int) (_:vs=[v,.int n,.int lo,.int hi]) (_:((∃T,Kd H v T/\T ≠ "list" /\ Q (.bl false) H)\/(∃(a:Addr) (xs:List V),v=.ref a/\H a=some (.lst xs)/\(∀x∈xs,∃T,Kd H x T)/\Q (.bl (decide (1<=xs.length/\(xs.length:Int)<=n) && XS lo hi xs)) H)))
def ZjN(g:Zy K mg t):Zp P w K mg base Zv 3 t.Ry t.Rz ["values","longest","least","most"] ZjM:=by
 erw[g.J5.F.ok Qq () λO A outer s H S Q E M h=>?_];ext⟨v,n,lo,c,rfl,h⟩ h;erw[⟨_,(Zg (ZC (PW.pt (Vf (ZX (ZW (ZN X9 g.Yy Yx (Zq (pv 0) (X0 R g.YU YT))))) (Vu (ZX (Q8 XE XE Za (ZN VA g.XR XM (Zh (pv 0))) (pv 1)))))) (Zf (Zw YY)) ZK) (Zg (ZA 4 Qq.nd (pv 2)) (Zg (W8 (Xx (pv 0)) (Yl 5 Qq.nd) (Zg (ZC (ZX (ZW (ZD g.Qr (QQ g) M Zu (Z5 (pv 5) (pv 4) (pv 3))))) (Zf (Zw YY)) ZK) (Zf (ZA 4 Qq.nd (Zl YZ (pv 5) Za))))) (Zf (Zw YY))))),?_⟩];rcases h with⟨T,kd,I,q⟩|⟨a,xs,rfl,ha,J,q⟩;exact⟨_,R,v,"list",_,_,R,kd.ty,Kz kd,_,R,Zo (by rw[SR I];rfl) q⟩;erw[⟨_,R,.ref a,"list",_,_,R,.lst ha,R,_,R,Zi () ?_⟩];erw[⟨_,R,a,_,R,.inl (Ze.of ha),_,_,R,R,_,R,?_⟩];by_cases D:1<=xs.length
 rotate_left
 erw[Zi (by rw[SR ()];lia) ?_];erw[⟨_,R,Zo R ?_⟩];rw[SR (λz=>D z.1),Bool.false_and]at q;exact q;erw[Zo (SQ ()) ⟨_,R,_,_,R,R,_,R,?_⟩];by_cases j:(xs.length:Int)<=n
 rotate_left
 erw[Zo (by rw[SR j];rfl) ?_];rw[SR (λz=>j z.2),Bool.false_and]at q;exact q;erw[Zi (by rw[SQ j];lia) ?_];rw[SQ ⟨D,j⟩,Ot]at q;refine⟨_,R,_,R,a,R,⟨_,Ze.of ha⟩,F4 (xs:=xs) (λi B y=>y=H/\∃(f:Int) (u:Option V),B=[some (.ref a),some (.int n),some (.int lo),some (.int c),some (.int f),u]/\XS lo c xs=XS f c (xs.drop i))
  ⟨R,lo,_,R,R⟩ (λi B y _ ⟨e,_⟩=>by rw[e];exact Ze.of ha) ?_ ?_⟩
 rintro i x B y C ⟨rfl,f,u,rfl,d⟩;have G:i<xs.length:=(Sr.mp C).1;have L:xs.drop i=x::xs.drop (i+1):=by
  rw[List.drop_eq_getElem_cons G,(Sr.mp C).2]
 rw[L]at d;obtain⟨T,kx⟩:=J x (SJ C);erw[⟨_,R,_,R,_,R,x,f,c,T,R,kx,_,R,?_⟩];cases hn:Yq x f c with
 |false =>
  erw[Zo R ?_];have e:XS lo c xs=false:=by
   rw[d];show(Yq x f c && _)=false;rw[hn];rfl
  rw[e]at q;exact q
 |true =>
  erw[Zi () ?_];cases x with
  |int m =>
   erw[⟨_,R,_,_,R,R,R,m+1,_,R,?_⟩];rw[d];show(Yq (.int m) f c && XS (m+1) c (xs.drop (i+1)))=_;rw[hn,Ot]
  |_=>cases hn
 rintro B y ⟨rfl,f,u,rfl,d⟩;rw[List.drop_length]at d;have e:XS lo c xs=true:=d;rw[e]at q;exact q
def Ql{b:Nat}{lo hi:Int}(h1:lo<=b)(c:(b:Int)<=hi):Yq (.int b) lo hi=true:=SQ ⟨h1,c⟩
def Wk:Str:=⟨#[97,98,99,100,101,102,103,104,105,106,107,108,109,110,111,112,113,114,115,116,117,118,119,120,121,122]⟩
def ZbT:OK "abcdefghijklmnopqrstuvwxyz"=Wk:=by lia
def ZjO:∀i:Nat,i<26->Xz Wk (97+i)=true:=by lia
def ZjP{z:Str}(h:Yc z):((z.cps.toList.map λc=>Xz Wk c).all id)=true:=by
 rw[List.all_eq_true];intro b d;obtain⟨c,f,rfl⟩:=SI.mp d;have:=h.2.2.1 c f;have e:=ZjO (c - 97) ();rw[show 97+(c - 97)=c by lia]at e;exact e
def ZjQ(h:Xz Wk c=true):97<=c/\c<=122:=by
 by_cases e:97<=c/\c<=122;exact e;exfalso;unfold Xz at h;rw[W.occ_nil_of_no _ _ 1 (λi d=>?_)]at h;cases h;have d:i<26:=d;show(Wk.cps.extract i (i+1)==#[c])=false;rw[(():∀i,i<26->Wk.cps.extract i (i+1)=#[97+i]) i d];simp only[beq_eq_false_iff_ne,ne_eq,Array.mk.injEq,List.cons.injEq,and_true];lia
def Vk(H:Hp)(v:V):Prop:=(∃T,Kd H v T)/\∀z,v=.str z->z.length<=100
def Vk.same(s:Zc H c)(h:Vk H v):Vk c v:=let ⟨⟨T,k⟩,l⟩:=h;⟨⟨T,k.same s⟩,l⟩
def QS(z:Str)(h:z.length<=100):Vk H (.str z):=⟨⟨_,.str z⟩,λy e=>by injection e with e;rwa[<-e]⟩
def ZjR(i:Int):Vk H (.int i):=⟨⟨_,.int i⟩,λ_ e=>by cases e⟩
def ZjS:Vk H .non:=⟨⟨_,.non⟩,λ_ e=>by cases e⟩
def ZjT(b:Bool):Vk H (.bl b):=⟨⟨_,.bl b⟩,λ_ e=>by cases e⟩
def ZbU(h:Kd H (.ref a) T):Vk H (.ref a):=⟨⟨_,h⟩,λ_ e=>by cases e⟩
def Wm(z:Str):Bool:=decide (1<=z.length/\z.length<=8) && (z.cps.toList.map λc=>Xz Wk c).all id
def Y1:V->Bool
 |.str z=>Wm z
 |_=>false
def ZbV(h:Yc z):Wm z=true:=by
 unfold Wm;rw[ZjP h,SQ ⟨h.1,h.2.1⟩];rfl
def Vr(h:Y1 v=true):∃z,v=.str z/\Wm z=true:=by
 cases v with
 |str z=>exact⟨z,R,h⟩
 |_=>cases h
def YJ:V->Nat
 |.int i=>i.toNat
 |_=>0
def XC:V->Str
 |.str z=>z
 |_=>OK ""
def ZjU(h:Wm z=true):Yc z:=by
 unfold Wm at h;rw[Bool.and_eq_true]at h;have d:=SS h.1;erw[⟨d.1,d.2,λc g=>?_,trivial⟩];have f:=List.all_eq_true.mp h.2 _ (SI.mpr ⟨c,g,R⟩);exact ZjQ f
def Vs(h:Yq v lo hi=true)(c:0<=lo):v=.int ((YJ v:Nat):Int)/\lo<=((YJ v:Nat):Int)/\((YJ v:Nat):Int)<=hi:=by
 cases v with
 |int i =>
  have:=SS h;have e:((i.toNat:Nat):Int)=i:=Int.toNat_of_nonneg ();exact⟨congrArg V.int e.symm,by show lo<=((i.toNat:Nat):Int);lia,by show((i.toNat:Nat):Int)<=hi;lia⟩
 |_=>cases h
inductive Wn where
 |days|many|name|twice|stop|rule|ticket|trip|number
def Wn.cls(t:Ya):Wn->Addr
 |.days=>t.Wd
 |.many=>t.X2
 |.name=>t.We
 |.twice=>t.Wf
 |.stop=>t.X3
 |.rule=>t.Wh
 |.ticket=>t.Wi
 |.trip=>t.XN
 |.number=>t.Wj
def Wn.txt:Wn->Str
 |.days=>OK "days"
 |.many=>OK "many"
 |.name=>OK "name"
 |.twice=>OK "twice"
 |.stop=>OK "stop"
 |.rule=>OK "rule"
 |.ticket=>OK "ticket"
 |.trip=>OK "trip"
 |.number=>OK "number"
def ck(b:Bool)(w:Wn)(r:Option Wn):Option Wn:=match b with
 |true=>r
 |false=>some w
def Xl{w:Wn}(h:ck b w r=none):b=true/\r=none:=by
 cases b with
 |true=>exact⟨R,h⟩
 |false=>cases h
def ZbW(c k:Int):Int:=(c%1000000007+7919*k+13)*(c%1000000007+7919*k+13)%1000000007*(c%1000000007+7919*k+13)%998244353/11
def VP(c k:Int):Nat:=(ZbW c k).toNat
def ZjV(c k:Int):ZbW c k=((VP c k:Nat):Int):=by
 have e:∀z:Int,z%998244353/11=(((z%998244353/11).toNat:Nat):Int):=λz=>by lia
 exact e _
def ZbX(c k:Int):VP c k<998244353:=by
 have e:∀z:Int,(z%998244353/11).toNat<998244353:=λz=>by lia
 exact e _
inductive ZjW(vs:List V)(H:Hp)(Q:VK)(_e3:XK):Prop|mk (c k:Int) (_:vs=[.int c,.int k]) (_:0<=k) (_:k<=110000) (_:Q (.int (VP c k:Nat)) H)
def KA(d:Zy K mg t):Zp P w K mg base Zv 1 t.jJ t.jK ["_law_cell","_law_k"] ZjW:=by
 erw[d.C3.F.ok qA () λu A outer s H j Q E g h=>?_];ext⟨c,k,rfl,i,f,q⟩ h;erw[⟨_,(Zg (ZA 2 qA.nd (Zl YZ (Zl YZ (Zl ZQ (pv 0) Za) (Zl Q7 Za (pv 1))) Za)) (Zf (Zw (Zl Y5 (Zl ZQ (Zl Q7 (Zl ZQ (Zl Q7 (pv 2) (pv 2)) Za) (pv 2)) Za) Za)))),?_⟩];sleep 2;have g1:0<=c%1000000007:=Int.emod_nonneg _ ();have g2:c%1000000007<1000000007:=Int.emod_lt_of_pos _ ();erw[⟨_,R,_,_,R,R,(),_,R,_,_,R,R,.inl ⟨(),()⟩,_,_,R,R,_,_,R,R,?_⟩];refine⟨_,R,_,R,_,_,R,R,wX (by show 0<=c%1000000007+7919*k+13;lia) (by show c%1000000007+7919*k+13<_;lia),_,_,R,R,(),_,R,_,_,R,R,
  wX (by show 0<=c%1000000007+7919*k+13;lia) (by show c%1000000007+7919*k+13<_;lia),_,_,R,R,(),_,_,R,R,⟨(),()⟩,?_⟩
 rw[<-ZjV c k]at q;exact q
inductive ZjX(K:Ox)(vs:List V)(H:Hp)(Q:VK)(_e3:XK):Prop|mk (a:Addr) (ns:OE) (k:Int) (_:vs=[.ref a,.int k]) (_:Ze K H a (ns.map V.int)) (_:0<=k) (_:∀d:Int,Q (.int d) H)
def ZjY(g:Zy K mg t):Zp P w K mg base Zv 2 t.jH t.jI ["_law_script","_law_k"] (ZjX K):=by
 erw[g.ZaS.F.ok ZgG () λy A outer s H x Q E u h=>?_];ext⟨a,ns,k,rfl,d,v,q⟩ h;erw[⟨_,(Zg (ZC (ZZ F6 (pv 1) (ZN VA g.XR XM (Zh (pv 0)))) (Zf (Zw (Zr ZJ (pv 0) (pv 1)))) ZK) (Zf (Zw Za))),?_⟩];sleep 2;erw[⟨_,R,_,R,a,_,R,.inl d,_,_,R,R,_,R,?_⟩];erw[Xs (λc=>?_) (λc=>?_)];sleep 1;have j:k<((ns.map V.int).length:Nat):=SS c;rw[Sv]at j;have i:k.toNat<ns.length:=by lia
 have f:Xy (ns.map V.int) ((k.toNat:Nat):Int)=some (.int ns[k.toNat]):=Qh (by rw[Oa,Ss i];rfl);rw[show((k.toNat:Nat):Int)=k by lia]at f;exact⟨_,R,_,R,a,_,_,_,R,R,d,f,q _⟩;sleep 1;exact q 0
def Wz(d n:Nat):List Nat:=(List.range n).map λj=>97+VP (d:Nat) ((20+j:Nat):Int)%26
def Qy(d n:Nat):(Wz d n).length=n:=by unfold Wz;rw[Sv,List.length_range]
def ZbY(d n:Nat):∀c∈Wz d n,97<=c/\c<=122:=λc h=>by
 obtain⟨j,_,rfl⟩:=SI.mp h;lia
def XT(d k:Nat):Str:=tx ((Wz d (d%7)).take (d/7%(d%7+1))++[97+(d/56+3*k)%26]++(Wz d (d%7)).drop (d/7%(d%7+1)))
def zW(d k:Nat):Yc (XT d k):=by
 unfold XT;erw[⟨?_,?_,λc f=>?_,trivial⟩];rw[Up,Su,Su,Sw];lia;rw[Up,Su,Su,Sw,Sx,SA,Qy];lia;rw[Kw]at f;rcases SF.mp f with f|f;rcases SF.mp f with f|f;exact ZbY d _ c (List.mem_of_mem_take f);rw[SD]at f;lia;exact ZbY d _ c (List.mem_of_mem_drop f)
def ZjZ(f:i<j)(c:j<9):XT d i≠XT d j:=λe=>by
 unfold XT at e;have e:=ZjJ e;rw[Od,Od]at e;have e:=List.append_cancel_left e;injection e with e _;lia
inductive Zj0(vs:List V)(H:Hp)(Q:VK)(_e3:XK):Prop|mk (d k:Nat) (_:vs=[.int d,.int k]) (_:k<=11) (_:∀H',Zc H H'->Q (.str (XT d k)) H')
def ZbZ(f:Zy K mg t):Zp P w K mg base Zv 2 t.jN t.jO ["_law_seed","_law_k"] Zj0:=by
 erw[f.TC.F.ok Lx () λS A outer s H T Q E O h=>?_];ext⟨d,k,rfl,Z,q⟩ h;erw[⟨_,(Zg (ZA 2 Lx.nd Zs) (Zg (ZA 3 Lx.nd (Vi PySem.F.plainAttrs_str PySem.F.slot_str_join PySem.F.type_str_join Zfx Zs (Zh (Wv (cl:=[(OK "_law_seed",s.heap.objs.size+1),(OK "_law_letters",s.heap.objs.size+2)]) (N:=["_law_j","_law_letters","_law_seed"]) (fr:=[none,some 2,some 0]) R (VW R f.Ul (Zh (Zl ZQ (pv 0) Za))) R () R () ⟨⟨R,Or.inl R,Or.inl R,_,R,R⟩,⟨⟨R,Or.inl R,Or.inl R,_,R,R⟩,trivial⟩⟩ ⟨R,⟨R,trivial⟩⟩ R (λ_ _ _ _ _=>(Yl 0 (show List.Nodup (["_law_j","_law_letters","_law_seed"]:OC) by lia))) (λ_ _ _ _ _=>Wu) (λ_ _ _ _ _=>(Zr xX (pv 1) (Zl ZQ (ZD f.C3 (KA f) O Zu (Zq (pv 2) (Zl YZ Za (pv 0)))) Za))))))) (Zg (ZA 4 Lx.nd (Zl ZQ (Zl Y5 (pv 0) Za) (Zl YZ (ZN MX f.XR XM (Zh (pv 3))) Za))) (Zf (Zw (Zl xC (Zl xC (A2 wL (pv 3) F9 (Qd (pv 4))) (Zr xX (pv 2) (Zl ZQ (Zl YZ (Zl Y5 (pv 0) Za) (Zl Q7 Za (pv 1))) Za))) (A2 wL (pv 3) (Qd (pv 4)) F9))))))),?_⟩];sleep 4;have I:(d:Int)%7=((d%7:Nat):Int):=by lia
 erw[⟨R,_,R,_,_,R,R,(),?_⟩];dsimp only;rw[I];erw[⟨_,R,(),(),G7 (λi u B y=>y=H/\u=((Wz d i).map λc=>tx [c]).map V.str/\∃v,B=[v,some (.str (OK "abcdefghijklmnopqrstuvwxyz")),some (.int d)]) ⟨R,R,none,R⟩ (Sh (show _<=7 by lia) ()) ?_ ?_⟩];rintro i u B y U ha ⟨rfl,rfl,v,rfl⟩;dsimp only[YK,Wb];rw[SW R];have M:(20:Int)+(0+(i:Int))=((20+i:Nat):Int):=by lia
 erw[⟨_,R,_,R,_,R,_,_,R,R,?_⟩];dsimp only[YP,ZU,Oc];rw[M];erw[⟨_,_,R,(),(),_,_,R,R,(),_,_,97+VP (d:Nat) ((20+i:Nat):Int)%26,R,R,(),?_,?_⟩];have:=ZbS (VP (d:Nat) ((20+i:Nat):Int)%26) ();rw[show((VP (d:Nat) ((20+i:Nat):Int)%26:Nat):Int)=((VP (d:Nat) ((20+i:Nat):Int):Nat):Int)%26 by lia]at this;exact this;erw[⟨by rw[Su,Sw];lia,R,?_,_,R⟩];unfold Wz;rw[Oj,SK,SK,SK];rfl;rintro u B y ha ⟨rfl,rfl,v,rfl⟩ p J;have L:((d%7:Nat):Int).toNat=d%7:=by lia
 rw[L];have s2:=Zt J (.lst (((Wz d (d%7)).map λc=>tx [c]).map V.str));erw[⟨_,p,(Wz d (d%7)).map λc=>tx [c],R,R,Ze.of Zj,ZjL _ (by rw[Qy];lia),?_⟩];rw[ZbR];have x:(tx (Wz d (d%7))).length<=sizeLine:=by rw[Up,Qy];exact Sh (show _<=7 by lia) ()
 erw[⟨_,R,_,_,R,R,⟨(),()⟩,_,R,_,R,x,_,_,R,R,_,_,R,R,(by show(0:Int)<((tx (Wz d (d%7))).length:Int)+1;lia),?_⟩];dsimp only;have D:(d:Int)/7%((((tx (Wz d (d%7))).length:Nat):Int)+1)=((d/7%(d%7+1):Nat):Int):=by
  have G:=SX (d/7) (d%7+1);rw[Up,Qy,G,SY d 7];rfl
 rw[D];have j:d/7%(d%7+1)<=d%7:=by have:=Oo (d/7) (show d%7+1>0 by lia);lia
 unfold XT at q;generalize d/7%(d%7+1)=g at j q ⊢;erw[⟨_,R,_,R,_,R,_,R,x,?_⟩];rw[ZeM _ _ (by rwa[Up,Qy]),Kw];erw[⟨_,R,_,R,_,_,R,R,⟨(),()⟩,_,R,_,_,R,R,.inl ⟨(),()⟩,_,_,R,R,_,_,R,R,(),_,_,97+(d/56+3*k)%26,R,R,(),?_,?_⟩];have:=ZbS ((d/56+3*k)%26) ();rw[show(((d/56+3*k)%26:Nat):Int)=((d:Int)/56+3*(k:Int))%26 by lia]at this;exact this;have Y:((Wz d (d%7)).take g).length<=8:=by rw[Sx,Qy];lia
 have X:((Wz d (d%7)).drop g).length<=8:=by rw[SA,Qy];lia
 erw[⟨_,_,R,R,?_,?_⟩];show(tx ((Wz d (d%7)).take g)).length+(tx [97+(d/56+3*k)%26]).length<=sizeLine;rw[Up,Up,Sw];exact Sh (show _<=9 by lia) ();erw[⟨_,R,_,R,_,R,_,R,x,?_⟩];rw[ZeN _ _ (by rwa[Up,Qy]),Kw];erw[⟨_,_,R,R,?_,?_⟩];show(tx ((Wz d (d%7)).take g)++tx [97+(d/56+3*k)%26]).length+(tx ((Wz d (d%7)).drop g)).length<=sizeLine;rw[Mi,Up,Up,Su,Sw];exact Sh (show _<=17 by lia) ();have C:=q _ s2;rw[<-Mi,<-Mi]at C;exact C
inductive Zj1(vs:List V)(H:Hp)(Q:VK)(_e3:XK):Prop|mk (v:V) (T:String) (lo hi:Int) (_:vs=[v,.int lo,.int hi]) (_:Kd H v T) (_:Q (.bl (Yq v lo hi)) H)
def C8(f:Zy K mg t):Zp P w K mg base Zv 1 t.jL t.jM ["_law_thing","_law_least","_law_most"] Zj1:=by
 erw[f.QN.F.ok ZgH () λy A outer s H u Q E j h=>?_];ext⟨v,T,lo,d,rfl,kd,q⟩ h;erw[⟨_,(Zf (Zw (WI (ZN X9 f.Yy Yx (Zq (pv 0) (X0 R f.Xv Xu))) (WI (MG (ZN X9 f.Yy Yx (Zq (pv 0) (X0 R f.ZaK qO)))) (X6 (K9 XE XE (pv 1) (pv 0) (pv 2))))))),?_⟩];erw[⟨_,R,v,"int",_,_,R,kd.ty,wW kd,_,R,?_⟩];cases kd with
 |non=>exact Zi () q
 |str x=>exact Zi () q
 |lst e=>exact Zi () q
 |tup e=>exact Zi () q
 |dK e=>exact Zi () q
 |bl b=>exact Zo () ⟨_,R,_,"bool",_,_,R,(Kd.bl b).ty (H:=H),Lj (H:=H) (.bl b),_,R,_,R,Zi () q⟩
 |int i =>
  erw[Zo () ⟨_,R,_,"bool",_,_,R,(Kd.int i).ty (H:=H),Lj (H:=H) (.int i),_,R,_,R,Zo () ?_⟩];erw[⟨_,R,_,R,_,_,R,R,_,R,?_⟩];erw[Xs (λc=>?_) (λc=>?_)];erw[⟨_,R,_,_,R,R,?_⟩];have g:lo<=i:=SS c;have e:decide (i<=d)=Yq (.int i) lo d:=by
   show decide (i<=d)=decide (lo<=i/\i<=d);exact decide_eq_decide.mpr ⟨λz=>⟨g,z⟩,λz=>z.2⟩
  rw[<-e]at q;exact q;have g:¬ lo<=i:=SU (Oh.mpr c);have e:false=Yq (.int i) lo d:=by
   show false=decide (lo<=i/\i<=d);exact(SR λz=>g z.1).symm
  rw[<-e]at q;exact q
inductive Zj2(vs:List V)(H:Hp)(Q:VK)(_e3:XK):Prop|mk (v:V) (_:vs=[v]) (_:Vk H v) (_:∀H',Zc H H'->Q (.bl (Y1 v)) H')
theorem Zb0(g:Nat->Bool):∀l:List Nat,(l.filter λc=>!g c).isEmpty=(l.map g).all id
 |[]=>rfl
 |c::l=>by
  rw[SL,List.all_cons,<-Zb0 g l,List.filter_cons];cases g c<;>simp
def zX(f:Zy K mg t):Zp P w K mg base Zv 1 t.jP t.jQ ["_law_thing"] Zj2:=by
 erw[f.LK.F.ok ZgI () λU A outer s H X Q E S h=>?_];ext⟨v,rfl,⟨⟨T,kd⟩,I⟩,q⟩ h;have d:=q H (Zc.refl H);erw[⟨_,(Zg (ZC (PW.pt (Vf (ZX (ZW (ZN X9 f.Yy Yx (Zq (pv 0) (X0 R f.Tv Rx))))) (Vu (ZX (Q8 XE XE Za (ZN MX f.XR XM (Zh (pv 0))) Za))))) (Zf (Zw YY)) ZK) (Zf (Zw (Y7 (Lu S.units0) (Wv (cl:=[]) (N:=["_law_sign"]) (fr:=[none]) R (Zgg (pv 0)) R () R () trivial trivial R (λ_ _ _ _ _=>(Yl 0 (show List.Nodup (["_law_sign"]:OC) by lia))) (λ_ _ _ _ _=>(G6 (K8 Zdy (pv 0) Zs R))) (λ_ _ _ _ _=>(pv 0))) (ZI YG) (Xq _))))),?_⟩];erw[⟨_,R,v,"str",_,_,R,kd.ty,Nc kd,_,R,?_⟩];cases kd with
 |non=>exact Zo () (Zo R d)
 |bl b=>exact Zo () (Zo R d)
 |int i=>exact Zo () (Zo R d)
 |lst e=>exact Zo () (Zo R d)
 |tup e=>exact Zo () (Zo R d)
 |dK e=>exact Zo () (Zo R d)
 |str z =>
  have B:z.length<=sizeLine:=Sh (I z R) ();erw[Zi () ⟨_,R,z,R,B,_,_,R,R,_,R,?_⟩];by_cases y:1<=z.length;erw[Zo (SQ ()) ⟨_,_,R,R,_,R,?_⟩];by_cases C:z.length<=8;erw[Zi (by rw[SQ (show((z.length:Nat):Int)<=8 by lia)];lia) ?_];erw[⟨_,R,z,R,Zgh (z:=z) (λi g x u=>u=H/\g=((z.cps.toList.take i).filter λc=>!Xz Wk c).map (λc=>V.str ⟨#[c]⟩)/\∃v,x=[v]) ⟨R,R,_,R⟩ B ?_ ?_⟩];rintro i c g x u Y O ⟨rfl,rfl,v,rfl⟩;dsimp only[YK];erw[⟨_,R,_,_,R,R,_,R,?_⟩];show if (!Xz (OK "abcdefghijklmnopqrstuvwxyz") c)=true then _ else _
  rw[ZbT];have D:z.cps.toList.take (i+1)=z.cps.toList.take i++[c]:=by rw[S0,O];rfl
  cases G:Xz Wk c with
  |true =>
   erw[Zi () ⟨(),R,?_,_,R⟩];rw[D,List.filter_append,List.filter_cons,G];simp
  |false =>
   erw[Zo () ⟨_,R,by rw[Su,Sw];lia,R,?_,_,R⟩];rw[D,List.filter_append,List.filter_cons,G,SK];rfl
  rintro g x u ha ⟨rfl,rfl,v,rfl⟩ p L;have s1:=Zt L (.lst (((z.cps.toList.take z.cps.size).filter λc=>!Xz Wk c).map (λc=>V.str ⟨#[c]⟩)));erw[⟨zL9 R,λJ M=>?_⟩];have s2:=Zt M (.lst []);erw[⟨p,J,_,R,R,Ze.of (s2 _ _ Zj),Ze.of Zj,?_⟩];have j:=q _ (s1.trans s2);rw[show Y1 (.str z)=(z.cps.toList.map λc=>Xz Wk c).all id by show Wm z=_;unfold Wm;rw[SQ ⟨y,C⟩];rfl,<-Zb0]at j;rw[show z.cps.toList.take z.cps.size=z.cps.toList from SZ (by simp)]at j ⊢;rwa[show((z.cps.toList.filter λc=>!Xz Wk c).map λc=>V.str ⟨#[c]⟩).isEmpty=(z.cps.toList.filter λc=>!Xz Wk c).isEmpty by cases (z.cps.toList.filter λc=>!Xz Wk c)<;>rfl];rw[show Y1 (.str z)=false by show Wm z=_;unfold Wm;rw[SR λh=>C h.2];rfl]at d;exact Zo (by rw[SR (show ¬ ((z.length:Nat):Int)<=8 by lia)];lia) d;rw[show Y1 (.str z)=false by show Wm z=_;unfold Wm;rw[SR λh=>y h.1];rfl]at d;exact Zi (by rw[SR ()];lia) ⟨_,R,Zo () d⟩
structure Uq(NS:OC)(cs:List Cl):Prop where
 st:∀c∈cs,c.st∈NS
 rng:∀c∈cs,c.ar<=c.lv/\c.lv<=2879
 fol:∀i a b,cs[i]? = some a->cs[i+1]? = some b->b.st≠a.st/\a.lv<b.ar
 gap:∀i a b,cs[i]? = some a->cs[i+1]? = some b->b.ar<=a.lv+40
def Uq.nil(c:OC):Uq c []:=⟨(),(),(),()⟩
def Zb1(cs:List Cl)(v:V)(T:Nat):Prop:=(cs=[]/\v=.non)\/∃d c,cs=d++[c]/\v=.str c.st/\T=c.lv
def Uq.snoc{c:Cl}(h:Uq u cs)(l:Zb1 cs v T)(E:c.st∈u)(G:c.ar<=c.lv/\c.lv<=2879)(I:V.str c.st≠v)(D:T<c.ar)(H:c.ar<=T+40):Uq u (cs++[c]):=by
 erw[⟨λx f=>?_,λx f=>?_,λi a b d g=>?_,λi a b d g=>?_⟩];rcases SF.mp f with f|f;exact h.st x f;rwa[SD.mp f];rcases SF.mp f with f|f;exact h.rng x f;rwa[SD.mp f];have y:=(Sr.mp g).1;rw[Su,Sw]at y;by_cases C:i+1<cs.length;rw[List.getElem?_append_left ()]at d g;exact h.fol i a b d g;have j:i+1=cs.length:=by lia
 rw[j,Ob (Sg _),Nat.sub_self]at g;obtain rfl:c=b:=So g;rw[List.getElem?_append_left ()]at d;rcases l with⟨rfl,_⟩|⟨B,k,rfl,rfl,rfl⟩;simp at j;rw[Su,Sw]at j;rw[show i=B.length by lia,Ob (Sg _),Nat.sub_self]at d;obtain rfl:k=a:=So d;exact⟨λe=>I (by rw[e]),D⟩;have y:=(Sr.mp g).1;rw[Su,Sw]at y;by_cases C:i+1<cs.length;rw[List.getElem?_append_left ()]at d g;exact h.gap i a b d g;have j:i+1=cs.length:=by lia
 rw[j,Ob (Sg _),Nat.sub_self]at g;obtain rfl:c=b:=So g;rw[List.getElem?_append_left ()]at d;rcases l with⟨rfl,_⟩|⟨B,k,rfl,rfl,rfl⟩;simp at j;rw[Su,Sw]at j;rw[show i=B.length by lia,Ob (Sg _),Nat.sub_self]at d;obtain rfl:k=a:=So d;exact H
inductive Zj3(vs:List V)(H:Hp)(Q:VK)(_e3:XK):Prop|mk (d many:Nat) (ls:Addr) (NS:OC) (_:vs=[.int d,.ref ls,.int many]) (_:H ls=some (.lst (NS.map V.str))) (_:NS.Nodup) (_:2<=NS.length) (_:NS.length<=8) (_:many<=6) (_:∀(cs:List Cl) l vs H',Zc H H'->H l=none->H' l=some (.lst vs)->Al (Yd H') vs cs->Uq NS cs->cs.length=many->Q (.ref l) H')
def Zj4{f:OC}(nd:f.Nodup)(d:2<=f.length)(v:V):(f.filter λz=>!decide (V.str z=v))≠[]:=by
 match f,nd,d with
 |a::b::r,nd,_ =>
  have g:a≠b:=λe=>(Ol.mp nd).1 (by rw[e];exact SC);intro e;have c:¬ ((!decide (V.str a=v))=true):=λh=>by have:a∈([]:OC):=e ▸ List.mem_filter.mpr ⟨SC,h⟩;cases this
  have d:¬ ((!decide (V.str b=v))=true):=λh=>by have:b∈([]:OC):=e ▸ List.mem_filter.mpr ⟨SB _ SC,h⟩;cases this
  simp at c d;rw[<-d]at c;injection c with c;exact g c
def Zb2(y:Zy K mg t):Zp P w K mg base Zv 2 t.jZ t.kA ["_law_number","_law_stops","_law_many"] Zj3:=by
 erw[y.TD.F.ok Ub () λp0 A outer s H h q0 r0 hr n0=>?_];ext⟨d,many,ls,c,rfl,c0,nd,n2,n8,hm,q⟩ n0;erw[⟨_,(Zg (ZA 3 Ub.nd (ZI YG)) (Zg (ZA 4 Ub.nd (Zl YZ (Zr ZJ (ZI (X1 Za Za Za Za)) (Zl ZQ (pv 0) Za)) (Zl ZQ (Zl Y5 (pv 0) Za) Za))) (Zg (ZA 5 Ub.nd UP) (Zg (W8 (VW R y.Ul (Zh (pv 2))) (Yl 6 Ub.nd) (Zg (ZA 7 Ub.nd (ZD y.C3 (KA y) hr Zu (Zq (pv 0) (Zl YZ Za (pv 6))))) (Zg (I0 (i0:=8) (cl:=[(OK "_law_last",s.heap.objs.size+1)]) (N:=["_law_stop","_law_last"]) (fr:=[none,some 5]) Ub.nd R (Or.inl R) R (Xx (pv 1)) R () R () ⟨⟨R,Or.inl R,Or.inl R,_,R,R⟩,trivial⟩ ⟨R,trivial⟩ R (λ_ _ _ _ _=>(Yl 0 (show List.Nodup (["_law_stop","_law_last"]:OC) by lia))) (λ_ _ _ _ _=>(G6 (ZZ K7 (pv 0) (pv 1)))) (λ_ _ _ _ _=>(pv 0))) (Zg (ZA 5 Ub.nd (Zr ZJ (pv 8) (Zl ZQ (pv 7) (ZN VA y.XR XM (Zh (pv 8)))))) (Zg (ZA 9 Ub.nd (Zl YZ (Zl YZ (pv 4) Za) (Zl ZQ (Zl Y5 (pv 7) Za) Za))) (Zg (ZA 10 Ub.nd (Zl YZ (pv 9) (Zl ZQ (Zl Y5 (pv 7) Za) Za))) (Zg (Yk (Vi PySem.F.plainAttrs_list PySem.F.slot_list_append PySem.F.type_list_append VC (pv 3) (Zh (YH (Z5 (pv 5) (pv 9) (pv 10)))))) (Zf (ZA 4 Ub.nd (pv 10)))))))))) (Zf (Zw (pv 3))))))),?_⟩];sleep 5;erw[⟨zL9 R,λg Q=>?_⟩];have s1:=Zt Q (.lst []);have k1:=@Zj H g (.lst []);generalize Zb H g (.lst [])=H1 at s1 k1 ⊢;erw[⟨zL9 R,λS o0=>?_⟩];have s2:=Zt o0 (.lst [.int 300,.int 600,.int 1380,.int 2000]);have k2:=@Zj H1 S (.lst [.int 300,.int 600,.int 1380,.int 2000]);generalize Zb H1 S (.lst [.int 300,.int 600,.int 1380,.int 2000])=H2 at s2 k2 ⊢;obtain⟨B,hB,eB⟩:∃B:Nat,B<=2000/\Xy [V.int 300,.int 600,.int 1380,.int 2000] ((d:Int)%4)=some (.int (B:Nat)):=by
  have h4:d%4<4:=Oo _ ();rw[show(d:Int)%4=((d%4:Nat):Int) by lia];generalize d%4=m at h4 ⊢
  match m,h4 with
  |0,_=>exact⟨300,(),R⟩
  |1,_=>exact⟨600,(),R⟩
  |2,_=>exact⟨1380,(),R⟩
  |3,_=>exact⟨2000,(),R⟩
 erw[⟨_,R,_,_,R,R,(),S,_,_,_,R,R,Ze.of k2,eB,_,R,_,_,R,R,⟨(),()⟩,_,_,R,R,(),_,_,R,R,?_⟩];have S2:=s1.trans s2;have eT:(B:Int)+(d:Int)/4%60=((B+d/4%60:Nat):Int):=by lia
 erw[⟨_,R,_,R,(),(),?_⟩];have en:(many:Int).toNat=many:=by lia
 refine Q5 (n:=(many:Int).toNat) (λi u f=>Zc H f/\∃(cs:List Cl) (h:List V) (T:Nat) (lv:V),f g=some (.lst h)/\Al (Yd (wo f g)) h cs/\Uq c cs/\cs.length=i/\Zb1 cs lv T/\T<=2059+44*i /\
  ∃v6 M Z v9 b0:Option V,u=[some (.int d),some (.ref ls),some (.int many),some (.ref g),some (.int T),some lv,v6,M,Z,v9,b0])
  ⟨S2,[],[],B+d/4%60,.non,s2 _ _ k1,.nil,(Uq.nil c),R,.inl ⟨R,R⟩,(),none,none,none,none,none,?_⟩ ?_ ?_
 rw[<-eT];rfl;rintro i u O hi ⟨s3,cs,h,T,lv,D,G,ok,X,last,hT,v6,M,Z,v9,b0,rfl⟩;rw[en]at hi;rw[show(0:Int)+(i:Int)=(i:Int) by lia];sleep 107;have j0:(50:Int)+(i:Int)=((50+i:Nat):Int):=by lia
 erw[⟨_,R,_,R,_,_,R,R,?_⟩];dsimp only[YP,ZU,Oc];rw[j0];erw[⟨_,_,R,(),(),?_⟩];generalize VP (d:Int) ((50+i:Nat):Int)=m;erw[⟨_,R,ls,R,⟨_,Ze.of (s3 _ _ c0)⟩,WL (K:=K) (a:=ls) (xs:=c.map V.str) (λj E u f=>f=O/\E=(((c.take j).filter λz=>!decide (V.str z=lv))).map V.str/\∃a0,u=[a0,some lv]) ⟨R,R,none,R⟩ (by rw[Sv];exact Sh n8 ()) (λj E u f _ ⟨e,_⟩=>by rw[e];exact Ze.of (s3 _ _ c0)) ?_ ?_⟩];rintro j m0 E u f hj C ⟨rfl,rfl,a0,rfl⟩;rw[Oa]at C;cases v:c[j]? with
 |none=>rw[v]at C;cases C
 |some z =>
  rw[v]at C;obtain rfl:V.str z=m0:=So C;have et:c.take (j+1)=c.take j++[z]:=by rw[S0,v];rfl
  have sc:MN (.str z) lv=true:=by
   rcases last with⟨_,rfl⟩|⟨_,_,_,rfl,_⟩<;>rfl
  dsimp only[YK];erw[⟨_,R,_,R,sc,_,R,?_⟩];cases hb:(!decide (V.str z=lv))with
  |true =>
   erw[Zo R ⟨_,R,by rw[Su,Sw];lia,R,?_,_,R⟩];rw[et,List.filter_append,List.filter_cons,hb,SK];rfl
  |false =>
   erw[Zi SO ⟨(),R,?_,_,R⟩];rw[et,List.filter_append,List.filter_cons,hb];simp
 rintro E u f ha ⟨rfl,rfl,a0,rfl⟩ x J;rw[Sv,List.take_length];have s4:=Zt J (.lst ((c.filter λz=>!decide (V.str z=lv)).map V.str));have I:=@Zj f x (.lst ((c.filter λz=>!decide (V.str z=lv)).map V.str));have f0:=Zj4 nd n2 lv;have t0:x≠g:=λe=>by rw[e,D]at J;cases J
 generalize Zb f x (.lst ((c.filter λz=>!decide (V.str z=lv)).map V.str))=H4 at s4 I ⊢;have d0:∀z∈c.filter (λz=>!decide (V.str z=lv)),z∈c/\V.str z≠lv:=λz v=>by
  have:=List.mem_filter.mp v;exact⟨this.1,by simpa using this.2⟩
 generalize c.filter (λz=>!decide (V.str z=lv))=L at I f0 d0 ⊢;have hL:0<L.length:=List.length_pos_iff.mpr f0;have lp:(0:Int)<(((L.map V.str).length:Nat):Int):=by rw[Sv];lia
 obtain⟨z,v,ez⟩:∃z∈L,Xy (L.map V.str) ((m:Int)%(((L.map V.str).length:Nat):Int))=some (.str z):=by
  have e0:m%L.length<L.length:=Oo _ hL;erw[⟨L[m%L.length],Oi e0,?_⟩];rw[Sv,<-SX];exact Qh (by rw[Oa,Ss e0];rfl)
 obtain⟨k0,g0⟩:=d0 z v;erw[⟨_,R,_,R,_,R,x,_,R,.inl (Ze.of I),_,_,R,R,lp,x,_,_,_,R,R,Ze.of I,ez,?_⟩];erw[⟨_,R,_,_,R,R,_,R,_,_,R,R,⟨(),()⟩,_,_,R,R,(),_,_,R,R,?_⟩];dsimp only;rw[show(T:Int)+1+(m:Int)/8%40=((T+1+m/8%40:Nat):Int) by lia];erw[⟨_,R,_,R,_,_,R,R,⟨(),()⟩,_,_,R,R,(),_,_,R,R,?_⟩];dsimp only;rw[show((T+1+m/8%40:Nat):Int)+(m:Int)/320%5=((T+1+m/8%40+m/320%5:Nat):Int) by lia];have U:=s4 _ _ D;erw[⟨_,R,.inl ⟨R,_,Ze.of U⟩,_,R,_,R,_,R,zL9 R,λpt Y=>?_⟩];have h0:pt≠g:=λe=>by rw[e,U]at Y;cases Y
 have s7:=Zt Y (.tup [.str z,.int ((T+1+m/8%40:Nat):Int),.int ((T+1+m/8%40+m/320%5:Nat):Int)]);have l0:h.length<=6:=by rw[G.length];lia
 erw[⟨g,_,_,R,R,s7 _ _ U,Sj l0 (),?_⟩];erw[⟨_,R,Vm ((s3.trans s4).trans s7) Q _,cs++[⟨z,T+1+m/8%40,T+1+m/8%40+m/320%5⟩],h++[.ref pt],T+1+m/8%40+m/320%5,.str z,Zj,?_,ok.snoc last k0 ⟨by show T+1+m/8%40<=T+1+m/8%40+m/320%5;lia,by show T+1+m/8%40+m/320%5<=2879;lia⟩ g0 (by show T<T+1+m/8%40;lia) (by show T+1+m/8%40<=T+40;lia),by rw[Su,Sw,X],.inr ⟨cs,_,R,R,R⟩,(),_,_,_,_,_,R⟩];rw[Zf0];erw[(G.imp λ_ _=>Yd.same (QJ (s4.trans s7))).app (.cons ⟨pt,R,?_⟩ .nil)];rw[V4 h0];exact Zj;rintro u O ⟨s3,cs,h,T,lv,D,G,ok,X,last,hT,v6,M,Z,v9,b0,rfl⟩;exact⟨_,R,q cs g h O s3 Q D (G.imp λ_ _=>Yd.same Nz) ok (by rw[X,en])⟩
inductive Zj5(vs:List V)(H:Hp)(Q:VK)(_e3:XK):Prop|mk (v:V) (_:vs=[v]) (_:Vk H v) (_:∀H',Zc H H'->Q (.bl (Y1 v)) H')
def Zj6(f:Zy K mg t):Zp P w K mg base Zv 1 t.qV t.qW ["value"] Zj5:=by
 erw[f.ZaP.F.ok ZgA () λD A outer s H G Q E I h=>?_];ext⟨v,rfl,⟨⟨T,kd⟩,B⟩,q⟩ h;ext⟨tk,x⟩ f.Zht;rw[ZbT]at x;have d:=q H (Zc.refl H);erw[⟨_,(Zg (ZC (PW.pt (Vf (ZX (ZW (ZN X9 f.Yy Yx (Zq (pv 0) (X0 R f.Tv Rx))))) (Vu (ZX (Q8 XE XE Za (ZN MX f.XR XM (Zh (pv 0))) (Y8 R f.Zhu)))))) (Zf (Zw YY)) ZK) (Zf (Zw (ZN (M7 R) f.Tq Rv (Zh (ZeB (cl:=[]) R (pv 0) R () R () R)))))),?_⟩];erw[⟨_,R,v,"str",_,_,R,kd.ty,Nc kd,_,R,?_⟩];cases kd with
 |non=>exact Zo () (Zo R d)
 |bl b=>exact Zo () (Zo R d)
 |int i=>exact Zo () (Zo R d)
 |lst e=>exact Zo () (Zo R d)
 |tup e=>exact Zo () (Zo R d)
 |dK e=>exact Zo () (Zo R d)
 |str z =>
  have u:z.length<=sizeLine:=Sh (B z R) ();erw[Zi () ⟨_,R,z,R,u,_,_,R,R,_,R,?_⟩];by_cases g:1<=z.length;erw[Zo (SQ ()) ⟨_,_,R,R,_,R,?_⟩];by_cases y:z.length<=8;erw[Zi (by rw[SQ (show((z.length:Nat):Int)<=8 by lia)];lia) ?_];erw[⟨Wk,ZeC (t:=tk) R R x,_,R,z,R,u,λp C=>?_⟩];erw[⟨p,z.cps.toList.map (λc=>Xz Wk c),R,Ze.of (by rw[Zj,ZeK]),?_⟩];have j:=q _ (Zt C (HO.lst (z.cps.toList.map λc=>V.bl (Xz Wk c))));rw[show Y1 (.str z)=(z.cps.toList.map λc=>Xz Wk c).all id by show Wm z=_;unfold Wm;rw[SQ ⟨g,y⟩];rfl]at j;exact j;rw[show Y1 (.str z)=false by show Wm z=_;unfold Wm;rw[SR λh=>y h.2];rfl]at d;exact Zo (by rw[SR (show ¬ ((z.length:Nat):Int)<=8 by lia)];lia) d;rw[show Y1 (.str z)=false by show Wm z=_;unfold Wm;rw[SR λh=>g h.1];rfl]at d;exact Zi (by rw[SR ()];lia) ⟨_,R,Zo () d⟩
def UF(rows:List (ZF×V)):V->Bool
 |.str z=>(Ys rows (Sum.inr z)).isSome
 |_=>false
inductive Zj7(vs:List V)(H:Hp)(Q:VK)(_e3:XK):Prop|mk (v:V) (T:String) (d:Addr) (kvs:List (ZF×V)) (_:vs=[v,.ref d]) (_:Kd H v T) (_:H d=some (.dK kvs)) (_:Q (.bl (UF kvs v)) H)
def KB(c:Zy K mg t):Zp P w K mg base Zv 1 t.qX t.qY ["value","named"] Zj7:=by
 erw[c.C2.F.ok ZgB () λj A outer s H g Q E f h=>?_];ext⟨v,T,d,u,rfl,kd,hd,q⟩ h;erw[⟨_,(Zf (Zw (WI (ZN X9 c.Yy Yx (Zq (pv 0) (X0 R c.Tv Rx))) (X6 (ZcW (Nx (W3 f) (pv 0) (pv 1))))))),?_⟩];erw[⟨_,R,v,"str",_,_,R,kd.ty,Nc kd,_,R,?_⟩];cases kd with
 |non=>exact Zi () q
 |bl b=>exact Zi () q
 |int i=>exact Zi () q
 |lst e=>exact Zi () q
 |tup e=>exact Zi () q
 |dK e=>exact Zi () q
 |str z=>exact Zo () ⟨_,R,_,R,d,_,R,Xk.k (k:=Sum.inr z) hd,q⟩
inductive Zj8(t:Ya)(vs:List V)(H:Hp)(Q:VK)(E:XK):Prop|mk (v:V) (T:String) (lo hi:Int) (_:vs=[v,.int lo,.int hi]) (_:Kd H v T) (_:(Yq v lo hi=true->Q .non H)) (_:(Yq v lo hi=false->E (.ref t.Wj) none H))
def QT(d:Zy K mg t):Zp P w K mg base (YC P w) 3 t.qT t.qU ["value","least","most"] (Zj8 t):=by
 erw[d.Qs.F.okX Zgz () λj A outer s H i Q E g h=>?_];ext⟨v,T,lo,f,rfl,kd,q,e⟩ h;erw[⟨_,(Zf (ZC (ZX (ZW (ZD d.Qr (QQ d) g Zu (Z5 (pv 0) (pv 1) (pv 2))))) (Zf (Vl Vj d.Zbq R R d.zR (Zh Zs))) ZK)),?_⟩];erw[⟨_,R,_,R,_,R,v,lo,f,T,R,kd,_,R,?_⟩];by_cases c:Yq v lo f=true;exact Zi (by rw[c];lia) (q c);have c:=Oh.mpr c;exact Zo (by rw[c];lia) ⟨zL9 R,e c⟩
inductive Zj9(t:Ya)(vs:List V)(H:Hp)(Q:VK)(E:XK):Prop|mk (v:V) (d:Addr) (kvs:List (ZF×V)) (_:vs=[v,.ref d]) (_:H d=some (.dK kvs)) (_:Vk H v) (_:(Y1 v=false->∀H',Zc H H'->E (.ref t.We) none H')) (_:(Y1 v=true->UF kvs v=true->∀H',Zc H H'->E (.ref t.Wf) none H')) (_:(Y1 v=true->UF kvs v=false->∀H',Zc H H'->Q .non H'))
def Mj(c:Zy K mg t):Zp P w K mg base (YC P w) 2 t.jB t.jC ["name","named"] (Zj9 t):=by
 erw[c.J7.F.okX ZgD () λC A outer s H B Q E g h=>?_];ext⟨v,d,y,rfl,hd,u,j,x,q⟩ h;erw[⟨_,(Zg (ZC (ZX (ZW (ZD c.ZaP (Zj6 c) g Zu (Zh (pv 0))))) (Zf (Vl Vj c.ZiB R R c.Zbc (Zh Zs))) ZK) (Zf (ZC (Wo (Nx (W3 g) (pv 0) (pv 1))) (Zf (Vl Vj c.Zbo R R c.zP (Zh Zs))) ZK))),?_⟩];erw[⟨_,R,v,R,u,λf s1=>⟨_,R,?_⟩⟩];cases hn:Y1 v with
 |false=>exact Zo () ⟨zL9 R,j hn f s1⟩
 |true =>
  obtain⟨z,rfl,_⟩:=Vr hn;erw[Zi () ⟨_,R,_,R,d,_,R,Xk.k (k:=Sum.inr z) (s1 _ _ hd),_,R,?_⟩];cases i:(Ys y (Sum.inr z)).isSome with
  |true=>exact Zo R ⟨zL9 R,x hn i f s1⟩
  |false=>exact Zi SO (q hn i f s1)
inductive Zka(t:Ya)(vs:List V)(H:Hp)(Q:VK)(E:XK):Prop|mk (d:Addr) (kvs:List (ZF×V)) (n:Nat) (_:vs=[.ref d,.int n]) (_:H d=some (.dK kvs)) (_:(decide (kvs.length<n)=true->Q .non H)) (_:(decide (kvs.length<n)=false->E (.ref t.X2) none H))
def Ml(f:Zy K mg t):Zp P w K mg base (YC P w) 1 t.RD t.RE ["kept","most"] (Zka t):=by
 erw[f.QM.F.okX uZ () λu A outer s H j Q E i h=>?_];ext⟨d,g,n,rfl,hd,q,e⟩ h;erw[⟨_,(Zf (ZC (ZZ xA (ZN JW f.XR XM (Zh (pv 0))) (pv 1)) (Zf (Vl Vj f.Zbn R R f.zO (Zh Zs))) ZK)),?_⟩];erw[⟨_,R,d,g,R,hd,_,R,_,_,R,R,_,R,?_⟩];by_cases c:g.length<n;exact Zi (by rw[SR ()];lia) (q (SQ c));exact Zo (SQ ()) ⟨zL9 R,e (SR c)⟩
inductive Zkb(t:Ya)(vs:List V)(H:Hp)(Q:VK)(E:XK):Prop|mk (d:Addr) (xs:List V) (n:Nat) (_:vs=[.ref d,.int n]) (_:H d=some (.lst xs)) (_:(decide (xs.length<n)=true->Q .non H)) (_:(decide (xs.length<n)=false->E (.ref t.X2) none H))
def Zkc(f:Zy K mg t):Zp P w K mg base (YC P w) 1 t.RD t.RE ["kept","most"] (Zkb t):=by
 erw[f.QM.F.okX uZ () λu A outer s H j Q E i h=>?_];ext⟨d,g,n,rfl,hd,q,e⟩ h;refine⟨_,(Zf (ZC (K8 xA (xR VA R f.XR XM (ZM (pv 0) YG)) (pv 1) (Xq _))
  (Zf (Vl Vj f.Zbn R R f.zO (ZM Zs YG)))
  ZK)),?_⟩
 erw[⟨_,R,d,g,R,.inl (Ze.of hd),_,R,_,_,R,R,_,R,?_⟩];by_cases c:g.length<n;exact Zi (by rw[SR ()];lia) (q (SQ c));exact Zo (SQ ()) ⟨zL9 R,e (SR c)⟩
abbrev R3:=RT
def R3.Ok(r:R3):Prop:=RT.good r/\RT.weight r<=15/\RT.depth r<=8
def UG(t:Ya)(H:Hp)(v:V)(r:R3):Prop:=∃b,v=.ref b/\ZS (rc t) t.kf H b r
def UG.same(s:Zc H c)(h:UG t H v r):UG t c v r:=let ⟨b,e,h⟩:=h;⟨b,e,h.same s⟩
def UH(t:Ya)(H:Hp)(v:V):Option RT->Prop
 |some r=>UG t H v r/\R3.Ok r
 |none=>∃T,Kd H v T/\T ≠ "dict"
def UH.same(s:Zc H c)(h:UH t H v o):UH t c v o:=by
 cases o with
 |none=>ext⟨T,k,n⟩ h;exact⟨T,k.same s,n⟩
 |some r=>exact⟨h.1.same s,h.2⟩
def Zkd(c:Zy K mg t)(k:Kd H v T)(n:T ≠ "dict"):W.kitOne K (.type T) (.ref t.Y6)=some false:=by
 cases k with
 |non=>exact c.Zid
 |bl b=>exact c.Zie
 |int i=>exact c.Zif
 |str z=>exact c.Zig
 |lst e=>exact c.Zih
 |tup e=>exact c.Zii
 |dK e=>exact Os R n
inductive Zke(t:Ya)(vs:List V)(H:Hp)(Q:VK)(E:XK):Prop|mk (v:V) (o:Option RT) (_:vs=[v]) (_:UH t H v o) (_:(o=none->E (.ref t.Wd) none H)) (_:∀r,o=some r->∀v' H',Zc H H'->UG t H' v' r->Q v' H')
def Zb3(c:Zy K mg t):Zp P w K mg base (YC P w) 43 t.RA t.RB ["rule"] (Zke t):=by
 erw[c.UD.F.okX uY () λG A outer s H I Q E D h=>?_];ext⟨v,o,rfl,h,e,q⟩ h;erw[⟨_,(Zg (ZC (ZX (ZW (ZN wR c.Yy Yx (Zq (pv 0) (XZ R c.L0))))) (Zf (Vl Vj c.Zis R R c.Zbb (Zh Zs))) ZK) (Zf (Zw (A7 (pv 0))))),?_⟩];cases o with
 |none =>
  ext⟨T,kd,nd⟩ h;exact⟨_,R,v,t.Y6,_,_,R,kd.ty,Zkd c kd nd,_,R,Zo () ⟨zL9 R,e R⟩⟩
 |some r =>
  ext⟨⟨a,rfl,h⟩,g,j,hd⟩ h;rw[c.kf]at h;obtain⟨J,ty,i⟩:=ZbD c h;erw[⟨_,R,.ref a,t.Y6,_,_,R,ty,i,_,R,Zi () ?_⟩];obtain⟨C,x,fs,f,u,sp,g1,g2,g3,g4,g5,g6,g7⟩:=(C7 c 8).at c h g j hd hd;exact⟨_,R,a,C,x,fs,f,u,_,_,sp,Zv,E0,R,g1,g2,g3,g4,g5,D.mono (),g6,Zu,g7 _ λd L y B=>q r R _ _ y ⟨d,R,by rw[c.kf];exact B.same (V3 _ _)⟩⟩
def ZS.keepF(d:∀x C dx (fs:List (Str×V)),fs.lookup ("timetable" : Str)=none->H x=some (.ins C dx fs)->u x=some (.ins C dx fs)) (v:∀p xs,Zk K H p xs->Zk K u p xs) (h:ZS c K H a r):ZS c K u a r:=by
 induction h with
 |always h=>exact .always (d _ _ _ _ R h)
 |week h E=>exact .week (d _ _ _ _ R h) E
 |span h B y _ g=>exact .span (d _ _ _ _ R h) B y g
 |each h hn D j=>exact .each (d _ _ _ _ R h) hn D (v _ _ j)
 |either h _ _ i f=>exact .either (d _ _ _ _ R h) i f
 |both h _ _ i f=>exact .both (d _ _ _ _ R h) i f
 |but h j _ g=>exact .but (d _ _ _ _ R h) (v _ _ j) g
def zY(k1:H p=some (.tup xs)->c p=some (.tup xs))(k2:∀o,H p=some (.frz o (.tup xs))->c p=some (.frz o (.tup xs)))(h:Zk K H p xs):Zk K c p xs :=
 h.imp (λr=>r.imp k1 λ⟨o,e⟩=>⟨o,k2 o e⟩) id
def Xa{c:Type}(nm:c->Str)(xs:List c)(z:Str):Option c:=xs.find? λx=>decide (nm x=z)
def XD{c:Type}{nm:c->Str}{xs:List c}{z:Str}{x:c}(h:Xa nm xs z=some x):x∈xs/\nm x=z:=⟨List.mem_of_find?_eq_some h,SS (List.find?_some (p:=λx=>decide (nm x=z)) h)⟩
def C9{c:Type}{nm:c->Str}{xs:List c}{z:Str}{x:c}(h:Xa nm xs z=some x):Xa nm xs (nm x)=some x:=by rwa[(XD h).2]
def UI{g:Type}{nm:g->Str}{R:ZF×V->g->Prop}(j:∀c x,R c x->c.1=Sum.inr (nm x)){rows:List (ZF×V)}{xs:List g}(h:Al R rows xs)(z:Str) :
  (Xa nm xs z=none->Ys rows (Sum.inr z)=none)/\∀x,Xa nm xs z=some x->∃c,Ys rows (Sum.inr z)=some c.2/\R c x:=by
 induction h with
 |nil=>exact⟨λ_=>rfl,λk e=>by cases e⟩
 |@cons c k rows xs i _ v =>
  by_cases e:nm k=z;have f:c.1=Sum.inr z:=by rw[j _ _ i,e]
  have d:Xa nm (k::xs) z=some k:=by unfold Xa;rw[List.find?_cons,SQ e]
  erw[⟨λn=>(by rw[d]at n;cases n),λB u=>?_⟩];rw[d]at u;cases u;exact⟨c,Lo f,i⟩;have f:c.1≠Sum.inr z:=λx=>e (by rw[j _ _ i]at x;exact Sum.inr.inj x);have d:Xa nm (k::xs) z=Xa nm xs z:=by unfold Xa;rw[List.find?_cons,SR e]
  have y:Ys (c::rows) (Sum.inr z)=Ys rows (Sum.inr z):=by unfold Ys;rw[List.find?_cons,SR f]
  rwa[d,y]
def Zb4{c:Type}{nm:c->Str}{xs:List c}{x:c}(h:x∈xs):∃y,Xa nm xs (nm x)=some y:=by
 cases e:Xa nm xs (nm x)with
 |some y=>exact⟨y,R⟩
 |none =>
  unfold Xa at e;rw[List.find?_eq_none]at e;exact Os (SQ R) (e x h)
def Mm{g:Type}{nm:g->Str}{xs:List g}(nd:(xs.map nm).Nodup){x:g}(h:x∈xs):Xa nm xs (nm x)=some x:=by
 obtain⟨y,c⟩:=Zb4 (nm:=nm) h;have:=XD c;obtain⟨i,v,f⟩:=List.mem_iff_getElem.mp h;obtain⟨j,B,u⟩:=List.mem_iff_getElem.mp this.1;by_cases e:i=j;subst e;rw[c,<-f,u];exfalso;rcases Nat.lt_or_gt_of_ne e with d|d;have:=List.pairwise_iff_getElem.mp nd i j (by rwa[Sv]) (by rwa[Sv]) d;rw[List.getElem_map,List.getElem_map,u,f]at this;exact this (by rw[(XD c).2]);have:=List.pairwise_iff_getElem.mp nd j i (by rwa[Sv]) (by rwa[Sv]) d;rw[List.getElem_map,List.getElem_map,u,f]at this;exact this (by rw[(XD c).2])
structure Wl where
 o:Str
 t:Str
 m:Nat
structure Xm where
 nm:Str
 r:R3
structure Xw where
 nm:Str
 pr:Nat
 la:Nat
 zs:List Nat
structure Tp where
 nm:Str
 ru:Str
 cs:List Cl
structure Xw.Ok(k:Xw):Prop where
 nm:Yc k.nm
 pr:k.pr<=10000
 la1:1<=k.la
 la:k.la<=1440
 z1:1<=k.zs.length
 z6:k.zs.length<=6
 up:k.zs.Pairwise (· < ·)
 rng:∀z∈k.zs,1<=z/\z<=6
def Xn(H:Hp)(c:ZF×V)(k:Xw):Prop:=c.1=Sum.inr k.nm/\∃r z,c.2=.ref r/\H r=some (.tup [.int (k.pr:Nat),.int (k.la:Nat),.ref z])/\H z=some (.tup (YL k.zs))
def Xn.same(s:Zc H d)(h:Xn H c k):Xn d c k:=let ⟨e,r,z,e1,e2,e3⟩:=h;⟨e,r,z,e1,s _ _ e2,s _ _ e3⟩
def Yo(H:Hp)(c:ZF×V)(k:Yg):Prop:=c.1=Sum.inr k.nm/\∃r,c.2=.ref r/\H r=some (.tup [.int (k.z:Nat),.int (k.ch:Nat)])
def Yo.same(s:Zc H d)(h:Yo H c k):Yo d c k:=let ⟨e,r,e1,e2⟩:=h;⟨e,r,e1,s _ _ e2⟩
def Xh(H:Hp)(c:ZF×V)(k:Tp):Prop:=c.1=Sum.inr k.nm/\∃r q d,c.2=.ref r/\H r=some (.tup [.str k.ru,.ref q])/\H q=some (.tup d)/\Al (Yd H) d k.cs
def Xh.same(s:Zc H d)(h:Xh H c k):Xh d c k:=let ⟨e,r,q,vs,e1,e2,e3,e4⟩:=h;⟨e,r,q,vs,e1,s _ _ e2,s _ _ e3,e4.imp λ_ _=>Yd.same s⟩
def Xe(t:Ya)(H:Hp)(c:ZF×V)(k:Xm):Prop:=c.1=Sum.inr k.nm/\UG t H c.2 k.r
def Xe.same(s:Zc H d)(h:Xe t H c k):Xe t d c k:=⟨h.1,h.2.same s⟩
def YF(H:Hp)(v:V)(x:Wl):Prop:=∃p,v=.ref p/\H p=some (.tup [.str x.o,.str x.t,.int (x.m:Nat)])
def YF.same(s:Zc H c)(h:YF H v x):YF c v x:=let ⟨p,e,h⟩:=h;⟨p,e,s _ _ h⟩
structure ZH where
 st:List Yg
 wk:List Wl
 ru:List Xm
 tk:List Xw
 tp:List Tp
structure NA where
 ds:Addr
 lw:Addr
 dr:Addr
 dt:Addr
 dp:Addr
structure Zkf(fs:List (Str×V))(a:NA):Prop where
 fs1:fs.lookup ("stop_rows" : Str)=some (V.ref a.ds)
 fw:fs.lookup ("walk_rows" : Str)=some (V.ref a.lw)
 fr:fs.lookup ("rule_rows" : Str)=some (V.ref a.dr)
 ft:fs.lookup ("ticket_rows" : Str)=some (V.ref a.dt)
 fp:fs.lookup ("trip_rows" : Str)=some (V.ref a.dp)
 n_calls:fs.lookup ("calls" : Str)=none
 n_rule_name:fs.lookup ("rule_name" : Str)=none
 n_rule:fs.lookup ("rule" : Str)=none
 n_trips:fs.lookup ("trips" : Str)=none
 n_rules:fs.lookup ("rules" : Str)=none
 n_check_stop:fs.lookup ("check_stop" : Str)=none
 n_check_trip:fs.lookup ("check_trip" : Str)=none
 n_check_call:fs.lookup ("check_call" : Str)=none
 n_has_walk:fs.lookup ("has_walk" : Str)=none
 n_add_stop:fs.lookup ("add_stop" : Str)=none
 n_add_walk:fs.lookup ("add_walk" : Str)=none
 n_add_rule:fs.lookup ("add_rule" : Str)=none
 n_add_ticket:fs.lookup ("add_ticket" : Str)=none
 n_add_trip:fs.lookup ("add_trip" : Str)=none
 n_zone:fs.lookup ("zone" : Str)=none
 n_change:fs.lookup ("change" : Str)=none
 n_stops:fs.lookup ("stops" : Str)=none
 n_walks:fs.lookup ("walks" : Str)=none
 n_tickets:fs.lookup ("tickets" : Str)=none
 n_ticket:fs.lookup ("ticket" : Str)=none
structure Zb5(a:NA):Prop where
 sr:a.ds≠a.dr
 st:a.ds≠a.dt
 sp:a.ds≠a.dp
 rt:a.dr≠a.dt
 rp:a.dr≠a.dp
 tp:a.dt≠a.dp
structure Z3(t:Ya)(H:Hp)(n:Addr)(a:NA)(N:ZH):Prop where
 ob:∃dx fs,H n=some (.ins t.ZP dx fs)/\Zkf fs a
 ap:Zb5 a
 st:∃rows,H a.ds=some (.dK rows)/\Al (Yo H) rows N.st
 wk:∃vs,H a.lw=some (.lst vs)/\Al (YF H) vs N.wk
 ru:∃rows,H a.dr=some (.dK rows)/\Al (Xe t H) rows N.ru
 tk:∃rows,H a.dt=some (.dK rows)/\Al (Xn H) rows N.tk
 tp:∃rows,H a.dp=some (.dK rows)/\Al (Xh H) rows N.tp
def Z3.same(s:Zc H c)(h:Z3 t H n a N):Z3 t c n a N:=by
 ext⟨⟨C,fs,j,L⟩,ap,⟨g,I,x⟩,⟨M,G,D⟩,⟨E,B,i⟩,⟨d,y,v⟩,⟨J,f,u⟩⟩ h;exact⟨⟨C,fs,s _ _ j,L⟩,ap,⟨g,s _ _ I,x.imp λ_ _=>Yo.same s⟩,⟨M,s _ _ G,D.imp λ_ _=>YF.same s⟩,⟨E,s _ _ B,i.imp λ_ _=>Xe.same s⟩,⟨d,s _ _ y,v.imp λ_ _=>Xn.same s⟩,⟨J,s _ _ f,u.imp λ_ _=>Xh.same s⟩⟩
structure Mn(H0:Hp)(a:NA):Prop where
 s:H0 a.ds=none
 w:H0 a.lw=none
 r:H0 a.dr=none
 t:H0 a.dt=none
 p:H0 a.dp=none
def Ur(t:Ya)(H:Hp)(n:Addr)(N:ZH):Prop:=∃a,Z3 t H n a N
def KD{fs:List (Str×V)}(h:fs.length<=n):(ZY f v fs).length<=n+1:=Sh (A0 _ _ _) (Nat.succ_le_succ h)
inductive Zkg(t:Ya)(vs:List V)(H:Hp)(Q:VK)(_e3:XK):Prop|mk (x:Addr) (H0:Hp) (_:vs=[.ref x]) (_:H0 x=none) (_:Zc H0 H) (_:(∃dx,H x=some (.ins t.ZP dx []))) (_:∀H' a,Zc H0 H'->Z3 t H' x a ⟨[],[],[],[],[]⟩->Mn H0 a->Q .non H')
def Zb6(v:Zy K mg t):Zp P w K mg base Zv 1 t.Tn t.gQ ["self"] (Zkg t):=by
 erw[v.T5.F.ok Zg3 () λx0 A outer s a0 vs z0 a1 hr w0=>?_];ext⟨x,H0,rfl,M,s0,⟨c,hx⟩,q⟩ w0;erw[⟨_,(Zg (Wr (pv 0) Uz R) (Zg (Wr (pv 0) (ZI YG) R) (Zg (Wr (pv 0) Uz R) (Zg (Wr (pv 0) Uz R) (Zf (Wr (pv 0) Uz R)))))),?_⟩];sleep 5;intro f g1;have L:f≠x:=λz=>by rw[z,hx]at g1;cases g1
 have d1:=s0.free g1;erw[⟨_,R,x,_,c,_,R,(by rw[Zm L.symm];exact hx),v.ZO,v.Qu,(),?_⟩];generalize c0:ZY "stop_rows" (.ref f) []=G;have k0:G.length<=1:=by rw[<-c0];exact KD (Sk 0)
 have X:=Vm (s0.trans (Zt g1 (.dK []))) M (.ins t.ZP c G);have Z:(Zb (Zb a0 f (.dK [])) x (.ins t.ZP c G)) x=some (.ins t.ZP c G):=Zj;have d:(Zb (Zb a0 f (.dK [])) x (.ins t.ZP c G)) f=some (.dK []):=by rw[Zm L];exact Zj
 generalize Zb (Zb a0 f (.dK [])) x (.ins t.ZP c G)=S at X Z d ⊢;erw[⟨zL9 R,λi g2=>?_⟩];have Q:i≠x:=λz=>by rw[z,Z]at g2;cases g2
 have r0:f≠i:=Z1 d g2;have d2:=X.free g2;erw[⟨_,R,x,_,c,_,R,(by rwa[Zm Q.symm]),v.ZO,v.Kl,Sj k0 (),?_⟩];generalize e0:ZY "walk_rows" (.ref i) G=E;have g0:E.length<=2:=by rw[<-e0];exact KD k0
 have u2:=Vm (X.trans (Zt g2 (.lst []))) M (.ins t.ZP c E);have y2:(Zb (Zb S i (.lst [])) x (.ins t.ZP c E)) x=some (.ins t.ZP c E):=Zj;have d:(Zb (Zb S i (.lst [])) x (.ins t.ZP c E)) f=some (.dK []):=by rwa[Zm L,Zm r0]
 have u:(Zb (Zb S i (.lst [])) x (.ins t.ZP c E)) i=some (.lst []):=by rw[Zm Q];exact Zj
 generalize Zb (Zb S i (.lst [])) x (.ins t.ZP c E)=O at u2 y2 d u ⊢;intro j g3;have T:j≠x:=λz=>by rw[z,y2]at g3;cases g3
 have o0:f≠j:=Z1 d g3;have u0:i≠j:=Z1 u g3;have d3:=u2.free g3;erw[⟨_,R,x,_,c,_,R,(by rwa[Zm T.symm]),v.ZO,v.Qv,Sj g0 (),?_⟩];generalize q0:ZY "rule_rows" (.ref j) E=D;have i0:D.length<=3:=by rw[<-q0];exact KD g0
 have U:=Vm (u2.trans (Zt g3 (.dK []))) M (.ins t.ZP c D);have y3:(Zb (Zb O j (.dK [])) x (.ins t.ZP c D)) x=some (.ins t.ZP c D):=Zj;have d:(Zb (Zb O j (.dK [])) x (.ins t.ZP c D)) f=some (.dK []):=by rwa[Zm L,Zm o0]
 have u:(Zb (Zb O j (.dK [])) x (.ins t.ZP c D)) i=some (.lst []):=by rwa[Zm Q,Zm u0]
 have B:(Zb (Zb O j (.dK [])) x (.ins t.ZP c D)) j=some (.dK []):=by rw[Zm T];exact Zj
 generalize Zb (Zb O j (.dK [])) x (.ins t.ZP c D)=I at U y3 d u B ⊢;intro g g4;have x4:g≠x:=λz=>by rw[z,y3]at g4;cases g4
 have l0:f≠g:=Z1 d g4;have v0:i≠g:=Z1 u g4;have f0:j≠g:=Z1 B g4;have d4:=U.free g4;erw[⟨_,R,x,_,c,_,R,(by rwa[Zm x4.symm]),v.ZO,v.QP,Sj i0 (),?_⟩];generalize m0:ZY "ticket_rows" (.ref g) D=C;have j0:C.length<=4:=by rw[<-m0];exact KD i0
 have u4:=Vm (U.trans (Zt g4 (.dK []))) M (.ins t.ZP c C);have Y:(Zb (Zb I g (.dK [])) x (.ins t.ZP c C)) x=some (.ins t.ZP c C):=Zj;have d:(Zb (Zb I g (.dK [])) x (.ins t.ZP c C)) f=some (.dK []):=by rwa[Zm L,Zm l0]
 have u:(Zb (Zb I g (.dK [])) x (.ins t.ZP c C)) i=some (.lst []):=by rwa[Zm Q,Zm v0]
 have B:(Zb (Zb I g (.dK [])) x (.ins t.ZP c C)) j=some (.dK []):=by rwa[Zm T,Zm f0]
 have J:(Zb (Zb I g (.dK [])) x (.ins t.ZP c C)) g=some (.dK []):=by rw[Zm x4];exact Zj
 generalize Zb (Zb I g (.dK [])) x (.ins t.ZP c C)=H at u4 Y d u B J ⊢;intro h g5;have x5:h≠x:=λz=>by rw[z,Y]at g5;cases g5
 have d0:f≠h:=Z1 d g5;have t0:i≠h:=Z1 u g5;have p0:j≠h:=Z1 B g5;have b0:g≠h:=Z1 J g5;have d5:=u4.free g5;erw[⟨_,R,x,_,c,_,R,(by rwa[Zm x5.symm]),v.ZO,v.Qw,Sj j0 (),?_⟩];generalize h0:ZY "trip_rows" (.ref h) C=y;have y0:y.length<=5:=by rw[<-h0];exact KD j0
 have u5:=Vm (u4.trans (Zt g5 (.dK []))) M (.ins t.ZP c y);have y5:(Zb (Zb H h (.dK [])) x (.ins t.ZP c y)) x=some (.ins t.ZP c y):=Zj;have d:(Zb (Zb H h (.dK [])) x (.ins t.ZP c y)) f=some (.dK []):=by rwa[Zm L,Zm d0]
 have u:(Zb (Zb H h (.dK [])) x (.ins t.ZP c y)) i=some (.lst []):=by rwa[Zm Q,Zm t0]
 have B:(Zb (Zb H h (.dK [])) x (.ins t.ZP c y)) j=some (.dK []):=by rwa[Zm T,Zm p0]
 have J:(Zb (Zb H h (.dK [])) x (.ins t.ZP c y)) g=some (.dK []):=by rwa[Zm x4,Zm b0]
 have k5:(Zb (Zb H h (.dK [])) x (.ins t.ZP c y)) h=some (.dK []):=by rw[Zm x5];exact Zj
 generalize Zb (Zb H h (.dK [])) x (.ins t.ZP c y)=H5 at u5 y5 d u B J k5 ⊢;subst c0 e0 q0 m0 h0;exact q _ ⟨f,i,j,g,h⟩ u5 ⟨⟨c,_,y5,⟨R,R,R,R,R,R,R,R,R,R,R,R,R,R,R,R,R,R,R,R,R,R,R,R,R⟩⟩,⟨o0,l0,d0,f0,p0,b0⟩,⟨[],d,.nil⟩,⟨[],u,.nil⟩,⟨[],B,.nil⟩,⟨[],J,.nil⟩,⟨[],k5,.nil⟩⟩ ⟨d1,d2,d3,d4,d5⟩
structure ZT(u:HO):Prop where
 nt:∀ys,u≠.tup ys
 ni:∀c x fs,u≠.ins c x fs
 nf:∀o v,u≠.frz o v
def ZT.k:ZT (.dK c):=⟨(),(),()⟩
def ZT.l:ZT (.lst xs):=⟨(),(),()⟩
def WA(hd:H d=some u)(lo:ZT u)(h:H p=some (.tup xs)):Zb H d o p=some (.tup xs):=by
 rwa[Zm (Yr h hd (λz=>lo.nt _ z.symm))]
def D1(hd:H d=some u)(lo:ZT u)(h:H p=some (.ins c x fs)):Zb H d o p=some (.ins c x fs):=by
 rwa[Zm (Yr h hd (λz=>lo.ni _ _ _ z.symm))]
section Pt
variable{d:Addr}{u o:HO}(hd:H d=some u)(lo:ZT u)
include hd lo
theorem Xn.put(h:Xn H c k):Xn (Zb H d o) c k:=let ⟨e,r,z,e1,e2,e3⟩:=h;⟨e,r,z,e1,WA hd lo e2,WA hd lo e3⟩
theorem Yo.put(h:Yo H c k):Yo (Zb H d o) c k:=let ⟨e,r,e1,e2⟩:=h;⟨e,r,e1,WA hd lo e2⟩
theorem Yd.put(h:Yd H v c):Yd (Zb H d o) v c:=let ⟨p,e,h⟩:=h;⟨p,e,WA hd lo h⟩
theorem Xh.put(h:Xh H c k):Xh (Zb H d o) c k:=let ⟨e,r,q,vs,e1,e2,e3,e4⟩:=h;⟨e,r,q,vs,e1,WA hd lo e2,WA hd lo e3,e4.imp λ_ _=>Yd.put hd lo⟩
theorem YF.put(h:YF H v x):YF (Zb H d o) v x:=let ⟨p,e,h⟩:=h;⟨p,e,WA hd lo h⟩
theorem UG.put(h:UG t H v r):UG t (Zb H d o) v r:=let ⟨b,e,h⟩:=h;⟨b,e,ZS.keepF (λ_ _ _ _ _ e=>D1 hd lo e) (λ_ _=>zY (WA hd lo) λ_ e=>by rwa[Zm (Yr e hd (λz=>lo.nf _ _ z.symm))]) h⟩
theorem Xe.put(h:Xe t H c k):Xe t (Zb H d o) c k:=⟨h.1,h.2.put hd lo⟩
end Pt
def Z3.addSt{a:NA}{N:ZH}{rows:List (ZF×V)}{x:Yg}(h:Z3 t H n a N)(c:H a.ds=some (.dK rows))(E:Al (Yo H) rows N.st)(i:Ys rows (Sum.inr x.nm)=none)(M:Yo H (Sum.inr x.nm,v) x) :
  Z3 t (Zb H a.ds (.dK (Xf rows (Sum.inr x.nm) v))) n a {N with st:=N.st++[x]}:=by
 ext⟨⟨G,fs,u,O⟩,ap,_,⟨Q,d,I⟩,⟨J,D,j⟩,⟨f,C,B⟩,⟨L,g,y⟩⟩ h;erw[⟨⟨G,fs,D1 c ZT.k u,O⟩,ap,⟨_,Zj,?_⟩,⟨Q,by rwa[Zm (Yr d c (by intro z;cases z))],I.imp λ_ _=>YF.put c ZT.k⟩,⟨J,by rwa[Zm (ap.sr.symm)],j.imp λ_ _=>Xe.put c ZT.k⟩,⟨f,by rwa[Zm (ap.st.symm)],B.imp λ_ _=>Xn.put c ZT.k⟩,⟨L,by rwa[Zm (ap.sp.symm)],y.imp λ_ _=>Xh.put c ZT.k⟩⟩];rw[Qn v i];exact(E.imp λ_ _=>Yo.put c ZT.k).snoc (M.put c ZT.k)
def Z3.addWk{a:NA}{N:ZH}(h:Z3 t H n a N)(c:H a.lw=some (.lst vs))(E:Al (YF H) vs N.wk)(D:YF H v x) :
  Z3 t (Zb H a.lw (.lst (vs++[v]))) n a {N with wk:=N.wk++[x]}:=by
 ext⟨⟨C,fs,O,I⟩,ap,⟨y,d,J⟩,_,⟨L,i,M⟩,⟨G,g,B⟩,⟨u,f,j⟩⟩ h;erw[⟨⟨C,fs,D1 c ZT.l O,I⟩,ap,⟨y,by rwa[Zm (Yr d c (by intro z;cases z))],J.imp λ_ _=>Yo.put c ZT.l⟩,⟨_,Zj,?_⟩,⟨L,by rwa[Zm (Yr i c (by intro z;cases z))],M.imp λ_ _=>Xe.put c ZT.l⟩,⟨G,by rwa[Zm (Yr g c (by intro z;cases z))],B.imp λ_ _=>Xn.put c ZT.l⟩,⟨u,by rwa[Zm (Yr f c (by intro z;cases z))],j.imp λ_ _=>Xh.put c ZT.l⟩⟩];exact(E.imp λ_ _=>YF.put c ZT.l).snoc (D.put c ZT.l)
def Z3.addRu{a:NA}{N:ZH}{rows:List (ZF×V)}{x:Xm}(h:Z3 t H n a N)(c:H a.dr=some (.dK rows))(E:Al (Xe t H) rows N.ru)(i:Ys rows (Sum.inr x.nm)=none)(M:Xe t H (Sum.inr x.nm,v) x) :
  Z3 t (Zb H a.dr (.dK (Xf rows (Sum.inr x.nm) v))) n a {N with ru:=N.ru++[x]}:=by
 ext⟨⟨G,fs,u,O⟩,ap,⟨j,J,C⟩,⟨Q,d,I⟩,_,⟨f,D,B⟩,⟨L,g,y⟩⟩ h;erw[⟨⟨G,fs,D1 c ZT.k u,O⟩,ap,⟨j,by rwa[Zm (ap.sr)],C.imp λ_ _=>Yo.put c ZT.k⟩,⟨Q,by rwa[Zm (Yr d c (by intro z;cases z))],I.imp λ_ _=>YF.put c ZT.k⟩,⟨_,Zj,?_⟩,⟨f,by rwa[Zm (ap.rt.symm)],B.imp λ_ _=>Xn.put c ZT.k⟩,⟨L,by rwa[Zm (ap.rp.symm)],y.imp λ_ _=>Xh.put c ZT.k⟩⟩];rw[Qn v i];exact(E.imp λ_ _=>Xe.put c ZT.k).snoc (M.put c ZT.k)
def Z3.addTk{a:NA}{N:ZH}{rows:List (ZF×V)}{x:Xw}(h:Z3 t H n a N)(c:H a.dt=some (.dK rows))(D:Al (Xn H) rows N.tk)(g:Ys rows (Sum.inr x.nm)=none)(M:Xn H (Sum.inr x.nm,v) x) :
  Z3 t (Zb H a.dt (.dK (Xf rows (Sum.inr x.nm) v))) n a {N with tk:=N.tk++[x]}:=by
 ext⟨⟨E,fs,u,O⟩,ap,⟨i,J,B⟩,⟨Q,d,G⟩,⟨I,C,j⟩,_,⟨L,f,y⟩⟩ h;erw[⟨⟨E,fs,D1 c ZT.k u,O⟩,ap,⟨i,by rwa[Zm (ap.st)],B.imp λ_ _=>Yo.put c ZT.k⟩,⟨Q,by rwa[Zm (Yr d c (by intro z;cases z))],G.imp λ_ _=>YF.put c ZT.k⟩,⟨I,by rwa[Zm (ap.rt)],j.imp λ_ _=>Xe.put c ZT.k⟩,⟨_,Zj,?_⟩,⟨L,by rwa[Zm (ap.tp.symm)],y.imp λ_ _=>Xh.put c ZT.k⟩⟩];rw[Qn v g];exact(D.imp λ_ _=>Xn.put c ZT.k).snoc (M.put c ZT.k)
def Z3.addTp{a:NA}{N:ZH}{rows:List (ZF×V)}{x:Tp}(h:Z3 t H n a N)(c:H a.dp=some (.dK rows))(E:Al (Xh H) rows N.tp)(g:Ys rows (Sum.inr x.nm)=none)(M:Xh H (Sum.inr x.nm,v) x) :
  Z3 t (Zb H a.dp (.dK (Xf rows (Sum.inr x.nm) v))) n a {N with tp:=N.tp++[x]}:=by
 ext⟨⟨G,fs,u,O⟩,ap,⟨i,L,B⟩,⟨Q,d,I⟩,⟨J,D,j⟩,⟨f,C,y⟩,_⟩ h;erw[⟨⟨G,fs,D1 c ZT.k u,O⟩,ap,⟨i,by rwa[Zm (ap.sp)],B.imp λ_ _=>Yo.put c ZT.k⟩,⟨Q,by rwa[Zm (Yr d c (by intro z;cases z))],I.imp λ_ _=>YF.put c ZT.k⟩,⟨J,by rwa[Zm (ap.rp)],j.imp λ_ _=>Xe.put c ZT.k⟩,⟨f,by rwa[Zm (ap.tp)],y.imp λ_ _=>Xn.put c ZT.k⟩,⟨_,Zj,?_⟩⟩];rw[Qn v g];exact(E.imp λ_ _=>Xh.put c ZT.k).snoc (M.put c ZT.k)
def VQ(h:Yc z):(PyData.str z).canLay0=true:=by
 simp only[PyData.canLay0];show z.cps.all (λc=>decide (c<0x110000))=true;rw[<-Array.all_toList,List.all_eq_true];intro c d;have:=h.2.2.1 c d;exact SQ ()
def Us(c:List Wl)(a b:Str):Bool:=c.any λx=>(a==x.o && b==x.t) || (b==x.o && a==x.t)
inductive Zkh(t:Ya)(vs:List V)(H:Hp)(Q:VK)(_e3:XK):Prop|mk (n:Addr) (N:ZH) (a b:Str) (_:vs=[.ref n,.str a,.str b]) (_:Ur t H n N) (_:Yc a) (_:Yc b) (_:(∀x∈N.wk,Yc x.o/\Yc x.t)) (_:N.wk.length<=12) (_:∀H',Zc H H'->Q (.bl (Us N.wk a b)) H')
def Zki(f:Zy K mg t):Zp P w K mg base Zv 1 t.Zam t.Zan ["self","one","other"] (Zkh t):=by
 erw[f.zC.F.ok Zha () λd0 A outer s H vs e0 f0 hr b0=>?_];ext⟨n,N,a,b,rfl,⟨O,M⟩,L,J,a0,w12,q⟩ b0;ext⟨dx,fs,Z,e2⟩ M.ob;ext⟨vw,G,j⟩ M.wk;erw[⟨_,(Zf (Zw (ZN (Zf1 R) f.Zhq Zhm (Zh (Wv (cl:=[(OK "other",s.heap.objs.size+2),(OK "one",s.heap.objs.size+1)]) (N:=["walk","one","other"]) (fr:=[none,some 1,some 2]) R (Xx (ZR (pv 0) R)) R () R () ⟨⟨R,Or.inl R,Or.inl R,_,R,R⟩,⟨⟨R,Or.inl R,Or.inl R,_,R,R⟩,trivial⟩⟩ ⟨R,⟨R,trivial⟩⟩ R (λ_ _ _ _ _=>(Yl 0 (show List.Nodup (["walk","one","other"]:OC) by lia))) (λ_ _ _ _ _=>Wu) (λ_ _ _ _ _=>(Y7 (show YB _ (compareOp .In) (uI K false)from uJ hr.units) (YH (Zq (Zr (show Xt _ (G1 K)from ZV) (pv 0) Za) (Zr (show Xt _ (G1 K)from ZV) (pv 0) Za))) (YH (Zq (YH (Zq (pv 1) (pv 2))) (YH (Zq (pv 2) (pv 1))))) R))))))),?_⟩];sleep 1;refine⟨_,R,n,_,dx,_,_,R,Z,f.ZO,f.Kl,e2.fw,O.lw,R,⟨_,Ze.of G⟩,WL (K:=K) (a:=O.lw) (xs:=vw) (λi c g I=>Zc H I/\(∃v,g=[v,some (.str a),some (.str b)])/\c=((N.wk.take i).map λx=>(a==x.o && b==x.t) || (b==x.o && a==x.t)).map V.bl) ⟨Zc.refl H,⟨_,R⟩,R⟩
  (Sh (show _<=12 by rw[j.length];exact w12) ()) (λi c g I _ ⟨s',_⟩=>Ze.of (s' _ _ G)) ?_ ?_⟩
 rintro i v c g U B X ⟨s1,⟨v0,rfl⟩,rfl⟩;obtain⟨x,ex,Q,rfl,c0⟩:=j.get X;have u:=a0 x (SJ ex);have y:=s1 _ _ c0;dsimp only[YK,Wb];rw[SW R];erw[⟨_,R,Q,_,0,_,R,R,Zk.of y,R,_,R,Q,_,1,_,R,R,Zk.of y,R,zL9 R,λS g1=>?_⟩];have T:=Zt g1 (.tup [.str x.o,.str x.t]);erw[⟨_,R,_,R,zL9 R,λC g2=>?_⟩];have D:=Zt g2 (.tup [.str a,.str b]);erw[⟨_,R,_,R,zL9 R,λE g3=>?_⟩];have h:=Zt g3 (.tup [.str b,.str a]);erw[⟨zL9 R,λY g4=>?_⟩];have d:=Zt g4 (.tup [.ref C,.ref E]);have k1:=((D.trans h).trans d) S _ Zj;have k2:=(h.trans d) C _ Zj;have k3:=d E _ Zj;have S4:=(((s1.trans T).trans D).trans h).trans d;erw[⟨Y,_,.tuple [.str x.o,.str x.t],[.tuple [.str a,.str b],.tuple [.str b,.str a]],R,.inr (Zk.of Zj),.tup (Zk.of k1) (.cons (.str _ (VQ u.1)) (.cons (.str _ (VQ u.2)) .nil)),.cons (.tup (Zk.of k2) (.cons (.str _ (VQ L)) (.cons (.str _ (VQ J)) .nil))) (.cons (.tup (Zk.of k3) (.cons (.str _ (VQ J)) (.cons (.str _ (VQ L)) .nil))) .nil),?_,?_⟩];simp[PyData.depth,PyData.depthAll];erw[⟨by rw[Su,Sw];lia,S4,⟨_,R⟩,?_⟩];rw[S0,ex,SK,SK];congr 1;simp[PyData.eqv,PyData.eqvAll];rintro c g U ha ⟨s1,⟨v0,rfl⟩,rfl⟩ l B;rw[j.length,List.take_length];erw[⟨l,_,R,Ze.of Zj,?_⟩];rw[List.any_map];exact q _ (s1.trans (Zt B _))
def Zkj{c:Type}{nm:c->Str}{R:ZF×V->c->Prop}(f:∀d x,R d x->d.1=Sum.inr (nm x)){rows:List (ZF×V)}{xs:List c}(h:Al R rows xs)(z:Str):(Ys rows (Sum.inr z)).isSome=(Xa nm xs z).isSome:=by
 have:=UI f h z;cases e:Xa nm xs z with
 |none=>rw[this.1 e];rfl
 |some x=>obtain⟨d,g,_⟩:=this.2 x e;rw[g];rfl
def Yv{c:Type}(nm:c->Str)(xs:List c):V->Bool
 |.str z=>(Xa nm xs z).isSome
 |_=>false
def WB{c:Type}{nm:c->Str}{R:ZF×V->c->Prop}(f:∀d x,R d x->d.1=Sum.inr (nm x)){rows:List (ZF×V)}{xs:List c}(h:Al R rows xs)(v:V):UF rows v=Yv nm xs v:=by
 cases v with
 |str z=>exact Zkj f h z
 |_=>rfl
def WC{c:Type}{nm:c->Str}{xs:List c}{v:V}(h:Yv nm xs v=true):∃z x,v=.str z/\Xa nm xs z=some x:=by
 cases v with
 |str z=>obtain⟨x,e⟩:=Option.isSome_iff_exists.mp h;exact⟨z,x,R,e⟩
 |_=>cases h
def UJ{rows:List (ZF×V)}(h:UF rows (.str z)=false):Ys rows (Sum.inr z)=none:=by
 cases e:Ys rows (Sum.inr z)with
 |none=>rfl
 |some x=>have h:(Ys rows (Sum.inr z)).isSome=false:=h;rw[e]at h;cases h
def WD(s:Zc H c):Zc (wo H d) (Zb c d o):=λb ob e=>by obtain⟨f,e⟩:=UA e;rw[Zm f];exact s _ _ e
structure YN(N:ZH):Prop where
 s8:N.st.length<=8
 sn:(N.st.map Yg.nm).Nodup
 so:∀x∈N.st,Yc x.nm
 w12:N.wk.length<=12
 wo:∀x∈N.wk,Yc x.o/\Yc x.t
 r6:N.ru.length<=6
 rn:(N.ru.map Xm.nm).Nodup
 ro:∀x∈N.ru,Yc x.nm/\R3.Ok x.r
 t3:N.tk.length<=3
 tn:(N.tk.map Xw.nm).Nodup
 to:∀x∈N.tk,x.Ok
 p10:N.tp.length<=10
 pn:(N.tp.map Tp.nm).Nodup
 po:∀x∈N.tp,Yc x.nm/\Yc x.ru/\2<=x.cs.length/\x.cs.length<=6/\∀c∈x.cs,Yc c.st
def U5(N:ZH)(c f d:V):Option Wn:=ck (Y1 c) .name (ck (!Yv Yg.nm N.st c) .twice (ck (Yq f 1 6) .number (ck (Yq d 0 30) .number (ck (decide (N.st.length<8)) .many none))))
def addS(N:ZH)(d f c:V):ZH:={N with st:=N.st++[⟨XC d,YJ f,YJ c⟩]}
def QU(N:ZH)(c d f:V):Option Wn:=ck (Yv Yg.nm N.st c) .stop (ck (Yv Yg.nm N.st d) .stop (ck (!(decide (c=d) || Us N.wk (XC c) (XC d))) .twice (ck (Yq f 1 60) .number (ck (decide (N.wk.length<12)) .many none))))
def addW(N:ZH)(c d f:V):ZH:={N with wk:=N.wk++[⟨XC c,XC d,YJ f⟩]}
def U6(N:ZH)(c:V)(o:Option RT):Option Wn:=ck (Y1 c) .name (ck (!Yv Xm.nm N.ru c) .twice (ck o.isSome .days (ck (decide (N.ru.length<6)) .many none)))
def addR(N:ZH)(c:V)(o:Option RT):ZH:={N with ru:=N.ru++[⟨XC c,o.getD .always⟩]}
def KG:Option (List V)->Bool
 |some xs=>decide (1<=xs.length/\(xs.length:Int)<=6) && XS 1 6 xs
 |none=>false
def QV(N:ZH)(c pv lv:V)(o:Option (List V)):Option Wn:=ck (Y1 c) .name (ck (!Yv Xw.nm N.tk c) .twice (ck (Yq pv 0 10000) .number (ck (Yq lv 1 1440) .number (ck (KG o) .number (ck (decide (N.tk.length<3)) .many none)))))
def addK(N:ZH)(c pv lv:V)(o:Option (List V)):ZH:={N with tk:=N.tk++[⟨XC c,YJ pv,YJ lv,(o.getD []).map YJ⟩]}
def QW(N:ZH)(c d:V):Option Wn:=ck (Y1 c) .name (ck (!Yv Tp.nm N.tp c) .twice (ck (Yv Xm.nm N.ru d) .rule (ck (decide (N.tp.length<10)) .many none)))
def addT(N:ZH)(c d:V)(cs:List Cl):ZH:={N with tp:=N.tp++[⟨XC c,XC d,cs⟩]}
def XU(H:Hp)(v:V):Option (List V)->Prop
 |some xs=>∃a,v=.ref a/\H a=some (.lst xs)/\∀x∈xs,∃T,Kd H x T
 |none=>∃T,Kd H v T/\T ≠ "list"
def XU.same(s:Zc H c)(h:XU H v o):XU c v o:=by
 cases o with
 |none=>ext⟨T,k,n⟩ h;exact⟨T,k.same s,n⟩
 |some f=>ext⟨a,e,h,k⟩ h;exact⟨a,e,s _ _ h,λx d=>let ⟨T,k⟩:=k x d;⟨T,k.same s⟩⟩
theorem Mo:∀(xs:List V) (lo hi:Int),0<=lo->XS lo hi xs=true->xs=YL (xs.map YJ)/\(xs.map YJ).Pairwise (· < ·)/\∀x∈xs.map YJ,lo<=((x:Nat):Int)/\((x:Nat):Int)<=hi
 |[],_,_,_,_=>⟨R,.nil,()⟩
 |x::r,lo,hi,v,h=>by
  have h:(Yq x lo hi && XS (Ky x+1) hi r)=true:=h;rw[Bool.and_eq_true]at h;obtain⟨ex,j,g⟩:=Vs h.1 v;have i:Ky x=((YJ x:Nat):Int):=by rw[ex];rfl
  rw[i]at h;obtain⟨u,f,d⟩:=Mo r (((YJ x:Nat):Int)+1) hi () h.2;erw[⟨?_,.cons (λy c=>by have:=(d y c).1;lia) f,λy c=>?_⟩];show x::r=V.int ((YJ x:Nat):Int)::YL (r.map YJ);rw[<-ex,<-u];rcases SE.mp c with rfl|c;exact⟨j,g⟩;have:=d y c;lia
structure KH(t:Ya)(n:Addr)(a:NA)(d:Addr)(du:Option Wn)(N:ZH)(H:Hp)(Q:VK)(E:XK):Prop where
 e:∀w,du=some w->∀H',Zc H H'->E (.ref (Wn.cls t w)) none H'
 q:du=none->∀H',Zc (wo H d) H'->Z3 t H' n a N->Q .non H'
inductive Zkk(t:Ya)(vs:List V)(H:Hp)(Q:VK)(E:XK):Prop|mk (n:Addr) (N:ZH) (v:V) (T:String) (_:vs=[.ref n,v]) (_:Ur t H n N) (_:Kd H v T) (_:(Yv Yg.nm N.st v=true->Q .non H)) (_:(Yv Yg.nm N.st v=false->E (.ref t.X3) none H))
def KI(c:Zy K mg t):Zp P w K mg base (YC P w) 2 t.Zag t.Zah ["self","name"] (Zkk t):=by
 erw[c.Um.F.okX Zg7 () λD A outer s H G Q E C h=>?_];ext⟨n,N,v,T,rfl,⟨a,f⟩,kd,q,e⟩ h;ext⟨y,fs,g,B⟩ f.ob;ext⟨rows,j,i⟩ f.st;erw[⟨_,(Zf (ZC (ZX (ZW (ZD c.C2 (KB c) C Zu (Zq (pv 1) (ZR (pv 0) R))))) (Zf (Vl Vj c.ZiK R R c.Zbd (Zh Zs))) ZK)),?_⟩];erw[⟨_,R,_,R,n,_,y,_,_,R,g,c.ZO,c.Qu,B.fs1,v,T,a.ds,rows,R,kd,j,_,R,?_⟩];rw[WB (λu x (h:Yo H u x)=>h.1) i];cases d:Yv Yg.nm N.st v with
 |false=>exact Zo () ⟨zL9 R,e d⟩
 |true=>exact Zi SO (q d)
inductive Zkl(t:Ya)(vs:List V)(H:Hp)(Q:VK)(E:XK):Prop|mk (n:Addr) (N:ZH) (v:V) (T:String) (_:vs=[.ref n,v]) (_:Ur t H n N) (_:Kd H v T) (_:(Yv Tp.nm N.tp v=true->Q .non H)) (_:(Yv Tp.nm N.tp v=false->E (.ref t.XN) none H))
def Zb7(c:Zy K mg t):Zp P w K mg base (YC P w) 2 t.Zai t.Zaj ["self","name"] (Zkl t):=by
 erw[c.Kc.F.okX Zg8 () λD A outer s H G Q E C h=>?_];ext⟨n,N,v,T,rfl,⟨a,f⟩,kd,q,e⟩ h;ext⟨y,fs,g,B⟩ f.ob;ext⟨rows,j,i⟩ f.tp;erw[⟨_,(Zf (ZC (ZX (ZW (ZD c.C2 (KB c) C Zu (Zq (pv 1) (ZR (pv 0) R))))) (Zf (Vl Vj c.ZiY R R c.Zbf (Zh Zs))) ZK)),?_⟩];erw[⟨_,R,_,R,n,_,y,_,_,R,g,c.ZO,c.Qw,B.fp,v,T,a.dp,rows,R,kd,j,_,R,?_⟩];rw[WB (λu x (h:Xh H u x)=>h.1) i];cases d:Yv Tp.nm N.tp v with
 |false=>exact Zo () ⟨zL9 R,e d⟩
 |true=>exact Zi SO (q d)
inductive Zkm(t:Ya)(vs:List V)(H:Hp)(Q:VK)(E:XK):Prop|mk (n:Addr) (a:NA) (N:ZH) (nv zv cv:V) (Tz Tc:String) (_:vs=[.ref n,nv,zv,cv]) (_:Z3 t H n a N) (_:Vk H nv) (_:Kd H zv Tz) (_:Kd H cv Tc) (_:KH t n a a.ds (U5 N nv zv cv) (addS N nv zv cv) H Q E)
def Zkn(d:Zy K mg t):Zp P w K mg base (YC P w) 4 t.gU t.gX ["self","name","zone","change"] (Zkm t):=by
 erw[d.T6.F.okX Zg4 () λa0 A outer s H vs b0 c0 g h=>?_];ext⟨n,a,N,nv,I,C,Tz,T,rfl,J,Q,X,U,⟨e,q⟩⟩ h;ext⟨G,fs,D,L⟩ J.ob;ext⟨rows,u,E⟩ J.st;unfold U5 at e q;rw[<-WB (λZ x (h:Yo H Z x)=>h.1) E,<-E.length]at e q;erw[⟨_,(Zg (Yk (ZD d.J7 (Mj d) g Xd (Zq (pv 1) (ZR (pv 0) R)))) (Zg (Yk (ZD d.Qs (QT d) g Xd (Z5 (pv 2) Za (Y8 R d.TB)))) (Zg (Yk (ZD d.Qs (QT d) g Xd (Z5 (pv 3) Za (Y8 R d.ZhF)))) (Zg (Yk (ZD d.QM (Ml d) g Xd (Zq (ZR (pv 0) R) (Y8 R d.ZhA)))) (Zf (Qo (W3 g) (ZR (pv 0) R) (pv 1) (YH (Zq (pv 2) (pv 3))) R)))))),?_⟩];erw[⟨_,R,_,R,n,_,G,_,_,R,D,d.ZO,d.Qu,L.fs1,nv,a.ds,rows,R,u,Q,λc M s1=>?_,λi y M s1=>?_,λi y M s1=>?_⟩];rw[c]at e;exact e _ R _ s1;rw[i,y]at e;exact e _ R _ s1;rw[i,y]at e q;erw[⟨_,R,I,Tz,1,6,R,X.same s1,λj=>?_,λj=>?_⟩]
 rotate_left
 rw[j]at e;exact e _ R _ s1;rw[j]at e q;erw[⟨_,R,C,T,0,30,R,U.same s1,λB=>?_,λB=>?_⟩]
 rotate_left
 rw[B]at e;exact e _ R _ s1;rw[B]at e q;erw[⟨_,R,n,_,G,_,_,R,s1 _ _ D,d.ZO,d.Qu,L.fs1,a.ds,rows,8,R,s1 _ _ u,λv=>?_,λv=>?_⟩]
 rotate_left
 rw[v]at e;exact e _ R _ s1;rw[v]at q;obtain⟨z,rfl,_⟩:=Vr i;have S:=(Vs j ()).1;have Y:=(Vs B ()).1;erw[⟨_,R,_,R,zL9 R,λr O=>?_⟩];have s3:=Zt O (.tup [I,C]);have f:=s1.trans s3;erw[⟨_,R,n,_,G,_,_,R,f _ _ D,d.ZO,d.Qu,L.fs1,_,R,a.ds,_,R,VI.k (k:=Sum.inr z) (f _ _ u) (Nat.lt_trans (SS v) ()),?_⟩];exact q R _ (WD f) ((J.same f).addSt (x:=⟨z,YJ I,YJ C⟩) (f _ _ u) (E.imp λ_ _=>Yo.same f) (UJ y) ⟨R,r,R,by rw[Zj,<-S,<-Y]⟩)
inductive Zko(t:Ya)(vs:List V)(H:Hp)(Q:VK)(E:XK):Prop|mk (n:Addr) (a:NA) (N:ZH) (nv v:V) (o:Option RT) (_:vs=[.ref n,nv,v]) (_:Z3 t H n a N) (_:Vk H nv) (_:UH t H v o) (_:KH t n a a.dr (U6 N nv o) (addR N nv o) H Q E)
def Zkp(d:Zy K mg t):Zp P w K mg base (YC P w) 44 t.Zaa t.Zab ["self","name","rule"] (Zko t):=by
 erw[d.T8.F.okX qM () λX A outer s H Z Q E y h=>?_];ext⟨n,a,N,S,v,o,rfl,I,M,U,⟨e,q⟩⟩ h;ext⟨G,fs,B,J⟩ I.ob;ext⟨rows,i,C⟩ I.ru;unfold U6 at e q;rw[<-WB (λO x (h:Xe t H O x)=>h.1) C,<-C.length]at e q;erw[⟨_,(Zg (Yk (ZD d.J7 (Mj d) y Xd (Zq (pv 1) (ZR (pv 0) R)))) (Zg (ZA 3 qM.nd (ZD d.UD (Zb3 d) y Xd (Zh (pv 2)))) (Zg (Yk (ZD d.QM (Ml d) y Xd (Zq (ZR (pv 0) R) (Y8 R d.ZhC)))) (Zf (Qo (W3 y) (ZR (pv 0) R) (pv 1) (pv 3) R))))),?_⟩];erw[⟨_,R,_,R,n,_,G,_,_,R,B,d.ZO,d.Qv,J.fr,S,a.dr,rows,R,i,M,λc L s1=>?_,λg u L s1=>?_,λg u L s1=>?_⟩];rw[c]at e;exact e _ R _ s1;rw[g,u]at e;exact e _ R _ s1;rw[g,u]at e q;erw[⟨_,R,v,o,R,U.same s1,λD=>?_,λr D v' Y s2 T=>?_⟩];subst D;exact e _ R _ s1;subst D;have f:=s1.trans s2;erw[⟨_,R,n,_,G,_,_,R,f _ _ B,d.ZO,d.Qv,J.fr,a.dr,rows,6,R,f _ _ i,λj=>?_,λj=>?_⟩]
 rotate_left
 rw[j]at e;exact e _ R _ f;rw[j]at q;obtain⟨z,rfl,_⟩:=Vr g;erw[⟨_,R,_,R,n,_,G,_,_,R,f _ _ B,d.ZO,d.Qv,J.fr,_,R,a.dr,_,R,VI.k (k:=Sum.inr z) (f _ _ i) (Nat.lt_trans (SS j) ()),?_⟩];exact q R _ (WD f) ((I.same f).addRu (x:=⟨z,r⟩) (f _ _ i) (C.imp λ_ _=>Xe.same f) (UJ u) ⟨R,T⟩)
inductive Zkq(t:Ya)(vs:List V)(H:Hp)(Q:VK)(E:XK):Prop|mk (n:Addr) (a:NA) (N:ZH) (nv prv lv zv:V) (Tp Tl:String) (o:Option (List V)) (_:vs=[.ref n,nv,prv,lv,zv]) (_:Z3 t H n a N) (_:Vk H nv) (_:Kd H prv Tp) (_:Kd H lv Tl) (_:XU H zv o) (_:KH t n a a.dt (QV N nv prv lv o) (addK N nv prv lv o) H Q E)
def Zkr(d:Zy K mg t):Zp P w K mg base (YC P w) 4 t.Zac t.Zad ["self","name","price","lasts","zones"] (Zkq t):=by
 erw[d.T9.F.okX Zg6 () λc0 A outer s a0 vs d0 e0 j h=>?_];ext⟨n,a,N,nv,H,lv,zv,Tp,Y,o,rfl,J,T,kp,U,X,⟨e,q⟩⟩ h;ext⟨I,fs,E,L⟩ J.ob;ext⟨rows,y,G⟩ J.tk;unfold QV at e q;rw[<-WB (λZ x (h:Xn a0 Z x)=>h.1) G,<-G.length]at e q;erw[⟨_,(Zg (Yk (ZD d.J7 (Mj d) j Xd (Zq (pv 1) (ZR (pv 0) R)))) (Zg (Yk (ZD d.Qs (QT d) j Xd (Z5 (pv 2) Za (Y8 R d.ZhH)))) (Zg (Yk (ZD d.Qs (QT d) j Xd (Z5 (pv 3) Za (Y8 R d.ZhI)))) (Zg (ZC (ZX (ZW (ZD d.J5 (ZjN d) j Zu (X1 (pv 4) (Y8 R d.TB) Za (Y8 R d.TB))))) (Zf (Vl Vj d.Zbq R R d.zR (Zh Zs))) ZK) (Zg (Yk (ZD d.QM (Ml d) j Xd (Zq (ZR (pv 0) R) (Y8 R d.ZhD)))) (Zf (Qo (W3 j) (ZR (pv 0) R) (pv 1) (YH (Z5 (pv 2) (pv 3) (Z2 G3 R d.U3 U0 (Zh (pv 4))))) R))))))),?_⟩];erw[⟨_,R,_,R,n,_,I,_,_,R,E,d.ZO,d.QP,L.ft,nv,a.dt,rows,R,y,T,λc M s1=>?_,λu C M s1=>?_,λu C M s1=>?_⟩];rw[c]at e;exact e _ R _ s1;rw[u,C]at e;exact e _ R _ s1;rw[u,C]at e q;erw[⟨_,R,H,Tp,0,10000,R,kp.same s1,λv=>?_,λv=>?_⟩]
 rotate_left
 rw[v]at e;exact e _ R _ s1;rw[v]at e q;erw[⟨_,R,lv,Y,1,1440,R,U.same s1,λD=>?_,λD=>?_⟩]
 rotate_left
 rw[D]at e;exact e _ R _ s1;rw[D]at e q;have Q:=X.same s1;cases o with
 |none =>
  ext⟨b0,kd,nT⟩ Q;exact⟨_,R,zv,6,1,6,R,.inl ⟨b0,kd,nT,_,R,Zo () ⟨zL9 R,e _ R _ s1⟩⟩⟩
 |some f =>
  ext⟨l,rfl,O,kx⟩ Q;erw[⟨_,R,.ref l,6,1,6,R,.inr ⟨l,f,R,O,kx,_,R,?_⟩⟩];cases g:KG (some f)with
  |false =>
   rw[g]at e;rw[show(decide (1<=f.length/\(f.length:Int)<=6) && XS 1 6 f)=false from g];exact Zo () ⟨zL9 R,e _ R _ s1⟩
  |true =>
   rw[g]at e q;have g:(decide (1<=f.length/\(f.length:Int)<=6) && XS 1 6 f)=true:=g;rw[g];erw[Zi () ?_];rw[Bool.and_eq_true]at g;erw[⟨_,R,n,_,I,_,_,R,s1 _ _ E,d.ZO,d.QP,L.ft,a.dt,rows,3,R,s1 _ _ y,λB=>?_,λB=>?_⟩]
   rotate_left
   rw[B]at e;exact e _ R _ s1;rw[B]at q;obtain⟨z,rfl,_⟩:=Vr u;have ep:=(Vs v ()).1;have el:=(Vs D ()).1;have ex:=(Mo f 1 6 () g.2).1;erw[⟨_,R,_,R,_,R,l,_,R,.inl ⟨Ze.of O,λp hp=>?_⟩⟩];have s2:=Zt hp (.tup f);erw[⟨zL9 R,λr S=>?_⟩];have s3:=Zt S (.tup [H,lv,.ref p]);have i:=(s1.trans s2).trans s3;erw[⟨_,R,n,_,I,_,_,R,i _ _ E,d.ZO,d.QP,L.ft,_,R,a.dt,_,R,VI.k (k:=Sum.inr z) (i _ _ y) (Nat.lt_trans (SS B) ()),?_⟩];exact q R _ (WD i) ((J.same i).addTk (x:=⟨z,YJ H,YJ lv,f.map YJ⟩) (i _ _ y) (G.imp λ_ _=>Xn.same i) (UJ C) ⟨R,r,p,R,by rw[Zj,<-ep,<-el],by rw[<-ex];exact s3 _ _ Zj⟩)
inductive Zks(vs:List V)(H:Hp)(Q:VK)(_e3:XK):Prop|mk (v u:V) (c a:Cl) (_:vs=[v,u]) (_:Yd H v c) (_:Yd H u a) (_:c.st≠a.st) (_:a.lv<c.ar) (_:Q (.bl true) H)
def Zkt(g:Zy K mg t):Zp P w K mg base Zv 1 t.jF t.jG ["call","ahead"] Zks:=by
 erw[g.ZaR.F.ok ZgF () λx A outer s H j Q E i h=>?_];ext⟨v,u,c,a,rfl,⟨p,rfl,f⟩,⟨r,rfl,d⟩,ns,lt,q⟩ h;erw[⟨_,(Zf (Zw (WI (Y7 K7 (Zr ZV (pv 0) Za) (Zr ZV (pv 1) Za) (Xq _)) (X6 (Y7 F7 (Zr ZV (pv 0) Za) (Zr ZV (pv 1) Za) (Xq _)))))),?_⟩];erw[⟨_,R,p,_,0,_,R,R,Zk.of f,R,_,R,r,_,0,_,R,R,Zk.of d,R,R,_,R,Zo (by rw[SR λz=>ns (V.str.inj z)];rfl) ?_⟩];erw[⟨_,R,p,_,1,_,R,R,Zk.of f,R,_,R,r,_,2,_,R,R,Zk.of d,R,_,_,R,R,?_⟩];rwa[SQ (show((c.ar:Nat):Int)>((a.lv:Nat):Int) by lia)]
inductive Zku(t:Ya)(vs:List V)(H:Hp)(Q:VK)(E:XK):Prop|mk (n:Addr) (a:NA) (N:ZH) (ov tv mv:V) (To Tt Tm:String) (_:vs=[.ref n,ov,tv,mv]) (_:Z3 t H n a N) (_:YN N) (_:Kd H ov To) (_:Kd H tv Tt) (_:Kd H mv Tm) (_:KH t n a a.lw (QU N ov tv mv) (addW N ov tv mv) H Q E)
def Zkv(c:Zy K mg t):Zp P w K mg base (YC P w) 4 t.gY t.gZ ["self","one","other","minutes"] (Zku t):=by
 erw[c.T7.F.okX Zg5 () λb0 A outer s H vs c0 d0 i a0=>?_];ext⟨n,a,N,ov,O,G,T,X,Tm,rfl,d,ok,Z,kt,km,⟨e,q⟩⟩ a0;ext⟨g,fs,f,h⟩ d.ob;ext⟨vw,D,L⟩ d.wk;unfold QU at e q;rw[<-L.length]at e q;erw[⟨_,(Zg (Yk (Xc (pv 0) c.ZO c.Um.me (KI c) (i.mono ()) c.Um.b .nil Xd (Zh (pv 1)))) (Zg (Yk (Xc (pv 0) c.ZO c.Um.me (KI c) (i.mono ()) c.Um.b .nil Xd (Zh (pv 2)))) (Zg (ZC (PW.pt (Vf (ZZ Ye (pv 1) (pv 2)) (Vu (ZW (Xc (pv 0) c.ZO c.zC.me (Zki c) (i.mono ()) c.zC.b .nil Zu (Zq (pv 1) (pv 2))))))) (Zf (Vl Vj c.Zbo R R c.zP (Zh Zs))) ZK) (Zg (Yk (ZD c.Qs (QT c) i Xd (Z5 (pv 3) Za (Y8 R c.ZhG)))) (Zg (Yk (ZD c.QM (Zkc c) i Xd (Zq (ZR (pv 0) R) (Y8 R c.ZhB)))) (Zf (Yk (Vi PySem.F.plainAttrs_list PySem.F.slot_list_append PySem.F.type_list_append VC (ZR (pv 0) R) (Zh (YH (Z5 (pv 1) (pv 2) (pv 3)))))))))))),?_⟩];erw[⟨_,R,n,g,_,R,f,h.n_check_stop,_,R,n,N,ov,T,R,⟨a,d⟩,Z,λu=>?_,λu=>?_⟩]
 rotate_left
 rw[u]at e;exact e _ R _ (Zc.refl H);rw[u]at e q;erw[⟨_,R,n,g,_,R,f,h.n_check_stop,_,R,n,N,O,X,R,⟨a,d⟩,kt,λj=>?_,λj=>?_⟩]
 rotate_left
 rw[j]at e;exact e _ R _ (Zc.refl H);rw[j]at e q;obtain⟨x,_,rfl,Y⟩:=WC u;obtain⟨y,_,rfl,fy⟩:=WC j;have S:Yc x:=by have:=XD Y;rw[<-this.2];exact ok.so _ this.1
 have U:Yc y:=by have:=XD fy;rw[<-this.2];exact ok.so _ this.1
 erw[⟨_,R,_,R,R,_,R,?_⟩];cases E:decide (V.str x=V.str y)with
 |true=>rw[E]at e;exact Zo R (Zo R ⟨zL9 R,e _ R _ (Zc.refl H)⟩)
 |false =>
 erw[Zi SO ?_];erw[⟨_,R,n,g,_,R,f,h.n_has_walk,_,R,_,R,n,N,x,y,R,⟨a,d⟩,S,U,ok.wo,ok.w12,λH1 s1=>⟨_,R,?_⟩⟩];cases J:Us N.wk x y with
 |true=>rw[E,show Us N.wk (XC (V.str x)) (XC (V.str y))=true from J]at e;exact Zo R ⟨zL9 R,e _ R _ s1⟩
 |false =>
 rw[E,show Us N.wk (XC (V.str x)) (XC (V.str y))=false from J]at e q;erw[Zi SO ?_];erw[⟨_,R,G,Tm,1,60,R,km.same s1,λC=>?_,λC=>?_⟩]
 rotate_left
 rw[C]at e;exact e _ R _ s1;rw[C]at e q;erw[⟨_,R,n,_,g,_,_,R,s1 _ _ f,c.ZO,c.Kl,h.fw,a.lw,vw,12,R,s1 _ _ D,λB=>?_,λB=>?_⟩]
 rotate_left
 rw[B]at e;exact e _ R _ s1;rw[B]at q;have Q:=(Vs C ()).1;erw[⟨_,R,n,_,g,_,_,R,s1 _ _ f,c.ZO,c.Kl,h.fw,.inl ⟨R,_,Ze.of (s1 _ _ D)⟩,_,R,_,R,_,R,zL9 R,λr M=>?_⟩];have s2:=Zt M (.tup [.str x,.str y,G]);have v:=s1.trans s2;have I:=v _ _ D;erw[⟨a.lw,_,_,R,R,I,Nat.lt_trans (SS B) (),?_⟩];exact q R _ (WD v) ((d.same v).addWk (x:=⟨x,y,YJ G⟩) I (L.imp λ_ _=>YF.same v) ⟨r,R,by rw[Zj,<-Q]⟩)
def D2{c:Type}{nm:c->Str}{xs:List c}{z:Str}(h:z∈xs.map nm):Yv nm xs (.str z)=true:=by
 obtain⟨x,d,rfl⟩:=SI.mp h;obtain⟨y,e⟩:=Zb4 (nm:=nm) d;show(Xa nm xs (nm x)).isSome=true;rw[e];rfl
inductive Zkw(t:Ya)(vs:List V)(H:Hp)(Q:VK)(_e3:XK):Prop|mk (n:Addr) (N:ZH) (v:V) (c:Cl) (_:vs=[.ref n,v]) (_:Ur t H n N) (_:Yd H v c) (_:c.st∈N.st.map Yg.nm) (_:c.ar<=c.lv) (_:c.lv<=2879) (_:Q .non H)
def Zkx(d:Zy K mg t):Zp P w K mg base (YC P w) 4 t.Zak t.Zal ["self","call"] (Zkw t):=by
 erw[d.zB.F.okX Zg9 () λD A outer s H I Q E g h=>?_];ext⟨n,N,v,c,rfl,i,⟨p,rfl,f⟩,x,J,G,q⟩ h;have y:=i;ext⟨a,B⟩ y;ext⟨u,fs,j,C⟩ B.ob;erw[⟨_,(Zg (Yk (Xc (pv 0) d.ZO d.Um.me (KI d) (g.mono ()) d.Um.b .nil Xd (Zh (Zr ZV (pv 1) Za)))) (Zg (Yk (ZD d.Qs (QT d) g Xd (Z5 (Zr ZV (pv 1) Za) Za (Y8 R d.ZaM)))) (Zg (Yk (ZD d.Qs (QT d) g Xd (Z5 (Zr ZV (pv 1) Za) Za (Y8 R d.ZaM)))) (Zf (ZC (ZZ F6 (Zr ZV (pv 1) Za) (Zr ZV (pv 1) Za)) (Zf Vv) ZK))))),?_⟩];erw[⟨_,R,n,u,_,R,j,C.n_check_stop,_,R,p,_,0,_,R,R,Zk.of f,R,n,N,.str c.st,_,R,i,.str _,λ_=>?_,λz=>by rw[D2 x]at z;cases z⟩];erw[⟨_,R,p,_,1,_,R,R,Zk.of f,R,.int (c.ar:Nat),_,0,2879,R,.int _,λ_=>?_,λz=>by rw[Ql () ()]at z;cases z⟩];erw[⟨_,R,p,_,2,_,R,R,Zk.of f,R,.int (c.lv:Nat),_,0,2879,R,.int _,λ_=>?_,λz=>by rw[Ql () ()]at z;cases z⟩];exact⟨_,R,p,_,2,_,R,R,Zk.of f,R,_,R,p,_,1,_,R,R,Zk.of f,R,_,_,R,R,_,R,Zi (by rw[SR ()];lia) q⟩
inductive Zky(K:Ox)(vs:List V)(H:Hp)(Q:VK)(_e3:XK):Prop|mk (l:Addr) (vs':List V) (cs:List Cl) (_:vs=[.ref l]) (_:H l=some (.lst vs')) (_:Al (Yd H) vs' cs) (_:2<=cs.length) (_:cs.length<=6) (_:∀H',Zc H H'->Q (.bl true) H')
def Zkz(d:Zy K mg t):Zp P w K mg base Zv 1 t.jD t.jE ["calls"] (Zky K):=by
 erw[d.ZaQ.F.ok ZgE () λM A outer s H O Q E Z h=>?_];ext⟨l,f,cs,rfl,j,G,Y,X,q⟩ h;have lv:=G.length;erw[⟨_,(Zg (ZC (PW.pt (Vf (ZX (ZW (ZN X9 d.Yy Yx (Zq (pv 0) (X0 R d.YU YT))))) (Vu (ZX (Q8 XE XE (Y8 R d.ZhJ) (ZN VA d.XR XM (Zh (pv 0))) (Y8 R d.ZhK)))))) (Zf (Zw YY)) ZK) (Zf (Zw (ZN (M7 R) d.Tq Rv (Zh (Wv (cl:=[]) (N:=["call"]) (fr:=[none]) R (Xx (pv 0)) R () R () trivial trivial R (λ_ _ _ _ _=>(Yl 0 (show List.Nodup (["call"]:OC) by lia))) (λ_ _ _ _ _=>Wu) (λ_ _ _ _ _=>(WI (ZN (show Y4 _ (.builtin "isinstance") (λxs H Q=>∃x T t b,xs=[x,V.ty T]/\XW K H x t/\W.kitOne K t (Value.type T)=some b/\Q (V.bl b) H)from X9) d.Yy Yx (Zq (pv 0) (X0 R d.U3 U0))) (X6 (Y7 Ye (ZN (show Y4 _ (.builtin "len") (λxs H Q=>∃p D,xs=[V.ref p]/\(Ze K H p D\/Zk K H p D)/\Q (V.int ↑D.length) H)from VA) d.XR XM (Zh (pv 0))) Za (Xq _))))))))))),?_⟩];sleep 2;erw[⟨_,R,.ref l,"list",_,_,R,.lst j,R,_,R,Zi () ?_⟩];erw[⟨_,R,l,_,R,.inl (Ze.of j),_,_,R,R,_,R,Zo (SQ ()) ?_⟩];erw[⟨_,_,R,R,_,R,Zi (by rw[SQ (show((f.length:Nat):Int)<=6 by lia)];lia) ?_⟩];sleep 1;erw[⟨_,R,l,R,⟨_,Ze.of j⟩,WL (K:=K) (a:=l) (xs:=f) (λi g C u=>u=H/\g=(List.replicate i true).map V.bl/\∃v,C=[v]) ⟨R,R,_,R⟩ (Sh (show _<=6 by lia) ()) (λi g C u _ ⟨e,_⟩=>by rw[e];exact Ze.of j) ?_ ?_⟩];rintro i y g C u U J ⟨rfl,rfl,v,rfl⟩;obtain⟨c,S,p,rfl,B⟩:=G.get J;dsimp only[YK,Wb];rw[SW R];erw[⟨_,R,.ref p,"tuple",_,_,R,.tup B,R,_,R,Zo () ⟨_,R,p,_,R,.inr (Zk.of B),R,?_⟩⟩];erw[⟨by rw[Su,Sw];lia,R,?_,_,R⟩];rw[List.replicate_succ',SK];rfl;rintro g C u ha ⟨rfl,rfl,v,rfl⟩ p B;erw[⟨p,List.replicate f.length true,R,Ze.of Zj,?_⟩];have I:=q _ (Zt B (.lst ((List.replicate f.length true).map V.bl)));rwa[show(List.replicate f.length true).all id=true by rw[List.all_eq_true];intro x L;rw[(List.mem_replicate.mp L).2];rfl]
inductive ZkA(t:Ya)(K:Ox)(vs:List V)(H:Hp)(Q:VK)(E:XK):Prop|mk (n:Addr) (a:NA) (N:ZH) (nv rv:V) (Tr:String) (cs:List Cl) (l:Addr) (vs':List V) (_:vs=[.ref n,nv,rv,.ref l]) (_:Z3 t H n a N) (_:Vk H nv) (_:Kd H rv Tr) (_:H l=some (.lst vs')) (_:Al (Yd H) vs' cs) (_:Uq (N.st.map Yg.nm) cs) (_:2<=cs.length) (_:cs.length<=6) (_:KH t n a a.dp (QW N nv rv) (addT N nv rv cs) H Q E)
def ZkB(d:Zy K mg t):Zp P w K mg base (YC P w) 6 t.Zae t.Zaf ["self","name","rule","calls"] (ZkA t K):=by
 erw[d.zA.F.okX Rf () λi0 A outer s H vs Q j0 C h=>?_];ext⟨n,a,N,nv,rv,Tr,cs,l,f,rfl,L,hv,kr,D,E,ok,l2,l6,⟨e,q⟩⟩ h;ext⟨J,fs,G,M⟩ L.ob;ext⟨rows,T,Z⟩ L.tp;ext⟨a0,g0,b0⟩ L.ru;have lv:=E.length;have e0:f.length<=sizeLine:=Sh (show f.length<=6 by lia) ();unfold QW at e q;rw[<-WB (λI x (h:Xh H I x)=>h.1) Z,<-WB (λI x (h:Xe t H I x)=>h.1) b0,<-Z.length]at e q;erw[⟨_,(Zg (Yk (ZD d.J7 (Mj d) C Xd (Zq (pv 1) (ZR (pv 0) R)))) (Zg (ZC (ZX (ZW (ZD d.C2 (KB d) C Zu (Zq (pv 2) (ZR (pv 0) R))))) (Zf (Vl Vj d.Zbp R R d.zQ (Zh Zs))) ZK) (Zg (ZC (ZX (ZW (ZD d.ZaQ (Zkz d) C Zu (Zh (pv 3))))) (Zf Vv) ZK) (Zg (yU PassesOwn.leaving R (vU R d.ZaL (Zh (pv 3))) (MI (n:=2) R (UR (Yl 4 Rf.nd) (UR (Yl 5 Rf.nd) KZ))) (Zg (Yk (Xc (pv 0) d.ZO d.zB.me (Zkx d) (C.mono ()) d.zB.b .nil Xd (Zh (pv 5)))) (Zf (ZC (PW.pt (W1 (ZZ F7 (pv 4) Za) (W0 (ZX (ZW (ZD d.ZaR (Zkt d) C Zu (Zq (pv 5) (Zr ZJ (pv 3) (Zl Q6 (pv 4) Za))))))))) (Zf Vv) ZK)))) (Zg (Yk (ZD d.QM (Ml d) C Xd (Zq (ZR (pv 0) R) (Y8 R d.ZhE)))) (Zf (Qo (W3 C) (ZR (pv 0) R) (pv 1) (YH (Zq (pv 2) (Z2 G3 R d.U3 U0 (Zh (Wv (cl:=[]) (N:=["call"]) (fr:=[none]) R (Xx (pv 3)) R () R () trivial trivial R (λ_ _ _ _ _=>(Yl 0 (show List.Nodup (["call"]:OC) by lia))) (λ_ _ _ _ _=>Wu) (λ_ _ _ _ _=>(Z2 (show Y4 _ (.type "tuple") (λxs H Q=>∃p ys,xs=[.ref p]/\((Ze K H p ys/\∀l,H l=none->Q (.ref l) (Zb H l (.tup ys)))\/(Zk K H p ys/\Q (.ref p) H)))from G3) R d.U3 U0 (Zh (pv 0))))))))) R))))))),?_⟩];erw[⟨_,R,_,R,n,_,J,_,_,R,G,d.ZO,d.Qw,M.fp,nv,a.dp,rows,R,T,hv,λc H1 s1=>?_,λO X H1 s1=>?_,λO X H1 s1=>?_⟩];rw[c]at e;exact e _ R _ s1;rw[O,X]at e;exact e _ R _ s1;rw[O,X]at e q;erw[⟨_,R,_,R,n,_,J,_,_,R,s1 _ _ G,d.ZO,d.Qv,M.fr,rv,Tr,a.dr,a0,R,kr.same s1,s1 _ _ g0,_,R,?_⟩];cases c3:UF a0 rv with
 |false=>rw[c3]at e;exact Zo () ⟨zL9 R,e _ R _ s1⟩
 |true =>
 rw[c3]at e q;erw[Zi SO ?_];obtain⟨z,rfl,_⟩:=Vr O;obtain⟨y,_,rfl,_⟩:=WC ((WB (λI x (h:Xe t H I x)=>h.1) b0 rv).symm.trans c3);erw[⟨_,R,l,f,cs,R,s1 _ _ D,E.imp λ_ _=>Yd.same s1,l2,l6,λH2 s2=>⟨_,R,Zi () ?_⟩⟩];have S2:=s1.trans s2;erw[⟨_,R,l,R,⟨_,Ze.of (S2 _ _ D)⟩,vV (xs:=f) (λi g u=>Zc H u/\∃v4 Y:Option V,g=[some (.ref n),some (.str z),some (.str y),some (.ref l),v4,Y]) ⟨S2,_,_,R⟩ (λi g u _ ⟨s',_⟩=>Ze.of (s' _ _ D)) ?_ ?_⟩];rintro i v pp g H3 hx f0 ⟨s3,v4,Y,rfl⟩;have s4:=s3.trans (Zt f0 (.tup [.int i,v]));obtain⟨c,ec,hc⟩:=E.get hx;have mc:=SJ ec;erw[⟨pp,_,R,Zk.of Zj,R,_,_,R,_,_,R,R,?_⟩];erw[⟨_,R,n,J,_,R,s4 _ _ G,M.n_check_call,_,R,n,N,v,c,R,⟨a,L.same s4⟩,hc.same s4,ok.st c mc,(ok.rng c mc).1,(ok.rng c mc).2,?_⟩];erw[⟨_,R,_,_,R,R,_,R,?_⟩];by_cases ci:0<i;erw[Zo (SQ ()) ?_];obtain⟨j,rfl⟩:∃j,i=j+1:=⟨i - 1,()⟩;have hj:j<f.length:=by have:=(Sr.mp hx).1;lia
 obtain⟨k,ea,ha⟩:=E.get (Ss hj);have fo:=ok.fol j k c ea ec;have d0:Xy f (((j+1:Nat):Int) - 1)=some f[j]:=by
  have:Xy f (j:Int)=some f[j]:=Qh (Ss hj);rw[show(((j+1:Nat):Int) - 1)=(j:Int) by lia];exact this
 exact⟨_,R,_,R,_,R,_,_,R,R,l,_,_,_,R,R,Ze.of (s4 _ _ D),d0,v,_,_,_,R,hc.same s4,ha.same s4,fo.1,fo.2,_,R,Zi () ⟨s4,_,_,R⟩⟩;exact Zi (by rw[SR ()];lia) (Zi () ⟨s4,_,_,R⟩);rintro g H3 ⟨s3,v4,Y,rfl⟩;erw[⟨_,R,n,_,J,_,_,R,s3 _ _ G,d.ZO,d.Qw,M.fp,a.dp,rows,10,R,s3 _ _ T,λU=>?_,λU=>?_⟩]
 rotate_left
 rw[U]at e;exact e _ R _ s3;rw[U]at q;erw[⟨_,R,_,R,l,R,⟨_,Ze.of (s3 _ _ D)⟩,WL (K:=K) (a:=l) (xs:=f) (λi S g u=>u=H3/\S=f.take i/\∃v,g=[v]) ⟨R,R,_,R⟩ e0 (λi S g u _ ⟨e,_⟩=>by rw[e];exact Ze.of (s3 _ _ D)) ?_ ?_⟩];rintro i y S g u hi hy ⟨rfl,rfl,v,rfl⟩;obtain⟨c,ec,p,rfl,hp⟩:=E.get hy;dsimp only[YK,Wb];rw[SW R];erw[⟨_,R,p,_,R,.inr ⟨Zk.of (s3 _ _ hp),?_⟩⟩];erw[⟨by rw[Su,Sw];lia,R,?_,_,R⟩];rw[S0,hy];rfl;rintro S g u ha ⟨rfl,rfl,v,rfl⟩ p hp;rw[List.take_length];have s5:=Zt hp (.lst f);erw[⟨p,_,R,.inl ⟨Ze.of Zj,λp2 h0=>?_⟩⟩];have s6:=Zt h0 (.tup f);erw[⟨zL9 R,λr c0=>?_⟩];have s7:=Zt c0 (.tup [.str y,.ref p2]);have B:=((s3.trans s5).trans s6).trans s7;erw[⟨_,R,n,_,J,_,_,R,B _ _ G,d.ZO,d.Qw,M.fp,_,R,a.dp,_,R,VI.k (k:=Sum.inr z) (B _ _ T) (Nat.lt_trans (SS U) ()),?_⟩];exact q R _ (WD B) ((L.same B).addTp (x:=⟨z,y,cs⟩) (B _ _ T) (Z.imp λ_ _=>Xh.same B) (UJ X) ⟨R,r,p2,f,R,Zj,s7 _ _ Zj,E.imp λ_ _=>Yd.same B⟩)
def VR{d:Type}{nm:d->Str}{R:ZF×V->d->Prop}(f:∀c x,R c x->c.1=Sum.inr (nm x)){rows:List (ZF×V)}{xs:List d}(h:Al R rows xs):(rows.map λc=>kV c.1)=(xs.map nm).map V.str:=by
 induction h with
 |nil=>rfl
 |cons a _ g=>rw[SL,SL,SL,g,f _ _ a];rfl
inductive Mp(t:Ya)(f:ZH->List Str)(vs:List V)(H:Hp)(Q:VK)(_e3:XK):Prop|mk (n:Addr) (N:ZH) (_:vs=[.ref n]) (_:Ur t H n N) (_:∀l,H l=none->Q (.ref l) (Zb H l (.lst ((f N).map V.str))))
def ZkC(c:Zy K mg t):Zp P w K mg base Zv 1 t.Zao t.Zap ["self"] (Mp t λN=>N.st.map Yg.nm):=by
 erw[c.zD.F.ok Zhb () λD A outer s H C Q E B h=>?_];ext⟨n,N,rfl,⟨a,d⟩,q⟩ h;ext⟨i,fs,j,v⟩ d.ob;ext⟨rows,u,g⟩ d.st;erw[⟨_,(Zf (Zw (Z2 (VJ R) R c.YU YT (Zh (ZR (pv 0) R))))),?_⟩];erw[⟨_,R,n,_,i,_,_,R,j,c.ZO,c.Qu,v.fs1,a.ds,rows,R,u,λl f=>?_⟩];rw[VR (λy x (h:Yo H y x)=>h.1) g];exact q l f
def ZkD(c:Zy K mg t):Zp P w K mg base Zv 1 t.Zas t.Zat ["self"] (Mp t λN=>N.ru.map Xm.nm):=by
 erw[c.zF.F.ok Zhd () λD A outer s H C Q E B h=>?_];ext⟨n,N,rfl,⟨a,d⟩,q⟩ h;ext⟨i,fs,j,v⟩ d.ob;ext⟨rows,u,g⟩ d.ru;erw[⟨_,(Zf (Zw (Z2 (VJ R) R c.YU YT (Zh (ZR (pv 0) R))))),?_⟩];erw[⟨_,R,n,_,i,_,_,R,j,c.ZO,c.Qv,v.fr,a.dr,rows,R,u,λl f=>?_⟩];rw[VR (λy x (h:Xe t H y x)=>h.1) g];exact q l f
def ZkE(c:Zy K mg t):Zp P w K mg base Zv 1 t.Zau t.Zav ["self"] (Mp t λN=>N.tk.map Xw.nm):=by
 erw[c.zG.F.ok Zhe () λD A outer s H C Q E B h=>?_];ext⟨n,N,rfl,⟨a,d⟩,q⟩ h;ext⟨i,fs,j,v⟩ d.ob;ext⟨rows,u,g⟩ d.tk;erw[⟨_,(Zf (Zw (Z2 (VJ R) R c.YU YT (Zh (ZR (pv 0) R))))),?_⟩];erw[⟨_,R,n,_,i,_,_,R,j,c.ZO,c.QP,v.ft,a.dt,rows,R,u,λl f=>?_⟩];rw[VR (λy x (h:Xn H y x)=>h.1) g];exact q l f
def ZkF(c:Zy K mg t):Zp P w K mg base Zv 1 t.Zaw t.Zax ["self"] (Mp t λN=>N.tp.map Tp.nm):=by
 erw[c.zH.F.ok Zhf () λD A outer s H C Q E B h=>?_];ext⟨n,N,rfl,⟨a,d⟩,q⟩ h;ext⟨i,fs,j,v⟩ d.ob;ext⟨rows,u,g⟩ d.tp;erw[⟨_,(Zf (Zw (Z2 (VJ R) R c.YU YT (Zh (ZR (pv 0) R))))),?_⟩];erw[⟨_,R,n,_,i,_,_,R,j,c.ZO,c.Qw,v.fp,a.dp,rows,R,u,λl f=>?_⟩];rw[VR (λy x (h:Xh H y x)=>h.1) g];exact q l f
inductive ZkG(t:Ya)(vs:List V)(H:Hp)(Q:VK)(_e3:XK):Prop|mk (n:Addr) (N:ZH) (_:vs=[.ref n]) (_:Ur t H n N) (_:∀l xs,H l=none->Al (YF H) xs N.wk->Q (.ref l) (Zb H l (.lst xs)))
def ZkH(c:Zy K mg t):Zp P w K mg base Zv 1 t.Zaq t.Zar ["self"] (ZkG t):=by
 erw[c.zE.F.ok Zhc () λC A outer s H B Q E y h=>?_];ext⟨n,N,rfl,⟨a,d⟩,q⟩ h;ext⟨j,fs,u,x⟩ d.ob;ext⟨f,v,i⟩ d.wk;erw[⟨_,(Zf (Zw (Z2 VB R c.YU YT (Zh (ZR (pv 0) R))))),?_⟩];exact⟨_,R,n,_,j,_,_,R,u,c.ZO,c.Kl,x.fw,a.lw,f,R,.inl (Ze.of v),λl g=>q l f g i⟩
inductive Zb8(t:Ya)(f:Yg->Nat)(vs:List V)(H:Hp)(Q:VK)(E:XK):Prop|mk (n:Addr) (N:ZH) (v:V) (T:String) (_:vs=[.ref n,v]) (_:Ur t H n N) (_:Kd H v T) (_:(Yv Yg.nm N.st v=false->E (.ref t.X3) none H)) (_:∀x,v=.str x.nm->Xa Yg.nm N.st x.nm=some x->Q (.int (f x:Nat)) H)
def Zb9(c:Zy K mg t):Zp P w K mg base (YC P w) 3 t.Zay t.Zaz ["self","stop"] (Zb8 t Yg.z):=by
 erw[c.Ke.F.okX Zhg () λJ A outer s H L Q E y h=>?_];ext⟨n,N,v,T,rfl,⟨a,f⟩,kd,e,q⟩ h;ext⟨j,fs,g,u⟩ f.ob;ext⟨rows,G,D⟩ f.st;erw[⟨_,(Zg (Yk (Xc (pv 0) c.ZO c.Um.me (KI c) (y.mono ()) c.Um.b .nil Xd (Zh (pv 1)))) (Zf (Zw (Zr ZV (Yu y (ZR (pv 0) R) (pv 1)) Za)))),?_⟩];erw[⟨_,R,n,j,_,R,g,u.n_check_stop,_,R,n,N,v,T,R,⟨a,f⟩,kd,λb=>?_,e⟩];obtain⟨z,x,rfl,d⟩:=WC b;obtain⟨i,I,_,r,B,C⟩:=(UI (λi x (h:Yo H i x)=>h.1) D z).2 x d;erw[⟨_,R,n,_,j,_,_,R,g,c.ZO,c.Qu,u.fs1,_,R,a.ds,_,R,.inl ⟨rows,Sum.inr z,.inl G,R,I.symm⟩,r,_,0,_,B,R,Zk.of C,R,?_⟩];exact q x (by rw[(XD d).2]) (C9 d)
def Zca(c:Zy K mg t):Zp P w K mg base (YC P w) 3 t.ZaA t.ZaB ["self","stop"] (Zb8 t Yg.ch):=by
 erw[c.Kf.F.okX Zhh () λJ A outer s H L Q E y h=>?_];ext⟨n,N,v,T,rfl,⟨a,f⟩,kd,e,q⟩ h;ext⟨j,fs,g,u⟩ f.ob;ext⟨rows,G,D⟩ f.st;erw[⟨_,(Zg (Yk (Xc (pv 0) c.ZO c.Um.me (KI c) (y.mono ()) c.Um.b .nil Xd (Zh (pv 1)))) (Zf (Zw (Zr ZV (Yu y (ZR (pv 0) R) (pv 1)) Za)))),?_⟩];erw[⟨_,R,n,j,_,R,g,u.n_check_stop,_,R,n,N,v,T,R,⟨a,f⟩,kd,λb=>?_,e⟩];obtain⟨z,x,rfl,d⟩:=WC b;obtain⟨i,I,_,r,B,C⟩:=(UI (λi x (h:Yo H i x)=>h.1) D z).2 x d;erw[⟨_,R,n,_,j,_,_,R,g,c.ZO,c.Qu,u.fs1,_,R,a.ds,_,R,.inl ⟨rows,Sum.inr z,.inl G,R,I.symm⟩,r,_,1,_,B,R,Zk.of C,R,?_⟩];exact q x (by rw[(XD d).2]) (C9 d)
inductive ZkI(t:Ya)(vs:List V)(H:Hp)(Q:VK)(E:XK):Prop|mk (n:Addr) (N:ZH) (v:V) (T:String) (_:vs=[.ref n,v]) (_:Ur t H n N) (_:YN N) (_:Kd H v T) (_:(Yv Xm.nm N.ru v=false->E (.ref t.Wh) none H)) (_:∀x,v=.str x.nm->Xa Xm.nm N.ru x.nm=some x->∀v' H',Zc H H'->UG t H' v' x.r->Q v' H')
def Zcb(c:Zy K mg t):Zp P w K mg base (YC P w) 44 t.ZaC t.ZaD ["self","name"] (ZkI t):=by
 erw[c.Kg.F.okX Zhi () λO A outer s H S Q E g h=>?_];ext⟨n,N,v,T,rfl,⟨a,B⟩,ok,kd,e,q⟩ h;ext⟨y,fs,i,C⟩ B.ob;ext⟨rows,u,j⟩ B.ru;have kn:=WB (λd x (h:Xe t H d x)=>h.1) j v;erw[⟨_,(Zg (ZC (ZX (ZW (ZD c.C2 (KB c) g Zu (Zq (pv 1) (ZR (pv 0) R))))) (Zf (Vl Vj c.Zbp R R c.zQ (Zh Zs))) ZK) (Zf (Zw (ZD c.UD (Zb3 c) g Xd (Zh (Yu g (ZR (pv 0) R) (pv 1))))))),?_⟩];erw[⟨_,R,_,R,n,_,y,_,_,R,i,c.ZO,c.Qv,C.fr,v,T,a.dr,rows,R,kd,u,_,R,?_⟩];rw[kn];cases b:Yv Xm.nm N.ru v with
 |false=>exact Zo () ⟨zL9 R,e b⟩
 |true =>
 erw[Zi SO ?_];obtain⟨z,x,rfl,f⟩:=WC b;obtain⟨d,D,_,L⟩:=(UI (λd x (h:Xe t H d x)=>h.1) j z).2 x f;exact⟨_,R,n,_,y,_,_,R,i,c.ZO,c.Qv,C.fr,_,R,a.dr,_,R,.inl ⟨rows,Sum.inr z,.inl u,R,D.symm⟩,d.2,some x.r,R,⟨L,(ok.ro x (XD f).1).2⟩,(),λr e M I G J=>by cases e;exact q x (by rw[(XD f).2]) (C9 f) M I G J⟩
def D3(G H:Hp)(v:V)(k:Xw):Prop:=∃r l,v=.ref r/\H r=some (.tup [.int (k.pr:Nat),.int (k.la:Nat),.ref l])/\G l=none/\H l=some (.lst (YL k.zs))
inductive ZkJ(t:Ya)(vs:List V)(H:Hp)(Q:VK)(E:XK):Prop|mk (n:Addr) (N:ZH) (v:V) (T:String) (_:vs=[.ref n,v]) (_:Ur t H n N) (_:Kd H v T) (_:(Yv Xw.nm N.tk v=false->E (.ref t.Wi) none H)) (_:∀x,v=.str x.nm->Xa Xw.nm N.tk x.nm=some x->∀v' H',Zc H H'->D3 H H' v' x->Q v' H')
def Zcc(c:Zy K mg t):Zp P w K mg base (YC P w) 3 t.ZaE t.ZaF ["self","name"] (ZkJ t):=by
 erw[c.Kh.F.okX qN () λS A outer s H U Q E I h=>?_];ext⟨n,N,v,T,rfl,⟨a,D⟩,kd,e,q⟩ h;ext⟨C,fs,i,G⟩ D.ob;ext⟨rows,y,u⟩ D.tk;have kn:=WB (λd x (h:Xn H d x)=>h.1) u v;erw[⟨_,(Zg (ZC (ZX (ZW (ZD c.C2 (KB c) I Zu (Zq (pv 1) (ZR (pv 0) R))))) (Zf (Vl Vj c.ZiT R R c.Zbe (Zh Zs))) ZK) (Zg (ZA 2 qN.nd (Yu I (ZR (pv 0) R) (pv 1))) (Zf (Zw (YH (Z5 (Zr ZV (pv 2) Za) (Zr ZV (pv 2) Za) (Z2 VB R c.YU YT (Zh (Zr ZV (pv 2) Za))))))))),?_⟩];erw[⟨_,R,_,R,n,_,C,_,_,R,i,c.ZO,c.QP,G.ft,v,T,a.dt,rows,R,kd,y,_,R,?_⟩];rw[kn];cases b:Yv Xw.nm N.tk v with
 |false=>exact Zo () ⟨zL9 R,e b⟩
 |true =>
 erw[Zi SO ?_];obtain⟨z,x,rfl,g⟩:=WC b;obtain⟨d,B,_,r,L,J,f,M⟩:=(UI (λd x (h:Xn H d x)=>h.1) u z).2 x g;rw[J]at B;erw[⟨_,R,n,_,C,_,_,R,i,c.ZO,c.QP,G.ft,_,R,a.dt,_,R,.inl ⟨rows,Sum.inr z,.inl y,R,B.symm⟩,?_⟩];erw[⟨_,R,r,_,0,_,R,R,Zk.of f,R,_,R,r,_,1,_,R,R,Zk.of f,R,_,R,r,_,2,_,R,R,Zk.of f,R,L,_,R,.inr (Zk.of M),λl j=>⟨zL9 R,λp O=>?_⟩⟩];have s1:=Zt j (.lst (YL x.zs));have s2:=Zt O (.tup [.int (x.pr:Nat),.int (x.la:Nat),.ref l]);exact q x (by rw[(XD g).2]) (C9 g) _ _ (s1.trans s2) ⟨p,l,R,Zj,j,s2 _ _ Zj⟩
inductive ZkK(t:Ya)(vs:List V)(H:Hp)(Q:VK)(E:XK):Prop|mk (n:Addr) (N:ZH) (v:V) (T:String) (_:vs=[.ref n,v]) (_:Ur t H n N) (_:Kd H v T) (_:(Yv Tp.nm N.tp v=false->E (.ref t.XN) none H)) (_:∀x,v=.str x.nm->Xa Tp.nm N.tp x.nm=some x->Q (.str x.ru) H)
def Zcd(c:Zy K mg t):Zp P w K mg base (YC P w) 3 t.ZaG t.ZaH ["self","trip"] (ZkK t):=by
 erw[c.Ki.F.okX Zhj () λJ A outer s H L Q E y h=>?_];ext⟨n,N,v,T,rfl,⟨a,f⟩,kd,e,q⟩ h;ext⟨j,fs,g,u⟩ f.ob;ext⟨rows,G,D⟩ f.tp;erw[⟨_,(Zg (Yk (Xc (pv 0) c.ZO c.Kc.me (Zb7 c) (y.mono ()) c.Kc.b .nil Xd (Zh (pv 1)))) (Zf (Zw (Zr ZV (Yu y (ZR (pv 0) R) (pv 1)) Za)))),?_⟩];erw[⟨_,R,n,j,_,R,g,u.n_check_trip,_,R,n,N,v,T,R,⟨a,f⟩,kd,λb=>?_,e⟩];obtain⟨z,x,rfl,d⟩:=WC b;obtain⟨i,I,_,r,O,M,B,C,_,_⟩:=(UI (λi x (h:Xh H i x)=>h.1) D z).2 x d;erw[⟨_,R,n,_,j,_,_,R,g,c.ZO,c.Qw,u.fp,_,R,a.dp,_,R,.inl ⟨rows,Sum.inr z,.inl G,R,I.symm⟩,r,_,0,_,B,R,Zk.of C,R,?_⟩];exact q x (by rw[(XD d).2]) (C9 d)
inductive ZkL(t:Ya)(vs:List V)(H:Hp)(Q:VK)(E:XK):Prop|mk (n:Addr) (N:ZH) (v:V) (T:String) (_:vs=[.ref n,v]) (_:Ur t H n N) (_:Kd H v T) (_:(Yv Tp.nm N.tp v=false->E (.ref t.XN) none H)) (_:∀x,v=.str x.nm->Xa Tp.nm N.tp x.nm=some x->∀l us H',Zc H H'->H l=none->H' l=some (.lst us)->Al (Yd H') us x.cs->Q (.ref l) H')
def Zce(c:Zy K mg t):Zp P w K mg base (YC P w) 3 t.ZaI t.ZaJ ["self","trip"] (ZkL t):=by
 erw[c.Kj.F.okX Zhk () λS A outer s H U Q E C h=>?_];ext⟨n,N,v,T,rfl,⟨a,f⟩,kd,e,q⟩ h;ext⟨y,fs,g,B⟩ f.ob;ext⟨rows,J,I⟩ f.tp;erw[⟨_,(Zg (Yk (Xc (pv 0) c.ZO c.Kc.me (Zb7 c) (C.mono ()) c.Kc.b .nil Xd (Zh (pv 1)))) (Zf (Zw (Z2 VB R c.YU YT (Zh (Zr ZV (Yu C (ZR (pv 0) R) (pv 1)) Za)))))),?_⟩];erw[⟨_,R,n,y,_,R,g,B.n_check_trip,_,R,n,N,v,T,R,⟨a,f⟩,kd,λb=>?_,e⟩];obtain⟨z,x,rfl,d⟩:=WC b;obtain⟨u,L,_,r,p,j,D,G,O,M⟩:=(UI (λu x (h:Xh H u x)=>h.1) I z).2 x d;erw[⟨_,R,n,_,y,_,_,R,g,c.ZO,c.Qw,B.fp,_,R,a.dp,_,R,.inl ⟨rows,Sum.inr z,.inl J,R,L.symm⟩,r,_,1,_,D,R,Zk.of G,R,p,_,R,.inr (Zk.of O),λl i=>?_⟩];have s1:=Zt i (.lst j);exact q x (by rw[(XD d).2]) (C9 d) _ j _ s1 i Zj (M.imp λ_ _=>Yd.same s1)
def ZkM{c:OE}(h:∀z∈c,0<=z):c.map V.int=YL (c.map Int.toNat):=by
 unfold YL;rw[Oe];exact List.map_congr_left λz d=>by
  show V.int z=V.int ((z.toNat:Nat):Int);rw[show((z.toNat:Nat):Int)=z by have:=h z d;lia]
def Zcf{zs:OE}{a b:Nat}{hi:Nat}(ha:a<=hi)(j:b<=hi)(i:zs.Pairwise (· < ·))(mem:∀z,z∈zs↔z∈[(a:Int),(b:Int)])(le:zs.length<=2):∃f:List Nat,zs.map V.int=YL f/\Np f 0 hi:=by
 have d:∀z∈zs,0<=z/\z<=(hi:Int):=λz c=>by
  have h:=(mem z).mp c;simp only[SE,List.not_mem_nil,or_false]at h;lia
 erw[⟨zs.map Int.toNat,ZkM λz c=>(d z c).1,?_,?_,?_,λx g=>?_⟩];rw[Sv];exact List.length_pos_iff.mpr λe=>by have:=(mem (a:Nat)).mpr SC;rw[e]at this;cases this
 rw[Sv];lia;rw[List.pairwise_map];exact i.imp_of_mem λha j u=>by have:=(d _ ha).1;lia
 obtain⟨z,c,rfl⟩:=SI.mp g;have:=d z c;exact⟨Sk _,()⟩
inductive ZkN(n:Nat)(vs:List V)(H:Hp)(Q:VK)(_e3:XK):Prop|mk (d deep:Nat) (_:vs=[.int d,.int deep]) (_:d<2147483647) (_:deep<n) (_:n<=3) (_:∀(r:RT) (v:V) (H':Hp),Zc H H'->r.good->r.weight+1<=2 ^ (deep+1)->r.depth<=deep+1->(∀tp,H tp≠none->YM tp H' v r)->Q v H')
def ZkO(j:Zy K mg t):∀n:Nat,Zp P w K mg base Zv (n+1) t.jT t.jU ["_law_number","_law_deep"] (ZkN n):=by
 intro n;induction n with
 |zero =>
  erw[j.U4.F.ok B8 (λvs H b0 c0 h=>?_) (λe0 A outer s H vs b0 c0 hr h=>?_)];ext⟨d,deep,rfl,_⟩ h;rfl;ext⟨d,deep,rfl,_,Y,_⟩ h;lia
 |succ n ih =>
 erw[j.U4.F.ok B8 () λe0 A outer s H vs b0 c0 hr h=>?_];ext⟨d,deep,rfl,hd,j0,h3,q⟩ h;erw[⟨_,(Zg (ZA 2 B8.nd (Zl Y5 (pv 0) Za)) (Qm (ZA 3 B8.nd (Qa (ZZ F7 (pv 1) Za) (Zl ZQ (pv 0) Za) (Zr ZJ (ZI (Z5 Za Za Za)) (Zl ZQ (pv 0) Za)))) (Zg (ZC (ZZ Ye (pv 3) Za) (Zf (Zw (YH (Zh Zs)))) ZK) (Zg (ZC (ZZ Ye (pv 3) Za) (Zf (Zw (YH (Zq Zs (Zl ZQ (pv 2) Za))))) ZK) (Zg (ZC (ZZ Ye (pv 3) Za) (Zg (ZA 4 B8.nd (ZN (No R) j.J4 J2 (Zh (Z2 (Nn R) R j.Tu Rw (Zh (ZI (Zq (Zl ZQ (pv 2) Za) (Zl ZQ (Zl Y5 (pv 2) Za) Za)))))))) (Zf (Zw (YH (Z5 Zs (Zl YZ Za (Zl ZQ (Zl Y5 (pv 2) Za) Za)) (pv 4)))))) ZK) (Zg (ZA 5 B8.nd (Vg ih (hr.mono ()) R j.U4.m j.U4.F.kp j.U4.b .nil Zu (Zq (Zl ZQ (Zl Q7 (pv 2) Za) Za) (Zl Q6 (pv 1) Za)))) (Zg (ZC (ZZ Ye (pv 3) Za) (Zf (Zw (YH (X1 Zs (Zl ZQ (pv 2) Za) (Zl YZ (Zl ZQ (pv 2) Za) (Zl ZQ (Zl Y5 (pv 2) Za) Za)) (pv 5))))) ZK) (Zg (ZC (ZZ Ye (pv 3) Za) (Zf (Zw (YH (Z5 Zs (ZN (No R) j.J4 J2 (Zh (Z2 (Nn R) R j.Tu Rw (Zh (ZI (Zq (Zl ZQ (pv 2) Za) (Zl ZQ (Zl Y5 (pv 2) Za) Za))))))) (pv 5))))) ZK) (Zf (Zw (YH (Z5 (Zr ZJ (ZI (Zq Zs Zs)) (Zl Q6 (pv 3) Za)) (pv 5) (Vg ih (hr.mono ()) R j.U4.m j.U4.F.kp j.U4.b .nil Zu (Zq (Zl ZQ (Zl Q7 (pv 2) Za) Za) (Zl Q6 (pv 1) Za))))))))))))))),?_⟩];sleep 2;erw[⟨_,R,_,_,R,R,⟨(),()⟩,?_⟩];have e7:(d:Int)/7=((d/7:Nat):Int):=by lia
 erw[⟨λg0 H'=>∃f:Nat,Zc H H'/\f<7/\(deep=0->f=0\/f=1\/f=3)/\g0=[some (.int d),some (.int deep),some (.int ((d/7:Nat):Int)),some (.int (f:Nat)),none,none],?_,?_⟩];rw[<-e7];sleep 1;erw[⟨_,R,_,_,R,R,_,R,?_⟩];by_cases c:0<deep;erw[Zo (SQ ()) ⟨_,R,_,_,R,R,(),d%7,Zc.refl H,(),(),?_⟩];rw[show((d%7:Nat):Int)=(d:Int)%7 by lia];rfl;erw[Zi (by rw[SR ()];lia) ⟨zL9 R,λp g=>?_⟩];erw[⟨_,R,_,_,R,R,(),?_⟩];obtain⟨v,ev,f,rfl,hw⟩:=VG (p:=λv=>∃f:Nat,v=V.int (f:Nat)/\(f=0\/f=1\/f=3)) (xs:=[.int 0,.int 1,.int 3]) (d:=(d:Int)%3) (λv hv=>by
  simp only[SE,List.not_mem_nil,or_false]at hv;rcases hv with rfl|rfl|rfl;exact⟨0,R,()⟩;exact⟨1,R,()⟩;exact⟨3,R,()⟩) () (by show(d:Int)%3<3;lia)
 exact⟨p,_,_,_,R,R,Ze.of Zj,ev,f,Zt g _,(),λ_=>hw,R⟩;rintro σ H1 ⟨f,s1,hw,Y,rfl⟩;have hm:d/7<306783379:=by lia
 generalize d/7=m at hm;sleep 7;have M:∀r:RT,r.weight=1->r.weight+1<=2 ^ (deep+1):=λr h=>by rw[h,Nat.pow_succ];have:=Nat.one_le_two_pow (n:=deep);lia
 erw[⟨_,R,R,_,R,Xs (λ_=>?_) (λL=>?_)⟩];sleep 1;exact⟨zL9 R,λp g=>q .always _ _ (s1.trans (Zt g _)) trivial (M _ R) (Om _ _) λtp _=>.always Zj⟩;sleep 1;erw[⟨_,R,R,_,R,Xs (λ_=>?_) (λX=>?_)⟩];sleep 1;erw[⟨_,R,_,_,R,R,(),zL9 R,λp g=>?_⟩];erw[q (.week (m%128)) _ _ (s1.trans (Zt g _)) (show m%128<=127 by lia) (M _ R) (Om _ _) λtp _=>.week ?_];rw[Zj,show((m%128:Nat):Int)=(m:Int)%128 by lia];have e4:∀k:Nat,(m:Int)%((k:Nat):Int)=((m%k:Nat):Int):=λk=>(SX m k).symm;have e5:∀a0 k:Nat,(m:Int)/((a0:Nat):Int)%((k:Nat):Int)=((m/a0%k:Nat):Int):=λa0 k=>by rw[SX,SY]
 erw[⟨_,R,R,_,R,Xs (λ_=>?_) (λU=>?_)⟩];sleep 2;erw[⟨_,R,_,_,R,R,(),_,R,_,_,R,R,⟨(),()⟩,_,_,R,R,(),zL9 R,λC g1=>?_⟩];have x:=Zt g1 (.lst [.int ((m:Int)%4),.int ((m:Int)/4%4)]);erw[⟨C,[(m:Int)%4,(m:Int)/4%4],R,Ze.of Zj,by show 2<=1000;lia,λG g2=>?_⟩];have B:=x.trans (Zt g2 (B0 P w G [(m:Int)%4,(m:Int)/4%4]));erw[⟨G,_,R,Zj,by show 2<64;lia,λI zs g3 T mem Z=>?_⟩];have t3:=Zt g3 (.lst (zs.map V.int));have S:=(s1.trans B).free g3;erw[⟨_,R,_,_,R,R,⟨(),()⟩,_,_,R,R,(),_,_,R,R,_,R,zL9 R,λp4 g4=>?_⟩];have i:=Zt g4 (.tup [.str (OK "each"),.int (4+(m:Int)/16%25),.ref I]);obtain⟨ss,O,Q⟩:=Zcf (a:=m%4) (b:=m/4%4) (hi:=3+m/16%25) () () T (λz=>by rw[mem,<-e4 4,<-e5 4 4];exact Iff.rfl) Z;erw[q (.each (4+m/16%25) ss) _ _ (((s1.trans B).trans t3).trans i) ⟨(),(),by rwa[show 4+m/16%25 - 1=3+m/16%25 by lia]⟩ (M _ R) (Om _ _) λtp u=>.each (l:=I) ?_ ?_ λe=>u (e ▸ S)];rw[Zj,show((4+m/16%25:Nat):Int)=4+(m:Int)/16%25 by lia];exact i _ _ (by rw[Zj,O]);have d1:1<=deep:=by
  rcases Nat.eq_zero_or_pos deep with h|h;have:=Y h;have L:¬ (f:Int)=0:=λe=>L (by rw[Vx];simpa using e);have X:¬ (f:Int)=1:=λe=>X (by rw[Vx];simpa using e);have U:¬ (f:Int)=3:=λe=>U (by rw[Vx];simpa using e);lia;exact h
 obtain⟨dp,rfl⟩:∃dp,deep=dp+1:=⟨deep - 1,()⟩;have er:∀c:Nat,(m:Int)*((c:Nat):Int)%2147483647=((m*c%2147483647:Nat):Int):=λc=>by rw[SX,Int.natCast_mul];rfl
 have ea:∀c:Nat,[V.int ((m:Int)*((c:Nat):Int)%2147483647),V.int (((dp+1:Nat):Int) - 1)]=[.int ((m*c%2147483647:Nat):Int),.int (dp:Int)]:=λc=>by rw[er c,show((dp+1:Nat):Int) - 1=(dp:Int) by lia]
 have lt:∀c:Nat,m*c%2147483647<2147483647:=λc=>Oo _ ();erw[⟨_,R,_,_,R,R,.inr ⟨(),()⟩,_,_,R,R,(),_,R,_,_,R,R,m*48271%2147483647,dp,ea 48271,lt _,(),(),λr v H2 s2 g2 w2 p2 T2=>?_⟩];have D:=s1.trans s2;have J:∀tp,H tp≠none->YM tp H2 v r:=λtp h=>T2 tp λe=>h (s1.free e);have i0:2 ^ (dp+1+1)=2*2 ^ (dp+1):=by rw[Nat.pow_succ,Nat.mul_comm]
 erw[⟨_,R,R,_,R,Xs (λ_=>?_) (λn2=>?_)⟩];sleep 1;erw[⟨_,R,_,_,R,R,(),_,R,_,_,R,R,(),_,R,_,_,R,R,⟨(),()⟩,_,_,R,R,(),_,_,R,R,_,R,zL9 R,λp g=>?_⟩];have t3:=Zt g (.tup [.str (OK "span"),.int ((m:Int)%20),.int ((m:Int)%20+(m:Int)/20%30),v]);erw[q (.span (m%20) (m%20+m/20%30) r) _ _ (D.trans t3) ⟨(),(),g2⟩ (by show 1+r.weight+1<=_;lia) (by show 1+r.depth<=_;lia) λtp u=>.span (v:=v) ?_ ((J tp u).same t3)];rw[Zj,show((m%20+m/20%30:Nat):Int)=(m:Int)%20+(m:Int)/20%30 by lia,show((m%20:Nat):Int)=(m:Int)%20 by lia];erw[⟨_,R,R,_,R,Xs (λ_=>?_) (λn4=>?_)⟩];sleep 1;erw[⟨_,R,_,_,R,R,(),_,R,_,_,R,R,⟨(),()⟩,_,_,R,R,(),zL9 R,λC g1=>?_⟩];have x:=Zt g1 (.lst [.int ((m:Int)%9),.int ((m:Int)/9%9)]);erw[⟨C,[(m:Int)%9,(m:Int)/9%9],R,Ze.of Zj,by show 2<=1000;lia,λG g3=>?_⟩];have B:=x.trans (Zt g3 (B0 P w G [(m:Int)%9,(m:Int)/9%9]));erw[⟨G,_,R,Zj,by show 2<64;lia,λI zs g4 T mem Z=>?_⟩];have t3:=Zt g4 (.lst (zs.map V.int));have S:=(D.trans B).free g4;erw[⟨_,R,zL9 R,λp4 g5=>?_⟩];have i:=Zt g5 (.tup [.str (OK "but"),.ref I,v]);obtain⟨ss,O,Q⟩:=Zcf (a:=m%9) (b:=m/9%9) (hi:=9999) () () T (λz=>by rw[mem,<-e4 9,<-e5 9 9];exact Iff.rfl) Z;erw[q (.but ss r) _ _ (((D.trans B).trans t3).trans i) ⟨Q,g2⟩ (by show 1+r.weight+1<=_;lia) (by show 1+r.depth<=_;lia) λtp u=>.but (l:=I) Zj ?_ (λe=>u (e ▸ S)) ((J tp u).same ((B.trans t3).trans i))];exact i _ _ (by rw[Zj,O]);have f0:f=5\/f=6:=by
  have Y:¬ (f:Int)=0:=λe=>L (by rw[Vx];simpa using e);have h1:¬ (f:Int)=1:=λe=>X (by rw[Vx];simpa using e);have h2:¬ (f:Int)=2:=λe=>n2 (by rw[Vx];simpa using e);have h3:¬ (f:Int)=3:=λe=>U (by rw[Vx];simpa using e);have h4:¬ (f:Int)=4:=λe=>n4 (by rw[Vx];simpa using e);lia
 erw[⟨zL9 R,λC g1=>?_⟩];have x:=Zt g1 (.lst [.str (OK "either"),.str (OK "both")]);obtain⟨E,ek,hk⟩:∃E,Xy [V.str (OK "either"),V.str (OK "both")] ((f:Int) - 5)=some E/\(E=.str (OK "either")\/E=.str (OK "both")):=by
  rcases f0 with rfl|rfl;exact⟨_,R,.inl R⟩;exact⟨_,R,.inr R⟩
 erw[⟨_,R,_,_,R,R,C,_,_,_,R,R,Ze.of Zj,ek,_,R,?_⟩];erw[⟨_,R,_,_,R,R,.inr ⟨(),()⟩,_,_,R,R,(),_,R,_,_,R,R,m*16807%2147483647,dp,ea 16807,lt _,(),(),λy v3 H3 s3 g3 w3 p3 T3=>?_⟩];erw[⟨zL9 R,λp4 g4=>?_⟩];have i:=Zt g4 (.tup [E,v,v3]);have d0:∀tp,H tp≠none->YM tp H3 v3 y:=λtp h=>T3 tp λe=>h ((D.trans x).free e);have S4:=((D.trans x).trans s3).trans i;rcases hk with rfl|rfl;exact q (.either r y) _ _ S4 ⟨g2,g3⟩ (by show 1+(r.weight+y.weight)+1<=_;lia) (by show 1+max r.depth y.depth<=_;lia) λtp u=>.either Zj ((J tp u).same ((x.trans s3).trans i)) ((d0 tp u).same i);exact q (.both r y) _ _ S4 ⟨g2,g3⟩ (by show 1+(r.weight+y.weight)+1<=_;lia) (by show 1+max r.depth y.depth<=_;lia) λtp u=>.both Zj ((J tp u).same ((x.trans s3).trans i)) ((d0 tp u).same i)
inductive ZkP(c:RC)(K:Ox)(n:Nat)(vs:List V)(H:Hp)(Q:VK)(_e3:XK):Prop|mk (tp:Addr) (v:V) (r:RT) (_:vs=[v]) (_:YM tp H v r) (_:r.good) (_:r.weight<=15) (_:r.depth<=8) (_:r.depth<=n) (_:∀b H',Zc H H'->ZS c K H' b r->Q (.ref b) H')
def ZkQ(d:Zy K mg t):∀n:Nat,Zp P w K mg base Zv (n+42) t.jV t.jW ["_law_told"] (ZkP (rc t) K n):=by
 intro n;induction n with
 |zero =>
  erw[d.XB.F.ok qB (λvs H a0 b0 h=>?_) (λc0 A outer s H vs a0 b0 i h=>?_)];ext⟨tp,v,r,rfl,_⟩ h;rfl;ext⟨tp,v,r,rfl,h,g,M,O,hd,_⟩ h;have:=r.depth_pos;lia
 |succ n I =>
 erw[d.XB.F.ok qB () λc0 A outer s H vs a0 b0 i h=>?_];ext⟨tp,v,r,rfl,h,g,M,O,hd,q⟩ h;erw[⟨_,(Zg (ZC (ZZ Ye (Zr ZV (pv 0) Za) Zs) (Zf (Zw (vA d.Za3 R d.L0))) ZK) (Zg (ZC (ZZ Ye (Zr ZV (pv 0) Za) Zs) (Zf (Zw (Vy d.Za4 (ZjH d) (i.mono ()) R d.Zbg d.TL.b .nil Zu (Zh (Zr ZV (pv 0) Za))))) ZK) (Zg (ZC (ZZ Ye (Zr ZV (pv 0) Za) Zs) (Zf (Zw (Vy d.Za6 (ZjI d) (i.mono ()) R d.Zbi d.TU.b .nil Zu (Zq (Zr ZV (pv 0) Za) (Z2 VB R d.YU YT (Zh (Zr ZV (pv 0) Za))))))) ZK) (Zg (ZC (ZZ Ye (Zr ZV (pv 0) Za) Zs) (Zf (Zw (Vy d.Za5 (ZjD d) (i.mono ()) R d.Zbh d.TQ.b .nil Zu (Z5 (Zr ZV (pv 0) Za) (Zr ZV (pv 0) Za) (Vg I (i.mono ()) R d.XB.m d.XB.F.kp d.XB.b .nil Zu (Zh (Zr ZV (pv 0) Za))))))) ZK) (Zg (ZC (ZZ Ye (Zr ZV (pv 0) Za) Zs) (Zf (Zw (Vy d.Za9 (ZjE d) (i.mono ()) R d.Zbl d.T1.b .nil Zu (Zq (Z2 VB R d.YU YT (Zh (Zr ZV (pv 0) Za))) (Vg I (i.mono ()) R d.XB.m d.XB.F.kp d.XB.b .nil Zu (Zh (Zr ZV (pv 0) Za))))))) ZK) (Zg (ZC (ZZ Ye (Zr ZV (pv 0) Za) Zs) (Zf (Zw (Vy d.Za7 (ZjF d) (i.mono ()) R d.Zbj d.TX.b .nil Zu (Zq (Vg I (i.mono ()) R d.XB.m d.XB.F.kp d.XB.b .nil Zu (Zh (Zr ZV (pv 0) Za))) (Vg I (i.mono ()) R d.XB.m d.XB.F.kp d.XB.b .nil Zu (Zh (Zr ZV (pv 0) Za))))))) ZK) (Zf (Zw (Vy d.Za8 (ZjG d) (i.mono ()) R d.Zbk d.TZ.b .nil Zu (Zq (Vg I (i.mono ()) R d.XB.m d.XB.F.kp d.XB.b .nil Zu (Zh (Zr ZV (pv 0) Za))) (Vg I (i.mono ()) R d.XB.m d.XB.F.kp d.XB.b .nil Zu (Zh (Zr ZV (pv 0) Za))))))))))))),?_⟩];cases h with
 |always h =>
  erw[⟨_,R,_,_,0,_,R,R,Zk.of h,R,R,_,R,Zo () ?_⟩];exact λx G nx nd E=>q x _ (XH nx (XH nd (Zc.refl _) _) _) (.always Zj)
 |week h =>
  erw[⟨_,R,_,_,0,_,R,R,Zk.of h,R,R,_,R,Zi () ?_⟩];erw[⟨_,R,_,_,0,_,R,R,Zk.of h,R,R,_,R,Zo () ?_⟩];exact⟨_,R,_,_,1,_,R,R,Zk.of h,R,λx G nx nd E=>⟨x,H,_,R,VO nx nd,g,λy j B=>⟨R,q x y j (B.same (V3 _ _))⟩⟩⟩
 |each h T ne =>
  rename_i a l m ss;erw[⟨_,R,_,_,0,_,R,R,Zk.of h,R,R,_,R,Zi () ?_⟩];erw[⟨_,R,_,_,0,_,R,R,Zk.of h,R,R,_,R,Zi () ?_⟩];erw[⟨_,R,_,_,0,_,R,R,Zk.of h,R,R,_,R,Zo () ?_⟩];erw[⟨_,R,_,_,1,_,R,R,Zk.of h,R,_,R,_,_,2,_,R,R,Zk.of h,R,l,_,R,.inl (Ze.of T),λp Z x G nx nd E=>?_⟩];have s1:=Zt Z (.lst (YL ss));exact⟨x,p,_,_,_,R,VO nx nd,Zj,g,λy j B=>⟨R,q x y (s1.trans j) (B.same (V3 _ _))⟩⟩
 |span h C =>
  rename_i a x0 X v r;have ed:(RT.span x0 X r).depth=1+r.depth:=rfl;have Y:(RT.span x0 X r).weight=1+r.weight:=rfl;erw[⟨_,R,_,_,0,_,R,R,Zk.of h,R,R,_,R,Zi () ?_⟩];erw[⟨_,R,_,_,0,_,R,R,Zk.of h,R,R,_,R,Zi () ?_⟩];erw[⟨_,R,_,_,0,_,R,R,Zk.of h,R,R,_,R,Zi () ?_⟩];erw[⟨_,R,_,_,0,_,R,R,Zk.of h,R,R,_,R,Zo () ?_⟩];erw[⟨_,R,_,_,1,_,R,R,Zk.of h,R,_,R,_,_,2,_,R,R,Zk.of h,R,_,R,_,_,3,_,R,R,Zk.of h,R,tp,v,r,R,C,g.2.2,(),(),(),λb S s1 D=>?_⟩];exact λx G nx nd E=>⟨x,b,S,x0,X,r,R,VO nx nd,D,g,M,O,(),λy j B=>⟨R,q x y (s1.trans j) (B.same (V3 _ _))⟩⟩
 |but h T ne C =>
  rename_i a l ds v r;have ed:(RT.but ds r).depth=1+r.depth:=rfl;have Y:(RT.but ds r).weight=1+r.weight:=rfl;erw[⟨_,R,_,_,0,_,R,R,Zk.of h,R,R,_,R,Zi () ?_⟩];erw[⟨_,R,_,_,0,_,R,R,Zk.of h,R,R,_,R,Zi () ?_⟩];erw[⟨_,R,_,_,0,_,R,R,Zk.of h,R,R,_,R,Zi () ?_⟩];erw[⟨_,R,_,_,0,_,R,R,Zk.of h,R,R,_,R,Zi () ?_⟩];erw[⟨_,R,_,_,0,_,R,R,Zk.of h,R,R,_,R,Zo () ?_⟩];erw[⟨_,R,_,_,1,_,R,R,Zk.of h,R,l,_,R,.inl (Ze.of T),λp Z=>?_⟩];have s1:=Zt Z (.lst (YL ds));have D:=s1 _ _ h;erw[⟨_,R,_,_,2,_,R,R,Zk.of D,R,tp,v,r,R,C.same s1,g.2,(),(),(),λb J s2 L=>?_⟩];exact λx G nx nd E=>⟨x,p,b,J,ds,r,R,VO nx nd,s2 _ _ Zj,L,g,M,O,(),λy j B=>⟨R,q x y ((s1.trans s2).trans j) (B.same (V3 _ _))⟩⟩
 |either h C Q =>
  rename_i a v u r f;have ed:(RT.either r f).depth=1+max r.depth f.depth:=rfl;have Y:(RT.either r f).weight=1+(r.weight+f.weight):=rfl;erw[⟨_,R,_,_,0,_,R,R,Zk.of h,R,R,_,R,Zi () ?_⟩];erw[⟨_,R,_,_,0,_,R,R,Zk.of h,R,R,_,R,Zi () ?_⟩];erw[⟨_,R,_,_,0,_,R,R,Zk.of h,R,R,_,R,Zi () ?_⟩];erw[⟨_,R,_,_,0,_,R,R,Zk.of h,R,R,_,R,Zi () ?_⟩];erw[⟨_,R,_,_,0,_,R,R,Zk.of h,R,R,_,R,Zi () ?_⟩];erw[⟨_,R,_,_,0,_,R,R,Zk.of h,R,R,_,R,Zo () ?_⟩];erw[⟨_,R,_,_,1,_,R,R,Zk.of h,R,tp,v,r,R,C,g.1,(),(),(),λb S s1 D=>?_⟩];have L:=s1 _ _ h;erw[⟨_,R,_,_,2,_,R,R,Zk.of L,R,tp,u,f,R,Q.same s1,g.2,(),(),(),λc J s2 U=>?_⟩];exact λx G nx nd E=>⟨x,b,c,J,r,f,R,VO nx nd,D.same s2,U,g,M,O,(),(),λy j B=>⟨R,q x y ((s1.trans s2).trans j) (B.same (V3 _ _))⟩⟩
 |both h C Q =>
  rename_i a v u r f;have ed:(RT.both r f).depth=1+max r.depth f.depth:=rfl;have Y:(RT.both r f).weight=1+(r.weight+f.weight):=rfl;erw[⟨_,R,_,_,0,_,R,R,Zk.of h,R,R,_,R,Zi () ?_⟩];erw[⟨_,R,_,_,0,_,R,R,Zk.of h,R,R,_,R,Zi () ?_⟩];erw[⟨_,R,_,_,0,_,R,R,Zk.of h,R,R,_,R,Zi () ?_⟩];erw[⟨_,R,_,_,0,_,R,R,Zk.of h,R,R,_,R,Zi () ?_⟩];erw[⟨_,R,_,_,0,_,R,R,Zk.of h,R,R,_,R,Zi () ?_⟩];erw[⟨_,R,_,_,0,_,R,R,Zk.of h,R,R,_,R,Zi () ?_⟩];erw[⟨_,R,_,_,1,_,R,R,Zk.of h,R,tp,v,r,R,C,g.1,(),(),(),λb S s1 D=>?_⟩];have L:=s1 _ _ h;erw[⟨_,R,_,_,2,_,R,R,Zk.of L,R,tp,u,f,R,Q.same s1,g.2,(),(),(),λc J s2 U=>?_⟩];exact λx G nx nd E=>⟨x,b,c,J,r,f,R,VO nx nd,D.same s2,U,g,M,O,(),(),λy j B=>⟨R,q x y ((s1.trans s2).trans j) (B.same (V3 _ _))⟩⟩
inductive ZkR(n:Nat)(vs:List V)(H:Hp)(Q:VK)(_e3:XK):Prop|mk (tp:Addr) (v:V) (r:RT) (d:Nat) (_:vs=[v,.int d]) (_:YM tp H v r) (_:r.good) (_:r.depth<=n) (_:∀H',Zc H H'->Q (.bl (r.runs d)) H')
def ZkS(f:Zy K mg t):∀n:Nat,Zp P w K mg base Zv (n+1) t.jX t.jY ["_law_told","_law_day"] (ZkR n):=by
 intro n;induction n with
 |zero =>
  erw[f.WV.F.ok Pc (λvs H Q a0 h=>?_) (λb0 A outer s H vs Q a0 J h=>?_)];ext⟨tp,v,r,d,rfl,_⟩ h;rfl;ext⟨tp,v,r,d,rfl,h,g,hd,_⟩ h;have:=r.depth_pos;lia
 |succ n M =>
 erw[f.WV.F.ok Pc () λb0 A outer s H vs Q a0 J h=>?_];ext⟨tp,v,r,d,rfl,h,g,hd,q⟩ h;erw[⟨_,(Zg (ZC (ZZ Ye (Zr ZV (pv 0) Za) Zs) (Zf (Zw YY)) ZK) (Zg (ZC (ZZ Ye (Zr ZV (pv 0) Za) Zs) (Zf (Zw (Y7 Ye (Zl ZQ (Zl Y5 (Zr ZV (pv 0) Za) (Zl Zdv Za (Zl ZQ (pv 1) Za))) Za) Za (Xq _)))) ZK) (Zg (ZC (ZZ Ye (Zr ZV (pv 0) Za) Zs) (Zf (Zw (Y7 G2 (Zl ZQ (pv 1) (Zr ZV (pv 0) Za)) (Zr ZV (pv 0) Za) R))) ZK) (Zg (ZC (ZZ Ye (Zr ZV (pv 0) Za) Zs) (Zf (Zw (WI (K9 XE XE (Zr ZV (pv 0) Za) (pv 1) (Zr ZV (pv 0) Za)) (X6 (Vg M (J.mono ()) R f.WV.m f.WV.F.kp f.WV.b .nil Zu (Zq (Zr ZV (pv 0) Za) (pv 1))))))) ZK) (Zg (ZC (ZZ Ye (Zr ZV (pv 0) Za) Zs) (Zf (Zw (Y7 K7 (Vg M (J.mono ()) R f.WV.m f.WV.F.kp f.WV.b .nil Zu (Zq (Zr ZV (pv 0) Za) (pv 1))) (Y7 G2 (pv 1) (Zr ZV (pv 0) Za) R) (Xq _)))) ZK) (Zg (Q3 (i:=2) (j:=3) R Pc.nd R R () R R (Zq (Vg M (J.mono ()) R f.WV.m f.WV.F.kp f.WV.b .nil Zu (Zq (Zr ZV (pv 0) Za) (pv 1))) (Vg M (J.mono ()) R f.WV.m f.WV.F.kp f.WV.b .nil Zu (Zq (Zr ZV (pv 0) Za) (pv 1)))) R) (Zf (Zw (Qa (ZZ Ye (Zr ZV (pv 0) Za) Zs) (MF (pv 2) (X6 (pv 3))) (WI (pv 2) (X6 (pv 3)))))))))))),?_⟩];cases h with
 |always h =>
  erw[⟨_,R,_,_,0,_,R,R,Zk.of h,R,R,_,R,Zo () ?_⟩];exact q _ (Zc.refl _)
 |week h =>
  rename_i a b;erw[⟨_,R,_,_,0,_,R,R,Zk.of h,R,R,_,R,Zi () ?_⟩];erw[⟨_,R,_,_,0,_,R,R,Zk.of h,R,R,_,R,Zo () ?_⟩];have eN:((d:Int)%7).toNat=d%7:=by lia
  have pL:(1:Int)*2 ^ ((d:Int)%7).toNat=((2 ^ (d%7):Nat):Int):=by rw[eN,Int.one_mul,Int.natCast_pow];rfl
  have pP:0<2 ^ (d%7):=Nat.two_pow_pos _;have pU:2 ^ (d%7)<=2 ^ 6:=Nat.pow_le_pow_right () ();erw[⟨_,R,_,_,1,_,R,R,Zk.of h,R,_,R,_,_,R,R,(),_,_,R,R,⟨(),(),()⟩,_,_,R,R,?_,_,_,R,R,(),R,?_⟩];rw[pL];exact⟨(),()⟩;have c:=q H (Zc.refl _);have e:(RT.week b).runs d=decide (V.int ((b:Int)/((1:Int)*2 ^ ((d:Int)%7).toNat)%2)=V.int 1):=by
   rw[pL,Vx,<-SY];show(b/2 ^ (d%7)%2==1)=_;rw[Bool.eq_iff_iff,beq_iff_eq,beq_iff_eq];lia
  rw[e]at c;exact c
 |each h T ne =>
  rename_i a l m L;ext⟨g1,g2,g3⟩ g;erw[⟨_,R,_,_,0,_,R,R,Zk.of h,R,R,_,R,Zi () ?_⟩];erw[⟨_,R,_,_,0,_,R,R,Zk.of h,R,R,_,R,Zi () ?_⟩];erw[⟨_,R,_,_,0,_,R,R,Zk.of h,R,R,_,R,Zo () ?_⟩];have e1:(d:Int)%(m:Int)=((d%m:Nat):Int):=(SX d m).symm;erw[⟨_,R,_,R,_,_,1,_,R,R,Zk.of h,R,_,_,R,R,(by show(0:Int)<(m:Int);lia),_,R,_,_,2,_,R,R,Zk.of h,R,l,_,R,.inl (Ze.of T),R,Lk L,?_⟩];have c:=q H (Zc.refl _);have e2:Qi (.int ((d:Int)%(m:Int))) (YL L)=(RT.each m L).runs d:=by
   rw[e1];exact G9 (d%m) L
  rw[<-e2]at c;exact c
 |span h D =>
  rename_i a x y v r;have Y:(RT.span x y r).depth=1+r.depth:=rfl;have Z:∀b:Bool,b=(decide (x<=d) && decide (d<=y) && r.runs d)->∀E,Zc H E->Q (.bl b) E:=λb e E X=>by rw[e];exact q E X
  erw[⟨_,R,_,_,0,_,R,R,Zk.of h,R,R,_,R,Zi () ?_⟩];erw[⟨_,R,_,_,0,_,R,R,Zk.of h,R,R,_,R,Zi () ?_⟩];erw[⟨_,R,_,_,0,_,R,R,Zk.of h,R,R,_,R,Zi () ?_⟩];erw[⟨_,R,_,_,0,_,R,R,Zk.of h,R,R,_,R,Zo () ?_⟩];erw[⟨_,R,_,_,1,_,R,R,Zk.of h,R,_,R,_,_,R,R,_,R,?_⟩];by_cases C:x<=d;rw[SW (SQ ())];erw[⟨_,R,_,_,2,_,R,R,Zk.of h,R,_,_,R,R,_,R,?_⟩];by_cases h2:d<=y;erw[Zo (SQ ()) ?_];exact⟨_,R,_,_,3,_,R,R,Zk.of h,R,_,R,tp,v,r,d,R,D,g.2.2,(),λE X=>Z _ (by rw[SQ C,SQ h2];rfl) E X⟩;erw[Zi (by rw[SR ()];lia) ?_];exact Z _ (by rw[SR h2,Bool.and_false,Bool.false_and]) H (Zc.refl _);rw[SV (by rw[SR ()];lia)];exact⟨_,R,Zi () (Z _ (by rw[SR C,Bool.false_and,Bool.false_and]) H (Zc.refl _))⟩
 |but h T ne D =>
  rename_i a l ds v r;have Y:(RT.but ds r).depth=1+r.depth:=rfl;erw[⟨_,R,_,_,0,_,R,R,Zk.of h,R,R,_,R,Zi () ?_⟩];erw[⟨_,R,_,_,0,_,R,R,Zk.of h,R,R,_,R,Zi () ?_⟩];erw[⟨_,R,_,_,0,_,R,R,Zk.of h,R,R,_,R,Zi () ?_⟩];erw[⟨_,R,_,_,0,_,R,R,Zk.of h,R,R,_,R,Zi () ?_⟩];erw[⟨_,R,_,_,0,_,R,R,Zk.of h,R,R,_,R,Zo () ?_⟩];erw[⟨_,R,_,_,2,_,R,R,Zk.of h,R,_,R,tp,v,r,d,R,D,g.2,(),λS s1=>?_⟩];have C:=s1 _ _ h;erw[⟨_,R,_,R,_,_,1,_,R,R,Zk.of C,R,l,_,R,.inl (Ze.of (s1 _ _ T)),R,Lk ds,R,?_⟩];have c:=q S s1;have e:(RT.but ds r).runs d=(!decide (V.bl (r.runs d)=V.bl (Qi (.int (d:Int)) (YL ds)))):=by
   rw[G9,K6];rfl
  rw[e]at c;exact c
 |either h D O =>
  rename_i a v u r B;have Y:(RT.either r B).depth=1+max r.depth B.depth:=rfl;erw[⟨_,R,_,_,0,_,R,R,Zk.of h,R,R,_,R,Zi () ?_⟩];erw[⟨_,R,_,_,0,_,R,R,Zk.of h,R,R,_,R,Zi () ?_⟩];erw[⟨_,R,_,_,0,_,R,R,Zk.of h,R,R,_,R,Zi () ?_⟩];erw[⟨_,R,_,_,0,_,R,R,Zk.of h,R,R,_,R,Zi () ?_⟩];erw[⟨_,R,_,_,0,_,R,R,Zk.of h,R,R,_,R,Zi () ?_⟩];erw[⟨_,R,_,_,1,_,R,R,Zk.of h,R,_,R,tp,v,r,d,R,D,g.1,(),λS s1=>?_⟩];have C:=s1 _ _ h;erw[⟨_,R,_,_,2,_,R,R,Zk.of C,R,_,R,tp,u,B,d,R,O.same s1,g.2,(),λH2 s2=>?_⟩];have G:=s1.trans s2;have U:=G _ _ h;erw[⟨_,_,R,?_⟩];erw[⟨_,R,_,_,0,_,R,R,Zk.of U,R,R,_,R,Zo () ?_⟩];have c:=q _ G;erw[⟨_,R,_,R,?_⟩];have e:(RT.either r B).runs d=(r.runs d || B.runs d):=rfl;rw[e]at c;cases I:r.runs d with
  |true=>rw[I]at c;exact Zo R c
  |false=>rw[I]at c;exact Zi () ⟨_,R,c⟩
 |both h D O =>
  rename_i a v u r B;have Y:(RT.both r B).depth=1+max r.depth B.depth:=rfl;erw[⟨_,R,_,_,0,_,R,R,Zk.of h,R,R,_,R,Zi () ?_⟩];erw[⟨_,R,_,_,0,_,R,R,Zk.of h,R,R,_,R,Zi () ?_⟩];erw[⟨_,R,_,_,0,_,R,R,Zk.of h,R,R,_,R,Zi () ?_⟩];erw[⟨_,R,_,_,0,_,R,R,Zk.of h,R,R,_,R,Zi () ?_⟩];erw[⟨_,R,_,_,0,_,R,R,Zk.of h,R,R,_,R,Zi () ?_⟩];erw[⟨_,R,_,_,1,_,R,R,Zk.of h,R,_,R,tp,v,r,d,R,D,g.1,(),λS s1=>?_⟩];have C:=s1 _ _ h;erw[⟨_,R,_,_,2,_,R,R,Zk.of C,R,_,R,tp,u,B,d,R,O.same s1,g.2,(),λH2 s2=>?_⟩];have G:=s1.trans s2;have U:=G _ _ h;erw[⟨_,_,R,?_⟩];erw[⟨_,R,_,_,0,_,R,R,Zk.of U,R,R,_,R,Zi () ?_⟩];have c:=q _ G;erw[⟨_,R,_,R,?_⟩];have e:(RT.both r B).runs d=(r.runs d && B.runs d):=rfl;rw[e]at c;cases I:r.runs d with
  |true=>rw[I]at c;exact Zo R ⟨_,R,c⟩
  |false=>rw[I]at c;exact Zi () c
def Z0(g:H p=none)(e:Zb H p o=c):Zc H c:=e ▸ Zt g o
def Z7(e:Zb H p o=c):c p=some o:=e ▸ Zj
local macro_rules|`(tactic|exists $a,$b,$c:ident,$d:ident,$e,$f:ident)=>`(tactic|(generalize hE:Zb $a $b _=$c;have $d:ident:=Z0 $e hE;have $f:ident:=Z7 hE;clear hE))
structure ZkT(kvs:List (ZF×V))(a:NA):Prop where
 s:Ys kvs (Sum.inr (OK "stops"))=some (.ref a.ds)
 w:Ys kvs (Sum.inr (OK "walks"))=some (.ref a.lw)
 r:Ys kvs (Sum.inr (OK "rules"))=some (.ref a.dr)
 t:Ys kvs (Sum.inr (OK "tickets"))=some (.ref a.dt)
 p:Ys kvs (Sum.inr (OK "trips"))=some (.ref a.dp)
def Xb(H:Hp)(c:ZF×V)(k:Xm):Prop:=c.1=Sum.inr k.nm/\∃tp,YM tp H c.2 k.r
def Xb.same(s:Zc H d)(h:Xb H c k):Xb d c k:=let ⟨e,tp,h⟩:=h;⟨e,tp,h.same s⟩
def Xo(H:Hp)(c:ZF×V)(k:Xw):Prop:=c.1=Sum.inr k.nm/\∃r z,c.2=.ref r/\H r=some (.tup [.int (k.pr:Nat),.int (k.la:Nat),.ref z])/\H z=some (.lst (YL k.zs))
def Xo.same(s:Zc H d)(h:Xo H c k):Xo d c k:=let ⟨e,r,z,e1,e2,e3⟩:=h;⟨e,r,z,e1,s _ _ e2,s _ _ e3⟩
def Xp(H:Hp)(c:ZF×V)(k:Tp):Prop:=c.1=Sum.inr k.nm/\∃r l d,c.2=.ref r/\H r=some (.tup [.str k.ru,.ref l])/\H l=some (.lst d)/\Al (Yd H) d k.cs
def Xp.same(s:Zc H d)(h:Xp H c k):Xp d c k:=let ⟨e,r,l,vs,e1,e2,e3,e4⟩:=h;⟨e,r,l,vs,e1,s _ _ e2,s _ _ e3,e4.imp λ_ _=>Yd.same s⟩
structure Yb(H:Hp)(wd:Addr)(a:NA)(W:ZH):Prop where
 ob:∃kvs,H wd=some (.dK kvs)/\ZkT kvs a
 ap:Zb5 a
 st:∃rows,H a.ds=some (.dK rows)/\Al (Yo H) rows W.st
 wk:∃vs,H a.lw=some (.lst vs)/\Al (YF H) vs W.wk
 ru:∃rows,H a.dr=some (.dK rows)/\Al (Xb H) rows W.ru
 tk:∃rows,H a.dt=some (.dK rows)/\Al (Xo H) rows W.tk
 tp:∃rows,H a.dp=some (.dK rows)/\Al (Xp H) rows W.tp
def Yb.same{W:ZH}(s:Zc H c)(h:Yb H n a W):Yb c n a W:=by
 ext⟨⟨L,j,J⟩,ap,⟨g,G,x⟩,⟨M,E,C⟩,⟨D,B,i⟩,⟨d,y,v⟩,⟨I,f,u⟩⟩ h;exact⟨⟨L,s _ _ j,J⟩,ap,⟨g,s _ _ G,x.imp λ_ _=>Yo.same s⟩,⟨M,s _ _ E,C.imp λ_ _=>YF.same s⟩,⟨D,s _ _ B,i.imp λ_ _=>Xb.same s⟩,⟨d,s _ _ y,v.imp λ_ _=>Xo.same s⟩,⟨I,s _ _ f,u.imp λ_ _=>Xp.same s⟩⟩
def ZkU:Sp:=λd H Q _=>d=[]/\∀wd a c,Zc H c->H wd=none->Mn H a->(wd≠a.ds/\wd≠a.dr/\wd≠a.dt/\wd≠a.dp)->Yb c wd a ⟨[],[],[],[],[]⟩->Q (.ref wd) c
def Zcg(Tx:Zy K mg t):Zp P w K mg base Zv 1 t.kB t.kC [] ZkU:=by
 erw[Tx.QO.F.ok ZgJ () λg0 A outer s b0 vs h0 i0 hr h=>?_];ext⟨rfl,q⟩ h;erw[⟨_,(Zf (Zw (ZfW (JU Zs Uz (JU Zs (ZI YG) (JU Zs Uz (JU Zs Uz (JU Zs Uz ZfU))))) R R (λh=>nomatch h) ()))),?_⟩];sleep 1;intro p B;exists b0,p,H0,s0,B,u;erw[λd g1=>?_];exists H0,d,M,s1,g1,v;erw[⟨zL9 R,λx g2=>?_⟩];exists M,x,O,s2,g2,c2;erw[λi g3=>?_];exists O,i,Q,s3,g3,y;erw[λf g4=>?_];exists Q,f,H4,s4,g4,E;erw[λg g5=>?_];exists H4,g,H5,j,g5,c5;have U:=j _ _ (s4 _ _ (s3 _ _ (s2 _ _ (s1 _ _ u))));have T:=j _ _ (s4 _ _ (s3 _ _ (s2 _ _ v)));have k2:=j _ _ (s4 _ _ (s3 _ _ c2));have k3:=j _ _ (s4 _ _ y);have Z:=j _ _ E;have n1:=s0.free g1;have n2:=(s0.trans s1).free g2;have Y:=((s0.trans s1).trans s2).free g3;have n4:=(((s0.trans s1).trans s2).trans s3).free g4;have J:=((((s0.trans s1).trans s2).trans s3).trans s4).free g5;have D:p≠d:=Z1 u g1;have e0:p≠x:=Z1 (s1 _ _ u) g2;have G:p≠i:=Z1 (s2 _ _ (s1 _ _ u)) g3;have H:p≠f:=Z1 (s3 _ _ (s2 _ _ (s1 _ _ u))) g4;have C:p≠g:=Z1 (s4 _ _ (s3 _ _ (s2 _ _ (s1 _ _ u)))) g5;have d0:d≠i:=Z1 (s2 _ _ v) g3;have X:d≠f:=Z1 (s3 _ _ (s2 _ _ v)) g4;have a0:d≠g:=Z1 (s4 _ _ (s3 _ _ (s2 _ _ v))) g5;have I:i≠f:=Z1 y g4;have f0:i≠g:=Z1 (s4 _ _ y) g5;have L:f≠g:=Z1 E g5;erw[⟨U,[(Sum.inr (OK "stops"),.ref d),(Sum.inr (OK "walks"),.ref x),(Sum.inr (OK "rules"),.ref i),(Sum.inr (OK "tickets"),.ref f),(Sum.inr (OK "trips"),.ref g)],R,by show 5<=15;lia,?_⟩];have S:=((((s0.trans s1).trans s2).trans s3).trans s4).trans j;erw[q p ⟨d,x,i,f,g⟩ _ (Vm S B _) B ⟨n1,n2,Y,n4,J⟩ ⟨D,G,H,C⟩ ⟨⟨_,Zj,⟨R,R,R,R,R⟩⟩,⟨d0,X,a0,I,f0,L⟩,⟨[],by rwa[Zm D.symm],.nil⟩,⟨[],by rwa[Zm e0.symm],.nil⟩,⟨[],by rwa[Zm G.symm],.nil⟩,⟨[],by rwa[Zm H.symm],.nil⟩,⟨[],by rwa[Zm C.symm],.nil⟩⟩]
structure D4(wd:Addr)(a:NA):Prop where
 ns:wd≠a.ds
 nr:wd≠a.dr
 nt:wd≠a.dt
 np:wd≠a.dp
section Wp
variable{d:Addr}{kvs:List (ZF×V)}{o:HO}(hd:H d=some (.dK kvs))
include hd
theorem Qz(h:H p=some (.lst xs)):Zb H d o p=some (.lst xs):=by rwa[Zm (Yr h hd (by intro z;cases z))]
theorem YM.put(h:YM tp H v r):YM tp (Zb H d o) v r:=by
 induction h with
 |always h=>exact .always (WA hd ZT.k h)
 |week h=>exact .week (WA hd ZT.k h)
 |span h _ c=>exact .span (WA hd ZT.k h) c
 |each h g ne=>exact .each (WA hd ZT.k h) (Qz hd g) ne
 |either h _ _ i f=>exact .either (WA hd ZT.k h) i f
 |both h _ _ i f=>exact .both (WA hd ZT.k h) i f
 |but h g ne _ c=>exact .but (WA hd ZT.k h) (Qz hd g) ne c
theorem Xb.put(h:Xb H c k):Xb (Zb H d o) c k:=let ⟨e,tp,h⟩:=h;⟨e,tp,YM.put hd h⟩
theorem Xo.put(h:Xo H c k):Xo (Zb H d o) c k:=let ⟨e,r,z,e1,e2,e3⟩:=h;⟨e,r,z,e1,WA hd ZT.k e2,Qz hd e3⟩
theorem Xp.put(h:Xp H c k):Xp (Zb H d o) c k:=let ⟨e,r,l,vs,e1,e2,e3,e4⟩:=h;⟨e,r,l,vs,e1,WA hd ZT.k e2,Qz hd e3,e4.imp λ_ _=>Yd.put hd ZT.k⟩
end Wp
section Wa
variable{wd:Addr}{a:NA}{W:ZH}{rows:List (ZF×V)}{v:V}(h:Yb H wd a W)(n:D4 wd a)
include h n
theorem Yb.addSt{x:Yg}(c:H a.ds=some (.dK rows))(D:Al (Yo H) rows W.st)(g:Ys rows (Sum.inr x.nm)=none)(L:Yo H (Sum.inr x.nm,v) x):Yb (Zb H a.ds (.dK (Xf rows (Sum.inr x.nm) v))) wd a {W with st:=W.st++[x]}:=by
 ext⟨⟨O,j,M⟩,ap,_,⟨Q,I,E⟩,⟨G,C,i⟩,⟨d,B,y⟩,⟨J,f,u⟩⟩ h;erw[⟨⟨O,by rwa[Zm n.ns],M⟩,ap,⟨_,Zj,?_⟩,⟨Q,Qz c I,E.imp λ_ _=>YF.put c ZT.k⟩,⟨G,by rwa[Zm (ap.sr.symm)],i.imp λ_ _=>Xb.put c⟩,⟨d,by rwa[Zm (ap.st.symm)],y.imp λ_ _=>Xo.put c⟩,⟨J,by rwa[Zm (ap.sp.symm)],u.imp λ_ _=>Xp.put c⟩⟩];rw[Qn v g];exact(D.imp λ_ _=>Yo.put c ZT.k).snoc (L.put c ZT.k)
theorem Yb.addRu{x:Xm}(c:H a.dr=some (.dK rows))(D:Al (Xb H) rows W.ru)(g:Ys rows (Sum.inr x.nm)=none)(L:Xb H (Sum.inr x.nm,v) x):Yb (Zb H a.dr (.dK (Xf rows (Sum.inr x.nm) v))) wd a {W with ru:=W.ru++[x]}:=by
 ext⟨⟨O,j,M⟩,ap,⟨i,I,B⟩,⟨Q,G,E⟩,_,⟨d,C,y⟩,⟨J,f,u⟩⟩ h;erw[⟨⟨O,by rwa[Zm n.nr],M⟩,ap,⟨i,by rwa[Zm (ap.sr)],B.imp λ_ _=>Yo.put c ZT.k⟩,⟨Q,Qz c G,E.imp λ_ _=>YF.put c ZT.k⟩,⟨_,Zj,?_⟩,⟨d,by rwa[Zm (ap.rt.symm)],y.imp λ_ _=>Xo.put c⟩,⟨J,by rwa[Zm (ap.rp.symm)],u.imp λ_ _=>Xp.put c⟩⟩];rw[Qn v g];exact(D.imp λ_ _=>Xb.put c).snoc (L.put c)
theorem Yb.addTk{x:Xw}(c:H a.dt=some (.dK rows))(C:Al (Xo H) rows W.tk)(f:Ys rows (Sum.inr x.nm)=none)(L:Xo H (Sum.inr x.nm,v) x):Yb (Zb H a.dt (.dK (Xf rows (Sum.inr x.nm) v))) wd a {W with tk:=W.tk++[x]}:=by
 ext⟨⟨O,j,M⟩,ap,⟨g,I,y⟩,⟨Q,G,D⟩,⟨E,B,i⟩,_,⟨J,d,u⟩⟩ h;erw[⟨⟨O,by rwa[Zm n.nt],M⟩,ap,⟨g,by rwa[Zm (ap.st)],y.imp λ_ _=>Yo.put c ZT.k⟩,⟨Q,Qz c G,D.imp λ_ _=>YF.put c ZT.k⟩,⟨E,by rwa[Zm (ap.rt)],i.imp λ_ _=>Xb.put c⟩,⟨_,Zj,?_⟩,⟨J,by rwa[Zm (ap.tp.symm)],u.imp λ_ _=>Xp.put c⟩⟩];rw[Qn v f];exact(C.imp λ_ _=>Xo.put c).snoc (L.put c)
theorem Yb.addTp{x:Tp}(c:H a.dp=some (.dK rows))(D:Al (Xp H) rows W.tp)(f:Ys rows (Sum.inr x.nm)=none)(L:Xp H (Sum.inr x.nm,v) x):Yb (Zb H a.dp (.dK (Xf rows (Sum.inr x.nm) v))) wd a {W with tp:=W.tp++[x]}:=by
 ext⟨⟨O,j,M⟩,ap,⟨g,J,y⟩,⟨Q,I,E⟩,⟨G,C,i⟩,⟨d,B,u⟩,_⟩ h;erw[⟨⟨O,by rwa[Zm n.np],M⟩,ap,⟨g,by rwa[Zm (ap.sp)],y.imp λ_ _=>Yo.put c ZT.k⟩,⟨Q,Qz c I,E.imp λ_ _=>YF.put c ZT.k⟩,⟨G,by rwa[Zm (ap.rp)],i.imp λ_ _=>Xb.put c⟩,⟨d,by rwa[Zm (ap.tp)],u.imp λ_ _=>Xo.put c⟩,⟨_,Zj,?_⟩⟩];rw[Qn v f];exact(D.imp λ_ _=>Xp.put c).snoc (L.put c)
end Wa
def NoW(H:Hp)(x:V):Prop:=(∀p,x≠.ref p)\/∃p c,x=.ref p/\H p=some (.tup c)/\(∀y:Wl,c≠[.str y.o,.str y.t,.int (y.m:Nat)])/\∀f g,c≠[.ref f,.ref g]
def NW(H:Hp)(xs:List V):Prop:=∃x∈xs,NoW H x
def KJ(H:Hp):HO->Prop
 |.dK _=>False
 |.tbl _=>False
 |.lst xs=>NW H xs
 |_=>True
def zZ{ns:OG}(h:1<=ns.length):NW H (YL ns):=by
 cases ns with
 |nil=>exact Os h ()
 |cons x r=>exact⟨_,SC,.inl λp e=>(nomatch e)⟩
def ZkV{cs:List Cl}(d:Al (Yd H) vs cs)(h:1<=cs.length):NW H vs:=by
 cases d with
 |nil=>exact Os h ()
 |cons a _ =>
  ext⟨p,rfl,c⟩ a;exact⟨_,SC,.inr ⟨p,_,R,c,λy e=>by simp at e,λf g e=>by simp at e⟩⟩
def yA(j:Al (YF H) vs d):¬ NW H vs:=λ⟨x,f,h⟩=>by
 obtain⟨i,u⟩:=List.mem_iff_getElem?.mp f;obtain⟨y,_,p,rfl,e⟩:=j.get u;rcases h with h|⟨B,v,g,c,n⟩;exact h p R;cases g;rw[e]at c;cases c;exact n.1 y R
def ZkW(h:∀v∈vs,∃p f g,v=.ref p/\H p=some (.tup [V.ref f,.ref g])):¬ NW H vs:=λ⟨x,d,n⟩=>by
 obtain⟨p,f,g,rfl,e⟩:=h x d;rcases n with n|⟨u,j,i,c,n⟩;exact n p R;cases i;rw[e]at c;cases c;exact n.2 f g R
def D5{d c:Type}{R g:d->c->Prop}{xs:List d}{ys:List c}(h:Al R xs ys)(f:∀x y,y∈ys->R x y->g x y):Al g xs ys:=by
 induction h with
 |nil=>exact .nil
 |cons a _ i=>exact .cons (f _ _ SC a) (i λx y m=>f x y (SB _ m))
def TIF:HO->Prop
 |.tup _=>True
 |.ins _ _ _=>True
 |.frz _ _=>True
 |_=>False
def QA{c:Hp}(k:∀b o,H b=some o->KJ H o->c b=some o):∀b o,H b=some o->TIF o->c b=some o:=λb o e h=>k b o e (by cases o<;>first|exact trivial|exact h.elim)
section Kq
variable{H':Hp}(k:∀b o,H b=some o->TIF o->H' b=some o)
include k
theorem Xn.keep(h:Xn H c x):Xn H' c x:=let ⟨e,r,z,e1,e2,e3⟩:=h;⟨e,r,z,e1,k _ _ e2 trivial,k _ _ e3 trivial⟩
theorem Yo.keep(h:Yo H c x):Yo H' c x:=let ⟨e,r,e1,e2⟩:=h;⟨e,r,e1,k _ _ e2 trivial⟩
theorem Yd.keep(h:Yd H v c):Yd H' v c:=let ⟨p,e,h⟩:=h;⟨p,e,k _ _ h trivial⟩
theorem Xh.keep(h:Xh H c x):Xh H' c x:=let ⟨e,r,q,vs,e1,e2,e3,e4⟩:=h;⟨e,r,q,vs,e1,k _ _ e2 trivial,k _ _ e3 trivial,e4.imp λ_ _=>Yd.keep k⟩
theorem YF.keep(h:YF H v x):YF H' v x:=let ⟨p,e,h⟩:=h;⟨p,e,k _ _ h trivial⟩
theorem Xe.keep(h:Xe t H c x):Xe t H' c x:=let ⟨e,b,eb,h⟩:=h;⟨e,b,eb,ZS.keepF (λ_ _ _ _ _ e=>k _ _ e trivial) (λ_ _=>zY (λe=>k _ _ e trivial) λ_ e=>k _ _ e trivial) h⟩
theorem Z3.keep{a:NA}(k2:∀b o,H b=some o->b∈[a.ds,a.lw,a.dr,a.dt,a.dp]->H' b=some o)(h:Z3 t H n a N):Z3 t H' n a N:=by
 ext⟨⟨j,fs,L,x⟩,ap,⟨g,d,y⟩,⟨I,J,u⟩,⟨C,E,G⟩,⟨v,D,i⟩,⟨f,B,c⟩⟩ h;exact⟨⟨j,fs,k _ _ L trivial,x⟩,ap,⟨g,k2 _ _ d (by simp),y.imp λ_ _=>Yo.keep k⟩,⟨I,k2 _ _ J (by simp),u.imp λ_ _=>YF.keep k⟩,⟨C,k2 _ _ E (by simp),G.imp λ_ _=>Xe.keep k⟩,⟨v,k2 _ _ D (by simp),i.imp λ_ _=>Xn.keep k⟩,⟨f,k2 _ _ B (by simp),c.imp λ_ _=>Xh.keep k⟩⟩
end Kq
section Kp
variable{H':Hp}(k:∀b o,H b=some o->KJ H o->H' b=some o)
include k
theorem YM.keepW{r:RT}(h:YM tp H v r)(g:r.good):YM tp H' v r:=by
 induction h with
 |always h=>exact .always (k _ _ h trivial)
 |week h=>exact .week (k _ _ h trivial)
 |span h _ c=>exact .span (k _ _ h trivial) (c g.2.2)
 |each h f ne=>exact .each (k _ _ h trivial) (k _ _ f (zZ g.2.2.one)) ne
 |either h _ _ i d=>exact .either (k _ _ h trivial) (i g.1) (d g.2)
 |both h _ _ i d=>exact .both (k _ _ h trivial) (i g.1) (d g.2)
 |but h f ne _ c=>exact .but (k _ _ h trivial) (k _ _ f (zZ g.1.one)) ne (c g.2)
theorem Xb.keep{x:Xm}(g:R3.Ok x.r)(h:Xb H c x):Xb H' c x:=let ⟨e,tp,h⟩:=h;⟨e,tp,YM.keepW k h g.1⟩
theorem Xo.keep{x:Xw}(g:x.Ok)(h:Xo H c x):Xo H' c x:=let ⟨e,r,z,e1,e2,e3⟩:=h;⟨e,r,z,e1,k _ _ e2 trivial,k _ _ e3 (zZ g.z1)⟩
theorem Xp.keep{x:Tp}(g:2<=x.cs.length)(h:Xp H c x):Xp H' c x:=let ⟨e,r,l,vs,e1,e2,e3,e4⟩:=h;⟨e,r,l,vs,e1,k _ _ e2 trivial,k _ _ e3 (ZkV e4 ()),e4.imp λ_ _=>Yd.keep (QA k)⟩
theorem Yb.keep{a:NA}(ok:YN N)(k2:∀b o,H b=some o->b∈[n,a.ds,a.lw,a.dr,a.dt,a.dp]->H' b=some o)(h:Yb H n a N):Yb H' n a N:=by
 ext⟨⟨L,i,J⟩,ap,⟨g,G,v⟩,⟨M,E,C⟩,⟨D,B,f⟩,⟨c,x,u⟩,⟨I,d,j⟩⟩ h;exact⟨⟨L,k2 _ _ i (by simp),J⟩,ap,⟨g,k2 _ _ G (by simp),v.imp λ_ _=>Yo.keep (QA k)⟩,⟨M,k2 _ _ E (by simp),C.imp λ_ _=>YF.keep (QA k)⟩,⟨D,k2 _ _ B (by simp),D5 f λ_ y m=>Xb.keep k (ok.ro y m).2⟩,⟨c,k2 _ _ x (by simp),D5 u λ_ y m=>Xo.keep k (ok.to y m)⟩,⟨I,k2 _ _ d (by simp),D5 j λ_ y m=>Xp.keep k (ok.po y m).2.2.1⟩⟩
end Kp
def ZkX(hd:H d=some u)(ns:¬ KJ H u):∀b c,H b=some c->KJ H c->Zb H d o b=some c:=λb c e s=>by
 rwa[Zm λz=>by rw[z,hd]at e;cases e;exact ns s]
def Yb.addWk{a:NA}{W:ZH}(h:Yb H wd a W)(ok:YN W)(f:H a.lw=some (.lst vs))(d:Al (YF H) vs W.wk)(O:YF H v x):Yb (Zb H a.lw (.lst (vs++[v]))) wd a {W with wk:=W.wk++[x]}:=by
 have k:=ZkX (o:=.lst (vs++[v])) f (yA d);have kd:∀{p:Addr} {c:List (ZF×V)},H p=some (.dK c)->Zb H a.lw (.lst (vs++[v])) p=some (.dK c):=λe=>by rwa[Zm (Yr e f ())]
 ext⟨⟨c,B,Q⟩,ap,⟨u,L,E⟩,_,⟨J,I,j⟩,⟨g,G,D⟩,⟨M,i,C⟩⟩ h;exact⟨⟨c,kd B,Q⟩,ap,⟨u,kd L,E.imp λ_ _=>Yo.keep (QA k)⟩,⟨_,Zj,(d.imp λ_ _=>YF.keep (QA k)).snoc (O.keep (QA k))⟩,⟨J,kd I,D5 j λ_ y m=>Xb.keep k (ok.ro y m).2⟩,⟨g,kd G,D5 D λ_ y m=>Xo.keep k (ok.to y m)⟩,⟨M,kd i,D5 C λ_ y m=>Xp.keep k (ok.po y m).2.2.1⟩⟩
def wl(b:Bool)(w:Str):List V:=match b with
 |true=>[.str w]
 |false=>[]
def D6(b:Bool)(w:Str):(wl b w).length<=1:=by
 cases b;exact Sk _;exact Sg _
def D7(t:TE)(d:St)(G:Hp->Prop)(L:List V):Prop:=∀H Q,G H->(∀p c,Zc H c->c p=some (.lst L)->Q (.ref p) c)->t d H Q
def KL{d c:List V}(E:∀H j,Zc H j->G H->G j)(u:d.length+c.length<=sizeLine)(h1:D7 i f G d)(v:D7 h f G c):D7 (W2 Ld i h) f G (d++c):=λH Q g k=>h1 H _ g λy B s1 I=>v B _ (E _ _ s1 g) λx J s2 C =>
 ⟨y,x,_,_,R,R,s2 _ _ I,C,u,λp D=>k p _ ((s1.trans s2).trans (Zt D _)) Zj⟩
def Zch(d:c[i]? = some (some (.ref l)))(f:∀H,G H->H l=some (.lst L)):D7 (U9 i) c G L:=λH Q g k=>⟨_,d,k l H (Zc.refl H) (f H g)⟩
def KM{w:Str}(v:d[i]? = some (some (.ref a)))(f:∀H,G H->H a=some (Wt a (.ref C)))(ex:YS c C)(j:W.kitOne c (.ref C) (.ref D)=some b) :
  D7 (W2 G4 (UU (ZU (tC (.str w)) YP)) (VY (λxs H Q=>∃b,xs=[.bl b]/\Q (.int (if b=true then 1 else 0)) H) (ZU (VY (Lw c) (ZU (U9 i) (ZU (tC (.ref D)) YP))) YP))) d G (wl b w):=λH Q g k=>by
 erw[⟨zL9 R,λu g1=>?_⟩];have s1:=Zt g1 (.lst [.str w]);erw[⟨_,v,a,C,D,b,R,s1 _ _ (f H g),ex,j,b,R,u,_,_,R,R,Zj,?_,?_,?_,λh g2=>?_⟩];cases b<;>decide
 cases b<;>decide
 cases b;show 1*0<=sizeLine;lia;show 1*1<=sizeLine;lia;erw[k h _ (s1.trans (Zt g2 _)) ?_];rw[Zj];cases b<;>rfl
def ZkY{w:Str}(u:d[i]? = some (some (.ref a)))(f:∀H,G H->H a=some (Wt a (.ref C)))(ex:YS c C)(v:W.kitOne c (.ref C) (.type "ValueError")=some true) :
  D7 (W2 G4 (UU (ZU (tC (.str w)) YP)) (VY (λxs H Q=>∃b,xs=[.bl b]/\Q (.int (if b=true then 1 else 0)) H) (ZU (yN (VY (uV c) (ZU (U9 i) (ZU (tC (.ty "ValueError")) YP)))) YP))) d G []:=λH Q g k=>by
 erw[⟨zL9 R,λj g1=>?_⟩];have s1:=Zt g1 (.lst [.str w]);erw[⟨_,u,a,C,"ValueError",true,R,s1 _ _ (f H g),ex,v,_,R,_,R,j,_,_,R,R,Zj,(),(),by show 1*0<=sizeLine;lia,λh g2=>?_⟩];erw[k h _ (s1.trans (Zt g2 _)) ?_];rw[Zj];rfl
def ZkZ(c:Zy K mg t)(wd:Wn):W.exmOne K (.ref (wd.cls t)) (.ref t.Uc)=some true:=by
 cases wd with
 |days=>exact c.Ziw
 |many=>exact c.ZiA
 |name=>exact c.ZiF
 |twice=>exact c.ZiJ
 |stop=>exact c.ZiO
 |rule=>exact c.ZiS
 |ticket=>exact c.ZiX
 |trip=>exact c.Zi2
 |number=>exact c.Zi6
def Zk0(c:Zy K mg t)(wd:Wn):YS K (wd.cls t):=by
 cases wd with
 |days=>exact c.Zit
 |many=>exact c.Zix
 |name=>exact c.ZiC
 |twice=>exact c.ZiG
 |stop=>exact c.ZiL
 |rule=>exact c.ZiP
 |ticket=>exact c.ZiU
 |trip=>exact c.ZiZ
 |number=>exact c.Zi3
def Zk1(c:Zy K mg t)(wd:Wn):W.kitOne K (.ref (wd.cls t)) (.type "ValueError")=some true:=by
 cases wd with
 |days=>exact c.Ziv
 |many=>exact c.Ziz
 |name=>exact c.ZiE
 |twice=>exact c.ZiI
 |stop=>exact c.ZiN
 |rule=>exact c.ZiR
 |ticket=>exact c.ZiW
 |trip=>exact c.Zi1
 |number=>exact c.Zi5
def Wn.is:Wn->Wn->Bool
 |.days,.days=>true
 |.many,.many=>true
 |.name,.name=>true
 |.twice,.twice=>true
 |.stop,.stop=>true
 |.rule,.rule=>true
 |.ticket,.ticket=>true
 |.trip,.trip=>true
 |.number,.number=>true
 |_,_=>false
def kts(c:Zy K mg t)(wd:Wn):KX K (wd.cls t) [(t.Ud,false),(t.Wd,wd.is .days),(t.X2,wd.is .many),(t.We,wd.is .name),(t.Wf,wd.is .twice),(t.X3,wd.is .stop),(t.Wh,wd.is .rule),(t.Wi,wd.is .ticket),(t.XN,wd.is .trip),(t.Wj,wd.is .number),(t.Ue,false),(t.Uf,false),(t.Ug,false),(t.Uh,false),(t.Ui,false),(t.Uk,false),(t.Uj,false)]:=by
 cases wd with
 |days=>exact c.Ziu
 |many=>exact c.Ziy
 |name=>exact c.ZiD
 |twice=>exact c.ZiH
 |stop=>exact c.ZiM
 |rule=>exact c.ZiQ
 |ticket=>exact c.ZiV
 |trip=>exact c.Zi0
 |number=>exact c.Zi4
def QX{L:List V}(J:x[2]? = some (some (.ref v)))(B:x[1]? = some (some (.ref a)))(ex:YS d C)(k1:W.kitOne d (.ref C) (.ref D)=some j)(k2:W.kitOne d (.ref C) (.ref y)=some i)(T:L.length<=n)(hn:n<=100)(E:H a=some (Wt a (.ref C)))(I:H v=some (.lst L))
  (h:∀p c,Zc H c->c a=some (Wt a (.ref C))->c p=some (.lst (L++wl j u++wl i f))->(L++wl j u++wl i f).length<=n+2->Q (.ref p) c) :
  W2 Ld (W2 Ld (U9 2) (W2 G4 (UU (ZU (tC (.str u)) YP)) (VY (λxs H Q=>∃b,xs=[.bl b]/\Q (.int (if b=true then 1 else 0)) H) (ZU (VY (Lw d) (ZU (U9 1) (ZU (tC (.ref D)) YP))) YP)))) (W2 G4 (UU (ZU (tC (.str f)) YP)) (VY (λxs H Q=>∃b,xs=[.bl b]/\Q (.int (if b=true then 1 else 0)) H) (ZU (VY (Lw d) (ZU (U9 1) (ZU (tC (.ref y)) YP))) YP))) x H Q:=by
 have S:=D6 j u;have M:=D6 i f;have O:sizeLine ≥ 200:=by lia
 erw[KL (G:=λH=>H a=some (Wt a (.ref C))/\H v=some (.lst L)) (λ_ _ s g=>⟨s _ _ g.1,s _ _ g.2⟩) (by rw[Su];lia) (KL (λ_ _ s g=>⟨s _ _ g.1,s _ _ g.2⟩) () (Zch J (λ_ g=>g.2)) (KM B (λ_ g=>g.1) ex k1)) (KM B (λ_ g=>g.1) ex k2) H _ ⟨E,I⟩ λp c s k=>h p c s (s _ _ E) k ?_];rw[Su,Su];lia
inductive Zci(t:Ya)(P:Program)(w:World)(K:Ox)(mg:Ow)(base:Heap)(vs:List V)(H:Hp)(Q:VK)(_e3:XK):Prop|mk (f:Addr) (Wc:VK->XK->Prop) (TOLD:V->Hp->Prop) (REF:Wn->Hp->Prop) (_:vs=[.ref f]) (_:NE P w K mg base 50 f H Wc) (_:(∀Q1 E1,(∀v H',TOLD v H'->Q1 v H')->(∀wd H',REF wd H'->E1 (.ref (wd.cls t)) none H')->Wc Q1 E1)) (_:(∀v H' H'' p,TOLD v H'->Zc H' H''->H'' p=some (.tup [.str (OK "told"),v])->Q (.ref p) H'')) (_:(∀wd H' H'',REF wd H'->Zc H' H''->Q (.str wd.txt) H''))
def Ut(c:Zy K mg t):Zp P w K mg base Zv 52 t.jR t.jS ["_law_call"] (Zci t P w K mg base):=by
 erw[c.YQ.F.ok Ua () λy0 A outer s H vs Q z0 hr h=>?_];ext⟨o0,Wc,x0,w0,rfl,hC,hW,q1,v⟩ h;erw[⟨_,(Zf (Zew (i:=1) ⟨R,R⟩ R Ua.nd R R R c.Zij (λpins Kx=>(Zf (Zw (YH (Zq Zs (show PE _ _ (uO P w K mg base 50 0 λn0 _ H=>Kx n0 H)from Zgk (x := "_law_call") (k:=50) (i:=0) R (Or.inl R) (hr.mono (j:=50) ()) Zeu)))))) (λa=>(Zg (ZA 2 Ua.nd (Zl XX (Zl X8 (ZI (Zh Zs)) (Z2 XI R c.Xv Xu (Zh (ZN (Wx (K:=K)) c.Yy Yx (Zq (pv 1) (XZ R c.Zik)))))) (Zl X8 (ZI (Zh Zs)) (Z2 XI R c.Xv Xu (Zh (ZN (Wx (K:=K)) c.Yy Yx (Zq (pv 1) (XZ R c.Zbb)))))))) (Zg (ZA 2 Ua.nd (Zl XX (Zl XX (pv 2) (Zl X8 (ZI (Zh Zs)) (Z2 XI R c.Xv Xu (Zh (ZN (Wx (K:=K)) c.Yy Yx (Zq (pv 1) (XZ R c.zO))))))) (Zl X8 (ZI (Zh Zs)) (Z2 XI R c.Xv Xu (Zh (ZN (Wx (K:=K)) c.Yy Yx (Zq (pv 1) (XZ R c.Zbc)))))))) (Zg (ZA 2 Ua.nd (Zl XX (Zl XX (pv 2) (Zl X8 (ZI (Zh Zs)) (Z2 XI R c.Xv Xu (Zh (ZN (Wx (K:=K)) c.Yy Yx (Zq (pv 1) (XZ R c.zP))))))) (Zl X8 (ZI (Zh Zs)) (Z2 XI R c.Xv Xu (Zh (ZN (Wx (K:=K)) c.Yy Yx (Zq (pv 1) (XZ R c.Zbd)))))))) (Zg (ZA 2 Ua.nd (Zl XX (Zl XX (pv 2) (Zl X8 (ZI (Zh Zs)) (Z2 XI R c.Xv Xu (Zh (ZN (Wx (K:=K)) c.Yy Yx (Zq (pv 1) (XZ R c.zQ))))))) (Zl X8 (ZI (Zh Zs)) (Z2 XI R c.Xv Xu (Zh (ZN (Wx (K:=K)) c.Yy Yx (Zq (pv 1) (XZ R c.Zbe)))))))) (Zg (ZA 2 Ua.nd (Zl XX (Zl XX (pv 2) (Zl X8 (ZI (Zh Zs)) (Z2 XI R c.Xv Xu (Zh (ZN (Wx (K:=K)) c.Yy Yx (Zq (pv 1) (XZ R c.Zbf))))))) (Zl X8 (ZI (Zh Zs)) (Z2 XI R c.Xv Xu (Zh (ZN (Wx (K:=K)) c.Yy Yx (Zq (pv 1) (XZ R c.zR)))))))) (Zg (ZA 2 Ua.nd (Zl XX (Zl XX (pv 2) (Zl X8 (ZI (Zh Zs)) (Z2 XI R c.Xv Xu (Zh (ZN (Wx (K:=K)) c.Yy Yx (Zq (pv 1) (XZ R c.Zil))))))) (Zl X8 (ZI (Zh Zs)) (Z2 XI R c.Xv Xu (Zh (ZN (Wx (K:=K)) c.Yy Yx (Zq (pv 1) (XZ R c.Zim)))))))) (Zg (ZA 2 Ua.nd (Zl XX (Zl XX (pv 2) (Zl X8 (ZI (Zh Zs)) (Z2 XI R c.Xv Xu (Zh (ZN (Wx (K:=K)) c.Yy Yx (Zq (pv 1) (XZ R c.Zin))))))) (Zl X8 (ZI (Zh Zs)) (Z2 XI R c.Xv Xu (Zh (ZN (Wx (K:=K)) c.Yy Yx (Zq (pv 1) (XZ R c.Zio)))))))) (Zg (ZA 2 Ua.nd (Zl XX (Zl XX (pv 2) (Zl X8 (ZI (Zh Zs)) (Z2 XI R c.Xv Xu (Zh (ZN (Wx (K:=K)) c.Yy Yx (Zq (pv 1) (XZ R c.Zip))))))) (Zl X8 (ZI (Zh Zs)) (Z2 XI R c.Xv Xu (Zh (ZN (Wx (K:=K)) c.Yy Yx (Zq (pv 1) (XZ R c.Zir)))))))) (Zg (ZA 2 Ua.nd (Zl XX (Zl XX (pv 2) (Zl X8 (ZI (Zh Zs)) (Z2 XI R c.Xv Xu (Zh (ZN (Wx (K:=K)) c.Yy Yx (Zq (pv 1) (XZ R c.Ziq))))))) (Zl X8 (ZI (Zh Zs)) (Z2 XI R c.Xv Xu (Zh (MG (ZN (Zgw (K:=K)) c.Yy Yx (Zq (pv 1) (X0 R c.Zhp Zhl))))))))) (Zf (Zw (Qa (ZZ Ye (ZN (show Y4 _ (.builtin "len") (λxs H Q=>∃p y,xs=[V.ref p]/\(Ze K H p y\/Zk K H p y)/\Q (V.int ↑y.length) H)from VA) c.XR XM (Zh (pv 2))) Za) (Zr (show Xt _ (WQ K)from ZJ) (pv 2) Za) Zs))))))))))))))),?_⟩];sleep 1;erw[⟨o0,Wc,R,hC,hW _ _ (λd0 f hT=>⟨zL9 R,λp hp=>q1 d0 f _ p hT (Zt hp _) Zj⟩) (λwd f hR=>⟨ZkZ c wd,λa ha=>?_⟩)⟩];sleep 10;have s0:=Zt ha (Wt a (.ref (wd.cls t)));have d:=@Zj f a (Wt a (.ref (wd.cls t)));have v:=λv0=>v wd f v0 hR;have ex:=Zk0 c wd;have M:=kts c wd;dsimp only[KX]at M;ext⟨r0,j0,c0,i0,b0,m0,u0,a0,g0,t0,q0,f0,e0,l0,k0,h0,p0,_⟩ M;generalize Zb f a (Wt a (.ref (wd.cls t)))=H0 at s0 d ⊢;have room:∀m,m<=100->m<=sizeLine:=λm h=>Sh h ();erw[KL (G:=λH=>H a=some (Wt a (.ref (wd.cls t)))) (λ_ _ s g=>s _ _ g) (room _ (by have B:=D6 false (OK "clock");have h2:=D6 (wd.is .days) (OK "days");lia)) (KM (w:=OK "clock") (i:=1) R (λ_ g=>g) ex r0) (KM (w:=OK "days") (i:=1) R (λ_ g=>g) ex j0) H0 _ d λp1 H1 s1 Y=>?_];have d:=s1 _ _ d;have l1:(wl false (OK "clock")++wl (wd.is .days) (OK "days")).length<=2:=by cases wd<;>decide
 have S1:=s0.trans s1;generalize e1:(wl (false) (OK "clock")++wl (wd.is .days) (OK "days"))=L1 at Y l1;erw[QX R R ex c0 i0 l1 () d Y λp2 H2 s2 d C D=>?_];have S2:=S1.trans s2;generalize e2:L1++_++_=L2 at C D;erw[QX R R ex b0 m0 D () d C λp3 H3 s3 d k3 I=>?_];have S3:=S2.trans s3;generalize e3:L2++_++_=L3 at k3 I;erw[QX R R ex u0 a0 I () d k3 λp4 H4 s4 d Z T=>?_];have S4:=S3.trans s4;generalize e4:L3++_++_=L4 at Z T;erw[QX R R ex g0 t0 T () d Z λp5 H5 s5 d k5 U=>?_];have S5:=S4.trans s5;generalize e5:L4++_++_=L5 at k5 U;erw[QX R R ex q0 f0 U () d k5 λp6 H6 s6 d L S=>?_];have S6:=S5.trans s6;generalize e6:L5++_++_=L6 at L S;erw[QX R R ex e0 l0 S () d L λp7 H7 s7 d O l7=>?_];have S7:=S6.trans s7;generalize e7:L6++_++_=L7 at O l7;erw[QX R R ex k0 h0 l7 () d O λp8 H8 s8 d E l8=>?_];have S8:=S7.trans s8;generalize e8:L7++_++_=X at E l8;erw[KL (G:=λH=>H a=some (Wt a (.ref (wd.cls t)))/\H p8=some (.lst X)) (λ_ _ s g=>⟨s _ _ g.1,s _ _ g.2⟩) (room _ (by rw[Su];have B:=D6 (false) (OK "traveller");have h3:([]:List V).length=0:=rfl;lia)) (KL (λ_ _ s g=>⟨s _ _ g.1,s _ _ g.2⟩) (room _ (by have B:=D6 (false) (OK "traveller");lia)) (Zch R (λ_ g=>g.2)) (KM (w:=OK "traveller") (i:=1) R (λ_ g=>g.1) ex p0)) (ZkY (w:=OK "bare") (i:=1) R (λ_ g=>g.1) ex (Zk1 c wd)) H8 _ ⟨d,E⟩ λJ H9 s9 u=>?_];have S9:=S8.trans s9;generalize e9:X++wl (false) (OK "traveller")++([]:List V)=L9 at u;have eL:L9=[.str wd.txt]:=by
  rw[<-e9,<-e8,<-e7,<-e6,<-e5,<-e4,<-e3,<-e2,<-e1];cases wd<;>rfl
 rw[eL]at u;erw[⟨_,R,J,_,R,.inl (Ze.of u),R,_,R,Zo (SQ R) ?_⟩];exact⟨_,R,J,_,0,_,R,R,Ze.of u,R,v H9 S9⟩
inductive Zk2(vs:List V)(H:Hp)(Q:VK)(_e3:XK):Prop|mk (v:V) (d:Addr) (kvs:List (ZF×V)) (_:vs=[v,.ref d]) (_:H d=some (.dK kvs)) (_:Vk H v) (_:(Y1 v=false->∀H',Zc H H'->Q (.str (Wn.txt .name)) H')) (_:(Y1 v=true->UF kvs v=true->∀H',Zc H H'->Q (.str (Wn.txt .twice)) H')) (_:(Y1 v=true->UF kvs v=false->∀H',Zc H H'->Q .non H'))
def Mq(f:Zy K mg t):Zp P w K mg base Zv 2 t.kD t.kE ["_law_name_here","_law_kept"] Zk2:=by
 erw[f.J8.F.ok ZgK () λC A outer s H B Q E g h=>?_];ext⟨v,d,y,rfl,hd,u,j,x,q⟩ h;erw[⟨_,(Zg (ZC (ZX (ZW (ZD f.LK (zX f) g Zu (Zh (pv 0))))) (Zf (Zw Zs)) ZK) (Zf (Zw (Qa (Wo (Nx (W3 g) (pv 0) (pv 1))) Zs UP)))),?_⟩];erw[⟨_,R,v,R,u,λc s1=>⟨_,R,?_⟩⟩];cases hn:Y1 v with
 |false=>exact Zo () (j hn c s1)
 |true =>
  obtain⟨z,rfl,_⟩:=Vr hn;erw[Zi () ⟨_,R,_,R,d,_,R,Xk.k (k:=Sum.inr z) (s1 _ _ hd),_,R,?_⟩];cases i:(Ys y (Sum.inr z)).isSome with
  |true=>exact Zo R (x hn i c s1)
  |false=>exact Zi SO (q hn i c s1)
theorem Zcj:∀(ns:OE) (lo hi:Int),XS lo hi (ns.map V.int)=true↔ns.Pairwise (· < ·)/\∀n∈ns,lo<=n/\n<=hi
 |[],_,_=>⟨λ_=>⟨.nil,()⟩,λ_=>R⟩
 |n::r,lo,hi=>by
  show(decide (lo<=n/\n<=hi) && XS (n+1) hi (r.map V.int))=true↔_;rw[Bool.and_eq_true,Zcj r,decide_eq_true_eq,List.pairwise_cons];constructor;rintro⟨h1,d,c⟩;erw[⟨⟨λm hm=>by have:=c m hm;lia,d⟩,λm hm=>?_⟩];rcases SE.mp hm with rfl|hm;exact h1;have:=c m hm;lia;rintro⟨⟨h1,d⟩,c⟩;exact⟨c n SC,d,λm hm=>by have:=h1 m hm;have:=c m (SB _ hm);lia⟩
theorem Zck:∀a b:List Int,WK (a.map V.int) (b.map V.int)=decide (a=b)
 |[],[]=>rfl
 |[],_::_=>rfl
 |_::_,[]=>rfl
 |x::r,y::q=>by
  have c:=Zck r q;show((x==y) && WK (r.map V.int) (q.map V.int))=_;rw[c,Bool.eq_iff_iff,Bool.and_eq_true,beq_iff_eq,decide_eq_true_eq,decide_eq_true_eq,List.cons.injEq]
def Zcl(ns:OE):(ns.map V.int).all WR=true:=by
 rw[List.all_map];exact List.all_eq_true.mpr λ_ _=>R
theorem Zcm:∀{xs:List V} {lo hi:Int},XS lo hi xs=true->∀x∈xs,Yq x lo hi=true
 |[],_,_,_=>λ_ h=>(nomatch h)
 |x::r,lo,hi,h=>by
  have h:(Yq x lo hi && XS (Ky x+1) hi r)=true:=h;rw[Bool.and_eq_true]at h;intro y c;rcases SE.mp c with rfl|c;exact h.1;have d:=Zcm h.2 y c;cases x with
  |int i =>
   cases y with
   |int j =>
    have a:=SS h.1;have b:=SS d;have f:i+1<=j:=b.1;exact SQ ⟨(),b.2⟩
   |_=>cases d
  |_=>cases h.1
inductive Zk3(K:Ox)(vs:List V)(H:Hp)(Q:VK)(_e3:XK):Prop|mk (v:V) (o:Option (List V)) (_:vs=[v]) (_:XU H v o) (_:∀H',Zc H H'->Q (.bl (KG o)) H')
def Zk4(d:Zy K mg t):Zp P w K mg base Zv 2 t.kF t.kG ["_law_thing"] (Zk3 K):=by
 erw[d.ZaT.F.ok ZgL () λc0 A outer s H vs d0 e0 J h=>?_];ext⟨v,o,rfl,Q,q⟩ h;have g:=q H (Zc.refl H);erw[⟨_,(Zg (ZC (PW.pt (Vf (ZX (ZW (ZN X9 d.Yy Yx (Zq (pv 0) (X0 R d.YU YT))))) (Vu (ZX (Q8 XE XE Za (ZN VA d.XR XM (Zh (pv 0))) Za))))) (Zf (Zw YY)) ZK) (Zf (Zw (WI (Y7 (Lu J.units0) (Wv (cl:=[]) (N:=["_law_one_here"]) (fr:=[none]) R (Xx (pv 0)) R () R () trivial trivial R (λ_ _ _ _ _=>(Yl 0 (show List.Nodup (["_law_one_here"]:OC) by lia))) (λ_ _ _ _ _=>(G6 (ZX (ZW (ZD d.QN (C8 d) J Zu (Z5 (pv 0) Za Za)))))) (λ_ _ _ _ _=>(pv 0))) (ZI YG) (Xq _)) (X6 (Y7 (wN J.units0) (pv 0) (ZN (No R) d.J4 J2 (Zh (Z2 (Nn R) R d.Tu Rw (Zh (pv 0))))) (Xq _))))))),?_⟩];cases o with
 |none =>
  ext⟨T,kd,nT⟩ Q;exact⟨_,R,v,"list",_,_,R,kd.ty,Kz kd,_,R,Zo (by rw[SR nT];rfl) (Zo R g)⟩
 |some xs =>
  ext⟨a,rfl,ha,kx⟩ Q;dsimp only[KG]at q g;erw[⟨_,R,.ref a,"list",_,_,R,.lst ha,R,_,R,Zi () ?_⟩];erw[⟨_,R,a,_,R,.inl (Ze.of ha),_,_,R,R,_,R,?_⟩];by_cases I:1<=xs.length
  rotate_left
  rw[SR (λz=>I z.1),Bool.false_and]at g;exact Zi (by rw[SR ()];lia) ⟨_,R,Zo R g⟩;erw[Zo (SQ ()) ⟨_,_,R,R,_,R,?_⟩];by_cases G:xs.length<=6
  rotate_left
  rw[SR (λz=>G ()),Bool.false_and]at g;exact Zo (by rw[SR (show ¬ ((xs.length:Nat):Int)<=6 by lia)];lia) g;rw[SQ ⟨I,()⟩,Ot]at q g;erw[Zi (by rw[SQ (show((xs.length:Nat):Int)<=6 by lia)];lia) ?_];erw[⟨_,R,a,R,⟨_,Ze.of ha⟩,WL (K:=K) (a:=a) (xs:=xs) (λi j B y=>y=H/\j=(xs.take i).filter (λx=>!Yq x 1 6)/\∃v,B=[v]) ⟨R,R,_,R⟩ (Sh G ()) (λi j B y _ ⟨e,_⟩=>by rw[e];exact Ze.of ha) ?_ ?_⟩];rintro i x j B y hi f ⟨rfl,rfl,v,rfl⟩;obtain⟨T,kd⟩:=kx x (SJ f);dsimp only[YK];erw[⟨_,R,x,T,1,6,R,kd,_,R,?_⟩];have U:xs.take (i+1)=xs.take i++[x]:=by rw[S0,f];rfl
  cases X:Yq x 1 6 with
  |true =>
   erw[Zi () ⟨(),R,?_,_,R⟩];rw[U,List.filter_append,List.filter_cons,X];simp
  |false =>
   erw[Zo () ⟨_,R,by rw[Su,Sw];lia,R,?_,_,R⟩];rw[U,List.filter_append,List.filter_cons,X];rfl
  rintro j B y f0 ⟨rfl,rfl,v,rfl⟩ p hp;rw[List.take_length];have s1:=Zt hp (.lst (xs.filter λx=>!Yq x 1 6));erw[⟨zL9 R,λZ b0=>?_⟩];have s2:=Zt b0 (.lst []);have u:=s1.trans s2;erw[⟨p,Z,_,R,R,Ze.of (s2 _ _ Zj),Ze.of Zj,_,R,?_⟩];by_cases c:∀x∈xs,Yq x 1 6=true
  rotate_left
  have a0:XS 1 6 xs=false:=Oh.mpr λz=>c (Zcm z);have C:(xs.filter λx=>!Yq x 1 6).isEmpty=false:=by
   rw[Oh];intro z;erw[c λx f=>?_];have:=List.filter_eq_nil_iff.mp (List.isEmpty_iff.mp z) x f;simpa using this
  have M:=q _ u;rw[a0]at M;rw[C];exact Zi SO M;have C:(xs.filter λx=>!Yq x 1 6)=[]:=List.filter_eq_nil_iff.mpr λx f=>by rw[c x f];lia
  obtain⟨ns,rfl⟩:∃ns:List Int,xs=ns.map V.int:=by
   erw[⟨xs.map Ky,?_⟩];rw[Oe];erw[(List.map_id xs).symm.trans (List.map_congr_left λx f=>?_)];have:=c x f;cases x with
   |int i=>rfl
   |_=>cases this
  rw[C]at u ⊢;rw[Sv]at I G;erw[Zo R ⟨_,R,_,R,a,ns,R,Ze.of (u _ _ ha),(),λS g3=>?_⟩];have S3:=u.trans (Zt g3 (B0 P w S ns));erw[⟨S,ns,R,Zj,(),λY zs g4 E mem le=>?_⟩];have O:=S3.trans (Zt g4 (.lst (zs.map V.int)));erw[⟨a,Y,_,_,R,R,Ze.of (O _ _ ha),Ze.of Zj,Zcl _,Zcl _,?_⟩];have L:=q _ O;have e:XS 1 6 (ns.map V.int)=WK (ns.map V.int) (zs.map V.int):=by
   rw[Zck,Bool.eq_iff_iff,Zcj,decide_eq_true_eq];constructor;rintro⟨D,_⟩;exact((List.perm_ext_iff_of_nodup (D.imp λh=>Int.ne_of_lt h) (E.imp λh=>Int.ne_of_lt h)).mpr λk=>(mem k).symm).eq_of_pairwise (le:=(· < ·)) (λa b _ _ D h2=>by lia) D E;rintro rfl;exact⟨E,λn hn=>SS (c (.int n) (SI.mpr ⟨n,hn,R⟩))⟩
  rw[e]at L;exact L
section Wg
variable{wd:Addr}{a:NA}{W:ZH}(h:Yb H wd a W)
include h
theorem Yb.gS:Xk H wd (.str (OK "stops")) (some (.ref a.ds)):=by ext⟨c,h,f⟩ h.ob;rw[<-f.s];exact Xk.k (k:=Sum.inr (OK "stops")) h
theorem Yb.gW:Xk H wd (.str (OK "walks")) (some (.ref a.lw)):=by ext⟨c,h,f⟩ h.ob;rw[<-f.w];exact Xk.k (k:=Sum.inr (OK "walks")) h
theorem Yb.gR:Xk H wd (.str (OK "rules")) (some (.ref a.dr)):=by ext⟨c,h,f⟩ h.ob;rw[<-f.r];exact Xk.k (k:=Sum.inr (OK "rules")) h
theorem Yb.gT:Xk H wd (.str (OK "tickets")) (some (.ref a.dt)):=by ext⟨c,h,f⟩ h.ob;rw[<-f.t];exact Xk.k (k:=Sum.inr (OK "tickets")) h
theorem Yb.gP:Xk H wd (.str (OK "trips")) (some (.ref a.dp)):=by ext⟨c,h,f⟩ h.ob;rw[<-f.p];exact Xk.k (k:=Sum.inr (OK "trips")) h
end Wg
def D8{c:Type}{nm:c->Str}{xs:List c}(ok:∀x∈xs,Yc (nm x)){v:V}(h:Y1 v=false):Yv nm xs v=false:=by
 cases d:Yv nm xs v with
 |false=>rfl
 |true =>
  obtain⟨z,x,rfl,f⟩:=WC d;have:=XD f;rw[<-this.2,show Y1 (.str (nm x))=true from ZbV (ok x this.1)]at h;cases h
structure yB(wd:Addr)(a:NA)(d:Addr)(du:Option Wn)(N:ZH)(H:Hp)(Q:VK):Prop where
 e:∀w,du=some w->∀H',Zc H H'->Q (.str (Wn.txt w)) H'
 q:du=none->∀H',Zc (wo H d) H'->Yb H' wd a N->Q .non H'
structure Zcn(wd:Addr)(a:NA)(d:Addr)(du:Option Wn)(N N1:ZH)(H:Hp)(Q:VK):Prop where
 e:∀w,du=some w->∀H',Zc H H'->Q (.str (Wn.txt w)) H'
 q:du=none->∀H',Zc (wo H d) H'->Yb H' wd a N1->(∀z xs,H z=some (.lst xs)->Yb (wo H z) wd a N->Yb (wo H' z) wd a N1)->Q .non H'
def Zco(n:d≠z):wo (Zb H d o) z=Zb (wo H z) d o:=by
 funext x;by_cases c:x=d;subst c;rw[Zj,V4 n,Zj];rw[Zm c];by_cases f:x=z;subst f;show(if x=x then none else _)=(if x=x then none else _);rw[SW R,SW R];rw[V4 f,V4 f,Zm c]
inductive Zk5(vs:List V)(H:Hp)(Q:VK)(_e3:XK):Prop|mk (wd g:Addr) (a:NA) (N:ZH) (nv zv cv:V) (Tz Tc:String) (_:vs=[.ref wd,.ref g]) (_:Yb H wd a N) (_:D4 wd a) (_:YN N) (_:H g=some (.lst [nv,zv,cv])) (_:Vk H nv) (_:Kd H zv Tz) (_:Kd H cv Tc) (_:yB wd a a.ds (U5 N nv zv cv) (addS N nv zv cv) H Q)
def Zk6(f:Zy K mg t):Zp P w K mg base Zv 3 t.kI t.kJ ["_law_world_here","_law_given_here"] Zk5:=by
 erw[f.ZaU.F.ok Ly () λb0 A outer s a0 vs Q c0 v h=>?_];ext⟨wd,g,a,N,nv,H,D,Tz,Tc,rfl,y,nw,ok,L,Y,kz,kc,⟨e,q⟩⟩ h;ext⟨rows,G,E⟩ y.st;unfold U5 at e q;rw[<-WB (λkv x (h:Yo a0 kv x)=>h.1) E,<-E.length]at e q;erw[⟨_,(Zg (ZA 2 Ly.nd (ZD f.J8 (Mq f) v Zu (Zq (Zr ZJ (pv 1) Za) (Yu v (pv 0) Zs)))) (Zg (ZC (PW.pt (W1 (Wo (Ve (pv 2))) (W0 (ZX (PW.pt (W1 (ZW (ZD f.QN (C8 f) v Zu (Z5 (Zr ZJ (pv 1) Za) Za Za))) (W0 (ZW (ZD f.QN (C8 f) v Zu (Z5 (Zr ZJ (pv 1) Za) Za Za)))))))))) (Zf (ZA 2 Ly.nd Zs)) ZK) (Zg (ZC (PW.pt (W1 (Wo (Ve (pv 2))) (W0 (ZZ Ye (ZN JW f.XR XM (Zh (Yu v (pv 0) Zs))) Za)))) (Zf (ZA 2 Ly.nd Zs)) ZK) (Zg (ZC (Wo (Ve (pv 2))) (Zf (Qo (W3 v) (Yu v (pv 0) Zs) (Zr ZJ (pv 1) Za) (YH (Zq (Zr ZJ (pv 1) Za) (Zr ZJ (pv 1) Za))) R)) ZK) (Zf (Zw (pv 2))))))),?_⟩];dsimp only[kx,ky];erw[Sq5 ?_];intro d0 u5 u4 X u2 u1 s0;have k5:∀w d,Q (.str (Wn.txt w)) d->u5 [some (.ref wd),some (.ref g),some (.str w.txt)] d:=λw d h=>⟨_,R,h⟩;have S:∀w d,Q (.str (Wn.txt w)) d->u4 [some (.ref wd),some (.ref g),some (.str w.txt)] d:=λw d h=>⟨_,R,_,R,Zi (by rw[SR ()];lia) (k5 w d h)⟩;have M:∀w d,Q (.str (Wn.txt w)) d->X [some (.ref wd),some (.ref g),some (.str w.txt)] d:=λw d h=>⟨_,R,_,R,Zi (by rw[SR ()];lia) (Zi () (S w d h))⟩;have T:∀w d,Q (.str (Wn.txt w)) d->u2 [some (.ref wd),some (.ref g),some (.str w.txt)] d:=λw d h=>⟨_,R,_,R,Zi (by rw[SR ()];lia) (Zi () (M w d h))⟩;erw[⟨_,R,g,_,0,_,R,R,Ze.of L,R,_,R,wd,_,R,y.gS,nv,a.ds,rows,R,G,Y,λc i s1=>?_,λB I i s1=>?_,λB I i s1=>?_⟩];rw[c]at e;exact T .name i (e _ R _ s1);rw[B,I]at e;exact T .twice i (e _ R _ s1);rw[B,I]at e q;have C:=s1 _ _ L;erw[⟨_,R,_,R,Zo (SQ R) ⟨_,R,g,_,1,_,R,R,Ze.of C,R,H,Tz,1,6,R,kz.same s1,_,R,?_⟩⟩];cases J:Yq H 1 6 with
 |false=>rw[J]at e;exact Zi SO (Zo R (M .number i (e _ R _ s1)))
 |true =>
 rw[J]at e q;erw[Zo R ⟨_,R,g,_,2,_,R,R,Ze.of C,R,D,Tc,0,30,R,kc.same s1,_,R,?_⟩];cases O:Yq D 0 30 with
 |false=>rw[O]at e;exact Zo R (M .number i (e _ R _ s1))
 |true =>
 rw[O]at e q;erw[Zi () ?_];erw[⟨_,R,_,R,Zo (SQ R) ⟨_,R,wd,_,R,(y.same s1).gS,a.ds,rows,R,s1 _ _ G,R,_,R,?_⟩⟩];cases j:decide (rows.length<8)with
 |false =>
  rw[j]at e;have j:=SU j;exact Zo (SQ (congrArg V.int (by have:=E.length;have:=ok.s8;lia))) (S .many i (e _ R _ s1))
 |true =>
 rw[j]at q;have j:=SS j;erw[Zi (by rw[SR λz=>by injection z with z;lia];lia) ?_];obtain⟨z,rfl,_⟩:=Vr B;have Z:=(Vs J ()).1;have ec:=(Vs O ()).1;erw[⟨_,R,_,R,Zo (SQ R) ⟨_,R,g,_,1,_,R,R,Ze.of C,R,_,R,g,_,2,_,R,R,Ze.of C,R,zL9 R,λr U=>?_⟩⟩];have s3:=Zt U (.tup [H,D]);have u:=s1.trans s3;erw[⟨_,R,wd,_,R,(y.same u).gS,_,R,g,_,0,_,R,R,Ze.of (u _ _ L),R,a.ds,_,R,VI.k (k:=Sum.inr z) (u _ _ G) (Nat.lt_trans j ()),?_⟩];exact⟨_,R,q R _ (WD u) ((y.same u).addSt nw (x:=⟨z,YJ H,YJ D⟩) (u _ _ G) (E.imp λ_ _=>Yo.same u) (UJ I) ⟨R,r,R,by rw[Zj,<-Z,<-ec]⟩)⟩
def UK(H:Hp)(v:V):Option RT->Prop
 |some r=>(∃tp,YM tp H v r)/\R3.Ok r
 |none=>∃T,Kd H v T/\T ≠ "tuple"
def UK.same(s:Zc H c)(h:UK H v o):UK c v o:=by
 cases o with
 |none=>ext⟨T,k,n⟩ h;exact⟨T,k.same s,n⟩
 |some r=>ext⟨⟨tp,h⟩,g⟩ h;exact⟨⟨tp,h.same s⟩,g⟩
def Zcp(h:YM tp H v r):∃a x xs,v=.ref a/\H a=some (.tup (x::xs)):=by
 cases h with
 |always h=>exact⟨_,_,_,R,h⟩
 |week h=>exact⟨_,_,_,R,h⟩
 |span h _=>exact⟨_,_,_,R,h⟩
 |each h _ _=>exact⟨_,_,_,R,h⟩
 |either h _ _=>exact⟨_,_,_,R,h⟩
 |both h _ _=>exact⟨_,_,_,R,h⟩
 |but h _ _ _=>exact⟨_,_,_,R,h⟩
def Zcq(k:Kd H v T):W.kitOne K (.type T) (.type "tuple")=some (decide (T="tuple")):=by
 cases k<;>rfl
def UK.kd{o:Option RT}(h:UK H v o):∃T,Kd H v T/\decide (T="tuple")=o.isSome:=by
 cases o with
 |none=>ext⟨T,k,n⟩ h;exact⟨T,k,SR n⟩
 |some r=>ext⟨⟨tp,h⟩,_⟩ h;obtain⟨a,x,d,rfl,c⟩:=Zcp h;exact⟨_,.tup c,R⟩
inductive yC(vs:List V)(H:Hp)(Q:VK)(_e3:XK):Prop|mk (wd:Addr) (a:NA) (N:ZH) (nv v:V) (o:Option RT) (_:vs=[.ref wd,nv,v]) (_:Yb H wd a N) (_:D4 wd a) (_:YN N) (_:Vk H nv) (_:UK H v o) (_:yB wd a a.dr (U6 N nv o) (addR N nv o) H Q)
def Zk7(i:Zy K mg t):Zp P w K mg base Zv 3 t.kM t.kN ["_law_world_here","_law_name_here","_law_told"] yC:=by
 erw[i.ZaW.F.ok Lz () λa0 A outer s H vs Q b0 y h=>?_];ext⟨wd,a,N,u,v,o,rfl,j,nw,ok,O,L,⟨e,q⟩⟩ h;ext⟨rows,D,C⟩ j.ru;unfold U6 at e q;rw[<-WB (λU x (h:Xb H U x)=>h.1) C,<-C.length]at e q;erw[⟨_,(Zg (ZA 3 Lz.nd (ZD i.J8 (Mq i) y Zu (Zq (pv 1) (Yu y (pv 0) Zs)))) (Zg (ZC (PW.pt (W1 (Wo (Ve (pv 3))) (W0 (ZX (ZW (ZN X9 i.Yy Yx (Zq (pv 2) (X0 R i.U3 U0)))))))) (Zf (ZA 3 Lz.nd Zs)) ZK) (Zg (ZC (PW.pt (W1 (Wo (Ve (pv 3))) (W0 (ZZ Ye (ZN JW i.XR XM (Zh (Yu y (pv 0) Zs))) Za)))) (Zf (ZA 3 Lz.nd Zs)) ZK) (Zg (ZC (Wo (Ve (pv 3))) (Zf (Qo (W3 y) (Yu y (pv 0) Zs) (pv 1) (pv 2) R)) ZK) (Zf (Zw (pv 3))))))),?_⟩];dsimp only[kx,ky];erw[Sq5 ?_];intro d0 S X M T u1 s0;have Y:∀w d,Q (.str (Wn.txt w)) d->S [some (.ref wd),some u,some v,some (.str w.txt)] d:=λw d h=>⟨_,R,h⟩;have G:∀w d,Q (.str (Wn.txt w)) d->X [some (.ref wd),some u,some v,some (.str w.txt)] d:=λw d h=>⟨_,R,_,R,Zi (by rw[SR ()];lia) (Y w d h)⟩;have J:∀w d,Q (.str (Wn.txt w)) d->M [some (.ref wd),some u,some v,some (.str w.txt)] d:=λw d h=>⟨_,R,_,R,Zi (by rw[SR ()];lia) (Zi () (G w d h))⟩;have I:∀w d,Q (.str (Wn.txt w)) d->T [some (.ref wd),some u,some v,some (.str w.txt)] d:=λw d h=>⟨_,R,_,R,Zi (by rw[SR ()];lia) (Zi () (J w d h))⟩;erw[⟨_,R,_,R,wd,_,R,j.gR,u,a.dr,rows,R,D,O,λc g s1=>?_,λB E g s1=>?_,λB E g s1=>?_⟩];rw[c]at e;exact I .name g (e _ R _ s1);rw[B,E]at e;exact I .twice g (e _ R _ s1);rw[B,E]at e q;obtain⟨c0,kd,eT⟩:=(L.same s1).kd;erw[⟨_,R,_,R,Zo (SQ R) ⟨_,R,v,"tuple",_,_,R,kd.ty,Zcq kd,_,R,?_⟩⟩];rw[eT];cases o with
 |none=>exact Zo R (J .days g (e _ R _ s1))
 |some r =>
 erw[Zi SO ?_];erw[⟨_,R,_,R,Zo (SQ R) ⟨_,R,wd,_,R,(j.same s1).gR,a.dr,rows,R,s1 _ _ D,R,_,R,?_⟩⟩];cases f:decide (rows.length<6)with
 |false =>
  rw[f]at e;have f:=SU f;exact Zo (SQ (congrArg V.int (by have:=C.length;have:=ok.r6;lia))) (G .many g (e _ R _ s1))
 |true =>
 rw[f]at q;have f:=SS f;erw[Zi (by rw[SR λz=>by injection z with z;lia];lia) ?_];obtain⟨z,rfl,_⟩:=Vr B;ext⟨⟨tp,Z⟩,_⟩ L;erw[⟨_,R,_,R,Zo (SQ R) ⟨_,R,_,R,wd,_,R,(j.same s1).gR,_,R,a.dr,_,R,VI.k (k:=Sum.inr z) (s1 _ _ D) (Nat.lt_trans f ()),?_⟩⟩];exact⟨_,R,q R _ (WD s1) ((j.same s1).addRu nw (x:=⟨z,r⟩) (s1 _ _ D) (C.imp λ_ _=>Xb.same s1) (UJ E) ⟨R,tp,Z.same s1⟩)⟩
inductive Zk8(vs:List V)(H:Hp)(Q:VK)(_e3:XK):Prop|mk (wd g l:Addr) (a:NA) (N:ZH) (nv rv:V) (us:List V) (cs:List Cl) (_:vs=[.ref wd,.ref g]) (_:Yb H wd a N) (_:D4 wd a) (_:YN N) (_:H g=some (.lst [nv,rv,.ref l])) (_:Vk H nv) (_:Vk H rv) (_:H l=some (.lst us)) (_:Al (Yd H) us cs) (_:Zcn wd a a.dp (QW N nv rv) N (addT N nv rv cs) H Q)
def Zk9(u:Zy K mg t):Zp P w K mg base Zv 3 t.kQ t.kR ["_law_world_here","_law_given_here"] Zk8:=by
 erw[u.ZaY.F.ok LA () λf0 A outer s H vs Q g0 i h=>?_];ext⟨wd,g,l,a,N,nv,O,S,cs,rfl,C,nw,ok,B,hv,e0,hl,al,⟨e,q⟩⟩ h;ext⟨rows,v,L⟩ C.tp;ext⟨X,h3,h4⟩ C.ru;unfold QW at e q;rw[<-WB (λE x (h:Xp H E x)=>h.1) L,<-L.length,<-WB (λE x (h:Xb H E x)=>h.1) h4]at e q;erw[⟨_,(Zg (ZA 2 LA.nd (ZD u.J8 (Mq u) i Zu (Zq (Zr ZJ (pv 1) Za) (Yu i (pv 0) Zs)))) (Zg (ZC (PW.pt (W1 (Wo (Ve (pv 2))) (W0 (PW.pt (Vf (ZX (ZW (ZD u.LK (zX u) i Zu (Zh (Zr ZJ (pv 1) Za))))) (Vu (Wo (uB (W3 i) (Zr ZJ (pv 1) Za) (Yu i (pv 0) Zs))))))))) (Zf (ZA 2 LA.nd Zs)) ZK) (Zg (ZC (PW.pt (W1 (Wo (Ve (pv 2))) (W0 (ZZ Ye (ZN JW u.XR XM (Zh (Yu i (pv 0) Zs))) Za)))) (Zf (ZA 2 LA.nd Zs)) ZK) (Zg (ZC (Wo (Ve (pv 2))) (Zf (Qo (W3 i) (Yu i (pv 0) Zs) (Zr ZJ (pv 1) Za) (YH (Zq (Zr ZJ (pv 1) Za) (Z2 VB R u.YU YT (Zh (Zr ZJ (pv 1) Za))))) R)) ZK) (Zf (Zw (pv 2))))))),?_⟩];dsimp only[kx,ky];erw[Sq5 ?_];intro d0 u5 u4 u3 u2 u1 s0;have k5:∀w c,Q (.str (Wn.txt w)) c->u5 [some (.ref wd),some (.ref g),some (.str w.txt)] c:=λw c h=>⟨_,R,h⟩;have k4:∀w c,Q (.str (Wn.txt w)) c->u4 [some (.ref wd),some (.ref g),some (.str w.txt)] c:=λw c h=>⟨_,R,_,R,Zi (by rw[SR ()];lia) (k5 w c h)⟩;have U:∀w c,Q (.str (Wn.txt w)) c->u3 [some (.ref wd),some (.ref g),some (.str w.txt)] c:=λw c h=>⟨_,R,_,R,Zi (by rw[SR ()];lia) (Zi () (k4 w c h))⟩;have k2:∀w c,Q (.str (Wn.txt w)) c->u2 [some (.ref wd),some (.ref g),some (.str w.txt)] c:=λw c h=>⟨_,R,_,R,Zi (by rw[SR ()];lia) (Zi () (U w c h))⟩;erw[⟨_,R,g,_,0,_,R,R,Ze.of B,R,_,R,wd,_,R,C.gP,nv,a.dp,rows,R,v,hv,λc0 J s1=>?_,λI G J s1=>?_,λI G J s1=>?_⟩];rw[c0]at e;exact k2 .name J (e _ R _ s1);rw[I,G]at e;exact k2 .twice J (e _ R _ s1);rw[I,G]at e q;have b0:=s1 _ _ B;erw[⟨_,R,_,R,Zo (SQ R) ⟨_,R,g,_,1,_,R,R,Ze.of b0,R,O,R,e0.same s1,λM s2=>⟨_,R,?_⟩⟩⟩];have d:=s1.trans s2;cases c3:Y1 O with
 |false =>
  rw[(WB (λE x (h:Xb H E x)=>h.1) h4 O).trans (D8 (λx D=>(ok.ro x D).1) c3)]at e;exact Zo () (Zo R (U .rule M (e _ R _ d)))
 |true =>
 obtain⟨y,rfl,_⟩:=Vr c3;have a0:=C.same d;erw[Zi () ⟨_,R,g,_,1,_,R,R,Ze.of (d _ _ B),R,_,R,wd,_,R,a0.gR,a.dr,_,R,Xk.k (k:=Sum.inr y) (d _ _ h3),_,R,?_⟩];cases c4:(Ys X (Sum.inr y)).isSome with
 |false =>
  rw[show UF X (.str y)=false from c4]at e;exact Zo R (U .rule M (e _ R _ d))
 |true =>
 rw[show UF X (.str y)=true from c4]at e q;erw[Zi () ?_];erw[⟨_,R,_,R,Zo (SQ R) ⟨_,R,wd,_,R,a0.gP,a.dp,rows,R,d _ _ v,R,_,R,?_⟩⟩];cases j:decide (rows.length<10)with
 |false =>
  rw[j]at e;have j:=SU j;exact Zo (SQ (congrArg V.int (by have:=L.length;have:=ok.p10;lia))) (k4 .many M (e _ R _ d))
 |true =>
 rw[j]at q;have j:=SS j;erw[Zi (by rw[SR λz=>by injection z with z;lia];lia) ?_];obtain⟨z,rfl,_⟩:=Vr I;erw[⟨_,R,_,R,Zo (SQ R) ⟨_,R,g,_,1,_,R,R,Ze.of (d _ _ B),R,_,R,g,_,2,_,R,R,Ze.of (d _ _ B),R,l,_,R,.inl (Ze.of (d _ _ hl)),λp hp=>⟨zL9 R,λr Y=>?_⟩⟩⟩];have s3:=Zt hp (.lst S);have s4:=Zt Y (.tup [.str y,.ref p]);have f:=(d.trans s3).trans s4;erw[⟨_,R,wd,_,R,(C.same f).gP,_,R,g,_,0,_,R,R,Ze.of (f _ _ B),R,a.dp,_,R,VI.k (k:=Sum.inr z) (f _ _ v) (Nat.lt_trans j ()),?_⟩];erw[⟨_,R,q R _ (WD f) ((C.same f).addTp nw (x:=⟨z,y,cs⟩) (f _ _ v) (L.imp λ_ _=>Xp.same f) (UJ G) ⟨R,r,p,S,R,Zj,s4 _ _ Zj,al.imp λ_ _=>Yd.same f⟩) λx ys D Z=>?_⟩];rw[Zco (Yr v D ())];have T:=QJ (l:=x) f;ext⟨rx,x1,x2⟩ Z.tp;have e1:=(UA x1).2;rw[v]at e1;cases e1;have np:p≠x:=(Z1 D (d.free hp)).symm;have nr:r≠x:=(Z1 D ((d.trans s3).free Y)).symm;erw[(Z.same T).addTp nw (x:=⟨z,y,cs⟩) (T _ _ x1) (x2.imp λ_ _=>Xp.same T) (UJ G) ⟨R,r,p,S,R,Z4 Zj nr,Z4 (s4 _ _ Zj) np,?_⟩];exact al.imp λ_ _ ⟨b,e,hb⟩=>⟨b,e,Z4 (f _ _ hb) (Yr hb D ())⟩
inductive Zla(vs:List V)(H:Hp)(Q:VK)(_e3:XK):Prop|mk (wd g:Addr) (a:NA) (N:ZH) (nv prv lv zv:V) (Tp Tl:String) (o:Option (List V)) (_:vs=[.ref wd,.ref g]) (_:Yb H wd a N) (_:D4 wd a) (_:YN N) (_:H g=some (.lst [nv,prv,lv,zv])) (_:Vk H nv) (_:Kd H prv Tp) (_:Kd H lv Tl) (_:XU H zv o) (_:Zcn wd a a.dt (QV N nv prv lv o) N (addK N nv prv lv o) H Q)
def Zlb(i:Zy K mg t):Zp P w K mg base Zv 3 t.kO t.kP ["_law_world_here","_law_given_here"] Zla:=by
 erw[i.ZaX.F.ok J1 () λe0 A outer s b0 vs Q f0 v h=>?_];ext⟨wd,g,a,N,nv,y,lv,zv,Tp,Tl,o,rfl,H,nw,ok,G,hv,kp,kl,hz,⟨e,q⟩⟩ h;ext⟨rows,E,L⟩ H.tk;unfold QV at e q;rw[<-WB (λkv x (h:Xo b0 kv x)=>h.1) L,<-L.length]at e q;erw[⟨_,(Zg (ZA 2 J1.nd (ZD i.J8 (Mq i) v Zu (Zq (Zr ZJ (pv 1) Za) (Yu v (pv 0) Zs)))) (Zg (ZA 3 J1.nd (WI (ZD i.QN (C8 i) v Zu (Z5 (Zr ZJ (pv 1) Za) Za Za)) (X6 (ZD i.QN (C8 i) v Zu (Z5 (Zr ZJ (pv 1) Za) Za Za))))) (Zg (ZC (PW.pt (W1 (Wo (Ve (pv 2))) (W0 (ZX (PW.pt (W1 (ZW (pv 3)) (W0 (ZW (ZD i.ZaT (Zk4 i) v Zu (Zh (Zr ZJ (pv 1) Za))))))))))) (Zf (ZA 2 J1.nd Zs)) ZK) (Zg (ZC (PW.pt (W1 (Wo (Ve (pv 2))) (W0 (ZZ Ye (ZN JW i.XR XM (Zh (Yu v (pv 0) Zs))) Za)))) (Zf (ZA 2 J1.nd Zs)) ZK) (Zg (ZC (Wo (Ve (pv 2))) (Zf (Qo (W3 v) (Yu v (pv 0) Zs) (Zr ZJ (pv 1) Za) (YH (Z5 (Zr ZJ (pv 1) Za) (Zr ZJ (pv 1) Za) (Z2 VB R i.YU YT (Zh (Zr ZJ (pv 1) Za))))) R)) ZK) (Zf (Zw (pv 2)))))))),?_⟩];dsimp only[kx,ky];erw[Sq6 ?_];intro d0 u6 u5 u4 u3 u2 u1 s0;have k6:∀w b d,Q (.str (Wn.txt w)) d->u6 [some (.ref wd),some (.ref g),some (.str w.txt),some (.bl b)] d:=λw b d h=>⟨_,R,h⟩;have k5:∀w b d,Q (.str (Wn.txt w)) d->u5 [some (.ref wd),some (.ref g),some (.str w.txt),some (.bl b)] d:=λw b d h=>⟨_,R,_,R,Zi (by rw[SR ()];lia) (k6 w b d h)⟩;have M:∀w b d,Q (.str (Wn.txt w)) d->u4 [some (.ref wd),some (.ref g),some (.str w.txt),some (.bl b)] d:=λw b d h=>⟨_,R,_,R,Zi (by rw[SR ()];lia) (Zi () (k5 w b d h))⟩;have k3:∀w b d,Q (.str (Wn.txt w)) d->u3 [some (.ref wd),some (.ref g),some (.str w.txt),some (.bl b)] d:=λw b d h=>⟨_,R,_,R,Zi (by rw[SR ()];lia) (Zi () (M w b d h))⟩;have U:∀dv f,Zc b0 f->u3 [some (.ref wd),some (.ref g),some dv,some (.bl (Yq y 0 10000 && Yq lv 1 1440))] f->u2 [some (.ref wd),some (.ref g),some dv,none] f:=λdv f s1 h=>by
  erw[⟨_,R,g,_,1,_,R,R,Ze.of (s1 _ _ G),R,y,Tp,0,10000,R,kp.same s1,_,R,?_⟩];cases c:Yq y 0 10000 with
  |false=>rw[c]at h;exact Zi SO h
  |true=>rw[c]at h;exact Zo R ⟨_,R,g,_,2,_,R,R,Ze.of (s1 _ _ G),R,lv,Tl,1,1440,R,kl.same s1,h⟩
 erw[⟨_,R,g,_,0,_,R,R,Ze.of G,R,_,R,wd,_,R,H.gT,nv,a.dt,rows,R,E,hv,λc f s1=>?_,λJ I f s1=>?_,λJ I f s1=>?_⟩];rw[c]at e;exact U _ _ s1 (k3 .name _ f (e _ R _ s1));rw[J,I]at e;exact U _ _ s1 (k3 .twice _ f (e _ R _ s1));rw[J,I]at e q;erw[U _ _ s1 ⟨_,R,_,R,Zo (SQ R) ⟨_,R,_,R,?_⟩⟩];cases O:Yq y 0 10000 with
 |false=>rw[O]at e;exact Zi SO (Zo R (M .number _ f (e _ R _ s1)))
 |true =>
 rw[O]at e q;cases X:Yq lv 1 1440 with
 |false=>rw[X]at e;exact Zi SO (Zo R (M .number _ f (e _ R _ s1)))
 |true =>
 rw[X]at e q;erw[Zo R ⟨_,R,g,_,3,_,R,R,Ze.of (s1 _ _ G),R,zv,o,R,hz.same s1,λH2 s2=>⟨_,R,?_⟩⟩];have j:=s1.trans s2;cases C:KG o with
 |false=>rw[C]at e;exact Zo R (M .number _ H2 (e _ R _ j))
 |true =>
 rw[C]at e q;erw[Zi () ?_];have c0:=H.same j;erw[⟨_,R,_,R,Zo (SQ R) ⟨_,R,wd,_,R,c0.gT,a.dt,rows,R,j _ _ E,R,_,R,?_⟩⟩];cases D:decide (rows.length<3)with
 |false =>
  rw[D]at e;have D:=SU D;exact Zo (SQ (congrArg V.int (by have:=L.length;have:=ok.t3;lia))) (k5 .many _ H2 (e _ R _ j))
 |true =>
 rw[D]at q;have D:=SS D;erw[Zi (by rw[SR λz=>by injection z with z;lia];lia) ?_];cases o with
 |none=>cases C
 |some B =>
 ext⟨l,rfl,hl,kx⟩ hz;have C:(decide (1<=B.length/\(B.length:Int)<=6) && XS 1 6 B)=true:=C;rw[Bool.and_eq_true]at C;obtain⟨z,rfl,_⟩:=Vr J;have ep:=(Vs O ()).1;have el:=(Vs X ()).1;have ex:=(Mo B 1 6 () C.2).1;have T:=j _ _ G;erw[⟨_,R,_,R,Zo (SQ R) ⟨_,R,g,_,1,_,R,R,Ze.of T,R,_,R,g,_,2,_,R,R,Ze.of T,R,_,R,g,_,3,_,R,R,Ze.of T,R,l,_,R,.inl (Ze.of (j _ _ hl)),λp hp=>⟨zL9 R,λr Z=>?_⟩⟩⟩];have s3:=Zt hp (.lst B);have s4:=Zt Z (.tup [y,lv,.ref p]);have u:=(j.trans s3).trans s4;erw[⟨_,R,wd,_,R,(H.same u).gT,_,R,g,_,0,_,R,R,Ze.of (u _ _ G),R,a.dt,_,R,VI.k (k:=Sum.inr z) (u _ _ E) (Nat.lt_trans D ()),?_⟩];erw[⟨_,R,q R _ (WD u) ((H.same u).addTk nw (x:=⟨z,YJ y,YJ lv,B.map YJ⟩) (u _ _ E) (L.imp λ_ _=>Xo.same u) (UJ I) ⟨R,r,p,R,by rw[Zj,<-ep,<-el],by rw[<-ex];exact s4 _ _ Zj⟩) λx ys Y a0=>?_⟩];rw[Zco (Yr E Y ())];have S:=QJ (l:=x) u;ext⟨rx,x1,x2⟩ a0.tk;have e1:=(UA x1).2;rw[E]at e1;cases e1;have np:p≠x:=(Z1 Y (j.free hp)).symm;have nr:r≠x:=(Z1 Y ((j.trans s3).free Z)).symm;exact(a0.same S).addTk nw (x:=⟨z,YJ y,YJ lv,B.map YJ⟩) (S _ _ x1) (x2.imp λ_ _=>Xo.same S) (UJ I) ⟨R,r,p,R,by rw[V4 nr,Zj,<-ep,<-el],by rw[<-ex];exact Z4 (s4 _ _ Zj) np⟩
def UL(a b:Str)(ys:OC):Prop:=ys.Perm [a,b]/\PyProof.Rows.sortedS ys=true
def Zlc{x y:Str}(h1:Spec.ltCps x.cps.toList y.cps.toList=false)(c:Spec.ltCps y.cps.toList x.cps.toList=false):x=y:=by
 rw[PyProof.Rows.ltCps_eq]at h1 c;have:x.cps.toList=y.cps.toList:=List.le_antisymm (List.not_lt.mp (SU c)) (List.not_lt.mp (SU h1));ext⟨⟨a⟩⟩ x;ext⟨⟨b⟩⟩ y;have:a=b:=this;rw[this]
def Zld(h:UL a b ys)(g:UL c d zs):ys=zs↔(a=c/\b=d)\/(a=d/\b=c):=by
 have u:∀{a b:Str} {ys:OC},UL a b ys->(ys=[a,b]/\Spec.ltCps b.cps.toList a.cps.toList=false)\/(ys=[b,a]/\Spec.ltCps a.cps.toList b.cps.toList=false):=λ{a b ys} h=>by
  ext⟨p,s⟩ h;have l:=p.length_eq;obtain⟨x,y,rfl⟩:∃x y,ys=[x,y]:=by
   match ys,l with
   |[x,y],_=>exact⟨x,y,R⟩
  have j:Spec.ltCps y.cps.toList x.cps.toList=false:=by
   have s:(!Spec.ltCps y.cps.toList x.cps.toList && true)=true:=s;simpa using s
  have B:x=a\/x=b:=by simpa using p.subset (SC)
  rcases B with rfl|rfl;have:=(List.perm_cons x).mp p;have e:=List.perm_singleton.mp this;cases e;exact .inl ⟨R,j⟩;have q:[x,y].Perm [x,a]:=p.trans (List.Perm.swap _ _ _);have e:=List.perm_singleton.mp ((List.perm_cons x).mp q);cases e;exact .inr ⟨R,j⟩
 have i:∀{a b:Str},Spec.ltCps b.cps.toList a.cps.toList=false->Spec.ltCps a.cps.toList b.cps.toList=false->a=b:=λf v=>Zlc v f;rcases u h with⟨rfl,f⟩|⟨rfl,f⟩<;>rcases u g with⟨rfl,g1⟩|⟨rfl,g1⟩<;>constructor
 intro z;simp only[List.cons.injEq,and_true]at z;exact .inl z;rintro(⟨rfl,rfl⟩|⟨rfl,rfl⟩);rfl;rw[i f g1];intro z;simp only[List.cons.injEq,and_true]at z;exact .inr z;rintro(⟨rfl,rfl⟩|⟨rfl,rfl⟩);rw[i f g1];rfl;intro z;simp only[List.cons.injEq,and_true]at z;exact .inr ⟨z.2,z.1⟩;rintro(⟨rfl,rfl⟩|⟨rfl,rfl⟩);rw[i g1 f];rfl;intro z;simp only[List.cons.injEq,and_true]at z;exact .inl ⟨z.2,z.1⟩;rintro(⟨rfl,rfl⟩|⟨rfl,rfl⟩);rfl;rw[i g1 f]
def Uu(ys:OC):PyData:=.list (ys.map .str)
theorem KN:∀{ys:OC},(∀y∈ys,Yc y)->YD K H (ys.map V.str) (ys.map PyData.str)
 |[],_=>.nil
 |y::r,h=>.cons (.str y (VQ (h y SC))) (KN λz hz=>h z (SB _ hz))
theorem Zcr:∀(xs ys:OC),PyData.eqvAll (xs.map PyData.str) (ys.map PyData.str)=decide (xs=ys)
 |[],[]=>by simp[PyData.eqvAll]
 |[],_::_=>by simp[PyData.eqvAll]
 |_::_,[]=>by simp[PyData.eqvAll]
 |x::xs,y::ys=>by
  have:=Zcr xs ys;show(PyData.eqv (.str x) (.str y) && PyData.eqvAll (xs.map PyData.str) (ys.map PyData.str))=_;rw[this,show PyData.eqv (.str x) (.str y)=(x==y) by simp[PyData.eqv],Bool.eq_iff_iff,Bool.and_eq_true,beq_iff_eq,decide_eq_true_eq,decide_eq_true_eq,List.cons.injEq]
theorem D9:∀{xs:List V} {ds:List PyData},YD K H xs ds->DV K H v d->YD K H (xs++[v]) (ds++[d])
 |_,_,.nil,h=>.cons h .nil
 |_,_,.cons a r,h=>.cons a (D9 r h)
def Zle(hz:UL x y zs){f:List (List Str)}(i:Al (λys (w:Wl)=>UL w.o w.t ys) f c):((f.map Uu).any λd=>PyData.eqv d (Uu zs))=Us c x y:=by
 induction i with
 |nil=>rfl
 |@cons ys w f c h _ j =>
  have g:Us (w::c) x y=(((x==w.o && y==w.t) || (y==w.o && x==w.t)) || Us c x y):=rfl;rw[g,SL,List.any_cons,j];congr 1;rw[show PyData.eqv (Uu ys) (Uu zs)=PyData.eqvAll (ys.map PyData.str) (zs.map PyData.str) by unfold Uu;simp only[PyData.eqv],Zcr,Bool.eq_iff_iff,decide_eq_true_eq,Zld h hz];simp only[Bool.or_eq_true,Bool.and_eq_true,beq_iff_eq];constructor;rintro(⟨rfl,rfl⟩|⟨rfl,rfl⟩);exact .inl ⟨R,R⟩;exact .inr ⟨R,R⟩;rintro(⟨rfl,rfl⟩|⟨rfl,rfl⟩);exact .inl ⟨R,R⟩;exact .inr ⟨R,R⟩
def UL.nm(h:UL a b ys)(ha:Yc a)(d:Yc b):∀y∈ys,Yc y:=λy c=>by
 have:=h.1.subset c;simp only[SE,List.not_mem_nil,or_false]at this;rcases this with rfl|rfl;exact ha;exact d
def Zcs(ys:OC):(Uu ys).depth<=1:=by
 have:∀ys:List Str,PyData.depthAll (ys.map PyData.str)=0:=λys=>by
  induction ys with
  |nil=>simp[PyData.depthAll]
  |cons y r c=>simp[PyData.depthAll,PyData.depth,c]
 unfold Uu;simp[PyData.depth,this]
inductive Zlf(vs:List V)(H:Hp)(Q:VK)(_e3:XK):Prop|mk (wd g:Addr) (a:NA) (N:ZH) (ov tv mv:V) (Tm:String) (_:vs=[.ref wd,.ref g]) (_:Yb H wd a N) (_:YN N) (_:H g=some (.lst [ov,tv,mv])) (_:Vk H ov) (_:Vk H tv) (_:Kd H mv Tm) (_:yB wd a a.lw (QU N ov tv mv) (addW N ov tv mv) H Q)
def Zlg(C:Zy K mg t):Zp P w K mg base Zv 3 t.kK t.kL ["_law_world_here","_law_given_here"] Zlf:=by
 erw[C.ZaV.F.ok B9 () λt0 A outer s a0 vs l0 u0 D h=>?_];ext⟨wd,e0,a,N,g,d,O,Tm,rfl,L,ok,hg,p0,q0,km,⟨e,q⟩⟩ h;ext⟨rows,h1,h2⟩ L.st;ext⟨vw,w1,w2⟩ L.wk;have lw:=w2.length;have w12:=ok.w12;unfold QU at e q;have ref:∀v,v=g\/v=d->Yv Yg.nm N.st v=false->∀c,Zc a0 c->l0 (.str (Wn.txt .stop)) c:=λv G X c Q=>e .stop (by
  cases c1:Yv Yg.nm N.st g with
  |false=>rfl
  |true =>
   cases c2:Yv Yg.nm N.st d with
   |false=>rfl
   |true =>
    rcases G with rfl|rfl;rw[c1]at X;cases X;rw[c2]at X;cases X) c Q
 erw[⟨_,(Zg (K0 (pv 1) (Zgd (n:=3) R (UR (Yl 2 B9.nd) (UR (Yl 3 B9.nd) (UR (Yl 4 B9.nd) KZ))))) (Zg (W8 (yS (YH (Zq (pv 2) (pv 3)))) (Yl 5 B9.nd) (Zf (ZC (PW.pt (Vf (ZX (ZW (ZD C.LK (zX C) D Zu (Zh (pv 5))))) (Vu (Wo (uB (W3 D) (pv 5) (Yu D (pv 0) Zs)))))) (Zf (Zw Zs)) ZK))) (Zg (I0 (i0:=6) (cl:=[]) (N:=["_law_walk"]) (fr:=[none]) B9.nd R (Or.inl R) R (Xx (Yu D (pv 0) Zs)) R () R () trivial trivial R (λ_ _ _ _ _=>(Yl 0 (show List.Nodup (["_law_walk"]:OC) by lia))) (λ_ _ _ _ _=>Wu) (λ_ _ _ _ _=>(ZN (show Y4 _ _ (uQ K)from uR) C.J4 J2 (Zh (A2 (show G0 _ (xU K)from Zd3) (pv 0) F9 (Qd Za)))))) (Zg (ZC (PW.pt (Vf (ZZ Ye (pv 2) (pv 3)) (Vu (K8 (uJ D.units) (ZN uR C.J4 J2 (Zh (ZI (Zq (pv 2) (pv 3))))) (pv 6) R)))) (Zf (Zw Zs)) ZK) (Zg (ZC (ZX (ZW (ZD C.QN (C8 C) D Zu (Z5 (pv 4) Za Za)))) (Zf (Zw Zs)) ZK) (Zg (ZC (ZZ Ye (ZN VA C.XR XM (Zh (Yu D (pv 0) Zs))) Za) (Zf (Zw Zs)) ZK) (Zg (Yk (Vi PySem.F.plainAttrs_list PySem.F.slot_list_append PySem.F.type_list_append VC (Yu D (pv 0) Zs) (Zh (YH (Z5 (pv 2) (pv 3) (pv 4)))))) (Zf (Zw UP))))))))),?_⟩];erw[⟨_,R,e0,_,R,Ze.of hg,R,_,_,R,_,_,R,_,_,R,R,?_⟩];erw[⟨_,R,_,R,zL9 R,λpt gt=>?_⟩];have s1:=Zt gt (.tup [g,d]);have ct:Zb a0 pt (.tup [g,d]) pt=some (.tup [g,d]):=Zj;generalize Zb a0 pt (.tup [g,d])=H1 at s1 ct ⊢;erw[⟨pt,R,⟨_,Zk.of ct⟩,yV (xs:=[g,d]) (λi u c=>Zc H1 c/\(1<=i->Yv Yg.nm N.st g=true)/\(2<=i->Yv Yg.nm N.st d=true)/\∃v5:Option V,u=[some (.ref wd),some (.ref e0),some g,some d,some O,v5,none]) ⟨Zc.refl _,λh=>Os h (),λh=>Os h (),_,R⟩ (λi u c _ ⟨Q,_⟩=>Zk.of (Q _ _ ct)) ?_ ?_⟩]
 ·rintro i v u H2 G ⟨s2,j1,U,v5,rfl⟩
  have E:=s1.trans s2;have b0:v=g\/v=d:=by simpa using SJ G
  have o0:Vk H2 v:=by rcases b0 with rfl|rfl;exact p0.same E;exact q0.same E
  erw[⟨_,R,v,R,o0,λH s3=>⟨_,R,?_⟩⟩];have S3:=E.trans s3;cases T:Y1 v with
  |false=>exact Zo () (Zo R (ref v b0 (D8 ok.so T) H S3))
  |true =>
  obtain⟨y,rfl,_⟩:=Vr T;erw[Zi () ⟨_,R,_,R,wd,_,R,(L.same S3).gS,a.ds,_,R,Xk.k (k:=Sum.inr y) (S3 _ _ h1),_,R,?_⟩];have kn:=WB (λkv x (h:Yo a0 kv x)=>h.1) h2 (.str y);cases M:(Ys rows (Sum.inr y)).isSome with
  |false=>exact Zo R (ref _ b0 (kn.symm.trans M) H S3)
  |true =>
  have M:Yv Yg.nm N.st (.str y)=true:=kn.symm.trans M;erw[Zi () ⟨s2.trans s3,λh=>?_,λh=>?_,_,R⟩];by_cases i0:i=0;subst i0;cases G;exact M;exact j1 ();by_cases i1:i=1;subst i1;cases G;exact M;exact U ()
 rintro u H2 ⟨s2,j1,U,v5,rfl⟩;have E:=s1.trans s2;have b1:=j1 (by show 1<=2;lia);have b2:=U (by show 2<=2;lia);rw[b1,b2]at e q;obtain⟨x,_,rfl,fx⟩:=WC b1;obtain⟨y,_,rfl,fy⟩:=WC b2;have n0:Yc x:=by have:=XD fx;rw[<-this.2];exact ok.so _ this.1
 have r0:Yc y:=by have:=XD fy;rw[<-this.2];exact ok.so _ this.1
 clear b1 b2 j1 U;have g0:=E _ _ w1;erw[⟨_,R,wd,_,R,(L.same E).gW,a.lw,R,⟨_,Ze.of g0⟩,WL (K:=K) (a:=a.lw) (xs:=vw) (λi j u c=>Zc H2 c/\(∃v,u=[v])/\∃J:List (List Str),YD K c j (J.map Uu)/\Al (λZ (w:Wl)=>UL w.o w.t Z) J (N.wk.take i)) ⟨Zc.refl _,⟨_,R⟩,[],.nil,.nil⟩ (Sh (show _<=12 by lia) ()) (λi j u c _ ⟨Q,_⟩=>Ze.of (Q _ _ g0)) ?_ ?_⟩];rintro i v j u H hi G ⟨s3,⟨v0,rfl⟩,J,dv,al⟩;obtain⟨f,ex,px,rfl,c0⟩:=w2.get G;have d0:=ok.wo f (SJ ex);have c0:=(E.trans s3) _ _ c0;dsimp only[YK,Wb];rw[SW R];erw[⟨_,R,_,R,px,_,R,Zk.of c0,by show ¬ (0=0/\2=3);lia,λp2 g2=>?_⟩];rw[show WP [V.str f.o,.str f.t,.int (f.m:Nat)] none (some 2)=[.str f.o,.str f.t] from R];have t1:=Zt g2 (.tup [.str f.o,.str f.t]);erw[⟨p2,[f.o,f.t],R,.inr (Zk.of Zj),by show 2<64;lia,λl Z gl pm so=>?_⟩];have t2:=t1.trans (Zt gl (.lst (Z.map V.str)));erw[⟨by rw[Su,Sw];lia,s3.trans t2,⟨_,R⟩,J++[Z],?_,?_⟩];rw[SK];exact D9 (dv.same t2) (.lst (Ze.of Zj) (KN (UL.nm ⟨pm,so⟩ d0.1 d0.2)));rw[S0,ex];exact al.snoc ⟨pm,so⟩;rintro j u H ha ⟨s3,⟨v0,rfl⟩,J,dv,al⟩ Y gl;rw[lw,List.take_length]at al;have t3:=Zt gl (.lst j);have T:Zb H Y (.lst j) Y=some (.lst j):=Zj;have f0:=dv.same t3;generalize Zb H Y (.lst j)=H4 at t3 T f0 ⊢;have S4:=(E.trans s3).trans t3;erw[⟨_,R,_,R,R,_,R,?_⟩];cases b3:decide (V.str x=V.str y)with
 |true=>rw[b3]at e;exact Zo R (Zo R (e _ R _ S4))
 |false =>
 erw[Zi SO ?_];erw[⟨_,R,_,R,zL9 R,λp5 g5=>?_⟩];have t5:=Zt g5 (.lst [.str x,.str y]);erw[⟨p5,[x,y],R,.inl (Ze.of Zj),by show 2<64;lia,λl6 zs g6 pm so=>?_⟩];have t6:=t5.trans (Zt g6 (.lst (zs.map V.str)));have B:=S4.trans t6;erw[⟨_,R,Y,j,Uu zs,_,R,.inl (Ze.of (t6 _ _ T)),.lst (Ze.of Zj) (KN (UL.nm ⟨pm,so⟩ n0 r0)),f0.same t6,by have:=Zcs zs;lia,_,R,?_⟩];show if ((J.map Uu).any λm0=>PyData.eqv m0 (Uu zs))=true then _ else _
 rw[Zle ⟨pm,so⟩ al];cases b4:Us N.wk x y with
 |true=>rw[b3,show Us N.wk (XC (V.str x)) (XC (V.str y))=true from b4]at e;exact Zo R (e _ R _ B)
 |false =>
 rw[b3,show Us N.wk (XC (V.str x)) (XC (V.str y))=false from b4]at e q;erw[Zi SO ?_];generalize Zb (Zb H4 p5 (.lst [.str x,.str y])) l6 (.lst (zs.map V.str))=H6 at B ⊢;erw[⟨_,R,O,Tm,1,60,R,km.same B,_,R,?_⟩];cases b5:Yq O 1 60 with
 |false=>rw[b5]at e;exact Zo R (e _ R _ B)
 |true =>
 rw[b5]at e q;erw[Zi () ?_];have h0:=L.same B;have j0:=B _ _ w1;erw[⟨_,R,wd,_,R,h0.gW,a.lw,_,R,.inl (Ze.of j0),R,_,R,?_⟩];cases I:decide (N.wk.length<12)with
 |false =>
  rw[I]at e;have I:=SU I;exact Zo (SQ (congrArg V.int ())) (e _ R _ B)
 |true =>
 rw[I]at q;have I:=SS I;erw[Zi (by rw[SR λz=>by injection z with z;lia];lia) ?_];have em:=(Vs b5 ()).1;erw[⟨_,R,wd,_,R,h0.gW,.inl ⟨R,_,Ze.of j0⟩,_,R,_,R,_,R,zL9 R,λr k0=>?_⟩];have s7:=Zt k0 (.tup [.str x,.str y,O]);have S:=B.trans s7;erw[⟨a.lw,_,_,R,R,S _ _ w1,Sj (show _<=12 by lia) (),?_⟩];exact q R _ (WD S) ((L.same S).addWk ok (x:=⟨x,y,YJ O⟩) (S _ _ w1) (w2.imp λ_ _=>YF.same S) ⟨r,R,by rw[Zj,<-em]⟩)
def Zlh{ns:OG}{d:Int}{B:Nat}(g:0<=d)(h1:d<(ns.length:Nat))(f:(ns.all λn=>decide (n<=B))=true):∃b:Nat,Xy (ns.map λn=>V.int (n:Nat)) d=some (.int (b:Nat))/\b<=B:=by
 obtain⟨k,rfl⟩:∃k:Nat,d=(k:Nat):=⟨d.toNat,()⟩;have c:k<ns.length:=by lia
 exact⟨ns[k],Qh (by rw[Oa,Ss c];rfl),SS (List.all_eq_true.mp f _ (Oi c))⟩
def E3(f:TE)(d:St)(Pr:Hp->V->Prop):Prop:=∀(H:Hp) (Q:VK),(∀v c,Zc H c->Pr c v->Q v c)->f d H Q
def Mr(g:TA)(f:St)(n:Nat)(Pr:Hp->V->Prop):Prop:=∀(H:Hp) (Kx:List V->Hp->Prop),(∀c d,Zc H d->c.length=n->(∀v∈c,Pr d v)->Kx c d)->g f H Kx
def Ms:Mr YP c 0 Pr:=λH _ k=>k [] H (Zc.refl H) R ()
def Yw(m:∀H f v,Zc H f->Pr H v->Pr f v)(h:E3 d c Pr)(r:Mr g c n Pr):Mr (ZU d g) c (n+1) Pr:=λH E k=>h H _ λv C s1 B=>r C _ λy D s2 j x=>k (v::y) D (s1.trans s2) (by rw[Sy,j]) λu i=>(SE.mp i).elim (λe=>e ▸ m _ _ _ s2 B) (x u)
def Vt(h:∀H,Pr H v):E3 (tC v) c Pr:=λH Q k=>k v H (Zc.refl H) (h H)
def Mu{vs:List V}(hn:vs.length<=sizeLine)(h:∀H p,H p=some (.lst vs)->Pr H (.ref p))(c:∀(H:Hp) (Kx:List V->Hp->Prop),Kx vs H->f d H Kx):E3 (UU f) d Pr:=λH Q k=>c H _ ⟨hn,λp g=>k _ _ (Zt g _) (h _ _ Zj)⟩
def yD{vs:List V}(hn:vs.length<=sizeLine)(h:∀H p,H p=some (.tup vs)->Pr H (.ref p))(c:∀(H:Hp) (Kx:List V->Hp->Prop),Kx vs H->f d H Kx):E3 (xG f) d Pr:=λH Q k=>c H _ ⟨hn,λp g=>k _ _ (Zt g _) (h _ _ Zj)⟩
def Zct(h:∀H p,H p=some (.dK [])->Pr H (.ref p)):E3 wV c Pr:=λH Q k p d=>k _ _ (Zt d _) (h _ _ Zj)
def yE(h:Mr u c n Pr)(m:∀H i v,Zc H i->Pr H v->Pr i v)(hn:n<=sizeLine)(hi:∀(H:Hp) (Q:VK),Q (.int d) H->j c H Q)(B:0<=d)(h1:d<(n:Nat)):E3 (W2 (WQ K) (UU u) j) c Pr:=λH Q k=>h H _ λD x s1 f y=>⟨by rw[f];exact hn,λp g=>hi _ _ (by
 obtain⟨v,C,pv⟩:=VG (p:=Pr x) y B (by rwa[f]);exact⟨p,_,_,_,R,R,Ze.of Zj,C,k v _ (s1.trans (Zt g _)) (m _ _ _ (Zt g _) pv)⟩)⟩
inductive WE(H:Hp):V->Bool->Prop
 |non:WE H .non false
 |bl (b:Bool):WE H (.bl b) false
 |int (i:Int):WE H (.int i) false
 |five:WE H (.str (OK "5")) false
 |lst {l:Addr} (h:H l=some (.lst [.int 1])):WE H (.ref l) false
 |tup {p:Addr} (h:H p=some (.tup [])):WE H (.ref p) true
def WE.same(s:Zc H c)(h:WE H v b):WE c v b:=by
 cases h with
 |non=>exact .non
 |bl b=>exact .bl b
 |int i=>exact .int i
 |five=>exact .five
 |lst h=>exact .lst (s _ _ h)
 |tup h=>exact .tup (s _ _ h)
def WE.kd(h:WE H v b):∃T,Kd H v T/\T ≠ "dict" /\ decide (T="tuple")=b:=by
 cases h with
 |non=>exact⟨_,.non,(),()⟩
 |bl b=>exact⟨_,.bl b,(),()⟩
 |int i=>exact⟨_,.int i,(),()⟩
 |five=>exact⟨_,.str _,(),()⟩
 |lst h=>exact⟨_,.lst h,(),()⟩
 |tup h=>exact⟨_,.tup h,(),()⟩
def VS(H:Hp)(v:V):Option RT->Prop
 |some r=>(∃tp,YM tp H v r)/\R3.Ok r
 |none=>∃b,WE H v b
def VS.same(s:Zc H c)(h:VS H v o):VS c v o:=by
 cases o with
 |none=>ext⟨b,h⟩ h;exact⟨b,h.same s⟩
 |some r=>ext⟨⟨tp,h⟩,g⟩ h;exact⟨⟨tp,h.same s⟩,g⟩
def Zli:V->Bool
 |.int _=>true
 |.bl _=>true
 |_=>false
def Zcu{xs:List V}(h:xs.all Zli=true):∀x∈xs,∃T,Kd H x T:=λx c=>by
 have:=List.all_eq_true.mp h x c;cases x with
 |int i=>exact⟨_,.int i⟩
 |bl b=>exact⟨_,.bl b⟩
 |_=>cases this
inductive Vb(N:ZH)(G:Hp):Nat->List V->Prop
 |s0 {nv zv cv:V} {Tz Tc:String} (h1:Vk G nv) (h2:Kd G zv Tz) (h3:Kd G cv Tc):Vb N G 0 [nv,zv,cv]
 |s1 {ov tv mv:V} {Tm:String} (h1:Vk G ov) (h2:Vk G tv) (h3:Kd G mv Tm):Vb N G 1 [ov,tv,mv]
 |s2 {nv v:V} {o:Option RT} (h1:Vk G nv) (h2:VS G v o):Vb N G 2 [nv,v]
 |s3 {nv prv lv zv:V} {Tp Tl:String} {o:Option (List V)} (h1:Vk G nv) (h2:Kd G prv Tp) (h3:Kd G lv Tl) (h4:XU G zv o) (h5:∀ys,o=some ys->ys.length<=10):Vb N G 3 [nv,prv,lv,zv]
 |s4 {nv rv:V} {l:Addr} {us:List V} {cs:List Cl} (h1:Vk G nv) (h2:Vk G rv) (h3:G l=some (.lst us)) (h4:Al (Yd G) us cs) (h5:Uq (N.st.map Yg.nm) cs) (h6:2<=cs.length) (h7:cs.length<=6):Vb N G 4 [nv,rv,.ref l]
def Vb.same(s:Zc G H)(h:Vb N G k xs):Vb N H k xs:=by
 cases h with
 |s0 d c f=>exact .s0 (d.same s) (c.same s) (f.same s)
 |s1 d c f=>exact .s1 (d.same s) (c.same s) (f.same s)
 |s2 d c=>exact .s2 (d.same s) (c.same s)
 |s3 d c f i g=>exact .s3 (d.same s) (c.same s) (f.same s) (i.same s) g
 |s4 d c f i g u j=>exact .s4 (d.same s) (c.same s) (s _ _ f) (i.imp λ_ _=>Yd.same s) g u j
def KO(s:Zc G H)(n:G l=none):Zc G (wo H l):=λa o e=>Z4 (s _ _ e) λz=>by rw[z,n]at e;cases e
inductive Zlj(vs:List V)(H:Hp)(Q:VK)(_e3:XK):Prop|mk (wd ln:Addr) (a:NA) (N:ZH) (NS:OC) (m:Nat) (_:vs=[.ref wd,.ref ln,.int m]) (_:Yb H wd a N) (_:YN N) (_:H ln=some (.lst (NS.map V.str))) (_:NS.length=10) (_:(∀z∈NS,Yc z)) (_:m<998244353) (_:∀p lg k xs H',Zc H H'->H' p=some (.tup [.int (k:Nat),.ref lg])->H lg=none->H' lg=some (.lst xs)->Vb N H' k xs->Q (.ref p) H')
def Zlk(J:Zy K mg t):Zp P w K mg base Zv 6 t.kS t.kT ["_law_world_here","_law_names","_law_mixed_here"] Zlj:=by
 erw[J.ZaZ.F.ok WT () λn1 A outer s H vs w0 o1 hr h=>?_];ext⟨wd,ln,a,N,NS,m,rfl,hW,ok,n0,l0,e1,hm,q⟩ h;have r0:∀v∈NS.map V.str,∃z,v=.str z/\Yc z:=λv Q=>by
  obtain⟨z,hz,rfl⟩:=SI.mp Q;exact⟨z,R,e1 z hz⟩
 have I:∀(H i:Hp) v,Zc H i->Vk H v->Vk i v:=λH i v s h=>h.same s;have X:∀(H i:Hp) v,Zc H i->(∃b,WE H v b)->∃b,WE i v b:=λH i v s ⟨b,h⟩=>⟨b,h.same s⟩;have E:∀(H i:Hp) v,Zc H i->(∃o,XU H v o/\∀D,o=some D->D.length<=10)->∃o,XU i v o/\∀D,o=some D->D.length<=10:=λH i v s ⟨b,h,l⟩=>⟨b,h.same s,l⟩;erw[⟨_,(Zg (ZA 3 WT.nd (Zr ZJ (ZI (ZM Za (ZM Za (ZM Za (ZM Za (ZM Za (J0 Za Za Za Za Za Za Za))))))) (Zl ZQ (pv 2) Za))) (Zg (ZA 4 WT.nd (Zr ZJ (pv 1) (Zl ZQ (Zl Y5 (pv 2) Za) Za))) (Zg (ZA 5 WT.nd (Zl Y5 (pv 2) Za)) (Zg (ZA 6 WT.nd (Zr ZJ (ZI (ZM Zs (ZM Zs (ZM Zs (J0 UP Za (ZI (Zh Zs)) Zs Zs YY Uz))))) (Zl ZQ (pv 5) Za))) (Zg (ZA 7 WT.nd (Zr ZJ (ZI (ZM UP (J0 YY Zs (yW yX Za) Za (ZI (Zh Za)) YY (YH YG)))) (Zl ZQ (Zl Y5 (pv 5) Za) Za))) (Zg (ZA 8 WT.nd (Zl ZQ (Zl Y5 (pv 5) Za) Za)) (Qm (ZC (ZZ Ye (pv 3) Za) (Zf (ZA 9 WT.nd (ZI (Z5 (pv 4) (Zl YZ Za (Zl ZQ (pv 5) Za)) (Zl ZQ (Zl Y5 (pv 5) Za) Za))))) (Zf (ZC (ZZ Ye (pv 3) Za) (Zf (ZA 9 WT.nd (ZI (Z5 (pv 4) (Zr ZJ (pv 1) (Zl ZQ (pv 5) Za)) (Zl YZ Za (Zl ZQ (Zl Y5 (pv 5) Za) Za)))))) (Zf (ZC (ZZ Ye (pv 3) Za) (Zf (ZA 9 WT.nd (ZI (Zq (pv 4) (ZD J.U4 (ZkO J 3) hr Zu (Zq (Zl Y5 (pv 5) Za) Za)))))) (Zf (ZC (ZZ Ye (pv 3) Za) (Zg (ZA 10 WT.nd (ZI (ZM (ZI (Zh Za)) (ZM (ZI (Zq Za Za)) (ZM (ZI (Z5 Za Za Za)) (ZM (ZI (uX Za Za Za Za Za Za)) (ZM (ZI (Zh Za)) (ZM (ZI YG) (J0 (ZI (Zq Za Za)) (ZI (Zq Za Za)) (ZI (Zh Za)) (ZI (Zh Za)) (YH (Zq Za Za)) (ZI (Zh YY)) UP))))))))) (Zf (ZA 9 WT.nd (ZI (X1 (pv 4) (Zl ZQ (pv 5) Za) (Zl YZ Za (Zl ZQ (Zl Y5 (pv 5) Za) Za)) (Zr ZJ (pv 10) (Zl ZQ (Zl Y5 (pv 5) Za) Za))))))) (Zg (ZA 11 WT.nd (Z2 (VJ R) R J.YU YT (Zh (Yu hr (pv 0) Zs)))) (Zg (ZA 9 WT.nd (ZI (Z5 (pv 4) (Zr ZJ (Zl XX (Z2 (VJ R) R J.YU YT (Zh (Yu hr (pv 0) Zs))) (pv 1)) (Zl ZQ (pv 5) Za)) (ZI YG)))) (Zg (ZC (ZZ F6 (ZN VA J.XR XM (Zh (pv 11))) Za) (Zf (Zw (YH (Zq Za (ZI (Z5 (pv 4) (Zl YZ Za (Zl ZQ (pv 5) Za)) (Zl ZQ (Zl Y5 (pv 5) Za) Za))))))) ZK) (Zf (K0 (ZD J.TD (Zb2 J) hr Zu (Z5 (pv 5) (pv 11) (Zl YZ Za (Zl ZQ (Zl Y5 (pv 5) Za) Za)))) (yQ (pv 9) Za xY))))))))))))) (Zg (ZC (PW.pt (W1 (ZZ F6 (pv 8) Za) (W0 (ZZ F6 (pv 8) (Zl Q6 (ZN VA J.XR XM (Zh (pv 9))) (Z2 XI R J.Xv Xu (Zh (Y7 Ye (pv 3) Za (Xq _))))))))) (Zg (ZA 12 WT.nd (MF (Y7 Ye (pv 8) Za (Xq _)) (X6 (WI (Y7 Ye (pv 8) Za (Xq _)) (X6 (Y7 G2 (pv 3) (YH (Zq Za Za)) R)))))) (Zf (K0 (Zr ZJ (ZI (Zq (pv 7) (pv 6))) (Z2 XI R J.Xv Xu (Zh (pv 12)))) (yQ (pv 9) (pv 8) xY)))) ZK) (Zf (Zw (YH (Zq (pv 3) (pv 9))))))))))))),?_⟩];erw[⟨zL9 R,λp1 g1=>?_⟩];obtain⟨k,ek,k4⟩:=Zlh (ns:=[0,0,0,0,1,1,2,2,3,4,4,2]) (d:=(m:Int)%12) (B:=4) () (by show _<(12:Int);lia) R;erw[⟨_,R,_,_,R,R,(),p1,_,_,_,R,R,Ze.of Zj,ek,?_⟩];clear ek;generalize y:Zb H p1 _=H1;have s1:=Z0 g1 y;clear y g1;obtain⟨_,en,z,rfl,b1⟩:=VG (p:=λv=>∃z,v=V.str z/\Yc z) (xs:=NS.map V.str) (d:=(m:Int)/12%10) r0 () (by rw[Sv,l0];lia);erw[⟨_,R,_,R,_,_,R,R,⟨(),()⟩,_,_,R,R,(),ln,_,_,_,R,R,Ze.of (s1 _ _ n0),en,?_⟩];clear en;erw[⟨_,R,_,_,R,R,⟨(),()⟩,?_⟩];dsimp only;rw[show(m:Int)/120=((m/120:Nat):Int) by lia];have hm:=(show m/120<10000000 by lia);generalize m/120=u at hm;dsimp only[YK,Yj,QF,kx,ky];erw[yE (n:=10) (d:=(u:Int)%10) (Pr:=Vk) (Yw I ?_ (Yw I ?_ (Yw I ?_ (Yw I ?_ (Yw I ?_ (Yw I ?_ (Yw I ?_ (Yw I ?_ (Yw I ?_ (Yw I ?_ Ms)))))))))) I () (λ_ _ h=>⟨_,R,_,_,R,R,(),h⟩) () () H1 _ λvn H2 s2 L=>?_]
 all_goals first|exact Vt λ_=>QS _ ()|exact Vt λ_=>ZjS|exact Vt λ_=>ZjR _|exact Vt λ_=>ZjT _|exact Mu () (λ_ _ h=>ZbU (.lst h)) (λ_ _ h=>h)|exact Zct (λ_ _ h=>ZbU (.dK h))|skip
 erw[yE (n:=8) (d:=(u:Int)/10%8) (Pr:=λH v=>∃b,WE H v b) (Yw X ?_ (Yw X ?_ (Yw X ?_ (Yw X ?_ (Yw X ?_ (Yw X ?_ (Yw X ?_ (Yw X ?_ Ms)))))))) X () (λ_ _ h=>⟨_,R,_,_,R,R,⟨(),()⟩,_,_,R,R,(),h⟩) () () H2 _ λvo H3 s3 c0=>?_]
 all_goals first|exact Vt λ_=>⟨_,.five⟩|exact Vt λ_=>⟨_,.non⟩|exact Vt λ_=>⟨_,.int _⟩|exact Vt λ_=>⟨_,.bl _⟩|exact Mu () (λ_ _ h=>⟨_,.lst h⟩) (λ_ _ h=>h)|exact yD () (λ_ _ h=>⟨_,.tup h⟩) (λ_ _ h=>h)|exact λH w0 k=>⟨_,R,k _ H (Zc.refl H) ⟨_,.int _⟩⟩|skip
 erw[⟨_,R,_,_,R,R,⟨(),()⟩,_,_,R,R,(),?_⟩];rw[show(u:Int)/80%9=((u/80%9:Nat):Int) by lia];generalize u/80%9=G;have Y:=(s1.trans s2).trans s3;have L:=L.same s3;clear s2 s3;have b0:∀H,Vk H (.str z):=λH=>QS z (Sh b1.2.1 ());erw[⟨λσ i=>∃(c:Addr) (xs:List V) (k0 i0:Option V),Zc H3 i/\H3 c=none/\i c=some (.lst xs)/\Vb N (wo i c) k xs/\σ=[some (.ref wd),some (.ref ln),some (.int m),some (.int k),some (.str z),some (.int u),some vn,some vo,some (.int G),some (.ref c),k0,i0,none],?_,?_⟩];erw[⟨_,R,R,_,R,Xs (λh=>?_) (λh0=>?_)⟩];obtain rfl:k=0:=by have:=V.int.inj (SS h);lia
 erw[⟨_,R,_,R,_,_,R,R,(),_,_,R,R,_,R,_,_,R,R,⟨(),()⟩,_,_,R,R,(),zL9 R,λc x=>?_⟩];exact⟨c,_,_,_,Zt x _,x,Zj,.s0 (b0 _) (.int _) (.int _),R⟩;erw[⟨_,R,R,_,R,Xs (λh=>?_) (λg=>?_)⟩];obtain rfl:k=1:=by have:=V.int.inj (SS h);lia
 obtain⟨_,en,j0,rfl,q0⟩:=VG (p:=λv=>∃z,v=V.str z/\Yc z) (xs:=NS.map V.str) (d:=(u:Int)%10) r0 () (by rw[Sv,l0];lia);erw[⟨_,R,_,R,_,R,_,_,R,R,(),ln,_,_,_,R,R,Ze.of (Y _ _ n0),en,_,R,_,_,R,R,⟨(),()⟩,_,_,R,R,(),_,_,R,R,zL9 R,λc x=>?_⟩];exact⟨c,_,_,_,Zt x _,x,Zj,.s1 (b0 _) (QS j0 (Sh q0.2.1 ())) (.int _),R⟩;erw[⟨_,R,R,_,R,Xs (λh=>?_) (λf=>?_)⟩];obtain rfl:k=2:=by have:=V.int.inj (SS h);lia
 ext⟨l1,f1,_⟩ hW.ob;erw[⟨_,R,_,R,_,_,R,R,⟨(),()⟩,u/3,2,congrArg (λm0=>[V.int m0,V.int 2]) (show(u:Int)/3=((u/3:Nat):Int) by lia),(),(),(),λr v C s4 g1 g2 g3 g4=>?_⟩];erw[⟨zL9 R,λc x=>?_⟩];have g2:r.weight+1<=8:=g2;exact⟨c,_,_,_,s4.trans (Zt x _),s4.free x,Zj,.s2 (o:=some r) (b0 _) (VS.same (KO (Zt x _) x) ⟨⟨wd,g4 wd (by rw[Y _ _ f1];exact ())⟩,g1,(),()⟩),R⟩;erw[⟨_,R,R,_,R,Xs (λh=>?_) (λj=>?_)⟩];obtain rfl:k=3:=by have:=V.int.inj (SS h);lia
 dsimp only[Yj,QF,UU];erw[(Yw E ?_ (Yw E ?_ (Yw E ?_ (Yw E ?_ (Yw E ?_ (Yw E ?_ (Yw E ?_ (Yw E ?_ (Yw E ?_ (Yw E ?_ (Yw E ?_ (Yw E ?_ (Yw E ?_ Ms))))))))))))) H3 _ λvs C s4 u0 hz=>⟨by rw[u0];lia,λp4 g4=>?_⟩]
 all_goals first|exact Vt λ_=>⟨none,⟨_,.non,()⟩,()⟩|exact Mu () (λ_ p h=>⟨some _,⟨p,R,h,Zcu R⟩,λ_ z=>by cases z;lia⟩) (λ_ _ h=>h)|exact yD () (λ_ _ h=>⟨none,⟨_,.tup h,()⟩,()⟩) (λ_ _ h=>h)|skip
 obtain⟨v,ev,o,Q,y0⟩:=VG (p:=λv=>∃o,XU C v o/\∀D,o=some D->D.length<=10) (d:=(u:Int)/3%13) hz () (by rw[u0];lia);have s5:=Zt g4 (.lst vs);erw[⟨_,R,_,R,_,_,R,R,(),_,R,_,_,R,R,⟨(),()⟩,_,_,R,R,(),_,_,R,R,_,R,_,R,_,_,R,R,⟨(),()⟩,_,_,R,R,(),p4,_,_,_,R,R,Ze.of Zj,ev,zL9 R,λc x=>?_⟩];exact⟨c,_,_,_,(s4.trans s5).trans (Zt x _),(s4.trans s5).free x,Zj,.s3 (b0 _) (.int _) (.int _) (XU.same (s5.trans (KO (Zt x _) x)) Q) y0,R⟩;obtain rfl:k=4:=by
  have a0:k≠0:=λz=>h0 (by rw[z];rfl);have a1:k≠1:=λz=>g (by rw[z];rfl);have a2:k≠2:=λz=>f (by rw[z];rfl);have a3:k≠3:=λz=>j (by rw[z];rfl);lia
 ext⟨rows,d1,d2⟩ hW.st;ext⟨rr,r1,r2⟩ hW.ru;erw[⟨_,R,wd,_,R,(hW.same Y).gS,a.ds,rows,R,Y _ _ d1,λls gs=>?_⟩];rw[VR (λkv e0 (h:Yo H kv e0)=>h.1) d2];exists H3,ls,C,s4,gs,c4;have S4:=Y.trans s4;erw[⟨_,R,_,R,wd,_,R,(hW.same S4).gR,a.dr,rr,R,S4 _ _ r1,λlr gr=>?_⟩];rw[VR (λkv e0 (h:Xb H kv e0)=>h.1) r2];exists C,lr,H5,s5,gr,c5;have S5:=S4.trans s5;have j1:((N.ru.map Xm.nm).map V.str).length<=6:=by rw[Sv,Sv];exact ok.r6
 have ln10:(NS.map V.str).length=10:=by rw[Sv,l0]
 erw[⟨_,R,lr,ln,_,_,R,R,c5,S5 _ _ n0,Sh (show _<=16 by lia) (),λlc gc=>?_⟩];exists H5,lc,H6,s6,gc,c6;obtain⟨_,ev,j0,rfl,q0⟩:=VG (p:=λv=>∃z,v=V.str z/\Yc z) (xs:=(N.ru.map Xm.nm).map V.str++NS.map V.str) (d:=(u:Int)%6) (λv Q=>by
  rcases SF.mp Q with Q|Q;obtain⟨z,hz,rfl⟩:=SI.mp Q;obtain⟨e0,hx,rfl⟩:=SI.mp hz;exact⟨_,R,(ok.ro e0 hx).1⟩;exact r0 v Q) () (by rw[Su];lia)
 erw[⟨_,R,_,_,R,R,(),lc,_,_,_,R,R,Ze.of c6,ev,zL9 R,λle ge=>⟨zL9 R,λc x=>?_⟩⟩];have s7:=Zt ge (.lst []);generalize Zb H6 le (.lst [])=H7 at s7 x ⊢;exists H7,c,H8,s8,x,c8;have x0:=(s6.trans s7).trans s8;have o0:=s5.trans x0;have t0:=s4.trans o0;have n3:H3 c=none:=(s4.trans ((s5.trans s6).trans s7)).free x;have i1:∀H,Vk H (.str j0):=λH=>QS j0 (Sh q0.2.1 ());have ll:((N.st.map Yg.nm).map V.str).length=(N.st.map Yg.nm).length:=Sv ..;have z0:(N.st.map Yg.nm).length<=8:=by rw[Sv];exact ok.s8
 erw[⟨_,R,ls,_,R,.inl (Ze.of (o0 _ _ c4)),_,_,R,R,_,R,Xs (λh=>?_) (λh=>?_)⟩];erw[⟨_,R,_,R,_,_,R,R,(),_,_,R,R,_,R,_,_,R,R,⟨(),()⟩,_,_,R,R,(),zL9 R,λl9 g9=>⟨zL9 R,λp9 k9=>?_⟩⟩];have t9:=Zt k9 (.tup [.int 0,.ref l9]);have u9:=Zt g9 (.lst [.str z,.int (1+(u:Int)%6),.int ((u:Int)/6%31)]);exact q p9 l9 0 _ _ (((Y.trans t0).trans u9).trans t9) Zj ((Y.trans t0).free g9) (t9 _ _ Zj) (.s0 (b0 _) (.int _) (.int _));have f:2<=(N.st.map Yg.nm).length:=by
  have:=SU (Oh.mpr h);lia
 erw[⟨_,R,_,R,_,R,_,_,R,R,⟨(),()⟩,_,_,R,R,(),_,_,R,R,u,2+u/5%3,ls,N.st.map Yg.nm,congrArg (λm0=>[V.int u,.ref ls,.int m0]) (show(2:Int)+(u:Int)/5%3=((2+u/5%3:Nat):Int) by lia),o0 _ _ c4,ok.sn,f,z0,(),λcs l us H9 U nl hl al oc m1=>?_⟩];have c9:=U _ _ c8;erw[⟨_,R,c,_,2,2,R,R,c9,R,?_⟩];have v0:l≠c:=λz=>by rw[z,c8]at nl;cases nl
 exact⟨c,_,_,_,Vm (t0.trans U) n3 _,n3,Zj,.s4 (b0 _) (i1 _) (Z4 (by rw[Zm v0];exact hl) v0) (al.imp λ_ _ ⟨p,e,Z⟩=>⟨p,e,Z4 (by rwa[Zm (Yr Z c9 ())]) (Yr Z c9 ())⟩) oc () (),R⟩;rintro σ C ⟨c,xs,k0,i0,s4,n4,f0,S,rfl⟩;have S4:=Y.trans s4;have L:=L.same (KO s4 n4);ext⟨bo,c0⟩ c0;have c0:=c0.same (KO s4 n4);have nH:H c=none:=Y.free n4;have S5:Zc H (wo C c):=KO S4 nH;erw[Sq2 ?_];intro d0 u2 u1 s0;have g0:∀(D:List V) (i:Hp) (w12:Option V),Zc (wo C c) i->i c=some (.lst D)->Vb N (wo C c) k D->u2 [some (.ref wd),some (.ref ln),some (.int m),some (.int k),some (.str z),some (.int u),some vn,some vo,some (.int G),some (.ref c),k0,i0,w12] i:=λD i w12 s' h' S=>⟨_,R,_,R,zL9 R,λp Z=>by
  have U:=Zt Z (.tup [.int k,.ref c]);exact q p c k D _ ((S5.trans s').trans U) Zj nH (U _ _ h') (S.same (s'.trans U))⟩
 have off:Zc (wo C c) C:=λa o e=>(UA e).2;erw[⟨_,R,_,_,R,R,_,R,?_⟩];by_cases c1:G<3
 rotate_left
 exact Zi (by rw[SR ()];lia) (Zi () (g0 xs C _ off f0 S));erw[Zo (SQ ()) ⟨_,R,_,R,c,_,R,.inl (Ze.of f0),_,R,R,_,R,_,_,R,R,_,_,R,R,_,R,?_⟩];have e4:decide (V.int k=V.int 4)=decide (k=4):=decide_eq_decide.mpr ⟨λz=>by injection z with z;lia,λz=>by rw[z];rfl⟩;rw[e4];by_cases c2:G+(if k=4 then 1 else 0)<xs.length
 rotate_left
 erw[Zi (λz=>c2 ?_) (g0 xs C _ off f0 S)];have z:=SS z;by_cases T:k=4;rw[SW T];rw[SQ T,SW R]at z;lia;rw[SV T];rw[SR T,SV SO]at z;lia;erw[Zo (SQ ?_) ?_];by_cases T:k=4;rw[SW T]at c2;rw[SQ T,SW R];lia;rw[SV T]at c2;rw[SR T,SV SO];lia;have lx:G<xs.length:=by split at c2<;>omega
 erw[Sq2 ?_];intro d1 w2 w1 k1;have put:∀(b:Bool) (i:Hp),Zc C i->Vb N (wo C c) k (xs.set G (if b=true then vn else vo))->w2 [some (.ref wd),some (.ref ln),some (.int m),some (.int k),some (.str z),some (.int u),some vn,some vo,some (.int G),some (.ref c),k0,i0,some (.bl b)] i:=λb i s' S=>by
  erw[⟨_,R,_,R,zL9 R,λp Z=>?_⟩];have U:=Zt Z (.lst [vo,vn]);erw[⟨_,R,b,R,p,_,_,(if b=true then vn else vo),R,R,Ze.of Zj,by cases b<;>rfl,_,R,_,R,c,_,G,G,R,R,U _ _ (s' _ _ f0),by unfold Qg;rw[SW (),SW ()];rfl,?_⟩];exact g0 _ _ _ (WD (s'.trans U)) Zj S
 clear g0;erw[⟨_,R,R,_,R,?_⟩];by_cases p0:G=0;subst p0;erw[Zo R (put true C (Zc.refl _) ?_)];cases S with
 |s0 g f j=>exact .s0 L f j
 |s1 g f j=>exact .s1 L f j
 |s2 g f=>exact .s2 L f
 |s3 g f j M O=>exact .s3 L f j M O
 |s4 g f j M O h6 h7=>exact .s4 L f j M O h6 h7
 erw[Zi (by rw[SR (λz=>p0 (by injection z with z;lia))];lia) ⟨_,R,R,_,R,?_⟩];ext⟨To,ko,_⟩ c0.kd;by_cases p1:G=1;subst p1;erw[Zo R ⟨_,R,zL9 R,λpt gt=>⟨pt,_,R,.inr (Zk.of Zj),R,R,put _ _ (Zt gt _) ?_⟩⟩];cases S with
 |s0 g f j=>exact .s0 g ko j
 |s1 g f j=>exact .s1 g L j
 |s2 g f=>exact .s2 (o:=none) g ⟨_,c0⟩
 |s3 g f j M O=>exact .s3 g ko j M O
 |s4 g f j M O h6 h7=>exact .s4 g L j M O h6 h7
 obtain rfl:G=2:=by lia
 erw[Zi () (put false C (Zc.refl _) ?_)];cases S with
 |s0 g f j=>exact .s0 g f ko
 |s1 g f j=>exact .s1 g f ko
 |s2 g f=>exact Os lx (by show ¬ 2<2;lia)
 |s3 g f j M O=>exact .s3 g f ko M O
 |s4 g f j M O h6 h7=>exact Os c2 (by show ¬ 2+1<3;lia)
structure Yz where
 n:Addr
 a:NA
 wd:Addr
 b:NA
def NA.l(a:NA):List Addr:=[a.ds,a.lw,a.dr,a.dt,a.dp]
def Yz.own(s:Yz):List Addr:=s.a.l++(s.wd::s.b.l)
structure Y2(t:Ya)(H:Hp)(s:Yz)(N:ZH):Prop where
 no:Z3 t H s.n s.a N
 wr:Yb H s.wd s.b N
 nw:D4 s.wd s.b
 ok:YN N
 ap:∀x∈s.a.l,x∉s.wd::s.b.l
def Yh(H c:Hp):Prop:=∀x o,H x=some o->c x=some o\/(∃k g,o=.dK k/\c x=some (.dK g))\/(∃d f,o=.lst d/\¬ NW H d/\c x=some (.lst f))\/∃p h,o=.tbl p/\c x=some (.tbl h)
def Yh.of(s:Zc H c):Yh H c:=λx o e=>.inl (s x o e)
def Yh.stay(k:Yh H c):∀b o,H b=some o->KJ H o->c b=some o:=λb o e st=>by
 rcases k b o e with h|⟨_,_,rfl,_⟩|⟨_,_,rfl,h,_⟩|⟨_,_,rfl,_⟩;exact h;exact st.elim;exact Os st h;exact st.elim
def Yh.nw(k:Yh H c)(h:NW H xs):NW c xs:=by
 ext⟨x,d,h⟩ h;erw[⟨x,d,h.imp id λ⟨p,f,e,g,n⟩=>⟨p,f,e,k.stay _ _ g trivial,n⟩⟩]
def Yh.trans(k:Yh H c)(k2:Yh c d):Yh H d:=λx o e=>by
 rcases k x o e with h|⟨a,b,rfl,h⟩|⟨a,b,rfl,n,h⟩|⟨a,b,rfl,h⟩;rcases k2 x o h with g|⟨a,b,rfl,g⟩|⟨a,b,rfl,n,g⟩|⟨a,b,rfl,g⟩;exact .inl g;exact .inr (.inl ⟨_,_,R,g⟩);exact .inr (.inr (.inl ⟨_,_,R,λz=>n (k.nw z),g⟩));exact .inr (.inr (.inr ⟨_,_,R,g⟩));rcases k2 x _ h with h|⟨a,b,e,h⟩|⟨a,b,e,n,h⟩|⟨a,b,e,h⟩;exact .inr (.inl ⟨_,_,R,h⟩);exact .inr (.inl ⟨_,_,R,h⟩);cases e;cases e;rcases k2 x _ h with h|⟨a,b,e,h⟩|⟨a,b,e,_,h⟩|⟨a,b,e,h⟩;exact .inr (.inr (.inl ⟨_,_,R,n,h⟩));cases e;exact .inr (.inr (.inl ⟨_,_,R,n,h⟩));cases e;rcases k2 x _ h with h|⟨a,b,e,h⟩|⟨a,b,e,n,h⟩|⟨a,b,e,h⟩;exact .inr (.inr (.inr ⟨_,_,R,h⟩));cases e;cases e;exact .inr (.inr (.inr ⟨_,_,R,h⟩))
def Y3(k:Yh H c)(h:Kd H v T):Kd c v T:=by
 cases h with
 |non=>exact .non
 |bl b=>exact .bl b
 |int i=>exact .int i
 |str z=>exact .str z
 |lst e =>
  rcases k _ _ e with h|⟨a,b,z,h⟩|⟨a,b,z,n,h⟩|⟨a,b,z,h⟩;exact .lst h;cases z;exact .lst h;cases z
 |tup e=>exact .tup (k.stay _ _ e trivial)
 |dK e =>
  rcases k _ _ e with h|⟨a,b,z,h⟩|⟨a,b,z,n,h⟩|⟨a,b,z,h⟩;exact .dK h;exact .dK h;cases z;cases z
def Vk.kin(k:Yh H c)(h:Vk H v):Vk c v:=let ⟨⟨T,k'⟩,l⟩:=h;⟨⟨T,Y3 k k'⟩,l⟩
def YA(M:OH)(H c:Hp):Prop:=∀x o,H x=some o->x∉M->c x=some o
def YA.of(s:Zc H c):YA M H c:=λx o e _=>s x o e
def YA.trans(h:YA M H d)(g:YA M d c):YA M H c:=λx o e n=>g x o (h x o e n) n
def YA.wout(s:Zc (wo H d) c)(hd:d∈M):YA M H c:=λx o e n=>s x o (Z4 e λz=>n (z ▸ hd))
def Zcv(s:Zc (wo H d) f)(h:H d=some (.tbl p))(h':f d=some (.tbl g)):Yh H f:=λx o e=>by
 by_cases c:x=d;subst c;rw[h]at e;cases e;exact .inr (.inr (.inr ⟨_,_,R,h'⟩));exact .inl (s x o (Z4 e c))
def QB(s:Zc (wo H d) f)(h:H d=some (.dK p))(h':f d=some (.dK g)):Yh H f:=λx o e=>by
 by_cases c:x=d;subst c;rw[h]at e;cases e;exact .inr (.inl ⟨_,_,R,h'⟩);exact .inl (s x o (Z4 e c))
def yF(s:Zc (wo H d) f)(h:H d=some (.lst p))(nw:¬ NW H p)(h':f d=some (.lst g)):Yh H f:=λx o e=>by
 by_cases c:x=d;subst c;rw[h]at e;cases e;exact .inr (.inr (.inl ⟨_,_,R,nw,h'⟩));exact .inl (s x o (Z4 e c))
def Z3.kin{a:NA}(h:Z3 t H n a N)(k:Yh H c)(o:∀x u,H x=some u->x∈a.l->c x=some u):Z3 t c n a N:=Z3.keep (QA k.stay) o h
def Yb.kin{a:NA}(h:Yb H n a N)(ok:YN N)(k:Yh H c)(o:∀x u,H x=some u->x∈n::a.l->c x=some u):Yb c n a N:=Yb.keep k.stay ok o h
inductive Ko(H:Hp)(x:Addr):Prop
 |lst {xs:List V} (e:H x=some (.lst xs)):Ko H x
 |dK {kvs:List (ZF×V)} (e:H x=some (.dK kvs)):Ko H x
def Ko.same(h:Ko H x)(s:Zc H c):Ko c x:=by
 cases h with
 |lst e=>exact .lst (s _ _ e)
 |dK e=>exact .dK (s _ _ e)
def Z3.kd{a:NA}(h:Z3 t H n a N)(c:x∈a.l):Ko H x:=by
 ext⟨B,d,_⟩ h.st;ext⟨y,i,_⟩ h.wk;ext⟨v,g,_⟩ h.ru;ext⟨u,f,_⟩ h.tk;ext⟨C,j,_⟩ h.tp;simp only[NA.l,SE,List.not_mem_nil,or_false]at c;rcases c with rfl|rfl|rfl|rfl|rfl;exact .dK d;exact .lst i;exact .dK g;exact .dK f;exact .dK j
def Yb.kd{a:NA}(h:Yb H n a N)(c:x∈n::a.l):Ko H x:=by
 ext⟨E,g,_⟩ h.ob;ext⟨C,d,_⟩ h.st;ext⟨B,j,_⟩ h.wk;ext⟨y,i,_⟩ h.ru;ext⟨v,f,_⟩ h.tk;ext⟨D,u,_⟩ h.tp;simp only[NA.l,SE,List.not_mem_nil,or_false]at c;rcases c with rfl|rfl|rfl|rfl|rfl|rfl;exact .dK g;exact .dK d;exact .lst j;exact .dK i;exact .dK f;exact .dK u
def Y2.kd{s:Yz}(h:Y2 t H s N)(c:x∈s.own):Ko H x:=(SF.mp c).elim h.no.kd h.wr.kd
def Y2.kin{s:Yz}(h:Y2 t H s N)(k:Yh H c)(o:∀x u,H x=some u->x∈s.own->c x=some u):Y2 t c s N:=⟨h.no.kin k λx u e m=>o x u e (SF.mpr (.inl m)),h.wr.kin h.ok k λx u e m=>o x u e (SF.mpr (.inr m)),h.nw,h.ok,h.ap⟩
def QC(h:Ko H x)(hd:H d=some (.tbl p)):x≠d:=λz=>by
 subst z;cases h with
 |lst e=>rw[hd]at e;cases e
 |dK e=>rw[hd]at e;cases e
def Vc(k:Ko H x)(n:H y=none):x≠y:=λz=>by
 subst z;cases k with
 |lst e=>rw[n]at e;cases e
 |dK e=>rw[n]at e;cases e
def Zll(k:Ko H x):∃o,H x=some o/\∀ys,o≠.tup ys:=by
 cases k with
 |lst e=>exact⟨_,e,()⟩
 |dK e=>exact⟨_,e,()⟩
def Y2.same{s:Yz}(h:Y2 t H s N)(k:Zc H c):Y2 t c s N:=h.kin (.of k) λx u e _=>k x u e
def Z3.off{a:NA}(h:Z3 t H n a N)(hz:H z=some (.lst xs))(c:z∉a.l):Z3 t (wo H z) n a N:=Z3.keep (λb o e h=>Z4 e (Yr e hz (λz=>by subst z;exact h))) (λx u e m=>Z4 e λz=>c (z ▸ m)) h
def Yh.off(k:Yh H c)(n:H z=none):Yh H (wo c z):=λx o e=>by
 have nx:x≠z:=λq=>by rw[q,n]at e;cases e
 rcases k x o e with h|⟨a,b,r,h⟩|⟨a,b,r,m,h⟩|⟨a,b,r,h⟩;exact .inl (Z4 h nx);exact .inr (.inl ⟨a,b,r,Z4 h nx⟩);exact .inr (.inr (.inl ⟨a,b,r,m,Z4 h nx⟩));exact .inr (.inr (.inr ⟨a,b,r,Z4 h nx⟩))
def YA.off(k:YA M H c)(n:H z=none):YA M H (wo c z):=λx o e m=>Z4 (k x o e m) λq=>by rw[q,n]at e;cases e
def Mv(s:Zc (wo H d) c):Zc (wo (wo H z) d) (wo c z):=λa o e=>let ⟨n,e⟩:=UA e;let ⟨m,e⟩:=UA e;Z4 (s a o (Z4 e n)) m
def E4(h:YI lt q H)(k:Yh H c)(o:∀u,H lt=some u->c lt=some u):YI lt q c:=h.keep (λd e=>o _ e) λa e=>k.stay _ _ e trivial
def Zcw(h:YI lt q H)(hz:H z=some (.lst xs)):YI lt q (wo H z):=h.keep (λc e=>Z4 e (Yr e hz (λz=>nomatch z))) λa e=>Z4 e (Yr e hz (λz=>nomatch z))
def Zlm{L:List (Str×V×Nat)}{cl:Oy}(g:Lv FN cl cs h H)(D:QL (λq:Str×V×Nat=>(q.1,q.2.2)∈FN/\h[q.2.2]? = some (some q.2.1)) L)(nd:(cl.map (·.2)).Nodup)
  (E:(scope.names.all λp=>!(p.2==.cell || p.2==.free) || (cl.lookup p.1).isSome)=true) (B:QL (λx=>scope.names.lookup x=some .free) (L.map (·.1))):ND (L.map (·.1)) scope cl (L.map (·.2.1)) cs:=by
 erw[⟨by rw[Sv,Sv],λi x v u d=>?_,g.cell,λx y c=>uU nd,λx f=>?_,λx f=>JZ B x f,λb o e=>(g.free b o e).2⟩];rw[Oa]at u d;obtain⟨q,j,rfl⟩:=Of.mp u;rw[j]at d;cases d;obtain⟨m,e⟩:=JZ D q (SJ j);exact g.val _ m _ e;have q:∃k,scope.names.lookup x=some k/\(k=.cell\/k=.free):=f.elim (λz=>⟨_,z,.inl R⟩) λz=>⟨_,z,.inr R⟩;ext⟨k,C,I⟩ q;have z:=M8 E C;have G:(cl.lookup x).isSome=true:=by
  rcases I with rfl|rfl;simpa using z;simpa using z
 exact Option.isSome_iff_exists.mp G
def Uv{FN:List (Str×Nat)}{cl:Oy}{lt:Addr}{q:Str}{params:Arguments}{body:Expr}{f0:Pos}{T:St}{Q:VK}{L:List (Str×V×Nat)}{y:XK->TE}(b0:YI lt q H)(X:QL (λq:Str×V×Nat=>(q.1,q.2.2)∈FN/\T[q.2.2]? = some (some q.2.1)) L)(nd:(cl.map (·.2)).Nodup)
  (e0:(scope.names.all λp=>!(p.2==.cell || p.2==.free) || (cl.lookup p.1).isSome)=true) (U:QL (λx=>scope.names.lookup x=some .free) (L.map (·.1))) (g0:scope.isCoroutine=false) (a0:scope.isGenerator=false) (hk:scope.kind=.function) (d0:∀x∈scope.names,x.2≠.cell)
  (hb:∀pm j I,bindArgs (W.kla_fn "<lambda>" q params body scope cl pm (.ref j) I) ⟨[],[]⟩=pure [])
  (Y:∀(f j:Addr) (d:Hp) (A:Around) (outer:List Env) (s:Shared) (E:XK),Yn 49 (A.deeper (W.envX q scope s.heap.objs.size f (.ref j) cl))->PE (B7 (YC P w) P w K mg base (L.map (·.1)) q scope cl f (.ref j) A outer s d E) body (y E))
  (h:∀d,Zc (wo H lt) d->YI lt q d->∃(told:Hp->Prop) (ref:Wn->Hp->Prop),(∀(J:VK) (D:XK),(∀c,told c->J .non c)->(∀(wd:Wn) c,ref wd c->D (.ref (wd.cls t)) none c)->y D ((L.map (·.2.1)).map some) d J)/\(∀c i p,told c->Zc c i->i p=some (.tup [.str (OK "told"),.non])->Q (.ref p) i)/\∀(wd:Wn) c i,ref wd c->Zc c i->Q (.str wd.txt) i) :
  NF (Zci t P w K mg base) FN cl (Lq lt mg q params body scope cl f0) T H Q:=by
 dsimp only[NF];erw[Zgu b0 ?_];intro f j I d s2 c0 B C cs M;have G:∀b o,cs b=some o->d b=none:=λb o e=>(M.free b o e).1;have S:∀{a o},d a=some o->cs a=none:=λ{a o} e=>by
  cases z:cs a with
  |none=>rfl
  |some ob=>rw[G a ob z]at e;cases e
 obtain⟨told,ref,h0,h1,h2⟩:=h d s2 c0;have calls:=Zgj (P:=P) (w:=w) (K:=K) (mg:=mg) (base:=base) (k:=49) (H:=lent cs d) (by rwa[XA (S B)]) (by rwa[XA (S C)]) g0 a0 hk d0 (hb _ _ _) (Zlm M X nd e0 U) (λb o e=>B6 e) (λA outer s E hr=>Y f j _ A outer s E hr);rw[Zgv G]at calls;erw[⟨f,_,λv u=>∃c,u=lent cs c/\(∀b o,cs b=some o->c b=none)/\v=.non/\told c,λwd u=>∃c,u=lent cs c/\(∀b o,cs b=some o->c b=none)/\ref wd c,R,calls,λQ1 E1 a1 a2=>h0 _ _ (λc h g=>a1 _ _ ⟨c,R,g,R,h⟩) λwd c h g=>a2 wd _ ⟨c,R,g,h⟩,?_,?_⟩];rintro v u Z p ⟨c,rfl,g,rfl,h⟩ s3 O;have cp:cs p=none:=by
  cases z:cs p with
  |none=>rfl
  |some o=>have:=s3 p _ (B6 z);rw[O]at this;cases this
 exact h1 c _ p h (uT g s3) (by rwa[W6 cp]);rintro wd u Z ⟨c,rfl,g,h⟩ s3;exact h2 _ c _ h (uT g s3)
def Zcx(h:H p=some (.tup [.str (OK "told"),.non])):DV K H (.ref p) (.tuple [.str (OK "told"),.none]):=.tup (Zk.of h) (.cons (.str _ ()) (.cons .non .nil))
def Mw{c:Type}{nm:c->Str}{xs:List c}{x:c}(nd:(xs.map nm).Nodup)(h:Yv nm xs (.str (nm x))=false):((xs++[x]).map nm).Nodup:=by
 rw[SK];erw[List.nodup_append.mpr ⟨nd,List.Pairwise.cons () .nil,λa ha b d e=>?_⟩];obtain rfl:=SD.mp d;subst e;rw[D2 ha]at h;cases h
def KP{c:Type}{p:c->Prop}{xs:List c}{x:c}(h:∀y∈xs,p y)(f:p x):∀y∈xs++[x],p y:=λy d=>(SF.mp d).elim (h y) λe=>SD.mp e ▸ f
def Mx(h:Y1 v=true):v=.str (XC v)/\Yc (XC v):=by
 obtain⟨z,rfl,c⟩:=Vr h;exact⟨R,ZjU c⟩
def My(h:(!b)=true):b=false:=by cases b;rfl;cases h
def KQ{c:Type}{xs:List c}{x:c}{n:Nat}(h:decide (xs.length<n)=true):(xs++[x]).length<=n:=by rw[Su];exact SS h
theorem YN.addS(ok:YN N)(h:U5 N g f d=none):YN (addS N g f d):=by
 obtain⟨u,h⟩:=Xl h;obtain⟨c,h⟩:=Xl h;obtain⟨x,h⟩:=Xl h;obtain⟨v,h⟩:=Xl h;obtain⟨i,h⟩:=Xl h;obtain⟨e,j⟩:=Mx u;exact{ok with s8:=KQ i,sn:=Mw ok.sn (by rw[e]at c;exact My c),so:=KP ok.so j}
theorem YN.addW(ok:YN N)(h:QU N f c d=none):YN (addW N f c d):=by
 obtain⟨u,h⟩:=Xl h;obtain⟨i,h⟩:=Xl h;obtain⟨C,h⟩:=Xl h;obtain⟨B,h⟩:=Xl h;obtain⟨g,h⟩:=Xl h;obtain⟨x,_,rfl,j⟩:=WC u;obtain⟨y,_,rfl,v⟩:=WC i;exact{ok with w12:=KQ g,wo:=KP ok.wo ⟨by have:=XD j;show Yc x;rw[<-this.2];exact ok.so _ this.1,by have:=XD v;show Yc y;rw[<-this.2];exact ok.so _ this.1⟩}
theorem YN.addR(ok:YN N)(h:U6 N d o=none)(u:∀r,o=some r->R3.Ok r):YN (addR N d o):=by
 obtain⟨i,h⟩:=Xl h;obtain⟨c,h⟩:=Xl h;obtain⟨j,h⟩:=Xl h;obtain⟨f,h⟩:=Xl h;obtain⟨e,g⟩:=Mx i;obtain⟨r,rfl⟩:=Option.isSome_iff_exists.mp j;exact{ok with r6:=KQ f,rn:=Mw ok.rn (by rw[e]at c;exact My c),ro:=KP ok.ro ⟨g,u r R⟩}
theorem YN.addK(ok:YN N)(h:QV N i f lv o=none):YN (addK N i f lv o):=by
 obtain⟨B,h⟩:=Xl h;obtain⟨g,h⟩:=Xl h;obtain⟨D,h⟩:=Xl h;obtain⟨x,h⟩:=Xl h;obtain⟨c,h⟩:=Xl h;obtain⟨C,h⟩:=Xl h;obtain⟨e,u⟩:=Mx B;cases o with
 |none=>cases c
 |some d =>
 have c:(decide (1<=d.length/\(d.length:Int)<=6) && XS 1 6 d)=true:=c;rw[Bool.and_eq_true]at c;obtain⟨_,j,v⟩:=Mo d 1 6 () c.2;have l:=SS c.1;have G:=(Vs D ()).2;have E:=(Vs x ()).2;exact{ok with t3:=KQ C,tn:=Mw ok.tn (by rw[e]at g;exact My g),to:=KP ok.to ⟨u,by show YJ f<=10000;lia,by show 1<=YJ lv;lia,by show YJ lv<=1440;lia,by show 1<=(d.map YJ).length;rw[Sv];lia,by show(d.map YJ).length<=6;rw[Sv];lia,j,λz y=>by have:=v z y;lia⟩}
theorem YN.addT{N:ZH}{cs:List Cl}(ok:YN N)(h:QW N g f=none)(j:Uq (N.st.map Yg.nm) cs)(E:2<=cs.length)(B:cs.length<=6):YN (addT N g f cs):=by
 obtain⟨C,h⟩:=Xl h;obtain⟨d,h⟩:=Xl h;obtain⟨D,h⟩:=Xl h;obtain⟨u,h⟩:=Xl h;obtain⟨e,i⟩:=Mx C;obtain⟨y,x,rfl,H⟩:=WC D;refine{ok with p10:=KQ u,pn:=Mw ok.pn (by rw[e]at d;exact My d),po:=KP ok.po ⟨i,by have:=XD H;show Yc y;rw[<-this.2];exact(ok.ro _ this.1).1,E,B,λc v=>?_⟩};obtain⟨s,G,e⟩:=SI.mp (j.st c v);rw[<-e];exact ok.so s G
structure WN(H:Hp)(N N':ZH)(k:Nat)(xs:List V):Prop where
 st:∃r,N'.st=N.st++r
 ru:∃r,N'.ru=N.ru++r
 s0:∀nv zv cv,k=0->xs=[nv,zv,cv]->Y1 nv=true->Yq zv 1 6=true->Yq cv 0 30=true->N'.st.length=8\/XC nv∈N'.st.map Yg.nm
 s2:∀nv p x ys,k=2->xs=[nv,.ref p]->Y1 nv=true->H p=some (.tup (x::ys))->N'.ru.length=6\/XC nv∈N'.ru.map Xm.nm
def WN.no{N c:ZH}(st:c.st=N.st)(ru:c.ru=N.ru)(k0:k≠0)(k2:k≠2):WN H N c k xs:=⟨⟨[],by rw[st,Oc]⟩,⟨[],by rw[ru,Oc]⟩,λ_ _ _ h=>Os h k0,λ_ _ _ _ h=>Os h k2⟩
def U7{w : Wn}(h:ck b w r=some c):b=false\/r=some c:=by
 cases b with
 |true=>exact .inr h
 |false=>exact .inl rfl
def WN.no0{w:Wn}(ok:YN N)(h:U5 N d g f=some w):WN H N N 0 [d,g,f]:=by
 erw[⟨⟨[],by rw[Oc]⟩,⟨[],by rw[Oc]⟩,λa b c _ e v j B=>?_,()⟩];cases e;unfold U5 at h;rw[v,j,B]at h;rcases U7 h with z|h;cases z;rcases U7 h with z|h;cases i:Yv Yg.nm N.st d with
 |false=>rw[i]at z;cases z
 |true =>
  obtain⟨y,x,rfl,u⟩:=WC i;have:=XD u;exact .inr (SI.mpr ⟨x,this.1,this.2⟩)
 rcases U7 h with z|h;cases z;rcases U7 h with z|h;cases z;rcases U7 h with z|h;have:=SU z;have:=ok.s8;exact .inl ();cases h
def WN.no2{w:Wn}(ok:YN N)(h:U6 N c o=some w)(d:VS H v o):WN H N N 2 [c,v]:=by
 erw[⟨⟨[],by rw[Oc]⟩,⟨[],by rw[Oc]⟩,(),λa p x u _ e j f=>?_⟩];cases e;unfold U6 at h;rw[j]at h;rcases U7 h with z|h;cases z;rcases U7 h with z|h;cases g:Yv Xm.nm N.ru c with
 |false=>rw[g]at z;cases z
 |true =>
  obtain⟨y,x,rfl,i⟩:=WC g;have:=XD i;exact .inr (SI.mpr ⟨x,this.1,this.2⟩)
 rcases U7 h with z|h;cases o with
 |some r=>cases z
 |none =>
  ext⟨b,d⟩ d;cases d with
  |lst h=>rw[f]at h;cases h
  |tup h=>rw[f]at h;cases h
 rcases U7 h with z|h;have:=SU z;have:=ok.r6;exact .inl ();cases h
def WN.yes0:WN H N (addS N g f d) 0 [g,f,d]:=⟨⟨_,R⟩,⟨[],by rw[Oc];rfl⟩,λa b c _ e _ _ _=>by cases e;exact .inr (SI.mpr ⟨_,SF.mpr (.inr (SD.mpr R)),R⟩),()⟩
def WN.yes2:WN H N (addR N c o) 2 [c,v]:=⟨⟨[],by rw[Oc];rfl⟩,⟨_,R⟩,(),λa p x d _ e _ _=>by cases e;exact .inr (SI.mpr ⟨_,SF.mpr (.inr (SD.mpr R)),R⟩)⟩
abbrev UM:Str:=(("_law_put" : Str) ++ ".<locals>.") ++ "<lambda>"
def Y2.mid{s:Yz}(h:Y2 t H s N)(i:YI lt q H)(s2:Zc (wo H lt) c)(f:YI lt q c):Y2 t c s N/\Yh H c:=by
 ext⟨p,d⟩ i.at;ext⟨j,g⟩ f.at;have k:=Zcv s2 d g;exact⟨h.kin k λx u e m=>s2 x u (Z4 e (QC (h.kd m) d)),k⟩
def Y2.told{s:Yz}(h:Y2 t H s N)(hd:d∈s.a.l)(s':Zc (wo H d) c)(f:Z3 t c s.n s.a I):Yh H c/\Yb c s.wd s.b N:=by
 have k:Yh H c:=by
  ext⟨M,J,_⟩ h.no.st;ext⟨O,D,g⟩ h.no.wk;ext⟨L,C,_⟩ h.no.ru;ext⟨Q,i,_⟩ h.no.tk;ext⟨S,G,_⟩ h.no.tp;ext⟨_,B,_⟩ f.st;ext⟨_,j,_⟩ f.wk;ext⟨_,y,_⟩ f.ru;ext⟨_,v,_⟩ f.tk;ext⟨_,E,_⟩ f.tp;simp only[NA.l,SE,List.not_mem_nil,or_false]at hd;rcases hd with rfl|rfl|rfl|rfl|rfl;exact QB s' J B;exact yF s' D (yA g) j;exact QB s' C y;exact QB s' i v;exact QB s' G E
 exact⟨k,h.wr.kin h.ok k λx u e m=>s' x u (Z4 e λz=>h.ap d hd (z ▸ m))⟩
def Y2.due{s:Yz}(ap:∀x∈s.a.l,x∉s.wd::s.b.l)(f:Yb H s.wd s.b N)(L:Z3 t H s.n s.a h)(hd:d∈s.b.l)(s':Zc (wo H d) g)(c:Yb g s.wd s.b h):Yh H g/\Z3 t g s.n s.a h:=by
 have k:Yh H g:=by
  ext⟨O,J,_⟩ f.st;ext⟨Q,E,i⟩ f.wk;ext⟨M,D,_⟩ f.ru;ext⟨S,j,_⟩ f.tk;ext⟨T,I,_⟩ f.tp;ext⟨_,C,_⟩ c.st;ext⟨_,v,_⟩ c.wk;ext⟨_,B,_⟩ c.ru;ext⟨_,y,_⟩ c.tk;ext⟨_,G,_⟩ c.tp;simp only[NA.l,SE,List.not_mem_nil,or_false]at hd;rcases hd with rfl|rfl|rfl|rfl|rfl;exact QB s' J C;exact yF s' E (yA i) v;exact QB s' D B;exact QB s' j y;exact QB s' I G
 exact⟨k,L.kin k λx u e m=>s' x u (Z4 e λz=>ap x m (z ▸ SB _ hd))⟩
def FD(H:Hp)(c dv:V):Prop:=(∃w,c=.str (Wn.txt w)/\dv=.str (Wn.txt w))\/(dv=.non/\∃p,c=.ref p/\H p=some (.tup [.str (OK "told"),.non]))
structure Pt(t:Ya)(s:Yz)(H:Hp)(N:ZH)(k:Nat)(xs:List V)(H':Hp)(N':ZH):Prop where
 sd:Y2 t H' s N'
 kn:Yh H H'
 of:YA (t.YR::s.own) H H'
 tl:YI t.YR UM H'
 gr:WN H N N' k xs
def Pt.same{s:Yz}(h:Pt t s H N k xs f c)(s':Zc f d):Pt t s H N k xs d c:=⟨h.sd.same s',h.kn.trans (.of s'),h.of.trans (.of s'),h.tl.same s',h.gr⟩
def WF:RT->PyData
 |.always=>.tuple [.str (OK "always")]
 |.week b=>.tuple [.str (OK "week"),.int b]
 |.span x y r=>.tuple [.str (OK "span"),.int x,.int y,WF r]
 |.each n c=>.tuple [.str (OK "each"),.int (n:Nat),.list (c.map λn=>.int (n:Nat))]
 |.either r s=>.tuple [.str (OK "either"),WF r,WF s]
 |.both r s=>.tuple [.str (OK "both"),WF r,WF s]
 |.but ds r=>.tuple [.str (OK "but"),.list (ds.map λn=>.int (n:Nat)),WF r]
theorem KR:∀c:List Nat,YD K H (YL c) (c.map λn=>PyData.int (n:Nat))
 |[]=>.nil
 |_::r=>.cons (.int _) (KR r)
def Zln(h:YM tp H v r):DV K H v (WF r):=by
 induction h with
 |always h=>exact .tup (Zk.of h) (.cons (.str _ ()) .nil)
 |week h=>exact .tup (Zk.of h) (.cons (.str _ ()) (.cons (.int _) .nil))
 |span h _ c=>exact .tup (Zk.of h) (.cons (.str _ ()) (.cons (.int _) (.cons (.int _) (.cons c .nil))))
 |each h f _=>exact .tup (Zk.of h) (.cons (.str _ ()) (.cons (.int _) (.cons (.lst (Ze.of f) (KR _)) .nil)))
 |either h _ _ g d=>exact .tup (Zk.of h) (.cons (.str _ ()) (.cons g (.cons d .nil)))
 |both h _ _ g d=>exact .tup (Zk.of h) (.cons (.str _ ()) (.cons g (.cons d .nil)))
 |but h f _ _ c=>exact .tup (Zk.of h) (.cons (.str _ ()) (.cons (.lst (Ze.of f) (KR _)) (.cons c .nil)))
theorem Mz:∀c:List Nat,PyData.depthAll (c.map λn=>PyData.int (n:Nat))=0
 |[]=>by simp[PyData.depthAll]
 |_::r=>by simp[PyData.depthAll,PyData.depth,Mz r]
theorem QY:∀r:RT,(WF r).depth<=r.depth+1
 |.always=>by simp[WF,PyData.depth,PyData.depthAll,RT.depth]
 |.week b=>by simp[WF,PyData.depth,PyData.depthAll,RT.depth]
 |.span x y r=>by have:=QY r;simp[WF,PyData.depth,PyData.depthAll,RT.depth];lia
 |.each n c=>by simp[WF,PyData.depth,PyData.depthAll,RT.depth,Mz]
 |.either r s=>by have:=QY r;have:=QY s;simp[WF,PyData.depth,PyData.depthAll,RT.depth];lia
 |.both r s=>by have:=QY r;have:=QY s;simp[WF,PyData.depth,PyData.depthAll,RT.depth];lia
 |.but ds r=>by have:=QY r;simp[WF,PyData.depth,PyData.depthAll,RT.depth,Mz];lia
def Zlo(r:RT):PyData.eqv (WF r) (.tuple [])=false:=by cases r<;>simp[WF,PyData.eqv,PyData.eqvAll]
def WE.dv(h:WE H v b):∃d,DV K H v d/\d.depth<=5/\PyData.eqv d (.tuple [])=b:=by
 cases h with
 |non=>exact⟨_,.non,by simp[PyData.depth],by simp[PyData.eqv]⟩
 |bl b=>exact⟨_,.bl b,by simp[PyData.depth],by simp[PyData.eqv]⟩
 |int i=>exact⟨_,.int i,by simp[PyData.depth],by simp[PyData.eqv]⟩
 |five=>exact⟨_,.str _ (),by simp[PyData.depth],by simp[PyData.eqv]⟩
 |lst h=>exact⟨_,.lst (Ze.of h) (.cons (.int 1) .nil),by simp[PyData.depth,PyData.depthAll],by simp[PyData.eqv]⟩
 |tup h=>exact⟨_,.tup (Zk.of h) .nil,by simp[PyData.depth,PyData.depthAll],by simp[PyData.eqv,PyData.eqvAll]⟩
def VS.dv{o:Option RT}(h:VS H v o):∃d b T,DV K H v d/\d.depth<=60/\PyData.eqv d (.tuple [])=b/\Kd H v T/\T ≠ "dict" /\ (decide (T="tuple") && !b)=o.isSome:=by
 cases o with
 |none =>
  ext⟨b,h⟩ h;obtain⟨d,i,B,u⟩:=h.dv (K:=K);ext⟨T,f,c,j⟩ h.kd;exact⟨d,b,T,i,(),u,f,c,by rw[j];cases b<;>rfl⟩
 |some r =>
  ext⟨⟨tp,h⟩,g⟩ h;obtain⟨a,x,C,rfl,y⟩:=Zcp h;have:=QY r;have:=g.2.2;exact⟨_,false,_,Zln h,(),Zlo r,.tup y,(),R⟩
def VS.kin(k:Yh H c)(h:VS H v o):VS c v o:=by
 cases o with
 |none =>
  ext⟨b,h⟩ h;erw[⟨b,?_⟩];cases h with
  |non=>exact .non
  |bl b=>exact .bl b
  |int i=>exact .int i
  |five=>exact .five
  |lst h=>exact .lst (k.stay _ _ h ⟨_,SC,.inl λp e=>(nomatch e)⟩)
  |tup h=>exact .tup (k.stay _ _ h trivial)
 |some r=>ext⟨⟨tp,h⟩,g⟩ h;exact⟨⟨tp,YM.keepW k.stay h g.1⟩,g⟩
def XU.kin(k:Yh H c)(l:∀a ys,H a=some (.lst ys)->c a=some (.lst ys))(h:XU H v o):XU c v o:=by
 cases o with
 |none=>ext⟨T,kd,n⟩ h;exact⟨T,Y3 k kd,n⟩
 |some f=>ext⟨a,e,h,kx⟩ h;exact⟨a,e,l _ _ h,λx d=>let ⟨T,q⟩:=kx x d;⟨T,Y3 k q⟩⟩
def XU.tab(s:Zc (wo H lt) c)(d:H lt=some (.tbl f))(k:Yh H c)(h:XU H v o):XU c v o:=h.kin k λa g e=>s _ _ (Lr d e ())
def Y2.nin{s:Yz}(h:Y2 t H s N)(n:H z=none):z∉s.a.l:=λm=>Vc (h.no.kd m) n R
def MA{s:Yz}(h:Y2 t H s N)(s1:Zc H c)(f:c lt=some (.tbl p))(s2:Zc (wo c lt) d):∀x u,H x=some u->x∈s.own->d x=some u:=λx u e m=>s2 x u (Z4 (s1 x u e) (QC ((h.same s1).kd m) f))
inductive Zcy(t:Ya)(vs:List V)(H:Hp)(Q:VK)(_e3:XK):Prop|mk (s:Yz) (N:ZH) (k:Nat) (lg:Addr) (xs:List V) (_:vs=[.ref s.n,.ref s.wd,.int k,.ref lg]) (_:Y2 t H s N) (_:H lg=some (.lst xs)) (_:lg∉s.own) (_:Vb N H k xs) (_:YI t.YR UM H) (_:∀N' H',Pt t s H N k xs H' N'->Q (.bl true) H')
structure Md(t:Ya)(s:Yz)(H:Hp)(N:ZH)(H2:Hp):Prop where
 sd:Y2 t H2 s N
 kn:Yh H H2
 of:YA (t.YR::s.own) H H2
 tl:YI t.YR UM H2
def Md.same{s:Yz}(h:Md t s H N c)(s':Zc c d):Md t s H N d:=⟨h.sd.same s',h.kn.trans (.of s'),h.of.trans (.of s'),h.tl.same s'⟩
def Zcz{o:Option RT}(h:VS H v o)(kd:Kd H v T)(c:(decide (T="tuple") && !b)=o.isSome):b=false->UK H v o:=λe=>by
 subst e;cases o with
 |some r=>exact h
 |none=>exact⟨T,kd,λz=>by subst z;cases c⟩
def ZcA{o:Option RT}(c:(decide (T="tuple") && !true)=o.isSome):UK H .non o:=by
 cases o with
 |some r=>rw[Bool.not_true,Bool.and_false]at c;cases c
 |none=>exact⟨_,.non,()⟩
def Md.from{s:Yz}(h:Md t s d N c)(s1:Zc H d):Md t s H N c:=⟨h.sd,(Yh.of s1).trans h.kn,(YA.of s1).trans h.of,h.tl⟩
def UH.kin(k:Yh H c)(h:UH t H v o):UH t c v o:=by
 cases o with
 |none=>ext⟨T,kd,n⟩ h;exact⟨T,Y3 k kd,n⟩
 |some r=>ext⟨⟨b,e,h⟩,g⟩ h;exact⟨⟨b,e,ZS.keepF (λ_ _ _ _ _ e=>k.stay _ _ e trivial) (λ_ _=>zY (λe=>k.stay _ _ e trivial) λ_ e=>k.stay _ _ e trivial) h⟩,g⟩
def Md.mk2{s:Yz}(h:Y2 t H s N)(f:YI t.YR UM H)(s2:Zc (wo H t.YR) c)(d:YI t.YR UM c):Md t s H N c:=let ⟨a,b⟩:=h.mid f s2 d;⟨a,b,YA.wout s2 SC,d⟩
def Md.off{s:Yz}(h:Md t s H N c)(d:Y2 t H s N)(n:H z=none)(hz:c z=some (.lst ys))(o:∀x u,H x=some u->x∈s.own->c x=some u):Md t s H N (wo c z):=⟨d.kin (h.kn.off n) λx u e m=>Z4 (o x u e m) λq=>(by rw[q,n]at e;cases e),h.kn.off n,h.of.off n,Zcw h.tl hz⟩
def Md.fr{s:Yz}(h:Md t s H N c)(n:c x=none):H x=none:=by
 cases e:H x with
 |none=>rfl
 |some o =>
  rcases h.kn x o e with g|⟨_,_,_,g⟩|⟨_,_,_,_,g⟩|⟨_,_,_,g⟩<;>rw[n]at g<;>cases g
def Md.ref{s:Yz}(h:Md t s H N c)(g:WN H N N k xs):Pt t s H N k xs c N:=⟨h.sd,h.kn,h.of,h.tl,g⟩
structure Mt(t:Ya)(s:Yz)(H:Hp)(N N1:ZH)(H2:Hp):Prop where
 no:Z3 t H2 s.n s.a N1
 wr:Yb H2 s.wd s.b N
 kn:Yh H H2
 of:YA (t.YR::s.own) H H2
 tl:YI t.YR UM H2
def Mt.same{s:Yz}(h:Mt t s H N d c)(s':Zc c f):Mt t s H N d f:=⟨h.no.same s',h.wr.same s',h.kn.trans (.of s'),h.of.trans (.of s'),h.tl.same s'⟩
def Md.told{s:Yz}(h:Md t s H N i)(hd:d∈s.a.l)(s':Zc (wo i d) c)(g:Z3 t c s.n s.a f):Mt t s H N f c:=by
 obtain⟨k,j⟩:=h.sd.told hd s' g;ext⟨p,v⟩ h.tl.at;have kd:=h.sd.no.kd hd;exact⟨g,j,h.kn.trans k,h.of.trans (YA.wout s' (SB _ (SF.mpr (.inl hd)))),E4 h.tl k λu e=>s' _ _ (Z4 e (QC kd v).symm)⟩
def Mt.due{s:Yz}(h:Mt t s H N c x)(f:Y2 t H s N)(C:YN c)(hd:d∈s.b.l)(s':Zc (wo x d) i)(j:Yb i s.wd s.b c)(g:WN H N c k xs):Pt t s H N k xs i c:=by
 obtain⟨v,y⟩:=Y2.due f.ap h.wr h.no hd s' j;ext⟨p,B⟩ h.tl.at;have kd:=h.wr.kd (SB s.wd hd);exact⟨⟨y,j,f.nw,C,f.ap⟩,h.kn.trans v,h.of.trans (YA.wout s' (SB _ (SF.mpr (.inr (SB _ hd))))),E4 h.tl v λu e=>s' _ _ (Z4 e (QC kd B).symm),g⟩
def U8(c:Zy K mg t)(r0:W.CodeHd base t.C0 t.YR)(c1:BM mg base):Zp P w K mg base Zv 54 t.kU t.RF ["_law_net","_law_world_here","_law_sort","_law_given_here"] (Zcy t):=by
 erw[WS.okC c.UE.F W9 () λa2 A outer s H vs x1 z0 v0 D h=>?_];ext⟨sd,N,k,j,xs,rfl,f,B,t1,hG,i0,q⟩ h;ext⟨y1,p1⟩ i0.at;have u1:j≠t.YR:=Yr B p1 ();have T:j∉t.YR::sd.own:=λz=>(SE.mp z).elim u1 t1;have mA:∀{x},x∈sd.a.l->x∈sd.a.l:=id;erw[⟨_,(Qm (ZC (ZZ Ye (pv 2) Za) (Zg (ZA 4 W9.nd (V8 (FN:=[(OK "_law_net",0),(OK "_law_given_here",3)]) (cl:=[(OK "_law_net",s.heap.objs.size+1),(OK "_law_given_here",s.heap.objs.size+2)]) (Ut c) (D.mono ()) R c.YQ.m c.YQ.F.kp c.YQ.b (λ_=>R) ⟨R,⟨R,trivial⟩⟩ (V9 ⟨⟨R,R,_,R,R⟩,⟨R,R,_,R,R⟩,trivial⟩) (V6 (cl:=[(OK "_law_net",s.heap.objs.size+1),(OK "_law_given_here",s.heap.objs.size+2)]) (v0.symm.trans c.Km) r0 c1 R R))) (Zf (ZA 5 W9.nd (ZD c.ZaU (Zk6 c) D Zu (Zq (pv 1) (pv 3)))))) (Zf (ZC (ZZ Ye (pv 2) Za) (Zg (ZA 4 W9.nd (V8 (FN:=[(OK "_law_net",0),(OK "_law_given_here",3)]) (cl:=[(OK "_law_net",s.heap.objs.size+1),(OK "_law_given_here",s.heap.objs.size+2)]) (Ut c) (D.mono ()) R c.YQ.m c.YQ.F.kp c.YQ.b (λ_=>R) ⟨R,⟨R,trivial⟩⟩ (V9 ⟨⟨R,R,_,R,R⟩,⟨R,R,_,R,R⟩,trivial⟩) (V6 (cl:=[(OK "_law_net",s.heap.objs.size+1),(OK "_law_given_here",s.heap.objs.size+2)]) (v0.symm.trans c.Km) r0 c1 R R))) (Zf (ZA 5 W9.nd (ZD c.ZaV (Zlg c) D Zu (Zq (pv 1) (pv 3)))))) (Zf (ZC (ZZ Ye (pv 2) Za) (Qm (ZA 6 W9.nd (Qa (PW.pt (W1 (ZW (ZN X9 c.Yy Yx (Zq (Zr ZJ (pv 3) Za) (X0 R c.U3 U0)))) (W0 (ZZ (Li D.units) (Zr ZJ (pv 3) Za) (YH YG))))) (ZD c.XB (ZkQ c 8) D Zu (Zh (Zr ZJ (pv 3) Za))) (Zr ZJ (pv 3) Za))) (Zg (ZA 4 W9.nd (V8 (FN:=[(OK "_law_rule_here",6),(OK "_law_net",0),(OK "_law_given_here",3)]) (cl:=[(OK "_law_rule_here",s.heap.objs.size+4),(OK "_law_net",s.heap.objs.size+1),(OK "_law_given_here",s.heap.objs.size+2)]) (Ut c) (D.mono ()) R c.YQ.m c.YQ.F.kp c.YQ.b (λ_=>R) ⟨R,⟨R,⟨R,trivial⟩⟩⟩ (V9 ⟨⟨R,R,_,R,R⟩,⟨R,R,_,R,R⟩,⟨R,R,_,R,R⟩,trivial⟩) (V6 (cl:=[(OK "_law_rule_here",s.heap.objs.size+4),(OK "_law_net",s.heap.objs.size+1),(OK "_law_given_here",s.heap.objs.size+2)]) (v0.symm.trans c.Km) r0 c1 R R))) (Zf (ZA 5 W9.nd (ZD c.ZaW (Zk7 c) D Zu (Z5 (pv 1) (Zr ZJ (pv 3) Za) (Qa (ZZ (Li D.units) (Zr ZJ (pv 3) Za) (YH YG)) (Zr ZJ (pv 3) Za) UP))))))) (Zf (ZC (ZZ Ye (pv 2) Za) (Qm (ZA 7 W9.nd (Qa (ZW (ZN X9 c.Yy Yx (Zq (Zr ZJ (pv 3) Za) (X0 R c.YU YT)))) (Z2 VB R c.YU YT (Zh (Zr ZJ (pv 3) Za))) (Zr ZJ (pv 3) Za))) (Zg (ZA 4 W9.nd (V8 (FN:=[(OK "_law_zones",7),(OK "_law_net",0),(OK "_law_given_here",3)]) (cl:=[(OK "_law_zones",s.heap.objs.size+5),(OK "_law_net",s.heap.objs.size+1),(OK "_law_given_here",s.heap.objs.size+2)]) (Ut c) (D.mono ()) R c.YQ.m c.YQ.F.kp c.YQ.b (λ_=>R) ⟨R,⟨R,⟨R,trivial⟩⟩⟩ (V9 ⟨⟨R,R,_,R,R⟩,⟨R,R,_,R,R⟩,⟨R,R,_,R,R⟩,trivial⟩) (V6 (cl:=[(OK "_law_zones",s.heap.objs.size+5),(OK "_law_net",s.heap.objs.size+1),(OK "_law_given_here",s.heap.objs.size+2)]) (v0.symm.trans c.Km) r0 c1 R R))) (Zg (ZA 5 W9.nd (ZD c.ZaX (Zlb c) D Zu (Zq (pv 1) (pv 3)))) (Zf (ZC (ZW (ZN X9 c.Yy Yx (Zq (pv 7) (X0 R c.YU YT)))) (Zf (Yk (Vi PySem.F.plainAttrs_list PySem.F.slot_list_append PySem.F.type_list_append VC (pv 7) (Zh Za)))) ZK))))) (Zg (ZA 8 W9.nd (Z2 VB R c.YU YT (Zh (Zr ZJ (pv 3) Za)))) (Zg (ZA 4 W9.nd (V8 (FN:=[(OK "_law_calls_here",8),(OK "_law_net",0),(OK "_law_given_here",3)]) (cl:=[(OK "_law_net",s.heap.objs.size+1),(OK "_law_given_here",s.heap.objs.size+2),(OK "_law_calls_here",s.heap.objs.size+3)]) (Ut c) (D.mono ()) R c.YQ.m c.YQ.F.kp c.YQ.b (λ_=>R) ⟨R,⟨R,⟨R,trivial⟩⟩⟩ (V9 ⟨⟨R,R,_,R,R⟩,⟨R,R,_,R,R⟩,⟨R,R,_,R,R⟩,trivial⟩) (V6 (cl:=[(OK "_law_net",s.heap.objs.size+1),(OK "_law_given_here",s.heap.objs.size+2),(OK "_law_calls_here",s.heap.objs.size+3)]) (v0.symm.trans c.Km) r0 c1 R R))) (Zg (ZA 5 W9.nd (ZD c.ZaY (Zk9 c) D Zu (Zq (pv 1) (pv 3)))) (Zf (Yk (MZ PySem.F.plainAttrs_list PySem.F.slot_list_clear PySem.F.type_list_clear wE (pv 8)))))))))))))) (Zf (Zw (Y7 (G8 D.units) (pv 4) (Qa (Wo (Ve (pv 5))) (YH (Zq Zs UP)) (pv 5)) (Xq _))))),?_⟩];erw[⟨λσ H'=>∃(N':ZH) (fv dv:V) (v6 v7 v8:Option V),Pt t sd H N k xs H' N'/\FD H' fv dv/\σ=[some (.ref sd.n),some (.ref sd.wd),some (.int k),some (.ref j),some fv,some dv,v6,v7,v8],?_,?_⟩]
 ·refine⟨_,R,R,_,R,Xs (λh=>?_) (λh0=>?_)⟩
  ·obtain rfl:k=0:=by have:=V.int.inj (SS h);lia
   cases hG with
   |@s0 v M cv Tz Tc g1 g2 g3 =>
   erw[Uv (L:=[("_law_net",.ref sd.n,0),("_law_given_here",.ref j,3)]) i0 ⟨⟨.head _,R⟩,⟨.tail _ (.head _),R⟩,trivial⟩ (by simp) R ⟨R,R,trivial⟩ R R R () (λ_ _ _=>R) (λi1 c' C A outer s z0 D=>(Xc (pv 0) c.ZO c.T6.me (Zkn c) (D.mono ()) c.T6.b .nil V7 (ZM (Vh (show Xt _ (WQ K)from ZJ) (pv 1) Za (λ_ _=>R)) (ZM (Vh (show Xt _ (WQ K)from ZJ) (pv 1) Za (λ_ _=>R)) (ZM (Vh (show Xt _ (WQ K)from ZJ) (pv 1) Za (λ_ _=>R)) YG))))) λC s2 e0=>?_];have g:=Md.mk2 f i0 s2 e0;have S:=g.of _ _ B T;ext⟨dx,fs,f1,f2⟩ g.sd.no.ob;erw[⟨λH'=>U5 N v M cv=none/\Zc (wo C sd.a.ds) H'/\Z3 t H' sd.n sd.a (addS N v M cv),λw H'=>U5 N v M cv=some w/\Zc C H',λQe Ee q1 q2=>⟨_,R,sd.n,dx,_,R,f1,f2.n_add_stop,_,R,j,_,0,_,R,R,Ze.of S,R,_,R,j,_,1,_,R,R,Ze.of S,R,_,R,j,_,2,_,R,R,Ze.of S,R,sd.n,sd.a,N,v,M,cv,Tz,Tc,R,g.sd.no,g1.kin g.kn,Y3 g.kn g2,Y3 g.kn g3,⟨λw hd H' i=>q2 w H' ⟨hd,i⟩,λhd H' i I=>q1 H' ⟨hd,i,I⟩⟩⟩,λH' Z p h E O=>?_,λw H' Z h E=>?_⟩];ext⟨hd,i,I⟩ h;have d:=(g.told (by simp[NA.l]) i I).same E;erw[⟨_,R,_,R,sd.wd,j,sd.b,N,v,M,cv,Tz,Tc,R,d.wr,f.nw,f.ok,d.of _ _ B T,g1.kin d.kn,Y3 d.kn g2,Y3 d.kn g3,⟨λw u=>(by rw[hd]at u;cases u),λ_ G s3 k0=>?_⟩⟩];exact⟨_,_,_,_,_,_,d.due f (f.ok.addS hd) (by simp[NA.l]) s3 k0 .yes0,.inr ⟨R,p,R,s3 _ _ (Z4 O λz=>by ext⟨r,a1,_⟩ d.wr.st;rw[z,a1]at O;cases O)⟩,rfl⟩;ext⟨hd,i⟩ h;have d:=g.same (i.trans E);erw[⟨_,R,_,R,sd.wd,j,sd.b,N,v,M,cv,Tz,Tc,R,d.sd.wr,f.nw,f.ok,d.of _ _ B T,g1.kin d.kn,Y3 d.kn g2,Y3 d.kn g3,⟨λw' u G s3=>?_,λu=>(by rw[hd]at u;cases u)⟩⟩];rw[hd]at u;cases u;exact⟨_,_,_,_,_,_,(d.same s3).ref (.no0 f.ok hd),.inl ⟨_,R,R⟩,R⟩
  erw[⟨_,R,R,_,R,Xs (λh=>?_) (λh1=>?_)⟩]
  ·obtain rfl:k=1:=by have:=V.int.inj (SS h);lia
   cases hG with
   |@s1 ov tv mv Tm g1 g2 g3 =>
   obtain⟨⟨To,ko⟩,_⟩:=id g1;obtain⟨⟨Tt,kt⟩,_⟩:=id g2;erw[Uv (L:=[("_law_net",.ref sd.n,0),("_law_given_here",.ref j,3)]) i0 ⟨⟨.head _,R⟩,⟨.tail _ (.head _),R⟩,trivial⟩ (by simp) R ⟨R,R,trivial⟩ R R R () (λ_ _ _=>R) (λi1 c' C A outer s z0 D=>(Xc (pv 0) c.ZO c.T7.me (Zkv c) (D.mono ()) c.T7.b .nil V7 (ZM (Vh (show Xt _ (WQ K)from ZJ) (pv 1) Za (λ_ _=>R)) (ZM (Vh (show Xt _ (WQ K)from ZJ) (pv 1) Za (λ_ _=>R)) (ZM (Vh (show Xt _ (WQ K)from ZJ) (pv 1) Za (λ_ _=>R)) YG))))) λC s2 e0=>?_];have g:=Md.mk2 f i0 s2 e0;have S:=g.of _ _ B T;ext⟨dx,fs,f1,f2⟩ g.sd.no.ob;erw[⟨λH'=>QU N ov tv mv=none/\Zc (wo C sd.a.lw) H'/\Z3 t H' sd.n sd.a (addW N ov tv mv),λw H'=>QU N ov tv mv=some w/\Zc C H',λQe Ee q1 q2=>⟨_,R,sd.n,dx,_,R,f1,f2.n_add_walk,_,R,j,_,0,_,R,R,Ze.of S,R,_,R,j,_,1,_,R,R,Ze.of S,R,_,R,j,_,2,_,R,R,Ze.of S,R,sd.n,sd.a,N,ov,tv,mv,To,Tt,Tm,R,g.sd.no,f.ok,Y3 g.kn ko,Y3 g.kn kt,Y3 g.kn g3,⟨λw hd H' i=>q2 w H' ⟨hd,i⟩,λhd H' i I=>q1 H' ⟨hd,i,I⟩⟩⟩,λH' Z p h E O=>?_,λw H' Z h E=>?_⟩];ext⟨hd,i,I⟩ h;have d:=(g.told (by simp[NA.l]) i I).same E;erw[⟨_,R,_,R,sd.wd,j,sd.b,N,ov,tv,mv,Tm,R,d.wr,f.ok,d.of _ _ B T,g1.kin d.kn,g2.kin d.kn,Y3 d.kn g3,⟨λw u=>(by rw[hd]at u;cases u),λ_ G s3 k0=>?_⟩⟩];exact⟨_,_,_,_,_,_,d.due f (f.ok.addW hd) (by simp[NA.l]) s3 k0 (.no R R () ()),.inr ⟨R,p,R,s3 _ _ (Z4 O λz=>by ext⟨r,a1,_⟩ d.wr.wk;rw[z,a1]at O;cases O)⟩,rfl⟩;ext⟨hd,i⟩ h;have d:=g.same (i.trans E);erw[⟨_,R,_,R,sd.wd,j,sd.b,N,ov,tv,mv,Tm,R,d.sd.wr,f.ok,d.of _ _ B T,g1.kin d.kn,g2.kin d.kn,Y3 d.kn g3,⟨λw' u G s3=>?_,λu=>(by rw[hd]at u;cases u)⟩⟩];rw[hd]at u;cases u;exact⟨_,_,_,_,_,_,(d.same s3).ref (.no R R () ()),.inl ⟨_,R,R⟩,R⟩
  erw[⟨_,R,R,_,R,Xs (λh=>?_) (λh2=>?_)⟩]
  ·obtain rfl:k=2:=by have:=V.int.inj (SS h);lia
   cases hG with
   |@s2 v j0 o g1 g2 =>
   have ho:∀r,o=some r->R3.Ok r:=λr e=>by subst e;exact g2.2
   erw[⟨λσ H'=>∃X:V,Zc H H'/\UH t H' X o/\σ=[some (.ref sd.n),some (.ref sd.wd),some (.int ((2:Nat):Int)),some (.ref j),none,none,some X,none,none],?_,?_⟩];obtain⟨t0,b,d0,d1,d2,d3,kd,nk,hT⟩:=g2.dv (K:=K);erw[⟨_,R,j,_,1,_,R,R,Ze.of B,R,j0,"tuple",_,_,R,kd.ty,Zcq kd,_,R,?_⟩];cases hb:decide (d0="tuple")with
   |false =>
    rw[hb]at hT;cases o with
    |some r=>cases hT
    |none=>exact Zi SO (Zi () ⟨_,R,j,_,1,_,R,R,Ze.of B,R,j0,Zc.refl H,⟨d0,kd,nk⟩,R⟩)
   |true =>
    erw[Zo R ⟨_,R,j,_,1,_,R,R,Ze.of B,R,zL9 R,λp0 g0=>?_⟩];have s0:=Zt g0 (.tup []);erw[⟨t0,.tuple [],d1.same s0,.tup (Zk.of Zj) .nil,d2,_,R,?_⟩];rw[d3];rw[hb]at hT;cases b with
    |true =>
     cases o with
     |some r=>cases hT
     |none=>exact Zi SO ⟨_,R,j,_,1,_,R,R,Ze.of (s0 _ _ B),R,j0,s0,⟨d0,kd.same s0,nk⟩,R⟩
    |false =>
     cases o with
     |none=>cases hT
     |some r =>
      ext⟨⟨tp,ht⟩,q0⟩ g2;exact Zo R ⟨_,R,j,_,1,_,R,R,Ze.of (s0 _ _ B),R,tp,j0,r,R,ht.same s0,q0.1,q0.2.1,q0.2.2,q0.2.2,λb' H' i h'=>⟨_,s0.trans i,⟨⟨b',R,by rw[c.kf];exact h'⟩,q0⟩,R⟩⟩
   rintro σ H1 ⟨X,s1,w1,rfl⟩;have b0:=i0.same s1;erw[Uv (L:=[("_law_net",.ref sd.n,0),("_law_given_here",.ref j,3),("_law_rule_here",X,6)]) b0 ⟨⟨.tail _ (.head _),R⟩,⟨.tail _ (.tail _ (.head _)),R⟩,⟨.head _,R⟩,trivial⟩ (by simp) R ⟨R,R,R,trivial⟩ R R R () (λ_ _ _=>R) (λi1 c' C A outer s z0 D=>(Xc (pv 0) c.ZO c.T8.me (Zkp c) (D.mono ()) c.T8.b .nil V7 (ZM (Vh (show Xt _ (WQ K)from ZJ) (pv 1) Za (λ_ _=>R)) (ZM (pv 2) YG)))) λC s2 e0=>?_];have g:=(Md.mk2 (f.same s1) b0 s2 e0).from s1;have S:=g.of _ _ B T;ext⟨dx,fs,f1,f2⟩ g.sd.no.ob;have o1:UH t C X o:=w1.kin (Md.mk2 (f.same s1) b0 s2 e0).kn;erw[⟨λH'=>U6 N v o=none/\Zc (wo C sd.a.dr) H'/\Z3 t H' sd.n sd.a (addR N v o),λw H'=>U6 N v o=some w/\Zc C H',λQe Ee q1 q2=>⟨_,R,sd.n,dx,_,R,f1,f2.n_add_rule,_,R,j,_,0,_,R,R,Ze.of S,R,_,R,sd.n,sd.a,N,v,X,o,R,g.sd.no,g1.kin g.kn,o1,⟨λw hd H' i=>q2 w H' ⟨hd,i⟩,λhd H' i I=>q1 H' ⟨hd,i,I⟩⟩⟩,λH' Z p h E O=>?_,λw H' Z h E=>?_⟩];ext⟨hd,i,I⟩ h;have d:=(g.told (by simp[NA.l]) i I).same E;have c3:=d.of _ _ B T;obtain⟨t0,b,d0,d1,d2,d3,kd,nk,hT⟩:=(g2.kin d.kn).dv (K:=K);erw[⟨_,R,_,R,j,_,0,_,R,R,Ze.of c3,R,_,R,j,_,1,_,R,R,Ze.of c3,R,zL9 R,λp0 g0=>?_⟩];have s0:=Zt g0 (.tup []);erw[⟨t0,.tuple [],d1.same s0,.tup (Zk.of Zj) .nil,d2,_,R,?_⟩];rw[d3];have m4:=d.same s0;have u0:∀(Qx:VK) (Ex:XK) v',UK (Zb Z p0 (.tup [])) v' o->(∀G,Pt t sd H N 2 [v,j0] G (addR N v o)->G p=some (.tup [.str (OK "told"),.non])->Qx .non G)->yC [.ref sd.wd,v,v'] (Zb Z p0 (.tup [])) Qx Ex:=λQx Ex v' j1 k=>⟨sd.wd,sd.b,N,v,v',o,R,m4.wr,f.nw,f.ok,g1.kin m4.kn,j1,⟨λw u=>(by rw[hd]at u;cases u),λ_ G s3 k0=>k G (m4.due f (f.ok.addR hd ho) (by simp[NA.l]) s3 k0 .yes2) (s3 _ _ (Z4 (s0 _ _ O) λz=>by ext⟨r,a1,_⟩ m4.wr.ru;rw[<-z,s0 _ _ O]at a1;cases a1))⟩⟩;have lo:=Zcz (g2.kin m4.kn) (kd.same s0) hT;cases b with
   |false=>exact Zo R ⟨_,R,j,_,1,_,R,R,Ze.of (s0 _ _ c3),R,u0 _ _ j0 (lo R) λG Q h3=>⟨_,_,_,_,_,_,Q,.inr ⟨R,p,R,h3⟩,R⟩⟩
   |true=>exact Zi SO (u0 _ _ .non (ZcA hT) λG Q h3=>⟨_,_,_,_,_,_,Q,.inr ⟨R,p,R,h3⟩,R⟩)
   ext⟨hd,i⟩ h;have d:=g.same (i.trans E);have c3:=d.of _ _ B T;obtain⟨t0,b,d0,d1,d2,d3,kd,nk,hT⟩:=(g2.kin d.kn).dv (K:=K);erw[⟨_,R,_,R,j,_,0,_,R,R,Ze.of c3,R,_,R,j,_,1,_,R,R,Ze.of c3,R,zL9 R,λp0 g0=>?_⟩];have s0:=Zt g0 (.tup []);erw[⟨t0,.tuple [],d1.same s0,.tup (Zk.of Zj) .nil,d2,_,R,?_⟩];rw[d3];have m4:=d.same s0;have u0:∀(Qx:VK) (Ex:XK) v',UK (Zb Z p0 (.tup [])) v' o->(∀G,Pt t sd H N 2 [v,j0] G N->Qx (.str (Wn.txt w)) G)->yC [.ref sd.wd,v,v'] (Zb Z p0 (.tup [])) Qx Ex:=λQx Ex v' j1 k=>⟨sd.wd,sd.b,N,v,v',o,R,m4.sd.wr,f.nw,f.ok,g1.kin m4.kn,j1,⟨λw' u G s3=>by rw[hd]at u;cases u;exact k G ((m4.same s3).ref (.no2 f.ok hd g2)),λu=>(by rw[hd]at u;cases u)⟩⟩;have lo:=Zcz (g2.kin m4.kn) (kd.same s0) hT;cases b with
   |false=>exact Zo R ⟨_,R,j,_,1,_,R,R,Ze.of (s0 _ _ c3),R,u0 _ _ j0 (lo R) λG Q=>⟨_,_,_,_,_,_,Q,.inl ⟨_,R,R⟩,R⟩⟩
   |true=>exact Zi SO (u0 _ _ .non (ZcA hT) λG Q=>⟨_,_,_,_,_,_,Q,.inl ⟨_,R,R⟩,R⟩)
  erw[⟨_,R,R,_,R,Xs (λh=>?_) (λh3=>?_)⟩]
  ·obtain rfl:k=3:=by have:=V.int.inj (SS h);lia
   cases hG with
   |@s3 v c0 lv M Tp Tl o g1 g2 g3 g4 g5 =>
   erw[⟨λσ H'=>∃zu:V,Zc H H'/\XU H' zu o/\(∀z,zu=.ref z->o≠none->H z=none)/\(o=none->zu=M)/\σ=[some (.ref sd.n),some (.ref sd.wd),some (.int ((3:Nat):Int)),some (.ref j),none,none,none,some zu,none],?_,?_⟩];cases o with
   |none =>
    obtain⟨d0,kd,nT⟩:=id g4;exact⟨_,R,j,_,3,_,R,R,Ze.of B,R,M,"list",_,_,R,kd.ty,Kz kd,_,R,Zi (by rw[SR nT];lia) ⟨_,R,j,_,3,_,R,R,Ze.of B,R,M,Zc.refl H,g4,λ_ _ h=>Os R h,λ_=>R,R⟩⟩
   |some y =>
    ext⟨a0,rfl,ha,kx⟩ g4;erw[⟨_,R,j,_,3,_,R,R,Ze.of B,R,.ref a0,"list",_,_,R,.lst ha,R,_,R,Zo R ⟨_,R,j,_,3,_,R,R,Ze.of B,R,a0,_,R,.inl (Ze.of ha),λJ gz=>?_⟩⟩];have s1:=Zt gz (.lst y);exact⟨.ref J,s1,⟨J,R,Zj,λx hx=>let ⟨d0,k⟩:=kx x hx;⟨d0,k.same s1⟩⟩,λz e _=>(by cases e;exact gz),(),R⟩
   rintro σ H1 ⟨zu,s1,v1,nz,ez,rfl⟩;have b0:=i0.same s1;erw[Uv (L:=[("_law_net",.ref sd.n,0),("_law_given_here",.ref j,3),("_law_zones",zu,7)]) b0 ⟨⟨.tail _ (.head _),R⟩,⟨.tail _ (.tail _ (.head _)),R⟩,⟨.head _,R⟩,trivial⟩ (by simp) R ⟨R,R,R,trivial⟩ R R R () (λ_ _ _=>R) (λi1 c' C A outer s z0 D=>(Xc (pv 0) c.ZO c.T9.me (Zkr c) (D.mono ()) c.T9.b .nil V7 (ZM (Vh (show Xt _ (WQ K)from ZJ) (pv 1) Za (λ_ _=>R)) (ZM (Vh (show Xt _ (WQ K)from ZJ) (pv 1) Za (λ_ _=>R)) (ZM (Vh (show Xt _ (WQ K)from ZJ) (pv 1) Za (λ_ _=>R)) (ZM (pv 2) YG)))))) λC s2 e0=>?_];have m0:=Md.mk2 (f.same s1) b0 s2 e0;have g:=m0.from s1;have S:=g.of _ _ B T;ext⟨dx,fs,f1,f2⟩ g.sd.no.ob;ext⟨pt,f0⟩ b0.at;have l1:XU C zu o:=v1.tab s2 f0 m0.kn;have n1:∀{H'},Yh H H'->(∀a y,H a=some (.lst y)->H' a=some (.lst y))->XU H' M o:=λk l=>g4.kin k l;have l2:∀a y,H a=some (.lst y)->C a=some (.lst y):=λa y e=>s2 _ _ (Lr f0 (s1 _ _ e) ());erw[⟨λH'=>QV N v c0 lv o=none/\Zc (wo C sd.a.dt) H'/\Z3 t H' sd.n sd.a (addK N v c0 lv o),λw H'=>QV N v c0 lv o=some w/\Zc C H',λQe Ee q1 q2=>⟨_,R,sd.n,dx,_,R,f1,f2.n_add_ticket,_,R,j,_,0,_,R,R,Ze.of S,R,_,R,j,_,1,_,R,R,Ze.of S,R,_,R,j,_,2,_,R,R,Ze.of S,R,_,R,sd.n,sd.a,N,v,c0,lv,zu,Tp,Tl,o,R,g.sd.no,g1.kin g.kn,Y3 g.kn g2,Y3 g.kn g3,l1,⟨λw hd H' i=>q2 w H' ⟨hd,i⟩,λhd H' i I=>q1 H' ⟨hd,i,I⟩⟩⟩,λH' Z p h E O=>?_,λw H' Z h E=>?_⟩];ext⟨hd,i,I⟩ h;have d:=(g.told (by simp[NA.l]) i I).same E;ext⟨rt,x0,_⟩ g.sd.no.tk;have l3:∀a y,C a=some (.lst y)->Z a=some (.lst y):=λa y e=>E _ _ (i _ _ (Z4 e (Yr e x0 ())));erw[⟨_,R,_,R,sd.wd,j,sd.b,N,v,c0,lv,M,Tp,Tl,o,R,d.wr,f.nw,f.ok,d.of _ _ B T,g1.kin d.kn,Y3 d.kn g2,Y3 d.kn g3,n1 d.kn (λa y e=>l3 a y (l2 a y e)),⟨λw u=>(by rw[hd]at u;cases u),λ_ G s3 k0 fr=>?_⟩⟩];have Q:=d.due (k:=3) (xs:=[v,c0,lv,M]) f (f.ok.addK hd) (by simp[NA.l]) s3 k0 (.no R R () ());ext⟨r1,y0,_⟩ d.wr.tk;have o0:=s3 _ _ (Z4 O (Yr O y0 ()));cases o with
   |none =>
    obtain⟨d0,kd,nT⟩:=id g4;have w0:=Y3 Q.kn kd;rw[ez R];exact⟨_,R,M,"list",_,_,R,w0.ty,Kz w0,_,R,Zi (by rw[SR nT];lia) ⟨_,_,_,_,_,_,Q,.inr ⟨R,p,R,o0⟩,R⟩⟩
   |some y =>
    ext⟨J,rfl,U,_⟩ l1;have e1:=nz J R ();have k1:=i _ _ (Z4 U (Yr U x0 ()));have n0:=l3 _ _ U;have Y:=s3 _ _ (Z4 n0 (Yr n0 y0 ()));have b1:=((g.off f e1 U (MA f s1 f0 s2)).told (by simp[NA.l]) (Mv i) (I.off k1 (f.nin e1))).same (QJ E);have l0:=b1.due (k:=3) (xs:=[v,c0,lv,M]) f (f.ok.addK hd) (by simp[NA.l]) (Mv s3) (fr J y n0 b1.wr) (.no R R () ());exact⟨_,R,.ref J,"list",_,_,R,.lst Y,R,_,R,Zo R ⟨_,R,.inl ⟨R,_,Ze.of Y⟩,J,_,_,R,R,Y,Sj (g5 y R) (),_,_,_,_,_,_,l0.same (WD (Zc.refl _)),.inr ⟨R,p,R,by rwa[Zm (Yr o0 Y ())]⟩,R⟩⟩
   ext⟨hd,i⟩ h;have S':=i.trans E;have d:=g.same S';erw[⟨_,R,_,R,sd.wd,j,sd.b,N,v,c0,lv,M,Tp,Tl,o,R,d.sd.wr,f.nw,f.ok,d.of _ _ B T,g1.kin d.kn,Y3 d.kn g2,Y3 d.kn g3,n1 d.kn (λa y e=>S' _ _ (l2 a y e)),⟨λw' u G s3=>?_,λu=>(by rw[hd]at u;cases u)⟩⟩];rw[hd]at u;cases u;have Q:=(d.same s3).ref (k:=3) (xs:=[v,c0,lv,M]) (.no R R () ());cases o with
   |none =>
    obtain⟨d0,kd,nT⟩:=id g4;have w0:=Y3 Q.kn kd;rw[ez R];exact⟨_,R,M,"list",_,_,R,w0.ty,Kz w0,_,R,Zi (by rw[SR nT];lia) ⟨_,_,_,_,_,_,Q,.inl ⟨_,R,R⟩,R⟩⟩
   |some y =>
    ext⟨J,rfl,U,_⟩ l1;have e1:=nz J R ();have Y:=(S'.trans s3) _ _ U;have l0:=((g.off f e1 U (MA f s1 f0 s2)).same (QJ (S'.trans s3))).ref (k:=3) (xs:=[v,c0,lv,M]) (.no R R () ());exact⟨_,R,.ref J,"list",_,_,R,.lst Y,R,_,R,Zo R ⟨_,R,.inl ⟨R,_,Ze.of Y⟩,J,_,_,R,R,Y,Sj (g5 y R) (),_,_,_,_,_,_,l0.same (WD (Zc.refl _)),.inl ⟨_,R,R⟩,R⟩⟩
  obtain rfl:k=4:=by
   cases hG with
   |s0=>exact Os R h0
   |s1=>exact Os R h1
   |s2=>exact Os R h2
   |s3=>exact Os R h3
   |s4=>rfl
  cases hG with
  |@s4 v X l us cs g1 g2 g3 g4 g5 g6 g7 =>
  obtain⟨⟨Tr,kr⟩,_⟩:=id g2;erw[⟨_,R,j,_,2,_,R,R,Ze.of B,R,l,_,R,.inl (Ze.of g3),λJ gz=>?_⟩];have s1:=Zt gz (.lst us);have m1:Zb H J (.lst us) J=some (.lst us):=Zj;generalize Zb H J (.lst us)=H1 at s1 m1 ⊢;have b0:=i0.same s1;erw[Uv (L:=[("_law_net",.ref sd.n,0),("_law_given_here",.ref j,3),("_law_calls_here",.ref J,8)]) b0 ⟨⟨.tail _ (.head _),R⟩,⟨.tail _ (.tail _ (.head _)),R⟩,⟨.head _,R⟩,trivial⟩ (by simp) R ⟨R,R,R,trivial⟩ R R R () (λ_ _ _=>R) (λi1 c' C A outer s z0 D=>(Xc (pv 0) c.ZO c.zA.me (ZkB c) (D.mono ()) c.zA.b .nil V7 (ZM (Vh (show Xt _ (WQ K)from ZJ) (pv 1) Za (λ_ _=>R)) (ZM (Vh (show Xt _ (WQ K)from ZJ) (pv 1) Za (λ_ _=>R)) (ZM (pv 2) YG))))) λC s2 e0=>?_];have g:=(Md.mk2 (f.same s1) b0 s2 e0).from s1;have S:=g.of _ _ B T;ext⟨dx,fs,f1,f2⟩ g.sd.no.ob;ext⟨pt,f0⟩ b0.at;have l2:∀a y,H1 a=some (.lst y)->C a=some (.lst y):=λa y e=>s2 _ _ (Lr f0 e ());have U:=l2 _ _ m1;have al:∀{H'},Yh H H'->Al (Yd H') us cs:=λk=>g4.imp λ_ _=>Yd.keep (QA k.stay);erw[⟨λH'=>QW N v X=none/\Zc (wo C sd.a.dp) H'/\Z3 t H' sd.n sd.a (addT N v X cs),λw H'=>QW N v X=some w/\Zc C H',λQe Ee q1 q2=>⟨_,R,sd.n,dx,_,R,f1,f2.n_add_trip,_,R,j,_,0,_,R,R,Ze.of S,R,_,R,j,_,1,_,R,R,Ze.of S,R,_,R,sd.n,sd.a,N,v,X,Tr,cs,J,us,R,g.sd.no,g1.kin g.kn,Y3 g.kn kr,U,al g.kn,g5,g6,g7,⟨λw hd H' i=>q2 w H' ⟨hd,i⟩,λhd H' i I=>q1 H' ⟨hd,i,I⟩⟩⟩,λH' Z p h E O=>?_,λw H' Z h E=>?_⟩];ext⟨hd,i,I⟩ h;have d:=(g.told (by simp[NA.l]) i I).same E;ext⟨rt,x0,_⟩ g.sd.no.tp;have l3:∀a y,C a=some (.lst y)->Z a=some (.lst y):=λa y e=>E _ _ (i _ _ (Z4 e (Yr e x0 ())));erw[⟨_,R,_,R,sd.wd,j,l,sd.b,N,v,X,us,cs,R,d.wr,f.nw,f.ok,d.of _ _ B T,g1.kin d.kn,g2.kin d.kn,l3 _ _ (l2 _ _ (s1 _ _ g3)),al d.kn,⟨λw u=>(by rw[hd]at u;cases u),λ_ G s3 k0 fr=>?_⟩⟩];ext⟨r1,y0,_⟩ d.wr.tp;have o0:=s3 _ _ (Z4 O (Yr O y0 ()));have k1:=i _ _ (Z4 U (Yr U x0 ()));have n0:=l3 _ _ U;have Y:=s3 _ _ (Z4 n0 (Yr n0 y0 ()));have b1:=((g.off f gz U (MA f s1 f0 s2)).told (by simp[NA.l]) (Mv i) (I.off k1 (f.nin gz))).same (QJ E);have l0:=b1.due (k:=4) (xs:=[v,X,.ref l]) f (f.ok.addT hd g5 g6 g7) (by simp[NA.l]) (Mv s3) (fr J us n0 b1.wr) (.no R R () ());exact⟨_,R,.inl ⟨R,_,Ze.of Y⟩,J,_,R,R,Y,_,_,_,_,_,_,l0.same (WD (Zc.refl _)),.inr ⟨R,p,R,by rwa[Zm (Yr o0 Y ())]⟩,R⟩;ext⟨hd,i⟩ h;have S':=i.trans E;have d:=g.same S';erw[⟨_,R,_,R,sd.wd,j,l,sd.b,N,v,X,us,cs,R,d.sd.wr,f.nw,f.ok,d.of _ _ B T,g1.kin d.kn,g2.kin d.kn,S' _ _ (l2 _ _ (s1 _ _ g3)),al d.kn,⟨λw' u G s3=>?_,λu=>(by rw[hd]at u;cases u)⟩⟩];rw[hd]at u;cases u;have Y:=(S'.trans s3) _ _ U;have l0:=((g.off f gz U (MA f s1 f0 s2)).same (QJ (S'.trans s3))).ref (k:=4) (xs:=[v,X,.ref l]) (.no R R () ());exact⟨_,R,.inl ⟨R,_,Ze.of Y⟩,J,_,R,R,Y,_,_,_,_,_,_,l0.same (WD (Zc.refl _)),.inl ⟨_,R,R⟩,R⟩
 rintro σ H4 ⟨N',fv,dv,v6,v7,v8,Q,hF,rfl⟩;rcases hF with⟨w,rfl,rfl⟩|⟨rfl,p,rfl,O⟩;have dv:DV K H4 (.str (Wn.txt w)) (.str w.txt):=.str _ (by cases w<;>decide +kernel);erw[⟨_,R,_,R,_,R,Zi (by rw[SR ()];lia) ⟨_,R,_,_,dv,dv,by simp[PyData.depth],?_⟩⟩];rw[SeqAt.eqv_refl _ dv.can];exact q _ _ Q;erw[⟨_,R,_,R,_,R,Zo (SQ R) ⟨zL9 R,λp3 g3=>?_⟩⟩];have s3:=Zt g3 (.tup [.str (OK "told"),.non]);have dv:DV K (Zb H4 p3 (.tup [.str (OK "told"),.non])) (.ref p) _:=Zcx (s3 _ _ O);erw[⟨_,_,dv,Zcx Zj,by simp[PyData.depth,PyData.depthAll],?_⟩];rw[SeqAt.eqv_refl _ dv.can];exact q _ _ (Q.same s3)
inductive Zlp(P:Program)(w:World)(K:Ox)(mg:Ow)(base:Heap)(k:Nat)(m:Str)(t:TA)(σ:St)(Q:VK)(x:V)(H1:Hp):Prop|mk (a C dx:Addr) (fs:List (Str×V)) (f:Addr) (fd:OJ) (ps:OC) (sp:Sp) (_:x=.ref a) (_:H1 a=some (.ins C dx fs)) (_:fs.lookup m=none) (_:YO K C) (_:Ym K C m f) (_:Zp P w K mg base Zv k f fd ps sp) (_:XF K fd ps []) (_:t σ H1 λvs H2=>sp (.ref a::vs) H2 Q E0)
def Zlq(P:Program)(w:World)(K:Ox)(mg:Ow)(base:Heap)(k:Nat)(m:Str)(f:TE)(t:TA):TE:=λc H Q=>f c H λx d=>Zlp P w K mg base k m t c Q x d
def Zlr{t:TA}{apos : Pos}(P:Program)(w:World)(K:Ox)(mg:Ow)(base:Heap)(k:Nat)(Y:Yn k X.A)(T:PE X o j)(ha:PA X (e::d) t)
  (J:X.prog=P:=by rfl) (G:X.w=w:=by rfl) (Q:X.K=K:=by rfl) (hm:X.mg=mg:=by rfl) (i:X.base=base:=by rfl)
  (M:starEach (e::d) X.env=(false,eval e X.env)::starEach d X.env:=by rfl) (S:(backTo g (starEach d X.env)).any (·.1)=false:=by rfl)
  (U:eval (.Call (.Attribute o m apos) (e::d) [] g) X.env=(do
   let C <-eval o X.env
   standAt apos.atName
   let (f,first) <-holding [C] (getMethod C m pl)
   callWith g f first (backTo g (starEach (e::d) X.env)) (backToKw g (keywordEach [] X.env))):=by rfl) :
  PE X (.Call (.Attribute o m apos) (e::d) [] g) (Zlq P w K mg base k m j t):=by
 subst J G Q hm i;intro pins s B H a0 I h;erw[W.methodCall_KW (pl:=pl) (Zx (T pins s B H _ I h) λu s1 ⟨x,D,v,L,a,b0,dx,fs,f,fd,ps,sp,ex,O,l,c,hm,F,i,q⟩=>?_) U];subst ex;obtain rfl:u=Value.ref a:=L;erw[A1 v O c hm l ?_];erw[W.callWith_K (first:=[.ref a]) (h₀:=X.base) I.ok.mod.kin hm.kp (Zx (ha g pins s1 B D _ v q) λus s2 ⟨vs,Z,y,r,E⟩=>⟨y.kIn,?_⟩) M S];exact Qc (us:=.ref a::us) (vs:=.ref a::vs) (dvs:=[]) F Y i .nil Zu y (.cons R r) (by rwa[Oc])
def WO(M:OH)(H:Hp):Hp:=λa=>if a∈M then none else H a
def MB(e:H a=some o)(n:a∉M):WO M H a=some o:=(SV n).trans e
def KS(e:WO M H a=some o):a∉M/\H a=some o:=by
 unfold WO at e;split at e;cases e;exact⟨by assumption,e⟩
def ZcB(h:YA M H c):Zc (WO M H) (WO M c):=λa o e=>let ⟨n,e⟩:=KS e;MB (h a o e n) n
structure X5(K:Ox)(M:OH)(H:Hp)(lo:Addr)(n:Nat):Prop where
 ex:∃vs,H lo=some (.lst vs)/\vs.length<=n/\∀v∈vs,∃p f g d,v=.ref p/\WO M H p=some (.tup [.ref f,.ref g])/\DV K (WO M H) (.ref f) d/\DV K (WO M H) (.ref g) d/\d.depth<=60
def X5.off(h:X5 K M H lo n)(o:YA M H c)(e:∀u,H lo=some u->c lo=some u):X5 K M c lo n:=by
 ext⟨i,a,l,b⟩ h.ex;erw[⟨i,e _ a,l,λv C=>?_⟩];obtain⟨p,f,g,d,D,B,x,j,y⟩:=b v C;have s:=ZcB o;exact⟨p,f,g,d,D,s _ _ B,x.same s,j.same s,y⟩
def KU{c:Type}{R:V->c->Prop}{xs:List V}{ys:List c}{f:c->PyData}(g:Al R xs ys)(h:∀v y,y∈ys->R v y->DV K H v (f y)):YD K H xs (ys.map f):=by
 induction g with
 |nil=>exact .nil
 |cons a _ d=>exact .cons (h _ _ SC a) (d λv y m=>h v y (SB _ m))
def Uw(M:OH)(H:Hp):Prop:=∀x∈M,∃o,H x=some o/\∀c,o≠.tup c
def Uw.nin(h:Uw M H)(n:H a=none):a∉M:=λm=>by obtain⟨o,e,_⟩:=h a m;rw[n]at e;cases e
def Uw.tup(h:Uw M H)(s:Zc H c)(e:c a=some (.tup ys)):a∉M:=λm=>by obtain⟨o,d,n⟩:=h a m;rw[s _ _ d]at e;cases e;exact n _ R
def dW(x:Wl):PyData:=.tuple [.str x.o,.str x.t,.int (x.m:Nat)]
def dS(x:Yg):PyData:=.tuple [.int (x.z:Nat),.int (x.ch:Nat)]
def dK(x:Xw):PyData:=.tuple [.int (x.pr:Nat),.int (x.la:Nat),.list (x.zs.map λn=>.int (n:Nat))]
def dC(c:Cl):PyData:=.tuple [.str c.st,.int (c.ar:Nat),.int (c.lv:Nat)]
def dT(x:Tp):PyData:=.tuple [.str x.ru,.list (x.cs.map dC)]
theorem yG{c:Type}{f:c->PyData}{n:Nat}(h:∀x,(f x).depth<=n):∀xs:List c,PyData.depthAll (xs.map f)<=n
 |[]=>by simp[PyData.depthAll]
 |x::r=>by have:=h x;have:=yG h r;simp only[SL,PyData.depthAll];lia
def MC{c:Type}{f:c->PyData}{n:Nat}(h:∀x,(f x).depth<=n)(xs:List c):(PyData.list (xs.map f)).depth<=n+1:=by have:=yG h xs;simp only[PyData.depth];lia
def Zls(x:Wl):(dW x).depth<=3:=by simp[dW,PyData.depth,PyData.depthAll]
def Zlt(x:Yg):(dS x).depth<=3:=by simp[dS,PyData.depth,PyData.depthAll]
def Zlu(x:Xw):(dK x).depth<=3:=by simp[dK,PyData.depth,PyData.depthAll,Mz]
def Zlv(x:Cl):(dC x).depth<=1:=by simp[dC,PyData.depth,PyData.depthAll]
def Zlw(x:Tp):(dT x).depth<=3:=by have:=yG Zlv x.cs;simp[dT,PyData.depth,PyData.depthAll];lia
def Yd.dv{c:Cl}(h:Yd H v c)(n:Yc c.st):DV K H v (dC c):=by
 ext⟨p,rfl,h⟩ h;exact .tup (Zk.of h) (.cons (.str _ (VQ n)) (.cons (.int _) (.cons (.int _) .nil)))
def YF.dv{x:Wl}(h:YF H v x)(n:Yc x.o/\Yc x.t):DV K H v (dW x):=by
 ext⟨p,rfl,h⟩ h;exact .tup (Zk.of h) (.cons (.str _ (VQ n.1)) (.cons (.str _ (VQ n.2)) (.cons (.int _) .nil)))
def E5{c:Type}{nm:c->Str}{xs:List c}(nd:(xs.map nm).Nodup){x y:c}(f:x∈xs)(e:V.str (nm x)=V.str (nm y))(d:Xa nm xs (nm y)=some y):y=x:=by
 rw[<-V.str.inj e,Mm nd f]at d;exact(So d).symm
def Zlx{c:Type}{R:ZF×V->c->Prop}{rows:List (ZF×V)}{xs:List c}{f:c->PyData}(i:Al R rows xs)(h:∀d x,x∈xs->R d x->DV K H d.2 (f x)):YD K H (rows.map (·.2)) (xs.map f):=by
 induction i with
 |nil=>exact .nil
 |cons a _ g=>exact .cons (h _ _ SC a) (g λv y m=>h v y (SB _ m))
theorem ZcC:∀l:List Bool,WK (l.map V.bl) (l.map V.bl)=true
 |[]=>rfl
 |b::r=>by
  show(Ws (.bl b) (.bl b) && WK (r.map V.bl) (r.map V.bl))=true;rw[ZcC r];cases b<;>rfl
def ZcD(l:List Bool):(l.map V.bl).all WR=true:=by
 rw[List.all_map];exact List.all_eq_true.mpr λ_ _=>R
def D3.same(s:Zc H f)(h:D3 G H v x):D3 G f v x:=let ⟨r,l,a,b,c,d⟩:=h;⟨r,l,a,s _ _ b,c,s _ _ d⟩
def KW(G H:Hp)(v:V)(x:Tp):Prop:=∃r l c,v=.ref r/\H r=some (.tup [.str x.ru,.ref l])/\G l=none/\H l=some (.lst c)/\Al (Yd H) c x.cs
def KW.same(s:Zc H f)(h:KW G H v x):KW G f v x:=let ⟨r,l,us,a,b,c,d,e⟩:=h;⟨r,l,us,a,s _ _ b,c,s _ _ d,e.imp λ_ _=>Yd.same s⟩
def UN(G H:Hp)(tl:Addr)(j n:Nat)(v:V):Prop:=∃r d l c,v=.ref r/\H r=some (.tup d)/\d[j]? = some (V.ref l)/\G l=none/\l≠tl/\H l=some (.lst c)/\c.length<=n
def UN.same(h:UN G H tl j n v)(s:Zc H i):UN G i tl j n v:=let ⟨r,ws,l,ys,a,b,c,d,e,f,g⟩:=h;⟨r,ws,l,ys,a,s _ _ b,c,d,e,s _ _ f,g⟩
def UN.put{E i:List V}(h:UN G H tl j n v)(D:H u=some (.lst E))(B:i.length<=n+1):UN G (Zb H u (.lst i)) tl j (n+1) v:=by
 ext⟨r,x,l,C,a,b,c,d,e,f,g⟩ h;have y:Zb H u (.lst i) r=some (.tup x):=by rwa[Zm (Yr b D ())]
 by_cases z:l=u;subst z;exact⟨r,x,l,i,a,y,c,d,e,Zj,B⟩;exact⟨r,x,l,C,a,y,c,d,e,by rwa[Zm z],()⟩
inductive Zly(t:Ya)(K:Ox)(vs:List V)(H:Hp)(Q:VK)(_e3:XK):Prop|mk (s:Yz) (N:ZH) (k:Nat) (lo:Addr) (M:OH) (n:Nat) (_:vs=[.ref s.n,.ref s.wd,.int k,.ref lo]) (_:Y2 t H s N) (_:X5 K M H lo n) (_:n<1000) (_:lo∈M) (_:Uw M H) (_:∀H',Zc (wo H lo) H'->X5 K M H' lo (n+1)->Q (.bl true) H')
def Zlz(d:Zy K mg t):Zp P w K mg base Zv 46 t.kW t.kX ["_law_net","_law_world_here","_law_way","_law_olds"] (Zly t K):=by
 erw[d.Za0.F.ok XJ () λa1 A outer s H vs f1 u1 D h=>?_];ext⟨sd,N,k,lo,b0,n,rfl,E,hO,n1,q0,mk,q⟩ h;have ok:=E.ok;ext⟨dx,fs,e1,e2⟩ E.no.ob;have o0:∀(NS:OC) (y dl:Addr) (u:Hp) (v6 v8 v9 j0 f0:Option V),(∀z∈NS,Yc z)->NS.length<=12->Zc H u->H y=none->u y=some (.lst (NS.map V.str))->u dl=some (.lst (NS.map V.str))->∃(p0:Addr) (dv:V) (xs:List V) (ds:List PyData) (w6 w8 w9 w10 w11:Option V),Zc H u/\H p0=none/\u p0=some (.lst xs)/\xs.length<=12/\YD K (WO (p0::b0) u) xs ds/\DV K u dv (.list ds)/\(PyData.list ds).depth<=10/\[some (V.ref sd.n),some (.ref sd.wd),some (.int k),some (.ref lo),some (.ref y),some (.ref dl),v6,some (.bl true),v8,v9,j0,f0]=[some (.ref sd.n),some (.ref sd.wd),some (.int k),some (.ref lo),some (.ref p0),some dv,w6,some (.bl true),w8,w9,w10,w11]:=λNS y dl u v6 v8 v9 j0 f0 on b1 s L hf hd=>⟨y,.ref dl,_,_,_,_,_,_,_,s,L,hf,by rwa[Sv],KN on,.lst (Ze.of hd) (KN on),Sh (Zcs NS) (),R⟩;erw[⟨_,(Qm (ZC (ZZ Ye (pv 2) Za) (Zg (Q3 (i:=4) (j:=5) R XJ.nd R R () R R (Zq (F8 (pv 0) d.ZO d.zD.me (ZkC d) (D.mono ()) d.zD.b .nil Zu) (Z2 (VJ R) R d.YU YT (Zh (Yu D (pv 1) Zs)))) R) (Zg (ZA 6 XJ.nd (Wv (cl:=[(OK "_law_net",s.heap.objs.size+1)]) (N:=["_law_stop","_law_net"]) (fr:=[none,some 0]) R (Xx (pv 4)) R () R () ⟨⟨R,Or.inl R,Or.inl R,_,R,R⟩,trivial⟩ ⟨R,trivial⟩ R (λ_ _ _ _ _=>(Yl 0 (show List.Nodup (["_law_stop","_law_net"]:OC) by lia))) (λ_ _ _ _ _=>Wu) (λ_ _ _ _ _=>(YH (Zq (Xc (pv 1) d.ZO d.Ke.me (Zb9 d) (D.mono ()) d.Ke.b .nil B2 (Zh (pv 0))) (Xc (pv 1) d.ZO d.Kf.me (Zca d) (D.mono ()) d.Kf.b .nil B2 (Zh (pv 0)))))))) (Zf (ZA 7 XJ.nd (Y7 (G8 D.units) (pv 6) (Z2 (Zgr R) R d.YU YT (Zh (MZ PySem.F.plainAttrs_dict PySem.F.slot_dict_values PySem.F.type_dict_values Zgq (Yu D (pv 1) Zs)))) (Xq _)))))) (Zf (ZC (ZZ Ye (pv 2) Za) (Zg (Q3 (i:=4) (j:=5) R XJ.nd R R () R R (Zq (F8 (pv 0) d.ZO d.zE.me (ZkH d) (D.mono ()) d.zE.b .nil Zu) (Yu D (pv 1) Zs)) R) (Zf (ZA 7 XJ.nd (Y7 (Lu D.units0) (Wv (cl:=[]) (N:=["_law_walk"]) (fr:=[none]) R (Xx (pv 4)) R () R () trivial trivial R (λ_ _ _ _ _=>(Yl 0 (show List.Nodup (["_law_walk"]:OC) by lia))) (λ_ _ _ _ _=>(G6 (ZX (ZW (ZN (show Y4 _ (.builtin "isinstance") (λxs H f1=>∃x l1 t b,xs=[x,V.ty l1]/\XW K H x t/\W.kitOne K t (Value.type l1)=some b/\f1 (V.bl b) H)from X9) d.Yy Yx (Zq (pv 0) (X0 R d.U3 U0))))))) (λ_ _ _ _ _=>(pv 0))) (ZI YG) (Xq _))))) (Zf (ZC (ZZ Ye (pv 2) Za) (Zg (Q3 (i:=4) (j:=5) R XJ.nd R R () R R (Zq (F8 (pv 0) d.ZO d.zF.me (ZkD d) (D.mono ()) d.zF.b .nil Zu) (Z2 (VJ R) R d.YU YT (Zh (Yu D (pv 1) Zs)))) R) (Zg (ZA 7 XJ.nd YY) (Zf (W8 (Xx (pv 5)) (Yl 8 XJ.nd) (Zg (I0 (i0:=9) (cl:=[(OK "_law_net",s.heap.objs.size+1),(OK "_law_name_here",s.heap.objs.size+4)]) (N:=["_law_day","_law_name_here","_law_net"]) (fr:=[none,some 8,some 0]) XJ.nd R (Or.inl R) R (VW R d.Ul (Zh Za)) R () R () ⟨⟨R,Or.inl R,Or.inl R,_,R,R⟩,⟨⟨R,Or.inl R,Or.inl R,_,R,R⟩,trivial⟩⟩ ⟨R,⟨R,trivial⟩⟩ R (λ_ _ _ _ _=>(Yl 0 (show List.Nodup (["_law_day","_law_name_here","_law_net"]:OC) by lia))) (λ_ _ _ _ _=>Wu) (λ_ _ _ _ _=>(Zlr P w K mg base 9 (D.mono ()) (Xc (pv 2) d.ZO d.Kg.me (Zcb d) (D.mono ()) d.Kg.b .nil B2 (Zh (pv 1))) (Zh (pv 0))))) (Zg (ZA 6 XJ.nd (Yu D (Yu D (pv 1) Zs) (pv 8))) (Zf (ZA 7 XJ.nd (WI (pv 7) (X6 (Y7 (wN D.units0) (pv 9) (Wv (cl:=[(OK "_law_told",s.heap.objs.size+3)]) (N:=["_law_day","_law_told"]) (fr:=[none,some 6]) R (VW R d.Ul (Zh Za)) R () R () ⟨⟨R,Or.inl R,Or.inl R,_,R,R⟩,trivial⟩ ⟨R,trivial⟩ R (λ_ _ _ _ _=>(Yl 0 (show List.Nodup (["_law_day","_law_told"]:OC) by lia))) (λ_ _ _ _ _=>Wu) (λ_ _ _ _ _=>(ZD d.WV (ZkS d 8) D Zu (Zq (pv 1) (pv 0))))) (Xq _)))))))))))) (Zf (ZC (ZZ Ye (pv 2) Za) (Zg (Q3 (i:=4) (j:=5) R XJ.nd R R () R R (Zq (F8 (pv 0) d.ZO d.zG.me (ZkE d) (D.mono ()) d.zG.b .nil Zu) (Z2 (VJ R) R d.YU YT (Zh (Yu D (pv 1) Zs)))) R) (Zg (ZA 6 XJ.nd (Wv (cl:=[(OK "_law_net",s.heap.objs.size+1)]) (N:=["_law_name_here","_law_net"]) (fr:=[none,some 0]) R (Xx (pv 5)) R () R () ⟨⟨R,Or.inl R,Or.inl R,_,R,R⟩,trivial⟩ ⟨R,trivial⟩ R (λ_ _ _ _ _=>(Yl 0 (show List.Nodup (["_law_name_here","_law_net"]:OC) by lia))) (λ_ _ _ _ _=>Wu) (λ_ _ _ _ _=>(Xc (pv 1) d.ZO d.Kh.me (Zcc d) (D.mono ()) d.Kh.b .nil B2 (Zh (pv 0)))))) (Zg (ZA 7 XJ.nd (Y7 (G8 D.units) (pv 6) (Wv (cl:=[(OK "_law_world_here",s.heap.objs.size+2)]) (N:=["_law_name_here","_law_world_here"]) (fr:=[none,some 1]) R (Xx (pv 5)) R () R () ⟨⟨R,Or.inl R,Or.inl R,_,R,R⟩,trivial⟩ ⟨R,trivial⟩ R (λ_ _ _ _ _=>(Yl 0 (show List.Nodup (["_law_name_here","_law_world_here"]:OC) by lia))) (λ_ _ _ _ _=>Wu) (λ_ _ _ _ _=>(Yu D (Yu D (pv 1) Zs) (pv 0)))) (Xq _))) (Zf (W8 (Xx (pv 6)) (Yl 10 XJ.nd) (Zf (Yk (Vi PySem.F.plainAttrs_list PySem.F.slot_list_append PySem.F.type_list_append VC (Zr ZV (pv 10) Za) (Zh Za))))))))) (Zg (Q3 (i:=4) (j:=5) R XJ.nd R R () R R (Zq (F8 (pv 0) d.ZO d.zH.me (ZkF d) (D.mono ()) d.zH.b .nil Zu) (Z2 (VJ R) R d.YU YT (Zh (Yu D (pv 1) Zs)))) R) (Zg (ZA 6 XJ.nd (Wv (cl:=[(OK "_law_net",s.heap.objs.size+1)]) (N:=["_law_trip","_law_net"]) (fr:=[none,some 0]) R (Xx (pv 5)) R () R () ⟨⟨R,Or.inl R,Or.inl R,_,R,R⟩,trivial⟩ ⟨R,trivial⟩ R (λ_ _ _ _ _=>(Yl 0 (show List.Nodup (["_law_trip","_law_net"]:OC) by lia))) (λ_ _ _ _ _=>Wu) (λ_ _ _ _ _=>(YH (Zq (Xc (pv 1) d.ZO d.Ki.me (Zcd d) (D.mono ()) d.Ki.b .nil B2 (Zh (pv 0))) (Xc (pv 1) d.ZO d.Kj.me (Zce d) (D.mono ()) d.Kj.b .nil B2 (Zh (pv 0)))))))) (Zg (ZA 7 XJ.nd (Y7 (G8 D.units) (pv 6) (Wv (cl:=[(OK "_law_world_here",s.heap.objs.size+2)]) (N:=["_law_trip","_law_world_here"]) (fr:=[none,some 1]) R (Xx (pv 5)) R () R () ⟨⟨R,Or.inl R,Or.inl R,_,R,R⟩,trivial⟩ ⟨R,trivial⟩ R (λ_ _ _ _ _=>(Yl 0 (show List.Nodup (["_law_trip","_law_world_here"]:OC) by lia))) (λ_ _ _ _ _=>Wu) (λ_ _ _ _ _=>(Yu D (Yu D (pv 1) Zs) (pv 0)))) (Xq _))) (Zf (W8 (Xx (pv 6)) (Yl 11 XJ.nd) (Zf (Yk (MZ PySem.F.plainAttrs_list PySem.F.slot_list_clear PySem.F.type_list_clear wE (Zr ZV (pv 11) Za)))))))))))))))) (Zg (ZC (PW.pt (Vf (ZX (ZW (ZN X9 d.Yy Yx (Zq (pv 4) (X0 R d.YU YT))))) (Vf (ZZ (Li D.units) (pv 4) (pv 5)) (Vu (ZX (ZW (pv 7))))))) (Zf (Zw YY)) ZK) (Zg (Yk (Vi PySem.F.plainAttrs_list PySem.F.slot_list_append PySem.F.type_list_append VC (pv 4) (Zh Zs))) (Zg (Yk (Vi PySem.F.plainAttrs_list PySem.F.slot_list_append PySem.F.type_list_append VC (pv 3) (Zh (YH (Zq (pv 4) (Z2 VB R d.YU YT (Zh (pv 4)))))))) (Zf (Zw YY)))))),?_⟩];erw[⟨λg u=>∃(y:Addr) (dv:V) (xs:List V) (ds:List PyData) (v6 v8 v9 j0 f0:Option V),Zc H u/\H y=none/\u y=some (.lst xs)/\xs.length<=12/\YD K (WO (y::b0) u) xs ds/\DV K u dv (.list ds)/\(PyData.list ds).depth<=10/\g=[some (.ref sd.n),some (.ref sd.wd),some (.int k),some (.ref lo),some (.ref y),some dv,v6,some (.bl true),v8,v9,j0,f0],?_,?_⟩];erw[⟨_,R,R,_,R,Xs (λh=>?_) (λh0=>?_)⟩];ext⟨rows,d1,d2⟩ E.wr.st;erw[⟨_,R,sd.n,dx,_,R,e1,e2.n_stops,sd.n,N,R,⟨sd.a,E.no⟩,λy L=>?_⟩];exists H,y,X,s1,L,c1;erw[⟨_,R,sd.wd,_,R,(E.wr.same s1).gS,sd.b.ds,rows,R,s1 _ _ d1,λdl gd=>?_⟩];rw[VR (λQ x (h:Yo H Q x)=>h.1) d2];generalize c:Zb X dl _=J;have s2:=s1.trans (Z0 gd c);have f2:=Z0 gd c _ _ c1;have U:=Z7 c;clear c;erw[⟨_,_,R,?_⟩];have l8:((N.st.map Yg.nm).map V.str).length<=8:=by rw[Sv,Sv];exact ok.s8
 erw[⟨_,R,y,R,⟨_,Ze.of f2⟩,WL (K:=K) (a:=y) (xs:=(N.st.map Yg.nm).map V.str) (λi B g u=>Zc J u/\YD K u B ((N.st.take i).map dS)/\∃v,g=[v,some (.ref sd.n)]) ⟨Zc.refl _,.nil,_,R⟩ (Sh l8 ()) (λi B g u _ ⟨s',_⟩=>Ze.of (s' _ _ f2)) ?_ ?_⟩];rintro i v B g Y hi C ⟨s3,a0,v0,rfl⟩;rw[Oa,Oa]at C;obtain⟨z,ez,rfl⟩:=Of.mp C;obtain⟨x,ex,rfl⟩:=Of.mp ez;have M:=SJ ex;have S3:=s2.trans s3;have j1:=E.no.same S3;dsimp only[YK,Wb];rw[SW R];have e0:Yv Yg.nm N.st (.str x.nm)=true:=D2 (SI.mpr ⟨x,M,R⟩);erw[⟨_,R,sd.n,dx,_,R,S3 _ _ e1,e2.n_zone,_,R,sd.n,N,.str x.nm,_,R,⟨sd.a,j1⟩,.str _,λb=>(by rw[e0]at b;cases b),λg0 ey fy=>?_⟩];obtain rfl:=E5 ok.sn M ey fy;erw[⟨_,R,sd.n,dx,_,R,S3 _ _ e1,e2.n_change,_,R,sd.n,N,.str g0.nm,_,R,⟨sd.a,j1⟩,.str _,λb=>(by rw[e0]at b;cases b),λy' ey fy=>?_⟩];obtain rfl:=E5 ok.sn M ey fy;erw[⟨zL9 R,λp hp=>⟨by rw[Su,Sw];lia,s3.trans (Zt hp _),?_,_,R⟩⟩];rw[S0,ex,SK];exact D9 (a0.same (Zt hp _)) (.tup (Zk.of Zj) (.cons (.int _) (.cons (.int _) .nil)));rintro B g Y ha ⟨s3,a0,v0,rfl⟩ tl gt;rw[Sv,Sv,List.take_length]at a0;exists Y,tl,O,s4,gt,c4;have I:=(s2.trans s3).trans s4;erw[⟨_,R,_,R,sd.wd,_,R,(E.wr.same I).gS,.inr (.inr (.inl ⟨R,.inl ⟨_,I _ _ d1⟩⟩)),sd.b.ds,rows,R,R,I _ _ d1,λvw gv=>?_⟩];exists O,vw,H5,s5,gv,c5;have S5:=I.trans s5;erw[⟨vw,sd.b.ds,rows,R,c5,S5 _ _ d1,λvl gl=>?_⟩];exists H5,vl,H6,G,gl,c6;have S6:=S5.trans G;have k0:DV K H6 (.ref tl) (.list (N.st.map dS)):=.lst (Ze.of (G _ _ (s5 _ _ c4))) (a0.same ((s4.trans s5).trans G));erw[⟨_,_,k0,.lst (Ze.of c6) (Zlx (f:=dS) d2 λQ x _ ⟨_,r,er,D⟩=>by rw[er];exact .tup (Zk.of (S6 _ _ D)) (.cons (.int _) (.cons (.int _) .nil))),Sh (MC Zlt _) (),?_⟩];rw[SeqAt.eqv_refl _ k0.can];have u6:=((s3.trans s4).trans s5).trans G;exact o0 (N.st.map Yg.nm) y dl H6 _ _ _ _ _ (λz hz=>by obtain⟨x,hx,rfl⟩:=SI.mp hz;exact ok.so x hx) (by rw[Sv];have:=ok.s8;lia) S6 L (u6 _ _ f2) (u6 _ _ U);erw[⟨_,R,R,_,R,Xs (λh=>?_) (λh1=>?_)⟩];ext⟨vw,w1,w2⟩ E.wr.wk;erw[⟨_,R,sd.n,dx,_,R,e1,e2.n_walks,sd.n,N,R,⟨sd.a,E.no⟩,λy xs L S=>?_⟩];exists H,y,X,s1,L,c1;have lx:=S.length;have w12:=ok.w12;erw[⟨_,R,sd.wd,_,R,(E.wr.same s1).gW,_,_,R,?_⟩];erw[⟨_,R,y,R,⟨_,Ze.of c1⟩,WL (K:=K) (a:=y) (xs:=xs) (λi B g u=>u=X/\B=[]/\∃v,g=[v]) ⟨R,R,_,R⟩ (Sh (show _<=12 by lia) ()) (λi B g u _ ⟨e,_⟩=>by rw[e];exact Ze.of c1) ?_ ?_⟩];rintro i v B g J hi C ⟨rfl,rfl,v0,rfl⟩;obtain⟨x,ex,p,rfl,hp⟩:=S.get C;dsimp only[YK];exact⟨_,R,.ref p,"tuple",_,_,R,.tup (s1 _ _ hp),R,_,R,Zi () ⟨(),R,R,_,R⟩⟩;rintro B g J ha ⟨rfl,rfl,v0,rfl⟩ pc gc;have s2:=Zt gc (.lst []);erw[⟨zL9 R,λp2 g2=>?_⟩];have s3:=Zt g2 (.lst []);have S3:=s2.trans s3;erw[⟨pc,p2,_,R,R,Ze.of (s3 _ _ Zj),Ze.of Zj,?_⟩];have l0:=s1.trans S3;have hf:=S3 _ _ c1;generalize Zb (Zb J pc (.lst [])) p2 (.lst [])=O at l0 hf ⊢;erw[⟨y,.ref sd.b.lw,xs,N.wk.map dW,_,_,_,_,_,l0,L,hf,(),KU S λv g0 hy ⟨p,e,hp⟩=>?_,.lst (Ze.of (l0 _ _ w1)) (KU w2 λv g0 hy h=>YF.dv (h.same l0) (ok.wo g0 hy)),Sh (MC Zls _) (),R⟩];erw[YF.dv ⟨p,e,MB (l0 _ _ hp) λz=>?_⟩ (ok.wo g0 hy)];rcases SE.mp z with rfl|z;rw[l0 _ _ hp]at hf;cases hf;exact mk.tup l0 (l0 _ _ hp) z;erw[⟨_,R,R,_,R,Xs (λh=>?_) (λh2=>?_)⟩];ext⟨rows,d1,d2⟩ E.wr.ru;erw[⟨_,R,sd.n,dx,_,R,e1,e2.n_rules,sd.n,N,R,⟨sd.a,E.no⟩,λy L=>?_⟩];exists H,y,X,s1,L,c1;erw[⟨_,R,sd.wd,_,R,(E.wr.same s1).gR,sd.b.dr,rows,R,s1 _ _ d1,λdl gd=>?_⟩];rw[VR (λQ x (h:Xb H Q x)=>h.1) d2];generalize c:Zb X dl _=J;have s2:=s1.trans (Z0 gd c);have f2:=Z0 gd c _ _ c1;have U:=Z7 c;clear c;erw[⟨_,_,R,?_⟩];dsimp only[Yj];erw[⟨_,R,dl,R,⟨_,Ze.of U⟩,F4 (K:=K) (a:=dl) (xs:=(N.ru.map Xm.nm).map V.str) (λi g u=>Zc J u/\∃v6 v8 v9:Option V,g=[some (.ref sd.n),some (.ref sd.wd),some (.int k),some (.ref lo),some (.ref y),some (.ref dl),v6,some (.bl true),v8,v9,none,none]) ⟨Zc.refl _,_,_,_,R⟩ (λi g u _ ⟨s',_⟩=>Ze.of (s' _ _ U)) ?_ ?_⟩];rintro i v g Y C ⟨s3,v6,v8,v9,rfl⟩;rw[Oa,Oa]at C;obtain⟨z,ez,rfl⟩:=Of.mp C;obtain⟨x,ex,rfl⟩:=Of.mp ez;have M:=SJ ex;have u0:=(ok.ro x M).2;have S3:=s2.trans s3;have e0:Yv Xm.nm N.ru (.str x.nm)=true:=D2 (SI.mpr ⟨x,M,R⟩);erw[⟨_,R,(),(),G7 (lo:=0) (n:=9) (λi B g u=>Zc Y u/\B=((List.range i).map λc0=>x.r.runs c0).map V.bl/\∃v,g=[v,some (.str x.nm),some (.ref sd.n)]) ⟨Zc.refl _,R,_,R⟩ () ?_ ?_⟩];rintro c0 B g O hd ha ⟨s4,rfl,v0,rfl⟩;have I:=S3.trans s4;dsimp only[YK,Wb];rw[SW R];erw[⟨_,R,sd.n,dx,_,R,I _ _ e1,e2.n_rule,_,R,sd.n,N,.str x.nm,_,R,⟨sd.a,E.no.same I⟩,ok,.str _,λb=>(by rw[e0]at b;cases b),λg0 ey fy v' H5 s5 r0=>?_⟩];obtain rfl:=E5 ok.rn M ey fy;ext⟨b,rfl,hb⟩ r0;rw[d.kf]at hb;obtain⟨q1,p1,r1,f,fd,sp,g1,g2,g3,g4,g5,g6,g7⟩:=(Zbv (P:=P) (w:=w) (mg:=mg) (base:=base) d 8).at d hb u0.2.2;rw[Int.zero_add];erw[⟨b,q1,p1,r1,f,fd,_,sp,R,g1,g2,g3,g4,g5,g6,_,R,g7 c0 _ ⟨by rw[Su,Sw];lia,s4.trans s5,?_,_,R⟩⟩];rw[Oj,SK,SK];rfl;rintro B g O ha ⟨s4,rfl,v0,rfl⟩ ld gl;generalize c:Zb O ld _=H5;have s5:=s4.trans (Z0 gl c);have c5:=Z7 c;clear c;have S5:=S3.trans s5;obtain⟨Q,ev,_,tp,ht⟩:=(UI (λQ x (h:Xb H Q x)=>h.1) d2 x.nm).2 x (Mm ok.rn M);erw[⟨_,R,sd.wd,_,R,(E.wr.same S5).gR,_,R,sd.b.dr,_,R,.inl ⟨rows,Sum.inr x.nm,.inl (S5 _ _ d1),R,ev.symm⟩,?_⟩];erw[⟨_,R,_,R,Zo R ⟨_,R,_,R,(),(),G7 (lo:=0) (n:=9) (λi B g u=>Zc H5 u/\B=((List.range i).map λc0=>x.r.runs c0).map V.bl/\∃v,g=[v,some Q.2]) ⟨Zc.refl _,R,_,R⟩ () ?_ ?_⟩⟩];rintro c0 B g H6 hd ha ⟨G,rfl,v0,rfl⟩;dsimp only[YK,Wb];rw[SW R,Int.zero_add];erw[⟨_,R,_,R,tp,Q.2,x.r,c0,R,ht.same (S5.trans G),u0.1,u0.2.2,λH7 s7=>⟨by rw[Su,Sw];lia,G.trans s7,?_,_,R⟩⟩];rw[Oj,SK,SK];rfl;rintro B g H6 ha ⟨G,rfl,v0,rfl⟩ lx gx;have s7:=Zt gx (.lst (((List.range 9).map λc0=>x.r.runs c0).map V.bl));erw[⟨ld,lx,_,_,R,R,Ze.of (s7 _ _ (G _ _ c5)),Ze.of Zj,ZcD _,ZcD _,?_⟩];show YK 7 (V.bl (WK _ _)) _ _ _;rw[ZcC];exact⟨((s3.trans s5).trans G).trans s7,_,_,_,R⟩;rintro g Y ⟨s3,v6,v8,v9,rfl⟩;exact o0 (N.ru.map Xm.nm) y dl Y _ _ _ _ _ (λz hz=>by obtain⟨x,hx,rfl⟩:=SI.mp hz;exact(ok.ro x hx).1) (by rw[Sv];have:=ok.r6;lia) (s2.trans s3) L (s3 _ _ f2) (s3 _ _ U);erw[⟨_,R,R,_,R,Xs (λh=>?_) (λh3=>?_)⟩];ext⟨rows,d1,d2⟩ E.wr.tk;erw[⟨_,R,sd.n,dx,_,R,e1,e2.n_tickets,sd.n,N,R,⟨sd.a,E.no⟩,λy L=>?_⟩];exists H,y,X,s1,L,c1;erw[⟨_,R,sd.wd,_,R,(E.wr.same s1).gT,sd.b.dt,rows,R,s1 _ _ d1,λdl gd=>?_⟩];rw[VR (λQ x (h:Xo H Q x)=>h.1) d2];generalize c:Zb X dl _=J;have s2:=s1.trans (Z0 gd c);have f2:=Z0 gd c _ _ c1;have U:=Z7 c;clear c;erw[⟨_,_,R,?_⟩];have l3:((N.tk.map Xw.nm).map V.str).length<=3:=by rw[Sv,Sv];exact ok.t3
 erw[⟨_,R,dl,R,⟨_,Ze.of U⟩,WL (K:=K) (a:=dl) (xs:=(N.tk.map Xw.nm).map V.str) (λi B g u=>Zc J u/\Al (D3 J u) B (N.tk.take i)/\∃v,g=[v,some (.ref sd.n)]) ⟨Zc.refl _,.nil,_,R⟩ (Sh l3 ()) (λi B g u _ ⟨s',_⟩=>Ze.of (s' _ _ U)) ?_ ?_⟩];rintro i v B g Y hi C ⟨s3,S,v0,rfl⟩;rw[Oa,Oa]at C;obtain⟨z,ez,rfl⟩:=Of.mp C;obtain⟨x,ex,rfl⟩:=Of.mp ez;have M:=SJ ex;have S3:=s2.trans s3;dsimp only[YK,Wb];rw[SW R];have e0:Yv Xw.nm N.tk (.str x.nm)=true:=D2 (SI.mpr ⟨x,M,R⟩);erw[⟨_,R,sd.n,dx,_,R,S3 _ _ e1,e2.n_ticket,_,R,sd.n,N,.str x.nm,_,R,⟨sd.a,E.no.same S3⟩,.str _,λb=>(by rw[e0]at b;cases b),λg0 ey fy v' O s4 r0=>?_⟩];obtain rfl:=E5 ok.tn M ey fy;erw[⟨by rw[Su,Sw];lia,s3.trans s4,?_,_,R⟩];rw[S0,ex];ext⟨r,l,k1,Z,k3,T⟩ r0;exact(S.imp λ_ _=>D3.same s4).snoc ⟨r,l,k1,Z,s3.free k3,T⟩;rintro B g Y ha ⟨s3,S,v0,rfl⟩ tl gt;rw[Sv,Sv,List.take_length]at S;have y0:∀v∈B,UN J Y tl 2 10 v:=λv C=>by
  obtain⟨i,hi⟩:=List.mem_iff_getElem?.mp C;obtain⟨x,ex,r,l,k1,Z,k3,T⟩:=S.get hi;have z6:=(ok.to x (SJ ex)).z6;exact⟨r,_,l,_,k1,Z,R,k3,Z1 T gt,T,by unfold YL;rw[Sv];lia⟩
 exists Y,tl,O,s4,gt,c4;have I:=(s2.trans s3).trans s4;have la:=S.length;have t3:=ok.t3;have m0:=s4 _ _ (s3 _ _ U);erw[⟨_,R,_,R,dl,R,⟨_,Ze.of m0⟩,WL (K:=K) (a:=dl) (xs:=(N.tk.map Xw.nm).map V.str) (λi B g u=>u=O/\YD K O B ((N.tk.take i).map dK)/\∃v,g=[v,some (.ref sd.wd)]) ⟨R,.nil,_,R⟩ (Sh l3 ()) (λi B g u _ ⟨e,_⟩=>by rw[e];exact Ze.of m0) ?_ ?_⟩];rintro i v x0 g H5 hi C ⟨rfl,a0,v0,rfl⟩;rw[Oa,Oa]at C;obtain⟨z,ez,rfl⟩:=Of.mp C;obtain⟨x,ex,rfl⟩:=Of.mp ez;have M:=SJ ex;dsimp only[YK,Wb];rw[SW R];obtain⟨Q,ev,hk⟩:=(UI (λQ x (h:Xo H Q x)=>h.1) d2 x.nm).2 x (Mm ok.tn M);erw[⟨_,R,sd.wd,_,R,(E.wr.same I).gT,_,R,sd.b.dt,_,R,.inl ⟨rows,Sum.inr x.nm,.inl (I _ _ d1),R,ev.symm⟩,by rw[Su,Sw];lia,R,?_,_,R⟩];rw[S0,ex,SK];ext⟨_,r,z,er,Z,k3⟩ hk;rw[er];exact D9 a0 (.tup (Zk.of (I _ _ Z)) (.cons (.int _) (.cons (.int _) (.cons (.lst (Ze.of (I _ _ k3)) (KR _)) .nil))));rintro x0 g H5 o1 ⟨rfl,a0,v0,rfl⟩ l5 g5;rw[Sv,Sv,List.take_length]at a0;exists H5,l5,H6,G,g5,c6;have k0:DV K H6 (.ref tl) (.list (N.tk.map dK)):=.lst (Ze.of (G _ _ c4)) (KU S λv x _ ⟨r,l,k1,Z,_,T⟩=>by rw[k1];exact .tup (Zk.of (G _ _ (s4 _ _ Z))) (.cons (.int _) (.cons (.int _) (.cons (.lst (Ze.of (G _ _ (s4 _ _ T))) (KR _)) .nil))));erw[⟨_,_,k0,.lst (Ze.of c6) (a0.same G),Sh (MC Zlu _) (),?_⟩];show YK 7 (V.bl (PyData.eqv _ _)) _ _ _;rw[SeqAt.eqv_refl _ k0.can];have u6:=(s3.trans s4).trans G;have c7:=G _ _ c4;erw[⟨_,R,tl,R,⟨_,Ze.of c7⟩,F4 (K:=K) (a:=tl) (xs:=B) (λi g u=>Zc J u/\u tl=some (.lst B)/\(∀v∈B,UN J u tl 2 (10+i) v)/\∃j0:Option V,g=[some (.ref sd.n),some (.ref sd.wd),some (.int k),some (.ref lo),some (.ref y),some (.ref dl),some (.ref tl),some (.bl true),none,none,j0,none]) ⟨u6,c7,λv C=>(y0 v C).same (s4.trans G),_,R⟩ (λi g u _ ⟨_,h,_⟩=>Ze.of h) ?_ ?_⟩];rintro i v g H7 C ⟨s7,h7,t7,j0,rfl⟩;have hi:=(Sr.mp C).1;obtain⟨r,ws,l,ys,rfl,Z,k3,T,k5,k6,k7⟩:=t7 v (SJ C);erw[⟨_,R,r,ws,2,_,R,R,Zk.of Z,Qh k3,.inl ⟨R,_,Ze.of k6⟩,l,_,_,R,R,k6,Sj (show _<=20 by lia) (),Vm s7 T _,by rwa[Zm k5.symm],λw0 hu=>(t7 w0 hu).put k6 (by rw[Su,Sw];lia),_,R⟩];rintro g H7 ⟨s7,h7,t7,j0,rfl⟩;exact o0 (N.tk.map Xw.nm) y dl H7 _ _ _ _ _ (λz hz=>by obtain⟨x,hx,rfl⟩:=SI.mp hz;exact(ok.to x hx).nm) (by rw[Sv];lia) (s2.trans s7) L (s7 _ _ f2) (s7 _ _ U);ext⟨rows,d1,d2⟩ E.wr.tp;erw[⟨_,R,sd.n,dx,_,R,e1,e2.n_trips,sd.n,N,R,⟨sd.a,E.no⟩,λy L=>?_⟩];exists H,y,X,s1,L,c1;erw[⟨_,R,sd.wd,_,R,(E.wr.same s1).gP,sd.b.dp,rows,R,s1 _ _ d1,λdl gd=>?_⟩];rw[VR (λQ x (h:Xp H Q x)=>h.1) d2];generalize c:Zb X dl _=J;have s2:=s1.trans (Z0 gd c);have f2:=Z0 gd c _ _ c1;have U:=Z7 c;clear c;erw[⟨_,_,R,?_⟩];have i1:((N.tp.map Tp.nm).map V.str).length<=10:=by rw[Sv,Sv];exact ok.p10
 erw[⟨_,R,dl,R,⟨_,Ze.of U⟩,WL (K:=K) (a:=dl) (xs:=(N.tp.map Tp.nm).map V.str) (λi B g u=>Zc J u/\Al (KW J u) B (N.tp.take i)/\∃v,g=[v,some (.ref sd.n)]) ⟨Zc.refl _,.nil,_,R⟩ (Sh i1 ()) (λi B g u _ ⟨s',_⟩=>Ze.of (s' _ _ U)) ?_ ?_⟩];rintro i v B g Y hi C ⟨s3,S,v0,rfl⟩;rw[Oa,Oa]at C;obtain⟨z,ez,rfl⟩:=Of.mp C;obtain⟨x,ex,rfl⟩:=Of.mp ez;have M:=SJ ex;have S3:=s2.trans s3;dsimp only[YK,Wb];rw[SW R];have e0:Yv Tp.nm N.tp (.str x.nm)=true:=D2 (SI.mpr ⟨x,M,R⟩);erw[⟨_,R,sd.n,dx,_,R,S3 _ _ e1,e2.n_rule_name,_,R,sd.n,N,.str x.nm,_,R,⟨sd.a,E.no.same S3⟩,.str _,λb=>(by rw[e0]at b;cases b),λg0 ey fy=>?_⟩];obtain rfl:=E5 ok.pn M ey fy;erw[⟨_,R,sd.n,dx,_,R,S3 _ _ e1,e2.n_calls,_,R,sd.n,N,.str g0.nm,_,R,⟨sd.a,E.no.same S3⟩,.str _,λb=>(by rw[e0]at b;cases b),λy' ey fy l us O s4 k3 T k5=>?_⟩];obtain rfl:=E5 ok.pn M ey fy;erw[⟨zL9 R,λr gr=>⟨by rw[Su,Sw];lia,(s3.trans s4).trans (Zt gr _),?_,_,R⟩⟩];have s5:=Zt gr (.tup [.str y'.ru,.ref l]);rw[S0,ex];exact(S.imp λ_ _=>KW.same (s4.trans s5)).snoc ⟨r,l,us,R,Zj,s3.free k3,s5 _ _ T,k5.imp λ_ _=>Yd.same s5⟩;rintro B g Y ha ⟨s3,S,v0,rfl⟩ tl gt;rw[Sv,Sv,List.take_length]at S;have y0:∀v∈B,UN J Y tl 1 10 v:=λv C=>by
  obtain⟨i,hi⟩:=List.mem_iff_getElem?.mp C;obtain⟨x,ex,r,l,us,k1,Z,k3,T,k5⟩:=S.get hi;have z6:=(ok.po x (SJ ex)).2.2.2.1;have:=k5.length;exact⟨r,_,l,_,k1,Z,R,k3,Z1 T gt,T,()⟩
 exists Y,tl,O,s4,gt,c4;have I:=(s2.trans s3).trans s4;have la:=S.length;have t3:=ok.p10;have m0:=s4 _ _ (s3 _ _ U);have a1:∀{u:Hp} {us:List V} {x:Tp},x∈N.tp->Al (Yd u) us x.cs->YD K u us (x.cs.map dC):=λhx S=>KU S λv t1 hc h=>h.dv ((ok.po _ hx).2.2.2.2 t1 hc);erw[⟨_,R,_,R,dl,R,⟨_,Ze.of m0⟩,WL (K:=K) (a:=dl) (xs:=(N.tp.map Tp.nm).map V.str) (λi B g u=>u=O/\YD K O B ((N.tp.take i).map dT)/\∃v,g=[v,some (.ref sd.wd)]) ⟨R,.nil,_,R⟩ (Sh i1 ()) (λi B g u _ ⟨e,_⟩=>by rw[e];exact Ze.of m0) ?_ ?_⟩];rintro i v x0 g H5 hi C ⟨rfl,a0,v0,rfl⟩;rw[Oa,Oa]at C;obtain⟨z,ez,rfl⟩:=Of.mp C;obtain⟨x,ex,rfl⟩:=Of.mp ez;have M:=SJ ex;dsimp only[YK,Wb];rw[SW R];obtain⟨Q,ev,hk⟩:=(UI (λQ x (h:Xp H Q x)=>h.1) d2 x.nm).2 x (Mm ok.pn M);erw[⟨_,R,sd.wd,_,R,(E.wr.same I).gP,_,R,sd.b.dp,_,R,.inl ⟨rows,Sum.inr x.nm,.inl (I _ _ d1),R,ev.symm⟩,by rw[Su,Sw];lia,R,?_,_,R⟩];rw[S0,ex,SK];ext⟨_,r,l,us,er,Z,k3,T⟩ hk;rw[er];exact D9 a0 (.tup (Zk.of (I _ _ Z)) (.cons (.str _ (VQ (ok.po x M).2.1)) (.cons (.lst (Ze.of (I _ _ k3)) (a1 M (T.imp λ_ _=>Yd.same I))) .nil)));rintro x0 g H5 o1 ⟨rfl,a0,v0,rfl⟩ l5 g5;rw[Sv,Sv,List.take_length]at a0;exists H5,l5,H6,G,g5,c6;have n0:=s4.trans G;have k0:DV K H6 (.ref tl) (.list (N.tp.map dT)):=.lst (Ze.of (G _ _ c4)) (KU S λv x hx ⟨r,l,us,k1,Z,_,T,k5⟩=>by rw[k1];exact .tup (Zk.of (n0 _ _ Z)) (.cons (.str _ (VQ (ok.po x hx).2.1)) (.cons (.lst (Ze.of (n0 _ _ T)) (a1 hx (k5.imp λ_ _=>Yd.same n0))) .nil)));erw[⟨_,_,k0,.lst (Ze.of c6) (a0.same G),Sh (MC Zlw _) (),?_⟩];show YK 7 (V.bl (PyData.eqv _ _)) _ _ _;rw[SeqAt.eqv_refl _ k0.can];have u6:=(s3.trans s4).trans G;have c7:=G _ _ c4;erw[⟨_,R,tl,R,⟨_,Ze.of c7⟩,F4 (K:=K) (a:=tl) (xs:=B) (λi g u=>Zc J u/\u tl=some (.lst B)/\(∀v∈B,UN J u tl 1 (10+i) v)/\∃f0:Option V,g=[some (.ref sd.n),some (.ref sd.wd),some (.int k),some (.ref lo),some (.ref y),some (.ref dl),some (.ref tl),some (.bl true),none,none,none,f0]) ⟨u6,c7,λv C=>(y0 v C).same n0,_,R⟩ (λi g u _ ⟨_,h,_⟩=>Ze.of h) ?_ ?_⟩];rintro i v g H7 C ⟨s7,h7,t7,f0,rfl⟩;obtain⟨r,ws,l,ys,rfl,Z,k3,T,k5,k6,k7⟩:=t7 v (SJ C);exact⟨_,R,r,ws,1,_,R,R,Zk.of Z,Qh k3,.inl ⟨R,_,Ze.of k6⟩,l,_,R,R,k6,Vm s7 T _,by rwa[Zm k5.symm],λw0 hu=>(t7 w0 hu).put k6 (Sk _),_,R⟩;rintro g H7 ⟨s7,h7,t7,f0,rfl⟩;exact o0 (N.tp.map Tp.nm) y dl H7 _ _ _ _ _ (λz hz=>by obtain⟨x,hx,rfl⟩:=SI.mp hz;exact(ok.po x hx).1) (by rw[Sv];lia) (s2.trans s7) L (s7 _ _ f2) (s7 _ _ U);rintro g X ⟨y,dv,xs,ds,v6,v8,v9,j0,f0,s1,L,hf,b1,a0,hd,dp,rfl⟩;have cs:Zc (WO (y::b0) X) X:=λa o e=>(KS e).2;have df:DV K X (.ref y) (.list ds):=.lst (Ze.of hf) (a0.same cs);erw[⟨_,R,.ref y,"list",_,_,R,.lst hf,R,_,R,Zi () ⟨_,R,_,R,_,_,df,hd,(),_,R,Zi (by rw[SeqAt.eqv_refl _ df.can];lia) ⟨_,R,_,R,Zi () ?_⟩⟩⟩];erw[⟨_,R,.inl ⟨R,_,Ze.of hf⟩,y,_,_,R,R,hf,Sj b1 (),?_⟩];ext⟨vs,ho,lv,m1⟩ hO.ex;have v1:y≠lo:=λz=>by rw[z,ho]at L;cases L
 have s2:=Vm s1 L (.lst (xs++[.str (OK "more")]));have U:Zb X y (.lst (xs++[.str (OK "more")])) y=some (.lst (xs++[.str (OK "more")])):=Zj;have o2:YA (y::b0) X (Zb X y (.lst (xs++[.str (OK "more")]))):=λx o e m=>by rwa[Zm λz=>m (SE.mpr (.inl z))]
 generalize Zb X y (.lst (xs++[.str (OK "more")]))=J at s2 U o2 ⊢;erw[⟨_,R,.inl ⟨R,_,Ze.of (s2 _ _ ho)⟩,_,R,_,R,y,_,R,.inl (Ze.of U),λd0 gg=>⟨zL9 R,λp gp=>?_⟩⟩];have s3:=Zt gg (.lst (xs++[.str (OK "more")]));have c3:Zb J d0 (.lst (xs++[.str (OK "more")])) d0=some (.lst (xs++[.str (OK "more")])):=Zj;generalize Zb J d0 (.lst (xs++[.str (OK "more")]))=Y at s3 c3 gp ⊢;have s4:=Zt gp (.tup [.ref y,.ref d0]);have c4:Zb Y p (.tup [.ref y,.ref d0]) p=some (.tup [.ref y,.ref d0]):=Zj;have np:H p=none:=(s2.trans s3).free gp;have ng:H d0=none:=s2.free gg;generalize Zb Y p (.tup [.ref y,.ref d0])=O at s4 c4 ⊢;have t0:=s3.trans s4;have I:=s2.trans t0;erw[⟨lo,_,_,R,R,I _ _ ho,Sj (show _<=1000 by lia) (),?_⟩];erw[q _ (WD I) ⟨_,Zj,by rw[Su,Sw];lia,λv C=>?_⟩];have oH:YA b0 H (Zb O lo (.lst (vs++[.ref p]))):=λx o e m=>by rw[Zm λz=>m (by rwa[z])];exact I _ _ e
 have o5:YA (y::b0) J (Zb O lo (.lst (vs++[.ref p]))):=λx o e m=>by rw[Zm λz=>m (by rw[z];exact SB _ q0)];exact t0 _ _ e
 have z0:∀{a o},O a=some o->a∉b0->WO b0 (Zb O lo (.lst (vs++[.ref p]))) a=some o:=λe m=>MB (by rwa[Zm λz=>m (by rw[z];exact q0)]) m;rcases SF.mp C with C|C;obtain⟨p',f,g',c0,e1,e2,e3,e4,e5⟩:=m1 v C;have s:=ZcB oH;exact⟨p',f,g',c0,e1,s _ _ e2,e3.same s,e4.same s,e5⟩;have s5:Zc (WO (y::b0) X) (WO b0 (Zb O lo (.lst (vs++[.ref p])))):=λa o e=>by
  obtain⟨m,e⟩:=KS e;have m':a∉b0:=λz=>m (SB _ z);exact MB (o5 a o (o2 a o e m) m) m'
 have dm:YD K (WO b0 (Zb O lo (.lst (vs++[.ref p])))) (xs++[.str (OK "more")]) (ds++[.str (OK "more")]):=D9 (a0.same s5) (.str _ ());erw[⟨p,y,d0,.list (ds++[.str (OK "more")]),SD.mp C,z0 c4 (mk.nin np),.lst (Ze.of (z0 (t0 _ _ U) (mk.nin L))) dm,.lst (Ze.of (z0 (s4 _ _ c3) (mk.nin ng))) dm,?_⟩];have:∀l:List PyData,PyData.depthAll (l++[.str (OK "more")])<=PyData.depthAll l:=λl=>by
  induction l with
  |nil=>simp[PyData.depthAll,PyData.depth]
  |cons x r ih=>simp only[List.cons_append,PyData.depthAll];lia
 have h1:=this ds;simp only[PyData.depth]at dp ⊢;lia
def Uw.kin(h:Uw M H)(k:Yh H c):Uw M c:=λx m=>by
 obtain⟨o,e,n⟩:=h x m;rcases k x o e with g|⟨_,_,_,g⟩|⟨_,_,_,_,g⟩|⟨_,_,_,g⟩;exact⟨_,g,n⟩;exact⟨_,g,()⟩;exact⟨_,g,()⟩;exact⟨_,g,()⟩
def X5.kin(h:X5 K M H lo n)(s:Zc (wo H lo) c)(h':X5 K M c lo i):Yh H c:=by
 ext⟨B,a,_,b⟩ h.ex;ext⟨C,y,_⟩ h'.ex;exact yF s a (ZkW λv u=>by obtain⟨p,f,g,d,x,j,_⟩:=b v u;exact⟨p,f,g,x,(KS j).2⟩) y
def X5.mono(h:X5 K M H lo n)(l:n<=d):X5 K M H lo d:=let ⟨vs,a,b,c⟩:=h.ex;⟨vs,a,(),c⟩
inductive ZlA(t:Ya)(K:Ox)(vs:List V)(H:Hp)(Q:VK)(_e3:XK):Prop|mk (s:Yz) (N:ZH) (k:Nat) (lo:Addr) (M:OH) (n:Nat) (_:vs=[.ref s.n,.ref s.wd,.int k,.ref lo]) (_:Y2 t H s N) (_:X5 K M H lo n) (_:n<900) (_:lo∈M) (_:lo∉s.own) (_:Uw M H) (_:∀H',Zc (wo H lo) H'->X5 K M H' lo (n+5)->Q (.bl true) H')
def ZcE(G:Zy K mg t):Zp P w K mg base Zv 48 t.kY t.kZ ["_law_net","_law_world_here","_law_turn","_law_olds"] (ZlA t K):=by
 erw[G.TF.F.ok Pq () λh0 A outer s H vs i0 j0 hr h=>?_];ext⟨sd,N,k,lo,M,n,rfl,hS,hO,n9,e0,f0,mk,q⟩ h;obtain⟨j,hj,ej⟩:∃j:Nat,j<5/\(k:Int)%5=((j:Nat):Int):=⟨k%5,(),()⟩;erw[⟨_,(Zg (ZA 4 Pq.nd (Zl XX (A2 MU (ZI (uW Za Za Za Za Za)) (Qd (Zl ZQ (pv 2) Za)) F9) (A2 MU (ZI (uW Za Za Za Za Za)) F9 (Qd (Zl ZQ (pv 2) Za))))) (Qm (ZC (ZZ Ye (Zl ZQ (Zl Y5 (pv 2) Za) Za) Za) (Zf (ZA 4 Pq.nd (ZfZ (pv 4) (Qd (yW yX Za))))) ZK) (Zf (Zw (ZN (M7 R) G.Tq Rv (Zh (Wv (cl:=[(OK "_law_world_here",s.heap.objs.size+2),(OK "_law_olds",s.heap.objs.size+3),(OK "_law_net",s.heap.objs.size+1)]) (N:=["_law_way","_law_net","_law_world_here","_law_olds"]) (fr:=[none,some 0,some 1,some 3]) R (Xx (pv 4)) R () R () ⟨⟨R,Or.inl R,Or.inl R,_,R,R⟩,⟨⟨R,Or.inl R,Or.inl R,_,R,R⟩,⟨⟨R,Or.inl R,Or.inl R,_,R,R⟩,trivial⟩⟩⟩ ⟨R,⟨R,⟨R,trivial⟩⟩⟩ R (λ_ _ _ _ _=>(Yl 0 (show List.Nodup (["_law_way","_law_net","_law_world_here","_law_olds"]:OC) by lia))) (λ_ _ _ _ _=>Wu) (λ_ _ _ _ _=>(ZD G.Za0 (Zlz G) hr Zu (X1 (pv 1) (pv 2) (pv 0) (pv 3))))))))))),?_⟩];erw[⟨zL9 R,λY g1=>?_⟩];exists H,Y,H1,s1,g1,c1;erw[⟨_,R,_,_,R,R,(),_,R,Y,_,R,Ze.of c1,λp2 g2=>?_⟩];rw[ej];exists H1,p2,H2,s2,g2,c2;erw[⟨zL9 R,λp3 g3=>?_⟩];exists H2,p3,H3,s3,g3,c3;erw[⟨_,R,_,_,R,R,(),_,R,p3,_,R,Ze.of c3,λZ g4=>?_⟩];rw[ej];exists H3,Z,H4,s4,g4,c4;have x:∀j:Nat,j<5->(WP [.int 0,.int 1,.int 2,.int 3,.int 4] (some ((j:Nat):Int)) none).length+(WP [.int 0,.int 1,.int 2,.int 3,.int 4] none (some ((j:Nat):Int))).length<=5:=by lia
 have x:=x j hj;have ci:∀a b,∀v∈WP [.int 0,.int 1,.int 2,.int 3,.int 4] a b,∃m:Nat,v=.int (m:Nat):=λa b v d=>by
  unfold WP at d;have d:=List.mem_of_mem_drop (List.mem_of_mem_take d);simp only[SE,List.not_mem_nil,or_false]at d;rcases d with rfl|rfl|rfl|rfl|rfl;exact⟨0,R⟩;exact⟨1,R⟩;exact⟨2,R⟩;exact⟨3,R⟩;exact⟨4,R⟩
 have ca:=ci (some (j:Int)) none;have cb:=ci none (some (j:Int));generalize WP [.int 0,.int 1,.int 2,.int 3,.int 4] (some (j:Int)) none=S at x ca c2;generalize WP [.int 0,.int 1,.int 2,.int 3,.int 4] none (some (j:Int))=J at x cb c4;erw[⟨p2,Z,_,_,R,R,(s3.trans s4) _ _ c2,c4,Sh x (),λI g5=>?_⟩];exists H4,I,H5,s5,g5,O;have T:=(((s1.trans s2).trans s3).trans s4).trans s5;have L:∀v∈S++J,∃m:Nat,v=.int (m:Nat):=λv d=>(SF.mp d).elim (ca v) (cb v);have Q:(S++J).length<=5:=by rwa[Su]
 generalize S++J=xs at O L Q;erw[⟨λg y=>∃(f:Addr) (u:List V),Zc H y/\H f=none/\y f=some (.lst u)/\u.length<=5/\(∀v∈u,∃m:Nat,v=.int (m:Nat))/\g=[some (.ref sd.n),some (.ref sd.wd),some (.int k),some (.ref lo),some (.ref f)],?_,?_⟩];erw[⟨_,R,_,_,R,R,⟨(),()⟩,_,_,R,R,(),R,_,R,Xs (λh=>?_) (λh=>?_)⟩];erw[⟨_,R,_,R,_,R,I,_,R,R,Ze.of O,λp6 g6=>?_⟩];exact⟨p6,_,T.trans (Zt g6 _),T.free g6,Zj,by rwa[List.length_reverse],λv d=>L v (List.mem_reverse.mp d),R⟩;exact⟨I,_,T,(((s1.trans s2).trans s3).trans s4).free g5,O,Q,L,R⟩;rintro g X ⟨f,u,B,a0,d0,ly,cy,rfl⟩;ext⟨vs,ho,_⟩ hO.ex;have nl:f≠lo:=λz=>by rw[z,ho]at a0;cases a0
 have c0:X5 K M X lo n:=hO.off (.of B) λb0 e=>B _ _ e;erw[⟨_,R,f,R,⟨_,Ze.of d0⟩,WL (K:=K) (a:=f) (xs:=u) (λi E g y=>Zc (wo X lo) y/\X5 K M y lo (n+i)/\E=(List.replicate i true).map V.bl/\∃v,g=[v,some (.ref sd.n),some (.ref sd.wd),some (.ref lo)]) ⟨Nz,c0,R,_,R⟩ (Sh ly ()) (λi E g y _ ⟨s',_⟩=>Ze.of (s' _ _ (Z4 d0 nl))) ?_ ?_⟩];rintro i v E g H7 hi d ⟨C,D,rfl,v0,rfl⟩;have k0:=(Sr.mp d).1;obtain⟨m,rfl⟩:=cy v (SJ d);have kn:=(Yh.of B).trans (c0.kin C D);dsimp only[YK,Wb];rw[SW R];erw[⟨_,R,_,R,_,R,_,R,sd,N,m,lo,M,n+i,R,hS.kin kn λg0 b0 e hm=>C _ _ (Z4 (B _ _ e) λz=>f0 (z ▸ hm)),D,(),e0,mk.kin kn,λH8 s8 o8=>⟨by rw[Su,Sw];lia,λa o e=>?_,o8,?_,_,R⟩⟩];obtain⟨U,_⟩:=UA e;exact s8 _ _ (Z4 (C _ _ e) U);rw[List.replicate_succ',SK];rfl;rintro E g H7 ha ⟨C,D,rfl,v0,rfl⟩ pc gc;have s8:=Zt gc (.lst ((List.replicate u.length true).map V.bl));erw[⟨pc,_,R,Ze.of Zj,?_⟩];rw[show(List.replicate u.length true).all id=true from List.all_eq_true.mpr λb hb=>List.eq_of_mem_replicate hb];erw[q _ (λa o e=>?_) ((D.off (.of s8) λb0 e=>s8 _ _ e).mono ())];obtain⟨U,e⟩:=UA e;exact s8 _ _ (C _ _ (Z4 (B _ _ e) U))
abbrev E6:Str:=(("_law_not_there" : Str) ++ ".<locals>.") ++ "<lambda>"
def yH(H:Hp)(v:V):Prop:=(∃T,Kd H v T)/\Y1 v=false
def QZ(c:List Wn):List V:=c.map λw=>.str w.txt
structure Nt(t:Ya)(H:Hp)(n:Addr)(a:NA)(N:ZH)(la:Addr)(ws:List Wn)(H':Hp):Prop where
 no:Z3 t H' n a N
 kn:Yh H H'
 of:YA [t.Xg] H H'
 tl:YI t.Xg E6 H'
 la:ws≠[]->H' la=some (.lst (QZ ws))
def E7{c:Type}{nm:c->Str}{xs:List c}{v:V}{x:c}(h:Yv nm xs v=false)(e:v=.str (nm x))(f:Xa nm xs (nm x)=some x):False:=by
 rw[e]at h;have h:(Xa nm xs (nm x)).isSome=false:=h;rw[f]at h;cases h
def Nt.go{i d j:Hp}{n la:Addr}{a:NA}{N:ZH}{f:List Wn}(h:Nt t H n a N la f i)(s2:Zc (wo i t.Xg) d)(g:YI t.Xg E6 d)(s3:Zc d j):Nt t H n a N la f j:=by
 ext⟨p,c⟩ h.tl.at;ext⟨y,v⟩ g.at;have k:=Zcv s2 c v;have no2:=h.no.kin k λx u e m=>s2 x u (Z4 e (QC (h.no.kd m) c));exact⟨no2.same s3,(h.kn.trans k).trans (.of s3),(h.of.trans (YA.wout s2 (SD.mpr R))).trans (.of s3),g.same s3,λz=>s3 _ _ (s2 _ _ (Lr c (h.la z) ()))⟩
def Nt.app{f:Hp}{n la:Addr}{a:NA}{N:ZH}{c:List Wn}{w:Wn}(h:Nt t H n a N la c f)(i:Z3 t H n a N)(g:H la=none)(ne:c≠[]):Nt t H n a N la (c++[w]) (Zb f la (.lst (QZ c++[.str w.txt]))):=by
 have s:=WD (d:=la) (o:=.lst (QZ c++[.str w.txt])) (Zc.refl f);have nin:la∉a.l:=λm=>Vc (i.kd m) g R;exact⟨(h.no.off (h.la ne) nin).same s,(h.kn.off g).trans (.of s),(h.of.off g).trans (.of s),(Zcw h.tl (h.la ne)).same s,λ_=>by unfold QZ;rw[SK];exact Zj⟩
inductive ZlB(t:Ya)(vs:List V)(H:Hp)(Q:VK)(_e3:XK):Prop|mk (n:Addr) (a:NA) (N:ZH) (u:V) (k:Nat) (_:vs=[.ref n,u,.int k]) (_:Z3 t H n a N) (_:YN N) (_:YI t.Xg E6 H) (_:∀H',Yh H H'->YA [t.Xg] H H'->YI t.Xg E6 H'->Q (.bl true) H')
def ZlC(c:Zy K mg t)(b0:W.CodeHd base t.J3 t.Xg)(c0:BM mg base):Zp P w K mg base Zv 54 t.gA t.RG ["_law_net","_law_names","_law_mixed_here"] (ZlB t):=by
 erw[WS.okC c.Za1.F Pu () λn0 A outer s f0 vs l0 a0 Y g h=>?_];ext⟨n,a,N,o0,k,rfl,X,ok,m0,q⟩ h;have U:∀(f0 H':Hp) j0,Zc f0 H'->yH f0 j0->yH H' j0:=λf0 H' j0 s ⟨⟨T,h⟩,e⟩=>⟨⟨T,h.same s⟩,e⟩;erw[⟨_,(Zg (ZA 3 Pu.nd (Zr ZJ (ZI (ZM UP (J0 Za (ZI (Zh Zs)) Zs Uz YY Zs (YH (Zh Zs))))) (Zl ZQ (pv 2) Za))) (Zg (ZA 4 Pu.nd (ZI (Zh (V8 (FN:=[(OK "_law_odd",3),(OK "_law_net",0)]) (cl:=[(OK "_law_odd",s.heap.objs.size+2),(OK "_law_net",s.heap.objs.size+1)]) (Ut c) (g.mono ()) R c.YQ.m c.YQ.F.kp c.YQ.b (λ_=>R) ⟨R,⟨R,trivial⟩⟩ (V9 ⟨⟨R,R,_,R,R⟩,⟨R,R,_,R,R⟩,trivial⟩) (V6 (cl:=[(OK "_law_odd",s.heap.objs.size+2),(OK "_law_net",s.heap.objs.size+1)]) (Y.symm.trans c.C4) b0 c0 R R))))) (Zg (Yk (Vi PySem.F.plainAttrs_list PySem.F.slot_list_append PySem.F.type_list_append VC (pv 4) (Zh (V8 (FN:=[(OK "_law_odd",3),(OK "_law_net",0)]) (cl:=[(OK "_law_odd",s.heap.objs.size+2),(OK "_law_net",s.heap.objs.size+1)]) (Ut c) (g.mono ()) R c.YQ.m c.YQ.F.kp c.YQ.b (λ_=>R) ⟨R,⟨R,trivial⟩⟩ (V9 ⟨⟨R,R,_,R,R⟩,⟨R,R,_,R,R⟩,trivial⟩) (V6 (cl:=[(OK "_law_odd",s.heap.objs.size+2),(OK "_law_net",s.heap.objs.size+1)]) (Y.symm.trans c.C4) b0 c0 R R))))) (Zg (Yk (Vi PySem.F.plainAttrs_list PySem.F.slot_list_append PySem.F.type_list_append VC (pv 4) (Zh (V8 (FN:=[(OK "_law_odd",3),(OK "_law_net",0)]) (cl:=[(OK "_law_odd",s.heap.objs.size+2),(OK "_law_net",s.heap.objs.size+1)]) (Ut c) (g.mono ()) R c.YQ.m c.YQ.F.kp c.YQ.b (λ_=>R) ⟨R,⟨R,trivial⟩⟩ (V9 ⟨⟨R,R,_,R,R⟩,⟨R,R,_,R,R⟩,trivial⟩) (V6 (cl:=[(OK "_law_odd",s.heap.objs.size+2),(OK "_law_net",s.heap.objs.size+1)]) (Y.symm.trans c.C4) b0 c0 R R))))) (Zg (Yk (Vi PySem.F.plainAttrs_list PySem.F.slot_list_append PySem.F.type_list_append VC (pv 4) (Zh (V8 (FN:=[(OK "_law_odd",3),(OK "_law_net",0)]) (cl:=[(OK "_law_odd",s.heap.objs.size+2),(OK "_law_net",s.heap.objs.size+1)]) (Ut c) (g.mono ()) R c.YQ.m c.YQ.F.kp c.YQ.b (λ_=>R) ⟨R,⟨R,trivial⟩⟩ (V9 ⟨⟨R,R,_,R,R⟩,⟨R,R,_,R,R⟩,trivial⟩) (V6 (cl:=[(OK "_law_odd",s.heap.objs.size+2),(OK "_law_net",s.heap.objs.size+1)]) (Y.symm.trans c.C4) b0 c0 R R))))) (Zg (Yk (Vi PySem.F.plainAttrs_list PySem.F.slot_list_append PySem.F.type_list_append VC (pv 4) (Zh (V8 (FN:=[(OK "_law_odd",3),(OK "_law_net",0)]) (cl:=[(OK "_law_odd",s.heap.objs.size+2),(OK "_law_net",s.heap.objs.size+1)]) (Ut c) (g.mono ()) R c.YQ.m c.YQ.F.kp c.YQ.b (λ_=>R) ⟨R,⟨R,trivial⟩⟩ (V9 ⟨⟨R,R,_,R,R⟩,⟨R,R,_,R,R⟩,trivial⟩) (V6 (cl:=[(OK "_law_odd",s.heap.objs.size+2),(OK "_law_net",s.heap.objs.size+1)]) (Y.symm.trans c.C4) b0 c0 R R))))) (Zg (Yk (Vi PySem.F.plainAttrs_list PySem.F.slot_list_append PySem.F.type_list_append VC (pv 4) (Zh (V8 (FN:=[(OK "_law_odd",3),(OK "_law_net",0)]) (cl:=[(OK "_law_odd",s.heap.objs.size+2),(OK "_law_net",s.heap.objs.size+1)]) (Ut c) (g.mono ()) R c.YQ.m c.YQ.F.kp c.YQ.b (λ_=>R) ⟨R,⟨R,trivial⟩⟩ (V9 ⟨⟨R,R,_,R,R⟩,⟨R,R,_,R,R⟩,trivial⟩) (V6 (cl:=[(OK "_law_odd",s.heap.objs.size+2),(OK "_law_net",s.heap.objs.size+1)]) (Y.symm.trans c.C4) b0 c0 R R))))) (Zf (Zw (Y7 (G8 g.units) (pv 4) (ZI (uX Zs Zs Zs Zs Zs Zs)) (Xq _))))))))))),?_⟩];dsimp only[Yj,QF,kx,ky];erw[yE (n:=8) (d:=(k:Int)%8) (Pr:=yH) (Yw U ?_ (Yw U ?_ (Yw U ?_ (Yw U ?_ (Yw U ?_ (Yw U ?_ (Yw U ?_ (Yw U ?_ Ms)))))))) U () (λ_ _ h=>⟨_,R,_,_,R,R,(),h⟩) () () f0 _ λy H1 s1 k0=>?_]
 all_goals first|exact Vt λ_=>⟨⟨_,.non⟩,R⟩|exact Vt λ_=>⟨⟨_,.int _⟩,R⟩|exact Vt λ_=>⟨⟨_,.bl _⟩,R⟩|exact Vt λ_=>⟨⟨_,.str _⟩,()⟩|exact Mu () (λ_ _ h=>⟨⟨_,.lst h⟩,R⟩) (λ_ _ h=>h)|exact yD () (λ_ _ h=>⟨⟨_,.tup h⟩,R⟩) (λ_ _ h=>h)|exact Zct (λ_ _ h=>⟨⟨_,.dK h⟩,R⟩)|skip
 ext⟨⟨T,kH⟩,nv⟩ k0;have X:=X.same s1;have B:Nt t H1 n a N 0 [] H1:=⟨X,.of (Zc.refl _),.of (Zc.refl _),m0.same s1,λz=>Os R z⟩;have n1:=D8 ok.so nv;have n2:=D8 (λd0 hx=>(ok.ro d0 hx).1) nv;have n3:=D8 (λd0 hx=>(ok.to d0 hx).nm) nv;have n4:=D8 (λd0 hx=>(ok.po d0 hx).1) nv;dsimp only[YK,UU,ZU,YP];erw[Uv (L:=[("_law_net",.ref n,0),("_law_odd",y,3)]) B.tl ⟨⟨.tail _ (.head _),R⟩,⟨.head _,R⟩,trivial⟩ (by simp) R ⟨R,R,trivial⟩ R R R () (λ_ _ _=>R) (λh0 c' Z A outer s a0 g=>(Xc (pv 0) c.ZO c.Ke.me (Zb9 c) (g.mono ()) c.Ke.b .nil V7 (ZM (pv 1) YG))) λj sa f=>?_];obtain⟨G,fs,u,i⟩:=(B.go sa f (Zc.refl _)).no.ob;erw[⟨λ_=>False,λw H'=>w=.stop/\Zc j H',λQe Ee q1 D=>⟨_,R,n,G,_,R,u,i.n_zone,_,R,n,N,y,T,R,⟨a,(B.go sa f (Zc.refl _)).no⟩,Y3 (B.go sa f (Zc.refl _)).kn kH,λ_=>D .stop j ⟨R,Zc.refl _⟩,λg0 E H=>(E7 n1 E H).elim⟩,λH' i0 p h=>h.elim,λw H' C h v=>?_⟩];ext⟨rfl,x⟩ h;have B:=B.go sa f (x.trans v);clear sa f v x u i;erw[⟨zL9 R,λla gl=>?_⟩];have e0:H1 la=none:=by
  cases e:H1 la with
  |none=>rfl
  |some o =>
   exfalso;by_cases z:la=t.Xg;ext⟨p,hp⟩ B.tl.at;rw[z,hp]at gl;cases gl;rw[B.of _ _ e (λh=>z (SD.mp h))]at gl;cases gl
 have J:Nt t H1 n a N la [.stop] (Zb C la (.lst [.str (Wn.txt .stop)])):=by
  have s:=Zt gl (.lst [.str (Wn.txt .stop)]);exact⟨B.no.same s,B.kn.trans (.of s),B.of.trans (.of s),B.tl.same s,λ_=>Zj⟩
 generalize Zb C la (.lst [.str (Wn.txt .stop)])=Z at J ⊢;erw[⟨_,R,.inl ⟨R,_,Ze.of (J.la ())⟩,?_⟩];dsimp only[ZU,YP];erw[Uv (L:=[("_law_net",.ref n,0),("_law_odd",y,3)]) J.tl ⟨⟨.tail _ (.head _),R⟩,⟨.head _,R⟩,trivial⟩ (by simp) R ⟨R,R,trivial⟩ R R R () (λ_ _ _=>R) (λh0 c' Z A outer s a0 g=>(Xc (pv 0) c.ZO c.Kf.me (Zca c) (g.mono ()) c.Kf.b .nil V7 (ZM (pv 1) YG))) λj sa f=>?_];obtain⟨G,fs,u,i⟩:=(J.go sa f (Zc.refl _)).no.ob;erw[⟨λ_=>False,λw H'=>w=.stop/\Zc j H',λQe Ee q1 D=>⟨_,R,n,G,_,R,u,i.n_change,_,R,n,N,y,T,R,⟨a,(J.go sa f (Zc.refl _)).no⟩,Y3 (J.go sa f (Zc.refl _)).kn kH,λ_=>D .stop j ⟨R,Zc.refl _⟩,λg0 E H=>(E7 n1 E H).elim⟩,λH' i0 p h=>h.elim,λw H' C h v=>?_⟩];ext⟨rfl,x⟩ h;have J:=J.go sa f (x.trans v);clear sa f v x u i;erw[⟨la,_,_,R,R,J.la (),(),?_⟩];have M:=J.app (w:=.stop) X e0 ();generalize S:Zb C la _=H3 at M ⊢;clear S;erw[⟨_,R,.inl ⟨R,_,Ze.of (M.la ())⟩,?_⟩];dsimp only[ZU,YP];erw[Uv (L:=[("_law_net",.ref n,0),("_law_odd",y,3)]) M.tl ⟨⟨.tail _ (.head _),R⟩,⟨.head _,R⟩,trivial⟩ (by simp) R ⟨R,R,trivial⟩ R R R () (λ_ _ _=>R) (λh0 c' Z A outer s a0 g=>(Xc (pv 0) c.ZO c.Kg.me (Zcb c) (g.mono ()) c.Kg.b .nil V7 (ZM (pv 1) YG))) λj sa f=>?_];obtain⟨G,fs,u,i⟩:=(M.go sa f (Zc.refl _)).no.ob;erw[⟨λ_=>False,λw H'=>w=.rule/\Zc j H',λQe Ee q1 D=>⟨_,R,n,G,_,R,u,i.n_rule,_,R,n,N,y,T,R,⟨a,(M.go sa f (Zc.refl _)).no⟩,ok,Y3 (M.go sa f (Zc.refl _)).kn kH,λ_=>D .rule j ⟨R,Zc.refl _⟩,λg0 E H=>(E7 n2 E H).elim⟩,λH' i0 p h=>h.elim,λw H' C h v=>?_⟩];ext⟨rfl,x⟩ h;have M:=M.go sa f (x.trans v);clear sa f v x u i;erw[⟨la,_,_,R,R,M.la (),(),?_⟩];have O:=M.app (w:=.rule) X e0 ();generalize S:Zb C la _=H4 at O ⊢;clear S;erw[⟨_,R,.inl ⟨R,_,Ze.of (O.la ())⟩,?_⟩];dsimp only[ZU,YP];erw[Uv (L:=[("_law_net",.ref n,0),("_law_odd",y,3)]) O.tl ⟨⟨.tail _ (.head _),R⟩,⟨.head _,R⟩,trivial⟩ (by simp) R ⟨R,R,trivial⟩ R R R () (λ_ _ _=>R) (λh0 c' Z A outer s a0 g=>(Xc (pv 0) c.ZO c.Kh.me (Zcc c) (g.mono ()) c.Kh.b .nil V7 (ZM (pv 1) YG))) λj sa f=>?_];obtain⟨G,fs,u,i⟩:=(O.go sa f (Zc.refl _)).no.ob;erw[⟨λ_=>False,λw H'=>w=.ticket/\Zc j H',λQe Ee q1 D=>⟨_,R,n,G,_,R,u,i.n_ticket,_,R,n,N,y,T,R,⟨a,(O.go sa f (Zc.refl _)).no⟩,Y3 (O.go sa f (Zc.refl _)).kn kH,λ_=>D .ticket j ⟨R,Zc.refl _⟩,λg0 E H=>(E7 n3 E H).elim⟩,λH' i0 p h=>h.elim,λw H' C h v=>?_⟩];ext⟨rfl,x⟩ h;have O:=O.go sa f (x.trans v);clear sa f v x u i;erw[⟨la,_,_,R,R,O.la (),(),?_⟩];have Q:=O.app (w:=.ticket) X e0 ();generalize S:Zb C la _=H5 at Q ⊢;clear S;erw[⟨_,R,.inl ⟨R,_,Ze.of (Q.la ())⟩,?_⟩];dsimp only[ZU,YP];erw[Uv (L:=[("_law_net",.ref n,0),("_law_odd",y,3)]) Q.tl ⟨⟨.tail _ (.head _),R⟩,⟨.head _,R⟩,trivial⟩ (by simp) R ⟨R,R,trivial⟩ R R R () (λ_ _ _=>R) (λh0 c' Z A outer s a0 g=>(Xc (pv 0) c.ZO c.Kj.me (Zce c) (g.mono ()) c.Kj.b .nil V7 (ZM (pv 1) YG))) λj sa f=>?_];obtain⟨G,fs,u,i⟩:=(Q.go sa f (Zc.refl _)).no.ob;erw[⟨λ_=>False,λw H'=>w=.trip/\Zc j H',λQe Ee q1 D=>⟨_,R,n,G,_,R,u,i.n_calls,_,R,n,N,y,T,R,⟨a,(Q.go sa f (Zc.refl _)).no⟩,Y3 (Q.go sa f (Zc.refl _)).kn kH,λ_=>D .trip j ⟨R,Zc.refl _⟩,λg0 E H=>(E7 n4 E H).elim⟩,λH' i0 p h=>h.elim,λw H' C h v=>?_⟩];ext⟨rfl,x⟩ h;have Q:=Q.go sa f (x.trans v);clear sa f v x u i;erw[⟨la,_,_,R,R,Q.la (),(),?_⟩];have I:=Q.app (w:=.trip) X e0 ();generalize S:Zb C la _=H6 at I ⊢;clear S;erw[⟨_,R,.inl ⟨R,_,Ze.of (I.la ())⟩,?_⟩];dsimp only[ZU,YP];erw[Uv (L:=[("_law_net",.ref n,0),("_law_odd",y,3)]) I.tl ⟨⟨.tail _ (.head _),R⟩,⟨.head _,R⟩,trivial⟩ (by simp) R ⟨R,R,trivial⟩ R R R () (λ_ _ _=>R) (λh0 c' Z A outer s a0 g=>(Xc (pv 0) c.ZO c.Ki.me (Zcd c) (g.mono ()) c.Ki.b .nil V7 (ZM (pv 1) YG))) λj sa f=>?_];obtain⟨G,fs,u,i⟩:=(I.go sa f (Zc.refl _)).no.ob;erw[⟨λ_=>False,λw H'=>w=.trip/\Zc j H',λQe Ee q1 D=>⟨_,R,n,G,_,R,u,i.n_rule_name,_,R,n,N,y,T,R,⟨a,(I.go sa f (Zc.refl _)).no⟩,Y3 (I.go sa f (Zc.refl _)).kn kH,λ_=>D .trip j ⟨R,Zc.refl _⟩,λg0 E H=>(E7 n4 E H).elim⟩,λH' i0 p h=>h.elim,λw H' C h v=>?_⟩];ext⟨rfl,x⟩ h;have I:=I.go sa f (x.trans v);clear sa f v x u i;erw[⟨la,_,_,R,R,I.la (),(),?_⟩];have m7:=I.app (w:=.trip) X e0 ();generalize S:Zb C la _=H7 at m7 ⊢;clear S;erw[⟨_,R,zL9 R,λp8 g8=>?_⟩];have s8:=Zt g8 (.lst (QZ [.stop,.stop,.rule,.ticket,.trip,.trip]));have dw:∀{H':Hp} (ws:List Wn),YD K H' (QZ ws) (ws.map λw=>PyData.str w.txt):=λ{H'} ws=>by
  induction ws with
  |nil=>exact .nil
  |cons w r ih=>exact .cons (.str _ (by cases w<;>decide +kernel)) ih
 have dv:DV K (Zb H7 p8 (.lst (QZ [.stop,.stop,.rule,.ticket,.trip,.trip]))) (.ref la) (.list (([.stop,.stop,.rule,.ticket,.trip,.trip]:List Wn).map λw=>PyData.str w.txt)):=.lst (Ze.of (s8 _ _ (m7.la ()))) (dw _);erw[⟨_,_,dv,.lst (Ze.of Zj) (dw [.stop,.stop,.rule,.ticket,.trip,.trip]),by simp[PyData.depth,PyData.depthAll],?_⟩];show l0 (V.bl (PyData.eqv _ _)) _;rw[SeqAt.eqv_refl _ dv.can];exact q _ (((Yh.of s1).trans m7.kn).trans (.of s8)) (((YA.of s1).trans m7.of).trans (.of s8)) (m7.tl.same s8)
def Md.put{s:Yz}(h:Md t s d N H)(p:Pt t s H N k xs f c):Md t s d c f:=⟨p.sd,h.kn.trans p.kn,h.of.trans p.of,p.tl⟩
def ZcF{s:Yz}(h:Y2 t H s N)(tl:YI t.YR UM H)(n:H x=none):x∉t.YR::s.own:=λm=>by
 rcases SE.mp m with rfl|m;ext⟨p,c⟩ tl.at;rw[c]at n;cases n;exact Vc (h.kd m) n R
def QD{s:Yz}(j:Y2 t c s B)(i:YI t.YR UM c)(m:Md t s c N H)(v:H h=some (.lst xs))(nl:c h=none)(g:Vb N H k xs)(q:∀f d,Md t s c f d->WN H N f k xs->(∀x o,c x=none->H x=some o->d x=some o)->u (.bl true) d):Zcy t [.ref s.n,.ref s.wd,.int k,.ref h] H u y :=
 ⟨s,N,k,h,xs,R,m.sd,v,λz=>ZcF j i nl (SB _ z),g,m.tl,λf d p=>q f d (m.put p) p.gr λx o n e=>p.of x o e (ZcF j i n)⟩
def VT(d:Nat):List V:=((List.range 12).map (XT d)).map V.str
def MD{d i:Nat}(h:i<12):Xy (VT d) (i:Int)=some (.str (XT d i)):=Qh (by unfold VT;rw[Oa,Oa,Ss (by rwa[List.length_range]),List.getElem_range];rfl)
def ZcG{c:Type}{nm:c->Str}{xs:List c}{d n b:Nat}(hn:n<=9)(v:b<n)(l:xs.length<=b)(h:xs.length=b\/∀j,j<n->XT d j∈xs.map nm):xs.length=b:=by
 rcases h with h|h;exact h;have nd:((List.range n).map (XT d)).Nodup:=ZjK λi j g f=>ZjZ g ();have:=nd.length_le_of_subset (l₂:=xs.map nm) λz u=>by
  obtain⟨j,f,rfl⟩:=SI.mp u;exact h j (List.mem_range.mp f)
 rw[Sv,Sv,List.length_range]at this;lia
inductive ZlD(t:Ya)(vs:List V)(H:Hp)(Q:VK)(_e3:XK):Prop|mk (s:Yz) (N:ZH) (d:Nat) (_:vs=[.ref s.n,.ref s.wd,.int d]) (_:Y2 t H s N) (_:YI t.YR UM H) (_:d<998244353) (_:∀N' H',Md t s H N' H'->Q (.bl true) H')
def ZlE(f:Zy K mg t)(X:W.CodeHd base t.C0 t.YR)(a0:BM mg base):Zp P w K mg base Zv 56 t.gB t.gC ["_law_net","_law_world_here","_law_seed"] (ZlD t):=by
 erw[f.Za2.F.ok UC () λj1 A outer s H vs h1 k1 G h=>?_];ext⟨sd,N0,d,rfl,T,Q,hd,q⟩ h;have j0:∀(H:Hp) (i:Nat),Vk H (.str (XT d i)):=λH i=>QS _ (Sh (zW d i).2.1 ());have q0:∀i,Y1 (.str (XT d i))=true:=λi=>ZbV (zW d i);erw[⟨_,(Zg (I0 (i0:=3) (cl:=[(OK "_law_seed",s.heap.objs.size+1)]) (N:=["_law_k","_law_seed"]) (fr:=[none,some 2]) UC.nd R (Or.inl R) R (VW R f.Ul (Zh Za)) R () R () ⟨⟨R,Or.inl R,Or.inl R,_,R,R⟩,trivial⟩ ⟨R,trivial⟩ R (λ_ _ _ _ _=>(Yl 0 (show List.Nodup (["_law_k","_law_seed"]:OC) by lia))) (λ_ _ _ _ _=>Wu) (λ_ _ _ _ _=>(ZD f.TC (ZbZ f) G Zu (Zq (pv 1) (pv 0))))) (Zg (W8 (VW R f.Ul (Zh Za)) (Yl 4 UC.nd) (Zf (ZC (ZX (ZW (ZD f.UE (U8 f X a0) G Zu (X1 (pv 0) (pv 1) Za (ZI (Z5 (Zr ZJ (pv 3) (pv 4)) (Zl YZ Za (Zl ZQ (pv 4) Za)) (Zr ZJ (ZI (Zq (pv 4) Za)) (Zl ZQ (pv 4) Za)))))))) (Zf (Zw YY)) ZK))) (Zg (ZA 5 UC.nd (Z2 (VJ R) R f.YU YT (Zh (Yu G (pv 1) Zs)))) (Zg (W8 (VW R f.Ul (Zh Za)) (Yl 4 UC.nd) (Zf (ZC (ZX (ZW (ZD f.UE (U8 f X a0) G Zu (X1 (pv 0) (pv 1) Za (ZI (Z5 (Zr ZJ (pv 5) (Zl ZQ (pv 4) Za)) (Zr ZJ (pv 5) (Zl ZQ (Zl YZ (Zl YZ (Zl ZQ (pv 4) Za) Za) (Zl Y5 (pv 4) Za)) Za)) (Zr ZJ (ZI (Z5 Za Za (Zl YZ Za (pv 4)))) (Zl ZQ (pv 4) Za)))))))) (Zf (Zw YY)) ZK))) (Zg (ZC (ZX (ZW (ZD f.UE (U8 f X a0) G Zu (X1 (pv 0) (pv 1) Za (ZI (Z5 (Zr ZJ (pv 5) Za) (Zr ZJ (pv 5) Za) Za)))))) (Zf (Zw YY)) ZK) (Zg (W8 (VW R f.Ul (Zh Za)) (Yl 4 UC.nd) (Zf (ZC (ZX (ZW (ZD f.UE (U8 f X a0) G Zu (X1 (pv 0) (pv 1) Za (ZI (Zq (Zr ZJ (pv 3) (pv 4)) (YH (Zq Zs (pv 4))))))))) (Zf (Zw YY)) ZK))) (Zg (W8 (VW R f.Ul (Zh Za)) (Yl 4 UC.nd) (Zf (ZC (ZX (ZW (ZD f.UE (U8 f X a0) G Zu (X1 (pv 0) (pv 1) Za (ZI (X1 (Zr ZJ (pv 3) (pv 4)) (Zr ZJ (ZI (Zq Za Za)) (Zl ZQ (pv 4) Za)) (Zr ZJ (ZI (Zq Za Za)) (Zl Y5 (pv 4) Za)) (ZI (Zq (Zl YZ Za (pv 4)) Za)))))))) (Zf (Zw YY)) ZK))) (Zg (ZA 6 UC.nd (Z2 (VJ R) R f.YU YT (Zh (Yu G (pv 1) Zs)))) (Zg (W8 (VW R f.Ul (Zh Za)) (Yl 4 UC.nd) (Zg (ZA 7 UC.nd (ZD f.TD (Zb2 f) G Zu (Z5 (Zl YZ (pv 2) (pv 4)) (pv 5) (Zl YZ Za (Zl ZQ (pv 4) Za))))) (Zf (ZC (ZX (ZW (ZD f.UE (U8 f X a0) G Zu (X1 (pv 0) (pv 1) Za (ZI (Z5 (Zr ZJ (pv 3) (pv 4)) (Zr ZJ (pv 6) (Zl ZQ (pv 4) Za)) (pv 7))))))) (Zf (Zw YY)) ZK)))) (Zf (Zw (WI (ZD f.UE (U8 f X a0) G Zu (X1 (pv 0) (pv 1) Za (ZI (Z5 Zs Za Za)))) (X6 (ZD f.UE (U8 f X a0) G Zu (X1 (pv 0) (pv 1) Za (ZI (Z5 (Zr ZJ (pv 5) Za) Za Za))))))))))))))))),?_⟩];erw[⟨_,R,(),(),G7 (lo:=0) (n:=12) (λi k0 u x=>Zc H x/\k0=((List.range i).map (XT d)).map V.str/\∃v,u=[v,some (.int d)]) ⟨Zc.refl _,R,_,R⟩ () ?_ ?_⟩];rintro i k0 u H1 hi ha ⟨s1,rfl,v0,rfl⟩;dsimp only[YK,Wb];rw[SW R,Int.zero_add];erw[⟨_,R,_,R,d,i,R,(),λH2 s2=>⟨by rw[Su,Sw];lia,s1.trans s2,?_,_,R⟩⟩];rw[Oj,SK,SK];rfl;rintro k0 u H1 ha ⟨s1,rfl,v0,rfl⟩ y gn;have s2:=s1.trans (Zt gn (.lst (VT d)));have cn:Zb H1 y (.lst (VT d)) y=some (.lst (VT d)):=Zj;have e0:H y=none:=s1.free gn;show YK 3 (.ref y) _ (Zb H1 y (.lst (VT d))) _;generalize Zb H1 y (.lst (VT d))=H2 at s2 cn ⊢;have m2:Md t sd H N0 H2:=⟨T.same s2,.of s2,.of s2,Q.same s2⟩;erw[⟨9,R,(),(),Q5 (n:=9) (λi u x=>∃(N:ZH) (J:Option V),Md t sd H N x/\x y=some (.lst (VT d))/\(N.st.length=8\/∀j,j<i->XT d j∈N.st.map Yg.nm)/\u=[some (.ref sd.n),some (.ref sd.wd),some (.int d),some (.ref y),J,none,none,none]) ⟨N0,_,m2,cn,.inr λj h=>Os h (),R⟩ ?_ ?_⟩];rintro i u H3 hi ⟨N,J,O,c3,h3,rfl⟩;rw[Int.zero_add];obtain⟨_,ev,b,rfl,hb⟩:=VG (p:=λv=>∃b:Nat,v=V.int (b:Nat)/\b<=30) (xs:=[.int i,.int 30]) (d:=(i:Int)%2) (λv C=>by
  simp only[SE,List.not_mem_nil,or_false]at C;rcases C with rfl|rfl;exact⟨i,R,()⟩;exact⟨30,R,()⟩) () (by show _<(2:Int);lia)
 erw[⟨_,R,_,R,_,R,_,R,y,_,_,_,R,R,Ze.of c3,MD (),_,R,_,_,R,R,(),_,_,R,R,_,R,zL9 R,λp4 g4=>⟨_,R,_,_,R,R,(),p4,_,_,_,R,R,Ze.of Zj,ev,zL9 R,λE g=>?_⟩⟩];have s4:=Zt g4 (.lst [.int i,.int 30]);generalize Zb H3 p4 (.lst [.int i,.int 30])=H4 at s4 g ⊢;generalize c:Zb H4 E _=H5;have s5:=s4.trans (Z0 g c);have c5:=Z7 c;clear c;have m5:=O.same s5;erw[QD T Q m5 c5 (O.fr (s4.free g)) (.s0 (j0 _ i) (.int _) (.int _)) λB H6 m6 g6 k6=>⟨_,R,Zi () ⟨B,_,m6,k6 _ _ e0 (s5 _ _ c3),?_,R⟩⟩];ext⟨r,L⟩ g6.st;have l8:=m6.sd.ok.s8;rcases h3 with h3|h3;exact .inl (by rw[L,Su]at l8 ⊢;lia);rcases g6.s0 _ _ _ rfl rfl (q0 i) (SQ ⟨(),()⟩) (SQ ⟨(),()⟩)with h|h;exact .inl h;erw[.inr λj hj=>?_];by_cases z:j=i;rwa[z];rw[L,SK];exact SF.mpr (.inl (h3 j ()));rintro u H3 ⟨I,J,O,c3,h3,rfl⟩;have l8:I.st.length=8:=ZcG () () O.sd.ok.s8 h3;ext⟨rows,d1,d2⟩ O.sd.wr.st;erw[⟨_,R,sd.wd,_,R,O.sd.wr.gS,sd.b.ds,rows,R,d1,λD gs=>?_⟩];rw[VR (λkv b0 (h:Yo H3 kv b0)=>h.1) d2];exists H3,D,H4,s4,gs,cs;have c0:=O.fr gs;have m4:=O.same s4;have c4:=s4 _ _ c3;have o0:∀z∈I.st.map Yg.nm,Yc z:=λz hz=>by obtain⟨b0,hx,rfl⟩:=SI.mp hz;exact O.sd.ok.so b0 hx
 have u0:=O.sd.ok.sn;have lS:(I.st.map Yg.nm).length=8:=by rwa[Sv]
 have f0:∀{H N B k xs},N.st=I.st->WN H N B k xs->YN B->B.st=I.st:=λ{H N B k xs} e l0 ok=>by
  ext⟨r,L⟩ l0.st;have:=ok.s8;rw[L,e,Su]at this;have:r=[]:=List.length_eq_zero_iff.mp ();rw[L,e,this,Oc]
 generalize f1:I.st.map Yg.nm=SN at cs o0 u0 lS;have atS:∀(m:Int),0<=m->m<8->∃z,Xy (SN.map V.str) m=some (.str z)/\Yc z:=λm h0 Z=>by
  obtain⟨v,ev,z,rfl,oz⟩:=VG (p:=λv=>∃z,v=V.str z/\Yc z) (xs:=SN.map V.str) (d:=m) (λv C=>by obtain⟨z,hz,rfl⟩:=SI.mp C;exact⟨z,R,o0 z hz⟩) h0 (by rwa[Sv,lS]);exact⟨z,ev,oz⟩
 have d0:∀(H:Hp) {z:Str},Yc z->Vk H (.str z):=λH z o=>QS z (Sh o.2.1 ());erw[⟨13,R,(),(),Q5 (n:=13) (λi u x=>∃(N:ZH) (J:Option V),Md t sd H N x/\x y=some (.lst (VT d))/\x D=some (.lst (SN.map V.str))/\N.st=I.st/\u=[some (.ref sd.n),some (.ref sd.wd),some (.int d),some (.ref y),J,some (.ref D),none,none]) ⟨I,_,m4,c4,cs,R,R⟩ ?_ ?_⟩];rintro i u H5 hi ⟨N,e1,m5,c5,e5,t5,rfl⟩;rw[Int.zero_add];obtain⟨z1,g0,n0⟩:=atS ((i:Int)%8) () ();obtain⟨z2,m0,y0⟩:=atS (((i:Int)%8+1+(i:Int)/8)%8) () ();obtain⟨_,ev,b,rfl⟩:=VG (p:=λv=>∃b:Int,v=V.int b) (xs:=[.int 1,.int 60,.int (1+(i:Int))]) (d:=(i:Int)%3) (λv C=>by
  simp only[SE,List.not_mem_nil,or_false]at C;rcases C with rfl|rfl|rfl<;>exact⟨_,R⟩) () (by show _<(3:Int);lia)
 erw[⟨_,R,_,R,_,R,_,R,_,_,R,R,(),D,_,_,_,R,R,Ze.of e5,g0,_,R,_,R,_,_,R,R,(),_,_,R,R,_,R,_,_,R,R,⟨(),()⟩,_,_,R,R,_,_,R,R,(),D,_,_,_,R,R,Ze.of e5,m0,_,R,_,_,R,R,zL9 R,λp6 g6=>⟨_,R,_,_,R,R,(),p6,_,_,_,R,R,Ze.of Zj,ev,zL9 R,λE g=>?_⟩⟩];have s6:=Zt g6 (.lst [.int 1,.int 60,.int (1+(i:Int))]);generalize Zb H5 p6 (.lst [.int 1,.int 60,.int (1+(i:Int))])=H6 at s6 g ⊢;generalize c:Zb H6 E _=H7;have s7:=s6.trans (Z0 g c);have c7:=Z7 c;clear c;exact QD T Q (m5.same s7) c7 (m5.fr (s6.free g)) (.s1 (d0 _ n0) (d0 _ y0) (.int _)) λB H8 U g8 k8=>⟨_,R,Zi () ⟨B,_,U,k8 _ _ e0 (s7 _ _ c5),k8 _ _ c0 (s7 _ _ e5),f0 t5 g8 U.sd.ok,R⟩⟩;rintro u H5 ⟨N2,e1,m5,c5,e5,t5,rfl⟩;obtain⟨z1,g0,n0⟩:=atS 1 () ();obtain⟨z0,t0,r0⟩:=atS 0 () ();erw[⟨_,R,_,R,_,R,D,_,_,_,R,R,Ze.of e5,g0,_,R,D,_,_,_,R,R,Ze.of e5,t0,zL9 R,λE g=>?_⟩];exists H5,E,H6,s6,g,c6;erw[QD T Q (m5.same s6) c6 (m5.fr g) (.s1 (d0 _ n0) (d0 _ r0) (.int _)) λN3 H7 m7 g7 k7=>⟨_,R,Zi () ?_⟩];have c7:=k7 _ _ e0 (s6 _ _ c5);have e7:=k7 _ _ c0 (s6 _ _ e5);have t7:=f0 t5 g7 m7.sd.ok;clear k7 g7 s6 c6 g m5 c5 e5 t5;erw[⟨7,R,(),(),Q5 (n:=7) (λi u x=>∃(N:ZH) (J:Option V),Md t sd H N x/\x y=some (.lst (VT d))/\x D=some (.lst (SN.map V.str))/\N.st=I.st/\(N.ru.length=6\/∀j,j<i->XT d j∈N.ru.map Xm.nm)/\u=[some (.ref sd.n),some (.ref sd.wd),some (.int d),some (.ref y),J,some (.ref D),none,none]) ⟨N3,_,m7,c7,e7,t7,.inr λj h=>Os h (),R⟩ ?_ ?_⟩];rintro i u H8 hi ⟨N,x0,U,c8,e8,t8,Z,rfl⟩;rw[Int.zero_add];erw[⟨_,R,_,R,_,R,_,R,y,_,_,_,R,R,Ze.of c8,MD (),_,R,zL9 R,λp9 g9=>⟨zL9 R,λE g=>?_⟩⟩];have s9:=Zt g9 (.tup [.str (OK "week"),.int i]);have k9:Zb H8 p9 (.tup [.str (OK "week"),.int i]) p9=some (.tup [.str (OK "week"),.int i]):=Zj;generalize Zb H8 p9 (.tup [.str (OK "week"),.int i])=H9 at s9 g k9 ⊢;generalize c:Zb H9 E _=Ha;have fa:=Z0 g c;have sa:=s9.trans fa;have ca:=Z7 c;clear c;erw[QD T Q (U.same sa) ca (U.fr (s9.free g)) (.s2 (o:=some (.week i)) (j0 _ i) ⟨⟨0,.week (fa _ _ k9)⟩,show i<=127 by lia,show 1<=15 by lia,show 1<=8 by lia⟩) λB Hb S gb kb=>⟨_,R,Zi () ⟨B,_,S,kb _ _ e0 (sa _ _ c8),kb _ _ c0 (sa _ _ e8),f0 t8 gb S.sd.ok,?_,R⟩⟩];ext⟨r,L⟩ gb.ru;have l6:=S.sd.ok.r6;rcases Z with Z|Z;exact .inl (by rw[L,Su]at l6 ⊢;lia);rcases gb.s2 _ _ _ _ rfl rfl (q0 i) (fa _ _ k9)with h|h;exact .inl h;erw[.inr λj hj=>?_];by_cases z:j=i;rwa[z];rw[L,SK];exact SF.mpr (.inl (Z j ()));rintro u H8 ⟨N4,x0,U,c8,e8,t8,Z,rfl⟩;have l6:N4.ru.length=6:=ZcG () () U.sd.ok.r6 Z;have keepR:∀{H N B k xs},N.ru.length=6->WN H N B k xs->YN B->B.ru.length=6:=λ{H N B k xs} e l0 ok=>by
  ext⟨r,L⟩ l0.ru;have:=ok.r6;rw[L,Su]at this ⊢;lia
 erw[⟨4,R,(),(),Q5 (n:=4) (λi u x=>∃(N:ZH) (J:Option V),Md t sd H N x/\x y=some (.lst (VT d))/\x D=some (.lst (SN.map V.str))/\N.st=I.st/\N.ru.length=6/\u=[some (.ref sd.n),some (.ref sd.wd),some (.int d),some (.ref y),J,some (.ref D),none,none]) ⟨N4,_,U,c8,e8,t8,l6,R⟩ ?_ ?_⟩];rintro i u H9 hi ⟨N,w4,m9,c9,e9,t9,r9,rfl⟩;rw[Int.zero_add];obtain⟨_,g0,b1,rfl⟩:=VG (p:=λv=>∃b:Int,v=V.int b) (xs:=[.int 0,.int 10000]) (d:=(i:Int)%2) (λv C=>by
  simp only[SE,List.not_mem_nil,or_false]at C;rcases C with rfl|rfl<;>exact⟨_,R⟩) () (by show _<(2:Int);lia)
 obtain⟨_,m0,b2,rfl⟩:=VG (p:=λv=>∃b:Int,v=V.int b) (xs:=[.int 1,.int 1440]) (d:=(i:Int)/2) (λv C=>by
  simp only[SE,List.not_mem_nil,or_false]at C;rcases C with rfl|rfl<;>exact⟨_,R⟩) () (by show _<(2:Int);lia)
 erw[⟨_,R,_,R,_,R,_,R,y,_,_,_,R,R,Ze.of c9,MD (),zL9 R,λpa ga=>⟨_,R,_,_,R,R,(),pa,_,_,_,R,R,Ze.of Zj,g0,zL9 R,λpb gb=>⟨_,R,_,_,R,R,⟨(),()⟩,pb,_,_,_,R,R,Ze.of Zj,m0,_,R,_,_,R,R,zL9 R,λpc gc=>⟨zL9 R,λE g=>?_⟩⟩⟩⟩];have sa:=Zt ga (.lst [.int 0,.int 10000]);generalize Zb H9 pa (.lst [.int 0,.int 10000])=Ha at sa gb gc g ⊢;have sb:=sa.trans (Zt gb (.lst [.int 1,.int 1440]));generalize Zb Ha pb (.lst [.int 1,.int 1440])=Hb at sb gc g ⊢;have M:=Zt gc (.lst [.int (1+(i:Int)),.int 6]);have kc:Zb Hb pc (.lst [.int (1+(i:Int)),.int 6]) pc=some (.lst [.int (1+(i:Int)),.int 6]):=Zj;generalize Zb Hb pc (.lst [.int (1+(i:Int)),.int 6])=Hc at M kc g ⊢;have p0:=sb.trans M;generalize c:Zb Hc E _=Hd;have fd:=Z0 g c;have Y:=p0.trans fd;have cd:=Z7 c;clear c;exact QD T Q (m9.same Y) cd (m9.fr (p0.free g)) (.s3 (o:=some [.int (1+(i:Int)),.int 6]) (j0 _ i) (.int _) (.int _) ⟨pc,R,fd _ _ kc,Zcu R⟩ λys e=>by cases e;show 2<=10;lia) λB He me ge ke=>⟨_,R,Zi () ⟨B,_,me,ke _ _ e0 (Y _ _ c9),ke _ _ c0 (Y _ _ e9),f0 t9 ge me.sd.ok,keepR r9 ge me.sd.ok,R⟩⟩;rintro u H9 ⟨N5,w4,m9,c9,e9,t9,r9,rfl⟩;ext⟨rr,r1,r2⟩ m9.sd.wr.ru;erw[⟨_,R,sd.wd,_,R,m9.sd.wr.gR,sd.b.dr,rr,R,r1,λlr gr=>?_⟩];rw[VR (λkv b0 (h:Xb H9 kv b0)=>h.1) r2];exists H9,lr,Ha,sa,gr,ca;have a1:=m9.fr gr;have w0:∀z∈N5.ru.map Xm.nm,Yc z:=λz hz=>by obtain⟨b0,hx,rfl⟩:=SI.mp hz;exact(m9.sd.ok.ro b0 hx).1
 have lR:(N5.ru.map Xm.nm).length=6:=by rwa[Sv]
 generalize N5.ru.map Xm.nm=RN at ca w0 lR;erw[⟨11,R,(),(),Q5 (n:=11) (λi u x=>∃(N:ZH) (J v7:Option V),Md t sd H N x/\x y=some (.lst (VT d))/\x D=some (.lst (SN.map V.str))/\x lr=some (.lst (RN.map V.str))/\N.st=I.st/\u=[some (.ref sd.n),some (.ref sd.wd),some (.int d),some (.ref y),J,some (.ref D),some (.ref lr),v7]) ⟨N5,_,_,m9.same sa,sa _ _ c9,sa _ _ e9,ca,t9,R⟩ ?_ ?_⟩];rintro i u Hb hi ⟨N,c1,w7,S,cb,eb,rb,tb,rfl⟩;rw[Int.zero_add];obtain⟨_,ev,i1,rfl,oy⟩:=VG (p:=λv=>∃z,v=V.str z/\Yc z) (xs:=RN.map V.str) (d:=(i:Int)%6) (λv C=>by obtain⟨z,hz,rfl⟩:=SI.mp C;exact⟨z,R,w0 z hz⟩) () (by rw[Sv,lR];lia);erw[⟨_,R,_,R,_,_,R,R,_,R,_,R,_,_,R,R,(),_,_,R,R,d+i,2+i%5,D,SN,(by rw[show(2:Int)+(i:Int)%5=((2+i%5:Nat):Int) by lia];rfl),eb,u0,(),(),(),λcs l us Hc M nl hl al oc lc=>?_⟩];erw[⟨_,R,_,R,_,R,_,R,y,_,_,_,R,R,Ze.of (M _ _ cb),MD (),_,R,_,R,_,_,R,R,(),lr,_,_,_,R,R,Ze.of (M _ _ rb),ev,_,R,zL9 R,λE g=>?_⟩];generalize c:Zb Hc E _=Hd;have fd:=Z0 g c;have Y:=M.trans fd;have cd:=Z7 c;clear c;exact QD T Q (S.same Y) cd (S.fr (M.free g)) (.s4 (j0 _ i) (d0 _ oy) (fd _ _ hl) (al.imp λ_ _=>Yd.same fd) (by rw[tb,f1];exact oc) () ()) λB He me ge ke=>⟨_,R,Zi () ⟨B,_,_,me,ke _ _ e0 (Y _ _ cb),ke _ _ c0 (Y _ _ eb),ke _ _ a1 (Y _ _ rb),f0 tb ge me.sd.ok,R⟩⟩;rintro u Hb ⟨N6,c1,w7,S,cb,eb,rb,tb,rfl⟩;erw[⟨_,R,_,R,zL9 R,λE g=>?_⟩];exists Hb,E,Hc,M,g,cc;erw[QD T Q (S.same M) cc (S.fr g) (.s0 (QS _ ()) (.int _) (.int _)) λN7 Hd md gd kd=>⟨_,R,Zo R ?_⟩];have ed:=kd _ _ c0 (M _ _ eb);erw[⟨_,R,_,R,_,R,D,_,_,_,R,R,Ze.of ed,t0,zL9 R,λl2 g2=>?_⟩];exists Hd,l2,He,se,g2,ce;exact QD T Q (md.same se) ce (md.fr g2) (.s0 (d0 _ r0) (.int _) (.int _)) λN8 Hf mf _ _=>q _ _ mf
structure Bt(t:Ya)(K:Ox)(sd:Bool->Yz)(M:OH)(lo:Addr)(H:Hp)(Nf:Bool->ZH)(n:Nat):Prop where
 sd:∀b,Y2 t H (sd b) (Nf b)
 ol:X5 K M H lo n
 mm:Uw M H
 tp:YI t.YR UM H
 tn:YI t.Xg E6 H
structure Ba(t:Ya)(sd:Bool->Yz)(M:OH)(lo:Addr):Prop where
 ap:∀x∈(sd false).own,x∉(sd true).own
 ow:∀b,∀x∈(sd b).own,x∈M
 lm:lo∈M
 nl:∀b,lo∉(sd b).own
 pm:t.YR∈M
 nm:t.Xg∈M
 ne:t.YR≠t.Xg
def Bt.same{sd:Bool->Yz}{M:OH}{lo:Addr}{c:Hp}{d:Bool->ZH}{n:Nat}(h:Bt t K sd M lo H d n)(s:Zc H c):Bt t K sd M lo c d n:=⟨λb=>(h.sd b).same s,h.ol.off (.of s) λu e=>s _ _ e,h.mm.kin (.of s),h.tp.same s,h.tn.same s⟩
def Ba.apb(a:Ba t sd M lo)(b:Bool):∀x∈(sd (!b)).own,x∉(sd b).own:=by
 cases b with
 |false=>exact λx h c=>a.ap x c h
 |true=>exact a.ap
def X5.lst(h:X5 K M H lo n):∃vs,H lo=some (.lst vs):=let ⟨vs,a,_⟩:=h.ex;⟨vs,a⟩
def Bt.put{sd:Bool->Yz}{M:OH}{lo:Addr}{d:Hp}{g:Bool->ZH}{n:Nat}{b:Bool}{f:ZH}(h:Bt t K sd M lo H g n)(a:Ba t sd M lo)(m:Md t (sd b) H f d):Bt t K sd M lo d (λc=>if c=b then f else g c) n:=by
 ext⟨C,j⟩ h.ol.lst;ext⟨B,i⟩ h.tp.at;ext⟨pn,v⟩ h.tn.at;have of:YA M H d:=λx o e n=>m.of x o e λz=>n ((SE.mp z).elim (λe=>e ▸ a.pm) (a.ow b x));have y:lo∉t.YR::(sd b).own:=λz=>(SE.mp z).elim (Yr j i ()) (a.nl b);erw[⟨λc=>?_,h.ol.off of λu e=>m.of _ _ e y,h.mm.kin m.kn,m.tl,E4 h.tn m.kn λu e=>m.of _ _ e λz=>?_⟩];by_cases z:c=b;subst z;rw[SW R];exact m.sd;rw[SV z];obtain rfl:c = !b:=by cases c<;>cases b<;>first|rfl|exact Os R z
 exact(h.sd _).kin m.kn λx u e hm=>m.of x u e λq=>(SE.mp q).elim (λq=>QC ((h.sd (!b)).kd hm) i q) (a.apb b x hm);rcases SE.mp z with z|z;exact a.ne z.symm;exact QC ((h.sd b).kd z) v R
def Bt.told{sd:Bool->Yz}{M:OH}{lo:Addr}{c:Hp}{d:Bool->ZH}{n f:Nat}(h:Bt t K sd M lo H d n)(a:Ba t sd M lo)(s:Zc (wo H lo) c)(o:X5 K M c lo f):Bt t K sd M lo c d f:=by
 have k:=h.ol.kin s o;ext⟨y,g⟩ h.ol.lst;ext⟨v,j⟩ h.tp.at;ext⟨pn,i⟩ h.tn.at;exact⟨λb=>(h.sd b).kin k λx u e m=>s x u (Z4 e λz=>a.nl b (z ▸ m)),o,h.mm.kin k,E4 h.tp k λu e=>s _ _ (Z4 e (Yr j g ())),E4 h.tn k λu e=>s _ _ (Z4 e (Yr i g ()))⟩
def Bt.not{sd:Bool->Yz}{M:OH}{lo:Addr}{c:Hp}{d:Bool->ZH}{n:Nat}(h:Bt t K sd M lo H d n)(a:Ba t sd M lo)(k:Yh H c)(o:YA [t.Xg] H c)(tn:YI t.Xg E6 c):Bt t K sd M lo c d n:=by
 ext⟨j,g⟩ h.ol.lst;ext⟨i,v⟩ h.tp.at;ext⟨pn,f⟩ h.tn.at;have of:YA M H c:=λx u e n=>o x u e λz=>n (SD.mp z ▸ a.nm);exact⟨λb=>(h.sd b).kin k λx u e m=>o x u e λz=>QC ((h.sd b).kd m) f (SD.mp z),h.ol.off of λu e=>o _ _ e λz=>Yr g f () (SD.mp z),h.mm.kin k,E4 h.tp k λu e=>o _ _ e λz=>a.ne (SD.mp z),tn⟩
def Mn.l{a:NA}(h:Mn H a):∀x∈a.l,H x=none:=λx m=>by
 simp only[NA.l,SE,List.not_mem_nil,or_false]at m;rcases m with rfl|rfl|rfl|rfl|rfl;exact h.s;exact h.w;exact h.r;exact h.t;exact h.p
def YN.nil:YN ⟨[],[],[],[],[]⟩:=⟨(),.nil,(),(),(),(),.nil,(),(),.nil,(),(),.nil,()⟩
inductive sp_law(K:Ox)(Ts:OH)(vs:List V)(H:Hp)(Q:VK)(_e3:XK):Prop|mk (a:Addr) (ns:OE) (_:vs=[.ref a]) (_:(∀T∈Ts,H T=some (.tbl #[]))) (_:Ze K H a (ns.map V.int)) (_:ns.length<=63) (_:∀H',Q (.bl true) H')
def ZlF(f:Zy K mg t)(y1:W.CodeHd base t.C0 t.YR)(m3:W.CodeHd base t.J3 t.Xg)(r1:BM mg base):Zp P w K mg base Zv 100 t.gD t.RH ["_law_script"] (sp_law K [t.YR,t.Xg]):=by
 erw[f.TH.F.ok Va () λu3 A outer s j3 vs o3 v3 y h0=>?_];ext⟨a,ns,rfl,c2,d2,y2,q⟩ h0;erw[⟨_,(Zg (ZA 1 Va.nd (ZD f.C3 (KA f) y Zu (Zq (ZD f.ZaS (ZjY f) y Zu (Zq (pv 0) Za)) Za))) (Zg (I0 (i0:=2) (cl:=[(OK "_law_seed",s.heap.objs.size+1)]) (N:=["_law_k","_law_seed"]) (fr:=[none,some 1]) Va.nd R (Or.inl R) R (VW R f.Ul (Zh Za)) R () R () ⟨⟨R,Or.inl R,Or.inl R,_,R,R⟩,trivial⟩ ⟨R,trivial⟩ R (λ_ _ _ _ _=>(Yl 0 (show List.Nodup (["_law_k","_law_seed"]:OC) by lia))) (λ_ _ _ _ _=>Wu) (λ_ _ _ _ _=>(ZD f.TC (ZbZ f) y Zu (Zq (pv 1) (pv 0))))) (Zg (ZA 3 Va.nd (ZI (Zq (xL f.Zba (Zb6 f) (y.mono ()) R f.Zbm f.T5.b .nil Zu) (xL f.Zba (Zb6 f) (y.mono ()) R f.Zbm f.T5.b .nil Zu)))) (Zg (ZA 4 Va.nd (ZI (Zq (xJ (Zcg f) (y.mono ()) R f.QO.m f.QO.F.kp f.QO.b .nil Zu) (xJ (Zcg f) (y.mono ()) R f.QO.m f.QO.F.kp f.QO.b .nil Zu)))) (Zg (ZA 5 Va.nd (ZI YG)) (Zg (W8 (vU R f.ZaL (Zh (A2 MU (pv 0) (Qd Za) (Qd Za)))) (MI (n:=2) R (UR (Yl 6 Va.nd) (UR (Yl 7 Va.nd) KZ))) (Zg (ZA 8 Va.nd (ZD f.C3 (KA f) y Zu (Zq (pv 7) (Zl YZ Za (pv 6))))) (Zg (ZA 9 Va.nd (Zl Y5 (Zl ZQ (pv 8) Za) Za)) (Zg (K0 (ZD f.ZaZ (Zlk f) y Zu (Z5 (Zr ZJ (pv 4) (pv 9)) (pv 2) (Zl Y5 (pv 8) Za))) (MI (n:=2) R (UR (Yl 10 Va.nd) (UR (Yl 11 Va.nd) KZ)))) (Zg (ZC (ZX (ZW (ZD f.UE (U8 f y1 r1) y Zu (X1 (Zr ZJ (pv 3) (pv 9)) (Zr ZJ (pv 4) (pv 9)) (pv 10) (pv 11))))) (Zf (Zw YY)) ZK) (Zg (ZA 12 Va.nd (ZD f.C3 (KA f) y Zu (Zq (pv 7) (Zl YZ Za (pv 6))))) (Zf (ZC (PW.pt (Vf (ZX (ZW (ZD f.TF (ZcE f) y Zu (X1 (Zr ZJ (pv 3) (pv 9)) (Zr ZJ (pv 4) (pv 9)) (pv 12) (pv 5))))) (Vu (ZX (ZW (ZD f.Za1 (ZlC f m3 r1) y Zu (Z5 (Zr ZJ (pv 3) (pv 9)) (pv 2) (pv 12)))))))) (Zf (Zw YY)) ZK)))))))) (Qm (ZC (PW.pt (W1 (ZZ Ye (Zl ZQ (Zl Y5 (pv 1) Za) Za) Za) (W0 (ZX (ZW (ZD f.Za2 (ZlE f y1 r1) y Zu (Z5 (Zr ZJ (pv 3) Za) (Zr ZJ (pv 4) Za) (pv 1)))))))) (Zf (Zw YY)) ZK) (Zg (W8 (yS (YH (Zq Za Za))) (Yl 9 Va.nd) (Zf (ZC (ZX (ZW (ZD f.TF (ZcE f) y Zu (X1 (Zr ZJ (pv 3) (pv 9)) (Zr ZJ (pv 4) (pv 9)) (pv 9) (pv 5))))) (Zf (Zw YY)) ZK))) (Zf (Zw (Y7 (Lu y.units0) (Wv (cl:=[]) (N:=["_law_pair"]) (fr:=[none]) R (Xx (pv 5)) R () R () trivial trivial R (λ_ _ _ _ _=>(Yl 0 (show List.Nodup (["_law_pair"]:OC) by lia))) (λ_ _ _ _ _=>(G6 (ZZ (show YB _ (compareOp .NotEq) (Na K true)from Li y.units) (Zr (show Xt _ (G1 K)from ZV) (pv 0) Za) (Zr (show Xt _ (G1 K)from ZV) (pv 0) Za)))) (λ_ _ _ _ _=>(pv 0))) (ZI YG) (Xq _)))))))))))),?_⟩];erw[⟨_,R,a,ns,0,R,d2,(),λc0=>⟨c0,0,R,(),(),?_⟩⟩];have hd:=ZbX c0 0;generalize VP c0 0=d at hd;erw[⟨_,R,(),(),G7 (lo:=0) (n:=10) (λi L h B=>Zc j3 B/\L=((List.range i).map (XT d)).map V.str/\∃v,h=[v,some (.int d)]) ⟨Zc.refl _,R,_,R⟩ () ?_ ?_⟩];rintro i L h H1 hi ha ⟨s1,rfl,v0,rfl⟩;dsimp only[YK,Wb];rw[SW R,Int.zero_add];erw[⟨_,R,_,R,d,i,R,(),λH2 s2=>⟨by rw[Su,Sw];lia,s1.trans s2,?_,_,R⟩⟩];rw[Oj,SK,SK];rfl;rintro L h H0 ha ⟨s0,rfl,v0,rfl⟩ S gn;have o2:∀z∈(List.range 10).map (XT d),Yc z:=λz hz=>by obtain⟨j,_,rfl⟩:=SI.mp hz;exact zW d j
 have a2:((List.range 10).map (XT d)).length=10:=by rw[Sv,List.length_range]
 generalize (List.range 10).map (XT d)=NS at o2 a2;generalize g:Zb H0 S _=H1;have s1:=s0.trans (Z0 gn g);have X:=Z7 g;clear g;erw[λn0 f3 g1 g2 q3=>?_];erw[⟨n0,H1,R,g1,Vm (Zt g2 _) g1 _,⟨f3,Zj⟩,λH2 a0 s2 f1 t2=>⟨R,?_⟩⟩];erw[λY w2 v1 c3 A5=>?_];erw[⟨Y,H2,R,v1,Vm (Zt c3 _) v1 _,⟨w2,Zj⟩,λH3 a1 s3 o1 e2=>⟨R,zL9 R,λG gb=>?_⟩⟩];exists H3,G,H4,s4,gb,cb;erw[⟨R,λQ b0 H5 I e3 i2 f0 l1=>⟨R,λH U H6 Z i3 q2 k0 m1=>⟨zL9 R,λlw l2=>?_⟩⟩⟩];exists H6,lw,H7,s7,l2,cw;erw[⟨zL9 R,λlo j0=>?_⟩];exists H7,lo,H8,s8,j0,co;have f2:=((I.trans Z).trans s7).trans s8;have u2:=s4.trans f2;have t1:=s3.trans u2;have z0:=s2.trans t1;have d0:=λx (m:x∈a0.l)=>f1.kd m;have t0:=λx (m:x∈a1.l)=>o1.kd m;have h1:=λx (m:x∈Q::b0.l)=>l1.kd m;have b2:=λx (m:x∈H::U.l)=>m1.kd m;have j1:=e2.l;have q0:∀x∈Q::b0.l,H4 x=none:=λx m=>(SE.mp m).elim (λe=>e ▸ e3) (i2.l x);have e0:∀x∈H::U.l,H5 x=none:=λx m=>(SE.mp m).elim (λe=>e ▸ i3) (q2.l x);have x1:∀x∈a0.l,x∉a1.l:=λx m u=>Vc (d0 x m) (j1 x u) R;have x2:∀x∈a0.l,x∉Q::b0.l:=λx m u=>Vc ((d0 x m).same (s3.trans s4)) (q0 x u) R;have x3:∀x∈a0.l,x∉H::U.l:=λx m u=>Vc ((d0 x m).same ((s3.trans s4).trans I)) (e0 x u) R;have x4:∀x∈a1.l,x∉Q::b0.l:=λx m u=>Vc ((t0 x m).same s4) (q0 x u) R;have x5:∀x∈a1.l,x∉H::U.l:=λx m u=>Vc ((t0 x m).same (s4.trans I)) (e0 x u) R;have x6:∀x∈Q::b0.l,x∉H::U.l:=λx m u=>Vc (h1 x m) (e0 x u) R;have y0:H8 t.YR=some (.tbl #[]):=z0 _ _ (s1 _ _ (c2 _ (.head _)));have x0:H8 t.Xg=some (.tbl #[]):=z0 _ _ (s1 _ _ (c2 _ (.tail _ (.head _))));obtain⟨sd,k1⟩:∃sd:Bool->Yz,sd=λb=>if b=true then ⟨Y,a1,H,U⟩else ⟨n0,a0,Q,b0⟩:=⟨_,R⟩
 have ef:sd false=⟨n0,a0,Q,b0⟩:=by rw[k1];rfl
 have J:sd true=⟨Y,a1,H,U⟩:=by rw[k1];rfl
 have own:∀b,∀x∈(sd b).own,Ko H6 x:=λb x m=>by
  cases b with
  |false =>
   rw[ef]at m;rcases SF.mp m with m|m;exact(d0 x m).same (((s3.trans s4).trans I).trans Z);exact(h1 x m).same Z
  |true =>
   rw[J]at m;rcases SF.mp m with m|m;exact(t0 x m).same ((s4.trans I).trans Z);exact b2 x m
 have p1:=s7.trans s8;obtain⟨M,eM⟩:∃M:List Addr,M=t.YR::t.Xg::lo::((sd false).own++(sd true).own):=⟨_,R⟩;have c1:∀{x},x∈M->x=t.YR\/x=t.Xg\/x=lo\/∃b,x∈(sd b).own:=λ{x} m=>by
  rw[eM]at m;simp only[SE,SF]at m;rcases m with m|m|m|m|m;exact .inl m;exact .inr (.inl m);exact .inr (.inr (.inl m));exact .inr (.inr (.inr ⟨_,m⟩));exact .inr (.inr (.inr ⟨_,m⟩))
 have mk:Uw M H8:=λx m=>by
  rcases c1 m with rfl|rfl|rfl|⟨b,m⟩;exact⟨_,y0,()⟩;exact⟨_,x0,()⟩;exact⟨_,co,()⟩;exact Zll ((own b x m).same p1)
 have ap:Ba t sd M lo:=⟨λx m u=>by
   rw[ef]at m;rw[J]at u;rcases SF.mp m with m|m<;>rcases SF.mp u with u|u
   exact x1 x m u;exact x3 x m u;exact x4 x u m;exact x6 x m u,λb x m=>by
   rw[eM];simp only[SE,SF];cases b with
   |false=>exact .inr (.inr (.inr (.inl m)))
   |true=>exact .inr (.inr (.inr (.inr m))),by rw[eM];simp,λb m=>Vc ((own b lo m).same s7) j0 R,by rw[eM];simp,by rw[eM];simp,f.Zjb⟩
 have bt:Bt t K sd M lo H8 (λ_=>⟨[],[],[],[],[]⟩) 0:=⟨λb=>by
   cases b with
   |false=>rw[ef];exact⟨f1.same t1,l1.same (Z.trans p1),⟨f0.1,f0.2.1,f0.2.2.1,f0.2.2.2⟩,.nil,x2⟩
   |true=>rw[J];exact⟨o1.same u2,m1.same p1,⟨k0.1,k0.2.1,k0.2.2.1,k0.2.2.2⟩,.nil,x5⟩,⟨[],co,(),()⟩,mk,.nil y0,.nil x0⟩
 have lM:∀{x xs},H8 x=some (.lst xs)->x≠lo->(∀b,x∉(sd b).own)->x∉M:=λ{x xs} e Y n2 m=>by
  rcases c1 m with rfl|rfl|rfl|⟨b,m⟩;rw[y0]at e;cases e;rw[x0]at e;cases e;exact Y R;exact n2 b m
 have d1:=f2 _ _ cb;have e1:=s8 _ _ cw;have i1:=z0 _ _ X;have g0:G∉M:=lM d1 (Z1 (((I.trans Z).trans s7) _ _ cb) j0) λb m=>by
  cases b with
  |false =>
   rw[ef]at m;rcases SF.mp m with m|m;exact Vc ((d0 _ m).same s3) gb R;exact Z1 cb (q0 _ m) R
  |true =>
   rw[J]at m;rcases SF.mp m with m|m;exact Vc (t0 _ m) gb R;exact Z1 (I _ _ cb) (e0 _ m) R
 have p0:lw∉M:=lM e1 (Z1 cw j0) λb m=>Vc (own b _ m) l2 R;have n3:S∉M:=lM i1 (Z1 (((((((s2.trans s3).trans s4).trans I).trans Z).trans s7)) _ _ X) j0) λb m=>by
  cases b with
  |false =>
   rw[ef]at m;rcases SF.mp m with m|m;exact Z1 X (t2.l _ m) R;exact Z1 (((s2.trans s3).trans s4) _ _ X) (q0 _ m) R
  |true =>
   rw[J]at m;rcases SF.mp m with m|m;exact Z1 (s2 _ _ X) (j1 _ m) R;exact Z1 ((((s2.trans s3).trans s4).trans I) _ _ X) (e0 _ m) R
 erw[⟨_,R,1,R,21,R,a,_,R,(s1.trans z0).seq d2,λls r2=>?_⟩];exists H8,ls,H9,s9,r2,cs;have z2:=mk.nin r2;generalize u1:WP (ns.map V.int) (some 1) (some 21)=xs at cs;have w3:xs.length<=63:=by
  rw[<-u1];exact Sh (MS _ _ _) (by rwa[Sv])
 have l3:∀v∈xs,∃c:Int,v=.int c:=λv C=>by
  rw[<-u1]at C;unfold WP at C;obtain⟨c,_,rfl⟩:=SI.mp (List.mem_of_mem_drop (List.mem_of_mem_take C));exact⟨c,R⟩
 have m2:∀j:Nat,j<2->∃b,Xy [V.ref n0,.ref Y] ((j:Nat):Int)=some (.ref (sd b).n)/\Xy [V.ref Q,.ref H] ((j:Nat):Int)=some (.ref (sd b).wd):=λj hj=>by
  rcases(show j=0\/j=1 by lia)with rfl|rfl;exact⟨false,by rw[ef];rfl,by rw[ef];rfl⟩;exact⟨true,by rw[J];rfl,by rw[J];rfl⟩
 have l0:=s9 _ _ d1;have u0:=s9 _ _ e1;have d3:=s9 _ _ i1;have h3:=bt.same s9;clear bt d1 e1 i1 mk own x1 x2 x3 x4 x5 x6 d0 t0 h1 b2 j1 q0 e0 c1 lM y0 x0 f1 o1 l1 m1 t2 e2 i2 q2 f0 k0 eM k1 co cb cw X;erw[⟨ls,R,⟨_,Ze.of cs⟩,vV (xs:=xs) (λi h B=>∃(E:Bool->ZH) (v6 v7 v8 O r0 m0 o0:Option V),Bt t K sd M lo B E (5*i)/\YA M H9 B/\h=[some (.ref a),some (.int d),some (.ref S),some (.ref G),some (.ref lw),some (.ref lo),v6,v7,v8,O,r0,m0,o0]) ⟨_,_,_,_,_,_,_,_,h3,.of (Zc.refl _),R⟩ (λi h B _ ⟨_,_,_,_,_,_,_,_,_,o,_⟩=>Ze.of (o _ _ cs z2)) ?_ ?_⟩];rintro i v pp h Ha C a3 ⟨E,v6,v7,v8,O,r0,m0,o0,ba,oa,rfl⟩;have hi:=(Sr.mp C).1;obtain⟨c,rfl⟩:=l3 v (SJ C);exists Ha,pp,Hb,sb,a3,cp;have bb:=ba.same sb;have ob:=oa.trans (.of sb);erw[⟨pp,_,R,Zk.of cp,R,_,_,R,_,_,R,R,?_⟩];erw[⟨_,R,_,R,_,_,R,R,c,1+(i:Nat),R,(),(),?_⟩];have hM:=ZbX c (1+(i:Nat));generalize VP c (1+(i:Nat))=M1 at hM;erw[⟨_,R,_,_,R,R,(),_,_,R,R,⟨(),()⟩,?_⟩];obtain⟨j,ej,hj⟩:∃j:Nat,(M1:Int)%4/3=((j:Nat):Int)/\j<2:=⟨M1%4/3,(),()⟩;dsimp only;rw[ej];clear ej;obtain⟨b,eN,eW⟩:=m2 j hj;erw[⟨_,R,_,R,lw,_,_,_,R,R,Ze.of (ob _ _ u0 p0),eW,_,R,_,R,_,_,R,R,⟨(),()⟩,(sd b).wd,S,(sd b).b,E b,NS,M1/4,congrArg (λz=>[V.ref (sd b).wd,.ref S,.int z]) (show(M1:Int)/4=((M1/4:Nat):Int) by lia),(bb.sd b).wr,(bb.sd b).ok,ob _ _ d3 n3,a2,o2,(),λp lg k ys Hc sc hp nl hl hG=>?_⟩];have bc:=bb.same sc;have oc:=ob.trans (.of sc);erw[⟨p,_,R,Zk.of hp,R,_,_,R,_,_,R,R,?_⟩];erw[⟨_,R,_,R,G,_,_,_,R,R,Ze.of (oc _ _ l0 g0),eN,_,R,_,R,lw,_,_,_,R,R,Ze.of (oc _ _ u0 p0),eW,_,R,_,R,sd b,E b,k,lg,ys,R,bc.sd b,hl,λm=>Vc ((bb.sd b).kd m) nl R,hG,bc.tp,λN' Hd pt=>⟨_,R,Zi () ?_⟩⟩];have D:=bc.put ap ⟨pt.sd,pt.kn,pt.of,pt.tl⟩;have T:YA M H9 Hd:=oc.trans λx o e n=>pt.of x o e λz=>n ((SE.mp z).elim (λe=>e ▸ ap.pm) (ap.ow b x));erw[⟨_,R,_,R,_,_,R,R,c,40+(i:Nat),R,(),(),?_⟩];generalize VP c (40+(i:Nat))=M2;erw[⟨_,R,_,R,G,_,_,_,R,R,Ze.of (T _ _ l0 g0),eN,_,R,_,R,lw,_,_,_,R,R,Ze.of (T _ _ u0 p0),eW,_,R,_,R,sd b,_,M2,lo,M,5*i,R,D.sd b,D.ol,(),ap.lm,ap.nl b,D.mm,λHe se oe=>⟨_,R,Zi () ?_⟩⟩];have be:=D.told ap se oe;have h2:YA M H9 He:=T.trans (YA.wout se ap.lm);erw[⟨_,R,_,R,G,_,_,_,R,R,Ze.of (h2 _ _ l0 g0),eN,_,R,_,R,(sd b).n,(sd b).a,_,.ref S,M2,R,(be.sd b).no,(be.sd b).ok,be.tn,λHf kf j2 tf=>⟨_,R,Zi () ?_⟩⟩];exact⟨_,_,_,_,_,_,_,_,be.not ap kf j2 tf,h2.trans λx o e n=>j2 x o e λz=>n (SD.mp z ▸ ap.nm),R⟩;rintro h Ha ⟨E,v6,v7,v8,O,r0,m0,o0,ba,oa,rfl⟩;erw[⟨λh B=>∃(E:Bool->ZH),Bt t K sd M lo B E (5*xs.length)/\YA M H9 B/\h=[some (.ref a),some (.int d),some (.ref S),some (.ref G),some (.ref lw),some (.ref lo),v6,v7,v8,O,r0,m0,o0],?_,?_⟩];erw[⟨_,R,_,_,R,R,⟨(),()⟩,_,_,R,R,(),R,_,R,Xs (λh0=>?_) (λh0=>?_)⟩];erw[⟨_,R,G,_,1,_,R,R,Ze.of (oa _ _ l0 g0),(by rw[show V.ref Y=V.ref (sd true).n by rw[J]];rfl),_,R,lw,_,1,_,R,R,Ze.of (oa _ _ u0 p0),(by rw[show V.ref H=V.ref (sd true).wd by rw[J]];rfl),_,R,sd true,E true,d,R,ba.sd true,ba.tp,hd,λN' Hb m=>⟨_,R,Zi () ⟨_,ba.put ap m,oa.trans λx o e n=>m.of x o e λz=>n ((SE.mp z).elim (λe=>e ▸ ap.pm) (ap.ow true x)),R⟩⟩⟩];exact Zi () ⟨_,ba,oa,R⟩;rintro h Hb ⟨E,bb,ob,rfl⟩;erw[⟨zL9 R,λp gp=>?_⟩];exists Hb,p,Hc,sc,gp,cp;have bc:=bb.same sc;have pM:=bc.mm.tup (Zc.refl _) cp;have oc:YA M H9 Hc:=ob.trans (.of sc);erw[⟨p,R,⟨_,Zk.of cp⟩,yV (xs:=[.int 0,.int 1]) (λi h B=>∃O:Option V,Bt t K sd M lo B E (5*xs.length+5*i)/\YA M Hc B/\h=[some (.ref a),some (.int d),some (.ref S),some (.ref G),some (.ref lw),some (.ref lo),v6,v7,v8,O,r0,m0,o0]) ⟨_,bc,.of (Zc.refl _),R⟩ (λi h B _ ⟨_,_,o,_⟩=>Zk.of (o _ _ cp pM)) ?_ ?_⟩];rintro i v h Hd C ⟨O,D,T,rfl⟩;have hi:=(Sr.mp C).1;have hi:i<2:=hi;obtain rfl:v=.int i:=by
  rcases(show i=0\/i=1 by lia)with rfl|rfl<;>(cases C;rfl)
 obtain⟨b,eN,eW⟩:=m2 i hi;have v2:=oc.trans T;erw[⟨_,R,_,R,G,_,_,_,R,R,Ze.of (v2 _ _ l0 g0),eN,_,R,_,R,lw,_,_,_,R,R,Ze.of (v2 _ _ u0 p0),eW,_,R,_,R,sd b,E b,i,lo,M,_,R,D.sd b,D.ol,(),ap.lm,ap.nl b,D.mm,λHe se oe=>⟨_,R,Zi () ⟨_,D.told ap se oe,T.trans (YA.wout se ap.lm),R⟩⟩⟩];rintro h Hd ⟨O,D,T,rfl⟩;ext⟨vs,ho,lv,b3⟩ D.ol.ex;erw[⟨_,R,lo,R,⟨_,Ze.of ho⟩,WL (K:=K) (a:=lo) (xs:=vs) (λi L h B=>B=Hd/\L=[]/\∃v,h=[v]) ⟨R,R,_,R⟩ (Sh lv (Sh (show _<=400 by show 5*xs.length+5*2<=400;lia) ())) (λi L h B _ ⟨e,_⟩=>by rw[e];exact Ze.of ho) ?_ ?_⟩];rintro i v L h He hi C ⟨rfl,rfl,v0,rfl⟩;obtain⟨q1,r3,p3,dd,rfl,k2,k3,k4,k5⟩:=b3 v (SJ C);have cu:Zc (WO M He) He:=λx o e=>(KS e).2;have k2:=cu _ _ k2;have k3:=k3.same cu;dsimp only[YK];exact⟨_,R,q1,_,0,_,R,R,Zk.of k2,R,_,R,q1,_,1,_,R,R,Zk.of k2,R,dd,dd,k3,k4.same cu,k5,_,R,Zi (by rw[SeqAt.eqv_refl _ k3.can];lia) ⟨(),R,R,_,R⟩⟩;rintro L h He ha ⟨rfl,rfl,v0,rfl⟩ pc gc;have s2:=Zt gc (.lst []);erw[⟨zL9 R,λp2 g2=>?_⟩];have s3:=Zt g2 (.lst []);exact⟨pc,p2,_,R,R,Ze.of (s3 _ _ Zj),Ze.of Zj,q _⟩
end
local macro_rules|`(tactic|rfl')=>`(tactic|first|exact on0 λ_ _ _ _ _ _=>R|exact Y0 λ_ _ _ _ _ _ _=>R|exact YX λ_ _ _ _ _ _ _ _=>R|exact W7 λ_ _ _ _ _ _ _ _ _=>R|exact Qp λ_ _ _ _ _ _ _ _ _ _=>R|exact on5 λ_ _ _ _ _ _ _ _ _ _ _=>R)
def all_mk{h:Heap}(X:K.In h)(G:h.Ns mainGlobals mg){Aa Ab Ac Ad Ae Af Ag Ah Ai Aj Ak Al Am An Ao Ap Aq Ar As At Au Av:Tok}{Aw Ax Ay Az AA AB AC AD AE AF AG AH AI AJ AK AL AM AN AO AP AQ AR AS AT AU AV AW AX AY AZ Ba Bb Bc Bd Be Bf Bg Bh Bi Bj Bk Bl Bm Bn Bo Bp Bq Br Bs Bt Bu Bv Bw Bx By Bz BA BB BC BD BE BF BG BH BI BJ BK BL BM BN BO BP BQ BR BS BT BU BV BW BX BY BZ Ca Cb Cc Cd Ce Cf Cg Ch Ci Cj Ck Cl Cm Cn Co Cp Cq Cr Cs Ct Cu Cv Cw Cx Cy Cz CA CB CC CD CE CF CG:Addr}{CH CI CJ CK CL CM CN CO CP CQ CR CS CT CU CV CW CY CZ Da Db Dc Dd De Df Dg Dh Di Dj Dk Dl Dm Dn Do Dp Dq Dr Ds Dt Du Dv Dw Dx Dy Dz DA DB DC DD DE DF DG DH DI DJ DK DL DN DO DP DQ DR DS DT DU DV DW DX DY DZ Ea Eb Ec Ed Ee Ef Eg Eh Ei Ej Ek El Em En Eo Ep:OJ}{Er Es:Value}{Et Eu:OF}{Ev Ew:Array Value}{Ex Ey:Oz}(Ez:OH)(EA:W.nsIn K mainGlobals "RoadError"=some (some (.ref Bh)))(EB:W.nsIn K mainGlobals "BadClock"=some (some (.ref Bi)))(EC:W.nsIn K mainGlobals "BadRule"=some (some (.ref Bj)))(ED:W.nsIn K mainGlobals "TooMany"=some (some (.ref Bk)))(EE:W.nsIn K mainGlobals "BadName"=some (some (.ref Bl)))(EF:W.nsIn K mainGlobals "Twice"=some (some (.ref Bm)))(EG:W.nsIn K mainGlobals "NoStop"=some (some (.ref Bn)))(EH:W.nsIn K mainGlobals "NoRule"=some (some (.ref Bo)))(EI:W.nsIn K mainGlobals "NoTicket"=some (some (.ref Bp)))(EJ:W.nsIn K mainGlobals "NoTrip"=some (some (.ref Bq)))(EK:W.nsIn K mainGlobals "BadNumber"=some (some (.ref Br)))(EL:W.nsIn K mainGlobals "BadCalls"=some (some (.ref Bs)))(EM:W.nsIn K mainGlobals "BadRow"=some (some (.ref Bt)))(EN:W.nsIn K mainGlobals "NoRun"=some (some (.ref Bu)))(EO:W.nsIn K mainGlobals "NoPlan"=some (some (.ref Bv)))(EP:W.nsIn K mainGlobals "TooLate"=some (some (.ref Bw)))(EQ:W.nsIn K mainGlobals "NoTraveller"=some (some (.ref Bx)))(ER:W.nsIn K mainGlobals "BadLine"=some (some (.ref By)))(ES:W.nsIn K mainGlobals "Rule"=some (some (.ref Bz)))(ET:W.nsIn K mainGlobals "Week"=some (some (.ref BA)))(EU:W.nsIn K mainGlobals "Span"=some (some (.ref BB)))(EV:W.nsIn K mainGlobals "Each"=some (some (.ref BC)))(EW:W.nsIn K mainGlobals "Either"=some (some (.ref BD)))(EX:W.nsIn K mainGlobals "Both"=some (some (.ref BE)))(EY:W.nsIn K mainGlobals "But"=some (some (.ref BF)))(EZ:W.nsIn K mainGlobals "Net"=some (some (.ref BG)))(Fa:W.nsIn K mainGlobals "ValueError"=some none)(Fb:W.nsIn K mainGlobals "all"=some none)(Fc:W.nsIn K mainGlobals "any"=some none)(Fd:W.nsIn K mainGlobals "bool"=some none)(Fe:W.nsIn K mainGlobals "enumerate"=some none)(Ff:W.nsIn K mainGlobals "int"=some none)(Fg:W.nsIn K mainGlobals "isinstance"=some none)(Fh:W.nsIn K mainGlobals "len"=some none)(Fi:W.nsIn K mainGlobals "list"=some none)(Fj:W.nsIn K mainGlobals "max"=some none)(Fk:W.nsIn K mainGlobals "range"=some none)(Fl:W.nsIn K mainGlobals "set"=some none)(Fm:W.nsIn K mainGlobals "sorted"=some none)(Fn:W.nsIn K mainGlobals "str"=some none)(Fo:W.nsIn K mainGlobals "sum"=some none)(Fp:W.nsIn K mainGlobals "tuple"=some none)(Fq:W.nsIn K mainGlobals "LETTERS"=some (some (.str (OK "abcdefghijklmnopqrstuvwxyz") Aa)))(Fr:W.nsIn K mainGlobals "MOST_LETTERS"=some (some (.int 8 Ab)))(Fs:W.nsIn K mainGlobals "LAST_DAY"=some (some (.int 9999 Ac)))(Ft:W.nsIn K mainGlobals "LAST_MINUTE"=some (some (.int 2879 Ad)))(Fu:W.nsIn K mainGlobals "WEEK_DAYS"=some (some (.int 7 Ae)))(Fv:W.nsIn K mainGlobals "ALL_WEEK"=some (some (.int 127 Af)))(Fw:W.nsIn K mainGlobals "MOST_LENGTH"=some (some (.int 28 Ag)))(Fx:W.nsIn K mainGlobals "MOST_LISTED"=some (some (.int 12 Ah)))(Fy:W.nsIn K mainGlobals "MOST_WEIGHT"=some (some (.int 15 Ai)))(Fz:W.nsIn K mainGlobals "MOST_DEPTH"=some (some (.int 8 Aj)))(FA:W.nsIn K mainGlobals "MOST_STOPS"=some (some (.int 8 Ak)))(FB:W.nsIn K mainGlobals "MOST_WALKS"=some (some (.int 12 Al)))(FC:W.nsIn K mainGlobals "MOST_RULES"=some (some (.int 6 Am)))(FD:W.nsIn K mainGlobals "MOST_TICKETS"=some (some (.int 3 An)))(FE:W.nsIn K mainGlobals "MOST_TRIPS"=some (some (.int 10 Ao)))(FF:W.nsIn K mainGlobals "LAST_ZONE"=some (some (.int 6 Ap)))(FG:W.nsIn K mainGlobals "MOST_CHANGE"=some (some (.int 30 Aq)))(FH:W.nsIn K mainGlobals "MOST_WALKED"=some (some (.int 60 Ar)))(FI:W.nsIn K mainGlobals "MOST_PRICE"=some (some (.int 10000 As)))(FJ:W.nsIn K mainGlobals "MOST_LASTING"=some (some (.int 1440 At)))(FK:W.nsIn K mainGlobals "LEAST_CALLS"=some (some (.int 2 Au)))(FL:W.nsIn K mainGlobals "MOST_CALLS"=some (some (.int 6 Av)))(FM:DM K "is_any_number" NG Aw CH)(FN:DM K "is_number" NH Ax CI)(FO:DM K "check_number" NI Ay CJ)(FP:DM K "are_rising" NJ Az CK)(FQ:DM K "is_name" NK AA CL)(FR:DM K "is_known" NL AB CM)(FS:DM K "copy_of" NM AC CN)(FT:DM K "check_size" NN AD CO)(FU:DM K "check_new" NO AE CP)(FV:DM K "check_room" NP AF CQ)(FW:DM K "have_calls_form" NQ AG CR)(FX:DM K "can_follow" NR AH CS)(FY:DM K "_law_cell_at" NT AI CT)(FZ:DM K "_law_mixed" NU AJ CU)(Ga:DM K "_law_among" NV AK CV)(Gb:DM K "_law_name" NX AL CW)(Gc:DM K "_law_is_name" NY AM CY)(Gd:DM K "_law_said" NZ AN CZ)(Ge:DM K "_law_days" N9 AO Da)(Gf:DM K "_law_rule" Pa AP Db)(Gg:DM K "_law_runs" Pb AQ Dc)(Gh:DM K "_law_calls" Pd AR Dd)(Gi:DM K "_law_world" Pe AS De)(Gj:DM K "_law_fresh" Pf AT Df)(Gk:DM K "_law_are_zones" Pg AU Dg)(Gl:DM K "_law_due_stop" Ph AV Dh)(Gm:DM K "_law_due_walk" Pi AW Di)(Gn:DM K "_law_due_rule" Pj AX Dj)(Go:DM K "_law_due_ticket" Pk AY Dk)(Gp:DM K "_law_due_trip" Pl AZ Dl)(Gq:DM K "_law_given" Pm Ba Dm)(Gr:DM K "_law_put" Pn Bb Dn)(Gs:DM K "_law_one" Po Bc Do)(Gt:DM K "_law_stands" Pp Bd Dp)(Gu:DM K "_law_not_there" Ps Be Dq)(Gv:DM K "_law_filled" Pv Bf Dr)(Gw:DM K "law" Pw Bg Ds)(Gx:MM K Bz "copied" "Rule.copied" Px BH Dt)(Gy:MM K Bz "parts" "Rule.parts" Py BI Du)(Gz:MM K Bz "runs" "Rule.runs" Pz BJ Dv)(GA:MM K Bz "weight" "Rule.weight" PB BK Dw)(GB:MM K Bz "depth" "Rule.depth" PD BL Dx)(GC:MM K BA "__init__" "Week.__init__" PF BM Dy)(GD:MM K BA "copied" "Week.copied" PH BN Dz)(GE:MM K BA "runs" "Week.runs" PJ BO DA)(GF:MM K BB "__init__" "Span.__init__" PL BP DB)(GG:MM K BB "copied" "Span.copied" PM BQ DC)(GH:MM K BB "parts" "Span.parts" PN BR DD)(GI:MM K BB "runs" "Span.runs" PP BS DE)(GJ:MM K BC "__init__" "Each.__init__" PQ BT DF)(GK:MM K BC "copied" "Each.copied" PR BU DG)(GL:MM K BC "runs" "Each.runs" PU BV DH)(GM:MM K BD "__init__" "Either.__init__" PV BW DI)(GN:MM K BD "copied" "Either.copied" PX BX DJ)(GO:MM K BD "parts" "Either.parts" PY BY DK)(GP:MM K BD "runs" "Either.runs" PZ BZ DL)(GQ:MM K BE "__init__" "Both.__init__" P0 Ca DN)(GR:MM K BE "copied" "Both.copied" P1 Cb DO)(GS:MM K BE "parts" "Both.parts" P2 Cc DP)(GT:MM K BE "runs" "Both.runs" P3 Cd DQ)(GU:MM K BF "__init__" "But.__init__" P4 Ce DR)(GV:MM K BF "copied" "But.copied" P5 Cf DS)(GW:MM K BF "parts" "But.parts" P6 Cg DT)(GX:MM K BF "runs" "But.runs" P7 Ch DU)(GY:MM K BG "__init__" "Net.__init__" P8 Ci DV)(GZ:MM K BG "add_stop" "Net.add_stop" P9 Cj DW)(Ha:MM K BG "add_walk" "Net.add_walk" Ra Ck DX)(Hb:MM K BG "add_rule" "Net.add_rule" Rb Cl DY)(Hc:MM K BG "add_ticket" "Net.add_ticket" Rc Cm DZ)(Hd:MM K BG "add_trip" "Net.add_trip" Re Cn Ea)(He:MM K BG "check_stop" "Net.check_stop" Rg Co Eb)(Hf:MM K BG "check_trip" "Net.check_trip" Rh Cp Ec)(Hg:MM K BG "check_call" "Net.check_call" Ri Cq Ed)(Hh:MM K BG "has_walk" "Net.has_walk" Rj Cr Ee)(Hi:MM K BG "stops" "Net.stops" Rk Cs Ef)(Hj:MM K BG "walks" "Net.walks" Rl Ct Eg)(Hk:MM K BG "rules" "Net.rules" Rm Cu Eh)(Hl:MM K BG "tickets" "Net.tickets" Rn Cv Ei)(Hm:MM K BG "trips" "Net.trips" Ro Cw Ej)(Hn:MM K BG "zone" "Net.zone" Rp Cx Ek)(Ho:MM K BG "change" "Net.change" Rq Cy El)(Hp:MM K BG "rule" "Net.rule" Rr Cz Em)(Hq:MM K BG "ticket" "Net.ticket" Rs CA En)(Hr:MM K BG "rule_name" "Net.rule_name" Rt CB Eo)(Hs:MM K BG "calls" "Net.calls" Ru CC Ep)(Ht:YO K Bz)(Hu:Nd K Bz)(Hv:YO K BA)(Hw:Mk K BA BM)(Hx:Ym K BA "depth" BL)(Hy:Ym K BA "parts" BI)(Hz:Ym K BA "weight" BK)(HA:W.findIn K (.ref BA) "bits"=some none)(HB:YO K BB)(HC:Mk K BB BP)(HD:Ym K BB "depth" BL)(HE:Ym K BB "weight" BK)(HF:W.findIn K (.ref BB) "first"=some none)(HG:W.findIn K (.ref BB) "last"=some none)(HH:W.findIn K (.ref BB) "inner"=some none)(HI:YO K BC)(HJ:Mk K BC BT)(HK:Ym K BC "depth" BL)(HL:Ym K BC "parts" BI)(HM:Ym K BC "weight" BK)(HN:W.findIn K (.ref BC) "length"=some none)(HO:W.findIn K (.ref BC) "starts"=some none)(HP:YO K BD)(HQ:Mk K BD BW)(HR:Ym K BD "depth" BL)(HS:Ym K BD "weight" BK)(HT:W.findIn K (.ref BD) "one"=some none)(HU:W.findIn K (.ref BD) "other"=some none)(HV:YO K BE)(HW:Mk K BE Ca)(HX:Ym K BE "depth" BL)(HY:Ym K BE "weight" BK)(HZ:W.findIn K (.ref BE) "one"=some none)(Ia:W.findIn K (.ref BE) "other"=some none)(Ib:YO K BF)(Ic:Mk K BF Ce)(Ie:Ym K BF "depth" BL)(If:Ym K BF "weight" BK)(Ig:W.findIn K (.ref BF) "days"=some none)(Ih:W.findIn K (.ref BF) "inner"=some none)(Ii:YO K BG)(Ij:Mk K BG Ci)(Ik:W.findIn K (.ref BG) "stop_rows"=some none)(Il:W.findIn K (.ref BG) "walk_rows"=some none)(Im:W.findIn K (.ref BG) "rule_rows"=some none)(Io:W.findIn K (.ref BG) "ticket_rows"=some none)(Ip:W.findIn K (.ref BG) "trip_rows"=some none)(Iq:WM K Bz)(Ir:W.kitOne K (.ref Bz) (.ref Bz)=some true)(Is:WM K BA)(It:W.kitOne K (.ref BA) (.ref Bz)=some true)(Iu:WM K BB)(Iv:W.kitOne K (.ref BB) (.ref Bz)=some true)(Iw:WM K BC)(Ix:W.kitOne K (.ref BC) (.ref Bz)=some true)(Iy:WM K BD)(Iz:W.kitOne K (.ref BD) (.ref Bz)=some true)(IA:WM K BE)(IB:W.kitOne K (.ref BE) (.ref Bz)=some true)(IC:WM K BF)(ID:W.kitOne K (.ref BF) (.ref Bz)=some true)(IE:W.kitOne K (.type "NoneType") (.ref Bz)=some false)(IF:W.kitOne K (.type "bool") (.ref Bz)=some false)(IG:W.kitOne K (.type "int") (.ref Bz)=some false)(IH:W.kitOne K (.type "str") (.ref Bz)=some false)(II:W.kitOne K (.type "list") (.ref Bz)=some false)(IJ:W.kitOne K (.type "tuple") (.ref Bz)=some false)(IK:XY K Bj)(IL:YS K Bj)(IM:KX K Bj [(Bi,false),(Bj,true),(Bk,false),(Bl,false),(Bm,false),(Bn,false),(Bo,false),(Bp,false),(Bq,false),(Br,false),(Bs,false),(Bt,false),(Bu,false),(Bv,false),(Bw,false),(By,false),(Bx,false)])(IN:W.kitOne K (.ref Bj) (.type "ValueError")=some true)(IP:W.exmOne K (.ref Bj) (.ref Bh)=some true)(IQ:XY K Bk)(IR:YS K Bk)(IS:KX K Bk [(Bi,false),(Bj,false),(Bk,true),(Bl,false),(Bm,false),(Bn,false),(Bo,false),(Bp,false),(Bq,false),(Br,false),(Bs,false),(Bt,false),(Bu,false),(Bv,false),(Bw,false),(By,false),(Bx,false)])(IT:W.kitOne K (.ref Bk) (.type "ValueError")=some true)(IU:W.exmOne K (.ref Bk) (.ref Bh)=some true)(IV:XY K Bl)(IW:YS K Bl)(IX:KX K Bl [(Bi,false),(Bj,false),(Bk,false),(Bl,true),(Bm,false),(Bn,false),(Bo,false),(Bp,false),(Bq,false),(Br,false),(Bs,false),(Bt,false),(Bu,false),(Bv,false),(Bw,false),(By,false),(Bx,false)])(IY:W.kitOne K (.ref Bl) (.type "ValueError")=some true)(IZ:W.exmOne K (.ref Bl) (.ref Bh)=some true)(Ja:XY K Bm)(Jb:YS K Bm)(Jc:KX K Bm [(Bi,false),(Bj,false),(Bk,false),(Bl,false),(Bm,true),(Bn,false),(Bo,false),(Bp,false),(Bq,false),(Br,false),(Bs,false),(Bt,false),(Bu,false),(Bv,false),(Bw,false),(By,false),(Bx,false)])(Jd:W.kitOne K (.ref Bm) (.type "ValueError")=some true)(Je:W.exmOne K (.ref Bm) (.ref Bh)=some true)(Jf:XY K Bn)(Jg:YS K Bn)(Jh:KX K Bn [(Bi,false),(Bj,false),(Bk,false),(Bl,false),(Bm,false),(Bn,true),(Bo,false),(Bp,false),(Bq,false),(Br,false),(Bs,false),(Bt,false),(Bu,false),(Bv,false),(Bw,false),(By,false),(Bx,false)])(Ji:W.kitOne K (.ref Bn) (.type "ValueError")=some true)(Jj:W.exmOne K (.ref Bn) (.ref Bh)=some true)(Jk:XY K Bo)(Jl:YS K Bo)(Jm:KX K Bo [(Bi,false),(Bj,false),(Bk,false),(Bl,false),(Bm,false),(Bn,false),(Bo,true),(Bp,false),(Bq,false),(Br,false),(Bs,false),(Bt,false),(Bu,false),(Bv,false),(Bw,false),(By,false),(Bx,false)])(Jn:W.kitOne K (.ref Bo) (.type "ValueError")=some true)(Jo:W.exmOne K (.ref Bo) (.ref Bh)=some true)(Jp:XY K Bp)(Jq:YS K Bp)(Jr:KX K Bp [(Bi,false),(Bj,false),(Bk,false),(Bl,false),(Bm,false),(Bn,false),(Bo,false),(Bp,true),(Bq,false),(Br,false),(Bs,false),(Bt,false),(Bu,false),(Bv,false),(Bw,false),(By,false),(Bx,false)])(Js:W.kitOne K (.ref Bp) (.type "ValueError")=some true)(Jt:W.exmOne K (.ref Bp) (.ref Bh)=some true)(Ju:XY K Bq)(Jv:YS K Bq)(Jw:KX K Bq [(Bi,false),(Bj,false),(Bk,false),(Bl,false),(Bm,false),(Bn,false),(Bo,false),(Bp,false),(Bq,true),(Br,false),(Bs,false),(Bt,false),(Bu,false),(Bv,false),(Bw,false),(By,false),(Bx,false)])(Jx:W.kitOne K (.ref Bq) (.type "ValueError")=some true)(Jy:W.exmOne K (.ref Bq) (.ref Bh)=some true)(Jz:XY K Br)(JA:YS K Br)(JB:KX K Br [(Bi,false),(Bj,false),(Bk,false),(Bl,false),(Bm,false),(Bn,false),(Bo,false),(Bp,false),(Bq,false),(Br,true),(Bs,false),(Bt,false),(Bu,false),(Bv,false),(Bw,false),(By,false),(Bx,false)])(JC:W.kitOne K (.ref Br) (.type "ValueError")=some true)(JD:W.exmOne K (.ref Br) (.ref Bh)=some true)(JE:Dn.code=.ref CD)(JF:K.lookup CD=some ⟨Er,Et,.fields Ev,Ex⟩)(JG:(Ev[11]?:Option Value)=some (.ref CE))(JH:K.lookup CE=none)(JI:W.codeHdIn K CD CE=true)(JJ:CE∈Ez)(JK:Dq.code=.ref CF)(JL:K.lookup CF=some ⟨Es,Eu,.fields Ew,Ey⟩)(JM:(Ew[11]?:Option Value)=some (.ref CG))(JN:K.lookup CG=none)(JO:W.codeHdIn K CF CG=true)(JP:CG∈Ez)(JQ:CE≠CG): ∃t:Ya,Zy K mg t/\t.YR∈Ez/\t.Xg∈Ez :=
 ⟨⟨Aw,CH,Ax,CI,Ay,CJ,Az,CK,AA,CL,AB,CM,AC,CN,AD,CO,AE,CP,AF,CQ,AG,CR,AH,CS,AI,CT,AJ,CU,AK,CV,AL,CW,AM,CY,AN,CZ,AO,Da,AP,Db,AQ,Dc,AR,Dd,AS,De,AT,Df,AU,Dg,AV,Dh,AW,Di,AX,Dj,AY,Dk,AZ,Dl,Ba,Dm,Bb,Dn,Bc,Do,Bd,Dp,Be,Dq,Bf,Dr,Bg,Ds,BH,Dt,BI,Du,BJ,Dv,BK,Dw,BL,Dx,BM,Dy,BN,Dz,BO,DA,BP,DB,BQ,DC,BR,DD,BS,DE,BT,DF,BU,DG,BV,DH,BW,DI,BX,DJ,BY,DK,BZ,DL,Ca,DN,Cb,DO,Cc,DP,Cd,DQ,Ce,DR,Cf,DS,Cg,DT,Ch,DU,Ci,DV,Cj,DW,Ck,DX,Cl,DY,Cm,DZ,Cn,Ea,Co,Eb,Cp,Ec,Cq,Ed,Cr,Ee,Cs,Ef,Ct,Eg,Cu,Eh,Cv,Ei,Cw,Ej,Cx,Ek,Cy,El,Cz,Em,CA,En,CB,Eo,CC,Ep,Bh,Bi,Bj,Bk,Bl,Bm,Bn,Bo,Bp,Bq,Br,Bs,Bt,Bu,Bv,Bw,Bx,By,Bz,BA,BB,BC,BD,BE,BF,BG,CD,CE,CF,CG,K⟩,⟨W.mg_none_of X G Fa,W.mg_none_of X G Fb,W.mg_none_of X G Fc,W.mg_none_of X G Fd,W.mg_none_of X G Fe,W.mg_none_of X G Ff,W.mg_none_of X G Fg,W.mg_none_of X G Fh,W.mg_none_of X G Fi,W.mg_none_of X G Fj,W.mg_none_of X G Fk,W.mg_none_of X G Fl,W.mg_none_of X G Fm,W.mg_none_of X G Fn,W.mg_none_of X G Fo,W.mg_none_of X G Fp,⟨_,W.mg_of X G Fq⟩,⟨_,W.mg_of X G Fr⟩,⟨_,W.mg_of X G Fs⟩,⟨_,W.mg_of X G Ft⟩,⟨_,W.mg_of X G Fu⟩,⟨_,W.mg_of X G Fv⟩,⟨_,W.mg_of X G Fw⟩,⟨_,W.mg_of X G Fx⟩,⟨_,W.mg_of X G Fy⟩,⟨_,W.mg_of X G Fz⟩,⟨_,W.mg_of X G FA⟩,⟨_,W.mg_of X G FB⟩,⟨_,W.mg_of X G FC⟩,⟨_,W.mg_of X G FD⟩,⟨_,W.mg_of X G FE⟩,⟨_,W.mg_of X G FF⟩,⟨_,W.mg_of X G FG⟩,⟨_,W.mg_of X G FH⟩,⟨_,W.mg_of X G FI⟩,⟨_,W.mg_of X G FJ⟩,⟨_,W.mg_of X G FK⟩,⟨_,W.mg_of X G FL⟩,YE X G FM (by rfl'),YE X G FN (by rfl'),YE X G FO (by rfl'),YE X G FP (by rfl'),YE X G FQ (by rfl'),YE X G FR (by rfl'),YE X G FS (by rfl'),YE X G FT (by rfl'),YE X G FU (by rfl'),YE X G FV (by rfl'),YE X G FW (by rfl'),YE X G FX (by rfl'),YE X G FY (by rfl'),YE X G FZ (by rfl'),YE X G Ga (by rfl'),YE X G Gb (by rfl'),YE X G Gc (by rfl'),YE X G Gd (by rfl'),YE X G Ge (by rfl'),YE X G Gf (by rfl'),YE X G Gg (by rfl'),YE X G Gh (by rfl'),YE X G Gi (by rfl'),YE X G Gj (by rfl'),YE X G Gk (by rfl'),YE X G Gl (by rfl'),YE X G Gm (by rfl'),YE X G Gn (by rfl'),YE X G Go (by rfl'),YE X G Gp (by rfl'),YE X G Gq (by rfl'),YE X G Gr (by rfl'),YE X G Gs (by rfl'),YE X G Gt (by rfl'),YE X G Gu (by rfl'),YE X G Gv (by rfl'),YE X G Gw (by rfl'),Z9 Gx (by rfl'),Z9 Gy (by rfl'),Z9 Gz (by rfl'),Z9 GA (by rfl'),Z9 GB (by rfl'),Z9 GC (by rfl'),Z9 GD (by rfl'),Z9 GE (by rfl'),Z9 GF (by rfl'),Z9 GG (by rfl'),Z9 GH (by rfl'),Z9 GI (by rfl'),Z9 GJ (by rfl'),Z9 GK (by rfl'),Z9 GL (by rfl'),Z9 GM (by rfl'),Z9 GN (by rfl'),Z9 GO (by rfl'),Z9 GP (by rfl'),Z9 GQ (by rfl'),Z9 GR (by rfl'),Z9 GS (by rfl'),Z9 GT (by rfl'),Z9 GU (by rfl'),Z9 GV (by rfl'),Z9 GW (by rfl'),Z9 GX (by rfl'),Z9 GY (by rfl'),Z9 GZ (by rfl'),Z9 Ha (by rfl'),Z9 Hb (by rfl'),Z9 Hc (by rfl'),Z9 Hd (by rfl'),Z9 He (by rfl'),Z9 Hf (by rfl'),Z9 Hg (by rfl'),Z9 Hh (by rfl'),Z9 Hi (by rfl'),Z9 Hj (by rfl'),Z9 Hk (by rfl'),Z9 Hl (by rfl'),Z9 Hm (by rfl'),Z9 Hn (by rfl'),Z9 Ho (by rfl'),Z9 Hp (by rfl'),Z9 Hq (by rfl'),Z9 Hr (by rfl'),Z9 Hs (by rfl'),Ht,Hu,Hv,Hw,Hx,Hy,Hz,HA,HB,HC,HD,HE,HF,HG,HH,HI,HJ,HK,HL,HM,HN,HO,HP,HQ,HR,HS,HT,HU,HV,HW,HX,HY,HZ,Ia,Ib,Ic,Ie,If,Ig,Ih,Ii,Ij,Ik,Il,Im,Io,Ip,Iq,Ir,Is,It,Iu,Iv,Iw,Ix,Iy,Iz,IA,IB,IC,ID,IE,IF,IG,IH,II,IJ,W.mg_of X G EA,W.mg_of X G EB,W.mg_of X G EC,W.mg_of X G ED,W.mg_of X G EE,W.mg_of X G EF,W.mg_of X G EG,W.mg_of X G EH,W.mg_of X G EI,W.mg_of X G EJ,W.mg_of X G EK,W.mg_of X G EL,W.mg_of X G EM,W.mg_of X G EN,W.mg_of X G EO,W.mg_of X G EP,W.mg_of X G EQ,W.mg_of X G ER,W.mg_of X G ES,W.mg_of X G ET,W.mg_of X G EU,W.mg_of X G EV,W.mg_of X G EW,W.mg_of X G EX,W.mg_of X G EY,W.mg_of X G EZ,IK,IL,IM,IN,IP,IQ,IR,IS,IT,IU,IV,IW,IX,IY,IZ,Ja,Jb,Jc,Jd,Je,Jf,Jg,Jh,Ji,Jj,Jk,Jl,Jm,Jn,Jo,Jp,Jq,Jr,Js,Jt,Ju,Jv,Jw,Jx,Jy,Jz,JA,JB,JC,JD,JE,JI,JH,JK,JO,JN,JQ,rfl⟩,JJ,JP⟩
end K06
local macro_rules|`(command|#where)=>do
 let n:=`PySem.Challenge
 let f(k:String)(i:Nat):=Lean.mkIdent (.str `PySem.W.Fast s!"tw{((n.str "cw_roadbook_k06_nets_put_together_holds").str s!"{k}{i}").hash}")
 let x:=(Array.range 1215).map (f "o_")++#[39,1175].map (f "heap_")++#[49,236,273,325,373,396,450,493,543,586,636,686,736,764,1014,1099].map (f "sts_")++#[70,85,100,115,130,145,160,175,190,205,220,235,257,272,294,309,324,372,395,449,492,542,585,635,685,735,763,929,1010,1098,1174].map (f "tree_")++#[39].map (f "view_")
 return Lean.mkNullNode (←x.mapM λi=>`(theorem $i:ident:True:=trivial))
#where
def PySem.W.Fast.tw14981799235270948171:=0
open PySem PySem.W PyProof.Rows
set_option maxRecDepth 100000 in
set_option maxHeartbeats 0 in
theorem PySem.Challenge.cw_roadbook_k06_nets_put_together_holds : PySem.Challenge.rw_roadbook_k06_nets_put_together.Holds := by
 w_on;o_law;k_head;(case hw=>w_witness2)
 k_fill
 refine L2.Zgm (l:=PySem.Challenge.rw_roadbook_k06_nets_put_together) (n:=63) (k:=100) (x := "_law_script") (CX:=L2.Zv) (sp:=K06.sp_law) rfl (by lia) rfl ⟨rfl,by lia,by lia,rfl⟩ (fun w h Y=>⟨PySem.W.km_in_of Y,PySem.W.km_tabs_of Y⟩) ?F (fun _ _ _ a ns hl hT hS=>⟨a,ns,rfl,hT,hS,hl,fun _=>rfl⟩) fun _ _ _ _ z=>z
 case F =>
  intro Ez eu w mg fa h KX G hmg
  have T:∃t,K06.Zy (L2.wG KX) mg t/\t.YR∈Ez/\t.Xg∈Ez:=by
   dsimp only[L2.wG]
   refine' K06.all_mk (Ez:=Ez) KX G ?EA ?EB ?EC ?ED ?EE ?EF ?EG ?EH ?EI ?EJ ?EK ?EL ?EM ?EN ?EO ?EP ?EQ ?ER ?ES ?ET ?EU ?EV ?EW ?EX ?EY ?EZ ?Fa ?Fb ?Fc ?Fd ?Fe ?Ff ?Fg ?Fh ?Fi ?Fj ?Fk ?Fl ?Fm ?Fn ?Fo ?Fp ?Fq ?Fr ?Fs ?Ft ?Fu ?Fv ?Fw ?Fx ?Fy ?Fz ?FA ?FB ?FC ?FD ?FE ?FF ?FG ?FH ?FI ?FJ ?FK ?FL ?FM ?FN ?FO ?FP ?FQ ?FR ?FS ?FT ?FU ?FV ?FW ?FX ?FY ?FZ ?Ga ?Gb ?Gc ?Gd ?Ge ?Gf ?Gg ?Gh ?Gi ?Gj ?Gk ?Gl ?Gm ?Gn ?Go ?Gp ?Gq ?Gr ?Gs ?Gt ?Gu ?Gv ?Gw ?Gx ?Gy ?Gz ?GA ?GB ?GC ?GD ?GE ?GF ?GG ?GH ?GI ?GJ ?GK ?GL ?GM ?GN ?GO ?GP ?GQ ?GR ?GS ?GT ?GU ?GV ?GW ?GX ?GY ?GZ ?Ha ?Hb ?Hc ?Hd ?He ?Hf ?Hg ?Hh ?Hi ?Hj ?Hk ?Hl ?Hm ?Hn ?Ho ?Hp ?Hq ?Hr ?Hs ?Ht ?Hu ?Hv ?Hw ?Hx ?Hy ?Hz ?HA ?HB ?HC ?HD ?HE ?HF ?HG ?HH ?HI ?HJ ?HK ?HL ?HM ?HN ?HO ?HP ?HQ ?HR ?HS ?HT ?HU ?HV ?HW ?HX ?HY ?HZ ?Ia ?Ib ?Ic ?Ie ?If ?Ig ?Ih ?Ii ?Ij ?Ik ?Il ?Im ?Io ?Ip ?Iq ?Ir ?Is ?It ?Iu ?Iv ?Iw ?Ix ?Iy ?Iz ?IA ?IB ?IC ?ID ?IE ?IF ?IG ?IH ?II ?IJ ?IK ?IL ?IM ?IN ?IP ?IQ ?IR ?IS ?IT ?IU ?IV ?IW ?IX ?IY ?IZ ?Ja ?Jb ?Jc ?Jd ?Je ?Jf ?Jg ?Jh ?Ji ?Jj ?Jk ?Jl ?Jm ?Jn ?Jo ?Jp ?Jq ?Jr ?Js ?Jt ?Ju ?Jv ?Jw ?Jx ?Jy ?Jz ?JA ?JB ?JC ?JD ?JE ?JF ?JG ?JH ?JI ?JJ ?JK ?JL ?JM ?JN ?JO ?JP ?JQ
   (case EA|EB|EC|ED|EE|EF|EG|EH|EI|EJ|EK|EL|EM|EN|EO|EP|EQ|ER|ES|ET|EU|EV|EW|EX|EY|EZ|Fa|Fb|Fc|Fd|Fe|Ff|Fg|Fh|Fi|Fj|Fk|Fl|Fm|Fn|Fo|Fp|Fq|Fr|Fs|Ft|Fu|Fv|Fw|Fx|Fy|Fz|FA|FB|FC|FD|FE|FF|FG|FH|FI|FJ|FK|FL=>k_is)
   (case FM|FN|FO|FP|FQ|FR|FS|FT|FU|FV|FW|FX|FY|FZ|Ga|Gb|Gc|Gd|Ge|Gf|Gg|Gh|Gi|Gj|Gk|Gl|Gm|Gn|Go|Gp|Gq|Gr|Gs|Gt|Gu|Gv|Gw=>refine' ⟨?a,L2.wH ?b ?c ?d⟩;(case a|b|c|d=>k_is))
   (case Gx|Gy|Gz|GA|GB|GC|GD|GE|GF|GG|GH|GI|GJ|GK|GL|GM|GN|GO|GP|GQ|GR|GS|GT|GU|GV|GW|GX|GY|GZ|Ha|Hb|Hc|Hd|He|Hf|Hg|Hh|Hi|Hj|Hk|Hl|Hm|Hn|Ho|Hp|Hq|Hr|Hs=>refine' ⟨⟨?a,?b,?c⟩,L2.wH ?d ?e ?f⟩;(case a|b|c|d|e|f=>k_is))
   (case Ht=>refine' ⟨?a,?b,?c,?d⟩;(case a|b|c|d=>k_is))
   (case Hu=>refine' ⟨?a,?b,?c⟩;(case a|b|c=>k_is))
   (case Hv|Hw=>refine' ⟨?a,?b,?c,?d⟩;(case a|b|c|d=>k_is))
   (case Hx|Hy|Hz=>refine' ⟨?a,?b,?c⟩;(case a|b|c=>k_is))
   (case HA=>k_is)
   (case HB|HC=>refine' ⟨?a,?b,?c,?d⟩;(case a|b|c|d=>k_is))
   (case HD|HE=>refine' ⟨?a,?b,?c⟩;(case a|b|c=>k_is))
   (case HF|HG|HH=>k_is)
   (case HI|HJ=>refine' ⟨?a,?b,?c,?d⟩;(case a|b|c|d=>k_is))
   (case HK|HL|HM=>refine' ⟨?a,?b,?c⟩;(case a|b|c=>k_is))
   (case HN|HO=>k_is)
   (case HP|HQ=>refine' ⟨?a,?b,?c,?d⟩;(case a|b|c|d=>k_is))
   (case HR|HS=>refine' ⟨?a,?b,?c⟩;(case a|b|c=>k_is))
   (case HT|HU=>k_is)
   (case HV|HW=>refine' ⟨?a,?b,?c,?d⟩;(case a|b|c|d=>k_is))
   (case HX|HY=>refine' ⟨?a,?b,?c⟩;(case a|b|c=>k_is))
   (case HZ|Ia=>k_is)
   (case Ib|Ic=>refine' ⟨?a,?b,?c,?d⟩;(case a|b|c|d=>k_is))
   (case Ie|If=>refine' ⟨?a,?b,?c⟩;(case a|b|c=>k_is))
   (case Ig|Ih=>k_is)
   (case Ii|Ij=>refine' ⟨?a,?b,?c,?d⟩;(case a|b|c|d=>k_is))
   (case Ik|Il|Im|Io|Ip=>k_is)
   (case Iq=>refine' ⟨?a,?b,?c,?d⟩;(case a|b|c|d=>k_is))
   (case Ir=>kit_is)
   (case Is=>refine' ⟨?a,?b,?c,?d⟩;(case a|b|c|d=>k_is))
   (case It=>kit_is)
   (case Iu=>refine' ⟨?a,?b,?c,?d⟩;(case a|b|c|d=>k_is))
   (case Iv=>kit_is)
   (case Iw=>refine' ⟨?a,?b,?c,?d⟩;(case a|b|c|d=>k_is))
   (case Ix=>kit_is)
   (case Iy=>refine' ⟨?a,?b,?c,?d⟩;(case a|b|c|d=>k_is))
   (case Iz=>kit_is)
   (case IA=>refine' ⟨?a,?b,?c,?d⟩;(case a|b|c|d=>k_is))
   (case IB=>kit_is)
   (case IC=>refine' ⟨?a,?b,?c,?d⟩;(case a|b|c|d=>k_is))
   (case ID|IE|IF|IG|IH|II|IJ=>kit_is)
   (case IK=>refine' ⟨?_⟩;k_exc)
   (case IL=>refine' L2.UY ?a ?b ?c ?d ?e ?f ?g ?h;(case a|b|c|d|e|f|g|h=>k_is))
   (case IM=>refine' L2.Zn ?_ (L2.Zn ?_ (L2.Zn ?_ (L2.Zn ?_ (L2.Zn ?_ (L2.Zn ?_ (L2.Zn ?_ (L2.Zn ?_ (L2.Zn ?_ (L2.Zn ?_ (L2.Zn ?_ (L2.Zn ?_ (L2.Zn ?_ (L2.Zn ?_ (L2.Zn ?_ (L2.Zn ?_ (L2.Zn ?_ (L2.UZ)))))))))))))))))<;>kit_is)
   (case IN=>kit_is)
   (case IP=>kts_exm)
   (case IQ=>refine' ⟨?_⟩;k_exc)
   (case IR=>refine' L2.UY ?a ?b ?c ?d ?e ?f ?g ?h;(case a|b|c|d|e|f|g|h=>k_is))
   (case IS=>refine' L2.Zn ?_ (L2.Zn ?_ (L2.Zn ?_ (L2.Zn ?_ (L2.Zn ?_ (L2.Zn ?_ (L2.Zn ?_ (L2.Zn ?_ (L2.Zn ?_ (L2.Zn ?_ (L2.Zn ?_ (L2.Zn ?_ (L2.Zn ?_ (L2.Zn ?_ (L2.Zn ?_ (L2.Zn ?_ (L2.Zn ?_ (L2.UZ)))))))))))))))))<;>kit_is)
   (case IT=>kit_is)
   (case IU=>kts_exm)
   (case IV=>refine' ⟨?_⟩;k_exc)
   (case IW=>refine' L2.UY ?a ?b ?c ?d ?e ?f ?g ?h;(case a|b|c|d|e|f|g|h=>k_is))
   (case IX=>refine' L2.Zn ?_ (L2.Zn ?_ (L2.Zn ?_ (L2.Zn ?_ (L2.Zn ?_ (L2.Zn ?_ (L2.Zn ?_ (L2.Zn ?_ (L2.Zn ?_ (L2.Zn ?_ (L2.Zn ?_ (L2.Zn ?_ (L2.Zn ?_ (L2.Zn ?_ (L2.Zn ?_ (L2.Zn ?_ (L2.Zn ?_ (L2.UZ)))))))))))))))))<;>kit_is)
   (case IY=>kit_is)
   (case IZ=>kts_exm)
   (case Ja=>refine' ⟨?_⟩;k_exc)
   (case Jb=>refine' L2.UY ?a ?b ?c ?d ?e ?f ?g ?h;(case a|b|c|d|e|f|g|h=>k_is))
   (case Jc=>refine' L2.Zn ?_ (L2.Zn ?_ (L2.Zn ?_ (L2.Zn ?_ (L2.Zn ?_ (L2.Zn ?_ (L2.Zn ?_ (L2.Zn ?_ (L2.Zn ?_ (L2.Zn ?_ (L2.Zn ?_ (L2.Zn ?_ (L2.Zn ?_ (L2.Zn ?_ (L2.Zn ?_ (L2.Zn ?_ (L2.Zn ?_ (L2.UZ)))))))))))))))))<;>kit_is)
   (case Jd=>kit_is)
   (case Je=>kts_exm)
   (case Jf=>refine' ⟨?_⟩;k_exc)
   (case Jg=>refine' L2.UY ?a ?b ?c ?d ?e ?f ?g ?h;(case a|b|c|d|e|f|g|h=>k_is))
   (case Jh=>refine' L2.Zn ?_ (L2.Zn ?_ (L2.Zn ?_ (L2.Zn ?_ (L2.Zn ?_ (L2.Zn ?_ (L2.Zn ?_ (L2.Zn ?_ (L2.Zn ?_ (L2.Zn ?_ (L2.Zn ?_ (L2.Zn ?_ (L2.Zn ?_ (L2.Zn ?_ (L2.Zn ?_ (L2.Zn ?_ (L2.Zn ?_ (L2.UZ)))))))))))))))))<;>kit_is)
   (case Ji=>kit_is)
   (case Jj=>kts_exm)
   (case Jk=>refine' ⟨?_⟩;k_exc)
   (case Jl=>refine' L2.UY ?a ?b ?c ?d ?e ?f ?g ?h;(case a|b|c|d|e|f|g|h=>k_is))
   (case Jm=>refine' L2.Zn ?_ (L2.Zn ?_ (L2.Zn ?_ (L2.Zn ?_ (L2.Zn ?_ (L2.Zn ?_ (L2.Zn ?_ (L2.Zn ?_ (L2.Zn ?_ (L2.Zn ?_ (L2.Zn ?_ (L2.Zn ?_ (L2.Zn ?_ (L2.Zn ?_ (L2.Zn ?_ (L2.Zn ?_ (L2.Zn ?_ (L2.UZ)))))))))))))))))<;>kit_is)
   (case Jn=>kit_is)
   (case Jo=>kts_exm)
   (case Jp=>refine' ⟨?_⟩;k_exc)
   (case Jq=>refine' L2.UY ?a ?b ?c ?d ?e ?f ?g ?h;(case a|b|c|d|e|f|g|h=>k_is))
   (case Jr=>refine' L2.Zn ?_ (L2.Zn ?_ (L2.Zn ?_ (L2.Zn ?_ (L2.Zn ?_ (L2.Zn ?_ (L2.Zn ?_ (L2.Zn ?_ (L2.Zn ?_ (L2.Zn ?_ (L2.Zn ?_ (L2.Zn ?_ (L2.Zn ?_ (L2.Zn ?_ (L2.Zn ?_ (L2.Zn ?_ (L2.Zn ?_ (L2.UZ)))))))))))))))))<;>kit_is)
   (case Js=>kit_is)
   (case Jt=>kts_exm)
   (case Ju=>refine' ⟨?_⟩;k_exc)
   (case Jv=>refine' L2.UY ?a ?b ?c ?d ?e ?f ?g ?h;(case a|b|c|d|e|f|g|h=>k_is))
   (case Jw=>refine' L2.Zn ?_ (L2.Zn ?_ (L2.Zn ?_ (L2.Zn ?_ (L2.Zn ?_ (L2.Zn ?_ (L2.Zn ?_ (L2.Zn ?_ (L2.Zn ?_ (L2.Zn ?_ (L2.Zn ?_ (L2.Zn ?_ (L2.Zn ?_ (L2.Zn ?_ (L2.Zn ?_ (L2.Zn ?_ (L2.Zn ?_ (L2.UZ)))))))))))))))))<;>kit_is)
   (case Jx=>kit_is)
   (case Jy=>kts_exm)
   (case Jz=>refine' ⟨?_⟩;k_exc)
   (case JA=>refine' L2.UY ?a ?b ?c ?d ?e ?f ?g ?h;(case a|b|c|d|e|f|g|h=>k_is))
   (case JB=>refine' L2.Zn ?_ (L2.Zn ?_ (L2.Zn ?_ (L2.Zn ?_ (L2.Zn ?_ (L2.Zn ?_ (L2.Zn ?_ (L2.Zn ?_ (L2.Zn ?_ (L2.Zn ?_ (L2.Zn ?_ (L2.Zn ?_ (L2.Zn ?_ (L2.Zn ?_ (L2.Zn ?_ (L2.Zn ?_ (L2.Zn ?_ (L2.UZ)))))))))))))))))<;>kit_is)
   (case JC=>kit_is)
   (case JD=>kts_exm)
   (case JE=>exact rfl)
   (case JF=>k_is)
   (case JG=>exact rfl)
   (case JH=>first|k_is|exact rfl|decide +kernel)
   (case JI=>first|kernel_rfl|k_is|exact rfl|decide +kernel)
   (case JJ=>rw[eu];lia)
   (case JK=>exact rfl)
   (case JL=>k_is)
   (case JM=>exact rfl)
   (case JN=>first|k_is|exact rfl|decide +kernel)
   (case JO=>first|kernel_rfl|k_is|exact rfl|decide +kernel)
   (case JP=>rw[eu];lia)
   (case JQ=>decide)
  obtain⟨t,T,m_law_put,m_law_not_there⟩:=T
  have e0:=hmg.symm.trans T.TH.m
  cases e0
  refine' ⟨[(t.C0,t.YR),(t.J3,t.Xg)],L2.JZ ⟨⟨⟨T.Zi7,m_law_put⟩,T.Zi8⟩,⟨⟨T.Zi9,m_law_not_there⟩,T.Zja⟩,trivial⟩,t.RH,?b,fun base kb nb hC hB=>K06.ZlF T (hC _ (.head _)) (hC _ (.tail _ (.head _))) hB⟩
  obtain⟨oc,od,kV,doc,pm,an,cdv,ct,osl,e,_,_⟩:=T.TH.F.ex
  rw[e]
  exact fun s Ez=>.of_eq rfl
