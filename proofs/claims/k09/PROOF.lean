import PyProof.Rows.All
import Lean
import PyProof.EqAt
import PyProof.EqKinds
import PyProof.TupleCall
import KE.KIntText
import PyProof.CompFree
import PyProof.P3Eq
import PyProof.NeData
import PyProof.StrLawsTight
import PyProof.StrLawsReplace
import PyProof.StrCalls2
import KE.IntTextLaws
import KE.KMinBuiltin
import PyProof.WalkInts
import PyProof.Rows.CallKwBuiltin
import PyProof.Rows.CallKw2
import PyProof.SetScanFacts
import PyProof.SetKind
import PyProof.DictStraight
import PyProof.Rows.SetFrom
import PyProof.DictIter
import PyProof.Walks
import PyProof.FactsAll.set_1
import PyProof.Rows.TupIn
import PyProof.CollectWalk
import PyProof.FactsAll.set_2
import PyProof.Rows.SortWalk
import PyProof.MeetsStr
import PyProof.StrLaws
import PyProof.StrBlockL
import PyProof.ListRange
import PyProof.ZipIter
import PyProof.EnumMake
import PyProof.Rows.EnumRows
import PyProof.Rows.FactsT2
import PyProof.DictWalks
import PyProof.Conv_int_bool
import KE.KRevSl
import KE.KDictList
import KE.KLam
import KE.KMinKey
import PyProof.Draws
import PyProof.Rows.Range3
import PyProof.StrWalks
import PyProof.DictItems
import KE.KPairComp
import PyProof.Rows.SortStr
import KE.KTryOn
import KE.KRevIter
import PyProof.Rows.StrCut
import PyProof.StrOps2
import PyProof.Rows.StrFirst
import PyProof.Rows.StrNews2
import KE.KFromBytes
import KE.KNestM
import KE.KDictOf
import KE.RegKIsAll
import KE.RegKTryMore
import PySem.Challenge.RW_roadbook_k09_whole_texts_read_back
noncomputable section
local macro_rules|`(tactic| lia) => `(tactic| first|decide +kernel|(intros; contradiction)|lia -verbose|omega|(intro _ _ _ _ h; cases h; subst_vars; rfl))
local macro_rules|`(tactic|erw[$t:term])=>`(tactic|refine $t)
local macro_rules|`(tactic|ext $p:rcasesPat $h:ident)=>`(tactic|obtain $p:rcasesPat:=$h)
local macro_rules | `(()) => `(by lia)
theorem L2.zL9{n:Nat}(h:Nat.ble n 99=true):n<=PySem.sizeLine:=Nat.le_trans (Nat.le_of_ble_eq_true h) (by decide)
set_option maxRecDepth 100000
set_option maxHeartbeats 4000000
set_option bootstrap.genMatcherCode false
set_option Elab.async false
set_option linter.all false
namespace L2
open PySem PySem.Spec PyProof.Rows
def Sa:=@wpAny_bind
def Sb:=@wpAny_pure
def Sc:=@Heap.get?_push_of_some
def Sd:=@Heap.get?_push_size
def Se:=@Heap.lt_size
def Sf:=@Nat.ne_of_lt
def Sg:=@Nat.le_refl
def Sh:=@Nat.le_trans
def Si:=@Nat.lt_of_lt_of_le
def Sj:=@Nat.lt_of_le_of_lt
def Sk:=@Nat.zero_le
def Sl:=@Nat.lt_irrefl
def Sm:=@Nat.lt_succ_self
def Sn:=@Nat.lt_succ_of_lt
def So:=@Option.some.inj
def Sr:=@List.getElem?_eq_some_iff
def Ss:=@List.getElem?_eq_getElem
def Su:=@List.length_append
def Sv:=@List.length_map
def Sw:=@List.length_singleton
def Sx:=@List.length_take
def Sy:=@List.length_cons
def Sz:=@List.length_replicate
def SA:=@List.length_drop
def SB:=@List.mem_cons_of_mem
def SD:=@List.mem_cons_self
def SE:=@List.mem_singleton
def SF:=@List.mem_cons
def SG:=@List.mem_append
def SH:=@List.mem_append_right
def SI:=@List.mem_append_left
def SJ:=@List.mem_map
def SK:=@List.mem_of_getElem?
def SL:=@List.map_append
def SM:=@List.map_cons
def SN:=@List.size_toArray
def SO:=@Bool.false_ne_true
def SQ:=@decide_eq_true
def SR:=@decide_eq_false
def SS:=@of_decide_eq_true
def SU:=@if_neg
def SV:=@if_pos
def SW:=@Int.natCast_emod
def SX:=@Int.natCast_ediv
def SY:=@List.take_of_length_le
def SZ:=@List.take_add_one
def Oa:=@List.getElem?_map
def Ob:=@List.getElem?_append_right
def Oc:=@List.append_nil
def Od:=@List.append_assoc
def Oe:=@List.map_map
def Of:=@Option.map_eq_some_iff
def Og:=@Nat.not_lt
def Oh:=@Bool.eq_false_iff
def Oi:=@List.getElem_mem
def Oj:=@List.range_succ
def Ol:=@List.nodup_cons
def Om:=@Nat.le_add_left
def On:=@Nat.le_add_right
def Oo:=@Nat.mod_lt
def Op:=@wpAny_load
def Oq:=@wpAny_mono
def Os:=@absurd
def Ot:=@Bool.true_and
abbrev Ou:=Value->Shared->Prop
abbrev Ov:=List (Addr×Obj)
abbrev Ow:=Str->Option Value
abbrev Ox:=W.Frag
abbrev Oy:=List (Str×Addr)
abbrev Oz:=Array (Option Value)
abbrev OA:=Unit->Shared->Prop
abbrev OB:=List Value
abbrev OC:=List Str
abbrev OD:=List Expr
abbrev OE:=List Int
abbrev OF:=Option Addr
abbrev OG:=List Nat
abbrev OH:=List Addr
abbrev OI:=SetTable
abbrev OJ:=FuncData
abbrev OK:=Str.ofString
def R{α:Sort u}{a:α}:a=a:=rfl
abbrev ZF:=Sum Int Str
def E5:ZF->Value->Bool
 |.inl k,v=>Value.isInt k v
 |.inr x,v=>Value.isStrOf x v
def ZhC(w:World):ZF->Int
 |.inl k=>hashInt k
 |.inr x=>hashStr w x
theorem Qd:∀{k:ZF} {v:Value},E5 k v=true->(∃i t,k=Sum.inl i/\v=Value.int i t)\/(∃x t,k=Sum.inr x/\v=Value.str x t)
 |.inl i,v,h=>by
  obtain⟨t,e⟩:=Value.isInt_shape (k:=i) (v:=v) h;exact .inl ⟨i,t,R,e⟩
 |.inr x,v,h=>by
  obtain⟨t,e⟩:=Value.isStrOf_shape (x:=x) (v:=v) h;exact .inr ⟨x,t,R,e⟩
def ZhD(i:Int)(t:Tok):E5 (.inl i) (.int i t)=true:=by simp[E5,Value.isInt]
def ZhE(x:Str)(t:Tok):E5 (.inr x) (.str x t)=true:=by simp[E5,Value.isStrOf]
def ZhF(a b:Int):decide ((Sum.inl a:ZF)=Sum.inl b)=(a==b):=by
 by_cases e:a=b;subst e;simp;have h:¬ (Sum.inl a:ZF)=Sum.inl b:=λq=>e (Sum.inl.inj q);rw[SR h];exact(beq_eq_false_iff_ne.mpr e).symm
def ZhG(a b:Str):decide ((Sum.inr a:ZF)=Sum.inr b)=decide (a=b):=by
 by_cases e:a=b;subst e;simp;have h:¬ (Sum.inr a:ZF)=Sum.inr b:=λq=>e (Sum.inr.inj q);rw[SR h,SR e]
def ZhH(a:Int)(b:Str):decide ((Sum.inl a:ZF)=Sum.inr b)=false:=SR (λq=>nomatch q)
def ZhI(a:Str)(b:Int):decide ((Sum.inr a:ZF)=Sum.inl b)=false:=SR (λq=>nomatch q)
def XN(prog:Program)(w:World):PySem.KeyKind prog w ZF where
 is:=E5
 hash:=ZhC w
 inj:=λv a b ha g=>by
  rcases Qd ha with⟨i,t,rfl,rfl⟩|⟨x,t,rfl,rfl⟩;rcases Qd g with⟨j,u,rfl,e⟩|⟨y,u,rfl,e⟩;injection e with c _;rw[c];exact nomatch e;rcases Qd g with⟨j,u,rfl,e⟩|⟨y,u,rfl,e⟩;exact nomatch e;injection e with c _;rw[c]
 byValue:=λk v h=>by
  rcases Qd h with⟨i,t,rfl,rfl⟩|⟨x,t,rfl,rfl⟩<;>rfl
 pyHash:=λf h=>by
  rcases Qd f with⟨i,t,rfl,rfl⟩|⟨x,t,rfl,rfl⟩;exact wpAny_pyHash_int h;exact wpAny_pyHash_str h
 eqBool:=λn f h=>by
  rcases Qd n with⟨i,t,rfl,rfl⟩|⟨x,t,rfl,rfl⟩;rcases Qd f with⟨j,u,rfl,rfl⟩|⟨y,u,rfl,rfl⟩;rw[ZhF]at h;exact wpAny_eqBool_int h;rw[ZhH]at h;exact SeqAt.EqAt.int_str i t y u _ _ _ _ h;rcases Qd f with⟨j,u,rfl,rfl⟩|⟨y,u,rfl,rfl⟩;rw[ZhI]at h;exact SeqAt.EqAt.str_int x t j u _ _ _ _ h;rw[ZhG]at h;exact wpAny_eqBool_str h
 «strs»:=λk x t v h=>by
  rcases Qd h with⟨i,u,rfl,e⟩|⟨y,u,rfl,e⟩;exact nomatch e;injection e with c _;subst c;cases v<;>rfl
def ZhJ(prog:Program)(w:World)(i:Int)(t:Tok):(XN prog w).is (.inl i) (.int i t)=true:=ZhD i t
def ZhK(prog:Program)(w:World)(x:Str)(t:Tok):(XN prog w).is (.inr x) (.str x t)=true:=ZhE x t
inductive V where
 |non|bl (b:Bool)|int (i:Int)|str (x:Str)|byt (b:Array UInt8)|flt (b:UInt64)|ref (a:Addr)|ty (n:String)
 deriving DecidableEq
def ZQ:V->Value->Prop
 |.non,u=>u=Value.none
 |.bl b,u=>u=Value.bool b
 |.int i,u=>∃t,u=Value.int i t
 |.str x,u=>∃t,u=Value.str x t
 |.byt b,u=>∃t,u=Value.bytes b t
 |.flt b,u=>∃t,u=Value.float b t
 |.ref a,u=>u=Value.ref a
 |.ty n,u=>u=Value.type n
abbrev ZC:List V->List Value->Prop:=Paired ZQ
def ZC.length{xs:List V}{us:OB}(r:ZC xs us):xs.length=us.length:=Paired.length r
theorem ZC.get:∀{xs:List V} {us:OB} {i:Nat} {x:V},ZC xs us->xs[i]? = some x->∃u,us[i]? = some u/\ZQ x u
 |_,_,_,_,.nil,e=>by simp at e
 |_,_,0,_,.cons r _,e=>by simp at e;subst e;exact⟨_,R,r⟩
 |_,_,i+1,x,.cons _ t,e=>by
  obtain⟨u,h1,c⟩:=ZC.get (i:=i) (x:=x) t (by simpa using e);exact⟨u,by simpa using h1,c⟩
theorem ZC.append:∀{xs c:List V} {us ws:OB},ZC xs us->ZC c ws->ZC (xs++c) (us++ws)
 |_,_,_,_,.nil,s=>s
 |_,_,_,_,.cons r t,s=>.cons r (ZC.append t s)
theorem ZC.take:∀{xs:List V} {us:OB} (n:Nat),ZC xs us->ZC (xs.take n) (us.take n)
 |_,_,0,_=>.nil
 |_,_,_+1,.nil=>.nil
 |_,_,n+1,.cons r t=>.cons r (ZC.take n t)
theorem ZC.drop:∀{xs:List V} {us:OB} (n:Nat),ZC xs us->ZC (xs.drop n) (us.drop n)
 |_,_,0,r=>r
 |_,_,_+1,.nil=>.nil
 |_,_,n+1,.cons _ t=>ZC.drop n t
def WK:Option V->Option Value->Prop
 |some v,some u=>ZQ v u
 |none,none=>True
 |_,_=>False
def KV{c:Type}:List (c×V)->List (c×Value)->Prop:=Paired λ(p:c×V) (q:c×Value)=>p.1=q.1/\ZQ p.2 q.2
def kV:ZF->V
 |.inl i=>.int i
 |.inr x=>.str x
inductive HO where
  |lst (xs:List V)
  |tup (xs:List V)
  |dK (kvs:List (ZF×V))|dT (kvs:List (List ZF×V))
  |set (S:Int->Bool) (n:Nat)
  |ins (C dx:Addr) (fs:List (Str×V))
  |own (x:Addr)
  |xd (fs:List (Str×V))
  |met (f x:Addr)
  |rng (lo hi:Int)
  |frz (o:Obj) (u:HO)
  |tbl (ps:Array Value)
  |ext (φ:Heap->Prop)
abbrev Hp:=Addr->Option HO
def upd(H:Hp)(a:Addr)(o:HO):Hp:=λb=>if b=a then some o else H b
def Zh{H:Hp}{a:Addr}{o:HO}:upd H a o a=some o:=by unfold upd;rw[SV R]
def Zj(h:b≠a):upd H a o b=H b:=by unfold upd;rw[SU h]
def XZ{H:Hp}{a b:Addr}{o u:HO}(h:H a=some o)(h':H b=some u)(d:o≠u):a≠b:=by
 intro e;subst e;rw[h]at h';exact d (So h')
def ZR{H:Hp}{a b:Addr}{o:HO}(h:H a=some o)(h':H b=none):a≠b:=by
 intro e;subst e;rw[h]at h';cases h'
section
variable(P:Program)(w:World)
def Yo(H:Hp)(h:Heap)(a:Addr):HO->Prop
 |.lst xs=>xs.length<=sizeLine/\∃(g:OB) (n:Nat),ZC xs g/\h.get? a=some {cls:=.type "list",data:=.seq g.toArray n}
 |.tup xs=>xs.length<=sizeLine/\∃g:List Value,ZC xs g/\IsTup h a g.toArray
 |.dK i=>i.length<=sizeLine/\(a==sysModules)=false/\∃B,KV i B/\h.DictOf (XN P w) a B
 |.dT i=>i.length<=sizeLine/\(a==sysModules)=false/\∃xs:List (List ZF×Addr×Value),
   Paired (λ(p:List ZF×V) (q:List ZF×Addr×Value)=>p.1=q.1/\H q.2.1=some (.tup (p.1.map kV))/\ZQ p.2 q.2.2) i xs /\
   ∃o G J,h.get? a=some o/\o.ExactDict/\o.data=.dict G J/\G.toList=xs.map (entryOfKey (tupleKind (XN P w)))/\(xs.map (·.1)).Nodup
 |.set S n=>h.SetOf (intKind P w) a S n
 |.ins C j fs=>H j=some (.own a)/\fs.length<=1000/\j≠a/\h.get? a=some (W.instObj C j) /\
   ∃c,h.Ns1 j c/\(∀f,WK (fs.lookup f) (c f))/\PySem.Within c (fs.map (·.1))
 |.own _=>∃o,h.get? a=some o
 |.xd fs=>∃c,h.Ns1 a c/\∀f,WK (fs.lookup f) (c f)
 |.rng lo L=>∃t u v,h.get? a=some {cls:=.type "range",data:=.fields #[.int lo t,.int L u,.int 1 v]}
 |.frz o u=>h.get? a=some o/\Yo H h a u
 |.tbl I=>h.get? a=some {cls:=.none,data:=.fields I}
 |.met f x=>h.get? a=some (W.methodObj (.ref f) (.ref x))
 |.ext y=>y h/\(∃o,h.get? a=some o)/\∀D E:Heap,y D->(∀o,D.get? a=some o->E.get? a=some o)->y E
def Yp(H:Hp)(h:Heap):Prop:=∀a o,H a=some o->Yo P w H h a o
end
section
variable{P:Program}{w:World}{H H':Hp}{h h':Heap}{a:Addr}{o:HO}
def Yo.lt(x:Yo P w H h a o):a<h.objs.size:=by
 cases o with
 |lst c=>ext⟨_,_,_,_,e⟩ x;exact Se e
 |tup c=>ext⟨_,_,_,p⟩ x;exact p.lt
 |dK g=>ext⟨_,_,_,_,o,_,_,e,_⟩ x;exact Se e
 |dT g=>ext⟨_,_,_,_,o,_,_,e,_⟩ x;exact Se e
 |set S n=>ext⟨o,_,_,_,e,_⟩ x;exact Se e
 |ins C j fs=>ext⟨_,_,_,e,_⟩ x;exact Se e
 |own y=>ext⟨_,e⟩ x;exact Se e
 |xd fs=>ext⟨_,⟨_,_,_,e,_⟩,_⟩ x;exact Se e
 |rng lo B=>ext⟨_,_,_,e⟩ x;exact Se e
 |frz ob u=>ext⟨e,_⟩ x;exact Se e
 |tbl i=>exact Se (show h.get? a=some _ from x)
 |met f y=>exact Se (show h.get? a=some _ from x)
 |ext v=>ext⟨_,⟨_,e⟩,_⟩ x;exact Se e
theorem Paired.mapP{c g:Type}{F G:c->g->Prop}:∀{i:List c} {l₂:List g},Paired F i l₂->(∀a b,F a b->G a b)->Paired G i l₂
 |_,_,.nil,_=>.nil
 |_,_,.cons r t,f=>.cons (f _ _ r) (Paired.mapP t f)
def Yo.stay(x:Yo P w H h a o)(k:∀b u,(b=a\/H b=some (.own a))->h.get? b=some u->h'.get? b=some u)
  (M:∀b,H b=some (.own a)->H' b=some (.own a)) (J:∀b xs,H b=some (.tup xs)->H' b=some (.tup xs)):Yo P w H' h' a o:=by
 induction o with
 |lst xs=>ext⟨z,B,n,r,e⟩ x;exact⟨z,B,n,r,k _ _ (.inl R) e⟩
 |tup xs=>ext⟨z,B,r,ob,e,c⟩ x;exact⟨z,B,r,ob,k _ _ (.inl R) e,c⟩
 |dK I=>ext⟨z,y,L,r,ob,g,i,e,c⟩ x;exact⟨z,y,L,r,ob,g,i,k _ _ (.inl R) e,c⟩
 |dT I =>
  ext⟨z,y,xs,r,ob,g,i,e,c⟩ x;exact⟨z,y,xs,Paired.mapP r λp q z=>⟨z.1,J _ _ z.2.1,z.2.2⟩,ob,g,i,k _ _ (.inl R) e,c⟩
 |set S n=>ext⟨ob,g,i,t,e,c⟩ x;exact⟨ob,g,i,t,k _ _ (.inl R) e,c⟩
 |ins C Q fs =>
  ext⟨d,z,ne,e,D,⟨j,g,i,G,c⟩,r⟩ x;exact⟨M _ d,z,ne,k _ _ (.inl R) e,D,⟨j,g,i,k _ _ (.inr d) G,c⟩,r⟩
 |own y=>ext⟨ob,e⟩ x;exact⟨ob,k _ _ (.inl R) e⟩
 |xd fs=>ext⟨D,⟨j,g,i,e,c⟩,r⟩ x;exact⟨D,⟨j,g,i,k _ _ (.inl R) e,c⟩,r⟩
 |rng lo T=>ext⟨t,u,v,e⟩ x;exact⟨t,u,v,k _ _ (.inl R) e⟩
 |frz ob u O=>ext⟨e,q⟩ x;exact⟨k _ _ (.inl R) e,O q⟩
 |tbl E =>
  have e:h.get? a=some {cls:=.none,data:=.fields E}:=x;show h'.get? a=some {cls:=.none,data:=.fields E};exact k a _ (.inl R) e
 |met f y =>
  have e:h.get? a=some (W.methodObj (.ref f) (.ref y)):=x;show h'.get? a=some (W.methodObj (.ref f) (.ref y));exact k a _ (.inl R) e
 |ext U=>ext⟨p,⟨o,e⟩,st⟩ x;exact⟨st _ _ p λo q=>k _ _ (.inl R) q,⟨o,k _ _ (.inl R) e⟩,st⟩
def Yp.lt(x:Yp P w H h)(e:H a=some o):a<h.objs.size:=(x a o e).lt
def Yp.fresh(x:Yp P w H h)(e:h.objs.size<=a):H a=none:=by
 cases q:H a with
 |none=>rfl
 |some u=>exact Os (Si (x.lt q) e) (Sl _)
def Yp.kept(x:Yp P w H h)(k:∀b u,h.get? b=some u->h'.get? b=some u):Yp P w H h':=λa o e =>
 (x a o e).stay (λb u _ q=>k b u q) (λ_ q=>q) λ_ _ q=>q
def Yp.laid(x:Yp P w H h)(k:∀b u,h.get? b=some u->h'.get? b=some u)(g:h.objs.size<=a)(new:Yo P w (upd H a o) h' a o):Yp P w (upd H a o) h':=λb u e=>by
 have hn:=x.fresh g;by_cases f:b=a;subst f;rw[Zh]at e;cases e;exact new;rw[Zj f]at e;exact(x b u e).stay (λc v _ q=>k c v q) (λc q=>by rwa[Zj (ZR q hn)]) λc i q=>by rwa[Zj (ZR q hn)]
end
def Rd(H:Hp)(a:Addr)(u:HO):Prop:=H a=some u\/∃o,H a=some (.frz o u)
def Rd.ok(r:Rd H a u)(x:Yp P w H h):Yo P w H h a u:=by
 rcases r with r|⟨o,r⟩;exact x a u r;obtain⟨_,q⟩:=x a _ r;exact q
def LN:Option HO->Prop
 |some (.lst _)=>True
 |some (.dK _)=>True
 |some (.dT _)=>True
 |some (.set _ _)=>True
 |some (.ins _ _ _)=>True
 |some (.ext _)=>True
 |_=>False
section
variable{P:Program}{w:World}{H:Hp}{h h':Heap}{x e:Addr}{o':HO}
def Yp.write(ok:Yp P w H h)(j:LN (H x))(B:e=x\/H e=some (.own x))(k:∀b u,b≠e->h.get? b=some u->h'.get? b=some u)(G:∃u,h'.get? e=some u)
  (new:Yo P w (upd H x o') h' x o'):Yp P w (upd H x o') h':=λb u q=>by
 have D:∀c y,H c=some (.own y)->c≠x:=λc y r z=>by subst z;rw[r]at j;exact j
 have E:∀c f,H c=some (.tup f)->c≠x:=λc f r z=>by subst z;rw[r]at j;exact j
 by_cases i:b=x;subst i;rw[Zh]at q;cases q;exact new;rw[Zj i]at q;by_cases n:b=e;have C:H b=some (.own x):=by
  rcases B with z|z;exact Os (n.trans z) i;rwa[n]
 rw[q]at C;cases C;ext⟨v,I⟩ G;exact⟨v,by rwa[n]⟩;refine(ok b u q).stay (λc v g r=>k c v ?_ r) (λc r=>by rwa[Zj (D c b r)]) λc f r=>by rwa[Zj (E c f r)]
 rcases g with rfl|g;exact n;rintro rfl;rcases B with z|z;exact D c b g z;rw[g]at z;cases z;exact i R
end
structure Un(fs ex:OH)(H H':Hp)(h h':Heap):Prop where
 keep:∀b o,h.get? b=some o->H b=none->b∉fs->b∉ex->h'.get? b=some o
 slot:∀b o,h.get? b=some o->H b=none->b∈fs->b∉ex->∃sl,h'.get? b=some {o with slots:=sl}
 free:∀b o,h.get? b=some o->H b=none->b∉ex->H' b=none
 there:∀b o,h.get? b=some o->b∉ex->∃o',h'.get? b=some o'
 tups:∀b xs,H b=some (.tup xs)->H' b=some (.tup xs)
 frzs:∀b o u,H b=some (.frz o u)->H' b=some (.frz o u)
 tbls:∀b ps,H b=some (.tbl ps)->∃more,H' b=some (.tbl (ps++more))
section
variable{fs fs' ex ex':OH}{H H1 H2:Hp}{h h1 h2 h':Heap}{a x e:Addr}{o:HO}
def Un.any(u:Un fs ex H H1 h h1)(q:h.get? b=some ob)(n:H b=none)(f:b∉ex):∃g,h1.get? b=some {ob with slots:=g}:=by
 by_cases c:b∈fs;exact u.slot b ob q n c f;exact⟨ob.slots,u.keep b ob q n c f⟩
def Un.kept(k:∀b u,h.get? b=some u->h'.get? b=some u):Un fs ex H H h h' :=
 ⟨λb ob q _ _ _=>k b ob q,λb ob q _ _ _=>⟨ob.slots,k b ob q⟩,λ_ _ _ n _=>n,λb ob q _=>⟨ob,k b ob q⟩,λ_ _ q=>q,λ_ _ _ q=>q,λ_ c q=>⟨#[],by rw[q];simp⟩⟩
def Un.refl:Un fs ex H H h h:=Un.kept λ_ _ q=>q
def Un.laid(k:∀b u,h.get? b=some u->h'.get? b=some u)(f:h.objs.size<=a)(hn:H a=none):Un fs ex H (upd H a o) h h' where
 keep:=λb u q _ _ _=>k b u q
 slot:=λb u q _ _ _=>⟨u.slots,k b u q⟩
 free:=λb u q n _=>by rwa[Zj (Sf (Si (Se q) f))]
 there:=λb u q _=>⟨u,k b u q⟩
 tups:=λb c q=>by rwa[Zj (ZR q hn)]
 frzs:=λb u c q=>by rwa[Zj (ZR q hn)]
 tbls:=λb g q=>⟨#[],by rw[Zj (ZR q hn),q];simp⟩
def Un.write(c:LN (H x))(v:e=x\/H e=some (.own x))(k:∀b u,b≠e->h.get? b=some u->h'.get? b=some u)(y:∃u,h'.get? e=some u):Un fs ex H (upd H x o) h h':=by
 have f:∀b,H b=none->b≠x:=λb n z=>by subst z;rw[n]at c;exact c
 have g:∀b,H b=none->b≠e:=λb n z=>by
  subst z;rcases v with r|r;exact f b n r;rw[n]at r;cases r
 have hm:∀b u,H b=some u->¬ LN (some u)->b≠x:=λb u q nm z=>by subst z;rw[q]at c;exact nm c
 refine⟨λb u q n _ _=>k b u (g b n) q,λb u q n _ _=>⟨u.slots,k b u (g b n) q⟩,λb u q n _=>by rwa[Zj (f b n)],λb u q _=>?_,
  λb j q=>by rwa[Zj (hm b _ q λz=>z)],λb u j q=>by rwa[Zj (hm b _ q λz=>z)],λb B q=>⟨#[],by rw[Zj (hm b _ q λz=>z),q];simp⟩⟩
 by_cases i:b=e;subst i;exact y;exact⟨u,k b u i q⟩
end
def NE(h:Heap)(H:Hp):List Addr:=(List.range h.objs.size).filter λa=>(H a).isSome
def V6(h:Heap)(H:Hp):Heap:=W.hideAll h (NE h H)
def ZhL(h:Heap)(H:Hp):(V6 h H).objs.size=h.objs.size:=W.hideAll_size _ _
def ZhM{h:Heap}(e:h.get? b=some o)(n:H b=none):(V6 h H).get? b=some o :=
 W.hideAll_get _ e λhm=>by
  have q:(H b).isSome=true:=(List.mem_filter.mp hm).2;rw[n]at q;simp at q
def ZhN{h:Heap}(e:(V6 h H).get? b=some o):h.get? b=some o/\H b=none:=by
 have c:h.get? b=some o:=W.of_hideAll (NE h H) e;erw[⟨c,?_⟩];cases q:H b with
 |none=>rfl
 |some x =>
  have hm:b∈NE h H:=List.mem_filter.mpr ⟨List.mem_range.mpr (Se c),by simp[q]⟩;have z:(V6 h H).get? b=none:=W.hideAll_none (NE h H) hm;rw[z]at e;cases e
structure Mod(K:Ox)(mg:Ow)(base:Heap):Prop where
 kin:K.In base
 glob:base.Ns mainGlobals mg
 blt:∃mb,base.Ns builtinsNs mb/\∀x:Str,x ≠ "__name__" -> mb x=bootBuiltins x
 nolimit:base.NoLimit
structure Cx where
 prog:Program
 w:World
 K:W.Frag
 mg:Str->Option Value
 base:Heap
 A:Around
 N:List Str
 s₀:Shared
 H₀:Hp
 env:Env
 outer:List Env
 stack:List Env
 ex:List Addr
 fn:Str->Bool
 calm:Bool
 pn:List (Addr×Obj)
 xe:Value->Shared->Prop
def Ye(l:List Env):List Addr:=l.filterMap (·.frame)
abbrev Cx.fs(X:Cx):List Addr:=Ye X.outer
def LO(c:Scope)(x:Str):Prop:=c.names.lookup x=some .local\/c.names.lookup x=some .cell\/c.names.lookup x=some .free
def Q2(c:Scope)(x:Str):Prop:=c.names.lookup x=some .local\/c.names.lookup x=some .cell
def ZaE(env:Env)(h:Heap)(m:Ow)(x:Str)(u:Value):Prop :=
 (env.kindOf x=some .local/\m x=some u)\/((env.kindOf x=some .cell\/env.kindOf x=some .free)/\∃c,env.cells.lookup x=some c/\h.IsCell c (some u))
structure Cx.Ok(X:Cx):Prop where
 mod:Mod X.K X.mg X.base
 kind:X.env.scope.kind=.function
 glob:X.env.globals=mainGlobals
 blt:X.env.builtins=builtinsNs
 above:X.s₀.heap.objs.size<=X.env.locals
 inj:∀x y c,X.env.cells.lookup x=some c->X.env.cells.lookup y=some c->x=y
 has:∀x,(X.env.kindOf x=some .cell\/X.env.kindOf x=some .free)->∃c,X.env.cells.lookup x=some c
 cab:∀x c,X.fn x=true->X.env.cells.lookup x=some c->X.s₀.heap.objs.size<=c
 hd:X.calm=true->X.A.handled=none
 frames:X.A.frames=some X.stack
 stk:X.stack=X.outer\/(X.stack=X.env::X.outer/\X.env.frame=some X.env.locals)
 exf:∀b∈X.ex,b≠X.env.locals/\∀x c,X.env.cells.lookup x=some c->c≠b
 bs:∀b o,X.base.get? b=some o->X.s₀.heap.get? b=some o/\X.H₀ b=none
 bsz:X.base.objs.size<=X.s₀.heap.objs.size
 noex:∀b o,X.base.get? b=some o->b∉X.ex
 exfs:∀b∈X.ex,b∉X.fs
 funs:X.s₀.heap.FunFrames X.base X.outer
 frf:∀b∈X.fs,X.H₀ b=none
structure Za(X:Cx)(pins:Ov)(σ:List (Option V))(H:Hp)(s:Shared):Prop where
 ok:X.Ok
 os:s.os=X.s₀.os
 bare:AllBare s.gens
 base:Un X.fs X.ex X.H₀ H X.s₀.heap s.heap
 loc:∃m,s.heap.Ns X.env.locals m/\∀(i:Nat) (x:Str) (v:V),X.N[i]? = some x->σ[i]? = some (some v)->LO X.env.scope x->∃u,ZQ v u/\ZaE X.env s.heap m x u
 cell:∀x c,X.env.cells.lookup x=some c->∃v,s.heap.IsCell c v
 free:H X.env.locals=none
 freeC:∀x c,X.env.cells.lookup x=some c->H c=none
 pin:∀p∈X.pn++pins,s.heap.get? p.1=some p.2/\H p.1=none/\p.1≠X.env.locals/\p.1∉X.fs/\∀v,p.2.data≠.cell v
 hok:Yp X.prog X.w H s.heap
 len:σ.length=X.N.length
section
variable{X:Cx}{pins:Ov}{σ:List (Option V)}{H H':Hp}{s:Shared}{h':Heap}
def Cx.Ok.nofr(ok:X.Ok)(e:X.base.get? b=some o):b∉X.fs:=λc=>by
 have:=(ok.funs.mem c).1;rw[e]at this;cases this
def Za.bs(I:Za X pins σ H s):∀b o,X.base.get? b=some o->s.heap.get? b=some o/\H b=none:=λb o e =>
 ⟨I.base.keep b o (I.ok.bs b o e).1 (I.ok.bs b o e).2 (I.ok.nofr e) (I.ok.noex b o e),I.base.free b o (I.ok.bs b o e).1 (I.ok.bs b o e).2 (I.ok.noex b o e)⟩
def Za.bk(I:Za X pins σ H s):∀b o,X.base.get? b=some o->s.heap.get? b=some o:=λb o e=>(I.bs b o e).1
def Za.mod(I:Za X pins σ H s):Mod X.K X.mg X.base:=I.ok.mod
def Za.kIn(I:Za X pins σ H s):X.K.In s.heap:=I.ok.mod.kin.keeps I.bk
def Za.fr(I:Za X pins σ H s):∃m,Fr X.base X.env.locals s.heap m :=
 let ⟨m,hn,_⟩:=I.loc
 ⟨m,hn,I.bk,Sh I.ok.bsz I.ok.above⟩
def Za.lt(I:Za X pins σ H s):X.env.locals<s.heap.objs.size:=let ⟨_,hn,_⟩:=I.loc;hn.lt
def Za.sz(I:Za X pins σ H s):X.s₀.heap.objs.size<=s.heap.objs.size:=Sh I.ok.above (Nat.le_of_lt I.lt)
def Za.nofs(I:Za X pins σ H s)(h:s.heap.objs.size<=a):a∉X.fs:=λc=>by
 obtain⟨_,o,f,_⟩:=I.ok.funs.mem c;exact Os (Si (Se f) (Sh I.sz h)) (Sl _)
def Za.cne(I:Za X pins σ H s):∀x c,X.env.cells.lookup x=some c->c≠X.env.locals:=λx c e z=>by
 obtain⟨v,o,f,hd⟩:=I.cell x c e;ext⟨m,⟨i,n,j,g,h,_⟩,_⟩ I.loc;rw[z,g]at f;cases f;rw[h]at hd;cases hd
def Za.funs(I:Za X pins σ H s):s.heap.FunFrames X.base X.outer:=by
 have all:∀(l:List Env),(∀b∈Ye l,b∈X.fs)->X.s₀.heap.FunFrames X.base l->s.heap.FunFrames X.base l:=by
  intro l;induction l with
  |nil=>intro _ _;trivial
  |cons env r u =>
   intro h v;ext⟨n,⟨L,o,g,hn,j,hd⟩,i⟩ v;have f:L∈X.fs:=h L (by unfold Ye;rw[List.filterMap_cons,g];exact SD);obtain⟨x,e⟩:=I.base.slot L o j (I.ok.frf L f) f λz=>I.ok.exfs L z f;exact⟨n,⟨L,_,g,hn,e,hd⟩,u (λb c=>h b (by unfold Ye;rw[List.filterMap_cons,g];exact SB _ c)) i⟩
 exact all X.outer (λ_ c=>c) I.ok.funs
def Za.stack(I:Za X pins σ H s):s.heap.FunFrames X.base X.stack:=by
 rcases I.ok.stk with e|⟨e,c⟩;rw[e];exact I.funs;rw[e];ext⟨m,hn,_⟩ I.loc;erw[.cons (by rw[I.ok.kind];lia) c hn ?_ I.funs];exact Heap.get?_none_of_le (Sh I.ok.bsz I.ok.above)
def Za.stkSub(I:Za X pins σ H s):∀b∈Ye X.stack,b∈X.env.locals::X.fs:=λb c=>by
 rcases I.ok.stk with e|⟨e,f⟩;rw[e]at c;exact SB _ c;rw[e]at c;unfold Ye at c;rw[List.filterMap_cons,f]at c;exact c
def Za.stkFree(I:Za X pins σ H s):∀b∈Ye X.stack,H b=none:=λb c=>by
 rcases SF.mp (I.stkSub b c)with e|c;rw[e];exact I.free;obtain⟨_,o,f,_⟩:=I.ok.funs.mem c;exact I.base.free b o f (I.ok.frf b c) λz=>I.ok.exfs b z c
def Za.step{g':Array GenState}{t':Nat}{d':Drawn}{ch:OH}(I:Za X pins σ H s)
  (D:∀b∈ch,(b∈X.ex\/X.s₀.heap.objs.size<=b)/\b≠X.env.locals/\(∀x c,X.env.cells.lookup x=some c->c≠b)/\∀p∈X.pn++pins,p.1≠b)
  (keep:∀b o,b≠X.env.locals->b∉X.fs->b∉ch->s.heap.get? b=some o->H b=none->h'.get? b=some o)
  (slot:∀b o,b≠X.env.locals->b∈X.fs->b∉ch->s.heap.get? b=some o->H b=none->∃L,h'.get? b=some {o with slots:=L}) (free:∀b o,b∉ch->s.heap.get? b=some o->H b=none->H' b=none)
  (there:∀b o,b∉ch->s.heap.get? b=some o->∃C,h'.get? b=some C)
  (tups:∀b h,H b=some (.tup h)->H' b=some (.tup h)) (frzs:∀b o u,H b=some (.frz o u)->H' b=some (.frz o u)) (tbls:∀b J,H b=some (.tbl J)->∃more,H' b=some (.tbl (J++more)))
  (ns:∀m,s.heap.Ns X.env.locals m->h'.Ns X.env.locals m) (hok:Yp X.prog X.w H' h') (T:AllBare g') :
  Za X pins σ H' {s with heap:=h',gens:=g',drawn:=d',toks:=t'}:=by
 have M:∀b o,X.s₀.heap.get? b=some o->b≠X.env.locals:=λb o e=>Sf (Si (Se e) I.ok.above);have G:∀b o,X.s₀.heap.get? b=some o->b∉X.ex->b∉ch:=λb o e f j=>by
  rcases(D b j).1 with z|z;exact f z;exact Os (Si (Se e) z) (Sl _)
 have cellK:∀x c,X.env.cells.lookup x=some c->∀v,s.heap.IsCell c v->h'.IsCell c v:=λx c e v ⟨o,y,hd⟩=>by
  have E:c∉ch:=λz=>(D c z).2.2.1 x c e R;by_cases O:c∈X.fs;obtain⟨L,q⟩:=slot c o (I.cne x c e) O E y (I.freeC x c e);exact⟨_,q,hd⟩;exact⟨o,keep c o (I.cne x c e) O E y (I.freeC x c e),hd⟩
 erw[⟨I.ok,I.os,T,⟨λb o e n j f=>?_,λb o e n j f=>?_,λb o e n f=>?_,λb o e f=>?_,λb h e=>tups b h (I.base.tups b h e),λb o h e=>frzs b o h (I.base.frzs b o h e),λb J e=>?_⟩,?_,λx c e=>?_,?_,λx c e=>?_,λp P=>?_,hok,I.len⟩];exact keep b o (M b o e) j (G b o e f) (I.base.keep b o e n j f) (I.base.free b o e n f);obtain⟨L,g⟩:=I.base.slot b o e n j f;obtain⟨Y,B⟩:=slot b _ (M b o e) j (G b o e f) g (I.base.free b o e n f);exact⟨Y,B⟩;obtain⟨C,g⟩:=I.base.there b o e f;exact free b C (G b o e f) g (I.base.free b o e n f);obtain⟨C,g⟩:=I.base.there b o e f;exact there b C (G b o e f) g;obtain⟨S,g⟩:=I.base.tbls b J e;obtain⟨Q,B⟩:=tbls b _ g;exact⟨S++Q,by rw[B,Array.append_assoc]⟩;ext⟨m,hn,Z⟩ I.loc;erw[⟨m,ns m hn,λi x v g B U=>?_⟩];obtain⟨u,r,l⟩:=Z i x v g B U;erw[⟨u,r,?_⟩];rcases l with l|⟨k,c,e,z⟩;exact .inl l;exact .inr ⟨k,c,e,cellK x c e _ z⟩;obtain⟨v,z⟩:=I.cell x c e;exact⟨v,cellK x c e v z⟩;ext⟨m,⟨o,_,_,y,_⟩,_⟩ I.loc;exact free _ o (λz=>(D _ z).2.1 R) y I.free;obtain⟨v,o,y,hd⟩:=I.cell x c e;exact free c o (λz=>(D c z).2.2.1 x c e R) y (I.freeC x c e);obtain⟨e,n,ne,nf,d⟩:=I.pin p P;have E:p.1∉ch:=λz=>(D p.1 z).2.2.2 p P R;exact⟨keep p.1 p.2 ne nf E e n,free p.1 p.2 E e n,ne,nf,d⟩
def Za.un{t':Nat}(I:Za X pins σ H s)(u:Un X.fs [] H H' s.heap h')(hok:Yp X.prog X.w H' h'):Za X pins σ H' {s with heap:=h',toks:=t'}:=by
 obtain⟨m,⟨o,D,y,g,r⟩,_⟩:=id I.loc;obtain⟨B,i⟩:=u.any g I.free (by simp);exact I.step (g':=s.gens) (d':=s.drawn) (ch:=[]) (λ_ z=>nomatch z) (λb o _ c _ e n=>u.keep b o e n c (by simp)) (λb o _ c _ e n=>u.slot b o e n c (by simp)) (λb o _ e n=>u.free b o e n (by simp)) (λb o _ e=>u.there b o e (by simp)) u.tups u.frzs u.tbls (λC hm=>by
  ext⟨x,j,h,f,v⟩ hm;rw[g]at f;cases f;exact⟨_,j,h,i,v⟩) hok I.bare
def Za.call{g':Array GenState}{t':Nat}{d':Drawn}{ch:OH}(I:Za X pins σ H s)(u:Un (Ye X.stack) ch H H' s.heap h')(hok:Yp X.prog X.w H' h')(D:AllBare g')
  (j:∀b∈ch,(b∈X.ex\/X.s₀.heap.objs.size<=b)/\b≠X.env.locals/\(∀x c,X.env.cells.lookup x=some c->c≠b)/\∀p∈X.pn++pins,p.1≠b) :
  Za X pins σ H' {s with heap:=h',gens:=g',drawn:=d',toks:=t'}:=by
 obtain⟨m,⟨o,M,J,i,r⟩,_⟩:=id I.loc;obtain⟨L,g⟩:=u.any i I.free λz=>(j _ z).2.1 R;exact I.step (ch:=ch) j (λb o g y f e n=>u.keep b o e n (λz=>(SF.mp (I.stkSub b z)).elim g y) f) (λb o _ _ f e n=>u.any e n f) (λb o f e n=>u.free b o e n f) (λb o f e=>u.there b o e f) u.tups u.frzs u.tbls (λG hm=>by
  ext⟨E,C,v,h,B⟩ hm;rw[i]at h;cases h;exact⟨_,C,v,g,B⟩) hok D
def Za.turned{t':Nat}{it:Addr}(I:Za X pins σ H s)(k:∀b o,b≠it->s.heap.get? b=some o->h'.get? b=some o)(hn:H it=none)(g:it≠X.env.locals)
  (h1:it∈X.ex\/X.s₀.heap.objs.size<=it) (C:∀x c,X.env.cells.lookup x=some c->c≠it) (y:∀p∈X.pn++pins,p.1≠it):Za X pins σ H {s with heap:=h',toks:=t'}:=by
 have h:∀b u,H b=some u->b≠it:=λb u e z=>by rw[z,hn]at e;cases e
 refine I.step (g':=s.gens) (d':=s.drawn) (ch:=[it]) (λb i=>?_) (λb o _ _ f e _=>k b o (λz=>f (by simp[z])) e) (λb o _ _ f e _=>⟨o.slots,k b o (λz=>f (by simp[z])) e⟩) (λ_ _ _ _ n=>n)
  (λb o f e=>⟨o,k b o (λz=>f (by simp[z])) e⟩) (λ_ _ e=>e) (λ_ _ _ e=>e) (λb E e=>⟨#[],by rw[e];simp⟩) (λm hm=>?_) (λb u e=>?_) I.bare
 have e:b=it:=by simpa using i
 subst e;exact⟨h1,g,C,y⟩;ext⟨o,D,B,j,r⟩ hm;exact⟨o,D,B,k _ o (Ne.symm g) j,r⟩;erw[(I.hok b u e).stay (λc v f q=>k c v ?_ q) (λ_ q=>q) λ_ _ q=>q];rcases f with z|z;rw[z];exact h b u e;exact h c _ z
def Za.tok(I:Za X pins σ H s)(t:Nat):Za X pins σ H {s with toks:=t}:=I.un (h':=s.heap) (t':=t) Un.refl I.hok
def Za.kept(I:Za X pins σ H s)(k:∀b u,s.heap.get? b=some u->h'.get? b=some u):Za X pins σ H {s with heap:=h',toks:=t'}:=I.un (Un.kept k) (I.hok.kept k)
def Za.laid(I:Za X pins σ H s)(k:∀b u,s.heap.get? b=some u->h'.get? b=some u)(c:s.heap.objs.size<=a)(new:Yo X.prog X.w (upd H a o) h' a o) :
  Za X pins σ (upd H a o) {s with heap:=h',toks:=t'}:=I.un (Un.laid k c (I.hok.fresh c)) (I.hok.laid k c new)
def Za.write(I:Za X pins σ H s)(c:LN (H x))(f:e=x\/H e=some (.own x))(k:∀b u,b≠e->s.heap.get? b=some u->h'.get? b=some u)(g:∃u,h'.get? e=some u)
  (new:Yo X.prog X.w (upd H x o) h' x o):Za X pins σ (upd H x o) {s with heap:=h',toks:=t'}:=I.un (Un.write c f k g) (I.hok.write c f k g new)
def Za.weak{c:List (Option V)}(I:Za X pins σ H s)(j:c.length=σ.length)(w:∀(i:Nat) v,c[i]? = some (some v)->σ[i]? = some (some v)):Za X pins c H s :=
 ⟨I.ok,I.os,I.bare,I.base,let ⟨m,hn,hl'⟩:=I.loc;⟨m,hn,λi x v h f g=>hl' i x v h (w i v f) g⟩,I.cell,I.free,I.freeC,I.pin,I.hok,j.trans I.len⟩
def Za.pins_of(I:Za X pins σ H s)(h:∀p∈pins',s.heap.get? p.1=some p.2/\H p.1=none/\p.1≠X.env.locals/\p.1∉X.fs/\∀v,p.2.data≠.cell v):Za X pins' σ H s :=
 ⟨I.ok,I.os,I.bare,I.base,I.loc,I.cell,I.free,I.freeC,λp c=>(SG.mp c).elim (λz=>I.pin p (SI _ z)) (h p),I.hok,I.len⟩
def RY{N:OC}(f:N.Nodup){i j:Nat}{x:Str}(a:N[i]? = some x)(b:N[j]? = some x):i=j:=by
 obtain⟨h,g⟩:=Sr.mp a;obtain⟨n,c⟩:=Sr.mp b;exact(List.getElem_inj f).mp (g.trans c.symm)
def ZaF{M:Model}{A:Around}{E:Ou}{i:Nat}{x:Str}{v:V}{u:Value}{Q:OA}(I:Za X pins σ H s)(hN:X.N.Nodup)(hi:X.N[i]? = some x)(C:Q2 X.env.scope x)(r:ZQ v u)
  (h:∀s',Za X pins (σ.set i (some v)) H s'->(∃a,Heap.SameBut a s.heap s'.heap/\(a=X.env.locals\/X.env.cells.lookup x=some a))->Q Unit.unit s') (hf:X.fn x=true\/X.env.scope.names.lookup x=some .local:=by first|exact .inl rfl|exact .inr rfl|assumption):wpAny M A (storeName X.env x u) Q E s:=by
 obtain⟨m,hn,hl⟩:=id I.loc;have i0:(X.env.scope.kind==.class || (X.env.scope.kind==.module && X.env.locals != X.env.globals))=false:=by rw[I.ok.kind];rfl
 have e0:i<σ.length:=by rw[I.len];exact(Sr.mp hi).1
 have cne:=I.cne;have tracked:∀{a:Addr} {h':Heap},(∃o,s.heap.get? a=some o/\H a=none)->Heap.SameBut a s.heap h'->Yp X.prog X.w H h':=λ{a h'} ha f b ob e=>by
  ext⟨_,_,c0⟩ ha;erw[(I.hok b ob e).stay (λc O B q=>(f.2 c ?_).trans q) (λ_ q=>q) λ_ _ q=>q];rintro rfl;rcases B with rfl|B;rw[c0]at e;cases e;rw[c0]at B;cases B
 rcases C with G|G;erw[wpAny_storeName_local G hn (λh' h0 f=>?_) i0];obtain⟨oL,_,_,f0,_⟩:=id hn;erw[h _ ⟨I.ok,I.os,I.bare,⟨λb o e n J C=>?_,λb o e n J C=>?_,I.base.free,λb o e C=>?_,I.base.tups,I.base.frzs,I.base.tbls⟩,⟨_,h0,λj y T g D Y=>?_⟩,λy c e=>?_,I.free,I.freeC,λp hp=>?_,tracked ⟨oL,f0,I.free⟩ f,by simpa using I.len⟩ ⟨_,f,.inl R⟩];exact(f.2 b (Sf (Si (Se e) I.ok.above))).trans (I.base.keep b o e n J C);obtain⟨sl,g⟩:=I.base.slot b o e n J C;exact⟨sl,(f.2 b (Sf (Si (Se e) I.ok.above))).trans g⟩;obtain⟨U,g⟩:=I.base.there b o e C;exact⟨U,(f.2 b (Sf (Si (Se e) I.ok.above))).trans g⟩;by_cases L:j=i;subst L;rw[hi]at g;cases g;rw[List.getElem?_set_self e0]at D;cases D;exact⟨u,r,.inl ⟨G,by simp⟩⟩;rw[List.getElem?_set_ne (Ne.symm L)]at D;obtain⟨S,r',q⟩:=hl j y T g D Y;erw[⟨S,r',?_⟩];rcases q with⟨k,e⟩|⟨k,c,e,z⟩;erw[.inl ⟨k,?_⟩];have:y≠x:=λe=>L (RY hN g (e ▸ hi));simp[this,e];exact .inr ⟨k,c,e,z.sameBut f (cne y c e)⟩;obtain⟨O,z⟩:=I.cell y c e;exact⟨O,z.sameBut f (cne y c e)⟩;obtain⟨e,n,ne,nf,d⟩:=I.pin p hp;exact⟨(f.2 p.1 ne).trans e,n,ne,nf,d⟩;have Z:X.fn x=true:=by
  rcases hf with z|z;exact z;rw[z]at G;cases G
 obtain⟨c,B⟩:=I.ok.has x (.inl G);obtain⟨O,z⟩:=I.cell x c B;erw[wpAny_storeName_cell I.ok.kind G B z (λh' a0 f=>?_)];obtain⟨oc,d0,g0⟩:=id z;erw[h {s with heap:=h'} ⟨I.ok,I.os,I.bare,⟨λb o e n J C=>?_,λb o e n J C=>?_,I.base.free,λb o e C=>?_,I.base.tups,I.base.frzs,I.base.tbls⟩,⟨m,hn.sameBut f (Ne.symm (cne x c B)),λj y T g D Y=>?_⟩,λy P e=>?_,I.free,I.freeC,λp hp=>?_,tracked ⟨oc,d0,I.freeC x c B⟩ f,by simpa using I.len⟩ ⟨c,f,.inr B⟩];exact(f.2 b (Sf (Si (Se e) (I.ok.cab x c Z B)))).trans (I.base.keep b o e n J C);obtain⟨sl,g⟩:=I.base.slot b o e n J C;exact⟨sl,(f.2 b (Sf (Si (Se e) (I.ok.cab x c Z B)))).trans g⟩;obtain⟨U,g⟩:=I.base.there b o e C;exact⟨U,(f.2 b (Sf (Si (Se e) (I.ok.cab x c Z B)))).trans g⟩;by_cases L:j=i;subst L;rw[hi]at g;cases g;rw[List.getElem?_set_self e0]at D;cases D;exact⟨u,r,.inr ⟨.inl G,c,B,a0⟩⟩;rw[List.getElem?_set_ne (Ne.symm L)]at D;obtain⟨S,r',q⟩:=hl j y T g D Y;erw[⟨S,r',?_⟩];rcases q with q|⟨k,P,e,z'⟩;exact .inl q;erw[.inr ⟨k,P,e,z'.sameBut f ?_⟩];rintro rfl;exact L (RY hN g (I.ok.inj _ _ _ e B ▸ hi));by_cases b0:P=c;subst b0;exact⟨_,a0⟩;obtain⟨w2,z2⟩:=I.cell y P e;exact⟨w2,z2.sameBut f b0⟩;obtain⟨e,n,ne,nf,d⟩:=I.pin p hp;erw[⟨(f.2 p.1 ?_).trans e,n,ne,nf,d⟩];intro q;rw[q,d0]at e;have q':oc=p.2:=So e;exact d O (by rwa[<-q'])
def RZ(I:Za X pins σ H s)(g:X.N.Nodup)(hi:X.N[i]? = some x)(c:Q2 X.env.scope x)(r:ZQ v u)
  (h:∀s',Za X pins (σ.set i (some v)) H s'->Q Unit.unit s') (f:X.fn x=true\/X.env.scope.names.lookup x=some .local:=by first|exact .inl rfl|exact .inr rfl|assumption):wpAny M A (storeName X.env x u) Q E s :=
 ZaF I g hi c r (λs' j _=>h s' j) f
def Za.call'{s':Shared}(I:Za X pins σ H s)(g:s'.os=s.os)(u:Un (Ye X.stack) ch H H' s.heap s'.heap)(hok:Yp X.prog X.w H' s'.heap)(i:AllBare s'.gens)
  (h:∀b∈ch,(b∈X.ex\/X.s₀.heap.objs.size<=b)/\b≠X.env.locals/\(∀x c,X.env.cells.lookup x=some c->c≠b)/\∀p∈X.pn++pins,p.1≠b):Za X pins σ H' s':=by
 ext⟨h',g',d',t',f⟩ s';have e:f=s.os:=g;subst e;exact I.call (g':=g') (t':=t') (d':=d') u hok i h
end
abbrev XK:=Value->Option Addr->Hp->Prop
abbrev St:=List (Option V)
abbrev VK:=V->Hp->Prop
abbrev TE:=St->Hp->VK->Prop
abbrev TT:=St->Hp->(Bool->Hp->Prop)->Prop
abbrev TA:=St->Hp->(List V->Hp->Prop)->Prop
structure WL where
 nx:St->Hp->Prop
 rt:VK
 bk:St->Hp->Prop:=λ_ _=>False
 ct:St->Hp->Prop:=λ_ _=>False
abbrev TS:=WL->St->Hp->Prop
inductive EP(X:Cx)(pins:Ov)(σ:St)(Q:VK)(u:Value)(s':Shared):Prop|mk v H' (_:Za X pins σ H' s') (_:ZQ v u) (_:Q v H')
inductive TP(X:Cx)(pins:Ov)(σ:St)(Q:Bool->Hp->Prop)(b:Bool)(s':Shared):Prop|mk H' (_:Za X pins σ H' s') (_:Q b H')
inductive AP(X:Cx)(pins:Ov)(σ:St)(Q:List V->Hp->Prop)(us:OB)(s':Shared):Prop|mk vs H' (_:Za X pins σ H' s') (_:ZC vs us) (_:Q vs H')
def SP(X:Cx)(pins:Ov)(D:WL)(f:Flow)(s':Shared):Prop :=
 match f with
 |.next=>∃g c,Za X pins g c s'/\D.nx g c
 |.brk=>∃g c,Za X pins g c s'/\D.bk g c
 |.cont=>∃g c,Za X pins g c s'/\D.ct g c
 |.ret u=>∃v g c,Za X pins g c s'/\ZQ v u/\D.rt v c
def PE(X:Cx)(e:Expr)(t:TE):Prop :=
 ∀(pins:Ov) (s:Shared) (σ:St) (H:Hp) (Q:VK),Za X pins σ H s->t σ H Q->wpAny (model X.prog X.w) X.A (eval e X.env) (EP X pins σ Q) X.xe s
def PT(X:Cx)(e:Expr)(t:TT):Prop :=
 ∀(pins:Ov) (s:Shared) (σ:St) (H:Hp) (Q:Bool->Hp->Prop),Za X pins σ H s->t σ H Q->wpAny (model X.prog X.w) X.A (isTrue e X.env (eval e X.env)) (TP X pins σ Q) X.xe s
def PW(X:Cx)(e:Expr)(t:TT):Prop :=
 ∀(whole:Sem Value) (pins:Ov) (s:Shared) (σ:St) (H:Hp) (Q:Bool->Hp->Prop),Za X pins σ H s->t σ H Q->wpAny (model X.prog X.w) X.A (isTrue e X.env whole) (TP X pins σ Q) X.xe s
def PW.pt(h:PW X e t):PT X e t:=h _
def PA(X:Cx)(f:OD)(t:TA):Prop :=
 ∀(c:Pos) (pins:Ov) (s:Shared) (σ:St) (H:Hp) (Q:List V->Hp->Prop),Za X pins σ H s->t σ H Q->wpAny (model X.prog X.w) X.A (spliced (backTo c (starEach f X.env))) (AP X pins σ Q) X.xe s
def PS(X:Cx)(st:Stmt)(t:TS):Prop :=
 ∀(pins:Ov) (s:Shared) (σ:St) (H:Hp) (D:WL),Za X pins σ H s->t D σ H->wpAny (model X.prog X.w) X.A (exec st X.env) (SP X pins D) X.xe s
def XO(X:Cx)(st:List Stmt)(t:TS):Prop :=
 ∀(pins:Ov) (s:Shared) (σ:St) (H:Hp) (D:WL),Za X pins σ H s->t D σ H->wpAny (model X.prog X.w) X.A (execs st X.env) (SP X pins D) X.xe s
def Zy{f:Type}{t:Sem f}{Q c:f->Shared->Prop}{M:Model}{A:Around}{E:Ou}{s:Shared}(h:wpAny M A t Q E s)(g:∀a s,Q a s->c a s):wpAny M A t c E s:=Oq h g λ_ _ x=>x
end L2
variable{pins:List (PySem.Addr×PySem.Obj)}{K:PySem.W.Frag}{s:PySem.Shared}{X:L2.Cx}{E:PySem.Value->PySem.Shared->Prop}{A:PySem.Around}{w:PySem.World}{H:L2.Hp}{mg:PySem.Str->Option PySem.Value}{scope:PySem.Scope}{prog:PySem.Program}{P:PySem.Program}{pos:PySem.Pos}{base:PySem.Heap}
namespace L2
open PySem PySem.Spec PyProof.Rows
section
inductive Qz(i:Nat)(σ:St)(H:Hp)(Q:VK):Prop|mk v (_:σ[i]? = some (some v)) (_:Q v H)
def tC(v:V):TE:=λ_ H Q=>Q v H
def ZaG(n:X.N[i]? = some x)(E:LO X.env.scope x)(hd:(x==("__debug__" : Str))=false:=by lia) (B:(x==("__classdict__" : Str))=false:=by lia):PE X (.Name x y) (Qz i):=by
 intro pins s C H Q I h;ext⟨v,e,h⟩ h;ext⟨m,hn,D⟩ I.loc;obtain⟨u,r,l⟩:=D i x v n e E;have fin:EP X pins C Q u s:=⟨v,H,I,r,h⟩;rcases l with⟨f,hm⟩|⟨f,c,g,j⟩;exact wpAny_Name (wpAny_loadName_local I.ok.kind f hn hm fin) hd;rcases f with f|f;exact wpAny_Name (wpAny_loadName_cell I.ok.kind f g j fin) hd;exact wpAny_Name (wpAny_loadName_free I.ok.kind f g j fin B) hd
def Zb{i j pos}:PE X (.Constant (.int i) j pos) (tC (.int i)):=λ_ _ _ H _ I h=>wpAny_Constant_int ⟨.int i,H,I.tok _,⟨_,R⟩,h⟩
def Vh{b j pos}:PE X (.Constant (.bool b) j pos) (tC (.bl b)):=λ_ _ _ H _ I h=>Constant_bool ⟨.bl b,H,I,R,h⟩
def NG{j pos}:PE X (.Constant .none j pos) (tC .non):=λ_ _ _ H _ I h=>Constant_none ⟨.non,H,I,R,h⟩
def Zq{x j pos}:PE X (.Constant (.str x) j pos) (tC (.str x)):=λ_ _ _ H _ I h=>Calls.Constant_str ⟨.str x,H,I.tok _,⟨_,R⟩,h⟩
def Gl(X:Cx)(x:Str):Prop:=X.env.kindOf x=some .globalImplicit
def V7(I:Za X pins c H s)(g:Gl X x)(hm:X.mg x=some u)(h:Q u s)
  (hd:(x==("__debug__" : Str))=false:=by lia):wpAny (model X.prog X.w) X.A (eval (.Name x f) X.env) Q E s :=
 Calls.Name_function_global I.ok.kind g (Calls.loadGlobal_global (by rw[I.ok.glob];exact I.mod.glob.keeps I.bk) hm h) hd
def VH(I:Za X pins g H s)(n:Gl X x)(hm:X.mg x=none)(j:bootBuiltins x=some u)(h:Q u s)
  (hn:x ≠ "__name__" := by lia) (hd:(x==("__debug__" : Str))=false:=by lia):wpAny (model X.prog X.w) X.A (eval (.Name x f) X.env) Q E s:=by
 ext⟨v,c,i⟩ I.mod.blt;exact Calls.Name_function_global I.ok.kind n (Calls.loadGlobal_builtin (by rw[I.ok.glob];exact I.mod.glob.keeps I.bk) hm (by rw[I.ok.blt];exact c.keeps I.bk) ((i x hn).trans j) h) hd
def ZaH(f:Gl X x)(hm:X.mg x=some u)(r:ZQ v u)(hd:(x==("__debug__" : Str))=false:=by lia):PE X (.Name x c) (tC v) :=
 λ_ _ _ H _ I h=>V7 I f hm ⟨v,H,I,r,h⟩ hd
def ZhO(g:Gl X x)(hm:X.mg x=none)(f:bootBuiltins x=some u)(r:ZQ v u)(hn:x ≠ "__name__" := by lia) (hd:(x==("__debug__" : Str))=false:=by lia):PE X (.Name x c) (tC v) :=
 λ_ _ _ H _ I h=>VH I g hm f ⟨v,H,I,r,h⟩ hn hd
variable{a b:Expr}{ta tb:TE}
def PC(X:Cx)(f:CmpOp)(a b:Expr)(t:TE):Prop :=
 ∀(pins:Ov) (s:Shared) (σ:St) (H:Hp) (Q:VK),Za X pins σ H s->t σ H Q ->
  wpAny (model X.prog X.w) X.A (eval a X.env) (λv c=>wpAny (model X.prog X.w) X.A (eval b X.env) (λu g=>wpAny (model X.prog X.w) X.A (compareOp f v u) (EP X pins σ Q) X.xe g) X.xe c) X.xe s
def ZaI(b:Expr)(h:c≠.In)(f:c≠.NotIn):behindInMarks c b=false:=by
 have g:(c==CmpOp.In)=false:=by cases c<;>first|rfl|exact Os R h
 have i:(c==CmpOp.NotIn)=false:=by cases c<;>first|rfl|exact Os R f
 cases b<;>simp[behindInMarks,g,i]
def ZhP(ta:TE):TE:=λc H Q=>ta c H λx f=>Q (.bl (decide (x=.non))) f
def ZQ.none_iff(r:ZQ x v):(v==Value.none)=decide (x=.non):=by
 cases x with
 |non=>cases r;rfl
 |bl _=>cases r;rfl
 |int _=>ext⟨t,rfl⟩ r;rfl
 |str _=>ext⟨t,rfl⟩ r;rfl
 |byt _=>ext⟨t,rfl⟩ r;rfl
 |flt _=>ext⟨t,rfl⟩ r;rfl
 |ref _=>cases r;rfl
 |ty _=>cases r;rfl
def ZhQ{j pos'}(ha:PE X a ta):PC X .Is a (.Constant .none j pos') (ZhP ta):=by
 intro pins s f H Q I h;erw[Zy (ha pins s f H _ I h) λv n ⟨x,g,c,r1,i⟩=>?_];exact Constant_none (is_none_gen ⟨.bl _,g,c,by rw[r1.none_iff];rfl,i⟩)
inductive ZhR(Q:Bool->Hp->Prop)(x:V)(H1:Hp):Prop|mk c (_:x=.bl c) (_:Q c H1)
def tB(t:TE):TT:=λc H Q=>t c H λx f=>ZhR Q x f
def ZhS(h:PC X c a b t)(h1:behindInMarks c b=false:=by first|exact ZaI _ () ()|rfl):PE X (.Compare a [c] [b] pos) t:=λpins s f H Q I g=>wpAny_Compare1 (h pins s f H Q I g) h1
def ZaJ(h:PC X f a b t)(h1:behindInMarks f b=false:=by first|exact ZaI _ () ()|rfl):PT X (.Compare a [f] [b] pos) (tB t):=by
 intro pins s g H Q I i;erw[wpAny_isTrue_Compare1 (Zy (h pins s g H _ I i) λv C h1=>Zy h1 λu s2 n=>Zy n λc D ⟨x,j,B,r1,y⟩=>?_) h1];ext⟨d,rfl,q⟩ y;cases r1;exact wpAny_truthy_bool ⟨j,B,q⟩
def Yy{e:Expr}(h:PE X e t)(c:∀whole,isTrue e X.env whole=(do let v <-whole;standAt e.pos;holding [v] (truthy v)):=by intro _;rfl):PT X e (tB t):=by
 intro pins s f H Q I g;erw[isTrue_plain (Zy (h pins s f H _ I g) λv u ⟨x,i,n,r1,j⟩=>?_) (c _)];ext⟨d,rfl,q⟩ j;cases r1;exact wpAny_truthy_bool ⟨i,n,q⟩
variable{tA tB':TT}{rest:OD}
def ZhT(t u:TT):TT:=λf H Q=>t f H λc g=>if c=true then u f g Q else Q false g
def tOr(t u:TT):TT:=λf H Q=>t f H λc g=>if c=true then Q true g else u f g Q
def ZhU(t:TT):TT:=λf H Q=>t f H λc g=>Q (!c) g
def ZaK(ha:PT X a tA):PW X (.BoolOp .And [a] pos) tA:=by
 intro g pins s f H Q I h;erw[isTrue_and (Zy (ha pins s f H Q I h) λc i e=>?_)];cases c with
 |true=>exact isTrue_and_nil e
 |false=>exact e
def Q3(ha:PT X a tA):PW X (.BoolOp .Or [a] pos) tA:=by
 intro g pins s f H Q I h;erw[isTrue_or (Zy (ha pins s f H Q I h) λc i e=>?_)];cases c with
 |false=>exact isTrue_or_nil e
 |true=>exact e
def ZaL(ha:PT X a tA)(n:PW X (.BoolOp .And (b::rest) pos) tB'):PW X (.BoolOp .And (a::b::rest) pos) (ZhT tA tB'):=by
 intro u pins s g H Q I h;erw[isTrue_and (Zy (ha pins s g H _ I h) λc v ⟨i,f,j⟩=>?_)];cases c with
 |true=>exact n u pins v g i Q f j
 |false=>exact⟨i,f,j⟩
def Q4(ha:PT X a tA)(n:PW X (.BoolOp .Or (b::rest) pos) tB'):PW X (.BoolOp .Or (a::b::rest) pos) (tOr tA tB'):=by
 intro u pins s g H Q I h;erw[isTrue_or (Zy (ha pins s g H _ I h) λc v ⟨i,f,j⟩=>?_)];cases c with
 |true=>exact⟨i,f,j⟩
 |false=>exact n u pins v g i Q f j
def Yx(ha:PT X a tA):PT X (.UnaryOp .Not a pos) (ZhU tA):=by
 intro pins s f H Q I h;exact isTrue_not (Zy (ha pins s f H (λc g=>Q (!c) g) I h) λ_ _ ⟨a,b,c⟩=>⟨a,b,c⟩)
inductive ZhV(tb:TE)(σ:St)(Q:VK)(x:V)(H1:Hp):Prop|mk c (_:x=.bl c) (_:if c=true then tb σ H1 Q else Q (.bl false) H1)
def ZhW(ta tb:TE):TE:=λc H Q=>ta c H λx f=>ZhV tb c Q x f
inductive ZhX(tb:TE)(σ:St)(Q:VK)(x:V)(H1:Hp):Prop|mk c (_:x=.bl c) (_:if c=true then Q (.bl true) H1 else tb σ H1 Q)
def ZhY(ta tb:TE):TE:=λc H Q=>ta c H λx f=>ZhX tb c Q x f
inductive ZhZ(Q:VK)(x:V)(H1:Hp):Prop|mk c (_:x=.bl c) (_:Q (.bl (!c)) H1)
def ZaM(ta:TE):TE:=λc H Q=>ta c H λx f=>ZhZ Q x f
def Vi{op}(h:PE X a t):PE X (.BoolOp op [a] pos) t:=λpins s c H Q I f=>BoolOp_one (h pins s c H Q I f)
def Vx(ha:PE X a ta)(n:PE X (.BoolOp .And (b::rest) pos) tb):PE X (.BoolOp .And (a::b::rest) pos) (ZhW ta tb):=by
 intro pins s i H Q I h;erw[BoolOp_and (Zy (ha pins s i H _ I h) λv u ⟨x,j,g,r1,f⟩=>?_)];ext⟨c,rfl,f⟩ f;cases r1;erw[wpAny_truthy_bool ?_];cases c with
 |true=>exact n pins u i j Q g f
 |false=>exact⟨.bl false,j,g,R,f⟩
def Zh0(ha:PE X a ta)(n:PE X (.BoolOp .Or (b::rest) pos) tb):PE X (.BoolOp .Or (a::b::rest) pos) (ZhY ta tb):=by
 intro pins s i H Q I h;erw[BoolOp_or (Zy (ha pins s i H _ I h) λv u ⟨x,j,g,r1,f⟩=>?_)];ext⟨c,rfl,f⟩ f;cases r1;erw[wpAny_truthy_bool ?_];cases c with
 |false=>exact n pins u i j Q g f
 |true=>exact⟨.bl true,j,g,R,f⟩
def ZaN(ha:PE X a ta):PE X (.UnaryOp .Not a pos) (ZaM ta):=by
 intro pins s i H Q I h;erw[UnaryOp_ (Zy (ha pins s i H _ I h) λv n ⟨x,j,g,r1,f⟩=>?_)];ext⟨c,rfl,f⟩ f;cases r1;exact not_of (wpAny_truthy_bool ⟨.bl (!c),j,g,R,f⟩)
def tIf(t:TT)(ta tb:TE):TE:=λf H Q=>t f H λc g=>if c=true then ta f g Q else tb f g Q
def LP(u:PT X c tA)(ha:PE X a ta)(v:PE X b tb):PE X (.IfExp c a b pos) (tIf tA ta tb):=by
 intro pins s f H Q I h;erw[wpAny_IfExp (Zy (u pins s f H _ I h) λd i ⟨j,g,n⟩=>?_)];cases d with
 |true=>exact ha pins i f j Q g n
 |false=>exact v pins i f j Q g n
end
def Zd(K:Ox)(H:Hp)(a:Addr)(xs:List V):Prop :=
 Rd H a (.lst xs) \/
  ∃(o:Obj) (its:Array Value) (n:Nat),K.lookup a=some o/\o.cls=.type "list" /\ o.dict=none/\o.data=.seq its n/\its.size<=sizeLine/\ZC xs its.toList
def Zp(K:Ox)(H:Hp)(a:Addr)(xs:List V):Prop :=
 Rd H a (.tup xs) \/
  ∃(o:Obj) (its:Array Value) (n:Nat),K.lookup a=some o/\o.cls=.type "tuple" /\ o.data=.seq its n/\its.size<=sizeLine/\ZC xs its.toList
def Zh1:Value->Option V
 |.none=>some .non
 |.bool b=>some (.bl b)
 |.int i _=>some (.int i)
 |.str x _=>some (.str x)
 |.bytes b _=>some (.byt b)
 |.float b _=>some (.flt b)
 |.ref a=>some (.ref a)
 |.type n=>some (.ty n)
 |_=>none
def ZQ.abs(r:ZQ x u):Zh1 u=some x:=by
 cases x with
 |non=>cases r;rfl
 |bl _=>cases r;rfl
 |int _=>ext⟨t,rfl⟩ r;rfl
 |str _=>ext⟨t,rfl⟩ r;rfl
 |byt _=>ext⟨t,rfl⟩ r;rfl
 |flt _=>ext⟨t,rfl⟩ r;rfl
 |ref _=>cases r;rfl
 |ty _=>cases r;rfl
def ZQ.inj(r:ZQ x u)(q:ZQ y u):x=y:=So (r.abs.symm.trans q.abs)
theorem ZC.inj:∀{xs c:List V} {us:OB},ZC xs us->ZC c us->xs=c
 |_,_,_,.nil,.nil=>rfl
 |_,_,_,.cons r t,.cons f t'=>by rw[r.inj f,ZC.inj t t']
section
variable{σ:St}{a:Addr}{xs ys:List V}
def Zd.of(h:H a=some (.lst xs)):Zd K H a xs:=.inl (.inl h)
def Zp.of(h:H a=some (.tup xs)):Zp K H a xs:=.inl (.inl h)
def Za.list(I:Za X pins σ H s)(h:Zd X.K H a xs):∃c:List Value,ZC xs c/\PlainL s.heap a c.toArray/\xs.length<=sizeLine:=by
 rcases h with h|⟨o,c,n,g,f,hd,i,j,r⟩;obtain⟨z,c,n,r,e⟩:=h.ok I.hok;exact⟨c,r,⟨_,n,e,R,R,R⟩,z⟩;erw[⟨c.toList,r,⟨o,n,I.kIn a o g,f,hd,by simpa using i⟩,?_⟩];have e:=r.length;simp only[Array.length_toList]at e;lia
def Za.tuple(I:Za X pins σ H s)(h:Zp X.K H a xs):∃c:List Value,ZC xs c/\IsTup s.heap a c.toArray/\xs.length<=sizeLine:=by
 rcases h with h|⟨o,c,n,g,f,i,j,r⟩;obtain⟨z,c,r,p⟩:=h.ok I.hok;exact⟨c,r,p,z⟩;erw[⟨c.toList,r,⟨o,I.kIn a o g,f,n,by simpa using i⟩,?_⟩];have e:=r.length;simp only[Array.length_toList]at e;lia
def Za.list_inj(I:Za X pins σ H s)(h:Zd X.K H a xs)(h':Zd X.K H a ys):xs=ys:=by
 obtain⟨i,r,⟨o,n,e,_,_,d⟩,_⟩:=I.list h;obtain⟨g,j,⟨v,x,c,_,_,f⟩,_⟩:=I.list h';rw[e]at c;cases c;rw[d]at f;injection f with u _;have:i=g:=by simpa using congrArg Array.toList u
 subst this;exact r.inj j
def Za.tuple_inj(I:Za X pins σ H s)(h:Zp X.K H a xs)(h':Zp X.K H a ys):xs=ys:=by
 obtain⟨i,r,⟨o,e,_,n,d⟩,_⟩:=I.tuple h;obtain⟨g,j,⟨v,c,_,x,f⟩,_⟩:=I.tuple h';rw[e]at c;cases c;rw[d]at f;injection f with u _;have:i=g:=by simpa using congrArg Array.toList u
 subst this;exact r.inj j
end
abbrev Cx.wish(X:Cx)(E:Ou):Cx:={X with xe:=E}
abbrev Cx.nox(X:Cx):Cx:=X.wish λ_ _=>False
def Cx.Ok.wish(ok:X.Ok)(E:Ou):(X.wish E).Ok :=
 ⟨ok.mod,ok.kind,ok.glob,ok.blt,ok.above,ok.inj,ok.has,ok.cab,ok.hd,ok.frames,ok.stk,ok.exf,ok.bs,ok.bsz,ok.noex,ok.exfs,ok.funs,ok.frf⟩
def Cx.Ok.unwish(ok:(X.wish E).Ok):X.Ok :=
 ⟨ok.mod,ok.kind,ok.glob,ok.blt,ok.above,ok.inj,ok.has,ok.cab,ok.hd,ok.frames,ok.stk,ok.exf,ok.bs,ok.bsz,ok.noex,ok.exfs,ok.funs,ok.frf⟩
section
variable{σ:St}
def Za.wish(I:Za X pins σ H s)(E:Ou):Za (X.wish E) pins σ H s:=⟨I.ok.wish E,I.os,I.bare,I.base,I.loc,I.cell,I.free,I.freeC,I.pin,I.hok,I.len⟩
def Za.unwish(I:Za (X.wish E) pins σ H s):Za X pins σ H s:=⟨I.ok.unwish,I.os,I.bare,I.base,I.loc,I.cell,I.free,I.freeC,I.pin,I.hok,I.len⟩
def SP.unwish(h:SP (X.wish E) pins D f s'):SP X pins D f s':=by
 cases f with
 |next=>ext⟨g,c,I,q⟩ h;exact⟨g,c,I.unwish,q⟩
 |brk=>ext⟨g,c,I,q⟩ h;exact⟨g,c,I.unwish,q⟩
 |cont=>ext⟨g,c,I,q⟩ h;exact⟨g,c,I.unwish,q⟩
 |ret u=>ext⟨v,g,c,I,r,q⟩ h;exact⟨v,g,c,I.unwish,r,q⟩
def XO.nox{st:List Stmt}{t:TS}(h:XO X.nox st t):XO X st t:=λpins s σ H D I c =>
 Oq (h pins s σ H D (I.wish _) c) (λ_ _ q=>q.unwish) λ_ _ z=>False.elim z
end
section
variable{st:Stmt}{rest:List Stmt}{t u:TS}{e:Expr}{te:TE}
def Zh2:TS:=λD c H=>D.nx c H
def Yi(t u:TS):TS:=λD c H=>t {D with nx:=u D} c H
def ZJ:XO X [] Zh2:=λ_ _ c H _ I h=>wpAny_execs_nil ⟨c,H,I,h⟩
def Zi(h1:PS X st t)(n:XO X rest u):XO X (st::rest) (Yi t u):=by
 intro pins s i H D I h;erw[wpAny_execs_cons (Zy (h1 pins s i H {D with nx:=u D} I h) λf c q=>?_)];cases f with
 |next =>
  ext⟨g,x,j,q⟩ q;exact n pins c g x D j q
 |ret v=>exact q
 |brk=>exact q
 |cont=>exact q
def Ze(h1:PS X st t):XO X [st] t:=by
 intro pins s c H D I h;erw[wpAny_execs_cons (Zy (h1 pins s c H D I h) λf g q=>?_)];cases f with
 |next=>exact wpAny_execs_nil q
 |ret v=>exact q
 |brk=>exact q
 |cont=>exact q
def Za.quiet(I:Za X pins c H s):interactive X.env=false:=by simp[interactive,I.ok.kind]
def Zh3(te:TE):TS:=λD c H=>te c H λ_ f=>D.nx c f
def Yg(g:PE X e te)(i:swapsWith e none pos.line X.env=pure false:=by rfl):PS X (.Expr e pos) (Zh3 te):=by
 intro pins s c H D I h;exact wpAny_Expr_any (Zy (g pins s c H _ I h) λv y ⟨x,j,f,r1,n⟩=>⟨c,j,f,n⟩) I.quiet i
def Zh4(te:TE):TS:=λD c H=>te c H D.rt
def Zt(g:PE X e te):PS X (.Return (some e) pos) (Zh4 te):=by
 intro pins s c H D I h;exact wpAny_Return_some (Zy (g pins s c H _ I h) λv n ⟨x,i,f,r1,j⟩=>⟨x,c,i,f,r1,j⟩)
def Zh5(c:TT)(t u:TS):TS:=λD f H=>c f H λb g=>if b=true then t D f g else u D f g
def ZH(x:PT X c i)(ha:XO X a t)(y:XO X b u):PS X (.If c a b pos) (Zh5 i t u):=by
 intro pins s f H D I h;erw[wpAny_If (Zy (x pins s f H _ I h) λd g ⟨j,v,n⟩=>?_)];cases d with
 |true=>exact ha pins g f j D v n
 |false=>exact y pins g f j D v n
def Zh6:TS:=λ_ _ _=>False
def Wy:PS X st Zh6:=λ_ _ _ _ _ _ h=>h.elim
end
abbrev TG:=V->St->Hp->(St->Hp->Prop)->Prop
abbrev NH:=List V->St->Hp->(St->Hp->Prop)->Prop
def PG(X:Cx)(target:Expr)(t:TG):Prop :=
 ∀(pins:Ov) (s:Shared) (σ:St) (H:Hp) (v:V) (u:Value) (Q:St->Hp->Prop),Za X pins σ H s->ZQ v u->t v σ H Q ->
  wpAny (model X.prog X.w) X.A (assign target X.env u) (λ_ g=>∃c f,Za X pins c f g/\Q c f) X.xe s
def NI(X:Cx)(ts:OD)(t:NH):Prop :=
 ∀(pins:Ov) (s:Shared) (σ:St) (H:Hp) (vs:List V) (us:OB) (Q:St->Hp->Prop),Za X pins σ H s->ZC vs us->t vs σ H Q ->
  wpAny (model X.prog X.w) X.A (assignInOrder ((assignEach ts X.env).map (·.2)) us) (λ_ g=>∃c f,Za X pins c f g/\Q c f) X.xe s
def YV(i:Nat):TG:=λv c H Q=>Q (c.set i (some v)) H
def R0(g:X.N.Nodup)(hi:X.N[i]? = some x)(c:Q2 X.env.scope x)(f:X.fn x=true\/X.env.scope.names.lookup x=some .local:=by first|exact .inl rfl|exact .inr rfl|assumption):PG X (.Name x pos) (YV i):=by
 intro pins s y H v u Q I r h;exact wpAny_assign_Name (RZ I g hi c r (λn j=>⟨_,H,j,h⟩) f)
def ZaO:NH:=λc f H Q=>c=[]/\Q f H
inductive ZaP(t:TG)(u:NH)(vs:List V)(σ:St)(H:Hp)(Q:St->Hp->Prop):Prop|mk v r (_:vs=v::r) (_:t v σ H λσ' H'=>u r σ' H' Q)
def V8:NI X [] ZaO:=by
 intro pins s c H f g Q I r h;ext⟨e,h⟩ h;subst e;cases r;exact assignInOrder_nil ⟨c,H,I,h⟩
def Xk(h1:PG X e t)(x:NI X c u)
  (i:(assignEach (e::c) X.env).map (·.2)=assign e X.env::(assignEach c X.env).map (·.2):=by rfl):NI X (e::c) (ZaP t u):=by
 intro pins s f H G J Q I r h;ext⟨v,E,j,h⟩ h;subst j;cases r with
 |cons r D =>
  rw[i];erw[assignInOrder_cons (Zy (h1 pins s f H _ _ _ I r h) λ_ C ⟨g,n,B,y⟩=>?_)];exact x pins C g n _ _ Q B D y
inductive ZaQ(K:Ox)(n:Nat)(t:NH)(v:V)(σ:St)(H:Hp)(Q:St->Hp->Prop):Prop|mk a xs (_:v=.ref a) (_:Zp K H a xs) (_:xs.length=n) (_:t xs σ H Q)
def V9(B:X.calm=true)(h:NI X c t)
  (hn:(assignEach c X.env).length=n:=by rfl) (E:(assignEach c X.env).findIdx? (·.1)=none:=by rfl):PG X (.Tuple c k pos) (ZaQ X.K n t):=by
 intro pins s g H v u Q I r f;ext⟨a,j,D,y,L,f⟩ f;subst D;cases r;obtain⟨O,i,x,M⟩:=I.tuple y;erw[assign_Tuple_tuple (I.ok.hd B) x (by simp[hn,<-L,i.length]) E λJ C=>?_];have G:Za X pins g H {s with heap:=J}:=I.kept (t':=s.toks) λb o e=>C b o (Sf (Se e)) e;exact h pins _ g H j _ Q G (by simpa using i) f
def NJ(h:TE)(g:TG):TS:=λD c H=>h c H λx f=>g x c f D.nx
def Zh7(j:PE X e f)(G:PG X c g)(B:swapsWithSole [c] e pos.line X.env=pure false:=by rfl)(y:swappedStores [c] e X.env=pure none:=by rfl)
  (n:(assignEach [c] X.env).map (·.2)=[assign c X.env]:=by rfl):PS X (.Assign [c] e pos) (NJ f g):=by
 intro pins s i H D I h;erw[wpAny_Assign_stores (Zy (j pins s i H _ I h) λv u ⟨x,C,J,r1,E⟩=>?_) B y];rw[n];exact Zy (G pins u i C x v _ J r1 E) λ_ s2 q=>q
def Zh8{pos':Pos}(u:X.N.Nodup)(hi:X.N[i]? = some x)(j:Q2 X.env.scope x)(g:PE X e c)(C:swapsWith e (some (.Name x pos')) pos.line X.env=pure false:=by rfl)(n:X.fn x=true\/X.env.scope.names.lookup x=some .local:=by first|exact .inl rfl|exact .inr rfl|assumption) :
  PS X (.Assign [.Name x pos'] e pos) (NJ c (YV i)):=by
 intro pins s B H D I h;erw[wpAny_Assign_Name (Zy (g pins s B H _ I h) λv L ⟨y,E,J,r1,G⟩=>?_) C];exact RZ J u hi j r1 (λs2 f=>⟨_,E,f,G⟩) n
structure It where
 go:Nat->Hp->Prop
 yld:Nat->Hp->V->Hp->Prop
 stop:Nat->Hp->Prop
def Vy(X:Cx)(pins:Ov)(H:Hp)(b:Addr):Prop :=
 H b=none/\b≠X.env.locals/\b∉X.fs/\(b∈X.ex\/X.s₀.heap.objs.size<=b)/\(∀x c,X.env.cells.lookup x=some c->c≠b)/\∀p∈X.pn++pins,p.1≠b
def Za.fpOk(I:Za X pins h H s)(f:s.heap.objs.size<=b)(hn:g b=none):Vy X pins g b:=by
 erw[⟨hn,Nat.ne_of_gt (Si I.lt f),I.nofs f,.inr (Sh I.sz f),λx c e z=>?_,λp i z=>?_⟩];obtain⟨v,q⟩:=I.cell x c e;exact Os (Si q.lt (by rwa[z])) (Sl _);exact Os (Si (Se (I.pin p i).1) (by rwa[z])) (Sl _)
structure UK(P:Program)(w:World)(K:Ox)(tg:Expr)(J:It)(fp:OH)(it:Addr)(tn:Nat->Heap->Prop):Prop where
 mem:it∈fp
 obj:∀i h,tn i h->∀b∈fp,∃o,h.get? b=some o/\∀v,o.data≠.cell v
 keep:∀i h h',tn i h->(∀b∈fp,∀o,h.get? b=some o->h'.get? b=some o)->tn i h'
 item:∀(X:Cx),X.prog=P->X.w=w->X.K=K->X.calm=true->∀(i:Nat) (pins:Ov) (s:Shared) (σ:St) (H:Hp) (E:Ou),Za X pins σ H s->(∀b∈fp,Vy X pins H b)->tn i s.heap->J.go i H ->
  wpAny (model P w) X.A (pyNext (.ref it)) (λr s1=>∃u,r=some u /\
   wpAny (model P w) X.A (letOwnedTupleGo tg (.ref it) u) (λ_ s2=>∃x H',Za X pins σ H' s2/\ZQ x u/\J.yld i H x H'/\tn (i+1) s2.heap/\∀b∈fp,H' b=none) E s1) E s
 done:∀(X:Cx),X.prog=P->X.w=w->X.K=K->X.calm=true->∀(i:Nat) (pins:Ov) (s:Shared) (σ:St) (H:Hp) (E:Ou),Za X pins σ H s->(∀b∈fp,Vy X pins H b)->tn i s.heap->J.stop i H ->
  wpAny (model P w) X.A (pyNext (.ref it)) (λr s1=>r=none/\Za X pins σ H s1) E s
 self:∀(A:Around) (i:Nat) (s:Shared) (Q:Ou) (E:Ou),tn i s.heap->Q (.ref it) s->wpAny (model P w) A (pyIter (.ref it)) Q E s
abbrev TI:=St->Hp->(It->Hp->Prop)->Prop
inductive PIE(X:Cx)(pins:Ov)(σ:St)(tg:Expr)(R:It->Hp->Prop)(itv:Value)(s2:Shared):Prop|mk (it:Addr) (fp:OH) (tn:Nat->Heap->Prop) (J:It) (H':Hp) (_:itv=.ref it) (_:Za X pins σ H' s2) (_:UK X.prog X.w X.K tg J fp it tn) (_:tn 0 s2.heap) (_:(∀b∈fp,Vy X pins H' b)) (_:R J H')
def PI(X:Cx)(g iter:Expr)(c:TI):Prop :=
 ∀(pins:Ov) (s:Shared) (σ:St) (H:Hp) (R:It->Hp->Prop),Za X pins σ H s->c σ H R ->
  wpAny (model X.prog X.w) X.A (eval iter X.env) (λv f=>wpAny (model X.prog X.w) X.A (pyIter v) (PIE X pins σ g R) X.xe f) X.xe s
def LQ {o:Obj} (i:s.heap.get? it=some o) (g:o.cls=.type n) (hd:o.data=.fields vs)
    (hn:["enumerate","zip","dict_itemiterator","dict_reverseitemiterator","odict_iterator","itertools.zip_longest","itertools.pairwise"].contains n=false) (c:Q Unit.unit s):wpAny M A (letOwnedTupleGo f (.ref it) u) Q E s:=by
  unfold letOwnedTupleGo;cases f<;>first
    |exact Sb c
    | (cases u <;> first
        |exact Sb c
        | (refine Sa (Op i ?_)
           rw[g,hd];show wpAny M A (if (["enumerate","zip","dict_itemiterator","dict_reverseitemiterator","odict_iterator","itertools.zip_longest","itertools.pairwise"].contains n && vs[0]? == some (rawInt _))=true then _ else _) Q E s;rw[SU (by intro h;rw[hn,Bool.false_and]at h;cases h)];exact Sb c))
def Wz(K:Ox)(a:Addr):It :=
 ⟨λi H=>∃c x,Zd K H a c/\c[i]? = some x,λi H x f=>f=H/\∀c,Zd K H a c->c[i]? = some x,λi H=>∃c,Zd K H a c/\c.length<=i⟩
def LR(K:Ox)(a:Addr):It :=
 ⟨λi H=>∃c x,Zp K H a c/\c[i]? = some x,λi H x f=>f=H/\∀c,Zp K H a c->c[i]? = some x,λi H=>∃c,Zp K H a c/\c.length<=i⟩
def UL(lo:Int)(n:Nat):It:=⟨λi _=>i<n,λi H x c=>c=H/\x=.int (lo+i),λi _=>n<=i⟩
def Zh9{tg:Expr}(a it:Addr):UK P w K tg (Wz K a) [it] it (λi h=>h.IsListIter it a i) where
 mem:=by simp
 obj:=λi h st b f=>by
  have e:b=it:=by simpa using f
  subst e;ext⟨o,e,c,d⟩ st;exact⟨o,e,λc0 z=>by rw[d]at z;cases z⟩
 keep:=λi h n st k=>st.at λo e=>k it (by simp) o e
 item:=by
  intro X J M v T i pins s Q H a0 I j st C;subst J M v;ext⟨U,x,g,D⟩ C;obtain⟨b0,G,p,hz⟩:=I.list g;obtain⟨u,hu,ru⟩:=G.get D;obtain⟨E,O,Y,B,L,y⟩:=j it (by simp);erw[wpAny_pyNext_list_item st p.isList (x:=u) (by simpa using hu) λn S sb=>?_];have I1:Za X pins Q H {s with heap:=n}:=I.turned (t':=s.toks) (λb o f e=>(sb.2 b f).trans e) E O B L y;obtain⟨o,e,c,d⟩:=id S;exact⟨u,R,LQ (s:={s with heap:=n}) e c d () ⟨x,H,I1,ru,⟨R,λys hy=>by rwa[I.list_inj hy g]⟩,S,λb f=>(j b f).1⟩⟩
 done:=by
  intro X J M v T i pins s Q H a0 I j st C;subst J M v;ext⟨U,g,D⟩ C;obtain⟨b0,G,p,hz⟩:=I.list g;obtain⟨E,O,Y,B,L,y⟩:=j it (by simp);have hl:=G.length;exact wpAny_pyNext_list_end (I.ok.hd T) st p.isList (by simp;lia) λn Z=>⟨R,I.turned (t':=s.toks) (λb o f e=>Z b o f e) E O B L y⟩
 self:=λ_ _ _ _ _ st h=>wpAny_pyIter_listiter st h
def Zia{tg:Expr}(a it:Addr):UK P w K tg (LR K a) [it] it (λi h=>h.IsTupleIter it a i) where
 mem:=by simp
 obj:=λi h st b f=>by
  have e:b=it:=by simpa using f
  subst e;ext⟨o,e,c,d⟩ st;exact⟨o,e,λb0 z=>by rw[d]at z;cases z⟩
 keep:=λi h n st k=>st.at λo e=>k it (by simp) o e
 item:=by
  intro X L O v U i pins s S H a0 I j st C;subst L O v;ext⟨Y,x,g,D⟩ C;obtain⟨J,G,p,hz⟩:=I.tuple g;obtain⟨u,hu,ru⟩:=G.get D;obtain⟨E,Q,Z,B,M,y⟩:=j it (by simp);erw[wpAny_pyNext_tuple_item st (show s.heap.IsTuple a J.toArray from p) (x:=u) (by simpa using hu) λn T sb=>?_];have I1:Za X pins S H {s with heap:=n}:=I.turned (t':=s.toks) (λb o f e=>(sb.2 b f).trans e) E Q B M y;obtain⟨o,e,c,d⟩:=id T;exact⟨u,R,LQ (s:={s with heap:=n}) e c d () ⟨x,H,I1,ru,⟨R,λys hy=>by rwa[I.tuple_inj hy g]⟩,T,λb f=>(j b f).1⟩⟩
 done:=by
  intro X L O v U i pins s S H a0 I j st C;subst L O v;ext⟨Y,g,D⟩ C;obtain⟨J,G,p,hz⟩:=I.tuple g;obtain⟨E,Q,Z,B,M,y⟩:=j it (by simp);have hl:=G.length;exact wpAny_pyNext_tuple_end (I.ok.hd U) st (show s.heap.IsTuple a J.toArray from p) (by simp;lia) λn eb=>⟨R,I.turned (t':=s.toks) (λb o f e=>eb b o f e) E Q B M y⟩
 self:=λ_ _ _ _ _ st h=>wpAny_pyIter_tupleiter st h
def Zib{T:Expr}(it:Addr)(lo:Int)(n:Nat):UK P w K T (UL lo n) [it] it (λi h=>IsRangeIter h it (lo+(i:Nat)*1) ((n:Int) - (i:Nat)) 1) where
 mem:=by simp
 obj:=λi h st b c=>by
  have e:b=it:=by simpa using c
  subst e;exact⟨_,st,λv z=>by
   have z':Data.fields _=Data.cell v:=z;cases z'⟩
 keep:=λi h g st k=>k it (by simp) _ st
 item:=by
  intro X D J j B i pins s M H E I f st y;subst D J j;obtain⟨C,L,Q,x,G,u⟩:=f it (by simp);have W:=Walks.range (prog:=X.prog) (w:=X.w) (I.ok.hd B) it lo 1 n;erw[W.item i s _ _ y st λv g tk U O Y=>?_];ext⟨t,rfl⟩ U;have Z:Za X pins M H {s with heap:=g,toks:=tk}:=I.turned (λb o c e=>Y b o (by simpa using c) e) C L x G u;erw[⟨_,R,LQ (s:={s with heap:=g,toks:=tk}) (n := "range_iterator") O R R () ⟨.int (lo+i),H,Z,⟨t,?_⟩,⟨R,R⟩,O,λb c=>(f b c).1⟩⟩];rw[Int.mul_one]
 done:=by
  intro X D J j B i pins s M H E I f st y;subst D J j;obtain⟨C,L,Q,x,G,u⟩:=f it (by simp);exact wpAny_pyNext_range_end (I.ok.hd B) st (by have:n<=i:=y;lia) λg S=>⟨R,I.turned (t':=s.toks) (λb o c e=>S b o c e) C L x G u⟩
 self:=λ_ _ _ _ _ st h=>wpAny_pyIter_rangeiter st h
section
variable{tg:Expr}
inductive Zic(K:Ox)(R:It->Hp->Prop)(x:V)(H1:Hp):Prop|mk a (_:x=.ref a) (_:(∃xs,Zd K H1 a xs)) (_:R (Wz K a) H1)
def Zid(K:Ox)(h:TE):TI:=λf H c=>h f H λx g=>Zic K c x g
inductive Zie(K:Ox)(R:It->Hp->Prop)(x:V)(H1:Hp):Prop|mk a (_:x=.ref a) (_:(∃xs,Zp K H1 a xs)) (_:R (LR K a) H1)
def Zif(K:Ox)(h:TE):TI:=λf H c=>h f H λx g=>Zie K c x g
def Xl{l:Expr}{g:TE}(B:PE X l g):PI X tg l (Zid X.K g):=by
 intro pins s j H D I h;erw[Zy (B pins s j H _ I h) λv f ⟨x,u,c,r1,y⟩=>?_];ext⟨a,e,⟨C,n⟩,q⟩ y;subst e;cases r1;obtain⟨J,G,p,E⟩:=c.list n;erw[wpAny_pyIter_list p.isList ?_];erw[⟨f.heap.objs.size,[f.heap.objs.size],_,_,u,R,c.kept (t':=f.toks) λb o e=>Sc _ e,Zh9 a _,⟨_,Sd _ R,R,R⟩,λb i=>?_,q⟩];have e:b=f.heap.objs.size:=by simpa using i
 subst e;exact c.fpOk (Sg _) (c.hok.fresh (Sg _))
def Zig{l:Expr}{g:TE}(C:PE X l g):PI X tg l (Zif X.K g):=by
 intro pins s j H E I h;erw[Zy (C pins s j H _ I h) λv c ⟨x,u,f,r1,y⟩=>?_];ext⟨a,e,⟨D,n⟩,q⟩ y;subst e;cases r1;obtain⟨B,J,p,G⟩:=f.tuple n;erw[wpAny_pyIter_tuple (show c.heap.IsTuple a B.toArray from p) ?_];erw[⟨c.heap.objs.size,[c.heap.objs.size],_,_,u,R,f.kept (t':=c.toks) λb o e=>Sc _ e,Zia a _,⟨_,Sd _ R,R,R⟩,λb i=>?_,q⟩];have e:b=c.heap.objs.size:=by simpa using i
 subst e;exact f.fpOk (Sg _) (f.hok.fresh (Sg _))
def ZaR{c:St}{R:It->Hp->Prop}{lo hi:Int}{t u v:Tok}{tk:Nat}(I:Za X pins c H s)(h1:-(2 ^ 62)<=lo)(x:lo<2 ^ 62)(n:-(2 ^ 62)<=hi)(i:hi<2 ^ 62)
  (q:R (UL lo (hi - lo).toNat) H):wpAny (model X.prog X.w) X.A (pyIter (.ref s.heap.objs.size)) (PIE X pins c tg R) E {s with heap:=s.heap.push {cls:=.type "range",data:=.fields #[.int lo t,.int hi u,.int 1 v]},toks:=tk}:=by
 erw[wpAny_pyIter_range (IsRange.new ..) (small_one h1 x n i) ?_];have f:Za X pins c H {s with heap:=s.heap.push {cls:=.type "range",data:=.fields #[.int lo t,.int hi u,.int 1 v]},toks:=tk}:=I.kept λb o e=>Sc _ e;refine⟨(s.heap.push {cls:=.type "range",data:=.fields #[.int lo t,.int hi u,.int 1 v]}).objs.size,[(s.heap.push {cls:=.type "range",data:=.fields #[.int lo t,.int hi u,.int 1 v]}).objs.size],_,_,H,rfl,
  f.kept (t':=tk) λb o e=>Sc _ e,Zib _ lo (hi - lo).toNat,?_,λb g=>?_,q⟩
 have j:lo+((0:Nat):Int)*1=lo:=by simp
 have h:(((hi - lo).toNat:Nat):Int) - ((0:Nat):Int)=Builtin.Range.rangeSize lo hi 1:=by rw[rangeSize_one];split<;>omega
 show IsRangeIter _ _ (lo+((0:Nat):Int)*1) ((((hi - lo).toNat:Nat):Int) - ((0:Nat):Int)) 1;rw[j,h];exact Sd _ rfl;have e:b=(s.heap.push {cls:=.type "range",data:=.fields #[.int lo t,.int hi u,.int 1 v]}).objs.size:=by simpa using g
 subst e;exact f.fpOk (Sg _) (f.hok.fresh (Sg _))
inductive Zih(R:It->Hp->Prop)(vs:List V)(H1:Hp):Prop|mk (j:Int) (_:vs=[.int j]) (_:-(2 ^ 62)<=j) (_:j<2 ^ 62) (_:R (UL 0 j.toNat) H1)
def Zii(g:TA):TI:=λh H f=>g h H λc i=>Zih f c i
inductive Zij(R:It->Hp->Prop)(vs:List V)(H1:Hp):Prop|mk (i j:Int) (_:vs=[.int i,.int j]) (_:(-(2 ^ 62)<=i/\i<2 ^ 62/\-(2 ^ 62)<=j/\j<2 ^ 62)) (_:R (UL i (j - i).toNat) H1)
def Zik(g:TA):TI:=λh H f=>g h H λc i=>Zij f c i
def Qg{a:Expr}{f:TA}{p g:Pos}(x:Gl X "range") (hm:X.mg "range"=none) (ha:PA X [a] f) (v:starEach [a] X.env=[(false,eval a X.env)]:=by rfl):PI X tg (.Call (.Name "range" p) [a] [] g) (Zii f):=by
 intro pins s n H D I h;erw[Call_ (VH I x hm boot_range (PyProof.Rows.callWith_type1 (Zy (ha g pins s n H _ I h) λC E ⟨B,G,y,r1,c⟩=>?_) v R))];ext⟨j,e,c,i,q⟩ c;subst e;cases r1 with
 |cons r u =>
  cases u;ext⟨t,rfl⟩ r;exact call_range_1 (ZaR y () () c i (by simpa using q))
def Zil(B:Gl X "range") (hm:X.mg "range"=none) (ha:PA X [a,b] n) (y:starEach [a,b] X.env=[(false,eval a X.env),(false,eval b X.env)]:=by rfl) (g:starEach [b] X.env=[(false,eval b X.env)]:=by rfl) :
  PI X tg (.Call (.Name "range" p) [a,b] [] u) (Zik n):=by
 intro pins s v H M I h;erw[Call_ (VH I B hm boot_range (PyProof.Rows.callWith_type1 (Zy (ha u pins s v H _ I h) λP Q ⟨L,O,D,r1,c⟩=>?_) (by rw[y,g]) (by rw[g];rfl)))];ext⟨i,j,e,⟨c,C,E,x⟩,q⟩ c;subst e;cases r1 with
 |cons r f =>
  cases f with
  |cons G f =>
   cases f;ext⟨t,rfl⟩ r;ext⟨J,rfl⟩ G;exact call_range_2 (ZaR D c C E x q)
def ZaS(u:TI)(g:TG)(n:TS):TS:=λD c H=>u c H λJ B=>∃W:Nat->Nat->St->Hp->Prop,(∃m,W 0 m c B)/\∀i m c H,W i m c H ->
 (J.stop i H/\D.nx c H)\/(J.go i H/\∃N:St->Hp->Prop,(∀h f,N h f->∃j,j<m/\W (i+1) j h f)/\∀x f,J.yld i H x f->g x c f λv y=>n {D with nx:=N,ct:=N,bk:=D.nx} v y)
def Q5(fp:OH)(h:Heap):List (Addr×Obj):=fp.filterMap λb=>(h.get? b).map λo=>(b,o)
def NK{h:Heap}(c:b∈fp)(e:h.get? b=some o):(b,o)∈Q5 fp h:=List.mem_filterMap.mpr ⟨b,c,by rw[e];rfl⟩
def Zim{h:Heap}{p:Addr×Obj}(g:p∈Q5 fp h):p.1∈fp/\h.get? p.1=some p.2:=by
 obtain⟨b,c,e⟩:=List.mem_filterMap.mp g;cases q:h.get? b with
 |none=>rw[q]at e;cases e
 |some o =>
  rw[q]at e;have f:(b,o)=p:=So e;subst f;exact⟨c,q⟩
def Za.pinned(I:Za X pins g H s)(j:∀b∈fp,Vy X pins H b)(i:∀b∈fp,∃o,s.heap.get? b=some o/\∀v,o.data≠.cell v):Za X (pins++Q5 fp s.heap) g H s :=
 I.pins_of λp x=>(SG.mp x).elim (λz=>I.pin p (SH _ z)) λz=>by
  obtain⟨c,e⟩:=Zim z;obtain⟨h,u,n,_⟩:=j p.1 c;obtain⟨o,f,d⟩:=i p.1 c;rw[e]at f;cases f;exact⟨e,h,u,n,d⟩
def Za.unpinned(I:Za X (pins++pl) c H s):Za X pins c H s:=I.pins_of λp f=>I.pin p (SH _ (SI _ f))
def NL{iter:Expr}{body:List Stmt}{P:TI}(D:PassesOwn (model X.prog X.w) X.A X.env X.xe)(U:X.calm=true)(hi:PI X tg iter P)(hg:PG X tg g)(c:XO X body S)
  (hs:∀x,foldedSetIterable iter X.env x=pure x:=by intro _;rfl):PS X (.For tg iter body [] g0) (ZaS P g S):=by
 intro pins s M l0 o0 f0 e0;erw[wpAny_For (Zy (hi pins s M l0 _ f0 e0) λi0 s1 h1=>Zy h1 λp0 s2 h2=>?_) hs];ext⟨it,fp,tn,n0,H2,e,I2,T,c0,L,W,⟨m0,w0⟩,turn⟩ h2;subst e
 -- what stays true of the iterator's objects through the loop
 have H:∀{u:Hp},(∀b∈fp,u b=none)->∀b∈fp,Vy X pins u b:=λhn b c=>⟨hn b c,(L b c).2⟩;erw[codeAny_forLoop_any (λn Y=>∃i C u,Za X pins C u Y/\tn i Y.heap/\(∀b∈fp,u b=none)/\W i n C u) ?_ m0 ⟨0,M,H2,I2,c0,λb c=>(L b c).1,w0⟩];rintro n Z ⟨i,y,E,O,Q,a0,w3⟩;rcases turn i n y E w3 with⟨stop,qn⟩|⟨go,N,hN,step⟩;erw[wpAny_passesOwn D (Zy (T.done X R R R U i pins Z y E X.xe O (H a0) Q stop) λr s4 ⟨I,I4⟩=>?_)];subst I;exact wpAny_execs_nil ⟨y,E,I4,qn⟩;erw[wpAny_passesOwn D (Zy (T.item X R R R U i pins Z y E X.xe O (H a0) Q go) λr s4 ⟨k0,I,h4⟩=>?_)];subst I;erw[wpAny_passesOwn D (Zy h4 λ_ s5 ⟨x,H5,I5,r5,y5,G,j0⟩=>?_)];have b0:=I5.pinned (H j0) (T.obj _ _ G);erw[wpAny_passesOwn D (Zy (hg _ s5 y H5 x k0 _ b0 r5 (step x H5 y5)) λ_ s6 ⟨h0,H6,I6,q6⟩=>?_)];erw[wpAny_passesOwn D (Zy (c _ s6 h0 H6 _ I6 q6) λd0 J v=>?_)];have again:∀{j:St} {f:Hp},Za X (pins++Q5 fp s5.heap) j f J->N j f->∃m,m<n/\∃i C u,Za X pins C u J/\tn i J.heap/\(∀b∈fp,u b=none)/\W i m C u:=λ{j f} h B=>by
  obtain⟨m',hm,w7⟩:=hN j f B;erw[⟨m',hm,i+1,j,f,h.unpinned,T.keep _ _ _ G λb c o e=>(h.pin (b,o) (SH _ (SH _ (NK c e)))).1,λb c=>?_,w7⟩];obtain⟨o,e,d⟩:=T.obj _ _ G b c;exact(h.pin (b,o) (SH _ (SH _ (NK c e)))).2.1
 cases d0 with
 |next=>ext⟨j,f,h,B⟩ v;exact again h B
 |cont=>ext⟨j,f,h,B⟩ v;exact again h B
 |brk=>ext⟨j,f,h,v⟩ v;exact⟨j,f,h.unpinned,v⟩
 |ret i0=>ext⟨x7,j,f,h,r7,v⟩ v;exact⟨x7,j,f,h.unpinned,r7,v⟩
end
def LS{a:Addr}{xs:List V}{g:TG}{v:TS}{D:WL}{c:St}(f:Nat->St->Hp->Prop)(E:f 0 c H)(I:∀i c H,i<=xs.length->f i c H->Zd K H a xs)
  (G:∀i x c H,xs[i]? = some x->f i c H->g x c H λj u=>v {D with nx:=f (i+1),ct:=f (i+1),bk:=D.nx} j u) (hd:∀c H,f xs.length c H->D.nx c H) :
  ∃W:Nat->Nat->St->Hp->Prop,(∃m,W 0 m c H)/\∀i m c H,W i m c H ->
   ((Wz K a).stop i H/\D.nx c H)\/((Wz K a).go i H/\∃N:St->Hp->Prop,(∀n h,N n h->∃C,C<m/\W (i+1) C n h)/\∀x h,(Wz K a).yld i H x h->g x c h λj u=>v {D with nx:=N,ct:=N,bk:=D.nx} j u):=by
 erw[⟨λi m c H=>m=xs.length - i/\i<=xs.length/\f i c H,⟨xs.length,by simp,Sk _,E⟩,?_⟩];rintro i m c H ⟨rfl,J,p⟩;have q:=I i c H J p;by_cases B:i<xs.length;erw[.inr ⟨⟨xs,xs[i],q,by simp[B]⟩,f (i+1),λn h L=>⟨xs.length - (i+1),(),R,B,L⟩,λx h y=>?_⟩];ext⟨e,y⟩ y;subst e;exact G i x c _ (y xs q) p;have e:i=xs.length:=by lia
 subst e;exact .inl ⟨⟨xs,q,Sg _⟩,hd c H p⟩
def E6{lo:Int}{n:Nat}{g:TG}{C:TS}{D:WL}{c:St}(f:Nat->St->Hp->Prop)(G:f 0 c H)
  (I:∀i c H,i<n->f i c H->g (.int (lo+i)) c H λj B=>C {D with nx:=f (i+1),ct:=f (i+1),bk:=D.nx} j B) (hd:∀c H,f n c H->D.nx c H) :
  ∃W:Nat->Nat->St->Hp->Prop,(∃m,W 0 m c H)/\∀i m c H,W i m c H ->
   ((UL lo n).stop i H/\D.nx c H)\/((UL lo n).go i H/\∃N:St->Hp->Prop,(∀v h,N v h->∃E,E<m/\W (i+1) E v h)/\∀x h,(UL lo n).yld i H x h->g x c h λj B=>C {D with nx:=N,ct:=N,bk:=D.nx} j B):=by
 erw[⟨λi m c H=>m=n - i/\i<=n/\f i c H,⟨n,by simp,Sk _,G⟩,?_⟩];rintro i m c H ⟨rfl,L,p⟩;by_cases u:i<n;erw[.inr ⟨u,f (i+1),λv h J=>⟨n - (i+1),(),R,u,J⟩,λx h y=>?_⟩];ext⟨e,y⟩ y;subst e y;exact I i c _ u p;have e:i=n:=by lia
 subst e;exact .inl ⟨Sg _,hd c H p⟩
abbrev R2:=V->V->Hp->VK->Prop
def YH(X:Cx)(f:Value->Value->Sem Value)(r:R2):Prop :=
 ∀(pins:Ov) (s:Shared) (σ:St) (H:Hp) (x y:V) (v u:Value) (Q:VK),Za X pins σ H s->ZQ x v->ZQ y u->r x y H Q ->
  wpAny (model X.prog X.w) X.A (f v u) (EP X pins σ Q) X.xe s
def YN(X:Cx)(f:Value)(r:List V->Hp->VK->Prop):Prop :=
 ∀(pins:Ov) (s:Shared) (σ:St) (H:Hp) (xs:List V) (us:OB) (Q:VK),Za X pins σ H s->ZC xs us->r xs H Q ->
  wpAny (model X.prog X.w) X.A (call f us) (EP X pins σ Q) X.xe s
def Zin(X:Cx)(r:V->Hp->(Bool->Hp->Prop)->Prop):Prop :=
 ∀(pins:Ov) (s:Shared) (σ:St) (H:Hp) (x:V) (v:Value) (Q:Bool->Hp->Prop),Za X pins σ H s->ZQ x v->r x H Q ->
  wpAny (model X.prog X.w) X.A (truthy v) (TP X pins σ Q) X.xe s
def Vz(r:R2)(g f:TE):TE:=λc H Q=>g c H λx i=>f c i λy h=>r x y h Q
inductive rI(C:Int->Int->Prop)(g:Int->Int->V)(x:V)(y:V)(H:Hp)(Q:VK):Prop|mk i j (_:x=.int i) (_:y=.int j) (_:C i j) (_:Q (g i j) H)
inductive Qh(g:Int->Int->V)(x:V)(y:V)(H:Hp)(Q:VK):Prop|mk i j (_:x=.int i) (_:y=.int j) (_:Q (g i j) H)
section
variable{a b c:Expr}{ta tb tc:TE}
def R1(ha:PE X a ta)(D:PE X b tb){i:St}{R:V->V->Hp->Prop}(I:Za X pins i H s)
  (h:ta i H λx j=>tb i j λy g=>R x y g) {Q:Ou} {f:Value->Value->Sem Value}
  (E:∀v u s2 x y g,Za X pins i g s2->ZQ x v->ZQ y u->R x y g->wpAny (model X.prog X.w) X.A (f v u) Q X.xe s2) :
  wpAny (model X.prog X.w) X.A (eval a X.env) (λv n=>wpAny (model X.prog X.w) X.A (eval b X.env) (λu M=>wpAny (model X.prog X.w) X.A (f v u) Q X.xe M) X.xe n) X.xe s:=by
 erw[Zy (ha pins s i H _ I h) λv G ⟨x,j,O,r1,L⟩=>?_];erw[Zy (D pins G i j _ O L) λu s2 ⟨y,g,B,J,C⟩=>?_];exact E v u s2 x y g B r1 J C
def Zg{f:Operator}{r:R2}(j:YH X (binaryOp f) r)(ha:PE X a ta)(i:PE X b tb):PE X (.BinOp a f b pos) (Vz r ta tb):=by
 intro pins s D H Q I h;exact wpAny_BinOp (R1 ha i I h λv u s2 x y C g B n q=>j pins s2 D C x y v u Q g B n q)
def LU{f:Value->Value->Sem Value}{C:Int->Int->Prop}{g:Int->Int->Int}
  (rule:∀(i j:Int) (t u:Tok) (s:Shared) (Q:Ou) (E:Ou),C i j->Q (.int (g i j) s.toks) {s with toks:=s.toks+1}->wpAny (model X.prog X.w) X.A (f (.int i t) (.int j u)) Q E s) :
  YH X f (rI C λi j=>.int (g i j)):=by
 intro pins s J H x y v u Q I D B h;ext⟨i,j,rfl,rfl,n,q⟩ h;ext⟨t,rfl⟩ D;ext⟨G,rfl⟩ B;exact rule i j t G s _ _ n ⟨.int (g i j),H,I.tok _,⟨_,R⟩,q⟩
def R4{f:Value->Value->Sem Value}{g:Int->Int->Int}
  (rule:∀(i j:Int) (t u:Tok) (s:Shared) (Q:Ou) (E:Ou),Q (.int (g i j) s.toks) {s with toks:=s.toks+1}->wpAny (model X.prog X.w) X.A (f (.int i t) (.int j u)) Q E s) :
  YH X f (Qh λi j=>.int (g i j)):=by
 intro pins s D H x y v u Q I B n h;ext⟨i,j,rfl,rfl,q⟩ h;ext⟨t,rfl⟩ B;ext⟨C,rfl⟩ n;exact rule i j t C s _ _ ⟨.int (g i j),H,I.tok _,⟨_,R⟩,q⟩
def NM{f:Value->Value->Sem Value}{g:Int->Int->Bool}
  (rule:∀(i j:Int) (t u:Tok) (s:Shared) (Q:Ou) (E:Ou),Q (.bool (g i j)) s->wpAny (model X.prog X.w) X.A (f (.int i t) (.int j u)) Q E s) :
  YH X f (Qh λi j=>.bl (g i j)):=by
 intro pins s D H x y v u Q I B n h;ext⟨i,j,rfl,rfl,q⟩ h;ext⟨t,rfl⟩ B;ext⟨C,rfl⟩ n;exact rule i j t C s _ _ ⟨.bl (g i j),H,I,R,q⟩
def Zio(i j:Int):Prop:=0<j/\j<1073741824
def Zip(i j:Int):Prop:=0<=j/\j<=1000000/\i.natAbs<2 ^ 64
def NN(i j:Int):Prop:=(-(2 ^ 64)<i/\i<2 ^ 64)\/(-(2 ^ 64)<j/\j<2 ^ 64)
def NN.ok(h:NN i j):IntMulOk i j:=by
 rcases h with⟨g,f⟩|⟨g,f⟩;exact .of_left (intBits_le_64 g f);exact .of_right (intBits_le_64 g f)
def Ziq(k:Nat):(0:Int)<=2 ^ k:=by
 rw[two_pow_cast];exact Int.natCast_nonneg _
def Yr:YH X (binaryOp .Add) (Qh λi j=>.int (i+j)):=R4 λ_ _ _ _ _ _ _ q=>add_int q
def VI:YH X (binaryOp .Sub) (Qh λi j=>.int (i - j)):=R4 λ_ _ _ _ _ _ _ q=>sub_int q
def QA:YH X (binaryOp .Mult) (rI NN λi j=>.int (i*j)):=LU λ_ _ _ _ _ _ _ f q=>mul_int q f.ok
def YO:YH X (binaryOp .FloorDiv) (rI Zio λi j=>.int (i/j)):=LU λi j _ _ _ _ _ f q=>by
 have h:(0:Int)<j:=f.1;have g:j<1073741824:=f.2;exact floordiv_int () (by rwa[Int.fdiv_eq_ediv_of_nonneg i ()]) (.inl (PyProof.noPylong_small ()))
def ZY:YH X (binaryOp .Mod) (rI (λ_ j=>0<j) λi j=>.int (i%j)):=LU λi j _ _ _ _ _ f q=>by
 have g:(0:Int)<j:=f;exact mod_int' () (by rwa[Int.fmod_eq_emod_of_nonneg i ()])
def ZaT:YH X (binaryOp .LShift) (rI Zip λi j=>.int (i*2 ^ j.toNat)):=LU λ_ _ _ _ _ _ _ f q=>lshift_int_small f.1 f.2.1 f.2.2 q
def Zir:YH X (binaryOp .RShift) (rI (λ_ j=>0<=j) λi j=>.int (i/2 ^ j.toNat)):=LU λi j _ _ _ _ _ f q =>
 rshift_int f (by rwa[Int.fdiv_eq_ediv_of_nonneg i (Ziq _)])
def Zis:YH X (binaryOp .BitAnd) (Qh λi j=>.int (Builtin.bitAnd i j)):=R4 λ_ _ _ _ _ _ _ q=>and_int q
end
def R6:V->V->Bool
 |.non,.non=>true|.non,.int _=>true|.int _,.non=>true|.non,.bl _=>true|.bl _,.non=>true|.non,.str _=>true|.str _,.non=>true
 |.int _,.int _=>true|.bl _,.bl _=>true|.str _,.str _=>true|.byt _,.byt _=>true
 |.int _,.str _=>true|.str _,.int _=>true|.bl _,.str _=>true|.str _,.bl _=>true
 |_,_=>false
def rEq:R2:=λx y H Q=>R6 x y=true/\Q (.bl (decide (x=y))) H
def rNe:R2:=λx y H Q=>R6 x y=true/\Q (.bl (!decide (x=y))) H
def Ua:decide (V.int i=V.int j)=(i==j):=by
 rw[Bool.eq_iff_iff];simp
def R7:decide (V.bl i=V.bl j)=(i==j):=by
 rw[Bool.eq_iff_iff];simp
def ZaU:decide (V.str i=V.str j)=(i==j):=by
 rw[Bool.eq_iff_iff];simp
def ZaV{i j:Array UInt8}:decide (V.byt i=V.byt j)=(i.toList==j.toList):=by
 rw[Bool.eq_iff_iff];cases i;cases j;simp
section
variable{a b c:Expr}{ta tb tc:TE}
def YW(I:Za X pins g H s)(q:Q (.bl k) H)(e:k=f):EP X pins g Q (.bool f) s:=by
 subst e;exact⟨.bl k,H,I,R,q⟩
def Yn:YH X (compareOp .Eq) rEq:=by
 intro pins s C H x y v u Q I B f h;ext⟨n,q⟩ h;cases x with
 |non =>
  cases B;cases y with
  |non=>cases f;exact PySem.EqNone.eq_none_none (YW I q (by simp))
  |bl j=>cases f;exact PySem.EqNone.eq_none_bool (YW I q (by simp))
  |int j=>ext⟨g,rfl⟩ f;exact PySem.EqNone.eq_none_int (YW I q (by simp))
  |str j=>ext⟨g,rfl⟩ f;exact PySem.EqNone.eq_none_str (YW I q (by simp))
  |_=>exact Os (show false=true from n) SO
 |bl i =>
  cases B;cases y with
  |non=>cases f;exact PySem.EqNone.eq_bool_none (YW I q (by simp))
  |bl j=>cases f;exact eq_bool (YW I q R7)
  |str j=>ext⟨g,rfl⟩ f;exact PySem.EqMixed.eq_bool_str (YW I q (by simp))
  |_=>exact Os (show false=true from n) SO
 |int i =>
  ext⟨t,rfl⟩ B;cases y with
  |non=>cases f;exact PySem.EqNone.eq_int_none (YW I q (by simp))
  |int j=>ext⟨g,rfl⟩ f;exact eq_int (YW I q Ua)
  |str j=>ext⟨g,rfl⟩ f;exact PySem.EqMixed.eq_int_str (YW I q (by simp))
  |_=>exact Os (show false=true from n) SO
 |str i =>
  ext⟨t,rfl⟩ B;cases y with
  |non=>cases f;exact PySem.EqNone.eq_str_none (YW I q (by simp))
  |bl j=>cases f;exact PySem.EqMixed.eq_str_bool (YW I q (by simp))
  |int j=>ext⟨g,rfl⟩ f;exact PySem.EqMixed.eq_str_int (YW I q (by simp))
  |str j=>ext⟨g,rfl⟩ f;exact eq_str (YW I q ZaU)
  |_=>exact Os (show false=true from n) SO
 |byt i =>
  ext⟨t,rfl⟩ B;cases y with
  |byt j=>ext⟨g,rfl⟩ f;exact W.eq_bytes (YW I q ZaV)
  |_=>exact Os (show false=true from n) SO
 |_=>cases y<;>exact Os (show false=true from n) SO
def Q6:YH X (compareOp .NotEq) rNe:=by
 intro pins s C H x y v u Q I B f h;ext⟨n,q⟩ h;cases x with
 |non =>
  cases B;cases y with
  |non=>cases f;exact PySem.EqNone.ne_none_none (YW I q (by simp))
  |bl j=>cases f;exact PySem.EqNone.ne_none_bool (YW I q (by simp))
  |int j=>ext⟨g,rfl⟩ f;exact PySem.EqNone.ne_none_int (YW I q (by simp))
  |str j=>ext⟨g,rfl⟩ f;exact PySem.EqNone.ne_none_str (YW I q (by simp))
  |_=>exact Os (show false=true from n) SO
 |bl i =>
  cases B;cases y with
  |non=>cases f;exact PySem.EqNone.ne_bool_none (YW I q (by simp))
  |bl j=>cases f;exact ne_bool (YW I q (congrArg not R7))
  |str j=>ext⟨g,rfl⟩ f;exact PySem.EqMixed.ne_bool_str (YW I q (by simp))
  |_=>exact Os (show false=true from n) SO
 |int i =>
  ext⟨t,rfl⟩ B;cases y with
  |non=>cases f;exact PySem.EqNone.ne_int_none (YW I q (by simp))
  |int j=>ext⟨g,rfl⟩ f;exact ne_int (YW I q (congrArg not Ua))
  |str j=>ext⟨g,rfl⟩ f;exact PySem.EqMixed.ne_int_str (YW I q (by simp))
  |_=>exact Os (show false=true from n) SO
 |str i =>
  ext⟨t,rfl⟩ B;cases y with
  |non=>cases f;exact PySem.EqNone.ne_str_none (YW I q (by simp))
  |bl j=>cases f;exact PySem.EqMixed.ne_str_bool (YW I q (by simp))
  |int j=>ext⟨g,rfl⟩ f;exact PySem.EqMixed.ne_str_int (YW I q (by simp))
  |str j=>ext⟨g,rfl⟩ f;exact ne_str (YW I q (congrArg not ZaU))
  |_=>exact Os (show false=true from n) SO
 |byt i =>
  ext⟨t,rfl⟩ B;cases y with
  |byt j=>ext⟨g,rfl⟩ f;exact W.ne_bytes (YW I q (congrArg not ZaV))
  |_=>exact Os (show false=true from n) SO
 |_=>cases y<;>exact Os (show false=true from n) SO
def R8:YH X (compareOp .Lt) (Qh λi j=>.bl (decide (i<j))):=NM λ_ _ _ _ _ _ _ q=>lt_int q
def VJ:YH X (compareOp .LtE) (Qh λi j=>.bl (decide (i<=j))):=NM λ_ _ _ _ _ _ _ q=>le_int q
def Qi:YH X (compareOp .Gt) (Qh λi j=>.bl (decide (j<i))):=NM λ_ _ _ _ _ _ _ q=>gt_int q
def NO:YH X (compareOp .GtE) (Qh λi j=>.bl (decide (j<=i))):=NM λ_ _ _ _ _ _ _ q=>ge_int q
def XQ(b:Expr)(h:f≠.In:=by lia)(g:f≠.NotIn:=by lia):behindInMarks f b=false:=by
 have i:(f==CmpOp.In)=false:=by cases f<;>first|rfl|exact Os R h
 have j:(f==CmpOp.NotIn)=false:=by cases f<;>first|rfl|exact Os R g
 cases b<;>simp[behindInMarks,i,j]
def XA(j:YH X (compareOp f) r)(ha:PE X a ta)(i:PE X b tb)(hm:behindInMarks f b=false):PE X (.Compare a [f] [b] pos) (Vz r ta tb):=by
 intro pins s D H Q I h;exact wpAny_Compare1 (R1 ha i I h λv u s2 x y C g B n q=>j pins s2 D C x y v u Q g B n q) hm
inductive Zit(Q:Bool->Hp->Prop)(x:V)(H':Hp):Prop|mk k (_:x=.bl k) (_:Q k H')
def R9(t:TE):TT:=λg H Q=>t g H λx f=>Zit Q x f
def LV(B:YH X (compareOp g) r)(ha:PE X a ta)(i:PE X b tb)(hm:behindInMarks g b=false):PT X (.Compare a [g] [b] pos) (R9 (Vz r ta tb)):=by
 intro pins s f H Q I h;refine wpAny_isTrue_Compare1 (Zy (ha pins s f H _ I h) λv P ⟨x,J,M,r1,L⟩=>Zy (i pins P f J _ M L) λu s2 ⟨y,G,E,j,D⟩ =>
  Zy (B pins s2 f G x y v u _ E r1 j D) λc S ⟨z,C,n,r3,k,e,O⟩=>?_) hm
 subst e;cases r3;exact wpAny_truthy_bool ⟨C,n,O⟩
inductive Ziu(r':R2)(tc:TE)(σ:St)(Q:VK)(y:V)(z:V)(H3:Hp):Prop|mk k (_:z=.bl k) (_:(if k=true then tc σ H3 λw' H4=>r' y w' H4 Q else Q (.bl false) H3))
def ZaW(r g:R2)(ta tb tc:TE):TE:=λf H Q=>ta f H λx j=>tb f j λy i=>r x y i λz h=>Ziu g tc f Q y z h
def ZaX(L:YH X (compareOp g) r)(Q:YH X (compareOp i) C)(ha:PE X a ta)(D:PE X b tb)(S:PE X c tc)
  (hm:lastMarks [g,i] [b,c]=false:=by with_unfolding_all rfl):PE X (.Compare a [g,i] [b,c] pos) (ZaW r C ta tb tc):=by
 intro pins s f c0 b0 I h;refine Compare_chain (Zy (ha pins s f c0 _ I h) λa0 s1 ⟨x,Y,I1,r1,q1⟩=>chain_link (Zy (D pins s1 f Y _ I1 q1) λu s2 ⟨y,T,P,j,O⟩ =>
  Zy (L pins s2 f T x y a0 u _ P r1 j O) λd U ⟨z,v,n,r3,k,e,B⟩=>?_)) hm
 subst e;cases r3;erw[wpAny_truthy_bool ?_];cases k with
 |false=>exact ite_ff ⟨.bl false,v,n,R,B⟩
 |true=>exact ite_tt (chain_last (Zy (S pins U f v _ n B) λG M ⟨z',H,E,Z,J⟩=>Q pins M f H y z' u G b0 E j Z J))
def NP(P:YH X (compareOp g) r)(U:YH X (compareOp i) C)(ha:PE X a ta)(D:PE X b tb)(Y:PE X c tc)
  (hm:lastMarks [g,i] [b,c]=false:=by with_unfolding_all rfl):PT X (.Compare a [g,i] [b,c] pos) (R9 (ZaW r C ta tb tc)):=by
 intro pins s f b0 c0 I h;refine isTrue_chain (Zy (ha pins s f b0 _ I h) λa0 s1 ⟨x,H1,I1,r1,q1⟩=>test_link (Zy (D pins s1 f H1 _ I1 q1) λu s2 ⟨y,H2,T,j,S⟩ =>
  Zy (P pins s2 f H2 x y a0 u _ T r1 j S) λd s3 ⟨z,v,n,r3,k,e,B⟩=>?_)) hm
 subst e;cases r3;erw[wpAny_truthy_bool ?_];cases k with
 |false =>
  ext⟨k',Z,q'⟩ B;cases Z;exact ite_ff ⟨v,n,q'⟩
 |true =>
  erw[ite_tt (test_last (Zy (Y pins s3 f v _ n B) λH Q ⟨z',L,G,r4,O⟩=>Zy (U pins Q f L y z' u H _ G j r4 O) λd' s5 ⟨z2,H5,J,M,k2,E,q5⟩=>?_))];subst E;cases M;exact wpAny_truthy_bool ⟨H5,J,q5⟩
def ZaY(K:Ox)(x:V)(H:Hp)(k:Bool):Prop :=
 match x with
 |.non=>k=false
 |.bl b=>k=b
 |.int i=>k=(i != 0)
 |.str y=>y.length<=sizeLine/\k=((y.length:Int) != 0)
 |.byt y=>y.size<=sizeLine/\k=((y.size:Int) != 0)
 |.ref p=>(∃f,Zd K H p f/\k = !f.isEmpty)\/(∃f,Zp K H p f/\k = !f.isEmpty)\/∃g,H p=some (.dK g)/\k = !g.isEmpty
 |_=>False
def Ziv{g:Type}{f:List (g×V)}{vs:List (g×Value)}(r:KV f vs):(!vs.isEmpty) = !f.isEmpty:=by
 cases r<;>rfl
def ZaZ{xs:List V}{f:OB}(r:ZC xs f):(!f.toArray.isEmpty) = !xs.isEmpty:=by
 cases r<;>simp
def E7:(sizeLine:Nat)<2 ^ 63:=by rw[sizeLine_eq];lia
def Ziw:Zin X (λx H Q=>∃k,ZaY X.K x H k/\Q k H):=by
 intro pins s L H x v Q I n h;ext⟨k,e,q⟩ h;have O:=E7;have M:sizeLine=16777216:=sizeLine_eq;cases x with
 |non =>
  cases n;have f:k=false:=e;subst f;exact truthy_none ⟨H,I,q⟩
 |bl b =>
  cases n;have f:k=b:=e;subst f;exact wpAny_truthy_bool ⟨H,I,q⟩
 |int i =>
  ext⟨t,rfl⟩ n;have f:k=(i != 0):=e;subst f;exact PySem.P.truthy_int ⟨H,I,q⟩
 |str y =>
  ext⟨t,rfl⟩ n;obtain⟨G,f⟩:y.length<=sizeLine/\k=((y.length:Int) != 0):=e;subst f;exact PySem.P.truthy_str () ⟨H,I.tok _,q⟩
 |byt y =>
  ext⟨t,rfl⟩ n;obtain⟨G,f⟩:y.size<=sizeLine/\k=((y.size:Int) != 0):=e;subst f;exact W.truthy_bytes () ⟨H,I.tok _,q⟩
 |ref p =>
  cases n;have f:(∃g,Zd X.K H p g/\k = !g.isEmpty)\/(∃g,Zp X.K H p g/\k = !g.isEmpty)\/∃j,H p=some (.dK j)/\k = !j.isEmpty:=e;rcases f with⟨g,u,f⟩|⟨g,u,f⟩|⟨j,u,f⟩;subst f;obtain⟨J,r,C,D⟩:=I.list u;have hlen:=r.length;exact wpAny_truthy_list C.isList (by simp only[SN];lia) ⟨H,I.tok _,by rwa[ZaZ r]⟩;subst f;obtain⟨J,r,C,D⟩:=I.tuple u;have hlen:=r.length;exact truthy_tuple C (by simp only[SN];lia) ⟨H,I.tok _,by rwa[ZaZ r]⟩;subst f;obtain⟨D,E,B,r,m⟩:j.length<=sizeLine/\(p==sysModules)=false/\∃B,KV j B/\s.heap.DictOf (XN X.prog X.w) p B:=I.hok p _ u;have hlen:j.length=B.length:=Paired.length r;exact wpAny_truthy_dict E m () ⟨H,I.tok _,by rwa[Ziv r]⟩
 |_=>exact(show False from e).elim
def E8:YH X (binaryOp .Add) (λx y H Q=>∃i j,x=.str i/\y=.str j/\i.length+j.length<=sizeLine/\Q (.str (i++j)) H):=by
 intro pins s C H x y v u Q I g f h;ext⟨i,j,rfl,rfl,n,q⟩ h;ext⟨t,rfl⟩ g;ext⟨B,rfl⟩ f;exact add_str (λB tk=>⟨.str (i++j),H,I.tok _,⟨_,R⟩,q⟩) n
def Y4(r:ZC [x] us):∃u,us=[u]/\ZQ x u:=by
 cases r with
 |cons r1 f=>cases f;exact⟨_,R,r1⟩
def NQ(r:ZC [x,y] us):∃u f,us=[u,f]/\ZQ x u/\ZQ y f:=by
 cases r with
 |cons r1 g =>
  cases g with
  |cons r3 h=>cases h;exact⟨_,_,R,r1,r3⟩
def Q7:YN X (.type "str") (λxs H Q=>∃i,xs=[.int i]/\i.natAbs.log2<1920/\Q (.str (toString i)) H):=by
 intro pins s g H xs j Q I r h;ext⟨i,rfl,f,q⟩ h;obtain⟨u,rfl,t,rfl⟩:=Y4 r;exact PySem.P.str_of_int f ⟨.str _,H,I.tok _,⟨_,R⟩,q⟩
end
structure Q8(h:Heap)(x dx C:Addr)(mA:Ow):Prop where
 obj:h.get? x=some (W.instObj C dx)
 ns:h.Ns1 dx mA
 ne:dx≠x
def Zix{h:Heap}(n:h.Ns1 c f):∃i,h.get? c=some i/\∀name,W.lookIn name i=some (f name):=by
 ext⟨o,g,C,j,hd,u,_,hm⟩ n;erw[⟨o,j,λname=>?_⟩];have e:=hm name;unfold nsFind findBy at e;rw[<-Array.find?_toList]at e;unfold W.lookIn;rw[hd];dsimp only;split;rename_i y q;rw[q]at e;exact congrArg some e;rename_i q;rw[q]at e;have a:g.toList.any (·.refKey)=false:=by
  rw[List.any_eq_false];intro y B;obtain⟨z,t,x⟩:=u y (Array.mem_toList_iff.mp B);simp[DictEntry.refKey,x]
 have v:¬ g.toList.any (·.refKey)=true:=by rw[a];exact SO
 rw[SU v];exact congrArg some e
def Q8.look(I:Q8 h x f C g):∃c,W.InstAt h x (W.instObj C f) C (some c)/\∀name,W.lookIn name c=some (g name) :=
 let ⟨c,ho,hl⟩:=Zix I.ns
 ⟨c,⟨I.obj,R,R,ho⟩,hl⟩
section
variable{x dx C f:Addr}{mA:Ow}{name:Str}{v:Value}
def Ziy{expr:Bool}(X:K.In s.heap)(I:Q8 s.heap x dx C mA)(c:W.plainGet K C name=true)(j:W.hasDictIn K C=true)
  (ha:W.findIn K (.ref C) name=some none) (n:mA name=some v) (g:W.handedIn v=true) (h:Q v {s with toks:=s.toks+1}) :
  wpAny (model prog w) A (getAttr (.ref x) name expr) Q E s:=by
 ext⟨u,J,i⟩ I.look;exact W.get_value X J (W.plainGet_of c).1 (W.findObj_own j ha R (by rw[i,n])) g h
def Ziz(X:K.In s.heap)(I:Q8 s.heap x dx C mA)(c:W.plainGet K C name=true)
  (i:W.findIn K (.ref C) name=some (some (.ref f))) (g:W.isFn K (.ref f)=true) (n:mA name=none) (h:Q (.ref f,[.ref x]) s) :
  wpAny (model prog w) A (getMethod (.ref x) name pl) Q E s:=by
 ext⟨u,J,j⟩ I.look;exact W.method_fn X J (W.plainGet_of c).1 (W.plainGet_of c).2 i (beq_iff_eq.mp g) (by show(W.lookIn name u).map (·.isSome)=some false;rw[j,n];rfl) h
def ZiA{ns:OC}(X:K.In s.heap)(I:Q8 s.heap x dx C mA)
  (n:W.findIn K (.ref C) "__setattr__"=some (some (.builtin "object.__setattr__"))) (L:W.plainOver K C=true) (j:W.takerIn K C name=some none) (H:W.hasDictIn K C=true)
  (O:PySem.Within mA ns) (hsz:ns.length<=sizeLine)
  (h:∀h',Q8 h' x dx C (λy=>if y=name then some v else mA y)->Heap.SameBut dx s.heap h'->Q Unit.unit {s with heap:=h',toks:=s.toks+2}) :
  wpAny (model prog w) A (setAttr (.ref x) name v) Q E s:=by
 ext⟨U,J,Z⟩ I.look;erw[W.set_plain X J n (W.osa_open (s:={s with toks:=s.toks+1}) (r:=none) X J L j λb=>?_)];obtain⟨Y,u,i⟩:=W.any_some H;have B:s.heap.get? x=some ⟨.ref C,some dx,.plain,#[]⟩:=I.obj;erw[Sa (Sb (Sa (Sa (wpAny_loadPart B (Sa (W.Looks.here (s:={s with toks:=s.toks+1}) (W.looks_clsIn X u) ?_))))))];rw[i];erw[Sb (a:=some dx) (Sa (Sb (Sa ?_)))];erw[wpAny_nsSet1 (s:={s with toks:=s.toks+1}) I.ns λh' c g=>?_];obtain⟨P,S,T,D,G,M⟩:=c.count (PySem.Within.cons name v O);erw[Sa (wpAny_lookBehind D (by rw[G];exact pastItsLine_dict (Sh M (by rw[Sy];lia))) ?_)];exact Sb (h _ ⟨(g.2 _ (Ne.symm I.ne)).trans I.obj,c,I.ne⟩ g)
def ZiB{R:Result->Shared->Prop}(X:K.In s.heap)(hm:W.makesIn K C=true)
  (hi:W.findIn K (.ref C) "__init__"=some (some (.ref f))) (c:W.typeIn K (.ref f)=some (.type "function"))
  (h:codeAny (model prog w) (A.under (.builtin "type.__call__" ⟨.ref C::vs,kw⟩)) (.call (.ref f) ⟨.ref (s.heap.objs.size+1)::vs,kw⟩) (W.InitBack (s.heap.objs.size+1) R)
   {s with heap:=(s.heap.push W.emptyDict).push (W.instObj C s.heap.objs.size)}) :
  codeAny (model prog w) A (.call (.ref C) ⟨vs,kw⟩) R s:=by
 ext⟨i,g,d,t,os⟩ s;exact W.make_core (W.makes_of X hm) (W.looks_findIn X hi) (λself=>W.bind_fn X self c) (.inl rfl) h
def ZiC{R:Result->Shared->Prop}(X:K.In s.heap)(hm:W.makesIn K C=true)
  (hi:W.findIn K (.ref C) "__init__"=some (some (.builtin "object.__init__")))
  (c:∀self,W.Looks (model prog w) s.heap (bindSpecial (.builtin "object.__init__") self) (.builtin "object.__init__",[self]))
  (h:codeAny (model prog w) (A.under (.builtin "type.__call__" ⟨[.ref C],[]⟩)) (.call (.builtin "object.__init__") ⟨[.ref (s.heap.objs.size+1)],[]⟩) (W.InitBack (s.heap.objs.size+1) R)
   {s with heap:=(s.heap.push W.emptyDict).push (W.instObj C s.heap.objs.size)}) :
  codeAny (model prog w) A (.call (.ref C) ⟨[],[]⟩) R s:=by
 ext⟨i,g,d,t,os⟩ s;exact W.make_core (W.makes_of X hm) (W.looks_findIn X hi) c (.inr ⟨rfl,rfl⟩) h
end
def Z9(f:Str)(v:V):List (Str×V)->List (Str×V)
 |[]=>[(f,v)]
 |(g,x)::r=>if g=f then (g,v)::r else (g,x)::Z9 f v r
theorem Za0(f g:Str)(v:V):∀fs:List (Str×V),(Z9 f v fs).lookup g=if g=f then some v else fs.lookup g
 |[]=>by
  show List.lookup g [(f,v)]=_;by_cases h:g=f;have c:(g==f)=true:=beq_iff_eq.mpr h;simp only[List.lookup,c,SV h];have c:(g==f)=false:=beq_eq_false_iff_ne.mpr h;simp only[List.lookup,c,SU h]
 |(k,x)::r=>by
  have j:=Za0 f g v r;rw[show Z9 f v ((k,x)::r)=(if k=f then (k,v)::r else (k,x)::Z9 f v r)from R];by_cases i:k=f;rw[SV i];by_cases h:g=k;have c:(g==k)=true:=beq_iff_eq.mpr h;simp only[List.lookup,c,SV (h.trans i)];have c:(g==k)=false:=beq_eq_false_iff_ne.mpr h;simp only[List.lookup,c,SU (λe:g=f=>h (e.trans i.symm))];rw[SU i];by_cases h:g=k;have c:(g==k)=true:=beq_iff_eq.mpr h;simp only[List.lookup,c,SU (λe:g=f=>i (h.symm.trans e))];have c:(g==k)=false:=beq_eq_false_iff_ne.mpr h;simp only[List.lookup,c];exact j
theorem Ta(f:Str)(v:V):∀fs:List (Str×V),f∈(Z9 f v fs).map (·.1)/\∀g,g∈fs.map (·.1)->g∈(Z9 f v fs).map (·.1)
 |[]=>⟨by simp[Z9],λg h=>by simp at h⟩
 |(k,x)::r=>by
  obtain⟨j,i⟩:=Ta f v r;rw[show Z9 f v ((k,x)::r)=(if k=f then (k,v)::r else (k,x)::Z9 f v r)from R];by_cases c:k=f;rw[SV c];subst c;exact⟨by simp,λg h=>by simpa using h⟩;rw[SU c];erw[⟨?_,λg h=>?_⟩];rw[SM];exact SB _ j;rw[SM]at h ⊢;rcases SF.mp h with e|e;exact SF.mpr (.inl e);exact SB _ (i g e)
theorem E9(f:Str)(v:V):∀fs:List (Str×V),(Z9 f v fs).length<=fs.length+1
 |[]=>by simp[Z9]
 |(k,x)::r=>by
  have g:=E9 f v r;rw[show Z9 f v ((k,x)::r)=(if k=f then (k,v)::r else (k,x)::Z9 f v r)from R];by_cases c:k=f;rw[SV c,Sy,Sy];lia;rw[SU c,Sy,Sy];lia
def WK.some_of(r:WK (some v) o):∃u,o=some u/\ZQ v u:=by
 cases o with
 |none=>exact(show False from r).elim
 |some u=>exact⟨u,R,r⟩
def WK.none_of(r:WK none o):o=none:=by
 cases o with
 |none=>rfl
 |some u=>exact(show False from r).elim
def ZiD(r:ZQ v u):W.handedIn u=true:=by
 cases v with
 |non=>cases (show u=Value.none from r);rfl
 |bl b=>cases (show u=Value.bool b from r);rfl
 |int i=>obtain⟨t,e⟩:=(show ∃t,u=Value.int i t from r);cases e;rfl
 |str x=>obtain⟨t,e⟩:=(show ∃t,u=Value.str x t from r);cases e;rfl
 |byt b=>obtain⟨t,e⟩:=(show ∃t,u=Value.bytes b t from r);cases e;rfl
 |flt b=>obtain⟨t,e⟩:=(show ∃t,u=Value.float b t from r);cases e;rfl
 |ref a=>cases (show u=Value.ref a from r);rfl
 |ty n=>cases (show u=Value.type n from r);rfl
section
variable{H':Hp}{h h':Heap}{a C dx:Addr}{fs fs':List (Str×V)}
def NR(hok:Yp P w H h)(e:H a=some (.ins C dx fs)):∃c,Q8 h a dx C c/\(∀f,WK (fs.lookup f) (c f))/\PySem.Within c (fs.map (·.1))/\fs.length<=1000/\H dx=some (.own a):=by
 obtain⟨d,z,ne,ob,c,n,r,q⟩:=(show Yo P w H h a (.ins C dx fs)from hok a _ e);exact⟨c,⟨ob,n,ne⟩,r,q,z,d⟩
end
structure YI(K:Ox)(C:Addr):Prop where
 pg:W.plainGet K C Str.empty=true
 hd:W.hasDictIn K C=true
 po:W.plainOver K C=true
 sa:W.findIn K (.ref C) "__setattr__"=some (some (.builtin "object.__setattr__"))
def YI.get{C:Addr}(c:YI K C)(f:Str):W.plainGet K C f=true:=c.pg
def Xt(K:Ox)(C:Addr)(f:Str):Prop:=W.findIn K (.ref C) f=some none
def Xt.taker{C:Addr}{f:Str}(n:Xt K C f):W.takerIn K C f=some none:=by
 unfold W.takerIn;rw[show W.findIn K (.ref C) f=some none from n];rfl
structure Con(K:Ox)(C:Addr)(f:Str)(v:V)(u:Value):Prop where
 at_:W.findIn K (.ref C) f=some (some u)
 rel:ZQ v u
 get:W.specialIn K u "__get__"=some none
 cp:W.copiedNames.contains f=false
structure Ys(K:Ox)(C:Addr)(m:Str)(f:Addr):Prop where
 at_:W.findIn K (.ref C) m=some (some (.ref f))
 fn:W.isFn K (.ref f)=true
 kp:W.keepIn K (.ref f)=true
section
variable{σ:St}{a C dx:Addr}{fs:List (Str×V)}{f:Str}{v:V}
def ZiE(I:Za X pins σ H s)(e:H a=some (.ins C dx fs))(c:YI X.K C)(n:Xt X.K C f)(l:fs.lookup f=some v)
  (h:∀u s',Za X pins σ H s'->ZQ v u->Q u s'):wpAny (model X.prog X.w) A (getAttr (.ref a) f b) Q E s:=by
 obtain⟨i,O,r,_,_,_⟩:=NR I.hok e;obtain⟨u,g,ru⟩:=WK.some_of (v:=v) (o:=i f) (by rw[<-l];exact r f);exact Ziy I.kIn O (c.get f) c.hd n g (ZiD ru) (h u _ (I.tok _) ru)
def F0(I:Za X pins σ H s)(e:H a=some (.ins C dx fs))(c:YI X.K C)(k:Ys X.K C m g)(l:fs.lookup m=none)
  (h:Q (.ref g,[.ref a]) s):wpAny (model X.prog X.w) A (getMethod (.ref a) m pl) Q E s:=by
 obtain⟨i,O,r,_,_,_⟩:=NR I.hok e;have hn:i m=none:=WK.none_of (by rw[<-l];exact r m);exact Ziz I.kIn O (c.get m) k.at_ k.fn hn h
def ZiF(I:Za X pins σ H s)(e:H a=some (.ins C dx fs))(c:YI X.K C)(n:Xt X.K C f)(T:fs.length<1000)(L:ZQ y u)
  (h:∀s',Za X pins σ (upd H a (.ins C dx (Z9 f y fs))) s'->Q Unit.unit s'):wpAny (model X.prog X.w) A (setAttr (.ref a) f u) Q E s:=by
 obtain⟨D,O,r,j,_,B⟩:=NR I.hok e;have P:(fs.map (·.1)).length<=sizeLine:=by rw[Sv,sizeLine_eq];lia
 erw[ZiA I.kIn O c.sa c.po n.taker c.hd j P λJ i M=>h _ ?_];have hd:∃o,J.get? dx=some o:=let ⟨o,_,_,e',_⟩:=i.ns;⟨o,e'⟩;erw[I.write (x:=a) (e:=dx) (by rw[e];exact True.intro) (.inr B) (λb q G z=>(M.2 b G).trans z) hd ?_];erw[⟨by rwa[Zj O.ne],?_,O.ne,i.obj,_,i.ns,λg=>?_,λg S=>?_⟩];have:=E9 f y fs;lia;show WK ((Z9 f y fs).lookup g) (if g=f then some u else D g);rw[Za0];by_cases q:g=f;rwa[SV q,SV q];rw[SU q,SU q];exact r g;by_cases q:g=f;rw[q];exact(Ta f y fs).1;erw[(Ta f y fs).2 g (j g λz=>S ?_)];show(if g=f then some u else D g)=none;rwa[SU q]
def Za.made(I:Za X pins σ H s):Za X pins σ (upd (upd H s.heap.objs.size (.own (s.heap.objs.size+1))) (s.heap.objs.size+1) (.ins C s.heap.objs.size []))
  {s with heap:=(s.heap.push W.emptyDict).push (W.instObj C s.heap.objs.size)}:=by
 have c:(s.heap.push W.emptyDict).get? s.heap.objs.size=some W.emptyDict:=Sd s.heap R;have h:((s.heap.push W.emptyDict).push (W.instObj C s.heap.objs.size)).get? (s.heap.objs.size+1)=some (W.instObj C s.heap.objs.size):=by
  have:=Sd (s.heap.push W.emptyDict) (o:=W.instObj C s.heap.objs.size) R;rwa [Heap.size_push]at this
 have i:(s.heap.push W.emptyDict).Ns s.heap.objs.size (λ_=>none):=⟨W.emptyDict,#[],_,c,R,(λe g=>Os g (by simp)),λ_=>R⟩;have n:=I.laid (a:=s.heap.objs.size) (o:=.own (s.heap.objs.size+1)) (h':=s.heap.push W.emptyDict) (t':=s.toks) (λb u q=>Sc _ q) (Sg _) ⟨_,c⟩;erw[n.laid (a:=s.heap.objs.size+1) (o:=.ins C s.heap.objs.size []) (t':=s.toks) (λb u q=>Sc _ q) (Nat.le_of_eq (Heap.size_push _ _)) ?_];have ne:s.heap.objs.size≠s.heap.objs.size+1:=Sf (Sm _);erw[⟨by rw[Zj ne,Zh],Sk _,ne,h,λ_=>none,(Heap.Ns1.of_empty i).at λo q=>Sc _ q,λ_=>True.intro,λy j=>Os rfl j⟩]
def ZiG(i:attributeBase e f env (eval e env)=eval e env)
  (h:wpAny (model prog w) A (eval e env) (λo c=>wpAny (model prog w) A (getAttr o f true) Q E c) E s):wpAny (model prog w) A (eval (.Attribute e f g) env) Q E s :=
 Attribute_any_ h (by rw[arm_eval_Attribute,i])
end
inductive ZiH(K:Ox)(f:Str)(Q:VK)(x:V)(H1:Hp):Prop|mk a C dx fs v (_:x=.ref a) (_:H1 a=some (.ins C dx fs)) (_:YI K C) (_:Xt K C f) (_:fs.lookup f=some v) (_:Q v H1)
def ZiI(K:Ox)(c:TE)(f:Str):TE:=λg H Q=>c g H λx h=>ZiH K f Q x h
inductive ZiJ(K:Ox)(f:Str)(D:WL)(σ:St)(y:V)(x:V)(H2:Hp):Prop|mk a C dx fs (_:x=.ref a) (_:H2 a=some (.ins C dx fs)) (_:YI K C) (_:Xt K C f) (_:fs.length<1000) (_:D.nx σ (upd H2 a (.ins C dx (Z9 f y fs))))
def ZiK(K:Ox)(h g:TE)(f:Str):TS:=λD c H=>g c H λy j=>h c j λx i=>ZiJ K f D c y x i
section
variable{o e value:Expr}{f:Str}{pos' tpos:Pos}{ta tv:TE}
def ZO(y:PE X e ta)(g:attributeBase e f X.env (eval e X.env)=eval e X.env):PE X (.Attribute e f pos) (ZiI X.K ta f):=by
 intro pins s i H Q I h;erw[ZiG g (Zy (y pins s i H _ I h) λu M ⟨x,D,E,B,a,C,L,fs,v,ex,G,c,n,l,q⟩=>?_)];subst ex;obtain rfl:u=Value.ref a:=B;exact ZiE E G c n l λJ s2 j ru=>⟨v,D,j,ru,q⟩
def WA(ha:PE X o ta)(v:PE X value tv)(j:swapsWith value (some (.Attribute o f pos')) pos.line X.env=pure false):PS X (.Assign [.Attribute o f pos'] value pos) (ZiK X.K ta tv f):=by
 intro pins s g H D I h;erw[plainObj_wpAny_Assign_Attribute (Zy (v pins s g H _ I h) λu P ⟨y,M,O,J,q⟩=>Zy (ha pins P g M _ O q) λG s2 ⟨x,T,E,L,a,C,S,fs,ex,Q,c,n,l,B⟩=>?_) j];subst ex;obtain rfl:G=Value.ref a:=L;exact ZiF E Q c n l J λU i=>⟨g,_,i,B⟩
end
section
variable{σ:St}{Q:Ou}{c:Value}{b:Bool}
inductive Wb(K:Ox)(H:Hp):V->Value->Prop where
 |non:Wb K H .non (.type "NoneType")
 |bl (x:Bool):Wb K H (.bl x) (.type "bool")
 |int (i:Int):Wb K H (.int i) (.type "int")
 |str (x:Str):Wb K H (.str x) (.type "str")
 |flt (x:UInt64):Wb K H (.flt x) (.type "float")
 |lst {a:Addr} {xs:List V} (e:H a=some (.lst xs)):Wb K H (.ref a) (.type "list")
 |frz {a:Addr} {o:Obj} {xs:List V} (e:H a=some (.frz o (.lst xs))):Wb K H (.ref a) (.type "list")
 |tup {a:Addr} {xs:List V} (e:H a=some (.tup xs)):Wb K H (.ref a) (.type "tuple")
 |dK {a:Addr} {kvs:List (ZF×V)} (e:H a=some (.dK kvs)):Wb K H (.ref a) (.type "dict")
 |dT {a:Addr} {kvs:List (List ZF×V)} (e:H a=some (.dT kvs)):Wb K H (.ref a) (.type "dict")
 |ins {a C dx:Addr} {fs:List (Str×V)} (e:H a=some (.ins C dx fs)) (cl:YI K C) (ha:W.findIn K (.ref C) "__class__"=some (some (.builtin "object.__class__")))
   (hn:W.specialIn K (.builtin "object.__class__") "__get__"=some (some (.builtin "getset_descriptor.__get__"))) (htk:W.takesIn K (.builtin "object.__class__")=some true)
   (hm:W.mroIn K C (.type "object")=some true):Wb K H (.ref a) (.ref C)
def Za1(I:Za X pins σ H s)(f:ZQ x u)(ty:Wb X.K H x t)(e:W.kitOne X.K t c=some b)(h:∀tk,Q (.bool b) {s with toks:=tk}) :
  wpAny (model X.prog X.w) A (call (.builtin "isinstance") [u,c]) Q E s:=by
 cases ty with
 |non=>cases (show u=Value.none from f);exact W.kia_one W.kitx_none I.kIn True.intro e (λz=>nomatch z) h
 |bl y=>cases (show u=Value.bool y from f);exact W.kia_one W.kitx_bool I.kIn True.intro e (λz=>nomatch z) h
 |int i=>obtain⟨t,q⟩:=(show ∃t,u=Value.int i t from f);cases q;exact W.kia_one W.kitx_int I.kIn True.intro e (λz=>nomatch z) h
 |str y=>obtain⟨t,q⟩:=(show ∃t,u=Value.str y t from f);cases q;exact W.kia_one W.kitx_str I.kIn True.intro e (λz=>nomatch z) h
 |flt y=>obtain⟨t,q⟩:=(show ∃t,u=Value.float y t from f);cases q;exact W.kia_one W.kitx_float I.kIn True.intro e (λz=>nomatch z) h
 |@lst a v g =>
  cases (show u=Value.ref a from f);obtain⟨_,_,n,_,j⟩:=(show Yo X.prog X.w H s.heap a (.lst v)from I.hok a _ g);exact W.kia_one W.kitx_list I.kIn ⟨_,j,R⟩ e (λz=>nomatch z) h
 |@frz a ob v g =>
  cases (show u=Value.ref a from f);obtain⟨_,_,_,n,_,j⟩:=(show Yo X.prog X.w H s.heap a (.frz ob (.lst v))from I.hok a _ g);exact W.kia_one W.kitx_list I.kIn ⟨_,j,R⟩ e (λz=>nomatch z) h
 |@tup a v g =>
  cases (show u=Value.ref a from f);obtain⟨_,_,_,p⟩:=(show Yo X.prog X.w H s.heap a (.tup v)from I.hok a _ g);ext⟨o,j,B,_⟩ p;exact W.kia_one W.kitx_tuple I.kIn ⟨o,j,B⟩ e (λz=>nomatch z) h
 |@dK a D g =>
  cases (show u=Value.ref a from f);obtain⟨_,_,P,_,p⟩:=(show Yo X.prog X.w H s.heap a (.dK D)from I.hok a _ g);ext⟨o,L,M,j,B,_⟩ p;exact W.kia_one W.kitx_dict I.kIn ⟨o,j,B.1⟩ e (λz=>nomatch z) h
 |@dT a D g =>
  cases (show u=Value.ref a from f);obtain⟨_,_,v,_,o,L,M,j,B,_⟩:=(show Yo X.prog X.w H s.heap a (.dT D)from I.hok a _ g);exact W.kia_one W.kitx_dict I.kIn ⟨o,j,B.1⟩ e (λz=>nomatch z) h
 |@ins a C S fs g cl ha hn G hm =>
  cases (show u=Value.ref a from f);obtain⟨U,O,_⟩:=NR I.hok g;ext⟨T,J,_⟩ O.look;exact W.kia_one (W.kitx_own (cl.get _) cl.hd ha hn G hm) I.kIn J e (λz=>nomatch z) h
end
structure Yv(k:Nat)(A:Around):Prop where
 hd:A.handled=none
 dp:A.depth+3*k+5<recursionLimit
 un:A.units+16*k+200<cLine
 gd:A.guards=some []
def Yv.mono(r:Yv k A)(h:j<=k):Yv j A:=⟨r.hd,by have:=r.dp;lia,by have:=r.un;lia,r.gd⟩
def Yv.deeper(r:Yv (k+1) A)(env:Env):Yv k (A.deeper env) :=
 ⟨r.hd,by have:=r.dp;show A.depth+1+3*k+5<_;lia,by have:=r.un;show A.units+3+16*k+200<_;lia,r.gd⟩
def ZiL:(A.under (.builtin "type.__call__" ⟨.ref C::us,kw⟩)).depth=A.depth+1:=by
 first|rfl|simp[Around.under,Code.weight,Code.isCreation,Code.isGuard,Code.isCaller,Code.frames,Code.isFrame,guardIds]
def ZiM:(A.under (.builtin "type.__call__" ⟨.ref C::us,kw⟩)).units=A.units+1:=by
 first|rfl|simp[Around.under,Code.cUnits,Code.frames,Code.isFrame]
def Yv.make(r:Yv (k+1) A)(C:Addr)(us:OB)(kw:List (Str×Value)):Yv k (A.under (.builtin "type.__call__" ⟨.ref C::us,kw⟩)) :=
 ⟨r.hd,by have:=r.dp;rw[ZiL];lia,by have:=r.un;rw[ZiM];lia,by have:=r.gd;first|exact this|simp[Around.under,Code.guards,Code.isGuard,guardIds,this]⟩
def Yv.depth(r:Yv k A):A.depth<recursionLimit:=by have:=r.dp;lia
def Yv.units(r:Yv k A):A.units+64<cLine:=by have:=r.un;lia
def Yv.units0(r:Yv k A):A.units<cLine:=by have:=r.un;lia
def Y5:TA:=λ_ H Q=>Q [] H
def Yt(g:TE)(tr:TA):TA:=λc H Q=>g c H λx i=>tr c i λf h=>Q (x::f) h
section
variable{e:Expr}{es:OD}{te:TE}{t:TA}
def YZ:PA X [] Y5:=λ_ _ _ _ H Q I h=>Calls.spliced_nil ⟨[],H,I,.nil,h⟩
def Za2(ha:PE X e te)(D:PA X es t)(i:starEach (e::es) X.env=(false,eval e X.env)::starEach es X.env:=by rfl):PA X (e::es) (Yt te t):=by
 intro pos pins s c H Q I h;rw[i];show wpAny _ _ (spliced ((false,eval e X.env)::backTo pos (starEach es X.env))) _ _ s;erw[Calls.spliced_cons (Zy (ha pins s c H _ I h) λu E ⟨x,y,C,r1,B⟩=>?_)];exact Zy (D pos pins E c y _ C B) λG s2 ⟨f,v,n,g,j⟩=>⟨x::f,v,n,.cons r1 g,j⟩
def ZiN(t:TA):TE:=λg H Q=>t g H λc f=>c.length<=sizeLine/\∀p,f p=none->Q (.ref p) (upd f p (.tup c))
def LW(t:TA):TE:=λg H Q=>t g H λc f=>c.length<=sizeLine/\∀p,f p=none->Q (.ref p) (upd f p (.lst c))
def YX{x1}(h:PA X es t):PE X (.Tuple es x1 pos) (ZiN t):=by
 intro pins s v H Q I j;erw[wpAny_Tuple_spliced (Zy (h pos pins s v H _ I j) λx c ⟨i,g,f,r,z,q⟩=>⟨by rwa[<-r.length],?_⟩)];have n:g c.heap.objs.size=none:=f.hok.fresh (Sg _);erw[⟨.ref c.heap.objs.size,upd g c.heap.objs.size (.tup i),f.laid (t':=c.toks) (λb u e=>Sc _ e) (Sg _) ?_,R,q _ n⟩];exact⟨z,x,r,⟨_,Sd _ R,R,_,R⟩⟩
def Z4(h:PA X es t):PE X (.List es pos) (LW t):=by
 intro pins s v H Q I j;erw[wpAny_List_spliced (Zy (h pos pins s v H _ I j) λx c ⟨i,g,f,r,z,q⟩=>⟨by rwa[<-r.length],?_⟩)];have n:g c.heap.objs.size=none:=f.hok.fresh (Sg _);erw[⟨.ref c.heap.objs.size,upd g c.heap.objs.size (.lst i),f.laid (t':=c.toks) (λb u e=>Sc _ e) (Sg _) ?_,R,q _ n⟩];exact⟨z,x,0,r,Sd _ R⟩
end
abbrev Sp:=List V->Hp->VK->XK->Prop
abbrev Wd:=List Env->Hp->Shared->XK->Value->Shared->Prop
structure Ub(P:Program)(w:World)(K:Ox)(mg:Ow)(base:Heap)(A:Around)(outer:List Env)(s:Shared)(H:Hp):Prop where
 frames:A.frames=some outer
 mod:Mod K mg base
 bs:∀b o,base.get? b=some o->s.heap.get? b=some o/\H b=none
 bsz:base.objs.size<=s.heap.objs.size
 funs:s.heap.FunFrames base outer
 frf:∀b∈Ye outer,H b=none
 hok:Yp P w H s.heap
 bare:AllBare s.gens
inductive CE(outer:List Env)(P:Program)(w:World)(H:Hp)(s:Shared)(Q:VK)(u:Value)(s':Shared):Prop|mk v H' (_:s'.os=s.os) (_:AllBare s'.gens) (_:Un (Ye outer) [] H H' s.heap s'.heap) (_:Yp P w H' s'.heap) (_:ZQ v u) (_:Q v H')
def CR(CX:Wd)(outer:List Env)(P:Program)(w:World)(H:Hp)(s:Shared)(Q:VK)(E:XK)(r:Result)(s':Shared):Prop :=
 match r with
 |.ok (.ret u)=>CE outer P w H s Q u s'
 |.ok _=>False
 |.error e=>CX outer H s E e s'
structure Zl(P:Program)(w:World)(K:Ox)(mg:Ow)(base:Heap)(CX:Wd)(k:Nat)(f:Addr)(fd:OJ)(ps:OC)(sp:Sp):Prop where
 len:∀vs H Q E,sp vs H Q E->vs.length=ps.length
 run:∀(A:Around) (outer:List Env) (s:Shared) (H:Hp) (args:Args) (us:OB) (vs:List V) (Q:VK) (E:XK),Yv k A->Ub P w K mg base A outer s H->BindsTo s fd args (ps.zip us)->ZC vs us->sp vs H Q E ->
  codeAny (model P w) A (.call (.ref f) args) (CR CX outer P w H s Q E) s
def Zl.mono{CX:Wd}{j k:Nat}{f:Addr}{g:OJ}{c:OC}{sp:Sp}(F:Zl P w K mg base CX j f g c sp)(h:j<=k) :
  Zl P w K mg base CX k f g c sp:=⟨F.len,λA outer s H args u n Q E i=>F.run A outer s H args u n Q E (i.mono h)⟩
def Ub.make{outer:List Env}(e:Ub P w K mg base A outer s H)(C:Addr)(us:OB)(kw:List (Str×Value)) :
  Ub P w K mg base (A.under (.builtin "type.__call__" ⟨.ref C::us,kw⟩)) outer s H:=⟨by first|exact e.frames|(simpa [Around.under,Code.envs,Code.isFrame,pushEnvs]using e.frames),e.mod,e.bs,e.bsz,e.funs,e.frf,e.hok,e.bare⟩
section
variable{σ:St}{s':Shared}
def Za.env0(I:Za X pins σ H s):Ub X.prog X.w X.K X.mg X.base X.A X.stack s H :=
 ⟨I.ok.frames,I.ok.mod,I.bs,Sh I.ok.bsz I.sz,I.stack,I.stkFree,I.hok,I.bare⟩
def Za.after(I:Za X pins σ H s)(h:CE X.stack X.prog X.w H s Q u s'):EP X pins σ Q u s':=by
 ext⟨v,c,os,bare,un,hok,r,q⟩ h;ext⟨i,g,d,t,f⟩ s';obtain rfl:f=s.os:=os;exact⟨v,c,I.call (h':=i) (g':=g) (d':=d) (t':=t) (ch:=[]) un hok bare (λb z=>Os z (by simp)),r,q⟩
end
def Tb(sp:Sp)(dvs:List V)(E:XK)(t:TA):TE:=λf H Q=>t f H λc g=>sp (c++dvs) g Q E
inductive ZiO(C:Addr)(m:Str)(sp:Sp)(dvs:List V)(E:XK)(t:TA)(σ:St)(Q:VK)(x:V)(H1:Hp):Prop|mk a dx fs (_:x=.ref a) (_:H1 a=some (.ins C dx fs)) (_:fs.lookup m=none) (_:t σ H1 λvs H2=>sp (x::(vs++dvs)) H2 Q E)
def Za3(C:Addr)(m:Str)(sp:Sp)(dvs:List V)(E:XK)(f:TE)(t:TA):TE:=λc H Q=>f c H λx g=>ZiO C m sp dvs E t c Q x g
def Za4(C:Addr)(sp:Sp)(dvs:List V)(E:XK)(t:TA):TE:=λh H Q=>t h H λg f=>∀x c,f x=none->f c=none->c≠x ->
 sp (.ref x::(g++dvs)) (upd (upd f c (.own x)) x (.ins C c [])) (λv i=>v=.non/\Q (.ref x) i) E
def XB(K:Ox)(f:OJ)(c:OC)(ds:OB):Prop :=
 ∀(s:Shared) (us:OB),K.In s.heap->(us++ds).length=c.length->BindsTo s f ⟨us,[]⟩ (c.zip (us++ds))
def XB.all{g:OJ}{c:OC}(h:∀us:List Value,us.length=c.length->bindArgs g ⟨us,[]⟩=pure (c.zip us)):XB K g c []:=λs us _ f=>by
 rw[Oc]at f ⊢;exact .of_eq (h us f)
def WB(CX:Wd)(X:Cx)(E:XK):Prop:=∀(pins:Ov) (σ:St) (H:Hp) (s:Shared) (e:Value) (s':Shared),Za X pins σ H s->CX X.stack H s E e s'->X.xe e s'
section
variable{CX:Wd}{k:Nat}{f C:Addr}{fd:OJ}{ps:OC}{sp:Sp}{dvs:List V}{ds:OB}{E:XK}{x m:Str}{p apos:Pos}{e o:Expr}{es:OD}{ta:TE}{t:TA}
def QB(F:Zl X.prog X.w X.K X.mg X.base CX k f fd ps sp)(j:Yv k X.A)(n:XB X.K fd ps ds)(hd:ZC dvs ds)(v:WB CX X E)
  (I:Za X pins g H s) (r:ZC vs us) (h:sp (vs++dvs) H Q E):wpAny (model X.prog X.w) X.A (call (.ref f) us) (EP X pins g Q) X.xe s:=by
 have i:ZC (vs++dvs) (us++ds):=r.append hd;have D:(us++ds).length=ps.length:=by rw[<-i.length];exact F.len _ _ _ _ h
 erw[wpAny_call (codeAny_mono (F.run X.A X.stack s H ⟨us,[]⟩ (us++ds) (vs++dvs) Q E j I.env0 (n s us I.kIn D) i h) λr y c=>?_)];cases r with
 |error e=>exact v pins g H s e y I c
 |ok B =>
  cases B with
  |ret u=>exact I.after c
  |next=>exact False.elim c
  |brk=>exact False.elim c
  |cont=>exact False.elim c
def WU(F:Zl X.prog X.w X.K X.mg X.base CX k f fd ps sp)(g:Yv k X.A)(u:Gl X x)(hm:X.mg x=some (.ref f))(v:W.keepIn X.K (.ref f)=true)(j:XB X.K fd ps ds)(hd:ZC dvs ds)(n:WB CX X E)
  (ha:PA X (e::es) t) (D:(x==("__debug__" : Str))=false:=by lia) (i:starEach (e::es) X.env=(false,eval e X.env)::starEach es X.env:=by rfl) (B:(backTo pos (starEach es X.env)).any (·.1)=false:=by rfl) :
  PE X (.Call (.Name x p) (e::es) [] pos) (Tb sp dvs E t):=by
 intro pins s y H Q I h;erw[wpAny_Call_Name_kw (V7 I u hm ?_ D)];erw[W.callWith_K (h₀:=X.base) I.ok.mod.kin v (Zy (ha pos pins s y H _ I h) λM J ⟨G,L,c,r,q⟩=>⟨c.kIn,?_⟩) i B];exact QB F g j hd n c r q
def ZiP(F:Zl X.prog X.w X.K X.mg X.base CX k f fd ps sp)(c:Yv k X.A)(n:Gl X x)(hm:X.mg x=some (.ref f))(j:W.keepIn X.K (.ref f)=true)(g:XB X.K fd ps ds)(hd:ZC dvs ds)(i:WB CX X E)
  (u:(x==("__debug__" : Str))=false:=by lia):PE X (.Call (.Name x p) [] [] pos) (Tb sp dvs E Y5):=by
 intro pins s v H Q I h;erw[wpAny_Call_Name_kw (V7 I n hm ?_ u)];exact W.callWith_K0 I.kIn j (QB (us:=[]) F c g hd i I .nil h)
def Yz(D:PE X o ta)(c:YI X.K C)(hm:Ys X.K C m f)(F:Zl X.prog X.w X.K X.mg X.base CX k f fd ps sp)(P:Yv k X.A)(v:XB X.K fd ps ds)(hd:ZC dvs ds)(G:WB CX X E)(ha:PA X (e::es) t)
  (O:starEach (e::es) X.env=(false,eval e X.env)::starEach es X.env:=by rfl) (L:(backTo pos (starEach es X.env)).any (·.1)=false:=by rfl)
  (y:eval (.Call (.Attribute o m apos) (e::es) [] pos) X.env=(do
   let j <-eval o X.env
   standAt apos.atName
   let (f,first) <-holding [j] (getMethod j m pl)
   callWith pos f first (backTo pos (starEach (e::es) X.env)) (backToKw pos (keywordEach [] X.env))):=by rfl) :
  PE X (.Call (.Attribute o m apos) (e::es) [] pos) (Za3 C m sp dvs E ta t):=by
 intro pins s g H Q I h;erw[W.methodCall_KW (pl:=pl) (Zy (D pins s g H _ I h) λu S ⟨x,M,n,J,a,U,fs,ex,T,l,q⟩=>?_) y];subst ex;obtain rfl:u=Value.ref a:=J;erw[F0 n T c hm l ?_];erw[W.callWith_K (first:=[.ref a]) (h₀:=X.base) I.ok.mod.kin hm.kp (Zy (ha pos pins S g M _ n q) λus s2 ⟨vs,Y,i,r,B⟩=>⟨i.kIn,?_⟩) O L];exact QB (us:=.ref a::us) (vs:=.ref a::vs) F P v hd G i (.cons R r) B
def WM(v:PE X o ta)(c:YI X.K C)(hm:Ys X.K C m f)(F:Zl X.prog X.w X.K X.mg X.base CX k f fd ps sp)(n:Yv k X.A)(y:XB X.K fd ps ds)(hd:ZC dvs ds)(B:WB CX X E)
  (j:eval (.Call (.Attribute o m apos) [] [] pos) X.env=(do
   let i <-eval o X.env
   standAt apos.atName
   let (f,first) <-holding [i] (getMethod i m pl)
   callWith pos f first (backTo pos (starEach [] X.env)) (backToKw pos (keywordEach [] X.env))):=by rfl) :
  PE X (.Call (.Attribute o m apos) [] [] pos) (Za3 C m sp dvs E ta Y5):=by
 intro pins s J H Q I h;erw[W.methodCall_KW (pl:=pl) (Zy (v pins s J H _ I h) λu L ⟨x,O,g,G,a,M,fs,ex,D,l,q⟩=>?_) j];subst ex;obtain rfl:u=Value.ref a:=G;erw[F0 g D c hm l ?_];exact W.callWith_K0 (first:=[.ref a]) g.kIn hm.kp (QB (us:=[.ref a]) (vs:=[.ref a]) F n y hd B g (.cons R .nil) q)
structure Mk(K:Ox)(C f:Addr):Prop where
 makes:W.makesIn K C=true
 init:W.findIn K (.ref C) "__init__"=some (some (.ref f))
 fn:W.isFn K (.ref f)=true
 kp:W.keepIn K (.ref C)=true
def Za5(M:Mk X.K C f)(F:Zl X.prog X.w X.K X.mg X.base CX k f fd ps sp)(T:Yv (k+1) X.A)(B:XB X.K fd ps ds)(hd:ZC dvs ds)
  (L:WB CX X E) (I:Za X pins j H s) (r:ZC vs us)
  (h:∀x g,H x=none->H g=none->g≠x->sp (.ref x::(vs++dvs)) (upd (upd H g (.own x)) x (.ins C g [])) (λv P=>v=.non/\Q (.ref x) P) E) :
  wpAny (model X.prog X.w) X.A (call (.ref C) us) (EP X pins j Q) X.xe s:=by
 have y:=h (s.heap.objs.size+1) s.heap.objs.size (I.hok.fresh (Nat.le_succ _)) (I.hok.fresh (Sg _)) (Sf (Sm _));have i:=Za.made (C:=C) I;have n:ZC (V.ref (s.heap.objs.size+1)::(vs++dvs)) (Value.ref (s.heap.objs.size+1)::(us++ds)):=.cons R (r.append hd);have Z:(Value.ref (s.heap.objs.size+1)::us++ds).length=ps.length:=by
  have e:=n.length;rw[F.len _ _ _ _ y]at e;exact e.symm
 refine wpAny_call (ZiB (f:=f) I.kIn M.makes M.init (beq_iff_eq.mp M.fn) (codeAny_mono (F.run _ X.stack _ _ ⟨Value.ref (s.heap.objs.size+1)::us,[]⟩ (Value.ref (s.heap.objs.size+1)::(us++ds)) _ _ E (T.make C us [])
  (i.env0.make C us []) (B _ (Value.ref (s.heap.objs.size+1)::us) i.kIn Z) n y) λr O c=>?_))
 cases r with
 |error e=>exact L pins j _ _ e O i c
 |ok Y =>
  cases Y with
  |ret u =>
   obtain⟨v,D,G,S,J,U⟩:=i.after c;subst J;exact⟨S,⟨V.ref (s.heap.objs.size+1),D,G,R,U⟩⟩
  |next=>exact False.elim c
  |brk=>exact False.elim c
  |cont=>exact False.elim c
def We(M:Mk X.K C f)(F:Zl X.prog X.w X.K X.mg X.base CX k f fd ps sp)(g:Yv (k+1) X.A)(u:Gl X x)(hm:X.mg x=some (.ref C))(j:XB X.K fd ps ds)(hd:ZC dvs ds)(n:WB CX X E)
  (ha:PA X (e::es) t) (B:(x==("__debug__" : Str))=false:=by lia) (i:starEach (e::es) X.env=(false,eval e X.env)::starEach es X.env:=by rfl) (y:(backTo pos (starEach es X.env)).any (·.1)=false:=by rfl) :
  PE X (.Call (.Name x p) (e::es) [] pos) (Za4 C sp dvs E t):=by
 intro pins s v H Q I h;erw[wpAny_Call_Name_kw (V7 I u hm ?_ B)];erw[W.callWith_K (h₀:=X.base) I.ok.mod.kin M.kp (Zy (ha pos pins s v H _ I h) λL G ⟨D,J,c,r,q⟩=>⟨c.kIn,?_⟩) i y];exact Za5 M F g j hd n c r q
def Za6(M:Mk X.K C f)(F:Zl X.prog X.w X.K X.mg X.base CX k f fd ps sp)(c:Yv (k+1) X.A)(j:Gl X x)(hm:X.mg x=some (.ref C))(g:XB X.K fd ps ds)(hd:ZC dvs ds)(i:WB CX X E)
  (n:(x==("__debug__" : Str))=false:=by lia):PE X (.Call (.Name x p) [] [] pos) (Za4 C sp dvs E Y5):=by
 intro pins s u H Q I h;erw[wpAny_Call_Name_kw (V7 I j hm ?_ n)];exact W.callWith_K0 I.kIn M.kp (Za5 (us:=[]) M F c g hd i I .nil h)
end
def PK(X:Cx)(f:List Keyword)(t:TA):Prop :=
 ∀(c:Pos) (pins:Ov) (s:Shared) (σ:St) (H:Hp) (Q:List V->Hp->Prop),Za X pins σ H s->t σ H Q->wpAny (model X.prog X.w) X.A (evalAll ((backToKw c (keywordEach f X.env)).map (·.2))) (AP X pins σ Q) X.xe s
section
variable{CX:Wd}{k:Nat}{f C:Addr}{fd:OJ}{ps ks:OC}{sp:Sp}{E:XK}{x m:Str}{p apos kpos:Pos}{e o:Expr}{es:OD}{kws:List Keyword}{te ta:TE}{t tk:TA}{nm:Option Str}
def Za7:PK X [] Y5:=λ_ _ _ _ H Q I h=>wpAny_evalAll_nil ⟨[],H,I,.nil,h⟩
def Za8(ha:PE X e te)(n:PK X kws t):PK X (⟨nm,e,kpos⟩::kws) (Yt te t):=by
 intro pos pins s c H Q I h;show wpAny _ _ (evalAll ((do let v <-eval e X.env;standAt pos;pure v)::(backToKw pos (keywordEach kws X.env)).map (·.2))) _ _ s;erw[wpAny_evalAll_cons (Sa (Zy (ha pins s c H _ I h) λu y ⟨x,G,L,r1,J⟩=>Sa (wpAny_standAt (Sb ?_))))];exact Zy (n pos pins y c G _ L J) λM s2 ⟨g,D,i,B,j⟩=>⟨x::g,D,i,.cons r1 B,j⟩
structure Zr5(K:Ox)(fd:OJ)(ps ks:OC)(g:List Value->List Value->List Value)(gV:List V->List V->List V):Prop where
 to:∀(s:Shared) (us ws:OB),K.In s.heap->(g us ws).length=ps.length->BindsTo s fd ⟨us,ks.zip ws⟩ (ps.zip (g us ws))
 rel:∀{vs:List V} {us:OB} {zs:List V} {ws:OB},ZC vs us->ZC zs ws->ZC (gV vs zs) (g us ws)
variable{g:List Value->List Value->List Value}{gV:List V->List V->List V}
end
structure Zw(N P:OC)(sc:Scope):Prop where
 kind:sc.kind=.function
 co:sc.isCoroutine=false
 gen:sc.isGenerator=false
 nd:N.Nodup
 pre:N.take P.length=P
 par:∀x∈P,sc.names.lookup x=some .local\/sc.names.lookup x=some .cell
 nofree:∀y∈sc.names,y.2≠.free
theorem Za9{kindOf:Str->Option NameKind}{x:Str}:∀{binds:List (Str×Value)} {m:Ow},(∀v,(x,v)∉binds)->bindL kindOf binds m x=m x
 |[],_,_=>rfl
 |(n,v)::r,m,h=>by
  unfold bindL;rw[Za9 λw c=>h w (SB _ c)];split;have:x≠n:=by rintro rfl;exact h v SD
  simp[this];rfl
theorem Zba{kindOf:Str->Option NameKind}{x:Str}:∀{binds:List (Str×Value)} {m:Ow},(∀v,(x,v)∉binds)->bindC kindOf binds m x=m x
 |[],_,_=>rfl
 |(n,v)::r,m,h=>by
  unfold bindC;rw[Zba λw c=>h w (SB _ c)];split;rfl;have:x≠n:=by rintro rfl;exact h v SD
  simp[this]
theorem Zbb{kindOf:Str->Option NameKind}{x:Str}{v:Value}:∀{P:OC} {vs:OB} {i:Nat} {m:Ow},P.Nodup->P[i]? = some x->vs[i]? = some v->kindOf x=some .local ->
  bindL kindOf (P.zip vs) m x=some v
 |[],_,_,_,_,h,_,_=>by simp at h
 |_::_,[],_,_,_,_,h,_=>by simp at h
 |p::P,w::vs,0,m,nd,h1,c,f=>by
  simp at h1 c;subst h1;subst c;show bindL kindOf ((p,w)::P.zip vs) m p=_;unfold bindL;rw[Za9 λv g=>(Ol.mp nd).1 (List.of_mem_zip g).1,SV f];simp
 |p::P,w::vs,i+1,m,nd,h1,c,f=>by
  show bindL kindOf ((p,w)::P.zip vs) m x=_;unfold bindL;exact Zbb (i:=i) (Ol.mp nd).2 (by simpa using h1) (by simpa using c) f
theorem Zbc{kindOf:Str->Option NameKind}{x:Str}{v:Value}:∀{P:OC} {vs:OB} {i:Nat} {m:Ow},P.Nodup->P[i]? = some x->vs[i]? = some v->kindOf x≠some .local ->
  bindC kindOf (P.zip vs) m x=some v
 |[],_,_,_,_,h,_,_=>by simp at h
 |_::_,[],_,_,_,_,h,_=>by simp at h
 |p::P,w::vs,0,m,nd,h1,c,f=>by
  simp at h1 c;subst h1;subst c;show bindC kindOf ((p,w)::P.zip vs) m p=_;unfold bindC;rw[Zba λv g=>(Ol.mp nd).1 (List.of_mem_zip g).1,SU f];simp
 |p::P,w::vs,i+1,m,nd,h1,c,f=>by
  show bindC kindOf ((p,w)::P.zip vs) m x=_;unfold bindC;exact Zbc (i:=i) (Ol.mp nd).2 (by simpa using h1) (by simpa using c) f
def UM(N:OC)(vs:List V):St:=vs.map some++List.replicate (N.length - vs.length) none
def VA(CX:Wd)(P:Program)(w:World)(K:Ox)(mg:Ow)(base:Heap)(N:OC)(qual:Str)(scope:Scope)(f:Addr)(cd:Value)(A:Around)(outer:List Env)(s:Shared)(H:Hp)(E:XK):Cx where
 prog:=P
 w:=w
 K:=K
 mg:=mg
 base:=base
 A:=A.deeper (envOfC qual scope s.heap.objs.size f cd)
 N:=N
 s₀:=s
 H₀:=H
 env:=envOfC qual scope s.heap.objs.size f cd
 outer:=outer
 stack:=envOfC qual scope s.heap.objs.size f cd::outer
 ex:=[]
 calm:=true
 fn:=λ_=>true
 pn:=[]
 xe:=λe h=>wpAny (model P w) (A.deeper (envOfC qual scope s.heap.objs.size f cd)) (leaving (envOfC qual scope s.heap.objs.size f cd) e) (λ_ c=>CX outer H s E e c) (λg c=>CX outer H s E g c) h
def Zbd{f:Scope}(h:f.names.lookup x=some .cell):∃c,(cellsFrom n f.names []).lookup x=some c:=by
 have q:=W.cellsFrom_some f.names n [] (.inl h);exact Option.isSome_iff_exists.mp q
def ZiQ{CX:Wd}{N C:OC}{qual:Str}{f:Addr}{cd:Value}{outer:List Env}{Q:Shared}{E:XK}{us:OB}{vs:List V}
  (S:Zw N C scope) (hd:A.handled=none) (j:Ub P w K mg base A outer s H) (Y:vs.length=C.length) (r:ZC vs us)
  (x:InCallC s s.heap.objs.size (bindL (envOfC qual scope s.heap.objs.size f cd).kindOf (C.zip us) λ_=>none) (cellsFrom (s.heap.objs.size+1) scope.names []) (bindC (envOfC qual scope s.heap.objs.size f cd).kindOf (C.zip us) λ_=>none) Q) :
  Za (VA CX P w K mg base N qual scope f cd A outer s H E) [] (UM N vs) H Q:=by
 have X:C.length<=N.length:=by have:=congrArg List.length S.pre;rw[Sx]at this;lia
 ext⟨G,tk,rfl,O⟩ x.done;have J:∀b:Addr,b∉(VA CX P w K mg base N qual scope f cd A outer s H E).ex:=λb z=>Os (show b∈([]:OH)from z) (by simp);refine⟨⟨j.mod,S.kind,R,R,Sg _,λy z c G g=>?_,λy B=>?_,λy c _ h=>?_,λ_=>hd,Around.frames_deeper j.frames,.inr ⟨R,R⟩,λb z=>Os z (J b),j.bs,j.bsz,λb _ _=>J b,λb z=>Os z (J b),j.funs,j.frf⟩,
  rfl,j.bare,Un.kept O,⟨_,x.toInCall.ns,λi y v G g U=>?_⟩,λy c h=>⟨_,x.cell y c h⟩,j.hok.fresh (Sg _),λy c h=>?_,λp D=>Os (show p∈([]:Ov)from D) (by simp),j.hok.kept O,?_⟩
 exact name_of_addr x.apart (PySem.mem_of_lookup G) (PySem.mem_of_lookup g);have B:scope.names.lookup y=some .cell\/scope.names.lookup y=some .free:=B;rcases B with B|B;exact Zbd B;exact Os R (S.nofree _ (PySem.mem_of_lookup B));exact Nat.le_of_lt (x.above y c (PySem.mem_of_lookup h));have I:i<vs.length:=by
  unfold UM at g;by_cases I:i<vs.length;exact I;rw[Ob (by simpa using I)]at g;rw[List.getElem?_replicate]at g;split at g<;>cases g
 have ha:vs[i]? = some v:=by
  unfold UM at g;rw[List.getElem?_append_left (by simpa using I),Oa]at g;cases e:vs[i]? with
  |none=>rw[e]at g;cases g
  |some a=>rw[e]at g;cases g;rfl
 obtain⟨u,L,T⟩:=r.get ha;have D:C[i]? = some y:=by
  rwa[<-S.pre,List.getElem?_take_of_lt ()]
 have M:C.Nodup:=by rw[<-S.pre];exact S.nd.sublist (List.take_sublist _ _)
 erw[⟨u,T,?_⟩];rcases S.par y (SK D)with k|k;exact .inl ⟨k,Zbb M D L k⟩;obtain⟨c,e⟩:=Zbd (n:=s.heap.objs.size+1) k;erw[.inr ⟨.inl k,c,e,?_⟩];have q:=x.cell y c e;rw[Zbc M D L (by show scope.names.lookup y≠_;rw[k];lia)]at q;exact q;exact j.hok.fresh (Nat.le_of_lt (x.above y c (PySem.mem_of_lookup h)));unfold UM;show _=N.length;rw[Su,Sv,Sz];lia
def Td{CX:Wd}{k:Nat}{f:Addr}{name qual:Str}{params:Arguments}{body:List Stmt}{L kV O M g ct U:Value}{I od:OF}
  {b0:Oz} {N j:OC} {sp:Sp} (lk:K.lookup f=some ⟨U,od,.func (W.fnOf name qual params body scope L kV O M I g ct),b0⟩) (Z:W.codeIn K g qual=true) (S:Zw N j scope)
  (len:∀vs H Q E,sp vs H Q E->vs.length=j.length)
  (Y:∀(A:Around) (outer:List Env) (s:Shared) (H:Hp) (vs:List V) (Q:VK) (E:XK),Yv k (A.deeper (envOfC qual scope s.heap.objs.size f g))->sp vs H Q E ->
   ∃t,XO (VA CX P w K mg base N qual scope f g A outer s H E) body t/\t {nx:=λ_ c=>Q .non c,rt:=Q} (UM N vs) H) :
  Zl P w K mg base CX (k+1) f (W.fnOf name qual params body scope L kV O M I g ct) j sp:=by
 erw[⟨len,λA outer s H args us vs Q E D i X r G=>?_⟩];have hl:=len _ _ _ _ G;have KX:K.In s.heap:=i.mod.kin.keeps λb o e=>(i.bs b o e).1;have a0:s.heap.NoLimit:=i.mod.nolimit.keeps λb o e=>(i.bs b o e).1;have f0:∀y∈j.zip us,scope.names.lookup y.1=some .local\/(scope.names.lookup y.1=some .cell/\((cellsFrom (s.heap.objs.size+1) scope.names []).lookup y.1).isSome=true):=λ⟨c0,v⟩ hy=>by
  rcases S.par c0 (List.of_mem_zip hy).1 with q|q;exact .inl q;exact .inr ⟨q,W.cellsFrom_some _ _ _ (.inl q)⟩
 erw[codeAny_call_function D.depth (KX _ _ lk) R S.co S.gen R (W.codeRec_of KX Z) (X _ _ _ _ ?_)];erw[wpAny_newFunctionEnv_cells S.kind f0 λenv he T x=>?_];subst he;erw[⟨a0.keeps x.toInCall.keep,codeAny_func ?_⟩];obtain⟨t,ht,hq⟩:=Y A outer s H vs Q E (D.deeper _) G;have d0:Za (VA CX P w K mg base N qual scope f g A outer s H E) [] (UM N vs) H T:=ZiQ S D.hd i hl r x;erw[Oq (ht [] T (UM N vs) H _ d0 hq) (λfl B h=>?_) λe B h=>h];have fin:∀{n:St} {c:Hp} {v:V} {u:Value},Za (VA CX P w K mg base N qual scope f g A outer s H E) [] n c B->ZQ v u->Q v c->CE outer P w H s Q u B :=
  λ{n c v u} J C q=>⟨v,c,J.os,J.bare,J.base,J.hok,C,q⟩
 cases fl with
 |ret u =>
  ext⟨v,n,c,J,C,q⟩ h;exact fin J C q
 |next =>
  ext⟨n,c,J,q⟩ h;exact fin (v:=V.non) (u:=Value.none) J R q
 |brk =>
  ext⟨_,_,_,q⟩ h;exact False.elim q
 |cont =>
  ext⟨_,_,_,q⟩ h;exact False.elim q
section
variable{x:Str}{p:Pos}{e:Expr}{es:OD}{t:TA}{id T:String}{r:List V->Hp->VK->Prop}
def Uc(r:List V->Hp->VK->Prop)(t:TA):TE:=λf H Q=>t f H λc g=>r c g Q
def NT(f:YN X (.builtin id) r)(j:Gl X x)(hm:X.mg x=none)(C:bootBuiltins x=some (.builtin id))(ha:PA X (e::es) t)(hn:x ≠ "__name__" := by lia) (v:(x==("__debug__" : Str))=false:=by lia)
  (i:starEach (e::es) X.env=(false,eval e X.env)::starEach es X.env:=by rfl) (u:(backTo pos (starEach es X.env)).any (·.1)=false:=by rfl):PE X (.Call (.Name x p) (e::es) [] pos) (Uc r t):=by
 intro pins s c H Q I h;erw[wpAny_Call_Name_kw (VH I j hm C ?_ hn v)];exact PyProof.Rows.callWith_builtin1 (Zy (ha pos pins s c H _ I h) λD n ⟨g,y,E,r1,B⟩=>f pins n c y g D Q E r1 B) i u
def Z5(f:YN X (.type T) r)(j:Gl X x)(hm:X.mg x=none)(C:bootBuiltins x=some (.type T))(ha:PA X (e::es) t)(hn:x ≠ "__name__" := by lia) (v:(x==("__debug__" : Str))=false:=by lia)
  (i:starEach (e::es) X.env=(false,eval e X.env)::starEach es X.env:=by rfl) (u:(backTo pos (starEach es X.env)).any (·.1)=false:=by rfl):PE X (.Call (.Name x p) (e::es) [] pos) (Uc r t):=by
 intro pins s c H Q I h;erw[wpAny_Call_Name_kw (VH I j hm C ?_ hn v)];exact PyProof.Rows.callWith_type1 (Zy (ha pos pins s c H _ I h) λD n ⟨g,y,E,r1,B⟩=>f pins n c y g D Q E r1 B) i u
end
end L2
namespace HT
open PySem PyProof.Rows
section
open PySem.SeqAt
open PySem.AutoSeq1 (wpAny_loadPart')
open PySem.MeetsSeq PySem.MeetsSeq2 PySem.MeetsSeq3
end
def sIx(n d:Nat):Option Int->Nat
 |none=>d
 |some v=>if v<0 then (v+(n:Int)).toNat else min v.toNat n
def sIx_none(n d:Nat):sIx n d none=d:=rfl
def sIx_nat(n d k:Nat):sIx n d (some (k:Int))=min k n:=by
 show(if (k:Int)<0 then ((k:Int)+(n:Int)).toNat else min (k:Int).toNat n)=min k n;rw[if_neg (),Int.toNat_natCast]
end HT
namespace L2
open PySem PySem.Spec PyProof.Rows
abbrev TO:=St->Hp->(Option Int->Hp->Prop)->Prop
def PO(X:Cx)(e:Option Expr)(t:TO):Prop :=
 ∀(pins:Ov) (s:Shared) (σ:St) (H:Hp) (Q:Option Int->Hp->Prop),Za X pins σ H s->t σ H Q ->
  wpAny (model X.prog X.w) X.A (evalPart e X.env) (λu f=>∃o c,Za X pins σ c f/\IsPart u o/\Q o c) X.xe s
def ZiR:TO:=λ_ H Q=>Q none H
inductive ZiS(Q:Option Int->Hp->Prop)(x:V)(H1:Hp):Prop|mk i (_:x=.int i) (_:Q (some i) H1)
def ZiT(t:TE):TO:=λc H Q=>t c H λx f=>ZiS Q x f
section
variable{e:Expr}{te:TE}{lo hi:Option Expr}{tl th:TO}{p2:Pos}
def QC:PO X none ZiR:=by
 intro pins s c H Q I h;rw[evalPart_none];exact Sb ⟨none,H,I,.none,h⟩
def Ud(h:PE X e te):PO X (some e) (ZiT te):=by
 intro pins s c H Q I f;rw[evalPart_some];erw[Zy (h pins s c H _ I f) λu v ⟨x,g,n,r1,j⟩=>?_];ext⟨i,rfl,q⟩ j;ext⟨t,rfl⟩ r1;exact⟨some i,g,n,.int i t,q⟩
def Te(X:Cx)(r:V->Option Int->Option Int->Hp->VK->Prop):Prop :=
 ∀(pins:Ov) (s:Shared) (σ:St) (H:Hp) (x:V) (v vl vu:Value) (lo hi:Option Int) (sl:Addr) (Q:VK),Za X pins σ H s->ZQ x v->s.heap.IsSliceOf sl vl vu .none->IsPart vl lo->IsPart vu hi->r x lo hi H Q ->
  ∃T id,typeLookup (.type T) "__getitem__"=pure (some (.builtin id))/\s.TypeIs v T/\wpAny (model X.prog X.w) X.A (getItem v (.ref sl)) (EP X pins σ Q) X.xe s
def tSl(r:V->Option Int->Option Int->Hp->VK->Prop)(te:TE)(tl th:TO):TE:=λc H Q=>te c H λx h=>tl c h λl g=>th c g λu f=>r x l u f Q
def Qj(T:Te X r)(J:PE X e te)(hl:PO X lo tl)(D:PO X hi th):PE X (.Subscript e (.Slice lo hi none p2) pos) (tSl r te tl th):=by
 intro pins s f a0 Q I h;erw[Subscript_ (Zy (J pins s f a0 _ I h) λv Y ⟨x,M,P,r1,O⟩=>?_)];erw[wpAny_Slice (Zy (hl pins Y f M _ P O) λg s2 ⟨l,L,H,y,G⟩=>Zy (D pins s2 f L _ H G) λi c ⟨u,j,B,S,U⟩=>?_)];rw[evalPart_none];erw[Sb ?_];have n:Za X pins f j {c with heap:=c.heap.push {cls:=.type "slice",data:=.fields #[g,i,.none]} }:=B.kept (t':=c.toks) λb ob q=>Sc _ q;obtain⟨b0,id,Z,C,E⟩:=T pins {c with heap:=c.heap.push {cls:=.type "slice",data:=.fields #[g,i,.none]} } f j x v g i l u c.heap.objs.size Q n r1 (Heap.IsSliceOf.new ..) y S U;show wpAny (model X.prog X.w) X.A (subscriptTail e (.Slice lo hi none p2) v (.ref c.heap.objs.size)) (EP X pins f Q) X.xe {c with heap:=c.heap.push {cls:=.type "slice",data:=.fields #[g,i,.none]} };exact tail_any (ops:=[.ref c.heap.objs.size,v]) C Z E (by with_unfolding_all rfl)
def VL(xs:List V)(lo hi:Option Int):List V:=(xs.drop (HT.sIx xs.length 0 lo)).take (HT.sIx xs.length xs.length hi - HT.sIx xs.length 0 lo)
def ZiU(xs:List V)(lo hi:Option Int):(VL xs lo hi).length<=xs.length:=by
 unfold VL;rw[Sx,SA];lia
end
def F1(n:Nat)(i:Int):Option Nat:=if 0<=i then (if i<n then some i.toNat else none)else if -(n:Int)<=i then some (i+n).toNat else none
def Y9{c:Type}(xs:List c)(i:Int):Option c:=(F1 xs.length i).bind λj=>xs[j]?
def ZiV(h:F1 n i=some j):seqIndex? i n=some j/\j<n/\-(n:Int)<=i/\i<n:=by
 unfold F1 at h;by_cases f:0<=i;rw[SV f]at h;by_cases c:i<n;rw[SV c]at h;have e:i.toNat=j:=So h;exact⟨by rw[seqIndex_of f c,e],(),(),c⟩;rw[SU c]at h;cases h;rw[SU f]at h;by_cases c:-(n:Int)<=i;rw[SV c]at h;have e:(i+n).toNat=j:=So h;exact⟨by rw[seqIndex_neg () c,e],(),c,()⟩;rw[SU c]at h;cases h
def Tf{c:Type}{xs:List c}{i:Int}{v:c}(h:Y9 xs i=some v):∃j,seqIndex? i xs.length=some j/\xs[j]? = some v/\j<xs.length/\-(xs.length:Int)<=i/\i<xs.length:=by
 unfold Y9 at h;cases e:F1 xs.length i with
 |none=>rw[e]at h;cases h
 |some j =>
  rw[e]at h;obtain⟨f,u,n,g⟩:=ZiV e;exact⟨j,f,h,u,n,g⟩
def Ue{c:Type}{xs:List c}{j:Nat}{v:c}(h:xs[j]? = some v):Y9 xs (j:Int)=some v:=by
 have f:j<xs.length:=(Sr.mp h).1;have e:F1 xs.length (j:Int)=some j:=by
  unfold F1;rw[SV (),SV ()];simp
 unfold Y9;rwa[e]
def Zbe(b:Expr):Prop:=∀o i,subscripted b false o i=operate [o,i] (getItem o i)
def VB(X:Cx)(r:R2):Prop :=
 ∀(value slice:Expr) (pins:Ov) (s:Shared) (σ:St) (H:Hp) (x y:V) (v u:Value) (Q:VK),Za X pins σ H s->ZQ x v->ZQ y u->r x y H Q ->
  subscripted slice false v u=operate [v,u] (getItem v u)->wpAny (model X.prog X.w) X.A (subscriptTail value slice v u) (EP X pins σ Q) X.xe s
def Q9(X:Cx)(id:String)(r:V->List V->Hp->VK->Prop):Prop :=
 ∀(pins:Ov) (s:Shared) (σ:St) (H:Hp) (x:V) (xs:List V) (v:Value) (us:OB) (Q:VK),Za X pins σ H s->ZQ x v->ZC xs us->r x xs H Q ->
  wpAny (model X.prog X.w) X.A (call (.builtin id) (v::us)) (EP X pins σ Q) X.xe s
section
variable{a b:Expr}{ta tb:TE}
def Tg(f:VB X r)(ha:PE X a ta)(g:PE X b tb)(C:Zbe b):PE X (.Subscript a b pos) (Vz r ta tb):=by
 intro pins s B H Q I h;exact Subscript_ (R1 ha g I h λv u s2 x y n c j i q=>f a b pins s2 B n x y v u Q c j i q (C _ _))
inductive A0(K:Ox)(x:V)(y:V)(H:Hp)(Q:VK):Prop|mk p xs i v (_:x=.ref p) (_:y=.int i) (_:Zd K H p xs) (_:Y9 xs i=some v) (_:Q v H)
inductive Th(K:Ox)(x:V)(y:V)(H:Hp)(Q:VK):Prop|mk p xs i v (_:x=.ref p) (_:y=.int i) (_:Zp K H p xs) (_:Y9 xs i=some v) (_:Q v H)
inductive ZiW(x:V)(y:V)(H:Hp)(Q:VK):Prop|mk z i c (_:x=.str z) (_:y=.int i) (_:z.length<=sizeLine) (_:Y9 z.cps.toList i=some c) (_:Q (.str ⟨#[c]⟩) H)
def Yq:VB X (A0 X.K):=by
 intro value slice pins s u H x y a0 b0 Q I M J h v;ext⟨p,U,i,z,rfl,rfl,D,G,q⟩ h;cases M;ext⟨t,rfl⟩ J;obtain⟨P,r,f,Y⟩:=I.list D;obtain⟨j,c,O,Z,C,S⟩:=Tf G;obtain⟨w,B,E⟩:=r.get O;have T:=r.length;have hn:=E7;have fin:EP X pins u Q w s:=⟨z,H,I,E,q⟩;by_cases n:0<=i;have g:i.toNat=j:=by
  rw[seqIndex_of n S]at c;exact So c
 exact item_listR f.isList n () (by rw[g];simpa using B) fin v;have g:(i+(P.toArray.size:Int)).toNat=j:=by
  rw[seqIndex_neg () C]at c;rw[SN,<-T];exact So c
 exact subscriptTail_builtinR (x:=w) f.isList.typeIs slot_list_getitem.lookup
  (wpAny_getItem_list_neg (Q:=λr L=>r=w/\EP X pins u Q r L) f.isList () (by rw[SN]<;>omega) () (by rw[g];simpa using B) ⟨R,fin⟩) v
def Yj:VB X (Th X.K):=by
 intro value slice pins s c H x y v u Q I L G h C;ext⟨p,P,i,z,rfl,rfl,n,D,q⟩ h;cases L;ext⟨t,rfl⟩ G;obtain⟨Y,r,f,T⟩:=I.tuple n;obtain⟨j,g,M,U,S,Z⟩:=Tf D;obtain⟨w,E,B⟩:=r.get M;have O:=r.length;have hn:=E7;have fin:EP X pins c Q w s:=⟨z,H,I,B,q⟩;exact subscriptTail_builtinR (x:=w) f.typeIs slot_tuple_getitem.lookup
  (getItem_tuple (j:=j) (Q:=λr J=>r=w/\EP X pins c Q r J) f () () (by rwa[SN,<-O]) (by simpa using E) ⟨R,fin⟩) C
def NU:VB X ZiW:=by
 intro value slice pins s O H x y v u Q I E D h B;ext⟨z,i,c,rfl,rfl,S,C,q⟩ h;ext⟨t,rfl⟩ E;ext⟨P,rfl⟩ D;obtain⟨j,f,J,T,n,L⟩:=Tf C;have M:z.cps.toList.length=z.length:=by simp[Str.length]
 rw[M]at f n L;have hn:=E7;exact tail_any (typeIs_str s z t) slot_str_getitem.lookup (getItem_str (c:=c) (by
  have G:decide (i < -(2 ^ 63:Int))=false:=SR ();have g:decide (i ≥ 2 ^ 63)=false:=SR ();rw[G,g,Bool.or_false]) (by rw[f];simpa using J) ⟨.str ⟨#[c]⟩,H,I.tok _,⟨_,R⟩,q⟩) B
def ZiX(lo hi:Option Int)(n:Nat):(sliceBounds lo hi none n).1=((HT.sIx n 0 lo:Nat):Int)/\(sliceBounds lo hi none n).2.1=((HT.sIx n n hi:Nat):Int)/\(sliceBounds lo hi none n).2.2=1:=by
 erw[⟨?_,?_,R⟩];cases lo with
 |none=>simp[sliceBounds,HT.sIx]
 |some i =>
  simp only[sliceBounds,HT.sIx,Option.getD_none,show(1:Int)>0 by lia,if_true];by_cases h:i<0;simp only[h,if_true]<;>omega
  simp only[h,if_false]<;>omega
 cases hi with
 |none=>simp[sliceBounds,HT.sIx]
 |some i =>
  simp only[sliceBounds,HT.sIx,Option.getD_none,show(1:Int)>0 by lia,if_true];by_cases h:i<0;simp only[h,if_true]<;>omega
  simp only[h,if_false]<;>omega
def ZiY(c:OB)(lo hi:Option Int):slicePick c.toArray lo hi none=((c.drop (HT.sIx c.length 0 lo)).take (HT.sIx c.length c.length hi - HT.sIx c.length 0 lo)).toArray:=by
 obtain⟨h,f,g⟩:=ZiX lo hi c.toArray.size;unfold slicePick;rw[h,f,g];simp only[sliceRange_one,pick_run,SN]<;>rfl
inductive ZiZ(K:Ox)(x:V)(lo:Option Int)(hi:Option Int)(H:Hp)(Q:VK):Prop|mk a xs (_:x=.ref a) (_:Zd K H a xs) (_:∀p,H p=none->Q (.ref p) (upd H p (.lst (VL xs lo hi))))
def Ti:Te X (ZiZ X.K):=by
 intro pins s C H x v D E lo f J Q I y n i B h;ext⟨a,c,rfl,u,q⟩ h;cases y;obtain⟨G,r,g,j⟩:=I.list u;have hlen:=r.length;erw[⟨"list",_,slot_list_getitem.lookup,g.isList.typeIs,?_⟩];erw[wpAny_getItem_list_slice g.isList n i B .none (by simp) ?_ (by rw[SN]<;>omega)];rw[ZiY,<-hlen];erw[⟨.ref s.heap.objs.size,_,I.laid (t':=s.toks) (o:=.lst (VL c lo f)) (λb ob q=>Sc _ q) (Sg _) ?_,R,q _ (I.hok.fresh (Sg _))⟩];exact⟨Sh (ZiU c lo f) j,_,0,(r.drop (HT.sIx c.length 0 lo)).take (HT.sIx c.length c.length f - HT.sIx c.length 0 lo),Sd _ R⟩
def UN:V->Bool
 |.non=>true
 |.bl _=>true
 |.int _=>true
 |.str _=>true
 |_=>false
def Vj:V->V->Bool
 |.non,.non=>true
 |.bl a,.bl b=>a==b
 |.bl a,.int b=>(if a then 1 else 0)==b
 |.int a,.bl b=>a==(if b then 1 else 0)
 |.int a,.int b=>a==b
 |.str a,.str b=>a==b
 |_,_=>false
def Zi0(h:ZQ y u)(c:ZQ x v)(i:UN y=true)(g:UN x=true):SeqAt.EqAt A s u v (Vj y x):=by
 cases y with
 |non =>
  cases h;cases x with
  |non=>cases c;exact SeqAt.EqAt.same _
  |bl b=>cases c;exact SeqAt.EqAt.none_bool b
  |int b=>ext⟨t,rfl⟩ c;exact SeqAt.EqAt.none_int b t
  |str b=>ext⟨t,rfl⟩ c;exact SeqAt.EqAt.none_str b t
  |_=>exact Os (show false=true from g) SO
 |bl a =>
  cases h;cases x with
  |non=>cases c;exact SeqAt.EqAt.bool_none a
  |bl b=>cases c;exact SeqAt.EqAt.bool_bool a b
  |int b=>ext⟨t,rfl⟩ c;exact SeqAt.EqAt.bool_int a b t
  |str b=>ext⟨t,rfl⟩ c;exact SeqAt.EqAt.bool_str a b t
  |_=>exact Os (show false=true from g) SO
 |int a =>
  ext⟨f,rfl⟩ h;cases x with
  |non=>cases c;exact SeqAt.EqAt.int_none a f
  |bl b=>cases c;exact SeqAt.EqAt.int_bool a f b
  |int b=>ext⟨t,rfl⟩ c;exact SeqAt.EqAt.int_int a f b t
  |str b=>ext⟨t,rfl⟩ c;exact SeqAt.EqAt.int_str a f b t
  |_=>exact Os (show false=true from g) SO
 |str a =>
  ext⟨f,rfl⟩ h;cases x with
  |non=>cases c;exact SeqAt.EqAt.str_none a f
  |bl b=>cases c;exact SeqAt.EqAt.str_bool a f b
  |int b=>ext⟨t,rfl⟩ c;exact SeqAt.EqAt.str_int a f b t
  |str b=>ext⟨t,rfl⟩ c;exact SeqAt.EqAt.str_str a f b t
  |_=>exact Os (show false=true from g) SO
 |_=>exact Os (show false=true from i) SO
def WV(x:V)(u:Value):Bool:=match u with
 |.none=>Vj .non x
 |.bool b=>Vj (.bl b) x
 |.int i _=>Vj (.int i) x
 |.str z _=>Vj (.str z) x
 |_=>false
def Zbf(r:ZQ y u)(f:UN y=true):WV x u=Vj y x:=by
 cases y with
 |non=>cases r;rfl
 |bl b=>cases r;rfl
 |int i=>ext⟨t,rfl⟩ r;rfl
 |str z=>ext⟨t,rfl⟩ r;rfl
 |_=>exact Os (show false=true from f) SO
theorem LX:∀{xs:List V} {us:OB},ZC xs us->xs.all UN=true->us.any (WV x)=xs.any λy=>Vj y x
 |_,_,.nil,_=>rfl
 |y::xs,u::us,.cons r t,f=>by
  rw[List.all_cons,Bool.and_eq_true]at f;rw[List.any_cons,List.any_cons,Zbf r f.1,LX t f.2]
theorem LY(h:ZQ x v)(g:UN x=true):∀{xs:List V} {us:OB},ZC xs us->xs.all UN=true->∀u∈us,SeqAt.EqAt A s u v (WV x u)
 |_,_,.nil,_=>λu c=>by cases c
 |y::xs,u::us,.cons r t,f=>λi c=>by
  rw[List.all_cons,Bool.and_eq_true]at f;rcases SF.mp c with rfl|c;rw[Zbf r f.1];exact Zi0 r h f.1 g;exact LY h g t f.2 i c
def UO(x:V)(xs:List V):Bool:=xs.any λy=>Vj y x
inductive rIn(K:Ox)(neg:Bool)(x:V)(y:V)(H:Hp)(Q:VK):Prop|mk p xs (_:y=.ref p) (_:(Zd K H p xs\/Zp K H p xs)) (_:UN x=true) (_:xs.all UN=true) (_:Q (.bl (if neg then !UO x xs else UO x xs)) H)
def NV:YH X (compareOp .In) (rIn X.K false):=by
 intro pins s E H x y v u Q I n B h;ext⟨p,D,rfl,c,j,fs,q⟩ h;cases B;rcases c with c|c;obtain⟨f,r,i,C⟩:=I.list c;erw[SeqAt.in_listAt (WV x) i.isList (λw g=>LY n j r fs w (by simpa using g)) ⟨.bl _,H,I,R,?_⟩];rwa[show f.toArray.any (WV x)=f.any (WV x) by simp,LX r fs];obtain⟨f,r,i,C⟩:=I.tuple c;erw[SeqAt.in_tupleAt (WV x) i (λw g=>LY n j r fs w (by simpa using g)) ⟨.bl _,H,I,R,?_⟩];rwa[show f.toArray.any (WV x)=f.any (WV x) by simp,LX r fs]
def Zi1:YH X (compareOp .NotIn) (rIn X.K true):=by
 intro pins s E H x y v u Q I n B h;ext⟨p,D,rfl,c,j,fs,q⟩ h;cases B;rcases c with c|c;obtain⟨f,r,i,C⟩:=I.list c;erw[SeqAt.notIn_listAt (WV x) i.isList (λw g=>LY n j r fs w (by simpa using g)) ⟨.bl _,H,I,R,?_⟩];rwa[show f.toArray.any (WV x)=f.any (WV x) by simp,LX r fs];obtain⟨f,r,i,C⟩:=I.tuple c;erw[SeqAt.notIn_tupleAt (WV x) i (λw g=>LY n j r fs w (by simpa using g)) ⟨.bl _,H,I,R,?_⟩];rwa[show f.toArray.any (WV x)=f.any (WV x) by simp,LX r fs]
def X0:YN X (.builtin "len") (λxs H Q=>∃p c,xs=[.ref p]/\(Zd X.K H p c\/Zp X.K H p c)/\Q (.int c.length) H):=by
 intro pins s x H xs y Q I r h;ext⟨p,c,rfl,f,q⟩ h;obtain⟨u,rfl,n⟩:=Y4 r;cases n;have hn:=E7;rcases f with f|f;obtain⟨j,g,i,v⟩:=I.list f;have hlen:=g.length;exact Calls.call_len_list i.isList (by simp only[SN]<;>omega) ⟨.int c.length,H,I.tok _,⟨s.toks+1,by rw[SN,hlen]⟩,q⟩;obtain⟨j,g,i,v⟩:=I.tuple f;have hlen:=g.length;exact len_tuple i (by simp only[SN]<;>omega) ⟨.int c.length,H,I.tok _,⟨s.toks+1,by rw[SN,hlen]⟩,q⟩
def LZ:YN X (.builtin "len") (λxs H Q=>∃z,xs=[.str z]/\z.length<=sizeLine/\Q (.int z.length) H):=by
 intro pins s f H xs g Q I r h;ext⟨z,rfl,c,q⟩ h;obtain⟨u,rfl,t,rfl⟩:=Y4 r;have hn:=E7;exact len_str () ⟨.int z.length,H,I.tok _,⟨_,R⟩,q⟩
def UP:YN X (.type "list") (λxs H Q=>∃p g,xs=[.ref p]/\(Zd X.K H p g\/Zp X.K H p g)/\∀l,H l=none->Q (.ref l) (upd H l (.lst g))):=by
 intro pins s G H xs J Q I r h;ext⟨p,g,rfl,v,q⟩ h;obtain⟨u,rfl,E⟩:=Y4 r;cases E;have fin:∀(f:OB),ZC g f->g.length<=sizeLine->∀(c:Heap) (j:Nat),(∀b D,s.heap.get? b=some D->c.get? b=some D) ->
   c.get? s.heap.objs.size=some {cls:=.type "list",dict:=none,data:=.seq f.toArray j,slots:=#[]}->EP X pins G Q (.ref s.heap.objs.size) {s with heap:=c}:=λf i x c j kp e =>
  ⟨.ref s.heap.objs.size,_,I.laid (t':=s.toks) kp (Sg _) (show Yo X.prog X.w _ c _ (.lst g)from⟨x,f,j,i,e⟩),R,q _ (I.hok.fresh (Sg _))⟩
 rcases v with v|v;obtain⟨f,i,C,x⟩:=I.list v;have hlen:=i.length;ext⟨o,B,y,n,hd⟩ C.isList;exact call_list_seq p (.inl R) B y hd (λc j kp e=>fin f i x c j kp e) (by simp only[SN]<;>omega);obtain⟨f,i,C,x⟩:=I.tuple v;have hlen:=i.length;ext⟨o,B,y,n,hd⟩ C;exact call_list_seq p (.inr R) B y hd (λc j kp e=>fin f i x c j kp e) (by simp only[SN]<;>omega)
def L0:YN X (.type "tuple") (λxs H Q=>∃p c,xs=[.ref p]/\((Zd X.K H p c/\∀l,H l=none->Q (.ref l) (upd H l (.tup c)))\/(Zp X.K H p c/\Q (.ref p) H))):=by
 intro pins s x H xs D Q I r h;ext⟨p,c,rfl,h⟩ h;obtain⟨u,rfl,C⟩:=Y4 r;cases C;rcases h with⟨g,q⟩|⟨g,q⟩;obtain⟨i,j,n,v⟩:=I.list g;have hlen:=j.length;erw[call_tuple_list n.isList (λf kp=>?_) (by simp only[SN]<;>omega)];have y:Za X pins x H {s with heap:=f}:=I.kept (t':=s.toks) kp;have B:Za X pins x (upd H f.objs.size (.tup c)) {s with heap:=f.push {cls:=.type "tuple",data:=.seq i.toArray} } :=
  y.laid (t':=s.toks) (λb o e=>Sc _ e) (Sg _) (show Yo X.prog X.w _ _ _ (.tup c)from⟨v,i,j,IsTup.new _ _⟩)
 exact⟨.ref f.objs.size,_,B,R,q _ (y.hok.fresh (Sg _))⟩;obtain⟨i,j,n,v⟩:=I.tuple g;exact call_tuple_same n ⟨.ref p,H,I,R,q⟩
def Tj(K:Ox)(T:String)(x:V)(H:Hp):Prop:=match x with
 |.str _=>T="str"
 |.int _=>T="int"
 |.ref p=>(T="list" /\ ∃f,Zd K H p f)\/(T="tuple" /\ ∃o,K.lookup p=some o/\o.cls=.type "tuple" /\ o.dict=none) \/
   (T="dict" /\ ((∃c,H p=some (.dK c))\/∃c,H p=some (.dT c)))\/(T="set" /\ ∃S n,H p=some (.set S n))
 |_=>False
def Zbg(I:Za X pins B H s)(r:ZQ x v)(ty:Tj X.K T x H) :
  s.TypeIs v T/\∀a,v=.ref a->∃ob,s.heap.get? a=some ob/\ob.dict=none:=by
 cases x with
 |str z =>
  ext⟨t,rfl⟩ r;cases (show T="str" from ty);exact⟨typeIs_str s z t,λ_ e=>nomatch e⟩
 |int i =>
  ext⟨t,rfl⟩ r;cases (show T="int" from ty);exact⟨typeIs_int s i t,λ_ e=>nomatch e⟩
 |ref p =>
  cases r;rcases ty with⟨rfl,C,u⟩|⟨rfl,o,f,j,hd⟩|⟨rfl,f⟩|⟨rfl,S,n,f⟩;obtain⟨D,_,h,_⟩:=I.list u;erw[⟨h.isList.typeIs,λa e=>?_⟩];cases e;ext⟨o,n,e,c,hd,_⟩ h;exact⟨o,e,hd⟩;erw[⟨⟨o,I.kIn p o f,j⟩,λa e=>?_⟩];cases e;exact⟨o,I.kIn _ o f,hd⟩;have z:∃o,s.heap.get? p=some o/\o.ExactDict:=by
   rcases f with⟨y,f⟩|⟨y,f⟩;obtain⟨_,_,_,_,o,_,_,e,ex,_⟩:=I.hok p _ f;exact⟨o,e,ex⟩;obtain⟨_,_,_,_,o,_,_,e,ex,_⟩:=I.hok p _ f;exact⟨o,e,ex⟩
  ext⟨o,e,ex⟩ z;erw[⟨⟨o,e,ex.1⟩,λa g=>?_⟩];cases g;exact⟨o,e,ex.2.1⟩;obtain⟨o,_,_,_,e,ex,_⟩:=I.hok p _ f;erw[⟨⟨o,e,ex.1⟩,λa g=>?_⟩];cases g;exact⟨o,e,ex.2.1⟩
 |_=>exact False.elim ty
def Zi2(K:Ox)(T:String)(r:V->List V->Hp->VK->Prop)(to:TE):TE:=λf H Q=>to f H λx c=>Tj K T x c/\r x [] c Q
def tBM(K:Ox)(T:String)(r:V->List V->Hp->VK->Prop)(to:TE)(t:TA):TE:=λc H Q=>to c H λx f=>Tj K T x f/\t c f λg h=>r x g h Q
variable{o e:Expr}{es:OD}{to:TE}{t:TA}{name:Str}{apos cpos:Pos}{T id:String}{r:V->List V->Hp->VK->Prop}
def Zi3(B:PlainAttrs T)(slot:Slot T name id)(y:typeOf (.builtin id)=pure (.type "method_descriptor")) (hm:Q9 X id r) (i:PE X o to)
  (u:attributeBase o name X.env (eval o X.env)=eval o X.env:=by rfl) (j:(apos.endLine==cpos.line)=true:=by rfl):PE X (.Call (.Attribute o name apos) [] [] cpos) (Zi2 X.K T r to):=by
 intro pins s c H Q I h;erw[wpAny_Call_method0_late u j (Zy (i pins s c H _ I h) λv n ⟨x,C,f,r1,ty,E⟩=>?_)];obtain⟨g,D⟩:=Zbg f r1 ty;exact⟨T,id,B,slot,y,g,D,Calls.callWith_builtin R (PySem.evalArgs_none (hm pins n c C x [] v [] Q f r1 .nil E))⟩
def Xa(E:PlainAttrs T)(slot:Slot T name id)(C:typeOf (.builtin id)=pure (.type "method_descriptor")) (hm:Q9 X id r) (y:PE X o to) (ha:PA X (e::es) t)
  (Z:attributeBase o name X.env (eval o X.env)=eval o X.env:=by rfl)
  (U:((backTo cpos (starEach (e::es) X.env)).all (λx=>!x.1) && (backToKw cpos (keywordEach [] X.env)).all (λx=>x.1.isSome)
   && decide ((e::es).length+([]:List Keyword).length+(if ([]:List Keyword).isEmpty then 0 else 1)<30))=true:=by rfl)
  (B:(apos.endLine==cpos.line)=true:=by rfl) (D:starEach (e::es) X.env=(false,eval e X.env)::starEach es X.env:=by rfl) (n:(backTo cpos (starEach es X.env)).any (·.1)=false:=by rfl) :
  PE X (.Call (.Attribute o name apos) (e::es) [] cpos) (tBM X.K T r to t):=by
 intro pins s c H Q I h;erw[wpAny_Call_method_late Z U B R (Zy (y pins s c H _ I h) λv Y ⟨x,M,g,r1,ty,P⟩=>?_)];obtain⟨i,O⟩:=Zbg g r1 ty;erw[⟨T,id,E,slot,C,i,O,?_⟩];have f:=ha cpos pins Y c M _ g P;rw[D]at f ⊢;erw[Calls.callWith_builtin (by show(false || (backTo cpos (starEach es X.env)).any (·.1))=false;rw[n]<;>rfl) (Calls.evalArgs_plain ?_)];exact Zy f λS s2 ⟨u,L,J,j,G⟩=>hm pins s2 c L x u v S Q J r1 j G
end
def Tk(X:Cx)(id:String)(r:V->List V->Hp->VK->Prop):Prop :=
 ∀(pins:Ov) (s:Shared) (σ:St) (H:Hp) (x:V) (xs:List V) (v:Value) (us:OB) (Q:VK),Za X pins σ H s->ZQ x v->ZC xs us->r x xs H Q ->
  wpAny (model X.prog X.w) X.A (call (.builtin id) (v::us)) (EP X pins σ Q) X.xe s
theorem ZC.one:∀{x:V} {us:OB},ZC [x] us->∃u,us=[u]/\ZQ x u
 |_,_,.cons r .nil=>⟨_,R,r⟩
theorem ZC.zero:∀{us:OB},ZC [] us->us=[]
 |_,.nil=>rfl
def ZC.dropLast{xs:List V}{us:OB}(h:ZC xs us):ZC xs.dropLast us.dropLast:=by
 induction h with
 |nil=>exact .nil
 |cons r t c =>
  cases t with
  |nil=>exact .nil
  |cons q f=>exact .cons r c
theorem ZC.rep(h:ZC xs us):∀k:Nat,ZC (List.replicate k xs).flatten (List.replicate k us).flatten
 |0=>.nil
 |k+1=>by
  rw[List.replicate_succ,List.replicate_succ,List.flatten_cons,List.flatten_cons];exact ZC.append h (ZC.rep h k)
def Zi4{f:Type}(l:List f):l.eraseIdx (l.length - 1)=l.dropLast:=by
 induction l with
 |nil=>rfl
 |cons a r c =>
  cases r with
  |nil=>rfl
  |cons b r =>
   have e:(a::b::r).length - 1=((b::r).length - 1)+1:=by
    have g:(a::b::r).length=r.length+2:=rfl;have h:(b::r).length=r.length+1:=rfl;lia
   rw[e,List.eraseIdx_cons_succ,c]
   all_goals rfl
theorem Zbh(c:OB):∀(k:Nat) (f:OB),
  List.foldl (λi g=>i++g) f.toArray (List.replicate k c.toArray)=(f++(List.replicate k c).flatten).toArray
 |0,f=>by simp
 |k+1,f=>by
  have e:f.toArray++c.toArray=(f++c).toArray:=by simp
  have h:(f++c)++(List.replicate k c).flatten=f++(List.replicate (k+1) c).flatten:=by
   rw[List.replicate_succ,List.flatten_cons,Od]
  rw[<-h,<-Zbh c k (f++c),<-e,List.replicate_succ,List.foldl_cons]
section
variable{σ:St}{l b:Addr}{xs ys zs:List V}
def Za.lset{c its':OB}(I:Za X pins σ H s)(v:H l=some (.lst xs))
  (e:s.heap.get? l=some {cls:=.type "list",data:=.seq c.toArray n}) (h:f c.toArray=its'.toArray) (y:ZC ys its') (j:ys.length<=sizeLine) :
  Za X pins σ (upd H l (.lst ys)) {s with heap:=s.heap.update l (Obj.mapSeq f),toks:=t'}:=by
 have q:=PySem.IsL.update e f;rw[h]at q;erw[I.write (x:=l) (e:=l) (by rw[v];exact trivial) (.inl R) (λB u g i=>(Heap.get?_update_other s.heap (Obj.mapSeq f) (Ne.symm g)).trans i) ⟨_,q⟩ ?_];exact⟨j,its',_,y,q⟩
def Za.lnew{c:OB}(I:Za X pins σ H s)(f:ZC ys c)(hz:ys.length<=sizeLine) :
  Za X pins σ (upd H s.heap.objs.size (.lst ys)) {s with heap:=s.heap.push {cls:=.type "list",data:=.seq c.toArray},toks:=t'} :=
 I.laid (λ_ _ q=>Sc _ q) (Sg _) ⟨hz,c,0,f,Sd _ R⟩
def Za.fresh(I:Za X pins σ H s):H s.heap.objs.size=none:=I.hok.fresh (Sg _)
def Za.lstM(I:Za X pins σ H s)(f:H l=some (.lst xs)):xs.length<=sizeLine/\∃(c:OB) (n:Nat),ZC xs c/\xs.length=c.length/\s.heap.get? l=some {cls:=.type "list",data:=.seq c.toArray n}:=by
 obtain⟨z,c,n,r,e⟩:=I.hok l _ f;exact⟨z,c,n,r,r.length,e⟩
def Zbi(h:n<=sizeLine):Builtin.List.listTooLong n=false:=by
 unfold Builtin.List.listTooLong;exact SR ()
end
inductive Zi5(x:V)(vs:List V)(H:Hp)(Q:VK):Prop|mk l xs y (_:x=.ref l) (_:vs=[y]) (_:H l=some (.lst xs)) (_:xs.length<sizeLine) (_:Q .non (upd H l (.lst (xs++[y]))))
def Ma:Tk X "list.append" Zi5:=by
 intro pins s B H x C v E Q I g i h;ext⟨l,j,y,rfl,rfl,c,D,q⟩ h;cases g;ext⟨u,rfl,ru⟩ i.one;obtain⟨z,f,n,r,G,e⟩:=I.lstM c;erw[call_meets F.slot_list_append ⟨_,e,R⟩ F.entry_list_append (F.args_list_append_2 _ _) (PySem.list_append l f.toArray n u (by rw[SN];lia)) ⟨e,?_⟩];erw[⟨.non,_,I.lset (its':=f++[u]) c e (by simp) (r.append (.cons ru .nil)) ?_,R,q⟩];rw[Su,Sw];lia
inductive Zbj(x:V)(vs:List V)(H:Hp)(Q:VK):Prop|mk l b xs zs (_:x=.ref l) (_:vs=[.ref b]) (_:H l=some (.lst xs)) (_:H b=some (.lst zs)) (_:xs.length+zs.length<=sizeLine) (_:Q .non (upd H l (.lst (xs++zs))))
def Mb:Tk X "list.extend" Zbj:=by
 intro pins s M H x O v S Q I B E h;ext⟨l,b,J,zs,rfl,rfl,g,G,P,q⟩ h;cases B;ext⟨u,rfl,ru⟩ E.one;cases ru;obtain⟨z,c,n,r,U,e⟩:=I.lstM g;obtain⟨T,f,D,j,L,i⟩:=I.lstM G;have C:c.toArray.size+f.toArray.size<=sizeLine:=by rw[SN,SN];lia
 have y:¬ (!c.toArray.isEmpty && Builtin.List.listTooLong (c.toArray.size+f.toArray.size))=true:=by
  rw[Zbi C,Bool.and_false];exact SO
 refine call_meets F.slot_list_extend ⟨_,e,R⟩ F.entry_list_extend (F.args_list_extend_2 _ _)
  (AutoSeq1.list_extend_list_list_0 l c.toArray n b f.toArray D y (by rw[SN];lia) ()) ⟨e,i,?_⟩
 erw[⟨.non,_,I.lset (its':=c++f) g e (by simp) (r.append j) ?_,R,q⟩];rw[Su];lia
inductive Zi6(x:V)(vs:List V)(H:Hp)(Q:VK):Prop|mk l xs y (_:x=.ref l) (_:vs=[]) (_:H l=some (.lst xs)) (_:xs[xs.length - 1]? = some y) (_:Q y (upd H l (.lst xs.dropLast)))
def Zi7:Tk X "list.pop" Zi6:=by
 intro pins s J H x L v M Q I C D h;ext⟨l,G,y,rfl,rfl,f,g,q⟩ h;cases C;have i:=D.zero;subst i;obtain⟨z,c,n,r,E,e⟩:=I.lstM f;obtain⟨u,j,ru⟩:=r.get g;have B:c.toArray[c.toArray.size - 1]? = some u:=by
  show c.toArray[c.length - 1]? = some u;rwa[<-Array.getElem?_toList,<-E]
 erw[call_meets F.slot_list_pop ⟨_,e,R⟩ F.entry_list_pop (F.args_list_pop_1 _) (MeetsSeq.list_pop_last l c.toArray n u B (by rw[SN];lia)) ⟨e,?_⟩];erw[⟨y,_,I.lset (its':=c.dropLast) f e ?_ r.dropLast ?_,ru,q⟩];show c.toArray.eraseIdxIfInBounds (c.toArray.size - 1)=c.dropLast.toArray;rw[SN,List.eraseIdxIfInBounds_toArray,Zi4];rw[List.length_dropLast];lia
inductive NW(x:V)(y:V)(H:Hp)(Q:VK):Prop|mk l b xs zs (_:x=.ref l) (_:y=.ref b) (_:H l=some (.lst xs)) (_:H b=some (.lst zs)) (_:xs.length+zs.length<=sizeLine) (_:∀p,H p=none->Q (.ref p) (upd H p (.lst (xs++zs))))
def Y6:YH X (binaryOp .Add) NW:=by
 intro pins s L H x y v u Q I B j h;ext⟨l,b,G,zs,rfl,rfl,C,D,M,q⟩ h;cases B;cases j;obtain⟨z,c,n,r,T,e⟩:=I.lstM C;obtain⟨S,f,O,i,J,g⟩:=I.lstM D;erw[PySem.P.add_list e g ?_ (by rw[SN,SN];lia)];have E:c.toArray++f.toArray=(c++f).toArray:=by simp
 rw[E];exact⟨.ref _,_,I.lnew (t':=s.toks) (r.append i) (by rw[Su];lia),R,q _ I.fresh⟩
inductive Mc(x:V)(y:V)(H:Hp)(Q:VK):Prop|mk l k xs (_:x=.ref l) (_:y=.int k) (_:H l=some (.lst xs)) (_:-(2 ^ 63)<=k) (_:k<2 ^ 63) (_:xs.length*k.toNat<=sizeLine) (_:∀p,H p=none->Q (.ref p) (upd H p (.lst (List.replicate k.toNat xs).flatten)))
def Zi8{f:Type}(xs:List f)(k:Nat):(List.replicate k xs).flatten.length=k*xs.length:=by
 induction k with
 |zero=>simp
 |succ k c=>rw[List.replicate_succ,List.flatten_cons,Su,c,Nat.succ_mul,Nat.add_comm]
def Wf:YH X (binaryOp .Mult) Mc:=by
 intro pins s Y a0 x y v u Q I L H h;ext⟨l,k,S,rfl,rfl,O,j,M,i,q⟩ h;cases L;ext⟨t,rfl⟩ H;obtain⟨z,c,n,r,P,e⟩:=I.lstM O;have hlen:c.toArray.size*k.toNat<=sizeLine:=by rwa[SN,<-P]
 have D:¬ c.toArray.size*k.toNat>(2 ^ 63 - 1)/8:=by
  have:(sizeLine:Nat)<=(2 ^ 63 - 1)/8:=by lia
  lia
 have B:¬ (!Builtin.List.listFitsIndex k)=true:=by
  rw[fitsIndex_both j M];exact SO
 have E:¬ Builtin.List.listTooLong (c.toArray.size*k.toNat)=true:=by
  rw[Zbi hlen];exact SO
 have C:List.foldl (λg f=>g++f) #[] (List.replicate (if c.toArray.isEmpty=true then 0 else k.toNat) c.toArray)=(List.replicate k.toNat c).flatten.toArray:=by
  have G:∀m:Nat,List.foldl (λg f=>g++f) #[] (List.replicate m c.toArray)=(List.replicate m c).flatten.toArray:=λm=>by
   have:=Zbh c m [];rw[List.nil_append]at this;exact this
  rw[G];cases c with
  |nil=>simp
  |cons a Z=>rw[SU (by simp)]
 refine wpAny_binaryOp_repeat_ref (T := "list") (U := "int") () ⟨_,e,R⟩ (λJ=>typeIs_int J k t) noFill_list_mul F.fills_int_mul F.slot_int_rmul repeat_list F.slot_int_index.lookup
  (call_meets F.slot_int_rmul (typeIs_int s k t) F.entry_int_rmul (F.args_int_rmul_2 _ _) (int___rmul___int_list k t l c.toArray n)
   ⟨e,R,⟨_,e,R⟩,call_meets F.slot_list_mul ⟨_,e,R⟩ F.entry_list_mul (F.args_list_mul_2 _ _) (AutoListH.list___mul___list_int_3 l c.toArray n k t B D E) ⟨e,?_⟩⟩)
 rw[C];exact⟨.ref _,_,I.lnew (t':=s.toks) (r.rep k.toNat) (by rwa[Zi8,Nat.mul_comm]),R,q _ I.fresh⟩
section
set_option maxRecDepth 100000 in
end
end L2
namespace Att
open PySem PySem.W PySem.Calls PyProof.Rows
def Zi9{P:Params}:∀(ns:List Int) (vs:List Value),WellAll P h vs (ns.map WData.int)->IntsAre vs ns:=by
 intro ns;induction ns with
 |nil =>
  intro vs w;rw[List.map_nil]at w;cases w;exact .nil
 |cons n ns c =>
  intro vs w;rw[List.map_cons]at w;cases w with
  |cons a b =>
   cases a;exact .cons _ _ (c _ b)
def Zja{l:OpenLaw}(hn:l.most=some n){P:Params}{h:Heap}{args:List WData}{vals:List Value}
  (i:l.row.toRowW.claim.pre args=true) (y:WellAll P h vals args) :
  ∃a vs ns,vals=[Value.ref a]/\args=[WData.list (ns.map WData.int)]/\h.get? a=some {cls:=.type "list",data:=.seq vs.toArray}/\IntsAre vs ns/\ns.length<=n:=by
 have x:WShape.hasAll [] args [.list .int]=true:=(pre_splitW i).1;have g:l.pre.holds [] {args:=args} = true:=(pre_splitW i).2;obtain⟨d,r,rfl,u,D⟩:=hasAllW_cons x;obtain rfl:=hasAllW_nil D;obtain⟨H,rfl,B⟩:=hasW_list u;obtain⟨ns,rfl⟩:=items_int B;have hlen:ns.length<=n:=by
  unfold OpenLaw.pre at g;have f:(WTm.not (.lt (.lit (.int (n:Int))) (.len (.arg 0)))).holds [] {args:=[.list (ns.map .int)]} = true:=by
   have f:=(holds_andW g).1;rw[hn]at f;exact f
  have c:=condW_of f (w_not (w_lt w_lit (w_len_list (w_arg rfl))));rw[List.length_map]at c;erw[Nat.le_of_not_lt λq=>?_];have G:(n:Int)<((ns.length:Nat):Int):=by lia
  first
   |(rw[decide_eq_true G]at c;exact absurd c ())
   |(simp at c;lia)
 cases y with
 |cons C j =>
  cases j;cases C with
  |list v E=>exact⟨_,_,ns,rfl,rfl,v,Zi9 ns _ E,hlen⟩
def Zjb(l:OpenLaw)(args:List WData):l.row.toRowW.claim.post args (.bool true) args=true :=
 postW_of (r:=l.row.toRowW) (X:=(true==true))
  (show WShape.has [] (.bool true) .bool=true by first|rfl|decide|simp[WShape.has,WShape.arms,WShape.armsAll])
  (show(WTm.eq .res (.lit (.bool true))).value [] {args:=args,res:=some (.bool true),after:=args} = some (.bool (true==true))from w_eq_bool (w_res rfl) w_lit) rfl
def attach_call{l:OpenLaw}{loose:List Str}{d:DefRec}
  (hn:l.most=some n) (O:d.params.defaults=[])
  (call:∀(w:World) (s₀ c:Shared) (mg i:Str->Option Value) (g:Addr) (o:Obj) (j cd u:Value) (a:Addr) (vs:List Value) (ns:List Int),
   Ground q loose [] x w s₀ mg i c.heap->v w c.heap ->
   c.heap.get? g=some o->o.data=.func (docDef d.name d.params d.body d.scope j cd u)->c.heap.CodeRec cd d.name->mg d.name=some (.ref g) ->
   c.heap.get? a=some {cls:=.type "list",data:=.seq vs.toArray}->IntsAre vs ns->ns.length<=n->c.gens=#[] ->
   codeAny (model l.prog w) callerA (.call (.ref g) ⟨[.ref a],[]⟩) (λr h=>r=.ok (.ret (.bool true))/\OldK c.heap h.heap/\h.os=c.os/\AllBare h.gens) c) :
  WalkO q loose x v l.row.toRowW d [] (λf vs=>PySem.call f vs):=by
 intro w s₀ c mg i G Y g o j cd u M kV H hd C y D L args vals U I X T S Z;obtain rfl:M=.none:=Dflts.none y O;obtain rfl:kV=.none:=Dflts.noKw y;obtain⟨a,vs,ns,rfl,rfl,J,hints,hlen⟩:=Zja hn I S;erw[enter_call (codeAny_mono (call w s₀ c mg i g o j cd u a vs ns G Y H (fd_plain hd) C D J hints hlen L) λr h E=>?_)];ext⟨rfl,Q,P,B⟩ E;exact⟨.inl ⟨.bool true,.bool true,[],rfl,λ_=>rfl,.bool true,Zjb l _,λ_=>⟨List.Pairwise.nil,()⟩⟩,Q,P,B⟩
end Att
namespace L2
open PySem PySem.Spec PyProof.Rows
theorem Zbk:∀{vs:OB} {ns:OE},IntsAre vs ns->ZC (ns.map V.int) vs
 |_,_,.nil=>.nil
 |_,_,.cons n t h=>.cons ⟨t,R⟩ (Zbk h)
abbrev KOf(_:K.In h):W.Frag:=K
def Z6(s:Stmt)(j:Nat):Stmt:=match s with
 |.ClassDef _ _ _ body _ _ _ _ _ _ _=>body.getD j (.Pass ⟨0,0,0,0⟩)
 |_=>.Pass ⟨0,0,0,0⟩
def A1(s:Stmt):Arguments:=match s with
 |.FunctionDef _ a _ _ _ _ _ _ _ _=>a
 |_=>{posonlyargs:=[],args:=[],vararg:=none,kwonlyargs:=[],kw_defaults:=[],kwarg:=none,defaults:=[]}
def UQ(s:Stmt):List Stmt:=match s with
 |.FunctionDef _ _ b _ _ _ _ _ _ _=>b
 |_=>[]
def Zu(s:Stmt):Scope:=match s with
 |.FunctionDef _ _ _ _ _ _ c _ _ _=>c
 |_=>{kind:=.function,names:=[],isGenerator:=false,isCoroutine:=false}
abbrev Zo:Wd:=λ_ _ _ _ _ _=>False
abbrev E0:XK:=λ_ _ _=>False
def Zk:WB Zo X E0:=λ_ _ _ _ _ _ _ h=>h.elim
structure WW(K:Ox)(x qual:Str)(st:Stmt)(f:Addr)(fd:OJ):Prop where
 ex:∃(oc:Value) (od:OF) (kV doc pm:Value) (an:OF) (cdv ct:Value) (osl:Oz),
  fd=W.fnOf x qual (A1 st) (UQ st) (Zu st) .none kV doc pm an cdv ct/\K.lookup f=some ⟨oc,od,.func fd,osl⟩/\W.codeIn K cdv qual=true
 kp:W.keepIn K (.ref f)=true
def WW.ok{x qual:Str}{st:Stmt}{f:Addr}{i:OJ}{N g:OC}{k:Nat}{sp:Sp}(F:WW K x qual st f i)(S:Zw N g (Zu st))(len:∀vs H Q E,sp vs H Q E->vs.length=g.length)
  (v:∀(c:Value) (A:Around) (outer:List Env) (s:Shared) (H:Hp) (vs:List V) (Q:VK) (E:XK),Yv k (A.deeper (envOfC qual (Zu st) s.heap.objs.size f c))->sp vs H Q E ->
   ∃t,XO (VA Zo P w K mg base N qual (Zu st) f c A outer s H E).nox (UQ st) t/\t {nx:=λ_ B=>Q .non B,rt:=Q} (UM N vs) H):Zl P w K mg base Zo (k+1) f i g sp:=by
 ext⟨C,L,kV,G,J,I,c,ct,D,rfl,u,y⟩ F.ex;erw[Td u y S len λA outer s H vs Q E n j=>?_];obtain⟨t,h,q⟩:=v c A outer s H vs Q E n j;exact⟨t,h.nox,q⟩
def WW.binds{x qual:Str}{st:Stmt}{f:Addr}{u:OJ}{g:OC}(F:WW K x qual st f u)
  (h:∀(kV c n:Value) (j:OF) (i ct:Value) (us:OB),us.length=g.length->bindArgs (W.fnOf x qual (A1 st) (UQ st) (Zu st) .none kV c n j i ct) ⟨us,[]⟩=pure (g.zip us)):XB K u g []:=by
 ext⟨v,D,kV,c,n,j,i,ct,B,rfl,y,C⟩ F.ex;exact .all (h kV c n j i ct)
def Zbl{x qual:Str}{st:Stmt}{f:Addr}{n:Value}{v i:OF}{u:Oz}{kV h j g ct:Value}(l:K.lookup f=some ⟨n,v,.func (W.fnOf x qual (A1 st) (UQ st) (Zu st) .none kV h j i g ct),u⟩)
  (c:W.codeIn K g qual=true) (k:W.keepIn K (.ref f)=true):WW K x qual st f (W.fnOf x qual (A1 st) (UQ st) (Zu st) .none kV h j i g ct):=⟨⟨n,v,kV,h,j,i,g,ct,u,R,l,c⟩,k⟩
def Uf(c:Yv k A):A.units+1<cLine:=Sj (Nat.add_le_add_left (():1<=64) _) c.units
def pv(i:Nat)(f:X.N[i]? = some x:=by rfl)(g:LO X.env.scope x:=by first|exact Or.inl rfl|exact Or.inr (Or.inl rfl)|exact Or.inr (Or.inr rfl))(hd:(x==("__debug__" : Str))=false:=by lia)
  (c:(x==("__classdict__" : Str))=false:=by lia):PE X (.Name x h) (Qz i):=ZaG f g hd c
def Zjc{A B:Prop}(h:B):if false=true then A else B:=by
 rwa[SU SO]
def Zjd{A B:Prop}(h:A):if true=true then A else B:=by
 rwa[SV R]
def Vl{c A B:Prop}[Decidable c](h1:c->A)(f:¬ c->B):if c then A else B:=by
 by_cases h:c;rw[SV h];exact h1 h;rw[SU h];exact f h
def Zf(H c:Hp):Prop:=∀b o,H b=some o->c b=some o
def Zf.refl(H:Hp):Zf H H:=λ_ _ h=>h
def Zf.trans(a:Zf H g)(b:Zf g f):Zf H f:=λc o h=>b c o (a c o h)
def Zf.free(e:Zf H c)(h:c l=Option.none):H l=Option.none:=by
 cases q:H l with
 |none=>rfl
 |some o =>
  rw[e l o q]at h;cases h
def Zf.seq{c:Hp}{a:Addr}{xs:List V}(e:Zf H c)(h:Zd K H a xs):Zd K c a xs:=by
 rcases h with(h|⟨o,h⟩)|h;exact .inl (.inl (e _ _ h));exact .inl (.inr ⟨o,e _ _ h⟩);exact .inr h
def Yo.has{h:Heap}(x:Yo P w H h a o):∃u,h.get? a=some u:=by
 cases o with
 |lst c=>ext⟨_,_,_,_,q⟩ x;exact⟨_,q⟩
 |tup c=>ext⟨_,_,_,ob,q,_⟩ x;exact⟨ob,q⟩
 |dK g=>ext⟨_,_,_,_,ob,_,_,q,_⟩ x;exact⟨ob,q⟩
 |dT g=>ext⟨_,_,_,_,ob,_,_,q,_⟩ x;exact⟨ob,q⟩
 |set S n=>ext⟨ob,_,_,_,q,_⟩ x;exact⟨ob,q⟩
 |ins C j fs=>ext⟨_,_,_,q,_⟩ x;exact⟨_,q⟩
 |own y=>ext⟨ob,q⟩ x;exact⟨ob,q⟩
 |xd fs=>ext⟨_,⟨ob,_,_,q,_⟩,_⟩ x;exact⟨ob,q⟩
 |rng lo B=>ext⟨_,_,_,q⟩ x;exact⟨_,q⟩
 |frz ob u=>ext⟨q,_⟩ x;exact⟨_,q⟩
 |tbl i=>exact⟨_,(show h.get? a=some _ from x)⟩
 |met f y=>exact⟨_,(show h.get? a=some _ from x)⟩
 |ext v=>ext⟨_,⟨ob,q⟩,_⟩ x;exact⟨ob,q⟩
def Wg(h:Heap)(e:Addr):Prop:=∃ob c,h.get? e=some ob/\ob.data=.fields c/\c[2]? = some .none
def KC{c:Type}(x:Sem c):Prop:=∀(M:Model) (Γ:PySem.Ctx) (Q:c->Pos->Shared->Prop) (E:Value->Pos->Shared->Prop) (p:Pos) (s:Shared) (e:Addr),Wg s.heap e->Sem.wp M Γ x Q E p s ->
 Sem.wp M Γ x (λa p s=>Q a p s/\Wg s.heap e) (λv p s=>E v p s/\Wg s.heap e) p s
section
variable{α β:Type}
def KC.bind(g:KC x)(i:∀a,KC (f a)):KC (x >>= f):=λM c Q E p s e n h=>by
 rw[Sem.wp_bind']at h ⊢;exact Sem.wp_mono M c x (λa p s q=>i a M c Q E p s e q.2 q.1) (λ_ _ _ q=>q) p s (g M c _ _ p s e n h)
def KC.pure(a:α):KC (Pure.pure a:Sem α):=λM c Q E p s e n h=>by
 rw[Sem.wp_pure']at h ⊢;exact⟨h,n⟩
def KC.uns(c:String):KC (.unsupported c:Sem α):=λM f Q E p s e n h=>by
 rw[Sem.wp_unsupported]at h;exact h.elim
def KC.load(a:Addr):KC (PySem.load a):=λM g Q E p s e n h=>by
 unfold PySem.load at h ⊢;rw[Sem.wp_load]at h ⊢;ext⟨o,f,c⟩ h;exact⟨o,f,by rw[Sem.wp_pure]at c ⊢;exact⟨c,n⟩⟩
def KC.stack:KC PySem.stack:=λM c Q E p s e n h=>by
 unfold PySem.stack at h ⊢;rw[Sem.wp_stack]at h ⊢;rw[Sem.wp_pure]at h ⊢;exact⟨h,n⟩
def KC.alloc(o:Obj):KC (PySem.alloc o):=λM f Q E p s e n h=>by
 unfold PySem.alloc at h ⊢;rw[Sem.wp_alloc]at h ⊢;rw[Sem.wp_pure]at h ⊢;ext⟨ob,c,q,r⟩ n;exact⟨h,ob,c,Sc _ q,r⟩
def KC.update(u:∀o vs,o.data=.fields vs->vs[2]? = some .none->∃g,(f o).data=.fields g/\g[2]? = some .none):KC (PySem.update a f):=λM x Q E p s e n h=>by
 unfold PySem.update at h ⊢;rw[Sem.wp_update]at h ⊢;erw[⟨h.1,?_⟩];have j:=h.2;rw[Sem.wp_pure]at j ⊢;erw[⟨j,?_⟩];ext⟨ob,vs,q,d,c⟩ n;by_cases z:a=e;subst z;obtain⟨g,i,v⟩:=u ob vs d c;exact⟨f ob,g,Heap.get?_update_self f q (Obj.isFreed_of_fields i),i,v⟩;exact⟨ob,vs,(Heap.get?_update_other _ f z).trans q,d,c⟩
def KC.iff{c:Prop}[Decidable c](g:KC x)(f:KC y):KC (if c then x else y):=by
 split;exact g;exact f
def Zje(v:Value):KC (fieldsOf v):=by
 unfold fieldsOf;split;erw[KC.bind (KC.load _) λo=>?_];split;exact KC.pure _;exact KC.uns _;exact KC.uns _
def NX(v:Value)(i:Nat):KC (field v i):=by
 unfold field;erw[KC.bind (Zje v) λc=>?_];split;exact KC.pure _;exact KC.uns _
def Tn(v:Value)(i:Nat)(x:Value)(hi:i≠2):KC (setField v i x):=by
 unfold setField;split;unfold updateField;erw[KC.bind (KC.load _) λo=>?_];split;erw[KC.iff (KC.update λo f d c=>?_) (KC.uns _)];exact⟨_,Obj.data_mapFields d _,by rwa[Array.getElem?_setIfInBounds_ne hi]⟩;exact KC.uns _;exact KC.uns _
def Md(v:Value)(f:OF):KC (setFlight v f):=by
 unfold setFlight;erw[KC.bind (NX v 1) λc=>?_];exact KC.iff (Tn _ 3 _ ()) (KC.pure _)
def Zjf(env:Env)(outer:List Env):KC (behindIsImport env outer):=by
 unfold behindIsImport;erw[KC.iff (KC.pure _) (KC.iff (KC.pure _) (KC.bind (NX _ _) λ_=>KC.pure _))]
def Zjg(env:Env)(c:Bool)(l:List Env):KC (keptBack env c l):=by
 unfold keptBack;split;erw[KC.iff (KC.pure _) (KC.bind ?_ λ_=>KC.pure _)];unfold underTheClaimsCaller;exact KC.bind KC.stack λ_=>KC.pure _;exact KC.pure _
theorem Zbm:∀l:List Env,KC (readyFrames l)
 |[]=>by unfold readyFrames;exact KC.pure _
 |env::outer=>by
  unfold readyFrames;split;erw[KC.bind (KC.load _) λo=>KC.iff (KC.pure _) ?_];erw[KC.bind (Zjf _ _) λf=>KC.bind (Zjg _ _ _) λbk=>KC.bind (KC.update λo vs d c=>⟨vs,d,c⟩) λ_=>Zbm outer];exact KC.uns _
def Zjh(env:Env):KC (PySem.frameOf env):=by
 unfold PySem.frameOf;erw[KC.bind (KC.bind KC.stack λ_=>KC.pure _) λl=>KC.bind ?_ λr=>?_];unfold frameObject;split;exact KC.pure _;exact KC.bind (Zbm _) λ_=>KC.pure _;split;exact KC.pure _;exact KC.uns _
def Zji(f:Addr)(b:Bool):KC (entryPlaceOf f b):=by
 unfold entryPlaceOf;erw[KC.bind KC.stack λl=>?_];split;exact KC.pure _;exact KC.pure _
def Zjj(a b c d e:Value)(l:OB):KC (EntryCells.newEntry a b c d e l):=by
 unfold EntryCells.newEntry newFields newObj;have k:∀d:Data,KC (newObjAsIs (.type "traceback") d):=λd=>by
  unfold newObjAsIs;exact KC.bind (KC.alloc _) λ_=>KC.pure _
 exact KC.iff (KC.bind (KC.uns _) λ_=>k _) (k _)
def Zbn(e:Value)(env:Env):KC (noteFrame e env):=by
 unfold noteFrame;split;erw[KC.bind (NX _ _) λhead=>?_];have g:∀f hd,KC (do let b <-PySem.frameOf env;let h <-entryPlaceOf f hd;let c <-EntryCells.newEntry head b .none (rawInt f) .none h;setField e 1 c):=λf hd =>
  KC.bind (Zjh _) λ_=>KC.bind (Zji _ _) λ_=>KC.bind (Zjj _ _ _ _ _ _) λ_=>Tn _ 1 _ ()
 erw[KC.iff (KC.bind (NX _ _) λx=>KC.iff (KC.pure _) (KC.bind (Tn _ 3 _ ()) λ_=>g _ _)) (g _ _)];exact KC.uns _
def Tq(env:Env)(e:Value):KC (leaving env e):=by
 unfold leaving;exact KC.bind (Zbn _ _) λ_=>Md _ _
def KC.any0(k:KC x)(n:Wg s.heap e)(h:wpAny M A x Q E s) :
  wpAny M A x (λa s=>Q a s/\Wg s.heap e) (λv s=>E v s/\Wg s.heap e) s:=λc p f=>k M c _ _ p s e n (h c p f)
def KC.any{p:Prop}(k:KC x)(n:p->Wg s.heap e)(h:wpAny M A x Q E s) :
  wpAny M A x (λa s=>Q a s/\(p->Wg s.heap e)) (λv s=>E v s/\(p->Wg s.heap e)) s:=by
 by_cases z:p;exact Oq (k.any0 (n z) h) (λ_ _ q=>⟨q.1,λ_=>q.2⟩) λ_ _ q=>⟨q.1,λ_=>q.2⟩;exact Oq h (λ_ _ q=>⟨q,λy=>Os y z⟩) λ_ _ q=>⟨q,λy=>Os y z⟩
theorem KC.with{M:Model}{x:Sem Unit}{Q:OA}{e:Addr}{p:Prop}{W:Heap->Prop}(k:KC x)(n:p->Wg s.heap e)
  (h:wpAny M A x (λ_ s'=>∃h',s' = {s with heap:=h'}/\W h') (λ_ _=>False) s) (f:∀h',W h'->(p->Wg h' e)->Q Unit.unit {s with heap:=h'}):wpAny M A x Q E s :=
 Oq (k.any n h) (λ_ s' ⟨⟨h',z,w⟩,c⟩=>by subst z;exact f h' w c) λ_ _ z=>z.1.elim
end
def NY(l:List Env)(g:Heap)(H:Hp)(a:Addr)(C:Value)(h:Heap):Prop :=
 ∃(B:Heap) (t:Addr),Heap.FlyingW B l a C (.ref t) h/\H a=none /\
  ∀b o,h.get? b=some o->((∃u,g.get? b=some u)\/∃u,H b=some u)->b∉Ye l->B.get? b=some o
def Yf(P:Program)(w:World):Wd:=λouter H s E e c =>
 ∃(a:Addr) (C:Value) (H':Hp),e=.ref a/\c.os=s.os/\AllBare c.gens/\Un (Ye outer) [] H H' s.heap c.heap/\Yp P w H' c.heap/\NY outer s.heap H' a C c.heap/\∃o:Option Addr,(o=none->Wg c.heap a)/\E C o H'
def Zjk{env:Env}{outer:List Env}(g:env.frame=some L)(f:b∈Ye (env::outer)):b=L\/b∈Ye outer:=by
 obtain⟨e,c,q⟩:=List.mem_filterMap.mp f;rcases SF.mp c with rfl|c;rw[g]at q;exact .inl (So q).symm;exact .inr (List.mem_filterMap.mpr ⟨e,c,q⟩)
def Me{outer:List Env}(f:b∈Ye outer):b∈Ye (env::outer):=by
 obtain⟨e,c,q⟩:=List.mem_filterMap.mp f;exact List.mem_filterMap.mpr ⟨e,SB _ c,q⟩
def NZ{env:Env}{outer:List Env}{g h1 B : Heap}
  (O:env.frame=some L) (M:g.get? L=none) (U:Un (Ye outer) [] H h g h1) (ok:Yp P w h h1) (frf:∀b∈Ye (env::outer),h b=none)
  (frd:∀b∈Ye outer,∀o,h1.get? b=some o->∀vs,o.data≠.fields vs)
  (T:∀b o,h1.get? b=some o->((∃u,g.get? b=some u)\/∃u,h b=some u)->b∉Ye (env::outer)->B.get? b=some o)
  (I:Heap.FlyingW B outer a C (.ref t) D) (ha:h a=none) (up:h1.UpToSlots D):Un (Ye outer) [] H h g D/\Yp P w h D/\NY outer g h a C D:=by
 have stay:∀b o,h1.get? b=some o->((∃u,g.get? b=some u)\/∃u,h b=some u)->b∉Ye outer->D.get? b=some o/\B.get? b=some o:=λb o e f hn=>by
  have nf:b∉Ye (env::outer):=λz=>by
   rcases Zjk O z with rfl|X;rcases f with⟨u,q⟩|⟨u,q⟩;rw[M]at q;cases q;rw[frf _ z]at q;cases q;exact hn X
  have q:=T b o e f nf;exact⟨I.1 b o q,q⟩
 have nx:([]:OH)=[]:=rfl;have j:∀b:Addr,b∉([]:OH):=λb z=>nomatch z;have track:∀b u,h b=some u->b∉Ye outer:=λb u q z=>by
  rw[frf b (Me z)]at q;cases q
 erw[⟨⟨λb o e n f j=>?_,λb o e n f j=>?_,U.free,λb o e j=>?_,U.tups,U.frzs,U.tbls⟩,λb u q=>?_,B,t,I,ha,λb o e f hn=>?_⟩];exact(stay b o (U.keep b o e n f j) (.inl ⟨o,e⟩) f).1;obtain⟨Z,i⟩:=U.slot b o e n f j;obtain⟨UR,x⟩:=up b _ i (frd b f _ i);exact⟨UR,x⟩;obtain⟨y,i⟩:=U.there b o e j;by_cases f:b∈Ye outer;obtain⟨UR,x⟩:=up b _ i (frd b f _ i);exact⟨_,x⟩;exact⟨y,(stay b y i (.inl ⟨o,e⟩) f).1⟩;erw[(ok b u q).stay (λc v G e=>?_) (λ_ z=>z) λ_ _ z=>z];have Y:∃E,h c=some E:=by
  rcases G with rfl|G;exact⟨u,q⟩;exact⟨_,G⟩
 ext⟨E,J⟩ Y;exact(stay c v e (.inr ⟨E,J⟩) (track c E J)).1;have Q:∃y,h1.get? b=some y:=by
  rcases f with⟨u,q⟩|⟨u,q⟩;exact U.there b u q (j b);exact(ok b u q).has
 ext⟨y,i⟩ Q;obtain⟨x,S⟩:=stay b y i f hn;rw[e]at x;cases x;exact S
def Zbo(X:Cx)(E:XK):Prop:=∀(pins:Ov) (σ:St) (H:Hp) (s:Shared) (a:Addr) (C:Value) (vs:OB) (h':Heap),Za X pins σ H s->Heap.MadeExcOf s.heap h' a C vs->E C none H->X.xe (.ref a) {s with heap:=h'}
section
variable{N:OC}{qual:Str}{f:Addr}{cd:Value}{outer:List Env}{E:XK}
def Za.frd(I:Za X pins h H s):∀b∈Ye X.stack,∀o,s.heap.get? b=some o->∀vs,o.data≠.fields vs:=λb g o e=>by
 obtain⟨_,i,c,d⟩:=I.stack.mem g;rw[e]at c;cases c;exact d
def Za.hasNo(I:Za X pins c H s)(e:s.heap.get? a=none):H a=none:=by
 cases q:H a with
 |none=>rfl
 |some u =>
  obtain⟨o,z⟩:=(I.hok a u q).has;rw[e]at z;cases z
def Xb:Zbo (VA (Yf P w) P w K mg base N qual scope f cd A outer s H E) E:=by
 intro pins S B i a C T J I g u;have v:∀env∈(envOfC qual scope s.heap.objs.size f cd::outer),∀b,env.frame=some b->b∈Ye (envOfC qual scope s.heap.objs.size f cd::outer):=λenv y b j=>List.mem_filterMap.mpr ⟨env,y,j⟩;have G:(A.deeper (envOfC qual scope s.heap.objs.size f cd)).frames=some (envOfC qual scope s.heap.objs.size f cd::outer):=I.ok.frames;have sn:s.heap.get? s.heap.objs.size=none:=Heap.get?_none_of_le (Sg _);ext⟨U,Q,_,_⟩ g.there;refine KC.with (p:=True) (e:=a) (W:=λc=>∃t,Heap.FlyingW (PySem.W.hideAll i.heap (Ye (envOfC qual scope s.heap.objs.size f cd::outer))) outer a C (.ref t) c/\J.UpToSlots c) (Tq _ _) (λ_=>⟨_,_,Q,R,R⟩)
  (wpAny_leaves_madeW (L:=s.heap.objs.size) (base:=PySem.W.hideAll i.heap (Ye (envOfC qual scope s.heap.objs.size f cd::outer))) (h:=i.heap) G R (λb o q=>PySem.W.of_hideAll _ q) (PySem.W.funFrames_hide I.stack v) g λc t n _ _ up=>⟨c,R,t,n,up⟩) λc ⟨t,n,up⟩ x=>?_
 have frd:=I.frd;obtain⟨M,D,O⟩:=NZ (P:=P) (w:=w) (L:=s.heap.objs.size) (h1:=i.heap) R sn I.base I.hok I.stkFree (λb j o e=>frd b (Me j) o e) (λb o e _ hn=>PySem.W.hideAll_get _ e hn) n (I.hasNo g.new) ((Heap.UpToSlots.of_keeps g.keeps).trans up);exact⟨a,C,B,R,I.os,I.bare,M,D,O,none,λ_=>x trivial,u⟩
def Yh:WB (Yf P w) (VA (Yf P w) P w K mg base N qual scope f cd A outer s H E) E:=by
 intro pins x T U e j I D;ext⟨a,C,v,rfl,os,bare,un,hok,⟨B,t,S,ha,M⟩,o,i,y⟩ D;have c:Za (VA (Yf P w) P w K mg base N qual scope f cd A outer s H E) pins x v j:=I.call' os un hok bare λb z=>nomatch z;have J:(A.deeper (envOfC qual scope s.heap.objs.size f cd)).frames=some (envOfC qual scope s.heap.objs.size f cd::outer):=I.ok.frames;have sn:s.heap.get? s.heap.objs.size=none:=Heap.get?_none_of_le (Sg _);erw[KC.with (e:=a) (W:=λg=>Heap.FlyingW B outer a C (.ref t) g/\j.heap.UpToSlots g) (Tq _ _) i (wpAny_leaves_onW (L:=s.heap.objs.size) J R S λg n up=>⟨g,R,n,up⟩) λg ⟨n,up⟩ i=>?_];have frd:=c.frd;obtain⟨O,G,Q⟩:=NZ (P:=P) (w:=w) (L:=s.heap.objs.size) (h1:=j.heap) R sn c.base c.hok c.stkFree (λb h o e=>frd b (Me h) o e) (λb o e h hn=>M b o e (h.imp (λ⟨u,q⟩=>I.base.there b u q λz=>nomatch z) id) hn) n ha up;exact⟨a,C,v,R,c.os,c.bare,O,G,Q,o,i,y⟩
end
def WW.okX{x qual:Str}{st:Stmt}{f:Addr}{h:OJ}{N g:OC}{k:Nat}{sp:Sp}(F:WW K x qual st f h)(S:Zw N g (Zu st))(len:∀vs H Q E,sp vs H Q E->vs.length=g.length)
  (u:∀(c:Value) (A:Around) (outer:List Env) (s:Shared) (H:Hp) (vs:List V) (Q:VK) (E:XK),Yv k (A.deeper (envOfC qual (Zu st) s.heap.objs.size f c))->sp vs H Q E ->
   ∃t,XO (VA (Yf P w) P w K mg base N qual (Zu st) f c A outer s H E) (UQ st) t/\t {nx:=λ_ y=>Q .non y,rt:=Q} (UM N vs) H):Zl P w K mg base (Yf P w) (k+1) f h g sp:=by
 ext⟨B,J,kV,D,I,G,c,ct,C,rfl,n,v⟩ F.ex;exact Td n v S len λA outer s H vs Q E j i=>u c A outer s H vs Q E j i
structure Xx(K:Ox)(C:Addr):Prop where
 ex:W.excIn K C [.type "ValueError",.type "Exception",.type "BaseException",.type "object"] "ValueError.__new__"=true
def Zbp{h:Heap}(Y:K.In h)(z:W.excIn K C f g=true) :
  ∃bm j nm n bs hd sn sub ab col dd k0 k1 k2 k3 k5 mN,h.get? C=some (excClassObj nm n C j bs bm hd sn sub ab col dd k0 k1 k2 k3 k5 g)/\h.Ns j mN/\mN "__init__"=none/\OwnTail h f bm:=by
 unfold W.excIn at z;split at z
 ·next d1 c1 s1 hlk =>
  split at z
  ·next C1 b1 j0 j1 j2 j3 n1 j5 em es =>
   simp only[Bool.and_eq_true,beq_iff_eq,Bool.not_eq_true']at z;ext⟨⟨⟨⟨⟨z1,H⟩,i⟩,M⟩,c⟩,z6⟩ z;subst z1 H;ext⟨L,x,O,D,B,I,u,G,E,J,P⟩ c1;dsimp only at em i c z6;subst em i;ext⟨y⟩ s1;have v:y=[j0,j1,j2,j3,some (.builtin n1),j5]:=es;subst v;exact⟨b1,D,L,B,x,I,u,G,E,J,d1,j0,j1,j2,j3,j5,_,Y _ _ hlk,.of_isNs (W.isNs_of_in Y c),W.nsMap_none_of_in Y c z6,W.tail_of_in Y M⟩
  exact Os z ()
 exact Os z ()
section
variable{E:XK}{x:Str}{C:Addr}{e:Expr}{es:OD}{t:TA}{np cpos:Pos}
def Zjl(E:XK)(C:Addr)(t:TA):TS:=λ_ f H=>t f H λc g=>c.length<=sizeLine/\E (.ref C) none g
def Xc(R:Zbo X E)(c:Xx X.K C)(J:X.calm=true)(G:Gl X x)(hm:X.mg x=some (.ref C))(ha:PA X (e::es) t)(Y:(x==("__debug__" : Str))=false:=by lia)
  (i:starEach (e::es) X.env=(false,eval e X.env)::starEach es X.env:=by rfl) (Q:(backTo cpos (starEach es X.env)).any (·.1)=false:=by rfl) :
  PS X (.Raise (some (.Call (.Name x np) (e::es) [] cpos)) none pos) (Zjl E C t):=by
 intro pins s g H D I h;obtain⟨bm,O,nm,u,bs,hd,sn,sub,ab,col,dd,k0,k1,k2,k3,k5,mN,v,M,n,j⟩:=Zbp I.ok.mod.kin c.ex;refine wpAny_Raise_call_subT (C:=C) (nm:=nm) (q:=u) (N:=O) (bs:=bs) (bm:=bm) (hdct:=hd) (sn:=sn) (sub:=sub) (ab:=ab) (col:=col) (dd:=dd) (k0:=k0) (k1:=k1) (k2:=k2) (k3:=k3) (k5:=k5)
  PySem.F.excBase_ValueError (mN:=mN) (j.hasType PySem.F.excBase_ValueError.hasBase) (I.ok.hd J) ?_ n (V7 I G hm ⟨rfl,?_⟩ Y)
 rw[i];show(false || (backTo cpos (starEach es X.env)).any (·.1))=false;rw[Q];rfl;have q:=ha cpos pins s g H _ I h;rw[i]at q ⊢;erw[Calls.evalArgs_plain (Zy q λS s2 B=>?_)];ext⟨Z,P,f,r,U,y⟩ B;exact⟨rfl,by rwa[<-r.length],f.bk _ _ v,M.keeps f.bk,j.keeps f.bk,λT a L=>R pins g P s2 a _ S T f L y⟩
end
def Za.moved{h':Heap}(I:Za X pins J H s)
  (keep:∀b o,s.heap.get? b=some o->((∃u,X.s₀.heap.get? b=some u/\b∉X.ex)\/(∃u,H b=some u)\/∃p∈X.pn++pins,p.1=b)->b∉Ye X.stack->h'.get? b=some o) (up:s.heap.UpToSlots h'):Za X pins J H {s with heap:=h'}:=by
 have M:∀b o,X.s₀.heap.get? b=some o->b≠X.env.locals:=λb o e=>Sf (Si (Se e) I.ok.above);have E:∀b,b≠X.env.locals->b∉X.fs->b∉Ye X.stack:=λb T Y z=>(SF.mp (I.stkSub b z)).elim T Y;have P:∀b∈X.fs,∀o,X.s₀.heap.get? b=some o->∀L,o.data≠.fields L:=λb f o e=>by
  obtain⟨_,B,O,d⟩:=I.ok.funs.mem f;rw[e]at O;cases O;exact d
 have cellK:∀c v,s.heap.IsCell c v->h'.IsCell c v:=λc v ⟨o,U,hd⟩=>by
  obtain⟨S,q⟩:=up c o U λL z=>by rw[hd]at z;cases z
  exact⟨_,q,hd⟩
 erw[⟨I.ok,I.os,I.bare,⟨λb o e n f g=>?_,λb o e n f g=>?_,I.base.free,λb o e g=>?_,I.base.tups,I.base.frzs,I.base.tbls⟩,?_,λy c e=>?_,I.free,I.freeC,λp Q=>?_,λb u q=>?_,I.len⟩];exact keep b o (I.base.keep b o e n f g) (.inl ⟨o,e,g⟩) (E b (M b o e) f);obtain⟨S,j⟩:=I.base.slot b o e n f g;obtain⟨UR,h⟩:=up b _ j (P b f o e);exact⟨UR,h⟩;obtain⟨B,j⟩:=I.base.there b o e g;by_cases f:b∈X.fs;obtain⟨S,h⟩:=I.base.slot b o e (I.ok.frf b f) f g;obtain⟨UR,D⟩:=up b _ h (P b f o e);exact⟨_,D⟩;exact⟨B,keep b B j (.inl ⟨o,e,g⟩) (E b (M b o e) f)⟩;ext⟨m,hn,hl⟩ I.loc;erw[⟨m,up.ns hn,λi y v j h D=>?_⟩];obtain⟨u,r,l⟩:=hl i y v j h D;erw[⟨u,r,?_⟩];rcases l with l|⟨k,c,e,z⟩;exact .inl l;exact .inr ⟨k,c,e,cellK c _ z⟩;obtain⟨v,z⟩:=I.cell y c e;exact⟨v,cellK c v z⟩;obtain⟨e,n,ne,nf,d⟩:=I.pin p Q;exact⟨keep p.1 p.2 e (.inr (.inr ⟨p,Q,R⟩)) (E p.1 ne nf),n,ne,nf,d⟩;erw[(I.hok b u q).stay (λc v C e=>?_) (λ_ z=>z) λ_ _ z=>z];have Z:∃x,H c=some x:=by
  rcases C with rfl|C;exact⟨u,q⟩;exact⟨_,C⟩
 ext⟨x,G⟩ Z;erw[keep c v e (.inr (.inl ⟨x,G⟩)) λz=>?_];rw[I.stkFree c z]at G;cases G
def Za.track{ob:Obj}(I:Za X pins j H s)(ha:H a=none)(x:s.heap.get? a=some ob)(hd:ob.data=.fields vs)
  (B:X.s₀.heap.get? a=none) (E:∀p∈X.pn++pins,p.1≠a) (new:Yo X.prog X.w (upd H a o) s.heap a o):Za X pins j (upd H a o) s:=by
 have nt:∀b u,H b=some u->b≠a:=λb u q=>ZR q ha;erw[⟨I.ok,I.os,I.bare,⟨I.base.keep,I.base.slot,λb u e n D=>?_,I.base.there,λb h q=>?_,λb u h q=>?_,λb C q=>?_⟩,I.loc,I.cell,?_,λy c e=>?_,λp q=>?_,λb u q=>?_,I.len⟩];have ne:b≠a:=λz=>by rw[z,B]at e;cases e
 rw[Zj ne];exact I.base.free b u e n D;have z:=I.base.tups b h q;rwa[Zj (nt _ _ z)];have z:=I.base.frzs b u h q;rwa[Zj (nt _ _ z)];obtain⟨m,z⟩:=I.base.tbls b C q;exact⟨m,by rwa[Zj (nt _ _ z)]⟩;have ne:X.env.locals≠a:=λz=>by
  ext⟨m,⟨M,J,L,g,f,_⟩,_⟩ I.loc;rw[z,x]at g;cases g;rw[hd]at f;cases f
 rw[Zj ne];exact I.free;have ne:c≠a:=λz=>by
  obtain⟨v,G,g,f⟩:=I.cell y c e;rw[z,x]at g;cases g;rw[hd]at f;cases f
 rw[Zj ne];exact I.freeC y c e;obtain⟨e,n,r⟩:=I.pin p q;exact⟨e,by rwa[Zj (E p q)],r⟩;by_cases i:b=a;subst i;rw[Zh]at q;cases q;exact new;rw[Zj i]at q;exact(I.hok b u q).stay (λc v _ z=>z) (λc z=>by rwa[Zj (nt _ _ z)]) λc h z=>by rwa[Zj (nt _ _ z)]
def WC(a:Addr)(C:Value):HO:=.ext λh=>∃ob c,h.get? a=some ob/\ob.cls=C/\ob.data=.fields c
def Zjm(X:Cx)(pins:Ov)(c:Value->Hp->Prop)(e:Value)(s':Shared):Prop :=
 ∃(a:Addr) (C:Value) (σ:St) (H:Hp) (g:Heap),e=.ref a/\Za X pins σ H s'/\NY X.stack g H a C s'.heap/\(∀p∈X.pn++pins,∃u,g.get? p.1=some u) /\
  (∀b u,X.s₀.heap.get? b=some u->b∉X.ex->∃f,g.get? b=some f)/\c C H
abbrev F2(X:Cx)(pins:Ov)(Kx:Value->Hp->Prop):Cx:={X with pn:=X.pn++pins,xe:=Zjm X pins Kx}
abbrev US(X:Cx)(a:Addr):Cx:={X with A:=X.A.mark (some (.ref a)),calm:=false,xe:=λ_ _=>False}
section
variable{pins':Ov}{σ:St}{Kx:Value->Hp->Prop}{a:Addr}
def Za.toTry(I:Za X pins σ H s):Za (F2 X pins Kx) [] σ H s :=
 ⟨⟨I.ok.mod,I.ok.kind,I.ok.glob,I.ok.blt,I.ok.above,I.ok.inj,I.ok.has,I.ok.cab,I.ok.hd,I.ok.frames,I.ok.stk,I.ok.exf,I.ok.bs,I.ok.bsz,I.ok.noex,I.ok.exfs,I.ok.funs,I.ok.frf⟩,
  I.os,I.bare,I.base,I.loc,I.cell,I.free,I.freeC,λp c=>I.pin p (by simpa using c),I.hok,I.len⟩
def Za.ofTry(I:Za (F2 X pins Kx) pins' σ H s):Za X pins σ H s :=
 ⟨⟨I.ok.mod,I.ok.kind,I.ok.glob,I.ok.blt,I.ok.above,I.ok.inj,I.ok.has,I.ok.cab,I.ok.hd,I.ok.frames,I.ok.stk,I.ok.exf,I.ok.bs,I.ok.bsz,I.ok.noex,I.ok.exfs,I.ok.funs,I.ok.frf⟩,
  I.os,I.bare,I.base,I.loc,I.cell,I.free,I.freeC,λp c=>I.pin p (SI _ c),I.hok,I.len⟩
def Za.toSuite(I:Za X pins σ H s):Za (US X a) pins σ H s :=
 ⟨⟨I.ok.mod,I.ok.kind,I.ok.glob,I.ok.blt,I.ok.above,I.ok.inj,I.ok.has,I.ok.cab,(λz=>nomatch z),I.ok.frames,I.ok.stk,I.ok.exf,I.ok.bs,I.ok.bsz,I.ok.noex,I.ok.exfs,I.ok.funs,I.ok.frf⟩,
  I.os,I.bare,I.base,I.loc,I.cell,I.free,I.freeC,I.pin,I.hok,I.len⟩
def Za.ofSuite(hd:X.calm=true->X.A.handled=none)(I:Za (US X a) pins σ H s):Za X pins σ H s :=
 ⟨⟨I.ok.mod,I.ok.kind,I.ok.glob,I.ok.blt,I.ok.above,I.ok.inj,I.ok.has,I.ok.cab,hd,I.ok.frames,I.ok.stk,I.ok.exf,I.ok.bs,I.ok.bsz,I.ok.noex,I.ok.exfs,I.ok.funs,I.ok.frf⟩,
  I.os,I.bare,I.base,I.loc,I.cell,I.free,I.freeC,I.pin,I.hok,I.len⟩
def Zjn:WB (Yf X.prog X.w) (F2 X pins Kx) (λC _ H=>Kx C H):=by
 intro E f B g e x I i;ext⟨a,C,h,rfl,os,bare,un,hok,j,_,_,y⟩ i;have c:Za X pins f B g:=I.ofTry;have v:Za X pins f h x:=c.call' os un hok bare λb z=>nomatch z;exact⟨a,C,f,h,g.heap,R,v,j,λp D=>⟨p.2,(c.pin p D).1⟩,λb u q n=>c.base.there b u q n,y⟩
def Za.frame{D:St}{h':Heap}{E:Ow}(I:Za X pins σ H s)(hn:h'.Ns X.env.locals E)(f:Heap.SameBut X.env.locals s.heap h')
  (L:∀(i:Nat) (x:Str) (v:V),X.N[i]? = some x->D[i]? = some (some v)->LO X.env.scope x->∃u,ZQ v u/\ZaE X.env h' E x u) (hlen:D.length=σ.length):Za X pins D H {s with heap:=h',toks:=t'}:=by
 have B:∀b o,X.s₀.heap.get? b=some o->b≠X.env.locals:=λb o e=>Sf (Si (Se e) I.ok.above);erw[⟨I.ok,I.os,I.bare,⟨λb o e n j g=>(f.2 b (B b o e)).trans (I.base.keep b o e n j g),λb o e n j g=>?_,I.base.free,λb o e g=>?_,I.base.tups,I.base.frzs,I.base.tbls⟩,⟨E,hn,L⟩,λy c e=>?_,I.free,I.freeC,λp M=>?_,λb u q=>?_,hlen.trans I.len⟩];obtain⟨J,C⟩:=I.base.slot b o e n j g;exact⟨J,(f.2 b (B b o e)).trans C⟩;obtain⟨G,C⟩:=I.base.there b o e g;exact⟨G,(f.2 b (B b o e)).trans C⟩;obtain⟨v,z⟩:=I.cell y c e;exact⟨v,z.sameBut f (I.cne y c e)⟩;obtain⟨e,n,ne,nf,d⟩:=I.pin p M;exact⟨(f.2 p.1 ne).trans e,n,ne,nf,d⟩;erw[(I.hok b u q).stay (λc v h e=>(f.2 c ?_).trans e) (λ_ z=>z) λ_ _ z=>z];intro z;have fr:=I.free;rcases h with rfl|h;rw[z,fr]at q;cases q;rw[z,fr]at h;cases h
def N0(I:Za X pins σ H s)(hi:X.N[i]? = some n)(J:X.N.Nodup)(G:X.env.scope.names.lookup n=some .local)
  (h:∀s',Za X pins (σ.set i none) H s'->Q Unit.unit s'):wpAny M A (do bindName X.env n .none;unbindBehindTheSuite X.env n O) Q E s:=by
 obtain⟨m,hn,S⟩:=id I.loc;erw[wpAny_nameGoes_keeps (m:=m) G hn (by rw[I.ok.kind];rfl) λT v P g=>h _ (I.frame P g (λj y C x f L=>?_) (by simp))];have B:j≠i:=λz=>by
  rw[z]at f;have D:i<σ.length:=by rw[I.len];exact(Sr.mp hi).1
  rw[List.getElem?_set_self D]at f;cases f
 rw[List.getElem?_set_ne (Ne.symm B)]at f;obtain⟨u,r,q⟩:=S j y C x f L;erw[⟨u,r,?_⟩];rcases q with⟨k,e⟩|⟨k,c,e,z⟩;have ne:y≠n:=λz=>B (RY J x (z ▸ hi));exact .inl ⟨k,by simp[ne,e]⟩;exact .inr ⟨k,c,e,z.sameBut g (I.cne y c e)⟩
end
section
variable{body suite:List Stmt}{b₀:Stmt}{n x:Str}{i:Nat}{R:Addr}{np hpos:Pos}{tb:(Value->Hp->Prop)->TS}{th:TS}
def Zjo(K:Ox)(R:Addr)(i N:Nat)(tb:(Value->Hp->Prop)->TS)(th:TS):TS:=λD h H =>
 tb (λC g=>W.exmOne K C (.ref R)=some true/\∀a,g a=none ->
  th {nx:=λc f=>D.nx (c.set i none) f,rt:=D.rt,bk:=λc f=>D.bk (c.set i none) f,ct:=λc f=>D.ct (c.set i none) f} ((List.replicate N none).set i (some (.ref a))) (upd g a (WC a C))) D h H
def Zbq(f1:X.stack=X.env::X.outer/\X.env.frame=some X.env.locals)(a1:X.ex=[])(D:X.N.Nodup)(hi:X.N[i]? = some n)(B:X.env.scope.names.lookup n=some .local)(hg:Gl X x)(hm:X.mg x=some (.ref R))
  (M:∀pins Kx,XO (F2 X pins Kx) body (tb Kx)) (hs:∀a,XO (US X a) (b₀::suite) th) (w0:(x==("__debug__" : Str))=false:=by lia) :
  PS X (.Try body [.ExceptHandler (some (.Name x np)) (some n) (b₀::suite) hpos] [] [] pos) (Zjo X.K R i X.N.length tb th):=by
 intro pins s σ s0 e1 I x0;erw[wpAny_Try_except (Oq (M pins _ [] s σ s0 e1 I.toTry x0) (λf y q=>?_) λe y q=>?_)];cases f with
 |next=>ext⟨g,c,h,q⟩ q;exact wpAny_execs_nil ⟨g,c,h.ofTry,q⟩
 |brk=>ext⟨g,c,h,q⟩ q;exact⟨g,c,h.ofTry,q⟩
 |cont=>ext⟨g,c,h,q⟩ q;exact⟨g,c,h.ofTry,q⟩
 |ret u=>ext⟨v,g,c,h,r,q⟩ q;exact⟨v,g,c,h.ofTry,r,q⟩
 ext⟨a,C,i0,Y,y0,rfl,I1,⟨q0,t,G,ha,k0⟩,d0,g0,c1,u0⟩ q;ext⟨L,b1⟩ f1;have mv:∀O,Heap.FlyingW q0 X.stack a C (.ref t) O->y.heap.UpToSlots O->Za X pins i0 Y {y with heap:=O}:=λO o0 up=>I1.moved (λb o e M hn=>o0.1 b o (k0 b o e (by
  rcases M with⟨u,q,hx⟩|⟨u,q⟩|⟨p,E,rfl⟩;exact .inl (g0 b u q hx);exact .inr ⟨u,q⟩;exact .inl (d0 p E)) hn)) up
 have m0:X.A.frames=some (X.env::X.outer):=by rw[<-L];exact I.ok.frames
 rw[L]at G;erw[wpAny_looks_onW m0 b1 G λh4 v0 l0=>?_];erw[wpAny_landsW v0 λQ Z j0=>?_];have I5:=mv Q (by rwa[L]) (l0.trans j0);ext⟨i1,d1,n0⟩ Z.there;have LT:W.Looks (model X.prog X.w) Q (typeOf (.ref a)) C:=n0 ▸ (W.Looks.ld d1).andThen .now;erw[wpAny_handleBy_cons (codeAny_handlers_test (V7 (X:=US X a) I5.toSuite hg hm ?_ w0)) (by intro z;cases z)];erw[(W.exm_one (K:=X.K) (I5.kIn:X.K.In Q) LT c1) _ _ _ _ (λ_ _ z=>z) ?_];erw[codeAny_handlers_suite_as ?_];erw[lands_againW Z λT f0 r0=>?_];have I6:=mv T (by rwa[L]) ((l0.trans j0).trans r0);ext⟨b0,z0,S,p0,a0,_⟩ f0.first;have t0:∀o,y.heap.get? a=some o->a∉Ye X.stack:=λo e z=>by
  ext⟨ob,vs,H,_,q2,_⟩ G.first;exact I1.frd a z ob H vs q2
 have c0:∀u,y0.get? a=some u->False:=λu q=>by
  ext⟨ob,vs,H,_,q2,_⟩ G.first;have z:=k0 a ob H (.inl ⟨u,q⟩) (t0 ob H);rw[G.2.1]at z;cases z
 have h0:X.s₀.heap.get? a=none:=by
  cases q:X.s₀.heap.get? a with
  |none=>rfl
  |some u =>
   obtain⟨u',z⟩:=g0 a u q (by rw[a1];exact λz=>nomatch z);exact(c0 u' z).elim
 have E:∀p∈X.pn++pins,p.1≠a:=λp E z=>by
  obtain⟨u,q⟩:=d0 p E;rw[z]at q;exact c0 u q
 have I7:Za X pins i0 (upd Y a (WC a C)) {y with heap:=T}:=I6.track ha S a0 h0 E
  ⟨⟨b0,z0,S,p0,a0⟩,⟨b0,S⟩,λha M ⟨o,v,z1,z2⟩ k=>⟨o,v,k o z1,z2⟩⟩
 have I8:Za X pins (List.replicate X.N.length none) (upd Y a (WC a C)) {y with heap:=T}:=I7.weak (by rw[Sz,I7.len]) λh1 v q=>by
  rw[List.getElem?_replicate]at q;split at q<;>cases q
 erw[RZ (X:=US X a) I8.toSuite D hi (.inl B) (v:=.ref a) rfl (λs9 I9=>?_) (.inr B)];erw[Oq (hs a pins s9 _ _ _ I9 (u0 a ha)) (λf e0 q=>?_) λ_ _ z=>z.elim];have P:∀{g:St} {c:Hp},Za (US X a) pins g c e0->Za X pins g c e0:=λJ=>J.ofSuite I.ok.hd;cases f with
 |next=>ext⟨g,c,J,q⟩ q;exact N0 (P J) hi D B λU j=>⟨_,c,j,q⟩
 |brk=>ext⟨g,c,J,q⟩ q;exact N0 (P J) hi D B λU j=>⟨_,c,j,q⟩
 |cont=>ext⟨g,c,J,q⟩ q;exact N0 (P J) hi D B λU j=>⟨_,c,j,q⟩
 |ret u=>ext⟨v,g,c,J,r,q⟩ q;exact N0 (P J) hi D B λU j=>⟨v,_,c,j,r,q⟩
end
def Mf:YN X (.type "int") (λxs H Q=>∃z n,xs=[.str z]/\PySem.intText? z=some n/\z.length<=640/\Q (.int n) H):=by
 intro pins s f H xs g Q I r h;ext⟨z,n,rfl,hn,c,q⟩ h;obtain⟨u,rfl,t,rfl⟩:=Y4 r;exact W.KIN.call_text hn c ⟨.int n,H,I.tok _,⟨_,R⟩,q⟩
def Zjp:Q9 X "str.zfill" (λx xs H Q=>∃z i,x=.str z/\xs=[.int i]/\PadOk i=true/\Q (.str (Txt.zfill z i)) H):=by
 intro pins s g H x xs v n Q I c r h;ext⟨z,i,rfl,rfl,f,q⟩ h;ext⟨t,rfl⟩ c;obtain⟨u,rfl,j,rfl⟩:=Y4 r;exact SC.zfill f λt2 k=>⟨.str _,H,I.tok _,⟨_,R⟩,q⟩
inductive Zjq(x:V)(lo:Option Int)(hi:Option Int)(H:Hp)(Q:VK):Prop|mk z (_:x=.str z) (_:z.length<=sizeLine) (_:Q (.str (Txt.slice z lo hi)) H)
def Zbr(p:IsPart v o):∃l:Option (Int×Tok),v=partValue l/\l.map (·.1)=o:=by
 cases p with
 |none=>exact⟨none,R,R⟩
 |int i t=>exact⟨some (i,t),R,R⟩
def F3:Te X Zjq:=by
 intro pins s B H x v y n lo E D Q I f i j c h;ext⟨z,rfl,g,q⟩ h;ext⟨t,rfl⟩ f;obtain⟨l,rfl,rfl⟩:=Zbr j;obtain⟨u,rfl,rfl⟩:=Zbr c;erw[⟨"str",_,PySem.F.slot_str_getitem.lookup,typeIs_str s z t,wpAny_getItem_str_slice (l:=l) (u:=u) (st:=none) i R ?_⟩];exact post_val_or_str ⟨Sh (Txt.slice_le z _ _) g,λC k=>⟨.str _,H,I.tok _,⟨_,R⟩,q⟩⟩
def Tu:List V->List V->Bool
 |[],[]=>true
 |x::xs,y::c=>Vj x y && Tu xs c
 |_,_=>false
theorem Zbs:∀(xs c:List V),xs.length=c.length->(List.range xs.length).all (λj=>Vj (xs.getD j .non) (c.getD j .non))=Tu xs c
 |[],[],_=>rfl
 |[],_::_,h=>nomatch h
 |_::_,[],h=>nomatch h
 |x::xs,y::c,h=>by
  have f:=Zbs xs c (by simpa using h);rw[Sy,List.range_succ_eq_map,List.all_cons,List.all_map];show(Vj x y && _)=(Vj x y && Tu xs c);rw[<-f];rfl
theorem Zbt:∀bs:List Bool,(List.range bs.length).all (λi=>bs.getD i false)=bs.all id
 |[]=>rfl
 |b::bs=>by
  rw[Sy,List.range_succ_eq_map,List.all_cons,List.all_map,List.all_cons];show(b && _)=(b && _);rw[<-Zbt bs];rfl
def Tv(M:X.calm=true):YN X (.builtin "all") (λxs H Q=>∃(p:Addr) (bs:List Bool),xs=[.ref p]/\Zd X.K H p (bs.map V.bl)/\Q (.bl (bs.all id)) H):=by
 intro pins s Z H xs us Q I r h;ext⟨p,bs,rfl,G,q⟩ h;obtain⟨b0,rfl,S⟩:=Y4 r;cases S;obtain⟨f,B,j,hz⟩:=I.list G;have hlen:=B.length;obtain⟨o,a0,J,_⟩:=id j;have C:p≠s.heap.objs.size:=Sf (Se J);have tr:TruthOf X.prog X.w X.A.in1 (λi v=>f.toArray[i]? = some v) (λi=>bs.getD i false):=by
  intro i v s2 Y E2 L T;have n:f[i]? = some v:=by simpa using L
  have u:i<bs.length:=by
   have:=(Sr.mp n).1;rw[<-hlen,Sv]at this;exact this
  obtain⟨w,c,g⟩:=B.get (i:=i) (x:=.bl bs[i]) (by rw[Oa,Ss u];rfl);rw[n]at c;cases c;cases g;erw[wpAny_truthy_bool ?_];have P:bs.getD i false=bs[i]:=by rw[List.getD_eq_getElem?_getD,Ss u];rfl
  have y:Y (bs.getD i false) s2:=T;rw[P]at y;exact y
 erw[call_all_walk (wpAny_pyIter_list j.isList ?_)];erw[⟨s.heap.objs.size,[s.heap.objs.size,p],[s.heap.objs.size],f.toArray.size,_,_,_,R,Walks.list (A:=X.A.in1) (I.ok.hd M) _ _ C f.toArray,⟨⟨_,Sd _ R,R,R⟩,?_⟩,tr,λU tk O=>?_⟩];ext⟨o2,g,E⟩ j.isList;exact⟨o2,Sc _ g,E⟩;have D:∀b o,s.heap.get? b=some o->U.get? b=some o:=λb o e=>O b o (λz=>by
  have c:=Se e;rw[SE.mp z]at c;exact Os c (Sl _)) (Sc _ e)
 have e:(List.range f.toArray.size).all (λi=>bs.getD i false)=bs.all id:=by
  rw[SN,<-hlen,Sv];exact Zbt bs
 rw[e];exact⟨.bl _,H,I.kept (t':=tk) D,R,q⟩
def Za.laidN{h':Heap}(I:Za X pins h H s)(k:∀b u,s.heap.get? b=some u->h'.get? b=some u)(hn:s.heap.get? a=none)
  (new:Yo X.prog X.w (upd H a o) h' a o):Za X pins h (upd H a o) {s with heap:=h',toks:=t'}:=by
 have ha:H a=none:=I.hasNo hn;have nt:∀b u,H b=some u->b≠a:=λb u q=>ZR q ha;erw[I.un ⟨λb u q _ _ _=>k b u q,λb u q _ _ _=>⟨u.slots,k b u q⟩,λb u q n _=>?_,λb u q _=>⟨u,k b u q⟩,λb f q=>?_,λb u f q=>?_,λb i q=>⟨#[],?_⟩⟩ λb u q=>?_];have ne:b≠a:=λz=>by rw[z,hn]at q;cases q
 rwa[Zj ne];rwa[Zj (nt _ _ q)];rwa[Zj (nt _ _ q)];rw[Zj (nt _ _ q),q];simp;by_cases g:b=a;subst g;rw[Zh]at q;cases q;exact new;rw[Zj g]at q;exact(I.hok b u q).stay (λc v _ z=>k c v z) (λc z=>by rwa[Zj (nt _ _ z)]) λc f z=>by rwa[Zj (nt _ _ z)]
def X1(z:Str)(c:Nat):Bool:=!(Builtin.Str.occurrences z ⟨#[c]⟩ 0 z.length 1).isEmpty
theorem Zbu{g:Nat->Bool}:∀(cs:OG) (vs rs:OB),vs.length=cs.length->(∀(j:Nat) (v:Value),vs[j]? = some v->∃c u,cs[j]? = some c/\v=.str ⟨#[c]⟩ u) ->
  Paired (λv r=>∀c u,v=.str ⟨#[c]⟩ u->r=.bool (g c)) vs rs->ZC (cs.map λc=>V.bl (g c)) rs
 |[],[],_,_,_,.nil=>.nil
 |[],_::_,_,h,_,_=>nomatch h
 |_::_,[],_,h,_,_=>nomatch h
 |c::cs,v::vs,_,h,f,.cons r t=>by
  obtain⟨y,u,x,i⟩:=f 0 v R;have n:c=y:=by simpa using x
  subst n;exact .cons (r c u i) (Zbu cs vs _ (by simpa using h) (λj w B=>by simpa using f (j+1) w (by simpa using B)) t)
section
variable{x z:Str}{p1 p2 p3 px:Pos}{iter:Expr}{ti:TE}{cl:Oy}{zs:Str}
def Zbv(X:Cx)(scope:Scope)(cl:Oy)(z:Str)(p2:Pos)(zs:Str)(c:St):Prop :=
 ∀(pins:Ov) (H:Hp) (s1 s3:Shared) (C:Addr) (Q:Ou) (E:Ou),Za X pins c H s1->(∀b o,s1.heap.get? b=some o->s3.heap.get? b=some o)->(∀t,Q (.str zs t) s3) ->
  wpAny (model X.prog X.w) X.A (eval (.Name z p2) (compEnvC scope cl C X.env)) Q E s3
def Zjr(X:Cx)(scope:Scope)(cl:Oy)(z:Str)(p2:Pos)(ti:TE):TE:=λf H Q=>∃zs,Zbv X scope cl z p2 zs f/\ti f H λv g=>∃y,v=.str y/\y.length<=sizeLine /\
 ∀p,g p=none->Q (.ref p) (upd g p (.lst (y.cps.toList.map λc=>V.bl (X1 zs c))))
def Zbw(hc:X.calm=true)(hi:PE X iter ti)(e0:closureFor scope X.env=pure cl)(b0:∀y∈scope.names,y.2≠.cell)(O:scope.kind=.function)
  (g0:∀y∈scope.names,y.2=.local->scope.names.lookup y.1=some .local) (P:scope.names.lookup x=some .local) (hs:∀v,foldedSetIterable iter X.env v=pure v:=by intro _;rfl) (hd:(x==("__debug__" : Str))=false:=by lia) :
  PE X (.ListComp (.Compare (.Name x p1) [.In] [.Name z p2] p3) [⟨.Name x px,iter,[],0⟩] scope pos) (Zjr X scope cl z p2 ti):=by
 intro pins s Z k0 l0 f0 h;ext⟨zs,zr,h⟩ h;erw[wpAny_ListComp_free (cl:=cl) (λ_=>true) (λv r=>∀c u,v=.str ⟨#[c]⟩ u->r=.bool (X1 zs c)) e0 b0 O g0 P (Zy (hi pins s Z k0 _ f0 h) λxv f ⟨v,Q,E,r1,y,ev,hy,q⟩=>?_) hs];subst ev;ext⟨t,rfl⟩ r1;erw[wpAny_pyIter_str λo St W i0=>?_];have M:∀(B:Heap),(∀b g,b∉[f.heap.objs.size]->(f.heap.push o).get? b=some g->B.get? b=some g)->∀b g,f.heap.get? b=some g->B.get? b=some g:=λB i b g e =>
  i b g (λz=>by
   have j:=Se e;rw[SE.mp z]at j;exact Os j (Sl _)) (Sc _ e)
 erw[⟨f.heap.objs.size,[f.heap.objs.size],[f.heap.objs.size],y.cps.size,SignAt y,St,R,W X.A (E.ok.hd hc),hy,i0,λb U=>?_,⟨?_,?_⟩,?_⟩];rw[SE.mp U];show f.heap.objs.size<(f.heap.push o).objs.size;rw[Heap.size_push];exact Sm _;intro C c0 v n L E' _ G hn hm i _;exact Sb ⟨R,n.heap,n.toks,R,λ_ _ e=>e⟩;intro C c0 v n L E' _ G _ hn hm i _;ext⟨c,u,_,rfl⟩ G;erw[wpAny_Compare1 (wpAny_Name (wpAny_loadName_local (env:=compEnvC scope cl C X.env) (m:=L) O (lookup_relabel_local P) hn hm ?_) hd)];erw[zr pins Q f n C _ _ E (M _ i) λt3=>?_];erw[in_str ⟨λc' u' e=>?_,n.heap,n.toks,R,λ_ _ e=>e⟩];injection e with j _;injection j with I;have e3:c=c':=by simpa using I
 subst e3;rfl;intro D B tk H J Y hl h0 hlen G S i;have T:f.heap.get? D=none:=by
  cases e:f.heap.get? D with
  |none=>rfl
  |some u =>
   have:=Sc o e;rw[show(f.heap.push o).get? D=none from Y]at this;cases this
 ext⟨d0,hD⟩ h0;have j0:J.filter (λ_=>true)=J:=List.filter_eq_self.mpr λ_ _=>R;rw[j0]at S;have V1:ZC (y.cps.toList.map λc=>V.bl (X1 zs c)) H.toList:=Zbu y.cps.toList J H.toList (by rw[hlen];simp) (λa0 v hv=>by
  obtain⟨c,u,j,I⟩:=G a0 v hv;exact⟨c,u,by simpa using j,I⟩) S
 have new:Yo X.prog X.w (upd Q D (.lst (y.cps.toList.map λc=>V.bl (X1 zs c)))) B D (.lst (y.cps.toList.map λc=>V.bl (X1 zs c))):=by
  erw[⟨?_,H.toList,d0,V1,?_⟩];rw[Sv];have:y.cps.toList.length=y.length:=by simp[Str.length]
  lia;rw[Array.toArray_toList];exact hD
 exact⟨.ref D,_,E.laidN (t':=tk) (M B i) T new,R,q D (E.hasNo T)⟩
def Zbx(g:(relabel scope X.env).names.lookup z=some .globalImplicit)(h:scope.kind=.function)(hm:X.mg z=some (.str zs t))(hd:(z==("__debug__" : Str))=false:=by lia):Zbv X scope cl z p2 zs f:=by
 intro pins H i c C Q E I k q;exact Calls.Name_function_global (env:=compEnvC scope cl C X.env) h g (Calls.loadGlobal_global (env:=compEnvC scope cl C X.env) (by
  show c.heap.Ns X.env.globals X.mg;rw[I.ok.glob];exact(I.mod.glob.keeps I.bk).keeps k) hm (q t)) hd
end
def Ug:YN X (.builtin "isinstance") (λxs H Q=>∃x T t b,xs=[x,.ty T]/\Wb X.K H x t/\W.kitOne X.K t (.type T)=some b/\Q (.bl b) H):=by
 intro pins s i H xs j Q I r h;ext⟨x,T,t,b,rfl,ty,e,q⟩ h;obtain⟨u,c,rfl,g,f⟩:=NQ r;cases (show c=Value.type T from f);exact Za1 I g ty e λtk=>⟨.bl b,H,I.tok _,R,q⟩
def Tw:YN X (.builtin "isinstance") (λxs H Q=>∃x C t b,xs=[x,.ref C]/\Wb X.K H x t/\W.kitOne X.K t (.ref C)=some b/\Q (.bl b) H):=by
 intro pins s i H xs j Q I r h;ext⟨x,C,t,b,rfl,ty,e,q⟩ h;obtain⟨u,c,rfl,g,f⟩:=NQ r;cases (show c=Value.ref C from f);exact Za1 I g ty e λtk=>⟨.bl b,H,I.tok _,R,q⟩
section
variable{x:Str}
def XR(c:Gl X x)(hm:X.mg x=some (.ref a))(hd:(x==("__debug__" : Str))=false:=by lia):PE X (.Name x pos) (tC (.ref a)):=ZaH c hm R hd
def VM(f:Gl X x)(hm:X.mg x=none)(c:bootBuiltins x=some (.type T))(hn:x ≠ "__name__" := by lia) (hd:(x==("__debug__" : Str))=false:=by lia):PE X (.Name x pos) (tC (.ty T)):=ZhO f hm c R hn hd
end
open PySem PySem.Spec PyProof.Rows PySem.W PySem.Calls Builtin Builtin.ObjectAttr Builtin.Getset_descriptor
section
variable{a C:Addr}{o:Obj}{R:Result->Shared->Prop}
structure YP(K:Ox)(C:Addr):Prop where
 cl:(W.clsIn K C).isSome=true
 g1:W.findIn K (.ref C) "__getattribute__"=some (some (.builtin "BaseException.__getattribute__"))
 g2:W.findIn K (.ref C) "__getattr__"=some none
 g3:W.findIn K (.ref C) "__class__"=some (some (.builtin "object.__class__"))
 g4:W.mroIn K C (.type "object")=some true
 g5:W.mroIn K C (.type "BaseException")=some true
 g6:W.specialIn K (.builtin "object.__class__") "__get__"=some (some (.builtin "getset_descriptor.__get__"))
 g7:W.takesIn K (.builtin "object.__class__")=some true
def Zjs(Y:K.In s.heap)(c:YP K C)(i:s.heap.get? a=some o)(f:o.cls=.ref C)(h:R (.ok (.ret (.ref C))) s) :
  codeAny (model prog w) A (.call (.builtin "getset_descriptor.__get__") ⟨[.builtin "object.__class__",.ref a,tp],[]⟩) R s:=by
 ext⟨j,g,dr,t,os⟩ s;have n:Looks (model prog w) j (typeOf (.ref a)) (.ref C):=f ▸ (Looks.ld i).andThen .now;have u:=looks_mroIn (M:=model prog w) Y c.g4;erw[codeAny_call_builtin KF.slot_gs.plain KF.entry_gs (KF.slot_gs.check _ _ _ _ _ _ _ _ KF.type_class (KF.args_gs _ _ _) ?_)];unfold Builtin.«getset_descriptor.__get__» descrGet;rw[dga_obj];erw[Sa (Sb ?_)];unfold descrGetter descrCheckInstance descrNameAndClass isInstance;simp only[KF.owner_class]
 repeat lk
 erw[⟨Code.quiet_builtin _ (),codeAny_builtin KF.entry_class ?_⟩];unfold Builtin.«object.__class__» shownTypeOf
 repeat lk
 exact h
def Zjt(Y:K.In s.heap)(c:YP K C)(i:s.heap.get? a=some o)(f:o.cls=.ref C)(h:Q (.done (.ret (.ref C))) s) :
  wpAny (model prog w) A (Builtin.«object.__getattribute__» ⟨[.ref a,.str "__class__" tk],[]⟩) Q E s:=by
 ext⟨j,g,dr,t,os⟩ s;have n:Looks (model prog w) j (typeOf (.ref a)) (.ref C):=f ▸ (Looks.ld i).andThen .now;have x:=looks_findIn (M:=model prog w) Y c.g3;have v:=looks_specialIn (M:=model prog w) Y c.g6;have u:=looks_takesIn (M:=model prog w) Y c.g7;unfold Builtin.«object.__getattribute__»
 repeat lk
 erw[wpAny_run (c:=.call (.builtin "getset_descriptor.__get__") ⟨[.builtin "object.__class__",.ref a,.ref C],[]⟩) (h:=none) (Zjs (R:=_) Y c i f ?_)];exact Sb (Sb h)
def Zju(Y:K.In s.heap)(c:YP K C)(n:s.heap.get? a=some o)(j:o.cls=.ref C)(h:Q Unit.unit s) :
  wpAny M A (checkBuiltinCall "BaseException.__getattribute__" ⟨[.ref a,f],[]⟩) Q E s:=by
 ext⟨y,g,dr,t,os⟩ s;have u:Looks M y (typeOf (.ref a)) (.ref C):=j ▸ (Looks.ld n).andThen .now;have x:=looks_mroIn (M:=M) Y c.g5;have v:builtinKind "BaseException.__getattribute__"=some .slot:=by lia
 have i:splitId "BaseException.__getattribute__"=some ("BaseException","__getattribute__"):=by lia
 have ha:=PySem.F.args_bexc_ga (.ref a) f;simp only[checkBuiltinCall,v,i];erw[Sa ?_];unfold isInstance;erw[Sa (u.at ?_)];erw[x.at ?_];rw[SU ()];exact wpAny_of_eq ha h
def Zjv(Y:K.In s.heap)(c:YP K C)(i:s.heap.get? a=some o)(f:o.cls=.ref C)(h:Q (some (.ref C)) {s with toks:=s.toks+1}) :
  wpAny (model prog w) A (getAttr? (.ref a) "__class__") Q E s:=by
 ext⟨x,g,dr,t,os⟩ s;have j:Looks (model prog w) x (typeOf (.ref a)) (.ref C):=f ▸ (Looks.ld i).andThen .now;have u:=looks_findIn (M:=model prog w) Y c.g1;have n:=looks_findIn (M:=model prog w) Y c.g2;have v:=PySem.F.excAttr_ValueError.ga.bind (.ref a);unfold getAttr? getAttrBy? getAttrBy;erw[Sa (wpAny_mkText (Sa (wpAny_attempt (wpAny_holding (Sa (j.at (Sa (u.at ?_))))))))];dsimp only;rw[SU (show ¬ ((onTheHeap (Value.ref C) && Value.builtin "BaseException.__getattribute__"==Value.builtin "object.__getattribute__")=true) by
  rw[show(Value.builtin "BaseException.__getattribute__"==Value.builtin "object.__getattribute__")=false by lia,Bool.and_false];lia)]
 unfold getAttrByItsOwn hookBefore;rw[SV (show onTheHeap (Value.ref C)=true from rfl)];erw[Sa (n.at ?_)];unfold callGetattribute;rw[SU ()];unfold boundAndCalled;erw[Sa (wpAny_attempt (wpAny_holding (Sa (wpAny_of_eq v ?_))))];erw[wpAny_call (codeAny_call_builtin PySem.F.excAttr_ValueError.ga.plain PySem.F.entry_bexc_ga (Zju Y c i f (Zjt Y c i f ?_)))];exact Sb (Sb h)
def Zby(c:YP K C):KitX K (.ref a) (.ref C) (λh=>∃ob vs,h.get? a=some ob/\ob.cls=.ref C/\ob.data=.fields vs) where
 ty:=λM h Y ⟨ob,vs,i,g,_⟩=>g ▸ (Looks.ld i).andThen .now
 it:=λM h Y _=>by
  obtain⟨j,f⟩:=Option.isSome_iff_exists.mp c.cl;unfold clsIn at f;split at f
  ·next ho =>
   intro v B y D k q;unfold isType loadHead;exact Sa (wpAny_loadPart (k _ _ (Y _ _ ho)) (Sb q))
  cases f
 ne:=λh tp G x n H Y u=>by
  obtain⟨j,f⟩:=Option.isSome_iff_exists.mp c.cl;erw[Oh.mpr λq=>?_];have e:C=tp:=Value.ref.inj (beq_iff_eq.mp q);subst e;unfold clsIn at f;split at f
  ·next ho =>
   have z:=(Y _ _ ho).symm.trans u;cases z
  cases f
 ca:=λY ⟨ob,vs,i,g,_⟩ k=>Zjv Y c i g k
end
def Zjw:YN X (.builtin "isinstance") (λxs H Q=>∃(a C D:Addr) (b:Bool),xs=[.ref a,.ref D]/\H a=some (WC a (.ref C))/\YP X.K C/\W.kitOne X.K (.ref C) (.ref D)=some b/\Q (.bl b) H):=by
 intro pins s j H xs n Q I r h;ext⟨a,C,D,b,rfl,ha,c,e,q⟩ h;obtain⟨u,f,rfl,i,g⟩:=NQ r;cases (show u=Value.ref a from i);cases (show f=Value.ref D from g);obtain⟨p,_⟩:=I.hok a _ ha;exact kia_one (Zby c) I.kIn p e (λz=>nomatch z) λtk=>⟨.bl b,H,I.tok _,R,q⟩
def Zjx:YN X (.builtin "isinstance") (λxs H Q=>∃(a C:Addr) (T:String) (b:Bool),xs=[.ref a,.ty T]/\H a=some (WC a (.ref C))/\YP X.K C/\W.kitOne X.K (.ref C) (.type T)=some b/\Q (.bl b) H):=by
 intro pins s j H xs n Q I r h;ext⟨a,C,T,b,rfl,ha,c,e,q⟩ h;obtain⟨u,f,rfl,i,g⟩:=NQ r;cases (show u=Value.ref a from i);cases (show f=Value.type T from g);obtain⟨p,_⟩:=I.hok a _ ha;exact kia_one (Zby c) I.kIn p e (λz=>nomatch z) λtk=>⟨.bl b,H,I.tok _,R,q⟩
def VN{f:Type}{t:Sem f}{Q c:f->Shared->Prop}{M:Model}(h:wpAny M A t Q (λ_ _=>False) s)(g:∀a s,Q a s->c a s):wpAny M A t c E s:=Oq h g λ_ _ z=>z.elim
abbrev Zbz(ifs:OD)(env:Env):Sem Bool:=forIn ifs true λc r=>if r=true then do let ok <-isTrue c env (eval c env);pure (ForInStep.yield ok)else pure (ForInStep.yield r)
theorem Zjy{R:Result->Shared->Prop}{iter : Expr}{H:Pos}(J:Nat->Shared->Prop)
  (turn:∀k c,J k c->wpAny (model prog w) A (pyNext it) (λr s2=>match r with
   |none=>R (.ok .next) s2
   |some v=>wpAny (model prog w) A (letOwnedTupleGo f it v) (λ_ u=>wpAny (model prog w) A (assign f env v) (λ_ B=>wpAny (model prog w) A (Zbz D env) (λok s5 =>
     if ok=true then wpAny (model prog w) A (eval i env) (λx j=>wpAny (model prog w) A (call (.builtin "list.append") [C,x]) (λ_ n=>∃m,m<k/\J m n) (λ_ _=>False) j) (λ_ _=>False) s5
     else ∃m,m<k/\J m s5) (λ_ _=>False) B) (λ_ _=>False) u) (λ_ _=>False) s2) (λ_ _=>False) c)
  (k:Nat) (h:J k s):codeAny (model prog w) A (.compLoop (.ListComp i [⟨f,iter,D,0⟩] scope H) 0 it C env) R s:=by
 erw[codeAny_loop rfl J (λk c M=>?_) k h];erw[wpAny_noted ?_];rw[compTurn_list];erw[Sa (wpAny_standAt (Sa (VN (turn k c M) λr s2 y=>?_)))];cases r with
 |none=>exact Sb y
 |some v =>
  erw[Sa (VN y λ_ u L=>Sa (VN L λ_ B G=>Sa (VN G λok s5 g=>?_)))];cases ok with
  |false=>exact Sb ⟨rfl,g⟩
  |true=>exact Sa (Sa (VN g λx j E=>Sa (VN E λ_ n I=>Sb (Sb ⟨rfl,I⟩))))
abbrev XS(X:Cx)(N:OC)(scope:Scope)(cl:Oy)(C:Addr)(s0:Shared)(H0:Hp)(ex:OH)(pins:Ov):Cx :=
 {X with N:=N,s₀:=s0,H₀:=H0,env:=compEnvC scope cl C X.env,outer:=X.stack,stack:=X.stack,ex:=ex,fn:=λ_=>false,pn:=X.pn++pins,xe:=λ_ _=>False}
def Vm(X:Cx)(scope:Scope)(cl:Oy):List Str->List (Option Nat)->Prop
 |[],[]=>True
 |_::N,none::fr=>Vm X scope cl N fr
 |y::N,some i::fr=>(X.N[i]? = some y/\(X.env.kindOf y=some .cell\/X.env.kindOf y=some .free)/\((relabel scope X.env).names.lookup y=some .cell\/(relabel scope X.env).names.lookup y=some .free) /\
   ∃c,X.env.cells.lookup y=some c/\cl.lookup y=some c)/\Vm X scope cl N fr
 |_,_=>False
def F4(fr:List (Option Nat))(c:St):St:=fr.map λo=>match o with|none=>none|some i=>(c[i]?).getD none
theorem Vm.len:∀{N:OC} {fr:List (Option Nat)},Vm X scope cl N fr->fr.length=N.length
 |[],[],_=>rfl
 |_::N,none::fr,h=>by rw[Sy,Sy,Vm.len (N:=N) h]
 |_::N,some i::fr,h=>by rw[Sy,Sy,Vm.len (N:=N) h.2]
 |[],_::_,h=>h.elim
 |_::_,[],h=>h.elim
theorem Vm.at{cl:Oy}:∀{N:OC} {fr:List (Option Nat)} {j:Nat},Vm X scope cl N fr->N[j]? = some y->(F4 fr g)[j]? = some (some v) ->
  ∃i:Nat,g[i]? = some (some v)/\X.N[i]? = some y/\(X.env.kindOf y=some .cell\/X.env.kindOf y=some .free)/\((relabel scope X.env).names.lookup y=some .cell\/(relabel scope X.env).names.lookup y=some .free) /\
   ∃c,X.env.cells.lookup y=some c/\cl.lookup y=some c
 |[],[],j,_,e,_=>by simp at e
 |[],_::_,_,h,_,_=>h.elim
 |_::_,[],_,h,_,_=>h.elim
 |_::N,none::fr,0,_,_,q=>by cases q
 |_::N,none::fr,j+1,h,e,q=>Vm.at (N:=N) (fr:=fr) (j:=j) h e q
 |x::N,some i::fr,0,h,e,q=>by
  have n:x=y:=So e;subst n;have f:some ((g[i]?).getD none)=some (some v):=q;erw[⟨i,?_,h.1⟩];cases z:g[i]? with
  |none=>rw[z]at f;cases f
  |some o=>rw[z]at f;exact congrArg some (So f)
 |_::N,some i::fr,j+1,h,e,q=>Vm.at (N:=N) (fr:=fr) (j:=j) h.2 e q
def VO(X:Cx):List (Str×Addr)->Prop
 |[]=>True
 |(y,c)::r=>X.env.cells.lookup y=some c/\VO X r
theorem VO.at:∀{cl:Oy},VO X cl->cl.lookup y=some c->X.env.cells.lookup y=some c
 |[],_,e=>by cases e
 |(z,d)::r,h,e=>by
  rw[List.lookup_cons]at e;cases q:y==z with
  |true =>
   rw[q]at e;have f:y=z:=by simpa using q
   have g:d=c:=So e;subst f g;exact h.1
  |false =>
   rw[q]at e;exact VO.at h.2 e
theorem Tx{c:Type}{p:Str×c->Bool}{y:Str}{k:c}:∀{l:List (Str×c)},l.all p=true->l.lookup y=some k->p (y,k)=true
 |[],_,e=>by cases e
 |(z,d)::r,h,e=>by
  rw[List.all_cons,Bool.and_eq_true]at h;rw[List.lookup_cons]at e;cases q:y==z with
  |true =>
   rw[q]at e;have f:y=z:=by simpa using q
   have g:d=k:=So e;subst f g;exact h.1
  |false =>
   rw[q]at e;exact Tx h.2 e
section
variable{σ:St}{N:OC}{fr:List (Option Nat)}{cl:Oy}
def Za.block{h':Heap}(I:Za X pins σ H s)(a0:scope.kind=.function)(L:Vm X scope cl N fr)(g:VO X cl)
  (U:((relabel scope X.env).names.all λp=>!(p.2==.cell || p.2==.free) || (cl.lookup p.1).isSome)=true) (i:∀b∈ex,Vy X pins H b) (S:∀b∈ex,b<s.heap.objs.size)
  (h:∀b o,s.heap.get? b=some o->h'.get? b=some o) (u:s.heap.objs.size<=C) (b0:h'.Ns C m):Za (XS X N scope cl C s H ex pins) [] (F4 fr σ) H {s with heap:=h',toks:=tk}:=by
 have O:∀b,b≠X.env.locals->b∉X.fs->b∉Ye X.stack:=λb Q h2 z=>(SF.mp (I.stkSub b z)).elim Q h2;have T:∀b o,s.heap.get? b=some o->b≠C:=λb o e=>Sf (Si (Se e) u);refine⟨⟨I.ok.mod,a0,I.ok.glob,I.ok.blt,u,λx y c G B=>I.ok.inj x y c (g.at G) (g.at B),λx hx=>?_,(λ_ _ z=>nomatch z),I.ok.hd,I.ok.frames,.inl R,λb f=>⟨Sf (Si (S b f) u),λx c e=>(i b f).2.2.2.2.1 x c (g.at e)⟩,
   I.bs,Sh I.ok.bsz I.sz,λb o e f=>?_,λb f=>O b (i b f).2.1 (i b f).2.2.1,I.stack,I.stkFree⟩,R,I.bare,Un.kept h,⟨m,b0,λf0 x v G B e3=>?_⟩,λx c e=>?_,?_,λx c e=>I.freeC x c (g.at e),λp hp=>?_,I.hok.kept h,?_⟩
 have q:∃k,(relabel scope X.env).names.lookup x=some k/\(k=.cell\/k=.free):=hx.elim (λz=>⟨_,z,.inl R⟩) λz=>⟨_,z,.inr R⟩;ext⟨k,J,E⟩ q;have z:=Tx U J;have z2:(cl.lookup x).isSome=true:=by
  rcases E with rfl|rfl;simpa using z;simpa using z
 exact Option.isSome_iff_exists.mp z2;rcases(i b f).2.2.2.1 with z|z;exact I.ok.noex b o e z;exact Os (Si (Si (Se e) I.ok.bsz) z) (Sl _);obtain⟨j,J,E,P,Y,c,q5,q6⟩:=L.at G B;ext⟨m0,e0,d0⟩ I.loc;obtain⟨c0,r,l⟩:=d0 j x v E J (P.elim (λz=>.inr (.inl z)) λz=>.inr (.inr z));erw[⟨c0,r,.inr ⟨Y,c,q6,?_⟩⟩];rcases l with⟨k,_⟩|⟨_,c',M,o,D,hd⟩;rcases P with z|z;rw[z]at k;cases k;rw[z]at k;cases k;rw[q5]at M;cases M;exact⟨o,h _ _ D,hd⟩;obtain⟨v,o,D,hd⟩:=I.cell x c (g.at e);exact⟨v,o,h _ _ D,hd⟩;exact I.hok.fresh u;have Z:p∈X.pn++pins:=by simpa using hp
 obtain⟨e,n,ne,nf,d⟩:=I.pin p Z;exact⟨h _ _ e,n,T _ _ e,O _ ne nf,d⟩;show(F4 fr σ).length=N.length;unfold F4;rw[Sv,L.len]
def Za.trackS{ob:Obj}(I:Za X pins σ H s)(ha:H a=none)(j:s.heap.get? a=some ob)(hd:ob.data=.seq vs n)
  (B:X.s₀.heap.get? a=none) (D:∀p∈X.pn++pins,p.1≠a) (new:Yo X.prog X.w (upd H a o) s.heap a o):Za X pins σ (upd H a o) s:=by
 have nt:∀b u,H b=some u->b≠a:=λb u q=>ZR q ha;erw[⟨I.ok,I.os,I.bare,⟨I.base.keep,I.base.slot,λb u e n x=>?_,I.base.there,λb h q=>?_,λb u h q=>?_,λb C q=>?_⟩,I.loc,I.cell,?_,λy c e=>?_,λp q=>?_,λb u q=>?_,I.len⟩];have ne:b≠a:=λz=>by rw[z,B]at e;cases e
 rw[Zj ne];exact I.base.free b u e n x;have z:=I.base.tups b h q;rwa[Zj (nt _ _ z)];have z:=I.base.frzs b u h q;rwa[Zj (nt _ _ z)];obtain⟨m,z⟩:=I.base.tbls b C q;exact⟨m,by rwa[Zj (nt _ _ z)]⟩;have ne:X.env.locals≠a:=λz=>by
  ext⟨m,⟨J,L,G,g,f,_⟩,_⟩ I.loc;rw[z,j]at g;cases g;rw[hd]at f;cases f
 rw[Zj ne];exact I.free;have ne:c≠a:=λz=>by
  obtain⟨v,E,g,f⟩:=I.cell y c e;rw[z,j]at g;cases g;rw[hd]at f;cases f
 rw[Zj ne];exact I.freeC y c e;obtain⟨e,n,r⟩:=I.pin p q;exact⟨e,by rwa[Zj (D p q)],r⟩;by_cases i:b=a;subst i;rw[Zh]at q;cases q;exact new;rw[Zj i]at q;exact(I.hok b u q).stay (λc v _ z=>z) (λc z=>by rwa[Zj (nt _ _ z)]) λc h z=>by rwa[Zj (nt _ _ z)]
end
def Mg(X:Cx)(c:OD)(t:TT):Prop :=
 ∀(pins:Ov) (s:Shared) (σ:St) (H:Hp) (Q:Bool->Hp->Prop),Za X pins σ H s->t σ H Q->wpAny (model X.prog X.w) X.A (Zbz c X.env) (TP X pins σ Q) X.xe s
def X2:TT:=λ_ H Q=>Q true H
def Xu:Mg X [] X2:=λ_ _ _ H _ I h=>wpAny_tests_nil ⟨H,I,h⟩
def TB(h:PT X c t):Mg X [c] t:=λpins s f H Q I q=>wpAny_tests_one (h pins s f H Q I q)
def WX(Q:VK)(c:List V)(H:Hp):Prop:=∀p,H p=none->Q (.ref p) (upd H p (.lst c))
def TC(fr:List (Option Nat))(E:TI)(g:TG)(L:TT)(M:TE):TE:=λj H Q=>E j H λJ I=>∃W:Nat->Nat->List V->St->Hp->Prop,(∃m,W 0 m [] (F4 fr j) I)/\∀i m f u H,W i m f u H ->
 (J.stop i H/\WX Q f H) \/
 (J.go i H/\f.length<sizeLine/\∃N:List V->St->Hp->Prop,(∀B C c,N B C c->∃n,n<m/\W (i+1) n B C c)/\∀x c,J.yld i H x c->g x u c λh G=>L h G λb v=>if b=true then M h v λy D=>N (f++[y]) h D else N f h v)
def ZbA{iter : Expr}{cl:Oy}
  (hc:X.calm=true) (hi:PI X tg iter wi) (v1:closureFor scope X.env=pure cl) (l1:∀y∈scope.names,y.2≠.cell) (g0:scope.kind=.function)
  (q1:∀y∈scope.names,y.2=.local->scope.names.lookup y.1=some .local) (p1:Vm X scope cl N fr) (n0:VO X cl)
  (t1:((relabel scope X.env).names.all λp=>!(p.2==.cell || p.2==.free) || (cl.lookup p.1).isSome)=true)
  (hg:∀C s0 Y ex pins,PG (XS X N scope cl C s0 Y ex pins) tg g) (ht:∀C s0 Y ex pins,Mg (XS X N scope cl C s0 Y ex pins) h0 tt) (he:∀C s0 Y ex pins,PE (XS X N scope cl C s0 Y ex pins) i0 te)
  (hs:∀v,foldedSetIterable iter X.env v=pure v) (w1:Za X pins σ H s) (h:TC fr wi g tt te σ H Q)
  (fin:∀(D:Nat) (s2 Z:Shared) (u M:Hp) (fp:OH) (I:List V) (j:OB) (J:Nat) (P:St),s2.heap.objs.size=D->Za X pins σ u s2->(∀b∈fp,Vy X pins u b)->Za (XS X N scope cl (D+1) s2 u fp pins) [(D,{cls:=.type "list",dict:=none,data:=.seq (List.toArray j) J})] P M Z->M D=none->ZC I j->I.length<=sizeLine->WX Q I M->(∀p∈X.pn++pins,p.1<D)->X.s₀.heap.get? D=none->compPost (model X.prog X.w) X.A X.xe k0 Qf (.ref D) (D+1) (.ok .next) Z) :
  wpAny (model X.prog X.w) X.A (comprehension (.ListComp i0 [⟨tg,iter,h0,0⟩] scope y0) scope X.env e1 (newList []) false (eval iter X.env) k0) Qf X.xe s:=by
 erw[wpAny_comprehension_free R hs v1 g0 q1 (Zy (hi pins s σ H _ w1 h) λxv s1 h1=>Zy h1 λc2 s2 h2=>?_)];ext⟨it,fp,tn,b2,u,e,O,T,l0,f2,W,⟨m0,w0⟩,turn⟩ h2;subst e;erw[wpAny_newObj_type (wpAny_newFunctionEnv l1 (λy hy=>nomatch hy) (λh4 d0 c0=>?_) g0)];dsimp only at d0 c0 ⊢;generalize G:s2.heap.objs.size=D at *;generalize hG:s2.heap.push {cls:=.type "list",dict:=none,data:=.seq ([]:OB).toArray} = x0 at d0 c0 ⊢;have hC:x0.objs.size=D+1:=by rw[<-hG,Heap.size_push,G]
 generalize a2:x0.objs.size=C at d0 c0 hC ⊢;subst hC;have j0:∀b o,s2.heap.get? b=some o->h4.get? b=some o:=λb o e=>by
  have lt:=Se e;rw[G]at lt;exact c0.extBut b o (Sf (Sn lt)) (Sc _ (hG ▸ Sc _ e))
 have d1:h4.get? D=some {cls:=.type "list",dict:=none,data:=.seq ([]:OB).toArray 0} :=
  c0.extBut _ _ (Sf (Sm _)) (Sc _ (hG ▸ G ▸ Sd _ R))
 have flt:∀b∈fp,b<D:=λb f=>by
  obtain⟨o,e,_⟩:=T.obj 0 _ l0 b f;have lt:=Se e;rw[G]at lt;exact lt
 have f1:∀b,b≠X.env.locals->b∉X.fs->b∉Ye X.stack:=λb h1 h2 z=>(SF.mp (O.stkSub b z)).elim h1 h2;have pl:∀p∈X.pn++pins,p.1<D:=λp E=>by
  have lt:=Se (O.pin p E).1;rw[G]at lt;exact lt
 have I4:∀tk,Za (XS X N scope cl (D+1) s2 u fp pins) [] (F4 fr σ) u {s2 with heap:=h4,toks:=tk}:=λtk =>
  O.block g0 p1 n0 t1 f2 (λb f=>by rw[G];exact flt b f) j0 (by rw[G];exact Nat.le_succ _) d0
 have e0:∀{B:Hp} {o:Obj},(∀b∈fp,B b=none)->∀b∈fp,Vy (XS X N scope cl (D+1) s2 u fp pins) [(D,o)] B b:=λ{B o} hn b f=>by
  obtain⟨_,k1,k2,_,U,k5⟩:=f2 b f;erw[⟨hn b f,Sf (Sn (flt b f)),f1 b k1 k2,.inl f,λx c e=>U x c (n0.at e),λp E=>?_⟩];rcases SG.mp E with E|E;exact k5 p E;rw[SE.mp E];exact(Sf (flt b f)).symm
 have y1:D∉Ye X.stack:=λz=>by
  obtain⟨_,o,e,_⟩:=O.stack.mem z;have lt:=Se e;rw[G]at lt;exact Os lt (Sl _)
 have loop:∀tk,codeAny (model X.prog X.w) X.A (.compLoop (.ListComp i0 [⟨tg,iter,h0,0⟩] scope y0) 0 (.ref it) (.ref D) (compEnvC scope cl (D+1) X.env)) (compPost (model X.prog X.w) X.A X.xe k0 Qf (.ref D) (D+1)) {s2 with heap:=h4,toks:=tk}:=λtk=>by
  refine Zjy (λk L=>∃i a0 B j J I,Za (XS X N scope cl (D+1) s2 u fp pins) [] a0 B L /\
    L.heap.get? D=some {cls:=.type "list",dict:=none,data:=.seq (List.toArray j) J}/\B D=none/\ZC I j/\I.length<=sizeLine/\tn i L.heap/\(∀b∈fp,B b=none)/\W i k I a0 B) ?_ m0
   ⟨0,_,u,[],0,[],I4 tk,d1,O.hok.fresh (by rw[G];exact Sg _),.nil,Sk _,T.keep 0 _ _ l0 λb _ o e=>j0 b o e,λb f=>(f2 b f).1,w0⟩
  rintro k s5 ⟨i,P,M,j,J,I,I5,hL,r0,va,q0,o0,z0,w5⟩;have j1:∀x c,cl.lookup x=some c->c≠D:=λx c e z=>by
   obtain⟨v,q⟩:=O.cell x c (n0.at e);have lt:=q.lt;rw[G,z]at lt;exact Os lt (Sl _)
  have t0:Za (XS X N scope cl (D+1) s2 u fp pins) [(D,{cls:=.type "list",dict:=none,data:=.seq (List.toArray j) J})] P M s5:=I5.pins_of λp E=>by
   rw[SE.mp E];exact⟨hL,r0,Sf (Sm _),y1,λv z=>by cases z⟩
  rcases turn i k I P M w5 with⟨stop,qn⟩|⟨go,d2,N1,p0,step⟩;erw[VN (T.done (XS X N scope cl (D+1) s2 u fp pins) R R R hc i _ s5 _ M _ t0 (e0 z0) o0 stop) λr Z ⟨hr,I6⟩=>?_];subst hr;exact fin D s2 Z u M fp I j J P G O f2 I6 r0 va q0 qn pl (by
    cases z:X.s₀.heap.get? D with
    |none=>rfl
    |some o =>
     have lt:=Si (Se z) O.sz;rw[G]at lt;exact Os lt (Sl _))
  erw[VN (T.item (XS X N scope cl (D+1) s2 u fp pins) R R R hc i _ s5 _ M _ t0 (e0 z0) o0 go) λr Z ⟨c1,hr,h6⟩=>?_];subst hr;erw[VN h6 λ_ s7 ⟨x,H7,I7,r7,y7,f0,a1⟩=>?_];have b1:Za (XS X N scope cl (D+1) s2 u fp pins) ([(D,{cls:=.type "list",dict:=none,data:=.seq (List.toArray j) J})]++Q5 fp s7.heap) P H7 s7:=I7.pinned (e0 a1) (T.obj _ _ f0);erw[VN (hg _ _ _ _ _ _ s7 _ H7 x c1 _ b1 r7 (step x H7 y7)) λ_ s8 ⟨b0,H8,I8,q8⟩=>?_];erw[VN (ht _ _ _ _ _ _ s8 b0 H8 _ I8 q8) λok s9 ⟨H9,I9,q9⟩=>?_];have wk:∀{a0:St} {B:Hp} {L:Shared},Za (XS X N scope cl (D+1) s2 u fp pins) ([(D,{cls:=.type "list",dict:=none,data:=.seq (List.toArray j) J})]++Q5 fp s7.heap) a0 B L ->
    tn (i+1) L.heap/\(∀b∈fp,B b=none)/\L.heap.get? D=some {cls:=.type "list",dict:=none,data:=.seq (List.toArray j) J}/\B D=none:=λ{a0 B L} J'=>by
   have pin:∀p∈([(D,{cls:=.type "list",dict:=none,data:=.seq (List.toArray j) J})]:Ov)++Q5 fp s7.heap,L.heap.get? p.1=some p.2/\B p.1=none:=λp E=>let ⟨e,n,_⟩:=J'.pin p (SH _ E);⟨e,n⟩;erw[⟨T.keep _ _ _ f0 λb f o e=>(pin (b,o) (SH _ (NK f e))).1,λb f=>?_,(pin (D,_) (SI _ (SE.mpr R))).1,(pin (D,_) (SI _ (SE.mpr R))).2⟩];obtain⟨o,e,_⟩:=T.obj _ _ f0 b f;exact(pin (b,o) (SH _ (NK f e))).2
  cases ok with
  |false =>
   obtain⟨m',hm,w9⟩:=p0 _ _ _ q9;obtain⟨k1,k2,k3,U⟩:=wk I9;exact⟨m',hm,i+1,b0,H9,j,J,I,I9.pins_of (λ_ z=>nomatch z),k3,U,va,q0,k1,k2,w9⟩
  |true =>
   erw[VN (he _ _ _ _ _ _ s9 b0 H9 _ I9 q9) λy S ⟨v,u0,v0,m1,x1⟩=>?_];obtain⟨m',hm,u1⟩:=p0 _ _ _ x1;obtain⟨k1,k2,k3,U⟩:=wk v0;erw[call_meets F.slot_list_append ⟨_,k3,R⟩ F.entry_list_append (F.args_list_append_2 _ _) (PySem.list_append D j.toArray J y (by rw[SN,<-va.length];lia)) ⟨k3,?_⟩];have up:∀b o,b≠D->S.heap.get? b=some o->(S.heap.update D (Obj.mapSeq λz=>z.push y)).get? b=some o:=λb o f e=>(Heap.get?_update_other S.heap _ (Ne.symm f)).trans e;have i1:Za (XS X N scope cl (D+1) s2 u fp pins) [] b0 u0 {S with heap:=S.heap.update D (Obj.mapSeq λz=>z.push y),toks:=S.toks} :=
    (v0.pins_of (pins':=[]) λ_ z=>nomatch z).turned up U (Sf (Sm _)) (.inr (by rw[G];exact Sg _)) j1 λp E=>by
     have n1:p∈X.pn++pins:=by simpa using E
     exact Sf (pl p n1)
   have q:=PySem.IsL.update k3 (λz=>z.push y);rw[show(List.toArray j).push y=(j++[y]).toArray by simp]at q;erw[⟨m',hm,i+1,b0,u0,j++[y],_,I++[v],i1,q,U,va.append (.cons m1 .nil),?_,T.keep _ _ _ k1 λb f o e=>up b o (Sf (flt b f)) e,k2,u1⟩];rw[Su,Sw];lia
 exact codeAny_compStart_list (loop _) (T.self _ 0 _ _ _ (T.keep 0 _ _ l0 λb _ o e=>j0 b o e) (loop _))
def Xv{iter : Expr}{cl:Oy}{P:TI}
  (E:X.calm=true) (hi:PI X I iter P) (f0:closureFor scope X.env=pure cl) (e0:∀y∈scope.names,y.2≠.cell) (j0:scope.kind=.function)
  (l0:∀y∈scope.names,y.2=.local->scope.names.lookup y.1=some .local) (i0:Vm X scope cl N fr) (b0:VO X cl)
  (d0:((relabel scope X.env).names.all λp=>!(p.2==.cell || p.2==.free) || (cl.lookup p.1).isSome)=true)
  (hg:∀C j x ex pins,PG (XS X N scope cl C j x ex pins) I g) (ht:∀C j x ex pins,Mg (XS X N scope cl C j x ex pins) S Y) (he:∀C j x ex pins,PE (XS X N scope cl C j x ex pins) L Z)
  (hs:∀v,foldedSetIterable iter X.env v=pure v:=by intro _;rfl):PE X (.ListComp L [⟨I,iter,S,0⟩] scope m0) (TC fr P g Y Z):=by
 intro pins s M r0 q0 k0 g0;rw[eval_ListComp];erw[ZbA E hi f0 e0 j0 l0 i0 b0 d0 hg ht he hs k0 g0 λD s2 J H2 h fp h0 T U p0 hD I2 f2 c O va o0 qn pl hz=>?_];ext⟨m6,n0,_⟩ c.loc;erw[⟨m6,n0,λf B=>?_⟩];have Q:f.get? D=some {cls:=.type "list",dict:=none,data:=.seq (List.toArray T) U}:=B.extBut _ _ (Sf (Sm _)) (c.pin (D,_) (SH _ (SE.mpr R))).1;have H:∀b o,s2.heap.get? b=some o->b≠D+1:=λb o e=>by
  have lt:=Se e;rw[hD]at lt;exact Sf (Sn lt)
 have nt:∀b u,h b=some u->b≠D+1:=λb u q z=>by
  have c0:=c.free;rw[z]at q;rw[show h (D+1)=none from c0]at q;cases q
 have un:Un (Ye X.stack) fp H2 h s2.heap f:=⟨λb o e n i G=>B.extBut b o (H b o e) (c.base.keep b o e n i G),
  λb o e n i G=>let ⟨sl,q⟩:=c.base.slot b o e n i G;⟨sl,B.extBut b _ (H b o e) q⟩,c.base.free,λb o e G=>let ⟨o',q⟩:=c.base.there b o e G;⟨o',B.extBut b _ (H b o e) q⟩,c.base.tups,c.base.frzs,c.base.tbls⟩
 have hok:Yp X.prog X.w h f:=λb u q=>(c.hok b u q).stay (λa0 v E e=>B.extBut a0 v (by
  rcases E with rfl|E;exact nt _ _ q;exact nt _ _ E) e) (λ_ z=>z) λ_ _ z=>z
 have I8:Za X pins M h {J with heap:=f}:=I2.call' (s':={J with heap:=f}) c.os un hok c.bare λb i=>let ⟨_,k1,_,k3,k4,k5⟩:=f2 b i;⟨k3,k1,k4,k5⟩;have I9:Za X pins M (upd h D (.lst h0)) {J with heap:=f}:=I8.trackS O Q R hz (λp hp=>Sf (pl p hp)) ⟨o0,T,U,va,Q⟩;exact⟨.ref D,_,I9,R,qn D O⟩
def Uh{a:Addr}{xs:List V}{g:TG}{L:TT}{M:TE}{J:St}{Q:VK}(n:Nat->List V->St->Hp->Prop)(O:n 0 [] J H)(hz:xs.length<=sizeLine)(T:∀i c j H,i<=xs.length->n i c j H->Zd K H a xs)
  (P:∀i x c j H,c.length<=i->xs[i]? = some x->n i c j H->g x j H λh E=>L h E λb B=>if b=true then M h B λy D=>(c++[y]).length<=i+1/\n (i+1) (c++[y]) h D else c.length<=i+1/\n (i+1) c h B)
  (hd:∀c j H,c.length<=xs.length->n xs.length c j H->WX Q c H) :
  ∃W:Nat->Nat->List V->St->Hp->Prop,(∃m,W 0 m [] J H)/\∀i m c u H,W i m c u H ->
   ((Wz K a).stop i H/\WX Q c H) \/
   ((Wz K a).go i H/\c.length<sizeLine/\∃N:List V->St->Hp->Prop,(∀v C f,N v C f->∃I,I<m/\W (i+1) I v C f)/\∀x f,(Wz K a).yld i H x f->g x u f λh E=>L h E λb B=>if b=true then M h B λy D=>N (c++[y]) h D else N c h B):=by
 erw[⟨λi m c j H=>m=xs.length - i/\i<=xs.length/\c.length<=i/\n i c j H,⟨xs.length,by simp,Sk _,Sk _,O⟩,?_⟩];rintro i m c u H ⟨rfl,S,ha,p⟩;have q:=T i c u H S p;by_cases G:i<xs.length;erw[.inr ⟨⟨xs,xs[i],q,by simp[G]⟩,(),λv C f=>v.length<=i+1/\n (i+1) v C f,λv C f z=>⟨xs.length - (i+1),(),R,G,z.1,z.2⟩,λx f y=>?_⟩];ext⟨e,y⟩ y;subst e;exact P i x c u _ ha (y xs q) p;have e:i=xs.length:=by lia
 subst e;exact .inl ⟨⟨xs,q,Sg _⟩,hd c u H ha p⟩
def Zjz{a:Addr}{xs:List V}{g:TG}{L:TT}{M:TE}{J:St}{Q:VK}(n:Nat->List V->St->Hp->Prop)(O:n 0 [] J H)(hz:xs.length<=sizeLine)(T:∀i c j H,i<=xs.length->n i c j H->Zp K H a xs)
  (P:∀i x c j H,c.length<=i->xs[i]? = some x->n i c j H->g x j H λh E=>L h E λb B=>if b=true then M h B λy D=>(c++[y]).length<=i+1/\n (i+1) (c++[y]) h D else c.length<=i+1/\n (i+1) c h B)
  (hd:∀c j H,c.length<=xs.length->n xs.length c j H->WX Q c H) :
  ∃W:Nat->Nat->List V->St->Hp->Prop,(∃m,W 0 m [] J H)/\∀i m c u H,W i m c u H ->
   ((LR K a).stop i H/\WX Q c H) \/
   ((LR K a).go i H/\c.length<sizeLine/\∃N:List V->St->Hp->Prop,(∀v C f,N v C f->∃I,I<m/\W (i+1) I v C f)/\∀x f,(LR K a).yld i H x f->g x u f λh E=>L h E λb B=>if b=true then M h B λy D=>N (c++[y]) h D else N c h B):=by
 erw[⟨λi m c j H=>m=xs.length - i/\i<=xs.length/\c.length<=i/\n i c j H,⟨xs.length,by simp,Sk _,Sk _,O⟩,?_⟩];rintro i m c u H ⟨rfl,S,ha,p⟩;have q:=T i c u H S p;by_cases G:i<xs.length;erw[.inr ⟨⟨xs,xs[i],q,by simp[G]⟩,(),λv C f=>v.length<=i+1/\n (i+1) v C f,λv C f z=>⟨xs.length - (i+1),(),R,G,z.1,z.2⟩,λx f y=>?_⟩];ext⟨e,y⟩ y;subst e;exact P i x c u _ ha (y xs q) p;have e:i=xs.length:=by lia
 subst e;exact .inl ⟨⟨xs,q,Sg _⟩,hd c u H ha p⟩
def N2{lo:Int}{n:Nat}{g:TG}{M:TT}{O:TE}{L:St}{Q:VK}(j:Nat->List V->St->Hp->Prop)(P:j 0 [] L H)(hz:n<=sizeLine)
  (S:∀i c u H,i<n->c.length<=i->j i c u H->g (.int (lo+i)) u H λh I=>M h I λb C=>if b=true then O h C λy G=>(c++[y]).length<=i+1/\j (i+1) (c++[y]) h G else c.length<=i+1/\j (i+1) c h C)
  (hd:∀c u H,c.length<=n->j n c u H->WX Q c H) :
  ∃W:Nat->Nat->List V->St->Hp->Prop,(∃m,W 0 m [] L H)/\∀i m c B H,W i m c B H ->
   ((UL lo n).stop i H/\WX Q c H) \/
   ((UL lo n).go i H/\c.length<sizeLine/\∃N:List V->St->Hp->Prop,(∀v D f,N v D f->∃J,J<m/\W (i+1) J v D f)/\∀x f,(UL lo n).yld i H x f->g x B f λh I=>M h I λb C=>if b=true then O h C λy G=>N (c++[y]) h G else N c h C):=by
 erw[⟨λi m c u H=>m=n - i/\i<=n/\c.length<=i/\j i c u H,⟨n,by simp,Sk _,Sk _,P⟩,?_⟩];rintro i m c B H ⟨rfl,T,ha,p⟩;by_cases E:i<n;erw[.inr ⟨E,(),λv D f=>v.length<=i+1/\j (i+1) v D f,λv D f z=>⟨n - (i+1),(),R,E,z.1,z.2⟩,λx f y=>?_⟩];ext⟨e,y⟩ y;subst e y;exact S i c B _ E ha p;have e:i=n:=by lia
 subst e;exact .inl ⟨Sg _,hd c B H ha p⟩
mutual
inductive DV(K:Ox)(H:Hp):V->PyData->Prop
 |non:DV K H .non .none
 |bl (b:Bool):DV K H (.bl b) (.bool b)
 |int (i:Int):DV K H (.int i) (.int i)
 |str (x:Str) (h:(PyData.str x).canLay0=true):DV K H (.str x) (.str x)
 |lst {a:Addr} {xs:List V} {ds:List PyData} (h:Zd K H a xs) (r:YG K H xs ds):DV K H (.ref a) (.list ds)
 |tup {a:Addr} {xs:List V} {ds:List PyData} (h:Zp K H a xs) (r:YG K H xs ds):DV K H (.ref a) (.tuple ds)
inductive YG(K:Ox)(H:Hp):List V->List PyData->Prop
 |nil:YG K H [] []
 |cons {x:V} {xs:List V} {d:PyData} {ds:List PyData} (h:DV K H x d) (r:YG K H xs ds):YG K H (x::xs) (d::ds)
end
mutual
theorem DV.can:∀{x:V} {d:PyData},DV K H x d->d.canLay0=true
 |_,_,.non=>by simp only[PyData.canLay0]
 |_,_,.bl _=>by simp only[PyData.canLay0]
 |_,_,.int _=>by simp only[PyData.canLay0]
 |_,_,.str _ h=>h
 |_,_,.lst _ r=>by simp only[PyData.canLay0];exact YG.can r
 |_,_,.tup _ r=>by simp only[PyData.canLay0];exact YG.can r
theorem YG.can:∀{xs:List V} {ds:List PyData},YG K H xs ds->PyData.canLayAll0 ds=true
 |_,_,.nil=>by simp only[PyData.canLayAll0]
 |_,_,.cons h r=>by simp only[PyData.canLayAll0,Bool.and_eq_true];exact⟨DV.can h,YG.can r⟩
end
def Zp.sameT{c:Hp}{a:Addr}{xs:List V}(e:Zf H c)(h:Zp K H a xs):Zp K c a xs:=by
 rcases h with(h|⟨o,h⟩)|h;exact .inl (.inl (e _ _ h));exact .inl (.inr ⟨o,e _ _ h⟩);exact .inr h
mutual
theorem DV.same{c:Hp}(s:Zf H c):∀{x:V} {d:PyData},DV K H x d->DV K c x d
 |_,_,.non=>.non
 |_,_,.bl b=>.bl b
 |_,_,.int i=>.int i
 |_,_,.str x h=>.str x h
 |_,_,.lst h r=>.lst (s.seq h) (YG.same s r)
 |_,_,.tup h r=>.tup (Zp.sameT s h) (YG.same s r)
theorem YG.same{c:Hp}(s:Zf H c):∀{xs:List V} {ds:List PyData},YG K H xs ds->YG K c xs ds
 |_,_,.nil=>.nil
 |_,_,.cons h r=>.cons (DV.same s h) (YG.same s r)
end
section
variable{σ:St}
mutual
theorem DV.reads(I:Za X pins σ H s):∀{x:V} {d:PyData} {u:Value},DV X.K H x d->ZQ x u->∃j,Reads s.heap u d j
 |_,_,_,.non,r=>by cases r;exact⟨_,.none⟩
 |_,_,_,.bl b,r=>by cases r;exact⟨_,.bool b⟩
 |_,_,_,.int i,r=>by ext⟨t,rfl⟩ r;exact⟨_,.int i t⟩
 |_,_,_,.str x _,r=>by ext⟨t,rfl⟩ r;exact⟨_,.str x t⟩
 |_,_,_,.lst h y,r=>by
  cases r;obtain⟨B,v,g,_⟩:=I.list h;ext⟨o,n,f,c,_,hd⟩ g;obtain⟨j,q⟩:=YG.reads I y v;exact⟨_,.list f c hd (by simpa using q)⟩
 |_,_,_,.tup h y,r=>by
  cases r;obtain⟨B,v,g,_⟩:=I.tuple h;ext⟨o,f,c,n,hd⟩ g;obtain⟨j,q⟩:=YG.reads I y v;exact⟨_,.tuple f c hd (by simpa using q)⟩
theorem YG.reads(I:Za X pins σ H s):∀{xs:List V} {ds:List PyData} {us:OB},YG X.K H xs ds->ZC xs us->∃c,ReadsAll s.heap us ds c
 |_,_,_,.nil,.nil=>⟨_,.nil⟩
 |_,_,_,.cons h r,.cons v vs=>by
  obtain⟨c,g⟩:=DV.reads I h v;obtain⟨bs,f⟩:=YG.reads I r vs;exact⟨_,.cons g f⟩
end
end
inductive ZbB(K:Ox)(neg:Bool)(x:V)(y:V)(H:Hp)(Q:VK):Prop|mk dx dy (_:DV K H x dx) (_:DV K H y dy) (_:dx.depth<=60) (_:Q (.bl (if neg then !PyData.eqv dx dy else PyData.eqv dx dy)) H)
def ZbC(n:X.A.units+64<cLine):YH X (compareOp .Eq) (ZbB X.K false):=by
 intro pins s B H x y v u Q I i g h;ext⟨C,D,c,f,hd,q⟩ h;obtain⟨E,r1⟩:=c.reads I i;obtain⟨bs,j⟩:=f.reads I g;exact SeqAt.compareEq_reads r1 j c.can f.can () ⟨.bl _,H,I,R,q⟩
def ZbD(n:X.A.units+64<cLine):YH X (compareOp .NotEq) (ZbB X.K true):=by
 intro pins s B H x y v u Q I i g h;ext⟨C,D,c,f,hd,q⟩ h;obtain⟨E,r1⟩:=c.reads I i;obtain⟨bs,j⟩:=f.reads I g;exact SeqAt.compareNe_reads r1 j c.can f.can () ⟨.bl _,H,I,R,q⟩
def spl(c:Nat):List Nat->List (List Nat)
 |[]=>[[]]
 |x::r=>if x=c then []::spl c r else match spl c r with
  |[]=>[[x]]
  |w::ws=>(x::w)::ws
def XC(c:Nat):List (List Nat)->List Nat
 |[]=>[]
 |[p]=>p
 |p::q::r=>p++c::XC c (q::r)
theorem TD(c:Nat):∀l:List Nat,spl c l≠[]
 |[]=>by simp[spl]
 |x::r=>by
  unfold spl;by_cases h:x=c;rw[SV h];simp;rw[SU h];cases q:spl c r<;>simp
theorem ZbE(c:Nat):∀p:List Nat,c∉p->spl c p=[p]
 |[],_=>rfl
 |x::r,h=>by
  have h1:x≠c:=λz=>h (by rw[z];exact SD);have f:c∉r:=λz=>h (SB _ z);unfold spl;rw[SU h1,ZbE c r f]
theorem TF(c:Nat)(rest:OG):∀p:List Nat,c∉p->spl c (p++c::rest)=p::spl c rest
 |[],_=>by
  show spl c (c::rest)=_;rw[spl,SV R]
 |x::r,h=>by
  have h1:x≠c:=λz=>h (by rw[z];exact SD);have f:c∉r:=λz=>h (SB _ z);show spl c (x::(r++c::rest))=_;rw[spl,SU h1,TF c rest r f]
theorem Mh(c:Nat):∀f:List (List Nat),f≠[]->(∀p∈f,c∉p)->spl c (XC c f)=f
 |[],h,_=>Os R h
 |[p],_,h=>ZbE c p (h p SD)
 |p::q::r,_,h=>by
  show spl c (p++c::XC c (q::r))=_;rw[TF c _ p (h p SD),Mh c (q::r) (by simp) λz hz=>h z (SB _ hz)]
theorem A2(c:Nat):∀f:List Str,(Str.join ⟨#[c]⟩ f).cps.toList=XC c (f.map λp=>p.cps.toList)
 |[]=>rfl
 |[p]=>rfl
 |p::q::r=>by
  show(p++⟨#[c]⟩++Str.join ⟨#[c]⟩ (q::r)).cps.toList=p.cps.toList++c::XC c ((q::r).map λp=>p.cps.toList);rw[<-A2 c (q::r),Str.cps_append,Str.cps_append];simp
def ZjA(x:Str)(c:Nat):(Txt.split x ⟨#[c]⟩).map (λp=>p.cps.toList)=spl c x.cps.toList:=by
 have g:=StrLaws.join_split x ⟨#[c]⟩;have j:=StrLaws.split_free x c;have i:Txt.split x ⟨#[c]⟩≠[]:=λz=>by
  have:=split_pos x ⟨#[c]⟩;rw[z]at this;exact Os this ()
 have h:XC c ((Txt.split x ⟨#[c]⟩).map λp=>p.cps.toList)=x.cps.toList:=by rw[<-A2,g]
 rw[<-h,Mh];intro z;exact i (List.map_eq_nil_iff.mp z);intro p n;obtain⟨q,f,rfl⟩:=SJ.mp n;exact j q f
def TH(x:Str)(c:Nat):Txt.split x ⟨#[c]⟩=(spl c x.cps.toList).map λl=>⟨l.toArray⟩:=by
 rw[<-ZjA,Oe];have e:((λl:List Nat=>(⟨l.toArray⟩:Str)) ∘ λp:Str=>p.cps.toList)=_root_.id:=by
  funext p;cases p;simp
 rw[e,List.map_id]
theorem N3(c:Nat):∀l:List Nat,(spl c l).length<=l.length+1
 |[]=>Sg _
 |x::r=>by
  have:=N3 c r;unfold spl;by_cases h:x=c;rw[SV h,Sy,Sy];lia;rw[SU h];cases q:spl c r with
  |nil=>simp
  |cons w ws=>rw[q]at this;simp only[Sy]at this ⊢;lia
theorem ZbF:∀(ts:OC) (k:Nat),ZC (ts.map V.str) (strsFrom k ts)
 |[],_=>.nil
 |x::r,k=>.cons ⟨k,R⟩ (ZbF r (k+1))
inductive ZjB(x:V)(xs:List V)(H:Hp)(Q:VK):Prop|mk z c (_:x=.str z) (_:xs=[.str ⟨#[c]⟩]) (_:z.length+2<=sizeLine) (_:∀p,H p=none->Q (.ref p) (upd H p (.lst ((spl c z.cps.toList).map λl=>V.str ⟨l.toArray⟩))))
def N4:Q9 X "str.split" ZjB:=by
 intro pins s j H x D v J Q I B r h;ext⟨z,c,rfl,rfl,G,q⟩ h;ext⟨t,rfl⟩ B;obtain⟨u,rfl,t',rfl⟩:=Y4 r;have L:=N3 c z.cps.toList;have E:z.cps.toList.length=z.length:=by simp[Str.length]
 have C:(spl c z.cps.toList).map (λl=>V.str ⟨l.toArray⟩)=(Txt.split z ⟨#[c]⟩).map V.str:=by rw[TH,Oe];rfl
 have fin:∀(i:OB) (tk:Nat),ZC ((Txt.split z ⟨#[c]⟩).map V.str) i->EP X pins j Q (.ref s.heap.objs.size) {s with heap:=s.heap.push {cls:=.type "list",data:=.seq i.toArray},toks:=tk}:=λi tk n=>by
  rw[C]at q;erw[⟨.ref _,_,I.lnew (t':=tk) n ?_,R,q _ I.fresh⟩];rw[Sv,TH,Sv];lia
 cases f:(decide (z.length<(⟨#[c]⟩:Str).length) || decide (Builtin.Str.strKind z<Builtin.Str.strKind ⟨#[c]⟩))with
 |true =>
  have e:Txt.split z ⟨#[c]⟩=[z]:=by unfold Txt.split;rw[SV f]
  rw[e]at fin;exact call_meets F.slot_str_split (typeIs_str _ _ _) F.entry_str_split (F.args_str_split_2 _ _) (meets_str_split_cannot_occur z ⟨#[c]⟩ t t' f) (fin [.str z t] s.toks (.cons ⟨t,R⟩ .nil))
 |false =>
  cases g:(Builtin.Str.occurrences z ⟨#[c]⟩ 0 z.length (z.length+1)).isEmpty with
  |true =>
   have e:Txt.split z ⟨#[c]⟩=[z]:=by unfold Txt.split;rw[SU (by rw[f];lia),SV g]
   rw[e]at fin;exact call_meets F.slot_str_split (typeIs_str _ _ _) F.entry_str_split (F.args_str_split_2 _ _) (meets_str_split_not_found z ⟨#[c]⟩ t t' f R g) (fin [.str z t] s.toks (.cons ⟨t,R⟩ .nil))
  |false =>
   have e:Txt.split z ⟨#[c]⟩=Builtin.Str.partsBetween z (Builtin.Str.occurrences z ⟨#[c]⟩ 0 z.length (z.length+1)) (⟨#[c]⟩:Str).length:=by unfold Txt.split;rw[SU (by rw[f];lia),SU (by rw[g];lia)]
   have y:(Builtin.Str.partsBetween z (Builtin.Str.occurrences z ⟨#[c]⟩ 0 z.length (z.length+1)) (⟨#[c]⟩:Str).length).length<=sizeLine:=by
    rw[<-e,TH,Sv];lia
   erw[call_meets F.slot_str_split (typeIs_str _ _ _) F.entry_str_split (F.args_str_split_2 _ _) (meets_str_split_sep z ⟨#[c]⟩ t t' f R g () y) ?_];rw[e]at fin;exact fin _ _ (ZbF _ s.toks)
def ZjC(x:Str)(c i:Nat):StrLaws.At x ⟨#[c]⟩ x.length i↔x.cps.toList[i]? = some c:=StrLaws.subAt_one x c i
section
variable{x:Str}
def YA(c:Gl X x)(hm:∃t,X.mg x=some (.int k t))(hd:(x==("__debug__" : Str))=false:=by lia):PE X (.Name x pos) (tC (.int k)):=by
 ext⟨t,hm⟩ hm;exact ZaH c hm ⟨t,R⟩ hd
def ZjD:TE:=λ_ H Q=>∀p,H p=none->Q (.ref p) (upd H p (.dK []))
def QD:PE X (.Dict [] [] pos) ZjD:=by
 intro pins s c H Q I h;have lt:sysModules<s.heap.objs.size:=Nat.lt_trans (show sysModules<mainGlobals by lia) (I.mod.glob.keeps I.bk).lt;have new:Yo X.prog X.w (upd H s.heap.objs.size (.dK [])) (s.heap.push {cls:=.type "dict",data:=.dict #[]}) s.heap.objs.size (.dK []) :=
  ⟨Sk _,beq_eq_false_iff_ne.mpr (Ne.symm (Sf lt)),[],.nil,Heap.DictOf.new s.heap⟩
 exact wpAny_Dict_empty ⟨.ref s.heap.objs.size,_,I.laid (t':=s.toks) (λ_ _ q=>Sc _ q) (Sg _) new,R,h _ (I.hok.fresh (Sg _))⟩
def Mi(x:Str):[x].Nodup:=by simp
def Xm:Expr->Bool
 |.Starred _ _=>false
 |_=>true
def TJ(h:Xm e=true):starEach (e::c) env=(false,eval e env)::starEach c env:=by
 cases e<;>first|rfl|cases h
def Yk(ha:PE X e f)(g:PA X c t)(h:Xm e=true:=by rfl):PA X (e::c) (Yt f t):=Za2 ha g (TJ h)
end
end L2
namespace K1
open PySem L2
def UT:Str:=⟨#[48,49,50,51,52,53,54,55,56,57]⟩
def ZjE:OK "0123456789"=UT:=by lia
def ZjF:∀c:Nat,Builtin.Str.occurrences UT ⟨#[c]⟩ 0 10 1=if 48<=c/\c<=57 then [c - 48] else []:=by
 intro c;by_cases h:48<=c/\c<=57;rw[SV h];have:c=48\/c=49\/c=50\/c=51\/c=52\/c=53\/c=54\/c=55\/c=56\/c=57:=by lia
 rcases this with rfl|rfl|rfl|rfl|rfl|rfl|rfl|rfl|rfl|rfl<;>decide +kernel
 rw[SU h];have g:c≠48:=by lia
 have j:c≠49:=by lia
 have B:c≠50:=by lia
 have n:c≠51:=by lia
 have v:c≠52:=by lia
 have i:c≠53:=by lia
 have f:c≠54:=by lia
 have y:c≠55:=by lia
 have u:c≠56:=by lia
 have x:c≠57:=by lia
 unfold Builtin.Str.occurrences;simp[UT,Builtin.Str.subAt,g.symm,j.symm,B.symm,n.symm,v.symm,i.symm,f.symm,y.symm,u.symm,x.symm,Str.length];rw[show List.range' 0 11=[0,1,2,3,4,5,6,7,8,9,10] from R];simp[List.forIn_cons,g.symm,j.symm,B.symm,n.symm,v.symm,i.symm,f.symm,y.symm,u.symm,x.symm]
def Ui(n:Nat):Str:=⟨#[48+n/10,48+n%10]⟩
def ZjG:∀n:Nat,n<60->Txt.zfill (OK (toString (n:Int))) 2=Ui n:=by lia
def UR(a b c d e:Nat):Txt.slice ⟨#[a,b,c,d,e]⟩ none (some 2)=⟨#[a,b]⟩:=by rfl
def N5(a b c d e:Nat):Txt.slice ⟨#[a,b,c,d,e]⟩ (some 3) none=⟨#[d,e]⟩:=by
 unfold Txt.slice;rw[show Builtin.Str.strSliceIndices (some 3) none 1 (Str.length ⟨#[a,b,c,d,e]⟩)=[3,4] from(():Builtin.Str.strSliceIndices (some 3) none 1 5=[3,4])];rfl
def Xy:V->Int->Int->Bool
 |.int i,lo,hi=>decide (lo<=i/\i<=hi)
 |_,_,_=>false
inductive Kd(H:Hp):V->String->Prop where
 |non:Kd H .non "NoneType"
 |bl (b:Bool):Kd H (.bl b) "bool"
 |int (i:Int):Kd H (.int i) "int"
 |str (x:Str):Kd H (.str x) "str"
 |lst {a:Addr} {xs:List V} (e:H a=some (.lst xs)):Kd H (.ref a) "list"
 |tup {a:Addr} {xs:List V} (e:H a=some (.tup xs)):Kd H (.ref a) "tuple"
 |dK {a:Addr} {kvs:List (ZF×V)} (e:H a=some (.dK kvs)):Kd H (.ref a) "dict"
def Kd.ty(k:Kd H v T):Wb K H v (.type T):=by
 cases k with
 |non=>exact .non
 |bl b=>exact .bl b
 |int i=>exact .int i
 |str x=>exact .str x
 |lst e=>exact .lst e
 |tup e=>exact .tup e
 |dK e=>exact .dK e
def Kd.same(s:Zf H c)(k:Kd H v T):Kd c v T:=by
 cases k with
 |non=>exact .non
 |bl b=>exact .bl b
 |int i=>exact .int i
 |str x=>exact .str x
 |lst e=>exact .lst (s _ _ e)
 |tup e=>exact .tup (s _ _ e)
 |dK e=>exact .dK (s _ _ e)
def ZjH(k:Kd H v T):W.kitOne K (.type T) (.type "int")=some (decide (T="int" \/ T="bool")):=by
 cases k<;>rfl
def ZbG(k:Kd H v T):W.kitOne K (.type T) (.type "bool")=some (decide (T="bool")):=by
 cases k<;>rfl
def Mj(k:Kd H v T):W.kitOne K (.type T) (.type "str")=some (decide (T="str")):=by
 cases k<;>rfl
def ZB{c A B:Prop}[Decidable c](h:c)(a:A):if c then A else B:=by rwa[SV h]
def Zn{c A B:Prop}[Decidable c](h:¬ c)(b:B):if c then A else B:=by rwa[SU h]
def dg(c:Nat):Bool:=decide (48<=c/\c<=57)
def ZbH(c:Nat):X1 UT c=dg c:=by
 unfold X1 dg;rw[show UT.length=10 from R,ZjF c];by_cases h:48<=c/\c<=57;rw[SV h,SQ h];rfl;rw[SU h,SR h];rfl
def VP(z:Str):Bool:=!decide (V.str z=V.str (OK "")) && (z.cps.toList.map λc=>X1 UT c).all id
def Zx(h:H p=none)(o:HO):Zf H (upd H p o):=λb u q=>by rwa[Zj (ZR q h)]
def ZbI{f:Type}(g:f->Bool)(l:List f):(l.map λc=>V.bl (g c))=(l.map g).map V.bl:=by rw[Oe];rfl
def ZjI:∀n:Nat,n<60->n.log2<1920:=by lia
def wr(m:Nat):Str:=Ui (m/60)++OK ":" ++ Ui (m%60)
def UU:List Nat->Bool
 |[a,b,c,d,e]=>decide (c=58) && (dg a && dg b && dg d && dg e)
 |_=>false
def F5:V->Bool
 |.str z=>UU z.cps.toList
 |_=>false
def ZbJ{z:Str}(h:z.length=5):∃a b c d e,z=⟨#[a,b,c,d,e]⟩:=by
 ext⟨⟨l⟩⟩ z;have f:l.length=5:=h
 match l,f with
 |[a,b,c,d,e],_=>exact⟨a,b,c,d,e,R⟩
def ZbK{z:Str}(h:z.length≠5):UU z.cps.toList=false:=by
 ext⟨⟨l⟩⟩ z;have c:l.length≠5:=h
 match l,c with
 |[],_=>rfl
 |[_],_=>rfl
 |[_,_],_=>rfl
 |[_,_,_],_=>rfl
 |[_,_,_,_],_=>rfl
 |[_,_,_,_,_],h=>exact Os R h
 |_::_::_::_::_::_::_,_=>rfl
def ZjJ(a b d e:Nat):VP ⟨#[a,b,d,e]⟩=(dg a && dg b && dg d && dg e):=by
 unfold VP;rw[SR (show ¬ (V.str ⟨#[a,b,d,e]⟩=V.str (OK ""))from λz=>by
  injection z with z1;have f:(#[a,b,d,e]:Array Nat)=(OK "").cps:=congrArg Str.cps z1;have c:=congrArg Array.size f;rw[show(OK "").cps.size=0 by lia]at c;exact Os (show(4:Nat)=0 from c) ())]
 simp only[SM,List.map_nil,ZbH,List.all_cons,List.all_nil,Bool.not_false,Ot,id,Bool.and_true,Bool.and_assoc]
def ZbL(c:Nat):decide (V.str ⟨#[c]⟩=V.str (OK ":"))=decide (c=58):=by
 erw[decide_eq_decide.mpr ⟨λz=>?_,λz=>by subst z;lia⟩];injection z with z1;have f:(#[c]:Array Nat)=(OK ":").cps:=congrArg Str.cps z1;rw[show(OK ":").cps=#[58] by lia]at f;simpa using f
def F6:List Nat->Option Nat
 |[a,b,c,d,e]=>if UU [a,b,c,d,e]=true/\10*(a - 48)+(b - 48)<=47/\10*(d - 48)+(e - 48)<=59 then some (60*(10*(a - 48)+(b - 48))+(10*(d - 48)+(e - 48)))else none
 |_=>none
def N6:V->Option Nat
 |.str z=>F6 z.cps.toList
 |_=>none
def ZjK(h:UU l=false):F6 l=none:=by
 match l,h with
 |[],_=>rfl
 |[_],_=>rfl
 |[_,_],_=>rfl
 |[_,_,_],_=>rfl
 |[_,_,_,_],_=>rfl
 |[a,b,c,d,e],h =>
  show(if UU [a,b,c,d,e]=true/\_ then _ else _)=none;rw[SU];rw[h];exact λz=>nomatch z.1
 |_::_::_::_::_::_::_,_=>rfl
def ZjL{z:Str}(h:UU z.cps.toList=true):∃a b c d e,z=⟨#[a,b,c,d,e]⟩:=ZbJ (by
 by_cases f:z.length=5;exact f;rw[ZbK f]at h;cases h)
def N7{c:Nat}(h:dg c=true):48<=c/\c<=57:=SS h
def ZjM(h:UU [a,b,c,d,e]=true):(48<=a/\a<=57)/\(48<=b/\b<=57)/\c=58/\(48<=d/\d<=57)/\(48<=e/\e<=57):=by
 have f:(decide (c=58) && (dg a && dg b && dg d && dg e))=true:=h;simp only[Bool.and_eq_true,decide_eq_true_eq]at f;exact⟨N7 f.2.1.1.1,N7 f.2.1.1.2,f.1,N7 f.2.1.2,N7 f.2.2⟩
def ZbM{a b:Nat}(ha:48<=a/\a<=57)(h:48<=b/\b<=57):PySem.intText? ⟨#[a,b]⟩=some ((10*(a - 48)+(b - 48):Nat):Int):=by
 rw[PySem.intText_digits (x:=⟨#[a,b]⟩) (λc g=>by
  have f:c∈[a,b]:=g;simp only[SF,List.not_mem_nil,or_false]at f;rcases f with rfl|rfl;exact ha;exact h) (by intro z;cases z) (by show 2<=4300;lia)]
 have e:PySem.NumText.digitsVal [a,b]=10*(a - 48)+(b - 48):=by
  show(0*10+(a - 48))*10+(b - 48)=_;lia
 exact congrArg (λn:Nat=>some (n:Int)) e
def ZjN:V->Bool
 |.int _=>true
 |_=>false
structure Zr6(tp:Addr)(k:Int)(H H':Hp):Prop where
 keep:∀b o,b≠tp->H b=some o->H' b=some o
 tape:H' tp=some (.lst [.int k])
def ZbN(c:0<=y)(h1:y<18446744073709551616):NN x y:=.inr ⟨(),()⟩
def ZbO(m:Nat):wr m=⟨#[48+m/60/10,48+m/60%10,58,48+m%60/10,48+m%60%10]⟩:=by
 unfold wr Ui;rw[show OK ":"=⟨#[58]⟩ by lia];rfl
def Ml:Option Nat->V
 |none=>.non
 |some m=>.int m
def ZbP{a b:Str}(ha:a.length<=n)(c:b.length<=m):(a++b).length<=n+m:=by rw[Str.length_append];lia
def ZbQ{m:Nat}(h:m<=2879):F6 (wr m).cps.toList=some m:=by
 rw[ZbO];show(if UU _=true/\10*(48+m/60/10 - 48)+(48+m/60%10 - 48)<=47/\10*(48+m%60/10 - 48)+(48+m%60%10 - 48)<=59 then some (60*(10*(48+m/60/10 - 48)+(48+m/60%10 - 48))+(10*(48+m%60/10 - 48)+(48+m%60%10 - 48)))else none)=some m;have e:∀x,x<10->dg (48+x)=true:=λx f=>SQ ⟨(),()⟩;have c:UU [48+m/60/10,48+m/60%10,58,48+m%60/10,48+m%60%10]=true:=by
  show(decide (58=58) && (dg (48+m/60/10) && dg (48+m/60%10) && dg (48+m%60/10) && dg (48+m%60%10)))=true;rw[e _ (),e _ (),e _ (),e _ ()];rfl
 exact(SV ⟨c,(),()⟩).trans (congrArg some ())
end K1
namespace K1
open PySem L2
abbrev UV(l:OG):Nat:=PySem.NumText.digitsVal l
def XD(l:OG):Option Nat:=if l.length<=5/\l≠[]/\l.all dg=true/\¬ (l.head? = some 48/\l≠[48])then some (UV l)else none
def Mm{z y:Str}:decide (V.str z=V.str y)=decide (z.cps.toList=y.cps.toList):=by
 erw[decide_eq_decide.mpr ⟨λh=>?_,λh=>?_⟩];injection h with h;rw[h];have:z.cps=y.cps:=by
  rcases z with⟨⟨a⟩⟩;rcases y with⟨⟨b⟩⟩;exact congrArg List.toArray h
 exact congrArg V.str (Str.ext' this)
def TK(z:Str):VP z=(decide (z.cps.toList≠[]) && z.cps.toList.all dg):=by
 unfold VP;rw[Mm,show(OK "").cps.toList=[] by lia];congr 1;by_cases h:z.cps.toList=[];rw[SQ h,SR (λq=>q h)];rfl;rw[SR h,SQ h];rfl;rw[List.all_map];congr 1;funext c;exact ZbH c
def ZjO{l:OG}(h:l.all dg=true):PySem.NumText.AllDigits l:=λc f=>SS (List.all_eq_true.mp h c f)
def ZbR{z:Str}(h:z.cps.toList.all dg=true)(h1:z.cps.toList≠[])(c:z.length<=640):PySem.intText? z=some ((UV z.cps.toList:Nat):Int):=PySem.intText_digits (ZjO h) h1 ()
def UW(z:Str):z.cps.toList.length=z.length:=by simp[Str.length]
def ZjP(z:Str)(j:Nat)(h:j<=z.length):Txt.slice z none (some (j:Int))=⟨(z.cps.toList.take j).toArray⟩:=by
 have e:=StrLaws.sliceText_to (x:=z) (j:=(j:Int)) ⟨(),by rw[UW];lia⟩;rw[List.drop_zero,show((j:Int) - 0).toNat=j by lia]at e;exact e
def ZjQ(z:Str)(j:Nat)(h:j<=z.length):Txt.slice z (some (j:Int)) none=⟨(z.cps.toList.drop j).toArray⟩:=by
 have e:=StrLaws.sliceText_from (x:=z) (i:=(j:Int)) ⟨(),by rw[UW];lia⟩;rw[show((j:Int)).toNat=j by lia,SY (by rw[SA];lia)]at e;exact e
def ZjR:∀{l:OG},l.all dg=true->UV l<10 ^ l.length:=λ{l} h=>by
 have i:∀(l:OG) (f n:Nat),f<10 ^ n->l.all dg=true->l.foldl (λf c=>f*10+(c - 48)) f<10 ^ (n+l.length):=by
  intro l;induction l with
  |nil=>intro f n h _;simpa using h
  |cons c r g =>
   intro f n h hd;rw[List.all_cons,Bool.and_eq_true]at hd;have j:48<=c/\c<=57:=SS hd.1;have:=g (f*10+(c - 48)) (n+1) (by rw[Nat.pow_succ];lia) hd.2;rw[List.foldl_cons,Sy];rw[show n+(r.length+1)=n+1+r.length by lia];exact this
 have:=i l 0 0 () h;rw[Nat.zero_add]at this;exact this
def ZjS:UV (48::r)=UV r:=rfl
def TM{d:Nat}(h:d<10000):∀l,l=(OK (toString (d:Int))).cps.toList->1<=l.length/\l.length<=4/\l.all dg=true/\¬ (l.head? = some 48/\l≠[48])/\UV l=d/\32∉l:=by
 intro l e;rw[W.KIN.signs_num]at e;have f:l.length=(Nat.toDigits 10 d).length:=by rw[e,Sv]
 have u:∀c∈l,48<=c/\c<=57:=λc j=>by
  rw[e]at j;obtain⟨ch,B,y⟩:=SJ.mp j;have r:=PyProof.Rows.digit_range (Nat.isDigit_of_mem_toDigits () () B);rwa[<-y]
 have g:l.all dg=true:=List.all_eq_true.mpr λc j=>SQ (u c j);have i:UV l=d:=by rw[e];exact W.KIN.val_back d
 erw[⟨by rw[f];exact PyProof.Rows.tDigits_len_ge 10 d,by rw[f];exact PyProof.Rows.digits10_le () (show d<10 ^ 4 from h),g,λ⟨z1,n⟩=>?_,i,λz=>?_⟩]
 match l,z1,n,f,i,g with
 |48::r,_,n,f,i,g =>
  have v:r≠[]:=λz=>n (by rw[z]);have x:1<=r.length:=by
   cases r with
   |nil=>exact Os R v
   |cons _ _=>simp
  rw[List.all_cons,Bool.and_eq_true]at g;have lt:=ZjR g.2;rw[ZjS]at i;rw[i]at lt;have C:=PyProof.Rows.digits10_le x lt;rw[<-f,Sy]at C;lia
 have:=u 32 z;lia
end K1
namespace L2
open PySem PySem.Spec PyProof.Rows
section
variable{m:Str}{o e:Expr}{es:OD}{ta:TE}{t:TA}{apos:Pos}
inductive ZjT(X:Cx)(m:Str)(t:TA)(σ:St)(Q:VK)(x:V)(H1:Hp):Prop|mk (a C dx:Addr) (fs:List (Str×V)) (f:Addr) (fd:OJ) (k:Nat) (ps:OC) (sp:Sp) (CX:Wd) (E:XK) (_:x=.ref a) (_:H1 a=some (.ins C dx fs)) (_:fs.lookup m=none) (_:YI X.K C) (_:Ys X.K C m f) (_:Zl X.prog X.w X.K X.mg X.base CX k f fd ps sp) (_:Yv k X.A) (_:XB X.K fd ps []) (_:WB CX X E) (_:t σ H1 λvs H2=>sp (.ref a::vs) H2 Q E)
def ZbS(X:Cx)(m:Str)(ta:TE)(t:TA):TE:=λc H Q=>ta c H λx f=>ZjT X m t c Q x f
def F7(C:PE X o ta)(ha:PA X (e::es) t)
  (M:starEach (e::es) X.env=(false,eval e X.env)::starEach es X.env:=by rfl) (J:(backTo pos (starEach es X.env)).any (·.1)=false:=by rfl)
  (y:eval (.Call (.Attribute o m apos) (e::es) [] pos) X.env=(do
   let j <-eval o X.env
   standAt apos.atName
   let (f,first) <-holding [j] (getMethod j m pl)
   callWith pos f first (backTo pos (starEach (e::es) X.env)) (backToKw pos (keywordEach [] X.env))):=by rfl) :
  PE X (.Call (.Attribute o m apos) (e::es) [] pos) (ZbS X m ta t):=by
 intro pins s g H a0 I h;erw[W.methodCall_KW (pl:=pl) (Zy (C pins s g H _ I h) λu P z=>?_) y];ext⟨x,L,n,G,a,b0,T,fs,f,U,k,S,sp,Y,E,ex,Q,l,c,hm,F,O,v,D,q⟩ z;subst ex;obtain rfl:u=Value.ref a:=G;erw[F0 n Q c hm l ?_];erw[W.callWith_K (first:=[.ref a]) (h₀:=X.base) I.ok.mod.kin hm.kp (Zy (ha pos pins P g L _ n q) λus s2 ⟨vs,Z,i,r,B⟩=>⟨i.kIn,?_⟩) M J];exact QB (us:=.ref a::us) (vs:=.ref a::vs) (dvs:=[]) F O v .nil D i (.cons R r) (by rwa[Oc])
def WY(y:PE X o ta)
  (v:eval (.Call (.Attribute o m apos) [] [] pos) X.env=(do
   let i <-eval o X.env
   standAt apos.atName
   let (f,first) <-holding [i] (getMethod i m pl)
   callWith pos f first (backTo pos (starEach [] X.env)) (backToKw pos (keywordEach [] X.env))):=by rfl) :
  PE X (.Call (.Attribute o m apos) [] [] pos) (ZbS X m ta Y5):=by
 intro pins s n H Q I h;erw[W.methodCall_KW (pl:=pl) (Zy (y pins s n H _ I h) λu T z=>?_) v];ext⟨x,S,g,D,a,C,M,fs,f,O,k,L,sp,P,E,ex,J,l,c,hm,F,G,j,B,q⟩ z;subst ex;obtain rfl:u=Value.ref a:=D;erw[F0 g J c hm l ?_];exact W.callWith_K0 (first:=[.ref a]) g.kIn hm.kp (QB (us:=[.ref a]) (vs:=[.ref a]) (dvs:=[]) F G j .nil B g (.cons R .nil) q)
structure TN(K:Ox)(C:Addr):Prop where
 makes:W.makesIn K C=true
 init:W.findIn K (.ref C) "__init__"=some (some (.builtin "object.__init__"))
 kp:W.keepIn K (.ref C)=true
def ZjU(C:Addr):TE:=λ_ H Q=>∀x c,H x=none->H c=none->c≠x->Q (.ref x) (upd (upd H c (.own x)) x (.ins C c []))
def N8(M:TN X.K C)(i:Gl X x)(hm:X.mg x=some (.ref C))(f:(x==("__debug__" : Str))=false:=by lia):PE X (.Call (.Name x p) [] [] pos) (ZjU C):=by
 intro pins s j H Q I h;erw[wpAny_Call_Name_kw (V7 I i hm ?_ f)];erw[W.callWith_K0 I.kIn M.kp ?_];have q:=h (s.heap.objs.size+1) s.heap.objs.size (I.hok.fresh (Nat.le_succ _)) (I.hok.fresh (Sg _)) (Sf (Sm _));have c:=Za.made (C:=C) I;have Y:=W.makes_of (M:=model X.prog X.w) I.kIn M.makes;erw[wpAny_call (ZiC (C:=C) I.kIn M.makes M.init (λself=>W.Looks.of_pure (W.oi_bind self)) ?_)];have g1:((s.heap.push W.emptyDict).push (W.instObj C s.heap.objs.size)).get? (s.heap.objs.size+1)=some (W.instObj C s.heap.objs.size):=by
  have:=Sd (s.heap.push W.emptyDict) (o:=W.instObj C s.heap.objs.size) R;rw[Heap.size_push]at this;exact this
 have g:W.Looks (model X.prog X.w) ((s.heap.push W.emptyDict).push (W.instObj C s.heap.objs.size)) (typeOf (.ref (s.heap.objs.size+1))) (.ref C):=(W.Looks.ld g1).andThen .now;have t2:W.Looks (model X.prog X.w) ((s.heap.push W.emptyDict).push (W.instObj C s.heap.objs.size)) (isInstance (.ref (s.heap.objs.size+1)) (.type "object")) true :=
  g.andThen (Y.top.keeps λb o e=>Sc _ (Sc _ e))
 erw[codeAny_call_builtin W.oi_plain W.entry_oi ?_];erw[@W.check_slot (model X.prog X.w) _ _ _ "object.__init__" "object" "__init__" (.ref (s.heap.objs.size+1)) [] [] _ W.oi_kind W.oi_split t2 (W.oi_args _) ?_];rw[W.oi_run];exact Sb (And.intro rfl ⟨.ref _,_,c,rfl,q⟩)
end
theorem TQ(ns:OE):∀k,k<=ns.length->preSum (λi=>ns.getD i 0) k=(ns.take k).sum
 |0,_=>by simp[preSum]
 |k+1,h=>by
  have c:=TQ ns k ();show preSum (λi=>ns.getD i 0) k+ns.getD k 0=_;rw[c,SZ,List.sum_append];have f:k<ns.length:=by lia
  rw[List.getD_eq_getElem?_getD,Ss f];simp
def ZjV(Y:X.calm=true):YN X (.builtin "sum") (λxs H Q=>∃(p:Addr) (ns:OE),xs=[.ref p]/\Zd X.K H p (ns.map V.int)/\(∀n∈ns,0<=n/\n<=1000000)/\ns.length<=1000/\Q (.int ns.sum) H):=by
 intro pins s σ H xs us Q I r h;ext⟨p,ns,rfl,T,y,hl,q⟩ h;obtain⟨b0,rfl,Z⟩:=Y4 r;cases Z;obtain⟨f,L,v,hz⟩:=I.list T;have hlen:=L.length;obtain⟨o,n,B,_⟩:=id v;have O:p≠s.heap.objs.size:=Sf (Se B);have bound:∀k,k<=ns.length->0<=(ns.take k).sum/\(ns.take k).sum<=1000000*k:=by
  intro k;induction k with
  |zero=>intro _;simp
  |succ k ih =>
   intro E;have M:k<ns.length:=by lia
   have:=ih ();have b:=y ns[k] (Oi M);rw[SZ,List.sum_append,Ss M];simp only[Option.toList_some,List.sum_cons,List.sum_nil];lia
 erw[call_sum_walk (wpAny_pyIter_list v.isList ?_)];erw[⟨s.heap.objs.size,[s.heap.objs.size,p],[s.heap.objs.size],f.toArray.size,_,_,λi=>ns.getD i 0,R,Walks.list (A:=X.A.in1) (I.ok.hd Y) _ _ O f.toArray,⟨⟨_,Sd _ R,R,R⟩,?_⟩,?_,?_,?_,λh' tk t' E=>?_⟩];ext⟨o2,g,S⟩ v.isList;exact⟨o2,Sc _ g,S⟩;intro b u;show b<(s.heap.push _).objs.size;rw[Heap.size_push];rcases SF.mp u with rfl|u;exact Sm _;rw[SE.mp u];exact Sn (Se B);intro i a0 U;have C:f[i]? = some a0:=by simpa using U
 have D:i<ns.length:=by
  have:=(Sr.mp C).1;rw[<-hlen,Sv]at this;exact this
 obtain⟨w,c,g⟩:=L.get (i:=i) (x:=.int ns[i]) (by rw[Oa,Ss D];rfl);rw[C]at c;cases c;ext⟨t,rfl⟩ g;exact⟨t,by dsimp only;rw[List.getD_eq_getElem?_getD,Ss D];rfl⟩;intro j G;have J:j<ns.length:=by
  rw[SN,<-hlen,Sv]at G;exact G
 have b1:=y ns[j] (Oi J);have b2:=bound (j+1) ();have c:ns.getD j 0=ns[j]:=by rw[List.getD_eq_getElem?_getD,Ss J];rfl
 rw[TQ ns (j+1) ()];dsimp only;rw[c];have b3:(1000000:Int)*((j+1:Nat):Int)<=1000000000:=by lia
 unfold InLong
 first|omega
 have P:∀b o,s.heap.get? b=some o->h'.get? b=some o:=λb o e=>E b o (λz=>by
  have c:=Se e;rw[SE.mp z]at c;exact Os c (Sl _)) (Sc _ e)
 have e:preSum (λi=>ns.getD i 0) f.toArray.size=ns.sum:=by
  rw[SN,<-hlen,Sv,TQ ns _ (Sg _),List.take_length]
 rw[e];exact⟨.int _,H,I.kept (t':=tk) P,⟨_,R⟩,q⟩
structure Zr7(K:Ox)(x qual:Str)(st:Stmt)(f:Addr)(fd:OJ)(D:Addr)(ds:OB):Prop where
 ex:∃(oc:Value) (od:OF) (kV doc pm:Value) (an:OF) (cdv ct:Value) (osl:Oz),
  fd=W.fnOf x qual (A1 st) (UQ st) (Zu st) (.ref D) kV doc pm an cdv ct/\K.lookup f=some ⟨oc,od,.func fd,osl⟩/\W.codeIn K cdv qual=true
 dt:∃(o:Obj) (n:Nat),K.lookup D=some o/\o.data=.seq ds.toArray n
 kp:W.keepIn K (.ref f)=true
end L2
namespace K1
open PySem L2
inductive RT where
 |always
 |week (b:Nat)
 |span (a b:Nat) (r:RT)
 |each (n:Nat) (ss:OG)
 |either (r s:RT)
 |both (r s:RT)
 |but (ds:OG) (r:RT)
def RT.weight:RT->Nat
 |.always|.week _|.each _ _=>1
 |.span _ _ r|.but _ r=>1+r.weight
 |.either r s|.both r s=>1+(r.weight+s.weight)
def RT.depth:RT->Nat
 |.always|.week _|.each _ _=>1
 |.span _ _ r|.but _ r=>1+r.depth
 |.either r s|.both r s=>1+max r.depth s.depth
def RT.runs:RT->Nat->Bool
 |.always,_=>true
 |.week b,d=>b/2 ^ (d%7)%2==1
 |.span a b r,d=>decide (a<=d) && decide (d<=b) && r.runs d
 |.each n c,d=>c.contains (d%n)
 |.either r s,d=>r.runs d || s.runs d
 |.both r s,d=>r.runs d && s.runs d
 |.but ds r,d=>r.runs d != ds.contains d
theorem RT.depth_pos:∀r:RT,1<=r.depth
 |.always|.week _|.each _ _=>Sg 1
 |.span _ _ r|.but _ r=>On 1 _
 |.either r s|.both r s=>On 1 _
structure RC where
 rule:Addr
 week:Addr
 span:Addr
 each:Addr
 either:Addr
 both:Addr
 but:Addr
abbrev ZN(l:OG):List V:=l.map λn=>V.int (n:Nat)
inductive ZP(c:RC)(K:Ox)(H:Hp):Addr->RT->Prop
 |always {a dx:Addr} (h:H a=some (.ins c.rule dx [])):ZP c K H a .always
 |week {a dx:Addr} {b:Nat} (h:H a=some (.ins c.week dx [("bits",.int b)])) (hb:b<=127):ZP c K H a (.week b)
 |span {a dx i:Addr} {x y:Nat} {r:RT} (h:H a=some (.ins c.span dx [("first",.int x),("last",.int y),("inner",.ref i)])) (hx:x<=y) (hy:y<=9999) (hi:ZP c K H i r):ZP c K H a (.span x y r)
 |each {a dx p:Addr} {n:Nat} {ss:OG} (h:H a=some (.ins c.each dx [("length",.int n),("starts",.ref p)])) (hn:1<=n) (hn2:n<=28) (hp:Zp K H p (ZN ss)):ZP c K H a (.each n ss)
 |either {a dx i j:Addr} {r s:RT} (h:H a=some (.ins c.either dx [("one",.ref i),("other",.ref j)])) (hi:ZP c K H i r) (hj:ZP c K H j s):ZP c K H a (.either r s)
 |both {a dx i j:Addr} {r s:RT} (h:H a=some (.ins c.both dx [("one",.ref i),("other",.ref j)])) (hi:ZP c K H i r) (hj:ZP c K H j s):ZP c K H a (.both r s)
 |but {a dx p i:Addr} {ds:OG} {r:RT} (h:H a=some (.ins c.but dx [("days",.ref p),("inner",.ref i)])) (hp:Zp K H p (ZN ds)) (hi:ZP c K H i r):ZP c K H a (.but ds r)
def ZP.same(s:Zf H n)(h:ZP c K H a r):ZP c K n a r:=by
 induction h with
 |always h=>exact .always (s _ _ h)
 |week h u=>exact .week (s _ _ h) u
 |span h v y _ i=>exact .span (s _ _ h) v y i
 |each h hn x j=>exact .each (s _ _ h) hn x (Zp.sameT s j)
 |either h _ _ f g=>exact .either (s _ _ h) f g
 |both h _ _ f g=>exact .both (s _ _ h) f g
 |but h j _ i=>exact .but (s _ _ h) (Zp.sameT s j) i
theorem TR(d:Nat):∀l:List Nat,UO (.int d) (ZN l)=l.contains d
 |[]=>rfl
 |x::r=>by
  have c:=TR d r;show(Vj (.int (x:Int)) (.int (d:Int)) || UO (.int (d:Int)) (ZN r))=_;rw[c,List.contains_cons];congr 1;show((x:Int)==(d:Int))=(d==x);rw[Bool.eq_iff_iff,beq_iff_eq,beq_iff_eq];lia
def ZbT(l:OG):(ZN l).all UN=true:=by
 rw[List.all_map];exact List.all_eq_true.mpr λ_ _=>R
def ZjW(b k:Nat):(Builtin.bitAnd ((b:Int)/2 ^ k) 1==1)=(b/2 ^ k%2==1):=by
 have e:(b:Int)/2 ^ k=((b/2 ^ k:Nat):Int):=by
  rw[SX,Int.natCast_pow];rfl
 rw[e,PyProof.Rows.bitAnd_pp (Int.natCast_nonneg _) ()];have c:(((b/2 ^ k:Nat):Int).toNat &&& (1:Int).toNat:Nat)=b/2 ^ k%2:=by
  rw[Int.toNat_natCast];exact Nat.and_one_is_mod _
 rw[c,Bool.eq_iff_iff,beq_iff_eq,beq_iff_eq];lia
end K1
namespace L2
open PySem PySem.Spec PyProof.Rows
def F8:Option Int->Int->Int
 |none,y=>y
 |some x,y=>if y>x then y else x
def VQ:Option Int->List Int->Option Int
 |b,[]=>b
 |b,y::r=>VQ (some (F8 b y)) r
def ZbU(S:Addr)(h:Heap)(b:Option Int):Prop:=∃(f:Array Value) (c:Nat),h.get? S=some {cls:=.type "list",dict:=none,data:=.seq f c,slots:=#[]}/\match b with
 |none=>f=#[]
 |some x=>∃t,f=#[.int x t,.int x t]
def ZjX(d:Value)(b:Option Int)(v:Value):Prop:=match b with
 |none=>v=d
 |some x=>∃t,v=.int x t
def ZjY{R:Result->Shared->Prop}{I:Addr}{fp wr:OH}{n:Nat}{P:Nat->Value->Prop}{St:Nat->Heap->Prop}{nm:Str}{d:Value}{g:Nat->Int}
  (W:Walks prog w A.in1 I fp wr n P St) (hg:∀i v,P i v->∃t,v=.int (g i) t) {S:Addr} (out:S∉fp) :
  ∀(l:OE) (j:Nat) (s:Shared) (b:Option Int),j+l.length=n->(∀i y,l[i]? = some y->y=g (j+i))->St j s.heap->ZbU S s.heap b ->
  (∀v h' tk,ZjX d (VQ b l) v->(∀a o,a∉wr->a≠S->s.heap.get? a=some o->h'.get? a=some o)->R (.ok (.ret v)) {s with heap:=h',toks:=tk}) ->
  codeAny (model prog w) A (.builtin "max.loop" ⟨[.ref I,.none,.ref S],[(nm,d)]⟩) R s:=by
 have O:S∉wr:=λz=>out (W.sub _ z);have J:(toString "max" ++ toString ".loop" : String)="max.loop" := by lia
 intro l;induction l with
 |nil =>
  intro j s b E L st m q;obtain rfl:j=n:=E;obtain⟨X,c,e,z⟩:=id m;apply codeAny_builtin PySem.F.entry_max_loop;rw[Around.under_plainId PySem.F.plain_max_loop];apply Sa;apply wpAny_seqItems e rfl;apply Sa;apply wpAny_tryCatch;apply W.done s _ _ st;intro h' tk k;cases b with
  |none =>
   subst z;apply Sa;apply wpAny_rule;apply Sb;exact q d h' tk rfl λa o h _ C=>k a o h C
  |some x =>
   ext⟨t,rfl⟩ z;apply Sa;erw[wpAny_updateSeq (k S _ O e) rfl ?_];apply Sa;apply wpAny_letGo;apply Sb;exact q _ _ tk ⟨t,rfl⟩ λa o h f C=>(Heap.get?_update_other _ _ (Ne.symm f)).trans (k a o h C)
 |cons y l ih =>
  intro j s b E L st m q;obtain⟨X,c,e,z⟩:=id m;have b0:j<n:=by rw[<-E,Sy];lia
  have H:y=g j:=L 0 y rfl;apply codeAny_builtin PySem.F.entry_max_loop;rw[Around.under_plainId PySem.F.plain_max_loop];apply Sa;apply wpAny_seqItems e rfl;apply Sa;apply wpAny_tryCatch;apply W.item j s _ _ b0 st;intro v h' tk pv a0 k;obtain⟨u,rfl⟩:=hg j v pv;have B:=k S _ O e;have next:∀(f:Heap),ZbU S f (some (F8 b y))->(∀a o,a≠S->h'.get? a=some o->f.get? a=some o)->codeAny (model prog w) A (.builtin "max.loop" ⟨[.ref I,.none,.ref S],[(nm,d)]⟩) R {s with heap:=f,toks:=tk}:=λf T M =>
   ih (j+1) {s with heap:=f,toks:=tk} _ (by rw[<-E,Sy];lia) (λi y' U=>(L (i+1) y' U).trans (by congr 1;lia))
    (W.frame _ _ _ a0 λa ha o Y=>M a o (λz=>out (z ▸ ha)) Y) T λv2 C Z r k3=>q v2 C Z r λa o h Q c0=>k3 a o h Q (M a o Q (k a o h c0))
  cases b with
  |none =>
   subst z;show wpAny _ _ (updateSeq S (λ_=>#[.int (g j) u,.int (g j) u]) >>= _) _ _ _;apply Sa;erw[wpAny_updateSeq B rfl ?_];rw[J];apply Sb;erw[⟨plainId_quiet PySem.F.plain_max_loop _,next _ ⟨_,_,Heap.get?_update_self _ B rfl,u,?_⟩ λa o h f=>(Heap.get?_update_other _ _ (Ne.symm h)).trans f⟩];rw[H];rfl
  |some x =>
   ext⟨t,rfl⟩ z;show wpAny _ _ (tryCatch (holding [.int (g j) u,.int (g j) u] (richCompare .Gt (.int (g j) u) (.int x t) >>= _)) _ >>= _) _ _ _;apply Sa;apply wpAny_tryCatch;apply wpAny_holding;apply Sa;erw[CmpOf.ints_gt (P:=λi v=>∃t,v=.int (if i=0 then g j else x) t) (λi=>if i=0 then g j else x) (λ_ _ z=>z) 0 1 _ _ _ _ _ ⟨_,rfl⟩ ⟨_,rfl⟩ ?_];apply Sa;apply wpAny_holding;apply wpAny_truthy_bool;apply Sa;apply wpAny_letGo;apply Sb;by_cases D:g j>x;rw[SV (show(λi G:Nat=>decide ((if i=0 then g j else x)>if G=0 then g j else x)) 0 1=true from SQ D)];apply Sa;erw[wpAny_updateSeq B rfl ?_];apply Sa;apply wpAny_letGo;rw[J];apply Sb;erw[⟨plainId_quiet PySem.F.plain_max_loop _,next _ ⟨_,_,Heap.get?_update_self _ B rfl,u,?_⟩ λa o h f=>(Heap.get?_update_other _ _ (Ne.symm h)).trans f⟩];rw[show F8 (some x) y=g j by rw[H];exact SV D];rw[SU (show ¬(λi G:Nat=>decide ((if i=0 then g j else x)>if G=0 then g j else x)) 0 1=true from λz=>D (SS z))];apply Sa;apply wpAny_letGo;rw[J];apply Sb;erw[⟨plainId_quiet PySem.F.plain_max_loop _,next _ ⟨_,_,B,t,?_⟩ λa o _ f=>f⟩];rw[show F8 (some x) y=x by rw[H];exact SU D]
def ZjZ(a v:Value):argsOk "max" ⟨[a],[(OK "default",v)]⟩:=by unfold argsOk;kernel_rfl
def Zj0{B:St}{Q:VK}{p:Addr}{ns:OE}{d:Int}{f:Tok}(U:X.calm=true)(I:Za X pins B H s)(S:Zd X.K H p (ns.map V.int))(q:Q (.int ((VQ none ns).getD d)) H) :
  wpAny (model X.prog X.w) X.A (call (.builtin "max") [.ref p] [(OK "default",.int d f)]) (EP X pins B Q) X.xe s:=by
 obtain⟨J,L,j,hz⟩:=I.list S;have hlen:=L.length;obtain⟨o,n,C,_⟩:=id j;have M:p≠s.heap.objs.size:=Sf (Se C);have Y:(toString "max" ++ toString ".loop" : String)="max.loop" := by lia
 erw[kmb_tree PySem.F.kind_max PySem.F.plain_max PySem.F.entry_max (ZjZ _ _) ?_];show wpAny _ _ (Builtin.Builtins.bindParams "max" ["key","default"] 0 ⟨[],[(OK "default",.int d f)]⟩ >>= _) _ _ s;apply Sa;erw[wpAny_of_eq (show Builtin.Builtins.bindParams "max" ["key","default"] 0 ⟨[],[(OK "default",.int d f)]⟩=pure [none,some (.int d f)] from R) ?_];apply Sa;apply Sb;apply Sa;erw[wpAny_pyIter_list j.isList ?_];apply Sa;erw[wpAny_newObj_type ?_];rw[Y];erw[Sb ⟨plainId_quiet PySem.F.plain_max_loop _,?_⟩];erw[ZjY (fp:=[s.heap.objs.size,p]) (wr:=[s.heap.objs.size]) (g:=λi=>ns.getD i 0) (Walks.list (A:=X.A.in1) (I.ok.hd U) _ _ M J.toArray) ?_ ?_ ns 0 _ none ?_ ?_ ?_ ?_ ?_];intro i v u;have D:J[i]? = some v:=by simpa using u
 have E:i<ns.length:=by
  have:=(Sr.mp D).1;rw[<-hlen,Sv]at this;exact this
 obtain⟨w,c,h⟩:=L.get (i:=i) (x:=.int ns[i]) (by rw[Oa,Ss E];rfl);rw[D]at c;cases c;ext⟨t,rfl⟩ h;exact⟨t,by rw[List.getD_eq_getElem?_getD,Ss E];rfl⟩;intro hm;have c:(s.heap.push {cls:=.type "list_iterator",data:=.fields #[.ref p,.int 0 0]}).objs.size=s.heap.objs.size+1:=Heap.size_push ..;have lt:=Se C;rcases SF.mp hm with z|z;have:s.heap.objs.size+1=s.heap.objs.size:=c.symm.trans z;lia;have:s.heap.objs.size+1=p:=c.symm.trans (SE.mp z);rw[<-this]at lt;exact Os lt (Og.mpr (Nat.le_succ _));rw[SN,<-hlen,Sv,Nat.zero_add];intro i y P;rw[Nat.zero_add,List.getD_eq_getElem?_getD,P];rfl;erw[⟨⟨_,Sc _ (Sd _ R),R,R⟩,?_⟩];ext⟨o2,h,O⟩ j.isList;exact⟨o2,Sc _ (Sc _ h),O⟩;exact⟨_,_,Sd _ R,R⟩;intro v Z tk r k;have T:∀b o,s.heap.get? b=some o->Z.get? b=some o:=λb o e=>k b o (λz=>by
   have c:=Se e;rw[SE.mp z]at c;exact Os c (Sl _)) (λz=>by
   have c:=Se (Sc {cls:=.type "list_iterator",data:=.fields #[.ref p,.int 0 0]} e);rw[z]at c;exact Os c (Sl _)) (Sc _ (Sc _ e))
 have u:∃G,v=.int ((VQ none ns).getD d) G:=by
  cases e:VQ none ns with
  |none=>rw[e]at r;exact⟨f,r⟩
  |some x=>rw[e]at r;exact r
 ext⟨G,rfl⟩ u;exact⟨.int _,H,I.kept (t':=tk) T,⟨_,R⟩,q⟩
inductive Zj1(K:Ox)(Q:VK)(vs:List V)(zs:List V)(H2:Hp):Prop|mk (p:Addr) (ns:OE) (d:Int) (_:vs=[.ref p]) (_:zs=[.int d]) (_:Zd K H2 p (ns.map V.int)) (_:Q (.int ((VQ none ns).getD d)) H2)
def Zj2(K:Ox)(t tk:TA):TE:=λc H Q=>t c H λf h=>tk c h λzs g=>Zj1 K Q f zs g
def Zj3(D:X.calm=true)(y:Gl X "max") (hm:X.mg "max"=none) (x:bootBuiltins "max"=some (.builtin "max"))
  (ha:PA X (e::g) t) (T:PK X f tk) (M:(backToKw c (keywordEach f X.env)).all (·.1.isSome)=true:=by rfl) (j:(backToKw c (keywordEach f X.env)).filterMap (·.1)=[OK "default"]:=by rfl)
  (E:starEach (e::g) X.env=(false,eval e X.env)::starEach g X.env:=by rfl)
  (J:(backTo c (starEach (e::g) X.env)).any (·.1)=false:=by rfl) (S:(backToKw c (keywordEach f X.env)).any (·.1.isNone)=false:=by rfl) :
  PE X (.Call (.Name "max" p) (e::g) f c) (Zj2 X.K t tk):=by
 intro pins s i H a0 I h;erw[wpAny_Call_Name_kw (VH I y hm x ?_ () ())];erw[callWith_builtin_kwB J S (evalArgs_kw2 M (Zy (ha c pins s i H _ I h) λZ Q ⟨U,L,O,r,q⟩=>?_) E)];erw[Zy (T c pins Q i L _ O q) λws s2 ⟨zs,Y,C,v,B⟩=>?_];rw[j];ext⟨l,ns,d,rfl,rfl,n,P⟩ B;obtain⟨u,rfl,G⟩:=Y4 r;cases G;obtain⟨u,rfl,td,rfl⟩:=Y4 v;exact Zj0 D C n P
open PySem
abbrev Qk(xs:Array Nat):Prop:=xs.toList.Pairwise (· < ·)
def N9{xs:Array Nat}(h:Qk xs)(f:i<k)(c:k<xs.size):xs.getD i d<xs.getD k d:=by
 have q:=List.pairwise_iff_getElem.mp h i k (by simpa using Nat.lt_trans f c) (by simpa using c) f;simpa [Array.getD,Nat.lt_trans f c,c]using q
theorem TU{xs:Array Nat}(h:Qk xs):∀(n lo hi:Nat),hi - lo<=n->lo<=hi->hi<=xs.size->(∀i,i<lo->xs.getD i j<j)->(∀i,hi<=i->i<xs.size->j<=xs.getD i j) ->
  SetTable.below.go xs j n lo hi<=xs.size/\(∀i,i<SetTable.below.go xs j n lo hi->xs.getD i j<j)/\∀i,SetTable.below.go xs j n lo hi<=i->i<xs.size->j<=xs.getD i j
 |0,lo,hi,hn,x,f,h1,g=>by
  have e:lo=hi:=by lia
  subst e;exact⟨f,h1,g⟩
 |n+1,lo,hi,hn,x,f,h1,g=>by
  unfold SetTable.below.go;by_cases c:lo<hi;rw[SV c];dsimp only;by_cases d:xs.getD ((lo+hi)/2) j<j;rw[SV d];erw[TU h n _ hi () () f (λi v=>?_) g];by_cases e:i=(lo+hi)/2;rwa[e];exact Nat.lt_trans (N9 h (show i<(lo+hi)/2 by lia) ()) d;rw[SU d];erw[TU h n lo _ () () () h1 (λi v u=>?_)];by_cases e:i=(lo+hi)/2;rw[e];lia;have:=N9 (d:=j) h (show(lo+hi)/2<i by lia) u;lia;rw[SU c];have e:lo=hi:=by lia
  subst e;exact⟨f,h1,g⟩
def TV{xs:Array Nat}(h:Qk xs):SetTable.below xs j<=xs.size/\(∀i,i<SetTable.below xs j->xs.getD i j<j)/\∀i,SetTable.below xs j<=i->i<xs.size->j<=xs.getD i j :=
 TU h _ 0 _ () (Sk _) (Sg _) (λi z=>Os z (Nat.not_lt_zero _)) (λi a b=>by lia)
def Zj4(h:Qk xs)(hn:xs[SetTable.below xs j]?≠some j):Qk (SetTable.insertAt xs (SetTable.below xs j) j):=by
  obtain⟨B,x,u⟩:=TV (j:=j) h;show List.Pairwise _ _;rw[SetTable.toList_insertAt];have get:∀i (c:i<xs.size),xs.getD i j=xs.toList[i]'(by simpa using c):=λi c=>by simp[Array.getD,c]
  have v:∀b∈xs.toList.drop (SetTable.below xs j),j<b:=λb f=>by
    obtain⟨i,c,rfl⟩:=List.getElem_of_mem f;rw[SA]at c;have hz:SetTable.below xs j+i<xs.size:=by simpa using(show SetTable.below xs j+i<xs.toList.length by lia)
    rw[List.getElem_drop,<-get _ hz];have g:=u _ (On (SetTable.below xs j) i) hz;erw[Nat.lt_of_le_of_ne g λe=>?_];by_cases y:i=0
    · subst y
      erw[hn ?_];rw[Nat.add_zero]at e hz;rw[Array.getElem?_eq_getElem hz];have:=get _ hz;rw[<-e]at this;simpa using this.symm
    · have l:=N9 (d:=j) h (show SetTable.below xs j<SetTable.below xs j+i by lia) hz
      have C:=u _ (Sg _) (show SetTable.below xs j<xs.size by lia);lia
  erw[List.pairwise_append.mpr ⟨h.sublist (List.take_sublist _ _),List.pairwise_cons.mpr ⟨v,h.sublist (List.drop_sublist _ _)⟩,λa ha b f=>?_⟩];have n:a<j:=by
    obtain⟨i,c,rfl⟩:=List.getElem_of_mem ha;rw[Sx]at c
    have hz : i < xs.size := by have : xs.toList.length=xs.size := by simp
                                lia
    rw[List.getElem_take,<-get _ hz];exact x i ()
  rcases SF.mp f with rfl|f;exact n;exact Nat.lt_trans n (v b f)
structure QE(t:OI):Prop where
 du:t.dummies=#[]
 ri:t.plain=true->Qk t.place
def ZbV(j:Nat):SetTable.has #[] j=false:=rfl
def Zj5{t:OI}(h:t.slot j=.empty):t.place[SetTable.below t.place j]?≠some j:=by
 intro e;unfold SetTable.slot at h;dsimp only at h;rw[e]at h;simp at h
def Zj6{t:OI}(c:QE t):t.slot j≠.dummy:=by
 unfold SetTable.slot;rw[c.du];dsimp only;split;intro z;cases z;rw[ZbV];intro z;cases z
theorem ZbW{t:OI}(u:QE t):∀(n:Nat) (p:SetTable.Probe) (j:Nat) (d:Option Nat),p.dummy=none->SetTable.probe.go t g h n p=some (.empty j d)->t.slot j=.empty/\d=none
 |0,p,j,d,_,e=>by cases e
 |n+1,p,j,d,f,e=>by
  unfold SetTable.probe.go at e;cases c:t.slot p.j with
  |empty =>
   rw[c]at e;injection e with e;injection e with v x;subst v;exact⟨c,x.symm.trans f⟩
  |dummy=>exact Os c (Zj6 u)
  |live i =>
   rw[c]at e;dsimp only at e;split at e;injection e with e;cases e;erw[ZbW u n _ j d ?_ e];unfold SetTable.advance;split;exact f;exact f
def Zj7{t:OI}(f:QE t)(g:Array (Int×Value))(h:Int)(x:Value):QE (layNew t g h x).2.1/\(layNew t g h x).2.1.led=t.led:=by
 unfold layNew;cases c:t.freeSlot h with
 |none=>exact⟨⟨R,λz=>by cases z⟩,rfl⟩
 |some q =>
  ext⟨j,wd⟩ q;have n:t.slot j=.empty:=by
   unfold SetTable.freeSlot at c;split at c;rename_i B C i;obtain⟨u,rfl⟩:=ZbW f _ _ _ _ R i;injection c with c;injection c with v y;rwa[<-v];cases c
  dsimp only;unfold SetTable.orStandIn;split;erw[⟨⟨?_,λz=>?_⟩,R⟩];show(if SetTable.has t.dummies j=true then _ else t.dummies)=#[];rw[f.du,ZbV];rfl;exact Zj4 (f.ri z) (Zj5 n);exact⟨⟨R,λz=>by cases z⟩,rfl⟩
def Zj8{t:OI}(B:QE t)(f:Array (Int×Value))(n:Nat):QE (relayAll t f n).2.1/\(relayAll t f n).2.1.led=t.led:=by
 unfold relayAll;cases c:t.relaid (f.map (·.1)) n with
 |none=>exact⟨⟨R,λz=>by cases z⟩,rfl⟩
 |some q =>
  ext⟨D,C⟩ q;dsimp only;split;unfold SetTable.relaid SetTable.laid at c;cases g:SetTable.layClean (SetTable.sizeAbove n - 1) (f.map (·.1))with
  |none=>rw[g]at c;cases c
  |some i =>
   rw[g]at c;injection c with c;injection c with v x;subst v;erw[⟨⟨R,λ_=>?_⟩,R⟩];show List.Pairwise _ _;rw[List.toList_toArray];rw[List.map_filterMap];erw[List.Pairwise.sublist (l₂:=List.range (SetTable.sizeAbove n - 1+1)) ?_ List.pairwise_lt_range];have u:∀l:List Nat,List.Sublist (l.filterMap λj=>Option.map (λp:Nat×Nat=>p.1) ((i.getD j none).map λy=>(j,y))) l:=by
    intro l;induction l with
    |nil=>exact .slnil
    |cons a r h =>
     rw[List.filterMap_cons];cases i.getD a none with
     |none=>exact h.cons _
     |some y=>exact h.cons_cons _
   exact u _
  exact⟨⟨R,λz=>by cases z⟩,rfl⟩
open PySem
def Xn(e:Int×Value):Int:=match e.2 with
 |.int k _=>k
 |_=>0
def ZbX(h:ElemsOf (intKind prog w) l){e:Int×Value}(f:e∈l):∃t,e.2=.int (Xn e) t:=by
 obtain⟨⟨k,c,_⟩,_⟩:=h e f;obtain⟨t,q⟩:=Value.isInt_shape (k:=k) (v:=e.2) c;erw[⟨t,?_⟩];unfold Xn;rw[q]
def Zj9(h:ElemsOf (intKind prog w) l){e:Int×Value}(c:e∈l)(q:(intKind prog w).is k e.2=true):Xn e=k:=by
 obtain⟨t,q⟩:=Value.isInt_shape (k:=k) (v:=e.2) q;unfold Xn;rw[q]
def Xo(prog:Program)(w:World)(h:Heap)(a:Addr)(ks:OE):Prop:=∃(o:Obj) (es:Array (Int×Value)) (ep:Nat) (t:OI),
 h.get? a=some o/\o.ExactSet/\o.data=.set es ep t/\ElemsOf (intKind prog w) es.toList/\t.fits es.size=true/\QE t/\(w.params.followText "set-order"=false->t.led=true) /\
 (es.toList.map Xn).Nodup/\(∀k,k∈es.toList.map Xn↔k∈ks)/\es.size<=ks.length
def Xo.keep{h h':Heap}(x:Xo prog w h a ks)(k:∀o,h.get? a=some o->h'.get? a=some o):Xo prog w h' a ks :=
 let ⟨o,es,ep,t,ho,r⟩:=x
 ⟨o,es,ep,t,k _ ho,r⟩
def ZbY{h:Heap}{o:Obj}{c : Array (Int×Value)}{t' : SetTable}{ks:OE}(n:h.get? a=some o)(j:o.ExactSet)(hd:o.data=.set y f t)
  (v:ElemsOf (intKind prog w) c.toList) (u:t'.fits c.size=true) (i:QE t') (x:w.params.followText "set-order"=false->t'.led=true) (nd:(c.toList.map Xn).Nodup)
  (mem:∀k,k∈c.toList.map Xn↔k∈ks) (sz:c.size<=ks.length) :
  (h.update a (Obj.putSet c t')).get? a=some {o with data:=.set c (f+1) t'}/\Xo prog w (h.update a (Obj.putSet c t')) a ks:=by
 have g:(h.update a (Obj.putSet c t')).get? a=some {o with data:=.set c (f+1) t'}:=by
  have q:=Heap.get?_update_self (Obj.putSet c t') n (by rw[putSet_of c t' hd];rfl);rw[putSet_of c t' hd]at q;exact q
 exact⟨g,_,c,f+1,t',g,j,R,v,u,i,x,nd,mem,sz⟩
def Zka{f c:Array (Int×Value)}(p:List.Perm c.toList f.toList):c.size=f.size:=by
 have:=p.length_eq;simpa using this
def Zkb{ks:OE}(hS:Xo prog w s.heap a ks)(hr:ks.length+1<scanBound)
  (h:∀b h',Heap.SameBut a s.heap h'->Xo prog w h' a (ks++[k])->Q b {s with heap:=h'}):wpAny (model prog w) A (setAddHashed a (.int k tk) ((intKind prog w).hash k)) Q E s:=by
 ext⟨o,f,ep,t,y,C,hd,n,H,X,hl,nd,mem,sz⟩ hS;have hz:f.size<scanBound:=by lia
 have Z:(intKind prog w).is k (.int k tk)=true:=intKind_is _ _ _ _;unfold setAddHashed setAddHashedIn;erw[wpAny_holding (Sa (wpAny_setState_of y hd H ?_))];dsimp only;rw[byScan_of (knd:=intKind prog w) (x:=.int k tk) R hz n];simp only[↓reduceIte];unfold setAddByScan;erw[Sa (Sa (wpAny_rule (Sa (wpAny_setScan_of Z y hd H n ?_))))];cases hc:List.findIdx? (λe=>(intKind prog w).is k e.2) f.toList with
 |some b0 =>
  dsimp only;obtain⟨hj,hp,_⟩:=List.findIdx?_eq_some_iff_getElem.mp hc;have P:k∈f.toList.map Xn:=SJ.mpr ⟨f.toList[b0],Oi hj,Zj9 n (Oi hj) hp⟩;have q:=h false s.heap (Heap.SameBut.refl a s.heap) ⟨o,f,ep,t,y,C,hd,n,H,X,hl,nd,λi=>by
   rw[SG,SE,mem i];exact⟨.inl,λz=>z.elim id λe=>by rw[e];exact(mem k).mp P⟩,by rw[Su];lia⟩
  exact Sb (Sb q)
 |none =>
  dsimp only;have P:k∉f.toList.map Xn:=λz=>by
   obtain⟨e,he,ek⟩:=SJ.mp z;have q:=List.findIdx?_eq_none_iff.mp hc e he;obtain⟨te,ee⟩:=ZbX n he;rw[ee,ek,intKind_is]at q;cases q
  have U:∀(b:Bool) {S:Shared} {I:OA},I Unit.unit S->wpAny (model prog w) A (match b with|true=>rule "set.scan.the-table-gave-way" | false=>pure Unit.unit) I E S :=
   λb S I q=>by
    cases b;exact Sb q;exact wpAny_rule q
  have u:=layNew_perm t f ((intKind prog w).hash k) (.int k tk);have O:=layNew_fits t f ((intKind prog w).hash k) (.int k tk);obtain⟨B,G⟩:=Zj7 X f ((intKind prog w).hash k) (.int k tk);generalize layNew t f ((intKind prog w).hash k) (.int k tk)=c0 at u O B G ⊢;ext⟨c,g,wd,gv⟩ c0;dsimp only at u O B G ⊢;rw[Array.toList_push]at u;have T:ElemsOf (intKind prog w) c.toList:=(n.push Z R).perm u;have km:List.Perm (c.toList.map Xn) (f.toList.map Xn++[k]):=by
   have:=u.map Xn;rw[SL]at this;exact this
  have Mi:(c.toList.map Xn).Nodup:=km.nodup_iff.mpr (List.nodup_append.mpr ⟨nd,by simp,λa ha b j=>by
   rw[SE]at j;subst j;intro e;subst e;exact P ha⟩)
  have a0:∀i,i∈c.toList.map Xn↔i∈ks++[k]:=λi=>by
   rw[km.mem_iff,SG,SG,mem i]
  have g0:c.size=f.size+1:=by
   have:=u.length_eq;simpa using this
  have z1:c.size<=(ks++[k]).length:=by rw[Su,Sw];lia
  have Y:w.params.followText "set-order"=false->g.led=true:=λz=>G.trans (hl z);erw[Sa (U _ ?_)];have tail:∀{J:Option Bool->Shared->Prop},(∀h',Heap.SameBut a s.heap h'->Xo prog w h' a (ks++[k])->J (some true) {s with heap:=h'}) ->
    wpAny (model prog w) A (do
     storeSet a c g
     if (!wd && g.tooFull)=true then do
      (match (relayAll g c (SetTable.grown c.size)).2.2 with|true=>rule "set.scan.the-table-gave-way" | false=>pure Unit.unit)
      storeSet a (relayAll g c (SetTable.grown c.size)).1 (relayAll g c (SetTable.grown c.size)).2.1
      pure (some true)
     else pure (some true)) J E s:=by
   intro J hR;erw[Sa (wpAny_storeSet_of y hd ?_ (fits_of_scanBound ()))];obtain⟨g1,i1⟩:=ZbY (prog:=prog) (w:=w) y C hd T O B Y Mi a0 z1;have b1:=Heap.SameBut.update s.heap a (Obj.putSet c g);split;have v:=relayAll_perm g c (SetTable.grown c.size);have D:=relayAll_fits g c (SetTable.grown c.size);obtain⟨t2,L⟩:=Zj8 B c (SetTable.grown c.size);generalize relayAll g c (SetTable.grown c.size)=d0 at v D t2 L ⊢;ext⟨e0,t3,f0⟩ d0;dsimp only at v D t2 L ⊢;have s2:=Zka v;erw[Sa (U _ (Sa (wpAny_storeSet_of g1 R ?_ (fits_of_scanBound ()))))];obtain⟨_,i2⟩:=ZbY (prog:=prog) (w:=w) (ks:=ks++[k]) g1 C R (T.perm v) D t2 (λz=>L.trans (Y z)) ((v.map Xn).nodup_iff.mpr Mi) (λi=>by rw[(v.map Xn).mem_iff];exact a0 i) ();exact Sb (hR _ (b1.trans (Heap.SameBut.update _ a _)) i2);exact Sb (hR _ b1 i1)
  split;erw[Sa ?_];rw[hashByValue_scannable 8 (show Value.scannable (.int k tk)=true from R)];erw[Sb ?_];show wpAny _ _ _ _ _ _;exact tail λh' j M=>Sb (h true h' j M);erw[Sa (Sb ?_)];exact tail λh' j M=>Sb (h true h' j M)
section
variable{R:Result->Shared->Prop}{I:Addr}{fp wr:OH}{G:Array GenState->Array GenState->Prop}{n:Nat}{P:Nat->Value->Prop}{St:Nat->Shared->Prop}
def Zkc(W:WalksS prog w A.in1 I fp wr G n P St)(S:Addr)(x:S∉fp)(val:Nat->Int)(C:∀i v,P i v->∃t,v=.int (val i) t)(c:n+1<scanBound) :
  ∀(k i:Nat) (s:Shared),n - i=k->i<=n->St i s->Xo prog w s.heap S ((List.range i).map val)->(∀s',Moved (S::wr) G s s'->Xo prog w s'.heap S ((List.range n).map val)->R (.ok (.ret .none)) s') ->
   codeAny (model prog w) A (.builtin "set.update.loop" ⟨[.ref S,.ref I],[]⟩) R s:=by
 have j:S∉wr:=λz=>x (W.sub _ z);have u:∀b∈wr,b∈S::wr:=λb z=>SB _ z;intro k;induction k with
 |zero =>
  intro i s J f st g h;obtain rfl:i=n:=by lia
  erw[codeAny_builtin PyProof.Rows.F.entry_set_update_loop ?_];rw[Around.under_plainId PyProof.Rows.F.plain_set_update_loop _];erw[Sa (m:=pyNext (.ref I)) (W.done s _ _ st λs' hm=>?_)];exact Sb (h s' (hm.mono u) (g.keep λo e=>hm.heap S o j e))
 |succ k L =>
  intro i s J f st g h;have lt:i<n:=by lia
  erw[codeAny_builtin PyProof.Rows.F.entry_set_update_loop ?_];rw[Around.under_plainId PyProof.Rows.F.plain_set_update_loop _];erw[Sa (m:=pyNext (.ref I)) (W.item i s _ _ lt st λv s' M B hm=>?_)];obtain⟨tk,rfl⟩:=C i v M;have D:=g.keep λo e=>hm.heap S o j e;erw[Sa (m:=holding [Value.int (val i) tk] (setAdd S (.int (val i) tk))) (wpAny_holding ?_)];unfold setAdd;erw[wpAny_holding (Sa ((intKind prog w).pyHash (k:=val i) (intKind_is _ _ _ _) ?_))];erw[Zkb (s:={s' with toks:=s'.toks+1}) D (by rw[Sv,List.length_range];lia) λb Q y f=>?_];have e:((List.range i).map val)++[val i]=(List.range (i+1)).map val:=by rw[Oj,SL];rfl
  rw[e]at f;erw[Sb ⟨plainId_quiet PyProof.Rows.F.plain_set_update_loop _,L (i+1) _ () lt (W.frame _ s' _ _ B (Nat.le_succ _) λb c o e=>?_) f λO H E=>?_⟩];rwa[y.2 b (λz:b=S=>x (by rw[<-z];exact c))];erw[h O (Moved.trans W.gtrans ((hm.mono u).then_heap (Nat.le_succ _) λb o c e=>?_) H) E];rwa[y.2 b (λz:b=S=>c (by rw[z];exact SD))]
end
open PySem
theorem TW{c:Type}:∀(l:List c) (i:Nat) (x:c),l[i]? = some x->List.Perm (x::l.eraseIdx i) l
 |[],i,x,h=>by cases h
 |a::r,0,x,h=>by cases h;exact .refl _
 |a::r,i+1,x,h=>(List.Perm.swap a x _).trans ((TW r i x h).cons a)
theorem ZbZ{g:Type}(f:Nat->Nat):∀(n k:Nat) (l:List g) (out:Array g),l.length=n->List.Perm (pickOrder.go f n k l out).toList (out.toList++l)
 |0,k,l,out,h=>by
  cases l with
  |nil=>unfold pickOrder.go;rw[Oc]
  |cons a r=>cases h
 |n+1,k,l,out,h=>by
  unfold pickOrder.go;have c:f k%l.length<l.length:=Oo _ ();rw[Ss c];dsimp only;have p:=TW l _ _ (Ss c);erw[(ZbZ f n (k+1) _ _ ?_).trans ?_];have:=p.length_eq;rw[Sy]at this;lia;rw[Array.toList_push,Od];exact List.Perm.append_left _ p
def TX{c:Type}(f:Nat->Nat)(xs:Array c):List.Perm (pickOrder f xs).toList xs.toList:=by
 have:=ZbZ f xs.size 0 xs.toList #[] (by simp);rw[show(#[]:Array c).toList++xs.toList=xs.toList from R]at this;exact this
def Zkd{n:Nat}(hn:n≠0)(h:∀i d,i<n->Q i {s with drawn:=d}):wpAny M A (choose c n) Q E s:=λf p g=>by
 show Sem.wp M f (Sem.choose c n Sem.pure) _ _ p s;unfold Sem.wp;erw[⟨hn,?_⟩];unfold Sem.wp;exact h _ _ (Oo _ (Nat.pos_of_ne_zero hn))
theorem Zb0{M:Model}{g:Type}:∀(n:Nat) (xs:List g) (s:Shared) {Q:List g->Shared->Prop},xs.length=n->(∀f d,List.Perm f xs->Q f {s with drawn:=d})->wpAny M A (drawOrder n xs) Q E s
 |0,xs,s,Q,c,h=>by
  cases xs with
  |nil=>exact Sb (h [] s.drawn .nil)
  |cons a r=>cases c
 |n+1,xs,s,Q,c,h=>by
  cases xs with
  |nil=>cases c
  |cons a r =>
   unfold drawOrder;erw[Sa (Zkd (by simp) λi d j=>?_)];rw[Ss j];dsimp only;have p:=TW (a::r) _ _ (Ss j);erw[Sa (Zb0 n _ _ (by have:=p.length_eq;rw[Sy]at this;lia) λf u v=>?_)];exact Sb (h _ u ((v.cons _).trans p))
def WD(h:Heap)(I:Addr)(f:Value)(i:Nat)(p n c:Nat):Prop:=∃o,h.get? I=some o/\o.cls=.type "set_iterator" /\ o.data=.fields #[f,.int i 0,.ref p,.int n 0,.int c 0]
def WD.ty(x:WD s.heap I f i p n c):s.TypeIs (.ref I) "set_iterator" := let ⟨o,ho,hc,_⟩:=x;⟨o,ho,hc⟩
def Vn(h:Heap)(p f:Nat)(c:Array (Int×Value))(t:OI):Prop:=∃o,h.get? p=some o/\o.ExactSet/\o.data=.set c f t/\t.fits c.size=true
def Ql:Slot "set_iterator" "__next__" "set_iterator.__next__" := .of (owner := "set_iterator") (n := "__next__") (by rw[typeLookup_type,builtinLookup_eq_fast];kernel_rfl) () () () (by first|exact .inl ()|exact .inr ()) (by rw[isSubtype_type];kernel_rfl)
def Pa:entryFor table "set_iterator.__next__"=some Builtin.«set_iterator.__next__»:=entryFor_of_tree (by kernel_rfl)
def Pb(a:Value):argsOk "set_iterator.__next__" ⟨[a],[]⟩:=by unfold argsOk;kernel_rfl
def Zke:entryFor table "set.__iter__"=some Builtin.«frozenset.__iter__»:=entryFor_alias (id' := "frozenset.__iter__") (by kernel_rfl) R () (by kernel_rfl)
def Zb1:typeLookup (.type "set_iterator") "__next__"=pure (some (.builtin "set_iterator.__next__")):=Ql.lookup
def Zkf{h:Array (Int×Value)}{t:OI}(O:Vn s.heap p x h t)
  (T:(w.params.followText "set-order"=true\/(t.plain=true\/h.size<=1))->Q (.ref s.heap.objs.size) {s with heap:=s.heap.push {cls:=.type "set_iterator",data:=.fields #[.int 0 0,.int 0 0,.ref p,.int h.size 0,.int x 0]} })
  (hd:∀(n:OG) (d:Drawn),List.Perm n (List.range h.size)->Q (.ref (s.heap.objs.size+1)) {s with heap:=(s.heap.push {cls:=.type "tuple",data:=.seq (n.map λi=>rawInt (i:Nat)).toArray}).push {cls:=.type "set_iterator",data:=.fields #[.ref s.heap.objs.size,.int 0 0,.ref p,.int h.size 0,.int x 0]},drawn:=d})
  (X:h.size<=sizeLine):wpAny (model prog w) A (pyIter (.ref p)) Q E s:=by
 ext⟨o,u,L,B,y⟩ O;have I:s.TypeIs (.ref p) "set" := ⟨o,u,L.1⟩;erw[wpAny_pyIter_slot I F.slot_set_iter (wpAny_call_entry F.slot_set_iter I Zke ?_ (F.args_set_iter_1 _))];unfold Builtin.«frozenset.__iter__»;erw[Sa (m:=Builtin.Frozenset.slot0 "__iter__" _) (Sb ?_)];erw[Sa (m:=Builtin.Frozenset.sizeOf p) ?_];unfold Builtin.Frozenset.sizeOf setEntries;erw[Sa (Sa (wpAny_setState_of u B y (Sb (Sb ?_))))];unfold setDrawn setsByText;erw[Sa (Sa (wpAny_setState_of u B y (Sa (Sa (wpAny_askSetting (Sb (Sb ?_)))))))];have J:∀{f:Value} {j:Heap} {d:Drawn},j.get? p=some o->Q (.ref j.objs.size) {s with heap:=j.push {cls:=.type "set_iterator",data:=.fields #[f,.int 0 0,.ref p,.int h.size 0,.int x 0]},drawn:=d} ->
   wpAny (model prog w) A.in1 (do
    let S <-setEpoch p
    let U <-newFields "set_iterator" [f,rawInt 0,Value.ref p,rawInt (h.size:Nat),rawInt (S:Nat)]
    ret U) (λfin G=>∃v,fin=Fin.done (Flow.ret v)/\∃D r,G.TypeIs v D/\typeLookup (Value.type D) (OK "__next__")=pure (some r)/\Q v G) E {s with heap:=j,drawn:=d}:=λ{f j d} g q=>by
  erw[Sa (wpAny_setEpoch_of (s:={s with heap:=j,drawn:=d}) g B y ?_)];exact Sa (wpAny_newObj_type (Sb ⟨_,R,"set_iterator",_,⟨_,Sd _ R,R⟩,Zb1,q⟩))
 erw[wpAny_ite_split (λc=>?_) (λc=>?_)];erw[Sa (Zb0 h.size _ _ (by simp) λn d H=>?_)];have P:n.length=h.size:=by have:=H.length_eq;simpa using this
 erw[Sa (m:=newTuple _) (wpAny_newObj_type ?_ (by show(n.map λi=>rawInt (i:Nat)).toArray.size<=sizeLine;rwa[SN,Sv,P]))];have q:=hd n d H;have e:s.heap.objs.size+1=(s.heap.push {cls:=.type "tuple",data:=.seq (n.map λi=>rawInt (i:Nat)).toArray}).objs.size:=(Heap.size_push _ _).symm;rw[e]at q;exact J (Sc _ u) q;erw[Sa (Sb (J (d:=s.drawn) u (T ?_)))];have C:¬ (!w.params.followText "set-order" && (!t.plain && decide (h.size>1)))=true:=c;cases M:w.params.followText "set-order" with
 |true=>exact .inl rfl
 |false =>
  right
  cases j:t.plain with
  |true=>exact .inl rfl
  |false =>
   right
   rw[M,j]at C;simp at C;exact C
open PySem
def Zkg{h:Heap}(x:WD h I f i p n u) :
  WD ((h.update I (Obj.mapFields (·.setIfInBounds 0 g))).update I (Obj.mapFields (·.setIfInBounds 1 (rawInt ((i:Int)+1))))) I g (i+1) p n u:=by
 ext⟨o,y,v,hd⟩ x;have j:=Obj.data_mapFields hd (·.setIfInBounds 0 g);have g1:=Heap.get?_update_self (Obj.mapFields (·.setIfInBounds 0 g)) y (Obj.isFreed_of_fields j);have c:=Obj.data_mapFields j (·.setIfInBounds 1 (rawInt ((i:Int)+1)));erw[⟨_,Heap.get?_update_self _ g1 (Obj.isFreed_of_fields c),(Obj.cls_mapFields ..).trans ((Obj.cls_mapFields ..).trans v),?_⟩];rw[c];simp[rawInt]
def Zb2{I p f i slot nx:Nat}{h:Array (Int×Value)}{t:OI}{x:Value}{Q:Option Value->Shared->Prop}(c:WD s.heap I (.int slot 0) i p h.size f)(C:Vn s.heap p f h t)
  (y:∀(n:Around) (E':Ou) (Q':Option (Value×Nat)->Shared->Prop),Q' (some (x,nx)) s->wpAny (model prog w) n (setNext p slot i f) Q' E' s)
  (u:∀h',WD h' I (.int nx 0) (i+1) p h.size f->Heap.SameBut I s.heap h'->Q (some x) {s with heap:=h'}):wpAny (model prog w) A (pyNext (.ref I)) Q E s:=by
 obtain⟨o,g,G,hd⟩:=id c;ext⟨J,D,H,B,v⟩ C;unfold pyNext;erw[Sa (wpAny_attempt (wpAny_callSpecial?_slot (name:=OK "__next__") c.ty Ql (wpAny_call_entry Ql c.ty Pa ?_ (Pb _))))];unfold Builtin.«set_iterator.__next__»;erw[Sa (m:=slotArgs "__next__" 0 _) (Sb ?_)];erw[Sa (wpAny_fieldsOf g hd ?_)];dsimp only;unfold setEntries;erw[Sa (Sa (wpAny_setState_of D B v (Sb ?_)))];rw[SU (by simp)];simp only[Int.toNat_natCast];erw[Sa (y _ _ _ ?_)];dsimp only;erw[Sa (wpAny_setField g hd (by simp) ?_)];have j:=Obj.data_mapFields hd (·.setIfInBounds 0 (rawInt (nx:Int)));have g1:=Heap.get?_update_self (Obj.mapFields (·.setIfInBounds 0 (rawInt (nx:Int)))) g (Obj.isFreed_of_fields j);erw[Sa (wpAny_setField (s:={s with heap:=s.heap.update I (Obj.mapFields (·.setIfInBounds 0 (rawInt (nx:Int))))}) g1 j (by simp) ?_)];exact Sb ⟨_,R,Sb (u _ (Zkg c) ((Heap.SameBut.update ..).trans (Heap.SameBut.update ..)))⟩
def Zb3{I p f i slot:Nat}{h:Array (Int×Value)}{t:OI}{Q:Option Value->Shared->Prop}(D:A.handled=none)(c:WD s.heap I (.int slot 0) i p h.size f)(B:Vn s.heap p f h t)
  (v:∀(j:Around) (E':Ou) (Q':Option (Value×Nat)->Shared->Prop),Q' none s->wpAny (model prog w) j (setNext p slot i f) Q' E' s)
  (n:∀h',Heap.ExtBut I s.heap h'->Q none {s with heap:=h'}):wpAny (model prog w) A (pyNext (.ref I)) Q E s:=by
 obtain⟨o,g,G,hd⟩:=id c;obtain⟨J,C,H,x,u⟩:=id B;unfold pyNext;erw[Sa (wpAny_attempt (wpAny_callSpecial?_slot (name:=OK "__next__") c.ty Ql (wpAny_call_entry Ql c.ty Pa ?_ (Pb _))))];unfold Builtin.«set_iterator.__next__»;erw[Sa (m:=slotArgs "__next__" 0 _) (Sb ?_)];erw[Sa (wpAny_fieldsOf g hd ?_)];dsimp only;unfold setEntries;erw[Sa (Sa (wpAny_setState_of C x u (Sb ?_)))];rw[SU (by simp)];simp only[Int.toNat_natCast];erw[Sa (v _ _ _ ?_)];dsimp only;erw[Sa (wpAny_setField g hd (by simp) ?_)];have y:=Heap.SameBut.update s.heap I (Obj.mapFields (·.setIfInBounds 2 Value.none));simp only[newExc,newTuple];erw[Sa (Sa (wpAny_newObj_type (Sa (m:=firstArgMember _ _) (wpAny_of_eq (a:=Value.none) (by simp only[firstArgMember];rfl) (wpAny_newObj_type ?_ (by size_fits)))) (by size_fits)))];simp only[raiseNew];erw[Sa (wpAny_handled ?_)];rw[show A.in1.handled=none from D];erw[Sa (Sb (wpAny_throw ?_))];erw[Sa (wpAny_isInstance (T := "StopIteration") (b:=true) ⟨_,Sd _ R,R⟩ isSubtype_stop ?_)];exact Sb (n _ ((y.extBut.push _).push _))
def F9(h:Heap)(T:Nat)(c:OG):Prop:=∃o,h.get? T=some o/\o.cls=.type "tuple" /\ ∃n,o.data=.seq (c.map λi=>rawInt (i:Nat)).toArray n
def Zkh{c:Array (Int×Value)}{e:Int×Value}(h:WD s.heap I (.ref T) i p c.size f)(D:Vn s.heap p f c t)(M:F9 s.heap T n)
  (L:n[i]? = some j) (J:c[j]? = some e) (B:∀h',WD h' I (.ref T) (i+1) p c.size f->Heap.SameBut I s.heap h'->Q (some e.2) {s with heap:=h'}):wpAny (model prog w) A (pyNext (.ref I)) Q E s:=by
 obtain⟨o,g,G,hd⟩:=id h;obtain⟨P,x,O,y,u⟩:=id D;unfold pyNext;erw[Sa (wpAny_attempt (wpAny_callSpecial?_slot (name:=OK "__next__") h.ty Ql (wpAny_call_entry Ql h.ty Pa ?_ (Pb _))))];unfold Builtin.«set_iterator.__next__»;erw[Sa (m:=slotArgs "__next__" 0 _) (Sb ?_)];erw[Sa (wpAny_fieldsOf g hd ?_)];dsimp only;unfold setEntries;erw[Sa (Sa (wpAny_setState_of x y u (Sb ?_)))];rw[SU (by simp)];ext⟨S,C,U,X,H⟩ M;erw[Sa (wpAny_seqItems C H ?_)];dsimp only;rw[Int.toNat_natCast,List.getElem?_toArray,Oa,L];show wpAny _ _ (setNextDrawn p j f >>= _) _ _ s;unfold setNextDrawn;erw[Sa (Sa (wpAny_setState_of x y u ?_))];dsimp only;rw[SU (by simp)];rw[J];erw[Sb (Sa (wpAny_setField g hd (by simp) ?_))];have v:=Obj.data_mapFields hd (·.setIfInBounds 1 (rawInt ((i:Int)+1)));erw[Sb ⟨_,R,Sb (B _ ⟨_,Heap.get?_update_self _ g (Obj.isFreed_of_fields v),(Obj.cls_mapFields ..).trans G,?_⟩ (Heap.SameBut.update ..))⟩];rw[v];simp[rawInt]
def Zki{h:Array (Int×Value)}(G:A.handled=none)(f:WD s.heap I (.ref T) i p h.size n)(x:Vn s.heap p n h t)(L:F9 s.heap T g)
  (C:g[i]? = none) (u:∀h',Heap.ExtBut I s.heap h'->Q none {s with heap:=h'}):wpAny (model prog w) A (pyNext (.ref I)) Q E s:=by
 obtain⟨o,c,P,hd⟩:=id f;obtain⟨O,D,M,H,y⟩:=id x;unfold pyNext;erw[Sa (wpAny_attempt (wpAny_callSpecial?_slot (name:=OK "__next__") f.ty Ql (wpAny_call_entry Ql f.ty Pa ?_ (Pb _))))];unfold Builtin.«set_iterator.__next__»;erw[Sa (m:=slotArgs "__next__" 0 _) (Sb ?_)];erw[Sa (wpAny_fieldsOf c hd ?_)];dsimp only;unfold setEntries;erw[Sa (Sa (wpAny_setState_of D H y (Sb ?_)))];rw[SU (by simp)];ext⟨S,v,U,X,B⟩ L;erw[Sa (wpAny_seqItems v B ?_)];dsimp only;rw[Int.toNat_natCast,List.getElem?_toArray,Oa,C];dsimp only[Option.map_none];erw[Sa (wpAny_setField c hd (by simp) ?_)];have j:=Obj.data_mapFields hd (·.setIfInBounds 0 (rawInt 0));have g1:=Heap.get?_update_self (Obj.mapFields (·.setIfInBounds 0 (rawInt 0))) c (Obj.isFreed_of_fields j);erw[Sa (wpAny_setField (s:={s with heap:=s.heap.update I (Obj.mapFields (·.setIfInBounds 0 (rawInt 0)))}) g1 j (by simp) ?_)];have J:=(Heap.SameBut.update s.heap I (Obj.mapFields (·.setIfInBounds 0 (rawInt 0)))).trans (Heap.SameBut.update (s.heap.update I (Obj.mapFields (·.setIfInBounds 0 (rawInt 0)))) I (Obj.mapFields (·.setIfInBounds 2 Value.none)));simp only[newExc,newTuple];erw[Sa (Sa (wpAny_newObj_type (Sa (m:=firstArgMember _ _) (wpAny_of_eq (a:=Value.none) (by simp only[firstArgMember];rfl) (wpAny_newObj_type ?_ (by size_fits)))) (by size_fits)))];simp only[raiseNew];erw[Sa (wpAny_handled ?_)];rw[show A.in1.handled=none from G];erw[Sa (Sb (wpAny_throw ?_))];erw[Sa (wpAny_isInstance (T := "StopIteration") (b:=true) ⟨_,Sd _ R,R⟩ isSubtype_stop ?_)];exact Sb (u _ ((J.extBut.push _).push _))
def Zb4{slot : Nat}(f:w.params.followText "set-order"=true) (v:Vn s.heap p c u t)
  (h:Q (((pickOrder (w.params.setOrder p c) u)[i]?).map λe=>(e.2,slot)) s):wpAny (model prog w) A (setNext p slot i c) Q E s:=by
 ext⟨y,n,x,j,g⟩ v;unfold setNext setsByText;erw[Sa (wpAny_setState_of n j g (Sa (Sa (wpAny_askSetting (Sb ?_)))))];dsimp only;rw[SV (show(model prog w).w.params.followText "set-order"=true from f),SU (by simp)];unfold setWalk setsByText;erw[Sa (Sa (wpAny_setState_of n j g (Sa (Sa (wpAny_askSetting (Sb ?_))))))];dsimp only;rw[SV (show(model prog w).w.params.followText "set-order"=true from f)];exact Sa (wpAny_askSetting (Sb (Sb h)))
def Zb5{slot : Nat}{f:Array (Int×Value)}{t:OI}(y:w.params.followText "set-order"=false) (g:t.plain=true\/f.size<=1) (v:t.led=true) (D:Vn s.heap p u f t)
  (h:Q (match f[SetTable.below t.place slot]?,t.place[SetTable.below t.place slot]? with|some (_,x),some j=>some (x,j+1)|_,_=>none) s):wpAny (model prog w) A (setNext p slot i u) Q E s:=by
 ext⟨I,G,H,C,B⟩ D;unfold setNext setsByText;erw[Sa (wpAny_setState_of G C B (Sa (Sa (wpAny_askSetting (Sb ?_)))))];dsimp only;rw[SU (show ¬ (model prog w).w.params.followText "set-order"=true by intro z;rw[show(model prog w).w.params.followText "set-order"=w.params.followText "set-order" from R,y]at z;cases z)];erw[wpAny_ite_split (λc=>?_) (λc=>?_)];exfalso;have n:(!t.plain && decide (f.size>1))=true:=c;rw[Bool.and_eq_true,decide_eq_true_eq]at n;rcases g with g|g;rw[g]at n;cases n.1;omega;erw[Sa ?_];show wpAny _ _ (if (!t.led && !f.isEmpty)=true then unsupported _ else pure Unit.unit) _ _ _;rw[SU (by rw[v];simp)];exact Sb (Sb h)
open PySem PyProof.Rows
def Zb6:Slot "set_iterator" "__iter__" "set_iterator.__iter__" := .of (owner := "set_iterator") (n := "__iter__") (by rw[typeLookup_type,builtinLookup_eq_fast];kernel_rfl) () () () (by first|exact .inl ()|exact .inr ()) (by rw[isSubtype_type];kernel_rfl)
def Zkj:entryFor table "set_iterator.__iter__"=some Builtin.«dict_keyiterator.__iter__»:=entryFor_alias (id' := "dict_keyiterator.__iter__") (by kernel_rfl) R () (by kernel_rfl)
def Zkk(a:Value):argsOk "set_iterator.__iter__" ⟨[a],[]⟩:=by unfold argsOk;kernel_rfl
def TY(x:WD s.heap I f i p n c)(h:Q (.ref I) s):wpAny (model prog w) A (pyIter (.ref I)) Q E s:=by
 erw[wpAny_pyIter_slot x.ty Zb6 (wpAny_call_entry Zb6 x.ty Zkj (show wpAny _ _ (ret (.ref I)) _ _ s from ?_) (Zkk _))];exact Sb ⟨_,R,"set_iterator",_,x.ty,Zb1,h⟩
def WD.keep{h h':Heap}(x:WD h I f i p n c)(k:∀o,h.get? I=some o->h'.get? I=some o):WD h' I f i p n c:=let ⟨o,ho,r⟩:=x;⟨o,k _ ho,r⟩
def Vn.keep{h h':Heap}(x:Vn h p f c t)(k:∀o,h.get? p=some o->h'.get? p=some o):Vn h' p f c t:=let ⟨o,ho,r⟩:=x;⟨o,k _ ho,r⟩
def F9.keep{h h':Heap}(x:F9 h T c)(k:∀o,h.get? T=some o->h'.get? T=some o):F9 h' T c:=let ⟨o,ho,r⟩:=x;⟨o,k _ ho,r⟩
def Zkl(H:A.handled=none)(I p f:Nat)(C:p≠I)(c:Array (Int×Value))(t:OI)(y:w.params.followText "set-order"=true) :
  Walks prog w A I [I,p] [I] c.size (λi v=>((pickOrder (w.params.setOrder p f) c).toList.map (·.2))[i]? = some v) (λi h=>WD h I (.int 0 0) i p c.size f/\Vn h p f c t) where
 sub:=λb j=>by rw[SE]at j;rw[j];exact SD
 frame:=λ_ _ _ st k=>⟨st.1.keep (k I SD),st.2.keep (k p (SB _ SD))⟩
 item:=λi s Q E M st n=>by
  have L:i<(pickOrder (w.params.setOrder p f) c).size:=by
   have:=(TX (w.params.setOrder p f) c).length_eq;rw[Array.length_toList,Array.length_toList]at this;lia
  have g:=Array.getElem?_eq_getElem L;erw[Zb2 (nx:=0) (x:=((pickOrder (w.params.setOrder p f) c)[i]).2) (slot:=0) st.1 st.2 (λB J G q=>Zb4 y st.2 (by rwa[g])) λu D j=>?_];erw[n _ u s.toks ?_ ⟨D,st.2.keep λo e=>j.extBut p o C e⟩ λb o hn e=>j.extBut b o (λz=>hn (by rw[z];exact SE.mpr R)) e];rw[Oa,Array.getElem?_toList,g];rfl
 done:=λs Q E st n=>by
  have g:(pickOrder (w.params.setOrder p f) c)[c.size]? = none:=by
   have:=(TX (w.params.setOrder p f) c).length_eq;rw[Array.length_toList,Array.length_toList]at this;exact Array.getElem?_eq_none ()
  exact Zb3 (slot:=0) H st.1 st.2 (λB J G q=>Zb4 y st.2 (by rwa[g])) λu j=>n u s.toks λb o hn e=>j b o (λz=>hn (by rw[z];exact SE.mpr R)) e
 self:=λ_ _ _ _ st n=>TY st.1 n
def Uj(t:OI):Nat->Nat
 |0=>0
 |i+1=>t.place.getD i 0+1
theorem Zb7{t:OI}(h:Qk t.place):∀i,i<=t.place.size->SetTable.below t.place (Uj t i)=i
 |0,_=>by
  obtain⟨x,g,n⟩:=TV (j:=Uj t 0) h;by_cases c:SetTable.below t.place (Uj t 0)=0;exact c;exact Os (g 0 ()) (Nat.not_lt_zero _)
 |i+1,u=>by
  obtain⟨x,g,n⟩:=TV (j:=Uj t (i+1)) h;have e:∀k d,k<t.place.size->t.place.getD k d=t.place.getD k 0:=λk d f=>by simp[Array.getD,f]
  have B:i<SetTable.below t.place (Uj t (i+1)):=by
   by_cases c:SetTable.below t.place (Uj t (i+1))<=i;have:=n i c u;rw[e i _ u]at this;exact Os this (Nat.not_succ_le_self _);omega
  by_cases v:SetTable.below t.place (Uj t (i+1))=i+1;exact v;have l:=g (i+1) ();have f:i+1<t.place.size:=by lia
  rw[e _ _ f]at l;have r:t.place.getD i 0<t.place.getD (i+1) 0:=N9 (d:=0) h (Sm i) f;have y:t.place.getD (i+1) 0<t.place.getD i 0+1:=l;lia
def Zkm(S:A.handled=none)(I p B:Nat)(H:p≠I)(c:Array (Int×Value))(t:OI)(y:w.params.followText "set-order"=false) (C:t.plain=true\/c.size<=1) (G:t.led=true) (hz:t.place.size=c.size) (D:Qk t.place) :
  Walks prog w A I [I,p] [I] c.size (λi v=>(c.toList.map (·.2))[i]? = some v) (λi h=>WD h I (.int (Uj t i) 0) i p c.size B/\Vn h p B c t) where
 sub:=λb f=>by rw[SE]at f;rw[f];exact SD
 frame:=λ_ _ _ st k=>⟨st.1.keep (k I SD),st.2.keep (k p (SB _ SD))⟩
 item:=λi s Q E M st j=>by
  have g:=Array.getElem?_eq_getElem M;have u:i<t.place.size:=by lia
  have g2:=Array.getElem?_eq_getElem u;have J:Uj t (i+1)=t.place[i]+1:=by
   show t.place.getD i 0+1=_;simp[Array.getD,u]
  erw[Zb2 (nx:=t.place[i]+1) (x:=(c[i]).2) (slot:=Uj t i) st.1 st.2 (λO T L q=>Zb5 y C G st.2 (by rwa[Zb7 D i (),g,g2])) λn P f=>?_];erw[j _ n s.toks ?_ ⟨by rwa[J],st.2.keep λo e=>f.extBut p o H e⟩ λb o hn e=>f.extBut b o (λz=>hn (by rw[z];exact SE.mpr R)) e];rw[Oa,Array.getElem?_toList,g];rfl
 done:=λs Q E st j=>by
  have g:c[c.size]? = none:=Array.getElem?_eq_none (Sg _);exact Zb3 (slot:=Uj t c.size) S st.1 st.2 (λO T L q=>Zb5 y C G st.2 (by rwa[Zb7 D _ (),g])) λn f=>j n s.toks λb o hn e=>f b o (λz=>hn (by rw[z];exact SE.mpr R)) e
 self:=λ_ _ _ _ st j=>TY st.1 j
def Zkn(L:A.handled=none)(I p T D:Nat)(G:p≠I)(J:T≠I)(f:Array (Int×Value))(t:OI)(n:OG)(y:List.Perm n (List.range f.size)) :
  Walks prog w A I [I,p,T] [I] f.size (λi v=>(n.map λj=>(f.getD j (0,.none)).2)[i]? = some v) (λi h=>WD h I (.ref T) i p f.size D/\Vn h p D f t/\F9 h T n) where
 sub:=λb c=>by rw[SE]at c;rw[c];exact SD
 frame:=λ_ _ _ st k=>⟨st.1.keep (k I (by simp)),st.2.1.keep (k p (by simp)),st.2.2.keep (k T (by simp))⟩
 item:=λi s Q E M st u=>by
  have B:i<n.length:=by have:=y.length_eq;rw[List.length_range]at this;lia
  have g:=Ss B;have C:n[i]<f.size:=List.mem_range.mp (y.mem_iff.mp (Oi B));erw[Zkh st.1 st.2.1 st.2.2 g (Array.getElem?_eq_getElem C) λx H c=>?_];erw[u _ x s.toks ?_ ⟨H,st.2.1.keep λo e=>c.extBut p o G e,st.2.2.keep λo e=>c.extBut T o J e⟩ λb o hn e=>c.extBut b o (λz=>hn (by rw[z];exact SE.mpr R)) e];rw[Oa,g];simp[Array.getD,C]
 done:=λs Q E st u=>by
  have g:n[f.size]? = none:=List.getElem?_eq_none (by have:=y.length_eq;rw[List.length_range]at this;lia);exact Zki L st.1 st.2.1 st.2.2 g λx c=>u x s.toks λb o hn e=>c b o (λz=>hn (by rw[z];exact SE.mpr R)) e
 self:=λ_ _ _ _ st u=>TY st.1 u
def Zko{l:List (Int×Value)}(h:∀e∈l,∃t,e.2=.int (Xn e) t):IntsAre (l.map (·.2)) (l.map Xn):=by
 induction l with
 |nil=>exact .nil
 |cons e r f =>
  obtain⟨t,q⟩:=h e SD;rw[SM,SM,q];exact .cons _ t (f λx c=>h x (SB _ c))
def Zkp{f:Type}(c:Array f)(d:f):(List.range c.size).map (λj=>c.getD j d)=c.toList:=by
 erw[List.ext_getElem (by simp) λi n g=>?_];have h:i<c.size:=by simpa using g
 simp[Array.getD,h]
def Zkq{ks:OE}(M:A.handled=none)(u:Xo prog w s.heap p ks)(hk:ks.length<=1000)
  (h:∀(I:Addr) (fp:OH) (St:Nat->Heap->Prop) (h':Heap) (d:Drawn) (its:OB) (ns:OE),Walks prog w A I fp [I] its.length (λi v=>its[i]? = some v) St->St 0 h' ->
   (∀b o,s.heap.get? b=some o->h'.get? b=some o)->(∀b∈fp,b=p\/s.heap.objs.size<=b)->s.heap.objs.size<=I->IntsAre its ns->ns.Nodup->(∀k,k∈ns↔k∈ks)->its.length<=ks.length->Q (.ref I) {s with heap:=h',drawn:=d}) :
  wpAny (model prog w) A (pyIter (.ref p)) Q E s:=by
 ext⟨o,f,g,t,T,X,hd,Y,J,Z,hl,nd,mem,sz⟩ u;have u:Vn s.heap p g f t:=⟨o,T,X,hd,J⟩;have O:p<s.heap.objs.size:=Se T;have hz:t.place.size=f.size:=by
  unfold SetTable.fits at J;rw[Bool.and_eq_true]at J;exact beq_iff_eq.mp J.1
 have fin:∀(l:List (Int×Value)),List.Perm l f.toList->IntsAre (l.map (·.2)) (l.map Xn)/\(l.map Xn).Nodup/\(∀k,k∈l.map Xn↔k∈ks)/\(l.map (·.2)).length=f.size:=λl x =>
  ⟨Zko λe he=>ZbX Y (x.mem_iff.mp he),(x.map Xn).nodup_iff.mpr nd,λk=>((x.map Xn).mem_iff).trans (mem k),by rw[Sv,x.length_eq,Array.length_toList]⟩
 have U:∀b∈[s.heap.objs.size,p],b=p\/s.heap.objs.size<=b:=λb B=>by
  simp only[SF,List.not_mem_nil,or_false]at B;rcases B with rfl|rfl;exact .inr (Sg _);exact .inl rfl
 erw[Zkf u (λc=>?_) (λC d S=>?_) (Sh (Sh sz hk) ())];cases L:w.params.followText "set-order" with
 |true =>
  obtain⟨y,D,G,n⟩:=fin _ (TX (w.params.setOrder p g) f);have W:=Zkl (prog:=prog) M s.heap.objs.size p g (Sf O) f t L;rw[<-n]at W;exact h _ _ _ _ s.drawn _ _ W ⟨⟨_,Sd _ R,R,by rw[n];rfl⟩,u.keep λo e=>Sc _ e⟩ (λb o e=>Sc _ e) U (Sg _) y D G ()
 |false =>
  have H:t.plain=true\/f.size<=1:=by
   rcases c with c|c;rw[L]at c;cases c;exact c
  have hr:Qk t.place:=by
   rcases H with H|H;exact Z.ri H;have a0:t.place.toList.length<=1:=by rw[Array.length_toList];lia
   show List.Pairwise _ _
   match t.place.toList,a0 with
   |[],_=>exact .nil
   |[a],_=>exact List.pairwise_singleton _ _
  obtain⟨y,D,G,n⟩:=fin _ (.refl _);have W:=Zkm (prog:=prog) M s.heap.objs.size p g (Sf O) f t L H (hl L) hz hr;rw[<-n]at W;exact h _ _ _ _ s.drawn _ _ W ⟨⟨_,Sd _ R,R,by rw[n];rfl⟩,u.keep λo e=>Sc _ e⟩ (λb o e=>Sc _ e) U (Sg _) y D G ()
 have x:List.Perm (C.map λj=>f.getD j (0,.none)) f.toList:=by
  have:=S.map λj=>f.getD j (0,Value.none);rw[Zkp]at this;exact this
 obtain⟨y,D,G,n⟩:=fin _ x;have W:=Zkn (prog:=prog) (w:=w) (A:=A) M (s.heap.objs.size+1) p s.heap.objs.size g (Sf (Sn O)) (Sf (Sm _)) f t C S;rw[Oe]at y n;have P:(C.map λj=>(f.getD j (0,.none)).2).length=f.size:=n;rw[<-P]at W;have gI:((s.heap.push {cls:=.type "tuple",data:=.seq (C.map λi=>rawInt (i:Nat)).toArray}).push {cls:=.type "set_iterator",data:=.fields #[.ref s.heap.objs.size,.int 0 0,.ref p,.int f.size 0,.int g 0]}).get? (s.heap.objs.size+1)=some {cls:=.type "set_iterator",data:=.fields #[.ref s.heap.objs.size,.int 0 0,.ref p,.int f.size 0,.int g 0]}:=by
  have:=Sd (s.heap.push {cls:=.type "tuple",data:=.seq (C.map λi=>rawInt (i:Nat)).toArray}) (o:={cls:=.type "set_iterator",data:=.fields #[.ref s.heap.objs.size,.int 0 0,.ref p,.int f.size 0,.int g 0]}) R;rw[Heap.size_push]at this;exact this
 erw[h _ _ _ _ d _ _ W ⟨⟨_,gI,R,by rw[P];rfl⟩,u.keep λo e=>Sc _ (Sc _ e),⟨_,Sc _ (Sd _ R),R,_,R⟩⟩ (λb o e=>Sc _ (Sc _ e)) (λb B=>?_) (Nat.le_succ _) y D G ()];simp only[SF,List.not_mem_nil,or_false]at B;rcases B with rfl|rfl|rfl;exact .inr (Nat.le_succ _);exact .inl rfl;exact .inr (Sg _)
open PySem PyProof.Rows
def Zkr(c:s.TypeIs (.ref r) "set") (h:Q false s):wpAny (model prog w) A (Builtin.List.listLengthHint (.ref r)) Q E s:=by
 unfold Builtin.List.listLengthHint;erw[Sa (wpAny_specialOf c F.slot_set_len.lookup ?_)];generalize f:("set.__len__" : String)=g
 wp_delta;rw[show splitId g=some ("set","__len__")from by subst f;lia]
 subst f;erw[Sa (wpAny_isInstance (T := "set") (b:=true) c (by rw[isSubtype_type];kernel_rfl) ?_)];erw[wpAny_ite_split (λz=>Os z ()) (λ_=>wpAny_ite_split (λ_=>?_) (λz=>Os () z))];exact Sa (wpAny_typeOf c (Sb h))
def TZ(ks:OE)(c:OB):Prop:=∃ns,IntsAre c ns/\ns.Nodup/\(∀k,k∈ns↔k∈ks)/\c.length<=ks.length
def Xo.ty(x:Xo prog w s.heap p ks):s.TypeIs (.ref p) "set" := let ⟨o,_,_,_,ho,hex,_⟩:=x;⟨o,ho,hex.1⟩
def Xo.lt{h:Heap}(x:Xo prog w h p ks):p<h.objs.size:=let ⟨_,_,_,_,ho,_⟩:=x;Se ho
def Zks{f:OB}{c:Array Value}(h:ItemsOf (λi v=>f[i]? = some v) c f.length):c.toList=f:=by
 erw[List.ext_getElem? λi=>?_];by_cases g:i<f.length;have ha:i<c.size:=by rwa[h.1]
 have:=h.2 i c[i] (Array.getElem?_eq_getElem ha);rw[Array.getElem?_toList,Array.getElem?_eq_getElem ha,this];have e:c.toList.length=f.length:=by rw[Array.length_toList,h.1]
 rw[List.getElem?_eq_none (l:=f) (),List.getElem?_eq_none (l:=c.toList) ()]
def Zkt{R:Result->Shared->Prop}{ks:OE}(hh:A.handled=none)(x:Xo prog w s.heap p ks)(J:ks.length<=1000)(B:S≠p)
  (M:s.heap.get? S=some {cls:=.type "list",data:=.seq #[] C})
  (hR:∀y d tk n c,(∀b o,b≠S->s.heap.get? b=some o->y.get? b=some o)->y.get? S=some {cls:=.type "list",dict:=none,data:=.seq n c,slots:=#[]}->TZ ks n.toList->R (.ok (.ret res)) {s with heap:=y,drawn:=d,toks:=tk}) :
  wpAny (model prog w) A.in1 (Builtin.List.listExtendWith (.ref S) (.ref p) res) (λfin g=>match fin with|.done f=>R (.ok f) g|.again u=>u.quiet=true/\codeAny (model prog w) A u R g) (λe g=>R (.error e) g) s:=by
 unfold Builtin.List.listExtendWith;erw[Sa (wpAny_typeOf (T := "set") x.ty ?_)];have e1:Builtin.List.listSameRef (.ref S) (.ref p)=false:=by simp[Builtin.List.listSameRef,B]
 have Q:(Value.type "set"==Value.type "list")=false:=by lia
 have e3:(Value.type "set"==Value.type "tuple")=false:=by lia
 simp only[e1,Q,e3,Bool.or_false,Bool.false_eq_true,if_false];erw[Sa (Zkq (A:=A.in1) hh x J λI fp St v d c0 ns W st keep Y H i1 i2 i3 D=>?_)];have G:=Se M;have L:S∉fp:=λz=>by
  rcases Y S z with e|e;exact B e;exact Os G (Og.mpr e)
 have e0:I≠S:=λz=>Os G (Og.mpr (by rwa[<-z]));have g1:=keep _ _ M;have fin:∀(h:Heap) (c:Nat) (tk:Nat),St 0 h->(∀b o,b≠S->s.heap.get? b=some o->h.get? b=some o)->h.get? S=some {cls:=.type "list",data:=.seq #[] c} ->
   codeAny (model prog w) A (.builtin "list.extend.loop" ⟨[.ref S,.ref I,res],[]⟩) R {s with heap:=h,drawn:=d,toks:=tk}:=λh c tk a0 k b0=>by
  erw[codeAny_extend_loopS W.toS (Sh (Sh D J) ()) S L res c0.length 0 _ #[] c rfl (Sk _) a0 b0 (ItemsOf.nil _) λg n u hm U d0=>?_];have e:=Zks d0;have es:g = {s with heap:=g.heap,drawn:=d,toks:=g.toks}:=by
   ext⟨a1,Z,a3,a4,a5⟩ g;have b1:Z=s.gens:=hm.gens;have P:a3=d:=hm.drawn;have X:a5=s.os:=hm.os;subst b1 P X;rfl
  rw[es];erw[hR g.heap d g.toks n u (λb o j q=>hm.heap b o (λz=>?_) (k b o j q)) U (by rw[e];exact⟨ns,i1,i2,i3,D⟩)];rcases SF.mp z with z|z;exact j z;exact Os (Se q) (Og.mpr (by rwa[SE.mp z]))
 erw[Sa (wpAny_holding (Zkr (s:={s with heap:=v,drawn:=d}) (x.keep (keep p)).ty ?_))];erw[wpAny_ite_split (λ_=>?_) (λ_=>Sb ⟨plainId_quiet F.plain_extend_loop _,fin _ C _ st (λb o _ e=>keep b o e) g1⟩)];erw[Sa (wpAny_rule (Sa ?_))];show wpAny _ _ (updateSeq S (λi=>i.push .none) >>= λ_=>updateSeq S (λi=>i.pop)) _ _ _;erw[Sa (wpAny_updateSeq (s:={s with heap:=v,drawn:=d}) g1 rfl ?_)];have g2:=Heap.get?_update_self (Obj.mapSeq (λi=>i.push Value.none)) g1 rfl;erw[wpAny_updateSeq (s:={s with heap:=v.update S (Obj.mapSeq (λi=>i.push Value.none)),drawn:=d}) (hz:=by seq_fits) g2 rfl ?_];have g3:=Heap.get?_update_self (Obj.mapSeq (λi=>i.pop)) g2 rfl;erw[Sb ⟨plainId_quiet F.plain_extend_loop _,fin _ _ _ (W.frame 0 _ _ st λb j o e=>?_) (λb o j e=>?_) g3⟩];have O:b≠S:=λz=>L (z ▸ j);exact(Heap.get?_update_other _ _ (Ne.symm O)).trans ((Heap.get?_update_other _ _ (Ne.symm O)).trans e);exact(Heap.get?_update_other _ _ (Ne.symm j)).trans ((Heap.get?_update_other _ _ (Ne.symm j)).trans (keep b o e))
def Zku{R:List Value->Shared->Prop}{ks:OE}(I:A.handled=none)(u:Xo prog w s.heap p ks)(G:ks.length<=1000)
  (h:∀h' d tk n,(∀b o,s.heap.get? b=some o->h'.get? b=some o)->TZ ks n->R n {s with heap:=h',drawn:=d,toks:=tk}):wpAny (model prog w) A (collect (.ref p)) R E s:=by
 have lt:=u.lt;unfold collect;erw[Sa (wpAny_runValue (codeAny_builtin F.entry_proto_collect ?_))];rw[Around.under_plainId F.plain_proto_collect _];show wpAny _ A.in1 (newList [] >>= λD=>again (.builtin "list.__iadd__" ⟨[D,.ref p],[]⟩)) _ _ s;erw[Sa (wpAny_newObj_type (Sb ⟨plainId_quiet F.plain_list_iadd _,codeAny_builtin F.entry_list_iadd ?_⟩))];rw[Around.under_plainId F.plain_list_iadd _];have B:(s.heap.push {cls:=.type "list",data:=.seq ([]:OB).toArray}).get? s.heap.objs.size=some {cls:=.type "list",data:=.seq #[]}:=Sd _ rfl;have H:=Zkt (A:=A) (s:={s with heap:=s.heap.push {cls:=.type "list",data:=.seq ([]:OB).toArray} }) (res:=.ref s.heap.objs.size)
  (R:=λ(q:Result) (j:Shared)=>∃(h':Heap) (d:Drawn) (tk:Nat) (i:Array Value) (c:Nat),q=.ok (.ret (.ref s.heap.objs.size))/\j = {s with heap:=h',drawn:=d,toks:=tk}/\(∀b o,s.heap.get? b=some o->h'.get? b=some o) /\
   h'.get? s.heap.objs.size=some {cls:=.type "list",dict:=none,data:=.seq i c,slots:=#[]}/\TZ ks i.toList) I (u.keep λo e=>Sc _ e) G (Nat.ne_of_gt lt) B
  (λh' d tk i c k g m=>⟨h',d,tk,i,c,rfl,rfl,λb o e=>k b o (Sf (Se e)) (Sc _ e),g,m⟩)
 show wpAny _ A.in1 (Builtin.List.listExtendWith (.ref s.heap.objs.size) (.ref p) (.ref s.heap.objs.size)) _ _ _;erw[Oq H (λC j x=>?_) λe j x=>?_];cases C with
 |done f =>
  ext⟨h',d,tk,i,c,e,rfl,k,g,m⟩ x;cases e;exact Sa (m:=load s.heap.objs.size) (Op g (Sb (h h' d tk _ k m)))
 |again J =>
  erw[⟨x.1,codeAny_mono x.2 λq s2 y=>?_⟩];ext⟨h',d,tk,i,c,rfl,rfl,k,g,m⟩ y;exact Sa (m:=load s.heap.objs.size) (Op g (Sb (h h' d tk _ k m)))
 ext⟨_,_,_,_,_,v,_⟩ x;cases v
def IntsAre.len{vs:OB}{ns:OE}(h:IntsAre vs ns):vs.length=ns.length:=by
 induction h with
 |nil=>rfl
 |cons n t _ c=>rw[Sy,Sy,c]
def Zkv{zs:OE}(h:zs.Pairwise (·<=·))(n:zs.Nodup):zs.Pairwise (· < ·) :=
 (List.Pairwise.and h n).imp λ⟨a,b⟩=>by lia
def Zkw{ks:OE}(J:A.handled=none)(y:Xo prog w s.heap p ks)(I:ks.length<64)
  (h:∀(D:Addr) (h':Heap) (d:Drawn) (tk:Nat) (out:Array Value) (e:Nat) (zs:OE),(∀b o,s.heap.get? b=some o->h'.get? b=some o)->s.heap.get? D=none->h'.get? D=some (seqObj "list" out e)->IntsAre out.toList zs->zs.Pairwise (· < ·) ->
   (∀k,k∈zs↔k∈ks)->zs.length<=ks.length->Q (.ref D) {s with heap:=h',drawn:=d,toks:=tk}):wpAny (model prog w) A (call (.builtin "sorted") [.ref p]) Q E s:=by
 erw[Calls.call_function_entry kind_sorted plain_sorted entry_sorted (args_sorted1 _) ?_];unfold Builtin.«sorted»;erw[Sa (m:=checkCount "sorted" 1 1 _) (Sb (Sa (Zku (A:=A.in1) J y () λf d tk i keep mt=>?_)))];ext⟨ns,u,C,M,x⟩ mt;have G:i.length<=sizeLine:=Sh (Sh x (Nat.le_of_lt I)) ();erw[Sa (wpAny_newList ?_ G)];have g:(f.push (seqObj "list" i.toArray 0)).get? f.objs.size=some (seqObj "list" i.toArray 0):=Sd _ R;have no:s.heap.get? f.objs.size=none:=by
  cases c:s.heap.get? f.objs.size with
  |none=>rfl
  |some o=>exact Os (Se (keep _ _ c)) (Sl _)
 erw[Sa (wpAny_holding (wpAny_call_entry (s:={s with heap:=f.push (seqObj "list" i.toArray 0),drawn:=d,toks:=tk}) slot_list_sort ⟨_,g,R⟩ entry_list_sort (list_sort_tree g u () λout v O j B=>⟨_,R,?_⟩) (args_list_sort _)))];obtain⟨e,H⟩:=sortedHeap_at (out:=out) g;have L:v.Nodup:=j.nodup_iff.mpr C;erw[Sb ⟨_,R,h f.objs.size _ d tk out e v (λb o q=>?_) no H O (Zkv B L) (λk=>(j.mem_iff).trans (M k)) (by have:=j.length_eq;have:=IntsAre.len u;lia)⟩];have n:=Se (keep b o q);exact(sortedHeap_old (Sf n) (by rw[Heap.size_push];exact Sn n)).trans (Sc _ (keep b o q))
def Uk(w:World):Obj:={cls:=.type "set",dict:=none,data:=.set #[] 0 (.fresh 0 0 (!w.params.followText "set-order"))}
def Zkx{h:Heap}(g:h.get? a=some (Uk w)):Xo prog w h a [] :=
 ⟨_,#[],0,_,g,⟨R,R,R⟩,R,(λe c=>by cases c),rfl,⟨rfl,λ_=>List.Pairwise.nil⟩,(λz=>by show(!w.params.followText "set-order")=true;rw[z];rfl),List.Pairwise.nil,(λk=>by simp),Sk _⟩
def Zky(x:Value)(h:Q (.ref s.heap.objs.size) {s with heap:=s.heap.push (Uk w)}) :
  codeAny (model prog w) A (.call (.builtin "set.__new__") ⟨[.type "set",x],[]⟩) (wants Q E) s:=by
 erw[codeAny_of_tree (show wpAny _ A.in1 (do checkBuiltinCall "set.__new__" ⟨[.type "set",x],[]⟩;again (.builtin "set.__new__" ⟨[.type "set",x],[]⟩)) _ _ s from ?_)];erw[Sa (wpAny_of_eq (PySem.F.newCall_set_1 x) (Sb ⟨plainId_quiet PySem.F.plain_set_new _,codeAny_builtin PySem.F.entry_set_new ?_⟩))];rw[Around.under_plainId PySem.F.plain_set_new _];unfold Builtin.«set.__new__» Builtin.Frozenset.newClass;have f:=sub_set_self;ext⟨c,g,d,tk,os⟩ s;dsimp only;wp_walk;erw[wpAny_askSetting (Sb ?_)];dsimp only;simp only[newObj];exact Sa (wpAny_alloc (Sb (Sb h)))
def Zkz{items:Array Value}{ns:OE}(hh:A.handled=none)(hl:s.heap.IsList l items)(hi:IntsAre items.toList ns)(G:items.size+1<scanBound)
  (h:∀(h':Heap) (tk:Nat),Xo prog w h' s.heap.objs.size ((List.range items.size).map λi=>ns.getD i 0)->(∀b o,s.heap.get? b=some o->h'.get? b=some o)->Q (.ref s.heap.objs.size) {s with heap:=h',toks:=tk}) :
  wpAny (model prog w) A (call (.type "set") [.ref l]) Q E s:=by
 ext⟨d0,tl,mr⟩ PySem.F.called_set.mro;have md:=PySem.F.called_set.made;have sb:=PySem.F.called_set.sub;erw[wpAny_call (codeAny_of_tree (show wpAny _ _ (callAny (.type "set") _) _ _ _ from Sb ⟨Code.quiet_builtin _ (),codeAny_builtin PySem.F.entry_type_call ?_⟩))];rw[Around.under_plain (weight_type_call_type "set" [.ref l] []) rfl];have k1:=PySem.F.called_set.notType;have k2:=PySem.F.called_set.canCreate;have k3:=PySem.F.typeCall_set_1 (.ref l)
 repeat (any_goals (first|assumption|wp_step))
 erw[codeAny_mono (Zky (.ref l) (E:=E) (Q:=λob D=>ob=.ref s.heap.objs.size/\D = {s with heap:=s.heap.push (Uk w)}) ⟨rfl,rfl⟩) λr D g=>?_];cases r with
 |error e=>exact g
 |ok fl =>
  cases fl with
  |ret ob =>
   ext⟨rfl,rfl⟩ g;have B:(s.heap.push (Uk w)).get? s.heap.objs.size=some (Uk w):=Sd _ rfl;have hT:Shared.TypeIs {s with heap:=s.heap.push (Uk w)} (.ref s.heap.objs.size) "set" := ⟨_,B,rfl⟩;have u1:=PySem.F.called_set.init.lookup;have u2:=PySem.F.called_set.init.bind (.ref s.heap.objs.size)
   repeat (any_goals (first|assumption|wp_step))
   refine codeAny_mono (codeAny_call_builtin (R:=wants (λr s2=>r=.none/\∃h' tk,s2 = {s with heap:=h',toks:=tk}/\Xo prog w h' s.heap.objs.size ((List.range items.size).map λi=>ns.getD i 0)/\(∀b o,s.heap.get? b=some o->h'.get? b=some o)) E)
    PySem.F.called_set.init.plain PySem.F.entry_set_init (check_set_init_1 hT ?_)) λM s2 f=>?_
   obtain⟨X,j,u,v,y⟩:=id hl;ext⟨oc,U,e0,os⟩ X;simp only at u y;subst u;subst y;have I:(s.heap.push (Uk w)).get? l=some {cls:=.type "list",dict:=U,data:=.seq items v,slots:=os}:=Sc _ j;have v2:=PySem.F.sub_list_set;have v3:=PySem.F.sub_list_frozenset;have v4:(Value.type "list"==Value.type "dict")=false:=by lia
   have C:(s.heap.push (Uk w)).IsList l items:=⟨_,I,rfl,v,rfl⟩;have fd:(Uk w).data=.set #[] 0 (.fresh 0 0 (!w.params.followText "set-order")):=rfl;unfold Builtin.«set.__init__» noKeywords Builtin.Frozenset.updateFrom;generalize S:pyIter=PI
   wp_walk
   subst S;erw[wpAny_pyIter_list C (Sa (wpAny_runValue ?_))];have x:l<s.heap.objs.size:=Se j;have Z:A.in1.in1.in1.handled=none:=by simp[hh]
   have J:l≠(s.heap.push (Uk w)).objs.size:=by rw[Heap.size_push];exact Sf (Sn x)
   have O:s.heap.objs.size∉[(s.heap.push (Uk w)).objs.size,l]:=by
    rw[Heap.size_push];intro z;simp only[SF,List.not_mem_nil,or_false]at z;rcases z with z|z;exact Os z (Sf (Sm _));exact Os z (Nat.ne_of_gt x)
   refine Zkc ((Walks.list Z _ l J items).toS) s.heap.objs.size O (λi=>ns.getD i 0) (λi a0 T=>IntsAre.int_at hi i a0 (by rwa[Array.getElem?_toList])) G (items.size - 0) 0 _ () (Sk _)
    ⟨⟨_,Sd _ rfl,rfl,rfl⟩,(C.push _)⟩ (Zkx (Sc _ B)) λY hm c=>?_
   ext⟨h',H,d',b0,P⟩ Y;have eg:H=s.gens:=hm.gens;have ed:d'=s.drawn:=hm.drawn;have eo:P=s.os:=hm.os;subst eg ed eo;erw[Sb (Sb ⟨rfl,h',b0,rfl,c,λb o e=>?_⟩)];have n:=Se e;erw[hm.heap b o (λz=>?_) (Sc _ (Sc _ e))];simp only[SF,List.not_mem_nil,or_false]at z;rcases z with z|z;exact Os z (Sf n);rw[Heap.size_push]at z;exact Os z (Sf (Sn n));cases M with
   |error e=>exact f
   |ok L =>
    cases L with
    |ret r =>
     ext⟨rfl,h',tk,rfl,c,c0⟩ f
     repeat (any_goals (first|assumption|wp_step))
     exact h _ _ c c0
    |_=>exact f.elim
  |_=>exact g.elim
def Za.drawnTo(I:Za X pins c H s)(d:Drawn):Za X pins c H {s with drawn:=d}:=⟨I.ok,I.os,I.bare,I.base,I.loc,I.cell,I.free,I.freeC,I.pin,I.hok,I.len⟩
def Mn(P:Program)(w:World)(a:Addr)(ks:OE):HO:=.ext λh=>Xo P w h a ks
def ZkA(x:Xo P w h a ks):Yo P w H h a (Mn P w a ks) :=
 ⟨x,let ⟨o,_,_,_,ho,_⟩:=id x;⟨o,ho⟩,λc f y k=>Xo.keep (h:=c) y k⟩
theorem Zb8:∀{ns:OE} {us:OB},ZC (ns.map V.int) us->IntsAre us ns
 |[],_,.nil=>.nil
 |n::r,_,.cons (b:=u) h t=>by
  ext⟨tk,rfl⟩ h;exact .cons n tk (Zb8 t)
theorem Zb9:∀{ns:OE} {us:OB},IntsAre us ns->ZC (ns.map V.int) us
 |_,_,.nil=>.nil
 |_,_,.cons n t h=>.cons ⟨t,R⟩ (Zb9 h)
def Zca(x:X.calm=true):YN X (.type "set") (λxs H Q=>∃(p:Addr) (ns:OE),xs=[.ref p]/\Zd X.K H p (ns.map V.int)/\ns.length<=1000/\∀l,H l=none->Q (.ref l) (upd H l (Mn X.prog X.w l ns))):=by
 intro pins s E H xs J Q I r h;ext⟨p,ns,rfl,v,M,q⟩ h;obtain⟨u,rfl,y⟩:=Y4 r;cases y;obtain⟨c,C,n,G⟩:=I.list v;have g:IntsAre c ns:=Zb8 C;have j:c.length=ns.length:=IntsAre.len g;erw[Zkz (I.ok.hd x) n.isList (by simpa using g) (by rw[SN,j];show _<4096;lia) λL tk f keep=>?_];have e:(List.range c.toArray.size).map (λi=>ns.getD i 0)=ns:=by
  rw[SN,j];erw[List.ext_getElem (by simp) λi D B=>?_];simp[List.getD_eq_getElem?_getD,B]
 rw[e]at f;exact⟨.ref _,_,I.laid (t':=tk) keep (Sg _) (ZkA f),R,q _ (I.hok.fresh (Sg _))⟩
def Zcb(i:X.calm=true):YN X (.builtin "sorted") (λxs H Q=>∃(p:Addr) (ks:OE),xs=[.ref p]/\H p=some (Mn X.prog X.w p ks)/\ks.length<64 /\
  ∀(l:Addr) (zs:OE),H l=none->zs.Pairwise (· < ·)->(∀k,k∈zs↔k∈ks)->zs.length<=ks.length->Q (.ref l) (upd H l (.lst (zs.map V.int)))):=by
 intro pins s G H xs J Q I r h;ext⟨p,ks,rfl,C,c,q⟩ h;obtain⟨u,rfl,v⟩:=Y4 r;cases v;have B:Xo X.prog X.w s.heap p ks:=(I.hok p _ C).1;erw[Zkw (I.ok.hd i) B c λD n d tk y e zs keep no g j E mem f=>?_];have x:(zs.map V.int).length<=sizeLine:=by
  rw[Sv];exact Sh (Sh f (Nat.le_of_lt c)) ()
 have new:Yo X.prog X.w (upd H D (.lst (zs.map V.int))) n D (.lst (zs.map V.int)):=⟨x,y.toList,e,Zb9 j,by rwa[Array.toArray_toList]⟩;exact⟨.ref D,_,(I.laidN (t':=tk) keep no new).drawnTo d,R,q D zs (I.hasNo no) E mem f⟩
def T0{pos' Z:Pos}{iter : Expr}{E:OD}{cl:Oy}
  (j0:X.N.Nodup) (d0:X.N[i0]? = some f) (r0:Q2 X.env.scope f) (hc:X.calm=true) (hi:PI X n iter T) (h0:closureFor scope X.env=pure cl) (g0:∀y∈scope.names,y.2≠.cell) (n0:scope.kind=.function)
  (p0:∀y∈scope.names,y.2=.local->scope.names.lookup y.1=some .local) (m0:Vm X scope cl N fr) (e0:VO X cl)
  (f0:((relabel scope X.env).names.all λp=>!(p.2==.cell || p.2==.free) || (cl.lookup p.1).isSome)=true)
  (hg:∀C i j ex pins,PG (XS X N scope cl C i j ex pins) n g) (ht:∀C i j ex pins,Mg (XS X N scope cl C i j ex pins) E tt) (he:∀C i j ex pins,PE (XS X N scope cl C i j ex pins) u U)
  (t0:swapsWith (.ListComp u [⟨n,iter,E,0⟩] scope L) (some (.Name f pos')) Z.line X.env=pure true:=by rfl) (c0:X.fn f=true\/X.env.scope.names.lookup f=some .local:=by first|exact .inl rfl|exact .inr rfl)
  (hs:∀v,foldedSetIterable iter X.env v=pure v:=by intro _;rfl):PS X (.Assign [.Name f pos'] (.ListComp u [⟨n,iter,E,0⟩] scope L) Z) (NJ (TC fr T g tt U) (YV i0)):=by
 intro pins s P z0 D0 o0 k0;rw[exec_Assign_Name_used _ _ _ _ t0];erw[Sa (wpAny_standAt (Sa ?_))];show wpAny _ _ (do let _ <-comprehension (.ListComp u [⟨n,iter,E,0⟩] scope L) scope X.env _ (newList []) false (eval iter X.env) (some (assign (.Name f pos') X.env))) _ _ s;erw[Sa (Zy (ZbA (Qf:=λ_ s'=>SP X pins D0 .next s') hc hi h0 g0 n0 p0 m0 e0 f0 hg ht he hs o0 k0 λD s2 H H2 H5 fp l0 a0 nD y0 J B f2 h b0 va w0 qn S I=>?_) λ_ s' hq=>Sb (Sb hq))];ext⟨m6,u0,_⟩ h.loc;have O:=(h.pin (D,{cls:=.type "list",dict:=none,data:=.seq (List.toArray a0) nD}) (SH _ (SE.mpr R))).1;have I8:Za X pins P H5 H:=B.call' (s':=H) h.os h.base h.hok h.bare λb G=>let ⟨_,k1,_,k3,k4,k5⟩:=f2 b G;⟨k3,k1,k4,k5⟩;have I9:Za X pins P (upd H5 D (.lst l0)) H:=I8.trackS b0 O R I (λp M=>Sf (S p M)) ⟨w0,a0,nD,va,O⟩;have Y:X.env.locals<D+1:=by
  have:=B.lt;rw[J]at this;exact Sn this
 have Q:∀x c,X.env.cells.lookup x=some c->c<D+1:=λx c e=>by
  obtain⟨v,q⟩:=B.cell x c e;have lt:=q.lt;rw[J]at lt;exact Sn lt
 erw[wpAny_assign_Name (ZaF (v:=.ref D) I9 j0 d0 r0 R (λs7 v0 I=>?_) c0)];ext⟨aa,sb,ha⟩ I;have nC:D+1≠aa:=by
  rcases ha with rfl|ha;exact Nat.ne_of_gt Y;exact Nat.ne_of_gt (Q _ _ ha)
 erw[⟨m6,u0.sameBut sb nC,λh8 q0=>⟨_,_,v0.turned (h':=h8) (t':=s7.toks) (λb o G e=>q0.extBut b o G e) ?_ (Nat.ne_of_gt Y) (.inr ?_) (λx c e=>Sf (Q x c e)) (λp M=>Sf (Sn (S p M))),qn D b0⟩⟩];rw[Zj (Nat.ne_of_gt (Sm D))];exact h.free;have:=B.sz;rw[J]at this;exact Nat.le_succ_of_le this
end L2
namespace K1
open PySem L2
structure Pc(l:OG)(lo hi:Nat):Prop where
 one:1<=l.length
 few:l.length<=12
 up:l.Pairwise (· < ·)
 all:∀x∈l,lo<=x/\x<=hi
def RT.good:RT->Prop
 |.always=>True
 |.week b=>b<=127
 |.span a b r=>a<=b/\b<=9999/\r.good
 |.each n c=>1<=n/\n<=28/\Pc c 0 (n - 1)
 |.either r s|.both r s=>r.good/\s.good
 |.but ds r=>Pc ds 0 9999/\r.good
structure WN(K:Ox)(C:Addr):Prop where
 ha:W.findIn K (.ref C) "__class__"=some (some (.builtin "object.__class__"))
 hn:W.specialIn K (.builtin "object.__class__") "__get__"=some (some (.builtin "getset_descriptor.__get__"))
 tk:W.takesIn K (.builtin "object.__class__")=some true
 hm:W.mroIn K C (.type "object")=some true
def WN.ty(o:WN K C)(c:YI K C)(e:H a=some (.ins C f fs)):Wb K H (.ref a) (.ref C):=.ins e c o.ha o.hn o.tk o.hm
def Y1(c H:Hp):Hp:=λa=>match H a with
 |none=>c a
 |some _=>none
def Ul(n:H a=none)(e:c a=some o):Y1 c H a=some o:=by
 unfold Y1;rwa[n]
def G0(e:Y1 c H a=some o):H a=none/\c a=some o:=by
 unfold Y1 at e;cases h:H a with
 |none=>rw[h]at e;exact⟨R,e⟩
 |some u=>rw[h]at e;cases e
def WE(c H:Hp):Zf (Y1 c H) c:=λ_ _ e=>(G0 e).2
def Mo(i:Zf c H)(h:∀a o,H a=none->g a=some o->f a=some o):Zf (Y1 g H) (Y1 f c):=λa o e =>
 Ul (i.free (G0 e).1) (h a o (G0 e).1 (G0 e).2)
def Xp(n:c x=none)(s:Zf c H)(o:HO):Zf c (upd H x o):=λb u e=>by
 rw[Zj (ZR e n)];exact s _ _ e
def WF{b:Nat}{lo hi:Int}(h1:lo<=b)(c:(b:Int)<=hi):Xy (.int b) lo hi=true:=SQ ⟨h1,c⟩
inductive Y7(tp:Addr)(H:Hp):V->RT->Prop
 |always {a:Addr} (h:H a=some (.tup [.str (OK "always")])):Y7 tp H (.ref a) .always
 |week {a:Addr} {b:Nat} (h:H a=some (.tup [.str (OK "week"),.int b])):Y7 tp H (.ref a) (.week b)
 |span {a:Addr} {x y:Nat} {v:V} {r:RT} (h:H a=some (.tup [.str (OK "span"),.int x,.int y,v])) (hv:Y7 tp H v r):Y7 tp H (.ref a) (.span x y r)
 |each {a l:Addr} {n:Nat} {ss:OG} (h:H a=some (.tup [.str (OK "each"),.int n,.ref l])) (hl:H l=some (.lst (ZN ss))) (ne:l≠tp):Y7 tp H (.ref a) (.each n ss)
 |either {a:Addr} {v u:V} {r s:RT} (h:H a=some (.tup [.str (OK "either"),v,u])) (hv:Y7 tp H v r) (hu:Y7 tp H u s):Y7 tp H (.ref a) (.either r s)
 |both {a:Addr} {v u:V} {r s:RT} (h:H a=some (.tup [.str (OK "both"),v,u])) (hv:Y7 tp H v r) (hu:Y7 tp H u s):Y7 tp H (.ref a) (.both r s)
 |but {a l:Addr} {ds:OG} {v:V} {r:RT} (h:H a=some (.tup [.str (OK "but"),.ref l,v])) (hl:H l=some (.lst (ZN ds))) (ne:l≠tp) (hv:Y7 tp H v r):Y7 tp H (.ref a) (.but ds r)
def Y7.same(s:Zf H j)(h:Y7 tp H v r):Y7 tp j v r:=by
 induction h with
 |always h=>exact .always (s _ _ h)
 |week h=>exact .week (s _ _ h)
 |span h _ g=>exact .span (s _ _ h) g
 |each h i ne=>exact .each (s _ _ h) (s _ _ i) ne
 |either h _ _ c f=>exact .either (s _ _ h) c f
 |both h _ _ c f=>exact .both (s _ _ h) c f
 |but h i ne _ g=>exact .but (s _ _ h) (s _ _ i) ne g
end K1
namespace L2
open PySem PySem.Spec PyProof.Rows
def Xq:WB (Yf X.prog X.w) X E0:=λ_ _ _ _ _ _ _ h=>by
 ext⟨_,_,_,_,_,_,_,_,_,_,_,z⟩ h;exact z.elim
end L2
namespace K1
open PySem L2
end K1
namespace L2
open PySem PySem.Spec PyProof.Rows
theorem Zcc:∀{ts:OC} {us:OB},ZC (ts.map V.str) us->∃l:List (Str×Tok),us=strValues l/\l.map (·.1)=ts
 |[],_,.nil=>⟨[],R,R⟩
 |t::r,_,.cons (b:=u) h q=>by
  ext⟨tk,rfl⟩ h;obtain⟨l,rfl,e⟩:=Zcc q;exact⟨(t,tk)::l,R,by rw[SM,e]⟩
theorem Zcd(n:Nat):∀(ts:OC) (k:Nat),ts.foldl (λa x=>a+x.length+n) k=k+(ts.map λx=>x.length+n).sum
 |[],k=>by simp
 |t::r,k=>by
  rw[List.foldl_cons,Zcd n r,SM,List.sum_cons];lia
theorem Zce(n:Nat):∀ts:List Str,(ts.map λx=>x.length+n).sum=(ts.map (·.length)).sum+ts.length*n
 |[]=>by simp
 |y::r=>by
  have c:=Zce n r;simp only[SM,List.sum_cons,Sy,Nat.succ_mul];lia
inductive ZkB(K:Ox)(x:V)(xs:List V)(H:Hp)(Q:VK):Prop|mk (z:Str) (p:Addr) (ts:OC) (_:x=.str z) (_:xs=[.ref p]) (_:Zd K H p (ts.map V.str)) (_:(ts.map λx=>x.length+z.length).sum<=sizeLine) (_:Q (.str (Str.join z ts)) H)
def QF:Q9 X "str.join" (ZkB X.K):=by
 intro pins s n H x M v Y Q I E r h;ext⟨z,p,f,rfl,rfl,C,T,q⟩ h;ext⟨t,rfl⟩ E;obtain⟨a0,rfl,e⟩:=Y4 r;cases e;obtain⟨Z,G,B,_⟩:=I.list C;obtain⟨l,rfl,c⟩:=Zcc G;have L:Builtin.Str.tooLong ((l.map (·.1)).toArray.foldl (· + ·.length+z.length) 0)=false:=by
  rw[c,List.foldl_toArray,Zcd];unfold Builtin.Str.tooLong;exact SR ()
 erw[call_meets F.slot_str_join (typeIs_str _ _ _) F.entry_str_join (F.args_str_join_2 _ _) (meets_str_join_list z t p l L) ⟨B.isList,?_⟩];have g:Builtin.Str.glued z (l.map (·.1))=Str.join z f:=by rw[c];exact StrLaws.glued_eq_join z f
 have u:(Str.join z f).length<=sizeLine:=by
  have O:=StrLaws.join_length_le z f;have U:=Zce z.length f;lia
 have many:∀(m:Made),m=.str (Builtin.Str.glued z (l.map (·.1)))->m.post (λv D=>wants (EP X pins n Q) X.xe (.ok (.ret v)) D) s:=λm e=>by
  subst e;erw[⟨by rwa[g],?_⟩];rw[g];exact⟨.str _,H,I.tok _,⟨_,R⟩,q⟩
 match l,c,many with
 |[],c,many=>exact many _ R
 |[y],c,many =>
  ext⟨i,J⟩ y;have j:Str.join z f=i:=by rw[<-c];rfl
  rw[j]at q;exact⟨.str i,H,I,⟨J,R⟩,q⟩
 |y::P::S,c,many=>exact many _ R
end L2
namespace K1
open PySem L2
def YB(n:Nat):Str:=OK (toString (n:Int))
def WZ(c:OG):Str:=Str.join (OK ",") (c.map YB)
def Um(b d:Nat):Str:=if (RT.week b).runs d then OK "1" else OK "0"
def QG(b:Nat):Str:=Str.join (OK "") ((List.range 7).map (Um b))
def RT.words:RT->List Str
 |.always=>[OK "always"]
 |.week b=>[OK "week",QG b]
 |.span a b r=>[OK "span",YB a,YB b]++r.words
 |.each n c=>[OK "each",YB n,WZ c]
 |.either r s=>[OK "either"]++r.words++s.words
 |.both r s=>[OK "both"]++r.words++s.words
 |.but ds r=>[OK "but",WZ ds]++r.words
theorem RT.words_len:∀r:RT,r.words.length<=3*r.weight
 |.always|.week _|.each _ _=>by simp[RT.words,RT.weight]
 |.span a b r=>by
  have:=RT.words_len r;simp only[RT.words,RT.weight,Su,Sy,List.length_nil];lia
 |.but ds r=>by
  have:=RT.words_len r;simp only[RT.words,RT.weight,Su,Sy,List.length_nil];lia
 |.either r s|.both r s=>by
  have f:=RT.words_len r;have c:=RT.words_len s;simp only[RT.words,RT.weight,Su,Sy,List.length_nil];lia
def G1{n:Nat}(h:n<10000):((n:Int).natAbs).log2<1920:=by
 rw[Int.natAbs_natCast];by_cases c:n=0;subst c;lia;exact Nat.lt_trans ((Nat.log2_lt c (k:=14)).mpr (Nat.lt_trans h ())) ()
def Mp{n:Nat}(h:n<10000):(YB n).length<=4:=by
 have:=(TM h _ R).2.1;rw[UW]at this;exact this
def Pd{z:Str}{ts:OC}{m:Nat}(hz:z.length<=1)(hm:ts.length<=20)(h:∀x∈ts,x.length<=10):(ts.map λx=>x.length+z.length).sum<=sizeLine:=by
 have g:∀l:List Str,(∀x∈l,x.length<=10)->(l.map λx=>x.length+z.length).sum<=11*l.length:=by
  intro l;induction l with
  |nil=>intro _;simp
  |cons y r f =>
   intro h;have i:=h y SD;have j:=f λx c=>h x (SB _ c);simp only[SM,List.sum_cons,Sy];lia
 have:=g ts h;exact Sh (show _<=1000 by lia) ()
end K1
namespace L2
open PySem PySem.Spec PyProof.Rows
def ZkC:YN X (.type "range") (λxs H Q=>∃j:Nat,xs=[.int (j:Nat)]/\j<=1000/\∀p,H p=none->Q (.ref p) (upd H p (.rng 0 (j:Nat)))):=by
 intro pins s f H xs g Q I r h;ext⟨j,rfl,c,q⟩ h;obtain⟨u,rfl,t,rfl⟩:=Y4 r;erw[call_range_1 ⟨.ref s.heap.objs.size,_,I.laid (t':=s.toks+1+1) (λ_ _ e=>Sc _ e) (Sg _) (show Yo X.prog X.w _ _ _ (.rng 0 (j:Nat))from⟨_,_,_,Sd _ R⟩),R,q _ (I.hok.fresh (Sg _))⟩]
theorem Zcf:∀(c:OB) (k:Nat),(∀(j:Nat) (v:Value),c[j]? = some v->∃t,v=Value.int ((k+j:Nat):Int) t)->ZC ((List.range' k c.length).map λn=>V.int ((n:Nat):Int)) c
 |[],_,_=>.nil
 |u::r,k,h=>by
  rw[Sy,List.range'_succ,SM];obtain⟨t,e⟩:=h 0 u R;exact .cons ⟨t,e⟩ (Zcf r (k+1) λj v f=>by
   obtain⟨t,e⟩:=h (j+1) v f;exact⟨t,by rw[e];congr 1;lia⟩)
def ZkD(n:Nat)(c:OB)(f:c.length=n)(h:∀(j:Nat) (v:Value),c[j]? = some v->∃t,v=Value.int (0+(j:Int)*1) t):ZC (K1.ZN (List.range n)) c:=by
 have:=Zcf c 0 λj v g=>by
  obtain⟨t,e⟩:=h j v g;exact⟨t,by rw[e];congr 1;lia⟩
 rw[f]at this;rw[List.range_eq_range'];exact this
def ZkE(g:X.calm=true):YN X (.type "list") (λxs H Q=>∃(p:Addr) (j:Nat),xs=[.ref p]/\H p=some (.rng 0 (j:Nat))/\j<=1000/\∀l,H l=none->Q (.ref l) (upd H l (.lst (K1.ZN (List.range j))))):=by
 intro pins s J H xs L Q I r h;ext⟨p,j,rfl,D,B,q⟩ h;obtain⟨u,rfl,C⟩:=Y4 r;cases C;obtain⟨t,u,v,x⟩:=(show Yo X.prog X.w H s.heap p (.rng 0 (j:Nat))from I.hok p _ D);erw[call_list_range (n:=j) (I.ok.hd g) x (small_one () () () ()) (by rw[rangeSize_one];split<;>omega) () λy tk f E kp e c=>?_];erw[⟨.ref s.heap.objs.size,_,I.laid (t':=tk) kp (Sg _) (show Yo X.prog X.w _ y _ (.lst (K1.ZN (List.range j)))from⟨?_,f.toList,E,?_,by simpa using e⟩),R,q _ (I.hok.fresh (Sg _))⟩];show(List.map _ _).length<=sizeLine;rw[Sv,List.length_range];exact Sh B ();exact ZkD j f.toList (by simpa using c.1) (λi w G=>c.2 i w (by simpa using G))
inductive ZkF(t u:TS)(D:WL)(σ:St)(H:Hp):Prop|mk (J:St->Hp->Prop) (_:t {D with nx:=J} σ H) (_:∀σ' H',J σ' H'->u D σ' H')
def Qm{st:Stmt}{rest:List Stmt}{t u:TS}(h1:PS X st t)(n:XO X rest u):XO X (st::rest) (ZkF t u):=by
 intro pins s i H D I h;ext⟨J,h,x⟩ h;erw[wpAny_execs_cons (Zy (h1 pins s i H {D with nx:=J} I h) λf c q=>?_)];cases f with
 |next =>
  ext⟨g,y,j,q⟩ q;exact n pins c g y D j (x _ _ q)
 |ret v=>exact q
 |brk=>exact q
 |cont=>exact q
section
variable{σ:St}{h':Heap}
def Za.turnedL{t':Nat}{fp:OH}(I:Za X pins σ H s)(k:∀b o,b∉fp->s.heap.get? b=some o->h'.get? b=some o)(g:∀b∈fp,Vy X pins H b):Za X pins σ H {s with heap:=h',toks:=t'}:=by
 have i:∀b u,H b=some u->b∉fp:=λb u e z=>by rw[(g b z).1]at e;cases e
 refine I.step (g':=s.gens) (d':=s.drawn) (ch:=fp) (λb h=>⟨(g b h).2.2.2.1,(g b h).2.1,(g b h).2.2.2.2.1,(g b h).2.2.2.2.2⟩) (λb o _ _ f e _=>k b o f e) (λb o _ _ f e _=>⟨o.slots,k b o f e⟩) (λ_ _ _ _ n=>n)
  (λb o f e=>⟨o,k b o f e⟩) (λ_ _ e=>e) (λ_ _ _ e=>e) (λb B e=>⟨#[],by rw[e];simp⟩) (λm hm=>?_) (λb u e=>?_) I.bare
 ext⟨o,y,x,j,r⟩ hm;exact⟨o,y,x,k _ o (λz=>(g _ z).2.1 R) j,r⟩;erw[(I.hok b u e).stay (λc v f q=>k c v ?_ q) (λ_ q=>q) λ_ _ q=>q];rcases f with z|z;rw[z];exact i b u e;exact i c _ z
def Za.paired{t':Nat}{fp:OH}{x y:V}{u v:Value}(I:Za X pins σ H s)(h:∀b∈fp,Vy X pins H b)(j:∀b∈fp,∃o,s.heap.get? b=some o)
  (k:∀b o,b∉fp->s.heap.get? b=some o->h'.get? b=some o) (C:h'.get? s.heap.objs.size=some {cls:=.type "tuple",data:=.seq #[u,v]}) (B:ZQ x u) (n:ZQ y v) :
  Za X pins σ (upd H s.heap.objs.size (.tup [x,y])) {s with heap:=h',toks:=t'}/\∀b∈fp,upd H s.heap.objs.size (.tup [x,y]) b=none:=by
 have D:Za X pins σ (upd H s.heap.objs.size (.tup [x,y])) {s with heap:=s.heap.push {cls:=.type "tuple",data:=.seq #[u,v]},toks:=t'} :=
  I.laid (λb ob q=>Sc _ q) (Sg _) ⟨show 2<=sizeLine by lia,[u,v],.cons B (.cons n .nil),IsTup.new _ _⟩
 have ne:∀b∈fp,b≠s.heap.objs.size:=λb c e=>by
  obtain⟨o,q⟩:=j b c;exact Os (Se q) (by rw[e];exact Sl _)
 have g:∀b∈fp,upd H s.heap.objs.size (.tup [x,y]) b=none:=λb c=>by rw[Zj (ne b c)];exact(h b c).1
 erw[⟨Za.turnedL (s:={s with heap:=s.heap.push {cls:=.type "tuple",data:=.seq #[u,v]},toks:=t'}) (t':=t') (fp:=fp) D (λb o c e=>?_) (λb c=>⟨g b c,(h b c).2⟩),g⟩];have f:(s.heap.push {cls:=.type "tuple",data:=.seq #[u,v]}).get? b=some o:=e;by_cases i:b=s.heap.objs.size;subst i;rw[Sd _ R]at f;cases f;exact C;rw[Heap.get?_push_ne _ _ _ i]at f;exact k b o c f
end
def Mq(K:Ox)(l:Addr):It :=
 ⟨λi H=>∃c x,Zd K H l c/\c[i]? = some x,λi H v f=>∃p x,H p=none/\(∀c,Zd K H l c->c[i]? = some x)/\v=.ref p/\f=upd H p (.tup [.int i,x]),λi H=>∃c,Zd K H l c/\c.length<=i⟩
def ZkG{es:OD}{k:Nat}{e0:Pos}(l e it:Addr)(U:e≠it):UK P w K (.Tuple es k e0) (Mq K l) [e,it] e (λi h=>(∃g,IsEnum h e it i g)/\h.IsListIter it l i) where
 mem:=by simp
 obj:=λi h st b f=>by
  ext⟨⟨g,c⟩,o,B,G,hd⟩ st;have J:b=e\/b=it:=by simpa using f
  rcases J with rfl|rfl;exact⟨_,c,λf0 z=>by cases z⟩;exact⟨o,B,λf0 z=>by rw[hd]at z;cases z⟩
 keep:=λi h h' st Q=>⟨let ⟨g,c⟩:=st.1;⟨g,Q e (by simp) _ c⟩,st.2.at λo q=>Q it (by simp) o q⟩
 item:=by
  intro j0 M O v G i pins s σ i0 c0 I C st E;subst M O v;ext⟨X,x,n,H⟩ E;obtain⟨g0,L,p,hz⟩:=I.list n;obtain⟨u,hu,ru⟩:=L.get H;ext⟨⟨g,c⟩,j⟩ st;have d0:=j;erw[wpAny_pyNext_enum_item c j p.isList (x:=u) (by simpa using hu) U λY B a0 hT m0 hk=>⟨_,R,?_⟩];erw[wpAny_letOwnedTupleGo_enum (s:={s with heap:=Y,toks:=s.toks+1}) B λS b0 D=>?_];have Z:e<s.heap.objs.size:=Se c;have l0:it<s.heap.objs.size:=by ext⟨_,q,_⟩ j;exact Se q
  have h0:S.get? s.heap.objs.size=some {cls:=.type "tuple",data:=.seq #[.int i s.toks,u]}:=(D.2 _ (Nat.ne_of_gt Z)).trans hT;obtain⟨I2,n2⟩:=I.paired (t':=s.toks+1) (fp:=[e,it]) (x:=.int i) (y:=x) (h':=S) C (λb f=>by
   have J:b=e\/b=it:=by simpa using f
   rcases J with rfl|rfl;exact⟨_,c⟩;ext⟨o,q,_⟩ d0;exact⟨o,q⟩) (λb o f q=>by
   have T:b≠e:=λz=>f (by simp[z]);have k0:b≠it:=λz=>f (by simp[z]);exact(D.2 b T).trans (hk b o T k0 q)) h0 ⟨s.toks,R⟩ ru
  erw[⟨.ref s.heap.objs.size,_,I2,R,⟨_,x,I.hok.fresh (Sg _),λys hy=>by rwa[I.list_inj hy n],R,R⟩,⟨⟨_,by simpa using b0⟩,a0.at λo q=>(D.2 it U.symm).trans q⟩,n2⟩]
 done:=by
  intro j0 M O v G i pins s σ i0 c0 I C st E;subst M O v;ext⟨X,n,H⟩ E;obtain⟨g0,L,p,hz⟩:=I.list n;ext⟨⟨g,c⟩,j⟩ st;have hl:=L.length;exact wpAny_pyNext_enum_end (I.ok.hd G) c j p.isList (by simp;lia) λh' eb=>⟨R,I.turnedL (t':=s.toks) (fp:=[e,it]) (λb o f q=>eb b o (λz=>f (by simp[z])) q) C⟩
 self:=λ_ _ _ _ _ st h=>by
  ext⟨⟨g,c⟩,_⟩ st;exact wpAny_pyIter_enum c h
inductive ZkH(K:Ox)(R:It->Hp->Prop)(vs:List V)(H1:Hp):Prop|mk a (_:vs=[.ref a]) (_:(∃xs,Zd K H1 a xs)) (_:R (Mq K a) H1)
def ZkI(K:Ox)(g:TA):TI:=λh H f=>g h H λc i=>ZkH K f c i
def Zcg{C:OD}{k:Nat}{tp:Pos}{a:Expr}{i:TA}{p j:Pos}(D:Gl X "enumerate") (hm:X.mg "enumerate"=none) (ha:PA X [a] i) (B:starEach [a] X.env=[(false,eval a X.env)]:=by rfl):PI X (.Tuple C k tp) (.Call (.Name "enumerate" p) [a] [] j) (ZkI X.K i):=by
 intro pins s v H T I h;erw[Call_ (VH I D hm boot_enumerate (PyProof.Rows.callWith_type1 (Zy (ha j pins s v H _ I h) λZ c ⟨S,J,f,r1,L⟩=>?_) B R))];ext⟨l,e,⟨Q,y⟩,q⟩ L;subst e;cases r1 with
 |cons r P =>
  cases P;cases r;obtain⟨a0,rv,x,U⟩:=f.list y;erw[call_enumerate_list x.isList λM g O Y G=>?_];erw[wpAny_pyIter_enum (s:={c with heap:=M}) g ?_];erw[⟨c.heap.objs.size+1,[c.heap.objs.size+1,c.heap.objs.size],_,_,J,R,f.kept (t':=c.toks) G,ZkG l _ _ (Nat.succ_ne_self _),⟨⟨_,g⟩,O⟩,λb u=>?_,q⟩];have E:b=c.heap.objs.size+1\/b=c.heap.objs.size:=by simpa using u
  have n:c.heap.objs.size<=b:=by rcases E with rfl|rfl;exact Nat.le_succ _;exact Sg _
  exact f.fpOk n (f.hok.fresh n)
def Zch{a:Addr}{xs:List V}{g:TG}{B:TS}{D:WL}{c:St}(f:Nat->St->Hp->Prop)(I:f 0 c H)(M:∀i c H,i<=xs.length->f i c H->Zd K H a xs)
  (L:∀i x p c H,xs[i]? = some x->H p=none->f i c H->g (.ref p) c (upd H p (.tup [.int i,x])) λj u=>B {D with nx:=f (i+1),ct:=f (i+1),bk:=D.nx} j u) (hd:∀c H,f xs.length c H->D.nx c H) :
  ∃W:Nat->Nat->St->Hp->Prop,(∃m,W 0 m c H)/\∀i m c H,W i m c H ->
   ((Mq K a).stop i H/\D.nx c H)\/((Mq K a).go i H/\∃N:St->Hp->Prop,(∀n h,N n h->∃E,E<m/\W (i+1) E n h)/\∀x h,(Mq K a).yld i H x h->g x c h λj u=>B {D with nx:=N,ct:=N,bk:=D.nx} j u):=by
 erw[⟨λi m c H=>m=xs.length - i/\i<=xs.length/\f i c H,⟨xs.length,by simp,Sk _,I⟩,?_⟩];rintro i m c H ⟨rfl,O,p⟩;have q:=M i c H O p;by_cases C:i<xs.length;erw[.inr ⟨⟨xs,xs[i],q,by simp[C]⟩,f (i+1),λn h J=>⟨xs.length - (i+1),(),R,C,J⟩,λv h y=>?_⟩];ext⟨r,x,G,y,rfl,rfl⟩ y;exact L i x r c _ (y xs q) G p;have e:i=xs.length:=by lia
 subst e;exact .inl ⟨⟨xs,q,Sg _⟩,hd c H p⟩
section
variable{κ:Type}[DecidableEq κ]
def YC(c:List (κ×V))(k:κ):Option V:=(c.find? λf=>decide (f.1=k)).map (·.2)
def Xd(f:List (κ×V))(k:κ)(v:V):List (κ×V) :=
 if (f.any λc=>decide (c.1=k))=true then f.map (λc=>if c.1=k then (c.1,v)else c)else f++[(k,v)]
def Pe{p:κ×V}(e:p.1=k):YC (p::r) k=some p.2:=by simp[YC,List.find?_cons,e]
def T1{p:κ×V}(e:¬ p.1=k):YC (p::r) k=YC r k:=by simp[YC,List.find?_cons,e]
theorem T7(k:κ):∀c:List (κ×V),(c.any λf=>decide (f.1=k))=(YC c k).isSome
 |[]=>rfl
 |p::r=>by
  rw[List.any_cons];by_cases e:p.1=k;simp only[Pe e,SQ e,Bool.true_or,Option.isSome_some];rw[T1 e,SR e,Bool.false_or];exact T7 k r
def T9(c:List (κ×V))(k:κ)(v:V):(Xd c k v).length<=c.length+1:=by
 unfold Xd;split;rw[Sv];lia;rw[Su,Sy,List.length_nil];lia
def QH{c:List (κ×V)}{k:κ}(v:V)(h:YC c k=none):Xd c k v=c++[(k,v)]:=by
 unfold Xd;rw[T7,h];exact SU ()
def WK.isSome_eq{o:Option V}{u:Option Value}(r:WK o u):o.isSome=u.isSome:=by
 cases o with
 |none=>cases u with
  |none=>rfl
  |some _=>exact(show False from r).elim
 |some _=>cases u with
  |none=>exact(show False from r).elim
  |some _=>rfl
def KV.val(r:KV i vs)(k:κ):WK (YC i k) (valueAt vs k):=by
 unfold KV at r;induction r with
 |nil=>exact True.intro
 |@cons p q u f h t j =>
  ext⟨g,n⟩ h;by_cases e:p.1=k;have c:q.1=k:=g.symm.trans e;have b:valueAt (q::f) k=some q.2:=by simp[valueAt,List.find?_cons,c]
  rwa[Pe e,b];have c:¬ q.1=k:=λz=>e (g.trans z);have b:valueAt (q::f) k=valueAt f k:=by simp[valueAt,List.find?_cons,c]
  rwa[T1 e,b]
def KV.any{f:List (κ×V)}{vs:List (κ×Value)}(r:KV f vs)(k:κ):(f.any λc=>decide (c.1=k))=vs.any λc=>decide (c.1=k):=by
 unfold KV at r;induction r with
 |nil=>rfl
 |cons h t g=>rw[List.any_cons,List.any_cons,g,h.1]
def KV.repl{g:List (κ×V)}{vs:List (κ×Value)}(r:KV g vs)(k:κ)(i:ZQ y u) :
  KV (g.map λc=>if c.1=k then (c.1,y)else c) (vs.map λc=>if c.1=k then (c.1,u)else c):=by
 unfold KV at r ⊢;induction r with
 |nil=>exact .nil
 |@cons p q v x h t j =>
  rw[SM,SM];erw[.cons ?_ j];ext⟨f,n⟩ h;by_cases e:p.1=k;rw[SV e,SV (f.symm.trans e)];exact⟨f,i⟩;rw[SU e,SU (λz=>e (f.trans z))];exact⟨f,n⟩
def KV.put(r:KV c vs)(k:κ)(f:ZQ y u):KV (Xd c k y) (stored vs k u):=by
 unfold Xd stored;rw[r.any k];by_cases e:(vs.any λg=>decide (g.1=k))=true;rw[SV e,SV e];exact r.repl k f;rw[SU e,SU e];exact Paired.snoc r ⟨R,f⟩
def KV.length{c:List (κ×V)}{vs:List (κ×Value)}(r:KV c vs):c.length=vs.length:=Paired.length r
end
def Mr(r:ZQ (kV k) u):(XN P w).is k u=true:=by
 cases k with
 |inl i=>obtain⟨t,e⟩:=(show ∃t,u=Value.int i t from r);subst e;exact ZhJ P w i t
 |inr x=>obtain⟨t,e⟩:=(show ∃t,u=Value.str x t from r);subst e;exact ZhK P w x t
theorem Zci:∀{ks:List ZF} {us:OB},ZC (ks.map kV) us->ItemsAre (XN P w) ks us
 |[],_,r=>by rw[List.map_nil]at r;cases r;exact .nil
 |k::ks,_,r=>by
  rw[SM]at r;cases r with
  |cons h t=>exact .cons (Mr h) (Zci t)
abbrev KT(H:Hp):List (List ZF×V)->List (List ZF×Addr×Value)->Prop:=Paired λp q=>p.1=q.1/\H q.2.1=some (.tup (p.1.map kV))/\ZQ p.2 q.2.2
def KT.val(r:KT H i xs)(k:List ZF):WK (YC i k) ((atKey xs k).map (·.2)):=by
 induction r with
 |nil=>exact True.intro
 |@cons p q u f h t j =>
  ext⟨g,_,n⟩ h;by_cases e:p.1=k;have c:q.1=k:=g.symm.trans e;have b:atKey (q::f) k=some q.2:=by simp[atKey,List.find?_cons,c]
  rwa[Pe e,b];have c:¬ q.1=k:=λz=>e (g.trans z);have b:atKey (q::f) k=atKey f k:=by simp[atKey,List.find?_cons,c]
  rwa[T1 e,b]
def KT.repl{g:List (List ZF×V)}{xs:List (List ZF×Addr×Value)}(r:KT H g xs)(k:List ZF)(j:ZQ y u) :
  KT H (g.map λf=>if f.1=k then (f.1,y)else f) (xs.map (putAt k u)):=by
 induction r with
 |nil=>exact .nil
 |@cons p q x B h t n =>
  rw[SM,SM];erw[.cons ?_ n];ext⟨c,i,v⟩ h;unfold putAt;by_cases e:p.1=k;rw[SV e,SV (c.symm.trans e)];exact⟨c,i,j⟩;rw[SU e,SU (λz=>e (c.trans z))];exact⟨c,i,v⟩
def KT.put(r:KT H c xs)(k:List ZF)(h:H b=some (.tup (k.map kV)))(f:ZQ y u) :
  KT H (Xd c k y) (storedH xs k b u):=by
 have e:(c.any λg=>decide (g.1=k))=(atKey xs k).isSome:=by
  rw[T7,(r.val k).isSome_eq,Option.isSome_map]
 unfold Xd storedH;rw[e];by_cases q:(atKey xs k).isSome=true;rw[SV q,SV q];exact r.repl k f;rw[SU q,SU q];exact Paired.snoc r ⟨R,h,f⟩
def KT.keeps(r:KT H c xs)(h:∀b f,H b=some (.tup f)->g b=some (.tup f)):KT g c xs :=
 Paired.mapP r λ_ _ z=>⟨z.1,h _ _ z.2.1,z.2.2⟩
section
variable{h:Heap}{a:Addr}
def Zcj(ok:Yp P w H h)(e:Rd H a u):Yo P w H h a u:=e.ok ok
def Ms{c:List (ZF×V)}(ok:Yp P w H h)(e:Rd H a (.dK c)):c.length<=sizeLine/\(a==sysModules)=false/\∃vs,KV c vs/\h.DictOf (XN P w) a vs :=
 show Yo P w H h a (.dK c)from Zcj ok e
def Zck{c:List (ZF×V)}(ok:Yp P w H h)(e:H a=some (.dK c)):c.length<=sizeLine/\(a==sysModules)=false/\∃vs,KV c vs/\h.DictOf (XN P w) a vs:=Ms ok (.inl e)
def Pf{ks:List ZF}(ok:Yp P w H h)(e:H a=some (.tup (ks.map kV))):(tupleKind (XN P w)).is h ks a:=by
 obtain⟨_,f,r,o,c,i,n,g⟩:=(show Yo P w H h a (.tup (ks.map kV))from ok a _ e);exact⟨o,f.toArray,n,c,i,g,by simpa using Zci r⟩
def Pg{f:List (List ZF×V)}(ok:Yp P w H h)(e:Rd H a (.dT f)):f.length<=sizeLine/\(a==sysModules)=false /\
  ∃xs,KT H f xs/\h.DictOfH (tupleKind (XN P w)) a xs:=by
 obtain⟨z,y,xs,r,o,D,B,i,C,v,n,j⟩:=(show Yo P w H h a (.dT f)from Zcj ok e);erw[⟨z,y,xs,r,o,D,B,i,C,v,n,λx c=>?_,j⟩];have all:∀{l:List (List ZF×V)} {m:List (List ZF×Addr×Value)},KT H l m->∀x∈m,(tupleKind (XN P w)).is h x.1 x.2.1:=by
  intro l m q;induction q with
  |nil=>intro x c;exact nomatch c
  |@cons p q E G g t u =>
   intro x c;rcases SF.mp c with e|c;subst e;exact Pf ok (by rw[<-g.1];exact g.2.1);exact u x c
 exact all r x c
def ZkJ{c:List (List ZF×V)}(ok:Yp P w H h)(e:H a=some (.dT c)):c.length<=sizeLine/\(a==sysModules)=false /\
  ∃xs,KT H c xs/\h.DictOfH (tupleKind (XN P w)) a xs:=Pg ok (.inl e)
end
def Wh(H:Hp)(a:Addr)(y:V)(r:Option V):Prop :=
 (∃c k,Rd H a (.dK c)/\y=kV k/\r=YC c k)\/∃c k b,Rd H a (.dT c)/\y=.ref b/\H b=some (.tup (k.map kV))/\r=YC c k
def VR(H:Hp)(a:Addr)(y v:V)(f:Hp):Prop :=
 (∃c k,H a=some (.dK c)/\y=kV k/\c.length<sizeLine/\f=upd H a (.dK (Xd c k v))) \/
 ∃c k b,H a=some (.dT c)/\y=.ref b/\H b=some (.tup (k.map kV))/\c.length<sizeLine/\f=upd H a (.dT (Xd c k v))
theorem Wh.k{a:Addr}{c:List (ZF×V)}{k:ZF}(e:H a=some (.dK c)):Wh H a (kV k) (YC c k):=.inl ⟨c,k,.inl e,R,R⟩
theorem VR.k{a:Addr}{c:List (ZF×V)}{k:ZF}{v:V}(e:H a=some (.dK c))(f:c.length<sizeLine):VR H a (kV k) v (upd H a (.dK (Xd c k v))):=.inl ⟨c,k,e,R,f,R⟩
section
variable{σ:St}{a:Addr}{y v:V}{u r:Value}{o:Option V}
def Za.big(I:Za X pins σ H s):sysModules<s.heap.objs.size:=by
 have h:mainGlobals<s.heap.objs.size:=(I.mod.glob.keeps I.bk).lt;exact Nat.lt_trans () h
def ZkK(J:A.units+1<cLine)(I:Za X pins σ H s)(g:Wh H a y (some v))(x:ZQ y u)(h:∀c s',Za X pins σ H s'->ZQ v c->Q c s') :
  wpAny (model X.prog X.w) A (getItem (.ref a) u) Q E s:=by
 rcases g with⟨D,k,e,f,l⟩|⟨D,k,b,e,f,L,l⟩;subst f;obtain⟨z,hd,C,rel,j⟩:=Ms I.hok e;obtain⟨c,n,i⟩:=WK.some_of (v:=v) (o:=valueAt C k) (by rw[l];exact rel.val k);exact wpAny_getItem_of (Mr x) j.mapOf n (h c _ (I.tok _) i);subst f;cases (show u=Value.ref b from x);obtain⟨z,hd,B,rel,j⟩:=Pg I.hok e;obtain⟨c,n,i⟩:=WK.some_of (v:=v) (o:=(atKey B k).map (·.2)) (by rw[l];exact rel.val k);obtain⟨p,M,G⟩:=Of.mp n;erw[wpAny_getItem_heap (tupleKind_room_in1 J) (Pf I.hok L) j M ?_];rw[G];exact h c _ (I.tok _) i
def ZkL(n:A.units+1<cLine)(I:Za X pins σ H s)(g:Wh H a y o)(i:ZQ y u)(h:∀s',Za X pins σ H s'->Q (.bool o.isSome) s') :
  wpAny (model X.prog X.w) A (compareOp .In u (.ref a)) Q E s:=by
 rcases g with⟨j,k,e,c,l⟩|⟨j,k,b,e,c,x,l⟩;subst c;obtain⟨z,hd,C,rel,f⟩:=Ms I.hok e;erw[wpAny_in_of (Mr i) hd f.mapOf ?_];rw[<-(rel.val k).isSome_eq,<-l];exact h _ (I.tok _);subst c;cases (show u=Value.ref b from i);obtain⟨z,hd,B,rel,f⟩:=Pg I.hok e;erw[wpAny_in_heap (tupleKind_room_in1 n) (Pf I.hok x) hd f ?_];have q:=(rel.val k).isSome_eq;rw[Option.isSome_map]at q;rw[<-q,<-l];exact h _ (I.tok _)
def zA{h':Heap}(I:Za X pins σ H s)(g:LN (H a))(h:Heap.SameBut a s.heap h')(c:∃q,h'.get? a=some q)(new:Yo X.prog X.w (upd H a ob) h' a ob) :
  Za X pins σ (upd H a ob) {s with heap:=h',toks:=t'} :=
 I.write (x:=a) (e:=a) g (.inl R) (λb q f z=>(h.2 b f).trans z) c new
def Zcl{h':Heap}{c:List (ZF×V)}(z:c.length<=sizeLine)(hd:(a==sysModules)=false)(rel:KV c vs)(dd:h'.DictOf (XN P w) a vs) :
  Yo P w f h' a (.dK c):=⟨z,hd,vs,rel,dd⟩
def ZkM(Y:A.units+1<cLine)(I:Za X pins σ H s)(g:VR H a y v J)(L:ZQ y u)(M:ZQ v r)(h:∀s',Za X pins σ J s'->Q Unit.unit s') :
  wpAny (model X.prog X.w) A (setItem (.ref a) u r) Q E s:=by
 rcases g with⟨c,k,e,j,l,D⟩|⟨c,k,b,e,j,G,l,D⟩;subst j D;obtain⟨z,hd,U,rel,B⟩:=Zck I.hok e;have n:U.length<=sizeLine:=by rwa[<-rel.length]
 have C:(Xd c k v).length<=sizeLine:=by have:=T9 c k v;lia
 erw[wpAny_setItem_pairs (hsz:=n) (Mr L) B λO f x=>h _ ?_];have he:∃q,O.get? a=some q:=let ⟨q,_,_,i,_⟩:=f;⟨q,i⟩;exact zA I (by rw[e];exact True.intro) x he (Zcl C hd (rel.put k M) f);subst j D;cases (show u=Value.ref b from L);obtain⟨z,hd,S,rel,B⟩:=ZkJ I.hok e;have n:S.length<=sizeLine:=by rwa[<-Paired.length rel]
 have C:(Xd c k v).length<=sizeLine:=by have:=T9 c k v;lia
 erw[wpAny_setItem_heap (hsz:=n) (tupleKind_room_in1 Y) (Pf I.hok G) B λO f x=>h _ ?_];ext⟨q,Z,ep,i,h2,h3,T,_,h5⟩ f;erw[zA I (by rw[e];exact True.intro) x ⟨q,i⟩ ⟨C,hd,_,(rel.put k G M).keeps λa0 ys P=>?_,q,Z,ep,i,h2,h3,T,h5⟩];rwa[Zj (XZ P e (λz=>nomatch z))]
end
section
variable{σ:St}{a:Addr}{kvs:List (ZF×V)}{k:ZF}{u:Value}
def ZkN(I:Za X pins σ H s)(e:Rd H a (.dK kvs))(h:∀t s',Za X pins σ H s'->Q (.int kvs.length t) s'):wpAny (model X.prog X.w) A (call (.builtin "len") [.ref a]) Q E s:=by
 obtain⟨z,hd,f,rel,c⟩:=Ms I.hok e;erw[call_len_dict hd c (by rw[<-rel.length];rw[sizeLine_eq]at z;lia) ?_];rw[<-rel.length];exact h _ _ (I.tok _)
end
def zB(i:Expr):Prop:=∀c f,subscripted i false c f=operate [c,f] (getItem c f)
def ZkO{env:Env}{value slice:Expr}{v:Pos}{T id:String}{Q:Ou}
  (B:typeLookup (.type T) "__getitem__"=pure (some (.builtin id))) (y:zB slice)
  (h:wpAny (model prog w) A (eval value env) (λo g=>wpAny (model prog w) A (eval slice env) (λi c=>c.TypeIs o T/\wpAny (model prog w) A (getItem o i) Q E c) E g) E s) :
  wpAny (model prog w) A (eval (.Subscript value slice v) env) Q E s:=by
 erw[Subscript_ (Oq h (λo g u=>Oq u (λi c f=>?_) λ_ _ x=>x) λ_ _ x=>x)];ext⟨n,f⟩ f;unfold subscriptTail;erw[Sa ?_];rw[getitemInPython_of_ne n.not_modules];erw[Sa (wpAny_specialOf n B ?_)];have fin:wpAny (model prog w) A (subscripted slice false o i) (λr j=>wpAny (model prog w) A (letTemporaryGo value o r >>= λ_=>pure r) Q E j) E c:=by
  rw[y o i];exact wpAny_operating (Oq f (λr j C=>Sa (wpAny_letTemporaryGo (Sb C))) λ_ _ x=>x)
 first
  |exact Sb (Sa fin)
  |exact Sa (Sb (Sa fin))
  |exact Sa fin
def ZkP(I:Za X pins h H s)(g:Wh H a y o):s.TypeIs (.ref a) "dict" := by
 rcases g with⟨f,k,e,_,_⟩|⟨f,k,b,e,_,_,_⟩;obtain⟨_,_,j,_,c⟩:=Ms I.hok e;exact c.typeIs;obtain⟨_,_,i,_,c⟩:=Pg I.hok e;exact c.typeIs
inductive ZkQ(Q:VK)(x:V)(y:V)(H2:Hp):Prop|mk a v (_:x=.ref a) (_:Wh H2 a y (some v)) (_:Q v H2)
def Zcm(f ty:TE):TE:=λc H Q=>f c H λx h=>ty c h λy g=>ZkQ Q x y g
inductive ZkR(Q:VK)(y:V)(x:V)(H2:Hp):Prop|mk a o (_:x=.ref a) (_:Wh H2 a y o) (_:Q (.bl o.isSome) H2)
def ZkS(ty f:TE):TE:=λc H Q=>ty c H λy h=>f c h λx g=>ZkR Q y x g
inductive ZkT(D:WL)(σ:St)(v:V)(x:V)(y:V)(H3:Hp):Prop|mk a H4 (_:x=.ref a) (_:VR H3 a y v H4) (_:D.nx σ H4)
def ZkU(h ty f:TE):TS:=λD c H=>f c H λv j=>h c j λx i=>ty c i λy g=>ZkT D c v x y g
section
variable{o i e value:Expr}{pos' tpos:Pos}{td ty tv:TE}
def ZkV(B:X.A.units+1<cLine)(n:PE X o td)(hi:PE X i ty)(D:zB i):PE X (.Subscript o i pos) (Zcm td ty):=by
 intro pins s c H Q I h;erw[ZkO PySem.F.slot_dict_getitem.lookup D (Zy (n pins s c H _ I h) λu S ⟨x,M,P,J,O⟩=>Zy (hi pins S c M _ P O) λY s2 ⟨y,L,f,G,a,v,ex,g,E⟩=>?_)];subst ex;obtain rfl:u=Value.ref a:=J;exact⟨ZkP f g,ZkK B f g G λT U j C=>⟨v,L,j,C,E⟩⟩
def Zcn(n:X.A.units+1<cLine)(hi:PE X i ty)(j:PE X o td):PC X .In i o (ZkS ty td):=by
 intro pins s c H Q I h;erw[Zy (hi pins s c H _ I h) λS O ⟨y,J,M,D,L⟩=>Zy (j pins O c J _ M L) λu s2 ⟨x,G,B,E,a,C,ex,g,v⟩=>?_];subst ex;obtain rfl:u=Value.ref a:=E;exact ZkL n B g D λP f=>⟨.bl C.isSome,G,f,R,v⟩
def QI(B:X.A.units+1<cLine)(v:PE X o td)(hi:PE X i ty)(D:PE X value tv)(C:swapsWith value (some (.Subscript o i pos')) pos.line X.env=pure false) :
  PS X (.Assign [.Subscript o i pos'] value pos) (ZkU td ty tv):=by
 intro pins s c H a0 I h;erw[wpAny_Assign_Subscript (Zy (D pins s c H _ I h) λr U ⟨b0,O,S,Q,P⟩=>Zy (v pins U c O _ S P) λu s2 ⟨x,M,G,L,E⟩=>Zy (hi pins s2 c M _ G E) λiv s3 ⟨y,Y,n,J,a,j,ex,g,T⟩=>?_) C];subst ex;obtain rfl:u=Value.ref a:=L;exact ZkM B n g J Q λZ f=>⟨c,j,f,T⟩
end
def ZkW(h:Heap)(c:sysModules<h.objs.size):Yo P w H (h.push {cls:=.type "dict",data:=.dict #[]}) h.objs.size (.dK []) :=
 ⟨Sk _,beq_eq_false_iff_ne.mpr (Ne.symm (Sf c)),[],.nil,Heap.DictOf.new h⟩
def zC:List (TE×TE)->St->Hp->(List (V×V)->Hp->Prop)->Prop
 |[],_,H,Q=>Q [] H
 |(tk,f)::r,c,H,Q=>tk c H λx j=>f c j λy i=>zC r c i λg h=>Q ((x,y)::g) h
abbrev VV:List (V×V)->List (Value×Value)->Prop:=Paired λp q=>ZQ p.1 q.1/\ZQ p.2 q.2
def Ph(X:Cx)(i:Pos)(keys:List (Option Expr))(values:OD)(h:List (TE×TE)):Prop :=
 ∀(pins:Ov) (s:Shared) (σ:St) (H:Hp) (Q:List (V×V)->Hp->Prop),Za X pins σ H s->zC h σ H Q ->
  wpAny (model X.prog X.w) X.A (evalPairs (pairTrees keys values X.env i)) (λg j=>∃c f,Za X pins σ f j/\VV c g/\Q c f) X.xe s
def ZkX:Ph X c [] [] []:=λpins s f H Q I h=>pairTrees_nil_walk ⟨[],H,I,.nil,h⟩
def Mt(E:PE X k tk)(B:PE X v g)(S:Ph X i ks vs f) :
  Ph X i (some k::ks) (v::vs) ((tk,g)::f):=λpins s c H Q I h =>
 pairTrees_cons_walk (Zy (E pins s c H _ I h) λa0 U ⟨x,M,P,J,O⟩=>Zy (B pins U c M _ P O) λZ s2 ⟨y,L,D,G,C⟩ =>
  Zy (S pins s2 c L _ D C) λws Y ⟨n,u,j,rel,T⟩=>⟨(x,y)::n,u,j,.cons ⟨J,G⟩ rel,T⟩)
def Mu(f more:List (ZF×V)):List (ZF×V):=more.foldl (λg c=>Xd g c.1 c.2) f
def KV.merge:∀{more:List (ZF×V)} {f:List (ZF×Value)} {c:List (ZF×V)} {vs:List (ZF×Value)},KV more f->KV c vs->KV (Mu c more) (merged vs f):=by
 intro more f c vs r;unfold KV at r;induction r generalizing c vs with
 |nil=>intro q;exact q
 |@cons p q j n h t g =>
  intro i;have e:KV (Xd c p.1 p.2) (stored vs q.1 q.2):=by
   have:=i.put p.1 h.2;rw[<-h.1];exact this
  exact g e
theorem Zco:∀(more c:List (ZF×V)),(Mu c more).length<=c.length+more.length
 |[],c=>by show c.length<=c.length+0;lia
 |p::r,c=>by
  have h1:=Zco r (Xd c p.1 p.2);have f:=T9 c p.1 p.2;show(Mu (Xd c p.1 p.2) r).length<=_;rw[Sy];lia
theorem Zcp{P:Program}{w:World}:∀{g:List (ZF×V)} {ws:List (Value×Value)},VV (g.map λi=>(kV i.1,i.2)) ws->∃f,Carries (XN P w) ws f/\KV g f
 |[],_,r=>by rw[List.map_nil]at r;cases r;exact⟨[],True.intro,.nil⟩
 |p::g,_,r=>by
  rw[SM]at r;cases r with
  |@cons a b u bs h t =>
   obtain⟨f,c,q⟩:=Zcp (P:=P) (w:=w) t;ext⟨n,j⟩ b;exact⟨(p.1,j)::f,⟨Mr h.1,R,c⟩,.cons ⟨R,h.2⟩ q⟩
def ZkY(h:List (TE×TE)):TE:=λj H Q=>∀p,H p=none->zC h j (upd H p (.dK [])) λi f=>f p=some (.dK [])/\∃c:List (ZF×V),i=c.map (λg=>(kV g.1,g.2))/\c.length<=15/\Q (.ref p) (upd f p (.dK (Mu [] c)))
def ZkZ{keys:List (Option Expr)}{values:OD}(h:Ph X n keys values i)(L:keys.all (·.isSome)=true)(Q:keys.length=values.length)(x:keys≠[])
  (u:keys.length<=15):PE X (.Dict keys values n) (ZkY i):=by
 intro pins s y b0 a0 I q;have hn:=I.hok.fresh (Sg s.heap.objs.size);have M:=I.laid (a:=s.heap.objs.size) (o:=.dK []) (h':=s.heap.push {cls:=.type "dict",data:=.dict #[]}) (t':=s.toks) (λ_ _ q=>Sc _ q) (Sg _) (ZkW s.heap I.big);erw[wpAny_Dict_walk (knd:=XN X.prog X.w) L Q x u (Zy (h pins _ y _ _ M (q _ hn)) λws s2 ⟨U,Z,j,rel,e,g,J,Y,E⟩=>?_)];subst J;obtain⟨S,c,B⟩:=Zcp (P:=X.prog) (w:=X.w) rel;obtain⟨z,hd,T,O,H⟩:=Zck j.hok e;cases O;erw[⟨S,c,H,λh' f D=>⟨.ref s.heap.objs.size,_,?_,R,E⟩⟩];have C:(Mu [] g).length<=sizeLine:=by
  have v:=Zco g [];rw[List.length_nil]at v;rw[sizeLine_eq];lia
 have G:∃q,h'.get? s.heap.objs.size=some q:=let ⟨q,_,_,hq,_⟩:=f;⟨q,hq⟩;exact zA j (by rw[e];exact True.intro) D G (Zcl C hd (B.merge .nil) f)
structure M1(X:Cx)(o:Expr)(m:Str)(apos:Pos)(e:Expr)(cpos:Pos):Prop where
 base:attributeBase o m X.env (eval o X.env)=eval o X.env
 few:((backTo cpos (starEach [e] X.env)).all (λx=>!x.1) && (backToKw cpos (keywordEach [] X.env)).all (λx=>x.1.isSome)
  && decide (([e]:OD).length+([]:List Keyword).length+(if ([]:List Keyword).isEmpty then 0 else 1)<30))=true
 line:(apos.endLine==cpos.line)=true
 trees:backTo cpos (starEach [e] X.env)=[(false,eval e X.env)]
structure M2(X:Cx)(o:Expr)(m:Str)(apos:Pos)(e f:Expr)(cpos:Pos):Prop where
 base:attributeBase o m X.env (eval o X.env)=eval o X.env
 few:((backTo cpos (starEach [e,f] X.env)).all (λx=>!x.1) && (backToKw cpos (keywordEach [] X.env)).all (λx=>x.1.isSome)
  && decide (([e,f]:OD).length+([]:List Keyword).length+(if ([]:List Keyword).isEmpty then 0 else 1)<30))=true
 line:(apos.endLine==cpos.line)=true
 trees:backTo cpos (starEach [e,f] X.env)=[(false,eval e X.env),(false,eval f X.env)]
def Zk0:YN X (.builtin "len") (λxs H Q=>∃a c,xs=[V.ref a]/\H a=some (.dK c)/\Q (.int c.length) H):=by
 intro pins s i H xs j Q I r h;ext⟨a,c,rfl,ha,q⟩ h;obtain⟨u,rfl,ru⟩:=Y4 r;cases ru;exact ZkN I (.inl ha) λt g f=>⟨.int c.length,H,f,⟨t,R⟩,q⟩
theorem Zcq:∀{c:List (ZF×V)} {vs:List (ZF×Value)} {acc:OB},KV c vs->acc.length=vs.length->(∀(j:Nat) (v:Value),acc[j]? = some v->∃(k:ZF) (x:Value),vs[j]? = some (k,x)/\(XN X.prog X.w).is k v=true)->ZC (c.map λB=>kV B.1) acc
 |_,_,[],.nil,_,_=>.nil
 |_,_,[],.cons _ _,e,_=>by cases e
 |_,_,_::_,.nil,e,_=>by cases e
 |(k0,_)::_,(k1,_)::_,u::us,.cons r t,e,h=>by
  ext⟨y,_⟩ r;obtain⟨k,x,g,f⟩:=h 0 u R;cases g;erw[.cons ?_ (Zcq t (Nat.succ.inj e) λj v q=>h (j+1) v q)];have n:k0=k1:=y;subst n;cases k0 with
  |inl i=>exact Value.isInt_shape f
  |inr z=>exact Value.isStrOf_shape f
def G2(B:X.calm=true):YN X (.type "list") (λxs H Q=>∃d f,xs=[.ref d]/\H d=some (.dK f)/\∀l,H l=none->Q (.ref l) (upd H l (.lst (f.map λc=>kV c.1)))):=by
 intro pins s M H xs P Q I r h;ext⟨d,f,rfl,hd,q⟩ h;obtain⟨u,rfl,E⟩:=Y4 r;cases E;obtain⟨L,x,n,c,C⟩:=I.hok d _ hd;ext⟨O,i⟩ C.dictAt;have hlen:n.length=f.length:=(Paired.length c).symm;erw[W.kdl_call (W.kdl_dict x) (I.ok.hd B) i () λG tk D J kp e g=>?_];ext⟨y⟩ D;erw[⟨.ref s.heap.objs.size,_,I.laid (t':=tk) kp (Sg _) (show Yo X.prog X.w _ G _ (.lst (f.map λc=>kV c.1))from⟨by rwa[Sv],y,J,Zcq (X:=X) c (by simpa using g.1) (λj v q=>g.2 j v (by simpa using q)),e⟩),R,q _ (I.hok.fresh (Sg _))⟩]
def Wi:YN X (.type "int") (λxs H Q=>∃b,xs=[.bl b]/\Q (.int (if b=true then 1 else 0)) H):=by
 intro pins s f H xs g Q I r h;ext⟨b,rfl,q⟩ h;obtain⟨u,rfl,c⟩:=Y4 r;cases c;erw[PySem.call_int_bool ⟨.int (if b=true then 1 else 0),H,I.tok _,⟨_,R⟩,q⟩]
theorem Zcr:∀{xs c:List V} {us vs:OB},ZC xs us->ZC c vs->ZC (xs++c) (us++vs)
 |_,_,_,_,.nil,r=>r
 |_,_,_,_,.cons r t,q=>.cons r (Zcr t q)
theorem zD:∀{xs:List V} {us:OB},ZC xs us->ZC xs.reverse us.reverse
 |_,_,.nil=>.nil
 |_,_,.cons r t=>by rw[List.reverse_cons,List.reverse_cons];exact Zcr (zD t) (.cons r .nil)
end L2
namespace K1
open PySem L2
def wo(H:Hp)(l:Addr):Hp:=λa=>if a=l then none else H a
def A3(h:a≠l):wo H l a=H a:=SU h
def Mv:Zf (wo H l) H:=λa o e=>by
 by_cases h:a=l;rw[wo,SV h]at e;cases e;rw[A3 h]at e;exact e
def zE(e:wo H l a=some o):a≠l/\H a=some o:=by
 by_cases h:a=l;rw[wo,SV h]at e;cases e;rw[A3 h]at e;exact⟨h,e⟩
def G3(s:Zf H c):Zf (wo H l) (wo c l):=λa o e=>by
 obtain⟨h,e⟩:=zE e;rw[A3 h];exact s _ _ e
def zF:wo (upd H l o) l=wo H l:=by
 funext a;by_cases h:a=l;rw[wo,wo,SV h,SV h];rw[A3 h,A3 h,Zj h]
def Xe(e:H a=some o)(h:a≠l):wo H l a=some o:=by rwa[A3 h]
def W0(s:Zf c H)(n:c l=none)(o:HO):Zf c (upd H l o):=λa u e=>by
 rw[Zj (ZR e n)];exact s _ _ e
inductive Al{β α:Type}(R:β->α->Prop):List β->List α->Prop where
 |nil:Al R [] []
 |cons {v:β} {x:α} {vs:List β} {xs:List α}:R v x->Al R vs xs->Al R (v::vs) (x::xs)
section
variable{β α:Type}{R R':β->α->Prop}
def Al.length{vs:List β}{xs:List α}(h:Al R vs xs):vs.length=xs.length:=by
 induction h with
 |nil=>rfl
 |cons _ _ c=>rw[Sy,Sy,c]
def Al.imp(h:Al R vs xs)(f:∀v x,R v x->R' v x):Al R' vs xs:=by
 induction h with
 |nil=>exact .nil
 |cons a _ c=>exact .cons (f _ _ a) c
def Al.app(h:Al R vs xs)(g:Al R us c):Al R (vs++us) (xs++c):=by
 induction h with
 |nil=>exact g
 |cons a _ f=>exact .cons a f
def Al.snoc(h:Al R vs xs)(g:R v x):Al R (vs++[v]) (xs++[x]):=h.app (.cons g .nil)
def Al.get(h:Al R vs xs):∀{i:Nat} {v:β},vs[i]? = some v->∃x,xs[i]? = some x/\R v x:=by
 induction h with
 |nil=>intro i v e;cases e
 |cons a _ c =>
  intro i v e;cases i with
  |zero=>cases e;exact⟨_,rfl,a⟩
  |succ i=>exact c e
end
end K1
namespace L2
open PySem PySem.Spec PyProof.Rows
section
variable{a b:Expr}{rest:OD}{ta tb:TE}
inductive Zk1(K:Ox)(tb:TE)(σ:St)(Q:VK)(x:V)(H1:Hp):Prop|mk c (_:ZaY K x H1 c) (_:if c=true then Q x H1 else tb σ H1 Q)
def Zk2(K:Ox)(ta tb:TE):TE:=λc H Q=>ta c H λx f=>Zk1 K tb c Q x f
def Zk3(ha:PE X a ta)(u:PE X (.BoolOp .Or (b::rest) pos) tb):PE X (.BoolOp .Or (a::b::rest) pos) (Zk2 X.K ta tb):=by
 intro pins s g H Q I h;erw[BoolOp_or (Zy (ha pins s g H _ I h) λv E ⟨x,n,D,r1,f⟩=>?_)];ext⟨c,tr,f⟩ f;erw[Zy (Ziw pins E g n x v (λi B=>i=c/\B=n) D r1 ⟨c,tr,R,R⟩) λi s2 ⟨G,j,C,y⟩=>?_];subst C y;cases i with
 |false=>exact u pins s2 g _ Q j f
 |true=>exact⟨x,_,j,r1,f⟩
end
section
variable{σ:St}
open Classical in
noncomputable def UX (h:Heap) (dx:PyData) (u:Value):Bool:=if ∃d as,Reads h u d as/\PyData.eqv d dx=true then true else false
def Zcs{d : PyData}(r:Reads h u d g)(c:d.canLay0=true):UX h f u=PyData.eqv d f:=by
 unfold UX;cases e:PyData.eqv d f with
 |true=>exact SV ⟨d,g,r,e⟩
 |false =>
  erw[SU ?_];rintro⟨v,j,n,i⟩;rw[<-SeqAt.Reads.unique d v u g j c r n,e]at i;exact Bool.noConfusion i
theorem zG:∀{us:OB} {ds:List PyData} {as:OH},ReadsAll h us ds as->PyData.canLayAll0 ds=true->us.any (UX h f)=ds.any λd=>PyData.eqv d f
 |_,_,_,.nil,_=>rfl
 |_,_,_,.cons r g,c=>by
  simp only[PyData.canLayAll0,Bool.and_eq_true]at c;rw[List.any_cons,List.any_cons,Zcs r c.1,zG g c.2]
theorem zH{f:PyData}(i:Reads s.heap v f bs)(h:f.canLay0=true)(g:A.units+f.depth<cLine):∀{us:OB} {ds:List PyData} {as:OH},ReadsAll s.heap us ds as->PyData.canLayAll0 ds=true->∀u∈us,SeqAt.EqAt A s u v (UX s.heap f u)
 |_,_,_,.nil,_=>λu g=>by cases g
 |_,_,_,.cons r n,c=>λj hm=>by
  simp only[PyData.canLayAll0,Bool.and_eq_true]at c;rcases SF.mp hm with rfl|hm;rw[Zcs r c.1];exact SeqAt.eqAt_reads _ _ A s _ _ _ _ r i c.1 h ();exact zH i h g n c.2 j hm
inductive Zct(K:Ox)(neg:Bool)(x:V)(y:V)(H:Hp)(Q:VK):Prop|mk p xs dx ds (_:y=.ref p) (_:(Zd K H p xs\/Zp K H p xs)) (_:DV K H x dx) (_:YG K H xs ds) (_:dx.depth<=60) (_:Q (.bl (if neg then !(ds.any λd=>PyData.eqv d dx)else ds.any λd=>PyData.eqv d dx)) H)
def Zk4(M:X.A.units+64<cLine):YH X (compareOp .In) (Zct X.K false):=by
 intro pins s σ H x y v u Q I J G h;ext⟨p,L,c,ds,rfl,i,B,f,hd,q⟩ h;cases G;obtain⟨O,r1⟩:=B.reads I J;have D:X.A.in1.units+c.depth<cLine:=by show X.A.units+1+_<_;lia
 rcases i with i|i;obtain⟨j,r,n,E⟩:=I.list i;obtain⟨bs,g⟩:=f.reads I r;erw[SeqAt.in_listAt (UX s.heap c) n.isList (λw C=>zH r1 B.can D g f.can w (by simpa using C)) ⟨.bl _,H,I,R,?_⟩];rwa[show j.toArray.any (UX s.heap c)=j.any (UX s.heap c) by simp,zG g f.can];obtain⟨j,r,n,E⟩:=I.tuple i;obtain⟨bs,g⟩:=f.reads I r;erw[SeqAt.in_tupleAt (UX s.heap c) n (λw C=>zH r1 B.can D g f.can w (by simpa using C)) ⟨.bl _,H,I,R,?_⟩];rwa[show j.toArray.any (UX s.heap c)=j.any (UX s.heap c) by simp,zG g f.can]
end
theorem Zcu:∀bs:List Bool,(List.range bs.length).any (λi=>bs.getD i false)=bs.any id
 |[]=>rfl
 |b::bs=>by
  rw[Sy,List.range_succ_eq_map,List.any_cons,List.any_map,List.any_cons];show(b || _)=(b || _);rw[<-Zcu bs];rfl
def Zk5(M:X.calm=true):YN X (.builtin "any") (λxs H Q=>∃(p:Addr) (bs:List Bool),xs=[.ref p]/\Zd X.K H p (bs.map V.bl)/\Q (.bl (bs.any id)) H):=by
 intro pins s Z H xs us Q I r h;ext⟨p,bs,rfl,G,q⟩ h;obtain⟨b0,rfl,S⟩:=Y4 r;cases S;obtain⟨f,B,j,hz⟩:=I.list G;have hlen:=B.length;obtain⟨o,a0,J,_⟩:=id j;have C:p≠s.heap.objs.size:=Sf (Se J);have tr:TruthOf X.prog X.w X.A.in1 (λi v=>f.toArray[i]? = some v) (λi=>bs.getD i false):=by
  intro i v s2 Y E2 L T;have n:f[i]? = some v:=by simpa using L
  have u:i<bs.length:=by
   have:=(Sr.mp n).1;rw[<-hlen,Sv]at this;exact this
  obtain⟨w,c,g⟩:=B.get (i:=i) (x:=.bl bs[i]) (by rw[Oa,Ss u];rfl);rw[n]at c;cases c;cases g;erw[wpAny_truthy_bool ?_];have P:bs.getD i false=bs[i]:=by rw[List.getD_eq_getElem?_getD,Ss u];rfl
  have y:Y (bs.getD i false) s2:=T;rw[P]at y;exact y
 erw[call_any_walk (wpAny_pyIter_list j.isList ?_)];erw[⟨s.heap.objs.size,[s.heap.objs.size,p],[s.heap.objs.size],f.toArray.size,_,_,_,R,Walks.list (A:=X.A.in1) (I.ok.hd M) _ _ C f.toArray,⟨⟨_,Sd _ R,R,R⟩,?_⟩,tr,λU tk O=>?_⟩];ext⟨o2,g,E⟩ j.isList;exact⟨o2,Sc _ g,E⟩;have D:∀b o,s.heap.get? b=some o->U.get? b=some o:=λb o e=>O b o (λz=>by
  have c:=Se e;rw[SE.mp z]at c;exact Os c (Sl _)) (Sc _ e)
 have e:(List.range f.toArray.size).any (λi=>bs.getD i false)=bs.any id:=by
  rw[SN,<-hlen,Sv];exact Zcu bs
 rw[e];exact⟨.bl _,H,I.kept (t':=tk) D,R,q⟩
def VS(c:Addr)(qual:Str):HO:=.ext λh=>h.CodeRec (.ref c) qual
def Uo(f:Addr)(qual:Str)(params:Arguments)(body:Expr)(scope:Scope)(cl:Oy)(g:Value)(c:Addr)(i:Value):HO:=.ext λh=>h.get? f=some (W.kla_obj "<lambda>" qual params body scope cl g c i)
def Zcv{h:Heap}{qual:Str}{params:Arguments}{body:Expr}(e:h.get? f=some (W.kla_obj "<lambda>" qual params body scope cl g c i)):Yo P w H h f (Uo f qual params body scope cl g c i) :=
 ⟨e,⟨_,e⟩,λ_ _ q k=>k _ q⟩
abbrev Zr8(f:Addr)(qual:Str)(params:Arguments)(body:Expr)(scope:Scope)(pm:Value)(c':Addr)(ctv:Value):HO:=Uo f qual params body scope [] pm c' ctv
def BM(mg:Ow)(base:Heap):Prop:=∃c ob,mg "__builtins__"=some (.ref c)/\c≠builtinsNs/\c≠mainGlobals/\base.get? c=some ob/\ob.cls=.type "module" /\ ob.dict=some builtinsNs/\ob.data=.plain
def Zk6{h:Heap}{qual:Str}(j:h.CodeRec (.ref g) qual):Yo P w H h g (VS g qual):=by
 erw[⟨j,?_,λv x q k=>?_⟩];ext⟨u,c,i,t,e,f,_⟩ j;cases e;exact⟨c,f⟩;ext⟨u,c,i,t,e,f,hd,n⟩ q;cases e;exact⟨_,c,i,t,R,k _ f,hd,n⟩
inductive Pi(P:Addr)(mg:Ow)(qual:Str)(params:Arguments)(body:Expr)(scope:Scope)(cl:Oy)(pos:Pos)(_e0:St)(H:Hp)(Q:VK):Prop|mk (ps:Array Value) (_:H P=some (.tbl ps)) (_:TriplesOk ps.toList) (_:((codeAmong pos ps.toList=none/\∀f c' ctv,H f=none->H c'=none->f≠c'->Q (.ref f) (upd (upd (upd H P (.tbl (ps ++ #[rawInt pos.line,rawInt pos.col,.ref c']))) c' (VS c' qual)) f (Uo f qual params body scope cl ((mg "__name__").getD .none) c' ctv)))\/∃c',codeAmong pos ps.toList=some (.ref c')/\∀f ctv,H f=none->Q (.ref f) (upd H f (Uo f qual params body scope cl ((mg "__name__").getD .none) c' ctv))))
def G4{params:Arguments}{body:Expr}{P : Addr}(d0:X.env.code=.ref c)(C:W.CodeHd X.base c P)(f0:BM X.mg X.base)(T:closureFor scope X.env=pure cl)(e0:defaultsOf params X.env=([],[])) :
  PE X (.Lambda params body scope i) (Pi P X.mg (X.env.qual ++ "<lambda>") params body scope cl i):=by
 intro pins s σ H j0 I h;ext⟨y,g,Y,h⟩ h;have L:s.heap.get? P=some (W.tabObj y):=I.hok P _ g;have a0:∀{b o},X.base.get? b=some o->b≠P:=λe z=>by
  have:=(I.bs _ _ e).2;rw[z,g]at this;cases this
 have g0:mainGlobals≠P:=by
  ext⟨o,es,ep,e,_⟩ I.mod.glob;exact a0 e
 ext⟨bm,ob,b1,b2,b3,Z,b5,b6,b7⟩ f0;have S:s.heap.BuiltinsAt X.mg P:=⟨bm,ob,b1,b2,b3,a0 Z,I.bk _ _ Z,b5,b6,b7⟩;erw[W.kla_eval e0 ?_];rcases h with⟨hn,q⟩|⟨f,hf,q⟩;erw[W.kla_makeFunction (mg:=X.mg) T I.ok.glob (I.mod.glob.keeps I.bk) d0 (C.keeps I.bk) L Y hn g0 S λf j h' tk v B U i0 b0=>?_];have G:H f=none:=I.hok.fresh B;have h0:P<s.heap.objs.size:=Se L;have cP:f≠P:=Nat.ne_of_gt (Si h0 B);have D:∀{b o},H b=some o->(∀Q,o≠.tbl Q)->upd (upd H P (.tbl (y ++ #[rawInt i.line,rawInt i.col,.ref f]))) f (VS f (X.env.qual ++ "<lambda>")) b=some o:=λe n=>by
  rwa[Zj (ZR e G),Zj (XZ e g (n _))]
 have I1:Za X pins σ (upd (upd H P (.tbl (y ++ #[rawInt i.line,rawInt i.col,.ref f]))) f (VS f (X.env.qual ++ "<lambda>"))) {s with heap:=h',gens:=s.gens,drawn:=s.drawn,toks:=tk}:=by
  erw[I.step (ch:=[]) (λ_ z=>nomatch z) (λb o _ _ _ e n=>v b o (λz=>by rw[z,g]at n;cases n) e) (λb o _ _ _ e n=>⟨o.slots,v b o (λz=>by rw[z,g]at n;cases n) e⟩) (λb o _ e n=>?_) (λb o _ e=>?_) (λb xs e=>D e λ_ z=>by cases z) (λb o u e=>D e λ_ z=>by cases z) (λb Q e=>?_) (λm hn=>hn.extBut v λz=>?_) (λb u e=>?_) I.bare];rw[Zj (Sf (Si (Se e) B)),Zj λz=>by rw[z,g]at n;cases n];exact n;by_cases z:b=P;exact⟨_,by rwa[z]⟩;exact⟨o,v b o z e⟩;by_cases z:b=P;subst z;rw[g]at e;obtain rfl:y=Q:=by injection e with e;injection e
  exact⟨#[rawInt i.line,rawInt i.col,.ref f],by rw[Zj cP.symm,Zh]⟩;exact⟨#[],by rw[Zj (ZR e G),Zj z,e];simp⟩;have:=I.free;rw[z,g]at this;cases this;by_cases z:b=f;subst z;rw[Zh]at e;obtain rfl:=So e;exact Zk6 i0;rw[Zj z]at e;by_cases O:b=P;subst O;rw[Zh]at e;obtain rfl:=So e;exact b0;rw[Zj O]at e;erw[(I.hok b u e).stay (λM u' E x=>v M u' (λzz=>?_) x) (λM x=>D x λ_ z=>by cases z) (λM xs x=>D x λ_ z=>by cases z)];rcases E with rfl|E;exact O zz;rw[zz,g]at E;cases E
 have J:=I1.laid (a:=h'.objs.size) (o:=Uo h'.objs.size (X.env.qual ++ "<lambda>") params body scope cl ((X.mg "__name__").getD .none) f j) (t':=tk) (h':=h'.push (W.kla_obj "<lambda>" (X.env.qual ++ "<lambda>") params body scope cl ((X.mg "__name__").getD .none) f j)) (λb u e=>Sc _ e) (Sg _) (Zcv (Sd _ R));have nf:H h'.objs.size=none:=I.hok.fresh (Sh B (Nat.le_of_lt U));exact⟨.ref _,_,J,R,q _ f j nf G (Nat.ne_of_gt U)⟩;erw[W.kla_makeFunctionHit (mg:=X.mg) T I.ok.glob (I.mod.glob.keeps I.bk) d0 (C.keeps I.bk) L Y hf S λj h' tk hk c0=>?_];have J:=I.laid (a:=h'.objs.size) (o:=Uo h'.objs.size (X.env.qual ++ "<lambda>") params body scope cl ((X.mg "__name__").getD .none) f j) (t':=tk) (h':=h'.push (W.kla_obj "<lambda>" (X.env.qual ++ "<lambda>") params body scope cl ((X.mg "__name__").getD .none) f j)) (λb u e=>Sc _ (hk b u e)) c0 (Zcv (Sd _ R));exact⟨.ref _,_,J,R,q _ j (I.hok.fresh c0)⟩
abbrev Zr9(P:Addr)(mg:Ow)(qual:Str)(params:Arguments)(body:Expr)(scope:Scope)(pos:Pos):TE:=Pi P mg qual params body scope [] pos
def WW.okC{x qual:Str}{st:Stmt}{f:Addr}{i:OJ}{N g:OC}{k:Nat}{sp:Sp}(F:WW K x qual st f i)(S:Zw N g (Zu st))(len:∀vs H Q E,sp vs H Q E->vs.length=g.length)
  (v:∀(c:Value) (A:Around) (outer:List Env) (s:Shared) (H:Hp) (vs:List V) (Q:VK) (E:XK),i.code=c->Yv k (A.deeper (envOfC qual (Zu st) s.heap.objs.size f c))->sp vs H Q E ->
   ∃t,XO (VA Zo P w K mg base N qual (Zu st) f c A outer s H E).nox (UQ st) t/\t {nx:=λ_ B=>Q .non B,rt:=Q} (UM N vs) H):Zl P w K mg base Zo (k+1) f i g sp:=by
 ext⟨C,L,kV,G,J,I,c,ct,D,rfl,u,y⟩ F.ex;erw[Td u y S len λA outer s H vs Q E n j=>?_];obtain⟨t,h,q⟩:=v c A outer s H vs Q E R n j;exact⟨t,h.nox,q⟩
end L2
namespace K1
open PySem L2
end K1
namespace L2
open PySem PySem.Spec PyProof.Rows PySem.W
open AutoSeq1 (wpAny_loadPart')
section
variable{M:Model}
def Zk7{args:List (Bool×Sem Value)}{keywords:List (Option Str×Sem Value)}(n:args.any (·.1)=false)(i:keywords.any (·.1.isNone)=false)
  (h:wpAny M A (evalArgs (.type T) true args keywords) (λa c=>wpAny M A (call (.type T) a.pos a.kw) Q E c) E s):wpAny M A (callWith j (.type T) [] args keywords) Q E s:=by
 unfold callWith;erw[Sa (wpAny_holding (Oq h (λa c g=>Sa (wpAny_standAt ?_)) λ_ _ x=>x))];simp only[n,i,Bool.or_false];exact Sa (Sb (Sa (Oq g (λr u f=>Sa (wpAny_holding (wpAny_point (Sb f)))) λ_ _ x=>x)))
end
abbrev UY(t:Tok):List (Str×Value):=[(OK "start",.int 1 t)]
def Zk8(a:Value)(t:Tok):checkTypeCall "enumerate" ⟨[a],UY t⟩=pure Unit.unit:=by kernel_rfl
def Zk9(a:Value)(t:Tok):checkBuiltinCall "enumerate.__new__" ⟨[.type "enumerate",a],UY t⟩=pure Unit.unit:=by kernel_rfl
def Zla(o a:Value)(t:Tok):argsOk "object.__init__" ⟨[o,a],UY t⟩:=by unfold argsOk;rw[signature?_of (id := "object.__init__") (n:=['_','_','t','i','n','i','_','_']) (o:=['t','c','e','j','b','o']) (by kernel_rfl) PySem.F.owner_object];kernel_rfl
def Zlb{newId : String}(g:typeLookup (.type T) "__init__"=pure (some (.builtin "object.__init__"))) (hm:Bind.madeBy (.type T)=pure (some newId)) (h:(some newId != some "object.__new__")=true) :
  Meets (Builtin.«object.__init__» ⟨[o,a],UY t⟩) (λ_ R s=>s.TypeIs o T/\R (.ok (.ret .none)) s):=.of_wp λprog w A R s ⟨f,c⟩=>by
 repeat (any_goals (first|assumption|wp_step))
 exact⟨_,rfl,c⟩
def Zlc(C:entryFor table "enumerate.__new__"=some u) (g:Meets (u ⟨[.type "enumerate",a],UY t⟩) S)
  (h:S A.in1 (wants (λobj f=>f.TypeIs obj "enumerate" /\ Q obj f) E) s):wpAny (model prog w) A (call (.type "enumerate") [a] (UY t)) Q E s:=by
 have ft:=PySem.F.called_enumerate;ext⟨c,I,O⟩ ft.mro;have H:=ft.made;have P:=ft.sub;erw[wpAny_call (codeAny_of_tree (show wpAny _ _ (callAny (.type "enumerate") _) _ _ _ from Sb ⟨Code.quiet_builtin _ (),codeAny_builtin PySem.F.entry_type_call ?_⟩))];rw[Around.under_plain (weight_type_call_type "enumerate" [a] (UY t)) (units_type_call_type "enumerate" [a] (UY t))];have G:=ft.notType;have M:=ft.canCreate;have L:=Zk8 a t
 repeat (any_goals (first|assumption|wp_step))
 erw[codeAny_mono (codeAny_call_builtin ft.plain C (wpAny_of_eq (Zk9 a t) (g prog w A.in1 _ s h))) λr f j=>?_];rcases r with e|D;exact j;cases D with
 |ret obj =>
  ext⟨v,n⟩ j;have J:=ft.init.lookup;have T:=ft.init.bind obj
  repeat (any_goals (first|assumption|wp_step))
  erw[codeAny_mono (codeAny_call_builtin ft.init.plain PySem.F.entry_object_init (ft.init.check _ _ _ _ _ _ _ _ v (Zla obj a t) (Zlb ft.init.lookup ft.made () prog w A.in1 (wants (λr x=>r=.none/\Q obj x) E) f ⟨v,R,n⟩))) λy x i=>?_];rcases y with e|B;exact i;cases B with
  |ret r=>ext⟨rfl,n⟩ i;repeat (any_goals (first|assumption|wp_step))
  |_=>exact i.elim
 |_=>exact j.elim
def Zld(l:Addr)(t:Tok)(items:Array Value)(n:Nat)(v:OF)(u:Oz) :
  Meets (Builtin.«enumerate.__new__» ⟨[.type "enumerate",.ref l],UY t⟩) (λ_ R s=>s.heap.get? l=some ⟨.type "list",v,.seq items n,u⟩/\∀h' e,e=s.heap.objs.size+1 ->
   h'=(s.heap.push {cls:=.type "list_iterator",data:=.fields #[.ref l,.int 0 0]}).push {cls:=.type "enumerate",data:=.fields #[.none,.bool false,.ref s.heap.objs.size,rawInt 1,.none,.none]}->R (.ok (.ret (.ref e))) {s with heap:=h'}) :=
 .of_wp λprog w A R s ⟨f,h⟩=>by
  ext⟨i,g,d,tk,os⟩ s;have x:=sub_enumerate;have j:Heap.IsList (Shared.heap ⟨i,g,d,tk,os⟩) l items:=⟨_,f,rfl,n,rfl⟩;have h:=h _ _ rfl rfl;rw[show i.objs.size+1=(i.push {cls:=.type "list_iterator",data:=.fields #[.ref l,.int 0 0]}).objs.size from(Heap.size_push ..).symm]at h
  wp_walk using wpAny_loadPart' f
  erw[wpAny_stack_any λst=>Sb ?_];split;rename_i c _ _ _ _ _;cases (c==Value.type "enumerate")<;>(wp_walk using wpAny_loadPart' f,wpAny_pyIter_list j;exact⟨_,rfl,h⟩)
  wp_walk using wpAny_loadPart' f,wpAny_pyIter_list j
  exact⟨_,rfl,h⟩
def Zle{items:Array Value}(j:s.heap.IsList l items)
  (h:∀h',IsEnum h' (s.heap.objs.size+1) s.heap.objs.size 1 .none->h'.IsListIter s.heap.objs.size l 0->(∀b o,s.heap.get? b=some o->h'.get? b=some o)->Q (.ref (s.heap.objs.size+1)) {s with heap:=h'}) :
  wpAny (model prog w) A (call (.type "enumerate") [.ref l] (UY t)) Q E s:=by
 ext⟨⟨c,y,dt,v⟩,B,f,n,hd⟩ j;replace f:c=.type "list" := f;replace hd:dt=.seq items n:=hd;subst f hd;erw[Zlc PySem.F.entry_enumerate_new (Zld l t items n y v) ⟨B,λh' e u g=>?_⟩];subst u;have i:IsEnum h' (s.heap.objs.size+1) s.heap.objs.size 1 .none:=by
  have:=Sd (s.heap.push {cls:=.type "list_iterator",data:=.fields #[.ref l,.int 0 0]}) (o:={cls:=.type "enumerate",data:=.fields #[.none,.bool false,.ref s.heap.objs.size,rawInt 1,.none,.none]}) R;rw[Heap.size_push,<-g]at this;exact this
 exact⟨⟨_,i,R⟩,h _ i (by rw[g];exact⟨_,Sc _ (Sd _ R),R,R⟩) λb o x=>by rw[g];exact Sc _ (Sc _ x)⟩
def Zlf{P:Nat->Value->Prop}(D:Draws prog w A it fp n P c):Draws prog w A it fp (n+1) (λi v=>∃j,i=j+1/\P j v) (λi h=>∃j,i=j+1/\c j h) where
 live:=λ_ _ ⟨_,_,st⟩=>D.live _ _ st
 frame:=λ_ _ _ ⟨j,e,st⟩ k=>⟨j,e,D.frame _ _ _ st k⟩
 item:=λi s Q E C ⟨j,e,st⟩ f=>D.item j s Q E () st λx g tk B u=>f x g tk ⟨j,e,B⟩ ⟨j+1,(),u⟩
 done:=λs Q E ⟨j,e,st⟩ y=>D.done s Q E (by rw[show n=j by lia];exact st) y
def Zlg{items:Array Value}(v:A.handled=none)(f:items[i]? = none):Draws prog w A it [it,l] (i+1) (λ_ _=>False) (λj h=>j=i+1/\h.IsListIter it l i/\h.IsList l items) where
 live:=λ_ _ ⟨_,⟨o,g,_⟩,_⟩=>⟨o,g⟩
 frame:=λ_ _ _ st c=>⟨st.1,st.2.1.at λo e=>c it (by simp) o e,st.2.2.at λo e=>c l (by simp) o e⟩
 item:=λj s Q E n ⟨e,_⟩ x=>Os n ()
 done:=λs Q E st u=>wpAny_nextOf_list_end v st.2.1 st.2.2 f u
def Mw(K:Ox)(l:Addr):It :=
 ⟨λi H=>∃c x,Zd K H l c/\c[i]? = some x,λi H v f=>∃p x,H p=none/\(∀c,Zd K H l c->c[i]? = some x)/\v=.ref p/\f=upd H p (.tup [.int (i+1:Nat),x]),λi H=>∃c,Zd K H l c/\c.length<=i⟩
def Zlh{es:OD}{k:Nat}{j0:Pos}(l e it:Addr)(D:e≠it)(b0:e≠l)(g0:l≠it):UK P w K (.Tuple es k j0) (Mw K l) [e,it] e (λi h=>((∃g,IsEnum h e it (i+1:Nat) g)/\h.IsListIter it l i)) where
 mem:=by simp
 obj:=λi h st b f=>by
  ext⟨⟨g,c⟩,o,G,B,hd⟩ st;rcases(show b=e\/b=it by simpa using f)with rfl|rfl;exact⟨_,c,λk0 z=>by cases z⟩;exact⟨o,G,λk0 z=>by rw[hd]at z;cases z⟩
 keep:=λi h h' st T=>⟨let ⟨g,c⟩:=st.1;⟨g,T e (by simp) _ c⟩,st.2.at λo q=>T it (by simp) o q⟩
 item:=by
  intro X j Q E B i pins s σ n0 h0 I H st L;subst j Q E;ext⟨Y,x,v,M⟩ L;obtain⟨n,O,p,hz⟩:=I.list v;obtain⟨u,S,ru⟩:=O.get M;ext⟨⟨g,c⟩,C⟩ st;have i0:=C;have hi:i<n.toArray.size:=by have:=(Sr.mp S).1;simpa using this
  erw[wpAny_pyNext_enum_itemD (Zlf (Draws.list (A:=X.A.in1) (I.ok.hd B) it l g0 n.toArray)) c ⟨i,R,C,p.isList⟩ (Nat.succ_lt_succ hi) D (by simp[D,b0]) λx' Z tk j G e0 hT o0 hk=>⟨_,R,?_⟩];ext⟨c0,ej,m0⟩ j;obtain rfl:i=c0:=by lia
  obtain rfl:u=x':=So ((by simpa using S.symm:some u=n.toArray[i]?).trans m0);erw[wpAny_letOwnedTupleGo_enum (s:={s with heap:=Z,toks:=tk+1}) G λU f0 J=>?_];have a0:e<s.heap.objs.size:=Se c;have l0:U.get? s.heap.objs.size=some {cls:=.type "tuple",data:=.seq #[.int (i+1:Nat) tk,u]}:=(J.2 _ (Nat.ne_of_gt a0)).trans hT;obtain⟨I2,n2⟩:=I.paired (t':=tk+1) (fp:=[e,it]) (x:=.int (i+1:Nat)) (y:=x) (h':=U) H (λb f=>by
   rcases(show b=e\/b=it by simpa using f)with rfl|rfl;exact⟨_,c⟩;ext⟨o,q,_⟩ i0;exact⟨o,q⟩) (λb o f q=>(J.2 b λz=>f (by simp[z])).trans (hk b o (λz=>f (by simp[z])) (λz=>f (by simp[z])) q)) l0 ⟨tk,R⟩ ru
  ext⟨j',p0,d0,_⟩ e0;obtain rfl:j'=i+1:=by lia
  exact⟨.ref s.heap.objs.size,_,I2,R,⟨_,x,I.hok.fresh (Sg _),λys hy=>by rwa[I.list_inj hy v],R,R⟩,⟨⟨_,by simpa using f0⟩,d0.at λo q=>(J.2 it D.symm).trans q⟩,n2⟩
 done:=by
  intro X j Q E B i pins s σ n0 h0 I H st L;subst j Q E;ext⟨Y,v,M⟩ L;obtain⟨n,O,p,hz⟩:=I.list v;ext⟨⟨g,c⟩,C⟩ st;have hl:=O.length;exact wpAny_pyNext_enum_endD (Zlg (A:=X.A.in1) (it:=it) (l:=l) (i:=i) (items:=n.toArray) (I.ok.hd B) (by simp;lia)) c ⟨R,C,p.isList⟩ λh' eb=>⟨R,I.turnedL (t':=s.toks) (fp:=[e,it]) (λb o f q=>eb b o (λz=>f (by simp[z])) q) H⟩
 self:=λ_ _ _ _ _ st h=>let ⟨⟨g,c⟩,_⟩:=st;wpAny_pyIter_enum c h
inductive Zli(K:Ox)(R:It->Hp->Prop)(vs zs:List V)(H1:Hp):Prop|mk (a:Addr) (_:vs=[.ref a]) (_:zs=[.int 1]) (_:∃xs,Zd K H1 a xs) (_:R (Mw K a) H1)
def Zlj(K:Ox)(h tk:TA):TI:=λc H g=>h c H λf j=>tk c j λzs i=>Zli K g f zs i
def Zlk{E:OD}{k:Nat}{tp:Pos}{a:Expr}{f:List Keyword}{v tk:TA}{p c:Pos}(G:Gl X "enumerate") (hm:X.mg "enumerate"=none) (ha:PA X [a] v) (b0:PK X f tk) (P:(backToKw c (keywordEach f X.env)).all (·.1.isSome)=true:=by rfl) (B:(backToKw c (keywordEach f X.env)).filterMap (·.1)=[OK "start"]:=by rfl)
  (g:starEach [a] X.env=[(false,eval a X.env)]:=by rfl) (Z:(backToKw c (keywordEach f X.env)).any (·.1.isNone)=false:=by rfl):PI X (.Tuple E k tp) (.Call (.Name "enumerate" p) [a] f c) (Zlj X.K v tk):=by
 intro pins s j a0 R I h;erw[wpAny_Call_Name_kw (VH I G hm boot_enumerate ?_ () ())];erw[Zk7 (by rw[g];rfl) Z (evalArgs_kw2 P (Zy (ha c pins s j a0 _ I h) λus U ⟨vs,O,Q,r,q⟩=>?_) (by rw[g];rfl))];erw[Zy (b0 c pins U j O _ Q q) λws s2 ⟨zs,M,i,D,H⟩=>?_];rw[B];ext⟨l,rfl,rfl,⟨xs,C⟩,S⟩ H;obtain⟨u,rfl,L⟩:=Y4 r;cases L;obtain⟨u,rfl,td,rfl⟩:=Y4 D;obtain⟨c0,rv,n,hz⟩:=i.list C;have lt:l<s2.heap.objs.size:=by ext⟨o,e,_⟩ n.isList;exact Se e
 erw[Zle n.isList λT g Y J=>?_];erw[wpAny_pyIter_enum (s:={s2 with heap:=T}) g ?_];erw[⟨s2.heap.objs.size+1,[s2.heap.objs.size+1,s2.heap.objs.size],_,_,M,rfl,i.kept (t':=s2.toks) J,Zlh l _ _ (Nat.succ_ne_self _) (Nat.ne_of_gt (Sn lt)) (Sf lt),⟨⟨_,g⟩,Y⟩,λb y=>?_,S⟩];have x:s2.heap.objs.size<=b:=by rcases(show b=s2.heap.objs.size+1\/b=s2.heap.objs.size by simpa using y)with rfl|rfl;exact Nat.le_succ _;exact Sg _
 exact i.fpOk x (i.hok.fresh x)
def Zll{a:Addr}{xs:List V}{g:TG}{B:TS}{D:WL}{c:St}(f:Nat->St->Hp->Prop)(I:f 0 c H)(L:∀i c H,i<=xs.length->f i c H->Zd K H a xs)
  (J:∀i x p c H,xs[i]? = some x->H p=none->f i c H->g (.ref p) c (upd H p (.tup [.int (i+1:Nat),x])) λj u=>B {D with nx:=f (i+1),ct:=f (i+1),bk:=D.nx} j u) (hd:∀c H,f xs.length c H->D.nx c H) :
  ∃W:Nat->Nat->St->Hp->Prop,(∃m,W 0 m c H)/\∀i m c H,W i m c H ->
   ((Mw K a).stop i H/\D.nx c H)\/((Mw K a).go i H/\∃N:St->Hp->Prop,(∀n h,N n h->∃E,E<m/\W (i+1) E n h)/\∀x h,(Mw K a).yld i H x h->g x c h λj u=>B {D with nx:=N,ct:=N,bk:=D.nx} j u):=by
 erw[⟨λi m c H=>m=xs.length - i/\i<=xs.length/\f i c H,⟨xs.length,by simp,Sk _,I⟩,?_⟩];rintro i m c H ⟨rfl,M,p⟩;have q:=L i c H M p;by_cases C:i<xs.length;erw[.inr ⟨⟨xs,xs[i],q,by simp[C]⟩,f (i+1),λn h O=>⟨xs.length - (i+1),(),R,C,O⟩,λv h y=>?_⟩];ext⟨r,x,G,y,rfl,rfl⟩ y;exact J i x r c _ (y xs q) G p;obtain rfl:i=xs.length:=by lia
 exact .inl ⟨⟨xs,q,Sg _⟩,hd c H p⟩
def Mx(lo c:Int)(n:Nat):It:=⟨λi _=>i<n,λi H x f=>f=H/\x=.int (lo+i*c),λi _=>n<=i⟩
def Zlm{U:Expr}(it:Addr)(lo c:Int)(n:Nat):UK P w K U (Mx lo c n) [it] it (λi h=>IsRangeIter h it (lo+(i:Nat)*c) ((n:Int) - (i:Nat)) c) where
 mem:=by simp
 obj:=λi h st b f=>by
  obtain rfl:b=it:=by simpa using f
  exact⟨_,st,λv z=>by cases (show Data.fields _=Data.cell v from z)⟩
 keep:=λi h j st k=>k it (by simp) _ st
 item:=by
  intro X G L u C i pins s O H E I g st B;subst G L u;obtain⟨D,M,S,y,J,x⟩:=g it (by simp);erw[(Walks.range (prog:=X.prog) (w:=X.w) (I.ok.hd C) it lo c n).item i s _ _ B st λv j tk ⟨t,Y⟩ Q Z=>?_];subst Y;have I1:Za X pins O H {s with heap:=j,toks:=tk}:=I.turned (λb o f e=>Z b o (by simpa using f) e) D M y J x;exact⟨_,R,LQ (s:={s with heap:=j,toks:=tk}) (n := "range_iterator") Q R R () ⟨.int (lo+i*c),H,I1,⟨t,R⟩,⟨R,R⟩,Q,λb f=>(g b f).1⟩⟩
 done:=by
  intro X G L u C i pins s O H E I g st B;subst G L u;obtain⟨D,M,S,y,J,x⟩:=g it (by simp);exact wpAny_pyNext_range_end (I.ok.hd C) st (by have:n<=i:=B;lia) λj T=>⟨R,I.turned (t':=s.toks) (λb o f e=>T b o f e) D M y J x⟩
 self:=λ_ _ _ _ _ st h=>wpAny_pyIter_rangeiter st h
def My(h:0<=i)(c:i<2 ^ 62):Builtin.Range.rangeFitsLong i=true:=by
 unfold Builtin.Range.rangeFitsLong;rw[SQ (show -(2 ^ 63)<=i by lia),SQ (show i<2 ^ 63 by lia)];rfl
def Zln(z:Builtin.Range.rangeSize 0 b 3=n)(h:0<=b/\b<2 ^ 61/\0<=n/\n<2 ^ 62):Builtin.Range.small 0 b 3=true:=by
 unfold Builtin.Range.small;rw[z,SV (),My (i:=0) () (),My (i:=b) () (),My (i:=3) () (),My (i:=n) () (),My (i:=b+(3 - 1)) () ()];simp
section
variable{tg:Expr}
inductive Zlo(R:It->Hp->Prop)(vs:List V)(H1:Hp):Prop|mk (m:Nat) (_:vs=[.int 0,.int (3*m:Nat),.int 3]) (_:m<2 ^ 20) (_:R (Mx 0 3 m) H1)
def Zlp(g:TA):TI:=λh H f=>g h H λc i=>Zlo f c i
def Zlq(C:Gl X "range") (hm:X.mg "range"=none) (ha:PA X [a,b,c] n) (B:starEach [a,b,c] X.env=[(false,eval a X.env),(false,eval b X.env),(false,eval c X.env)]:=by rfl) (j:starEach [b,c] X.env=[(false,eval b X.env),(false,eval c X.env)]:=by rfl) :
  PI X tg (.Call (.Name "range" p) [a,b,c] [] u) (Zlp n):=by
 intro pins s x H M I h;erw[Call_ (VH I C hm boot_range (PyProof.Rows.callWith_type1 (Zy (ha u pins s x H _ I h) λO i ⟨L,D,G,r1,E⟩=>?_) (by rw[B,j]) (by rw[j];rfl)))];ext⟨m,rfl,hm,q⟩ E;cases r1 with
 |cons r f =>
  cases f with
  |cons J f =>
   cases f with
   |cons y f =>
    cases f;ext⟨t,rfl⟩ r;ext⟨t',rfl⟩ J;ext⟨t2,rfl⟩ y;erw[call_range_3 () ?_ (.inl (PyProof.noPylong_small ()))];have z:Builtin.Range.rangeSize 0 (3*m:Nat) 3=(m:Int):=by
     unfold Builtin.Range.rangeSize;rw[SV ()];split<;>omega
    erw[wpAny_pyIter_range (IsRange.new ..) ?_ ?_];exact Zln z ();have g:=G.kept (t':=i.toks) (h':=i.heap.push {cls:=.type "range",data:=.fields #[.int 0 t,.int (3*m:Nat) t',.int 3 t2]}) λb o e=>Sc _ e;erw[⟨_,[_],_,_,D,R,g.kept (t':=i.toks) λb o e=>Sc _ e,Zlm _ 0 3 m,?_,λb v=>?_,q⟩];show IsRangeIter _ _ (0+((0:Nat):Int)*3) ((m:Int) - ((0:Nat):Int)) 3;rw[show(0:Int)+((0:Nat):Int)*3=0 by rfl,show(m:Int) - ((0:Nat):Int)=Builtin.Range.rangeSize 0 (3*m:Nat) 3 by rw[z];lia];exact Sd _ R;rw[SE.mp v];exact g.fpOk (Sg _) (g.hok.fresh (Sg _))
end
def Zlr{lo c:Int}{n:Nat}{g:TG}{O:TT}{P:TE}{M:St}{Q:VK}(u:Nat->List V->St->Hp->Prop)(S:u 0 [] M H)(hz:n<=sizeLine)
  (T:∀i f v H,i<n->f.length<=i->u i f v H->g (.int (lo+i*c)) v H λj J=>O j J λb D=>if b=true then P j D λy I=>(f++[y]).length<=i+1/\u (i+1) (f++[y]) j I else f.length<=i+1/\u (i+1) f j D)
  (hd:∀f v H,f.length<=n->u n f v H->WX Q f H) :
  ∃W:Nat->Nat->List V->St->Hp->Prop,(∃m,W 0 m [] M H)/\∀i m f C H,W i m f C H ->
   ((Mx lo c n).stop i H/\WX Q f H) \/
   ((Mx lo c n).go i H/\f.length<sizeLine/\∃N:List V->St->Hp->Prop,(∀B E h,N B E h->∃L,L<m/\W (i+1) L B E h)/\∀x h,(Mx lo c n).yld i H x h->g x C h λj J=>O j J λb D=>if b=true then P j D λy I=>N (f++[y]) j I else N f j D):=by
 erw[⟨λi m f v H=>m=n - i/\i<=n/\f.length<=i/\u i f v H,⟨n,by simp,Sk _,Sk _,S⟩,?_⟩];rintro i m f C H ⟨rfl,U,ha,p⟩;by_cases G:i<n;erw[.inr ⟨G,(),λB E h=>B.length<=i+1/\u (i+1) B E h,λB E h z=>⟨n - (i+1),(),R,G,z.1,z.2⟩,λx h ⟨e,y⟩=>?_⟩];subst e y;exact T i f C _ G ha p;obtain rfl:i=n:=by lia
 exact .inl ⟨Sg _,hd f C H ha p⟩
inductive Zls(K:Ox)(neg:Bool)(x:V)(y:V)(H:Hp)(Q:VK):Prop|mk l b xs (_:x=.ref l) (_:y=.ref b) (_:Zd K H l xs) (_:Zd K H b []) (_:Q (.bl (if neg then !xs.isEmpty else xs.isEmpty)) H)
def Zlt(i:X.A.units<cLine):YH X (compareOp .NotEq) (Zls X.K true):=by
 intro pins s M H x y v u Q I L J h;ext⟨l,b,B,rfl,rfl,G,E,q⟩ h;cases L;cases J;obtain⟨O,r,f,_⟩:=I.list G;obtain⟨P,D,n,_⟩:=I.list E;have c:=r.length;have g:=D.length;cases B with
 |nil =>
  erw[SeqAt.RcNeAt.lists (e:=λj=>Vj (([]:List V).getD j .non) (([]:List V).getD j .non)) f.isList n.isList (by simp;simp at c g;lia) i (λj C _=>by simp at C c;lia) _ _ _ _ ?_];rw[SN,<-c,Zbs [] [] R];exact⟨.bl _,H,I,R,q⟩
 |cons x S =>
  erw[SeqAt.RcNeAt.lists_lengths f.isList n.isList (by simp;simp at c g;lia) i _ _ _ _ ?_];exact⟨.bl _,H,I,R,q⟩
def Mz(z:Str):It:=⟨λi _=>i<z.cps.size,λi H x f=>f=H/\∃c,z.cps.toList[i]? = some c/\x=.str ⟨#[c]⟩,λi _=>i=z.cps.size⟩
def Zcw{U:Expr}(z:Str)(t:Tok)(it:Addr)(ty:String)(Y:["enumerate","zip","dict_itemiterator","dict_reverseitemiterator","odict_iterator","itertools.zip_longest","itertools.pairwise"].contains ty=false)
  (W:∀A:Around,A.handled=none->Walks P w A it [it] [it] z.cps.size (SignAt z) (λi h=>h.IsStrIter it ty z t i))
  (S:∀(A:Around) (i:Nat) (s:Shared) (Q:Ou) (E:Ou),s.heap.IsStrIter it ty z t i->Q (.ref it) s->wpAny (model P w) A (pyIter (.ref it)) Q E s):UK P w K U (Mz z) [it] it (λi h=>h.IsStrIter it ty z t i) where
 mem:=by simp
 obj:=λi h st b f=>by
  have e:b=it:=by simpa using f
  subst e;ext⟨o,e,c,d⟩ st;exact⟨o,e,λa0 z=>by rw[d]at z;cases z⟩
 keep:=λi h u st k=>let ⟨o,ho,r⟩:=st;⟨o,k it (by simp) o ho,r⟩
 item:=by
  intro X j J v B i pins s M H E I n st g;subst j J v;obtain⟨C,L,T,y,G,x⟩:=n it (by simp);erw[(W X.A (I.ok.hd B)).item i s _ E g st λa0 u tk j O D=>?_];ext⟨c,b0,Z,rfl⟩ j;have I1:Za X pins M H {s with heap:=u,toks:=tk}:=I.turned (t':=tk) (λb o f e=>D b o (by simpa using f) e) C L y G x;obtain⟨o,e,c',d⟩:=id O;exact⟨_,R,LQ (s:={s with heap:=u,toks:=tk}) e c' d Y ⟨.str ⟨#[c]⟩,H,I1,⟨b0,R⟩,⟨R,c,by simpa using Z,R⟩,O,λb f=>(n b f).1⟩⟩
 done:=by
  intro X j J v B i pins s M H E I n st g;subst j J v;obtain⟨C,L,T,y,G,x⟩:=n it (by simp);have g:i=z.cps.size:=g;subst g;exact(W X.A (I.ok.hd B)).done s _ E st λu tk D=>⟨R,I.turned (t':=tk) (λb o f e=>D b o (by simpa using f) e) C L y G x⟩
 self:=λA i s Q E st h=>S A i s Q E st h
inductive Zlu(R:It->Hp->Prop)(x:V)(H1:Hp):Prop|mk z (_:x=.str z) (_:R (Mz z) H1)
def Zlv(h:TE):TI:=λf H c=>h f H λx g=>Zlu c x g
def Zlw{y l:Expr}{n:TE}(C:PE X l n):PI X y l (Zlv n):=by
 intro pins s B H D I h;erw[Zy (C pins s B H _ I h) λv c ⟨x,g,f,r1,z,e,q⟩=>?_];subst e;ext⟨t,rfl⟩ r1;have fin:∀b∈[c.heap.objs.size],Vy X pins g b:=λb u=>by
  have e:b=c.heap.objs.size:=by simpa using u
  subst e;exact f.fpOk (Sg _) (f.hok.fresh (Sg _))
 cases ha:z.cps.all (· < 128);erw[wpAny_pyIter_wide ha ?_];exact⟨c.heap.objs.size,[c.heap.objs.size],_,_,g,R,f.kept (t':=c.toks) λb o e=>Sc _ e,Zcw z t _ "str_iterator" () (λA j=>Walks.strWide j _ z t) (λA i s Q E st h=>wpAny_pyIter_striter_wide st h),⟨_,Sd _ R,R,R⟩,fin,q⟩;erw[wpAny_pyIter_ascii ha ?_];exact⟨c.heap.objs.size,[c.heap.objs.size],_,_,g,R,f.kept (t':=c.toks) λb o e=>Sc _ e,Zcw z t _ "str_ascii_iterator" () (λA j=>Walks.strAscii j _ z t) (λA i s Q E st h=>wpAny_pyIter_striter_ascii st h),⟨_,Sd _ R,R,R⟩,fin,q⟩
def Zlx{z:Str}{g:TG}{M:TT}{O:TE}{L:St}{Q:VK}(n:Nat->List V->St->Hp->Prop)(P:n 0 [] L H)(hz:z.length<=sizeLine)
  (S:∀i c f u H,f.length<=i->z.cps.toList[i]? = some c->n i f u H->g (.str ⟨#[c]⟩) u H λj G=>M j G λb C=>if b=true then O j C λy E=>(f++[y]).length<=i+1/\n (i+1) (f++[y]) j E else f.length<=i+1/\n (i+1) f j C)
  (hd:∀f u H,f.length<=z.cps.size->n z.cps.size f u H->WX Q f H) :
  ∃W:Nat->Nat->List V->St->Hp->Prop,(∃m,W 0 m [] L H)/\∀i m f B H,W i m f B H ->
   ((Mz z).stop i H/\WX Q f H) \/
   ((Mz z).go i H/\f.length<sizeLine/\∃N:List V->St->Hp->Prop,(∀v D h,N v D h->∃J,J<m/\W (i+1) J v D h)/\∀x h,(Mz z).yld i H x h->g x B h λj G=>M j G λb C=>if b=true then O j C λy E=>N (f++[y]) j E else N f j C):=by
 erw[⟨λi m f u H=>m=z.cps.size - i/\i<=z.cps.size/\f.length<=i/\n i f u H,⟨z.cps.size,by simp,Sk _,Sk _,P⟩,?_⟩];rintro i m f B H ⟨rfl,U,ha,p⟩;have hz:z.cps.size<=sizeLine:=hz;by_cases I:i<z.cps.size;erw[.inr ⟨I,(),λv D h=>v.length<=i+1/\n (i+1) v D h,λv D h z=>⟨_,(),R,I,z.1,z.2⟩,λx h y=>?_⟩];ext⟨e,c,T,y⟩ y;subst e y;exact S i c f B _ ha T p;have e:i=z.cps.size:=by lia
 subst e;exact .inl ⟨R,hd f B H ha p⟩
abbrev G5(o:Obj):HO:=.frz o (.own 0)
def lent(cs:Addr->Option Obj)(H:Hp):Hp:=λb=>match cs b with|some o=>some (G5 o)|none=>H b
def unl(cs:Addr->Option Obj)(H:Hp):Hp:=λb=>match cs b with|some _=>none|none=>H b
section
variable{cs:Addr->Option Obj}{H':Hp}{h h':Heap}{b:Addr}{o:Obj}{fs:OH}
def G6(q:cs b=some o):lent cs H b=some (G5 o):=by unfold lent;rw[q]
def XE(q:cs b=none):lent cs H b=H b:=by unfold lent;rw[q]
def A4(q:cs b=some o):unl cs H b=none:=by unfold unl;rw[q]
def Vo(q:cs b=none):unl cs H b=H b:=by unfold unl;rw[q]
def MA(n:H b=none):unl cs H b=none:=by
 cases q:cs b with
 |some o=>exact A4 q
 |none=>rwa[Vo q]
def Yp.lent(x:Yp P w H h)(c:∀b o,cs b=some o->h.get? b=some o/\H b=none):Yp P w (L2.lent cs H) h:=λa u e=>by
 have no:∀b u,H b=some u->cs b=none:=λb u e=>by
  cases q:cs b with
  |none=>rfl
  |some o=>rw[(c b o q).2]at e;cases e
 cases q:cs a with
 |some ob =>
  rw[G6 q]at e;obtain rfl:=So e;exact⟨(c a ob q).1,⟨ob,(c a ob q).1⟩⟩
 |none =>
  rw[XE q]at e;exact(x a u e).stay (λ_ _ _ z=>z) (λb z=>by rwa[XE (no b _ z)]) λb f z=>by rwa[XE (no b _ z)]
def Yp.unl(x:Yp P w H h)(f:∀b o,cs b=some o->H b=some (G5 o)):Yp P w (L2.unl cs H) h:=λa u e=>by
 cases q:cs a with
 |some ob=>rw[A4 q]at e;cases e
 |none =>
  rw[Vo q]at e;erw[(x a u e).stay (λ_ _ _ z=>z) (λb z=>?_) λb g z=>?_];cases c:cs b with
  |some ob=>rw[f b ob c]at z;cases z
  |none=>rwa[Vo c]
  cases c:cs b with
  |some ob=>rw[f b ob c]at z;cases z
  |none=>rwa[Vo c]
def Un.unlend(u:Un fs [] (lent cs H) H' h h')(f:∀b o,cs b=some o->h.get? b=some o/\H b=none)(ok:Yp P w H' h'):Un fs [] H (unl cs H') h h':=by
 have i:∀b o,cs b=some o->H' b=some (G5 o):=λb o q=>u.frzs b o _ (G6 q);have no:∀b u,H b=some u->cs b=none:=λb u e=>by
  cases q:cs b with
  |none=>rfl
  |some o=>rw[(f b o q).2]at e;cases e
 erw[⟨λb o e n g c=>?_,λb o e n g c=>?_,λb o e n c=>?_,u.there,λb j e=>?_,λb o x e=>?_,λb v e=>?_⟩];cases q:cs b with
 |some ob =>
  have:=(f b ob q).1;rw[e]at this;obtain rfl:=So this;obtain⟨z,_⟩:=ok b _ (i b _ q);exact z
 |none=>exact u.keep b o e (by rwa[XE q]) g c
 cases q:cs b with
 |some ob =>
  have:=(f b ob q).1;rw[e]at this;obtain rfl:=So this;obtain⟨z,_⟩:=ok b _ (i b _ q);exact⟨_,z⟩
 |none=>exact u.slot b o e (by rwa[XE q]) g c
 cases q:cs b with
 |some ob=>exact A4 q
 |none=>rw[Vo q];exact u.free b o e (by rwa[XE q]) c
 have q:=no b _ e;rw[Vo q];exact u.tups b j (by rwa[XE q]);have q:=no b _ e;rw[Vo q];exact u.frzs b o x (by rwa[XE q]);have q:=no b _ e;obtain⟨m,z⟩:=u.tbls b v (by rwa[XE q]);exact⟨m,by rwa[Vo q]⟩
def Un.relend(u:Un fs [] (unl cs H) H' h h')(f:∀b o,cs b=some o->H b=some (G5 o)):Un fs [] H (lent cs H') h h':=by
 have no:∀b,H b=none->cs b=none:=λb e=>by
  cases q:cs b with
  |none=>rfl
  |some o=>rw[f b o q]at e;cases e
 erw[⟨λb o e n g c=>?_,λb o e n g c=>?_,λb o e n c=>?_,u.there,λb i e=>?_,λb o x e=>?_,λb j e=>?_⟩];exact u.keep b o e (MA n) g c;exact u.slot b o e (MA n) g c;rw[XE (no b n)];exact u.free b o e (MA n) c;cases q:cs b with
 |some ob=>rw[f b ob q]at e;cases e
 |none=>rw[XE q];exact u.tups b i (by rwa[Vo q])
 cases q:cs b with
 |some ob=>rwa[G6 q,<-f b ob q]
 |none=>rw[XE q];exact u.frzs b o x (by rwa[Vo q])
 cases q:cs b with
 |some ob=>rw[f b ob q]at e;cases e
 |none =>
  obtain⟨m,z⟩:=u.tbls b j (by rwa[Vo q]);exact⟨m,by rwa[XE q]⟩
end
def G7(CX:Wd)(P:Program)(w:World)(K:Ox)(mg:Ow)(base:Heap)(N:OC)(qual:Str)(scope:Scope)(cl:Oy)(f:Addr)(cd:Value)(A:Around)(outer:List Env)(s:Shared)(H:Hp)(E:XK):Cx where
 prog:=P
 w:=w
 K:=K
 mg:=mg
 base:=base
 A:=A.deeper (W.envX qual scope s.heap.objs.size f cd cl)
 N:=N
 s₀:=s
 H₀:=H
 env:=W.envX qual scope s.heap.objs.size f cd cl
 outer:=outer
 stack:=W.envX qual scope s.heap.objs.size f cd cl::outer
 ex:=[]
 calm:=true
 fn:=λ_=>false
 pn:=[]
 xe:=λe h=>wpAny (model P w) (A.deeper (W.envX qual scope s.heap.objs.size f cd cl)) (leaving (W.envX qual scope s.heap.objs.size f cd cl) e) (λ_ c=>CX outer H s E e c) (λg c=>CX outer H s E g c) h
section
variable{N:OC}{qual:Str}{cl:Oy}{f:Addr}{cd:Value}{outer:List Env}{E:XK}
def G8:WB (Yf P w) (G7 (Yf P w) P w K mg base N qual scope cl f cd A outer s H E) E:=by
 intro pins x T U e j I D;ext⟨a,C,v,rfl,os,bare,un,hok,⟨B,t,S,ha,M⟩,o,i,y⟩ D;have c:Za (G7 (Yf P w) P w K mg base N qual scope cl f cd A outer s H E) pins x v j:=I.call' os un hok bare λb z=>nomatch z;have J:(A.deeper (PySem.W.envX qual scope s.heap.objs.size f cd cl)).frames=some (PySem.W.envX qual scope s.heap.objs.size f cd cl::outer):=I.ok.frames;have sn:s.heap.get? s.heap.objs.size=none:=Heap.get?_none_of_le (Sg _);erw[KC.with (e:=a) (W:=λg=>Heap.FlyingW B outer a C (.ref t) g/\j.heap.UpToSlots g) (Tq _ _) i (wpAny_leaves_onW (L:=s.heap.objs.size) J R S λg n up=>⟨g,R,n,up⟩) λg ⟨n,up⟩ i=>?_];have frd:=c.frd;obtain⟨O,G,Q⟩:=NZ (P:=P) (w:=w) (L:=s.heap.objs.size) (h1:=j.heap) R sn c.base c.hok c.stkFree (λb h o e=>frd b (Me h) o e) (λb o e h hn=>M b o e (h.imp (λ⟨u,q⟩=>I.base.there b u q λz=>nomatch z) id) hn) n ha up;exact⟨a,C,v,R,c.os,c.bare,O,G,Q,o,i,y⟩
end
structure zI(N:OC)(scope:Scope)(cl:Oy)(vs:List V)(cs:Addr->Option Obj):Prop where
 len:vs.length=N.length
 val:∀(i:Nat) (x:Str) (v:V),N[i]? = some x->vs[i]? = some v->∃c o u,cl.lookup x=some c/\cs c=some o/\o.data=.cell (some u)/\ZQ v u
 cell:∀x c,cl.lookup x=some c->∃o v,cs c=some o/\o.data=.cell v
 inj:∀x y c,cl.lookup x=some c->cl.lookup y=some c->x=y
 has:∀x,(scope.names.lookup x=some .cell\/scope.names.lookup x=some .free)->∃c,cl.lookup x=some c
 fre:∀x∈N,scope.names.lookup x=some .free
 dat:∀b o,cs b=some o->∃v,o.data=.cell v
def Zly{CX:Wd}{N:OC}{qual:Str}{cl:Oy}{f:Addr}{cd:Value}{outer:List Env}{E:XK}{vs:List V}{cs:Addr->Option Obj}{h':Heap}{m:Ow}{tk:Nat}
  (M:scope.kind=.function) (hd:A.handled=none) (g:Ub P w K mg base A outer s H) (j:zI N scope cl vs cs) (G:∀b o,cs b=some o->s.heap.get? b=some o/\H b=none)
  (S:h'.Ns s.heap.objs.size m) (B:∀b o,s.heap.get? b=some o->h'.get? b=some o):Za (G7 CX P w K mg base N qual scope cl f cd A outer s H E) [] (vs.map some) H {s with heap:=h',toks:=tk}:=by
 have D:∀b:Addr,b∉(G7 CX P w K mg base N qual scope cl f cd A outer s H E).ex:=λb z=>Os (show b∈([]:OH)from z) (by simp);refine⟨⟨g.mod,M,R,R,Sg _,j.inj,j.has,(λ_ _ z=>nomatch z),λ_=>hd,Around.frames_deeper g.frames,.inr ⟨R,R⟩,λb z=>Os z (D b),g.bs,g.bsz,λb _ _=>D b,λb z=>Os z (D b),g.funs,g.frf⟩,
  rfl,g.bare,Un.kept B,⟨m,S,λi x v I n T=>?_⟩,λx c h=>?_,g.hok.fresh (Sg _),λx c h=>?_,λp O=>Os (show p∈([]:Ov)from O) (by simp),g.hok.kept B,?_⟩
 have J:vs[i]? = some v:=by
  rw[Oa]at n;cases e:vs[i]? with
  |none=>rw[e]at n;cases n
  |some a=>rw[e]at n;exact So n ▸ R
 obtain⟨c,o,u,y,C,Q,L⟩:=j.val i x v I J;exact⟨u,L,.inr ⟨.inr (j.fre x (SK I)),c,y,o,B _ _ (G c o C).1,Q⟩⟩;obtain⟨o,v,y,C⟩:=j.cell x c h;exact⟨v,o,B _ _ (G c o y).1,C⟩;obtain⟨o,v,y,C⟩:=j.cell x c h;exact(G c o y).2;show(vs.map some).length=N.length;rw[Sv,j.len]
def zJ(P:Program)(w:World)(K:PySem.W.Frag)(mg:Ow)(base:Heap)(k:Nat)(f:Addr)(H:Hp)(W:VK->XK->Prop):Prop :=
 (∀h:Heap,Yp P w H h->PySem.W.FnAt f h)/\∀(A:Around) (outer:List Env) (s:Shared) (Q:VK) (E:XK),Yv k A->Ub P w K mg base A outer s H->W Q E->codeAny (model P w) A (.call (.ref f) ⟨[],[]⟩) (CR (Yf P w) outer P w H s Q E) s
def Zlz{k:Nat}{f i:Addr}{qual:Str}{params:Arguments}{body:Expr}{cl:Oy}{pm S:Value}{N:OC}{vs:List V}{cs:Addr->Option Obj}{te:XK->TE}
  (X:H f=some (Uo f qual params body scope cl pm i S)) (c0:H i=some (VS i qual)) (m0:scope.isCoroutine=false) (o0:scope.isGenerator=false) (Z:scope.kind=.function) (g0:∀x∈scope.names,x.2≠.cell)
  (h:bindArgs (W.kla_fn "<lambda>" qual params body scope cl pm (.ref i) S) ⟨[],[]⟩=pure []) (T:zI N scope cl vs cs) (B:∀b o,cs b=some o->H b=some (G5 o))
  (b0:∀(A:Around) (outer:List Env) (s:Shared) (E:XK),Yv k (A.deeper (W.envX qual scope s.heap.objs.size f (.ref i) cl))->PE (G7 (Yf P w) P w K mg base N qual scope cl f (.ref i) A outer s (unl cs H) E) body (te E)) :
  zJ P w K mg base (k+1) f H λQ E=>te (λC o c=>(∀b ob,cs b=some ob->c b=none)->E C o (lent cs c)) (vs.map some) (unl cs H) λv c=>(∀b ob,cs b=some ob->c b=none)->Q v (lent cs c):=by
 erw[⟨λp0 ok=>?_,λA outer s Q E M g hW=>?_⟩];have z:=(ok f _ X).1;exact⟨_,_,_,_,z⟩;have y:∀b o,cs b=some o->s.heap.get? b=some o:=λb o q=>by
  obtain⟨z,_⟩:=g.hok b _ (B b o q);exact z
 have i0:∀b o,cs b=some o->b∉Ye outer:=λb o q z=>by
  have:=g.frf b z;rw[B b o q]at this;cases this
 have e1:Ub P w K mg base A outer s (unl cs H):=⟨g.frames,g.mod,λb o e=>⟨(g.bs b o e).1,MA (g.bs b o e).2⟩,g.bsz,g.funs,λb h=>MA (g.frf b h),g.hok.unl B,g.bare⟩;have d0:s.heap.NoLimit:=g.mod.nolimit.keeps λb o e=>(g.bs b o e).1;have ho:=(g.hok f _ X).1;have f0:=(g.hok i _ c0).1;have back:∀{c:Hp} {j:Heap},Un (Ye outer) [] (unl cs H) c s.heap j->Yp P w c j->Un (Ye outer) [] H (lent cs c) s.heap j/\Yp P w (lent cs c) j/\(∀b o,cs b=some o->j.get? b=some o)/\∀b o,cs b=some o->c b=none:=λ{c j} u ok=>by
  have D:∀b o,cs b=some o->j.get? b=some o/\c b=none:=λb o q=>⟨u.keep b o (y b o q) (A4 q) (i0 b o q) (λz=>nomatch z),u.free b o (y b o q) (A4 q) λz=>nomatch z⟩;exact⟨u.relend B,ok.lent D,λb o q=>(D b o q).1,λb o q=>(D b o q).2⟩
 erw[W.kla_callFunE M.depth ho R m0 o0 R f0 ?_];rw[h];erw[Sb ?_];erw[wpAny_newFunctionEnv g0 (λx hx=>nomatch hx) (λh' l0 a0=>?_) Z];erw[⟨d0.fresh _ a0,?_⟩];have h0:∀b o,s.heap.get? b=some o->h'.get? b=some o:=λb o e=>a0.extBut b o (Sf (Se e)) (Sc _ e);show codeAny (model P w) A (.expr body (W.envX qual scope s.heap.objs.size f (.ref i) cl)) _ _;erw[W.kla_codeExpr ?_];have j0:=Zly (CX:=Yf P w) (E:=λC o c=>(∀b ob,cs b=some ob->c b=none)->E C o (lent cs c)) (f:=f) (cd:=.ref i) (qual:=qual) (tk:=s.toks+([]:List (Str×Value)).length) Z M.hd e1 T (λb o q=>⟨y b o q,A4 q⟩) l0 h0;have conv:∀(e:Value) (n:Shared),Yf P w outer (unl cs H) s (λC o c=>(∀b ob,cs b=some ob->c b=none)->E C o (lent cs c)) e n->Yf P w outer H s E e n:=by
  rintro e n ⟨a,C,c,rfl,os,bare,un,hok,⟨n0,t,fl,ha,k0⟩,o,nc,hE⟩;obtain⟨O,L,u3,I⟩:=back un hok;erw[⟨a,C,lent cs c,R,os,bare,O,L,⟨n0,t,fl,?_,λb o e h hn=>k0 b o e ?_ hn⟩,o,nc,hE I⟩];cases q:cs a with
  |none=>rw[XE q];exact ha
  |some o =>
   ext⟨ob,q0,q1,_,Y,_⟩ fl.first;obtain⟨v,q3⟩:=T.dat a o q;rw[u3 a o q]at q1;obtain rfl:=So q1;rw[q3]at Y;cases Y
  rcases h with h|⟨u,h⟩;exact .inl h;cases q:cs b with
  |none=>rw[XE q]at h;exact .inr ⟨u,h⟩
  |some U=>exact .inl ⟨U,y b U q⟩
 erw[Oq (b0 A outer s _ (M.deeper _) [] _ (vs.map some) (unl cs H) _ j0 hW) (λu s' G=>?_) λe s' G=>?_];ext⟨v,c,J,rv,q⟩ G;obtain⟨O,L,_,I⟩:=back J.base J.hok;exact⟨v,lent cs c,J.os,J.bare,O,L,rv,q I⟩;exact Oq G (λ_ n z=>conv e n z) λe' n z=>conv e' n z
inductive Zcx(P:Program)(w:World)(K:PySem.W.Frag)(mg:Ow)(base:Heap)(k i:Nat)(E:XK)(σ:St)(H:Hp)(Q:VK):Prop|mk f W (_:σ[i]? = some (some (.ref f))) (_:zJ P w K mg base k f H W) (_:W Q E)
def ZlA{E:XK}(L:X.N[i]? = some x)(G:LO X.env.scope x)(S:Yv k X.A)(J:WB (Yf X.prog X.w) X E)(hd:(x==("__debug__" : Str))=false:=by lia) (y:(x==("__classdict__" : Str))=false:=by lia) :
  PE X (.Call (.Name x p) [] [] O) (Zcx X.prog X.w X.K X.mg X.base k i E):=by
 intro pins s j H Q I h;ext⟨f,W,e,⟨M,T⟩,Y⟩ h;erw[wpAny_Call_Name_kw ?_];erw[Zy (ZaG L G hd y pins s j H (λv B=>v=.ref f/\B=H) I ⟨_,e,R,R⟩) λu n ⟨v,Z,g,r,D,C⟩=>?_];subst D C;obtain rfl:u=Value.ref f:=r;erw[PySem.W.callWith_F0 (M _ g.hok) ?_];erw[wpAny_call (codeAny_mono (T X.A X.stack n Q E S g.env0 Y) λr P c=>?_)];cases r with
 |error e=>exact J pins j _ n e P g c
 |ok U =>
  cases U with
  |ret u=>exact g.after c
  |next=>exact False.elim c
  |brk=>exact False.elim c
  |cont=>exact False.elim c
structure Pj(FN:List (Str×Nat))(cl:Oy)(cs:Addr->Option Obj)(σ:St)(H:Hp):Prop where
 free:∀b o,cs b=some o->H b=none/\∃v,o.data=.cell v
 cell:∀x c,cl.lookup x=some c->∃o v,cs c=some o/\o.data=.cell v
 val:∀p∈FN,∀v,σ[p.2]? = some (some v)->∃c o u,cl.lookup p.1=some c/\cs c=some o/\o.data=.cell (some u)/\ZQ v u
theorem VO.mem:∀{cl:Oy},VO X cl->(y,c)∈cl->X.env.cells.lookup y=some c
 |(z,d)::r,h,e=>by
  rcases SF.mp e with e|e;cases e;exact h.1;exact VO.mem h.2 e
def zK(sp:Sp)(FN:List (Str×Nat))(cl:Oy)(h:TE):TE:=λc H Q=>h c H λv f=>∀cs:Addr->Option Obj,Pj FN cl cs c f->sp [v] (lent cs f) (λr g=>Q r (unl cs g)) λ_ _ _=>False
def G9{cl:Oy}{p : Pos}(F:Zl X.prog X.w X.K X.mg X.base Zo k f fd L sp)(hr:Yv k X.A)(hg:Gl X x)(hm:X.mg x=some (.ref f))(hk:W.keepIn X.K (.ref f)=true)(u:XB X.K fd L [])
  (g0:∀y,X.fn y=true) (S:VO X cl) (h0:∀p∈FN,X.N[p.2]? = some p.1/\X.env.scope.names.lookup p.1=some .cell/\∃c,X.env.cells.lookup p.1=some c/\cl.lookup p.1=some c) (he:PE X e Z) (b0:Xm e=true:=by rfl) (l0:(x==("__debug__" : Str))=false:=by lia) :
  PE X (.Call (.Name x p) [e] [] a0) (zK sp FN cl Z):=by
 intro pins s H k0 j0 I f0;erw[wpAny_Call_Name_kw (V7 I hg hm ?_ l0)];erw[W.callWith_K (h₀:=X.base) I.ok.mod.kin hk (Zy ((Za2 he YZ (TJ b0)) a0 pins s H k0 (λJ B=>match J with|[v]=>∀cs:Addr->Option Obj,Pj FN cl cs H B->sp [v] (lent cs B) (λr H2=>j0 r (unl cs H2)) (λ_ _ _=>False)|_=>False) I f0) λE h ⟨J,B,g,r,q⟩=>⟨g.kIn,?_⟩) (TJ b0) R]
 match J,q,r with
 |[],q,_=>exact q.elim
 |_::_::_,q,_=>exact q.elim
 |[v],q,r =>
  have G:∀b o,(if b∈cl.map (·.2)then h.heap.get? b else none)=some o->(∃y,X.env.cells.lookup y=some b)/\h.heap.get? b=some o:=λb o e=>by
   by_cases u:b∈cl.map (·.2);rw[SV u]at e;obtain⟨⟨y,c⟩,i,ec⟩:=SJ.mp u;obtain rfl:c=b:=ec;exact⟨⟨y,S.mem i⟩,e⟩;rw[SU u]at e;cases e
  have M:∀b o,(if b∈cl.map (·.2)then h.heap.get? b else none)=some o->h.heap.get? b=some o/\B b=none:=λb o e=>by
   obtain⟨⟨y,i⟩,e⟩:=G b o e;exact⟨e,g.freeC y b i⟩
  have big:∀b o,(if b∈cl.map (·.2)then h.heap.get? b else none)=some o->X.s₀.heap.objs.size<=b:=λb o e=>by
   obtain⟨⟨y,i⟩,_⟩:=G b o e;exact g.ok.cab y b (g0 y) i
  have lk:∀y c,cl.lookup y=some c->∃v,h.heap.IsCell c v/\c∈cl.map (·.2):=λy c e=>by
   obtain⟨v,z⟩:=g.cell y c (S.at e);exact⟨v,z,SJ.mpr ⟨(y,c),PySem.mem_of_lookup e,R⟩⟩
  have LC:Pj FN cl (λb=>if b∈cl.map (·.2)then h.heap.get? b else none) H B:=by
   erw[⟨λb o e=>⟨(M b o e).2,?_⟩,λy c e=>?_,λp hp v ev=>?_⟩];obtain⟨⟨y,i⟩,e⟩:=G b o e;obtain⟨v,C,z1,P⟩:=g.cell y b i;rw[e]at z1;obtain rfl:=So z1;exact⟨v,P⟩;obtain⟨v,⟨o,z1,P⟩,O⟩:=lk y c e;exact⟨o,v,by rwa[SV O],P⟩;obtain⟨q1,j,c,q3,Y⟩:=h0 p hp;ext⟨m,hn,Q⟩ g.loc;obtain⟨c0,ru,l⟩:=Q p.2 p.1 v q1 ev (.inr (.inl j));obtain⟨_,_,O⟩:=lk p.1 c Y;rcases l with⟨z,_⟩|⟨_,c',e',o,ho,hd⟩;rw[show X.env.kindOf p.1=X.env.scope.names.lookup p.1 from R,j]at z;cases z;rw[q3]at e';obtain rfl:=So e';exact⟨c,o,c0,Y,by rw[SV O];exact ho,hd,ru⟩
  have n:=g.env0;have e1:Ub X.prog X.w X.K X.mg X.base X.A X.stack h (lent (λb=>if b∈cl.map (·.2)then h.heap.get? b else none) B):=by
   erw[⟨n.frames,n.mod,λb o e=>⟨(n.bs b o e).1,?_⟩,n.bsz,n.funs,λb u=>?_,n.hok.lent M,n.bare⟩];cases j:(λb=>if b∈cl.map (·.2)then h.heap.get? b else none) b with
   |none=>rw[XE j];exact(n.bs b o e).2
   |some C =>
    have:=big b C j;exact Os (Si (Se e) g.ok.bsz) (Og.mpr this)
   cases j:(λb=>if b∈cl.map (·.2)then h.heap.get? b else none) b with
   |none=>rw[XE j];exact n.frf b u
   |some C =>
    have h1:=big b C j;obtain⟨⟨y,i⟩,_⟩:=G b C j;rcases SF.mp (g.stkSub b u)with z|z;exact Os z (g.cne y b i);obtain⟨_,o2,i0,_⟩:=g.ok.funs.mem z;exact Os (Se i0) (Og.mpr h1)
  have T:=q _ LC;have U:ZC ([v]++[]) (E++[]):=r.append .nil;have Q:(E++[]).length=L.length:=by rw[<-U.length];exact F.len _ _ _ _ T
  erw[wpAny_call (codeAny_mono (F.run X.A X.stack h _ ⟨E,[]⟩ (E++[]) ([v]++[]) _ _ hr e1 (u h E g.kIn Q) U T) λrr s' D=>?_)];cases rr with
  |error e=>exact False.elim D
  |ok fl =>
   cases fl with
   |next=>exact False.elim D
   |brk=>exact False.elim D
   |cont=>exact False.elim D
   |ret c0 =>
    ext⟨w',H',os,bare,un,hok,d0,q'⟩ D;exact g.after ⟨w',_,os,bare,un.unlend M hok,hok.unl (λb o z=>un.frzs b o _ (G6 z)),d0,q'⟩
def A5{c:Type}(P:c->Prop):List c->Prop
 |[]=>True
 |a::r=>P a/\A5 P r
theorem MB{c:Type}{P:c->Prop}:∀{l:List c},A5 P l->∀a∈l,P a
 |_::_,h,a,m=>by
  rcases SF.mp m with rfl|m;exact h.1;exact MB h.2 a m
def I0{FN:List (Str×Nat)}{cl:Oy}(h:A5 (λp=>X.N[p.2]? = some p.1/\X.env.scope.names.lookup p.1=some .cell/\∃c,X.env.cells.lookup p.1=some c/\cl.lookup p.1=some c) FN) :
  ∀p∈FN,X.N[p.2]? = some p.1/\X.env.scope.names.lookup p.1=some .cell/\∃c,X.env.cells.lookup p.1=some c/\cl.lookup p.1=some c:=MB h
def ZlB{U:Ow}{CX:Wd}{k:Nat}{L a:Addr}{i:List (Addr×Addr)}{fd:OJ}{x:Str}{sp:Sp}{c:Shared}{vs:OB}{ns:OE}
  (KX:K.In c.heap) (a0:c.heap.Ns mainGlobals mg) (f:c.heap.Ns builtinsNs U) (l0:∀x:Str,x ≠ "__name__" -> U x=bootBuiltins x) (j0:c.heap.NoLimit) (hg:c.gens=#[])
  (ha:c.heap.get? a=some {cls:=.type "list",data:=.seq vs.toArray}) (hi:IntsAre vs ns) (hl:ns.length<=sizeLine) (hr:Yv k callerA)
  (Q:∀p∈i,W.CodeHd c.heap p.1 p.2/\c.heap.get? p.2=some (W.tabObj #[])/\K.lookup p.2=none) (g0:BM mg c.heap)
  (F:∀base:Heap,K.In base->base.Ns mainGlobals mg->(∀p∈i,W.CodeHd base p.1 p.2)->BM mg base->Zl P w K mg base CX k L fd [x] sp) (k0:∀(s:Shared) (u:Value),BindsTo s fd ⟨[u],[]⟩ [(x,u)])
  (m0:∀H:Hp,(∀p∈i,H p.2=some (.tbl #[]))->Zd K H a (ns.map V.int)->sp [.ref a] H (λv _=>v=.bl true) λ_ _ _=>False)
  (n0:∀H e n,CX [] H c (λ_ _ _=>False) e n->False) :
  codeAny (model P w) callerA (.call (.ref L) ⟨[.ref a],[]⟩) (λr n=>r=.ok (.ret (.bool true))/\OldK c.heap n.heap/\n.os=c.os/\AllBare n.gens) c:=by
 have rv:=Zbk hi;have s0:=hi.length;have D:∀{b:Addr},b∈i.map (·.2)->c.heap.get? b=some (W.tabObj #[])/\K.lookup b=none:=λ{b} f=>by
  obtain⟨p,C,rfl⟩:=SJ.mp f;exact(Q p C).2
 have aT:a∉i.map (·.2):=λz=>by rw[(D z).1]at ha;cases ha
 have core:∀H:Hp,(∀b,H b=none\/(b∈i.map (·.2)/\H b=some (.tbl #[]))\/∃o Z,H b=some (.frz o (.lst Z)))->(∀b∈i.map (·.2),H b=some (.tbl #[]))->Zd K H a (ns.map V.int)->Yp P w H c.heap->(∀b,H b≠none->b=a\/b∈i.map (·.2))->(H a≠none->K.lookup a=none) ->
   codeAny (model P w) callerA (.call (.ref L) ⟨[.ref a],[]⟩) (λr n=>r=.ok (.ret (.bool true))/\OldK c.heap n.heap/\n.os=c.os/\AllBare n.gens) c:=by
  intro H hO d0 hS hok S hK;have J:∀{b:Addr} {o:Obj},c.heap.get? b=some o->H b=none->(V6 c.heap H).get? b=some o:=λe o0=>ZhM e o0;have c0:∀{b:Addr} {o:Obj},c.heap.get? b=some o->o.cls≠.type "list" -> o.cls≠.none->H b=none:=λ{b o} e n1 n2=>by
   cases q:H b with
   |none=>rfl
   |some u =>
    rcases S b (by rw[q];simp)with rfl|f;rw[ha]at e;cases e;exact Os R n1;rw[(D f).1]at e;cases e;exact Os R n2
  have h0:∀{b:Addr} {o:Obj} {E:Array DictEntry} {G:Nat},c.heap.get? b=some o->o.data=.dict E G->H b=none:=λ{b o E G} e d=>by
   cases q:H b with
   |none=>rfl
   |some u =>
    rcases S b (by rw[q];simp)with rfl|f;rw[ha]at e;cases e;have d':Data.seq vs.toArray _=Data.dict E G:=d;cases d';rw[(D f).1]at e;cases e;cases d
  have I:∀{b:Addr} {m:Ow},c.heap.Ns b m->(V6 c.heap H).Ns b m:=λ{b m} ⟨o,E,G,e,d,r⟩=>⟨o,E,G,J e (h0 e d),d,r⟩;have f0:K.In (V6 c.heap H):=λb o e=>J (KX b o e) (by
   cases q:H b with
   |none=>rfl
   |some u =>
    rcases S b (by rw[q];simp)with rfl|f;rw[hK (by rw[q];simp)]at e;cases e;rw[(D f).2]at e;cases e)
  have i0:∀p∈i,W.CodeHd (V6 c.heap H) p.1 p.2:=λp C=>by
   obtain⟨o,ws,file,tf,flags,tg,p0,text,tt,e,T,r⟩:=(Q p C).1;exact⟨o,ws,file,tf,flags,tg,p0,text,tt,J e (c0 e (by rw[T];exact λz=>Os (Value.type.inj z) ()) (by rw[T];intro z;cases z)),T,r⟩
  have r0:BM mg (V6 c.heap H):=by
   ext⟨bm,ob,b1,b2,b3,b4,M,b6⟩ g0;exact⟨bm,ob,b1,b2,b3,J b4 (c0 b4 (by rw[M];exact λz=>Os (Value.type.inj z) ()) (by rw[M];intro z;cases z)),M,b6⟩
  have hM:Mod K mg (V6 c.heap H):=⟨f0,I a0,⟨U,I f,l0⟩,let ⟨mc,j,y⟩:=j0;⟨mc,I j,y⟩⟩;have e0:Ub P w K mg (V6 c.heap H) callerA [] c H:=⟨R,hM,λb o e=>ZhN e,Nat.le_of_eq (ZhL _ _),trivial,λb f=>Os (show b∈([]:OH)from f) (by simp),hok,.of_eq hg⟩;erw[codeAny_mono ((F _ f0 (I a0) i0 r0).run callerA [] c H ⟨[.ref a],[]⟩ [.ref a] [.ref a] _ _ hr e0 (k0 c (.ref a)) (.cons R .nil) (m0 H (λp C=>d0 p.2 (SJ.mpr ⟨p,C,R⟩)) hS)) λr n h=>?_];cases r with
  |error e=>exact(n0 H e n h).elim
  |ok fl =>
   cases fl with
   |next=>exact False.elim h
   |brk=>exact False.elim h
   |cont=>exact False.elim h
   |ret u =>
    ext⟨v,H',os,bare,un,b0,r',q⟩ h;have q':v=.bl true:=q;subst q';obtain rfl:u=Value.bool true:=r';have keep:∀b o,b∉i.map (·.2)->c.heap.get? b=some o->n.heap.get? b=some o:=λb o nT e=>by
     cases q:H b with
     |none=>exact un.keep b o e q (by intro z;exact Os (show b∈([]:OH)from z) (by simp)) (by simp)
     |some u =>
      rcases hO b with z|⟨z,_⟩|⟨ob,Z,z⟩;rw[q]at z;cases z;exact Os z nT;have z2:=un.frzs b ob _ z;obtain⟨e1,_⟩:=hok b _ z;obtain⟨e2,_⟩:=b0 b _ z2;rw[e]at e1;cases e1;exact e2
    have gT:∀b∈i.map (·.2),∃more:Array Value,n.heap.get? b=some {cls:=.none,data:=.fields (#[]++more)}:=λb f=>by
     obtain⟨more,hm⟩:=un.tbls b _ (d0 b f);exact⟨more,b0 b _ hm⟩
    erw[⟨R,⟨λb o e=>?_,λb o e=>?_⟩,os,bare⟩];by_cases z:b∈i.map (·.2);obtain⟨more,g⟩:=gT b z;obtain⟨p,C,rfl⟩:=SJ.mp z;obtain⟨q0,hT,_⟩:=Q p C;rw[hT]at e;obtain rfl:=So e;exact .inr (.inl ⟨(q0.tab hT).isCodeTable,R,#[],more,R,g⟩);exact .inl (keep b o z e);by_cases z:b∈i.map (·.2);obtain⟨more,g⟩:=gT b z;exact⟨_,g⟩;exact⟨o,keep b o z e⟩
 cases X:K.lookup a with
 |some o =>
  have e:=KX a o X;rw[ha]at e;cases e;erw[core (λb=>if b∈i.map (·.2)then some (.tbl #[])else none) (λb=>?_) (λb f=>SV f) (.inr ⟨_,vs.toArray,_,X,R,R,R,by rw[SN,s0];exact hl,by simpa using rv⟩) (λb u z=>?_) (λb z=>?_) λz=>Os (SU aT) z];by_cases f:b∈i.map (·.2);exact .inr (.inl ⟨f,SV f⟩);exact .inl (SU f);by_cases f:b∈i.map (·.2);have B:=(SV f).symm.trans z;cases B;exact(D f).1;have B:=(SU f).symm.trans z;cases B;by_cases f:b∈i.map (·.2);exact .inr f;exact Os (SU f) z
 |none =>
  have Y:∀b,b∉i.map (·.2)->b≠a->(λb=>if b∈i.map (·.2)then some (HO.tbl #[])else if b=a then some (.frz {cls:=.type "list",data:=.seq vs.toArray} (.lst (ns.map V.int)))else none) b=none:=λb j y=>by
   show(if b∈i.map (·.2)then _ else if b=a then _ else _)=none;rw[SU j,SU y]
  have O:(λb=>if b∈i.map (·.2)then some (HO.tbl #[])else if b=a then some (.frz {cls:=.type "list",data:=.seq vs.toArray} (.lst (ns.map V.int)))else none) a=some (.frz {cls:=.type "list",data:=.seq vs.toArray} (.lst (ns.map V.int))):=by
   show(if a∈i.map (·.2)then _ else if a=a then _ else _)=_;rw[SU aT,SV R]
  erw[core (λb=>if b∈i.map (·.2)then some (.tbl #[])else if b=a then some (.frz {cls:=.type "list",data:=.seq vs.toArray} (.lst (ns.map V.int)))else none) (λb=>?_) (λb f=>SV f) (.inl (.inr ⟨{cls:=.type "list",data:=.seq vs.toArray},O⟩)) (λb u z=>?_) (λb z=>?_) λ_=>X];by_cases j:b∈i.map (·.2);exact .inr (.inl ⟨j,SV j⟩);by_cases y:b=a;subst y;exact .inr (.inr ⟨_,_,O⟩);exact .inl (Y b j y);by_cases j:b∈i.map (·.2);have B:=(SV j).symm.trans z;cases B;exact(D j).1;by_cases y:b=a;subst y;have B:=O.symm.trans z;cases B;exact⟨ha,by rw[Sv];exact hl,vs,_,rv,ha⟩;have B:=(Y b j y).symm.trans z;cases B;by_cases j:b∈i.map (·.2);exact .inr j;by_cases y:b=a;exact .inl y;exact Os (Y b j y) z
def ZlC{l:W.OpenLaw}{n k:Nat}{q:Program}{loose:OC}{XP:(Str->Option Value)->Heap->Prop}{I:World->Heap->Prop}{d:DefRec}{K:Params->W.Frag}{CX:Wd}{sp:W.Frag->List Addr->Sp}{x:Str}{ts:OH}
  (hn:l.most=some n) (S:n<=sizeLine) (e0:d.params.defaults=[]) (hr:Yv k callerA)
  (hY:∀(w:World) (h:Heap),I w h->(K w.params).In h/\∀P∈ts,h.get? P=some (W.tabObj #[]))
  (F:∀(u:OH),u=ts->∀(w:World) (mg:Ow) (j:Addr) (h:Heap),(K w.params).In h->h.Ns mainGlobals mg->mg d.name=some (.ref j) ->
   ∃i:List (Addr×Addr),(∀p∈i,(W.codeHdIn (K w.params) p.1 p.2=true/\p.2∈u)/\(K w.params).lookup p.2=none)/\∃C:FuncData,(∀(s:Shared) (u:Value),BindsTo s C ⟨[u],[]⟩ [(x,u)]) /\
    ∀base:Heap,(K w.params).In base->base.Ns mainGlobals mg->(∀p∈i,W.CodeHd base p.1 p.2)->BM mg base->Zl l.prog w (K w.params) mg base CX k j C [x] (sp (K w.params) (i.map (·.2))))
  (M:∀(K:Ox) (i:OH) (H:Hp) (a:Addr) (ns:OE),ns.length<=n->(∀T∈i,H T=some (.tbl #[]))->Zd K H a (ns.map V.int)->sp K i [.ref a] H (λv _=>v=.bl true) λ_ _ _=>False)
  (a0:∀(H:Hp) (s:Shared) (e:Value) (s':Shared),CX [] H s (λ_ _ _=>False) e s'->False) :
  W.WalkO q loose XP I l.row.toRowW d [] (λf vs=>PySem.call f vs):=by
 erw[Att.attach_call hn e0 λw s₀ D mg mb j o pm cd h0 a vs ns G d0 ho hd g0 Z c0 hints hlen hg=>?_];obtain⟨KX,b0⟩:=hY w _ d0;obtain⟨i,ht,C,O,hF⟩:=F ts R w mg j _ KX G.T.g Z;have f0:∀p∈i,W.CodeHd D.heap p.1 p.2/\D.heap.get? p.2=some (W.tabObj #[])/\(K w.params).lookup p.2=none:=λ⟨c,T⟩ E=>by
  obtain⟨⟨Q,h2⟩,h3⟩:=ht (c,T) E;exact⟨W.codeHd_of_K KX Q,b0 _ h2,h3⟩
 ext⟨J,ob,b1,L,B,b4,b5,y⟩ G.T.bmain;have U:J≠mainGlobals:=λz=>by
  ext⟨o',es,ep,e,X,_⟩ G.T.g;rw[z,e]at B;cases B;rw[X]at y;cases y
 exact ZlB KX G.T.g G.T.b G.T.builtins G.T.nolimit hg c0 hints (Sh hlen S) hr f0 ⟨J,ob,b1,L,U,B,b4,b5,y⟩ hF O (λH hH Y=>M _ _ H a ns hlen (λT hT=>by obtain⟨p,E,rfl⟩:=SJ.mp hT;exact hH p E) Y) λH e s'=>a0 H D e s'
theorem on0{c:Type}{P:List c->Prop}(h:P []):∀us:List c,us.length=0->P us
 |[],_=>h
theorem ZW{c:Type}{P:List c->Prop}(h:∀a0,P [a0]):∀us:List c,us.length=1->P us
 |[a0],_=>h a0
theorem YT{f:Type}{P:List f->Prop}(h:∀a0 c,P [a0,c]):∀us:List f,us.length=2->P us
 |[a0,c],_=>h a0 c
theorem UZ{g:Type}{P:List g->Prop}(h:∀a0 c f,P [a0,c,f]):∀us:List g,us.length=3->P us
 |[a0,c,f],_=>h a0 c f
theorem I3{i:Type}{P:List i->Prop}(h:∀a0 c g f,P [a0,c,g,f]):∀us:List i,us.length=4->P us
 |[a0,c,g,f],_=>h a0 c g f
theorem on5{j:Type}{P:List j->Prop}(h:∀a0 g i c f,P [a0,g,i,c,f]):∀us:List j,us.length=5->P us
 |[a0,g,i,c,f],_=>h a0 g i c f
section
variable{σ:St}
def Za.refit(I:Za X pins σ H s)(e:H d=some v)(nt:∀xs,v≠.tup xs)(C:∀g,v≠.tbl g)(no:∀x,v≠.own x)(nf:∀o u,X.H₀ d≠some (.frz o u))(ok:Yo X.prog X.w H s.heap d u):Za X pins σ (upd H d u) s:=by
 have ne:∀b,H b=none->b≠d:=λb n z=>by rw[z,e]at n;cases n
 have tup:∀b xs,H b=some (.tup xs)->upd H d u b=some (.tup xs):=λb xs q=>by
  rwa[Zj λz=>by rw[z,e]at q;exact nt xs (So q)]
 have own:∀b x,H b=some (.own x)->upd H d u b=some (.own x):=λb x q=>by
  rwa[Zj λz=>by rw[z,e]at q;exact no x (So q)]
 erw[⟨I.ok,I.os,I.bare,⟨I.base.keep,I.base.slot,λb o q n y=>?_,I.base.there,λb xs q=>tup b xs (I.base.tups b xs q),λb o w q=>?_,λb g q=>?_⟩,I.loc,I.cell,?_,λx c q=>?_,λp D=>?_,λb w q=>?_,I.len⟩];have:=I.base.free b o q n y;rw[Zj (ne b this)];exact this;have z:b≠d:=λz=>nf o w (by rwa[<-z]);rw[Zj z];exact I.base.frzs b o w q;obtain⟨more,f⟩:=I.base.tbls b g q;exact⟨more,by rwa[Zj λz=>by rw[z,e]at f;exact C _ (So f)]⟩;rw[Zj (ne _ I.free)];exact I.free;rw[Zj (ne _ (I.freeC x c q))];exact I.freeC x c q;obtain⟨B,i,j⟩:=I.pin p D;exact⟨B,by rwa[Zj (ne _ i)],j⟩;by_cases h:b=d;subst h;rw[Zh]at q;obtain rfl:=So q;exact ok.stay (λ_ _ _ q=>q) (λc q=>own c _ q) tup;rw[Zj h]at q;exact(I.hok b w q).stay (λ_ _ _ q=>q) (λc q=>own c _ q) tup
def Pk(u:HO):Prop:=(∃c,u=.dK c)\/∃c,u=.dT c
def Pk.nt(h:Pk u):(∀xs,u≠.tup xs)/\(∀c,u≠.tbl c)/\(∀x,u≠.own x)/\∀o v,u≠.frz o v:=by
 rcases h with⟨_,rfl⟩|⟨_,rfl⟩<;>exact⟨(),(),(),()⟩
def Za.freeze(I:Za X pins σ H s)(e:H d=some u)(c:Pk u):∃o,Za X pins σ (upd H d (.frz o u)) s/\∀o u,X.H₀ d≠some (.frz o u):=by
 ext⟨h,j,g,i⟩ c.nt;have nf:∀o u,X.H₀ d≠some (.frz o u):=λo v q=>by
  have:=I.base.frzs d o v q;rw[e]at this;exact i _ _ (So this)
 have ok:=I.hok d u e;obtain⟨o,f⟩:∃o,s.heap.get? d=some o:=by
  rcases c with⟨_,rfl⟩|⟨_,rfl⟩;ext⟨_,_,_,_,o,_,_,q,_⟩ ok;exact⟨o,q⟩;ext⟨_,_,_,_,o,_,_,q,_⟩ ok;exact⟨o,q⟩
 exact⟨o,I.refit e h j g nf ⟨f,ok⟩,nf⟩
def Za.thaw(I:Za X pins σ H s)(e:H d=some (.frz o u))(nf:∀o u,X.H₀ d≠some (.frz o u)):Za X pins σ (upd H d u) s :=
 I.refit e () () () nf (I.hok d _ e).2
inductive ZlD(t:TS)(D:WL)(σ:St)(H:Hp):Prop|mk d u (_:H d=some u) (_:Pk u) (_:∀o,t {nx:=λσ' H'=>H' d=some (.frz o u)/\D.nx σ' (upd H' d u),rt:=λv H'=>H' d=some (.frz o u)/\D.rt v (upd H' d u),bk:=λσ' H'=>H' d=some (.frz o u)/\D.bk σ' (upd H' d u),ct:=λσ' H'=>H' d=some (.frz o u)/\D.ct σ' (upd H' d u)} σ (upd H d (.frz o u)))
def Pl{st:Stmt}{t:TS}(h:PS X st t):PS X st (ZlD t):=by
 intro pins s σ H D I q;ext⟨d,u,e,x,q⟩ q;obtain⟨o,B,nf⟩:=I.freeze e x;erw[Zy (h pins s σ _ _ B (q o)) λf C r=>?_];cases f with
 |next=>ext⟨j,n,c,g,i⟩ r;exact⟨j,_,c.thaw g nf,i⟩
 |cont=>ext⟨j,n,c,g,i⟩ r;exact⟨j,_,c.thaw g nf,i⟩
 |brk=>ext⟨j,n,c,g,i⟩ r;exact⟨j,_,c.thaw g nf,i⟩
 |ret v=>ext⟨y,j,n,c,r1,g,i⟩ r;exact⟨y,j,_,c.thaw g nf,r1,i⟩
end
def ZlE(h:(XN P w).is k u=true):ZQ (kV k) u:=by
 cases k with
 |inl i=>exact Value.isInt_shape h
 |inr z=>exact Value.isStrOf_shape h
theorem KV.at(r:KV f vs):∀{i:Nat} {c:ZF×V},f[i]? = some c->∃u,vs[i]? = some (c.1,u)/\ZQ c.2 u:=by
 induction r with
 |nil=>intro i c e;cases e
 |@cons a b j n h _ g =>
  intro i c e;cases i with
  |zero =>
   obtain rfl:=So e;exact⟨b.2,by rw[List.getElem?_cons_zero,h.1],h.2⟩
  |succ i =>
   rw[List.getElem?_cons_succ]at e;obtain⟨u,x,y⟩:=g e;exact⟨u,by rwa[List.getElem?_cons_succ],y⟩
def MC(d:Addr)(ob:Obj)(c:List (ZF×V)):It :=
 ⟨λi H=>H d=some (.frz ob (.dK c))/\i<c.length,λi H v g=>∃p f,H p=none/\c[i]? = some f/\v=.ref p/\g=upd H p (.tup [kV f.1,f.2]),λi H=>H d=some (.frz ob (.dK c))/\c.length<=i⟩
def zL{ob:Obj}(I:Za X pins n H s)(e:H d=some (.frz ob (.dK h))) :
  (d==sysModules)=false/\∃vs c f,KV h vs/\s.heap.DictAt (XN X.prog X.w) d vs c/\ob.data=.dict f c:=by
 obtain⟨g,x,u,vs,v,o,f,c,i,r1,j,r3⟩:=I.hok d _ e;rw[g]at i;obtain rfl:=So i;exact⟨u,vs,c,f,v,⟨_,f,g,r1,j,r3⟩,j⟩
def ZlF{f:OD}{k:Nat}{d0:Pos}(d it:Addr)(ob:Obj)(u:List (ZF×V))(j0:d≠it) :
  UK P w K (.Tuple f k d0) (MC d ob u) [it] it (λi h=>∃g f ok n,IsItemIter h it d i u.length g ok n/\ob.data=.dict f g) where
 mem:=by simp
 obj:=λi h st b j=>by
  ext⟨g,f,ok,n,c,_⟩ st;rw[SE.mp j];exact⟨_,c,λl0 z=>by cases z⟩
 keep:=λi h h' st kk=>by
  ext⟨g,f,ok,n,c,hd⟩ st;exact⟨g,f,ok,n,kk it (by simp) _ c,hd⟩
 item:=by
  intro f0 O Q C U i pins s σ i0 E I J st L;subst O Q C;ext⟨g,f,ok,n,c,hd⟩ st;ext⟨M,T⟩ L;obtain⟨hs,H,G,D,B,hm,v⟩:=zL I M;rw[hd]at v;obtain⟨rfl,rfl⟩:f=D/\g=G:=by injection v with a b;exact⟨a,b⟩
  have hlen:H.length=u.length:=(Paired.length B).symm;obtain⟨x,X⟩:∃x,u[i]? = some x:=⟨_,Ss T⟩;obtain⟨e0,hu,ru⟩:=KV.at B X;rw[<-hlen]at c;erw[wpAny_pyNext_items_item c hm hu λg0 h1 b0 ho hT k0 hk=>⟨_,R,?_⟩];erw[wpAny_letOwnedTupleGo_items (s:={s with heap:=h1}) ho λY c0 S=>?_];have a0:it<s.heap.objs.size:=Se c;have h0:Y.get? s.heap.objs.size=some {cls:=.type "tuple",data:=.seq #[g0,e0]}:=(S.2 _ (Nat.ne_of_gt a0)).trans hT;obtain⟨I2,n2⟩:=I.paired (t':=s.toks) (fp:=[it]) (x:=kV x.1) (y:=x.2) (h':=Y) J (λb j=>by
   rw[SE.mp j];exact⟨_,c⟩) (λb o j q=>by
   have Z:b≠it:=λz=>j (by simp[z]);exact(S.2 b Z).trans (hk b o Z q)) h0 (ZlE b0) ru
  erw[⟨.ref s.heap.objs.size,_,I2,R,⟨_,x,I.hok.fresh (Sg _),X,R,R⟩,⟨g,f,_,_,by rwa[<-hlen],hd⟩,n2⟩]
 done:=by
  intro f0 O Q C U i pins s σ i0 E I J st L;subst O Q C;ext⟨g,f,ok,n,c,hd⟩ st;ext⟨M,T⟩ L;obtain⟨hs,H,G,D,B,hm,v⟩:=zL I M;rw[hd]at v;obtain⟨rfl,rfl⟩:f=D/\g=G:=by injection v with a b;exact⟨a,b⟩
  have hlen:H.length=u.length:=(Paired.length B).symm;rw[<-hlen]at c;exact wpAny_pyNext_items_end (I.ok.hd U) c hm (List.getElem?_eq_none ()) λh' eb=>⟨R,I.turnedL (t':=s.toks) (fp:=[it]) (λb o j q=>eb b o (λz=>j (by simp[z])) q) J⟩
 self:=λA i s m0 E st h=>by
  ext⟨g,f,ok,n,c,_⟩ st;exact W.kcp_self c h
inductive ZlG(R:It->Hp->Prop)(x:V)(H1:Hp):Prop|mk d ob kvs (_:x=.ref d) (_:H1 d=some (.frz ob (.dK kvs))) (_:R (MC d ob kvs) H1)
def ZlH(f:TE):TI:=λg H c=>f g H λx h=>ZlG c x h
def Pm{P:OD}{k:Nat}{tp:Pos}{o:Expr}{u:TE}{apos i:Pos}(G:PE X o u)(Z:attributeBase o "items" X.env (eval o X.env)=eval o X.env:=by rfl) (J:(apos.endLine==i.line)=true:=by rfl) :
  PI X (.Tuple P k tp) (.Call (.Attribute o "items" apos) [] [] i) (ZlH u):=by
 intro pins s C H R I h;erw[wpAny_Call_method0_late Z J (Zy (G pins s C H _ I h) λc0 c ⟨a0,U,f,r1,Y⟩=>?_)];ext⟨d,ob,g,rfl,hd,q⟩ Y;cases r1;obtain⟨L,j,T,E,Q,hm,O⟩:=zL f hd;obtain⟨S,d0,M,x,b0,_⟩:=id hm;erw[⟨"dict","dict.items",PySem.F.plainAttrs_dict,PySem.F.slot_dict_items,PySem.F.type_dict_items,hm.dictOf.typeIs,λa e=>by cases e;exact⟨S,M,x.2.1⟩,Calls.callWith_builtin rfl (PySem.evalArgs_none ?_)⟩];erw[call_meetsIn PySem.F.slot_dict_items hm.dictOf.typeIs PySem.F.entry_dict_items (PySem.F.args_dict_items_1 _) (meets_dict_items (XN X.prog X.w) d L) ⟨⟨j,hm.dictOf⟩,?_⟩];have D:=hm.push {cls:=.type "dict_items",data:=.fields #[.ref d]};erw[wpAny_pyIter_items (s:={c with heap:=c.heap.push {cls:=.type "dict_items",data:=.fields #[.ref d]} }) ⟨_,Sd _ rfl,rfl,rfl⟩ D ?_];have hlen:j.length=g.length:=(Paired.length Q).symm;have B:d<c.heap.objs.size:=hm.lt_size;have n:(c.heap.push {cls:=.type "dict_items",data:=.fields #[.ref d]}).objs.size=c.heap.objs.size+1:=by simp[Heap.push]
 erw[⟨(c.heap.push {cls:=.type "dict_items",data:=.fields #[.ref d]}).objs.size,[(c.heap.push {cls:=.type "dict_items",data:=.fields #[.ref d]}).objs.size],_,_,U,rfl,f.kept (t':=c.toks) (λb o e=>Sc _ (Sc _ e)),ZlF d _ ob g (by rw[n];exact Sf (Sn B)),⟨T,E,_,_,by rw[<-hlen];exact Sd _ rfl,O⟩,λb y=>?_,q⟩];have v:c.heap.objs.size<=b:=by rw[SE.mp y,n];exact Nat.le_succ _
 exact f.fpOk v (f.hok.fresh v)
def Pn{d:Addr}{ob:Obj}{f:List (ZF×V)}{g:TG}{I:TS}{D:WL}{c:St}(h:Nat->St->Hp->Prop)(J:h 0 c H)(P:∀i c H,i<=f.length->h i c H->H d=some (.frz ob (.dK f)))
  (M:∀i u p c H,f[i]? = some u->H p=none->h i c H->g (.ref p) c (upd H p (.tup [kV u.1,u.2])) λv C=>I {D with nx:=h (i+1),ct:=h (i+1),bk:=D.nx} v C) (hd:∀c H,h f.length c H->D.nx c H) :
  ∃W:Nat->Nat->St->Hp->Prop,(∃m,W 0 m c H)/\∀i m c H,W i m c H ->
   ((MC d ob f).stop i H/\D.nx c H)\/((MC d ob f).go i H/\∃N:St->Hp->Prop,(∀B j,N B j->∃G,G<m/\W (i+1) G B j)/\∀x j,(MC d ob f).yld i H x j->g x c j λv C=>I {D with nx:=N,ct:=N,bk:=D.nx} v C):=by
 erw[⟨λi m c H=>m=f.length - i/\i<=f.length/\h i c H,⟨f.length,by simp,Sk _,J⟩,?_⟩];rintro i m c H ⟨rfl,O,p⟩;have q:=P i c H O p;by_cases E:i<f.length;erw[.inr ⟨⟨q,E⟩,h (i+1),λB j n=>⟨f.length - (i+1),(),R,E,n⟩,λx j y=>?_⟩];ext⟨a,u,ha,L,rfl,rfl⟩ y;exact M i u a c H L ha p;have e:i=f.length:=by lia
 subst e;exact .inl ⟨⟨q,Sg _⟩,hd c H p⟩
open PySem PySem.Spec PyProof.Rows PySem.W
def ZlI:entryFor table "proto.unchain"=some Builtin.«proto.unchain»:=entryFor_of_tree (by kernel_rfl)
def ZlJ{f:Type}{a e:Addr}{ob:Obj}{vs:Array Value}{Q:f->Shared->Prop}(j:A.handled=some (.ref a))(ne:a≠e)(n:Wg s.heap a)
  (c:s.heap.get? e=some ob) (hd:ob.data=.fields vs) (i:2<vs.size) (h:E (.ref e) {s with heap:=s.heap.update e (Obj.mapFields (·.setIfInBounds 2 (.ref a)))}) :
  wpAny (model prog w) A (raiseNew (.ref e):Sem f) Q E s:=by
 ext⟨x,v,ha,u,g⟩ n;unfold raiseNew;erw[Sa (wpAny_handled ?_)];rw[j];dsimp only;rw[SV (show(Value.ref a != Value.ref e)=true by simp[ne])];erw[Sa (wpAny_holding (wpAny_runValue (codeAny_builtin ZlI ?_)))];unfold Builtin.«proto.unchain»;dsimp only;erw[Sa (wpAny_field ha u g ?_)];rw[SV (by rfl)];erw[Sb ?_];erw[Sa ?_];unfold updateField;erw[Sa (Op c ?_)];rw[hd];dsimp only;rw[SV i];erw[wpAny_update c ?_];exact wpAny_throw h
section
variable{env:Env}
variable{nm q:Str}{C N:Addr}{bs bm:OB}{hdct:Bool}{sn:OC}{sub:OB}{ab:Bool}{col:Option Bool}{dd:OF}{k0 k1 k2 k3 k5:Option Value}{newId:String}
def J0(h:Heap)(e a:Addr):Heap:=((h.update e (Obj.mapFields (·.setIfInBounds 3 .none))).update e (Obj.mapFields (·.setIfInBounds 4 (.bool true)))).update e (Obj.mapFields (·.setIfInBounds 2 (.ref a)))
def ZlK(S:bm.contains (.type "BaseException")=true) (O:A.handled=some (.ref a))
  (h:wpAny (model prog w) A x (λv c=>∃e t,v=.ref e/\c.heap.get? C=some (excClassObj nm q C N bs bm hdct sn sub ab col dd k0 k1 k2 k3 k5 newId)/\C≠e/\a≠e/\Wg c.heap a /\
   c.heap.get? e=some {cls:=.ref C,data:=.fields #[.ref t,.none,.none,.none,.bool false,.none]}/\E (.ref e) {c with heap:=J0 c.heap e a}) E s) :
  wpAny (model prog w) A (raiseStmt env (some x) (some (do let v <-(pure .none:Sem Value);standAt L;pure v))) Q E s:=by
 have P:(Value.ref C::bm).contains (.type "BaseException")=true:=by rw[List.contains_cons,S,Bool.or_true]
 unfold raiseStmt;erw[Sa (Oq h (λv c G=>?_) λ_ _ x=>x)];ext⟨e,t,rfl,i,T,f,D,u,B⟩ G;ext⟨U,g,d,tk,os⟩ c
 repeat (first|with_reducible refine wpAny_loadPart_at u ?_|with_reducible refine wpAny_loadPart_at i ?_|(with_reducible erw[wpAny_isSubtype_exc i ?_];rw[P])|wp_step)
 have M:({cls:=.ref C,data:=.fields #[.ref t,.none,.none,.none,.bool false,.none]}:Obj).data=.fields #[.ref t,.none,.none,.none,.bool false,.none]:=rfl;have j:=Obj.data_mapFields M (·.setIfInBounds 3 Value.none);have n:=Obj.data_mapFields j (·.setIfInBounds 4 (Value.bool true));have y:=Heap.get?_update_self (Obj.mapFields (·.setIfInBounds 3 Value.none)) u (Obj.isFreed_of_fields j);have J:=Heap.get?_update_self (Obj.mapFields (·.setIfInBounds 4 (Value.bool true))) y (Obj.isFreed_of_fields n);erw[ZlJ O f ?_ J n (by simp) B];ext⟨I,H,ha,r⟩ D;exact⟨I,H,(Heap.get?_update_other _ _ (Ne.symm f)).trans ((Heap.get?_update_other _ _ (Ne.symm f)).trans ha),r⟩
def ZlL(F:ExcBaseFacts B newId J D){args:OD}
  (Z:bm.contains (.type "BaseException")=true) (X:A.handled=some (.ref a)) (M:(backTo i (starEach args env)).any (·.1)=false) (H:mN "__init__"=none)
  (h:wpAny (model prog w) A (eval (.Name x np) env) (λf G=>f=.ref C/\wpAny (model prog w) A (evalArgs (.ref C) true (backTo i (starEach args env)) [])
   (λv c=>v.kw=[]/\v.pos.length<=sizeLine/\c.heap.get? C=some (excClassObj nm q C N bs bm hdct sn sub ab col dd k0 k1 k2 k3 k5 newId)/\c.heap.Ns N mN/\OwnTail c.heap D bm/\Wg c.heap a /\
    ∀h' e,Heap.MadeExcOf c.heap h' e (.ref C) v.pos->E (.ref e) {c with heap:=J0 h' e a}) E G) E s) :
  wpAny (model prog w) A (exec (.Raise (some (.Call (.Name x np) args [] i)) (some (.Constant .none U cp)) u) env) Q E s:=by
 rw[arm_exec_Raise];erw[Sa (wpAny_standAt ?_)];show wpAny _ _ (raiseStmt env (some (do let v <-eval (.Call (.Name x np) args [] i) env;standAt u;pure v)) (some (do let v <-(pure .none:Sem Value);standAt u;pure v))) _ _ _;erw[ZlK (C:=C) (nm:=nm) (q:=q) (N:=N) (bs:=bs) (bm:=bm) (hdct:=hdct) (sn:=sn) (sub:=sub) (ab:=ab) (col:=col) (dd:=dd) (k0:=k0) (k1:=k1) (k2:=k2) (k3:=k3) (k5:=k5) (newId:=newId) Z X ?_];erw[Sa (Oq (wpAny_Call_ofName (Oq h (λf G j=>?_) λ_ _ x=>x)) (λv c0 a0=>Sa (wpAny_standAt (Sb a0))) λ_ _ x=>x)];ext⟨rfl,j⟩ j;unfold callWith;erw[Sa (wpAny_holding (Oq j (λv c n=>Sa (wpAny_standAt ?_)) λ_ _ x=>x))];ext⟨apos,I⟩ v;ext⟨b0,hlen,g,hn,T,L,n⟩ n;obtain rfl:I=[]:=b0;ext⟨Y,d0,d,tk,os⟩ c;simp only[M];erw[Sa (wpAny_keeperOf_exc g ?_)];erw[Sa (wpAny_call_exc_subT (hrest:=hlen) F T g hn H λh' e hm=>Sa (wpAny_holding (wpAny_point (Sb ?_))))];ext⟨t,O,_,_⟩ hm.there;have ne:∀{b o},Y.get? b=some o->b≠e:=λ{b o} z y=>by rw[y,hm.new]at z;cases z
 ext⟨S,P,ha,r⟩ L;exact⟨e,t,R,hm.keeps _ _ g,ne g,ne ha,⟨S,P,hm.keeps _ _ ha,r⟩,O,n h' e hm⟩
end
def ZlM{h:Heap}(ne:b≠e):(J0 h e a).get? b=h.get? b :=
 (Heap.get?_update_other _ _ ne.symm).trans ((Heap.get?_update_other _ _ ne.symm).trans (Heap.get?_update_other _ _ ne.symm))
def ZlN{h:Heap}(i:h.get? e=some {cls:=C,data:=.fields #[.ref t,.none,.none,.none,.bool false,.none]}) :
  ∃ob,(J0 h e a).get? e=some ob/\ob.cls=C/\ob.data=.fields #[.ref t,.none,.ref a,.none,.bool true,.none]:=by
 have u:({cls:=C,data:=.fields #[.ref t,.none,.none,.none,.bool false,.none]}:Obj).data=.fields #[.ref t,.none,.none,.none,.bool false,.none]:=rfl;have g:=Obj.data_mapFields u (·.setIfInBounds 3 Value.none);have f:=Obj.data_mapFields g (·.setIfInBounds 4 (Value.bool true));have c:=Obj.data_mapFields f (·.setIfInBounds 2 (Value.ref a));have j:=Heap.get?_update_self (Obj.mapFields (·.setIfInBounds 3 Value.none)) i (Obj.isFreed_of_fields g);have n:=Heap.get?_update_self (Obj.mapFields (·.setIfInBounds 4 (Value.bool true))) j (Obj.isFreed_of_fields f);exact⟨_,Heap.get?_update_self (Obj.mapFields (·.setIfInBounds 2 (Value.ref a))) n (Obj.isFreed_of_fields c),by rw[Obj.cls_mapFields,Obj.cls_mapFields,Obj.cls_mapFields],c.trans (by simp)⟩
def ZlO{P : Value}(I:base.StaysIn s.heap)(G:base.get? e=none)(fr:s.heap.FunFrames base l)(tr:s.heap.TracedAtW base e cls a0 P)
  (h:∀h',Heap.HeldW base l e cls a0 L h'->s.heap.UpToSlots h'->Q Unit.unit {s with heap:=h'}):wpAny M A (setFlight (.ref e) (some L)) Q E s:=by
 ext⟨O,f,T,S,D,u,H,hd,i,B,v,g,dT,J⟩ tr;have x:3<D.size:=(Array.getElem?_eq_some_iff.mp J).1;have j:=Obj.data_mapFields dT (·.setIfInBounds 3 (rawInt L));have c:∀b,b≠T->(s.heap.update T (Obj.mapFields (·.setIfInBounds 3 (rawInt L)))).get? b=s.heap.get? b:=λb C=>Heap.get?_update_other _ _ C.symm;have y:∀b o,s.heap.get? b=some o->(∀f,o.data≠.fields f)->b≠T:=λb o q n z=>by
  subst z;rw[g]at q;cases q;exact n _ dT
 unfold setFlight;erw[Sa (wpAny_field u hd i ?_)];rw[SV (by rfl)];erw[wpAny_setField g dT x (h _ ⟨λb o q=>(c b λz=>?_).trans (I b o q),G,fr.of_keeps λb o q n=>⟨o,(c b (y b o q n)).trans q,R⟩,?_⟩ λb o q n=>⟨o.slots,(c b (y b o q n)).trans q⟩)];rw[z,B]at q;cases q;exact⟨O,f,T,_,_,(c e v.symm).trans u,H,hd,i,B,v,Heap.get?_update_self _ g (Obj.isFreed_of_fields j),j,by simp[x]⟩
def Zcy(X:Cx)(E:XK):Prop:=∀(pins:Ov) (σ:St) (H:Hp) (s:Shared) (B:Heap) (t a:Addr) (C:Value) (o:OF),Za X pins σ H s->Heap.HeldW B X.stack a C (.ref t) X.env.locals s.heap->H a=none->(o=none->Wg s.heap a) ->
 (∀b ob,s.heap.get? b=some ob->((∃u,X.s₀.heap.get? b=some u)\/∃u,H b=some u)->b∉Ye X.stack->B.get? b=some ob)->E C o H->X.xe (.ref a) s
section
variable{N:OC}{qual:Str}{f:Addr}{cd:Value}{outer:List Env}{E:XK}
def ZlP:Zcy (VA (Yf P w) P w K mg base N qual scope f cd A outer s H E) E:=by
 intro pins S G j B t a C o I i ha g M u;have sn:s.heap.get? s.heap.objs.size=none:=Heap.get?_none_of_le (Sg _);show wpAny _ _ (leaving _ _) _ _ _;unfold leaving;erw[Sa (wpAny_noteFrame_againW R i.2.2.2 ?_)];erw[KC.with (e:=a) (W:=λc=>Heap.FlyingW B (envOfC qual scope s.heap.objs.size f cd::outer) a C (.ref t) c/\j.heap.UpToSlots c) (Md _ _) g (wpAny_landsW i λc h up=>⟨c,R,h,up⟩) λc ⟨h,up⟩ g=>?_];ext⟨x,y,⟨_,_,D⟩,v⟩ h;have frd:=I.frd;obtain⟨O,J,Q⟩:=NZ (P:=P) (w:=w) (L:=s.heap.objs.size) (h1:=j.heap) R sn I.base I.hok I.stkFree (λb n o e=>frd b (Me n) o e) M ⟨x,y,D,v⟩ ha up;exact⟨a,C,G,R,I.os,I.bare,O,J,Q,o,g,u⟩
end
def Po(a:Addr)(C:Value):HO:=.ext λh=>∃ob c,h.get? a=some ob/\ob.cls=C/\ob.data=.fields c/\c[2]? = some .none
def ZlQ(X:Cx)(pins:Ov)(c:XK)(e:Value)(s':Shared):Prop :=
 ∃(a:Addr) (C:Value) (o:OF) (σ:St) (H:Hp) (g:Heap),e=.ref a/\Za X pins σ H s'/\NY X.stack g H a C s'.heap/\(∀p∈X.pn++pins,∃u,g.get? p.1=some u) /\
  (∀b u,X.s₀.heap.get? b=some u->b∉X.ex->∃f,g.get? b=some f)/\(o=none->Wg s'.heap a)/\c C o H
abbrev Pp(X:Cx)(pins:Ov)(Kx:XK):Cx:={X with pn:=X.pn++pins,xe:=ZlQ X pins Kx}
section
variable{pins':Ov}{σ:St}{Kx:XK}{a:Addr}
def Za.toTryN(I:Za X pins σ H s):Za (Pp X pins Kx) [] σ H s:=by
 have J:Za (F2 X pins λ_ _=>True) [] σ H s:=I.toTry;exact⟨⟨J.ok.mod,J.ok.kind,J.ok.glob,J.ok.blt,J.ok.above,J.ok.inj,J.ok.has,J.ok.cab,J.ok.hd,J.ok.frames,J.ok.stk,J.ok.exf,J.ok.bs,J.ok.bsz,J.ok.noex,J.ok.exfs,J.ok.funs,J.ok.frf⟩,
  J.os,J.bare,J.base,J.loc,J.cell,J.free,J.freeC,J.pin,J.hok,J.len⟩
def Za.ofTryN(J:Za (Pp X pins Kx) pins' σ H s):Za X pins σ H s:=by
 have I:Za (F2 X pins λ_ _=>True) pins' σ H s :=
  ⟨⟨J.ok.mod,J.ok.kind,J.ok.glob,J.ok.blt,J.ok.above,J.ok.inj,J.ok.has,J.ok.cab,J.ok.hd,J.ok.frames,J.ok.stk,J.ok.exf,J.ok.bs,J.ok.bsz,J.ok.noex,J.ok.exfs,J.ok.funs,J.ok.frf⟩,
  J.os,J.bare,J.base,J.loc,J.cell,J.free,J.freeC,J.pin,J.hok,J.len⟩
 exact I.ofTry
def ZlR:WB (Yf X.prog X.w) (Pp X pins Kx) Kx:=by
 intro E g x f e D I h;ext⟨a,C,B,rfl,os,bare,un,hok,i,o,n,v⟩ h;have c:Za X pins g x f:=I.ofTryN;exact⟨a,C,o,g,B,f.heap,R,c.call' os un hok bare (λb z=>nomatch z),i,λp y=>⟨p.2,(c.pin p y).1⟩,λb u q j=>c.base.there b u q j,n,v⟩
end
section
variable{E:XK}{body:List Stmt}{x y:Str}{R C:Addr}{np np2 cpos cp rpos hpos:Pos}{kk:Nat}{e:Expr}{es:OD}{tb:XK->TS}{t:TA}
def ZlS(K:Ox)(R C:Addr)(N:Nat)(E:XK)(tb:XK->TS)(t:TA):TS:=λD i H =>
 tb (λc o f=>(W.exmOne K c (.ref R)=some false/\E c o f)\/(W.exmOne K c (.ref R)=some true/\o=none /\
  ∀a,f a=none->t (List.replicate N none) (upd f a (Po a c)) λh g=>h.length<=sizeLine/\g a=some (Po a c)/\E (.ref C) (some a) g)) D i H
def ZlT(e3:X.stack=X.env::X.outer/\X.env.frame=some X.env.locals)(f0:X.ex=[])(hO:Zcy X E)(c:Xx X.K C)(hg:Gl X x)(hm:X.mg x=some (.ref R))(w2:Gl X y)(m2:X.mg y=some (.ref C))
  (n:∀pins Kx,XO (Pp X pins Kx) body (tb Kx)) (ha:∀a,PA (US X a) (e::es) t) (c2:(x==("__debug__" : Str))=false:=by lia) (h3:(y==("__debug__" : Str))=false:=by lia)
  (he:starEach (e::es) X.env=(false,eval e X.env)::starEach es X.env:=by rfl) (d3:(backTo cpos (starEach es X.env)).any (·.1)=false:=by rfl) :
  PS X (.Try body [.ExceptHandler (some (.Name x np)) none [.Raise (some (.Call (.Name y np2) (e::es) [] cpos)) (some (.Constant .none kk cp)) rpos] hpos] [] [] pos) (ZlS X.K R C X.N.length E tb t):=by
 intro pins s σ p1 a3 g0 h2;erw[wpAny_Try_except (Oq (n pins _ [] s σ p1 a3 g0.toTryN h2) (λd2 j q=>?_) λe1 j q=>?_)];cases d2 with
 |next=>ext⟨U,Q,O,q⟩ q;exact wpAny_execs_nil ⟨U,Q,O.ofTryN,q⟩
 |brk=>ext⟨U,Q,O,q⟩ q;exact⟨U,Q,O.ofTryN,q⟩
 |cont=>ext⟨U,Q,O,q⟩ q;exact⟨U,Q,O.ofTryN,q⟩
 |ret u=>ext⟨i0,U,Q,O,r,q⟩ q;exact⟨i0,U,Q,O.ofTryN,r,q⟩
 ext⟨a,I,o,r0,H1,i2,rfl,I1,⟨B,t0,G,j0,u0⟩,z0,p0,v,hk⟩ q;ext⟨b0,c0⟩ e3;have mv:∀Y,B.StaysIn Y->j.heap.UpToSlots Y->Za X pins r0 H1 {j with heap:=Y}:=λY st up=>I1.moved (λb o e n hn=>st b o (u0 b o e (by
  rcases n with⟨u,q,P⟩|⟨u,q⟩|⟨p,hp,rfl⟩;exact .inl (p0 b u q P);exact .inr ⟨u,q⟩;exact .inl (z0 p hp)) hn)) up
 have w0:X.A.frames=some (X.env::X.outer):=by rw[<-b0];exact g0.ok.frames
 rw[b0]at G;erw[KC.with (e:=a) (W:=λT=>Heap.HeldW B (X.env::X.outer) a I (.ref t0) X.env.locals T/\j.heap.UpToSlots T) (Zbn _ _) v (wpAny_looks_onW w0 c0 G λT hl up=>⟨T,rfl,hl,up⟩) λT ⟨w1,v0⟩ v=>?_];erw[KC.with (s:={j with heap:=T}) (e:=a) (W:=λh=>Heap.FlyingW B (X.env::X.outer) a I (.ref t0) h/\T.UpToSlots h) (Md _ _) v (wpAny_landsW w1 λh G up=>⟨h,rfl,G,up⟩) λh ⟨d0,s0⟩ v=>?_];have I5:=mv h d0.1 (v0.trans s0);ext⟨j3,u2,i1⟩ d0.there;have LT:PySem.W.Looks (model X.prog X.w) h (typeOf (.ref a)) I:=i1 ▸ (PySem.W.Looks.ld u2).andThen .now;erw[wpAny_handleBy_cons (codeAny_handlers_test (V7 (X:=US X a) I5.toSuite hg hm ?_ c2)) (by intro z;cases z)];rcases hk with⟨q0,hE⟩|⟨q0,rfl,hk⟩;erw[(PySem.W.exm_one (K:=X.K) (I5.kIn:X.K.In h) LT q0) _ _ _ _ (λ_ _ z=>z) ?_];erw[wpAny_handleBy_nil ?_];obtain⟨f1,f2,f3,oe,ws,o0,oT,ts,a2,hc,hd,h1,rest⟩:=id d0;unfold PySem.passOn;erw[Sa (wpAny_field a2 hd h1 ?_)];rw[SU (show ¬ ((Value.ref o0==Value.none)=true)from by simp)];rw[c0];refine Sa (KC.with (s:={j with heap:=h}) (e:=a) (W:=λf=>Heap.HeldW B (X.env::X.outer) a I (.ref t0) X.env.locals f/\h.UpToSlots f) (Md _ _) v
  (PySem.W.setFlight_onW d0 λf D up=>⟨f,rfl,D,up⟩) λf ⟨D,l0⟩ v=>wpAny_throw ?_)
 erw[hO pins r0 H1 _ B t0 a I o (mv f D.1 ((v0.trans s0).trans l0)) (by rwa[b0]) j0 v (λb ob q n hn=>?_) hE];have y2:∃M,j.heap.get? b=some M:=by
  rcases n with⟨u,q⟩|⟨u,q⟩;exact I1.base.there b u q (by rw[f0];exact λz=>nomatch z);exact(I1.hok b u q).has
 ext⟨M,g⟩ y2;have i:=u0 b M g (n.imp (λ⟨u,q⟩=>p0 b u q (by rw[f0];exact λz=>nomatch z)) id) hn;have S:=D.1 b M i;have q4:f.get? b=some ob:=q;rw[S]at q4;cases q4;exact i;erw[(PySem.W.exm_one (K:=X.K) (I5.kIn:X.K.In h) LT q0) _ _ _ _ (λ_ _ z=>z) ?_];erw[codeAny_handlers_suite ?_];erw[KC.with (s:={j with heap:=h}) (e:=a) (W:=λf=>Heap.FlyingW B (X.env::X.outer) a I (.ref t0) f/\h.UpToSlots f) (Md _ _) v (lands_againW d0 λf G up=>⟨f,rfl,G,up⟩) λf ⟨b1,l0⟩ v=>?_];have I6:=mv f b1.1 ((v0.trans s0).trans l0);ext⟨m0,m3,e0,n1,l1,_⟩ b1.first;have u1:∀o,j.heap.get? a=some o->a∉Ye X.stack:=λo e z=>by
  ext⟨ob,Z,g,_,i,_⟩ G.first;exact I1.frd a z ob g Z i
 have y0:∀u,i2.get? a=some u->False:=λu q=>by
  ext⟨ob,Z,g,_,i,_⟩ G.first;have z:=u0 a ob g (.inl ⟨u,q⟩) (u1 ob g);rw[G.2.1]at z;cases z
 have h0:X.s₀.heap.get? a=none:=by
  cases q:X.s₀.heap.get? a with
  |none=>rfl
  |some u =>
   obtain⟨u',z⟩:=p0 a u q (by rw[f0];exact λz=>nomatch z);exact(y0 u' z).elim
 have hp:∀p∈X.pn++pins,p.1≠a:=λp hp z=>by
  obtain⟨u,q⟩:=z0 p hp;rw[z]at q;exact y0 u q
 have j1:∃Z,m0.data=.fields Z/\Z[2]? = some .none:=by
  obtain⟨on,vn,g,i,S⟩:=v rfl;rw[e0]at g;cases g;exact⟨vn,i,S⟩
 ext⟨vn,dn,cn⟩ j1;have I7:Za X pins r0 (upd H1 a (Po a I)) {j with heap:=f}:=I6.track j0 e0 l1 h0 hp
  ⟨⟨m0,vn,e0,n1,dn,cn⟩,⟨m0,e0⟩,λha n ⟨o,i0,z1,z2⟩ k=>⟨o,i0,k o z1,z2⟩⟩
 have I8:Za X pins (List.replicate X.N.length none) (upd H1 a (Po a I)) {j with heap:=f}:=I7.weak (by rw[Sz,I7.len]) λi3 i0 q=>by
  rw[List.getElem?_replicate]at q;split at q<;>cases q
 obtain⟨bm,Nn,nm,qn,bs,hd,sn,sub,ab,col,dd,k0,k1,k2,k3,k5,mN,hC,hN,c1,TL⟩:=Zbp g0.ok.mod.kin c.ex;erw[wpAny_execs_cons ?_];refine ZlL (C:=C) (nm:=nm) (q:=qn) (N:=Nn) (bs:=bs) (bm:=bm) (hdct:=hd) (sn:=sn) (sub:=sub) (ab:=ab) (col:=col) (dd:=dd) (k0:=k0) (k1:=k1) (k2:=k2) (k3:=k3) (k5:=k5)
  PySem.F.excBase_ValueError (mN:=mN) (TL.hasType PySem.F.excBase_ValueError.hasBase) rfl ?_ c1 (V7 (X:=US X a) I8.toSuite w2 m2 ⟨rfl,?_⟩ h3)
 rw[he];show(false || (backTo cpos (starEach es X.env)).any (·.1))=false;rw[d3];rfl;have q:=ha a cpos pins {j with heap:=f} _ _ _ I8.toSuite (hk a j0);have j2:starEach (e::es) (US X a).env=(false,eval e X.env)::starEach es X.env:=he;rw[j2]at q;rw[he];erw[Calls.evalArgs_plain (Oq q (λus s2 hs=>?_) λ_ _ z=>z.elim)];ext⟨Z,H2,I2,r,hl,t1,hE⟩ hs;have J:Za X pins (List.replicate X.N.length none) H2 s2:=I2.ofSuite g0.ok.hd;have d1:Wg s2.heap a:=by
  obtain⟨⟨ob,v1,g,_,i,S⟩,_⟩:=J.hok a _ t1;exact⟨ob,v1,g,i,S⟩
 erw[⟨rfl,by rw[<-r.length];exact hl,I2.bk _ _ hC,hN.keeps I2.bk,TL.keeps I2.bk,d1,λY H P=>?_⟩];have r2:∀env∈X.stack,∀b,env.frame=some b->b∈Ye X.stack:=λenv he b n=>List.mem_filterMap.mpr ⟨env,he,n⟩;ext⟨t9,b3,_,_⟩ P.there;obtain⟨l3,a1,b2,x0⟩:=ZlN (a:=a) b3;have n0:∀b o,s2.heap.get? b=some o->(J0 Y H a).get? b=some o:=λb o q=>by
  rw[ZlM λz=>by rw[z,P.new]at q;cases q];exact P.keeps b o q
 have B0:∀b o,(PySem.W.hideAll s2.heap (Ye X.stack)).get? b=some o->s2.heap.get? b=some o:=λb o q=>PySem.W.of_hideAll _ q;have en:(PySem.W.hideAll s2.heap (Ye X.stack)).get? H=none:=by
  cases q:(PySem.W.hideAll s2.heap (Ye X.stack)).get? H with
  |none=>rfl
  |some u=>have z:=B0 H u q;rw[P.new]at z;cases z
 have v2:(J0 Y H a).FunFrames (PySem.W.hideAll s2.heap (Ye X.stack)) (X.env::X.outer):=by
  rw[<-b0];exact(PySem.W.funFrames_hide J.stack r2).of_keeps λb o q _=>⟨o,n0 b o q,rfl⟩
 show wpAny _ _ (noteFrame (.ref H) X.env) _ _ _;unfold noteFrame;simp only[c0];erw[Sa (wpAny_field a1 x0 (x:=.none) rfl ?_)];rw[SU ()];erw[wpAny_entryW (L:=X.env.locals) (base:=PySem.W.hideAll s2.heap (Ye X.stack)) (a0:=.ref t9) w0 v2 c0 a1 (λb o q=>n0 b o (B0 b o q)) en x0 (by simp) rfl λh7 ⟨x1,x2,x3,x4⟩=>?_];rw[b2]at x3;show cameBackBy _ _ _ _ _ _;unfold cameBackBy;obtain⟨oe,ws,o0,oT,ts,p2,n3,y1,n2,rest⟩:=id x3;erw[Sa (wpAny_field p2 y1 n2 ?_)];rw[SU (show ¬ ((Value.ref o0==Value.none)=true)from by simp)];rw[c0];erw[ZlO x1 en x2 x3 λh8 D l2=>?_];have m1:Heap.HeldW (PySem.W.hideAll s2.heap (Ye X.stack)) X.stack H (.ref C) (.ref t9) X.env.locals h8:=by
  generalize PySem.W.hideAll s2.heap (Ye X.stack)=BB at D ⊢;rwa[b0]
 refine hO pins (List.replicate X.N.length none) H2 _ (PySem.W.hideAll s2.heap (Ye X.stack)) t9 H (.ref C) (some a) (J.moved (λb o q n hn=>D.1 b o (PySem.W.hideAll_get _ q hn)) ((Heap.UpToSlots.of_keeps n0).trans (Heap.UpToSlots.trans x4 l2))) m1
  (J.hasNo P.new) (λz=>nomatch z) (λb ob q n hn=>?_) hE
 have c3:∃M,s2.heap.get? b=some M:=by
  rcases n with⟨u,q⟩|⟨u,q⟩;exact J.base.there b u q (by rw[f0];exact λz=>nomatch z);exact(J.hok b u q).has
 ext⟨M,g⟩ c3;have i:=PySem.W.hideAll_get _ g hn;have S:=D.1 b M i;have q4:h8.get? b=some ob:=q;rw[S]at q4;cases q4;exact i
end
end L2
namespace K1
open PySem L2
abbrev ZA(z:Str):List Nat:=z.cps.toList
def kw(s:String):List Nat:=ZA (OK s)
def bv:List Nat->Nat
 |[]=>0
 |c::r=>(c - 48)+2*bv r
def A6(w:OG):Option Nat:=if w.length=7/\w.all (λc=>c==48 || c==49)=true then some (bv w)else none
def A7(w:OG):List (Option Nat):=(spl 44 w).map XD
def MD{n:Nat}(h:n<10000):XD (ZA (YB n))=some n:=by
 obtain⟨c,j,i,g,f,_⟩:=TM h (ZA (YB n)) R;unfold XD;rw[SV ⟨(),λz=>by rw[z]at c;exact Os c (),i,g⟩,f]
def zM{n c:Nat}(h:n<10000)(g:c<48):c∉ZA (YB n):=λz=>by
 obtain⟨_,_,f,_⟩:=TM h _ R;have:48<=c/\c<=57:=SS (List.all_eq_true.mp f c z);lia
def zN:OK ","=⟨#[44]⟩:=by lia
def Qn:OK " "=⟨#[32]⟩:=by lia
def zO{ds:OG}(h:ds≠[])(f:∀x∈ds,x<10000):A7 (ZA (WZ ds))=ds.map some:=by
 unfold A7 WZ;rw[zN];show(spl 44 (Str.join ⟨#[44]⟩ (ds.map YB)).cps.toList).map XD=_;rw[A2,Mh];rw[Oe,Oe];exact List.map_congr_left λx c=>MD (f x c);intro z;exact h (List.map_eq_nil_iff.mp (List.map_eq_nil_iff.mp z));intro p i;obtain⟨y,g,rfl⟩:=SJ.mp i;obtain⟨x,c,rfl⟩:=SJ.mp g;exact zM (f x c) ()
def Zcz:∀b,b<128->A6 (ZA (QG b))=some b:=by lia
def ZlU:∀b,b<128->ZA (QG b)∉([]:List (List Nat))/\32∉ZA (QG b)/\(ZA (QG b)).length=7:=by lia
def A8:∀s∈["always","week","span","each","either","both","but"],32∉ZA (OK s)/\(OK s).length<=100:=by lia
def zP(n:Nat)(h:n<10000):32∉ZA (YB n)/\(YB n).length<=100:=⟨zM h (),Sh (Mp h) ()⟩
def zQ:∀(T:RT),T.good->∀x∈T.words,32∉ZA x/\x.length<=100:=by
 have C:∀ds:List Nat,ds.length<=12->(∀x∈ds,x<10000)->32∉ZA (WZ ds)/\(WZ ds).length<=100:=λds I ha=>by
  erw[⟨?_,?_⟩];unfold WZ;rw[zN];show 32∉(Str.join ⟨#[44]⟩ (ds.map YB)).cps.toList;rw[A2];have H:∀l:List (List Nat),(∀p∈l,32∉p)->32∉XC 44 l:=by
   intro l;induction l with
   |nil=>intro _ z;cases z
   |cons p r f =>
    intro h z;cases r with
    |nil=>exact h p SD z
    |cons q r =>
     rcases SG.mp (show 32∈p++44::XC 44 (q::r)from z)with z|z;exact h p SD z;rcases SF.mp z with z|z;exact Os z ();exact f (λp u=>h p (SB _ u)) z
  erw[H _ λp u=>?_];obtain⟨y,D,rfl⟩:=SJ.mp u;obtain⟨x,c,rfl⟩:=SJ.mp D;exact zM (ha x c) ();have v:=StrLaws.join_length_le (OK ",") (ds.map YB);have L:((ds.map YB).map (·.length)).sum<=4*ds.length:=by
   clear v I;induction ds with
   |nil=>simp
   |cons y r f =>
    have M:=Mp (ha y SD);have J:=f λx c=>ha x (SB _ c);simp only[SM,List.sum_cons,Sy];lia
  have G:(OK ",").length=1:=by lia
  unfold WZ;rw[G,Sv]at v;lia
 intro T;induction T with
 |always=>intro g x c;rcases SE.mp c with rfl;exact A8 _ ()
 |week b =>
  intro g x c;have B:=ZlU b (Nat.lt_succ_of_le g);rcases SF.mp c with rfl|c;exact A8 _ ();rcases SE.mp c with rfl;exact⟨B.2.1,Sh (Nat.le_of_eq ((UW _).symm.trans B.2.2)) ()⟩
 |span a b r f =>
  intro g x c;rcases SG.mp c with c|c;simp only[SF,List.not_mem_nil,or_false]at c;rcases c with rfl|rfl|rfl;exact A8 _ ();exact zP a (by have:=g.1;have:=g.2.1;lia);exact zP b (by have:=g.2.1;lia);exact f g.2.2 x c
 |each n E =>
  intro g x c;simp only[RT.words,SF,List.not_mem_nil,or_false]at c;rcases c with rfl|rfl|rfl;exact A8 _ ();exact zP n (by have:=g.2.1;lia);exact C E g.2.2.few λx c=>by have:=(g.2.2.all x c).2;have:=g.2.1;lia
 |either r s i j =>
  intro g x c;rcases SG.mp c with c|c;rcases SG.mp c with c|c;rcases SE.mp c with rfl;exact A8 _ ();exact i g.1 x c;exact j g.2 x c
 |both r s i j =>
  intro g x c;rcases SG.mp c with c|c;rcases SG.mp c with c|c;rcases SE.mp c with rfl;exact A8 _ ();exact i g.1 x c;exact j g.2 x c
 |but ds r f =>
  intro g x c;rcases SG.mp c with c|c;simp only[SF,List.not_mem_nil,or_false]at c;rcases c with rfl|rfl;exact A8 _ ();exact C ds g.1.few λx c=>by have:=(g.1.all x c).2;lia
  exact f g.2 x c
def Pq(T:RT):T.words≠[]:=by cases T<;>exact λz=>nomatch z
def Wj(T:RT):Str:=Str.join (OK " ") T.words
def ZlV{T:RT}(g:T.good):spl 32 (ZA (Wj T))=T.words.map ZA:=by
 unfold Wj;rw[Qn];show spl 32 (Str.join ⟨#[32]⟩ T.words).cps.toList=_;rw[A2,Mh];exact λz=>Pq T (List.map_eq_nil_iff.mp z);intro p f;obtain⟨x,c,rfl⟩:=SJ.mp f;exact(zQ T g x c).1
def ZcA{T:RT}(g:T.good)(v:T.weight<=15):(Wj T).length<=4545:=by
 have h:=StrLaws.join_length_le (OK " ") T.words;have B:=T.words_len;have n:(T.words.map (·.length)).sum<=100*T.words.length:=by
  have f:=zQ T g;generalize T.words=l at f;induction l with
  |nil=>simp
  |cons y r j =>
   have u:=(f y SD).2;have C:=j λx c=>f x (SB _ c);simp only[SM,List.sum_cons,Sy];lia
 have i:(OK " ").length=1:=by lia
 unfold Wj;rw[i]at h;lia
end K1
namespace L2
open PySem PySem.Spec PyProof.Rows
def ZlW:typeLookup (.type "list_reverseiterator") "__len__"=pure none:=by rw[typeLookup_type,builtinLookup_eq_fast];kernel_rfl
def ZlX:typeLookup (.type "list_reverseiterator") "__length_hint__"=pure (some (.builtin "list_reverseiterator.__length_hint__")):=by rw[typeLookup_type,builtinLookup_eq_fast];kernel_rfl
def ZlY{R:Result->Shared->Prop}{items:Array Value}(Z:A.handled=none)(C:s.heap.IsRevIter it l ((items.size:Int) - 1))(hl:s.heap.IsList l items)(hlen:items.size<=sizeLine)(L:l≠it)
  (S:Addr) (D:S≠it) (I:S≠l) (res:Value) (H:Nat) (O:s.heap.get? S=some {cls:=.type "list",data:=.seq #[] H})
  (hR:∀B tk n g,(∀b o,b≠S->b≠it->s.heap.get? b=some o->B.get? b=some o)->B.get? S=some {cls:=.type "list",dict:=none,data:=.seq n g,slots:=#[]} ->
   ItemsOf (λi a0=>items[items.size - 1 - i]? = some a0) n items.size->R (.ok (.ret res)) {s with heap:=B,toks:=tk}) :
  wpAny (model prog w) A.in1 (Builtin.List.listExtendWith (.ref S) (.ref it) res)
   (λfin c=>match fin with|.done f=>R (.ok f) c|.again g=>g.quiet=true/\codeAny (model prog w) A g R c) (λe c=>R (.error e) c) s:=by
 have c0:S∉[it,l]:=λg0=>by
  rcases SF.mp g0 with e|e;exact D e;exact I (SE.mp e)
 have W:=(Walks.listRev (prog:=prog) (w:=w) (A:=A.in1) Z it l L items).toS;have u:s.TypeIs (.ref it) "list_reverseiterator" := C.typeIs;unfold Builtin.List.listExtendWith;erw[Sa (wpAny_typeOf (T := "list_reverseiterator") u ?_)];have M:Builtin.List.listSameRef (.ref S) (.ref it)=false:=by simp[Builtin.List.listSameRef,D]
 have Y:(Value.type "list_reverseiterator"==Value.type "list")=false:=by lia
 have X:(Value.type "list_reverseiterator"==Value.type "tuple")=false:=by lia
 simp only[M,Y,X,Bool.or_false,Bool.false_eq_true,if_false];erw[Sa (wpAny_pyIter_revIter C ?_)];erw[Sa (wpAny_holding ?_)];unfold Builtin.List.listLengthHint;erw[Sa (wpAny_specialOf (T := "list_reverseiterator") u ZlW ?_)];show wpAny _ A.in1 (specialOf (Value.ref it) (OK "__length_hint__") >>= _) _ _ _;erw[Sa (wpAny_specialOf u ZlX ?_)];generalize J:("list_reverseiterator.__length_hint__" : String)=b0
 wp_delta
 rw[show splitId b0=some ("list_reverseiterator","__length_hint__")from by subst J;lia];subst J;erw[Sa (wpAny_isInstance (T := "list_reverseiterator") (b:=true) u (by rw[isSubtype_type];kernel_rfl) ?_)];erw[wpAny_ite_split (λj=>Os j ()) (λ_=>?_)];erw[wpAny_ite_split (λ_=>?_) (λj=>Os () j)];erw[wpAny_ite_split (λj=>Os j ()) (λ_=>?_)];erw[Sb ?_];rw[SU ()];have d0:∀(h:Heap) (x:Nat),(∀b o,b≠S->s.heap.get? b=some o->h.get? b=some o)->h.get? S=some {cls:=.type "list",data:=.seq #[] x} ->
   codeAny (model prog w) A (.builtin "list.extend.loop" ⟨[.ref S,.ref it,res],[]⟩) R {s with heap:=h}:=λh x v f0=>by
  erw[codeAny_extend_loopS W hlen S c0 res items.size 0 _ #[] x rfl (Sk _) ⟨Sk _,?_,?_⟩ f0 (ItemsOf.nil _) λc n g hm Q e0=>?_];rw[show(items.size:Int) - 1 - ((0:Nat):Int)=(items.size:Int) - 1 by lia];exact C.at λo e=>v it o D.symm e;exact hl.at λo e=>v l o I.symm e;rw[Moved.eq_with hm];erw[hR c.heap c.toks n g (λb o G P e=>hm.heap b o (λy=>?_) (v b o G e)) Q e0];rcases SF.mp y with U|y;exact G U;exact P (SE.mp y)
 exact Sb ⟨plainId_quiet F.plain_extend_loop _,d0 _ H (λb o _ e=>e) O⟩
def ZlZ{items:Array Value}(P:A.handled=none)(x:s.heap.IsRevIter it l ((items.size:Int) - 1))(y:s.heap.IsList l items)(hlen:items.size<=sizeLine)(B:l≠it)
  (D:∀h' tk g j,(∀b o,b≠it->s.heap.get? b=some o->h'.get? b=some o) ->
   h'.get? s.heap.objs.size=some {cls:=.type "list",dict:=none,data:=.seq g j,slots:=#[]}->ItemsOf (λi v=>items[items.size - 1 - i]? = some v) g items.size->Q (.ref s.heap.objs.size) {s with heap:=h',toks:=tk}) :
  wpAny (model prog w) A (call (.type "list") [.ref it]) Q E s:=by
 have c:∀b o,s.heap.get? b=some o->b≠s.heap.objs.size:=λb o e=>Sf (Se e);obtain⟨S,J,_⟩:=id x;obtain⟨M,C,_⟩:=id y;refine callType_codes (Q₁:=λobj u=>obj=.ref s.heap.objs.size/\u = {s with heap:=s.heap.push {cls:=.type "list",data:=.seq #[]} }) F.called_list (F.typeCall_list_1 _) F.entry_list_init
  (code_list_new _ ⟨R,R⟩) λobj u G=>?_
 ext⟨rfl,rfl⟩ G;have f:(s.heap.push {cls:=.type "list",data:=.seq #[]}).get? s.heap.objs.size=some {cls:=.type "list",data:=.seq #[]}:=Sd _ R;erw[⟨⟨_,f,R⟩,F.args_list_init_2 _ _,?_⟩];show wpAny _ _ (do let H <-Builtin.List.listItems (.ref s.heap.objs.size);Builtin.List.listUpdate (.ref s.heap.objs.size) (λ_=>#[]);letGo H.toList.reverse;Builtin.List.listExtendWith (.ref s.heap.objs.size) (.ref it) .none) _ _ _;erw[Sa ?_];unfold Builtin.List.listItems;erw[Sa (wpAny_seqItems f R (Sb ?_))];show wpAny _ _ (updateSeq s.heap.objs.size (λ_=>#[]) >>= λ_=>letGo (#[]:Array Value).toList.reverse >>= λ_=>Builtin.List.listExtendWith (.ref s.heap.objs.size) (.ref it) .none) _ _ _;erw[Sa (wpAny_updateSeq f R ?_)];have L:=Heap.get?_update_self (Obj.mapSeq (λ_=>(#[]:Array Value))) f R;have n:∀b o,b≠s.heap.objs.size->s.heap.get? b=some o->((s.heap.push {cls:=.type "list",data:=.seq #[]}).update s.heap.objs.size (Obj.mapSeq (λ_=>(#[]:Array Value)))).get? b=some o :=
  λb o h e=>(Heap.get?_update_other _ _ (Ne.symm h)).trans (Sc _ e)
 erw[Sa (wpAny_letGo ?_)];erw[ZlY (A:=A.in1) (s:={s with heap:=(s.heap.push {cls:=.type "list",data:=.seq #[]}).update s.heap.objs.size (Obj.mapSeq (λ_=>(#[]:Array Value)))}) P (x.at λo e=>n it o (c it o e) e) (y.at λo e=>n l o (c l o e) e) hlen B _ (c it S J).symm (c l M C).symm .none _ L λh' tk g j O I T=>?_];exact⟨R,D h' tk g j (λb o h e=>O b o (c b o e) h (n b o (c b o e) e)) I T⟩
def Zl0:bootBuiltins "list"=some (.type "list"):=by lia
def Zl1:bootBuiltins "reversed"=some (.type "reversed"):=by lia
def Zl2{xs:List V}{us c:OB}(r:ZC xs us)(h:c.length=us.length)(ha:∀(i:Nat) (v:Value),c[i]? = some v->us[us.length - 1 - i]? = some v):ZC xs.reverse c:=by
 have e:c=us.reverse:=by
  erw[List.ext_getElem? λi=>?_];by_cases g:i<us.length;rw[List.getElem?_reverse g];have f:i<c.length:=by lia
  rw[Ss f];exact(ha i _ (Ss f)).symm;rw[List.getElem?_eq_none (),List.getElem?_eq_none (by rw[List.length_reverse];lia)]
 rw[e];exact zD r
inductive Zl3(K:Ox)(Q:VK)(v:V)(H1:Hp):Prop|mk l xs (_:v=.ref l) (_:Zd K H1 l xs) (_:∀p,H1 p=none->Q (.ref p) (upd H1 p (.lst xs.reverse)))
def tLR(K:Ox)(g:TE):TE:=λc H Q=>g c H λv f=>Zl3 K Q v f
def Zl4{E : Pos}(Q:X.calm=true)(S:Gl X "list") (a0:X.mg "list"=none) (b0:Gl X "reversed") (M:X.mg "reversed"=none) (T:PE X e C) (u:starEach [e] X.env=[(false,eval e X.env)]:=by rfl) :
  PE X (.Call (.Name "list" E) [.Call (.Name "reversed" x) [e] [] p3] [] p4) (tLR X.K C):=by
 intro pins s H c0 d0 I h;erw[wpAny_Call_Name_kw (VH I S a0 Zl0 ?_)];erw[PyProof.Rows.callWith_type1 ?_ R R];show wpAny _ _ (spliced [(false,eval (.Call (.Name "reversed" x) [e] [] p3) X.env)]) _ _ _;erw[Calls.spliced_cons ?_];erw[wpAny_Call_Name_kw (VH I b0 M Zl1 ?_)];erw[PyProof.Rows.callWith_type1 ?_ u R];rw[u];show wpAny _ _ (spliced [(false,eval e X.env)]) _ _ _;erw[Calls.spliced_cons (Zy (T pins s H c0 _ I h) λe0 c ⟨v,H1,f,r1,l,D,O,L,q⟩=>Calls.spliced_nil ?_)];subst O;cases r1;obtain⟨g,y,j,hz⟩:=f.list L;erw[call_reversed_list j.isList ?_];erw[Calls.spliced_nil ?_];have hlen:=y.length;have n:c.heap.IsList l g.toArray:=j.isList;have G:l<c.heap.objs.size:=by ext⟨o,Z,_⟩ n;exact Se Z
 refine ZlZ (s:={c with heap:=c.heap.push (revObj l ((g.toArray.size:Int) - 1))}) (it:=c.heap.objs.size) (items:=g.toArray) (f.ok.hd Q) ⟨_,Sd _ R,R,R⟩ (n.at λo e=>Sc _ e)
  (by rw[SN];lia) (Sf G) λh' tk U c' Y J B=>?_
 refine⟨.ref _,_,f.laid (t':=tk) (λb o e=>Y b o (Sf (Se e)) (Sc _ e)) (by show _<=(c.heap.push _).objs.size;rw[Heap.size_push];lia)
  (show Yo X.prog X.w _ h' _ (.lst D.reverse)from⟨by rw[List.length_reverse];lia,U.toList,c',Zl2 y (by simpa using B.1) (λi v P=>?_),by simpa using J⟩),R,q _ (f.hok.fresh (by rw[Heap.size_push];lia))⟩
 have:=B.2 i v (by simpa using P);simpa using this
def Zl5:Q9 X "str.strip" (λx xs H Q=>∃z y,x=.str z/\xs=[.str y]/\z.length<=sizeLine/\Q (.str (Txt.stripChars z y)) H):=by
 intro pins s i H x xs v j Q I c r h;ext⟨z,y,rfl,rfl,f,q⟩ h;ext⟨t,rfl⟩ c;obtain⟨u,rfl,g,rfl⟩:=Y4 r;exact SC.stripChars (λg k=>⟨.str _,H,I.tok _,⟨_,R⟩,q⟩) f
def ME(z:Str):It:=⟨λi _=>i<z.cps.size,λi H v f=>∃p c,H p=none/\z.cps.toList[i]? = some c/\v=.ref p/\f=upd H p (.tup [.int i,.str ⟨#[c]⟩]),λi _=>z.cps.size<=i⟩
def Zl6{es:OD}{k:Nat}{f0:Pos}(z:Str)(t:Tok)(e it:Addr)(ty:String)(Q:e≠it)
  (D:∀A:Around,A.handled=none->Draws P w A it [it] z.cps.size (λi v=>∃c u,z.cps[i]? = some c/\v=.str ⟨#[c]⟩ u) (λi h=>h.IsStrIter it ty z t i)) :
  UK P w K (.Tuple es k f0) (ME z) [e,it] e (λi h=>((∃j,IsEnum h e it i j)/\h.IsStrIter it ty z t i)/\i<=z.cps.size) where
 mem:=by simp
 obj:=λi h st b g=>by
  ext⟨⟨⟨j,f⟩,o,n,E,hd⟩,_⟩ st;have M:b=e\/b=it:=by simpa using g
  rcases M with rfl|rfl;exact⟨_,f,λv z=>by cases z⟩;exact⟨o,n,λv z=>by rw[hd]at z;cases z⟩
 keep:=λi h h' st U=>⟨⟨let ⟨j,f⟩:=st.1.1;⟨j,U e (by simp) _ f⟩,let ⟨o,n,r⟩:=st.1.2;⟨o,U it (by simp) o n,r⟩⟩,st.2⟩
 item:=by
  intro X B O G E i pins s σ g0 d0 I H st L;subst B O G;ext⟨⟨⟨j,f⟩,C⟩,_⟩ st;have T:=C;have S:i<z.cps.size:=L;erw[wpAny_pyNext_enum_itemD (D X.A.in1 (I.ok.hd E)) f C S Q (by simpa using Q) λx h1 tk B n b0 hT k0 hk=>⟨_,R,?_⟩];ext⟨c,u,ec,rfl⟩ B;erw[wpAny_letOwnedTupleGo_enum (s:={s with heap:=h1,toks:=tk+1}) n λY c0 J=>?_];have a0:e<s.heap.objs.size:=Se f;have j0:it<s.heap.objs.size:=by ext⟨_,q,_⟩ T;exact Se q
  have h0:Y.get? s.heap.objs.size=some {cls:=.type "tuple",data:=.seq #[.int i tk,.str ⟨#[c]⟩ u]}:=(J.2 _ (Nat.ne_of_gt a0)).trans hT;obtain⟨I2,n2⟩:=I.paired (t':=tk+1) (fp:=[e,it]) (x:=.int i) (y:=.str ⟨#[c]⟩) (h':=Y) H (λb g=>by
   have M:b=e\/b=it:=by simpa using g
   rcases M with rfl|rfl;exact⟨_,f⟩;ext⟨o,q,_⟩ T;exact⟨o,q⟩) (λb o g q=>by
   have Z:b≠e:=λz=>g (by simp[z]);have i0:b≠it:=λz=>g (by simp[z]);exact(J.2 b Z).trans (hk b o Z i0 q)) h0 ⟨tk,R⟩ ⟨u,R⟩
  erw[⟨.ref s.heap.objs.size,_,I2,R,⟨_,c,I.hok.fresh (Sg _),by simpa using ec,R,R⟩,⟨⟨⟨_,by simpa using c0⟩,let ⟨o,q,r⟩:=b0;⟨o,(J.2 it Q.symm).trans q,r⟩⟩,S⟩,n2⟩]
 done:=by
  intro X B O G E i pins s σ g0 d0 I H st L;subst B O G;ext⟨⟨⟨j,f⟩,C⟩,hi⟩ st;have e0:i=z.cps.size:=Nat.le_antisymm hi L;rw[e0]at C;exact wpAny_pyNext_enum_endD (D X.A.in1 (I.ok.hd E)) f C λh' eb=>⟨R,I.turnedL (t':=s.toks) (fp:=[e,it]) (λb o g q=>eb b o (λz=>g (by simp[z])) q) H⟩
 self:=λ_ _ _ _ _ st h=>let ⟨j,f⟩:=st.1.1;wpAny_pyIter_enum f h
inductive Zl7(R:It->Hp->Prop)(vs:List V)(H1:Hp):Prop|mk z (_:vs=[.str z]) (_:R (ME z) H1)
def Zl8(g:TA):TI:=λh H f=>g h H λc i=>Zl7 f c i
def Zl9{C:OD}{k:Nat}{tp:Pos}{a:Expr}{i:TA}{p j:Pos}(D:Gl X "enumerate") (hm:X.mg "enumerate"=none) (ha:PA X [a] i) (B:starEach [a] X.env=[(false,eval a X.env)]:=by rfl):PI X (.Tuple C k tp) (.Call (.Name "enumerate" p) [a] [] j) (Zl8 i):=by
 intro pins s y H Q I h;erw[Call_ (VH I D hm boot_enumerate (PyProof.Rows.callWith_type1 (Zy (ha j pins s y H _ I h) λT c ⟨P,n,f,r1,J⟩=>?_) B R))];ext⟨z,e,q⟩ J;subst e;cases r1 with
 |cons r O =>
  cases O;ext⟨t,rfl⟩ r;erw[call_enumerate_str λL g M S G=>?_];erw[wpAny_pyIter_enum (s:={c with heap:=L}) g ?_];have fp:∀b∈[c.heap.objs.size+1,c.heap.objs.size],Vy X pins n b:=λb x=>by
   have E:b=c.heap.objs.size+1\/b=c.heap.objs.size:=by simpa using x
   have v:c.heap.objs.size<=b:=by rcases E with rfl|rfl;exact Nat.le_succ _;exact Sg _
   exact f.fpOk v (f.hok.fresh v)
  erw[⟨c.heap.objs.size+1,[c.heap.objs.size+1,c.heap.objs.size],_,_,n,R,f.kept (t':=c.toks) G,Zl6 z t _ _ (strIterType z) (Nat.succ_ne_self _) (λA u=>?_),⟨⟨⟨_,g⟩,M⟩,Sk _⟩,fp,q⟩];unfold strIterType;split;exact Draws.strAscii u _ z t;exact Draws.strWide u _ z t
def Zma{z:Str}{g:TG}{C:TS}{D:WL}{f:St}(j:Nat->St->Hp->Prop)(J:j 0 f H)
  (L:∀i c p f H,z.cps.toList[i]? = some c->H p=none->j i f H->g (.ref p) f (upd H p (.tup [.int i,.str ⟨#[c]⟩])) λn B=>C {D with nx:=j (i+1),ct:=j (i+1),bk:=D.nx} n B) (hd:∀f H,j z.cps.size f H->D.nx f H) :
  ∃W:Nat->Nat->St->Hp->Prop,(∃m,W 0 m f H)/\∀i m f H,W i m f H ->
   ((ME z).stop i H/\D.nx f H)\/((ME z).go i H/\∃N:St->Hp->Prop,(∀u h,N u h->∃G,G<m/\W (i+1) G u h)/\∀x h,(ME z).yld i H x h->g x f h λn B=>C {D with nx:=N,ct:=N,bk:=D.nx} n B):=by
 erw[⟨λi m f H=>m=z.cps.size - i/\i<=z.cps.size/\j i f H,⟨z.cps.size,by simp,Sk _,J⟩,?_⟩];rintro i m f H ⟨rfl,O,p⟩;by_cases E:i<z.cps.size;erw[.inr ⟨E,j (i+1),λu h M=>⟨z.cps.size - (i+1),(),R,E,M⟩,λv h y=>?_⟩];ext⟨r,c,I,y,rfl,rfl⟩ y;exact L i c r f _ y I p;have e:i=z.cps.size:=by lia
 subst e;exact .inl ⟨Sg _,hd f H p⟩
end L2
namespace K1
open PySem L2
def zR(x y:Str):ZA (x++y)=ZA x++ZA y:=Array.toList_append
end K1
namespace L2
open PySem PySem.Spec PyProof.Rows
inductive Zmb(xs:List V)(H:Hp)(Q:VK):Prop
 |int (i:Int) (_:xs=[.int i]) (_:i.natAbs.log2<1920) (_:Q (.str (toString i)) H)
 |str (z:Str) (_:xs=[.str z]) (_:Q (.str z) H)
def Zmc:YN X (.type "str") Zmb:=by
 intro pins s g H f j Q I r h;cases h with
 |int i e c q=>exact Q7 _ _ _ _ _ _ _ I r ⟨i,e,c,q⟩
 |str z e q =>
  subst e;obtain⟨u,rfl,t,rfl⟩:=Y4 r;exact PySem.P.str_of_str ⟨.str z,H,I,⟨_,R⟩,q⟩
inductive Zmd(x:V)(xs:List V)(H:Hp)(Q:VK):Prop|mk z c (_:x=.str z) (_:xs=[.str ⟨#[c]⟩]) (_:z.length<=sizeLine) (_:c∉z.cps.toList) (_:∀p y1 y2,H p=none->Q (.ref p) (upd H p (.tup [.str z,.str y1,.str y2])))
def Zme:Q9 X "str.partition" Zmd:=by
 intro pins s E H x D v G Q I B r h;ext⟨z,c,rfl,rfl,j,n,q⟩ h;ext⟨t,rfl⟩ B;obtain⟨u,rfl,g,rfl⟩:=Y4 r;have hn:H s.heap.objs.size=none:=I.hok.fresh (Sg _);have y:Builtin.Str.occurrences z ⟨#[c]⟩ 0 z.length 1=[]:=by
  rcases StrLaws.occ_head z ⟨#[c]⟩ 1 (Sg 1)with⟨f,_⟩|⟨i,r,_,C,_⟩;exact f;exact Os (SK ((ZjC z c i).mp C)) n
 erw[call_meets F.slot_str_partition (typeIs_str _ _ _) F.entry_str_partition (F.args_str_partition_2 _ _) (meets_str_partition z ⟨#[c]⟩ t g R j) ?_];rw[y];erw[⟨.ref s.heap.objs.size,_,?_,R,q _ Str.empty Str.empty hn⟩];erw[I.laid (λb o e=>Sc _ e) (Sg _) ⟨by simp only[Sy,List.length_nil];rw[sizeLine_eq];lia,[.str z t,.str Str.empty s.toks,.str Str.empty s.toks],.cons ⟨_,R⟩ (.cons ⟨_,R⟩ (.cons ⟨_,R⟩ .nil)),?_⟩];exact⟨_,Sd s.heap R,R,0,R⟩
def ZcB{z:Str}(u:∀r,z.cps.toList≠32::r)(h1:∀r,z.cps.toList≠r++[32]):Txt.stripChars z (OK " ")=z:=by
 rw[show OK " "=(⟨#[32]⟩:Str) by lia];unfold Txt.stripChars;rw[stripBy_eq];have i:∀c,(#[32]:Array Nat).contains c=true->c=32:=λc h=>by simpa using h
 obtain⟨x,y,C⟩:=lo_facts (#[32]:Array Nat).contains z;obtain⟨E,B,n,D⟩:=hi_facts (#[32]:Array Nat).contains z _ x;have hn:(z.cps.toList).length=z.length:=by simp[Str.length]
 have v:stripLo (#[32]:Array Nat).contains true z=0:=by
  by_cases q:stripLo (#[32]:Array Nat).contains true z=0;exact q;exfalso;have g:=i _ (y 0 ());rw[<-getD_list]at g;cases f:z.cps.toList with
  |nil=>rw[f]at hn;simp at hn;lia
  |cons c r =>
   rw[show z.cps.toList=c::r from f]at g;exact u r (by rw[f,show c=32 from g])
 have j:stripHi (#[32]:Array Nat).contains true z (stripLo (#[32]:Array Nat).contains true z)=z.length:=by
  by_cases q:stripHi (#[32]:Array Nat).contains true z (stripLo (#[32]:Array Nat).contains true z)=z.length;exact q;exfalso;have g:=i _ (n (z.length - 1) () ());rw[<-getD_list]at g;have ne:z.cps.toList≠[]:=λe=>by rw[e]at hn;simp at hn;lia
  erw[h1 (z.cps.toList).dropLast ?_];have g2:(z.cps.toList).getLast ne=32:=by
   rw[List.getLast_eq_getElem,<-g,List.getD_eq_getElem?_getD];rw[show z.length - 1=(z.cps.toList).length - 1 by lia];rw[Ss (by show _<(z.cps.toList).length;lia)];rfl
  rw[<-g2,List.dropLast_concat_getLast]
 rw[j,v];show(⟨z.cps.extract 0 z.length⟩:Str)=z;rw[show z.length=z.cps.size from R,Array.extract_size]
inductive Zmf(K:Ox)(Q:VK)(x:V)(st:Option Int)(H2:Hp):Prop|mk a xs ys (_:(st=some 1/\ys=xs\/st=some (-1)/\ys=xs.reverse)) (_:x=.ref a) (_:Zd K H2 a xs) (_:∀p,H2 p=none->Q (.ref p) (upd H2 p (.lst ys)))
def Zmg(K:Ox)(h:TE)(ts:TO):TE:=λc H Q=>h c H λx g=>ts c g λst f=>Zmf K Q x st f
def Zmh{e st:Expr}{n:TE}{ts:TO}{S L:Pos}(G:PE X e n)(C:PO X (some st) ts):PE X (.Subscript e (.Slice none none (some st) S) L) (Zmg X.K n ts):=by
 intro pins s g H a0 I h;erw[Subscript_ (Zy (G pins s g H _ I h) λv Y ⟨x,O,U,r1,Q⟩=>?_)];erw[wpAny_Slice ?_];rw[evalPart_none];erw[Sb (Sb ?_)];erw[Zy (C pins Y g O _ U Q) λJ s2 ⟨Z,M,E,ZL,D⟩=>?_];ext⟨a,u,y,P,rfl,B,q⟩ D;cases r1;have c:Za X pins g M {s2 with heap:=s2.heap.push {cls:=.type "slice",data:=.fields #[.none,.none,J]} }:=E.kept (t':=s2.toks) λb ob q=>Sc _ q;obtain⟨f,r,i,j⟩:=c.list B;have hlen:=r.length;erw[tail_any (ops:=[.ref a,.ref s2.heap.objs.size]) (T := "list") i.isList.typeIs slot_list_getitem.lookup ?_ (by with_unfolding_all rfl)];rcases P with⟨rfl,rfl⟩|⟨rfl,rfl⟩;erw[wpAny_getItem_list_slice i.isList (Heap.IsSliceOf.new ..) .none .none ZL (by simp) ?_ (by rw[SN]<;>omega)];rw[show slicePick f.toArray none none (some 1)=slicePick f.toArray none none none from R,slicePick_all];erw[⟨.ref _,_,c.laid (t':=s2.toks) (o:=.lst y) (λb ob q=>Sc _ q) (Sg _) ?_,R,q _ (c.hok.fresh (Sg _))⟩];exact⟨j,f,0,r,Sd _ R⟩;erw[wpAny_getItem_list_slice i.isList (Heap.IsSliceOf.new ..) .none .none ZL (by simp) ?_ (by rw[SN]<;>omega)];rw[W.krv_pick];erw[⟨.ref _,_,c.laid (t':=s2.toks) (o:=.lst u.reverse) (λb ob q=>Sc _ q) (Sg _) ?_,R,q _ (c.hok.fresh (Sg _))⟩];exact⟨by rwa[List.length_reverse],f.reverse,0,zD r,Sd _ R⟩
end L2
namespace K1
open PySem L2
structure YY(lt:Addr)(q:Str)(H:Hp):Prop where
 ex:∃ps,H lt=some (.tbl ps)/\TriplesOk ps.toList/\∀pos v,codeAmong pos ps.toList=some v->∃a,v=.ref a/\H a=some (VS a q)
def YY.at(h:YY lt q H):∃c,H lt=some (.tbl c):=let ⟨c,e,_⟩:=h.ex;⟨c,e⟩
def YY.keep(k1:∀f,H lt=some (.tbl f)->g lt=some (.tbl f))(k2:∀a,H a=some (VS a q)->g a=some (VS a q))(h:YY lt q H):YY lt q g:=let ⟨f,e,t,c⟩:=h.ex;⟨f,k1 _ e,t,λi v e=>let ⟨a,ea,ha⟩:=c i v e;⟨a,ea,k2 _ ha⟩⟩
def YY.same(s:Zf H c)(h:YY lt q H):YY lt q c:=h.keep (λ_=>s _ _) λ_=>s _ _
def YY.nil(h:H lt=some (.tbl #[])):YY lt q H:=⟨#[],h,trivial,λ_ _ e=>by cases e⟩
def Zmi:∀{l:OB},TriplesOk l->TriplesOk (l++[rawInt a,rawInt b,c]):=by
 intro l;induction l using TriplesOk.induct with
 |case1=>exact λ_=>trivial
 |case2 i tok f j hd rest n =>
  intro h;rw[TriplesOk.eq_2]at h;show TriplesOk (Value.int i tok::Value.int f j::hd::(rest++_));rw[TriplesOk.eq_2];exact n h
 |case3 t g u =>
  intro h;rw[TriplesOk.eq_3 t g u]at h;exact h.elim
def Zmj:∀{l:OB},TriplesOk l->∀v,codeAmong j (l++[rawInt a,rawInt b,c])=some v->codeAmong j l=some v\/v=c:=by
 intro l;induction l using TriplesOk.induct with
 |case1 =>
  intro _ v e;rw[show[]++[rawInt a,rawInt b,c]=[Value.int a 0,Value.int b 0,c] from R,codeAmong.eq_1]at e;split at e;exact .inr (So e).symm;cases e
 |case2 i tok f g hd rest u =>
  intro h v e;rw[TriplesOk.eq_2]at h;rw[show(Value.int i tok::Value.int f g::hd::rest)++[rawInt a,rawInt b,c]=Value.int i tok::Value.int f g::hd::(rest++[rawInt a,rawInt b,c])from R,codeAmong.eq_1]at e;rw[codeAmong.eq_1];split at e
  ·next hc=>rw[SV hc];exact .inl e
  ·next hc=>rw[SU hc];exact u h v e
 |case3 t n x =>
  intro h;rw[TriplesOk.eq_3 t n x]at h;exact h.elim
def Zmk{params:Arguments}{body:Expr}{E:St}(h:YY lt q H)
  (k:∀(f c:Addr) (g:Value) (H':Hp),Zf (wo H lt) H'->YY lt q H'->H' f=some (Uo f q params body scope cl ((mg "__name__").getD .none) c g)->H' c=some (VS c q)->Q (.ref f) H'):Pi lt mg q params body scope cl i E H Q:=by
 ext⟨u,x,y,B⟩ h.ex;erw[⟨u,x,y,?_⟩];cases G:codeAmong i u.toList with
 |none =>
  erw[.inl ⟨R,λf c g j C ne=>?_⟩];have nf:lt≠f:=ZR x j;have J:lt≠c:=ZR x C;have D:(upd (upd (upd H lt (.tbl (u ++ #[rawInt i.line,rawInt i.col,.ref c]))) c (VS c q)) f (Uo f q params body scope cl ((mg "__name__").getD .none) c g)) c=some (VS c q):=by
   rw[Zj (Ne.symm ne),Zh]
  have S:Zf (wo H lt) (upd (upd (upd H lt (.tbl (u ++ #[rawInt i.line,rawInt i.col,.ref c]))) c (VS c q)) f (Uo f q params body scope cl ((mg "__name__").getD .none) c g)):=λa o e=>by
   obtain⟨n,e⟩:=zE e;rwa[Zj (ZR e j),Zj (ZR e C),Zj n]
  erw[k f c g _ S ⟨_,by rw[Zj nf,Zj J,Zh],?_,λpos' v e=>?_⟩ Zh D];rw[Array.toList_append];exact Zmi y;rw[Array.toList_append]at e;rcases Zmj y v e with e|rfl;obtain⟨a,rfl,ha⟩:=B pos' v e;exact⟨a,R,S _ _ (Xe ha λz=>by rw[z,x]at ha;cases ha)⟩;exact⟨c,R,D⟩
 |some v =>
  obtain⟨c,rfl,I⟩:=B i v G;erw[.inr ⟨c,R,λf g j=>?_⟩];have s:=Zx j (Uo f q params body scope cl ((mg "__name__").getD .none) c g);exact k f c g _ (Mv.trans s) (h.same s) Zh (s _ _ I)
def Zml(h:∀b o,cs b=some o->H b=none):unl cs (lent cs H)=H:=by
 funext b;cases q:cs b with
 |some o=>rw[A4 q,h b o q]
 |none=>rw[Vo q,XE q]
def ZcC(h:∀b o,cs b=some o->H b=none)(s:Zf (lent cs H) c):Zf H (unl cs c):=λa o e=>by
 cases q:cs a with
 |some ob=>rw[h a ob q]at e;cases e
 |none=>rw[Vo q];exact s _ _ (by rwa[XE q])
theorem ZcD:∀{cl:Oy} {x y:Str} {c:Addr},(cl.map (·.2)).Nodup->cl.lookup x=some c->cl.lookup y=some c->x=y
 |[],_,_,_,_,h,_=>by cases h
 |(z,d)::r,x,y,c,nd,h1,f=>by
  rw[SM,Ol]at nd;rw[List.lookup_cons]at h1 f;have mem:∀{w:Str},r.lookup w=some c->c∈r.map (·.2):=λ{w} e=>SJ.mpr ⟨(w,c),PySem.mem_of_lookup e,R⟩;cases i:x==z with
  |true =>
   rw[i]at h1;have n:d=c:=So h1;cases g:y==z with
   |true=>rw[eq_of_beq i,eq_of_beq g]
   |false=>rw[g]at f;exact Os (mem f) (by rw[<-n];exact nd.1)
  |false =>
   rw[i]at h1;cases g:y==z with
   |true =>
    rw[g]at f;have j:d=c:=So f;exact Os (mem h1) (by rw[<-j];exact nd.1)
   |false=>rw[g]at f;exact ZcD nd.2 h1 f
end K1
namespace L2
open PySem PySem.Spec PyProof.Rows
structure Z7(K:Ox)(mg:Ow)(x:Str)(st:Stmt)(ps:OC)(f:Addr)(d:OJ):Prop where
 F:WW K x x st f d
 m:mg x=some (.ref f)
 b:XB K d ps []
structure DM(K:Ox)(x:Str)(st:Stmt)(f:Addr)(d:OJ):Prop where
 a:W.nsIn K mainGlobals x=some (some (.ref f))
 F:WW K x x st f d
def Yb{h:Heap}{x:Str}{st:Stmt}{i:OC}{f:Addr}{d:OJ}(X:K.In h)(G:h.Ns mainGlobals mg)(p:DM K x st f d)
  (j:∀(us:OB),us.length=i.length->∀(kV n u:Value) (an:OF) (cdv ct:Value),bindArgs (W.fnOf x x (A1 st) (UQ st) (Zu st) .none kV n u an cdv ct) ⟨us,[]⟩=pure (i.zip us)):Z7 K mg x st i f d :=
 ⟨p.F,W.mg_of X G p.a,p.F.binds λa b c d e g us l=>j us l a b c d e g⟩
structure Z2(K:Ox)(C:Addr)(x q:Str)(st:Stmt)(ps:OC)(f:Addr)(d:OJ):Prop where
 F:WW K x q st f d
 me:Ys K C x f
 b:XB K d ps []
structure MM(K:Ox)(C:Addr)(x q:Str)(st:Stmt)(f:Addr)(d:OJ):Prop where
 me:Ys K C x f
 F:WW K x q st f d
def Z8{C:Addr}{x q:Str}{st:Stmt}{h:OC}{f:Addr}{d:OJ}(p:MM K C x q st f d)
  (i:∀(us:OB),us.length=h.length->∀(kV j n:Value) (an:OF) (cdv ct:Value),bindArgs (W.fnOf x q (A1 st) (UQ st) (Zu st) .none kV j n an cdv ct) ⟨us,[]⟩=pure (h.zip us)):Z2 K C x q st h f d :=
 ⟨p.F,p.me,p.F.binds λa b c d e g us l=>i us l a b c d e g⟩
def Qo{C:Addr}{cd:ClassData}(c:W.clsIn K C=some cd)(g1:W.findIn K (.ref C) "__getattribute__"=some (some (.builtin "BaseException.__getattribute__"))) (g2:W.findIn K (.ref C) "__getattr__"=some none) (g3:W.findIn K (.ref C) "__class__"=some (some (.builtin "object.__class__"))) (g4:W.mroIn K C (.type "object")=some true) (g5:W.mroIn K C (.type "BaseException")=some true) (g6:W.specialIn K (.builtin "object.__class__") "__get__"=some (some (.builtin "getset_descriptor.__get__"))) (g7:W.takesIn K (.builtin "object.__class__")=some true):YP K C:=⟨by rw[c];rfl,g1,g2,g3,g4,g5,g6,g7⟩
def KX(K:Ox)(C:Addr):List (Addr×Bool)->Prop
 |[]=>True
 |p::L=>W.kitOne K (.ref C) (.ref p.1)=some p.2/\KX K C L
def Qp{C:Addr}:KX K C []:=trivial
def Zm{C D:Addr}{b:Bool}{L:List (Addr×Bool)}(h:W.kitOne K (.ref C) (.ref D)=some b)(r:KX K C L):KX K C ((D,b)::L):=⟨h,r⟩
def Zz{N P:OC}{i:Scope}(h:(decide (i.kind=.function) && !i.isCoroutine && !i.isGenerator && decide N.Nodup && decide (N.take P.length=P) && P.all (λx=>decide (i.names.lookup x=some .local\/i.names.lookup x=some .cell)) && i.names.all (λy=>decide (y.2≠.free)))=true):Zw N P i:=by
 simp only[Bool.and_eq_true,decide_eq_true_eq,Bool.not_eq_true',List.all_eq_true]at h;ext⟨⟨⟨⟨⟨⟨a,b⟩,c⟩,d⟩,e⟩,f⟩,g⟩ h;exact⟨a,b,c,d,e,f,g⟩
section
variable{CX:Wd}{k j:Nat}{f C:Addr}{fd:OJ}{ps:OC}{sp:Sp}{E:XK}{x m q:Str}{st:Stmt}{e o:Expr}{es:OD}{t:TA}{ta:TE}{p apos:Pos}
def Zr(D:Z7 X.K X.mg x st ps f fd)(F:Zl X.prog X.w X.K X.mg X.base CX k f fd ps sp)(c:Yv j X.A)(h:WB CX X E)(ha:PA X (e::es) t)(i:k<=j:=by lia)(u:Gl X x:=by rfl)(v:(x==("__debug__" : Str))=false:=by lia) (g:starEach (e::es) X.env=(false,eval e X.env)::starEach es X.env:=by rfl) (n:(backTo pos (starEach es X.env)).any (·.1)=false:=by rfl) :
  PE X (.Call (.Name x p) (e::es) [] pos) (Tb sp [] E t):=WU F (c.mono i) u D.m D.F.kp D.b .nil h ha v g n
end
inductive Pr(K:Ox)(xs:List V)(H:Hp)(Q:VK):Prop|mk (a C D:Addr) (b:Bool) (_:xs=[.ref a,.ref D]) (_:H a=some (WC a (.ref C))) (_:YP K C) (_:W.kitOne K (.ref C) (.ref D)=some b) (_:Q (.bl b) H)
def WG(h:X.K=K:=by rfl):YN X (.builtin "isinstance") (Pr K):=by
 subst h;intro pins s n H c u Q I r ⟨a,C,D,b,j,f,g,i,q⟩;exact Zjw pins s n H c u Q I r ⟨a,C,D,b,j,f,g,i,q⟩
inductive ZcE(K:Ox)(xs:List V)(H:Hp)(Q:VK):Prop|mk (a C:Addr) (T:String) (b:Bool) (_:xs=[.ref a,.ty T]) (_:H a=some (WC a (.ref C))) (_:YP K C) (_:W.kitOne K (.ref C) (.type T)=some b) (_:Q (.bl b) H)
def Zmm(h:X.K=K:=by rfl):YN X (.builtin "isinstance") (ZcE K):=by
 subst h;intro pins s n H c u Q I r ⟨a,C,T,b,j,f,g,i,q⟩;exact Zjx pins s n H c u Q I r ⟨a,C,T,b,j,f,g,i,q⟩
def kx:X.nox.K=X.K:=rfl
def ky{CX:Wd}{N:OC}{q:Str}{c:Scope}{f:Addr}{cd:Value}{o:List Env}{E:XK}:(VA CX P w K mg base N q c f cd A o s H E).K=K:=rfl
def Sq1{f:TS}{D:WL}{c:St}(h:let d:=D;let g:=f d;let s:=c;g s H):(f) D c H:=h
def Gq1{f:TS}{D:WL}{c:St}{i:Nat}{x:V}(h:let d:=D;let g:=f d;let s:=c.set i (some x);g s H):YV i x c H (λc H=>(f) D c H):=h
def Sq2(h:let d:=D;let i:=t2 d;let g:=f {d with nx:=i};let s:=c;g s H):(Yi f t2) D c H:=h
def Gq2{c:St}(h:let d:=D;let j:=t2 d;let g:=f {d with nx:=j};let s:=c.set i (some x);g s H):YV i x c H (λc H=>(Yi f t2) D c H):=h
def Sq3(h:let d:=D;let i:=t3 d;let j:=t2 {d with nx:=i};let g:=f {d with nx:=j};let s:=c;g s H):(Yi f (Yi t2 t3)) D c H:=h
def Gq3{c:St}(h:let d:=D;let j:=t3 d;let n:=t2 {d with nx:=j};let g:=f {d with nx:=n};let s:=c.set i (some x);g s H):YV i x c H (λc H=>(Yi f (Yi t2 t3)) D c H):=h
def Sq4(h:let d:=D;let n:=c d;let j:=t3 {d with nx:=n};let u:=t2 {d with nx:=j};let i:=g {d with nx:=u};let s:=f;i s H):(Yi g (Yi t2 (Yi t3 c))) D f H:=h
def Sq5(h:let d:=D;let v:=i d;let u:=c {d with nx:=v};let n:=t3 {d with nx:=u};let x:=t2 {d with nx:=n};let j:=g {d with nx:=x};let s:=f;j s H):(Yi g (Yi t2 (Yi t3 (Yi c i)))) D f H:=h
def Sq6(h:let d:=D;let B:=c d;let x:=j {d with nx:=B};let v:=f {d with nx:=x};let u:=t3 {d with nx:=v};let y:=t2 {d with nx:=u};let n:=i {d with nx:=y};let s:=g;n s H):(Yi i (Yi t2 (Yi t3 (Yi f (Yi j c))))) D g H:=h
def Sq7(h:let d:=D;let y:=g d;let E:=c {d with nx:=y};let B:=n {d with nx:=E};let v:=f {d with nx:=B};let x:=t3 {d with nx:=v};let C:=t2 {d with nx:=x};let u:=j {d with nx:=C};let s:=i;u s H):(Yi j (Yi t2 (Yi t3 (Yi f (Yi n (Yi c g)))))) D i H:=h
def Gq7{c:St}(h:let d:=D;let C:=j d;let I:=f {d with nx:=C};let E:=u {d with nx:=I};let y:=g {d with nx:=E};let B:=t3 {d with nx:=y};let G:=t2 {d with nx:=B};let v:=n {d with nx:=G};let s:=c.set i (some x);v s H):YV i x c H (λc H=>(Yi n (Yi t2 (Yi t3 (Yi g (Yi u (Yi f j)))))) D c H):=h
def Sq8(h:let d:=D;let x:=j d;let C:=g {d with nx:=x};let I:=c {d with nx:=C};let E:=u {d with nx:=I};let y:=f {d with nx:=E};let B:=t3 {d with nx:=y};let G:=t2 {d with nx:=B};let v:=n {d with nx:=G};let s:=i;v s H):(Yi n (Yi t2 (Yi t3 (Yi f (Yi u (Yi c (Yi g j))))))) D i H:=h
def Sq10(h:let d:=D;let B:=f d;let L:=j {d with nx:=B};let C:=x {d with nx:=L};let O:=i {d with nx:=C};let y:=c {d with nx:=O};let I:=u {d with nx:=y};let E:=v {d with nx:=I};let M:=t3 {d with nx:=E};let G:=t2 {d with nx:=M};let J:=n {d with nx:=G};let s:=g;J s H):(Yi n (Yi t2 (Yi t3 (Yi v (Yi u (Yi c (Yi i (Yi x (Yi j f))))))))) D g H:=h
section
variable{a b c e o i:Expr}{es:OD}{ta tb td ty te:TE}{t:TA}{r:R2}{op:CmpOp}{pos' p:Pos}{x:Str}
def Zc(h1:PE X f g)(h:Xm f=true:=by rfl):PA X [f] (Yt g Y5):=(Yk h1 YZ h)
def Zv(h1:PE X f h)(n:PE X g t2)(j:Xm f=true:=by rfl)(u:Xm g=true:=by rfl):PA X [f,g] (Yt h (Yt t2 Y5)):=(Yk h1 (Yk n YZ u) j)
def Ym(h1:PE X g j)(y:PE X h t2)(v:PE X f t3)(u:Xm g=true:=by rfl)(B:Xm h=true:=by rfl)(n:Xm f=true:=by rfl):PA X [g,h,f] (Yt j (Yt t2 (Yt t3 Y5))):=(Yk h1 (Yk y (Yk v YZ n) B) u)
def Up(h1:PE X h u)(E:PE X j t2)(D:PE X f t3)(B:PE X g n)(y:Xm h=true:=by rfl)(G:Xm j=true:=by rfl)(v:Xm f=true:=by rfl)(C:Xm g=true:=by rfl):PA X [h,j,f,g] (Yt u (Yt t2 (Yt t3 (Yt n Y5)))):=(Yk h1 (Yk E (Yk D (Yk B YZ C) v) G) y)
def pa5(h1:PE X j v)(J:PE X n t2)(I:PE X f t3)(G:PE X h u)(B:PE X g y)(E:Xm j=true:=by rfl)(L:Xm n=true:=by rfl)(C:Xm f=true:=by rfl)(H:Xm h=true:=by rfl)(D:Xm g=true:=by rfl):PA X [j,n,f,h,g] (Yt v (Yt t2 (Yt t3 (Yt u (Yt y Y5))))):=(Yk h1 (Yk J (Yk I (Yk G (Yk B YZ D) H) C) L) E)
def pa6(h1:PE X u y)(M:PE X f t2)(L:PE X g t3)(G:PE X j C)(P:PE X h B)(J:PE X n v)(I:Xm u=true:=by rfl)(O:Xm f=true:=by rfl)(E:Xm g=true:=by rfl)(Q:Xm j=true:=by rfl)(H:Xm h=true:=by rfl)(D:Xm n=true:=by rfl):PA X [u,f,g,j,h,n] (Yt y (Yt t2 (Yt t3 (Yt C (Yt B (Yt v Y5)))))):=(Yk h1 (Yk M (Yk L (Yk G (Yk P (Yk J YZ D) H) Q) E) O) I)
def ZE(f:VB X r)(ha:PE X a ta)(g:PE X b tb)(h:Zbe b:=by exact λ_ _=>R):PE X (.Subscript a b pos) (Vz r ta tb):=Tg f ha g h
def Wk(f:Yv k X.A)(g:PE X o td)(hi:PE X i ty)(h:zB i:=by exact λ_ _=>R):PE X (.Subscript o i pos) (Zcm td ty):=ZkV (Uf f) g hi h
def ZL(k:Nat)(j:X.N.Nodup)(f:PE X e te)(hi:X.N[k]? = some x:=by rfl)(g:Q2 X.env.scope x:=by first|exact .inl rfl|exact .inr rfl)(n:swapsWith e (some (.Name x pos')) pos.line X.env=pure false:=by rfl)(h:X.fn x=true\/X.env.scope.names.lookup x=some .local:=by first|exact .inl rfl|exact .inr rfl|assumption):PS X (.Assign [.Name x pos'] e pos) (NJ te (YV k)):=Zh8 j hi g f n h
def ZZ(k:Nat)(f:X.N.Nodup)(hi:X.N[k]? = some x:=by rfl)(g:Q2 X.env.scope x:=by first|exact .inl rfl|exact .inr rfl)(h:X.fn x=true\/X.env.scope.names.lookup x=some .local:=by first|exact .inl rfl|exact .inr rfl|assumption):PG X (.Name x pos) (YV k):=R0 f hi g h
def WO{iter : Expr}{body:List Stmt}{tb:TS}(hi:PI X f iter h)(u:PG X f g)(n:XO X body tb)(y:PassesOwn (model X.prog X.w) X.A X.env X.xe:=by exact PassesOwn.never)(j:X.calm=true:=by rfl)(v:∀x,foldedSetIterable iter X.env x=pure x:=by intro _;rfl):PS X (.For f iter body [] pos) (ZaS h g tb):=NL y j hi u n v
def Ya(j:YH X (compareOp op) r)(ha:PE X a ta)(g:PE X b tb)(h:op≠.In:=by lia)(f:op≠.NotIn:=by lia):PT X (.Compare a [op] [b] pos) (R9 (Vz r ta tb)):=LV j ha g (XQ _ h f)
def ZV{id:String}{r:List V->Hp->VK->Prop}(f:YN X (.builtin id) r)(hm:X.mg x=none)(j:bootBuiltins x=some (.builtin id))(ha:PA X (e::es) t)(n:Gl X x:=by rfl)(hn:x ≠ "__name__" := by lia) (u:(x==("__debug__" : Str))=false:=by lia) (g:starEach (e::es) X.env=(false,eval e X.env)::starEach es X.env:=by rfl) (h:(backTo pos (starEach es X.env)).any (·.1)=false:=by rfl):PE X (.Call (.Name x p) (e::es) [] pos) (Uc r t):=NT f n hm j ha hn u g h
end
end L2
local macro_rules|`(tactic| sleep $n) => `(tactic| ((try dsimp only[L2.kx, L2.ky]); erw[$(Lean.mkIdent (.str (.str .anonymous "L2") (if n.getNat<99 then s!"Sq{n.getNat}" else s!"Gq{n.getNat-100}"))) ?_]; intros))
namespace K09
open PySem L2 K1
seal PySem.wpAny
def top(i:Nat):Stmt:=PySem.Challenge.pw_roadbook_k09_whole_texts_read_back.main.body.getD i (.Pass ⟨0,0,0,0⟩)
abbrev zS:Stmt:=top 24
def Zmn:Zw ["value"] ["value"] (Zu zS):=Zz ()
abbrev zU:Stmt:=top 25
def Zmo:Zw ["value","least","most"] ["value","least","most"] (Zu zU):=Zz ()
abbrev zV:Stmt:=top 26
def Zmp:Zw ["value","least","most"] ["value","least","most"] (Zu zV):=Zz ()
abbrev zW:Stmt:=top 27
def QJ:Zw ["values","longest","least","most","floor","value"] ["values","longest","least","most"] (Zu zW):=Zz ()
abbrev zX:Stmt:=top 28
def Zmq:Zw ["text"] ["text"] (Zu zX):=Zz ()
abbrev zY:Stmt:=top 29
def Zmr:Zw ["text"] ["text"] (Zu zY):=Zz ()
abbrev zZ:Stmt:=top 30
def Zms:Zw ["value"] ["value"] (Zu zZ):=Zz ()
abbrev yA:Stmt:=top 31
def Zmt:Zw ["value","named"] ["value","named"] (Zu yA):=Zz ()
abbrev yB:Stmt:=top 36
def Zmu:Zw ["number"] ["number"] (Zu yB):=Zz ()
abbrev yC:Stmt:=top 37
def Zmv:Zw ["minute"] ["minute"] (Zu yC):=Zz ()
abbrev yD:Stmt:=top 38
def Zmw:Zw ["text"] ["text"] (Zu yD):=Zz ()
abbrev yE:Stmt:=top 39
def yF:Zw ["text","minutes","minute"] ["text"] (Zu yE):=Zz ()
abbrev yG:Stmt:=top 47
def ZcF:Zw ["rule"] ["rule"] (Zu yG):=Zz ()
abbrev yH:Stmt:=top 48
def Zmx:Zw ["rule"] ["rule"] (Zu yH):=Zz ()
abbrev yI:Stmt:=top 49
def Zmy:Zw ["numbers"] ["numbers"] (Zu yI):=Zz ()
abbrev yJ:Stmt:=top 70
def Zmz:Zw ["name","named"] ["name","named"] (Zu yJ):=Zz ()
abbrev yK:Stmt:=top 71
def ZcG:Zw ["kept","most"] ["kept","most"] (Zu yK):=Zz ()
abbrev yL:Stmt:=top 72
def ZmA:Zw ["calls"] ["calls"] (Zu yL):=Zz ()
abbrev yM:Stmt:=top 73
def ZmB:Zw ["call","ahead"] ["call","ahead"] (Zu yM):=Zz ()
abbrev yN:Stmt:=top 76
def ZmC:Zw ["rule"] ["rule"] (Zu yN):=Zz ()
abbrev yO:Stmt:=top 77
def yP:Zw ["text","left","rule"] ["text"] (Zu yO):=Zz ()
abbrev yQ:Stmt:=top 78
def yR:Zw ["left","deep","word"] ["left","deep"] (Zu yQ):=Zz ()
abbrev yS:Stmt:=top 79
def ZmD:Zw ["left"] ["left"] (Zu yS):=Zz ()
abbrev yT:Stmt:=top 80
def ZmE:Zw ["left"] ["left"] (Zu yT):=Zz ()
abbrev yU:Stmt:=top 81
def ZmF:Zw ["left"] ["left"] (Zu yU):=Zz ()
abbrev yV:Stmt:=top 82
def J1:Zw ["left","signs","bits","weekday","sign"] ["left"] (Zu yV):=Zz ()
abbrev yW:Stmt:=top 84
def MF:Zw ["text","net","number","row","words"] ["text"] (Zu yW):=Zz ()
abbrev yX:Stmt:=top 85
def ZcH:Zw ["row","bare"] ["row"] (Zu yX):=Zz ()
abbrev yY:Stmt:=top 86
def ZcI:Zw ["net","number","words","e"] ["net","number","words"] (Zu yY):=Zz ()
abbrev yZ:Stmt:=top 87
def ZcJ:Zw ["words","count"] ["words"] (Zu yZ):=Zz ()
abbrev xA:Stmt:=top 88
def ZmG:Zw ["net","words"] ["net","words"] (Zu xA):=Zz ()
abbrev xB:Stmt:=top 89
def ZcK:Zw ["word","number"] ["word"] (Zu xB):=Zz ()
abbrev xC:Stmt:=top 90
def ZmH:Zw ["word"] ["word"] (Zu xC):=Zz ()
abbrev xD:Stmt:=top 91
def ZmI:Zw ["words"] ["words"] (Zu xD):=Zz ()
abbrev xE:Stmt:=top 94
def ZcL:Zw ["net","rows"] ["net"] (Zu xE):=Zz ()
abbrev xF:Stmt:=top 95
def ZmJ:Zw ["words"] ["words"] (Zu xF):=Zz ()
abbrev xG:Stmt:=top 96
def ZmK:Zw ["net","name"] ["net","name"] (Zu xG):=Zz ()
abbrev xH:Stmt:=top 97
def xI:Zw ["net","name","ticket","zones"] ["net","name"] (Zu xH):=Zz ()
abbrev xJ:Stmt:=top 98
def MG:Zw ["net","name","words","stop","arrive","leave"] ["net","name"] (Zu xJ):=Zz ()
abbrev xK:Stmt:=top 100
def ZmL:Zw ["_law_script","_law_k"] ["_law_script","_law_k"] (Zu xK):=Zz ()
abbrev xL:Stmt:=top 101
def ZcM:Zw ["_law_cell","_law_k","_law_number"] ["_law_cell","_law_k"] (Zu xL):=Zz ()
abbrev xM:Stmt:=top 102
def Ps:Zw ["_law_seed","_law_k","_law_letters","_law_tail","_law_at"] ["_law_seed","_law_k"] (Zu xM):=Zz ()
abbrev xN:Stmt:=top 103
def J2:Zw ["_law_number","_law_deep","_law_more","_law_way","_law_starts","_law_inner"] ["_law_number","_law_deep"] (Zu xN):=Zz ()
abbrev xO:Stmt:=top 104
def ZcN:Zw ["_law_told"] ["_law_told"] (Zu xO):=Zz ()
abbrev xP:Stmt:=top 105
def Uq:Zw ["_law_number","_law_stops","_law_many","_law_found","_law_time","_law_last","_law_k","_law_mixed_here","_law_left","_law_arrive","_law_leave"] ["_law_number","_law_stops","_law_many"] (Zu xP):=Zz ()
abbrev xQ:Stmt:=top 106
def ZmM:Zw [] [] (Zu xQ):=Zz ()
abbrev xR:Stmt:=top 107
def Vp:Zw ["_law_seed","_law_world_here","_law_names","_law_k","_law_stops","_law_pair","_law_mixed_here","_law_zones","_law_rules"] ["_law_seed"] (Zu xR):=Zz ()
abbrev xS:Stmt:=top 108
def VC:Zw ["_law_world_here","_law_net","_law_name_here","_law_told","_law_pair","_law_one","_law_other","_law_minutes"] ["_law_world_here"] (Zu xS):=Zz ()
abbrev xT:Stmt:=top 109
def Ur:Zw ["_law_call","e","_law_found"] ["_law_call"] (Zu xT):=Zz ()
abbrev xU:Stmt:=top 110
def J3:Zw ["_law_net","_law_found","_law_name_here","_law_rule_here","_law_days_here"] ["_law_net"] (Zu xU):=Zz ()
abbrev xV:Stmt:=top 111
def MH:Zw ["_law_net","_law_sort","_law_name_here","_law_more","_law_stops","_law_other","_law_rules","_law_calls_here"] ["_law_net","_law_sort","_law_name_here","_law_more"] (Zu xV):=Zz ()
abbrev xW:Stmt:=top 112
def ZcO:Zw ["_law_net","_law_other","_law_text"] ["_law_net","_law_other"] (Zu xW):=Zz ()
abbrev xX:Stmt:=top 113
def VD:Zw ["_law_script","_law_seed","_law_net","_law_other","_law_k","_law_cell","_law_mixed_here","_law_name_here","_law_first","_law_second","_law_told","_law_third"] ["_law_script"] (Zu xX):=Zz ()
abbrev xY:Stmt:=Z6 (top 50) 0
def ZmN:Zw ["self"] ["self"] (Zu xY):=Zz ()
abbrev xZ:Stmt:=Z6 (top 50) 1
def ZmO:Zw ["self"] ["self"] (Zu xZ):=Zz ()
abbrev wA:Stmt:=Z6 (top 50) 2
def ZmP:Zw ["self","day"] ["self","day"] (Zu wA):=Zz ()
abbrev wB:Stmt:=Z6 (top 50) 3
def ZmQ:Zw ["self"] ["self"] (Zu wB):=Zz ()
abbrev wC:Stmt:=Z6 (top 50) 4
def ZcP:Zw ["self"] ["self"] (Zu wC):=Zz ()
abbrev wD:Stmt:=Z6 (top 50) 5
def ZcQ:Zw ["self"] ["self"] (Zu wD):=Zz ()
abbrev wE:Stmt:=Z6 (top 51) 0
def ZmR:Zw ["self","bits"] ["self","bits"] (Zu wE):=Zz ()
abbrev wG:Stmt:=Z6 (top 51) 1
def ZmS:Zw ["self"] ["self"] (Zu wG):=Zz ()
abbrev wH:Stmt:=Z6 (top 51) 2
def ZmT:Zw ["self","day"] ["self","day"] (Zu wH):=Zz ()
abbrev wI:Stmt:=Z6 (top 51) 3
def ZmU:Zw ["self"] ["self"] (Zu wI):=Zz ()
abbrev wJ:Stmt:=Z6 (top 52) 0
def ZmV:Zw ["self","first","last","rule"] ["self","first","last","rule"] (Zu wJ):=Zz ()
abbrev wK:Stmt:=Z6 (top 52) 1
def ZcR:Zw ["self"] ["self"] (Zu wK):=Zz ()
abbrev wL:Stmt:=Z6 (top 52) 2
def ZmW:Zw ["self"] ["self"] (Zu wL):=Zz ()
abbrev wM:Stmt:=Z6 (top 52) 3
def ZcS:Zw ["self","day"] ["self","day"] (Zu wM):=Zz ()
abbrev wN:Stmt:=Z6 (top 52) 4
def ZcT:Zw ["self"] ["self"] (Zu wN):=Zz ()
abbrev wO:Stmt:=Z6 (top 53) 0
def ZmX:Zw ["self","length","starts"] ["self","length","starts"] (Zu wO):=Zz ()
abbrev wP:Stmt:=Z6 (top 53) 1
def ZmY:Zw ["self"] ["self"] (Zu wP):=Zz ()
abbrev wQ:Stmt:=Z6 (top 53) 2
def ZmZ:Zw ["self","day"] ["self","day"] (Zu wQ):=Zz ()
abbrev wR:Stmt:=Z6 (top 53) 3
def Zm0:Zw ["self"] ["self"] (Zu wR):=Zz ()
abbrev wT:Stmt:=Z6 (top 54) 0
def Zm1:Zw ["self","one","other"] ["self","one","other"] (Zu wT):=Zz ()
abbrev wU:Stmt:=Z6 (top 54) 1
def ZcU:Zw ["self"] ["self"] (Zu wU):=Zz ()
abbrev wV:Stmt:=Z6 (top 54) 2
def Zm2:Zw ["self"] ["self"] (Zu wV):=Zz ()
abbrev wW:Stmt:=Z6 (top 54) 3
def ZcV:Zw ["self","day"] ["self","day"] (Zu wW):=Zz ()
abbrev wX:Stmt:=Z6 (top 54) 4
def ZcW:Zw ["self"] ["self"] (Zu wX):=Zz ()
abbrev wY:Stmt:=Z6 (top 55) 0
def Zm3:Zw ["self","one","other"] ["self","one","other"] (Zu wY):=Zz ()
abbrev wZ:Stmt:=Z6 (top 55) 1
def ZcX:Zw ["self"] ["self"] (Zu wZ):=Zz ()
abbrev vA:Stmt:=Z6 (top 55) 2
def Zm4:Zw ["self"] ["self"] (Zu vA):=Zz ()
abbrev vB:Stmt:=Z6 (top 55) 3
def ZcY:Zw ["self","day"] ["self","day"] (Zu vB):=Zz ()
abbrev vC:Stmt:=Z6 (top 55) 4
def ZcZ:Zw ["self"] ["self"] (Zu vC):=Zz ()
abbrev vD:Stmt:=Z6 (top 56) 0
def Zm5:Zw ["self","days","rule"] ["self","days","rule"] (Zu vD):=Zz ()
abbrev vE:Stmt:=Z6 (top 56) 1
def Zc0:Zw ["self"] ["self"] (Zu vE):=Zz ()
abbrev vF:Stmt:=Z6 (top 56) 2
def Zm6:Zw ["self"] ["self"] (Zu vF):=Zz ()
abbrev vG:Stmt:=Z6 (top 56) 3
def Zc1:Zw ["self","day"] ["self","day"] (Zu vG):=Zz ()
abbrev vH:Stmt:=Z6 (top 56) 4
def Zc2:Zw ["self"] ["self"] (Zu vH):=Zz ()
abbrev vI:Stmt:=Z6 (top 74) 0
def Zm7:Zw ["self"] ["self"] (Zu vI):=Zz ()
abbrev vJ:Stmt:=Z6 (top 74) 2
def Zm8:Zw ["self","name","zone","change"] ["self","name","zone","change"] (Zu vJ):=Zz ()
abbrev vK:Stmt:=Z6 (top 74) 3
def Zm9:Zw ["self","one","other","minutes"] ["self","one","other","minutes"] (Zu vK):=Zz ()
abbrev vL:Stmt:=Z6 (top 74) 4
def Zc3:Zw ["self","name","rule","kept"] ["self","name","rule"] (Zu vL):=Zz ()
abbrev vM:Stmt:=Z6 (top 74) 5
def Zna:Zw ["self","name","price","lasts","zones"] ["self","name","price","lasts","zones"] (Zu vM):=Zz ()
abbrev vN:Stmt:=Z6 (top 74) 6
def vO:Zw ["self","name","rule","calls","number","call"] ["self","name","rule","calls"] (Zu vN):=Zz ()
abbrev vP:Stmt:=Z6 (top 74) 7
def Znb:Zw ["self","name"] ["self","name"] (Zu vP):=Zz ()
abbrev vQ:Stmt:=Z6 (top 74) 8
def Znc:Zw ["self","name"] ["self","name"] (Zu vQ):=Zz ()
abbrev vR:Stmt:=Z6 (top 74) 9
def Znd:Zw ["self","call"] ["self","call"] (Zu vR):=Zz ()
abbrev vS:Stmt:=Z6 (top 74) 10
def Zne:Zw ["self","one","other"] ["self","one","other"] (Zu vS):=Zz ()
abbrev vT:Stmt:=Z6 (top 74) 11
def Znf:Zw ["self"] ["self"] (Zu vT):=Zz ()
abbrev vU:Stmt:=Z6 (top 74) 12
def Zng:Zw ["self"] ["self"] (Zu vU):=Zz ()
abbrev vV:Stmt:=Z6 (top 74) 13
def Znh:Zw ["self"] ["self"] (Zu vV):=Zz ()
abbrev vW:Stmt:=Z6 (top 74) 14
def Zni:Zw ["self"] ["self"] (Zu vW):=Zz ()
abbrev vX:Stmt:=Z6 (top 74) 15
def Znj:Zw ["self"] ["self"] (Zu vX):=Zz ()
abbrev vY:Stmt:=Z6 (top 74) 16
def Znk:Zw ["self","stop"] ["self","stop"] (Zu vY):=Zz ()
abbrev vZ:Stmt:=Z6 (top 74) 17
def Znl:Zw ["self","stop"] ["self","stop"] (Zu vZ):=Zz ()
abbrev uA:Stmt:=Z6 (top 74) 18
def Znm:Zw ["self","name"] ["self","name"] (Zu uA):=Zz ()
abbrev uB:Stmt:=Z6 (top 74) 19
def Zc4:Zw ["self","name","row"] ["self","name"] (Zu uB):=Zz ()
abbrev uC:Stmt:=Z6 (top 74) 20
def Znn:Zw ["self","trip"] ["self","trip"] (Zu uC):=Zz ()
abbrev uD:Stmt:=Z6 (top 74) 21
def Zno:Zw ["self","trip"] ["self","trip"] (Zu uD):=Zz ()
def Znp:bootBuiltins "ValueError"=some (.type "ValueError"):=by lia
def uE:bootBuiltins "all"=some (.builtin "all"):=by lia
def Znq:bootBuiltins "any"=some (.builtin "any"):=by lia
def Znr:bootBuiltins "bool"=some (.type "bool"):=by lia
def Xr:bootBuiltins "int"=some (.type "int"):=by lia
def YQ:bootBuiltins "isinstance"=some (.builtin "isinstance"):=by lia
def Xf:bootBuiltins "len"=some (.builtin "len"):=by lia
def XT:bootBuiltins "list"=some (.type "list"):=by lia
def Zns:bootBuiltins "max"=some (.builtin "max"):=by lia
def Znt:bootBuiltins "range"=some (.type "range"):=by lia
def Zc5:bootBuiltins "set"=some (.type "set"):=by lia
def Zc6:bootBuiltins "sorted"=some (.builtin "sorted"):=by lia
def VT:bootBuiltins "str"=some (.type "str"):=by lia
def Znu:bootBuiltins "sum"=some (.builtin "sum"):=by lia
def J4:bootBuiltins "tuple"=some (.type "tuple"):=by lia
set_option genInjectivity false in
structure Z0 where
 Zc7:Addr
 Zc8:FuncData
 Zc9:Addr
 Zda:FuncData
 Zdb:Addr
 Zdc:FuncData
 uF:Addr
 uG:FuncData
 Zdd:Addr
 Zde:FuncData
 Zdf:Addr
 Zdg:FuncData
 Zdh:Addr
 Zdi:FuncData
 Zdj:Addr
 Zdk:FuncData
 Zdl:Addr
 Zdm:FuncData
 Zdn:Addr
 Zdo:FuncData
 Zdp:Addr
 Zdq:FuncData
 Zdr:Addr
 Zds:FuncData
 uH:Addr
 uI:FuncData
 Zdt:Addr
 Zdu:FuncData
 Zdv:Addr
 Zdw:FuncData
 Zdx:Addr
 Zdy:FuncData
 uJ:Addr
 uK:FuncData
 Zdz:Addr
 ZdA:FuncData
 ZdB:Addr
 ZdC:FuncData
 ZdD:Addr
 ZdE:FuncData
 ZdF:Addr
 ZdG:FuncData
 ZdH:Addr
 ZdI:FuncData
 ZdJ:Addr
 ZdK:FuncData
 ZdL:Addr
 ZdM:FuncData
 ZdN:Addr
 ZdO:FuncData
 ZdP:Addr
 ZdQ:FuncData
 ZdR:Addr
 ZdS:FuncData
 ZdT:Addr
 ZdU:FuncData
 ZdV:Addr
 ZdW:FuncData
 ZdX:Addr
 ZdY:FuncData
 ZdZ:Addr
 Zd0:FuncData
 Zd1:Addr
 Zd2:FuncData
 Zd3:Addr
 Zd4:FuncData
 Zd5:Addr
 Zd6:FuncData
 Zd7:Addr
 Zd8:FuncData
 Zd9:Addr
 Zea:FuncData
 Zeb:Addr
 Zec:FuncData
 Zed:Addr
 Zee:FuncData
 Zef:Addr
 Zeg:FuncData
 Zeh:Addr
 Zei:FuncData
 Zej:Addr
 Zek:FuncData
 Zel:Addr
 Zem:FuncData
 Zen:Addr
 Zeo:FuncData
 Zep:Addr
 Zeq:FuncData
 Zer:Addr
 Zes:FuncData
 Zet:Addr
 Zeu:FuncData
 Zev:Addr
 Zew:FuncData
 Zex:Addr
 Zey:FuncData
 Zez:Addr
 ZeA:FuncData
 ZeB:Addr
 ZeC:FuncData
 ZeD:Addr
 uL:FuncData
 ZeE:Addr
 ZeF:FuncData
 ZeG:Addr
 Pu:FuncData
 uM:Addr
 uN:FuncData
 Pv:Addr
 ZeH:FuncData
 uO:Addr
 uP:FuncData
 uQ:Addr
 uR:FuncData
 Qq:Addr
 ZeI:FuncData
 Qr:Addr
 ZeJ:FuncData
 Pw:Addr
 uS:FuncData
 uT:Addr
 uU:FuncData
 uV:Addr
 uW:FuncData
 uX:Addr
 uY:FuncData
 Px:Addr
 uZ:FuncData
 qA:Addr
 qB:FuncData
 ZeK:Addr
 ZeL:FuncData
 qC:Addr
 qD:FuncData
 qE:Addr
 qF:FuncData
 Py:Addr
 qG:FuncData
 qH:Addr
 qI:FuncData
 qJ:Addr
 qK:FuncData
 qL:Addr
 qM:FuncData
 Pz:Addr
 qN:FuncData
 qO:Addr
 qP:FuncData
 ZeM:Addr
 ZeN:FuncData
 qQ:Addr
 qR:FuncData
 qS:Addr
 qT:FuncData
 PB:Addr
 qU:FuncData
 qV:Addr
 qW:FuncData
 ZeO:Addr
 ZeP:FuncData
 qX:Addr
 qY:FuncData
 qZ:Addr
 jA:FuncData
 PD:Addr
 jB:FuncData
 jC:Addr
 jD:FuncData
 ZeQ:Addr
 ZeR:FuncData
 jE:Addr
 jF:FuncData
 jG:Addr
 jH:FuncData
 jI:Addr
 ZeS:FuncData
 ZeT:Addr
 ZeU:FuncData
 ZeV:Addr
 ZeW:FuncData
 ZeX:Addr
 ZeY:FuncData
 ZeZ:Addr
 Ze0:FuncData
 Ze1:Addr
 Ze2:FuncData
 Ze3:Addr
 Ze4:FuncData
 Ze5:Addr
 Ze6:FuncData
 Ze7:Addr
 Ze8:FuncData
 Ze9:Addr
 Zfa:FuncData
 Zfb:Addr
 Zfc:FuncData
 Zfd:Addr
 Zfe:FuncData
 Zff:Addr
 Zfg:FuncData
 Zfh:Addr
 Zfi:FuncData
 Zfj:Addr
 Zfk:FuncData
 Zfl:Addr
 Zfm:FuncData
 Zfn:Addr
 Zfo:FuncData
 Zfp:Addr
 Zfq:FuncData
 Zfr:Addr
 Zfs:FuncData
 Zft:Addr
 Zfu:FuncData
 Zfv:Addr
 Zfw:FuncData
 Us:Addr
 Vq:Addr
 Xw:Addr
 X3:Addr
 Wm:Addr
 Wo:Addr
 X4:Addr
 Wq:Addr
 Wr:Addr
 XU:Addr
 Ws:Addr
 Ut:Addr
 Uu:Addr
 Uv:Addr
 Uw:Addr
 Ux:Addr
 Uy:Addr
 Uz:Addr
 YJ:Addr
 Vr:Addr
 XV:Addr
 WP:Addr
 XF:Addr
 XG:Addr
 Wt:Addr
 ZT:Addr
 MI:Addr
 Xg:Addr
 PF:Addr
 Qs:Addr
 kf:W.Frag
structure Zs(K:Ox)(mg:Ow)(t:Z0):Prop where
 ZfW:mg "RoadError"=some (.ref t.Us)
 M9:mg "BadClock"=some (.ref t.Vq)
 UC:mg "BadRule"=some (.ref t.Xw)
 Rq:mg "TooMany"=some (.ref t.X3)
 ZfX:mg "BadName"=some (.ref t.Wm)
 kS:mg "Twice"=some (.ref t.Wo)
 ZfY:mg "NoStop"=some (.ref t.X4)
 kT:mg "NoRule"=some (.ref t.Wq)
 ZfZ:mg "NoTicket"=some (.ref t.Wr)
 Zf0:mg "NoTrip"=some (.ref t.XU)
 kU:mg "BadNumber"=some (.ref t.Ws)
 Zor:mg "BadCalls"=some (.ref t.Ut)
 Zos:mg "BadRow"=some (.ref t.Uu)
 Zot:mg "NoRun"=some (.ref t.Uv)
 Zou:mg "NoPlan"=some (.ref t.Uw)
 Zov:mg "TooLate"=some (.ref t.Ux)
 Zow:mg "NoTraveller"=some (.ref t.Uy)
 Zox:mg "BadLine"=some (.ref t.Uz)
 B8:mg "Rule"=some (.ref t.YJ)
 kW:mg "Week"=some (.ref t.Vr)
 kX:mg "Span"=some (.ref t.XV)
 kY:mg "Each"=some (.ref t.WP)
 kZ:mg "Either"=some (.ref t.XF)
 gA:mg "Both"=some (.ref t.XG)
 gB:mg "But"=some (.ref t.Wt)
 Zf1:mg "Net"=some (.ref t.ZT)
 Znv:mg "ValueError"=none
 jJ:mg "all"=none
 Znw:mg "any"=none
 Znx:mg "bool"=none
 PH:mg "enumerate"=none
 Xs:mg "int"=none
 YR:mg "isinstance"=none
 Xh:mg "len"=none
 XH:mg "list"=none
 Zny:mg "max"=none
 VU:mg "range"=none
 Znz:mg "reversed"=none
 Zfx:mg "set"=none
 Zfy:mg "sorted"=none
 VW:mg "str"=none
 ZnA:mg "sum"=none
 J5:mg "tuple"=none
 ZnB:∃tk,mg "FIGURES"=some (.str (OK "0123456789") tk)
 ZnC:∃tk,mg "MOST_FIGURES"=some (.int 5 tk)
 ZnD:∃tk,mg "LETTERS"=some (.str (OK "abcdefghijklmnopqrstuvwxyz") tk)
 ZnE:∃tk,mg "MOST_LETTERS"=some (.int 8 tk)
 jK:∃tk,mg "LAST_DAY"=some (.int 9999 tk)
 PJ:∃tk,mg "HOUR_MINUTES"=some (.int 60 tk)
 PL:∃tk,mg "LAST_MINUTE"=some (.int 2879 tk)
 jL:∃tk,mg "WEEK_DAYS"=some (.int 7 tk)
 ZnF:∃tk,mg "ALL_WEEK"=some (.int 127 tk)
 ZnG:∃tk,mg "MOST_LENGTH"=some (.int 28 tk)
 Zfz:∃tk,mg "MOST_LISTED"=some (.int 12 tk)
 ZnH:∃tk,mg "MOST_WEIGHT"=some (.int 15 tk)
 ZfA:∃tk,mg "MOST_DEPTH"=some (.int 8 tk)
 ZnI:∃tk,mg "MOST_STOPS"=some (.int 8 tk)
 ZnJ:∃tk,mg "MOST_WALKS"=some (.int 12 tk)
 ZnK:∃tk,mg "MOST_RULES"=some (.int 6 tk)
 ZnL:∃tk,mg "MOST_TICKETS"=some (.int 3 tk)
 ZnM:∃tk,mg "MOST_TRIPS"=some (.int 10 tk)
 jM:∃tk,mg "LAST_ZONE"=some (.int 6 tk)
 ZnN:∃tk,mg "MOST_CHANGE"=some (.int 30 tk)
 ZnO:∃tk,mg "MOST_WALKED"=some (.int 60 tk)
 ZnP:∃tk,mg "MOST_PRICE"=some (.int 10000 tk)
 ZnQ:∃tk,mg "MOST_LASTING"=some (.int 1440 tk)
 ZnR:∃tk,mg "LEAST_CALLS"=some (.int 2 tk)
 ZnS:∃tk,mg "MOST_CALLS"=some (.int 6 tk)
 ZfB:Z7 K mg "is_any_number" zS ["value"] t.Zc7 t.Zc8
 Qt:Z7 K mg "is_number" zU ["value","least","most"] t.Zc9 t.Zda
 QK:Z7 K mg "check_number" zV ["value","least","most"] t.Zdb t.Zdc
 MJ:Z7 K mg "are_rising" zW ["values","longest","least","most"] t.uF t.uG
 PM:Z7 K mg "are_figures" zX ["text"] t.Zdd t.Zde
 PN:Z7 K mg "number_by" zY ["text"] t.Zdf t.Zdg
 ZfC:Z7 K mg "is_name" zZ ["value"] t.Zdh t.Zdi
 J6:Z7 K mg "is_known" yA ["value","named"] t.Zdj t.Zdk
 jN:Z7 K mg "two_figures" yB ["number"] t.Zdl t.Zdm
 jO:Z7 K mg "clock_text" yC ["minute"] t.Zdn t.Zdo
 ZfD:Z7 K mg "has_clock_form" yD ["text"] t.Zdp t.Zdq
 jP:Z7 K mg "minute_of" yE ["text"] t.Zdr t.Zds
 U0:Z7 K mg "copy_of" yG ["rule"] t.uH t.uI
 MK:Z7 K mg "check_size" yH ["rule"] t.Zdt t.Zdu
 jQ:Z7 K mg "list_text" yI ["numbers"] t.Zdv t.Zdw
 ML:Z7 K mg "check_new" yJ ["name","named"] t.Zdx t.Zdy
 A9:Z7 K mg "check_room" yK ["kept","most"] t.uJ t.uK
 ZfE:Z7 K mg "have_calls_form" yL ["calls"] t.Zdz t.ZdA
 ZfF:Z7 K mg "can_follow" yM ["call","ahead"] t.ZdB t.ZdC
 ZfG:Z7 K mg "rule_text" yN ["rule"] t.ZdD t.ZdE
 ZfH:Z7 K mg "rule_of" yO ["text"] t.ZdF t.ZdG
 XI:Z7 K mg "rule_from" yQ ["left","deep"] t.ZdH t.ZdI
 MN:Z7 K mg "word_from" yS ["left"] t.ZdJ t.ZdK
 PP:Z7 K mg "number_from" yT ["left"] t.ZdL t.ZdM
 jR:Z7 K mg "numbers_from" yU ["left"] t.ZdN t.ZdO
 ZfI:Z7 K mg "bits_from" yV ["left"] t.ZdP t.ZdQ
 PQ:Z7 K mg "net_of" yW ["text"] t.ZdR t.ZdS
 ZfJ:Z7 K mg "words_in" yX ["row"] t.ZdT t.ZdU
 ZfK:Z7 K mg "put_row" yY ["net","number","words"] t.ZdV t.ZdW
 ZfL:Z7 K mg "have_row_form" yZ ["words"] t.ZdX t.ZdY
 ZfM:Z7 K mg "put_words" xA ["net","words"] t.ZdZ t.Zd0
 J7:Z7 K mg "number_in" xB ["word"] t.Zd1 t.Zd2
 ZfN:Z7 K mg "zones_in" xC ["word"] t.Zd3 t.Zd4
 ZfO:Z7 K mg "calls_in" xD ["words"] t.Zd5 t.Zd6
 J8:Z7 K mg "net_text" xE ["net"] t.Zd7 t.Zd8
 J9:Z7 K mg "joined" xF ["words"] t.Zd9 t.Zea
 ZfP:Z7 K mg "stop_row" xG ["net","name"] t.Zeb t.Zec
 ZfQ:Z7 K mg "ticket_row" xH ["net","name"] t.Zed t.Zee
 ZfR:Z7 K mg "trip_row" xJ ["net","name"] t.Zef t.Zeg
 ZfS:Z7 K mg "_law_cell_at" xK ["_law_script","_law_k"] t.Zeh t.Zei
 UA:Z7 K mg "_law_mixed" xL ["_law_cell","_law_k"] t.Zej t.Zek
 jS:Z7 K mg "_law_name" xM ["_law_seed","_law_k"] t.Zel t.Zem
 U1:Z7 K mg "_law_days" xN ["_law_number","_law_deep"] t.Zen t.Zeo
 Xz:Z7 K mg "_law_rule" xO ["_law_told"] t.Zep t.Zeq
 jT:Z7 K mg "_law_calls" xP ["_law_number","_law_stops","_law_many"] t.Zer t.Zes
 PR:Z7 K mg "_law_world" xQ [] t.Zet t.Zeu
 ZfT:Z7 K mg "_law_drawn" xR ["_law_seed"] t.Zev t.Zew
 ZfU:Z7 K mg "_law_made" xS ["_law_world_here"] t.Zex t.Zey
 X5:Z7 K mg "_law_said" xT ["_law_call"] t.Zez t.ZeA
 MO:Z7 K mg "_law_all" xU ["_law_net"] t.ZeB t.ZeC
 jU:Z7 K mg "_law_put" xV ["_law_net","_law_sort","_law_name_here","_law_more"] t.ZeD t.uL
 PU:Z7 K mg "_law_alike" xW ["_law_net","_law_other"] t.ZeE t.ZeF
 jV:Z7 K mg "law" xX ["_law_script"] t.ZeG t.Pu
 jW:Z2 K t.YJ "copied" "Rule.copied" xY ["self"] t.uM t.uN
 MP:Z2 K t.YJ "parts" "Rule.parts" xZ ["self"] t.Pv t.ZeH
 jX:Z2 K t.YJ "runs" "Rule.runs" wA ["self","day"] t.uO t.uP
 jY:Z2 K t.YJ "words" "Rule.words" wB ["self"] t.uQ t.uR
 K0:Z2 K t.YJ "weight" "Rule.weight" wC ["self"] t.Qq t.ZeI
 MQ:Z2 K t.YJ "depth" "Rule.depth" wD ["self"] t.Qr t.ZeJ
 PV:Z2 K t.Vr "__init__" "Week.__init__" wE ["self","bits"] t.Pw t.uS
 jZ:Z2 K t.Vr "copied" "Week.copied" wG ["self"] t.uT t.uU
 MR:Z2 K t.Vr "runs" "Week.runs" wH ["self","day"] t.uV t.uW
 kA:Z2 K t.Vr "words" "Week.words" wI ["self"] t.uX t.uY
 PX:Z2 K t.XV "__init__" "Span.__init__" wJ ["self","first","last","rule"] t.Px t.uZ
 PY:Z2 K t.XV "copied" "Span.copied" wK ["self"] t.qA t.qB
 kB:Z2 K t.XV "parts" "Span.parts" wL ["self"] t.ZeK t.ZeL
 PZ:Z2 K t.XV "runs" "Span.runs" wM ["self","day"] t.qC t.qD
 P5:Z2 K t.XV "words" "Span.words" wN ["self"] t.qE t.qF
 P6:Z2 K t.WP "__init__" "Each.__init__" wO ["self","length","starts"] t.Py t.qG
 kC:Z2 K t.WP "copied" "Each.copied" wP ["self"] t.qH t.qI
 kD:Z2 K t.WP "runs" "Each.runs" wQ ["self","day"] t.qJ t.qK
 kE:Z2 K t.WP "words" "Each.words" wR ["self"] t.qL t.qM
 P7:Z2 K t.XF "__init__" "Either.__init__" wT ["self","one","other"] t.Pz t.qN
 P8:Z2 K t.XF "copied" "Either.copied" wU ["self"] t.qO t.qP
 kF:Z2 K t.XF "parts" "Either.parts" wV ["self"] t.ZeM t.ZeN
 P9:Z2 K t.XF "runs" "Either.runs" wW ["self","day"] t.qQ t.qR
 Ra:Z2 K t.XF "words" "Either.words" wX ["self"] t.qS t.qT
 Rb:Z2 K t.XG "__init__" "Both.__init__" wY ["self","one","other"] t.PB t.qU
 Rc:Z2 K t.XG "copied" "Both.copied" wZ ["self"] t.qV t.qW
 kG:Z2 K t.XG "parts" "Both.parts" vA ["self"] t.ZeO t.ZeP
 Re:Z2 K t.XG "runs" "Both.runs" vB ["self","day"] t.qX t.qY
 Rf:Z2 K t.XG "words" "Both.words" vC ["self"] t.qZ t.jA
 Rg:Z2 K t.Wt "__init__" "But.__init__" vD ["self","days","rule"] t.PD t.jB
 Rh:Z2 K t.Wt "copied" "But.copied" vE ["self"] t.jC t.jD
 kH:Z2 K t.Wt "parts" "But.parts" vF ["self"] t.ZeQ t.ZeR
 Ri:Z2 K t.Wt "runs" "But.runs" vG ["self","day"] t.jE t.jF
 Rj:Z2 K t.Wt "words" "But.words" vH ["self"] t.jG t.jH
 kI:Z2 K t.ZT "__init__" "Net.__init__" vI ["self"] t.jI t.ZeS
 B1:Z2 K t.ZT "add_stop" "Net.add_stop" vJ ["self","name","zone","change"] t.ZeT t.ZeU
 B2:Z2 K t.ZT "add_walk" "Net.add_walk" vK ["self","one","other","minutes"] t.ZeV t.ZeW
 Qu:Z2 K t.ZT "add_rule" "Net.add_rule" vL ["self","name","rule"] t.ZeX t.ZeY
 B3:Z2 K t.ZT "add_ticket" "Net.add_ticket" vM ["self","name","price","lasts","zones"] t.ZeZ t.Ze0
 B4:Z2 K t.ZT "add_trip" "Net.add_trip" vN ["self","name","rule","calls"] t.Ze1 t.Ze2
 UB:Z2 K t.ZT "check_stop" "Net.check_stop" vP ["self","name"] t.Ze3 t.Ze4
 MS:Z2 K t.ZT "check_trip" "Net.check_trip" vQ ["self","name"] t.Ze5 t.Ze6
 kJ:Z2 K t.ZT "check_call" "Net.check_call" vR ["self","call"] t.Ze7 t.Ze8
 kK:Z2 K t.ZT "has_walk" "Net.has_walk" vS ["self","one","other"] t.Ze9 t.Zfa
 Qv:Z2 K t.ZT "stops" "Net.stops" vT ["self"] t.Zfb t.Zfc
 MT:Z2 K t.ZT "walks" "Net.walks" vU ["self"] t.Zfd t.Zfe
 Qw:Z2 K t.ZT "rules" "Net.rules" vV ["self"] t.Zff t.Zfg
 B5:Z2 K t.ZT "tickets" "Net.tickets" vW ["self"] t.Zfh t.Zfi
 B6:Z2 K t.ZT "trips" "Net.trips" vX ["self"] t.Zfj t.Zfk
 MU:Z2 K t.ZT "zone" "Net.zone" vY ["self","stop"] t.Zfl t.Zfm
 MV:Z2 K t.ZT "change" "Net.change" vZ ["self","stop"] t.Zfn t.Zfo
 MW:Z2 K t.ZT "rule" "Net.rule" uA ["self","name"] t.Zfp t.Zfq
 MX:Z2 K t.ZT "ticket" "Net.ticket" uB ["self","name"] t.Zfr t.Zfs
 MY:Z2 K t.ZT "rule_name" "Net.rule_name" uC ["self","trip"] t.Zft t.Zfu
 MZ:Z2 K t.ZT "calls" "Net.calls" uD ["self","trip"] t.Zfv t.Zfw
 K2:YI K t.YJ
 Rk:TN K t.YJ
 U2:YI K t.Vr
 kL:Mk K t.Vr t.Pw
 ZnT:Ys K t.Vr "depth" t.Qr
 ZnU:Ys K t.Vr "parts" t.Pv
 ZnV:Ys K t.Vr "weight" t.Qq
 kM:Xt K t.Vr "bits"
 X6:YI K t.XV
 kN:Mk K t.XV t.Px
 ZnW:Ys K t.XV "depth" t.Qr
 ZnX:Ys K t.XV "weight" t.Qq
 Rl:Xt K t.XV "first"
 Rm:Xt K t.XV "last"
 M0:Xt K t.XV "inner"
 Vs:YI K t.WP
 kO:Mk K t.WP t.Py
 ZnY:Ys K t.WP "depth" t.Qr
 ZnZ:Ys K t.WP "parts" t.Pv
 Zn0:Ys K t.WP "weight" t.Qq
 Rn:Xt K t.WP "length"
 Ro:Xt K t.WP "starts"
 WQ:YI K t.XF
 kP:Mk K t.XF t.Pz
 Zn1:Ys K t.XF "depth" t.Qr
 Zn2:Ys K t.XF "weight" t.Qq
 M3:Xt K t.XF "one"
 M4:Xt K t.XF "other"
 WR:YI K t.XG
 kQ:Mk K t.XG t.PB
 Zn3:Ys K t.XG "depth" t.Qr
 Zn4:Ys K t.XG "weight" t.Qq
 M5:Xt K t.XG "one"
 M6:Xt K t.XG "other"
 W2:YI K t.Wt
 kR:Mk K t.Wt t.PD
 Zn5:Ys K t.Wt "depth" t.Qr
 Zn6:Ys K t.Wt "weight" t.Qq
 Rp:Xt K t.Wt "days"
 M7:Xt K t.Wt "inner"
 ZG:YI K t.ZT
 ZfV:Mk K t.ZT t.jI
 QL:Xt K t.ZT "stop_rows"
 M8:Xt K t.ZT "walk_rows"
 QM:Xt K t.ZT "rule_rows"
 B7:Xt K t.ZT "ticket_rows"
 QN:Xt K t.ZT "trip_rows"
 Zn7:WN K t.YJ
 Zn8:W.kitOne K (.ref t.YJ) (.ref t.YJ)=some true
 Zn9:WN K t.Vr
 Zoa:W.kitOne K (.ref t.Vr) (.ref t.YJ)=some true
 Zob:WN K t.XV
 Zoc:W.kitOne K (.ref t.XV) (.ref t.YJ)=some true
 Zod:WN K t.WP
 Zoe:W.kitOne K (.ref t.WP) (.ref t.YJ)=some true
 Zof:WN K t.XF
 Zog:W.kitOne K (.ref t.XF) (.ref t.YJ)=some true
 Zoh:WN K t.XG
 Zoi:W.kitOne K (.ref t.XG) (.ref t.YJ)=some true
 Zoj:WN K t.Wt
 Zok:W.kitOne K (.ref t.Wt) (.ref t.YJ)=some true
 Zol:W.kitOne K (.type "NoneType") (.ref t.YJ)=some false
 Zom:W.kitOne K (.type "bool") (.ref t.YJ)=some false
 Zon:W.kitOne K (.type "int") (.ref t.YJ)=some false
 Zoo:W.kitOne K (.type "str") (.ref t.YJ)=some false
 Zop:W.kitOne K (.type "list") (.ref t.YJ)=some false
 Zoq:W.kitOne K (.type "tuple") (.ref t.YJ)=some false
 U3:Xx K t.Xw
 Zoy:YP K t.Xw
 Zoz:KX K t.Xw [(t.Vq,false),(t.Xw,true),(t.X3,false),(t.Wm,false),(t.Wo,false),(t.X4,false),(t.Wq,false),(t.Wr,false),(t.XU,false),(t.Ws,false),(t.Ut,false),(t.Uu,false),(t.Uv,false),(t.Uw,false),(t.Ux,false),(t.Uz,false),(t.Uy,false)]
 ZoA:W.kitOne K (.ref t.Xw) (.type "ValueError")=some true
 ZoB:W.exmOne K (.ref t.Xw) (.ref t.Us)=some true
 Zf2:Xx K t.X3
 ZoC:YP K t.X3
 ZoD:KX K t.X3 [(t.Vq,false),(t.Xw,false),(t.X3,true),(t.Wm,false),(t.Wo,false),(t.X4,false),(t.Wq,false),(t.Wr,false),(t.XU,false),(t.Ws,false),(t.Ut,false),(t.Uu,false),(t.Uv,false),(t.Uw,false),(t.Ux,false),(t.Uz,false),(t.Uy,false)]
 ZoE:W.kitOne K (.ref t.X3) (.type "ValueError")=some true
 ZoF:W.exmOne K (.ref t.X3) (.ref t.Us)=some true
 ZoG:Xx K t.Wm
 ZoH:YP K t.Wm
 ZoI:KX K t.Wm [(t.Vq,false),(t.Xw,false),(t.X3,false),(t.Wm,true),(t.Wo,false),(t.X4,false),(t.Wq,false),(t.Wr,false),(t.XU,false),(t.Ws,false),(t.Ut,false),(t.Uu,false),(t.Uv,false),(t.Uw,false),(t.Ux,false),(t.Uz,false),(t.Uy,false)]
 ZoJ:W.kitOne K (.ref t.Wm) (.type "ValueError")=some true
 ZoK:W.exmOne K (.ref t.Wm) (.ref t.Us)=some true
 Zf3:Xx K t.Wo
 ZoL:YP K t.Wo
 ZoM:KX K t.Wo [(t.Vq,false),(t.Xw,false),(t.X3,false),(t.Wm,false),(t.Wo,true),(t.X4,false),(t.Wq,false),(t.Wr,false),(t.XU,false),(t.Ws,false),(t.Ut,false),(t.Uu,false),(t.Uv,false),(t.Uw,false),(t.Ux,false),(t.Uz,false),(t.Uy,false)]
 ZoN:W.kitOne K (.ref t.Wo) (.type "ValueError")=some true
 ZoO:W.exmOne K (.ref t.Wo) (.ref t.Us)=some true
 ZoP:Xx K t.X4
 ZoQ:YP K t.X4
 ZoR:KX K t.X4 [(t.Vq,false),(t.Xw,false),(t.X3,false),(t.Wm,false),(t.Wo,false),(t.X4,true),(t.Wq,false),(t.Wr,false),(t.XU,false),(t.Ws,false),(t.Ut,false),(t.Uu,false),(t.Uv,false),(t.Uw,false),(t.Ux,false),(t.Uz,false),(t.Uy,false)]
 ZoS:W.kitOne K (.ref t.X4) (.type "ValueError")=some true
 ZoT:W.exmOne K (.ref t.X4) (.ref t.Us)=some true
 Zf4:Xx K t.Wq
 ZoU:YP K t.Wq
 ZoV:KX K t.Wq [(t.Vq,false),(t.Xw,false),(t.X3,false),(t.Wm,false),(t.Wo,false),(t.X4,false),(t.Wq,true),(t.Wr,false),(t.XU,false),(t.Ws,false),(t.Ut,false),(t.Uu,false),(t.Uv,false),(t.Uw,false),(t.Ux,false),(t.Uz,false),(t.Uy,false)]
 ZoW:W.kitOne K (.ref t.Wq) (.type "ValueError")=some true
 ZoX:W.exmOne K (.ref t.Wq) (.ref t.Us)=some true
 ZoY:Xx K t.Wr
 ZoZ:YP K t.Wr
 Zo0:KX K t.Wr [(t.Vq,false),(t.Xw,false),(t.X3,false),(t.Wm,false),(t.Wo,false),(t.X4,false),(t.Wq,false),(t.Wr,true),(t.XU,false),(t.Ws,false),(t.Ut,false),(t.Uu,false),(t.Uv,false),(t.Uw,false),(t.Ux,false),(t.Uz,false),(t.Uy,false)]
 Zo1:W.kitOne K (.ref t.Wr) (.type "ValueError")=some true
 Zo2:W.exmOne K (.ref t.Wr) (.ref t.Us)=some true
 Zo3:Xx K t.XU
 Zo4:YP K t.XU
 Zo5:KX K t.XU [(t.Vq,false),(t.Xw,false),(t.X3,false),(t.Wm,false),(t.Wo,false),(t.X4,false),(t.Wq,false),(t.Wr,false),(t.XU,true),(t.Ws,false),(t.Ut,false),(t.Uu,false),(t.Uv,false),(t.Uw,false),(t.Ux,false),(t.Uz,false),(t.Uy,false)]
 Zo6:W.kitOne K (.ref t.XU) (.type "ValueError")=some true
 Zo7:W.exmOne K (.ref t.XU) (.ref t.Us)=some true
 Zf5:Xx K t.Ws
 Zo8:YP K t.Ws
 Zo9:KX K t.Ws [(t.Vq,false),(t.Xw,false),(t.X3,false),(t.Wm,false),(t.Wo,false),(t.X4,false),(t.Wq,false),(t.Wr,false),(t.XU,false),(t.Ws,true),(t.Ut,false),(t.Uu,false),(t.Uv,false),(t.Uw,false),(t.Ux,false),(t.Uz,false),(t.Uy,false)]
 Zpa:W.kitOne K (.ref t.Ws) (.type "ValueError")=some true
 Zpb:W.exmOne K (.ref t.Ws) (.ref t.Us)=some true
 Rr:Xx K t.Vq
 Na:t.uL.code=.ref t.MI
 Zpc:W.codeHdIn K t.MI t.Xg=true
 Zpd:K.lookup t.Xg=none
 Zpe:t.Pu.code=.ref t.PF
 Zpf:W.codeHdIn K t.PF t.Qs=true
 Zpg:K.lookup t.Qs=none
 Zph:t.Xg≠t.Qs
 kf:t.kf=K
section
variable{t:Z0}
def Yc(z:Str):Prop:=1<=z.length/\z.length<=8/\(∀c∈z.cps.toList,97<=c/\c<=122)/\True
inductive Zpi(vs:List V)(H:Hp)(Q:VK)(_e3:XK):Prop|mk (v:V) (T:String) (_:vs=[v]) (_:Kd H v T) (_:Q (.bl (ZjN v)) H)
def Zpj(c:Zs K mg t):Zl P w K mg base Zo 1 t.Zc7 t.Zc8 ["value"] Zpi:=by
 erw[c.ZfB.F.ok Zmn () λj A outer s H g Q E f h=>?_];ext⟨v,T,rfl,kd,q⟩ h;erw[⟨_,(Ze (Zt (Vx (ZV Ug c.YR YQ (Zv (pv 0) (VM R c.Xs Xr))) (Vi (ZaN (ZV Ug c.YR YQ (Zv (pv 0) (VM R c.Znx Znr)))))))),?_⟩];sleep 1;erw[⟨_,R,v,"int",_,_,R,kd.ty,ZjH kd,_,R,?_⟩];cases kd with
 |non=>exact Zn () q
 |str x=>exact Zn () q
 |lst e=>exact Zn () q
 |tup e=>exact Zn () q
 |dK e=>exact Zn () q
 |bl b=>exact ZB () ⟨_,R,_,"bool",_,_,R,(Kd.bl b).ty (H:=H),ZbG (H:=H) (.bl b),_,R,q⟩
 |int i=>exact ZB () ⟨_,R,_,"bool",_,_,R,(Kd.int i).ty (H:=H),ZbG (H:=H) (.int i),_,R,q⟩
inductive Zpk(vs:List V)(H:Hp)(Q:VK)(_e3:XK):Prop|mk (v:V) (lo hi:Int) (T:String) (_:vs=[v,.int lo,.int hi]) (_:Kd H v T) (_:Q (.bl (Xy v lo hi)) H)
def QO(g:Zs K mg t):Zl P w K mg base Zo 2 t.Zc9 t.Zda ["value","least","most"] Zpk:=by
 erw[g.Qt.F.ok Zmo () λy A outer s H u Q E n h=>?_];ext⟨v,lo,f,T,rfl,kd,q⟩ h;erw[⟨_,(Ze (Zt (Vx (Zr g.ZfB (Zpj g) n Zk (Zc (pv 0))) (Vi (ZaX VJ VJ (pv 1) (pv 0) (pv 2)))))),?_⟩];sleep 1;erw[⟨_,R,v,T,R,kd,_,R,?_⟩];cases kd with
 |non=>exact Zn SO q
 |str x=>exact Zn SO q
 |lst e=>exact Zn SO q
 |tup e=>exact Zn SO q
 |dK e=>exact Zn SO q
 |bl b=>exact Zn SO q
 |int i =>
  erw[ZB R ?_];erw[⟨_,R,_,R,_,_,R,R,_,R,?_⟩];erw[Vl (λc=>?_) (λc=>?_)];erw[⟨_,R,_,_,R,R,?_⟩];have j:lo<=i:=SS c;have e:decide (i<=f)=Xy (.int i) lo f:=by
   show decide (i<=f)=decide (lo<=i/\i<=f);exact decide_eq_decide.mpr ⟨λz=>⟨j,z⟩,λz=>z.2⟩
  rw[<-e]at q;exact q;have j:¬ lo<=i:=of_decide_eq_false (Oh.mpr c);have e:false=Xy (.int i) lo f:=by
   show false=decide (lo<=i/\i<=f);exact(SR λz=>j z.1).symm
  rw[<-e]at q;exact q
inductive Zpl(vs:List V)(H:Hp)(Q:VK)(_e3:XK):Prop|mk (a:Addr) (ss:OG) (n lo:Nat) (hi:Int) (_:vs=[.ref a,.int n,.int lo,.int hi]) (_:H a=some (.lst (ZN ss))) (_:1<=ss.length) (_:ss.length<=n) (_:ss.Pairwise (· < ·)) (_:(∀x∈ss,lo<=x/\((x:Nat):Int)<=hi)) (_:Q (.bl true) H)
def Zf6(c:Zs K mg t):Zl P w K mg base Zo 3 t.uF t.uG ["values","longest","least","most"] Zpl:=by
 erw[c.MJ.F.ok QJ () λT A outer s H M Q E L h=>?_];ext⟨a,g,n,lo,J,rfl,ha,O,S,up,G,q⟩ h;erw[⟨_,(Zi (ZH (PW.pt (Q4 (Yx (Yy (ZV Ug c.YR YQ (Zv (pv 0) (VM R c.XH XT))))) (Q3 (Yx (NP VJ VJ Zb (ZV X0 c.Xh Xf (Zc (pv 0))) (pv 1)))))) (Ze (Zt Vh)) ZJ) (Zi (ZL 4 QJ.nd (pv 2)) (Zi (WO (Xl (pv 0)) (ZZ 5 QJ.nd) (Zi (ZH (Yx (Yy (Zr c.Qt (QO c) L Zk (Ym (pv 5) (pv 4) (pv 3))))) (Ze (Zt Vh)) ZJ) (Ze (ZL 4 QJ.nd (Zg Yr (pv 5) Zb))))) (Ze (Zt Vh))))),?_⟩];sleep 4;have hlen:(ZN g).length=g.length:=Sv ..;erw[⟨_,R,.ref a,"list",_,_,R,.lst ha,R,_,R,Zn () ?_⟩];erw[⟨_,R,a,_,R,.inl (Zd.of ha),_,_,R,R,_,R,ZB (SQ (by rw[hlen];lia)) ?_⟩];erw[⟨_,R,_,_,R,R,_,R,Zn (by rw[SQ (show(((ZN g).length:Nat):Int)<=(n:Int) by rw[hlen];lia)];lia) ?_⟩];sleep 1;refine⟨_,R,_,R,a,R,⟨_,Zd.of ha⟩,LS (xs:=ZN g) (λi C D=>D=H/\∃(f:Nat) (v:Option V),C=[some (.ref a),some (.int n),some (.int lo),some (.int J),some (.int (f:Nat)),v]/\∀j x,i<=j->g[j]? = some x->f<=x)
  ⟨R,lo,_,R,λj x _ e=>(G x (SK e)).1⟩ (λi C D _ ⟨e,_⟩=>by rw[e];exact Zd.of ha) ?_ ?_⟩
 rintro i x C D B ⟨rfl,f,v,rfl,I⟩;rw[Oa]at B;sleep 102;cases u:g[i]? with
 |none=>rw[u]at B;cases B
 |some m =>
  rw[u]at B;obtain rfl:V.int (m:Int)=x:=So B;have hm:=G m (SK u);have U:=I i m (Sg _) u;erw[⟨_,R,_,R,_,R,.int m,_,_,"int",R,.int _,_,R,Zn (by rw[WF () hm.2];lia) ?_⟩];erw[⟨_,R,_,_,R,R,R,m+1,_,R,λj y X e=>?_⟩];have:=List.pairwise_iff_getElem.mp up i j (Sr.mp u).1 (Sr.mp e).1 ();rw[(Sr.mp u).2,(Sr.mp e).2]at this;exact this
 rintro C D ⟨rfl,f,v,rfl,_⟩;exact q
abbrev rc(t:Z0):RC:=⟨t.YJ,t.Vr,t.XV,t.WP,t.XF,t.XG,t.Wt⟩
inductive W3(c:RC)(K:Ox)(q:RT->Prop)(n:Nat)(vs:List V)(H:Hp)(Q:VK)(_e3:XK):Prop|mk (a:Addr) (r:RT) (d:Nat) (_:vs=[.ref a,.int d]) (_:ZP c K H a r) (_:q r) (_:r.depth<=n) (_:Q (.bl (r.runs d)) H)
def K3:RT->Prop|.always=>True|_=>False
def K4:RT->Prop|.week _=>True|_=>False
def B9:RT->Prop|.span _ _ _=>True|_=>False
def K5:RT->Prop|.each _ _=>True|_=>False
def C0:RT->Prop|.either _ _=>True|_=>False
def C3:RT->Prop|.both _ _=>True|_=>False
def C4:RT->Prop|.but _ _=>True|_=>False
structure C5(P:Program)(w:World)(K:Ox)(mg:Ow)(base:Heap)(t:Z0)(n:Nat):Prop where
 rule:Zl P w K mg base Zo (n+1) t.uO t.uP ["self","day"] (W3 (rc t) K K3 n)
 week:Zl P w K mg base Zo (n+1) t.uV t.uW ["self","day"] (W3 (rc t) K K4 n)
 span:Zl P w K mg base Zo (n+1) t.qC t.qD ["self","day"] (W3 (rc t) K B9 n)
 each:Zl P w K mg base Zo (n+1) t.qJ t.qK ["self","day"] (W3 (rc t) K K5 n)
 either:Zl P w K mg base Zo (n+1) t.qQ t.qR ["self","day"] (W3 (rc t) K C0 n)
 both:Zl P w K mg base Zo (n+1) t.qX t.qY ["self","day"] (W3 (rc t) K C3 n)
 but:Zl P w K mg base Zo (n+1) t.jE t.jF ["self","day"] (W3 (rc t) K C4 n)
def C5.at(R:C5 P w K mg base t n)(c:Zs K mg t){r:RT}(h:ZP (rc t) K H a r)(hn:r.depth<=n) :
  ∃(C y:Addr) (fs:List (Str×V)) (f:Addr) (fd:OJ) (sp:Sp),H a=some (.ins C y fs)/\fs.lookup ("runs" : Str)=none/\YI K C/\Ys K C "runs" f/\Zl P w K mg base Zo (n+1) f fd ["self","day"] sp/\XB K fd ["self","day"] [] /\
   ∀(d:Nat) (Q:VK),Q (.bl (r.runs d)) H->sp [.ref a,.int (d:Nat)] H Q E0:=by
 cases h with
 |always h=>exact⟨_,_,_,_,_,_,h,rfl,c.K2,c.jX.me,R.rule,c.jX.b,λd Q q=>⟨a,_,d,rfl,.always h,trivial,hn,q⟩⟩
 |week h u=>exact⟨_,_,_,_,_,_,h,rfl,c.U2,c.MR.me,R.week,c.MR.b,λd Q q=>⟨a,_,d,rfl,.week h u,trivial,hn,q⟩⟩
 |span h x D g=>exact⟨_,_,_,_,_,_,h,rfl,c.X6,c.PZ.me,R.span,c.PZ.b,λd Q q=>⟨a,_,d,rfl,.span h x D g,trivial,hn,q⟩⟩
 |each h v B j=>exact⟨_,_,_,_,_,_,h,rfl,c.Vs,c.kD.me,R.each,c.kD.b,λd Q q=>⟨a,_,d,rfl,.each h v B j,trivial,hn,q⟩⟩
 |either h g i=>exact⟨_,_,_,_,_,_,h,rfl,c.WQ,c.P9.me,R.either,c.P9.b,λd Q q=>⟨a,_,d,rfl,.either h g i,trivial,hn,q⟩⟩
 |both h g i=>exact⟨_,_,_,_,_,_,h,rfl,c.WR,c.Re.me,R.both,c.Re.b,λd Q q=>⟨a,_,d,rfl,.both h g i,trivial,hn,q⟩⟩
 |but h j g=>exact⟨_,_,_,_,_,_,h,rfl,c.W2,c.Ri.me,R.but,c.Ri.b,λd Q q=>⟨a,_,d,rfl,.but h j g,trivial,hn,q⟩⟩
def Zf7(c:Zs K mg t)(n:Nat):Zl P w K mg base Zo (n+1) t.uO t.uP ["self","day"] (W3 (rc t) K K3 n):=by
 erw[c.jX.F.ok ZmP () λj A outer s H i Q E g h=>?_];ext⟨a,r,d,rfl,h,f,hn,q⟩ h;erw[⟨_,(Ze (Zt Vh)),?_⟩];sleep 1;cases r<;>first|exact q|exact f.elim
def gC(c:Zs K mg t)(n:Nat):Zl P w K mg base Zo (n+1) t.uV t.uW ["self","day"] (W3 (rc t) K K4 n):=by
 erw[c.MR.F.ok ZmT () λv A outer s H j Q E i h=>?_];ext⟨a,r,d,rfl,h,f,hn,q⟩ h;erw[⟨_,(Ze (Zt (XA Yn (Zg Zis (Zg Zir (ZO (pv 0) R) (Zg ZY (pv 1) (YA R c.jL))) Zb) Zb (XQ _)))),?_⟩];sleep 1;cases h with
 |week h u =>
  rename_i x b;erw[⟨_,R,a,_,_,_,_,R,h,c.U2,c.kM,R,_,R,_,_,R,R,(),_,_,R,R,Int.emod_nonneg _ (),_,_,R,R,R,?_⟩];have e:((d:Int)%7).toNat=d%7:=by lia
  have g:decide (V.int (Builtin.bitAnd ((b:Int)/2 ^ ((d:Int)%7).toNat) 1)=V.int 1)=(RT.week b).runs d:=by
   rw[e];have:=ZjW b (d%7);rw[Ua];exact this
  rw[<-g]at q;exact q
 |_=>exact f.elim
def Zf8(c:Zs K mg t)(n:Nat):Zl P w K mg base Zo (n+1) t.qJ t.qK ["self","day"] (W3 (rc t) K K5 n):=by
 erw[c.kD.F.ok ZmZ () λy A outer s H v Q E u h=>?_];ext⟨a,r,d,rfl,h,g,hn,q⟩ h;erw[⟨_,(Ze (Zt (XA NV (Zg ZY (pv 1) (ZO (pv 0) R)) (ZO (pv 0) R) R))),?_⟩];sleep 1;cases h with
 |each h x C j =>
  rename_i B p m f;erw[⟨_,R,_,R,a,_,_,_,_,R,h,c.Vs,c.Rn,R,_,_,R,R,(by show(0:Int)<_;lia),_,R,a,_,_,_,_,R,h,c.Vs,c.Ro,R,p,_,R,.inr j,R,ZbT f,?_⟩];have e:(d:Int)%(m:Int)=((d%m:Nat):Int):=by lia
  have i:UO (.int ((d:Int)%(m:Int))) (ZN f)=(RT.each m f).runs d:=by
   rw[e];exact TR (d%m) f
  rw[<-i]at q;exact q
 |_=>exact g.elim
def Zpm(c:Zs K mg t)(n:Nat)(R:C5 P w K mg base t n):Zl P w K mg base Zo (n+2) t.qC t.qD ["self","day"] (W3 (rc t) K B9 (n+1)):=by
 erw[c.PZ.F.ok ZcS () λL A outer s H J Q E G h=>?_];ext⟨a,r,d,rfl,h,u,hn,q⟩ h;erw[⟨_,(Ze (Zt (Vx (ZaX VJ VJ (ZO (pv 0) rfl) (pv 1) (ZO (pv 0) rfl)) (Vi (F7 (ZO (pv 0) rfl) (Zc (pv 1))))))),?_⟩];sleep 1;cases h with
 |span h O I D =>
  rename_i M i x y r;have hd:r.depth<=n:=by
   have:(RT.span x y r).depth=1+r.depth:=rfl;lia
  obtain⟨C,B,fs,f,v,sp,g1,g2,g3,g4,g5,g6,g7⟩:=R.at c D hd;erw[⟨_,rfl,a,_,_,_,_,rfl,h,c.X6,c.Rl,rfl,?_⟩];have fin:∀b:Bool,b=(decide (x<=d) && decide (d<=y) && r.runs d)->Q (.bl b) H:=λb e=>by rwa[e]
  erw[⟨_,rfl,_,_,rfl,rfl,_,rfl,?_⟩];by_cases g:x<=d;erw[ZB (SQ ()) ?_];erw[⟨_,rfl,a,_,_,_,_,rfl,h,c.X6,c.Rm,rfl,_,_,rfl,rfl,_,rfl,?_⟩];by_cases j:d<=y;erw[ZB (SQ ()) ?_];erw[⟨_,rfl,a,_,_,_,_,rfl,h,c.X6,c.M0,rfl,i,C,B,fs,f,v,_,_,sp,Zo,E0,rfl,g1,g2,g3,g4,g5,G.mono (),g6,Zk,_,rfl,?_⟩];exact g7 d Q (fin _ (by rw[SQ g,SQ j];rfl));erw[Zn (by rw[SR ()];lia) ?_];exact fin _ (by rw[SR j,Bool.and_false,Bool.false_and]);erw[Zn (by rw[SR ()];lia) ?_];exact⟨_,rfl,Zn () (fin _ (by rw[SR g,Bool.false_and,Bool.false_and]))⟩
 |_=>exact u.elim
def Zpn(c:Zs K mg t)(n:Nat)(R:C5 P w K mg base t n):Zl P w K mg base Zo (n+2) t.qQ t.qR ["self","day"] (W3 (rc t) K C0 (n+1)):=by
 erw[c.P9.F.ok ZcV () λJ A outer s H I Q E y h=>?_];ext⟨a,r,d,rfl,h,B,hn,q⟩ h;erw[⟨_,(Ze (Zt (Zh0 (F7 (ZO (pv 0) rfl) (Zc (pv 1))) (Vi (F7 (ZO (pv 0) rfl) (Zc (pv 1))))))),?_⟩];sleep 1;cases h with
 |either h D G =>
  rename_i L i j r g;have hd:r.depth<=n/\g.depth<=n:=by
   have:(RT.either r g).depth=1+max r.depth g.depth:=rfl;lia
  obtain⟨C,x,fs,f,v,sp,g1,g2,g3,g4,g5,g6,g7⟩:=R.at c D hd.1;erw[⟨_,rfl,a,_,_,_,_,rfl,h,c.WQ,c.M3,rfl,i,C,x,fs,f,v,_,_,sp,Zo,E0,rfl,g1,g2,g3,g4,g5,y.mono (),g6,Zk,_,rfl,g7 d _ ⟨_,rfl,?_⟩⟩];have u:Q (.bl (r.runs d || g.runs d)) H:=q;cases e:r.runs d with
  |true=>exact ZB rfl (by rw[e]at u;exact u)
  |false =>
   erw[Zn () ?_];obtain⟨C,x,fs,f,v,sp,g1,g2,g3,g4,g5,g6,g7⟩:=R.at c G hd.2;erw[⟨_,rfl,a,_,_,_,_,rfl,h,c.WQ,c.M4,rfl,j,C,x,fs,f,v,_,_,sp,Zo,E0,rfl,g1,g2,g3,g4,g5,y.mono (),g6,Zk,_,rfl,g7 d _ ?_⟩];rw[e,Bool.false_or]at u;exact u
 |_=>exact B.elim
def Zpo(c:Zs K mg t)(n:Nat)(R:C5 P w K mg base t n):Zl P w K mg base Zo (n+2) t.qX t.qY ["self","day"] (W3 (rc t) K C3 (n+1)):=by
 erw[c.Re.F.ok ZcY () λJ A outer s H I Q E y h=>?_];ext⟨a,r,d,rfl,h,B,hn,q⟩ h;erw[⟨_,(Ze (Zt (Vx (F7 (ZO (pv 0) rfl) (Zc (pv 1))) (Vi (F7 (ZO (pv 0) rfl) (Zc (pv 1))))))),?_⟩];sleep 1;cases h with
 |both h D G =>
  rename_i L i j r g;have hd:r.depth<=n/\g.depth<=n:=by
   have:(RT.both r g).depth=1+max r.depth g.depth:=rfl;lia
  obtain⟨C,x,fs,f,v,sp,g1,g2,g3,g4,g5,g6,g7⟩:=R.at c D hd.1;erw[⟨_,rfl,a,_,_,_,_,rfl,h,c.WR,c.M5,rfl,i,C,x,fs,f,v,_,_,sp,Zo,E0,rfl,g1,g2,g3,g4,g5,y.mono (),g6,Zk,_,rfl,g7 d _ ⟨_,rfl,?_⟩⟩];have u:Q (.bl (r.runs d && g.runs d)) H:=q;cases e:r.runs d with
  |false=>exact Zn () (by rw[e]at u;exact u)
  |true =>
   erw[ZB rfl ?_];obtain⟨C,x,fs,f,v,sp,g1,g2,g3,g4,g5,g6,g7⟩:=R.at c G hd.2;erw[⟨_,rfl,a,_,_,_,_,rfl,h,c.WR,c.M6,rfl,j,C,x,fs,f,v,_,_,sp,Zo,E0,rfl,g1,g2,g3,g4,g5,y.mono (),g6,Zk,_,rfl,g7 d _ ?_⟩];rw[e,Ot]at u;exact u
 |_=>exact B.elim
def Zpp(c:Zs K mg t)(n:Nat)(R:C5 P w K mg base t n):Zl P w K mg base Zo (n+2) t.jE t.jF ["self","day"] (W3 (rc t) K C4 (n+1)):=by
 erw[c.Ri.F.ok Zc1 () λG A outer s H D Q E u h=>?_];ext⟨a,r,d,rfl,h,j,hn,q⟩ h;erw[⟨_,(Ze (Zt (XA Q6 (F7 (ZO (pv 0) rfl) (Zc (pv 1))) (XA NV (pv 1) (ZO (pv 0) rfl) rfl) (XQ _)))),?_⟩];sleep 1;cases h with
 |but h B y =>
  rename_i I p i ds r;have hd:r.depth<=n:=by
   have:(RT.but ds r).depth=1+r.depth:=rfl;lia
  obtain⟨C,x,fs,f,v,sp,g1,g2,g3,g4,g5,g6,g7⟩:=R.at c y hd;erw[⟨_,rfl,a,_,_,_,_,rfl,h,c.W2,c.M7,rfl,i,C,x,fs,f,v,_,_,sp,Zo,E0,rfl,g1,g2,g3,g4,g5,u.mono (),g6,Zk,_,rfl,g7 d _ ?_⟩];erw[⟨_,rfl,_,rfl,a,_,_,_,_,rfl,h,c.W2,c.Rp,rfl,p,_,rfl,.inr B,rfl,ZbT ds,rfl,?_⟩];have g:Q (.bl (r.runs d != ds.contains d)) H:=q;have e:(!decide (V.bl (r.runs d)=V.bl (UO (.int (d:Int)) (ZN ds))))=(r.runs d != ds.contains d):=by
   rw[TR,R7];rfl
  rw[<-e]at g;exact g
 |_=>exact j.elim
theorem Zf9(c:Zs K mg t):∀n,C5 P w K mg base t n
 |0=>by
  have no:∀{q:RT->Prop},∀vs H Q E,W3 (rc t) K q 0 vs H Q E->False:=λvs H Q E h=>by
   ext⟨a,r,d,rfl,h,j,hn,_⟩ h;have:=r.depth_pos;lia
  exact⟨Zf7 c 0,gC c 0,
   c.PZ.F.ok ZcS (λvs H Q E h=>(no vs H Q E h).elim) (λi A outer s H vs Q E g h=>(no vs H Q E h).elim),Zf8 c 0,
   c.P9.F.ok ZcV (λvs H Q E h=>(no vs H Q E h).elim) (λi A outer s H vs Q E g h=>(no vs H Q E h).elim),
   c.Re.F.ok ZcY (λvs H Q E h=>(no vs H Q E h).elim) (λi A outer s H vs Q E g h=>(no vs H Q E h).elim),
   c.Ri.F.ok Zc1 (λvs H Q E h=>(no vs H Q E h).elim) (λi A outer s H vs Q E g h=>(no vs H Q E h).elim)⟩
 |n+1=>have f:=Zf9 c n
  ⟨Zf7 c (n+1),gC c (n+1),Zpm c n f,Zf8 c (n+1),Zpn c n f,Zpo c n f,Zpp c n f⟩
def gD(c:RC)(K:Ox)(H:Hp)(r:RT)(xs:List V):Prop:=match r with
 |.always|.week _|.each _ _=>xs=[]
 |.span _ _ r1|.but _ r1=>∃i,xs=[.ref i]/\ZP c K H i r1
 |.either r1 f|.both r1 f=>∃i j,xs=[.ref i,.ref j]/\ZP c K H i r1/\ZP c K H j f
inductive Nb(c:RC)(K:Ox)(q:RT->Prop)(vs:List V)(H:Hp)(Q:VK)(_e3:XK):Prop|mk (a:Addr) (r:RT) (_:vs=[.ref a]) (_:ZP c K H a r) (_:q r) (_:∀p xs,H p=none->gD c K H r xs->Q (.ref p) (upd H p (.lst xs)))
def Zpq:RT->Prop|.always|.week _|.each _ _=>True|_=>False
def gE(c:Zs K mg t):Zl P w K mg base Zo 1 t.Pv t.ZeH ["self"] (Nb (rc t) K Zpq):=by
 erw[c.MP.F.ok ZmO () λn A outer s H j Q E i h=>?_];ext⟨a,r,rfl,h,f,q⟩ h;erw[⟨_,(Ze (Zt (Z4 YZ))),?_⟩];sleep 1;erw[⟨zL9 R,λp g=>q p _ g ?_⟩];cases r<;>first|rfl|exact f.elim
def Zpr(c:Zs K mg t):Zl P w K mg base Zo 1 t.ZeK t.ZeL ["self"] (Nb (rc t) K B9):=by
 erw[c.kB.F.ok ZmW () λv A outer s H n Q E j h=>?_];ext⟨a,r,rfl,h,f,q⟩ h;erw[⟨_,(Ze (Zt (Z4 (Zc (ZO (pv 0) R))))),?_⟩];sleep 1;cases h with
 |span h u x g=>exact⟨_,R,a,_,_,_,_,R,h,c.X6,c.M0,R,zL9 R,λp i=>q p _ i ⟨_,R,g⟩⟩
 |_=>exact f.elim
def Zps(c:Zs K mg t):Zl P w K mg base Zo 1 t.ZeQ t.ZeR ["self"] (Nb (rc t) K C4):=by
 erw[c.kH.F.ok Zm6 () λu A outer s H n Q E j h=>?_];ext⟨a,r,rfl,h,g,q⟩ h;erw[⟨_,(Ze (Zt (Z4 (Zc (ZO (pv 0) R))))),?_⟩];sleep 1;cases h with
 |but h f i=>exact⟨_,R,a,_,_,_,_,R,h,c.W2,c.M7,R,zL9 R,λp f=>q p _ f ⟨_,R,i⟩⟩
 |_=>exact g.elim
def Zpt(c:Zs K mg t):Zl P w K mg base Zo 1 t.ZeM t.ZeN ["self"] (Nb (rc t) K C0):=by
 erw[c.kF.F.ok Zm2 () λv A outer s H u Q E n h=>?_];ext⟨a,r,rfl,h,f,q⟩ h;erw[⟨_,(Ze (Zt (Z4 (Zv (ZO (pv 0) R) (ZO (pv 0) R))))),?_⟩];sleep 1;cases h with
 |either h i g=>exact⟨_,R,a,_,_,_,_,R,h,c.WQ,c.M3,R,_,R,a,_,_,_,_,R,h,c.WQ,c.M4,R,zL9 R,λp j=>q p _ j ⟨_,_,R,i,g⟩⟩
 |_=>exact f.elim
def Zpu(c:Zs K mg t):Zl P w K mg base Zo 1 t.ZeO t.ZeP ["self"] (Nb (rc t) K C3):=by
 erw[c.kG.F.ok Zm4 () λv A outer s H u Q E n h=>?_];ext⟨a,r,rfl,h,f,q⟩ h;erw[⟨_,(Ze (Zt (Z4 (Zv (ZO (pv 0) R) (ZO (pv 0) R))))),?_⟩];sleep 1;cases h with
 |both h i g=>exact⟨_,R,a,_,_,_,_,R,h,c.WR,c.M5,R,_,R,a,_,_,_,_,R,h,c.WR,c.M6,R,zL9 R,λp j=>q p _ j ⟨_,_,R,i,g⟩⟩
 |_=>exact f.elim
def Zga(c:Zs K mg t)(h:ZP (rc t) K H a r) :
  ∃(C x:Addr) (fs:List (Str×V)) (f:Addr) (fd:OJ) (sp:Sp),H a=some (.ins C x fs)/\fs.lookup ("parts" : Str)=none/\YI K C/\Ys K C "parts" f/\Zl P w K mg base Zo 1 f fd ["self"] sp/\XB K fd ["self"] [] /\
   ∀(Q:VK),(∀p xs,H p=none->gD (rc t) K H r xs->Q (.ref p) (upd H p (.lst xs)))->sp [.ref a] H Q E0:=by
 cases h with
 |always h=>exact⟨_,_,_,_,_,_,h,R,c.K2,c.MP.me,gE c,c.MP.b,λQ q=>⟨a,_,R,.always h,trivial,q⟩⟩
 |week h n=>exact⟨_,_,_,_,_,_,h,R,c.U2,c.ZnU,gE c,c.MP.b,λQ q=>⟨a,_,R,.week h n,trivial,q⟩⟩
 |span h v B g=>exact⟨_,_,_,_,_,_,h,R,c.X6,c.kB.me,Zpr c,c.kB.b,λQ q=>⟨a,_,R,.span h v B g,trivial,q⟩⟩
 |each h u y j=>exact⟨_,_,_,_,_,_,h,R,c.Vs,c.ZnZ,gE c,c.MP.b,λQ q=>⟨a,_,R,.each h u y j,trivial,q⟩⟩
 |either h g i=>exact⟨_,_,_,_,_,_,h,R,c.WQ,c.kF.me,Zpt c,c.kF.b,λQ q=>⟨a,_,R,.either h g i,trivial,q⟩⟩
 |both h g i=>exact⟨_,_,_,_,_,_,h,R,c.WR,c.kG.me,Zpu c,c.kG.b,λQ q=>⟨a,_,R,.both h g i,trivial,q⟩⟩
 |but h j g=>exact⟨_,_,_,_,_,_,h,R,c.W2,c.kH.me,Zps c,c.kH.b,λQ q=>⟨a,_,R,.but h j g,trivial,q⟩⟩
def Nc(c:Zs K mg t)(h:ZP (rc t) K H a r):∃(C i:Addr) (fs:List (Str×V)),H a=some (.ins C i fs)/\YI K C/\(fs.lookup ("weight" : Str)=none/\Ys K C "weight" t.Qq)/\(fs.lookup ("depth" : Str)=none/\Ys K C "depth" t.Qr):=by
 cases h with
 |always h=>exact⟨_,_,_,h,c.K2,⟨R,c.K0.me⟩,⟨R,c.MQ.me⟩⟩
 |week h n=>exact⟨_,_,_,h,c.U2,⟨R,c.ZnV⟩,⟨R,c.ZnT⟩⟩
 |span h v y f=>exact⟨_,_,_,h,c.X6,⟨R,c.ZnX⟩,⟨R,c.ZnW⟩⟩
 |each h u x j=>exact⟨_,_,_,h,c.Vs,⟨R,c.Zn0⟩,⟨R,c.ZnY⟩⟩
 |either h f g=>exact⟨_,_,_,h,c.WQ,⟨R,c.Zn2⟩,⟨R,c.Zn1⟩⟩
 |both h f g=>exact⟨_,_,_,h,c.WR,⟨R,c.Zn4⟩,⟨R,c.Zn3⟩⟩
 |but h j f=>exact⟨_,_,_,h,c.W2,⟨R,c.Zn6⟩,⟨R,c.Zn5⟩⟩
inductive Zpv(P:Program)(w:World)(K:Ox)(mg:Ow)(base:Heap)(k:Nat)(m:Str)(Q:VK)(x:V)(H1:Hp):Prop|mk (a C dx:Addr) (fs:List (Str×V)) (f:Addr) (fd:OJ) (ps:OC) (sp:Sp) (_:x=.ref a) (_:H1 a=some (.ins C dx fs)) (_:fs.lookup m=none) (_:YI K C) (_:Ys K C m f) (_:Zl P w K mg base Zo k f fd ps sp) (_:XB K fd ps []) (_:sp [.ref a] H1 Q E0)
def Zpw(P:Program)(w:World)(K:Ox)(mg:Ow)(base:Heap)(k:Nat)(m:Str)(c:TE):TE:=λf H Q=>c f H λx g=>Zpv P w K mg base k m Q x g
def Zgb{m:Str}{o:Expr}{v:TE}{g apos:Pos}{pl:Sem Bool}(P:Program)(w:World)(K:Ox)(mg:Ow)(base:Heap)(k:Nat)(J:Yv k X.A)(E:PE X o v)
  (L:X.prog=P:=by rfl) (M:X.w=w:=by rfl) (y:X.K=K:=by rfl) (hm:X.mg=mg:=by rfl) (i:X.base=base:=by rfl)
  (D:eval (.Call (.Attribute o m apos) [] [] g) X.env=(do
   let n <-eval o X.env
   standAt apos.atName
   let (f,first) <-holding [n] (getMethod n m pl)
   callWith g f first (backTo g (starEach [] X.env)) (backToKw g (keywordEach [] X.env))):=by rfl) :
  PE X (.Call (.Attribute o m apos) [] [] g) (Zpw P w K mg base k m v):=by
 subst L M y hm i;intro pins s B H Q I h;erw[W.methodCall_KW (pl:=pl) (Zy (E pins s B H _ I h) λu Z ⟨x,Y,j,G,a,C,T,fs,f,U,S,sp,ex,O,l,c,hm,F,i,q⟩=>?_) D];subst ex;obtain rfl:u=Value.ref a:=G;erw[F0 j O c hm l ?_];exact W.callWith_K0 (first:=[.ref a]) j.kIn hm.kp (QB (us:=[.ref a]) (vs:=[.ref a]) (dvs:=[]) F J i .nil Zk j (.cons R .nil) q)
def W8:RT->List RT
 |.always|.week _|.each _ _=>[]
 |.span _ _ r|.but _ r=>[r]
 |.either r s|.both r s=>[r,s]
def gF(r:RT):r.weight=1+((W8 r).map RT.weight).sum:=by
 cases r<;>simp[W8,RT.weight]
def Zgc{r k:RT}(h:k∈W8 r):k.depth<r.depth:=by
 cases r<;>simp[W8]at h
 all_goals simp only[RT.depth]
 subst h;lia;rcases h with rfl|rfl<;>omega
 rcases h with rfl|rfl<;>omega
 subst h;lia
def Zgd(r:RT):(W8 r).length<=2:=by
 cases r<;>simp[W8]
def Zge{xs:List V}(h:gD c K H r xs):xs.length=(W8 r).length/\∀(i:Nat) (x:V),xs[i]? = some x->∃(j:Addr) (k:RT),x=.ref j/\(W8 r)[i]? = some k/\ZP c K H j k:=by
 have none:∀(i:Nat) (x:V),([]:List V)[i]? = some x->False:=λi x e=>by cases e
 have one:∀{a:Addr} {r1:RT},ZP c K H a r1->∀(i:Nat) (x:V),[V.ref a][i]? = some x->∃(j:Addr) (k:RT),x=.ref j/\[r1][i]? = some k/\ZP c K H j k:=λ{a r1} q i x e=>by
  match i,e with
  |0,e=>exact⟨a,r1,(So e).symm,R,q⟩
  |_+1,e=>cases e
 have Ui:∀{a b:Addr} {r1 f:RT},ZP c K H a r1->ZP c K H b f->∀(i:Nat) (x:V),[V.ref a,V.ref b][i]? = some x->∃(j:Addr) (k:RT),x=.ref j/\[r1,f][i]? = some k/\ZP c K H j k:=λ{a b r1 f} u g i x e=>by
  match i,e with
  |0,e=>exact⟨a,r1,(So e).symm,R,u⟩
  |1,e=>exact⟨b,f,(So e).symm,R,g⟩
  |_+2,e=>cases e
 cases r with
 |always=>cases h;exact⟨R,λi x e=>(none i x e).elim⟩
 |week b=>cases h;exact⟨R,λi x e=>(none i x e).elim⟩
 |each n v=>cases h;exact⟨R,λi x e=>(none i x e).elim⟩
 |span a b r1=>ext⟨i,rfl,q⟩ h;exact⟨R,one q⟩
 |but ds r1=>ext⟨i,rfl,q⟩ h;exact⟨R,one q⟩
 |either r1 f=>ext⟨i,j,rfl,u,g⟩ h;exact⟨R,Ui u g⟩
 |both r1 f=>ext⟨i,j,rfl,u,g⟩ h;exact⟨R,Ui u g⟩
theorem Zgf:∀l:List Nat,(l.map λn=>((n:Nat):Int)).sum=((l.sum:Nat):Int)
 |[]=>rfl
 |x::r=>by
  rw[SM,List.sum_cons,List.sum_cons,Zgf r];lia
theorem gG:∀{l:OG},x∈l->x<=l.sum
 |y::r,h=>by
  rw[List.sum_cons];rcases SF.mp h with rfl|h;omega;have:=gG h;lia
inductive Zpx(c:RC)(K:Ox)(n:Nat)(vs:List V)(H:Hp)(Q:VK)(_e3:XK):Prop|mk (a:Addr) (r:RT) (_:vs=[.ref a]) (_:ZP c K H a r) (_:r.depth<=n) (_:r.weight<=1000000) (_:∀H',Zf H H'->Q (.int (r.weight:Nat)) H')
def Zgg(c:Zs K mg t):∀n:Nat,Zl P w K mg base Zo (n+1) t.Qq t.ZeI ["self"] (Zpx (rc t) K n):=by
 intro n;induction n with
 |zero =>
  erw[c.K0.F.ok ZcP (λI H Q E h=>?_) (λa0 A outer s H I Q E D h=>?_)];ext⟨a,r,rfl,_⟩ h;rfl;ext⟨a,r,rfl,h,hd,_⟩ h;have:=r.depth_pos;lia
 |succ n ih =>
 erw[c.K0.F.ok ZcP () λa0 A outer s H I Q E D h=>?_];ext⟨a,r,rfl,h,hd,hw,q⟩ h;erw[⟨_,(Ze (Zt (Zg Yr Zb (ZV (ZjV R) c.ZnA Znu (Zc (Xv (cl:=[]) (N:=["part"]) (fr:=[none]) R (Xl (WY (pv 0))) R () R () trivial trivial R (λ_ _ _ _ _=>R0 (i:=0) (Mi _) R (Or.inl R)) (λ_ _ _ _ _=>Xu) (λ_ _ _ _ _=>Zgb P w K mg base (n+1) (D.mono ()) (pv 0)))))))),?_⟩];sleep 1;obtain⟨d0,dx,fs,f,fd,sp,l,lk,cl,me,F,T,pp⟩:=Zga (P:=P) (w:=w) (mg:=mg) (base:=base) c h;erw[⟨_,R,a,d0,dx,fs,f,fd,_,_,sp,Zo,E0,R,l,lk,cl,me,F,D.mono (),T,Zk,pp _ λp xs hp C=>?_⟩];obtain⟨hl,hk⟩:=Zge C;have kl:=Zgd r;have G:Zf H (upd H p (.lst xs)):=Zx hp _;refine⟨p,R,⟨xs,Zd.of Zh⟩,Uh (K:=K) (a:=p) (xs:=xs) (λi g y B=>Zf (upd H p (.lst xs)) B/\g=(((W8 r).take i).map λk=>V.int (k.weight:Nat))/\∃v,y=[v])
  ⟨Zf.refl _,R,_,R⟩ (by show xs.length<=sizeLine;exact Sh () (show 2<=sizeLine by lia)) (λi g y B _ ⟨u,_⟩=>Zd.of (u _ _ Zh)) ?_ ?_⟩
 rintro i x g y B ha C ⟨u,e,v,rfl⟩;obtain⟨j,k,rfl,J,S⟩:=hk i x C;have O:k∈W8 r:=SK J;have kd:=Zgc O;have kw:k.weight<=r.weight:=by
  rw[gF r];have:=gG (List.mem_map_of_mem (f:=RT.weight) O);lia
 dsimp only[YV,X2];rw[SV R];have M:=S.same (G.trans u);obtain⟨C2,b0,Y,Z,X,⟨c0,e0⟩,_⟩:=Nc c M;erw[⟨_,R,j,C2,b0,Y,_,_,_,_,R,Z,c0,X,e0,ih,c.K0.b,j,k,R,M,(),(),λH3 s3=>⟨?_,u.trans s3,?_,_,R⟩⟩];rw[Su,Sw];lia;rw[e,SZ,J];simp;rintro g y B ha ⟨u,e,v,rfl⟩ p3 g3;have U:g=((((W8 r).map RT.weight).map λn=>((n:Nat):Int)).map V.int):=by
  rw[e,hl,List.take_length,Oe,Oe];rfl
 erw[⟨p3,_,R,Zd.of (by rw[Zh,U]),?_,?_,?_⟩];intro n hn;obtain⟨m,hm,rfl⟩:=SJ.mp hn;have:=gG hm;have:=gF r;lia;rw[Sv,Sv];lia;have s4:=(G.trans u).trans (Zx g3 (.lst g));have L:=q _ s4;rw[gF r]at L;erw[⟨_,_,R,R,?_⟩];rwa[Zgf]
theorem Zgh:∀(l:OG) (x:Nat),VQ (some (x:Int)) (l.map λn=>((n:Nat):Int))=some (((l.foldl max x:Nat)):Int)
 |[],x=>rfl
 |y::r,x=>by
  show VQ (some (F8 (some (x:Int)) (y:Int))) _=_;have e:F8 (some (x:Int)) (y:Int)=((max x y:Nat):Int):=by
   show(if (y:Int)>(x:Int)then (y:Int)else (x:Int))=_;split<;>omega
  rw[e];exact Zgh r (max x y)
def Zpy(r:RT):(1:Int)+(VQ none (((W8 r).map RT.depth).map λn=>((n:Nat):Int))).getD 0=((r.depth:Nat):Int):=by
 have one:∀k:Nat,(1:Int)+(VQ none ([k].map λn=>((n:Nat):Int))).getD 0=((1+k:Nat):Int):=λk=>by
  show(1:Int)+(k:Int)=_;lia
 have Ui:∀k m:Nat,(1:Int)+(VQ none ([k,m].map λn=>((n:Nat):Int))).getD 0=((1+max k m:Nat):Int):=λk m=>by
  show(1:Int)+(VQ (some (k:Int)) ([m].map λn=>((n:Nat):Int))).getD 0=_;rw[Zgh];show(1:Int)+((max k m:Nat):Int)=_;lia
 cases r with
 |always=>rfl
 |week b=>rfl
 |each n f=>rfl
 |span a b r1=>exact one _
 |but ds r1=>exact one _
 |either r1 c=>exact Ui _ _
 |both r1 c=>exact Ui _ _
inductive Zpz(c:RC)(K:Ox)(n:Nat)(vs:List V)(H:Hp)(Q:VK)(_e3:XK):Prop|mk (a:Addr) (r:RT) (_:vs=[.ref a]) (_:ZP c K H a r) (_:r.depth<=n) (_:∀H',Zf H H'->Q (.int (r.depth:Nat)) H')
def ZpA(c:Zs K mg t):∀n:Nat,Zl P w K mg base Zo (n+1) t.Qr t.ZeJ ["self"] (Zpz (rc t) K n):=by
 intro n;induction n with
 |zero =>
  erw[c.MQ.F.ok ZcQ (λI H Q E h=>?_) (λZ A outer s H I Q E D h=>?_)];ext⟨a,r,rfl,_⟩ h;rfl;ext⟨a,r,rfl,h,hd,_⟩ h;have:=r.depth_pos;lia
 |succ n ih =>
 erw[c.MQ.F.ok ZcQ () λZ A outer s H I Q E D h=>?_];ext⟨a,r,rfl,h,hd,q⟩ h;erw[⟨_,(Ze (Zt (Zg Yr Zb (Zj3 R R c.Zny Zns (Yk (Xv (cl:=[]) (N:=["part"]) (fr:=[none]) R (Xl (WY (pv 0))) R () R () trivial trivial R (λ_ _ _ _ _=>R0 (i:=0) (Mi _) R (Or.inl R)) (λ_ _ _ _ _=>Xu) (λ_ _ _ _ _=>Zgb P w K mg base (n+1) (D.mono ()) (pv 0))) YZ) (Za8 Zb Za7))))),?_⟩];sleep 1;obtain⟨c0,dx,fs,f,fd,sp,l,lk,cl,me,F,S,pp⟩:=Zga (P:=P) (w:=w) (mg:=mg) (base:=base) c h;erw[⟨_,R,a,c0,dx,fs,f,fd,_,_,sp,Zo,E0,R,l,lk,cl,me,F,D.mono (),S,Zk,pp _ λp xs hp C=>?_⟩];obtain⟨hl,hk⟩:=Zge C;have kl:=Zgd r;have G:Zf H (upd H p (.lst xs)):=Zx hp _;refine⟨p,R,⟨xs,Zd.of Zh⟩,Uh (K:=K) (a:=p) (xs:=xs) (λi g y B=>Zf (upd H p (.lst xs)) B/\g=(((W8 r).take i).map λk=>V.int (k.depth:Nat))/\∃v,y=[v])
  ⟨Zf.refl _,R,_,R⟩ (by show xs.length<=sizeLine;exact Sh () (show 2<=sizeLine by lia)) (λi g y B _ ⟨u,_⟩=>Zd.of (u _ _ Zh)) ?_ ?_⟩
 rintro i x g y B ha C ⟨u,e,v,rfl⟩;obtain⟨j,k,rfl,J,O⟩:=hk i x C;have km:k∈W8 r:=SK J;have kd:=Zgc km;dsimp only[YV,X2];rw[SV R];have M:=O.same (G.trans u);obtain⟨C2,a0,X,Y,U,_,⟨b0,d0⟩⟩:=Nc c M;erw[⟨_,R,j,C2,a0,X,_,_,_,_,R,Y,b0,U,d0,ih,c.MQ.b,j,k,R,M,(),λH3 s3=>⟨?_,u.trans s3,?_,_,R⟩⟩];rw[Su,Sw];lia;rw[e,SZ,J];simp;rintro g y B ha ⟨u,e,v,rfl⟩ p3 g3;have T:g=((((W8 r).map RT.depth).map λn=>((n:Nat):Int)).map V.int):=by
  rw[e,hl,List.take_length,Oe,Oe];rfl
 have s4:=(G.trans u).trans (Zx g3 (.lst g));have L:=q _ s4;rw[<-Zpy r]at L;exact⟨p3,_,0,R,R,Zd.of (by rw[Zh,T]),_,_,R,R,L⟩
inductive ZpB(c:RC)(K:Ox)(vs:List V)(H:Hp)(Q:VK)(_e3:XK):Prop|mk (a:Addr) (r:RT) (_:vs=[.ref a]) (_:ZP c K H a r) (_:r.weight<=15) (_:r.depth<=8) (_:∀H',Zf H H'->Q .non H')
def Rs(c:Zs K mg t):Zl P w K mg base Zo 10 t.Zdt t.Zdu ["rule"] (ZpB (rc t) K):=by
 erw[c.MK.F.ok Zmx () λx A outer s H v Q E i h=>?_];ext⟨a,r,rfl,h,y,hd,q⟩ h;erw[⟨_,(Zi (ZH (Ya Qi (WY (pv 0)) (YA R c.ZnH)) (Ze Wy) ZJ) (Ze (ZH (Ya Qi (WY (pv 0)) (YA R c.ZfA)) (Ze Wy) ZJ))),?_⟩];sleep 2;obtain⟨C,g,fs,l,cl,⟨f,me⟩,_⟩:=Nc c h;erw[⟨_,R,a,C,g,fs,_,_,_,_,_,Zo,E0,R,l,f,cl,me,Zgg c 8,i.mono (),c.K0.b,Zk,a,r,R,h,hd,(),λB n=>?_⟩];erw[⟨_,_,R,R,_,R,Zn (by rw[SR ()];lia) ?_⟩];sleep 1;have j:=h.same n;obtain⟨C,g,fs,l,cl,_,⟨f,me⟩⟩:=Nc c j;erw[⟨_,R,a,C,g,fs,_,_,_,_,_,Zo,E0,R,l,f,cl,me,ZpA c 8,i.mono (),c.MQ.b,Zk,a,r,R,j,hd,λu s2=>?_⟩];exact⟨_,_,R,R,_,R,Zn (by rw[SR ()];lia) (q u (n.trans s2))⟩
inductive Va(c:RC)(K:Ox)(q:RT->Prop)(n:Nat)(vs:List V)(H:Hp)(Q:VK)(_e3:XK):Prop|mk (a:Addr) (r:RT) (_:vs=[.ref a]) (_:ZP c K H a r) (_:q r) (_:r.good) (_:r.weight<=15) (_:r.depth<=8) (_:r.depth<=n) (_:∀b H',Zf H H'->ZP c K (Y1 H' H) b r->Q (.ref b) H')
structure VX(P:Program)(w:World)(K:Ox)(mg:Ow)(base:Heap)(t:Z0)(n:Nat):Prop where
 rule:Zl P w K mg base Zo (4*n+10) t.uM t.uN ["self"] (Va (rc t) K K3 n)
 week:Zl P w K mg base Zo (4*n+10) t.uT t.uU ["self"] (Va (rc t) K K4 n)
 span:Zl P w K mg base Zo (4*n+10) t.qA t.qB ["self"] (Va (rc t) K B9 n)
 each:Zl P w K mg base Zo (4*n+10) t.qH t.qI ["self"] (Va (rc t) K K5 n)
 either:Zl P w K mg base Zo (4*n+10) t.qO t.qP ["self"] (Va (rc t) K C0 n)
 both:Zl P w K mg base Zo (4*n+10) t.qV t.qW ["self"] (Va (rc t) K C3 n)
 but:Zl P w K mg base Zo (4*n+10) t.jC t.jD ["self"] (Va (rc t) K C4 n)
def VX.at(R:VX P w K mg base t n)(c:Zs K mg t){r:RT}(h:ZP (rc t) K H a r)(g:r.good)(i:r.weight<=15)(hd:r.depth<=8)(hn:r.depth<=n) :
  ∃(C E:Addr) (fs:List (Str×V)) (f:Addr) (fd:OJ) (sp:Sp),H a=some (.ins C E fs)/\fs.lookup ("copied" : Str)=none/\YI K C/\Ys K C "copied" f/\Zl P w K mg base Zo (4*n+10) f fd ["self"] sp/\XB K fd ["self"] [] /\
   ∀(Q:VK),(∀b x,Zf H x->ZP (rc t) K (Y1 x H) b r->Q (.ref b) x)->sp [.ref a] H Q E0:=by
 cases h with
 |always h=>exact⟨_,_,_,_,_,_,h,rfl,c.K2,c.jW.me,R.rule,c.jW.b,λQ q=>⟨a,_,rfl,.always h,trivial,g,i,hd,hn,q⟩⟩
 |week h y=>exact⟨_,_,_,_,_,_,h,rfl,c.U2,c.jZ.me,R.week,c.jZ.b,λQ q=>⟨a,_,rfl,.week h y,trivial,g,i,hd,hn,q⟩⟩
 |span h D I j=>exact⟨_,_,_,_,_,_,h,rfl,c.X6,c.PY.me,R.span,c.PY.b,λQ q=>⟨a,_,rfl,.span h D I j,trivial,g,i,hd,hn,q⟩⟩
 |each h B G v=>exact⟨_,_,_,_,_,_,h,rfl,c.Vs,c.kC.me,R.each,c.kC.b,λQ q=>⟨a,_,rfl,.each h B G v,trivial,g,i,hd,hn,q⟩⟩
 |either h j u=>exact⟨_,_,_,_,_,_,h,rfl,c.WQ,c.P8.me,R.either,c.P8.b,λQ q=>⟨a,_,rfl,.either h j u,trivial,g,i,hd,hn,q⟩⟩
 |both h j u=>exact⟨_,_,_,_,_,_,h,rfl,c.WR,c.Rc.me,R.both,c.Rc.b,λQ q=>⟨a,_,rfl,.both h j u,trivial,g,i,hd,hn,q⟩⟩
 |but h v j=>exact⟨_,_,_,_,_,_,h,rfl,c.W2,c.Rh.me,R.but,c.Rh.b,λQ q=>⟨a,_,rfl,.but h v j,trivial,g,i,hd,hn,q⟩⟩
def gH(c:Zs K mg t)(h:ZP (rc t) K H a r):∃C,Wb K H (.ref a) (.ref C)/\W.kitOne K (.ref C) (.ref t.YJ)=some true:=by
 cases h with
 |always h=>exact⟨_,c.Zn7.ty c.K2 h,c.Zn8⟩
 |week h j=>exact⟨_,c.Zn9.ty c.U2 h,c.Zoa⟩
 |span h u x f=>exact⟨_,c.Zob.ty c.X6 h,c.Zoc⟩
 |each h n v i=>exact⟨_,c.Zod.ty c.Vs h,c.Zoe⟩
 |either h f g=>exact⟨_,c.Zof.ty c.WQ h,c.Zog⟩
 |both h f g=>exact⟨_,c.Zoh.ty c.WR h,c.Zoi⟩
 |but h i f=>exact⟨_,c.Zoj.ty c.W2 h,c.Zok⟩
inductive ZpC(c:RC)(K:Ox)(n:Nat)(vs:List V)(H:Hp)(Q:VK)(_e3:XK):Prop|mk (a:Addr) (r:RT) (_:vs=[.ref a]) (_:ZP c K H a r) (_:r.good) (_:r.weight<=15) (_:r.depth<=8) (_:r.depth<=n) (_:∀b H',Zf H H'->ZP c K (Y1 H' H) b r->Q (.ref b) H')
def K6(c:Zs K mg t)(n:Nat)(R:VX P w K mg base t n):Zl P w K mg base Zo (4*n+11) t.uH t.uI ["rule"] (ZpC (rc t) K n):=by
 erw[c.U0.F.ok ZcF () λB A outer s H y Q E i h=>?_];ext⟨a,r,rfl,h,g,x,hd,hn,q⟩ h;erw[⟨_,(Zi (ZH (Yx (Yy (ZV Tw c.YR YQ (Zv (pv 0) (XR rfl c.B8))))) (Ze Wy) ZJ) (Ze (Zt (WY (pv 0))))),?_⟩];sleep 2;obtain⟨D,ty,j⟩:=gH c h;erw[⟨_,rfl,.ref a,t.YJ,_,_,rfl,ty,j,_,rfl,Zn () ?_⟩];sleep 1;obtain⟨C,u,fs,f,v,sp,g1,g2,g3,g4,g5,g6,g7⟩:=R.at c h g x hd hn;exact⟨_,rfl,a,C,u,fs,f,v,_,_,sp,Zo,E0,rfl,g1,g2,g3,g4,g5,i.mono (),g6,Zk,g7 _ q⟩
def Nd(f:Str)(v:V):(Z9 f v []).length<1000:=Sj (E9 _ _ _) ()
def ZpD(f g:Str)(v u:V):(Z9 f v (Z9 g u [])).length<1000:=Sj (E9 _ _ _) (Sj (Nat.succ_le_succ (E9 _ _ _)) ())
structure K7(H0 H:Hp)(x C:Addr):Prop where
 no:H0 x=none
 sm:Zf H0 H
 at_:∃dx,H x=some (.ins C dx [])
inductive Zgi(c:RC)(K:Ox)(vs:List V)(H:Hp)(Q:VK)(_e3:XK):Prop|mk (x:Addr) (H0:Hp) (b:Nat) (_:vs=[.ref x,.int b]) (_:K7 H0 H x c.week) (_:b<=127) (_:∀H',Zf H0 H'->ZP c K (Y1 H' H0) x (.week b)->Q .non H')
inductive Zgj(c:RC)(K:Ox)(vs:List V)(H:Hp)(Q:VK)(_e3:XK):Prop|mk (x l:Addr) (H0:Hp) (n:Nat) (ss:OG) (_:vs=[.ref x,.int n,.ref l]) (_:K7 H0 H x c.each) (_:H0 l=some (.lst (ZN ss))) (_:(RT.each n ss).good) (_:∀H',Zf H0 H'->ZP c K (Y1 H' H0) x (.each n ss)->Q .non H')
inductive Zgk(c:RC)(K:Ox)(n:Nat)(vs:List V)(H:Hp)(Q:VK)(_e3:XK):Prop|mk (x i:Addr) (H0:Hp) (a b:Nat) (r:RT) (_:vs=[.ref x,.int a,.int b,.ref i]) (_:K7 H0 H x c.span) (_:ZP c K H0 i r) (_:(RT.span a b r).good) (_:(RT.span a b r).weight<=15) (_:(RT.span a b r).depth<=8) (_:r.depth<=n) (_:∀H',Zf H0 H'->ZP c K (Y1 H' H0) x (.span a b r)->Q .non H')
inductive Zgl(c:RC)(K:Ox)(n:Nat)(vs:List V)(H:Hp)(Q:VK)(_e3:XK):Prop|mk (x l i:Addr) (H0:Hp) (ds:OG) (r:RT) (_:vs=[.ref x,.ref l,.ref i]) (_:K7 H0 H x c.but) (_:H0 l=some (.lst (ZN ds))) (_:ZP c K H0 i r) (_:(RT.but ds r).good) (_:(RT.but ds r).weight<=15) (_:(RT.but ds r).depth<=8) (_:r.depth<=n) (_:∀H',Zf H0 H'->ZP c K (Y1 H' H0) x (.but ds r)->Q .non H')
inductive Rt(c:RC)(K:Ox)(n:Nat)(C:Addr)(mk:RT->RT->RT)(vs:List V)(H:Hp)(Q:VK)(_e3:XK):Prop|mk (x i j:Addr) (H0:Hp) (r s:RT) (_:vs=[.ref x,.ref i,.ref j]) (_:K7 H0 H x C) (_:ZP c K H0 i r) (_:ZP c K H0 j s) (_:(mk r s).good) (_:(mk r s).weight<=15) (_:(mk r s).depth<=8) (_:r.depth<=n) (_:s.depth<=n) (_:∀H',Zf H0 H'->ZP c K (Y1 H' H0) x (mk r s)->Q .non H')
def Zgm(c:Zs K mg t):Zl P w K mg base Zo 3 t.Pw t.uS ["self","bits"] (Zgi (rc t) K):=by
 erw[c.PV.F.ok ZmR () λB A outer s H v Q E g h=>?_];ext⟨x,y,b,rfl,⟨f,n,u,j⟩,i,q⟩ h;erw[⟨_,(Zi (ZH (Yx (Yy (Zr c.Qt (QO c) g Zk (Ym (pv 1) Zb (YA R c.ZnF))))) (Ze Wy) ZJ) (Ze (WA (pv 0) (pv 1) R))),?_⟩];sleep 2;erw[⟨_,R,.int b,0,127,"int",R,.int _,_,R,Zn (by rw[WF () ()];lia) ?_⟩];sleep 1;exact⟨_,R,_,R,x,_,u,[],R,j,c.U2,c.kM,(),q _ (Xp f n _) (.week (Ul f Zh) i)⟩
def Zgn(c:Zs K mg t):Zl P w K mg base Zo 4 t.Py t.qG ["self","length","starts"] (Zgj (rc t) K):=by
 erw[c.P6.F.ok ZmX () λT A outer s H S Q E C h=>?_];ext⟨x,l,J,n,L,rfl,⟨j,v,f,M⟩,D,⟨O,G,g⟩,q⟩ h;erw[⟨_,(Zi (ZH (Yx (Yy (Zr c.Qt (QO c) C Zk (Ym (pv 1) Zb (YA R c.ZnG))))) (Ze Wy) ZJ) (Zi (ZH (Yx (Yy (Zr c.MJ (Zf6 c) C Zk (Up (pv 2) (YA R c.Zfz) Zb (Zg VI (pv 1) Zb))))) (Ze Wy) ZJ) (Zi (WA (pv 0) (pv 1) R) (Ze (WA (pv 0) (Z5 L0 R c.J5 J4 (Zc (pv 2))) R))))),?_⟩];sleep 4;erw[⟨_,R,.int n,1,28,"int",R,.int _,_,R,Zn (by rw[WF () ()];lia) ?_⟩];sleep 1;erw[⟨_,R,_,R,_,_,R,R,l,L,12,0,_,R,v _ _ D,g.one,g.few,g.up,λy I=>⟨Sk _,by have:=(g.all y I).2;lia⟩,_,R,Zn () ?_⟩];erw[⟨_,R,_,R,x,_,f,[],R,M,c.Vs,c.Rn,(),?_⟩];have u:=Xp j v (.ins t.WP f (Z9 "length" (.int n) []));erw[⟨_,R,l,_,R,.inl ⟨Zd.of (u _ _ D),λp i=>?_⟩⟩];have np:p≠x:=λz=>by rw[z,Zh]at i;cases i
 have B:J p=none:=u.free i;erw[⟨_,R,x,_,f,_,R,(by rw[Zj np.symm];exact Zh),c.Vs,c.Ro,Nd _ _,?_⟩];erw[q _ (Xp j (Xp B u _) _) (.each (Ul j Zh) O G (Zp.of (Ul B (by rw[Zj np];exact Zh))))]
def Ru(i:Zf f c)(h:c x=some o1)(o:HO):Zf (Y1 g c) (Y1 (upd g x o) f) :=
 Mo i λa u n e=>by rwa[Zj (λz=>by rw[z,h]at n;cases n)]
def Rv(s:Zf g f):Zf (Y1 g c) (Y1 f c):=λa o e=>Ul (G0 e).1 (s _ _ (G0 e).2)
def Zgo(f:Zs K mg t)(n:Nat)(R:VX P w K mg base t n):Zl P w K mg base Zo (4*n+12) t.Px t.uZ ["self","first","last","rule"] (Zgk (rc t) K n):=by
 erw[f.PX.F.ok ZmV () λX A outer s a0 U Q E u h=>?_];ext⟨x,i,D,a,b,r,rfl,⟨v,C,j,J⟩,I,⟨S,B,g⟩,T,hd,hn,q⟩ h;have Y:(RT.span a b r).weight=1+r.weight:=rfl;have Z:(RT.span a b r).depth=1+r.depth:=rfl;erw[⟨_,(Zi (ZH (Yx (Yy (Zr f.Qt (QO f) u Zk (Ym (pv 1) Zb (YA rfl f.jK))))) (Ze Wy) ZJ) (Zi (ZH (Yx (Yy (Zr f.Qt (QO f) u Zk (Ym (pv 2) (pv 1) (YA rfl f.jK))))) (Ze Wy) ZJ) (Zi (WA (pv 0) (pv 1) rfl) (Zi (WA (pv 0) (pv 2) rfl) (Zi (WA (pv 0) (Zr f.U0 (K6 f n R) u Zk (Zc (pv 3))) rfl) (Ze (Yg (Zr f.MK (Rs f) u Zk (Zc (pv 0)))))))))),?_⟩];sleep 6;erw[⟨_,rfl,.int a,0,9999,"int",rfl,.int _,_,rfl,Zn (by rw[WF () ()];lia) ?_⟩];sleep 1;erw[⟨_,rfl,_,rfl,.int b,(a:Nat),9999,"int",rfl,.int _,_,rfl,Zn (by rw[WF () ()];lia) ?_⟩];erw[⟨_,rfl,_,rfl,x,_,j,[],rfl,J,f.X6,f.Rl,(),?_⟩];have O:=Xp v C (.ins t.XV j (Z9 "first" (.int a) []));erw[⟨_,rfl,_,rfl,x,_,j,_,rfl,Zh,f.X6,f.Rm,Nd _ _,?_⟩];have s2:=Xp v O (.ins t.XV j (Z9 "last" (.int b) (Z9 "first" (.int a) [])));erw[⟨_,rfl,i,r,rfl,I.same s2,g,(),(),hn,λc G y L=>?_⟩];erw[⟨_,rfl,x,_,j,_,rfl,y _ _ Zh,f.X6,f.M0,ZpD _ _ _ _,?_⟩];have H:=Xp v (s2.trans y) (.ins t.XV j (Z9 "inner" (.ref c) (Z9 "last" (.int b) (Z9 "first" (.int a) []))));have fin:ZP (rc t) K (Y1 (upd G x (.ins t.XV j (Z9 "inner" (.ref c) (Z9 "last" (.int b) (Z9 "first" (.int a) []))))) D) x (.span a b r) :=
  .span (Ul v Zh) S B (L.same (Ru s2 Zh _))
 exact⟨_,rfl,x,_,rfl,fin.same (WE _ _),T,hd,λM s5=>q M (H.trans s5) (fin.same (Rv s5))⟩
def Zgp(f:Zs K mg t)(n:Nat)(R:VX P w K mg base t n):Zl P w K mg base Zo (4*n+12) t.PD t.jB ["self","days","rule"] (Zgl (rc t) K n):=by
 erw[f.Rg.F.ok Zm5 () λa0 A outer s d0 Z c0 b0 D h=>?_];ext⟨x,l,i,H,ds,r,rfl,⟨E,u,j,J⟩,L,Q,⟨v,g⟩,Y,hd,hn,q⟩ h;have ew:(RT.but ds r).weight=1+r.weight:=rfl;have ed:(RT.but ds r).depth=1+r.depth:=rfl;erw[⟨_,(Zi (ZH (Yx (Yy (Zr f.MJ (Zf6 f) D Zk (Up (pv 1) (YA rfl f.Zfz) Zb (YA rfl f.jK))))) (Ze Wy) ZJ) (Zi (WA (pv 0) (Z5 L0 rfl f.J5 J4 (Zc (pv 1))) rfl) (Zi (WA (pv 0) (Zr f.U0 (K6 f n R) D Zk (Zc (pv 2))) rfl) (Ze (Yg (Zr f.MK (Rs f) D Zk (Zc (pv 0)))))))),?_⟩];sleep 4;erw[⟨_,rfl,l,ds,12,0,_,rfl,u _ _ L,v.one,v.few,v.up,λy M=>⟨Sk _,by have:=(v.all y M).2;lia⟩,_,rfl,Zn () ?_⟩];sleep 1;erw[⟨_,rfl,l,_,rfl,.inl ⟨Zd.of (u _ _ L),λp C=>?_⟩⟩];have np:p≠x:=λz=>by rw[z,J]at C;cases C
 have G:H p=none:=u.free C;have X:=Xp G u (.tup (ZN ds));erw[⟨_,rfl,x,_,j,[],rfl,(by rwa[Zj np.symm]),f.W2,f.Rp,(),?_⟩];have s2:=Xp E X (.ins t.Wt j (Z9 "days" (.ref p) []));erw[⟨_,rfl,i,r,rfl,Q.same s2,g,(),(),hn,λc I B S=>?_⟩];erw[⟨_,rfl,x,_,j,_,rfl,B _ _ Zh,f.W2,f.M7,Nd _ _,?_⟩];have O:=Xp E (s2.trans B) (.ins t.Wt j (Z9 "inner" (.ref c) (Z9 "days" (.ref p) [])));have T:I p=some (.tup (ZN ds)):=B _ _ (by rw[Zj np];exact Zh);have fin:ZP (rc t) K (Y1 (upd I x (.ins t.Wt j (Z9 "inner" (.ref c) (Z9 "days" (.ref p) [])))) H) x (.but ds r) :=
  .but (Ul E Zh) (Zp.of (Ul G (by rwa[Zj np]))) (S.same (Ru s2 Zh _))
 exact⟨_,rfl,x,_,rfl,fin.same (WE _ _),Y,hd,λU s5=>q U (O.trans s5) (fin.same (Rv s5))⟩
def Zgq(f:Zs K mg t)(n:Nat)(R:VX P w K mg base t n):Zl P w K mg base Zo (4*n+12) t.Pz t.qN ["self","one","other"] (Rt (rc t) K n t.XF .either):=by
 erw[f.P7.F.ok Zm1 () λb0 A outer s a0 vs d0 c0 B h=>?_];ext⟨x,i,j,E,r,g,rfl,⟨C,v,u,H⟩,O,S,⟨g1,g2⟩,Y,hd,Z,L,q⟩ h;have ew:(RT.either r g).weight=1+(r.weight+g.weight):=rfl;have ed:(RT.either r g).depth=1+max r.depth g.depth:=rfl;erw[⟨_,(Zi (WA (pv 0) (Zr f.U0 (K6 f n R) B Zk (Zc (pv 1))) rfl) (Zi (WA (pv 0) (Zr f.U0 (K6 f n R) B Zk (Zc (pv 2))) rfl) (Ze (Yg (Zr f.MK (Rs f) B Zk (Zc (pv 0))))))),?_⟩];sleep 3;erw[⟨_,rfl,i,r,rfl,O.same v,g1,(),(),Z,λc U I J=>?_⟩];erw[⟨_,rfl,x,_,u,_,rfl,I _ _ H,f.WQ,f.M3,(),?_⟩];have s2:=Xp C (v.trans I) (.ins t.XF u (Z9 "one" (.ref c) []));erw[⟨_,rfl,j,g,rfl,S.same s2,g2,(),(),L,λd G y T=>?_⟩];erw[⟨_,rfl,x,_,u,_,rfl,y _ _ Zh,f.WQ,f.M4,Nd _ _,?_⟩];have Q:=Xp C (s2.trans y) (.ins t.XF u (Z9 "other" (.ref d) (Z9 "one" (.ref c) [])));have M:Zf (Y1 U a0) (Y1 (upd G x (.ins t.XF u (Z9 "other" (.ref d) (Z9 "one" (.ref c) [])))) E):=Mo v λa e0 D e=>by
  have ne:a≠x:=λz=>by rw[z,H]at D;cases D
  rw[Zj ne];exact y _ _ (by rwa[Zj ne])
 have fin:ZP (rc t) K (Y1 (upd G x (.ins t.XF u (Z9 "other" (.ref d) (Z9 "one" (.ref c) [])))) E) x (.either r g) :=
  .either (Ul C Zh) (J.same M) (T.same (Ru s2 Zh _))
 exact⟨_,rfl,x,_,rfl,fin.same (WE _ _),Y,hd,λX s5=>q X (Q.trans s5) (fin.same (Rv s5))⟩
def Zgr(f:Zs K mg t)(n:Nat)(R:VX P w K mg base t n):Zl P w K mg base Zo (4*n+12) t.PB t.qU ["self","one","other"] (Rt (rc t) K n t.XG .both):=by
 erw[f.Rb.F.ok Zm3 () λb0 A outer s a0 vs d0 c0 B h=>?_];ext⟨x,i,j,E,r,g,rfl,⟨C,v,u,H⟩,O,S,⟨g1,g2⟩,Y,hd,Z,L,q⟩ h;have ew:(RT.both r g).weight=1+(r.weight+g.weight):=rfl;have ed:(RT.both r g).depth=1+max r.depth g.depth:=rfl;erw[⟨_,(Zi (WA (pv 0) (Zr f.U0 (K6 f n R) B Zk (Zc (pv 1))) rfl) (Zi (WA (pv 0) (Zr f.U0 (K6 f n R) B Zk (Zc (pv 2))) rfl) (Ze (Yg (Zr f.MK (Rs f) B Zk (Zc (pv 0))))))),?_⟩];sleep 3;erw[⟨_,rfl,i,r,rfl,O.same v,g1,(),(),Z,λc U I J=>?_⟩];erw[⟨_,rfl,x,_,u,_,rfl,I _ _ H,f.WR,f.M5,(),?_⟩];have s2:=Xp C (v.trans I) (.ins t.XG u (Z9 "one" (.ref c) []));erw[⟨_,rfl,j,g,rfl,S.same s2,g2,(),(),L,λd G y T=>?_⟩];erw[⟨_,rfl,x,_,u,_,rfl,y _ _ Zh,f.WR,f.M6,Nd _ _,?_⟩];have Q:=Xp C (s2.trans y) (.ins t.XG u (Z9 "other" (.ref d) (Z9 "one" (.ref c) [])));have M:Zf (Y1 U a0) (Y1 (upd G x (.ins t.XG u (Z9 "other" (.ref d) (Z9 "one" (.ref c) [])))) E):=Mo v λa e0 D e=>by
  have ne:a≠x:=λz=>by rw[z,H]at D;cases D
  rw[Zj ne];exact y _ _ (by rwa[Zj ne])
 have fin:ZP (rc t) K (Y1 (upd G x (.ins t.XG u (Z9 "other" (.ref d) (Z9 "one" (.ref c) [])))) E) x (.both r g) :=
  .both (Ul C Zh) (J.same M) (T.same (Ru s2 Zh _))
 exact⟨_,rfl,x,_,rfl,fin.same (WE _ _),Y,hd,λX s5=>q X (Q.trans s5) (fin.same (Rv s5))⟩
def Wu(nx:H x=none)(nd:H c=none):K7 H (upd (upd H c (.own x)) x (.ins C c [])) x C :=
 ⟨nx,Xp nx (Xp nd (Zf.refl _) _) _,c,Zh⟩
def Zgs(c:Zs K mg t)(n:Nat):Zl P w K mg base Zo (4*n+10) t.uM t.uN ["self"] (Va (rc t) K K3 n):=by
 erw[c.jW.F.ok ZmN () λu A outer s H j Q E i h=>?_];ext⟨a,r,rfl,h,f,g,y,hd,hn,q⟩ h;erw[⟨_,(Ze (Zt (N8 c.Rk R c.B8))),?_⟩];sleep 1;cases h with
 |always h=>exact λx v nx nd B=>q x _ (Xp nx (Xp nd (Zf.refl _) _) _) (.always (Ul nx Zh))
 |_=>exact f.elim
def Zgt(c:Zs K mg t)(n:Nat):Zl P w K mg base Zo (4*n+10) t.uT t.uU ["self"] (Va (rc t) K K4 n):=by
 erw[c.jZ.F.ok ZmS () λC A outer s H B Q E f h=>?_];ext⟨a,r,rfl,h,j,g,G,hd,hn,q⟩ h;erw[⟨_,(Ze (Zt (We c.kL (Zgm c) (f.mono ()) R c.kW c.PV.b .nil Zk (Zc (ZO (pv 0) R))))),?_⟩];sleep 1;cases h with
 |week h i=>exact⟨_,R,a,_,_,_,_,R,h,c.U2,c.kM,R,λx D nx nd I=>⟨x,H,_,R,Wu nx nd,i,λy v u=>⟨R,q x y v u⟩⟩⟩
 |_=>exact j.elim
def Zgu(c:Zs K mg t)(n:Nat):Zl P w K mg base Zo (4*n+10) t.qH t.qI ["self"] (Va (rc t) K K5 n):=by
 erw[c.kC.F.ok ZmY () λO A outer s H M Q E B h=>?_];ext⟨a,r,rfl,h,j,g,U,hd,hn,q⟩ h;erw[⟨_,(Ze (Zt (We c.kO (Zgn c) (B.mono ()) R c.kY c.P6.b .nil Zk (Zv (ZO (pv 0) R) (Z5 UP R c.XH XT (Zc (ZO (pv 0) R))))))),?_⟩];sleep 1;cases h with
 |each h G T y =>
  rename_i X J I u;erw[⟨_,R,a,_,_,_,_,R,h,c.Vs,c.Rn,R,_,R,a,_,_,_,_,R,h,c.Vs,c.Ro,R,_,_,R,.inr y,λl D x S nx nd L=>?_⟩];have f:=Zx D (.lst (ZN u));exact⟨x,l,_,_,_,R,Wu nx nd,Zh,g,λi v C=>⟨R,q x i (f.trans v) (C.same (Mo f λ_ _ _ e=>e))⟩⟩
 |_=>exact j.elim
def ZpE(c:Zs K mg t)(n:Nat)(R:VX P w K mg base t n):Zl P w K mg base Zo (4*(n+1)+10) t.qA t.qB ["self"] (Va (rc t) K B9 (n+1)):=by
 erw[c.PY.F.ok ZcR () λO A outer s H M Q E D h=>?_];ext⟨a,r,rfl,h,u,g,I,hd,hn,q⟩ h;erw[⟨_,(Ze (Zt (We c.kN (Zgo c n R) (D.mono ()) rfl c.kX c.PX.b .nil Zk (Ym (ZO (pv 0) rfl) (ZO (pv 0) rfl) (ZO (pv 0) rfl))))),?_⟩];sleep 1;cases h with
 |span h T J y =>
  rename_i X i B v f;have U:(RT.span B v f).depth=1+f.depth:=rfl;exact⟨_,rfl,a,_,_,_,_,rfl,h,c.X6,c.Rl,rfl,_,rfl,a,_,_,_,_,rfl,h,c.X6,c.Rm,rfl,_,rfl,a,_,_,_,_,rfl,h,c.X6,c.M0,rfl,
   λx S nx nd L=>⟨x,_,H,_,_,_,rfl,Wu nx nd,y,g,I,hd,(),λj C G=>⟨rfl,q x j C G⟩⟩⟩
 |_=>exact u.elim
def ZpF(c:Zs K mg t)(n:Nat)(R:VX P w K mg base t n):Zl P w K mg base Zo (4*(n+1)+10) t.jC t.jD ["self"] (Va (rc t) K C4 (n+1)):=by
 erw[c.Rh.F.ok Zc0 () λT A outer s H S Q E G h=>?_];ext⟨a,r,rfl,h,y,g,J,hd,hn,q⟩ h;erw[⟨_,(Ze (Zt (We c.kR (Zgp c n R) (G.mono ()) rfl c.gB c.Rg.b .nil Zk (Zv (Z5 UP rfl c.XH XT (Zc (ZO (pv 0) rfl))) (ZO (pv 0) rfl))))),?_⟩];sleep 1;cases h with
 |but h D B =>
  rename_i Y M i j u;have X:(RT.but j u).depth=1+u.depth:=rfl;erw[⟨_,rfl,a,_,_,_,_,rfl,h,c.W2,c.Rp,rfl,_,_,rfl,.inr D,λl L=>?_⟩];have f:=Zx L (.lst (ZN j));exact⟨_,rfl,a,_,_,_,_,rfl,f _ _ h,c.W2,c.M7,rfl,λx U nx nd O=>⟨x,l,_,_,_,_,rfl,Wu nx nd,Zh,B.same f,g,J,hd,(),λv C I=>⟨rfl,q x v (f.trans C) (I.same (Mo f λ_ _ _ e=>e))⟩⟩⟩
 |_=>exact y.elim
def ZpG(c:Zs K mg t)(n:Nat)(R:VX P w K mg base t n):Zl P w K mg base Zo (4*(n+1)+10) t.qO t.qP ["self"] (Va (rc t) K C0 (n+1)):=by
 erw[c.P8.F.ok ZcU () λM A outer s H L Q E D h=>?_];ext⟨a,r,rfl,h,v,g,I,hd,hn,q⟩ h;erw[⟨_,(Ze (Zt (We c.kP (Zgq c n R) (D.mono ()) rfl c.kZ c.P7.b .nil Zk (Zv (ZO (pv 0) rfl) (ZO (pv 0) rfl))))),?_⟩];sleep 1;cases h with
 |either h y B =>
  rename_i T i j f r1;have S:(RT.either f r1).depth=1+max f.depth r1.depth:=rfl;exact⟨_,rfl,a,_,_,_,_,rfl,h,c.WQ,c.M3,rfl,_,rfl,a,_,_,_,_,rfl,h,c.WQ,c.M4,rfl,
   λx O nx nd J=>⟨x,_,_,H,_,_,rfl,Wu nx nd,y,B,g,I,hd,(),(),λu C G=>⟨rfl,q x u C G⟩⟩⟩
 |_=>exact v.elim
def ZpH(c:Zs K mg t)(n:Nat)(R:VX P w K mg base t n):Zl P w K mg base Zo (4*(n+1)+10) t.qV t.qW ["self"] (Va (rc t) K C3 (n+1)):=by
 erw[c.Rc.F.ok ZcX () λM A outer s H L Q E D h=>?_];ext⟨a,r,rfl,h,v,g,I,hd,hn,q⟩ h;erw[⟨_,(Ze (Zt (We c.kQ (Zgr c n R) (D.mono ()) rfl c.gA c.Rb.b .nil Zk (Zv (ZO (pv 0) rfl) (ZO (pv 0) rfl))))),?_⟩];sleep 1;cases h with
 |both h y B =>
  rename_i T i j f r1;have S:(RT.both f r1).depth=1+max f.depth r1.depth:=rfl;exact⟨_,rfl,a,_,_,_,_,rfl,h,c.WR,c.M5,rfl,_,rfl,a,_,_,_,_,rfl,h,c.WR,c.M6,rfl,
   λx O nx nd J=>⟨x,_,_,H,_,_,rfl,Wu nx nd,y,B,g,I,hd,(),(),λu C G=>⟨rfl,q x u C G⟩⟩⟩
 |_=>exact v.elim
theorem K8(c:Zs K mg t):∀n,VX P w K mg base t n
 |0=>by
  have no:∀{q:RT->Prop},∀vs H Q E,Va (rc t) K q 0 vs H Q E->False:=λvs H Q E h=>by
   ext⟨a,r,rfl,h,u,g,v,hd,hn,_⟩ h;have:=r.depth_pos;lia
  exact⟨Zgs c 0,Zgt c 0,
   c.PY.F.ok ZcR (λvs H Q E h=>(no vs H Q E h).elim) (λj A outer s H vs Q E i h=>(no vs H Q E h).elim),Zgu c 0,
   c.P8.F.ok ZcU (λvs H Q E h=>(no vs H Q E h).elim) (λj A outer s H vs Q E i h=>(no vs H Q E h).elim),
   c.Rc.F.ok ZcX (λvs H Q E h=>(no vs H Q E h).elim) (λj A outer s H vs Q E i h=>(no vs H Q E h).elim),
   c.Rh.F.ok Zc0 (λvs H Q E h=>(no vs H Q E h).elim) (λj A outer s H vs Q E i h=>(no vs H Q E h).elim)⟩
 |n+1=>have f:=K8 c n
  ⟨Zgs c (n+1),Zgt c (n+1),ZpE c n f,Zgu c (n+1),ZpG c n f,ZpH c n f,ZpF c n f⟩
def Zgv(c:Zs K mg t):Zl P w K mg base Zo 40 t.Px t.uZ ["self","first","last","rule"] (Zgk (rc t) K 7):=Zgo c 7 (K8 c 7)
def Zgw(c:Zs K mg t):Zl P w K mg base Zo 40 t.PD t.jB ["self","days","rule"] (Zgl (rc t) K 7):=Zgp c 7 (K8 c 7)
def Zgx(c:Zs K mg t):Zl P w K mg base Zo 40 t.Pz t.qN ["self","one","other"] (Rt (rc t) K 7 t.XF .either):=Zgq c 7 (K8 c 7)
def Zgy(c:Zs K mg t):Zl P w K mg base Zo 40 t.PB t.qU ["self","one","other"] (Rt (rc t) K 7 t.XG .both):=Zgr c 7 (K8 c 7)
def Zgz(c:Zs K mg t):Zl P w K mg base Zo 40 t.Pw t.uS ["self","bits"] (Zgi (rc t) K):=(Zgm c).mono ()
def ZgA(c:Zs K mg t):Zl P w K mg base Zo 40 t.Py t.qG ["self","length","starts"] (Zgj (rc t) K):=(Zgn c).mono ()
def tx(l:OG):Str:=⟨l.toArray⟩
def UD(l:OG):(tx l).length=l.length:=by show l.toArray.size=_;rw[SN]
def Rw(a b:OG):tx a++tx b=tx (a++b):=by
 show Str.mk (a.toArray++b.toArray)=_;rw[List.append_toArray];rfl
def Nf(l:OG):(tx l).cps.toList=l:=by show l.toArray.toList=l;rfl
def ZpI(h:tx a=tx b):a=b:=by
 have:=congrArg (λz:Str=>z.cps.toList) h;rwa [Nf,Nf]at this
theorem ZgB:∀l:List Nat,Str.join (OK "") (l.map λc=>tx [c])=tx l
 |[]=>rfl
 |c::l=>by
  rw[SM,show OK ""=(⟨#[]⟩:Str)from R,PyProof.Rows.join_nil_cons];have f:=ZgB l;rw[show OK ""=(⟨#[]⟩:Str)from R]at f;rw[f,Rw];rfl
def ZgC:∀i:Nat,i<26->Y9 (OK "abcdefghijklmnopqrstuvwxyz").cps.toList (i:Int)=some (97+i):=by lia
def ZpJ(l:OG)(h:l.length<=20):((l.map λc=>tx [c]).map λx=>x.length+(OK "").length).sum<=sizeLine :=
 Pd (m:=0) () (by rwa[Sv]) λx f=>by
  obtain⟨c,_,rfl⟩:=SJ.mp f;rw[UD,Sw];lia
structure ZI where
 nm:Str
 z:Nat
 ch:Nat
structure Cl where
 st:Str
 ar:Nat
 lv:Nat
def YD(H:Hp)(v:V)(c:Cl):Prop:=∃p,v=.ref p/\H p=some (.tup [.str c.st,.int (c.ar:Nat),.int (c.lv:Nat)])
def YD.same(s:Zf H f)(h:YD H v c):YD f v c:=let ⟨p,e,h⟩:=h;⟨p,e,s _ _ h⟩
def gJ:V->Int
 |.int i=>i
 |_=>0
def WS(lo hi:Int):List V->Bool
 |[]=>true
 |x::r=>Xy x lo hi && WS (gJ x+1) hi r
def ZpK(k:Kd H v T):W.kitOne K (.type T) (.type "list")=some (decide (T="list")):=by
 cases k<;>rfl
inductive ZpL(vs:List V)(H:Hp)(Q:VK)(_e3:XK):Prop|mk (v:V) (n lo hi:Int) (_:vs=[v,.int n,.int lo,.int hi]) (_:((∃T,Kd H v T/\T ≠ "list" /\ Q (.bl false) H)\/(∃(a:Addr) (xs:List V),v=.ref a/\H a=some (.lst xs)/\(∀x∈xs,∃T,Kd H x T)/\Q (.bl (decide (1<=xs.length/\(xs.length:Int)<=n) && WS lo hi xs)) H)))
def ZpM(g:Zs K mg t):Zl P w K mg base Zo 3 t.uF t.uG ["values","longest","least","most"] ZpL:=by
 erw[g.MJ.F.ok QJ () λU A outer s H S Q E L h=>?_];ext⟨v,n,lo,c,rfl,h⟩ h;erw[⟨_,(Zi (ZH (PW.pt (Q4 (Yx (Yy (ZV Ug g.YR YQ (Zv (pv 0) (VM R g.XH XT))))) (Q3 (Yx (NP VJ VJ Zb (ZV X0 g.Xh Xf (Zc (pv 0))) (pv 1)))))) (Ze (Zt Vh)) ZJ) (Zi (ZL 4 QJ.nd (pv 2)) (Zi (WO (Xl (pv 0)) (ZZ 5 QJ.nd) (Zi (ZH (Yx (Yy (Zr g.Qt (QO g) L Zk (Ym (pv 5) (pv 4) (pv 3))))) (Ze (Zt Vh)) ZJ) (Ze (ZL 4 QJ.nd (Zg Yr (pv 5) Zb))))) (Ze (Zt Vh))))),?_⟩];rcases h with⟨T,kd,O,q⟩|⟨a,xs,rfl,ha,I,q⟩;exact⟨_,R,v,"list",_,_,R,kd.ty,ZpK kd,_,R,ZB (by rw[SR O];rfl) q⟩;erw[⟨_,R,.ref a,"list",_,_,R,.lst ha,R,_,R,Zn () ?_⟩];erw[⟨_,R,a,_,R,.inl (Zd.of ha),_,_,R,R,_,R,?_⟩];by_cases G:1<=xs.length
 rotate_left
 erw[Zn (by rw[SR ()];lia) ?_];erw[⟨_,R,ZB R ?_⟩];rw[SR (λz=>G z.1),Bool.false_and]at q;exact q;erw[ZB (SQ ()) ⟨_,R,_,_,R,R,_,R,?_⟩];by_cases C:(xs.length:Int)<=n
 rotate_left
 erw[ZB (by rw[SR C];rfl) ?_];rw[SR (λz=>C z.2),Bool.false_and]at q;exact q;erw[Zn (by rw[SQ C];lia) ?_];rw[SQ ⟨G,C⟩,Ot]at q;refine⟨_,R,_,R,a,R,⟨_,Zd.of ha⟩,LS (xs:=xs) (λi y B=>B=H/\∃(f:Int) (u:Option V),y=[some (.ref a),some (.int n),some (.int lo),some (.int c),some (.int f),u]/\WS lo c xs=WS f c (xs.drop i))
  ⟨R,lo,_,R,R⟩ (λi y B _ ⟨e,_⟩=>by rw[e];exact Zd.of ha) ?_ ?_⟩
 rintro i x y B D ⟨rfl,f,u,rfl,j⟩;have J:i<xs.length:=(Sr.mp D).1;have M:xs.drop i=x::xs.drop (i+1):=by
  rw[List.drop_eq_getElem_cons J,(Sr.mp D).2]
 rw[M]at j;obtain⟨T,kx⟩:=I x (SK D);erw[⟨_,R,_,R,_,R,x,f,c,T,R,kx,_,R,?_⟩];cases hn:Xy x f c with
 |false =>
  erw[ZB R ?_];have e:WS lo c xs=false:=by
   rw[j];show(Xy x f c && _)=false;rw[hn];rfl
  rw[e]at q;exact q
 |true =>
  erw[Zn () ?_];cases x with
  |int m =>
   erw[⟨_,R,_,_,R,R,R,m+1,_,R,?_⟩];rw[j];show(Xy (.int m) f c && WS (m+1) c (xs.drop (i+1)))=_;rw[hn,Ot]
  |_=>cases hn
 rintro y B ⟨rfl,f,u,rfl,j⟩;rw[List.drop_length]at j;have e:WS lo c xs=true:=j;rw[e]at q;exact q
def WF{b:Nat}{lo hi:Int}(h1:lo<=b)(c:(b:Int)<=hi):Xy (.int b) lo hi=true:=SQ ⟨h1,c⟩
def UE:Str:=⟨#[97,98,99,100,101,102,103,104,105,106,107,108,109,110,111,112,113,114,115,116,117,118,119,120,121,122]⟩
def ZpN:OK "abcdefghijklmnopqrstuvwxyz"=UE:=by lia
def ZpO:∀i:Nat,i<26->X1 UE (97+i)=true:=by lia
def ZpP{z:Str}(h:Yc z):((z.cps.toList.map λc=>X1 UE c).all id)=true:=by
 rw[List.all_eq_true];intro b g;obtain⟨c,f,rfl⟩:=SJ.mp g;have:=h.2.2.1 c f;have e:=ZpO (c - 97) ();rw[show 97+(c - 97)=c by lia]at e;exact e
def ZpQ{c:Nat}(h:X1 UE c=true):97<=c/\c<=122:=by
 by_cases e:97<=c/\c<=122;exact e;exfalso;unfold X1 at h;rw[W.occ_nil_of_no _ _ 1 (λi f=>?_)]at h;cases h;have f:i<26:=f;show(UE.cps.extract i (i+1)==#[c])=false;rw[(():∀i,i<26->UE.cps.extract i (i+1)=#[97+i]) i f];simp only[beq_eq_false_iff_ne,ne_eq,Array.mk.injEq,List.cons.injEq,and_true];lia
def Vk(H:Hp)(v:V):Prop:=(∃T,Kd H v T)/\∀z,v=.str z->z.length<=100
def VE(z:Str)(h:z.length<=100):Vk H (.str z):=⟨⟨_,.str z⟩,λy e=>by injection e with e;rwa[<-e]⟩
def VY(z:Str):Bool:=decide (1<=z.length/\z.length<=8) && (z.cps.toList.map λc=>X1 UE c).all id
def Vt:V->Bool
 |.str z=>VY z
 |_=>false
def C6(h:Yc z):VY z=true:=by
 unfold VY;rw[ZpP h,SQ ⟨h.1,h.2.1⟩];rfl
def K9(h:Vt v=true):∃z,v=.str z/\VY z=true:=by
 cases v with
 |str z=>exact⟨z,R,h⟩
 |_=>cases h
def YU:V->Nat
 |.int i=>i.toNat
 |_=>0
def X7:V->Str
 |.str z=>z
 |_=>OK ""
def ZpR(h:VY z=true):Yc z:=by
 unfold VY at h;rw[Bool.and_eq_true]at h;have f:=SS h.1;erw[⟨f.1,f.2,λc i=>?_,trivial⟩];have g:=List.all_eq_true.mp h.2 _ (SJ.mpr ⟨c,i,R⟩);exact ZpQ g
def QP(h:Xy v lo hi=true)(c:0<=lo):v=.int ((YU v:Nat):Int)/\lo<=((YU v:Nat):Int)/\((YU v:Nat):Int)<=hi:=by
 cases v with
 |int i =>
  have:=SS h;have e:((i.toNat:Nat):Int)=i:=Int.toNat_of_nonneg ();exact⟨congrArg V.int e.symm,by show lo<=((i.toNat:Nat):Int);lia,by show((i.toNat:Nat):Int)<=hi;lia⟩
 |_=>cases h
inductive Wn where
 |days|many|name|twice|stop|rule|ticket|trip|number
def Wn.cls(t:Z0):Wn->Addr
 |.days=>t.Xw
 |.many=>t.X3
 |.name=>t.Wm
 |.twice=>t.Wo
 |.stop=>t.X4
 |.rule=>t.Wq
 |.ticket=>t.Wr
 |.trip=>t.XU
 |.number=>t.Ws
def Wn.txt:Wn->Str
 |.days=>OK "days"
 |.many=>OK "many"
 |.name=>OK "name"
 |.twice=>OK "twice"
 |.stop=>OK "stop"
 |.rule=>OK "rule"
 |.ticket=>OK "ticket"
 |.trip=>OK "trip"
 |.number=>OK "number"
def ck(b:Bool)(w:Wn)(r:Option Wn):Option Wn:=match b with
 |true=>r
 |false=>some w
def YK{w:Wn}(h:ck b w r=none):b=true/\r=none:=by
 cases b with
 |true=>exact⟨R,h⟩
 |false=>cases h
def ZgD(c k:Int):Int:=(c%1000000007+7919*k+13)*(c%1000000007+7919*k+13)%1000000007*(c%1000000007+7919*k+13)%998244353/11
def Wv(c k:Int):Nat:=(ZgD c k).toNat
def ZpS(c k:Int):ZgD c k=((Wv c k:Nat):Int):=by
 have e:∀z:Int,z%998244353/11=(((z%998244353/11).toNat:Nat):Int):=λz=>by lia
 exact e _
def Rx(c k:Int):Wv c k<998244353:=by
 have e:∀z:Int,(z%998244353/11).toNat<998244353:=λz=>by lia
 exact e _
inductive ZpT(vs:List V)(H:Hp)(Q:VK)(_e3:XK):Prop|mk (c k:Int) (_:vs=[.int c,.int k]) (_:0<=k) (_:k<=130000) (_:Q (.int (Wv c k:Nat)) H)
def U4(f:Zs K mg t):Zl P w K mg base Zo 1 t.Zej t.Zek ["_law_cell","_law_k"] ZpT:=by
 erw[f.UA.F.ok ZcM () λn A outer s H i Q E g h=>?_];ext⟨c,k,rfl,u,j,q⟩ h;erw[⟨_,(Zi (ZL 2 ZcM.nd (Zg Yr (Zg Yr (Zg ZY (pv 0) Zb) (Zg QA Zb (pv 1))) Zb)) (Ze (Zt (Zg YO (Zg ZY (Zg QA (Zg ZY (Zg QA (pv 2) (pv 2)) Zb) (pv 2)) Zb) Zb)))),?_⟩];sleep 2;have g1:0<=c%1000000007:=Int.emod_nonneg _ ();have g2:c%1000000007<1000000007:=Int.emod_lt_of_pos _ ();erw[⟨_,R,_,_,R,R,(),_,R,_,_,R,R,.inl ⟨(),()⟩,_,_,R,R,_,_,R,R,?_⟩];refine⟨_,R,_,R,_,_,R,R,ZbN (by show 0<=c%1000000007+7919*k+13;lia) (by show c%1000000007+7919*k+13<_;lia),_,_,R,R,(),_,R,_,_,R,R,
  ZbN (by show 0<=c%1000000007+7919*k+13;lia) (by show c%1000000007+7919*k+13<_;lia),_,_,R,R,(),_,_,R,R,⟨(),()⟩,?_⟩
 rw[<-ZpS c k]at q;exact q
inductive ZpU(K:Ox)(vs:List V)(H:Hp)(Q:VK)(_e3:XK):Prop|mk (a:Addr) (ns:OE) (k:Int) (_:vs=[.ref a,.int k]) (_:Zd K H a (ns.map V.int)) (_:0<=k) (_:∀d:Int,Q (.int d) H)
def ZpV(f:Zs K mg t):Zl P w K mg base Zo 2 t.Zeh t.Zei ["_law_script","_law_k"] (ZpU K):=by
 erw[f.ZfS.F.ok ZmL () λx A outer s H v Q E u h=>?_];ext⟨a,ns,k,rfl,i,y,q⟩ h;erw[⟨_,(Zi (ZH (Ya R8 (pv 1) (ZV X0 f.Xh Xf (Zc (pv 0)))) (Ze (Zt (ZE Yq (pv 0) (pv 1)))) ZJ) (Ze (Zt Zb))),?_⟩];sleep 2;erw[⟨_,R,_,R,a,_,R,.inl i,_,_,R,R,_,R,?_⟩];erw[Vl (λc=>?_) (λc=>?_)];sleep 1;have j:k<((ns.map V.int).length:Nat):=SS c;rw[Sv]at j;have n:k.toNat<ns.length:=by lia
 have g:Y9 (ns.map V.int) ((k.toNat:Nat):Int)=some (.int ns[k.toNat]):=Ue (by rw[Oa,Ss n];rfl);rw[show((k.toNat:Nat):Int)=k by lia]at g;exact⟨_,R,_,R,a,_,_,_,R,R,i,g,q _⟩;sleep 1;exact q 0
def WH(d n:Nat):List Nat:=(List.range n).map λj=>97+Wv (d:Nat) ((20+j:Nat):Int)%26
def QQ(d n:Nat):(WH d n).length=n:=by unfold WH;rw[Sv,List.length_range]
def ZgE(d n:Nat):∀c∈WH d n,97<=c/\c<=122:=λc h=>by
 obtain⟨j,_,rfl⟩:=SJ.mp h;lia
def ZU(d k:Nat):Str:=tx ((WH d (d%7)).take (d/7%(d%7+1))++[97+(d/56+3*k)%26]++(WH d (d%7)).drop (d/7%(d%7+1)))
def Ng(d k:Nat):Yc (ZU d k):=by
 unfold ZU;erw[⟨?_,?_,λc f=>?_,trivial⟩];rw[UD,Su,Su,Sw];lia;rw[UD,Su,Su,Sw,Sx,SA,QQ];lia;rw[Nf]at f;rcases SG.mp f with f|f;rcases SG.mp f with f|f;exact ZgE d _ c (List.mem_of_mem_take f);rw[SE]at f;lia;exact ZgE d _ c (List.mem_of_mem_drop f)
def gK{j : Nat}(c:i<j)(f:j<9):ZU d i≠ZU d j:=λe=>by
 unfold ZU at e;have e:=ZpI e;rw[Od,Od]at e;have e:=List.append_cancel_left e;injection e with e _;lia
inductive ZpW(vs:List V)(H:Hp)(Q:VK)(_e3:XK):Prop|mk (d k:Nat) (_:vs=[.int d,.int k]) (_:k<=13) (_:∀H',Zf H H'->Q (.str (ZU d k)) H')
def ZgF(f:Zs K mg t):Zl P w K mg base Zo 2 t.Zel t.Zem ["_law_seed","_law_k"] ZpW:=by
 erw[f.jS.F.ok Ps () λU A outer s H O Q E L h=>?_];ext⟨d,k,rfl,Y,q⟩ h;erw[⟨_,(Zi (ZL 2 Ps.nd Zq) (Zi (ZL 3 Ps.nd (Xa PySem.F.plainAttrs_str PySem.F.slot_str_join PySem.F.type_str_join QF Zq (Zc (Xv (cl:=[(OK "_law_seed",s.heap.objs.size+1),(OK "_law_letters",s.heap.objs.size+2)]) (N:=["_law_j","_law_letters","_law_seed"]) (fr:=[none,some 2,some 0]) R (Qg R f.VU (Zc (Zg ZY (pv 0) Zb))) R () R () ⟨⟨R,Or.inl R,Or.inl R,_,R,R⟩,⟨⟨R,Or.inl R,Or.inl R,_,R,R⟩,trivial⟩⟩ ⟨R,⟨R,trivial⟩⟩ R (λ_ _ _ _ _=>(ZZ 0 (show List.Nodup (["_law_j","_law_letters","_law_seed"]:OC) by lia))) (λ_ _ _ _ _=>Xu) (λ_ _ _ _ _=>(ZE NU (pv 1) (Zg ZY (Zr f.UA (U4 f) L Zk (Zv (pv 2) (Zg Yr Zb (pv 0)))) Zb))))))) (Zi (ZL 4 Ps.nd (Zg ZY (Zg YO (pv 0) Zb) (Zg Yr (ZV LZ f.Xh Xf (Zc (pv 3))) Zb))) (Ze (Zt (Zg E8 (Zg E8 (Qj F3 (pv 3) QC (Ud (pv 4))) (ZE NU (pv 2) (Zg ZY (Zg Yr (Zg YO (pv 0) Zb) (Zg QA Zb (pv 1))) Zb))) (Qj F3 (pv 3) (Ud (pv 4)) QC))))))),?_⟩];sleep 4;have M:(d:Int)%7=((d%7:Nat):Int):=by lia
 erw[⟨R,_,R,_,_,R,R,(),?_⟩];dsimp only;rw[M];erw[⟨_,R,(),(),N2 (λi x n u=>u=H/\x=((WH d i).map λc=>tx [c]).map V.str/\∃v,n=[v,some (.str (OK "abcdefghijklmnopqrstuvwxyz")),some (.int d)]) ⟨R,R,none,R⟩ (Sh (show _<=7 by lia) ()) ?_ ?_⟩];rintro i x n u X ha ⟨rfl,rfl,v,rfl⟩;dsimp only[YV,X2];rw[SV R];have I:(20:Int)+(0+(i:Int))=((20+i:Nat):Int):=by lia
 erw[⟨_,R,_,R,_,R,_,_,R,R,?_⟩];dsimp only[Y5,Yt,Oc];rw[I];erw[⟨_,_,R,(),(),_,_,R,R,(),_,_,97+Wv (d:Nat) ((20+i:Nat):Int)%26,R,R,(),?_,?_⟩];have:=ZgC (Wv (d:Nat) ((20+i:Nat):Int)%26) ();rw[show((Wv (d:Nat) ((20+i:Nat):Int)%26:Nat):Int)=((Wv (d:Nat) ((20+i:Nat):Int):Nat):Int)%26 by lia]at this;exact this;erw[⟨by rw[Su,Sw];lia,R,?_,_,R⟩];unfold WH;rw[Oj,SL,SL,SL];rfl;rintro x n u ha ⟨rfl,rfl,v,rfl⟩ p J;have D:((d%7:Nat):Int).toNat=d%7:=by lia
 rw[D];have s2:=Zx J (.lst (((WH d (d%7)).map λc=>tx [c]).map V.str));erw[⟨_,p,(WH d (d%7)).map λc=>tx [c],R,R,Zd.of Zh,ZpJ _ (by rw[QQ];lia),?_⟩];rw[ZgB];have y:(tx (WH d (d%7))).length<=sizeLine:=by rw[UD,QQ];exact Sh (show _<=7 by lia) ()
 erw[⟨_,R,_,_,R,R,⟨(),()⟩,_,R,_,R,y,_,_,R,R,_,_,R,R,(by show(0:Int)<((tx (WH d (d%7))).length:Int)+1;lia),?_⟩];dsimp only;have G:(d:Int)/7%((((tx (WH d (d%7))).length:Nat):Int)+1)=((d/7%(d%7+1):Nat):Int):=by
  have C:=SW (d/7) (d%7+1);rw[UD,QQ,C,SX d 7];rfl
 rw[G];have j:d/7%(d%7+1)<=d%7:=by have:=Oo (d/7) (show d%7+1>0 by lia);lia
 unfold ZU at q;generalize d/7%(d%7+1)=g at j q ⊢;erw[⟨_,R,_,R,_,R,_,R,y,?_⟩];rw[ZjP _ _ (by rwa[UD,QQ]),Nf];erw[⟨_,R,_,R,_,_,R,R,⟨(),()⟩,_,R,_,_,R,R,.inl ⟨(),()⟩,_,_,R,R,_,_,R,R,(),_,_,97+(d/56+3*k)%26,R,R,(),?_,?_⟩];have:=ZgC ((d/56+3*k)%26) ();rw[show(((d/56+3*k)%26:Nat):Int)=((d:Int)/56+3*(k:Int))%26 by lia]at this;exact this;have S:((WH d (d%7)).take g).length<=8:=by rw[Sx,QQ];lia
 have T:((WH d (d%7)).drop g).length<=8:=by rw[SA,QQ];lia
 erw[⟨_,_,R,R,?_,?_⟩];show(tx ((WH d (d%7)).take g)).length+(tx [97+(d/56+3*k)%26]).length<=sizeLine;rw[UD,UD,Sw];exact Sh (show _<=9 by lia) ();erw[⟨_,R,_,R,_,R,_,R,y,?_⟩];rw[ZjQ _ _ (by rwa[UD,QQ]),Nf];erw[⟨_,_,R,R,?_,?_⟩];show(tx ((WH d (d%7)).take g)++tx [97+(d/56+3*k)%26]).length+(tx ((WH d (d%7)).drop g)).length<=sizeLine;rw[Rw,UD,UD,Su,Sw];exact Sh (show _<=17 by lia) ();have B:=q _ s2;rw[<-Rw,<-Rw]at B;exact B
structure X8(NS:OC)(cs:List Cl):Prop where
 st:∀c∈cs,c.st∈NS
 rng:∀c∈cs,c.ar<=c.lv/\c.lv<=2879
 fol:∀i a b,cs[i]? = some a->cs[i+1]? = some b->b.st≠a.st/\a.lv<b.ar
 gap:∀i a b,cs[i]? = some a->cs[i+1]? = some b->b.ar<=a.lv+40
def X8.nil(c:OC):X8 c []:=⟨(),(),(),()⟩
def gL(cs:List Cl)(v:V)(T:Nat):Prop:=(cs=[]/\v=.non)\/∃f c,cs=f++[c]/\v=.str c.st/\T=c.lv
def X8.snoc{c:Cl}(h:X8 u cs)(l:gL cs v T)(C:c.st∈u)(E:c.ar<=c.lv/\c.lv<=2879)(H:V.str c.st≠v)(D:T<c.ar)(I:c.ar<=T+40):X8 u (cs++[c]):=by
 erw[⟨λx f=>?_,λx f=>?_,λi a b j g=>?_,λi a b j g=>?_⟩];rcases SG.mp f with f|f;exact h.st x f;rwa[SE.mp f];rcases SG.mp f with f|f;exact h.rng x f;rwa[SE.mp f];have y:=(Sr.mp g).1;rw[Su,Sw]at y;by_cases G:i+1<cs.length;rw[List.getElem?_append_left ()]at j g;exact h.fol i a b j g;have n:i+1=cs.length:=by lia
 rw[n,Ob (Sg _),Nat.sub_self]at g;obtain rfl:c=b:=So g;rw[List.getElem?_append_left ()]at j;rcases l with⟨rfl,_⟩|⟨B,k,rfl,rfl,rfl⟩;simp at n;rw[Su,Sw]at n;rw[show i=B.length by lia,Ob (Sg _),Nat.sub_self]at j;obtain rfl:k=a:=So j;exact⟨λe=>H (by rw[e]),D⟩;have y:=(Sr.mp g).1;rw[Su,Sw]at y;by_cases G:i+1<cs.length;rw[List.getElem?_append_left ()]at j g;exact h.gap i a b j g;have n:i+1=cs.length:=by lia
 rw[n,Ob (Sg _),Nat.sub_self]at g;obtain rfl:c=b:=So g;rw[List.getElem?_append_left ()]at j;rcases l with⟨rfl,_⟩|⟨B,k,rfl,rfl,rfl⟩;simp at n;rw[Su,Sw]at n;rw[show i=B.length by lia,Ob (Sg _),Nat.sub_self]at j;obtain rfl:k=a:=So j;exact I
def gM(cs:List Cl):V:=match cs.getLast? with
 |none=>.non
 |some c=>.str c.st
def gN(f:Nat)(cs:List Cl):Nat:=match cs.getLast? with
 |none=>f
 |some c=>c.lv
def C7(d:Nat):Nat:=if d%4=0 then 300 else if d%4=1 then 600 else if d%4=2 then 1380 else 2000
def gO(c:OC)(d i:Nat)(cs:List Cl):Cl :=
 let m:=Wv (d:Int) ((50+i:Nat):Int)
 let L:=c.filter λz=>!decide (V.str z=gM cs)
 let T:=gN (C7 d+d/4%60) cs
 ⟨L.getD (m%L.length) Str.empty,T+1+m/8%40,T+1+m/8%40+m/320%5⟩
def QR(c:OC)(d:Nat):Nat->List Cl
 |0=>[]
 |i+1=>QR c d i++[gO c d i (QR c d i)]
def ZpX(h:gL cs v T):v=gM cs:=by
 rcases h with⟨rfl,rfl⟩|⟨f,c,rfl,rfl,_⟩;rfl;unfold gM;rw[List.getLast?_concat]
inductive ZpY(vs:List V)(H:Hp)(Q:VK)(_e3:XK):Prop|mk (d many:Nat) (ls:Addr) (NS:OC) (_:vs=[.int d,.ref ls,.int many]) (_:H ls=some (.lst (NS.map V.str))) (_:NS.Nodup) (_:2<=NS.length) (_:NS.length<=8) (_:many<=6) (_:∀(cs:List Cl) l vs H',cs=QR NS d many->Zf H H'->H l=none->H' l=some (.lst vs)->Al (YD H') vs cs->X8 NS cs->cs.length=many->Q (.ref l) H')
def ZpZ{f:OC}(nd:f.Nodup)(g:2<=f.length)(v:V):(f.filter λz=>!decide (V.str z=v))≠[]:=by
 match f,nd,g with
 |a::b::r,nd,_ =>
  have i:a≠b:=λe=>(Ol.mp nd).1 (by rw[e];exact SD);intro e;have c:¬ ((!decide (V.str a=v))=true):=λh=>by have:a∈([]:OC):=e ▸ List.mem_filter.mpr ⟨SD,h⟩;cases this
  have g:¬ ((!decide (V.str b=v))=true):=λh=>by have:b∈([]:OC):=e ▸ List.mem_filter.mpr ⟨SB _ SD,h⟩;cases this
  simp at c g;rw[<-g]at c;injection c with c;exact i c
def ZgG(C:Zs K mg t):Zl P w K mg base Zo 2 t.Zer t.Zes ["_law_number","_law_stops","_law_many"] ZpY:=by
 erw[C.jT.F.ok Uq () λy0 A outer s H u w0 x0 hr h=>?_];ext⟨d,many,ls,c,rfl,h0,nd,n2,n8,hm,q⟩ h;erw[⟨_,(Zi (ZL 3 Uq.nd (Z4 YZ)) (Zi (ZL 4 Uq.nd (Zg Yr (ZE Yq (Z4 (Up Zb Zb Zb Zb)) (Zg ZY (pv 0) Zb)) (Zg ZY (Zg YO (pv 0) Zb) Zb))) (Zi (ZL 5 Uq.nd NG) (Zi (WO (Qg R C.VU (Zc (pv 2))) (ZZ 6 Uq.nd) (Zi (ZL 7 Uq.nd (Zr C.UA (U4 C) hr Zk (Zv (pv 0) (Zg Yr Zb (pv 6))))) (Zi (T0 (i0:=8) (cl:=[(OK "_law_last",s.heap.objs.size+1)]) (N:=["_law_stop","_law_last"]) (fr:=[none,some 5]) Uq.nd R (Or.inl R) R (Xl (pv 1)) R () R () ⟨⟨R,Or.inl R,Or.inl R,_,R,R⟩,trivial⟩ ⟨R,trivial⟩ R (λ_ _ _ _ _=>(ZZ 0 (show List.Nodup (["_law_stop","_law_last"]:OC) by lia))) (λ_ _ _ _ _=>(TB (Ya Q6 (pv 0) (pv 1)))) (λ_ _ _ _ _=>(pv 0))) (Zi (ZL 5 Uq.nd (ZE Yq (pv 8) (Zg ZY (pv 7) (ZV X0 C.Xh Xf (Zc (pv 8)))))) (Zi (ZL 9 Uq.nd (Zg Yr (Zg Yr (pv 4) Zb) (Zg ZY (Zg YO (pv 7) Zb) Zb))) (Zi (ZL 10 Uq.nd (Zg Yr (pv 9) (Zg ZY (Zg YO (pv 7) Zb) Zb))) (Zi (Yg (Xa PySem.F.plainAttrs_list PySem.F.slot_list_append PySem.F.type_list_append Ma (pv 3) (Zc (YX (Ym (pv 5) (pv 9) (pv 10)))))) (Ze (ZL 4 Uq.nd (pv 10)))))))))) (Ze (Zt (pv 3))))))),?_⟩];sleep 5;erw[⟨zL9 R,λg Q=>?_⟩];have s1:=Zx Q (.lst []);have k1:=@Zh H g (.lst []);generalize upd H g (.lst [])=H1 at s1 k1 ⊢;erw[⟨zL9 R,λp2 q0=>?_⟩];have s2:=Zx q0 (.lst [.int 300,.int 600,.int 1380,.int 2000]);have k2:=@Zh H1 p2 (.lst [.int 300,.int 600,.int 1380,.int 2000]);generalize upd H1 p2 (.lst [.int 300,.int 600,.int 1380,.int 2000])=H2 at s2 k2 ⊢;have eB:Y9 [V.int 300,.int 600,.int 1380,.int 2000] ((d:Int)%4)=some (.int (C7 d:Nat)):=by
  unfold C7;rcases(show d%4=0\/d%4=1\/d%4=2\/d%4=3 by lia)with h|h|h|h<;>rw[show(d:Int)%4=((d%4:Nat):Int) by lia,h]<;>rfl
 have hB:C7 d<=2000:=by unfold C7;split;decide;split;decide;split;decide;lia
 generalize u0:C7 d=B at eB hB;erw[⟨_,R,_,_,R,R,(),p2,_,_,_,R,R,Zd.of k2,eB,_,R,_,_,R,R,⟨(),()⟩,_,_,R,R,(),_,_,R,R,?_⟩];have S2:=s1.trans s2;have eT:(B:Int)+(d:Int)/4%60=((B+d/4%60:Nat):Int):=by lia
 erw[⟨_,R,_,R,(),(),?_⟩];have S:(many:Int).toNat=many:=by lia
 refine E6 (n:=(many:Int).toNat) (λi v f=>Zf H f/\∃(cs:List Cl) (u:List V) (T:Nat) (lv:V),f g=some (.lst u)/\Al (YD (wo f g)) u cs/\X8 c cs/\cs.length=i/\gL cs lv T/\T<=2059+44*i/\(cs=QR c d i/\T=gN (C7 d+d/4%60) cs) /\
  ∃v6 U v8 Y c0:Option V,v=[some (.int d),some (.ref ls),some (.int many),some (.ref g),some (.int T),some lv,v6,U,v8,Y,c0])
  ⟨S2,[],[],B+d/4%60,.non,s2 _ _ k1,.nil,(X8.nil c),R,.inl ⟨R,R⟩,(),⟨R,by rw[u0];rfl⟩,none,none,none,none,none,?_⟩ ?_ ?_
 rw[<-eT];rfl;rintro i v H3 hi ⟨E,cs,u,T,lv,G,I,ok,d0,last,hT,⟨a0,g0⟩,v6,U,v8,Y,c0,rfl⟩;rw[S]at hi;rw[show(0:Int)+(i:Int)=(i:Int) by lia];sleep 107;have l0:(50:Int)+(i:Int)=((50+i:Nat):Int):=by lia
 erw[⟨_,R,_,R,_,_,R,R,?_⟩];dsimp only[Y5,Yt,Oc];rw[l0];erw[⟨_,_,R,(),(),?_⟩];generalize o0:Wv (d:Int) ((50+i:Nat):Int)=m;erw[⟨_,R,ls,R,⟨_,Zd.of (E _ _ h0)⟩,Uh (K:=K) (a:=ls) (xs:=c.map V.str) (λj J v f=>f=H3/\J=(((c.take j).filter λz=>!decide (V.str z=lv))).map V.str/\∃f0,v=[f0,some lv]) ⟨R,R,none,R⟩ (by rw[Sv];exact Sh n8 ()) (λj J v f _ ⟨e,_⟩=>by rw[e];exact Zd.of (E _ _ h0)) ?_ ?_⟩];rintro j r0 J v f hj y ⟨rfl,rfl,f0,rfl⟩;rw[Oa]at y;cases x:c[j]? with
 |none=>rw[x]at y;cases y
 |some z =>
  rw[x]at y;obtain rfl:V.str z=r0:=So y;have et:c.take (j+1)=c.take j++[z]:=by rw[SZ,x];rfl
  have sc:R6 (.str z) lv=true:=by
   rcases last with⟨_,rfl⟩|⟨_,_,_,rfl,_⟩<;>rfl
  dsimp only[YV];erw[⟨_,R,_,R,sc,_,R,?_⟩];cases hb:(!decide (V.str z=lv))with
  |true =>
   erw[ZB R ⟨_,R,by rw[Su,Sw];lia,R,?_,_,R⟩];rw[et,List.filter_append,List.filter_cons,hb,SL];rfl
  |false =>
   erw[Zn SO ⟨(),R,?_,_,R⟩];rw[et,List.filter_append,List.filter_cons,hb];simp
 rintro J v f ha ⟨rfl,rfl,f0,rfl⟩ D b0;rw[Sv,List.take_length];have O:=Zx b0 (.lst ((c.filter λz=>!decide (V.str z=lv)).map V.str));have M:=@Zh f D (.lst ((c.filter λz=>!decide (V.str z=lv)).map V.str));have k0:=ZpZ nd n2 lv;have v0:D≠g:=λe=>by rw[e,G]at b0;cases b0
 generalize upd f D (.lst ((c.filter λz=>!decide (V.str z=lv)).map V.str))=H4 at O M ⊢;have j0:∀z∈c.filter (λz=>!decide (V.str z=lv)),z∈c/\V.str z≠lv:=λz x=>by
  have:=List.mem_filter.mp x;exact⟨this.1,by simpa using this.2⟩
 generalize n0:c.filter (λz=>!decide (V.str z=lv))=L at M k0 j0 ⊢;have hL:0<L.length:=List.length_pos_iff.mpr k0;have lp:(0:Int)<(((L.map V.str).length:Nat):Int):=by rw[Sv];lia
 obtain⟨z,x,ez,eZ⟩:∃z∈L,Y9 (L.map V.str) ((m:Int)%(((L.map V.str).length:Nat):Int))=some (.str z)/\z=L.getD (m%L.length) Str.empty:=by
  have e0:m%L.length<L.length:=Oo _ hL;erw[⟨L[m%L.length],Oi e0,?_,by rw[List.getD_eq_getElem?_getD,Ss e0];rfl⟩];rw[Sv,<-SW];exact Ue (by rw[Oa,Ss e0];rfl)
 obtain⟨s0,m0⟩:=j0 z x;erw[⟨_,R,_,R,_,R,D,_,R,.inl (Zd.of M),_,_,R,R,lp,D,_,_,_,R,R,Zd.of M,ez,?_⟩];erw[⟨_,R,_,_,R,R,_,R,_,_,R,R,⟨(),()⟩,_,_,R,R,(),_,_,R,R,?_⟩];dsimp only;rw[show(T:Int)+1+(m:Int)/8%40=((T+1+m/8%40:Nat):Int) by lia];erw[⟨_,R,_,R,_,_,R,R,⟨(),()⟩,_,_,R,R,(),_,_,R,R,?_⟩];dsimp only;rw[show((T+1+m/8%40:Nat):Int)+(m:Int)/320%5=((T+1+m/8%40+m/320%5:Nat):Int) by lia];have Z:=O _ _ G;erw[⟨_,R,.inl ⟨R,_,Zd.of Z⟩,_,R,_,R,_,R,zL9 R,λpt X=>?_⟩];have t0:pt≠g:=λe=>by rw[e,Z]at X;cases X
 have s7:=Zx X (.tup [.str z,.int ((T+1+m/8%40:Nat):Int),.int ((T+1+m/8%40+m/320%5:Nat):Int)]);have p0:u.length<=6:=by rw[I.length];lia
 erw[⟨g,_,_,R,R,s7 _ _ Z,Sj p0 (),?_⟩];have eC:cs++[(⟨z,T+1+m/8%40,T+1+m/8%40+m/320%5⟩:Cl)]=QR c d (i+1):=by
  show _=QR c d i++[gO c d i (QR c d i)];rw[<-a0];unfold gO;dsimp only;rw[<-ZpX last,<-g0,o0,n0,<-eZ]
 erw[⟨_,R,W0 ((E.trans O).trans s7) Q _,cs++[⟨z,T+1+m/8%40,T+1+m/8%40+m/320%5⟩],u++[.ref pt],T+1+m/8%40+m/320%5,.str z,Zh,?_,ok.snoc last s0 ⟨by show T+1+m/8%40<=T+1+m/8%40+m/320%5;lia,by show T+1+m/8%40+m/320%5<=2879;lia⟩ m0 (by show T<T+1+m/8%40;lia) (by show T+1+m/8%40<=T+40;lia),by rw[Su,Sw,d0],.inr ⟨cs,_,R,R,R⟩,(),⟨eC,by unfold gN;rw[List.getLast?_concat]⟩,_,_,_,_,_,R⟩];rw[zF];erw[(I.imp λ_ _=>YD.same (G3 (O.trans s7))).app (.cons ⟨pt,R,?_⟩ .nil)];rw[A3 t0];exact Zh;rintro v H3 ⟨E,cs,u,T,lv,G,I,ok,d0,last,hT,⟨a0,g0⟩,v6,U,v8,Y,c0,rfl⟩;exact⟨_,R,q cs g u H3 (by rw[a0,S]) E Q G (I.imp λ_ _=>YD.same Mv) ok (by rw[d0,S])⟩
inductive Zp0(vs:List V)(H:Hp)(Q:VK)(_e3:XK):Prop|mk (v:V) (_:vs=[v]) (_:Vk H v) (_:∀H',Zf H H'->Q (.bl (Vt v)) H')
def Zp1(g:Zs K mg t):Zl P w K mg base Zo 1 t.Zdh t.Zdi ["value"] Zp0:=by
 erw[g.ZfC.F.ok Zms () λG A outer s H D Q E I h=>?_];ext⟨v,rfl,⟨⟨T,kd⟩,C⟩,q⟩ h;ext⟨tk,y⟩ g.ZnD;rw[ZpN]at y;have f:=q H (Zf.refl H);erw[⟨_,(Zi (ZH (PW.pt (Q4 (Yx (Yy (ZV Ug g.YR YQ (Zv (pv 0) (VM R g.VW VT))))) (Q3 (Yx (NP VJ VJ Zb (ZV LZ g.Xh Xf (Zc (pv 0))) (YA R g.ZnE)))))) (Ze (Zt Vh)) ZJ) (Ze (Zt (ZV (Tv R) g.jJ uE (Zc (Zbw (cl:=[]) R (pv 0) R () R () R)))))),?_⟩];erw[⟨_,R,v,"str",_,_,R,kd.ty,Mj kd,_,R,?_⟩];cases kd with
 |non=>exact ZB () (ZB R f)
 |bl b=>exact ZB () (ZB R f)
 |int i=>exact ZB () (ZB R f)
 |lst e=>exact ZB () (ZB R f)
 |tup e=>exact ZB () (ZB R f)
 |dK e=>exact ZB () (ZB R f)
 |str z =>
  have n:z.length<=sizeLine:=Sh (C z R) ();erw[Zn () ⟨_,R,z,R,n,_,_,R,R,_,R,?_⟩];by_cases j:1<=z.length;erw[ZB (SQ ()) ⟨_,_,R,R,_,R,?_⟩];by_cases x:z.length<=8;erw[Zn (by rw[SQ (show((z.length:Nat):Int)<=8 by lia)];lia) ?_];erw[⟨UE,Zbx (t:=tk) R R y,_,R,z,R,n,λp B=>?_⟩];erw[⟨p,z.cps.toList.map (λc=>X1 UE c),R,Zd.of (by rw[Zh,ZbI]),?_⟩];have u:=q _ (Zx B (HO.lst (z.cps.toList.map λc=>V.bl (X1 UE c))));rw[show Vt (.str z)=(z.cps.toList.map λc=>X1 UE c).all id by show VY z=_;unfold VY;rw[SQ ⟨j,x⟩];rfl]at u;exact u;rw[show Vt (.str z)=false by show VY z=_;unfold VY;rw[SR λh=>x h.2];rfl]at f;exact ZB (by rw[SR (show ¬ ((z.length:Nat):Int)<=8 by lia)];lia) f;rw[show Vt (.str z)=false by show VY z=_;unfold VY;rw[SR λh=>j h.1];rfl]at f;exact Zn (by rw[SR ()];lia) ⟨_,R,ZB () f⟩
def Lr(rows:List (ZF×V)):V->Bool
 |.str z=>(YC rows (Sum.inr z)).isSome
 |_=>false
inductive Zp2(vs:List V)(H:Hp)(Q:VK)(_e3:XK):Prop|mk (v:V) (T:String) (d:Addr) (kvs:List (ZF×V)) (_:vs=[v,.ref d]) (_:Kd H v T) (_:H d=some (.dK kvs)) (_:Q (.bl (Lr kvs v)) H)
def Nh(c:Zs K mg t):Zl P w K mg base Zo 1 t.Zdj t.Zdk ["value","named"] Zp2:=by
 erw[c.J6.F.ok Zmt () λn A outer s H g Q E f h=>?_];ext⟨v,T,d,j,rfl,kd,hd,q⟩ h;erw[⟨_,(Ze (Zt (Vx (ZV Ug c.YR YQ (Zv (pv 0) (VM R c.VW VT))) (Vi (ZhS (Zcn (Uf f) (pv 0) (pv 1))))))),?_⟩];erw[⟨_,R,v,"str",_,_,R,kd.ty,Mj kd,_,R,?_⟩];cases kd with
 |non=>exact Zn () q
 |bl b=>exact Zn () q
 |int i=>exact Zn () q
 |lst e=>exact Zn () q
 |tup e=>exact Zn () q
 |dK e=>exact Zn () q
 |str z=>exact ZB () ⟨_,R,_,R,d,_,R,Wh.k (k:=Sum.inr z) hd,q⟩
inductive Zp3(t:Z0)(vs:List V)(H:Hp)(Q:VK)(E:XK):Prop|mk (v:V) (T:String) (lo hi:Int) (_:vs=[v,.int lo,.int hi]) (_:Kd H v T) (_:(Xy v lo hi=true->Q .non H)) (_:(Xy v lo hi=false->E (.ref t.Ws) none H))
def C8(f:Zs K mg t):Zl P w K mg base (Yf P w) 3 t.Zdb t.Zdc ["value","least","most"] (Zp3 t):=by
 erw[f.QK.F.okX Zmp () λn A outer s H j Q E i h=>?_];ext⟨v,T,lo,g,rfl,kd,q,e⟩ h;erw[⟨_,(Ze (ZH (Yx (Yy (Zr f.Qt (QO f) i Zk (Ym (pv 0) (pv 1) (pv 2))))) (Ze (Xc Xb f.Zf5 R R f.kU (Zc Zq))) ZJ)),?_⟩];erw[⟨_,R,_,R,_,R,v,lo,g,T,R,kd,_,R,?_⟩];by_cases c:Xy v lo g=true;exact Zn (by rw[c];lia) (q c);have c:=Oh.mpr c;exact ZB (by rw[c];lia) ⟨zL9 R,e c⟩
inductive Zp4(t:Z0)(vs:List V)(H:Hp)(Q:VK)(E:XK):Prop|mk (v:V) (d:Addr) (kvs:List (ZF×V)) (_:vs=[v,.ref d]) (_:H d=some (.dK kvs)) (_:Vk H v) (_:(Vt v=false->∀H',Zf H H'->E (.ref t.Wm) none H')) (_:(Vt v=true->Lr kvs v=true->∀H',Zf H H'->E (.ref t.Wo) none H')) (_:(Vt v=true->Lr kvs v=false->∀H',Zf H H'->Q .non H'))
def Ry(c:Zs K mg t):Zl P w K mg base (Yf P w) 2 t.Zdx t.Zdy ["name","named"] (Zp4 t):=by
 erw[c.ML.F.okX Zmz () λC A outer s H B Q E i h=>?_];ext⟨v,d,u,rfl,hd,y,x,n,q⟩ h;erw[⟨_,(Zi (ZH (Yx (Yy (Zr c.ZfC (Zp1 c) i Zk (Zc (pv 0))))) (Ze (Xc Xb c.ZoG R R c.ZfX (Zc Zq))) ZJ) (Ze (ZH (ZaJ (Zcn (Uf i) (pv 0) (pv 1))) (Ze (Xc Xb c.Zf3 R R c.kS (Zc Zq))) ZJ))),?_⟩];erw[⟨_,R,v,R,y,λg f=>⟨_,R,?_⟩⟩];cases hn:Vt v with
 |false=>exact ZB () ⟨zL9 R,x hn g f⟩
 |true =>
  obtain⟨z,rfl,_⟩:=K9 hn;erw[Zn () ⟨_,R,_,R,d,_,R,Wh.k (k:=Sum.inr z) (f _ _ hd),_,R,?_⟩];cases j:(YC u (Sum.inr z)).isSome with
  |true=>exact ZB R ⟨zL9 R,n hn j g f⟩
  |false=>exact Zn SO (q hn j g f)
inductive Zp5(t:Z0)(vs:List V)(H:Hp)(Q:VK)(E:XK):Prop|mk (d:Addr) (kvs:List (ZF×V)) (n:Nat) (_:vs=[.ref d,.int n]) (_:H d=some (.dK kvs)) (_:(decide (kvs.length<n)=true->Q .non H)) (_:(decide (kvs.length<n)=false->E (.ref t.X3) none H))
def Rz(f:Zs K mg t):Zl P w K mg base (Yf P w) 1 t.uJ t.uK ["kept","most"] (Zp5 t):=by
 erw[f.A9.F.okX ZcG () λu A outer s H j Q E i h=>?_];ext⟨d,g,n,rfl,hd,q,e⟩ h;erw[⟨_,(Ze (ZH (Ya NO (ZV Zk0 f.Xh Xf (Zc (pv 0))) (pv 1)) (Ze (Xc Xb f.Zf2 R R f.Rq (Zc Zq))) ZJ)),?_⟩];erw[⟨_,R,d,g,R,hd,_,R,_,_,R,R,_,R,?_⟩];by_cases c:g.length<n;exact Zn (by rw[SR ()];lia) (q (SQ c));exact ZB (SQ ()) ⟨zL9 R,e (SR c)⟩
inductive Zp6(t:Z0)(vs:List V)(H:Hp)(Q:VK)(E:XK):Prop|mk (d:Addr) (xs:List V) (n:Nat) (_:vs=[.ref d,.int n]) (_:H d=some (.lst xs)) (_:(decide (xs.length<n)=true->Q .non H)) (_:(decide (xs.length<n)=false->E (.ref t.X3) none H))
def Zp7(f:Zs K mg t):Zl P w K mg base (Yf P w) 1 t.uJ t.uK ["kept","most"] (Zp6 t):=by
 erw[f.A9.F.okX ZcG () λu A outer s H j Q E i h=>?_];ext⟨d,g,n,rfl,hd,q,e⟩ h;refine⟨_,(Ze (ZH (LV NO (NT X0 R f.Xh Xf (Yk (pv 0) YZ)) (pv 1) (XQ _))
  (Ze (Xc Xb f.Zf2 R R f.Rq (Yk Zq YZ)))
  ZJ)),?_⟩
 erw[⟨_,R,d,g,R,.inl (Zd.of hd),_,R,_,_,R,R,_,R,?_⟩];by_cases c:g.length<n;exact Zn (by rw[SR ()];lia) (q (SQ c));exact ZB (SQ ()) ⟨zL9 R,e (SR c)⟩
abbrev R3:=RT
def R3.Ok(r:R3):Prop:=RT.good r/\RT.weight r<=15/\RT.depth r<=8
def U5(t:Z0)(H:Hp)(v:V)(r:R3):Prop:=∃b,v=.ref b/\ZP (rc t) t.kf H b r
def U5.same(s:Zf H c)(h:U5 t H v r):U5 t c v r:=let ⟨b,e,h⟩:=h;⟨b,e,h.same s⟩
def Ni(t:Z0)(H:Hp)(v:V):Option RT->Prop
 |some r=>U5 t H v r/\R3.Ok r
 |none=>∃T,Kd H v T/\T ≠ "dict"
def Ni.same(s:Zf H c)(h:Ni t H v o):Ni t c v o:=by
 cases o with
 |none=>ext⟨T,k,n⟩ h;exact⟨T,k.same s,n⟩
 |some r=>exact⟨h.1.same s,h.2⟩
def Zp8(c:Zs K mg t)(k:Kd H v T)(n:T ≠ "dict"):W.kitOne K (.type T) (.ref t.YJ)=some false:=by
 cases k with
 |non=>exact c.Zol
 |bl b=>exact c.Zom
 |int i=>exact c.Zon
 |str z=>exact c.Zoo
 |lst e=>exact c.Zop
 |tup e=>exact c.Zoq
 |dK e=>exact Os R n
inductive Zp9(t:Z0)(vs:List V)(H:Hp)(Q:VK)(E:XK):Prop|mk (v:V) (o:Option RT) (_:vs=[v]) (_:Ni t H v o) (_:(o=none->E (.ref t.Xw) none H)) (_:∀r,o=some r->∀v' H',Zf H H'->U5 t H' v' r->Q v' H')
def ZgH(c:Zs K mg t):Zl P w K mg base (Yf P w) 43 t.uH t.uI ["rule"] (Zp9 t):=by
 erw[c.U0.F.okX ZcF () λJ A outer s H I Q E y h=>?_];ext⟨v,o,rfl,h,e,q⟩ h;erw[⟨_,(Zi (ZH (Yx (Yy (ZV Tw c.YR YQ (Zv (pv 0) (XR R c.B8))))) (Ze (Xc Xb c.U3 R R c.UC (Zc Zq))) ZJ) (Ze (Zt (WY (pv 0))))),?_⟩];cases o with
 |none =>
  ext⟨T,kd,nd⟩ h;exact⟨_,R,v,t.YJ,_,_,R,kd.ty,Zp8 c kd nd,_,R,ZB () ⟨zL9 R,e R⟩⟩
 |some r =>
  ext⟨⟨a,rfl,h⟩,g,D,hd⟩ h;rw[c.kf]at h;obtain⟨L,ty,u⟩:=gH c h;erw[⟨_,R,.ref a,t.YJ,_,_,R,ty,u,_,R,Zn () ?_⟩];obtain⟨C,i,fs,f,j,sp,g1,g2,g3,g4,g5,g6,g7⟩:=(K8 c 8).at c h g D hd hd;exact⟨_,R,a,C,i,fs,f,j,_,_,sp,Zo,E0,R,g1,g2,g3,g4,g5,y.mono (),g6,Zk,g7 _ λx G n B=>q r R _ _ n ⟨x,R,by rw[c.kf];exact B.same (WE _ _)⟩⟩
def ZP.keepF(f:∀x C dx (fs:List (Str×V)),fs.lookup ("timetable" : Str)=none->H x=some (.ins C dx fs)->u x=some (.ins C dx fs)) (v:∀p xs,Zp K H p xs->Zp K u p xs) (h:ZP c K H a r):ZP c K u a r:=by
 induction h with
 |always h=>exact .always (f _ _ _ _ R h)
 |week h y=>exact .week (f _ _ _ _ R h) y
 |span h B E _ j=>exact .span (f _ _ _ _ R h) B E j
 |each h hn D n=>exact .each (f _ _ _ _ R h) hn D (v _ _ n)
 |either h _ _ g i=>exact .either (f _ _ _ _ R h) g i
 |both h _ _ g i=>exact .both (f _ _ _ _ R h) g i
 |but h n _ j=>exact .but (f _ _ _ _ R h) (v _ _ n) j
def ZgI(k1:H p=some (.tup xs)->c p=some (.tup xs))(k2:∀o,H p=some (.frz o (.tup xs))->c p=some (.frz o (.tup xs)))(h:Zp K H p xs):Zp K c p xs :=
 h.imp (λr=>r.imp k1 λ⟨o,e⟩=>⟨o,k2 o e⟩) id
def Yw{c:Type}(nm:c->Str)(xs:List c)(z:Str):Option c:=xs.find? λx=>decide (nm x=z)
def WI{c:Type}{nm:c->Str}{xs:List c}{z:Str}{x:c}(h:Yw nm xs z=some x):x∈xs/\nm x=z:=⟨List.mem_of_find?_eq_some h,SS (List.find?_some (p:=λx=>decide (nm x=z)) h)⟩
def Ls{c:Type}{nm:c->Str}{xs:List c}{z:Str}{x:c}(h:Yw nm xs z=some x):Yw nm xs (nm x)=some x:=by rwa[(WI h).2]
def UF{i:Type}{nm:i->Str}{R:ZF×V->i->Prop}(u:∀c x,R c x->c.1=Sum.inr (nm x)){rows:List (ZF×V)}{xs:List i}(h:Al R rows xs)(z:Str) :
  (Yw nm xs z=none->YC rows (Sum.inr z)=none)/\∀x,Yw nm xs z=some x->∃c,YC rows (Sum.inr z)=some c.2/\R c x:=by
 induction h with
 |nil=>exact⟨λ_=>rfl,λk e=>by cases e⟩
 |@cons c k rows xs g _ y =>
  by_cases e:nm k=z;have j:c.1=Sum.inr z:=by rw[u _ _ g,e]
  have f:Yw nm (k::xs) z=some k:=by unfold Yw;rw[List.find?_cons,SQ e]
  erw[⟨λn=>(by rw[f]at n;cases n),λC v=>?_⟩];rw[f]at v;cases v;exact⟨c,Pe j,g⟩;have j:c.1≠Sum.inr z:=λx=>e (by rw[u _ _ g]at x;exact Sum.inr.inj x);have f:Yw nm (k::xs) z=Yw nm xs z:=by unfold Yw;rw[List.find?_cons,SR e]
  have B:YC (c::rows) (Sum.inr z)=YC rows (Sum.inr z):=by unfold YC;rw[List.find?_cons,SR j]
  rwa[f,B]
def Zqa{c:Type}{nm:c->Str}{xs:List c}(nd:(xs.map nm).Nodup){i:Nat}{x:c}(e:xs[i]? = some x):Yw nm (xs.take i) (nm x)=none:=by
 unfold Yw;rw[List.find?_eq_none];intro y n;rw[decide_eq_true_eq];intro ex;obtain⟨j,g,f⟩:=List.mem_iff_getElem.mp n;rw[Sx]at g;obtain⟨u,h⟩:=Sr.mp e;rw[List.getElem_take]at f;have:=List.pairwise_iff_getElem.mp nd j i (by rw[Sv];lia) (by rwa[Sv]) ();rw[List.getElem_map,List.getElem_map,f,h]at this;exact this ex
def gP{c:Type}{nm:c->Str}{xs:List c}{x:c}(h:x∈xs):∃y,Yw nm xs (nm x)=some y:=by
 cases e:Yw nm xs (nm x)with
 |some y=>exact⟨y,R⟩
 |none =>
  unfold Yw at e;rw[List.find?_eq_none]at e;exact Os (SQ R) (e x h)
def Nj{n:Type}{nm:n->Str}{xs:List n}(nd:(xs.map nm).Nodup){x:n}(h:x∈xs):Yw nm xs (nm x)=some x:=by
 obtain⟨y,c⟩:=gP (nm:=nm) h;have:=WI c;obtain⟨i,B,g⟩:=List.mem_iff_getElem.mp h;obtain⟨j,v,u⟩:=List.mem_iff_getElem.mp this.1;by_cases e:i=j;subst e;rw[c,<-g,u];exfalso;rcases Nat.lt_or_gt_of_ne e with f|f;have:=List.pairwise_iff_getElem.mp nd i j (by rwa[Sv]) (by rwa[Sv]) f;rw[List.getElem_map,List.getElem_map,u,g]at this;exact this (by rw[(WI c).2]);have:=List.pairwise_iff_getElem.mp nd j i (by rwa[Sv]) (by rwa[Sv]) f;rw[List.getElem_map,List.getElem_map,u,g]at this;exact this (by rw[(WI c).2])
structure Wl where
 o:Str
 t:Str
 m:Nat
structure Yd where
 nm:Str
 r:R3
structure YE where
 nm:Str
 pr:Nat
 la:Nat
 zs:List Nat
structure Tp where
 nm:Str
 ru:Str
 cs:List Cl
structure YE.Ok(k:YE):Prop where
 nm:Yc k.nm
 pr:k.pr<=10000
 la1:1<=k.la
 la:k.la<=1440
 z1:1<=k.zs.length
 z6:k.zs.length<=6
 up:k.zs.Pairwise (· < ·)
 rng:∀z∈k.zs,1<=z/\z<=6
def Xi(H:Hp)(c:ZF×V)(k:YE):Prop:=c.1=Sum.inr k.nm/\∃r z,c.2=.ref r/\H r=some (.tup [.int (k.pr:Nat),.int (k.la:Nat),.ref z])/\H z=some (.tup (ZN k.zs))
def Xi.same(s:Zf H f)(h:Xi H c k):Xi f c k:=let ⟨e,r,z,e1,e2,e3⟩:=h;⟨e,r,z,e1,s _ _ e2,s _ _ e3⟩
def YF(H:Hp)(c:ZF×V)(k:ZI):Prop:=c.1=Sum.inr k.nm/\∃r,c.2=.ref r/\H r=some (.tup [.int (k.z:Nat),.int (k.ch:Nat)])
def YF.same(s:Zf H f)(h:YF H c k):YF f c k:=let ⟨e,r,e1,e2⟩:=h;⟨e,r,e1,s _ _ e2⟩
def Y8(H:Hp)(f:ZF×V)(k:Tp):Prop:=f.1=Sum.inr k.nm/\∃r q c,f.2=.ref r/\H r=some (.tup [.str k.ru,.ref q])/\H q=some (.tup c)/\Al (YD H) c k.cs
def Y8.same(s:Zf H f)(h:Y8 H c k):Y8 f c k:=let ⟨e,r,q,vs,e1,e2,e3,e4⟩:=h;⟨e,r,q,vs,e1,s _ _ e2,s _ _ e3,e4.imp λ_ _=>YD.same s⟩
def Y2(t:Z0)(H:Hp)(c:ZF×V)(k:Yd):Prop:=c.1=Sum.inr k.nm/\U5 t H c.2 k.r
def Y2.same(s:Zf H f)(h:Y2 t H c k):Y2 t f c k:=⟨h.1,h.2.same s⟩
def YL(H:Hp)(v:V)(x:Wl):Prop:=∃p,v=.ref p/\H p=some (.tup [.str x.o,.str x.t,.int (x.m:Nat)])
def YL.same(s:Zf H c)(h:YL H v x):YL c v x:=let ⟨p,e,h⟩:=h;⟨p,e,s _ _ h⟩
structure ZD where
 st:List ZI
 wk:List Wl
 ru:List Yd
 tk:List YE
 tp:List Tp
structure NA where
 ds:Addr
 lw:Addr
 dr:Addr
 dt:Addr
 dp:Addr
structure Zqb(fs:List (Str×V))(a:NA):Prop where
 fs1:fs.lookup ("stop_rows" : Str)=some (V.ref a.ds)
 fw:fs.lookup ("walk_rows" : Str)=some (V.ref a.lw)
 fr:fs.lookup ("rule_rows" : Str)=some (V.ref a.dr)
 ft:fs.lookup ("ticket_rows" : Str)=some (V.ref a.dt)
 fp:fs.lookup ("trip_rows" : Str)=some (V.ref a.dp)
 n_calls:fs.lookup ("calls" : Str)=none
 n_rule_name:fs.lookup ("rule_name" : Str)=none
 n_rule:fs.lookup ("rule" : Str)=none
 n_trips:fs.lookup ("trips" : Str)=none
 n_rules:fs.lookup ("rules" : Str)=none
 n_check_stop:fs.lookup ("check_stop" : Str)=none
 n_check_trip:fs.lookup ("check_trip" : Str)=none
 n_check_call:fs.lookup ("check_call" : Str)=none
 n_has_walk:fs.lookup ("has_walk" : Str)=none
 n_add_stop:fs.lookup ("add_stop" : Str)=none
 n_add_walk:fs.lookup ("add_walk" : Str)=none
 n_add_rule:fs.lookup ("add_rule" : Str)=none
 n_add_ticket:fs.lookup ("add_ticket" : Str)=none
 n_add_trip:fs.lookup ("add_trip" : Str)=none
 n_zone:fs.lookup ("zone" : Str)=none
 n_change:fs.lookup ("change" : Str)=none
 n_stops:fs.lookup ("stops" : Str)=none
 n_walks:fs.lookup ("walks" : Str)=none
 n_tickets:fs.lookup ("tickets" : Str)=none
 n_ticket:fs.lookup ("ticket" : Str)=none
structure ZgJ(a:NA):Prop where
 sr:a.ds≠a.dr
 st:a.ds≠a.dt
 sp:a.ds≠a.dp
 rt:a.dr≠a.dt
 rp:a.dr≠a.dp
 tp:a.dt≠a.dp
structure ZK(t:Z0)(H:Hp)(n:Addr)(a:NA)(N:ZD):Prop where
 ob:∃dx fs,H n=some (.ins t.ZT dx fs)/\Zqb fs a
 ap:ZgJ a
 st:∃rows,H a.ds=some (.dK rows)/\Al (YF H) rows N.st
 wk:∃vs,H a.lw=some (.lst vs)/\Al (YL H) vs N.wk
 ru:∃rows,H a.dr=some (.dK rows)/\Al (Y2 t H) rows N.ru
 tk:∃rows,H a.dt=some (.dK rows)/\Al (Xi H) rows N.tk
 tp:∃rows,H a.dp=some (.dK rows)/\Al (Y8 H) rows N.tp
def ZK.same(s:Zf H c)(h:ZK t H n a N):ZK t c n a N:=by
 ext⟨⟨D,fs,B,i⟩,ap,⟨r1,G,E⟩,⟨J,j,x⟩,⟨C,L,f⟩,⟨r3,g,u⟩,⟨I,y,v⟩⟩ h;exact⟨⟨D,fs,s _ _ B,i⟩,ap,⟨r1,s _ _ G,E.imp λ_ _=>YF.same s⟩,⟨J,s _ _ j,x.imp λ_ _=>YL.same s⟩,⟨C,s _ _ L,f.imp λ_ _=>Y2.same s⟩,⟨r3,s _ _ g,u.imp λ_ _=>Xi.same s⟩,⟨I,s _ _ y,v.imp λ_ _=>Y8.same s⟩⟩
structure U6(H0:Hp)(a:NA):Prop where
 s:H0 a.ds=none
 w:H0 a.lw=none
 r:H0 a.dr=none
 t:H0 a.dt=none
 p:H0 a.dp=none
def XJ(t:Z0)(H:Hp)(n:Addr)(N:ZD):Prop:=∃a,ZK t H n a N
def XJ.same(s:Zf H c)(h:XJ t H n N):XJ t c n N:=let ⟨a,h⟩:=h;⟨a,h.same s⟩
def Nk{fs:List (Str×V)}(h:fs.length<=n):(Z9 f v fs).length<=n+1:=Sh (E9 _ _ _) (Nat.succ_le_succ h)
inductive Zqc(t:Z0)(vs:List V)(H:Hp)(Q:VK)(_e3:XK):Prop|mk (x:Addr) (H0:Hp) (_:vs=[.ref x]) (_:H0 x=none) (_:Zf H0 H) (_:(∃dx,H x=some (.ins t.ZT dx []))) (_:∀H' a,Zf H0 H'->ZK t H' x a ⟨[],[],[],[],[]⟩->U6 H0 a->Q .non H')
def ZgK(u:Zs K mg t):Zl P w K mg base Zo 1 t.jI t.ZeS ["self"] (Zqc t):=by
 erw[u.kI.F.ok Zm7 () λy0 A outer s a0 vs a1 z0 hr t0=>?_];ext⟨x,H0,rfl,O,s0,⟨c,hx⟩,q⟩ t0;erw[⟨_,(Zi (WA (pv 0) QD R) (Zi (WA (pv 0) (Z4 YZ) R) (Zi (WA (pv 0) QD R) (Zi (WA (pv 0) QD R) (Ze (WA (pv 0) QD R)))))),?_⟩];sleep 5;intro g g1;have I:g≠x:=λz=>by rw[z,hx]at g1;cases g1
 have d1:=s0.free g1;erw[⟨_,R,x,_,c,_,R,(by rw[Zj I.symm];exact hx),u.ZG,u.QL,(),?_⟩];generalize o0:Z9 "stop_rows" (.ref g) []=G;have g0:G.length<=1:=by rw[<-o0];exact Nk (Sk 0)
 have u1:=W0 (s0.trans (Zx g1 (.dK []))) O (.ins t.ZT c G);have y1:(upd (upd a0 g (.dK [])) x (.ins t.ZT c G)) x=some (.ins t.ZT c G):=Zh;have f:(upd (upd a0 g (.dK [])) x (.ins t.ZT c G)) g=some (.dK []):=by rw[Zj I];exact Zh
 generalize upd (upd a0 g (.dK [])) x (.ins t.ZT c G)=S at u1 y1 f ⊢;erw[⟨zL9 R,λi g2=>?_⟩];have M:i≠x:=λz=>by rw[z,y1]at g2;cases g2
 have r0:g≠i:=ZR f g2;have d2:=u1.free g2;erw[⟨_,R,x,_,c,_,R,(by rwa[Zj M.symm]),u.ZG,u.M8,Sj g0 (),?_⟩];generalize p0:Z9 "walk_rows" (.ref i) G=D;have k0:D.length<=2:=by rw[<-p0];exact Nk g0
 have u2:=W0 (u1.trans (Zx g2 (.lst []))) O (.ins t.ZT c D);have T:(upd (upd S i (.lst [])) x (.ins t.ZT c D)) x=some (.ins t.ZT c D):=Zh;have f:(upd (upd S i (.lst [])) x (.ins t.ZT c D)) g=some (.dK []):=by rwa[Zj I,Zj r0]
 have n:(upd (upd S i (.lst [])) x (.ins t.ZT c D)) i=some (.lst []):=by rw[Zj M];exact Zh
 generalize upd (upd S i (.lst [])) x (.ins t.ZT c D)=L at u2 T f n ⊢;intro p3 g3;have Q:p3≠x:=λz=>by rw[z,T]at g3;cases g3
 have d0:g≠p3:=ZR f g3;have w0:i≠p3:=ZR n g3;have d3:=u2.free g3;erw[⟨_,R,x,_,c,_,R,(by rwa[Zj Q.symm]),u.ZG,u.QM,Sj k0 (),?_⟩];generalize l0:Z9 "rule_rows" (.ref p3) D=C;have b0:C.length<=3:=by rw[<-l0];exact Nk k0
 have u3:=W0 (u2.trans (Zx g3 (.dK []))) O (.ins t.ZT c C);have Y:(upd (upd L p3 (.dK [])) x (.ins t.ZT c C)) x=some (.ins t.ZT c C):=Zh;have f:(upd (upd L p3 (.dK [])) x (.ins t.ZT c C)) g=some (.dK []):=by rwa[Zj I,Zj d0]
 have n:(upd (upd L p3 (.dK [])) x (.ins t.ZT c C)) i=some (.lst []):=by rwa[Zj M,Zj w0]
 have y:(upd (upd L p3 (.dK [])) x (.ins t.ZT c C)) p3=some (.dK []):=by rw[Zj Q];exact Zh
 generalize upd (upd L p3 (.dK [])) x (.ins t.ZT c C)=H at u3 Y f n y ⊢;intro j g4;have U:j≠x:=λz=>by rw[z,Y]at g4;cases g4
 have e0:g≠j:=ZR f g4;have u0:i≠j:=ZR n g4;have i0:p3≠j:=ZR y g4;have d4:=u3.free g4;erw[⟨_,R,x,_,c,_,R,(by rwa[Zj U.symm]),u.ZG,u.B7,Sj b0 (),?_⟩];generalize m0:Z9 "ticket_rows" (.ref j) C=B;have j0:B.length<=4:=by rw[<-m0];exact Nk b0
 have X:=W0 (u3.trans (Zx g4 (.dK []))) O (.ins t.ZT c B);have Z:(upd (upd H j (.dK [])) x (.ins t.ZT c B)) x=some (.ins t.ZT c B):=Zh;have f:(upd (upd H j (.dK [])) x (.ins t.ZT c B)) g=some (.dK []):=by rwa[Zj I,Zj e0]
 have n:(upd (upd H j (.dK [])) x (.ins t.ZT c B)) i=some (.lst []):=by rwa[Zj M,Zj u0]
 have y:(upd (upd H j (.dK [])) x (.ins t.ZT c B)) p3=some (.dK []):=by rwa[Zj Q,Zj i0]
 have J:(upd (upd H j (.dK [])) x (.ins t.ZT c B)) j=some (.dK []):=by rw[Zj U];exact Zh
 generalize upd (upd H j (.dK [])) x (.ins t.ZT c B)=E at X Z f n y J ⊢;intro h g5;have x5:h≠x:=λz=>by rw[z,Z]at g5;cases g5
 have c0:g≠h:=ZR f g5;have v0:i≠h:=ZR n g5;have f0:p3≠h:=ZR y g5;have h0:j≠h:=ZR J g5;have d5:=X.free g5;erw[⟨_,R,x,_,c,_,R,(by rwa[Zj x5.symm]),u.ZG,u.QN,Sj j0 (),?_⟩];generalize q0:Z9 "trip_rows" (.ref h) B=v;have x0:v.length<=5:=by rw[<-q0];exact Nk j0
 have u5:=W0 (X.trans (Zx g5 (.dK []))) O (.ins t.ZT c v);have y5:(upd (upd E h (.dK [])) x (.ins t.ZT c v)) x=some (.ins t.ZT c v):=Zh;have f:(upd (upd E h (.dK [])) x (.ins t.ZT c v)) g=some (.dK []):=by rwa[Zj I,Zj c0]
 have n:(upd (upd E h (.dK [])) x (.ins t.ZT c v)) i=some (.lst []):=by rwa[Zj M,Zj v0]
 have y:(upd (upd E h (.dK [])) x (.ins t.ZT c v)) p3=some (.dK []):=by rwa[Zj Q,Zj f0]
 have J:(upd (upd E h (.dK [])) x (.ins t.ZT c v)) j=some (.dK []):=by rwa[Zj U,Zj h0]
 have k5:(upd (upd E h (.dK [])) x (.ins t.ZT c v)) h=some (.dK []):=by rw[Zj x5];exact Zh
 generalize upd (upd E h (.dK [])) x (.ins t.ZT c v)=H5 at u5 y5 f n y J k5 ⊢;subst o0 p0 l0 m0 q0;exact q _ ⟨g,i,p3,j,h⟩ u5 ⟨⟨c,_,y5,⟨R,R,R,R,R,R,R,R,R,R,R,R,R,R,R,R,R,R,R,R,R,R,R,R,R⟩⟩,⟨d0,e0,c0,i0,f0,h0⟩,⟨[],f,.nil⟩,⟨[],n,.nil⟩,⟨[],y,.nil⟩,⟨[],J,.nil⟩,⟨[],k5,.nil⟩⟩ ⟨d1,d2,d3,d4,d5⟩
structure ZM(u:HO):Prop where
 nt:∀ys,u≠.tup ys
 ni:∀c x fs,u≠.ins c x fs
 nf:∀o v,u≠.frz o v
def ZM.k:ZM (.dK c):=⟨(),(),()⟩
def ZM.l:ZM (.lst xs):=⟨(),(),()⟩
def XW(hd:H d=some u)(lo:ZM u)(h:H p=some (.tup xs)):upd H d o p=some (.tup xs):=by
 rwa[Zj (XZ h hd (λz=>lo.nt _ z.symm))]
def C9(hd:H d=some u)(lo:ZM u)(h:H p=some (.ins c x fs)):upd H d o p=some (.ins c x fs):=by
 rwa[Zj (XZ h hd (λz=>lo.ni _ _ _ z.symm))]
section Pt
variable{d:Addr}{u o:HO}(hd:H d=some u)(lo:ZM u)
include hd lo
theorem Xi.put(h:Xi H c k):Xi (upd H d o) c k:=let ⟨e,r,z,e1,e2,e3⟩:=h;⟨e,r,z,e1,XW hd lo e2,XW hd lo e3⟩
theorem YF.put(h:YF H c k):YF (upd H d o) c k:=let ⟨e,r,e1,e2⟩:=h;⟨e,r,e1,XW hd lo e2⟩
theorem YD.put(h:YD H v c):YD (upd H d o) v c:=let ⟨p,e,h⟩:=h;⟨p,e,XW hd lo h⟩
theorem Y8.put(h:Y8 H c k):Y8 (upd H d o) c k:=let ⟨e,r,q,vs,e1,e2,e3,e4⟩:=h;⟨e,r,q,vs,e1,XW hd lo e2,XW hd lo e3,e4.imp λ_ _=>YD.put hd lo⟩
theorem YL.put(h:YL H v x):YL (upd H d o) v x:=let ⟨p,e,h⟩:=h;⟨p,e,XW hd lo h⟩
theorem U5.put(h:U5 t H v r):U5 t (upd H d o) v r:=let ⟨b,e,h⟩:=h;⟨b,e,ZP.keepF (λ_ _ _ _ _ e=>C9 hd lo e) (λ_ _=>ZgI (XW hd lo) λ_ e=>by rwa[Zj (XZ e hd (λz=>lo.nf _ _ z.symm))]) h⟩
theorem Y2.put(h:Y2 t H c k):Y2 t (upd H d o) c k:=⟨h.1,h.2.put hd lo⟩
end Pt
def ZK.addSt{a:NA}{N:ZD}{rows:List (ZF×V)}{x:ZI}(h:ZK t H n a N)(c:H a.ds=some (.dK rows))(y:Al (YF H) rows N.st)(M:YC rows (Sum.inr x.nm)=none)(j:YF H (Sum.inr x.nm,v) x) :
  ZK t (upd H a.ds (.dK (Xd rows (Sum.inr x.nm) v))) n a {N with st:=N.st++[x]}:=by
 ext⟨⟨J,fs,G,u⟩,ap,_,⟨O,f,D⟩,⟨I,Q,g⟩,⟨r3,i,B⟩,⟨L,E,C⟩⟩ h;erw[⟨⟨J,fs,C9 c ZM.k G,u⟩,ap,⟨_,Zh,?_⟩,⟨O,by rwa[Zj (XZ f c (by intro z;cases z))],D.imp λ_ _=>YL.put c ZM.k⟩,⟨I,by rwa[Zj (ap.sr.symm)],g.imp λ_ _=>Y2.put c ZM.k⟩,⟨r3,by rwa[Zj (ap.st.symm)],B.imp λ_ _=>Xi.put c ZM.k⟩,⟨L,by rwa[Zj (ap.sp.symm)],C.imp λ_ _=>Y8.put c ZM.k⟩⟩];rw[QH v M];exact(y.imp λ_ _=>YF.put c ZM.k).snoc (j.put c ZM.k)
def ZK.addWk{a:NA}{N:ZD}(h:ZK t H n a N)(c:H a.lw=some (.lst vs))(C:Al (YL H) vs N.wk)(y:YL H v x) :
  ZK t (upd H a.lw (.lst (vs++[v]))) n a {N with wk:=N.wk++[x]}:=by
 ext⟨⟨J,fs,G,B⟩,ap,⟨r1,i,L⟩,_,⟨I,j,u⟩,⟨r3,f,D⟩,⟨M,g,E⟩⟩ h;erw[⟨⟨J,fs,C9 c ZM.l G,B⟩,ap,⟨r1,by rwa[Zj (XZ i c (by intro z;cases z))],L.imp λ_ _=>YF.put c ZM.l⟩,⟨_,Zh,?_⟩,⟨I,by rwa[Zj (XZ j c (by intro z;cases z))],u.imp λ_ _=>Y2.put c ZM.l⟩,⟨r3,by rwa[Zj (XZ f c (by intro z;cases z))],D.imp λ_ _=>Xi.put c ZM.l⟩,⟨M,by rwa[Zj (XZ g c (by intro z;cases z))],E.imp λ_ _=>Y8.put c ZM.l⟩⟩];exact(C.imp λ_ _=>YL.put c ZM.l).snoc (y.put c ZM.l)
def ZK.addRu{a:NA}{N:ZD}{rows:List (ZF×V)}{x:Yd}(h:ZK t H n a N)(c:H a.dr=some (.dK rows))(u:Al (Y2 t H) rows N.ru)(M:YC rows (Sum.inr x.nm)=none)(i:Y2 t H (Sum.inr x.nm,v) x) :
  ZK t (upd H a.dr (.dK (Xd rows (Sum.inr x.nm) v))) n a {N with ru:=N.ru++[x]}:=by
 ext⟨⟨G,fs,E,j⟩,ap,⟨r1,I,J⟩,⟨O,f,C⟩,_,⟨r3,g,y⟩,⟨L,D,B⟩⟩ h;erw[⟨⟨G,fs,C9 c ZM.k E,j⟩,ap,⟨r1,by rwa[Zj (ap.sr)],J.imp λ_ _=>YF.put c ZM.k⟩,⟨O,by rwa[Zj (XZ f c (by intro z;cases z))],C.imp λ_ _=>YL.put c ZM.k⟩,⟨_,Zh,?_⟩,⟨r3,by rwa[Zj (ap.rt.symm)],y.imp λ_ _=>Xi.put c ZM.k⟩,⟨L,by rwa[Zj (ap.rp.symm)],B.imp λ_ _=>Y8.put c ZM.k⟩⟩];rw[QH v M];exact(u.imp λ_ _=>Y2.put c ZM.k).snoc (i.put c ZM.k)
def ZK.addTk{a:NA}{N:ZD}{rows:List (ZF×V)}{x:YE}(h:ZK t H n a N)(c:H a.dt=some (.dK rows))(u:Al (Xi H) rows N.tk)(M:YC rows (Sum.inr x.nm)=none)(i:Xi H (Sum.inr x.nm,v) x) :
  ZK t (upd H a.dt (.dK (Xd rows (Sum.inr x.nm) v))) n a {N with tk:=N.tk++[x]}:=by
 ext⟨⟨G,fs,D,j⟩,ap,⟨r1,I,J⟩,⟨O,f,B⟩,⟨E,Q,g⟩,_,⟨L,C,y⟩⟩ h;erw[⟨⟨G,fs,C9 c ZM.k D,j⟩,ap,⟨r1,by rwa[Zj (ap.st)],J.imp λ_ _=>YF.put c ZM.k⟩,⟨O,by rwa[Zj (XZ f c (by intro z;cases z))],B.imp λ_ _=>YL.put c ZM.k⟩,⟨E,by rwa[Zj (ap.rt)],g.imp λ_ _=>Y2.put c ZM.k⟩,⟨_,Zh,?_⟩,⟨L,by rwa[Zj (ap.tp.symm)],y.imp λ_ _=>Y8.put c ZM.k⟩⟩];rw[QH v M];exact(u.imp λ_ _=>Xi.put c ZM.k).snoc (i.put c ZM.k)
def ZK.addTp{a:NA}{N:ZD}{rows:List (ZF×V)}{x:Tp}(h:ZK t H n a N)(c:H a.dp=some (.dK rows))(y:Al (Y8 H) rows N.tp)(L:YC rows (Sum.inr x.nm)=none)(j:Y8 H (Sum.inr x.nm,v) x) :
  ZK t (upd H a.dp (.dK (Xd rows (Sum.inr x.nm) v))) n a {N with tp:=N.tp++[x]}:=by
 ext⟨⟨G,fs,D,u⟩,ap,⟨r1,I,J⟩,⟨M,f,C⟩,⟨E,O,g⟩,⟨r3,i,B⟩,_⟩ h;erw[⟨⟨G,fs,C9 c ZM.k D,u⟩,ap,⟨r1,by rwa[Zj (ap.sp)],J.imp λ_ _=>YF.put c ZM.k⟩,⟨M,by rwa[Zj (XZ f c (by intro z;cases z))],C.imp λ_ _=>YL.put c ZM.k⟩,⟨E,by rwa[Zj (ap.rp)],g.imp λ_ _=>Y2.put c ZM.k⟩,⟨r3,by rwa[Zj (ap.tp)],B.imp λ_ _=>Xi.put c ZM.k⟩,⟨_,Zh,?_⟩⟩];rw[QH v L];exact(y.imp λ_ _=>Y8.put c ZM.k).snoc (j.put c ZM.k)
def UG(h:Yc z):(PyData.str z).canLay0=true:=by
 simp only[PyData.canLay0];show z.cps.all (λc=>decide (c<0x110000))=true;rw[<-Array.all_toList,List.all_eq_true];intro c f;have:=h.2.2.1 c f;exact SQ ()
def VZ(c:List Wl)(a b:Str):Bool:=c.any λx=>(a==x.o && b==x.t) || (b==x.o && a==x.t)
inductive Zqd(t:Z0)(vs:List V)(H:Hp)(Q:VK)(_e3:XK):Prop|mk (n:Addr) (N:ZD) (a b:Str) (_:vs=[.ref n,.str a,.str b]) (_:XJ t H n N) (_:Yc a) (_:Yc b) (_:(∀x∈N.wk,Yc x.o/\Yc x.t)) (_:N.wk.length<=12) (_:∀H',Zf H H'->Q (.bl (VZ N.wk a b)) H')
def Zqe(c:Zs K mg t):Zl P w K mg base Zo 1 t.Ze9 t.Zfa ["self","one","other"] (Zqd t):=by
 erw[c.kK.F.ok Zne () λc0 A outer s H vs e0 d0 hr a0=>?_];ext⟨n,N,a,b,rfl,⟨E,D⟩,J,S,b0,w12,q⟩ a0;ext⟨dx,fs,e1,T⟩ D.ob;ext⟨X,B,u⟩ D.wk;erw[⟨_,(Ze (Zt (ZV (Zk5 R) c.Znw Znq (Zc (Xv (cl:=[(OK "other",s.heap.objs.size+2),(OK "one",s.heap.objs.size+1)]) (N:=["walk","one","other"]) (fr:=[none,some 1,some 2]) R (Xl (ZO (pv 0) R)) R () R () ⟨⟨R,Or.inl R,Or.inl R,_,R,R⟩,⟨⟨R,Or.inl R,Or.inl R,_,R,R⟩,trivial⟩⟩ ⟨R,⟨R,trivial⟩⟩ R (λ_ _ _ _ _=>(ZZ 0 (show List.Nodup (["walk","one","other"]:OC) by lia))) (λ_ _ _ _ _=>Xu) (λ_ _ _ _ _=>(XA (show YH _ (compareOp .In) (Zct K false)from Zk4 hr.units) (YX (Zv (ZE (show VB _ (Th K)from Yj) (pv 0) Zb) (ZE (show VB _ (Th K)from Yj) (pv 0) Zb))) (YX (Zv (YX (Zv (pv 1) (pv 2))) (YX (Zv (pv 2) (pv 1))))) R))))))),?_⟩];sleep 1;refine⟨_,R,n,_,dx,_,_,R,e1,c.ZG,c.M8,T.fw,E.lw,R,⟨_,Zd.of B⟩,Uh (K:=K) (a:=E.lw) (xs:=X) (λi h f C=>Zf H C/\(∃v,f=[v,some (.str a),some (.str b)])/\h=((N.wk.take i).map λx=>(a==x.o && b==x.t) || (b==x.o && a==x.t)).map V.bl) ⟨Zf.refl H,⟨_,R⟩,R⟩
  (Sh (show _<=12 by rw[u.length];exact w12) ()) (λi h f C _ ⟨s',_⟩=>Zd.of (s' _ _ B)) ?_ ?_⟩
 rintro i v h f H1 Q hv ⟨j,⟨v0,rfl⟩,rfl⟩;obtain⟨x,ex,M,rfl,Z⟩:=u.get hv;have L:=b0 x (SK ex);have O:=j _ _ Z;dsimp only[YV,X2];rw[SV R];erw[⟨_,R,M,_,0,_,R,R,Zp.of O,R,_,R,M,_,1,_,R,R,Zp.of O,R,zL9 R,λU g1=>?_⟩];have u1:=Zx g1 (.tup [.str x.o,.str x.t]);erw[⟨_,R,_,R,zL9 R,λI g2=>?_⟩];have G:=Zx g2 (.tup [.str a,.str b]);erw[⟨_,R,_,R,zL9 R,λp3 g3=>?_⟩];have y:=Zx g3 (.tup [.str b,.str a]);erw[⟨zL9 R,λp4 g4=>?_⟩];have g:=Zx g4 (.tup [.ref I,.ref p3]);have k1:=((G.trans y).trans g) U _ Zh;have Y:=(y.trans g) I _ Zh;have k3:=g p3 _ Zh;have S4:=(((j.trans u1).trans G).trans y).trans g;erw[⟨p4,_,.tuple [.str x.o,.str x.t],[.tuple [.str a,.str b],.tuple [.str b,.str a]],R,.inr (Zp.of Zh),.tup (Zp.of k1) (.cons (.str _ (UG L.1)) (.cons (.str _ (UG L.2)) .nil)),.cons (.tup (Zp.of Y) (.cons (.str _ (UG J)) (.cons (.str _ (UG S)) .nil))) (.cons (.tup (Zp.of k3) (.cons (.str _ (UG S)) (.cons (.str _ (UG J)) .nil))) .nil),?_,?_⟩];simp[PyData.depth,PyData.depthAll];erw[⟨by rw[Su,Sw];lia,S4,⟨_,R⟩,?_⟩];rw[SZ,ex,SL,SL];congr 1;simp[PyData.eqv,PyData.eqvAll];rintro h f H1 ha ⟨j,⟨v0,rfl⟩,rfl⟩ l Q;rw[u.length,List.take_length];erw[⟨l,_,R,Zd.of Zh,?_⟩];rw[List.any_map];exact q _ (j.trans (Zx Q _))
def Zqf{c:Type}{nm:c->Str}{R:ZF×V->c->Prop}(i:∀f x,R f x->f.1=Sum.inr (nm x)){rows:List (ZF×V)}{xs:List c}(h:Al R rows xs)(z:Str):(YC rows (Sum.inr z)).isSome=(Yw nm xs z).isSome:=by
 have:=UF i h z;cases e:Yw nm xs z with
 |none=>rw[this.1 e];rfl
 |some x=>obtain⟨f,g,_⟩:=this.2 x e;rw[g];rfl
def YM{c:Type}(nm:c->Str)(xs:List c):V->Bool
 |.str z=>(Yw nm xs z).isSome
 |_=>false
def U7{c:Type}{nm:c->Str}{R:ZF×V->c->Prop}(g:∀f x,R f x->f.1=Sum.inr (nm x)){rows:List (ZF×V)}{xs:List c}(h:Al R rows xs)(v:V):Lr rows v=YM nm xs v:=by
 cases v with
 |str z=>exact Zqf g h z
 |_=>rfl
def VF{c:Type}{nm:c->Str}{xs:List c}{v:V}(h:YM nm xs v=true):∃z x,v=.str z/\Yw nm xs z=some x:=by
 cases v with
 |str z=>obtain⟨x,e⟩:=Option.isSome_iff_exists.mp h;exact⟨z,x,R,e⟩
 |_=>cases h
def RA{rows:List (ZF×V)}(h:Lr rows (.str z)=false):YC rows (Sum.inr z)=none:=by
 cases e:YC rows (Sum.inr z)with
 |none=>rfl
 |some x=>have h:(YC rows (Sum.inr z)).isSome=false:=h;rw[e]at h;cases h
def Nl(s:Zf H c):Zf (wo H d) (upd c d o):=λb ob e=>by obtain⟨f,e⟩:=zE e;rw[Zj f];exact s _ _ e
structure YS(N:ZD):Prop where
 s8:N.st.length<=8
 sn:(N.st.map ZI.nm).Nodup
 so:∀x∈N.st,Yc x.nm
 w12:N.wk.length<=12
 wo:∀x∈N.wk,Yc x.o/\Yc x.t
 r6:N.ru.length<=6
 rn:(N.ru.map Yd.nm).Nodup
 ro:∀x∈N.ru,Yc x.nm/\R3.Ok x.r
 t3:N.tk.length<=3
 tn:(N.tk.map YE.nm).Nodup
 to:∀x∈N.tk,x.Ok
 p10:N.tp.length<=10
 pn:(N.tp.map Tp.nm).Nodup
 po:∀x∈N.tp,Yc x.nm/\Yc x.ru/\2<=x.cs.length/\x.cs.length<=6/\∀c∈x.cs,Yc c.st
def Lu(N:ZD)(c f g:V):Option Wn:=ck (Vt c) .name (ck (!YM ZI.nm N.st c) .twice (ck (Xy f 1 6) .number (ck (Xy g 0 30) .number (ck (decide (N.st.length<8)) .many none))))
def addS(N:ZD)(g c f:V):ZD:={N with st:=N.st++[⟨X7 g,YU c,YU f⟩]}
def Lv(N:ZD)(f c g:V):Option Wn:=ck (YM ZI.nm N.st f) .stop (ck (YM ZI.nm N.st c) .stop (ck (!(decide (f=c) || VZ N.wk (X7 f) (X7 c))) .twice (ck (Xy g 1 60) .number (ck (decide (N.wk.length<12)) .many none))))
def addW(N:ZD)(f c g:V):ZD:={N with wk:=N.wk++[⟨X7 f,X7 c,YU g⟩]}
def D1(N:ZD)(c:V)(o:Option RT):Option Wn:=ck (Vt c) .name (ck (!YM Yd.nm N.ru c) .twice (ck o.isSome .days (ck (decide (N.ru.length<6)) .many none)))
def addR(N:ZD)(c:V)(o:Option RT):ZD:={N with ru:=N.ru++[⟨X7 c,o.getD .always⟩]}
def ZgL:Option (List V)->Bool
 |some xs=>decide (1<=xs.length/\(xs.length:Int)<=6) && WS 1 6 xs
 |none=>false
def Nm(N:ZD)(c pv lv:V)(o:Option (List V)):Option Wn:=ck (Vt c) .name (ck (!YM YE.nm N.tk c) .twice (ck (Xy pv 0 10000) .number (ck (Xy lv 1 1440) .number (ck (ZgL o) .number (ck (decide (N.tk.length<3)) .many none)))))
def addK(N:ZD)(c pv lv:V)(o:Option (List V)):ZD:={N with tk:=N.tk++[⟨X7 c,YU pv,YU lv,(o.getD []).map YU⟩]}
def Lw(N:ZD)(c f:V):Option Wn:=ck (Vt c) .name (ck (!YM Tp.nm N.tp c) .twice (ck (YM Yd.nm N.ru f) .rule (ck (decide (N.tp.length<10)) .many none)))
def addT(N:ZD)(f c:V)(cs:List Cl):ZD:={N with tp:=N.tp++[⟨X7 f,X7 c,cs⟩]}
def RB(H:Hp)(v:V):Option (List V)->Prop
 |some xs=>∃a,v=.ref a/\H a=some (.lst xs)/\∀x∈xs,∃T,Kd H x T
 |none=>∃T,Kd H v T/\T ≠ "list"
def RB.same(s:Zf H c)(h:RB H v o):RB c v o:=by
 cases o with
 |none=>ext⟨T,k,n⟩ h;exact⟨T,k.same s,n⟩
 |some g=>ext⟨a,e,h,k⟩ h;exact⟨a,e,s _ _ h,λx f=>let ⟨T,k⟩:=k x f;⟨T,k.same s⟩⟩
theorem gQ:∀(xs:List V) (lo hi:Int),0<=lo->WS lo hi xs=true->xs=ZN (xs.map YU)/\(xs.map YU).Pairwise (· < ·)/\∀x∈xs.map YU,lo<=((x:Nat):Int)/\((x:Nat):Int)<=hi
 |[],_,_,_,_=>⟨R,.nil,()⟩
 |x::r,lo,hi,n,h=>by
  have h:(Xy x lo hi && WS (gJ x+1) hi r)=true:=h;rw[Bool.and_eq_true]at h;obtain⟨ex,i,v⟩:=QP h.1 n;have u:gJ x=((YU x:Nat):Int):=by rw[ex];rfl
  rw[u]at h;obtain⟨g,j,f⟩:=gQ r (((YU x:Nat):Int)+1) hi () h.2;erw[⟨?_,.cons (λy c=>by have:=(f y c).1;lia) j,λy c=>?_⟩];show x::r=V.int ((YU x:Nat):Int)::ZN (r.map YU);rw[<-ex,<-g];rcases SF.mp c with rfl|c;exact⟨i,v⟩;have:=f y c;lia
structure Lx(t:Z0)(n:Addr)(a:NA)(d:Addr)(du:Option Wn)(N:ZD)(H:Hp)(Q:VK)(E:XK):Prop where
 e:∀w,du=some w->∀H',Zf H H'->E (.ref (Wn.cls t w)) none H'
 q:du=none->∀H',Zf (wo H d) H'->ZK t H' n a N->Q .non H'
inductive Zqg(t:Z0)(vs:List V)(H:Hp)(Q:VK)(E:XK):Prop|mk (n:Addr) (N:ZD) (v:V) (T:String) (_:vs=[.ref n,v]) (_:XJ t H n N) (_:Kd H v T) (_:(YM ZI.nm N.st v=true->Q .non H)) (_:(YM ZI.nm N.st v=false->E (.ref t.X4) none H))
def No(c:Zs K mg t):Zl P w K mg base (Yf P w) 2 t.Ze3 t.Ze4 ["self","name"] (Zqg t):=by
 erw[c.UB.F.okX Znb () λI A outer s H G Q E D h=>?_];ext⟨n,N,v,T,rfl,⟨a,g⟩,kd,q,e⟩ h;ext⟨u,fs,B,j⟩ g.ob;ext⟨rows,i,C⟩ g.st;erw[⟨_,(Ze (ZH (Yx (Yy (Zr c.J6 (Nh c) D Zk (Zv (pv 1) (ZO (pv 0) R))))) (Ze (Xc Xb c.ZoP R R c.ZfY (Zc Zq))) ZJ)),?_⟩];erw[⟨_,R,_,R,n,_,u,_,_,R,B,c.ZG,c.QL,j.fs1,v,T,a.ds,rows,R,kd,i,_,R,?_⟩];rw[U7 (λy x (h:YF H y x)=>h.1) C];cases f:YM ZI.nm N.st v with
 |false=>exact ZB () ⟨zL9 R,e f⟩
 |true=>exact Zn SO (q f)
inductive Zqh(t:Z0)(vs:List V)(H:Hp)(Q:VK)(E:XK):Prop|mk (n:Addr) (N:ZD) (v:V) (T:String) (_:vs=[.ref n,v]) (_:XJ t H n N) (_:Kd H v T) (_:(YM Tp.nm N.tp v=true->Q .non H)) (_:(YM Tp.nm N.tp v=false->E (.ref t.XU) none H))
def ZgM(c:Zs K mg t):Zl P w K mg base (Yf P w) 2 t.Ze5 t.Ze6 ["self","name"] (Zqh t):=by
 erw[c.MS.F.okX Znc () λI A outer s H G Q E D h=>?_];ext⟨n,N,v,T,rfl,⟨a,g⟩,kd,q,e⟩ h;ext⟨u,fs,B,j⟩ g.ob;ext⟨rows,i,C⟩ g.tp;erw[⟨_,(Ze (ZH (Yx (Yy (Zr c.J6 (Nh c) D Zk (Zv (pv 1) (ZO (pv 0) R))))) (Ze (Xc Xb c.Zo3 R R c.Zf0 (Zc Zq))) ZJ)),?_⟩];erw[⟨_,R,_,R,n,_,u,_,_,R,B,c.ZG,c.QN,j.fp,v,T,a.dp,rows,R,kd,i,_,R,?_⟩];rw[U7 (λy x (h:Y8 H y x)=>h.1) C];cases f:YM Tp.nm N.tp v with
 |false=>exact ZB () ⟨zL9 R,e f⟩
 |true=>exact Zn SO (q f)
inductive Zqi(t:Z0)(vs:List V)(H:Hp)(Q:VK)(E:XK):Prop|mk (n:Addr) (a:NA) (N:ZD) (nv zv cv:V) (Tz Tc:String) (_:vs=[.ref n,nv,zv,cv]) (_:ZK t H n a N) (_:Vk H nv) (_:Kd H zv Tz) (_:Kd H cv Tc) (_:Lx t n a a.ds (Lu N nv zv cv) (addS N nv zv cv) H Q E)
def gR(f:Zs K mg t):Zl P w K mg base (Yf P w) 4 t.ZeT t.ZeU ["self","name","zone","change"] (Zqi t):=by
 erw[f.B1.F.okX Zm8 () λb0 A outer s a0 vs d0 c0 j h=>?_];ext⟨n,a,N,nv,H,G,Q,T,rfl,J,Y,kz,U,⟨e,q⟩⟩ h;ext⟨I,fs,L,E⟩ J.ob;ext⟨rows,u,M⟩ J.st;unfold Lu at e q;rw[<-U7 (λZ x (h:YF a0 Z x)=>h.1) M,<-M.length]at e q;erw[⟨_,(Zi (Yg (Zr f.ML (Ry f) j Yh (Zv (pv 1) (ZO (pv 0) R)))) (Zi (Yg (Zr f.QK (C8 f) j Yh (Ym (pv 2) Zb (YA R f.jM)))) (Zi (Yg (Zr f.QK (C8 f) j Yh (Ym (pv 3) Zb (YA R f.ZnN)))) (Zi (Yg (Zr f.A9 (Rz f) j Yh (Zv (ZO (pv 0) R) (YA R f.ZnI)))) (Ze (QI (Uf j) (ZO (pv 0) R) (pv 1) (YX (Zv (pv 2) (pv 3))) R)))))),?_⟩];erw[⟨_,R,_,R,n,_,I,_,_,R,L,f.ZG,f.QL,E.fs1,nv,a.ds,rows,R,u,Y,λc O g=>?_,λy D O g=>?_,λy D O g=>?_⟩];rw[c]at e;exact e _ R _ g;rw[y,D]at e;exact e _ R _ g;rw[y,D]at e q;erw[⟨_,R,H,Q,1,6,R,kz.same g,λB=>?_,λB=>?_⟩]
 rotate_left
 rw[B]at e;exact e _ R _ g;rw[B]at e q;erw[⟨_,R,G,T,0,30,R,U.same g,λv=>?_,λv=>?_⟩]
 rotate_left
 rw[v]at e;exact e _ R _ g;rw[v]at e q;erw[⟨_,R,n,_,I,_,_,R,g _ _ L,f.ZG,f.QL,E.fs1,a.ds,rows,8,R,g _ _ u,λC=>?_,λC=>?_⟩]
 rotate_left
 rw[C]at e;exact e _ R _ g;rw[C]at q;obtain⟨z,rfl,_⟩:=K9 y;have X:=(QP B ()).1;have ec:=(QP v ()).1;erw[⟨_,R,_,R,zL9 R,λr S=>?_⟩];have s3:=Zx S (.tup [H,G]);have i:=g.trans s3;erw[⟨_,R,n,_,I,_,_,R,i _ _ L,f.ZG,f.QL,E.fs1,_,R,a.ds,_,R,VR.k (k:=Sum.inr z) (i _ _ u) (Nat.lt_trans (SS C) ()),?_⟩];exact q R _ (Nl i) ((J.same i).addSt (x:=⟨z,YU H,YU G⟩) (i _ _ u) (M.imp λ_ _=>YF.same i) (RA D) ⟨R,r,R,by rw[Zh,<-X,<-ec]⟩)
inductive Zqj(t:Z0)(vs:List V)(H:Hp)(Q:VK)(E:XK):Prop|mk (n:Addr) (a:NA) (N:ZD) (nv v:V) (o:Option RT) (_:vs=[.ref n,nv,v]) (_:ZK t H n a N) (_:Vk H nv) (_:Ni t H v o) (_:Lx t n a a.dr (D1 N nv o) (addR N nv o) H Q E)
def RD(f:Zs K mg t):Zl P w K mg base (Yf P w) 44 t.ZeX t.ZeY ["self","name","rule"] (Zqj t):=by
 erw[f.Qu.F.okX Zc3 () λZ A outer s H Y b0 a0 C h=>?_];ext⟨n,a,N,U,v,o,rfl,I,S,Q,⟨e,q⟩⟩ h;ext⟨E,fs,J,D⟩ I.ob;ext⟨rows,j,L⟩ I.ru;unfold D1 at e q;rw[<-U7 (λT x (h:Y2 t H T x)=>h.1) L,<-L.length]at e q;erw[⟨_,(Zi (Yg (Zr f.ML (Ry f) C Yh (Zv (pv 1) (ZO (pv 0) R)))) (Zi (ZL 3 Zc3.nd (Zr f.U0 (ZgH f) C Yh (Zc (pv 2)))) (Zi (Yg (Zr f.A9 (Rz f) C Yh (Zv (ZO (pv 0) R) (YA R f.ZnK)))) (Ze (QI (Uf C) (ZO (pv 0) R) (pv 1) (pv 3) R))))),?_⟩];erw[⟨_,R,_,R,n,_,E,_,_,R,J,f.ZG,f.QM,D.fr,U,a.dr,rows,R,j,S,λc M i=>?_,λu B M i=>?_,λu B M i=>?_⟩];rw[c]at e;exact e _ R _ i;rw[u,B]at e;exact e _ R _ i;rw[u,B]at e q;erw[⟨_,R,v,o,R,Q.same i,λG=>?_,λr G X H2 s2 O=>?_⟩];subst G;exact e _ R _ i;subst G;have g:=i.trans s2;erw[⟨_,R,n,_,E,_,_,R,g _ _ J,f.ZG,f.QM,D.fr,a.dr,rows,6,R,g _ _ j,λy=>?_,λy=>?_⟩]
 rotate_left
 rw[y]at e;exact e _ R _ g;rw[y]at q;obtain⟨z,rfl,_⟩:=K9 u;erw[⟨_,R,_,R,n,_,E,_,_,R,g _ _ J,f.ZG,f.QM,D.fr,_,R,a.dr,_,R,VR.k (k:=Sum.inr z) (g _ _ j) (Nat.lt_trans (SS y) ()),?_⟩];exact q R _ (Nl g) ((I.same g).addRu (x:=⟨z,r⟩) (g _ _ j) (L.imp λ_ _=>Y2.same g) (RA B) ⟨R,O⟩)
inductive Zqk(t:Z0)(vs:List V)(H:Hp)(Q:VK)(E:XK):Prop|mk (n:Addr) (a:NA) (N:ZD) (nv prv lv zv:V) (Tp Tl:String) (o:Option (List V)) (_:vs=[.ref n,nv,prv,lv,zv]) (_:ZK t H n a N) (_:Vk H nv) (_:Kd H prv Tp) (_:Kd H lv Tl) (_:RB H zv o) (_:Lx t n a a.dt (Nm N nv prv lv o) (addK N nv prv lv o) H Q E)
def gS(f:Zs K mg t):Zl P w K mg base (Yf P w) 4 t.ZeZ t.Ze0 ["self","name","price","lasts","zones"] (Zqk t):=by
 erw[f.B3.F.okX Zna () λc0 A outer s b0 vs e0 d0 v h=>?_];ext⟨n,a,N,nv,I,lv,zv,Tp,Tl,o,rfl,L,hv,kp,X,hz,⟨e,q⟩⟩ h;ext⟨J,fs,M,H⟩ L.ob;ext⟨rows,y,O⟩ L.tk;unfold Nm at e q;rw[<-U7 (λkv x (h:Xi b0 kv x)=>h.1) O,<-O.length]at e q;erw[⟨_,(Zi (Yg (Zr f.ML (Ry f) v Yh (Zv (pv 1) (ZO (pv 0) R)))) (Zi (Yg (Zr f.QK (C8 f) v Yh (Ym (pv 2) Zb (YA R f.ZnP)))) (Zi (Yg (Zr f.QK (C8 f) v Yh (Ym (pv 3) Zb (YA R f.ZnQ)))) (Zi (ZH (Yx (Yy (Zr f.MJ (ZpM f) v Zk (Up (pv 4) (YA R f.jM) Zb (YA R f.jM))))) (Ze (Xc Xb f.Zf5 R R f.kU (Zc Zq))) ZJ) (Zi (Yg (Zr f.A9 (Rz f) v Yh (Zv (ZO (pv 0) R) (YA R f.ZnL)))) (Ze (QI (Uf v) (ZO (pv 0) R) (pv 1) (YX (Ym (pv 2) (pv 3) (Z5 L0 R f.J5 J4 (Zc (pv 4))))) R))))))),?_⟩];erw[⟨_,R,_,R,n,_,J,_,_,R,M,f.ZG,f.B7,H.ft,nv,a.dt,rows,R,y,hv,λc T g=>?_,λC E T g=>?_,λC E T g=>?_⟩];rw[c]at e;exact e _ R _ g;rw[C,E]at e;exact e _ R _ g;rw[C,E]at e q;erw[⟨_,R,I,Tp,0,10000,R,kp.same g,λD=>?_,λD=>?_⟩]
 rotate_left
 rw[D]at e;exact e _ R _ g;rw[D]at e q;erw[⟨_,R,lv,Tl,1,1440,R,X.same g,λB=>?_,λB=>?_⟩]
 rotate_left
 rw[B]at e;exact e _ R _ g;rw[B]at e q;have Q:=hz.same g;cases o with
 |none =>
  ext⟨a0,kd,nT⟩ Q;exact⟨_,R,zv,6,1,6,R,.inl ⟨a0,kd,nT,_,R,ZB () ⟨zL9 R,e _ R _ g⟩⟩⟩
 |some i =>
  ext⟨l,rfl,U,kx⟩ Q;erw[⟨_,R,.ref l,6,1,6,R,.inr ⟨l,i,R,U,kx,_,R,?_⟩⟩];cases j:ZgL (some i)with
  |false =>
   rw[j]at e;rw[show(decide (1<=i.length/\(i.length:Int)<=6) && WS 1 6 i)=false from j];exact ZB () ⟨zL9 R,e _ R _ g⟩
  |true =>
   rw[j]at e q;have j:(decide (1<=i.length/\(i.length:Int)<=6) && WS 1 6 i)=true:=j;rw[j];erw[Zn () ?_];rw[Bool.and_eq_true]at j;erw[⟨_,R,n,_,J,_,_,R,g _ _ M,f.ZG,f.B7,H.ft,a.dt,rows,3,R,g _ _ y,λG=>?_,λG=>?_⟩]
   rotate_left
   rw[G]at e;exact e _ R _ g;rw[G]at q;obtain⟨z,rfl,_⟩:=K9 C;have ep:=(QP D ()).1;have Y:=(QP B ()).1;have ex:=(gQ i 1 6 () j.2).1;erw[⟨_,R,_,R,_,R,l,_,R,.inl ⟨Zd.of U,λp hp=>?_⟩⟩];have s2:=Zx hp (.tup i);erw[⟨zL9 R,λr Z=>?_⟩];have S:=Zx Z (.tup [I,lv,.ref p]);have u:=(g.trans s2).trans S;erw[⟨_,R,n,_,J,_,_,R,u _ _ M,f.ZG,f.B7,H.ft,_,R,a.dt,_,R,VR.k (k:=Sum.inr z) (u _ _ y) (Nat.lt_trans (SS G) ()),?_⟩];exact q R _ (Nl u) ((L.same u).addTk (x:=⟨z,YU I,YU lv,i.map YU⟩) (u _ _ y) (O.imp λ_ _=>Xi.same u) (RA E) ⟨R,r,p,R,by rw[Zh,<-ep,<-Y],by rw[<-ex];exact S _ _ Zh⟩)
inductive Zql(vs:List V)(H:Hp)(Q:VK)(_e3:XK):Prop|mk (v u:V) (c a:Cl) (_:vs=[v,u]) (_:YD H v c) (_:YD H u a) (_:c.st≠a.st) (_:a.lv<c.ar) (_:Q (.bl true) H)
def Zqm(i:Zs K mg t):Zl P w K mg base Zo 1 t.ZdB t.ZdC ["call","ahead"] Zql:=by
 erw[i.ZfF.F.ok ZmB () λx A outer s H n Q E j h=>?_];ext⟨v,u,c,a,rfl,⟨p,rfl,g⟩,⟨r,rfl,f⟩,ns,lt,q⟩ h;erw[⟨_,(Ze (Zt (Vx (XA Q6 (ZE Yj (pv 0) Zb) (ZE Yj (pv 1) Zb) (XQ _)) (Vi (XA Qi (ZE Yj (pv 0) Zb) (ZE Yj (pv 1) Zb) (XQ _)))))),?_⟩];erw[⟨_,R,p,_,0,_,R,R,Zp.of g,R,_,R,r,_,0,_,R,R,Zp.of f,R,R,_,R,ZB (by rw[SR λz=>ns (V.str.inj z)];rfl) ?_⟩];erw[⟨_,R,p,_,1,_,R,R,Zp.of g,R,_,R,r,_,2,_,R,R,Zp.of f,R,_,_,R,R,?_⟩];rwa[SQ (show((c.ar:Nat):Int)>((a.lv:Nat):Int) by lia)]
inductive Zqn(t:Z0)(vs:List V)(H:Hp)(Q:VK)(E:XK):Prop|mk (n:Addr) (a:NA) (N:ZD) (ov tv mv:V) (To Tt Tm:String) (_:vs=[.ref n,ov,tv,mv]) (_:ZK t H n a N) (_:YS N) (_:Kd H ov To) (_:Kd H tv Tt) (_:Kd H mv Tm) (_:Lx t n a a.lw (Lv N ov tv mv) (addW N ov tv mv) H Q E)
def gU(c:Zs K mg t):Zl P w K mg base (Yf P w) 4 t.ZeV t.ZeW ["self","one","other","minutes"] (Zqn t):=by
 erw[c.B2.F.okX Zm9 () λb0 A outer s H vs d0 c0 v h=>?_];ext⟨n,a,N,ov,tv,L,To,X,Tm,rfl,g,ok,U,kt,km,⟨e,q⟩⟩ h;ext⟨j,fs,u,i⟩ g.ob;ext⟨T,J,Q⟩ g.wk;unfold Lv at e q;rw[<-Q.length]at e q;erw[⟨_,(Zi (Yg (Yz (pv 0) c.ZG c.UB.me (No c) (v.mono ()) c.UB.b .nil Yh (Zc (pv 1)))) (Zi (Yg (Yz (pv 0) c.ZG c.UB.me (No c) (v.mono ()) c.UB.b .nil Yh (Zc (pv 2)))) (Zi (ZH (PW.pt (Q4 (Ya Yn (pv 1) (pv 2)) (Q3 (Yy (Yz (pv 0) c.ZG c.kK.me (Zqe c) (v.mono ()) c.kK.b .nil Zk (Zv (pv 1) (pv 2))))))) (Ze (Xc Xb c.Zf3 R R c.kS (Zc Zq))) ZJ) (Zi (Yg (Zr c.QK (C8 c) v Yh (Ym (pv 3) Zb (YA R c.ZnO)))) (Zi (Yg (Zr c.A9 (Zp7 c) v Yh (Zv (ZO (pv 0) R) (YA R c.ZnJ)))) (Ze (Yg (Xa PySem.F.plainAttrs_list PySem.F.slot_list_append PySem.F.type_list_append Ma (ZO (pv 0) R) (Zc (YX (Ym (pv 1) (pv 2) (pv 3)))))))))))),?_⟩];erw[⟨_,R,n,j,_,R,u,i.n_check_stop,_,R,n,N,ov,To,R,⟨a,g⟩,U,λG=>?_,λG=>?_⟩]
 rotate_left
 rw[G]at e;exact e _ R _ (Zf.refl H);rw[G]at e q;erw[⟨_,R,n,j,_,R,u,i.n_check_stop,_,R,n,N,tv,X,R,⟨a,g⟩,kt,λB=>?_,λB=>?_⟩]
 rotate_left
 rw[B]at e;exact e _ R _ (Zf.refl H);rw[B]at e q;obtain⟨x,_,rfl,Y⟩:=VF G;obtain⟨y,_,rfl,fy⟩:=VF B;have a0:Yc x:=by have:=WI Y;rw[<-this.2];exact ok.so _ this.1
 have Z:Yc y:=by have:=WI fy;rw[<-this.2];exact ok.so _ this.1
 erw[⟨_,R,_,R,R,_,R,?_⟩];cases I:decide (V.str x=V.str y)with
 |true=>rw[I]at e;exact ZB R (ZB R ⟨zL9 R,e _ R _ (Zf.refl H)⟩)
 |false =>
 erw[Zn SO ?_];erw[⟨_,R,n,j,_,R,u,i.n_has_walk,_,R,_,R,n,N,x,y,R,⟨a,g⟩,a0,Z,ok.wo,ok.w12,λH1 f=>⟨_,R,?_⟩⟩];cases O:VZ N.wk x y with
 |true=>rw[I,show VZ N.wk (X7 (V.str x)) (X7 (V.str y))=true from O]at e;exact ZB R ⟨zL9 R,e _ R _ f⟩
 |false =>
 rw[I,show VZ N.wk (X7 (V.str x)) (X7 (V.str y))=false from O]at e q;erw[Zn SO ?_];erw[⟨_,R,L,Tm,1,60,R,km.same f,λE=>?_,λE=>?_⟩]
 rotate_left
 rw[E]at e;exact e _ R _ f;rw[E]at e q;erw[⟨_,R,n,_,j,_,_,R,f _ _ u,c.ZG,c.M8,i.fw,a.lw,T,12,R,f _ _ J,λD=>?_,λD=>?_⟩]
 rotate_left
 rw[D]at e;exact e _ R _ f;rw[D]at q;have em:=(QP E ()).1;erw[⟨_,R,n,_,j,_,_,R,f _ _ u,c.ZG,c.M8,i.fw,.inl ⟨R,_,Zd.of (f _ _ J)⟩,_,R,_,R,_,R,zL9 R,λr S=>?_⟩];have s2:=Zx S (.tup [.str x,.str y,L]);have C:=f.trans s2;have M:=C _ _ J;erw[⟨a.lw,_,_,R,R,M,Nat.lt_trans (SS D) (),?_⟩];exact q R _ (Nl C) ((g.same C).addWk (x:=⟨x,y,YU L⟩) M (Q.imp λ_ _=>YL.same C) ⟨r,R,by rw[Zh,<-em]⟩)
def V0{c:Type}{nm:c->Str}{xs:List c}{z:Str}(h:z∈xs.map nm):YM nm xs (.str z)=true:=by
 obtain⟨x,f,rfl⟩:=SJ.mp h;obtain⟨y,e⟩:=gP (nm:=nm) f;show(Yw nm xs (nm x)).isSome=true;rw[e];rfl
inductive Zqo(t:Z0)(vs:List V)(H:Hp)(Q:VK)(_e3:XK):Prop|mk (n:Addr) (N:ZD) (v:V) (c:Cl) (_:vs=[.ref n,v]) (_:XJ t H n N) (_:YD H v c) (_:c.st∈N.st.map ZI.nm) (_:c.ar<=c.lv) (_:c.lv<=2879) (_:Q .non H)
def Zqp(f:Zs K mg t):Zl P w K mg base (Yf P w) 4 t.Ze7 t.Ze8 ["self","call"] (Zqo t):=by
 erw[f.kJ.F.okX Znd () λJ A outer s H I Q E i h=>?_];ext⟨n,N,v,c,rfl,j,⟨p,rfl,g⟩,y,G,L,q⟩ h;have B:=j;ext⟨a,C⟩ B;ext⟨x,fs,D,u⟩ C.ob;erw[⟨_,(Zi (Yg (Yz (pv 0) f.ZG f.UB.me (No f) (i.mono ()) f.UB.b .nil Yh (Zc (ZE Yj (pv 1) Zb)))) (Zi (Yg (Zr f.QK (C8 f) i Yh (Ym (ZE Yj (pv 1) Zb) Zb (YA R f.PL)))) (Zi (Yg (Zr f.QK (C8 f) i Yh (Ym (ZE Yj (pv 1) Zb) Zb (YA R f.PL)))) (Ze (ZH (Ya R8 (ZE Yj (pv 1) Zb) (ZE Yj (pv 1) Zb)) (Ze Wy) ZJ))))),?_⟩];erw[⟨_,R,n,x,_,R,D,u.n_check_stop,_,R,p,_,0,_,R,R,Zp.of g,R,n,N,.str c.st,_,R,j,.str _,λ_=>?_,λz=>by rw[V0 y]at z;cases z⟩];erw[⟨_,R,p,_,1,_,R,R,Zp.of g,R,.int (c.ar:Nat),_,0,2879,R,.int _,λ_=>?_,λz=>by rw[WF () ()]at z;cases z⟩];erw[⟨_,R,p,_,2,_,R,R,Zp.of g,R,.int (c.lv:Nat),_,0,2879,R,.int _,λ_=>?_,λz=>by rw[WF () ()]at z;cases z⟩];exact⟨_,R,p,_,2,_,R,R,Zp.of g,R,_,R,p,_,1,_,R,R,Zp.of g,R,_,_,R,R,_,R,Zn (by rw[SR ()];lia) q⟩
inductive Zqq(K:Ox)(vs:List V)(H:Hp)(Q:VK)(_e3:XK):Prop|mk (l:Addr) (vs':List V) (cs:List Cl) (_:vs=[.ref l]) (_:H l=some (.lst vs')) (_:Al (YD H) vs' cs) (_:2<=cs.length) (_:cs.length<=6) (_:∀H',Zf H H'->Q (.bl true) H')
def Zqr(f:Zs K mg t):Zl P w K mg base Zo 1 t.Zdz t.ZdA ["calls"] (Zqq K):=by
 erw[f.ZfE.F.ok ZmA () λO A outer s H M Q E Z h=>?_];ext⟨l,g,cs,rfl,C,G,U,X,q⟩ h;have lv:=G.length;erw[⟨_,(Zi (ZH (PW.pt (Q4 (Yx (Yy (ZV Ug f.YR YQ (Zv (pv 0) (VM R f.XH XT))))) (Q3 (Yx (NP VJ VJ (YA R f.ZnR) (ZV X0 f.Xh Xf (Zc (pv 0))) (YA R f.ZnS)))))) (Ze (Zt Vh)) ZJ) (Ze (Zt (ZV (Tv R) f.jJ uE (Zc (Xv (cl:=[]) (N:=["call"]) (fr:=[none]) R (Xl (pv 0)) R () R () trivial trivial R (λ_ _ _ _ _=>(ZZ 0 (show List.Nodup (["call"]:OC) by lia))) (λ_ _ _ _ _=>Xu) (λ_ _ _ _ _=>(Vx (ZV (show YN _ (.builtin "isinstance") (λxs H Q=>∃x T t b,xs=[x,V.ty T]/\Wb K H x t/\W.kitOne K t (Value.type T)=some b/\Q (V.bl b) H)from Ug) f.YR YQ (Zv (pv 0) (VM R f.J5 J4))) (Vi (XA Yn (ZV (show YN _ (.builtin "len") (λxs H Q=>∃p D,xs=[V.ref p]/\(Zd K H p D\/Zp K H p D)/\Q (V.int ↑D.length) H)from X0) f.Xh Xf (Zc (pv 0))) Zb (XQ _))))))))))),?_⟩];sleep 2;erw[⟨_,R,.ref l,"list",_,_,R,.lst C,R,_,R,Zn () ?_⟩];erw[⟨_,R,l,_,R,.inl (Zd.of C),_,_,R,R,_,R,ZB (SQ ()) ?_⟩];erw[⟨_,_,R,R,_,R,Zn (by rw[SQ (show((g.length:Nat):Int)<=6 by lia)];lia) ?_⟩];sleep 1;erw[⟨_,R,l,R,⟨_,Zd.of C⟩,Uh (K:=K) (a:=l) (xs:=g) (λi u j n=>n=H/\u=(List.replicate i true).map V.bl/\∃v,j=[v]) ⟨R,R,_,R⟩ (Sh (show _<=6 by lia) ()) (λi u j n _ ⟨e,_⟩=>by rw[e];exact Zd.of C) ?_ ?_⟩];rintro i y u j n S I ⟨rfl,rfl,v,rfl⟩;obtain⟨c,Y,p,rfl,B⟩:=G.get I;dsimp only[YV,X2];rw[SV R];erw[⟨_,R,.ref p,"tuple",_,_,R,.tup B,R,_,R,ZB () ⟨_,R,p,_,R,.inr (Zp.of B),R,?_⟩⟩];erw[⟨by rw[Su,Sw];lia,R,?_,_,R⟩];rw[List.replicate_succ',SL];rfl;rintro u j n ha ⟨rfl,rfl,v,rfl⟩ p B;erw[⟨p,List.replicate g.length true,R,Zd.of Zh,?_⟩];have J:=q _ (Zx B (.lst ((List.replicate g.length true).map V.bl)));rwa[show(List.replicate g.length true).all id=true by rw[List.all_eq_true];intro x L;rw[(List.mem_replicate.mp L).2];rfl]
inductive Zqs(t:Z0)(K:Ox)(vs:List V)(H:Hp)(Q:VK)(E:XK):Prop|mk (n:Addr) (a:NA) (N:ZD) (nv rv:V) (Tr:String) (cs:List Cl) (l:Addr) (vs':List V) (_:vs=[.ref n,nv,rv,.ref l]) (_:ZK t H n a N) (_:Vk H nv) (_:Kd H rv Tr) (_:H l=some (.lst vs')) (_:Al (YD H) vs' cs) (_:X8 (N.st.map ZI.nm) cs) (_:2<=cs.length) (_:cs.length<=6) (_:Lx t n a a.dp (Lw N nv rv) (addT N nv rv cs) H Q E)
def gW(f:Zs K mg t):Zl P w K mg base (Yf P w) 6 t.Ze1 t.Ze2 ["self","name","rule","calls"] (Zqs t K):=by
 erw[f.B4.F.okX vO () λj0 A outer s H vs a0 k0 I h=>?_];ext⟨n,a,N,nv,rv,Tr,cs,l,g,rfl,S,hv,kr,L,J,ok,l2,l6,⟨e,q⟩⟩ h;ext⟨O,fs,T,M⟩ S.ob;ext⟨rows,U,h2⟩ S.tp;ext⟨b0,g0,c0⟩ S.ru;have lv:=J.length;have e0:g.length<=sizeLine:=Sh (show g.length<=6 by lia) ();unfold Lw at e q;rw[<-U7 (λQ x (h:Y8 H Q x)=>h.1) h2,<-U7 (λQ x (h:Y2 t H Q x)=>h.1) c0,<-h2.length]at e q;erw[⟨_,(Zi (Yg (Zr f.ML (Ry f) I Yh (Zv (pv 1) (ZO (pv 0) R)))) (Zi (ZH (Yx (Yy (Zr f.J6 (Nh f) I Zk (Zv (pv 2) (ZO (pv 0) R))))) (Ze (Xc Xb f.Zf4 R R f.kT (Zc Zq))) ZJ) (Zi (ZH (Yx (Yy (Zr f.ZfE (Zqr f) I Zk (Zc (pv 3))))) (Ze Wy) ZJ) (Zi (NL PassesOwn.leaving R (Zcg R f.PH (Zc (pv 3))) (V9 (n:=2) R (Xk (ZZ 4 vO.nd) (Xk (ZZ 5 vO.nd) V8))) (Zi (Yg (Yz (pv 0) f.ZG f.kJ.me (Zqp f) (I.mono ()) f.kJ.b .nil Yh (Zc (pv 5)))) (Ze (ZH (PW.pt (ZaL (Ya Qi (pv 4) Zb) (ZaK (Yx (Yy (Zr f.ZfF (Zqm f) I Zk (Zv (pv 5) (ZE Yq (pv 3) (Zg VI (pv 4) Zb))))))))) (Ze Wy) ZJ)))) (Zi (Yg (Zr f.A9 (Rz f) I Yh (Zv (ZO (pv 0) R) (YA R f.ZnM)))) (Ze (QI (Uf I) (ZO (pv 0) R) (pv 1) (YX (Zv (pv 2) (Z5 L0 R f.J5 J4 (Zc (Xv (cl:=[]) (N:=["call"]) (fr:=[none]) R (Xl (pv 3)) R () R () trivial trivial R (λ_ _ _ _ _=>(ZZ 0 (show List.Nodup (["call"]:OC) by lia))) (λ_ _ _ _ _=>Xu) (λ_ _ _ _ _=>(Z5 (show YN _ (.type "tuple") (λxs H a0=>∃p ys,xs=[.ref p]/\((Zd K H p ys/\∀l,H l=none->a0 (.ref l) (upd H l (.tup ys)))\/(Zp K H p ys/\a0 (.ref p) H)))from L0) R f.J5 J4 (Zc (pv 0))))))))) R))))))),?_⟩];erw[⟨_,R,_,R,n,_,O,_,_,R,T,f.ZG,f.QN,M.fp,nv,a.dp,rows,R,U,hv,λc H1 u=>?_,λX c2 H1 u=>?_,λX c2 H1 u=>?_⟩];rw[c]at e;exact e _ R _ u;rw[X,c2]at e;exact e _ R _ u;rw[X,c2]at e q;erw[⟨_,R,_,R,n,_,O,_,_,R,u _ _ T,f.ZG,f.QM,M.fr,rv,Tr,a.dr,b0,R,kr.same u,u _ _ g0,_,R,?_⟩];cases c3:Lr b0 rv with
 |false=>rw[c3]at e;exact ZB () ⟨zL9 R,e _ R _ u⟩
 |true =>
 rw[c3]at e q;erw[Zn SO ?_];obtain⟨z,rfl,_⟩:=K9 X;obtain⟨y,_,rfl,_⟩:=VF ((U7 (λQ x (h:Y2 t H Q x)=>h.1) c0 rv).symm.trans c3);erw[⟨_,R,l,g,cs,R,u _ _ L,J.imp λ_ _=>YD.same u,l2,l6,λH2 s2=>⟨_,R,Zn () ?_⟩⟩];have S2:=u.trans s2;erw[⟨_,R,l,R,⟨_,Zd.of (S2 _ _ L)⟩,Zch (xs:=g) (λi B E=>Zf H E/\∃v4 v5:Option V,B=[some (.ref n),some (.str z),some (.str y),some (.ref l),v4,v5]) ⟨S2,_,_,R⟩ (λi B E _ ⟨s',_⟩=>Zd.of (s' _ _ L)) ?_ ?_⟩];rintro i v pp B H3 hx i0 ⟨C,v4,v5,rfl⟩;have D:=C.trans (Zx i0 (.tup [.int i,v]));obtain⟨c,ec,hc⟩:=J.get hx;have mc:=SK ec;erw[⟨pp,_,R,Zp.of Zh,R,_,_,R,_,_,R,R,?_⟩];erw[⟨_,R,n,O,_,R,D _ _ T,M.n_check_call,_,R,n,N,v,c,R,⟨a,S.same D⟩,hc.same D,ok.st c mc,(ok.rng c mc).1,(ok.rng c mc).2,?_⟩];erw[⟨_,R,_,_,R,R,_,R,?_⟩];by_cases ci:0<i;erw[ZB (SQ ()) ?_];obtain⟨j,rfl⟩:∃j,i=j+1:=⟨i - 1,()⟩;have hj:j<g.length:=by have:=(Sr.mp hx).1;lia
 obtain⟨k,ea,ha⟩:=J.get (Ss hj);have fo:=ok.fol j k c ea ec;have h0:Y9 g (((j+1:Nat):Int) - 1)=some g[j]:=by
  have:Y9 g (j:Int)=some g[j]:=Ue (Ss hj);rw[show(((j+1:Nat):Int) - 1)=(j:Int) by lia];exact this
 exact⟨_,R,_,R,_,R,_,_,R,R,l,_,_,_,R,R,Zd.of (D _ _ L),h0,v,_,_,_,R,hc.same D,ha.same D,fo.1,fo.2,_,R,Zn () ⟨D,_,_,R⟩⟩;exact Zn (by rw[SR ()];lia) (Zn () ⟨D,_,_,R⟩);rintro B H3 ⟨C,v4,v5,rfl⟩;erw[⟨_,R,n,_,O,_,_,R,C _ _ T,f.ZG,f.QN,M.fp,a.dp,rows,10,R,C _ _ U,λZ=>?_,λZ=>?_⟩]
 rotate_left
 rw[Z]at e;exact e _ R _ C;rw[Z]at q;erw[⟨_,R,_,R,l,R,⟨_,Zd.of (C _ _ L)⟩,Uh (K:=K) (a:=l) (xs:=g) (λi Y B E=>E=H3/\Y=g.take i/\∃v,B=[v]) ⟨R,R,_,R⟩ e0 (λi Y B E _ ⟨e,_⟩=>by rw[e];exact Zd.of (C _ _ L)) ?_ ?_⟩];rintro i y Y B E hi hy ⟨rfl,rfl,v,rfl⟩;obtain⟨c,ec,p,rfl,hp⟩:=J.get hy;dsimp only[YV,X2];rw[SV R];erw[⟨_,R,p,_,R,.inr ⟨Zp.of (C _ _ hp),?_⟩⟩];erw[⟨by rw[Su,Sw];lia,R,?_,_,R⟩];rw[SZ,hy];rfl;rintro Y B E ha ⟨rfl,rfl,v,rfl⟩ p hp;rw[List.take_length];have s5:=Zx hp (.lst g);erw[⟨p,_,R,.inl ⟨Zd.of Zh,λp2 d0=>?_⟩⟩];have s6:=Zx d0 (.tup g);erw[⟨zL9 R,λr f0=>?_⟩];have s7:=Zx f0 (.tup [.str y,.ref p2]);have G:=((C.trans s5).trans s6).trans s7;erw[⟨_,R,n,_,O,_,_,R,G _ _ T,f.ZG,f.QN,M.fp,_,R,a.dp,_,R,VR.k (k:=Sum.inr z) (G _ _ U) (Nat.lt_trans (SS Z) ()),?_⟩];exact q R _ (Nl G) ((S.same G).addTp (x:=⟨z,y,cs⟩) (G _ _ U) (h2.imp λ_ _=>Y8.same G) (RA c2) ⟨R,r,p2,g,R,Zh,s7 _ _ Zh,J.imp λ_ _=>YD.same G⟩)
def Ly{f:Type}{nm:f->Str}{R:ZF×V->f->Prop}(i:∀c x,R c x->c.1=Sum.inr (nm x)){rows:List (ZF×V)}{xs:List f}(h:Al R rows xs):(rows.map λc=>kV c.1)=(xs.map nm).map V.str:=by
 induction h with
 |nil=>rfl
 |cons a _ g=>rw[SM,SM,SM,g,i _ _ a];rfl
inductive RE(t:Z0)(f:ZD->List Str)(vs:List V)(H:Hp)(Q:VK)(_e3:XK):Prop|mk (n:Addr) (N:ZD) (_:vs=[.ref n]) (_:XJ t H n N) (_:∀l,H l=none->Q (.ref l) (upd H l (.lst ((f N).map V.str))))
def RF(c:Zs K mg t):Zl P w K mg base Zo 1 t.Zfb t.Zfc ["self"] (RE t λN=>N.st.map ZI.nm):=by
 erw[c.Qv.F.ok Znf () λG A outer s H D Q E C h=>?_];ext⟨n,N,rfl,⟨a,f⟩,q⟩ h;ext⟨u,fs,j,i⟩ f.ob;ext⟨rows,g,v⟩ f.st;erw[⟨_,(Ze (Zt (Z5 (G2 R) R c.XH XT (Zc (ZO (pv 0) R))))),?_⟩];erw[⟨_,R,n,_,u,_,_,R,j,c.ZG,c.QL,i.fs1,a.ds,rows,R,g,λl y=>?_⟩];rw[Ly (λB x (h:YF H B x)=>h.1) v];exact q l y
def RG(c:Zs K mg t):Zl P w K mg base Zo 1 t.Zff t.Zfg ["self"] (RE t λN=>N.ru.map Yd.nm):=by
 erw[c.Qw.F.ok Znh () λG A outer s H D Q E C h=>?_];ext⟨n,N,rfl,⟨a,f⟩,q⟩ h;ext⟨u,fs,j,i⟩ f.ob;ext⟨rows,g,v⟩ f.ru;erw[⟨_,(Ze (Zt (Z5 (G2 R) R c.XH XT (Zc (ZO (pv 0) R))))),?_⟩];erw[⟨_,R,n,_,u,_,_,R,j,c.ZG,c.QM,i.fr,a.dr,rows,R,g,λl y=>?_⟩];rw[Ly (λB x (h:Y2 t H B x)=>h.1) v];exact q l y
def gX(c:Zs K mg t):Zl P w K mg base Zo 1 t.Zfh t.Zfi ["self"] (RE t λN=>N.tk.map YE.nm):=by
 erw[c.B5.F.ok Zni () λG A outer s H D Q E C h=>?_];ext⟨n,N,rfl,⟨a,f⟩,q⟩ h;ext⟨u,fs,j,i⟩ f.ob;ext⟨rows,g,v⟩ f.tk;erw[⟨_,(Ze (Zt (Z5 (G2 R) R c.XH XT (Zc (ZO (pv 0) R))))),?_⟩];erw[⟨_,R,n,_,u,_,_,R,j,c.ZG,c.B7,i.ft,a.dt,rows,R,g,λl y=>?_⟩];rw[Ly (λB x (h:Xi H B x)=>h.1) v];exact q l y
def gY(c:Zs K mg t):Zl P w K mg base Zo 1 t.Zfj t.Zfk ["self"] (RE t λN=>N.tp.map Tp.nm):=by
 erw[c.B6.F.ok Znj () λG A outer s H D Q E C h=>?_];ext⟨n,N,rfl,⟨a,f⟩,q⟩ h;ext⟨u,fs,j,i⟩ f.ob;ext⟨rows,g,v⟩ f.tp;erw[⟨_,(Ze (Zt (Z5 (G2 R) R c.XH XT (Zc (ZO (pv 0) R))))),?_⟩];erw[⟨_,R,n,_,u,_,_,R,j,c.ZG,c.QN,i.fp,a.dp,rows,R,g,λl y=>?_⟩];rw[Ly (λB x (h:Y8 H B x)=>h.1) v];exact q l y
inductive Zqt(t:Z0)(vs:List V)(H:Hp)(Q:VK)(_e3:XK):Prop|mk (n:Addr) (N:ZD) (_:vs=[.ref n]) (_:XJ t H n N) (_:∀l xs,H l=none->Al (YL H) xs N.wk->Q (.ref l) (upd H l (.lst xs)))
def ZgN(c:Zs K mg t):Zl P w K mg base Zo 1 t.Zfd t.Zfe ["self"] (Zqt t):=by
 erw[c.MT.F.ok Zng () λD A outer s H C Q E B h=>?_];ext⟨n,N,rfl,⟨a,g⟩,q⟩ h;ext⟨v,fs,u,j⟩ g.ob;ext⟨f,i,x⟩ g.wk;erw[⟨_,(Ze (Zt (Z5 UP R c.XH XT (Zc (ZO (pv 0) R))))),?_⟩];exact⟨_,R,n,_,v,_,_,R,u,c.ZG,c.M8,j.fw,a.lw,f,R,.inl (Zd.of i),λl y=>q l f y x⟩
inductive ZgO(t:Z0)(f:ZI->Nat)(vs:List V)(H:Hp)(Q:VK)(E:XK):Prop|mk (n:Addr) (N:ZD) (v:V) (T:String) (_:vs=[.ref n,v]) (_:XJ t H n N) (_:Kd H v T) (_:(YM ZI.nm N.st v=false->E (.ref t.X4) none H)) (_:∀x,v=.str x.nm->Yw ZI.nm N.st x.nm=some x->Q (.int (f x:Nat)) H)
def ZgP(c:Zs K mg t):Zl P w K mg base (Yf P w) 3 t.Zfl t.Zfm ["self","stop"] (ZgO t ZI.z):=by
 erw[c.MU.F.okX Znk () λM A outer s H L Q E B h=>?_];ext⟨n,N,v,T,rfl,⟨a,g⟩,kd,e,q⟩ h;ext⟨j,fs,y,i⟩ g.ob;ext⟨rows,C,J⟩ g.st;erw[⟨_,(Zi (Yg (Yz (pv 0) c.ZG c.UB.me (No c) (B.mono ()) c.UB.b .nil Yh (Zc (pv 1)))) (Ze (Zt (ZE Yj (Wk B (ZO (pv 0) R) (pv 1)) Zb)))),?_⟩];erw[⟨_,R,n,j,_,R,y,i.n_check_stop,_,R,n,N,v,T,R,⟨a,g⟩,kd,λb=>?_,e⟩];obtain⟨z,x,rfl,f⟩:=VF b;obtain⟨u,I,_,r,G,D⟩:=(UF (λu x (h:YF H u x)=>h.1) J z).2 x f;erw[⟨_,R,n,_,j,_,_,R,y,c.ZG,c.QL,i.fs1,_,R,a.ds,_,R,.inl ⟨rows,Sum.inr z,.inl C,R,I.symm⟩,r,_,0,_,G,R,Zp.of D,R,?_⟩];exact q x (by rw[(WI f).2]) (Ls f)
def ZgQ(c:Zs K mg t):Zl P w K mg base (Yf P w) 3 t.Zfn t.Zfo ["self","stop"] (ZgO t ZI.ch):=by
 erw[c.MV.F.okX Znl () λM A outer s H L Q E B h=>?_];ext⟨n,N,v,T,rfl,⟨a,g⟩,kd,e,q⟩ h;ext⟨j,fs,y,i⟩ g.ob;ext⟨rows,C,J⟩ g.st;erw[⟨_,(Zi (Yg (Yz (pv 0) c.ZG c.UB.me (No c) (B.mono ()) c.UB.b .nil Yh (Zc (pv 1)))) (Ze (Zt (ZE Yj (Wk B (ZO (pv 0) R) (pv 1)) Zb)))),?_⟩];erw[⟨_,R,n,j,_,R,y,i.n_check_stop,_,R,n,N,v,T,R,⟨a,g⟩,kd,λb=>?_,e⟩];obtain⟨z,x,rfl,f⟩:=VF b;obtain⟨u,I,_,r,G,D⟩:=(UF (λu x (h:YF H u x)=>h.1) J z).2 x f;erw[⟨_,R,n,_,j,_,_,R,y,c.ZG,c.QL,i.fs1,_,R,a.ds,_,R,.inl ⟨rows,Sum.inr z,.inl C,R,I.symm⟩,r,_,1,_,G,R,Zp.of D,R,?_⟩];exact q x (by rw[(WI f).2]) (Ls f)
inductive Zqu(t:Z0)(vs:List V)(H:Hp)(Q:VK)(E:XK):Prop|mk (n:Addr) (N:ZD) (v:V) (T:String) (_:vs=[.ref n,v]) (_:XJ t H n N) (_:YS N) (_:Kd H v T) (_:(YM Yd.nm N.ru v=false->E (.ref t.Wq) none H)) (_:∀x,v=.str x.nm->Yw Yd.nm N.ru x.nm=some x->∀v' H',Zf H H'->U5 t H' v' x.r->Q v' H')
def ZgR(c:Zs K mg t):Zl P w K mg base (Yf P w) 44 t.Zfp t.Zfq ["self","name"] (Zqu t):=by
 erw[c.MW.F.okX Znm () λX A outer s H U Q E i h=>?_];ext⟨n,N,v,T,rfl,⟨a,B⟩,ok,kd,e,q⟩ h;ext⟨y,fs,C,u⟩ B.ob;ext⟨rows,j,D⟩ B.ru;have G:=U7 (λf x (h:Y2 t H f x)=>h.1) D v;erw[⟨_,(Zi (ZH (Yx (Yy (Zr c.J6 (Nh c) i Zk (Zv (pv 1) (ZO (pv 0) R))))) (Ze (Xc Xb c.Zf4 R R c.kT (Zc Zq))) ZJ) (Ze (Zt (Zr c.U0 (ZgH c) i Yh (Zc (Wk i (ZO (pv 0) R) (pv 1))))))),?_⟩];erw[⟨_,R,_,R,n,_,y,_,_,R,C,c.ZG,c.QM,u.fr,v,T,a.dr,rows,R,kd,j,_,R,?_⟩];rw[G];cases b:YM Yd.nm N.ru v with
 |false=>exact ZB () ⟨zL9 R,e b⟩
 |true =>
 erw[Zn SO ?_];obtain⟨z,x,rfl,g⟩:=VF b;obtain⟨f,L,_,M⟩:=(UF (λf x (h:Y2 t H f x)=>h.1) D z).2 x g;exact⟨_,R,n,_,y,_,_,R,C,c.ZG,c.QM,u.fr,_,R,a.dr,_,R,.inl ⟨rows,Sum.inr z,.inl j,R,L.symm⟩,f.2,some x.r,R,⟨M,(ok.ro x (WI g).1).2⟩,(),λr e I J O S=>by cases e;exact q x (by rw[(WI g).2]) (Ls g) I J O S⟩
def Zqv(G H:Hp)(v:V)(k:YE):Prop:=∃r l,v=.ref r/\H r=some (.tup [.int (k.pr:Nat),.int (k.la:Nat),.ref l])/\G l=none/\H l=some (.lst (ZN k.zs))
inductive Zqw(t:Z0)(vs:List V)(H:Hp)(Q:VK)(E:XK):Prop|mk (n:Addr) (N:ZD) (v:V) (T:String) (_:vs=[.ref n,v]) (_:XJ t H n N) (_:Kd H v T) (_:(YM YE.nm N.tk v=false->E (.ref t.Wr) none H)) (_:∀x,v=.str x.nm->Yw YE.nm N.tk x.nm=some x->∀v' H',Zf H H'->Zqv H H' v' x->Q v' H')
def ZgS(c:Zs K mg t):Zl P w K mg base (Yf P w) 3 t.Zfr t.Zfs ["self","name"] (Zqw t):=by
 erw[c.MX.F.okX Zc4 () λZ A outer s H Y Q E I h=>?_];ext⟨n,N,v,T,rfl,⟨a,C⟩,kd,e,q⟩ h;ext⟨y,fs,D,u⟩ C.ob;ext⟨rows,j,G⟩ C.tk;have L:=U7 (λf x (h:Xi H f x)=>h.1) G v;erw[⟨_,(Zi (ZH (Yx (Yy (Zr c.J6 (Nh c) I Zk (Zv (pv 1) (ZO (pv 0) R))))) (Ze (Xc Xb c.ZoY R R c.ZfZ (Zc Zq))) ZJ) (Zi (ZL 2 Zc4.nd (Wk I (ZO (pv 0) R) (pv 1))) (Ze (Zt (YX (Ym (ZE Yj (pv 2) Zb) (ZE Yj (pv 2) Zb) (Z5 UP R c.XH XT (Zc (ZE Yj (pv 2) Zb))))))))),?_⟩];erw[⟨_,R,_,R,n,_,y,_,_,R,D,c.ZG,c.B7,u.ft,v,T,a.dt,rows,R,kd,j,_,R,?_⟩];rw[L];cases b:YM YE.nm N.tk v with
 |false=>exact ZB () ⟨zL9 R,e b⟩
 |true =>
 erw[Zn SO ?_];obtain⟨z,x,rfl,i⟩:=VF b;obtain⟨f,B,_,r,X,M,g,O⟩:=(UF (λf x (h:Xi H f x)=>h.1) G z).2 x i;rw[M]at B;erw[⟨_,R,n,_,y,_,_,R,D,c.ZG,c.B7,u.ft,_,R,a.dt,_,R,.inl ⟨rows,Sum.inr z,.inl j,R,B.symm⟩,?_⟩];erw[⟨_,R,r,_,0,_,R,R,Zp.of g,R,_,R,r,_,1,_,R,R,Zp.of g,R,_,R,r,_,2,_,R,R,Zp.of g,R,X,_,R,.inr (Zp.of O),λl J=>⟨zL9 R,λp S=>?_⟩⟩];have U:=Zx J (.lst (ZN x.zs));have s2:=Zx S (.tup [.int (x.pr:Nat),.int (x.la:Nat),.ref l]);exact q x (by rw[(WI i).2]) (Ls i) _ _ (U.trans s2) ⟨p,l,R,Zh,J,s2 _ _ Zh⟩
inductive Zqx(t:Z0)(vs:List V)(H:Hp)(Q:VK)(E:XK):Prop|mk (n:Addr) (N:ZD) (v:V) (T:String) (_:vs=[.ref n,v]) (_:XJ t H n N) (_:Kd H v T) (_:(YM Tp.nm N.tp v=false->E (.ref t.XU) none H)) (_:∀x,v=.str x.nm->Yw Tp.nm N.tp x.nm=some x->Q (.str x.ru) H)
def ZgT(c:Zs K mg t):Zl P w K mg base (Yf P w) 3 t.Zft t.Zfu ["self","trip"] (Zqx t):=by
 erw[c.MY.F.okX Znn () λM A outer s H L Q E B h=>?_];ext⟨n,N,v,T,rfl,⟨a,g⟩,kd,e,q⟩ h;ext⟨j,fs,y,i⟩ g.ob;ext⟨rows,C,J⟩ g.tp;erw[⟨_,(Zi (Yg (Yz (pv 0) c.ZG c.MS.me (ZgM c) (B.mono ()) c.MS.b .nil Yh (Zc (pv 1)))) (Ze (Zt (ZE Yj (Wk B (ZO (pv 0) R) (pv 1)) Zb)))),?_⟩];erw[⟨_,R,n,j,_,R,y,i.n_check_trip,_,R,n,N,v,T,R,⟨a,g⟩,kd,λb=>?_,e⟩];obtain⟨z,x,rfl,f⟩:=VF b;obtain⟨u,I,_,r,S,O,G,D,_,_⟩:=(UF (λu x (h:Y8 H u x)=>h.1) J z).2 x f;erw[⟨_,R,n,_,j,_,_,R,y,c.ZG,c.QN,i.fp,_,R,a.dp,_,R,.inl ⟨rows,Sum.inr z,.inl C,R,I.symm⟩,r,_,0,_,G,R,Zp.of D,R,?_⟩];exact q x (by rw[(WI f).2]) (Ls f)
inductive Zqy(t:Z0)(vs:List V)(H:Hp)(Q:VK)(E:XK):Prop|mk (n:Addr) (N:ZD) (v:V) (T:String) (_:vs=[.ref n,v]) (_:XJ t H n N) (_:Kd H v T) (_:(YM Tp.nm N.tp v=false->E (.ref t.XU) none H)) (_:∀x,v=.str x.nm->Yw Tp.nm N.tp x.nm=some x->∀l us H',Zf H H'->H l=none->H' l=some (.lst us)->Al (YD H') us x.cs->Q (.ref l) H')
def ZgU(c:Zs K mg t):Zl P w K mg base (Yf P w) 3 t.Zfv t.Zfw ["self","trip"] (Zqy t):=by
 erw[c.MZ.F.okX Zno () λY A outer s H X Q E C h=>?_];ext⟨n,N,v,T,rfl,⟨a,g⟩,kd,e,q⟩ h;ext⟨j,fs,y,i⟩ g.ob;ext⟨rows,I,S⟩ g.tp;erw[⟨_,(Zi (Yg (Yz (pv 0) c.ZG c.MS.me (ZgM c) (C.mono ()) c.MS.b .nil Yh (Zc (pv 1)))) (Ze (Zt (Z5 UP R c.XH XT (Zc (ZE Yj (Wk C (ZO (pv 0) R) (pv 1)) Zb)))))),?_⟩];erw[⟨_,R,n,j,_,R,y,i.n_check_trip,_,R,n,N,v,T,R,⟨a,g⟩,kd,λb=>?_,e⟩];obtain⟨z,x,rfl,f⟩:=VF b;obtain⟨u,O,_,r,p,B,M,L,U,J⟩:=(UF (λu x (h:Y8 H u x)=>h.1) S z).2 x f;erw[⟨_,R,n,_,j,_,_,R,y,c.ZG,c.QN,i.fp,_,R,a.dp,_,R,.inl ⟨rows,Sum.inr z,.inl I,R,O.symm⟩,r,_,1,_,M,R,Zp.of L,R,p,_,R,.inr (Zp.of U),λl G=>?_⟩];have D:=Zx G (.lst B);exact q x (by rw[(WI f).2]) (Ls f) _ B _ D G Zh (J.imp λ_ _=>YD.same D)
def UH(a b:Nat):List Nat:=if a<b then [a,b] else if b<a then [b,a] else [a]
def gZ(ha:a<=hi)(f:b<=hi):Pc (UH a b) 0 hi:=by
 unfold UH;split
 ·next h=>exact⟨by show 1<=2;lia,by show 2<=12;lia,.cons (λx c=>by rwa[SE.mp c]) (List.pairwise_singleton _ _),λx c=>by simp only[SF,List.not_mem_nil,or_false]at c;lia⟩
 split
 ·next h=>exact⟨by show 1<=2;lia,by show 2<=12;lia,.cons (λx c=>by rwa[SE.mp c]) (List.pairwise_singleton _ _),λx c=>by simp only[SF,List.not_mem_nil,or_false]at c;lia⟩
 exact⟨by show 1<=1;lia,by show 1<=12;lia,List.pairwise_singleton _ _,λx c=>by simp only[SF,List.not_mem_nil,or_false]at c;lia⟩
def ZgV{zs:OE}{a b:Nat}{hi:Nat}(ha:a<=hi)(u:b<=hi)(i:zs.Pairwise (· < ·))(mem:∀z,z∈zs↔z∈[(a:Int),(b:Int)])(C:zs.length<=2):zs.map V.int=ZN (UH a b)/\Pc (UH a b) 0 hi:=by
 have sub:∀z∈zs,z=(a:Int)\/z=(b:Int):=λz v=>by
  have h:=(mem z).mp v;simpa only[SF,List.not_mem_nil,or_false]using h
 have f:=(mem (a:Nat)).mpr SD;have g:=(mem (b:Nat)).mpr (SB _ SD);have E:=gZ ha u;erw[⟨?_,E⟩];have B:zs=(UH a b).map λn=>((n:Nat):Int):=by
  match zs,i,sub,f,g,C with
  |[x],i,sub,f,g,_ =>
   have j:=SE.mp f;have D:=SE.mp g;unfold UH;rw[SU (),SU (),<-j];rfl
  |[x,y],i,sub,f,g,_ =>
   have G:=(List.pairwise_cons.mp i).1 y SD;have j:=sub x SD;have D:=sub y (SB _ SD);unfold UH;by_cases c:a<b;rw[SV c];have:x=(a:Int):=by lia
   have:y=(b:Int):=by lia
   subst x y;rfl;rw[SU c,SV ()];have:x=(b:Int):=by lia
   have:y=(a:Int):=by lia
   subst x y;rfl
 rw[B];unfold ZN;rw[Oe];rfl
def D2(wy m:Nat)(A B:RT):RT:=if wy=0 then .always else if wy=1 then .week (m%128)else if wy=3 then .each (4+m/16%25) (UH (m%4) (m/4%4))else if wy=2 then .span (m%20) (m%20+m/20%30) A else if wy=4 then .but (UH (m%9) (m/9%9)) A else if wy=5 then .either A B else .both A B
def Qx(d:Nat):Nat:=if d%3=0 then 0 else if d%3=1 then 1 else 3
def XX:Nat->Nat->RT
 |0,d=>D2 (Qx d) (d/7) .always .always
 |dp+1,d=>D2 (d%7) (d/7) (XX dp (d/7*48271%2147483647)) (XX dp (d/7*16807%2147483647))
def Zaa{A B:RT}(c:A.good)(f:B.good)(h:A.weight<=n)(g:B.weight<=n)(i:A.depth<=n)(j:B.depth<=n):(D2 wy m A B).good/\(D2 wy m A B).weight<=1+2*n/\(D2 wy m A B).depth<=1+n:=by
 unfold D2;split;exact⟨trivial,On _ _,On _ _⟩;split;exact⟨show m%128<=127 by lia,On _ _,On _ _⟩;split;exact⟨⟨(),(),gZ () ()⟩,On _ _,On _ _⟩;split;exact⟨⟨(),(),c⟩,by show 1+A.weight<=_;lia,by show 1+A.depth<=_;lia⟩;split;exact⟨⟨gZ () (),c⟩,by show 1+A.weight<=_;lia,by show 1+A.depth<=_;lia⟩;split;exact⟨⟨c,f⟩,by show 1+(A.weight+B.weight)<=_;lia,by show 1+max A.depth B.depth<=_;lia⟩;exact⟨⟨c,f⟩,by show 1+(A.weight+B.weight)<=_;lia,by show 1+max A.depth B.depth<=_;lia⟩
def ZgW(d:Nat):(XX 2 d).good/\(XX 2 d).weight<=15/\(XX 2 d).depth<=8:=by
 have g:∀d,(XX 0 d).good/\(XX 0 d).weight<=3/\(XX 0 d).depth<=3:=λd=>by
  obtain⟨a,b,c⟩:=Zaa (wy:=Qx d) (m:=d/7) (n:=1) (A:=.always) (B:=.always) trivial trivial (Sg _) (Sg _) (Sg _) (Sg _);exact⟨a,b,Sh c ()⟩
 have f:∀d,(XX 1 d).good/\(XX 1 d).weight<=7/\(XX 1 d).depth<=7:=λd=>by
  obtain⟨a,b,c⟩:=Zaa (wy:=d%7) (m:=d/7) (n:=3) (g _).1 (g _).1 (g _).2.1 (g _).2.1 (g _).2.2 (g _).2.2;exact⟨a,b,Sh c ()⟩
 exact Zaa (wy:=d%7) (m:=d/7) (n:=7) (f _).1 (f _).1 (f _).2.1 (f _).2.1 (f _).2.2 (f _).2.2
inductive Zqz(n:Nat)(vs:List V)(H:Hp)(Q:VK)(_e3:XK):Prop|mk (d deep:Nat) (_:vs=[.int d,.int deep]) (_:d<2147483647) (_:deep<n) (_:n<=3) (_:∀(r:RT) (v:V) (H':Hp),r=XX deep d->Zf H H'->r.good->r.weight+1<=2 ^ (deep+1)->r.depth<=deep+1->(∀tp,H tp≠none->Y7 tp H' v r)->Q v H')
def ZgX(u:Zs K mg t):∀n:Nat,Zl P w K mg base Zo (n+1) t.Zen t.Zeo ["_law_number","_law_deep"] (Zqz n):=by
 intro n;induction n with
 |zero =>
  erw[u.U1.F.ok J2 (λvs H b0 e0 h=>?_) (λl0 A outer s H vs b0 e0 Z h=>?_)];ext⟨d,deep,rfl,_⟩ h;rfl;ext⟨d,deep,rfl,_,h0,_⟩ h;lia
 |succ n ih =>
 erw[u.U1.F.ok J2 () λl0 A outer s H vs b0 e0 Z h=>?_];ext⟨d,deep,rfl,hd,m0,h3,q⟩ h;erw[⟨_,(Zi (ZL 2 J2.nd (Zg YO (pv 0) Zb)) (Qm (ZL 3 J2.nd (LP (Ya Qi (pv 1) Zb) (Zg ZY (pv 0) Zb) (ZE Yq (Z4 (Ym Zb Zb Zb)) (Zg ZY (pv 0) Zb)))) (Zi (ZH (Ya Yn (pv 3) Zb) (Ze (Zt (YX (Zc Zq)))) ZJ) (Zi (ZH (Ya Yn (pv 3) Zb) (Ze (Zt (YX (Zv Zq (Zg ZY (pv 2) Zb))))) ZJ) (Zi (ZH (Ya Yn (pv 3) Zb) (Zi (ZL 4 J2.nd (ZV (Zcb R) u.Zfy Zc6 (Zc (Z5 (Zca R) R u.Zfx Zc5 (Zc (Z4 (Zv (Zg ZY (pv 2) Zb) (Zg ZY (Zg YO (pv 2) Zb) Zb)))))))) (Ze (Zt (YX (Ym Zq (Zg Yr Zb (Zg ZY (Zg YO (pv 2) Zb) Zb)) (pv 4)))))) ZJ) (Zi (ZL 5 J2.nd (WU ih (Z.mono ()) R u.U1.m u.U1.F.kp u.U1.b .nil Zk (Zv (Zg ZY (Zg QA (pv 2) Zb) Zb) (Zg VI (pv 1) Zb)))) (Zi (ZH (Ya Yn (pv 3) Zb) (Ze (Zt (YX (Up Zq (Zg ZY (pv 2) Zb) (Zg Yr (Zg ZY (pv 2) Zb) (Zg ZY (Zg YO (pv 2) Zb) Zb)) (pv 5))))) ZJ) (Zi (ZH (Ya Yn (pv 3) Zb) (Ze (Zt (YX (Ym Zq (ZV (Zcb R) u.Zfy Zc6 (Zc (Z5 (Zca R) R u.Zfx Zc5 (Zc (Z4 (Zv (Zg ZY (pv 2) Zb) (Zg ZY (Zg YO (pv 2) Zb) Zb))))))) (pv 5))))) ZJ) (Ze (Zt (YX (Ym (ZE Yq (Z4 (Zv Zq Zq)) (Zg VI (pv 3) Zb)) (pv 5) (WU ih (Z.mono ()) R u.U1.m u.U1.F.kp u.U1.b .nil Zk (Zv (Zg ZY (Zg QA (pv 2) Zb) Zb) (Zg VI (pv 1) Zb))))))))))))))),?_⟩];sleep 2;erw[⟨_,R,_,_,R,R,⟨(),()⟩,?_⟩];have e7:(d:Int)/7=((d/7:Nat):Int):=by lia
 erw[⟨λk0 H'=>∃(f:Nat) (A B:RT),Zf H H'/\f<7/\(deep=0->f=0\/f=1\/f=3)/\(XX deep d=D2 f (d/7) A B/\∀dp,deep=dp+1->A=XX dp (d/7*48271%2147483647)/\B=XX dp (d/7*16807%2147483647))/\k0=[some (.int d),some (.int deep),some (.int ((d/7:Nat):Int)),some (.int (f:Nat)),none,none],?_,?_⟩];rw[<-e7];sleep 1;erw[⟨_,R,_,_,R,R,_,R,?_⟩];by_cases c:0<deep;erw[ZB (SQ ()) ⟨_,R,_,_,R,R,(),d%7,XX (deep - 1) (d/7*48271%2147483647),XX (deep - 1) (d/7*16807%2147483647),Zf.refl H,(),(),⟨by obtain⟨dp,rfl⟩:∃dp,deep=dp+1:=⟨deep - 1,()⟩;rfl,λdp e=>by rw[show deep - 1=dp by lia];exact⟨R,R⟩⟩,?_⟩];rw[show((d%7:Nat):Int)=(d:Int)%7 by lia];rfl;erw[Zn (by rw[SR ()];lia) ⟨zL9 R,λp g=>?_⟩];erw[⟨_,R,_,_,R,R,(),?_⟩];have ev:Y9 [V.int 0,.int 1,.int 3] ((d:Int)%3)=some (.int (Qx d:Nat)):=by
  unfold Qx;rcases(show d%3=0\/d%3=1\/d%3=2 by lia)with h|h|h<;>rw[show(d:Int)%3=((d%3:Nat):Int) by lia,h]<;>rfl
 have hw:Qx d=0\/Qx d=1\/Qx d=3:=by unfold Qx;split;exact .inl rfl;split;exact .inr (.inl R);exact .inr (.inr R)
 exact⟨p,_,_,_,R,R,Zd.of Zh,ev,Qx d,.always,.always,Zx g _,(),λ_=>hw,⟨by rw[show deep=0 by lia];rfl,λdp e=>by lia⟩,R⟩;rintro σ H1 ⟨f,i,E,G,hw,h0,⟨C,d0⟩,rfl⟩;have hm:d/7<306783379:=by lia
 generalize d/7=m at hm C d0;have I:∀k:Nat,decide (V.int (f:Int)=V.int ((k:Nat):Int))=true->f=k:=λk h=>by have:=V.int.inj (SS h);lia
 have p0:∀k:Nat,¬ decide (V.int (f:Int)=V.int ((k:Nat):Int))=true->f≠k:=λk h e=>h (by rw[e];exact SQ R);sleep 7;have a0:∀r:RT,r.weight=1->r.weight+1<=2 ^ (deep+1):=λr h=>by rw[h,Nat.pow_succ];have:=Nat.one_le_two_pow (n:=deep);lia
 erw[⟨_,R,R,_,R,Vl (λc0=>?_) (λn0=>?_)⟩];have c0:=I 0 c0;sleep 1;exact⟨zL9 R,λp g=>q .always _ _ (by rw[C,c0];rfl) (G.trans (Zx g _)) trivial (a0 _ R) (Om _ _) λtp _=>.always Zh⟩;sleep 1;erw[⟨_,R,R,_,R,Vl (λc1=>?_) (λn1=>?_)⟩];have c1:=I 1 c1;sleep 1;erw[⟨_,R,_,_,R,R,(),zL9 R,λp g=>?_⟩];erw[q (.week (m%128)) _ _ (by rw[C,c1];rfl) (G.trans (Zx g _)) (show m%128<=127 by lia) (a0 _ R) (Om _ _) λtp _=>.week ?_];rw[Zh,show((m%128:Nat):Int)=(m:Int)%128 by lia];have e4:∀k:Nat,(m:Int)%((k:Nat):Int)=((m%k:Nat):Int):=λk=>(SW m k).symm;have e5:∀j k:Nat,(m:Int)/((j:Nat):Int)%((k:Nat):Int)=((m/j%k:Nat):Int):=λj k=>by rw[SW,SX]
 erw[⟨_,R,R,_,R,Vl (λc3=>?_) (λT=>?_)⟩];have c3:=I 3 c3;sleep 2;erw[⟨_,R,_,_,R,R,(),_,R,_,_,R,R,⟨(),()⟩,_,_,R,R,(),zL9 R,λO g1=>?_⟩];have D:=Zx g1 (.lst [.int ((m:Int)%4),.int ((m:Int)/4%4)]);erw[⟨O,[(m:Int)%4,(m:Int)/4%4],R,Zd.of Zh,by show 2<=1000;lia,λQ g2=>?_⟩];have t2:=D.trans (Zx g2 (Mn P w Q [(m:Int)%4,(m:Int)/4%4]));erw[⟨Q,_,R,Zh,by show 2<64;lia,λL zs g3 pw mem X=>?_⟩];have t3:=Zx g3 (.lst (zs.map V.int));have Y:=(G.trans t2).free g3;erw[⟨_,R,_,_,R,R,⟨(),()⟩,_,_,R,R,(),_,_,R,R,_,R,zL9 R,λp4 g4=>?_⟩];have y:=Zx g4 (.tup [.str (OK "each"),.int (4+(m:Int)/16%25),.ref L]);obtain⟨es,rs⟩:=ZgV (a:=m%4) (b:=m/4%4) (hi:=3+m/16%25) () () pw (λz=>by rw[mem,<-e4 4,<-e5 4 4];exact Iff.rfl) X;erw[q (.each (4+m/16%25) (UH (m%4) (m/4%4))) _ _ (by rw[C,c3];rfl) (((G.trans t2).trans t3).trans y) ⟨(),(),by rw[show 4+m/16%25 - 1=3+m/16%25 by lia];exact rs⟩ (a0 _ R) (Om _ _) λtp x=>.each (l:=L) ?_ ?_ λe=>x (e ▸ Y)];rw[Zh,show((4+m/16%25:Nat):Int)=4+(m:Int)/16%25 by lia];exact y _ _ (by rw[Zh,es]);have d1:1<=deep:=by
  rcases Nat.eq_zero_or_pos deep with h|h;have:=h0 h;have n0:¬ (f:Int)=0:=λe=>n0 (by rw[Ua];simpa using e);have n1:¬ (f:Int)=1:=λe=>n1 (by rw[Ua];simpa using e);have T:¬ (f:Int)=3:=λe=>T (by rw[Ua];simpa using e);lia;exact h
 obtain⟨dp,rfl⟩:∃dp,deep=dp+1:=⟨deep - 1,()⟩;have er:∀c:Nat,(m:Int)*((c:Nat):Int)%2147483647=((m*c%2147483647:Nat):Int):=λc=>by rw[SW,Int.natCast_mul];rfl
 have ea:∀c:Nat,[V.int ((m:Int)*((c:Nat):Int)%2147483647),V.int (((dp+1:Nat):Int) - 1)]=[.int ((m*c%2147483647:Nat):Int),.int (dp:Int)]:=λc=>by rw[er c,show((dp+1:Nat):Int) - 1=(dp:Int) by lia]
 have lt:∀c:Nat,m*c%2147483647<2147483647:=λc=>Oo _ ();erw[⟨_,R,_,_,R,R,.inr ⟨(),()⟩,_,_,R,R,(),_,R,_,_,R,R,m*48271%2147483647,dp,ea 48271,lt _,(),(),λr v H2 i0 s2 g2 w2 p2 T2=>?_⟩];obtain⟨eA,eB⟩:=d0 dp R;rw[<-i0]at eA;subst eA;have J:=G.trans s2;have S:∀tp,H tp≠none->Y7 tp H2 v i:=λtp h=>T2 tp λe=>h (G.free e);have o0:2 ^ (dp+1+1)=2*2 ^ (dp+1):=by rw[Nat.pow_succ,Nat.mul_comm]
 erw[⟨_,R,R,_,R,Vl (λc2=>?_) (λn2=>?_)⟩];have c2:=I 2 c2;sleep 1;erw[⟨_,R,_,_,R,R,(),_,R,_,_,R,R,(),_,R,_,_,R,R,⟨(),()⟩,_,_,R,R,(),_,_,R,R,_,R,zL9 R,λp g=>?_⟩];have t3:=Zx g (.tup [.str (OK "span"),.int ((m:Int)%20),.int ((m:Int)%20+(m:Int)/20%30),v]);erw[q (.span (m%20) (m%20+m/20%30) i) _ _ (by rw[C,c2];rfl) (J.trans t3) ⟨(),(),g2⟩ (by show 1+i.weight+1<=_;lia) (by show 1+i.depth<=_;lia) λtp x=>.span (v:=v) ?_ ((S tp x).same t3)];rw[Zh,show((m%20+m/20%30:Nat):Int)=(m:Int)%20+(m:Int)/20%30 by lia,show((m%20:Nat):Int)=(m:Int)%20 by lia];erw[⟨_,R,R,_,R,Vl (λU=>?_) (λn4=>?_)⟩];have U:=I 4 U;sleep 1;erw[⟨_,R,_,_,R,R,(),_,R,_,_,R,R,⟨(),()⟩,_,_,R,R,(),zL9 R,λO g1=>?_⟩];have D:=Zx g1 (.lst [.int ((m:Int)%9),.int ((m:Int)/9%9)]);erw[⟨O,[(m:Int)%9,(m:Int)/9%9],R,Zd.of Zh,by show 2<=1000;lia,λQ g3=>?_⟩];have t2:=D.trans (Zx g3 (Mn P w Q [(m:Int)%9,(m:Int)/9%9]));erw[⟨Q,_,R,Zh,by show 2<64;lia,λL zs g4 pw mem X=>?_⟩];have t3:=Zx g4 (.lst (zs.map V.int));have Y:=(J.trans t2).free g4;erw[⟨_,R,zL9 R,λp4 g5=>?_⟩];have y:=Zx g5 (.tup [.str (OK "but"),.ref L,v]);obtain⟨es,rs⟩:=ZgV (a:=m%9) (b:=m/9%9) (hi:=9999) () () pw (λz=>by rw[mem,<-e4 9,<-e5 9 9];exact Iff.rfl) X;erw[q (.but (UH (m%9) (m/9%9)) i) _ _ (by rw[C,U];rfl) (((J.trans t2).trans t3).trans y) ⟨rs,g2⟩ (by show 1+i.weight+1<=_;lia) (by show 1+i.depth<=_;lia) λtp x=>.but (l:=L) Zh ?_ (λe=>x (e ▸ Y)) ((S tp x).same ((t2.trans t3).trans y))];exact y _ _ (by rw[Zh,es]);have j0:f=5\/f=6:=by
  have h0:¬ (f:Int)=0:=λe=>n0 (by rw[Ua];simpa using e);have h1:¬ (f:Int)=1:=λe=>n1 (by rw[Ua];simpa using e);have h2:¬ (f:Int)=2:=λe=>n2 (by rw[Ua];simpa using e);have h3:¬ (f:Int)=3:=λe=>T (by rw[Ua];simpa using e);have h4:¬ (f:Int)=4:=λe=>n4 (by rw[Ua];simpa using e);lia
 erw[⟨zL9 R,λO g1=>?_⟩];have D:=Zx g1 (.lst [.str (OK "either"),.str (OK "both")]);obtain⟨M,ek,hk⟩:∃M,Y9 [V.str (OK "either"),V.str (OK "both")] ((f:Int) - 5)=some M/\((M=.str (OK "either")/\f=5)\/(M=.str (OK "both")/\f=6)):=by
  rcases j0 with rfl|rfl;exact⟨_,R,.inl ⟨R,R⟩⟩;exact⟨_,R,.inr ⟨R,R⟩⟩
 erw[⟨_,R,_,_,R,R,O,_,_,_,R,R,Zd.of Zh,ek,_,R,?_⟩];erw[⟨_,R,_,_,R,R,.inr ⟨(),()⟩,_,_,R,R,(),_,R,_,_,R,R,m*16807%2147483647,dp,ea 16807,lt _,(),(),λr3 v3 H3 g0 s3 g3 w3 p3 T3=>?_⟩];rw[<-g0]at eB;subst eB;erw[⟨zL9 R,λp4 g4=>?_⟩];have y:=Zx g4 (.tup [M,v,v3]);have f0:∀tp,H tp≠none->Y7 tp H3 v3 E:=λtp h=>T3 tp λe=>h ((J.trans D).free e);have S4:=((J.trans D).trans s3).trans y;rcases hk with⟨rfl,w5⟩|⟨rfl,w5⟩;exact q (.either i E) _ _ (by rw[C,w5];rfl) S4 ⟨g2,g3⟩ (by show 1+(i.weight+E.weight)+1<=_;lia) (by show 1+max i.depth E.depth<=_;lia) λtp x=>.either Zh ((S tp x).same ((D.trans s3).trans y)) ((f0 tp x).same y);exact q (.both i E) _ _ (by rw[C,w5];rfl) S4 ⟨g2,g3⟩ (by show 1+(i.weight+E.weight)+1<=_;lia) (by show 1+max i.depth E.depth<=_;lia) λtp x=>.both Zh ((S tp x).same ((D.trans s3).trans y)) ((f0 tp x).same y)
inductive ZqA(c:RC)(K:Ox)(n:Nat)(vs:List V)(H:Hp)(Q:VK)(_e3:XK):Prop|mk (tp:Addr) (v:V) (r:RT) (_:vs=[v]) (_:Y7 tp H v r) (_:r.good) (_:r.weight<=15) (_:r.depth<=8) (_:r.depth<=n) (_:∀b H',Zf H H'->ZP c K H' b r->Q (.ref b) H')
def ZgY(f:Zs K mg t):∀n:Nat,Zl P w K mg base Zo (n+42) t.Zep t.Zeq ["_law_told"] (ZqA (rc t) K n):=by
 intro n;induction n with
 |zero =>
  erw[f.Xz.F.ok ZcN (λvs b0 d0 c0 h=>?_) (λe0 A outer s b0 vs d0 c0 u h=>?_)];ext⟨tp,v,r,rfl,_⟩ h;rfl;ext⟨tp,v,r,rfl,h,g,O,J,hd,_⟩ h;have:=r.depth_pos;lia
 |succ n I =>
 erw[f.Xz.F.ok ZcN () λe0 A outer s b0 vs d0 c0 u h=>?_];ext⟨tp,v,r,rfl,h,g,O,J,hd,q⟩ h;erw[⟨_,(Zi (ZH (Ya Yn (ZE Yj (pv 0) Zb) Zq) (Ze (Zt (N8 f.Rk R f.B8))) ZJ) (Zi (ZH (Ya Yn (ZE Yj (pv 0) Zb) Zq) (Ze (Zt (We f.kL (Zgz f) (u.mono ()) R f.kW f.PV.b .nil Zk (Zc (ZE Yj (pv 0) Zb))))) ZJ) (Zi (ZH (Ya Yn (ZE Yj (pv 0) Zb) Zq) (Ze (Zt (We f.kO (ZgA f) (u.mono ()) R f.kY f.P6.b .nil Zk (Zv (ZE Yj (pv 0) Zb) (Z5 UP R f.XH XT (Zc (ZE Yj (pv 0) Zb))))))) ZJ) (Zi (ZH (Ya Yn (ZE Yj (pv 0) Zb) Zq) (Ze (Zt (We f.kN (Zgv f) (u.mono ()) R f.kX f.PX.b .nil Zk (Ym (ZE Yj (pv 0) Zb) (ZE Yj (pv 0) Zb) (WU I (u.mono ()) R f.Xz.m f.Xz.F.kp f.Xz.b .nil Zk (Zc (ZE Yj (pv 0) Zb))))))) ZJ) (Zi (ZH (Ya Yn (ZE Yj (pv 0) Zb) Zq) (Ze (Zt (We f.kR (Zgw f) (u.mono ()) R f.gB f.Rg.b .nil Zk (Zv (Z5 UP R f.XH XT (Zc (ZE Yj (pv 0) Zb))) (WU I (u.mono ()) R f.Xz.m f.Xz.F.kp f.Xz.b .nil Zk (Zc (ZE Yj (pv 0) Zb))))))) ZJ) (Zi (ZH (Ya Yn (ZE Yj (pv 0) Zb) Zq) (Ze (Zt (We f.kP (Zgx f) (u.mono ()) R f.kZ f.P7.b .nil Zk (Zv (WU I (u.mono ()) R f.Xz.m f.Xz.F.kp f.Xz.b .nil Zk (Zc (ZE Yj (pv 0) Zb))) (WU I (u.mono ()) R f.Xz.m f.Xz.F.kp f.Xz.b .nil Zk (Zc (ZE Yj (pv 0) Zb))))))) ZJ) (Ze (Zt (We f.kQ (Zgy f) (u.mono ()) R f.gA f.Rb.b .nil Zk (Zv (WU I (u.mono ()) R f.Xz.m f.Xz.F.kp f.Xz.b .nil Zk (Zc (ZE Yj (pv 0) Zb))) (WU I (u.mono ()) R f.Xz.m f.Xz.F.kp f.Xz.b .nil Zk (Zc (ZE Yj (pv 0) Zb))))))))))))),?_⟩];cases h with
 |always h =>
  erw[⟨_,R,_,_,0,_,R,R,Zp.of h,R,R,_,R,ZB () ?_⟩];exact λx H nx nd G=>q x _ (Xp nx (Xp nd (Zf.refl _) _) _) (.always Zh)
 |week h =>
  erw[⟨_,R,_,_,0,_,R,R,Zp.of h,R,R,_,R,Zn () ?_⟩];erw[⟨_,R,_,_,0,_,R,R,Zp.of h,R,R,_,R,ZB () ?_⟩];exact⟨_,R,_,_,1,_,R,R,Zp.of h,R,λx H nx nd G=>⟨x,b0,_,R,Wu nx nd,g,λy B C=>⟨R,q x y B (C.same (WE _ _))⟩⟩⟩
 |each h hl ne =>
  rename_i a l m ss;erw[⟨_,R,_,_,0,_,R,R,Zp.of h,R,R,_,R,Zn () ?_⟩];erw[⟨_,R,_,_,0,_,R,R,Zp.of h,R,R,_,R,Zn () ?_⟩];erw[⟨_,R,_,_,0,_,R,R,Zp.of h,R,R,_,R,ZB () ?_⟩];erw[⟨_,R,_,_,1,_,R,R,Zp.of h,R,_,R,_,_,2,_,R,R,Zp.of h,R,l,_,R,.inl (Zd.of hl),λp Z x H nx nd G=>?_⟩];have i:=Zx Z (.lst (ZN ss));exact⟨x,p,_,_,_,R,Wu nx nd,Zh,g,λy B C=>⟨R,q x y (i.trans B) (C.same (WE _ _))⟩⟩
 |span h E =>
  rename_i a U Q v r;have ed:(RT.span U Q r).depth=1+r.depth:=rfl;have T:(RT.span U Q r).weight=1+r.weight:=rfl;erw[⟨_,R,_,_,0,_,R,R,Zp.of h,R,R,_,R,Zn () ?_⟩];erw[⟨_,R,_,_,0,_,R,R,Zp.of h,R,R,_,R,Zn () ?_⟩];erw[⟨_,R,_,_,0,_,R,R,Zp.of h,R,R,_,R,Zn () ?_⟩];erw[⟨_,R,_,_,0,_,R,R,Zp.of h,R,R,_,R,ZB () ?_⟩];erw[⟨_,R,_,_,1,_,R,R,Zp.of h,R,_,R,_,_,2,_,R,R,Zp.of h,R,_,R,_,_,3,_,R,R,Zp.of h,R,tp,v,r,R,E,g.2.2,(),(),(),λb Y i D=>?_⟩];exact λx H nx nd G=>⟨x,b,Y,U,Q,r,R,Wu nx nd,D,g,O,J,(),λy B C=>⟨R,q x y (i.trans B) (C.same (WE _ _))⟩⟩
 |but h hl ne E =>
  rename_i a l ds v r;have ed:(RT.but ds r).depth=1+r.depth:=rfl;have T:(RT.but ds r).weight=1+r.weight:=rfl;erw[⟨_,R,_,_,0,_,R,R,Zp.of h,R,R,_,R,Zn () ?_⟩];erw[⟨_,R,_,_,0,_,R,R,Zp.of h,R,R,_,R,Zn () ?_⟩];erw[⟨_,R,_,_,0,_,R,R,Zp.of h,R,R,_,R,Zn () ?_⟩];erw[⟨_,R,_,_,0,_,R,R,Zp.of h,R,R,_,R,Zn () ?_⟩];erw[⟨_,R,_,_,0,_,R,R,Zp.of h,R,R,_,R,ZB () ?_⟩];erw[⟨_,R,_,_,1,_,R,R,Zp.of h,R,l,_,R,.inl (Zd.of hl),λp Z=>?_⟩];have i:=Zx Z (.lst (ZN ds));have D:=i _ _ h;erw[⟨_,R,_,_,2,_,R,R,Zp.of D,R,tp,v,r,R,E.same i,g.2,(),(),(),λb L s2 M=>?_⟩];exact λx H nx nd G=>⟨x,p,b,L,ds,r,R,Wu nx nd,s2 _ _ Zh,M,g,O,J,(),λy B C=>⟨R,q x y ((i.trans s2).trans B) (C.same (WE _ _))⟩⟩
 |either h E S =>
  rename_i a v a0 r j;have ed:(RT.either r j).depth=1+max r.depth j.depth:=rfl;have T:(RT.either r j).weight=1+(r.weight+j.weight):=rfl;erw[⟨_,R,_,_,0,_,R,R,Zp.of h,R,R,_,R,Zn () ?_⟩];erw[⟨_,R,_,_,0,_,R,R,Zp.of h,R,R,_,R,Zn () ?_⟩];erw[⟨_,R,_,_,0,_,R,R,Zp.of h,R,R,_,R,Zn () ?_⟩];erw[⟨_,R,_,_,0,_,R,R,Zp.of h,R,R,_,R,Zn () ?_⟩];erw[⟨_,R,_,_,0,_,R,R,Zp.of h,R,R,_,R,Zn () ?_⟩];erw[⟨_,R,_,_,0,_,R,R,Zp.of h,R,R,_,R,ZB () ?_⟩];erw[⟨_,R,_,_,1,_,R,R,Zp.of h,R,tp,v,r,R,E,g.1,(),(),(),λb Y i D=>?_⟩];have M:=i _ _ h;erw[⟨_,R,_,_,2,_,R,R,Zp.of M,R,tp,a0,j,R,S.same i,g.2,(),(),(),λc L s2 X=>?_⟩];exact λx H nx nd G=>⟨x,b,c,L,r,j,R,Wu nx nd,D.same s2,X,g,O,J,(),(),λy B C=>⟨R,q x y ((i.trans s2).trans B) (C.same (WE _ _))⟩⟩
 |both h E S =>
  rename_i a v a0 r j;have ed:(RT.both r j).depth=1+max r.depth j.depth:=rfl;have T:(RT.both r j).weight=1+(r.weight+j.weight):=rfl;erw[⟨_,R,_,_,0,_,R,R,Zp.of h,R,R,_,R,Zn () ?_⟩];erw[⟨_,R,_,_,0,_,R,R,Zp.of h,R,R,_,R,Zn () ?_⟩];erw[⟨_,R,_,_,0,_,R,R,Zp.of h,R,R,_,R,Zn () ?_⟩];erw[⟨_,R,_,_,0,_,R,R,Zp.of h,R,R,_,R,Zn () ?_⟩];erw[⟨_,R,_,_,0,_,R,R,Zp.of h,R,R,_,R,Zn () ?_⟩];erw[⟨_,R,_,_,0,_,R,R,Zp.of h,R,R,_,R,Zn () ?_⟩];erw[⟨_,R,_,_,1,_,R,R,Zp.of h,R,tp,v,r,R,E,g.1,(),(),(),λb Y i D=>?_⟩];have M:=i _ _ h;erw[⟨_,R,_,_,2,_,R,R,Zp.of M,R,tp,a0,j,R,S.same i,g.2,(),(),(),λc L s2 X=>?_⟩];exact λx H nx nd G=>⟨x,b,c,L,r,j,R,Wu nx nd,D.same s2,X,g,O,J,(),(),λy B C=>⟨R,q x y ((i.trans s2).trans B) (C.same (WE _ _))⟩⟩
def Z1(g:H p=none)(e:upd H p o=c):Zf H c:=e ▸ Zx g o
def ZX(e:upd H p o=c):c p=some o:=e ▸ Zh
local macro_rules|`(tactic|exists $a,$b,$c:ident,$d:ident,$e,$f:ident)=>`(tactic|(generalize hE:upd $a $b _=$c;have $d:ident:=Z1 $e hE;have $f:ident:=ZX hE;clear hE))
structure ZqB(kvs:List (ZF×V))(a:NA):Prop where
 s:YC kvs (Sum.inr (OK "stops"))=some (.ref a.ds)
 w:YC kvs (Sum.inr (OK "walks"))=some (.ref a.lw)
 r:YC kvs (Sum.inr (OK "rules"))=some (.ref a.dr)
 t:YC kvs (Sum.inr (OK "tickets"))=some (.ref a.dt)
 p:YC kvs (Sum.inr (OK "trips"))=some (.ref a.dp)
def WT(H:Hp)(c:ZF×V)(k:Yd):Prop:=c.1=Sum.inr k.nm/\∃tp,Y7 tp H c.2 k.r
def WT.same(s:Zf H f)(h:WT H c k):WT f c k:=let ⟨e,tp,h⟩:=h;⟨e,tp,h.same s⟩
def Vb(H:Hp)(c:ZF×V)(k:YE):Prop:=c.1=Sum.inr k.nm/\∃r z,c.2=.ref r/\H r=some (.tup [.int (k.pr:Nat),.int (k.la:Nat),.ref z])/\H z=some (.lst (ZN k.zs))
def Vb.same(s:Zf H f)(h:Vb H c k):Vb f c k:=let ⟨e,r,z,e1,e2,e3⟩:=h;⟨e,r,z,e1,s _ _ e2,s _ _ e3⟩
def Vc(H:Hp)(f:ZF×V)(k:Tp):Prop:=f.1=Sum.inr k.nm/\∃r l c,f.2=.ref r/\H r=some (.tup [.str k.ru,.ref l])/\H l=some (.lst c)/\Al (YD H) c k.cs
def Vc.same(s:Zf H f)(h:Vc H c k):Vc f c k:=let ⟨e,r,l,vs,e1,e2,e3,e4⟩:=h;⟨e,r,l,vs,e1,s _ _ e2,s _ _ e3,e4.imp λ_ _=>YD.same s⟩
structure Y3(H:Hp)(wd:Addr)(a:NA)(W:ZD):Prop where
 ob:∃kvs,H wd=some (.dK kvs)/\ZqB kvs a
 ap:ZgJ a
 st:∃rows,H a.ds=some (.dK rows)/\Al (YF H) rows W.st
 wk:∃vs,H a.lw=some (.lst vs)/\Al (YL H) vs W.wk
 ru:∃rows,H a.dr=some (.dK rows)/\Al (WT H) rows W.ru
 tk:∃rows,H a.dt=some (.dK rows)/\Al (Vb H) rows W.tk
 tp:∃rows,H a.dp=some (.dK rows)/\Al (Vc H) rows W.tp
def Y3.same{W:ZD}(s:Zf H c)(h:Y3 H n a W):Y3 c n a W:=by
 ext⟨⟨u,C,i⟩,ap,⟨r1,G,E⟩,⟨J,j,y⟩,⟨D,L,f⟩,⟨r3,g,v⟩,⟨I,B,x⟩⟩ h;exact⟨⟨u,s _ _ C,i⟩,ap,⟨r1,s _ _ G,E.imp λ_ _=>YF.same s⟩,⟨J,s _ _ j,y.imp λ_ _=>YL.same s⟩,⟨D,s _ _ L,f.imp λ_ _=>WT.same s⟩,⟨r3,s _ _ g,v.imp λ_ _=>Vb.same s⟩,⟨I,s _ _ B,x.imp λ_ _=>Vc.same s⟩⟩
def ZqC:Sp:=λf H Q _=>f=[]/\∀wd a c,Zf H c->H wd=none->U6 H a->(wd≠a.ds/\wd≠a.dr/\wd≠a.dt/\wd≠a.dp)->Y3 c wd a ⟨[],[],[],[],[]⟩->Q (.ref wd) c
def ZqD(L:Zs K mg t):Zl P w K mg base Zo 1 t.Zet t.Zeu [] ZqC:=by
 erw[L.PR.F.ok ZmM () λj0 A outer s i0 vs m0 l0 hr h=>?_];ext⟨rfl,q⟩ h;erw[⟨_,(Ze (Zt (ZkZ (Mt Zq QD (Mt Zq (Z4 YZ) (Mt Zq QD (Mt Zq QD (Mt Zq QD ZkX))))) R R (λh=>nomatch h) ()))),?_⟩];sleep 1;intro p D;exists i0,p,Q,v,D,x;erw[λj g1=>?_];exists Q,j,H1,g,g1,y;erw[⟨zL9 R,λB g2=>?_⟩];exists H1,B,H2,s2,g2,c2;erw[λp3 g3=>?_];exists H2,p3,Y,f,g3,C;erw[λu g4=>?_];exists Y,u,O,i,g4,E;erw[λn g5=>?_];exists O,n,H5,s5,g5,c5;have k0:=s5 _ _ (i _ _ (f _ _ (s2 _ _ (g _ _ x))));have X:=s5 _ _ (i _ _ (f _ _ (s2 _ _ y)));have S:=s5 _ _ (i _ _ (f _ _ c2));have k3:=s5 _ _ (i _ _ C);have k4:=s5 _ _ E;have U:=v.free g1;have n2:=(v.trans g).free g2;have M:=((v.trans g).trans s2).free g3;have n4:=(((v.trans g).trans s2).trans f).free g4;have T:=((((v.trans g).trans s2).trans f).trans i).free g5;have H:p≠j:=ZR x g1;have Z:p≠B:=ZR (g _ _ x) g2;have J:p≠p3:=ZR (s2 _ _ (g _ _ x)) g3;have G:p≠u:=ZR (f _ _ (s2 _ _ (g _ _ x))) g4;have I:p≠n:=ZR (i _ _ (f _ _ (s2 _ _ (g _ _ x)))) g5;have g0:j≠p3:=ZR (s2 _ _ y) g3;have e0:j≠u:=ZR (f _ _ (s2 _ _ y)) g4;have b0:j≠n:=ZR (i _ _ (f _ _ (s2 _ _ y))) g5;have a0:p3≠u:=ZR C g4;have h0:p3≠n:=ZR (i _ _ C) g5;have f0:u≠n:=ZR E g5;erw[⟨k0,[(Sum.inr (OK "stops"),.ref j),(Sum.inr (OK "walks"),.ref B),(Sum.inr (OK "rules"),.ref p3),(Sum.inr (OK "tickets"),.ref u),(Sum.inr (OK "trips"),.ref n)],R,by show 5<=15;lia,?_⟩];have d0:=((((v.trans g).trans s2).trans f).trans i).trans s5;erw[q p ⟨j,B,p3,u,n⟩ _ (W0 d0 D _) D ⟨U,n2,M,n4,T⟩ ⟨H,J,G,I⟩ ⟨⟨_,Zh,⟨R,R,R,R,R⟩⟩,⟨g0,e0,b0,a0,h0,f0⟩,⟨[],by rwa[Zj H.symm],.nil⟩,⟨[],by rwa[Zj Z.symm],.nil⟩,⟨[],by rwa[Zj J.symm],.nil⟩,⟨[],by rwa[Zj G.symm],.nil⟩,⟨[],by rwa[Zj I.symm],.nil⟩⟩]
def wl(b:Bool)(w:Str):List V:=match b with
 |true=>[.str w]
 |false=>[]
def Lz(b:Bool)(w:Str):(wl b w).length<=1:=by
 cases b;exact Sk _;exact Sg _
def LA(t:TE)(f:St)(G:Hp->Prop)(L:List V):Prop:=∀H Q,G H->(∀p c,Zf H c->c p=some (.lst L)->Q (.ref p) c)->t f H Q
def Np{f c:List V}(v:∀H i,Zf H i->G H->G i)(D:f.length+c.length<=sizeLine)(h1:LA j h G f)(C:LA t2 h G c):LA (Vz NW j t2) h G (f++c):=λH Q g k=>h1 H _ g λx B n y=>C B _ (v _ _ n g) λE J s2 u =>
 ⟨x,E,_,_,R,R,s2 _ _ y,u,D,λp I=>k p _ ((n.trans s2).trans (Zx I _)) Zh⟩
def ZgZ(f:c[i]? = some (some (.ref l)))(h:∀H,G H->H l=some (.lst L)):LA (Qz i) c G L:=λH Q g k=>⟨_,f,k l H (Zf.refl H) (h H g)⟩
def Nq{w:Str}(n:h[i]? = some (some (.ref a)))(v:∀H,G H->H a=some (WC a (.ref C)))(ex:YP c C)(x:W.kitOne c (.ref C) (.ref D)=some b) :
  LA (Vz Mc (LW (Yt (tC (.str w)) Y5)) (Uc (λxs H Q=>∃b,xs=[.bl b]/\Q (.int (if b=true then 1 else 0)) H) (Yt (Uc (Pr c) (Yt (Qz i) (Yt (tC (.ref D)) Y5))) Y5))) h G (wl b w):=λH Q g k=>by
 erw[⟨zL9 R,λj g1=>?_⟩];have f:=Zx g1 (.lst [.str w]);erw[⟨_,n,a,C,D,b,R,f _ _ (v H g),ex,x,b,R,j,_,_,R,R,Zh,?_,?_,?_,λu g2=>?_⟩];cases b<;>decide
 cases b<;>decide
 cases b;show 1*0<=sizeLine;lia;show 1*1<=sizeLine;lia;erw[k u _ (f.trans (Zx g2 _)) ?_];rw[Zh];cases b<;>rfl
def ZqE{w:Str}(n:h[i]? = some (some (.ref a)))(v:∀H,G H->H a=some (WC a (.ref C)))(ex:YP c C)(x:W.kitOne c (.ref C) (.type "ValueError")=some true) :
  LA (Vz Mc (LW (Yt (tC (.str w)) Y5)) (Uc (λxs H Q=>∃b,xs=[.bl b]/\Q (.int (if b=true then 1 else 0)) H) (Yt (ZaM (Uc (ZcE c) (Yt (Qz i) (Yt (tC (.ty "ValueError")) Y5)))) Y5))) h G []:=λH Q g k=>by
 erw[⟨zL9 R,λj g1=>?_⟩];have f:=Zx g1 (.lst [.str w]);erw[⟨_,n,a,C,"ValueError",true,R,f _ _ (v H g),ex,x,_,R,_,R,j,_,_,R,R,Zh,(),(),by show 1*0<=sizeLine;lia,λu g2=>?_⟩];erw[k u _ (f.trans (Zx g2 _)) ?_];rw[Zh];rfl
def ZqF(c:Zs K mg t)(wd:Wn):W.exmOne K (.ref (wd.cls t)) (.ref t.Us)=some true:=by
 cases wd with
 |days=>exact c.ZoB
 |many=>exact c.ZoF
 |name=>exact c.ZoK
 |twice=>exact c.ZoO
 |stop=>exact c.ZoT
 |rule=>exact c.ZoX
 |ticket=>exact c.Zo2
 |trip=>exact c.Zo7
 |number=>exact c.Zpb
def ZqG(c:Zs K mg t)(wd:Wn):YP K (wd.cls t):=by
 cases wd with
 |days=>exact c.Zoy
 |many=>exact c.ZoC
 |name=>exact c.ZoH
 |twice=>exact c.ZoL
 |stop=>exact c.ZoQ
 |rule=>exact c.ZoU
 |ticket=>exact c.ZoZ
 |trip=>exact c.Zo4
 |number=>exact c.Zo8
def ZqH(c:Zs K mg t)(wd:Wn):W.kitOne K (.ref (wd.cls t)) (.type "ValueError")=some true:=by
 cases wd with
 |days=>exact c.ZoA
 |many=>exact c.ZoE
 |name=>exact c.ZoJ
 |twice=>exact c.ZoN
 |stop=>exact c.ZoS
 |rule=>exact c.ZoW
 |ticket=>exact c.Zo1
 |trip=>exact c.Zo6
 |number=>exact c.Zpa
def Wn.is:Wn->Wn->Bool
 |.days,.days=>true
 |.many,.many=>true
 |.name,.name=>true
 |.twice,.twice=>true
 |.stop,.stop=>true
 |.rule,.rule=>true
 |.ticket,.ticket=>true
 |.trip,.trip=>true
 |.number,.number=>true
 |_,_=>false
def kts(c:Zs K mg t)(wd:Wn):KX K (wd.cls t) [(t.Vq,false),(t.Xw,wd.is .days),(t.X3,wd.is .many),(t.Wm,wd.is .name),(t.Wo,wd.is .twice),(t.X4,wd.is .stop),(t.Wq,wd.is .rule),(t.Wr,wd.is .ticket),(t.XU,wd.is .trip),(t.Ws,wd.is .number),(t.Ut,false),(t.Uu,false),(t.Uv,false),(t.Uw,false),(t.Ux,false),(t.Uz,false),(t.Uy,false)]:=by
 cases wd with
 |days=>exact c.Zoz
 |many=>exact c.ZoD
 |name=>exact c.ZoI
 |twice=>exact c.ZoM
 |stop=>exact c.ZoR
 |rule=>exact c.ZoV
 |ticket=>exact c.Zo0
 |trip=>exact c.Zo5
 |number=>exact c.Zo9
def D3{L:List V}{n:Nat}(J:x[2]? = some (some (.ref y)))(E:x[1]? = some (some (.ref a)))(ex:YP f C)(k1:W.kitOne f (.ref C) (.ref B)=some v)(k2:W.kitOne f (.ref C) (.ref D)=some i)(S:L.length<=n)(hn:n<=100)(I:H a=some (WC a (.ref C)))(M:H y=some (.lst L))
  (h:∀p c,Zf H c->c a=some (WC a (.ref C))->c p=some (.lst (L++wl v j++wl i u))->(L++wl v j++wl i u).length<=n+2->Q (.ref p) c) :
  Vz NW (Vz NW (Qz 2) (Vz Mc (LW (Yt (tC (.str j)) Y5)) (Uc (λxs H Q=>∃b,xs=[.bl b]/\Q (.int (if b=true then 1 else 0)) H) (Yt (Uc (Pr f) (Yt (Qz 1) (Yt (tC (.ref B)) Y5))) Y5)))) (Vz Mc (LW (Yt (tC (.str u)) Y5)) (Uc (λxs H Q=>∃b,xs=[.bl b]/\Q (.int (if b=true then 1 else 0)) H) (Yt (Uc (Pr f) (Yt (Qz 1) (Yt (tC (.ref D)) Y5))) Y5))) x H Q:=by
 have O:=Lz v j;have T:=Lz i u;have U:sizeLine ≥ 200:=by lia
 erw[Np (G:=λH=>H a=some (WC a (.ref C))/\H y=some (.lst L)) (λ_ _ s g=>⟨s _ _ g.1,s _ _ g.2⟩) (by rw[Su];lia) (Np (λ_ _ s g=>⟨s _ _ g.1,s _ _ g.2⟩) () (ZgZ J (λ_ g=>g.2)) (Nq E (λ_ g=>g.1) ex k1)) (Nq E (λ_ g=>g.1) ex k2) H _ ⟨I,M⟩ λp c s k=>h p c s (s _ _ I) k ?_];rw[Su,Su];lia
inductive Zg0(t:Z0)(P:Program)(w:World)(K:Ox)(mg:Ow)(base:Heap)(vs:List V)(H:Hp)(Q:VK)(_e3:XK):Prop|mk (f:Addr) (Wc:VK->XK->Prop) (TOLD:V->Hp->Prop) (REF:Wn->Hp->Prop) (_:vs=[.ref f]) (_:zJ P w K mg base 50 f H Wc) (_:(∀Q1 E1,(∀v H',TOLD v H'->Q1 v H')->(∀wd H',REF wd H'->E1 (.ref (wd.cls t)) none H')->Wc Q1 E1)) (_:(∀v H' H'' p,TOLD v H'->Zf H' H''->H'' p=some (.tup [.str (OK "told"),v])->Q (.ref p) H'')) (_:(∀wd H' H'',REF wd H'->Zf H' H''->Q (.str wd.txt) H''))
def LB(c:Zs K mg t):Zl P w K mg base Zo 52 t.Zez t.ZeA ["_law_call"] (Zg0 t P w K mg base):=by
 erw[c.X5.F.ok Ur () λy0 A outer s H vs Q x0 hr h=>?_];ext⟨l0,Wc,w0,z0,rfl,hC,hW,q1,v⟩ h;erw[⟨_,(Ze (Zbq (i:=1) ⟨R,R⟩ R Ur.nd R R R c.ZfW (λpins Kx=>(Ze (Zt (YX (Zv Zq (show PE _ _ (Zcx P w K mg base 50 0 λn0 _ H=>Kx n0 H)from ZlA (x := "_law_call") (k:=50) (i:=0) R (Or.inl R) (hr.mono (j:=50) ()) Zjn)))))) (λa=>(Zi (ZL 2 Ur.nd (Zg Y6 (Zg Wf (Z4 (Zc Zq)) (Z5 Wi R c.Xs Xr (Zc (ZV (WG (K:=K)) c.YR YQ (Zv (pv 1) (XR R c.M9)))))) (Zg Wf (Z4 (Zc Zq)) (Z5 Wi R c.Xs Xr (Zc (ZV (WG (K:=K)) c.YR YQ (Zv (pv 1) (XR R c.UC)))))))) (Zi (ZL 2 Ur.nd (Zg Y6 (Zg Y6 (pv 2) (Zg Wf (Z4 (Zc Zq)) (Z5 Wi R c.Xs Xr (Zc (ZV (WG (K:=K)) c.YR YQ (Zv (pv 1) (XR R c.Rq))))))) (Zg Wf (Z4 (Zc Zq)) (Z5 Wi R c.Xs Xr (Zc (ZV (WG (K:=K)) c.YR YQ (Zv (pv 1) (XR R c.ZfX)))))))) (Zi (ZL 2 Ur.nd (Zg Y6 (Zg Y6 (pv 2) (Zg Wf (Z4 (Zc Zq)) (Z5 Wi R c.Xs Xr (Zc (ZV (WG (K:=K)) c.YR YQ (Zv (pv 1) (XR R c.kS))))))) (Zg Wf (Z4 (Zc Zq)) (Z5 Wi R c.Xs Xr (Zc (ZV (WG (K:=K)) c.YR YQ (Zv (pv 1) (XR R c.ZfY)))))))) (Zi (ZL 2 Ur.nd (Zg Y6 (Zg Y6 (pv 2) (Zg Wf (Z4 (Zc Zq)) (Z5 Wi R c.Xs Xr (Zc (ZV (WG (K:=K)) c.YR YQ (Zv (pv 1) (XR R c.kT))))))) (Zg Wf (Z4 (Zc Zq)) (Z5 Wi R c.Xs Xr (Zc (ZV (WG (K:=K)) c.YR YQ (Zv (pv 1) (XR R c.ZfZ)))))))) (Zi (ZL 2 Ur.nd (Zg Y6 (Zg Y6 (pv 2) (Zg Wf (Z4 (Zc Zq)) (Z5 Wi R c.Xs Xr (Zc (ZV (WG (K:=K)) c.YR YQ (Zv (pv 1) (XR R c.Zf0))))))) (Zg Wf (Z4 (Zc Zq)) (Z5 Wi R c.Xs Xr (Zc (ZV (WG (K:=K)) c.YR YQ (Zv (pv 1) (XR R c.kU)))))))) (Zi (ZL 2 Ur.nd (Zg Y6 (Zg Y6 (pv 2) (Zg Wf (Z4 (Zc Zq)) (Z5 Wi R c.Xs Xr (Zc (ZV (WG (K:=K)) c.YR YQ (Zv (pv 1) (XR R c.Zor))))))) (Zg Wf (Z4 (Zc Zq)) (Z5 Wi R c.Xs Xr (Zc (ZV (WG (K:=K)) c.YR YQ (Zv (pv 1) (XR R c.Zos)))))))) (Zi (ZL 2 Ur.nd (Zg Y6 (Zg Y6 (pv 2) (Zg Wf (Z4 (Zc Zq)) (Z5 Wi R c.Xs Xr (Zc (ZV (WG (K:=K)) c.YR YQ (Zv (pv 1) (XR R c.Zot))))))) (Zg Wf (Z4 (Zc Zq)) (Z5 Wi R c.Xs Xr (Zc (ZV (WG (K:=K)) c.YR YQ (Zv (pv 1) (XR R c.Zou)))))))) (Zi (ZL 2 Ur.nd (Zg Y6 (Zg Y6 (pv 2) (Zg Wf (Z4 (Zc Zq)) (Z5 Wi R c.Xs Xr (Zc (ZV (WG (K:=K)) c.YR YQ (Zv (pv 1) (XR R c.Zov))))))) (Zg Wf (Z4 (Zc Zq)) (Z5 Wi R c.Xs Xr (Zc (ZV (WG (K:=K)) c.YR YQ (Zv (pv 1) (XR R c.Zox)))))))) (Zi (ZL 2 Ur.nd (Zg Y6 (Zg Y6 (pv 2) (Zg Wf (Z4 (Zc Zq)) (Z5 Wi R c.Xs Xr (Zc (ZV (WG (K:=K)) c.YR YQ (Zv (pv 1) (XR R c.Zow))))))) (Zg Wf (Z4 (Zc Zq)) (Z5 Wi R c.Xs Xr (Zc (ZaN (ZV (Zmm (K:=K)) c.YR YQ (Zv (pv 1) (VM R c.Znv Znp))))))))) (Ze (Zt (LP (Ya Yn (ZV (show YN _ (.builtin "len") (λxs H Q=>∃p y,xs=[V.ref p]/\(Zd K H p y\/Zp K H p y)/\Q (V.int ↑y.length) H)from X0) c.Xh Xf (Zc (pv 2))) Zb) (ZE (show VB _ (A0 K)from Yq) (pv 2) Zb) Zq))))))))))))))),?_⟩];sleep 1;erw[⟨l0,Wc,R,hC,hW _ _ (λt0 n hT=>⟨zL9 R,λp hp=>q1 t0 n _ p hT (Zx hp _) Zh⟩) (λwd n hR=>⟨ZqF c wd,λa ha=>?_⟩)⟩];sleep 10;have E:=Zx ha (WC a (.ref (wd.cls t)));have f:=@Zh n a (WC a (.ref (wd.cls t)));have v:=λe0=>v wd n e0 hR;have ex:=ZqG c wd;have T:=kts c wd;dsimp only[KX]at T;ext⟨m0,f0,o0,j0,a0,k0,h0,i0,b0,g0,d0,r0,u0,p0,c0,q0,v0,_⟩ T;generalize upd n a (WC a (.ref (wd.cls t)))=H0 at E f ⊢;have Qn:∀m,m<=100->m<=sizeLine:=λm h=>Sh h ();erw[Np (G:=λH=>H a=some (WC a (.ref (wd.cls t)))) (λ_ _ s g=>s _ _ g) (Qn _ (by have B:=Lz false (OK "clock");have h2:=Lz (wd.is .days) (OK "days");lia)) (Nq (w:=OK "clock") (i:=1) R (λ_ g=>g) ex m0) (Nq (w:=OK "days") (i:=1) R (λ_ g=>g) ex f0) H0 _ f λp1 H1 I k1=>?_];have f:=I _ _ f;have l1:(wl false (OK "clock")++wl (wd.is .days) (OK "days")).length<=2:=by cases wd<;>decide
 have S1:=E.trans I;generalize e1:(wl (false) (OK "clock")++wl (wd.is .days) (OK "days"))=L1 at k1 l1;erw[D3 R R ex o0 j0 l1 () f k1 λp2 H2 s2 f k2 l2=>?_];have S2:=S1.trans s2;generalize e2:L1++_++_=L2 at k2 l2;erw[D3 R R ex a0 k0 l2 () f k2 λp3 H3 s3 f S O=>?_];have S3:=S2.trans s3;generalize e3:L2++_++_=L3 at S O;erw[D3 R R ex h0 i0 O () f S λp4 H4 s4 f Y l4=>?_];have S4:=S3.trans s4;generalize e4:L3++_++_=L4 at Y l4;erw[D3 R R ex b0 g0 l4 () f Y λp5 H5 s5 f U D=>?_];have S5:=S4.trans s5;generalize e5:L4++_++_=L5 at U D;erw[D3 R R ex d0 r0 D () f U λp6 H6 s6 f J M=>?_];have S6:=S5.trans s6;generalize e6:L5++_++_=L6 at J M;erw[D3 R R ex u0 p0 M () f J λp7 H7 s7 f X L=>?_];have S7:=S6.trans s7;generalize e7:L6++_++_=L7 at X L;erw[D3 R R ex c0 q0 L () f X λp8 H8 s8 f C l8=>?_];have S8:=S7.trans s8;generalize e8:L7++_++_=L8 at C l8;erw[Np (G:=λH=>H a=some (WC a (.ref (wd.cls t)))/\H p8=some (.lst L8)) (λ_ _ s g=>⟨s _ _ g.1,s _ _ g.2⟩) (Qn _ (by rw[Su];have B:=Lz (false) (OK "traveller");have h3:([]:List V).length=0:=rfl;lia)) (Np (λ_ _ s g=>⟨s _ _ g.1,s _ _ g.2⟩) (Qn _ (by have B:=Lz (false) (OK "traveller");lia)) (ZgZ R (λ_ g=>g.2)) (Nq (w:=OK "traveller") (i:=1) R (λ_ g=>g.1) ex v0)) (ZqE (w:=OK "bare") (i:=1) R (λ_ g=>g.1) ex (ZqH c wd)) H8 _ ⟨f,C⟩ λZ H9 s9 u=>?_];have S9:=S8.trans s9;generalize e9:L8++wl (false) (OK "traveller")++([]:List V)=L9 at u;have eL:L9=[.str wd.txt]:=by
  rw[<-e9,<-e8,<-e7,<-e6,<-e5,<-e4,<-e3,<-e2,<-e1];cases wd<;>rfl
 rw[eL]at u;erw[⟨_,R,Z,_,R,.inl (Zd.of u),R,_,R,ZB (SQ R) ?_⟩];exact⟨_,R,Z,_,0,_,R,R,Zd.of u,R,v H9 S9⟩
inductive ZqI(vs:List V)(H:Hp)(Q:VK)(_e3:XK):Prop|mk (z:Str) (_:vs=[.str z]) (_:z.length<=sizeLine) (_:∀H',Zf H H'->Q (.bl (VP z)) H')
def Zab(g:Zs K mg t):Zl P w K mg base Zo 1 t.Zdd t.Zde ["text"] ZqI:=by
 erw[g.PM.F.ok Zmq () λx A outer s H v Q E u h=>?_];ext⟨z,rfl,j,q⟩ h;ext⟨tk,i⟩ g.ZnB;rw[ZjE]at i;erw[⟨_,(Ze (Zt (Vx (XA Q6 (pv 0) Zq (XQ _)) (Vi (ZV (Tv R) g.jJ uE (Zc (Zbw (cl:=[]) R (pv 0) R () R () R))))))),?_⟩];erw[⟨_,R,R,_,R,?_⟩];erw[Vl (λc=>?_) (λc=>?_)];erw[⟨UT,Zbx (t:=tk) R R i,_,R,z,R,j,λp n=>?_⟩];erw[⟨p,z.cps.toList.map (λc=>X1 UT c),R,Zd.of (by rw[Zh,ZbI]),?_⟩];have e:((z.cps.toList.map λc=>X1 UT c).all id)=VP z:=by
  unfold VP;rw[show(!decide (V.str z=V.str (OK "")))=true from c,Ot]
 have f:=q _ (Zx n (HO.lst (z.cps.toList.map λc=>V.bl (X1 UT c))));rw[<-e]at f;exact f;have e:false=VP z:=by
  unfold VP;rw[show(!decide (V.str z=V.str (OK "")))=false from Oh.mpr c,Bool.false_and]
 have f:=q _ (Zf.refl _);rw[<-e]at f;exact f
inductive ZqJ(vs:List V)(H:Hp)(Q:VK)(_e3:XK):Prop|mk (z:Str) (_:vs=[.str z]) (_:z.length<=sizeLine) (_:∀H',Zf H H'->Q (Ml (XD z.cps.toList)) H')
def Zac(i:Zs K mg t):Zl P w K mg base Zo 2 t.Zdf t.Zdg ["text"] ZqJ:=by
 erw[i.PN.F.ok Zmr () λT A outer s H S Q E L h=>?_];ext⟨z,rfl,B,q⟩ h;erw[⟨_,(Zi (ZH (PW.pt (Q4 (Ya Qi (ZV LZ i.Xh Xf (Zc (pv 0))) (YA R i.ZnC)) (Q3 (Yx (Yy (Zr i.PM (Zab i) L Zk (Zc (pv 0)))))))) (Ze (Zt NG)) ZJ) (Zi (ZH (PW.pt (ZaL (Ya Yn (ZE NU (pv 0) Zb) Zq) (ZaK (Ya Q6 (pv 0) Zq)))) (Ze (Zt NG)) ZJ) (Ze (Zt (Z5 Mf R i.Xs Xr (Zc (pv 0))))))),?_⟩];sleep 3;erw[⟨_,R,z,R,B,_,_,R,R,_,R,?_⟩];have U:=UW z;by_cases M:z.length<=5;erw[Zn (λy=>by have:=SS y;lia) ?_];erw[⟨_,R,z,R,B,λI O=>⟨_,R,?_⟩⟩];have f:=q I O;by_cases g:VP z=true;erw[Zn (by rw[g];lia) ?_];sleep 1;rw[TK,Bool.and_eq_true]at g;have x:z.cps.toList≠[]:=SS g.1;obtain⟨c,r,C⟩:=List.exists_cons_of_ne_nil x;have D:decide (V.str (⟨#[c]⟩:Str)=V.str (OK "0"))=decide (c=48):=by
  rw[Mm,show(OK "0").cps.toList=[48] by lia];exact decide_eq_decide.mpr ⟨λy=>by simpa using y,λy=>by rw[y]⟩
 have G:decide (V.str z=V.str (OK "0"))=decide (z.cps.toList=[48]):=by
  rw[Mm,show(OK "0").cps.toList=[48] by lia]
 have J:=ZbR g.2 x ();have fin:¬ (z.cps.toList.head? = some 48/\z.cps.toList≠[48])->∃n,PySem.intText? z=some n/\z.length<=640/\Q (.int n) I:=λhn=>by
  rw[show XD z.cps.toList=some (UV z.cps.toList)from SV ⟨(),x,g.2,hn⟩]at f;exact⟨_,J,(),f⟩
 erw[⟨_,R,_,0,c,R,R,B,(by rw[C];exact Ue (j:=0) R),R,_,R,?_⟩];by_cases v:c=48;erw[ZB (by rw[D,SQ v]) ?_];erw[⟨_,R,R,_,R,?_⟩];by_cases u:z.cps.toList=[48];erw[Zn (by rw[G,SQ u];lia) ?_];obtain⟨n,a,b,c⟩:=fin λy=>y.2 u;exact⟨_,R,z,n,R,a,b,c⟩;erw[ZB (by rw[G,SR u];rfl) ?_];sleep 1;rw[show XD z.cps.toList=none from SU λy=>y.2.2.2 ⟨by rw[C,v];rfl,u⟩]at f;exact f;erw[Zn (by rw[D,SR v];lia) ?_];erw[Zn () ?_];obtain⟨n,a,b,c⟩:=fin λy=>v (by have:=y.1;rw[C]at this;exact So this);exact⟨_,R,z,n,R,a,b,c⟩;erw[ZB (by rw[Oh.mpr g];rfl) ?_];sleep 1;rw[show XD z.cps.toList=none from SU λy=>g (by rw[TK,y.2.2.1,SQ y.2.1];rfl)]at f;exact f;erw[ZB (by erw[SQ ?_];lia) ?_];have f:=q H (Zf.refl _);rw[show XD z.cps.toList=none from SU λy=>M (by have:=y.1;lia)]at f;exact f
inductive ZqK(vs:List V)(H:Hp)(Q:VK)(_e3:XK):Prop|mk (n:Int) (_:vs=[.int n]) (_:0<=n) (_:n<60) (_:Q (.str (Ui n.toNat)) H)
def Zg1(c:Zs K mg t):Zl P w K mg base Zo 1 t.Zdl t.Zdm ["number"] ZqK:=by
 erw[c.jN.F.ok Zmu () λv A outer s H i Q E g h=>?_];ext⟨n,rfl,u,j,q⟩ h;erw[⟨_,(Ze (Zt (Xa PySem.F.plainAttrs_str PySem.F.slot_str_zfill PySem.F.type_str_zfill Zjp (Z5 Q7 R c.VW VT (Zc (pv 0))) (Zc Zb)))),?_⟩];have e:n=((n.toNat:Nat):Int):=by lia
 erw[⟨_,R,n,R,ZjI _ (),R,_,2,R,R,(),?_⟩];have f:=ZjG n.toNat ();rw[<-e]at f;rw[<-f]at q;exact q
inductive ZqL(BC:Addr)(vs:List V)(H:Hp)(Q:VK)(E:XK):Prop|mk (v:V) (T:String) (_:vs=[v]) (_:Kd H v T) (_:((∃m:Nat,v=.int m/\m<=2879/\Q (.str (wr m)) H)\/(Xy v 0 2879=false/\E (.ref BC) none H)))
def Zg2(c:Zs K mg t):Zl P w K mg base (Yf P w) 3 t.Zdn t.Zdo ["minute"] (ZqL t.Vq):=by
 erw[c.jO.F.okX Zmv () λn A outer s H j Q E f h=>?_];ext⟨v,T,rfl,kd,h⟩ h;erw[⟨_,(Zi (ZH (Yx (Yy (Zr c.Qt (QO c) f Zk (Ym (pv 0) Zb (YA R c.PL))))) (Ze (Xc Xb c.Rr R R c.M9 (Zc Zq))) ZJ) (Ze (Zt (Zg E8 (Zg E8 (Zr c.jN (Zg1 c) f Zk (Zc (Zg YO (pv 0) (YA R c.PJ)))) Zq) (Zr c.jN (Zg1 c) f Zk (Zc (Zg ZY (pv 0) (YA R c.PJ)))))))),?_⟩];erw[⟨_,R,v,0,2879,T,R,kd,_,R,?_⟩];rcases h with⟨m,rfl,hm,q⟩|⟨e,q⟩;rw[show Xy (.int (m:Int)) 0 2879=true from SQ ⟨(),()⟩];erw[Zjc ?_];erw[⟨_,R,_,_,R,R,⟨(),()⟩,_,R,(),(),_,_,R,R,?_,?_⟩];show 3<=sizeLine;lia;erw[⟨_,R,_,_,R,R,(),_,R,(),(),_,_,R,R,?_,?_⟩];show 5<=sizeLine;lia;have i:((m:Int)/60).toNat=m/60:=by lia
 have g:((m:Int)%60).toNat=m%60:=by lia
 unfold wr at q;rw[<-i,<-g]at q;exact q;rw[e];erw[Zjd ?_];exact⟨zL9 R,q⟩
inductive ZqM(vs:List V)(H:Hp)(Q:VK)(_e3:XK):Prop|mk (v:V) (T:String) (_:vs=[v]) (_:Kd H v T) (_:(∀z,v=.str z->z.length<=sizeLine)) (_:∀H',Zf H H'->Q (.bl (F5 v)) H')
def ZqN(g:Zs K mg t):Zl P w K mg base Zo 2 t.Zdp t.Zdq ["text"] ZqM:=by
 erw[g.ZfD.F.ok Zmw () λC A outer s H y Q E u h=>?_];ext⟨v,T,rfl,kd,hlen,q⟩ h;erw[⟨_,(Zi (ZH (PW.pt (Q4 (Yx (Yy (ZV Ug g.YR YQ (Zv (pv 0) (VM R g.VW VT))))) (Q3 (Ya Q6 (ZV LZ g.Xh Xf (Zc (pv 0))) Zb)))) (Ze (Zt Vh)) ZJ) (Ze (Zt (Vx (XA Yn (ZE NU (pv 0) Zb) Zq (XQ _)) (Vi (Zr g.PM (Zab g) u Zk (Zc (Zg E8 (Qj F3 (pv 0) QC (Ud Zb)) (Qj F3 (pv 0) (Ud Zb) QC))))))))),?_⟩];erw[⟨_,R,v,"str",_,_,R,kd.ty,Mj kd,_,R,?_⟩];cases kd with
 |non=>exact ZB () (q _ (Zf.refl _))
 |bl b=>exact ZB () (q _ (Zf.refl _))
 |int i=>exact ZB () (q _ (Zf.refl _))
 |lst e=>exact ZB () (q _ (Zf.refl _))
 |tup e=>exact ZB () (q _ (Zf.refl _))
 |dK e=>exact ZB () (q _ (Zf.refl _))
 |str z =>
  erw[Zn () ?_];erw[⟨_,R,z,R,hlen z R,R,_,R,?_⟩];by_cases n:z.length=5;erw[Zn (by rw[n];lia) ?_];obtain⟨a,b,c,d,e,rfl⟩:=ZbJ n;erw[⟨_,R,_,2,c,R,R,hlen _ R,R,R,_,R,?_⟩];by_cases j:c=58;erw[ZB (by rw[ZbL,SQ j]) ?_];erw[⟨_,R,2,R,_,R,hlen _ R,_,R,3,R,_,R,hlen _ R,_,_,R,R,?_,⟨#[a,b,d,e]⟩,?_,?_,λx sm=>?_⟩];rw[UR,N5];show 4<=sizeLine;lia;rw[UR,N5];rfl;show 4<=sizeLine;lia;have f:=q x sm;rw[show F5 (.str ⟨#[a,b,c,d,e]⟩)=VP ⟨#[a,b,d,e]⟩ by
   rw[ZjJ];show(decide (c=58) && _)=_;rw[SQ j,Ot]]at f
  exact f;erw[Zn (by rw[ZbL,SR j];lia) ?_];have f:=q _ (Zf.refl _);rw[show F5 (.str ⟨#[a,b,c,d,e]⟩)=false by
   show(decide (c=58) && _)=_;rw[SR j,Bool.false_and]]at f
  exact f;have f:=q _ (Zf.refl _);rw[show F5 (.str z)=false from ZbK n]at f;erw[ZB ?_ f];rw[SR (λz1=>n (by injection z1 with B;lia))];rfl
inductive ZqO(BC:Addr)(vs:List V)(H:Hp)(Q:VK)(E:XK):Prop|mk (v:V) (T:String) (_:vs=[v]) (_:Kd H v T) (_:(∀z,v=.str z->z.length<=sizeLine)) (_:(∀m H',N6 v=some m->Zf H H'->Q (.int (m:Nat)) H')) (_:(∀H',N6 v=none->Zf H H'->E (.ref BC) none H'))
def Zg3(f:Zs K mg t):Zl P w K mg base (Yf P w) 3 t.Zdr t.Zds ["text"] (ZqO t.Vq):=by
 erw[f.jP.F.okX yF () λL A outer s H J Q E I h=>?_];ext⟨v,T,rfl,kd,hlen,D,j⟩ h;erw[⟨_,(Zi (ZH (Yx (Yy (Zr f.ZfD (ZqN f) I Zk (Zc (pv 0))))) (Ze (Xc Xb f.Rr R R f.M9 (Zc Zq))) ZJ) (Zi (ZL 1 yF.nd (Z5 Mf R f.Xs Xr (Zc (Qj F3 (pv 0) (Ud Zb) QC)))) (Zi (ZH (Ya NO (pv 1) (YA R f.PJ)) (Ze (Xc Xb f.Rr R R f.M9 (Zc Zq))) ZJ) (Zi (ZL 2 yF.nd (Zg Yr (Zg QA (Z5 Mf R f.Xs Xr (Zc (Qj F3 (pv 0) QC (Ud Zb)))) (YA R f.PJ)) (pv 1))) (Zi (ZH (Ya Qi (pv 2) (YA R f.PL)) (Ze (Xc Xb f.Rr R R f.M9 (Zc Zq))) ZJ) (Ze (Zt (pv 2)))))))),?_⟩];erw[⟨_,R,v,T,R,kd,hlen,λi sm=>⟨_,R,?_⟩⟩];by_cases g:F5 v=true;erw[Zn (by rw[g];lia) ?_];cases v with
 |str z =>
  obtain⟨a,b,c,d,e,rfl⟩:=ZjL g;have y:UU [a,b,c,d,e]=true:=g;obtain⟨ha,B,M,hd,C⟩:=ZjM y;erw[⟨_,R,3,R,_,R,hlen _ R,_,_,R,(by rw[N5];exact ZbM hd C),(by rw[N5];show 2<=640;lia),?_⟩];erw[⟨_,R,_,_,R,R,_,R,?_⟩];by_cases n:10*(d - 48)+(e - 48)<=59;erw[Zn (by intro z;have:=SS z;lia) ?_];erw[⟨_,R,2,R,_,R,hlen _ R,_,_,R,(by rw[UR];exact ZbM ha B),(by rw[UR];show 2<=640;lia),_,_,R,R,.inr ⟨(),()⟩,_,R,_,_,R,R,?_⟩];erw[⟨_,R,_,_,R,R,_,R,?_⟩];by_cases x:10*(a - 48)+(b - 48)<=47;erw[Zn (by intro z;have:=SS z;lia) ?_];have q:=D _ i (show F6 [a,b,c,d,e]=some _ from SV ⟨y,x,n⟩) sm;have G:((60*(10*(a - 48)+(b - 48))+(10*(d - 48)+(e - 48)):Nat):Int)=((10*(a - 48)+(b - 48):Nat):Int)*60+((10*(d - 48)+(e - 48):Nat):Int):=by lia
  rw[G]at q;exact⟨_,R,q⟩;erw[ZB (by erw[SQ ?_];lia) ?_];exact⟨zL9 R,j i (show F6 [a,b,c,d,e]=none from SU λz=>x z.2.1) sm⟩;erw[ZB (by erw[SQ ?_];lia) ?_];exact⟨zL9 R,j i (show F6 [a,b,c,d,e]=none from SU λz=>n z.2.2) sm⟩
 |_=>cases g
 have u:F5 v=false:=Oh.mpr g;erw[ZB (by rw[u];rfl) ?_];erw[⟨zL9 R,j i ?_ sm⟩];cases v with
 |str z=>exact ZjK u
 |_=>rfl
inductive ZqP(K:Ox)(vs:List V)(H:Hp)(Q:VK)(_e3:XK):Prop|mk (p:Addr) (ss:OG) (_:vs=[.ref p]) (_:Zp K H p (ZN ss)) (_:ss.length<=12) (_:(∀x∈ss,x<=9999)) (_:∀H',Zf H H'->Q (.str (WZ ss)) H')
def Zg4(B:Zs K mg t):Zl P w K mg base Zo 1 t.Zdv t.Zdw ["numbers"] (ZqP K):=by
 erw[B.jQ.F.ok Zmy () λO A outer s H M Q E S h=>?_];ext⟨p,f,rfl,G,L,C,q⟩ h;erw[⟨_,(Ze (Zt (Xa PySem.F.plainAttrs_str PySem.F.slot_str_join PySem.F.type_str_join QF Zq (Zc (Xv (cl:=[]) (N:=["number"]) (fr:=[none]) R (Zig (pv 0)) R () R () trivial trivial R (λ_ _ _ _ _=>(ZZ 0 (show List.Nodup (["number"]:OC) by lia))) (λ_ _ _ _ _=>Xu) (λ_ _ _ _ _=>(Z5 Q7 R B.VW VT (Zc (pv 0))))))))),?_⟩];have D:(ZN f).length=f.length:=Sv ..;refine⟨R,_,R,p,R,⟨_,G⟩,Zjz (K:=K) (a:=p) (xs:=ZN f) (λi y g j=>j=H/\y=((f.take i).map YB).map V.str/\∃v,g=[v]) ⟨R,R,_,R⟩
  (by rw[D];exact Sh L ()) (λi y g j _ ⟨e,_⟩=>by rwa[e]) ?_ ?_⟩
 rintro i x y g j ha c ⟨rfl,e,v,rfl⟩;rw[Oa]at c;cases u:f[i]? with
 |none=>rw[u]at c;cases c
 |some m =>
  rw[u]at c;obtain rfl:V.int (m:Int)=x:=So c;have hm:=C m (SK u);dsimp only[YV,X2];rw[SV R];erw[⟨_,R,_,R,G1 (),?_,R,?_,_,R⟩];rw[Su,Sw];lia;rw[e,SZ,u];simp[YB]
 rintro y g j ha ⟨rfl,e,v,rfl⟩ J I;rw[D,List.take_length]at e;erw[⟨_,J,f.map YB,R,R,Zd.of (by rw[Zh,e]),Pd (m:=0) () (by rw[Sv];lia) (λx c=>?_),q _ (Zx I _)⟩];obtain⟨n,hn,rfl⟩:=SJ.mp c;exact Sh (Mp (by have:=C n hn;lia)) ()
inductive Vd(c:RC)(K:Ox)(q:RT->Prop)(n:Nat)(vs:List V)(H:Hp)(Q:VK)(_e3:XK):Prop|mk (a:Addr) (r:RT) (_:vs=[.ref a]) (_:ZP c K H a r) (_:q r) (_:r.good) (_:r.weight<=1000) (_:r.depth<=n) (_:∀p H',Zf H H'->H p=none->H' p=some (.lst (r.words.map V.str))->Q (.ref p) H')
structure D4(P:Program)(w:World)(K:Ox)(mg:Ow)(base:Heap)(t:Z0)(n:Nat):Prop where
 rule:Zl P w K mg base Zo (n+3) t.uQ t.uR ["self"] (Vd (rc t) K K3 n)
 week:Zl P w K mg base Zo (n+3) t.uX t.uY ["self"] (Vd (rc t) K K4 n)
 span:Zl P w K mg base Zo (n+3) t.qE t.qF ["self"] (Vd (rc t) K B9 n)
 each:Zl P w K mg base Zo (n+3) t.qL t.qM ["self"] (Vd (rc t) K K5 n)
 either:Zl P w K mg base Zo (n+3) t.qS t.qT ["self"] (Vd (rc t) K C0 n)
 both:Zl P w K mg base Zo (n+3) t.qZ t.jA ["self"] (Vd (rc t) K C3 n)
 but:Zl P w K mg base Zo (n+3) t.jG t.jH ["self"] (Vd (rc t) K C4 n)
def D4.at(i:D4 P w K mg base t n)(c:Zs K mg t){r:RT}(h:ZP (rc t) K H a r)(g:r.good)(j:r.weight<=1000)(hn:r.depth<=n) :
  ∃(C G:Addr) (fs:List (Str×V)) (f:Addr) (fd:OJ) (sp:Sp),H a=some (.ins C G fs)/\fs.lookup ("words" : Str)=none/\YI K C/\Ys K C "words" f/\Zl P w K mg base Zo (n+3) f fd ["self"] sp/\XB K fd ["self"] [] /\
   ∀(Q:VK),(∀p y,Zf H y->H p=none->y p=some (.lst (r.words.map V.str))->Q (.ref p) y)->sp [.ref a] H Q E0:=by
 cases h with
 |always h=>exact⟨_,_,_,_,_,_,h,R,c.K2,c.jY.me,i.rule,c.jY.b,λQ q=>⟨a,_,R,.always h,trivial,g,j,hn,q⟩⟩
 |week h B=>exact⟨_,_,_,_,_,_,h,R,c.U2,c.kA.me,i.week,c.kA.b,λQ q=>⟨a,_,R,.week h B,trivial,g,j,hn,q⟩⟩
 |span h E J u=>exact⟨_,_,_,_,_,_,h,R,c.X6,c.P5.me,i.span,c.P5.b,λQ q=>⟨a,_,R,.span h E J u,trivial,g,j,hn,q⟩⟩
 |each h D I x=>exact⟨_,_,_,_,_,_,h,R,c.Vs,c.kE.me,i.each,c.kE.b,λQ q=>⟨a,_,R,.each h D I x,trivial,g,j,hn,q⟩⟩
 |either h u v=>exact⟨_,_,_,_,_,_,h,R,c.WQ,c.Ra.me,i.either,c.Ra.b,λQ q=>⟨a,_,R,.either h u v,trivial,g,j,hn,q⟩⟩
 |both h u v=>exact⟨_,_,_,_,_,_,h,R,c.WR,c.Rf.me,i.both,c.Rf.b,λQ q=>⟨a,_,R,.both h u v,trivial,g,j,hn,q⟩⟩
 |but h x u=>exact⟨_,_,_,_,_,_,h,R,c.W2,c.Rj.me,i.but,c.Rj.b,λQ q=>⟨a,_,R,.but h x u,trivial,g,j,hn,q⟩⟩
def Zg5(f:Zs K mg t)(n:Nat):Zl P w K mg base Zo (n+3) t.uQ t.uR ["self"] (Vd (rc t) K K3 n):=by
 erw[f.jY.F.ok ZmQ () λv A outer s H u Q E j h=>?_];ext⟨a,r,rfl,h,i,g,x,hn,q⟩ h;erw[⟨_,(Ze (Zt (Z4 (Zc Zq)))),?_⟩];cases h with
 |always h=>exact⟨zL9 R,λp c=>q p _ (Zx c _) c Zh⟩
 |_=>exact i.elim
def Zg6(f:Zs K mg t)(n:Nat):Zl P w K mg base Zo (n+3) t.uX t.uY ["self"] (Vd (rc t) K K4 n):=by
 erw[f.kA.F.ok ZmU () λX A outer s H U Q E S h=>?_];ext⟨a,r,rfl,h,J,g,Z,hn,q⟩ h;erw[⟨_,(Ze (Zt (Z4 (Zv Zq (Xa PySem.F.plainAttrs_str PySem.F.slot_str_join PySem.F.type_str_join QF Zq (Zc (Xv (cl:=[(OK "self",s.heap.objs.size+1)]) (N:=["day","self"]) (fr:=[none,some 0]) R (Qg R f.VU (Zc (YA R f.jL))) R () R () ⟨⟨R,Or.inl R,Or.inl R,_,R,R⟩,trivial⟩ ⟨R,trivial⟩ R (λ_ _ _ _ _=>(ZZ 0 (show List.Nodup (["day","self"]:OC) by lia))) (λ_ _ _ _ _=>Xu) (λ_ _ _ _ _=>(LP (Yy (Yz (pv 1) f.U2 f.MR.me (gC f 1) (S.mono ()) f.MR.b .nil Zk (Zc (pv 0)))) Zq Zq))))))))),?_⟩];cases h with
 |week h G =>
  rename_i L b;erw[⟨R,_,R,(),(),N2 (n:=7) (λi j B C=>C=H/\j=((List.range i).map (Um b)).map V.str/\∃v,B=[v,some (.ref a)]) ⟨R,R,_,R⟩ () ?_ ?_⟩];rintro i j B C Y ha ⟨rfl,e,v,rfl⟩;have T:V.int (0+(i:Int))=V.int (i:Int):=congrArg V.int ();dsimp only[YV,X2];rw[SV R,T];erw[⟨_,R,a,L,_,R,h,R,_,R,a,.week b,i,R,.week h G,trivial,by show 1<=1;lia,_,R,?_⟩];have u:(j++[V.str (Um b i)]).length<=i+1:=by rw[Su,Sw];lia
  have ex:j++[V.str (Um b i)]=((List.range (i+1)).map (Um b)).map V.str:=by
   rw[e,Oj];simp
  cases c:(RT.week b).runs i with
  |true =>
   have y:Um b i=OK "1" := by unfold Um;rw[c];rfl
   rw[y]at u ex;exact ZB R ⟨u,R,ex,_,R⟩
  |false =>
   have y:Um b i=OK "0" := by unfold Um;rw[c];rfl
   rw[y]at u ex;exact Zn () ⟨u,R,ex,_,R⟩
  rintro j B C ha ⟨rfl,e,v,rfl⟩ O I;have s2:=Zx I (.lst j);erw[⟨_,O,(List.range 7).map (Um b),R,R,Zd.of (by rw[Zh,e]),Pd (m:=0) () (by rw[Sv,List.length_range];lia) (λx M=>?_),zL9 R,λp D=>?_⟩];obtain⟨d,_,rfl⟩:=SJ.mp M;unfold Um;split<;>decide +kernel
  exact q p _ (s2.trans (Zx D _)) (s2.free D) Zh
 |_=>exact J.elim
def Zg7(c:Zs K mg t)(n:Nat):Zl P w K mg base Zo (n+3) t.qL t.qM ["self"] (Vd (rc t) K K5 n):=by
 erw[c.kE.F.ok Zm0 () λI A outer s H G Q E C h=>?_];ext⟨a,r,rfl,h,j,g,O,hn,q⟩ h;erw[⟨_,(Ze (Zt (Z4 (Ym Zq (Z5 Q7 R c.VW VT (Zc (ZO (pv 0) R))) (Zr c.jQ (Zg4 c) C Zk (Zc (ZO (pv 0) R))))))),?_⟩];cases h with
 |each h D M B =>
  rename_i J p m u;erw[⟨_,R,a,_,_,_,_,R,h,c.Vs,c.Rn,R,_,R,G1 (),_,R,a,_,_,_,_,R,h,c.Vs,c.Ro,R,p,u,R,B,g.2.2.few,λx v=>by have:=(g.2.2.all x v).2;lia,λL i=>?_⟩];exact⟨zL9 R,λy f=>q y _ (i.trans (Zx f _)) (i.free f) Zh⟩
 |_=>exact j.elim
def ZqQ(c:Zs K mg t)(n:Nat)(Q:D4 P w K mg base t n):Zl P w K mg base Zo (n+1+3) t.qE t.qF ["self"] (Vd (rc t) K B9 (n+1)):=by
 erw[c.P5.F.ok ZcT () λZ A outer s c0 Y b0 a0 S h=>?_];ext⟨a,r,rfl,h,B,g,hw,hn,q⟩ h;erw[⟨_,(Ze (Zt (Zg Y6 (Z4 (Ym Zq (Z5 Q7 R c.VW VT (Zc (ZO (pv 0) R))) (Z5 Q7 R c.VW VT (Zc (ZO (pv 0) R))))) (WY (ZO (pv 0) R))))),?_⟩];cases h with
 |span h hx X I =>
  rename_i dx i v u r;have ed:(RT.span v u r).depth=1+r.depth:=rfl;have ew:(RT.span v u r).weight=1+r.weight:=rfl;have wl:=r.words_len;erw[⟨_,R,a,_,_,_,_,R,h,c.X6,c.Rl,R,_,R,G1 (),_,R,a,_,_,_,_,R,h,c.X6,c.Rm,R,_,R,G1 (),zL9 R,λy g1=>?_⟩];have j:=Zx g1 (.lst [.str (OK "span"),.str (YB v),.str (YB u)]);obtain⟨C,H,fs,f,G,sp,E,D,J,T,L,U,M⟩:=Q.at c (I.same j) g.2.2 () ();erw[⟨_,R,a,_,_,_,_,R,j _ _ h,c.X6,c.M0,R,i,C,H,fs,f,G,_,_,sp,Zo,E0,R,E,D,J,T,L,S.mono (),U,Zk,M _ λO H2 s2 n2 x=>?_⟩];erw[⟨y,O,_,_,R,R,s2 _ _ Zh,x,?_,λp3 g3=>q p3 _ ((j.trans s2).trans (Zx g3 _)) ((j.trans s2).free g3) (by rw[Zh];rfl)⟩];rw[Sv];exact Sh (show 3+r.words.length<=4000 by lia) ()
 |_=>exact B.elim
def ZqR(c:Zs K mg t)(n:Nat)(U:D4 P w K mg base t n):Zl P w K mg base Zo (n+1+3) t.jG t.jH ["self"] (Vd (rc t) K C4 (n+1)):=by
 erw[c.Rj.F.ok Zc2 () λa0 A outer s d0 Z c0 b0 u h=>?_];ext⟨a,r,rfl,h,D,g,hw,hn,q⟩ h;erw[⟨_,(Ze (Zt (Zg Y6 (Z4 (Zv Zq (Zr c.jQ (Zg4 c) u Zk (Zc (ZO (pv 0) R))))) (WY (ZO (pv 0) R))))),?_⟩];cases h with
 |but h T J =>
  rename_i dx p i ds r;have ed:(RT.but ds r).depth=1+r.depth:=rfl;have ew:(RT.but ds r).weight=1+r.weight:=rfl;have wl:=r.words_len;erw[⟨_,R,a,_,_,_,_,R,h,c.W2,c.Rp,R,p,ds,R,T,g.1.few,λx M=>(g.1.all x M).2,λH0 B=>⟨zL9 R,λy g1=>?_⟩⟩];have j:=B.trans (Zx g1 (.lst [.str (OK "but"),.str (WZ ds)]));obtain⟨C,I,fs,f,H,sp,G,E,L,X,O,Y,Q⟩:=U.at c (J.same j) g.2 () ();erw[⟨_,R,a,_,_,_,_,R,j _ _ h,c.W2,c.M7,R,i,C,I,fs,f,H,_,_,sp,Zo,E0,R,G,E,L,X,O,u.mono (),Y,Zk,Q _ λS H2 s2 n2 v=>?_⟩];erw[⟨y,S,_,_,R,R,s2 _ _ Zh,v,?_,λp3 g3=>q p3 _ ((j.trans s2).trans (Zx g3 _)) ((j.trans s2).free g3) (by rw[Zh];rfl)⟩];rw[Sv];exact Sh (show 2+r.words.length<=4000 by lia) ()
 |_=>exact D.elim
def ZqS(u:Zs K mg t)(n:Nat)(O:D4 P w K mg base t n):Zl P w K mg base Zo (n+1+3) t.qS t.qT ["self"] (Vd (rc t) K C0 (n+1)):=by
 erw[u.Ra.F.ok ZcW () λa0 A outer s e0 vs d0 b0 Q h=>?_];ext⟨a,r,rfl,h,X,g,hw,hn,q⟩ h;erw[⟨_,(Ze (Zt (Zg Y6 (Zg Y6 (Z4 (Zc Zq)) (WY (ZO (pv 0) R))) (WY (ZO (pv 0) R))))),?_⟩];cases h with
 |either h Z hj =>
  rename_i dx i j r c;have ed:(RT.either r c).depth=1+max r.depth c.depth:=rfl;have ew:(RT.either r c).weight=1+(r.weight+c.weight):=rfl;have wl:=r.words_len;have c0:=c.words_len;erw[⟨zL9 R,λT g1=>?_⟩];have J:=Zx g1 (.lst [.str (OK "either")]);obtain⟨C,D,fs,f,B,sp,y,x,G,L,H,M,I⟩:=O.at u (Z.same J) g.1 () ();erw[⟨_,R,a,_,_,_,_,R,J _ _ h,u.WQ,u.M3,R,i,C,D,fs,f,B,_,_,sp,Zo,E0,R,y,x,G,L,H,Q.mono (),M,Zk,I _ λp2 H2 s2 n2 S=>?_⟩];erw[⟨T,p2,_,_,R,R,s2 _ _ Zh,S,?_,λp3 g3=>?_⟩];rw[Sv];exact Sh (show 1+r.words.length<=4000 by lia) ();have v:=(J.trans s2).trans (Zx g3 (.lst ([.str (OK "either")]++r.words.map V.str)));obtain⟨C,D,fs,f,B,sp,y,x,G,L,H,M,I⟩:=O.at u (hj.same v) g.2 () ();erw[⟨_,R,a,_,_,_,_,R,v _ _ h,u.WQ,u.M4,R,j,C,D,fs,f,B,_,_,sp,Zo,E0,R,y,x,G,L,H,Q.mono (),M,Zk,I _ λp4 H4 E n4 U=>?_⟩];erw[⟨p3,p4,_,_,R,R,E _ _ Zh,U,?_,λY g5=>q Y _ ((v.trans E).trans (Zx g5 _)) ((v.trans E).free g5) ?_⟩];rw[Su,Sv,Sv];exact Sh (show[V.str (OK "either")].length+r.words.length+c.words.length<=7000 by rw[Sw];lia) ();rw[Zh];show some (HO.lst ([V.str (OK "either")]++r.words.map V.str++c.words.map V.str))=some (.lst (([OK "either"]++r.words++c.words).map V.str));rw[SL,SL];rfl
 |_=>exact X.elim
def ZqT(u:Zs K mg t)(n:Nat)(O:D4 P w K mg base t n):Zl P w K mg base Zo (n+1+3) t.qZ t.jA ["self"] (Vd (rc t) K C3 (n+1)):=by
 erw[u.Rf.F.ok ZcZ () λa0 A outer s e0 vs d0 b0 Q h=>?_];ext⟨a,r,rfl,h,X,g,hw,hn,q⟩ h;erw[⟨_,(Ze (Zt (Zg Y6 (Zg Y6 (Z4 (Zc Zq)) (WY (ZO (pv 0) R))) (WY (ZO (pv 0) R))))),?_⟩];cases h with
 |both h Z hj =>
  rename_i dx i j r c;have ed:(RT.both r c).depth=1+max r.depth c.depth:=rfl;have ew:(RT.both r c).weight=1+(r.weight+c.weight):=rfl;have wl:=r.words_len;have c0:=c.words_len;erw[⟨zL9 R,λT g1=>?_⟩];have J:=Zx g1 (.lst [.str (OK "both")]);obtain⟨C,D,fs,f,B,sp,y,x,G,L,H,M,I⟩:=O.at u (Z.same J) g.1 () ();erw[⟨_,R,a,_,_,_,_,R,J _ _ h,u.WR,u.M5,R,i,C,D,fs,f,B,_,_,sp,Zo,E0,R,y,x,G,L,H,Q.mono (),M,Zk,I _ λp2 H2 s2 n2 S=>?_⟩];erw[⟨T,p2,_,_,R,R,s2 _ _ Zh,S,?_,λp3 g3=>?_⟩];rw[Sv];exact Sh (show 1+r.words.length<=4000 by lia) ();have v:=(J.trans s2).trans (Zx g3 (.lst ([.str (OK "both")]++r.words.map V.str)));obtain⟨C,D,fs,f,B,sp,y,x,G,L,H,M,I⟩:=O.at u (hj.same v) g.2 () ();erw[⟨_,R,a,_,_,_,_,R,v _ _ h,u.WR,u.M6,R,j,C,D,fs,f,B,_,_,sp,Zo,E0,R,y,x,G,L,H,Q.mono (),M,Zk,I _ λp4 H4 E n4 U=>?_⟩];erw[⟨p3,p4,_,_,R,R,E _ _ Zh,U,?_,λY g5=>q Y _ ((v.trans E).trans (Zx g5 _)) ((v.trans E).free g5) ?_⟩];rw[Su,Sv,Sv];exact Sh (show[V.str (OK "both")].length+r.words.length+c.words.length<=7000 by rw[Sw];lia) ();rw[Zh];show some (HO.lst ([V.str (OK "both")]++r.words.map V.str++c.words.map V.str))=some (.lst (([OK "both"]++r.words++c.words).map V.str));rw[SL,SL];rfl
 |_=>exact X.elim
theorem Zad(c:Zs K mg t):∀n,D4 P w K mg base t n
 |0=>by
  have no:∀{q:RT->Prop},∀vs H Q E,Vd (rc t) K q 0 vs H Q E->False:=λvs H Q E h=>by
   ext⟨a,r,rfl,h,u,g,v,hn,_⟩ h;have:=r.depth_pos;lia
  exact⟨Zg5 c 0,Zg6 c 0,
   c.P5.F.ok ZcT (λvs H Q E h=>(no vs H Q E h).elim) (λj A outer s H vs Q E i h=>(no vs H Q E h).elim),Zg7 c 0,
   c.Ra.F.ok ZcW (λvs H Q E h=>(no vs H Q E h).elim) (λj A outer s H vs Q E i h=>(no vs H Q E h).elim),
   c.Rf.F.ok ZcZ (λvs H Q E h=>(no vs H Q E h).elim) (λj A outer s H vs Q E i h=>(no vs H Q E h).elim),
   c.Rj.F.ok Zc2 (λvs H Q E h=>(no vs H Q E h).elim) (λj A outer s H vs Q E i h=>(no vs H Q E h).elim)⟩
 |n+1=>have f:=Zad c n
  ⟨Zg5 c (n+1),Zg6 c (n+1),ZqQ c n f,Zg7 c (n+1),ZqS c n f,ZqT c n f,ZqR c n f⟩
abbrev wS(w:OG):V:=.str ⟨w.toArray⟩
def XM(ws:List (List Nat)):List V:=(ws.map wS).reverse
def Zg8(w:OG)(r:List (List Nat)):XM (w::r)=XM r++[wS w]:=by unfold XM;rw[SM,List.reverse_cons]
def ZqU(ws:List (List Nat)):(XM ws).length=ws.length:=by unfold XM;rw[List.length_reverse,Sv]
def Kp(l:Addr)(H c:Hp):Prop:=∀a o,a≠l->H a=some o->c a=some o
def Kp.of(s:Zf H c):Kp l H c:=λa o _ e=>s a o e
def Kp.trans(a:Kp l H f)(b:Kp l f c):Kp l H c:=λx o n e=>b x o n (a x o n e)
theorem Kp.upd(l:Addr)(H:Hp)(o:HO):Kp l H (upd H l o):=λa u n e=>by rwa[Zj n]
def ZP.kp(i:H l=some (.lst D))(k:Kp l H f)(h:ZP c K H a r):ZP c K f a r:=by
 have q:∀{x C v fs},H x=some (.ins C v fs)->f x=some (.ins C v fs):=λ{x C v fs} e=>k _ _ (λz=>by rw[z,i]at e;cases e) e;have B:∀{p g},Zp K H p g->Zp K f p g:=λ{p g} e=>e.imp (λr=>r.imp (λe=>k _ _ (λz=>by rw[z,i]at e;cases e) e) (λ⟨o,e⟩=>⟨o,k _ _ (λz=>by rw[z,i]at e;cases e) e⟩)) id;induction h with
 |always h=>exact .always (q h)
 |week h E=>exact .week (q h) E
 |span h G J _ u=>exact .span (q h) G J u
 |each h hn I y=>exact .each (q h) hn I (B y)
 |either h _ _ j n=>exact .either (q h) j n
 |both h _ _ j n=>exact .both (q h) j n
 |but h y _ u=>exact .but (q h) (B y) u
def Ww(ws:List (List Nat)):Prop:=ws.length<=100000/\∀w∈ws,w.length<=100000
def Ww.tail{w:OG}(h:Ww (w::r)):Ww r:=⟨by have:=h.1;rw[Sy]at this;lia,λx c=>h.2 x (SB _ c)⟩
inductive ZqV(t:Z0)(vs:List V)(H:Hp)(Q:VK)(E:XK):Prop|mk (l:Addr) (ws:List (List Nat)) (_:vs=[.ref l]) (_:H l=some (.lst (XM ws))) (_:Ww ws) (_:(∀w r,ws=w::r->Q (wS w) (upd H l (.lst (XM r))))) (_:(ws=[]->E (.ref t.Xw) none H))
def RH(c:Zs K mg t):Zl P w K mg base (Yf P w) 1 t.ZdJ t.ZdK ["left"] (ZqV t):=by
 erw[c.MN.F.okX ZmD () λn A outer s H j Q E i h=>?_];ext⟨l,ws,rfl,f,ok,q,e⟩ h;erw[⟨_,(Zi (ZH (Ya Yn (ZV X0 c.Xh Xf (Zc (pv 0))) Zb) (Ze (Xc Xb c.U3 R R c.UC (Zc Zq))) ZJ) (Ze (Zt (Zi3 PySem.F.plainAttrs_list PySem.F.slot_list_pop PySem.F.type_list_pop Zi7 (pv 0))))),?_⟩];erw[⟨_,R,l,XM ws,R,.inl (Zd.of f),R,_,R,?_⟩];cases ws with
 |nil=>exact ZB () ⟨zL9 R,e R⟩
 |cons w r =>
  erw[Zn (by rw[SR (by intro z;have g:=V.int.inj z;rw[ZqU,Sy]at g;lia)];lia) ?_];erw[⟨_,R,.inl ⟨R,_,Zd.of f⟩,l,XM (w::r),wS w,R,R,f,?_,?_⟩];rw[Zg8,Su,Sw,Nat.add_sub_cancel,Ob (Sg _),Nat.sub_self];rfl;rw[Zg8,List.dropLast_concat];exact q w r R
inductive ZqW(t:Z0)(vs:List V)(H:Hp)(Q:VK)(E:XK):Prop|mk (l:Addr) (ws:List (List Nat)) (_:vs=[.ref l]) (_:H l=some (.lst (XM ws))) (_:Ww ws) (_:(∀w r,ws=w::r->∀H',Zf (upd H l (.lst (XM r))) H'->Q (Ml (XD w)) H')) (_:(ws=[]->E (.ref t.Xw) none H))
def Zae{w:OG}(h:w.length<=100000):(⟨w.toArray⟩:Str).length<=sizeLine:=by
 show w.toArray.size<=sizeLine;rw[SN];exact Sh h ()
def Zaf(c:Zs K mg t):Zl P w K mg base (Yf P w) 3 t.ZdL t.ZdM ["left"] (ZqW t):=by
 erw[c.PP.F.okX ZmE () λv A outer s H u Q E f h=>?_];ext⟨l,ws,rfl,n,ok,q,e⟩ h;erw[⟨_,(Ze (Zt (Zr c.PN (Zac c) f Zk (Zc (Zr c.MN (RH c) f Yh (Zc (pv 0))))))),?_⟩];erw[⟨_,R,l,ws,R,n,ok,λw r g=>⟨⟨w.toArray⟩,R,Zae (ok.2 w (by rw[g];exact SD)),λi j=>?_⟩,e⟩];exact q w r g i j
theorem Nr(c:Nat):∀(l:OG),∀p∈spl c l,p.length<=l.length
 |[],p,f=>by
  have:p=[]:=by simpa [spl]using f
  rw[this];exact Sg _
 |x::r,p,f=>by
  unfold spl at f;by_cases h:x=c;rw[SV h]at f;rcases SF.mp f with rfl|f;exact Sk _;exact Nat.le_succ_of_le (Nr c r p f);rw[SU h]at f;cases q:spl c r with
  |nil=>exact Os q (TD c r)
  |cons w ws =>
   rw[q]at f;rcases SF.mp f with rfl|f;have:=Nr c r w (by rw[q];exact SD);rw[Sy,Sy];lia;exact Nat.le_succ_of_le (Nr c r p (by rw[q];exact SB _ f))
def Ww.spl{l:OG}(h:l.length+1<=100000):Ww (L2.spl c l):=⟨Sh (N3 c l) h,λw f=>Sh (Nr c l w f) ()⟩
inductive ZqX(t:Z0)(vs:List V)(H:Hp)(Q:VK)(E:XK):Prop|mk (l:Addr) (ws:List (List Nat)) (_:vs=[.ref l]) (_:H l=some (.lst (XM ws))) (_:Ww ws) (_:(∀w r,ws=w::r->∀p H',Zf (upd H l (.lst (XM r))) H'->H p=none->H' p=some (.lst ((A7 w).map Ml))->Q (.ref p) H')) (_:(ws=[]->E (.ref t.Xw) none H))
def Zg9(f:Zs K mg t):Zl P w K mg base (Yf P w) 3 t.ZdN t.ZdO ["left"] (ZqX t):=by
 erw[f.jR.F.okX ZmF () λa0 A outer s H Y d0 b0 I h=>?_];ext⟨l,ws,rfl,U,ok,q,e⟩ h;erw[⟨_,(Ze (Zt (Xv (cl:=[]) (N:=["part"]) (fr:=[none]) R (Xl (Xa PySem.F.plainAttrs_str PySem.F.slot_str_split PySem.F.type_str_split N4 (Zr f.MN (RH f) I Yh (Zc (pv 0))) (Zc Zq))) R () R () trivial trivial R (λ_ _ _ _ _=>(ZZ 0 (show List.Nodup (["part"]:OC) by lia))) (λ_ _ _ _ _=>Xu) (λ_ _ _ _ _=>(Zr f.PN (Zac f) I Zk (Zc (pv 0))))))),?_⟩];erw[⟨_,R,l,ws,R,U,ok,λw r G=>?_,e⟩];have lw:=ok.2 w (by rw[G];exact SD);have hn:(L2.spl 44 w).length<=100001:=Sh (N3 44 w) ();have L:(⟨w.toArray⟩:Str).length+2<=sizeLine:=by
  show w.toArray.size+2<=sizeLine;rw[SN];exact Sh (Nat.add_le_add_right lw 2) ()
 erw[⟨R,⟨w.toArray⟩,44,R,congrArg (λz=>[V.str z]) zN,L,λp D=>?_⟩];have J:p≠l:=λz=>by rw[z,Zh]at D;cases D
 have c0:H p=none:=by rw[<-D,Zj J]
 have Q:(⟨w.toArray⟩:Str).cps.toList=w:=rfl;have E:((L2.spl 44 w).map wS).length=(L2.spl 44 w).length:=Sv ..;rw[Q];refine⟨p,R,⟨_,Zd.of Zh⟩,Uh (K:=K) (a:=p) (xs:=(L2.spl 44 w).map wS) (λi B j n=>Zf (upd (upd H l (.lst (XM r))) p (.lst ((L2.spl 44 w).map wS))) n/\B=(((L2.spl 44 w).take i).map λx=>Ml (XD x))/\∃v,j=[v])
  ⟨Zf.refl _,R,_,R⟩ (by rw[E];exact Sh hn ()) (λi B j n _ ⟨c,_⟩=>Zd.of (c _ _ Zh)) ?_ ?_⟩
 rintro i x B j n ha g ⟨c,C,v,rfl⟩;rw[Oa]at g;cases u:(L2.spl 44 w)[i]? with
 |none=>rw[u]at g;cases g
 |some y =>
  rw[u]at g;obtain rfl:wS y=x:=So g;have M:=Nr 44 w y (SK u);dsimp only[YV,X2];rw[SV R];erw[⟨_,R,⟨y.toArray⟩,R,Zae (Sh M lw),λZ S=>⟨?_,c.trans S,?_,_,R⟩⟩];rw[Su,Sw];lia;rw[C,SZ,u];simp
 rintro B j n ha ⟨c,C,v,rfl⟩ p3 g3;rw[E,List.take_length]at C;have X:H p3=none:=by
  have z:=c.free g3;have O:p3≠p:=λy=>by rw[y,Zh]at z;cases z
  rw[Zj O]at z;have T:p3≠l:=λy=>by rw[y,Zh]at z;cases z
  rw[Zj T]at z;exact z
 erw[q w r G p3 _ (((Zx D _).trans c).trans (Zx g3 _)) X ?_];rw[Zh,C];unfold A7;rw[Oe];rfl
theorem Zha(c:Nat):∀l:List Nat,bv (l++[c])=bv l+(c - 48)*2 ^ l.length
 |[]=>by simp[bv]
 |x::r=>by
  show(x - 48)+2*bv (r++[c])=(x - 48)+2*bv r+(c - 48)*2 ^ (r.length+1);rw[Zha c r,Nat.pow_succ];generalize bv r=B;generalize 2 ^ r.length=Z;rw[show(c - 48)*(Z*2)=2*((c - 48)*Z) by rw[<-Nat.mul_assoc,Nat.mul_comm]];lia
def Zhb(c:Nat):UO (.str ⟨#[c]⟩) [.str (OK "0"),.str (OK "1")]=(c==48 || c==49):=by
 have g:OK "0"=⟨#[48]⟩:=by lia
 have f:OK "1"=⟨#[49]⟩:=by lia
 rw[g,f];have k:∀d:Nat,((⟨#[d]⟩:Str)==⟨#[c]⟩)=(c==d):=λd=>by
  rw[Bool.eq_iff_iff,beq_iff_eq,beq_iff_eq];constructor;intro h;have:=congrArg (λz:Str=>z.cps.toList) h;simp at this;exact this.symm;intro h;rw[h]
 show((⟨#[48]⟩:Str)==⟨#[c]⟩ || (((⟨#[49]⟩:Str)==⟨#[c]⟩) || false))=_;rw[k,k,Bool.or_false]
def ZqY(h:(c==48 || c==49)=true):PySem.intText? ⟨#[c]⟩=some (((c - 48:Nat)):Int):=by
 rcases(Bool.or_eq_true _ _).mp h with h|h<;>(rw[eq_of_beq h];lia)
inductive ZqZ(t:Z0)(vs:List V)(H:Hp)(Q:VK)(E:XK):Prop|mk (l:Addr) (ws:List (List Nat)) (_:vs=[.ref l]) (_:H l=some (.lst (XM ws))) (_:Ww ws) (_:(∀w r b,ws=w::r->A6 w=some b->∀H',Zf (upd H l (.lst (XM r))) H'->Q (.int (b:Nat)) H')) (_:((ws=[]\/∃w r,ws=w::r/\A6 w=none)->∀H',Kp l H H'->E (.ref t.Xw) none H'))
def Zq0(f:Zs K mg t):Zl P w K mg base (Yf P w) 2 t.ZdP t.ZdQ ["left"] (ZqZ t):=by
 erw[f.ZfI.F.okX J1 () λa0 A outer s H vs b0 E X h=>?_];ext⟨l,ws,rfl,Z,ok,q,e⟩ h;erw[⟨_,(Zi (ZL 1 J1.nd (Zr f.MN (RH f) X Yh (Zc (pv 0)))) (Zi (ZH (Ya Q6 (ZV LZ f.Xh Xf (Zc (pv 1))) (YA R f.jL)) (Ze (Xc Xb f.U3 R R f.UC (Zc Zq))) ZJ) (Zi (ZL 2 J1.nd Zb) (Zi (NL PassesOwn.leaving R (Zl9 R f.PH (Zc (pv 1))) (V9 (n:=2) R (Xk (ZZ 3 J1.nd) (Xk (ZZ 4 J1.nd) V8))) (Zi (ZH (LV Zi1 (pv 4) (YX (Zv Zq Zq)) R) (Ze (Xc Xb f.U3 R R f.UC (Zc Zq))) ZJ) (Ze (ZL 2 J1.nd (Zg Yr (pv 2) (Zg ZaT (Z5 Mf R f.Xs Xr (Zc (pv 4))) (pv 3))))))) (Ze (Zt (pv 2))))))),?_⟩];erw[⟨_,R,l,ws,R,Z,ok,λw r C=>?_,λz=>e (.inl z) _ (λ_ _ _ y=>y)⟩];have lw:=ok.2 w (by rw[C];exact SD);have G:A6 w=none->∀g,Zf (upd H l (.lst (XM r))) g->E (.ref t.Xw) none g:=λI g u=>e (.inr ⟨w,r,C,I⟩) g ((Kp.upd l H _).trans (Kp.of u));erw[⟨_,R,⟨w.toArray⟩,R,Zae lw,R,_,R,?_⟩];have D:(⟨w.toArray⟩:Str).length=w.length:=SN ..;by_cases x:w.length=7
 rotate_left
 erw[ZB (by rw[D,SR (λz=>x (by have:=V.int.inj z;lia))];rfl) ⟨zL9 R,G (SU λz=>x z.1) _ (Zf.refl _)⟩];erw[Zn (by rw[D,x];lia) ?_];refine⟨_,R,⟨w.toArray⟩,R,Zma (z:=⟨w.toArray⟩) (λi B g=>Zf (upd H l (.lst (XM r))) g/\(w.take i).all (λc=>c==48 || c==49)=true/\∃a b,B=[some (.ref l),some (wS w),some (.int ((bv (w.take i):Nat):Int)),a,b])
  ⟨Zf.refl _,R,_,_,R⟩ ?_ ?_⟩
 rintro i c p B g T U ⟨u,ha,a,b,rfl⟩;have v:w[i]? = some c:=T;have Y:=u.trans (Zx U (.tup [.int i,.str ⟨#[c]⟩]));dsimp only[ZaQ,ZaP,YV,ZaO];erw[⟨p,_,R,Zp.of Zh,R,?_⟩];erw[⟨_,_,R,_,_,R,R,?_⟩];erw[⟨_,R,zL9 R,λJ g1=>⟨J,_,R,.inr (Zp.of Zh),R,R,_,R,?_⟩⟩];have s2:=Y.trans (Zx g1 (.tup [.str (OK "0"),.str (OK "1")]));have Q:c∈w:=SK v;cases j:(c==48 || c==49)with
 |false =>
  erw[ZB (by rw[SV R,Zhb,j];rfl) ⟨zL9 R,G (SU λz=>?_) _ s2⟩];rw[List.all_eq_true.mp z.2 c Q]at j;cases j
 |true =>
  erw[Zn (by rw[SV R,Zhb,j];lia) ?_];have S:i<w.length:=(Sr.mp v).1;erw[⟨_,R,_,R,⟨#[c]⟩,_,R,ZqY j,by show 1<=640;lia,_,R,_,_,R,R,⟨(),(),?_⟩,_,_,R,R,?_⟩];have:c - 48<=1:=by
   rcases(Bool.or_eq_true _ _).mp j with z|z<;>(rw[eq_of_beq z];lia)
  exact Sj (show(((c - 48:Nat)):Int).natAbs<=1 by rw[Int.natAbs_natCast];exact this) ();erw[⟨s2,?_,some (.int (i:Int)),some (.str ⟨#[c]⟩),?_⟩];rw[SZ,v];show((w.take i)++[c]).all _=true;rw[List.all_append,ha];show((c==48 || c==49) && true)=true;rw[j];rfl;have L:((bv (w.take i):Nat):Int)+(((c - 48:Nat)):Int)*2 ^ (i:Int).toNat=((bv (w.take (i+1)):Nat):Int):=by
   rw[SZ,v];show _=((bv ((w.take i)++[c]):Nat):Int);rw[Zha,Sx,Nat.min_eq_left (Nat.le_of_lt S),Int.natCast_add,Int.natCast_mul,Int.natCast_pow,Int.toNat_natCast];rfl
  rw[<-L];rfl
 rintro B g ⟨u,ha,a,b,rfl⟩;have O:w.take w.toArray.size=w:=by rw[SN,List.take_length]
 have M:w.take (⟨w.toArray⟩:Str).cps.size=w:=O;rw[M]at ha ⊢;exact⟨_,R,q w r (bv w) C (SV ⟨x,ha⟩) _ u⟩
inductive Zq1(t:Z0)(K:Ox)(d:Nat)(vs:List V)(H:Hp)(Q:VK)(_e3:XK):Prop|mk (l:Addr) (T:RT) (rest:List (List Nat)) (_:vs=[.ref l,.int d]) (_:d<=8) (_:H l=some (.lst (XM (T.words.map ZA++rest)))) (_:Ww (T.words.map ZA++rest)) (_:T.good) (_:T.weight<=15) (_:T.depth<=d) (_:∀b H',Kp l H H'->H' l=some (.lst (XM rest))->ZP (rc t) K H' b T->Q (.ref b) H')
def Y0(w:OG)(s:String):decide (V.str (⟨w.toArray⟩:Str)=V.str (OK s))=decide (w=kw s):=Mm
def Ww.suf(h:Ww b)(s:a <:+ b):Ww a:=⟨Sh s.length_le h.1,λw c=>h.2 w (s.subset c)⟩
def Zhc(ds:OG):(ds.map some).map Ml=ZN ds:=by rw[Oe];rfl
def Zq2(f:Zs K mg t):∀d:Nat,Zl P w K mg base (Yf P w) (d+46) t.ZdH t.ZdI ["left","deep"] (Zq1 t K d):=by
 intro d;induction d with
 |zero =>
  erw[f.XI.F.okX yR (λvs H i0 h0 h=>?_) (λm0 A outer s H vs i0 h0 j h=>?_)];ext⟨l,T,rest,rfl,_⟩ h;rfl;ext⟨l,T,rest,rfl,d8,hl,ok,g,hw,hd,q⟩ h;have:=T.depth_pos;lia
 |succ d X =>
 erw[f.XI.F.okX yR () λm0 A outer s H vs i0 h0 j h=>?_];ext⟨l,T,rest,rfl,d8,hl,ok,g,hw,hd,q⟩ h;erw[⟨_,(Zi (ZH (Ya Yn (pv 1) Zb) (Ze (Xc Xb f.U3 R R f.UC (Zc Zq))) ZJ) (Zi (ZL 2 yR.nd (Zr f.MN (RH f) j Yh (Zc (pv 0)))) (Zi (ZH (Ya Yn (pv 2) Zq) (Ze (Zt (N8 f.Rk R f.B8))) ZJ) (Zi (ZH (Ya Yn (pv 2) Zq) (Ze (Zt (We f.kL (Zgz f) (j.mono ()) R f.kW f.PV.b .nil Zk (Zc (Zr f.ZfI (Zq0 f) j Yh (Zc (pv 0))))))) ZJ) (Zi (ZH (Ya Yn (pv 2) Zq) (Ze (Zt (We f.kN (Zgv f) (j.mono ()) R f.kX f.PX.b .nil Zk (Ym (Zr f.PP (Zaf f) j Yh (Zc (pv 0))) (Zr f.PP (Zaf f) j Yh (Zc (pv 0))) (WU X (j.mono ()) R f.XI.m f.XI.F.kp f.XI.b .nil Yh (Zv (pv 0) (Zg VI (pv 1) Zb))))))) ZJ) (Zi (ZH (Ya Yn (pv 2) Zq) (Ze (Zt (We f.kO (ZgA f) (j.mono ()) R f.kY f.P6.b .nil Zk (Zv (Zr f.PP (Zaf f) j Yh (Zc (pv 0))) (Zr f.jR (Zg9 f) j Yh (Zc (pv 0))))))) ZJ) (Zi (ZH (Ya Yn (pv 2) Zq) (Ze (Zt (We f.kP (Zgx f) (j.mono ()) R f.kZ f.P7.b .nil Zk (Zv (WU X (j.mono ()) R f.XI.m f.XI.F.kp f.XI.b .nil Yh (Zv (pv 0) (Zg VI (pv 1) Zb))) (WU X (j.mono ()) R f.XI.m f.XI.F.kp f.XI.b .nil Yh (Zv (pv 0) (Zg VI (pv 1) Zb))))))) ZJ) (Zi (ZH (Ya Yn (pv 2) Zq) (Ze (Zt (We f.kQ (Zgy f) (j.mono ()) R f.gA f.Rb.b .nil Zk (Zv (WU X (j.mono ()) R f.XI.m f.XI.F.kp f.XI.b .nil Yh (Zv (pv 0) (Zg VI (pv 1) Zb))) (WU X (j.mono ()) R f.XI.m f.XI.F.kp f.XI.b .nil Yh (Zv (pv 0) (Zg VI (pv 1) Zb))))))) ZJ) (Zi (ZH (Ya Yn (pv 2) Zq) (Ze (Zt (We f.kR (Zgw f) (j.mono ()) R f.gB f.Rg.b .nil Zk (Zv (Zr f.jR (Zg9 f) j Yh (Zc (pv 0))) (WU X (j.mono ()) R f.XI.m f.XI.F.kp f.XI.b .nil Yh (Zv (pv 0) (Zg VI (pv 1) Zb))))))) ZJ) (Ze (Xc Xb f.U3 R R f.UC (Zc Zq)))))))))))),?_⟩];sleep 10;erw[⟨_,R,R,_,R,Zn (by rw[SR (by intro z;have:=V.int.inj z;lia)];lia) ?_⟩];sleep 1;have go:∀(w:OG) (r:List (List Nat)),T.words.map ZA++rest=w::r->Kp l H (upd H l (.lst (XM r)))/\Ww r:=λw r e=>⟨Kp.upd l H _,(e ▸ ok).tail⟩;erw[⟨_,R,l,_,R,hl,ok,λw r E=>?_,λz=>Os (List.append_eq_nil_iff.mp z).1 (λl0=>Pq T (List.map_eq_nil_iff.mp l0))⟩];obtain⟨Q,C⟩:=go w r E;clear go;cases T with
 |always =>
  obtain⟨rfl,rfl⟩:=List.cons.inj E;erw[⟨_,R,R,_,R,ZB (by rw[Y0];exact SQ R) ?_⟩];sleep 1;intro x L nx nd S;have s1:=Xp nx (Xp nd (Zf.refl _) (.own x)) (.ins t.YJ L []);exact q x _ (Q.trans (Kp.of s1)) (s1 _ _ Zh) (.always Zh)
 |week b =>
  obtain⟨rfl,rfl⟩:=List.cons.inj E;erw[⟨_,R,R,_,R,Zn (by rw[Y0];lia) ?_⟩];erw[⟨_,R,R,_,R,ZB (by rw[Y0];exact SQ R) ?_⟩];sleep 1;have eb:=Zcz b (Nat.lt_succ_of_le g);erw[⟨_,R,l,_,R,Zh,C,λw1 r1 b' O Y B s2 x L nx nd S=>?_,λz=>?_⟩];obtain⟨rfl,rfl⟩:=List.cons.inj O;obtain rfl:b=b':=So (eb.symm.trans Y);have u:Kp l H B:=Q.trans ((Kp.upd l _ _).trans (Kp.of s2));exact⟨x,B,_,R,Wu nx nd,g,λv G a0=>⟨R,q x v (u.trans (Kp.of G)) (G _ _ (s2 _ _ Zh)) (a0.same (WE _ _))⟩⟩;rcases z with z|⟨w1,r1,z,z2⟩;cases z;obtain⟨rfl,rfl⟩:=List.cons.inj z;rw[show A6 (ZA (QG b))=some b from eb]at z2;cases z2
 |span a b T =>
  obtain⟨rfl,rfl⟩:=List.cons.inj E;erw[⟨_,R,R,_,R,Zn (by rw[Y0];lia) ?_⟩];erw[⟨_,R,R,_,R,Zn (by rw[Y0];lia) ?_⟩];erw[⟨_,R,R,_,R,ZB (by rw[Y0];exact SQ R) ?_⟩];sleep 1;have ed:(RT.span a b T).depth=1+T.depth:=rfl;have c0:(RT.span a b T).weight=1+T.weight:=rfl;have na:=MD (n:=a) (by have:=g.1;have:=g.2.1;lia);have nb:=MD (n:=b) (by have:=g.1;have:=g.2.1;lia);erw[⟨_,R,l,_,R,Zh,C,λw1 r1 O B s2=>?_,λz=>nomatch z⟩];obtain⟨rfl,rfl⟩:=List.cons.inj O;have u:Kp l H B:=Q.trans ((Kp.upd l _ _).trans (Kp.of s2));have y:=C.tail;erw[⟨_,R,l,_,R,s2 _ _ Zh,y,λw2 r2 Y v G=>?_,λz=>nomatch z⟩];obtain⟨rfl,rfl⟩:=List.cons.inj Y;have J:Kp l H v:=u.trans ((Kp.upd l _ _).trans (Kp.of G));erw[⟨_,R,_,R,_,_,R,R,l,T,rest,congrArg (λi=>[V.ref l,V.int i]) (),(),G _ _ Zh,y.tail,g.2.2,(),(),λc H4 k4 e0 a0 x L nx nd S=>?_⟩];have M:=J.trans k4;erw[⟨x,c,H4,a,b,T,?_,Wu nx nd,a0,g,hw,(),(),λD s5 rt=>⟨R,q x D (M.trans (Kp.of s5)) (s5 _ _ e0) (rt.same (WE _ _))⟩⟩];rw[show XD (ZA (YB a))=some a from na,show XD (ZA (YB b))=some b from nb];rfl
 |each n ss =>
  obtain⟨rfl,rfl⟩:=List.cons.inj E;erw[⟨_,R,R,_,R,Zn (by rw[Y0];lia) ?_⟩];erw[⟨_,R,R,_,R,Zn (by rw[Y0];lia) ?_⟩];erw[⟨_,R,R,_,R,Zn (by rw[Y0];lia) ?_⟩];erw[⟨_,R,R,_,R,ZB (by rw[Y0];exact SQ R) ?_⟩];sleep 1;have nn:=MD (n:=n) (by have:=g.1;have:=g.2.1;lia);have ns:=zO (ds:=ss) (λz=>by have:=g.2.2.one;rw[z]at this;cases this) (λx hx=>by have:=(g.2.2.all x hx).2;have:=g.2.1;lia);erw[⟨_,R,l,_,R,Zh,C,λw1 r1 O B s2=>?_,λz=>nomatch z⟩];obtain⟨rfl,rfl⟩:=List.cons.inj O;have u:Kp l H B:=Q.trans ((Kp.upd l _ _).trans (Kp.of s2));have y:=C.tail;erw[⟨_,R,l,_,R,s2 _ _ Zh,y,λw2 r2 Y p v G hp j0 x L nx nd S=>?_,λz=>nomatch z⟩];obtain⟨rfl,rfl⟩:=List.cons.inj Y;have J:Kp l H v:=u.trans ((Kp.upd l _ _).trans (Kp.of G));rw[show A7 (ZA (WZ ss))=ss.map some from ns,Zhc]at j0;erw[⟨x,p,v,n,ss,?_,Wu nx nd,j0,g,λD s5 rt=>⟨R,q x D (J.trans (Kp.of s5)) (s5 _ _ (G _ _ Zh)) (rt.same (WE _ _))⟩⟩];rw[show XD (ZA (YB n))=some n from nn];rfl
 |either T U =>
  obtain⟨rfl,rfl⟩:=List.cons.inj E;erw[⟨_,R,R,_,R,Zn (by rw[Y0];lia) ?_⟩];erw[⟨_,R,R,_,R,Zn (by rw[Y0];lia) ?_⟩];erw[⟨_,R,R,_,R,Zn (by rw[Y0];lia) ?_⟩];erw[⟨_,R,R,_,R,Zn (by rw[Y0];lia) ?_⟩];erw[⟨_,R,R,_,R,ZB (by rw[Y0];exact SQ R) ?_⟩];sleep 1;have ed:(RT.either T U).depth=1+max T.depth U.depth:=rfl;have c0:(RT.either T U).weight=1+(T.weight+U.weight):=rfl;have Z:(T.words++U.words).map ZA++rest=T.words.map ZA++(U.words.map ZA++rest):=by rw[SL,Od]
  have y:Ww (T.words.map ZA++(U.words.map ZA++rest)):=Z ▸ C;erw[⟨_,R,_,R,_,_,R,R,l,T,U.words.map ZA++rest,congrArg (λi=>[V.ref l,V.int i]) (),(),?_,y,g.1,(),(),λc B J I b0=>?_⟩];exact Zh.trans (by rw[<-Z];rfl);have u:=Q.trans J;erw[⟨_,R,_,R,_,_,R,R,l,U,rest,congrArg (λi=>[V.ref l,V.int i]) (),(),I,y.suf (List.suffix_append _ _),g.2,(),(),λe v M f0 d0 x L nx nd S=>?_⟩];exact⟨x,c,e,v,T,U,R,Wu nx nd,ZP.kp I M b0,d0,g,hw,(),(),(),λD s5 rt=>⟨R,q x D ((u.trans M).trans (Kp.of s5)) (s5 _ _ f0) (rt.same (WE _ _))⟩⟩
 |both T U =>
  obtain⟨rfl,rfl⟩:=List.cons.inj E;erw[⟨_,R,R,_,R,Zn (by rw[Y0];lia) ?_⟩];erw[⟨_,R,R,_,R,Zn (by rw[Y0];lia) ?_⟩];erw[⟨_,R,R,_,R,Zn (by rw[Y0];lia) ?_⟩];erw[⟨_,R,R,_,R,Zn (by rw[Y0];lia) ?_⟩];erw[⟨_,R,R,_,R,Zn (by rw[Y0];lia) ?_⟩];erw[⟨_,R,R,_,R,ZB (by rw[Y0];exact SQ R) ?_⟩];sleep 1;have ed:(RT.both T U).depth=1+max T.depth U.depth:=rfl;have c0:(RT.both T U).weight=1+(T.weight+U.weight):=rfl;have Z:(T.words++U.words).map ZA++rest=T.words.map ZA++(U.words.map ZA++rest):=by rw[SL,Od]
  have y:Ww (T.words.map ZA++(U.words.map ZA++rest)):=Z ▸ C;erw[⟨_,R,_,R,_,_,R,R,l,T,U.words.map ZA++rest,congrArg (λi=>[V.ref l,V.int i]) (),(),?_,y,g.1,(),(),λc B J I b0=>?_⟩];exact Zh.trans (by rw[<-Z];rfl);have u:=Q.trans J;erw[⟨_,R,_,R,_,_,R,R,l,U,rest,congrArg (λi=>[V.ref l,V.int i]) (),(),I,y.suf (List.suffix_append _ _),g.2,(),(),λe v M f0 d0 x L nx nd S=>?_⟩];exact⟨x,c,e,v,T,U,R,Wu nx nd,ZP.kp I M b0,d0,g,hw,(),(),(),λD s5 rt=>⟨R,q x D ((u.trans M).trans (Kp.of s5)) (s5 _ _ f0) (rt.same (WE _ _))⟩⟩
 |but ds T =>
  obtain⟨rfl,rfl⟩:=List.cons.inj E;erw[⟨_,R,R,_,R,Zn (by rw[Y0];lia) ?_⟩];erw[⟨_,R,R,_,R,Zn (by rw[Y0];lia) ?_⟩];erw[⟨_,R,R,_,R,Zn (by rw[Y0];lia) ?_⟩];erw[⟨_,R,R,_,R,Zn (by rw[Y0];lia) ?_⟩];erw[⟨_,R,R,_,R,Zn (by rw[Y0];lia) ?_⟩];erw[⟨_,R,R,_,R,Zn (by rw[Y0];lia) ?_⟩];erw[⟨_,R,R,_,R,ZB (by rw[Y0];exact SQ R) ?_⟩];sleep 1;have ed:(RT.but ds T).depth=1+T.depth:=rfl;have c0:(RT.but ds T).weight=1+T.weight:=rfl;have ns:=zO (ds:=ds) (λz=>by have:=g.1.one;rw[z]at this;cases this) (λx hx=>by have:=(g.1.all x hx).2;lia);erw[⟨_,R,l,_,R,Zh,C,λw1 r1 O p B s2 hp g0=>?_,λz=>nomatch z⟩];obtain⟨rfl,rfl⟩:=List.cons.inj O;have u:Kp l H B:=Q.trans ((Kp.upd l _ _).trans (Kp.of s2));rw[show A7 (ZA (WZ ds))=ds.map some from ns,Zhc]at g0;have I:=s2 _ _ Zh;have pl:p≠l:=λz=>by rw[z,Zh]at hp;cases hp
  erw[⟨_,R,_,R,_,_,R,R,l,T,rest,congrArg (λi=>[V.ref l,V.int i]) (),(),I,C.tail,g.2,(),(),λc H4 k4 e0 a0 x L nx nd S=>?_⟩];exact⟨x,p,c,H4,ds,T,R,Wu nx nd,k4 _ _ pl g0,a0,g,hw,(),(),λD s5 rt=>⟨R,q x D ((u.trans k4).trans (Kp.of s5)) (s5 _ _ e0) (rt.same (WE _ _))⟩⟩
inductive Zq3(t:Z0)(K:Ox)(vs:List V)(H:Hp)(Q:VK)(_e3:XK):Prop|mk (T:RT) (_:vs=[.str (Wj T)]) (_:T.good) (_:T.weight<=15) (_:T.depth<=8) (_:∀b H',Zf H H'->ZP (rc t) K H' b T->Q (.ref b) H')
def Zq4(c:Zs K mg t):Zl P w K mg base (Yf P w) 55 t.ZdF t.ZdG ["text"] (Zq3 t K):=by
 erw[c.ZfH.F.okX yP () λS A outer s H O Q E L h=>?_];ext⟨T,rfl,g,u,hd,q⟩ h;erw[⟨_,(Zi (ZH (Yx (Yy (ZV Ug c.YR YQ (Zv (pv 0) (VM R c.VW VT))))) (Ze (Xc Xb c.U3 R R c.UC (Zc Zq))) ZJ) (Zi (ZL 1 yP.nd (Zl4 R R c.XH R c.Znz (Xa PySem.F.plainAttrs_str PySem.F.slot_str_split PySem.F.type_str_split N4 (pv 0) (Zc Zq)))) (Zi (ZlT ⟨R,R⟩ R ZlP c.U3 R c.Rq R c.UC (λpins U=>(Ze (ZL 2 yP.nd (Zr c.XI (Zq2 c 8) L ZlR (Zv (pv 1) (YA R c.ZfA)))))) (λa=>(Zc Zq))) (Zi (ZH (Ya Qi (ZV X0 c.Xh Xf (Zc (pv 1))) Zb) (Ze (Xc Xb c.U3 R R c.UC (Zc Zq))) ZJ) (Ze (Zt (pv 2))))))),?_⟩];sleep 5;erw[⟨_,R,.str (Wj T),"str",_,_,R,(Kd.str (H:=H) (Wj T)).ty,Mj (Kd.str (H:=H) (Wj T)),_,R,Zn () ?_⟩];sleep 1;have B:=ZcA g u;have D:(Wj T).length+2<=sizeLine:=Sh (Nat.add_le_add_right B 2) ();erw[⟨_,R,R,Wj T,32,R,(congrArg (λz=>[V.str z]) Qn),D,λf v=>⟨f,_,R,Zd.of Zh,λp J=>?_⟩⟩];have j:=Zx v (.lst ((spl 32 (Wj T).cps.toList).map λl=>V.str ⟨l.toArray⟩));have I:H p=none:=j.free J;have i:=ZlV g;have x:Ww (T.words.map ZA++[]):=by rw[Oc,<-i];exact Ww.spl (by rw[UW];lia)
 have sm:∀{H'},Kp p (upd (upd H f (.lst ((spl 32 (Wj T).cps.toList).map λl=>V.str ⟨l.toArray⟩))) p (.lst ((spl 32 (Wj T).cps.toList).map λl=>V.str ⟨l.toArray⟩).reverse)) H'->Zf H H':=λk a o e=>by
  have n:a≠p:=ZR e I;exact k a o n (by rw[Zj n];exact j a o e)
 erw[⟨_,R,p,T,[],R,(),Zh.trans ?_,x,g,u,hd,λb y C M G=>?_⟩];rw[Oc,<-i];rfl;exact⟨_,R,p,_,R,.inl (Zd.of M),_,_,R,R,_,R,Zn () ⟨_,R,q b y (sm C) G⟩⟩
inductive Zq5(t:Z0)(K:Ox)(vs:List V)(H:Hp)(Q:VK)(_e3:XK):Prop|mk (a:Addr) (r:RT) (_:vs=[.ref a]) (_:ZP (rc t) K H a r) (_:r.good) (_:r.weight<=15) (_:r.depth<=8) (_:∀H',Zf H H'->Q (.str (Wj r)) H')
def Zhd{r:RT}(g:r.good)(n:r.weight<=15):(r.words.map λx=>x.length+(OK " ").length).sum<=sizeLine:=by
 have u:=r.words_len;have e:(OK " ").length=1:=by lia
 have f:=zQ r g;have i:(r.words.map λx=>x.length+(OK " ").length).sum<=101*r.words.length:=by
  rw[e];generalize r.words=l at f;induction l with
  |nil=>simp
  |cons y q h =>
   have j:=(f y SD).2;have v:=h λx c=>f x (SB _ c);simp only[SM,List.sum_cons,Sy];lia
 exact Sh (Sh i (Nat.mul_le_mul_left 101 (show r.words.length<=45 by lia))) ()
def Zq6(c:Zs K mg t):Zl P w K mg base (Yf P w) 13 t.ZdD t.ZdE ["rule"] (Zq5 t K):=by
 erw[c.ZfG.F.okX ZmC () λT A outer s H S Q E J h=>?_];ext⟨a,r,rfl,h,g,O,hd,q⟩ h;erw[⟨_,(Zi (ZH (Yx (Yy (ZV Tw c.YR YQ (Zv (pv 0) (XR R c.B8))))) (Ze (Xc Xb c.U3 R R c.UC (Zc Zq))) ZJ) (Ze (Zt (Xa PySem.F.plainAttrs_str PySem.F.slot_str_join PySem.F.type_str_join QF Zq (Zc (WY (pv 0))))))),?_⟩];sleep 2;obtain⟨U,ty,D⟩:=gH c h;erw[⟨_,R,.ref a,t.YJ,_,_,R,ty,D,_,R,Zn () ?_⟩];sleep 1;obtain⟨C,v,fs,f,x,sp,M,L,i,u,I,B,j⟩:=(Zad (P:=P) (w:=w) (mg:=mg) (base:=base) c 8).at c h g () hd;erw[⟨R,_,R,a,C,v,fs,f,x,_,_,sp,Zo,E0,R,M,L,i,u,I,J.mono (),B,Zk,j _ λp n y X G=>?_⟩];exact⟨_,p,r.words,R,R,Zd.of G,Zhd g O,q n y⟩
def Ve:V->Str
 |.str z=>z
 |.int i=>toString i
 |_=>Str.empty
def QS(v:V):Prop:=(∃z,v=.str z/\z.length<=5000)\/∃n:Nat,v=.int (n:Nat)/\n<=10000
inductive Zq7(K:Ox)(vs:List V)(H:Hp)(Q:VK)(_e3:XK):Prop|mk (p:Addr) (xs:List V) (_:vs=[.ref p]) (_:Zd K H p xs) (_:xs.length<=200) (_:(∀v∈xs,QS v)) (_:∀H',Zf H H'->Q (.str (Str.join (OK " ") (xs.map Ve))) H')
def Zag(h:QS v):(Ve v).length<=5000:=by
 rcases h with⟨z,rfl,h⟩|⟨n,rfl,h⟩;exact h;by_cases e:n=10000;subst e;lia;exact Sh (Mp (n:=n) ()) ()
def Zq8{xs:List V}(c:xs.length<=200)(h:∀v∈xs,QS v):((xs.map Ve).map λx=>x.length+(OK " ").length).sum<=sizeLine:=by
 have e:(OK " ").length=1:=by lia
 have i:((xs.map Ve).map λx=>x.length+(OK " ").length).sum<=5001*xs.length:=by
  rw[e];clear c;induction xs with
  |nil=>simp
  |cons y q g =>
   have j:=Zag (h y SD);have n:=g λx f=>h x (SB _ f);simp only[SM,List.sum_cons,Sy];lia
 exact Sh (Sh i (Nat.mul_le_mul_left 5001 c)) ()
def Nt(j:Zs K mg t):Zl P w K mg base Zo 1 t.Zd9 t.Zea ["words"] (Zq7 K):=by
 erw[j.J9.F.ok ZmJ () λI A outer s H G Q E J h=>?_];ext⟨p,xs,rfl,y,B,ok,q⟩ h;erw[⟨_,(Ze (Zt (Xa PySem.F.plainAttrs_str PySem.F.slot_str_join PySem.F.type_str_join QF Zq (Zc (Xv (cl:=[]) (N:=["word"]) (fr:=[none]) R (Xl (pv 0)) R () R () trivial trivial R (λ_ _ _ _ _=>(ZZ 0 (show List.Nodup (["word"]:OC) by lia))) (λ_ _ _ _ _=>Xu) (λ_ _ _ _ _=>(Z5 Zmc R j.VW VT (Zc (pv 0))))))))),?_⟩];sleep 1;refine⟨R,_,R,p,R,⟨_,y⟩,Uh (K:=K) (a:=p) (xs:=xs) (λi f g c=>c=H/\f=((xs.take i).map Ve).map V.str/\∃v,g=[v]) ⟨R,R,_,R⟩
  (Sh B ()) (λi f g c _ ⟨e,_⟩=>by rwa[e]) ?_ ?_⟩
 rintro i x f g c ha u ⟨rfl,e,v,rfl⟩;have hm:=ok x (SK u);dsimp only[YV,X2];rw[SV R];have fin:(f++[V.str (Ve x)]).length<=i+1/\c=c/\f++[V.str (Ve x)]=((xs.take (i+1)).map Ve).map V.str/\∃v,([some x]:St)=[v]:=by
  erw[⟨by rw[Su,Sw];lia,R,?_,_,R⟩];rw[e,SZ,u];simp
 rcases hm with⟨z,rfl,_⟩|⟨n,rfl,hn⟩;exact⟨_,R,.str z R fin⟩;erw[⟨_,R,.int _ R ?_ fin⟩];by_cases e:n=10000;subst e;lia;exact G1 ();rintro f g c ha ⟨rfl,e,v,rfl⟩ D C;rw[List.take_length]at e;exact⟨_,D,xs.map Ve,R,R,Zd.of (by rw[Zh,e]),Zq8 B ok,q _ (Zx C _)⟩
def Xj(ws:List V):Str:=Str.join (OK " ") (ws.map Ve)
def U8(x:ZI):List V:=[.str (OK "stop"),.str x.nm,.int (x.z:Nat),.int (x.ch:Nat)]
def VG(h:Yc z):QS (.str z):=.inl ⟨z,R,Sh h.2.1 ()⟩
def Vu{z:Str}(h:z.length<=10):QS (.str z):=.inl ⟨z,R,Sh h ()⟩
def U9{n:Nat}(h:n<=10000):QS (.int n):=.inr ⟨n,R,h⟩
inductive Zq9(t:Z0)(vs:List V)(H:Hp)(Q:VK)(_e3:XK):Prop|mk (n:Addr) (N:ZD) (x:ZI) (_:vs=[.ref n,.str x.nm]) (_:XJ t H n N) (_:Yw ZI.nm N.st x.nm=some x) (_:Yc x.nm) (_:x.z<=10000) (_:x.ch<=10000) (_:∀H',Zf H H'->Q (.str (Xj (U8 x))) H')
def Zra(c:Zs K mg t):Zl P w K mg base (Yf P w) 5 t.Zeb t.Zec ["net","name"] (Zq9 t):=by
 erw[c.ZfP.F.okX ZmK () λU A outer s H T Q E j h=>?_];ext⟨n,N,x,rfl,hn,g,nm,J,L,q⟩ h;erw[⟨_,(Ze (Zt (Zr c.J9 (Nt c) j Zk (Zc (Z4 (Up Zq (pv 1) (Yz (pv 0) c.ZG c.MU.me (ZgP c) (j.mono ()) c.MU.b .nil Yh (Zc (pv 1))) (Yz (pv 0) c.ZG c.MV.me (ZgQ c) (j.mono ()) c.MV.b .nil Yh (Zc (pv 1))))))))),?_⟩];sleep 1;obtain⟨a,M⟩:=id hn;ext⟨C,fs,G,u⟩ M.ob;have B:YM ZI.nm N.st (.str x.nm)=true:=by show(Yw ZI.nm N.st x.nm).isSome=true;rw[g];rfl
 erw[⟨_,R,_,R,n,C,_,R,G,u.n_zone,_,R,n,N,.str x.nm,_,R,hn,.str _,λb=>(by rw[B]at b;cases b),λy f i=>?_⟩];obtain rfl:x=y:=So (g.symm.trans (V.str.inj f ▸ i));erw[⟨_,R,n,C,_,R,G,u.n_change,_,R,n,N,.str x.nm,_,R,hn,.str _,λb=>(by rw[B]at b;cases b),λy f i=>?_⟩];obtain rfl:x=y:=So (g.symm.trans (V.str.inj f ▸ i));erw[⟨zL9 R,λp S=>?_⟩];erw[⟨p,U8 x,R,Zd.of Zh,by show 4<=200;lia,?_,λI O=>q I ((Zx S _).trans O)⟩];intro v D;simp only[U8,SF,List.mem_nil_iff,or_false]at D;rcases D with rfl|rfl|rfl|rfl;exact Vu ();exact VG nm;exact U9 J;exact U9 L
def zT(zs:OG):Str:=Str.join (OK "") (zs.map YB)
theorem Zah:∀c:List Str,ZA (Str.join (OK "") c)=(c.map ZA).flatten
 |[]=>rfl
 |[p]=>by show ZA p=(ZA p::[]).flatten;rw[List.flatten_cons,List.flatten_nil,Oc]
 |p::q::r=>by
  have e:(OK "")=⟨#[]⟩:=by lia
  show ZA (p++OK "" ++ Str.join (OK "") (q::r))=ZA p++((q::r).map ZA).flatten;rw[zR,zR,Zah (q::r),e];show(ZA p++[])++_=_;rw[Oc]
def Zrb:∀z,z<=9->ZA (YB z)=[48+z]:=by lia
def RI{zs:OG}(h:∀z∈zs,z<=9):ZA (zT zs)=zs.map (48 + ·):=by
 unfold zT;rw[Zah];induction zs with
 |nil=>rfl
 |cons z r f =>
  rw[SM,SM,List.flatten_cons,f λx c=>h x (SB _ c),Zrb z (h z SD)];rfl
def Qa(x:YE):List V:=[.str (OK "ticket"),.str x.nm,.int (x.pr:Nat),.int (x.la:Nat),.str (zT x.zs)]
inductive Zrc(t:Z0)(vs:List V)(H:Hp)(Q:VK)(_e3:XK):Prop|mk (n:Addr) (N:ZD) (x:YE) (_:vs=[.ref n,.str x.nm]) (_:XJ t H n N) (_:Yw YE.nm N.tk x.nm=some x) (_:x.Ok) (_:∀H',Zf H H'->Q (.str (Xj (Qa x))) H')
def Zrd(c:Zs K mg t):Zl P w K mg base (Yf P w) 5 t.Zed t.Zee ["net","name"] (Zrc t):=by
 erw[c.ZfQ.F.okX xI () λa0 A outer s e0 vs c0 b0 J h=>?_];ext⟨n,N,x,rfl,hn,E,ok,q⟩ h;erw[⟨_,(Zi (ZL 2 xI.nd (Yz (pv 0) c.ZG c.MX.me (ZgS c) (J.mono ()) c.MX.b .nil Yh (Zc (pv 1)))) (Zi (ZL 3 xI.nd (Xa PySem.F.plainAttrs_str PySem.F.slot_str_join PySem.F.type_str_join QF Zq (Zc (Xv (cl:=[]) (N:=["zone"]) (fr:=[none]) R (Xl (ZE Yj (pv 2) Zb)) R () R () trivial trivial R (λ_ _ _ _ _=>(ZZ 0 (show List.Nodup (["zone"]:OC) by lia))) (λ_ _ _ _ _=>Xu) (λ_ _ _ _ _=>(Z5 Q7 R c.VW VT (Zc (pv 0)))))))) (Ze (Zt (Zr c.J9 (Nt c) J Zk (Zc (Z4 (pa5 Zq (pv 1) (ZE Yj (pv 2) Zb) (ZE Yj (pv 2) Zb) (pv 3))))))))),?_⟩];sleep 3;obtain⟨a,Y⟩:=id hn;ext⟨S,fs,e1,L⟩ Y.ob;have O:YM YE.nm N.tk (.str x.nm)=true:=by show(Yw YE.nm N.tk x.nm).isSome=true;rw[E];rfl
 erw[⟨_,R,n,S,_,R,e1,L.n_ticket,_,R,n,N,.str x.nm,_,R,hn,.str _,λb=>(by rw[O]at b;cases b),λy Q U v' H1 s1 T=>?_⟩];obtain rfl:x=y:=So (E.symm.trans (V.str.inj Q ▸ U));ext⟨r,l,rfl,C,d0,I⟩ T;have H:(ZN x.zs).length=x.zs.length:=Sv ..;have z6:=ok.z6;refine⟨R,_,R,r,_,2,_,R,R,Zp.of C,R,l,R,⟨_,Zd.of I⟩,Uh (K:=K) (a:=l) (xs:=ZN x.zs) (λi g u f=>f=H1/\g=((x.zs.take i).map YB).map V.str/\∃v,u=[v]) ⟨R,R,_,R⟩
  (by rw[H];exact Sh z6 ()) (λi g u f _ ⟨e,_⟩=>by rw[e];exact Zd.of I) ?_ ?_⟩
 rintro i v g u f ha j ⟨rfl,e,v0,rfl⟩;rw[Oa]at j;cases B:x.zs[i]? with
 |none=>rw[B]at j;cases j
 |some m =>
  rw[B]at j;obtain rfl:V.int (m:Int)=v:=So j;have hm:=(ok.rng m (SK B)).2;dsimp only[YV,X2];rw[SV R];erw[⟨_,R,_,R,G1 (),?_,R,?_,_,R⟩];rw[Su,Sw];lia;rw[e,SZ,B];simp[YB]
 rintro g u f ha ⟨rfl,e,v,rfl⟩ p2 M;rw[H,List.take_length]at e;have s2:=Zx M (.lst g);erw[⟨_,p2,x.zs.map YB,R,R,Zd.of (by rw[Zh,e]),Pd (m:=0) () (by rw[Sv];lia) (λz D=>?_),?_⟩];obtain⟨k,X,rfl⟩:=SJ.mp D;exact Sh (Mp (by have:=(ok.rng k X).2;lia)) ();erw[⟨_,R,_,R,r,_,0,_,R,R,Zp.of (s2 _ _ C),R,_,R,r,_,1,_,R,R,Zp.of (s2 _ _ C),R,_,R,zL9 R,λp hp=>?_⟩];erw[⟨p,Qa x,R,Zd.of Zh,by show 5<=200;lia,?_,λf Z=>q f ((s1.trans (s2.trans (Zx hp _))).trans Z)⟩];intro v G;simp only[Qa,SF,List.mem_nil_iff,or_false]at G;rcases G with rfl|rfl|rfl|rfl|rfl;exact Vu ();exact VG ok.nm;exact U9 ok.pr;exact U9 (Sh ok.la ());erw[Vu ?_];rw[<-UW,show(zT x.zs).cps.toList=_ from RI λz D=>Sh (ok.rng z D).2 (),Sv];lia
def Vf(c:Cl):List V:=[.str c.st,.str (wr c.ar),.str (wr c.lv)]
def Nu(ks:List Cl):((ks.map Vf).flatten).length=3*ks.length:=by
 induction ks with
 |nil=>rfl
 |cons k r c=>rw[SM,List.flatten_cons,Su,c,Sy];show 3+_=_;lia
def V2(x:Tp):List V:=[.str (OK "trip"),.str x.nm,.str x.ru]++(x.cs.map Vf).flatten
inductive Zre(t:Z0)(vs:List V)(H:Hp)(Q:VK)(_e3:XK):Prop|mk (n:Addr) (N:ZD) (x:Tp) (_:vs=[.ref n,.str x.nm]) (_:XJ t H n N) (_:Yw Tp.nm N.tp x.nm=some x) (_:Yc x.nm) (_:Yc x.ru) (_:x.cs.length<=6) (_:(∀c∈x.cs,Yc c.st/\c.ar<=2879/\c.lv<=2879)) (_:∀H',Zf H H'->Q (.str (Xj (V2 x))) H')
def Zrf(f:Zs K mg t):Zl P w K mg base (Yf P w) 5 t.Zef t.Zeg ["net","name"] (Zre t):=by
 erw[f.ZfR.F.okX MG () λh0 A outer s d0 vs j0 i0 v e0=>?_];ext⟨n,N,x,rfl,hn,I,nm,nr,c6,cs,q⟩ e0;erw[⟨_,(Zi (ZL 2 MG.nd (Z4 (Ym Zq (pv 1) (Yz (pv 0) f.ZG f.MY.me (ZgT f) (v.mono ()) f.MY.b .nil Yh (Zc (pv 1)))))) (Zi (NL PassesOwn.leaving R (Xl (Yz (pv 0) f.ZG f.MZ.me (ZgU f) (v.mono ()) f.MZ.b .nil Yh (Zc (pv 1)))) (V9 (n:=3) R (Xk (ZZ 3 MG.nd) (Xk (ZZ 4 MG.nd) (Xk (ZZ 5 MG.nd) V8)))) (Ze (Yg (Xa PySem.F.plainAttrs_list PySem.F.slot_list_extend PySem.F.type_list_extend Mb (pv 2) (Zc (Z4 (Ym (pv 3) (Zr f.jO (Zg2 f) v Yh (Zc (pv 4))) (Zr f.jO (Zg2 f) v Yh (Zc (pv 5)))))))))) (Ze (Zt (Zr f.J9 (Nt f) v Zk (Zc (pv 2))))))),?_⟩];sleep 3;obtain⟨a,hN⟩:=id hn;ext⟨dx,fs,e1,U⟩ hN.ob;have a0:YM Tp.nm N.tp (.str x.nm)=true:=by show(Yw Tp.nm N.tp x.nm).isSome=true;rw[I];rfl
 erw[⟨_,R,_,R,n,dx,_,R,e1,U.n_rule_name,_,R,n,N,.str x.nm,_,R,hn,.str _,λb=>(by rw[a0]at b;cases b),λy H L=>?_⟩];obtain rfl:x=y:=So (I.symm.trans (V.str.inj H ▸ L));erw[⟨zL9 R,λg b0=>?_⟩];have D:=Zx b0 (.lst [.str (OK "trip"),.str x.nm,.str x.ru]);have E:upd d0 g (.lst [.str (OK "trip"),.str x.nm,.str x.ru]) g=some (.lst [.str (OK "trip"),.str x.nm,.str x.ru]):=Zh;generalize upd d0 g (.lst [.str (OK "trip"),.str x.nm,.str x.ru])=H1 at D E ⊢;erw[⟨_,R,n,dx,_,R,D _ _ e1,U.n_calls,_,R,n,N,.str x.nm,_,R,hn.same D,.str _,λb=>(by rw[a0]at b;cases b),λy H L l us H2 s2 c0 Y X=>?_⟩];obtain rfl:x=y:=So (I.symm.trans (V.str.inj H ▸ L));have c2:=s2 _ _ E;have lw:l≠g:=λz=>by rw[z,E]at c0;cases c0
 have lu:=X.length;erw[⟨l,R,⟨_,Zd.of Y⟩,LS (K:=K) (a:=l) (xs:=us) (λi B u=>Kp g H2 u/\u g=some (.lst ([.str (OK "trip"),.str x.nm,.str x.ru]++((x.cs.take i).map Vf).flatten))/\∃T G J:Option V,B=[some (.ref n),some (.str x.nm),some (.ref g),T,G,J]) ⟨λ_ _ _ e=>e,c2,_,_,_,R⟩ (λi B u _ ⟨k,_⟩=>Zd.of (k _ _ lw Y)) ?_ ?_⟩];rintro i f0 B H3 hx ⟨C,j,T,G,J,rfl⟩;obtain⟨c,ec,p,rfl,Q⟩:=X.get hx;have S:=SK ec;have il:=(Sr.mp hx).1;have pp:p≠g:=λz=>by rw[z,c2]at Q;cases Q
 erw[⟨p,_,R,Zp.of (C _ _ pp Q),R,_,_,R,_,_,R,_,_,R,R,?_⟩];sleep 1;obtain⟨nc,ca,cl⟩:=cs c S;erw[⟨_,R,.inl ⟨R,_,Zd.of j⟩,_,R,_,R,.int (c.ar:Nat),_,R,.int _,.inl ⟨c.ar,R,ca,_,R,.int (c.lv:Nat),_,R,.int _,.inl ⟨c.lv,R,cl,zL9 R,λZ O=>?_⟩⟩⟩];have np:g≠Z:=λz=>by rw[<-z,j]at O;cases O
 erw[⟨g,Z,_,Vf c,R,R,(Zj np).trans j,Zh,?_,λb o nb e=>?_,?_,_,_,_,R⟩];rw[Su,Nu];exact Sh (show 3+3*(x.cs.take i).length+3<=100 by have:=List.length_take_le' i x.cs;lia) ();have M:=C _ _ nb e;rwa[Zj nb,Zj (λz=>by rw[z,O]at M;cases M)];rw[Zh,SZ,ec,SL,List.flatten_append];simp;rintro B H3 ⟨C,j,T,G,J,rfl⟩;rw[lu,List.take_length]at j;erw[⟨_,R,g,V2 x,R,Zd.of j,?_,?_,λu s'=>q u λb o e=>s' _ _ (C _ _ (λz=>by rw[z,b0]at e;cases e) (s2 _ _ (D _ _ e)))⟩];rw[V2,Su,Nu];show 3+3*x.cs.length<=200;lia;intro f0 h;rcases SG.mp h with h|h;simp only[SF,List.mem_nil_iff,or_false]at h;rcases h with rfl|rfl|rfl;exact Vu ();exact VG nm;exact VG nr;obtain⟨g0,hu,h⟩:=List.mem_flatten.mp h;obtain⟨c,S,rfl⟩:=SJ.mp hu;simp only[Vf,SF,List.mem_nil_iff,or_false]at h;rcases h with rfl|rfl|rfl;exact VG (cs c S).1;exact Vu (by show 5<=10;lia);exact Vu (by show 5<=10;lia)
def Qy(x:Wl):List V:=[.str (OK "walk"),.str x.o,.str x.t,.int (x.m:Nat)]
def Qb(x:Yd):List V:=[.str (OK "days"),.str x.nm,.str (Wj x.r)]
def XY(N:ZD):List Str:=N.st.map (λx=>Xj (U8 x))++N.wk.map (λx=>Xj (Qy x))++N.ru.map (λx=>Xj (Qb x))++N.tk.map (λx=>Xj (Qa x))++N.tp.map (λx=>Xj (V2 x))
def UI(N:ZD):Str:=Str.join (OK "") ((XY N).map λz=>z++OK "\n")
structure Zai(N:ZD):Prop where
 st:∀x∈N.st,x.z<=10000/\x.ch<=10000
 wk:∀x∈N.wk,x.m<=10000
 tp:∀x∈N.tp,∀c∈x.cs,c.ar<=2879/\c.lv<=2879
def Zrg{ws:List V}(h:∀v∈ws,(Ve v).length<=m):(Xj ws).length<=(m+1)*ws.length:=by
 have c:=StrLaws.join_length_le (OK " ") (ws.map Ve);have g:(OK " ").length=1:=by lia
 have j:((ws.map Ve).map (·.length)).sum<=m*ws.length:=by
  clear c;induction ws with
  |nil=>simp
  |cons y r i =>
   have n:=h y SD;have u:=i λx f=>h x (SB _ f);simp only[SM,List.sum_cons,Sy];rw[Nat.mul_add];lia
 unfold Xj;rw[g,Sv]at c;rw[Nat.add_mul];lia
def Zaj{N:ZD}(ok:YS N)(h:∀v∈(N.st.map U8++N.wk.map Qy++N.ru.map Qb++N.tk.map Qa++N.tp.map V2),(∀x∈v,QS x)/\v.length<=21):∀z∈XY N,z.length<=110000:=by
 intro z c;have e:XY N=(N.st.map U8++N.wk.map Qy++N.ru.map Qb++N.tk.map Qa++N.tp.map V2).map Xj:=by unfold XY;simp only[SL,Oe];rfl
 rw[e]at c;obtain⟨ws,g,rfl⟩:=SJ.mp c;obtain⟨a,b⟩:=h ws g;exact Sh (Zrg λv f=>Zag (a v f)) (Sh (Nat.mul_le_mul_left 5001 b) ())
def Zhe{ts:OC}(h:∀x∈ts,x.length<=m):(ts.map λx=>x.length+k).sum<=(m+k)*ts.length:=by
 induction ts with
 |nil=>simp
 |cons y r f =>
  have g:=h y SD;have i:=f λx c=>h x (SB _ c);simp only[SM,List.sum_cons,Sy];rw[Nat.mul_add];lia
def Zak{N:ZD}(ok:YS N)(h:Zai N):∀v∈(N.st.map U8++N.wk.map Qy++N.ru.map Qb++N.tk.map Qa++N.tp.map V2),(∀x∈v,QS x)/\v.length<=21:=by
 intro v f;simp only[SG,SJ]at f;rcases f with(((⟨x,g,rfl⟩|⟨x,g,rfl⟩)|⟨x,g,rfl⟩)|⟨x,g,rfl⟩)|⟨x,g,rfl⟩;erw[⟨λv f=>?_,by show 4<=21;lia⟩];simp only[U8,SF,List.mem_nil_iff,or_false]at f;rcases f with rfl|rfl|rfl|rfl;exact Vu ();exact VG (ok.so x g);exact U9 (h.st x g).1;exact U9 (h.st x g).2;erw[⟨λv f=>?_,by show 4<=21;lia⟩];simp only[Qy,SF,List.mem_nil_iff,or_false]at f;rcases f with rfl|rfl|rfl|rfl;exact Vu ();exact VG (ok.wo x g).1;exact VG (ok.wo x g).2;exact U9 (h.wk x g);erw[⟨λv f=>?_,by show 3<=21;lia⟩];have ro:=(ok.ro x g).2;simp only[Qb,SF,List.mem_nil_iff,or_false]at f;rcases f with rfl|rfl|rfl;exact Vu ();exact VG (ok.ro x g).1;exact .inl ⟨_,R,Sh (ZcA ro.1 ro.2.1) ()⟩;erw[⟨λv f=>?_,by show 5<=21;lia⟩];have to:=ok.to x g;have z6:=to.z6;simp only[Qa,SF,List.mem_nil_iff,or_false]at f;rcases f with rfl|rfl|rfl|rfl|rfl;exact Vu ();exact VG to.nm;exact U9 to.pr;exact U9 (Sh to.la ());erw[Vu ?_];rw[<-UW,show(zT x.zs).cps.toList=_ from RI λz n=>Sh (to.rng z n).2 (),Sv];lia;have po:=ok.po x g;have y:=po.2.2.2.1;erw[⟨λv f=>?_,by rw[V2,Su,Nu];show 3+3*x.cs.length<=21;lia⟩];rcases SG.mp f with f|f;simp only[SF,List.mem_nil_iff,or_false]at f;rcases f with rfl|rfl|rfl;exact Vu ();exact VG po.1;exact VG po.2.1;obtain⟨u,j,f⟩:=List.mem_flatten.mp f;obtain⟨c,i,rfl⟩:=SJ.mp j;simp only[Vf,SF,List.mem_nil_iff,or_false]at f;rcases f with rfl|rfl|rfl;exact VG (po.2.2.2.2 c i);exact Vu (by show 5<=10;lia);exact Vu (by show 5<=10;lia)
inductive Zrh(t:Z0)(vs:List V)(H:Hp)(Q:VK)(_e3:XK):Prop|mk (n:Addr) (N:ZD) (_:vs=[.ref n]) (_:XJ t H n N) (_:YS N) (_:Zai N) (_:∀H',Zf H H'->Q (.str (UI N)) H')
def Zri{c:Type}{xs:List c}{i:Nat}{x:c}(e:xs[i]? = some x):xs.take (i+1)=xs.take i++[x]:=by rw[SZ,e];rfl
def Zhf{C:Type}{us:List V}{xs:List C}{l:Addr}{E:St}{U:TE}{g:Hp}{Q:VK}{S:V->C->Prop}(R:Hp->V->C->Prop)(mono:∀{H c:Hp} {v:V} {x:C},Zf H c->R H v x->R c v x)(hl:g l=some (.lst us))(n:Al S us xs)(few:xs.length<=100)
  (Z:∀v x,x∈xs->S v x->∀c,Zf g c->∀J:VK,(∀v h,Zf c h->R h v x->J v h)->U (some v::E) c J) (hd:∀f c p,Zf g c->g p=none->f.length<=100->Al (R c) f xs->c p=none->Q (.ref p) (upd c p (.lst f))) :
  ∃W:Nat->Nat->List V->St->Hp->Prop,(∃m,W 0 m [] (none::E) g)/\∀i m f I H,W i m f I H ->
   ((Wz K l).stop i H/\WX Q f H) \/
   ((Wz K l).go i H/\f.length<sizeLine/\∃N:List V->St->Hp->Prop,(∀M O c,N M O c->∃G,G<m/\W (i+1) G M O c)/\∀x c,(Wz K l).yld i H x c->YV 0 x I c λD h=>X2 D h λb L=>if b=true then U D L λy Y=>N (f++[y]) D Y else N f D L):=by
 erw[Uh (K:=K) (a:=l) (xs:=us) (λi f B c=>Zf g c/\Al (R c) f (xs.take i)/\∃v,B=v::E) ⟨Zf.refl _,.nil,_,rfl⟩ (by rw[n.length];exact Sh few ()) (λi f B c _ ⟨e,_⟩=>Zd.of (e _ _ hl)) ?_ ?_];rintro i v f B c ha hx ⟨j,u,v0,rfl⟩;obtain⟨x,ex,X⟩:=n.get hx;dsimp only[YV,X2];rw[SV rfl];erw[Z v x (SK ex) X c j _ λv h s2 d=>⟨by rw[Su,Sw];lia,j.trans s2,?_,_,rfl⟩];rw[Zri ex];exact(u.imp λ_ _=>mono s2).snoc d;rintro f B c ha ⟨j,u,v0,rfl⟩ p T;rw[n.length]at ha;rw[n.length,List.take_length]at u;exact hd f c p j (j.free T) () u T
theorem D5{c:Type}{nm:c->Str}:∀xs:List c,Al (λv x=>v=V.str (nm x)) ((xs.map nm).map V.str) xs
 |[]=>.nil
 |_::r=>.cons R (D5 r)
def Zrj{c:Type}{f:c->Str}{vs:List V}{xs:List c}(h:Al (λv x=>v=V.str (f x)) vs xs):vs=(xs.map f).map V.str:=by
 induction h with
 |nil=>rfl
 |cons a _ g=>rw[a,g];rfl
def LD{C:Type}{us:List V}{xs:List C}{l:Addr}{I:St}{O:TE}{n:Hp}{Q:VK}{S:V->C->Prop}(f:C->Str)(hl:n l=some (.lst us))(U:Al S us xs)(few:xs.length<=100)
  (Z:∀v x,x∈xs->S v x->∀c,Zf n c->∀u:VK,(∀j,Zf c j->u (.str (f x)) j)->O (some v::I) c u) (hd:∀c p,Zf n c->c p=none->Q (.ref p) (upd c p (.lst ((xs.map f).map V.str)))) :
  ∃W:Nat->Nat->List V->St->Hp->Prop,(∃m,W 0 m [] (none::I) n)/\∀i m g G H,W i m g G H ->
   ((Wz K l).stop i H/\WX Q g H) \/
   ((Wz K l).go i H/\g.length<sizeLine/\∃N:List V->St->Hp->Prop,(∀L M c,N L M c->∃E,E<m/\W (i+1) E L M c)/\∀x c,(Wz K l).yld i H x c->YV 0 x G c λB j=>X2 B j λb J=>if b=true then O B J λy Y=>N (g++[y]) B Y else N g B J) :=
 Zhf (λ_ v x=>v=.str (f x)) (λ_ h=>h) hl U few (λv x m T c D u q'=>Z v x m T c D u λj s2=>q' _ _ s2 R) λg c p D _ _ X hp=>by rw[Zrj X];exact hd c p D hp
def RJ{h n:Hp}{c pl:Addr}{X Y:OC}{Q:VK}(g:H c=none)(S:Zf H h)(ck:h c=some (.lst (X.map V.str)))(s':Zf h n)(j:n pl=none)(few:X.length+Y.length<=100)(k:∀i,Zf H i->i c=some (.lst ((X++Y).map V.str))->Q .non i):Zbj (.ref c) [.ref pl] (upd n pl (.lst (Y.map V.str))) Q:=by
 have np:c≠pl:=λz=>by rw[<-z,s' _ _ ck]at j;cases j
 erw[⟨c,pl,_,_,R,R,(Zj np).trans (s' _ _ ck),Zh,by rw[Sv,Sv];exact Sh few (),k _ (λb o e=>?_) (by rw[Zh,SL])⟩];have f:=s' _ _ (S _ _ e);rwa[Zj (show b≠c from λz=>by rw[z,g]at e;cases e),Zj (show b≠pl from λz=>by rw[z,j]at f;cases f)]
def Nv(c:Zs K mg t):Zl P w K mg base Zo 46 t.Zd7 t.Zd8 ["net"] (Zrh t):=by
 erw[c.J8.F.ok ZcL () λz0 A outer s H vs g0 x0 h o0=>?_];ext⟨n,N,rfl,hn,ok,T,q⟩ o0;erw[⟨_,(Zi (T0 (i0:=1) (cl:=[(OK "net",s.heap.objs.size+1)]) (N:=["name","net"]) (fr:=[none,some 0]) ZcL.nd R (Or.inl R) R (Xl (WM (pv 0) c.ZG c.Qv.me (RF c) (h.mono ()) c.Qv.b .nil Zk)) R () R () ⟨⟨R,Or.inl R,Or.inl R,_,R,R⟩,trivial⟩ ⟨R,trivial⟩ R (λ_ _ _ _ _=>(ZZ 0 (show List.Nodup (["name","net"]:OC) by lia))) (λ_ _ _ _ _=>Xu) (λ_ _ _ _ _=>(Zr c.ZfP (Zra c) h Xq (Zv (pv 1) (pv 0))))) (Zi (Yg (Xa PySem.F.plainAttrs_list PySem.F.slot_list_extend PySem.F.type_list_extend Mb (pv 1) (Zc (Xv (cl:=[]) (N:=["walk"]) (fr:=[none]) R (Xl (WM (pv 0) c.ZG c.MT.me (ZgN c) (h.mono ()) c.MT.b .nil Zk)) R () R () trivial trivial R (λ_ _ _ _ _=>(ZZ 0 (show List.Nodup (["walk"]:OC) by lia))) (λ_ _ _ _ _=>Xu) (λ_ _ _ _ _=>(Zr c.J9 (Nt c) h Zk (Zc (Zg Y6 (Z4 (Zc Zq)) (Z5 (show YN _ (Value.type "list") (λxs H g0=>∃p ys,xs=[V.ref p]/\(Zd K H p ys\/Zp K H p ys)/\∀(l:Addr) ,H l=none->g0 (V.ref l) (upd H l (HO.lst ys)))from UP) R c.XH XT (Zc (pv 0))))))))))) (Zi (Yg (Xa PySem.F.plainAttrs_list PySem.F.slot_list_extend PySem.F.type_list_extend Mb (pv 1) (Zc (Xv (cl:=[(OK "net",s.heap.objs.size+1)]) (N:=["name","net"]) (fr:=[none,some 0]) R (Xl (WM (pv 0) c.ZG c.Qw.me (RG c) (h.mono ()) c.Qw.b .nil Zk)) R () R () ⟨⟨R,Or.inl R,Or.inl R,_,R,R⟩,trivial⟩ ⟨R,trivial⟩ R (λ_ _ _ _ _=>(ZZ 0 (show List.Nodup (["name","net"]:OC) by lia))) (λ_ _ _ _ _=>Xu) (λ_ _ _ _ _=>(Zr c.J9 (Nt c) h Zk (Zc (Z4 (Ym Zq (pv 0) (Zr c.ZfG (Zq6 c) h Xq (Zc (Yz (pv 1) c.ZG c.MW.me (ZgR c) (h.mono ()) c.MW.b .nil Xq (Zc (pv 0)))))))))))))) (Zi (Yg (Xa PySem.F.plainAttrs_list PySem.F.slot_list_extend PySem.F.type_list_extend Mb (pv 1) (Zc (Xv (cl:=[(OK "net",s.heap.objs.size+1)]) (N:=["name","net"]) (fr:=[none,some 0]) R (Xl (WM (pv 0) c.ZG c.B5.me (gX c) (h.mono ()) c.B5.b .nil Zk)) R () R () ⟨⟨R,Or.inl R,Or.inl R,_,R,R⟩,trivial⟩ ⟨R,trivial⟩ R (λ_ _ _ _ _=>(ZZ 0 (show List.Nodup (["name","net"]:OC) by lia))) (λ_ _ _ _ _=>Xu) (λ_ _ _ _ _=>(Zr c.ZfQ (Zrd c) h Xq (Zv (pv 1) (pv 0)))))))) (Zi (Yg (Xa PySem.F.plainAttrs_list PySem.F.slot_list_extend PySem.F.type_list_extend Mb (pv 1) (Zc (Xv (cl:=[(OK "net",s.heap.objs.size+1)]) (N:=["name","net"]) (fr:=[none,some 0]) R (Xl (WM (pv 0) c.ZG c.B6.me (gY c) (h.mono ()) c.B6.b .nil Zk)) R () R () ⟨⟨R,Or.inl R,Or.inl R,_,R,R⟩,trivial⟩ ⟨R,trivial⟩ R (λ_ _ _ _ _=>(ZZ 0 (show List.Nodup (["name","net"]:OC) by lia))) (λ_ _ _ _ _=>Xu) (λ_ _ _ _ _=>(Zr c.ZfR (Zrf c) h Xq (Zv (pv 1) (pv 0)))))))) (Ze (Zt (Xa PySem.F.plainAttrs_str PySem.F.slot_str_join PySem.F.type_str_join QF Zq (Zc (Xv (cl:=[]) (N:=["row"]) (fr:=[none]) R (Xl (pv 1)) R () R () trivial trivial R (λ_ _ _ _ _=>(ZZ 0 (show List.Nodup (["row"]:OC) by lia))) (λ_ _ _ _ _=>Xu) (λ_ _ _ _ _=>(Zg E8 (pv 0) Zq)))))))))))),?_⟩];sleep 6;obtain⟨a,hN⟩:=id hn;ext⟨E,fs,I,D⟩ hN.ob;have wd:=Zak ok T;have s8:=ok.s8;have w12:=ok.w12;have r6:=ok.r6;have t3:=ok.t3;have p10:=ok.p10;erw[⟨_,R,n,E,_,R,I,D.n_stops,n,N,R,hn,λl1 f1=>?_⟩];generalize f:upd H l1 _=H1;have s1:=Z1 f1 f;erw[⟨l1,R,⟨_,Zd.of (ZX f)⟩,LD (λx=>Xj (U8 x)) (ZX f) (D5 N.st) () (λv x g u y j S i=>?_) λH2 Y s2 b0=>?_⟩];subst u;exact⟨_,R,_,R,n,N,x,R,hn.same (s1.trans j),Nj ok.sn g,ok.so x g,(T.st x g).1,(T.st x g).2,λB Q=>i B Q⟩;have S0:=s1.trans s2;have X:H Y=none:=S0.free b0;clear f;generalize f:upd H2 Y _=B;have Z:=S0.trans (Z1 b0 f);have c3:=ZX f;clear f b0 S0 s2 s1;erw[⟨_,R,.inl ⟨R,_,Zd.of c3⟩,_,R,n,E,_,R,Z _ _ I,D.n_walks,n,N,R,hn.same Z,λl2 ws f2 al=>?_⟩];generalize f:upd B l2 _=H4;have s4:=Z1 f2 f;erw[⟨l2,R,⟨_,Zd.of (ZX f)⟩,LD (λx=>Xj (Qy x)) (ZX f) al () (λv x g sx y j S i=>?_) λH5 pl s5 C=>RJ X Z c3 (s4.trans s5) C (by rw[Sv,Sv];lia) λH6 L c6=>?_⟩];ext⟨p,rfl,hp⟩ sx;have hp:=j _ _ (s4 _ _ hp);erw[⟨zL9 R,λpa fa=>?_⟩];have s6:=Zx fa (.lst [.str (OK "walk")]);have ca:upd y pa (.lst [.str (OK "walk")]) pa=some (.lst [.str (OK "walk")]):=Zh;generalize upd y pa (.lst [.str (OK "walk")])=H6 at s6 ca ⊢;erw[⟨_,R,p,_,R,.inr (Zp.of (s6 _ _ hp)),λpb fb=>?_⟩];have G:=Zx fb (.lst [.str x.o,.str x.t,.int (x.m:Nat)]);erw[⟨pa,pb,_,_,R,R,G _ _ ca,Zh,zL9 R,λpc fc=>?_⟩];exact⟨pc,Qy x,R,Zd.of Zh,by show 4<=200;lia,(wd (Qy x) (by simp only[SG,SJ];exact .inl (.inl (.inl (.inr ⟨x,g,R⟩))))).1,λH8 s9=>i H8 (s6.trans (G.trans ((Zx fc _).trans s9)))⟩;clear f s4 f2 al c3 Z;erw[⟨_,R,.inl ⟨R,_,Zd.of c6⟩,_,R,n,E,_,R,L _ _ I,D.n_rules,n,N,R,hn.same L,λl3 f3=>?_⟩];generalize f:upd H6 l3 _=H7;have G:=Z1 f3 f;erw[⟨l3,R,⟨_,Zd.of (ZX f)⟩,LD (λx=>Xj (Qb x)) (ZX f) (D5 N.ru) () (λv x g u y j S i=>?_) λH8 pl l0 C=>RJ X L c6 (G.trans l0) C (by rw[Su,Sv,Sv,Sv];lia) λH9 M c9=>?_⟩];subst u;have fx:=Nj ok.rn g;have S8:=L.trans (G.trans j);have r0:YM Yd.nm N.ru (.str x.nm)=true:=by show(Yw Yd.nm N.ru x.nm).isSome=true;rw[fx];rfl
 erw[⟨_,R,_,R,n,E,_,R,S8 _ _ I,D.n_rule,_,R,n,N,.str x.nm,_,R,hn.same S8,ok,.str _,λb=>(by rw[r0]at b;cases b),λn0 ey fy v' H9 s9 u0=>?_⟩];obtain rfl:x=n0:=So (fx.symm.trans (V.str.inj ey ▸ fy));ext⟨b,rfl,e0⟩ u0;rw[c.kf]at e0;have ro:=(ok.ro x g).2;exact⟨b,x.r,R,e0,ro.1,ro.2.1,ro.2.2,λj0 O=>⟨zL9 R,λpc fc=>⟨pc,Qb x,R,Zd.of Zh,by show 3<=200;lia,(wd (Qb x) (by simp only[SG,SJ];exact .inl (.inl (.inr ⟨x,g,R⟩)))).1,λf0 d0=>i f0 (s9.trans (O.trans ((Zx fc _).trans d0)))⟩⟩⟩;clear f G f3 c6 L;erw[⟨_,R,.inl ⟨R,_,Zd.of c9⟩,_,R,n,E,_,R,M _ _ I,D.n_tickets,n,N,R,hn.same M,λl4 f4=>?_⟩];generalize f:upd H9 l4 _=j0;have O:=Z1 f4 f;erw[⟨l4,R,⟨_,Zd.of (ZX f)⟩,LD (λx=>Xj (Qa x)) (ZX f) (D5 N.tk) () (λv x g u y j S i=>?_) λf0 pl d0 C=>RJ X M c9 (O.trans d0) C (by rw[Su,Su,Sv,Sv,Sv,Sv];lia) λp0 J c0=>?_⟩];subst u;exact⟨_,R,_,R,n,N,x,R,hn.same (M.trans (O.trans j)),Nj ok.tn g,ok.to x g,λB Q=>i B Q⟩;clear f O f4 c9 M;erw[⟨_,R,.inl ⟨R,_,Zd.of c0⟩,_,R,n,E,_,R,J _ _ I,D.n_trips,n,N,R,hn.same J,λl5 f5=>?_⟩];generalize f:upd p0 l5 _=w0;have a0:=Z1 f5 f;erw[⟨l5,R,⟨_,Zd.of (ZX f)⟩,LD (λx=>Xj (V2 x)) (ZX f) (D5 N.tp) () (λv x g u y j S i=>?_) λv0 pl q0 C=>RJ X J c0 (a0.trans q0) C (by rw[Su,Su,Su,Sv,Sv,Sv,Sv,Sv];lia) λs0 k0 U=>?_⟩];subst u;have po:=ok.po x g;exact⟨_,R,_,R,n,N,x,R,hn.same (J.trans (a0.trans j)),Nj ok.pn g,po.1,po.2.1,po.2.2.2.1,λh0 mc=>⟨po.2.2.2.2 h0 mc,T.tp x g h0 mc⟩,λB Q=>i B Q⟩;clear f a0 f5 c0 J;have U:s0 Y=some (.lst ((XY N).map V.str)):=U;have zl:∀z∈XY N,z.length<=110000:=Zaj ok wd;have lr:(XY N).length<=39:=by
  unfold XY;simp only[Su,Sv];lia
 erw[⟨R,_,R,Y,R,⟨_,Zd.of U⟩,LD (λz=>z++OK "\n") U (by have:=D5 (nm:=id) (XY N);rw[List.map_id]at this;exact this) () (λv z mz u y j S i=>?_) λy0 p2 t0 m0=>?_⟩];subst u;exact⟨_,R,_,_,R,R,Sh (Nat.add_le_add_right (zl z mz) _) (),i y (Zf.refl _)⟩;erw[⟨_,p2,(XY N).map λz=>z++OK "\n",R,R,Zd.of Zh,?_,q _ (k0.trans (t0.trans (Zx m0 _)))⟩];have h5:(OK "").length=0:=by lia
 erw[Sh (Zhe (m:=110001) λx hx=>?_) ?_];obtain⟨z,hz,rfl⟩:=SJ.mp hx;have h6:(OK "\n").length<=1:=by lia
 exact ZbP (zl z hz) h6;rw[h5,Sv];exact Sh (Nat.mul_le_mul_left _ lr) ()
def Zrk:∀zs:List Str,(∀z∈zs,10∉ZA z)->spl 10 (ZA (Str.join (OK "") (zs.map λz=>z++OK "\n")))=zs.map ZA++[[]]:=by
 intro zs h;rw[Zah];have e:(OK "\n")=⟨#[10]⟩:=by lia
 induction zs with
 |nil=>rfl
 |cons z r f =>
  rw[SM,SM,List.flatten_cons,SM,zR,e];show spl 10 ((ZA z++[10])++_)=_;rw[Od,List.singleton_append,TF 10 _ _ (h z SD)];rw[<-e,f λx c=>h x (SB _ c)];rfl
theorem Zhg(c:Nat):∀(a b:List (List Nat)),b≠[]->XC c (a++[XC c b])=XC c (a++b)
 |[],b,_=>by cases b<;>rfl
 |[x],b,f=>by
  cases b with
  |nil=>exact Os R f
  |cons y r=>rfl
 |x::y::r,b,f=>by
  show x++c::XC c ((y::r)++[XC c b])=x++c::XC c ((y::r)++b);rw[Zhg c (y::r) b f]
def Zhh{n:Nat}(h:n<=10000):XD (ZA (YB n))=some n:=by
 by_cases e:n=10000;subst e;lia;exact MD ()
def Zrl(h:∀w∈spl 32 l,w≠[]):∀r,l≠32::r:=by
 rintro r rfl;exact h [] (by show[]∈(if 32=32 then _ else _);rw[SV R];exact SD) R
theorem Zal(d:Nat):∀r:List Nat,spl d (r++[d])=spl d r++[[]]
 |[]=>by show(if d=d then _ else _)=_;rw[SV R];rfl
 |c::r=>by
  show spl d (c::(r++[d]))=_;by_cases e:c=d;rw[spl,SV e,Zal d r,spl,SV e];rfl;rw[spl,SU e,Zal d r,spl,SU e];cases h:spl d r with
  |nil=>exact Os h (TD d r)
  |cons w ws=>rfl
def Zrm(h:∀w∈spl 32 l,w≠[]):∀r,l≠r++[32]:=by
 rintro r rfl;exact h [] (by rw[Zal];exact SG.mpr (.inr SD)) R
def D8(ws:List (List Nat)):List V:=ws.map λl=>V.str ⟨l.toArray⟩
def Zrn:OK "#"=(⟨#[35]⟩:Str):=by lia
inductive Zro(vs:List V)(H:Hp)(Q:VK)(_e3:XK):Prop|mk (z:Str) (ws:List (List Nat)) (_:vs=[.str z]) (_:z.length+2<=sizeLine) (_:35∉ZA z) (_:((ZA z=[]/\ws=[])\/(ZA z≠[]/\spl 32 (ZA z)=ws/\∀w∈ws,w≠[]))) (_:∀p H',H p=none->Zf H H'->H' p=some (.lst (D8 ws))->Q (.ref p) H')
def Zrp(u:Zs K mg t):Zl P w K mg base Zo 1 t.ZdT t.ZdU ["row"] Zro:=by
 erw[u.ZfJ.F.ok ZcH () λI A outer s H G Q E J h=>?_];ext⟨z,ws,rfl,i,B,n,q⟩ h;erw[⟨_,(Zi (ZL 1 ZcH.nd (Xa PySem.F.plainAttrs_str PySem.F.slot_str_strip PySem.F.type_str_strip Zl5 (ZE Yj (Xa PySem.F.plainAttrs_str PySem.F.slot_str_partition PySem.F.type_str_partition Zme (pv 0) (Zc Zq)) Zb) (Zc Zq))) (Ze (Zt (LP (Ya Yn (pv 1) Zq) (Z4 YZ) (Xa PySem.F.plainAttrs_str PySem.F.slot_str_split PySem.F.type_str_split N4 (pv 1) (Zc Zq)))))),?_⟩];sleep 2;have y:Txt.stripChars z (OK " ")=z:=by
  rcases n with⟨e,_⟩|⟨_,e,f⟩;exact ZcB (λr h=>nomatch e.symm.trans h) (λr h=>Os (e.symm.trans h).symm (by simp));rw[<-e]at f;exact ZcB (Zrl f) (Zrm f)
 erw[⟨_,R,R,z,35,R,congrArg (λz=>[V.str z]) Zrn,Sh (On _ 2) i,B,λp D v C=>⟨p,_,0,_,R,R,Zp.of Zh,R,R,z,_,R,R,Sh (On _ 2) i,?_⟩⟩];rw[y];have g:=Zx C (.tup [.str z,.str D,.str v]);erw[⟨_,R,R,_,R,?_⟩];have x:decide (V.str z=V.str (OK ""))=decide (ZA z=[]):=by rw[Mm,show(OK "").cps.toList=[] by lia]
 rw[x];rcases n with⟨e,rfl⟩|⟨ne,e,f⟩;erw[ZB (SQ e) ⟨zL9 R,λj c=>q j _ (g.free c) (g.trans (Zx c _)) Zh⟩];erw[Zn (λh=>ne (SS h)) ⟨_,R,R,z,32,R,congrArg (λz=>[V.str z]) Qn,i,λj c=>q j _ (g.free c) (g.trans (Zx c _)) ?_⟩];rw[Zh,<-e];rfl
def Zhi(ws:OC):Prop:=∃k r,ws=k::r/\(((k=OK "stop" \/ k=OK "walk")/\r.length=3)\/(k=OK "ticket" /\ r.length=4)\/(k=OK "days" /\ 2<=r.length)\/(k=OK "trip" /\ (r.length+1)%3=0))
inductive Zrq(vs:List V)(H:Hp)(Q:VK)(_e3:XK):Prop|mk (p:Addr) (ws:OC) (_:vs=[.ref p]) (_:H p=some (.lst (ws.map V.str))) (_:Zhi ws) (_:(∀w∈ws,ZA w≠[])) (_:∀H',Zf H H'->Q (.bl true) H')
def Zrr(y:Zs K mg t):Zl P w K mg base Zo 1 t.ZdX t.ZdY ["words"] Zrq:=by
 erw[y.ZfL.F.ok ZcJ () λM A outer s H L Q E O h=>?_];ext⟨p,ws,rfl,n,⟨k,r,rfl,D⟩,ne,q⟩ h;erw[⟨_,(Zi (ZH (LV NV Zq (pv 0) R) (Ze (Zt Vh)) ZJ) (Zi (ZL 1 ZcJ.nd (ZV X0 y.Xh Xf (Zc (pv 0)))) (Zi (ZH (LV NV (ZE Yq (pv 0) Zb) (YX (Zv Zq Zq)) R) (Ze (Zt (XA Yn (pv 1) Zb (XQ _)))) ZJ) (Zi (ZH (Ya Yn (ZE Yq (pv 0) Zb) Zq) (Ze (Zt (XA Yn (pv 1) Zb (XQ _)))) ZJ) (Zi (ZH (Ya Yn (ZE Yq (pv 0) Zb) Zq) (Ze (Zt (XA NO (pv 1) Zb (XQ _)))) ZJ) (Ze (Zt (Vx (XA Yn (ZE Yq (pv 0) Zb) Zq (XQ _)) (Vi (XA Yn (Zg ZY (pv 1) Zb) Zb (XQ _))))))))))),?_⟩];sleep 6;have J:((k::r).map V.str).all UN=true:=by rw[List.all_eq_true];intro v u;obtain⟨z,_,rfl⟩:=SJ.mp u;rfl
 have I:UO (.str (OK "")) ((k::r).map V.str)=false:=by
  unfold UO;rw[List.any_eq_false];intro v u e;obtain⟨z,C,rfl⟩:=SJ.mp u;have e:(z==OK "")=true:=e;exact ne z C (by rw[eq_of_beq e];lia)
 have g:Y9 ((k::r).map V.str) 0=some (.str k):=Ue (j:=0) R;erw[⟨_,R,p,_,R,.inl (Zd.of n),R,J,_,R,Zn (by show ¬ (UO _ _=true);rw[I];lia) ?_⟩];sleep 1;erw[⟨_,R,p,_,R,.inl (Zd.of n),?_⟩];have i:((k::r).map V.str).length=r.length+1:=by rw[Sv];rfl
 erw[⟨_,R,p,_,0,_,R,R,Zd.of n,g,zL9 R,λpt B=>?_⟩];have c:=Zx B (.tup [.str (OK "stop"),.str (OK "walk")]);have x:=c _ _ n;erw[⟨pt,_,R,.inr (Zp.of Zh),R,R,_,R,?_⟩];rcases D with⟨G,f⟩|⟨rfl,f⟩|⟨rfl,f⟩|⟨rfl,f⟩;erw[ZB (by rcases G with rfl|rfl<;>decide +kernel) ⟨_,R,R,?_⟩];rw[SQ (show V.int (((k::r).map V.str).length:Nat)=.int 4 by rw[i,f];rfl)];exact q _ c
 all_goals erw[Zn () ⟨_,R,p,_,0,_,R,R,Zd.of x,g,R,_,R,?_⟩]
 erw[ZB (SQ R) ⟨_,R,R,?_⟩];rw[SQ (show V.int (((OK "ticket" :: r).map V.str).length:Nat)=.int 5 by rw[i,f];rfl)];exact q _ c
 all_goals erw[Zn () ⟨_,R,p,_,0,_,R,R,Zd.of x,g,R,_,R,?_⟩]
 erw[ZB (SQ R) ⟨_,R,_,_,R,R,?_⟩];rw[SQ (show(3:Int)<=(((OK "days" :: r).map V.str).length:Nat) by rw[i];lia)];exact q _ c;erw[Zn () ⟨_,R,p,_,0,_,R,R,Zd.of x,g,R,_,R,ZB (SQ R) ⟨_,R,_,_,R,R,(),R,?_⟩⟩];rw[SQ (show V.int ((((OK "trip" :: r).map V.str).length:Nat)%3)=.int 0 by rw[i];exact congrArg V.int ())];exact q _ c
inductive Zrs(vs:List V)(H:Hp)(Q:VK)(_e3:XK):Prop|mk (n:Nat) (_:vs=[.str (YB n)]) (_:n<=10000) (_:∀H',Zf H H'->Q (.int n) H')
def Nw(c:Zs K mg t):Zl P w K mg base Zo 3 t.Zd1 t.Zd2 ["word"] Zrs:=by
 erw[c.J7.F.ok ZcK () λu A outer s H j Q E f h=>?_];ext⟨n,rfl,hn,q⟩ h;erw[⟨_,(Zi (ZL 1 ZcK.nd (Zr c.PN (Zac c) f Zk (Zc (pv 0)))) (Zi (ZH (ZaJ (ZhQ (pv 1))) (Ze Wy) ZJ) (Ze (Zt (pv 1))))),?_⟩];sleep 3;have e:=Zhh hn;erw[⟨_,R,YB n,R,Sh (Zag (U9 hn)) (),λi g=>?_⟩];rw[show XD (YB n).cps.toList=some n from e];exact⟨_,R,_,R,Zn (λe=>nomatch (show V.int _=V.non from SS e)) ⟨_,R,q i g⟩⟩
inductive Zrt(vs:List V)(H:Hp)(Q:VK)(_e3:XK):Prop|mk (zs:OG) (_:vs=[.str (zT zs)]) (_:1<=zs.length) (_:zs.length<=6) (_:(∀z∈zs,z<=9)) (_:∀l H',H l=none->Zf H H'->H' l=some (.lst (ZN zs))->Q (.ref l) H')
def Zru(f:Zs K mg t):Zl P w K mg base Zo 2 t.Zd3 t.Zd4 ["word"] Zrt:=by
 erw[f.ZfN.F.ok ZmH () λY A outer s H X Q E T h=>?_];ext⟨zs,rfl,z1,z6,u,q⟩ h;erw[⟨_,(Zi (ZH (Yx (Yy (Zr f.PM (Zab f) T Zk (Zc (pv 0))))) (Ze Wy) ZJ) (Ze (Zt (Xv (cl:=[]) (N:=["sign"]) (fr:=[none]) R (Zlw (pv 0)) R () R () trivial trivial R (λ_ _ _ _ _=>(ZZ 0 (show List.Nodup (["sign"]:OC) by lia))) (λ_ _ _ _ _=>Xu) (λ_ _ _ _ _=>(Z5 Mf R f.Xs Xr (Zc (pv 0)))))))),?_⟩];sleep 2;have g:ZA (zT zs)=zs.map (48 + ·):=RI u;have C:(zT zs).length=zs.length:=by rw[<-UW,show(zT zs).cps.toList=_ from g,Sv]
 have I:(zT zs).length<=sizeLine:=by rw[C];exact Sh z6 ()
 have U:VP (zT zs)=true:=by
  rw[TK,Bool.and_eq_true];erw[⟨SQ ?_,?_⟩];rw[show(zT zs).cps.toList=_ from g];intro e;rw[List.map_eq_nil_iff.mp e]at z1;exact Os z1 ();rw[show(zT zs).cps.toList=_ from g,List.all_eq_true];intro c M;obtain⟨z,S,rfl⟩:=SJ.mp M;have:=u z S;exact SQ ()
 erw[⟨_,R,zT zs,R,I,λO G=>⟨_,R,Zn (by rw[U];lia) ?_⟩⟩];sleep 1;erw[⟨_,R,zT zs,R,Zlx (λi x j n=>n=O/\x=ZN (zs.take i)/\∃v,j=[v]) ⟨R,R,_,R⟩ I ?_ ?_⟩];rintro i c x j n ha B ⟨rfl,rfl,v,rfl⟩;rw[show(zT zs).cps.toList=_ from g,Oa]at B;obtain⟨z,y,rfl⟩:=Of.mp B;have J:=u z (SK y);dsimp only[YV,X2];rw[SV R];have L:=ZbR (z:=⟨#[48+z]⟩) (by rw[show(⟨#[48+z]⟩:Str).cps.toList=[48+z] from R,List.all_cons,show dg (48+z)=true from SQ ()];rfl) (by intro e;cases e) (by show 1<=640;lia);erw[⟨_,R,_,_,R,L,by show 1<=640;lia,by rw[Su,Sw];lia,R,?_,_,R⟩];rw[SZ,y,show UV (⟨#[48+z]⟩:Str).cps.toList=z from(():∀z,z<=9->UV [48+z]=z) z J];show _=List.map _ (zs.take i++[z]);rw[SL];rfl;rintro x j n ha ⟨rfl,rfl,v,rfl⟩ p D;erw[q p _ (G.free D) (G.trans (Zx D _)) ?_];rw[Zh,show(zT zs).cps.size=zs.length from C,List.take_length]
theorem Zhj{j:Nat}(f:j<3):∀{cs:List Cl} {i:Nat} {c:Cl},cs[i]? = some c->((cs.map Vf).flatten)[3*i+j]? = (Vf c)[j]?
 |[],_,_,h=>by cases h
 |d::r,0,c,h=>by
  obtain rfl:d=c:=So h;rw[SM,List.flatten_cons,List.getElem?_append_left (by show 3*0+j<3;lia),Nat.mul_zero,Nat.zero_add]
 |d::r,i+1,c,h=>by
  rw[SM,List.flatten_cons,Ob (by show 3<=_;lia),show 3*(i+1)+j - (Vf d).length=3*i+j from(by show 3*(i+1)+j - 3=_;lia)];exact Zhj f (cs:=r) h
inductive Zrv(vs:List V)(H:Hp)(Q:VK)(_e3:XK):Prop|mk (p:Addr) (cs:List Cl) (_:vs=[.ref p]) (_:H p=some (.lst (cs.map Vf).flatten)) (_:cs.length<=6) (_:(∀c∈cs,c.ar<=2879/\c.lv<=2879)) (_:∀l us H',H l=none->Zf H H'->H' l=some (.lst us)->Al (YD H') us cs->Q (.ref l) H')
def Zrw(f:Zs K mg t):Zl P w K mg base Zo 4 t.Zd5 t.Zd6 ["words"] Zrv:=by
 erw[f.ZfO.F.ok ZmI () λb0 A outer s a0 vs d0 c0 Q h=>?_];ext⟨p,cs,rfl,C,L,Z,q⟩ h;erw[⟨_,(Ze (Zt (Xv (cl:=[(OK "words",s.heap.objs.size+1)]) (N:=["at","words"]) (fr:=[none,some 0]) R (Zlq R f.VU (Ym Zb (ZV X0 f.Xh Xf (Zc (pv 0))) Zb)) R () R () ⟨⟨R,Or.inl R,Or.inl R,_,R,R⟩,trivial⟩ ⟨R,trivial⟩ R (λ_ _ _ _ _=>(ZZ 0 (show List.Nodup (["at","words"]:OC) by lia))) (λ_ _ _ _ _=>Xu) (λ_ _ _ _ _=>(YX (Ym (ZE (show VB _ (A0 K)from Yq) (pv 1) (pv 0)) (Zr f.jP (Zg3 f) Q Xq (Zc (ZE (show VB _ (A0 K)from Yq) (pv 1) (Zg Yr (pv 0) Zb)))) (Zr f.jP (Zg3 f) Q Xq (Zc (ZE (show VB _ (A0 K)from Yq) (pv 1) (Zg Yr (pv 0) Zb)))))))))),?_⟩];sleep 1;have E:∀{i j:Nat} {c:Cl} {v:V} {n:Int},cs[i]? = some c->j<3->(Vf c)[j]? = some v->n=((3*i+j:Nat):Int)->Y9 (cs.map Vf).flatten n=some v:=λe hj X T=>by
  subst T;exact Ue (by rwa[Zhj hj e])
 erw[⟨_,R,p,_,R,.inl (Zd.of C),cs.length,by rw[Nu],Sj L (),Zlr (λi B D y=>Zf a0 y/\Al (YD y) B (cs.take i)/\∃v,D=[v,some (.ref p)]) ⟨Zf.refl _,.nil,_,R⟩ (Sh L ()) ?_ ?_⟩];rintro i B D y Y ha ⟨g,x,v,rfl⟩;have u:cs[i]? = some cs[i]:=Ss Y;generalize cs[i]=c at u;obtain⟨S,h2⟩:=Z c (SK u);have O:=ZbQ S;have J:=ZbQ h2;dsimp only[YV,X2];rw[SV R];erw[⟨_,R,_,R,p,_,_,_,R,R,Zd.of (g _ _ C),E (j:=0) u () R (),?_⟩];erw[⟨_,R,_,R,_,_,R,R,p,_,_,_,R,R,Zd.of (g _ _ C),E (j:=1) u () R (),.str (wr c.ar),_,R,.str _,λz e=>by cases e;show 5<=sizeLine;lia,λm H2 e s2=>?_,λH2 e=>(by rw[show N6 (.str (wr c.ar))=some c.ar from O]at e;cases e)⟩];obtain rfl:c.ar=m:=So (O.symm.trans e);have H:=g.trans s2;erw[⟨_,R,_,R,_,_,R,R,p,_,_,_,R,R,Zd.of (H _ _ C),E (j:=2) u () R (),.str (wr c.lv),_,R,.str _,λz e=>by cases e;show 5<=sizeLine;lia,λm U e M=>?_,λU e=>(by rw[show N6 (.str (wr c.lv))=some c.lv from J]at e;cases e)⟩];obtain rfl:c.lv=m:=So (J.symm.trans e);erw[⟨zL9 R,λr I=>⟨by rw[Su,Sw];lia,H.trans (M.trans (Zx I _)),?_,_,R⟩⟩];rw[SZ,u];exact(x.imp λ_ _=>YD.same (s2.trans (M.trans (Zx I _)))).app (.cons ⟨r,R,Zh⟩ .nil);rintro B D y ha ⟨g,x,v,rfl⟩ l G;rw[List.take_length]at x;exact q l B _ (g.free G) (g.trans (Zx G _)) Zh (x.imp λ_ _=>YD.same (Zx G _))
inductive Z3 where
 |st (x:ZI)
 |wk (x:Wl)
 |ru (x:Yd)
 |tk (x:YE)
 |tp (x:Tp)
def LF(c:Cl):List Str:=[c.st,wr c.ar,wr c.lv]
def Z3.ws:Z3->List Str
 |.st x=>[OK "stop",x.nm,YB x.z,YB x.ch]
 |.wk x=>[OK "walk",x.o,x.t,YB x.m]
 |.ru x=>OK "days" :: x.nm::x.r.words
 |.tk x=>[OK "ticket",x.nm,YB x.pr,YB x.la,zT x.zs]
 |.tp x=>OK "trip" :: x.nm::x.ru::(x.cs.map LF).flatten
def Z3.tx:Z3->Str
 |.st x=>Xj (U8 x)
 |.wk x=>Xj (Qy x)
 |.ru x=>Xj (Qb x)
 |.tk x=>Xj (Qa x)
 |.tp x=>Xj (V2 x)
def Z3.Ok:Z3->Prop
 |.st x=>Yc x.nm/\1<=x.z/\x.z<=6/\x.ch<=30
 |.wk x=>Yc x.o/\Yc x.t/\1<=x.m/\x.m<=60
 |.ru x=>Yc x.nm/\R3.Ok x.r
 |.tk x=>x.Ok
 |.tp x=>Yc x.nm/\Yc x.ru/\2<=x.cs.length/\x.cs.length<=6/\∀c∈x.cs,Yc c.st/\c.ar<=2879/\c.lv<=2879
def LG(N:ZD):List Z3:=N.st.map .st++N.wk.map .wk++N.ru.map .ru++N.tk.map .tk++N.tp.map .tp
def LH(N:ZD):XY N=(LG N).map Z3.tx:=by
 unfold XY LG;simp only[SL,Oe];rfl
def UJ(l:OG):Prop:=l≠[]/\∀c∈l,44<=c/\c<=122
def QT(h:Yc z):UJ (ZA z):=⟨λe=>by have:=h.1;rw[<-UW,show z.cps.toList=[] from e]at this;exact Os this (),λc f=>by have:=h.2.2.1 c f;lia⟩
def Zam(h:XD l=some n):UJ l:=by
 unfold XD at h;split at h
 ·next c=>exact⟨c.2.1,λx f=>by have:=List.all_eq_true.mp c.2.2.1 x f;have:=SS this;lia⟩
 cases h
def QU{n:Nat}(h:n<=10000):UJ (ZA (YB n)):=Zam (Zhh h)
def Zhk{m:Nat}(h:m<=2879):UJ (ZA (wr m)):=by
 rw[show ZA (wr m)=_ from congrArg (λz:Str=>z.cps.toList) (ZbO m)];erw[⟨(λe=>by cases e),λc f=>?_⟩];have f:c∈[48+m/60/10,48+m/60%10,58,48+m%60/10,48+m%60%10]:=f;simp only[SF,List.mem_nil_iff,or_false]at f;lia
theorem Zan(d:Nat):∀(l:OG) (c:Nat),c∈l->c=d\/∃w∈spl d l,c∈w
 |x::r,c,h=>by
  by_cases e:x=d;rcases SF.mp h with h|h;exact .inl (h.trans e);rw[spl,SV e];rcases Zan d r c h with h|⟨w,f,h⟩;exact .inl h;exact .inr ⟨w,SB _ f,h⟩;rw[spl,SU e];cases q:spl d r with
  |nil=>exact Os q (TD d r)
  |cons v vs =>
   rcases SF.mp h with h|h;exact .inr ⟨_,SD,by rw[h];exact SD⟩;rcases Zan d r c h with h|⟨w,f,h⟩;exact .inl h;rw[q]at f;rcases SF.mp f with rfl|f;exact .inr ⟨_,SD,SB _ h⟩;exact .inr ⟨w,SB _ f,h⟩
def Zhl(ne:ds≠[])(j:∀x∈ds,x<10000):UJ (ZA (WZ ds)):=by
 have e:=zO ne j;unfold A7 at e;have f:∀w∈spl 44 (ZA (WZ ds)),∃n,XD w=some n:=λw g=>by
  have:XD w∈(spl 44 (ZA (WZ ds))).map XD:=SJ.mpr ⟨w,g,R⟩;rw[e]at this;obtain⟨n,_,h⟩:=SJ.mp this;exact⟨n,h.symm⟩
 erw[⟨λz=>?_,λc i=>?_⟩];rw[z]at f;obtain⟨n,h⟩:=f [] SD;exact(Zam h).1 R;rcases Zan 44 _ c i with rfl|⟨w,g,h⟩;exact⟨Sg _,()⟩;obtain⟨n,hn⟩:=f w g;exact(Zam hn).2 c h
def Zrx{b:Nat}(h:b<=127):UJ (ZA (QG b)):=by
 have e:=Zcz b (Nat.lt_succ_of_le h);have e:A6 (ZA (QG b))=some b:=e;unfold A6 at e;split at e
 ·next c =>
  erw[⟨λz=>by rw[z]at c;exact Os c.1 (),λx f=>?_⟩];have:=List.all_eq_true.mp c.2 x f;simp only[Bool.or_eq_true,beq_iff_eq]at this;rcases this with rfl|rfl<;>exact⟨(),()⟩
 cases e
def V3:∀s∈["always","week","span","each","either","both","but","stop","walk","days","ticket","trip"],UJ (ZA (OK s)):=by unfold UJ;lia
def Zhm:∀(T:RT),T.good->∀x∈T.words,UJ (ZA x):=by
 intro T;induction T with
 |always=>exact λ_ x c=>by rcases SE.mp c with rfl;exact V3 _ ()
 |week b =>
  intro g x c;simp only[RT.words,SF,List.not_mem_nil,or_false]at c;rcases c with rfl|rfl;exact V3 _ ();exact Zrx g
 |span a b r i =>
  intro g x c;rcases SG.mp c with c|c;simp only[SF,List.not_mem_nil,or_false]at c;rcases c with rfl|rfl|rfl;exact V3 _ ();exact QU (by have:=g.1;have:=g.2.1;lia);exact QU (by have:=g.2.1;lia);exact i g.2.2 x c
 |each n j =>
  intro g x c;simp only[RT.words,SF,List.not_mem_nil,or_false]at c;rcases c with rfl|rfl|rfl;exact V3 _ ();exact QU (by have:=g.2.1;lia);exact Zhl (List.ne_nil_of_length_pos g.2.2.one) λx c=>by have:=(g.2.2.all x c).2;have:=g.2.1;lia
 |either r s f h =>
  intro g x c;rcases SG.mp c with c|c;rcases SG.mp c with c|c;rcases SE.mp c with rfl;exact V3 _ ();exact f g.1 x c;exact h g.2 x c
 |both r s f h =>
  intro g x c;rcases SG.mp c with c|c;rcases SG.mp c with c|c;rcases SE.mp c with rfl;exact V3 _ ();exact f g.1 x c;exact h g.2 x c
 |but ds r i =>
  intro g x c;rcases SG.mp c with c|c;simp only[SF,List.not_mem_nil,or_false]at c;rcases c with rfl|rfl;exact V3 _ ();exact Zhl (List.ne_nil_of_length_pos g.1.one) λx c=>by have:=(g.1.all x c).2;lia
  exact i g.2 x c
def Z3.wd{x:Z3}(h:x.Ok):∀w∈x.ws,UJ (ZA w):=by
 intro w f;cases x with
 |st x =>
  simp only[Z3.ws,SF,List.not_mem_nil,or_false]at f;ext⟨g,i,G,B⟩ h;rcases f with rfl|rfl|rfl|rfl;exact V3 _ ();exact QT g;exact QU ();exact QU ()
 |wk x =>
  simp only[Z3.ws,SF,List.not_mem_nil,or_false]at f;ext⟨g,i,G,B⟩ h;rcases f with rfl|rfl|rfl|rfl;exact V3 _ ();exact QT g;exact QT i;exact QU ()
 |ru x =>
  rcases SF.mp f with rfl|f;exact V3 _ ();rcases SF.mp f with rfl|f;exact QT h.1;exact Zhm x.r h.2.1 w f
 |tk x =>
  simp only[Z3.ws,SF,List.not_mem_nil,or_false]at f;have h:x.Ok:=h;rcases f with rfl|rfl|rfl|rfl|rfl;exact V3 _ ();exact QT h.nm;exact QU h.pr;exact QU (Sh h.la ());rw[RI λz E=>Sh (h.rng z E).2 ()];erw[⟨λe=>by have:=h.z1;rw[List.map_eq_nil_iff.mp e]at this;exact Os this (),λc j=>?_⟩];obtain⟨z,H,rfl⟩:=SJ.mp j;have:=h.rng z H;lia
 |tp x =>
  ext⟨g,i,_,_,u⟩ h;rcases SF.mp f with rfl|f;exact V3 _ ();rcases SF.mp f with rfl|f;exact QT g;rcases SF.mp f with rfl|f;exact QT i;obtain⟨I,C,f⟩:=List.mem_flatten.mp f;obtain⟨c,v,rfl⟩:=SJ.mp C;obtain⟨y,n,D⟩:=u c v;simp only[LF,SF,List.not_mem_nil,or_false]at f;rcases f with rfl|rfl|rfl;exact QT y;exact Zhk n;exact Zhk D
def Z3.ne(x:Z3):x.ws≠[]:=by cases x<;>exact λe=>nomatch e
def Zry(cs:List Cl):((cs.map Vf).flatten).map Ve=(cs.map LF).flatten:=by
 induction cs with
 |nil=>rfl
 |cons c r f=>rw[SM,List.flatten_cons,SL,f,SM,List.flatten_cons];rfl
def Z3.txL(x:Z3):ZA x.tx=XC 32 (x.ws.map ZA):=by
 have c:∀ws:List V,ZA (Xj ws)=XC 32 ((ws.map Ve).map ZA):=λws=>by
  unfold Xj;rw[Qn];exact A2 32 _
 cases x with
 |st x=>exact c _
 |wk x=>exact c _
 |ru x =>
  show ZA (Xj (Qb x))=_;rw[c];show XC 32 ([ZA (OK "days"),ZA x.nm]++[ZA (Wj x.r)])=XC 32 ([ZA (OK "days"),ZA x.nm]++x.r.words.map ZA);rw[show ZA (Wj x.r)=XC 32 (x.r.words.map ZA) by unfold Wj;rw[Qn];exact A2 32 _];exact Zhg 32 _ _ λe=>Pq x.r (List.map_eq_nil_iff.mp e)
 |tk x=>exact c _
 |tp x =>
  show ZA (Xj (V2 x))=_;rw[c];unfold V2;rw[SL,Zry];rfl
theorem Zhn(h:c≠d):∀l:List (List Nat),(∀p∈l,c∉p)->c∉XC d l
 |[],_,z=>nomatch z
 |[p],h',z=>h' p SD z
 |p::q::r,h',z=>by
  rcases SG.mp (show c∈p++d::XC d (q::r)from z)with z|z;exact h' p SD z;rcases SF.mp z with z|z;exact h z;exact Zhn h (q::r) (λp f=>h' p (SB _ f)) z
def Z3.free{x:Z3}(h:x.Ok){c:Nat}(n:c<44)(f:c≠32):c∉ZA x.tx:=by
 rw[x.txL];erw[Zhn f _ λp j g=>?_];obtain⟨w,i,rfl⟩:=SJ.mp j;have:=(x.wd h w i).2 c g;lia
def Z3.cut{x:Z3}(h:x.Ok):spl 32 (ZA x.tx)=x.ws.map ZA:=by
 rw[x.txL,Mh 32 _ (λe=>x.ne (List.map_eq_nil_iff.mp e))];intro p g c;obtain⟨w,f,rfl⟩:=SJ.mp g;have:=(x.wd h w f).2 32 c;lia
def Zrz(ws:OC):D8 (ws.map ZA)=ws.map V.str:=by
 unfold D8;rw[Oe];exact List.map_congr_left λz _=>R
structure NF(N:ZD):Prop where
 ok:YS N
 st:∀x∈N.st,1<=x.z/\x.z<=6/\x.ch<=30
 wk:∀x∈N.wk,x.o∈N.st.map ZI.nm/\x.t∈N.st.map ZI.nm/\x.o≠x.t/\1<=x.m/\x.m<=60
 wn:∀i x,N.wk[i]? = some x->VZ (N.wk.take i) x.o x.t=false
 tr:∀x∈N.tp,x.ru∈N.ru.map Yd.nm/\X8 (N.st.map ZI.nm) x.cs
def Z3.due(N:ZD):Z3->Option Wn
 |.st x=>Lu N (.str x.nm) (.int (x.z:Nat)) (.int (x.ch:Nat))
 |.wk x=>Lv N (.str x.o) (.str x.t) (.int (x.m:Nat))
 |.ru x=>D1 N (.str x.nm) (some x.r)
 |.tk x=>Nm N (.str x.nm) (.int (x.pr:Nat)) (.int (x.la:Nat)) (some (ZN x.zs))
 |.tp x=>Lw N (.str x.nm) (.str x.ru)
def Z3.csok(N:ZD):Z3->Prop
 |.tp x=>X8 (N.st.map ZI.nm) x.cs
 |_=>True
def Z3.add(N:ZD):Z3->ZD
 |.st x=>{N with st:=N.st++[x]}
 |.wk x=>{N with wk:=N.wk++[x]}
 |.ru x=>{N with ru:=N.ru++[x]}
 |.tk x=>{N with tk:=N.tk++[x]}
 |.tp x=>{N with tp:=N.tp++[x]}
def Zho{f:Type}{A B:List f}{k:Nat}{x:f}(h:(A++B)[k]? = some x):(k<A.length/\A[k]? = some x)\/(A.length<=k/\B[k - A.length]? = some x):=by
 by_cases c:k<A.length;rw[List.getElem?_append_left c]at h;exact .inl ⟨c,h⟩;rw[Ob ()]at h;exact .inr ⟨(),h⟩
def Yu{w:Wn}(h:b=true)(c:r=none):ck b w r=none:=by rwa[h]
def QV{c:Type}{nm:c->Str}{xs:List c}{i:Nat}{x:c}(nd:(xs.map nm).Nodup)(e:xs[i]? = some x):(!YM nm (xs.take i) (.str (nm x)))=true:=by
 show(!(Yw nm (xs.take i) (nm x)).isSome)=true;rw[Zqa nd e];rfl
def Qc{c:Type}{xs:List c}{i m:Nat}{x:c}(e:xs[i]? = some x)(h:xs.length<=m):decide ((xs.take i).length<m)=true:=SQ (by have:=(Sr.mp e).1;rw[Sx];lia)
def QW{c:Type}{xs:List c}{i:Nat}{x:c}(e:xs[i]? = some x):xs.take (i+1)=xs.take i++[x]:=by rw[SZ,e];rfl
theorem Zhp:∀(zs:OG) (lo hi:Int),zs.Pairwise (· < ·)->(∀z∈zs,lo<=(z:Nat)/\((z:Nat):Int)<=hi)->WS lo hi (ZN zs)=true
 |[],_,_,_,_=>rfl
 |z::r,lo,hi,c,h=>by
  show(Xy (.int z) lo hi && WS ((z:Int)+1) hi (ZN r))=true;have hz:=h z SD;have c:=List.pairwise_cons.mp c;rw[WF hz.1 hz.2,Zhp r _ hi c.2 λy f=>⟨by have:=c.1 y f;lia,(h y (SB _ f)).2⟩];rfl
def Zhq{N:ZD}{x:YE}(h:x.Ok)(g:(!YM YE.nm N.tk (.str x.nm))=true)(f:decide (N.tk.length<3)=true):(Z3.tk x).due N=none:=by
 erw[Yu (C6 h.nm) (Yu g (Yu (WF () (by have:=h.pr;lia)) (Yu (WF (by have:=h.la1;lia) (by have:=h.la;lia)) (Yu ?_ (Yu f R)))))];show(decide (1<=(ZN x.zs).length/\((ZN x.zs).length:Int)<=6) && WS 1 6 (ZN x.zs))=true;have j:=h.z1;have i:=h.z6;rw[SQ (by rw[show(ZN x.zs).length=x.zs.length from Sv ..];lia),Zhp x.zs 1 6 h.up λz c=>by have:=h.rng z c;lia];rfl
def YS.sub{N:ZD}(ok:YS N)(h1:List.Sublist a N.st)(j:List.Sublist b N.wk)(i:List.Sublist c N.ru)(g:List.Sublist d N.tk)(f:List.Sublist e N.tp):YS ⟨a,b,c,d,e⟩ :=
 ⟨Sh h1.length_le ok.s8,ok.sn.sublist (h1.map _),λx h=>ok.so x (h1.subset h),Sh j.length_le ok.w12,λx h=>ok.wo x (j.subset h),Sh i.length_le ok.r6,ok.rn.sublist (i.map _),λx h=>ok.ro x (i.subset h),Sh g.length_le ok.t3,ok.tn.sublist (g.map _),λx h=>ok.to x (g.subset h),Sh f.length_le ok.p10,ok.pn.sublist (f.map _),λx h=>ok.po x (f.subset h)⟩
inductive Wx:ZD->List Z3->ZD->Prop
 |nil {M:ZD}:Wx M [] M
 |cons {M M':ZD} {x:Z3} {r:List Z3} (o:x.Ok) (d:x.due M=none) (c:x.csok M) (k:YS M) (h:Wx (x.add M) r M'):Wx M (x::r) M'
def Wx.app{A : ZD}(h:Wx A xs B)(g:Wx B f C):Wx A (xs++f) C:=by
 induction h with
 |nil=>exact g
 |cons o d c k _ i=>exact .cons o d c k (i g)
def Nx{g:Type}{xs:List g}{f:List g->ZD}{mk:g->Z3}(h:∀i x,xs[i]? = some x->((mk x).Ok/\(mk x).due (f (xs.take i))=none/\(mk x).csok (f (xs.take i))/\YS (f (xs.take i)))/\(mk x).add (f (xs.take i))=f (xs.take i++[x])):Wx (f []) (xs.map mk) (f xs):=by
 have v:∀n k,xs.length - k=n->Wx (f (xs.take k)) ((xs.drop k).map mk) (f xs):=by
  intro n;induction n with
  |zero=>exact λk e=>by rw[List.drop_eq_nil_of_le (),SY ()];exact .nil
  |succ n u =>
   intro k e;have j:k<xs.length:=by lia
   have ex:=Ss j;obtain⟨⟨o,d,c,ok⟩,y⟩:=h k xs[k] ex;rw[List.drop_eq_getElem_cons j];erw[.cons o d c ok ?_];rw[y,<-QW ex];exact u (k+1) ()
 exact v _ 0 R
section Ad
variable{N:ZD}(nf:NF N){a:List ZI}{b:List Wl}{c:List Yd}{d:List YE}{e:List Tp}
include nf
theorem NF.aS(C:List.Sublist b N.wk)(B:List.Sublist c N.ru)(x:List.Sublist d N.tk)(u:List.Sublist e N.tp):Wx ⟨[],b,c,d,e⟩ (N.st.map .st) ⟨N.st,b,c,d,e⟩ :=
 Nx (f:=λj=>⟨j,b,c,d,e⟩) λi y g=>by
  have ok:=nf.ok;have h:=SK g;obtain⟨v,n,D⟩:=nf.st y h;exact⟨⟨⟨ok.so y h,v,n,D⟩,Yu (C6 (ok.so y h)) (Yu (QV ok.sn g) (Yu (WF () ()) (Yu (WF () ()) (Yu (Qc g ok.s8) R)))),trivial,ok.sub (List.take_sublist _ _) C B x u⟩,R⟩
theorem NF.aW(D:List.Sublist c N.ru)(B:List.Sublist d N.tk)(u:List.Sublist e N.tp):Wx ⟨N.st,[],c,d,e⟩ (N.wk.map .wk) ⟨N.st,N.wk,c,d,e⟩ :=
 Nx (f:=λj=>⟨N.st,j,c,d,e⟩) λi y g=>by
  have ok:=nf.ok;have h:=SK g;obtain⟨v,n,E,C,x⟩:=nf.wk y h;exact⟨⟨⟨(ok.wo y h).1,(ok.wo y h).2,C,x⟩,Yu (V0 v) (Yu (V0 n) (Yu (by rw[SR (λe=>E (V.str.inj e)),show VZ (N.wk.take i) (X7 (V.str y.o)) (X7 (V.str y.t))=false from nf.wn _ y g];rfl) (Yu (WF () ()) (Yu (Qc g ok.w12) R)))),trivial,ok.sub (.refl _) (List.take_sublist _ _) D B u⟩,R⟩
theorem NF.aR(h1:List.Sublist a N.st)(v:List.Sublist b N.wk)(u:List.Sublist d N.tk)(n:List.Sublist e N.tp):Wx ⟨a,b,[],d,e⟩ (N.ru.map .ru) ⟨a,b,N.ru,d,e⟩ :=
 Nx (f:=λj=>⟨a,b,j,d,e⟩) λi y g=>by
  have ok:=nf.ok;have h:=SK g;exact⟨⟨ok.ro y h,Yu (C6 (ok.ro y h).1) (Yu (QV ok.rn g) (Yu R (Yu (Qc g ok.r6) R))),trivial,ok.sub h1 v (List.take_sublist _ _) u n⟩,R⟩
theorem NF.aK(h1:List.Sublist a N.st)(v:List.Sublist b N.wk)(u:List.Sublist c N.ru)(n:List.Sublist e N.tp):Wx ⟨a,b,c,[],e⟩ (N.tk.map .tk) ⟨a,b,c,N.tk,e⟩ :=
 Nx (f:=λj=>⟨a,b,c,j,e⟩) λi y g=>by
  have ok:=nf.ok;have h:=SK g;exact⟨⟨ok.to y h,Zhq (ok.to y h) (QV ok.tn g) (Qc g ok.t3),trivial,ok.sub h1 v u (List.take_sublist _ _) n⟩,R⟩
theorem NF.aT(D:List.Sublist b N.wk)(x:List.Sublist d N.tk):Wx ⟨N.st,b,N.ru,d,[]⟩ (N.tp.map .tp) ⟨N.st,b,N.ru,d,N.tp⟩ :=
 Nx (f:=λu=>⟨N.st,b,N.ru,d,u⟩) λi y g=>by
  have ok:=nf.ok;have n:=SK g;obtain⟨j,B,p3,v,C⟩:=ok.po y n;obtain⟨E,t2⟩:=nf.tr y n;exact⟨⟨⟨j,B,p3,v,λc h=>⟨C c h,by have:=t2.rng c h;lia⟩⟩,Yu (C6 j) (Yu (QV ok.pn g) (Yu (V0 E) (Yu (Qc g ok.p10) R))),t2,ok.sub (.refl _) D (.refl _) x (List.take_sublist _ _)⟩,R⟩
theorem NF.adds:Wx ⟨[],[],[],[],[]⟩ (LG N) N :=
 have z:∀{f:Type} {xs:List f},List.Sublist [] xs:=List.nil_sublist _
 ((((nf.aS z z z z).app (nf.aW z z z)).app (nf.aR (.refl _) (.refl _) z z)).app (nf.aK (.refl _) (.refl _) (.refl _) z)).app (nf.aT (.refl _) (.refl _))
end Ad
def Wx.all{A : ZD}(h:Wx A xs B):∀x∈xs,x.Ok:=by
 induction h with
 |nil=>exact ()
 |cons o _ _ _ _ c=>exact λy f=>(SF.mp f).elim (λe=>e ▸ o) (c y)
def NA.l(a:NA):List Addr:=[a.ds,a.lw,a.dr,a.dt,a.dp]
def Yl(M:OH)(H c:Hp):Prop:=∀x o,H x=some o->x∉M->c x=some o
def Yl.of(s:Zf H c):Yl M H c:=λx o e _=>s x o e
def Yl.trans(h:Yl M H f)(g:Yl M f c):Yl M H c:=λx o e n=>g x o (h x o e n) n
def Yl.wout(s:Zf (wo H d) c)(hd:d∈M):Yl M H c:=λx o e n=>s x o (Xe e λz=>n (z ▸ hd))
inductive Ko(H:Hp)(x:Addr):Prop
 |lst {xs:List V} (e:H x=some (.lst xs)):Ko H x
 |dK {kvs:List (ZF×V)} (e:H x=some (.dK kvs)):Ko H x
def Ko.same(h:Ko H x)(s:Zf H c):Ko c x:=by
 cases h with
 |lst e=>exact .lst (s _ _ e)
 |dK e=>exact .dK (s _ _ e)
def ZK.kd{a:NA}(h:ZK t H n a N)(c:x∈a.l):Ko H x:=by
 ext⟨r1,j,_⟩ h.st;ext⟨v,u,_⟩ h.wk;ext⟨r3,f,_⟩ h.ru;ext⟨y,i,_⟩ h.tk;ext⟨B,g,_⟩ h.tp;simp only[NA.l,SF,List.not_mem_nil,or_false]at c;rcases c with rfl|rfl|rfl|rfl|rfl;exact .dK j;exact .lst u;exact .dK f;exact .dK i;exact .dK g
def RK(h:Ko H x)(hd:H d=some (.tbl p)):x≠d:=λz=>by
 subst z;cases h with
 |lst e=>rw[hd]at e;cases e
 |dK e=>rw[hd]at e;cases e
def LI(k:Ko H x)(n:H y=none):x≠y:=λz=>by
 subst z;cases k with
 |lst e=>rw[n]at e;cases e
 |dK e=>rw[n]at e;cases e
def TIF:HO->Prop
 |.tup _=>True
 |.ins _ _ _=>True
 |.frz _ (.tup _)=>True
 |_=>False
section Kq
variable{H':Hp}(k:∀b o,H b=some o->TIF o->H' b=some o)
include k
theorem Xi.keep(h:Xi H c x):Xi H' c x:=let ⟨e,r,z,e1,e2,e3⟩:=h;⟨e,r,z,e1,k _ _ e2 trivial,k _ _ e3 trivial⟩
theorem YF.keep(h:YF H c x):YF H' c x:=let ⟨e,r,e1,e2⟩:=h;⟨e,r,e1,k _ _ e2 trivial⟩
theorem YD.keep(h:YD H v c):YD H' v c:=let ⟨p,e,h⟩:=h;⟨p,e,k _ _ h trivial⟩
theorem Y8.keep(h:Y8 H c x):Y8 H' c x:=let ⟨e,r,q,vs,e1,e2,e3,e4⟩:=h;⟨e,r,q,vs,e1,k _ _ e2 trivial,k _ _ e3 trivial,e4.imp λ_ _=>YD.keep k⟩
theorem YL.keep(h:YL H v x):YL H' v x:=let ⟨p,e,h⟩:=h;⟨p,e,k _ _ h trivial⟩
theorem Y2.keep(h:Y2 t H c x):Y2 t H' c x:=let ⟨e,b,eb,h⟩:=h;⟨e,b,eb,ZP.keepF (λ_ _ _ _ _ e=>k _ _ e trivial) (λ_ _=>ZgI (λe=>k _ _ e trivial) λ_ e=>k _ _ e trivial) h⟩
theorem ZK.keep{a:NA}(k2:∀b o,H b=some o->b∈a.l->H' b=some o)(h:ZK t H n a N):ZK t H' n a N:=by
 ext⟨⟨C,fs,y,g⟩,ap,⟨r1,E,D⟩,⟨I,i,v⟩,⟨B,J,c⟩,⟨r3,f,j⟩,⟨G,x,u⟩⟩ h;exact⟨⟨C,fs,k _ _ y trivial,g⟩,ap,⟨r1,k2 _ _ E (by simp[NA.l]),D.imp λ_ _=>YF.keep k⟩,⟨I,k2 _ _ i (by simp[NA.l]),v.imp λ_ _=>YL.keep k⟩,⟨B,k2 _ _ J (by simp[NA.l]),c.imp λ_ _=>Y2.keep k⟩,⟨r3,k2 _ _ f (by simp[NA.l]),j.imp λ_ _=>Xi.keep k⟩,⟨G,k2 _ _ x (by simp[NA.l]),u.imp λ_ _=>Y8.keep k⟩⟩
end Kq
def Zhr(xs:List V)(n:Nat):VL xs (some (n:Int)) none=xs.drop n:=by
 unfold VL;rw[HT.sIx_none,HT.sIx_nat];rcases Nat.le_total n xs.length with h|h;rw[Nat.min_eq_left h,SY (by rw[SA];exact Sg _)];rw[Nat.min_eq_right h,Nat.sub_self,List.take_zero,List.drop_eq_nil_of_le h]
def Zhs(cs:List Cl):((cs.map LF).flatten).map V.str=(cs.map Vf).flatten:=by
 induction cs with
 |nil=>rfl
 |cons c r f=>rw[SM,List.flatten_cons,SL,f,SM,List.flatten_cons];rfl
def V4{z:Str}(h:Yc z):z.length<=100:=Sh h.2.1 ()
inductive ZrA(t:Z0)(vs:List V)(H:Hp)(Q:VK)(_e3:XK):Prop|mk (n:Addr) (a:NA) (N:ZD) (x:Z3) (p:Addr) (_:vs=[.ref n,.ref p]) (_:ZK t H n a N) (_:YS N) (_:H p=some (.lst (x.ws.map V.str))) (_:x.Ok) (_:x.due N=none) (_:x.csok N) (_:∀H',Yl a.l H H'->ZK t H' n a (x.add N)->Q .non H')
def ZrB(f:Zs K mg t):Zl P w K mg base Zo 57 t.ZdZ t.Zd0 ["net","words"] (ZrA t):=by
 erw[f.ZfM.F.ok ZmG () λd0 A outer s h0 vs f0 e0 u h=>?_];ext⟨n,a,N,x,p,rfl,G,no,g,ok,due,co,q⟩ h;ext⟨I,fs,J,H⟩ G.ob;erw[⟨_,(Ze (ZH (Ya Yn (ZE Yq (pv 1) Zb) Zq) (Ze (Yg (Yz (pv 0) f.ZG f.B1.me (gR f) (u.mono ()) f.B1.b .nil Xq (Ym (ZE Yq (pv 1) Zb) (Zr f.J7 (Nw f) u Zk (Zc (ZE Yq (pv 1) Zb))) (Zr f.J7 (Nw f) u Zk (Zc (ZE Yq (pv 1) Zb))))))) (Ze (ZH (Ya Yn (ZE Yq (pv 1) Zb) Zq) (Ze (Yg (Yz (pv 0) f.ZG f.B2.me (gU f) (u.mono ()) f.B2.b .nil Xq (Ym (ZE Yq (pv 1) Zb) (ZE Yq (pv 1) Zb) (Zr f.J7 (Nw f) u Zk (Zc (ZE Yq (pv 1) Zb))))))) (Ze (ZH (Ya Yn (ZE Yq (pv 1) Zb) Zq) (Ze (Yg (Yz (pv 0) f.ZG f.Qu.me (RD f) (u.mono ()) f.Qu.b .nil Xq (Zv (ZE Yq (pv 1) Zb) (Zr f.ZfH (Zq4 f) u Xq (Zc (Xa PySem.F.plainAttrs_str PySem.F.slot_str_join PySem.F.type_str_join QF Zq (Zc (Qj Ti (pv 1) (Ud Zb) QC))))))))) (Ze (ZH (Ya Yn (ZE Yq (pv 1) Zb) Zq) (Ze (Yg (Yz (pv 0) f.ZG f.B3.me (gS f) (u.mono ()) f.B3.b .nil Xq (Up (ZE Yq (pv 1) Zb) (Zr f.J7 (Nw f) u Zk (Zc (ZE Yq (pv 1) Zb))) (Zr f.J7 (Nw f) u Zk (Zc (ZE Yq (pv 1) Zb))) (Zr f.ZfN (Zru f) u Zk (Zc (ZE Yq (pv 1) Zb))))))) (Ze (Yg (Yz (pv 0) f.ZG f.B4.me (gW f) (u.mono ()) f.B4.b .nil Xq (Ym (ZE Yq (pv 1) Zb) (ZE Yq (pv 1) Zb) (Zr f.ZfO (Zrw f) u Zk (Zc (Qj Ti (pv 1) (Ud Zb) QC))))))))))))))),?_⟩];sleep 1;have at_:∀{ws:OC} {j:Nat} {z:Str},ws[j]? = some z->Y9 (ws.map V.str) (j:Int)=some (.str z):=λh=>Ue (by rw[Oa,h];rfl);cases x with
 |st x =>
  ext⟨E,D,T,L⟩ ok;erw[⟨_,R,p,_,0,_,R,R,Zd.of g,at_ (j:=0) R,R,_,R,ZB (SQ R) ?_⟩];sleep 1;erw[⟨_,R,n,I,_,R,J,H.n_add_stop,_,R,p,_,1,_,R,R,Zd.of g,at_ (j:=1) R,_,R,p,_,2,_,R,R,Zd.of g,at_ (j:=2) R,x.z,R,(),λY v=>?_⟩];erw[⟨_,R,p,_,3,_,R,R,Zd.of (v _ _ g),at_ (j:=3) R,x.ch,R,(),λQ s2=>?_⟩];have S:=v.trans s2;erw[⟨n,a,N,.str x.nm,.int (x.z:Nat),.int (x.ch:Nat),_,_,R,G.same S,VE _ (V4 E),.int _,.int _,λw i=>?_,λ_ y C B=>q y ((Yl.of S).trans (Yl.wout C (by simp[NA.l]))) B⟩];rw[show Lu N (.str x.nm) (.int (x.z:Nat)) (.int (x.ch:Nat))=none from due]at i;cases i
 |wk x =>
  ext⟨E,D,T,L⟩ ok;erw[⟨_,R,p,_,0,_,R,R,Zd.of g,at_ (j:=0) R,R,_,R,Zn () ?_⟩];sleep 1;erw[⟨_,R,p,_,0,_,R,R,Zd.of g,at_ (j:=0) R,R,_,R,ZB (SQ R) ?_⟩];sleep 1;erw[⟨_,R,n,I,_,R,J,H.n_add_walk,_,R,p,_,1,_,R,R,Zd.of g,at_ (j:=1) R,_,R,p,_,2,_,R,R,Zd.of g,at_ (j:=2) R,_,R,p,_,3,_,R,R,Zd.of g,at_ (j:=3) R,x.m,R,(),λY v=>?_⟩];erw[⟨n,a,N,.str x.o,.str x.t,.int (x.m:Nat),_,_,_,R,G.same v,no,.str _,.str _,.int _,λw i=>?_,λ_ y C B=>q y ((Yl.of v).trans (Yl.wout C (by simp[NA.l]))) B⟩];rw[show Lv N (.str x.o) (.str x.t) (.int (x.m:Nat))=none from due]at i;cases i
 |ru x =>
  ext⟨E,D⟩ ok
  iterate 2 erw[⟨_,R,p,_,0,_,R,R,Zd.of g,at_ (j:=0) R,R,_,R,Zn () ?_⟩]
  sleep 1;erw[⟨_,R,p,_,0,_,R,R,Zd.of g,at_ (j:=0) R,R,_,R,ZB (SQ R) ?_⟩];sleep 1;erw[⟨_,R,n,I,_,R,J,H.n_add_rule,_,R,p,_,1,_,R,R,Zd.of g,at_ (j:=1) R,?_⟩];erw[⟨R,_,R,2,R,p,_,R,Zd.of g,λU M=>?_⟩];have v:=Zx M (.lst (VL ((Z3.ru x).ws.map V.str) (some 2) none));have O:VL ((Z3.ru x).ws.map V.str) (some 2) none=x.r.words.map V.str:=Zhr _ 2;erw[⟨_,U,x.r.words,R,R,Zd.of (by rw[Zh,O]),Zhd D.1 D.2.1,x.r,R,D.1,D.2.1,D.2.2,λb Q s2 b0=>?_⟩];have S:=v.trans s2;erw[⟨n,a,N,.str x.nm,.ref b,some x.r,R,G.same S,VE _ (V4 E),⟨⟨b,R,by rwa[f.kf]⟩,D⟩,λw i=>?_,λ_ y C B=>q y ((Yl.of S).trans (Yl.wout C (by simp[NA.l]))) B⟩];rw[show D1 N (.str x.nm) (some x.r)=none from due]at i;cases i
 |tk x =>
  have ok:x.Ok:=ok
  iterate 3 erw[⟨_,R,p,_,0,_,R,R,Zd.of g,at_ (j:=0) R,R,_,R,Zn () ?_⟩]
  sleep 1;erw[⟨_,R,p,_,0,_,R,R,Zd.of g,at_ (j:=0) R,R,_,R,ZB (SQ R) ?_⟩];sleep 1;erw[⟨_,R,n,I,_,R,J,H.n_add_ticket,_,R,p,_,1,_,R,R,Zd.of g,at_ (j:=1) R,_,R,p,_,2,_,R,R,Zd.of g,at_ (j:=2) R,x.pr,R,ok.pr,λY v=>?_⟩];erw[⟨_,R,p,_,3,_,R,R,Zd.of (v _ _ g),at_ (j:=3) R,x.la,R,Sh ok.la (),λQ s2=>?_⟩];have S:=v.trans s2;erw[⟨_,R,p,_,4,_,R,R,Zd.of (S _ _ g),at_ (j:=4) R,x.zs,R,ok.z1,ok.z6,λz hz=>Sh (ok.rng z hz).2 (),λl H3 hl s3 c0=>?_⟩];have X:=S.trans s3;erw[⟨n,a,N,.str x.nm,.int (x.pr:Nat),.int (x.la:Nat),.ref l,_,_,some (ZN x.zs),R,G.same X,VE _ (V4 ok.nm),.int _,.int _,⟨l,R,c0,λg0 hv=>?_⟩,λw i=>?_,λ_ y C B=>q y ((Yl.of X).trans (Yl.wout C (by simp[NA.l]))) ?_⟩];obtain⟨z,_,rfl⟩:=SJ.mp hv;exact⟨_,.int _⟩;rw[show Nm N (.str x.nm) (.int (x.pr:Nat)) (.int (x.la:Nat)) (some (ZN x.zs))=none from due]at i;cases i;have:addK N (.str x.nm) (.int (x.pr:Nat)) (.int (x.la:Nat)) (some (ZN x.zs))=(Z3.tk x).add N:=by
   unfold addK Z3.add;rw[show((some (ZN x.zs)).getD []).map YU=x.zs by show(x.zs.map _).map YU=_;rw[Oe];exact List.map_id' _];rfl
  rwa[<-this]
 |tp x =>
  ext⟨E,D,T,L,h5⟩ ok
  iterate 4 erw[⟨_,R,p,_,0,_,R,R,Zd.of g,at_ (j:=0) R,R,_,R,Zn () ?_⟩]
  sleep 1;erw[⟨_,R,n,I,_,R,J,H.n_add_trip,_,R,p,_,1,_,R,R,Zd.of g,at_ (j:=1) R,_,R,p,_,2,_,R,R,Zd.of g,at_ (j:=2) R,?_⟩];erw[⟨_,R,3,R,p,_,R,Zd.of g,λU M=>?_⟩];have v:=Zx M (.lst (VL ((Z3.tp x).ws.map V.str) (some 3) none));have O:VL ((Z3.tp x).ws.map V.str) (some 3) none=(x.cs.map Vf).flatten:=(Zhr _ 3).trans (by rw[<-Zhs];rfl);erw[⟨U,x.cs,R,by rw[Zh,O],L,λc hc=>(h5 c hc).2,λl us Q hl s2 a0 Z=>?_⟩];have S:=v.trans s2;erw[⟨n,a,N,.str x.nm,.str x.ru,_,x.cs,l,us,R,G.same S,VE _ (V4 E),.str _,a0,Z,co,T,L,λw i=>?_,λ_ y C B=>q y ((Yl.of S).trans (Yl.wout C (by simp[NA.l]))) B⟩];rw[show Lw N (.str x.nm) (.str x.ru)=none from due]at i;cases i
inductive ZrC(t:Z0)(vs:List V)(H:Hp)(Q:VK)(_e3:XK):Prop|mk (n:Addr) (a:NA) (N:ZD) (x:Z3) (p:Addr) (i:Int) (_:vs=[.ref n,.int i,.ref p]) (_:ZK t H n a N) (_:YS N) (_:H p=some (.lst (x.ws.map V.str))) (_:x.Ok) (_:x.due N=none) (_:x.csok N) (_:∀H',Yl a.l H H'->ZK t H' n a (x.add N)->Q .non H')
def Z3.form{x:Z3}(h:x.Ok):Zhi x.ws:=by
 cases x with
 |st x=>exact⟨_,_,R,.inl ⟨.inl R,R⟩⟩
 |wk x=>exact⟨_,_,R,.inl ⟨.inr R,R⟩⟩
 |ru x=>exact⟨_,_,R,.inr (.inr (.inl ⟨R,by show 2<=x.r.words.length+1;have:=List.length_pos_iff.mpr (Pq x.r);lia⟩))⟩
 |tk x=>exact⟨_,_,R,.inr (.inl ⟨R,R⟩)⟩
 |tp x=>exact⟨_,_,R,.inr (.inr (.inr ⟨R,by
   have e:((x.cs.map LF).flatten).length=3*x.cs.length:=by rw[<-Sv (f:=V.str),Zhs,Nu]
   show(((x.cs.map LF).flatten).length+1+1+1)%3=0;omega⟩))⟩
def ZrD(c:Zs K mg t):Zl P w K mg base Zo 60 t.ZdV t.ZdW ["net","number","words"] (ZrC t):=by
 erw[c.ZfK.F.ok ZcI () λG A outer s H C Q E g h=>?_];ext⟨n,a,N,x,p,i,rfl,u,no,j,ok,due,co,q⟩ h;erw[⟨_,(Zi (ZH (Yx (Yy (Zr c.ZfL (Zrr c) g Zk (Zc (pv 2))))) (Ze Wy) ZJ) (Ze (Zbq (i:=3) ⟨R,R⟩ R ZcI.nd R R R c.ZfW (λpins D=>(Ze (Yg (Zr c.ZfM (ZrB c) g Zk (Zv (pv 0) (pv 2)))))) (λa=>(Ze Wy))))),?_⟩];sleep 2;erw[⟨_,R,p,x.ws,R,j,x.form ok,λw y=>(x.wd ok w y).1,λI f=>⟨_,R,Zn () ?_⟩⟩];sleep 1;exact⟨_,R,_,R,n,a,N,x,p,R,u.same f,no,f _ _ j,ok,due,co,λB o v=>q B ((Yl.of f).trans o) v⟩
def NF.num(h:NF N):Zai N:=⟨λx f=>by have:=h.st x f;lia,λx f=>by have:=h.wk x f;lia,λx f c g=>by have:=(h.tr x f).2.rng c g;lia⟩
def ZrE(h:NF N):spl 10 (ZA (UI N))=(XY N).map ZA++[[]]:=by
 erw[Zrk _ λz c=>?_];rw[LH]at c;obtain⟨x,f,rfl⟩:=SJ.mp c;exact x.free (h.adds.all x f) () ()
def ZrF(ok:YS N):(XY N).length<=39:=by
 have:=ok.s8;have:=ok.w12;have:=ok.r6;have:=ok.t3;have:=ok.p10;unfold XY;simp only[Su,Sv];lia
def ZrG(h:NF N):(UI N).length+2<=sizeLine:=by
 have n:=Zaj h.ok (Zak h.ok h.num);have c:=StrLaws.join_length_le (OK "") ((XY N).map λz=>z++OK "\n");have j:(OK "").length=0:=by lia
 have g:(OK "\n").length<=1:=by lia
 have f:=Zhe (k:=0) (m:=110001) (ts:=(XY N).map λz=>z++OK "\n") λx i=>by
  obtain⟨z,u,rfl⟩:=SJ.mp i;exact ZbP (n z u) g
 rw[Sv]at c f;have y:=Nat.mul_le_mul_left (110001+0) (ZrF h.ok);have v:(110001+0)*39+2<=sizeLine:=by lia
 unfold UI;rw[j,Nat.mul_zero]at c;simp only[Nat.add_zero]at f;lia
def ZrH:OK "\n"=(⟨#[10]⟩:Str):=by lia
inductive ZrI(t:Z0)(vs:List V)(H:Hp)(Q:VK)(_e3:XK):Prop|mk (N:ZD) (_:vs=[.str (UI N)]) (_:NF N) (_:∀n a H',Zf H H'->ZK t H' n a N->U6 H a->Q (.ref n) H')
def Zao(c:Zs K mg t):Zl P w K mg base Zo 62 t.ZdR t.ZdS ["text"] (ZrI t):=by
 erw[c.PQ.F.ok MF () λk0 A outer s H vs m0 l0 S h=>?_];ext⟨N,rfl,nf,q⟩ h;erw[⟨_,(Zi (ZH (Yx (Yy (ZV Ug c.YR YQ (Zv (pv 0) (VM R c.VW VT))))) (Ze Wy) ZJ) (Zi (ZL 1 MF.nd (Za6 c.ZfV (ZgK c) (S.mono ()) R c.Zf1 c.kI.b .nil Zk)) (Zi (WO (Zlk R c.PH (Zc (Xa PySem.F.plainAttrs_str PySem.F.slot_str_split PySem.F.type_str_split N4 (pv 0) (Zc Zq))) (Za8 Zb Za7)) (V9 (n:=2) R (Xk (ZZ 2 MF.nd) (Xk (ZZ 3 MF.nd) V8))) (Zi (ZL 4 MF.nd (Zr c.ZfJ (Zrp c) S Zk (Zc (pv 3)))) (Ze (ZH (Ya Qi (ZV X0 c.Xh Xf (Zc (pv 4))) Zb) (Ze (Yg (Zr c.ZfK (ZrD c) S Zk (Ym (pv 1) (pv 2) (pv 4))))) ZJ)))) (Ze (Zt (pv 1)))))),?_⟩];sleep 4;erw[⟨_,R,.str (UI N),"str",_,_,R,(Kd.str (H:=H) (UI N)).ty,Mj (Kd.str (H:=H) (UI N)),_,R,Zn () ?_⟩];sleep 1;intro n dx L b0 f0;erw[⟨n,H,R,L,W0 (Zx b0 _) L _,⟨dx,Zh⟩,λH1 a S1 c0 j=>⟨R,?_⟩⟩];clear L b0 f0;erw[⟨_,R,R,UI N,10,R,congrArg (λz=>[V.str z]) ZrH,ZrG nf,λy a0=>?_⟩];rw[show spl 10 (UI N).cps.toList=_ from ZrE nf];have n0:y∉a.l:=λm=>LI (c0.kd m) a0 R;generalize J:upd H1 y _=Q;have s2:=Z1 a0 J;have c2:Q y=some (.lst (D8 ((XY N).map ZA++[[]]))):=ZX J;clear J;have S2:=S1.trans s2;have i0:=c0.same s2;have back:∀{H'},Yl a.l Q H'->Zf H H':=λo x d0 e=>o x d0 (S2 x d0 e) λm=>by
  simp only[NA.l,SF,List.not_mem_nil,or_false]at m;rcases m with rfl|rfl|rfl|rfl|rfl;rw[j.s]at e;cases e;rw[j.w]at e;cases e;rw[j.r]at e;cases e;rw[j.t]at e;cases e;rw[j.p]at e;cases e
 erw[⟨y,R,R,⟨_,Zd.of c2⟩,Zll (K:=K) (a:=y) (xs:=D8 ((XY N).map ZA++[[]])) (λi B H'=>∃M,Yl a.l Q H'/\ZK t H' n a M/\Wx M ((LG N).drop i) N/\∃T Y X:Option V,B=[some (.str (UI N)),some (.ref n),T,Y,X]) ⟨_,Yl.of (Zf.refl _),i0,nf.adds,_,_,_,R⟩ (λi B H' _ ⟨_,h,_⟩=>Zd.of (h _ _ c2 n0)) ?_ ?_⟩];rintro i v p B D O hp ⟨M,E,C,ad,T,Y,X,rfl⟩;have I:=Zx hp (.tup [.int ((i+1:Nat):Int),v]);have Z:upd D p (.tup [.int ((i+1:Nat):Int),v]) p=some (.tup [.int ((i+1:Nat):Int),v]):=Zh;generalize upd D p (.tup [.int ((i+1:Nat):Int),v])=H4 at I Z ⊢;erw[⟨p,_,R,Zp.of Z,R,_,_,R,_,_,R,R,?_⟩];unfold D8 at O;rw[Oa]at O;obtain⟨l,f,rfl⟩:=Of.mp O;rcases Zho f with⟨g,f⟩|⟨g,f⟩
 ·rw[LH,Sv,Sv]at g
  rw[LH,Oa,Oa,Ss g]at f;rw[List.drop_eq_getElem_cons g]at ad;have mx:(LG N)[i].tx∈XY N:=by rw[LH];exact SJ.mpr ⟨_,Oi g,R⟩
  generalize (LG N)[i]=x at f ad mx;obtain rfl:ZA x.tx=l:=So f;cases ad with
  |cons ok due co h0 ad =>
  have ne:ZA x.tx≠[]:=λe=>by
   have h:=x.cut ok;rw[e]at h;have h:[[]]=x.ws.map ZA:=h;have hm:([]:OG)∈x.ws.map ZA:=by rw[<-h];exact SD
   obtain⟨w,U,j0⟩:=SJ.mp hm;exact(x.wd ok w U).1 j0
  erw[⟨_,R,x.tx,x.ws.map ZA,R,Sh (Nat.add_le_add_right (Zaj nf.ok (Zak nf.ok nf.num) _ mx) 2) (),x.free ok () (),.inr ⟨ne,x.cut ok,λw U=>by obtain⟨w',h',rfl⟩:=SJ.mp U;exact(x.wd ok w' h').1⟩,λG H5 g0 s5 u=>?_⟩];rw[Zrz]at u;have wl:0<x.ws.length:=List.length_pos_iff.mpr x.ne;erw[⟨_,R,G,_,R,.inl (Zd.of u),_,_,R,R,_,R,ZB (SQ (by rw[Sv];lia)) ?_⟩];have S5:=I.trans s5;exact⟨_,R,_,R,_,R,n,a,M,x,G,_,R,C.same S5,h0,u,ok,due,co,λH6 o6 e0=>⟨_,E.trans ((Yl.of S5).trans o6),e0,ad,_,_,_,R⟩⟩
 obtain rfl:l=[]:=SE.mp (SK f);rw[Sv,LH,Sv]at g;erw[⟨_,R,⟨#[]⟩,[],R,(),(λh=>by cases h),.inl ⟨rfl,rfl⟩,λG H5 g0 s5 u=>?_⟩];erw[⟨_,R,G,_,R,.inl (Zd.of u),_,_,R,R,_,R,Zn () ⟨M,E.trans (Yl.of (I.trans s5)),C.same (I.trans s5),?_,_,_,_,R⟩⟩];rw[List.drop_eq_nil_of_le ()]at ad ⊢;exact ad;rintro B D ⟨M,E,C,ad,T,Y,X,rfl⟩;rw[List.drop_eq_nil_of_le (by unfold D8;rw[Sv,Su,Sv,LH,Sv];exact Nat.le_succ _)]at ad;cases ad;exact⟨_,R,q n a D (back E) C j⟩
structure RL(H:Hp)(wd:Addr)(a:NA):Prop extends U6 H a where
 d:H wd=none
 ns:wd≠a.ds
 nr:wd≠a.dr
 nt:wd≠a.dt
 np:wd≠a.dp
section Wp
variable{d:Addr}{kvs:List (ZF×V)}{o:HO}(hd:H d=some (.dK kvs))
include hd
theorem X9(h:H p=some (.lst xs)):upd H d o p=some (.lst xs):=by rwa[Zj (XZ h hd (by intro z;cases z))]
theorem Y7.put(h:Y7 tp H v r):Y7 tp (upd H d o) v r:=by
 induction h with
 |always h=>exact .always (XW hd ZM.k h)
 |week h=>exact .week (XW hd ZM.k h)
 |span h _ i=>exact .span (XW hd ZM.k h) i
 |each h f ne=>exact .each (XW hd ZM.k h) (X9 hd f) ne
 |either h _ _ g c=>exact .either (XW hd ZM.k h) g c
 |both h _ _ g c=>exact .both (XW hd ZM.k h) g c
 |but h f ne _ i=>exact .but (XW hd ZM.k h) (X9 hd f) ne i
theorem WT.put(h:WT H c k):WT (upd H d o) c k:=let ⟨e,tp,h⟩:=h;⟨e,tp,Y7.put hd h⟩
theorem Vb.put(h:Vb H c k):Vb (upd H d o) c k:=let ⟨e,r,z,e1,e2,e3⟩:=h;⟨e,r,z,e1,XW hd ZM.k e2,X9 hd e3⟩
theorem Vc.put(h:Vc H c k):Vc (upd H d o) c k:=let ⟨e,r,l,vs,e1,e2,e3,e4⟩:=h;⟨e,r,l,vs,e1,XW hd ZM.k e2,X9 hd e3,e4.imp λ_ _=>YD.put hd ZM.k⟩
end Wp
section Wa
variable{H0:Hp}{wd:Addr}{a:NA}{W:ZD}{rows:List (ZF×V)}{v:V}(h:Y3 H wd a W)(n:RL H0 wd a)
include h n
theorem Y3.addSt{x:ZI}(c:H a.ds=some (.dK rows))(u:Al (YF H) rows W.st)(M:YC rows (Sum.inr x.nm)=none)(i:YF H (Sum.inr x.nm,v) x):Y3 (upd H a.ds (.dK (Xd rows (Sum.inr x.nm) v))) wd a {W with st:=W.st++[x]}:=by
 ext⟨⟨B,I,j⟩,ap,_,⟨O,y,E⟩,⟨J,Q,f⟩,⟨r3,g,C⟩,⟨L,G,D⟩⟩ h;erw[⟨⟨B,by rwa[Zj n.ns],j⟩,ap,⟨_,Zh,?_⟩,⟨O,X9 c y,E.imp λ_ _=>YL.put c ZM.k⟩,⟨J,by rwa[Zj (ap.sr.symm)],f.imp λ_ _=>WT.put c⟩,⟨r3,by rwa[Zj (ap.st.symm)],C.imp λ_ _=>Vb.put c⟩,⟨L,by rwa[Zj (ap.sp.symm)],D.imp λ_ _=>Vc.put c⟩⟩];rw[QH v M];exact(u.imp λ_ _=>YF.put c ZM.k).snoc (i.put c ZM.k)
theorem Y3.addWk(c:H a.lw=some (.lst vs))(B:Al (YL H) vs W.wk)(u:YL H v x)(nr:W.ru=[])(nt:W.tk=[])(np:W.tp=[]):Y3 (upd H a.lw (.lst (vs++[v]))) wd a {W with wk:=W.wk++[x]}:=by
 ext⟨⟨C,E,y⟩,ap,⟨r1,J,I⟩,_,⟨G,M,f⟩,⟨r3,j,g⟩,⟨L,D,i⟩⟩ h;have kp:∀{p:Addr} {k:List (ZF×V)},H p=some (.dK k)->upd H a.lw (.lst (vs++[v])) p=some (.dK k):=λe=>by rwa[Zj (XZ e c (by intro z;cases z))]
 erw[⟨⟨C,kp E,y⟩,ap,⟨r1,kp J,I.imp λ_ _=>YF.put c ZM.l⟩,⟨_,Zh,?_⟩,⟨G,kp M,?_⟩,⟨r3,kp j,?_⟩,⟨L,kp D,?_⟩⟩];exact(B.imp λ_ _=>YL.put c ZM.l).snoc (u.put c ZM.l);rw[nr]at f ⊢;cases f;exact .nil;rw[nt]at g ⊢;cases g;exact .nil;rw[np]at i ⊢;cases i;exact .nil
theorem Y3.addRu{x:Yd}(c:H a.dr=some (.dK rows))(j:Al (WT H) rows W.ru)(M:YC rows (Sum.inr x.nm)=none)(g:WT H (Sum.inr x.nm,v) x):Y3 (upd H a.dr (.dK (Xd rows (Sum.inr x.nm) v))) wd a {W with ru:=W.ru++[x]}:=by
 ext⟨⟨y,G,i⟩,ap,⟨r1,J,I⟩,⟨O,u,D⟩,_,⟨r3,f,B⟩,⟨L,E,C⟩⟩ h;erw[⟨⟨y,by rwa[Zj n.nr],i⟩,ap,⟨r1,by rwa[Zj (ap.sr)],I.imp λ_ _=>YF.put c ZM.k⟩,⟨O,X9 c u,D.imp λ_ _=>YL.put c ZM.k⟩,⟨_,Zh,?_⟩,⟨r3,by rwa[Zj (ap.rt.symm)],B.imp λ_ _=>Vb.put c⟩,⟨L,by rwa[Zj (ap.rp.symm)],C.imp λ_ _=>Vc.put c⟩⟩];rw[QH v M];exact(j.imp λ_ _=>WT.put c).snoc (g.put c)
theorem Y3.addTk{x:YE}(c:H a.dt=some (.dK rows))(j:Al (Vb H) rows W.tk)(M:YC rows (Sum.inr x.nm)=none)(g:Vb H (Sum.inr x.nm,v) x):Y3 (upd H a.dt (.dK (Xd rows (Sum.inr x.nm) v))) wd a {W with tk:=W.tk++[x]}:=by
 ext⟨⟨y,E,i⟩,ap,⟨r1,J,I⟩,⟨O,u,C⟩,⟨G,Q,f⟩,_,⟨L,D,B⟩⟩ h;erw[⟨⟨y,by rwa[Zj n.nt],i⟩,ap,⟨r1,by rwa[Zj (ap.st)],I.imp λ_ _=>YF.put c ZM.k⟩,⟨O,X9 c u,C.imp λ_ _=>YL.put c ZM.k⟩,⟨G,by rwa[Zj (ap.rt)],f.imp λ_ _=>WT.put c⟩,⟨_,Zh,?_⟩,⟨L,by rwa[Zj (ap.tp.symm)],B.imp λ_ _=>Vc.put c⟩⟩];rw[QH v M];exact(j.imp λ_ _=>Vb.put c).snoc (g.put c)
theorem Y3.addTp{x:Tp}(c:H a.dp=some (.dK rows))(u:Al (Vc H) rows W.tp)(L:YC rows (Sum.inr x.nm)=none)(i:Vc H (Sum.inr x.nm,v) x):Y3 (upd H a.dp (.dK (Xd rows (Sum.inr x.nm) v))) wd a {W with tp:=W.tp++[x]}:=by
 ext⟨⟨B,E,j⟩,ap,⟨r1,J,I⟩,⟨M,y,D⟩,⟨G,O,f⟩,⟨r3,g,C⟩,_⟩ h;erw[⟨⟨B,by rwa[Zj n.np],j⟩,ap,⟨r1,by rwa[Zj (ap.sp)],I.imp λ_ _=>YF.put c ZM.k⟩,⟨M,X9 c y,D.imp λ_ _=>YL.put c ZM.k⟩,⟨G,by rwa[Zj (ap.rp)],f.imp λ_ _=>WT.put c⟩,⟨r3,by rwa[Zj (ap.tp)],C.imp λ_ _=>Vb.put c⟩,⟨_,Zh,?_⟩⟩];rw[QH v L];exact(u.imp λ_ _=>Vc.put c).snoc (i.put c)
end Wa
structure RM(W:ZD):Prop where
 s2:2<=W.st.length
 s5:W.st.length<=5
 sn:(W.st.map ZI.nm).Nodup
 so:∀x∈W.st,Yc x.nm/\1<=x.z/\x.z<=6/\x.ch<=30
 w4:W.wk.length<=4
 wo:∀x∈W.wk,x.o∈W.st.map ZI.nm/\x.t∈W.st.map ZI.nm/\x.o≠x.t/\1<=x.m/\x.m<=60
 wn:∀i x,W.wk[i]? = some x->VZ (W.wk.take i) x.o x.t=false
 r1:1<=W.ru.length
 r3:W.ru.length<=3
 rn:(W.ru.map Yd.nm).Nodup
 ro:∀x∈W.ru,Yc x.nm/\x.r.Ok
 t2:W.tk.length<=2
 tn:(W.tk.map YE.nm).Nodup
 to:∀x∈W.tk,x.Ok
 p3:W.tp.length<=3
 pn:(W.tp.map Tp.nm).Nodup
 po:∀x∈W.tp,Yc x.nm/\x.ru∈W.ru.map Yd.nm/\X8 (W.st.map ZI.nm) x.cs/\2<=x.cs.length/\x.cs.length<=6
inductive ZrJ(vs:List V)(H:Hp)(Q:VK)(_e3:XK):Prop|mk (d:Nat) (_:vs=[.int d]) (_:d<998244353) (_:∀wd a W H',Zf H H'->RL H wd a->Y3 H' wd a W->RM W->Q (.ref wd) H')
def Vv(d:Nat):List Str:=(List.range 8).map (ZU d)
def ZrK{i : Nat}(h:i<8):(Vv d)[i]? = some (ZU d i):=by
 unfold Vv;rw[Oa,List.getElem?_range h];rfl
def RN{d i:Nat}(h:i<8):Y9 ((Vv d).map V.str) (i:Int)=some (.str (ZU d i)):=Ue (by rw[Oa,ZrK h];rfl)
def RO{i j : Nat}(hi:i<8)(c:j<8)(e:ZU d i=ZU d j):i=j:=by
 rcases Nat.lt_trichotomy i j with h|h|h;exact Os e (gK h (Sn c));exact h;exact Os e.symm (gK h (Sn hi))
def Zap{f:Type}{nm:f->Str}{xs:List f}{d k i:Nat}(e:xs.map nm=(List.range i).map λj=>ZU d (j+k))(h:i+k<8):Yw nm xs (ZU d (i+k))=none:=by
 unfold Yw;rw[List.find?_eq_none];intro y u g;have hm:nm y∈xs.map nm:=SJ.mpr ⟨y,u,R⟩;rw[e,SS g]at hm;obtain⟨j,c,n⟩:=SJ.mp hm;have c:=List.mem_range.mp c;have:=RO () h n;lia
def Ny{k : Nat}(h:i+k<=8):((List.range i).map λj=>ZU d (j+k)).Nodup:=by
 erw[List.pairwise_map.mpr (List.nodup_range.imp_of_mem λ{a b} ha c f e=>f ?_)];have:=RO (by have:=List.mem_range.mp ha;lia) (by have:=List.mem_range.mp c;lia) e;lia
def D9{c:Type}{nm:c->Str}{xs:List c}{f:Nat->Str}{i:Nat}(e:xs.map nm=(List.range i).map f):xs.length=i:=by
 have:=congrArg List.length e;rwa [Sv,Sv,List.length_range]at this
def E3(d:Nat)(c:List Wl):Prop:=∀j x,c[j]? = some x->(x.o=ZU d j/\x.t=ZU d (j+1)\/x.o=ZU d (j+1)/\x.t=ZU d j)/\1<=x.m/\x.m<=60
def E3.snoc{f:List Wl}{x:Wl}(h:E3 d f)(g:(x.o=ZU d f.length/\x.t=ZU d (f.length+1)\/x.o=ZU d (f.length+1)/\x.t=ZU d f.length)/\1<=x.m/\x.m<=60):E3 d (f++[x]):=λj y e=>by
 by_cases c:j<f.length;rw[List.getElem?_append_left c]at e;exact h j y e;have i:=(Sr.mp e).1;rw[Su,Sw]at i;obtain rfl:j=f.length:=by lia
 rw[Ob (Sg _),Nat.sub_self]at e;cases e;exact g
def E3.new{f:List Wl}(h:E3 d f)(l:f.length<=6):∀i x,f[i]? = some x->VZ (f.take i) x.o x.t=false:=λi x e=>by
 unfold VZ;rw[List.any_eq_false];intro y H c;obtain⟨j,G,C⟩:=List.mem_iff_getElem.mp H;rw[Sx]at G;rw[List.getElem_take]at C;have E:=h j y (by rw[<-C];exact Ss ());have ex:=h i x e;have M:=(Sr.mp e).1;have inj:∀{a b},a<=7->b<=7->ZU d a=ZU d b->a=b:=λha I e=>RO () () e;simp only[Bool.or_eq_true,Bool.and_eq_true,beq_iff_eq]at c;rcases ex.1 with⟨u,D⟩|⟨u,D⟩<;>rcases E.1 with⟨B,v⟩|⟨B,v⟩<;>rcases c with⟨n,g⟩|⟨n,g⟩<;>(simp only[u,D,B,v]at n g;have L:=inj () () n;have J:=inj () () g;lia)
def ZrL(E:Zs K mg t):Zl P w K mg base Zo 8 t.Zev t.Zew ["_law_seed"] ZrJ:=by
 erw[E.ZfT.F.ok Vp () λb3 A outer s H vs u2 y2 Q h=>?_];ext⟨d,rfl,hd,q⟩ h;erw[⟨_,(Zi (ZL 1 Vp.nd (ZiP (ZqD E) (Q.mono ()) R E.PR.m E.PR.F.kp E.PR.b .nil Zk)) (Zi (T0 (i0:=2) (cl:=[(OK "_law_seed",s.heap.objs.size+1)]) (N:=["_law_k","_law_seed"]) (fr:=[none,some 0]) Vp.nd R (Or.inl R) R (Qg R E.VU (Zc Zb)) R () R () ⟨⟨R,Or.inl R,Or.inl R,_,R,R⟩,trivial⟩ ⟨R,trivial⟩ R (λ_ _ _ _ _=>(ZZ 0 (show List.Nodup (["_law_k","_law_seed"]:OC) by lia))) (λ_ _ _ _ _=>Xu) (λ_ _ _ _ _=>(Zr E.jS (ZgF E) Q Zk (Zv (pv 1) (pv 0))))) (Qm (WO (Qg R E.VU (Zc (Zg Yr Zb (Zg ZY (pv 0) Zb)))) (ZZ 3 Vp.nd) (Ze (QI (Uf Q) (Wk Q (pv 1) Zq) (ZE Yq (pv 2) (pv 3)) (YX (Zv (Zg Yr Zb (Zg ZY (Zr E.UA (U4 E) Q Zk (Zv (pv 0) (Zg Yr Zb (pv 3)))) Zb)) (Zg ZY (Zr E.UA (U4 E) Q Zk (Zv (pv 0) (Zg Yr Zb (pv 3)))) Zb))) R))) (Zi (ZL 4 Vp.nd (Z5 (G2 R) R E.XH XT (Zc (Wk Q (pv 1) Zq)))) (Qm (WO (Qg R E.VU (Zc (Zg ZY (Zg YO (pv 0) Zb) (ZV X0 E.Xh Xf (Zc (pv 4)))))) (ZZ 3 Vp.nd) (Zi (ZL 5 Vp.nd (LP (Ya R8 (Zg Yr (pv 3) Zb) (ZV X0 E.Xh Xf (Zc (pv 4)))) (Zmh (Z4 (Zv (ZE Yq (pv 4) (pv 3)) (ZE Yq (pv 4) (Zg Yr (pv 3) Zb)))) (Ud (Zg VI Zb (Zg QA Zb (Zg ZY (Zg YO (pv 0) Zb) Zb))))) (Z4 YZ))) (Ze (ZH (Ya (Zlt Q.units0) (pv 5) (Z4 YZ)) (Ze (Yg (Xa PySem.F.plainAttrs_list PySem.F.slot_list_append PySem.F.type_list_append Ma (Wk Q (pv 1) Zq) (Zc (YX (Ym (ZE Yq (pv 5) Zb) (ZE Yq (pv 5) Zb) (Zg Yr Zb (Zg ZY (Zr E.UA (U4 E) Q Zk (Zv (pv 0) (Zg Yr Zb (pv 3)))) Zb)))))))) ZJ)))) (Qm (WO (Qg R E.VU (Zc (Zg Yr Zb (Zg ZY (Zg YO (pv 0) Zb) Zb)))) (ZZ 3 Vp.nd) (Ze (QI (Uf Q) (Wk Q (pv 1) Zq) (ZE Yq (pv 2) (Zg Yr (pv 3) Zb)) (Zr E.U1 (ZgX E 3) Q Zk (Zv (Zr E.UA (U4 E) Q Zk (Zv (pv 0) (Zg Yr Zb (pv 3)))) Zb)) R))) (Qm (WO (Qg R E.VU (Zc (Zg ZY (Zg YO (pv 0) Zb) Zb))) (ZZ 3 Vp.nd) (Zi (ZL 6 Vp.nd (Zr E.UA (U4 E) Q Zk (Zv (pv 0) (Zg Yr Zb (pv 3))))) (Qm (ZL 7 Vp.nd (Zk3 (Xv (cl:=[(OK "_law_mixed_here",s.heap.objs.size+2)]) (N:=["_law_zone","_law_mixed_here"]) (fr:=[none,some 6]) R (Zil R E.VU (Zv Zb Zb)) R () R () ⟨⟨R,Or.inl R,Or.inl R,_,R,R⟩,trivial⟩ ⟨R,trivial⟩ R (λ_ _ _ _ _=>(ZZ 0 (show List.Nodup (["_law_zone","_law_mixed_here"]:OC) by lia))) (λ_ _ _ _ _=>(TB (Ya Yn (Zg ZY (Zg YO (pv 1) (Zg ZaT Zb (pv 0))) Zb) Zb))) (λ_ _ _ _ _=>(pv 0))) (Vi (Z4 (Zc Zb))))) (Ze (QI (Uf Q) (Wk Q (pv 1) Zq) (ZE Yq (pv 2) (pv 3)) (YX (Ym (Zg ZY (Zg YO (pv 6) Zb) Zb) (Zg Yr Zb (Zg ZY (Zg YO (pv 6) Zb) Zb)) (pv 7))) R))))) (Zi (ZL 8 Vp.nd (Z5 (G2 R) R E.XH XT (Zc (Wk Q (pv 1) Zq)))) (Qm (WO (Qg R E.VU (Zc (Zg ZY (Zg YO (pv 0) Zb) Zb))) (ZZ 3 Vp.nd) (Zi (ZL 6 Vp.nd (Zr E.UA (U4 E) Q Zk (Zv (pv 0) (Zg Yr Zb (pv 3))))) (Ze (QI (Uf Q) (Wk Q (pv 1) Zq) (ZE Yq (pv 2) (Zg Yr (pv 3) Zb)) (YX (Zv (ZE Yq (pv 8) (Zg ZY (pv 6) (ZV X0 E.Xh Xf (Zc (pv 8))))) (Zr E.jT (ZgG E) Q Zk (Ym (Zg YO (pv 6) Zb) (pv 4) (Zg Yr Zb (Zg ZY (Zg YO (pv 6) Zb) Zb)))))) R)))) (Ze (Zt (pv 1)))))))))))),?_⟩];sleep 3;erw[⟨R,λwd a H1 s1 l2 n2 dd W1=>?_⟩];have nW:RL H wd a:=⟨n2,l2,dd.1,dd.2.1,dd.2.2.1,dd.2.2.2⟩;erw[⟨8,R,(),(),N2 (λi k0 u c=>Zf H1 c/\k0=((List.range i).map (ZU d)).map V.str/\∃v,u=[v,some (.int d)]) ⟨Zf.refl _,R,_,R⟩ (zL9 R) ?_ ?_⟩];rintro i k0 u c hi ha ⟨s',e,v,rfl⟩;dsimp only[YV,X2];rw[SV R];erw[⟨_,R,_,R,d,i,by show[V.int d,V.int (0+(i:Int))]=_;rw[Int.zero_add],(),λH2 s2=>⟨by rw[Su,Sw];lia,s'.trans s2,?_,_,R⟩⟩];rw[e,Oj,SL,SL];rfl;rintro k0 u H2 ha ⟨s2,e,v,rfl⟩ J gn;subst e;rw[show(List.range (Int.toNat 8)).map (ZU d)=Vv d from R];exists H2,J,H3,s3,gn,hn;have w2:=(s1.trans s2).free gn;have nl:J≠a.lw:=by
  obtain⟨vs,h,_⟩:=(W1.same s2).wk;exact(ZR h gn).symm
 replace s3:Zf H1 H3:=s2.trans s3;have S3:=s1.trans s3;replace W1:=W1.same s3;clear s2 s3 gn;erw[⟨λu c=>∃(g:List ZI) (B:Option V),Zf H c/\c J=some (.lst ((Vv d).map V.str))/\Y3 c wd a ⟨g,[],[],[],[]⟩/\g.map ZI.nm=(List.range (2+d%4)).map (ZU d)/\(∀x∈g,Yc x.nm/\1<=x.z/\x.z<=6/\x.ch<=30)/\u=[some (.int d),some (.ref wd),some (.ref J),B,none,none,none,none,none],?_,?_⟩];sleep 1;have en:((2:Int)+(d:Int)%4).toNat=2+d%4:=by lia
 refine⟨_,R,_,_,R,R,(),_,_,R,R,_,R,(),(),E6 (λi u c=>∃(g:List ZI) (B:Option V),Zf H c/\c J=some (.lst ((Vv d).map V.str))/\Y3 c wd a ⟨g,[],[],[],[]⟩/\g.map ZI.nm=(List.range i).map (ZU d)/\(∀x∈g,Yc x.nm/\1<=x.z/\x.z<=6/\x.ch<=30)/\u=[some (.int d),some (.ref wd),some (.ref J),B,none,none,none,none,none])
  ⟨[],_,S3,hn,W1,R,(),R⟩ ?_ ?_⟩
 rintro i u H4 hi ⟨g,B,S4,l0,W4,Y,oS,rfl⟩;sleep 101;have b0:i<8:=by lia
 erw[⟨_,R,_,R,_,_,R,R,_,_,R,(),(),_,_,R,R,(),_,_,R,R,_,R,_,R,_,_,R,R,_,_,R,(),(),_,_,R,R,(),zL9 R,λp j0=>?_⟩];generalize Wv _ (1+(0+(i:Int)))=y at *;generalize Wv _ (6+(0+(i:Int)))=m2 at *;exists H4,p,H5,s5,j0,c5;have W5:=W4.same s5;ext⟨t0,e1,e2⟩ W5.ob;ext⟨rows,G,M⟩ W5.st;have lS:g.length=i:=by have:=congrArg List.length Y;rw[Sv,Sv,List.length_range]at this;exact this
 have hf:Yw ZI.nm g (ZU d i)=none:=by
  unfold Yw;rw[List.find?_eq_none];intro x0 hy ey;have hm:x0.nm∈g.map ZI.nm:=SJ.mpr ⟨x0,hy,R⟩;rw[Y,SS ey]at hm;obtain⟨j,hj,ej⟩:=SJ.mp hm;have hj:=List.mem_range.mp hj;have:=RO () b0 ej;lia
 have hv:=(UF (λkv x (h:YF H5 kv x)=>h.1) M (ZU d i)).1 hf;erw[⟨_,R,wd,_,R,by rw[<-e2.s];exact Wh.k (k:=Sum.inr (OK "stops")) e1,_,R,_,R,J,_,_,_,R,R,Zd.of (s5 _ _ l0),by rw[Int.zero_add];exact RN b0,a.ds,_,R,VR.k (k:=Sum.inr (ZU d i)) G (Sj (show rows.length<=8 by rw[M.length,lS];lia) ()),?_⟩];erw[⟨g++[⟨ZU d i,1+y%6,m2%31⟩],_,W0 (S4.trans s5) nW.s _,X9 G (s5 _ _ l0),W5.addSt (x:=⟨ZU d i,1+y%6,m2%31⟩) nW G M hv ⟨R,p,R,?_⟩,?_,λx I=>?_,R⟩];rw[c5,show((1+y%6:Nat):Int)=1+(y:Int)%6 by lia,show((m2%31:Nat):Int)=(m2:Int)%31 by lia];rw[SL,Y,Oj,SL];rfl;rcases SG.mp I with I|I;exact oS x I;rw[SE.mp I];exact⟨Ng d i,by show 1<=1+y%6;lia,by show 1+y%6<=6;lia,by show m2%31<=30;lia⟩;rintro u H4 ⟨g,B,S4,l0,W4,Y,oS,rfl⟩;exact⟨g,B,S4,l0,W4,by rw[Y,en],oS,R⟩;rintro u H4 ⟨g,B,S4,l0,W4,Y,oS,rfl⟩;generalize hm:2+d%4=m at Y;sleep 2;have lS:=D9 Y;ext⟨d3,t1,q1⟩ W4.ob;ext⟨x2,d1,i1⟩ W4.st;erw[⟨_,R,wd,_,R,by rw[<-q1.s];exact Wh.k (k:=Sum.inr (OK "stops")) t1,a.ds,_,R,d1,λL gs=>?_⟩];rw[Ly (λkv x (h:YF H4 kv x)=>h.1) i1];exists H4,L,H5,s5,gs,b1;have q2:L≠a.lw:=by
  ext⟨vs,h,_⟩ W4.wk;exact(ZR h gs).symm
 have f1:=s5 _ _ l0;have W5:=W4.same s5;have S5:=S4.trans s5;have lL:((g.map ZI.nm).map V.str).length=m:=by rw[Sv,Sv,lS]
 have atS:∀j:Nat,j<m->Y9 ((g.map ZI.nm).map V.str) ((j:Nat):Int)=some (.str (ZU d j)):=λj hj=>Ue (by rw[Y,Oa,Oa,List.getElem?_range hj];rfl);clear W4 l0 S4 s5 d1 i1 t1 q1 gs;erw[⟨λu c=>∃(O:List Wl) (B X:Option V),Zf H c/\c J=some (.lst ((Vv d).map V.str))/\c L=some (.lst ((g.map ZI.nm).map V.str))/\Y3 c wd a ⟨g,O,[],[],[]⟩/\E3 d O/\O.length+1<=m/\u=[some (.int d),some (.ref wd),some (.ref J),B,some (.ref L),X,none,none,none],?_,?_⟩];sleep 1;have em:(d:Int)/4%((((g.map ZI.nm).map V.str).length:Nat):Int)=((d/4%m:Nat):Int):=by rw[lL,SW,SX];rfl
 have a3:d/4%m<m:=Oo _ ();have en:((d:Int)/4%((((g.map ZI.nm).map V.str).length:Nat):Int)).toNat=d/4%m:=by rw[em];lia
 erw[⟨_,R,_,_,R,R,⟨(),()⟩,_,R,L,_,R,.inl (Zd.of b1),_,_,R,R,(by show(0:Int)<((((g.map ZI.nm).map V.str).length:Nat):Int);lia),_,R,by rw[em];lia,by rw[em];lia,?_⟩];refine E6 (λi u c=>∃(O:List Wl) (B X:Option V),Zf H c/\c J=some (.lst ((Vv d).map V.str))/\c L=some (.lst ((g.map ZI.nm).map V.str))/\Y3 c wd a ⟨g,O,[],[],[]⟩/\E3 d O/\O.length=i/\u=[some (.int d),some (.ref wd),some (.ref J),B,some (.ref L),X,none,none,none])
  ⟨[],B,none,S5,f1,b1,W5,λj x e=>(nomatch e),R,R⟩ ?_ ?_
 rintro i u H6 hi ⟨O,B,X,S6,q0,c0,W6,iW,lW,rfl⟩;rw[en]at hi;sleep 102;have u1:i+1<m:=by lia
 have a0:Y9 ((g.map ZI.nm).map V.str) (0+(i:Int))=some (.str (ZU d i)):=by rw[Int.zero_add];exact atS i ()
 have a1:Y9 ((g.map ZI.nm).map V.str) (0+(i:Int)+1)=some (.str (ZU d (i+1))):=by rw[Int.zero_add];exact atS (i+1) u1
 erw[⟨_,R,_,_,R,R,_,R,L,_,R,.inl (Zd.of c0),_,_,R,R,_,R,ZB (SQ ()) ?_⟩];erw[⟨_,R,_,R,L,_,_,_,R,R,Zd.of c0,a0,_,R,_,R,_,_,R,R,L,_,_,_,R,R,Zd.of c0,a1,zL9 R,λp1 g1=>?_⟩];exists H6,p1,H7,s7,g1,c7;obtain⟨e0,v,b2,j2⟩:∃e0 v:Str,((e0=ZU d i/\v=ZU d (i+1))\/(e0=ZU d (i+1)/\v=ZU d i))/\((some ((1:Int) - 2*((d:Int)/16%2))=some 1/\[V.str e0,V.str v]=[V.str (ZU d i),V.str (ZU d (i+1))])\/(some ((1:Int) - 2*((d:Int)/16%2))=some (-1)/\[V.str e0,V.str v]=[V.str (ZU d i),V.str (ZU d (i+1))].reverse)):=by
  rcases(show(d:Int)/16%2=0\/(d:Int)/16%2=1 by lia)with h|h;exact⟨_,_,.inl ⟨R,R⟩,.inl ⟨by rw[h];rfl,R⟩⟩;exact⟨_,_,.inr ⟨R,R⟩,.inr ⟨by rw[h];rfl,R⟩⟩
 erw[⟨_,R,_,_,R,R,⟨(),()⟩,_,_,R,R,(),_,_,R,R,.inl ⟨(),()⟩,_,_,R,R,_,R,p1,_,[V.str e0,V.str v],j2,R,Zd.of c7,λp2 g2=>?_⟩];exists H7,p2,H8,s8,g2,c8;erw[⟨_,R,zL9 R,λp3 g3=>?_⟩];exists H8,p3,H9,s9,g3,c9;have w0:=s9 _ _ c8;have u0:=(s7.trans s8).trans s9;have W9:=W6.same u0;ext⟨t0,e1,e2⟩ W9.ob;ext⟨vs,G,M⟩ W9.wk;erw[⟨p2,p3,_,R,R,Zd.of w0,Zd.of c9,_,R,ZB R ?_⟩];sleep 1;erw[⟨_,R,wd,.ref a.lw,R,by rw[<-e2.w];exact Wh.k (k:=Sum.inr (OK "walks")) e1,.inl ⟨R,_,Zd.of G⟩,_,R,p2,_,0,_,R,R,Zd.of w0,R,_,R,p2,_,1,_,R,R,Zd.of w0,R,_,R,_,R,_,_,R,R,_,_,R,(),(),_,_,R,R,(),_,_,R,R,zL9 R,λp4 g4=>?_⟩];generalize Wv _ _=y at *;exists H9,p4,m0,T,g4,y0;erw[⟨a.lw,_,_,R,R,T _ _ G,Sj (show vs.length<=6 by rw[M.length];show O.length<=6;lia) (),?_⟩];have f0:=S6.trans (u0.trans T);have l1:=u0.trans T;erw[⟨O++[⟨e0,v,1+y%60⟩],_,_,W0 f0 nW.w _,by rw[Zj nl];exact l1 _ _ q0,by rw[Zj q2];exact l1 _ _ c0,(W9.same T).addWk (x:=⟨e0,v,1+y%60⟩) nW (T _ _ G) (M.imp λ_ _=>YL.same T) ⟨p4,R,?_⟩ R R R,iW.snoc ⟨by rwa[lW],by show 1<=1+y%60;lia,by show 1+y%60<=60;lia⟩,by rw[Su,lW];rfl,R⟩];rw[y0,show((1+y%60:Nat):Int)=1+(y:Int)%60 by lia];rintro u H6 ⟨O,B,X,S6,q0,c0,W6,iW,lW,rfl⟩;rw[en]at lW;exact⟨O,B,X,S6,q0,c0,W6,iW,(),R⟩;rintro u H6 ⟨O,B,X,S6,q0,c0,W6,iW,lW,rfl⟩;sleep 1;clear S5 f1 b1 W5;erw[⟨λu c=>∃(D:List Yd) (B:Option V),Zf H c/\c J=some (.lst ((Vv d).map V.str))/\c L=some (.lst ((g.map ZI.nm).map V.str))/\Y3 c wd a ⟨g,O,D,[],[]⟩/\D.map Yd.nm=(List.range (1+d/32%3)).map (λj=>ZU d (j+2))/\(∀x∈D,Yc x.nm/\x.r.Ok)/\u=[some (.int d),some (.ref wd),some (.ref J),B,some (.ref L),X,none,none,none],?_,?_⟩];sleep 1;have en:((1:Int)+(d:Int)/32%3).toNat=1+d/32%3:=by lia
 refine⟨_,R,_,_,R,R,⟨(),()⟩,_,_,R,R,(),_,_,R,R,_,R,(),(),E6 (λi u c=>∃(D:List Yd) (B:Option V),Zf H c/\c J=some (.lst ((Vv d).map V.str))/\c L=some (.lst ((g.map ZI.nm).map V.str))/\Y3 c wd a ⟨g,O,D,[],[]⟩/\D.map Yd.nm=(List.range i).map (λj=>ZU d (j+2))/\(∀x∈D,Yc x.nm/\x.r.Ok)/\u=[some (.int d),some (.ref wd),some (.ref J),B,some (.ref L),X,none,none,none])
  ⟨[],_,S6,q0,c0,W6,R,(),R⟩ ?_ ?_⟩
 rintro i u H7 hi ⟨D,B,S7,h0,n0,W7,eR,oR,rfl⟩;sleep 101;have b0:i+2<8:=by lia
 have lR:=D9 eR;erw[⟨_,R,_,R,_,_,R,R,_,_,R,(),(),?_⟩];have ml:=Rx (d:Int) (30+(0+(i:Int)));generalize Wv (d:Int) (30+(0+(i:Int)))=y at ml;erw[⟨y,2,R,(),(),(),λr v H8 _ s8 gr wr pr T8=>?_⟩];have Z:=W7.same s8;ext⟨t0,e1,e2⟩ Z.ob;ext⟨rows,G,M⟩ Z.ru;have hv:=(UF (λkv x (h:WT H8 kv x)=>h.1) M (ZU d (i+2))).1 (Zap eR b0);erw[⟨_,R,wd,.ref a.dr,R,by rw[<-e2.r];exact Wh.k (k:=Sum.inr (OK "rules")) e1,_,R,_,R,_,_,R,R,J,_,_,_,R,R,Zd.of (s8 _ _ h0),by rw[Int.zero_add];exact RN b0,a.dr,_,R,VR.k (k:=Sum.inr (ZU d (i+2))) G (Sj (show rows.length<=8 by rw[M.length,show List.length ({st:=g,wk:=O,ru:=D,tk:=[],tp:=[]}:ZD).ru=i from lR];lia) ()),?_⟩];erw[⟨D++[⟨ZU d (i+2),r⟩],_,W0 (S7.trans s8) nW.r _,X9 G (s8 _ _ h0),X9 G (s8 _ _ n0),Z.addRu (x:=⟨ZU d (i+2),r⟩) nW G M hv ⟨R,wd,T8 wd ?_⟩,?_,λx I=>?_,R⟩];ext⟨k7,e7,_⟩ W7.ob;rw[e7];exact ();rw[SL,eR,Oj,SL];rfl;rcases SG.mp I with I|I;exact oR x I;rw[SE.mp I];exact⟨Ng d (i+2),gr,Sh (Nat.le_of_lt wr) (),Sh pr ()⟩;rintro u H7 ⟨D,B,S7,h0,n0,W7,eR,oR,rfl⟩;rw[en]at eR;exact⟨D,B,S7,h0,n0,W7,eR,oR,R⟩;rintro u H7 ⟨D,r2,S7,h0,n0,W7,eR,oR,rfl⟩;sleep 1;clear S6 q0 c0 W6;erw[⟨λu c=>∃(S:List YE) (B U v7:Option V),Zf H c/\c J=some (.lst ((Vv d).map V.str))/\c L=some (.lst ((g.map ZI.nm).map V.str))/\Y3 c wd a ⟨g,O,D,S,[]⟩/\S.map YE.nm=(List.range (d/96%3)).map (λj=>ZU d (j+0))/\(∀x∈S,x.Ok)/\u=[some (.int d),some (.ref wd),some (.ref J),B,some (.ref L),X,U,v7,none],?_,?_⟩];sleep 1;have en:((d:Int)/96%3).toNat=d/96%3:=by lia
 refine⟨_,R,_,_,R,R,⟨(),()⟩,_,_,R,R,(),_,R,(),(),E6 (λi u c=>∃(S:List YE) (B U v7:Option V),Zf H c/\c J=some (.lst ((Vv d).map V.str))/\c L=some (.lst ((g.map ZI.nm).map V.str))/\Y3 c wd a ⟨g,O,D,S,[]⟩/\S.map YE.nm=(List.range i).map (λj=>ZU d (j+0))/\(∀x∈S,x.Ok)/\u=[some (.int d),some (.ref wd),some (.ref J),B,some (.ref L),X,U,v7,none])
  ⟨[],_,_,_,S7,h0,n0,W7,R,(),R⟩ ?_ ?_⟩
 rintro i u H8 hi ⟨S,B,U,v7,S8,g0,o0,Z,eT,oT,rfl⟩;sleep 102;have b0:i<8:=by lia
 have lT:=D9 eT;erw[⟨_,R,_,R,_,_,R,R,_,_,R,(),(),?_⟩];generalize Wv (d:Int) (34+(0+(i:Int)))=y;erw[⟨λd2 c=>∃(zl:Addr) (ZS:OG),Zf H8 c/\c zl=some (.lst (ZN ZS))/\1<=ZS.length/\ZS.length<=6/\ZS.Pairwise (· < ·)/\(∀z∈ZS,1<=z/\z<=6)/\d2=[some (.int d),some (.ref wd),some (.ref J),some (.int (0+(i:Int))),some (.ref L),X,some (.int y),some (.ref zl),none],?_,?_⟩];sleep 1;erw[⟨1,7,R,⟨(),(),(),()⟩,N2 (lo:=1) (n:=6) (λi k0 u c=>c=H8/\(∃zs:List Nat,k0=ZN zs/\zs.Pairwise (· < ·)/\∀z∈zs,1<=z/\z<=i)/\∃v,u=[v,some (.int y)]) ⟨R,⟨[],R,.nil,()⟩,_,R⟩ () ?_ ?_⟩];rintro j k0 u c hj ha ⟨rfl,⟨zs,rfl,pw,zr⟩,v,rfl⟩;have pS:(1:Int)*2 ^ ((1:Int)+(j:Int)).toNat=((2 ^ (1+j):Nat):Int):=by rw[Int.one_mul,Int.natCast_pow,show((1:Int)+(j:Int)).toNat=1+j by lia];rfl
 have pP:0<2 ^ (1+j):=Nat.two_pow_pos _;have pU:2 ^ (1+j)<=2 ^ 6:=Nat.pow_le_pow_right () ();erw[⟨_,R,_,R,_,_,R,R,⟨(),(),()⟩,_,_,R,R,(by rw[pS];exact⟨(),()⟩),_,_,R,R,(),R,_,R,?_⟩];erw[Vl (λ_=>?_) (λ_=>?_)];erw[⟨_,R,by rw[Su,Sw];lia,R,⟨zs++[j+1],?_,?_,λz hz=>?_⟩,_,R⟩];rw[show ZN (zs++[j+1])=ZN zs++[V.int ((j+1:Nat):Int)] from SL,show((j+1:Nat):Int)=1+(j:Int) by lia];rw[List.pairwise_append];exact⟨pw,List.pairwise_singleton _ _,λx I x0 hy=>by rw[SE.mp hy];have:=(zr x I).2;lia⟩;rcases SG.mp hz with hz|hz;have:=zr z hz;lia;rw[SE.mp hz];lia;exact⟨(),R,⟨zs,R,pw,λz hz=>by have:=zr z hz;lia⟩,_,R⟩;rintro k0 u c ha ⟨rfl,⟨zs,rfl,pw,zr⟩,v,rfl⟩ lz gz;have sz:=Zx gz (.lst (ZN zs));have cz:=@Zh c lz (.lst (ZN zs));have l6:zs.length<=6:=by have:=ha;rwa [Sv]at this
 generalize upd c lz (.lst (ZN zs))=Hz at sz cz ⊢;erw[⟨_,.inl ⟨_,Zd.of cz,R⟩,?_⟩];cases zs with
 |cons z v1=>exact ZB R ⟨lz,z::v1,sz,cz,Nat.succ_pos _,l6,pw,zr,R⟩
 |nil =>
  erw[Zn () ⟨zL9 R,λp j0=>⟨p,[6],sz.trans (Zx j0 _),Zh,Sg 1,(),List.pairwise_singleton _ _,λz hz=>by rw[SE.mp hz];exact⟨(),()⟩,R⟩⟩]
 rintro u H9 ⟨zl,ZS,s9,hz,z1,z6,zp,zr,rfl⟩;sleep 1;erw[⟨_,R,_,_,R,R,⟨(),()⟩,_,_,R,R,(),_,R,_,_,R,R,⟨(),()⟩,_,_,R,R,(),_,_,R,R,_,R,zL9 R,λp j0=>?_⟩];exists H9,p,m0,T,j0,y0;have s8:=s9.trans T;have d0:=Z.same s8;ext⟨t0,e1,e2⟩ d0.ob;ext⟨rows,G,M⟩ d0.tk;have hv:=(UF (λkv x (h:Vb m0 kv x)=>h.1) M (ZU d (i+0))).1 (Zap eT ());erw[⟨_,R,wd,.ref a.dt,R,by rw[<-e2.t];exact Wh.k (k:=Sum.inr (OK "tickets")) e1,_,R,_,R,J,_,_,_,R,R,Zd.of (s8 _ _ g0),by rw[Int.zero_add];exact RN b0,a.dt,_,R,VR.k (k:=Sum.inr (ZU d (i+0))) G (Sj (show rows.length<=8 by rw[M.length,show List.length ({st:=g,wk:=O,ru:=D,tk:=S,tp:=[]}:ZD).tk=i from lT];lia) ()),?_⟩];erw[⟨S++[⟨ZU d (i+0),y/128%10001,1+y/7%1440,ZS⟩],_,_,_,W0 (S8.trans s8) nW.t _,X9 G (s8 _ _ g0),X9 G (s8 _ _ o0),d0.addTk (x:=⟨ZU d (i+0),y/128%10001,1+y/7%1440,ZS⟩) nW G M hv ⟨R,p,zl,R,?_,T _ _ hz⟩,?_,λx I=>?_,R⟩];rw[y0,show((1+y/7%1440:Nat):Int)=1+(y:Int)/7%1440 by lia,show((y/128%10001:Nat):Int)=(y:Int)/128%10001 by lia];rw[SL,eT,Oj,SL];rfl;rcases SG.mp I with I|I;exact oT x I;rw[SE.mp I];exact⟨Ng d (i+0),by show y/128%10001<=10000;lia,by show 1<=1+y/7%1440;lia,by show 1+y/7%1440<=1440;lia,z1,z6,zp,zr⟩;rintro u H8 ⟨S,B,U,v7,S8,g0,o0,Z,eT,oT,rfl⟩;rw[en]at eT;exact⟨S,B,U,v7,S8,g0,o0,Z,eT,oT,R⟩;rintro u H8 ⟨S,B,U,v7,S8,g0,o0,Z,eT,oT,rfl⟩;sleep 2;clear S7 h0 n0 W7;have lR:=D9 eR;ext⟨z2,n1,j1⟩ Z.ob;ext⟨v2,k1,c1⟩ Z.ru;erw[⟨_,R,wd,.ref a.dr,R,by rw[<-j1.r];exact Wh.k (k:=Sum.inr (OK "rules")) n1,a.dr,_,R,k1,λlr gr=>?_⟩];rw[Ly (λkv x (h:WT H8 kv x)=>h.1) c1];generalize C:upd H8 lr _=H9;have s9:=Z1 gr C;have c2:H9 lr=some (.lst ((D.map Yd.nm).map V.str)):=ZX C;clear C;have W9:=Z.same s9;have S9:=S8.trans s9;have k2:=s9 _ _ g0;have a2:=s9 _ _ o0;clear Z S8 g0 o0 s9 k1 c1 n1 j1 gr;have c3:((D.map Yd.nm).map V.str).length=1+d/32%3:=by rw[Sv,Sv,lR]
 erw[⟨λu c=>∃(TP:List Tp) (B U:Option V),Zf H c/\c J=some (.lst ((Vv d).map V.str))/\c L=some (.lst ((g.map ZI.nm).map V.str))/\c lr=some (.lst ((D.map Yd.nm).map V.str))/\Y3 c wd a ⟨g,O,D,S,TP⟩/\TP.map Tp.nm=(List.range (d/288%4)).map (λj=>ZU d (j+1))/\(∀x∈TP,Yc x.nm/\x.ru∈D.map Yd.nm/\X8 (g.map ZI.nm) x.cs/\2<=x.cs.length/\x.cs.length<=6)/\u=[some (.int d),some (.ref wd),some (.ref J),B,some (.ref L),X,U,v7,some (.ref lr)],?_,?_⟩];sleep 1;have en:((d:Int)/288%4).toNat=d/288%4:=by lia
 refine⟨_,R,_,_,R,R,⟨(),()⟩,_,_,R,R,(),_,R,(),(),E6 (λi u c=>∃(TP:List Tp) (B U:Option V),Zf H c/\c J=some (.lst ((Vv d).map V.str))/\c L=some (.lst ((g.map ZI.nm).map V.str))/\c lr=some (.lst ((D.map Yd.nm).map V.str))/\Y3 c wd a ⟨g,O,D,S,TP⟩/\TP.map Tp.nm=(List.range i).map (λj=>ZU d (j+1))/\(∀x∈TP,Yc x.nm/\x.ru∈D.map Yd.nm/\X8 (g.map ZI.nm) x.cs/\2<=x.cs.length/\x.cs.length<=6)/\u=[some (.int d),some (.ref wd),some (.ref J),B,some (.ref L),X,U,v7,some (.ref lr)])
  ⟨[],_,_,S9,k2,a2,c2,W9,R,(),R⟩ ?_ ?_⟩
 rintro i u m0 hi ⟨TP,B,U,f0,r0,s0,p0,d0,eP,oP,rfl⟩;sleep 102;have b0:i+1<8:=by lia
 have lP:=D9 eP;erw[⟨_,R,_,R,_,_,R,R,_,_,R,(),(),?_⟩];have ml:=Rx (d:Int) (37+(0+(i:Int)));generalize Wv (d:Int) (37+(0+(i:Int)))=y at ml;have i2:∃z,Y9 ((D.map Yd.nm).map V.str) ((y:Int)%((((D.map Yd.nm).map V.str).length:Nat):Int))=some (.str z)/\z∈D.map Yd.nm:=by
  have e:(y:Int)%((((D.map Yd.nm).map V.str).length:Nat):Int)=((y%((D.map Yd.nm).map V.str).length:Nat):Int):=(SW _ _).symm;have hl:y%((D.map Yd.nm).map V.str).length<(D.map Yd.nm).length:=by have:=Oo y (show 0<((D.map Yd.nm).map V.str).length by lia);rwa [Sv (f:=V.str)]at this ⊢
  erw[⟨_,by rw[e];exact Ue (by rw[Oa,Ss hl];rfl),Oi hl⟩]
 ext⟨z,ez,mz⟩ i2;erw[⟨_,R,_,R,_,R,lr,_,R,.inl (Zd.of p0),_,_,R,R,(by show(0:Int)<((((D.map Yd.nm).map V.str).length:Nat):Int);lia),lr,_,_,_,R,R,Zd.of p0,ez,?_⟩];erw[⟨_,R,_,_,R,R,⟨(),()⟩,_,R,_,R,_,_,R,R,⟨(),()⟩,_,_,R,R,(),_,_,R,R,?_⟩];erw[⟨y/4,2+y/3%4,L,g.map ZI.nm,?_,s0,by rw[Y];exact Ny (k:=0) (),by rw[Sv,lS];lia,by rw[Sv,lS];lia,(),λcs l vs x1 _ y1 gl hl al ok lc=>?_⟩];show[V.int ((y:Int)/4),V.ref L,V.int (2+(y:Int)/3%4)]=_;rw[show((y/4:Nat):Int)=(y:Int)/4 by lia,show((2+y/3%4:Nat):Int)=2+(y:Int)/3%4 by lia];erw[⟨zL9 R,λp j0=>?_⟩];exists x1,p,f2,z0,j0,w1;have T:=y1.trans z0;have v0:=d0.same T;ext⟨t0,e1,e2⟩ v0.ob;ext⟨rows,G,M⟩ v0.tp;have hv:=(UF (λkv x (h:Vc f2 kv x)=>h.1) M (ZU d (i+1))).1 (Zap eP b0);erw[⟨_,R,wd,.ref a.dp,R,by rw[<-e2.p];exact Wh.k (k:=Sum.inr (OK "trips")) e1,_,R,_,R,_,_,R,R,J,_,_,_,R,R,Zd.of (T _ _ r0),by rw[Int.zero_add];exact RN b0,a.dp,_,R,VR.k (k:=Sum.inr (ZU d (i+1))) G (Sj (show rows.length<=8 by rw[M.length,show List.length ({st:=g,wk:=O,ru:=D,tk:=S,tp:=TP}:ZD).tp=i from lP];lia) ()),?_⟩];erw[⟨TP++[⟨ZU d (i+1),z,cs⟩],_,_,W0 (f0.trans T) nW.p _,X9 G (T _ _ r0),X9 G (T _ _ s0),X9 G (T _ _ p0),v0.addTp (x:=⟨ZU d (i+1),z,cs⟩) nW G M hv ⟨R,p,l,vs,R,w1,z0 _ _ hl,al.imp λ_ _=>YD.same z0⟩,?_,λx I=>?_,R⟩];rw[SL,eP,Oj,SL];rfl;rcases SG.mp I with I|I;exact oP x I;rw[SE.mp I];exact⟨Ng d (i+1),mz,ok,by show 2<=cs.length;lia,by show cs.length<=6;lia⟩;rintro u m0 ⟨TP,B,U,f0,r0,s0,p0,d0,eP,oP,rfl⟩;rw[en]at eP;exact⟨TP,B,U,f0,r0,s0,p0,d0,eP,oP,R⟩;rintro u m0 ⟨TP,B,U,f0,r0,s0,p0,d0,eP,oP,rfl⟩;sleep 1;erw[⟨_,R,q wd a _ m0 f0 nW d0 ?_⟩];have lP:=D9 eP;have lT:=D9 eT;erw[⟨by show 2<=g.length;lia,by show g.length<=5;lia,by show(g.map ZI.nm).Nodup;rw[Y];exact Ny (k:=0) (),oS,by show O.length<=4;lia,λx I=>?_,iW.new (),by show 1<=D.length;lia,by show D.length<=3;lia,by show(D.map Yd.nm).Nodup;rw[eR];exact Ny (),oR,by show S.length<=2;lia,by show(S.map YE.nm).Nodup;rw[eT];exact Ny (),oT,by show TP.length<=3;lia,by show(TP.map Tp.nm).Nodup;rw[eP];exact Ny (),oP⟩];obtain⟨j,hj,ej⟩:=List.mem_iff_getElem.mp I;have hW:=iW j x (by rw[<-ej];exact Ss hj);have hj:j<O.length:=hj;have mem:∀k,k<m->ZU d k∈g.map ZI.nm:=λk hk=>by rw[Y];exact SJ.mpr ⟨k,List.mem_range.mpr hk,R⟩
 have ne:ZU d j≠ZU d (j+1):=gK () ();rcases hW.1 with⟨G,M⟩|⟨G,M⟩;exact⟨by rw[G];exact mem _ (),by rw[M];exact mem _ (),by rw[G,M];exact ne,hW.2⟩;exact⟨by rw[G];exact mem _ (),by rw[M];exact mem _ (),by rw[G,M];exact ne.symm,hW.2⟩
def ZK.put{a:NA}(h:ZK t H n a N)(hd:H d=some (.dK j))(C:a.ds≠d)(M:a.dr≠d)(g:a.dt≠d)(O:a.dp≠d):ZK t (upd H d o) n a N:=by
 ext⟨⟨G,fs,J,f⟩,ap,⟨r1,S,Q⟩,⟨v,B,I⟩,⟨u,x,c⟩,⟨r3,y,i⟩,⟨L,E,D⟩⟩ h;exact⟨⟨G,fs,C9 hd ZM.k J,f⟩,ap,⟨r1,by rwa[Zj C],Q.imp λ_ _=>YF.put hd ZM.k⟩,⟨v,X9 hd B,I.imp λ_ _=>YL.put hd ZM.k⟩,⟨u,by rwa[Zj M],c.imp λ_ _=>Y2.put hd ZM.k⟩,⟨r3,by rwa[Zj g],i.imp λ_ _=>Xi.put hd ZM.k⟩,⟨L,by rwa[Zj O],D.imp λ_ _=>Y8.put hd ZM.k⟩⟩
def ZK.thaw{n d:Addr}{a:NA}{N:ZD}{ob:Obj}{g:List (ZF×V)}{o:HO}(h:ZK t H n a N)(hd:H d=some (.frz ob (.dK g))):ZK t (upd H d o) n a N:=by
 erw[ZK.keep (λb u e f=>?_) (λb u e m=>?_) h];rwa[Zj (λz=>by rw[z,hd]at e;cases e;exact f)]
 ·rwa[Zj (λz=>by
   cases h.kd m with
   |lst c=>rw[z,hd]at c;cases c
   |dK c=>rw[z,hd]at c;cases c)]
structure WJ(H:Hp)(d:Addr)(ob:Obj)(kvs:List (ZF×V))(H':Hp):Prop where
 at_:H d=some (.dK kvs)
 s:Zf (upd H d (.frz ob (.dK kvs))) H'
def WJ.new(ob:Obj)(h:H d=some (.dK f))(s:Zf H g):WJ H d ob f (upd g d (.frz ob (.dK f))):=⟨h,λa o e=>by
 by_cases c:a=d;rw[c,Zh]at e ⊢;exact e;rw[Zj c]at e ⊢;exact s _ _ e⟩
def WJ.same(h:WJ H d ob c g)(s:Zf g f):WJ H d ob c f:=⟨h.at_,h.s.trans s⟩
def WJ.frz{H f:Hp}{d:Addr}{ob:Obj}{c:List (ZF×V)}(h:WJ H d ob c f):f d=some (.frz ob (.dK c)):=h.s _ _ Zh
def WJ.thaw(h:WJ H d ob f g):Zf H (upd g d (.dK f)):=λa o e=>by
 by_cases c:a=d;rw[c,h.at_]at e;rwa[c,Zh];rw[Zj c];exact h.s _ _ (by rwa[Zj c])
def U6.held(h:U6 H a)(hd:H d=some u):U6 (upd H d o) a:=by
 have k:∀{x},H x=none->upd H d o x=none:=λe=>by rwa[Zj (ZR hd e).symm]
 exact⟨k h.s,k h.w,k h.r,k h.t,k h.p⟩
def Nz{A : Hp}(s:Zf A f)(n:A d=none)(g:Zf (wo f d) c):Zf A c:=λx o e=>g x o (Xe (s x o e) (ZR e n))
def NB{w:Wn}{p:Prop}(h:d=none)(c:d=some w):p:=by rw[h]at c;cases c
def Zht:∀v∈ZN zs,∃T,Kd H v T:=λv c=>by
 obtain⟨z,_,rfl⟩:=SJ.mp c;exact⟨_,.int _⟩
def Zaq{x:YE}:addK N (.str x.nm) (.int (x.pr:Nat)) (.int (x.la:Nat)) (some (ZN x.zs))=(Z3.tk x).add N:=by
 unfold addK Z3.add;rw[show((some (ZN x.zs)).getD []).map YU=x.zs by show(x.zs.map _).map YU=_;rw[Oe];exact List.map_id' _];rfl
inductive ZrM(t:Z0)(vs:List V)(H:Hp)(Q:VK)(_e3:XK):Prop|mk (wd:Addr) (a:NA) (W:ZD) (H00:Hp) (_:vs=[.ref wd]) (_:Y3 H wd a W) (_:RL H00 wd a) (_:RM W) (_:∀n b H',Zf H H'->ZK t H' n b W->U6 H b->Q (.ref n) H')
def ZrN(c:Zs K mg t):Zl P w K mg base Zo 52 t.Zex t.Zey ["_law_world_here"] (ZrM t):=by
 erw[c.ZfU.F.ok VC () λh1 A outer s j0 vs c1 d1 O h=>?_];ext⟨wd,a,W,f1,rfl,hW,nW,ok,q⟩ h;ext⟨k0,e1,e2⟩ hW.ob;ext⟨Y,b0,u0⟩ hW.st;ext⟨wv,p0,s0⟩ hW.wk;ext⟨rr,c0,q0⟩ hW.ru;ext⟨rt,Z,r0⟩ hW.tk;ext⟨rp,T,t0⟩ hW.tp;erw[⟨_,(Zi (ZL 1 VC.nd (Za6 c.ZfV (ZgK c) (O.mono ()) R c.Zf1 c.kI.b .nil Zk)) (Zi (Pl (WO (Pm (Wk O (pv 0) Zq)) (V9 (n:=2) R (Xk (ZZ 2 VC.nd) (Xk (ZZ 3 VC.nd) V8))) (Ze (Yg (Yz (pv 1) c.ZG c.Qu.me (RD c) (O.mono ()) c.Qu.b .nil Xq (Zv (pv 2) (Zr c.Xz (ZgY c 8) O Zk (Zc (pv 3))))))))) (Zi (Pl (WO (Pm (Wk O (pv 0) Zq)) (V9 (n:=2) R (Xk (ZZ 2 VC.nd) (Xk (ZZ 4 VC.nd) V8))) (Ze (Yg (Yz (pv 1) c.ZG c.B1.me (gR c) (O.mono ()) c.B1.b .nil Xq (Ym (pv 2) (ZE Yj (pv 4) Zb) (ZE Yj (pv 4) Zb))))))) (Zi (Pl (WO (Pm (Wk O (pv 0) Zq)) (V9 (n:=2) R (Xk (ZZ 2 VC.nd) (Xk (ZZ 3 VC.nd) V8))) (Ze (Yg (Yz (pv 1) c.ZG c.B4.me (gW c) (O.mono ()) c.B4.b .nil Xq (Ym (pv 2) (ZE Yj (pv 3) Zb) (Z5 UP R c.XH XT (Zc (ZE Yj (pv 3) Zb))))))))) (Zi (Pl (WO (Pm (Wk O (pv 0) Zq)) (V9 (n:=2) R (Xk (ZZ 2 VC.nd) (Xk (ZZ 3 VC.nd) V8))) (Ze (Yg (Yz (pv 1) c.ZG c.B3.me (gS c) (O.mono ()) c.B3.b .nil Xq (Up (pv 2) (ZE Yj (pv 3) Zb) (ZE Yj (pv 3) Zb) (Z5 UP R c.XH XT (Zc (ZE Yj (pv 3) Zb))))))))) (Zi (WO (Xl (Wk O (pv 0) Zq)) (V9 (n:=3) R (Xk (ZZ 5 VC.nd) (Xk (ZZ 6 VC.nd) (Xk (ZZ 7 VC.nd) V8)))) (Ze (Yg (Yz (pv 1) c.ZG c.B2.me (gU c) (O.mono ()) c.B2.b .nil Xq (Ym (pv 5) (pv 6) (pv 7)))))) (Ze (Zt (pv 1))))))))),?_⟩];sleep 7;intro n dx nn Q w0;erw[⟨n,j0,R,nn,W0 (Zx Q _) nn _,⟨dx,Zh⟩,λH1 b S1 v0 j=>⟨R,?_⟩⟩];have get:∀{u:Hp} {z:Str} {l:Addr},u wd=some (.dK k0)->YC k0 (Sum.inr z)=some (.ref l)->Wh u wd (.str z) (some (.ref l)):=λs' e=>by rw[<-e];exact Wh.k (k:=Sum.inr _) s'
 clear nn Q w0;erw[⟨a.dr,.dK rr,S1 _ _ c0,.inl ⟨rr,R⟩,λob=>?_⟩];sleep 1;have v:=WJ.new ob c0 S1;have G:=v0.put (o:=.frz ob (.dK rr)) (S1 _ _ c0) (ZR c0 j.s).symm (ZR c0 j.r).symm (ZR c0 j.t).symm (ZR c0 j.p).symm;have H:upd H1 a.dr (.frz ob (.dK rr)) wd=some (.dK k0):=by rw[Zj nW.nr];exact S1 _ _ e1
 have a0:=j.held (o:=.frz ob (.dK rr)) c0;generalize upd H1 a.dr (.frz ob (.dK rr))=Hf at v G H ⊢;erw[⟨_,R,wd,.ref a.dr,R,get H e2.r,a.dr,ob,rr,R,v.frz,Pn (λi g u=>WJ j0 a.dr ob rr u/\ZK t u n b ⟨[],[],W.ru.take i,[],[]⟩/\∃C D E:Option V,g=[some (.ref wd),some (.ref n),C,D,E,none,none,none]) ⟨v,G,_,_,_,R⟩ (λi g u _ h=>h.1.frz) ?_ ?_⟩];rintro i kv p g S g0 gp ⟨M,L,C,D,E,rfl⟩;exists S,p,H4,s4,gp,U;have B:=L.same s4;have y:=M.same s4;ext⟨Q,n0,f0,d0⟩ B.ob;obtain⟨x,ex,ek,tp,hT⟩:=q0.get g0;have f:=ok.ro x (SK ex);rw[ek]at U;erw[⟨p,_,R,Zp.of U,R,_,_,R,_,_,R,R,?_⟩];sleep 1;erw[⟨_,R,n,Q,_,R,f0,d0.n_add_rule,_,R,_,R,tp,kv.2,x.r,R,(Y7.put c0 hT).same y.s,f.2.1,f.2.2.1,f.2.2.2,f.2.2.2,λrb H5 s5 R5=>?_⟩];have due:D1 ⟨[],[],W.ru.take i,[],[]⟩ (.str x.nm) (some x.r)=none:=Yu (C6 f.1) (Yu (QV ok.rn ex) (Yu R (Yu (Qc ex (Sh ok.r3 ())) R)));erw[⟨n,b,_,.str x.nm,.ref rb,some x.r,R,B.same s5,VE _ (V4 f.1),⟨⟨rb,R,by rw[c.kf];exact R5⟩,f.2⟩,λw hw=>NB due hw,λ_ H6 s6 J=>⟨⟨c0,Nz (y.same s5).s a0.r s6⟩,?_,_,_,_,R⟩⟩];rwa[QW ex];rintro g H2 ⟨h2,m0,C,D,E,rfl⟩;rw[SY (by rw[q0.length];exact Sg _)]at m0;erw[⟨h2.frz,?_⟩];have S2:=h2.thaw;replace m0:=m0.thaw (o:=.dK rr) h2.frz;generalize upd H2 a.dr (.dK rr)=H2 at S2 m0 ⊢;clear h2 v G H a0;erw[⟨a.ds,.dK Y,S2 _ _ b0,.inl ⟨Y,R⟩,λob=>?_⟩];sleep 1;have v:=WJ.new ob b0 S2;have G:=m0.put (o:=.frz ob (.dK Y)) (S2 _ _ b0) (ZR b0 j.s).symm (ZR b0 j.r).symm (ZR b0 j.t).symm (ZR b0 j.p).symm;have H:upd H2 a.ds (.frz ob (.dK Y)) wd=some (.dK k0):=by rw[Zj nW.ns];exact S2 _ _ e1
 have a0:=j.held (o:=.frz ob (.dK Y)) b0;generalize upd H2 a.ds (.frz ob (.dK Y))=Hf at v G H ⊢;erw[⟨_,R,wd,.ref a.ds,R,get H e2.s,a.ds,ob,Y,R,v.frz,Pn (λi g u=>WJ j0 a.ds ob Y u/\ZK t u n b ⟨W.st.take i,[],W.ru,[],[]⟩/\∃C D E:Option V,g=[some (.ref wd),some (.ref n),C,D,E,none,none,none]) ⟨v,G,_,_,_,R⟩ (λi g u _ h=>h.1.frz) ?_ ?_⟩];rintro i kv p g S g0 gp ⟨M,L,C,D,E,rfl⟩;exists S,p,H4,s4,gp,U;have B:=L.same s4;have y:=M.same s4;ext⟨Q,n0,f0,d0⟩ B.ob;obtain⟨x,ex,ek,r,er,h0⟩:=u0.get g0;have f:=ok.so x (SK ex);have e0:=(y.s) _ _ (XW (o:=.frz ob (.dK Y)) b0 ZM.k h0);have due:Lu ⟨W.st.take i,[],W.ru,[],[]⟩ (.str x.nm) (.int (x.z:Nat)) (.int (x.ch:Nat))=none:=Yu (C6 f.1) (Yu (QV ok.sn ex) (Yu (WF (by have:=f.2.1;lia) (by have:=f.2.2.1;lia)) (Yu (WF () (by have:=f.2.2.2;lia)) (Yu (Qc ex (Sh ok.s5 ())) R))));rw[ek]at U;erw[⟨p,_,R,Zp.of U,R,_,_,R,_,_,R,R,?_⟩];sleep 1;erw[⟨_,R,n,Q,_,R,f0,d0.n_add_stop,_,R,_,R,r,_,0,_,er,R,Zp.of e0,R,_,R,r,_,1,_,er,R,Zp.of e0,R,n,b,_,.str x.nm,.int (x.z:Nat),.int (x.ch:Nat),_,_,R,B,VE _ (V4 f.1),.int _,.int _,λw hw=>NB due hw,λ_ H6 s6 J=>⟨⟨b0,Nz y.s a0.s s6⟩,?_,_,_,_,R⟩⟩];rwa[QW ex];rintro g S ⟨M,L,C,D,E,rfl⟩;rw[SY (by rw[u0.length];exact Sg _)]at L;erw[⟨M.frz,?_⟩];have S3:=M.thaw;replace L:=L.thaw (o:=.dK Y) M.frz;generalize upd S a.ds (.dK Y)=S at S3 L ⊢;clear M v G H a0;erw[⟨a.dp,.dK rp,S3 _ _ T,.inl ⟨rp,R⟩,λob=>?_⟩];sleep 1;have v:=WJ.new ob T S3;have G:=L.put (o:=.frz ob (.dK rp)) (S3 _ _ T) (ZR T j.s).symm (ZR T j.r).symm (ZR T j.t).symm (ZR T j.p).symm;have H:upd S a.dp (.frz ob (.dK rp)) wd=some (.dK k0):=by rw[Zj nW.np];exact S3 _ _ e1
 have a0:=j.held (o:=.frz ob (.dK rp)) T;generalize upd S a.dp (.frz ob (.dK rp))=Hf at v G H ⊢;erw[⟨_,R,wd,.ref a.dp,R,get H e2.p,a.dp,ob,rp,R,v.frz,Pn (λi g u=>WJ j0 a.dp ob rp u/\ZK t u n b ⟨W.st,[],W.ru,[],W.tp.take i⟩/\∃C D E:Option V,g=[some (.ref wd),some (.ref n),C,D,E,none,none,none]) ⟨v,G,_,_,_,R⟩ (λi g u _ h=>h.1.frz) ?_ ?_⟩];rintro i kv p g S g0 gp ⟨M,L,C,D,E,rfl⟩;exists S,p,H4,s4,gp,U;have B:=L.same s4;have y:=M.same s4;ext⟨Q,n0,f0,d0⟩ B.ob;obtain⟨x,ex,ek,r,l,vs,er,h0,hl,al⟩:=t0.get g0;have f:=ok.po x (SK ex);have e0:=(y.s) _ _ (XW (o:=.frz ob (.dK rp)) T ZM.k h0);have x0:=(y.s) _ _ (X9 (o:=.frz ob (.dK rp)) T hl);have b1:Al (YD H4) vs x.cs:=al.imp λ_ _ h=>(YD.put (o:=.frz ob (.dK rp)) T ZM.k h).same y.s;rw[ek]at U;erw[⟨p,_,R,Zp.of U,R,_,_,R,_,_,R,R,?_⟩];sleep 1;erw[⟨_,R,n,Q,_,R,f0,d0.n_add_trip,_,R,_,R,r,_,0,_,er,R,Zp.of e0,R,_,R,r,_,1,_,er,R,Zp.of e0,R,l,_,R,.inl (Zd.of x0),λl2 g2=>?_⟩];have s5:=Zx g2 (.lst vs);have due:Lw ⟨W.st,[],W.ru,[],W.tp.take i⟩ (.str x.nm) (.str x.ru)=none:=Yu (C6 f.1) (Yu (QV ok.pn ex) (Yu (V0 f.2.1) (Yu (Qc ex (Sh ok.p3 ())) R)));erw[⟨n,b,_,.str x.nm,.str x.ru,_,x.cs,l2,vs,R,B.same s5,VE _ (V4 f.1),.str _,Zh,b1.imp λ_ _=>YD.same s5,f.2.2.1,f.2.2.2.1,f.2.2.2.2,λw hw=>NB due hw,λ_ H6 s6 J=>⟨⟨T,Nz (y.same s5).s a0.p s6⟩,?_,_,_,_,R⟩⟩];rwa[QW ex];rintro g H4 ⟨y,B,C,D,E,rfl⟩;rw[SY (by rw[t0.length];exact Sg _)]at B;erw[⟨y.frz,?_⟩];have S4:=y.thaw;replace B:=B.thaw (o:=.dK rp) y.frz;generalize upd H4 a.dp (.dK rp)=H4 at S4 B ⊢;clear y v G H a0;erw[⟨a.dt,.dK rt,S4 _ _ Z,.inl ⟨rt,R⟩,λob=>?_⟩];sleep 1;have v:=WJ.new ob Z S4;have G:=B.put (o:=.frz ob (.dK rt)) (S4 _ _ Z) (ZR Z j.s).symm (ZR Z j.r).symm (ZR Z j.t).symm (ZR Z j.p).symm;have H:upd H4 a.dt (.frz ob (.dK rt)) wd=some (.dK k0):=by rw[Zj nW.nt];exact S4 _ _ e1
 have a0:=j.held (o:=.frz ob (.dK rt)) Z;generalize upd H4 a.dt (.frz ob (.dK rt))=Hf at v G H ⊢;erw[⟨_,R,wd,.ref a.dt,R,get H e2.t,a.dt,ob,rt,R,v.frz,Pn (λi g u=>WJ j0 a.dt ob rt u/\ZK t u n b ⟨W.st,[],W.ru,W.tk.take i,W.tp⟩/\∃C D E:Option V,g=[some (.ref wd),some (.ref n),C,D,E,none,none,none]) ⟨v,G,_,_,_,R⟩ (λi g u _ h=>h.1.frz) ?_ ?_⟩];rintro i kv p g S g0 gp ⟨M,L,C,D,E,rfl⟩;exists S,p,H4,s4,gp,U;have B:=L.same s4;have y:=M.same s4;ext⟨Q,n0,f0,d0⟩ B.ob;obtain⟨x,ex,ek,r,z,er,h0,hz⟩:=r0.get g0;have f:=ok.to x (SK ex);have e0:=(y.s) _ _ (XW (o:=.frz ob (.dK rt)) Z ZM.k h0);have z0:=(y.s) _ _ (X9 (o:=.frz ob (.dK rt)) Z hz);rw[ek]at U;erw[⟨p,_,R,Zp.of U,R,_,_,R,_,_,R,R,?_⟩];sleep 1;erw[⟨_,R,n,Q,_,R,f0,d0.n_add_ticket,_,R,_,R,r,_,0,_,er,R,Zp.of e0,R,_,R,r,_,1,_,er,R,Zp.of e0,R,_,R,r,_,2,_,er,R,Zp.of e0,R,z,_,R,.inl (Zd.of z0),λl2 g2=>?_⟩];have s5:=Zx g2 (.lst (ZN x.zs));have due:(Z3.tk x).due ⟨W.st,[],W.ru,W.tk.take i,W.tp⟩=none:=Zhq f (QV ok.tn ex) (Qc ex (Sh ok.t2 ()));erw[⟨n,b,_,.str x.nm,.int (x.pr:Nat),.int (x.la:Nat),.ref l2,_,_,some (ZN x.zs),R,B.same s5,VE _ (V4 f.nm),.int _,.int _,⟨l2,R,Zh,Zht⟩,λw hw=>NB due hw,λ_ H6 s6 J=>⟨⟨Z,Nz (y.same s5).s a0.t s6⟩,?_,_,_,_,R⟩⟩];rw[QW ex];rw[Zaq]at J;exact J;rintro g H5 ⟨h5,l0,C,D,E,rfl⟩;rw[SY (by rw[r0.length];exact Sg _)]at l0;erw[⟨h5.frz,?_⟩];have S5:=h5.thaw;replace l0:=l0.thaw (o:=.dK rt) h5.frz;generalize upd H5 a.dt (.dK rt)=H5 at S5 l0 ⊢;clear h5 v G H a0;erw[⟨_,R,wd,.ref a.lw,R,get (S5 _ _ e1) e2.w,a.lw,R,⟨_,Zd.of (S5 _ _ p0)⟩,LS (K:=K) (a:=a.lw) (xs:=wv) (λi g u=>Zf j0 u/\ZK t u n b ⟨W.st,W.wk.take i,W.ru,W.tk,W.tp⟩/\∃v5 v6 v7:Option V,g=[some (.ref wd),some (.ref n),C,D,E,v5,v6,v7]) ⟨S5,l0,_,_,_,R⟩ (λi g u _ ⟨s',_⟩=>Zd.of (s' _ _ p0)) ?_ ?_⟩];rintro i i1 g H6 hv ⟨S6,J,v5,v6,v7,rfl⟩;obtain⟨x,ex,p,rfl,hp⟩:=s0.get hv;have f:=ok.wo x (SK ex);ext⟨Q,n0,f0,d0⟩ J.ob;have o0:∀z,z∈W.st.map ZI.nm->Yc z/\(Yw ZI.nm W.st z).isSome=true:=λz hz=>by
  obtain⟨i0,X,rfl⟩:=SJ.mp hz;obtain⟨y',e'⟩:=gP (nm:=ZI.nm) X;exact⟨(ok.so i0 X).1,by rw[e'];rfl⟩
 have due:Lv ⟨W.st,W.wk.take i,W.ru,W.tk,W.tp⟩ (.str x.o) (.str x.t) (.int (x.m:Nat))=none:=Yu (V0 f.1) (Yu (V0 f.2.1) (Yu (by rw[SR (λe=>f.2.2.1 (V.str.inj e)),show VZ (W.wk.take i) (X7 (V.str x.o)) (X7 (V.str x.t))=false from ok.wn i x ex];rfl) (Yu (WF (by have:=f.2.2.2.1;lia) (by have:=f.2.2.2.2;lia)) (Yu (Qc ex (Sh ok.w4 ())) R))));erw[⟨p,_,R,Zp.of (S6 _ _ hp),R,_,_,R,_,_,R,_,_,R,R,?_⟩];sleep 1;erw[⟨_,R,n,Q,_,R,f0,d0.n_add_walk,_,R,_,R,_,R,n,b,_,.str x.o,.str x.t,.int (x.m:Nat),_,_,_,R,J,⟨Sh ok.s5 (),ok.sn,λi0 X=>(ok.so i0 X).1,by show(W.wk.take i).length<=12;rw[Sx];have:=ok.w4;lia,λi0 X=>?_,Sh ok.r3 (),ok.rn,ok.ro,Sh ok.t2 (),ok.tn,ok.to,Sh ok.p3 (),ok.pn,λi0 X=>?_⟩,.str _,.str _,.int _,λw hw=>NB due hw,λ_ H7 s7 y0=>⟨Nz S6 j.w s7,?_,_,_,_,R⟩⟩];have X:=ok.wo i0 (List.mem_of_mem_take X);exact⟨(o0 _ X.1).1,(o0 _ X.2.1).1⟩;obtain⟨q1,q2,q3,q4,q5⟩:=ok.po i0 X;erw[⟨q1,?_,q4,q5,λa1 hc=>(o0 _ (q3.st a1 hc)).1⟩];obtain⟨r,h0,er⟩:=SJ.mp q2;rw[<-er];exact(ok.ro r h0).1;rwa[QW ex];rintro g H6 ⟨S6,J,v5,v6,v7,rfl⟩;rw[SY (by rw[s0.length];exact Sg _)]at J;exact⟨_,R,q n b H6 S6 J j⟩
theorem Zar:∀c:List Nat,YG K H (ZN c) (c.map λn=>PyData.int (n:Nat))
 |[]=>.nil
 |_::r=>.cons (.int _) (Zar r)
theorem Zas:∀c:List Nat,PyData.depthAll (c.map λn=>PyData.int (n:Nat))=0
 |[]=>by simp[PyData.depthAll]
 |_::r=>by simp[PyData.depthAll,PyData.depth,Zas r]
inductive ZrO(P:Program)(w:World)(K:Ox)(mg:Ow)(base:Heap)(k:Nat)(m:Str)(t:TA)(σ:St)(Q:VK)(x:V)(H1:Hp):Prop|mk (a C dx:Addr) (fs:List (Str×V)) (f:Addr) (fd:OJ) (ps:OC) (sp:Sp) (_:x=.ref a) (_:H1 a=some (.ins C dx fs)) (_:fs.lookup m=none) (_:YI K C) (_:Ys K C m f) (_:Zl P w K mg base Zo k f fd ps sp) (_:XB K fd ps []) (_:t σ H1 λvs H2=>sp (.ref a::vs) H2 Q E0)
def ZrP(P:Program)(w:World)(K:Ox)(mg:Ow)(base:Heap)(k:Nat)(m:Str)(f:TE)(t:TA):TE:=λc H Q=>f c H λx g=>ZrO P w K mg base k m t c Q x g
def ZrQ{m:Str}{o e:Expr}{g:OD}{B:TE}{t:TA}{i apos:Pos}{pl:Sem Bool}(P:Program)(w:World)(K:Ox)(mg:Ow)(base:Heap)(k:Nat)(S:Yv k X.A)(J:PE X o B)(ha:PA X (e::g) t)
  (T:X.prog=P:=by rfl) (Y:X.w=w:=by rfl) (D:X.K=K:=by rfl) (hm:X.mg=mg:=by rfl) (j:X.base=base:=by rfl)
  (Q:starEach (e::g) X.env=(false,eval e X.env)::starEach g X.env:=by rfl) (M:(backTo i (starEach g X.env)).any (·.1)=false:=by rfl)
  (E:eval (.Call (.Attribute o m apos) (e::g) [] i) X.env=(do
   let y <-eval o X.env
   standAt apos.atName
   let (f,first) <-holding [y] (getMethod y m pl)
   callWith i f first (backTo i (starEach (e::g) X.env)) (backToKw i (keywordEach [] X.env))):=by rfl) :
  PE X (.Call (.Attribute o m apos) (e::g) [] i) (ZrP P w K mg base k m B t):=by
 subst T Y D hm j;intro pins s n H a0 I h;erw[W.methodCall_KW (pl:=pl) (Zy (J pins s n H _ I h) λu U ⟨x,O,C,L,a,b0,dx,fs,f,fd,ps,sp,ex,Z,l,c,hm,F,j,q⟩=>?_) E];subst ex;obtain rfl:u=Value.ref a:=L;erw[F0 C Z c hm l ?_];erw[W.callWith_K (first:=[.ref a]) (h₀:=X.base) I.ok.mod.kin hm.kp (Zy (ha i pins U n O _ C q) λus s2 ⟨vs,H2,v,r,G⟩=>⟨v.kIn,?_⟩) Q M];exact QB (us:=.ref a::us) (vs:=.ref a::vs) (dvs:=[]) F S j .nil Zk v (.cons R r) (by rwa[Oc])
def Zat{c:Type}{R:V->c->Prop}{xs:List V}{g:List c}{f:c->PyData}(j:Al R xs g)(h:∀v y,y∈g->R v y->DV K H v (f y)):YG K H xs (g.map f):=by
 induction j with
 |nil=>exact .nil
 |cons a _ i=>exact .cons (h _ _ SD a) (i λv y m=>h v y (SB _ m))
def dW(x:Wl):PyData:=.tuple [.str x.o,.str x.t,.int (x.m:Nat)]
def dS(x:ZI):PyData:=.tuple [.int (x.z:Nat),.int (x.ch:Nat)]
def dK(x:YE):PyData:=.tuple [.int (x.pr:Nat),.int (x.la:Nat),.list (x.zs.map λn=>.int (n:Nat))]
def dC(c:Cl):PyData:=.tuple [.str c.st,.int (c.ar:Nat),.int (c.lv:Nat)]
def dT(x:Tp):PyData:=.tuple [.str x.ru,.list (x.cs.map dC)]
theorem RP{c:Type}{f:c->PyData}{n:Nat}(h:∀x,(f x).depth<=n):∀xs:List c,PyData.depthAll (xs.map f)<=n
 |[]=>by simp[PyData.depthAll]
 |x::r=>by have:=h x;have:=RP h r;simp only[SM,PyData.depthAll];lia
def RQ{c:Type}{f:c->PyData}{n:Nat}(h:∀x,(f x).depth<=n)(xs:List c):(PyData.list (xs.map f)).depth<=n+1:=by have:=RP h xs;simp only[PyData.depth];lia
def ZrR(x:Wl):(dW x).depth<=3:=by simp[dW,PyData.depth,PyData.depthAll]
def ZrS(x:ZI):(dS x).depth<=3:=by simp[dS,PyData.depth,PyData.depthAll]
def ZrT(x:YE):(dK x).depth<=3:=by simp[dK,PyData.depth,PyData.depthAll,Zas]
def ZrU(x:Cl):(dC x).depth<=1:=by simp[dC,PyData.depth,PyData.depthAll]
def ZrV(x:Tp):(dT x).depth<=3:=by have:=RP ZrU x.cs;simp[dT,PyData.depth,PyData.depthAll];lia
def YL.dv{x:Wl}(h:YL H v x)(n:Yc x.o/\Yc x.t):DV K H v (dW x):=by
 ext⟨p,rfl,h⟩ h;exact .tup (Zp.of h) (.cons (.str _ (UG n.1)) (.cons (.str _ (UG n.2)) (.cons (.int _) .nil)))
def LJ:List Nat:=List.range 30++[400,800,1201,5000,9998,9999]
def Vg(xs:OC):PyData:=.list (xs.map .str)
def Zhu(xs:OG):PyData:=.list (xs.map λn=>.int (n:Nat))
def dR(x:Yd):PyData:=.list [Vg x.r.words,Zhu (LJ.filter λd=>x.r.runs d),.int (x.r.weight:Nat)]
def LK(N:ZD):List PyData:=[Vg (N.st.map ZI.nm),.list (N.st.map dS),.list (N.wk.map dW),Vg (N.tk.map YE.nm),.list (N.tk.map dK),Vg (N.tp.map Tp.nm),Vg (N.ru.map Yd.nm),.list (N.tp.map dT)]
def QX(N:ZD):List PyData:=LK N++N.ru.map dR
def Zau(h:YG K H xs ds)(g:YG K H c f):YG K H (xs++c) (ds++f):=by
 induction xs generalizing ds with
 |nil=>cases h;exact g
 |cons x r i=>cases h with|cons a b=>exact .cons a (i b)
def Zhv{xs:OC}(h:∀x∈xs,(PyData.str x).canLay0=true):YG K H (xs.map V.str) (xs.map .str):=by
 induction xs with
 |nil=>exact .nil
 |cons x r c=>exact .cons (.str x (h x SD)) (c λy f=>h y (SB _ f))
def ZrW(h:UJ (ZA z)):(PyData.str z).canLay0=true:=by
 simp only[PyData.canLay0];show z.cps.all (λc=>decide (c<0x110000))=true;rw[<-Array.all_toList,List.all_eq_true];intro c f;have:=h.2 c f;exact SQ ()
def RR{c:Type}{nm:c->Str}{xs:List c}{l:Addr}(h:∀x∈xs,Yc (nm x))(e:H l=some (.lst ((xs.map nm).map V.str))):DV K H (.ref l) (Vg (xs.map nm)):=.lst (Zd.of e) (Zhv λz f=>by obtain⟨x,g,rfl⟩:=SJ.mp f;exact UG (h x g))
def LL{c:Type}{nm:c->Str}{xs:List c}(nd:(xs.map nm).Nodup){x y:c}(h:x∈xs)(e:V.str (nm x)=V.str (nm y))(f:Yw nm xs (nm y)=some y):x=y:=by
 have:=Nj nd h;rw[V.str.inj e,f]at this;exact(So this).symm
def Zav{E:Type}{nm:E->Str}{xs:List E}{l n z:Addr}{S:TE}{u:Hp}{Q:VK}(f:E->PyData)(hl:u l=some (.lst ((xs.map nm).map V.str)))(few:xs.length<=100)
  (X:∀x∈xs,∀c,Zf u c->∀C:VK,(∀v B,Zf c B->DV K (wo B z) v (f x)->C v B)->S [some (.str (nm x)),some (.ref n)] c C)
  (hd:∀j c p,Zf u c->u p=none->j.length<=100->YG K (wo c z) j (xs.map f)->c p=none->Q (.ref p) (upd c p (.lst j))) :
  ∃W:Nat->Nat->List V->St->Hp->Prop,(∃m,W 0 m [] [none,some (.ref n)] u)/\∀i m j J H,W i m j J H ->
   ((Wz K l).stop i H/\WX Q j H) \/
   ((Wz K l).go i H/\j.length<sizeLine/\∃N:List V->St->Hp->Prop,(∀M O c,N M O c->∃I,I<m/\W (i+1) I M O c)/\∀x c,(Wz K l).yld i H x c->YV 0 x J c λD B=>X2 D B λb L=>if b=true then S D L λy U=>N (j++[y]) D U else N j D L) :=
 Zhf (λH v x=>DV K (wo H z) v (f x)) (λs h=>h.same (G3 s)) hl (D5 xs) few (λv x m Y c G C q'=>by subst Y;exact X x m c G C q') λj c p G g la T Z=>hd j c p G g la (Zat T λ_ _ _ h=>h) Z
inductive ZrX(t:Z0)(K:Ox)(vs:List V)(H:Hp)(Q:VK)(_e3:XK):Prop|mk (n:Addr) (N:ZD) (_:vs=[.ref n]) (_:XJ t H n N) (_:YS N) (_:∀p H',Zf H H'->DV K H' (.ref p) (.list (QX N))->Q (.ref p) H')
def RS(f:Zs K mg t):Zl P w K mg base Zo 48 t.ZeB t.ZeC ["_law_net"] (ZrX t K):=by
 erw[f.MO.F.ok J3 () λo5 A outer s d0 vs k5 m5 u h=>?_];ext⟨n,N,rfl,hn,ok,q⟩ h;obtain⟨a,hN⟩:=id hn;ext⟨v,fs,C,D⟩ hN.ob;erw[⟨_,(Zi (ZL 1 J3.nd (Z4 (Up (WM (pv 0) f.ZG f.Qv.me (RF f) (u.mono ()) f.Qv.b .nil Zk) (Xv (cl:=[(OK "_law_net",s.heap.objs.size+1)]) (N:=["_law_stop","_law_net"]) (fr:=[none,some 0]) R (Xl (WM (pv 0) f.ZG f.Qv.me (RF f) (u.mono ()) f.Qv.b .nil Zk)) R () R () ⟨⟨R,Or.inl R,Or.inl R,_,R,R⟩,trivial⟩ ⟨R,trivial⟩ R (λ_ _ _ _ _=>(ZZ 0 (show List.Nodup (["_law_stop","_law_net"]:OC) by lia))) (λ_ _ _ _ _=>Xu) (λ_ _ _ _ _=>(YX (Zv (Yz (pv 1) f.ZG f.MU.me (ZgP f) (u.mono ()) f.MU.b .nil Xq (Zc (pv 0))) (Yz (pv 1) f.ZG f.MV.me (ZgQ f) (u.mono ()) f.MV.b .nil Xq (Zc (pv 0))))))) (WM (pv 0) f.ZG f.MT.me (ZgN f) (u.mono ()) f.MT.b .nil Zk) (WM (pv 0) f.ZG f.B5.me (gX f) (u.mono ()) f.B5.b .nil Zk)))) (Zi (ZL 1 J3.nd (Zg Y6 (pv 1) (Z4 (Ym (Xv (cl:=[(OK "_law_net",s.heap.objs.size+1)]) (N:=["_law_name_here","_law_net"]) (fr:=[none,some 0]) R (Xl (WM (pv 0) f.ZG f.B5.me (gX f) (u.mono ()) f.B5.b .nil Zk)) R () R () ⟨⟨R,Or.inl R,Or.inl R,_,R,R⟩,trivial⟩ ⟨R,trivial⟩ R (λ_ _ _ _ _=>(ZZ 0 (show List.Nodup (["_law_name_here","_law_net"]:OC) by lia))) (λ_ _ _ _ _=>Xu) (λ_ _ _ _ _=>(Yz (pv 1) f.ZG f.MX.me (ZgS f) (u.mono ()) f.MX.b .nil Xq (Zc (pv 0))))) (WM (pv 0) f.ZG f.B6.me (gY f) (u.mono ()) f.B6.b .nil Zk) (WM (pv 0) f.ZG f.Qw.me (RG f) (u.mono ()) f.Qw.b .nil Zk))))) (Zi (Yg (Xa PySem.F.plainAttrs_list PySem.F.slot_list_append PySem.F.type_list_append Ma (pv 1) (Zc (Xv (cl:=[(OK "_law_net",s.heap.objs.size+1)]) (N:=["_law_trip","_law_net"]) (fr:=[none,some 0]) R (Xl (WM (pv 0) f.ZG f.B6.me (gY f) (u.mono ()) f.B6.b .nil Zk)) R () R () ⟨⟨R,Or.inl R,Or.inl R,_,R,R⟩,trivial⟩ ⟨R,trivial⟩ R (λ_ _ _ _ _=>(ZZ 0 (show List.Nodup (["_law_trip","_law_net"]:OC) by lia))) (λ_ _ _ _ _=>Xu) (λ_ _ _ _ _=>(YX (Zv (Yz (pv 1) f.ZG f.MY.me (ZgT f) (u.mono ()) f.MY.b .nil Xq (Zc (pv 0))) (Yz (pv 1) f.ZG f.MZ.me (ZgU f) (u.mono ()) f.MZ.b .nil Xq (Zc (pv 0)))))))))) (Zi (WO (Xl (WM (pv 0) f.ZG f.Qw.me (RG f) (u.mono ()) f.Qw.b .nil Zk)) (ZZ 2 J3.nd) (Zi (ZL 3 J3.nd (Yz (pv 0) f.ZG f.MW.me (ZgR f) (u.mono ()) f.MW.b .nil Xq (Zc (pv 2)))) (Zi (ZL 4 J3.nd (Zg Y6 (Z5 (ZkE R) R f.XH XT (Zc (Z5 ZkC R f.VU Znt (Zc Zb)))) (Z4 (pa6 Zb Zb Zb Zb Zb Zb)))) (Ze (Yg (Xa PySem.F.plainAttrs_list PySem.F.slot_list_append PySem.F.type_list_append Ma (pv 1) (Zc (Z4 (Ym (WY (pv 3)) (Xv (cl:=[(OK "_law_rule_here",s.heap.objs.size+2)]) (N:=["_law_day","_law_rule_here"]) (fr:=[none,some 3]) R (Xl (pv 4)) R () R () ⟨⟨R,Or.inl R,Or.inl R,_,R,R⟩,trivial⟩ ⟨R,trivial⟩ R (λ_ _ _ _ _=>(ZZ 0 (show List.Nodup (["_law_day","_law_rule_here"]:OC) by lia))) (λ_ _ _ _ _=>(TB (Yy (ZrQ P w K mg base 9 (u.mono ()) (pv 1) (Zc (pv 0)))))) (λ_ _ _ _ _=>(pv 0))) (WY (pv 3))))))))))) (Ze (Zt (pv 1))))))),?_⟩];dsimp only[kx,ky];erw[Sq5 ?_];intros;have sn:∀{B:Hp},Zf d0 B->B n=some (.ins t.ZT v fs):=λs'=>s' _ _ C;have q5:∀{B:Hp} {p:Addr} {xs:List V},Zf d0 B->B p=some (.lst xs)->p≠n:=λs' e z=>by rw[z,sn s']at e;cases e
 erw[⟨_,R,n,v,_,R,C,D.n_stops,n,N,R,hn,λl1 g1=>?_⟩];exists d0,l1,H1,s1,g1,c1;erw[⟨_,R,n,v,_,R,s1 _ _ C,D.n_stops,n,N,R,hn.same s1,λl2 g2=>?_⟩];generalize c:upd H1 l2 _=H2;have s2:=s1.trans (Z1 g2 c);have k1:=Z1 g2 c _ _ c1;have c2:=ZX c;clear c;erw[⟨l2,R,⟨_,Zd.of c2⟩,Zav (n:=n) (z:=n) dS c2 (Sh ok.s8 ()) (λx E H3 s3 Q' q'=>?_) λa2 H3 p2 s3 _ h5 o0 l0=>?_⟩];have S3:=s2.trans s3;have J:YM ZI.nm N.st (.str x.nm)=true:=V0 (SJ.mpr ⟨x,E,R⟩);erw[⟨_,R,n,v,_,R,S3 _ _ C,D.n_zone,_,R,n,N,.str x.nm,_,R,hn.same S3,.str _,λb=>(by rw[J]at b;cases b),λy G H=>?_⟩];obtain rfl:=LL ok.sn E G H;erw[⟨_,R,n,v,_,R,S3 _ _ C,D.n_change,_,R,n,N,.str x.nm,_,R,hn.same S3,.str _,λb=>(by rw[J]at b;cases b),λy G H=>?_⟩];obtain rfl:=LL ok.sn E G H;erw[⟨zL9 R,λp g=>q' _ _ (Zx g _) (.tup (Zp.of (Xe Zh λz=>?_)) (.cons (.int _) (.cons (.int _) .nil)))⟩];rw[z,sn S3]at g;cases g;have o0:=YG.same Mv o0;have w2:=s2.trans s3;generalize c:upd H3 p2 _=H4;have s4:=w2.trans (Z1 l0 c);have c4:=ZX c;have d1:DV K H4 (.ref l1) (Vg (N.st.map ZI.nm)):=RR ok.so (Z1 l0 c _ _ (s3 _ _ k1));have d2:DV K H4 (.ref p2) (.list (N.st.map dS)):=.lst (Zd.of c4) (o0.same (Z1 l0 c));clear c o0 s3 w2 l0 c2 k1 g2 s1 g1 c1 s2 c4;erw[⟨_,R,n,v,_,R,s4 _ _ C,D.n_walks,n,N,R,hn.same s4,λl3 ws g3 al=>?_⟩];generalize c:upd H4 l3 _=H5;have s5:=Z1 g3 c;have d3:DV K H5 (.ref l3) (.list (N.wk.map dW)):=.lst (Zd.of (ZX c)) (Zat (al.imp λ_ _=>YL.same s5) λj0 y m h=>h.dv (ok.wo y m));have d1:=d1.same s5;have d2:=d2.same s5;have s5:=s4.trans s5;clear c g3 s4;erw[⟨_,R,n,v,_,R,s5 _ _ C,D.n_tickets,n,N,R,hn.same s5,λl4 g4=>?_⟩];generalize c:upd H5 l4 _=H6;have M:=Z1 g4 c;have d4:DV K H6 (.ref l4) (Vg (N.tk.map YE.nm)):=RR (λx hx=>(ok.to x hx).nm) (ZX c);have D6:YG K H6 [.ref l1,.ref p2,.ref l3,.ref l4] [Vg (N.st.map ZI.nm),.list (N.st.map dS),.list (N.wk.map dW),Vg (N.tk.map YE.nm)]:=.cons (d1.same M) (.cons (d2.same M) (.cons (d3.same M) (.cons d4 .nil)));have M:=s5.trans M;clear c g4 s5 d1 d2 d3 d4;erw[⟨zL9 R,λlf gf=>?_⟩];generalize c:upd H6 lf _=H7;have Q:=Z1 gf c;have c7:=ZX c;have D7:=D6.same Q;have Q:=M.trans Q;clear c gf M D6;erw[⟨_,R,_,R,n,v,_,R,Q _ _ C,D.n_tickets,n,N,R,hn.same Q,λl5 g5=>?_⟩];generalize c:upd H7 l5 _=H8;have k8:=Z1 g5 c;have c8:=ZX c;clear c g5;have s8:=Q.trans k8;erw[⟨l5,R,⟨_,Zd.of c8⟩,Zav (n:=n) (z:=n) dK c8 (Sh ok.t3 ()) (λx E H9 s9 Q' q'=>?_) λa5 H9 p5 s9 _ i5 w0 w1=>?_⟩];have S9:=s8.trans s9;have J:YM YE.nm N.tk (.str x.nm)=true:=V0 (SJ.mpr ⟨x,E,R⟩);erw[⟨_,R,n,v,_,R,S9 _ _ C,D.n_ticket,_,R,n,N,.str x.nm,_,R,hn.same S9,.str _,λb=>(by rw[J]at b;cases b),λy G H v' p1 O kt=>?_⟩];obtain rfl:=LL ok.tn E G H;ext⟨r,l,rfl,h1,_,h2⟩ kt;have nn:=sn (S9.trans O);erw[q' _ _ O (.tup (Zp.of (Xe h1 λz=>?_)) (.cons (.int _) (.cons (.int _) (.cons (.lst (Zd.of (Xe h2 λz=>?_)) (Zar _)) .nil))))];rw[z,nn]at h1;cases h1;rw[z,nn]at h2;cases h2;have w0:=YG.same Mv w0;generalize c:upd H9 p5 _=p1;have a1:=s9.trans (Z1 w1 c);have d5:DV K p1 (.ref p5) (.list (N.tk.map dK)):=.lst (Zd.of (ZX c)) (w0.same (Z1 w1 c));have e3:=D7.same (k8.trans a1);have n3:=a1 _ _ (k8 _ _ c7);have O:=s8.trans a1;clear c w0 s9 w1 c8 k8 a1 s8 Q c7 D7;erw[⟨_,R,n,v,_,R,O _ _ C,D.n_trips,n,N,R,hn.same O,λl6 g6=>?_⟩];generalize c:upd p1 l6 _=a3;have g0:=Z1 g6 c;have d6:DV K a3 (.ref l6) (Vg (N.tp.map Tp.nm)):=RR (λx hx=>(ok.po x hx).1) (ZX c);clear c g6;have q0:=O.trans g0;erw[⟨_,R,n,v,_,R,q0 _ _ C,D.n_rules,n,N,R,hn.same q0,λl7 g7=>?_⟩];generalize c:upd a3 l7 _=j3;have T:=Z1 g7 c;have d7:DV K j3 (.ref l7) (Vg (N.ru.map Yd.nm)):=RR (λx hx=>(ok.ro x hx).1) (ZX c);clear c g7;have y3:=q0.trans T;have z3:=Zau (e3.same (g0.trans T)) (.cons (d5.same (g0.trans T)) (.cons (d6.same T) (.cons d7 .nil)));have y2:=T _ _ (g0 _ _ n3);clear g0 T q0 O e3 d5 d6 d7 n3;erw[⟨zL9 R,λlh gh=>?_⟩];generalize c:upd j3 lh _=n4;have r0:=Z1 gh c;have k3:=ZX c;clear c gh;erw[⟨lf,lh,_,_,R,R,r0 _ _ y2,k3,zL9 R,λj gg=>?_⟩];generalize c:upd n4 j _=u2;have L:=Z1 gg c;have U:=ZX c;have q1:YG K (wo u2 j) _ _:=z3.same (r0.trans λx o e=>Xe (L x o e) (ZR e gg));have k2:=y3.trans r0;have f2:d0 j=none:=k2.free gg;have L:=k2.trans L;clear c gg r0 k3 y2 z3 y3 k2;generalize hX:([V.ref l1,V.ref p2,V.ref l3,V.ref l4]++[V.ref p5,V.ref l6,V.ref l7])=b1 at U q1;have lX:b1.length=7:=by rw[<-hX];rfl
 clear hX;erw[⟨_,R,.inl ⟨R,_,Zd.of U⟩,_,R,n,v,_,R,L _ _ C,D.n_trips,n,N,R,hn.same L,λl8 g8=>?_⟩];generalize c:upd u2 l8 _=n5;have e0:=Z1 g8 c;have u1:=ZX c;clear c g8;have r2:=L.trans e0;erw[⟨l8,R,⟨_,Zd.of u1⟩,Zav (n:=n) (z:=j) dT u1 (Sh ok.p10 ()) (λx E h3 i0 Q' q'=>?_) λa8 h3 p8 i0 f3 j5 q2 u3=>?_⟩];have z0:=r2.trans i0;have i3:=i0 _ _ (e0 _ _ U);have J:YM Tp.nm N.tp (.str x.nm)=true:=V0 (SJ.mpr ⟨x,E,R⟩);erw[⟨_,R,n,v,_,R,z0 _ _ C,D.n_rule_name,_,R,n,N,.str x.nm,_,R,hn.same z0,.str _,λb=>(by rw[J]at b;cases b),λy G H=>?_⟩];obtain rfl:=LL ok.pn E G H;erw[⟨_,R,n,v,_,R,z0 _ _ C,D.n_calls,_,R,n,N,.str x.nm,_,R,hn.same z0,.str _,λb=>(by rw[J]at b;cases b),λy G H l us c0 b0 gl hl al=>?_⟩];obtain rfl:=LL ok.pn E G H;erw[⟨zL9 R,λp g=>?_⟩];have i1:=Zx g (.tup [.str x.ru,.ref l]);have po:=ok.po x E;have x0:=b0 _ _ i3;erw[q' _ _ (b0.trans i1) (.tup (Zp.of (Xe Zh (ZR x0 g).symm)) (.cons (.str _ (UG po.2.1)) (.cons (.lst (Zd.of (Xe (i1 _ _ hl) (ZR i3 gl).symm)) (Zat al λj0 h0 m h=>?_)) .nil)))];ext⟨pc,rfl,hc⟩ h;exact .tup (Zp.of (Xe (i1 _ _ hc) (λz=>by rw[z,x0]at hc;cases hc))) (.cons (.str _ (UG (po.2.2.2.2 h0 m))) (.cons (.int _) (.cons (.int _) .nil)));exists h3,p8,c0,j2,u3,x0;have k:=e0.trans (i0.trans j2);have np:p8≠j:=(ZR (e0 _ _ U) f3).symm;have f0:=Zau (q1.same (G3 k)) (.cons (.lst (Zd.of (Xe x0 np)) (q2.same (G3 j2))) .nil);have q3:=k _ _ U;have b0:=L.trans k;clear k j2 i0 e0 r2 u1 q2 u3 f3 U q1 L;erw[⟨j,_,_,R,R,q3,Sj (show b1.length<=7 by lia) (),?_⟩];have f0:YG K (wo c0 j) (b1++[V.ref p8]) (LK N):=f0;generalize hX:b1++[V.ref p8]=Y at f0 ⊢;have lY:Y.length=8:=by rw[<-hX,Su,lX];rfl
 have t1:upd c0 j (.lst Y) j=some (.lst Y):=Zh;have c3:YG K (wo (upd c0 j (.lst Y)) j) Y (LK N):=by rwa[zF]
 have t0:=W0 b0 f2 (.lst Y);generalize upd c0 j (.lst Y)=c5 at t1 c3 t0 ⊢;clear hX f0 q3 b0;erw[⟨_,R,n,v,_,R,t0 _ _ C,D.n_rules,n,N,R,hn.same t0,λlr gr=>?_⟩];exists c5,lr,t4,i2,gr,a4;have nr:lr≠j:=(ZR t1 gr).symm;have e4:=t0.trans i2;erw[⟨lr,R,⟨_,Zd.of a4⟩,LS (K:=K) (a:=lr) (xs:=(N.ru.map Yd.nm).map V.str) (λi I B=>Kp j t4 B/\(∃Z,B j=some (.lst Z)/\Z.length=8+i/\YG K (wo B j) Z (LK N++(N.ru.take i).map dR))/\∃v2 v3 v4:Option V,I=[some (.ref n),some (.ref j),v2,v3,v4]) ⟨λ_ _ _ e=>e,⟨Y,i2 _ _ t1,lY,by rw[List.take_zero,List.map_nil,Oc];exact c3.same (G3 i2)⟩,_,_,_,R⟩ (λi I B _ h=>Zd.of (h.1 _ _ nr a4)) ?_ ?_⟩];rintro i j0 I n0 X ⟨kp,⟨Z,cZ,lZ,DZ⟩,v2,v3,v4,rfl⟩;sleep 103;rw[Oa,Oa]at X;obtain⟨w,ew,rfl⟩:=Of.mp X;obtain⟨x,ex,rfl⟩:=Of.mp ew;have E:=SK ex;have S:=(ok.ro x E).2;have z2:Zf d0 n0:=λy o e=>kp y o (ZR e f2) (e4 y o e);have J:YM Yd.nm N.ru (.str x.nm)=true:=V0 (SJ.mpr ⟨x,E,R⟩);erw[⟨_,R,n,v,_,R,z2 _ _ C,D.n_rule,_,R,n,N,.str x.nm,_,R,hn.same z2,ok,.str _,λb=>(by rw[J]at b;cases b),λy G H v' o3 p4 b5=>?_⟩];obtain rfl:=LL ok.rn E G H;ext⟨b,rfl,n1⟩ b5;rw[f.kf]at n1;erw[⟨30,R,(),λpr g=>⟨pr,30,R,Zh,(),λla ga=>?_⟩⟩];have s0:=(Zx g (.rng 0 (30:Nat))).trans (Zx ga (.lst (ZN (List.range 30))));have ca:=@Zh (upd o3 pr (.rng 0 (30:Nat))) la (.lst (ZN (List.range 30)));generalize upd (upd o3 pr (.rng 0 (30:Nat))) la (.lst (ZN (List.range 30)))=r4 at s0 ca ⊢;erw[⟨zL9 R,λlb gb=>?_⟩];generalize c:upd r4 lb _=i4;have m0:=Z1 gb c;have cb:=ZX c;clear c gb;erw[⟨la,lb,_,_,R,R,m0 _ _ ca,cb,zL9 R,λld gd=>?_⟩];generalize c:upd i4 ld _=f4;have m1:=Z1 gd c;have cd:f4 ld=some (.lst (ZN LJ)):=ZX c;clear c;have m3:=p4.trans (s0.trans (m0.trans m1));have n2:=n1.same (s0.trans (m0.trans m1));have p0:=m3 _ _ cZ;clear ca cb s0 m0 m1 n1;obtain⟨b2,j1,f1,y1,fd,sp,x1,x2,x3,x4,x5,x6,x7⟩:=(Zad (P:=P) (w:=w) (mg:=mg) (base:=base) f 8).at f n2 S.1 (Sh S.2.1 ()) S.2.2;erw[⟨_,R,.inl ⟨R,_,Zd.of p0⟩,_,R,b,b2,j1,f1,y1,fd,_,_,sp,Zo,E0,R,x1,x2,x3,x4,x5,u.mono (),x6,Zk,x7 _ λpw m4 a0 gw cw=>?_⟩];clear x1 x2 x3 x4 x5 x6 x7;have m2:=n2.same a0;have nw:pw≠j:=(ZR p0 gw).symm;obtain⟨b2,j1,f1,y1,fd,sp,g1,g2,g3,g4,g5,g6,g7⟩:=(Zf9 (P:=P) (w:=w) (mg:=mg) (base:=base) f 8).at f m2 S.2.2;erw[⟨_,R,ld,R,⟨_,Zd.of (a0 _ _ cd)⟩,Uh (K:=K) (a:=ld) (xs:=ZN LJ) (λi u0 I B=>B=m4/\u0=ZN ((LJ.take i).filter λd=>x.r.runs d)/\∃j0,I=[j0,some (.ref b)]) ⟨R,R,_,R⟩ () (λi u0 I B _ ⟨e,_⟩=>by rw[e];exact Zd.of (a0 _ _ cd)) ?_ ?_⟩];rintro e5 j0 u0 I B ha X ⟨rfl,rfl,v0,rfl⟩;unfold ZN at X;rw[Oa]at X;obtain⟨d,ed,rfl⟩:=Of.mp X;dsimp only[YV];erw[⟨_,R,b,b2,j1,f1,y1,fd,_,sp,R,g1,g2,g3,g4,g5,g6,_,R,g7 d _ ⟨_,R,?_⟩⟩];rw[QW ed,List.filter_append];erw[Vl (λh0=>?_) (λh0=>?_)];rw[show List.filter (λd=>x.r.runs d) [d]=[d] by rw[List.filter_cons,h0];rfl];exact⟨_,R,by rw[Su,Sw];lia,R,(SL (l₂:=[d])).symm,_,R⟩;rw[show List.filter (λd=>x.r.runs d) [d]=[] by rw[List.filter_cons,SU h0];rfl,Oc];exact⟨(),R,R,_,R⟩;rintro u0 I B ha ⟨rfl,rfl,v0,rfl⟩ pd b3;rw[show(ZN LJ).length=LJ.length from Sv ..,List.take_length];exists B,pd,f5,k0,b3,cp;have nd:pd≠j:=(ZR (a0 _ _ p0) b3).symm;have b4:=m2.same k0;obtain⟨C2,y4,k4,u4,q4,⟨z4,j4⟩,_⟩:=Nc f b4;erw[⟨_,R,b,C2,y4,k4,_,_,_,_,_,Zo,E0,R,u4,z4,q4,j4,Zgg f 8,u.mono (),f.K0.b,Zk,b,x.r,R,b4,S.2.2,by have:=S.2.1;lia,λo4 y0=>?_⟩];erw[⟨zL9 R,λpi gi=>?_⟩];exists o4,pi,w3,v1,gi,ci;have kk:Zf n0 w3:=m3.trans (a0.trans (k0.trans (y0.trans v1)));have h4:=kk _ _ cZ;have ni:pi≠j:=(ZR (y0 _ _ (k0 _ _ (a0 _ _ p0))) gi).symm;have dI:DV K (wo w3 j) (.ref pi) (dR x):=.lst (Zd.of (Xe ci ni)) (.cons (.lst (Zd.of (Xe (v1 _ _ (y0 _ _ (k0 _ _ cw))) nw)) (Zhv λz hz=>ZrW (Zhm x.r S.1 z hz))) (.cons (.lst (Zd.of (Xe (v1 _ _ (y0 _ _ cp)) nd)) (Zar _)) (.cons (.int _) .nil)));have r6:=ok.r6;have il:=(Sr.mp ex).1;erw[⟨j,Z,.ref pi,R,R,h4,Sj (show Z.length<=20 by lia) (),?_⟩];erw[⟨λy o ny e=>?_,⟨Z++[.ref pi],Zh,by rw[Su,lZ];rfl,?_⟩,_,_,_,R⟩];rw[Zj ny];exact kk _ _ (kp y o ny e);rw[zF,QW ex,SL,<-Od];exact Zau (DZ.same (G3 kk)) (.cons dI .nil);rintro I n0 ⟨kp,⟨Z,cZ,lZ,DZ⟩,v2,v3,v4,rfl⟩;rw[Sv,Sv,List.take_length]at DZ;erw[⟨_,R,q j n0 (λx o e=>kp x o (ZR e f2) (e4 x o e)) (.lst (Zd.of cZ) (DZ.same Mv))⟩]
def RU{c:Type}{nm:c->Str}{xs:List c}{x:c}(nd:(xs.map nm).Nodup)(h:YM nm xs (.str (nm x))=false):((xs++[x]).map nm).Nodup:=by
 rw[SL];erw[List.nodup_append.mpr ⟨nd,List.Pairwise.cons () .nil,λa ha b f e=>?_⟩];obtain rfl:=SE.mp f;subst e;rw[V0 ha]at h;cases h
def QY{c:Type}{p:c->Prop}{xs:List c}{x:c}(h:∀y∈xs,p y)(g:p x):∀y∈xs++[x],p y:=λy f=>(SG.mp f).elim (h y) λe=>SE.mp e ▸ g
def RV(h:Vt v=true):v=.str (X7 v)/\Yc (X7 v):=by
 obtain⟨z,rfl,c⟩:=K9 h;exact⟨R,ZpR c⟩
def NC(h:(!b)=true):b=false:=by cases b;rfl;cases h
def ND{c:Type}{xs:List c}{x:c}{n:Nat}(h:decide (xs.length<n)=true):(xs++[x]).length<=n:=by rw[Su];exact SS h
theorem YS.addS(ok:YS N)(h:Lu N g c f=none):YS (addS N g c f):=by
 obtain⟨j,h⟩:=YK h;obtain⟨i,h⟩:=YK h;obtain⟨x,h⟩:=YK h;obtain⟨v,h⟩:=YK h;obtain⟨n,h⟩:=YK h;obtain⟨e,u⟩:=RV j;exact{ok with s8:=ND n,sn:=RU ok.sn (by rw[e]at i;exact NC i),so:=QY ok.so u}
theorem YS.addW(ok:YS N)(h:Lv N f c g=none):YS (addW N f c g):=by
 obtain⟨j,h⟩:=YK h;obtain⟨v,h⟩:=YK h;obtain⟨C,h⟩:=YK h;obtain⟨B,h⟩:=YK h;obtain⟨n,h⟩:=YK h;obtain⟨x,_,rfl,u⟩:=VF j;obtain⟨y,_,rfl,i⟩:=VF v;exact{ok with w12:=ND n,wo:=QY ok.wo ⟨by have:=WI u;show Yc x;rw[<-this.2];exact ok.so _ this.1,by have:=WI i;show Yc y;rw[<-this.2];exact ok.so _ this.1⟩}
theorem YS.addR(ok:YS N)(h:D1 N c o=none)(g:∀r,o=some r->R3.Ok r):YS (addR N c o):=by
 obtain⟨i,h⟩:=YK h;obtain⟨f,h⟩:=YK h;obtain⟨n,h⟩:=YK h;obtain⟨j,h⟩:=YK h;obtain⟨e,u⟩:=RV i;obtain⟨r,rfl⟩:=Option.isSome_iff_exists.mp n;exact{ok with r6:=ND j,rn:=RU ok.rn (by rw[e]at f;exact NC f),ro:=QY ok.ro ⟨u,g r R⟩}
theorem YS.addK(ok:YS N)(h:Nm N i g lv o=none):YS (addK N i g lv o):=by
 obtain⟨u,h⟩:=YK h;obtain⟨j,h⟩:=YK h;obtain⟨B,h⟩:=YK h;obtain⟨x,h⟩:=YK h;obtain⟨f,h⟩:=YK h;obtain⟨n,h⟩:=YK h;obtain⟨e,D⟩:=RV u;cases o with
 |none=>cases f
 |some c =>
 have f:(decide (1<=c.length/\(c.length:Int)<=6) && WS 1 6 c)=true:=f;rw[Bool.and_eq_true]at f;obtain⟨_,v,C⟩:=gQ c 1 6 () f.2;have l:=SS f.1;have E:=(QP B ()).2;have G:=(QP x ()).2;exact{ok with t3:=ND n,tn:=RU ok.tn (by rw[e]at j;exact NC j),to:=QY ok.to ⟨D,by show YU g<=10000;lia,by show 1<=YU lv;lia,by show YU lv<=1440;lia,by show 1<=(c.map YU).length;rw[Sv];lia,by show(c.map YU).length<=6;rw[Sv];lia,v,λz y=>by have:=C z y;lia⟩}
theorem YS.addT{N:ZD}{cs:List Cl}(ok:YS N)(h:Lw N f i=none)(n:X8 (N.st.map ZI.nm) cs)(C:2<=cs.length)(D:cs.length<=6):YS (addT N f i cs):=by
 obtain⟨v,h⟩:=YK h;obtain⟨g,h⟩:=YK h;obtain⟨E,h⟩:=YK h;obtain⟨B,h⟩:=YK h;obtain⟨e,G⟩:=RV v;obtain⟨y,x,rfl,u⟩:=VF E;refine{ok with p10:=ND B,pn:=RU ok.pn (by rw[e]at g;exact NC g),po:=QY ok.po ⟨G,by have:=WI u;show Yc y;rw[<-this.2];exact(ok.ro _ this.1).1,C,D,λc j=>?_⟩};obtain⟨s,H,e⟩:=SJ.mp (n.st c j);rw[<-e];exact ok.so s H
def Z3.Ok2:Z3->Prop
 |.ru x=>R3.Ok x.r
 |.tp x=>2<=x.cs.length/\x.cs.length<=6
 |_=>True
def X8.more(h:X8 f cs)(r:OC):X8 (f++r) cs:=⟨λc g=>SG.mpr (.inl (h.st c g)),h.rng,h.fol,h.gap⟩
def Zaw{c:Type}{nm:c->Str}{xs:List c}{x:c}{z:Str}(h:z∈xs.map nm):z∈(xs++[x]).map nm:=by rw[SL];exact SG.mpr (.inl h)
def Zax{c:Type}{nm:c->Str}{xs:List c}{z:Str}(h:YM nm xs (.str z)=true):z∈xs.map nm:=by
 obtain⟨y,x,e,f⟩:=VF h;have:=WI f;rw[V.str.inj e,<-this.2];exact SJ.mpr ⟨x,this.1,R⟩
def NF.add{x:Z3}(nf:NF N)(due:x.due N=none)(o2:x.Ok2)(co:x.csok N):NF (x.add N):=by
 cases x with
 |st x =>
  have ok:YS ((Z3.st x).add N):=nf.ok.addS due;obtain⟨_,h⟩:=YK due;obtain⟨_,h⟩:=YK h;obtain⟨f,h⟩:=YK h;obtain⟨j,h⟩:=YK h;have f:=SS f;have j:=SS j;erw[⟨ok,QY nf.st (),λy g=>?_,nf.wn,λy g=>⟨(nf.tr y g).1,?_⟩⟩];obtain⟨a,b,c⟩:=nf.wk y g;exact⟨Zaw a,Zaw b,c⟩;show X8 ((N.st++[x]).map ZI.nm) y.cs;rw[SL];exact(nf.tr y g).2.more _
 |wk x =>
  have ok:YS ((Z3.wk x).add N):=nf.ok.addW due;obtain⟨n,h⟩:=YK due;obtain⟨v,h⟩:=YK h;obtain⟨f,h⟩:=YK h;obtain⟨j,h⟩:=YK h;have j:=SS j;have f:=NC f;rw[Bool.or_eq_false_iff]at f;erw[⟨ok,nf.st,QY nf.wk ⟨Zax n,Zax v,λe=>of_decide_eq_false f.1 (by rw[e]),()⟩,λi y u=>?_,nf.tr⟩];have u:(N.wk++[x])[i]? = some y:=u;show VZ ((N.wk++[x]).take i) y.o y.t=false;rcases Zho u with⟨l,e⟩|⟨l,e⟩;rw[List.take_append_of_le_length ()];exact nf.wn i y e;have B:=(Sr.mp e).1;have B:i - N.wk.length<1:=B;obtain rfl:i=N.wk.length:=by lia
  rw[Nat.sub_self]at e;obtain rfl:x=y:=So e;rw[List.take_left];exact f.2
 |ru x =>
  erw[⟨nf.ok.addR due λr e=>by cases e;exact o2,nf.st,nf.wk,nf.wn,λy g=>⟨Zaw (nf.tr y g).1,(nf.tr y g).2⟩⟩]
 |tk x =>
  erw[⟨?_,nf.st,nf.wk,nf.wn,nf.tr⟩];have:=nf.ok.addK due;rw[Zaq]at this;exact this
 |tp x =>
  have n:=(YK due).2;have v:=(YK n).2;obtain⟨f,_⟩:=YK v;exact⟨nf.ok.addT due co o2.1 o2.2,nf.st,nf.wk,nf.wn,QY nf.tr ⟨Zax f,co⟩⟩
def ZrY{L:List (Str×V×Nat)}{cl:Oy}(g:Pj FN cl cs u H)(G:A5 (λq:Str×V×Nat=>(q.1,q.2.2)∈FN/\u[q.2.2]? = some (some q.2.1)) L)(nd:(cl.map (·.2)).Nodup)
  (D:(scope.names.all λp=>!(p.2==.cell || p.2==.free) || (cl.lookup p.1).isSome)=true) (I:A5 (λx=>scope.names.lookup x=some .free) (L.map (·.1))):zI (L.map (·.1)) scope cl (L.map (·.2.1)) cs:=by
 erw[⟨by rw[Sv,Sv],λi x v n h=>?_,g.cell,λx y c=>ZcD nd,λx f=>?_,λx f=>MB I x f,λb o e=>(g.free b o e).2⟩];rw[Oa]at n h;obtain⟨q,j,rfl⟩:=Of.mp n;rw[j]at h;cases h;obtain⟨m,e⟩:=MB G q (SK j);exact g.val _ m _ e;have q:∃k,scope.names.lookup x=some k/\(k=.cell\/k=.free):=f.elim (λz=>⟨_,z,.inl R⟩) λz=>⟨_,z,.inr R⟩;ext⟨k,E,B⟩ q;have z:=Tx D E;have C:(cl.lookup x).isSome=true:=by
  rcases B with rfl|rfl;simpa using z;simpa using z
 exact Option.isSome_iff_exists.mp C
def LM{FN:List (Str×Nat)}{cl:Oy}{lt:Addr}{q:Str}{params:Arguments}{body:Expr}{d0:Pos}{C:St}{Q:VK}{L:List (Str×V×Nat)}{U:XK->TE}(f0:YY lt q H)(hv:A5 (λq:Str×V×Nat=>(q.1,q.2.2)∈FN/\C[q.2.2]? = some (some q.2.1)) L)(nd:(cl.map (·.2)).Nodup)
  (e0:(scope.names.all λp=>!(p.2==.cell || p.2==.free) || (cl.lookup p.1).isSome)=true) (c0:A5 (λx=>scope.names.lookup x=some .free) (L.map (·.1))) (g0:scope.isCoroutine=false) (i0:scope.isGenerator=false) (hk:scope.kind=.function) (b0:∀x∈scope.names,x.2≠.cell)
  (X:∀pm n B,bindArgs (W.kla_fn "<lambda>" q params body scope cl pm (.ref n) B) ⟨[],[]⟩=pure [])
  (a0:∀(f n:Addr) (g:Hp) (A:Around) (outer:List Env) (s:Shared) (E:XK),Yv 49 (A.deeper (W.envX q scope s.heap.objs.size f (.ref n) cl))->PE (G7 (Yf P w) P w K mg base (L.map (·.1)) q scope cl f (.ref n) A outer s g E) body (U E))
  (h:∀g,Zf (wo H lt) g->YY lt q g->∃(told:Hp->Prop) (ref:Wn->Hp->Prop),(∀(S:VK) (T:XK),(∀c,told c->S .non c)->(∀(wd:Wn) c,ref wd c->T (.ref (wd.cls t)) none c)->U T ((L.map (·.2.1)).map some) g S)/\(∀c j p,told c->Zf c j->j p=some (.tup [.str (OK "told"),.non])->Q (.ref p) j)/\∀(wd:Wn) c j,ref wd c->Zf c j->Q (.str wd.txt) j) :
  zK (Zg0 t P w K mg base) FN cl (Pi lt mg q params body scope cl d0) C H Q:=by
 dsimp only[zK];erw[Zmk f0 ?_];intro f n B g s2 j0 D I cs J;have G:∀b o,cs b=some o->g b=none:=λb o e=>(J.free b o e).1;have O:∀{a o},g a=some o->cs a=none:=λ{a o} e=>by
  cases z:cs a with
  |none=>rfl
  |some ob=>rw[G a ob z]at e;cases e
 obtain⟨told,ref,Z,Y,h2⟩:=h g s2 j0;have calls:=Zlz (P:=P) (w:=w) (K:=K) (mg:=mg) (base:=base) (k:=49) (H:=lent cs g) (by rwa[XE (O D)]) (by rwa[XE (O I)]) g0 i0 hk b0 (X _ _ _) (ZrY J hv nd e0 c0) (λb o e=>G6 e) (λA outer s E hr=>a0 f n _ A outer s E hr);rw[Zml G]at calls;erw[⟨f,_,λv u=>∃c,u=lent cs c/\(∀b o,cs b=some o->c b=none)/\v=.non/\told c,λwd u=>∃c,u=lent cs c/\(∀b o,cs b=some o->c b=none)/\ref wd c,R,calls,λQ1 E1 a1 a2=>Z _ _ (λc h i=>a1 _ _ ⟨c,R,i,R,h⟩) λwd c h i=>a2 wd _ ⟨c,R,i,h⟩,?_,?_⟩];rintro v u H3 p ⟨c,rfl,i,rfl,h⟩ y M;have cp:cs p=none:=by
  cases z:cs p with
  |none=>rfl
  |some o=>have:=y p _ (G6 z);rw[M]at this;cases this
 exact Y c _ p h (ZcC i y) (by rwa[Vo cp]);rintro wd u H3 ⟨c,rfl,i,h⟩ y;exact h2 _ c _ h (ZcC i y)
def E4(h:H p=some (.tup [.str (OK "told"),.non])):DV K H (.ref p) (.tuple [.str (OK "told"),.none]):=.tup (Zp.of h) (.cons (.str _ ()) (.cons .non .nil))
abbrev QZ:Str:=(("_law_put" : Str) ++ ".<locals>.") ++ "<lambda>"
def Vw(xs:OC)(m:Nat):Str:=xs.getD (m%xs.length) Str.empty
def Zhw(N:ZD)(k:Nat)(z:Str)(m:Nat):Z3 :=
 if k=0 then .st ⟨z,1+m%7,m/7%33⟩else if k=1 then .wk ⟨Vw (N.st.map ZI.nm) m,Vw (N.st.map ZI.nm) (m/8),1+m/64%63⟩else if k=2 then .ru ⟨z,XX 2 m⟩else if k=3 then .tk ⟨z,m%10100,1+m/9%1500,[1+m/7%6]⟩else .tp ⟨z,Vw (N.ru.map Yd.nm) m,QR (N.st.map ZI.nm) (m/5) (2+m%5)⟩
def Zay{xs:OC}(h:1<=xs.length)(m:Nat):Vw xs m∈xs/\Y9 (xs.map V.str) ((m:Int)%(((xs.map V.str).length:Nat):Int))=some (.str (Vw xs m)):=by
 have c:m%xs.length<xs.length:=Oo _ h;have e:Vw xs m=xs[m%xs.length]:=by unfold Vw;rw[List.getD_eq_getElem?_getD,Ss c];rfl
 rw[e];erw[⟨Oi c,?_⟩];rw[Sv,<-SW];exact Ue (by rw[Oa,Ss c];rfl)
structure Q0(t:Z0)(n:Addr)(a:NA)(N:ZD)(x:Z3)(H:Hp)(Q:VK):Prop where
 q:x.due N=none->∀p H',Yl (t.Xg::a.l) H H'->ZK t H' n a (x.add N)->YY t.Xg QZ H'->H' p=some (.tup [.str (OK "told"),.non])->Q (.ref p) H'
 e:∀wd,x.due N=some wd->∀H',Yl (t.Xg::a.l) H H'->ZK t H' n a N->YY t.Xg QZ H'->Q (.str wd.txt) H'
inductive ZrZ(t:Z0)(vs:List V)(H:Hp)(Q:VK)(_e3:XK):Prop|mk (n:Addr) (a:NA) (N:ZD) (k m:Nat) (z:Str) (_:vs=[.ref n,.int k,.str z,.int m]) (_:ZK t H n a N) (_:NF N) (_:2<=N.st.length) (_:1<=N.ru.length) (_:Yc z) (_:k<5) (_:m<998244353) (_:YY t.Xg QZ H) (_:(∀x,x=Zhw N k z m->x.Ok2/\x.csok N->Q0 t n a N x H Q))
def ZK.tab(h:ZK t H n a N)(g:H lt=some (.tbl p))(s:Zf (wo H lt) c):ZK t c n a N :=
 ZK.keep (λb o e f=>s b o (Xe e λz=>by rw[z,g]at e;cases e;exact f)) (λb o e m=>s b o (Xe e (RK (h.kd m) g))) h
def Zr0{a:NA}(h:YY lt q H)(f:ZK t H n a N)(hd:d∈a.l)(s:Zf (wo H d) g):YY lt q g:=by
 ext⟨p,i⟩ h.at;erw[h.keep (λj e=>s _ _ (Xe e (RK (f.kd hd) i).symm)) λb e=>s _ _ (Xe e λz=>?_)];cases f.kd hd with
 |lst c=>rw[z,c]at e;exact nomatch e
 |dK c=>rw[z,c]at e;exact nomatch e
def Q0.fin{v:Hp}{n:Addr}{a:NA}{N:ZD}{x:Z3}{Q:VK}(p:Q0 t n a N x H Q)(o:Yl (t.Xg::a.l) H v)(E:YY t.Xg QZ v)(G:ZK t v n a N){I:XK->VK->Prop}
  (h:∀(i:VK) (j:XK),(∀C d,Zf v C->d∈a.l->Lx t n a d (x.due N) (x.add N) C i j)->I j i) :
  ∃(told:Hp->Prop) (ref:Wn->Hp->Prop),(∀(i:VK) (j:XK),(∀c,told c->i .non c)->(∀(wd:Wn) c,ref wd c->j (.ref (wd.cls t)) none c)->I j i)/\(∀c g p,told c->Zf c g->g p=some (.tup [.str (OK "told"),.non])->Q (.ref p) g)/\∀(wd:Wn) c g,ref wd c->Zf c g->Q (.str wd.txt) g:=by
 erw[⟨λc=>x.due N=none/\Yl (t.Xg::a.l) H c/\ZK t c n a (x.add N)/\YY t.Xg QZ c,λw c=>x.due N=some w/\Yl (t.Xg::a.l) H c/\ZK t c n a N/\YY t.Xg QZ c,λi j M L=>h i j λC d u hd=>⟨λw e c f=>L w c ⟨e,o.trans (.of (u.trans f)),G.same (u.trans f),E.same (u.trans f)⟩,λe c f J=>M c ⟨e,o.trans ((Yl.of u).trans (Yl.wout f (SB _ hd))),J,Zr0 (E.same u) (G.same u) hd f⟩⟩,λc g O ⟨e,B,D,y⟩ f S=>p.q e O g (B.trans (.of f)) (D.same f) (y.same f) S,λw c g ⟨e,B,D,y⟩ f=>p.e w e g (B.trans (.of f)) (D.same f) (y.same f)⟩]
def Zhx(c:Zs K mg t)(M:W.CodeHd base t.MI t.Xg)(S:BM mg base):Zl P w K mg base Zo 54 t.ZeD t.uL ["_law_net","_law_sort","_law_name_here","_law_more"] (ZrZ t):=by
 erw[WW.okC c.jU.F MH () λy0 A outer s H vs Q E T f h=>?_];ext⟨n,a,N,k,m,z,rfl,Z,nf,s2,r1,nz,k5,hm,e0,I⟩ h;ext⟨j,fs,e1,e2⟩ Z.ob;erw[⟨_,(Zi (ZL 4 MH.nd (WM (pv 0) c.ZG c.Qv.me (RF c) (f.mono ()) c.Qv.b .nil Zk)) (Zi (ZH (Ya Yn (pv 1) Zb) (Ze (Zt (G9 (FN:=[(OK "_law_name_here",2),(OK "_law_net",0),(OK "_law_more",3)]) (cl:=[(OK "_law_net",s.heap.objs.size+1),(OK "_law_name_here",s.heap.objs.size+2),(OK "_law_more",s.heap.objs.size+3)]) (LB c) (f.mono ()) R c.X5.m c.X5.F.kp c.X5.b (λ_=>R) ⟨R,⟨R,⟨R,trivial⟩⟩⟩ (I0 ⟨⟨R,R,_,R,R⟩,⟨R,R,_,R,R⟩,⟨R,R,_,R,R⟩,trivial⟩) (G4 (cl:=[(OK "_law_net",s.heap.objs.size+1),(OK "_law_name_here",s.heap.objs.size+2),(OK "_law_more",s.heap.objs.size+3)]) (T.symm.trans c.Na) M S R R)))) ZJ) (Zi (ZH (Ya Yn (pv 1) Zb) (Zi (ZL 5 MH.nd (ZE Yq (pv 4) (Zg ZY (Zg YO (pv 3) Zb) (ZV X0 c.Xh Xf (Zc (pv 4)))))) (Ze (Zt (G9 (FN:=[(OK "_law_other",5),(OK "_law_net",0),(OK "_law_stops",4),(OK "_law_more",3)]) (cl:=[(OK "_law_stops",s.heap.objs.size+7),(OK "_law_other",s.heap.objs.size+5),(OK "_law_net",s.heap.objs.size+1),(OK "_law_more",s.heap.objs.size+3)]) (LB c) (f.mono ()) R c.X5.m c.X5.F.kp c.X5.b (λ_=>R) ⟨R,⟨R,⟨R,⟨R,trivial⟩⟩⟩⟩ (I0 ⟨⟨R,R,_,R,R⟩,⟨R,R,_,R,R⟩,⟨R,R,_,R,R⟩,⟨R,R,_,R,R⟩,trivial⟩) (G4 (cl:=[(OK "_law_stops",s.heap.objs.size+7),(OK "_law_other",s.heap.objs.size+5),(OK "_law_net",s.heap.objs.size+1),(OK "_law_more",s.heap.objs.size+3)]) (T.symm.trans c.Na) M S R R))))) ZJ) (Zi (ZH (Ya Yn (pv 1) Zb) (Ze (Zt (G9 (FN:=[(OK "_law_name_here",2),(OK "_law_net",0),(OK "_law_more",3)]) (cl:=[(OK "_law_net",s.heap.objs.size+1),(OK "_law_name_here",s.heap.objs.size+2),(OK "_law_more",s.heap.objs.size+3)]) (LB c) (f.mono ()) R c.X5.m c.X5.F.kp c.X5.b (λ_=>R) ⟨R,⟨R,⟨R,trivial⟩⟩⟩ (I0 ⟨⟨R,R,_,R,R⟩,⟨R,R,_,R,R⟩,⟨R,R,_,R,R⟩,trivial⟩) (G4 (cl:=[(OK "_law_net",s.heap.objs.size+1),(OK "_law_name_here",s.heap.objs.size+2),(OK "_law_more",s.heap.objs.size+3)]) (T.symm.trans c.Na) M S R R)))) ZJ) (Zi (ZH (Ya Yn (pv 1) Zb) (Ze (Zt (G9 (FN:=[(OK "_law_name_here",2),(OK "_law_net",0),(OK "_law_more",3)]) (cl:=[(OK "_law_net",s.heap.objs.size+1),(OK "_law_name_here",s.heap.objs.size+2),(OK "_law_more",s.heap.objs.size+3)]) (LB c) (f.mono ()) R c.X5.m c.X5.F.kp c.X5.b (λ_=>R) ⟨R,⟨R,⟨R,trivial⟩⟩⟩ (I0 ⟨⟨R,R,_,R,R⟩,⟨R,R,_,R,R⟩,⟨R,R,_,R,R⟩,trivial⟩) (G4 (cl:=[(OK "_law_net",s.heap.objs.size+1),(OK "_law_name_here",s.heap.objs.size+2),(OK "_law_more",s.heap.objs.size+3)]) (T.symm.trans c.Na) M S R R)))) ZJ) (Zi (ZL 6 MH.nd (WM (pv 0) c.ZG c.Qw.me (RG c) (f.mono ()) c.Qw.b .nil Zk)) (Zi (ZL 7 MH.nd (Zr c.jT (ZgG c) f Zk (Ym (Zg YO (pv 3) Zb) (pv 4) (Zg Yr Zb (Zg ZY (pv 3) Zb))))) (Ze (Zt (G9 (FN:=[(OK "_law_name_here",2),(OK "_law_calls_here",7),(OK "_law_net",0),(OK "_law_rules",6),(OK "_law_more",3)]) (cl:=[(OK "_law_rules",s.heap.objs.size+6),(OK "_law_net",s.heap.objs.size+1),(OK "_law_name_here",s.heap.objs.size+2),(OK "_law_more",s.heap.objs.size+3),(OK "_law_calls_here",s.heap.objs.size+4)]) (LB c) (f.mono ()) R c.X5.m c.X5.F.kp c.X5.b (λ_=>R) ⟨R,⟨R,⟨R,⟨R,⟨R,trivial⟩⟩⟩⟩⟩ (I0 ⟨⟨R,R,_,R,R⟩,⟨R,R,_,R,R⟩,⟨R,R,_,R,R⟩,⟨R,R,_,R,R⟩,⟨R,R,_,R,R⟩,trivial⟩) (G4 (cl:=[(OK "_law_rules",s.heap.objs.size+6),(OK "_law_net",s.heap.objs.size+1),(OK "_law_name_here",s.heap.objs.size+2),(OK "_law_more",s.heap.objs.size+3),(OK "_law_calls_here",s.heap.objs.size+4)]) (T.symm.trans c.Na) M S R R))))))))))),?_⟩];sleep 8;erw[⟨_,R,n,j,_,R,e1,e2.n_stops,n,N,R,⟨a,Z⟩,λx g1=>?_⟩];exists H,x,H1,y,g1,Y;have J:=Z.same y;have U:=e0.same y;ext⟨v0,O⟩ U.at;erw[⟨_,R,R,_,R,Vl (λh=>?_) (λh0=>?_)⟩];sleep 1;obtain rfl:k=0:=by have:=V.int.inj (SS h);lia
 have P0:Q0 t n a N (.st ⟨z,1+m%7,m/7%33⟩) H Q:=I _ R ⟨trivial,trivial⟩;erw[LM (L:=[("_law_net",.ref n,0),("_law_name_here",.str z,2),("_law_more",.int m,3)]) U ⟨⟨by simp,R⟩,⟨by simp,R⟩,⟨by simp,R⟩,trivial⟩ (by simp) R ⟨R,R,R,trivial⟩ R R R () (λ_ _ _=>R) (λa0 c' i A outer s E f=>(Yz (pv 0) c.ZG c.B1.me (gR c) (f.mono ()) c.B1.b .nil G8 (Yk (pv 1) (Yk (Zg Yr Zb (Zg ZY (pv 2) Zb)) (Yk (Zg ZY (Zg YO (pv 2) Zb) Zb) YZ))))) λi s2 B=>?_];have g:=J.tab O s2;ext⟨j,fs,v,u⟩ g.ob;erw[P0.fin ((Yl.of y).trans (Yl.wout s2 SD)) B g λQe Ee ad=>⟨_,R,n,j,_,R,v,u.n_add_stop,_,R,_,R,_,_,R,R,(),_,_,R,R,_,R,_,_,R,R,⟨(),()⟩,_,_,R,R,(),n,a,N,.str z,.int ((1+m%7:Nat):Int),.int ((m/7%33:Nat):Int),_,_,?_,g,VE _ (V4 nz),.int _,.int _,ad i a.ds (Zf.refl _) (by simp[NA.l])⟩];show[V.ref n,V.str z,V.int (1+(m:Int)%7),V.int ((m:Int)/7%33)]=_;rw[show((1+m%7:Nat):Int)=1+(m:Int)%7 by lia,show((m/7%33:Nat):Int)=(m:Int)/7%33 by lia];sleep 1;have n0:k≠0:=λe=>h0 (by rw[e];exact SQ R);have lS:1<=(N.st.map ZI.nm).length:=by rw[Sv];lia
 have j0:∀{i:Hp},Zf (wo H1 t.Xg) i->i x=some (.lst ((N.st.map ZI.nm).map V.str)):=λs'=>s' _ _ (Xe Y (XZ Y O (λz=>nomatch z)));have g0:(0:Int)<((((N.st.map ZI.nm).map V.str).length:Nat):Int):=by rw[Sv];lia
 erw[⟨_,R,R,_,R,Vl (λh=>?_) (λh1=>?_)⟩];sleep 2;obtain rfl:k=1:=by have:=V.int.inj (SS h);lia
 have P1:Q0 t n a N (.wk ⟨Vw (N.st.map ZI.nm) m,Vw (N.st.map ZI.nm) (m/8),1+m/64%63⟩) H Q:=I _ R ⟨trivial,trivial⟩;erw[⟨_,R,_,R,_,_,R,R,⟨(),()⟩,_,R,x,_,R,.inl (Zd.of Y),_,_,R,R,g0,x,_,_,_,R,R,Zd.of Y,by rw[show(m:Int)/8=((m/8:Nat):Int) by lia];exact(Zay lS (m/8)).2,?_⟩];erw[LM (L:=[("_law_net",.ref n,0),("_law_stops",.ref x,4),("_law_more",.int m,3),("_law_other",.str (Vw (N.st.map ZI.nm) (m/8)),5)]) U ⟨⟨by simp,R⟩,⟨by simp,R⟩,⟨by simp,R⟩,⟨by simp,R⟩,trivial⟩ (by simp) R ⟨R,R,R,R,trivial⟩ R R R () (λ_ _ _=>R) (λa0 c' i A outer s E f=>(Yz (pv 0) c.ZG c.B2.me (gU c) (f.mono ()) c.B2.b .nil G8 (Yk (Tg (show VB _ (A0 K)from Yq) (pv 1) (Zg ZY (pv 2) (NT (show YN _ (.builtin "len") (λG H Q=>∃p C,G=[V.ref p]/\(Zd K H p C\/Zp K H p C)/\Q (V.int (C.length:Nat)) H)from X0) R c.Xh Xf (Yk (pv 1) YZ))) (λ_ _=>R)) (Yk (pv 3) (Yk (Zg Yr Zb (Zg ZY (Zg YO (pv 2) Zb) Zb)) YZ))))) λi s2 B=>?_];have g:=J.tab O s2;have c2:=j0 s2;ext⟨j,fs,v,u⟩ g.ob;erw[P1.fin ((Yl.of y).trans (Yl.wout s2 SD)) B g λQe Ee ad=>⟨_,R,n,j,_,R,v,u.n_add_walk,_,R,_,R,_,R,x,_,R,.inl (Zd.of c2),_,_,R,R,g0,x,_,_,_,R,R,Zd.of c2,(Zay lS m).2,_,R,_,R,_,_,R,R,⟨(),()⟩,_,_,R,R,(),_,_,R,R,n,a,N,.str (Vw (N.st.map ZI.nm) m),.str (Vw (N.st.map ZI.nm) (m/8)),.int ((1+m/64%63:Nat):Int),_,_,_,?_,g,nf.ok,.str _,.str _,.int _,ad i a.lw (Zf.refl _) (by simp[NA.l])⟩];show[V.ref n,V.str _,V.str _,V.int (1+(m:Int)/64%63)]=_;rw[show((1+m/64%63:Nat):Int)=1+(m:Int)/64%63 by lia];have n1:k≠1:=λe=>h1 (by rw[e];exact SQ R);erw[⟨_,R,R,_,R,Vl (λh=>?_) (λh2=>?_)⟩];sleep 1;obtain rfl:k=2:=by have:=V.int.inj (SS h);lia
 erw[LM (L:=[("_law_net",.ref n,0),("_law_name_here",.str z,2),("_law_more",.int m,3)]) U ⟨⟨by simp,R⟩,⟨by simp,R⟩,⟨by simp,R⟩,trivial⟩ (by simp) R ⟨R,R,R,trivial⟩ R R R () (λ_ _ _=>R) (λa0 c' i A outer s E f=>(Yz (pv 0) c.ZG c.Qu.me (RD c) (f.mono ()) c.Qu.b .nil G8 (Yk (pv 1) (Yk (Zr c.Xz (ZgY c 3) f Zk (Yk (Zr c.U1 (ZgX c 3) f Zk (Yk (pv 2) (Yk Zb YZ))) YZ)) YZ)))) λi s2 B=>?_];have g:=J.tab O s2;ext⟨j,fs,v,u⟩ g.ob;have P2:Q0 t n a N (.ru ⟨z,XX 2 m⟩) H Q:=I _ R ⟨ZgW m,trivial⟩;erw[P2.fin ((Yl.of y).trans (Yl.wout s2 SD)) B g λQe Ee ad=>⟨_,R,n,j,_,R,v,u.n_add_rule,_,R,_,R,m,2,R,(),(),(),λr s0 H3 er X gr wr pr T3=>?_⟩];ext⟨x0,o0⟩ B.at;have d3:r.depth<=3:=pr;erw[⟨t.Xg,s0,r,R,T3 _ (by rw[o0];exact λz=>nomatch z),gr,by have:r.weight+1<=8:=wr;lia,(),d3,λb H4 s4 k0=>?_⟩];subst er;exact⟨n,a,N,.str z,.ref b,some (XX 2 m),R,g.same (X.trans s4),VE _ (V4 nz),⟨⟨b,R,by rwa[c.kf]⟩,ZgW m⟩,ad H4 a.dr (X.trans s4) (by simp[NA.l])⟩;have n2:k≠2:=λe=>h2 (by rw[e];exact SQ R);erw[⟨_,R,R,_,R,Vl (λh=>?_) (λh3=>?_)⟩];sleep 1;obtain rfl:k=3:=by have:=V.int.inj (SS h);lia
 have P3:Q0 t n a N (.tk ⟨z,m%10100,1+m/9%1500,[1+m/7%6]⟩) H Q:=I _ R ⟨trivial,trivial⟩;erw[LM (L:=[("_law_net",.ref n,0),("_law_name_here",.str z,2),("_law_more",.int m,3)]) U ⟨⟨by simp,R⟩,⟨by simp,R⟩,⟨by simp,R⟩,trivial⟩ (by simp) R ⟨R,R,R,trivial⟩ R R R () (λ_ _ _=>R) (λa0 c' i A outer s E f=>(Yz (pv 0) c.ZG c.B3.me (gS c) (f.mono ()) c.B3.b .nil G8 (Yk (pv 1) (Yk (Zg ZY (pv 2) Zb) (Yk (Zg Yr Zb (Zg ZY (Zg YO (pv 2) Zb) Zb)) (Yk (Z4 (Yk (Zg Yr Zb (Zg ZY (Zg YO (pv 2) Zb) Zb)) YZ)) YZ)))))) λi s2 B=>?_];have g:=J.tab O s2;ext⟨j,fs,v,u⟩ g.ob;erw[P3.fin ((Yl.of y).trans (Yl.wout s2 SD)) B g λQe Ee ad=>⟨_,R,n,j,_,R,v,u.n_add_ticket,_,R,_,R,_,_,R,R,(),_,R,_,_,R,R,⟨(),()⟩,_,_,R,R,(),_,_,R,R,_,R,_,_,R,R,⟨(),()⟩,_,_,R,R,(),_,_,R,R,zL9 R,λlz gz=>?_⟩];have X:=Zx gz (.lst [.int (1+(m:Int)/7%6)]);have ad:=ad _ a.dt X (by simp[NA.l]);erw[⟨n,a,N,.str z,.int ((m%10100:Nat):Int),.int ((1+m/9%1500:Nat):Int),.ref lz,_,_,some (ZN [1+m/7%6]),?_,g.same X,VE _ (V4 nz),.int _,.int _,⟨lz,R,?_,Zht⟩,ad.e,λe H' s' l0=>ad.q e H' s' ?_⟩];show[V.ref n,V.str z,V.int ((m:Int)%10100),V.int (1+(m:Int)/9%1500),V.ref lz]=_;rw[show((m%10100:Nat):Int)=(m:Int)%10100 by lia,show((1+m/9%1500:Nat):Int)=1+(m:Int)/9%1500 by lia];rw[Zh];show _=some (HO.lst [V.int ((1+m/7%6:Nat):Int)]);rw[show((1+m/7%6:Nat):Int)=1+(m:Int)/7%6 by lia];rwa[<-Zaq];have n3:k≠3:=λe=>h3 (by rw[e];exact SQ R);obtain rfl:k=4:=by lia
 have lR:1<=(N.ru.map Yd.nm).length:=by rwa[Sv]
 have q0:(0:Int)<((((N.ru.map Yd.nm).map V.str).length:Nat):Int):=by rw[Sv];lia
 erw[⟨_,R,n,j,_,R,y _ _ e1,e2.n_rules,n,N,R,⟨a,J⟩,λl2 g2=>?_⟩];exists H1,l2,H3,k3,g2,c3;erw[⟨_,R,_,_,R,R,⟨(),()⟩,_,R,_,R,_,_,R,R,(),_,_,R,R,m/5,2+m%5,x,N.st.map ZI.nm,?_,k3 _ _ Y,nf.ok.sn,by rwa[Sv],by rw[Sv];exact nf.ok.s8,(),λcs lc us H4 m0 k4 w0 p0 al co u0=>?_⟩];show[V.int ((m:Int)/5),V.ref x,V.int (2+(m:Int)%5)]=_;rw[show((m/5:Nat):Int)=(m:Int)/5 by lia,show((2+m%5:Nat):Int)=2+(m:Int)%5 by lia];have P4:Q0 t n a N (.tp ⟨z,Vw (N.ru.map Yd.nm) m,cs⟩) H Q:=I _ (by rw[m0];rfl) ⟨⟨by show 2<=cs.length;lia,by show cs.length<=6;lia⟩,co⟩;have S4:=y.trans (k3.trans k4);have d0:=e0.same S4;ext⟨t0,c0⟩ d0.at;have f0:=k4 _ _ c3;have i0:=Z.same S4;erw[LM (L:=[("_law_net",.ref n,0),("_law_name_here",.str z,2),("_law_rules",.ref l2,6),("_law_more",.int m,3),("_law_calls_here",.ref lc,7)]) d0 ⟨⟨by simp,R⟩,⟨by simp,R⟩,⟨by simp,R⟩,⟨by simp,R⟩,⟨by simp,R⟩,trivial⟩ (by simp) R ⟨R,R,R,R,R,trivial⟩ R R R () (λ_ _ _=>R) (λa0 c' i A outer s E f=>(Yz (pv 0) c.ZG c.B4.me (gW c) (f.mono ()) c.B4.b .nil G8 (Yk (pv 1) (Yk (Tg (show VB _ (A0 K)from Yq) (pv 2) (Zg ZY (pv 3) (NT (show YN _ (.builtin "len") (λG H Q=>∃p C,G=[V.ref p]/\(Zd K H p C\/Zp K H p C)/\Q (V.int (C.length:Nat)) H)from X0) R c.Xh Xf (Yk (pv 2) YZ))) (λ_ _=>R)) (Yk (pv 4) YZ))))) λH5 s5 r0=>?_];have b0:=i0.tab c0 s5;have kl:∀{p:Addr} {G:List V},H4 p=some (.lst G)->H5 p=some (.lst G):=λe=>s5 _ _ (Xe e (XZ e c0 (λz=>nomatch z)));ext⟨j,fs,v,u⟩ b0.ob;exact P4.fin ((Yl.of S4).trans (Yl.wout s5 SD)) r0 b0 λQe Ee ad=>⟨_,R,n,j,_,R,v,u.n_add_trip,_,R,_,R,_,R,_,R,l2,_,R,.inl (Zd.of (kl f0)),_,_,R,R,q0,l2,_,_,_,R,R,Zd.of (kl f0),(Zay lR m).2,_,R,n,a,N,.str z,.str (Vw (N.ru.map Yd.nm) m),_,cs,lc,us,R,b0,VE _ (V4 nz),.str _,kl p0,al.imp λ_ _ h=>(let ⟨p,e,h⟩:=h;⟨p,e,s5 _ _ (Xe h (XZ h c0 (λz=>nomatch z)))⟩),co,(),(),ad H5 a.dp (Zf.refl _) (by simp[NA.l])⟩
theorem Zaz:∀xs:List Str,PyData.depthAll (xs.map PyData.str)=0
 |[]=>by simp[PyData.depthAll]
 |_::r=>by simp[PyData.depthAll,PyData.depth,Zaz r]
theorem Zhy:∀xs c:List PyData,PyData.depthAll (xs++c)=max (PyData.depthAll xs) (PyData.depthAll c)
 |[],c=>by simp[PyData.depthAll]
 |x::r,c=>by simp only[List.cons_append,PyData.depthAll,Zhy r c];lia
def Zr1(x:Yd):(dR x).depth<=3:=by simp[dR,Vg,Zhu,PyData.depth,PyData.depthAll,Zaz,Zas]
def RW(xs:OC):(Vg xs).depth<=1:=by simp[Vg,PyData.depth,Zaz]
def ZaA(N:ZD):(PyData.list (QX N)).depth<=60:=by
 have f:=RQ ZrS N.st;have u:=RQ ZrR N.wk;have j:=RQ ZrT N.tk;have h:=RQ ZrV N.tp;have g:=RP Zr1 N.ru;have n:=RW (N.st.map ZI.nm);have v:=RW (N.tk.map YE.nm);have c:=RW (N.tp.map Tp.nm);have i:=RW (N.ru.map Yd.nm);simp only[PyData.depth,QX,Zhy];simp only[LK,PyData.depthAll]at *;lia
inductive Zr2(t:Z0)(vs:List V)(H:Hp)(Q:VK)(_e3:XK):Prop|mk (n m:Addr) (N:ZD) (_:vs=[.ref n,.ref m]) (_:XJ t H n N) (_:XJ t H m N) (_:NF N) (_:∀H',Zf H H'->Q (.bl true) H')
def ZaB(c:Zs K mg t):Zl P w K mg base Zo 64 t.ZeE t.ZeF ["_law_net","_law_other"] (Zr2 t):=by
 erw[c.PU.F.ok ZcO () λS A outer s H M Q E f h=>?_];ext⟨n,m,N,rfl,hn,hm,nf,q⟩ h;erw[⟨_,(Zi (ZL 2 ZcO.nd (Zr c.J8 (Nv c) f Zk (Zc (pv 0)))) (Ze (Zt (Vx (XA (ZbC f.units) (Zr c.MO (RS c) f Zk (Zc (pv 0))) (Zr c.MO (RS c) f Zk (Zc (pv 1))) (XQ _)) (Vx (XA Yn (Zr c.J8 (Nv c) f Zk (Zc (pv 1))) (pv 2) (XQ _)) (Vi (XA Yn (Zr c.J8 (Nv c) f Zk (Zc (Zr c.PQ (Zao c) f Zk (Zc (pv 2))))) (pv 2) (XQ _)))))))),?_⟩];sleep 2;erw[⟨_,R,n,N,R,hn,nf.ok,nf.num,λU x=>?_⟩];erw[⟨_,R,n,N,R,hn.same x,nf.ok,λp T s2 g=>?_⟩];have i:=x.trans s2;erw[⟨_,R,m,N,R,hm.same i,nf.ok,λp3 O v j=>?_⟩];have u:=i.trans v;have g:=g.same v;erw[⟨_,_,g,j,ZaA N,_,R,ZB (by show PyData.eqv _ _=true;exact SeqAt.eqv_refl _ j.can) ?_⟩];erw[⟨_,R,m,N,R,hm.same u,nf.ok,nf.num,λL G=>⟨_,R,R,_,R,ZB (SQ R) ?_⟩⟩];have J:=u.trans G;erw[⟨_,R,N,R,nf,λy B X s5 I _=>⟨y,N,R,⟨B,I⟩,nf.ok,nf.num,λD C=>⟨_,R,R,?_⟩⟩⟩];rw[SQ R];exact q D (J.trans (s5.trans C))
abbrev Zr3:Str:=(("law" : Str) ++ ".<locals>.") ++ "<lambda>"
def RM.nf{W:ZD}(h:RM W):NF W:=by
 have nm:∀z∈W.st.map ZI.nm,Yc z:=λz u=>by obtain⟨x,f,rfl⟩:=SJ.mp u;exact(h.so x f).1
 erw[⟨⟨Sh h.s5 (),h.sn,λx f=>(h.so x f).1,Sh h.w4 (),λx f=>⟨nm _ (h.wo x f).1,nm _ (h.wo x f).2.1⟩,Sh h.r3 (),h.rn,h.ro,Sh h.t2 (),h.tn,h.to,Sh h.p3 (),h.pn,λx f=>?_⟩,λx f=>(h.so x f).2,h.wo,h.wn,λx f=>⟨(h.po x f).2.1,(h.po x f).2.2.1⟩⟩];obtain⟨i,y,p3,j,v⟩:=h.po x f;obtain⟨r,n,B⟩:=SJ.mp y;exact⟨i,by rw[<-B];exact(h.ro r n).1,j,v,λc g=>nm _ (p3.st c g)⟩
structure V5(t:Z0)(H:Hp)(n:Addr)(a:NA)(m:Addr)(b:NA)(N:ZD):Prop where
 o1:ZK t H n a N
 o2:ZK t H m b N
 ap:∀x∈a.l,x∉b.l
 tp:YY t.Xg QZ H
 tw:YY t.Qs Zr3 H
 nf:NF N
 s2:2<=N.st.length
 r1:1<=N.ru.length
def V5.same(h:V5 t H n a m b N)(s:Zf H c):V5 t c n a m b N:=⟨h.o1.same s,h.o2.same s,h.ap,h.tp.same s,h.tw.same s,h.nf,h.s2,h.r1⟩
def V5.symm(h:V5 t H n a m b N):V5 t H m b n a N:=⟨h.o2,h.o1,λx f c=>h.ap x c f,h.tp,h.tw,h.nf,h.s2,h.r1⟩
def Zhz{a:NA}(h:ZK t H n a N)(g:H lt=some (.tbl p))(e:H y=some o)(f:TIF o):y∉lt::a.l:=λm=>by
 rcases SF.mp m with rfl|m;rw[g]at e;cases e;exact f;cases h.kd m with
 |lst c=>rw[c]at e;cases e;exact f
 |dK c=>rw[c]at e;cases e;exact f
def ZK.other{a b:NA}(h:ZK t H n a N)(j:H lt=some (.tbl p))(o:Yl (lt::a.l) H v)(g:ZK t H m b i)(ap:∀x∈a.l,x∉b.l):ZK t v m b i :=
 ZK.keep (λy u e f=>o y u e (Zhz h j e f)) (λy u e c=>o y u e λz=>(SF.mp z).elim (λz=>RK (g.kd c) j z) λz=>ap y z c) g
def ZaC{a:NA}(h:YY lw q H)(f:ZK t H n a N)(j:H lt=some (.tbl p))(ne:lw≠lt)(o:Yl (lt::a.l) H g):YY lw q g:=by
 ext⟨v,i⟩ h.at;erw[h.keep (λu e=>o _ _ e λz=>(SF.mp z).elim ne λz=>RK (f.kd z) i R) λb e=>o _ _ e λz=>?_];rcases SF.mp z with rfl|z;rw[j]at e;exact nomatch e;cases f.kd z with
 |lst c=>rw[c]at e;exact nomatch e
 |dK c=>rw[c]at e;exact nomatch e
def ZaD{a:NA}(e:H l=some (.lst xs))(g:H lt=some (.tbl p))(f:l∉a.l)(o:Yl (lt::a.l) H c):c l=some (.lst xs):=o _ _ e λz=>(SF.mp z).elim (XZ e g (λz=>nomatch z)) f
def ZhA(N:ZD)(x:Z3):N.st.length<=(x.add N).st.length/\N.ru.length<=(x.add N).ru.length:=by
 cases x<;>simp only[Z3.add,Su]<;>omega
def U6.l{a:NA}(h:U6 H a):∀x∈a.l,H x=none:=λx m=>by
 simp only[NA.l,SF,List.not_mem_nil,or_false]at m;rcases m with rfl|rfl|rfl|rfl|rfl;exact h.s;exact h.w;exact h.r;exact h.t;exact h.p
def RX(wd:Wn):(PyData.str wd.txt).canLay0=true:=by cases wd<;>decide +kernel
theorem ZhB:∀xs c:List PyData,PyData.eqvAll xs c=true->xs.length=c.length
 |[],[],_=>rfl
 |[],_::_,h=>by simp[PyData.eqvAll]at h
 |_::_,[],h=>by simp[PyData.eqvAll]at h
 |x::xs,y::c,h=>by
  simp only[PyData.eqvAll,Bool.and_eq_true]at h;rw[Sy,Sy,ZhB xs c h.2]
inductive sp_law(K:Ox)(Ts:OH)(vs:List V)(H:Hp)(Q:VK)(_e3:XK):Prop|mk (a:Addr) (ns:OE) (_:vs=[.ref a]) (_:(∀T∈Ts,H T=some (.tbl #[]))) (_:Zd K H a (ns.map V.int)) (_:ns.length<=63) (_:∀H',Q (.bl true) H')
def Zr4(c:Zs K mg t)(x1:W.CodeHd base t.MI t.Xg)(c3:W.CodeHd base t.PF t.Qs)(a1:BM mg base):Zl P w K mg base Zo 100 t.ZeG t.Pu ["_law_script"] (sp_law K [t.Xg,t.Qs]):=by
 erw[WW.okC c.jV.F VD () λc4 A outer s H vs y3 h3 d3 v h=>?_];ext⟨a0,ns,rfl,b1,z0,d4,q⟩ h;have h1:=c.Zph;erw[⟨_,(Zi (ZL 1 VD.nd (Zr c.UA (U4 c) v Zk (Zv (Zr c.ZfS (ZpV c) v Zk (Zv (pv 0) Zb)) Zb))) (Zi (ZL 2 VD.nd (Zr c.ZfU (ZrN c) v Zk (Zc (Zr c.ZfT (ZrL c) v Zk (Zc (pv 1)))))) (Zi (ZL 3 VD.nd (Zr c.PQ (Zao c) v Zk (Zc (Zr c.J8 (Nv c) v Zk (Zc (pv 2)))))) (Zi (ZH (Yx (Yy (Zr c.PU (ZaB c) v Zk (Zv (pv 2) (pv 3))))) (Ze (Zt Vh)) ZJ) (Zi (WO (Zcg R c.PH (Zc (Qj Ti (pv 0) (Ud Zb) (Ud Zb)))) (V9 (n:=2) R (Xk (ZZ 4 VD.nd) (Xk (ZZ 5 VD.nd) V8))) (Zi (ZL 6 VD.nd (Zr c.UA (U4 c) v Zk (Zv (pv 5) (Zg Yr Zb (pv 4))))) (Zi (ZL 7 VD.nd (Zr c.jS (ZgF c) v Zk (Zv (pv 1) (Zg ZY (pv 6) Zb)))) (Zi (Zh7 (ZE Yq (Z4 (Zv (YX (Zv (pv 2) (pv 3))) (YX (Zv (pv 3) (pv 2))))) (Zg ZY (Zg YO (pv 6) Zb) Zb)) (V9 (n:=2) R (Xk (ZZ 8 VD.nd) (Xk (ZZ 9 VD.nd) V8)))) (Qm (ZL 10 VD.nd (Zr c.jU (Zhx c x1 a1) v Zk (Up (pv 8) (Zg ZY (Zg YO (pv 6) Zb) Zb) (pv 7) (Zg YO (pv 6) Zb)))) (Qm (ZH (Ya (ZbD v.units) (Zr c.jU (Zhx c x1 a1) v Zk (Up (pv 9) (Zg ZY (Zg YO (pv 6) Zb) Zb) (pv 7) (Zg YO (pv 6) Zb))) (pv 10)) (Ze (Zt Vh)) ZJ) (Ze (ZH (Yx (Yy (Zr c.PU (ZaB c) v Zk (Zv (pv 2) (pv 3))))) (Ze (Zt Vh)) ZJ)))))))) (Zi (ZL 11 VD.nd (Zr c.PQ (Zao c) v Zk (Zc (Zr c.J8 (Nv c) v Zk (Zc (pv 3)))))) (Zi (ZL 10 VD.nd (G9 (FN:=[(OK "_law_third",11)]) (cl:=[(OK "_law_third",s.heap.objs.size+1)]) (LB c) (v.mono ()) R c.X5.m c.X5.F.kp c.X5.b (λ_=>R) ⟨R,trivial⟩ (I0 ⟨⟨R,R,_,R,R⟩,trivial⟩) (G4 (cl:=[(OK "_law_third",s.heap.objs.size+1)]) (d3.symm.trans c.Zpe) c3 a1 R R))) (Ze (Zt (Vx (Zr c.PU (ZaB c) v Zk (Zv (pv 3) (pv 2))) (Vi (XA Yn (XA (ZbC v.units) (Zr c.MO (RS c) v Zk (Zc (pv 11))) (Zr c.MO (RS c) v Zk (Zc (pv 2))) (XQ _)) (XA (ZbD v.units) (pv 10) (YX (Zv Zq NG)) (XQ _)) (XQ _))))))))))))),?_⟩];sleep 8;erw[⟨_,R,a0,ns,0,R,z0,(),λc0=>⟨c0,0,R,(),(),?_⟩⟩];have hd:=Rx c0 0;generalize Wv c0 0=d at hd;erw[⟨_,R,d,R,hd,λwd aw W H1 s1 nw hW i0=>⟨wd,aw,W,H,R,hW,nw,i0,λn a H2 s2 r0 u3=>?_⟩⟩];have nf:=i0.nf;have S2:=s1.trans s2;erw[⟨_,R,n,W,R,⟨a,r0⟩,nf.ok,nf.num,λH3 s3=>⟨W,R,nf,λm b H4 s4 n1 u1=>?_⟩⟩];have S4:=S2.trans (s3.trans s4);have T4:V5 t H4 n a m b W:=⟨r0.same (s3.trans s4),n1,λx mx my=>LI ((r0.kd mx).same s3) (u1.l x my) R,(YY.nil (b1 _ (.head _))).same S4,(YY.nil (b1 _ (.tail _ (.head _)))).same S4,nf,i0.s2,i0.r1⟩;clear r0 u3 n1 u1 hW nw s1 s2 s3 s4 S2 nf i0;erw[⟨_,R,_,R,n,m,W,R,⟨a,T4.o1⟩,⟨b,T4.o2⟩,T4.nf,λH5 s5=>⟨_,R,Zn () ?_⟩⟩];sleep 1;have T5:=T4.same s5;have S5:=S4.trans s5;clear T4 S4 s5;erw[⟨_,R,1,R,9,R,a0,_,R,S5.seq z0,λM s0=>?_⟩];obtain⟨ms,i3,v3⟩:∃ms:List Int,VL (ns.map V.int) (some 1) (some 9)=ms.map V.int/\ms.length<=8:=by
  erw[⟨(ns.drop (HT.sIx (ns.map V.int).length 0 (some 1))).take (HT.sIx (ns.map V.int).length (ns.map V.int).length (some 9) - HT.sIx (ns.map V.int).length 0 (some 1)),by unfold VL;rw[List.map_take,List.map_drop],?_⟩];rw[Sx,show HT.sIx (ns.map V.int).length 0 (some 1)=min 1 (ns.map V.int).length from HT.sIx_nat _ _ 1,show HT.sIx (ns.map V.int).length (ns.map V.int).length (some 9)=min 9 (ns.map V.int).length from HT.sIx_nat _ _ 9];lia
 rw[i3];exists H5,M,H6,s6,s0,c6;have na:M∉a.l:=λz=>LI (T5.o1.kd z) s0 R;have nb:M∉b.l:=λz=>LI (T5.o2.kd z) s0 R;have T6:=T5.same s6;clear T5 s6 s0 z0 b1 S5;erw[⟨M,R,⟨_,Zd.of c6⟩,Zch (K:=K) (a:=M) (xs:=ms.map V.int) (λd0 σ i=>∃(N:ZD) (v4 v5 v6 v7 v8 v9 c1:Option V),V5 t i n a m b N/\i M=some (.lst (ms.map V.int))/\σ=[some (.ref a0),some (.int d),some (.ref n),some (.ref m),v4,v5,v6,v7,v8,v9,c1,none]) ⟨W,_,_,_,_,_,_,_,T6,c6,R⟩ (λd0 σ i _ h=>by ext⟨_,_,_,_,_,_,_,_,_,h,_⟩ h;exact Zd.of h) ?_ ?_⟩];rintro d0 e4 p σ H7 hv gp ⟨N,v4,v5,v6,v7,v8,v9,c1,E,c7,rfl⟩;exists H7,p,H8,s8,gp,cp;have T8:=E.same s8;have c8:=s8 _ _ c7;clear E c7 s8 gp;rw[Oa]at hv;obtain⟨k0,ec,rfl⟩:=Of.mp hv;have il:=(Sr.mp ec).1;erw[⟨p,_,R,Zp.of cp,R,_,_,R,_,_,R,R,?_⟩];sleep 4;erw[⟨_,R,_,R,_,_,R,R,k0,1+(d0:Int),R,(),(),?_⟩];have hx:=Rx k0 (1+(d0:Int));generalize Wv k0 (1+(d0:Int))=x at hx;erw[⟨_,R,_,R,_,_,R,R,(),d,x%14,?_,(),λH9 s9=>?_⟩];show[V.int (d:Int),V.int ((x:Int)%14)]=_;rw[show((x%14:Nat):Int)=(x:Int)%14 by lia];have i1:=Ng d (x%14);generalize ZU d (x%14)=z at i1;have J:=T8.same s9;have c9:=s9 _ _ c8;clear T8 c8 s9;erw[⟨_,R,_,R,zL9 R,λp1 g1=>?_⟩];generalize B:upd H9 p1 _=n0;have h0:=Z1 g1 B;have j2:=ZX B;clear B g1;erw[⟨_,R,_,R,zL9 R,λp2 g2=>?_⟩];generalize B:upd n0 p2 _=c2;have T:=Z1 g2 B;have y1:=ZX B;clear B g2;erw[⟨zL9 R,λp3 g3=>?_⟩];generalize B:upd c2 p3 _=j0;have I:=Z1 g3 B;have z2:=ZX B;clear B g3;have x0:=h0.trans (T.trans I);have u0:=J.same x0;have u2:=x0 _ _ c9;obtain⟨f,G,g,ga,pr,j3,b3,j,l3,a2,back⟩:∃(f:Addr) (G:NA) (g:Addr) (ga:NA) (pr:Addr),Y9 [V.ref p1,V.ref p2] ((x:Int)/14%2)=some (.ref pr)/\j0 pr=some (.tup [.ref f,.ref g])/\V5 t j0 f G g ga N/\M∉G.l/\M∉ga.l/\∀i X,V5 t i f G g ga X->V5 t i n a m b X:=by
  rcases(show(x:Int)/14%2=0\/(x:Int)/14%2=1 by lia)with h|h;rw[h];exact⟨n,a,m,b,p1,R,I _ _ (T _ _ j2),u0,na,nb,λ_ _ h=>h⟩;rw[h];exact⟨m,b,n,a,p2,R,I _ _ y1,u0.symm,nb,na,λ_ _ h=>h.symm⟩
 clear u0 J c9 x0 h0 T j2 y1;erw[⟨_,R,_,_,R,R,⟨(),()⟩,_,_,R,R,(),p3,_,_,_,R,R,Zd.of z2,j3,?_⟩];erw[⟨pr,_,R,Zp.of b3,R,_,_,R,_,_,R,R,?_⟩];have ea:∀u:Addr,[V.ref u,V.int ((x:Int)/28%5),V.str z,V.int ((x:Int)/140)]=[.ref u,.int ((x/28%5:Nat):Int),.str z,.int ((x/140:Nat):Int)]:=λu=>by rw[show((x/28%5:Nat):Int)=(x:Int)/28%5 by lia,show((x/140:Nat):Int)=(x:Int)/140 by lia]
 ext⟨ps,Q⟩ j.tp.at;erw[⟨λd1 i=>∃(y:Z3) (fv:V),y=Zhw N (x/28%5) z (x/140)/\y.Ok2/\y.csok N/\Yl (t.Xg::G.l) j0 i/\YY t.Xg QZ i/\((y.due N=none/\ZK t i f G (y.add N)/\∃p,fv=.ref p/\i p=some (.tup [.str (OK "told"),.non]))\/∃w,y.due N=some w/\ZK t i f G N/\fv=.str w.txt)/\d1=[some (.ref a0),some (.int d),some (.ref n),some (.ref m),some (.int (d0:Int)),some (.int k0),some (.int x),some (.str z),some (.ref f),some (.ref g),some fv,none],?_,?_⟩];sleep 1;erw[⟨_,R,_,R,_,_,R,R,⟨(),()⟩,_,_,R,R,(),_,R,_,R,_,_,R,R,⟨(),()⟩,f,G,N,x/28%5,x/140,z,ea f,j.o1,j.nf,j.s2,j.r1,i1,(),(),j.tp,λy ey oy=>⟨λdu p' i C n' t' hp=>?_,λw du i C n' t'=>?_⟩⟩];exact⟨y,_,ey,oy.1,oy.2,C,t',.inl ⟨du,n',p',R,hp⟩,R⟩;exact⟨y,_,ey,oy.1,oy.2,C,t',.inr ⟨w,du,n',R⟩,R⟩;rintro σ e2 ⟨y,fv,ey,y2,yc,j1,n2,l2,rfl⟩;sleep 1;have g0:=j.o1.other Q j1 j.o2 j.ap;have v1:=ZaC j.tw j.o1 Q h1.symm j1;have h2:=ZaD u2 Q l3 j1;ext⟨a4,b0⟩ n2.at;erw[⟨λd1 i=>∃(X:ZD) (fv:V),V5 t i n a m b X/\i M=some (.lst (ms.map V.int))/\d1=[some (.ref a0),some (.int d),some (.ref n),some (.ref m),some (.int (d0:Int)),some (.int k0),some (.int x),some (.str z),some (.ref f),some (.ref g),some fv,none],?_,?_⟩];sleep 1;erw[⟨_,R,_,R,_,_,R,R,⟨(),()⟩,_,_,R,R,(),_,R,_,R,_,_,R,R,⟨(),()⟩,g,ga,N,x/28%5,x/140,z,ea g,g0,j.nf,j.s2,j.r1,i1,(),(),n2,λy' q3 oy=>?_⟩];obtain rfl:y=y':=ey.trans q3.symm;erw[⟨λdu p' i C n' t' hp=>?_,λw du i C n' t'=>?_⟩];rcases l2 with⟨_,nF,p,rfl,d2⟩|⟨w,dw,_⟩;have y0:∀u∈ga.l,u∉G.l:=λu m1 Z=>j.ap u Z m1;have l1:=g0.other b0 C nF y0;have wF:=ZaC v1 g0 b0 h1.symm C;have r2:i p=some (.tup [.str (OK "told"),.non]):=C _ _ d2 (Zhz g0 b0 d2 trivial);erw[⟨_,R,_,_,E4 hp,E4 r2,by simp[PyData.depth,PyData.depthAll],_,R,Zn ?_ ⟨y.add N,_,back _ _ ⟨l1,n',j.ap,t',wF,j.nf.add du y2 yc,Sh j.s2 (ZhA N y).1,Sh j.r1 (ZhA N y).2⟩,ZaD h2 b0 a2 C,R⟩⟩];rw[SV R,SeqAt.eqv_refl _ (E4 (K:=K) r2).can];lia;rw[du]at dw;cases dw;rcases l2 with⟨dn,_⟩|⟨w',dw,nF,rfl⟩;rw[dn]at du;cases du;obtain rfl:w'=w:=So (dw.symm.trans du);have y0:∀u∈ga.l,u∉G.l:=λu m1 Z=>j.ap u Z m1;have l1:=g0.other b0 C nF y0;have wF:=ZaC v1 g0 b0 h1.symm C;erw[⟨_,R,_,_,.str _ (RX w'),.str _ (RX w'),by simp[PyData.depth],_,R,Zn ?_ ⟨N,_,back _ _ ⟨l1,n',j.ap,t',wF,j.nf,j.s2,j.r1⟩,ZaD h2 b0 a2 C,R⟩⟩];show ¬ ((!PyData.eqv _ _)=true);rw[SeqAt.eqv_refl _ (RX w')];lia;rintro σ w0 ⟨X,z3,q0,m3,rfl⟩;sleep 1;erw[⟨_,R,_,R,n,m,X,R,⟨a,q0.o1⟩,⟨b,q0.o2⟩,q0.nf,λb4 l0=>⟨_,R,Zn () ⟨X,_,_,_,_,_,_,_,q0.same l0,l0 _ _ m3,R⟩⟩⟩];rintro σ H7 ⟨N,v4,v5,v6,v7,v8,v9,c1,E,c7,rfl⟩;have ok:=E.nf.ok;erw[⟨_,R,m,N,R,⟨b,E.o2⟩,ok,E.nf.num,λH8 s8=>⟨N,R,E.nf,λU D H9 s9 t1 t0=>?_⟩⟩];have J:=E.same (s8.trans s9);have xa:∀x∈D.l,x∉a.l:=λx m1 Z=>LI ((E.o1.kd Z).same s8) (t0.l x m1) R;have xb:∀x∈D.l,x∉b.l:=λx m1 Z=>LI ((E.o2.kd Z).same s8) (t0.l x m1) R;clear E c7 s8 s9 t0;ext⟨ps,Q⟩ J.tw.at;erw[LM (L:=[("_law_third",.ref U,11)]) J.tw ⟨⟨.head _,R⟩,trivial⟩ (by simp) R ⟨R,trivial⟩ R R R () (λ_ _ _=>R) (λf c' H2 A outer s h3 v=>(Yz (pv 0) c.ZG c.Qu.me (RD c) (v.mono ()) c.Qu.b .nil G8 (Yk Zq (Yk (N8 c.Rk R c.B8) YZ)))) λn0 h0 w3=>?_];have o1:=J.o1.tab Q h0;have o2:=J.o2.tab Q h0;have o3:=t1.tab Q h0;have nf:=J.nf;clear J Q t1;ext⟨Y,fs,f1,f2⟩ o3.ob;have zk:(OK "zzzzzzzz").length<=100:=by lia
 generalize v0:D1 N (.str (OK "zzzzzzzz")) (some .always)=du;erw[⟨λi=>du=none/\ZK t i n a N/\ZK t i m b N/\ZK t i U D (addR N (.str (OK "zzzzzzzz")) (some .always)),λw i=>du=some w/\ZK t i n a N/\ZK t i m b N/\ZK t i U D N,λQe Ee q1 q2=>⟨_,R,U,Y,_,R,f1,f2.n_add_rule,λx Y nx nd x3=>?_⟩,?_,?_⟩];have T:=Xp nx (Xp nd (Zf.refl _) (.own x)) (.ins t.YJ Y []);have w1:ZP (rc t) t.kf _ x .always:=.always (Zh (H:=upd n0 Y (.own x)) (a:=x) (o:=.ins t.YJ Y []));generalize upd (upd n0 Y (.own x)) x (.ins t.YJ Y [])=c2 at T w1 ⊢;have p3:=o3.same T;have o1:=o1.same T;have o2:=o2.same T;erw[⟨U,D,N,.str (OK "zzzzzzzz"),.ref x,some .always,R,p3,VE _ zk,⟨⟨x,R,w1⟩,trivial,(),()⟩,λw hw i S=>q2 w i ⟨v0.symm.trans hw,o1.same S,o2.same S,p3.same S⟩,λhw i S a3=>q1 i ⟨v0.symm.trans hw,?_,?_,a3⟩⟩];exact ZK.keep (λy o e f=>S y o (Xe e λz=>by cases p3.kd (x:=D.dr) (by simp[NA.l])with|lst e'=>rw[z,e']at e;cases e;exact f|dK e'=>rw[z,e']at e;cases e;exact f)) (λy o e my=>S y o (Xe e λz=>xa D.dr (by simp[NA.l]) (z ▸ my))) o1;exact ZK.keep (λy o e f=>S y o (Xe e λz=>by cases p3.kd (x:=D.dr) (by simp[NA.l])with|lst e'=>rw[z,e']at e;cases e;exact f|dK e'=>rw[z,e']at e;cases e;exact f)) (λy o e my=>S y o (Xe e λz=>xb D.dr (by simp[NA.l]) (z ▸ my))) o2;rintro i x2 p ⟨dn,O,k2,k3⟩ f0 hp;have O:=O.same f0;have k2:=k2.same f0;have k3:=k3.same f0;have f3:NF (addR N (.str (OK "zzzzzzzz")) (some .always)):=NF.add (x:=.ru ⟨OK "zzzzzzzz",.always⟩) nf (v0.trans dn) ⟨trivial,(),()⟩ trivial;erw[⟨_,R,_,R,m,n,N,R,⟨b,k2⟩,⟨a,O⟩,nf,λj0 I=>⟨_,R,ZB R ?_⟩⟩];erw[⟨_,R,U,_,R,⟨D,k3.same I⟩,f3.ok,λw2 e2 m0 e0=>?_⟩];erw[⟨_,R,n,N,R,⟨a,O.same (I.trans m0)⟩,nf.ok,λv2 w0 p0 o0=>?_⟩];have e0:=e0.same p0;erw[⟨_,_,e0,o0,ZaA _,_,R,zL9 R,λb2 i2=>?_⟩];have l0:=Zx i2 (.tup [.str (OK "told"),.non]);erw[⟨_,_,E4 ((I.trans (m0.trans (p0.trans l0))) _ _ hp),E4 Zh,by simp[PyData.depth,PyData.depthAll],R,?_⟩];have e1:PyData.eqv (.list (QX (addR N (.str (OK "zzzzzzzz")) (some .always)))) (.list (QX N))=false:=by
  cases e:PyData.eqv (.list (QX (addR N (.str (OK "zzzzzzzz")) (some .always)))) (.list (QX N))with
  |false=>rfl
  |true =>
   simp only[PyData.eqv]at e;have:=ZhB _ _ e;simp only[QX,LK,addR,Su,Sv,Sy,List.length_nil]at this;lia
 rw[SU (),SV R,e1,SeqAt.eqv_refl _ (E4 (K:=K) (Zh (H:=w0) (a:=b2))).can];exact q _;rintro w i x2 ⟨dn,O,k2,k3⟩ f0;have O:=O.same f0;have k2:=k2.same f0;have k3:=k3.same f0;erw[⟨_,R,_,R,m,n,N,R,⟨b,k2⟩,⟨a,O⟩,nf,λj0 I=>⟨_,R,ZB R ?_⟩⟩];erw[⟨_,R,U,_,R,⟨D,k3.same I⟩,nf.ok,λw2 e2 m0 e0=>?_⟩];erw[⟨_,R,n,N,R,⟨a,O.same (I.trans m0)⟩,nf.ok,λv2 w0 p0 o0=>?_⟩];have e0:=e0.same p0;erw[⟨_,_,e0,o0,ZaA _,_,R,zL9 R,λb2 i2=>?_⟩];erw[⟨_,_,.str _ (RX w),E4 Zh,by simp[PyData.depth],R,?_⟩];rw[SU (),SV R,SeqAt.eqv_refl _ o0.can,show PyData.eqv (.str w.txt) (.tuple [.str (OK "told"),.none])=false by simp[PyData.eqv]];exact q _
end
def all_mk{c d:Addr}{e:Value}{f:Option Addr}{g:Array Value}{h:Array (Option Value)}(_:K.lookup c=some ⟨e,f,.fields g,h⟩)(_:(g[11]?:Option Value)=some (.ref d))(i:W.codeHdIn K c d=true):W.codeHdIn K c d=true:=i
end K09
local macro_rules|`(command|#where)=>do
 let n:=`PySem.Challenge
 let f(k:String)(i:Nat):=Lean.mkIdent (.str `PySem.W.Fast s!"tw{((n.str "cw_roadbook_k09_whole_texts_read_back_holds").str s!"{k}{i}").hash}")
 let x:=(Array.range 1321).map (f "o_")++#[39,1281].map (f "heap_")++#[49,229,266,318,361,429,488,529,579,622,672,722,772,800,1050,1134,1215].map (f "sts_")++#[63,78,93,108,123,138,153,168,183,198,213,228,250,265,287,302,317,360,428,487,528,578,621,671,721,771,799,965,1046,1133,1214,1280].map (f "tree_")++#[39].map (f "view_")
 return Lean.mkNullNode (←x.mapM λi=>`(theorem $i:ident:True:=trivial))
#where
def PySem.W.Fast.tw4157999894203444591:=0
open PySem PySem.W PyProof.Rows
local macro_rules|`(tactic|rfl')=>`(tactic|first|exact L2.on0 λ_ _ _ _ _ _=>rfl|exact L2.ZW λ_ _ _ _ _ _ _=>rfl|exact L2.YT λ_ _ _ _ _ _ _ _=>rfl|exact L2.UZ λ_ _ _ _ _ _ _ _ _=>rfl|exact L2.I3 λ_ _ _ _ _ _ _ _ _ _=>rfl|exact L2.on5 λ_ _ _ _ _ _ _ _ _ _ _=>rfl)
set_option maxRecDepth 100000 in
set_option maxHeartbeats 0 in
theorem PySem.Challenge.cw_roadbook_k09_whole_texts_read_back_holds : PySem.Challenge.rw_roadbook_k09_whole_texts_read_back.Holds := by
 w_on;o_law;k_head;(case hw=>w_witness2)
 k_fill
 refine L2.ZlC (l:=PySem.Challenge.rw_roadbook_k09_whole_texts_read_back) (n:=63) (k:=100) (x := "_law_script") (CX:=L2.Zo) (sp:=K09.sp_law) rfl (by lia) rfl ⟨rfl,by lia,by lia,rfl⟩ (fun w h Y=>⟨PySem.W.km_in_of Y,PySem.W.km_tabs_of Y⟩) ?F (fun _ _ _ a ns hl hT hS=>⟨a,ns,rfl,hT,hS,hl,fun _=>rfl⟩) fun _ _ _ _ z=>z
 case F =>
  intro Fw eu w mg fa h KX G hmg
  have T:∃t,K09.Zs (L2.KOf KX) mg t/\t.Xg∈Fw/\t.Qs∈Fw:=by
   dsimp only[L2.KOf]
   apply Exists.intro
   case' w=>constructor
   case h=>
    refine ⟨?T,?m0,?m1⟩
    case T=>
     constructor;all_goals try dsimp only
     iterate 26 focus refine' W.mg_of KX G ?_;k_is
     iterate 17 focus refine' W.mg_none_of KX G ?_;k_is
     iterate 25 focus apply Exists.intro;case h=>refine' W.mg_of KX G ?_;k_is
     iterate 53 focus refine' L2.Yb KX G ⟨?aa,L2.Zbl ?bb ?cc ?dd⟩ (by rfl');case aa|bb|cc|dd=>k_is
     iterate 55 focus refine' L2.Z8 ⟨⟨?aa,?bb,?cc⟩,L2.Zbl ?dd ?ee ?ff⟩ (by rfl');case aa|bb|cc|dd|ee|ff=>k_is
     iterate 7 focus constructor<;>k_is
     (focus show W.findIn _ _ _=_;k_is)
     iterate 4 focus constructor<;>k_is
     iterate 3 focus show W.findIn _ _ _=_;k_is
     iterate 5 focus constructor<;>k_is
     iterate 3 ((focus show W.findIn _ _ _=_;k_is);(focus show W.findIn _ _ _=_;k_is);(focus constructor<;>k_is);(focus constructor<;>k_is);(focus constructor<;>k_is);(focus constructor<;>k_is))
     iterate 2 focus show W.findIn _ _ _=_;k_is
     iterate 2 focus constructor<;>k_is
     iterate 5 focus show W.findIn _ _ _=_;k_is
     iterate 7 ((focus constructor<;>k_is);(focus kit_is))
     iterate 6 focus kit_is
     iterate 9 ((focus refine' ⟨?_⟩;k_exc);(focus refine' L2.Qo ?aa ?bb ?cc ?dd ?ee ?ff ?gg ?hh;(case aa|bb|cc|dd|ee|ff|gg|hh=>k_is));(focus (iterate 17 (refine' L2.Zm ?_ ?_;(focus kit_is)));exact L2.Qp);(focus kit_is);(focus kts_exm))
     (focus refine' ⟨?_⟩;k_exc)
     iterate 2 ((focus exact rfl);(focus refine' K09.all_mk ?aa ?bb ?cc;(case aa=>k_is);(case bb=>exact rfl);(case cc=>first|kernel_rfl|k_is|exact rfl|decide +kernel));(focus first|k_is|exact rfl|decide +kernel))
     (focus decide)
     try exact rfl
    case m0=>dsimp only;rw[eu];lia
    case m1=>dsimp only;rw[eu];lia
  obtain⟨t,T,m_law_put,m_law⟩:=T
  have e0:=hmg.symm.trans T.jV.m
  cases e0
  refine' ⟨[(t.MI,t.Xg),(t.PF,t.Qs)],L2.MB ⟨⟨⟨T.Zpc,m_law_put⟩,T.Zpd⟩,⟨⟨T.Zpf,m_law⟩,T.Zpg⟩,trivial⟩,t.Pu,?b,fun base kb nb hC hB=>K09.Zr4 T (hC _ (.head _)) (hC _ (.tail _ (.head _))) hB⟩
  obtain⟨oc,od,kV,doc,pm,an,cdv,ct,osl,e,_,_⟩:=T.jV.F.ex
  rw[e]
  exact fun s Fw=>.of_eq rfl
