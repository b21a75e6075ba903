import PyProof.Rows.All
import Lean
import PyProof.EqAt
import PyProof.EqKinds
import PyProof.TupleCall
import KE.KIntText
import PyProof.CompFree
import PyProof.P3Eq
import PyProof.NeData
import PyProof.StrLawsTight
import PyProof.StrLawsReplace
import PyProof.StrCalls2
import KE.IntTextLaws
import KE.KMinBuiltin
import PyProof.WalkInts
import PyProof.Rows.CallKwBuiltin
import PyProof.Rows.CallKw2
import PyProof.SetScanFacts
import PyProof.SetKind
import PyProof.DictStraight
import PyProof.Rows.SetFrom
import PyProof.DictIter
import PyProof.Walks
import PyProof.FactsAll.set_1
import PyProof.Rows.TupIn
import PyProof.CollectWalk
import PyProof.FactsAll.set_2
import PyProof.Rows.SortWalk
import PyProof.MeetsStr
import PyProof.StrLaws
import PyProof.StrBlockL
import PyProof.ListRange
import PyProof.ZipIter
import PyProof.EnumMake
import PyProof.Rows.EnumRows
import PyProof.Rows.FactsT2
import PyProof.DictWalks
import PyProof.Conv_int_bool
import KE.KRevSl
import KE.KDictList
import KE.KLam
import KE.KMinKey
import PyProof.Rows.SortShellK
import PyProof.StrWalks
import KE.KSortTup
import PyProof.DictItems
import KE.KPairComp
import PyProof.ReprRoads
import PyProof.Rows.RegFStrParts
import KE.KFromBytes
import KE.KTryOn
import KE.KRevIter
import KE.KNestM
import KE.KDictOf
import KE.RegKIsAll
import KE.RegKTryMore
import PySem.Challenge.RW_roadbook_k28_notices_stand
noncomputable section
local macro_rules|`(tactic| lia) => `(tactic| first|decide +kernel|(intros; contradiction)|lia -verbose|omega|(intro _ _ _ _ h; cases h; subst_vars; rfl))
local macro_rules|`(tactic|erw[$t:term])=>`(tactic|refine $t)
local macro_rules|`(tactic|ext $p:rcasesPat $h:ident)=>`(tactic|obtain $p:rcasesPat:=$h)
local macro_rules | `(()) => `(by lia)
theorem L2.zL9{n:Nat}(h:Nat.ble n 99=true):n<=PySem.sizeLine:=Nat.le_trans (Nat.le_of_ble_eq_true h) (by decide)
set_option maxRecDepth 100000
set_option maxHeartbeats 4000000
set_option bootstrap.genMatcherCode false
set_option Elab.async false
set_option linter.all false
namespace L2
open PySem PySem.Spec PyProof.Rows
def Sa:=@wpAny_bind
def Sb:=@wpAny_pure
def Sc:=@Heap.get?_push_of_some
def Se:=@Heap.get?_push_size
def Sf:=@Heap.lt_size
def Sg:=@Nat.ne_of_lt
def Sh:=@Nat.le_refl
def Si:=@Nat.le_trans
def Sj:=@Nat.lt_of_lt_of_le
def Sk:=@Nat.lt_of_le_of_lt
def Sl:=@Nat.zero_le
def Sm:=@Nat.lt_irrefl
def Sn:=@Nat.lt_succ_self
def So:=@Nat.lt_succ_of_lt
def Sr:=@Option.some.inj
def Su:=@List.getElem?_eq_some_iff
def Sv:=@List.getElem?_eq_getElem
def Sw:=@List.length_append
def Sx:=@List.length_map
def Sy:=@List.length_singleton
def Sz:=@List.length_take
def SA:=@List.length_cons
def SC:=@List.length_replicate
def SD:=@List.length_drop
def SE:=@List.mem_cons_of_mem
def SF:=@List.mem_cons_self
def SG:=@List.mem_singleton
def SH:=@List.mem_cons
def SI:=@List.mem_append
def SJ:=@List.mem_append_right
def SK:=@List.mem_append_left
def SL:=@List.mem_map
def SM:=@List.mem_of_getElem?
def SN:=@List.map_append
def SO:=@List.map_cons
def SQ:=@List.size_toArray
def SR:=@Bool.false_ne_true
def SS:=@decide_eq_true
def SU:=@decide_eq_false
def SV:=@of_decide_eq_true
def SW:=@of_decide_eq_false
def SX:=@if_neg
def SY:=@if_pos
def SZ:=@Int.natCast_emod
def S0:=@Int.natCast_ediv
def Oa:=@List.take_of_length_le
def Ob:=@List.take_add_one
def Oc:=@List.getElem?_map
def Od:=@List.getElem?_append_right
def Oe:=@List.append_nil
def Of:=@List.append_assoc
def Og:=@List.map_map
def Oh:=@Option.map_eq_some_iff
def Oi:=@Nat.not_lt
def Oj:=@Bool.eq_false_iff
def Ol:=@List.getElem_mem
def Om:=@List.range_succ
def On:=@List.nodup_cons
def Oo:=@Nat.le_add_left
def Op:=@Nat.le_add_right
def Oq:=@Nat.mod_lt
def Ot:=@wpAny_load
def Ou:=@wpAny_mono
def Ov:=@absurd
def Ow:=@Bool.true_and
abbrev Ox:=Value->Shared->Prop
abbrev Oy:=List (Addr×Obj)
abbrev Oz:=Str->Option Value
abbrev OA:=W.Frag
abbrev OB:=List (Str×Addr)
abbrev OC:=Array (Option Value)
abbrev OD:=Unit->Shared->Prop
abbrev OE:=List Value
abbrev OF:=List Str
abbrev OG:=List Expr
abbrev OH:=List Int
abbrev OI:=Option Addr
abbrev OJ:=List Nat
abbrev OK:=List Addr
abbrev OL:=SetTable
abbrev OM:=FuncData
abbrev ON:=Str.ofString
def R{α:Sort u}{a:α}:a=a:=rfl
abbrev Zn:=Sum Int Str
def Q3:Zn->Value->Bool
 |.inl k,v=>Value.isInt k v
 |.inr x,v=>Value.isStrOf x v
def Zc0(w:World):Zn->Int
 |.inl k=>hashInt k
 |.inr x=>hashStr w x
theorem UC:∀{k:Zn} {v:Value},Q3 k v=true->(∃i t,k=Sum.inl i/\v=Value.int i t)\/(∃x t,k=Sum.inr x/\v=Value.str x t)
 |.inl i,v,h=>by
  obtain⟨t,e⟩:=Value.isInt_shape (k:=i) (v:=v) h;exact .inl ⟨i,t,R,e⟩
 |.inr x,v,h=>by
  obtain⟨t,e⟩:=Value.isStrOf_shape (x:=x) (v:=v) h;exact .inr ⟨x,t,R,e⟩
def Zc1(i:Int)(t:Tok):Q3 (.inl i) (.int i t)=true:=by simp[Q3,Value.isInt]
def Zc2(x:Str)(t:Tok):Q3 (.inr x) (.str x t)=true:=by simp[Q3,Value.isStrOf]
def Zc3(a b:Int):decide ((Sum.inl a:Zn)=Sum.inl b)=(a==b):=by
 by_cases e:a=b;subst e;simp;have h:¬ (Sum.inl a:Zn)=Sum.inl b:=λq=>e (Sum.inl.inj q);rw[SU h];exact(beq_eq_false_iff_ne.mpr e).symm
def Zc4(a b:Str):decide ((Sum.inr a:Zn)=Sum.inr b)=decide (a=b):=by
 by_cases e:a=b;subst e;simp;have h:¬ (Sum.inr a:Zn)=Sum.inr b:=λq=>e (Sum.inr.inj q);rw[SU h,SU e]
def Zc5(a:Int)(b:Str):decide ((Sum.inl a:Zn)=Sum.inr b)=false:=SU (λq=>nomatch q)
def Zc6(a:Str)(b:Int):decide ((Sum.inr a:Zn)=Sum.inl b)=false:=SU (λq=>nomatch q)
def Xp(prog:Program)(w:World):PySem.KeyKind prog w Zn where
 is:=Q3
 hash:=Zc0 w
 inj:=λv a b ha q=>by
  rcases UC ha with⟨i,t,rfl,rfl⟩|⟨x,t,rfl,rfl⟩;rcases UC q with⟨j,u,rfl,e⟩|⟨y,u,rfl,e⟩;injection e with c _;rw[c];exact nomatch e;rcases UC q with⟨j,u,rfl,e⟩|⟨y,u,rfl,e⟩;exact nomatch e;injection e with c _;rw[c]
 byValue:=λk v h=>by
  rcases UC h with⟨i,t,rfl,rfl⟩|⟨x,t,rfl,rfl⟩<;>rfl
 pyHash:=λf h=>by
  rcases UC f with⟨i,t,rfl,rfl⟩|⟨x,t,rfl,rfl⟩;exact wpAny_pyHash_int h;exact wpAny_pyHash_str h
 eqBool:=λB f h=>by
  rcases UC B with⟨i,t,rfl,rfl⟩|⟨x,t,rfl,rfl⟩;rcases UC f with⟨j,u,rfl,rfl⟩|⟨y,u,rfl,rfl⟩;rw[Zc3]at h;exact wpAny_eqBool_int h;rw[Zc5]at h;exact SeqAt.EqAt.int_str i t y u _ _ _ _ h;rcases UC f with⟨j,u,rfl,rfl⟩|⟨y,u,rfl,rfl⟩;rw[Zc6]at h;exact SeqAt.EqAt.str_int x t j u _ _ _ _ h;rw[Zc4]at h;exact wpAny_eqBool_str h
 «strs»:=λk x t v h=>by
  rcases UC h with⟨i,u,rfl,e⟩|⟨y,u,rfl,e⟩;exact nomatch e;injection e with c _;subst c;cases v<;>rfl
def Zc7(prog:Program)(w:World)(i:Int)(t:Tok):(Xp prog w).is (.inl i) (.int i t)=true:=Zc1 i t
def Zc8(prog:Program)(w:World)(x:Str)(t:Tok):(Xp prog w).is (.inr x) (.str x t)=true:=Zc2 x t
inductive V where
 |non|bl (b:Bool)|int (i:Int)|str (x:Str)|byt (b:Array UInt8)|flt (b:UInt64)|ref (a:Addr)|ty (n:String)
 deriving DecidableEq
def ZG:V->Value->Prop
 |.non,u=>u=Value.none
 |.bl b,u=>u=Value.bool b
 |.int i,u=>∃t,u=Value.int i t
 |.str x,u=>∃t,u=Value.str x t
 |.byt b,u=>∃t,u=Value.bytes b t
 |.flt b,u=>∃t,u=Value.float b t
 |.ref a,u=>u=Value.ref a
 |.ty n,u=>u=Value.type n
abbrev ZB:List V->List Value->Prop:=Paired ZG
def ZB.length{xs:List V}{us:OE}(r:ZB xs us):xs.length=us.length:=Paired.length r
theorem ZB.get:∀{xs:List V} {us:OE} {i:Nat} {x:V},ZB xs us->xs[i]? = some x->∃u,us[i]? = some u/\ZG x u
 |_,_,_,_,.nil,e=>by simp at e
 |_,_,0,_,.cons r _,e=>by simp at e;subst e;exact⟨_,R,r⟩
 |_,_,i+1,x,.cons _ t,e=>by
  obtain⟨u,h1,c⟩:=ZB.get (i:=i) (x:=x) t (by simpa using e);exact⟨u,by simpa using h1,c⟩
theorem ZB.append:∀{xs ys:List V} {us ws:OE},ZB xs us->ZB ys ws->ZB (xs++ys) (us++ws)
 |_,_,_,_,.nil,s=>s
 |_,_,_,_,.cons r t,s=>.cons r (ZB.append t s)
theorem ZB.take:∀{xs:List V} {us:OE} (n:Nat),ZB xs us->ZB (xs.take n) (us.take n)
 |_,_,0,_=>.nil
 |_,_,_+1,.nil=>.nil
 |_,_,n+1,.cons r t=>.cons r (ZB.take n t)
theorem ZB.drop:∀{xs:List V} {us:OE} (n:Nat),ZB xs us->ZB (xs.drop n) (us.drop n)
 |_,_,0,r=>r
 |_,_,_+1,.nil=>.nil
 |_,_,n+1,.cons _ t=>ZB.drop n t
def XD:Option V->Option Value->Prop
 |some v,some u=>ZG v u
 |none,none=>True
 |_,_=>False
def KV{κ:Type}:List (κ×V)->List (κ×Value)->Prop:=Paired λ(p:κ×V) (q:κ×Value)=>p.1=q.1/\ZG p.2 q.2
def kV:Zn->V
 |.inl i=>.int i
 |.inr x=>.str x
inductive HO where
  |lst (xs:List V)
  |tup (xs:List V)
  |dK (kvs:List (Zn×V))|dT (kvs:List (List Zn×V))
  |set (S:Int->Bool) (n:Nat)
  |ins (C dx:Addr) (fs:List (Str×V))
  |own (x:Addr)
  |xd (fs:List (Str×V))
  |met (f x:Addr)
  |rng (lo hi:Int)
  |frz (o:Obj) (u:HO)
  |tbl (ps:Array Value)
  |ext (φ:Heap->Prop)
abbrev Hp:=Addr->Option HO
def Za(H:Hp)(a:Addr)(o:HO):Hp:=λb=>if b=a then some o else H b
def Zj{H:Hp}{a:Addr}{o:HO}:Za H a o a=some o:=by unfold Za;rw[SY R]
def Ze(h:b≠a):Za H a o b=H b:=by unfold Za;rw[SX h]
def Z5{H:Hp}{a b:Addr}{o u:HO}(h:H a=some o)(h':H b=some u)(d:o≠u):a≠b:=by
 intro e;subst e;rw[h]at h';exact d (Sr h')
def Zu{H:Hp}{a b:Addr}{o:HO}(h:H a=some o)(h':H b=none):a≠b:=by
 intro e;subst e;rw[h]at h';cases h'
section
variable(P:Program)(w:World)
def Ym(H:Hp)(h:Heap)(a:Addr):HO->Prop
 |.lst xs=>xs.length<=sizeLine/\∃(its:OE) (n:Nat),ZB xs its/\h.get? a=some {cls:=.type "list",data:=.seq its.toArray n}
 |.tup xs=>xs.length<=sizeLine/\∃its:List Value,ZB xs its/\IsTup h a its.toArray
 |.dK e=>e.length<=sizeLine/\(a==sysModules)=false/\∃y,KV e y/\h.DictOf (Xp P w) a y
 |.dT e=>e.length<=sizeLine/\(a==sysModules)=false/\∃xs:List (List Zn×Addr×Value),
   Paired (λ(p:List Zn×V) (q:List Zn×Addr×Value)=>p.1=q.1/\H q.2.1=some (.tup (p.1.map kV))/\ZG p.2 q.2.2) e xs /\
   ∃o D I,h.get? a=some o/\o.ExactDict/\o.data=.dict D I/\D.toList=xs.map (entryOfKey (tupleKind (Xp P w)))/\(xs.map (·.1)).Nodup
 |.set S n=>h.SetOf (intKind P w) a S n
 |.ins C i fs=>H i=some (.own a)/\fs.length<=1000/\i≠a/\h.get? a=some (W.instObj C i) /\
   ∃c,h.Ns1 i c/\(∀f,XD (fs.lookup f) (c f))/\PySem.Within c (fs.map (·.1))
 |.own _=>∃o,h.get? a=some o
 |.xd fs=>∃c,h.Ns1 a c/\∀f,XD (fs.lookup f) (c f)
 |.rng lo G=>∃t u v,h.get? a=some {cls:=.type "range",data:=.fields #[.int lo t,.int G u,.int 1 v]}
 |.frz o u=>h.get? a=some o/\Ym H h a u
 |.tbl J=>h.get? a=some {cls:=.none,data:=.fields J}
 |.met f x=>h.get? a=some (W.methodObj (.ref f) (.ref x))
 |.ext j=>j h/\(∃o,h.get? a=some o)/\∀E B:Heap,j E->(∀o,E.get? a=some o->B.get? a=some o)->j B
def Yo(H:Hp)(h:Heap):Prop:=∀a o,H a=some o->Ym P w H h a o
end
section
variable{P:Program}{w:World}{H H':Hp}{h h':Heap}{a:Addr}{o:HO}
def Ym.lt(x:Ym P w H h a o):a<h.objs.size:=by
 cases o with
 |lst i=>ext⟨_,_,_,_,e⟩ x;exact Sf e
 |tup i=>ext⟨_,_,_,p⟩ x;exact p.lt
 |dK c=>ext⟨_,_,_,_,o,_,_,e,_⟩ x;exact Sf e
 |dT c=>ext⟨_,_,_,_,o,_,_,e,_⟩ x;exact Sf e
 |set S n=>ext⟨o,_,_,_,e,_⟩ x;exact Sf e
 |ins C q fs=>ext⟨_,_,_,e,_⟩ x;exact Sf e
 |own y=>ext⟨_,e⟩ x;exact Sf e
 |xd fs=>ext⟨_,⟨_,_,_,e,_⟩,_⟩ x;exact Sf e
 |rng lo j=>ext⟨_,_,_,e⟩ x;exact Sf e
 |frz ob u=>ext⟨e,_⟩ x;exact Sf e
 |tbl B=>exact Sf (show h.get? a=some _ from x)
 |met f y=>exact Sf (show h.get? a=some _ from x)
 |ext v=>ext⟨_,⟨_,e⟩,_⟩ x;exact Sf e
theorem Paired.mapP{i e:Type}{F G:i->e->Prop}:∀{c:List i} {l₂:List e},Paired F c l₂->(∀a b,F a b->G a b)->Paired G c l₂
 |_,_,.nil,_=>.nil
 |_,_,.cons r t,f=>.cons (f _ _ r) (Paired.mapP t f)
def Ym.stay(x:Ym P w H h a o)(k:∀b u,(b=a\/H b=some (.own a))->h.get? b=some u->h'.get? b=some u)
  (I:∀b,H b=some (.own a)->H' b=some (.own a)) (O:∀b xs,H b=some (.tup xs)->H' b=some (.tup xs)):Ym P w H' h' a o:=by
 induction o with
 |lst xs=>ext⟨z,its,n,r,e⟩ x;exact⟨z,its,n,r,k _ _ (.inl R) e⟩
 |tup xs=>ext⟨z,its,r,ob,e,c⟩ x;exact⟨z,its,r,ob,k _ _ (.inl R) e,c⟩
 |dK L=>ext⟨z,y,J,r,ob,i,j,e,c⟩ x;exact⟨z,y,J,r,ob,i,j,k _ _ (.inl R) e,c⟩
 |dT L =>
  ext⟨z,y,xs,r,ob,i,j,e,c⟩ x;exact⟨z,y,xs,Paired.mapP r λp q z=>⟨z.1,O _ _ z.2.1,z.2.2⟩,ob,i,j,k _ _ (.inl R) e,c⟩
 |set S n=>ext⟨ob,i,j,t,e,c⟩ x;exact⟨ob,i,j,t,k _ _ (.inl R) e,c⟩
 |ins C U fs =>
  ext⟨d,z,ne,e,D,⟨B,i,j,G,c⟩,r⟩ x;exact⟨I _ d,z,ne,k _ _ (.inl R) e,D,⟨B,i,j,k _ _ (.inr d) G,c⟩,r⟩
 |own y=>ext⟨ob,e⟩ x;exact⟨ob,k _ _ (.inl R) e⟩
 |xd fs=>ext⟨D,⟨B,i,j,e,c⟩,r⟩ x;exact⟨D,⟨B,i,j,k _ _ (.inl R) e,c⟩,r⟩
 |rng lo T=>ext⟨t,u,v,e⟩ x;exact⟨t,u,v,k _ _ (.inl R) e⟩
 |frz ob u M=>ext⟨e,q⟩ x;exact⟨k _ _ (.inl R) e,M q⟩
 |tbl E =>
  have e:h.get? a=some {cls:=.none,data:=.fields E}:=x;show h'.get? a=some {cls:=.none,data:=.fields E};exact k a _ (.inl R) e
 |met f y =>
  have e:h.get? a=some (W.methodObj (.ref f) (.ref y)):=x;show h'.get? a=some (W.methodObj (.ref f) (.ref y));exact k a _ (.inl R) e
 |ext Q=>ext⟨p,⟨o,e⟩,st⟩ x;exact⟨st _ _ p λo q=>k _ _ (.inl R) q,⟨o,k _ _ (.inl R) e⟩,st⟩
def Yo.lt(x:Yo P w H h)(e:H a=some o):a<h.objs.size:=(x a o e).lt
def Yo.fresh(x:Yo P w H h)(e:h.objs.size<=a):H a=none:=by
 cases q:H a with
 |none=>rfl
 |some u=>exact Ov (Sj (x.lt q) e) (Sm _)
def Yo.kept(x:Yo P w H h)(k:∀b u,h.get? b=some u->h'.get? b=some u):Yo P w H h':=λa o e =>
 (x a o e).stay (λb u _ q=>k b u q) (λ_ q=>q) λ_ _ q=>q
def Yo.laid(x:Yo P w H h)(k:∀b u,h.get? b=some u->h'.get? b=some u)(i:h.objs.size<=a)(new:Ym P w (Za H a o) h' a o):Yo P w (Za H a o) h':=λb u e=>by
 have hn:=x.fresh i;by_cases f:b=a;subst f;rw[Zj]at e;cases e;exact new;rw[Ze f]at e;exact(x b u e).stay (λc v _ q=>k c v q) (λc q=>by rwa[Ze (Zu q hn)]) λc j q=>by rwa[Ze (Zu q hn)]
end
def Rd(H:Hp)(a:Addr)(u:HO):Prop:=H a=some u\/∃o,H a=some (.frz o u)
def Rd.ok(r:Rd H a u)(x:Yo P w H h):Ym P w H h a u:=by
 rcases r with r|⟨o,r⟩;exact x a u r;obtain⟨_,q⟩:=x a _ r;exact q
def D8:Option HO->Prop
 |some (.lst _)=>True
 |some (.dK _)=>True
 |some (.dT _)=>True
 |some (.set _ _)=>True
 |some (.ins _ _ _)=>True
 |some (.ext _)=>True
 |_=>False
section
variable{P:Program}{w:World}{H:Hp}{h h':Heap}{x e:Addr}{o':HO}
def Yo.write(ok:Yo P w H h)(B:D8 (H x))(E:e=x\/H e=some (.own x))(k:∀b u,b≠e->h.get? b=some u->h'.get? b=some u)(L:∃u,h'.get? e=some u)
  (new:Ym P w (Za H x o') h' x o'):Yo P w (Za H x o') h':=λb u q=>by
 have D:∀c y,H c=some (.own y)->c≠x:=λc y r z=>by subst z;rw[r]at B;exact B
 have J:∀c C,H c=some (.tup C)->c≠x:=λc C r z=>by subst z;rw[r]at B;exact B
 by_cases i:b=x;subst i;rw[Zj]at q;cases q;exact new;rw[Ze i]at q;by_cases j:b=e;have G:H b=some (.own x):=by
  rcases E with z|z;exact Ov (j.trans z) i;rwa[j]
 rw[q]at G;cases G;ext⟨v,I⟩ L;exact⟨v,by rwa[j]⟩;refine(ok b u q).stay (λc v f r=>k c v ?_ r) (λc r=>by rwa[Ze (D c b r)]) λc C r=>by rwa[Ze (J c C r)]
 rcases f with rfl|f;exact j;rintro rfl;rcases E with z|z;exact D c b f z;rw[f]at z;cases z;exact i R
end
structure Un(fs ex:OK)(H H':Hp)(h h':Heap):Prop where
 keep:∀b o,h.get? b=some o->H b=none->b∉fs->b∉ex->h'.get? b=some o
 slot:∀b o,h.get? b=some o->H b=none->b∈fs->b∉ex->∃sl,h'.get? b=some {o with slots:=sl}
 free:∀b o,h.get? b=some o->H b=none->b∉ex->H' b=none
 there:∀b o,h.get? b=some o->b∉ex->∃o',h'.get? b=some o'
 tups:∀b xs,H b=some (.tup xs)->H' b=some (.tup xs)
 frzs:∀b o u,H b=some (.frz o u)->H' b=some (.frz o u)
 tbls:∀b ps,H b=some (.tbl ps)->∃more,H' b=some (.tbl (ps++more))
section
variable{fs fs' ex ex':OK}{H H1 H2:Hp}{h h1 h2 h':Heap}{a x e:Addr}{o:HO}
def Un.any(u:Un fs ex H H1 h h1)(q:h.get? b=some ob)(n:H b=none)(f:b∉ex):∃i,h1.get? b=some {ob with slots:=i}:=by
 by_cases c:b∈fs;exact u.slot b ob q n c f;exact⟨ob.slots,u.keep b ob q n c f⟩
def Un.kept(k:∀b u,h.get? b=some u->h'.get? b=some u):Un fs ex H H h h' :=
 ⟨λb ob q _ _ _=>k b ob q,λb ob q _ _ _=>⟨ob.slots,k b ob q⟩,λ_ _ _ n _=>n,λb ob q _=>⟨ob,k b ob q⟩,λ_ _ q=>q,λ_ _ _ q=>q,λ_ c q=>⟨#[],by rw[q];simp⟩⟩
def Un.refl:Un fs ex H H h h:=Un.kept λ_ _ q=>q
def Un.laid(k:∀b u,h.get? b=some u->h'.get? b=some u)(f:h.objs.size<=a)(hn:H a=none):Un fs ex H (Za H a o) h h' where
 keep:=λb u q _ _ _=>k b u q
 slot:=λb u q _ _ _=>⟨u.slots,k b u q⟩
 free:=λb u q n _=>by rwa[Ze (Sg (Sj (Sf q) f))]
 there:=λb u q _=>⟨u,k b u q⟩
 tups:=λb c q=>by rwa[Ze (Zu q hn)]
 frzs:=λb u c q=>by rwa[Ze (Zu q hn)]
 tbls:=λb i q=>⟨#[],by rw[Ze (Zu q hn),q];simp⟩
def Un.write(c:D8 (H x))(v:e=x\/H e=some (.own x))(k:∀b u,b≠e->h.get? b=some u->h'.get? b=some u)(y:∃u,h'.get? e=some u):Un fs ex H (Za H x o) h h':=by
 have j:∀b,H b=none->b≠x:=λb n z=>by subst z;rw[n]at c;exact c
 have f:∀b,H b=none->b≠e:=λb n z=>by
  subst z;rcases v with r|r;exact j b n r;rw[n]at r;cases r
 have hm:∀b u,H b=some u->¬ D8 (some u)->b≠x:=λb u q nm z=>by subst z;rw[q]at c;exact nm c
 refine⟨λb u q n _ _=>k b u (f b n) q,λb u q n _ _=>⟨u.slots,k b u (f b n) q⟩,λb u q n _=>by rwa[Ze (j b n)],λb u q _=>?_,
  λb B q=>by rwa[Ze (hm b _ q λz=>z)],λb u B q=>by rwa[Ze (hm b _ q λz=>z)],λb C q=>⟨#[],by rw[Ze (hm b _ q λz=>z),q];simp⟩⟩
 by_cases i:b=e;subst i;exact y;exact⟨u,k b u i q⟩
end
def Ky(h:Heap)(H:Hp):List Addr:=(List.range h.objs.size).filter λa=>(H a).isSome
def V5(h:Heap)(H:Hp):Heap:=W.hideAll h (Ky h H)
def Zc9(h:Heap)(H:Hp):(V5 h H).objs.size=h.objs.size:=W.hideAll_size _ _
def Zda{h:Heap}(e:h.get? b=some o)(n:H b=none):(V5 h H).get? b=some o :=
 W.hideAll_get _ e λhm=>by
  have q:(H b).isSome=true:=(List.mem_filter.mp hm).2;rw[n]at q;simp at q
def Zdb{h:Heap}(e:(V5 h H).get? b=some o):h.get? b=some o/\H b=none:=by
 have c:h.get? b=some o:=W.of_hideAll (Ky h H) e;erw[⟨c,?_⟩];cases q:H b with
 |none=>rfl
 |some x =>
  have hm:b∈Ky h H:=List.mem_filter.mpr ⟨List.mem_range.mpr (Sf c),by simp[q]⟩;have z:(V5 h H).get? b=none:=W.hideAll_none (Ky h H) hm;rw[z]at e;cases e
structure Mod(K:OA)(mg:Oz)(base:Heap):Prop where
 kin:K.In base
 glob:base.Ns mainGlobals mg
 blt:∃mb,base.Ns builtinsNs mb/\∀x:Str,x ≠ "__name__" -> mb x=bootBuiltins x
 nolimit:base.NoLimit
structure Cx where
 prog:Program
 w:World
 K:W.Frag
 mg:Str->Option Value
 base:Heap
 A:Around
 N:List Str
 s₀:Shared
 H₀:Hp
 env:Env
 outer:List Env
 stack:List Env
 ex:List Addr
 fn:Str->Bool
 calm:Bool
 pn:List (Addr×Obj)
 xe:Value->Shared->Prop
def Yw(l:List Env):List Addr:=l.filterMap (·.frame)
abbrev Cx.fs(X:Cx):List Addr:=Yw X.outer
def D9(c:Scope)(x:Str):Prop:=c.names.lookup x=some .local\/c.names.lookup x=some .cell\/c.names.lookup x=some .free
def Qz(c:Scope)(x:Str):Prop:=c.names.lookup x=some .local\/c.names.lookup x=some .cell
def yF(env:Env)(h:Heap)(m:Oz)(x:Str)(u:Value):Prop :=
 (env.kindOf x=some .local/\m x=some u)\/((env.kindOf x=some .cell\/env.kindOf x=some .free)/\∃c,env.cells.lookup x=some c/\h.IsCell c (some u))
structure Cx.Ok(X:Cx):Prop where
 mod:Mod X.K X.mg X.base
 kind:X.env.scope.kind=.function
 glob:X.env.globals=mainGlobals
 blt:X.env.builtins=builtinsNs
 above:X.s₀.heap.objs.size<=X.env.locals
 inj:∀x y c,X.env.cells.lookup x=some c->X.env.cells.lookup y=some c->x=y
 has:∀x,(X.env.kindOf x=some .cell\/X.env.kindOf x=some .free)->∃c,X.env.cells.lookup x=some c
 cab:∀x c,X.fn x=true->X.env.cells.lookup x=some c->X.s₀.heap.objs.size<=c
 hd:X.calm=true->X.A.handled=none
 frames:X.A.frames=some X.stack
 stk:X.stack=X.outer\/(X.stack=X.env::X.outer/\X.env.frame=some X.env.locals)
 exf:∀b∈X.ex,b≠X.env.locals/\∀x c,X.env.cells.lookup x=some c->c≠b
 bs:∀b o,X.base.get? b=some o->X.s₀.heap.get? b=some o/\X.H₀ b=none
 bsz:X.base.objs.size<=X.s₀.heap.objs.size
 noex:∀b o,X.base.get? b=some o->b∉X.ex
 exfs:∀b∈X.ex,b∉X.fs
 funs:X.s₀.heap.FunFrames X.base X.outer
 frf:∀b∈X.fs,X.H₀ b=none
structure Zb(X:Cx)(pins:Oy)(σ:List (Option V))(H:Hp)(s:Shared):Prop where
 ok:X.Ok
 os:s.os=X.s₀.os
 bare:AllBare s.gens
 base:Un X.fs X.ex X.H₀ H X.s₀.heap s.heap
 loc:∃m,s.heap.Ns X.env.locals m/\∀(i:Nat) (x:Str) (v:V),X.N[i]? = some x->σ[i]? = some (some v)->D9 X.env.scope x->∃u,ZG v u/\yF X.env s.heap m x u
 cell:∀x c,X.env.cells.lookup x=some c->∃v,s.heap.IsCell c v
 free:H X.env.locals=none
 freeC:∀x c,X.env.cells.lookup x=some c->H c=none
 pin:∀p∈X.pn++pins,s.heap.get? p.1=some p.2/\H p.1=none/\p.1≠X.env.locals/\p.1∉X.fs/\∀v,p.2.data≠.cell v
 hok:Yo X.prog X.w H s.heap
 len:σ.length=X.N.length
section
variable{X:Cx}{pins:Oy}{σ:List (Option V)}{H H':Hp}{s:Shared}{h':Heap}
def Cx.Ok.nofr(ok:X.Ok)(e:X.base.get? b=some o):b∉X.fs:=λc=>by
 have:=(ok.funs.mem c).1;rw[e]at this;cases this
def Zb.bs(I:Zb X pins σ H s):∀b o,X.base.get? b=some o->s.heap.get? b=some o/\H b=none:=λb o e =>
 ⟨I.base.keep b o (I.ok.bs b o e).1 (I.ok.bs b o e).2 (I.ok.nofr e) (I.ok.noex b o e),I.base.free b o (I.ok.bs b o e).1 (I.ok.bs b o e).2 (I.ok.noex b o e)⟩
def Zb.bk(I:Zb X pins σ H s):∀b o,X.base.get? b=some o->s.heap.get? b=some o:=λb o e=>(I.bs b o e).1
def Zb.mod(I:Zb X pins σ H s):Mod X.K X.mg X.base:=I.ok.mod
def Zb.kIn(I:Zb X pins σ H s):X.K.In s.heap:=I.ok.mod.kin.keeps I.bk
def Zb.fr(I:Zb X pins σ H s):∃m,Fr X.base X.env.locals s.heap m :=
 let ⟨m,hn,_⟩:=I.loc
 ⟨m,hn,I.bk,Si I.ok.bsz I.ok.above⟩
def Zb.lt(I:Zb X pins σ H s):X.env.locals<s.heap.objs.size:=let ⟨_,hn,_⟩:=I.loc;hn.lt
def Zb.sz(I:Zb X pins σ H s):X.s₀.heap.objs.size<=s.heap.objs.size:=Si I.ok.above (Nat.le_of_lt I.lt)
def Zb.nofs(I:Zb X pins σ H s)(h:s.heap.objs.size<=a):a∉X.fs:=λc=>by
 obtain⟨_,o,e,_⟩:=I.ok.funs.mem c;exact Ov (Sj (Sf e) (Si I.sz h)) (Sm _)
def Zb.cne(I:Zb X pins σ H s):∀x c,X.env.cells.lookup x=some c->c≠X.env.locals:=λx c e z=>by
 obtain⟨v,o,f,hd⟩:=I.cell x c e;ext⟨m,⟨j,q,u,h,i,_⟩,_⟩ I.loc;rw[z,h]at f;cases f;rw[i]at hd;cases hd
def Zb.funs(I:Zb X pins σ H s):s.heap.FunFrames X.base X.outer:=by
 have all:∀(l:List Env),(∀b∈Yw l,b∈X.fs)->X.s₀.heap.FunFrames X.base l->s.heap.FunFrames X.base l:=by
  intro l;induction l with
  |nil=>intro _ _;trivial
  |cons env r y =>
   intro i u;ext⟨v,⟨L,o,f,hn,j,hd⟩,q⟩ u;have h:L∈X.fs:=i L (by unfold Yw;rw[List.filterMap_cons,f];exact SF);obtain⟨B,e⟩:=I.base.slot L o j (I.ok.frf L h) h λz=>I.ok.exfs L z h;exact⟨v,⟨L,_,f,hn,e,hd⟩,y (λb c=>i b (by unfold Yw;rw[List.filterMap_cons,f];exact SE _ c)) q⟩
 exact all X.outer (λ_ c=>c) I.ok.funs
def Zb.stack(I:Zb X pins σ H s):s.heap.FunFrames X.base X.stack:=by
 rcases I.ok.stk with e|⟨e,c⟩;rw[e];exact I.funs;rw[e];ext⟨m,hn,_⟩ I.loc;erw[.cons (by rw[I.ok.kind];lia) c hn ?_ I.funs];exact Heap.get?_none_of_le (Si I.ok.bsz I.ok.above)
def Zb.stkSub(I:Zb X pins σ H s):∀b∈Yw X.stack,b∈X.env.locals::X.fs:=λb c=>by
 rcases I.ok.stk with e|⟨e,f⟩;rw[e]at c;exact SE _ c;rw[e]at c;unfold Yw at c;rw[List.filterMap_cons,f]at c;exact c
def Zb.stkFree(I:Zb X pins σ H s):∀b∈Yw X.stack,H b=none:=λb c=>by
 rcases SH.mp (I.stkSub b c)with e|c;rw[e];exact I.free;obtain⟨_,o,f,_⟩:=I.ok.funs.mem c;exact I.base.free b o f (I.ok.frf b c) λz=>I.ok.exfs b z c
def Zb.step{g':Array GenState}{t':Nat}{d':Drawn}{ch:OK}(I:Zb X pins σ H s)
  (G:∀b∈ch,(b∈X.ex\/X.s₀.heap.objs.size<=b)/\b≠X.env.locals/\(∀x c,X.env.cells.lookup x=some c->c≠b)/\∀p∈X.pn++pins,p.1≠b)
  (keep:∀b o,b≠X.env.locals->b∉X.fs->b∉ch->s.heap.get? b=some o->H b=none->h'.get? b=some o)
  (slot:∀b o,b≠X.env.locals->b∈X.fs->b∉ch->s.heap.get? b=some o->H b=none->∃M,h'.get? b=some {o with slots:=M}) (free:∀b o,b∉ch->s.heap.get? b=some o->H b=none->H' b=none)
  (there:∀b o,b∉ch->s.heap.get? b=some o->∃C,h'.get? b=some C)
  (tups:∀b j,H b=some (.tup j)->H' b=some (.tup j)) (frzs:∀b o u,H b=some (.frz o u)->H' b=some (.frz o u)) (tbls:∀b J,H b=some (.tbl J)->∃more,H' b=some (.tbl (J++more)))
  (ns:∀m,s.heap.Ns X.env.locals m->h'.Ns X.env.locals m) (hok:Yo X.prog X.w H' h') (Z:AllBare g') :
  Zb X pins σ H' {s with heap:=h',gens:=g',drawn:=d',toks:=t'}:=by
 have Q:∀b o,X.s₀.heap.get? b=some o->b≠X.env.locals:=λb o e=>Sg (Sj (Sf e) I.ok.above);have L:∀b o,X.s₀.heap.get? b=some o->b∉X.ex->b∉ch:=λb o e f y=>by
  rcases(G b y).1 with z|z;exact f z;exact Ov (Sj (Sf e) z) (Sm _)
 have cellK:∀x c,X.env.cells.lookup x=some c->∀v,s.heap.IsCell c v->h'.IsCell c v:=λx c e v ⟨o,B,hd⟩=>by
  have D:c∉ch:=λz=>(G c z).2.2.1 x c e R;by_cases P:c∈X.fs;obtain⟨M,q⟩:=slot c o (I.cne x c e) P D B (I.freeC x c e);exact⟨_,q,hd⟩;exact⟨o,keep c o (I.cne x c e) P D B (I.freeC x c e),hd⟩
 erw[⟨I.ok,I.os,Z,⟨λb o e n y f=>?_,λb o e n y f=>?_,λb o e n f=>?_,λb o e f=>?_,λb j e=>tups b j (I.base.tups b j e),λb o j e=>frzs b o j (I.base.frzs b o j e),λb J e=>?_⟩,?_,λx c e=>?_,?_,λx c e=>?_,λp O=>?_,hok,I.len⟩];exact keep b o (Q b o e) y (L b o e f) (I.base.keep b o e n y f) (I.base.free b o e n f);obtain⟨M,h⟩:=I.base.slot b o e n y f;obtain⟨a0,E⟩:=slot b _ (Q b o e) y (L b o e f) h (I.base.free b o e n f);exact⟨a0,E⟩;obtain⟨C,h⟩:=I.base.there b o e f;exact free b C (L b o e f) h (I.base.free b o e n f);obtain⟨C,h⟩:=I.base.there b o e f;exact there b C (L b o e f) h;obtain⟨T,h⟩:=I.base.tbls b J e;obtain⟨S,E⟩:=tbls b _ h;exact⟨T++S,by rw[E,Array.append_assoc]⟩;ext⟨m,hn,U⟩ I.loc;erw[⟨m,ns m hn,λi x v h E Y=>?_⟩];obtain⟨u,r,l⟩:=U i x v h E Y;erw[⟨u,r,?_⟩];rcases l with l|⟨k,c,e,z⟩;exact .inl l;exact .inr ⟨k,c,e,cellK x c e _ z⟩;obtain⟨v,z⟩:=I.cell x c e;exact⟨v,cellK x c e v z⟩;ext⟨m,⟨o,_,_,B,_⟩,_⟩ I.loc;exact free _ o (λz=>(G _ z).2.1 R) B I.free;obtain⟨v,o,B,hd⟩:=I.cell x c e;exact free c o (λz=>(G c z).2.2.1 x c e R) B (I.freeC x c e);obtain⟨e,n,ne,nf,d⟩:=I.pin p O;have D:p.1∉ch:=λz=>(G p.1 z).2.2.2 p O R;exact⟨keep p.1 p.2 ne nf D e n,free p.1 p.2 D e n,ne,nf,d⟩
def Zb.un{t':Nat}(I:Zb X pins σ H s)(u:Un X.fs [] H H' s.heap h')(hok:Yo X.prog X.w H' h'):Zb X pins σ H' {s with heap:=h',toks:=t'}:=by
 obtain⟨m,⟨o,C,D,f,r⟩,_⟩:=id I.loc;obtain⟨E,q⟩:=u.any f I.free (by simp);exact I.step (g':=s.gens) (d':=s.drawn) (ch:=[]) (λ_ z=>nomatch z) (λb o _ c _ e n=>u.keep b o e n c (by simp)) (λb o _ c _ e n=>u.slot b o e n c (by simp)) (λb o _ e n=>u.free b o e n (by simp)) (λb o _ e=>u.there b o e (by simp)) u.tups u.frzs u.tbls (λy hm=>by
  ext⟨B,j,i,h,v⟩ hm;rw[f]at h;cases h;exact⟨_,j,i,q,v⟩) hok I.bare
def Zb.call{g':Array GenState}{t':Nat}{d':Drawn}{ch:OK}(I:Zb X pins σ H s)(u:Un (Yw X.stack) ch H H' s.heap h')(hok:Yo X.prog X.w H' h')(y:AllBare g')
  (i:∀b∈ch,(b∈X.ex\/X.s₀.heap.objs.size<=b)/\b≠X.env.locals/\(∀x c,X.env.cells.lookup x=some c->c≠b)/\∀p∈X.pn++pins,p.1≠b) :
  Zb X pins σ H' {s with heap:=h',gens:=g',drawn:=d',toks:=t'}:=by
 obtain⟨m,⟨o,J,L,j,r⟩,_⟩:=id I.loc;obtain⟨M,h⟩:=u.any j I.free λz=>(i _ z).2.1 R;exact I.step (ch:=ch) i (λb o h v f e n=>u.keep b o e n (λz=>(SH.mp (I.stkSub b z)).elim h v) f) (λb o _ _ f e n=>u.any e n f) (λb o f e n=>u.free b o e n f) (λb o f e=>u.there b o e f) u.tups u.frzs u.tbls (λE hm=>by
  ext⟨G,B,C,q,D⟩ hm;rw[j]at q;cases q;exact⟨_,B,C,h,D⟩) hok y
def Zb.turned{t':Nat}{it:Addr}(I:Zb X pins σ H s)(k:∀b o,b≠it->s.heap.get? b=some o->h'.get? b=some o)(hn:H it=none)(i:it≠X.env.locals)
  (h1:it∈X.ex\/X.s₀.heap.objs.size<=it) (y:∀x c,X.env.cells.lookup x=some c->c≠it) (E:∀p∈X.pn++pins,p.1≠it):Zb X pins σ H {s with heap:=h',toks:=t'}:=by
 have h:∀b u,H b=some u->b≠it:=λb u e z=>by rw[z,hn]at e;cases e
 refine I.step (g':=s.gens) (d':=s.drawn) (ch:=[it]) (λb j=>?_) (λb o _ _ f e _=>k b o (λz=>f (by simp[z])) e) (λb o _ _ f e _=>⟨o.slots,k b o (λz=>f (by simp[z])) e⟩) (λ_ _ _ _ n=>n)
  (λb o f e=>⟨o,k b o (λz=>f (by simp[z])) e⟩) (λ_ _ e=>e) (λ_ _ _ e=>e) (λb G e=>⟨#[],by rw[e];simp⟩) (λm hm=>?_) (λb u e=>?_) I.bare
 have e:b=it:=by simpa using j
 subst e;exact⟨h1,i,y,E⟩;ext⟨o,C,D,B,r⟩ hm;exact⟨o,C,D,k _ o (Ne.symm i) B,r⟩;erw[(I.hok b u e).stay (λc v f q=>k c v ?_ q) (λ_ q=>q) λ_ _ q=>q];rcases f with z|z;rw[z];exact h b u e;exact h c _ z
def Zb.tok(I:Zb X pins σ H s)(t:Nat):Zb X pins σ H {s with toks:=t}:=I.un (h':=s.heap) (t':=t) Un.refl I.hok
def Zb.kept(I:Zb X pins σ H s)(k:∀b u,s.heap.get? b=some u->h'.get? b=some u):Zb X pins σ H {s with heap:=h',toks:=t'}:=I.un (Un.kept k) (I.hok.kept k)
def Zb.laid(I:Zb X pins σ H s)(k:∀b u,s.heap.get? b=some u->h'.get? b=some u)(c:s.heap.objs.size<=a)(new:Ym X.prog X.w (Za H a o) h' a o) :
  Zb X pins σ (Za H a o) {s with heap:=h',toks:=t'}:=I.un (Un.laid k c (I.hok.fresh c)) (I.hok.laid k c new)
def Zb.write(I:Zb X pins σ H s)(c:D8 (H x))(h:e=x\/H e=some (.own x))(k:∀b u,b≠e->s.heap.get? b=some u->h'.get? b=some u)(f:∃u,h'.get? e=some u)
  (new:Ym X.prog X.w (Za H x o) h' x o):Zb X pins σ (Za H x o) {s with heap:=h',toks:=t'}:=I.un (Un.write c h k f) (I.hok.write c h k f new)
def Zb.weak{c:List (Option V)}(I:Zb X pins σ H s)(f:c.length=σ.length)(w:∀(i:Nat) v,c[i]? = some (some v)->σ[i]? = some (some v)):Zb X pins c H s :=
 ⟨I.ok,I.os,I.bare,I.base,let ⟨m,hn,hl'⟩:=I.loc;⟨m,hn,λi x v e j h=>hl' i x v e (w i v j) h⟩,I.cell,I.free,I.freeC,I.pin,I.hok,f.trans I.len⟩
def Zb.pins_of(I:Zb X pins σ H s)(h:∀p∈pins',s.heap.get? p.1=some p.2/\H p.1=none/\p.1≠X.env.locals/\p.1∉X.fs/\∀v,p.2.data≠.cell v):Zb X pins' σ H s :=
 ⟨I.ok,I.os,I.bare,I.base,I.loc,I.cell,I.free,I.freeC,λp c=>(SI.mp c).elim (λz=>I.pin p (SK _ z)) (h p),I.hok,I.len⟩
def MJ{N:OF}(f:N.Nodup){i j:Nat}{x:Str}(a:N[i]? = some x)(b:N[j]? = some x):i=j:=by
 obtain⟨q,c⟩:=Su.mp a;obtain⟨h,e⟩:=Su.mp b;exact(List.getElem_inj f).mp (c.trans e.symm)
def yG{M:Model}{A:Around}{E:Ox}{i:Nat}{x:Str}{v:V}{u:Value}{Q:OD}(I:Zb X pins σ H s)(hN:X.N.Nodup)(hi:X.N[i]? = some x)(D:Qz X.env.scope x)(r:ZG v u)
  (h:∀s',Zb X pins (σ.set i (some v)) H s'->(∃a,Heap.SameBut a s.heap s'.heap/\(a=X.env.locals\/X.env.cells.lookup x=some a))->Q Unit.unit s') (hf:X.fn x=true\/X.env.scope.names.lookup x=some .local:=by first|exact .inl rfl|exact .inr rfl|assumption):wpAny M A (storeName X.env x u) Q E s:=by
 obtain⟨m,hn,hl⟩:=id I.loc;have i0:(X.env.scope.kind==.class || (X.env.scope.kind==.module && X.env.locals != X.env.globals))=false:=by rw[I.ok.kind];rfl
 have b0:i<σ.length:=by rw[I.len];exact(Su.mp hi).1
 have cne:=I.cne;have tracked:∀{a:Addr} {h':Heap},(∃o,s.heap.get? a=some o/\H a=none)->Heap.SameBut a s.heap h'->Yo X.prog X.w H h':=λ{a h'} ha f b ob e=>by
  ext⟨_,_,f0⟩ ha;erw[(I.hok b ob e).stay (λc S C q=>(f.2 c ?_).trans q) (λ_ q=>q) λ_ _ q=>q];rintro rfl;rcases C with rfl|C;rw[f0]at e;cases e;rw[f0]at C;cases C
 rcases D with J|J;erw[wpAny_storeName_local J hn (λh' h0 f=>?_) i0];obtain⟨oL,_,_,g0,_⟩:=id hn;erw[h _ ⟨I.ok,I.os,I.bare,⟨λb o e n L D=>?_,λb o e n L D=>?_,I.base.free,λb o e D=>?_,I.base.tups,I.base.frzs,I.base.tbls⟩,⟨_,h0,λj y Z B G e3=>?_⟩,λy c e=>?_,I.free,I.freeC,λp hp=>?_,tracked ⟨oL,g0,I.free⟩ f,by simpa using I.len⟩ ⟨_,f,.inl R⟩];exact(f.2 b (Sg (Sj (Sf e) I.ok.above))).trans (I.base.keep b o e n L D);obtain⟨Y,B⟩:=I.base.slot b o e n L D;exact⟨Y,(f.2 b (Sg (Sj (Sf e) I.ok.above))).trans B⟩;obtain⟨T,B⟩:=I.base.there b o e D;exact⟨T,(f.2 b (Sg (Sj (Sf e) I.ok.above))).trans B⟩;by_cases O:j=i;subst O;rw[hi]at B;cases B;rw[List.getElem?_set_self b0]at G;cases G;exact⟨u,r,.inl ⟨J,by simp⟩⟩;rw[List.getElem?_set_ne (Ne.symm O)]at G;obtain⟨U,r',q⟩:=hl j y Z B G e3;erw[⟨U,r',?_⟩];rcases q with⟨k,e⟩|⟨k,c,e,z⟩;erw[.inl ⟨k,?_⟩];have:y≠x:=λe=>O (MJ hN B (e ▸ hi));simp[this,e];exact .inr ⟨k,c,e,z.sameBut f (cne y c e)⟩;obtain⟨S,z⟩:=I.cell y c e;exact⟨S,z.sameBut f (cne y c e)⟩;obtain⟨e,n,ne,nf,d⟩:=I.pin p hp;exact⟨(f.2 p.1 ne).trans e,n,ne,nf,d⟩;have a0:X.fn x=true:=by
  rcases hf with z|z;exact z;rw[z]at J;cases J
 obtain⟨c,C⟩:=I.ok.has x (.inl J);obtain⟨S,z⟩:=I.cell x c C;erw[wpAny_storeName_cell I.ok.kind J C z (λh' e0 f=>?_)];obtain⟨oc,d0,j0⟩:=id z;erw[h {s with heap:=h'} ⟨I.ok,I.os,I.bare,⟨λb o e n L D=>?_,λb o e n L D=>?_,I.base.free,λb o e D=>?_,I.base.tups,I.base.frzs,I.base.tbls⟩,⟨m,hn.sameBut f (Ne.symm (cne x c C)),λj y Z B G e3=>?_⟩,λy P e=>?_,I.free,I.freeC,λp hp=>?_,tracked ⟨oc,d0,I.freeC x c C⟩ f,by simpa using I.len⟩ ⟨c,f,.inr C⟩];exact(f.2 b (Sg (Sj (Sf e) (I.ok.cab x c a0 C)))).trans (I.base.keep b o e n L D);obtain⟨Y,B⟩:=I.base.slot b o e n L D;exact⟨Y,(f.2 b (Sg (Sj (Sf e) (I.ok.cab x c a0 C)))).trans B⟩;obtain⟨T,B⟩:=I.base.there b o e D;exact⟨T,(f.2 b (Sg (Sj (Sf e) (I.ok.cab x c a0 C)))).trans B⟩;by_cases O:j=i;subst O;rw[hi]at B;cases B;rw[List.getElem?_set_self b0]at G;cases G;exact⟨u,r,.inr ⟨.inl J,c,C,e0⟩⟩;rw[List.getElem?_set_ne (Ne.symm O)]at G;obtain⟨U,r',q⟩:=hl j y Z B G e3;erw[⟨U,r',?_⟩];rcases q with q|⟨k,P,e,z'⟩;exact .inl q;erw[.inr ⟨k,P,e,z'.sameBut f ?_⟩];rintro rfl;exact O (MJ hN B (I.ok.inj _ _ _ e C ▸ hi));by_cases c0:P=c;subst c0;exact⟨_,e0⟩;obtain⟨w2,z2⟩:=I.cell y P e;exact⟨w2,z2.sameBut f c0⟩;obtain⟨e,n,ne,nf,d⟩:=I.pin p hp;erw[⟨(f.2 p.1 ?_).trans e,n,ne,nf,d⟩];intro q;rw[q,d0]at e;have q':oc=p.2:=Sr e;exact d S (by rwa[<-q'])
def E3(I:Zb X pins σ H s)(j:X.N.Nodup)(hi:X.N[i]? = some x)(f:Qz X.env.scope x)(r:ZG v u)
  (h:∀s',Zb X pins (σ.set i (some v)) H s'->Q Unit.unit s') (c:X.fn x=true\/X.env.scope.names.lookup x=some .local:=by first|exact .inl rfl|exact .inr rfl|assumption):wpAny M A (storeName X.env x u) Q E s :=
 yG I j hi f r (λs' e _=>h s' e) c
def Zb.call'{s':Shared}(I:Zb X pins σ H s)(i:s'.os=s.os)(u:Un (Yw X.stack) ch H H' s.heap s'.heap)(hok:Yo X.prog X.w H' s'.heap)(j:AllBare s'.gens)
  (f:∀b∈ch,(b∈X.ex\/X.s₀.heap.objs.size<=b)/\b≠X.env.locals/\(∀x c,X.env.cells.lookup x=some c->c≠b)/\∀p∈X.pn++pins,p.1≠b):Zb X pins σ H' s':=by
 ext⟨h',g',d',t',h⟩ s';have e:h=s.os:=i;subst e;exact I.call (g':=g') (t':=t') (d':=d') u hok j f
end
abbrev XK:=Value->Option Addr->Hp->Prop
abbrev St:=List (Option V)
abbrev VK:=V->Hp->Prop
abbrev TE:=St->Hp->VK->Prop
abbrev TT:=St->Hp->(Bool->Hp->Prop)->Prop
abbrev TA:=St->Hp->(List V->Hp->Prop)->Prop
structure Wz where
 nx:St->Hp->Prop
 rt:VK
 bk:St->Hp->Prop:=λ_ _=>False
 ct:St->Hp->Prop:=λ_ _=>False
abbrev TS:=Wz->St->Hp->Prop
inductive EP(X:Cx)(pins:Oy)(σ:St)(Q:VK)(u:Value)(s':Shared):Prop|mk v H' (_:Zb X pins σ H' s') (_:ZG v u) (_:Q v H')
inductive TP(X:Cx)(pins:Oy)(σ:St)(Q:Bool->Hp->Prop)(b:Bool)(s':Shared):Prop|mk H' (_:Zb X pins σ H' s') (_:Q b H')
inductive AP(X:Cx)(pins:Oy)(σ:St)(Q:List V->Hp->Prop)(us:OE)(s':Shared):Prop|mk vs H' (_:Zb X pins σ H' s') (_:ZB vs us) (_:Q vs H')
def SP(X:Cx)(pins:Oy)(D:Wz)(f:Flow)(s':Shared):Prop :=
 match f with
 |.next=>∃e c,Zb X pins e c s'/\D.nx e c
 |.brk=>∃e c,Zb X pins e c s'/\D.bk e c
 |.cont=>∃e c,Zb X pins e c s'/\D.ct e c
 |.ret u=>∃v e c,Zb X pins e c s'/\ZG v u/\D.rt v c
def PE(X:Cx)(e:Expr)(t:TE):Prop :=
 ∀(pins:Oy) (s:Shared) (σ:St) (H:Hp) (Q:VK),Zb X pins σ H s->t σ H Q->wpAny (model X.prog X.w) X.A (eval e X.env) (EP X pins σ Q) X.xe s
def PT(X:Cx)(e:Expr)(t:TT):Prop :=
 ∀(pins:Oy) (s:Shared) (σ:St) (H:Hp) (Q:Bool->Hp->Prop),Zb X pins σ H s->t σ H Q->wpAny (model X.prog X.w) X.A (isTrue e X.env (eval e X.env)) (TP X pins σ Q) X.xe s
def PW(X:Cx)(e:Expr)(t:TT):Prop :=
 ∀(whole:Sem Value) (pins:Oy) (s:Shared) (σ:St) (H:Hp) (Q:Bool->Hp->Prop),Zb X pins σ H s->t σ H Q->wpAny (model X.prog X.w) X.A (isTrue e X.env whole) (TP X pins σ Q) X.xe s
def PW.pt(h:PW X e t):PT X e t:=h _
def PA(X:Cx)(c:OG)(t:TA):Prop :=
 ∀(e:Pos) (pins:Oy) (s:Shared) (σ:St) (H:Hp) (Q:List V->Hp->Prop),Zb X pins σ H s->t σ H Q->wpAny (model X.prog X.w) X.A (spliced (backTo e (starEach c X.env))) (AP X pins σ Q) X.xe s
def PS(X:Cx)(st:Stmt)(t:TS):Prop :=
 ∀(pins:Oy) (s:Shared) (σ:St) (H:Hp) (D:Wz),Zb X pins σ H s->t D σ H->wpAny (model X.prog X.w) X.A (exec st X.env) (SP X pins D) X.xe s
def XV(X:Cx)(st:List Stmt)(t:TS):Prop :=
 ∀(pins:Oy) (s:Shared) (σ:St) (H:Hp) (D:Wz),Zb X pins σ H s->t D σ H->wpAny (model X.prog X.w) X.A (execs st X.env) (SP X pins D) X.xe s
def Zs{e:Type}{t:Sem e}{Q c:e->Shared->Prop}{M:Model}{A:Around}{E:Ox}{s:Shared}(h:wpAny M A t Q E s)(f:∀a s,Q a s->c a s):wpAny M A t c E s:=Ou h f λ_ _ x=>x
end L2
variable{pins:List (PySem.Addr×PySem.Obj)}{K:PySem.W.Frag}{s:PySem.Shared}{X:L2.Cx}{E:PySem.Value->PySem.Shared->Prop}{A:PySem.Around}{w:PySem.World}{H:L2.Hp}{mg:PySem.Str->Option PySem.Value}{scope:PySem.Scope}{prog:PySem.Program}{P:PySem.Program}{pos:PySem.Pos}{base:PySem.Heap}
namespace L2
open PySem PySem.Spec PyProof.Rows
section
inductive Qa(i:Nat)(σ:St)(H:Hp)(Q:VK):Prop|mk v (_:σ[i]? = some (some v)) (_:Q v H)
def tC(v:V):TE:=λ_ H Q=>Q v H
def yH(E:X.N[i]? = some x)(B:D9 X.env.scope x)(hd:(x==("__debug__" : Str))=false:=by lia) (C:(x==("__classdict__" : Str))=false:=by lia):PE X (.Name x pos) (Qa i):=by
 intro pins s D H Q I h;ext⟨v,e,h⟩ h;ext⟨m,hn,G⟩ I.loc;obtain⟨u,r,l⟩:=G i x v E e B;have j:EP X pins D Q u s:=⟨v,H,I,r,h⟩;rcases l with⟨f,hm⟩|⟨f,c,q,y⟩;exact wpAny_Name (wpAny_loadName_local I.ok.kind f hn hm j) hd;rcases f with f|f;exact wpAny_Name (wpAny_loadName_cell I.ok.kind f q y j) hd;exact wpAny_Name (wpAny_loadName_free I.ok.kind f q y j C) hd
def Zc{i j pos}:PE X (.Constant (.int i) j pos) (tC (.int i)):=λ_ _ _ H _ I h=>wpAny_Constant_int ⟨.int i,H,I.tok _,⟨_,R⟩,h⟩
def WA{b j pos}:PE X (.Constant (.bool b) j pos) (tC (.bl b)):=λ_ _ _ H _ I h=>Constant_bool ⟨.bl b,H,I,R,h⟩
def Ul{j pos}:PE X (.Constant .none j pos) (tC .non):=λ_ _ _ H _ I h=>Constant_none ⟨.non,H,I,R,h⟩
def ZH{x j pos}:PE X (.Constant (.str x) j pos) (tC (.str x)):=λ_ _ _ H _ I h=>Calls.Constant_str ⟨.str x,H,I.tok _,⟨_,R⟩,h⟩
def Gl(X:Cx)(x:Str):Prop:=X.env.kindOf x=some .globalImplicit
def UD(I:Zb X pins c H s)(e:Gl X x)(hm:X.mg x=some u)(h:Q u s)
  (hd:(x==("__debug__" : Str))=false:=by lia):wpAny (model X.prog X.w) X.A (eval (.Name x pos) X.env) Q E s :=
 Calls.Name_function_global I.ok.kind e (Calls.loadGlobal_global (by rw[I.ok.glob];exact I.mod.glob.keeps I.bk) hm h) hd
def UE(I:Zb X pins f H s)(i:Gl X x)(hm:X.mg x=none)(c:bootBuiltins x=some u)(h:Q u s)
  (hn:x ≠ "__name__" := by lia) (hd:(x==("__debug__" : Str))=false:=by lia):wpAny (model X.prog X.w) X.A (eval (.Name x pos) X.env) Q E s:=by
 ext⟨q,j,e⟩ I.mod.blt;exact Calls.Name_function_global I.ok.kind i (Calls.loadGlobal_builtin (by rw[I.ok.glob];exact I.mod.glob.keeps I.bk) hm (by rw[I.ok.blt];exact j.keeps I.bk) ((e x hn).trans c) h) hd
def yI(c:Gl X x)(hm:X.mg x=some u)(r:ZG v u)(hd:(x==("__debug__" : Str))=false:=by lia):PE X (.Name x pos) (tC v) :=
 λ_ _ _ H _ I h=>UD I c hm ⟨v,H,I,r,h⟩ hd
def Zdc(e:Gl X x)(hm:X.mg x=none)(c:bootBuiltins x=some u)(r:ZG v u)(hn:x ≠ "__name__" := by lia) (hd:(x==("__debug__" : Str))=false:=by lia):PE X (.Name x pos) (tC v) :=
 λ_ _ _ H _ I h=>UE I e hm c ⟨v,H,I,r,h⟩ hn hd
variable{a b:Expr}{ta tb:TE}
def PC(X:Cx)(c:CmpOp)(a b:Expr)(t:TE):Prop :=
 ∀(pins:Oy) (s:Shared) (σ:St) (H:Hp) (Q:VK),Zb X pins σ H s->t σ H Q ->
  wpAny (model X.prog X.w) X.A (eval a X.env) (λv e=>wpAny (model X.prog X.w) X.A (eval b X.env) (λu f=>wpAny (model X.prog X.w) X.A (compareOp c v u) (EP X pins σ Q) X.xe f) X.xe e) X.xe s
def yJ(b:Expr)(h:c≠.In)(i:c≠.NotIn):behindInMarks c b=false:=by
 have e:(c==CmpOp.In)=false:=by cases c<;>first|rfl|exact Ov R h
 have f:(c==CmpOp.NotIn)=false:=by cases c<;>first|rfl|exact Ov R i
 cases b<;>simp[behindInMarks,e,f]
def Zdd(ta:TE):TE:=λc H Q=>ta c H λx e=>Q (.bl (decide (x=.non))) e
def Zde(ta:TE):TE:=λc H Q=>ta c H λx e=>Q (.bl (!decide (x=.non))) e
def ZG.none_iff(r:ZG x v):(v==Value.none)=decide (x=.non):=by
 cases x with
 |non=>cases r;rfl
 |bl _=>cases r;rfl
 |int _=>ext⟨t,rfl⟩ r;rfl
 |str _=>ext⟨t,rfl⟩ r;rfl
 |byt _=>ext⟨t,rfl⟩ r;rfl
 |flt _=>ext⟨t,rfl⟩ r;rfl
 |ref _=>cases r;rfl
 |ty _=>cases r;rfl
def Kz{j pos'}(ha:PE X a ta):PC X .Is a (.Constant .none j pos') (Zdd ta):=by
 intro pins s e H Q I h;erw[Zs (ha pins s e H _ I h) λv q ⟨x,c,f,r1,i⟩=>?_];exact Constant_none (is_none_gen ⟨.bl _,c,f,by rw[r1.none_iff];rfl,i⟩)
def Zdf{j pos'}(ha:PE X a ta):PC X .IsNot a (.Constant .none j pos') (Zde ta):=by
 intro pins s e H Q I h;erw[Zs (ha pins s e H _ I h) λv q ⟨x,c,f,r1,i⟩=>?_];exact Constant_none (isnot_none_gen ⟨.bl _,c,f,by rw[r1.none_iff];rfl,i⟩)
inductive Zdg(Q:Bool->Hp->Prop)(x:V)(H1:Hp):Prop|mk c (_:x=.bl c) (_:Q c H1)
def tB(t:TE):TT:=λc H Q=>t c H λx e=>Zdg Q x e
def Zdh(h:PC X c a b t)(h1:behindInMarks c b=false:=by first|exact yJ _ () ()|rfl):PE X (.Compare a [c] [b] pos) t:=λpins s f H Q I e=>wpAny_Compare1 (h pins s f H Q I e) h1
def UF(h:PC X e a b t)(h1:behindInMarks e b=false:=by first|exact yJ _ () ()|rfl):PT X (.Compare a [e] [b] pos) (tB t):=by
 intro pins s j H Q I f;erw[wpAny_isTrue_Compare1 (Zs (h pins s j H _ I f) λv E h1=>Zs h1 λu s2 i=>Zs i λc D ⟨x,y,B,r1,C⟩=>?_) h1];ext⟨d,rfl,q⟩ C;cases r1;exact wpAny_truthy_bool ⟨y,B,q⟩
def Yy{e:Expr}(h:PE X e t)(j:∀whole,isTrue e X.env whole=(do let v <-whole;standAt e.pos;holding [v] (truthy v)):=by intro _;rfl):PT X e (tB t):=by
 intro pins s i H Q I c;erw[isTrue_plain (Zs (h pins s i H _ I c) λv B ⟨x,f,u,r1,y⟩=>?_) (j _)];ext⟨d,rfl,q⟩ y;cases r1;exact wpAny_truthy_bool ⟨f,u,q⟩
variable{tA tB':TT}{rest:OG}
def Zdi(t u:TT):TT:=λf H Q=>t f H λc e=>if c=true then u f e Q else Q false e
def tOr(t u:TT):TT:=λf H Q=>t f H λc e=>if c=true then Q true e else u f e Q
def Zdj(t:TT):TT:=λf H Q=>t f H λc e=>Q (!c) e
def MK(ha:PT X a tA):PW X (.BoolOp .And [a] pos) tA:=by
 intro j pins s f H Q I h;erw[isTrue_and (Zs (ha pins s f H Q I h) λc i e=>?_)];cases c with
 |true=>exact isTrue_and_nil e
 |false=>exact e
def Um(ha:PT X a tA):PW X (.BoolOp .Or [a] pos) tA:=by
 intro j pins s f H Q I h;erw[isTrue_or (Zs (ha pins s f H Q I h) λc i e=>?_)];cases c with
 |false=>exact isTrue_or_nil e
 |true=>exact e
def ML(ha:PT X a tA)(q:PW X (.BoolOp .And (b::rest) pos) tB'):PW X (.BoolOp .And (a::b::rest) pos) (Zdi tA tB'):=by
 intro v pins s f H Q I h;erw[isTrue_and (Zs (ha pins s f H _ I h) λc u ⟨e,i,j⟩=>?_)];cases c with
 |true=>exact q v pins u f e Q i j
 |false=>exact⟨e,i,j⟩
def Uo(ha:PT X a tA)(q:PW X (.BoolOp .Or (b::rest) pos) tB'):PW X (.BoolOp .Or (a::b::rest) pos) (tOr tA tB'):=by
 intro v pins s f H Q I h;erw[isTrue_or (Zs (ha pins s f H _ I h) λc u ⟨e,i,j⟩=>?_)];cases c with
 |true=>exact⟨e,i,j⟩
 |false=>exact q v pins u f e Q i j
def Yz(ha:PT X a tA):PT X (.UnaryOp .Not a pos) (Zdj tA):=by
 intro pins s f H Q I h;exact isTrue_not (Zs (ha pins s f H (λc e=>Q (!c) e) I h) λ_ _ ⟨a,b,c⟩=>⟨a,b,c⟩)
inductive Zdk(tb:TE)(σ:St)(Q:VK)(x:V)(H1:Hp):Prop|mk c (_:x=.bl c) (_:if c=true then tb σ H1 Q else Q (.bl false) H1)
def Zdl(ta tb:TE):TE:=λc H Q=>ta c H λx e=>Zdk tb c Q x e
inductive Zdm(tb:TE)(σ:St)(Q:VK)(x:V)(H1:Hp):Prop|mk c (_:x=.bl c) (_:if c=true then Q (.bl true) H1 else tb σ H1 Q)
def Zdn(ta tb:TE):TE:=λc H Q=>ta c H λx e=>Zdm tb c Q x e
inductive Zdo(Q:VK)(x:V)(H1:Hp):Prop|mk c (_:x=.bl c) (_:Q (.bl (!c)) H1)
def yK(ta:TE):TE:=λc H Q=>ta c H λx e=>Zdo Q x e
def Vl{op}(h:PE X a t):PE X (.BoolOp op [a] pos) t:=λpins s e H Q I c=>BoolOp_one (h pins s e H Q I c)
def UG(ha:PE X a ta)(q:PE X (.BoolOp .And (b::rest) pos) tb):PE X (.BoolOp .And (a::b::rest) pos) (Zdl ta tb):=by
 intro pins s i H Q I h;erw[BoolOp_and (Zs (ha pins s i H _ I h) λv u ⟨x,f,j,r1,e⟩=>?_)];ext⟨c,rfl,e⟩ e;cases r1;erw[wpAny_truthy_bool ?_];cases c with
 |true=>exact q pins u i f Q j e
 |false=>exact⟨.bl false,f,j,R,e⟩
def MN(ha:PE X a ta)(q:PE X (.BoolOp .Or (b::rest) pos) tb):PE X (.BoolOp .Or (a::b::rest) pos) (Zdn ta tb):=by
 intro pins s i H Q I h;erw[BoolOp_or (Zs (ha pins s i H _ I h) λv u ⟨x,f,j,r1,e⟩=>?_)];ext⟨c,rfl,e⟩ e;cases r1;erw[wpAny_truthy_bool ?_];cases c with
 |false=>exact q pins u i f Q j e
 |true=>exact⟨.bl true,f,j,R,e⟩
def yL(ha:PE X a ta):PE X (.UnaryOp .Not a pos) (yK ta):=by
 intro pins s i H Q I h;erw[UnaryOp_ (Zs (ha pins s i H _ I h) λv q ⟨x,f,j,r1,e⟩=>?_)];ext⟨c,rfl,e⟩ e;cases r1;exact not_of (wpAny_truthy_bool ⟨.bl (!c),f,j,R,e⟩)
def tIf(t:TT)(ta tb:TE):TE:=λe H Q=>t e H λc f=>if c=true then ta e f Q else tb e f Q
def Q4(u:PT X c tA)(ha:PE X a ta)(v:PE X b tb):PE X (.IfExp c a b pos) (tIf tA ta tb):=by
 intro pins s e H Q I h;erw[wpAny_IfExp (Zs (u pins s e H _ I h) λd i ⟨f,j,q⟩=>?_)];cases d with
 |true=>exact ha pins i e f Q j q
 |false=>exact v pins i e f Q j q
end
def Zg(K:OA)(H:Hp)(a:Addr)(xs:List V):Prop :=
 Rd H a (.lst xs) \/
  ∃(o:Obj) (its:Array Value) (n:Nat),K.lookup a=some o/\o.cls=.type "list" /\ o.dict=none/\o.data=.seq its n/\its.size<=sizeLine/\ZB xs its.toList
def Zl(K:OA)(H:Hp)(a:Addr)(xs:List V):Prop :=
 Rd H a (.tup xs) \/
  ∃(o:Obj) (its:Array Value) (n:Nat),K.lookup a=some o/\o.cls=.type "tuple" /\ o.data=.seq its n/\its.size<=sizeLine/\ZB xs its.toList
def Zdp:Value->Option V
 |.none=>some .non
 |.bool b=>some (.bl b)
 |.int i _=>some (.int i)
 |.str x _=>some (.str x)
 |.bytes b _=>some (.byt b)
 |.float b _=>some (.flt b)
 |.ref a=>some (.ref a)
 |.type n=>some (.ty n)
 |_=>none
def ZG.abs(r:ZG x u):Zdp u=some x:=by
 cases x with
 |non=>cases r;rfl
 |bl _=>cases r;rfl
 |int _=>ext⟨t,rfl⟩ r;rfl
 |str _=>ext⟨t,rfl⟩ r;rfl
 |byt _=>ext⟨t,rfl⟩ r;rfl
 |flt _=>ext⟨t,rfl⟩ r;rfl
 |ref _=>cases r;rfl
 |ty _=>cases r;rfl
def ZG.inj(r:ZG x u)(q:ZG y u):x=y:=Sr (r.abs.symm.trans q.abs)
theorem ZB.inj:∀{xs ys:List V} {us:OE},ZB xs us->ZB ys us->xs=ys
 |_,_,_,.nil,.nil=>rfl
 |_,_,_,.cons r t,.cons c t'=>by rw[r.inj c,ZB.inj t t']
section
variable{σ:St}{a:Addr}{xs ys:List V}
def Zg.of(h:H a=some (.lst xs)):Zg K H a xs:=.inl (.inl h)
def Zl.of(h:H a=some (.tup xs)):Zl K H a xs:=.inl (.inl h)
def Zb.list(I:Zb X pins σ H s)(h:Zg X.K H a xs):∃its:List Value,ZB xs its/\PlainL s.heap a its.toArray/\xs.length<=sizeLine:=by
 rcases h with h|⟨o,its,n,f,c,hd,i,j,r⟩;obtain⟨z,its,n,r,e⟩:=h.ok I.hok;exact⟨its,r,⟨_,n,e,R,R,R⟩,z⟩;erw[⟨its.toList,r,⟨o,n,I.kIn a o f,c,hd,by simpa using i⟩,?_⟩];have e:=r.length;simp only[Array.length_toList]at e;lia
def Zb.tuple(I:Zb X pins σ H s)(h:Zl X.K H a xs):∃its:List Value,ZB xs its/\IsTup s.heap a its.toArray/\xs.length<=sizeLine:=by
 rcases h with h|⟨o,its,n,f,c,i,j,r⟩;obtain⟨z,its,r,p⟩:=h.ok I.hok;exact⟨its,r,p,z⟩;erw[⟨its.toList,r,⟨o,I.kIn a o f,c,n,by simpa using i⟩,?_⟩];have e:=r.length;simp only[Array.length_toList]at e;lia
def Zb.list_inj(I:Zb X pins σ H s)(h:Zg X.K H a xs)(h':Zg X.K H a ys):xs=ys:=by
 obtain⟨its,r,⟨o,n,e,_,_,d⟩,_⟩:=I.list h;obtain⟨i,q,⟨u,v,c,_,_,f⟩,_⟩:=I.list h';rw[e]at c;cases c;rw[d]at f;injection f with j _;have:its=i:=by simpa using congrArg Array.toList j
 subst this;exact r.inj q
end
abbrev Cx.wish(X:Cx)(E:Ox):Cx:={X with xe:=E}
abbrev Cx.nox(X:Cx):Cx:=X.wish λ_ _=>False
def Cx.Ok.wish(ok:X.Ok)(E:Ox):(X.wish E).Ok :=
 ⟨ok.mod,ok.kind,ok.glob,ok.blt,ok.above,ok.inj,ok.has,ok.cab,ok.hd,ok.frames,ok.stk,ok.exf,ok.bs,ok.bsz,ok.noex,ok.exfs,ok.funs,ok.frf⟩
def Cx.Ok.unwish(ok:(X.wish E).Ok):X.Ok :=
 ⟨ok.mod,ok.kind,ok.glob,ok.blt,ok.above,ok.inj,ok.has,ok.cab,ok.hd,ok.frames,ok.stk,ok.exf,ok.bs,ok.bsz,ok.noex,ok.exfs,ok.funs,ok.frf⟩
section
variable{σ:St}
def Zb.wish(I:Zb X pins σ H s)(E:Ox):Zb (X.wish E) pins σ H s:=⟨I.ok.wish E,I.os,I.bare,I.base,I.loc,I.cell,I.free,I.freeC,I.pin,I.hok,I.len⟩
def Zb.unwish(I:Zb (X.wish E) pins σ H s):Zb X pins σ H s:=⟨I.ok.unwish,I.os,I.bare,I.base,I.loc,I.cell,I.free,I.freeC,I.pin,I.hok,I.len⟩
def SP.unwish(h:SP (X.wish E) pins D f s'):SP X pins D f s':=by
 cases f with
 |next=>ext⟨c,e,I,q⟩ h;exact⟨c,e,I.unwish,q⟩
 |brk=>ext⟨c,e,I,q⟩ h;exact⟨c,e,I.unwish,q⟩
 |cont=>ext⟨c,e,I,q⟩ h;exact⟨c,e,I.unwish,q⟩
 |ret u=>ext⟨v,c,e,I,r,q⟩ h;exact⟨v,c,e,I.unwish,r,q⟩
def XV.nox{st:List Stmt}{t:TS}(h:XV X.nox st t):XV X st t:=λpins s σ H D I c =>
 Ou (h pins s σ H D (I.wish _) c) (λ_ _ q=>q.unwish) λ_ _ z=>False.elim z
end
section
variable{st:Stmt}{rest:List Stmt}{t u:TS}{e:Expr}{te:TE}
def Zdq:TS:=λD c H=>D.nx c H
def ZW(t u:TS):TS:=λD c H=>t {D with nx:=u D} c H
def ZL:XV X [] Zdq:=λ_ _ c H _ I h=>wpAny_execs_nil ⟨c,H,I,h⟩
def Zh(h1:PS X st t)(j:XV X rest u):XV X (st::rest) (ZW t u):=by
 intro pins s i H D I h;erw[wpAny_execs_cons (Zs (h1 pins s i H {D with nx:=u D} I h) λf B q=>?_)];cases f with
 |next =>
  ext⟨c,C,y,q⟩ q;exact j pins B c C D y q
 |ret v=>exact q
 |brk=>exact q
 |cont=>exact q
def Zi(h1:PS X st t):XV X [st] t:=by
 intro pins s c H D I h;erw[wpAny_execs_cons (Zs (h1 pins s c H D I h) λf i q=>?_)];cases f with
 |next=>exact wpAny_execs_nil q
 |ret v=>exact q
 |brk=>exact q
 |cont=>exact q
def Zb.quiet(I:Zb X pins c H s):interactive X.env=false:=by simp[interactive,I.ok.kind]
def Zdr(te:TE):TS:=λD c H=>te c H λ_ f=>D.nx c f
def Z1(i:PE X e te)(y:swapsWith e none pos.line X.env=pure false:=by rfl):PS X (.Expr e pos) (Zdr te):=by
 intro pins s c H D I h;exact wpAny_Expr_any (Zs (i pins s c H _ I h) λv B ⟨x,f,j,r1,q⟩=>⟨c,f,j,q⟩) I.quiet y
def Zds(te:TE):TS:=λD c H=>te c H D.rt
def ZA(i:PE X e te):PS X (.Return (some e) pos) (Zds te):=by
 intro pins s c H D I h;exact wpAny_Return_some (Zs (i pins s c H _ I h) λv y ⟨x,f,j,r1,q⟩=>⟨x,c,f,j,r1,q⟩)
def yM(c:TT)(t u:TS):TS:=λD f H=>c f H λb h=>if b=true then t D f h else u D f h
def ZK(B:PT X c q)(ha:XV X a t)(C:XV X b u):PS X (.If c a b pos) (yM q t u):=by
 intro pins s f H D I h;erw[wpAny_If (Zs (B pins s f H _ I h) λd j ⟨i,v,y⟩=>?_)];cases d with
 |true=>exact ha pins j f i D v y
 |false=>exact C pins j f i D v y
def Zdt:TS:=λ_ _ _=>False
def Xb:PS X st Zdt:=λ_ _ _ _ _ _ h=>h.elim
end
abbrev TG:=V->St->Hp->(St->Hp->Prop)->Prop
abbrev KA:=List V->St->Hp->(St->Hp->Prop)->Prop
def PG(X:Cx)(target:Expr)(t:TG):Prop :=
 ∀(pins:Oy) (s:Shared) (σ:St) (H:Hp) (v:V) (u:Value) (Q:St->Hp->Prop),Zb X pins σ H s->ZG v u->t v σ H Q ->
  wpAny (model X.prog X.w) X.A (assign target X.env u) (λ_ f=>∃e c,Zb X pins e c f/\Q e c) X.xe s
def KB(X:Cx)(f:OG)(t:KA):Prop :=
 ∀(pins:Oy) (s:Shared) (σ:St) (H:Hp) (vs:List V) (us:OE) (Q:St->Hp->Prop),Zb X pins σ H s->ZB vs us->t vs σ H Q ->
  wpAny (model X.prog X.w) X.A (assignInOrder ((assignEach f X.env).map (·.2)) us) (λ_ h=>∃e c,Zb X pins e c h/\Q e c) X.xe s
def XE(i:Nat):TG:=λv c H Q=>Q (c.set i (some v)) H
def MO(j:X.N.Nodup)(hi:X.N[i]? = some x)(f:Qz X.env.scope x)(c:X.fn x=true\/X.env.scope.names.lookup x=some .local:=by first|exact .inl rfl|exact .inr rfl|assumption):PG X (.Name x pos) (XE i):=by
 intro pins s q H v u Q I r h;exact wpAny_assign_Name (E3 I j hi f r (λy e=>⟨_,H,e,h⟩) c)
def Zdu:KA:=λe c H Q=>e=[]/\Q c H
inductive Zdv(t:TG)(u:KA)(vs:List V)(σ:St)(H:Hp)(Q:St->Hp->Prop):Prop|mk v r (_:vs=v::r) (_:t v σ H λσ' H'=>u r σ' H' Q)
def WI:KB X [] Zdu:=by
 intro pins s c H f i Q I r h;ext⟨e,h⟩ h;subst e;cases r;exact assignInOrder_nil ⟨c,H,I,h⟩
def YQ(h1:PG X e t)(j:KB X c u)
  (C:(assignEach (e::c) X.env).map (·.2)=assign e X.env::(assignEach c X.env).map (·.2):=by rfl):KB X (e::c) (Zdv t u):=by
 intro pins s q H M L Q I r h;ext⟨v,J,y,h⟩ h;subst y;cases r with
 |cons r f =>
  rw[C];erw[assignInOrder_cons (Zs (h1 pins s q H _ _ _ I r h) λ_ E ⟨i,D,B,G⟩=>?_)];exact j pins E i D _ _ Q B f G
inductive KD(K:OA)(n:Nat)(t:KA)(v:V)(σ:St)(H:Hp)(Q:St->Hp->Prop):Prop|mk a xs (_:v=.ref a) (_:Zl K H a xs) (_:xs.length=n) (_:t xs σ H Q)
def WJ(G:X.calm=true)(h:KB X c t)
  (hn:(assignEach c X.env).length=n:=by rfl) (D:(assignEach c X.env).findIdx? (·.1)=none:=by rfl):PG X (.Tuple c k pos) (KD X.K n t):=by
 intro pins s j H v u Q I r f;ext⟨a,q,J,C,B,f⟩ f;subst J;cases r;obtain⟨its,i,M,O⟩:=I.tuple C;erw[assign_Tuple_tuple (I.ok.hd G) M (by simp[hn,<-B,i.length]) D λE y=>?_];have L:Zb X pins j H {s with heap:=E}:=I.kept (t':=s.toks) λb o e=>y b o (Sg (Sf e)) e;exact h pins _ j H q _ Q L (by simpa using i) f
def KG(e:TE)(g:TG):TS:=λD c H=>e c H λx f=>g x c f D.nx
def MP(u:PE X e f)(B:PG X c g)(L:swapsWithSole [c] e pos.line X.env=pure false:=by rfl)(y:swappedStores [c] e X.env=pure none:=by rfl)
  (E:(assignEach [c] X.env).map (·.2)=[assign c X.env]:=by rfl):PS X (.Assign [c] e pos) (KG f g):=by
 intro pins s i H D I h;erw[wpAny_Assign_stores (Zs (u pins s i H _ I h) λv C ⟨x,j,G,r1,J⟩=>?_) L y];rw[E];exact Zs (B pins C i j x v _ G r1 J) λ_ s2 q=>q
def Zdw{pos':Pos}(L:X.N.Nodup)(hi:X.N[i]? = some x)(E:Qz X.env.scope x)(q:PE X e c)(J:swapsWith e (some (.Name x pos')) pos.line X.env=pure false:=by rfl)(B:X.fn x=true\/X.env.scope.names.lookup x=some .local:=by first|exact .inl rfl|exact .inr rfl|assumption) :
  PS X (.Assign [.Name x pos'] e pos) (KG c (XE i)):=by
 intro pins s j H D I h;erw[wpAny_Assign_Name (Zs (q pins s j H _ I h) λv M ⟨y,f,G,r1,C⟩=>?_) J];exact E3 G L hi E r1 (λs2 u=>⟨_,f,u,C⟩) B
inductive Zdx(i j:Nat)(D:Wz)(σ:St)(vs:List V)(H1:Hp):Prop|mk v w (_:vs=[v,w]) (_:D.nx ((σ.set i (some v)).set j (some w)) H1)
def Zdy(i j:Nat)(f:TA):TS:=λD c H=>f c H λe h=>Zdx i j D c e h
def Zdz{kt k2 pt2}(hc:X.calm=true)(E:X.N.Nodup)(hi:X.N[i]? = some x)(Q:X.N[j]? = some y)(b0:i≠j)
  (G:X.env.scope.names.lookup x=some .local) (H:X.env.scope.names.lookup y=some .local) (ha:PA X [a,b] L)
  (hw:swappedStores [.Tuple [.Name x C,.Name y B] kt pt] (.Tuple [a,b] k2 pt2) X.env=pure (some [x,y]))
  (hs:swapsWithSole [.Tuple [.Name x C,.Name y B] kt pt] (.Tuple [a,b] k2 pt2) pos.line X.env=pure false:=by rfl) :
  PS X (.Assign [.Tuple [.Name x C,.Name y B] kt pt] (.Tuple [a,b] k2 pt2) pos) (Zdy i j L):=by
 intro pins s J a0 c0 I h;rw[exec_Assign_arm];erw[Sa (wpAny_standAt ?_)];rw[hs];erw[Sa (Sb ?_)];rw[SX ()];erw[Sa (Tuple_ (Zs (ha _ pins s J a0 _ I h) λY f ⟨vs,M,I1,r1,D⟩=>?_))];ext⟨v,w,e1,D⟩ D;subst e1;obtain⟨u,c,rfl,U,Z⟩:∃u c,Y=[u,c]/\ZG v u/\ZG w c:=by
  cases r1 with
  |cons p q =>
   cases q with
   |cons p' T =>
    cases T;exact⟨_,_,R,p,p'⟩
 erw[wpAny_newObj_type ?_ (zL9 R)];have I2:Zb X pins J M {f with heap:=f.heap.push {cls:=.type "tuple",data:=.seq [u,c].toArray} }:=I1.kept (t':=f.toks) λb o e=>Sc _ e;rw[hw];erw[Sa (Sb ?_)];show wpAny (model X.prog X.w) X.A (do rule "assign.swapped-stores";let items <-unpackItems (.ref f.heap.objs.size) 2 none;assignInOrder [λv=>bindName X.env y v,λv=>bindName X.env x v] items.reverse;pure Flow.next) _ _ _;erw[Sa (wpAny_rule (Sa (unpackItems_tuple (items:=#[u,c]) (I.ok.hd hc) (IsTup.new f.heap _) λh' P=>?_)))];have I3:=I2.kept (h':=h') (t':=f.toks) λb o e=>P b o (Sg (Sf e)) e;show wpAny _ _ (assignInOrder [λv=>bindName X.env y v,λv=>bindName X.env x v] [c,u] >>= λ_=>pure Flow.next) _ _ _;erw[Sa (assignInOrder_cons (wpAny_bindName (E3 I3 E Q (.inl H) Z (λs2 S=>?_) (.inr H))))];erw[assignInOrder_cons (wpAny_bindName (E3 S E hi (.inl G) U (λs3 O=>assignInOrder_nil (Sb ?_)) (.inr G)))];rw[List.set_comm _ _ (Ne.symm b0)]at O;exact⟨_,M,O,D⟩
structure It where
 go:Nat->Hp->Prop
 yld:Nat->Hp->V->Hp->Prop
 stop:Nat->Hp->Prop
def Y4(X:Cx)(pins:Oy)(H:Hp)(b:Addr):Prop :=
 H b=none/\b≠X.env.locals/\b∉X.fs/\(b∈X.ex\/X.s₀.heap.objs.size<=b)/\(∀x c,X.env.cells.lookup x=some c->c≠b)/\∀p∈X.pn++pins,p.1≠b
def Zb.fpOk(I:Zb X pins i H s)(f:s.heap.objs.size<=b)(hn:h b=none):Y4 X pins h b:=by
 erw[⟨hn,Nat.ne_of_gt (Sj I.lt f),I.nofs f,.inr (Si I.sz f),λx c e z=>?_,λp j z=>?_⟩];obtain⟨v,q⟩:=I.cell x c e;exact Ov (Sj q.lt (by rwa[z])) (Sm _);exact Ov (Sj (Sf (I.pin p j).1) (by rwa[z])) (Sm _)
structure QA(P:Program)(w:World)(K:OA)(tg:Expr)(J:It)(fp:OK)(it:Addr)(tn:Nat->Heap->Prop):Prop where
 mem:it∈fp
 obj:∀i h,tn i h->∀b∈fp,∃o,h.get? b=some o/\∀v,o.data≠.cell v
 keep:∀i h h',tn i h->(∀b∈fp,∀o,h.get? b=some o->h'.get? b=some o)->tn i h'
 item:∀(X:Cx),X.prog=P->X.w=w->X.K=K->X.calm=true->∀(i:Nat) (pins:Oy) (s:Shared) (σ:St) (H:Hp) (E:Ox),Zb X pins σ H s->(∀b∈fp,Y4 X pins H b)->tn i s.heap->J.go i H ->
  wpAny (model P w) X.A (pyNext (.ref it)) (λr s1=>∃u,r=some u /\
   wpAny (model P w) X.A (letOwnedTupleGo tg (.ref it) u) (λ_ s2=>∃x H',Zb X pins σ H' s2/\ZG x u/\J.yld i H x H'/\tn (i+1) s2.heap/\∀b∈fp,H' b=none) E s1) E s
 done:∀(X:Cx),X.prog=P->X.w=w->X.K=K->X.calm=true->∀(i:Nat) (pins:Oy) (s:Shared) (σ:St) (H:Hp) (E:Ox),Zb X pins σ H s->(∀b∈fp,Y4 X pins H b)->tn i s.heap->J.stop i H ->
  wpAny (model P w) X.A (pyNext (.ref it)) (λr s1=>r=none/\Zb X pins σ H s1) E s
 self:∀(A:Around) (i:Nat) (s:Shared) (Q:Ox) (E:Ox),tn i s.heap->Q (.ref it) s->wpAny (model P w) A (pyIter (.ref it)) Q E s
abbrev TI:=St->Hp->(It->Hp->Prop)->Prop
inductive yN(X:Cx)(pins:Oy)(σ:St)(tg:Expr)(R:It->Hp->Prop)(itv:Value)(s2:Shared):Prop|mk (it:Addr) (fp:OK) (tn:Nat->Heap->Prop) (J:It) (H':Hp) (_:itv=.ref it) (_:Zb X pins σ H' s2) (_:QA X.prog X.w X.K tg J fp it tn) (_:tn 0 s2.heap) (_:(∀b∈fp,Y4 X pins H' b)) (_:R J H')
def PI(X:Cx)(e iter:Expr)(f:TI):Prop :=
 ∀(pins:Oy) (s:Shared) (σ:St) (H:Hp) (R:It->Hp->Prop),Zb X pins σ H s->f σ H R ->
  wpAny (model X.prog X.w) X.A (eval iter X.env) (λv c=>wpAny (model X.prog X.w) X.A (pyIter v) (yN X pins σ e R) X.xe c) X.xe s
def Q5 {o:Obj} (i:s.heap.get? it=some o) (f:o.cls=.type n) (hd:o.data=.fields vs)
    (hn:["enumerate","zip","dict_itemiterator","dict_reverseitemiterator","odict_iterator","itertools.zip_longest","itertools.pairwise"].contains n=false) (c:Q Unit.unit s):wpAny M A (letOwnedTupleGo e (.ref it) u) Q E s:=by
  unfold letOwnedTupleGo;cases e<;>first
    |exact Sb c
    | (cases u <;> first
        |exact Sb c
        | (refine Sa (Ot i ?_)
           rw[f,hd];show wpAny M A (if (["enumerate","zip","dict_itemiterator","dict_reverseitemiterator","odict_iterator","itertools.zip_longest","itertools.pairwise"].contains n && vs[0]? == some (rawInt _))=true then _ else _) Q E s;rw[SX (by intro h;rw[hn,Bool.false_and]at h;cases h)];exact Sb c))
def Qb(K:OA)(a:Addr):It :=
 ⟨λi H=>∃c x,Zg K H a c/\c[i]? = some x,λi H x e=>e=H/\∀c,Zg K H a c->c[i]? = some x,λi H=>∃c,Zg K H a c/\c.length<=i⟩
def Up(lo:Int)(n:Nat):It:=⟨λi _=>i<n,λi H x c=>c=H/\x=.int (lo+i),λi _=>n<=i⟩
def ZdA{tg:Expr}(a it:Addr):QA P w K tg (Qb K a) [it] it (λi h=>h.IsListIter it a i) where
 mem:=by simp
 obj:=λi h st b f=>by
  have e:b=it:=by simpa using f
  subst e;ext⟨o,e,c,d⟩ st;exact⟨o,e,λb0 z=>by rw[d]at z;cases z⟩
 keep:=λi h v st k=>st.at λo e=>k it (by simp) o e
 item:=by
  intro X C L y T i pins s U H a0 I j st O;subst C L y;ext⟨Y,x,q,E⟩ O;obtain⟨its,B,p,hz⟩:=I.list q;obtain⟨u,hu,ru⟩:=B.get E;obtain⟨G,D,Z,Q,M,J⟩:=j it (by simp);erw[wpAny_pyNext_list_item st p.isList (x:=u) (by simpa using hu) λv S sb=>?_];have I1:Zb X pins U H {s with heap:=v}:=I.turned (t':=s.toks) (λb o f e=>(sb.2 b f).trans e) G D Q M J;obtain⟨o,e,c,d⟩:=id S;exact⟨u,R,Q5 (s:={s with heap:=v}) e c d () ⟨x,H,I1,ru,⟨R,λys hy=>by rwa[I.list_inj hy q]⟩,S,λb f=>(j b f).1⟩⟩
 done:=by
  intro X C L y T i pins s U H a0 I j st O;subst C L y;ext⟨Y,q,E⟩ O;obtain⟨its,B,p,hz⟩:=I.list q;obtain⟨G,D,Z,Q,M,J⟩:=j it (by simp);have hl:=B.length;exact wpAny_pyNext_list_end (I.ok.hd T) st p.isList (by simp;lia) λv eb=>⟨R,I.turned (t':=s.toks) (λb o f e=>eb b o f e) G D Q M J⟩
 self:=λ_ _ _ _ _ st h=>wpAny_pyIter_listiter st h
def ZdB{T:Expr}(it:Addr)(lo:Int)(n:Nat):QA P w K T (Up lo n) [it] it (λi h=>IsRangeIter h it (lo+(i:Nat)*1) ((n:Int) - (i:Nat)) 1) where
 mem:=by simp
 obj:=λi h st b c=>by
  have e:b=it:=by simpa using c
  subst e;exact⟨_,st,λv z=>by
   have Q:Data.fields _=Data.cell v:=z;cases Q⟩
 keep:=λi h j st k=>k it (by simp) _ st
 item:=by
  intro X u E q B i pins s O H a0 I f st J;subst u E q;obtain⟨C,y,S,L,G,D⟩:=f it (by simp);have W:=Walks.range (prog:=X.prog) (w:=X.w) (I.ok.hd B) it lo 1 n;erw[W.item i s _ _ J st λv j tk Z M kk=>?_];ext⟨t,rfl⟩ Z;have Y:Zb X pins O H {s with heap:=j,toks:=tk}:=I.turned (λb o c e=>kk b o (by simpa using c) e) C y L G D;erw[⟨_,R,Q5 (s:={s with heap:=j,toks:=tk}) (n := "range_iterator") M R R () ⟨.int (lo+i),H,Y,⟨t,?_⟩,⟨R,R⟩,M,λb c=>(f b c).1⟩⟩];rw[Int.mul_one]
 done:=by
  intro X u E q B i pins s O H a0 I f st J;subst u E q;obtain⟨C,y,S,L,G,D⟩:=f it (by simp);exact wpAny_pyNext_range_end (I.ok.hd B) st (by have:n<=i:=J;lia) λj U=>⟨R,I.turned (t':=s.toks) (λb o c e=>U b o c e) C y L G D⟩
 self:=λ_ _ _ _ _ st h=>wpAny_pyIter_rangeiter st h
section
variable{tg:Expr}
inductive ZdC(K:OA)(R:It->Hp->Prop)(x:V)(H1:Hp):Prop|mk a (_:x=.ref a) (_:(∃xs,Zg K H1 a xs)) (_:R (Qb K a) H1)
def ZdD(K:OA)(tl:TE):TI:=λc H e=>tl c H λx f=>ZdC K e x f
def Wo{l:Expr}{tl:TE}(B:PE X l tl):PI X tg l (ZdD X.K tl):=by
 intro pins s j H E I h;erw[Zs (B pins s j H _ I h) λv c ⟨x,u,f,r1,C⟩=>?_];ext⟨a,e,⟨G,y⟩,q⟩ C;subst e;cases r1;obtain⟨its,J,p,D⟩:=f.list y;erw[wpAny_pyIter_list p.isList ?_];erw[⟨c.heap.objs.size,[c.heap.objs.size],_,_,u,R,f.kept (t':=c.toks) λb o e=>Sc _ e,ZdA a _,⟨_,Se _ R,R,R⟩,λb i=>?_,q⟩];have e:b=c.heap.objs.size:=by simpa using i
 subst e;exact f.fpOk (Sh _) (f.hok.fresh (Sh _))
def yO{c:St}{R:It->Hp->Prop}{lo hi:Int}{t u v:Tok}{tk:Nat}(I:Zb X pins c H s)(h1:-(2 ^ 62)<=lo)(i:lo<2 ^ 62)(C:-(2 ^ 62)<=hi)(j:hi<2 ^ 62)
  (q:R (Up lo (hi - lo).toNat) H):wpAny (model X.prog X.w) X.A (pyIter (.ref s.heap.objs.size)) (yN X pins c tg R) E {s with heap:=s.heap.push {cls:=.type "range",data:=.fields #[.int lo t,.int hi u,.int 1 v]},toks:=tk}:=by
 erw[wpAny_pyIter_range (IsRange.new ..) (small_one h1 i C j) ?_];have f:Zb X pins c H {s with heap:=s.heap.push {cls:=.type "range",data:=.fields #[.int lo t,.int hi u,.int 1 v]},toks:=tk}:=I.kept λb o e=>Sc _ e;refine⟨(s.heap.push {cls:=.type "range",data:=.fields #[.int lo t,.int hi u,.int 1 v]}).objs.size,[(s.heap.push {cls:=.type "range",data:=.fields #[.int lo t,.int hi u,.int 1 v]}).objs.size],_,_,H,rfl,
  f.kept (t':=tk) λb o e=>Sc _ e,ZdB _ lo (hi - lo).toNat,?_,λb h=>?_,q⟩
 have y:lo+((0:Nat):Int)*1=lo:=by simp
 have B:(((hi - lo).toNat:Nat):Int) - ((0:Nat):Int)=Builtin.Range.rangeSize lo hi 1:=by rw[rangeSize_one];split<;>omega
 show IsRangeIter _ _ (lo+((0:Nat):Int)*1) ((((hi - lo).toNat:Nat):Int) - ((0:Nat):Int)) 1;rw[y,B];exact Se _ rfl;have e:b=(s.heap.push {cls:=.type "range",data:=.fields #[.int lo t,.int hi u,.int 1 v]}).objs.size:=by simpa using h
 subst e;exact f.fpOk (Sh _) (f.hok.fresh (Sh _))
inductive ZdE(R:It->Hp->Prop)(vs:List V)(H1:Hp):Prop|mk (j:Int) (_:vs=[.int j]) (_:-(2 ^ 62)<=j) (_:j<2 ^ 62) (_:R (Up 0 j.toNat) H1)
def ZdF(e:TA):TI:=λi H f=>e i H λc h=>ZdE f c h
inductive ZdG(R:It->Hp->Prop)(vs:List V)(H1:Hp):Prop|mk (i j:Int) (_:vs=[.int i,.int j]) (_:(-(2 ^ 62)<=i/\i<2 ^ 62/\-(2 ^ 62)<=j/\j<2 ^ 62)) (_:R (Up i (j - i).toNat) H1)
def ZdH(e:TA):TI:=λi H f=>e i H λc h=>ZdG f c h
def Uq{a:Expr}{f:TA}{p:Pos}(C:Gl X "range") (hm:X.mg "range"=none) (ha:PA X [a] f) (B:starEach [a] X.env=[(false,eval a X.env)]:=by rfl):PI X tg (.Call (.Name "range" p) [a] [] pos) (ZdF f):=by
 intro pins s v H G I h;erw[Call_ (UE I C hm boot_range (PyProof.Rows.callWith_type1 (Zs (ha pos pins s v H _ I h) λD L ⟨E,J,y,r1,c⟩=>?_) B R))];ext⟨j,e,c,u,q⟩ c;subst e;cases r1 with
 |cons r i =>
  cases i;ext⟨t,rfl⟩ r;exact call_range_1 (yO y () () c u (by simpa using q))
def yP(L:Gl X "range") (hm:X.mg "range"=none) (ha:PA X [a,b] v) (G:starEach [a,b] X.env=[(false,eval a X.env),(false,eval b X.env)]:=by rfl) (u:starEach [b] X.env=[(false,eval b X.env)]:=by rfl) :
  PI X tg (.Call (.Name "range" p) [a,b] [] pos) (ZdH v):=by
 intro pins s D H Q I h;erw[Call_ (UE I L hm boot_range (PyProof.Rows.callWith_type1 (Zs (ha pos pins s D H _ I h) λO T ⟨P,S,E,r1,f⟩=>?_) (by rw[G,u]) (by rw[u];rfl)))];ext⟨i,j,e,⟨f,B,J,y⟩,q⟩ f;subst e;cases r1 with
 |cons r c =>
  cases c with
  |cons C c =>
   cases c;ext⟨t,rfl⟩ r;ext⟨M,rfl⟩ C;exact call_range_2 (yO E f B J y q)
def yQ(q:TI)(g:TG)(u:TS):TS:=λD c H=>q c H λJ v=>∃W:Nat->Nat->St->Hp->Prop,(∃m,W 0 m c v)/\∀i m c H,W i m c H ->
 (J.stop i H/\D.nx c H)\/(J.go i H/\∃N:St->Hp->Prop,(∀h e,N h e->∃f,f<m/\W (i+1) f h e)/\∀x e,J.yld i H x e->g x c e λj y=>u {D with nx:=N,ct:=N,bk:=D.nx} j y)
def QB(fp:OK)(h:Heap):List (Addr×Obj):=fp.filterMap λb=>(h.get? b).map λo=>(b,o)
def KH{h:Heap}(c:b∈fp)(e:h.get? b=some o):(b,o)∈QB fp h:=List.mem_filterMap.mpr ⟨b,c,by rw[e];rfl⟩
def ZdI{h:Heap}{p:Addr×Obj}(i:p∈QB fp h):p.1∈fp/\h.get? p.1=some p.2:=by
 obtain⟨b,f,e⟩:=List.mem_filterMap.mp i;cases q:h.get? b with
 |none=>rw[q]at e;cases e
 |some o =>
  rw[q]at e;have c:(b,o)=p:=Sr e;subst c;exact⟨f,q⟩
def Zb.pinned(I:Zb X pins h H s)(q:∀b∈fp,Y4 X pins H b)(j:∀b∈fp,∃o,s.heap.get? b=some o/\∀v,o.data≠.cell v):Zb X (pins++QB fp s.heap) h H s :=
 I.pins_of λp y=>(SI.mp y).elim (λz=>I.pin p (SJ _ z)) λz=>by
  obtain⟨f,e⟩:=ZdI z;obtain⟨i,u,B,_⟩:=q p.1 f;obtain⟨o,c,d⟩:=j p.1 f;rw[e]at c;cases c;exact⟨e,i,u,B,d⟩
def Zb.unpinned(I:Zb X (pins++pl) c H s):Zb X pins c H s:=I.pins_of λp e=>I.pin p (SJ _ (SK _ e))
def yR{iter:Expr}{body:List Stmt}(y:PassesOwn (model X.prog X.w) X.A X.env X.xe)(P:X.calm=true)(hi:PI X tg iter S)(hg:PG X tg g)(c:XV X body U)
  (hs:∀x,foldedSetIterable iter X.env x=pure x:=by intro _;rfl):PS X (.For tg iter body [] pos) (yQ S g U):=by
 intro pins s Q g0 n0 e0 d0;erw[wpAny_For (Zs (hi pins s Q g0 _ e0 d0) λi0 s1 h1=>Zs h1 λl0 s2 h2=>?_) hs];ext⟨it,fp,tn,k0,H2,e,I2,T,h0,J,W,⟨m0,w0⟩,turn⟩ h2;subst e
 -- what stays true of the iterator's objects through the loop
 have E:∀{q:Hp},(∀b∈fp,q b=none)->∀b∈fp,Y4 X pins q b:=λhn b c=>⟨hn b c,(J b c).2⟩;erw[codeAny_forLoop_any (λn s'=>∃i B q,Zb X pins B q s'/\tn i s'.heap/\(∀b∈fp,q b=none)/\W i n B q) ?_ m0 ⟨0,Q,H2,I2,h0,λb c=>(J b c).1,w0⟩];rintro n L ⟨i,v,D,Z,M,Y,w3⟩;rcases turn i n v D w3 with⟨stop,qn⟩|⟨go,N,hN,step⟩;erw[wpAny_passesOwn y (Zs (T.done X R R R P i pins L v D X.xe Z (E Y) M stop) λr s4 ⟨I,I4⟩=>?_)];subst I;exact wpAny_execs_nil ⟨v,D,I4,qn⟩;erw[wpAny_passesOwn y (Zs (T.item X R R R P i pins L v D X.xe Z (E Y) M go) λr s4 ⟨b0,I,h4⟩=>?_)];subst I;erw[wpAny_passesOwn y (Zs h4 λ_ s5 ⟨x,O,I5,r5,y5,H,f0⟩=>?_)];have a0:=I5.pinned (E f0) (T.obj _ _ H);erw[wpAny_passesOwn y (Zs (hg _ s5 v O x b0 _ a0 r5 (step x O y5)) λ_ s6 ⟨c0,H6,I6,q6⟩=>?_)];erw[wpAny_passesOwn y (Zs (c _ s6 c0 H6 _ I6 q6) λj0 G u=>?_)];have again:∀{h:St} {f:Hp},Zb X (pins++QB fp s5.heap) h f G->N h f->∃m,m<n/\∃i B q,Zb X pins B q G/\tn i G.heap/\(∀b∈fp,q b=none)/\W i m B q:=λ{h f} j C=>by
  obtain⟨m',hm,w7⟩:=hN h f C;erw[⟨m',hm,i+1,h,f,j.unpinned,T.keep _ _ _ H λb c o e=>(j.pin (b,o) (SJ _ (SJ _ (KH c e)))).1,λb c=>?_,w7⟩];obtain⟨o,e,d⟩:=T.obj _ _ H b c;exact(j.pin (b,o) (SJ _ (SJ _ (KH c e)))).2.1
 cases j0 with
 |next=>ext⟨h,f,j,C⟩ u;exact again j C
 |cont=>ext⟨h,f,j,C⟩ u;exact again j C
 |brk=>ext⟨h,f,j,u⟩ u;exact⟨h,f,j.unpinned,u⟩
 |ret i0=>ext⟨x7,h,f,j,r7,u⟩ u;exact⟨x7,h,f,j.unpinned,r7,u⟩
end
def Qc{a:Addr}{xs:List V}{g:TG}{C:TS}{D:Wz}{c:St}(f:Nat->St->Hp->Prop)(L:f 0 c H)(M:∀i c H,i<=xs.length->f i c H->Zg K H a xs)
  (G:∀i x c H,xs[i]? = some x->f i c H->g x c H λu v=>C {D with nx:=f (i+1),ct:=f (i+1),bk:=D.nx} u v) (hd:∀c H,f xs.length c H->D.nx c H) :
  ∃W:Nat->Nat->St->Hp->Prop,(∃m,W 0 m c H)/\∀i m c H,W i m c H ->
   ((Qb K a).stop i H/\D.nx c H)\/((Qb K a).go i H/\∃N:St->Hp->Prop,(∀j h,N j h->∃B,B<m/\W (i+1) B j h)/\∀x h,(Qb K a).yld i H x h->g x c h λu v=>C {D with nx:=N,ct:=N,bk:=D.nx} u v):=by
 erw[⟨λi m c H=>m=xs.length - i/\i<=xs.length/\f i c H,⟨xs.length,by simp,Sl _,L⟩,?_⟩];rintro i m c H ⟨rfl,I,p⟩;have q:=M i c H I p;by_cases E:i<xs.length;erw[.inr ⟨⟨xs,xs[i],q,by simp[E]⟩,f (i+1),λj h J=>⟨xs.length - (i+1),(),R,E,J⟩,λx h y=>?_⟩];ext⟨e,y⟩ y;subst e;exact G i x c _ (y xs q) p;have e:i=xs.length:=by lia
 subst e;exact .inl ⟨⟨xs,q,Sh _⟩,hd c H p⟩
def UH{lo:Int}{n:Nat}{g:TG}{C:TS}{D:Wz}{c:St}(f:Nat->St->Hp->Prop)(I:f 0 c H)
  (E:∀i c H,i<n->f i c H->g (.int (lo+i)) c H λq v=>C {D with nx:=f (i+1),ct:=f (i+1),bk:=D.nx} q v) (hd:∀c H,f n c H->D.nx c H) :
  ∃W:Nat->Nat->St->Hp->Prop,(∃m,W 0 m c H)/\∀i m c H,W i m c H ->
   ((Up lo n).stop i H/\D.nx c H)\/((Up lo n).go i H/\∃N:St->Hp->Prop,(∀j h,N j h->∃B,B<m/\W (i+1) B j h)/\∀x h,(Up lo n).yld i H x h->g x c h λq v=>C {D with nx:=N,ct:=N,bk:=D.nx} q v):=by
 erw[⟨λi m c H=>m=n - i/\i<=n/\f i c H,⟨n,by simp,Sl _,I⟩,?_⟩];rintro i m c H ⟨rfl,J,p⟩;by_cases u:i<n;erw[.inr ⟨u,f (i+1),λj h G=>⟨n - (i+1),(),R,u,G⟩,λx h y=>?_⟩];ext⟨e,y⟩ y;subst e y;exact E i c _ u p;have e:i=n:=by lia
 subst e;exact .inl ⟨Sh _,hd c H p⟩
abbrev R2:=V->V->Hp->VK->Prop
def YK(X:Cx)(f:Value->Value->Sem Value)(r:R2):Prop :=
 ∀(pins:Oy) (s:Shared) (σ:St) (H:Hp) (x y:V) (v u:Value) (Q:VK),Zb X pins σ H s->ZG x v->ZG y u->r x y H Q ->
  wpAny (model X.prog X.w) X.A (f v u) (EP X pins σ Q) X.xe s
def YT(X:Cx)(f:Value)(r:List V->Hp->VK->Prop):Prop :=
 ∀(pins:Oy) (s:Shared) (σ:St) (H:Hp) (xs:List V) (us:OE) (Q:VK),Zb X pins σ H s->ZB xs us->r xs H Q ->
  wpAny (model X.prog X.w) X.A (call f us) (EP X pins σ Q) X.xe s
def ZdJ(X:Cx)(r:V->Hp->(Bool->Hp->Prop)->Prop):Prop :=
 ∀(pins:Oy) (s:Shared) (σ:St) (H:Hp) (x:V) (v:Value) (Q:Bool->Hp->Prop),Zb X pins σ H s->ZG x v->r x H Q ->
  wpAny (model X.prog X.w) X.A (truthy v) (TP X pins σ Q) X.xe s
def W0(r:R2)(e h:TE):TE:=λc H Q=>e c H λx f=>h c f λy i=>r x y i Q
inductive rI(C:Int->Int->Prop)(g:Int->Int->V)(x:V)(y:V)(H:Hp)(Q:VK):Prop|mk i j (_:x=.int i) (_:y=.int j) (_:C i j) (_:Q (g i j) H)
inductive UI(g:Int->Int->V)(x:V)(y:V)(H:Hp)(Q:VK):Prop|mk i j (_:x=.int i) (_:y=.int j) (_:Q (g i j) H)
section
variable{a b c:Expr}{ta tb tc:TE}
def MQ(ha:PE X a ta)(q:PE X b tb){e:St}{R:V->V->Hp->Prop}(I:Zb X pins e H s)
  (h:ta e H λx j=>tb e j λy i=>R x y i) {Q:Ox} {f:Value->Value->Sem Value}
  (C:∀v u s2 x y i,Zb X pins e i s2->ZG x v->ZG y u->R x y i->wpAny (model X.prog X.w) X.A (f v u) Q X.xe s2) :
  wpAny (model X.prog X.w) X.A (eval a X.env) (λv E=>wpAny (model X.prog X.w) X.A (eval b X.env) (λu O=>wpAny (model X.prog X.w) X.A (f v u) Q X.xe O) X.xe E) X.xe s:=by
 erw[Zs (ha pins s e H _ I h) λv G ⟨x,j,M,r1,D⟩=>?_];erw[Zs (q pins G e j _ M D) λu s2 ⟨y,i,B,J,L⟩=>?_];exact C v u s2 x y i B r1 J L
def Zf{e:Operator}{r:R2}(B:YK X (binaryOp e) r)(ha:PE X a ta)(f:PE X b tb):PE X (.BinOp a e b pos) (W0 r ta tb):=by
 intro pins s i H Q I h;exact wpAny_BinOp (MQ ha f I h λv u s2 x y E j D C q=>B pins s2 i E x y v u Q j D C q)
def E4{f:Value->Value->Sem Value}{C:Int->Int->Prop}{g:Int->Int->Int}
  (rule:∀(i j:Int) (t u:Tok) (s:Shared) (Q:Ox) (E:Ox),C i j->Q (.int (g i j) s.toks) {s with toks:=s.toks+1}->wpAny (model X.prog X.w) X.A (f (.int i t) (.int j u)) Q E s) :
  YK X f (rI C λi j=>.int (g i j)):=by
 intro pins s J H x y v u Q I G D h;ext⟨i,j,rfl,rfl,e,q⟩ h;ext⟨t,rfl⟩ G;ext⟨B,rfl⟩ D;exact rule i j t B s _ _ e ⟨.int (g i j),H,I.tok _,⟨_,R⟩,q⟩
def MR{f:Value->Value->Sem Value}{g:Int->Int->Int}
  (rule:∀(i j:Int) (t u:Tok) (s:Shared) (Q:Ox) (E:Ox),Q (.int (g i j) s.toks) {s with toks:=s.toks+1}->wpAny (model X.prog X.w) X.A (f (.int i t) (.int j u)) Q E s) :
  YK X f (UI λi j=>.int (g i j)):=by
 intro pins s D H x y v u Q I C B h;ext⟨i,j,rfl,rfl,q⟩ h;ext⟨t,rfl⟩ C;ext⟨e,rfl⟩ B;exact rule i j t e s _ _ ⟨.int (g i j),H,I.tok _,⟨_,R⟩,q⟩
def KI{f:Value->Value->Sem Value}{g:Int->Int->Bool}
  (rule:∀(i j:Int) (t u:Tok) (s:Shared) (Q:Ox) (E:Ox),Q (.bool (g i j)) s->wpAny (model X.prog X.w) X.A (f (.int i t) (.int j u)) Q E s) :
  YK X f (UI λi j=>.bl (g i j)):=by
 intro pins s D H x y v u Q I C B h;ext⟨i,j,rfl,rfl,q⟩ h;ext⟨t,rfl⟩ C;ext⟨e,rfl⟩ B;exact rule i j t e s _ _ ⟨.bl (g i j),H,I,R,q⟩
def ZdK(i j:Int):Prop:=0<j/\j<1073741824
def ZdL(i j:Int):Prop:=0<=j/\j<=1000000/\i.natAbs<2 ^ 64
def KJ(i j:Int):Prop:=(-(2 ^ 64)<i/\i<2 ^ 64)\/(-(2 ^ 64)<j/\j<2 ^ 64)
def KJ.ok(h:KJ i j):IntMulOk i j:=by
 rcases h with⟨e,f⟩|⟨e,f⟩;exact .of_left (intBits_le_64 e f);exact .of_right (intBits_le_64 e f)
def ZdM(k:Nat):(0:Int)<=2 ^ k:=by
 rw[two_pow_cast];exact Int.natCast_nonneg _
def Z9:YK X (binaryOp .Add) (UI λi j=>.int (i+j)):=MR λ_ _ _ _ _ _ _ q=>add_int q
def Vm:YK X (binaryOp .Sub) (UI λi j=>.int (i - j)):=MR λ_ _ _ _ _ _ _ q=>sub_int q
def VH:YK X (binaryOp .Mult) (rI KJ λi j=>.int (i*j)):=E4 λ_ _ _ _ _ _ _ e q=>mul_int q e.ok
def YN:YK X (binaryOp .FloorDiv) (rI ZdK λi j=>.int (i/j)):=E4 λi j _ _ _ _ _ e q=>by
 have f:(0:Int)<j:=e.1;have h:j<1073741824:=e.2;exact floordiv_int () (by rwa[Int.fdiv_eq_ediv_of_nonneg i ()]) (.inl (PyProof.noPylong_small ()))
def ZZ:YK X (binaryOp .Mod) (rI (λ_ j=>0<j) λi j=>.int (i%j)):=E4 λi j _ _ _ _ _ e q=>by
 have f:(0:Int)<j:=e;exact mod_int' () (by rwa[Int.fmod_eq_emod_of_nonneg i ()])
def yS:YK X (binaryOp .LShift) (rI ZdL λi j=>.int (i*2 ^ j.toNat)):=E4 λ_ _ _ _ _ _ _ e q=>lshift_int_small e.1 e.2.1 e.2.2 q
def ZdN:YK X (binaryOp .RShift) (rI (λ_ j=>0<=j) λi j=>.int (i/2 ^ j.toNat)):=E4 λi j _ _ _ _ _ e q =>
 rshift_int e (by rwa[Int.fdiv_eq_ediv_of_nonneg i (ZdM _)])
def ZdO:YK X (binaryOp .BitAnd) (UI λi j=>.int (Builtin.bitAnd i j)):=MR λ_ _ _ _ _ _ _ q=>and_int q
end
def MS:V->V->Bool
 |.non,.non=>true|.non,.int _=>true|.int _,.non=>true|.non,.bl _=>true|.bl _,.non=>true|.non,.str _=>true|.str _,.non=>true
 |.int _,.int _=>true|.bl _,.bl _=>true|.str _,.str _=>true|.byt _,.byt _=>true
 |.int _,.str _=>true|.str _,.int _=>true|.bl _,.str _=>true|.str _,.bl _=>true
 |_,_=>false
def rEq:R2:=λx y H Q=>MS x y=true/\Q (.bl (decide (x=y))) H
def rNe:R2:=λx y H Q=>MS x y=true/\Q (.bl (!decide (x=y))) H
def VI:decide (V.int i=V.int j)=(i==j):=by
 rw[Bool.eq_iff_iff];simp
def KL:decide (V.bl i=V.bl j)=(i==j):=by
 rw[Bool.eq_iff_iff];simp
def yT:decide (V.str i=V.str j)=(i==j):=by
 rw[Bool.eq_iff_iff];simp
def yU{i j:Array UInt8}:decide (V.byt i=V.byt j)=(i.toList==j.toList):=by
 rw[Bool.eq_iff_iff];cases i;cases j;simp
section
variable{a b c:Expr}{ta tb tc:TE}
def YY(I:Zb X pins f H s)(q:Q (.bl k) H)(e:k=h):EP X pins f Q (.bool h) s:=by
 subst e;exact⟨.bl k,H,I,R,q⟩
def YZ:YK X (compareOp .Eq) rEq:=by
 intro pins s D H x y v u Q I C e h;ext⟨B,q⟩ h;cases x with
 |non =>
  cases C;cases y with
  |non=>cases e;exact PySem.EqNone.eq_none_none (YY I q (by simp))
  |bl j=>cases e;exact PySem.EqNone.eq_none_bool (YY I q (by simp))
  |int j=>ext⟨f,rfl⟩ e;exact PySem.EqNone.eq_none_int (YY I q (by simp))
  |str j=>ext⟨f,rfl⟩ e;exact PySem.EqNone.eq_none_str (YY I q (by simp))
  |_=>exact Ov (show false=true from B) SR
 |bl i =>
  cases C;cases y with
  |non=>cases e;exact PySem.EqNone.eq_bool_none (YY I q (by simp))
  |bl j=>cases e;exact eq_bool (YY I q KL)
  |str j=>ext⟨f,rfl⟩ e;exact PySem.EqMixed.eq_bool_str (YY I q (by simp))
  |_=>exact Ov (show false=true from B) SR
 |int i =>
  ext⟨t,rfl⟩ C;cases y with
  |non=>cases e;exact PySem.EqNone.eq_int_none (YY I q (by simp))
  |int j=>ext⟨f,rfl⟩ e;exact eq_int (YY I q VI)
  |str j=>ext⟨f,rfl⟩ e;exact PySem.EqMixed.eq_int_str (YY I q (by simp))
  |_=>exact Ov (show false=true from B) SR
 |str i =>
  ext⟨t,rfl⟩ C;cases y with
  |non=>cases e;exact PySem.EqNone.eq_str_none (YY I q (by simp))
  |bl j=>cases e;exact PySem.EqMixed.eq_str_bool (YY I q (by simp))
  |int j=>ext⟨f,rfl⟩ e;exact PySem.EqMixed.eq_str_int (YY I q (by simp))
  |str j=>ext⟨f,rfl⟩ e;exact eq_str (YY I q yT)
  |_=>exact Ov (show false=true from B) SR
 |byt i =>
  ext⟨t,rfl⟩ C;cases y with
  |byt j=>ext⟨f,rfl⟩ e;exact W.eq_bytes (YY I q yU)
  |_=>exact Ov (show false=true from B) SR
 |_=>cases y<;>exact Ov (show false=true from B) SR
def E5:YK X (compareOp .NotEq) rNe:=by
 intro pins s D H x y v u Q I C e h;ext⟨B,q⟩ h;cases x with
 |non =>
  cases C;cases y with
  |non=>cases e;exact PySem.EqNone.ne_none_none (YY I q (by simp))
  |bl j=>cases e;exact PySem.EqNone.ne_none_bool (YY I q (by simp))
  |int j=>ext⟨f,rfl⟩ e;exact PySem.EqNone.ne_none_int (YY I q (by simp))
  |str j=>ext⟨f,rfl⟩ e;exact PySem.EqNone.ne_none_str (YY I q (by simp))
  |_=>exact Ov (show false=true from B) SR
 |bl i =>
  cases C;cases y with
  |non=>cases e;exact PySem.EqNone.ne_bool_none (YY I q (by simp))
  |bl j=>cases e;exact ne_bool (YY I q (congrArg not KL))
  |str j=>ext⟨f,rfl⟩ e;exact PySem.EqMixed.ne_bool_str (YY I q (by simp))
  |_=>exact Ov (show false=true from B) SR
 |int i =>
  ext⟨t,rfl⟩ C;cases y with
  |non=>cases e;exact PySem.EqNone.ne_int_none (YY I q (by simp))
  |int j=>ext⟨f,rfl⟩ e;exact ne_int (YY I q (congrArg not VI))
  |str j=>ext⟨f,rfl⟩ e;exact PySem.EqMixed.ne_int_str (YY I q (by simp))
  |_=>exact Ov (show false=true from B) SR
 |str i =>
  ext⟨t,rfl⟩ C;cases y with
  |non=>cases e;exact PySem.EqNone.ne_str_none (YY I q (by simp))
  |bl j=>cases e;exact PySem.EqMixed.ne_str_bool (YY I q (by simp))
  |int j=>ext⟨f,rfl⟩ e;exact PySem.EqMixed.ne_str_int (YY I q (by simp))
  |str j=>ext⟨f,rfl⟩ e;exact ne_str (YY I q (congrArg not yT))
  |_=>exact Ov (show false=true from B) SR
 |byt i =>
  ext⟨t,rfl⟩ C;cases y with
  |byt j=>ext⟨f,rfl⟩ e;exact W.ne_bytes (YY I q (congrArg not yU))
  |_=>exact Ov (show false=true from B) SR
 |_=>cases y<;>exact Ov (show false=true from B) SR
def KM:YK X (compareOp .Lt) (UI λi j=>.bl (decide (i<j))):=KI λ_ _ _ _ _ _ _ q=>lt_int q
def Vn:YK X (compareOp .LtE) (UI λi j=>.bl (decide (i<=j))):=KI λ_ _ _ _ _ _ _ q=>le_int q
def QC:YK X (compareOp .Gt) (UI λi j=>.bl (decide (j<i))):=KI λ_ _ _ _ _ _ _ q=>gt_int q
def yV:YK X (compareOp .GtE) (UI λi j=>.bl (decide (j<=i))):=KI λ_ _ _ _ _ _ _ q=>ge_int q
def Vo(b:Expr)(h:e≠.In:=by lia)(j:e≠.NotIn:=by lia):behindInMarks e b=false:=by
 have f:(e==CmpOp.In)=false:=by cases e<;>first|rfl|exact Ov R h
 have i:(e==CmpOp.NotIn)=false:=by cases e<;>first|rfl|exact Ov R j
 cases b<;>simp[behindInMarks,f,i]
def WB(B:YK X (compareOp e) r)(ha:PE X a ta)(f:PE X b tb)(hm:behindInMarks e b=false):PE X (.Compare a [e] [b] pos) (W0 r ta tb):=by
 intro pins s i H Q I h;exact wpAny_Compare1 (MQ ha f I h λv u s2 x y E j D C q=>B pins s2 i E x y v u Q j D C q) hm
inductive ZdP(Q:Bool->Hp->Prop)(x:V)(H':Hp):Prop|mk k (_:x=.bl k) (_:Q k H')
def KN(t:TE):TT:=λe H Q=>t e H λx f=>ZdP Q x f
def yW(D:YK X (compareOp i) r)(ha:PE X a ta)(j:PE X b tb)(hm:behindInMarks i b=false):PT X (.Compare a [i] [b] pos) (KN (W0 r ta tb)):=by
 intro pins s f H Q I h;refine wpAny_isTrue_Compare1 (Zs (ha pins s f H _ I h) λv O ⟨x,L,G,r1,S⟩=>Zs (j pins O f L _ G S) λu s2 ⟨y,J,C,E,B⟩ =>
  Zs (D pins s2 f J x y v u _ C r1 E B) λc T ⟨z,q,P,r3,k,e,M⟩=>?_) hm
 subst e;cases r3;exact wpAny_truthy_bool ⟨q,P,M⟩
inductive ZdQ(r':R2)(tc:TE)(σ:St)(Q:VK)(y:V)(z:V)(H3:Hp):Prop|mk k (_:z=.bl k) (_:(if k=true then tc σ H3 λw' H4=>r' y w' H4 Q else Q (.bl false) H3))
def yX(r j:R2)(ta tb tc:TE):TE:=λe H Q=>ta e H λx f=>tb e f λy i=>r x y i λz h=>ZdQ j tc e Q y z h
def MT(Y:YK X (compareOp i) r)(G:YK X (compareOp f) q)(ha:PE X a ta)(E:PE X b tb)(T:PE X c tc)
  (hm:lastMarks [i,f] [b,c]=false:=by with_unfolding_all rfl):PE X (.Compare a [i,f] [b,c] pos) (yX r q ta tb tc):=by
 intro pins s e H Q I h;refine Compare_chain (Zs (ha pins s e H _ I h) λa0 s1 ⟨x,H1,Z,r1,q1⟩=>chain_link (Zs (E pins s1 e H1 _ Z q1) λu s2 ⟨y,H2,U,v,S⟩ =>
  Zs (Y pins s2 e H2 x y a0 u _ U r1 v S) λd M ⟨z,j,C,r3,k,b0,B⟩=>?_)) hm
 subst b0;cases r3;erw[wpAny_truthy_bool ?_];cases k with
 |false=>exact ite_ff ⟨.bl false,j,C,R,B⟩
 |true=>exact ite_tt (chain_last (Zs (T pins M e j _ C B) λw' O ⟨D,H4,J,L,P⟩=>G pins O e H4 y D u w' Q J v L P))
def MU(ho:YK X (compareOp i) r)(G:YK X (compareOp f) q)(ha:PE X a ta)(E:PE X b tb)(Z:PE X c tc)
  (hm:lastMarks [i,f] [b,c]=false:=by with_unfolding_all rfl):PT X (.Compare a [i,f] [b,c] pos) (KN (yX r q ta tb tc)):=by
 intro pins s e a0 d0 I h;refine isTrue_chain (Zs (ha pins s e a0 _ I h) λb0 s1 ⟨x,H1,I1,r1,q1⟩=>test_link (Zs (E pins s1 e H1 _ I1 q1) λu s2 ⟨y,H2,I2,v,S⟩ =>
  Zs (ho pins s2 e H2 x y b0 u _ I2 r1 v S) λd O ⟨z,j,C,r3,k,c0,B⟩=>?_)) hm
 subst c0;cases r3;erw[wpAny_truthy_bool ?_];cases k with
 |false =>
  ext⟨k',M,J⟩ B;cases M;exact ite_ff ⟨j,C,J⟩
 |true =>
  erw[ite_tt (test_last (Zs (Z pins O e j _ C B) λw' P ⟨D,H4,H,L,Q⟩=>Zs (G pins P e H4 y D u w' _ H v L Q) λd' s5 ⟨z2,T,I5,r5,k2,U,Y⟩=>?_))];subst U;cases r5;exact wpAny_truthy_bool ⟨T,I5,Y⟩
def yY(K:OA)(x:V)(H:Hp)(k:Bool):Prop :=
 match x with
 |.non=>k=false
 |.bl b=>k=b
 |.int i=>k=(i != 0)
 |.str y=>y.length<=sizeLine/\k=((y.length:Int) != 0)
 |.byt y=>y.size<=sizeLine/\k=((y.size:Int) != 0)
 |.ref p=>(∃e,Zg K H p e/\k = !e.isEmpty)\/(∃e,Zl K H p e/\k = !e.isEmpty)\/∃f,H p=some (.dK f)/\k = !f.isEmpty
 |_=>False
def ZdR{κ:Type}{e:List (κ×V)}{vs:List (κ×Value)}(r:KV e vs):(!vs.isEmpty) = !e.isEmpty:=by
 cases r<;>rfl
def yZ{xs:List V}{its:OE}(r:ZB xs its):(!its.toArray.isEmpty) = !xs.isEmpty:=by
 cases r<;>simp
def Q6:(sizeLine:Nat)<2 ^ 63:=by rw[sizeLine_eq];lia
def ZdS:ZdJ X (λx H Q=>∃k,yY X.K x H k/\Q k H):=by
 intro pins s O H x v Q I B h;ext⟨k,e,q⟩ h;have M:=Q6;have S:sizeLine=16777216:=sizeLine_eq;cases x with
 |non =>
  cases B;have f:k=false:=e;subst f;exact truthy_none ⟨H,I,q⟩
 |bl b =>
  cases B;have f:k=b:=e;subst f;exact wpAny_truthy_bool ⟨H,I,q⟩
 |int i =>
  ext⟨t,rfl⟩ B;have f:k=(i != 0):=e;subst f;exact PySem.P.truthy_int ⟨H,I,q⟩
 |str y =>
  ext⟨t,rfl⟩ B;obtain⟨L,f⟩:y.length<=sizeLine/\k=((y.length:Int) != 0):=e;subst f;exact PySem.P.truthy_str () ⟨H,I.tok _,q⟩
 |byt y =>
  ext⟨t,rfl⟩ B;obtain⟨L,f⟩:y.size<=sizeLine/\k=((y.size:Int) != 0):=e;subst f;exact W.truthy_bytes () ⟨H,I.tok _,q⟩
 |ref p =>
  cases B;have f:(∃j,Zg X.K H p j/\k = !j.isEmpty)\/(∃j,Zl X.K H p j/\k = !j.isEmpty)\/∃u,H p=some (.dK u)/\k = !u.isEmpty:=e;rcases f with⟨j,C,f⟩|⟨j,C,f⟩|⟨u,C,f⟩;subst f;obtain⟨its,r,E,G⟩:=I.list C;have hlen:=r.length;exact wpAny_truthy_list E.isList (by simp only[SQ];lia) ⟨H,I.tok _,by rwa[yZ r]⟩;subst f;obtain⟨its,r,E,G⟩:=I.tuple C;have hlen:=r.length;exact truthy_tuple E (by simp only[SQ];lia) ⟨H,I.tok _,by rwa[yZ r]⟩;subst f;obtain⟨G,J,D,r,m⟩:u.length<=sizeLine/\(p==sysModules)=false/\∃D,KV u D/\s.heap.DictOf (Xp X.prog X.w) p D:=I.hok p _ C;have hlen:u.length=D.length:=Paired.length r;exact wpAny_truthy_dict J m () ⟨H,I.tok _,by rwa[ZdR r]⟩
 |_=>exact(show False from e).elim
def xA:YK X (binaryOp .Add) (λx y H Q=>∃i j,x=.str i/\y=.str j/\i.length+j.length<=sizeLine/\Q (.str (i++j)) H):=by
 intro pins s D H x y v u Q I C B h;ext⟨i,j,rfl,rfl,e,q⟩ h;ext⟨t,rfl⟩ C;ext⟨f,rfl⟩ B;exact add_str (λf tk=>⟨.str (i++j),H,I.tok _,⟨_,R⟩,q⟩) e
def XF(r:ZB [x] us):∃u,us=[u]/\ZG x u:=by
 cases r with
 |cons r1 e=>cases e;exact⟨_,R,r1⟩
def KO(r:ZB [x,y] us):∃u e,us=[u,e]/\ZG x u/\ZG y e:=by
 cases r with
 |cons r1 h =>
  cases h with
  |cons r3 f=>cases f;exact⟨_,_,R,r1,r3⟩
end
structure QD(h:Heap)(x dx C:Addr)(mA:Oz):Prop where
 obj:h.get? x=some (W.instObj C dx)
 ns:h.Ns1 dx mA
 ne:dx≠x
def ZdT{h:Heap}(n:h.Ns1 i j):∃c,h.get? i=some c/\∀name,W.lookIn name c=some (j name):=by
 ext⟨o,f,E,B,hd,D,_,hm⟩ n;erw[⟨o,B,λname=>?_⟩];have e:=hm name;unfold nsFind findBy at e;rw[<-Array.find?_toList]at e;unfold W.lookIn;rw[hd];dsimp only;split;rename_i y q;rw[q]at e;exact congrArg some e;rename_i q;rw[q]at e;have a:f.toList.any (·.refKey)=false:=by
  rw[List.any_eq_false];intro y u;obtain⟨z,t,C⟩:=D y (Array.mem_toList_iff.mp u);simp[DictEntry.refKey,C]
 have v:¬ f.toList.any (·.refKey)=true:=by rw[a];exact SR
 rw[SX v];exact congrArg some e
def QD.look(I:QD h x e C f):∃c,W.InstAt h x (W.instObj C e) C (some c)/\∀name,W.lookIn name c=some (f name) :=
 let ⟨c,ho,hl⟩:=ZdT I.ns
 ⟨c,⟨I.obj,R,R,ho⟩,hl⟩
section
variable{x dx C f:Addr}{mA:Oz}{name:Str}{v:Value}
def ZdU{expr:Bool}(X:K.In s.heap)(I:QD s.heap x dx C mA)(i:W.plainGet K C name=true)(e:W.hasDictIn K C=true)
  (ha:W.findIn K (.ref C) name=some none) (c:mA name=some v) (q:W.handedIn v=true) (h:Q v {s with toks:=s.toks+1}) :
  wpAny (model prog w) A (getAttr (.ref x) name expr) Q E s:=by
 ext⟨u,J,j⟩ I.look;exact W.get_value X J (W.plainGet_of i).1 (W.findObj_own e ha R (by rw[j,c])) q h
def ZdV(X:K.In s.heap)(I:QD s.heap x dx C mA)(c:W.plainGet K C name=true)
  (j:W.findIn K (.ref C) name=some (some (.ref f))) (u:W.isFn K (.ref f)=true) (e:mA name=none) (h:Q (.ref f,[.ref x]) s) :
  wpAny (model prog w) A (getMethod (.ref x) name pl) Q E s:=by
 ext⟨i,J,q⟩ I.look;exact W.method_fn X J (W.plainGet_of c).1 (W.plainGet_of c).2 j (beq_iff_eq.mp u) (by show(W.lookIn name i).map (·.isSome)=some false;rw[q,e];rfl) h
def ZdW{ns:OF}(X:K.In s.heap)(I:QD s.heap x dx C mA)
  (H:W.findIn K (.ref C) "__setattr__"=some (some (.builtin "object.__setattr__"))) (B:W.plainOver K C=true) (O:W.takerIn K C name=some none) (L:W.hasDictIn K C=true)
  (M:PySem.Within mA ns) (hsz:ns.length<=sizeLine)
  (h:∀h',QD h' x dx C (λy=>if y=name then some v else mA y)->Heap.SameBut dx s.heap h'->Q Unit.unit {s with heap:=h',toks:=s.toks+2}) :
  wpAny (model prog w) A (setAttr (.ref x) name v) Q E s:=by
 ext⟨P,J,S⟩ I.look;erw[W.set_plain X J H (W.osa_open (s:={s with toks:=s.toks+1}) (r:=none) X J B O λb=>?_)];obtain⟨U,G,D⟩:=W.any_some L;have u:s.heap.get? x=some ⟨.ref C,some dx,.plain,#[]⟩:=I.obj;erw[Sa (Sb (Sa (Sa (wpAny_loadPart u (Sa (W.Looks.here (s:={s with toks:=s.toks+1}) (W.looks_clsIn X G) ?_))))))];rw[D];erw[Sb (a:=some dx) (Sa (Sb (Sa ?_)))];erw[wpAny_nsSet1 (s:={s with toks:=s.toks+1}) I.ns λh' e c=>?_];obtain⟨T,Y,Z,j,i,q⟩:=e.count (PySem.Within.cons name v M);erw[Sa (wpAny_lookBehind j (by rw[i];exact pastItsLine_dict (Si q (by rw[SA];lia))) ?_)];exact Sb (h _ ⟨(c.2 _ (Ne.symm I.ne)).trans I.obj,e,I.ne⟩ c)
def ZdX{R:Result->Shared->Prop}(X:K.In s.heap)(hm:W.makesIn K C=true)
  (hi:W.findIn K (.ref C) "__init__"=some (some (.ref f))) (e:W.typeIn K (.ref f)=some (.type "function"))
  (h:codeAny (model prog w) (A.under (.builtin "type.__call__" ⟨.ref C::vs,c⟩)) (.call (.ref f) ⟨.ref (s.heap.objs.size+1)::vs,c⟩) (W.InitBack (s.heap.objs.size+1) R)
   {s with heap:=(s.heap.push W.emptyDict).push (W.instObj C s.heap.objs.size)}) :
  codeAny (model prog w) A (.call (.ref C) ⟨vs,c⟩) R s:=by
 ext⟨i,g,d,t,os⟩ s;exact W.make_core (W.makes_of X hm) (W.looks_findIn X hi) (λself=>W.bind_fn X self e) (.inl rfl) h
def ZdY{R:Result->Shared->Prop}(X:K.In s.heap)(hm:W.makesIn K C=true)
  (hi:W.findIn K (.ref C) "__init__"=some (some (.builtin "object.__init__")))
  (c:∀self,W.Looks (model prog w) s.heap (bindSpecial (.builtin "object.__init__") self) (.builtin "object.__init__",[self]))
  (h:codeAny (model prog w) (A.under (.builtin "type.__call__" ⟨[.ref C],[]⟩)) (.call (.builtin "object.__init__") ⟨[.ref (s.heap.objs.size+1)],[]⟩) (W.InitBack (s.heap.objs.size+1) R)
   {s with heap:=(s.heap.push W.emptyDict).push (W.instObj C s.heap.objs.size)}) :
  codeAny (model prog w) A (.call (.ref C) ⟨[],[]⟩) R s:=by
 ext⟨e,g,d,t,os⟩ s;exact W.make_core (W.makes_of X hm) (W.looks_findIn X hi) c (.inr ⟨rfl,rfl⟩) h
end
def Z2(f:Str)(v:V):List (Str×V)->List (Str×V)
 |[]=>[(f,v)]
 |(g,x)::r=>if g=f then (g,v)::r else (g,x)::Z2 f v r
theorem xB(f g:Str)(v:V):∀fs:List (Str×V),(Z2 f v fs).lookup g=if g=f then some v else fs.lookup g
 |[]=>by
  show List.lookup g [(f,v)]=_;by_cases h:g=f;have c:(g==f)=true:=beq_iff_eq.mpr h;simp only[List.lookup,c,SY h];have c:(g==f)=false:=beq_eq_false_iff_ne.mpr h;simp only[List.lookup,c,SX h]
 |(k,x)::r=>by
  have j:=xB f g v r;rw[show Z2 f v ((k,x)::r)=(if k=f then (k,v)::r else (k,x)::Z2 f v r)from R];by_cases i:k=f;rw[SY i];by_cases h:g=k;have c:(g==k)=true:=beq_iff_eq.mpr h;simp only[List.lookup,c,SY (h.trans i)];have c:(g==k)=false:=beq_eq_false_iff_ne.mpr h;simp only[List.lookup,c,SX (λe:g=f=>h (e.trans i.symm))];rw[SX i];by_cases h:g=k;have c:(g==k)=true:=beq_iff_eq.mpr h;simp only[List.lookup,c,SX (λe:g=f=>i (h.symm.trans e))];have c:(g==k)=false:=beq_eq_false_iff_ne.mpr h;simp only[List.lookup,c];exact j
theorem MV(f:Str)(v:V):∀fs:List (Str×V),f∈(Z2 f v fs).map (·.1)/\∀g,g∈fs.map (·.1)->g∈(Z2 f v fs).map (·.1)
 |[]=>⟨by simp[Z2],λg h=>by simp at h⟩
 |(k,x)::r=>by
  obtain⟨i,j⟩:=MV f v r;rw[show Z2 f v ((k,x)::r)=(if k=f then (k,v)::r else (k,x)::Z2 f v r)from R];by_cases c:k=f;rw[SY c];subst c;exact⟨by simp,λg h=>by simpa using h⟩;rw[SX c];erw[⟨?_,λg h=>?_⟩];rw[SO];exact SE _ i;rw[SO]at h ⊢;rcases SH.mp h with e|e;exact SH.mpr (.inl e);exact SE _ (j g e)
theorem Q7(f:Str)(v:V):∀fs:List (Str×V),(Z2 f v fs).length<=fs.length+1
 |[]=>by simp[Z2]
 |(k,x)::r=>by
  have e:=Q7 f v r;rw[show Z2 f v ((k,x)::r)=(if k=f then (k,v)::r else (k,x)::Z2 f v r)from R];by_cases c:k=f;rw[SY c,SA,SA];lia;rw[SX c,SA,SA];lia
def XD.some_of(r:XD (some v) o):∃u,o=some u/\ZG v u:=by
 cases o with
 |none=>exact(show False from r).elim
 |some u=>exact⟨u,R,r⟩
def XD.none_of(r:XD none o):o=none:=by
 cases o with
 |none=>rfl
 |some u=>exact(show False from r).elim
def ZdZ(r:ZG v u):W.handedIn u=true:=by
 cases v with
 |non=>cases (show u=Value.none from r);rfl
 |bl b=>cases (show u=Value.bool b from r);rfl
 |int i=>obtain⟨t,e⟩:=(show ∃t,u=Value.int i t from r);cases e;rfl
 |str x=>obtain⟨t,e⟩:=(show ∃t,u=Value.str x t from r);cases e;rfl
 |byt b=>obtain⟨t,e⟩:=(show ∃t,u=Value.bytes b t from r);cases e;rfl
 |flt b=>obtain⟨t,e⟩:=(show ∃t,u=Value.float b t from r);cases e;rfl
 |ref a=>cases (show u=Value.ref a from r);rfl
 |ty n=>cases (show u=Value.type n from r);rfl
section
variable{H':Hp}{h h':Heap}{a C dx:Addr}{fs fs':List (Str×V)}
def KP(hok:Yo P w H h)(e:H a=some (.ins C dx fs)):∃c,QD h a dx C c/\(∀f,XD (fs.lookup f) (c f))/\PySem.Within c (fs.map (·.1))/\fs.length<=1000/\H dx=some (.own a):=by
 obtain⟨d,z,ne,ob,c,n,r,q⟩:=(show Ym P w H h a (.ins C dx fs)from hok a _ e);exact⟨c,⟨ob,n,ne⟩,r,q,z,d⟩
end
structure YG(K:OA)(C:Addr):Prop where
 pg:W.plainGet K C Str.empty=true
 hd:W.hasDictIn K C=true
 po:W.plainOver K C=true
 sa:W.findIn K (.ref C) "__setattr__"=some (some (.builtin "object.__setattr__"))
def YG.get{C:Addr}(c:YG K C)(f:Str):W.plainGet K C f=true:=c.pg
def Xc(K:OA)(C:Addr)(f:Str):Prop:=W.findIn K (.ref C) f=some none
def Xc.taker{C:Addr}{f:Str}(n:Xc K C f):W.takerIn K C f=some none:=by
 unfold W.takerIn;rw[show W.findIn K (.ref C) f=some none from n];rfl
structure Con(K:OA)(C:Addr)(f:Str)(v:V)(u:Value):Prop where
 at_:W.findIn K (.ref C) f=some (some u)
 rel:ZG v u
 get:W.specialIn K u "__get__"=some none
 cp:W.copiedNames.contains f=false
structure Yx(K:OA)(C:Addr)(m:Str)(f:Addr):Prop where
 at_:W.findIn K (.ref C) m=some (some (.ref f))
 fn:W.isFn K (.ref f)=true
 kp:W.keepIn K (.ref f)=true
section
variable{σ:St}{a C dx:Addr}{fs:List (Str×V)}{f:Str}{v:V}
def Zd0(I:Zb X pins σ H s)(e:H a=some (.ins C dx fs))(c:YG X.K C)(n:Xc X.K C f)(l:fs.lookup f=some v)
  (h:∀u s',Zb X pins σ H s'->ZG v u->Q u s'):wpAny (model X.prog X.w) A (getAttr (.ref a) f b) Q E s:=by
 obtain⟨j,O,r,_,_,_⟩:=KP I.hok e;obtain⟨u,i,ru⟩:=XD.some_of (v:=v) (o:=j f) (by rw[<-l];exact r f);exact ZdU I.kIn O (c.get f) c.hd n i (ZdZ ru) (h u _ (I.tok _) ru)
def E6(I:Zb X pins σ H s)(e:H a=some (.ins C dx fs))(c:YG X.K C)(k:Yx X.K C m g)(l:fs.lookup m=none)
  (h:Q (.ref g,[.ref a]) s):wpAny (model X.prog X.w) A (getMethod (.ref a) m pl) Q E s:=by
 obtain⟨i,O,r,_,_,_⟩:=KP I.hok e;have hn:i m=none:=XD.none_of (by rw[<-l];exact r m);exact ZdV I.kIn O (c.get m) k.at_ k.fn hn h
def Zd1(I:Zb X pins σ H s)(e:H a=some (.ins C dx fs))(c:YG X.K C)(n:Xc X.K C f)(T:fs.length<1000)(M:ZG y u)
  (h:∀s',Zb X pins σ (Za H a (.ins C dx (Z2 f y fs))) s'->Q Unit.unit s'):wpAny (model X.prog X.w) A (setAttr (.ref a) f u) Q E s:=by
 obtain⟨D,O,r,j,_,B⟩:=KP I.hok e;have L:(fs.map (·.1)).length<=sizeLine:=by rw[Sx,sizeLine_eq];lia
 erw[ZdW I.kIn O c.sa c.po n.taker c.hd j L λG i S=>h _ ?_];have hd:∃o,G.get? dx=some o:=let ⟨o,_,_,e',_⟩:=i.ns;⟨o,e'⟩;erw[I.write (x:=a) (e:=dx) (by rw[e];exact True.intro) (.inr B) (λb q J z=>(S.2 b J).trans z) hd ?_];erw[⟨by rwa[Ze O.ne],?_,O.ne,i.obj,_,i.ns,λg=>?_,λg P=>?_⟩];have:=Q7 f y fs;lia;show XD ((Z2 f y fs).lookup g) (if g=f then some u else D g);rw[xB];by_cases q:g=f;rwa[SY q,SY q];rw[SX q,SX q];exact r g;by_cases q:g=f;rw[q];exact(MV f y fs).1;erw[(MV f y fs).2 g (j g λz=>P ?_)];show(if g=f then some u else D g)=none;rwa[SX q]
def Zb.made(I:Zb X pins σ H s):Zb X pins σ (Za (Za H s.heap.objs.size (.own (s.heap.objs.size+1))) (s.heap.objs.size+1) (.ins C s.heap.objs.size []))
  {s with heap:=(s.heap.push W.emptyDict).push (W.instObj C s.heap.objs.size)}:=by
 have c:(s.heap.push W.emptyDict).get? s.heap.objs.size=some W.emptyDict:=Se s.heap R;have D:((s.heap.push W.emptyDict).push (W.instObj C s.heap.objs.size)).get? (s.heap.objs.size+1)=some (W.instObj C s.heap.objs.size):=by
  have:=Se (s.heap.push W.emptyDict) (o:=W.instObj C s.heap.objs.size) R;rwa [Heap.size_push]at this
 have j:(s.heap.push W.emptyDict).Ns s.heap.objs.size (λ_=>none):=⟨W.emptyDict,#[],_,c,R,(λe i=>Ov i (by simp)),λ_=>R⟩;have B:=I.laid (a:=s.heap.objs.size) (o:=.own (s.heap.objs.size+1)) (h':=s.heap.push W.emptyDict) (t':=s.toks) (λb u q=>Sc _ q) (Sh _) ⟨_,c⟩;erw[B.laid (a:=s.heap.objs.size+1) (o:=.ins C s.heap.objs.size []) (t':=s.toks) (λb u q=>Sc _ q) (Nat.le_of_eq (Heap.size_push _ _)) ?_];have ne:s.heap.objs.size≠s.heap.objs.size+1:=Sg (Sn _);erw[⟨by rw[Ze ne,Zj],Sl _,ne,D,λ_=>none,(Heap.Ns1.of_empty j).at λo q=>Sc _ q,λ_=>True.intro,λy h=>Ov rfl h⟩]
def Zd2(c:attributeBase e f env (eval e env)=eval e env)
  (h:wpAny (model prog w) A (eval e env) (λo i=>wpAny (model prog w) A (getAttr o f true) Q E i) E s):wpAny (model prog w) A (eval (.Attribute e f pos) env) Q E s :=
 Attribute_any_ h (by rw[arm_eval_Attribute,c])
end
inductive Zd3(K:OA)(f:Str)(Q:VK)(x:V)(H1:Hp):Prop|mk a C dx fs v (_:x=.ref a) (_:H1 a=some (.ins C dx fs)) (_:YG K C) (_:Xc K C f) (_:fs.lookup f=some v) (_:Q v H1)
def Zd4(K:OA)(c:TE)(f:Str):TE:=λh H Q=>c h H λx e=>Zd3 K f Q x e
inductive Zd5(K:OA)(f:Str)(D:Wz)(σ:St)(y:V)(x:V)(H2:Hp):Prop|mk a C dx fs (_:x=.ref a) (_:H2 a=some (.ins C dx fs)) (_:YG K C) (_:Xc K C f) (_:fs.length<1000) (_:D.nx σ (Za H2 a (.ins C dx (Z2 f y fs))))
def Zd6(K:OA)(e i:TE)(f:Str):TS:=λD c H=>i c H λy h=>e c h λx j=>Zd5 K f D c y x j
section
variable{o e value:Expr}{f:Str}{pos' tpos:Pos}{ta tv:TE}
def ZJ(E:PE X e ta)(i:attributeBase e f X.env (eval e X.env)=eval e X.env):PE X (.Attribute e f pos) (Zd4 X.K ta f):=by
 intro pins s y H Q I h;erw[Zd2 i (Zs (E pins s y H _ I h) λu M ⟨x,G,D,J,a,C,O,fs,v,ex,j,c,n,l,q⟩=>?_)];subst ex;obtain rfl:u=Value.ref a:=J;exact Zd0 D j c n l λL s2 B ru=>⟨v,G,B,ru,q⟩
def XG(ha:PE X o ta)(L:PE X value tv)(J:swapsWith value (some (.Attribute o f pos')) pos.line X.env=pure false):PS X (.Assign [.Attribute o f pos'] value pos) (Zd6 X.K ta tv f):=by
 intro pins s i H D I h;erw[plainObj_wpAny_Assign_Attribute (Zs (L pins s i H _ I h) λu O ⟨y,M,G,v,q⟩=>Zs (ha pins O i M _ G q) λS s2 ⟨x,U,E,Q,a,C,Y,fs,ex,j,c,n,l,B⟩=>?_) J];subst ex;obtain rfl:S=Value.ref a:=Q;exact Zd1 E j c n l v λT P=>⟨i,_,P,B⟩
end
section
variable{σ:St}{Q:Ox}{c:Value}{b:Bool}
inductive XW(K:OA)(H:Hp):V->Value->Prop where
 |non:XW K H .non (.type "NoneType")
 |bl (x:Bool):XW K H (.bl x) (.type "bool")
 |int (i:Int):XW K H (.int i) (.type "int")
 |str (x:Str):XW K H (.str x) (.type "str")
 |flt (x:UInt64):XW K H (.flt x) (.type "float")
 |lst {a:Addr} {xs:List V} (e:H a=some (.lst xs)):XW K H (.ref a) (.type "list")
 |frz {a:Addr} {o:Obj} {xs:List V} (e:H a=some (.frz o (.lst xs))):XW K H (.ref a) (.type "list")
 |tup {a:Addr} {xs:List V} (e:H a=some (.tup xs)):XW K H (.ref a) (.type "tuple")
 |dK {a:Addr} {kvs:List (Zn×V)} (e:H a=some (.dK kvs)):XW K H (.ref a) (.type "dict")
 |dT {a:Addr} {kvs:List (List Zn×V)} (e:H a=some (.dT kvs)):XW K H (.ref a) (.type "dict")
 |ins {a C dx:Addr} {fs:List (Str×V)} (e:H a=some (.ins C dx fs)) (cl:YG K C) (ha:W.findIn K (.ref C) "__class__"=some (some (.builtin "object.__class__")))
   (hn:W.specialIn K (.builtin "object.__class__") "__get__"=some (some (.builtin "getset_descriptor.__get__"))) (htk:W.takesIn K (.builtin "object.__class__")=some true)
   (hm:W.mroIn K C (.type "object")=some true):XW K H (.ref a) (.ref C)
def xC(I:Zb X pins σ H s)(j:ZG x u)(ty:XW X.K H x t)(e:W.kitOne X.K t c=some b)(h:∀tk,Q (.bool b) {s with toks:=tk}) :
  wpAny (model X.prog X.w) A (call (.builtin "isinstance") [u,c]) Q E s:=by
 cases ty with
 |non=>cases (show u=Value.none from j);exact W.kia_one W.kitx_none I.kIn True.intro e (λz=>nomatch z) h
 |bl y=>cases (show u=Value.bool y from j);exact W.kia_one W.kitx_bool I.kIn True.intro e (λz=>nomatch z) h
 |int i=>obtain⟨t,q⟩:=(show ∃t,u=Value.int i t from j);cases q;exact W.kia_one W.kitx_int I.kIn True.intro e (λz=>nomatch z) h
 |str y=>obtain⟨t,q⟩:=(show ∃t,u=Value.str y t from j);cases q;exact W.kia_one W.kitx_str I.kIn True.intro e (λz=>nomatch z) h
 |flt y=>obtain⟨t,q⟩:=(show ∃t,u=Value.float y t from j);cases q;exact W.kia_one W.kitx_float I.kIn True.intro e (λz=>nomatch z) h
 |@lst a B f =>
  cases (show u=Value.ref a from j);obtain⟨_,_,n,_,v⟩:=(show Ym X.prog X.w H s.heap a (.lst B)from I.hok a _ f);exact W.kia_one W.kitx_list I.kIn ⟨_,v,R⟩ e (λz=>nomatch z) h
 |@frz a ob B f =>
  cases (show u=Value.ref a from j);obtain⟨_,_,_,n,_,v⟩:=(show Ym X.prog X.w H s.heap a (.frz ob (.lst B))from I.hok a _ f);exact W.kia_one W.kitx_list I.kIn ⟨_,v,R⟩ e (λz=>nomatch z) h
 |@tup a B f =>
  cases (show u=Value.ref a from j);obtain⟨_,_,_,p⟩:=(show Ym X.prog X.w H s.heap a (.tup B)from I.hok a _ f);ext⟨o,v,D,_⟩ p;exact W.kia_one W.kitx_tuple I.kIn ⟨o,v,D⟩ e (λz=>nomatch z) h
 |@dK a G f =>
  cases (show u=Value.ref a from j);obtain⟨_,_,U,_,p⟩:=(show Ym X.prog X.w H s.heap a (.dK G)from I.hok a _ f);ext⟨o,L,M,v,D,_⟩ p;exact W.kia_one W.kitx_dict I.kIn ⟨o,v,D.1⟩ e (λz=>nomatch z) h
 |@dT a G f =>
  cases (show u=Value.ref a from j);obtain⟨_,_,B,_,o,L,M,v,D,_⟩:=(show Ym X.prog X.w H s.heap a (.dT G)from I.hok a _ f);exact W.kia_one W.kitx_dict I.kIn ⟨o,v,D.1⟩ e (λz=>nomatch z) h
 |@ins a C Y fs f cl ha hn P hm =>
  cases (show u=Value.ref a from j);obtain⟨T,O,_⟩:=KP I.hok f;ext⟨S,J,_⟩ O.look;exact W.kia_one (W.kitx_own (cl.get _) cl.hd ha hn P hm) I.kIn J e (λz=>nomatch z) h
end
structure Yh(k:Nat)(A:Around):Prop where
 hd:A.handled=none
 dp:A.depth+3*k+5<recursionLimit
 un:A.units+16*k+200<cLine
 gd:A.guards=some []
def Yh.mono(r:Yh k A)(h:j<=k):Yh j A:=⟨r.hd,by have:=r.dp;lia,by have:=r.un;lia,r.gd⟩
def Yh.deeper(r:Yh (k+1) A)(env:Env):Yh k (A.deeper env) :=
 ⟨r.hd,by have:=r.dp;show A.depth+1+3*k+5<_;lia,by have:=r.un;show A.units+3+16*k+200<_;lia,r.gd⟩
def Yh.in1(r:Yh (k+1) A):Yh k A.in1 :=
 ⟨r.hd,by have:=r.dp;show A.depth+3*k+5<_;lia,by have:=r.un;show A.units+1+16*k+200<_;lia,r.gd⟩
def Zd7:(A.under (.builtin "type.__call__" ⟨.ref C::us,c⟩)).depth=A.depth+1:=by
 first|rfl|simp[Around.under,Code.weight,Code.isCreation,Code.isGuard,Code.isCaller,Code.frames,Code.isFrame,guardIds]
def Zd8:(A.under (.builtin "type.__call__" ⟨.ref C::us,c⟩)).units=A.units+1:=by
 first|rfl|simp[Around.under,Code.cUnits,Code.frames,Code.isFrame]
def Yh.make(r:Yh (k+1) A)(C:Addr)(us:OE)(c:List (Str×Value)):Yh k (A.under (.builtin "type.__call__" ⟨.ref C::us,c⟩)) :=
 ⟨r.hd,by have:=r.dp;rw[Zd7];lia,by have:=r.un;rw[Zd8];lia,by have:=r.gd;first|exact this|simp[Around.under,Code.guards,Code.isGuard,guardIds,this]⟩
def Yh.depth(r:Yh k A):A.depth<recursionLimit:=by have:=r.dp;lia
def Yh.units(r:Yh k A):A.units+64<cLine:=by have:=r.un;lia
def Yh.units0(r:Yh k A):A.units<cLine:=by have:=r.un;lia
def Y5:TA:=λ_ H Q=>Q [] H
def Yj(e:TE)(j:TA):TA:=λc H Q=>e c H λx f=>j c f λh i=>Q (x::h) i
section
variable{e:Expr}{es:OG}{te:TE}{t:TA}
def Xs:PA X [] Y5:=λ_ _ _ _ H Q I h=>Calls.spliced_nil ⟨[],H,I,.nil,h⟩
def xD(ha:PE X e te)(E:PA X es t)(f:starEach (e::es) X.env=(false,eval e X.env)::starEach es X.env:=by rfl):PA X (e::es) (Yj te t):=by
 intro pos pins s c H Q I h;rw[f];show wpAny _ _ (spliced ((false,eval e X.env)::backTo pos (starEach es X.env))) _ _ s;erw[Calls.spliced_cons (Zs (ha pins s c H _ I h) λu v ⟨x,i,D,r1,q⟩=>?_)];exact Zs (E pos pins v c i _ D q) λJ s2 ⟨C,G,j,y,B⟩=>⟨x::C,G,j,.cons r1 y,B⟩
def Zd9(t:TA):TE:=λh H Q=>t h H λf c=>f.length<=sizeLine/\∀p,c p=none->Q (.ref p) (Za c p (.tup f))
def E7(t:TA):TE:=λh H Q=>t h H λf c=>f.length<=sizeLine/\∀p,c p=none->Q (.ref p) (Za c p (.lst f))
def Yp{x1}(h:PA X es t):PE X (.Tuple es x1 pos) (Zd9 t):=by
 intro pins s v H Q I B;erw[wpAny_Tuple_spliced (Zs (h pos pins s v H _ I B) λj c ⟨C,f,i,r,z,q⟩=>⟨by rwa[<-r.length],?_⟩)];have y:f c.heap.objs.size=none:=i.hok.fresh (Sh _);erw[⟨.ref c.heap.objs.size,Za f c.heap.objs.size (.tup C),i.laid (t':=c.toks) (λb u e=>Sc _ e) (Sh _) ?_,R,q _ y⟩];exact⟨z,j,r,⟨_,Se _ R,R,_,R⟩⟩
def Z7(h:PA X es t):PE X (.List es pos) (E7 t):=by
 intro pins s v H Q I B;erw[wpAny_List_spliced (Zs (h pos pins s v H _ I B) λj c ⟨C,f,i,r,z,q⟩=>⟨by rwa[<-r.length],?_⟩)];have y:f c.heap.objs.size=none:=i.hok.fresh (Sh _);erw[⟨.ref c.heap.objs.size,Za f c.heap.objs.size (.lst C),i.laid (t':=c.toks) (λb u e=>Sc _ e) (Sh _) ?_,R,q _ y⟩];exact⟨z,j,0,r,Se _ R⟩
end
abbrev Sp:=List V->Hp->VK->XK->Prop
abbrev XX:=List Env->Hp->Shared->XK->Value->Shared->Prop
structure Vp(P:Program)(w:World)(K:OA)(mg:Oz)(base:Heap)(A:Around)(outer:List Env)(s:Shared)(H:Hp):Prop where
 frames:A.frames=some outer
 mod:Mod K mg base
 bs:∀b o,base.get? b=some o->s.heap.get? b=some o/\H b=none
 bsz:base.objs.size<=s.heap.objs.size
 funs:s.heap.FunFrames base outer
 frf:∀b∈Yw outer,H b=none
 hok:Yo P w H s.heap
 bare:AllBare s.gens
inductive CE(outer:List Env)(P:Program)(w:World)(H:Hp)(s:Shared)(Q:VK)(u:Value)(s':Shared):Prop|mk v H' (_:s'.os=s.os) (_:AllBare s'.gens) (_:Un (Yw outer) [] H H' s.heap s'.heap) (_:Yo P w H' s'.heap) (_:ZG v u) (_:Q v H')
def CR(CX:XX)(outer:List Env)(P:Program)(w:World)(H:Hp)(s:Shared)(Q:VK)(E:XK)(r:Result)(s':Shared):Prop :=
 match r with
 |.ok (.ret u)=>CE outer P w H s Q u s'
 |.ok _=>False
 |.error e=>CX outer H s E e s'
structure Zo(P:Program)(w:World)(K:OA)(mg:Oz)(base:Heap)(CX:XX)(k:Nat)(f:Addr)(fd:OM)(ps:OF)(sp:Sp):Prop where
 len:∀vs H Q E,sp vs H Q E->vs.length=ps.length
 run:∀(A:Around) (outer:List Env) (s:Shared) (H:Hp) (args:Args) (us:OE) (vs:List V) (Q:VK) (E:XK),Yh k A->Vp P w K mg base A outer s H->BindsTo s fd args (ps.zip us)->ZB vs us->sp vs H Q E ->
  codeAny (model P w) A (.call (.ref f) args) (CR CX outer P w H s Q E) s
def Zo.mono{CX:XX}{j k:Nat}{f:Addr}{e:OM}{c:OF}{sp:Sp}(F:Zo P w K mg base CX j f e c sp)(h:j<=k) :
  Zo P w K mg base CX k f e c sp:=⟨F.len,λA outer s H args q i Q E u=>F.run A outer s H args q i Q E (u.mono h)⟩
def Zo.imp{CX:XX}{k:Nat}{f:Addr}{i:OM}{e:OF}{sp c:Sp}(F:Zo P w K mg base CX k f i e sp)
  (h:∀vs H Q E,c vs H Q E->sp vs H Q E):Zo P w K mg base CX k f i e c :=
 ⟨λvs H Q E q=>F.len vs H Q E (h _ _ _ _ q),λA outer s H args y vs Q E B v u j C=>F.run A outer s H args y vs Q E B v u j (h _ _ _ _ C)⟩
def Vp.make{outer:List Env}(e:Vp P w K mg base A outer s H)(C:Addr)(us:OE)(c:List (Str×Value)) :
  Vp P w K mg base (A.under (.builtin "type.__call__" ⟨.ref C::us,c⟩)) outer s H:=⟨by first|exact e.frames|(simpa [Around.under,Code.envs,Code.isFrame,pushEnvs]using e.frames),e.mod,e.bs,e.bsz,e.funs,e.frf,e.hok,e.bare⟩
section
variable{σ:St}{s':Shared}
def Zb.env0(I:Zb X pins σ H s):Vp X.prog X.w X.K X.mg X.base X.A X.stack s H :=
 ⟨I.ok.frames,I.ok.mod,I.bs,Si I.ok.bsz I.sz,I.stack,I.stkFree,I.hok,I.bare⟩
def Zb.after(I:Zb X pins σ H s)(h:CE X.stack X.prog X.w H s Q u s'):EP X pins σ Q u s':=by
 ext⟨v,f,os,bare,un,hok,r,q⟩ h;ext⟨c,g,d,t,e⟩ s';obtain rfl:e=s.os:=os;exact⟨v,f,I.call (h':=c) (g':=g) (d':=d) (t':=t) (ch:=[]) un hok bare (λb z=>Ov z (by simp)),r,q⟩
end
def MW(sp:Sp)(dvs:List V)(E:XK)(t:TA):TE:=λf H Q=>t f H λc e=>sp (c++dvs) e Q E
inductive Zea(C:Addr)(m:Str)(sp:Sp)(dvs:List V)(E:XK)(t:TA)(σ:St)(Q:VK)(x:V)(H1:Hp):Prop|mk a dx fs (_:x=.ref a) (_:H1 a=some (.ins C dx fs)) (_:fs.lookup m=none) (_:t σ H1 λvs H2=>sp (x::(vs++dvs)) H2 Q E)
def xE(C:Addr)(m:Str)(sp:Sp)(dvs:List V)(E:XK)(e:TE)(t:TA):TE:=λc H Q=>e c H λx f=>Zea C m sp dvs E t c Q x f
def xF(C:Addr)(sp:Sp)(dvs:List V)(E:XK)(t:TA):TE:=λh H Q=>t h H λf e=>∀x c,e x=none->e c=none->c≠x ->
 sp (.ref x::(f++dvs)) (Za (Za e c (.own x)) x (.ins C c [])) (λv i=>v=.non/\Q (.ref x) i) E
def XY(K:OA)(e:OM)(c:OF)(ds:OE):Prop :=
 ∀(s:Shared) (us:OE),K.In s.heap->(us++ds).length=c.length->BindsTo s e ⟨us,[]⟩ (c.zip (us++ds))
def XY.all{e:OM}{c:OF}(h:∀us:List Value,us.length=c.length->bindArgs e ⟨us,[]⟩=pure (c.zip us)):XY K e c []:=λs us _ f=>by
 rw[Oe]at f ⊢;exact .of_eq (h us f)
def WK(CX:XX)(X:Cx)(E:XK):Prop:=∀(pins:Oy) (σ:St) (H:Hp) (s:Shared) (e:Value) (s':Shared),Zb X pins σ H s->CX X.stack H s E e s'->X.xe e s'
section
variable{CX:XX}{k:Nat}{f C:Addr}{fd:OM}{ps:OF}{sp:Sp}{dvs:List V}{ds:OE}{E:XK}{x m:Str}{p apos:Pos}{e o:Expr}{es:OG}{ta:TE}{t:TA}
def QE(F:Zo X.prog X.w X.K X.mg X.base CX k f fd ps sp)(D:Yh k X.A)(q:XY X.K fd ps ds)(hd:ZB dvs ds)(v:WK CX X E)
  (I:Zb X pins i H s) (r:ZB vs us) (h:sp (vs++dvs) H Q E):wpAny (model X.prog X.w) X.A (call (.ref f) us) (EP X pins i Q) X.xe s:=by
 have j:ZB (vs++dvs) (us++ds):=r.append hd;have y:(us++ds).length=ps.length:=by rw[<-j.length];exact F.len _ _ _ _ h
 erw[wpAny_call (codeAny_mono (F.run X.A X.stack s H ⟨us,[]⟩ (us++ds) (vs++dvs) Q E D I.env0 (q s us I.kIn y) j h) λr B c=>?_)];cases r with
 |error e=>exact v pins i H s e B I c
 |ok fl =>
  cases fl with
  |ret u=>exact I.after c
  |next=>exact False.elim c
  |brk=>exact False.elim c
  |cont=>exact False.elim c
def Vq(F:Zo X.prog X.w X.K X.mg X.base CX k f fd ps sp)(J:Yh k X.A)(G:Gl X x)(hm:X.mg x=some (.ref f))(u:W.keepIn X.K (.ref f)=true)(i:XY X.K fd ps ds)(hd:ZB dvs ds)(v:WK CX X E)
  (ha:PA X (e::es) t) (j:(x==("__debug__" : Str))=false:=by lia) (D:starEach (e::es) X.env=(false,eval e X.env)::starEach es X.env:=by rfl) (y:(backTo pos (starEach es X.env)).any (·.1)=false:=by rfl) :
  PE X (.Call (.Name x p) (e::es) [] pos) (MW sp dvs E t):=by
 intro pins s B H Q I h;erw[wpAny_Call_Name_kw (UD I G hm ?_ j)];erw[W.callWith_K (h₀:=X.base) I.ok.mod.kin u (Zs (ha pos pins s B H _ I h) λL P ⟨M,O,c,r,q⟩=>⟨c.kIn,?_⟩) D y];exact QE F J i hd v c r q
def Zeb(F:Zo X.prog X.w X.K X.mg X.base CX k f fd ps sp)(v:Yh k X.A)(j:Gl X x)(hm:X.mg x=some (.ref f))(u:W.keepIn X.K (.ref f)=true)(c:XY X.K fd ps ds)(hd:ZB dvs ds)(q:WK CX X E)
  (i:(x==("__debug__" : Str))=false:=by lia):PE X (.Call (.Name x p) [] [] pos) (MW sp dvs E Y5):=by
 intro pins s y H Q I h;erw[wpAny_Call_Name_kw (UD I j hm ?_ i)];exact W.callWith_K0 I.kIn u (QE (us:=[]) F v c hd q I .nil h)
def YO(O:PE X o ta)(c:YG X.K C)(hm:Yx X.K C m f)(F:Zo X.prog X.w X.K X.mg X.base CX k f fd ps sp)(Y:Yh k X.A)(B:XY X.K fd ps ds)(hd:ZB dvs ds)(G:WK CX X E)(ha:PA X (e::es) t)
  (M:starEach (e::es) X.env=(false,eval e X.env)::starEach es X.env:=by rfl) (L:(backTo pos (starEach es X.env)).any (·.1)=false:=by rfl)
  (U:eval (.Call (.Attribute o m apos) (e::es) [] pos) X.env=(do
   let y <-eval o X.env
   standAt apos.atName
   let (f,first) <-holding [y] (getMethod y m pl)
   callWith pos f first (backTo pos (starEach (e::es) X.env)) (backToKw pos (keywordEach [] X.env))):=by rfl) :
  PE X (.Call (.Attribute o m apos) (e::es) [] pos) (xE C m sp dvs E ta t):=by
 intro pins s i H Q I h;erw[W.methodCall_KW (pl:=pl) (Zs (O pins s i H _ I h) λu S ⟨x,P,v,T,a,dx,fs,ex,D,l,q⟩=>?_) U];subst ex;obtain rfl:u=Value.ref a:=T;erw[E6 v D c hm l ?_];erw[W.callWith_K (first:=[.ref a]) (h₀:=X.base) I.ok.mod.kin hm.kp (Zs (ha pos pins S i P _ v q) λus s2 ⟨vs,Z,j,r,J⟩=>⟨j.kIn,?_⟩) M L];exact QE (us:=.ref a::us) (vs:=.ref a::vs) F Y B hd G j (.cons R r) J
def E8(G:PE X o ta)(c:YG X.K C)(hm:Yx X.K C m f)(F:Zo X.prog X.w X.K X.mg X.base CX k f fd ps sp)(M:Yh k X.A)(v:XY X.K fd ps ds)(hd:ZB dvs ds)(B:WK CX X E)
  (L:eval (.Call (.Attribute o m apos) [] [] pos) X.env=(do
   let j <-eval o X.env
   standAt apos.atName
   let (f,first) <-holding [j] (getMethod j m pl)
   callWith pos f first (backTo pos (starEach [] X.env)) (backToKw pos (keywordEach [] X.env))):=by rfl) :
  PE X (.Call (.Attribute o m apos) [] [] pos) (xE C m sp dvs E ta Y5):=by
 intro pins s D H Q I h;erw[W.methodCall_KW (pl:=pl) (Zs (G pins s D H _ I h) λu P ⟨x,O,i,J,a,S,fs,ex,y,l,q⟩=>?_) L];subst ex;obtain rfl:u=Value.ref a:=J;erw[E6 i y c hm l ?_];exact W.callWith_K0 (first:=[.ref a]) i.kIn hm.kp (QE (us:=[.ref a]) (vs:=[.ref a]) F M v hd B i (.cons R .nil) q)
structure Mk(K:OA)(C f:Addr):Prop where
 makes:W.makesIn K C=true
 init:W.findIn K (.ref C) "__init__"=some (some (.ref f))
 fn:W.isFn K (.ref f)=true
 kp:W.keepIn K (.ref C)=true
def xG(M:Mk X.K C f)(F:Zo X.prog X.w X.K X.mg X.base CX k f fd ps sp)(Z:Yh (k+1) X.A)(D:XY X.K fd ps ds)(hd:ZB dvs ds)
  (J:WK CX X E) (I:Zb X pins q H s) (r:ZB vs us)
  (h:∀x j,H x=none->H j=none->j≠x->sp (.ref x::(vs++dvs)) (Za (Za H j (.own x)) x (.ins C j [])) (λv S=>v=.non/\Q (.ref x) S) E) :
  wpAny (model X.prog X.w) X.A (call (.ref C) us) (EP X pins q Q) X.xe s:=by
 have y:=h (s.heap.objs.size+1) s.heap.objs.size (I.hok.fresh (Nat.le_succ _)) (I.hok.fresh (Sh _)) (Sg (Sn _));have i:=Zb.made (C:=C) I;have B:ZB (V.ref (s.heap.objs.size+1)::(vs++dvs)) (Value.ref (s.heap.objs.size+1)::(us++ds)):=.cons R (r.append hd);have L:(Value.ref (s.heap.objs.size+1)::us++ds).length=ps.length:=by
  have e:=B.length;rw[F.len _ _ _ _ y]at e;exact e.symm
 refine wpAny_call (ZdX (f:=f) I.kIn M.makes M.init (beq_iff_eq.mp M.fn) (codeAny_mono (F.run _ X.stack _ _ ⟨Value.ref (s.heap.objs.size+1)::us,[]⟩ (Value.ref (s.heap.objs.size+1)::(us++ds)) _ _ E (Z.make C us [])
  (i.env0.make C us []) (D _ (Value.ref (s.heap.objs.size+1)::us) i.kIn L) B y) λr Y c=>?_))
 cases r with
 |error e=>exact J pins q _ _ e Y i c
 |ok fl =>
  cases fl with
  |ret u =>
   obtain⟨v,P,U,G,O,T⟩:=i.after c;subst O;exact⟨G,⟨V.ref (s.heap.objs.size+1),P,U,R,T⟩⟩
  |next=>exact False.elim c
  |brk=>exact False.elim c
  |cont=>exact False.elim c
def W2(M:Mk X.K C f)(F:Zo X.prog X.w X.K X.mg X.base CX k f fd ps sp)(G:Yh (k+1) X.A)(y:Gl X x)(hm:X.mg x=some (.ref C))(i:XY X.K fd ps ds)(hd:ZB dvs ds)(B:WK CX X E)
  (ha:PA X (e::es) t) (j:(x==("__debug__" : Str))=false:=by lia) (u:starEach (e::es) X.env=(false,eval e X.env)::starEach es X.env:=by rfl) (D:(backTo pos (starEach es X.env)).any (·.1)=false:=by rfl) :
  PE X (.Call (.Name x p) (e::es) [] pos) (xF C sp dvs E t):=by
 intro pins s v H Q I h;erw[wpAny_Call_Name_kw (UD I y hm ?_ j)];erw[W.callWith_K (h₀:=X.base) I.ok.mod.kin M.kp (Zs (ha pos pins s v H _ I h) λO P ⟨J,L,c,r,q⟩=>⟨c.kIn,?_⟩) u D];exact xG M F G i hd B c r q
def Zec(M:Mk X.K C f)(F:Zo X.prog X.w X.K X.mg X.base CX k f fd ps sp)(u:Yh (k+1) X.A)(j:Gl X x)(hm:X.mg x=some (.ref C))(c:XY X.K fd ps ds)(hd:ZB dvs ds)(q:WK CX X E)
  (i:(x==("__debug__" : Str))=false:=by lia):PE X (.Call (.Name x p) [] [] pos) (xF C sp dvs E Y5):=by
 intro pins s v H Q I h;erw[wpAny_Call_Name_kw (UD I j hm ?_ i)];exact W.callWith_K0 I.kIn M.kp (xG (us:=[]) M F u c hd q I .nil h)
end
def PK(X:Cx)(c:List Keyword)(t:TA):Prop :=
 ∀(e:Pos) (pins:Oy) (s:Shared) (σ:St) (H:Hp) (Q:List V->Hp->Prop),Zb X pins σ H s->t σ H Q->wpAny (model X.prog X.w) X.A (evalAll ((backToKw e (keywordEach c X.env)).map (·.2))) (AP X pins σ Q) X.xe s
section
variable{CX:XX}{k:Nat}{f C:Addr}{fd:OM}{ps ks:OF}{sp:Sp}{E:XK}{x m:Str}{p apos kpos:Pos}{e o:Expr}{es:OG}{kws:List Keyword}{te ta:TE}{t tk:TA}{nm:Option Str}
def xH:PK X [] Y5:=λ_ _ _ _ H Q I h=>wpAny_evalAll_nil ⟨[],H,I,.nil,h⟩
def xI(ha:PE X e te)(L:PK X kws t):PK X (⟨nm,e,kpos⟩::kws) (Yj te t):=by
 intro pos pins s c H Q I h;show wpAny _ _ (evalAll ((do let v <-eval e X.env;standAt pos;pure v)::(backToKw pos (keywordEach kws X.env)).map (·.2))) _ _ s;erw[wpAny_evalAll_cons (Sa (Zs (ha pins s c H _ I h) λu y ⟨x,i,J,r1,q⟩=>Sa (wpAny_standAt (Sb ?_))))];exact Zs (L pos pins y c i _ J q) λO s2 ⟨G,M,j,B,D⟩=>⟨x::G,M,j,.cons r1 B,D⟩
structure Zmi(K:OA)(fd:OM)(ps ks:OF)(g:List Value->List Value->List Value)(gV:List V->List V->List V):Prop where
 to:∀(s:Shared) (us ws:OE),K.In s.heap->(g us ws).length=ps.length->BindsTo s fd ⟨us,ks.zip ws⟩ (ps.zip (g us ws))
 rel:∀{vs:List V} {us:OE} {zs:List V} {ws:OE},ZB vs us->ZB zs ws->ZB (gV vs zs) (g us ws)
variable{g:List Value->List Value->List Value}{gV:List V->List V->List V}
end
structure ZC(N P:OF)(sc:Scope):Prop where
 kind:sc.kind=.function
 co:sc.isCoroutine=false
 gen:sc.isGenerator=false
 nd:N.Nodup
 pre:N.take P.length=P
 par:∀x∈P,sc.names.lookup x=some .local\/sc.names.lookup x=some .cell
 nofree:∀y∈sc.names,y.2≠.free
theorem xJ{kindOf:Str->Option NameKind}{x:Str}:∀{binds:List (Str×Value)} {m:Oz},(∀v,(x,v)∉binds)->bindL kindOf binds m x=m x
 |[],_,_=>rfl
 |(n,v)::r,m,h=>by
  unfold bindL;rw[xJ λw c=>h w (SE _ c)];split;have:x≠n:=by rintro rfl;exact h v SF
  simp[this];rfl
theorem xK{kindOf:Str->Option NameKind}{x:Str}:∀{binds:List (Str×Value)} {m:Oz},(∀v,(x,v)∉binds)->bindC kindOf binds m x=m x
 |[],_,_=>rfl
 |(n,v)::r,m,h=>by
  unfold bindC;rw[xK λw c=>h w (SE _ c)];split;rfl;have:x≠n:=by rintro rfl;exact h v SF
  simp[this]
theorem xL{kindOf:Str->Option NameKind}{x:Str}{v:Value}:∀{P:OF} {vs:OE} {i:Nat} {m:Oz},P.Nodup->P[i]? = some x->vs[i]? = some v->kindOf x=some .local ->
  bindL kindOf (P.zip vs) m x=some v
 |[],_,_,_,_,h,_,_=>by simp at h
 |_::_,[],_,_,_,_,h,_=>by simp at h
 |p::P,w::vs,0,m,nd,h1,c,e=>by
  simp at h1 c;subst h1;subst c;show bindL kindOf ((p,w)::P.zip vs) m p=_;unfold bindL;rw[xJ λv f=>(On.mp nd).1 (List.of_mem_zip f).1,SY e];simp
 |p::P,w::vs,i+1,m,nd,h1,c,e=>by
  show bindL kindOf ((p,w)::P.zip vs) m x=_;unfold bindL;exact xL (i:=i) (On.mp nd).2 (by simpa using h1) (by simpa using c) e
theorem xM{kindOf:Str->Option NameKind}{x:Str}{v:Value}:∀{P:OF} {vs:OE} {i:Nat} {m:Oz},P.Nodup->P[i]? = some x->vs[i]? = some v->kindOf x≠some .local ->
  bindC kindOf (P.zip vs) m x=some v
 |[],_,_,_,_,h,_,_=>by simp at h
 |_::_,[],_,_,_,_,h,_=>by simp at h
 |p::P,w::vs,0,m,nd,h1,c,e=>by
  simp at h1 c;subst h1;subst c;show bindC kindOf ((p,w)::P.zip vs) m p=_;unfold bindC;rw[xK λv f=>(On.mp nd).1 (List.of_mem_zip f).1,SX e];simp
 |p::P,w::vs,i+1,m,nd,h1,c,e=>by
  show bindC kindOf ((p,w)::P.zip vs) m x=_;unfold bindC;exact xM (i:=i) (On.mp nd).2 (by simpa using h1) (by simpa using c) e
def W3(N:OF)(vs:List V):St:=vs.map some++List.replicate (N.length - vs.length) none
def WL(CX:XX)(P:Program)(w:World)(K:OA)(mg:Oz)(base:Heap)(N:OF)(qual:Str)(scope:Scope)(f:Addr)(cd:Value)(A:Around)(outer:List Env)(s:Shared)(H:Hp)(E:XK):Cx where
 prog:=P
 w:=w
 K:=K
 mg:=mg
 base:=base
 A:=A.deeper (envOfC qual scope s.heap.objs.size f cd)
 N:=N
 s₀:=s
 H₀:=H
 env:=envOfC qual scope s.heap.objs.size f cd
 outer:=outer
 stack:=envOfC qual scope s.heap.objs.size f cd::outer
 ex:=[]
 calm:=true
 fn:=λ_=>true
 pn:=[]
 xe:=λe i=>wpAny (model P w) (A.deeper (envOfC qual scope s.heap.objs.size f cd)) (leaving (envOfC qual scope s.heap.objs.size f cd) e) (λ_ c=>CX outer H s E e c) (λh c=>CX outer H s E h c) i
def xN{e:Scope}(h:e.names.lookup x=some .cell):∃c,(cellsFrom n e.names []).lookup x=some c:=by
 have q:=W.cellsFrom_some e.names n [] (.inl h);exact Option.isSome_iff_exists.mp q
def xO{CX:XX}{N C:OF}{qual:Str}{f:Addr}{cd:Value}{outer:List Env}{T:Shared}{E:XK}{us:OE}{vs:List V}
  (S:ZC N C scope) (hd:A.handled=none) (B:Vp P w K mg base A outer s H) (X:vs.length=C.length) (r:ZB vs us)
  (x:InCallC s s.heap.objs.size (bindL (envOfC qual scope s.heap.objs.size f cd).kindOf (C.zip us) λ_=>none) (cellsFrom (s.heap.objs.size+1) scope.names []) (bindC (envOfC qual scope s.heap.objs.size f cd).kindOf (C.zip us) λ_=>none) T) :
  Zb (WL CX P w K mg base N qual scope f cd A outer s H E) [] (W3 N vs) H T:=by
 have Y:C.length<=N.length:=by have:=congrArg List.length S.pre;rw[Sz]at this;lia
 ext⟨I,tk,rfl,M⟩ x.done;have L:∀b:Addr,b∉(WL CX P w K mg base N qual scope f cd A outer s H E).ex:=λb z=>Ov (show b∈([]:OK)from z) (by simp);refine⟨⟨B.mod,S.kind,R,R,Sh _,λy z c I j=>?_,λy D=>?_,λy c _ h=>?_,λ_=>hd,Around.frames_deeper B.frames,.inr ⟨R,R⟩,λb z=>Ov z (L b),B.bs,B.bsz,λb _ _=>L b,λb z=>Ov z (L b),B.funs,B.frf⟩,
  rfl,B.bare,Un.kept M,⟨_,x.toInCall.ns,λi y v I j Z=>?_⟩,λy c h=>⟨_,x.cell y c h⟩,B.hok.fresh (Sh _),λy c h=>?_,λp G=>Ov (show p∈([]:Oy)from G) (by simp),B.hok.kept M,?_⟩
 exact name_of_addr x.apart (PySem.mem_of_lookup I) (PySem.mem_of_lookup j);have D:scope.names.lookup y=some .cell\/scope.names.lookup y=some .free:=D;rcases D with D|D;exact xN D;exact Ov R (S.nofree _ (PySem.mem_of_lookup D));exact Nat.le_of_lt (x.above y c (PySem.mem_of_lookup h));have J:i<vs.length:=by
  unfold W3 at j;by_cases J:i<vs.length;exact J;rw[Od (by simpa using J)]at j;rw[List.getElem?_replicate]at j;split at j<;>cases j
 have ha:vs[i]? = some v:=by
  unfold W3 at j;rw[List.getElem?_append_left (by simpa using J),Oc]at j;cases e:vs[i]? with
  |none=>rw[e]at j;cases j
  |some a=>rw[e]at j;cases j;rfl
 obtain⟨u,Q,U⟩:=r.get ha;have G:C[i]? = some y:=by
  rwa[<-S.pre,List.getElem?_take_of_lt ()]
 have O:C.Nodup:=by rw[<-S.pre];exact S.nd.sublist (List.take_sublist _ _)
 erw[⟨u,U,?_⟩];rcases S.par y (SM G)with k|k;exact .inl ⟨k,xL O G Q k⟩;obtain⟨c,e⟩:=xN (n:=s.heap.objs.size+1) k;erw[.inr ⟨.inl k,c,e,?_⟩];have q:=x.cell y c e;rw[xM O G Q (by show scope.names.lookup y≠_;rw[k];lia)]at q;exact q;exact B.hok.fresh (Nat.le_of_lt (x.above y c (PySem.mem_of_lookup h)));unfold W3;show _=N.length;rw[Sw,Sx,SC];lia
def MX{CX:XX}{k:Nat}{f:Addr}{name qual:Str}{params:Arguments}{body:List Stmt}{M kV T U h ct oc:Value}{O od:OI}
  {a0:OC} {N B:OF} {sp:Sp} (lk:K.lookup f=some ⟨oc,od,.func (W.fnOf name qual params body scope M kV T U O h ct),a0⟩) (g0:W.codeIn K h qual=true) (S:ZC N B scope)
  (len:∀vs H Q E,sp vs H Q E->vs.length=B.length)
  (d0:∀(A:Around) (outer:List Env) (s:Shared) (H:Hp) (vs:List V) (Q:VK) (E:XK),Yh k (A.deeper (envOfC qual scope s.heap.objs.size f h))->sp vs H Q E ->
   ∃t,XV (WL CX P w K mg base N qual scope f h A outer s H E) body t/\t {nx:=λ_ c=>Q .non c,rt:=Q} (W3 N vs) H) :
  Zo P w K mg base CX (k+1) f (W.fnOf name qual params body scope M kV T U O h ct) B sp:=by
 erw[⟨len,λA outer s H args us vs Q E I j Z r X=>?_⟩];have hl:=len _ _ _ _ X;have KX:K.In s.heap:=j.mod.kin.keeps λb o e=>(j.bs b o e).1;have f0:s.heap.NoLimit:=j.mod.nolimit.keeps λb o e=>(j.bs b o e).1;have c0:∀y∈B.zip us,scope.names.lookup y.1=some .local\/(scope.names.lookup y.1=some .cell/\((cellsFrom (s.heap.objs.size+1) scope.names []).lookup y.1).isSome=true):=λ⟨n,v⟩ hy=>by
  rcases S.par n (List.of_mem_zip hy).1 with q|q;exact .inl q;exact .inr ⟨q,W.cellsFrom_some _ _ _ (.inl q)⟩
 erw[codeAny_call_function I.depth (KX _ _ lk) R S.co S.gen R (W.codeRec_of KX g0) (Z _ _ _ _ ?_)];erw[wpAny_newFunctionEnv_cells S.kind c0 λenv he Y x=>?_];subst he;erw[⟨f0.keeps x.toInCall.keep,codeAny_func ?_⟩];obtain⟨t,ht,hq⟩:=d0 A outer s H vs Q E (I.deeper _) X;have b0:Zb (WL CX P w K mg base N qual scope f h A outer s H E) [] (W3 N vs) H Y:=xO S I.hd j hl r x;erw[Ou (ht [] Y (W3 N vs) H _ b0 hq) (λfl G i=>?_) λe G i=>i];have L:∀{C:St} {c:Hp} {v:V} {u:Value},Zb (WL CX P w K mg base N qual scope f h A outer s H E) [] C c G->ZG v u->Q v c->CE outer P w H s Q u G :=
  λ{C c v u} J D q=>⟨v,c,J.os,J.bare,J.base,J.hok,D,q⟩
 cases fl with
 |ret u =>
  ext⟨v,C,c,J,D,q⟩ i;exact L J D q
 |next =>
  ext⟨C,c,J,q⟩ i;exact L (v:=V.non) (u:=Value.none) J R q
 |brk =>
  ext⟨_,_,_,q⟩ i;exact False.elim q
 |cont =>
  ext⟨_,_,_,q⟩ i;exact False.elim q
section
variable{x:Str}{p:Pos}{e:Expr}{es:OG}{t:TA}{id T:String}{r:List V->Hp->VK->Prop}
def V6(r:List V->Hp->VK->Prop)(t:TA):TE:=λh H Q=>t h H λc f=>r c f Q
def xP(i:YT X (.builtin id) r)(B:Gl X x)(hm:X.mg x=none)(f:bootBuiltins x=some (.builtin id))(ha:PA X (e::es) t)(hn:x ≠ "__name__" := by lia) (j:(x==("__debug__" : Str))=false:=by lia)
  (u:starEach (e::es) X.env=(false,eval e X.env)::starEach es X.env:=by rfl) (D:(backTo pos (starEach es X.env)).any (·.1)=false:=by rfl):PE X (.Call (.Name x p) (e::es) [] pos) (V6 r t):=by
 intro pins s c H Q I h;erw[wpAny_Call_Name_kw (UE I B hm f ?_ hn j)];exact PyProof.Rows.callWith_builtin1 (Zs (ha pos pins s c H _ I h) λy C ⟨q,v,E,r1,G⟩=>i pins C c v q y Q E r1 G) u D
def Yt(i:YT X (.type T) r)(B:Gl X x)(hm:X.mg x=none)(f:bootBuiltins x=some (.type T))(ha:PA X (e::es) t)(hn:x ≠ "__name__" := by lia) (j:(x==("__debug__" : Str))=false:=by lia)
  (u:starEach (e::es) X.env=(false,eval e X.env)::starEach es X.env:=by rfl) (D:(backTo pos (starEach es X.env)).any (·.1)=false:=by rfl):PE X (.Call (.Name x p) (e::es) [] pos) (V6 r t):=by
 intro pins s c H Q I h;erw[wpAny_Call_Name_kw (UE I B hm f ?_ hn j)];exact PyProof.Rows.callWith_type1 (Zs (ha pos pins s c H _ I h) λy C ⟨q,v,E,r1,G⟩=>i pins C c v q y Q E r1 G) u D
end
end L2
namespace HT
open PySem PyProof.Rows
section
open PySem.SeqAt
open PySem.AutoSeq1 (wpAny_loadPart')
open PySem.MeetsSeq PySem.MeetsSeq2 PySem.MeetsSeq3
end
def sIx(n d:Nat):Option Int->Nat
 |none=>d
 |some v=>if v<0 then (v+(n:Int)).toNat else min v.toNat n
def Zed(n d:Nat)(hd:d<=n)(o:Option Int):sIx n d o<=n:=by
 cases o with
 |none=>exact hd
 |some v =>
  show(if v<0 then (v+(n:Int)).toNat else min v.toNat n)<=n;by_cases c:v<0;rw[if_pos c];lia;rw[if_neg c];exact Nat.min_le_right _ _
def xQ(v:Int)(n d:Nat):(if v<0 then max (v+(n:Int)) 0 else min v (n:Int))=((sIx n d (some v):Nat):Int):=by
 show(if v<0 then max (v+(n:Int)) 0 else min v (n:Int))=(((if v<0 then (v+(n:Int)).toNat else min v.toNat n):Nat):Int);by_cases c:v<0;simp only[if_pos c];lia;simp only[if_neg c];lia
def Zee(lo hi:Option Int)(n:Nat):Builtin.Slice.sliceAdjust lo hi 1 (n:Int)=(((sIx n 0 lo:Nat):Int),((sIx n n hi:Nat):Int)):=by
 have c:¬ ((1:Int)<0):=by lia
 unfold Builtin.Slice.sliceAdjust;simp only[c,if_false];erw[Prod.ext ?_ ?_];cases lo with
 |none=>rfl
 |some v=>exact xQ v n 0
 cases hi with
 |none=>rfl
 |some v=>exact xQ v n n
def Zef(i j:Nat):Builtin.Slice.slicePlaces (i:Int) (j:Int) 1=j - i:=by
 unfold Builtin.Slice.slicePlaces;have c:(1:Int)>0:=by lia
 simp only[c,if_true,Int.ediv_one];split<;>omega
def xR(p:IsPart v o)(h:Q o s):wpAny (model prog w) A (Builtin.Slice.slicePartIndex v) Q E s:=by
 cases p with
 |none=>exact slicePart_none h
 |int i t=>exact slicePart_int h
def Zeg{j:Addr}{e f:Value}{lo hi:Option Int}{n:Nat}{Q:Int×Int×Nat->Shared->Prop}(u:s.heap.IsSliceOf j e f .none)(pl:IsPart e lo)(q:IsPart f hi)
  (h:Q (((sIx n 0 lo:Nat):Int),1,sIx n n hi - sIx n 0 lo) s):wpAny (model prog w) A (Builtin.Slice.sliceApplied (.ref j) (pure (n:Int))) Q E s:=by
 obtain⟨os,i,v,c⟩:=id u;unfold Builtin.Slice.sliceApplied Builtin.Slice.sliceFields;erw[wpAny_bind (wpAny_bind (wpAny_field i c (x:=e) rfl (wpAny_bind (wpAny_field i c (x:=f) rfl (wpAny_bind (wpAny_field i c (x:=.none) rfl (wpAny_pure ?_)))))))];erw[wpAny_bind (slicePart_none ?_)];show wpAny _ _ (if ((1:Int)==0)=true then _ else _) _ _ s;rw[if_neg ()];erw[wpAny_bind (xR pl (wpAny_bind (xR q (wpAny_bind (wpAny_pure ?_)))))];show wpAny _ _ (match Builtin.Slice.sliceAdjust lo hi 1 (n:Int)with|(lo,hi)=>pure (lo,(1:Int),Builtin.Slice.slicePlaces lo hi 1)) _ _ s;rw[Zee lo hi n];show wpAny _ _ (pure (((sIx n 0 lo:Nat):Int),(1:Int),Builtin.Slice.slicePlaces ((sIx n 0 lo:Nat):Int) ((sIx n n hi:Nat):Int) 1)) _ _ s;rw[Zef];exact wpAny_pure h
def Zeh(xs:Array Value)(i k:Nat):((List.range k).filterMap λ(m:Nat)=>xs[((i:Int)+(m:Int)*1).toNat]?).toArray=((xs.toList.drop i).take k).toArray:=by
 have e:(λ(m:Nat)=>xs[((i:Int)+(m:Int)*1).toNat]?)=λm=>xs[i+m]?:=by
  funext m;have:((i:Int)+(m:Int)*1).toNat=i+m:=by lia
  rw[this]
 rw[e];have:=pick_run xs i k;rw[List.filterMap_map]at this;have c:((λx=>xs[x]?) ∘ λx=>i+x)=λm=>xs[i+m]?:=rfl;rw[c]at this;rw[this]
def getItem_tuple_cut{t f:Addr}{items:Array Value}{j u:Value}{lo hi:Option Int}{Q:Value->Shared->Prop}(c:IsTup s.heap t items)(i:s.heap.IsSliceOf f j u .none)(pl:IsPart j lo)(v:IsPart u hi)
  (B:¬ (sIx items.size 0 lo=0/\sIx items.size items.size hi=items.size))
  (h:Q (.ref s.heap.objs.size) {s with heap:=s.heap.push {cls:=.type "tuple",data:=.seq ((items.toList.drop (sIx items.size 0 lo)).take (sIx items.size items.size hi - sIx items.size 0 lo)).toArray} })
  (I:items.size<=sizeLine):wpAny (model prog w) A (getItem (.ref t) (.ref f)) Q E s:=by
 have e:sizeOk (.seq ((items.toList.drop (sIx items.size 0 lo)).take (sIx items.size items.size hi - sIx items.size 0 lo)).toArray):=by
  show((items.toList.drop (sIx items.size 0 lo)).take (sIx items.size items.size hi - sIx items.size 0 lo)).toArray.size<=sizeLine;rw[List.size_toArray,List.length_take,List.length_drop,Array.length_toList];lia
 have L:sIx items.size items.size hi<=items.size:=Zed _ _ (Nat.le_refl _) hi;obtain⟨os,G,C,H⟩:=id i;have y:s.TypeIs (.ref f) "slice" := ⟨os,G,C⟩;unfold getItem
 try with_reducible erw[wpAny_holding ?_]
 first|refine wpAny_bind (wpAny_pure ?_)|skip
 erw[wpAny_bind (wpAny_sequenceKey c.typeIs () ?_)];refine wpAny_bind (wpAny_callSpecial?_slot (name:=Str.ofString "__getitem__") c.typeIs PyProof.Rows.slot_tuple_getitem
  (wpAny_call_entry PyProof.Rows.slot_tuple_getitem c.typeIs entry_tuple_getitem ?_ (args_tuple_getitem _ _)))
 show wpAny _ _ (Builtin.Tuple.tupleItemsOf (.ref t) >>= _) _ _ s;erw[wpAny_bind (tupleItemsOf_ c ?_)];erw[wpAny_bind (wpAny_typeOf y ?_)];rw[if_pos ()];erw[wpAny_bind (Zeg i pl v ?_)];have D:¬ ((((sIx items.size 0 lo:Nat):Int)==0 && (1:Int)==1 && (sIx items.size items.size hi - sIx items.size 0 lo)==items.size)=true):=by
  intro q;rw[Bool.and_eq_true,Bool.and_eq_true]at q;have J:((sIx items.size 0 lo:Nat):Int)=0:=eq_of_beq q.1.1;have M:sIx items.size items.size hi - sIx items.size 0 lo=items.size:=eq_of_beq q.2;exact B ⟨(),()⟩
 show wpAny _ _ (if (((sIx items.size 0 lo:Nat):Int)==0 && (1:Int)==1 && (sIx items.size items.size hi - sIx items.size 0 lo)==items.size)=true then _ else _) _ _ s;rw[if_neg D,Zeh]
 first
  |exact wpAny_bind (m:=Builtin.Tuple.tupleExact _) (wpAny_newObj_type (wpAny_pure ⟨_,rfl,wpAny_pure h⟩) e)
  |exact wpAny_bind (m:=Builtin.Tuple.tupleExact _) (wpAny_newObj_type (wpAny_bind (wpAny_pure (wpAny_pure ⟨_,rfl,wpAny_pure h⟩))) e)
  |exact wpAny_bind (wpAny_bind (m:=Builtin.Tuple.tupleExact _) (wpAny_newObj_type (wpAny_pure (wpAny_pure ⟨_,rfl,wpAny_pure h⟩)) e))
  |exact wpAny_bind (wpAny_bind (m:=Builtin.Tuple.tupleExact _) (wpAny_newObj_type (wpAny_pure ⟨_,rfl,wpAny_pure h⟩) e))
end HT
namespace L2
open PySem PySem.Spec PyProof.Rows
abbrev TO:=St->Hp->(Option Int->Hp->Prop)->Prop
def PO(X:Cx)(e:Option Expr)(t:TO):Prop :=
 ∀(pins:Oy) (s:Shared) (σ:St) (H:Hp) (Q:Option Int->Hp->Prop),Zb X pins σ H s->t σ H Q ->
  wpAny (model X.prog X.w) X.A (evalPart e X.env) (λu f=>∃o c,Zb X pins σ c f/\IsPart u o/\Q o c) X.xe s
def Zei:TO:=λ_ H Q=>Q none H
inductive Zej(Q:Option Int->Hp->Prop)(x:V)(H1:Hp):Prop|mk i (_:x=.int i) (_:Q (some i) H1)
def Zek(t:TE):TO:=λc H Q=>t c H λx e=>Zej Q x e
section
variable{e:Expr}{te:TE}{lo hi:Option Expr}{tl th:TO}{p2:Pos}
def Q8:PO X none Zei:=by
 intro pins s c H Q I h;rw[evalPart_none];exact Sb ⟨none,H,I,.none,h⟩
def Ur(h:PE X e te):PO X (some e) (Zek te):=by
 intro pins s j H Q I c;rw[evalPart_some];erw[Zs (h pins s j H _ I c) λu B ⟨x,f,v,r1,y⟩=>?_];ext⟨i,rfl,q⟩ y;ext⟨t,rfl⟩ r1;exact⟨some i,f,v,.int i t,q⟩
def E9(X:Cx)(r:V->Option Int->Option Int->Hp->VK->Prop):Prop :=
 ∀(pins:Oy) (s:Shared) (σ:St) (H:Hp) (x:V) (v vl vu:Value) (lo hi:Option Int) (sl:Addr) (Q:VK),Zb X pins σ H s->ZG x v->s.heap.IsSliceOf sl vl vu .none->IsPart vl lo->IsPart vu hi->r x lo hi H Q ->
  ∃T id,typeLookup (.type T) "__getitem__"=pure (some (.builtin id))/\s.TypeIs v T/\wpAny (model X.prog X.w) X.A (getItem v (.ref sl)) (EP X pins σ Q) X.xe s
def tSl(r:V->Option Int->Option Int->Hp->VK->Prop)(te:TE)(tl th:TO):TE:=λc H Q=>te c H λx f=>tl c f λl i=>th c i λu h=>r x l u h Q
def QF(hr:E9 X r)(P:PE X e te)(D:PO X lo tl)(G:PO X hi th):PE X (.Subscript e (.Slice lo hi none p2) pos) (tSl r te tl th):=by
 intro pins s f H Q I h;erw[Subscript_ (Zs (P pins s f H _ I h) λv s1 ⟨x,S,M,r1,Z⟩=>?_)];erw[wpAny_Slice (Zs (D pins s1 f S _ M Z) λj s2 ⟨l,O,L,C,E⟩=>Zs (G pins s2 f O _ L E) λi c ⟨u,y,I3,J,U⟩=>?_)];rw[evalPart_none];erw[Sb ?_];have B:Zb X pins f y {c with heap:=c.heap.push {cls:=.type "slice",data:=.fields #[j,i,.none]} }:=I3.kept (t':=c.toks) λb ob q=>Sc _ q;obtain⟨a0,id,T,ht,Y⟩:=hr pins {c with heap:=c.heap.push {cls:=.type "slice",data:=.fields #[j,i,.none]} } f y x v j i l u c.heap.objs.size Q B r1 (Heap.IsSliceOf.new ..) C J U;show wpAny (model X.prog X.w) X.A (subscriptTail e (.Slice lo hi none p2) v (.ref c.heap.objs.size)) (EP X pins f Q) X.xe {c with heap:=c.heap.push {cls:=.type "slice",data:=.fields #[j,i,.none]} };exact tail_any (ops:=[.ref c.heap.objs.size,v]) ht T Y (by with_unfolding_all rfl)
def WM(xs:List V)(lo hi:Option Int):List V:=(xs.drop (HT.sIx xs.length 0 lo)).take (HT.sIx xs.length xs.length hi - HT.sIx xs.length 0 lo)
def xS(xs:List V)(lo hi:Option Int):(WM xs lo hi).length<=xs.length:=by
 unfold WM;rw[Sz,SD];lia
inductive xT(K:OA)(x:V)(lo:Option Int)(hi:Option Int)(H:Hp)(Q:VK):Prop|mk a xs (_:x=.ref a) (_:Zl K H a xs) (_:¬ (HT.sIx xs.length 0 lo=0/\HT.sIx xs.length xs.length hi=xs.length)) (_:∀p,H p=none->Q (.ref p) (Za H p (.tup (WM xs lo hi))))
def Zel:E9 X (xT X.K):=by
 intro pins s L H x v J G lo hi E Q I D B j y h;ext⟨a,c,rfl,u,C,q⟩ h;cases D;obtain⟨its,r,i,f⟩:=I.tuple u;have hlen:its.toArray.size=c.length:=by rw[SQ];exact r.length.symm
 erw[⟨"tuple",_,PyProof.Rows.slot_tuple_getitem.lookup,i.typeIs,?_⟩];erw[HT.getItem_tuple_cut i B j y (by rwa[hlen]) ?_ (by rwa[hlen])];rw[hlen];erw[⟨.ref s.heap.objs.size,_,I.laid (t':=s.toks) (o:=.tup (WM c lo hi)) (λb ob q=>Sc _ q) (Sh _) ?_,R,q _ (I.hok.fresh (Sh _))⟩];exact⟨Si (xS c lo hi) f,_,(r.drop (HT.sIx c.length 0 lo)).take (HT.sIx c.length c.length hi - HT.sIx c.length 0 lo),IsTup.new _ _⟩
end
def Q9(n:Nat)(i:Int):Option Nat:=if 0<=i then (if i<n then some i.toNat else none)else if -(n:Int)<=i then some (i+n).toNat else none
def YP{c:Type}(xs:List c)(i:Int):Option c:=(Q9 xs.length i).bind λj=>xs[j]?
def Zem(h:Q9 n i=some j):seqIndex? i n=some j/\j<n/\-(n:Int)<=i/\i<n:=by
 unfold Q9 at h;by_cases f:0<=i;rw[SY f]at h;by_cases c:i<n;rw[SY c]at h;have e:i.toNat=j:=Sr h;exact⟨by rw[seqIndex_of f c,e],(),(),c⟩;rw[SX c]at h;cases h;rw[SX f]at h;by_cases c:-(n:Int)<=i;rw[SY c]at h;have e:(i+n).toNat=j:=Sr h;exact⟨by rw[seqIndex_neg () c,e],(),c,()⟩;rw[SX c]at h;cases h
def MY{c:Type}{xs:List c}{i:Int}{v:c}(h:YP xs i=some v):∃j,seqIndex? i xs.length=some j/\xs[j]? = some v/\j<xs.length/\-(xs.length:Int)<=i/\i<xs.length:=by
 unfold YP at h;cases e:Q9 xs.length i with
 |none=>rw[e]at h;cases h
 |some j =>
  rw[e]at h;obtain⟨u,f,y,q⟩:=Zem e;exact⟨j,u,h,f,y,q⟩
def XZ{c:Type}{xs:List c}{j:Nat}{v:c}(h:xs[j]? = some v):YP xs (j:Int)=some v:=by
 have f:j<xs.length:=(Su.mp h).1;have e:Q9 xs.length (j:Int)=some j:=by
  unfold Q9;rw[SY (),SY ()];simp
 unfold YP;rwa[e]
def xU(b:Expr):Prop:=∀o i,subscripted b false o i=operate [o,i] (getItem o i)
def VJ(X:Cx)(r:R2):Prop :=
 ∀(value slice:Expr) (pins:Oy) (s:Shared) (σ:St) (H:Hp) (x y:V) (v u:Value) (Q:VK),Zb X pins σ H s->ZG x v->ZG y u->r x y H Q ->
  subscripted slice false v u=operate [v,u] (getItem v u)->wpAny (model X.prog X.w) X.A (subscriptTail value slice v u) (EP X pins σ Q) X.xe s
def MZ(X:Cx)(id:String)(r:V->List V->Hp->VK->Prop):Prop :=
 ∀(pins:Oy) (s:Shared) (σ:St) (H:Hp) (x:V) (xs:List V) (v:Value) (us:OE) (Q:VK),Zb X pins σ H s->ZG x v->ZB xs us->r x xs H Q ->
  wpAny (model X.prog X.w) X.A (call (.builtin id) (v::us)) (EP X pins σ Q) X.xe s
section
variable{a b:Expr}{ta tb:TE}
def xV(j:VJ X r)(ha:PE X a ta)(c:PE X b tb)(D:xU b):PE X (.Subscript a b pos) (W0 r ta tb):=by
 intro pins s e H Q I h;exact Subscript_ (MQ ha c I h λv u s2 x y C f B i q=>j a b pins s2 e C x y v u Q f B i q (D _ _))
inductive M0(K:OA)(x:V)(y:V)(H:Hp)(Q:VK):Prop|mk p xs i v (_:x=.ref p) (_:y=.int i) (_:Zg K H p xs) (_:YP xs i=some v) (_:Q v H)
inductive A0(K:OA)(x:V)(y:V)(H:Hp)(Q:VK):Prop|mk p xs i v (_:x=.ref p) (_:y=.int i) (_:Zl K H p xs) (_:YP xs i=some v) (_:Q v H)
inductive Zen(x:V)(y:V)(H:Hp)(Q:VK):Prop|mk z i c (_:x=.str z) (_:y=.int i) (_:z.length<=sizeLine) (_:YP z.cps.toList i=some c) (_:Q (.str ⟨#[c]⟩) H)
def YC:VJ X (M0 X.K):=by
 intro value slice pins s C H x a0 b0 u Q I T G h D;ext⟨p,Y,i,z,rfl,rfl,M,S,q⟩ h;cases T;ext⟨t,rfl⟩ G;obtain⟨its,r,f,hz⟩:=I.list M;obtain⟨j,c,O,Z,J,P⟩:=MY S;obtain⟨w,B,E⟩:=r.get O;have L:=r.length;have hn:=Q6;have v:EP X pins C Q w s:=⟨z,H,I,E,q⟩;by_cases y:0<=i;have e:i.toNat=j:=by
  rw[seqIndex_of y P]at c;exact Sr c
 exact item_listR f.isList y () (by rw[e];simpa using B) v D;have e:(i+(its.toArray.size:Int)).toNat=j:=by
  rw[seqIndex_neg () J]at c;rw[SQ,<-L];exact Sr c
 exact subscriptTail_builtinR (x:=w) f.isList.typeIs slot_list_getitem.lookup
  (wpAny_getItem_list_neg (Q:=λr U=>r=w/\EP X pins C Q r U) f.isList () (by rw[SQ]<;>omega) () (by rw[e];simpa using B) ⟨R,v⟩) D
def ZN:VJ X (A0 X.K):=by
 intro value slice pins s e H x y a0 u Q I O C h L;ext⟨p,S,i,z,rfl,rfl,G,M,q⟩ h;cases O;ext⟨t,rfl⟩ C;obtain⟨its,r,c,Y⟩:=I.tuple G;obtain⟨j,f,J,U,T,Z⟩:=MY M;obtain⟨w,E,B⟩:=r.get J;have D:=r.length;have hn:=Q6;have v:EP X pins e Q w s:=⟨z,H,I,B,q⟩;exact subscriptTail_builtinR (x:=w) c.typeIs slot_tuple_getitem.lookup
  (getItem_tuple (j:=j) (Q:=λr P=>r=w/\EP X pins e Q r P) c () () (by rwa[SQ,<-D]) (by simpa using E) ⟨R,v⟩) L
def xW:VJ X Zen:=by
 intro value slice pins s U H x y v u Q I O f h L;ext⟨z,i,c,rfl,rfl,T,M,q⟩ h;ext⟨t,rfl⟩ O;ext⟨P,rfl⟩ f;obtain⟨j,e,E,S,B,G⟩:=MY M;have C:z.cps.toList.length=z.length:=by simp[Str.length]
 rw[C]at e B G;have hn:=Q6;exact tail_any (typeIs_str s z t) slot_str_getitem.lookup (getItem_str (c:=c) (by
  have J:decide (i < -(2 ^ 63:Int))=false:=SU ();have D:decide (i ≥ 2 ^ 63)=false:=SU ();rw[J,D,Bool.or_false]) (by rw[e];simpa using E) ⟨.str ⟨#[c]⟩,H,I.tok _,⟨_,R⟩,q⟩) L
def Zeo(lo hi:Option Int)(n:Nat):(sliceBounds lo hi none n).1=((HT.sIx n 0 lo:Nat):Int)/\(sliceBounds lo hi none n).2.1=((HT.sIx n n hi:Nat):Int)/\(sliceBounds lo hi none n).2.2=1:=by
 erw[⟨?_,?_,R⟩];cases lo with
 |none=>simp[sliceBounds,HT.sIx]
 |some i =>
  simp only[sliceBounds,HT.sIx,Option.getD_none,show(1:Int)>0 by lia,if_true];by_cases h:i<0;simp only[h,if_true]<;>omega
  simp only[h,if_false]<;>omega
 cases hi with
 |none=>simp[sliceBounds,HT.sIx]
 |some i =>
  simp only[sliceBounds,HT.sIx,Option.getD_none,show(1:Int)>0 by lia,if_true];by_cases h:i<0;simp only[h,if_true]<;>omega
  simp only[h,if_false]<;>omega
def Zep(its:OE)(lo hi:Option Int):slicePick its.toArray lo hi none=((its.drop (HT.sIx its.length 0 lo)).take (HT.sIx its.length its.length hi - HT.sIx its.length 0 lo)).toArray:=by
 obtain⟨e,f,c⟩:=Zeo lo hi its.toArray.size;unfold slicePick;rw[e,f,c];simp only[sliceRange_one,pick_run,SQ]<;>rfl
inductive Zeq(K:OA)(x:V)(lo:Option Int)(hi:Option Int)(H:Hp)(Q:VK):Prop|mk a xs (_:x=.ref a) (_:Zg K H a xs) (_:∀p,H p=none->Q (.ref p) (Za H p (.lst (WM xs lo hi))))
def KQ:E9 X (Zeq X.K):=by
 intro pins s J H x v G E lo e D Q I C B i u h;ext⟨a,c,rfl,j,q⟩ h;cases C;obtain⟨its,r,f,y⟩:=I.list j;have hlen:=r.length;erw[⟨"list",_,slot_list_getitem.lookup,f.isList.typeIs,?_⟩];erw[wpAny_getItem_list_slice f.isList B i u .none (by simp) ?_ (by rw[SQ]<;>omega)];rw[Zep,<-hlen];erw[⟨.ref s.heap.objs.size,_,I.laid (t':=s.toks) (o:=.lst (WM c lo e)) (λb ob q=>Sc _ q) (Sh _) ?_,R,q _ (I.hok.fresh (Sh _))⟩];exact⟨Si (xS c lo e) y,_,0,(r.drop (HT.sIx c.length 0 lo)).take (HT.sIx c.length c.length e - HT.sIx c.length 0 lo),Se _ R⟩
def UJ:V->Bool
 |.non=>true
 |.bl _=>true
 |.int _=>true
 |.str _=>true
 |_=>false
def W8:V->V->Bool
 |.non,.non=>true
 |.bl a,.bl b=>a==b
 |.bl a,.int b=>(if a then 1 else 0)==b
 |.int a,.bl b=>a==(if b then 1 else 0)
 |.int a,.int b=>a==b
 |.str a,.str b=>a==b
 |_,_=>false
def Zer(h:ZG y u)(c:ZG x v)(i:UJ y=true)(f:UJ x=true):SeqAt.EqAt A s u v (W8 y x):=by
 cases y with
 |non =>
  cases h;cases x with
  |non=>cases c;exact SeqAt.EqAt.same _
  |bl b=>cases c;exact SeqAt.EqAt.none_bool b
  |int b=>ext⟨t,rfl⟩ c;exact SeqAt.EqAt.none_int b t
  |str b=>ext⟨t,rfl⟩ c;exact SeqAt.EqAt.none_str b t
  |_=>exact Ov (show false=true from f) SR
 |bl a =>
  cases h;cases x with
  |non=>cases c;exact SeqAt.EqAt.bool_none a
  |bl b=>cases c;exact SeqAt.EqAt.bool_bool a b
  |int b=>ext⟨t,rfl⟩ c;exact SeqAt.EqAt.bool_int a b t
  |str b=>ext⟨t,rfl⟩ c;exact SeqAt.EqAt.bool_str a b t
  |_=>exact Ov (show false=true from f) SR
 |int a =>
  ext⟨e,rfl⟩ h;cases x with
  |non=>cases c;exact SeqAt.EqAt.int_none a e
  |bl b=>cases c;exact SeqAt.EqAt.int_bool a e b
  |int b=>ext⟨t,rfl⟩ c;exact SeqAt.EqAt.int_int a e b t
  |str b=>ext⟨t,rfl⟩ c;exact SeqAt.EqAt.int_str a e b t
  |_=>exact Ov (show false=true from f) SR
 |str a =>
  ext⟨e,rfl⟩ h;cases x with
  |non=>cases c;exact SeqAt.EqAt.str_none a e
  |bl b=>cases c;exact SeqAt.EqAt.str_bool a e b
  |int b=>ext⟨t,rfl⟩ c;exact SeqAt.EqAt.str_int a e b t
  |str b=>ext⟨t,rfl⟩ c;exact SeqAt.EqAt.str_str a e b t
  |_=>exact Ov (show false=true from f) SR
 |_=>exact Ov (show false=true from i) SR
def UK(x:V)(u:Value):Bool:=match u with
 |.none=>W8 .non x
 |.bool b=>W8 (.bl b) x
 |.int i _=>W8 (.int i) x
 |.str z _=>W8 (.str z) x
 |_=>false
def xX(r:ZG y u)(f:UJ y=true):UK x u=W8 y x:=by
 cases y with
 |non=>cases r;rfl
 |bl b=>cases r;rfl
 |int i=>ext⟨t,rfl⟩ r;rfl
 |str z=>ext⟨t,rfl⟩ r;rfl
 |_=>exact Ov (show false=true from f) SR
theorem M3:∀{xs:List V} {us:OE},ZB xs us->xs.all UJ=true->us.any (UK x)=xs.any λy=>W8 y x
 |_,_,.nil,_=>rfl
 |y::xs,u::us,.cons r t,f=>by
  rw[List.all_cons,Bool.and_eq_true]at f;rw[List.any_cons,List.any_cons,xX r f.1,M3 t f.2]
theorem M4(h:ZG x v)(e:UJ x=true):∀{xs:List V} {us:OE},ZB xs us->xs.all UJ=true->∀u∈us,SeqAt.EqAt A s u v (UK x u)
 |_,_,.nil,_=>λu c=>by cases c
 |y::xs,u::us,.cons r t,f=>λi c=>by
  rw[List.all_cons,Bool.and_eq_true]at f;rcases SH.mp c with rfl|c;rw[xX r f.1];exact Zer r h f.1 e;exact M4 h e t f.2 i c
def Qd(x:V)(xs:List V):Bool:=xs.any λy=>W8 y x
inductive rIn(K:OA)(neg:Bool)(x:V)(y:V)(H:Hp)(Q:VK):Prop|mk p xs (_:y=.ref p) (_:(Zg K H p xs\/Zl K H p xs)) (_:UJ x=true) (_:xs.all UJ=true) (_:Q (.bl (if neg then !Qd x xs else Qd x xs)) H)
def KR:YK X (compareOp .In) (rIn X.K false):=by
 intro pins s D H x y v u Q I j C h;ext⟨p,E,rfl,c,i,fs,q⟩ h;cases C;rcases c with c|c;obtain⟨its,r,f,B⟩:=I.list c;erw[SeqAt.in_listAt (UK x) f.isList (λw e=>M4 j i r fs w (by simpa using e)) ⟨.bl _,H,I,R,?_⟩];rwa[show its.toArray.any (UK x)=its.any (UK x) by simp,M3 r fs];obtain⟨its,r,f,B⟩:=I.tuple c;erw[SeqAt.in_tupleAt (UK x) f (λw e=>M4 j i r fs w (by simpa using e)) ⟨.bl _,H,I,R,?_⟩];rwa[show its.toArray.any (UK x)=its.any (UK x) by simp,M3 r fs]
def Xt:YT X (.builtin "len") (λxs H Q=>∃p ys,xs=[.ref p]/\(Zg X.K H p ys\/Zl X.K H p ys)/\Q (.int ys.length) H):=by
 intro pins s v H xs y Q I r h;ext⟨p,ys,rfl,c,q⟩ h;obtain⟨u,rfl,j⟩:=XF r;cases j;have hn:=Q6;rcases c with c|c;obtain⟨its,f,e,i⟩:=I.list c;have hlen:=f.length;exact Calls.call_len_list e.isList (by simp only[SQ]<;>omega) ⟨.int ys.length,H,I.tok _,⟨s.toks+1,by rw[SQ,hlen]⟩,q⟩;obtain⟨its,f,e,i⟩:=I.tuple c;have hlen:=f.length;exact len_tuple e (by simp only[SQ]<;>omega) ⟨.int ys.length,H,I.tok _,⟨s.toks+1,by rw[SQ,hlen]⟩,q⟩
def xY:YT X (.builtin "len") (λxs H Q=>∃z,xs=[.str z]/\z.length<=sizeLine/\Q (.int z.length) H):=by
 intro pins s e H xs f Q I r h;ext⟨z,rfl,c,q⟩ h;obtain⟨u,rfl,t,rfl⟩:=XF r;have hn:=Q6;exact len_str () ⟨.int z.length,H,I.tok _,⟨_,R⟩,q⟩
def Qg:YT X (.type "list") (λxs H Q=>∃p ys,xs=[.ref p]/\(Zg X.K H p ys\/Zl X.K H p ys)/\∀l,H l=none->Q (.ref l) (Za H l (.lst ys))):=by
 intro pins s G H xs L Q I r h;ext⟨p,ys,rfl,v,q⟩ h;obtain⟨u,rfl,J⟩:=XF r;cases J;have E:∀(its:OE),ZB ys its->ys.length<=sizeLine->∀(c:Heap) (f:Nat),(∀b D,s.heap.get? b=some D->c.get? b=some D) ->
   c.get? s.heap.objs.size=some {cls:=.type "list",dict:=none,data:=.seq its.toArray f,slots:=#[]}->EP X pins G Q (.ref s.heap.objs.size) {s with heap:=c}:=λits i j c f kp e =>
  ⟨.ref s.heap.objs.size,_,I.laid (t':=s.toks) kp (Sh _) (show Ym X.prog X.w _ c _ (.lst ys)from⟨j,its,f,i,e⟩),R,q _ (I.hok.fresh (Sh _))⟩
 rcases v with v|v;obtain⟨its,i,C,j⟩:=I.list v;have hlen:=i.length;ext⟨o,B,y,n,hd⟩ C.isList;exact call_list_seq p (.inl R) B y hd (λc f kp e=>E its i j c f kp e) (by simp only[SQ]<;>omega);obtain⟨its,i,C,j⟩:=I.tuple v;have hlen:=i.length;ext⟨o,B,y,n,hd⟩ C;exact call_list_seq p (.inr R) B y hd (λc f kp e=>E its i j c f kp e) (by simp only[SQ]<;>omega)
def F0:YT X (.type "tuple") (λxs H Q=>∃p ys,xs=[.ref p]/\((Zg X.K H p ys/\∀l,H l=none->Q (.ref l) (Za H l (.tup ys)))\/(Zl X.K H p ys/\Q (.ref p) H))):=by
 intro pins s y H xs E Q I r h;ext⟨p,ys,rfl,h⟩ h;obtain⟨u,rfl,D⟩:=XF r;cases D;rcases h with⟨i,q⟩|⟨i,q⟩;obtain⟨its,j,f,v⟩:=I.list i;have hlen:=j.length;erw[call_tuple_list f.isList (λc kp=>?_) (by simp only[SQ]<;>omega)];have B:Zb X pins y H {s with heap:=c}:=I.kept (t':=s.toks) kp;have C:Zb X pins y (Za H c.objs.size (.tup ys)) {s with heap:=c.push {cls:=.type "tuple",data:=.seq its.toArray} } :=
  B.laid (t':=s.toks) (λb o e=>Sc _ e) (Sh _) (show Ym X.prog X.w _ _ _ (.tup ys)from⟨v,its,j,IsTup.new _ _⟩)
 exact⟨.ref c.objs.size,_,C,R,q _ (B.hok.fresh (Sh _))⟩;obtain⟨its,j,f,v⟩:=I.tuple i;exact call_tuple_same f ⟨.ref p,H,I,R,q⟩
def M5(K:OA)(T:String)(x:V)(H:Hp):Prop:=match x with
 |.str _=>T="str"
 |.int _=>T="int"
 |.ref p=>(T="list" /\ ∃e,Zg K H p e)\/(T="tuple" /\ ∃o,K.lookup p=some o/\o.cls=.type "tuple" /\ o.dict=none) \/
   (T="dict" /\ ((∃c,H p=some (.dK c))\/∃c,H p=some (.dT c)))\/(T="set" /\ ∃S n,H p=some (.set S n))
 |_=>False
def xZ(I:Zb X pins u H s)(r:ZG x v)(ty:M5 X.K T x H) :
  s.TypeIs v T/\∀a,v=.ref a->∃ob,s.heap.get? a=some ob/\ob.dict=none:=by
 cases x with
 |str z =>
  ext⟨t,rfl⟩ r;cases (show T="str" from ty);exact⟨typeIs_str s z t,λ_ e=>nomatch e⟩
 |int i =>
  ext⟨t,rfl⟩ r;cases (show T="int" from ty);exact⟨typeIs_int s i t,λ_ e=>nomatch e⟩
 |ref p =>
  cases r;rcases ty with⟨rfl,C,B⟩|⟨rfl,o,f,q,hd⟩|⟨rfl,f⟩|⟨rfl,S,n,f⟩;obtain⟨its,_,j,_⟩:=I.list B;erw[⟨j.isList.typeIs,λa e=>?_⟩];cases e;ext⟨o,n,e,c,hd,_⟩ j;exact⟨o,e,hd⟩;erw[⟨⟨o,I.kIn p o f,q⟩,λa e=>?_⟩];cases e;exact⟨o,I.kIn _ o f,hd⟩;have z:∃o,s.heap.get? p=some o/\o.ExactDict:=by
   rcases f with⟨y,f⟩|⟨y,f⟩;obtain⟨_,_,_,_,o,_,_,e,ex,_⟩:=I.hok p _ f;exact⟨o,e,ex⟩;obtain⟨_,_,_,_,o,_,_,e,ex,_⟩:=I.hok p _ f;exact⟨o,e,ex⟩
  ext⟨o,e,ex⟩ z;erw[⟨⟨o,e,ex.1⟩,λa h=>?_⟩];cases h;exact⟨o,e,ex.2.1⟩;obtain⟨o,_,_,_,e,ex,_⟩:=I.hok p _ f;erw[⟨⟨o,e,ex.1⟩,λa h=>?_⟩];cases h;exact⟨o,e,ex.2.1⟩
 |_=>exact False.elim ty
def Zes(K:OA)(T:String)(r:V->List V->Hp->VK->Prop)(to:TE):TE:=λe H Q=>to e H λx c=>M5 K T x c/\r x [] c Q
def tBM(K:OA)(T:String)(r:V->List V->Hp->VK->Prop)(to:TE)(t:TA):TE:=λe H Q=>to e H λx c=>M5 K T x c/\t e c λf h=>r x f h Q
variable{o e:Expr}{es:OG}{to:TE}{t:TA}{name:Str}{apos cpos:Pos}{T id:String}{r:V->List V->Hp->VK->Prop}
def Zet(D:PlainAttrs T)(slot:Slot T name id)(i:typeOf (.builtin id)=pure (.type "method_descriptor")) (hm:MZ X id r) (B:PE X o to)
  (q:attributeBase o name X.env (eval o X.env)=eval o X.env:=by rfl) (y:(apos.endLine==cpos.line)=true:=by rfl):PE X (.Call (.Attribute o name apos) [] [] cpos) (Zes X.K T r to):=by
 intro pins s c H Q I h;erw[wpAny_Call_method0_late q y (Zs (B pins s c H _ I h) λv C ⟨x,u,f,r1,ty,G⟩=>?_)];obtain⟨E,j⟩:=xZ f r1 ty;exact⟨T,id,D,slot,i,E,j,Calls.callWith_builtin R (PySem.evalArgs_none (hm pins C c u x [] v [] Q f r1 .nil G))⟩
def V7(y:PlainAttrs T)(slot:Slot T name id)(C:typeOf (.builtin id)=pure (.type "method_descriptor")) (hm:MZ X id r) (J:PE X o to) (ha:PA X (e::es) t)
  (S:attributeBase o name X.env (eval o X.env)=eval o X.env:=by rfl)
  (D:((backTo cpos (starEach (e::es) X.env)).all (λx=>!x.1) && (backToKw cpos (keywordEach [] X.env)).all (λx=>x.1.isSome)
   && decide ((e::es).length+([]:List Keyword).length+(if ([]:List Keyword).isEmpty then 0 else 1)<30))=true:=by rfl)
  (u:(apos.endLine==cpos.line)=true:=by rfl) (O:starEach (e::es) X.env=(false,eval e X.env)::starEach es X.env:=by rfl) (a0:(backTo cpos (starEach es X.env)).any (·.1)=false:=by rfl) :
  PE X (.Call (.Attribute o name apos) (e::es) [] cpos) (tBM X.K T r to t):=by
 intro pins s c H Q I h;erw[wpAny_Call_method_late S D u R (Zs (J pins s c H _ I h) λv Z ⟨x,U,i,r1,ty,Y⟩=>?_)];obtain⟨j,E⟩:=xZ i r1 ty;erw[⟨T,id,y,slot,C,j,E,?_⟩];have f:=ha cpos pins Z c U _ i Y;rw[O]at f ⊢;erw[Calls.callWith_builtin (by show(false || (backTo cpos (starEach es X.env)).any (·.1))=false;rw[a0]<;>rfl) (Calls.evalArgs_plain ?_)];exact Zs f λq s2 ⟨P,M,G,L,B⟩=>hm pins s2 c M x P v q Q G r1 L B
end
def wA(X:Cx)(id:String)(r:V->List V->Hp->VK->Prop):Prop :=
 ∀(pins:Oy) (s:Shared) (σ:St) (H:Hp) (x:V) (xs:List V) (v:Value) (us:OE) (Q:VK),Zb X pins σ H s->ZG x v->ZB xs us->r x xs H Q ->
  wpAny (model X.prog X.w) X.A (call (.builtin id) (v::us)) (EP X pins σ Q) X.xe s
theorem ZB.one:∀{x:V} {us:OE},ZB [x] us->∃u,us=[u]/\ZG x u
 |_,_,.cons r .nil=>⟨_,R,r⟩
theorem ZB.zero:∀{us:OE},ZB [] us->us=[]
 |_,.nil=>rfl
theorem ZB.rep(h:ZB xs us):∀k:Nat,ZB (List.replicate k xs).flatten (List.replicate k us).flatten
 |0=>.nil
 |k+1=>by
  rw[List.replicate_succ,List.replicate_succ,List.flatten_cons,List.flatten_cons];exact ZB.append h (ZB.rep h k)
theorem wB(its:OE):∀(k:Nat) (c:OE),
  List.foldl (λi h=>i++h) c.toArray (List.replicate k its.toArray)=(c++(List.replicate k its).flatten).toArray
 |0,c=>by simp
 |k+1,c=>by
  have e:c.toArray++its.toArray=(c++its).toArray:=by simp
  have f:(c++its)++(List.replicate k its).flatten=c++(List.replicate (k+1) its).flatten:=by
   rw[List.replicate_succ,List.flatten_cons,Of]
  rw[<-f,<-wB its k (c++its),<-e,List.replicate_succ,List.foldl_cons]
section
variable{σ:St}{l b:Addr}{xs ys zs:List V}
def Zb.lset{its its':OE}(I:Zb X pins σ H s)(y:H l=some (.lst xs))
  (e:s.heap.get? l=some {cls:=.type "list",data:=.seq its.toArray n}) (j:f its.toArray=its'.toArray) (c:ZB ys its') (i:ys.length<=sizeLine) :
  Zb X pins σ (Za H l (.lst ys)) {s with heap:=s.heap.update l (Obj.mapSeq f),toks:=t'}:=by
 have q:=PySem.IsL.update e f;rw[j]at q;erw[I.write (x:=l) (e:=l) (by rw[y];exact trivial) (.inl R) (λB u h v=>(Heap.get?_update_other s.heap (Obj.mapSeq f) (Ne.symm h)).trans v) ⟨_,q⟩ ?_];exact⟨i,its',_,c,q⟩
def Zb.lnew{its:OE}(I:Zb X pins σ H s)(c:ZB ys its)(hz:ys.length<=sizeLine) :
  Zb X pins σ (Za H s.heap.objs.size (.lst ys)) {s with heap:=s.heap.push {cls:=.type "list",data:=.seq its.toArray},toks:=t'} :=
 I.laid (λ_ _ q=>Sc _ q) (Sh _) ⟨hz,its,0,c,Se _ R⟩
def Zb.fresh(I:Zb X pins σ H s):H s.heap.objs.size=none:=I.hok.fresh (Sh _)
def Zb.lstM(I:Zb X pins σ H s)(c:H l=some (.lst xs)):xs.length<=sizeLine/\∃(its:OE) (n:Nat),ZB xs its/\xs.length=its.length/\s.heap.get? l=some {cls:=.type "list",data:=.seq its.toArray n}:=by
 obtain⟨z,its,n,r,e⟩:=I.hok l _ c;exact⟨z,its,n,r,r.length,e⟩
def Zeu(h:n<=sizeLine):Builtin.List.listTooLong n=false:=by
 unfold Builtin.List.listTooLong;exact SU ()
end
inductive Zev(x:V)(vs:List V)(H:Hp)(Q:VK):Prop|mk l xs y (_:x=.ref l) (_:vs=[y]) (_:H l=some (.lst xs)) (_:xs.length<sizeLine) (_:Q .non (Za H l (.lst (xs++[y]))))
def Us:wA X "list.append" Zev:=by
 intro pins s C H x B v D Q I f i h;ext⟨l,G,y,rfl,rfl,c,j,q⟩ h;cases f;ext⟨u,rfl,ru⟩ i.one;obtain⟨z,its,n,r,E,e⟩:=I.lstM c;erw[call_meets F.slot_list_append ⟨_,e,R⟩ F.entry_list_append (F.args_list_append_2 _ _) (PySem.list_append l its.toArray n u (by rw[SQ];lia)) ⟨e,?_⟩];erw[⟨.non,_,I.lset (its':=its++[u]) c e (by simp) (r.append (.cons ru .nil)) ?_,R,q⟩];rw[Sw,Sy];lia
inductive Zew(x:V)(vs:List V)(H:Hp)(Q:VK):Prop|mk l xs (_:x=.ref l) (_:vs=[]) (_:H l=some (.lst xs)) (_:Q .non (Za H l (.lst [])))
def Zex:wA X "list.clear" Zew:=by
 intro pins s y H x u v B Q I f j h;ext⟨l,D,rfl,rfl,c,q⟩ h;cases f;have i:=j.zero;subst i;obtain⟨z,its,n,r,C,e⟩:=I.lstM c;erw[call_meets F.slot_list_clear ⟨_,e,R⟩ F.entry_list_clear (F.args_list_clear_1 _) (AutoSeq1.list_clear_list_0 l its.toArray n (by rw[SQ];lia)) ⟨e,?_⟩];exact⟨.non,_,I.lset (its':=[]) (ys:=[]) c e R .nil (Sl _),R,q⟩
inductive KS(x:V)(y:V)(H:Hp)(Q:VK):Prop|mk l b xs zs (_:x=.ref l) (_:y=.ref b) (_:H l=some (.lst xs)) (_:H b=some (.lst zs)) (_:xs.length+zs.length<=sizeLine) (_:∀p,H p=none->Q (.ref p) (Za H p (.lst (xs++zs))))
def XH:YK X (binaryOp .Add) KS:=by
 intro pins s S H x y v u Q I E i h;ext⟨l,b,J,zs,rfl,rfl,B,D,O,q⟩ h;cases E;cases i;obtain⟨z,its,n,r,M,e⟩:=I.lstM B;obtain⟨G,c,n2,C,L,j⟩:=I.lstM D;erw[PySem.P.add_list e j ?_ (by rw[SQ,SQ];lia)];have f:its.toArray++c.toArray=(its++c).toArray:=by simp
 rw[f];exact⟨.ref _,_,I.lnew (t':=s.toks) (r.append C) (by rw[Sw];lia),R,q _ I.fresh⟩
inductive F1(x:V)(y:V)(H:Hp)(Q:VK):Prop|mk l k xs (_:x=.ref l) (_:y=.int k) (_:H l=some (.lst xs)) (_:-(2 ^ 63)<=k) (_:k<2 ^ 63) (_:xs.length*k.toNat<=sizeLine) (_:∀p,H p=none->Q (.ref p) (Za H p (.lst (List.replicate k.toNat xs).flatten)))
def Zey{e:Type}(xs:List e)(k:Nat):(List.replicate k xs).flatten.length=k*xs.length:=by
 induction k with
 |zero=>simp
 |succ k c=>rw[List.replicate_succ,List.flatten_cons,Sw,c,Nat.succ_mul,Nat.add_comm]
def Xj:YK X (binaryOp .Mult) F1:=by
 intro pins s Z H x y a0 u Q I M C h;ext⟨l,k,S,rfl,rfl,E,B,G,i,q⟩ h;cases M;ext⟨t,rfl⟩ C;obtain⟨z,its,n,r,D,e⟩:=I.lstM E;have hlen:its.toArray.size*k.toNat<=sizeLine:=by rwa[SQ,<-D]
 have j:¬ its.toArray.size*k.toNat>(2 ^ 63 - 1)/8:=by
  have:(sizeLine:Nat)<=(2 ^ 63 - 1)/8:=by lia
  lia
 have L:¬ (!Builtin.List.listFitsIndex k)=true:=by
  rw[fitsIndex_both B G];exact SR
 have v:¬ Builtin.List.listTooLong (its.toArray.size*k.toNat)=true:=by
  rw[Zeu hlen];exact SR
 have O:List.foldl (λf c=>f++c) #[] (List.replicate (if its.toArray.isEmpty=true then 0 else k.toNat) its.toArray)=(List.replicate k.toNat its).flatten.toArray:=by
  have J:∀m:Nat,List.foldl (λf c=>f++c) #[] (List.replicate m its.toArray)=(List.replicate m its).flatten.toArray:=λm=>by
   have:=wB its m [];rw[List.nil_append]at this;exact this
  rw[J];cases its with
  |nil=>simp
  |cons a Y=>rw[SX (by simp)]
 refine wpAny_binaryOp_repeat_ref (T := "list") (U := "int") () ⟨_,e,R⟩ (λP=>typeIs_int P k t) noFill_list_mul F.fills_int_mul F.slot_int_rmul repeat_list F.slot_int_index.lookup
  (call_meets F.slot_int_rmul (typeIs_int s k t) F.entry_int_rmul (F.args_int_rmul_2 _ _) (int___rmul___int_list k t l its.toArray n)
   ⟨e,R,⟨_,e,R⟩,call_meets F.slot_list_mul ⟨_,e,R⟩ F.entry_list_mul (F.args_list_mul_2 _ _) (AutoListH.list___mul___list_int_3 l its.toArray n k t L j v) ⟨e,?_⟩⟩)
 rw[O];exact⟨.ref _,_,I.lnew (t':=s.toks) (r.rep k.toNat) (by rwa[Zey,Nat.mul_comm]),R,q _ I.fresh⟩
section
set_option maxRecDepth 100000 in
end
end L2
namespace Att
open PySem PySem.W PySem.Calls PyProof.Rows
def Zez{P:Params}:∀(ns:List Int) (vs:List Value),WellAll P h vs (ns.map WData.int)->IntsAre vs ns:=by
 intro ns;induction ns with
 |nil =>
  intro vs w;rw[List.map_nil]at w;cases w;exact .nil
 |cons n ns c =>
  intro vs w;rw[List.map_cons]at w;cases w with
  |cons a b =>
   cases a;exact .cons _ _ (c _ b)
def ZeA{l:OpenLaw}(hn:l.most=some n){P:Params}{h:Heap}{args:List WData}{vals:List Value}
  (i:l.row.toRowW.claim.pre args=true) (v:WellAll P h vals args) :
  ∃a vs ns,vals=[Value.ref a]/\args=[WData.list (ns.map WData.int)]/\h.get? a=some {cls:=.type "list",data:=.seq vs.toArray}/\IntsAre vs ns/\ns.length<=n:=by
 have E:WShape.hasAll [] args [.list .int]=true:=(pre_splitW i).1;have f:l.pre.holds [] {args:=args} = true:=(pre_splitW i).2;obtain⟨d,r,rfl,B,j⟩:=hasAllW_cons E;obtain rfl:=hasAllW_nil j;obtain⟨I,rfl,y⟩:=hasW_list B;obtain⟨ns,rfl⟩:=items_int y;have hlen:ns.length<=n:=by
  unfold OpenLaw.pre at f;have e:(WTm.not (.lt (.lit (.int (n:Int))) (.len (.arg 0)))).holds [] {args:=[.list (ns.map .int)]} = true:=by
   have e:=(holds_andW f).1;rw[hn]at e;exact e
  have c:=condW_of e (w_not (w_lt w_lit (w_len_list (w_arg rfl))));rw[List.length_map]at c;erw[Nat.le_of_not_lt λq=>?_];have D:(n:Int)<((ns.length:Nat):Int):=by lia
  first
   |(rw[decide_eq_true D]at c;exact absurd c ())
   |(simp at c;lia)
 cases v with
 |cons C G =>
  cases G;cases C with
  |list u H=>exact⟨_,_,ns,rfl,rfl,u,Zez ns _ H,hlen⟩
def ZeB(l:OpenLaw)(args:List WData):l.row.toRowW.claim.post args (.bool true) args=true :=
 postW_of (r:=l.row.toRowW) (X:=(true==true))
  (show WShape.has [] (.bool true) .bool=true by first|rfl|decide|simp[WShape.has,WShape.arms,WShape.armsAll])
  (show(WTm.eq .res (.lit (.bool true))).value [] {args:=args,res:=some (.bool true),after:=args} = some (.bool (true==true))from w_eq_bool (w_res rfl) w_lit) rfl
def attach_call{l:OpenLaw}{loose:List Str}{d:DefRec}
  (hn:l.most=some n) (C:d.params.defaults=[])
  (call:∀(w:World) (s₀ c:Shared) (mg i:Str->Option Value) (e:Addr) (o:Obj) (u cd j:Value) (a:Addr) (vs:List Value) (ns:List Int),
   Ground q loose [] y w s₀ mg i c.heap->B w c.heap ->
   c.heap.get? e=some o->o.data=.func (docDef d.name d.params d.body d.scope u cd j)->c.heap.CodeRec cd d.name->mg d.name=some (.ref e) ->
   c.heap.get? a=some {cls:=.type "list",data:=.seq vs.toArray}->IntsAre vs ns->ns.length<=n->c.gens=#[] ->
   codeAny (model l.prog w) callerA (.call (.ref e) ⟨[.ref a],[]⟩) (λr h=>r=.ok (.ret (.bool true))/\OldK c.heap h.heap/\h.os=c.os/\AllBare h.gens) c) :
  WalkO q loose y B l.row.toRowW d [] (λf vs=>PySem.call f vs):=by
 intro w s₀ c mg i G Y e o u cd j E kV O hd T v D Q args vals Z M a0 X S U;obtain rfl:E=.none:=Dflts.none v C;obtain rfl:kV=.none:=Dflts.noKw v;obtain⟨a,vs,ns,rfl,rfl,P,hints,hlen⟩:=ZeA hn M S;erw[enter_call (codeAny_mono (call w s₀ c mg i e o u cd j a vs ns G Y O (fd_plain hd) T D P hints hlen Q) λr h I=>?_)];ext⟨rfl,L,J,H⟩ I;exact⟨.inl ⟨.bool true,.bool true,[],rfl,λ_=>rfl,.bool true,ZeB l _,λ_=>⟨List.Pairwise.nil,()⟩⟩,L,J,H⟩
end Att
namespace L2
open PySem PySem.Spec PyProof.Rows
theorem wC:∀{vs:OE} {ns:OH},IntsAre vs ns->ZB (ns.map V.int) vs
 |_,_,.nil=>.nil
 |_,_,.cons n t h=>.cons ⟨t,R⟩ (wC h)
abbrev wD(_:K.In h):W.Frag:=K
def Ya(s:Stmt)(j:Nat):Stmt:=match s with
 |.ClassDef _ _ _ body _ _ _ _ _ _ _=>body.getD j (.Pass ⟨0,0,0,0⟩)
 |_=>.Pass ⟨0,0,0,0⟩
def QG(s:Stmt):Arguments:=match s with
 |.FunctionDef _ a _ _ _ _ _ _ _ _=>a
 |_=>{posonlyargs:=[],args:=[],vararg:=none,kwonlyargs:=[],kw_defaults:=[],kwarg:=none,defaults:=[]}
def Va(s:Stmt):List Stmt:=match s with
 |.FunctionDef _ _ b _ _ _ _ _ _ _=>b
 |_=>[]
def Zz(s:Stmt):Scope:=match s with
 |.FunctionDef _ _ _ _ _ _ c _ _ _=>c
 |_=>{kind:=.function,names:=[],isGenerator:=false,isCoroutine:=false}
abbrev Zr:XX:=λ_ _ _ _ _ _=>False
abbrev E0:XK:=λ_ _ _=>False
def Zm:WK Zr X E0:=λ_ _ _ _ _ _ _ h=>h.elim
structure WC(K:OA)(x qual:Str)(st:Stmt)(f:Addr)(fd:OM):Prop where
 ex:∃(oc:Value) (od:OI) (kV doc pm:Value) (an:OI) (cdv ct:Value) (osl:OC),
  fd=W.fnOf x qual (QG st) (Va st) (Zz st) .none kV doc pm an cdv ct/\K.lookup f=some ⟨oc,od,.func fd,osl⟩/\W.codeIn K cdv qual=true
 kp:W.keepIn K (.ref f)=true
def WC.ok{x qual:Str}{st:Stmt}{f:Addr}{i:OM}{N e:OF}{k:Nat}{sp:Sp}(F:WC K x qual st f i)(S:ZC N e (Zz st))(len:∀vs H Q E,sp vs H Q E->vs.length=e.length)
  (u:∀(c:Value) (A:Around) (outer:List Env) (s:Shared) (H:Hp) (vs:List V) (Q:VK) (E:XK),Yh k (A.deeper (envOfC qual (Zz st) s.heap.objs.size f c))->sp vs H Q E ->
   ∃t,XV (WL Zr P w K mg base N qual (Zz st) f c A outer s H E).nox (Va st) t/\t {nx:=λ_ B=>Q .non B,rt:=Q} (W3 N vs) H):Zo P w K mg base Zr (k+1) f i e sp:=by
 ext⟨M,G,kV,I,L,J,c,ct,D,rfl,v,j⟩ F.ex;erw[MX v j S len λA outer s H vs Q E y C=>?_];obtain⟨t,h,q⟩:=u c A outer s H vs Q E y C;exact⟨t,h.nox,q⟩
def WC.binds{x qual:Str}{st:Stmt}{f:Addr}{u:OM}{i:OF}(F:WC K x qual st f u)
  (h:∀(kV e q:Value) (j:OI) (c ct:Value) (us:OE),us.length=i.length->bindArgs (W.fnOf x qual (QG st) (Va st) (Zz st) .none kV e q j c ct) ⟨us,[]⟩=pure (i.zip us)):XY K u i []:=by
 ext⟨D,y,kV,e,q,j,c,ct,v,rfl,B,C⟩ F.ex;exact .all (h kV e q j c ct)
def wE{x qual:Str}{st:Stmt}{f:Addr}{v:Value}{u i:OI}{q:OC}{kV h j e ct:Value}(l:K.lookup f=some ⟨v,u,.func (W.fnOf x qual (QG st) (Va st) (Zz st) .none kV h j i e ct),q⟩)
  (c:W.codeIn K e qual=true) (k:W.keepIn K (.ref f)=true):WC K x qual st f (W.fnOf x qual (QG st) (Va st) (Zz st) .none kV h j i e ct):=⟨⟨v,u,kV,h,j,i,e,ct,q,R,l,c⟩,k⟩
def Xk(c:Yh k A):A.units+1<cLine:=Sk (Nat.add_le_add_left (():1<=64) _) c.units
def pv(i:Nat)(f:X.N[i]? = some x:=by rfl)(c:D9 X.env.scope x:=by first|exact Or.inl rfl|exact Or.inr (Or.inl rfl)|exact Or.inr (Or.inr rfl))(hd:(x==("__debug__" : Str))=false:=by lia)
  (e:(x==("__classdict__" : Str))=false:=by lia):PE X (.Name x pos) (Qa i):=yH f c hd e
def VL{c A B:Prop}[Decidable c](h1:c->A)(e:¬ c->B):if c then A else B:=by
 by_cases h:c;rw[SY h];exact h1 h;rw[SX h];exact e h
def Zd(H c:Hp):Prop:=∀b o,H b=some o->c b=some o
def Zd.refl(H:Hp):Zd H H:=λ_ _ h=>h
def Zd.trans(a:Zd H f)(b:Zd f e):Zd H e:=λc o h=>b c o (a c o h)
def Zd.free(e:Zd H c)(h:c l=Option.none):H l=Option.none:=by
 cases q:H l with
 |none=>rfl
 |some o =>
  rw[e l o q]at h;cases h
def Zd.seq{c:Hp}{a:Addr}{xs:List V}(e:Zd H c)(h:Zg K H a xs):Zg K c a xs:=by
 rcases h with(h|⟨o,h⟩)|h;exact .inl (.inl (e _ _ h));exact .inl (.inr ⟨o,e _ _ h⟩);exact .inr h
def Ym.has{h:Heap}(x:Ym P w H h a o):∃u,h.get? a=some u:=by
 cases o with
 |lst e=>ext⟨_,_,_,_,q⟩ x;exact⟨_,q⟩
 |tup e=>ext⟨_,_,_,ob,q,_⟩ x;exact⟨ob,q⟩
 |dK c=>ext⟨_,_,_,_,ob,_,_,q,_⟩ x;exact⟨ob,q⟩
 |dT c=>ext⟨_,_,_,_,ob,_,_,q,_⟩ x;exact⟨ob,q⟩
 |set S n=>ext⟨ob,_,_,_,q,_⟩ x;exact⟨ob,q⟩
 |ins C j fs=>ext⟨_,_,_,q,_⟩ x;exact⟨_,q⟩
 |own y=>ext⟨ob,q⟩ x;exact⟨ob,q⟩
 |xd fs=>ext⟨_,⟨ob,_,_,q,_⟩,_⟩ x;exact⟨ob,q⟩
 |rng lo i=>ext⟨_,_,_,q⟩ x;exact⟨_,q⟩
 |frz ob u=>ext⟨q,_⟩ x;exact⟨_,q⟩
 |tbl B=>exact⟨_,(show h.get? a=some _ from x)⟩
 |met f y=>exact⟨_,(show h.get? a=some _ from x)⟩
 |ext v=>ext⟨_,⟨ob,q⟩,_⟩ x;exact⟨ob,q⟩
def VM(h:Heap)(e:Addr):Prop:=∃ob c,h.get? e=some ob/\ob.data=.fields c/\c[2]? = some .none
def KC{c:Type}(x:Sem c):Prop:=∀(M:Model) (Γ:PySem.Ctx) (Q:c->Pos->Shared->Prop) (E:Value->Pos->Shared->Prop) (p:Pos) (s:Shared) (e:Addr),VM s.heap e->Sem.wp M Γ x Q E p s ->
 Sem.wp M Γ x (λa p s=>Q a p s/\VM s.heap e) (λv p s=>E v p s/\VM s.heap e) p s
section
variable{α β:Type}
def KC.bind(j:KC x)(i:∀a,KC (f a)):KC (x >>= f):=λM c Q E p s e n h=>by
 rw[Sem.wp_bind']at h ⊢;exact Sem.wp_mono M c x (λa p s q=>i a M c Q E p s e q.2 q.1) (λ_ _ _ q=>q) p s (j M c _ _ p s e n h)
def KC.pure(a:α):KC (Pure.pure a:Sem α):=λM c Q E p s e n h=>by
 rw[Sem.wp_pure']at h ⊢;exact⟨h,n⟩
def KC.uns(c:String):KC (.unsupported c:Sem α):=λM f Q E p s e n h=>by
 rw[Sem.wp_unsupported]at h;exact h.elim
def KC.load(a:Addr):KC (PySem.load a):=λM i Q E p s e n h=>by
 unfold PySem.load at h ⊢;rw[Sem.wp_load]at h ⊢;ext⟨o,f,c⟩ h;exact⟨o,f,by rw[Sem.wp_pure]at c ⊢;exact⟨c,n⟩⟩
def KC.stack:KC PySem.stack:=λM c Q E p s e n h=>by
 unfold PySem.stack at h ⊢;rw[Sem.wp_stack]at h ⊢;rw[Sem.wp_pure]at h ⊢;exact⟨h,n⟩
def KC.alloc(o:Obj):KC (PySem.alloc o):=λM f Q E p s e n h=>by
 unfold PySem.alloc at h ⊢;rw[Sem.wp_alloc]at h ⊢;rw[Sem.wp_pure]at h ⊢;ext⟨ob,c,q,r⟩ n;exact⟨h,ob,c,Sc _ q,r⟩
def KC.update(v:∀o vs,o.data=.fields vs->vs[2]? = some .none->∃i,(f o).data=.fields i/\i[2]? = some .none):KC (PySem.update a f):=λM B Q E p s e n h=>by
 unfold PySem.update at h ⊢;rw[Sem.wp_update]at h ⊢;erw[⟨h.1,?_⟩];have j:=h.2;rw[Sem.wp_pure]at j ⊢;erw[⟨j,?_⟩];ext⟨ob,vs,q,d,c⟩ n;by_cases z:a=e;subst z;obtain⟨i,u,y⟩:=v ob vs d c;exact⟨f ob,i,Heap.get?_update_self f q (Obj.isFreed_of_fields u),u,y⟩;exact⟨ob,vs,(Heap.get?_update_other _ f z).trans q,d,c⟩
def KC.iff{c:Prop}[Decidable c](f:KC x)(e:KC y):KC (if c then x else y):=by
 split;exact f;exact e
def ZeC(v:Value):KC (fieldsOf v):=by
 unfold fieldsOf;split;erw[KC.bind (KC.load _) λo=>?_];split;exact KC.pure _;exact KC.uns _;exact KC.uns _
def KU(v:Value)(i:Nat):KC (field v i):=by
 unfold field;erw[KC.bind (ZeC v) λc=>?_];split;exact KC.pure _;exact KC.uns _
def M6(v:Value)(i:Nat)(x:Value)(hi:i≠2):KC (setField v i x):=by
 unfold setField;split;unfold updateField;erw[KC.bind (KC.load _) λo=>?_];split;erw[KC.iff (KC.update λo e d c=>?_) (KC.uns _)];exact⟨_,Obj.data_mapFields d _,by rwa[Array.getElem?_setIfInBounds_ne hi]⟩;exact KC.uns _;exact KC.uns _
def ZeD(v:Value)(f:OI):KC (setFlight v f):=by
 unfold setFlight;erw[KC.bind (KU v 1) λc=>?_];exact KC.iff (M6 _ 3 _ ()) (KC.pure _)
def ZeE(env:Env)(outer:List Env):KC (behindIsImport env outer):=by
 unfold behindIsImport;erw[KC.iff (KC.pure _) (KC.iff (KC.pure _) (KC.bind (KU _ _) λ_=>KC.pure _))]
def ZeF(env:Env)(c:Bool)(l:List Env):KC (keptBack env c l):=by
 unfold keptBack;split;erw[KC.iff (KC.pure _) (KC.bind ?_ λ_=>KC.pure _)];unfold underTheClaimsCaller;exact KC.bind KC.stack λ_=>KC.pure _;exact KC.pure _
theorem wF:∀l:List Env,KC (readyFrames l)
 |[]=>by unfold readyFrames;exact KC.pure _
 |env::outer=>by
  unfold readyFrames;split;erw[KC.bind (KC.load _) λo=>KC.iff (KC.pure _) ?_];erw[KC.bind (ZeE _ _) λe=>KC.bind (ZeF _ _ _) λbk=>KC.bind (KC.update λo vs d c=>⟨vs,d,c⟩) λ_=>wF outer];exact KC.uns _
def ZeG(env:Env):KC (PySem.frameOf env):=by
 unfold PySem.frameOf;erw[KC.bind (KC.bind KC.stack λ_=>KC.pure _) λl=>KC.bind ?_ λr=>?_];unfold frameObject;split;exact KC.pure _;exact KC.bind (wF _) λ_=>KC.pure _;split;exact KC.pure _;exact KC.uns _
def ZeH(f:Addr)(b:Bool):KC (entryPlaceOf f b):=by
 unfold entryPlaceOf;erw[KC.bind KC.stack λl=>?_];split;exact KC.pure _;exact KC.pure _
def ZeI(a b c d e:Value)(l:OE):KC (EntryCells.newEntry a b c d e l):=by
 unfold EntryCells.newEntry newFields newObj;have k:∀d:Data,KC (newObjAsIs (.type "traceback") d):=λd=>by
  unfold newObjAsIs;exact KC.bind (KC.alloc _) λ_=>KC.pure _
 exact KC.iff (KC.bind (KC.uns _) λ_=>k _) (k _)
def ZeJ(e:Value)(env:Env):KC (noteFrame e env):=by
 unfold noteFrame;split;erw[KC.bind (KU _ _) λhead=>?_];have tl:∀f hd,KC (do let b <-PySem.frameOf env;let h <-entryPlaceOf f hd;let c <-EntryCells.newEntry head b .none (rawInt f) .none h;setField e 1 c):=λf hd =>
  KC.bind (ZeG _) λ_=>KC.bind (ZeH _ _) λ_=>KC.bind (ZeI _ _ _ _ _ _) λ_=>M6 _ 1 _ ()
 erw[KC.iff (KC.bind (KU _ _) λx=>KC.iff (KC.pure _) (KC.bind (M6 _ 3 _ ()) λ_=>tl _ _)) (tl _ _)];exact KC.uns _
def M7(env:Env)(e:Value):KC (leaving env e):=by
 unfold leaving;exact KC.bind (ZeJ _ _) λ_=>ZeD _ _
def KC.any0(k:KC x)(n:VM s.heap e)(h:wpAny M A x Q E s) :
  wpAny M A x (λa s=>Q a s/\VM s.heap e) (λv s=>E v s/\VM s.heap e) s:=λc p f=>k M c _ _ p s e n (h c p f)
def KC.any{p:Prop}(k:KC x)(n:p->VM s.heap e)(h:wpAny M A x Q E s) :
  wpAny M A x (λa s=>Q a s/\(p->VM s.heap e)) (λv s=>E v s/\(p->VM s.heap e)) s:=by
 by_cases z:p;exact Ou (k.any0 (n z) h) (λ_ _ q=>⟨q.1,λ_=>q.2⟩) λ_ _ q=>⟨q.1,λ_=>q.2⟩;exact Ou h (λ_ _ q=>⟨q,λy=>Ov y z⟩) λ_ _ q=>⟨q,λy=>Ov y z⟩
theorem KC.with{M:Model}{x:Sem Unit}{Q:OD}{e:Addr}{p:Prop}{W:Heap->Prop}(k:KC x)(n:p->VM s.heap e)
  (h:wpAny M A x (λ_ s'=>∃h',s' = {s with heap:=h'}/\W h') (λ_ _=>False) s) (c:∀h',W h'->(p->VM h' e)->Q Unit.unit {s with heap:=h'}):wpAny M A x Q E s :=
 Ou (k.any n h) (λ_ s' ⟨⟨h',z,w⟩,f⟩=>by subst z;exact c h' w f) λ_ _ z=>z.1.elim
end
def M8(l:List Env)(g:Heap)(H:Hp)(a:Addr)(C:Value)(h:Heap):Prop :=
 ∃(B:Heap) (t:Addr),Heap.FlyingW B l a C (.ref t) h/\H a=none /\
  ∀b o,h.get? b=some o->((∃u,g.get? b=some u)\/∃u,H b=some u)->b∉Yw l->B.get? b=some o
def Xf(P:Program)(w:World):XX:=λouter H s E e c =>
 ∃(a:Addr) (C:Value) (H':Hp),e=.ref a/\c.os=s.os/\AllBare c.gens/\Un (Yw outer) [] H H' s.heap c.heap/\Yo P w H' c.heap/\M8 outer s.heap H' a C c.heap/\∃o:Option Addr,(o=none->VM c.heap a)/\E C o H'
def ZeK{env:Env}{outer:List Env}(h:env.frame=some L)(f:b∈Yw (env::outer)):b=L\/b∈Yw outer:=by
 obtain⟨e,c,q⟩:=List.mem_filterMap.mp f;rcases SH.mp c with rfl|c;rw[h]at q;exact .inl (Sr q).symm;exact .inr (List.mem_filterMap.mpr ⟨e,c,q⟩)
def KW{outer:List Env}(c:b∈Yw outer):b∈Yw (env::outer):=by
 obtain⟨e,f,q⟩:=List.mem_filterMap.mp c;exact List.mem_filterMap.mpr ⟨e,SE _ f,q⟩
def M9{env:Env}{outer:List Env}{g h1 E B:Heap}
  (O:env.frame=some L) (Z:g.get? L=none) (U:Un (Yw outer) [] H h g h1) (ok:Yo P w h h1) (frf:∀b∈Yw (env::outer),h b=none)
  (frd:∀b∈Yw outer,∀o,h1.get? b=some o->∀vs,o.data≠.fields vs)
  (Y:∀b o,h1.get? b=some o->((∃u,g.get? b=some u)\/∃u,h b=some u)->b∉Yw (env::outer)->B.get? b=some o)
  (fl:Heap.FlyingW B outer a C (.ref t) E) (ha:h a=none) (up:h1.UpToSlots E):Un (Yw outer) [] H h g E/\Yo P w h E/\M8 outer g h a C E:=by
 have stay:∀b o,h1.get? b=some o->((∃u,g.get? b=some u)\/∃u,h b=some u)->b∉Yw outer->E.get? b=some o/\B.get? b=some o:=λb o e f hn=>by
  have nf:b∉Yw (env::outer):=λz=>by
   rcases ZeK O z with rfl|Q;rcases f with⟨u,q⟩|⟨u,q⟩;rw[Z]at q;cases q;rw[frf _ z]at q;cases q;exact hn Q
  have q:=Y b o e f nf;exact⟨fl.1 b o q,q⟩
 have nx:([]:OK)=[]:=rfl;have j:∀b:Addr,b∉([]:OK):=λb z=>nomatch z;have track:∀b u,h b=some u->b∉Yw outer:=λb u q z=>by
  rw[frf b (KW z)]at q;cases q
 erw[⟨⟨λb o e n f j=>?_,λb o e n f j=>?_,U.free,λb o e j=>?_,U.tups,U.frzs,U.tbls⟩,λb u q=>?_,B,t,fl,ha,λb o e f hn=>?_⟩];exact(stay b o (U.keep b o e n f j) (.inl ⟨o,e⟩) f).1;obtain⟨sl,i⟩:=U.slot b o e n f j;obtain⟨M,D⟩:=up b _ i (frd b f _ i);exact⟨M,D⟩;obtain⟨y,i⟩:=U.there b o e j;by_cases f:b∈Yw outer;obtain⟨M,D⟩:=up b _ i (frd b f _ i);exact⟨_,D⟩;exact⟨y,(stay b y i (.inl ⟨o,e⟩) f).1⟩;erw[(ok b u q).stay (λc v I e=>?_) (λ_ z=>z) λ_ _ z=>z];have S:∃G,h c=some G:=by
  rcases I with rfl|I;exact⟨u,q⟩;exact⟨_,I⟩
 ext⟨G,J⟩ S;exact(stay c v e (.inr ⟨G,J⟩) (track c G J)).1;have T:∃y,h1.get? b=some y:=by
  rcases f with⟨u,q⟩|⟨u,q⟩;exact U.there b u q (j b);exact(ok b u q).has
 ext⟨y,i⟩ T;obtain⟨D,X⟩:=stay b y i f hn;rw[e]at D;cases D;exact X
def wG(X:Cx)(E:XK):Prop:=∀(pins:Oy) (σ:St) (H:Hp) (s:Shared) (a:Addr) (C:Value) (vs:OE) (h':Heap),Zb X pins σ H s->Heap.MadeExcOf s.heap h' a C vs->E C none H->X.xe (.ref a) {s with heap:=h'}
section
variable{N:OF}{qual:Str}{f:Addr}{cd:Value}{outer:List Env}{E:XK}
def Zb.frd(I:Zb X pins i H s):∀b∈Yw X.stack,∀o,s.heap.get? b=some o->∀vs,o.data≠.fields vs:=λb h o e=>by
 obtain⟨_,j,c,d⟩:=I.stack.mem h;rw[e]at c;cases c;exact d
def Zb.hasNo(I:Zb X pins c H s)(e:s.heap.get? a=none):H a=none:=by
 cases q:H a with
 |none=>rfl
 |some u =>
  obtain⟨o,z⟩:=(I.hok a u q).has;rw[e]at z;cases z
def KY:wG (WL (Xf P w) P w K mg base N qual scope f cd A outer s H E) E:=by
 intro pins X Q j a C Y B I i D;have v:∀env∈(envOfC qual scope s.heap.objs.size f cd::outer),∀b,env.frame=some b->b∈Yw (envOfC qual scope s.heap.objs.size f cd::outer):=λenv O b u=>List.mem_filterMap.mpr ⟨env,O,u⟩;have S:(A.deeper (envOfC qual scope s.heap.objs.size f cd)).frames=some (envOfC qual scope s.heap.objs.size f cd::outer):=I.ok.frames;have sn:s.heap.get? s.heap.objs.size=none:=Heap.get?_none_of_le (Sh _);ext⟨U,M,_,_⟩ i.there;refine KC.with (p:=True) (e:=a) (W:=λc=>∃t,Heap.FlyingW (PySem.W.hideAll j.heap (Yw (envOfC qual scope s.heap.objs.size f cd::outer))) outer a C (.ref t) c/\B.UpToSlots c) (M7 _ _) (λ_=>⟨_,_,M,R,R⟩)
  (wpAny_leaves_madeW (L:=s.heap.objs.size) (base:=PySem.W.hideAll j.heap (Yw (envOfC qual scope s.heap.objs.size f cd::outer))) (h:=j.heap) S R (λb o q=>PySem.W.of_hideAll _ q) (PySem.W.funFrames_hide I.stack v) i λc t fl _ _ up=>⟨c,R,t,fl,up⟩) λc ⟨t,fl,up⟩ y=>?_
 have frd:=I.frd;obtain⟨T,J,G⟩:=M9 (P:=P) (w:=w) (L:=s.heap.objs.size) (h1:=j.heap) R sn I.base I.hok I.stkFree (λb u o e=>frd b (KW u) o e) (λb o e _ hn=>PySem.W.hideAll_get _ e hn) fl (I.hasNo i.new) ((Heap.UpToSlots.of_keeps i.keeps).trans up);exact⟨a,C,Q,R,I.os,I.bare,T,J,G,none,λ_=>y trivial,D⟩
def A1:WK (Xf P w) (WL (Xf P w) P w K mg base N qual scope f cd A outer s H E) E:=by
 intro pins M X Y e y I G;ext⟨a,C,D,rfl,os,bare,un,hok,⟨B,t,fl,ha,T⟩,o,v,J⟩ G;have c:Zb (WL (Xf P w) P w K mg base N qual scope f cd A outer s H E) pins M D y:=I.call' os un hok bare λb z=>nomatch z;have S:(A.deeper (envOfC qual scope s.heap.objs.size f cd)).frames=some (envOfC qual scope s.heap.objs.size f cd::outer):=I.ok.frames;have sn:s.heap.get? s.heap.objs.size=none:=Heap.get?_none_of_le (Sh _);erw[KC.with (e:=a) (W:=λh=>Heap.FlyingW B outer a C (.ref t) h/\y.heap.UpToSlots h) (M7 _ _) v (wpAny_leaves_onW (L:=s.heap.objs.size) S R fl λh j up=>⟨h,R,j,up⟩) λh ⟨j,up⟩ v=>?_];have frd:=c.frd;obtain⟨U,Q,O⟩:=M9 (P:=P) (w:=w) (L:=s.heap.objs.size) (h1:=y.heap) R sn c.base c.hok c.stkFree (λb i o e=>frd b (KW i) o e) (λb o e i hn=>T b o e (i.imp (λ⟨u,q⟩=>I.base.there b u q λz=>nomatch z) id) hn) j ha up;exact⟨a,C,D,R,c.os,c.bare,U,Q,O,o,v,J⟩
end
def WC.okX{x qual:Str}{st:Stmt}{f:Addr}{h:OM}{N e:OF}{k:Nat}{sp:Sp}(F:WC K x qual st f h)(S:ZC N e (Zz st))(len:∀vs H Q E,sp vs H Q E->vs.length=e.length)
  (j:∀(c:Value) (A:Around) (outer:List Env) (s:Shared) (H:Hp) (vs:List V) (Q:VK) (E:XK),Yh k (A.deeper (envOfC qual (Zz st) s.heap.objs.size f c))->sp vs H Q E ->
   ∃t,XV (WL (Xf P w) P w K mg base N qual (Zz st) f c A outer s H E) (Va st) t/\t {nx:=λ_ v=>Q .non v,rt:=Q} (W3 N vs) H):Zo P w K mg base (Xf P w) (k+1) f h e sp:=by
 ext⟨J,C,kV,D,I,G,c,ct,B,rfl,q,i⟩ F.ex;exact MX q i S len λA outer s H vs Q E u y=>j c A outer s H vs Q E u y
structure QH(K:OA)(C:Addr):Prop where
 ex:W.excIn K C [.type "ValueError",.type "Exception",.type "BaseException",.type "object"] "ValueError.__new__"=true
def ZeL{h:Heap}(Y:K.In h)(z:W.excIn K C j i=true) :
  ∃bm e nm E bs hd sn sub ab col dd k0 k1 k2 k3 k5 mN,h.get? C=some (excClassObj nm E C e bs bm hd sn sub ab col dd k0 k1 k2 k3 k5 i)/\h.Ns e mN/\mN "__init__"=none/\OwnTail h j bm:=by
 unfold W.excIn at z;split at z
 ·next d1 c1 s1 hlk =>
  split at z
  ·next C1 b1 j0 j1 j2 j3 n1 j5 em es =>
   simp only[Bool.and_eq_true,beq_iff_eq,Bool.not_eq_true']at z;ext⟨⟨⟨⟨⟨z1,q⟩,f⟩,v⟩,c⟩,z6⟩ z;subst z1 q;ext⟨J,B,O,G,M,D,u,I,H,L,P⟩ c1;dsimp only at em f c z6;subst em f;ext⟨l1⟩ s1;have y:l1=[j0,j1,j2,j3,some (.builtin n1),j5]:=es;subst y;exact⟨b1,G,J,M,B,D,u,I,H,L,d1,j0,j1,j2,j3,j5,_,Y _ _ hlk,.of_isNs (W.isNs_of_in Y c),W.nsMap_none_of_in Y c z6,W.tail_of_in Y v⟩
  exact Ov z ()
 exact Ov z ()
section
variable{E:XK}{x:Str}{C:Addr}{e:Expr}{es:OG}{t:TA}{np cpos:Pos}
def ZeM(E:XK)(C:Addr)(t:TA):TS:=λ_ c H=>t c H λf h=>f.length<=sizeLine/\E (.ref C) none h
def KZ(R:wG X E)(c:QH X.K C)(P:X.calm=true)(Y:Gl X x)(hm:X.mg x=some (.ref C))(ha:PA X (e::es) t)(v:(x==("__debug__" : Str))=false:=by lia)
  (u:starEach (e::es) X.env=(false,eval e X.env)::starEach es X.env:=by rfl) (L:(backTo cpos (starEach es X.env)).any (·.1)=false:=by rfl) :
  PS X (.Raise (some (.Call (.Name x np) (e::es) [] cpos)) none pos) (ZeM E C t):=by
 intro pins s j H a0 I h;obtain⟨bm,y,nm,U,bs,hd,sn,sub,ab,col,dd,k0,k1,k2,k3,k5,mN,Z,B,O,i⟩:=ZeL I.ok.mod.kin c.ex;refine wpAny_Raise_call_subT (C:=C) (nm:=nm) (q:=U) (N:=y) (bs:=bs) (bm:=bm) (hdct:=hd) (sn:=sn) (sub:=sub) (ab:=ab) (col:=col) (dd:=dd) (k0:=k0) (k1:=k1) (k2:=k2) (k3:=k3) (k5:=k5)
  PySem.F.excBase_ValueError (mN:=mN) (i.hasType PySem.F.excBase_ValueError.hasBase) (I.ok.hd P) ?_ O (UD I Y hm ⟨rfl,?_⟩ v)
 rw[u];show(false || (backTo cpos (starEach es X.env)).any (·.1))=false;rw[L];rfl;have q:=ha cpos pins s j H _ I h;rw[u]at q ⊢;erw[Calls.evalArgs_plain (Zs q λD s2 T=>?_)];ext⟨vs,S,f,r,J,Q⟩ T;exact⟨rfl,by rwa[<-r.length],f.bk _ _ Z,B.keeps f.bk,i.keeps f.bk,λM a G=>R pins j S s2 a _ D M f G Q⟩
end
def Zb.moved{h':Heap}(I:Zb X pins Q H s)
  (keep:∀b o,s.heap.get? b=some o->((∃u,X.s₀.heap.get? b=some u/\b∉X.ex)\/(∃u,H b=some u)\/∃p∈X.pn++pins,p.1=b)->b∉Yw X.stack->h'.get? b=some o) (up:s.heap.UpToSlots h'):Zb X pins Q H {s with heap:=h'}:=by
 have S:∀b o,X.s₀.heap.get? b=some o->b≠X.env.locals:=λb o e=>Sg (Sj (Sf e) I.ok.above);have J:∀b,b≠X.env.locals->b∉X.fs->b∉Yw X.stack:=λb Y h2 z=>(SH.mp (I.stkSub b z)).elim Y h2;have L:∀b∈X.fs,∀o,X.s₀.heap.get? b=some o->∀T,o.data≠.fields T:=λb f o e=>by
  obtain⟨_,B,O,d⟩:=I.ok.funs.mem f;rw[e]at O;cases O;exact d
 have cellK:∀c v,s.heap.IsCell c v->h'.IsCell c v:=λc v ⟨o,ho,hd⟩=>by
  obtain⟨M,q⟩:=up c o ho λT z=>by rw[hd]at z;cases z
  exact⟨_,q,hd⟩
 erw[⟨I.ok,I.os,I.bare,⟨λb o e n f h=>?_,λb o e n f h=>?_,I.base.free,λb o e h=>?_,I.base.tups,I.base.frzs,I.base.tbls⟩,?_,λy c e=>?_,I.free,I.freeC,λp P=>?_,λb u q=>?_,I.len⟩];exact keep b o (I.base.keep b o e n f h) (.inl ⟨o,e,h⟩) (J b (S b o e) f);obtain⟨M,j⟩:=I.base.slot b o e n f h;obtain⟨U,i⟩:=up b _ j (L b f o e);exact⟨U,i⟩;obtain⟨B,j⟩:=I.base.there b o e h;by_cases f:b∈X.fs;obtain⟨M,i⟩:=I.base.slot b o e (I.ok.frf b f) f h;obtain⟨U,E⟩:=up b _ i (L b f o e);exact⟨_,E⟩;exact⟨B,keep b B j (.inl ⟨o,e,h⟩) (J b (S b o e) f)⟩;ext⟨m,hn,hl⟩ I.loc;erw[⟨m,up.ns hn,λa0 y v j i E=>?_⟩];obtain⟨u,r,l⟩:=hl a0 y v j i E;erw[⟨u,r,?_⟩];rcases l with l|⟨k,c,e,z⟩;exact .inl l;exact .inr ⟨k,c,e,cellK c _ z⟩;obtain⟨v,z⟩:=I.cell y c e;exact⟨v,cellK c v z⟩;obtain⟨e,n,ne,nf,d⟩:=I.pin p P;exact⟨keep p.1 p.2 e (.inr (.inr ⟨p,P,R⟩)) (J p.1 ne nf),n,ne,nf,d⟩;erw[(I.hok b u q).stay (λc v G e=>?_) (λ_ z=>z) λ_ _ z=>z];have Z:∃C,H c=some C:=by
  rcases G with rfl|G;exact⟨u,q⟩;exact⟨_,G⟩
 ext⟨C,D⟩ Z;erw[keep c v e (.inr (.inl ⟨C,D⟩)) λz=>?_];rw[I.stkFree c z]at D;cases D
def Zb.track{ob:Obj}(I:Zb X pins C H s)(ha:H a=none)(B:s.heap.get? a=some ob)(hd:ob.data=.fields vs)
  (E:X.s₀.heap.get? a=none) (J:∀p∈X.pn++pins,p.1≠a) (new:Ym X.prog X.w (Za H a o) s.heap a o):Zb X pins C (Za H a o) s:=by
 have nt:∀b u,H b=some u->b≠a:=λb u q=>Zu q ha;erw[⟨I.ok,I.os,I.bare,⟨I.base.keep,I.base.slot,λb u e n D=>?_,I.base.there,λb i q=>?_,λb u i q=>?_,λb G q=>?_⟩,I.loc,I.cell,?_,λy c e=>?_,λp q=>?_,λb u q=>?_,I.len⟩];have ne:b≠a:=λz=>by rw[z,E]at e;cases e
 rw[Ze ne];exact I.base.free b u e n D;have z:=I.base.tups b i q;rwa[Ze (nt _ _ z)];have z:=I.base.frzs b u i q;rwa[Ze (nt _ _ z)];obtain⟨m,z⟩:=I.base.tbls b G q;exact⟨m,by rwa[Ze (nt _ _ z)]⟩;have ne:X.env.locals≠a:=λz=>by
  ext⟨m,⟨P,L,M,h,f,_⟩,_⟩ I.loc;rw[z,B]at h;cases h;rw[hd]at f;cases f
 rw[Ze ne];exact I.free;have ne:c≠a:=λz=>by
  obtain⟨v,O,h,f⟩:=I.cell y c e;rw[z,B]at h;cases h;rw[hd]at f;cases f
 rw[Ze ne];exact I.freeC y c e;obtain⟨e,n,r⟩:=I.pin p q;exact⟨e,by rwa[Ze (J p q)],r⟩;by_cases j:b=a;subst j;rw[Zj]at q;cases q;exact new;rw[Ze j]at q;exact(I.hok b u q).stay (λc v _ z=>z) (λc z=>by rwa[Ze (nt _ _ z)]) λc i z=>by rwa[Ze (nt _ _ z)]
def Wq(a:Addr)(C:Value):HO:=.ext λh=>∃ob c,h.get? a=some ob/\ob.cls=C/\ob.data=.fields c
def ZeN(X:Cx)(pins:Oy)(c:Value->Hp->Prop)(e:Value)(s':Shared):Prop :=
 ∃(a:Addr) (C:Value) (σ:St) (H:Hp) (g:Heap),e=.ref a/\Zb X pins σ H s'/\M8 X.stack g H a C s'.heap/\(∀p∈X.pn++pins,∃u,g.get? p.1=some u) /\
  (∀b u,X.s₀.heap.get? b=some u->b∉X.ex->∃f,g.get? b=some f)/\c C H
abbrev K2(X:Cx)(pins:Oy)(Kx:Value->Hp->Prop):Cx:={X with pn:=X.pn++pins,xe:=ZeN X pins Kx}
abbrev A2(X:Cx)(a:Addr):Cx:={X with A:=X.A.mark (some (.ref a)),calm:=false,xe:=λ_ _=>False}
section
variable{pins':Oy}{σ:St}{Kx:Value->Hp->Prop}{a:Addr}
def Zb.toTry(I:Zb X pins σ H s):Zb (K2 X pins Kx) [] σ H s :=
 ⟨⟨I.ok.mod,I.ok.kind,I.ok.glob,I.ok.blt,I.ok.above,I.ok.inj,I.ok.has,I.ok.cab,I.ok.hd,I.ok.frames,I.ok.stk,I.ok.exf,I.ok.bs,I.ok.bsz,I.ok.noex,I.ok.exfs,I.ok.funs,I.ok.frf⟩,
  I.os,I.bare,I.base,I.loc,I.cell,I.free,I.freeC,λp c=>I.pin p (by simpa using c),I.hok,I.len⟩
def Zb.ofTry(I:Zb (K2 X pins Kx) pins' σ H s):Zb X pins σ H s :=
 ⟨⟨I.ok.mod,I.ok.kind,I.ok.glob,I.ok.blt,I.ok.above,I.ok.inj,I.ok.has,I.ok.cab,I.ok.hd,I.ok.frames,I.ok.stk,I.ok.exf,I.ok.bs,I.ok.bsz,I.ok.noex,I.ok.exfs,I.ok.funs,I.ok.frf⟩,
  I.os,I.bare,I.base,I.loc,I.cell,I.free,I.freeC,λp c=>I.pin p (SK _ c),I.hok,I.len⟩
def Zb.toSuite(I:Zb X pins σ H s):Zb (A2 X a) pins σ H s :=
 ⟨⟨I.ok.mod,I.ok.kind,I.ok.glob,I.ok.blt,I.ok.above,I.ok.inj,I.ok.has,I.ok.cab,(λz=>nomatch z),I.ok.frames,I.ok.stk,I.ok.exf,I.ok.bs,I.ok.bsz,I.ok.noex,I.ok.exfs,I.ok.funs,I.ok.frf⟩,
  I.os,I.bare,I.base,I.loc,I.cell,I.free,I.freeC,I.pin,I.hok,I.len⟩
def Zb.ofSuite(hd:X.calm=true->X.A.handled=none)(I:Zb (A2 X a) pins σ H s):Zb X pins σ H s :=
 ⟨⟨I.ok.mod,I.ok.kind,I.ok.glob,I.ok.blt,I.ok.above,I.ok.inj,I.ok.has,I.ok.cab,hd,I.ok.frames,I.ok.stk,I.ok.exf,I.ok.bs,I.ok.bsz,I.ok.noex,I.ok.exfs,I.ok.funs,I.ok.frf⟩,
  I.os,I.bare,I.base,I.loc,I.cell,I.free,I.freeC,I.pin,I.hok,I.len⟩
def ZeO:WK (Xf X.prog X.w) (K2 X pins Kx) (λC _ H=>Kx C H):=by
 intro L f v h e J I j;ext⟨a,C,i,rfl,os,bare,un,hok,D,_,_,y⟩ j;have c:Zb X pins f v h:=I.ofTry;have B:Zb X pins f i J:=c.call' os un hok bare λb z=>nomatch z;exact⟨a,C,f,i,h.heap,R,B,D,λp G=>⟨p.2,(c.pin p G).1⟩,λb u q E=>c.base.there b u q E,y⟩
def Zb.frame{D:St}{h':Heap}(I:Zb X pins σ H s)(hn:h'.Ns X.env.locals B)(f:Heap.SameBut X.env.locals s.heap h')
  (M:∀(i:Nat) (x:Str) (v:V),X.N[i]? = some x->D[i]? = some (some v)->D9 X.env.scope x->∃u,ZG v u/\yF X.env h' B x u) (hlen:D.length=σ.length):Zb X pins D H {s with heap:=h',toks:=t'}:=by
 have G:∀b o,X.s₀.heap.get? b=some o->b≠X.env.locals:=λb o e=>Sg (Sj (Sf e) I.ok.above);erw[⟨I.ok,I.os,I.bare,⟨λb o e n C h=>(f.2 b (G b o e)).trans (I.base.keep b o e n C h),λb o e n C h=>?_,I.base.free,λb o e h=>?_,I.base.tups,I.base.frzs,I.base.tbls⟩,⟨B,hn,M⟩,λy c e=>?_,I.free,I.freeC,λp L=>?_,λb u q=>?_,hlen.trans I.len⟩];obtain⟨O,E⟩:=I.base.slot b o e n C h;exact⟨O,(f.2 b (G b o e)).trans E⟩;obtain⟨J,E⟩:=I.base.there b o e h;exact⟨J,(f.2 b (G b o e)).trans E⟩;obtain⟨v,z⟩:=I.cell y c e;exact⟨v,z.sameBut f (I.cne y c e)⟩;obtain⟨e,n,ne,nf,d⟩:=I.pin p L;exact⟨(f.2 p.1 ne).trans e,n,ne,nf,d⟩;erw[(I.hok b u q).stay (λc v j e=>(f.2 c ?_).trans e) (λ_ z=>z) λ_ _ z=>z];intro z;have fr:=I.free;rcases j with rfl|j;rw[z,fr]at q;cases q;rw[z,fr]at j;cases j
def K3(I:Zb X pins σ H s)(hi:X.N[i]? = some n)(L:X.N.Nodup)(G:X.env.scope.names.lookup n=some .local)
  (h:∀s',Zb X pins (σ.set i none) H s'->Q Unit.unit s'):wpAny M A (do bindName X.env n .none;unbindBehindTheSuite X.env n pos) Q E s:=by
 obtain⟨m,hn,S⟩:=id I.loc;erw[wpAny_nameGoes_keeps (m:=m) G hn (by rw[I.ok.kind];rfl) λU v J C=>h _ (I.frame J C (λj y P B f T=>?_) (by simp))];have D:j≠i:=λz=>by
  rw[z]at f;have O:i<σ.length:=by rw[I.len];exact(Su.mp hi).1
  rw[List.getElem?_set_self O]at f;cases f
 rw[List.getElem?_set_ne (Ne.symm D)]at f;obtain⟨u,r,q⟩:=S j y P B f T;erw[⟨u,r,?_⟩];rcases q with⟨k,e⟩|⟨k,c,e,z⟩;have ne:y≠n:=λz=>D (MJ L B (z ▸ hi));exact .inl ⟨k,by simp[ne,e]⟩;exact .inr ⟨k,c,e,z.sameBut C (I.cne y c e)⟩
end
section
variable{body suite:List Stmt}{b₀:Stmt}{n x:Str}{i:Nat}{R:Addr}{np hpos:Pos}{tb:(Value->Hp->Prop)->TS}{th:TS}
def ZeP(K:OA)(R:Addr)(i N:Nat)(tb:(Value->Hp->Prop)->TS)(th:TS):TS:=λD h H =>
 tb (λC f=>W.exmOne K C (.ref R)=some true/\∀a,f a=none ->
  th {nx:=λc e=>D.nx (c.set i none) e,rt:=D.rt,bk:=λc e=>D.bk (c.set i none) e,ct:=λc e=>D.ct (c.set i none) e} ((List.replicate N none).set i (some (.ref a))) (Za f a (Wq a C))) D h H
def ZeQ(n0:X.stack=X.env::X.outer/\X.env.frame=some X.env.locals)(a1:X.ex=[])(E:X.N.Nodup)(hi:X.N[i]? = some n)(D:X.env.scope.names.lookup n=some .local)(hg:Gl X x)(hm:X.mg x=some (.ref R))
  (O:∀pins Kx,XV (K2 X pins Kx) body (tb Kx)) (hs:∀a,XV (A2 X a) (b₀::suite) th) (v0:(x==("__debug__" : Str))=false:=by lia) :
  PS X (.Try body [.ExceptHandler (some (.Name x np)) (some n) (b₀::suite) hpos] [] [] pos) (ZeP X.K R i X.N.length tb th):=by
 intro pins s σ c1 t0 I r0;erw[wpAny_Try_except (Ou (O pins _ [] s σ c1 t0 I.toTry r0) (λf B q=>?_) λe B q=>?_)];cases f with
 |next=>ext⟨h,c,j,q⟩ q;exact wpAny_execs_nil ⟨h,c,j.ofTry,q⟩
 |brk=>ext⟨h,c,j,q⟩ q;exact⟨h,c,j.ofTry,q⟩
 |cont=>ext⟨h,c,j,q⟩ q;exact⟨h,c,j.ofTry,q⟩
 |ret u=>ext⟨v,h,c,j,r,q⟩ q;exact⟨v,h,c,j.ofTry,r,q⟩
 ext⟨a,C,c0,S,g,rfl,I1,⟨u0,t,fl,ha,b0⟩,k0,j0,z0,b1⟩ q;ext⟨M,o0⟩ n0;have mv:∀P,Heap.FlyingW u0 X.stack a C (.ref t) P->B.heap.UpToSlots P->Zb X pins c0 S {B with heap:=P}:=λP x0 up=>I1.moved (λb o e O hn=>x0.1 b o (b0 b o e (by
  rcases O with⟨u,q,hx⟩|⟨u,q⟩|⟨p,G,rfl⟩;exact .inl (j0 b u q hx);exact .inr ⟨u,q⟩;exact .inl (k0 p G)) hn)) up
 have e1:X.A.frames=some (X.env::X.outer):=by rw[<-M];exact I.ok.frames
 rw[M]at fl;erw[wpAny_looks_onW e1 o0 fl λh4 y0 a0=>?_];erw[wpAny_landsW y0 λU Q d0=>?_];have I5:=mv U (by rwa[M]) (a0.trans d0);ext⟨f1,p0,s0⟩ Q.there;have LT:W.Looks (model X.prog X.w) U (typeOf (.ref a)) C:=s0 ▸ (W.Looks.ld p0).andThen .now;erw[wpAny_handleBy_cons (codeAny_handlers_test (UD (X:=A2 X a) I5.toSuite hg hm ?_ v0)) (by intro z;cases z)];erw[(W.exm_one (K:=X.K) (I5.kIn:X.K.In U) LT z0) _ _ _ _ (λ_ _ z=>z) ?_];erw[codeAny_handlers_suite_as ?_];erw[lands_againW Q λZ i0 w0=>?_];have I6:=mv Z (by rwa[M]) ((a0.trans d0).trans w0);ext⟨f0,d1,Y,m0,l0,_⟩ i0.first;have q0:∀o,B.heap.get? a=some o->a∉Yw X.stack:=λo e z=>by
  ext⟨ob,vs,L,_,q2,_⟩ fl.first;exact I1.frd a z ob L vs q2
 have e0:∀u,g.get? a=some u->False:=λu q=>by
  ext⟨ob,vs,L,_,q2,_⟩ fl.first;have z:=b0 a ob L (.inl ⟨u,q⟩) (q0 ob L);rw[fl.2.1]at z;cases z
 have h0:X.s₀.heap.get? a=none:=by
  cases q:X.s₀.heap.get? a with
  |none=>rfl
  |some u =>
   obtain⟨u',z⟩:=j0 a u q (by rw[a1];exact λz=>nomatch z);exact(e0 u' z).elim
 have G:∀p∈X.pn++pins,p.1≠a:=λp G z=>by
  obtain⟨u,q⟩:=k0 p G;rw[z]at q;exact e0 u q
 have I7:Zb X pins c0 (Za S a (Wq a C)) {B with heap:=Z}:=I6.track ha Y l0 h0 G
  ⟨⟨f0,d1,Y,m0,l0⟩,⟨f0,Y⟩,λha O ⟨o,v,z1,z2⟩ k=>⟨o,v,k o z1,z2⟩⟩
 have I8:Zb X pins (List.replicate X.N.length none) (Za S a (Wq a C)) {B with heap:=Z}:=I7.weak (by rw[SC,I7.len]) λh1 v q=>by
  rw[List.getElem?_replicate]at q;split at q<;>cases q
 erw[E3 (X:=A2 X a) I8.toSuite E hi (.inl D) (v:=.ref a) rfl (λs9 I9=>?_) (.inr D)];erw[Ou (hs a pins s9 _ _ _ I9 (b1 a ha)) (λf g0 q=>?_) λ_ _ z=>z.elim];have H:∀{h:St} {c:Hp},Zb (A2 X a) pins h c g0->Zb X pins h c g0:=λJ=>J.ofSuite I.ok.hd;cases f with
 |next=>ext⟨h,c,J,q⟩ q;exact K3 (H J) hi E D λT y=>⟨_,c,y,q⟩
 |brk=>ext⟨h,c,J,q⟩ q;exact K3 (H J) hi E D λT y=>⟨_,c,y,q⟩
 |cont=>ext⟨h,c,J,q⟩ q;exact K3 (H J) hi E D λT y=>⟨_,c,y,q⟩
 |ret u=>ext⟨v,h,c,J,r,q⟩ q;exact K3 (H J) hi E D λT y=>⟨v,_,c,y,r,q⟩
end
inductive ZeR(x:V)(lo:Option Int)(hi:Option Int)(H:Hp)(Q:VK):Prop|mk z (_:x=.str z) (_:z.length<=sizeLine) (_:Q (.str (Txt.slice z lo hi)) H)
def wH(p:IsPart v o):∃l:Option (Int×Tok),v=partValue l/\l.map (·.1)=o:=by
 cases p with
 |none=>exact⟨none,R,R⟩
 |int i t=>exact⟨some (i,t),R,R⟩
def wI:E9 X ZeR:=by
 intro pins s C H x v y E lo D G Q I i j f c h;ext⟨z,rfl,e,q⟩ h;ext⟨t,rfl⟩ i;obtain⟨l,rfl,rfl⟩:=wH f;obtain⟨u,rfl,rfl⟩:=wH c;erw[⟨"str",_,PySem.F.slot_str_getitem.lookup,typeIs_str s z t,wpAny_getItem_str_slice (l:=l) (u:=u) (st:=none) j R ?_⟩];exact post_val_or_str ⟨Si (Txt.slice_le z _ _) e,λB k=>⟨.str _,H,I.tok _,⟨_,R⟩,q⟩⟩
def Na:List V->List V->Bool
 |[],[]=>true
 |x::xs,y::ys=>W8 x y && Na xs ys
 |_,_=>false
theorem wJ:∀(xs ys:List V),xs.length=ys.length->(List.range xs.length).all (λj=>W8 (xs.getD j .non) (ys.getD j .non))=Na xs ys
 |[],[],_=>rfl
 |[],_::_,h=>nomatch h
 |_::_,[],h=>nomatch h
 |x::xs,y::ys,h=>by
  have c:=wJ xs ys (by simpa using h);rw[SA,List.range_succ_eq_map,List.all_cons,List.all_map];show(W8 x y && _)=(W8 x y && Na xs ys);rw[<-c];rfl
theorem wK:∀bs:List Bool,(List.range bs.length).all (λi=>bs.getD i false)=bs.all id
 |[]=>rfl
 |b::bs=>by
  rw[SA,List.range_succ_eq_map,List.all_cons,List.all_map,List.all_cons];show(b && _)=(b && _);rw[<-wK bs];rfl
def K4(S:X.calm=true):YT X (.builtin "all") (λxs H Q=>∃(p:Addr) (bs:List Bool),xs=[.ref p]/\Zg X.K H p (bs.map V.bl)/\Q (.bl (bs.all id)) H):=by
 intro pins s σ H xs us Q I r h;ext⟨p,bs,rfl,M,q⟩ h;obtain⟨b0,rfl,rx⟩:=XF r;cases rx;obtain⟨its,u,f,hz⟩:=I.list M;have hlen:=u.length;obtain⟨o,n,T,_⟩:=id f;have a0:p≠s.heap.objs.size:=Sg (Sf T);have J:TruthOf X.prog X.w X.A.in1 (λi v=>its.toArray[i]? = some v) (λi=>bs.getD i false):=by
  intro i v s2 E E2 Z D;have C:its[i]? = some v:=by simpa using Z
  have y:i<bs.length:=by
   have:=(Su.mp C).1;rw[<-hlen,Sx]at this;exact this
  obtain⟨w,c,j⟩:=u.get (i:=i) (x:=.bl bs[i]) (by rw[Oc,Sv y];rfl);rw[C]at c;cases c;cases j;erw[wpAny_truthy_bool ?_];have O:bs.getD i false=bs[i]:=by rw[List.getD_eq_getElem?_getD,Sv y];rfl
  have B:E (bs.getD i false) s2:=D;rw[O]at B;exact B
 erw[call_all_walk (wpAny_pyIter_list f.isList ?_)];erw[⟨s.heap.objs.size,[s.heap.objs.size,p],[s.heap.objs.size],its.toArray.size,_,_,_,R,Walks.list (A:=X.A.in1) (I.ok.hd S) _ _ a0 its.toArray,⟨⟨_,Se _ R,R,R⟩,?_⟩,J,λP tk G=>?_⟩];ext⟨U,j,Y⟩ f.isList;exact⟨U,Sc _ j,Y⟩;have L:∀b o,s.heap.get? b=some o->P.get? b=some o:=λb o e=>G b o (λz=>by
  have c:=Sf e;rw[SG.mp z]at c;exact Ov c (Sm _)) (Sc _ e)
 have e:(List.range its.toArray.size).all (λi=>bs.getD i false)=bs.all id:=by
  rw[SQ,<-hlen,Sx];exact wK bs
 rw[e];exact⟨.bl _,H,I.kept (t':=tk) L,R,q⟩
def Zb.laidN{h':Heap}(I:Zb X pins f H s)(k:∀b u,s.heap.get? b=some u->h'.get? b=some u)(hn:s.heap.get? a=none)
  (new:Ym X.prog X.w (Za H a o) h' a o):Zb X pins f (Za H a o) {s with heap:=h',toks:=t'}:=by
 have ha:H a=none:=I.hasNo hn;have nt:∀b u,H b=some u->b≠a:=λb u q=>Zu q ha;erw[I.un ⟨λb u q _ _ _=>k b u q,λb u q _ _ _=>⟨u.slots,k b u q⟩,λb u q n _=>?_,λb u q _=>⟨u,k b u q⟩,λb h q=>?_,λb u h q=>?_,λb i q=>⟨#[],?_⟩⟩ λb u q=>?_];have ne:b≠a:=λz=>by rw[z,hn]at q;cases q
 rwa[Ze ne];rwa[Ze (nt _ _ q)];rwa[Ze (nt _ _ q)];rw[Ze (nt _ _ q),q];simp;by_cases e:b=a;subst e;rw[Zj]at q;cases q;exact new;rw[Ze e]at q;exact(I.hok b u q).stay (λc v _ z=>k c v z) (λc z=>by rwa[Ze (nt _ _ z)]) λc h z=>by rwa[Ze (nt _ _ z)]
def UL(z:Str)(c:Nat):Bool:=!(Builtin.Str.occurrences z ⟨#[c]⟩ 0 z.length 1).isEmpty
theorem wL{g:Nat->Bool}:∀(cs:OJ) (vs rs:OE),vs.length=cs.length->(∀(j:Nat) (v:Value),vs[j]? = some v->∃c u,cs[j]? = some c/\v=.str ⟨#[c]⟩ u) ->
  Paired (λv r=>∀c u,v=.str ⟨#[c]⟩ u->r=.bool (g c)) vs rs->ZB (cs.map λc=>V.bl (g c)) rs
 |[],[],_,_,_,.nil=>.nil
 |[],_::_,_,h,_,_=>nomatch h
 |_::_,[],_,h,_,_=>nomatch h
 |c::cs,v::vs,_,h,e,.cons r t=>by
  obtain⟨B,u,i,q⟩:=e 0 v R;have y:c=B:=by simpa using i
  subst y;exact .cons (r c u q) (wL cs vs _ (by simpa using h) (λj w f=>by simpa using e (j+1) w (by simpa using f)) t)
section
variable{x z:Str}{p1 p2 p3 px:Pos}{iter:Expr}{ti:TE}{cl:OB}{zs:Str}
def wM(X:Cx)(scope:Scope)(cl:OB)(z:Str)(p2:Pos)(zs:Str)(c:St):Prop :=
 ∀(pins:Oy) (H:Hp) (s1 s3:Shared) (C:Addr) (Q:Ox) (E:Ox),Zb X pins c H s1->(∀b o,s1.heap.get? b=some o->s3.heap.get? b=some o)->(∀t,Q (.str zs t) s3) ->
  wpAny (model X.prog X.w) X.A (eval (.Name z p2) (compEnvC scope cl C X.env)) Q E s3
def ZeS(X:Cx)(scope:Scope)(cl:OB)(z:Str)(p2:Pos)(ti:TE):TE:=λf H Q=>∃zs,wM X scope cl z p2 zs f/\ti f H λv e=>∃y,v=.str y/\y.length<=sizeLine /\
 ∀p,e p=none->Q (.ref p) (Za e p (.lst (y.cps.toList.map λc=>V.bl (UL zs c))))
def ZeT(hc:X.calm=true)(hi:PE X iter ti)(Z:closureFor scope X.env=pure cl)(f0:∀y∈scope.names,y.2≠.cell)(Q:scope.kind=.function)
  (i0:∀y∈scope.names,y.2=.local->scope.names.lookup y.1=some .local) (P:scope.names.lookup x=some .local) (hs:∀v,foldedSetIterable iter X.env v=pure v:=by intro _;rfl) (hd:(x==("__debug__" : Str))=false:=by lia) :
  PE X (.ListComp (.Compare (.Name x p1) [.In] [.Name z p2] p3) [⟨.Name x px,iter,[],0⟩] scope pos) (ZeS X scope cl z p2 ti):=by
 intro pins s σ g0 l0 a0 h;ext⟨zs,zr,h⟩ h;erw[wpAny_ListComp_free (cl:=cl) (λ_=>true) (λv r=>∀c u,v=.str ⟨#[c]⟩ u->r=.bool (UL zs c)) Z f0 Q i0 P (Zs (hi pins s σ g0 _ a0 h) λxv f ⟨v,S,H,r1,y,ev,hy,b0⟩=>?_) hs];subst ev;ext⟨t,rfl⟩ r1;erw[wpAny_pyIter_str λo St W d0=>?_];have M:∀(B:Heap),(∀b i,b∉[f.heap.objs.size]->(f.heap.push o).get? b=some i->B.get? b=some i)->∀b i,f.heap.get? b=some i->B.get? b=some i:=λB j b i e =>
  j b i (λz=>by
   have E:=Sf e;rw[SG.mp z]at E;exact Ov E (Sm _)) (Sc _ e)
 erw[⟨f.heap.objs.size,[f.heap.objs.size],[f.heap.objs.size],y.cps.size,SignAt y,St,R,W X.A (H.ok.hd hc),hy,d0,λb Y=>?_,⟨?_,?_⟩,?_⟩];rw[SG.mp Y];show f.heap.objs.size<(f.heap.push o).objs.size;rw[Heap.size_push];exact Sn _;intro C c0 v q T E' _ G hn hm j _;exact Sb ⟨R,q.heap,q.toks,R,λ_ _ e=>e⟩;intro C c0 v q T E' _ G _ hn hm j _;ext⟨c,u,_,rfl⟩ G;erw[wpAny_Compare1 (wpAny_Name (wpAny_loadName_local (env:=compEnvC scope cl C X.env) (m:=T) Q (lookup_relabel_local P) hn hm ?_) hd)];erw[zr pins S f q C _ _ H (M _ j) λt3=>?_];erw[in_str ⟨λc' u' e=>?_,q.heap,q.toks,R,λ_ _ e=>e⟩];injection e with E _;injection E with J;have e3:c=c':=by simpa using J
 subst e3;rfl;intro D B tk I L j0 hl e0 hlen G U j;have O:f.heap.get? D=none:=by
  cases e:f.heap.get? D with
  |none=>rfl
  |some u =>
   have:=Sc o e;rw[show(f.heap.push o).get? D=none from j0]at this;cases this
 ext⟨n,hD⟩ e0;have h0:L.filter (λ_=>true)=L:=List.filter_eq_self.mpr λ_ _=>R;rw[h0]at U;have V1:ZB (y.cps.toList.map λc=>V.bl (UL zs c)) I.toList:=wL y.cps.toList L I.toList (by rw[hlen];simp) (λk0 v hv=>by
  obtain⟨c,u,E,J⟩:=G k0 v hv;exact⟨c,u,by simpa using E,J⟩) U
 have new:Ym X.prog X.w (Za S D (.lst (y.cps.toList.map λc=>V.bl (UL zs c)))) B D (.lst (y.cps.toList.map λc=>V.bl (UL zs c))):=by
  erw[⟨?_,I.toList,n,V1,?_⟩];rw[Sx];have:y.cps.toList.length=y.length:=by simp[Str.length]
  lia;rw[Array.toArray_toList];exact hD
 exact⟨.ref D,_,H.laidN (t':=tk) (M B j) O new,R,b0 D (H.hasNo O)⟩
def ZeU(h:(relabel scope X.env).names.lookup z=some .globalImplicit)(c:scope.kind=.function)(hm:X.mg z=some (.str zs t))(hd:(z==("__debug__" : Str))=false:=by lia):wM X scope cl z p2 zs f:=by
 intro pins H i e C Q E I k q;exact Calls.Name_function_global (env:=compEnvC scope cl C X.env) c h (Calls.loadGlobal_global (env:=compEnvC scope cl C X.env) (by
  show e.heap.Ns X.env.globals X.mg;rw[I.ok.glob];exact(I.mod.glob.keeps I.bk).keeps k) hm (q t)) hd
end
def VN:YT X (.builtin "isinstance") (λxs H Q=>∃x T t b,xs=[x,.ty T]/\XW X.K H x t/\W.kitOne X.K t (.type T)=some b/\Q (.bl b) H):=by
 intro pins s j H xs v Q I r h;ext⟨x,T,t,b,rfl,ty,e,q⟩ h;obtain⟨u,c,rfl,i,f⟩:=KO r;cases (show c=Value.type T from f);exact xC I i ty e λtk=>⟨.bl b,H,I.tok _,R,q⟩
def ZeV:YT X (.builtin "isinstance") (λxs H Q=>∃x C t b,xs=[x,.ref C]/\XW X.K H x t/\W.kitOne X.K t (.ref C)=some b/\Q (.bl b) H):=by
 intro pins s j H xs v Q I r h;ext⟨x,C,t,b,rfl,ty,e,q⟩ h;obtain⟨u,c,rfl,i,f⟩:=KO r;cases (show c=Value.ref C from f);exact xC I i ty e λtk=>⟨.bl b,H,I.tok _,R,q⟩
section
variable{x:Str}
def Wb(c:Gl X x)(hm:X.mg x=some (.ref a))(hd:(x==("__debug__" : Str))=false:=by lia):PE X (.Name x pos) (tC (.ref a)):=yI c hm R hd
def Vr(e:Gl X x)(hm:X.mg x=none)(c:bootBuiltins x=some (.type T))(hn:x ≠ "__name__" := by lia) (hd:(x==("__debug__" : Str))=false:=by lia):PE X (.Name x pos) (tC (.ty T)):=Zdc e hm c R hn hd
end
open PySem PySem.Spec PyProof.Rows PySem.W PySem.Calls Builtin Builtin.ObjectAttr Builtin.Getset_descriptor
section
variable{a C:Addr}{o:Obj}{R:Result->Shared->Prop}
structure XI(K:OA)(C:Addr):Prop where
 cl:(W.clsIn K C).isSome=true
 g1:W.findIn K (.ref C) "__getattribute__"=some (some (.builtin "BaseException.__getattribute__"))
 g2:W.findIn K (.ref C) "__getattr__"=some none
 g3:W.findIn K (.ref C) "__class__"=some (some (.builtin "object.__class__"))
 g4:W.mroIn K C (.type "object")=some true
 g5:W.mroIn K C (.type "BaseException")=some true
 g6:W.specialIn K (.builtin "object.__class__") "__get__"=some (some (.builtin "getset_descriptor.__get__"))
 g7:W.takesIn K (.builtin "object.__class__")=some true
def ZeW(Y:K.In s.heap)(c:XI K C)(i:s.heap.get? a=some o)(e:o.cls=.ref C)(h:R (.ok (.ret (.ref C))) s) :
  codeAny (model prog w) A (.call (.builtin "getset_descriptor.__get__") ⟨[.builtin "object.__class__",.ref a,tp],[]⟩) R s:=by
 ext⟨f,g,dr,t,os⟩ s;have j:Looks (model prog w) f (typeOf (.ref a)) (.ref C):=e ▸ (Looks.ld i).andThen .now;have q:=looks_mroIn (M:=model prog w) Y c.g4;erw[codeAny_call_builtin KF.slot_gs.plain KF.entry_gs (KF.slot_gs.check _ _ _ _ _ _ _ _ KF.type_class (KF.args_gs _ _ _) ?_)];unfold Builtin.«getset_descriptor.__get__» descrGet;rw[dga_obj];erw[Sa (Sb ?_)];unfold descrGetter descrCheckInstance descrNameAndClass isInstance;simp only[KF.owner_class]
 repeat lk
 erw[⟨Code.quiet_builtin _ (),codeAny_builtin KF.entry_class ?_⟩];unfold Builtin.«object.__class__» shownTypeOf
 repeat lk
 exact h
def ZeX(Y:K.In s.heap)(c:XI K C)(f:s.heap.get? a=some o)(e:o.cls=.ref C)(h:Q (.done (.ret (.ref C))) s) :
  wpAny (model prog w) A (Builtin.«object.__getattribute__» ⟨[.ref a,.str "__class__" tk],[]⟩) Q E s:=by
 ext⟨i,g,dr,t,os⟩ s;have u:Looks (model prog w) i (typeOf (.ref a)) (.ref C):=e ▸ (Looks.ld f).andThen .now;have q:=looks_findIn (M:=model prog w) Y c.g3;have v:=looks_specialIn (M:=model prog w) Y c.g6;have j:=looks_takesIn (M:=model prog w) Y c.g7;unfold Builtin.«object.__getattribute__»
 repeat lk
 erw[wpAny_run (c:=.call (.builtin "getset_descriptor.__get__") ⟨[.builtin "object.__class__",.ref a,.ref C],[]⟩) (h:=none) (ZeW (R:=_) Y c f e ?_)];exact Sb (Sb h)
def ZeY(Y:K.In s.heap)(c:XI K C)(q:s.heap.get? a=some o)(f:o.cls=.ref C)(h:Q Unit.unit s) :
  wpAny M A (checkBuiltinCall "BaseException.__getattribute__" ⟨[.ref a,e],[]⟩) Q E s:=by
 ext⟨i,g,dr,t,os⟩ s;have v:Looks M i (typeOf (.ref a)) (.ref C):=f ▸ (Looks.ld q).andThen .now;have y:=looks_mroIn (M:=M) Y c.g5;have u:builtinKind "BaseException.__getattribute__"=some .slot:=by lia
 have j:splitId "BaseException.__getattribute__"=some ("BaseException","__getattribute__"):=by lia
 have ha:=PySem.F.args_bexc_ga (.ref a) e;simp only[checkBuiltinCall,u,j];erw[Sa ?_];unfold isInstance;erw[Sa (v.at ?_)];erw[y.at ?_];rw[SX ()];exact wpAny_of_eq ha h
def ZeZ(Y:K.In s.heap)(c:XI K C)(f:s.heap.get? a=some o)(e:o.cls=.ref C)(h:Q (some (.ref C)) {s with toks:=s.toks+1}) :
  wpAny (model prog w) A (getAttr? (.ref a) "__class__") Q E s:=by
 ext⟨i,g,dr,t,os⟩ s;have q:Looks (model prog w) i (typeOf (.ref a)) (.ref C):=e ▸ (Looks.ld f).andThen .now;have u:=looks_findIn (M:=model prog w) Y c.g1;have v:=looks_findIn (M:=model prog w) Y c.g2;have j:=PySem.F.excAttr_ValueError.ga.bind (.ref a);unfold getAttr? getAttrBy? getAttrBy;erw[Sa (wpAny_mkText (Sa (wpAny_attempt (wpAny_holding (Sa (q.at (Sa (u.at ?_))))))))];dsimp only;rw[SX (show ¬ ((onTheHeap (Value.ref C) && Value.builtin "BaseException.__getattribute__"==Value.builtin "object.__getattribute__")=true) by
  rw[show(Value.builtin "BaseException.__getattribute__"==Value.builtin "object.__getattribute__")=false by lia,Bool.and_false];lia)]
 unfold getAttrByItsOwn hookBefore;rw[SY (show onTheHeap (Value.ref C)=true from rfl)];erw[Sa (v.at ?_)];unfold callGetattribute;rw[SX ()];unfold boundAndCalled;erw[Sa (wpAny_attempt (wpAny_holding (Sa (wpAny_of_eq j ?_))))];erw[wpAny_call (codeAny_call_builtin PySem.F.excAttr_ValueError.ga.plain PySem.F.entry_bexc_ga (ZeY Y c f e (ZeX Y c f e ?_)))];exact Sb (Sb h)
def wN(c:XI K C):KitX K (.ref a) (.ref C) (λh=>∃ob vs,h.get? a=some ob/\ob.cls=.ref C/\ob.data=.fields vs) where
 ty:=λM h Y ⟨ob,vs,j,i,_⟩=>i ▸ (Looks.ld j).andThen .now
 it:=λM h Y _=>by
  obtain⟨v,f⟩:=Option.isSome_iff_exists.mp c.cl;unfold clsIn at f;split at f
  ·next ho =>
   intro H B I D k q;unfold isType loadHead;exact Sa (wpAny_loadPart (k _ _ (Y _ _ ho)) (Sb q))
  cases f
 ne:=λh tp y its n G Y u=>by
  obtain⟨v,f⟩:=Option.isSome_iff_exists.mp c.cl;erw[Oj.mpr λq=>?_];have e:C=tp:=Value.ref.inj (beq_iff_eq.mp q);subst e;unfold clsIn at f;split at f
  ·next ho =>
   have z:=(Y _ _ ho).symm.trans u;cases z
  cases f
 ca:=λY ⟨ob,vs,j,i,_⟩ k=>ZeZ Y c j i k
end
def Ze0:YT X (.builtin "isinstance") (λxs H Q=>∃(a C D:Addr) (b:Bool),xs=[.ref a,.ref D]/\H a=some (Wq a (.ref C))/\XI X.K C/\W.kitOne X.K (.ref C) (.ref D)=some b/\Q (.bl b) H):=by
 intro pins s v H xs y Q I r h;ext⟨a,C,D,b,rfl,ha,c,e,q⟩ h;obtain⟨u,f,rfl,j,i⟩:=KO r;cases (show u=Value.ref a from j);cases (show f=Value.ref D from i);obtain⟨p,_⟩:=I.hok a _ ha;exact kia_one (wN c) I.kIn p e (λz=>nomatch z) λtk=>⟨.bl b,H,I.tok _,R,q⟩
def Ze1:YT X (.builtin "isinstance") (λxs H Q=>∃(a C:Addr) (T:String) (b:Bool),xs=[.ref a,.ty T]/\H a=some (Wq a (.ref C))/\XI X.K C/\W.kitOne X.K (.ref C) (.type T)=some b/\Q (.bl b) H):=by
 intro pins s v H xs y Q I r h;ext⟨a,C,T,b,rfl,ha,c,e,q⟩ h;obtain⟨u,f,rfl,j,i⟩:=KO r;cases (show u=Value.ref a from j);cases (show f=Value.type T from i);obtain⟨p,_⟩:=I.hok a _ ha;exact kia_one (wN c) I.kIn p e (λz=>nomatch z) λtk=>⟨.bl b,H,I.tok _,R,q⟩
def VO{e:Type}{t:Sem e}{Q c:e->Shared->Prop}{M:Model}(h:wpAny M A t Q (λ_ _=>False) s)(f:∀a s,Q a s->c a s):wpAny M A t c E s:=Ou h f λ_ _ z=>z.elim
abbrev wO(ifs:OG)(env:Env):Sem Bool:=forIn ifs true λc r=>if r=true then do let ok <-isTrue c env (eval c env);pure (ForInStep.yield ok)else pure (ForInStep.yield r)
theorem Ze2{R:Result->Shared->Prop}{iter : Expr}(J:Nat->Shared->Prop)
  (turn:∀k c,J k c->wpAny (model prog w) A (pyNext it) (λr s2=>match r with
   |none=>R (.ok .next) s2
   |some v=>wpAny (model prog w) A (letOwnedTupleGo e it v) (λ_ j=>wpAny (model prog w) A (assign e env v) (λ_ C=>wpAny (model prog w) A (wO B env) (λok s5 =>
     if ok=true then wpAny (model prog w) A (eval u env) (λx i=>wpAny (model prog w) A (call (.builtin "list.append") [f,x]) (λ_ D=>∃m,m<k/\J m D) (λ_ _=>False) i) (λ_ _=>False) s5
     else ∃m,m<k/\J m s5) (λ_ _=>False) C) (λ_ _=>False) j) (λ_ _=>False) s2) (λ_ _=>False) c)
  (k:Nat) (h:J k s):codeAny (model prog w) A (.compLoop (.ListComp u [⟨e,iter,B,0⟩] scope pos) 0 it f env) R s:=by
 erw[codeAny_loop rfl J (λk c E=>?_) k h];erw[wpAny_noted ?_];rw[compTurn_list];erw[Sa (wpAny_standAt (Sa (VO (turn k c E) λr s2 q=>?_)))];cases r with
 |none=>exact Sb q
 |some v =>
  erw[Sa (VO q λ_ j I=>Sa (VO I λ_ C G=>Sa (VO G λok s5 y=>?_)))];cases ok with
  |false=>exact Sb ⟨rfl,y⟩
  |true=>exact Sa (Sa (VO y λx i H=>Sa (VO H λ_ D L=>Sb (Sb ⟨rfl,L⟩))))
abbrev XJ(X:Cx)(N:OF)(scope:Scope)(cl:OB)(C:Addr)(s0:Shared)(H0:Hp)(ex:OK)(pins:Oy):Cx :=
 {X with N:=N,s₀:=s0,H₀:=H0,env:=compEnvC scope cl C X.env,outer:=X.stack,stack:=X.stack,ex:=ex,fn:=λ_=>false,pn:=X.pn++pins,xe:=λ_ _=>False}
def Vb(X:Cx)(scope:Scope)(cl:OB):List Str->List (Option Nat)->Prop
 |[],[]=>True
 |_::N,none::fr=>Vb X scope cl N fr
 |y::N,some i::fr=>(X.N[i]? = some y/\(X.env.kindOf y=some .cell\/X.env.kindOf y=some .free)/\((relabel scope X.env).names.lookup y=some .cell\/(relabel scope X.env).names.lookup y=some .free) /\
   ∃c,X.env.cells.lookup y=some c/\cl.lookup y=some c)/\Vb X scope cl N fr
 |_,_=>False
def A3(fr:List (Option Nat))(c:St):St:=fr.map λo=>match o with|none=>none|some i=>(c[i]?).getD none
theorem Vb.len:∀{N:OF} {fr:List (Option Nat)},Vb X scope cl N fr->fr.length=N.length
 |[],[],_=>rfl
 |_::N,none::fr,h=>by rw[SA,SA,Vb.len (N:=N) h]
 |_::N,some i::fr,h=>by rw[SA,SA,Vb.len (N:=N) h.2]
 |[],_::_,h=>h.elim
 |_::_,[],h=>h.elim
theorem Vb.at{cl:OB}:∀{N:OF} {fr:List (Option Nat)} {j:Nat},Vb X scope cl N fr->N[j]? = some y->(A3 fr f)[j]? = some (some v) ->
  ∃i:Nat,f[i]? = some (some v)/\X.N[i]? = some y/\(X.env.kindOf y=some .cell\/X.env.kindOf y=some .free)/\((relabel scope X.env).names.lookup y=some .cell\/(relabel scope X.env).names.lookup y=some .free) /\
   ∃c,X.env.cells.lookup y=some c/\cl.lookup y=some c
 |[],[],j,_,e,_=>by simp at e
 |[],_::_,_,h,_,_=>h.elim
 |_::_,[],_,h,_,_=>h.elim
 |_::N,none::fr,0,_,_,q=>by cases q
 |_::N,none::fr,j+1,h,e,q=>Vb.at (N:=N) (fr:=fr) (j:=j) h e q
 |x::N,some i::fr,0,h,e,q=>by
  have B:x=y:=Sr e;subst B;have u:some ((f[i]?).getD none)=some (some v):=q;erw[⟨i,?_,h.1⟩];cases z:f[i]? with
  |none=>rw[z]at u;cases u
  |some o=>rw[z]at u;exact congrArg some (Sr u)
 |_::N,some i::fr,j+1,h,e,q=>Vb.at (N:=N) (fr:=fr) (j:=j) h.2 e q
def VP(X:Cx):List (Str×Addr)->Prop
 |[]=>True
 |(y,c)::r=>X.env.cells.lookup y=some c/\VP X r
theorem VP.at:∀{cl:OB},VP X cl->cl.lookup y=some c->X.env.cells.lookup y=some c
 |[],_,e=>by cases e
 |(z,d)::r,h,e=>by
  rw[List.lookup_cons]at e;cases q:y==z with
  |true =>
   rw[q]at e;have f:y=z:=by simpa using q
   have i:d=c:=Sr e;subst f i;exact h.1
  |false =>
   rw[q]at e;exact VP.at h.2 e
theorem Nb{c:Type}{p:Str×c->Bool}{y:Str}{k:c}:∀{l:List (Str×c)},l.all p=true->l.lookup y=some k->p (y,k)=true
 |[],_,e=>by cases e
 |(z,d)::r,h,e=>by
  rw[List.all_cons,Bool.and_eq_true]at h;rw[List.lookup_cons]at e;cases q:y==z with
  |true =>
   rw[q]at e;have f:y=z:=by simpa using q
   have i:d=k:=Sr e;subst f i;exact h.1
  |false =>
   rw[q]at e;exact Nb h.2 e
section
variable{σ:St}{N:OF}{fr:List (Option Nat)}{cl:OB}
def Zb.block{h':Heap}(I:Zb X pins σ H s)(b0:scope.kind=.function)(L:Vb X scope cl N fr)(i:VP X cl)
  (P:((relabel scope X.env).names.all λp=>!(p.2==.cell || p.2==.free) || (cl.lookup p.1).isSome)=true) (j:∀b∈ex,Y4 X pins H b) (c0:∀b∈ex,b<s.heap.objs.size)
  (h:∀b o,s.heap.get? b=some o->h'.get? b=some o) (q:s.heap.objs.size<=C) (S:h'.Ns C m):Zb (XJ X N scope cl C s H ex pins) [] (A3 fr σ) H {s with heap:=h',toks:=tk}:=by
 have O:∀b,b≠X.env.locals->b∉X.fs->b∉Yw X.stack:=λb T h2 z=>(SH.mp (I.stkSub b z)).elim T h2;have Y:∀b o,s.heap.get? b=some o->b≠C:=λb o e=>Sg (Sj (Sf e) q);refine⟨⟨I.ok.mod,b0,I.ok.glob,I.ok.blt,q,λx d0 c E B=>I.ok.inj x d0 c (i.at E) (i.at B),λx hx=>?_,(λ_ _ z=>nomatch z),I.ok.hd,I.ok.frames,.inl R,λb f=>⟨Sg (Sj (c0 b f) q),λx c e=>(j b f).2.2.2.2.1 x c (i.at e)⟩,
   I.bs,Si I.ok.bsz I.sz,λb o e f=>?_,λb f=>O b (j b f).2.1 (j b f).2.2.1,I.stack,I.stkFree⟩,R,I.bare,Un.kept h,⟨m,S,λf0 x v E B e3=>?_⟩,λx c e=>?_,?_,λx c e=>I.freeC x c (i.at e),λp hp=>?_,I.hok.kept h,?_⟩
 have a0:∃k,(relabel scope X.env).names.lookup x=some k/\(k=.cell\/k=.free):=hx.elim (λz=>⟨_,z,.inl R⟩) λz=>⟨_,z,.inr R⟩;ext⟨k,G,y⟩ a0;have z:=Nb P G;have U:(cl.lookup x).isSome=true:=by
  rcases y with rfl|rfl;simpa using z;simpa using z
 exact Option.isSome_iff_exists.mp U;rcases(j b f).2.2.2.1 with z|z;exact I.ok.noex b o e z;exact Ov (Sj (Sj (Sf e) I.ok.bsz) z) (Sm _);obtain⟨e0,G,y,M,q4,c,q5,q6⟩:=L.at E B;ext⟨m0,g0,Q⟩ I.loc;obtain⟨u,r,l⟩:=Q e0 x v y G (M.elim (λz=>.inr (.inl z)) λz=>.inr (.inr z));erw[⟨u,r,.inr ⟨q4,c,q6,?_⟩⟩];rcases l with⟨k,_⟩|⟨_,c',J,o,D,hd⟩;rcases M with z|z;rw[z]at k;cases k;rw[z]at k;cases k;rw[q5]at J;cases J;exact⟨o,h _ _ D,hd⟩;obtain⟨v,o,D,hd⟩:=I.cell x c (i.at e);exact⟨v,o,h _ _ D,hd⟩;exact I.hok.fresh q;have Z:p∈X.pn++pins:=by simpa using hp
 obtain⟨e,n,ne,nf,d⟩:=I.pin p Z;exact⟨h _ _ e,n,Y _ _ e,O _ ne nf,d⟩;show(A3 fr σ).length=N.length;unfold A3;rw[Sx,L.len]
def Zb.trackS{ob:Obj}(I:Zb X pins σ H s)(ha:H a=none)(B:s.heap.get? a=some ob)(hd:ob.data=.seq vs n)
  (D:X.s₀.heap.get? a=none) (G:∀p∈X.pn++pins,p.1≠a) (new:Ym X.prog X.w (Za H a o) s.heap a o):Zb X pins σ (Za H a o) s:=by
 have nt:∀b u,H b=some u->b≠a:=λb u q=>Zu q ha;erw[⟨I.ok,I.os,I.bare,⟨I.base.keep,I.base.slot,λb u e n C=>?_,I.base.there,λb i q=>?_,λb u i q=>?_,λb E q=>?_⟩,I.loc,I.cell,?_,λy c e=>?_,λp q=>?_,λb u q=>?_,I.len⟩];have ne:b≠a:=λz=>by rw[z,D]at e;cases e
 rw[Ze ne];exact I.base.free b u e n C;have z:=I.base.tups b i q;rwa[Ze (nt _ _ z)];have z:=I.base.frzs b u i q;rwa[Ze (nt _ _ z)];obtain⟨m,z⟩:=I.base.tbls b E q;exact⟨m,by rwa[Ze (nt _ _ z)]⟩;have ne:X.env.locals≠a:=λz=>by
  ext⟨m,⟨O,J,L,h,f,_⟩,_⟩ I.loc;rw[z,B]at h;cases h;rw[hd]at f;cases f
 rw[Ze ne];exact I.free;have ne:c≠a:=λz=>by
  obtain⟨v,M,h,f⟩:=I.cell y c e;rw[z,B]at h;cases h;rw[hd]at f;cases f
 rw[Ze ne];exact I.freeC y c e;obtain⟨e,n,r⟩:=I.pin p q;exact⟨e,by rwa[Ze (G p q)],r⟩;by_cases j:b=a;subst j;rw[Zj]at q;cases q;exact new;rw[Ze j]at q;exact(I.hok b u q).stay (λc v _ z=>z) (λc z=>by rwa[Ze (nt _ _ z)]) λc i z=>by rwa[Ze (nt _ _ z)]
end
def F2(X:Cx)(c:OG)(t:TT):Prop :=
 ∀(pins:Oy) (s:Shared) (σ:St) (H:Hp) (Q:Bool->Hp->Prop),Zb X pins σ H s->t σ H Q->wpAny (model X.prog X.w) X.A (wO c X.env) (TP X pins σ Q) X.xe s
def Vs:TT:=λ_ H Q=>Q true H
def VQ:F2 X [] Vs:=λ_ _ _ H _ I h=>wpAny_tests_nil ⟨H,I,h⟩
def wP(h:PT X c t):F2 X [c] t:=λpins s e H Q I q=>wpAny_tests_one (h pins s e H Q I q)
def Ut(Q:VK)(c:List V)(H:Hp):Prop:=∀p,H p=none->Q (.ref p) (Za H p (.lst c))
def Nc(fr:List (Option Nat))(D:TI)(g:TG)(tt:TT)(C:TE):TE:=λv H Q=>D v H λJ I=>∃W:Nat->Nat->List V->St->Hp->Prop,(∃m,W 0 m [] (A3 fr v) I)/\∀i m e q H,W i m e q H ->
 (J.stop i H/\Ut Q e H) \/
 (J.go i H/\e.length<sizeLine/\∃N:List V->St->Hp->Prop,(∀B u c,N B u c->∃h,h<m/\W (i+1) h B u c)/\∀x c,J.yld i H x c->g x q c λf E=>tt f E λb j=>if b=true then C f j λy G=>N (e++[y]) f G else N e f j)
def wQ{iter : Expr}{cl:OB}
  (hc:X.calm=true) (hi:PI X tg iter wi) (b1:closureFor scope X.env=pure cl) (i1:∀y∈scope.names,y.2≠.cell) (g0:scope.kind=.function)
  (a1:∀y∈scope.names,y.2=.local->scope.names.lookup y.1=some .local) (w1:Vb X scope cl N fr) (l0:VP X cl)
  (m1:((relabel scope X.env).names.all λp=>!(p.2==.cell || p.2==.free) || (cl.lookup p.1).isSome)=true)
  (hg:∀C s0 H0 ex pins,PG (XJ X N scope cl C s0 H0 ex pins) tg g) (ht:∀C s0 H0 ex pins,F2 (XJ X N scope cl C s0 H0 ex pins) h0 tt) (he:∀C s0 H0 ex pins,PE (XJ X N scope cl C s0 H0 ex pins) f0 te)
  (hs:∀v,foldedSetIterable iter X.env v=pure v) (f1:Zb X pins U H s) (h:Nc fr wi g tt te U H Q)
  (d1:∀(D:Nat) (s2 s6:Shared) (j J:Hp) (fp:OK) (G:List V) (its:OE) (E:Nat) (P:St),s2.heap.objs.size=D->Zb X pins U j s2->(∀b∈fp,Y4 X pins j b)->Zb (XJ X N scope cl (D+1) s2 j fp pins) [(D,{cls:=.type "list",dict:=none,data:=.seq (List.toArray its) E})] P J s6->J D=none->ZB G its->G.length<=sizeLine->Ut Q G J->(∀p∈X.pn++pins,p.1<D)->X.s₀.heap.get? D=none->compPost (model X.prog X.w) X.A X.xe k0 Qf (.ref D) (D+1) (.ok .next) s6) :
  wpAny (model X.prog X.w) X.A (comprehension (.ListComp f0 [⟨tg,iter,h0,0⟩] scope pos) scope X.env o1 (newList []) false (eval iter X.env) k0) Qf X.xe s:=by
 erw[wpAny_comprehension_free R hs b1 g0 a1 (Zs (hi pins s U H _ f1 h) λxv s1 h1=>Zs h1 λd2 s2 h2=>?_)];ext⟨it,fp,tn,e2,j,e,L,T,j0,f2,W,⟨m0,w0⟩,turn⟩ h2;subst e;erw[wpAny_newObj_type (wpAny_newFunctionEnv i1 (λy hy=>nomatch hy) (λh4 c0 Y=>?_) g0)];dsimp only at c0 Y ⊢;generalize u:s2.heap.objs.size=D at *;generalize hG:s2.heap.push {cls:=.type "list",dict:=none,data:=.seq ([]:OE).toArray} = p0 at c0 Y ⊢;have hC:p0.objs.size=D+1:=by rw[<-hG,Heap.size_push,u]
 generalize c2:p0.objs.size=C at c0 Y hC ⊢;subst hC;have i0:∀b o,s2.heap.get? b=some o->h4.get? b=some o:=λb o e=>by
  have lt:=Sf e;rw[u]at lt;exact Y.extBut b o (Sg (So lt)) (Sc _ (hG ▸ Sc _ e))
 have x1:h4.get? D=some {cls:=.type "list",dict:=none,data:=.seq ([]:OE).toArray 0} :=
  Y.extBut _ _ (Sg (Sn _)) (Sc _ (hG ▸ u ▸ Se _ R))
 have flt:∀b∈fp,b<D:=λb f=>by
  obtain⟨o,e,_⟩:=T.obj 0 _ j0 b f;have lt:=Sf e;rw[u]at lt;exact lt
 have j1:∀b,b≠X.env.locals->b∉X.fs->b∉Yw X.stack:=λb h1 h2 z=>(SH.mp (L.stkSub b z)).elim h1 h2;have pl:∀p∈X.pn++pins,p.1<D:=λp B=>by
  have lt:=Sf (L.pin p B).1;rw[u]at lt;exact lt
 have I4:∀tk,Zb (XJ X N scope cl (D+1) s2 j fp pins) [] (A3 fr U) j {s2 with heap:=h4,toks:=tk}:=λtk =>
  L.block g0 w1 l0 m1 f2 (λb f=>by rw[u];exact flt b f) i0 (by rw[u];exact Nat.le_succ _) c0
 have e0:∀{q:Hp} {o:Obj},(∀b∈fp,q b=none)->∀b∈fp,Y4 (XJ X N scope cl (D+1) s2 j fp pins) [(D,o)] q b:=λ{q o} hn b f=>by
  obtain⟨_,Z,k2,_,M,k5⟩:=f2 b f;erw[⟨hn b f,Sg (So (flt b f)),j1 b Z k2,.inl f,λx c e=>M x c (l0.at e),λp B=>?_⟩];rcases SI.mp B with B|B;exact k5 p B;rw[SG.mp B];exact(Sg (flt b f)).symm
 have b2:D∉Yw X.stack:=λz=>by
  obtain⟨_,o,e,_⟩:=L.stack.mem z;have lt:=Sf e;rw[u]at lt;exact Ov lt (Sm _)
 have loop:∀tk,codeAny (model X.prog X.w) X.A (.compLoop (.ListComp f0 [⟨tg,iter,h0,0⟩] scope pos) 0 (.ref it) (.ref D) (compEnvC scope cl (D+1) X.env)) (compPost (model X.prog X.w) X.A X.xe k0 Qf (.ref D) (D+1)) {s2 with heap:=h4,toks:=tk}:=λtk=>by
  refine Ze2 (λk I=>∃i b0 q its E G,Zb (XJ X N scope cl (D+1) s2 j fp pins) [] b0 q I /\
    I.heap.get? D=some {cls:=.type "list",dict:=none,data:=.seq (List.toArray its) E}/\q D=none/\ZB G its/\G.length<=sizeLine/\tn i I.heap/\(∀b∈fp,q b=none)/\W i k G b0 q) ?_ m0
   ⟨0,_,j,[],0,[],I4 tk,x1,L.hok.fresh (by rw[u];exact Sh _),.nil,Sl _,T.keep 0 _ _ j0 λb _ o e=>i0 b o e,λb f=>(f2 b f).1,w0⟩
  rintro k s5 ⟨i,P,J,its,E,G,I5,hL,q0,va,y0,x0,u0,w5⟩;have q1:∀x c,cl.lookup x=some c->c≠D:=λx c e z=>by
   obtain⟨v,d0⟩:=L.cell x c (l0.at e);have lt:=d0.lt;rw[u,z]at lt;exact Ov lt (Sm _)
  have o0:Zb (XJ X N scope cl (D+1) s2 j fp pins) [(D,{cls:=.type "list",dict:=none,data:=.seq (List.toArray its) E})] P J s5:=I5.pins_of λp B=>by
   rw[SG.mp B];exact⟨hL,q0,Sg (Sn _),b2,λv z=>by cases z⟩
  rcases turn i k G P J w5 with⟨stop,qn⟩|⟨go,i2,N1,t0,step⟩;erw[VO (T.done (XJ X N scope cl (D+1) s2 j fp pins) R R R hc i _ s5 _ J _ o0 (e0 u0) x0 stop) λr s6 ⟨hr,I6⟩=>?_];subst hr;exact d1 D s2 s6 j J fp G its E P u L f2 I6 q0 va y0 qn pl (by
    cases z:X.s₀.heap.get? D with
    |none=>rfl
    |some o =>
     have lt:=Sj (Sf z) L.sz;rw[u]at lt;exact Ov lt (Sm _))
  erw[VO (T.item (XJ X N scope cl (D+1) s2 j fp pins) R R R hc i _ s5 _ J _ o0 (e0 u0) x0 go) λr s6 ⟨e1,hr,h6⟩=>?_];subst hr;erw[VO h6 λ_ S ⟨x,H7,I7,r7,y7,n0,v1⟩=>?_];have z0:Zb (XJ X N scope cl (D+1) s2 j fp pins) ([(D,{cls:=.type "list",dict:=none,data:=.seq (List.toArray its) E})]++QB fp S.heap) P H7 S:=I7.pinned (e0 v1) (T.obj _ _ n0);erw[VO (hg _ _ _ _ _ _ S _ H7 x e1 _ z0 r7 (step x H7 y7)) λ_ s8 ⟨a0,H8,I8,q8⟩=>?_];erw[VO (ht _ _ _ _ _ _ s8 a0 H8 _ I8 q8) λok s9 ⟨H9,I9,q9⟩=>?_];have wk:∀{b0:St} {q:Hp} {I:Shared},Zb (XJ X N scope cl (D+1) s2 j fp pins) ([(D,{cls:=.type "list",dict:=none,data:=.seq (List.toArray its) E})]++QB fp S.heap) b0 q I ->
    tn (i+1) I.heap/\(∀b∈fp,q b=none)/\I.heap.get? D=some {cls:=.type "list",dict:=none,data:=.seq (List.toArray its) E}/\q D=none:=λ{b0 q I} J'=>by
   have pin:∀p∈([(D,{cls:=.type "list",dict:=none,data:=.seq (List.toArray its) E})]:Oy)++QB fp S.heap,I.heap.get? p.1=some p.2/\q p.1=none:=λp B=>let ⟨e,n,_⟩:=J'.pin p (SJ _ B);⟨e,n⟩;erw[⟨T.keep _ _ _ n0 λb f o e=>(pin (b,o) (SJ _ (KH f e))).1,λb f=>?_,(pin (D,_) (SK _ (SG.mpr R))).1,(pin (D,_) (SK _ (SG.mpr R))).2⟩];obtain⟨o,e,_⟩:=T.obj _ _ n0 b f;exact(pin (b,o) (SJ _ (KH f e))).2
  cases ok with
  |false =>
   obtain⟨m',hm,w9⟩:=t0 _ _ _ q9;obtain⟨Z,k2,k3,M⟩:=wk I9;exact⟨m',hm,i+1,a0,H9,its,E,G,I9.pins_of (λ_ z=>nomatch z),k3,M,va,y0,Z,k2,w9⟩
  |true =>
   erw[VO (he _ _ _ _ _ _ s9 a0 H9 _ I9 q9) λy O ⟨v,r0,v0,a2,c1⟩=>?_];obtain⟨m',hm,y1⟩:=t0 _ _ _ c1;obtain⟨Z,k2,k3,M⟩:=wk v0;erw[call_meets F.slot_list_append ⟨_,k3,R⟩ F.entry_list_append (F.args_list_append_2 _ _) (PySem.list_append D its.toArray E y (by rw[SQ,<-va.length];lia)) ⟨k3,?_⟩];have up:∀b o,b≠D->O.heap.get? b=some o->(O.heap.update D (Obj.mapSeq λz=>z.push y)).get? b=some o:=λb o f e=>(Heap.get?_update_other O.heap _ (Ne.symm f)).trans e;have u1:Zb (XJ X N scope cl (D+1) s2 j fp pins) [] a0 r0 {O with heap:=O.heap.update D (Obj.mapSeq λz=>z.push y),toks:=O.toks} :=
    (v0.pins_of (pins':=[]) λ_ z=>nomatch z).turned up M (Sg (Sn _)) (.inr (by rw[u];exact Sh _)) q1 λp B=>by
     have t1:p∈X.pn++pins:=by simpa using B
     exact Sg (pl p t1)
   have d0:=PySem.IsL.update k3 (λz=>z.push y);rw[show(List.toArray its).push y=(its++[y]).toArray by simp]at d0;erw[⟨m',hm,i+1,a0,r0,its++[y],_,G++[v],u1,d0,M,va.append (.cons a2 .nil),?_,T.keep _ _ _ Z λb f o e=>up b o (Sg (flt b f)) e,k2,y1⟩];rw[Sw,Sy];lia
 exact codeAny_compStart_list (loop _) (T.self _ 0 _ _ _ (T.keep 0 _ _ j0 λb _ o e=>i0 b o e) (loop _))
def V8{iter : Expr}{cl:OB}{P:TI}
  (E:X.calm=true) (hi:PI X J iter P) (Z:closureFor scope X.env=pure cl) (f0:∀y∈scope.names,y.2≠.cell) (g0:scope.kind=.function)
  (l0:∀y∈scope.names,y.2=.local->scope.names.lookup y.1=some .local) (h0:Vb X scope cl N fr) (m0:VP X cl)
  (a0:((relabel scope X.env).names.all λp=>!(p.2==.cell || p.2==.free) || (cl.lookup p.1).isSome)=true)
  (hg:∀C H G ex pins,PG (XJ X N scope cl C H G ex pins) J g) (ht:∀C H G ex pins,F2 (XJ X N scope cl C H G ex pins) U tt) (he:∀C H G ex pins,PE (XJ X N scope cl C H G ex pins) M O)
  (hs:∀v,foldedSetIterable iter X.env v=pure v:=by intro _;rfl):PE X (.ListComp M [⟨J,iter,U,0⟩] scope pos) (Nc fr P g tt O):=by
 intro pins s Q o0 n0 d0 c0;rw[eval_ListComp];erw[wQ E hi Z f0 g0 l0 h0 m0 a0 hg ht he hs d0 c0 λD s2 I H2 f fp i0 its Y p0 hD I2 f2 c S va e0 qn pl hz=>?_];ext⟨m6,b0,_⟩ c.loc;erw[⟨m6,b0,λh j=>?_⟩];have T:h.get? D=some {cls:=.type "list",dict:=none,data:=.seq (List.toArray its) Y}:=j.extBut _ _ (Sg (Sn _)) (c.pin (D,_) (SJ _ (SG.mpr R))).1;have L:∀b o,s2.heap.get? b=some o->b≠D+1:=λb o e=>by
  have lt:=Sf e;rw[hD]at lt;exact Sg (So lt)
 have nt:∀b u,f b=some u->b≠D+1:=λb u q z=>by
  have k0:=c.free;rw[z]at q;rw[show f (D+1)=none from k0]at q;cases q
 have un:Un (Yw X.stack) fp H2 f s2.heap h:=⟨λb o e n i B=>j.extBut b o (L b o e) (c.base.keep b o e n i B),
  λb o e n i B=>let ⟨sl,q⟩:=c.base.slot b o e n i B;⟨sl,j.extBut b _ (L b o e) q⟩,c.base.free,λb o e B=>let ⟨o',q⟩:=c.base.there b o e B;⟨o',j.extBut b _ (L b o e) q⟩,c.base.tups,c.base.frzs,c.base.tbls⟩
 have hok:Yo X.prog X.w f h:=λb u q=>(c.hok b u q).stay (λj0 v E e=>j.extBut j0 v (by
  rcases E with rfl|E;exact nt _ _ q;exact nt _ _ E) e) (λ_ z=>z) λ_ _ z=>z
 have I8:Zb X pins Q f {I with heap:=h}:=I2.call' (s':={I with heap:=h}) c.os un hok c.bare λb i=>let ⟨_,k1,_,k3,k4,k5⟩:=f2 b i;⟨k3,k1,k4,k5⟩;have I9:Zb X pins Q (Za f D (.lst i0)) {I with heap:=h}:=I8.trackS S T R hz (λp hp=>Sg (pl p hp)) ⟨e0,its,Y,va,T⟩;exact⟨.ref D,_,I9,R,qn D S⟩
def UM{a:Addr}{xs:List V}{g:TG}{tt:TT}{J:TE}{M:St}{Q:VK}(j:Nat->List V->St->Hp->Prop)(O:j 0 [] M H)(hz:xs.length<=sizeLine)(P:∀i c u H,i<=xs.length->j i c u H->Zg K H a xs)
  (T:∀i x c u H,c.length<=i->xs[i]? = some x->j i c u H->g x u H λf E=>tt f E λb C=>if b=true then J f C λy G=>(c++[y]).length<=i+1/\j (i+1) (c++[y]) f G else c.length<=i+1/\j (i+1) c f C)
  (hd:∀c u H,c.length<=xs.length->j xs.length c u H->Ut Q c H) :
  ∃W:Nat->Nat->List V->St->Hp->Prop,(∃m,W 0 m [] M H)/\∀i m c v H,W i m c v H ->
   ((Qb K a).stop i H/\Ut Q c H) \/
   ((Qb K a).go i H/\c.length<sizeLine/\∃N:List V->St->Hp->Prop,(∀B D h,N B D h->∃I,I<m/\W (i+1) I B D h)/\∀x h,(Qb K a).yld i H x h->g x v h λf E=>tt f E λb C=>if b=true then J f C λy G=>N (c++[y]) f G else N c f C):=by
 erw[⟨λi m c u H=>m=xs.length - i/\i<=xs.length/\c.length<=i/\j i c u H,⟨xs.length,by simp,Sl _,Sl _,O⟩,?_⟩];rintro i m c v H ⟨rfl,S,ha,p⟩;have q:=P i c v H S p;by_cases L:i<xs.length;erw[.inr ⟨⟨xs,xs[i],q,by simp[L]⟩,(),λB D h=>B.length<=i+1/\j (i+1) B D h,λB D h z=>⟨xs.length - (i+1),(),R,L,z.1,z.2⟩,λx h y=>?_⟩];ext⟨e,y⟩ y;subst e;exact T i x c v _ ha (y xs q) p;have e:i=xs.length:=by lia
 subst e;exact .inl ⟨⟨xs,q,Sh _⟩,hd c v H ha p⟩
def Nd{lo:Int}{n:Nat}{g:TG}{tt:TT}{J:TE}{L:St}{Q:VK}(j:Nat->List V->St->Hp->Prop)(M:j 0 [] L H)(hz:n<=sizeLine)
  (O:∀i c q H,i<n->c.length<=i->j i c q H->g (.int (lo+i)) q H λf E=>tt f E λb v=>if b=true then J f v λy G=>(c++[y]).length<=i+1/\j (i+1) (c++[y]) f G else c.length<=i+1/\j (i+1) c f v)
  (hd:∀c q H,c.length<=n->j n c q H->Ut Q c H) :
  ∃W:Nat->Nat->List V->St->Hp->Prop,(∃m,W 0 m [] L H)/\∀i m c B H,W i m c B H ->
   ((Up lo n).stop i H/\Ut Q c H) \/
   ((Up lo n).go i H/\c.length<sizeLine/\∃N:List V->St->Hp->Prop,(∀u C h,N u C h->∃I,I<m/\W (i+1) I u C h)/\∀x h,(Up lo n).yld i H x h->g x B h λf E=>tt f E λb v=>if b=true then J f v λy G=>N (c++[y]) f G else N c f v):=by
 erw[⟨λi m c q H=>m=n - i/\i<=n/\c.length<=i/\j i c q H,⟨n,by simp,Sl _,Sl _,M⟩,?_⟩];rintro i m c B H ⟨rfl,P,ha,p⟩;by_cases D:i<n;erw[.inr ⟨D,(),λu C h=>u.length<=i+1/\j (i+1) u C h,λu C h z=>⟨n - (i+1),(),R,D,z.1,z.2⟩,λx h y=>?_⟩];ext⟨e,y⟩ y;subst e y;exact O i c B _ D ha p;have e:i=n:=by lia
 subst e;exact .inl ⟨Sh _,hd c B H ha p⟩
mutual
inductive DV(K:OA)(H:Hp):V->PyData->Prop
 |non:DV K H .non .none
 |bl (b:Bool):DV K H (.bl b) (.bool b)
 |int (i:Int):DV K H (.int i) (.int i)
 |str (x:Str) (h:(PyData.str x).canLay0=true):DV K H (.str x) (.str x)
 |lst {a:Addr} {xs:List V} {ds:List PyData} (h:Zg K H a xs) (r:Xd K H xs ds):DV K H (.ref a) (.list ds)
 |tup {a:Addr} {xs:List V} {ds:List PyData} (h:Zl K H a xs) (r:Xd K H xs ds):DV K H (.ref a) (.tuple ds)
inductive Xd(K:OA)(H:Hp):List V->List PyData->Prop
 |nil:Xd K H [] []
 |cons {x:V} {xs:List V} {d:PyData} {ds:List PyData} (h:DV K H x d) (r:Xd K H xs ds):Xd K H (x::xs) (d::ds)
end
mutual
theorem DV.can:∀{x:V} {d:PyData},DV K H x d->d.canLay0=true
 |_,_,.non=>by simp only[PyData.canLay0]
 |_,_,.bl _=>by simp only[PyData.canLay0]
 |_,_,.int _=>by simp only[PyData.canLay0]
 |_,_,.str _ h=>h
 |_,_,.lst _ r=>by simp only[PyData.canLay0];exact Xd.can r
 |_,_,.tup _ r=>by simp only[PyData.canLay0];exact Xd.can r
theorem Xd.can:∀{xs:List V} {ds:List PyData},Xd K H xs ds->PyData.canLayAll0 ds=true
 |_,_,.nil=>by simp only[PyData.canLayAll0]
 |_,_,.cons h r=>by simp only[PyData.canLayAll0,Bool.and_eq_true];exact⟨DV.can h,Xd.can r⟩
end
def Zl.sameT{c:Hp}{a:Addr}{xs:List V}(e:Zd H c)(h:Zl K H a xs):Zl K c a xs:=by
 rcases h with(h|⟨o,h⟩)|h;exact .inl (.inl (e _ _ h));exact .inl (.inr ⟨o,e _ _ h⟩);exact .inr h
mutual
theorem DV.same{c:Hp}(s:Zd H c):∀{x:V} {d:PyData},DV K H x d->DV K c x d
 |_,_,.non=>.non
 |_,_,.bl b=>.bl b
 |_,_,.int i=>.int i
 |_,_,.str x h=>.str x h
 |_,_,.lst h r=>.lst (s.seq h) (Xd.same s r)
 |_,_,.tup h r=>.tup (Zl.sameT s h) (Xd.same s r)
theorem Xd.same{c:Hp}(s:Zd H c):∀{xs:List V} {ds:List PyData},Xd K H xs ds->Xd K c xs ds
 |_,_,.nil=>.nil
 |_,_,.cons h r=>.cons (DV.same s h) (Xd.same s r)
end
section
variable{σ:St}
mutual
theorem DV.reads(I:Zb X pins σ H s):∀{x:V} {d:PyData} {u:Value},DV X.K H x d->ZG x u->∃y,Reads s.heap u d y
 |_,_,_,.non,r=>by cases r;exact⟨_,.none⟩
 |_,_,_,.bl b,r=>by cases r;exact⟨_,.bool b⟩
 |_,_,_,.int i,r=>by ext⟨t,rfl⟩ r;exact⟨_,.int i t⟩
 |_,_,_,.str x _,r=>by ext⟨t,rfl⟩ r;exact⟨_,.str x t⟩
 |_,_,_,.lst h j,r=>by
  cases r;obtain⟨its,v,f,_⟩:=I.list h;ext⟨o,n,e,c,_,hd⟩ f;obtain⟨y,q⟩:=Xd.reads I j v;exact⟨_,.list e c hd (by simpa using q)⟩
 |_,_,_,.tup h j,r=>by
  cases r;obtain⟨its,v,f,_⟩:=I.tuple h;ext⟨o,e,c,n,hd⟩ f;obtain⟨y,q⟩:=Xd.reads I j v;exact⟨_,.tuple e c hd (by simpa using q)⟩
theorem Xd.reads(I:Zb X pins σ H s):∀{xs:List V} {ds:List PyData} {us:OE},Xd X.K H xs ds->ZB xs us->∃c,ReadsAll s.heap us ds c
 |_,_,_,.nil,.nil=>⟨_,.nil⟩
 |_,_,_,.cons h r,.cons v vs=>by
  obtain⟨c,e⟩:=DV.reads I h v;obtain⟨bs,f⟩:=Xd.reads I r vs;exact⟨_,.cons e f⟩
end
end
inductive wR(K:OA)(neg:Bool)(x:V)(y:V)(H:Hp)(Q:VK):Prop|mk dx dy (_:DV K H x dx) (_:DV K H y dy) (_:dx.depth<=60) (_:Q (.bl (if neg then !PyData.eqv dx dy else PyData.eqv dx dy)) H)
def Ze3(E:X.A.units+64<cLine):YK X (compareOp .Eq) (wR X.K false):=by
 intro pins s B H x y v u Q I j f h;ext⟨D,C,e,c,hd,q⟩ h;obtain⟨G,r1⟩:=e.reads I j;obtain⟨bs,i⟩:=c.reads I f;exact SeqAt.compareEq_reads r1 i e.can c.can () ⟨.bl _,H,I,R,q⟩
def Nf(E:X.A.units+64<cLine):YK X (compareOp .NotEq) (wR X.K true):=by
 intro pins s B H x y v u Q I j f h;ext⟨D,C,e,c,hd,q⟩ h;obtain⟨G,r1⟩:=e.reads I j;obtain⟨bs,i⟩:=c.reads I f;exact SeqAt.compareNe_reads r1 i e.can c.can () ⟨.bl _,H,I,R,q⟩
section
variable{x:Str}
def YR(c:Gl X x)(hm:∃t,X.mg x=some (.int k t))(hd:(x==("__debug__" : Str))=false:=by lia):PE X (.Name x pos) (tC (.int k)):=by
 ext⟨t,hm⟩ hm;exact yI c hm ⟨t,R⟩ hd
def Ze4:TE:=λ_ H Q=>∀p,H p=none->Q (.ref p) (Za H p (.dK []))
def UN:PE X (.Dict [] [] pos) Ze4:=by
 intro pins s c H Q I h;have lt:sysModules<s.heap.objs.size:=Nat.lt_trans (show sysModules<mainGlobals by lia) (I.mod.glob.keeps I.bk).lt;have new:Ym X.prog X.w (Za H s.heap.objs.size (.dK [])) (s.heap.push {cls:=.type "dict",data:=.dict #[]}) s.heap.objs.size (.dK []) :=
  ⟨Sl _,beq_eq_false_iff_ne.mpr (Ne.symm (Sg lt)),[],.nil,Heap.DictOf.new s.heap⟩
 exact wpAny_Dict_empty ⟨.ref s.heap.objs.size,_,I.laid (t':=s.toks) (λ_ _ q=>Sc _ q) (Sh _) new,R,h _ (I.hok.fresh (Sh _))⟩
def A4(x:Str):[x].Nodup:=by simp
def Xe:Expr->Bool
 |.Starred _ _=>false
 |_=>true
def Ng(h:Xe e=true):starEach (e::c) env=(false,eval e env)::starEach c env:=by
 cases e<;>first|rfl|cases h
def YH(ha:PE X e f)(i:PA X c t)(h:Xe e=true:=by rfl):PA X (e::c) (Yj f t):=xD ha i (Ng h)
end
end L2
namespace K1
open PySem L2
def F3:V->Int->Int->Bool
 |.int i,lo,hi=>decide (lo<=i/\i<=hi)
 |_,_,_=>false
inductive Kd(H:Hp):V->String->Prop where
 |non:Kd H .non "NoneType"
 |bl (b:Bool):Kd H (.bl b) "bool"
 |int (i:Int):Kd H (.int i) "int"
 |str (x:Str):Kd H (.str x) "str"
 |lst {a:Addr} {xs:List V} (e:H a=some (.lst xs)):Kd H (.ref a) "list"
 |tup {a:Addr} {xs:List V} (e:H a=some (.tup xs)):Kd H (.ref a) "tuple"
 |dK {a:Addr} {kvs:List (Zn×V)} (e:H a=some (.dK kvs)):Kd H (.ref a) "dict"
def Kd.ty(k:Kd H v T):XW K H v (.type T):=by
 cases k with
 |non=>exact .non
 |bl b=>exact .bl b
 |int i=>exact .int i
 |str x=>exact .str x
 |lst e=>exact .lst e
 |tup e=>exact .tup e
 |dK e=>exact .dK e
def Ze5(k:Kd H v T):W.kitOne K (.type T) (.type "int")=some (decide (T="int" \/ T="bool")):=by
 cases k<;>rfl
def wS(k:Kd H v T):W.kitOne K (.type T) (.type "bool")=some (decide (T="bool")):=by
 cases k<;>rfl
def wT(k:Kd H v T):W.kitOne K (.type T) (.type "str")=some (decide (T="str")):=by
 cases k<;>rfl
def Z3{c A B:Prop}[Decidable c](h:c)(a:A):if c then A else B:=by rwa[SY h]
def Zq{c A B:Prop}[Decidable c](h:¬ c)(b:B):if c then A else B:=by rwa[SX h]
def Zx(h:H p=none)(o:HO):Zd H (Za H p o):=λb u q=>by rwa[Ze (Zu q h)]
def Ze6{e:Type}(g:e->Bool)(l:List e):(l.map λc=>V.bl (g c))=(l.map g).map V.bl:=by rw[Og];rfl
def Ze7:V->Bool
 |.int _=>true
 |_=>false
structure Zmj(tp:Addr)(k:Int)(H H':Hp):Prop where
 keep:∀b o,b≠tp->H b=some o->H' b=some o
 tape:H' tp=some (.lst [.int k])
def wU(c:0<=y)(h1:y<18446744073709551616):KJ x y:=.inr ⟨(),()⟩
def Nh{p:V->Prop}{xs:List V}{d:Int}(h:∀v∈xs,p v)(e:0<=d)(h1:d<xs.length):∃v,YP xs d=some v/\p v:=by
 have c:d.toNat<xs.length:=by lia
 erw[⟨xs[d.toNat],?_,h _ (Ol c)⟩];have q:YP xs ((d.toNat:Nat):Int)=some xs[d.toNat]:=XZ (Sv c);rw[show((d.toNat:Nat):Int)=d by lia]at q;exact q
end K1
namespace K1
open PySem L2
def wV(z:Str):z.cps.toList.length=z.length:=by simp[Str.length]
def Ze8(z:Str)(j:Nat)(h:j<=z.length):Txt.slice z none (some (j:Int))=⟨(z.cps.toList.take j).toArray⟩:=by
 have e:=StrLaws.sliceText_to (x:=z) (j:=(j:Int)) ⟨(),by rw[wV];lia⟩;rw[List.drop_zero,show((j:Int) - 0).toNat=j by lia]at e;exact e
def Ze9(z:Str)(j:Nat)(h:j<=z.length):Txt.slice z (some (j:Int)) none=⟨(z.cps.toList.drop j).toArray⟩:=by
 have e:=StrLaws.sliceText_from (x:=z) (i:=(j:Int)) ⟨(),by rw[wV];lia⟩;rw[show((j:Int)).toNat=j by lia,Oa (by rw[SD];lia)]at e;exact e
end K1
namespace L2
open PySem PySem.Spec PyProof.Rows
section
variable{m:Str}{o e:Expr}{es:OG}{ta:TE}{t:TA}{apos:Pos}
inductive wW(X:Cx)(m:Str)(t:TA)(σ:St)(Q:VK)(x:V)(H1:Hp):Prop|mk (a C dx:Addr) (fs:List (Str×V)) (f:Addr) (fd:OM) (k:Nat) (ps:OF) (sp:Sp) (CX:XX) (E:XK) (_:x=.ref a) (_:H1 a=some (.ins C dx fs)) (_:fs.lookup m=none) (_:YG X.K C) (_:Yx X.K C m f) (_:Zo X.prog X.w X.K X.mg X.base CX k f fd ps sp) (_:Yh k X.A) (_:XY X.K fd ps []) (_:WK CX X E) (_:t σ H1 λvs H2=>sp (.ref a::vs) H2 Q E)
def wX(X:Cx)(m:Str)(ta:TE)(t:TA):TE:=λc H Q=>ta c H λx f=>wW X m t c Q x f
def UO(M:PE X o ta)(ha:PA X (e::es) t)
  (L:starEach (e::es) X.env=(false,eval e X.env)::starEach es X.env:=by rfl) (J:(backTo pos (starEach es X.env)).any (·.1)=false:=by rfl)
  (T:eval (.Call (.Attribute o m apos) (e::es) [] pos) X.env=(do
   let y <-eval o X.env
   standAt apos.atName
   let (f,first) <-holding [y] (getMethod y m pl)
   callWith pos f first (backTo pos (starEach (e::es) X.env)) (backToKw pos (keywordEach [] X.env))):=by rfl) :
  PE X (.Call (.Attribute o m apos) (e::es) [] pos) (wX X m ta t):=by
 intro pins s i H Q I h;erw[W.methodCall_KW (pl:=pl) (Zs (M pins s i H _ I h) λu P z=>?_) T];ext⟨x,O,v,S,a,C,dx,fs,f,fd,k,Y,sp,Z,a0,ex,D,l,c,hm,F,U,B,E,q⟩ z;subst ex;obtain rfl:u=Value.ref a:=S;erw[E6 v D c hm l ?_];erw[W.callWith_K (first:=[.ref a]) (h₀:=X.base) I.ok.mod.kin hm.kp (Zs (ha pos pins P i O _ v q) λus s2 ⟨vs,H2,j,r,G⟩=>⟨j.kIn,?_⟩) L J];exact QE (us:=.ref a::us) (vs:=.ref a::vs) (dvs:=[]) F U B .nil E j (.cons R r) (by rwa[Oe])
def F4(G:PE X o ta)
  (L:eval (.Call (.Attribute o m apos) [] [] pos) X.env=(do
   let j <-eval o X.env
   standAt apos.atName
   let (f,first) <-holding [j] (getMethod j m pl)
   callWith pos f first (backTo pos (starEach [] X.env)) (backToKw pos (keywordEach [] X.env))):=by rfl) :
  PE X (.Call (.Attribute o m apos) [] [] pos) (wX X m ta Y5):=by
 intro pins s D H Q I h;erw[W.methodCall_KW (pl:=pl) (Zs (G pins s D H _ I h) λu U z=>?_) L];ext⟨x,T,i,J,a,C,Y,fs,f,S,k,O,sp,P,E,ex,y,l,c,hm,F,M,v,B,q⟩ z;subst ex;obtain rfl:u=Value.ref a:=J;erw[E6 i y c hm l ?_];exact W.callWith_K0 (first:=[.ref a]) i.kIn hm.kp (QE (us:=[.ref a]) (vs:=[.ref a]) (dvs:=[]) F M v .nil B i (.cons R .nil) q)
structure Ni(K:OA)(C:Addr):Prop where
 makes:W.makesIn K C=true
 init:W.findIn K (.ref C) "__init__"=some (some (.builtin "object.__init__"))
 kp:W.keepIn K (.ref C)=true
def Zfa(C:Addr):TE:=λ_ H Q=>∀x c,H x=none->H c=none->c≠x->Q (.ref x) (Za (Za H c (.own x)) x (.ins C c []))
def Nj(M:Ni X.K C)(i:Gl X x)(hm:X.mg x=some (.ref C))(c:(x==("__debug__" : Str))=false:=by lia):PE X (.Call (.Name x p) [] [] pos) (Zfa C):=by
 intro pins s u H Q I h;erw[wpAny_Call_Name_kw (UD I i hm ?_ c)];erw[W.callWith_K0 I.kIn M.kp ?_];have q:=h (s.heap.objs.size+1) s.heap.objs.size (I.hok.fresh (Nat.le_succ _)) (I.hok.fresh (Sh _)) (Sg (Sn _));have f:=Zb.made (C:=C) I;have Y:=W.makes_of (M:=model X.prog X.w) I.kIn M.makes;erw[wpAny_call (ZdY (C:=C) I.kIn M.makes M.init (λself=>W.Looks.of_pure (W.oi_bind self)) ?_)];have g1:((s.heap.push W.emptyDict).push (W.instObj C s.heap.objs.size)).get? (s.heap.objs.size+1)=some (W.instObj C s.heap.objs.size):=by
  have:=Se (s.heap.push W.emptyDict) (o:=W.instObj C s.heap.objs.size) R;rw[Heap.size_push]at this;exact this
 have j:W.Looks (model X.prog X.w) ((s.heap.push W.emptyDict).push (W.instObj C s.heap.objs.size)) (typeOf (.ref (s.heap.objs.size+1))) (.ref C):=(W.Looks.ld g1).andThen .now;have t2:W.Looks (model X.prog X.w) ((s.heap.push W.emptyDict).push (W.instObj C s.heap.objs.size)) (isInstance (.ref (s.heap.objs.size+1)) (.type "object")) true :=
  j.andThen (Y.top.keeps λb o e=>Sc _ (Sc _ e))
 erw[codeAny_call_builtin W.oi_plain W.entry_oi ?_];erw[@W.check_slot (model X.prog X.w) _ _ _ "object.__init__" "object" "__init__" (.ref (s.heap.objs.size+1)) [] [] _ W.oi_kind W.oi_split t2 (W.oi_args _) ?_];rw[W.oi_run];exact Sb (And.intro rfl ⟨.ref _,_,f,rfl,q⟩)
end
theorem Nk(ns:OH):∀k,k<=ns.length->preSum (λi=>ns.getD i 0) k=(ns.take k).sum
 |0,_=>by simp[preSum]
 |k+1,h=>by
  have c:=Nk ns k ();show preSum (λi=>ns.getD i 0) k+ns.getD k 0=_;rw[c,Ob,List.sum_append];have e:k<ns.length:=by lia
  rw[List.getD_eq_getElem?_getD,Sv e];simp
def Zfb(T:X.calm=true):YT X (.builtin "sum") (λxs H Q=>∃(p:Addr) (ns:OH),xs=[.ref p]/\Zg X.K H p (ns.map V.int)/\(∀n∈ns,0<=n/\n<=1000000)/\ns.length<=1000/\Q (.int ns.sum) H):=by
 intro pins s σ H xs us Q I r h;ext⟨p,ns,rfl,P,y,hl,q⟩ h;obtain⟨c0,rfl,rx⟩:=XF r;cases rx;obtain⟨its,E,u,hz⟩:=I.list P;have hlen:=E.length;obtain⟨o,n,J,_⟩:=id u;have b0:p≠s.heap.objs.size:=Sg (Sf J);have bound:∀k,k<=ns.length->0<=(ns.take k).sum/\(ns.take k).sum<=1000000*k:=by
  intro k;induction k with
  |zero=>intro _;simp
  |succ k ih =>
   intro D;have L:k<ns.length:=by lia
   have:=ih ();have b:=y ns[k] (Ol L);rw[Ob,List.sum_append,Sv L];simp only[Option.toList_some,List.sum_cons,List.sum_nil];lia
 erw[call_sum_walk (wpAny_pyIter_list u.isList ?_)];erw[⟨s.heap.objs.size,[s.heap.objs.size,p],[s.heap.objs.size],its.toArray.size,_,_,λi=>ns.getD i 0,R,Walks.list (A:=X.A.in1) (I.ok.hd T) _ _ b0 its.toArray,⟨⟨_,Se _ R,R,R⟩,?_⟩,?_,?_,?_,λS tk t' D=>?_⟩];ext⟨U,v,Y⟩ u.isList;exact⟨U,Sc _ v,Y⟩;intro b f;show b<(s.heap.push _).objs.size;rw[Heap.size_push];rcases SH.mp f with rfl|f;exact Sn _;rw[SG.mp f];exact So (Sf J);intro i a0 Z;have M:its[i]? = some a0:=by simpa using Z
 have G:i<ns.length:=by
  have:=(Su.mp M).1;rw[<-hlen,Sx]at this;exact this
 obtain⟨w,c,v⟩:=E.get (i:=i) (x:=.int ns[i]) (by rw[Oc,Sv G];rfl);rw[M]at c;cases c;ext⟨t,rfl⟩ v;exact⟨t,by dsimp only;rw[List.getD_eq_getElem?_getD,Sv G];rfl⟩;intro j C;have B:j<ns.length:=by
  rw[SQ,<-hlen,Sx]at C;exact C
 have b1:=y ns[j] (Ol B);have b2:=bound (j+1) ();have c:ns.getD j 0=ns[j]:=by rw[List.getD_eq_getElem?_getD,Sv B];rfl
 rw[Nk ns (j+1) ()];dsimp only;rw[c];have b3:(1000000:Int)*((j+1:Nat):Int)<=1000000000:=by lia
 unfold InLong
 first|omega
 have O:∀b o,s.heap.get? b=some o->S.get? b=some o:=λb o e=>D b o (λz=>by
  have c:=Sf e;rw[SG.mp z]at c;exact Ov c (Sm _)) (Sc _ e)
 have e:preSum (λi=>ns.getD i 0) its.toArray.size=ns.sum:=by
  rw[SQ,<-hlen,Sx,Nk ns _ (Sh _),List.take_length]
 rw[e];exact⟨.int _,H,I.kept (t':=tk) O,⟨_,R⟩,q⟩
structure Zmk(K:OA)(x qual:Str)(st:Stmt)(f:Addr)(fd:OM)(D:Addr)(ds:OE):Prop where
 ex:∃(oc:Value) (od:OI) (kV doc pm:Value) (an:OI) (cdv ct:Value) (osl:OC),
  fd=W.fnOf x qual (QG st) (Va st) (Zz st) (.ref D) kV doc pm an cdv ct/\K.lookup f=some ⟨oc,od,.func fd,osl⟩/\W.codeIn K cdv qual=true
 dt:∃(o:Obj) (n:Nat),K.lookup D=some o/\o.data=.seq ds.toArray n
 kp:W.keepIn K (.ref f)=true
end L2
namespace K1
open PySem L2
inductive RT where
 |always
 |week (b:Nat)
 |span (a b:Nat) (r:RT)
 |each (n:Nat) (ss:OJ)
 |either (r s:RT)
 |both (r s:RT)
 |but (ds:OJ) (r:RT)
def RT.weight:RT->Nat
 |.always|.week _|.each _ _=>1
 |.span _ _ r|.but _ r=>1+r.weight
 |.either r s|.both r s=>1+(r.weight+s.weight)
def RT.depth:RT->Nat
 |.always|.week _|.each _ _=>1
 |.span _ _ r|.but _ r=>1+r.depth
 |.either r s|.both r s=>1+max r.depth s.depth
def RT.runs:RT->Nat->Bool
 |.always,_=>true
 |.week b,d=>b/2 ^ (d%7)%2==1
 |.span a b r,d=>decide (a<=d) && decide (d<=b) && r.runs d
 |.each n c,d=>c.contains (d%n)
 |.either r s,d=>r.runs d || s.runs d
 |.both r s,d=>r.runs d && s.runs d
 |.but ds r,d=>r.runs d != ds.contains d
theorem RT.depth_pos:∀r:RT,1<=r.depth
 |.always|.week _|.each _ _=>Sh 1
 |.span _ _ r|.but _ r=>Op 1 _
 |.either r s|.both r s=>Op 1 _
structure RC where
 rule:Addr
 week:Addr
 span:Addr
 each:Addr
 either:Addr
 both:Addr
 but:Addr
abbrev YB(l:OJ):List V:=l.map λn=>V.int (n:Nat)
inductive ZT(c:RC)(K:OA)(H:Hp):Addr->RT->Prop
 |always {a dx:Addr} (h:H a=some (.ins c.rule dx [])):ZT c K H a .always
 |week {a dx:Addr} {b:Nat} (h:H a=some (.ins c.week dx [("bits",.int b)])) (hb:b<=127):ZT c K H a (.week b)
 |span {a dx i:Addr} {x y:Nat} {r:RT} (h:H a=some (.ins c.span dx [("first",.int x),("last",.int y),("inner",.ref i)])) (hx:x<=y) (hy:y<=9999) (hi:ZT c K H i r):ZT c K H a (.span x y r)
 |each {a dx p:Addr} {n:Nat} {ss:OJ} (h:H a=some (.ins c.each dx [("length",.int n),("starts",.ref p)])) (hn:1<=n) (hn2:n<=28) (hp:Zl K H p (YB ss)):ZT c K H a (.each n ss)
 |either {a dx i j:Addr} {r s:RT} (h:H a=some (.ins c.either dx [("one",.ref i),("other",.ref j)])) (hi:ZT c K H i r) (hj:ZT c K H j s):ZT c K H a (.either r s)
 |both {a dx i j:Addr} {r s:RT} (h:H a=some (.ins c.both dx [("one",.ref i),("other",.ref j)])) (hi:ZT c K H i r) (hj:ZT c K H j s):ZT c K H a (.both r s)
 |but {a dx p i:Addr} {ds:OJ} {r:RT} (h:H a=some (.ins c.but dx [("days",.ref p),("inner",.ref i)])) (hp:Zl K H p (YB ds)) (hi:ZT c K H i r):ZT c K H a (.but ds r)
def ZT.same(s:Zd H q)(h:ZT c K H a r):ZT c K q a r:=by
 induction h with
 |always h=>exact .always (s _ _ h)
 |week h u=>exact .week (s _ _ h) u
 |span h B v _ j=>exact .span (s _ _ h) B v j
 |each h hn y f=>exact .each (s _ _ h) hn y (Zl.sameT s f)
 |either h _ _ i e=>exact .either (s _ _ h) i e
 |both h _ _ i e=>exact .both (s _ _ h) i e
 |but h f _ j=>exact .but (s _ _ h) (Zl.sameT s f) j
theorem F5(d:Nat):∀l:List Nat,Qd (.int d) (YB l)=l.contains d
 |[]=>rfl
 |x::r=>by
  have c:=F5 d r;show(W8 (.int (x:Int)) (.int (d:Int)) || Qd (.int (d:Int)) (YB r))=_;rw[c,List.contains_cons];congr 1;show((x:Int)==(d:Int))=(d==x);rw[Bool.eq_iff_iff,beq_iff_eq,beq_iff_eq];lia
def K5(l:OJ):(YB l).all UJ=true:=by
 rw[List.all_map];exact List.all_eq_true.mpr λ_ _=>R
def Zfc(b k:Nat):(Builtin.bitAnd ((b:Int)/2 ^ k) 1==1)=(b/2 ^ k%2==1):=by
 have e:(b:Int)/2 ^ k=((b/2 ^ k:Nat):Int):=by
  rw[S0,Int.natCast_pow];rfl
 rw[e,PyProof.Rows.bitAnd_pp (Int.natCast_nonneg _) ()];have c:(((b/2 ^ k:Nat):Int).toNat &&& (1:Int).toNat:Nat)=b/2 ^ k%2:=by
  rw[Int.toNat_natCast];exact Nat.and_one_is_mod _
 rw[c,Bool.eq_iff_iff,beq_iff_eq,beq_iff_eq];lia
end K1
namespace L2
open PySem PySem.Spec PyProof.Rows
def UP:Option Int->Int->Int
 |none,y=>y
 |some x,y=>if y>x then y else x
def WN:Option Int->List Int->Option Int
 |b,[]=>b
 |b,y::r=>WN (some (UP b y)) r
def K6(S:Addr)(h:Heap)(b:Option Int):Prop:=∃(e:Array Value) (c:Nat),h.get? S=some {cls:=.type "list",dict:=none,data:=.seq e c,slots:=#[]}/\match b with
 |none=>e=#[]
 |some x=>∃t,e=#[.int x t,.int x t]
def wY(d:Value)(b:Option Int)(v:Value):Prop:=match b with
 |none=>v=d
 |some x=>∃t,v=.int x t
def Zfd{R:Result->Shared->Prop}{I:Addr}{fp wr:OK}{n:Nat}{P:Nat->Value->Prop}{St:Nat->Heap->Prop}{nm:Str}{d:Value}{g:Nat->Int}
  (W:Walks prog w A.in1 I fp wr n P St) (hg:∀i v,P i v->∃t,v=.int (g i) t) {S:Addr} (out:S∉fp) :
  ∀(l:OH) (j:Nat) (s:Shared) (b:Option Int),j+l.length=n->(∀i y,l[i]? = some y->y=g (j+i))->St j s.heap->K6 S s.heap b ->
  (∀v h' tk,wY d (WN b l) v->(∀a o,a∉wr->a≠S->s.heap.get? a=some o->h'.get? a=some o)->R (.ok (.ret v)) {s with heap:=h',toks:=tk}) ->
  codeAny (model prog w) A (.builtin "max.loop" ⟨[.ref I,.none,.ref S],[(nm,d)]⟩) R s:=by
 have O:S∉wr:=λz=>out (W.sub _ z);have H:(toString "max" ++ toString ".loop" : String)="max.loop" := by lia
 intro l;induction l with
 |nil =>
  intro j s b C E st m q;obtain rfl:j=n:=C;obtain⟨vs,c0,e,z⟩:=id m;apply codeAny_builtin PySem.F.entry_max_loop;rw[Around.under_plainId PySem.F.plain_max_loop];apply Sa;apply wpAny_seqItems e rfl;apply Sa;apply wpAny_tryCatch;apply W.done s _ _ st;intro h' tk k;cases b with
  |none =>
   subst z;apply Sa;apply wpAny_rule;apply Sb;exact q d h' tk rfl λa o f _ B=>k a o f B
  |some x =>
   ext⟨t,rfl⟩ z;apply Sa;erw[wpAny_updateSeq (k S _ O e) rfl ?_];apply Sa;apply wpAny_letGo;apply Sb;exact q _ _ tk ⟨t,rfl⟩ λa o f c B=>(Heap.get?_update_other _ _ (Ne.symm c)).trans (k a o f B)
 |cons y l ih =>
  intro j s b C E st m q;obtain⟨vs,c0,e,z⟩:=id m;have T:j<n:=by rw[<-C,SA];lia
  have G:y=g j:=E 0 y rfl;apply codeAny_builtin PySem.F.entry_max_loop;rw[Around.under_plainId PySem.F.plain_max_loop];apply Sa;apply wpAny_seqItems e rfl;apply Sa;apply wpAny_tryCatch;apply W.item j s _ _ T st;intro v h' tk pv X k;obtain⟨h,rfl⟩:=hg j v pv;have u:=k S _ O e;have next:∀(c:Heap),K6 S c (some (UP b y))->(∀a o,a≠S->h'.get? a=some o->c.get? a=some o)->codeAny (model prog w) A (.builtin "max.loop" ⟨[.ref I,.none,.ref S],[(nm,d)]⟩) R {s with heap:=c,toks:=tk}:=λc Q L =>
   ih (j+1) {s with heap:=c,toks:=tk} _ (by rw[<-C,SA];lia) (λi U Z=>(E (i+1) U Z).trans (by congr 1;lia))
    (W.frame _ _ _ X λa ha o ho=>L a o (λz=>out (z ▸ ha)) ho) Q λv2 B a0 r Y=>q v2 B a0 r λa o f M b0=>Y a o f M (L a o M (k a o f b0))
  cases b with
  |none =>
   subst z;show wpAny _ _ (updateSeq S (λ_=>#[.int (g j) h,.int (g j) h]) >>= _) _ _ _;apply Sa;erw[wpAny_updateSeq u rfl ?_];rw[H];apply Sb;erw[⟨plainId_quiet PySem.F.plain_max_loop _,next _ ⟨_,_,Heap.get?_update_self _ u rfl,h,?_⟩ λa o f c=>(Heap.get?_update_other _ _ (Ne.symm f)).trans c⟩];rw[G];rfl
  |some x =>
   ext⟨t,rfl⟩ z;show wpAny _ _ (tryCatch (holding [.int (g j) h,.int (g j) h] (richCompare .Gt (.int (g j) h) (.int x t) >>= _)) _ >>= _) _ _ _;apply Sa;apply wpAny_tryCatch;apply wpAny_holding;apply Sa;erw[CmpOf.ints_gt (P:=λi v=>∃t,v=.int (if i=0 then g j else x) t) (λi=>if i=0 then g j else x) (λ_ _ z=>z) 0 1 _ _ _ _ _ ⟨_,rfl⟩ ⟨_,rfl⟩ ?_];apply Sa;apply wpAny_holding;apply wpAny_truthy_bool;apply Sa;apply wpAny_letGo;apply Sb;by_cases D:g j>x;rw[SY (show(λi J:Nat=>decide ((if i=0 then g j else x)>if J=0 then g j else x)) 0 1=true from SS D)];apply Sa;erw[wpAny_updateSeq u rfl ?_];apply Sa;apply wpAny_letGo;rw[H];apply Sb;erw[⟨plainId_quiet PySem.F.plain_max_loop _,next _ ⟨_,_,Heap.get?_update_self _ u rfl,h,?_⟩ λa o f c=>(Heap.get?_update_other _ _ (Ne.symm f)).trans c⟩];rw[show UP (some x) y=g j by rw[G];exact SY D];rw[SX (show ¬(λi J:Nat=>decide ((if i=0 then g j else x)>if J=0 then g j else x)) 0 1=true from λz=>D (SV z))];apply Sa;apply wpAny_letGo;rw[H];apply Sb;erw[⟨plainId_quiet PySem.F.plain_max_loop _,next _ ⟨_,_,u,t,?_⟩ λa o _ c=>c⟩];rw[show UP (some x) y=x by rw[G];exact SX D]
def Zfe(a v:Value):argsOk "max" ⟨[a],[(ON "default",v)]⟩:=by unfold argsOk;kernel_rfl
def Zff{D:St}{Q:VK}{p:Addr}{ns:OH}{d:Int}{f:Tok}(O:X.calm=true)(I:Zb X pins D H s)(L:Zg X.K H p (ns.map V.int))(q:Q (.int ((WN none ns).getD d)) H) :
  wpAny (model X.prog X.w) X.A (call (.builtin "max") [.ref p] [(ON "default",.int d f)]) (EP X pins D Q) X.xe s:=by
 obtain⟨its,B,h,Z⟩:=I.list L;have hlen:=B.length;obtain⟨o,n,E,_⟩:=id h;have Y:p≠s.heap.objs.size:=Sg (Sf E);have S:(toString "max" ++ toString ".loop" : String)="max.loop" := by lia
 erw[kmb_tree PySem.F.kind_max PySem.F.plain_max PySem.F.entry_max (Zfe _ _) ?_];show wpAny _ _ (Builtin.Builtins.bindParams "max" ["key","default"] 0 ⟨[],[(ON "default",.int d f)]⟩ >>= _) _ _ s;apply Sa;erw[wpAny_of_eq (show Builtin.Builtins.bindParams "max" ["key","default"] 0 ⟨[],[(ON "default",.int d f)]⟩=pure [none,some (.int d f)] from R) ?_];apply Sa;apply Sb;apply Sa;erw[wpAny_pyIter_list h.isList ?_];apply Sa;erw[wpAny_newObj_type ?_];rw[S];erw[Sb ⟨plainId_quiet PySem.F.plain_max_loop _,?_⟩];erw[Zfd (fp:=[s.heap.objs.size,p]) (wr:=[s.heap.objs.size]) (g:=λi=>ns.getD i 0) (Walks.list (A:=X.A.in1) (I.ok.hd O) _ _ Y its.toArray) ?_ ?_ ns 0 _ none ?_ ?_ ?_ ?_ ?_];intro i v u;have G:its[i]? = some v:=by simpa using u
 have C:i<ns.length:=by
  have:=(Su.mp G).1;rw[<-hlen,Sx]at this;exact this
 obtain⟨w,c,j⟩:=B.get (i:=i) (x:=.int ns[i]) (by rw[Oc,Sv C];rfl);rw[G]at c;cases c;ext⟨t,rfl⟩ j;exact⟨t,by rw[List.getD_eq_getElem?_getD,Sv C];rfl⟩;intro hm;have c:(s.heap.push {cls:=.type "list_iterator",data:=.fields #[.ref p,.int 0 0]}).objs.size=s.heap.objs.size+1:=Heap.size_push ..;have lt:=Sf E;rcases SH.mp hm with z|z;have:s.heap.objs.size+1=s.heap.objs.size:=c.symm.trans z;lia;have:s.heap.objs.size+1=p:=c.symm.trans (SG.mp z);rw[<-this]at lt;exact Ov lt (Oi.mpr (Nat.le_succ _));rw[SQ,<-hlen,Sx,Nat.zero_add];intro i a0 P;rw[Nat.zero_add,List.getD_eq_getElem?_getD,P];rfl;erw[⟨⟨_,Sc _ (Se _ R),R,R⟩,?_⟩];ext⟨T,j,U⟩ h.isList;exact⟨T,Sc _ (Sc _ j),U⟩;exact⟨_,_,Se _ R,R⟩;intro v M tk r k;have J:∀b o,s.heap.get? b=some o->M.get? b=some o:=λb o e=>k b o (λz=>by
   have c:=Sf e;rw[SG.mp z]at c;exact Ov c (Sm _)) (λz=>by
   have c:=Sf (Sc {cls:=.type "list_iterator",data:=.fields #[.ref p,.int 0 0]} e);rw[z]at c;exact Ov c (Sm _)) (Sc _ (Sc _ e))
 have u:∃y,v=.int ((WN none ns).getD d) y:=by
  cases e:WN none ns with
  |none=>rw[e]at r;exact⟨f,r⟩
  |some x=>rw[e]at r;exact r
 ext⟨y,rfl⟩ u;exact⟨.int _,H,I.kept (t':=tk) J,⟨_,R⟩,q⟩
inductive Zfg(K:OA)(Q:VK)(vs:List V)(zs:List V)(H2:Hp):Prop|mk (p:Addr) (ns:OH) (d:Int) (_:vs=[.ref p]) (_:zs=[.int d]) (_:Zg K H2 p (ns.map V.int)) (_:Q (.int ((WN none ns).getD d)) H2)
def Zfh(K:OA)(t tk:TA):TE:=λc H Q=>t c H λe f=>tk c f λzs h=>Zfg K Q e zs h
def Zfi(G:X.calm=true)(T:Gl X "max") (hm:X.mg "max"=none) (O:bootBuiltins "max"=some (.builtin "max"))
  (ha:PA X (e::c) t) (y:PK X f tk) (E:(backToKw pos (keywordEach f X.env)).all (·.1.isSome)=true:=by rfl) (j:(backToKw pos (keywordEach f X.env)).filterMap (·.1)=[ON "default"]:=by rfl)
  (P:starEach (e::c) X.env=(false,eval e X.env)::starEach c X.env:=by rfl)
  (D:(backTo pos (starEach (e::c) X.env)).any (·.1)=false:=by rfl) (v:(backToKw pos (keywordEach f X.env)).any (·.1.isNone)=false:=by rfl) :
  PE X (.Call (.Name "max" p) (e::c) f pos) (Zfh X.K t tk):=by
 intro pins s i H a0 I h;erw[wpAny_Call_Name_kw (UE I T hm O ?_ () ())];erw[callWith_builtin_kwB D v (evalArgs_kw2 E (Zs (ha pos pins s i H _ I h) λZ U ⟨vs,Q,M,r,q⟩=>?_) P)];erw[Zs (y pos pins U i Q _ M q) λws s2 ⟨zs,H2,L,J,B⟩=>?_];rw[j];ext⟨l,ns,d,rfl,rfl,C,S⟩ B;obtain⟨u,rfl,Y⟩:=XF r;cases Y;obtain⟨u,rfl,td,rfl⟩:=XF J;exact Zff G L C S
open PySem
abbrev UQ(xs:Array Nat):Prop:=xs.toList.Pairwise (· < ·)
def K7{xs:Array Nat}(h:UQ xs)(e:i<k)(c:k<xs.size):xs.getD i d<xs.getD k d:=by
 have q:=List.pairwise_iff_getElem.mp h i k (by simpa using Nat.lt_trans e c) (by simpa using c) e;simpa [Array.getD,Nat.lt_trans e c,c]using q
theorem Nl{xs:Array Nat}(h:UQ xs):∀(n lo hi:Nat),hi - lo<=n->lo<=hi->hi<=xs.size->(∀i,i<lo->xs.getD i j<j)->(∀i,hi<=i->i<xs.size->j<=xs.getD i j) ->
  SetTable.below.go xs j n lo hi<=xs.size/\(∀i,i<SetTable.below.go xs j n lo hi->xs.getD i j<j)/\∀i,SetTable.below.go xs j n lo hi<=i->i<xs.size->j<=xs.getD i j
 |0,lo,hi,hn,y,q,h1,f=>by
  have e:lo=hi:=by lia
  subst e;exact⟨q,h1,f⟩
 |n+1,lo,hi,hn,y,q,h1,f=>by
  unfold SetTable.below.go;by_cases c:lo<hi;rw[SY c];dsimp only;by_cases d:xs.getD ((lo+hi)/2) j<j;rw[SY d];erw[Nl h n _ hi () () q (λi v=>?_) f];by_cases e:i=(lo+hi)/2;rwa[e];exact Nat.lt_trans (K7 h (show i<(lo+hi)/2 by lia) ()) d;rw[SX d];erw[Nl h n lo _ () () () h1 (λi v u=>?_)];by_cases e:i=(lo+hi)/2;rw[e];lia;have:=K7 (d:=j) h (show(lo+hi)/2<i by lia) u;lia;rw[SX c];have e:lo=hi:=by lia
  subst e;exact⟨q,h1,f⟩
def Nm{xs:Array Nat}(h:UQ xs):SetTable.below xs j<=xs.size/\(∀i,i<SetTable.below xs j->xs.getD i j<j)/\∀i,SetTable.below xs j<=i->i<xs.size->j<=xs.getD i j :=
 Nl h _ 0 _ () (Sl _) (Sh _) (λi z=>Ov z (Nat.not_lt_zero _)) (λi a b=>by lia)
def Zfj(h:UQ xs)(hn:xs[SetTable.below xs j]?≠some j):UQ (SetTable.insertAt xs (SetTable.below xs j) j):=by
  obtain⟨C,B,u⟩:=Nm (j:=j) h;show List.Pairwise _ _;rw[SetTable.toList_insertAt];have get:∀i (c:i<xs.size),xs.getD i j=xs.toList[i]'(by simpa using c):=λi c=>by simp[Array.getD,c]
  have q:∀b∈xs.toList.drop (SetTable.below xs j),j<b:=λb f=>by
    obtain⟨i,c,rfl⟩:=List.getElem_of_mem f;rw[SD]at c;have hz:SetTable.below xs j+i<xs.size:=by simpa using(show SetTable.below xs j+i<xs.toList.length by lia)
    rw[List.getElem_drop,<-get _ hz];have g:=u _ (Op (SetTable.below xs j) i) hz;erw[Nat.lt_of_le_of_ne g λe=>?_];by_cases y:i=0
    · subst y
      erw[hn ?_];rw[Nat.add_zero]at e hz;rw[Array.getElem?_eq_getElem hz];have:=get _ hz;rw[<-e]at this;simpa using this.symm
    · have l:=K7 (d:=j) h (show SetTable.below xs j<SetTable.below xs j+i by lia) hz
      have D:=u _ (Sh _) (show SetTable.below xs j<xs.size by lia);lia
  erw[List.pairwise_append.mpr ⟨h.sublist (List.take_sublist _ _),List.pairwise_cons.mpr ⟨q,h.sublist (List.drop_sublist _ _)⟩,λa ha b f=>?_⟩];have v:a<j:=by
    obtain⟨i,c,rfl⟩:=List.getElem_of_mem ha;rw[Sz]at c
    have hz : i < xs.size := by have : xs.toList.length=xs.size := by simp
                                lia
    rw[List.getElem_take,<-get _ hz];exact B i ()
  rcases SH.mp f with rfl|f;exact v;exact Nat.lt_trans v (q b f)
structure Qh(t:OL):Prop where
 du:t.dummies=#[]
 ri:t.plain=true->UQ t.place
def wZ(j:Nat):SetTable.has #[] j=false:=rfl
def Zfk{t:OL}(h:t.slot j=.empty):t.place[SetTable.below t.place j]?≠some j:=by
 intro e;unfold SetTable.slot at h;dsimp only at h;rw[e]at h;simp at h
def Zfl{t:OL}(c:Qh t):t.slot j≠.dummy:=by
 unfold SetTable.slot;rw[c.du];dsimp only;split;intro z;cases z;rw[wZ];intro z;cases z
theorem vA{t:OL}(q:Qh t):∀(n:Nat) (p:SetTable.Probe) (j:Nat) (d:Option Nat),p.dummy=none->SetTable.probe.go t g h n p=some (.empty j d)->t.slot j=.empty/\d=none
 |0,p,j,d,_,e=>by cases e
 |n+1,p,j,d,f,e=>by
  unfold SetTable.probe.go at e;cases c:t.slot p.j with
  |empty =>
   rw[c]at e;injection e with e;injection e with u v;subst u;exact⟨c,v.symm.trans f⟩
  |dummy=>exact Ov c (Zfl q)
  |live i =>
   rw[c]at e;dsimp only at e;split at e;injection e with e;cases e;erw[vA q n _ j d ?_ e];unfold SetTable.advance;split;exact f;exact f
def Zfm{t:OL}(e:Qh t)(f:Array (Int×Value))(h:Int)(x:Value):Qh (layNew t f h x).2.1/\(layNew t f h x).2.1.led=t.led:=by
 unfold layNew;cases c:t.freeSlot h with
 |none=>exact⟨⟨R,λz=>by cases z⟩,rfl⟩
 |some q =>
  ext⟨j,B⟩ q;have y:t.slot j=.empty:=by
   unfold SetTable.freeSlot at c;split at c;rename_i E C i;obtain⟨v,rfl⟩:=vA e _ _ _ _ R i;injection c with c;injection c with u D;rwa[<-u];cases c
  dsimp only;unfold SetTable.orStandIn;split;erw[⟨⟨?_,λz=>?_⟩,R⟩];show(if SetTable.has t.dummies j=true then _ else t.dummies)=#[];rw[e.du,wZ];rfl;exact Zfj (e.ri z) (Zfk y);exact⟨⟨R,λz=>by cases z⟩,rfl⟩
def Zfn{t:OL}(D:Qh t)(e:Array (Int×Value))(n:Nat):Qh (relayAll t e n).2.1/\(relayAll t e n).2.1.led=t.led:=by
 unfold relayAll;cases c:t.relaid (e.map (·.1)) n with
 |none=>exact⟨⟨R,λz=>by cases z⟩,rfl⟩
 |some q =>
  ext⟨C,B⟩ q;dsimp only;split;unfold SetTable.relaid SetTable.laid at c;cases h:SetTable.layClean (SetTable.sizeAbove n - 1) (e.map (·.1))with
  |none=>rw[h]at c;cases c
  |some f =>
   rw[h]at c;injection c with c;injection c with u E;subst u;erw[⟨⟨R,λ_=>?_⟩,R⟩];show List.Pairwise _ _;rw[List.toList_toArray];rw[List.map_filterMap];erw[List.Pairwise.sublist (l₂:=List.range (SetTable.sizeAbove n - 1+1)) ?_ List.pairwise_lt_range];have v:∀l:List Nat,List.Sublist (l.filterMap λj=>Option.map (λp:Nat×Nat=>p.1) ((f.getD j none).map λy=>(j,y))) l:=by
    intro l;induction l with
    |nil=>exact .slnil
    |cons a r i =>
     rw[List.filterMap_cons];cases f.getD a none with
     |none=>exact i.cons _
     |some y=>exact i.cons_cons _
   exact v _
  exact⟨⟨R,λz=>by cases z⟩,rfl⟩
open PySem
def keyOf(e:Int×Value):Int:=match e.2 with
 |.int k _=>k
 |_=>0
def vB(h:ElemsOf (intKind prog w) l){e:Int×Value}(c:e∈l):∃t,e.2=.int (keyOf e) t:=by
 obtain⟨⟨k,f,_⟩,_⟩:=h e c;obtain⟨t,q⟩:=Value.isInt_shape (k:=k) (v:=e.2) f;erw[⟨t,?_⟩];unfold keyOf;rw[q]
def Zfo(h:ElemsOf (intKind prog w) l){e:Int×Value}(c:e∈l)(q:(intKind prog w).is k e.2=true):keyOf e=k:=by
 obtain⟨t,q⟩:=Value.isInt_shape (k:=k) (v:=e.2) q;unfold keyOf;rw[q]
def Xl(prog:Program)(w:World)(h:Heap)(a:Addr)(ks:OH):Prop:=∃(o:Obj) (es:Array (Int×Value)) (ep:Nat) (t:OL),
 h.get? a=some o/\o.ExactSet/\o.data=.set es ep t/\ElemsOf (intKind prog w) es.toList/\t.fits es.size=true/\Qh t/\(w.params.followText "set-order"=false->t.led=true) /\
 (es.toList.map keyOf).Nodup/\(∀k,k∈es.toList.map keyOf↔k∈ks)/\es.size<=ks.length
def Xl.keep{h h':Heap}(x:Xl prog w h a ks)(k:∀o,h.get? a=some o->h'.get? a=some o):Xl prog w h' a ks :=
 let ⟨o,es,ep,t,ho,r⟩:=x
 ⟨o,es,ep,t,k _ ho,r⟩
def vC{h:Heap}{o:Obj}{c : Array (Int×Value)}{t' : SetTable}{ks:OH}(i:h.get? a=some o)(f:o.ExactSet)(hd:o.data=.set u e t)
  (B:ElemsOf (intKind prog w) c.toList) (j:t'.fits c.size=true) (y:Qh t') (v:w.params.followText "set-order"=false->t'.led=true) (nd:(c.toList.map keyOf).Nodup)
  (mem:∀k,k∈c.toList.map keyOf↔k∈ks) (sz:c.size<=ks.length) :
  (h.update a (Obj.putSet c t')).get? a=some {o with data:=.set c (e+1) t'}/\Xl prog w (h.update a (Obj.putSet c t')) a ks:=by
 have g:(h.update a (Obj.putSet c t')).get? a=some {o with data:=.set c (e+1) t'}:=by
  have q:=Heap.get?_update_self (Obj.putSet c t') i (by rw[putSet_of c t' hd];rfl);rw[putSet_of c t' hd]at q;exact q
 exact⟨g,_,c,e+1,t',g,f,R,B,j,y,v,nd,mem,sz⟩
def Zfp{c e:Array (Int×Value)}(p:List.Perm e.toList c.toList):e.size=c.size:=by
 have:=p.length_eq;simpa using this
def Zfq{ks:OH}(hS:Xl prog w s.heap a ks)(hr:ks.length+1<scanBound)
  (h:∀b h',Heap.SameBut a s.heap h'->Xl prog w h' a (ks++[k])->Q b {s with heap:=h'}):wpAny (model prog w) A (setAddHashed a (.int k tk) ((intKind prog w).hash k)) Q E s:=by
 ext⟨o,f,ep,t,C,J,hd,v,G,ht,hl,nd,mem,sz⟩ hS;have hz:f.size<scanBound:=by lia
 have U:(intKind prog w).is k (.int k tk)=true:=intKind_is _ _ _ _;unfold setAddHashed setAddHashedIn;erw[wpAny_holding (Sa (wpAny_setState_of C hd G ?_))];dsimp only;rw[byScan_of (knd:=intKind prog w) (x:=.int k tk) R hz v];simp only[↓reduceIte];unfold setAddByScan;erw[Sa (Sa (wpAny_rule (Sa (wpAny_setScan_of U C hd G v ?_))))];cases hc:List.findIdx? (λe=>(intKind prog w).is k e.2) f.toList with
 |some c0 =>
  dsimp only;obtain⟨Y,hp,_⟩:=List.findIdx?_eq_some_iff_getElem.mp hc;have H:k∈f.toList.map keyOf:=SL.mpr ⟨f.toList[c0],Ol Y,Zfo v (Ol Y) hp⟩;have q:=h false s.heap (Heap.SameBut.refl a s.heap) ⟨o,f,ep,t,C,J,hd,v,G,ht,hl,nd,λj=>by
   rw[SI,SG,mem j];exact⟨.inl,λz=>z.elim id λe=>by rw[e];exact(mem k).mp H⟩,by rw[Sw];lia⟩
  exact Sb (Sb q)
 |none =>
  dsimp only;have H:k∉f.toList.map keyOf:=λz=>by
   obtain⟨e,he,ek⟩:=SL.mp z;have q:=List.findIdx?_eq_none_iff.mp hc e he;obtain⟨te,ee⟩:=vB v he;rw[ee,ek,intKind_is]at q;cases q
  have gw:∀(b:Bool) {S:Shared} {T:OD},T Unit.unit S->wpAny (model prog w) A (match b with|true=>rule "set.scan.the-table-gave-way" | false=>pure Unit.unit) T E S :=
   λb S T q=>by
    cases b;exact Sb q;exact wpAny_rule q
  have B:=layNew_perm t f ((intKind prog w).hash k) (.int k tk);have O:=layNew_fits t f ((intKind prog w).hash k) (.int k tk);obtain⟨D,L⟩:=Zfm ht f ((intKind prog w).hash k) (.int k tk);generalize layNew t f ((intKind prog w).hash k) (.int k tk)=e0 at B O D L ⊢;ext⟨c,i,wd,gv⟩ e0;dsimp only at B O D L ⊢;rw[Array.toList_push]at B;have b0:ElemsOf (intKind prog w) c.toList:=(v.push U R).perm B;have X:List.Perm (c.toList.map keyOf) (f.toList.map keyOf++[k]):=by
   have:=B.map keyOf;rw[SN]at this;exact this
  have A4:(c.toList.map keyOf).Nodup:=X.nodup_iff.mpr (List.nodup_append.mpr ⟨nd,by simp,λa ha b u=>by
   rw[SG]at u;subst u;intro e;subst e;exact H ha⟩)
  have a0:∀j,j∈c.toList.map keyOf↔j∈ks++[k]:=λj=>by
   rw[X.mem_iff,SI,SI,mem j]
  have g0:c.size=f.size+1:=by
   have:=B.length_eq;simpa using this
  have z1:c.size<=(ks++[k]).length:=by rw[Sw,Sy];lia
  have l1:w.params.followText "set-order"=false->i.led=true:=λz=>L.trans (hl z);erw[Sa (gw _ ?_)];have tail:∀{P:Option Bool->Shared->Prop},(∀h',Heap.SameBut a s.heap h'->Xl prog w h' a (ks++[k])->P (some true) {s with heap:=h'}) ->
    wpAny (model prog w) A (do
     storeSet a c i
     if (!wd && i.tooFull)=true then do
      (match (relayAll i c (SetTable.grown c.size)).2.2 with|true=>rule "set.scan.the-table-gave-way" | false=>pure Unit.unit)
      storeSet a (relayAll i c (SetTable.grown c.size)).1 (relayAll i c (SetTable.grown c.size)).2.1
      pure (some true)
     else pure (some true)) P E s:=by
   intro P hR;erw[Sa (wpAny_storeSet_of C hd ?_ (fits_of_scanBound ()))];obtain⟨g1,i1⟩:=vC (prog:=prog) (w:=w) C J hd b0 O D l1 A4 a0 z1;have Z:=Heap.SameBut.update s.heap a (Obj.putSet c i);split;have y:=relayAll_perm i c (SetTable.grown c.size);have I:=relayAll_fits i c (SetTable.grown c.size);obtain⟨t2,l2⟩:=Zfn D c (SetTable.grown c.size);generalize relayAll i c (SetTable.grown c.size)=d0 at y I t2 l2 ⊢;ext⟨h0,t3,f0⟩ d0;dsimp only at y I t2 l2 ⊢;have s2:=Zfp y;erw[Sa (gw _ (Sa (wpAny_storeSet_of g1 R ?_ (fits_of_scanBound ()))))];obtain⟨_,i2⟩:=vC (prog:=prog) (w:=w) (ks:=ks++[k]) g1 J R (b0.perm y) I t2 (λz=>l2.trans (l1 z)) ((y.map keyOf).nodup_iff.mpr A4) (λj=>by rw[(y.map keyOf).mem_iff];exact a0 j) ();exact Sb (hR _ (Z.trans (Heap.SameBut.update _ a _)) i2);exact Sb (hR _ Z i1)
  split;erw[Sa ?_];rw[hashByValue_scannable 8 (show Value.scannable (.int k tk)=true from R)];erw[Sb ?_];show wpAny _ _ _ _ _ _;exact tail λh' u M=>Sb (h true h' u M);erw[Sa (Sb ?_)];exact tail λh' u M=>Sb (h true h' u M)
section
variable{R:Result->Shared->Prop}{I:Addr}{fp wr:OK}{G:Array GenState->Array GenState->Prop}{n:Nat}{P:Nat->Value->Prop}{St:Nat->Shared->Prop}
def Zfr(W:WalksS prog w A.in1 I fp wr G n P St)(S:Addr)(q:S∉fp)(val:Nat->Int)(O:∀i v,P i v->∃t,v=.int (val i) t)(c:n+1<scanBound) :
  ∀(k i:Nat) (s:Shared),n - i=k->i<=n->St i s->Xl prog w s.heap S ((List.range i).map val)->(∀s',Moved (S::wr) G s s'->Xl prog w s'.heap S ((List.range n).map val)->R (.ok (.ret .none)) s') ->
   codeAny (model prog w) A (.builtin "set.update.loop" ⟨[.ref S,.ref I],[]⟩) R s:=by
 have B:S∉wr:=λz=>q (W.sub _ z);have u:∀b∈wr,b∈S::wr:=λb z=>SE _ z;intro k;induction k with
 |zero =>
  intro i s D f st h j;obtain rfl:i=n:=by lia
  erw[codeAny_builtin PyProof.Rows.F.entry_set_update_loop ?_];rw[Around.under_plainId PyProof.Rows.F.plain_set_update_loop _];erw[Sa (m:=pyNext (.ref I)) (W.done s _ _ st λs' hm=>?_)];exact Sb (j s' (hm.mono u) (h.keep λo e=>hm.heap S o B e))
 |succ k Q =>
  intro i s D f st h j;have lt:i<n:=by lia
  erw[codeAny_builtin PyProof.Rows.F.entry_set_update_loop ?_];rw[Around.under_plainId PyProof.Rows.F.plain_set_update_loop _];erw[Sa (m:=pyNext (.ref I)) (W.item i s _ _ lt st λv s' E J hm=>?_)];obtain⟨tk,rfl⟩:=O i v E;have H:=h.keep λo e=>hm.heap S o B e;erw[Sa (m:=holding [Value.int (val i) tk] (setAdd S (.int (val i) tk))) (wpAny_holding ?_)];unfold setAdd;erw[wpAny_holding (Sa ((intKind prog w).pyHash (k:=val i) (intKind_is _ _ _ _) ?_))];erw[Zfq (s:={s' with toks:=s'.toks+1}) H (by rw[Sx,List.length_range];lia) λb T y f=>?_];have e:((List.range i).map val)++[val i]=(List.range (i+1)).map val:=by rw[Om,SN];rfl
  rw[e]at f;erw[Sb ⟨plainId_quiet PyProof.Rows.F.plain_set_update_loop _,Q (i+1) _ () lt (W.frame _ s' _ _ J (Nat.le_succ _) λb c o e=>?_) f λL C M=>?_⟩];rwa[y.2 b (λz:b=S=>q (by rw[<-z];exact c))];erw[j L (Moved.trans W.gtrans ((hm.mono u).then_heap (Nat.le_succ _) λb o c e=>?_) C) M];rwa[y.2 b (λz:b=S=>c (by rw[z];exact SF))]
end
open PySem
theorem Nn{c:Type}:∀(l:List c) (i:Nat) (x:c),l[i]? = some x->List.Perm (x::l.eraseIdx i) l
 |[],i,x,h=>by cases h
 |a::r,0,x,h=>by cases h;exact .refl _
 |a::r,i+1,x,h=>(List.Perm.swap a x _).trans ((Nn r i x h).cons a)
theorem vD{e:Type}(f:Nat->Nat):∀(n k:Nat) (l:List e) (out:Array e),l.length=n->List.Perm (pickOrder.go f n k l out).toList (out.toList++l)
 |0,k,l,out,h=>by
  cases l with
  |nil=>unfold pickOrder.go;rw[Oe]
  |cons a r=>cases h
 |n+1,k,l,out,h=>by
  unfold pickOrder.go;have c:f k%l.length<l.length:=Oq _ ();rw[Sv c];dsimp only;have p:=Nn l _ _ (Sv c);erw[(vD f n (k+1) _ _ ?_).trans ?_];have:=p.length_eq;rw[SA]at this;lia;rw[Array.toList_push,Of];exact List.Perm.append_left _ p
def No{c:Type}(f:Nat->Nat)(xs:Array c):List.Perm (pickOrder f xs).toList xs.toList:=by
 have:=vD f xs.size 0 xs.toList #[] (by simp);rw[show(#[]:Array c).toList++xs.toList=xs.toList from R]at this;exact this
def Zfs(hn:n≠0)(h:∀i d,i<n->Q i {s with drawn:=d}):wpAny M A (choose c n) Q E s:=λe p f=>by
 show Sem.wp M e (Sem.choose c n Sem.pure) _ _ p s;unfold Sem.wp;erw[⟨hn,?_⟩];unfold Sem.wp;exact h _ _ (Oq _ (Nat.pos_of_ne_zero hn))
theorem vE{M:Model}{f:Type}:∀(n:Nat) (xs:List f) (s:Shared) {Q:List f->Shared->Prop},xs.length=n->(∀ys d,List.Perm ys xs->Q ys {s with drawn:=d})->wpAny M A (drawOrder n xs) Q E s
 |0,xs,s,Q,c,h=>by
  cases xs with
  |nil=>exact Sb (h [] s.drawn .nil)
  |cons a r=>cases c
 |n+1,xs,s,Q,c,h=>by
  cases xs with
  |nil=>cases c
  |cons a r =>
   unfold drawOrder;erw[Sa (Zfs (by simp) λi d e=>?_)];rw[Sv e];dsimp only;have p:=Nn (a::r) _ _ (Sv e);erw[Sa (vE n _ _ (by have:=p.length_eq;rw[SA]at this;lia) λys j q=>?_)];exact Sb (h _ j ((q.cons _).trans p))
def Wr(h:Heap)(I:Addr)(f:Value)(i:Nat)(p n c:Nat):Prop:=∃o,h.get? I=some o/\o.cls=.type "set_iterator" /\ o.data=.fields #[f,.int i 0,.ref p,.int n 0,.int c 0]
def Wr.ty(x:Wr s.heap I f i p n c):s.TypeIs (.ref I) "set_iterator" := let ⟨o,ho,hc,_⟩:=x;⟨o,ho,hc⟩
def Vc(h:Heap)(p e:Nat)(c:Array (Int×Value))(t:OL):Prop:=∃o,h.get? p=some o/\o.ExactSet/\o.data=.set c e t/\t.fits c.size=true
def UR:Slot "set_iterator" "__next__" "set_iterator.__next__" := .of (owner := "set_iterator") (n := "__next__") (by rw[typeLookup_type,builtinLookup_eq_fast];kernel_rfl) () () () (by first|exact .inl ()|exact .inr ()) (by rw[isSubtype_type];kernel_rfl)
def K8:entryFor table "set_iterator.__next__"=some Builtin.«set_iterator.__next__»:=entryFor_of_tree (by kernel_rfl)
def K9(a:Value):argsOk "set_iterator.__next__" ⟨[a],[]⟩:=by unfold argsOk;kernel_rfl
def Zft:entryFor table "set.__iter__"=some Builtin.«frozenset.__iter__»:=entryFor_alias (id' := "frozenset.__iter__") (by kernel_rfl) R () (by kernel_rfl)
def vF:typeLookup (.type "set_iterator") "__next__"=pure (some (.builtin "set_iterator.__next__")):=UR.lookup
def Zfu{h:Array (Int×Value)}{t:OL}(S:Vc s.heap p B h t)
  (U:(w.params.followText "set-order"=true\/(t.plain=true\/h.size<=1))->Q (.ref s.heap.objs.size) {s with heap:=s.heap.push {cls:=.type "set_iterator",data:=.fields #[.int 0 0,.int 0 0,.ref p,.int h.size 0,.int B 0]} })
  (hd:∀(u:OJ) (d:Drawn),List.Perm u (List.range h.size)->Q (.ref (s.heap.objs.size+1)) {s with heap:=(s.heap.push {cls:=.type "tuple",data:=.seq (u.map λi=>rawInt (i:Nat)).toArray}).push {cls:=.type "set_iterator",data:=.fields #[.ref s.heap.objs.size,.int 0 0,.ref p,.int h.size 0,.int B 0]},drawn:=d})
  (Y:h.size<=sizeLine):wpAny (model prog w) A (pyIter (.ref p)) Q E s:=by
 ext⟨o,y,T,C,D⟩ S;have J:s.TypeIs (.ref p) "set" := ⟨o,y,T.1⟩;erw[wpAny_pyIter_slot J F.slot_set_iter (wpAny_call_entry F.slot_set_iter J Zft ?_ (F.args_set_iter_1 _))];unfold Builtin.«frozenset.__iter__»;erw[Sa (m:=Builtin.Frozenset.slot0 "__iter__" _) (Sb ?_)];erw[Sa (m:=Builtin.Frozenset.sizeOf p) ?_];unfold Builtin.Frozenset.sizeOf setEntries;erw[Sa (Sa (wpAny_setState_of y C D (Sb (Sb ?_))))];unfold setDrawn setsByText;erw[Sa (Sa (wpAny_setState_of y C D (Sa (Sa (wpAny_askSetting (Sb (Sb ?_)))))))];have L:∀{f:Value} {j:Heap} {d:Drawn},j.get? p=some o->Q (.ref j.objs.size) {s with heap:=j.push {cls:=.type "set_iterator",data:=.fields #[f,.int 0 0,.ref p,.int h.size 0,.int B 0]},drawn:=d} ->
   wpAny (model prog w) A.in1 (do
    let Z <-setEpoch p
    let it <-newFields "set_iterator" [f,rawInt 0,Value.ref p,rawInt (h.size:Nat),rawInt (Z:Nat)]
    ret it) (λP M=>∃v,P=Fin.done (Flow.ret v)/\∃I r,M.TypeIs v I/\typeLookup (Value.type I) (ON "__next__")=pure (some r)/\Q v M) E {s with heap:=j,drawn:=d}:=λ{f j d} g q=>by
  erw[Sa (wpAny_setEpoch_of (s:={s with heap:=j,drawn:=d}) g C D ?_)];exact Sa (wpAny_newObj_type (Sb ⟨_,R,"set_iterator",_,⟨_,Se _ R,R⟩,vF,q⟩))
 erw[wpAny_ite_split (λc=>?_) (λc=>?_)];erw[Sa (vE h.size _ _ (by simp) λu d H=>?_)];have X:u.length=h.size:=by have:=H.length_eq;simpa using this
 erw[Sa (m:=newTuple _) (wpAny_newObj_type ?_ (by show(u.map λi=>rawInt (i:Nat)).toArray.size<=sizeLine;rwa[SQ,Sx,X]))];have q:=hd u d H;have e:s.heap.objs.size+1=(s.heap.push {cls:=.type "tuple",data:=.seq (u.map λi=>rawInt (i:Nat)).toArray}).objs.size:=(Heap.size_push _ _).symm;rw[e]at q;exact L (Sc _ y) q;erw[Sa (Sb (L (d:=s.drawn) y (U ?_)))];have G:¬ (!w.params.followText "set-order" && (!t.plain && decide (h.size>1)))=true:=c;cases O:w.params.followText "set-order" with
 |true=>exact .inl rfl
 |false =>
  right
  cases j:t.plain with
  |true=>exact .inl rfl
  |false =>
   right
   rw[O,j]at G;simp at G;exact G
open PySem
def Zfv{h:Heap}(x:Wr h I f i p n e) :
  Wr ((h.update I (Obj.mapFields (·.setIfInBounds 0 g))).update I (Obj.mapFields (·.setIfInBounds 1 (rawInt ((i:Int)+1))))) I g (i+1) p n e:=by
 ext⟨o,u,q,hd⟩ x;have j:=Obj.data_mapFields hd (·.setIfInBounds 0 g);have g1:=Heap.get?_update_self (Obj.mapFields (·.setIfInBounds 0 g)) u (Obj.isFreed_of_fields j);have c:=Obj.data_mapFields j (·.setIfInBounds 1 (rawInt ((i:Int)+1)));erw[⟨_,Heap.get?_update_self _ g1 (Obj.isFreed_of_fields c),(Obj.cls_mapFields ..).trans ((Obj.cls_mapFields ..).trans q),?_⟩];rw[c];simp[rawInt]
def vG{I p e i slot nx:Nat}{h:Array (Int×Value)}{t:OL}{x:Value}{Q:Option Value->Shared->Prop}(c:Wr s.heap I (.int slot 0) i p h.size e)(D:Vc s.heap p e h t)
  (v:∀(C:Around) (E':Ox) (Q':Option (Value×Nat)->Shared->Prop),Q' (some (x,nx)) s->wpAny (model prog w) C (setNext p slot i e) Q' E' s)
  (q:∀h',Wr h' I (.int nx 0) (i+1) p h.size e->Heap.SameBut I s.heap h'->Q (some x) {s with heap:=h'}):wpAny (model prog w) A (pyNext (.ref I)) Q E s:=by
 obtain⟨o,f,H,hd⟩:=id c;ext⟨G,u,J,B,y⟩ D;unfold pyNext;erw[Sa (wpAny_attempt (wpAny_callSpecial?_slot (name:=ON "__next__") c.ty UR (wpAny_call_entry UR c.ty K8 ?_ (K9 _))))];unfold Builtin.«set_iterator.__next__»;erw[Sa (m:=slotArgs "__next__" 0 _) (Sb ?_)];erw[Sa (wpAny_fieldsOf f hd ?_)];dsimp only;unfold setEntries;erw[Sa (Sa (wpAny_setState_of u B y (Sb ?_)))];rw[SX (by simp)];simp only[Int.toNat_natCast];erw[Sa (v _ _ _ ?_)];dsimp only;erw[Sa (wpAny_setField f hd (by simp) ?_)];have j:=Obj.data_mapFields hd (·.setIfInBounds 0 (rawInt (nx:Int)));have g1:=Heap.get?_update_self (Obj.mapFields (·.setIfInBounds 0 (rawInt (nx:Int)))) f (Obj.isFreed_of_fields j);erw[Sa (wpAny_setField (s:={s with heap:=s.heap.update I (Obj.mapFields (·.setIfInBounds 0 (rawInt (nx:Int))))}) g1 j (by simp) ?_)];exact Sb ⟨_,R,Sb (q _ (Zfv c) ((Heap.SameBut.update ..).trans (Heap.SameBut.update ..)))⟩
def vH{I p e i slot:Nat}{h:Array (Int×Value)}{t:OL}{Q:Option Value->Shared->Prop}(q:A.handled=none)(c:Wr s.heap I (.int slot 0) i p h.size e)(G:Vc s.heap p e h t)
  (v:∀(D:Around) (E':Ox) (Q':Option (Value×Nat)->Shared->Prop),Q' none s->wpAny (model prog w) D (setNext p slot i e) Q' E' s)
  (j:∀h',Heap.ExtBut I s.heap h'->Q none {s with heap:=h'}):wpAny (model prog w) A (pyNext (.ref I)) Q E s:=by
 obtain⟨o,f,J,hd⟩:=id c;obtain⟨H,u,L,C,y⟩:=id G;unfold pyNext;erw[Sa (wpAny_attempt (wpAny_callSpecial?_slot (name:=ON "__next__") c.ty UR (wpAny_call_entry UR c.ty K8 ?_ (K9 _))))];unfold Builtin.«set_iterator.__next__»;erw[Sa (m:=slotArgs "__next__" 0 _) (Sb ?_)];erw[Sa (wpAny_fieldsOf f hd ?_)];dsimp only;unfold setEntries;erw[Sa (Sa (wpAny_setState_of u C y (Sb ?_)))];rw[SX (by simp)];simp only[Int.toNat_natCast];erw[Sa (v _ _ _ ?_)];dsimp only;erw[Sa (wpAny_setField f hd (by simp) ?_)];have B:=Heap.SameBut.update s.heap I (Obj.mapFields (·.setIfInBounds 2 Value.none));simp only[newExc,newTuple];erw[Sa (Sa (wpAny_newObj_type (Sa (m:=firstArgMember _ _) (wpAny_of_eq (a:=Value.none) (by simp only[firstArgMember];rfl) (wpAny_newObj_type ?_ (by size_fits)))) (by size_fits)))];simp only[raiseNew];erw[Sa (wpAny_handled ?_)];rw[show A.in1.handled=none from q];erw[Sa (Sb (wpAny_throw ?_))];erw[Sa (wpAny_isInstance (T := "StopIteration") (b:=true) ⟨_,Se _ R,R⟩ isSubtype_stop ?_)];exact Sb (j _ ((B.extBut.push _).push _))
def A5(h:Heap)(T:Nat)(ys:OJ):Prop:=∃o,h.get? T=some o/\o.cls=.type "tuple" /\ ∃n,o.data=.seq (ys.map λi=>rawInt (i:Nat)).toArray n
def Zfw{c:Array (Int×Value)}{e:Int×Value}(h:Wr s.heap I (.ref T) i p c.size f)(D:Vc s.heap p f c t)(M:A5 s.heap T ys)
  (C:ys[i]? = some j) (L:c[j]? = some e) (J:∀h',Wr h' I (.ref T) (i+1) p c.size f->Heap.SameBut I s.heap h'->Q (some e.2) {s with heap:=h'}):wpAny (model prog w) A (pyNext (.ref I)) Q E s:=by
 obtain⟨o,q,H,hd⟩:=id h;obtain⟨Y,B,S,y,u⟩:=id D;unfold pyNext;erw[Sa (wpAny_attempt (wpAny_callSpecial?_slot (name:=ON "__next__") h.ty UR (wpAny_call_entry UR h.ty K8 ?_ (K9 _))))];unfold Builtin.«set_iterator.__next__»;erw[Sa (m:=slotArgs "__next__" 0 _) (Sb ?_)];erw[Sa (wpAny_fieldsOf q hd ?_)];dsimp only;unfold setEntries;erw[Sa (Sa (wpAny_setState_of B y u (Sb ?_)))];rw[SX (by simp)];ext⟨X,G,P,U,O⟩ M;erw[Sa (wpAny_seqItems G O ?_)];dsimp only;rw[Int.toNat_natCast,List.getElem?_toArray,Oc,C];show wpAny _ _ (setNextDrawn p j f >>= _) _ _ s;unfold setNextDrawn;erw[Sa (Sa (wpAny_setState_of B y u ?_))];dsimp only;rw[SX (by simp)];rw[L];erw[Sb (Sa (wpAny_setField q hd (by simp) ?_))];have v:=Obj.data_mapFields hd (·.setIfInBounds 1 (rawInt ((i:Int)+1)));erw[Sb ⟨_,R,Sb (J _ ⟨_,Heap.get?_update_self _ q (Obj.isFreed_of_fields v),(Obj.cls_mapFields ..).trans H,?_⟩ (Heap.SameBut.update ..))⟩];rw[v];simp[rawInt]
def Zfx{f:Array (Int×Value)}(D:A.handled=none)(c:Wr s.heap I (.ref T) i p f.size j)(v:Vc s.heap p j f t)(H:A5 s.heap T ys)
  (u:ys[i]? = none) (C:∀h',Heap.ExtBut I s.heap h'->Q none {s with heap:=h'}):wpAny (model prog w) A (pyNext (.ref I)) Q E s:=by
 obtain⟨o,e,U,hd⟩:=id c;obtain⟨X,G,O,B,q⟩:=id v;unfold pyNext;erw[Sa (wpAny_attempt (wpAny_callSpecial?_slot (name:=ON "__next__") c.ty UR (wpAny_call_entry UR c.ty K8 ?_ (K9 _))))];unfold Builtin.«set_iterator.__next__»;erw[Sa (m:=slotArgs "__next__" 0 _) (Sb ?_)];erw[Sa (wpAny_fieldsOf e hd ?_)];dsimp only;unfold setEntries;erw[Sa (Sa (wpAny_setState_of G B q (Sb ?_)))];rw[SX (by simp)];ext⟨S,y,M,P,L⟩ H;erw[Sa (wpAny_seqItems y L ?_)];dsimp only;rw[Int.toNat_natCast,List.getElem?_toArray,Oc,u];dsimp only[Option.map_none];erw[Sa (wpAny_setField e hd (by simp) ?_)];have h:=Obj.data_mapFields hd (·.setIfInBounds 0 (rawInt 0));have g1:=Heap.get?_update_self (Obj.mapFields (·.setIfInBounds 0 (rawInt 0))) e (Obj.isFreed_of_fields h);erw[Sa (wpAny_setField (s:={s with heap:=s.heap.update I (Obj.mapFields (·.setIfInBounds 0 (rawInt 0)))}) g1 h (by simp) ?_)];have J:=(Heap.SameBut.update s.heap I (Obj.mapFields (·.setIfInBounds 0 (rawInt 0)))).trans (Heap.SameBut.update (s.heap.update I (Obj.mapFields (·.setIfInBounds 0 (rawInt 0)))) I (Obj.mapFields (·.setIfInBounds 2 Value.none)));simp only[newExc,newTuple];erw[Sa (Sa (wpAny_newObj_type (Sa (m:=firstArgMember _ _) (wpAny_of_eq (a:=Value.none) (by simp only[firstArgMember];rfl) (wpAny_newObj_type ?_ (by size_fits)))) (by size_fits)))];simp only[raiseNew];erw[Sa (wpAny_handled ?_)];rw[show A.in1.handled=none from D];erw[Sa (Sb (wpAny_throw ?_))];erw[Sa (wpAny_isInstance (T := "StopIteration") (b:=true) ⟨_,Se _ R,R⟩ isSubtype_stop ?_)];exact Sb (C _ ((J.extBut.push _).push _))
def vI{slot : Nat}(u:w.params.followText "set-order"=true) (y:Vc s.heap p c q t)
  (h:Q (((pickOrder (w.params.setOrder p c) q)[i]?).map λe=>(e.2,slot)) s):wpAny (model prog w) A (setNext p slot i c) Q E s:=by
 ext⟨B,f,C,v,j⟩ y;unfold setNext setsByText;erw[Sa (wpAny_setState_of f v j (Sa (Sa (wpAny_askSetting (Sb ?_)))))];dsimp only;rw[SY (show(model prog w).w.params.followText "set-order"=true from u),SX (by simp)];unfold setWalk setsByText;erw[Sa (Sa (wpAny_setState_of f v j (Sa (Sa (wpAny_askSetting (Sb ?_))))))];dsimp only;rw[SY (show(model prog w).w.params.followText "set-order"=true from u)];exact Sa (wpAny_askSetting (Sb (Sb h)))
def vJ{slot : Nat}{e:Array (Int×Value)}{t:OL}(B:w.params.followText "set-order"=false) (f:t.plain=true\/e.size<=1) (C:t.led=true) (G:Vc s.heap p u e t)
  (h:Q (match e[SetTable.below t.place slot]?,t.place[SetTable.below t.place slot]? with|some (_,x),some j=>some (x,j+1)|_,_=>none) s):wpAny (model prog w) A (setNext p slot i u) Q E s:=by
 ext⟨H,v,I,D,y⟩ G;unfold setNext setsByText;erw[Sa (wpAny_setState_of v D y (Sa (Sa (wpAny_askSetting (Sb ?_)))))];dsimp only;rw[SX (show ¬ (model prog w).w.params.followText "set-order"=true by intro z;rw[show(model prog w).w.params.followText "set-order"=w.params.followText "set-order" from R,B]at z;cases z)];erw[wpAny_ite_split (λc=>?_) (λc=>?_)];exfalso;have q:(!t.plain && decide (e.size>1))=true:=c;rw[Bool.and_eq_true,decide_eq_true_eq]at q;rcases f with f|f;rw[f]at q;cases q.1;omega;erw[Sa ?_];show wpAny _ _ (if (!t.led && !e.isEmpty)=true then unsupported _ else pure Unit.unit) _ _ _;rw[SX (by rw[C];simp)];exact Sb (Sb h)
open PySem PyProof.Rows
def vK:Slot "set_iterator" "__iter__" "set_iterator.__iter__" := .of (owner := "set_iterator") (n := "__iter__") (by rw[typeLookup_type,builtinLookup_eq_fast];kernel_rfl) () () () (by first|exact .inl ()|exact .inr ()) (by rw[isSubtype_type];kernel_rfl)
def Zfy:entryFor table "set_iterator.__iter__"=some Builtin.«dict_keyiterator.__iter__»:=entryFor_alias (id' := "dict_keyiterator.__iter__") (by kernel_rfl) R () (by kernel_rfl)
def Zfz(a:Value):argsOk "set_iterator.__iter__" ⟨[a],[]⟩:=by unfold argsOk;kernel_rfl
def Np(x:Wr s.heap I f i p n c)(h:Q (.ref I) s):wpAny (model prog w) A (pyIter (.ref I)) Q E s:=by
 erw[wpAny_pyIter_slot x.ty vK (wpAny_call_entry vK x.ty Zfy (show wpAny _ _ (ret (.ref I)) _ _ s from ?_) (Zfz _))];exact Sb ⟨_,R,"set_iterator",_,x.ty,vF,h⟩
def Wr.keep{h h':Heap}(x:Wr h I f i p n c)(k:∀o,h.get? I=some o->h'.get? I=some o):Wr h' I f i p n c:=let ⟨o,ho,r⟩:=x;⟨o,k _ ho,r⟩
def Vc.keep{h h':Heap}(x:Vc h p e c t)(k:∀o,h.get? p=some o->h'.get? p=some o):Vc h' p e c t:=let ⟨o,ho,r⟩:=x;⟨o,k _ ho,r⟩
def A5.keep{h h':Heap}(x:A5 h T ys)(k:∀o,h.get? T=some o->h'.get? T=some o):A5 h' T ys:=let ⟨o,ho,r⟩:=x;⟨o,k _ ho,r⟩
def ZfA(D:A.handled=none)(I p f:Nat)(H:p≠I)(c:Array (Int×Value))(t:OL)(B:w.params.followText "set-order"=true) :
  Walks prog w A I [I,p] [I] c.size (λi v=>((pickOrder (w.params.setOrder p f) c).toList.map (·.2))[i]? = some v) (λi h=>Wr h I (.int 0 0) i p c.size f/\Vc h p f c t) where
 sub:=λb j=>by rw[SG]at j;rw[j];exact SF
 frame:=λ_ _ _ st k=>⟨st.1.keep (k I SF),st.2.keep (k p (SE _ SF))⟩
 item:=λi s Q E O st u=>by
  have J:i<(pickOrder (w.params.setOrder p f) c).size:=by
   have:=(No (w.params.setOrder p f) c).length_eq;rw[Array.length_toList,Array.length_toList]at this;lia
  have g:=Array.getElem?_eq_getElem J;erw[vG (nx:=0) (x:=((pickOrder (w.params.setOrder p f) c)[i]).2) (slot:=0) st.1 st.2 (λL M G q=>vI B st.2 (by rwa[g])) λy C j=>?_];erw[u _ y s.toks ?_ ⟨C,st.2.keep λo e=>j.extBut p o H e⟩ λb o hn e=>j.extBut b o (λz=>hn (by rw[z];exact SG.mpr R)) e];rw[Oc,Array.getElem?_toList,g];rfl
 done:=λs Q E st u=>by
  have g:(pickOrder (w.params.setOrder p f) c)[c.size]? = none:=by
   have:=(No (w.params.setOrder p f) c).length_eq;rw[Array.length_toList,Array.length_toList]at this;exact Array.getElem?_eq_none ()
  exact vH (slot:=0) D st.1 st.2 (λL M G q=>vI B st.2 (by rwa[g])) λy j=>u y s.toks λb o hn e=>j b o (λz=>hn (by rw[z];exact SG.mpr R)) e
 self:=λ_ _ _ _ st u=>Np st.1 u
def V9(t:OL):Nat->Nat
 |0=>0
 |i+1=>t.place.getD i 0+1
theorem vL{t:OL}(h:UQ t.place):∀i,i<=t.place.size->SetTable.below t.place (V9 t i)=i
 |0,_=>by
  obtain⟨y,q,v⟩:=Nm (j:=V9 t 0) h;by_cases c:SetTable.below t.place (V9 t 0)=0;exact c;exact Ov (q 0 ()) (Nat.not_lt_zero _)
 |i+1,u=>by
  obtain⟨y,q,v⟩:=Nm (j:=V9 t (i+1)) h;have e:∀k d,k<t.place.size->t.place.getD k d=t.place.getD k 0:=λk d f=>by simp[Array.getD,f]
  have C:i<SetTable.below t.place (V9 t (i+1)):=by
   by_cases c:SetTable.below t.place (V9 t (i+1))<=i;have:=v i c u;rw[e i _ u]at this;exact Ov this (Nat.not_succ_le_self _);omega
  by_cases B:SetTable.below t.place (V9 t (i+1))=i+1;exact B;have l:=q (i+1) ();have f:i+1<t.place.size:=by lia
  rw[e _ _ f]at l;have r:t.place.getD i 0<t.place.getD (i+1) 0:=K7 (d:=0) h (Sn i) f;have D:t.place.getD (i+1) 0<t.place.getD i 0+1:=l;lia
def ZfB(S:A.handled=none)(I p D:Nat)(U:p≠I)(c:Array (Int×Value))(t:OL)(y:w.params.followText "set-order"=false) (B:t.plain=true\/c.size<=1) (C:t.led=true) (hz:t.place.size=c.size) (H:UQ t.place) :
  Walks prog w A I [I,p] [I] c.size (λi v=>(c.toList.map (·.2))[i]? = some v) (λi h=>Wr h I (.int (V9 t i) 0) i p c.size D/\Vc h p D c t) where
 sub:=λb f=>by rw[SG]at f;rw[f];exact SF
 frame:=λ_ _ _ st k=>⟨st.1.keep (k I SF),st.2.keep (k p (SE _ SF))⟩
 item:=λi s Q E M st j=>by
  have g:=Array.getElem?_eq_getElem M;have G:i<t.place.size:=by lia
  have g2:=Array.getElem?_eq_getElem G;have L:V9 t (i+1)=t.place[i]+1:=by
   show t.place.getD i 0+1=_;simp[Array.getD,G]
  erw[vG (nx:=t.place[i]+1) (x:=(c[i]).2) (slot:=V9 t i) st.1 st.2 (λO P T q=>vJ y B C st.2 (by rwa[vL H i (),g,g2])) λu J f=>?_];erw[j _ u s.toks ?_ ⟨by rwa[L],st.2.keep λo e=>f.extBut p o U e⟩ λb o hn e=>f.extBut b o (λz=>hn (by rw[z];exact SG.mpr R)) e];rw[Oc,Array.getElem?_toList,g];rfl
 done:=λs Q E st j=>by
  have g:c[c.size]? = none:=Array.getElem?_eq_none (Sh _);exact vH (slot:=V9 t c.size) S st.1 st.2 (λO P T q=>vJ y B C st.2 (by rwa[vL H _ (),g])) λu f=>j u s.toks λb o hn e=>f b o (λz=>hn (by rw[z];exact SG.mpr R)) e
 self:=λ_ _ _ _ st j=>Np st.1 j
def ZfC(H:A.handled=none)(I p T C:Nat)(L:p≠I)(J:T≠I)(f:Array (Int×Value))(t:OL)(ys:OJ)(y:List.Perm ys (List.range f.size)) :
  Walks prog w A I [I,p,T] [I] f.size (λi v=>(ys.map λj=>(f.getD j (0,.none)).2)[i]? = some v) (λi h=>Wr h I (.ref T) i p f.size C/\Vc h p C f t/\A5 h T ys) where
 sub:=λb c=>by rw[SG]at c;rw[c];exact SF
 frame:=λ_ _ _ st k=>⟨st.1.keep (k I (by simp)),st.2.1.keep (k p (by simp)),st.2.2.keep (k T (by simp))⟩
 item:=λi s Q E M st q=>by
  have D:i<ys.length:=by have:=y.length_eq;rw[List.length_range]at this;lia
  have g:=Sv D;have B:ys[i]<f.size:=List.mem_range.mp (y.mem_iff.mp (Ol D));erw[Zfw st.1 st.2.1 st.2.2 g (Array.getElem?_eq_getElem B) λu G c=>?_];erw[q _ u s.toks ?_ ⟨G,st.2.1.keep λo e=>c.extBut p o L e,st.2.2.keep λo e=>c.extBut T o J e⟩ λb o hn e=>c.extBut b o (λz=>hn (by rw[z];exact SG.mpr R)) e];rw[Oc,g];simp[Array.getD,B]
 done:=λs Q E st q=>by
  have g:ys[f.size]? = none:=List.getElem?_eq_none (by have:=y.length_eq;rw[List.length_range]at this;lia);exact Zfx H st.1 st.2.1 st.2.2 g λu c=>q u s.toks λb o hn e=>c b o (λz=>hn (by rw[z];exact SG.mpr R)) e
 self:=λ_ _ _ _ st q=>Np st.1 q
def ZfD{l:List (Int×Value)}(h:∀e∈l,∃t,e.2=.int (keyOf e) t):IntsAre (l.map (·.2)) (l.map keyOf):=by
 induction l with
 |nil=>exact .nil
 |cons e r f =>
  obtain⟨t,q⟩:=h e SF;rw[SO,SO,q];exact .cons _ t (f λx c=>h x (SE _ c))
def ZfE{e:Type}(c:Array e)(d:e):(List.range c.size).map (λj=>c.getD j d)=c.toList:=by
 erw[List.ext_getElem (by simp) λi q f=>?_];have h:i<c.size:=by simpa using f
 simp[Array.getD,h]
def ZfF{ks:OH}(T:A.handled=none)(y:Xl prog w s.heap p ks)(hk:ks.length<=1000)
  (h:∀(I:Addr) (fp:OK) (St:Nat->Heap->Prop) (h':Heap) (d:Drawn) (its:OE) (ns:OH),Walks prog w A I fp [I] its.length (λi v=>its[i]? = some v) St->St 0 h' ->
   (∀b o,s.heap.get? b=some o->h'.get? b=some o)->(∀b∈fp,b=p\/s.heap.objs.size<=b)->s.heap.objs.size<=I->IntsAre its ns->ns.Nodup->(∀k,k∈ns↔k∈ks)->its.length<=ks.length->Q (.ref I) {s with heap:=h',drawn:=d}) :
  wpAny (model prog w) A (pyIter (.ref p)) Q E s:=by
 ext⟨o,f,q,t,Y,a0,hd,b0,M,ht,hl,nd,mem,sz⟩ y;have y:Vc s.heap p q f t:=⟨o,Y,a0,hd,M⟩;have S:p<s.heap.objs.size:=Sf Y;have hz:t.place.size=f.size:=by
  unfold SetTable.fits at M;rw[Bool.and_eq_true]at M;exact beq_iff_eq.mp M.1
 have P:∀(l:List (Int×Value)),List.Perm l f.toList->IntsAre (l.map (·.2)) (l.map keyOf)/\(l.map keyOf).Nodup/\(∀k,k∈l.map keyOf↔k∈ks)/\(l.map (·.2)).length=f.size:=λl B =>
  ⟨ZfD λe he=>vB b0 (B.mem_iff.mp he),(B.map keyOf).nodup_iff.mpr nd,λk=>((B.map keyOf).mem_iff).trans (mem k),by rw[Sx,B.length_eq,Array.length_toList]⟩
 have X:∀b∈[s.heap.objs.size,p],b=p\/s.heap.objs.size<=b:=λb D=>by
  simp only[SH,List.not_mem_nil,or_false]at D;rcases D with rfl|rfl;exact .inr (Sh _);exact .inl rfl
 erw[Zfu y (λc=>?_) (λH d U=>?_) (Si (Si sz hk) ())];cases O:w.params.followText "set-order" with
 |true =>
  obtain⟨C,G,L,u⟩:=P _ (No (w.params.setOrder p q) f);have W:=ZfA (prog:=prog) T s.heap.objs.size p q (Sg S) f t O;rw[<-u]at W;exact h _ _ _ _ s.drawn _ _ W ⟨⟨_,Se _ R,R,by rw[u];rfl⟩,y.keep λo e=>Sc _ e⟩ (λb o e=>Sc _ e) X (Sh _) C G L ()
 |false =>
  have J:t.plain=true\/f.size<=1:=by
   rcases c with c|c;rw[O]at c;cases c;exact c
  have hr:UQ t.place:=by
   rcases J with J|J;exact ht.ri J;have c0:t.place.toList.length<=1:=by rw[Array.length_toList];lia
   show List.Pairwise _ _
   match t.place.toList,c0 with
   |[],_=>exact .nil
   |[a],_=>exact List.pairwise_singleton _ _
  obtain⟨C,G,L,u⟩:=P _ (.refl _);have W:=ZfB (prog:=prog) T s.heap.objs.size p q (Sg S) f t O J (hl O) hz hr;rw[<-u]at W;exact h _ _ _ _ s.drawn _ _ W ⟨⟨_,Se _ R,R,by rw[u];rfl⟩,y.keep λo e=>Sc _ e⟩ (λb o e=>Sc _ e) X (Sh _) C G L ()
 have B:List.Perm (H.map λj=>f.getD j (0,.none)) f.toList:=by
  have:=U.map λj=>f.getD j (0,Value.none);rw[ZfE]at this;exact this
 obtain⟨C,G,L,u⟩:=P _ B;have W:=ZfC (prog:=prog) (w:=w) (A:=A) T (s.heap.objs.size+1) p s.heap.objs.size q (Sg (So S)) (Sg (Sn _)) f t H U;rw[Og]at C u;have Z:(H.map λj=>(f.getD j (0,.none)).2).length=f.size:=u;rw[<-Z]at W;have gI:((s.heap.push {cls:=.type "tuple",data:=.seq (H.map λi=>rawInt (i:Nat)).toArray}).push {cls:=.type "set_iterator",data:=.fields #[.ref s.heap.objs.size,.int 0 0,.ref p,.int f.size 0,.int q 0]}).get? (s.heap.objs.size+1)=some {cls:=.type "set_iterator",data:=.fields #[.ref s.heap.objs.size,.int 0 0,.ref p,.int f.size 0,.int q 0]}:=by
  have:=Se (s.heap.push {cls:=.type "tuple",data:=.seq (H.map λi=>rawInt (i:Nat)).toArray}) (o:={cls:=.type "set_iterator",data:=.fields #[.ref s.heap.objs.size,.int 0 0,.ref p,.int f.size 0,.int q 0]}) R;rw[Heap.size_push]at this;exact this
 erw[h _ _ _ _ d _ _ W ⟨⟨_,gI,R,by rw[Z];rfl⟩,y.keep λo e=>Sc _ (Sc _ e),⟨_,Sc _ (Se _ R),R,_,R⟩⟩ (λb o e=>Sc _ (Sc _ e)) (λb D=>?_) (Nat.le_succ _) C G L ()];simp only[SH,List.not_mem_nil,or_false]at D;rcases D with rfl|rfl|rfl;exact .inr (Nat.le_succ _);exact .inl rfl;exact .inr (Sh _)
open PySem PyProof.Rows
def ZfG(c:s.TypeIs (.ref r) "set") (h:Q false s):wpAny (model prog w) A (Builtin.List.listLengthHint (.ref r)) Q E s:=by
 unfold Builtin.List.listLengthHint;erw[Sa (wpAny_specialOf c F.slot_set_len.lookup ?_)];generalize e:("set.__len__" : String)=f
 wp_delta;rw[show splitId f=some ("set","__len__")from by subst e;lia]
 subst e;erw[Sa (wpAny_isInstance (T := "set") (b:=true) c (by rw[isSubtype_type];kernel_rfl) ?_)];erw[wpAny_ite_split (λz=>Ov z ()) (λ_=>wpAny_ite_split (λ_=>?_) (λz=>Ov () z))];exact Sa (wpAny_typeOf c (Sb h))
def Nq(ks:OH)(its:OE):Prop:=∃ns,IntsAre its ns/\ns.Nodup/\(∀k,k∈ns↔k∈ks)/\its.length<=ks.length
def Xl.ty(x:Xl prog w s.heap p ks):s.TypeIs (.ref p) "set" := let ⟨o,_,_,_,ho,hex,_⟩:=x;⟨o,ho,hex.1⟩
def Xl.lt{h:Heap}(x:Xl prog w h p ks):p<h.objs.size:=let ⟨_,_,_,_,ho,_⟩:=x;Sf ho
def ZfH{its:OE}{c:Array Value}(h:ItemsOf (λi v=>its[i]? = some v) c its.length):c.toList=its:=by
 erw[List.ext_getElem? λi=>?_];by_cases f:i<its.length;have ha:i<c.size:=by rwa[h.1]
 have:=h.2 i c[i] (Array.getElem?_eq_getElem ha);rw[Array.getElem?_toList,Array.getElem?_eq_getElem ha,this];have e:c.toList.length=its.length:=by rw[Array.length_toList,h.1]
 rw[List.getElem?_eq_none (l:=its) (),List.getElem?_eq_none (l:=c.toList) ()]
def ZfI{R:Result->Shared->Prop}{ks:OH}(hh:A.handled=none)(D:Xl prog w s.heap p ks)(O:ks.length<=1000)(X:S≠p)
  (Q:s.heap.get? S=some {cls:=.type "list",data:=.seq #[] M})
  (hR:∀G d tk B c,(∀b o,b≠S->s.heap.get? b=some o->G.get? b=some o)->G.get? S=some {cls:=.type "list",dict:=none,data:=.seq B c,slots:=#[]}->Nq ks B.toList->R (.ok (.ret res)) {s with heap:=G,drawn:=d,toks:=tk}) :
  wpAny (model prog w) A.in1 (Builtin.List.listExtendWith (.ref S) (.ref p) res) (λv i=>match v with|.done f=>R (.ok f) i|.again y=>y.quiet=true/\codeAny (model prog w) A y R i) (λe i=>R (.error e) i) s:=by
 unfold Builtin.List.listExtendWith;erw[Sa (wpAny_typeOf (T := "set") D.ty ?_)];have e1:Builtin.List.listSameRef (.ref S) (.ref p)=false:=by simp[Builtin.List.listSameRef,X]
 have e2:(Value.type "set"==Value.type "list")=false:=by lia
 have e3:(Value.type "set"==Value.type "tuple")=false:=by lia
 simp only[e1,e2,e3,Bool.or_false,Bool.false_eq_true,if_false];erw[Sa (ZfF (A:=A.in1) hh D O λI fp St C d its ns W st keep b0 H i1 i2 i3 P=>?_)];have U:=Sf Q;have J:S∉fp:=λz=>by
  rcases b0 S z with e|e;exact X e;exact Ov U (Oi.mpr e)
 have d0:I≠S:=λz=>Ov U (Oi.mpr (by rwa[<-z]));have g1:=keep _ _ Q;have v:∀(h:Heap) (c:Nat) (tk:Nat),St 0 h->(∀b o,b≠S->s.heap.get? b=some o->h.get? b=some o)->h.get? S=some {cls:=.type "list",data:=.seq #[] c} ->
   codeAny (model prog w) A (.builtin "list.extend.loop" ⟨[.ref S,.ref I,res],[]⟩) R {s with heap:=h,drawn:=d,toks:=tk}:=λh c tk a0 k g=>by
  erw[codeAny_extend_loopS W.toS (Si (Si P O) ()) S J res its.length 0 _ #[] c rfl (Sl _) a0 g (ItemsOf.nil _) λi B y hm g' c0=>?_];have e:=ZfH c0;have Y:i = {s with heap:=i.heap,drawn:=d,toks:=i.toks}:=by
   ext⟨a1,a2,a3,a4,a5⟩ i;have Z:a2=s.gens:=hm.gens;have b2:a3=d:=hm.drawn;have b3:a5=s.os:=hm.os;subst Z b2 b3;rfl
  rw[Y];erw[hR i.heap d i.toks B y (λb o u q=>hm.heap b o (λz=>?_) (k b o u q)) g' (by rw[e];exact⟨ns,i1,i2,i3,P⟩)];rcases SH.mp z with z|z;exact u z;exact Ov (Sf q) (Oi.mpr (by rwa[SG.mp z]))
 erw[Sa (wpAny_holding (ZfG (s:={s with heap:=C,drawn:=d}) (D.keep (keep p)).ty ?_))];erw[wpAny_ite_split (λ_=>?_) (λ_=>Sb ⟨plainId_quiet F.plain_extend_loop _,v _ M _ st (λb o _ e=>keep b o e) g1⟩)];erw[Sa (wpAny_rule (Sa ?_))];show wpAny _ _ (updateSeq S (λj=>j.push .none) >>= λ_=>updateSeq S (λj=>j.pop)) _ _ _;erw[Sa (wpAny_updateSeq (s:={s with heap:=C,drawn:=d}) g1 rfl ?_)];have g2:=Heap.get?_update_self (Obj.mapSeq (λj=>j.push Value.none)) g1 rfl;erw[wpAny_updateSeq (s:={s with heap:=C.update S (Obj.mapSeq (λj=>j.push Value.none)),drawn:=d}) (hz:=by seq_fits) g2 rfl ?_];have g3:=Heap.get?_update_self (Obj.mapSeq (λj=>j.pop)) g2 rfl;erw[Sb ⟨plainId_quiet F.plain_extend_loop _,v _ _ _ (W.frame 0 _ _ st λb u o e=>?_) (λb o u e=>?_) g3⟩];have L:b≠S:=λz=>J (z ▸ u);exact(Heap.get?_update_other _ _ (Ne.symm L)).trans ((Heap.get?_update_other _ _ (Ne.symm L)).trans e);exact(Heap.get?_update_other _ _ (Ne.symm u)).trans ((Heap.get?_update_other _ _ (Ne.symm u)).trans (keep b o e))
def ZfJ{R:List Value->Shared->Prop}{ks:OH}(C:A.handled=none)(u:Xl prog w s.heap p ks)(G:ks.length<=1000)
  (h:∀h' d tk its,(∀b o,s.heap.get? b=some o->h'.get? b=some o)->Nq ks its->R its {s with heap:=h',drawn:=d,toks:=tk}):wpAny (model prog w) A (collect (.ref p)) R E s:=by
 have lt:=u.lt;unfold collect;erw[Sa (wpAny_runValue (codeAny_builtin F.entry_proto_collect ?_))];rw[Around.under_plainId F.plain_proto_collect _];show wpAny _ A.in1 (newList [] >>= λI=>again (.builtin "list.__iadd__" ⟨[I,.ref p],[]⟩)) _ _ s;erw[Sa (wpAny_newObj_type (Sb ⟨plainId_quiet F.plain_list_iadd _,codeAny_builtin F.entry_list_iadd ?_⟩))];rw[Around.under_plainId F.plain_list_iadd _];have H:(s.heap.push {cls:=.type "list",data:=.seq ([]:OE).toArray}).get? s.heap.objs.size=some {cls:=.type "list",data:=.seq #[]}:=Se _ rfl;have D:=ZfI (A:=A) (s:={s with heap:=s.heap.push {cls:=.type "list",data:=.seq ([]:OE).toArray} }) (res:=.ref s.heap.objs.size)
  (R:=λ(q:Result) (j:Shared)=>∃(h':Heap) (d:Drawn) (tk:Nat) (i:Array Value) (c:Nat),q=.ok (.ret (.ref s.heap.objs.size))/\j = {s with heap:=h',drawn:=d,toks:=tk}/\(∀b o,s.heap.get? b=some o->h'.get? b=some o) /\
   h'.get? s.heap.objs.size=some {cls:=.type "list",dict:=none,data:=.seq i c,slots:=#[]}/\Nq ks i.toList) C (u.keep λo e=>Sc _ e) G (Nat.ne_of_gt lt) H
  (λh' d tk i c k g m=>⟨h',d,tk,i,c,rfl,rfl,λb o e=>k b o (Sg (Sf e)) (Sc _ e),g,m⟩)
 show wpAny _ A.in1 (Builtin.List.listExtendWith (.ref s.heap.objs.size) (.ref p) (.ref s.heap.objs.size)) _ _ _;erw[Ou D (λB j x=>?_) λe j x=>?_];cases B with
 |done f =>
  ext⟨h',d,tk,i,c,e,rfl,k,g,m⟩ x;cases e;exact Sa (m:=load s.heap.objs.size) (Ot g (Sb (h h' d tk _ k m)))
 |again J =>
  erw[⟨x.1,codeAny_mono x.2 λq s2 y=>?_⟩];ext⟨h',d,tk,i,c,rfl,rfl,k,g,m⟩ y;exact Sa (m:=load s.heap.objs.size) (Ot g (Sb (h h' d tk _ k m)))
 ext⟨_,_,_,_,_,v,_⟩ x;cases v
def IntsAre.len{vs:OE}{ns:OH}(h:IntsAre vs ns):vs.length=ns.length:=by
 induction h with
 |nil=>rfl
 |cons n t _ c=>rw[SA,SA,c]
def ZfK{zs:OH}(h:zs.Pairwise (·<=·))(n:zs.Nodup):zs.Pairwise (· < ·) :=
 (List.Pairwise.and h n).imp λ⟨a,b⟩=>by lia
def ZfL{ks:OH}(M:A.handled=none)(B:Xl prog w s.heap p ks)(y:ks.length<64)
  (h:∀(D:Addr) (h':Heap) (d:Drawn) (tk:Nat) (out:Array Value) (e:Nat) (zs:OH),(∀b o,s.heap.get? b=some o->h'.get? b=some o)->s.heap.get? D=none->h'.get? D=some (seqObj "list" out e)->IntsAre out.toList zs->zs.Pairwise (· < ·) ->
   (∀k,k∈zs↔k∈ks)->zs.length<=ks.length->Q (.ref D) {s with heap:=h',drawn:=d,toks:=tk}):wpAny (model prog w) A (call (.builtin "sorted") [.ref p]) Q E s:=by
 erw[Calls.call_function_entry kind_sorted plain_sorted entry_sorted (args_sorted1 _) ?_];unfold Builtin.«sorted»;erw[Sa (m:=checkCount "sorted" 1 1 _) (Sb (Sa (ZfJ (A:=A.in1) M B () λf d tk its keep mt=>?_)))];ext⟨ns,v,I,L,G⟩ mt;have H:its.length<=sizeLine:=Si (Si G (Nat.le_of_lt y)) ();erw[Sa (wpAny_newList ?_ H)];have g:(f.push (seqObj "list" its.toArray 0)).get? f.objs.size=some (seqObj "list" its.toArray 0):=Se _ R;have no:s.heap.get? f.objs.size=none:=by
  cases c:s.heap.get? f.objs.size with
  |none=>rfl
  |some o=>exact Ov (Sf (keep _ _ c)) (Sm _)
 erw[Sa (wpAny_holding (wpAny_call_entry (s:={s with heap:=f.push (seqObj "list" its.toArray 0),drawn:=d,toks:=tk}) slot_list_sort ⟨_,g,R⟩ entry_list_sort (list_sort_tree g v () λout u O i P=>⟨_,R,?_⟩) (args_list_sort _)))];obtain⟨e,C⟩:=sortedHeap_at (out:=out) g;have J:u.Nodup:=i.nodup_iff.mpr I;erw[Sb ⟨_,R,h f.objs.size _ d tk out e u (λb o q=>?_) no C O (ZfK P J) (λk=>(i.mem_iff).trans (L k)) (by have:=i.length_eq;have:=IntsAre.len v;lia)⟩];have j:=Sf (keep b o q);exact(sortedHeap_old (Sg j) (by rw[Heap.size_push];exact So j)).trans (Sc _ (keep b o q))
def Ua(w:World):Obj:={cls:=.type "set",dict:=none,data:=.set #[] 0 (.fresh 0 0 (!w.params.followText "set-order"))}
def ZfM{h:Heap}(g:h.get? a=some (Ua w)):Xl prog w h a [] :=
 ⟨_,#[],0,_,g,⟨R,R,R⟩,R,(λe c=>by cases c),rfl,⟨rfl,λ_=>List.Pairwise.nil⟩,(λz=>by show(!w.params.followText "set-order")=true;rw[z];rfl),List.Pairwise.nil,(λk=>by simp),Sl _⟩
def ZfN(x:Value)(h:Q (.ref s.heap.objs.size) {s with heap:=s.heap.push (Ua w)}) :
  codeAny (model prog w) A (.call (.builtin "set.__new__") ⟨[.type "set",x],[]⟩) (wants Q E) s:=by
 erw[codeAny_of_tree (show wpAny _ A.in1 (do checkBuiltinCall "set.__new__" ⟨[.type "set",x],[]⟩;again (.builtin "set.__new__" ⟨[.type "set",x],[]⟩)) _ _ s from ?_)];erw[Sa (wpAny_of_eq (PySem.F.newCall_set_1 x) (Sb ⟨plainId_quiet PySem.F.plain_set_new _,codeAny_builtin PySem.F.entry_set_new ?_⟩))];rw[Around.under_plainId PySem.F.plain_set_new _];unfold Builtin.«set.__new__» Builtin.Frozenset.newClass;have c:=sub_set_self;ext⟨e,g,d,tk,os⟩ s;dsimp only;wp_walk;erw[wpAny_askSetting (Sb ?_)];dsimp only;simp only[newObj];exact Sa (wpAny_alloc (Sb (Sb h)))
def ZfO{items:Array Value}{ns:OH}(hh:A.handled=none)(T:s.heap.IsList l items)(hi:IntsAre items.toList ns)(I:items.size+1<scanBound)
  (h:∀(h':Heap) (tk:Nat),Xl prog w h' s.heap.objs.size ((List.range items.size).map λi=>ns.getD i 0)->(∀b o,s.heap.get? b=some o->h'.get? b=some o)->Q (.ref s.heap.objs.size) {s with heap:=h',toks:=tk}) :
  wpAny (model prog w) A (call (.type "set") [.ref l]) Q E s:=by
 ext⟨d0,tl,mr⟩ PySem.F.called_set.mro;have md:=PySem.F.called_set.made;have sb:=PySem.F.called_set.sub;erw[wpAny_call (codeAny_of_tree (show wpAny _ _ (callAny (.type "set") _) _ _ _ from Sb ⟨Code.quiet_builtin _ (),codeAny_builtin PySem.F.entry_type_call ?_⟩))];rw[Around.under_plain (weight_type_call_type "set" [.ref l] []) rfl];have k1:=PySem.F.called_set.notType;have k2:=PySem.F.called_set.canCreate;have k3:=PySem.F.typeCall_set_1 (.ref l)
 repeat (any_goals (first|assumption|wp_step))
 erw[codeAny_mono (ZfN (.ref l) (E:=E) (Q:=λob G=>ob=.ref s.heap.objs.size/\G = {s with heap:=s.heap.push (Ua w)}) ⟨rfl,rfl⟩) λr G j=>?_];cases r with
 |error e=>exact j
 |ok fl =>
  cases fl with
  |ret ob =>
   ext⟨rfl,rfl⟩ j;have H:(s.heap.push (Ua w)).get? s.heap.objs.size=some (Ua w):=Se _ rfl;have hT:Shared.TypeIs {s with heap:=s.heap.push (Ua w)} (.ref s.heap.objs.size) "set" := ⟨_,H,rfl⟩;have u1:=PySem.F.called_set.init.lookup;have u2:=PySem.F.called_set.init.bind (.ref s.heap.objs.size)
   repeat (any_goals (first|assumption|wp_step))
   refine codeAny_mono (codeAny_call_builtin (R:=wants (λr s2=>r=.none/\∃h' tk,s2 = {s with heap:=h',toks:=tk}/\Xl prog w h' s.heap.objs.size ((List.range items.size).map λi=>ns.getD i 0)/\(∀b o,s.heap.get? b=some o->h'.get? b=some o)) E)
    PySem.F.called_set.init.plain PySem.F.entry_set_init (check_set_init_1 hT ?_)) λZ s2 c=>?_
   obtain⟨ol,C,D,q,v⟩:=id T;ext⟨oc,P,c0,os⟩ ol;simp only at D v;subst D;subst v;have v1:(s.heap.push (Ua w)).get? l=some {cls:=.type "list",dict:=P,data:=.seq items q,slots:=os}:=Sc _ C;have v2:=PySem.F.sub_list_set;have v3:=PySem.F.sub_list_frozenset;have v4:(Value.type "list"==Value.type "dict")=false:=by lia
   have y:(s.heap.push (Ua w)).IsList l items:=⟨_,v1,rfl,q,rfl⟩;have fd:(Ua w).data=.set #[] 0 (.fresh 0 0 (!w.params.followText "set-order")):=rfl;unfold Builtin.«set.__init__» noKeywords Builtin.Frozenset.updateFrom;generalize M:pyIter=PI
   wp_walk
   subst M;erw[wpAny_pyIter_list y (Sa (wpAny_runValue ?_))];have B:l<s.heap.objs.size:=Sf C;have U:A.in1.in1.in1.handled=none:=by simp[hh]
   have J:l≠(s.heap.push (Ua w)).objs.size:=by rw[Heap.size_push];exact Sg (So B)
   have nS:s.heap.objs.size∉[(s.heap.push (Ua w)).objs.size,l]:=by
    rw[Heap.size_push];intro z;simp only[SH,List.not_mem_nil,or_false]at z;rcases z with z|z;exact Ov z (Sg (Sn _));exact Ov z (Nat.ne_of_gt B)
   refine Zfr ((Walks.list U _ l J items).toS) s.heap.objs.size nS (λi=>ns.getD i 0) (λi b0 hv=>IntsAre.int_at hi i b0 (by rw[Array.getElem?_toList];exact hv)) I (items.size - 0) 0 _ () (Sl _)
    ⟨⟨_,Se _ rfl,rfl,rfl⟩,(y.push _)⟩ (ZfM (Sc _ H)) λs' hm f=>?_
   ext⟨h',g',Y,S,L⟩ s';have X:g'=s.gens:=hm.gens;have ed:Y=s.drawn:=hm.drawn;have eo:L=s.os:=hm.os;subst X ed eo;erw[Sb (Sb ⟨rfl,h',S,rfl,f,λb o e=>?_⟩)];have u:=Sf e;erw[hm.heap b o (λz=>?_) (Sc _ (Sc _ e))];simp only[SH,List.not_mem_nil,or_false]at z;rcases z with z|z;exact Ov z (Sg u);rw[Heap.size_push]at z;exact Ov z (Sg (So u));cases Z with
   |error e=>exact c
   |ok O =>
    cases O with
    |ret r =>
     ext⟨rfl,h',tk,rfl,f,a0⟩ c
     repeat (any_goals (first|assumption|wp_step))
     exact h _ _ f a0
    |_=>exact c.elim
  |_=>exact j.elim
def Zb.drawnTo(I:Zb X pins c H s)(d:Drawn):Zb X pins c H {s with drawn:=d}:=⟨I.ok,I.os,I.bare,I.base,I.loc,I.cell,I.free,I.freeC,I.pin,I.hok,I.len⟩
def F6(P:Program)(w:World)(a:Addr)(ks:OH):HO:=.ext λh=>Xl P w h a ks
def ZfP(x:Xl P w h a ks):Ym P w H h a (F6 P w a ks) :=
 ⟨x,let ⟨o,_,_,_,ho,_⟩:=id x;⟨o,ho⟩,λc e y k=>Xl.keep (h:=c) y k⟩
theorem vM:∀{ns:OH} {us:OE},ZB (ns.map V.int) us->IntsAre us ns
 |[],_,.nil=>.nil
 |n::r,_,.cons (b:=u) h t=>by
  ext⟨tk,rfl⟩ h;exact .cons n tk (vM t)
theorem vN:∀{ns:OH} {us:OE},IntsAre us ns->ZB (ns.map V.int) us
 |_,_,.nil=>.nil
 |_,_,.cons n t h=>.cons ⟨t,R⟩ (vN h)
def vO(C:X.calm=true):YT X (.type "set") (λxs H Q=>∃(p:Addr) (ns:OH),xs=[.ref p]/\Zg X.K H p (ns.map V.int)/\ns.length<=1000/\∀l,H l=none->Q (.ref l) (Za H l (F6 X.prog X.w l ns))):=by
 intro pins s P H xs J Q I r h;ext⟨p,ns,rfl,y,L,q⟩ h;obtain⟨u,rfl,E⟩:=XF r;cases E;obtain⟨its,B,v,O⟩:=I.list y;have j:IntsAre its ns:=vM B;have c:its.length=ns.length:=IntsAre.len j;erw[ZfO (I.ok.hd C) v.isList (by simpa using j) (by rw[SQ,c];show _<4096;lia) λM tk f keep=>?_];have e:(List.range its.toArray.size).map (λi=>ns.getD i 0)=ns:=by
  rw[SQ,c];erw[List.ext_getElem (by simp) λi G D=>?_];simp[List.getD_eq_getElem?_getD,D]
 rw[e]at f;exact⟨.ref _,_,I.laid (t':=tk) keep (Sh _) (ZfP f),R,q _ (I.hok.fresh (Sh _))⟩
def vP(j:X.calm=true):YT X (.builtin "sorted") (λxs H Q=>∃(p:Addr) (ks:OH),xs=[.ref p]/\H p=some (F6 X.prog X.w p ks)/\ks.length<64 /\
  ∀(l:Addr) (zs:OH),H l=none->zs.Pairwise (· < ·)->(∀k,k∈zs↔k∈ks)->zs.length<=ks.length->Q (.ref l) (Za H l (.lst (zs.map V.int)))):=by
 intro pins s L H xs J Q I r h;ext⟨p,ks,rfl,E,f,q⟩ h;obtain⟨u,rfl,G⟩:=XF r;cases G;have B:Xl X.prog X.w s.heap p ks:=(I.hok p _ E).1;erw[ZfL (I.ok.hd j) B f λD i d tk v e zs keep no g C pw mem c=>?_];have y:(zs.map V.int).length<=sizeLine:=by
  rw[Sx];exact Si (Si c (Nat.le_of_lt f)) ()
 have new:Ym X.prog X.w (Za H D (.lst (zs.map V.int))) i D (.lst (zs.map V.int)):=⟨y,v.toList,e,vN C,by rwa[Array.toArray_toList]⟩;exact⟨.ref D,_,(I.laidN (t':=tk) keep no new).drawnTo d,R,q D zs (I.hasNo no) pw mem c⟩
def Nr{pos' Q:Pos}{iter : Expr}{E:OG}{cl:OB}{P:TE}
  (w0:X.N.Nodup) (p0:X.N[i0]? = some h) (j0:Qz X.env.scope h) (hc:X.calm=true) (hi:PI X i iter U) (b0:closureFor scope X.env=pure cl) (k0:∀y∈scope.names,y.2≠.cell) (m0:scope.kind=.function)
  (u0:∀y∈scope.names,y.2=.local->scope.names.lookup y.1=some .local) (o0:Vb X scope cl N fr) (v0:VP X cl)
  (c0:((relabel scope X.env).names.all λp=>!(p.2==.cell || p.2==.free) || (cl.lookup p.1).isSome)=true)
  (hg:∀C q j ex pins,PG (XJ X N scope cl C q j ex pins) i g) (ht:∀C q j ex pins,F2 (XJ X N scope cl C q j ex pins) E tt) (he:∀C q j ex pins,PE (XJ X N scope cl C q j ex pins) u P)
  (l0:swapsWith (.ListComp u [⟨i,iter,E,0⟩] scope pos) (some (.Name h pos')) Q.line X.env=pure true:=by rfl) (q0:X.fn h=true\/X.env.scope.names.lookup h=some .local:=by first|exact .inl rfl|exact .inr rfl)
  (hs:∀v,foldedSetIterable iter X.env v=pure v:=by intro _;rfl):PS X (.Assign [.Name h pos'] (.ListComp u [⟨i,iter,E,0⟩] scope pos) Q) (KG (Nc fr U g tt P) (XE i0)):=by
 intro pins s Y y0 D0 f0 e0;rw[exec_Assign_Name_used _ _ _ _ l0];erw[Sa (wpAny_standAt (Sa ?_))];show wpAny _ _ (do let _ <-comprehension (.ListComp u [⟨i,iter,E,0⟩] scope pos) scope X.env _ (newList []) false (eval iter X.env) (some (assign (.Name h pos') X.env))) _ _ s;erw[Sa (Zs (wQ (Qf:=λ_ s'=>SP X pins D0 .next s') hc hi b0 k0 m0 u0 o0 v0 c0 hg ht he hs f0 e0 λD s2 H H2 T fp r0 its nD z0 J B f2 f Z va h0 qn S L=>?_) λ_ s' hq=>Sb (Sb hq))];ext⟨m6,d0,_⟩ f.loc;have M:=(f.pin (D,{cls:=.type "list",dict:=none,data:=.seq (List.toArray its) nD}) (SJ _ (SG.mpr R))).1;have I8:Zb X pins Y T H:=B.call' (s':=H) f.os f.base f.hok f.bare λb G=>let ⟨_,k1,_,k3,k4,k5⟩:=f2 b G;⟨k3,k1,k4,k5⟩;have I9:Zb X pins Y (Za T D (.lst r0)) H:=I8.trackS Z M R L (λp I=>Sg (S p I)) ⟨h0,its,nD,va,M⟩;have a0:X.env.locals<D+1:=by
  have:=B.lt;rw[J]at this;exact So this
 have O:∀x c,X.env.cells.lookup x=some c->c<D+1:=λx c e=>by
  obtain⟨v,g0⟩:=B.cell x c e;have lt:=g0.lt;rw[J]at lt;exact So lt
 erw[wpAny_assign_Name (yG (v:=.ref D) I9 w0 p0 j0 R (λs7 t0 L=>?_) q0)];ext⟨aa,sb,ha⟩ L;have nC:D+1≠aa:=by
  rcases ha with rfl|ha;exact Nat.ne_of_gt a0;exact Nat.ne_of_gt (O _ _ ha)
 erw[⟨m6,d0.sameBut sb nC,λh8 n0=>⟨_,_,t0.turned (h':=h8) (t':=s7.toks) (λb o G e=>n0.extBut b o G e) ?_ (Nat.ne_of_gt a0) (.inr ?_) (λx c e=>Sg (O x c e)) (λp I=>Sg (So (S p I))),qn D Z⟩⟩];rw[Ze (Nat.ne_of_gt (Sn D))];exact f.free;have:=B.sz;rw[J]at this;exact Nat.le_succ_of_le this
end L2
namespace K1
open PySem L2
structure Nt(l:OJ)(lo hi:Nat):Prop where
 one:1<=l.length
 few:l.length<=12
 up:l.Pairwise (· < ·)
 all:∀x∈l,lo<=x/\x<=hi
def RT.good:RT->Prop
 |.always=>True
 |.week b=>b<=127
 |.span a b r=>a<=b/\b<=9999/\r.good
 |.each n c=>1<=n/\n<=28/\Nt c 0 (n - 1)
 |.either r s|.both r s=>r.good/\s.good
 |.but ds r=>Nt ds 0 9999/\r.good
structure WD(K:OA)(C:Addr):Prop where
 ha:W.findIn K (.ref C) "__class__"=some (some (.builtin "object.__class__"))
 hn:W.specialIn K (.builtin "object.__class__") "__get__"=some (some (.builtin "getset_descriptor.__get__"))
 tk:W.takesIn K (.builtin "object.__class__")=some true
 hm:W.mroIn K C (.type "object")=some true
def WD.ty(o:WD K C)(c:YG K C)(e:H a=some (.ins C f fs)):XW K H (.ref a) (.ref C):=.ins e c o.ha o.hn o.tk o.hm
def Y6(c H:Hp):Hp:=λa=>match H a with
 |none=>c a
 |some _=>none
def Ub(n:H a=none)(e:c a=some o):Y6 c H a=some o:=by
 unfold Y6;rwa[n]
def A6(e:Y6 c H a=some o):H a=none/\c a=some o:=by
 unfold Y6 at e;cases h:H a with
 |none=>rw[h]at e;exact⟨R,e⟩
 |some u=>rw[h]at e;cases e
def Uc(c H:Hp):Zd (Y6 c H) c:=λ_ _ e=>(A6 e).2
def F7(j:Zd c H)(i:∀a o,H a=none->f a=some o->h a=some o):Zd (Y6 f H) (Y6 h c):=λa o e =>
 Ub (j.free (A6 e).1) (i a o (A6 e).1 (A6 e).2)
def XM(n:c x=none)(s:Zd c H)(o:HO):Zd c (Za H x o):=λb u e=>by
 rw[Ze (Zu e n)];exact s _ _ e
def Qi{b:Nat}{lo hi:Int}(h1:lo<=b)(c:(b:Int)<=hi):F3 (.int b) lo hi=true:=SS ⟨h1,c⟩
inductive YU(tp:Addr)(H:Hp):V->RT->Prop
 |always {a:Addr} (h:H a=some (.tup [.str (ON "always")])):YU tp H (.ref a) .always
 |week {a:Addr} {b:Nat} (h:H a=some (.tup [.str (ON "week"),.int b])):YU tp H (.ref a) (.week b)
 |span {a:Addr} {x y:Nat} {v:V} {r:RT} (h:H a=some (.tup [.str (ON "span"),.int x,.int y,v])) (hv:YU tp H v r):YU tp H (.ref a) (.span x y r)
 |each {a l:Addr} {n:Nat} {ss:OJ} (h:H a=some (.tup [.str (ON "each"),.int n,.ref l])) (hl:H l=some (.lst (YB ss))) (ne:l≠tp):YU tp H (.ref a) (.each n ss)
 |either {a:Addr} {v u:V} {r s:RT} (h:H a=some (.tup [.str (ON "either"),v,u])) (hv:YU tp H v r) (hu:YU tp H u s):YU tp H (.ref a) (.either r s)
 |both {a:Addr} {v u:V} {r s:RT} (h:H a=some (.tup [.str (ON "both"),v,u])) (hv:YU tp H v r) (hu:YU tp H u s):YU tp H (.ref a) (.both r s)
 |but {a l:Addr} {ds:OJ} {v:V} {r:RT} (h:H a=some (.tup [.str (ON "but"),.ref l,v])) (hl:H l=some (.lst (YB ds))) (ne:l≠tp) (hv:YU tp H v r):YU tp H (.ref a) (.but ds r)
def YU.same(s:Zd H j)(h:YU tp H v r):YU tp j v r:=by
 induction h with
 |always h=>exact .always (s _ _ h)
 |week h=>exact .week (s _ _ h)
 |span h _ i=>exact .span (s _ _ h) i
 |each h f ne=>exact .each (s _ _ h) (s _ _ f) ne
 |either h _ _ e c=>exact .either (s _ _ h) e c
 |both h _ _ e c=>exact .both (s _ _ h) e c
 |but h f ne _ i=>exact .but (s _ _ h) (s _ _ f) ne i
end K1
namespace L2
open PySem PySem.Spec PyProof.Rows
end L2
namespace K1
open PySem L2
end K1
namespace L2
open PySem PySem.Spec PyProof.Rows
theorem vQ:∀{c:OF} {us:OE},ZB (c.map V.str) us->∃l:List (Str×Tok),us=strValues l/\l.map (·.1)=c
 |[],_,.nil=>⟨[],R,R⟩
 |t::r,_,.cons (b:=u) h q=>by
  ext⟨tk,rfl⟩ h;obtain⟨l,rfl,e⟩:=vQ q;exact⟨(t,tk)::l,R,by rw[SO,e]⟩
theorem vR(n:Nat):∀(c:OF) (k:Nat),c.foldl (λa x=>a+x.length+n) k=k+(c.map λx=>x.length+n).sum
 |[],k=>by simp
 |t::r,k=>by
  rw[List.foldl_cons,vR n r,SO,List.sum_cons];lia
theorem vS(n:Nat):∀c:List Str,(c.map λx=>x.length+n).sum=(c.map (·.length)).sum+c.length*n
 |[]=>by simp
 |y::r=>by
  have e:=vS n r;simp only[SO,List.sum_cons,SA,Nat.succ_mul];lia
inductive ZfQ(K:OA)(x:V)(xs:List V)(H:Hp)(Q:VK):Prop|mk (z:Str) (p:Addr) (ts:OF) (_:x=.str z) (_:xs=[.ref p]) (_:Zg K H p (ts.map V.str)) (_:(ts.map λx=>x.length+z.length).sum<=sizeLine) (_:Q (.str (Str.join z ts)) H)
def ZfR:MZ X "str.join" (ZfQ X.K):=by
 intro pins s L H x T v U Q I O r h;ext⟨z,p,f,rfl,rfl,E,Y,q⟩ h;ext⟨t,rfl⟩ O;obtain⟨u,rfl,e⟩:=XF r;cases e;obtain⟨its,J,C,_⟩:=I.list E;obtain⟨l,rfl,c⟩:=vQ J;have D:Builtin.Str.tooLong ((l.map (·.1)).toArray.foldl (· + ·.length+z.length) 0)=false:=by
  rw[c,List.foldl_toArray,vR];unfold Builtin.Str.tooLong;exact SU ()
 erw[call_meets F.slot_str_join (typeIs_str _ _ _) F.entry_str_join (F.args_str_join_2 _ _) (meets_str_join_list z t p l D) ⟨C.isList,?_⟩];have j:Builtin.Str.glued z (l.map (·.1))=Str.join z f:=by rw[c];exact StrLaws.glued_eq_join z f
 have M:(Str.join z f).length<=sizeLine:=by
  have S:=StrLaws.join_length_le z f;have h2:=vS z.length f;lia
 have many:∀(m:Made),m=.str (Builtin.Str.glued z (l.map (·.1)))->m.post (λv P=>wants (EP X pins L Q) X.xe (.ok (.ret v)) P) s:=λm e=>by
  subst e;erw[⟨by rwa[j],?_⟩];rw[j];exact⟨.str _,H,I.tok _,⟨_,R⟩,q⟩
 match l,c,many with
 |[],c,many=>exact many _ R
 |[y],c,many =>
  ext⟨i,B⟩ y;have G:Str.join z f=i:=by rw[<-c];rfl
  rw[G]at q;exact⟨.str i,H,I,⟨B,R⟩,q⟩
 |y::Z::r2,c,many=>exact many _ R
end L2
namespace K1
open PySem L2
def ZfS{z:Str}{c:OF}{m:Nat}(hz:z.length<=1)(hm:c.length<=20)(h:∀x∈c,x.length<=10):(c.map λx=>x.length+z.length).sum<=sizeLine:=by
 have f:∀l:List Str,(∀x∈l,x.length<=10)->(l.map λx=>x.length+z.length).sum<=11*l.length:=by
  intro l;induction l with
  |nil=>intro _;simp
  |cons y r e =>
   intro h;have q:=h y SF;have j:=e λx i=>h x (SE _ i);simp only[SO,List.sum_cons,SA];lia
 have:=f c h;exact Si (show _<=1000 by lia) ()
end K1
namespace L2
open PySem PySem.Spec PyProof.Rows
def ZfT{R:Result->Shared->Prop}{I:Addr}{fp wr:OK}{n:Nat}{P:Nat->Value->Prop}{St:Nat->Heap->Prop}{g:Nat->Int}
  (W:Walks prog w A.in1 I fp wr n P St) (hg:∀i v,P i v->∃t,v=.int (g i) t) {S:Addr} (out:S∉fp) :
  ∀(l:OH) (j:Nat) (s:Shared) (b:Option Int),(b≠none\/l≠[])->j+l.length=n->(∀i y,l[i]? = some y->y=g (j+i))->St j s.heap->K6 S s.heap b ->
  (∀v h' tk,wY .none (WN b l) v->(∀a o,a∉wr->a≠S->s.heap.get? a=some o->h'.get? a=some o)->R (.ok (.ret v)) {s with heap:=h',toks:=tk}) ->
  codeAny (model prog w) A (.builtin "max.loop" ⟨[.ref I,.none,.ref S],[]⟩) R s:=by
 have Q:S∉wr:=λz=>out (W.sub _ z);have H:(toString "max" ++ toString ".loop" : String)="max.loop" := by lia
 intro l;induction l with
 |nil =>
  intro j s b L B D st m q;obtain rfl:j=n:=B;obtain⟨vs,c0,e,z⟩:=id m;apply codeAny_builtin PySem.F.entry_max_loop;rw[Around.under_plainId PySem.F.plain_max_loop];apply Sa;apply wpAny_seqItems e rfl;apply Sa;apply wpAny_tryCatch;apply W.done s _ _ st;intro h' tk k;cases b with
  |none=>exact(L.elim (λz=>z rfl) λz=>z rfl).elim
  |some x =>
   ext⟨t,rfl⟩ z;apply Sa;erw[wpAny_updateSeq (k S _ Q e) rfl ?_];apply Sa;apply wpAny_letGo;apply Sb;exact q _ _ tk ⟨t,rfl⟩ λa o f c G=>(Heap.get?_update_other _ _ (Ne.symm c)).trans (k a o f G)
 |cons y l ih =>
  intro j s b L B D st m q;obtain⟨vs,c0,e,z⟩:=id m;have U:j<n:=by rw[<-B,SA];lia
  have E:y=g j:=D 0 y rfl;apply codeAny_builtin PySem.F.entry_max_loop;rw[Around.under_plainId PySem.F.plain_max_loop];apply Sa;apply wpAny_seqItems e rfl;apply Sa;apply wpAny_tryCatch;apply W.item j s _ _ U st;intro v h' tk pv Y k;obtain⟨h,rfl⟩:=hg j v pv;have u:=k S _ Q e;have next:∀(c:Heap),K6 S c (some (UP b y))->(∀a o,a≠S->h'.get? a=some o->c.get? a=some o)->codeAny (model prog w) A (.builtin "max.loop" ⟨[.ref I,.none,.ref S],[]⟩) R {s with heap:=c,toks:=tk}:=λc T M =>
   ih (j+1) {s with heap:=c,toks:=tk} _ (.inl (by intro z;cases z)) (by rw[<-B,SA];lia) (λi X hy=>(D (i+1) X hy).trans (by congr 1;lia))
    (W.frame _ _ _ Y λa ha o ho=>M a o (λz=>out (z ▸ ha)) ho) T λv2 G a0 r Z=>q v2 G a0 r λa o f O b0=>Z a o f O (M a o O (k a o f b0))
  cases b with
  |none =>
   subst z;show wpAny _ _ (updateSeq S (λ_=>#[.int (g j) h,.int (g j) h]) >>= _) _ _ _;apply Sa;erw[wpAny_updateSeq u rfl ?_];rw[H];apply Sb;erw[⟨plainId_quiet PySem.F.plain_max_loop _,next _ ⟨_,_,Heap.get?_update_self _ u rfl,h,?_⟩ λa o f c=>(Heap.get?_update_other _ _ (Ne.symm f)).trans c⟩];rw[E];rfl
  |some x =>
   ext⟨t,rfl⟩ z;show wpAny _ _ (tryCatch (holding [.int (g j) h,.int (g j) h] (richCompare .Gt (.int (g j) h) (.int x t) >>= _)) _ >>= _) _ _ _;apply Sa;apply wpAny_tryCatch;apply wpAny_holding;apply Sa;erw[CmpOf.ints_gt (P:=λi v=>∃t,v=.int (if i=0 then g j else x) t) (λi=>if i=0 then g j else x) (λ_ _ z=>z) 0 1 _ _ _ _ _ ⟨_,rfl⟩ ⟨_,rfl⟩ ?_];apply Sa;apply wpAny_holding;apply wpAny_truthy_bool;apply Sa;apply wpAny_letGo;apply Sb;by_cases C:g j>x;rw[SY (show(λi J:Nat=>decide ((if i=0 then g j else x)>if J=0 then g j else x)) 0 1=true from SS C)];apply Sa;erw[wpAny_updateSeq u rfl ?_];apply Sa;apply wpAny_letGo;rw[H];apply Sb;erw[⟨plainId_quiet PySem.F.plain_max_loop _,next _ ⟨_,_,Heap.get?_update_self _ u rfl,h,?_⟩ λa o f c=>(Heap.get?_update_other _ _ (Ne.symm f)).trans c⟩];rw[show UP (some x) y=g j by rw[E];exact SY C];rw[SX (show ¬(λi J:Nat=>decide ((if i=0 then g j else x)>if J=0 then g j else x)) 0 1=true from λz=>C (SV z))];apply Sa;apply wpAny_letGo;rw[H];apply Sb;erw[⟨plainId_quiet PySem.F.plain_max_loop _,next _ ⟨_,_,u,t,?_⟩ λa o _ c=>c⟩];rw[show UP (some x) y=x by rw[E];exact SX C]
def ZfU(a:Value):argsOk "max" ⟨[a],[]⟩:=by unfold argsOk;kernel_rfl
def ZfV(O:X.calm=true):YT X (.builtin "max") (λxs H Q=>∃(p:Addr) (ns:OH) (x:Int),xs=[.ref p]/\Zg X.K H p (ns.map V.int)/\ns≠[]/\WN none ns=some x/\Q (.int x) H):=by
 intro pins s σ H xs us Q I r h;ext⟨p,ns,x,rfl,L,hn,J,q⟩ h;obtain⟨a0,rfl,Z⟩:=XF r;cases Z;obtain⟨its,B,f,hz⟩:=I.list L;have hlen:=B.length;obtain⟨o,n,D,_⟩:=id f;have Y:p≠s.heap.objs.size:=Sg (Sf D);have S:(toString "max" ++ toString ".loop" : String)="max.loop" := by lia
 erw[kmb_tree PySem.F.kind_max PySem.F.plain_max PySem.F.entry_max (ZfU _) ?_];show wpAny _ _ (Builtin.Builtins.bindParams "max" ["key","default"] 0 ⟨[],[]⟩ >>= _) _ _ s;apply Sa;erw[wpAny_of_eq (show Builtin.Builtins.bindParams "max" ["key","default"] 0 ⟨[],[]⟩=pure [none,none] from R) ?_];apply Sa;apply Sb;apply Sa;erw[wpAny_pyIter_list f.isList ?_];apply Sa;erw[wpAny_newObj_type ?_];rw[S];erw[Sb ⟨plainId_quiet PySem.F.plain_max_loop _,?_⟩];erw[ZfT (fp:=[s.heap.objs.size,p]) (wr:=[s.heap.objs.size]) (g:=λi=>ns.getD i 0) (Walks.list (A:=X.A.in1) (I.ok.hd O) _ _ Y its.toArray) ?_ ?_ ns 0 _ none (.inr hn) ?_ ?_ ?_ ?_ ?_];intro i v u;have E:its[i]? = some v:=by simpa using u
 have C:i<ns.length:=by
  have:=(Su.mp E).1;rw[<-hlen,Sx]at this;exact this
 obtain⟨w,c,j⟩:=B.get (i:=i) (x:=.int ns[i]) (by rw[Oc,Sv C];rfl);rw[E]at c;cases c;ext⟨t,rfl⟩ j;exact⟨t,by rw[List.getD_eq_getElem?_getD,Sv C];rfl⟩;intro hm;have c:(s.heap.push {cls:=.type "list_iterator",data:=.fields #[.ref p,.int 0 0]}).objs.size=s.heap.objs.size+1:=Heap.size_push ..;have lt:=Sf D;rcases SH.mp hm with z|z;have:s.heap.objs.size+1=s.heap.objs.size:=c.symm.trans z;lia;have:s.heap.objs.size+1=p:=c.symm.trans (SG.mp z);rw[<-this]at lt;exact Ov lt (Oi.mpr (Nat.le_succ _));rw[SQ,<-hlen,Sx,Nat.zero_add];intro i b0 P;rw[Nat.zero_add,List.getD_eq_getElem?_getD,P];rfl;erw[⟨⟨_,Sc _ (Se _ R),R,R⟩,?_⟩];ext⟨T,j,U⟩ f.isList;exact⟨T,Sc _ (Sc _ j),U⟩;exact⟨_,_,Se _ R,R⟩;intro v M tk r k;have G:∀b o,s.heap.get? b=some o->M.get? b=some o:=λb o e=>k b o (λz=>by
   have c:=Sf e;rw[SG.mp z]at c;exact Ov c (Sm _)) (λz=>by
   have c:=Sf (Sc {cls:=.type "list_iterator",data:=.fields #[.ref p,.int 0 0]} e);rw[z]at c;exact Ov c (Sm _)) (Sc _ (Sc _ e))
 have u:∃y,v=.int x y:=by
  rw[J]at r;exact r
 ext⟨y,rfl⟩ u;exact⟨.int _,H,I.kept (t':=tk) G,⟨_,R⟩,q⟩
inductive ZfW(t u:TS)(D:Wz)(σ:St)(H:Hp):Prop|mk (J:St->Hp->Prop) (_:t {D with nx:=J} σ H) (_:∀σ' H',J σ' H'->u D σ' H')
def Uu{st:Stmt}{rest:List Stmt}{t u:TS}(h1:PS X st t)(i:XV X rest u):XV X (st::rest) (ZfW t u):=by
 intro pins s j H D I h;ext⟨J,h,e⟩ h;erw[wpAny_execs_cons (Zs (h1 pins s j H {D with nx:=J} I h) λf B q=>?_)];cases f with
 |next =>
  ext⟨c,C,y,q⟩ q;exact i pins B c C D y (e _ _ q)
 |ret v=>exact q
 |brk=>exact q
 |cont=>exact q
section
variable{σ:St}{h':Heap}
def Zb.turnedL{t':Nat}{fp:OK}(I:Zb X pins σ H s)(k:∀b o,b∉fp->s.heap.get? b=some o->h'.get? b=some o)(h:∀b∈fp,Y4 X pins H b):Zb X pins σ H {s with heap:=h',toks:=t'}:=by
 have j:∀b u,H b=some u->b∉fp:=λb u e z=>by rw[(h b z).1]at e;cases e
 refine I.step (g':=s.gens) (d':=s.drawn) (ch:=fp) (λb i=>⟨(h b i).2.2.2.1,(h b i).2.1,(h b i).2.2.2.2.1,(h b i).2.2.2.2.2⟩) (λb o _ _ f e _=>k b o f e) (λb o _ _ f e _=>⟨o.slots,k b o f e⟩) (λ_ _ _ _ n=>n)
  (λb o f e=>⟨o,k b o f e⟩) (λ_ _ e=>e) (λ_ _ _ e=>e) (λb D e=>⟨#[],by rw[e];simp⟩) (λm hm=>?_) (λb u e=>?_) I.bare
 ext⟨o,B,C,y,r⟩ hm;exact⟨o,B,C,k _ o (λz=>(h _ z).2.1 R) y,r⟩;erw[(I.hok b u e).stay (λc v f q=>k c v ?_ q) (λ_ q=>q) λ_ _ q=>q];rcases f with z|z;rw[z];exact j b u e;exact j c _ z
def Zb.paired{t':Nat}{fp:OK}{x y:V}{u v:Value}(I:Zb X pins σ H s)(i:∀b∈fp,Y4 X pins H b)(E:∀b∈fp,∃o,s.heap.get? b=some o)
  (k:∀b o,b∉fp->s.heap.get? b=some o->h'.get? b=some o) (B:h'.get? s.heap.objs.size=some {cls:=.type "tuple",data:=.seq #[u,v]}) (D:ZG x u) (C:ZG y v) :
  Zb X pins σ (Za H s.heap.objs.size (.tup [x,y])) {s with heap:=h',toks:=t'}/\∀b∈fp,Za H s.heap.objs.size (.tup [x,y]) b=none:=by
 have G:Zb X pins σ (Za H s.heap.objs.size (.tup [x,y])) {s with heap:=s.heap.push {cls:=.type "tuple",data:=.seq #[u,v]},toks:=t'} :=
  I.laid (λb ob q=>Sc _ q) (Sh _) ⟨show 2<=sizeLine by lia,[u,v],.cons D (.cons C .nil),IsTup.new _ _⟩
 have ne:∀b∈fp,b≠s.heap.objs.size:=λb c e=>by
  obtain⟨o,q⟩:=E b c;exact Ov (Sf q) (by rw[e];exact Sm _)
 have j:∀b∈fp,Za H s.heap.objs.size (.tup [x,y]) b=none:=λb c=>by rw[Ze (ne b c)];exact(i b c).1
 erw[⟨Zb.turnedL (s:={s with heap:=s.heap.push {cls:=.type "tuple",data:=.seq #[u,v]},toks:=t'}) (t':=t') (fp:=fp) G (λb o c e=>?_) (λb c=>⟨j b c,(i b c).2⟩),j⟩];have f:(s.heap.push {cls:=.type "tuple",data:=.seq #[u,v]}).get? b=some o:=e;by_cases h:b=s.heap.objs.size;subst h;rw[Se _ R]at f;cases f;exact B;rw[Heap.get?_push_ne _ _ _ h]at f;exact k b o c f
end
def F8(K:OA)(l:Addr):It :=
 ⟨λi H=>∃c x,Zg K H l c/\c[i]? = some x,λi H v e=>∃p x,H p=none/\(∀c,Zg K H l c->c[i]? = some x)/\v=.ref p/\e=Za H p (.tup [.int i,x]),λi H=>∃c,Zg K H l c/\c.length<=i⟩
def F9(K:OA)(l m:Addr):It :=
 ⟨λi H=>∃e c x y,Zg K H l e/\Zg K H m c/\e[i]? = some x/\c[i]? = some y,λi H v f=>∃p x y,H p=none/\(∀e,Zg K H l e->e[i]? = some x)/\(∀c,Zg K H m c->c[i]? = some y)/\v=.ref p/\f=Za H p (.tup [x,y]),
  λi H=>∃e c,Zg K H l e/\Zg K H m c/\(e.length<=i\/c.length<=i)⟩
def ZfX{es:OG}{k:Nat}(l e it:Addr)(Y:e≠it):QA P w K (.Tuple es k pos) (F8 K l) [e,it] e (λi h=>(∃j,IsEnum h e it i j)/\h.IsListIter it l i) where
 mem:=by simp
 obj:=λi h st b f=>by
  ext⟨⟨j,c⟩,o,O,M,hd⟩ st;have J:b=e\/b=it:=by simpa using f
  rcases J with rfl|rfl;exact⟨_,c,λf0 z=>by cases z⟩;exact⟨o,O,λf0 z=>by rw[hd]at z;cases z⟩
 keep:=λi h h' st X=>⟨let ⟨j,c⟩:=st.1;⟨j,X e (by simp) _ c⟩,st.2.at λo q=>X it (by simp) o q⟩
 item:=by
  intro g0 H Q E M i pins s σ a0 h0 I D st S;subst H Q E;ext⟨xs,x,B,L⟩ S;obtain⟨its,G,p,hz⟩:=I.list B;obtain⟨u,hu,ru⟩:=G.get L;ext⟨⟨j,c⟩,v⟩ st;have d0:=v;erw[wpAny_pyNext_enum_item c v p.isList (x:=u) (by simpa using hu) Y λh1 O i0 hT j0 hk=>⟨_,R,?_⟩];erw[wpAny_letOwnedTupleGo_enum (s:={s with heap:=h1,toks:=s.toks+1}) O λT Z C=>?_];have c0:e<s.heap.objs.size:=Sf c;have k0:it<s.heap.objs.size:=by ext⟨_,q,_⟩ v;exact Sf q
  have b0:T.get? s.heap.objs.size=some {cls:=.type "tuple",data:=.seq #[.int i s.toks,u]}:=(C.2 _ (Nat.ne_of_gt c0)).trans hT;obtain⟨I2,n2⟩:=I.paired (t':=s.toks+1) (fp:=[e,it]) (x:=.int i) (y:=x) (h':=T) D (λb f=>by
   have J:b=e\/b=it:=by simpa using f
   rcases J with rfl|rfl;exact⟨_,c⟩;ext⟨o,q,_⟩ d0;exact⟨o,q⟩) (λb o f q=>by
   have U:b≠e:=λz=>f (by simp[z]);have e0:b≠it:=λz=>f (by simp[z]);exact(C.2 b U).trans (hk b o U e0 q)) b0 ⟨s.toks,R⟩ ru
  erw[⟨.ref s.heap.objs.size,_,I2,R,⟨_,x,I.hok.fresh (Sh _),λys hy=>by rwa[I.list_inj hy B],R,R⟩,⟨⟨_,by simpa using Z⟩,i0.at λo q=>(C.2 it Y.symm).trans q⟩,n2⟩]
 done:=by
  intro g0 H Q E M i pins s σ a0 h0 I D st S;subst H Q E;ext⟨xs,B,L⟩ S;obtain⟨its,G,p,hz⟩:=I.list B;ext⟨⟨j,c⟩,v⟩ st;have hl:=G.length;exact wpAny_pyNext_enum_end (I.ok.hd M) c v p.isList (by simp;lia) λh' eb=>⟨R,I.turnedL (t':=s.toks) (fp:=[e,it]) (λb o f q=>eb b o (λz=>f (by simp[z])) q) D⟩
 self:=λ_ _ _ _ _ st h=>by
  ext⟨⟨j,c⟩,_⟩ st;exact wpAny_pyIter_enum c h
def ZfY{es:OG}{k:Nat}(l m z TI TO f e:Addr)(D:ZipApart z TI TO f e l m):QA P w K (.Tuple es k pos) (F9 K l m) [z,TI,TO,f,e] z (λi h=>IsZip h z TI TO .none/\IsPair h TI (.ref f) (.ref e)/\(∃a b,IsPair h TO a b)/\h.IsListIter f l i/\h.IsListIter e m i) where
 mem:=by simp
 obj:=λi h st b c=>by
  ext⟨u,j,⟨a,n0,B⟩,⟨o1,g1,_,d1⟩,⟨o2,g2,_,d2⟩⟩ st;have T:b=z\/b=TI\/b=TO\/b=f\/b=e:=by simpa using c
  rcases T with rfl|rfl|rfl|rfl|rfl;exact⟨_,u,λv z=>by cases z⟩;exact⟨_,j,λv z=>by cases z⟩;exact⟨_,B,λv z=>by cases z⟩;exact⟨o1,g1,λv z=>by rw[d1]at z;cases z⟩;exact⟨o2,g2,λv z=>by rw[d2]at z;cases z⟩
 keep:=λi h h' st E=>⟨E z (by simp) _ st.1,E TI (by simp) _ st.2.1,let ⟨a,b,q⟩:=st.2.2.1;⟨a,b,E TO (by simp) _ q⟩,st.2.2.2.1.at λo q=>E f (by simp) o q,st.2.2.2.2.at λo q=>E e (by simp) o q⟩
 item:=by
  intro j0 S Y Q hc i pins s σ f0 k0 I O st hg;subst S Y Q;ext⟨xs,ys,x,y,M,G,C,J⟩ hg;obtain⟨i0,X,p1,c0⟩:=I.list M;obtain⟨d0,Z,U,l0⟩:=I.list G;obtain⟨a0,hu,ru⟩:=X.get C;obtain⟨v,hv,rv⟩:=Z.get J;ext⟨u,j,⟨a,b,B⟩,H,L⟩ st;have b0:=H;have e0:=L;erw[wpAny_pyNext_zip_item D u j B H L p1.isList U.isList (x:=a0) (y:=v) (by simpa using hu) (by simpa using hv) λg1 a1 a2 a3 a4 a5 a6 hk=>⟨_,R,?_⟩];erw[wpAny_letOwnedTupleGo_zip (s:={s with heap:=g1}) a1 λg2 b1 bs=>?_];have h0:z<s.heap.objs.size:=Sf u;have g0:g2.get? s.heap.objs.size=some {cls:=.type "tuple",data:=.seq #[a0,v]}:=(bs.2 _ (Nat.ne_of_gt h0)).trans a5;obtain⟨I2,n2⟩:=I.paired (t':=s.toks) (fp:=[z,TI,TO,f,e]) (x:=x) (y:=y) (h':=g2) O (λb c=>by
   have T:b=z\/b=TI\/b=TO\/b=f\/b=e:=by simpa using c
   rcases T with rfl|rfl|rfl|rfl|rfl;exact⟨_,u⟩;exact⟨_,j⟩;exact⟨_,B⟩;ext⟨o,q,_⟩ b0;exact⟨o,q⟩;ext⟨o,q,_⟩ e0;exact⟨o,q⟩) (λb o c q=>by
   have c1:b≠z:=λw=>c (by simp[w]);have c2:b≠TO:=λw=>c (by simp[w]);have c3:b≠f:=λw=>c (by simp[w]);have c4:b≠e:=λw=>c (by simp[w]);exact(bs.2 b c1).trans (hk b o c1 c2 c3 c4 q)) g0 ru rv
  exact⟨.ref s.heap.objs.size,_,I2,R,⟨_,x,y,I.hok.fresh (Sh _),λzs J=>by rwa[I.list_inj J M],λzs m0=>by rwa[I.list_inj m0 G],R,R⟩,
   ⟨b1,(bs.2 _ D.TIz).trans (hk _ _ D.TIz D.TITO D.TIi1 D.TIi2 j),⟨_,_,(bs.2 _ D.TOz).trans a2⟩,a3.at λo q=>(bs.2 _ D.i1z).trans q,a4.at λo q=>(bs.2 _ D.i2z).trans q⟩,n2⟩
 done:=by
  intro j0 S Y Q hc i pins s σ f0 k0 I O st hg;subst S Y Q;ext⟨xs,ys,M,G,C⟩ hg;obtain⟨i0,X,p1,c0⟩:=I.list M;obtain⟨d0,Z,U,l0⟩:=I.list G;have l1:=X.length;have l2:=Z.length;ext⟨u,j,⟨a,b,B⟩,H,L⟩ st;exact wpAny_pyNext_zip_end (I.ok.hd hc) D u j B H L p1.isList U.isList (by rcases C with C|C;exact .inl (by simp;lia);exact .inr (by simp;lia)) λh' eb =>
   ⟨R,I.turnedL (t':=s.toks) (fp:=[z,TI,TO,f,e]) (λb o c q=>eb b o (λw=>c (by simp[w])) (λw=>c (by simp[w])) (λw=>c (by simp[w])) (λw=>c (by simp[w])) q) O⟩
 self:=λ_ _ _ _ _ st h=>wpAny_pyIter_zip st.1 h
inductive ZfZ(K:OA)(R:It->Hp->Prop)(vs:List V)(H1:Hp):Prop|mk a (_:vs=[.ref a]) (_:(∃xs,Zg K H1 a xs)) (_:R (F8 K a) H1)
def Zf0(K:OA)(e:TA):TI:=λi H f=>e i H λc h=>ZfZ K f c h
inductive Zf1(K:OA)(R:It->Hp->Prop)(vs:List V)(H1:Hp):Prop|mk a b (_:vs=[.ref a,.ref b]) (_:(∃xs,Zg K H1 a xs)) (_:(∃ys,Zg K H1 b ys)) (_:R (F9 K a b) H1)
def Zf2(K:OA)(e:TA):TI:=λi H f=>e i H λc h=>Zf1 K f c h
def vT{y:OG}{k:Nat}{tp:Pos}{a:Expr}{u:TA}{p:Pos}(Q:Gl X "enumerate") (hm:X.mg "enumerate"=none) (ha:PA X [a] u) (O:starEach [a] X.env=[(false,eval a X.env)]:=by rfl):PI X (.Tuple y k tp) (.Call (.Name "enumerate" p) [a] [] pos) (Zf0 X.K u):=by
 intro pins s M H R I h;erw[Call_ (UE I Q hm boot_enumerate (PyProof.Rows.callWith_type1 (Zs (ha pos pins s M H _ I h) λZ c ⟨vs,P,f,r1,S⟩=>?_) O rfl))];ext⟨l,e,⟨U,J⟩,q⟩ S;subst e;cases r1 with
 |cons r C =>
  cases C;cases r;obtain⟨its,Y,G,hz⟩:=f.list J;erw[call_enumerate_list G.isList λL j E T B=>?_];erw[wpAny_pyIter_enum (s:={c with heap:=L}) j ?_];erw[⟨c.heap.objs.size+1,[c.heap.objs.size+1,c.heap.objs.size],_,_,P,rfl,f.kept (t':=c.toks) B,ZfX l _ _ (Nat.succ_ne_self _),⟨⟨_,j⟩,E⟩,λb v=>?_,q⟩];have D:b=c.heap.objs.size+1\/b=c.heap.objs.size:=by simpa using v
  have i:c.heap.objs.size<=b:=by rcases D with rfl|rfl;exact Nat.le_succ _;exact Sh _
  exact f.fpOk i (f.hok.fresh i)
def Zf3{D:OG}{k:Nat}{tp:Pos}{a b:Expr}{C:TA}{p:Pos}(Z:Gl X "zip") (hm:X.mg "zip"=none) (ha:PA X [a,b] C) (T:starEach [a,b] X.env=[(false,eval a X.env),(false,eval b X.env)]:=by rfl) (v:starEach [b] X.env=[(false,eval b X.env)]:=by rfl) :
  PI X (.Tuple D k tp) (.Call (.Name "zip" p) [a,b] [] pos) (Zf2 X.K C):=by
 intro pins s Q H R I h;erw[Call_ (UE I Z hm boot_zip (PyProof.Rows.callWith_type1 (Zs (ha pos pins s Q H _ I h) λus c ⟨vs,U,f,r1,q1⟩=>?_) (by rw[T,v]) (by rw[v];rfl)))];ext⟨l,m,e,⟨xs,Y⟩,⟨ys,E⟩,q⟩ q1;subst e;cases r1 with
 |cons r i =>
  cases i with
  |cons O i =>
   cases i;cases r;cases O;obtain⟨g0,f0,p1,d0⟩:=f.list Y;obtain⟨e0,h0,B,i0⟩:=f.list E;have S:l<c.heap.objs.size:=by ext⟨o,e,_⟩ p1.isList;exact Sf e
   have M:m<c.heap.objs.size:=by ext⟨o,e,_⟩ B.isList;exact Sf e
   erw[call_zip_2 p1.isList B.isList λP y G b0 L a0 c0 J=>?_];erw[wpAny_pyIter_zip (s:={c with heap:=P}) y ?_];erw[⟨c.heap.objs.size+4,[c.heap.objs.size+4,c.heap.objs.size+2,c.heap.objs.size+3,c.heap.objs.size,c.heap.objs.size+1],_,_,U,rfl,f.kept (t':=c.toks) J,ZfY l m _ _ _ _ _ (zipApart_new S M),⟨y,G,⟨_,_,b0⟩,L,a0⟩,λb j=>?_,q⟩];have u:c.heap.objs.size<=b:=by
    simp only[SH,List.not_mem_nil,or_false]at j;rcases j with rfl|rfl|rfl|rfl|rfl;exact Op _ _;exact Op _ _;exact Op _ _;exact Sh _;exact Op _ _
   exact f.fpOk u (f.hok.fresh u)
def vU{a:Addr}{xs:List V}{g:TG}{E:TS}{D:Wz}{c:St}(f:Nat->St->Hp->Prop)(J:f 0 c H)(L:∀i c H,i<=xs.length->f i c H->Zg K H a xs)
  (O:∀i x p c H,xs[i]? = some x->H p=none->f i c H->g (.ref p) c (Za H p (.tup [.int i,x])) λu B=>E {D with nx:=f (i+1),ct:=f (i+1),bk:=D.nx} u B) (hd:∀c H,f xs.length c H->D.nx c H) :
  ∃W:Nat->Nat->St->Hp->Prop,(∃m,W 0 m c H)/\∀i m c H,W i m c H ->
   ((F8 K a).stop i H/\D.nx c H)\/((F8 K a).go i H/\∃N:St->Hp->Prop,(∀j h,N j h->∃C,C<m/\W (i+1) C j h)/\∀x h,(F8 K a).yld i H x h->g x c h λu B=>E {D with nx:=N,ct:=N,bk:=D.nx} u B):=by
 erw[⟨λi m c H=>m=xs.length - i/\i<=xs.length/\f i c H,⟨xs.length,by simp,Sl _,J⟩,?_⟩];rintro i m c H ⟨rfl,M,p⟩;have q:=L i c H M p;by_cases G:i<xs.length;erw[.inr ⟨⟨xs,xs[i],q,by simp[G]⟩,f (i+1),λj h I=>⟨xs.length - (i+1),(),R,G,I⟩,λv h y=>?_⟩];ext⟨r,x,P,y,rfl,rfl⟩ y;exact O i x r c _ (y xs q) P p;have e:i=xs.length:=by lia
 subst e;exact .inl ⟨⟨xs,q,Sh _⟩,hd c H p⟩
section
variable{κ:Type}[DecidableEq κ]
def ZD(c:List (κ×V))(k:κ):Option V:=(c.find? λe=>decide (e.1=k)).map (·.2)
def YD(e:List (κ×V))(k:κ)(v:V):List (κ×V) :=
 if (e.any λc=>decide (c.1=k))=true then e.map (λc=>if c.1=k then (c.1,v)else c)else e++[(k,v)]
def Vd(c:List (κ×V))(k:κ):List (κ×V):=c.filter λe=>decide (e.1≠k)
def Ve{p:κ×V}(e:p.1=k):ZD (p::r) k=some p.2:=by simp[ZD,List.find?_cons,e]
def WO{p:κ×V}(e:¬ p.1=k):ZD (p::r) k=ZD r k:=by simp[ZD,List.find?_cons,e]
theorem A7(k:κ):∀c:List (κ×V),(c.any λf=>decide (f.1=k))=(ZD c k).isSome
 |[]=>rfl
 |p::r=>by
  rw[List.any_cons];by_cases e:p.1=k;simp only[Ve e,SS e,Bool.true_or,Option.isSome_some];rw[WO e,SU e,Bool.false_or];exact A7 k r
theorem vV(k j:κ)(y:V):∀f:List (κ×V),ZD (f.map λc=>if c.1=k then (c.1,y)else c) j=(ZD f j).map λx=>if j=k then y else x
 |[]=>rfl
 |p::r=>by
  have i:=vV k j y r;rw[SO];by_cases h:p.1=k;rw[SY h];by_cases e:p.1=j;rw[Ve (p:=(p.1,y)) e,Ve e,Option.map_some,SY (e.symm.trans h)];rw[WO (p:=(p.1,y)) e,WO e,i];rw[SX h];by_cases e:p.1=j;rw[Ve (p:=p) e,Ve e,Option.map_some,SX (λz=>h (e.trans z))];rw[WO (p:=p) e,WO e,i]
theorem vW(k j:κ)(y:V):∀c:List (κ×V),ZD c k=none->ZD (c++[(k,y)]) j=if j=k then some y else ZD c j
 |[],_=>by
  by_cases e:k=j;rw[SY e.symm];exact Ve (p:=(k,y)) e;rw[SX (λz=>e z.symm)];exact WO (p:=(k,y)) e
 |p::r,hn=>by
  rw[List.cons_append];have f:¬ p.1=k:=λz=>by rw[Ve z]at hn;cases hn
  rw[WO f]at hn;have h:=vW k j y r hn;by_cases e:p.1=j;rw[Ve e,Ve e,SX (λz=>f (e.trans z))];rw[WO e,WO e,h]
def Nu(c:List (κ×V))(k j:κ)(y:V):ZD (YD c k y) j=if j=k then some y else ZD c j:=by
 unfold YD;by_cases a:(c.any λf=>decide (f.1=k))=true;rw[SY a,vV];rw[A7]at a;by_cases e:j=k;obtain⟨x,h⟩:=Option.isSome_iff_exists.mp a;rw[SY e,e,h,Option.map_some,SY R];rw[SX e];cases ZD c j with
 |none=>rfl
 |some x=>rw[Option.map_some,SX e]
 rw[SX a];erw[vW k j y c ?_];rw[A7]at a;cases q:ZD c k with
 |none=>rfl
 |some x=>rw[q]at a;exact(a R).elim
def La(c:List (κ×V))(k:κ)(v:V):(YD c k v).length<=c.length+1:=by
 unfold YD;split;rw[Sx];lia;rw[Sw,SA,List.length_nil];lia
def US{c:List (κ×V)}{k:κ}(v:V)(h:ZD c k=none):YD c k v=c++[(k,v)]:=by
 unfold YD;rw[A7,h];exact SX ()
def XD.isSome_eq{o:Option V}{u:Option Value}(r:XD o u):o.isSome=u.isSome:=by
 cases o with
 |none=>cases u with
  |none=>rfl
  |some _=>exact(show False from r).elim
 |some _=>cases u with
  |none=>exact(show False from r).elim
  |some _=>rfl
def XD.getD{o:Option V}{u:Option Value}(r:XD o u)(c:ZG d d'):ZG (o.getD d) (u.getD d'):=by
 cases o with
 |none=>cases u with
  |none=>exact c
  |some _=>exact(show False from r).elim
 |some _=>cases u with
  |none=>exact(show False from r).elim
  |some _=>exact r
def KV.val(r:KV i vs)(k:κ):XD (ZD i k) (valueAt vs k):=by
 unfold KV at r;induction r with
 |nil=>exact True.intro
 |@cons p q y f h t v =>
  ext⟨j,u⟩ h;by_cases e:p.1=k;have c:q.1=k:=j.symm.trans e;have b:valueAt (q::f) k=some q.2:=by simp[valueAt,List.find?_cons,c]
  rwa[Ve e,b];have c:¬ q.1=k:=λz=>e (j.trans z);have b:valueAt (q::f) k=valueAt f k:=by simp[valueAt,List.find?_cons,c]
  rwa[WO e,b]
def KV.any{e:List (κ×V)}{vs:List (κ×Value)}(r:KV e vs)(k:κ):(e.any λc=>decide (c.1=k))=vs.any λc=>decide (c.1=k):=by
 unfold KV at r;induction r with
 |nil=>rfl
 |cons h t f=>rw[List.any_cons,List.any_cons,f,h.1]
def KV.repl{i:List (κ×V)}{vs:List (κ×Value)}(r:KV i vs)(k:κ)(v:ZG y u) :
  KV (i.map λc=>if c.1=k then (c.1,y)else c) (vs.map λc=>if c.1=k then (c.1,u)else c):=by
 unfold KV at r ⊢;induction r with
 |nil=>exact .nil
 |@cons p q C D h t B =>
  rw[SO,SO];erw[.cons ?_ B];ext⟨f,j⟩ h;by_cases e:p.1=k;rw[SY e,SY (f.symm.trans e)];exact⟨f,v⟩;rw[SX e,SX (λz=>e (f.trans z))];exact⟨f,j⟩
def KV.put(r:KV c vs)(k:κ)(f:ZG y u):KV (YD c k y) (stored vs k u):=by
 unfold YD stored;rw[r.any k];by_cases e:(vs.any λh=>decide (h.1=k))=true;rw[SY e,SY e];exact r.repl k f;rw[SX e,SX e];exact Paired.snoc r ⟨R,f⟩
def KV.length{c:List (κ×V)}{vs:List (κ×Value)}(r:KV c vs):c.length=vs.length:=Paired.length r
def Zf4(c:List (κ×V))(k:κ):(Vd c k).length<=c.length:=List.length_filter_le _ _
end
def A8(r:ZG (kV k) u):(Xp P w).is k u=true:=by
 cases k with
 |inl i=>obtain⟨t,e⟩:=(show ∃t,u=Value.int i t from r);subst e;exact Zc7 P w i t
 |inr x=>obtain⟨t,e⟩:=(show ∃t,u=Value.str x t from r);subst e;exact Zc8 P w x t
theorem vX:∀{ks:List Zn} {us:OE},ZB (ks.map kV) us->ItemsAre (Xp P w) ks us
 |[],_,r=>by rw[List.map_nil]at r;cases r;exact .nil
 |k::ks,_,r=>by
  rw[SO]at r;cases r with
  |cons h t=>exact .cons (A8 h) (vX t)
abbrev KT(H:Hp):List (List Zn×V)->List (List Zn×Addr×Value)->Prop:=Paired λp q=>p.1=q.1/\H q.2.1=some (.tup (p.1.map kV))/\ZG p.2 q.2.2
def KT.val(r:KT H i xs)(k:List Zn):XD (ZD i k) ((atKey xs k).map (·.2)):=by
 induction r with
 |nil=>exact True.intro
 |@cons p q y f h t v =>
  ext⟨j,_,u⟩ h;by_cases e:p.1=k;have c:q.1=k:=j.symm.trans e;have b:atKey (q::f) k=some q.2:=by simp[atKey,List.find?_cons,c]
  rwa[Ve e,b];have c:¬ q.1=k:=λz=>e (j.trans z);have b:atKey (q::f) k=atKey f k:=by simp[atKey,List.find?_cons,c]
  rwa[WO e,b]
def KT.repl{j:List (List Zn×V)}{xs:List (List Zn×Addr×Value)}(r:KT H j xs)(k:List Zn)(v:ZG y u) :
  KT H (j.map λf=>if f.1=k then (f.1,y)else f) (xs.map (putAt k u)):=by
 induction r with
 |nil=>exact .nil
 |@cons p q D E h t B =>
  rw[SO,SO];erw[.cons ?_ B];ext⟨c,i,C⟩ h;unfold putAt;by_cases e:p.1=k;rw[SY e,SY (c.symm.trans e)];exact⟨c,i,v⟩;rw[SX e,SX (λz=>e (c.trans z))];exact⟨c,i,C⟩
def KT.put(r:KT H c xs)(k:List Zn)(h:H b=some (.tup (k.map kV)))(f:ZG y u) :
  KT H (YD c k y) (storedH xs k b u):=by
 have e:(c.any λi=>decide (i.1=k))=(atKey xs k).isSome:=by
  rw[A7,(r.val k).isSome_eq,Option.isSome_map]
 unfold YD storedH;rw[e];by_cases q:(atKey xs k).isSome=true;rw[SY q,SY q];exact r.repl k f;rw[SX q,SX q];exact Paired.snoc r ⟨R,h,f⟩
def KT.keeps(r:KT H c xs)(f:∀b ys,H b=some (.tup ys)->e b=some (.tup ys)):KT e c xs :=
 Paired.mapP r λ_ _ z=>⟨z.1,f _ _ z.2.1,z.2.2⟩
section
variable{h:Heap}{a:Addr}
def vY(ok:Yo P w H h)(e:Rd H a u):Ym P w H h a u:=e.ok ok
def QI{c:List (Zn×V)}(ok:Yo P w H h)(e:Rd H a (.dK c)):c.length<=sizeLine/\(a==sysModules)=false/\∃vs,KV c vs/\h.DictOf (Xp P w) a vs :=
 show Ym P w H h a (.dK c)from vY ok e
def vZ{c:List (Zn×V)}(ok:Yo P w H h)(e:H a=some (.dK c)):c.length<=sizeLine/\(a==sysModules)=false/\∃vs,KV c vs/\h.DictOf (Xp P w) a vs:=QI ok (.inl e)
def A9{ks:List Zn}(ok:Yo P w H h)(e:H a=some (.tup (ks.map kV))):(tupleKind (Xp P w)).is h ks a:=by
 obtain⟨_,its,r,o,f,i,n,c⟩:=(show Ym P w H h a (.tup (ks.map kV))from ok a _ e);exact⟨o,its.toArray,n,f,i,c,by simpa using vX r⟩
def B0{f:List (List Zn×V)}(ok:Yo P w H h)(e:Rd H a (.dT f)):f.length<=sizeLine/\(a==sysModules)=false /\
  ∃xs,KT H f xs/\h.DictOfH (tupleKind (Xp P w)) a xs:=by
 obtain⟨z,y,xs,r,o,v,C,D,j,G,B,u⟩:=(show Ym P w H h a (.dT f)from vY ok e);erw[⟨z,y,xs,r,o,v,C,D,j,G,B,λx c=>?_,u⟩];have all:∀{l:List (List Zn×V)} {m:List (List Zn×Addr×Value)},KT H l m->∀x∈m,(tupleKind (Xp P w)).is h x.1 x.2.1:=by
  intro l m q;induction q with
  |nil=>intro x c;exact nomatch c
  |@cons p q I J i t E =>
   intro x c;rcases SH.mp c with e|c;subst e;exact A9 ok (by rw[<-i.1];exact i.2.1);exact E x c
 exact all r x c
def uA{c:List (List Zn×V)}(ok:Yo P w H h)(e:H a=some (.dT c)):c.length<=sizeLine/\(a==sysModules)=false /\
  ∃xs,KT H c xs/\h.DictOfH (tupleKind (Xp P w)) a xs:=B0 ok (.inl e)
end
def Yr(H:Hp)(a:Addr)(y:V)(r:Option V):Prop :=
 (∃c k,Rd H a (.dK c)/\y=kV k/\r=ZD c k)\/∃c k b,Rd H a (.dT c)/\y=.ref b/\H b=some (.tup (k.map kV))/\r=ZD c k
def XN(H:Hp)(a:Addr)(y v:V)(e:Hp):Prop :=
 (∃c k,H a=some (.dK c)/\y=kV k/\c.length<sizeLine/\e=Za H a (.dK (YD c k v))) \/
 ∃c k b,H a=some (.dT c)/\y=.ref b/\H b=some (.tup (k.map kV))/\c.length<sizeLine/\e=Za H a (.dT (YD c k v))
theorem Yr.k{a:Addr}{c:List (Zn×V)}{k:Zn}(e:H a=some (.dK c)):Yr H a (kV k) (ZD c k):=.inl ⟨c,k,.inl e,R,R⟩
def Yr.t{k:List Zn}(e:H a=some (.dT c))(f:H b=some (.tup (k.map kV))):Yr H a (.ref b) (ZD c k):=.inr ⟨c,k,b,.inl e,R,f,R⟩
theorem XN.k{a:Addr}{c:List (Zn×V)}{k:Zn}{v:V}(e:H a=some (.dK c))(f:c.length<sizeLine):XN H a (kV k) v (Za H a (.dK (YD c k v))):=.inl ⟨c,k,e,R,f,R⟩
def XN.t{c:List (List Zn×V)}{k:List Zn}(e:H a=some (.dT c))(f:H b=some (.tup (k.map kV)))(h:c.length<sizeLine) :
  XN H a (.ref b) v (Za H a (.dT (YD c k v))):=.inr ⟨c,k,b,e,R,f,h,R⟩
section
variable{σ:St}{a:Addr}{y v:V}{u r:Value}{o:Option V}
def Zb.big(I:Zb X pins σ H s):sysModules<s.heap.objs.size:=by
 have h:mainGlobals<s.heap.objs.size:=(I.mod.glob.keeps I.bk).lt;exact Nat.lt_trans () h
def Zf5(O:A.units+1<cLine)(I:Zb X pins σ H s)(g:Yr H a y (some v))(B:ZG y u)(h:∀c s',Zb X pins σ H s'->ZG v c->Q c s') :
  wpAny (model X.prog X.w) A (getItem (.ref a) u) Q E s:=by
 rcases g with⟨G,k,e,q,l⟩|⟨G,k,b,e,q,C,l⟩;subst q;obtain⟨z,hd,D,rel,j⟩:=QI I.hok e;obtain⟨c,f,i⟩:=XD.some_of (v:=v) (o:=valueAt D k) (by rw[l];exact rel.val k);exact wpAny_getItem_of (A8 B) j.mapOf f (h c _ (I.tok _) i);subst q;cases (show u=Value.ref b from B);obtain⟨z,hd,M,rel,j⟩:=B0 I.hok e;obtain⟨c,f,i⟩:=XD.some_of (v:=v) (o:=(atKey M k).map (·.2)) (by rw[l];exact rel.val k);obtain⟨p,J,L⟩:=Oh.mp f;erw[wpAny_getItem_heap (tupleKind_room_in1 O) (A9 I.hok C) j J ?_];rw[L];exact h c _ (I.tok _) i
def Zf6(C:A.units+1<cLine)(I:Zb X pins σ H s)(g:Yr H a y o)(i:ZG y u)(h:∀s',Zb X pins σ H s'->Q (.bool o.isSome) s') :
  wpAny (model X.prog X.w) A (compareOp .In u (.ref a)) Q E s:=by
 rcases g with⟨B,k,e,f,l⟩|⟨B,k,b,e,f,j,l⟩;subst f;obtain⟨z,hd,D,rel,c⟩:=QI I.hok e;erw[wpAny_in_of (A8 i) hd c.mapOf ?_];rw[<-(rel.val k).isSome_eq,<-l];exact h _ (I.tok _);subst f;cases (show u=Value.ref b from i);obtain⟨z,hd,G,rel,c⟩:=B0 I.hok e;erw[wpAny_in_heap (tupleKind_room_in1 C) (A9 I.hok j) hd c ?_];have q:=(rel.val k).isSome_eq;rw[Option.isSome_map]at q;rw[<-q,<-l];exact h _ (I.tok _)
def Lb{h':Heap}(I:Zb X pins σ H s)(h:D8 (H a))(i:Heap.SameBut a s.heap h')(f:∃q,h'.get? a=some q)(new:Ym X.prog X.w (Za H a ob) h' a ob) :
  Zb X pins σ (Za H a ob) {s with heap:=h',toks:=t'} :=
 I.write (x:=a) (e:=a) h (.inl R) (λb q c z=>(i.2 b c).trans z) f new
def uB{h':Heap}{c:List (Zn×V)}(z:c.length<=sizeLine)(hd:(a==sysModules)=false)(rel:KV c vs)(dd:h'.DictOf (Xp P w) a vs) :
  Ym P w e h' a (.dK c):=⟨z,hd,vs,rel,dd⟩
def Zf7(hu:A.units+1<cLine)(I:Zb X pins σ H s)(g:XN H a y v S)(M:ZG y u)(L:ZG v r)(h:∀s',Zb X pins σ S s'->Q Unit.unit s') :
  wpAny (model X.prog X.w) A (setItem (.ref a) u r) Q E s:=by
 rcases g with⟨c,k,e,B,l,J⟩|⟨c,k,b,e,B,P,l,J⟩;subst B J;obtain⟨z,hd,vs,rel,j⟩:=vZ I.hok e;have D:vs.length<=sizeLine:=by rwa[<-rel.length]
 have C:(YD c k v).length<=sizeLine:=by have:=La c k v;lia
 erw[wpAny_setItem_pairs (hsz:=D) (A8 M) j λO f G=>h _ ?_];have he:∃q,O.get? a=some q:=let ⟨q,_,_,i,_⟩:=f;⟨q,i⟩;exact Lb I (by rw[e];exact True.intro) G he (uB C hd (rel.put k L) f);subst B J;cases (show u=Value.ref b from M);obtain⟨z,hd,Y,rel,j⟩:=uA I.hok e;have D:Y.length<=sizeLine:=by rwa[<-Paired.length rel]
 have C:(YD c k v).length<=sizeLine:=by have:=La c k v;lia
 erw[wpAny_setItem_heap (hsz:=D) (tupleKind_room_in1 hu) (A9 I.hok P) j λO f G=>h _ ?_];ext⟨q,U,ep,i,h2,h3,Z,_,h5⟩ f;erw[Lb I (by rw[e];exact True.intro) G ⟨q,i⟩ ⟨C,hd,_,(rel.put k P L).keeps λa0 ys T=>?_,q,U,ep,i,h2,h3,Z,h5⟩];rwa[Ze (Z5 T e (λz=>nomatch z))]
end
section
variable{σ:St}{a:Addr}{kvs:List (Zn×V)}{k:Zn}{u:Value}
def Zf8(I:Zb X pins σ H s)(e:Rd H a (.dK kvs))(h:∀t s',Zb X pins σ H s'->Q (.int kvs.length t) s'):wpAny (model X.prog X.w) A (call (.builtin "len") [.ref a]) Q E s:=by
 obtain⟨z,hd,f,rel,c⟩:=QI I.hok e;erw[call_len_dict hd c (by rw[<-rel.length];rw[sizeLine_eq]at z;lia) ?_];rw[<-rel.length];exact h _ _ (I.tok _)
end
def Nv(i:Expr):Prop:=∀e c,subscripted i false e c=operate [e,c] (getItem e c)
def Zf9{env:Env}{value slice:Expr}{T id:String}{Q:Ox}
  (B:typeLookup (.type T) "__getitem__"=pure (some (.builtin id))) (C:Nv slice)
  (h:wpAny (model prog w) A (eval value env) (λo q=>wpAny (model prog w) A (eval slice env) (λi c=>c.TypeIs o T/\wpAny (model prog w) A (getItem o i) Q E c) E q) E s) :
  wpAny (model prog w) A (eval (.Subscript value slice pos) env) Q E s:=by
 erw[Subscript_ (Ou h (λo q y=>Ou y (λi c e=>?_) λ_ _ x=>x) λ_ _ x=>x)];ext⟨j,e⟩ e;unfold subscriptTail;erw[Sa ?_];rw[getitemInPython_of_ne j.not_modules];erw[Sa (wpAny_specialOf j B ?_)];have f:wpAny (model prog w) A (subscripted slice false o i) (λr u=>wpAny (model prog w) A (letTemporaryGo value o r >>= λ_=>pure r) Q E u) E c:=by
  rw[C o i];exact wpAny_operating (Ou e (λr u v=>Sa (wpAny_letTemporaryGo (Sb v))) λ_ _ x=>x)
 first
  |exact Sb (Sa f)
  |exact Sa (Sb (Sa f))
  |exact Sa f
def Zga(I:Zb X pins f H s)(g:Yr H a y o):s.TypeIs (.ref a) "dict" := by
 rcases g with⟨h,k,e,_,_⟩|⟨h,k,b,e,_,_,_⟩;obtain⟨_,_,i,_,c⟩:=QI I.hok e;exact c.typeIs;obtain⟨_,_,j,_,c⟩:=B0 I.hok e;exact c.typeIs
inductive Zgb(Q:VK)(x:V)(y:V)(H2:Hp):Prop|mk a v (_:x=.ref a) (_:Yr H2 a y (some v)) (_:Q v H2)
def uC(e ty:TE):TE:=λc H Q=>e c H λx f=>ty c f λy h=>Zgb Q x y h
inductive Zgc(Q:VK)(y:V)(x:V)(H2:Hp):Prop|mk a o (_:x=.ref a) (_:Yr H2 a y o) (_:Q (.bl o.isSome) H2)
def Zgd(ty e:TE):TE:=λc H Q=>ty c H λy f=>e c f λx h=>Zgc Q y x h
inductive Zge(D:Wz)(σ:St)(v:V)(x:V)(y:V)(H3:Hp):Prop|mk a H4 (_:x=.ref a) (_:XN H3 a y v H4) (_:D.nx σ H4)
def Zgf(e ty h:TE):TS:=λD c H=>h c H λv f=>e c f λx j=>ty c j λy i=>Zge D c v x y i
section
variable{o i e value:Expr}{pos' tpos:Pos}{td ty tv:TE}
def Zgg(C:X.A.units+1<cLine)(D:PE X o td)(hi:PE X i ty)(G:Nv i):PE X (.Subscript o i pos) (uC td ty):=by
 intro pins s c H Q I h;erw[Zf9 PySem.F.slot_dict_getitem.lookup G (Zs (D pins s c H _ I h) λu M ⟨x,L,E,P,S⟩=>Zs (hi pins M c L _ E S) λU s2 ⟨y,J,f,q,a,v,ex,g,B⟩=>?_)];subst ex;obtain rfl:u=Value.ref a:=P;exact⟨Zga f g,Zf5 C f g q λY T O j=>⟨v,J,O,j,B⟩⟩
def G0(q:X.A.units+1<cLine)(hi:PE X i ty)(v:PE X o td):PC X .In i o (Zgd ty td):=by
 intro pins s c H Q I h;erw[Zs (hi pins s c H _ I h) λS G ⟨y,E,C,f,M⟩=>Zs (v pins G c E _ C M) λu s2 ⟨x,D,B,L,a,O,ex,g,j⟩=>?_];subst ex;obtain rfl:u=Value.ref a:=L;exact Zf6 q B g f λP J=>⟨.bl O.isSome,D,J,R,j⟩
def VR(y:X.A.units+1<cLine)(C:PE X o td)(hi:PE X i ty)(L:PE X value tv)(G:swapsWith value (some (.Subscript o i pos')) pos.line X.env=pure false) :
  PS X (.Assign [.Subscript o i pos'] value pos) (Zgf td ty tv):=by
 intro pins s c H a0 I h;erw[wpAny_Assign_Subscript (Zs (L pins s c H _ I h) λr P ⟨c0,M,D,j,T⟩=>Zs (C pins P c M _ D T) λu s2 ⟨x,E,B,S,v⟩=>Zs (hi pins s2 c E _ B v) λiv Y ⟨b0,U,Q,q,a,J,ex,g,O⟩=>?_) G];subst ex;obtain rfl:u=Value.ref a:=S;exact Zf7 y Q g q j λZ f=>⟨c,J,f,O⟩
end
def Zgh(h:Heap)(c:sysModules<h.objs.size):Ym P w H (h.push {cls:=.type "dict",data:=.dict #[]}) h.objs.size (.dK []) :=
 ⟨Sl _,beq_eq_false_iff_ne.mpr (Ne.symm (Sg c)),[],.nil,Heap.DictOf.new h⟩
def Zgi(h:Heap)(c:sysModules<h.objs.size):Ym P w H (h.push {cls:=.type "dict",data:=.dict #[]}) h.objs.size (.dT []) :=
 ⟨Sl _,beq_eq_false_iff_ne.mpr (Ne.symm (Sg c)),[],.nil,_,#[],0,Se _ R,⟨R,R,R⟩,R,R,List.nodup_nil⟩
def Zgj:TE:=λ_ H Q=>∀p,H p=none->Q (.ref p) (Za H p (.dT []))
def Lc:PE X (.Dict [] [] pos) Zgj:=λpins s c H Q I h =>
 wpAny_Dict_empty ⟨.ref s.heap.objs.size,_,I.laid (a:=s.heap.objs.size) (o:=.dT []) (t':=s.toks) (λ_ _ q=>Sc _ q) (Sh _) (Zgi s.heap I.big),R,h _ (I.hok.fresh (Sh _))⟩
def Nw:List (TE×TE)->St->Hp->(List (V×V)->Hp->Prop)->Prop
 |[],_,H,Q=>Q [] H
 |(tk,h)::r,c,H,Q=>tk c H λx e=>h c e λy j=>Nw r c j λf i=>Q ((x,y)::f) i
abbrev VV:List (V×V)->List (Value×Value)->Prop:=Paired λp q=>ZG p.1 q.1/\ZG p.2 q.2
def Ld(X:Cx)(pos:Pos)(keys:List (Option Expr))(values:OG)(i:List (TE×TE)):Prop :=
 ∀(pins:Oy) (s:Shared) (σ:St) (H:Hp) (Q:List (V×V)->Hp->Prop),Zb X pins σ H s->Nw i σ H Q ->
  wpAny (model X.prog X.w) X.A (evalPairs (pairTrees keys values X.env pos)) (λf h=>∃c e,Zb X pins σ e h/\VV c f/\Q c e) X.xe s
def Zgk:Ld X pos [] [] []:=λpins s c H Q I h=>pairTrees_nil_walk ⟨[],H,I,.nil,h⟩
def G1(i:PE X k tk)(J:PE X v e)(U:Ld X pos ks vs f) :
  Ld X pos (some k::ks) (v::vs) ((tk,e)::f):=λpins s c H Q I h =>
 pairTrees_cons_walk (Zs (i pins s c H _ I h) λu P ⟨x,L,E,T,O⟩=>Zs (J pins P c L _ E O) λZ s2 ⟨y,G,D,q,C⟩ =>
  Zs (U pins s2 c G _ D C) λws Y ⟨B,j,S,rel,M⟩=>⟨(x,y)::B,j,S,.cons ⟨T,q⟩ rel,M⟩)
def G2(e more:List (Zn×V)):List (Zn×V):=more.foldl (λf c=>YD f c.1 c.2) e
def KV.merge:∀{more:List (Zn×V)} {rs:List (Zn×Value)} {c:List (Zn×V)} {vs:List (Zn×Value)},KV more rs->KV c vs->KV (G2 c more) (merged vs rs):=by
 intro more rs c vs r;unfold KV at r;induction r generalizing c vs with
 |nil=>intro q;exact q
 |@cons p q j u h t i =>
  intro f;have e:KV (YD c p.1 p.2) (stored vs q.1 q.2):=by
   have:=f.put p.1 h.2;rw[<-h.1];exact this
  exact i e
theorem uD:∀(more c:List (Zn×V)),(G2 c more).length<=c.length+more.length
 |[],c=>by show c.length<=c.length+0;lia
 |p::r,c=>by
  have h1:=uD r (YD c p.1 p.2);have e:=La c p.1 p.2;show(G2 (YD c p.1 p.2) r).length<=_;rw[SA];lia
theorem uE{P:Program}{w:World}:∀{e:List (Zn×V)} {ws:List (Value×Value)},VV (e.map λf=>(kV f.1,f.2)) ws->∃rs,Carries (Xp P w) ws rs/\KV e rs
 |[],_,r=>by rw[List.map_nil]at r;cases r;exact⟨[],True.intro,.nil⟩
 |p::e,_,r=>by
  rw[SO]at r;cases r with
  |@cons a b u bs h t =>
   obtain⟨rs,c,q⟩:=uE (P:=P) (w:=w) t;ext⟨j,i⟩ b;exact⟨(p.1,i)::rs,⟨A8 h.1,R,c⟩,.cons ⟨R,h.2⟩ q⟩
def Zgl(j:List (TE×TE)):TE:=λh H Q=>∀p,H p=none->Nw j h (Za H p (.dK [])) λi f=>f p=some (.dK [])/\∃c:List (Zn×V),i=c.map (λe=>(kV e.1,e.2))/\c.length<=15/\Q (.ref p) (Za f p (.dK (G2 [] c)))
def Zgm{keys:List (Option Expr)}{values:OG}(h:Ld X pos keys values u)(H:keys.all (·.isSome)=true)(C:keys.length=values.length)(E:keys≠[])
  (y:keys.length<=15):PE X (.Dict keys values pos) (Zgl u):=by
 intro pins s L b0 a0 I q;have hn:=I.hok.fresh (Sh s.heap.objs.size);have O:=I.laid (a:=s.heap.objs.size) (o:=.dK []) (h':=s.heap.push {cls:=.type "dict",data:=.dict #[]}) (t':=s.toks) (λ_ _ q=>Sc _ q) (Sh _) (Zgh s.heap I.big);erw[wpAny_Dict_walk (knd:=Xp X.prog X.w) H C E y (Zs (h pins _ L _ _ O (q _ hn)) λws s2 ⟨Z,H2,i,rel,e,j,M,Y,D⟩=>?_)];subst M;obtain⟨U,c,T⟩:=uE (P:=X.prog) (w:=X.w) rel;obtain⟨z,hd,c0,G,B⟩:=vZ i.hok e;cases G;erw[⟨U,c,B,λh' f Q=>⟨.ref s.heap.objs.size,_,?_,R,D⟩⟩];have J:(G2 [] j).length<=sizeLine:=by
  have v:=uD j [];rw[List.length_nil]at v;rw[sizeLine_eq];lia
 have S:∃q,h'.get? s.heap.objs.size=some q:=let ⟨q,_,_,hq,_⟩:=f;⟨q,hq⟩;exact Lb i (by rw[e];exact True.intro) Q S (uB J hd (T.merge .nil) f)
structure M1(X:Cx)(o:Expr)(m:Str)(apos:Pos)(e:Expr)(cpos:Pos):Prop where
 base:attributeBase o m X.env (eval o X.env)=eval o X.env
 few:((backTo cpos (starEach [e] X.env)).all (λx=>!x.1) && (backToKw cpos (keywordEach [] X.env)).all (λx=>x.1.isSome)
  && decide (([e]:OG).length+([]:List Keyword).length+(if ([]:List Keyword).isEmpty then 0 else 1)<30))=true
 line:(apos.endLine==cpos.line)=true
 trees:backTo cpos (starEach [e] X.env)=[(false,eval e X.env)]
structure M2(X:Cx)(o:Expr)(m:Str)(apos:Pos)(e f:Expr)(cpos:Pos):Prop where
 base:attributeBase o m X.env (eval o X.env)=eval o X.env
 few:((backTo cpos (starEach [e,f] X.env)).all (λx=>!x.1) && (backToKw cpos (keywordEach [] X.env)).all (λx=>x.1.isSome)
  && decide (([e,f]:OG).length+([]:List Keyword).length+(if ([]:List Keyword).isEmpty then 0 else 1)<30))=true
 line:(apos.endLine==cpos.line)=true
 trees:backTo cpos (starEach [e,f] X.env)=[(false,eval e X.env),(false,eval f X.env)]
def Nx(H:Hp)(a:Addr):Prop:=(∃c,Rd H a (.dK c))\/∃c,Rd H a (.dT c)
def uF(I:Zb X pins i H s)(d:Nx H a) :
  s.TypeIs (.ref a) "dict" /\ (∀b,Value.ref a=.ref b->∃ob,s.heap.get? b=some ob/\ob.dict=none)/\(a==sysModules)=false:=by
 rcases d with⟨j,e⟩|⟨j,e⟩;obtain⟨_,hd,u,_,c⟩:=QI I.hok e;erw[⟨c.typeIs,λb q=>?_,hd⟩];cases q;ext⟨ob,_,_,h,f,_⟩ c;exact⟨ob,h,f.2.1⟩;obtain⟨_,hd,v,_,c⟩:=B0 I.hok e;erw[⟨c.typeIs,λb q=>?_,hd⟩];cases q;ext⟨ob,_,_,h,f,_⟩ c;exact⟨ob,h,f.2.1⟩
section
variable{σ:St}{a:Addr}{y d:V}{u r:Value}{o:Option V}
def Zgn(D:A.units+1<cLine)(I:Zb X pins σ H s)(g:Yr H a y o)(j:ZG y u)(q:ZG d r)(h:∀i s',Zb X pins σ H s'->ZG (o.getD d) i->Q i s') :
  wpAny (model X.prog X.w) A (call (.builtin "dict.get") [.ref a,u,r]) Q E s:=by
 rcases g with⟨B,k,e,f,l⟩|⟨B,k,b,e,f,v,l⟩;subst f;obtain⟨z,hd,G,rel,c⟩:=QI I.hok e;erw[call_meetsIn PySem.F.slot_dict_get c.typeIs PySem.F.entry_dict_get (PySem.F.args_dict_get_3 _ _ _) (meets_dict_get_default (Xp X.prog X.w) a (A8 j) hd r) ⟨_,c.mapOf,h _ _ (I.tok _) ?_⟩];rw[l];exact(rel.val k).getD q;subst f;cases (show u=Value.ref b from j);obtain⟨z,hd,C,rel,c⟩:=B0 I.hok e;erw[call_meetsIn PySem.F.slot_dict_get c.typeIs PySem.F.entry_dict_get (PySem.F.args_dict_get_3 _ _ _) (meetsH_dict_get_default (tupleKind (Xp X.prog X.w)) a b hd r) ⟨tupleKind_room_in1 D,k,C,A9 I.hok v,c,h _ _ (I.tok _) ?_⟩];rw[l];exact(rel.val k).getD q
end
inductive Zgo(ty tx:TE)(σ:St)(Q:VK)(x:V)(H1:Hp):Prop|mk a (_:x=.ref a) (_:Nx H1 a) (_:ty σ H1 λy H2=>tx σ H2 λz H3=>∃o,Yr H3 a y o/\Q (o.getD z) H3)
def Zgp(f ty tx:TE):TE:=λc H Q=>f c H λx e=>Zgo ty tx c Q x e
section
variable{o e f:Expr}{apos cpos:Pos}{td ty tx:TE}
def Ny(D:X.A.units+1<cLine)(J:PE X o td)(M:PE X e ty)(j:PE X f tx)(m:M2 X o "get" apos e f cpos):PE X (.Call (.Attribute o "get" apos) [e,f] [] cpos) (Zgp td ty tx):=by
 intro pins s c H a0 I h;erw[wpAny_Call_method m.base m.few m.line PySem.F.plainAttrs_dict PySem.F.slot_dict_get PySem.F.type_dict_get (Zs (J pins s c H _ I h) λu S ⟨x,O,i,U,a,ex,d,Y⟩=>?_)];subst ex;obtain rfl:u=Value.ref a:=U;obtain⟨Q,t2,_⟩:=uF i d;erw[⟨Q,t2,?_⟩];rw[m.trees];refine Calls.callWith_builtin R (Calls.evalArgs_plain (Calls.spliced_cons (Zs (M pins S c O _ i Y) λiv s2 ⟨b0,L,G,B,C⟩ =>
  Calls.spliced_cons (Zs (j pins s2 c L _ G C) λfv Z ⟨z,v,T,E,ov,g,P⟩=>Calls.spliced_nil ?_))))
 exact Zgn D T g B E λw' s4 q y=>⟨_,v,q,y,P⟩
end
def Zgq:YT X (.builtin "len") (λxs H Q=>∃a c,xs=[V.ref a]/\H a=some (.dK c)/\Q (.int c.length) H):=by
 intro pins s f H xs i Q I r h;ext⟨a,c,rfl,ha,q⟩ h;obtain⟨u,rfl,ru⟩:=XF r;cases ru;exact Zf8 I (.inl ha) λt j e=>⟨.int c.length,H,e,⟨t,R⟩,q⟩
theorem uG:∀{f:List (Zn×V)} {vs:List (Zn×Value)} {acc:OE},KV f vs->acc.length=vs.length->(∀(j:Nat) (v:Value),acc[j]? = some v->∃(k:Zn) (x:Value),vs[j]? = some (k,x)/\(Xp X.prog X.w).is k v=true)->ZB (f.map λC=>kV C.1) acc
 |_,_,[],.nil,_,_=>.nil
 |_,_,[],.cons _ _,e,_=>by cases e
 |_,_,_::_,.nil,e,_=>by cases e
 |(k0,_)::_,(k1,_)::_,u::us,.cons r t,e,h=>by
  ext⟨D,_⟩ r;obtain⟨k,x,B,c⟩:=h 0 u R;cases B;erw[.cons ?_ (uG t (Nat.succ.inj e) λj v q=>h (j+1) v q)];have y:k0=k1:=D;subst y;cases k0 with
  |inl i=>exact Value.isInt_shape c
  |inr z=>exact Value.isStrOf_shape c
def B1(E:X.calm=true):YT X (.type "list") (λxs H Q=>∃d f,xs=[.ref d]/\H d=some (.dK f)/\∀l,H l=none->Q (.ref l) (Za H l (.lst (f.map λc=>kV c.1)))):=by
 intro pins s T H xs S Q I r h;ext⟨d,f,rfl,hd,q⟩ h;obtain⟨u,rfl,O⟩:=XF r;cases O;obtain⟨B,G,M,c,D⟩:=I.hok d _ hd;ext⟨U,y⟩ D.dictAt;have hlen:M.length=f.length:=(Paired.length c).symm;erw[W.kdl_call (W.kdl_dict G) (I.ok.hd E) y () λC tk P J kp e i=>?_];ext⟨L⟩ P;erw[⟨.ref s.heap.objs.size,_,I.laid (t':=tk) kp (Sh _) (show Ym X.prog X.w _ C _ (.lst (f.map λc=>kV c.1))from⟨by rwa[Sx],L,J,uG (X:=X) c (by simpa using i.1) (λj v q=>i.2 j v (by simpa using q)),e⟩),R,q _ (I.hok.fresh (Sh _))⟩]
def Wd:YT X (.type "int") (λxs H Q=>∃b,xs=[.bl b]/\Q (.int (if b=true then 1 else 0)) H):=by
 intro pins s e H xs f Q I r h;ext⟨b,rfl,q⟩ h;obtain⟨u,rfl,c⟩:=XF r;cases c;erw[PySem.call_int_bool ⟨.int (if b=true then 1 else 0),H,I.tok _,⟨_,R⟩,q⟩]
theorem uH:∀{xs ys:List V} {us vs:OE},ZB xs us->ZB ys vs->ZB (xs++ys) (us++vs)
 |_,_,_,_,.nil,r=>r
 |_,_,_,_,.cons r t,q=>.cons r (uH t q)
theorem uI:∀{xs:List V} {us:OE},ZB xs us->ZB xs.reverse us.reverse
 |_,_,.nil=>.nil
 |_,_,.cons r t=>by rw[List.reverse_cons,List.reverse_cons];exact uH (uI t) (.cons r .nil)
end L2
namespace K1
open PySem L2
def wo(H:Hp)(l:Addr):Hp:=λa=>if a=l then none else H a
def Qj(h:a≠l):wo H l a=H a:=SX h
def WP:Zd (wo H l) H:=λa o e=>by
 by_cases h:a=l;rw[wo,SY h]at e;cases e;rw[Qj h]at e;exact e
def Z0(e:wo H l a=some o):a≠l/\H a=some o:=by
 by_cases h:a=l;rw[wo,SY h]at e;cases e;rw[Qj h]at e;exact⟨h,e⟩
def QJ(s:Zd H c):Zd (wo H l) (wo c l):=λa o e=>by
 obtain⟨h,e⟩:=Z0 e;rw[Qj h];exact s _ _ e
def B2:wo (Za H l o) l=wo H l:=by
 funext a;by_cases h:a=l;rw[wo,wo,SY h,SY h];rw[Qj h,Qj h,Ze h]
def Zy(e:H a=some o)(h:a≠l):wo H l a=some o:=by rwa[Qj h]
def Y3(s:Zd c H)(n:c l=none)(o:HO):Zd c (Za H l o):=λa u e=>by
 rw[Ze (Zu e n)];exact s _ _ e
def uJ(s:Zd c H)(n:c l=none):Zd c (wo H l):=λa u e=>by
 rw[Qj (Zu e n)];exact s _ _ e
inductive Al{β α:Type}(R:β->α->Prop):List β->List α->Prop where
 |nil:Al R [] []
 |cons {v:β} {x:α} {vs:List β} {xs:List α}:R v x->Al R vs xs->Al R (v::vs) (x::xs)
section
variable{β α:Type}{R R':β->α->Prop}
def Al.length{vs:List β}{xs:List α}(h:Al R vs xs):vs.length=xs.length:=by
 induction h with
 |nil=>rfl
 |cons _ _ c=>rw[SA,SA,c]
def Al.imp(h:Al R vs xs)(f:∀v x,R v x->R' v x):Al R' vs xs:=by
 induction h with
 |nil=>exact .nil
 |cons a _ c=>exact .cons (f _ _ a) c
def Al.app(h:Al R vs xs)(g:Al R us ys):Al R (vs++us) (xs++ys):=by
 induction h with
 |nil=>exact g
 |cons a _ c=>exact .cons a c
def Al.snoc(h:Al R vs xs)(g:R v x):Al R (vs++[v]) (xs++[x]):=h.app (.cons g .nil)
def Al.get(h:Al R vs xs):∀{i:Nat} {v:β},vs[i]? = some v->∃x,xs[i]? = some x/\R v x:=by
 induction h with
 |nil=>intro i v e;cases e
 |cons a _ c =>
  intro i v e;cases i with
  |zero=>cases e;exact⟨_,rfl,a⟩
  |succ i=>exact c e
end
end K1
namespace L2
open PySem PySem.Spec PyProof.Rows
section
variable{a b:Expr}{rest:OG}{ta tb:TE}
inductive Zgr(K:OA)(tb:TE)(σ:St)(Q:VK)(x:V)(H1:Hp):Prop|mk c (_:yY K x H1 c) (_:if c=true then Q x H1 else tb σ H1 Q)
def Zgs(K:OA)(ta tb:TE):TE:=λc H Q=>ta c H λx e=>Zgr K tb c Q x e
def Zgt(ha:PE X a ta)(u:PE X (.BoolOp .Or (b::rest) pos) tb):PE X (.BoolOp .Or (a::b::rest) pos) (Zgs X.K ta tb):=by
 intro pins s f H Q I h;erw[BoolOp_or (Zs (ha pins s f H _ I h) λv G ⟨x,q,D,r1,e⟩=>?_)];ext⟨c,y,e⟩ e;erw[Zs (ZdS pins G f q x v (λi E=>i=c/\E=q) D r1 ⟨c,y,R,R⟩) λi s2 ⟨J,j,C,B⟩=>?_];subst C B;cases i with
 |false=>exact u pins s2 f _ Q j e
 |true=>exact⟨x,_,j,r1,e⟩
end
section
variable{σ:St}
open Classical in
noncomputable def Uv (h:Heap) (dx:PyData) (u:Value):Bool:=if ∃d as,Reads h u d as/\PyData.eqv d dx=true then true else false
def uK{d : PyData}(r:Reads h u d i)(c:d.canLay0=true):Uv h f u=PyData.eqv d f:=by
 unfold Uv;cases e:PyData.eqv d f with
 |true=>exact SY ⟨d,i,r,e⟩
 |false =>
  erw[SX ?_];rintro⟨v,q,y,j⟩;rw[<-SeqAt.Reads.unique d v u i q c r y,e]at j;exact Bool.noConfusion j
theorem Nz:∀{us:OE} {ds:List PyData} {as:OK},ReadsAll h us ds as->PyData.canLayAll0 ds=true->us.any (Uv h e)=ds.any λd=>PyData.eqv d e
 |_,_,_,.nil,_=>rfl
 |_,_,_,.cons r rs,c=>by
  simp only[PyData.canLayAll0,Bool.and_eq_true]at c;rw[List.any_cons,List.any_cons,uK r c.1,Nz rs c.2]
theorem NC{e:PyData}(i:Reads s.heap v e bs)(h:e.canLay0=true)(f:A.units+e.depth<cLine):∀{us:OE} {ds:List PyData} {as:OK},ReadsAll s.heap us ds as->PyData.canLayAll0 ds=true->∀u∈us,SeqAt.EqAt A s u v (Uv s.heap e u)
 |_,_,_,.nil,_=>λu f=>by cases f
 |_,_,_,.cons r rs,c=>λj hm=>by
  simp only[PyData.canLayAll0,Bool.and_eq_true]at c;rcases SH.mp hm with rfl|hm;rw[uK r c.1];exact SeqAt.eqAt_reads _ _ A s _ _ _ _ r i c.1 h ();exact NC i h f rs c.2 j hm
inductive uL(K:OA)(neg:Bool)(x:V)(y:V)(H:Hp)(Q:VK):Prop|mk p xs dx ds (_:y=.ref p) (_:(Zg K H p xs\/Zl K H p xs)) (_:DV K H x dx) (_:Xd K H xs ds) (_:dx.depth<=60) (_:Q (.bl (if neg then !(ds.any λd=>PyData.eqv d dx)else ds.any λd=>PyData.eqv d dx)) H)
def Zgu(M:X.A.units+64<cLine):YK X (compareOp .In) (uL X.K false):=by
 intro pins s σ H x y v u Q I J E h;ext⟨p,L,c,ds,rfl,f,B,e,hd,q⟩ h;cases E;obtain⟨O,r1⟩:=B.reads I J;have D:X.A.in1.units+c.depth<cLine:=by show X.A.units+1+_<_;lia
 rcases f with f|f;obtain⟨its,r,j,G⟩:=I.list f;obtain⟨bs,i⟩:=e.reads I r;erw[SeqAt.in_listAt (Uv s.heap c) j.isList (λw C=>NC r1 B.can D i e.can w (by simpa using C)) ⟨.bl _,H,I,R,?_⟩];rwa[show its.toArray.any (Uv s.heap c)=its.any (Uv s.heap c) by simp,Nz i e.can];obtain⟨its,r,j,G⟩:=I.tuple f;obtain⟨bs,i⟩:=e.reads I r;erw[SeqAt.in_tupleAt (Uv s.heap c) j (λw C=>NC r1 B.can D i e.can w (by simpa using C)) ⟨.bl _,H,I,R,?_⟩];rwa[show its.toArray.any (Uv s.heap c)=its.any (Uv s.heap c) by simp,Nz i e.can]
end
theorem uM:∀bs:List Bool,(List.range bs.length).any (λi=>bs.getD i false)=bs.any id
 |[]=>rfl
 |b::bs=>by
  rw[SA,List.range_succ_eq_map,List.any_cons,List.any_map,List.any_cons];show(b || _)=(b || _);rw[<-uM bs];rfl
def uN(S:X.calm=true):YT X (.builtin "any") (λxs H Q=>∃(p:Addr) (bs:List Bool),xs=[.ref p]/\Zg X.K H p (bs.map V.bl)/\Q (.bl (bs.any id)) H):=by
 intro pins s σ H xs us Q I r h;ext⟨p,bs,rfl,M,q⟩ h;obtain⟨b0,rfl,rx⟩:=XF r;cases rx;obtain⟨its,u,f,hz⟩:=I.list M;have hlen:=u.length;obtain⟨o,n,T,_⟩:=id f;have a0:p≠s.heap.objs.size:=Sg (Sf T);have J:TruthOf X.prog X.w X.A.in1 (λi v=>its.toArray[i]? = some v) (λi=>bs.getD i false):=by
  intro i v s2 E E2 Z D;have C:its[i]? = some v:=by simpa using Z
  have y:i<bs.length:=by
   have:=(Su.mp C).1;rw[<-hlen,Sx]at this;exact this
  obtain⟨w,c,j⟩:=u.get (i:=i) (x:=.bl bs[i]) (by rw[Oc,Sv y];rfl);rw[C]at c;cases c;cases j;erw[wpAny_truthy_bool ?_];have O:bs.getD i false=bs[i]:=by rw[List.getD_eq_getElem?_getD,Sv y];rfl
  have B:E (bs.getD i false) s2:=D;rw[O]at B;exact B
 erw[call_any_walk (wpAny_pyIter_list f.isList ?_)];erw[⟨s.heap.objs.size,[s.heap.objs.size,p],[s.heap.objs.size],its.toArray.size,_,_,_,R,Walks.list (A:=X.A.in1) (I.ok.hd S) _ _ a0 its.toArray,⟨⟨_,Se _ R,R,R⟩,?_⟩,J,λP tk G=>?_⟩];ext⟨U,j,Y⟩ f.isList;exact⟨U,Sc _ j,Y⟩;have L:∀b o,s.heap.get? b=some o->P.get? b=some o:=λb o e=>G b o (λz=>by
  have c:=Sf e;rw[SG.mp z]at c;exact Ov c (Sm _)) (Sc _ e)
 have e:(List.range its.toArray.size).any (λi=>bs.getD i false)=bs.any id:=by
  rw[SQ,<-hlen,Sx];exact uM bs
 rw[e];exact⟨.bl _,H,I.kept (t':=tk) L,R,q⟩
def Zgv{k:Nat}{f c:Addr}{name qual:Str}{params:Arguments}{body:Expr}{C B:Value}{N h:OF}(S:ZC N h scope)
 {outer:List Env} {us:OE} {vs:List V} {Q:VK} {E:XK} {u:TE}
  (G:Yh (k+1) A) (i:Vp P w K mg base A outer s H) (Z:s.heap.get? f=some (W.kla_obj name qual params body scope [] C c B)) (X:s.heap.CodeRec (.ref c) qual)
  (L:bindArgs (W.kla_fn name qual params body scope [] C (.ref c) B) ⟨us,[]⟩=pure (h.zip us)) (r:ZB vs us) (O:vs.length=h.length)
  (he:PE (WL Zr P w K mg base N qual scope f (.ref c) A outer s H E) body u) (T:u (W3 N vs) H Q) :
  codeAny (model P w) A (.call (.ref f) ⟨us,[]⟩) (CR Zr outer P w H s Q E) s:=by
 have b0:s.heap.NoLimit:=i.mod.nolimit.keeps λb o e=>(i.bs b o e).1;have U:∀y∈h.zip us,scope.names.lookup y.1=some .local\/(scope.names.lookup y.1=some .cell/\((cellsFrom (s.heap.objs.size+1) scope.names []).lookup y.1).isSome=true):=λ⟨n,v⟩ Y=>by
  rcases S.par n (List.of_mem_zip Y).1 with q|q;exact .inl q;exact .inr ⟨q,W.cellsFrom_some _ _ _ (.inl q)⟩
 erw[W.kla_callFunE G.depth Z R S.co S.gen R X ?_];rw[L];erw[Sb ?_];erw[wpAny_newFunctionEnv_cells S.kind U λenv a0 D x=>?_];subst a0;erw[⟨b0.keeps x.toInCall.keep,W.kla_codeExpr ?_⟩];have I:Zb (WL Zr P w K mg base N qual scope f (.ref c) A outer s H E) [] (W3 N vs) H D:=xO S G.hd i O r x;erw[Ou (he [] D (W3 N vs) H _ I T) (λc0 s' j=>?_) λe s' j=>j];ext⟨v,H',J,M,q⟩ j;exact⟨v,H',J.os,J.bare,J.base,J.hok,M,q⟩
def Zb.one{h':Heap}(I:Zb X pins f H s)(e:Y4 X pins H b)(k:∀c o,c≠b->s.heap.get? c=some o->h'.get? c=some o):Zb X pins f H {s with heap:=h',toks:=t'} :=
 I.turned (t':=t') k e.1 e.2.1 e.2.2.2.1 e.2.2.2.2.1 e.2.2.2.2.2
def Ws(c:Addr)(qual:Str):HO:=.ext λh=>h.CodeRec (.ref c) qual
def Ud(f:Addr)(qual:Str)(params:Arguments)(body:Expr)(scope:Scope)(cl:OB)(c:Value)(i:Addr)(e:Value):HO:=.ext λh=>h.get? f=some (W.kla_obj "<lambda>" qual params body scope cl c i e)
def uO{h:Heap}{qual:Str}{params:Arguments}{body:Expr}(e:h.get? f=some (W.kla_obj "<lambda>" qual params body scope cl c j i)):Ym P w H h f (Ud f qual params body scope cl c j i) :=
 ⟨e,⟨_,e⟩,λ_ _ q k=>k _ q⟩
abbrev Le(f:Addr)(qual:Str)(params:Arguments)(body:Expr)(scope:Scope)(pm:Value)(c':Addr)(ctv:Value):HO:=Ud f qual params body scope [] pm c' ctv
def BM(mg:Oz)(base:Heap):Prop:=∃c ob,mg "__builtins__"=some (.ref c)/\c≠builtinsNs/\c≠mainGlobals/\base.get? c=some ob/\ob.cls=.type "module" /\ ob.dict=some builtinsNs/\ob.data=.plain
def Zgw{h:Heap}{qual:Str}(u:h.CodeRec (.ref i) qual):Ym P w H h i (Ws i qual):=by
 erw[⟨u,?_,λC B q k=>?_⟩];ext⟨v,f,j,t,e,c,_⟩ u;cases e;exact⟨f,c⟩;ext⟨v,f,j,t,e,c,hd,y⟩ q;cases e;exact⟨_,f,j,t,R,k _ c,hd,y⟩
inductive Lf(P:Addr)(mg:Oz)(qual:Str)(params:Arguments)(body:Expr)(scope:Scope)(cl:OB)(pos:Pos)(_e0:St)(H:Hp)(Q:VK):Prop|mk (ps:Array Value) (_:H P=some (.tbl ps)) (_:TriplesOk ps.toList) (_:((codeAmong pos ps.toList=none/\∀f c' ctv,H f=none->H c'=none->f≠c'->Q (.ref f) (Za (Za (Za H P (.tbl (ps ++ #[rawInt pos.line,rawInt pos.col,.ref c']))) c' (Ws c' qual)) f (Ud f qual params body scope cl ((mg "__name__").getD .none) c' ctv)))\/∃c',codeAmong pos ps.toList=some (.ref c')/\∀f ctv,H f=none->Q (.ref f) (Za H f (Ud f qual params body scope cl ((mg "__name__").getD .none) c' ctv))))
def G3{params:Arguments}{body:Expr}{P : Addr}(U:X.env.code=.ref c)(C:W.CodeHd X.base c P)(h0:BM X.mg X.base)(d0:closureFor scope X.env=pure cl)(e0:defaultsOf params X.env=([],[])) :
  PE X (.Lambda params body scope pos) (Lf P X.mg (X.env.qual ++ "<lambda>") params body scope cl pos):=by
 intro pins s σ H j0 I h;ext⟨D,i,ht,h⟩ h;have L:s.heap.get? P=some (W.tabObj D):=I.hok P _ i;have b0:∀{b o},X.base.get? b=some o->b≠P:=λe z=>by
  have:=(I.bs _ _ e).2;rw[z,i]at this;cases this
 have g0:mainGlobals≠P:=by
  ext⟨o,es,ep,e,_⟩ I.mod.glob;exact b0 e
 ext⟨bm,ob,b1,b2,b3,Z,b5,b6,b7⟩ h0;have T:s.heap.BuiltinsAt X.mg P:=⟨bm,ob,b1,b2,b3,b0 Z,I.bk _ _ Z,b5,b6,b7⟩;erw[W.kla_eval e0 ?_];rcases h with⟨hn,q⟩|⟨f,hf,q⟩;erw[W.kla_makeFunction (mg:=X.mg) d0 I.ok.glob (I.mod.glob.keeps I.bk) U (C.keeps I.bk) L ht hn g0 T λf j h' tk y G c0 f0 a0=>?_];have M:H f=none:=I.hok.fresh G;have i0:P<s.heap.objs.size:=Sf L;have cP:f≠P:=Nat.ne_of_gt (Sj i0 G);have E:∀{b o},H b=some o->(∀S,o≠.tbl S)->Za (Za H P (.tbl (D ++ #[rawInt pos.line,rawInt pos.col,.ref f]))) f (Ws f (X.env.qual ++ "<lambda>")) b=some o:=λe n=>by
  rwa[Ze (Zu e M),Ze (Z5 e i (n _))]
 have I1:Zb X pins σ (Za (Za H P (.tbl (D ++ #[rawInt pos.line,rawInt pos.col,.ref f]))) f (Ws f (X.env.qual ++ "<lambda>"))) {s with heap:=h',gens:=s.gens,drawn:=s.drawn,toks:=tk}:=by
  erw[I.step (ch:=[]) (λ_ z=>nomatch z) (λb o _ _ _ e n=>y b o (λz=>by rw[z,i]at n;cases n) e) (λb o _ _ _ e n=>⟨o.slots,y b o (λz=>by rw[z,i]at n;cases n) e⟩) (λb o _ e n=>?_) (λb o _ e=>?_) (λb xs e=>E e λ_ z=>by cases z) (λb o u e=>E e λ_ z=>by cases z) (λb S e=>?_) (λm hn=>hn.extBut y λz=>?_) (λb u e=>?_) I.bare];rw[Ze (Sg (Sj (Sf e) G)),Ze λz=>by rw[z,i]at n;cases n];exact n;by_cases z:b=P;exact⟨_,by rwa[z]⟩;exact⟨o,y b o z e⟩;by_cases z:b=P;subst z;rw[i]at e;obtain rfl:D=S:=by injection e with e;injection e
  exact⟨#[rawInt pos.line,rawInt pos.col,.ref f],by rw[Ze cP.symm,Zj]⟩;exact⟨#[],by rw[Ze (Zu e M),Ze z,e];simp⟩;have:=I.free;rw[z,i]at this;cases this;by_cases z:b=f;subst z;rw[Zj]at e;obtain rfl:=Sr e;exact Zgw f0;rw[Ze z]at e;by_cases J:b=P;subst J;rw[Zj]at e;obtain rfl:=Sr e;exact a0;rw[Ze J]at e;erw[(I.hok b u e).stay (λQ u' B v=>y Q u' (λzz=>?_) v) (λQ v=>E v λ_ z=>by cases z) (λQ xs v=>E v λ_ z=>by cases z)];rcases B with rfl|B;exact J zz;rw[zz,i]at B;cases B
 have O:=I1.laid (a:=h'.objs.size) (o:=Ud h'.objs.size (X.env.qual ++ "<lambda>") params body scope cl ((X.mg "__name__").getD .none) f j) (t':=tk) (h':=h'.push (W.kla_obj "<lambda>" (X.env.qual ++ "<lambda>") params body scope cl ((X.mg "__name__").getD .none) f j)) (λb u e=>Sc _ e) (Sh _) (uO (Se _ R));have nf:H h'.objs.size=none:=I.hok.fresh (Si G (Nat.le_of_lt c0));exact⟨.ref _,_,O,R,q _ f j nf M (Nat.ne_of_gt c0)⟩;erw[W.kla_makeFunctionHit (mg:=X.mg) d0 I.ok.glob (I.mod.glob.keeps I.bk) U (C.keeps I.bk) L ht hf T λj h' tk hk Y=>?_];have O:=I.laid (a:=h'.objs.size) (o:=Ud h'.objs.size (X.env.qual ++ "<lambda>") params body scope cl ((X.mg "__name__").getD .none) f j) (t':=tk) (h':=h'.push (W.kla_obj "<lambda>" (X.env.qual ++ "<lambda>") params body scope cl ((X.mg "__name__").getD .none) f j)) (λb u e=>Sc _ (hk b u e)) Y (uO (Se _ R));exact⟨.ref _,_,O,R,q _ j (I.hok.fresh Y)⟩
abbrev uP(P:Addr)(mg:Oz)(qual:Str)(params:Arguments)(body:Expr)(scope:Scope)(pos:Pos):TE:=Lf P mg qual params body scope [] pos
def Zgx{params:Arguments}{body:Expr}{P : Addr}(f:X.env.code=.ref c)(C:W.CodeHd X.base c P)(i:BM X.mg X.base)(h:closureFor scope X.env=pure [])(e:defaultsOf params X.env=([],[])) :
  PE X (.Lambda params body scope pos) (uP P X.mg (X.env.qual ++ "<lambda>") params body scope pos):=G3 f C i h e
def WC.okC{x qual:Str}{st:Stmt}{f:Addr}{e:OM}{N i:OF}{k:Nat}{sp:Sp}(F:WC K x qual st f e)(S:ZC N i (Zz st))(len:∀vs H Q E,sp vs H Q E->vs.length=i.length)
  (u:∀(c:Value) (A:Around) (outer:List Env) (s:Shared) (H:Hp) (vs:List V) (Q:VK) (E:XK),e.code=c->Yh k (A.deeper (envOfC qual (Zz st) s.heap.objs.size f c))->sp vs H Q E ->
   ∃t,XV (WL Zr P w K mg base N qual (Zz st) f c A outer s H E).nox (Va st) t/\t {nx:=λ_ B=>Q .non B,rt:=Q} (W3 N vs) H):Zo P w K mg base Zr (k+1) f e i sp:=by
 ext⟨M,G,kV,I,L,J,c,ct,D,rfl,v,j⟩ F.ex;erw[MX v j S len λA outer s H vs Q E y C=>?_];obtain⟨t,h,q⟩:=u c A outer s H vs Q E R y C;exact⟨t,h.nox,q⟩
end L2
namespace K1
open PySem L2
def Xm(lt:Addr)(pos:Pos)(q:Str)(H:Hp):Prop:=H lt=some (.tbl #[])\/∃c,H lt=some (.tbl #[rawInt pos.line,rawInt pos.col,.ref c])/\H c=some (Ws c q)
def Xm.same(s:Zd H c)(h:Xm lt pos q H):Xm lt pos q c:=by
 rcases h with h|⟨f,h,e⟩;exact .inl (s _ _ h);exact .inr ⟨f,s _ _ h,s _ _ e⟩
def Xm.at(h:Xm lt pos q H):∃c,H lt=some (.tbl c):=by
 rcases h with h|⟨f,h,e⟩;exact⟨_,h⟩;exact⟨_,h⟩
def Zgy{params:Arguments}{body:Expr}(h:Xm lt pos q H)
  (k:∀(f c:Addr) (i:Value) (H':Hp),Zd (wo H lt) H'->Xm lt pos q H'->H' f=some (Le f q params body scope ((mg "__name__").getD .none) c i)->H' c=some (Ws c q)->Q (.ref f) H'):uP lt mg q params body scope pos B H Q:=by
 rcases h with h|⟨c,h,u⟩;erw[⟨#[],h,trivial,.inl ⟨R,λf c i j v ne=>?_⟩⟩];have nf:lt≠f:=Zu h j;have C:lt≠c:=Zu h v;have y:(Za (Za (Za H lt (.tbl (#[] ++ #[rawInt pos.line,rawInt pos.col,.ref c]))) c (Ws c q)) f (Le f q params body scope ((mg "__name__").getD .none) c i)) c=some (Ws c q):=by
  rw[Ze (Ne.symm ne),Zj]
 erw[k f c i _ (λa o e=>?_) (.inr ⟨c,?_,y⟩) Zj y];obtain⟨n,e⟩:=Z0 e;rwa[Ze (Zu e j),Ze (Zu e v),Ze n];rw[Ze nf,Ze C,Zj];rfl;erw[⟨_,h,trivial,.inr ⟨c,?_,λf i j=>?_⟩⟩];show codeAmong pos [rawInt pos.line,rawInt pos.col,.ref c]=some (.ref c);simp[codeAmong,rawInt];have s:=Zx j (Le f q params body scope ((mg "__name__").getD .none) c i);exact k f c i _ (WP.trans s) (.inr ⟨c,s _ _ h,s _ _ u⟩) Zj (s _ _ u)
def Xm.put(h:Xm lt pos q H)(e:H a=some (.lst xs)):Xm lt pos q (Za H a o):=by
 rcases h with h|⟨f,h,c⟩;exact .inl (by rwa[Ze λz=>by rw[z,e]at h;cases h]);exact .inr ⟨f,by rwa[Ze λz=>by rw[z,e]at h;cases h],by rwa[Ze λz=>by rw[z,e]at c;cases c]⟩
def Vt(h:H lt=some (.tbl c))(e:H a=some o)(n:∀c,o≠.tbl c):wo H lt a=some o :=
 Zy e λz=>by rw[z,h]at e;exact n c (Sr e).symm
end K1
namespace L2
open PySem PySem.Spec PyProof.Rows
structure SB(k₀:SortKind)(a₀:Array Keyed)(st:SortSt):Prop where
 perm:(arrOf st).Perm a₀
 kind:kindOf st=k₀
 failed:failedOf st=none
 pend:pendingOf st=#[]
def SB.size{c:SortKind}{a₀:Array Keyed}{st:SortSt}(h:SB c a₀ st):(arrOf st).size=a₀.size:=h.perm.size_eq
def SB.arr{c:SortKind}{a₀:Array Keyed}{st:SortSt}(h:SB c a₀ st){xs:Array Keyed}(p:xs.Perm (arrOf st)):SB c a₀ (setArr st xs):=⟨p.trans h.perm,h.kind,h.failed,h.pend⟩
def UT(prog:Program)(w:World)(A:Around)(s:Shared)(c:SortKind)(κ:PyProof.Rows.KeyKind):Prop :=
 ∀(E:Ox) (x y:Value) (a b:κ.α) (Q:Bool->Shared->Prop),κ.keyOf x=some a->κ.keyOf y=some b->Q (κ.blt a b) s->wpAny (model prog w) A (keyLt' c x y) Q E s
section
variable{k₀:SortKind}{κ:PyProof.Rows.KeyKind}{a₀:Array Keyed}
def uQ{st:SortSt}(c:SB k₀ a₀ st)(f:KeysOf κ a₀){i:Nat}(hi:i<a₀.size):∃x p,(arrOf st)[i]? = some (x,p)/\κ.keyOf x=some (KK κ (arrOf st) i):=by
 have h:i<(arrOf st).size:=by rw[c.size];exact hi
 have e:(arrOf st)[i]? = some (arrOf st)[i]:=getElem?_pos _ i h;have mem:(arrOf st)[i]∈a₀.toList:=(Array.perm_iff_toList_perm.mp c.perm).mem_iff.mp (by simp);obtain⟨a,ha⟩:=f _ mem;erw[⟨(arrOf st)[i].1,(arrOf st)[i].2,e,?_⟩];rw[ha];unfold KK;rw[e];show some a=some ((κ.keyOf (arrOf st)[i].1).getD κ.dflt);rw[ha];rfl
def G4{st:SortSt}{i j:Nat}{Q:Option Bool->SortSt->Prop}(C:UT prog w A s k₀ κ)(c:SB k₀ a₀ st)(e:KeysOf κ a₀)(hi:i<a₀.size)(v:j<a₀.size)
  (h:Q (some (κ.blt (KK κ (arrOf st) i) (KK κ (arrOf st) j))) st):wpS (model prog w) A E s (ltAt' i j) Q st:=by
 obtain⟨x,p,u,f⟩:=uQ c e hi;obtain⟨y,q,D,B⟩:=uQ c e v;rw[ltAt'_eq];apply wpS_bind;apply wpS_get;apply wpS_bind;rw[elem'_eq,u];apply wpS_pure;apply wpS_bind;rw[elem'_eq,D];apply wpS_pure;rw[lt'_eq];apply wpS_bind;apply wpS_get;apply wpS_bind;rw[c.kind];erw[wpS_lift (wpAny_attempt (C _ x y _ _ _ f B ⟨R,?_⟩))];exact wpS_pure h
def Zgz{xs:Array Keyed}(v:k<xs.size)(C:l<=k)(h:SortedToK κ xs k)(lo:∀i,i<l->κ.kle (KK κ xs i) (KK κ xs k))(hi:∀i,l<=i->i<k->κ.klt (KK κ xs k) (KK κ xs i)):SortedToK κ (bubble xs k (k - l)) (k+1):=by
 intro i j y B;rw[KK_bubble v () i,KK_bubble v () j];have e:k - (k - l)=l:=by lia
 rw[e];by_cases u:i=l;rw[SY u];by_cases c:j=l;rw[SY c];exact KeyOrd.kle_refl _;rw[SX c];by_cases f:l<j/\j<=k;rw[SY f];exact KeyOrd.kle_of_klt (hi (j - 1) () ());omega;rw[SX u];by_cases q:l<i/\i<=k;rw[SY q];have c:¬ j=l:=by lia
 have f:l<j/\j<=k:=by lia
 rw[SX c,SY f];exact h (i - 1) (j - 1) () ();rw[SX q];by_cases c:j=l;rw[SY c];exact lo i ();rw[SX c];by_cases f:l<j/\j<=k;rw[SY f];exact h i (j - 1) () ();rw[SX f];exact h i j y ()
def ZgA{st:SortSt}{n ok:Nat}{Q:Bool->SortSt->Prop}(X:UT prog w A s k₀ κ)(P:KeysOf κ a₀)(hn:n<=a₀.size)(hok:ok<=n)(U:SB k₀ a₀ st)(J:SortedToK κ (arrOf st) ok)
  (h:∀e,SB k₀ a₀ e->SortedToK κ (arrOf e) n->Q true e):wpS (model prog w) A E s (binarySort' 0 n ok) Q st:=by
 rw[binarySort'_eq];simp only[Nat.zero_add];apply wpS_bind;erw[wpS_mono (Q:=λc e=>c=(none,Unit.unit)/\SB k₀ a₀ e/\SortedToK κ (arrOf e) n) (wpS_forRange (λk c e=>c=(none,Unit.unit)/\SB k₀ a₀ e/\(k<=n->SortedToK κ (arrOf e) k)/\(n<k->SortedToK κ (arrOf e) n)) ?_ ?_ ?_) ?_];rintro k c e Y a0 ⟨rfl,u,D,_⟩;have G:k<a₀.size:=by lia
 have B:=D ();apply wpS_bind;refine wpS_mono (Q:=λc f=>f=e/\∃l r,c=(none,l,r)/\l<=k/\(∀i,i<l->κ.kle (KK κ (arrOf e) i) (KK κ (arrOf e) k))/\∀i,l<=i->i<k->κ.klt (KK κ (arrOf e) k) (KK κ (arrOf e) i))
  (wpS_forRange (λx c f=>f=e/\∃l r,c=(none,l,r)/\l<=r/\r<=k/\r+x<=l+k/\(∀i,i<l->κ.kle (KK κ (arrOf e) i) (KK κ (arrOf e) k))/\∀i,r<=i->i<k->κ.klt (KK κ (arrOf e) k) (KK κ (arrOf e) i)) ?_ ?_ ?_) ?_
 rintro x c f _ Z ⟨rfl,l,r,rfl,T,I,hm,lo,v⟩;dsimp only;by_cases H:l ≥ r;rw[SY H];exact wpS_pure ⟨R,l,r,R,(),lo,λi q y=>v i () y⟩;rw[SX H];apply wpS_bind;erw[G4 X u P G () ?_];dsimp only;cases c:κ.blt (KK κ (arrOf f) k) (KK κ (arrOf f) ((l+r)/2))with
 |true =>
  rw[SY R];erw[wpS_pure ⟨R,l,(l+r)/2,R,(),(),(),lo,λi q y=>?_⟩];exact KeyOrd.klt_of_klt_of_kle c (B ((l+r)/2) i q y)
 |false =>
  rw[SX SR];erw[wpS_pure ⟨R,(l+r)/2+1,r,R,(),(),(),λi q=>?_,v⟩];exact KeyOrd.kle_trans (B i ((l+r)/2) () ()) c
 rintro c f ⟨rfl,l,r,rfl,T,I,hm,lo,v⟩;have:l=r:=by lia
 subst this;exact⟨R,l,l,R,I,lo,v⟩;exact⟨R,0,k,R,(),(),(),λi v=>by lia,λi q y=>by lia⟩;rintro c f ⟨rfl,l,r,rfl,O,lo,v⟩;dsimp only;apply wpS_bind;rw[moveDown'_eq];apply wpS_modify;have L:k<(arrOf f).size:=by rwa[u.size]
 have sp:=Zgz L O B lo v;exact wpS_pure ⟨R,u.arr (bubble_perm _ _ _),λ_=>sp,λz=>Ov z ()⟩;rintro c e ⟨S,u,q,y⟩;erw[⟨S,u,?_⟩];by_cases z:max (max ok 1) n<=n;have:max (max ok 1) n=n:=by lia
 rw[this]at q;exact q (Sh _);exact y ();erw[⟨R,U,λ_=>?_,λ_=>?_⟩];intro i j C M;by_cases z:ok=0;have:i=j:=by lia
 subst this;exact KeyOrd.kle_refl _;exact J i j C ();intro i j C M;by_cases z:ok=0;have:i=j:=by lia
 subst this;exact KeyOrd.kle_refl _;exact J i j C ();rintro c e ⟨rfl,u,D⟩;exact wpS_pure (h e u D)
def ZgB(h:1<=n)(c:SortedToK κ xs n)(k:κ.kle (KK κ xs (n - 1)) (KK κ xs n)):SortedToK κ xs (n+1):=by
 intro i j q u;by_cases e:j=n;subst e;by_cases f:i=j;subst f;exact KeyOrd.kle_refl _;exact KeyOrd.kle_trans (c i (j - 1) () ()) k;exact c i j q ()
def G5(h:1<=n)(c:NonIncK κ xs n)(k:κ.kle (KK κ xs n) (KK κ xs (n - 1))):NonIncK κ xs (n+1):=by
 intro i j q u;by_cases e:j=n;subst e;by_cases f:i=j;subst f;exact KeyOrd.kle_refl _;exact KeyOrd.kle_trans k (c i (j - 1) () ());exact c i j q ()
def uR{st:SortSt}{a e:Nat}{Q:AscSt->SortSt->Prop}(v:UT prog w A s k₀ κ)(y:KeysOf κ a₀)(hn:e<=a₀.size)(ha:1<=a)(q:a<=e)(j:SB k₀ a₀ st)(B:SortedToK κ (arrOf st) a)
  (h:∀n,a<=n->n<=e->SortedToK κ (arrOf st) n->(n=e\/κ.klt (KK κ (arrOf st) n) (KK κ (arrOf st) (n - 1)))->Q (none,n) st):wpS (model prog w) A E s (ascLoop a e) Q st:=by
 unfold ascLoop;erw[wpS_forRange (λx c f=>f=st/\c=(none,x)/\SortedToK κ (arrOf st) x) ?_ ?_ ⟨R,R,B⟩];rintro x c f u C ⟨rfl,rfl,i⟩;dsimp only;apply wpS_bind;erw[G4 v j y () () ?_];dsimp only;cases c:κ.blt (KK κ (arrOf f) x) (KK κ (arrOf f) (x - 1))with
 |true =>
  rw[SY R];exact wpS_pure (h x u () i (.inr c))
 |false =>
  rw[SX SR];exact wpS_pure ⟨R,R,ZgB () i c⟩
 rintro c f ⟨rfl,rfl,i⟩;rw[show max a e=e by lia]at i ⊢;exact h e q (Sh _) i (.inl R)
def ZgC{xs:Array Keyed}(hn:n<=xs.size)(h:NonIncK κ xs n):SortedToK κ (mirror xs 0 n ((n - 0)/2)) n:=by
 intro i j c e;rw[KK_mirror hn i,KK_mirror hn j,SY (),SY ()];exact h _ _ () ()
def uS{st:SortSt}{n c:Nat}{Q:Option Nat->SortSt->Prop}(q:UT prog w A s k₀ κ)(u:KeysOf κ a₀)(hn:c<=a₀.size)(h1:1<=n)(j:n<=c)(f:SB k₀ a₀ st)(y:NonIncK κ (arrOf st) n)
  (h:∀m e,SB k₀ a₀ e->1<=m->m<=c->SortedToK κ (arrOf e) m->Q (some m) e):wpS (model prog w) A E s (tail3 n c) Q st:=by
 unfold tail3;apply wpS_bind;erw[wpS_reverse ?_];apply wpS_bind;have i:SB k₀ a₀ (setArr st (mirror (arrOf st) 0 n ((n - 0)/2))):=f.arr (mirror_perm _ _ _ _);erw[uR q u hn h1 j i (ZgC (by rw[f.size];lia) y) λm C B v _=>?_];exact wpS_pure (h m _ i () B v)
def ZgD{st:SortSt}{n v:Nat}{Q:DescSt->SortSt->Prop}(L:UT prog w A s k₀ κ)(H:KeysOf κ a₀)(hn:v<=a₀.size)(h1:1<=n)(O:n<=v)(X:SB k₀ a₀ st)(T:NonIncK κ (arrOf st) n)
  (h:∀m q e,SB k₀ a₀ e->n<=m->m<=v->q+1<=m->NonIncK κ (arrOf e) m->(∀k,m - (q+1)<=k->k<m->KK κ (arrOf e) k=KK κ (arrOf e) (m - 1))->Q (none,m,q) e):wpS (model prog w) A E s (descLoop n v) Q st:=by
 unfold descLoop;erw[wpS_forRange (λx c e=>∃q,c=(none,x,q)/\SB k₀ a₀ e/\q+1<=x/\NonIncK κ (arrOf e) x/\∀k,x - (q+1)<=k->k<x->KK κ (arrOf e) k=KK κ (arrOf e) (x - 1)) ?_ ?_ ⟨0,R,X,(),T,λk G D=>by rw[show k=n - 1 by lia]⟩];rintro x c e P Z ⟨q,rfl,f,C,u,y⟩;dsimp only;apply wpS_bind;erw[G4 L f H () () ?_];dsimp only;cases c:κ.blt (KK κ (arrOf e) x) (KK κ (arrOf e) (x - 1))with
 |true =>
  rw[SY R];by_cases I:q>0;rw[SY I];apply wpS_bind;erw[wpS_reverse ?_];have B:∀k,KK κ (mirror (arrOf e) (x - (q+1)) x ((x - (x - (q+1)))/2)) k=KK κ (arrOf e) k:=λk=>KK_mirror_equal (by rw[f.size];lia) y k;erw[wpS_pure ⟨0,R,f.arr (mirror_perm _ _ _ _),(),?_,λk G D=>by rw[show k=x+1 - 1 by lia]⟩];erw[G5 () (λi j U M=>?_) ?_];show κ.kle (KK κ (mirror (arrOf e) (x - (q+1)) x ((x - (x - (q+1)))/2)) j) (KK κ (mirror (arrOf e) (x - (q+1)) x ((x - (x - (q+1)))/2)) i);rw[B,B];exact u i j U M;show κ.kle (KK κ (mirror (arrOf e) (x - (q+1)) x ((x - (x - (q+1)))/2)) x) (KK κ (mirror (arrOf e) (x - (q+1)) x ((x - (x - (q+1)))/2)) (x - 1));rw[B,B];exact KeyOrd.kle_of_klt c;rw[SX I];exact wpS_pure ⟨0,R,f,(),G5 () u (KeyOrd.kle_of_klt c),λk G D=>by rw[show k=x+1 - 1 by lia]⟩
 |false =>
  rw[SX SR];apply wpS_bind;erw[G4 L f H () () ?_];dsimp only;cases J:κ.blt (KK κ (arrOf e) (x - 1)) (KK κ (arrOf e) x)with
  |true =>
   rw[SY R];exact wpS_pure (h x q e f P () C u y)
  |false =>
   rw[SX SR];have Y:KK κ (arrOf e) x=KK κ (arrOf e) (x - 1):=κ.total _ _ c J;erw[wpS_pure ⟨q+1,R,f,(),G5 () u J,λk G D=>?_⟩];rw[show x+1 - 1=x by lia];by_cases z:k=x;rw[z];rw[Y];exact y k () ()
 rintro c e ⟨q,rfl,f,C,u,y⟩;have S:max n v=v:=by lia
 rw[S]at C u y ⊢;exact h v q e f O (Sh _) C u y
def uT{st:SortSt}{n e:Nat}{Q:Option Nat->SortSt->Prop}(v:UT prog w A s k₀ κ)(f:KeysOf κ a₀)(hn:e<=a₀.size)(H:n+1<=e)(M:SB k₀ a₀ st)(I:NonIncK κ (arrOf st) (n+1))
  (h:∀m c,SB k₀ a₀ c->1<=m->m<=e->SortedToK κ (arrOf c) m->Q (some m) c):wpS (model prog w) A E s (descPart n e) Q st:=by
 unfold descPart;apply wpS_bind;erw[wpS_lift (wpAny_rule ⟨R,?_⟩)];apply wpS_bind;erw[ZgD v f hn () H M I λm q c u O C P y L=>?_];dsimp only;by_cases D:q>0;rw[SY D];apply wpS_bind;erw[wpS_reverse ?_];have B:∀k,KK κ (mirror (arrOf c) (m - (q+1)) m ((m - (m - (q+1)))/2)) k=KK κ (arrOf c) k:=λk=>KK_mirror_equal (by rw[u.size];lia) L k;erw[uS v f hn () C (u.arr (mirror_perm _ _ _ _)) (λi j J G=>?_) h];show κ.kle (KK κ (mirror (arrOf c) (m - (q+1)) m ((m - (m - (q+1)))/2)) j) (KK κ (mirror (arrOf c) (m - (q+1)) m ((m - (m - (q+1)))/2)) i);rw[B,B];exact y i j J G;rw[SX D];exact uS v f hn () C u y h
def ZgE{st:SortSt}{q:Nat}{Q:Option Nat->SortSt->Prop}(y:UT prog w A s k₀ κ)(v:KeysOf κ a₀)(hn:q<=a₀.size)(h1:1<=q)(f:SB k₀ a₀ st)
  (h:∀m D,SB k₀ a₀ D->1<=m->m<=q->SortedToK κ (arrOf D) m->Q (some m) D):wpS (model prog w) A E s (countRun' 0 q) Q st:=by
 rw[countRun0_eq];apply wpS_bind;erw[uR y v hn (Sh 1) h1 f (λi j H G=>by have:i=j:=(());subst this;exact KeyOrd.kle_refl _) λn n1 n2 B I=>?_];dsimp only;by_cases e:n=q;rw[SY (by simpa using e)];exact wpS_pure (h n st f n1 n2 B);rw[SX (by simpa using e)];have lt:=I.resolve_left e;by_cases g:n>1;rw[SY g];apply wpS_bind;erw[G4 y f v () () ?_];dsimp only;cases c:κ.blt (KK κ (arrOf st) 0) (KK κ (arrOf st) (n - 1))with
 |true =>
  rw[SY R];exact wpS_pure (h n st f n1 n2 B)
 |false =>
  rw[SX SR];apply wpS_bind;erw[wpS_reverse ?_];have C:∀k,0<=k->k<n->KK κ (arrOf st) k=KK κ (arrOf st) (n - 1):=λk _ J=>KeyOrd.kle_antisymm (B k (n - 1) () ()) (KeyOrd.kle_trans c (B 0 k () J));have u:∀k,KK κ (mirror (arrOf st) 0 n ((n - 0)/2)) k=KK κ (arrOf st) k:=λk=>KK_mirror_equal (by rw[f.size];lia) C k;erw[uT y v hn () (f.arr (mirror_perm _ _ _ _)) (G5 () (λi j H G=>?_) ?_) h];show κ.kle (KK κ (mirror (arrOf st) 0 n ((n - 0)/2)) j) (KK κ (mirror (arrOf st) 0 n ((n - 0)/2)) i);rw[u,u,C i () (),C j () G];exact KeyOrd.kle_refl _;show κ.kle (KK κ (mirror (arrOf st) 0 n ((n - 0)/2)) n) (KK κ (mirror (arrOf st) 0 n ((n - 0)/2)) (n - 1));rw[u,u];exact KeyOrd.kle_of_klt lt
 rw[SX g];have L:n=1:=by lia
 subst L;exact uT y v hn () f (G5 () (λi j H G=>by have:i=j:=(());subst this;exact KeyOrd.kle_refl _) (KeyOrd.kle_of_klt lt)) h
def ZgF{st:SortSt}{Q:Unit->SortSt->Prop}(G:UT prog w A s k₀ κ)(C:KeysOf κ a₀)(y:SB k₀ a₀ st)(U:2<=a₀.size)(T:a₀.size<64)
  (h:∀f,(arrOf f).Perm a₀->failedOf f=none->SortedToK κ (arrOf f) a₀.size->Q Unit.unit f):wpS (model prog w) A E s sortRuns' Q st:=by
 rw[sortRuns'_eq];apply wpS_bind;apply wpS_get;have H:minRun' (arrOf st).size (arrOf st).size 0=a₀.size:=by
  rw[y.size];obtain⟨m,e⟩:∃m,a₀.size=m+1:=⟨a₀.size - 1,()⟩;rw[e,minRun'_succ,SY ()]
 dsimp only;rw[H,y.size];apply wpS_bind;erw[wpS_mono (Q:=λc f=>c=(none,a₀.size)/\(arrOf f).Perm a₀/\failedOf f=none/\pendingOf f=#[(0,a₀.size,0)]/\SortedToK κ (arrOf f) a₀.size) (wpS_forRange (λx c f=>(x=0/\c=(none,0)/\f=st)\/(1<=x/\c=(none,a₀.size)/\(arrOf f).Perm a₀/\failedOf f=none/\pendingOf f=#[(0,a₀.size,0)]/\SortedToK κ (arrOf f) a₀.size)) ?_ ?_ (.inl ⟨R,R,R⟩)) ?_];rintro x c f _ S (⟨rfl,rfl,rfl⟩|⟨O,rfl,r1,v,r3,u⟩);dsimp only;rw[SX ()];apply wpS_bind;erw[ZgE G C () () y λm L j P M D=>?_];dsimp only;by_cases hm:m<a₀.size;rw[SY hm];apply wpS_bind;erw[wpS_lift (wpAny_rule ⟨R,?_⟩)];apply wpS_bind;erw[ZgA G C () () j D λJ q B=>?_];rw[SX ()];apply wpS_bind;apply wpS_get;rw[show min (a₀.size - 0) a₀.size=a₀.size by lia]at B ⊢;rw[q.pend];show wpS _ _ _ _ (modify _ >>= λ_=>pure _) _ _;apply wpS_bind;apply wpS_modify;erw[wpS_pure (.inr ⟨(),by rw[Nat.zero_add],q.perm,q.failed,?_,B⟩)];show(pendingOf J).push (0,a₀.size,0)=_;rw[q.pend];rfl;rw[SX hm];have I:m=a₀.size:=by lia
 subst I;apply wpS_bind;apply wpS_get;rw[j.pend];show wpS _ _ _ _ (modify _ >>= λ_=>pure _) _ _;apply wpS_bind;apply wpS_modify;erw[wpS_pure (.inr ⟨(),by rw[Nat.zero_add],j.perm,j.failed,?_,D⟩)];show(pendingOf L).push (0,a₀.size,0)=_;rw[j.pend];rfl;dsimp only;rw[SY ()];exact wpS_pure ⟨R,r1,v,r3,u⟩;rintro c f (⟨e,_⟩|⟨_,r⟩);omega;exact r;rintro c f ⟨rfl,r1,v,r3,u⟩;dsimp only;apply wpS_bind;erw[wpS_mono (Q:=λc i=>c=(none,Unit.unit)/\i=f) (wpS_forRange (λx c i=>c=(none,Unit.unit)/\i=f) ?_ ?_ ⟨R,R⟩) ?_];rintro x c i _ _ ⟨rfl,rfl⟩;apply wpS_bind;apply wpS_get;rw[SY (by rw[r3];exact Sh 1)];exact wpS_pure ⟨R,R⟩;rintro c i z;exact z;rintro c i ⟨rfl,rfl⟩;exact wpS_pure (h i r1 v u)
end
def UU:Sum Int (List Nat)->Sum Int (List Nat)->Bool
 |.inl a,.inl b=>decide (a<b)
 |.inl _,.inr _=>true
 |.inr _,.inl _=>false
 |.inr a,.inr b=>decide (a<b)
@[reducible] def Vu:KeyOrd where
 α:=Sum Int (List Nat)
 blt:=UU
 irrefl a:=by
  cases a with
  |inl a=>exact SU (Int.lt_irrefl a)
  |inr a=>exact strKind.irrefl a
 trans a b c h1 h2:=by
  cases a with
  |inl a =>
   cases b with
   |inl b =>
    cases c with
    |inl c =>
     have h1:=SV h1;have h2:=SV h2;exact SS (Int.lt_trans h1 h2)
    |inr c=>rfl
   |inr b =>
    cases c with
    |inl c=>cases h2
    |inr c=>rfl
  |inr a =>
   cases b with
   |inl b=>cases h1
   |inr b =>
    cases c with
    |inl c=>cases h2
    |inr c=>exact strKind.trans a b c h1 h2
 negTrans a b c h:=by
  cases a with
  |inl a =>
   cases b with
   |inl b =>
    cases c with
    |inl c =>
     have h:=SV h;by_cases z:a<b;exact .inl (SS z);exact .inr (SS ())
    |inr c=>exact .inr rfl
   |inr b=>exact .inl rfl
  |inr a =>
   cases c with
   |inl c=>cases h
   |inr c =>
    cases b with
    |inl b=>exact .inr rfl
    |inr b=>exact strKind.negTrans a b c h
 total a b h1 h2:=by
  cases a with
  |inl a =>
   cases b with
   |inl b =>
    have h1:=SW h1;have h2:=SW h2;rw[show a=b by lia]
   |inr b=>cases h1
  |inr a =>
   cases b with
   |inl b=>cases h2
   |inr b=>rw[strKind.total a b h1 h2]
def Xg(O:KeyOrd):List O.α->List O.α->Bool
 |[],[]=>false
 |[],_::_=>true
 |_::_,[]=>false
 |a::c,b::bs=>if O.blt a b=true then true else if O.blt b a=true then false else Xg O c bs
def WE{O:KeyOrd}{a b:O.α}{h bs:List O.α}:Xg O (a::h) (b::bs)=true↔O.blt a b=true\/(a=b/\Xg O h bs=true):=by
 show(if O.blt a b=true then true else if O.blt b a=true then false else Xg O h bs)=true↔_;by_cases c:O.blt a b=true;rw[SY c];exact⟨λ_=>.inl c,λ_=>R⟩;rw[SX c];by_cases f:O.blt b a=true;rw[SY f];erw[⟨λz=>(by cases z),λz=>?_⟩];rcases z with z|⟨z,_⟩;exact Ov z c;subst z;exact Ov f c;rw[SX f];have e:a=b:=O.total a b (Oj.mpr c) (Oj.mpr f);exact⟨λz=>.inr ⟨e,z⟩,λz=>z.elim (λz=>Ov z c) (·.2)⟩
theorem ND{O:KeyOrd}:∀a:List O.α,Xg O a a=false
 |[]=>rfl
 |a::c=>by
  rw[Oj];intro z;rcases WE.mp z with z|⟨_,z⟩;rw[O.irrefl]at z;cases z;rw[ND c]at z;cases z
theorem uU{O:KeyOrd}:∀a b c:List O.α,Xg O a b=true->Xg O b c=true->Xg O a c=true
 |[],[],_,h1,_=>by cases h1
 |[],_::_,[],_,e=>by cases e
 |[],_::_,_::_,_,_=>rfl
 |_::_,[],_,h1,_=>by cases h1
 |_::_,_::_,[],_,e=>by cases e
 |a::i,b::bs,c::cs,h1,e=>by
  erw[WE.mpr ?_];rcases WE.mp h1 with g1|⟨h,g1⟩;rcases WE.mp e with g2|⟨f,g2⟩;exact .inl (O.trans _ _ _ g1 g2);rw[<-f];exact .inl g1;rcases WE.mp e with g2|⟨f,g2⟩;rw[h];exact .inl g2;exact .inr ⟨h.trans f,uU i bs cs g1 g2⟩
theorem uV{O:KeyOrd}:∀a b c:List O.α,Xg O a c=true->Xg O a b=true\/Xg O b c=true
 |[],_,[],h=>by cases h
 |[],[],_::_,_=>.inr R
 |[],_::_,_::_,_=>.inl R
 |_::_,_,[],h=>by cases h
 |_::_,[],_::_,_=>.inr R
 |a::j,b::bs,c::cs,h=>by
  rcases WE.mp h with g|⟨f,g⟩;rcases O.negTrans a b c g with z|z;exact .inl (WE.mpr (.inl z));exact .inr (WE.mpr (.inl z));by_cases h1:O.blt a b=true;exact .inl (WE.mpr (.inl h1));by_cases i:O.blt b a=true;rw[<-f];exact .inr (WE.mpr (.inl i));have e:a=b:=O.total a b (Oj.mpr h1) (Oj.mpr i);subst e;rcases uV j bs cs g with z|z;exact .inl (WE.mpr (.inr ⟨R,z⟩));exact .inr (WE.mpr (.inr ⟨f,z⟩))
theorem uW{O:KeyOrd}:∀a b:List O.α,Xg O a b=false->Xg O b a=false->a=b
 |[],[],_,_=>rfl
 |[],_::_,h,_=>by cases h
 |_::_,[],_,h=>by cases h
 |a::f,b::bs,h1,c=>by
  have n1:O.blt a b=false:=Oj.mpr λz=>by rw[WE.mpr (.inl z)]at h1;cases h1
  have n2:O.blt b a=false:=Oj.mpr λz=>by rw[WE.mpr (.inl z)]at c;cases c
  have e:=O.total a b n1 n2;subst e;have i:Xg O f bs=false:=Oj.mpr λz=>by rw[WE.mpr (.inr ⟨R,z⟩)]at h1;cases h1
  have j:Xg O bs f=false:=Oj.mpr λz=>by rw[WE.mpr (.inr ⟨R,z⟩)]at c;cases c
  rw[uW f bs i j]
def uX(O:KeyOrd):KeyOrd:=⟨List O.α,Xg O,ND,uU,uV,uW⟩
inductive ZgG(K:OA)(neg:Bool)(x:V)(y:V)(H:Hp)(Q:VK):Prop|mk l b xs (_:x=.ref l) (_:y=.ref b) (_:Zg K H l xs) (_:Zg K H b []) (_:Q (.bl (if neg then !xs.isEmpty else xs.isEmpty)) H)
def ZgH(f:X.A.units<cLine):YK X (compareOp .NotEq) (ZgG X.K true):=by
 intro pins s P H x y v u Q I L D h;ext⟨l,b,C,rfl,rfl,E,G,q⟩ h;cases L;cases D;obtain⟨its,r,c,_⟩:=I.list E;obtain⟨M,J,i,_⟩:=I.list G;have l1:=r.length;have l2:=J.length;cases C with
 |nil =>
  erw[SeqAt.RcNeAt.lists (e:=λj=>W8 (([]:List V).getD j .non) (([]:List V).getD j .non)) c.isList i.isList (by simp;simp at l1 l2;lia) f (λj B _=>by simp at B l1;lia) _ _ _ _ ?_];rw[SQ,<-l1,wJ [] [] R];exact⟨.bl _,H,I,R,q⟩
 |cons x O =>
  erw[SeqAt.RcNeAt.lists_lengths c.isList i.isList (by simp;simp at l1 l2;lia) f _ _ _ _ ?_];exact⟨.bl _,H,I,R,q⟩
abbrev B3(o:Obj):HO:=.frz o (.own 0)
def lent(cs:Addr->Option Obj)(H:Hp):Hp:=λb=>match cs b with|some o=>some (B3 o)|none=>H b
def unl(cs:Addr->Option Obj)(H:Hp):Hp:=λb=>match cs b with|some _=>none|none=>H b
section
variable{cs:Addr->Option Obj}{H':Hp}{h h':Heap}{b:Addr}{o:Obj}{fs:OK}
def B4(q:cs b=some o):lent cs H b=some (B3 o):=by unfold lent;rw[q]
def Xx(q:cs b=none):lent cs H b=H b:=by unfold lent;rw[q]
def QK(q:cs b=some o):unl cs H b=none:=by unfold unl;rw[q]
def Vf(q:cs b=none):unl cs H b=H b:=by unfold unl;rw[q]
def G6(n:H b=none):unl cs H b=none:=by
 cases q:cs b with
 |some o=>exact QK q
 |none=>rwa[Vf q]
def Yo.lent(x:Yo P w H h)(c:∀b o,cs b=some o->h.get? b=some o/\H b=none):Yo P w (L2.lent cs H) h:=λa u e=>by
 have no:∀b u,H b=some u->cs b=none:=λb u e=>by
  cases q:cs b with
  |none=>rfl
  |some o=>rw[(c b o q).2]at e;cases e
 cases q:cs a with
 |some ob =>
  rw[B4 q]at e;obtain rfl:=Sr e;exact⟨(c a ob q).1,⟨ob,(c a ob q).1⟩⟩
 |none =>
  rw[Xx q]at e;exact(x a u e).stay (λ_ _ _ z=>z) (λb z=>by rwa[Xx (no b _ z)]) λb f z=>by rwa[Xx (no b _ z)]
def Yo.unl(x:Yo P w H h)(f:∀b o,cs b=some o->H b=some (B3 o)):Yo P w (L2.unl cs H) h:=λa u e=>by
 cases q:cs a with
 |some ob=>rw[QK q]at e;cases e
 |none =>
  rw[Vf q]at e;erw[(x a u e).stay (λ_ _ _ z=>z) (λb z=>?_) λb i z=>?_];cases c:cs b with
  |some ob=>rw[f b ob c]at z;cases z
  |none=>rwa[Vf c]
  cases c:cs b with
  |some ob=>rw[f b ob c]at z;cases z
  |none=>rwa[Vf c]
def Un.unlend(u:Un fs [] (lent cs H) H' h h')(i:∀b o,cs b=some o->h.get? b=some o/\H b=none)(ok:Yo P w H' h'):Un fs [] H (unl cs H') h h':=by
 have j:∀b o,cs b=some o->H' b=some (B3 o):=λb o q=>u.frzs b o _ (B4 q);have no:∀b u,H b=some u->cs b=none:=λb u e=>by
  cases q:cs b with
  |none=>rfl
  |some o=>rw[(i b o q).2]at e;cases e
 erw[⟨λb o e n f c=>?_,λb o e n f c=>?_,λb o e n c=>?_,u.there,λb y e=>?_,λb o x e=>?_,λb v e=>?_⟩];cases q:cs b with
 |some ob =>
  have:=(i b ob q).1;rw[e]at this;obtain rfl:=Sr this;obtain⟨z,_⟩:=ok b _ (j b _ q);exact z
 |none=>exact u.keep b o e (by rwa[Xx q]) f c
 cases q:cs b with
 |some ob =>
  have:=(i b ob q).1;rw[e]at this;obtain rfl:=Sr this;obtain⟨z,_⟩:=ok b _ (j b _ q);exact⟨_,z⟩
 |none=>exact u.slot b o e (by rwa[Xx q]) f c
 cases q:cs b with
 |some ob=>exact QK q
 |none=>rw[Vf q];exact u.free b o e (by rwa[Xx q]) c
 have q:=no b _ e;rw[Vf q];exact u.tups b y (by rwa[Xx q]);have q:=no b _ e;rw[Vf q];exact u.frzs b o x (by rwa[Xx q]);have q:=no b _ e;obtain⟨m,z⟩:=u.tbls b v (by rwa[Xx q]);exact⟨m,by rwa[Vf q]⟩
def Un.relend(u:Un fs [] (unl cs H) H' h h')(f:∀b o,cs b=some o->H b=some (B3 o)):Un fs [] H (lent cs H') h h':=by
 have no:∀b,H b=none->cs b=none:=λb e=>by
  cases q:cs b with
  |none=>rfl
  |some o=>rw[f b o q]at e;cases e
 erw[⟨λb o e n i c=>?_,λb o e n i c=>?_,λb o e n c=>?_,u.there,λb v e=>?_,λb o x e=>?_,λb j e=>?_⟩];exact u.keep b o e (G6 n) i c;exact u.slot b o e (G6 n) i c;rw[Xx (no b n)];exact u.free b o e (G6 n) c;cases q:cs b with
 |some ob=>rw[f b ob q]at e;cases e
 |none=>rw[Xx q];exact u.tups b v (by rwa[Vf q])
 cases q:cs b with
 |some ob=>rwa[B4 q,<-f b ob q]
 |none=>rw[Xx q];exact u.frzs b o x (by rwa[Vf q])
 cases q:cs b with
 |some ob=>rw[f b ob q]at e;cases e
 |none =>
  obtain⟨m,z⟩:=u.tbls b j (by rwa[Vf q]);exact⟨m,by rwa[Xx q]⟩
end
def B5(CX:XX)(P:Program)(w:World)(K:OA)(mg:Oz)(base:Heap)(N:OF)(qual:Str)(scope:Scope)(cl:OB)(f:Addr)(cd:Value)(A:Around)(outer:List Env)(s:Shared)(H:Hp)(E:XK):Cx where
 prog:=P
 w:=w
 K:=K
 mg:=mg
 base:=base
 A:=A.deeper (W.envX qual scope s.heap.objs.size f cd cl)
 N:=N
 s₀:=s
 H₀:=H
 env:=W.envX qual scope s.heap.objs.size f cd cl
 outer:=outer
 stack:=W.envX qual scope s.heap.objs.size f cd cl::outer
 ex:=[]
 calm:=true
 fn:=λ_=>false
 pn:=[]
 xe:=λe i=>wpAny (model P w) (A.deeper (W.envX qual scope s.heap.objs.size f cd cl)) (leaving (W.envX qual scope s.heap.objs.size f cd cl) e) (λ_ c=>CX outer H s E e c) (λh c=>CX outer H s E h c) i
section
variable{N:OF}{qual:Str}{cl:OB}{f:Addr}{cd:Value}{outer:List Env}{E:XK}
def Lg:WK (Xf P w) (B5 (Xf P w) P w K mg base N qual scope cl f cd A outer s H E) E:=by
 intro pins M X Y e y I G;ext⟨a,C,D,rfl,os,bare,un,hok,⟨B,t,fl,ha,T⟩,o,v,J⟩ G;have c:Zb (B5 (Xf P w) P w K mg base N qual scope cl f cd A outer s H E) pins M D y:=I.call' os un hok bare λb z=>nomatch z;have S:(A.deeper (PySem.W.envX qual scope s.heap.objs.size f cd cl)).frames=some (PySem.W.envX qual scope s.heap.objs.size f cd cl::outer):=I.ok.frames;have sn:s.heap.get? s.heap.objs.size=none:=Heap.get?_none_of_le (Sh _);erw[KC.with (e:=a) (W:=λh=>Heap.FlyingW B outer a C (.ref t) h/\y.heap.UpToSlots h) (M7 _ _) v (wpAny_leaves_onW (L:=s.heap.objs.size) S R fl λh j up=>⟨h,R,j,up⟩) λh ⟨j,up⟩ v=>?_];have frd:=c.frd;obtain⟨U,Q,O⟩:=M9 (P:=P) (w:=w) (L:=s.heap.objs.size) (h1:=y.heap) R sn c.base c.hok c.stkFree (λb i o e=>frd b (KW i) o e) (λb o e i hn=>T b o e (i.imp (λ⟨u,q⟩=>I.base.there b u q λz=>nomatch z) id) hn) j ha up;exact⟨a,C,D,R,c.os,c.bare,U,Q,O,o,v,J⟩
end
structure NE(N:OF)(scope:Scope)(cl:OB)(vs:List V)(cs:Addr->Option Obj):Prop where
 len:vs.length=N.length
 val:∀(i:Nat) (x:Str) (v:V),N[i]? = some x->vs[i]? = some v->∃c o u,cl.lookup x=some c/\cs c=some o/\o.data=.cell (some u)/\ZG v u
 cell:∀x c,cl.lookup x=some c->∃o v,cs c=some o/\o.data=.cell v
 inj:∀x y c,cl.lookup x=some c->cl.lookup y=some c->x=y
 has:∀x,(scope.names.lookup x=some .cell\/scope.names.lookup x=some .free)->∃c,cl.lookup x=some c
 fre:∀x∈N,scope.names.lookup x=some .free
 dat:∀b o,cs b=some o->∃v,o.data=.cell v
def ZgI{CX:XX}{N:OF}{qual:Str}{cl:OB}{f:Addr}{cd:Value}{outer:List Env}{E:XK}{vs:List V}{cs:Addr->Option Obj}{h':Heap}{m:Oz}{tk:Nat}
  (M:scope.kind=.function) (hd:A.handled=none) (j:Vp P w K mg base A outer s H) (q:NE N scope cl vs cs) (I:∀b o,cs b=some o->s.heap.get? b=some o/\H b=none)
  (L:h'.Ns s.heap.objs.size m) (C:∀b o,s.heap.get? b=some o->h'.get? b=some o):Zb (B5 CX P w K mg base N qual scope cl f cd A outer s H E) [] (vs.map some) H {s with heap:=h',toks:=tk}:=by
 have G:∀b:Addr,b∉(B5 CX P w K mg base N qual scope cl f cd A outer s H E).ex:=λb z=>Ov (show b∈([]:OK)from z) (by simp);refine⟨⟨j.mod,M,R,R,Sh _,q.inj,q.has,(λ_ _ z=>nomatch z),λ_=>hd,Around.frames_deeper j.frames,.inr ⟨R,R⟩,λb z=>Ov z (G b),j.bs,j.bsz,λb _ _=>G b,λb z=>Ov z (G b),j.funs,j.frf⟩,
  rfl,j.bare,Un.kept C,⟨m,L,λi x v J y U=>?_⟩,λx c h=>?_,j.hok.fresh (Sh _),λx c h=>?_,λp Q=>Ov (show p∈([]:Oy)from Q) (by simp),j.hok.kept C,?_⟩
 have S:vs[i]? = some v:=by
  rw[Oc]at y;cases e:vs[i]? with
  |none=>rw[e]at y;cases y
  |some a=>rw[e]at y;exact Sr y ▸ R
 obtain⟨c,o,u,B,D,T,O⟩:=q.val i x v J S;exact⟨u,O,.inr ⟨.inr (q.fre x (SM J)),c,B,o,C _ _ (I c o D).1,T⟩⟩;obtain⟨o,v,B,D⟩:=q.cell x c h;exact⟨v,o,C _ _ (I c o B).1,D⟩;obtain⟨o,v,B,D⟩:=q.cell x c h;exact(I c o B).2;show(vs.map some).length=N.length;rw[Sx,q.len]
def NF(P:Program)(w:World)(K:PySem.W.Frag)(mg:Oz)(base:Heap)(k:Nat)(f:Addr)(H:Hp)(W:VK->XK->Prop):Prop :=
 (∀h:Heap,Yo P w H h->PySem.W.FnAt f h)/\∀(A:Around) (outer:List Env) (s:Shared) (Q:VK) (E:XK),Yh k A->Vp P w K mg base A outer s H->W Q E->codeAny (model P w) A (.call (.ref f) ⟨[],[]⟩) (CR (Xf P w) outer P w H s Q E) s
def ZgJ{k:Nat}{f j:Addr}{qual:Str}{params:Arguments}{body:Expr}{cl:OB}{pm a0:Value}{N:OF}{vs:List V}{cs:Addr->Option Obj}{Z:XK->TE}
  (X:H f=some (Ud f qual params body scope cl pm j a0)) (o0:H j=some (Ws j qual)) (k0:scope.isCoroutine=false) (h0:scope.isGenerator=false) (Y:scope.kind=.function) (f0:∀x∈scope.names,x.2≠.cell)
  (i:bindArgs (W.kla_fn "<lambda>" qual params body scope cl pm (.ref j) a0) ⟨[],[]⟩=pure []) (hC:NE N scope cl vs cs) (D:∀b o,cs b=some o->H b=some (B3 o))
  (l0:∀(A:Around) (outer:List Env) (s:Shared) (E:XK),Yh k (A.deeper (W.envX qual scope s.heap.objs.size f (.ref j) cl))->PE (B5 (Xf P w) P w K mg base N qual scope cl f (.ref j) A outer s (unl cs H) E) body (Z E)) :
  NF P w K mg base (k+1) f H λQ E=>Z (λC o c=>(∀b ob,cs b=some ob->c b=none)->E C o (lent cs c)) (vs.map some) (unl cs H) λv c=>(∀b ob,cs b=some ob->c b=none)->Q v (lent cs c):=by
 erw[⟨λr0 ok=>?_,λA outer s Q E S h hW=>?_⟩];have z:=(ok f _ X).1;exact⟨_,_,_,_,z⟩;have G:∀b o,cs b=some o->s.heap.get? b=some o:=λb o q=>by
  obtain⟨z,_⟩:=h.hok b _ (D b o q);exact z
 have p0:∀b o,cs b=some o->b∉Yw outer:=λb o q z=>by
  have:=h.frf b z;rw[D b o q]at this;cases this
 have e1:Vp P w K mg base A outer s (unl cs H):=⟨h.frames,h.mod,λb o e=>⟨(h.bs b o e).1,G6 (h.bs b o e).2⟩,h.bsz,h.funs,λb i=>G6 (h.frf b i),h.hok.unl D,h.bare⟩;have m0:s.heap.NoLimit:=h.mod.nolimit.keeps λb o e=>(h.bs b o e).1;have ho:=(h.hok f _ X).1;have i0:=(h.hok j _ o0).1;have back:∀{c:Hp} {B:Heap},Un (Yw outer) [] (unl cs H) c s.heap B->Yo P w c B->Un (Yw outer) [] H (lent cs c) s.heap B/\Yo P w (lent cs c) B/\(∀b o,cs b=some o->B.get? b=some o)/\∀b o,cs b=some o->c b=none:=λ{c B} u ok=>by
  have O:∀b o,cs b=some o->B.get? b=some o/\c b=none:=λb o q=>⟨u.keep b o (G b o q) (QK q) (p0 b o q) (λz=>nomatch z),u.free b o (G b o q) (QK q) λz=>nomatch z⟩;exact⟨u.relend D,ok.lent O,λb o q=>(O b o q).1,λb o q=>(O b o q).2⟩
 erw[W.kla_callFunE S.depth ho R k0 h0 R i0 ?_];rw[i];erw[Sb ?_];erw[wpAny_newFunctionEnv f0 (λx hx=>nomatch hx) (λh' d0 b0=>?_) Y];erw[⟨m0.fresh _ b0,?_⟩];have c0:∀b o,s.heap.get? b=some o->h'.get? b=some o:=λb o e=>b0.extBut b o (Sg (Sf e)) (Sc _ e);show codeAny (model P w) A (.expr body (W.envX qual scope s.heap.objs.size f (.ref j) cl)) _ _;erw[W.kla_codeExpr ?_];have g0:=ZgI (CX:=Xf P w) (E:=λC o c=>(∀b ob,cs b=some ob->c b=none)->E C o (lent cs c)) (f:=f) (cd:=.ref j) (qual:=qual) (tk:=s.toks+([]:List (Str×Value)).length) Y S.hd e1 hC (λb o q=>⟨G b o q,QK q⟩) d0 c0;have conv:∀(e:Value) (y:Shared),Xf P w outer (unl cs H) s (λC o c=>(∀b ob,cs b=some ob->c b=none)->E C o (lent cs c)) e y->Xf P w outer H s E e y:=by
  rintro e y ⟨a,C,c,rfl,os,bare,un,hok,⟨j0,t,fl,ha,n0⟩,o,nc,hE⟩;obtain⟨T,M,u3,I⟩:=back un hok;erw[⟨a,C,lent cs c,R,os,bare,T,M,⟨j0,t,fl,?_,λb o e i hn=>n0 b o e ?_ hn⟩,o,nc,hE I⟩];cases q:cs a with
  |none=>rw[Xx q];exact ha
  |some o =>
   ext⟨ob,q0,q1,_,q2,_⟩ fl.first;obtain⟨v,q3⟩:=hC.dat a o q;rw[u3 a o q]at q1;obtain rfl:=Sr q1;rw[q3]at q2;cases q2
  rcases i with i|⟨u,i⟩;exact .inl i;cases q:cs b with
  |none=>rw[Xx q]at i;exact .inr ⟨u,i⟩
  |some U=>exact .inl ⟨U,G b U q⟩
 erw[Ou (l0 A outer s _ (S.deeper _) [] _ (vs.map some) (unl cs H) _ g0 hW) (λu s' L=>?_) λe s' L=>?_];ext⟨v,c,J,rv,q⟩ L;obtain⟨T,M,_,I⟩:=back J.base J.hok;exact⟨v,lent cs c,J.os,J.bare,T,M,rv,q I⟩;exact Ou L (λ_ y z=>conv e y z) λe' y z=>conv e' y z
inductive uY(P:Program)(w:World)(K:PySem.W.Frag)(mg:Oz)(base:Heap)(k i:Nat)(E:XK)(σ:St)(H:Hp)(Q:VK):Prop|mk f W (_:σ[i]? = some (some (.ref f))) (_:NF P w K mg base k f H W) (_:W Q E)
def ZgK{E:XK}(D:X.N[i]? = some x)(O:D9 X.env.scope x)(U:Yh k X.A)(G:WK (Xf X.prog X.w) X E)(hd:(x==("__debug__" : Str))=false:=by lia) (T:(x==("__classdict__" : Str))=false:=by lia) :
  PE X (.Call (.Name x p) [] [] pos) (uY X.prog X.w X.K X.mg X.base k i E):=by
 intro pins s q H Q I h;ext⟨f,W,e,⟨M,P⟩,C⟩ h;erw[wpAny_Call_Name_kw ?_];erw[Zs (yH D O hd T pins s q H (λv L=>v=.ref f/\L=H) I ⟨_,e,R,R⟩) λu y ⟨v,Y,j,r,J,B⟩=>?_];subst J B;obtain rfl:u=Value.ref f:=r;erw[PySem.W.callWith_F0 (M _ j.hok) ?_];erw[wpAny_call (codeAny_mono (P X.A X.stack y Q E U j.env0 C) λr S c=>?_)];cases r with
 |error e=>exact G pins q _ y e S j c
 |ok fl =>
  cases fl with
  |ret u=>exact j.after c
  |next=>exact False.elim c
  |brk=>exact False.elim c
  |cont=>exact False.elim c
structure Lh(FN:List (Str×Nat))(cl:OB)(cs:Addr->Option Obj)(σ:St)(H:Hp):Prop where
 free:∀b o,cs b=some o->H b=none/\∃v,o.data=.cell v
 cell:∀x c,cl.lookup x=some c->∃o v,cs c=some o/\o.data=.cell v
 val:∀p∈FN,∀v,σ[p.2]? = some (some v)->∃c o u,cl.lookup p.1=some c/\cs c=some o/\o.data=.cell (some u)/\ZG v u
theorem VP.mem:∀{cl:OB},VP X cl->(y,c)∈cl->X.env.cells.lookup y=some c
 |(z,d)::r,h,e=>by
  rcases SH.mp e with e|e;cases e;exact h.1;exact VP.mem h.2 e
def NG(sp:Sp)(FN:List (Str×Nat))(cl:OB)(tl:TE):TE:=λe H Q=>tl e H λv c=>∀cs:Addr->Option Obj,Lh FN cl cs e c->sp [v] (lent cs c) (λr f=>Q r (unl cs f)) λ_ _ _=>False
def Li{P:OF}{cl:OB}{p:Pos}(F:Zo X.prog X.w X.K X.mg X.base Zr k f fd P sp)(hr:Yh k X.A)(hg:Gl X x)(hm:X.mg x=some (.ref f))(hk:W.keepIn X.K (.ref f)=true)(D:XY X.K fd P [])
  (k0:∀y,X.fn y=true) (b0:VP X cl) (j0:∀p∈FN,X.N[p.2]? = some p.1/\X.env.scope.names.lookup p.1=some .cell/\∃c,X.env.cells.lookup p.1=some c/\cl.lookup p.1=some c) (he:PE X e tl) (a0:Xe e=true:=by rfl) (c0:(x==("__debug__" : Str))=false:=by lia) :
  PE X (.Call (.Name x p) [e] [] pos) (NG sp FN cl tl):=by
 intro pins s T i0 h0 I f0;erw[wpAny_Call_Name_kw (UD I hg hm ?_ c0)];erw[W.callWith_K (h₀:=X.base) I.ok.mod.kin hk (Zs ((xD he Xs (Ng a0)) pos pins s T i0 (λU E=>match U with|[v]=>∀cs:Addr->Option Obj,Lh FN cl cs T E->sp [v] (lent cs E) (λr H2=>h0 r (unl cs H2)) (λ_ _ _=>False)|_=>False) I f0) λH i ⟨U,E,h,r,q⟩=>⟨h.kIn,?_⟩) (Ng a0) R]
 match U,q,r with
 |[],q,_=>exact q.elim
 |_::_::_,q,_=>exact q.elim
 |[v],q,r =>
  have L:∀b o,(if b∈cl.map (·.2)then i.heap.get? b else none)=some o->(∃y,X.env.cells.lookup y=some b)/\i.heap.get? b=some o:=λb o e=>by
   by_cases D:b∈cl.map (·.2);rw[SY D]at e;obtain⟨⟨y,c⟩,C,ec⟩:=SL.mp D;obtain rfl:c=b:=ec;exact⟨⟨y,b0.mem C⟩,e⟩;rw[SX D]at e;cases e
  have S:∀b o,(if b∈cl.map (·.2)then i.heap.get? b else none)=some o->i.heap.get? b=some o/\E b=none:=λb o e=>by
   obtain⟨⟨y,C⟩,e⟩:=L b o e;exact⟨e,h.freeC y b C⟩
  have big:∀b o,(if b∈cl.map (·.2)then i.heap.get? b else none)=some o->X.s₀.heap.objs.size<=b:=λb o e=>by
   obtain⟨⟨y,C⟩,_⟩:=L b o e;exact h.ok.cab y b (k0 y) C
  have lk:∀y c,cl.lookup y=some c->∃v,i.heap.IsCell c v/\c∈cl.map (·.2):=λy c e=>by
   obtain⟨v,z⟩:=h.cell y c (b0.at e);exact⟨v,z,SL.mpr ⟨(y,c),PySem.mem_of_lookup e,R⟩⟩
  have LC:Lh FN cl (λb=>if b∈cl.map (·.2)then i.heap.get? b else none) T E:=by
   erw[⟨λb o e=>⟨(S b o e).2,?_⟩,λy c e=>?_,λp hp v ev=>?_⟩];obtain⟨⟨y,C⟩,e⟩:=L b o e;obtain⟨v,G,z1,M⟩:=h.cell y b C;rw[e]at z1;obtain rfl:=Sr z1;exact⟨v,M⟩;obtain⟨v,⟨o,z1,M⟩,Q⟩:=lk y c e;exact⟨o,v,by rwa[SY Q],M⟩;obtain⟨q1,B,c,q3,q4⟩:=j0 p hp;ext⟨m,hn,O⟩ h.loc;obtain⟨u,ru,l⟩:=O p.2 p.1 v q1 ev (.inr (.inl B));obtain⟨_,_,Q⟩:=lk p.1 c q4;rcases l with⟨z,_⟩|⟨_,c',Z,o,ho,hd⟩;rw[show X.env.kindOf p.1=X.env.scope.names.lookup p.1 from R,B]at z;cases z;rw[q3]at Z;obtain rfl:=Sr Z;exact⟨c,o,u,q4,by rw[SY Q];exact ho,hd,ru⟩
  have j:=h.env0;have e1:Vp X.prog X.w X.K X.mg X.base X.A X.stack i (lent (λb=>if b∈cl.map (·.2)then i.heap.get? b else none) E):=by
   erw[⟨j.frames,j.mod,λb o e=>⟨(j.bs b o e).1,?_⟩,j.bsz,j.funs,λb D=>?_,j.hok.lent S,j.bare⟩];cases B:(λb=>if b∈cl.map (·.2)then i.heap.get? b else none) b with
   |none=>rw[Xx B];exact(j.bs b o e).2
   |some G =>
    have:=big b G B;exact Ov (Sj (Sf e) h.ok.bsz) (Oi.mpr this)
   cases B:(λb=>if b∈cl.map (·.2)then i.heap.get? b else none) b with
   |none=>rw[Xx B];exact j.frf b D
   |some G =>
    have h1:=big b G B;obtain⟨⟨y,C⟩,_⟩:=L b G B;rcases SH.mp (h.stkSub b D)with z|z;exact Ov z (h.cne y b C);obtain⟨_,o2,d0,_⟩:=h.ok.funs.mem z;exact Ov (Sf d0) (Oi.mpr h1)
  have Y:=q _ LC;have r2:ZB ([v]++[]) (H++[]):=r.append .nil;have O:(H++[]).length=P.length:=by rw[<-r2.length];exact F.len _ _ _ _ Y
  erw[wpAny_call (codeAny_mono (F.run X.A X.stack i _ ⟨H,[]⟩ (H++[]) ([v]++[]) _ _ hr e1 (D i H h.kIn O) r2 Y) λrr s' J=>?_)];cases rr with
  |error e=>exact False.elim J
  |ok fl =>
   cases fl with
   |next=>exact False.elim J
   |brk=>exact False.elim J
   |cont=>exact False.elim J
   |ret u =>
    ext⟨w',H',os,bare,un,hok,g0,q'⟩ J;exact h.after ⟨w',_,os,bare,un.unlend S hok,hok.unl (λb o z=>un.frzs b o _ (B4 z)),g0,q'⟩
def QL{c:Type}(P:c->Prop):List c->Prop
 |[]=>True
 |a::r=>P a/\QL P r
theorem G7{c:Type}{P:c->Prop}:∀{l:List c},QL P l->∀a∈l,P a
 |_::_,h,a,m=>by
  rcases SH.mp m with rfl|m;exact h.1;exact G7 h.2 a m
def Lj{FN:List (Str×Nat)}{cl:OB}(h:QL (λp=>X.N[p.2]? = some p.1/\X.env.scope.names.lookup p.1=some .cell/\∃c,X.env.cells.lookup p.1=some c/\cl.lookup p.1=some c) FN) :
  ∀p∈FN,X.N[p.2]? = some p.1/\X.env.scope.names.lookup p.1=some .cell/\∃c,X.env.cells.lookup p.1=some c/\cl.lookup p.1=some c:=G7 h
def ZgL{U:Oz}{CX:XX}{k:Nat}{O a:Addr}{i:List (Addr×Addr)}{fd:OM}{x:Str}{sp:Sp}{c:Shared}{vs:OE}{ns:OH}
  (KX:K.In c.heap) (a0:c.heap.Ns mainGlobals mg) (f:c.heap.Ns builtinsNs U) (p0:∀x:Str,x ≠ "__name__" -> U x=bootBuiltins x) (k0:c.heap.NoLimit) (hg:c.gens=#[])
  (ha:c.heap.get? a=some {cls:=.type "list",data:=.seq vs.toArray}) (hi:IntsAre vs ns) (hl:ns.length<=sizeLine) (hr:Yh k callerA)
  (S:∀p∈i,W.CodeHd c.heap p.1 p.2/\c.heap.get? p.2=some (W.tabObj #[])/\K.lookup p.2=none) (i0:BM mg c.heap)
  (F:∀base:Heap,K.In base->base.Ns mainGlobals mg->(∀p∈i,W.CodeHd base p.1 p.2)->BM mg base->Zo P w K mg base CX k O fd [x] sp) (n0:∀(s:Shared) (u:Value),BindsTo s fd ⟨[u],[]⟩ [(x,u)])
  (l0:∀H:Hp,(∀p∈i,H p.2=some (.tbl #[]))->Zg K H a (ns.map V.int)->sp [.ref a] H (λv _=>v=.bl true) λ_ _ _=>False)
  (o0:∀H e y,CX [] H c (λ_ _ _=>False) e y->False) :
  codeAny (model P w) callerA (.call (.ref O) ⟨[.ref a],[]⟩) (λr y=>r=.ok (.ret (.bool true))/\OldK c.heap y.heap/\y.os=c.os/\AllBare y.gens) c:=by
 have rv:=wC hi;have q0:=hi.length;have E:∀{b:Addr},b∈i.map (·.2)->c.heap.get? b=some (W.tabObj #[])/\K.lookup b=none:=λ{b} f=>by
  obtain⟨p,D,rfl⟩:=SL.mp f;exact(S p D).2
 have aT:a∉i.map (·.2):=λz=>by rw[(E z).1]at ha;cases ha
 have core:∀H:Hp,(∀b,H b=none\/(b∈i.map (·.2)/\H b=some (.tbl #[]))\/∃o xs,H b=some (.frz o (.lst xs)))->(∀b∈i.map (·.2),H b=some (.tbl #[]))->Zg K H a (ns.map V.int)->Yo P w H c.heap->(∀b,H b≠none->b=a\/b∈i.map (·.2))->(H a≠none->K.lookup a=none) ->
   codeAny (model P w) callerA (.call (.ref O) ⟨[.ref a],[]⟩) (λr y=>r=.ok (.ret (.bool true))/\OldK c.heap y.heap/\y.os=c.os/\AllBare y.gens) c:=by
  intro H hO f0 hS hok Q hK;have J:∀{b:Addr} {o:Obj},c.heap.get? b=some o->H b=none->(V5 c.heap H).get? b=some o:=λe n=>Zda e n;have b0:∀{b:Addr} {o:Obj},c.heap.get? b=some o->o.cls≠.type "list" -> o.cls≠.none->H b=none:=λ{b o} e n1 n2=>by
   cases q:H b with
   |none=>rfl
   |some u =>
    rcases Q b (by rw[q];simp)with rfl|f;rw[ha]at e;cases e;exact Ov R n1;rw[(E f).1]at e;cases e;exact Ov R n2
  have r0:∀{b:Addr} {o:Obj} {G:Array DictEntry} {I:Nat},c.heap.get? b=some o->o.data=.dict G I->H b=none:=λ{b o G I} e d=>by
   cases q:H b with
   |none=>rfl
   |some u =>
    rcases Q b (by rw[q];simp)with rfl|f;rw[ha]at e;cases e;have d':Data.seq vs.toArray _=Data.dict G I:=d;cases d';rw[(E f).1]at e;cases e;cases d
  have L:∀{b:Addr} {m:Oz},c.heap.Ns b m->(V5 c.heap H).Ns b m:=λ{b m} ⟨o,G,I,e,d,r⟩=>⟨o,G,I,J e (r0 e d),d,r⟩;have d0:K.In (V5 c.heap H):=λb o e=>J (KX b o e) (by
   cases q:H b with
   |none=>rfl
   |some u =>
    rcases Q b (by rw[q];simp)with rfl|f;rw[hK (by rw[q];simp)]at e;cases e;rw[(E f).2]at e;cases e)
  have m0:∀p∈i,W.CodeHd (V5 c.heap H) p.1 p.2:=λp D=>by
   obtain⟨o,ws,file,tf,flags,tg,h0,text,tt,e,T,r⟩:=(S p D).1;exact⟨o,ws,file,tf,flags,tg,h0,text,tt,J e (b0 e (by rw[T];exact λz=>Ov (Value.type.inj z) ()) (by rw[T];intro z;cases z)),T,r⟩
  have g0:BM mg (V5 c.heap H):=by
   ext⟨bm,ob,b1,b2,b3,b4,Y,b6⟩ i0;exact⟨bm,ob,b1,b2,b3,J b4 (b0 b4 (by rw[Y];exact λz=>Ov (Value.type.inj z) ()) (by rw[Y];intro z;cases z)),Y,b6⟩
  have hM:Mod K mg (V5 c.heap H):=⟨d0,L a0,⟨U,L f,p0⟩,let ⟨mc,j,B⟩:=k0;⟨mc,L j,B⟩⟩;have e0:Vp P w K mg (V5 c.heap H) callerA [] c H:=⟨R,hM,λb o e=>Zdb e,Nat.le_of_eq (Zc9 _ _),trivial,λb f=>Ov (show b∈([]:OK)from f) (by simp),hok,.of_eq hg⟩;erw[codeAny_mono ((F _ d0 (L a0) m0 g0).run callerA [] c H ⟨[.ref a],[]⟩ [.ref a] [.ref a] _ _ hr e0 (n0 c (.ref a)) (.cons R .nil) (l0 H (λp D=>f0 p.2 (SL.mpr ⟨p,D,R⟩)) hS)) λr y h=>?_];cases r with
  |error e=>exact(o0 H e y h).elim
  |ok fl =>
   cases fl with
   |next=>exact False.elim h
   |brk=>exact False.elim h
   |cont=>exact False.elim h
   |ret u =>
    ext⟨v,H',os,bare,un,c0,r',q⟩ h;have q':v=.bl true:=q;subst q';obtain rfl:u=Value.bool true:=r';have keep:∀b o,b∉i.map (·.2)->c.heap.get? b=some o->y.heap.get? b=some o:=λb o nT e=>by
     cases q:H b with
     |none=>exact un.keep b o e q (by intro z;exact Ov (show b∈([]:OK)from z) (by simp)) (by simp)
     |some u =>
      rcases hO b with z|⟨z,_⟩|⟨ob,xs,z⟩;rw[q]at z;cases z;exact Ov z nT;have z2:=un.frzs b ob _ z;obtain⟨e1,_⟩:=hok b _ z;obtain⟨e2,_⟩:=c0 b _ z2;rw[e]at e1;cases e1;exact e2
    have gT:∀b∈i.map (·.2),∃more:Array Value,y.heap.get? b=some {cls:=.none,data:=.fields (#[]++more)}:=λb f=>by
     obtain⟨more,hm⟩:=un.tbls b _ (f0 b f);exact⟨more,c0 b _ hm⟩
    erw[⟨R,⟨λb o e=>?_,λb o e=>?_⟩,os,bare⟩];by_cases z:b∈i.map (·.2);obtain⟨more,g⟩:=gT b z;obtain⟨p,D,rfl⟩:=SL.mp z;obtain⟨j0,hT,_⟩:=S p D;rw[hT]at e;obtain rfl:=Sr e;exact .inr (.inl ⟨(j0.tab hT).isCodeTable,R,#[],more,R,g⟩);exact .inl (keep b o z e);by_cases z:b∈i.map (·.2);obtain⟨more,g⟩:=gT b z;exact⟨_,g⟩;exact⟨o,keep b o z e⟩
 cases X:K.lookup a with
 |some o =>
  have e:=KX a o X;rw[ha]at e;cases e;erw[core (λb=>if b∈i.map (·.2)then some (.tbl #[])else none) (λb=>?_) (λb f=>SY f) (.inr ⟨_,vs.toArray,_,X,R,R,R,by rw[SQ,q0];exact hl,by simpa using rv⟩) (λb u z=>?_) (λb z=>?_) λz=>Ov (SX aT) z];by_cases f:b∈i.map (·.2);exact .inr (.inl ⟨f,SY f⟩);exact .inl (SX f);by_cases f:b∈i.map (·.2);have C:=(SY f).symm.trans z;cases C;exact(E f).1;have C:=(SX f).symm.trans z;cases C;by_cases f:b∈i.map (·.2);exact .inr f;exact Ov (SX f) z
 |none =>
  have Z:∀b,b∉i.map (·.2)->b≠a->(λb=>if b∈i.map (·.2)then some (HO.tbl #[])else if b=a then some (.frz {cls:=.type "list",data:=.seq vs.toArray} (.lst (ns.map V.int)))else none) b=none:=λb j B=>by
   show(if b∈i.map (·.2)then _ else if b=a then _ else _)=none;rw[SX j,SX B]
  have M:(λb=>if b∈i.map (·.2)then some (HO.tbl #[])else if b=a then some (.frz {cls:=.type "list",data:=.seq vs.toArray} (.lst (ns.map V.int)))else none) a=some (.frz {cls:=.type "list",data:=.seq vs.toArray} (.lst (ns.map V.int))):=by
   show(if a∈i.map (·.2)then _ else if a=a then _ else _)=_;rw[SX aT,SY R]
  erw[core (λb=>if b∈i.map (·.2)then some (.tbl #[])else if b=a then some (.frz {cls:=.type "list",data:=.seq vs.toArray} (.lst (ns.map V.int)))else none) (λb=>?_) (λb f=>SY f) (.inl (.inr ⟨{cls:=.type "list",data:=.seq vs.toArray},M⟩)) (λb u z=>?_) (λb z=>?_) λ_=>X];by_cases j:b∈i.map (·.2);exact .inr (.inl ⟨j,SY j⟩);by_cases B:b=a;subst B;exact .inr (.inr ⟨_,_,M⟩);exact .inl (Z b j B);by_cases j:b∈i.map (·.2);have C:=(SY j).symm.trans z;cases C;exact(E j).1;by_cases B:b=a;subst B;have C:=M.symm.trans z;cases C;exact⟨ha,by rw[Sx];exact hl,vs,_,rv,ha⟩;have C:=(Z b j B).symm.trans z;cases C;by_cases j:b∈i.map (·.2);exact .inr j;by_cases B:b=a;exact .inl B;exact Ov (Z b j B) z
def ZgM{l:W.OpenLaw}{n k:Nat}{q:Program}{loose:OF}{XP:(Str->Option Value)->Heap->Prop}{I:World->Heap->Prop}{d:DefRec}{K:Params->W.Frag}{CX:XX}{sp:W.Frag->List Addr->Sp}{x:Str}{E:OK}
  (hn:l.most=some n) (i0:n<=sizeLine) (M:d.params.defaults=[]) (hr:Yh k callerA)
  (Z:∀(w:World) (h:Heap),I w h->(K w.params).In h/\∀P∈E,h.get? P=some (W.tabObj #[]))
  (F:∀(u:OK),u=E->∀(w:World) (mg:Oz) (i:Addr) (h:Heap),(K w.params).In h->h.Ns mainGlobals mg->mg d.name=some (.ref i) ->
   ∃c:List (Addr×Addr),(∀p∈c,(W.codeHdIn (K w.params) p.1 p.2=true/\p.2∈u)/\(K w.params).lookup p.2=none)/\∃B:FuncData,(∀(s:Shared) (u:Value),BindsTo s B ⟨[u],[]⟩ [(x,u)]) /\
    ∀base:Heap,(K w.params).In base->base.Ns mainGlobals mg->(∀p∈c,W.CodeHd base p.1 p.2)->BM mg base->Zo l.prog w (K w.params) mg base CX k i B [x] (sp (K w.params) (c.map (·.2))))
  (e0:∀(K:OA) (c:OK) (H:Hp) (a:Addr) (ns:OH),ns.length<=n->(∀T∈c,H T=some (.tbl #[]))->Zg K H a (ns.map V.int)->sp K c [.ref a] H (λv _=>v=.bl true) λ_ _ _=>False)
  (a0:∀(H:Hp) (s:Shared) (e:Value) (s':Shared),CX [] H s (λ_ _ _=>False) e s'->False) :
  W.WalkO q loose XP I l.row.toRowW d [] (λf vs=>PySem.call f vs):=by
 erw[Att.attach_call hn M λw s₀ j mg mb i o pm cd k0 a vs ns G Y ho hd j0 S d0 hints hlen hg=>?_];obtain⟨KX,h0⟩:=Z w _ Y;obtain⟨c,ht,B,L,hF⟩:=F E R w mg i _ KX G.T.g S;have b0:∀p∈c,W.CodeHd j.heap p.1 p.2/\j.heap.get? p.2=some (W.tabObj #[])/\(K w.params).lookup p.2=none:=λ⟨f0,T⟩ y=>by
  obtain⟨⟨Q,h2⟩,h3⟩:=ht (f0,T) y;exact⟨W.codeHd_of_K KX Q,h0 _ h2,h3⟩
 ext⟨J,ob,U,b2,D,O,b5,C⟩ G.T.bmain;have g0:J≠mainGlobals:=λz=>by
  ext⟨o',es,ep,e,c0,_⟩ G.T.g;rw[z,e]at D;cases D;rw[c0]at C;cases C
 exact ZgL KX G.T.g G.T.b G.T.builtins G.T.nolimit hg d0 hints (Si hlen i0) hr b0 ⟨J,ob,U,b2,g0,D,O,b5,C⟩ hF L (λH hH X=>e0 _ _ H a ns hlen (λT hT=>by obtain⟨p,y,rfl⟩:=SL.mp hT;exact hH p y) X) λH e s'=>a0 H j e s'
theorem on0{c:Type}{P:List c->Prop}(h:P []):∀us:List c,us.length=0->P us
 |[],_=>h
theorem Y0{e:Type}{P:List e->Prop}(h:∀c,P [c]):∀us:List e,us.length=1->P us
 |[c],_=>h c
theorem Xn{f:Type}{P:List f->Prop}(h:∀c e,P [c,e]):∀us:List f,us.length=2->P us
 |[c,e],_=>h c e
theorem We{i:Type}{P:List i->Prop}(h:∀c f e,P [c,f,e]):∀us:List i,us.length=3->P us
 |[c,f,e],_=>h c f e
theorem B6{j:Type}{P:List j->Prop}(h:∀i e c f,P [i,e,c,f]):∀us:List j,us.length=4->P us
 |[i,e,c,f],_=>h i e c f
theorem uZ{q:Type}{P:List q->Prop}(h:∀i f e j c,P [i,f,e,j,c]):∀us:List q,us.length=5->P us
 |[i,f,e,j,c],_=>h i f e j c
theorem qA{u:Type}{P:List u->Prop}(h:∀i f e q c j,P [i,f,e,q,c,j]):∀us:List u,us.length=6->P us
 |[i,f,e,q,c,j],_=>h i f e q c j
theorem on7{v:Type}{P:List v->Prop}(h:∀u i e j c f q,P [u,i,e,j,c,f,q]):∀us:List v,us.length=7->P us
 |[u,i,e,j,c,f,q],_=>h u i e j c f q
inductive NH:Value->Sum Int (List Nat)->Prop
 |int (i:Int) (t:Tok):NH (.int i t) (.inl i)
 |str (z:Str) (t:Tok):NH (.str z t) (.inr z.cps.toList)
inductive VS:List Value->List (Sum Int (List Nat))->Prop
 |nil:VS [] []
 |cons {v:Value} {a:Sum Int (List Nat)} {vs:OE} {as:List (Sum Int (List Nat))}:NH v a->VS vs as->VS (v::vs) (a::as)
def Wf:Sum Int (List Nat)->Bool
 |.inl _=>true
 |.inr _=>false
def qB(h:a≠b):Xg Vu (a::c) (b::bs)=UU a b:=by
 show(if UU a b=true then true else if UU b a=true then false else Xg Vu c bs)=_;cases e:UU a b with
 |true=>rw[SY R]
 |false =>
  rw[SX SR];cases f:UU b a with
  |true=>rw[SY R]
  |false=>exact Ov (Vu.total a b e f) h
def qC:Xg Vu (a::c) (a::bs)=Xg Vu c bs:=by
 show(if UU a a=true then true else if UU a a=true then false else Xg Vu c bs)=_;rw[show UU a a=false from Vu.irrefl a,SX SR,SX SR]
section
variable{b:Bool}{Q:Bool->Shared->Prop}
def ZgN(h:Q (decide (x<y)) s):wpAny (model prog w) A (oneLt' c (.int x t) (.int y u)) Q E s:=by
 cases c with
 |true=>exact oneLt_int h
 |false=>exact W.kat_one _ _ (lt_int h)
def ZgO{x y:Str}(h:Q (decide (x.cps.toList<y.cps.toList)) s):wpAny (model prog w) A (oneLt' c (.str x t) (.str y u)) Q E s:=by
 cases c with
 |true=>exact oneLt_str h
 |false=>exact W.kat_one _ _ (lt_str h)
def ZgP(h:Q true s):wpAny (model prog w) A (eqBool v v) Q E s:=by
 unfold eqBool;erw[wpAny_holding ?_];rw[SY (beq_iff_eq.mpr R)];exact Sa (wpAny_rule (Sb h))
theorem NI(h:Q false s):∀(r:OE) (i:Nat),W.KatLex prog w A b false Q (r.zip r) i s
 |[],_=>W.kat_nil h
 |v::r,i=>W.kat_cons (ZgP (W.kat_yes (NI h r (i+1))))
def ZgQ{H : List Value}{f:List (Sum Int (List Nat))}(h1:VS xs f):∀{ys:OE} {bs:List (Sum Int (List Nat))} (i:Nat),VS ys bs->f.map Wf=bs.map Wf->(f=bs->r=H)->Q (Xg Vu f bs) s->W.KatLex prog w A b false Q ((xs++r).zip (ys++H)) i s:=by
 induction h1 with
 |nil =>
  intro ys bs i q c j h;cases q with
  |nil=>rw[<-j R];exact NI h r i
  |cons _ _=>cases c
 |cons L _ v =>
  intro ys bs i q c j h;cases q with
  |nil=>cases c
  |cons C B =>
   obtain⟨G,D⟩:=List.cons.inj c;cases L with
   |int x t =>
    cases C with
    |str _ _=>cases G
    |int y u =>
     erw[W.kat_cons (wpAny_eqBool_int (W.kat_go (λe=>W.kat_yes ?_) λe=>W.kat_no (ZgN ?_)))];have e:=beq_iff_eq.mp e;subst e;rw[qC]at h;exact v (i+1) B D (λz=>j (by rw[z])) h;rw[qB (λz=>beq_eq_false_iff_ne.mp e (Sum.inl.inj z))]at h;exact h
   |str x t =>
    cases C with
    |int _ _=>cases G
    |str y u =>
     erw[W.kat_cons (wpAny_eqBool_str (W.kat_go (λe=>W.kat_yes ?_) λe=>W.kat_no (ZgO ?_)))];have e:=SV e;subst e;rw[qC]at h;exact v (i+1) B D (λz=>j (by rw[z])) h;rw[qB λz=>SW e ?_]at h;exact h;ext⟨J⟩ x;ext⟨I⟩ y;rw[show J=I from Array.toList_inj.mp (Sum.inr.inj z)]
end
structure Vg(h:Heap)(k:Value)(as:List (Sum Int (List Nat)))(m:Nat):Prop where
 ex:∃a o xs n vs r,k=.ref a/\h.get? a=some o/\o.cls=.type "tuple" /\ o.data=.seq xs n/\xs.toList=vs++r/\VS vs as/\r.length=m
def VS.length{vs:OE}{c:List (Sum Int (List Nat))}(h:VS vs c):vs.length=c.length:=by
 induction h with
 |nil=>rfl
 |cons _ _ e=>rw[SA,SA,e]
def VS.uniq(h:VS vs c):∀{bs:List (Sum Int (List Nat))},VS vs bs->c=bs:=by
 induction h with
 |nil=>intro bs h;cases h;rfl
 |cons v _ i =>
  intro bs h;cases h with
  |cons f e=>rw[i e];cases v<;>cases f<;>rfl
def Vg.uniq(x:Vg h k f m)(y:Vg h k bs m):f=bs:=by
 ext⟨a,o,I,n,D,r,rfl,B,M,hd,e,it,l⟩ x.ex;ext⟨P,G,J,H,q,L,j,c,O,i,u,E,C⟩ y.ex;cases j;rw[B]at c;cases c;rw[hd]at i;cases i;have v:D=q:=(List.append_inj' (e.symm.trans u) (l.trans C.symm)).1;subst v;exact it.uniq E
@[reducible] def B7 (ks:OE) (kf:Nat->List (Sum Int (List Nat))):PyProof.Rows.KeyKind:={uX Vu with keyOf:=λv=>(ks.findIdx? (· == v)).map kf,dflt:=([]:List (Sum Int (List Nat)))}
section
variable{ks:OE}{kf:Nat->List (Sum Int (List Nat))}{sh:List Bool}{m:Nat}
def qD(h:(ks.findIdx? (· == v)).map kf=some f):∃i,ks[i]? = some v/\kf i=f/\i<ks.length:=by
 obtain⟨i,e,rfl⟩:=Oh.mp h;obtain⟨c,j,_⟩:=List.findIdx?_eq_some_iff_getElem.mp e;exact⟨i,by rw[Sv c,eq_of_beq j],R,c⟩
def ZgR(c:∀i k,ks[i]? = some k->Vg s.heap k (kf i) m)(e:ks[i]? = some v):(ks.findIdx? (· == v)).map kf=some (kf i):=by
 cases h:ks.findIdx? (· == v)with
 |none=>exact Ov (beq_iff_eq.mpr R) (Oj.mp (List.findIdx?_eq_none_iff.mp h v (SM e)))
 |some j =>
  obtain⟨q,u,_⟩:=List.findIdx?_eq_some_iff_getElem.mp h;have f:ks[j]? = some v:=by rw[Sv q,eq_of_beq u]
  exact congrArg some ((c j v f).uniq (c i v e))
def ZgS(C:∀i k,ks[i]? = some k->Vg s.heap k (kf i) m)(J:∀i,i<ks.length->(kf i).map Wf=sh)(Z:∀i j,i<ks.length->j<ks.length->kf i=kf j->i=j\/m=0):UT prog w A s (tuples' b) (B7 ks kf):=by
 intro c0 x y as bs Q T U h;obtain⟨i,L,rfl,G⟩:=qD T;obtain⟨j,v,rfl,O⟩:=qD U;obtain⟨a,o,D,n,vs,r,rfl,I,hc,hd,e,it,l⟩:=(C i x L).ex;obtain⟨a',o',H,n',a0,r',rfl,q,b0,u,E,M,Y⟩:=(C j y v).ex;have B:=(J i G).trans (J j O).symm;have sz:D.size=H.size:=by
  have l1:=it.length;have l2:=M.length;have S:=congrArg List.length B;have P:=congrArg List.length e;have X:=congrArg List.length E;rw[Sx,Sx]at S;rw[Sw,Array.length_toList]at P X;lia
 erw[W.kat_lt I hd q u ?_];rw[SU (show ¬ D.size<H.size by lia)];by_cases c:kf i=kf j/\i=j;ext⟨_,rfl⟩ c;have h:Q (Xg Vu (kf i) (kf i)) s:=h;rw[ND]at h;obtain rfl:a=a':=by rw[L]at v;cases v;rfl
 rw[I]at q;cases q;rw[hd]at u;cases u;exact NI h _ _;rw[e,E];erw[ZgQ it _ M B (λz=>?_) h];rcases Z i j G O z with f|f;exact Ov ⟨z,f⟩ c;rw[List.eq_nil_of_length_eq_zero (l.trans f),List.eq_nil_of_length_eq_zero (Y.trans f)]
def qE(H:∀i k,ks[i]? = some k->Vg s.heap k (kf i) m)(T:∀i,i<ks.length->(kf i).map Wf=sh)(Y:sh≠[])(h2:0<ks.length)
  (h:∀b,Q (tuples' b) s):wpAny M A (keyKind' ks.toArray) Q E s:=by
 obtain⟨b,f,rfl⟩:∃b f,sh=b::f:=by
  cases sh with
  |nil=>exact Ov R Y
  |cons b f=>exact⟨b,f,R⟩
 have go:∀(c:OE),(∀k∈c,∃y,Vg s.heap k y m/\y.map Wf=b::f)->∃fs:List Value,fs.length=c.length/\W.KatTups s.heap c fs/\∀v∈fs,W.Looks M s.heap (typeOf v) (.type (if b=true then "int" else "str")):=by
  intro c;induction c with
  |nil=>intro _;exact⟨[],R,W.KatTups.nil,λv j=>by cases j⟩
  |cons k c Z =>
   intro j;obtain⟨fs,C,t,ty⟩:=Z λI O=>j I (SE _ O);obtain⟨y,U,B⟩:=j k SF;ext⟨a,o,xs,n,ws,r,rfl,S,P,hd,J,it,_⟩ U.ex;cases it with
   |nil=>cases B
   |@cons v X b0 a0 L its =>
    have G:Wf X=b:=(List.cons.inj B).1;erw[⟨v::fs,by rw[SA,SA,C],W.KatTups.cons S P hd (by rw[<-Array.getElem?_toList,J];rfl) t,λu q=>?_⟩];rcases SH.mp q with rfl|q;cases L with
    |int i t=>rw[<-G];exact W.Looks.of_pure R
    |str z t=>rw[<-G];exact W.Looks.of_pure R
    exact ty u q
 obtain⟨fs,C,t,ty⟩:=go ks λk hm=>by
  obtain⟨i,D,e⟩:=List.getElem_of_mem hm;exact⟨kf i,H i k (by rw[Sv D,e]),T i D⟩
 exact W.kat_kind t () ty (by cases b<;>rfl) (h _)
theorem qF{i q:Type}{f:i->q}:∀{l:List q} {T:List i},l.Perm (T.map f)->∃c:List i,c.Perm T/\c.map f=l
 |[],T,h=>by
  have:T.map f=[]:=h.symm.eq_nil;rw[List.map_eq_nil_iff]at this;subst this;exact⟨[],.nil,R⟩
 |b::l,T,h=>by
  obtain⟨t,v,e⟩:=SL.mp (h.mem_iff.mp SF);obtain⟨A,B,rfl⟩:=List.append_of_mem v;have j:(b::l).Perm (f t::(A++B).map f):=by
   erw[h.trans ?_];rw[SN,SO,SN];exact List.perm_middle
  rw[e]at j;obtain⟨c,p,u⟩:=qF j.cons_inv;exact⟨t::c,(p.cons t).trans List.perm_middle.symm,by rw[SO,e,u]⟩
def NJ{ks us:OE}(h:ks.length=us.length):(ks.toArray.zip us.toArray).toList=(List.range us.length).map λi=>(ks.getD i Value.none,us.getD i Value.none):=by
 erw[List.ext_getElem (by simp[h]) λi e c=>?_];simp at e c;simp[c,show i<ks.length by lia]
def Vv(kf:Nat->List (Sum Int (List Nat)))(n:Nat)(is:OJ):Prop:=is.Perm (List.range n)/\is.Pairwise λi j=>Xg Vu (kf j) (kf i)=false
def Vv.few(h:n<2):Vv kf n (List.range n):=by
 erw[⟨.refl _,?_⟩];rcases(show n=0\/n=1 by lia)with rfl|rfl;exact .nil;exact List.pairwise_singleton _ _
def qG{us:OE}(O:us.length<64)(h2:¬ us.length<2)(C:ks.length=us.length)(B:∀i k,ks[i]? = some k->Vg s.heap k (kf i) m)(S:∀i,i<ks.length->(kf i).map Wf=sh)(Y:∀i j,i<ks.length->j<ks.length->kf i=kf j->i=j\/m=0)
  (h:∀is c,Vv kf us.length is->(arrOf c).toList=(is.map λi=>(ks.getD i Value.none,us.getD i Value.none))->failedOf c=none->Q (Unit.unit,c) s):wpAny (model prog w) A ((sortRuns').run (SortSt.mk' (tuples' b) (ks.toArray.zip us.toArray) #[] 7 none)) Q E s:=by
 have D:=NJ C;have y:(ks.toArray.zip us.toArray).size=us.length:=by simp[C]
 have G:∀i,i<us.length->(B7 ks kf).keyOf (ks.getD i Value.none)=some (kf i):=λi f=>ZgR B (by rw[List.getD_eq_getElem?_getD,Sv ()];rfl);erw[Ou (ZgF (κ:=B7 ks kf) (a₀:=ks.toArray.zip us.toArray) (Q:=λ_ c=>(arrOf c).Perm (ks.toArray.zip us.toArray)/\failedOf c=none/\SortedToK (B7 ks kf) (arrOf c) (ks.toArray.zip us.toArray).size) (ZgS B S Y) (λp u=>?_) ⟨Array.Perm.refl _,R,R,R⟩ (by rw[y];lia) (by rwa[y]) λc X P Z=>⟨X,P,Z⟩) ?_ λ_ _ e=>e];rw[D]at u;obtain⟨i,f,rfl⟩:=SL.mp u;exact⟨_,G i (List.mem_range.mp f)⟩;rintro⟨⟨⟩,c⟩ s' ⟨rfl,u,J,T⟩;have M:(arrOf c).toList.Perm ((List.range us.length).map λi=>(ks.getD i Value.none,us.getD i Value.none)):=by rw[<-D];exact Array.perm_iff_toList_perm.mp u
 obtain⟨is,v,I⟩:=qF M;have hlen:is.length=us.length:=by rw[v.length_eq,List.length_range]
 have mem:∀i∈is,i<us.length:=λi f=>List.mem_range.mp (v.mem_iff.mp f);erw[h is c ⟨v,?_⟩ I.symm J];have H:∀i (f:i<is.length),KK (B7 ks kf) (arrOf c) i=kf is[i]:=λi f=>by
  unfold KK;have e:(arrOf c)[i]? = some (ks.getD is[i] Value.none,us.getD is[i] Value.none):=by
   rw[<-Array.getElem?_toList,<-I,Oc,Sv f];rfl
  rw[e];show((B7 ks kf).keyOf (ks.getD is[i] Value.none)).getD _=_;rw[G _ (mem _ (Ol f))];rfl
 rw[List.pairwise_iff_getElem];intro i j f L U;have q:=T i j (Nat.le_of_lt U) (by rw[y];lia);rw[H i f,H j L]at q;exact q
end
inductive WQ:List V->List (Sum Int (List Nat))->Prop
 |nil:WQ [] []
 |int (i:Int) {vs:List V} {as:List (Sum Int (List Nat))}:WQ vs as->WQ (.int i::vs) (.inl i::as)
 |str (z:Str) {vs:List V} {as:List (Sum Int (List Nat))}:WQ vs as->WQ (.str z::vs) (.inr z.cps.toList::as)
def WQ.its{rs : List V}(h:WQ zs f):∀{us:OE},ZB (zs++rs) us->∃vs r,us=vs++r/\VS vs f/\r.length=rs.length:=by
 induction h with
 |nil=>intro us r;exact⟨[],us,R,.nil,r.length.symm⟩
 |int i _ c =>
  intro us r;cases r with
  |cons a r=>ext⟨t,rfl⟩ a;obtain⟨vs,e,rfl,it,l⟩:=c r;exact⟨_::vs,e,R,.cons (.int _ _) it,l⟩
 |str z _ c =>
  intro us r;cases r with
  |cons a r=>ext⟨t,rfl⟩ a;obtain⟨vs,e,rfl,it,l⟩:=c r;exact⟨_::vs,e,R,.cons (.str _ _) it,l⟩
def Vg.of{rs : List V}(ok:Ym P w H h l (.tup (zs++rs)))(k:WQ zs c):Vg h (.ref l) c rs.length:=by
 ext⟨_,its,r,o,j,f,n,hd⟩ ok;obtain⟨i,q,e,it,u⟩:=k.its r;exact⟨l,o,its.toArray,n,i,q,R,j,f,hd,by rwa[List.toList_toArray],it,u⟩
theorem NK{xs:List V}{us:OE}(r:ZB xs us):∀{is:OJ},(∀i∈is,i<xs.length)->ZB (is.map λi=>xs.getD i .non) (is.map λi=>us.getD i Value.none)
 |[],_=>.nil
 |i::is,h=>by
  have hi:=h i SF;obtain⟨u,c,ru⟩:=r.get (Sv hi);erw[.cons ?_ (NK r λj e=>h j (SE _ e))];show ZG (xs.getD i .non) (us.getD i Value.none);rw[List.getD_eq_getElem?_getD,List.getD_eq_getElem?_getD,Sv hi,c];exact ru
section
variable{σ:St}{H':Hp}{D S:Addr}{e e1:Nat}{ks us:OE}{xs:List V}{kf:Nat->List (Sum Int (List Nat))}{sh:List Bool}{P:PySem.Fin->Shared->Prop}
def qH{st:SortSt}{is:OJ}(I:Zb X pins σ H' s)(M:Y4 X pins H' S)(G:Y4 X pins H' D)(C:S≠D)(B:s.heap.get? S=some (seqObj "list" ks.toArray e)) (O:s.heap.get? D=some (seqObj "list" #[] e1)) (T:us.length<64) (Q:ks.length=us.length)
  (v:(arrOf st).toList=is.map λi=>(ks.getD i Value.none,us.getD i Value.none)) (y:failedOf st=none) (hlen:is.length=us.length)
  (h:∀c s',Zb X pins σ H' s'->s'.heap.get? D=some (seqObj "list" (is.map λi=>us.getD i Value.none).toArray c)->P (.done (.ret .none)) s'):wpAny (model X.prog X.w) A (ksk_tail D false e1 (.ref S) st) P E s:=by
 have J:(arrOf st).map (·.2)=(is.map λi=>us.getD i Value.none).toArray:=by
  apply Array.toList_inj.mp;rw[Array.toList_map,v,Og];rfl
 have u:=Heap.SameBut.update s.heap S (Obj.mapSeq λ_=>(#[]:Array Value));have j:(s.heap.update S (Obj.mapSeq λ_=>(#[]:Array Value))).get? D=some (seqObj "list" #[] e1):=(u.2 D C.symm).trans O;have s2:=Heap.SameBut.update (s.heap.update S (Obj.mapSeq λ_=>(#[]:Array Value))) D (Obj.mapSeq λ_=>(is.map λi=>us.getD i Value.none).toArray);obtain⟨q,L⟩:∃q,((s.heap.update S (Obj.mapSeq λ_=>(#[]:Array Value))).update D (Obj.mapSeq λ_=>(is.map λi=>us.getD i Value.none).toArray)).get? D=some (seqObj "list" (is.map λi=>us.getD i Value.none).toArray q) :=
  ⟨_,get?_update_seq j λ_=>(is.map λi=>us.getD i Value.none).toArray⟩
 unfold ksk_tail
 try dsimp only
 rw[J];erw[Sa (listUpdate_at B R ?_ (by rw[SQ,sizeLine_eq];lia) (Sl _))];erw[Sa (wpAny_letGo ?_)];erw[Sa (seqEpoch_at j R ?_)];simp only[Bool.false_eq_true,if_false];erw[Sa (listUpdate_at j R ?_ (Sl _) (by rw[SQ,Sx,hlen,sizeLine_eq];lia))];rw[y];simp only[bne_self_eq_false,Bool.false_eq_true,if_false];exact Sb (h q _ ((I.one (t':=s.toks) M λc o f e=>(u.2 c f).trans e).one (t':=s.toks) G λc o f e=>(s2.2 c f).trans e) L)
def ZgT(I:Zb X pins σ H' s)(G:Y4 X pins H' S)(B:Y4 X pins H' D)(C:S≠D)(y:s.heap.get? S=some (seqObj "list" ks.toArray e)) (J:s.heap.get? D=some (seqObj "list" #[] e1)) (u:us.length<64) (j:ks.length=us.length)
  (L:∀i k,ks[i]? = some k->Vg s.heap k (kf i) 0) (M:∀i,i<ks.length->(kf i).map Wf=sh) (T:sh≠[])
  (h:∀is c s',Vv kf us.length is->Zb X pins σ H' s'->s'.heap.get? D=some (seqObj "list" (is.map λi=>us.getD i Value.none).toArray c)->P (.done (.ret .none)) s'):wpAny (model X.prog X.w) A (ksk_end D false us.toArray e1 (.ref S) ks.toArray) P E s:=by
 unfold ksk_end
 try dsimp only
 simp only[Bool.false_eq_true,if_false];by_cases f:us.toArray.size<2;rw[SY f,SY f];erw[Sa (Sb ?_)];rw[StateT.run_pure];erw[Sa (Sb ?_)]
 try dsimp only
 rw[SQ]at f;exact qH (st:=SortSt.mk' general' (ks.toArray.zip us.toArray) #[] 7 none) (is:=List.range us.length) I G B C y J u j (NJ j) R (by simp) λc s' q g=>h _ c s' (.few f) q g;rw[SX f,SX f];rw[SQ]at f;erw[Sa (qE L M T () λb=>Sa (qG u f j L M (λ_ _ _ _ _=>.inr R) λis U v O Q=>?_))];exact qH I G B C y J u j O Q (by rw[v.1.length_eq,List.length_range]) λc s2 q g=>h is c s2 v q g
def ZgU(h0:Zb X pins σ H s)(fS:Y4 X pins H S)(fD:Y4 X pins H D)(f0:S≠D)(gS:s.heap.get? S=some (seqObj "list" #[] 0)) (gD:s.heap.get? D=some (seqObj "list" #[] e1)) (rv:ZB xs us) (k0:us.length<64)
  (n0:∀i,i<us.length->(kf i).map Wf=sh) (p0:sh≠[])
  (turn:∀(i:Nat) (v:V),xs[i]? = some v->∀(y:Hp) (u:Value) (pins':Oy) (s':Shared),Zd H y->ZG v u->Zb X pins' σ y s'->wpAny (model X.prog X.w) A (call (.ref f) [u]) (EP X pins' σ λr I=>Zd y I/\∃l zs,r=.ref l/\I l=some (.tup zs)/\WQ zs (kf i)) (λ_ _=>False) s')
  (h:∀is c s' H',Vv kf us.length is->Zd H H'->Y4 X pins H' D->Zb X pins σ H' s'->s'.heap.get? D=some (seqObj "list" (is.map λi=>us.getD i Value.none).toArray c)->P (.done (.ret .none)) s'):wpAny (model X.prog X.w) A (ksk_rest D (.ref f) false us.toArray e1 (.ref S)) P E s:=by
 unfold ksk_rest;erw[Sa (wpAny_rule ?_)]
 first
  |rw[List.forIn_toArray]
  |(rw[<-Array.forIn_toList];simp only[List.toList_toArray])
  |rw[<-Array.forIn_toList]
 refine Sa (ksk_fold (λi s'=>∃(H':Hp) (ks:OE) (e:Nat),Zb X pins σ H' s'/\Zd H H'/\Y4 X pins H' S/\Y4 X pins H' D/\s'.heap.get? S=some (seqObj "list" ks.toArray e)/\s'.heap.get? D=some (seqObj "list" #[] e1)/\ks.length=i/\∀j k,ks[j]? = some k->∃l zs,k=.ref l/\H' l=some (.tup zs)/\WQ zs (kf j)) us 0 s
  ⟨H,[],0,h0,Zd.refl H,fS,fD,gS,gD,R,λj k e=>by simp at e⟩ ?step ?done)
 case step =>
  rintro j u s' hu ⟨y,ks,e,L,Q,G,B,M,a0,J,T⟩;simp only[Nat.zero_add]at J ⊢;have hj:j<us.length:=(Su.mp hu).1;obtain⟨v,ev⟩:∃v,xs[j]? = some v:=⟨_,Sv (by rw[rv.length];exact hj)⟩;obtain⟨u',c0,ru⟩:=rv.get ev;rw[hu]at c0;obtain rfl:=Sr c0;have I2:Zb X (pins++[(S,seqObj "list" ks.toArray e),(D,seqObj "list" #[] e1)]) σ y s':=L.pins_of λi0 C=>by
   rcases SI.mp C with C|C;exact L.pin i0 (SJ _ C);rcases SH.mp C with rfl|C;exact⟨M,G.1,G.2.1,G.2.2.1,λv z=>by cases z⟩;rw[SG.mp C];exact⟨a0,B.1,B.2.1,B.2.2.1,λv z=>by cases z⟩
  erw[Sa (wpAny_attempt (Ou (turn j v ev y u _ s' Q ru I2) (λr0 s2 he=>?_) λ_ _ hF=>hF.elim))];ext⟨vy,I,b0,ry,S2,l,zs,rfl,j0,m0⟩ he;cases ry;have J1:=b0.unpinned;have U:=b0.pin (S,seqObj "list" ks.toArray e) (SJ _ (SJ _ (.head _)));have pD:=b0.pin (D,seqObj "list" #[] e1) (SJ _ (SJ _ (.tail _ (.head _))));have d0:Y4 X pins I S:=⟨U.2.1,G.2⟩;have l0:Y4 X pins I D:=⟨pD.2.1,B.2⟩;have s1:=Heap.SameBut.update s2.heap S (Obj.mapSeq (·.push (Value.ref l)));have ea:ks.toArray.push (Value.ref l)=(ks++[Value.ref l]).toArray:=by simp
  obtain⟨c2,o0⟩:∃c2,(s2.heap.update S (Obj.mapSeq (·.push (Value.ref l)))).get? S=some (seqObj "list" (ks++[Value.ref l]).toArray c2):=⟨_,by rw[<-ea];exact get?_update_seq U.1 (·.push (Value.ref l))⟩
  try dsimp only
  erw[Sa (listUpdate_at U.1 R ?_ (by rw[SQ,sizeLine_eq];lia) (Si (Nat.le_of_eq (Array.size_push ..)) (by rw[SQ,sizeLine_eq];lia)))];erw[Sb ⟨R,I,ks++[Value.ref l],c2,J1.one (t':=s2.toks) d0 λc o hc e=>(s1.2 c hc).trans e,Q.trans S2,d0,l0,o0,(s1.2 D f0.symm).trans pD.1,by rw[Sw,Sy,J],λO k q=>?_⟩];by_cases g0:O<ks.length;rw[List.getElem?_append_left g0]at q;obtain⟨l',q0,e1,Y,Z⟩:=T O k q;exact⟨l',q0,e1,S2 _ _ Y,Z⟩;rw[Od ()]at q;have e0:O - ks.length=0:=by
   have:=(Su.mp q).1;rw[Sy]at this;lia
  rw[e0]at q;obtain rfl:=Sr q;exact⟨l,zs,R,j0,by rwa[show O=j by lia]⟩
 case done =>
  rintro s' ⟨y,ks,e,L,Q,G,B,M,a0,J,T⟩
  try dsimp only
  erw[Sa (listItems_at M R ?_)];rw[Nat.zero_add]at J;erw[ZgT L G B f0 M a0 k0 J (λi k q=>?_) (λi hi=>n0 i ()) p0 λis c s2 o I' g=>h is c s2 y o Q B I' g];obtain⟨l,zs,rfl,Y,Z⟩:=T i k q;exact Vg.of (rs:=[]) (by rw[Oe];exact L.hok l _ Y) Z
def ZgV(I:Zb X pins σ H s)(B:Y4 X pins H D)(j:s.heap.get? D=some (seqObj "list" us.toArray n)) (Z:ZB xs us) (Y:us.length<64)
  (O:∀i,i<us.length->(kf i).map Wf=sh) (T:sh≠[])
  (turn:∀(i:Nat) (v:V),xs[i]? = some v->∀(q:Hp) (u:Value) (pins':Oy) (s':Shared),Zd H q->ZG v u->Zb X pins' σ q s'->wpAny (model X.prog X.w) A (call (.ref f) [u]) (EP X pins' σ λr G=>Zd q G/\∃l zs,r=.ref l/\G l=some (.tup zs)/\WQ zs (kf i)) (λ_ _=>False) s')
  (h:∀is c s' H',Vv kf us.length is->Zd H H'->Y4 X pins H' D->Zb X pins σ H' s'->s'.heap.get? D=some (seqObj "list" (is.map λi=>us.getD i Value.none).toArray c)->P (.done (.ret .none)) s'):wpAny (model X.prog X.w) A (ksk_tree D (.ref f) false) P E s:=by
 have L:D<s.heap.objs.size:=Sf j;have Q:=Heap.SameBut.update s.heap D (Obj.mapSeq λ_=>(#[]:Array Value));obtain⟨e1,C⟩:∃e1,(s.heap.update D (Obj.mapSeq λ_=>(#[]:Array Value))).get? D=some (seqObj "list" #[] e1):=⟨_,get?_update_seq j λ_=>#[]⟩;have U:=I.one (t':=s.toks) B λc o J e=>(Q.2 c J).trans e;have y:((s.heap.update D (Obj.mapSeq λ_=>(#[]:Array Value))).push (seqObj "tuple" us.toArray 0)).objs.size=s.heap.objs.size+1:=by rw[size_push',Heap.size_update]
 unfold ksk_tree;erw[Sa (listItems_at j R ?_)];erw[Sa (listUpdate_at j R ?_ (by rw[SQ,sizeLine_eq];lia) (Sl _))];erw[Sa (seqEpoch_at C R ?_)];erw[Sa (wpAny_newTuple ?_ (by show us.length<=_;rw[sizeLine_eq];lia))];erw[Sa (wpAny_newList ?_ (Sl _))];erw[wpAny_holding ?_];have M:H (s.heap.objs.size+1)=none:=I.hok.fresh ();refine ZgU (s:={s with heap:=((s.heap.update D (Obj.mapSeq λ_=>(#[]:Array Value))).push (seqObj "tuple" us.toArray 0)).push (seqObj "list" #[] 0)}) (S:=((s.heap.update D (Obj.mapSeq λ_=>(#[]:Array Value))).push (seqObj "tuple" us.toArray 0)).objs.size)
  (U.kept (t':=s.toks) λb u e=>Sc _ (Sc _ e)) (by rw[y];exact I.fpOk () M) B (by rw[y];exact Nat.ne_of_gt (So L)) (Se _ R) (Sc _ (Sc _ C)) Z Y O T turn h
def ZgW(f0:Zb X pins σ H s)(O:Y4 X pins H D)(M:s.heap.get? D=some (seqObj "list" us.toArray n)) (U:ZB xs us) (g0:us.length<64)
  (hx:∀i v,xs[i]? = some v->∃l zs rs,v=.ref l/\H l=some (.tup (zs++rs))/\WQ zs (kf i)/\rs.length=m) (b0:∀i,i<us.length->(kf i).map Wf=sh) (i0:sh≠[]) (hR:∀i j,i<us.length->j<us.length->kf i=kf j->i=j)
  (h:∀is c s',Vv kf us.length is->Zb X pins σ H s'->s'.heap.get? D=some (seqObj "list" (is.map λi=>us.getD i Value.none).toArray c)->P (.done (.ret .none)) s'):wpAny (model X.prog X.w) A (Builtin.«list.sort» ⟨[.ref D],[]⟩) P E s:=by
 have s1:=Heap.SameBut.update s.heap D (Obj.mapSeq λ_=>(#[]:Array Value));obtain⟨e1,a0⟩:∃e1,(s.heap.update D (Obj.mapSeq λ_=>(#[]:Array Value))).get? D=some (seqObj "list" #[] e1):=⟨_,get?_update_seq M λ_=>#[]⟩;have J:=(f0.one (t':=s.toks) O λc o G e=>(s1.2 c G).trans e).kept (t':=s.toks) (h':=((s.heap.update D (Obj.mapSeq λ_=>(#[]:Array Value))).push (seqObj "tuple" us.toArray 0)).push (seqObj "list" #[] 0)) λb d0 e=>Sc _ (Sc _ e);have u:=Sc (seqObj "list" #[] 0) (Sc (seqObj "tuple" us.toArray 0) a0);rw[list_sort_plain];erw[Sa (listItems_at M R ?_)];erw[Sa (listUpdate_at M R ?_ (by rw[SQ,sizeLine_eq];lia) (Sl _))];erw[Sa (seqEpoch_at a0 R ?_)];erw[Sa (wpAny_newTuple ?_ (by show us.length<=_;rw[sizeLine_eq];lia))];erw[Sa (wpAny_newList ?_ (Sl _))];erw[wpAny_holding ?_];show wpAny _ _ _ _ _ {s with heap:=((s.heap.update D (Obj.mapSeq λ_=>(#[]:Array Value))).push (seqObj "tuple" us.toArray 0)).push (seqObj "list" #[] 0)};generalize ((s.heap.update D (Obj.mapSeq λ_=>(#[]:Array Value))).push (seqObj "tuple" us.toArray 0)).push (seqObj "list" #[] 0)=q at J u ⊢;have T:∀(is:OJ) (st:SortSt),Vv kf us.length is->(arrOf st).toList=(is.map λi=>(us.getD i Value.none,us.getD i Value.none))->failedOf st=none->wpAny (model X.prog X.w) A (do
   let touched:=(<-seqEpoch D) != e1
   Builtin.List.listUpdate (.ref D) λ_=>(arrOf st).map (·.2)
   if let some e:=failedOf st then rule "list.sort.comparison-raised";throw e
   if touched then rule "list.sort.modified";raiseError "ValueError" "list modified during sort"
   ret .none) P E {s with heap:=q}:=λis st y B C=>by
  have c0:(arrOf st).map (·.2)=(is.map λi=>us.getD i Value.none).toArray:=by
   apply Array.toList_inj.mp;rw[Array.toList_map,B,Og];rfl
  have s2:=Heap.SameBut.update q D (Obj.mapSeq λ_=>(is.map λi=>us.getD i Value.none).toArray);obtain⟨L,h0⟩:∃L,(q.update D (Obj.mapSeq λ_=>(is.map λi=>us.getD i Value.none).toArray)).get? D=some (seqObj "list" (is.map λi=>us.getD i Value.none).toArray L):=⟨_,get?_update_seq u λ_=>(is.map λi=>us.getD i Value.none).toArray⟩;erw[Sa (seqEpoch_at u R ?_)];rw[c0,C];erw[Sa (listUpdate_at u R ?_ (Sl _) (by rw[SQ,Sx,y.1.length_eq,List.length_range,sizeLine_eq];lia))];simp only[bne_self_eq_false,Bool.false_eq_true,if_false];exact Sb (h is L _ y (J.one (t':=s.toks) O λc o G e=>(s2.2 c G).trans e) h0)
 dsimp only;by_cases f:us.toArray.size<2;rw[SY f,SY f];erw[Sa (Sb ?_)];rw[StateT.run_pure];erw[Sa (Sb ?_)];rw[SQ]at f;exact T (List.range us.length) (SortSt.mk' general' (us.toArray.zip us.toArray) #[] 7 none) (.few f) (NJ R) R;rw[SX f,SX f];rw[SQ]at f;have Q:∀i k,us[i]? = some k->Vg q k (kf i) m:=λi k Y=>by
  have I:=(Su.mp Y).1;obtain⟨v,Z⟩:∃v,xs[i]? = some v:=⟨_,Sv (by rwa[U.length])⟩;obtain⟨d0,eu,ru⟩:=U.get Z;rw[Y]at eu;cases eu;obtain⟨l,zs,rs,rfl,hl,k1,rfl⟩:=hx i v Z;cases ru;exact Vg.of (J.hok l _ hl) k1
 erw[Sa (qE (s:={s with heap:=q}) Q b0 i0 () λb=>Sa (qG (s:={s with heap:=q}) g0 f R Q b0 (λi j I hj e=>.inl (hR i j I hj e)) λis e0 y B C=>?_))];exact T is e0 y B C
def ZgX(I:Zb X pins σ H s)(us:OE):((s.heap.push (seqObj "list" #[] 0)).update s.heap.objs.size (Obj.mapSeq (· ++ us.toArray))).objs.size=s.heap.objs.size+1/\(((s.heap.push (seqObj "list" #[] 0)).update s.heap.objs.size (Obj.mapSeq (· ++ us.toArray))).push (seqObj "list" us.toArray 0)).get? (s.heap.objs.size+1)=some (seqObj "list" us.toArray 0) /\
  Zb X pins σ H {s with heap:=((s.heap.push (seqObj "list" #[] 0)).update s.heap.objs.size (Obj.mapSeq (· ++ us.toArray))).push (seqObj "list" us.toArray 0)}/\H (s.heap.objs.size+1)=none/\Y4 X pins H (s.heap.objs.size+1):=by
 have c:((s.heap.push (seqObj "list" #[] 0)).update s.heap.objs.size (Obj.mapSeq (· ++ us.toArray))).objs.size=s.heap.objs.size+1:=by
  rw[Heap.size_update,size_push']
 have i:(((s.heap.push (seqObj "list" #[] 0)).update s.heap.objs.size (Obj.mapSeq (· ++ us.toArray))).push (seqObj "list" us.toArray 0)).get? (s.heap.objs.size+1)=some (seqObj "list" us.toArray 0):=by
  rw[<-c];exact Se _ R
 have keep:∀b o,s.heap.get? b=some o->(((s.heap.push (seqObj "list" #[] 0)).update s.heap.objs.size (Obj.mapSeq (· ++ us.toArray))).push (seqObj "list" us.toArray 0)).get? b=some o:=λb o q=>by
  have f:b<s.heap.objs.size:=Sf q;rwa[Heap.get?_push_ne _ _ _ (by rw[c];exact Sg (So f)),Heap.get?_update_ne _ _ _ _ (Sg f),Heap.get?_push_ne _ _ _ (Sg f)]
 have h:H (s.heap.objs.size+1)=none:=I.hok.fresh ();exact⟨c,i,I.kept (t':=s.toks) keep,h,I.fpOk () h⟩
def ZgY(I:Zb X pins σ H s)(T:Zg X.K H p xs)(d0:xs.length<64)(a0:∀i,i<xs.length->(kf i).map Wf=sh)(c0:sh≠[])
  (turn:∀(i:Nat) (v:V),xs[i]? = some v->∀(y:Hp) (u:Value) (pins':Oy) (s':Shared),Zd H y->ZG v u->Zb X pins' σ y s'->wpAny (model X.prog X.w) X.A.in1.in1 (call (.ref f) [u]) (EP X pins' σ λr G=>Zd y G/\∃l zs,r=.ref l/\G l=some (.tup zs)/\WQ zs (kf i)) (λ_ _=>False) s')
  (q:∀(is:OJ) (l:Addr) (H':Hp),Vv kf xs.length is->Zd H H'->H' l=none->H l=none->Q (.ref l) (Za H' l (.lst (is.map λi=>xs.getD i .non)))) :
  wpAny (model X.prog X.w) X.A (call (.builtin "sorted") [.ref p] [(ON "key",.ref f)]) (EP X pins σ Q) E s:=by
 obtain⟨us,h,O,U⟩:=I.list T;have hlen:=h.length;erw[call_function_entry_kw kind_sorted plain_sorted entry_sorted (ksk_s1 _ _) ?_];unfold Builtin.«sorted»;erw[Sa (m:=checkCount "sorted" 1 1 _) (Sb ?_)];erw[Sa (collect_list O.isList ?_ (by rw[sizeLine_eq];lia))];erw[Sa (wpAny_newList ?_ (by rw[sizeLine_eq];lia))];obtain⟨L,B,I1,nD,J⟩:=ZgX I us;show wpAny _ _ _ _ _ {s with heap:=((s.heap.push (seqObj "list" #[] 0)).update s.heap.objs.size (Obj.mapSeq (· ++ us.toArray))).push (seqObj "list" us.toArray 0)};rw[L];erw[Sa (wpAny_holding (wpAny_call_entry_kw slot_list_sort ⟨_,B,R⟩ entry_list_sort ?body (ksk_l1 _ _)))]
 case body =>
  show wpAny _ X.A.in1.in1 (Builtin.«list.sort» ⟨[.ref (s.heap.objs.size+1)],[(ON "key",.ref f)]⟩) _ _ _;rw[ksk_t1];erw[ZgV (xs:=xs) I1 J B h () (λi C=>a0 i ()) c0 turn λis b0 s' H' c Y j Z g=>⟨_,R,Sb ⟨_,R,?_⟩⟩];rw[<-hlen]at c;have hm:∀i∈is,i<xs.length:=λi C=>List.mem_range.mp (c.1.mem_iff.mp C);have M:(is.map λi=>xs.getD i .non).length<=sizeLine:=by rwa[Sx,c.1.length_eq,List.length_range]
  have new:Ym X.prog X.w (Za H' (s.heap.objs.size+1) (.lst (is.map λi=>xs.getD i .non))) s'.heap (s.heap.objs.size+1) (.lst (is.map λi=>xs.getD i .non)):=⟨M,_,b0,NK h hm,g⟩;exact⟨.ref _,_,Z.trackS j.1 g R (Heap.get?_none_of_le (Si I.sz (Nat.le_succ _))) j.2.2.2.2.2 new,R,q is _ H' c Y j.1 nD⟩
end
inductive ZgZ(K:OA)(N:OF)(qual:Str)(params:Arguments)(body:Expr)(scope:Scope)(te:TE)(Q:VK)(vs:List V)(zs:List V)(H2:Hp):Prop|mk (p f c':Addr) (pm ctv:Value) (xs:List V) (kf:Nat->List (Sum Int (List Nat))) (sh:List Bool) (_:vs=[.ref p]) (_:zs=[.ref f]) (_:Zg K H2 p xs) (_:xs.length<64) (_:(∀i,i<xs.length->(kf i).map Wf=sh)) (_:sh≠[]) (_:H2 f=some (Le f qual params body scope pm c' ctv)) (_:H2 c'=some (Ws c' qual)) (_:(∀(i:Nat) (v:V),xs[i]? = some v->∀H3,Zd H2 H3->te (W3 N [v]) H3 λr H'=>Zd H3 H'/\∃l zs,r=.ref l/\H' l=some (.tup zs)/\WQ zs (kf i))) (_:∀(is:OJ) (l:Addr) (H':Hp),Vv kf xs.length is->Zd H2 H'->H' l=none->H2 l=none->Q (.ref l) (Za H' l (.lst (is.map λi=>xs.getD i .non))))
def Zg0(K:OA)(N:OF)(qual:Str)(params:Arguments)(body:Expr)(scope:Scope)(f:TE)(t tk:TA):TE:=λc H Q=>t c H λe h=>tk c h λzs i=>ZgZ K N qual params body scope f Q e zs i
def Zg1{qual:Str}{params:Arguments}{body:Expr}(hg:Gl X "sorted") (hm:X.mg "sorted"=none) (hv:bootBuiltins "sorted"=some (.builtin "sorted"))
  (O:Yh (k+3) X.A) (S:ZC N [x] scope) (P:∀(L:Value) (c:Addr) (G u:Value),bindArgs (W.kla_fn "<lambda>" qual params body scope [] L (.ref c) G) ⟨[u],[]⟩=pure [(x,u)])
  (i0:∀(f c:Addr) (A:Around) (outer:List Env) (s:Shared) (H:Hp),Yh k (A.deeper (envOfC qual scope s.heap.objs.size f (.ref c)))->PE (WL Zr X.prog X.w X.K X.mg X.base N qual scope f (.ref c) A outer s H E0) body D)
  (ha:PA X (e::j) t) (Y:PK X q tk) (d0:(backToKw pos (keywordEach q X.env)).all (·.1.isSome)=true:=by rfl) (Q:(backToKw pos (keywordEach q X.env)).filterMap (·.1)=[ON "key"]:=by rfl)
  (he:starEach (e::j) X.env=(false,eval e X.env)::starEach j X.env:=by rfl)
  (c0:(backTo pos (starEach (e::j) X.env)).any (·.1)=false:=by rfl) (U:(backToKw pos (keywordEach q X.env)).any (·.1.isNone)=false:=by rfl) :
  PE X (.Call (.Name "sorted" p) (e::j) q pos) (Zg0 X.K N qual params body scope D t tk):=by
 intro pins s J H m0 I h;erw[wpAny_Call_Name_kw (UE I hg hm hv ?_ () ())];erw[callWith_builtin_kwB c0 U (evalArgs_kw2 d0 (Zs (ha pos pins s J H _ I h) λus s1 ⟨vs,H1,I1,r,a0⟩=>?_) he)];erw[Zs (Y pos pins s1 J H1 _ I1 a0) λws s2 ⟨zs,H2,I2,rz,q2⟩=>?_];rw[Q];ext⟨l,f,c,L,G,xs,kf,sh,rfl,rfl,hq,b0,g0,j0,T,k0,turn,q3⟩ q2;obtain⟨u,rfl,C⟩:=XF r;cases C;obtain⟨u,rfl,C⟩:=XF rz;cases C;erw[ZgY I2 hq b0 g0 j0 (λi h0 ev B u l0 M sm ru y=>?_) q3];have ho:=(y.hok f _ (sm _ _ T)).1;have f0:=(y.hok c _ (sm _ _ k0)).1;have Z:Vp X.prog X.w X.K X.mg X.base X.A.in1.in1 X.stack M B:={y.env0 with frames:=y.env0.frames};erw[wpAny_call (codeAny_mono (Zgv (E:=E0) S O.in1.in1 Z ho f0 (P _ _ _ _) (.cons ru .nil) R (i0 f c X.A.in1.in1 X.stack M B (O.in1.in1.deeper _)) (turn i h0 ev B sm)) λr s3 v=>?_)];cases r with
 |error e=>exact False.elim v
 |ok fl =>
  cases fl with
  |ret u=>exact y.after v
  |next=>exact False.elim v
  |brk=>exact False.elim v
  |cont=>exact False.elim v
def Lk(b:List Stmt)(i:Nat):Arguments×Expr×Scope×Pos:=match b[i]? with
 |some (.Return (some (.Call _ _ (c::_) _)) _)=>match c.value with
  |.Lambda a e f p=>(a,e,f,p)
  |_=>(⟨[],[],none,[],[],none,[]⟩,.Name "" ⟨0,0,0,0⟩,⟨.function,[],false,false,[]⟩,⟨0,0,0,0⟩)
 |_=>(⟨[],[],none,[],[],none,[]⟩,.Name "" ⟨0,0,0,0⟩,⟨.function,[],false,false,[]⟩,⟨0,0,0,0⟩)
theorem qI{K f:Type}[DecidableEq K]:∀{xs:List (K×f)} {j:Nat} {k:K} {p:f},(xs.map (·.1)).Nodup->xs[j]? = some (k,p)->xs.eraseIdx j=xs.filter λx=>decide (x.1≠k)
 |[],_,_,_,_,h=>by simp at h
 |x::xs,0,k,p,hn,h=>by
  have e:x=(k,p):=Sr h;subst e;rw[SO,On]at hn;rw[List.eraseIdx_cons_zero,List.filter_cons,SX (by simp)];erw[(List.filter_eq_self.mpr λy i=>?_).symm];have ne:y.1≠k:=λz=>hn.1 (by rw[<-z];exact SL.mpr ⟨y,i,R⟩);simpa using ne
 |x::xs,j+1,k,p,hn,h=>by
  rw[SO,On]at hn;have c:xs[j]? = some (k,p):=by simpa using h
  have ne:x.1≠k:=λz=>hn.1 (by rw[z];exact SL.mpr ⟨(k,p),SM c,R⟩);rw[List.eraseIdx_cons_succ,List.filter_cons,SY (by simpa using ne),qI hn.2 c]
theorem qJ{c e:Type}(f:c->e):∀(xs:List c) (j:Nat),(xs.map f).eraseIdx j=(xs.eraseIdx j).map f
 |[],_=>rfl
 |x::xs,0=>rfl
 |x::xs,j+1=>by
  rw[SO,List.eraseIdx_cons_succ,List.eraseIdx_cons_succ,SO,qJ f xs j]
section
variable{K:Type}[DecidableEq K]{knd:HeapKind prog w K}{d a:Addr}{k:K}{xs:List (K×Addr×Value)}
def G8(xs:List (K×Addr×Value))(k:K):List (K×Addr×Value):=xs.filter λx=>decide (x.1≠k)
def Zg2(y:knd.room A)(v:knd.is s.heap k a)(hm:s.heap.DictOfH knd d xs)(hsz:xs.length<=sizeLine)
  (C:(atKey xs k).map (·.2)=none->Q none {s with toks:=s.toks+knd.draws k})
  (D:∀e,(atKey xs k).map (·.2)=some e.val->∀h,h.DictOfH knd d (G8 xs k)->Heap.SameBut d s.heap h->Q (some e) {s with heap:=h,toks:=s.toks+knd.draws k}) :
  wpAny (model prog w) A (Builtin.Dict.takeOut d (.ref a)) Q E s:=by
 ext⟨o,i,H,c,B,hd,f,u,hn⟩ hm;unfold Builtin.Dict.takeOut
 try with_reducible erw[wpAny_holding ?_]
 erw[Sa (knd.pyHash y v (Sa (wpAny_dictFind_heap (s:={s with toks:=s.toks+knd.draws k}) y v c hd f u hn ?_ ?_)))];intro G;exact Sb (C (by rw[atKey_none_of_get G];rfl));intro j p q;erw[Sa (wpAny_dictEntries (s:={s with toks:=s.toks+knd.draws k}) c hd ?_)];rw[entry_at f j,q];refine Sa (wpAny_updateDictKeys (hz:=by have e:=size_of_entries f;lia) (s:={s with toks:=s.toks+knd.draws k}) c hd (Sb (D _ (by rw[atKey_of_get hn q];rfl) _ ⟨_,_,H+1,Heap.get?_update_self _ c (Obj.isFreed_of_dict (Obj.data_mapDictKeys hd _)),
  B.mapDictKeys _,Obj.data_mapDictKeys hd _,?_,?_,?_⟩ (Heap.SameBut.update ..))))
 have I:(i.eraseIdxIfInBounds j).toList=i.toList.eraseIdx j:=by
  ext⟨l⟩ i;simp
 rw[I,f,qJ,qI hn q];rfl;intro x J;exact knd.keeps (u x ((List.mem_filter.mp J).1)) c hd (Heap.SameBut.update ..);unfold G8;exact List.Nodup.sublist (List.Sublist.map _ List.filter_sublist) hn
def Zg3(knd:HeapKind prog w K)(d a:Addr)(hd:(d==sysModules)=false)(dflt:Value) :
  MeetsIn prog w (Builtin.«dict.pop» ⟨[.ref d,.ref a,dflt],[]⟩) (λA R s=>knd.room A.in1/\∃k xs,knd.is s.heap k a/\s.heap.DictOfH knd d xs/\xs.length<=sizeLine /\
   ((atKey xs k).map (·.2)=none->∀t,R (.ok (.ret dflt)) {s with toks:=t}) /\
   ∀v,(atKey xs k).map (·.2)=some v->∀c t,c.DictOfH knd d (G8 xs k)->Heap.SameBut d s.heap c->R (.ok (.ret v)) {s with heap:=c,toks:=t}) :=
 .of_wp λA R s ⟨C,k,xs,q,hm,j,h,D⟩=>by
  unfold Builtin.«dict.pop»;erw[Sa ?_];unfold Builtin.Dict.keyAndDefault;erw[Sa (wpAny_notOrdered_dict hm.typeIs ?_)];show wpAny _ _ (pure (d,Value.ref a,some dflt)) _ _ s;erw[Sb ?_];obtain⟨o,f,M,G,L,i,I,O,hn⟩:=id hm;dsimp only;rw[SX (show ¬ (keyPart (Value.ref a)).isSome=true by simp[keyPart])];erw[Sa (wpAny_dictEntries G i (Sa (Sb ?_)))];cases B:f.isEmpty with
  |true =>
   have u:xs=[]:=by
    have:=size_of_entries I;have z:f.size=0:=by simpa using B
    exact List.length_eq_zero_iff.mp ()
   subst u;simp only[if_true];erw[Sa (wpAny_rule (Sa (Sb ?_)))];simp only[Option.isNone_none,if_true];erw[Sa (wpAny_missedRemoval_other hd ?_)];exact Sa (wpAny_rule (Sb ⟨dflt,rfl,h rfl _⟩))
  |false =>
   simp only[Bool.false_eq_true,if_false];erw[Sa (Zg2 C q hm j (λhn=>?_) λe J c y H=>?_)];simp only[Option.isNone_none,if_true];erw[Sa (wpAny_missedRemoval_other hd ?_)];exact Sa (wpAny_rule (Sb ⟨dflt,rfl,h hn _⟩));simp only[Option.isNone_some,Bool.false_eq_true,if_false];exact Sa (wpAny_letGo (Sb ⟨e.val,rfl,D _ J c _ y H⟩))
end
def KT.drop(r:KT H c xs)(k:List Zn):KT H (Vd c k) (G8 xs k):=by
 unfold Vd G8;induction r with
 |nil=>exact .nil
 |@cons p q i j h t f =>
  rw[List.filter_cons,List.filter_cons,<-h.1];by_cases e:p.1=k;rwa[SX (by simpa using e),SX (by simpa using e)];rw[SY (by simpa using e),SY (by simpa using e)];exact .cons h f
def Zg4{k:List Zn}(M:A.units+1<cLine)(I:Zb X pins h H s)(e:H a=some (.dT f))(O:H b=some (.tup (k.map kV)))
  (h1:ZD f k=none->∀s',Zb X pins h H s'->Q r s') (P:∀v,ZD f k=some v->∀B s',Zb X pins h (Za H a (.dT (Vd f k))) s'->ZG v B->Q B s'):wpAny (model X.prog X.w) A (call (.builtin "dict.pop") [.ref a,.ref b,r]) Q E s:=by
 obtain⟨i,hd,G,rel,j⟩:=uA I.hok e;erw[call_meetsIn PySem.F.slot_dict_pop j.typeIs PySem.F.entry_dict_pop (PySem.F.args_dict_pop_3 _ _ _) (Zg3 (tupleKind (Xp X.prog X.w)) a b hd r) ⟨tupleKind_room_in1 M,k,G,A9 I.hok O,j,by rwa[<-Paired.length rel],λhn t=>?_,λv U Z t L T=>?_⟩];have q:XD (ZD f k) none:=by rw[<-hn];exact rel.val k
 erw[h1 ?_ _ (I.tok t)];cases c:ZD f k with
 |none=>rfl
 |some v=>rw[c]at q;exact q.elim
 have q:XD (ZD f k) (some v):=by rw[<-U];exact rel.val k
 ext⟨y,D,S,u,g2,g3,g4,_,g5⟩ L;cases c:ZD f k with
 |none=>rw[c]at q;exact q.elim
 |some J =>
  rw[c]at q;erw[P J c v _ (Lb I (by rw[e];exact True.intro) T ⟨y,u⟩ ⟨Si (Zf4 f k) i,hd,_,(rel.drop k).keeps λc Y C=>?_,y,D,S,u,g2,g3,g4,g5⟩) q];rwa[Ze (Z5 C e (λz=>nomatch z))]
inductive Zg5(ty tx:TE)(σ:St)(Q:VK)(x:V)(H1:Hp):Prop|mk a (_:x=.ref a) (_:Nx H1 a) (_:ty σ H1 λy H2=>tx σ H2 λz H3=>∃kvs k b,H3 a=some (.dT kvs)/\y=.ref b/\H3 b=some (.tup (k.map kV))/\(∀v,ZD kvs k=some v->Q v (Za H3 a (.dT (Vd kvs k))))/\(ZD kvs k=none->Q z H3))
def Zg6(f ty tx:TE):TE:=λc H Q=>f c H λx e=>Zg5 ty tx c Q x e
def NL{apos : Pos}(P:X.A.units+1<cLine)(Y:PE X o j)(he:PE X e ty)(C:PE X f tx)(m:M2 X o "pop" apos e f y):PE X (.Call (.Attribute o "pop" apos) [e,f] [] y) (Zg6 j ty tx):=by
 intro pins s i H a0 I h;erw[wpAny_Call_method m.base m.few m.line PySem.F.plainAttrs_dict PySem.F.slot_dict_pop PySem.F.type_dict_pop (Zs (Y pins s i H _ I h) λu s1 ⟨x,H1,q,rx,a,ex,d,q1⟩=>?_)];subst ex;obtain rfl:u=Value.ref a:=rx;obtain⟨t1,t2,_⟩:=uF q d;erw[⟨t1,t2,?_⟩];rw[m.trees];refine Calls.callWith_builtin R (Calls.evalArgs_plain (Calls.spliced_cons (Zs (he pins s1 i H1 _ q q1) λQ s2 ⟨b0,Z,U,G,O⟩ =>
  Calls.spliced_cons (Zs (C pins s2 i Z _ U O) λfv s3 ⟨z,D,I3,T,c0,k,b,B,M,S,q3,L⟩=>Calls.spliced_nil ?_))))
 subst M;cases (show Q=Value.ref b from G);exact Zg4 P I3 B S (λl J c=>⟨z,D,c,T,L l⟩) λv l w' J c E=>⟨v,_,c,E,q3 v l⟩
def Zg7{a b:Addr}{xs ys:List V}{g:TG}{tt:TT}{L:TE}{O:St}{Q:VK}(h:Nat->List V->St->Hp->Prop)(T:h 0 [] O H)(hz:xs.length<=sizeLine)(U:∀i c j H,i<=xs.length->i<=ys.length->h i c j H->Zg K H a xs/\Zg K H b ys)
  (hs:∀i x y p c j H,c.length<=i->xs[i]? = some x->ys[i]? = some y->H p=none->h i c j H->g (.ref p) j (Za H p (.tup [x,y])) λe D=>tt e D λb v=>if b=true then L e v λz E=>(c++[z]).length<=i+1/\h (i+1) (c++[z]) e E else c.length<=i+1/\h (i+1) c e v)
  (hd:∀i c j H,i=min xs.length ys.length->c.length<=i->h i c j H->Ut Q c H) :
  ∃W:Nat->Nat->List V->St->Hp->Prop,(∃m,W 0 m [] O H)/\∀i m c q H,W i m c q H ->
   ((F9 K a b).stop i H/\Ut Q c H) \/
   ((F9 K a b).go i H/\c.length<sizeLine/\∃N:List V->St->Hp->Prop,(∀u B f,N u B f->∃I,I<m/\W (i+1) I u B f)/\∀x f,(F9 K a b).yld i H x f->g x q f λe D=>tt e D λb v=>if b=true then L e v λy E=>N (c++[y]) e E else N c e v):=by
 erw[⟨λi m c j H=>m=xs.length - i/\(i<=xs.length/\i<=ys.length)/\c.length<=i/\h i c j H,⟨xs.length,by simp,⟨Sl _,Sl _⟩,Sl _,T⟩,?_⟩];rintro i m c q H ⟨rfl,⟨X,S⟩,ha,p⟩;obtain⟨G,C⟩:=U i c q H X S p;by_cases Z:i<xs.length/\i<ys.length;ext⟨J,M⟩ Z;erw[.inr ⟨⟨xs,ys,xs[i],ys[i],G,C,by simp[J],by simp[M]⟩,(),λu B f=>u.length<=i+1/\h (i+1) u B f,λu B f z=>⟨xs.length - (i+1),(),R,⟨J,M⟩,z.1,z.2⟩,λa0 f y=>?_⟩];ext⟨r,x,y,P,y1,Y,rfl,rfl⟩ y;exact hs i x y r c q _ ha (y1 xs G) (Y ys C) P p;exact .inl ⟨⟨xs,ys,G,C,()⟩,hd i c q H () ha p⟩
section
variable{σ:St}
def Zb.refit(I:Zb X pins σ H s)(e:H d=some v)(nt:∀xs,v≠.tup xs)(y:∀f,v≠.tbl f)(no:∀x,v≠.own x)(nf:∀o u,X.H₀ d≠some (.frz o u))(ok:Ym X.prog X.w H s.heap d u):Zb X pins σ (Za H d u) s:=by
 have ne:∀b,H b=none->b≠d:=λb n z=>by rw[z,e]at n;cases n
 have tup:∀b xs,H b=some (.tup xs)->Za H d u b=some (.tup xs):=λb xs q=>by
  rwa[Ze λz=>by rw[z,e]at q;exact nt xs (Sr q)]
 have own:∀b x,H b=some (.own x)->Za H d u b=some (.own x):=λb x q=>by
  rwa[Ze λz=>by rw[z,e]at q;exact no x (Sr q)]
 erw[⟨I.ok,I.os,I.bare,⟨I.base.keep,I.base.slot,λb o q n C=>?_,I.base.there,λb xs q=>tup b xs (I.base.tups b xs q),λb o w q=>?_,λb f q=>?_⟩,I.loc,I.cell,?_,λx c q=>?_,λp D=>?_,λb w q=>?_,I.len⟩];have:=I.base.free b o q n C;rw[Ze (ne b this)];exact this;have z:b≠d:=λz=>nf o w (by rwa[<-z]);rw[Ze z];exact I.base.frzs b o w q;obtain⟨more,h⟩:=I.base.tbls b f q;exact⟨more,by rwa[Ze λz=>by rw[z,e]at h;exact y _ (Sr h)]⟩;rw[Ze (ne _ I.free)];exact I.free;rw[Ze (ne _ (I.freeC x c q))];exact I.freeC x c q;obtain⟨B,j,E⟩:=I.pin p D;exact⟨B,by rwa[Ze (ne _ j)],E⟩;by_cases i:b=d;subst i;rw[Zj]at q;obtain rfl:=Sr q;exact ok.stay (λ_ _ _ q=>q) (λc q=>own c _ q) tup;rw[Ze i]at q;exact(I.hok b w q).stay (λ_ _ _ q=>q) (λc q=>own c _ q) tup
def Ll(u:HO):Prop:=(∃c,u=.dK c)\/∃c,u=.dT c
def Ll.nt(h:Ll u):(∀xs,u≠.tup xs)/\(∀c,u≠.tbl c)/\(∀x,u≠.own x)/\∀o v,u≠.frz o v:=by
 rcases h with⟨_,rfl⟩|⟨_,rfl⟩<;>exact⟨(),(),(),()⟩
def Zb.freeze(I:Zb X pins σ H s)(e:H d=some u)(c:Ll u):∃o,Zb X pins σ (Za H d (.frz o u)) s/\∀o u,X.H₀ d≠some (.frz o u):=by
 ext⟨n1,n2,f,h⟩ c.nt;have nf:∀o u,X.H₀ d≠some (.frz o u):=λo v q=>by
  have:=I.base.frzs d o v q;rw[e]at this;exact h _ _ (Sr this)
 have ok:=I.hok d u e;obtain⟨o,i⟩:∃o,s.heap.get? d=some o:=by
  rcases c with⟨_,rfl⟩|⟨_,rfl⟩;ext⟨_,_,_,_,o,_,_,q,_⟩ ok;exact⟨o,q⟩;ext⟨_,_,_,_,o,_,_,q,_⟩ ok;exact⟨o,q⟩
 exact⟨o,I.refit e n1 n2 f nf ⟨i,ok⟩,nf⟩
def Zb.thaw(I:Zb X pins σ H s)(e:H d=some (.frz o u))(nf:∀o u,X.H₀ d≠some (.frz o u)):Zb X pins σ (Za H d u) s :=
 I.refit e () () () nf (I.hok d _ e).2
inductive Zg8(t:TS)(D:Wz)(σ:St)(H:Hp):Prop|mk d u (_:H d=some u) (_:Ll u) (_:∀o,t {nx:=λσ' H'=>H' d=some (.frz o u)/\D.nx σ' (Za H' d u),rt:=λv H'=>H' d=some (.frz o u)/\D.rt v (Za H' d u),bk:=λσ' H'=>H' d=some (.frz o u)/\D.bk σ' (Za H' d u),ct:=λσ' H'=>H' d=some (.frz o u)/\D.ct σ' (Za H' d u)} σ (Za H d (.frz o u)))
def B8{st:Stmt}{t:TS}(h:PS X st t):PS X st (Zg8 t):=by
 intro pins s σ H D I q;ext⟨d,u,e,G,q⟩ q;obtain⟨o,E,nf⟩:=I.freeze e G;erw[Zs (h pins s σ _ _ E (q o)) λf J r=>?_];cases f with
 |next=>ext⟨c,B,i,j,y⟩ r;exact⟨c,_,i.thaw j nf,y⟩
 |cont=>ext⟨c,B,i,j,y⟩ r;exact⟨c,_,i.thaw j nf,y⟩
 |brk=>ext⟨c,B,i,j,y⟩ r;exact⟨c,_,i.thaw j nf,y⟩
 |ret v=>ext⟨C,c,B,i,r1,j,y⟩ r;exact⟨C,c,_,i.thaw j nf,r1,y⟩
end
def Zg9(h:(Xp P w).is k u=true):ZG (kV k) u:=by
 cases k with
 |inl i=>exact Value.isInt_shape h
 |inr z=>exact Value.isStrOf_shape h
theorem KV.at(r:KV f vs):∀{i:Nat} {c:Zn×V},f[i]? = some c->∃u,vs[i]? = some (c.1,u)/\ZG c.2 u:=by
 induction r with
 |nil=>intro i c e;cases e
 |@cons a b l1 l2 h _ j =>
  intro i c e;cases i with
  |zero =>
   obtain rfl:=Sr e;exact⟨b.2,by rw[List.getElem?_cons_zero,h.1],h.2⟩
  |succ i =>
   rw[List.getElem?_cons_succ]at e;obtain⟨u,x,y⟩:=j e;exact⟨u,by rwa[List.getElem?_cons_succ],y⟩
def G9(d:Addr)(ob:Obj)(c:List (Zn×V)):It :=
 ⟨λi H=>H d=some (.frz ob (.dK c))/\i<c.length,λi H v f=>∃p e,H p=none/\c[i]? = some e/\v=.ref p/\f=Za H p (.tup [kV e.1,e.2]),λi H=>H d=some (.frz ob (.dK c))/\c.length<=i⟩
def NM{ob:Obj}(I:Zb X pins v H s)(e:H d=some (.frz ob (.dK i))) :
  (d==sysModules)=false/\∃vs f c,KV i vs/\s.heap.DictAt (Xp X.prog X.w) d vs f/\ob.data=.dict c f:=by
 obtain⟨h,B,y,vs,u,o,c,f,j,r1,q,r3⟩:=I.hok d _ e;rw[h]at j;obtain rfl:=Sr j;exact⟨y,vs,f,c,u,⟨_,c,h,r1,q,r3⟩,q⟩
def Zha{e:OG}{k:Nat}(d it:Addr)(ob:Obj)(B:List (Zn×V))(m0:d≠it) :
  QA P w K (.Tuple e k pos) (G9 d ob B) [it] it (λi h=>∃f e ok u,IsItemIter h it d i B.length f ok u/\ob.data=.dict e f) where
 mem:=by simp
 obj:=λi h st b j=>by
  ext⟨f,e,ok,u,c,_⟩ st;rw[SG.mp j];exact⟨_,c,λl0 z=>by cases z⟩
 keep:=λi h h' st kk=>by
  ext⟨f,e,ok,u,c,hd⟩ st;exact⟨f,e,ok,u,kk it (by simp) _ c,hd⟩
 item:=by
  intro i0 G M E U i pins s σ e0 a0 I D st Q;subst G M E;ext⟨f,e,ok,u,c,hd⟩ st;ext⟨J,Y⟩ Q;obtain⟨hs,O,L,H,C,hm,v⟩:=NM I J;rw[hd]at v;obtain⟨rfl,rfl⟩:e=H/\f=L:=by injection v with a b;exact⟨a,b⟩
  have hlen:O.length=B.length:=(Paired.length C).symm;obtain⟨x,T⟩:∃x,B[i]? = some x:=⟨_,Sv Y⟩;obtain⟨d0,hu,ru⟩:=KV.at C T;rw[<-hlen]at c;erw[wpAny_pyNext_items_item c hm hu λg0 h1 c0 ho hT j0 hk=>⟨_,R,?_⟩];erw[wpAny_letOwnedTupleGo_items (s:={s with heap:=h1}) ho λX b0 S=>?_];have h0:it<s.heap.objs.size:=Sf c;have f0:X.get? s.heap.objs.size=some {cls:=.type "tuple",data:=.seq #[g0,d0]}:=(S.2 _ (Nat.ne_of_gt h0)).trans hT;obtain⟨I2,n2⟩:=I.paired (t':=s.toks) (fp:=[it]) (x:=kV x.1) (y:=x.2) (h':=X) D (λb j=>by
   rw[SG.mp j];exact⟨_,c⟩) (λb o j q=>by
   have Z:b≠it:=λz=>j (by simp[z]);exact(S.2 b Z).trans (hk b o Z q)) f0 (Zg9 c0) ru
  erw[⟨.ref s.heap.objs.size,_,I2,R,⟨_,x,I.hok.fresh (Sh _),T,R,R⟩,⟨f,e,_,_,by rwa[<-hlen],hd⟩,n2⟩]
 done:=by
  intro i0 G M E U i pins s σ e0 a0 I D st Q;subst G M E;ext⟨f,e,ok,u,c,hd⟩ st;ext⟨J,Y⟩ Q;obtain⟨hs,O,L,H,C,hm,v⟩:=NM I J;rw[hd]at v;obtain⟨rfl,rfl⟩:e=H/\f=L:=by injection v with a b;exact⟨a,b⟩
  have hlen:O.length=B.length:=(Paired.length C).symm;rw[<-hlen]at c;exact wpAny_pyNext_items_end (I.ok.hd U) c hm (List.getElem?_eq_none ()) λh' eb=>⟨R,I.turnedL (t':=s.toks) (fp:=[it]) (λb o j q=>eb b o (λz=>j (by simp[z])) q) D⟩
 self:=λA i s k0 a0 st h=>by
  ext⟨f,e,ok,u,c,_⟩ st;exact W.kcp_self c h
inductive Zhb(R:It->Hp->Prop)(x:V)(H1:Hp):Prop|mk d ob kvs (_:x=.ref d) (_:H1 d=some (.frz ob (.dK kvs))) (_:R (G9 d ob kvs) H1)
def Zhc(e:TE):TI:=λh H c=>e h H λx f=>Zhb c x f
def Lm{E:OG}{k:Nat}{tp:Pos}{o:Expr}{u:TE}{apos v:Pos}(Q:PE X o u)(a0:attributeBase o "items" X.env (eval o X.env)=eval o X.env:=by rfl) (L:(apos.endLine==v.line)=true:=by rfl) :
  PI X (.Tuple E k tp) (.Call (.Attribute o "items" apos) [] [] v) (Zhc u):=by
 intro pins s O H R I h;erw[wpAny_Call_method0_late a0 L (Zs (Q pins s O H _ I h) λc0 c ⟨x,Z,f,r1,q1⟩=>?_)];ext⟨d,ob,B,rfl,hd,q⟩ q1;cases r1;obtain⟨U,y,T,M,kv,hm,P⟩:=NM f hd;obtain⟨J,d0,Y,G,b0,_⟩:=id hm;erw[⟨"dict","dict.items",PySem.F.plainAttrs_dict,PySem.F.slot_dict_items,PySem.F.type_dict_items,hm.dictOf.typeIs,λa e=>by cases e;exact⟨J,Y,G.2.1⟩,Calls.callWith_builtin rfl (PySem.evalArgs_none ?_)⟩];erw[call_meetsIn PySem.F.slot_dict_items hm.dictOf.typeIs PySem.F.entry_dict_items (PySem.F.args_dict_items_1 _) (meets_dict_items (Xp X.prog X.w) d U) ⟨⟨y,hm.dictOf⟩,?_⟩];have D:=hm.push {cls:=.type "dict_items",data:=.fields #[.ref d]};erw[wpAny_pyIter_items (s:={c with heap:=c.heap.push {cls:=.type "dict_items",data:=.fields #[.ref d]} }) ⟨_,Se _ rfl,rfl,rfl⟩ D ?_];have hlen:y.length=B.length:=(Paired.length kv).symm;have S:d<c.heap.objs.size:=hm.lt_size;have j:(c.heap.push {cls:=.type "dict_items",data:=.fields #[.ref d]}).objs.size=c.heap.objs.size+1:=by simp[Heap.push]
 erw[⟨(c.heap.push {cls:=.type "dict_items",data:=.fields #[.ref d]}).objs.size,[(c.heap.push {cls:=.type "dict_items",data:=.fields #[.ref d]}).objs.size],_,_,Z,rfl,f.kept (t':=c.toks) (λb o e=>Sc _ (Sc _ e)),Zha d _ ob B (by rw[j];exact Sg (So S)),⟨T,M,_,_,by rw[<-hlen];exact Se _ rfl,P⟩,λb C=>?_,q⟩];have i:c.heap.objs.size<=b:=by rw[SG.mp C,j];exact Nat.le_succ _
 exact f.fpOk i (f.hok.fresh i)
def Ln{d:Addr}{ob:Obj}{f:List (Zn×V)}{g:TG}{G:TS}{D:Wz}{c:St}(h:Nat->St->Hp->Prop)(J:h 0 c H)(L:∀i c H,i<=f.length->h i c H->H d=some (.frz ob (.dK f)))
  (O:∀i u p c H,f[i]? = some u->H p=none->h i c H->g (.ref p) c (Za H p (.tup [kV u.1,u.2])) λB C=>G {D with nx:=h (i+1),ct:=h (i+1),bk:=D.nx} B C) (hd:∀c H,h f.length c H->D.nx c H) :
  ∃W:Nat->Nat->St->Hp->Prop,(∃m,W 0 m c H)/\∀i m c H,W i m c H ->
   ((G9 d ob f).stop i H/\D.nx c H)\/((G9 d ob f).go i H/\∃N:St->Hp->Prop,(∀v j,N v j->∃E,E<m/\W (i+1) E v j)/\∀x j,(G9 d ob f).yld i H x j->g x c j λB C=>G {D with nx:=N,ct:=N,bk:=D.nx} B C):=by
 erw[⟨λi m c H=>m=f.length - i/\i<=f.length/\h i c H,⟨f.length,by simp,Sl _,J⟩,?_⟩];rintro i m c H ⟨rfl,M,p⟩;have q:=L i c H M p;by_cases I:i<f.length;erw[.inr ⟨⟨q,I⟩,h (i+1),λv j n=>⟨f.length - (i+1),(),R,I,n⟩,λx j y=>?_⟩];ext⟨a,u,ha,P,rfl,rfl⟩ y;exact O i u a c H P ha p;have e:i=f.length:=by lia
 subst e;exact .inl ⟨⟨q,Sh _⟩,hd c H p⟩
open PySem PySem.Spec PyProof.Rows PySem.W
def Vh(h:Heap)(d:Addr)(c:Array DictEntry)(e:Nat):Prop:=∃o,h.get? d=some o/\o.ExactDict/\o.data=.dict c e
def Vh.typeIs(x:Vh s.heap d c e):s.TypeIs (.ref d) "dict" := let ⟨o,ho,hc,_⟩:=x;⟨o,ho,hc.1⟩
def Vh.at{h h':Heap}(x:Vh h d c e)(k:∀o,h.get? d=some o->h'.get? d=some o):Vh h' d c e:=let ⟨o,ho,r⟩:=x;⟨o,k o ho,r⟩
def Vh.lt{h:Heap}(x:Vh h d c e):d<h.objs.size:=let ⟨_,ho,_⟩:=x;Sf ho
def qK{h:Array DictEntry}(hd:(d==sysModules)=false)(hm:Vh s.heap d h i)
  (j:Q (.ref s.heap.objs.size) {s with heap:=s.heap.push {cls:=.type "dict_keyiterator",data:=.fields #[.ref d,.int 0 0,.int h.size 0,.int i 0]} }):wpAny (model prog w) A (pyIter (.ref d)) Q E s:=by
 obtain⟨o,f,q,e⟩:=id hm;have c:=hm.typeIs;apply wpAny_pyIter_slot c F.slot_dict_iter;erw[wpAny_call_entry F.slot_dict_iter c F.entry_dict_iter ?_ (F.args_dict_iter_1 _)];unfold Builtin.«dict.__iter__»;apply Sa;unfold Builtin.Dict.dictSlotNone;apply Sa;erw[wpAny_notOrdered_dict c ?_];show wpAny _ _ (pure (Value.ref d)) _ _ s;apply Sb;show wpAny _ _ (Builtin.Dict.showsAll d >>= _) _ _ s;unfold Builtin.Dict.showsAll;rw[SX (by rw[hd];exact SR)];apply Sa;apply Sb;apply Sa;erw[wpAny_dictEntries f e ?_];apply Sa;erw[wpAny_dictEpoch f e ?_];apply Sa;erw[wpAny_newObj_type ?_];apply Sb;erw[⟨_,R,"dict_keyiterator",_,⟨_,Se _ R,R⟩,F.slot_dict_keyiterator_next.lookup,?_⟩];simpa [rawInt]using j
def qL{e:Array DictEntry}(c:s.heap.IsKeyIter it d i e.size f)(hm:Vh s.heap d e f)(hi:i<e.size)
  (y:∀h',h'.IsKeyIter it d (i+1) e.size f->Heap.SameBut it s.heap h'->Q (some e[i].key) {s with heap:=h'}):wpAny (model prog w) A (pyNext (.ref it)) Q E s:=by
 obtain⟨C,j,B,h⟩:=id c;obtain⟨o,v,D,u⟩:=id hm;unfold pyNext;apply Sa;apply wpAny_attempt;erw[wpAny_callSpecial?_slot (name:=ON "__next__") c.typeIs F.slot_dict_keyiterator_next ?_];erw[wpAny_call_entry F.slot_dict_keyiterator_next c.typeIs F.entry_dict_keyiterator_next ?_ (F.args_dict_keyiterator_next_1 _)];apply Sa;apply Sb;apply Sa;apply Sa;apply Sa
 first|refine wpAny_typeNameOfWhole_keyiter c.typeIs ?_|refine wpAny_typeNameOf_keyiter c.typeIs ?_
 apply Sb;apply Sa;erw[wpAny_fieldsOf j h ?_];simp only[show Builtin.Dict_items.ownsTuple "dict_keyiterator"=false by lia,Bool.false_eq_true,if_false];show wpAny _ _ (if (Value.ref d==Value.none)=true then _ else _) _ _ s;rw[SX (by intro z;cases z)];apply Sa;apply Sb;apply Sa;erw[wpAny_dictEntries v u ?_];rw[SX (by simp)];apply Sa;apply Sb;apply Sa;erw[wpAny_dictEpoch v u ?_];rw[SX (by simp)];apply Sb;simp only[show ¬ ((i:Int)<0) by lia,if_false,Int.toNat_natCast,Array.getElem?_eq_getElem hi];apply Sa;apply Sa
 first|refine wpAny_typeNameOfWhole_keyiter c.typeIs ?_|refine wpAny_typeNameOf_keyiter c.typeIs ?_
 apply Sb;apply Sa;erw[wpAny_isOneOf_keyiter c.typeIs ?_];show wpAny _ _ (setField (.ref it) 1 (rawInt ((i:Int)+1)) >>= _) _ _ s;apply Sa;erw[wpAny_setField j h (by simp) ?_];have q:(s.heap.update it (Obj.mapFields (·.setIfInBounds 1 (rawInt ((i:Int)+1))))).IsKeyIter it d (i+1) e.size f :=
  ⟨_,Heap.get?_update_self _ j (Obj.isFreed_of_fields (Obj.data_mapFields h _)),(Obj.cls_mapFields ..).trans B,by rw[Obj.data_mapFields h];simp[rawInt]⟩
 apply Sa;apply wpAny_holding;apply Sa;erw[wpAny_isOneOf_keyiter (s:={s with heap:=s.heap.update it (Obj.mapFields (·.setIfInBounds 1 (rawInt ((i:Int)+1))))}) q.typeIs ?_];show wpAny _ _ (pure e[i].key) _ _ _;apply Sb;apply Sb;erw[⟨_,R,?_⟩];apply Sb;exact y _ q (Heap.SameBut.update ..)
def qM{e:Array DictEntry}(v:A.handled=none)(c:s.heap.IsKeyIter it d e.size e.size h)(hm:Vh s.heap d e h)
  (u:∀h',Heap.ExtBut it s.heap h'->Q none {s with heap:=h'}):wpAny (model prog w) A (pyNext (.ref it)) Q E s:=by
 obtain⟨B,f,y,q⟩:=id c;obtain⟨o,j,C,i⟩:=id hm;unfold pyNext;apply Sa;apply wpAny_attempt;erw[wpAny_callSpecial?_slot (name:=ON "__next__") c.typeIs F.slot_dict_keyiterator_next ?_];erw[wpAny_call_entry F.slot_dict_keyiterator_next c.typeIs F.entry_dict_keyiterator_next ?_ (F.args_dict_keyiterator_next_1 _)];apply Sa;apply Sb;apply Sa;apply Sa;apply Sa
 first|refine wpAny_typeNameOfWhole_keyiter c.typeIs ?_|refine wpAny_typeNameOf_keyiter c.typeIs ?_
 apply Sb;apply Sa;erw[wpAny_fieldsOf f q ?_];simp only[show Builtin.Dict_items.ownsTuple "dict_keyiterator"=false by lia,Bool.false_eq_true,if_false];show wpAny _ _ (if (Value.ref d==Value.none)=true then _ else _) _ _ s;rw[SX (by intro z;cases z)];apply Sa;apply Sb;apply Sa;erw[wpAny_dictEntries j i ?_];rw[SX (by simp)];apply Sa;apply Sb;apply Sa;erw[wpAny_dictEpoch j i ?_];rw[SX (by simp)];apply Sb;simp only[show ¬ ((e.size:Int)<0) by lia,if_false,Int.toNat_natCast,Array.getElem?_eq_none (Sh _)];apply Sa;apply Sa
 first|refine wpAny_typeNameOfWhole_keyiter c.typeIs ?_|refine wpAny_typeNameOf_keyiter c.typeIs ?_
 apply Sb;show wpAny _ _ (setField (.ref it) 0 .none >>= _) _ _ s;apply Sa;erw[wpAny_setField f q (by simp) ?_];show wpAny _ _ (newExc (.type "StopIteration") [] >>= _) _ _ _;apply Sa;simp only[newExc,newTuple];apply Sa;erw[wpAny_newObj_type ?_ (by size_fits)];apply Sa (m:=firstArgMember _ _);erw[wpAny_of_eq (a:=Value.none) (by first|rfl|(simp only[firstArgMember];rfl)) ?_];erw[wpAny_newObj_type ?_ (by size_fits)];simp only[raiseNew];apply Sa;apply wpAny_handled;rw[show A.in1.handled=none from v];erw[Sa (Sb ?_)];apply wpAny_throw;apply Sa;erw[wpAny_isInstance (T := "StopIteration") (b:=true) ⟨_,Se _ R,R⟩ isSubtype_stop ?_];apply Sb;exact u _ (((Heap.SameBut.update ..).extBut.push _).push _)
def Zhd(G:A.handled=none)(I d:Addr)(J:d≠I)(j:Array DictEntry)(B:Nat) :
  Walks prog w A I [I,d] [I] j.size (λi v=>∃e,j[i]? = some e/\e.key=v) (λi h=>h.IsKeyIter I d i j.size B/\Vh h d j B) where
 sub:=λb c=>by simp at c;simp[c]
 frame:=λ_ _ _ st C=>⟨st.1.at λo e=>C I (by simp) o e,st.2.at λo e=>C d (by simp) o e⟩
 item:=λi s Q E u st f=>qL st.1 st.2 u λq H y=>f _ q s.toks ⟨_,Array.getElem?_eq_getElem u,R⟩ ⟨H,st.2.at λo e=>y.extBut d o J e⟩ λb o c e=>y.extBut b o (λh=>c (by simp[h])) e
 done:=λs Q E st f=>qM G st.1 st.2 λq D=>f q s.toks λb o c e=>D b o (λh=>c (by simp[h])) e
 self:=λ_ _ _ _ st f=>wpAny_pyIter_keyiter st.1 f
def NN{c:List (List Zn×V)}(x:Ym P w H h d (.dT c)):c.length<=sizeLine/\(d==sysModules)=false/\∃j y,Vh h d j y/\j.size=c.length/\(c.map (·.1)).Nodup/\∀(i:Nat) (f:List Zn×V),c[i]? = some f->∃(e:DictEntry) (b:Addr),j[i]? = some e/\e.key=.ref b/\H b=some (.tup (f.1.map kV)):=by
 ext⟨G,M,u,pr,o,j,y,e,ex,L,B,nd⟩ x;have D:∀{c:List (List Zn×V)} {u:List (List Zn×Addr×Value)},Paired (λ(p:List Zn×V) (q:List Zn×Addr×Value)=>p.1=q.1/\H q.2.1=some (.tup (p.1.map kV))/\ZG p.2 q.2.2) c u->u.length=c.length/\c.map (·.1)=u.map (·.1)/\∀(i:Nat) (f:List Zn×V),c[i]? = some f->∃q:List Zn×Addr×Value,u[i]? = some q/\H q.2.1=some (.tup (f.1.map kV)):=λpr=>by
  induction pr with
  |nil=>exact⟨R,R,λi f z=>by cases z⟩
  |cons a _ v =>
   erw[⟨by rw[SA,SA,v.1],by rw[SO,SO,v.2.1,a.1],λi f z=>?_⟩];cases i with
   |zero=>cases z;exact⟨_,R,a.2.1⟩
   |succ i=>exact v.2.2 i f z
 obtain⟨l1,l2,C⟩:=D pr;erw[⟨G,M,j,y,⟨o,e,ex,L⟩,by rw[<-Array.length_toList,B,Sx,l1],by rw[l2];exact nd,λi f I=>?_⟩];obtain⟨q,J,E⟩:=C i f I;exact⟨_,q.2.1,by rw[<-Array.getElem?_toList,B,Oc,J];rfl,R,E⟩
def Qk(d:Addr)(ob:Obj)(c:List (List Zn×V)):It :=
 ⟨λi H=>H d=some (.frz ob (.dT c))/\i<c.length,λi H v f=>f=H/\∃e b,c[i]? = some e/\v=.ref b/\H b=some (.tup (e.1.map kV)),λi H=>H d=some (.frz ob (.dT c))/\i=c.length⟩
def NO{ob:Obj}{h:List (List Zn×V)}(I:Zb X pins v H s)(e:H d=some (.frz ob (.dT h))) :
  (d==sysModules)=false/\∃c f,Vh s.heap d c f/\ob.data=.dict c f/\c.size=h.length/\∀(i:Nat) (kv:List Zn×V),h[i]? = some kv->∃(e:DictEntry) (b:Addr),c[i]? = some e/\e.key=.ref b/\H b=some (.tup (kv.1.map kV)):=by
 obtain⟨y,ok⟩:=I.hok d _ e;obtain⟨_,C,c,f,j,u,_,B⟩:=NN ok;obtain⟨o,q,E,D⟩:=id j;rw[y]at q;cases q;exact⟨C,c,f,j,D,u,B⟩
def Zhe{tg:Expr}(d it:Addr)(ob:Obj)(X:List (List Zn×V))(h0:d≠it) :
  QA P w K tg (Qk d ob X) [it] it (λi h=>∃f c,h.IsKeyIter it d i X.length f/\ob.data=.dict c f) where
 mem:=by simp
 obj:=λi h st b q=>by
  ext⟨f,c,⟨o,j,v,hd⟩,_⟩ st;rw[SG.mp q];exact⟨o,j,λg0 z=>by rw[hd]at z;cases z⟩
 keep:=λi h h' st kk=>by
  ext⟨f,c,⟨o,j,v⟩,hd⟩ st;exact⟨f,c,⟨o,kk it (by simp) _ j,v⟩,hd⟩
 item:=by
  intro b0 D S C v i pins s σ H c0 I y st U;subst D S C;ext⟨f,c,j,hd⟩ st;ext⟨J,L⟩ U;obtain⟨hs,G,O,hm,u,B,hk⟩:=NO I J;rw[hd]at u;obtain⟨rfl,rfl⟩:c=G/\f=O:=by injection u with a b;exact⟨a,b⟩
  obtain⟨x,hx⟩:∃x,X[i]? = some x:=⟨_,Sv L⟩;obtain⟨e,b,e1,e2,e3⟩:=hk i x hx;rw[<-B]at j;obtain⟨M,E,f2,Y,T,Q⟩:=y it (by simp);erw[qL j hm () λZ a0 sb=>?_];have e4:c[i].key=.ref b:=by
   rw[Array.getElem?_eq_getElem ()]at e1;rwa[Sr e1]
  rw[e4];have I1:Zb b0 pins σ H {s with heap:=Z}:=I.turned (t':=s.toks) (λb o q e=>(sb.2 b q).trans e) M E Y T Q;obtain⟨o,e,d0,d'⟩:=id a0;exact⟨_,R,Q5 (s:={s with heap:=Z}) e d0 d' () ⟨.ref b,H,I1,R,⟨R,x,b,hx,R,e3⟩,⟨f,c,by rwa[<-B],hd⟩,λb q=>(y b q).1⟩⟩
 done:=by
  intro b0 D S C v i pins s σ H c0 I y st U;subst D S C;ext⟨f,c,j,hd⟩ st;ext⟨J,L⟩ U;obtain⟨hs,G,O,hm,u,B,hk⟩:=NO I J;rw[hd]at u;obtain⟨rfl,rfl⟩:c=G/\f=O:=by injection u with a b;exact⟨a,b⟩
  obtain⟨M,E,f2,Y,T,Q⟩:=y it (by simp);subst L;rw[<-B]at j;exact qM (I.ok.hd v) j hm λh' eb=>⟨R,I.turned (t':=s.toks) (λb o q e=>eb b o q e) M E Y T Q⟩
 self:=λA i s e0 c0 st h=>by
  ext⟨f,c,j,_⟩ st;exact wpAny_pyIter_keyiter j h
inductive Zhf(R:It->Hp->Prop)(x:V)(H1:Hp):Prop|mk d ob kvs (_:x=.ref d) (_:H1 d=some (.frz ob (.dT kvs))) (_:((kvs.map (·.1)).Nodup->R (Qk d ob kvs) H1))
def Zhg(e:TE):TI:=λh H c=>e h H λx f=>Zhf c x f
def qN{B o:Expr}{j:TE}(G:PE X o j):PI X B o (Zhg j):=by
 intro pins s D H S I h;erw[Zs (G pins s D H _ I h) λv f ⟨x,M,c,r1,P⟩=>?_];ext⟨d,ob,O,rfl,hd,q⟩ P;cases r1;obtain⟨L,y,J,hm,E,C,Q⟩:=NO c hd;obtain⟨_,_,_,_,_,_,nd,_⟩:=NN (c.hok d _ hd).2;erw[qK L hm ?_];erw[⟨f.heap.objs.size,[f.heap.objs.size],_,_,M,R,c.kept (t':=f.toks) (λb o e=>Sc _ e),Zhe d _ ob O (Sg hm.lt),⟨J,y,⟨_,Se _ R,R,by rw[C];rfl⟩,E⟩,λb u=>?_,q nd⟩];have i:f.heap.objs.size<=b:=by rw[SG.mp u];exact Sh _
 exact c.fpOk i (c.hok.fresh i)
def Zhh{d:Addr}{ob:Obj}{f:List (List Zn×V)}{g:TG}{G:TS}{D:Wz}{c:St}(h:Nat->St->Hp->Prop)(L:h 0 c H)(M:∀i c H,i<=f.length->h i c H->H d=some (.frz ob (.dT f)))
  (P:∀i u b c H,f[i]? = some u->H b=some (.tup (u.1.map kV))->h i c H->g (.ref b) c H λB C=>G {D with nx:=h (i+1),ct:=h (i+1),bk:=D.nx} B C) (hd:∀c H,h f.length c H->D.nx c H) :
  ∃W:Nat->Nat->St->Hp->Prop,(∃m,W 0 m c H)/\∀i m c H,W i m c H ->
   ((Qk d ob f).stop i H/\D.nx c H)\/((Qk d ob f).go i H/\∃N:St->Hp->Prop,(∀v j,N v j->∃E,E<m/\W (i+1) E v j)/\∀x j,(Qk d ob f).yld i H x j->g x c j λB C=>G {D with nx:=N,ct:=N,bk:=D.nx} B C):=by
 erw[⟨λi m c H=>m=f.length - i/\i<=f.length/\h i c H,⟨f.length,by simp,Sl _,L⟩,?_⟩];rintro i m c H ⟨rfl,O,p⟩;have q:=M i c H O p;by_cases I:i<f.length;erw[.inr ⟨⟨q,I⟩,h (i+1),λv j n=>⟨f.length - (i+1),(),R,I,n⟩,λx j y=>?_⟩];ext⟨rfl,u,b,Q,rfl,J⟩ y;exact P i u b c j Q J p;have e:i=f.length:=by lia
 subst e;exact .inl ⟨⟨q,R⟩,hd c H p⟩
open PySem PySem.Spec PyProof.Rows PySem.W
def Zhi{d:Addr}{ob:Obj}{f:List (List Zn×V)}{g:TG}{tt:TT}{M:TE}{P:St}{Q:VK}(u:Nat->List V->St->Hp->Prop)(T:u 0 [] P H)(hz:f.length<=sizeLine)(U:∀i c v H,i<=f.length->u i c v H->H d=some (.frz ob (.dT f)))
  (Y:∀i G b c v H,c.length<=i->f[i]? = some G->H b=some (.tup (G.1.map kV))->u i c v H->g (.ref b) v H λj I=>tt j I λb D=>if b=true then M j D λy J=>(c++[y]).length<=i+1/\u (i+1) (c++[y]) j J else c.length<=i+1/\u (i+1) c j D)
  (hd:∀c v H,c.length<=f.length->u f.length c v H->Ut Q c H) :
  ∃W:Nat->Nat->List V->St->Hp->Prop,(∃m,W 0 m [] P H)/\∀i m c B H,W i m c B H ->
   ((Qk d ob f).stop i H/\Ut Q c H) \/
   ((Qk d ob f).go i H/\c.length<sizeLine/\∃N:List V->St->Hp->Prop,(∀C E h,N C E h->∃L,L<m/\W (i+1) L C E h)/\∀x h,(Qk d ob f).yld i H x h->g x B h λj I=>tt j I λb D=>if b=true then M j D λy J=>N (c++[y]) j J else N c j D):=by
 erw[⟨λi m c v H=>m=f.length - i/\i<=f.length/\c.length<=i/\u i c v H,⟨f.length,by simp,Sl _,Sl _,T⟩,?_⟩];rintro i m c B H ⟨rfl,X,ha,p⟩;have q:=U i c B H X p;by_cases O:i<f.length;erw[.inr ⟨⟨q,O⟩,(),λC E h=>C.length<=i+1/\u (i+1) C E h,λC E h z=>⟨f.length - (i+1),(),R,O,z.1,z.2⟩,λa0 h y=>?_⟩];ext⟨rfl,G,b,Z,rfl,S⟩ y;exact Y i G b c B h ha Z S p;have e:i=f.length:=by lia
 subst e;exact .inl ⟨⟨q,R⟩,hd c B H ha p⟩
section
variable{d:Addr}{es:Array DictEntry}{ep:Nat}
def Zhj(lo:(d==sysModules)=false):KdlSrc prog w "dict" d d es.size (λi v=>∃e,es[i]? = some e/\e.key=v) (λh=>Vh h d es ep) where
 type:=λ_ hm=>hm.typeIs
 there:=λ_ hm=>⟨hm.lt,hm.lt⟩
 keep:=λ_ _ hm j=>hm.at λo e=>j d (.inl R) o e
 notList:=by lia
 notTuple:=by lia
 hint:=λ_ _ _ _ hm c=>kdl_hint_dict hm.typeIs c
 iter:=λ_ _ f hm=>⟨_,_,(λ_ _ c=>qK lo hm c),Zhd f _ d (Sg hm.lt) es ep,⟨⟨_,Se _ R,R,R⟩,hm.at λ_ e=>Sc _ e⟩⟩
def Zhk{P:Nat->Value->Prop}(K:KdlSrc prog w T r d n P i)(B:A.handled=none)(hok:i s.heap)(hn:n<=sizeLine)
  (h:∀h' tk (us:OE),(∀b o,s.heap.get? b=some o->h'.get? b=some o)->us.length=n->(∀j v,us[j]? = some v->P j v)->Q us {s with heap:=h',toks:=tk}) :
  wpAny (model prog w) A (collect (.ref r)) Q E s:=by
 have q:=K.there _ hok;have C:∀(f:Result->Shared->Prop),(∀h' tk c y,(∀b o,b≠s.heap.objs.size->(s.heap.push (seqObj "list" #[] 0)).get? b=some o->h'.get? b=some o)->h'.get? s.heap.objs.size=some {cls:=.type "list",dict:=none,data:=.seq c y,slots:=#[]}->ItemsOf P c n->f (.ok (.ret (.ref s.heap.objs.size))) {s with heap:=h',toks:=tk}) ->
   codeAny (model prog w) A (.builtin "list.__iadd__" ⟨[.ref s.heap.objs.size,.ref r],[]⟩) f {s with heap:=s.heap.push (seqObj "list" #[] 0)}:=λf D =>
  codeAny_builtin entry_list_iadd' (kdl_extend (A:=A) (s:={s with heap:=s.heap.push (seqObj "list" #[] 0)}) K B (K.keep _ _ hok λb _ o e=>Sc _ e) _ (Nat.ne_of_gt q.1) (Nat.ne_of_gt q.2) _ 0 (Se _ R) D hn)
 unfold collect;erw[Sa (wpAny_runValue (codeAny_builtin entry_proto_collect' ?_))];show wpAny _ _ (do again (.builtin "list.__iadd__" ⟨[<-newList [],.ref r],[]⟩)) _ _ s;erw[Sa (wpAny_newList (Sb ⟨Code.quiet_builtin _ (),C _ λh' tk c y G I u=>?_⟩))];have kp:∀b o,s.heap.get? b=some o->h'.get? b=some o:=λb o e=>G b o (Sg (Sf e)) (Sc _ e);show wpAny (model prog w) A (do
   let o <-load s.heap.objs.size
   match o.data with
   |.seq H _=>pure H.toList
   |_=>unsupported "internal:collect") Q E {s with heap:=h',toks:=tk}
 erw[Sa (Ot I ?_)];show wpAny _ _ (pure c.toList) Q E _;exact Sb (h h' tk c.toList kp (by rw[Array.length_toList];exact u.1) λj v e=>u.2 j v (by rwa[<-Array.getElem?_toList]))
end
def Zhl(hc:X.calm=true):YT X (.builtin "sorted") (λxs H Q=>∃(d:Addr) (c:List (List Zn×V)) (kf:Nat->List (Sum Int (List Nat))) (sh:List Bool),xs=[.ref d]/\H d=some (.dT c)/\c.length<64/\(∀(i:Nat) (f:List Zn×V),c[i]? = some f->WQ (f.1.map kV) (kf i))/\(∀i,i<c.length->(kf i).map Wf=sh)/\sh≠[]/\((c.map (·.1)).Nodup->(∀i j,i<c.length->j<c.length->kf i=kf j->i=j) /\
  ∀(is:OJ) (ys:List V) (l:Addr),ys.length=c.length->(∀(i:Nat) (f:List Zn×V),c[i]? = some f->∃b,ys[i]? = some (.ref b)/\H b=some (.tup (f.1.map kV)))->Vv kf c.length is->H l=none->Q (.ref l) (Za H l (.lst (is.map λi=>ys.getD i .non))))):=by
 intro pins s S H xs h Q I r b0;ext⟨p,c,kf,sh,rfl,hd,j0,hx,f0,h0,e0⟩ b0;obtain⟨a0,rfl,rx⟩:=XF r;cases rx;obtain⟨hz,hs,es,ep,hE,i0,nd,Z⟩:=NN (I.hok p _ hd);obtain⟨hR,c0⟩:=e0 nd;erw[Calls.call_function_entry kind_sorted plain_sorted entry_sorted (args_sorted1 _) ?_];unfold Builtin.«sorted»;erw[Sa (m:=checkCount "sorted" 1 1 _) (Sb ?_)];erw[Sa (Zhk (Zhj hs) (I.ok.hd hc) hE () λu tk h kp y hP=>?_)];rw[i0]at y;have C:Zb X pins S H {s with heap:=u,toks:=tk}:=I.kept (t':=tk) kp;obtain⟨ys,v,B⟩:∃ys:List V,ZB ys h/\∀(i:Nat) (f:List Zn×V),c[i]? = some f->∃b,ys[i]? = some (.ref b)/\H b=some (.tup (f.1.map kV)):=by
  have:∀(h:OE) (c:List (List Zn×V)),h.length=c.length->(∀(i:Nat) (f:List Zn×V),c[i]? = some f->∃b,h[i]? = some (.ref b)/\H b=some (.tup (f.1.map kV)))->∃ys:List V,ZB ys h/\∀(i:Nat) (f:List Zn×V),c[i]? = some f->∃b,ys[i]? = some (.ref b)/\H b=some (.tup (f.1.map kV)):=by
   intro h;induction h with
   |nil=>intro c e _;cases c with
    |nil=>exact⟨[],.nil,λi f z=>by cases z⟩
    |cons _ _=>cases e
   |cons a0 h ih=>intro c e g;cases c with
    |nil=>cases e
    |cons f c =>
     obtain⟨b,J,E⟩:=g 0 f R;cases J;obtain⟨ys,v,B⟩:=ih c (Nat.succ.inj e) λi f z=>g (i+1) f z;erw[⟨.ref b::ys,.cons R v,λi U z=>?_⟩];cases i with
     |zero=>cases z;exact⟨b,R,E⟩
     |succ i=>exact B i U z
  erw[this h c y λi f z=>?_];obtain⟨e,b,J,e2,e3⟩:=Z i f z;have q:i<h.length:=by rw[y];exact(Su.mp z).1
  obtain⟨e',L,d0⟩:=hP i _ (Sv q);rw[J]at L;cases L;exact⟨b,by rw[Sv q,<-d0,e2],e3⟩
 have hlen:=v.length;have hn:ys.length=c.length:=by lia
 erw[Sa (wpAny_newList ?_ (by rw[sizeLine_eq];lia))];have M:=Se u (o:=seqObj "list" h.toArray 0) R;have T:H u.objs.size=none:=C.hok.fresh (Sh _);have G:Y4 X pins H u.objs.size:=C.fpOk (Sh _) T;have I2:Zb X pins S H {s with heap:=u.push (seqObj "list" h.toArray 0),toks:=tk}:=C.kept (t':=tk) λb o e=>Sc _ e;erw[Sa (wpAny_holding (wpAny_call_entry slot_list_sort ⟨_,M,R⟩ entry_list_sort ?body (args_list_sort _)))]
 case body =>
  erw[ZgW (m:=0) (xs:=ys) I2 G M v () (λi k0 P=>?_) (λi q=>f0 i ()) h0 (λi j q hj=>hR i j () ()) λis g0 s' D I' g=>⟨_,R,Sb ⟨_,R,?_⟩⟩];have q:i<c.length:=by rw[<-hn];exact(Su.mp P).1
  obtain⟨b,O,E⟩:=B i _ (Sv q);rw[P]at O;cases O;exact⟨b,_,[],R,by rwa[Oe],hx i _ (Sv q),R⟩;rw[y]at D;have hm:∀i∈is,i<ys.length:=λi q=>by rw[hn];exact List.mem_range.mp (D.1.mem_iff.mp q)
  have Y:(is.map λi=>ys.getD i .non).length<=sizeLine:=by rw[Sx,D.1.length_eq,List.length_range];exact hz
  have new:Ym X.prog X.w (Za H u.objs.size (.lst (is.map λi=>ys.getD i .non))) s'.heap u.objs.size (.lst (is.map λi=>ys.getD i .non)):=⟨Y,_,g0,NK v hm,g⟩;exact⟨.ref _,_,I'.trackS G.1 g R (Heap.get?_none_of_le C.sz) G.2.2.2.2.2 new,R,c0 is ys _ hn B D T⟩
inductive NP(K:OA)(xs:List V)(H:Hp)(Q:VK):Prop|mk (a:Addr) (d:PyData) (_:xs=[.ref a]) (_:DV K H (.ref a) d) (_:d.depth<=60) (_:d.weight<=2 ^ 20) (_:d.intsShort 13=true) (_:d.showable=true) (_:Q (.str d.shown) H)
def qO(i:Yh k X.A):YT X (.type "str") (NP X.K):=by
 intro pins s P H J L Q I r h;ext⟨a,d,rfl,c,G,C,B,v,q⟩ h;obtain⟨u,rfl,D⟩:=XF r;cases D;obtain⟨M,E⟩:=c.reads I R;have f:=c.can;have y:PyData.layable0 d=true:=by
  show(PyData.canLay0 d && decide (PyData.depth d<=64) && decide (PyData.weight d<=2 ^ 20))=true;rw[f,SS (show d.depth<=64 by lia),SS C];rfl
 erw[str_of_reads E v (λz=>by rw[PyData.hasDict_of_canLay _ f]at z;cases z) i.gd (by have:=i.un;lia) (λ_ _ e=>e) (λO u tk j=>⟨.str _,H,I.kept (t':=tk) j,⟨_,R⟩,q⟩) (Si (shown_le13 y B) ())]
inductive Zhm(K:OA)(Q:VK)(x:V)(st:Option Int)(H2:Hp):Prop|mk a xs ys (_:(st=some 1/\ys=xs\/st=some (-1)/\ys=xs.reverse)) (_:x=.ref a) (_:Zg K H2 a xs) (_:∀p,H2 p=none->Q (.ref p) (Za H2 p (.lst ys)))
def Zhn(K:OA)(e:TE)(h:TO):TE:=λc H Q=>e c H λx f=>h c f λst i=>Zhm K Q x st i
def qP{e st:Expr}{j:TE}{v:TO}{L:Pos}(P:PE X e j)(U:PO X (some st) v):PE X (.Subscript e (.Slice none none (some st) L) pos) (Zhn X.K j v):=by
 intro pins s i H a0 I h;erw[Subscript_ (Zs (P pins s i H _ I h) λb0 S ⟨x,Q,M,r1,Y⟩=>?_)];erw[wpAny_Slice ?_];rw[evalPart_none];erw[Sb (Sb ?_)];erw[Zs (U pins S i Q _ M Y) λB s2 ⟨Z,O,J,ZM,D⟩=>?_];ext⟨a,y,C,G,rfl,E,q⟩ D;cases r1;have c:Zb X pins i O {s2 with heap:=s2.heap.push {cls:=.type "slice",data:=.fields #[.none,.none,B]} }:=J.kept (t':=s2.toks) λb ob q=>Sc _ q;obtain⟨its,r,f,u⟩:=c.list E;have hlen:=r.length;erw[tail_any (ops:=[.ref a,.ref s2.heap.objs.size]) (T := "list") f.isList.typeIs slot_list_getitem.lookup ?_ (by with_unfolding_all rfl)];rcases G with⟨rfl,rfl⟩|⟨rfl,rfl⟩;erw[wpAny_getItem_list_slice f.isList (Heap.IsSliceOf.new ..) .none .none ZM (by simp) ?_ (by rw[SQ]<;>omega)];rw[show slicePick its.toArray none none (some 1)=slicePick its.toArray none none none from R,slicePick_all];erw[⟨.ref _,_,c.laid (t':=s2.toks) (o:=.lst C) (λb ob q=>Sc _ q) (Sh _) ?_,R,q _ (c.hok.fresh (Sh _))⟩];exact⟨u,its,0,r,Se _ R⟩;erw[wpAny_getItem_list_slice f.isList (Heap.IsSliceOf.new ..) .none .none ZM (by simp) ?_ (by rw[SQ]<;>omega)];rw[W.krv_pick];erw[⟨.ref _,_,c.laid (t':=s2.toks) (o:=.lst y.reverse) (λb ob q=>Sc _ q) (Sh _) ?_,R,q _ (c.hok.fresh (Sh _))⟩];exact⟨by rwa[List.length_reverse],its.reverse,0,uI r,Se _ R⟩
end L2
namespace K1
open PySem L2
structure Y7(lt:Addr)(q:Str)(H:Hp):Prop where
 ex:∃ps,H lt=some (.tbl ps)/\TriplesOk ps.toList/\∀pos v,codeAmong pos ps.toList=some v->∃a,v=.ref a/\H a=some (Ws a q)
def Y7.at(h:Y7 lt q H):∃c,H lt=some (.tbl c):=let ⟨c,e,_⟩:=h.ex;⟨c,e⟩
def Y7.keep(k1:∀f,H lt=some (.tbl f)->i lt=some (.tbl f))(k2:∀a,H a=some (Ws a q)->i a=some (Ws a q))(h:Y7 lt q H):Y7 lt q i:=let ⟨f,e,t,c⟩:=h.ex;⟨f,k1 _ e,t,λj v e=>let ⟨a,ea,ha⟩:=c j v e;⟨a,ea,k2 _ ha⟩⟩
def Y7.same(s:Zd H c)(h:Y7 lt q H):Y7 lt q c:=h.keep (λ_=>s _ _) λ_=>s _ _
def Y7.nil(h:H lt=some (.tbl #[])):Y7 lt q H:=⟨#[],h,trivial,λ_ _ e=>by cases e⟩
def Zho:∀{l:OE},TriplesOk l->TriplesOk (l++[rawInt a,rawInt b,c]):=by
 intro l;induction l using TriplesOk.induct with
 |case1=>exact λ_=>trivial
 |case2 i tok j f hd rest u =>
  intro h;rw[TriplesOk.eq_2]at h;show TriplesOk (Value.int i tok::Value.int j f::hd::(rest++_));rw[TriplesOk.eq_2];exact u h
 |case3 t q e =>
  intro h;rw[TriplesOk.eq_3 t q e]at h;exact h.elim
def Zhp:∀{l:OE},TriplesOk l->∀v,codeAmong pos (l++[rawInt a,rawInt b,c])=some v->codeAmong pos l=some v\/v=c:=by
 intro l;induction l using TriplesOk.induct with
 |case1 =>
  intro _ v e;rw[show[]++[rawInt a,rawInt b,c]=[Value.int a 0,Value.int b 0,c] from R,codeAmong.eq_1]at e;split at e;exact .inr (Sr e).symm;cases e
 |case2 i tok j f hd rest y =>
  intro h v e;rw[TriplesOk.eq_2]at h;rw[show(Value.int i tok::Value.int j f::hd::rest)++[rawInt a,rawInt b,c]=Value.int i tok::Value.int j f::hd::(rest++[rawInt a,rawInt b,c])from R,codeAmong.eq_1]at e;rw[codeAmong.eq_1];split at e
  ·next hc=>rw[SY hc];exact .inl e
  ·next hc=>rw[SX hc];exact y h v e
 |case3 t u q =>
  intro h;rw[TriplesOk.eq_3 t u q]at h;exact h.elim
def Zhq{params:Arguments}{body:Expr}(h:Y7 lt q H)
  (k:∀(f c:Addr) (i:Value) (H':Hp),Zd (wo H lt) H'->Y7 lt q H'->H' f=some (Ud f q params body scope cl ((mg "__name__").getD .none) c i)->H' c=some (Ws c q)->Q (.ref f) H'):Lf lt mg q params body scope cl pos I H Q:=by
 ext⟨y,u,B,C⟩ h.ex;erw[⟨y,u,B,?_⟩];cases L:codeAmong pos y.toList with
 |none =>
  erw[.inl ⟨R,λf c i j D ne=>?_⟩];have nf:lt≠f:=Zu u j;have J:lt≠c:=Zu u D;have E:(Za (Za (Za H lt (.tbl (y ++ #[rawInt pos.line,rawInt pos.col,.ref c]))) c (Ws c q)) f (Ud f q params body scope cl ((mg "__name__").getD .none) c i)) c=some (Ws c q):=by
   rw[Ze (Ne.symm ne),Zj]
  have S:Zd (wo H lt) (Za (Za (Za H lt (.tbl (y ++ #[rawInt pos.line,rawInt pos.col,.ref c]))) c (Ws c q)) f (Ud f q params body scope cl ((mg "__name__").getD .none) c i)):=λa o e=>by
   obtain⟨n,e⟩:=Z0 e;rwa[Ze (Zu e j),Ze (Zu e D),Ze n]
  erw[k f c i _ S ⟨_,by rw[Ze nf,Ze J,Zj],?_,λpos' v e=>?_⟩ Zj E];rw[Array.toList_append];exact Zho B;rw[Array.toList_append]at e;rcases Zhp B v e with e|rfl;obtain⟨a,rfl,ha⟩:=C pos' v e;exact⟨a,R,S _ _ (Zy ha λz=>by rw[z,u]at ha;cases ha)⟩;exact⟨c,R,E⟩
 |some v =>
  obtain⟨c,rfl,G⟩:=C pos v L;erw[.inr ⟨c,R,λf i j=>?_⟩];have s:=Zx j (Ud f q params body scope cl ((mg "__name__").getD .none) c i);exact k f c i _ (WP.trans s) (h.same s) Zj (s _ _ G)
def Zhr(h:∀b o,cs b=some o->H b=none):unl cs (lent cs H)=H:=by
 funext b;cases q:cs b with
 |some o=>rw[QK q,h b o q]
 |none=>rw[Vf q,Xx q]
def qQ(h:∀b o,cs b=some o->H b=none)(s:Zd (lent cs H) c):Zd H (unl cs c):=λa o e=>by
 cases q:cs a with
 |some ob=>rw[h a ob q]at e;cases e
 |none=>rw[Vf q];exact s _ _ (by rwa[Xx q])
theorem qR:∀{cl:OB} {x y:Str} {c:Addr},(cl.map (·.2)).Nodup->cl.lookup x=some c->cl.lookup y=some c->x=y
 |[],_,_,_,_,h,_=>by cases h
 |(z,d)::r,x,y,c,nd,h1,f=>by
  rw[SO,On]at nd;rw[List.lookup_cons]at h1 f;have mem:∀{w:Str},r.lookup w=some c->c∈r.map (·.2):=λ{w} e=>SL.mpr ⟨(w,c),PySem.mem_of_lookup e,R⟩;cases j:x==z with
  |true =>
   rw[j]at h1;have q:d=c:=Sr h1;cases i:y==z with
   |true=>rw[eq_of_beq j,eq_of_beq i]
   |false=>rw[i]at f;exact Ov (mem f) (by rw[<-q];exact nd.1)
  |false =>
   rw[j]at h1;cases i:y==z with
   |true =>
    rw[i]at f;have u:d=c:=Sr f;exact Ov (mem h1) (by rw[<-u];exact nd.1)
   |false=>rw[i]at f;exact qR nd.2 h1 f
end K1
namespace L2
open PySem PySem.Spec PyProof.Rows
structure YL(K:OA)(mg:Oz)(x:Str)(st:Stmt)(ps:OF)(f:Addr)(d:OM):Prop where
 F:WC K x x st f d
 m:mg x=some (.ref f)
 b:XY K d ps []
structure DM(K:OA)(x:Str)(st:Stmt)(f:Addr)(d:OM):Prop where
 a:W.nsIn K mainGlobals x=some (some (.ref f))
 F:WC K x x st f d
def YS{h:Heap}{x:Str}{st:Stmt}{i:OF}{f:Addr}{d:OM}(X:K.In h)(G:h.Ns mainGlobals mg)(p:DM K x st f d)
  (j:∀(us:OE),us.length=i.length->∀(kV q u:Value) (an:OI) (cdv ct:Value),bindArgs (W.fnOf x x (QG st) (Va st) (Zz st) .none kV q u an cdv ct) ⟨us,[]⟩=pure (i.zip us)):YL K mg x st i f d :=
 ⟨p.F,W.mg_of X G p.a,p.F.binds λa b c d e g us l=>j us l a b c d e g⟩
structure Z8(K:OA)(C:Addr)(x q:Str)(st:Stmt)(ps:OF)(f:Addr)(d:OM):Prop where
 F:WC K x q st f d
 me:Yx K C x f
 b:XY K d ps []
structure MM(K:OA)(C:Addr)(x q:Str)(st:Stmt)(f:Addr)(d:OM):Prop where
 me:Yx K C x f
 F:WC K x q st f d
def Yb{C:Addr}{x q:Str}{st:Stmt}{h:OF}{f:Addr}{d:OM}(p:MM K C x q st f d)
  (i:∀(us:OE),us.length=h.length->∀(kV j u:Value) (an:OI) (cdv ct:Value),bindArgs (W.fnOf x q (QG st) (Va st) (Zz st) .none kV j u an cdv ct) ⟨us,[]⟩=pure (h.zip us)):Z8 K C x q st h f d :=
 ⟨p.F,p.me,p.F.binds λa b c d e g us l=>i us l a b c d e g⟩
def NQ{C:Addr}{cd:ClassData}(c:W.clsIn K C=some cd)(g1:W.findIn K (.ref C) "__getattribute__"=some (some (.builtin "BaseException.__getattribute__"))) (g2:W.findIn K (.ref C) "__getattr__"=some none) (g3:W.findIn K (.ref C) "__class__"=some (some (.builtin "object.__class__"))) (g4:W.mroIn K C (.type "object")=some true) (g5:W.mroIn K C (.type "BaseException")=some true) (g6:W.specialIn K (.builtin "object.__class__") "__get__"=some (some (.builtin "getset_descriptor.__get__"))) (g7:W.takesIn K (.builtin "object.__class__")=some true):XI K C:=⟨by rw[c];rfl,g1,g2,g3,g4,g5,g6,g7⟩
def KX(K:OA)(C:Addr):List (Addr×Bool)->Prop
 |[]=>True
 |p::L=>W.kitOne K (.ref C) (.ref p.1)=some p.2/\KX K C L
def NR{C:Addr}:KX K C []:=trivial
def Yd{C D:Addr}{b:Bool}{L:List (Addr×Bool)}(h:W.kitOne K (.ref C) (.ref D)=some b)(r:KX K C L):KX K C ((D,b)::L):=⟨h,r⟩
def ZF{N P:OF}{i:Scope}(h:(decide (i.kind=.function) && !i.isCoroutine && !i.isGenerator && decide N.Nodup && decide (N.take P.length=P) && P.all (λx=>decide (i.names.lookup x=some .local\/i.names.lookup x=some .cell)) && i.names.all (λy=>decide (y.2≠.free)))=true):ZC N P i:=by
 simp only[Bool.and_eq_true,decide_eq_true_eq,Bool.not_eq_true',List.all_eq_true]at h;ext⟨⟨⟨⟨⟨⟨a,b⟩,c⟩,d⟩,e⟩,f⟩,g⟩ h;exact⟨a,b,c,d,e,f,g⟩
section
variable{CX:XX}{k j:Nat}{f C:Addr}{fd:OM}{ps:OF}{sp:Sp}{E:XK}{x m q:Str}{st:Stmt}{e o:Expr}{es:OG}{t:TA}{ta:TE}{p apos:Pos}
def ZE(D:YL X.K X.mg x st ps f fd)(F:Zo X.prog X.w X.K X.mg X.base CX k f fd ps sp)(B:Yh j X.A)(u:WK CX X E)(ha:PA X (e::es) t)(v:k<=j:=by lia)(i:Gl X x:=by rfl)(h:(x==("__debug__" : Str))=false:=by lia) (c:starEach (e::es) X.env=(false,eval e X.env)::starEach es X.env:=by rfl) (y:(backTo pos (starEach es X.env)).any (·.1)=false:=by rfl) :
  PE X (.Call (.Name x p) (e::es) [] pos) (MW sp [] E t):=Vq F (B.mono v) i D.m D.F.kp D.b .nil u ha h c y
end
inductive Lo(K:OA)(xs:List V)(H:Hp)(Q:VK):Prop|mk (a C D:Addr) (b:Bool) (_:xs=[.ref a,.ref D]) (_:H a=some (Wq a (.ref C))) (_:XI K C) (_:W.kitOne K (.ref C) (.ref D)=some b) (_:Q (.bl b) H)
def Wt(h:X.K=K:=by rfl):YT X (.builtin "isinstance") (Lo K):=by
 subst h;intro pins s c H j e Q I r ⟨a,C,D,b,i,v,u,f,q⟩;exact Ze0 pins s c H j e Q I r ⟨a,C,D,b,i,v,u,f,q⟩
inductive qS(K:OA)(xs:List V)(H:Hp)(Q:VK):Prop|mk (a C:Addr) (T:String) (b:Bool) (_:xs=[.ref a,.ty T]) (_:H a=some (Wq a (.ref C))) (_:XI K C) (_:W.kitOne K (.ref C) (.type T)=some b) (_:Q (.bl b) H)
def Zhs(h:X.K=K:=by rfl):YT X (.builtin "isinstance") (qS K):=by
 subst h;intro pins s c H j e Q I r ⟨a,C,T,b,i,v,u,f,q⟩;exact Ze1 pins s c H j e Q I r ⟨a,C,T,b,i,v,u,f,q⟩
def kx:X.nox.K=X.K:=rfl
def ky{CX:XX}{N:OF}{q:Str}{c:Scope}{f:Addr}{cd:Value}{o:List Env}{E:XK}:(WL CX P w K mg base N q c f cd A o s H E).K=K:=rfl
def Sq1{c:TS}{D:Wz}{e:St}(h:let d:=D;let f:=c d;let s:=e;f s H):(c) D e H:=h
def Gq1{e:TS}{D:Wz}{c:St}{i:Nat}{x:V}(h:let d:=D;let f:=e d;let s:=c.set i (some x);f s H):XE i x c H (λc H=>(e) D c H):=h
def Sq2(h:let d:=D;let f:=t2 d;let i:=e {d with nx:=f};let s:=c;i s H):(ZW e t2) D c H:=h
def Gq2{c:St}(h:let d:=D;let f:=t2 d;let j:=e {d with nx:=f};let s:=c.set i (some x);j s H):XE i x c H (λc H=>(ZW e t2) D c H):=h
def Sq3(h:let d:=D;let j:=f d;let i:=t2 {d with nx:=j};let q:=e {d with nx:=i};let s:=c;q s H):(ZW e (ZW t2 f)) D c H:=h
def Gq3{c:St}(h:let d:=D;let q:=f d;let j:=t2 {d with nx:=q};let u:=e {d with nx:=j};let s:=c.set i (some x);u s H):XE i x c H (λc H=>(ZW e (ZW t2 f)) D c H):=h
def Sq4(h:let d:=D;let u:=c d;let q:=i {d with nx:=u};let j:=t2 {d with nx:=q};let v:=f {d with nx:=j};let s:=e;v s H):(ZW f (ZW t2 (ZW i c))) D e H:=h
def Sq5(h:let d:=D;let y:=j d;let v:=c {d with nx:=y};let u:=i {d with nx:=v};let q:=t2 {d with nx:=u};let B:=f {d with nx:=q};let s:=e;B s H):(ZW f (ZW t2 (ZW i (ZW c j)))) D e H:=h
def Sq6(h:let d:=D;let y:=f d;let C:=q {d with nx:=y};let B:=c {d with nx:=C};let v:=j {d with nx:=B};let u:=t2 {d with nx:=v};let E:=i {d with nx:=u};let s:=e;E s H):(ZW i (ZW t2 (ZW j (ZW c (ZW q f))))) D e H:=h
def Sq7(h:let d:=D;let B:=q d;let E:=f {d with nx:=B};let G:=u {d with nx:=E};let C:=c {d with nx:=G};let y:=j {d with nx:=C};let v:=t2 {d with nx:=y};let I:=i {d with nx:=v};let s:=e;I s H):(ZW i (ZW t2 (ZW j (ZW c (ZW u (ZW f q)))))) D e H:=h
def Gq7{c:St}(h:let d:=D;let C:=u d;let G:=f {d with nx:=C};let I:=v {d with nx:=G};let E:=e {d with nx:=I};let B:=q {d with nx:=E};let y:=t2 {d with nx:=B};let J:=j {d with nx:=y};let s:=c.set i (some x);J s H):XE i x c H (λc H=>(ZW j (ZW t2 (ZW q (ZW e (ZW v (ZW f u)))))) D c H):=h
def Sq10(h:let d:=D;let J:=q d;let E:=f {d with nx:=J};let O:=B {d with nx:=E};let C:=y {d with nx:=O};let G:=u {d with nx:=C};let I:=e {d with nx:=G};let M:=i {d with nx:=I};let L:=c {d with nx:=M};let P:=t2 {d with nx:=L};let Q:=v {d with nx:=P};let s:=j;Q s H):(ZW v (ZW t2 (ZW c (ZW i (ZW e (ZW u (ZW y (ZW B (ZW f q))))))))) D j H:=h
def Sq11(h:let d:=D;let I:=c d;let M:=u {d with nx:=I};let G:=i {d with nx:=M};let Q:=C {d with nx:=G};let E:=B {d with nx:=Q};let J:=v {d with nx:=E};let L:=f {d with nx:=J};let P:=j {d with nx:=L};let O:=e {d with nx:=P};let S:=t2 {d with nx:=O};let T:=y {d with nx:=S};let s:=q;T s H):(ZW y (ZW t2 (ZW e (ZW j (ZW f (ZW v (ZW B (ZW C (ZW i (ZW u c)))))))))) D q H:=h
def Sq13{E : TS}(h:let d:=D;let M:=y d;let L:=e {d with nx:=M};let O:=c {d with nx:=L};let S:=v {d with nx:=O};let J:=j {d with nx:=S};let X:=G {d with nx:=J};let I:=E {d with nx:=X};let P:=B {d with nx:=I};let Q:=i {d with nx:=P};let U:=q {d with nx:=Q};let T:=f {d with nx:=U};let Y:=t2 {d with nx:=T};let Z:=C {d with nx:=Y};let s:=u;Z s H):(ZW C (ZW t2 (ZW f (ZW q (ZW i (ZW B (ZW E (ZW G (ZW j (ZW v (ZW c (ZW e y)))))))))))) D u H:=h
section
variable{a b c e o i:Expr}{es:OG}{ta tb td ty te:TE}{t:TA}{r:R2}{op:CmpOp}{pos' p:Pos}{x:Str}
def Zk(h1:PE X f h)(n1:Xe f=true:=by rfl):PA X [f] (Yj h Y5):=(YH h1 Xs n1)
def Zp(h1:PE X h j)(q:PE X f t2)(n1:Xe h=true:=by rfl)(n2:Xe f=true:=by rfl):PA X [h,f] (Yj j (Yj t2 Y5)):=(YH h1 (YH q Xs n2) n1)
def Yk(h1:PE X h q)(y:PE X f t2)(B:PE X j u)(n1:Xe h=true:=by rfl)(n2:Xe f=true:=by rfl)(v:Xe j=true:=by rfl):PA X [h,f,j] (Yj q (Yj t2 (Yj u Y5))):=(YH h1 (YH y (YH B Xs v) n2) n1)
def Uw(h1:PE X j v)(D:PE X h t2)(G:PE X q y)(E:PE X f u)(n1:Xe j=true:=by rfl)(n2:Xe h=true:=by rfl)(B:Xe q=true:=by rfl)(C:Xe f=true:=by rfl):PA X [j,h,q,f] (Yj v (Yj t2 (Yj y (Yj u Y5)))):=(YH h1 (YH D (YH G (YH E Xs C) B) n2) n1)
def NT{E : TE}(h1:PE X q E)(O:PE X f t2)(M:PE X v y)(I:PE X j C)(P:PE X u B)(J:PE X h D)(n1:Xe q=true:=by rfl)(n2:Xe f=true:=by rfl)(H:Xe v=true:=by rfl)(Q:Xe j=true:=by rfl)(G:Xe u=true:=by rfl)(L:Xe h=true:=by rfl):PA X [q,f,v,j,u,h] (Yj E (Yj t2 (Yj y (Yj C (Yj B (Yj D Y5)))))):=(YH h1 (YH O (YH M (YH I (YH P (YH J Xs L) G) Q) H) n2) n1)
def pa7{E H : TE}(h1:PE X u G)(Q:PE X h t2)(P:PE X y B)(L:PE X q D)(S:PE X v C)(M:PE X j E)(T:PE X f H)(n1:Xe u=true:=by rfl)(n2:Xe h=true:=by rfl)(J:Xe y=true:=by rfl)(U:Xe q=true:=by rfl)(I:Xe v=true:=by rfl)(O:Xe j=true:=by rfl)(Y:Xe f=true:=by rfl):PA X [u,h,y,q,v,j,f] (Yj G (Yj t2 (Yj B (Yj D (Yj C (Yj E (Yj H Y5))))))):=(YH h1 (YH Q (YH P (YH L (YH S (YH M (YH T Xs Y) O) I) U) J) n2) n1)
def Zw(h:VJ X r)(ha:PE X a ta)(f:PE X b tb)(j:xU b:=by exact λ_ _=>R):PE X (.Subscript a b pos) (W0 r ta tb):=xV h ha f j
def YI(f:Yh k X.A)(j:PE X o td)(hi:PE X i ty)(h:Nv i:=by exact λ_ _=>R):PE X (.Subscript o i pos) (uC td ty):=Zgg (Xk f) j hi h
def ZM(k:Nat)(u:X.N.Nodup)(f:PE X e te)(hi:X.N[k]? = some x:=by rfl)(j:Qz X.env.scope x:=by first|exact .inl rfl|exact .inr rfl)(q:swapsWith e (some (.Name x pos')) pos.line X.env=pure false:=by rfl)(h:X.fn x=true\/X.env.scope.names.lookup x=some .local:=by first|exact .inl rfl|exact .inr rfl|assumption):PS X (.Assign [.Name x pos'] e pos) (KG te (XE k)):=Zdw u hi j f q h
def Z4(k:Nat)(h:X.N.Nodup)(hi:X.N[k]? = some x:=by rfl)(f:Qz X.env.scope x:=by first|exact .inl rfl|exact .inr rfl)(j:X.fn x=true\/X.env.scope.names.lookup x=some .local:=by first|exact .inl rfl|exact .inr rfl|assumption):PG X (.Name x pos) (XE k):=MO h hi f j
def Xq{iter : Expr}{body:List Stmt}{tb:TS}(hi:PI X f iter h)(u:PG X f g)(j:XV X body tb)(v:PassesOwn (model X.prog X.w) X.A X.env X.xe:=by exact PassesOwn.never)(q:X.calm=true:=by rfl)(y:∀x,foldedSetIterable iter X.env x=pure x:=by intro _;rfl):PS X (.For f iter body [] pos) (yQ h g tb):=yR v q hi u j y
def Ys(j:YK X (compareOp op) r)(ha:PE X a ta)(f:PE X b tb)(h:op≠.In:=by lia)(q:op≠.NotIn:=by lia):PT X (.Compare a [op] [b] pos) (KN (W0 r ta tb)):=yW j ha f (Vo _ h q)
def ZP{id:String}{r:List V->Hp->VK->Prop}(h:YT X (.builtin id) r)(hm:X.mg x=none)(f:bootBuiltins x=some (.builtin id))(ha:PA X (e::es) t)(u:Gl X x:=by rfl)(hn:x ≠ "__name__" := by lia) (q:(x==("__debug__" : Str))=false:=by lia) (j:starEach (e::es) X.env=(false,eval e X.env)::starEach es X.env:=by rfl) (v:(backTo pos (starEach es X.env)).any (·.1)=false:=by rfl):PE X (.Call (.Name x p) (e::es) [] pos) (V6 r t):=xP h u hm f ha hn q j v
end
end L2
local macro_rules|`(tactic| sleep $n) => `(tactic| ((try dsimp only[L2.kx, L2.ky]); erw[$(Lean.mkIdent (.str (.str .anonymous "L2") (if n.getNat<99 then s!"Sq{n.getNat}" else s!"Gq{n.getNat-100}"))) ?_]; intros))
namespace K28
open PySem L2 K1
seal PySem.wpAny
def top(i:Nat):Stmt:=PySem.Challenge.pw_roadbook_k28_notices_stand.main.body.getD i (.Pass ⟨0,0,0,0⟩)
abbrev NU:Stmt:=top 23
def Zht:ZC ["value"] ["value"] (Zz NU):=ZF ()
abbrev NV:Stmt:=top 24
def Zhu:ZC ["value","least","most"] ["value","least","most"] (Zz NV):=ZF ()
abbrev NW:Stmt:=top 25
def Zhv:ZC ["value","least","most"] ["value","least","most"] (Zz NW):=ZF ()
abbrev NX:Stmt:=top 26
def Lp:ZC ["values","longest","least","most","floor","value"] ["values","longest","least","most"] (Zz NX):=ZF ()
abbrev NY:Stmt:=top 27
def Zhw:ZC ["value"] ["value"] (Zz NY):=ZF ()
abbrev NZ:Stmt:=top 28
def Zhx:ZC ["value","named"] ["value","named"] (Zz NZ):=ZF ()
abbrev N2:Stmt:=top 39
def Zhy:ZC ["rule"] ["rule"] (Zz N2):=ZF ()
abbrev N3:Stmt:=top 40
def Zhz:ZC ["rule"] ["rule"] (Zz N3):=ZF ()
abbrev N4:Stmt:=top 61
def ZhA:ZC ["name","named"] ["name","named"] (Zz N4):=ZF ()
abbrev N5:Stmt:=top 62
def qT:ZC ["kept","most"] ["kept","most"] (Zz N5):=ZF ()
abbrev N6:Stmt:=top 63
def ZhB:ZC ["calls"] ["calls"] (Zz N6):=ZF ()
abbrev N7:Stmt:=top 64
def ZhC:ZC ["call","ahead"] ["call","ahead"] (Zz N7):=ZF ()
abbrev N8:Stmt:=top 68
def ZhD:ZC ["calls","begin","late"] ["calls","begin","late"] (Zz N8):=ZF ()
abbrev N9:Stmt:=top 69
def qU:ZC ["calls","number"] ["calls"] (Zz N9):=ZF ()
abbrev Pa:Stmt:=top 72
def ZhE:ZC ["_law_script","_law_k"] ["_law_script","_law_k"] (Zz Pa):=ZF ()
abbrev Pb:Stmt:=top 73
def qV:ZC ["_law_cell","_law_k","_law_number"] ["_law_cell","_law_k"] (Zz Pb):=ZF ()
abbrev Pc:Stmt:=top 74
def Lq:ZC ["_law_seed","_law_k","_law_letters","_law_tail","_law_at"] ["_law_seed","_law_k"] (Zz Pc):=ZF ()
abbrev Pd:Stmt:=top 75
def B9:ZC ["_law_number","_law_deep","_law_more","_law_way","_law_starts","_law_inner"] ["_law_number","_law_deep"] (Zz Pd):=ZF ()
abbrev Pe:Stmt:=top 76
def qW:ZC ["_law_told"] ["_law_told"] (Zz Pe):=ZF ()
abbrev Pf:Stmt:=top 77
def Pg:ZC ["_law_told","_law_day","_law_one","_law_other"] ["_law_told","_law_day"] (Zz Pf):=ZF ()
abbrev Ph:Stmt:=top 78
def Ue:ZC ["_law_number","_law_stops","_law_many","_law_found","_law_time","_law_last","_law_k","_law_mixed_here","_law_left","_law_arrive","_law_leave"] ["_law_number","_law_stops","_law_many"] (Zz Ph):=ZF ()
abbrev Pi:Stmt:=top 79
def ZhF:ZC [] [] (Zz Pi):=ZF ()
abbrev Pj:Stmt:=top 80
def Vi:ZC ["_law_seed","_law_world_here","_law_names","_law_k","_law_stops","_law_pair","_law_mixed_here","_law_zones","_law_rules"] ["_law_seed"] (Zz Pj):=ZF ()
abbrev Pk:Stmt:=top 81
def Vw:ZC ["_law_world_here","_law_net","_law_name_here","_law_told","_law_pair","_law_one","_law_other","_law_minutes"] ["_law_world_here"] (Zz Pk):=ZF ()
abbrev Pl:Stmt:=top 82
def Uf:ZC ["_law_call","e","_law_found"] ["_law_call"] (Zz Pl):=ZF ()
abbrev Pm:Stmt:=top 83
def UV:ZC ["_law_world_here","_law_gaps","_law_trip","_law_day","_law_rule_here","_law_calls_here","_law_own","_law_found","_law_k","_law_stop","_law_arrive","_law_leave"] ["_law_world_here","_law_gaps","_law_trip","_law_day"] (Zz Pm):=ZF ()
abbrev Pn:Stmt:=top 84
def Ql:ZC ["_law_world_here","_law_gaps","_law_trip","_law_day","_law_way","_law_call","_law_minutes","_law_rule_here","_law_calls_here","_law_old","_law_fresh","_law_k","_law_leave"] ["_law_world_here","_law_gaps","_law_trip","_law_day","_law_way","_law_call","_law_minutes"] (Zz Pn):=ZF ()
abbrev Po:Stmt:=top 85
def I0:ZC ["_law_gaps","_law_found","_law_day","_law_trip","_law_own"] ["_law_gaps"] (Zz Po):=ZF ()
abbrev Pp:Stmt:=top 86
def Pq:ZC ["_law_notices","_law_gaps","_law_olds","_law_found","_law_row"] ["_law_notices","_law_gaps","_law_olds"] (Zz Pp):=ZF ()
abbrev Pr:Stmt:=top 87
def Lr:ZC ["_law_notices","_law_world_here","_law_gaps","_law_days_here","_law_turn","_law_olds","_law_trip","_law_day","_law_found"] ["_law_notices","_law_world_here","_law_gaps","_law_days_here","_law_turn","_law_olds"] (Zz Pr):=ZF ()
abbrev Ps:Stmt:=top 88
def ZhG:ZC ["_law_notices","_law_trip","_law_day","_law_way","_law_call","_law_minutes"] ["_law_notices","_law_trip","_law_day","_law_way","_law_call","_law_minutes"] (Zz Ps):=ZF ()
abbrev Pu:Stmt:=top 89
def Xy:ZC ["_law_script","_law_world_here","_law_net","_law_both","_law_gaps","_law_olds","_law_start","_law_days_here","_law_trips","_law_k","_law_cell","_law_mixed_here","_law_at","_law_trip","_law_way","_law_call","_law_minutes","_law_day","_law_due_here","_law_turn","_law_one"] ["_law_script"] (Zz Pu):=ZF ()
abbrev Pv:Stmt:=Ya (top 41) 0
def ZhH:ZC ["self"] ["self"] (Zz Pv):=ZF ()
abbrev Pw:Stmt:=Ya (top 41) 1
def ZhI:ZC ["self"] ["self"] (Zz Pw):=ZF ()
abbrev Px:Stmt:=Ya (top 41) 2
def ZhJ:ZC ["self","day"] ["self","day"] (Zz Px):=ZF ()
abbrev Py:Stmt:=Ya (top 41) 4
def qX:ZC ["self"] ["self"] (Zz Py):=ZF ()
abbrev Pz:Stmt:=Ya (top 41) 5
def qY:ZC ["self"] ["self"] (Zz Pz):=ZF ()
abbrev PB:Stmt:=Ya (top 42) 0
def ZhK:ZC ["self","bits"] ["self","bits"] (Zz PB):=ZF ()
abbrev PD:Stmt:=Ya (top 42) 1
def ZhL:ZC ["self"] ["self"] (Zz PD):=ZF ()
abbrev PF:Stmt:=Ya (top 42) 2
def ZhM:ZC ["self","day"] ["self","day"] (Zz PF):=ZF ()
abbrev PH:Stmt:=Ya (top 43) 0
def ZhN:ZC ["self","first","last","rule"] ["self","first","last","rule"] (Zz PH):=ZF ()
abbrev PJ:Stmt:=Ya (top 43) 1
def qZ:ZC ["self"] ["self"] (Zz PJ):=ZF ()
abbrev PL:Stmt:=Ya (top 43) 2
def ZhO:ZC ["self"] ["self"] (Zz PL):=ZF ()
abbrev PM:Stmt:=Ya (top 43) 3
def jA:ZC ["self","day"] ["self","day"] (Zz PM):=ZF ()
abbrev PN:Stmt:=Ya (top 44) 0
def ZhP:ZC ["self","length","starts"] ["self","length","starts"] (Zz PN):=ZF ()
abbrev PP:Stmt:=Ya (top 44) 1
def ZhQ:ZC ["self"] ["self"] (Zz PP):=ZF ()
abbrev PQ:Stmt:=Ya (top 44) 2
def ZhR:ZC ["self","day"] ["self","day"] (Zz PQ):=ZF ()
abbrev PR:Stmt:=Ya (top 45) 0
def ZhS:ZC ["self","one","other"] ["self","one","other"] (Zz PR):=ZF ()
abbrev PU:Stmt:=Ya (top 45) 1
def jB:ZC ["self"] ["self"] (Zz PU):=ZF ()
abbrev PV:Stmt:=Ya (top 45) 2
def ZhT:ZC ["self"] ["self"] (Zz PV):=ZF ()
abbrev PX:Stmt:=Ya (top 45) 3
def jC:ZC ["self","day"] ["self","day"] (Zz PX):=ZF ()
abbrev PY:Stmt:=Ya (top 46) 0
def ZhU:ZC ["self","one","other"] ["self","one","other"] (Zz PY):=ZF ()
abbrev PZ:Stmt:=Ya (top 46) 1
def jD:ZC ["self"] ["self"] (Zz PZ):=ZF ()
abbrev P0:Stmt:=Ya (top 46) 2
def ZhV:ZC ["self"] ["self"] (Zz P0):=ZF ()
abbrev P1:Stmt:=Ya (top 46) 3
def jE:ZC ["self","day"] ["self","day"] (Zz P1):=ZF ()
abbrev P2:Stmt:=Ya (top 47) 0
def ZhW:ZC ["self","days","rule"] ["self","days","rule"] (Zz P2):=ZF ()
abbrev P3:Stmt:=Ya (top 47) 1
def jF:ZC ["self"] ["self"] (Zz P3):=ZF ()
abbrev P4:Stmt:=Ya (top 47) 2
def ZhX:ZC ["self"] ["self"] (Zz P4):=ZF ()
abbrev P5:Stmt:=Ya (top 47) 3
def jG:ZC ["self","day"] ["self","day"] (Zz P5):=ZF ()
abbrev P6:Stmt:=Ya (top 65) 0
def ZhY:ZC ["self"] ["self"] (Zz P6):=ZF ()
abbrev P7:Stmt:=Ya (top 65) 2
def ZhZ:ZC ["self","name","zone","change"] ["self","name","zone","change"] (Zz P7):=ZF ()
abbrev P8:Stmt:=Ya (top 65) 3
def Zh0:ZC ["self","one","other","minutes"] ["self","one","other","minutes"] (Zz P8):=ZF ()
abbrev P9:Stmt:=Ya (top 65) 4
def jH:ZC ["self","name","rule","kept"] ["self","name","rule"] (Zz P9):=ZF ()
abbrev Ra:Stmt:=Ya (top 65) 5
def Zh1:ZC ["self","name","price","lasts","zones"] ["self","name","price","lasts","zones"] (Zz Ra):=ZF ()
abbrev Rb:Stmt:=Ya (top 65) 6
def Rc:ZC ["self","name","rule","calls","number","call"] ["self","name","rule","calls"] (Zz Rb):=ZF ()
abbrev Re:Stmt:=Ya (top 65) 7
def Zh2:ZC ["self","name"] ["self","name"] (Zz Re):=ZF ()
abbrev Rf:Stmt:=Ya (top 65) 8
def Zh3:ZC ["self","name"] ["self","name"] (Zz Rf):=ZF ()
abbrev Rg:Stmt:=Ya (top 65) 9
def Zh4:ZC ["self","call"] ["self","call"] (Zz Rg):=ZF ()
abbrev Rh:Stmt:=Ya (top 65) 10
def Zh5:ZC ["self","one","other"] ["self","one","other"] (Zz Rh):=ZF ()
abbrev Ri:Stmt:=Ya (top 65) 11
def Zh6:ZC ["self"] ["self"] (Zz Ri):=ZF ()
abbrev Rj:Stmt:=Ya (top 65) 15
def Zh7:ZC ["self"] ["self"] (Zz Rj):=ZF ()
abbrev Rk:Stmt:=Ya (top 65) 18
def Zh8:ZC ["self","name"] ["self","name"] (Zz Rk):=ZF ()
abbrev Rl:Stmt:=Ya (top 65) 20
def Zh9:ZC ["self","trip"] ["self","trip"] (Zz Rl):=ZF ()
abbrev Rm:Stmt:=Ya (top 65) 21
def Zia:ZC ["self","trip"] ["self","trip"] (Zz Rm):=ZF ()
abbrev Rn:Stmt:=Ya (top 70) 0
def jI:ZC ["self","net","trip"] ["self","net"] (Zz Rn):=ZF ()
abbrev Ro:Stmt:=Ya (top 70) 2
def Rp:ZC ["self","trip","day","call","minutes","calls","late"] ["self","trip","day","call","minutes"] (Zz Ro):=ZF ()
abbrev Rq:Stmt:=Ya (top 70) 3
def Zib:ZC ["self","trip","day"] ["self","trip","day"] (Zz Rq):=ZF ()
abbrev Rr:Stmt:=Ya (top 70) 4
def Zic:ZC ["self","trip","day"] ["self","trip","day"] (Zz Rr):=ZF ()
abbrev Rs:Stmt:=Ya (top 70) 5
def jJ:ZC ["self","trip","day"] ["self","trip","day"] (Zz Rs):=ZF ()
abbrev QM:Stmt:=Ya (top 70) 6
def JE:ZC ["self","rows","day","trip","late"] ["self"] (Zz QM):=ZF ()
abbrev Rt:Stmt:=Ya (top 70) 7
def jK:ZC ["self","trip","day","on_time"] ["self","trip","day"] (Zz Rt):=ZF ()
abbrev Ru:Stmt:=Ya (top 70) 8
def jL:ZC ["self","trip","day"] ["self","trip","day"] (Zz Ru):=ZF ()
abbrev Rv:Stmt:=Ya (top 70) 9
def Zid:ZC ["self","trip","day"] ["self","trip","day"] (Zz Rv):=ZF ()
abbrev Rx:Stmt:=Ya (top 70) 10
def Zie:ZC ["self","trip","day"] ["self","trip","day"] (Zz Rx):=ZF ()
def Zif:bootBuiltins "ValueError"=some (.type "ValueError"):=by lia
def Ls:bootBuiltins "all"=some (.builtin "all"):=by lia
def jM:bootBuiltins "any"=some (.builtin "any"):=by lia
def Zig:bootBuiltins "bool"=some (.type "bool"):=by lia
def X0:bootBuiltins "int"=some (.type "int"):=by lia
def YV:bootBuiltins "isinstance"=some (.builtin "isinstance"):=by lia
def Xh:bootBuiltins "len"=some (.builtin "len"):=by lia
def X1:bootBuiltins "list"=some (.type "list"):=by lia
def jN:bootBuiltins "max"=some (.builtin "max"):=by lia
def jO:bootBuiltins "set"=some (.type "set"):=by lia
def Lu:bootBuiltins "sorted"=some (.builtin "sorted"):=by lia
def Lv:bootBuiltins "str"=some (.type "str"):=by lia
def Zih:bootBuiltins "sum"=some (.builtin "sum"):=by lia
def Qm:bootBuiltins "tuple"=some (.type "tuple"):=by lia
set_option genInjectivity false in
structure Ye where
 jP:Addr
 jQ:FuncData
 jR:Addr
 jS:FuncData
 jT:Addr
 jU:FuncData
 jV:Addr
 jW:FuncData
 jX:Addr
 jY:FuncData
 jZ:Addr
 kA:FuncData
 Ry:Addr
 Rz:FuncData
 kB:Addr
 kC:FuncData
 kD:Addr
 kE:FuncData
 RA:Addr
 RB:FuncData
 kF:Addr
 kH:FuncData
 kI:Addr
 kJ:FuncData
 kK:Addr
 kL:FuncData
 kM:Addr
 kN:FuncData
 kO:Addr
 kP:FuncData
 kQ:Addr
 kR:FuncData
 kS:Addr
 kT:FuncData
 kU:Addr
 kW:FuncData
 kX:Addr
 kY:FuncData
 kZ:Addr
 gA:FuncData
 gB:Addr
 gC:FuncData
 gE:Addr
 gF:FuncData
 gG:Addr
 gH:FuncData
 gJ:Addr
 gK:FuncData
 gL:Addr
 gM:FuncData
 gN:Addr
 gO:FuncData
 gP:Addr
 gQ:FuncData
 gR:Addr
 gU:FuncData
 gW:Addr
 gX:FuncData
 gY:Addr
 gZ:FuncData
 Zaa:Addr
 RD:FuncData
 Zab:Addr
 Lw:FuncData
 RE:Addr
 RF:FuncData
 Lx:Addr
 Zac:FuncData
 RG:Addr
 RH:FuncData
 UW:Addr
 Zad:FuncData
 UX:Addr
 Zae:FuncData
 Ly:Addr
 RI:FuncData
 RJ:Addr
 RK:FuncData
 RL:Addr
 RM:FuncData
 Lz:Addr
 RN:FuncData
 RO:Addr
 RP:FuncData
 Zaf:Addr
 Zag:FuncData
 RQ:Addr
 RR:FuncData
 LA:Addr
 RS:FuncData
 RU:Addr
 RV:FuncData
 RW:Addr
 RX:FuncData
 LB:Addr
 RY:FuncData
 RZ:Addr
 R0:FuncData
 Zah:Addr
 Zai:FuncData
 R1:Addr
 R4:FuncData
 LD:Addr
 R6:FuncData
 R7:Addr
 R8:FuncData
 Zaj:Addr
 Zak:FuncData
 R9:Addr
 Ta:FuncData
 LF:Addr
 Tb:FuncData
 Tc:Addr
 Td:FuncData
 Zal:Addr
 Zam:FuncData
 Te:Addr
 Tf:FuncData
 Tg:Addr
 Zan:FuncData
 Zao:Addr
 Zap:FuncData
 Zaq:Addr
 Zar:FuncData
 Zas:Addr
 Zat:FuncData
 Zau:Addr
 Zav:FuncData
 Zaw:Addr
 Zax:FuncData
 Zay:Addr
 Zaz:FuncData
 ZaA:Addr
 ZaB:FuncData
 ZaC:Addr
 ZaD:FuncData
 ZaE:Addr
 ZaF:FuncData
 ZaG:Addr
 ZaH:FuncData
 ZaI:Addr
 ZaJ:FuncData
 ZaK:Addr
 ZaL:FuncData
 ZaM:Addr
 ZaN:FuncData
 ZaO:Addr
 ZaP:FuncData
 Th:Addr
 ZaQ:FuncData
 ZaR:Addr
 ZaS:FuncData
 ZaT:Addr
 ZaU:FuncData
 ZaV:Addr
 ZaW:FuncData
 Ti:Addr
 Tj:FuncData
 ZaX:Addr
 Tk:FuncData
 ZaY:Addr
 ZaZ:FuncData
 Tl:Addr
 Tn:FuncData
 Za0:Addr
 Za1:FuncData
 Za2:Addr
 Za3:FuncData
 JF:Addr
 JG:Addr
 JH:Addr
 JI:Addr
 JJ:Addr
 JK:Addr
 JL:Addr
 JM:Addr
 JN:Addr
 VT:Addr
 JO:Addr
 Vx:Addr
 JP:Addr
 WR:Addr
 JQ:Addr
 JR:Addr
 JS:Addr
 JT:Addr
 Xo:Addr
 Vy:Addr
 X2:Addr
 WS:Addr
 XO:Addr
 XQ:Addr
 Wu:Addr
 ZY:Addr
 YJ:Addr
 QN:Addr
 Yf:Addr
 JU:Addr
 YA:Addr
 LG:Addr
 WF:Addr
 kf:W.Frag
structure Zv(K:OA)(mg:Oz)(t:Ye):Prop where
 Zii:mg "ValueError"=none
 LH:mg "all"=none
 Za4:mg "any"=none
 Zij:mg "bool"=none
 Za5:mg "enumerate"=none
 X3:mg "int"=none
 YW:mg "isinstance"=none
 Xi:mg "len"=none
 X4:mg "list"=none
 Za6:mg "max"=none
 VU:mg "range"=none
 Za7:mg "set"=none
 LI:mg "sorted"=none
 LJ:mg "str"=none
 Zik:mg "sum"=none
 Qn:mg "tuple"=none
 Zil:mg "zip"=none
 Zim:∃tk,mg "LETTERS"=some (.str (ON "abcdefghijklmnopqrstuvwxyz") tk)
 Zin:∃tk,mg "MOST_LETTERS"=some (.int 8 tk)
 JV:∃tk,mg "LAST_DAY"=some (.int 9999 tk)
 Za8:∃tk,mg "DAY_MINUTES"=some (.int 1440 tk)
 Za9:∃tk,mg "LAST_MINUTE"=some (.int 2879 tk)
 Zio:∃tk,mg "WEEK_DAYS"=some (.int 7 tk)
 Zip:∃tk,mg "ALL_WEEK"=some (.int 127 tk)
 Ziq:∃tk,mg "MOST_LENGTH"=some (.int 28 tk)
 Zba:∃tk,mg "MOST_LISTED"=some (.int 12 tk)
 Zir:∃tk,mg "MOST_WEIGHT"=some (.int 15 tk)
 Zis:∃tk,mg "MOST_DEPTH"=some (.int 8 tk)
 Zit:∃tk,mg "MOST_STOPS"=some (.int 8 tk)
 Ziu:∃tk,mg "MOST_WALKS"=some (.int 12 tk)
 Ziv:∃tk,mg "MOST_RULES"=some (.int 6 tk)
 Ziw:∃tk,mg "MOST_TICKETS"=some (.int 3 tk)
 Zix:∃tk,mg "MOST_TRIPS"=some (.int 10 tk)
 To:∃tk,mg "LAST_ZONE"=some (.int 6 tk)
 Ziy:∃tk,mg "MOST_CHANGE"=some (.int 30 tk)
 Ziz:∃tk,mg "MOST_WALKED"=some (.int 60 tk)
 ZiA:∃tk,mg "MOST_PRICE"=some (.int 10000 tk)
 ZiB:∃tk,mg "MOST_LASTING"=some (.int 1440 tk)
 ZiC:∃tk,mg "LEAST_CALLS"=some (.int 2 tk)
 ZiD:∃tk,mg "MOST_CALLS"=some (.int 6 tk)
 ZiE:∃tk,mg "MOST_LATE"=some (.int 300 tk)
 Zbb:YL K mg "is_any_number" NU ["value"] t.jP t.jQ
 UY:YL K mg "is_number" NV ["value","least","most"] t.jR t.jS
 Ux:YL K mg "check_number" NW ["value","least","most"] t.jT t.jU
 LK:YL K mg "are_rising" NX ["values","longest","least","most"] t.jV t.jW
 Zbc:YL K mg "is_name" NY ["value"] t.jX t.jY
 QO:YL K mg "is_known" NZ ["value","named"] t.jZ t.kA
 UZ:YL K mg "copy_of" N2 ["rule"] t.Ry t.Rz
 JW:YL K mg "check_size" N3 ["rule"] t.kB t.kC
 JX:YL K mg "check_new" N4 ["name","named"] t.kD t.kE
 QP:YL K mg "check_room" N5 ["kept","most"] t.RA t.RB
 Zbd:YL K mg "have_calls_form" N6 ["calls"] t.kF t.kH
 Tq:YL K mg "can_follow" N7 ["call","ahead"] t.kI t.kJ
 LL:YL K mg "moved" N8 ["calls","begin","late"] t.kK t.kL
 Zbe:YL K mg "check_rising" N9 ["calls"] t.kM t.kN
 LM:YL K mg "_law_cell_at" Pa ["_law_script","_law_k"] t.kO t.kP
 VW:YL K mg "_law_mixed" Pb ["_law_cell","_law_k"] t.kQ t.kR
 Zbf:YL K mg "_law_name" Pc ["_law_seed","_law_k"] t.kS t.kT
 U0:YL K mg "_law_days" Pd ["_law_number","_law_deep"] t.kU t.kW
 Xz:YL K mg "_law_rule" Pe ["_law_told"] t.kX t.kY
 WH:YL K mg "_law_runs" Pf ["_law_told","_law_day"] t.kZ t.gA
 Zbg:YL K mg "_law_calls" Ph ["_law_number","_law_stops","_law_many"] t.gB t.gC
 LN:YL K mg "_law_world" Pi [] t.gE t.gF
 Zbh:YL K mg "_law_drawn" Pj ["_law_seed"] t.gG t.gH
 Zbi:YL K mg "_law_made" Pk ["_law_world_here"] t.gJ t.gK
 Vz:YL K mg "_law_said" Pl ["_law_call"] t.gL t.gM
 Zbj:YL K mg "_law_moments" Pm ["_law_world_here","_law_gaps","_law_trip","_law_day"] t.gN t.gO
 Zbk:YL K mg "_law_due" Pn ["_law_world_here","_law_gaps","_law_trip","_law_day","_law_way","_law_call","_law_minutes"] t.gP t.gQ
 Tr:YL K mg "_law_rows" Po ["_law_gaps"] t.gR t.gU
 Tt:YL K mg "_law_told_right" Pp ["_law_notices","_law_gaps","_law_olds"] t.gW t.gX
 Zbl:YL K mg "_law_stands" Pr ["_law_notices","_law_world_here","_law_gaps","_law_days_here","_law_turn","_law_olds"] t.gY t.gZ
 Zbm:YL K mg "_law_tell" Ps ["_law_notices","_law_trip","_law_day","_law_way","_law_call","_law_minutes"] t.Zaa t.RD
 Tu:YL K mg "law" Pu ["_law_script"] t.Zab t.Lw
 Tv:Z8 K t.Xo "copied" "Rule.copied" Pv ["self"] t.RE t.RF
 JY:Z8 K t.Xo "parts" "Rule.parts" Pw ["self"] t.Lx t.Zac
 Tw:Z8 K t.Xo "runs" "Rule.runs" Px ["self","day"] t.RG t.RH
 JZ:Z8 K t.Xo "weight" "Rule.weight" Py ["self"] t.UW t.Zad
 J0:Z8 K t.Xo "depth" "Rule.depth" Pz ["self"] t.UX t.Zae
 Tz:Z8 K t.Vy "__init__" "Week.__init__" PB ["self","bits"] t.Ly t.RI
 TB:Z8 K t.Vy "copied" "Week.copied" PD ["self"] t.RJ t.RK
 TC:Z8 K t.Vy "runs" "Week.runs" PF ["self","day"] t.RL t.RM
 TD:Z8 K t.X2 "__init__" "Span.__init__" PH ["self","first","last","rule"] t.Lz t.RN
 LO:Z8 K t.X2 "copied" "Span.copied" PJ ["self"] t.RO t.RP
 TF:Z8 K t.X2 "parts" "Span.parts" PL ["self"] t.Zaf t.Zag
 LP:Z8 K t.X2 "runs" "Span.runs" PM ["self","day"] t.RQ t.RR
 TH:Z8 K t.WS "__init__" "Each.__init__" PN ["self","length","starts"] t.LA t.RS
 TJ:Z8 K t.WS "copied" "Each.copied" PP ["self"] t.RU t.RV
 TK:Z8 K t.WS "runs" "Each.runs" PQ ["self","day"] t.RW t.RX
 TL:Z8 K t.XO "__init__" "Either.__init__" PR ["self","one","other"] t.LB t.RY
 LQ:Z8 K t.XO "copied" "Either.copied" PU ["self"] t.RZ t.R0
 TM:Z8 K t.XO "parts" "Either.parts" PV ["self"] t.Zah t.Zai
 LR:Z8 K t.XO "runs" "Either.runs" PX ["self","day"] t.R1 t.R4
 TN:Z8 K t.XQ "__init__" "Both.__init__" PY ["self","one","other"] t.LD t.R6
 LS:Z8 K t.XQ "copied" "Both.copied" PZ ["self"] t.R7 t.R8
 TQ:Z8 K t.XQ "parts" "Both.parts" P0 ["self"] t.Zaj t.Zak
 LU:Z8 K t.XQ "runs" "Both.runs" P1 ["self","day"] t.R9 t.Ta
 TR:Z8 K t.Wu "__init__" "But.__init__" P2 ["self","days","rule"] t.LF t.Tb
 LV:Z8 K t.Wu "copied" "But.copied" P3 ["self"] t.Tc t.Td
 TU:Z8 K t.Wu "parts" "But.parts" P4 ["self"] t.Zal t.Zam
 LW:Z8 K t.Wu "runs" "But.runs" P5 ["self","day"] t.Te t.Tf
 Zbn:Z8 K t.ZY "__init__" "Net.__init__" P6 ["self"] t.Tg t.Zan
 TV:Z8 K t.ZY "add_stop" "Net.add_stop" P7 ["self","name","zone","change"] t.Zao t.Zap
 TW:Z8 K t.ZY "add_walk" "Net.add_walk" P8 ["self","one","other","minutes"] t.Zaq t.Zar
 J2:Z8 K t.ZY "add_rule" "Net.add_rule" P9 ["self","name","rule"] t.Zas t.Zat
 TX:Z8 K t.ZY "add_ticket" "Net.add_ticket" Ra ["self","name","price","lasts","zones"] t.Zau t.Zav
 J3:Z8 K t.ZY "add_trip" "Net.add_trip" Rb ["self","name","rule","calls"] t.Zaw t.Zax
 QQ:Z8 K t.ZY "check_stop" "Net.check_stop" Re ["self","name"] t.Zay t.Zaz
 J4:Z8 K t.ZY "check_trip" "Net.check_trip" Rf ["self","name"] t.ZaA t.ZaB
 TY:Z8 K t.ZY "check_call" "Net.check_call" Rg ["self","call"] t.ZaC t.ZaD
 TZ:Z8 K t.ZY "has_walk" "Net.has_walk" Rh ["self","one","other"] t.ZaE t.ZaF
 J5:Z8 K t.ZY "stops" "Net.stops" Ri ["self"] t.ZaG t.ZaH
 T0:Z8 K t.ZY "trips" "Net.trips" Rj ["self"] t.ZaI t.ZaJ
 T1:Z8 K t.ZY "rule" "Net.rule" Rk ["self","name"] t.ZaK t.ZaL
 T4:Z8 K t.ZY "rule_name" "Net.rule_name" Rl ["self","trip"] t.ZaM t.ZaN
 T5:Z8 K t.ZY "calls" "Net.calls" Rm ["self","trip"] t.ZaO t.ZaP
 T6:Z8 K t.YJ "__init__" "Notices.__init__" Rn ["self","net"] t.Th t.ZaQ
 T7:Z8 K t.YJ "late" "Notices.late" Ro ["self","trip","day","call","minutes"] t.ZaR t.ZaS
 T9:Z8 K t.YJ "out" "Notices.out" Rq ["self","trip","day"] t.ZaT t.ZaU
 zA:Z8 K t.YJ "back" "Notices.back" Rr ["self","trip","day"] t.ZaV t.ZaW
 C0:Z8 K t.YJ "moments" "Notices.moments" Rs ["self","trip","day"] t.Ti t.Tj
 J6:Z8 K t.YJ "told" "Notices.told" QM ["self"] t.ZaX t.Tk
 U1:Z8 K t.YJ "late_minutes" "Notices.late_minutes" Rt ["self","trip","day"] t.ZaY t.ZaZ
 Qo:Z8 K t.YJ "check_day" "Notices.check_day" Ru ["self","trip","day"] t.Tl t.Tn
 J7:Z8 K t.YJ "check_runs" "Notices.check_runs" Rv ["self","trip","day"] t.Za0 t.Za1
 J8:Z8 K t.YJ "check_goes" "Notices.check_goes" Rx ["self","trip","day"] t.Za2 t.Za3
 J9:YG K t.Xo
 zB:Ni K t.Xo
 Qp:YG K t.Vy
 Zbo:Mk K t.Vy t.Ly
 ZiF:Yx K t.Vy "depth" t.UX
 ZiG:Yx K t.Vy "parts" t.Lx
 ZiH:Yx K t.Vy "weight" t.UW
 zC:Xc K t.Vy "bits"
 WT:YG K t.X2
 Zbp:Mk K t.X2 t.Lz
 ZiI:Yx K t.X2 "depth" t.UX
 ZiJ:Yx K t.X2 "weight" t.UW
 zD:Xc K t.X2 "first"
 zE:Xc K t.X2 "last"
 LX:Xc K t.X2 "inner"
 Ug:YG K t.WS
 Zbq:Mk K t.WS t.LA
 ZiK:Yx K t.WS "depth" t.UX
 ZiL:Yx K t.WS "parts" t.Lx
 ZiM:Yx K t.WS "weight" t.UW
 zF:Xc K t.WS "length"
 zG:Xc K t.WS "starts"
 VA:YG K t.XO
 Zbr:Mk K t.XO t.LB
 ZiN:Yx K t.XO "depth" t.UX
 ZiO:Yx K t.XO "weight" t.UW
 LY:Xc K t.XO "one"
 LZ:Xc K t.XO "other"
 VB:YG K t.XQ
 Zbs:Mk K t.XQ t.LD
 ZiP:Yx K t.XQ "depth" t.UX
 ZiQ:Yx K t.XQ "weight" t.UW
 L0:Xc K t.XQ "one"
 L8:Xc K t.XQ "other"
 VX:YG K t.Wu
 Zbt:Mk K t.Wu t.LF
 ZiR:Yx K t.Wu "depth" t.UX
 ZiS:Yx K t.Wu "weight" t.UW
 zH:Xc K t.Wu "days"
 Ma:Xc K t.Wu "inner"
 Yg:YG K t.ZY
 ZiT:Mk K t.ZY t.Tg
 C2:Xc K t.ZY "stop_rows"
 Mb:Xc K t.ZY "walk_rows"
 QR:Xc K t.ZY "rule_rows"
 Mc:Xc K t.ZY "ticket_rows"
 Qq:Xc K t.ZY "trip_rows"
 Yu:YG K t.YJ
 Zbu:Mk K t.YJ t.Th
 U2:Xc K t.YJ "timetable"
 Qr:Xc K t.YJ "taken"
 C3:Xc K t.YJ "lateness"
 ZiU:WD K t.Xo
 ZiV:W.kitOne K (.ref t.Xo) (.ref t.Xo)=some true
 ZiW:WD K t.Vy
 ZiX:W.kitOne K (.ref t.Vy) (.ref t.Xo)=some true
 ZiY:WD K t.X2
 ZiZ:W.kitOne K (.ref t.X2) (.ref t.Xo)=some true
 Zi0:WD K t.WS
 Zi1:W.kitOne K (.ref t.WS) (.ref t.Xo)=some true
 Zi2:WD K t.XO
 Zi3:W.kitOne K (.ref t.XO) (.ref t.Xo)=some true
 Zi4:WD K t.XQ
 Zi5:W.kitOne K (.ref t.XQ) (.ref t.Xo)=some true
 Zi6:WD K t.Wu
 Zi7:W.kitOne K (.ref t.Wu) (.ref t.Xo)=some true
 Zi8:mg "RoadError"=some (.ref t.JF)
 Zi9:mg "BadClock"=some (.ref t.JG)
 Zja:mg "BadRule"=some (.ref t.JH)
 Zjb:mg "TooMany"=some (.ref t.JI)
 Zjc:mg "BadName"=some (.ref t.JJ)
 Zjd:mg "Twice"=some (.ref t.JK)
 Zje:mg "NoStop"=some (.ref t.JL)
 Zjf:mg "NoRule"=some (.ref t.JM)
 Zjg:mg "NoTicket"=some (.ref t.JN)
 Zbv:mg "NoTrip"=some (.ref t.VT)
 Zjh:mg "BadNumber"=some (.ref t.JO)
 Zbw:mg "BadCalls"=some (.ref t.Vx)
 Zji:mg "BadRow"=some (.ref t.JP)
 zI:mg "NoRun"=some (.ref t.WR)
 Zjj:mg "NoPlan"=some (.ref t.JQ)
 Zjk:mg "TooLate"=some (.ref t.JR)
 Zjl:mg "NoTraveller"=some (.ref t.JS)
 Zjm:mg "BadLine"=some (.ref t.JT)
 Md:mg "Rule"=some (.ref t.Xo)
 Zbx:mg "Week"=some (.ref t.Vy)
 Zby:mg "Span"=some (.ref t.X2)
 Zbz:mg "Each"=some (.ref t.WS)
 ZbA:mg "Either"=some (.ref t.XO)
 ZbB:mg "Both"=some (.ref t.XQ)
 ZbC:mg "But"=some (.ref t.Wu)
 Zjn:mg "Net"=some (.ref t.ZY)
 ZbD:mg "Notices"=some (.ref t.YJ)
 ZbE:QH K t.WR
 Zjo:XI K t.WR
 Zjp:KX K t.WR [(t.JG,false),(t.JH,false),(t.JI,false),(t.JJ,false),(t.JK,false),(t.JL,false),(t.JM,false),(t.JN,false),(t.VT,false),(t.JO,false),(t.Vx,false),(t.JP,false),(t.WR,true),(t.JQ,false),(t.JR,false),(t.JT,false),(t.JS,false)]
 Zjq:W.kitOne K (.ref t.WR) (.type "ValueError")=some true
 Zjr:W.exmOne K (.ref t.WR) (.ref t.JF)=some true
 Zjs:QH K t.Vx
 Zjt:XI K t.Vx
 Zju:KX K t.Vx [(t.JG,false),(t.JH,false),(t.JI,false),(t.JJ,false),(t.JK,false),(t.JL,false),(t.JM,false),(t.JN,false),(t.VT,false),(t.JO,false),(t.Vx,true),(t.JP,false),(t.WR,false),(t.JQ,false),(t.JR,false),(t.JT,false),(t.JS,false)]
 Zjv:W.kitOne K (.ref t.Vx) (.type "ValueError")=some true
 Zjw:W.exmOne K (.ref t.Vx) (.ref t.JF)=some true
 Zjx:QH K t.VT
 Zjy:XI K t.VT
 Zjz:KX K t.VT [(t.JG,false),(t.JH,false),(t.JI,false),(t.JJ,false),(t.JK,false),(t.JL,false),(t.JM,false),(t.JN,false),(t.VT,true),(t.JO,false),(t.Vx,false),(t.JP,false),(t.WR,false),(t.JQ,false),(t.JR,false),(t.JT,false),(t.JS,false)]
 ZjA:W.kitOne K (.ref t.VT) (.type "ValueError")=some true
 ZjB:W.exmOne K (.ref t.VT) (.ref t.JF)=some true
 ZjC:t.Tk.code=.ref t.QN
 ZjD:W.codeHdIn K t.QN t.Yf=true
 ZjE:K.lookup t.Yf=none
 zJ:t.RD.code=.ref t.JU
 ZjF:W.codeHdIn K t.JU t.YA=true
 ZjG:K.lookup t.YA=none
 ZjH:t.Lw.code=.ref t.LG
 ZjI:W.codeHdIn K t.LG t.WF=true
 ZjJ:K.lookup t.WF=none
 ZjK:t.Yf≠t.YA
 ZjL:t.Yf≠t.WF
 ZjM:t.YA≠t.WF
 kf:t.kf=K
section
variable{t:Ye}
def Yv(z:Str):Prop:=1<=z.length/\z.length<=8/\(∀c∈z.cps.toList,97<=c/\c<=122)/\True
inductive ZjN(vs:List V)(H:Hp)(Q:VK)(_e3:XK):Prop|mk (v:V) (T:String) (_:vs=[v]) (_:Kd H v T) (_:Q (.bl (Ze7 v)) H)
def ZjO(c:Zv K mg t):Zo P w K mg base Zr 1 t.jP t.jQ ["value"] ZjN:=by
 erw[c.Zbb.F.ok Zht () λu A outer s H j Q E y h=>?_];ext⟨v,T,rfl,f,q⟩ h;erw[⟨_,(Zi (ZA (UG (ZP VN c.YW YV (Zp (pv 0) (Vr R c.X3 X0))) (Vl (yL (ZP VN c.YW YV (Zp (pv 0) (Vr R c.Zij Zig)))))))),?_⟩];sleep 1;erw[⟨_,R,v,"int",_,_,R,f.ty,Ze5 f,_,R,?_⟩];cases f with
 |non=>exact Zq () q
 |str x=>exact Zq () q
 |lst e=>exact Zq () q
 |tup e=>exact Zq () q
 |dK e=>exact Zq () q
 |bl b=>exact Z3 () ⟨_,R,_,"bool",_,_,R,(Kd.bl b).ty (H:=H),wS (H:=H) (.bl b),_,R,q⟩
 |int i=>exact Z3 () ⟨_,R,_,"bool",_,_,R,(Kd.int i).ty (H:=H),wS (H:=H) (.int i),_,R,q⟩
inductive ZjP(vs:List V)(H:Hp)(Q:VK)(_e3:XK):Prop|mk (v:V) (lo hi:Int) (T:String) (_:vs=[v,.int lo,.int hi]) (_:Kd H v T) (_:Q (.bl (F3 v lo hi)) H)
def Qs(j:Zv K mg t):Zo P w K mg base Zr 2 t.jR t.jS ["value","least","most"] ZjP:=by
 erw[j.UY.F.ok Zhu () λD A outer s H C Q E B h=>?_];ext⟨v,lo,f,T,rfl,y,q⟩ h;erw[⟨_,(Zi (ZA (UG (ZE j.Zbb (ZjO j) B Zm (Zk (pv 0))) (Vl (MT Vn Vn (pv 1) (pv 0) (pv 2)))))),?_⟩];sleep 1;erw[⟨_,R,v,T,R,y,_,R,?_⟩];cases y with
 |non=>exact Zq SR q
 |str x=>exact Zq SR q
 |lst e=>exact Zq SR q
 |tup e=>exact Zq SR q
 |dK e=>exact Zq SR q
 |bl b=>exact Zq SR q
 |int i =>
  erw[Z3 R ?_];erw[⟨_,R,_,R,_,_,R,R,_,R,?_⟩];erw[VL (λc=>?_) (λc=>?_)];erw[⟨_,R,_,_,R,R,?_⟩];have u:lo<=i:=SV c;have e:decide (i<=f)=F3 (.int i) lo f:=by
   show decide (i<=f)=decide (lo<=i/\i<=f);exact decide_eq_decide.mpr ⟨λz=>⟨u,z⟩,λz=>z.2⟩
  rw[<-e]at q;exact q;have u:¬ lo<=i:=SW (Oj.mpr c);have e:false=F3 (.int i) lo f:=by
   show false=decide (lo<=i/\i<=f);exact(SU λz=>u z.1).symm
  rw[<-e]at q;exact q
inductive ZjQ(vs:List V)(H:Hp)(Q:VK)(_e3:XK):Prop|mk (a:Addr) (ss:OJ) (n lo:Nat) (hi:Int) (_:vs=[.ref a,.int n,.int lo,.int hi]) (_:H a=some (.lst (YB ss))) (_:1<=ss.length) (_:ss.length<=n) (_:ss.Pairwise (· < ·)) (_:(∀x∈ss,lo<=x/\((x:Nat):Int)<=hi)) (_:Q (.bl true) H)
def zK(u:Zv K mg t):Zo P w K mg base Zr 3 t.jV t.jW ["values","longest","least","most"] ZjQ:=by
 erw[u.LK.F.ok Lp () λU A outer s H T Q E M h=>?_];ext⟨a,c,n,lo,L,rfl,ha,l1,l2,up,I,q⟩ h;erw[⟨_,(Zh (ZK (PW.pt (Uo (Yz (Yy (ZP VN u.YW YV (Zp (pv 0) (Vr R u.X4 X1))))) (Um (Yz (MU Vn Vn Zc (ZP Xt u.Xi Xh (Zk (pv 0))) (pv 1)))))) (Zi (ZA WA)) ZL) (Zh (ZM 4 Lp.nd (pv 2)) (Zh (Xq (Wo (pv 0)) (Z4 5 Lp.nd) (Zh (ZK (Yz (Yy (ZE u.UY (Qs u) M Zm (Yk (pv 5) (pv 4) (pv 3))))) (Zi (ZA WA)) ZL) (Zi (ZM 4 Lp.nd (Zf Z9 (pv 5) Zc))))) (Zi (ZA WA))))),?_⟩];sleep 4;have hlen:(YB c).length=c.length:=Sx ..;erw[⟨_,R,.ref a,"list",_,_,R,.lst ha,R,_,R,Zq () ?_⟩];erw[⟨_,R,a,_,R,.inl (Zg.of ha),_,_,R,R,_,R,Z3 (SS (by rw[hlen];lia)) ?_⟩];erw[⟨_,R,_,_,R,R,_,R,Zq (by rw[SS (show(((YB c).length:Nat):Int)<=(n:Int) by rw[hlen];lia)];lia) ?_⟩];sleep 1;refine⟨_,R,_,R,a,R,⟨_,Zg.of ha⟩,Qc (xs:=YB c) (λi D G=>G=H/\∃(f:Nat) (v:Option V),D=[some (.ref a),some (.int n),some (.int lo),some (.int L),some (.int (f:Nat)),v]/\∀j x,i<=j->c[j]? = some x->f<=x)
  ⟨R,lo,_,R,λj x _ e=>(I x (SM e)).1⟩ (λi D G _ ⟨e,_⟩=>by rw[e];exact Zg.of ha) ?_ ?_⟩
 rintro i x D G C ⟨rfl,f,v,rfl,J⟩;rw[Oc]at C;sleep 102;cases B:c[i]? with
 |none=>rw[B]at C;cases C
 |some m =>
  rw[B]at C;obtain rfl:V.int (m:Int)=x:=Sr C;have hm:=I m (SM B);have S:=J i m (Sh _) B;erw[⟨_,R,_,R,_,R,.int m,_,_,"int",R,.int _,_,R,Zq (by rw[Qi () hm.2];lia) ?_⟩];erw[⟨_,R,_,_,R,R,R,m+1,_,R,λj y O e=>?_⟩];have:=List.pairwise_iff_getElem.mp up i j (Su.mp B).1 (Su.mp e).1 ();rw[(Su.mp B).2,(Su.mp e).2]at this;exact this
 rintro D G ⟨rfl,f,v,rfl,_⟩;exact q
abbrev rc(t:Ye):RC:=⟨t.Xo,t.Vy,t.X2,t.WS,t.XO,t.XQ,t.Wu⟩
inductive WU(c:RC)(K:OA)(q:RT->Prop)(n:Nat)(vs:List V)(H:Hp)(Q:VK)(_e3:XK):Prop|mk (a:Addr) (r:RT) (d:Nat) (_:vs=[.ref a,.int d]) (_:ZT c K H a r) (_:q r) (_:r.depth<=n) (_:Q (.bl (r.runs d)) H)
def Me:RT->Prop|.always=>True|_=>False
def Mf:RT->Prop|.week _=>True|_=>False
def Ka:RT->Prop|.span _ _ _=>True|_=>False
def Mg:RT->Prop|.each _ _=>True|_=>False
def Kb:RT->Prop|.either _ _=>True|_=>False
def Kc:RT->Prop|.both _ _=>True|_=>False
def Ke:RT->Prop|.but _ _=>True|_=>False
structure QS(P:Program)(w:World)(K:OA)(mg:Oz)(base:Heap)(t:Ye)(n:Nat):Prop where
 rule:Zo P w K mg base Zr (n+1) t.RG t.RH ["self","day"] (WU (rc t) K Me n)
 week:Zo P w K mg base Zr (n+1) t.RL t.RM ["self","day"] (WU (rc t) K Mf n)
 span:Zo P w K mg base Zr (n+1) t.RQ t.RR ["self","day"] (WU (rc t) K Ka n)
 each:Zo P w K mg base Zr (n+1) t.RW t.RX ["self","day"] (WU (rc t) K Mg n)
 either:Zo P w K mg base Zr (n+1) t.R1 t.R4 ["self","day"] (WU (rc t) K Kb n)
 both:Zo P w K mg base Zr (n+1) t.R9 t.Ta ["self","day"] (WU (rc t) K Kc n)
 but:Zo P w K mg base Zr (n+1) t.Te t.Tf ["self","day"] (WU (rc t) K Ke n)
def QS.at(R:QS P w K mg base t n)(c:Zv K mg t){r:RT}(h:ZT (rc t) K H a r)(hn:r.depth<=n) :
  ∃(C B:Addr) (fs:List (Str×V)) (f:Addr) (fd:OM) (sp:Sp),H a=some (.ins C B fs)/\fs.lookup ("runs" : Str)=none/\YG K C/\Yx K C "runs" f/\Zo P w K mg base Zr (n+1) f fd ["self","day"] sp/\XY K fd ["self","day"] [] /\
   ∀(d:Nat) (Q:VK),Q (.bl (r.runs d)) H->sp [.ref a,.int (d:Nat)] H Q E0:=by
 cases h with
 |always h=>exact⟨_,_,_,_,_,_,h,rfl,c.J9,c.Tw.me,R.rule,c.Tw.b,λd Q q=>⟨a,_,d,rfl,.always h,trivial,hn,q⟩⟩
 |week h u=>exact⟨_,_,_,_,_,_,h,rfl,c.Qp,c.TC.me,R.week,c.TC.b,λd Q q=>⟨a,_,d,rfl,.week h u,trivial,hn,q⟩⟩
 |span h D v e=>exact⟨_,_,_,_,_,_,h,rfl,c.WT,c.LP.me,R.span,c.LP.b,λd Q q=>⟨a,_,d,rfl,.span h D v e,trivial,hn,q⟩⟩
 |each h E y j=>exact⟨_,_,_,_,_,_,h,rfl,c.Ug,c.TK.me,R.each,c.TK.b,λd Q q=>⟨a,_,d,rfl,.each h E y j,trivial,hn,q⟩⟩
 |either h e i=>exact⟨_,_,_,_,_,_,h,rfl,c.VA,c.LR.me,R.either,c.LR.b,λd Q q=>⟨a,_,d,rfl,.either h e i,trivial,hn,q⟩⟩
 |both h e i=>exact⟨_,_,_,_,_,_,h,rfl,c.VB,c.LU.me,R.both,c.LU.b,λd Q q=>⟨a,_,d,rfl,.both h e i,trivial,hn,q⟩⟩
 |but h j e=>exact⟨_,_,_,_,_,_,h,rfl,c.VX,c.LW.me,R.but,c.LW.b,λd Q q=>⟨a,_,d,rfl,.but h j e,trivial,hn,q⟩⟩
def ZbF(c:Zv K mg t)(n:Nat):Zo P w K mg base Zr (n+1) t.RG t.RH ["self","day"] (WU (rc t) K Me n):=by
 erw[c.Tw.F.ok ZhJ () λi A outer s H f Q E j h=>?_];ext⟨a,r,d,rfl,h,e,hn,q⟩ h;erw[⟨_,(Zi (ZA WA)),?_⟩];sleep 1;cases r<;>first|exact q|exact e.elim
def ZbG(c:Zv K mg t)(n:Nat):Zo P w K mg base Zr (n+1) t.RL t.RM ["self","day"] (WU (rc t) K Mf n):=by
 erw[c.TC.F.ok ZhM () λv A outer s H u Q E B h=>?_];ext⟨a,r,d,rfl,h,f,hn,q⟩ h;erw[⟨_,(Zi (ZA (WB YZ (Zf ZdO (Zf ZdN (ZJ (pv 0) R) (Zf ZZ (pv 1) (YR R c.Zio))) Zc) Zc (Vo _)))),?_⟩];sleep 1;cases h with
 |week h j =>
  rename_i y b;erw[⟨_,R,a,_,_,_,_,R,h,c.Qp,c.zC,R,_,R,_,_,R,R,(),_,_,R,R,Int.emod_nonneg _ (),_,_,R,R,R,?_⟩];have e:((d:Int)%7).toNat=d%7:=by lia
  have i:decide (V.int (Builtin.bitAnd ((b:Int)/2 ^ ((d:Int)%7).toNat) 1)=V.int 1)=(RT.week b).runs d:=by
   rw[e];have:=Zfc b (d%7);rw[VI];exact this
  rw[<-i]at q;exact q
 |_=>exact f.elim
def ZbH(c:Zv K mg t)(n:Nat):Zo P w K mg base Zr (n+1) t.RW t.RX ["self","day"] (WU (rc t) K Mg n):=by
 erw[c.TK.F.ok ZhR () λB A outer s H v Q E G h=>?_];ext⟨a,r,d,rfl,h,j,hn,q⟩ h;erw[⟨_,(Zi (ZA (WB KR (Zf ZZ (pv 1) (ZJ (pv 0) R)) (ZJ (pv 0) R) R))),?_⟩];sleep 1;cases h with
 |each h D y i =>
  rename_i C p m f;erw[⟨_,R,_,R,a,_,_,_,_,R,h,c.Ug,c.zF,R,_,_,R,R,(by show(0:Int)<_;lia),_,R,a,_,_,_,_,R,h,c.Ug,c.zG,R,p,_,R,.inr i,R,K5 f,?_⟩];have e:(d:Int)%(m:Int)=((d%m:Nat):Int):=by lia
  have u:Qd (.int ((d:Int)%(m:Int))) (YB f)=(RT.each m f).runs d:=by
   rw[e];exact F5 (d%m) f
  rw[<-u]at q;exact q
 |_=>exact j.elim
def ZjR(c:Zv K mg t)(n:Nat)(R:QS P w K mg base t n):Zo P w K mg base Zr (n+2) t.RQ t.RR ["self","day"] (WU (rc t) K Ka (n+1)):=by
 erw[c.LP.F.ok jA () λS A outer s H O Q E J h=>?_];ext⟨a,r,d,rfl,h,D,hn,q⟩ h;erw[⟨_,(Zi (ZA (UG (MT Vn Vn (ZJ (pv 0) rfl) (pv 1) (ZJ (pv 0) rfl)) (Vl (UO (ZJ (pv 0) rfl) (Zk (pv 1))))))),?_⟩];sleep 1;cases h with
 |span h L M G =>
  rename_i T i x y r;have hd:r.depth<=n:=by
   have:(RT.span x y r).depth=1+r.depth:=rfl;lia
  obtain⟨C,B,fs,f,I,sp,g1,g2,g3,g4,g5,g6,g7⟩:=R.at c G hd;erw[⟨_,rfl,a,_,_,_,_,rfl,h,c.WT,c.zD,rfl,?_⟩];have j:∀b:Bool,b=(decide (x<=d) && decide (d<=y) && r.runs d)->Q (.bl b) H:=λb e=>by rwa[e]
  erw[⟨_,rfl,_,_,rfl,rfl,_,rfl,?_⟩];by_cases u:x<=d;erw[Z3 (SS ()) ?_];erw[⟨_,rfl,a,_,_,_,_,rfl,h,c.WT,c.zE,rfl,_,_,rfl,rfl,_,rfl,?_⟩];by_cases v:d<=y;erw[Z3 (SS ()) ?_];erw[⟨_,rfl,a,_,_,_,_,rfl,h,c.WT,c.LX,rfl,i,C,B,fs,f,I,_,_,sp,Zr,E0,rfl,g1,g2,g3,g4,g5,J.mono (),g6,Zm,_,rfl,?_⟩];exact g7 d Q (j _ (by rw[SS u,SS v];rfl));erw[Zq (by rw[SU ()];lia) ?_];exact j _ (by rw[SU v,Bool.and_false,Bool.false_and]);erw[Zq (by rw[SU ()];lia) ?_];exact⟨_,rfl,Zq () (j _ (by rw[SU u,Bool.false_and,Bool.false_and]))⟩
 |_=>exact D.elim
def ZjS(c:Zv K mg t)(n:Nat)(R:QS P w K mg base t n):Zo P w K mg base Zr (n+2) t.R1 t.R4 ["self","day"] (WU (rc t) K Kb (n+1)):=by
 erw[c.LR.F.ok jC () λM A outer s H L Q E D h=>?_];ext⟨a,r,d,rfl,h,I,hn,q⟩ h;erw[⟨_,(Zi (ZA (MN (UO (ZJ (pv 0) rfl) (Zk (pv 1))) (Vl (UO (ZJ (pv 0) rfl) (Zk (pv 1))))))),?_⟩];sleep 1;cases h with
 |either h J G =>
  rename_i O i j r v;have hd:r.depth<=n/\v.depth<=n:=by
   have:(RT.either r v).depth=1+max r.depth v.depth:=rfl;lia
  obtain⟨C,y,fs,f,B,sp,g1,g2,g3,g4,g5,g6,g7⟩:=R.at c J hd.1;erw[⟨_,rfl,a,_,_,_,_,rfl,h,c.VA,c.LY,rfl,i,C,y,fs,f,B,_,_,sp,Zr,E0,rfl,g1,g2,g3,g4,g5,D.mono (),g6,Zm,_,rfl,g7 d _ ⟨_,rfl,?_⟩⟩];have u:Q (.bl (r.runs d || v.runs d)) H:=q;cases e:r.runs d with
  |true=>exact Z3 rfl (by rw[e]at u;exact u)
  |false =>
   erw[Zq () ?_];obtain⟨C,y,fs,f,B,sp,g1,g2,g3,g4,g5,g6,g7⟩:=R.at c G hd.2;erw[⟨_,rfl,a,_,_,_,_,rfl,h,c.VA,c.LZ,rfl,j,C,y,fs,f,B,_,_,sp,Zr,E0,rfl,g1,g2,g3,g4,g5,D.mono (),g6,Zm,_,rfl,g7 d _ ?_⟩];rw[e,Bool.false_or]at u;exact u
 |_=>exact I.elim
def ZjT(c:Zv K mg t)(n:Nat)(R:QS P w K mg base t n):Zo P w K mg base Zr (n+2) t.R9 t.Ta ["self","day"] (WU (rc t) K Kc (n+1)):=by
 erw[c.LU.F.ok jE () λM A outer s H L Q E D h=>?_];ext⟨a,r,d,rfl,h,I,hn,q⟩ h;erw[⟨_,(Zi (ZA (UG (UO (ZJ (pv 0) rfl) (Zk (pv 1))) (Vl (UO (ZJ (pv 0) rfl) (Zk (pv 1))))))),?_⟩];sleep 1;cases h with
 |both h J G =>
  rename_i O i j r v;have hd:r.depth<=n/\v.depth<=n:=by
   have:(RT.both r v).depth=1+max r.depth v.depth:=rfl;lia
  obtain⟨C,y,fs,f,B,sp,g1,g2,g3,g4,g5,g6,g7⟩:=R.at c J hd.1;erw[⟨_,rfl,a,_,_,_,_,rfl,h,c.VB,c.L0,rfl,i,C,y,fs,f,B,_,_,sp,Zr,E0,rfl,g1,g2,g3,g4,g5,D.mono (),g6,Zm,_,rfl,g7 d _ ⟨_,rfl,?_⟩⟩];have u:Q (.bl (r.runs d && v.runs d)) H:=q;cases e:r.runs d with
  |false=>exact Zq () (by rw[e]at u;exact u)
  |true =>
   erw[Z3 rfl ?_];obtain⟨C,y,fs,f,B,sp,g1,g2,g3,g4,g5,g6,g7⟩:=R.at c G hd.2;erw[⟨_,rfl,a,_,_,_,_,rfl,h,c.VB,c.L8,rfl,j,C,y,fs,f,B,_,_,sp,Zr,E0,rfl,g1,g2,g3,g4,g5,D.mono (),g6,Zm,_,rfl,g7 d _ ?_⟩];rw[e,Ow]at u;exact u
 |_=>exact I.elim
def ZjU(c:Zv K mg t)(n:Nat)(R:QS P w K mg base t n):Zo P w K mg base Zr (n+2) t.Te t.Tf ["self","day"] (WU (rc t) K Ke (n+1)):=by
 erw[c.LW.F.ok jG () λJ A outer s H I Q E G h=>?_];ext⟨a,r,d,rfl,h,y,hn,q⟩ h;erw[⟨_,(Zi (ZA (WB E5 (UO (ZJ (pv 0) rfl) (Zk (pv 1))) (WB KR (pv 1) (ZJ (pv 0) rfl) rfl) (Vo _)))),?_⟩];sleep 1;cases h with
 |but h v B =>
  rename_i L p i ds r;have hd:r.depth<=n:=by
   have:(RT.but ds r).depth=1+r.depth:=rfl;lia
  obtain⟨C,u,fs,f,D,sp,g1,g2,g3,g4,g5,g6,g7⟩:=R.at c B hd;erw[⟨_,rfl,a,_,_,_,_,rfl,h,c.VX,c.Ma,rfl,i,C,u,fs,f,D,_,_,sp,Zr,E0,rfl,g1,g2,g3,g4,g5,G.mono (),g6,Zm,_,rfl,g7 d _ ?_⟩];erw[⟨_,rfl,_,rfl,a,_,_,_,_,rfl,h,c.VX,c.zH,rfl,p,_,rfl,.inr v,rfl,K5 ds,rfl,?_⟩];have j:Q (.bl (r.runs d != ds.contains d)) H:=q;have e:(!decide (V.bl (r.runs d)=V.bl (Qd (.int (d:Int)) (YB ds))))=(r.runs d != ds.contains d):=by
   rw[F5,KL];rfl
  rw[<-e]at j;exact j
 |_=>exact y.elim
theorem ZbI(c:Zv K mg t):∀n,QS P w K mg base t n
 |0=>by
  have no:∀{q:RT->Prop},∀vs H Q E,WU (rc t) K q 0 vs H Q E->False:=λvs H Q E h=>by
   ext⟨a,r,d,rfl,h,j,hn,_⟩ h;have:=r.depth_pos;lia
  exact⟨ZbF c 0,ZbG c 0,
   c.LP.F.ok jA (λvs H Q E h=>(no vs H Q E h).elim) (λf A outer s H vs Q E i h=>(no vs H Q E h).elim),ZbH c 0,
   c.LR.F.ok jC (λvs H Q E h=>(no vs H Q E h).elim) (λf A outer s H vs Q E i h=>(no vs H Q E h).elim),
   c.LU.F.ok jE (λvs H Q E h=>(no vs H Q E h).elim) (λf A outer s H vs Q E i h=>(no vs H Q E h).elim),
   c.LW.F.ok jG (λvs H Q E h=>(no vs H Q E h).elim) (λf A outer s H vs Q E i h=>(no vs H Q E h).elim)⟩
 |n+1=>have e:=ZbI c n
  ⟨ZbF c (n+1),ZbG c (n+1),ZjR c n e,ZbH c (n+1),ZjS c n e,ZjT c n e,ZjU c n e⟩
def zL(c:RC)(K:OA)(H:Hp)(r:RT)(xs:List V):Prop:=match r with
 |.always|.week _|.each _ _=>xs=[]
 |.span _ _ r1|.but _ r1=>∃i,xs=[.ref i]/\ZT c K H i r1
 |.either r1 e|.both r1 e=>∃i j,xs=[.ref i,.ref j]/\ZT c K H i r1/\ZT c K H j e
inductive Kf(c:RC)(K:OA)(q:RT->Prop)(vs:List V)(H:Hp)(Q:VK)(_e3:XK):Prop|mk (a:Addr) (r:RT) (_:vs=[.ref a]) (_:ZT c K H a r) (_:q r) (_:∀p xs,H p=none->zL c K H r xs->Q (.ref p) (Za H p (.lst xs)))
def ZjV:RT->Prop|.always|.week _|.each _ _=>True|_=>False
def zM(c:Zv K mg t):Zo P w K mg base Zr 1 t.Lx t.Zac ["self"] (Kf (rc t) K ZjV):=by
 erw[c.JY.F.ok ZhI () λj A outer s H i Q E u h=>?_];ext⟨a,r,rfl,h,f,q⟩ h;erw[⟨_,(Zi (ZA (Z7 Xs))),?_⟩];sleep 1;erw[⟨zL9 R,λp e=>q p _ e ?_⟩];cases r<;>first|rfl|exact f.elim
def ZjW(c:Zv K mg t):Zo P w K mg base Zr 1 t.Zaf t.Zag ["self"] (Kf (rc t) K Ka):=by
 erw[c.TF.F.ok ZhO () λv A outer s H u Q E B h=>?_];ext⟨a,r,rfl,h,i,q⟩ h;erw[⟨_,(Zi (ZA (Z7 (Zk (ZJ (pv 0) R))))),?_⟩];sleep 1;cases h with
 |span h y j e=>exact⟨_,R,a,_,_,_,_,R,h,c.WT,c.LX,R,zL9 R,λp f=>q p _ f ⟨_,R,e⟩⟩
 |_=>exact i.elim
def ZjX(c:Zv K mg t):Zo P w K mg base Zr 1 t.Zal t.Zam ["self"] (Kf (rc t) K Ke):=by
 erw[c.TU.F.ok ZhX () λu A outer s H j Q E v h=>?_];ext⟨a,r,rfl,h,i,q⟩ h;erw[⟨_,(Zi (ZA (Z7 (Zk (ZJ (pv 0) R))))),?_⟩];sleep 1;cases h with
 |but h e f=>exact⟨_,R,a,_,_,_,_,R,h,c.VX,c.Ma,R,zL9 R,λp e=>q p _ e ⟨_,R,f⟩⟩
 |_=>exact i.elim
def ZjY(c:Zv K mg t):Zo P w K mg base Zr 1 t.Zah t.Zai ["self"] (Kf (rc t) K Kb):=by
 erw[c.TM.F.ok ZhT () λv A outer s H u Q E y h=>?_];ext⟨a,r,rfl,h,j,q⟩ h;erw[⟨_,(Zi (ZA (Z7 (Zp (ZJ (pv 0) R) (ZJ (pv 0) R))))),?_⟩];sleep 1;cases h with
 |either h e f=>exact⟨_,R,a,_,_,_,_,R,h,c.VA,c.LY,R,_,R,a,_,_,_,_,R,h,c.VA,c.LZ,R,zL9 R,λp i=>q p _ i ⟨_,_,R,e,f⟩⟩
 |_=>exact j.elim
def ZjZ(c:Zv K mg t):Zo P w K mg base Zr 1 t.Zaj t.Zak ["self"] (Kf (rc t) K Kc):=by
 erw[c.TQ.F.ok ZhV () λv A outer s H u Q E y h=>?_];ext⟨a,r,rfl,h,j,q⟩ h;erw[⟨_,(Zi (ZA (Z7 (Zp (ZJ (pv 0) R) (ZJ (pv 0) R))))),?_⟩];sleep 1;cases h with
 |both h e f=>exact⟨_,R,a,_,_,_,_,R,h,c.VB,c.L0,R,_,R,a,_,_,_,_,R,h,c.VB,c.L8,R,zL9 R,λp i=>q p _ i ⟨_,_,R,e,f⟩⟩
 |_=>exact j.elim
def ZbJ(c:Zv K mg t)(h:ZT (rc t) K H a r) :
  ∃(C B:Addr) (fs:List (Str×V)) (f:Addr) (fd:OM) (sp:Sp),H a=some (.ins C B fs)/\fs.lookup ("parts" : Str)=none/\YG K C/\Yx K C "parts" f/\Zo P w K mg base Zr 1 f fd ["self"] sp/\XY K fd ["self"] [] /\
   ∀(Q:VK),(∀p xs,H p=none->zL (rc t) K H r xs->Q (.ref p) (Za H p (.lst xs)))->sp [.ref a] H Q E0:=by
 cases h with
 |always h=>exact⟨_,_,_,_,_,_,h,R,c.J9,c.JY.me,zM c,c.JY.b,λQ q=>⟨a,_,R,.always h,trivial,q⟩⟩
 |week h u=>exact⟨_,_,_,_,_,_,h,R,c.Qp,c.ZiG,zM c,c.JY.b,λQ q=>⟨a,_,R,.week h u,trivial,q⟩⟩
 |span h D v e=>exact⟨_,_,_,_,_,_,h,R,c.WT,c.TF.me,ZjW c,c.TF.b,λQ q=>⟨a,_,R,.span h D v e,trivial,q⟩⟩
 |each h E y j=>exact⟨_,_,_,_,_,_,h,R,c.Ug,c.ZiL,zM c,c.JY.b,λQ q=>⟨a,_,R,.each h E y j,trivial,q⟩⟩
 |either h e i=>exact⟨_,_,_,_,_,_,h,R,c.VA,c.TM.me,ZjY c,c.TM.b,λQ q=>⟨a,_,R,.either h e i,trivial,q⟩⟩
 |both h e i=>exact⟨_,_,_,_,_,_,h,R,c.VB,c.TQ.me,ZjZ c,c.TQ.b,λQ q=>⟨a,_,R,.both h e i,trivial,q⟩⟩
 |but h j e=>exact⟨_,_,_,_,_,_,h,R,c.VX,c.TU.me,ZjX c,c.TU.b,λQ q=>⟨a,_,R,.but h j e,trivial,q⟩⟩
def Mh(c:Zv K mg t)(h:ZT (rc t) K H a r):∃(C f:Addr) (fs:List (Str×V)),H a=some (.ins C f fs)/\YG K C/\(fs.lookup ("weight" : Str)=none/\Yx K C "weight" t.UW)/\(fs.lookup ("depth" : Str)=none/\Yx K C "depth" t.UX):=by
 cases h with
 |always h=>exact⟨_,_,_,h,c.J9,⟨R,c.JZ.me⟩,⟨R,c.J0.me⟩⟩
 |week h q=>exact⟨_,_,_,h,c.Qp,⟨R,c.ZiH⟩,⟨R,c.ZiF⟩⟩
 |span h y u e=>exact⟨_,_,_,h,c.WT,⟨R,c.ZiJ⟩,⟨R,c.ZiI⟩⟩
 |each h B v j=>exact⟨_,_,_,h,c.Ug,⟨R,c.ZiM⟩,⟨R,c.ZiK⟩⟩
 |either h e i=>exact⟨_,_,_,h,c.VA,⟨R,c.ZiO⟩,⟨R,c.ZiN⟩⟩
 |both h e i=>exact⟨_,_,_,h,c.VB,⟨R,c.ZiQ⟩,⟨R,c.ZiP⟩⟩
 |but h j e=>exact⟨_,_,_,h,c.VX,⟨R,c.ZiS⟩,⟨R,c.ZiR⟩⟩
inductive Zj0(P:Program)(w:World)(K:OA)(mg:Oz)(base:Heap)(k:Nat)(m:Str)(Q:VK)(x:V)(H1:Hp):Prop|mk (a C dx:Addr) (fs:List (Str×V)) (f:Addr) (fd:OM) (ps:OF) (sp:Sp) (_:x=.ref a) (_:H1 a=some (.ins C dx fs)) (_:fs.lookup m=none) (_:YG K C) (_:Yx K C m f) (_:Zo P w K mg base Zr k f fd ps sp) (_:XY K fd ps []) (_:sp [.ref a] H1 Q E0)
def Zj1(P:Program)(w:World)(K:OA)(mg:Oz)(base:Heap)(k:Nat)(m:Str)(c:TE):TE:=λf H Q=>c f H λx e=>Zj0 P w K mg base k m Q x e
def ZbK{apos:Pos}(P:Program)(w:World)(K:OA)(mg:Oz)(base:Heap)(k:Nat)(O:Yh k X.A)(G:PE X o j)
  (D:X.prog=P:=by rfl) (J:X.w=w:=by rfl) (B:X.K=K:=by rfl) (hm:X.mg=mg:=by rfl) (e:X.base=base:=by rfl)
  (M:eval (.Call (.Attribute o m apos) [] [] pos) X.env=(do
   let v <-eval o X.env
   standAt apos.atName
   let (f,first) <-holding [v] (getMethod v m pl)
   callWith pos f first (backTo pos (starEach [] X.env)) (backToKw pos (keywordEach [] X.env))):=by rfl) :
  PE X (.Call (.Attribute o m apos) [] [] pos) (Zj1 P w K mg base k m j):=by
 subst D J B hm e;intro pins s E H Q I h;erw[W.methodCall_KW (pl:=pl) (Zs (G pins s E H _ I h) λu Y ⟨x,U,i,L,a,C,Z,fs,f,T,S,sp,ex,y,l,c,hm,F,e,q⟩=>?_) M];subst ex;obtain rfl:u=Value.ref a:=L;erw[E6 i y c hm l ?_];exact W.callWith_K0 (first:=[.ref a]) i.kIn hm.kp (QE (us:=[.ref a]) (vs:=[.ref a]) (dvs:=[]) F O e .nil Zm i (.cons R .nil) q)
def WV:RT->List RT
 |.always|.week _|.each _ _=>[]
 |.span _ _ r|.but _ r=>[r]
 |.either r s|.both r s=>[r,s]
def zN(r:RT):r.weight=1+((WV r).map RT.weight).sum:=by
 cases r<;>simp[WV,RT.weight]
def ZbL{r k:RT}(h:k∈WV r):k.depth<r.depth:=by
 cases r<;>simp[WV]at h
 all_goals simp only[RT.depth]
 subst h;lia;rcases h with rfl|rfl<;>omega
 rcases h with rfl|rfl<;>omega
 subst h;lia
def ZbM(r:RT):(WV r).length<=2:=by
 cases r<;>simp[WV]
def ZbN{xs:List V}(h:zL c K H r xs):xs.length=(WV r).length/\∀(i:Nat) (x:V),xs[i]? = some x->∃(j:Addr) (k:RT),x=.ref j/\(WV r)[i]? = some k/\ZT c K H j k:=by
 have none:∀(i:Nat) (x:V),([]:List V)[i]? = some x->False:=λi x e=>by cases e
 have one:∀{a:Addr} {r1:RT},ZT c K H a r1->∀(i:Nat) (x:V),[V.ref a][i]? = some x->∃(j:Addr) (k:RT),x=.ref j/\[r1][i]? = some k/\ZT c K H j k:=λ{a r1} q i x e=>by
  match i,e with
  |0,e=>exact⟨a,r1,(Sr e).symm,R,q⟩
  |_+1,e=>cases e
 have y:∀{a b:Addr} {r1 f:RT},ZT c K H a r1->ZT c K H b f->∀(i:Nat) (x:V),[V.ref a,V.ref b][i]? = some x->∃(j:Addr) (k:RT),x=.ref j/\[r1,f][i]? = some k/\ZT c K H j k:=λ{a b r1 f} v u i x e=>by
  match i,e with
  |0,e=>exact⟨a,r1,(Sr e).symm,R,v⟩
  |1,e=>exact⟨b,f,(Sr e).symm,R,u⟩
  |_+2,e=>cases e
 cases r with
 |always=>cases h;exact⟨R,λi x e=>(none i x e).elim⟩
 |week b=>cases h;exact⟨R,λi x e=>(none i x e).elim⟩
 |each n B=>cases h;exact⟨R,λi x e=>(none i x e).elim⟩
 |span a b r1=>ext⟨i,rfl,q⟩ h;exact⟨R,one q⟩
 |but ds r1=>ext⟨i,rfl,q⟩ h;exact⟨R,one q⟩
 |either r1 f=>ext⟨i,j,rfl,v,u⟩ h;exact⟨R,y v u⟩
 |both r1 f=>ext⟨i,j,rfl,v,u⟩ h;exact⟨R,y v u⟩
theorem ZbO:∀l:List Nat,(l.map λn=>((n:Nat):Int)).sum=((l.sum:Nat):Int)
 |[]=>rfl
 |x::r=>by
  rw[SO,List.sum_cons,List.sum_cons,ZbO r];lia
theorem zO:∀{l:OJ},x∈l->x<=l.sum
 |y::r,h=>by
  rw[List.sum_cons];rcases SH.mp h with rfl|h;omega;have:=zO h;lia
inductive Zj2(c:RC)(K:OA)(n:Nat)(vs:List V)(H:Hp)(Q:VK)(_e3:XK):Prop|mk (a:Addr) (r:RT) (_:vs=[.ref a]) (_:ZT c K H a r) (_:r.depth<=n) (_:r.weight<=1000000) (_:∀H',Zd H H'->Q (.int (r.weight:Nat)) H')
def Zj3(c:Zv K mg t):∀n:Nat,Zo P w K mg base Zr (n+1) t.UW t.Zad ["self"] (Zj2 (rc t) K n):=by
 intro n;induction n with
 |zero =>
  erw[c.JZ.F.ok qX (λM H Q E h=>?_) (λf0 A outer s H M Q E D h=>?_)];ext⟨a,r,rfl,_⟩ h;rfl;ext⟨a,r,rfl,h,hd,_⟩ h;have:=r.depth_pos;lia
 |succ n ih =>
 erw[c.JZ.F.ok qX () λf0 A outer s H M Q E D h=>?_];ext⟨a,r,rfl,h,hd,hw,a0⟩ h;erw[⟨_,(Zi (ZA (Zf Z9 Zc (ZP (Zfb R) c.Zik Zih (Zk (V8 (cl:=[]) (N:=["part"]) (fr:=[none]) R (Wo (F4 (pv 0))) R () R () trivial trivial R (λ_ _ _ _ _=>MO (i:=0) (A4 _) R (Or.inl R)) (λ_ _ _ _ _=>VQ) (λ_ _ _ _ _=>ZbK P w K mg base (n+1) (D.mono ()) (pv 0)))))))),?_⟩];sleep 1;obtain⟨c0,dx,fs,f,fd,sp,l,lk,cl,me,F,S,pp⟩:=ZbJ (P:=P) (w:=w) (mg:=mg) (base:=base) c h;erw[⟨_,R,a,c0,dx,fs,f,fd,_,_,sp,Zr,E0,R,l,lk,cl,me,F,D.mono (),S,Zm,pp _ λp xs hp C=>?_⟩];obtain⟨hl,Y⟩:=ZbN C;have kl:=ZbM r;have O:Zd H (Za H p (.lst xs)):=Zx hp _;refine⟨p,R,⟨xs,Zg.of Zj⟩,UM (K:=K) (a:=p) (xs:=xs) (λi u y B=>Zd (Za H p (.lst xs)) B/\u=(((WV r).take i).map λk=>V.int (k.weight:Nat))/\∃v,y=[v])
  ⟨Zd.refl _,R,_,R⟩ (by show xs.length<=sizeLine;exact Si () (show 2<=sizeLine by lia)) (λi u y B _ ⟨q,_⟩=>Zg.of (q _ _ Zj)) ?_ ?_⟩
 rintro i x u y B ha C ⟨q,e,v,rfl⟩;obtain⟨j,k,rfl,J,b0⟩:=Y i x C;have I:k∈WV r:=SM J;have kd:=ZbL I;have kw:k.weight<=r.weight:=by
  rw[zN r];have:=zO (List.mem_map_of_mem (f:=RT.weight) I);lia
 dsimp only[XE,Vs];rw[SY R];have G:=b0.same (O.trans q);obtain⟨T,U,d0,l2,g0,⟨e0,X⟩,_⟩:=Mh c G;erw[⟨_,R,j,T,U,d0,_,_,_,_,R,l2,e0,g0,X,ih,c.JZ.b,j,k,R,G,(),(),λH3 Z=>⟨?_,q.trans Z,?_,_,R⟩⟩];rw[Sw,Sy];lia;rw[e,Ob,J];simp;rintro u y B ha ⟨q,e,v,rfl⟩ p3 g3;have e2:u=((((WV r).map RT.weight).map λn=>((n:Nat):Int)).map V.int):=by
  rw[e,hl,List.take_length,Og,Og];rfl
 erw[⟨p3,_,R,Zg.of (by rw[Zj,e2]),?_,?_,?_⟩];intro n hn;obtain⟨m,hm,rfl⟩:=SL.mp hn;have:=zO hm;have:=zN r;lia;rw[Sx,Sx];lia;have s4:=(O.trans q).trans (Zx g3 (.lst u));have L:=a0 _ s4;rw[zN r]at L;erw[⟨_,_,R,R,?_⟩];rwa[ZbO]
theorem zP:∀(l:OJ) (x:Nat),WN (some (x:Int)) (l.map λn=>((n:Nat):Int))=some (((l.foldl max x:Nat)):Int)
 |[],x=>rfl
 |y::r,x=>by
  show WN (some (UP (some (x:Int)) (y:Int))) _=_;have e:UP (some (x:Int)) (y:Int)=((max x y:Nat):Int):=by
   show(if (y:Int)>(x:Int)then (y:Int)else (x:Int))=_;split<;>omega
  rw[e];exact zP r (max x y)
def Zj4(r:RT):(1:Int)+(WN none (((WV r).map RT.depth).map λn=>((n:Nat):Int))).getD 0=((r.depth:Nat):Int):=by
 have one:∀k:Nat,(1:Int)+(WN none ([k].map λn=>((n:Nat):Int))).getD 0=((1+k:Nat):Int):=λk=>by
  show(1:Int)+(k:Int)=_;lia
 have c:∀k m:Nat,(1:Int)+(WN none ([k,m].map λn=>((n:Nat):Int))).getD 0=((1+max k m:Nat):Int):=λk m=>by
  show(1:Int)+(WN (some (k:Int)) ([m].map λn=>((n:Nat):Int))).getD 0=_;rw[zP];show(1:Int)+((max k m:Nat):Int)=_;lia
 cases r with
 |always=>rfl
 |week b=>rfl
 |each n f=>rfl
 |span a b r1=>exact one _
 |but ds r1=>exact one _
 |either r1 e=>exact c _ _
 |both r1 e=>exact c _ _
inductive Zj5(c:RC)(K:OA)(n:Nat)(vs:List V)(H:Hp)(Q:VK)(_e3:XK):Prop|mk (a:Addr) (r:RT) (_:vs=[.ref a]) (_:ZT c K H a r) (_:r.depth<=n) (_:∀H',Zd H H'->Q (.int (r.depth:Nat)) H')
def Zj6(c:Zv K mg t):∀n:Nat,Zo P w K mg base Zr (n+1) t.UX t.Zae ["self"] (Zj5 (rc t) K n):=by
 intro n;induction n with
 |zero =>
  erw[c.J0.F.ok qY (λL H Q E h=>?_) (λf0 A outer s H L Q E D h=>?_)];ext⟨a,r,rfl,_⟩ h;rfl;ext⟨a,r,rfl,h,hd,_⟩ h;have:=r.depth_pos;lia
 |succ n ih =>
 erw[c.J0.F.ok qY () λf0 A outer s H L Q E D h=>?_];ext⟨a,r,rfl,h,hd,q⟩ h;erw[⟨_,(Zi (ZA (Zf Z9 Zc (Zfi R R c.Za6 jN (YH (V8 (cl:=[]) (N:=["part"]) (fr:=[none]) R (Wo (F4 (pv 0))) R () R () trivial trivial R (λ_ _ _ _ _=>MO (i:=0) (A4 _) R (Or.inl R)) (λ_ _ _ _ _=>VQ) (λ_ _ _ _ _=>ZbK P w K mg base (n+1) (D.mono ()) (pv 0))) Xs) (xI Zc xH))))),?_⟩];sleep 1;obtain⟨b0,dx,fs,e0,fd,sp,l,lk,cl,me,F,O,pp⟩:=ZbJ (P:=P) (w:=w) (mg:=mg) (base:=base) c h;erw[⟨_,R,a,b0,dx,fs,e0,fd,_,_,sp,Zr,E0,R,l,lk,cl,me,F,D.mono (),O,Zm,pp _ λp xs hp C=>?_⟩];obtain⟨hl,Y⟩:=ZbN C;have kl:=ZbM r;have M:Zd H (Za H p (.lst xs)):=Zx hp _;refine⟨p,R,⟨xs,Zg.of Zj⟩,UM (K:=K) (a:=p) (xs:=xs) (λi u y B=>Zd (Za H p (.lst xs)) B/\u=(((WV r).take i).map λk=>V.int (k.depth:Nat))/\∃v,y=[v])
  ⟨Zd.refl _,R,_,R⟩ (by show xs.length<=sizeLine;exact Si () (show 2<=sizeLine by lia)) (λi u y B _ ⟨f,_⟩=>Zg.of (f _ _ Zj)) ?_ ?_⟩
 rintro i x u y B ha C ⟨f,e,v,rfl⟩;obtain⟨j,k,rfl,I,a0⟩:=Y i x C;have X:k∈WV r:=SM I;have kd:=ZbL X;dsimp only[XE,Vs];rw[SY R];have G:=a0.same (M.trans f);obtain⟨S,T,c0,l2,g0,_,⟨d0,U⟩⟩:=Mh c G;erw[⟨_,R,j,S,T,c0,_,_,_,_,R,l2,d0,g0,U,ih,c.J0.b,j,k,R,G,(),λH3 Z=>⟨?_,f.trans Z,?_,_,R⟩⟩];rw[Sw,Sy];lia;rw[e,Ob,I];simp;rintro u y B ha ⟨f,e,v,rfl⟩ p3 g3;have e2:u=((((WV r).map RT.depth).map λn=>((n:Nat):Int)).map V.int):=by
  rw[e,hl,List.take_length,Og,Og];rfl
 have s4:=(M.trans f).trans (Zx g3 (.lst u));have J:=q _ s4;rw[<-Zj4 r]at J;exact⟨p3,_,0,R,R,Zg.of (by rw[Zj,e2]),_,_,R,R,J⟩
inductive Zj7(c:RC)(K:OA)(vs:List V)(H:Hp)(Q:VK)(_e3:XK):Prop|mk (a:Addr) (r:RT) (_:vs=[.ref a]) (_:ZT c K H a r) (_:r.weight<=15) (_:r.depth<=8) (_:∀H',Zd H H'->Q .non H')
def Mi(c:Zv K mg t):Zo P w K mg base Zr 10 t.kB t.kC ["rule"] (Zj7 (rc t) K):=by
 erw[c.JW.F.ok Zhz () λG A outer s H y Q E i h=>?_];ext⟨a,r,rfl,h,B,hd,q⟩ h;erw[⟨_,(Zh (ZK (Ys QC (F4 (pv 0)) (YR R c.Zir)) (Zi Xb) ZL) (Zi (ZK (Ys QC (F4 (pv 0)) (YR R c.Zis)) (Zi Xb) ZL))),?_⟩];sleep 2;obtain⟨C,f,fs,l,cl,⟨e,me⟩,_⟩:=Mh c h;erw[⟨_,R,a,C,f,fs,_,_,_,_,_,Zr,E0,R,l,e,cl,me,Zj3 c 8,i.mono (),c.JZ.b,Zm,a,r,R,h,hd,(),λD j=>?_⟩];erw[⟨_,_,R,R,_,R,Zq (by rw[SU ()];lia) ?_⟩];sleep 1;have u:=h.same j;obtain⟨C,f,fs,l,cl,_,⟨e,me⟩⟩:=Mh c u;erw[⟨_,R,a,C,f,fs,_,_,_,_,_,Zr,E0,R,l,e,cl,me,Zj6 c 8,i.mono (),c.J0.b,Zm,a,r,R,u,hd,λv s2=>?_⟩];exact⟨_,_,R,R,_,R,Zq (by rw[SU ()];lia) (q v (j.trans s2))⟩
inductive WW(c:RC)(K:OA)(q:RT->Prop)(n:Nat)(vs:List V)(H:Hp)(Q:VK)(_e3:XK):Prop|mk (a:Addr) (r:RT) (_:vs=[.ref a]) (_:ZT c K H a r) (_:q r) (_:r.good) (_:r.weight<=15) (_:r.depth<=8) (_:r.depth<=n) (_:∀b H',Zd H H'->ZT c K (Y6 H' H) b r->Q (.ref b) H')
structure VY(P:Program)(w:World)(K:OA)(mg:Oz)(base:Heap)(t:Ye)(n:Nat):Prop where
 rule:Zo P w K mg base Zr (4*n+10) t.RE t.RF ["self"] (WW (rc t) K Me n)
 week:Zo P w K mg base Zr (4*n+10) t.RJ t.RK ["self"] (WW (rc t) K Mf n)
 span:Zo P w K mg base Zr (4*n+10) t.RO t.RP ["self"] (WW (rc t) K Ka n)
 each:Zo P w K mg base Zr (4*n+10) t.RU t.RV ["self"] (WW (rc t) K Mg n)
 either:Zo P w K mg base Zr (4*n+10) t.RZ t.R0 ["self"] (WW (rc t) K Kb n)
 both:Zo P w K mg base Zr (4*n+10) t.R7 t.R8 ["self"] (WW (rc t) K Kc n)
 but:Zo P w K mg base Zr (4*n+10) t.Tc t.Td ["self"] (WW (rc t) K Ke n)
def VY.at(R:VY P w K mg base t n)(c:Zv K mg t){r:RT}(h:ZT (rc t) K H a r)(g:r.good)(e:r.weight<=15)(hd:r.depth<=8)(hn:r.depth<=n) :
  ∃(C E:Addr) (fs:List (Str×V)) (f:Addr) (fd:OM) (sp:Sp),H a=some (.ins C E fs)/\fs.lookup ("copied" : Str)=none/\YG K C/\Yx K C "copied" f/\Zo P w K mg base Zr (4*n+10) f fd ["self"] sp/\XY K fd ["self"] [] /\
   ∀(Q:VK),(∀b v,Zd H v->ZT (rc t) K (Y6 v H) b r->Q (.ref b) v)->sp [.ref a] H Q E0:=by
 cases h with
 |always h=>exact⟨_,_,_,_,_,_,h,rfl,c.J9,c.Tv.me,R.rule,c.Tv.b,λQ q=>⟨a,_,rfl,.always h,trivial,g,e,hd,hn,q⟩⟩
 |week h y=>exact⟨_,_,_,_,_,_,h,rfl,c.Qp,c.TB.me,R.week,c.TB.b,λQ q=>⟨a,_,rfl,.week h y,trivial,g,e,hd,hn,q⟩⟩
 |span h G B i=>exact⟨_,_,_,_,_,_,h,rfl,c.WT,c.LO.me,R.span,c.LO.b,λQ q=>⟨a,_,rfl,.span h G B i,trivial,g,e,hd,hn,q⟩⟩
 |each h I D u=>exact⟨_,_,_,_,_,_,h,rfl,c.Ug,c.TJ.me,R.each,c.TJ.b,λQ q=>⟨a,_,rfl,.each h I D u,trivial,g,e,hd,hn,q⟩⟩
 |either h i j=>exact⟨_,_,_,_,_,_,h,rfl,c.VA,c.LQ.me,R.either,c.LQ.b,λQ q=>⟨a,_,rfl,.either h i j,trivial,g,e,hd,hn,q⟩⟩
 |both h i j=>exact⟨_,_,_,_,_,_,h,rfl,c.VB,c.LS.me,R.both,c.LS.b,λQ q=>⟨a,_,rfl,.both h i j,trivial,g,e,hd,hn,q⟩⟩
 |but h u i=>exact⟨_,_,_,_,_,_,h,rfl,c.VX,c.LV.me,R.but,c.LV.b,λQ q=>⟨a,_,rfl,.but h u i,trivial,g,e,hd,hn,q⟩⟩
def Zj8(c:Zv K mg t)(h:ZT (rc t) K H a r):∃C,XW K H (.ref a) (.ref C)/\W.kitOne K (.ref C) (.ref t.Xo)=some true:=by
 cases h with
 |always h=>exact⟨_,c.ZiU.ty c.J9 h,c.ZiV⟩
 |week h j=>exact⟨_,c.ZiW.ty c.Qp h,c.ZiX⟩
 |span h v q e=>exact⟨_,c.ZiY.ty c.WT h,c.ZiZ⟩
 |each h y u i=>exact⟨_,c.Zi0.ty c.Ug h,c.Zi1⟩
 |either h e f=>exact⟨_,c.Zi2.ty c.VA h,c.Zi3⟩
 |both h e f=>exact⟨_,c.Zi4.ty c.VB h,c.Zi5⟩
 |but h i e=>exact⟨_,c.Zi6.ty c.VX h,c.Zi7⟩
inductive Zj9(c:RC)(K:OA)(n:Nat)(vs:List V)(H:Hp)(Q:VK)(_e3:XK):Prop|mk (a:Addr) (r:RT) (_:vs=[.ref a]) (_:ZT c K H a r) (_:r.good) (_:r.weight<=15) (_:r.depth<=8) (_:r.depth<=n) (_:∀b H',Zd H H'->ZT c K (Y6 H' H) b r->Q (.ref b) H')
def QT(c:Zv K mg t)(n:Nat)(R:VY P w K mg base t n):Zo P w K mg base Zr (4*n+11) t.Ry t.Rz ["rule"] (Zj9 (rc t) K n):=by
 erw[c.UZ.F.ok Zhy () λD A outer s H y Q E i h=>?_];ext⟨a,r,rfl,h,g,e,hd,hn,q⟩ h;erw[⟨_,(Zh (ZK (Yz (Yy (ZP ZeV c.YW YV (Zp (pv 0) (Wb rfl c.Md))))) (Zi Xb) ZL) (Zi (ZA (F4 (pv 0))))),?_⟩];sleep 2;obtain⟨B,ty,u⟩:=Zj8 c h;erw[⟨_,rfl,.ref a,t.Xo,_,_,rfl,ty,u,_,rfl,Zq () ?_⟩];sleep 1;obtain⟨C,j,fs,f,v,sp,g1,g2,g3,g4,g5,g6,g7⟩:=R.at c h g e hd hn;exact⟨_,rfl,a,C,j,fs,f,v,_,_,sp,Zr,E0,rfl,g1,g2,g3,g4,g5,i.mono (),g6,Zm,g7 _ q⟩
def Kg(f:Str)(v:V):(Z2 f v []).length<1000:=Sk (Q7 _ _ _) ()
def Zka(f g:Str)(v u:V):(Z2 f v (Z2 g u [])).length<1000:=Sk (Q7 _ _ _) (Sk (Nat.succ_le_succ (Q7 _ _ _)) ())
structure C4(H0 H:Hp)(x C:Addr):Prop where
 no:H0 x=none
 sm:Zd H0 H
 at_:∃dx,H x=some (.ins C dx [])
inductive ZbP(c:RC)(K:OA)(vs:List V)(H:Hp)(Q:VK)(_e3:XK):Prop|mk (x:Addr) (H0:Hp) (b:Nat) (_:vs=[.ref x,.int b]) (_:C4 H0 H x c.week) (_:b<=127) (_:∀H',Zd H0 H'->ZT c K (Y6 H' H0) x (.week b)->Q .non H')
inductive ZbQ(c:RC)(K:OA)(vs:List V)(H:Hp)(Q:VK)(_e3:XK):Prop|mk (x l:Addr) (H0:Hp) (n:Nat) (ss:OJ) (_:vs=[.ref x,.int n,.ref l]) (_:C4 H0 H x c.each) (_:H0 l=some (.lst (YB ss))) (_:(RT.each n ss).good) (_:∀H',Zd H0 H'->ZT c K (Y6 H' H0) x (.each n ss)->Q .non H')
inductive ZbR(c:RC)(K:OA)(n:Nat)(vs:List V)(H:Hp)(Q:VK)(_e3:XK):Prop|mk (x i:Addr) (H0:Hp) (a b:Nat) (r:RT) (_:vs=[.ref x,.int a,.int b,.ref i]) (_:C4 H0 H x c.span) (_:ZT c K H0 i r) (_:(RT.span a b r).good) (_:(RT.span a b r).weight<=15) (_:(RT.span a b r).depth<=8) (_:r.depth<=n) (_:∀H',Zd H0 H'->ZT c K (Y6 H' H0) x (.span a b r)->Q .non H')
inductive ZbS(c:RC)(K:OA)(n:Nat)(vs:List V)(H:Hp)(Q:VK)(_e3:XK):Prop|mk (x l i:Addr) (H0:Hp) (ds:OJ) (r:RT) (_:vs=[.ref x,.ref l,.ref i]) (_:C4 H0 H x c.but) (_:H0 l=some (.lst (YB ds))) (_:ZT c K H0 i r) (_:(RT.but ds r).good) (_:(RT.but ds r).weight<=15) (_:(RT.but ds r).depth<=8) (_:r.depth<=n) (_:∀H',Zd H0 H'->ZT c K (Y6 H' H0) x (.but ds r)->Q .non H')
inductive Mj(c:RC)(K:OA)(n:Nat)(C:Addr)(mk:RT->RT->RT)(vs:List V)(H:Hp)(Q:VK)(_e3:XK):Prop|mk (x i j:Addr) (H0:Hp) (r s:RT) (_:vs=[.ref x,.ref i,.ref j]) (_:C4 H0 H x C) (_:ZT c K H0 i r) (_:ZT c K H0 j s) (_:(mk r s).good) (_:(mk r s).weight<=15) (_:(mk r s).depth<=8) (_:r.depth<=n) (_:s.depth<=n) (_:∀H',Zd H0 H'->ZT c K (Y6 H' H0) x (mk r s)->Q .non H')
def ZbT(c:Zv K mg t):Zo P w K mg base Zr 3 t.Ly t.RI ["self","bits"] (ZbP (rc t) K):=by
 erw[c.Tz.F.ok ZhK () λB A outer s H y Q E u h=>?_];ext⟨x,C,b,rfl,⟨e,v,i,j⟩,f,q⟩ h;erw[⟨_,(Zh (ZK (Yz (Yy (ZE c.UY (Qs c) u Zm (Yk (pv 1) Zc (YR R c.Zip))))) (Zi Xb) ZL) (Zi (XG (pv 0) (pv 1) R))),?_⟩];sleep 2;erw[⟨_,R,.int b,0,127,"int",R,.int _,_,R,Zq (by rw[Qi () ()];lia) ?_⟩];sleep 1;exact⟨_,R,_,R,x,_,i,[],R,j,c.Qp,c.zC,(),q _ (XM e v _) (.week (Ub e Zj) f)⟩
def ZbU(c:Zv K mg t):Zo P w K mg base Zr 4 t.LA t.RS ["self","length","starts"] (ZbQ (rc t) K):=by
 erw[c.TH.F.ok ZhP () λS A outer s H O Q E B h=>?_];ext⟨x,l,M,n,D,rfl,⟨e,C,i,I⟩,u,⟨G,J,g⟩,q⟩ h;erw[⟨_,(Zh (ZK (Yz (Yy (ZE c.UY (Qs c) B Zm (Yk (pv 1) Zc (YR R c.Ziq))))) (Zi Xb) ZL) (Zh (ZK (Yz (Yy (ZE c.LK (zK c) B Zm (Uw (pv 2) (YR R c.Zba) Zc (Zf Vm (pv 1) Zc))))) (Zi Xb) ZL) (Zh (XG (pv 0) (pv 1) R) (Zi (XG (pv 0) (Yt F0 R c.Qn Qm (Zk (pv 2))) R))))),?_⟩];sleep 4;erw[⟨_,R,.int n,1,28,"int",R,.int _,_,R,Zq (by rw[Qi () ()];lia) ?_⟩];sleep 1;erw[⟨_,R,_,R,_,_,R,R,l,D,12,0,_,R,C _ _ u,g.one,g.few,g.up,λy L=>⟨Sl _,by have:=(g.all y L).2;lia⟩,_,R,Zq () ?_⟩];erw[⟨_,R,_,R,x,_,i,[],R,I,c.Ug,c.zF,(),?_⟩];have j:=XM e C (.ins t.WS i (Z2 "length" (.int n) []));erw[⟨_,R,l,_,R,.inl ⟨Zg.of (j _ _ u),λp f=>?_⟩⟩];have np:p≠x:=λz=>by rw[z,Zj]at f;cases f
 have v:M p=none:=j.free f;erw[⟨_,R,x,_,i,_,R,(by rw[Ze np.symm];exact Zj),c.Ug,c.zG,Kg _ _,?_⟩];erw[q _ (XM e (XM v j _) _) (.each (Ub e Zj) G J (Zl.of (Ub v (by rw[Ze np];exact Zj))))]
def Ml(q:Zd f c)(i:c x=some j)(o:HO):Zd (Y6 h c) (Y6 (Za h x o) f) :=
 F7 q λa u n e=>by rwa[Ze (λz=>by rw[z,i]at n;cases n)]
def Mm(s:Zd h f):Zd (Y6 h c) (Y6 f c):=λa o e=>Ub (A6 e).1 (s _ _ (A6 e).2)
def ZbV(e:Zv K mg t)(n:Nat)(R:VY P w K mg base t n):Zo P w K mg base Zr (4*n+12) t.Lz t.RN ["self","first","last","rule"] (ZbR (rc t) K n):=by
 erw[e.TD.F.ok ZhN () λZ A outer s H Y Q a0 u h=>?_];ext⟨x,i,M,a,b,r,rfl,⟨j,T,f,E⟩,L,⟨C,I,g⟩,O,hd,hn,q⟩ h;have U:(RT.span a b r).weight=1+r.weight:=rfl;have X:(RT.span a b r).depth=1+r.depth:=rfl;erw[⟨_,(Zh (ZK (Yz (Yy (ZE e.UY (Qs e) u Zm (Yk (pv 1) Zc (YR rfl e.JV))))) (Zi Xb) ZL) (Zh (ZK (Yz (Yy (ZE e.UY (Qs e) u Zm (Yk (pv 2) (pv 1) (YR rfl e.JV))))) (Zi Xb) ZL) (Zh (XG (pv 0) (pv 1) rfl) (Zh (XG (pv 0) (pv 2) rfl) (Zh (XG (pv 0) (ZE e.UZ (QT e n R) u Zm (Zk (pv 3))) rfl) (Zi (Z1 (ZE e.JW (Mi e) u Zm (Zk (pv 0)))))))))),?_⟩];sleep 6;erw[⟨_,rfl,.int a,0,9999,"int",rfl,.int _,_,rfl,Zq (by rw[Qi () ()];lia) ?_⟩];sleep 1;erw[⟨_,rfl,_,rfl,.int b,(a:Nat),9999,"int",rfl,.int _,_,rfl,Zq (by rw[Qi () ()];lia) ?_⟩];erw[⟨_,rfl,_,rfl,x,_,f,[],rfl,E,e.WT,e.zD,(),?_⟩];have S:=XM j T (.ins t.X2 f (Z2 "first" (.int a) []));erw[⟨_,rfl,_,rfl,x,_,f,_,rfl,Zj,e.WT,e.zE,Kg _ _,?_⟩];have s2:=XM j S (.ins t.X2 f (Z2 "last" (.int b) (Z2 "first" (.int a) [])));erw[⟨_,rfl,i,r,rfl,L.same s2,g,(),(),hn,λc B y J=>?_⟩];erw[⟨_,rfl,x,_,f,_,rfl,y _ _ Zj,e.WT,e.LX,Zka _ _ _ _,?_⟩];have D:=XM j (s2.trans y) (.ins t.X2 f (Z2 "inner" (.ref c) (Z2 "last" (.int b) (Z2 "first" (.int a) []))));have v:ZT (rc t) K (Y6 (Za B x (.ins t.X2 f (Z2 "inner" (.ref c) (Z2 "last" (.int b) (Z2 "first" (.int a) []))))) M) x (.span a b r) :=
  .span (Ub j Zj) C I (J.same (Ml s2 Zj _))
 exact⟨_,rfl,x,_,rfl,v.same (Uc _ _),O,hd,λG s5=>q G (D.trans s5) (v.same (Mm s5))⟩
def ZbW(e:Zv K mg t)(n:Nat)(R:VY P w K mg base t n):Zo P w K mg base Zr (4*n+12) t.LF t.Tb ["self","days","rule"] (ZbS (rc t) K n):=by
 erw[e.TR.F.ok ZhW () λc0 A outer s b0 vs a0 d0 D h=>?_];ext⟨x,l,i,L,ds,r,rfl,⟨B,u,f,H⟩,I,T,⟨j,g⟩,X,hd,hn,q⟩ h;have Z:(RT.but ds r).weight=1+r.weight:=rfl;have ed:(RT.but ds r).depth=1+r.depth:=rfl;erw[⟨_,(Zh (ZK (Yz (Yy (ZE e.LK (zK e) D Zm (Uw (pv 1) (YR rfl e.Zba) Zc (YR rfl e.JV))))) (Zi Xb) ZL) (Zh (XG (pv 0) (Yt F0 rfl e.Qn Qm (Zk (pv 1))) rfl) (Zh (XG (pv 0) (ZE e.UZ (QT e n R) D Zm (Zk (pv 2))) rfl) (Zi (Z1 (ZE e.JW (Mi e) D Zm (Zk (pv 0)))))))),?_⟩];sleep 4;erw[⟨_,rfl,l,ds,12,0,_,rfl,u _ _ I,j.one,j.few,j.up,λy S=>⟨Sl _,by have:=(j.all y S).2;lia⟩,_,rfl,Zq () ?_⟩];sleep 1;erw[⟨_,rfl,l,_,rfl,.inl ⟨Zg.of (u _ _ I),λp C=>?_⟩⟩];have np:p≠x:=λz=>by rw[z,H]at C;cases C
 have J:L p=none:=u.free C;have Y:=XM J u (.tup (YB ds));erw[⟨_,rfl,x,_,f,[],rfl,(by rwa[Ze np.symm]),e.VX,e.zH,(),?_⟩];have s2:=XM B Y (.ins t.Wu f (Z2 "days" (.ref p) []));erw[⟨_,rfl,i,r,rfl,T.same s2,g,(),(),hn,λc E v Q=>?_⟩];erw[⟨_,rfl,x,_,f,_,rfl,v _ _ Zj,e.VX,e.Ma,Kg _ _,?_⟩];have M:=XM B (s2.trans v) (.ins t.Wu f (Z2 "inner" (.ref c) (Z2 "days" (.ref p) [])));have U:E p=some (.tup (YB ds)):=v _ _ (by rw[Ze np];exact Zj);have G:ZT (rc t) K (Y6 (Za E x (.ins t.Wu f (Z2 "inner" (.ref c) (Z2 "days" (.ref p) [])))) L) x (.but ds r) :=
  .but (Ub B Zj) (Zl.of (Ub J (by rwa[Ze np]))) (Q.same (Ml s2 Zj _))
 exact⟨_,rfl,x,_,rfl,G.same (Uc _ _),X,hd,λO s5=>q O (M.trans s5) (G.same (Mm s5))⟩
def ZbX(e:Zv K mg t)(n:Nat)(R:VY P w K mg base t n):Zo P w K mg base Zr (4*n+12) t.LB t.RY ["self","one","other"] (Mj (rc t) K n t.XO .either):=by
 erw[e.TL.F.ok ZhS () λf0 A outer s H vs e0 g0 y h=>?_];ext⟨x,i,b0,I,r,f,rfl,⟨v,B,j,G⟩,U,M,⟨g1,g2⟩,Y,hd,L,c0,q⟩ h;have ew:(RT.either r f).weight=1+(r.weight+f.weight):=rfl;have ed:(RT.either r f).depth=1+max r.depth f.depth:=rfl;erw[⟨_,(Zh (XG (pv 0) (ZE e.UZ (QT e n R) y Zm (Zk (pv 1))) rfl) (Zh (XG (pv 0) (ZE e.UZ (QT e n R) y Zm (Zk (pv 2))) rfl) (Zi (Z1 (ZE e.JW (Mi e) y Zm (Zk (pv 0))))))),?_⟩];sleep 3;erw[⟨_,rfl,i,r,rfl,U.same B,g1,(),(),L,λc Z J O=>?_⟩];erw[⟨_,rfl,x,_,j,_,rfl,J _ _ G,e.VA,e.LY,(),?_⟩];have s2:=XM v (B.trans J) (.ins t.XO j (Z2 "one" (.ref c) []));erw[⟨_,rfl,b0,f,rfl,M.same s2,g2,(),(),c0,λd C u T=>?_⟩];erw[⟨_,rfl,x,_,j,_,rfl,u _ _ Zj,e.VA,e.LZ,Kg _ _,?_⟩];have Q:=XM v (s2.trans u) (.ins t.XO j (Z2 "other" (.ref d) (Z2 "one" (.ref c) [])));have X:Zd (Y6 Z H) (Y6 (Za C x (.ins t.XO j (Z2 "other" (.ref d) (Z2 "one" (.ref c) [])))) I):=F7 B λa d0 E a0=>by
  have ne:a≠x:=λz=>by rw[z,G]at E;cases E
  rw[Ze ne];exact u _ _ (by rwa[Ze ne])
 have D:ZT (rc t) K (Y6 (Za C x (.ins t.XO j (Z2 "other" (.ref d) (Z2 "one" (.ref c) [])))) I) x (.either r f) :=
  .either (Ub v Zj) (O.same X) (T.same (Ml s2 Zj _))
 exact⟨_,rfl,x,_,rfl,D.same (Uc _ _),Y,hd,λS s5=>q S (Q.trans s5) (D.same (Mm s5))⟩
def ZbY(e:Zv K mg t)(n:Nat)(R:VY P w K mg base t n):Zo P w K mg base Zr (4*n+12) t.LD t.R6 ["self","one","other"] (Mj (rc t) K n t.XQ .both):=by
 erw[e.TN.F.ok ZhU () λf0 A outer s H vs e0 g0 y h=>?_];ext⟨x,i,b0,I,r,f,rfl,⟨v,B,j,G⟩,U,M,⟨g1,g2⟩,Y,hd,L,c0,q⟩ h;have ew:(RT.both r f).weight=1+(r.weight+f.weight):=rfl;have ed:(RT.both r f).depth=1+max r.depth f.depth:=rfl;erw[⟨_,(Zh (XG (pv 0) (ZE e.UZ (QT e n R) y Zm (Zk (pv 1))) rfl) (Zh (XG (pv 0) (ZE e.UZ (QT e n R) y Zm (Zk (pv 2))) rfl) (Zi (Z1 (ZE e.JW (Mi e) y Zm (Zk (pv 0))))))),?_⟩];sleep 3;erw[⟨_,rfl,i,r,rfl,U.same B,g1,(),(),L,λc Z J O=>?_⟩];erw[⟨_,rfl,x,_,j,_,rfl,J _ _ G,e.VB,e.L0,(),?_⟩];have s2:=XM v (B.trans J) (.ins t.XQ j (Z2 "one" (.ref c) []));erw[⟨_,rfl,b0,f,rfl,M.same s2,g2,(),(),c0,λd C u T=>?_⟩];erw[⟨_,rfl,x,_,j,_,rfl,u _ _ Zj,e.VB,e.L8,Kg _ _,?_⟩];have Q:=XM v (s2.trans u) (.ins t.XQ j (Z2 "other" (.ref d) (Z2 "one" (.ref c) [])));have X:Zd (Y6 Z H) (Y6 (Za C x (.ins t.XQ j (Z2 "other" (.ref d) (Z2 "one" (.ref c) [])))) I):=F7 B λa d0 E a0=>by
  have ne:a≠x:=λz=>by rw[z,G]at E;cases E
  rw[Ze ne];exact u _ _ (by rwa[Ze ne])
 have D:ZT (rc t) K (Y6 (Za C x (.ins t.XQ j (Z2 "other" (.ref d) (Z2 "one" (.ref c) [])))) I) x (.both r f) :=
  .both (Ub v Zj) (O.same X) (T.same (Ml s2 Zj _))
 exact⟨_,rfl,x,_,rfl,D.same (Uc _ _),Y,hd,λS s5=>q S (Q.trans s5) (D.same (Mm s5))⟩
def VZ(nx:H x=none)(nd:H c=none):C4 H (Za (Za H c (.own x)) x (.ins C c [])) x C :=
 ⟨nx,XM nx (XM nd (Zd.refl _) _) _,c,Zj⟩
def ZbZ(c:Zv K mg t)(n:Nat):Zo P w K mg base Zr (4*n+10) t.RE t.RF ["self"] (WW (rc t) K Me n):=by
 erw[c.Tv.F.ok ZhH () λj A outer s H f Q E y h=>?_];ext⟨a,r,rfl,h,e,g,i,hd,hn,q⟩ h;erw[⟨_,(Zi (ZA (Nj c.zB R c.Md))),?_⟩];sleep 1;cases h with
 |always h=>exact λx u nx nd v=>q x _ (XM nx (XM nd (Zd.refl _) _) _) (.always (Ub nx Zj))
 |_=>exact e.elim
def Zb0(c:Zv K mg t)(n:Nat):Zo P w K mg base Zr (4*n+10) t.RJ t.RK ["self"] (WW (rc t) K Mf n):=by
 erw[c.TB.F.ok ZhL () λC A outer s H y Q E v h=>?_];ext⟨a,r,rfl,h,j,g,B,hd,hn,q⟩ h;erw[⟨_,(Zi (ZA (W2 c.Zbo (ZbT c) (v.mono ()) R c.Zbx c.Tz.b .nil Zm (Zk (ZJ (pv 0) R))))),?_⟩];sleep 1;cases h with
 |week h f=>exact⟨_,R,a,_,_,_,_,R,h,c.Qp,c.zC,R,λx D nx nd G=>⟨x,H,_,R,VZ nx nd,f,λu i e=>⟨R,q x u i e⟩⟩⟩
 |_=>exact j.elim
def Zb1(c:Zv K mg t)(n:Nat):Zo P w K mg base Zr (4*n+10) t.RU t.RV ["self"] (WW (rc t) K Mg n):=by
 erw[c.TJ.F.ok ZhQ () λU A outer s H O Q E D h=>?_];ext⟨a,r,rfl,h,v,g,S,hd,hn,q⟩ h;erw[⟨_,(Zi (ZA (W2 c.Zbq (ZbU c) (D.mono ()) R c.Zbz c.TH.b .nil Zm (Zp (ZJ (pv 0) R) (Yt Qg R c.X4 X1 (Zk (ZJ (pv 0) R))))))),?_⟩];sleep 1;cases h with
 |each h I J j =>
  rename_i T L G u;erw[⟨_,R,a,_,_,_,_,R,h,c.Ug,c.zF,R,_,R,a,_,_,_,_,R,h,c.Ug,c.zG,R,_,_,R,.inr j,λl i x X nx nd M=>?_⟩];have f:=Zx i (.lst (YB u));exact⟨x,l,_,_,_,R,VZ nx nd,Zj,g,λB C y=>⟨R,q x B (f.trans C) (y.same (F7 f λ_ _ _ e=>e))⟩⟩
 |_=>exact v.elim
def Zkb(c:Zv K mg t)(n:Nat)(R:VY P w K mg base t n):Zo P w K mg base Zr (4*(n+1)+10) t.RO t.RP ["self"] (WW (rc t) K Ka (n+1)):=by
 erw[c.LO.F.ok qZ () λT A outer s H O Q E G h=>?_];ext⟨a,r,rfl,h,f,g,B,hd,hn,q⟩ h;erw[⟨_,(Zi (ZA (W2 c.Zbp (ZbV c n R) (G.mono ()) rfl c.Zby c.TD.b .nil Zm (Yk (ZJ (pv 0) rfl) (ZJ (pv 0) rfl) (ZJ (pv 0) rfl))))),?_⟩];sleep 1;cases h with
 |span h I J u =>
  rename_i S i v C e;have M:(RT.span v C e).depth=1+e.depth:=rfl;exact⟨_,rfl,a,_,_,_,_,rfl,h,c.WT,c.zD,rfl,_,rfl,a,_,_,_,_,rfl,h,c.WT,c.zE,rfl,_,rfl,a,_,_,_,_,rfl,h,c.WT,c.LX,rfl,
   λx U nx nd L=>⟨x,_,H,_,_,_,rfl,VZ nx nd,u,g,B,hd,(),λy D j=>⟨rfl,q x y D j⟩⟩⟩
 |_=>exact f.elim
def Zkc(c:Zv K mg t)(n:Nat)(R:VY P w K mg base t n):Zo P w K mg base Zr (4*(n+1)+10) t.Tc t.Td ["self"] (WW (rc t) K Ke (n+1)):=by
 erw[c.LV.F.ok jF () λX A outer s H T Q E L h=>?_];ext⟨a,r,rfl,h,B,g,I,hd,hn,q⟩ h;erw[⟨_,(Zi (ZA (W2 c.Zbt (ZbW c n R) (L.mono ()) rfl c.ZbC c.TR.b .nil Zm (Zp (Yt Qg rfl c.X4 X1 (Zk (ZJ (pv 0) rfl))) (ZJ (pv 0) rfl))))),?_⟩];sleep 1;cases h with
 |but h y D =>
  rename_i U M i j u;have S:(RT.but j u).depth=1+u.depth:=rfl;erw[⟨_,rfl,a,_,_,_,_,rfl,h,c.VX,c.zH,rfl,_,_,rfl,.inr y,λl v=>?_⟩];have f:=Zx v (.lst (YB j));exact⟨_,rfl,a,_,_,_,_,rfl,f _ _ h,c.VX,c.Ma,rfl,λx Y nx nd O=>⟨x,l,_,_,_,_,rfl,VZ nx nd,Zj,D.same f,g,I,hd,(),λG J C=>⟨rfl,q x G (f.trans J) (C.same (F7 f λ_ _ _ e=>e))⟩⟩⟩
 |_=>exact B.elim
def Zkd(c:Zv K mg t)(n:Nat)(R:VY P w K mg base t n):Zo P w K mg base Zr (4*(n+1)+10) t.RZ t.R0 ["self"] (WW (rc t) K Kb (n+1)):=by
 erw[c.LQ.F.ok jB () λO A outer s H L Q E G h=>?_];ext⟨a,r,rfl,h,u,g,C,hd,hn,q⟩ h;erw[⟨_,(Zi (ZA (W2 c.Zbr (ZbX c n R) (G.mono ()) rfl c.ZbA c.TL.b .nil Zm (Zp (ZJ (pv 0) rfl) (ZJ (pv 0) rfl))))),?_⟩];sleep 1;cases h with
 |either h y f =>
  rename_i M i j e r1;have J:(RT.either e r1).depth=1+max e.depth r1.depth:=rfl;exact⟨_,rfl,a,_,_,_,_,rfl,h,c.VA,c.LY,rfl,_,rfl,a,_,_,_,_,rfl,h,c.VA,c.LZ,rfl,
   λx S nx nd I=>⟨x,_,_,H,_,_,rfl,VZ nx nd,y,f,g,C,hd,(),(),λB D v=>⟨rfl,q x B D v⟩⟩⟩
 |_=>exact u.elim
def Zke(c:Zv K mg t)(n:Nat)(R:VY P w K mg base t n):Zo P w K mg base Zr (4*(n+1)+10) t.R7 t.R8 ["self"] (WW (rc t) K Kc (n+1)):=by
 erw[c.LS.F.ok jD () λO A outer s H L Q E G h=>?_];ext⟨a,r,rfl,h,u,g,C,hd,hn,q⟩ h;erw[⟨_,(Zi (ZA (W2 c.Zbs (ZbY c n R) (G.mono ()) rfl c.ZbB c.TN.b .nil Zm (Zp (ZJ (pv 0) rfl) (ZJ (pv 0) rfl))))),?_⟩];sleep 1;cases h with
 |both h y f =>
  rename_i M i j e r1;have J:(RT.both e r1).depth=1+max e.depth r1.depth:=rfl;exact⟨_,rfl,a,_,_,_,_,rfl,h,c.VB,c.L0,rfl,_,rfl,a,_,_,_,_,rfl,h,c.VB,c.L8,rfl,
   λx S nx nd I=>⟨x,_,_,H,_,_,rfl,VZ nx nd,y,f,g,C,hd,(),(),λB D v=>⟨rfl,q x B D v⟩⟩⟩
 |_=>exact u.elim
theorem C5(c:Zv K mg t):∀n,VY P w K mg base t n
 |0=>by
  have no:∀{q:RT->Prop},∀vs H Q E,WW (rc t) K q 0 vs H Q E->False:=λvs H Q E h=>by
   ext⟨a,r,rfl,h,u,g,j,hd,hn,_⟩ h;have:=r.depth_pos;lia
  exact⟨ZbZ c 0,Zb0 c 0,
   c.LO.F.ok qZ (λvs H Q E h=>(no vs H Q E h).elim) (λf A outer s H vs Q E i h=>(no vs H Q E h).elim),Zb1 c 0,
   c.LQ.F.ok jB (λvs H Q E h=>(no vs H Q E h).elim) (λf A outer s H vs Q E i h=>(no vs H Q E h).elim),
   c.LS.F.ok jD (λvs H Q E h=>(no vs H Q E h).elim) (λf A outer s H vs Q E i h=>(no vs H Q E h).elim),
   c.LV.F.ok jF (λvs H Q E h=>(no vs H Q E h).elim) (λf A outer s H vs Q E i h=>(no vs H Q E h).elim)⟩
 |n+1=>have e:=C5 c n
  ⟨ZbZ c (n+1),Zb0 c (n+1),Zkb c n e,Zb1 c (n+1),Zkd c n e,Zke c n e,Zkc c n e⟩
def Zkf(c:Zv K mg t):Zo P w K mg base Zr 40 t.Lz t.RN ["self","first","last","rule"] (ZbR (rc t) K 7):=ZbV c 7 (C5 c 7)
def Zkg(c:Zv K mg t):Zo P w K mg base Zr 40 t.LF t.Tb ["self","days","rule"] (ZbS (rc t) K 7):=ZbW c 7 (C5 c 7)
def Zkh(c:Zv K mg t):Zo P w K mg base Zr 40 t.LB t.RY ["self","one","other"] (Mj (rc t) K 7 t.XO .either):=ZbX c 7 (C5 c 7)
def Zki(c:Zv K mg t):Zo P w K mg base Zr 40 t.LD t.R6 ["self","one","other"] (Mj (rc t) K 7 t.XQ .both):=ZbY c 7 (C5 c 7)
def Zkj(c:Zv K mg t):Zo P w K mg base Zr 40 t.Ly t.RI ["self","bits"] (ZbP (rc t) K):=(ZbT c).mono ()
def Zkk(c:Zv K mg t):Zo P w K mg base Zr 40 t.LA t.RS ["self","length","starts"] (ZbQ (rc t) K):=(ZbU c).mono ()
def tx(l:OJ):Str:=⟨l.toArray⟩
def V0(l:OJ):(tx l).length=l.length:=by show l.toArray.size=_;rw[SQ]
def Mn(a b:OJ):tx a++tx b=tx (a++b):=by
 show Str.mk (a.toArray++b.toArray)=_;rw[List.append_toArray];rfl
def Kh(l:OJ):(tx l).cps.toList=l:=by show l.toArray.toList=l;rfl
def Zkl(h:tx a=tx b):a=b:=by
 have:=congrArg (λz:Str=>z.cps.toList) h;rwa [Kh,Kh]at this
theorem Zb2:∀l:List Nat,Str.join (ON "") (l.map λc=>tx [c])=tx l
 |[]=>rfl
 |c::l=>by
  rw[SO,show ON ""=(⟨#[]⟩:Str)from R,PyProof.Rows.join_nil_cons];have e:=Zb2 l;rw[show ON ""=(⟨#[]⟩:Str)from R]at e;rw[e,Mn];rfl
def Zb3:∀i:Nat,i<26->YP (ON "abcdefghijklmnopqrstuvwxyz").cps.toList (i:Int)=some (97+i):=by lia
def Zkm(l:OJ)(h:l.length<=20):((l.map λc=>tx [c]).map λx=>x.length+(ON "").length).sum<=sizeLine :=
 ZfS (m:=0) () (by rwa[Sx]) λx e=>by
  obtain⟨c,_,rfl⟩:=SL.mp e;rw[V0,Sy];lia
structure Z6 where
 nm:Str
 z:Nat
 ch:Nat
structure Cl where
 st:Str
 ar:Nat
 lv:Nat
def Yq(H:Hp)(v:V)(c:Cl):Prop:=∃p,v=.ref p/\H p=some (.tup [.str c.st,.int (c.ar:Nat),.int (c.lv:Nat)])
def Yq.same(s:Zd H f)(h:Yq H v c):Yq f v c:=let ⟨p,e,h⟩:=h;⟨p,e,s _ _ h⟩
def Zb4(c k:Int):Int:=(c%1000000007+7919*k+13)*(c%1000000007+7919*k+13)%1000000007*(c%1000000007+7919*k+13)%998244353/11
def Wg(c k:Int):Nat:=(Zb4 c k).toNat
def Zkn(c k:Int):Zb4 c k=((Wg c k:Nat):Int):=by
 have e:∀z:Int,z%998244353/11=(((z%998244353/11).toNat:Nat):Int):=λz=>by lia
 exact e _
def zQ(c k:Int):Wg c k<998244353:=by
 have e:∀z:Int,(z%998244353/11).toNat<998244353:=λz=>by lia
 exact e _
inductive Zko(vs:List V)(H:Hp)(Q:VK)(_e3:XK):Prop|mk (c k:Int) (_:vs=[.int c,.int k]) (_:0<=k) (_:k<=100000) (_:Q (.int (Wg c k:Nat)) H)
def Uh(e:Zv K mg t):Zo P w K mg base Zr 1 t.kQ t.kR ["_law_cell","_law_k"] Zko:=by
 erw[e.VW.F.ok qV () λi A outer s H f Q E v h=>?_];ext⟨c,k,rfl,u,j,q⟩ h;erw[⟨_,(Zh (ZM 2 qV.nd (Zf Z9 (Zf Z9 (Zf ZZ (pv 0) Zc) (Zf VH Zc (pv 1))) Zc)) (Zi (ZA (Zf YN (Zf ZZ (Zf VH (Zf ZZ (Zf VH (pv 2) (pv 2)) Zc) (pv 2)) Zc) Zc)))),?_⟩];sleep 2;have g1:0<=c%1000000007:=Int.emod_nonneg _ ();have g2:c%1000000007<1000000007:=Int.emod_lt_of_pos _ ();erw[⟨_,R,_,_,R,R,(),_,R,_,_,R,R,.inl ⟨(),()⟩,_,_,R,R,_,_,R,R,?_⟩];refine⟨_,R,_,R,_,_,R,R,wU (by show 0<=c%1000000007+7919*k+13;lia) (by show c%1000000007+7919*k+13<_;lia),_,_,R,R,(),_,R,_,_,R,R,
  wU (by show 0<=c%1000000007+7919*k+13;lia) (by show c%1000000007+7919*k+13<_;lia),_,_,R,R,(),_,_,R,R,⟨(),()⟩,?_⟩
 rw[<-Zkn c k]at q;exact q
inductive Zkp(K:OA)(vs:List V)(H:Hp)(Q:VK)(_e3:XK):Prop|mk (a:Addr) (ns:OH) (k:Int) (_:vs=[.ref a,.int k]) (_:Zg K H a (ns.map V.int)) (_:0<=k) (_:∀d:Int,Q (.int d) H)
def zR(e:Zv K mg t):Zo P w K mg base Zr 2 t.kO t.kP ["_law_script","_law_k"] (Zkp K):=by
 erw[e.LM.F.ok ZhE () λy A outer s H v Q E C h=>?_];ext⟨a,ns,k,rfl,i,B,q⟩ h;erw[⟨_,(Zh (ZK (Ys KM (pv 1) (ZP Xt e.Xi Xh (Zk (pv 0)))) (Zi (ZA (Zw YC (pv 0) (pv 1)))) ZL) (Zi (ZA Zc))),?_⟩];sleep 2;erw[⟨_,R,_,R,a,_,R,.inl i,_,_,R,R,_,R,?_⟩];erw[VL (λc=>?_) (λc=>?_)];sleep 1;have u:k<((ns.map V.int).length:Nat):=SV c;rw[Sx]at u;have j:k.toNat<ns.length:=by lia
 have f:YP (ns.map V.int) ((k.toNat:Nat):Int)=some (.int ns[k.toNat]):=XZ (by rw[Oc,Sv j];rfl);rw[show((k.toNat:Nat):Int)=k by lia]at f;exact⟨_,R,_,R,a,_,_,_,R,R,i,f,q _⟩;sleep 1;exact q 0
def Wv(d n:Nat):List Nat:=(List.range n).map λj=>97+Wg (d:Nat) ((20+j:Nat):Int)%26
def U3(d n:Nat):(Wv d n).length=n:=by unfold Wv;rw[Sx,List.length_range]
def Zb5(d n:Nat):∀c∈Wv d n,97<=c/\c<=122:=λc h=>by
 obtain⟨j,_,rfl⟩:=SL.mp h;lia
def ZO(d k:Nat):Str:=tx ((Wv d (d%7)).take (d/7%(d%7+1))++[97+(d/56+3*k)%26]++(Wv d (d%7)).drop (d/7%(d%7+1)))
def Mo(d k:Nat):Yv (ZO d k):=by
 unfold ZO;erw[⟨?_,?_,λc e=>?_,trivial⟩];rw[V0,Sw,Sw,Sy];lia;rw[V0,Sw,Sw,Sy,Sz,SD,U3];lia;rw[Kh]at e;rcases SI.mp e with e|e;rcases SI.mp e with e|e;exact Zb5 d _ c (List.mem_of_mem_take e);rw[SG]at e;lia;exact Zb5 d _ c (List.mem_of_mem_drop e)
def zS(f:i<j)(c:j<8):ZO d i≠ZO d j:=λe=>by
 unfold ZO at e;have e:=Zkl e;rw[Of,Of]at e;have e:=List.append_cancel_left e;injection e with e _;lia
inductive Zkq(vs:List V)(H:Hp)(Q:VK)(_e3:XK):Prop|mk (d k:Nat) (_:vs=[.int d,.int k]) (_:k<=10) (_:∀H',Zd H H'->Q (.str (ZO d k)) H')
def Zkr(e:Zv K mg t):Zo P w K mg base Zr 2 t.kS t.kT ["_law_seed","_law_k"] Zkq:=by
 erw[e.Zbf.F.ok Lq () λY A outer s H X Q E S h=>?_];ext⟨d,k,rfl,T,q⟩ h;erw[⟨_,(Zh (ZM 2 Lq.nd ZH) (Zh (ZM 3 Lq.nd (V7 PySem.F.plainAttrs_str PySem.F.slot_str_join PySem.F.type_str_join ZfR ZH (Zk (V8 (cl:=[(ON "_law_seed",s.heap.objs.size+1),(ON "_law_letters",s.heap.objs.size+2)]) (N:=["_law_j","_law_letters","_law_seed"]) (fr:=[none,some 2,some 0]) R (Uq R e.VU (Zk (Zf ZZ (pv 0) Zc))) R () R () ⟨⟨R,Or.inl R,Or.inl R,_,R,R⟩,⟨⟨R,Or.inl R,Or.inl R,_,R,R⟩,trivial⟩⟩ ⟨R,⟨R,trivial⟩⟩ R (λ_ _ _ _ _=>(Z4 0 (show List.Nodup (["_law_j","_law_letters","_law_seed"]:OF) by lia))) (λ_ _ _ _ _=>VQ) (λ_ _ _ _ _=>(Zw xW (pv 1) (Zf ZZ (ZE e.VW (Uh e) S Zm (Zp (pv 2) (Zf Z9 Zc (pv 0)))) Zc))))))) (Zh (ZM 4 Lq.nd (Zf ZZ (Zf YN (pv 0) Zc) (Zf Z9 (ZP xY e.Xi Xh (Zk (pv 3))) Zc))) (Zi (ZA (Zf xA (Zf xA (QF wI (pv 3) Q8 (Ur (pv 4))) (Zw xW (pv 2) (Zf ZZ (Zf Z9 (Zf YN (pv 0) Zc) (Zf VH Zc (pv 1))) Zc))) (QF wI (pv 3) (Ur (pv 4)) Q8))))))),?_⟩];sleep 4;have O:(d:Int)%7=((d%7:Nat):Int):=by lia
 erw[⟨R,_,R,_,_,R,R,(),?_⟩];dsimp only;rw[O];erw[⟨_,R,(),(),Nd (λi C y B=>B=H/\C=((Wv d i).map λc=>tx [c]).map V.str/\∃v,y=[v,some (.str (ON "abcdefghijklmnopqrstuvwxyz")),some (.int d)]) ⟨R,R,none,R⟩ (Si (show _<=7 by lia) ()) ?_ ?_⟩];rintro i C y B U ha ⟨rfl,rfl,v,rfl⟩;dsimp only[XE,Vs];rw[SY R];have J:(20:Int)+(0+(i:Int))=((20+i:Nat):Int):=by lia
 erw[⟨_,R,_,R,_,R,_,_,R,R,?_⟩];dsimp only[Y5,Yj,Oe];rw[J];erw[⟨_,_,R,(),(),_,_,R,R,(),_,_,97+Wg (d:Nat) ((20+i:Nat):Int)%26,R,R,(),?_,?_⟩];have:=Zb3 (Wg (d:Nat) ((20+i:Nat):Int)%26) ();rw[show((Wg (d:Nat) ((20+i:Nat):Int)%26:Nat):Int)=((Wg (d:Nat) ((20+i:Nat):Int):Nat):Int)%26 by lia]at this;exact this;erw[⟨by rw[Sw,Sy];lia,R,?_,_,R⟩];unfold Wv;rw[Om,SN,SN,SN];rfl;rintro C y B ha ⟨rfl,rfl,v,rfl⟩ p L;have M:((d%7:Nat):Int).toNat=d%7:=by lia
 rw[M];have s2:=Zx L (.lst (((Wv d (d%7)).map λc=>tx [c]).map V.str));erw[⟨_,p,(Wv d (d%7)).map λc=>tx [c],R,R,Zg.of Zj,Zkm _ (by rw[U3];lia),?_⟩];rw[Zb2];have u:(tx (Wv d (d%7))).length<=sizeLine:=by rw[V0,U3];exact Si (show _<=7 by lia) ()
 erw[⟨_,R,_,_,R,R,⟨(),()⟩,_,R,_,R,u,_,_,R,R,_,_,R,R,(by show(0:Int)<((tx (Wv d (d%7))).length:Int)+1;lia),?_⟩];dsimp only;have I:(d:Int)/7%((((tx (Wv d (d%7))).length:Nat):Int)+1)=((d/7%(d%7+1):Nat):Int):=by
  have G:=SZ (d/7) (d%7+1);rw[V0,U3,G,S0 d 7];rfl
 rw[I];have j:d/7%(d%7+1)<=d%7:=by have:=Oq (d/7) (show d%7+1>0 by lia);lia
 unfold ZO at q;generalize d/7%(d%7+1)=f at j q ⊢;erw[⟨_,R,_,R,_,R,_,R,u,?_⟩];rw[Ze8 _ _ (by rwa[V0,U3]),Kh];erw[⟨_,R,_,R,_,_,R,R,⟨(),()⟩,_,R,_,_,R,R,.inl ⟨(),()⟩,_,_,R,R,_,_,R,R,(),_,_,97+(d/56+3*k)%26,R,R,(),?_,?_⟩];have:=Zb3 ((d/56+3*k)%26) ();rw[show(((d/56+3*k)%26:Nat):Int)=((d:Int)/56+3*(k:Int))%26 by lia]at this;exact this;have l1:((Wv d (d%7)).take f).length<=8:=by rw[Sz,U3];lia
 have l2:((Wv d (d%7)).drop f).length<=8:=by rw[SD,U3];lia
 erw[⟨_,_,R,R,?_,?_⟩];show(tx ((Wv d (d%7)).take f)).length+(tx [97+(d/56+3*k)%26]).length<=sizeLine;rw[V0,V0,Sy];exact Si (show _<=9 by lia) ();erw[⟨_,R,_,R,_,R,_,R,u,?_⟩];rw[Ze9 _ _ (by rwa[V0,U3]),Kh];erw[⟨_,_,R,R,?_,?_⟩];show(tx ((Wv d (d%7)).take f)++tx [97+(d/56+3*k)%26]).length+(tx ((Wv d (d%7)).drop f)).length<=sizeLine;rw[Mn,V0,V0,Sw,Sy];exact Si (show _<=17 by lia) ();have D:=q _ s2;rw[<-Mn,<-Mn]at D;exact D
structure Vj(NS:OF)(cs:List Cl):Prop where
 st:∀c∈cs,c.st∈NS
 rng:∀c∈cs,c.ar<=c.lv/\c.lv<=2879
 fol:∀i a b,cs[i]? = some a->cs[i+1]? = some b->b.st≠a.st/\a.lv<b.ar
 gap:∀i a b,cs[i]? = some a->cs[i+1]? = some b->b.ar<=a.lv+40
def Vj.nil(c:OF):Vj c []:=⟨(),(),(),()⟩
def Zb6(cs:List Cl)(v:V)(T:Nat):Prop:=(cs=[]/\v=.non)\/∃e c,cs=e++[c]/\v=.str c.st/\T=c.lv
def Vj.snoc{c:Cl}(h:Vj C cs)(l:Zb6 cs v T)(D:c.st∈C)(J:c.ar<=c.lv/\c.lv<=2879)(E:V.str c.st≠v)(I:T<c.ar)(G:c.ar<=T+40):Vj C (cs++[c]):=by
 erw[⟨λx q=>?_,λx q=>?_,λi a b j f=>?_,λi a b j f=>?_⟩];rcases SI.mp q with q|q;exact h.st x q;rwa[SG.mp q];rcases SI.mp q with q|q;exact h.rng x q;rwa[SG.mp q];have y:=(Su.mp f).1;rw[Sw,Sy]at y;by_cases H:i+1<cs.length;rw[List.getElem?_append_left ()]at j f;exact h.fol i a b j f;have u:i+1=cs.length:=by lia
 rw[u,Od (Sh _),Nat.sub_self]at f;obtain rfl:c=b:=Sr f;rw[List.getElem?_append_left ()]at j;rcases l with⟨rfl,_⟩|⟨B,k,rfl,rfl,rfl⟩;simp at u;rw[Sw,Sy]at u;rw[show i=B.length by lia,Od (Sh _),Nat.sub_self]at j;obtain rfl:k=a:=Sr j;exact⟨λe=>E (by rw[e]),I⟩;have y:=(Su.mp f).1;rw[Sw,Sy]at y;by_cases H:i+1<cs.length;rw[List.getElem?_append_left ()]at j f;exact h.gap i a b j f;have u:i+1=cs.length:=by lia
 rw[u,Od (Sh _),Nat.sub_self]at f;obtain rfl:c=b:=Sr f;rw[List.getElem?_append_left ()]at j;rcases l with⟨rfl,_⟩|⟨B,k,rfl,rfl,rfl⟩;simp at u;rw[Sw,Sy]at u;rw[show i=B.length by lia,Od (Sh _),Nat.sub_self]at j;obtain rfl:k=a:=Sr j;exact G
inductive Zks(vs:List V)(H:Hp)(Q:VK)(_e3:XK):Prop|mk (d many:Nat) (ls:Addr) (NS:OF) (_:vs=[.int d,.ref ls,.int many]) (_:H ls=some (.lst (NS.map V.str))) (_:NS.Nodup) (_:2<=NS.length) (_:NS.length<=8) (_:many<=5) (_:∀(cs:List Cl) l vs H',Zd H H'->H l=none->H' l=some (.lst vs)->Al (Yq H') vs cs->Vj NS cs->cs.length=many->Q (.ref l) H')
def Zkt{i:OF}(nd:i.Nodup)(f:2<=i.length)(v:V):(i.filter λz=>!decide (V.str z=v))≠[]:=by
 match i,nd,f with
 |a::b::r,nd,_ =>
  have j:a≠b:=λe=>(On.mp nd).1 (by rw[e];exact SF);intro e;have c:¬ ((!decide (V.str a=v))=true):=λh=>by have:a∈([]:OF):=e ▸ List.mem_filter.mpr ⟨SF,h⟩;cases this
  have f:¬ ((!decide (V.str b=v))=true):=λh=>by have:b∈([]:OF):=e ▸ List.mem_filter.mpr ⟨SE _ SF,h⟩;cases this
  simp at c f;rw[<-f]at c;injection c with c;exact j c
def Zku(y:Zv K mg t):Zo P w K mg base Zr 2 t.gB t.gC ["_law_number","_law_stops","_law_many"] Zks:=by
 erw[y.Zbg.F.ok Ue () λv0 A outer s H u u0 w0 hr l0=>?_];ext⟨d,many,Z,c,rfl,h0,nd,n2,n8,hm,m0⟩ l0;erw[⟨_,(Zh (ZM 3 Ue.nd (Z7 Xs)) (Zh (ZM 4 Ue.nd (Zf Z9 (Zw YC (Z7 (Uw Zc Zc Zc Zc)) (Zf ZZ (pv 0) Zc)) (Zf ZZ (Zf YN (pv 0) Zc) Zc))) (Zh (ZM 5 Ue.nd Ul) (Zh (Xq (Uq R y.VU (Zk (pv 2))) (Z4 6 Ue.nd) (Zh (ZM 7 Ue.nd (ZE y.VW (Uh y) hr Zm (Zp (pv 0) (Zf Z9 Zc (pv 6))))) (Zh (Nr (i0:=8) (cl:=[(ON "_law_last",s.heap.objs.size+1)]) (N:=["_law_stop","_law_last"]) (fr:=[none,some 5]) Ue.nd R (Or.inl R) R (Wo (pv 1)) R () R () ⟨⟨R,Or.inl R,Or.inl R,_,R,R⟩,trivial⟩ ⟨R,trivial⟩ R (λ_ _ _ _ _=>(Z4 0 (show List.Nodup (["_law_stop","_law_last"]:OF) by lia))) (λ_ _ _ _ _=>(wP (Ys E5 (pv 0) (pv 1)))) (λ_ _ _ _ _=>(pv 0))) (Zh (ZM 5 Ue.nd (Zw YC (pv 8) (Zf ZZ (pv 7) (ZP Xt y.Xi Xh (Zk (pv 8)))))) (Zh (ZM 9 Ue.nd (Zf Z9 (Zf Z9 (pv 4) Zc) (Zf ZZ (Zf YN (pv 7) Zc) Zc))) (Zh (ZM 10 Ue.nd (Zf Z9 (pv 9) (Zf ZZ (Zf YN (pv 7) Zc) Zc))) (Zh (Z1 (V7 PySem.F.plainAttrs_list PySem.F.slot_list_append PySem.F.type_list_append Us (pv 3) (Zk (Yp (Yk (pv 5) (pv 9) (pv 10)))))) (Zi (ZM 4 Ue.nd (pv 10)))))))))) (Zi (ZA (pv 3))))))),?_⟩];sleep 5;erw[⟨zL9 R,λh d0=>?_⟩];have s1:=Zx d0 (.lst []);have k1:=@Zj H h (.lst []);generalize Za H h (.lst [])=H1 at s1 k1 ⊢;erw[⟨zL9 R,λp2 n0=>?_⟩];have s2:=Zx n0 (.lst [.int 300,.int 600,.int 1380,.int 2600]);have k2:=@Zj H1 p2 (.lst [.int 300,.int 600,.int 1380,.int 2600]);generalize Za H1 p2 (.lst [.int 300,.int 600,.int 1380,.int 2600])=H2 at s2 k2 ⊢;obtain⟨B,hB,eB⟩:∃B:Nat,B<=2600/\YP [V.int 300,.int 600,.int 1380,.int 2600] ((d:Int)%4)=some (.int (B:Nat)):=by
  have h4:d%4<4:=Oq _ ();rw[show(d:Int)%4=((d%4:Nat):Int) by lia];generalize d%4=m at h4 ⊢
  match m,h4 with
  |0,_=>exact⟨300,(),R⟩
  |1,_=>exact⟨600,(),R⟩
  |2,_=>exact⟨1380,(),R⟩
  |3,_=>exact⟨2600,(),R⟩
 erw[⟨_,R,_,_,R,R,(),p2,_,_,_,R,R,Zg.of k2,eB,_,R,_,_,R,R,⟨(),()⟩,_,_,R,R,(),_,_,R,R,?_⟩];have S2:=s1.trans s2;have eT:(B:Int)+(d:Int)/4%60=((B+d/4%60:Nat):Int):=by lia
 erw[⟨_,R,_,R,(),(),?_⟩];have en:(many:Int).toNat=many:=by lia
 refine UH (n:=(many:Int).toNat) (λi q f=>Zd H f/\∃(cs:List Cl) (u:List V) (T:Nat) (lv:V),f h=some (.lst u)/\Al (Yq (wo f h)) u cs/\Vj c cs/\cs.length=i/\Zb6 cs lv T/\T<=2659+44*i /\
  ∃v6 Q v8 S a0:Option V,q=[some (.int d),some (.ref Z),some (.int many),some (.ref h),some (.int T),some lv,v6,Q,v8,S,a0])
  ⟨S2,[],[],B+d/4%60,.non,s2 _ _ k1,.nil,(Vj.nil c),R,.inl ⟨R,R⟩,(),none,none,none,none,none,?_⟩ ?_ ?_
 rw[<-eT];rfl;rintro i q U hi ⟨C,cs,u,T,lv,I,J,ok,e0,last,hT,v6,Q,v8,S,a0,rfl⟩;rw[en]at hi;rw[show(0:Int)+(i:Int)=(i:Int) by lia];sleep 107;have q0:(50:Int)+(i:Int)=((50+i:Nat):Int):=by lia
 erw[⟨_,R,_,R,_,_,R,R,?_⟩];dsimp only[Y5,Yj,Oe];rw[q0];erw[⟨_,_,R,(),(),?_⟩];generalize Wg (d:Int) ((50+i:Nat):Int)=m;erw[⟨_,R,Z,R,⟨_,Zg.of (C _ _ h0)⟩,UM (K:=K) (a:=Z) (xs:=c.map V.str) (λj O q f=>f=U/\O=(((c.take j).filter λz=>!decide (V.str z=lv))).map V.str/\∃c0,q=[c0,some lv]) ⟨R,R,none,R⟩ (by rw[Sx];exact Si n8 ()) (λj O q f _ ⟨e,_⟩=>by rw[e];exact Zg.of (C _ _ h0)) ?_ ?_⟩];rintro j r0 O q f hj D ⟨rfl,rfl,c0,rfl⟩;rw[Oc]at D;cases v:c[j]? with
 |none=>rw[v]at D;cases D
 |some z =>
  rw[v]at D;obtain rfl:V.str z=r0:=Sr D;have et:c.take (j+1)=c.take j++[z]:=by rw[Ob,v];rfl
  have sc:MS (.str z) lv=true:=by
   rcases last with⟨_,rfl⟩|⟨_,_,_,rfl,_⟩<;>rfl
  dsimp only[XE];erw[⟨_,R,_,R,sc,_,R,?_⟩];cases hb:(!decide (V.str z=lv))with
  |true =>
   erw[Z3 R ⟨_,R,by rw[Sw,Sy];lia,R,?_,_,R⟩];rw[et,List.filter_append,List.filter_cons,hb,SN];rfl
  |false =>
   erw[Zq SR ⟨(),R,?_,_,R⟩];rw[et,List.filter_append,List.filter_cons,hb];simp
 rintro O q f ha ⟨rfl,rfl,c0,rfl⟩ E b0;rw[Sx,List.take_length];have G:=Zx b0 (.lst ((c.filter λz=>!decide (V.str z=lv)).map V.str));have M:=@Zj f E (.lst ((c.filter λz=>!decide (V.str z=lv)).map V.str));have j0:=Zkt nd n2 lv;have t0:E≠h:=λe=>by rw[e,I]at b0;cases b0
 generalize Za f E (.lst ((c.filter λz=>!decide (V.str z=lv)).map V.str))=H4 at G M ⊢;have g0:∀z∈c.filter (λz=>!decide (V.str z=lv)),z∈c/\V.str z≠lv:=λz v=>by
  have:=List.mem_filter.mp v;exact⟨this.1,by simpa using this.2⟩
 generalize c.filter (λz=>!decide (V.str z=lv))=L at M j0 g0 ⊢;have hL:0<L.length:=List.length_pos_iff.mpr j0;have lp:(0:Int)<(((L.map V.str).length:Nat):Int):=by rw[Sx];lia
 obtain⟨z,v,ez⟩:∃z∈L,YP (L.map V.str) ((m:Int)%(((L.map V.str).length:Nat):Int))=some (.str z):=by
  have f0:m%L.length<L.length:=Oq _ hL;erw[⟨L[m%L.length],Ol f0,?_⟩];rw[Sx,<-SZ];exact XZ (by rw[Oc,Sv f0];rfl)
 obtain⟨k0,s0⟩:=g0 z v;erw[⟨_,R,_,R,_,R,E,_,R,.inl (Zg.of M),_,_,R,R,lp,E,_,_,_,R,R,Zg.of M,ez,?_⟩];erw[⟨_,R,_,_,R,R,_,R,_,_,R,R,⟨(),()⟩,_,_,R,R,(),_,_,R,R,?_⟩];dsimp only;rw[show(T:Int)+1+(m:Int)/8%40=((T+1+m/8%40:Nat):Int) by lia];erw[⟨_,R,_,R,_,_,R,R,⟨(),()⟩,_,_,R,R,(),_,_,R,R,?_⟩];dsimp only;rw[show((T+1+m/8%40:Nat):Int)+(m:Int)/320%5=((T+1+m/8%40+m/320%5:Nat):Int) by lia];have Y:=G _ _ I;erw[⟨_,R,.inl ⟨R,_,Zg.of Y⟩,_,R,_,R,_,R,zL9 R,λpt gt=>?_⟩];have p0:pt≠h:=λe=>by rw[e,Y]at gt;cases gt
 have X:=Zx gt (.tup [.str z,.int ((T+1+m/8%40:Nat):Int),.int ((T+1+m/8%40+m/320%5:Nat):Int)]);have o0:u.length<=6:=by rw[J.length];lia
 erw[⟨h,_,_,R,R,X _ _ Y,Sk o0 (),?_⟩];erw[⟨_,R,Y3 ((C.trans G).trans X) d0 _,cs++[⟨z,T+1+m/8%40,T+1+m/8%40+m/320%5⟩],u++[.ref pt],T+1+m/8%40+m/320%5,.str z,Zj,?_,ok.snoc last k0 ⟨by show T+1+m/8%40<=T+1+m/8%40+m/320%5;lia,by show T+1+m/8%40+m/320%5<=2879;lia⟩ s0 (by show T<T+1+m/8%40;lia) (by show T+1+m/8%40<=T+40;lia),by rw[Sw,Sy,e0],.inr ⟨cs,_,R,R,R⟩,(),_,_,_,_,_,R⟩];rw[B2];erw[(J.imp λ_ _=>Yq.same (QJ (G.trans X))).app (.cons ⟨pt,R,?_⟩ .nil)];rw[Qj p0];exact Zj;rintro q U ⟨C,cs,u,T,lv,I,J,ok,e0,last,hT,v6,Q,v8,S,a0,rfl⟩;exact⟨_,R,m0 cs h u U C d0 I (J.imp λ_ _=>Yq.same WP) ok (by rw[e0,en])⟩
def Qt(b:Int)(c:Cl)(l:Nat):Str×Int×Int:=(c.st,b+l+c.ar,b+l+c.lv)
def Y1(b:Int)(cs:List Cl)(ls:OJ):List (Str×Int×Int):=List.zipWith (Qt b) cs ls
def X5(H:Hp)(v:V)(c:Str×Int×Int):Prop:=∃p,v=.ref p/\H p=some (.tup [.str c.1,.int c.2.1,.int c.2.2])
def X5.same(s:Zd H f)(h:X5 H v c):X5 f v c:=let ⟨p,e,h⟩:=h;⟨p,e,s _ _ h⟩
inductive Zkv(K:OA)(vs:List V)(H:Hp)(Q:VK)(_e3:XK):Prop|mk (a la:Addr) (b:Int) (cvs:List V) (cs:List Cl) (ls:OJ) (_:vs=[.ref a,.int b,.ref la]) (_:Zg K H a cvs) (_:Al (Yq H) cvs cs) (_:Zg K H la (ls.map λn=>V.int (n:Nat))) (_:cs.length<=6) (_:ls.length=cs.length) (_:∀l vs H',Zd H H'->H l=none->H' l=some (.lst vs)->Al (X5 H') vs (Y1 b cs ls)->Q (.ref l) H')
def zT(I:Zv K mg t):Zo P w K mg base Zr 1 t.kK t.kL ["calls","begin","late"] (Zkv K):=by
 erw[I.LL.F.ok ZhD () λd0 A outer s H vs b0 e0 hr h=>?_];ext⟨a,la,b,Y,cs,e,rfl,L,Q,T,l6,el,q⟩ h;erw[⟨_,(Zi (ZA (V8 (cl:=[(ON "begin",s.heap.objs.size+1)]) (N:=["call","minutes","begin"]) (fr:=[none,none,some 1]) R (Zf3 R I.Zil (Zp (pv 0) (pv 2))) R () R () ⟨⟨R,Or.inl R,Or.inl R,_,R,R⟩,trivial⟩ ⟨R,trivial⟩ R (λ_ _ _ _ _=>(show PG _ _ (KD K 2 _)from WJ R (YQ (Z4 0 (show List.Nodup (["call","minutes","begin"]:OF) by lia)) (YQ (Z4 1 (show List.Nodup (["call","minutes","begin"]:OF) by lia)) WI)))) (λ_ _ _ _ _=>VQ) (λ_ _ _ _ _=>(Yp (Yk (Zw (show VJ _ (A0 K)from ZN) (pv 0) Zc) (Zf Z9 (Zf Z9 (pv 2) (pv 1)) (Zw (show VJ _ (A0 K)from ZN) (pv 0) Zc)) (Zf Z9 (Zf Z9 (pv 2) (pv 1)) (Zw (show VJ _ (A0 K)from ZN) (pv 0) Zc)))))))),?_⟩];sleep 1;have lc:=Q.length;have X:(Y1 b cs e).length=cs.length:=by unfold Y1;rw[List.length_zipWith,el,Nat.min_self]
 erw[⟨_,R,_,R,a,la,R,⟨_,L⟩,⟨_,T⟩,Zg7 (K:=K) (a:=a) (b:=la) (xs:=Y) (ys:=e.map λn=>V.int (n:Nat)) (λi f y G=>Zd H G/\Al (X5 G) f ((Y1 b cs e).take i)/\∃D E,y=[D,E,some (.int b)]) ⟨Zd.refl H,.nil,none,none,R⟩ (Si (show _<=6 by lia) ()) (λi f y G _ _ ⟨s,_⟩=>⟨s.seq L,s.seq T⟩) ?_ ?_⟩];rintro i x c0 p f y S ha hx O hp ⟨v,B,D,E,rfl⟩;obtain⟨c,ec,u,rfl,U⟩:=Q.get hx;rw[Oc]at O;obtain⟨l,Z,rfl⟩:=Oh.mp O;have j:=Zx hp (.tup [.ref u,.int l]);erw[⟨p,_,R,Zl.of Zj,R,_,_,R,_,_,R,R,?_⟩];dsimp only[Vs];rw[SY R];have C:=j _ _ (v _ _ U);generalize Za S p (.tup [.ref u,.int l])=H2 at j C ⊢;erw[⟨_,R,u,_,0,_,R,R,Zl.of C,R,_,R,_,R,_,_,R,R,_,R,u,_,1,_,R,R,Zl.of C,R,_,_,R,R,_,R,_,R,_,_,R,R,_,R,u,_,2,_,R,R,Zl.of C,R,_,_,R,R,zL9 R,λp3 g3=>?_⟩];have J:=j.trans (Zx g3 (.tup [.str c.st,.int (b+(l:Int)+((c.ar:Nat):Int)),.int (b+(l:Int)+((c.lv:Nat):Int))]));erw[⟨by rw[Sw,Sy];lia,v.trans J,?_,_,_,R⟩];have em:(Y1 b cs e)[i]? = some (Qt b c l):=by
  unfold Y1;rw[List.getElem?_zipWith,ec,Z]
 rw[Ob,em];exact(B.imp λ_ _=>X5.same J).snoc ⟨p3,R,Zj⟩;rintro i f y S hi _ ⟨v,B,D,E,rfl⟩ l M;have a0:(Y1 b cs e).take i=Y1 b cs e:=Oa (by rw[X,hi,Sx];lia);rw[a0]at B;have j:=Zx M (.lst f);exact q l f _ (v.trans j) (v.free M) Zj (B.imp λ_ _=>X5.same j)
def V2(c a:Str×Int×Int):Bool:=!decide (V.str c.1=V.str a.1) && decide (c.2.1>a.2.2)
inductive Zkw(vs:List V)(H:Hp)(Q:VK)(_e3:XK):Prop|mk (v u:V) (c a:Str×Int×Int) (_:vs=[v,u]) (_:X5 H v c) (_:X5 H u a) (_:Q (.bl (V2 c a)) H)
def Zb7(i:Zv K mg t):Zo P w K mg base Zr 1 t.kI t.kJ ["call","ahead"] Zkw:=by
 erw[i.Tq.F.ok ZhC () λy A outer s H j Q E B h=>?_];ext⟨v,u,c,a,rfl,⟨p,rfl,f⟩,⟨r,rfl,e⟩,q⟩ h;erw[⟨_,(Zi (ZA (UG (WB E5 (Zw ZN (pv 0) Zc) (Zw ZN (pv 1) Zc) (Vo _)) (Vl (WB QC (Zw ZN (pv 0) Zc) (Zw ZN (pv 1) Zc) (Vo _)))))),?_⟩];sleep 1;erw[⟨_,R,p,_,0,_,R,R,Zl.of f,R,_,R,r,_,0,_,R,R,Zl.of e,R,R,_,R,?_⟩];unfold V2 at q;erw[VL (λz=>?_) (λz=>?_)];erw[⟨_,R,p,_,1,_,R,R,Zl.of f,R,_,R,r,_,2,_,R,R,Zl.of e,R,_,_,R,R,?_⟩];rw[show(!decide (V.str c.1=V.str a.1))=true from z,Ow]at q;exact q;rw[show(!decide (V.str c.1=V.str a.1))=false by simpa using z,Bool.false_and]at q;exact q
abbrev R3:=RT
def R3.Ok(r:R3):Prop:=RT.good r/\RT.weight r<=15/\RT.depth r<=8
def X6(t:Ye)(H:Hp)(v:V)(r:R3):Prop:=∃b,v=.ref b/\ZT (rc t) t.kf H b r
def X6.same(s:Zd H c)(h:X6 t H v r):X6 t c v r:=let ⟨b,e,h⟩:=h;⟨b,e,h.same s⟩
inductive Zkx(t:Ye)(vs:List V)(H:Hp)(Q:VK)(_e3:XK):Prop|mk (v:V) (r:R3) (_:vs=[v]) (_:X6 t H v r) (_:r.Ok) (_:True) (_:∀v' H',Zd H H'->X6 t H' v' r->Q v' H')
def Zb8(c:Zv K mg t):Zo P w K mg base Zr 43 t.Ry t.Rz ["rule"] (Zkx t) :=
 (QT c 8 (C5 c 8)).imp λy H Q E ⟨v,r,e,⟨b,i,f⟩,ok,_,q⟩=>by
  subst i;rw[c.kf]at f;exact⟨b,r,e,f,ok.1,ok.2.1,ok.2.2,ok.2.2,λu B j h=>q _ _ j ⟨u,R,by rw[c.kf];exact h.same (Uc _ _)⟩⟩
def ZT.keepF(e:∀x C dx (fs:List (Str×V)),fs.lookup ("timetable" : Str)=none->H x=some (.ins C dx fs)->u x=some (.ins C dx fs)) (v:∀p xs,Zl K H p xs->Zl K u p xs) (h:ZT c K H a r):ZT c K u a r:=by
 induction h with
 |always h=>exact .always (e _ _ _ _ R h)
 |week h y=>exact .week (e _ _ _ _ R h) y
 |span h D B _ q=>exact .span (e _ _ _ _ R h) D B q
 |each h hn E i=>exact .each (e _ _ _ _ R h) hn E (v _ _ i)
 |either h _ _ j f=>exact .either (e _ _ _ _ R h) j f
 |both h _ _ j f=>exact .both (e _ _ _ _ R h) j f
 |but h i _ q=>exact .but (e _ _ _ _ R h) (v _ _ i) q
def Ki(k1:H p=some (.tup xs)->c p=some (.tup xs))(k2:∀o,H p=some (.frz o (.tup xs))->c p=some (.frz o (.tup xs)))(h:Zl K H p xs):Zl K c p xs :=
 h.imp (λr=>r.imp k1 λ⟨o,e⟩=>⟨o,k2 o e⟩) id
def Qi{b:Nat}{lo hi:Int}(h1:lo<=b)(c:(b:Int)<=hi):F3 (.int b) lo hi=true:=SS ⟨h1,c⟩
def C6:Str:=⟨#[97,98,99,100,101,102,103,104,105,106,107,108,109,110,111,112,113,114,115,116,117,118,119,120,121,122]⟩
def Zky:ON "abcdefghijklmnopqrstuvwxyz"=C6:=by lia
def Zkz:∀i:Nat,i<26->UL C6 (97+i)=true:=by lia
def ZkA{z:Str}(h:Yv z):((z.cps.toList.map λc=>UL C6 c).all id)=true:=by
 rw[List.all_eq_true];intro b f;obtain⟨c,i,rfl⟩:=SL.mp f;have:=h.2.2.1 c i;have e:=Zkz (c - 97) ();rw[show 97+(c - 97)=c by lia]at e;exact e
inductive ZkB(vs:List V)(H:Hp)(Q:VK)(_e3:XK):Prop|mk (b:Nat) (lo hi:Int) (_:vs=[.int b,.int lo,.int hi]) (_:lo<=b) (_:(b:Int)<=hi) (_:Q .non H)
def U4(c:Zv K mg t):Zo P w K mg base Zr 3 t.jT t.jU ["value","least","most"] ZkB:=by
 erw[c.Ux.F.ok Zhv () λv A outer s H u Q E j h=>?_];ext⟨b,lo,f,rfl,i,e,q⟩ h;erw[⟨_,(Zi (ZK (Yz (Yy (ZE c.UY (Qs c) j Zm (Yk (pv 0) (pv 1) (pv 2))))) (Zi Xb) ZL)),?_⟩];sleep 1;exact⟨_,R,_,R,_,R,.int b,lo,f,"int",R,.int _,_,R,Zq (by rw[Qi i e];lia) q⟩
inductive ZkC(vs:List V)(H:Hp)(Q:VK)(_e3:XK):Prop|mk (z:Str) (_:vs=[.str z]) (_:Yv z) (_:∀H',Zd H H'->Q (.bl true) H')
def ZkD(e:Zv K mg t):Zo P w K mg base Zr 1 t.jX t.jY ["value"] ZkC:=by
 erw[e.Zbc.F.ok Zhw () λy A outer s H v Q E B h=>?_];ext⟨z,rfl,hn,q⟩ h;ext⟨tk,i⟩ e.Zim;rw[Zky]at i;have f:z.length<=sizeLine:=Si hn.2.1 ();erw[⟨_,(Zh (ZK (PW.pt (Uo (Yz (Yy (ZP VN e.YW YV (Zp (pv 0) (Vr R e.LJ Lv))))) (Um (Yz (MU Vn Vn Zc (ZP xY e.Xi Xh (Zk (pv 0))) (YR R e.Zin)))))) (Zi (ZA WA)) ZL) (Zi (ZA (ZP (K4 R) e.LH Ls (Zk (ZeT (cl:=[]) R (pv 0) R () R () R)))))),?_⟩];sleep 2;erw[⟨_,R,.str z,"str",_,_,R,(Kd.str z).ty (H:=H),wT (H:=H) (.str z),_,R,Zq () ?_⟩];erw[⟨_,R,z,R,f,_,_,R,R,_,R,Z3 (SS (by have:=hn.1;lia)) ?_⟩];erw[⟨_,_,R,R,_,R,Zq (by rw[SS (show((z.length:Nat):Int)<=8 by have:=hn.2.1;lia)];lia) ?_⟩];sleep 1;erw[⟨C6,ZeU (t:=tk) R R i,_,R,z,R,f,λp u=>?_⟩];erw[⟨p,z.cps.toList.map (λc=>UL C6 c),R,Zg.of (by rw[Zj,Ze6]),?_⟩];have j:=q _ (Zx u (HO.lst (z.cps.toList.map λc=>V.bl (UL C6 c))));rw[<-ZkA hn]at j;exact j
inductive ZkE(vs:List V)(H:Hp)(Q:VK)(_e3:XK):Prop|mk (z:Str) (d:Addr) (kvs:List (Zn×V)) (_:vs=[.str z,.ref d]) (_:H d=some (.dK kvs)) (_:Q (.bl (ZD kvs (Sum.inr z)).isSome) H)
def C7(c:Zv K mg t):Zo P w K mg base Zr 1 t.jZ t.kA ["value","named"] ZkE:=by
 erw[c.QO.F.ok Zhx () λi A outer s H f Q E e h=>?_];ext⟨z,d,j,rfl,hd,q⟩ h;erw[⟨_,(Zi (ZA (UG (ZP VN c.YW YV (Zp (pv 0) (Vr R c.LJ Lv))) (Vl (Zdh (G0 (Xk e) (pv 0) (pv 1))))))),?_⟩];sleep 1;exact⟨_,R,.str z,"str",_,_,R,(Kd.str z).ty (H:=H),wT (H:=H) (.str z),_,R,Z3 () ⟨_,R,_,R,d,_,R,Yr.k (k:=Sum.inr z) hd,q⟩⟩
inductive ZkF(vs:List V)(H:Hp)(Q:VK)(_e3:XK):Prop|mk (z:Str) (d:Addr) (kvs:List (Zn×V)) (_:vs=[.str z,.ref d]) (_:H d=some (.dK kvs)) (_:Yv z) (_:ZD kvs (Sum.inr z)=none) (_:∀H',Zd H H'->Q .non H')
def Mp(c:Zv K mg t):Zo P w K mg base Zr 2 t.kD t.kE ["name","named"] ZkF:=by
 erw[c.JX.F.ok ZhA () λv A outer s H u Q E f h=>?_];ext⟨z,d,y,rfl,hd,hn,i,q⟩ h;erw[⟨_,(Zh (ZK (Yz (Yy (ZE c.Zbc (ZkD c) f Zm (Zk (pv 0))))) (Zi Xb) ZL) (Zi (ZK (UF (G0 (Xk f) (pv 0) (pv 1))) (Zi Xb) ZL))),?_⟩];sleep 2;erw[⟨_,R,z,R,hn,λj e=>⟨_,R,Zq () ?_⟩⟩];sleep 1;exact⟨_,R,_,R,d,_,R,Yr.k (k:=Sum.inr z) (e _ _ hd),_,R,Zq (by rw[i];lia) (q j e)⟩
inductive ZkG(vs:List V)(H:Hp)(Q:VK)(_e3:XK):Prop|mk (d:Addr) (kvs:List (Zn×V)) (n:Int) (_:vs=[.ref d,.int n]) (_:H d=some (.dK kvs)) (_:(kvs.length:Int)<n) (_:Q .non H)
def Mq(c:Zv K mg t):Zo P w K mg base Zr 1 t.RA t.RB ["kept","most"] ZkG:=by
 erw[c.QP.F.ok qT () λi A outer s H f Q E u h=>?_];ext⟨d,e,n,rfl,hd,j,q⟩ h;erw[⟨_,(Zi (ZK (Ys yV (ZP Zgq c.Xi Xh (Zk (pv 0))) (pv 1)) (Zi Xb) ZL)),?_⟩];sleep 1;exact⟨_,R,d,e,R,hd,_,R,_,_,R,R,_,R,Zq (by rw[SU ()];lia) q⟩
def ZQ{c:Type}(nm:c->Str)(xs:List c)(z:Str):Option c:=xs.find? λx=>decide (nm x=z)
def C8{c:Type}{nm:c->Str}{xs:List c}{z:Str}{x:c}(h:ZQ nm xs z=some x):x∈xs/\nm x=z:=⟨List.mem_of_find?_eq_some h,SV (List.find?_some (p:=λx=>decide (nm x=z)) h)⟩
def Xr{j:Type}{nm:j->Str}{R:Zn×V->j->Prop}(v:∀c x,R c x->c.1=Sum.inr (nm x)){rows:List (Zn×V)}{xs:List j}(h:Al R rows xs)(z:Str) :
  (ZQ nm xs z=none->ZD rows (Sum.inr z)=none)/\∀x,ZQ nm xs z=some x->∃c,ZD rows (Sum.inr z)=some c.2/\R c x:=by
 induction h with
 |nil=>exact⟨λ_=>rfl,λk e=>by cases e⟩
 |@cons c k rows xs q _ B =>
  by_cases e:nm k=z;have i:c.1=Sum.inr z:=by rw[v _ _ q,e]
  have f:ZQ nm (k::xs) z=some k:=by unfold ZQ;rw[List.find?_cons,SS e]
  erw[⟨λn=>(by rw[f]at n;cases n),λC u=>?_⟩];rw[f]at u;cases u;exact⟨c,Ve i,q⟩;have i:c.1≠Sum.inr z:=λx=>e (by rw[v _ _ q]at x;exact Sum.inr.inj x);have f:ZQ nm (k::xs) z=ZQ nm xs z:=by unfold ZQ;rw[List.find?_cons,SU e]
  have y:ZD (c::rows) (Sum.inr z)=ZD rows (Sum.inr z):=by unfold ZD;rw[List.find?_cons,SU i]
  rwa[f,y]
def Kj{c:Type}{nm:c->Str}{xs:List c}(nd:(xs.map nm).Nodup){i:Nat}{x:c}(e:xs[i]? = some x):ZQ nm (xs.take i) (nm x)=none:=by
 unfold ZQ;rw[List.find?_eq_none];intro y h;rw[decide_eq_true_eq];intro ex;obtain⟨j,v,f⟩:=List.mem_iff_getElem.mp h;rw[Sz]at v;obtain⟨q,u⟩:=Su.mp e;rw[List.getElem_take]at f;have:=List.pairwise_iff_getElem.mp nd j i (by rw[Sx];lia) (by rwa[Sx]) ();rw[List.getElem_map,List.getElem_map,f,u]at this;exact this ex
def Kk{c:Type}{nm:c->Str}{xs:List c}{x:c}(h:x∈xs):∃y,ZQ nm xs (nm x)=some y:=by
 cases e:ZQ nm xs (nm x)with
 |some y=>exact⟨y,R⟩
 |none =>
  unfold ZQ at e;rw[List.find?_eq_none]at e;exact Ov (SS R) (e x h)
def Mr{v:Type}{nm:v->Str}{xs:List v}(nd:(xs.map nm).Nodup){x:v}(h:x∈xs):ZQ nm xs (nm x)=some x:=by
 obtain⟨y,c⟩:=Kk (nm:=nm) h;have:=C8 c;obtain⟨i,B,q⟩:=List.mem_iff_getElem.mp h;obtain⟨j,C,f⟩:=List.mem_iff_getElem.mp this.1;by_cases e:i=j;subst e;rw[c,<-q,f];exfalso;rcases Nat.lt_or_gt_of_ne e with u|u;have:=List.pairwise_iff_getElem.mp nd i j (by rwa[Sx]) (by rwa[Sx]) u;rw[List.getElem_map,List.getElem_map,f,q]at this;exact this (by rw[(C8 c).2]);have:=List.pairwise_iff_getElem.mp nd j i (by rwa[Sx]) (by rwa[Sx]) u;rw[List.getElem_map,List.getElem_map,f,q]at this;exact this (by rw[(C8 c).2])
structure Wl where
 o:Str
 t:Str
 m:Nat
structure Yi where
 nm:Str
 r:R3
structure WX where
 nm:Str
 pr:Nat
 la:Nat
 zs:List Nat
structure Tp where
 nm:Str
 ru:Str
 cs:List Cl
structure WX.Ok(k:WX):Prop where
 nm:Yv k.nm
 pr:k.pr<=10000
 la1:1<=k.la
 la:k.la<=1440
 z1:1<=k.zs.length
 z6:k.zs.length<=6
 up:k.zs.Pairwise (· < ·)
 rng:∀z∈k.zs,1<=z/\z<=6
def Wh(H:Hp)(c:Zn×V)(k:WX):Prop:=c.1=Sum.inr k.nm/\∃r z,c.2=.ref r/\H r=some (.tup [.int (k.pr:Nat),.int (k.la:Nat),.ref z])/\H z=some (.tup (YB k.zs))
def Wh.same(s:Zd H c)(h:Wh H f k):Wh c f k:=let ⟨e,r,z,e1,e2,e3⟩:=h;⟨e,r,z,e1,s _ _ e2,s _ _ e3⟩
def Y2(H:Hp)(c:Zn×V)(k:Z6):Prop:=c.1=Sum.inr k.nm/\∃r,c.2=.ref r/\H r=some (.tup [.int (k.z:Nat),.int (k.ch:Nat)])
def Y2.same(s:Zd H c)(h:Y2 H f k):Y2 c f k:=let ⟨e,r,e1,e2⟩:=h;⟨e,r,e1,s _ _ e2⟩
def Xu(H:Hp)(e:Zn×V)(k:Tp):Prop:=e.1=Sum.inr k.nm/\∃r q c,e.2=.ref r/\H r=some (.tup [.str k.ru,.ref q])/\H q=some (.tup c)/\Al (Yq H) c k.cs
def Xu.same(s:Zd H c)(h:Xu H f k):Xu c f k:=let ⟨e,r,q,vs,e1,e2,e3,e4⟩:=h;⟨e,r,q,vs,e1,s _ _ e2,s _ _ e3,e4.imp λ_ _=>Yq.same s⟩
def XR(t:Ye)(H:Hp)(c:Zn×V)(k:Yi):Prop:=c.1=Sum.inr k.nm/\X6 t H c.2 k.r
def XR.same(s:Zd H c)(h:XR t H e k):XR t c e k:=⟨h.1,h.2.same s⟩
def Y8(H:Hp)(v:V)(x:Wl):Prop:=∃p,v=.ref p/\H p=some (.tup [.str x.o,.str x.t,.int (x.m:Nat)])
def Y8.same(s:Zd H c)(h:Y8 H v x):Y8 c v x:=let ⟨p,e,h⟩:=h;⟨p,e,s _ _ h⟩
structure Yn where
 st:List Z6
 wk:List Wl
 ru:List Yi
 tk:List WX
 tp:List Tp
structure NA where
 ds:Addr
 lw:Addr
 dr:Addr
 dt:Addr
 dp:Addr
structure ZkH(fs:List (Str×V))(a:NA):Prop where
 fs1:fs.lookup ("stop_rows" : Str)=some (V.ref a.ds)
 fw:fs.lookup ("walk_rows" : Str)=some (V.ref a.lw)
 fr:fs.lookup ("rule_rows" : Str)=some (V.ref a.dr)
 ft:fs.lookup ("ticket_rows" : Str)=some (V.ref a.dt)
 fp:fs.lookup ("trip_rows" : Str)=some (V.ref a.dp)
 n_calls:fs.lookup ("calls" : Str)=none
 n_rule_name:fs.lookup ("rule_name" : Str)=none
 n_rule:fs.lookup ("rule" : Str)=none
 n_trips:fs.lookup ("trips" : Str)=none
 n_check_stop:fs.lookup ("check_stop" : Str)=none
 n_check_trip:fs.lookup ("check_trip" : Str)=none
 n_check_call:fs.lookup ("check_call" : Str)=none
 n_has_walk:fs.lookup ("has_walk" : Str)=none
 n_add_stop:fs.lookup ("add_stop" : Str)=none
 n_add_walk:fs.lookup ("add_walk" : Str)=none
 n_add_rule:fs.lookup ("add_rule" : Str)=none
 n_add_ticket:fs.lookup ("add_ticket" : Str)=none
 n_add_trip:fs.lookup ("add_trip" : Str)=none
 n_zone:fs.lookup ("zone" : Str)=none
 n_change:fs.lookup ("change" : Str)=none
 n_stops:fs.lookup ("stops" : Str)=none
 n_walks:fs.lookup ("walks" : Str)=none
 n_tickets:fs.lookup ("tickets" : Str)=none
 n_ticket:fs.lookup ("ticket" : Str)=none
structure Zb9(a:NA):Prop where
 sr:a.ds≠a.dr
 st:a.ds≠a.dt
 sp:a.ds≠a.dp
 rt:a.dr≠a.dt
 rp:a.dr≠a.dp
 tp:a.dt≠a.dp
structure Yl(t:Ye)(H:Hp)(n:Addr)(a:NA)(N:Yn):Prop where
 ob:∃dx fs,H n=some (.ins t.ZY dx fs)/\ZkH fs a
 ap:Zb9 a
 st:∃rows,H a.ds=some (.dK rows)/\Al (Y2 H) rows N.st
 wk:∃vs,H a.lw=some (.lst vs)/\Al (Y8 H) vs N.wk
 ru:∃rows,H a.dr=some (.dK rows)/\Al (XR t H) rows N.ru
 tk:∃rows,H a.dt=some (.dK rows)/\Al (Wh H) rows N.tk
 tp:∃rows,H a.dp=some (.dK rows)/\Al (Xu H) rows N.tp
def Yl.same(s:Zd H c)(h:Yl t H n a N):Yl t c n a N:=by
 ext⟨⟨y,fs,B,J⟩,ap,⟨r1,q,I⟩,⟨u,i,v⟩,⟨D,f,j⟩,⟨r3,L,E⟩,⟨G,e,C⟩⟩ h;exact⟨⟨y,fs,s _ _ B,J⟩,ap,⟨r1,s _ _ q,I.imp λ_ _=>Y2.same s⟩,⟨u,s _ _ i,v.imp λ_ _=>Y8.same s⟩,⟨D,s _ _ f,j.imp λ_ _=>XR.same s⟩,⟨r3,s _ _ L,E.imp λ_ _=>Wh.same s⟩,⟨G,s _ _ e,C.imp λ_ _=>Xu.same s⟩⟩
structure Uy(H0:Hp)(a:NA):Prop where
 s:H0 a.ds=none
 w:H0 a.lw=none
 r:H0 a.dr=none
 t:H0 a.dt=none
 p:H0 a.dp=none
def VC(t:Ye)(H:Hp)(n:Addr)(N:Yn):Prop:=∃a,Yl t H n a N
def VC.same(s:Zd H c)(h:VC t H n N):VC t c n N:=let ⟨a,h⟩:=h;⟨a,h.same s⟩
def QU{fs:List (Str×V)}(h:fs.length<=n):(Z2 f v fs).length<=n+1:=Si (Q7 _ _ _) (Nat.succ_le_succ h)
inductive ZkI(t:Ye)(vs:List V)(H:Hp)(Q:VK)(_e3:XK):Prop|mk (x:Addr) (H0:Hp) (_:vs=[.ref x]) (_:H0 x=none) (_:Zd H0 H) (_:(∃dx,H x=some (.ins t.ZY dx []))) (_:∀H' a,Zd H0 H'->Yl t H' x a ⟨[],[],[],[],[]⟩->Uy H0 a->Q .non H')
def ZkJ(q:Zv K mg t):Zo P w K mg base Zr 1 t.Tg t.Zan ["self"] (ZkI t):=by
 erw[q.Zbn.F.ok ZhY () λz0 A outer s H vs y0 a1 hr r0=>?_];ext⟨x,H0,rfl,M,s0,⟨c,hx⟩,t0⟩ r0;erw[⟨_,(Zh (XG (pv 0) UN R) (Zh (XG (pv 0) (Z7 Xs) R) (Zh (XG (pv 0) UN R) (Zh (XG (pv 0) UN R) (Zi (XG (pv 0) UN R)))))),?_⟩];sleep 5;intro p1 g1;have I:p1≠x:=λz=>by rw[z,hx]at g1;cases g1
 have d1:=s0.free g1;erw[⟨_,R,x,_,c,_,R,(by rw[Ze I.symm];exact hx),q.Yg,q.C2,(),?_⟩];generalize e0:Z2 "stop_rows" (.ref p1) []=D;have p0:D.length<=1:=by rw[<-e0];exact QU (Sl 0)
 have u1:=Y3 (s0.trans (Zx g1 (.dK []))) M (.ins t.ZY c D);have y1:(Za (Za H p1 (.dK [])) x (.ins t.ZY c D)) x=some (.ins t.ZY c D):=Zj;have e:(Za (Za H p1 (.dK [])) x (.ins t.ZY c D)) p1=some (.dK []):=by rw[Ze I];exact Zj
 generalize Za (Za H p1 (.dK [])) x (.ins t.ZY c D)=S at u1 y1 e ⊢;erw[⟨zL9 R,λf g2=>?_⟩];have L:f≠x:=λz=>by rw[z,y1]at g2;cases g2
 have q0:p1≠f:=Zu e g2;have d2:=u1.free g2;erw[⟨_,R,x,_,c,_,R,(by rwa[Ze L.symm]),q.Yg,q.Mb,Sk p0 (),?_⟩];generalize j0:Z2 "walk_rows" (.ref f) D=C;have b0:C.length<=2:=by rw[<-j0];exact QU p0
 have u2:=Y3 (u1.trans (Zx g2 (.lst []))) M (.ins t.ZY c C);have X:(Za (Za S f (.lst [])) x (.ins t.ZY c C)) x=some (.ins t.ZY c C):=Zj;have e:(Za (Za S f (.lst [])) x (.ins t.ZY c C)) p1=some (.dK []):=by rwa[Ze I,Ze q0]
 have j:(Za (Za S f (.lst [])) x (.ins t.ZY c C)) f=some (.lst []):=by rw[Ze L];exact Zj
 generalize Za (Za S f (.lst [])) x (.ins t.ZY c C)=O at u2 X e j ⊢;intro p3 g3;have Q:p3≠x:=λz=>by rw[z,X]at g3;cases g3
 have g0:p1≠p3:=Zu e g3;have u0:f≠p3:=Zu j g3;have d3:=u2.free g3;erw[⟨_,R,x,_,c,_,R,(by rwa[Ze Q.symm]),q.Yg,q.QR,Sk b0 (),?_⟩];generalize k0:Z2 "rule_rows" (.ref p3) C=B;have d0:B.length<=3:=by rw[<-k0];exact QU b0
 have Z:=Y3 (u2.trans (Zx g3 (.dK []))) M (.ins t.ZY c B);have U:(Za (Za O p3 (.dK [])) x (.ins t.ZY c B)) x=some (.ins t.ZY c B):=Zj;have e:(Za (Za O p3 (.dK [])) x (.ins t.ZY c B)) p1=some (.dK []):=by rwa[Ze I,Ze g0]
 have j:(Za (Za O p3 (.dK [])) x (.ins t.ZY c B)) f=some (.lst []):=by rwa[Ze L,Ze u0]
 have u:(Za (Za O p3 (.dK [])) x (.ins t.ZY c B)) p3=some (.dK []):=by rw[Ze Q];exact Zj
 generalize Za (Za O p3 (.dK [])) x (.ins t.ZY c B)=G at Z U e j u ⊢;intro h g4;have Y:h≠x:=λz=>by rw[z,U]at g4;cases g4
 have a0:p1≠h:=Zu e g4;have w0:f≠h:=Zu j g4;have o0:p3≠h:=Zu u g4;have d4:=Z.free g4;erw[⟨_,R,x,_,c,_,R,(by rwa[Ze Y.symm]),q.Yg,q.Mc,Sk d0 (),?_⟩];generalize h0:Z2 "ticket_rows" (.ref h) B=y;have i0:y.length<=4:=by rw[<-h0];exact QU d0
 have u4:=Y3 (Z.trans (Zx g4 (.dK []))) M (.ins t.ZY c y);have T:(Za (Za G h (.dK [])) x (.ins t.ZY c y)) x=some (.ins t.ZY c y):=Zj;have e:(Za (Za G h (.dK [])) x (.ins t.ZY c y)) p1=some (.dK []):=by rwa[Ze I,Ze a0]
 have j:(Za (Za G h (.dK [])) x (.ins t.ZY c y)) f=some (.lst []):=by rwa[Ze L,Ze w0]
 have u:(Za (Za G h (.dK [])) x (.ins t.ZY c y)) p3=some (.dK []):=by rwa[Ze Q,Ze o0]
 have J:(Za (Za G h (.dK [])) x (.ins t.ZY c y)) h=some (.dK []):=by rw[Ze Y];exact Zj
 generalize Za (Za G h (.dK [])) x (.ins t.ZY c y)=E at u4 T e j u J ⊢;intro i g5;have x5:i≠x:=λz=>by rw[z,T]at g5;cases g5
 have f0:p1≠i:=Zu e g5;have v0:f≠i:=Zu j g5;have c0:p3≠i:=Zu u g5;have l0:h≠i:=Zu J g5;have d5:=u4.free g5;erw[⟨_,R,x,_,c,_,R,(by rwa[Ze x5.symm]),q.Yg,q.Qq,Sk i0 (),?_⟩];generalize m0:Z2 "trip_rows" (.ref i) y=v;have x0:v.length<=5:=by rw[<-m0];exact QU i0
 have u5:=Y3 (u4.trans (Zx g5 (.dK []))) M (.ins t.ZY c v);have y5:(Za (Za E i (.dK [])) x (.ins t.ZY c v)) x=some (.ins t.ZY c v):=Zj;have e:(Za (Za E i (.dK [])) x (.ins t.ZY c v)) p1=some (.dK []):=by rwa[Ze I,Ze f0]
 have j:(Za (Za E i (.dK [])) x (.ins t.ZY c v)) f=some (.lst []):=by rwa[Ze L,Ze v0]
 have u:(Za (Za E i (.dK [])) x (.ins t.ZY c v)) p3=some (.dK []):=by rwa[Ze Q,Ze c0]
 have J:(Za (Za E i (.dK [])) x (.ins t.ZY c v)) h=some (.dK []):=by rwa[Ze Y,Ze l0]
 have k5:(Za (Za E i (.dK [])) x (.ins t.ZY c v)) i=some (.dK []):=by rw[Ze x5];exact Zj
 generalize Za (Za E i (.dK [])) x (.ins t.ZY c v)=H5 at u5 y5 e j u J k5 ⊢;subst e0 j0 k0 h0 m0;exact t0 _ ⟨p1,f,p3,h,i⟩ u5 ⟨⟨c,_,y5,⟨R,R,R,R,R,R,R,R,R,R,R,R,R,R,R,R,R,R,R,R,R,R,R,R⟩⟩,⟨g0,a0,f0,o0,c0,l0⟩,⟨[],e,.nil⟩,⟨[],j,.nil⟩,⟨[],u,.nil⟩,⟨[],J,.nil⟩,⟨[],k5,.nil⟩⟩ ⟨d1,d2,d3,d4,d5⟩
structure ZI(u:HO):Prop where
 nt:∀ys,u≠.tup ys
 ni:∀c x fs,u≠.ins c x fs
 nf:∀o v,u≠.frz o v
def ZI.k:ZI (.dK c):=⟨(),(),()⟩
def ZI.l:ZI (.lst xs):=⟨(),(),()⟩
def ZI.dt:ZI (.dT c):=⟨(),(),()⟩
def XA(hd:H d=some u)(lo:ZI u)(h:H p=some (.tup xs)):Za H d o p=some (.tup xs):=by
 rwa[Ze (Z5 h hd (λz=>lo.nt _ z.symm))]
def Qu(hd:H d=some u)(lo:ZI u)(h:H p=some (.ins c x fs)):Za H d o p=some (.ins c x fs):=by
 rwa[Ze (Z5 h hd (λz=>lo.ni _ _ _ z.symm))]
section Pt
variable{d:Addr}{u o:HO}(hd:H d=some u)(lo:ZI u)
include hd lo
theorem Wh.put(h:Wh H c k):Wh (Za H d o) c k:=let ⟨e,r,z,e1,e2,e3⟩:=h;⟨e,r,z,e1,XA hd lo e2,XA hd lo e3⟩
theorem Y2.put(h:Y2 H c k):Y2 (Za H d o) c k:=let ⟨e,r,e1,e2⟩:=h;⟨e,r,e1,XA hd lo e2⟩
theorem Yq.put(h:Yq H v c):Yq (Za H d o) v c:=let ⟨p,e,h⟩:=h;⟨p,e,XA hd lo h⟩
theorem Xu.put(h:Xu H c k):Xu (Za H d o) c k:=let ⟨e,r,q,vs,e1,e2,e3,e4⟩:=h;⟨e,r,q,vs,e1,XA hd lo e2,XA hd lo e3,e4.imp λ_ _=>Yq.put hd lo⟩
theorem Y8.put(h:Y8 H v x):Y8 (Za H d o) v x:=let ⟨p,e,h⟩:=h;⟨p,e,XA hd lo h⟩
theorem X6.put(h:X6 t H v r):X6 t (Za H d o) v r:=let ⟨b,e,h⟩:=h;⟨b,e,ZT.keepF (λ_ _ _ _ _ e=>Qu hd lo e) (λ_ _=>Ki (XA hd lo) λ_ e=>by rwa[Ze (Z5 e hd (λz=>lo.nf _ _ z.symm))]) h⟩
theorem XR.put(h:XR t H c k):XR t (Za H d o) c k:=⟨h.1,h.2.put hd lo⟩
end Pt
def Yl.addSt{a:NA}{N:Yn}{rows:List (Zn×V)}{x:Z6}(h:Yl t H n a N)(c:H a.ds=some (.dK rows))(q:Al (Y2 H) rows N.st)(i:ZD rows (Sum.inr x.nm)=none)(I:Y2 H (Sum.inr x.nm,v) x) :
  Yl t (Za H a.ds (.dK (YD rows (Sum.inr x.nm) v))) n a {N with st:=N.st++[x]}:=by
 ext⟨⟨C,fs,D,M⟩,ap,_,⟨y,e,B⟩,⟨G,j,u⟩,⟨r3,O,J⟩,⟨L,f,E⟩⟩ h;erw[⟨⟨C,fs,Qu c ZI.k D,M⟩,ap,⟨_,Zj,?_⟩,⟨y,by rwa[Ze (Z5 e c (by intro z;cases z))],B.imp λ_ _=>Y8.put c ZI.k⟩,⟨G,by rwa[Ze (ap.sr.symm)],u.imp λ_ _=>XR.put c ZI.k⟩,⟨r3,by rwa[Ze (ap.st.symm)],J.imp λ_ _=>Wh.put c ZI.k⟩,⟨L,by rwa[Ze (ap.sp.symm)],E.imp λ_ _=>Xu.put c ZI.k⟩⟩];rw[US v i];exact(q.imp λ_ _=>Y2.put c ZI.k).snoc (I.put c ZI.k)
def Yl.addWk{a:NA}{N:Yn}(h:Yl t H n a N)(c:H a.lw=some (.lst vs))(q:Al (Y8 H) vs N.wk)(G:Y8 H v x) :
  Yl t (Za H a.lw (.lst (vs++[v]))) n a {N with wk:=N.wk++[x]}:=by
 ext⟨⟨B,fs,C,L⟩,ap,⟨r1,i,y⟩,_,⟨E,f,u⟩,⟨r3,j,I⟩,⟨J,e,D⟩⟩ h;erw[⟨⟨B,fs,Qu c ZI.l C,L⟩,ap,⟨r1,by rwa[Ze (Z5 i c (by intro z;cases z))],y.imp λ_ _=>Y2.put c ZI.l⟩,⟨_,Zj,?_⟩,⟨E,by rwa[Ze (Z5 f c (by intro z;cases z))],u.imp λ_ _=>XR.put c ZI.l⟩,⟨r3,by rwa[Ze (Z5 j c (by intro z;cases z))],I.imp λ_ _=>Wh.put c ZI.l⟩,⟨J,by rwa[Ze (Z5 e c (by intro z;cases z))],D.imp λ_ _=>Xu.put c ZI.l⟩⟩];exact(q.imp λ_ _=>Y8.put c ZI.l).snoc (G.put c ZI.l)
def Yl.addRu{a:NA}{N:Yn}{rows:List (Zn×V)}{x:Yi}(h:Yl t H n a N)(c:H a.dr=some (.dK rows))(j:Al (XR t H) rows N.ru)(i:ZD rows (Sum.inr x.nm)=none)(G:XR t H (Sum.inr x.nm,v) x) :
  Yl t (Za H a.dr (.dK (YD rows (Sum.inr x.nm) v))) n a {N with ru:=N.ru++[x]}:=by
 ext⟨⟨C,fs,D,L⟩,ap,⟨r1,q,B⟩,⟨u,e,y⟩,_,⟨r3,M,I⟩,⟨J,f,E⟩⟩ h;erw[⟨⟨C,fs,Qu c ZI.k D,L⟩,ap,⟨r1,by rwa[Ze (ap.sr)],B.imp λ_ _=>Y2.put c ZI.k⟩,⟨u,by rwa[Ze (Z5 e c (by intro z;cases z))],y.imp λ_ _=>Y8.put c ZI.k⟩,⟨_,Zj,?_⟩,⟨r3,by rwa[Ze (ap.rt.symm)],I.imp λ_ _=>Wh.put c ZI.k⟩,⟨J,by rwa[Ze (ap.rp.symm)],E.imp λ_ _=>Xu.put c ZI.k⟩⟩];rw[US v i];exact(j.imp λ_ _=>XR.put c ZI.k).snoc (G.put c ZI.k)
def Yl.addTk{a:NA}{N:Yn}{rows:List (Zn×V)}{x:WX}(h:Yl t H n a N)(c:H a.dt=some (.dK rows))(q:Al (Wh H) rows N.tk)(i:ZD rows (Sum.inr x.nm)=none)(L:Wh H (Sum.inr x.nm,v) x) :
  Yl t (Za H a.dt (.dK (YD rows (Sum.inr x.nm) v))) n a {N with tk:=N.tk++[x]}:=by
 ext⟨⟨E,fs,G,O⟩,ap,⟨r1,y,D⟩,⟨B,e,C⟩,⟨J,j,u⟩,_,⟨M,f,I⟩⟩ h;erw[⟨⟨E,fs,Qu c ZI.k G,O⟩,ap,⟨r1,by rwa[Ze (ap.st)],D.imp λ_ _=>Y2.put c ZI.k⟩,⟨B,by rwa[Ze (Z5 e c (by intro z;cases z))],C.imp λ_ _=>Y8.put c ZI.k⟩,⟨J,by rwa[Ze (ap.rt)],u.imp λ_ _=>XR.put c ZI.k⟩,⟨_,Zj,?_⟩,⟨M,by rwa[Ze (ap.tp.symm)],I.imp λ_ _=>Xu.put c ZI.k⟩⟩];rw[US v i];exact(q.imp λ_ _=>Wh.put c ZI.k).snoc (L.put c ZI.k)
def Yl.addTp{a:NA}{N:Yn}{rows:List (Zn×V)}{x:Tp}(h:Yl t H n a N)(c:H a.dp=some (.dK rows))(j:Al (Xu H) rows N.tp)(f:ZD rows (Sum.inr x.nm)=none)(E:Xu H (Sum.inr x.nm,v) x) :
  Yl t (Za H a.dp (.dK (YD rows (Sum.inr x.nm) v))) n a {N with tp:=N.tp++[x]}:=by
 ext⟨⟨C,fs,D,L⟩,ap,⟨r1,q,B⟩,⟨u,e,y⟩,⟨G,i,J⟩,⟨r3,M,I⟩,_⟩ h;erw[⟨⟨C,fs,Qu c ZI.k D,L⟩,ap,⟨r1,by rwa[Ze (ap.sp)],B.imp λ_ _=>Y2.put c ZI.k⟩,⟨u,by rwa[Ze (Z5 e c (by intro z;cases z))],y.imp λ_ _=>Y8.put c ZI.k⟩,⟨G,by rwa[Ze (ap.rp)],J.imp λ_ _=>XR.put c ZI.k⟩,⟨r3,by rwa[Ze (ap.tp)],I.imp λ_ _=>Wh.put c ZI.k⟩,⟨_,Zj,?_⟩⟩];rw[US v f];exact(j.imp λ_ _=>Xu.put c ZI.k).snoc (E.put c ZI.k)
inductive ZkK(t:Ye)(vs:List V)(H:Hp)(Q:VK)(_e3:XK):Prop|mk (n:Addr) (a:NA) (N:Yn) (x:Z6) (H0:Hp) (_:vs=[.ref n,.str x.nm,.int (x.z:Nat),.int (x.ch:Nat)]) (_:Yl t H n a N) (_:Uy H0 a) (_:Zd H0 H) (_:Yv x.nm) (_:1<=x.z) (_:x.z<=6) (_:x.ch<=30) (_:ZQ Z6.nm N.st x.nm=none) (_:N.st.length<8) (_:∀H',Zd H0 H'->Yl t H' n a {N with st:=N.st++[x]}->Q .non H')
def ZkL(c:Zv K mg t):Zo P w K mg base Zr 4 t.Zao t.Zap ["self","name","zone","change"] (ZkK t):=by
 erw[c.TV.F.ok ZhZ () λZ A outer s H X Q a0 f h=>?_];ext⟨n,a,N,x,U,rfl,j,I,S,O,z1,z6,T,G,hlen,q⟩ h;ext⟨C,fs,y,u⟩ j.ob;ext⟨rows,i,v⟩ j.st;have D:=(Xr (λM x (h:Y2 H M x)=>h.1) v x.nm).1 G;have J:rows.length<8:=by rw[v.length];exact hlen
 erw[⟨_,(Zh (Z1 (ZE c.JX (Mp c) f Zm (Zp (pv 1) (ZJ (pv 0) R)))) (Zh (Z1 (ZE c.Ux (U4 c) f Zm (Yk (pv 2) Zc (YR R c.To)))) (Zh (Z1 (ZE c.Ux (U4 c) f Zm (Yk (pv 3) Zc (YR R c.Ziy)))) (Zh (Z1 (ZE c.QP (Mq c) f Zm (Zp (ZJ (pv 0) R) (YR R c.Zit)))) (Zi (VR (Xk f) (ZJ (pv 0) R) (pv 1) (Yp (Zp (pv 2) (pv 3))) R)))))),?_⟩];sleep 5;erw[⟨_,R,_,R,n,_,C,_,_,R,y,c.Yg,c.C2,u.fs1,x.nm,a.ds,rows,R,i,O,D,λY B=>?_⟩];erw[⟨_,R,x.z,1,6,R,(),(),?_⟩];erw[⟨_,R,x.ch,0,30,R,(),(),?_⟩];erw[⟨_,R,n,_,C,_,_,R,B _ _ y,c.Yg,c.C2,u.fs1,a.ds,rows,8,R,B _ _ i,(),?_⟩];erw[⟨_,R,_,R,zL9 R,λr E=>?_⟩];have L:=Zx E (.tup [.int (x.z:Nat),.int (x.ch:Nat)]);have e:=B.trans L;erw[⟨_,R,n,_,C,_,_,R,e _ _ y,c.Yg,c.C2,u.fs1,_,R,a.ds,_,R,XN.k (k:=Sum.inr x.nm) (e _ _ i) (Nat.lt_trans J ()),?_⟩];exact q _ (Y3 (S.trans e) I.s _) ((j.same e).addSt (e _ _ i) (v.imp λ_ _=>Y2.same e) D ⟨R,r,R,Zj⟩)
inductive ZkM(t:Ye)(vs:List V)(H:Hp)(Q:VK)(_e3:XK):Prop|mk (n:Addr) (a:NA) (N:Yn) (x:Yi) (v:V) (H0:Hp) (_:vs=[.ref n,.str x.nm,v]) (_:Yl t H n a N) (_:H0 a.dr=none) (_:Zd H0 H) (_:Yv x.nm) (_:X6 t H v x.r) (_:x.r.Ok) (_:ZQ Yi.nm N.ru x.nm=none) (_:N.ru.length<6) (_:∀H',Zd H0 H'->Yl t H' n a {N with ru:=N.ru++[x]}->Q .non H')
def Zca(c:Zv K mg t):Zo P w K mg base Zr 44 t.Zas t.Zat ["self","name","rule"] (ZkM t):=by
 erw[c.J2.F.ok jH () λa0 A outer s H vs Q b0 i h=>?_];ext⟨n,a,N,x,v,Z,rfl,j,J,X,U,I,M,G,S,q⟩ h;ext⟨C,fs,B,u⟩ j.ob;ext⟨rows,f,y⟩ j.ru;have D:=(Xr (λT x (h:XR t H T x)=>h.1) y x.nm).1 G;have L:rows.length<6:=by rwa[y.length]
 erw[⟨_,(Zh (Z1 (ZE c.JX (Mp c) i Zm (Zp (pv 1) (ZJ (pv 0) R)))) (Zh (ZM 3 jH.nd (ZE c.UZ (Zb8 c) i Zm (Zk (pv 2)))) (Zh (Z1 (ZE c.QP (Mq c) i Zm (Zp (ZJ (pv 0) R) (YR R c.Ziv)))) (Zi (VR (Xk i) (ZJ (pv 0) R) (pv 1) (pv 3) R))))),?_⟩];sleep 4;erw[⟨_,R,_,R,n,_,C,_,_,R,B,c.Yg,c.QR,u.fr,x.nm,a.dr,rows,R,f,U,D,λH1 E=>?_⟩];erw[⟨_,R,v,x.r,R,I.same E,M,trivial,λY H2 s2 O=>?_⟩];have e:=E.trans s2;erw[⟨_,R,n,_,C,_,_,R,e _ _ B,c.Yg,c.QR,u.fr,a.dr,rows,6,R,e _ _ f,(),?_⟩];erw[⟨_,R,_,R,n,_,C,_,_,R,e _ _ B,c.Yg,c.QR,u.fr,_,R,a.dr,_,R,XN.k (k:=Sum.inr x.nm) (e _ _ f) (Nat.lt_trans L ()),?_⟩];exact q _ (Y3 (X.trans e) J _) ((j.same e).addRu (e _ _ f) (y.imp λ_ _=>XR.same e) D ⟨R,O⟩)
inductive ZkN(t:Ye)(vs:List V)(H:Hp)(Q:VK)(_e3:XK):Prop|mk (n:Addr) (a:NA) (N:Yn) (k:WX) (zl:Addr) (H0:Hp) (_:vs=[.ref n,.str k.nm,.int (k.pr:Nat),.int (k.la:Nat),.ref zl]) (_:Yl t H n a N) (_:Uy H0 a) (_:Zd H0 H) (_:H zl=some (.lst (YB k.zs))) (_:k.Ok) (_:ZQ WX.nm N.tk k.nm=none) (_:N.tk.length<3) (_:∀H',Zd H0 H'->Yl t H' n a {N with tk:=N.tk++[k]}->Q .non H')
def ZkO(c:Zv K mg t):Zo P w K mg base Zr 4 t.Zau t.Zav ["self","name","price","lasts","zones"] (ZkN t):=by
 erw[c.TX.F.ok Zh1 () λa0 A outer s H Z Q b0 f h=>?_];ext⟨n,a,N,k,D,Y,rfl,u,O,X,I,ok,M,hlen,q⟩ h;ext⟨C,fs,B,v⟩ u.ob;ext⟨rows,j,y⟩ u.tk;have J:=(Xr (λU x (h:Wh H U x)=>h.1) y k.nm).1 M;have S:rows.length<3:=by rw[y.length];exact hlen
 erw[⟨_,(Zh (Z1 (ZE c.JX (Mp c) f Zm (Zp (pv 1) (ZJ (pv 0) R)))) (Zh (Z1 (ZE c.Ux (U4 c) f Zm (Yk (pv 2) Zc (YR R c.ZiA)))) (Zh (Z1 (ZE c.Ux (U4 c) f Zm (Yk (pv 3) Zc (YR R c.ZiB)))) (Zh (ZK (Yz (Yy (ZE c.LK (zK c) f Zm (Uw (pv 4) (YR R c.To) Zc (YR R c.To))))) (Zi Xb) ZL) (Zh (Z1 (ZE c.QP (Mq c) f Zm (Zp (ZJ (pv 0) R) (YR R c.Ziw)))) (Zi (VR (Xk f) (ZJ (pv 0) R) (pv 1) (Yp (Yk (pv 2) (pv 3) (Yt F0 R c.Qn Qm (Zk (pv 4))))) R))))))),?_⟩];sleep 6;erw[⟨_,R,_,R,n,_,C,_,_,R,B,c.Yg,c.Mc,v.ft,k.nm,a.dt,rows,R,j,ok.nm,J,λH1 i=>?_⟩];erw[⟨_,R,k.pr,0,10000,R,(),by have:=ok.pr;lia,?_⟩];erw[⟨_,R,k.la,1,1440,R,by have:=ok.la1;lia,by have:=ok.la;lia,?_⟩];erw[⟨_,R,D,k.zs,6,1,6,R,i _ _ I,ok.z1,ok.z6,ok.up,λx G=>⟨(ok.rng x G).1,by have:=(ok.rng x G).2;lia⟩,_,R,Zq () ?_⟩];sleep 1;erw[⟨_,R,n,_,C,_,_,R,i _ _ B,c.Yg,c.Mc,v.ft,a.dt,rows,3,R,i _ _ j,(),?_⟩];erw[⟨_,R,_,R,_,R,D,_,R,.inl ⟨Zg.of (i _ _ I),λp T=>?_⟩⟩];have s2:=Zx T (.tup (YB k.zs));erw[⟨zL9 R,λr L=>?_⟩];have E:=Zx L (.tup [.int (k.pr:Nat),.int (k.la:Nat),.ref p]);have e:=(i.trans s2).trans E;erw[⟨_,R,n,_,C,_,_,R,e _ _ B,c.Yg,c.Mc,v.ft,_,R,a.dt,_,R,XN.k (k:=Sum.inr k.nm) (e _ _ j) (Nat.lt_trans S ()),?_⟩];exact q _ (Y3 (X.trans e) O.t _) ((u.same e).addTk (e _ _ j) (y.imp λ_ _=>Wh.same e) J ⟨R,r,p,R,Zj,E _ _ Zj⟩)
inductive ZkP(t:Ye)(vs:List V)(H:Hp)(Q:VK)(_e3:XK):Prop|mk (n:Addr) (N:Yn) (z:Str) (_:vs=[.ref n,.str z]) (_:VC t H n N) (_:(ZQ Z6.nm N.st z).isSome=true) (_:Q .non H)
def zU(c:Zv K mg t):Zo P w K mg base Zr 2 t.Zay t.Zaz ["self","name"] (ZkP t):=by
 erw[c.QQ.F.ok Zh2 () λI A outer s H G Q E D h=>?_];ext⟨n,N,z,rfl,⟨a,f⟩,u,q⟩ h;ext⟨v,fs,y,C⟩ f.ob;ext⟨rows,B,i⟩ f.st;obtain⟨x,ex⟩:=Option.isSome_iff_exists.mp u;obtain⟨e,j,_⟩:=(Xr (λe x (h:Y2 H e x)=>h.1) i z).2 x ex;erw[⟨_,(Zi (ZK (Yz (Yy (ZE c.QO (C7 c) D Zm (Zp (pv 1) (ZJ (pv 0) R))))) (Zi Xb) ZL)),?_⟩];sleep 1;exact⟨_,R,_,R,n,_,v,_,_,R,y,c.Yg,c.C2,C.fs1,z,a.ds,rows,R,B,_,R,Zq (by rw[j];exact SR) q⟩
inductive ZkQ(t:Ye)(vs:List V)(H:Hp)(Q:VK)(_e3:XK):Prop|mk (n:Addr) (N:Yn) (z:Str) (_:vs=[.ref n,.str z]) (_:VC t H n N) (_:(ZQ Tp.nm N.tp z).isSome=true) (_:Q .non H)
def Zcb(c:Zv K mg t):Zo P w K mg base Zr 2 t.ZaA t.ZaB ["self","name"] (ZkQ t):=by
 erw[c.J4.F.ok Zh3 () λI A outer s H G Q E D h=>?_];ext⟨n,N,z,rfl,⟨a,f⟩,u,q⟩ h;ext⟨v,fs,y,C⟩ f.ob;ext⟨rows,B,i⟩ f.tp;obtain⟨x,ex⟩:=Option.isSome_iff_exists.mp u;obtain⟨e,j,_⟩:=(Xr (λe x (h:Xu H e x)=>h.1) i z).2 x ex;erw[⟨_,(Zi (ZK (Yz (Yy (ZE c.QO (C7 c) D Zm (Zp (pv 1) (ZJ (pv 0) R))))) (Zi Xb) ZL)),?_⟩];sleep 1;exact⟨_,R,_,R,n,_,v,_,_,R,y,c.Yg,c.Qq,C.fp,z,a.dp,rows,R,B,_,R,Zq (by rw[j];exact SR) q⟩
inductive ZkR(t:Ye)(vs:List V)(H:Hp)(Q:VK)(_e3:XK):Prop|mk (n:Addr) (N:Yn) (_:vs=[.ref n]) (_:VC t H n N) (_:∀l,H l=none->Q (.ref l) (Za H l (.lst ((N.tp.map Tp.nm).map V.str))))
def ZkS{rows:List (Zn×V)}{tp:List Tp}(h:Al (Xu H) rows tp):(rows.map λe=>kV e.1)=(tp.map Tp.nm).map V.str:=by
 induction h with
 |nil=>rfl
 |cons a _ c=>rw[SO,SO,SO,c,a.1];rfl
def ZkT(c:Zv K mg t):Zo P w K mg base Zr 1 t.ZaI t.ZaJ ["self"] (ZkR t):=by
 erw[c.T0.F.ok Zh7 () λC A outer s H B Q E D h=>?_];ext⟨n,N,rfl,⟨a,e⟩,q⟩ h;ext⟨i,fs,j,y⟩ e.ob;ext⟨rows,u,f⟩ e.tp;erw[⟨_,(Zi (ZA (Yt (B1 R) R c.X4 X1 (Zk (ZJ (pv 0) R))))),?_⟩];sleep 1;erw[⟨_,R,n,_,i,_,_,R,j,c.Yg,c.Qq,y.fp,a.dp,rows,R,u,λl v=>?_⟩];rw[ZkS f];exact q l v
inductive ZkU(t:Ye)(vs:List V)(H:Hp)(Q:VK)(_e3:XK):Prop|mk (n:Addr) (N:Yn) (z:Str) (x:Tp) (_:vs=[.ref n,.str z]) (_:VC t H n N) (_:ZQ Tp.nm N.tp z=some x) (_:∀l vs H',Zd H H'->H l=none->H' l=some (.lst vs)->Al (Yq H') vs x.cs->Q (.ref l) H')
def ZkV(c:Zv K mg t):Zo P w K mg base Zr 3 t.ZaO t.ZaP ["self","trip"] (ZkU t):=by
 erw[c.T5.F.ok Zia () λU A outer s H v Q E C h=>?_];ext⟨n,N,z,x,rfl,i,ex,q⟩ h;have J:=i;ext⟨a,f⟩ J;ext⟨B,fs,u,j⟩ f.ob;ext⟨rows,I,L⟩ f.tp;obtain⟨y,M,_,r,S,v,G,T,O,D⟩:=(Xr (λy x (h:Xu H y x)=>h.1) L z).2 x ex;erw[⟨_,(Zh (Z1 (YO (pv 0) c.Yg c.J4.me (Zcb c) (C.mono ()) c.J4.b .nil Zm (Zk (pv 1)))) (Zi (ZA (Yt Qg R c.X4 X1 (Zk (Zw ZN (YI C (ZJ (pv 0) R) (pv 1)) Zc)))))),?_⟩];sleep 2;erw[⟨_,R,n,B,_,R,u,j.n_check_trip,_,R,n,N,z,R,i,by rw[ex];rfl,?_⟩];erw[⟨_,R,n,_,B,_,_,R,u,c.Yg,c.Qq,j.fp,_,R,a.dp,.ref r,R,?_,r,_,1,_,R,R,Zl.of T,R,S,_,R,.inr (Zl.of O),λl e=>?_⟩];rw[<-G,<-M];exact Yr.k (k:=Sum.inr z) I;exact q l v _ (Zx e _) e Zj (D.imp λ_ _=>Yq.same (Zx e _))
inductive ZkW(t:Ye)(vs:List V)(H:Hp)(Q:VK)(_e3:XK):Prop|mk (n:Addr) (N:Yn) (z:Str) (x:Tp) (_:vs=[.ref n,.str z]) (_:VC t H n N) (_:ZQ Tp.nm N.tp z=some x) (_:Q (.str x.ru) H)
def ZkX(c:Zv K mg t):Zo P w K mg base Zr 3 t.ZaM t.ZaN ["self","trip"] (ZkW t):=by
 erw[c.T4.F.ok Zh9 () λO A outer s H J Q E y h=>?_];ext⟨n,N,z,x,rfl,f,ex,q⟩ h;have D:=f;ext⟨a,e⟩ D;ext⟨v,fs,j,i⟩ e.ob;ext⟨rows,C,G⟩ e.tp;obtain⟨u,I,_,r,T,J,B,L,S,M⟩:=(Xr (λu x (h:Xu H u x)=>h.1) G z).2 x ex;erw[⟨_,(Zh (Z1 (YO (pv 0) c.Yg c.J4.me (Zcb c) (y.mono ()) c.J4.b .nil Zm (Zk (pv 1)))) (Zi (ZA (Zw ZN (YI y (ZJ (pv 0) R) (pv 1)) Zc)))),?_⟩];sleep 2;erw[⟨_,R,n,v,_,R,j,i.n_check_trip,_,R,n,N,z,R,f,by rw[ex];rfl,?_⟩];erw[⟨_,R,n,_,v,_,_,R,j,c.Yg,c.Qq,i.fp,_,R,a.dp,.ref r,R,?_,r,_,0,_,R,R,Zl.of L,R,q⟩];rw[<-B,<-I];exact Yr.k (k:=Sum.inr z) C
inductive ZkY(t:Ye)(vs:List V)(H:Hp)(Q:VK)(_e3:XK):Prop|mk (n:Addr) (N:Yn) (z:Str) (x:Yi) (_:vs=[.ref n,.str z]) (_:VC t H n N) (_:ZQ Yi.nm N.ru z=some x) (_:x.r.Ok) (_:∀v' H',Zd H H'->X6 t H' v' x.r->Q v' H')
def ZkZ(c:Zv K mg t):Zo P w K mg base Zr 44 t.ZaK t.ZaL ["self","name"] (ZkY t):=by
 erw[c.T1.F.ok Zh8 () λI A outer s H G Q E f h=>?_];ext⟨n,N,z,x,rfl,⟨a,B⟩,ex,ok,q⟩ h;ext⟨j,fs,u,y⟩ B.ob;ext⟨rows,v,C⟩ B.ru;obtain⟨e,i,_,D⟩:=(Xr (λe x (h:XR t H e x)=>h.1) C z).2 x ex;erw[⟨_,(Zh (ZK (Yz (Yy (ZE c.QO (C7 c) f Zm (Zp (pv 1) (ZJ (pv 0) R))))) (Zi Xb) ZL) (Zi (ZA (ZE c.UZ (Zb8 c) f Zm (Zk (YI f (ZJ (pv 0) R) (pv 1))))))),?_⟩];sleep 2;erw[⟨_,R,_,R,n,_,j,_,_,R,u,c.Yg,c.QR,y.fr,z,a.dr,rows,R,v,_,R,Zq (by rw[i];exact SR) ?_⟩];sleep 1;erw[⟨_,R,n,_,j,_,_,R,u,c.Yg,c.QR,y.fr,_,R,a.dr,e.2,R,?_,e.2,x.r,R,D,ok,trivial,q⟩];rw[<-i];exact Yr.k (k:=Sum.inr z) v
def U5(h:Yv z):(PyData.str z).canLay0=true:=by
 simp only[PyData.canLay0];show z.cps.all (λc=>decide (c<0x110000))=true;rw[<-Array.all_toList,List.all_eq_true];intro c e;have:=h.2.2.1 c e;exact SS ()
def Kl(c:List Wl)(a b:Str):Bool:=c.any λx=>(a==x.o && b==x.t) || (b==x.o && a==x.t)
inductive Zk0(K:OA)(vs:List V)(H:Hp)(Q:VK)(_e3:XK):Prop|mk (l:Addr) (xs:List V) (n:Int) (_:vs=[.ref l,.int n]) (_:Zg K H l xs) (_:(xs.length:Int)<n) (_:Q .non H)
def Zk1(c:Zv K mg t):Zo P w K mg base Zr 1 t.RA t.RB ["kept","most"] (Zk0 K):=by
 erw[c.QP.F.ok qT () λi A outer s H f Q E u h=>?_];ext⟨d,e,n,rfl,hd,j,q⟩ h;refine⟨_,(Zi (ZK (yW yV (xP Xt R c.Xi Xh (YH (pv 0) Xs)) (pv 1) (Vo _))
  (Zi Xb)
  ZL)),?_⟩
 sleep 1;exact⟨_,R,d,e,R,.inl hd,_,R,_,_,R,R,_,R,Zq (by rw[SU ()];lia) q⟩
inductive Zk2(t:Ye)(vs:List V)(H:Hp)(Q:VK)(_e3:XK):Prop|mk (n:Addr) (N:Yn) (a b:Str) (_:vs=[.ref n,.str a,.str b]) (_:VC t H n N) (_:Yv a) (_:Yv b) (_:(∀x∈N.wk,Yv x.o/\Yv x.t)) (_:N.wk.length<=12) (_:∀H',Zd H H'->Q (.bl (Kl N.wk a b)) H')
def Zk3(c:Zv K mg t):Zo P w K mg base Zr 1 t.ZaE t.ZaF ["self","one","other"] (Zk2 t):=by
 erw[c.TZ.F.ok Zh5 () λd0 A outer s H vs c0 e0 hr h=>?_];ext⟨n,N,a,b,rfl,⟨I,E⟩,G,C,Y,a0,q⟩ h;ext⟨dx,fs,e1,e2⟩ E.ob;ext⟨vw,D,y⟩ E.wk;erw[⟨_,(Zi (ZA (ZP (uN R) c.Za4 jM (Zk (V8 (cl:=[(ON "other",s.heap.objs.size+2),(ON "one",s.heap.objs.size+1)]) (N:=["walk","one","other"]) (fr:=[none,some 1,some 2]) R (Wo (ZJ (pv 0) R)) R () R () ⟨⟨R,Or.inl R,Or.inl R,_,R,R⟩,⟨⟨R,Or.inl R,Or.inl R,_,R,R⟩,trivial⟩⟩ ⟨R,⟨R,trivial⟩⟩ R (λ_ _ _ _ _=>(Z4 0 (show List.Nodup (["walk","one","other"]:OF) by lia))) (λ_ _ _ _ _=>VQ) (λ_ _ _ _ _=>(WB (show YK _ (compareOp .In) (uL K false)from Zgu hr.units) (Yp (Zp (Zw (show VJ _ (A0 K)from ZN) (pv 0) Zc) (Zw (show VJ _ (A0 K)from ZN) (pv 0) Zc))) (Yp (Zp (Yp (Zp (pv 1) (pv 2))) (Yp (Zp (pv 2) (pv 1))))) R))))))),?_⟩];sleep 1;refine⟨_,R,n,_,dx,_,_,R,e1,c.Yg,c.Mb,e2.fw,I.lw,R,⟨_,Zg.of D⟩,UM (K:=K) (a:=I.lw) (xs:=vw) (λi j e O=>Zd H O/\(∃v,e=[v,some (.str a),some (.str b)])/\j=((N.wk.take i).map λx=>(a==x.o && b==x.t) || (b==x.o && a==x.t)).map V.bl) ⟨Zd.refl H,⟨_,R⟩,R⟩
  (Si (show _<=12 by rwa[y.length]) ()) (λi j e O _ ⟨s',_⟩=>Zg.of (s' _ _ D)) ?_ ?_⟩
 rintro i v j e H1 J hv ⟨u,⟨X,rfl⟩,rfl⟩;obtain⟨x,ex,T,rfl,b0⟩:=y.get hv;have Q:=Y x (SM ex);have L:=u _ _ b0;dsimp only[XE,Vs];rw[SY R];erw[⟨_,R,T,_,0,_,R,R,Zl.of L,R,_,R,T,_,1,_,R,R,Zl.of L,R,zL9 R,λp1 g1=>?_⟩];have u1:=Zx g1 (.tup [.str x.o,.str x.t]);erw[⟨_,R,_,R,zL9 R,λM g2=>?_⟩];have S:=Zx g2 (.tup [.str a,.str b]);erw[⟨_,R,_,R,zL9 R,λp3 g3=>?_⟩];have B:=Zx g3 (.tup [.str b,.str a]);erw[⟨zL9 R,λp4 g4=>?_⟩];have f:=Zx g4 (.tup [.ref M,.ref p3]);have k1:=((S.trans B).trans f) p1 _ Zj;have U:=(B.trans f) M _ Zj;have Z:=f p3 _ Zj;have S4:=(((u.trans u1).trans S).trans B).trans f;erw[⟨p4,_,.tuple [.str x.o,.str x.t],[.tuple [.str a,.str b],.tuple [.str b,.str a]],R,.inr (Zl.of Zj),.tup (Zl.of k1) (.cons (.str _ (U5 Q.1)) (.cons (.str _ (U5 Q.2)) .nil)),.cons (.tup (Zl.of U) (.cons (.str _ (U5 G)) (.cons (.str _ (U5 C)) .nil))) (.cons (.tup (Zl.of Z) (.cons (.str _ (U5 C)) (.cons (.str _ (U5 G)) .nil))) .nil),?_,?_⟩];simp[PyData.depth,PyData.depthAll];erw[⟨by rw[Sw,Sy];lia,S4,⟨_,R⟩,?_⟩];rw[Ob,ex,SN,SN];congr 1;simp[PyData.eqv,PyData.eqvAll];rintro j e H1 ha ⟨u,⟨X,rfl⟩,rfl⟩ l J;rw[y.length,List.take_length];erw[⟨l,_,R,Zg.of Zj,?_⟩];rw[List.any_map];exact q _ (u.trans (Zx J _))
inductive Zk4(t:Ye)(vs:List V)(H:Hp)(Q:VK)(_e3:XK):Prop|mk (n:Addr) (a:NA) (N:Yn) (x:Wl) (H0:Hp) (_:vs=[.ref n,.str x.o,.str x.t,.int (x.m:Nat)]) (_:Yl t H n a N) (_:Uy H0 a) (_:Zd H0 H) (_:(∀y∈N.wk,Yv y.o/\Yv y.t)) (_:Yv x.o) (_:Yv x.t) (_:(ZQ Z6.nm N.st x.o).isSome=true) (_:(ZQ Z6.nm N.st x.t).isSome=true) (_:x.o≠x.t) (_:Kl N.wk x.o x.t=false) (_:1<=x.m) (_:x.m<=60) (_:N.wk.length<12) (_:∀H',Zd H0 H'->Yl t H' n a {N with wk:=N.wk++[x]}->Q .non H')
def Zk5(c:Zv K mg t):Zo P w K mg base Zr 4 t.Zaq t.Zar ["self","one","other","minutes"] (Zk4 t):=by
 erw[c.TW.F.ok Zh0 () λa0 A outer s H vs Q b0 u h=>?_];ext⟨n,a,N,x,H0,rfl,e,G,U,I,S,O,M,T,ne,J,Y,X,Z,q⟩ h;ext⟨j,fs,i,f⟩ e.ob;erw[⟨_,(Zh (Z1 (YO (pv 0) c.Yg c.QQ.me (zU c) (u.mono ()) c.QQ.b .nil Zm (Zk (pv 1)))) (Zh (Z1 (YO (pv 0) c.Yg c.QQ.me (zU c) (u.mono ()) c.QQ.b .nil Zm (Zk (pv 2)))) (Zh (ZK (PW.pt (Uo (Ys YZ (pv 1) (pv 2)) (Um (Yy (YO (pv 0) c.Yg c.TZ.me (Zk3 c) (u.mono ()) c.TZ.b .nil Zm (Zp (pv 1) (pv 2))))))) (Zi Xb) ZL) (Zh (Z1 (ZE c.Ux (U4 c) u Zm (Yk (pv 3) Zc (YR R c.Ziz)))) (Zh (Z1 (ZE c.QP (Zk1 c) u Zm (Zp (ZJ (pv 0) R) (YR R c.Ziu)))) (Zi (Z1 (V7 PySem.F.plainAttrs_list PySem.F.slot_list_append PySem.F.type_list_append Us (ZJ (pv 0) R) (Zk (Yp (Yk (pv 1) (pv 2) (pv 3)))))))))))),?_⟩];sleep 6;erw[⟨_,R,n,j,_,R,i,f.n_check_stop,_,R,n,N,x.o,R,⟨a,e⟩,M,?_⟩];erw[⟨_,R,n,j,_,R,i,f.n_check_stop,_,R,n,N,x.t,R,⟨a,e⟩,T,?_⟩];erw[⟨_,R,_,R,R,_,R,Zq (by show ¬ decide (V.str x.o=V.str x.t)=true;simp[ne]) ?_⟩];erw[⟨_,R,n,j,_,R,i,f.n_has_walk,_,R,_,R,n,N,x.o,x.t,R,⟨a,e⟩,S,O,I,(),λH1 v=>?_⟩];rw[J];erw[⟨_,R,Zq SR ?_⟩];sleep 1;obtain⟨L,y,B⟩:=(e.same v).wk;erw[⟨_,R,x.m,1,60,R,(),(),?_⟩];erw[⟨_,R,n,_,j,_,_,R,v _ _ i,c.Yg,c.Mb,f.fw,a.lw,L,12,R,Zg.of y,by rw[B.length];lia,?_⟩];erw[⟨_,R,n,_,j,_,_,R,v _ _ i,c.Yg,c.Mb,f.fw,.inl ⟨R,_,Zg.of y⟩,_,R,_,R,_,R,zL9 R,λr E=>?_⟩];have s2:=Zx E (.tup [.str x.o,.str x.t,.int (x.m:Nat)]);have D:=v.trans s2;have C:=s2 _ _ y;erw[⟨a.lw,_,_,R,R,C,Sk (show _<=12 by rw[B.length];lia) (),?_⟩];exact q _ (Y3 (U.trans D) G.w _) ((e.same D).addWk C (B.imp λ_ _=>Y8.same s2) ⟨r,R,Zj⟩)
inductive Zk6(K:OA)(vs:List V)(H:Hp)(Q:VK)(_e3:XK):Prop|mk (l:Addr) (vs':List V) (cs:List Cl) (_:vs=[.ref l]) (_:H l=some (.lst vs')) (_:Al (Yq H) vs' cs) (_:2<=cs.length) (_:cs.length<=6) (_:∀H',Zd H H'->Q (.bl true) H')
def Zk7(f:Zv K mg t):Zo P w K mg base Zr 1 t.kF t.kH ["calls"] (Zk6 K):=by
 erw[f.Zbd.F.ok ZhB () λY A outer s H X Q E hr h=>?_];ext⟨l,j,cs,rfl,u,J,Z,S,q⟩ h;have lv:=J.length;erw[⟨_,(Zh (ZK (PW.pt (Uo (Yz (Yy (ZP VN f.YW YV (Zp (pv 0) (Vr R f.X4 X1))))) (Um (Yz (MU Vn Vn (YR R f.ZiC) (ZP Xt f.Xi Xh (Zk (pv 0))) (YR R f.ZiD)))))) (Zi (ZA WA)) ZL) (Zi (ZA (ZP (K4 R) f.LH Ls (Zk (V8 (cl:=[]) (N:=["call"]) (fr:=[none]) R (Wo (pv 0)) R () R () trivial trivial R (λ_ _ _ _ _=>(Z4 0 (show List.Nodup (["call"]:OF) by lia))) (λ_ _ _ _ _=>VQ) (λ_ _ _ _ _=>(UG (ZP (show YT _ (.builtin "isinstance") (λxs H Q=>∃x T t b,xs=[x,V.ty T]/\XW K H x t/\W.kitOne K t (Value.type T)=some b/\Q (V.bl b) H)from VN) f.YW YV (Zp (pv 0) (Vr R f.Qn Qm))) (Vl (WB YZ (ZP (show YT _ (.builtin "len") (λxs H Q=>∃p I,xs=[V.ref p]/\(Zg K H p I\/Zl K H p I)/\Q (V.int ↑I.length) H)from Xt) f.Xi Xh (Zk (pv 0))) Zc (Vo _))))))))))),?_⟩];sleep 2;erw[⟨_,R,.ref l,"list",_,_,R,.lst u,R,_,R,Zq () ?_⟩];erw[⟨_,R,l,_,R,.inl (Zg.of u),_,_,R,R,_,R,Z3 (SS ()) ?_⟩];erw[⟨_,_,R,R,_,R,Zq (by rw[SS (show((j.length:Nat):Int)<=6 by lia)];lia) ?_⟩];sleep 1;erw[⟨_,R,l,R,⟨_,Zg.of u⟩,UM (K:=K) (a:=l) (xs:=j) (λi G C D=>D=H/\G=(List.replicate i true).map V.bl/\∃v,C=[v]) ⟨R,R,_,R⟩ (Si (show _<=6 by lia) ()) (λi G C D _ ⟨e,_⟩=>by rw[e];exact Zg.of u) ?_ ?_⟩];rintro i y G C D U O ⟨rfl,rfl,v,rfl⟩;obtain⟨c,ec,p,rfl,B⟩:=J.get O;dsimp only[XE,Vs];rw[SY R];erw[⟨_,R,.ref p,"tuple",_,_,R,.tup B,R,_,R,Z3 () ⟨_,R,p,_,R,.inr (Zl.of B),R,?_⟩⟩];erw[⟨by rw[Sw,Sy];lia,R,?_,_,R⟩];rw[List.replicate_succ',SN];rfl;rintro G C D ha ⟨rfl,rfl,v,rfl⟩ p B;erw[⟨p,List.replicate j.length true,R,Zg.of Zj,?_⟩];have M:=q _ (Zx B (.lst ((List.replicate j.length true).map V.bl)));rwa[show(List.replicate j.length true).all id=true by rw[List.all_eq_true];intro x L;rw[(List.mem_replicate.mp L).2];rfl]
def Zcc{c:Cl}(h:Yq H v c):X5 H v (c.st,((c.ar:Nat):Int),((c.lv:Nat):Int)):=h
def Zk8{c k:Cl}(h:c.st≠k.st/\k.lv<c.ar):V2 (c.st,((c.ar:Nat):Int),((c.lv:Nat):Int)) (k.st,((k.ar:Nat):Int),((k.lv:Nat):Int))=true:=by
 unfold V2;rw[Bool.and_eq_true];erw[⟨?_,SS (show((k.lv:Nat):Int)<((c.ar:Nat):Int) by lia)⟩];show(!decide (V.str c.st=V.str k.st))=true;simpa using h.1
def Zk9{c:Type}{nm:c->Str}{xs:List c}{z:Str}(h:z∈xs.map nm):(ZQ nm xs z).isSome=true:=by
 obtain⟨x,f,rfl⟩:=SL.mp h;obtain⟨y,e⟩:=Kk (nm:=nm) f;rw[e];rfl
inductive Zla(t:Ye)(vs:List V)(H:Hp)(Q:VK)(_e3:XK):Prop|mk (n:Addr) (N:Yn) (v:V) (c:Cl) (_:vs=[.ref n,v]) (_:VC t H n N) (_:Yq H v c) (_:(ZQ Z6.nm N.st c.st).isSome=true) (_:c.ar<=c.lv) (_:c.lv<=2879) (_:Q .non H)
def Zlb(e:Zv K mg t):Zo P w K mg base Zr 4 t.ZaC t.ZaD ["self","call"] (Zla t):=by
 erw[e.TY.F.ok Zh4 () λM A outer s H L Q E i h=>?_];ext⟨n,N,v,c,rfl,j,⟨p,rfl,f⟩,D,I,J,q⟩ h;have B:=j;ext⟨a,u⟩ B;ext⟨G,fs,C,y⟩ u.ob;erw[⟨_,(Zh (Z1 (YO (pv 0) e.Yg e.QQ.me (zU e) (i.mono ()) e.QQ.b .nil Zm (Zk (Zw ZN (pv 1) Zc)))) (Zh (Z1 (ZE e.Ux (U4 e) i Zm (Yk (Zw ZN (pv 1) Zc) Zc (YR R e.Za9)))) (Zh (Z1 (ZE e.Ux (U4 e) i Zm (Yk (Zw ZN (pv 1) Zc) Zc (YR R e.Za9)))) (Zi (ZK (Ys KM (Zw ZN (pv 1) Zc) (Zw ZN (pv 1) Zc)) (Zi Xb) ZL))))),?_⟩];sleep 4;erw[⟨_,R,n,G,_,R,C,y.n_check_stop,_,R,p,_,0,_,R,R,Zl.of f,R,n,N,c.st,R,j,D,?_⟩];erw[⟨_,R,p,_,1,_,R,R,Zl.of f,R,c.ar,0,2879,R,(),(),?_⟩];erw[⟨_,R,p,_,2,_,R,R,Zl.of f,R,c.lv,0,2879,R,(),(),?_⟩];exact⟨_,R,p,_,2,_,R,R,Zl.of f,R,_,R,p,_,1,_,R,R,Zl.of f,R,_,_,R,R,_,R,Zq (by rw[SU ()];lia) q⟩
inductive Zlc(t:Ye)(K:OA)(vs:List V)(H:Hp)(Q:VK)(_e3:XK):Prop|mk (n:Addr) (a:NA) (N:Yn) (x:Tp) (l:Addr) (vs':List V) (H0:Hp) (_:vs=[.ref n,.str x.nm,.str x.ru,.ref l]) (_:Yl t H n a N) (_:H0 a.dp=none) (_:Zd H0 H) (_:H l=some (.lst vs')) (_:Al (Yq H) vs' x.cs) (_:Vj (N.st.map Z6.nm) x.cs) (_:2<=x.cs.length) (_:x.cs.length<=6) (_:Yv x.nm) (_:(ZQ Yi.nm N.ru x.ru).isSome=true) (_:ZQ Tp.nm N.tp x.nm=none) (_:N.tp.length<10) (_:∀H',Zd H0 H'->Zd (wo H a.dp) H'->Yl t H' n a {N with tp:=N.tp++[x]}->Q .non H')
def Zcd(f:Zv K mg t):Zo P w K mg base Zr 6 t.Zaw t.Zax ["self","name","rule","calls"] (Zlc t K):=by
 erw[f.J3.F.ok Rc () λp0 A outer s H vs Q q0 E h=>?_];ext⟨n,a,N,x,l,q,H0,rfl,S,hW,s0,I,G,ok,c2,c6,m0,f0,hf,hlen,d0⟩ h;ext⟨O,fs,L,J⟩ S.ob;ext⟨rows,U,h2⟩ S.tp;ext⟨j0,n0,a0⟩ S.ru;obtain⟨ry,k0⟩:=Option.isSome_iff_exists.mp f0;obtain⟨r0,g0,_⟩:=(Xr (λkv x (h:XR t H kv x)=>h.1) a0 x.ru).2 ry k0;have hv:=(Xr (λkv x (h:Xu H kv x)=>h.1) h2 x.nm).1 hf;have h0:rows.length<10:=by rw[h2.length];exact hlen
 have lv:=G.length;have l0:q.length<=sizeLine:=Si (show q.length<=6 by lia) ();erw[⟨_,(Zh (Z1 (ZE f.JX (Mp f) E Zm (Zp (pv 1) (ZJ (pv 0) R)))) (Zh (ZK (Yz (Yy (ZE f.QO (C7 f) E Zm (Zp (pv 2) (ZJ (pv 0) R))))) (Zi Xb) ZL) (Zh (ZK (Yz (Yy (ZE f.Zbd (Zk7 f) E Zm (Zk (pv 3))))) (Zi Xb) ZL) (Zh (Xq (vT R f.Za5 (Zk (pv 3))) (WJ (n:=2) R (YQ (Z4 4 Rc.nd) (YQ (Z4 5 Rc.nd) WI))) (Zh (Z1 (YO (pv 0) f.Yg f.TY.me (Zlb f) (E.mono ()) f.TY.b .nil Zm (Zk (pv 5)))) (Zi (ZK (PW.pt (ML (Ys QC (pv 4) Zc) (MK (Yz (Yy (ZE f.Tq (Zb7 f) E Zm (Zp (pv 5) (Zw YC (pv 3) (Zf Vm (pv 4) Zc))))))))) (Zi Xb) ZL)))) (Zh (Z1 (ZE f.QP (Mq f) E Zm (Zp (ZJ (pv 0) R) (YR R f.Zix)))) (Zi (VR (Xk E) (ZJ (pv 0) R) (pv 1) (Yp (Zp (pv 2) (Yt F0 R f.Qn Qm (Zk (V8 (cl:=[]) (N:=["call"]) (fr:=[none]) R (Wo (pv 3)) R () R () trivial trivial R (λ_ _ _ _ _=>(Z4 0 (show List.Nodup (["call"]:OF) by lia))) (λ_ _ _ _ _=>VQ) (λ_ _ _ _ _=>(Yt (show YT _ (.type "tuple") (λxs H Q=>∃p ys,xs=[.ref p]/\((Zg K H p ys/\∀l,H l=none->Q (.ref l) (Za H l (.tup ys)))\/(Zl K H p ys/\Q (.ref p) H)))from F0) R f.Qn Qm (Zk (pv 0))))))))) R))))))),?_⟩];sleep 6;erw[⟨_,R,_,R,n,_,O,_,_,R,L,f.Yg,f.Qq,J.fp,x.nm,a.dp,rows,R,U,m0,hv,λH1 M=>?_⟩];erw[⟨_,R,_,R,n,_,O,_,_,R,M _ _ L,f.Yg,f.QR,J.fr,x.ru,a.dr,j0,R,M _ _ n0,_,R,Zq (by rw[g0];exact SR) ?_⟩];sleep 1;erw[⟨_,R,l,q,x.cs,R,M _ _ I,G.imp λ_ _=>Yq.same M,c2,c6,λH2 s2=>⟨_,R,Zq () ?_⟩⟩];have S2:=M.trans s2;erw[⟨_,R,l,R,⟨_,Zg.of (S2 _ _ I)⟩,vU (xs:=q) (λi u D=>Zd H D/\∃v4 Y:Option V,u=[some (.ref n),some (.str x.nm),some (.str x.ru),some (.ref l),v4,Y]) ⟨S2,_,_,R⟩ (λi u D _ ⟨s',_⟩=>Zg.of (s' _ _ I)) ?_ ?_⟩];rintro i v pp u H3 hx b0 ⟨B,v4,Y,rfl⟩;have y:=B.trans (Zx b0 (.tup [.int i,v]));obtain⟨c,X,hc⟩:=G.get hx;have Z:=SM X;erw[⟨pp,_,R,Zl.of Zj,R,_,_,R,_,_,R,R,?_⟩];sleep 2;erw[⟨_,R,n,O,_,R,y _ _ L,J.n_check_call,_,R,n,N,v,c,R,⟨a,S.same y⟩,hc.same y,Zk9 (ok.st c Z),(ok.rng c Z).1,(ok.rng c Z).2,?_⟩];erw[⟨_,R,_,_,R,R,_,R,?_⟩];by_cases ci:0<i;erw[Z3 (SS ()) ?_];obtain⟨j,rfl⟩:∃j,i=j+1:=⟨i - 1,()⟩;have hj:j<q.length:=by have:=(Su.mp hx).1;lia
 obtain⟨k,ea,ha⟩:=G.get (Sv hj);have fo:=ok.fol j k c ea X;have e0:YP q (((j+1:Nat):Int) - 1)=some q[j]:=by
  have:YP q (j:Int)=some q[j]:=XZ (Sv hj);rw[show(((j+1:Nat):Int) - 1)=(j:Int) by lia];exact this
 exact⟨_,R,_,R,_,R,_,_,R,R,l,_,_,_,R,R,Zg.of (y _ _ I),e0,v,_,_,_,R,Zcc (hc.same y),Zcc (ha.same y),_,R,Zq (by rw[Zk8 fo];lia) ⟨y,_,_,R⟩⟩;exact Zq (by rw[SU ()];lia) (Zq () ⟨y,_,_,R⟩);rintro u H3 ⟨B,v4,Y,rfl⟩;erw[⟨_,R,n,_,O,_,_,R,B _ _ L,f.Yg,f.Qq,J.fp,a.dp,rows,10,R,B _ _ U,(),?_⟩];erw[⟨_,R,_,R,l,R,⟨_,Zg.of (B _ _ I)⟩,UM (K:=K) (a:=l) (xs:=q) (λi T u D=>D=H3/\T=q.take i/\∃v,u=[v]) ⟨R,R,_,R⟩ l0 (λi T u D _ ⟨e,_⟩=>by rw[e];exact Zg.of (B _ _ I)) ?_ ?_⟩];rintro i o0 T u D hi hy ⟨rfl,rfl,v,rfl⟩;obtain⟨c,X,p,rfl,hp⟩:=G.get hy;dsimp only[XE,Vs];rw[SY R];erw[⟨_,R,p,_,R,.inr ⟨Zl.of (B _ _ hp),?_⟩⟩];erw[⟨by rw[Sw,Sy];lia,R,?_,_,R⟩];rw[Ob,hy];rfl;rintro T u D ha ⟨rfl,rfl,v,rfl⟩ p hp;rw[List.take_length];have s5:=Zx hp (.lst q);erw[⟨p,_,R,.inl ⟨Zg.of Zj,λp2 i0=>?_⟩⟩];have s6:=Zx i0 (.tup q);erw[⟨zL9 R,λr c0=>?_⟩];have s7:=Zx c0 (.tup [.str x.ru,.ref p2]);have C:=((B.trans s5).trans s6).trans s7;erw[⟨_,R,n,_,O,_,_,R,C _ _ L,f.Yg,f.Qq,J.fp,_,R,a.dp,_,R,XN.k (k:=Sum.inr x.nm) (C _ _ U) (Nat.lt_trans h0 ()),?_⟩];exact d0 _ (Y3 (s0.trans C) hW _) (λb ob e=>by obtain⟨nb,e⟩:=Z0 e;rw[Ze nb];exact C _ _ e) ((S.same C).addTp (C _ _ U) (h2.imp λ_ _=>Xu.same C) hv ⟨R,r,p2,q,R,Zj,s7 _ _ Zj,G.imp λ_ _=>Yq.same C⟩)
structure Zt where
 nm:Str
 r:R3
 cs:List Cl
structure Zt.Ok(x:Zt):Prop where
 r:x.r.Ok
 len:x.cs.length<=6
abbrev ZX:=Str->Nat->Option (Option (List Nat))
def X7(f:ZX)(z:Str)(day:Nat)(o:Option (List Nat)):ZX:=λc e=>if c=z/\e=day then some o else f c e
def Xv(x:Zt):Option (Option (List Nat))->List Nat
 |some (some ls)=>ls
 |_=>List.replicate x.cs.length 0
def Wi(x:Zt)(o:Option (Option (List Nat)))(day:Nat):Option (List (Str×Int×Int)):=if x.r.runs day=true then (if o=some none then none else some (Y1 (1440*(day:Nat)) x.cs (Xv x o)))else none
def YE(t:Ye)(H:Hp)(f:Zn×V)(x:Zt):Prop:=f.1=Sum.inr x.nm/\∃r c l e,f.2=.ref r/\H r=some (.tup [c,.ref l])/\X6 t H c x.r/\H l=some (.lst e)/\Al (Yq H) e x.cs
def YE.same(s:Zd H c)(h:YE t H f x):YE t c f x:=let ⟨e,r,rv,l,vs,e1,e2,e3,e4,e5⟩:=h;⟨e,r,rv,l,vs,e1,s _ _ e2,e3.same s,s _ _ e4,e5.imp λ_ _=>Yq.same s⟩
def YE.put(hd:H d=some u)(lo:ZI u)(f:∀xs,u≠.lst xs)(h:YE t H c x):YE t (Za H d o) c x :=
 let ⟨e,r,rv,l,vs,e1,e2,e3,e4,e5⟩:=h;⟨e,r,rv,l,vs,e1,XA hd lo e2,e3.put hd lo,by rwa[Ze (Z5 e4 hd (λz=>f _ z.symm))],e5.imp λ_ _=>Yq.put hd lo⟩
def X6.wx{f:List (Str×V)}(q:H x=some (.ins c B f))(u:f.lookup ("timetable" : Str)≠none) (h:X6 t H v r):X6 t (wo H x) v r:=by
 have ne:∀{p C y:Addr} {g:List (Str×V)},H p=some (.ins C y g)->g.lookup ("timetable" : Str)=none->p≠x:=λi j z=>by
  rw[z,q]at i;injection i with i;injection i with _ _ i;rw[i]at u;exact u j
 ext⟨b,e,h⟩ h;exact⟨b,e,ZT.keepF (λ_ _ _ _ j e=>Zy e (ne e j)) (λ_ _=>Ki (λe=>Zy e λz=>by rw[z,q]at e;cases e) λ_ e=>Zy e λz=>by rw[z,q]at e;cases e) h⟩
def YE.wx{E : Addr}{f:List (Str×V)}(i:H x=some (.ins c E f))(B:f.lookup ("timetable" : Str)≠none) (h:YE t H v k):YE t (wo H x) v k:=by
 ext⟨e,r,J,l,y,C,u,G,j,I⟩ h;exact⟨e,r,J,l,y,C,Zy u λz=>(by rw[z,i]at u;cases u),G.wx i B,Zy j λz=>(by rw[z,i]at j;cases j),I.imp λ_ _ ⟨p,D,q⟩=>⟨p,D,Zy q λz=>by rw[z,i]at q;cases q⟩⟩
def Km(H e:Hp):Prop:=∀a o,H a=some o->(∀c,o≠.dT c)->(∀f,o≠.tbl f)->(∀b c,o≠.frz b (.dK c))->e a=some o
section Kp
variable{H':Hp}(y:Km H H')
include y
theorem Km.tup{a:Addr}{xs:List V}(h:H a=some (.tup xs)):H' a=some (.tup xs):=y _ _ h () () ()
theorem Km.lst{a:Addr}{xs:List V}(h:H a=some (.lst xs)):H' a=some (.lst xs):=y _ _ h () () ()
theorem Km.ins{a c x:Addr}{fs:List (Str×V)}(h:H a=some (.ins c x fs)):H' a=some (.ins c x fs):=y _ _ h () () ()
theorem Km.dk(h:H a=some (.dK c)):H' a=some (.dK c):=y _ _ h () () ()
theorem Yq.keep(h:Yq H v c):Yq H' v c:=let ⟨p,e,h⟩:=h;⟨p,e,y.tup h⟩
theorem X6.keep(h:X6 t H v r):X6 t H' v r:=let ⟨b,e,h⟩:=h;⟨b,e,ZT.keepF (λ_ _ _ _ _ e=>y.ins e) (λ_ _=>Ki y.tup λ_ e=>y _ _ e () () (λ_ _ z=>(by injection z with _ z;cases z))) h⟩
theorem YE.keep(h:YE t H c x):YE t H' c x:=let ⟨e,r,rv,l,vs,e1,e2,e3,e4,e5⟩:=h;⟨e,r,rv,l,vs,e1,y.tup e2,e3.keep y,y.lst e4,e5.imp λ_ _=>Yq.keep y⟩
theorem Yl.keep(h:Yl t H n a N):Yl t H' n a N:=by
 ext⟨⟨O,fs,f,c⟩,ap,⟨r1,J,v⟩,⟨L,S,D⟩,⟨E,C,B⟩,⟨r3,T,Q⟩,⟨u,G,j⟩⟩ h;exact⟨⟨O,fs,y.ins f,c⟩,ap,⟨r1,y.dk J,v.imp λ_ _ ⟨e,r,f,c⟩=>⟨e,r,f,y.tup c⟩⟩,⟨L,y.lst S,D.imp λ_ _ ⟨p,e,h⟩=>⟨p,e,y.tup h⟩⟩,⟨E,y.dk C,B.imp λ_ _ h=>⟨h.1,h.2.keep y⟩⟩,⟨r3,y.dk T,Q.imp λ_ _ ⟨e,r,z,f,c,i⟩=>⟨e,r,z,f,y.tup c,y.tup i⟩⟩,⟨u,y.dk G,j.imp λ_ _ ⟨e,r,q,I,f,c,i,M⟩=>⟨e,r,q,I,f,y.tup c,y.tup i,M.imp λ_ _=>Yq.keep y⟩⟩⟩
end Kp
structure NB where
 dt:Addr
 dk:Addr
 dl:Addr
structure Zce(fs:List (Str×V))(b:NB):Prop where
 ft:fs.lookup ("timetable" : Str)=some (V.ref b.dt)
 fk:fs.lookup ("taken" : Str)=some (V.ref b.dk)
 fl:fs.lookup ("lateness" : Str)=some (V.ref b.dl)
 n_late:fs.lookup ("late" : Str)=none
 n_out:fs.lookup ("out" : Str)=none
 n_back:fs.lookup ("back" : Str)=none
 n_moments:fs.lookup ("moments" : Str)=none
 n_told:fs.lookup ("told" : Str)=none
 n_late_minutes:fs.lookup ("late_minutes" : Str)=none
 n_check_day:fs.lookup ("check_day" : Str)=none
 n_check_runs:fs.lookup ("check_runs" : Str)=none
 n_check_goes:fs.lookup ("check_goes" : Str)=none
def ZU(day:Nat)(z:Str):List Zn:=[Sum.inl (day:Int),Sum.inr z]
def C9(e:ZU d' f=ZU d z):f=z/\d'=d:=by
 unfold ZU at e;injection e with h c;injection c with c _;have h:=Sum.inl.inj h;exact⟨Sum.inr.inj c,()⟩
def X8(c:List (List Zn×V))(n:Nat):Prop:=c.length<=n/\∀e∈c,∃d z,e.1=ZU d z
def X8.mono(h:X8 c n)(l:n<=m):X8 c m:=⟨Si h.1 l,h.2⟩
def X8.put(h:X8 c n):X8 (YD c (ZU d z) v) (n+1):=by
 erw[⟨Si (La _ _ _) (Nat.succ_le_succ h.1),λi hm=>?_⟩];unfold YD at hm;split at hm;obtain⟨y,f,e⟩:=SL.mp hm;split at e;exact⟨d,z,by rw[<-e];assumption⟩;exact e ▸ h.2 y f;rcases SI.mp hm with hm|hm;exact h.2 i hm;obtain rfl:=SG.mp hm;exact⟨d,z,R⟩
def X8.sub{c : List (List Zn×V)}(h:X8 e n)(s:c.Sublist e):X8 c n:=⟨Si s.length_le h.1,λf hm=>h.2 f (s.subset hm)⟩
def U6(H:Hp)(c:List (List Zn×V))(f:ZX):Prop:=∀(z:Str) (day:Nat),match f z day with
 |some (some e)=>∃l,ZD c (ZU day z)=some (.ref l)/\H l=some (.lst (e.map λn=>V.int (n:Nat)))
 |_=>ZD c (ZU day z)=none
def U6.same(s:Zd H j)(h:U6 H f c):U6 j f c:=λz i=>by
 have:=h z i;revert this;cases c z i with
 |none=>exact id
 |some o=>cases o with
  |none=>exact id
  |some q=>exact λ⟨l,e,h⟩=>⟨l,e,s _ _ h⟩
structure Yc(t:Ye)(H:Hp)(n:Addr)(b:NB)(TS:List Zt)(KF:ZX)(m:Nat):Prop where
 ob:∃dx fs,H n=some (.ins t.YJ dx fs)/\Zce fs b
 ap:b.dk≠b.dl
 tt:∃rows,H b.dt=some (.dK rows)/\Al (YE t H) rows TS
 tk:∃kvs,H b.dk=some (.dT kvs)/\X8 kvs m/\∀z day,(ZD kvs (ZU day z)).isSome=decide (KF z day=some none)
 lt:∃kvs,H b.dl=some (.dT kvs)/\X8 kvs m/\U6 H kvs KF
def Yc.same{e:Hp}{n:Addr}{b:NB}{TS:List Zt}{c:ZX}{m:Nat}(s:Zd H e)(h:Yc t H n b TS c m):Yc t e n b TS c m:=by
 ext⟨⟨v,fs,y,G⟩,ap,⟨rows,C,i⟩,⟨u,q,f,I⟩,⟨B,E,j,D⟩⟩ h;exact⟨⟨v,fs,s _ _ y,G⟩,ap,⟨rows,s _ _ C,i.imp λ_ _=>YE.same s⟩,⟨u,s _ _ q,f,I⟩,⟨B,s _ _ E,j,D.same s⟩⟩
def K0:ZX:=λ_ _=>none
def D1(N:Yn)(y:Tp)(x:Zt):Prop:=y.nm=x.nm/\y.cs=x.cs/\∃u,ZQ Yi.nm N.ru y.ru=some u/\u.r=x.r
inductive Zld(t:Ye)(vs:List V)(H:Hp)(Q:VK)(_e3:XK):Prop|mk (x n:Addr) (H0:Hp) (N:Yn) (TS:List Zt) (_:vs=[.ref x,.ref n]) (_:H0 x=none) (_:Zd H0 H) (_:(∃dx,H x=some (.ins t.YJ dx []))) (_:VC t H0 n N) (_:Al (D1 N) N.tp TS) (_:(TS.map Zt.nm).Nodup) (_:(∀x∈TS,x.r.Ok)) (_:TS.length<=10) (_:∀H' b,Zd H0 H'->Yc t H' x b TS K0 0->H0 b.dt=none->H0 b.dk=none->H0 b.dl=none->Q .non H')
def Zcf{tp:List Tp}{TS:List Zt}(h:Al (D1 N) tp TS):tp.map Tp.nm=TS.map Zt.nm:=by
 induction h with
 |nil=>rfl
 |cons a _ c=>rw[SO,SO,c,a.1]
def Zcg(c:Zv K mg t):Zo P w K mg base Zr 46 t.Th t.ZaQ ["self","net"] (Zld t):=by
 erw[c.T6.F.ok jI () λw1 A outer s c0 vs s1 a2 Q h=>?_];ext⟨x,n,H0,N,TS,rfl,n0,s0,⟨f,hx⟩,l0,Z,nd,b1,q1,w0⟩ h;have hA:=l0.same s0;ext⟨a,T⟩ l0;ext⟨a0,m1,X,U⟩ T.ob;erw[⟨_,(Zh (XG (pv 0) UN R) (Zh (Xq (Wo (E8 (pv 1) c.Yg c.T0.me (ZkT c) (Q.mono ()) c.T0.b .nil Zm)) (Z4 2 jI.nd) (Zi (VR (Xk Q) (ZJ (pv 0) R) (pv 2) (Yp (Zp (YO (pv 1) c.Yg c.T1.me (ZkZ c) (Q.mono ()) c.T1.b .nil Zm (Zk (YO (pv 1) c.Yg c.T4.me (ZkX c) (Q.mono ()) c.T4.b .nil Zm (Zk (pv 2))))) (YO (pv 1) c.Yg c.T5.me (ZkV c) (Q.mono ()) c.T5.b .nil Zm (Zk (pv 2))))) R))) (Zh (XG (pv 0) Lc R) (Zi (XG (pv 0) Lc R))))),?_⟩];sleep 4;intro p1 g1;have M:p1≠x:=λz=>by rw[z,hx]at g1;cases g1
 have d1:=s0.free g1;erw[⟨_,R,x,_,f,_,R,(by rw[Ze M.symm];exact hx),c.Yu,c.U2,(),?_⟩];generalize b0:Z2 "timetable" (.ref p1) []=v;have k0:v.length<=1:=by rw[<-b0];exact QU (Sl 0)
 have j0:v.lookup ("timetable" : Str)=some (.ref p1):=by rw[<-b0];rfl
 have u1:=Y3 (s0.trans (Zx g1 (.dK []))) n0 (.ins t.YJ f v);have y1:(Za (Za c0 p1 (.dK [])) x (.ins t.YJ f v)) x=some (.ins t.YJ f v):=Zj;have k1:(Za (Za c0 p1 (.dK [])) x (.ins t.YJ f v)) p1=some (.dK []):=by rw[Ze M];exact Zj
 generalize Za (Za c0 p1 (.dK [])) x (.ins t.YJ f v)=H1 at u1 y1 k1 ⊢;erw[⟨_,R,n,a0,_,R,u1 _ _ X,U.n_trips,n,N,R,⟨a,T.same u1⟩,λl gl=>?_⟩];rw[Zcf Z];have t0:l≠p1:=(Zu k1 gl).symm;have v1:l≠x:=(Zu y1 gl).symm;have t2:=Zx gl (.lst ((TS.map Zt.nm).map V.str));have u2:=u1.trans t2;have cl:=@Zj H1 l (.lst ((TS.map Zt.nm).map V.str));have y2:=t2 _ _ y1;have k2:=t2 _ _ k1;generalize Za H1 l (.lst ((TS.map Zt.nm).map V.str))=H2 at u2 cl y2 k2 ⊢;erw[⟨l,R,⟨_,Zg.of cl⟩,Qc (K:=K) (a:=l) (xs:=(TS.map Zt.nm).map V.str) (λi Y H=>Zd H0 H/\H l=some (.lst ((TS.map Zt.nm).map V.str))/\H x=some (.ins t.YJ f v)/\∃(rows:List (Zn×V)) (v2:Option V),H p1=some (.dK rows)/\Al (YE t H) rows (TS.take i)/\Y=[some (.ref x),some (.ref n),v2]) ⟨u2,cl,y2,[],none,k2,.nil,R⟩ (λi Y H _ ⟨_,h,_⟩=>Zg.of h) ?_ ?_⟩];rintro i t1 Y u hv ⟨y,d0,E,rows,v2,k3,D,rfl⟩;rw[Og,Oc]at hv;sleep 101;obtain⟨tx,S,rfl⟩:=Oh.mp hv;have hi:=(Su.mp S).1;have o1:=Z.length;obtain⟨ty,h0⟩:∃ty,N.tp[i]? = some ty:=⟨_,Sv (show i<N.tp.length by lia)⟩;obtain⟨q,i1,en,ec,ru,z0,er⟩:=Z.get h0;have e0:q=tx:=Sr (i1.symm.trans S);subst e0;have mem:=SM S;have j1:(N.tp.map Tp.nm).Nodup:=by rw[Zcf Z];exact nd
 have f0:ZQ Tp.nm N.tp q.nm=some ty:=by rw[<-en];exact Mr j1 (SM h0)
 have p0:ru.r.Ok:=by rw[er];exact b1 _ mem
 erw[⟨_,R,n,a0,_,R,y _ _ X,U.n_rule,_,R,n,a0,_,R,y _ _ X,U.n_rule_name,_,R,n,N,q.nm,ty,R,⟨a,T.same y⟩,f0,?_⟩];erw[⟨n,N,ty.ru,ru,R,⟨a,T.same y⟩,z0,p0,λL H4 s4 u0=>?_⟩];have I:=y.trans s4;erw[⟨_,R,n,a0,_,R,I _ _ X,U.n_calls,_,R,n,N,q.nm,ty,R,⟨a,T.same I⟩,f0,λJ a1 H5 s5 gc hc y0=>?_⟩];erw[⟨zL9 R,λO g6=>?_⟩];have t6:=Zx g6 (.tup [L,.ref J]);have C:=(s4.trans s5).trans t6;have e1:=@Zj H5 O (.tup [L,.ref J]);have i0:YE t (Za H5 O (.tup [L,.ref J])) (Sum.inr q.nm,.ref O) q:=⟨R,O,L,J,a1,R,e1,by rw[<-er];exact(u0.same s5).same t6,t6 _ _ hc,by rw[<-ec];exact y0.imp λ_ _=>Yq.same t6⟩;dsimp only[Y5,Yj,Oe];generalize Za H5 O (.tup [L,.ref J])=H6 at C i0 ⊢;have k6:=C _ _ k3;have o0:rows.length<=10:=by rw[D.length,Sz];lia
 erw[⟨_,R,x,_,f,_,_,R,C _ _ E,c.Yu,c.U2,j0,_,R,p1,_,R,XN.k (k:=Sum.inr q.nm) k6 (Sk o0 ()),?_⟩];have r0:ZD rows (Sum.inr q.nm)=none:=(Xr (λkv x (h:YE t u kv x)=>h.1) D q.nm).1 (Kj nd S);erw[⟨Y3 (y.trans C) d1 _,by rw[Ze t0];exact C _ _ d0,by rw[Ze M.symm];exact C _ _ E,_,_,Zj,?_,R⟩];rw[US _ r0,Ob,S];exact((D.imp λ_ _=>YE.same C).snoc i0).imp λ_ _=>YE.put k6 ZI.k ();rintro Y u ⟨y,d0,E,rows,v2,k3,D,rfl⟩;rw[Oa (by rw[Sx,Sx];exact Sh _)]at D;intro j g4;have x4:j≠x:=λz=>by rw[z,E]at g4;cases g4
 have d4:=y.free g4;erw[⟨_,R,x,_,f,_,R,(by rwa[Ze x4.symm]),c.Yu,c.Qr,Sk k0 (),?_⟩];generalize g0:Z2 "taken" (.ref j) v=B;have q0:B.length<=2:=by rw[<-g0];exact QU k0
 have h1:p1≠j:=Zu k3 g4;have t4:=Zx g4 (.dT []);have I:=Y3 (y.trans t4) n0 (.ins t.YJ f B);have y4:(Za (Za u j (.dT [])) x (.ins t.YJ f B)) x=some (.ins t.YJ f B):=Zj;have k4:(Za (Za u j (.dT [])) x (.ins t.YJ f B)) p1=some (.dK rows):=by rwa[Ze M,Ze h1]
 have k5:(Za (Za u j (.dT [])) x (.ins t.YJ f B)) j=some (.dT []):=by rw[Ze x4];exact Zj
 have w4:Zd (wo u x) (Za (Za u j (.dT [])) x (.ins t.YJ f B)):=λc1 o e=>by
  obtain⟨nc,e⟩:=Z0 e;rw[Ze nc];exact t4 _ _ e
 generalize Za (Za u j (.dT [])) x (.ins t.YJ f B)=H4 at I y4 k4 k5 w4 ⊢;intro G g5;have x5:G≠x:=λz=>by rw[z,y4]at g5;cases g5
 have d5:=I.free g5;erw[⟨_,R,x,_,f,_,R,(by rwa[Ze x5.symm]),c.Yu,c.C3,Sk q0 (),?_⟩];have v0:p1≠G:=Zu k4 g5;have m0:j≠G:=Zu k5 g5;have t5:=Zx g5 (.dT []);erw[w0 _ ⟨p1,j,G⟩ (Y3 (I.trans t5) n0 _) ⟨⟨f,_,Zj,?_⟩,m0,⟨rows,by rwa[Ze M,Ze v0],?_⟩,⟨[],by rwa[Ze x4,Ze m0],⟨Sh _,()⟩,λz x0=>R⟩,⟨[],by rw[Ze x5];exact Zj,⟨Sh _,()⟩,λz x0=>R⟩⟩ d1 d4 d5];subst b0 g0;exact⟨R,R,R,R,R,R,R,R,R,R,R,R⟩
 -- rows keep: nothing of them lies at x
 have sw:Zd (wo u x) (Za (Za H4 G (.dT [])) x (.ins t.YJ f (Z2 "lateness" (.ref G) B))):=λc1 o e=>by
  obtain⟨nc,e'⟩:=Z0 e;rw[Ze nc];exact t5 _ _ (w4 _ _ e)
 exact(D.imp λ_ _ h=>YE.wx E (by rw[j0];exact ()) h).imp λ_ _=>YE.same sw
inductive Wn where
 |run|calls|trip
def Wn.cls(t:Ye):Wn->Addr
 |.run=>t.WR
 |.calls=>t.Vx
 |.trip=>t.VT
def Wn.txt:Wn->Str
 |.run=>ON "run"
 |.calls=>ON "calls"
 |.trip=>ON "trip"
def Ms(t:Ye)(H:Hp)(n:Addr)(TS:List Zt)(c:ZX)(m:Nat):Prop:=∃b,Yc t H n b TS c m
def Zch{i:St}{v:V}{r:R3}{day:Nat}{Q:VK}{h:TA}(c:Zv X.K X.mg t)(u:Yh 9 X.A)(j:X6 t H v r)(ok:r.Ok)(B:∀Z:List V->Hp->Prop,Z [.int day] H->h i H Z)(q:Q (.bl (r.runs day)) H) :
  wW X "runs" h i Q v H:=by
 ext⟨b,rfl,e⟩ j;rw[c.kf]at e;obtain⟨C,y,fs,f,D,sp,g1,g2,g3,g4,g5,g6,g7⟩:=(ZbI (P:=X.prog) (w:=X.w) (mg:=X.mg) (base:=X.base) c 8).at c e ok.2.2;exact⟨b,C,y,fs,f,D,_,_,sp,Zr,E0,R,g1,g2,g3,g4,g5,u,g6,Zm,B _ (g7 day _ q)⟩
inductive Zle(t:Ye)(vs:List V)(H:Hp)(Q:VK)(_e3:XK):Prop|mk (n:Addr) (TS:List Zt) (KF:ZX) (m:Nat) (z:Str) (day:Nat) (_:vs=[.ref n,.str z,.int day]) (_:Ms t H n TS KF m) (_:(ZQ Zt.nm TS z).isSome=true) (_:day<=9999) (_:Q .non H)
def Zci(c:Zv K mg t):Zo P w K mg base Zr 3 t.Tl t.Tn ["self","trip","day"] (Zle t):=by
 erw[c.Qo.F.ok jL () λM A outer s H L Q E j h=>?_];ext⟨n,TS,I,m,z,e,rfl,⟨b,f⟩,u,J,q⟩ h;ext⟨G,fs,D,y⟩ f.ob;ext⟨rows,v,B⟩ f.tt;obtain⟨x,ex⟩:=Option.isSome_iff_exists.mp u;obtain⟨i,C,_⟩:=(Xr (λi x (h:YE t H i x)=>h.1) B z).2 x ex;erw[⟨_,(Zh (ZK (Yz (Yy (ZE c.QO (C7 c) j Zm (Zp (pv 1) (ZJ (pv 0) R))))) (Zi Xb) ZL) (Zi (ZK (Yz (Yy (ZE c.UY (Qs c) j Zm (Yk (pv 2) Zc (YR R c.JV))))) (Zi Xb) ZL))),?_⟩];sleep 2;erw[⟨_,R,_,R,n,_,G,_,_,R,D,c.Yu,c.U2,y.ft,z,b.dt,rows,R,v,_,R,Zq (by rw[C];exact SR) ?_⟩];exact⟨_,R,.int e,0,9999,"int",R,.int e,_,R,Zq (by rw[Qi (show(0:Int)<=(e:Int) by lia) (show(e:Int)<=9999 by lia)];lia) q⟩
inductive Zcj(t:Ye)(d:Zt->Option (Option (List Nat))->Nat->Bool)(vs:List V)(H:Hp)(Q:VK)(E:XK):Prop|mk (n:Addr) (TS:List Zt) (KF:ZX) (m:Nat) (z:Str) (day:Nat) (x:Zt) (_:vs=[.ref n,.str z,.int day]) (_:Ms t H n TS KF m) (_:ZQ Zt.nm TS z=some x) (_:day<=9999) (_:x.r.Ok) (_:(d x (KF z day) day=false->∀H',Zd H H'->E (.ref t.WR) none H')) (_:(d x (KF z day) day=true->∀H',Zd H H'->Q .non H'))
def Zck(c:Zv K mg t):Zo P w K mg base (Xf P w) 11 t.Za0 t.Za1 ["self","trip","day"] (Zcj t λx _ day=>x.r.runs day):=by
 erw[c.J7.F.okX Zid () λa0 A outer s H vs Q b0 f h=>?_];ext⟨n,TS,I,m,z,day,x,rfl,u,ex,J,ok,e,q⟩ h;have L:=u;ext⟨b,j⟩ L;ext⟨C,fs,y,v⟩ j.ob;ext⟨rows,G,M⟩ j.tt;obtain⟨B,O,_,r,U,l,X,E,S,D,Y,T⟩:=(Xr (λB x (h:YE t H B x)=>h.1) M z).2 x ex;erw[⟨_,(Zh (Z1 (YO (pv 0) c.Yu c.Qo.me (Zci c) (f.mono ()) c.Qo.b .nil Zm (Zp (pv 1) (pv 2)))) (Zi (ZK (Yz (Yy (UO (Zw ZN (YI f (ZJ (pv 0) R) (pv 1)) Zc) (Zk (pv 2))))) (Zi (KZ KY c.ZbE R R c.zI (Zk ZH))) ZL))),?_⟩];sleep 2;erw[⟨_,R,n,C,_,R,y,v.n_check_day,_,R,_,R,n,TS,I,m,z,day,R,u,by rw[ex];rfl,J,?_⟩];erw[⟨_,R,n,_,C,_,_,R,y,c.Yu,c.U2,v.ft,_,R,b.dt,.ref r,R,by rw[<-E,<-O];exact Yr.k (k:=Sum.inr z) G,r,_,0,_,R,R,Zl.of S,R,?_⟩];erw[Zch (r:=x.r) (day:=day) c (f.mono ()) D ok (λZ h=>⟨_,R,h⟩) ⟨_,R,?_⟩];cases i:x.r.runs day with
 |false=>exact Z3 () ⟨zL9 R,e i H (Zd.refl H)⟩
 |true=>exact Zq () (q i H (Zd.refl H))
def V3(x:Zt)(o:Option (Option (List Nat)))(day:Nat):Bool:=x.r.runs day && !decide (o=some none)
def Zcl(c:Zv K mg t):Zo P w K mg base (Xf P w) 12 t.Za2 t.Za3 ["self","trip","day"] (Zcj t V3):=by
 erw[c.J8.F.okX Zie () λY A outer s H X Q E G h=>?_];ext⟨n,TS,j,m,z,f,x,rfl,y,ex,J,ok,e,q⟩ h;have M:=y;ext⟨b,v⟩ M;ext⟨D,fs,C,B⟩ v.ob;ext⟨Z,O,T,L⟩ v.tk;erw[⟨_,(Zh (Z1 (YO (pv 0) c.Yu c.J7.me (Zck c) (G.mono ()) c.J7.b .nil A1 (Zp (pv 1) (pv 2)))) (Zi (ZK (UF (G0 (Xk G) (Yp (Zp (pv 2) (pv 1))) (ZJ (pv 0) R))) (Zi (KZ KY c.ZbE R R c.zI (Zk ZH))) ZL))),?_⟩];unfold V3 at e q;sleep 2;erw[⟨_,R,n,D,_,R,C,B.n_check_runs,_,R,_,R,n,TS,j,m,z,f,x,R,y,ex,J,ok,λh=>e (by rw[show x.r.runs f=false from h];rfl),λI U S=>?_⟩];rw[show x.r.runs f=true from I,Ow]at e q;erw[⟨_,R,_,R,zL9 R,λp g=>?_⟩];have i:=S.trans (Zx g (.tup [.int f,.str z]));erw[⟨_,R,n,_,D,_,_,R,i _ _ C,c.Yu,c.Qr,B.fk,b.dk,_,R,Yr.t (k:=ZU f z) (i _ _ O) Zj,_,R,?_⟩];rw[L];cases u:decide (j z f=some none)with
 |true=>exact Z3 () ⟨zL9 R,e (by rw[u];rfl) _ i⟩
 |false=>exact Zq () (q (by rw[u];rfl) _ i)
structure zV(t:Ye)(H:Hp)(n:Addr)(b:NB)(TS:List Zt)(KF:ZX):Prop where
 ob:∃dx fs,H n=some (.ins t.YJ dx fs)/\Zce fs b
 tt:∃rows,H b.dt=some (.dK rows)/\Al (YE t H) rows TS
 lt:∃kvs,Rd H b.dl (.dT kvs)/\U6 H kvs KF
def Yc.la{n:Addr}{b:NB}{TS:List Zt}{e:ZX}{m:Nat}(h:Yc t H n b TS e m):zV t H n b TS e:=⟨h.ob,h.tt,let ⟨k,a,_,c⟩:=h.lt;⟨k,.inl a,c⟩⟩
inductive Zlf(t:Ye)(vs:List V)(H:Hp)(Q:VK)(_e3:XK):Prop|mk (n:Addr) (b:NB) (TS:List Zt) (KF:ZX) (z:Str) (day:Nat) (x:Zt) (_:vs=[.ref n,.str z,.int day]) (_:zV t H n b TS KF) (_:ZQ Zt.nm TS z=some x) (_:x.cs.length<=6) (_:∀l H',Zd H H'->H l=none->H' l=some (.lst ((Xv x (KF z day)).map λn=>V.int (n:Nat)))->Q (.ref l) H')
def D2(m:Nat)(k:Nat):(List.replicate m [V.int k]).flatten=(List.replicate m k).map λn:Nat=>V.int (n:Nat):=by
 rw[List.map_replicate];induction m with
 |zero=>rfl
 |succ m c=>rw[List.replicate_succ,List.replicate_succ,List.flatten_cons,c];rfl
def Mt(e:Zv K mg t):Zo P w K mg base Zr 1 t.ZaY t.ZaZ ["self","trip","day"] (Zlf t):=by
 erw[e.U1.F.ok jK () λm0 A outer s H vs l0 n0 Z h=>?_];ext⟨n,b,TS,I,z,c,x,rfl,y,ex,l6,q⟩ h;ext⟨X,fs,M,L⟩ y.ob;ext⟨rows,h1,h2⟩ y.tt;ext⟨E,U,k3⟩ y.lt;obtain⟨Q,ev,_,r,rv,lc,B,er,i0,j0,hl,a0⟩:=(Xr (λQ x (h:YE t H Q x)=>h.1) h2 z).2 x ex;have k0:=a0.length;erw[⟨_,(Zh (ZM 3 jK.nd (Zf Xj (Z7 (Zk Zc)) (ZP Xt e.Xi Xh (Zk (Zw ZN (YI Z (ZJ (pv 0) R) (pv 1)) Zc))))) (Zi (ZA (Yt Qg R e.X4 X1 (Zk (Ny (Xk Z) (ZJ (pv 0) R) (Yp (Zp (pv 2) (pv 1))) (pv 3) ⟨R,R,R,R⟩)))))),?_⟩];sleep 2;erw[⟨zL9 R,λD g0=>?_⟩];have j:=Zx g0 (.lst [.int 0]);have J:=@Zj H D (.lst [.int 0]);generalize Za H D (.lst [.int 0])=S at j J ⊢;erw[⟨_,R,n,_,X,_,_,R,j _ _ M,e.Yu,e.U2,L.ft,_,R,b.dt,.ref r,R,by rw[<-er,<-ev];exact Yr.k (k:=Sum.inr z) (j _ _ h1),r,_,1,_,R,R,Zl.of (j _ _ i0),R,lc,_,R,.inl (Zg.of (j _ _ hl)),D,((B.length:Nat):Int),_,R,R,J,(),(),by show 1*_<=sizeLine;exact Si (show _<=6 by lia) (),λpr gr=>?_⟩];have d0:(List.replicate ((B.length:Nat):Int).toNat [V.int 0]).flatten=(List.replicate x.cs.length 0).map λn:Nat=>V.int (n:Nat):=by
  rw[show((B.length:Nat):Int).toNat=x.cs.length by lia];exact D2 _ 0
 rw[d0];have t2:=Zx gr (.lst ((List.replicate x.cs.length 0).map λn:Nat=>V.int (n:Nat)));have Y:=@Zj S pr (.lst ((List.replicate x.cs.length 0).map λn:Nat=>V.int (n:Nat)));have v:=j.trans t2;generalize Za S pr (.lst ((List.replicate x.cs.length 0).map λn:Nat=>V.int (n:Nat)))=O at v Y ⊢;erw[⟨_,R,n,_,X,_,_,R,v _ _ M,e.Yu,e.C3,L.fl,b.dl,R,.inr ⟨E,U.imp (v _ _) λ⟨o,q⟩=>⟨o,v _ _ q⟩⟩,_,R,_,R,zL9 R,λp g=>?_⟩];have G:=Zx g (.tup [.int c,.str z]);have f:=v.trans G;have c3:=@Zj O p (.tup [.int c,.str z]);have C:=G _ _ Y;generalize Za O p (.tup [.int c,.str z])=H3 at f c3 C ⊢;erw[⟨_,R,_,.inr ⟨E,ZU c z,p,U.imp (f _ _) λ⟨o,q⟩=>⟨o,f _ _ q⟩,R,c3,R⟩,?_⟩];have u:=k3.same f z c;have f0:∃i,(ZD E (ZU c z)).getD (.ref pr)=.ref i/\H3 i=some (.lst ((Xv x (I z c)).map λn=>V.int (n:Nat))):=by
  revert u;cases I z c with
  |none=>exact λu=>⟨pr,by rw[u];rfl,C⟩
  |some o=>cases o with
   |none=>exact λu=>⟨pr,by rw[u];rfl,C⟩
   |some ls=>exact λ⟨i,h0,h⟩=>⟨i,by rw[h0];rfl,h⟩
 ext⟨i,e0,b0⟩ f0;rw[e0];erw[⟨i,_,R,.inl (Zg.of b0),λl T=>?_⟩];exact q l _ (f.trans (Zx T _)) (f.free T) Zj
inductive Zcm(t:Ye)(vs:List V)(H:Hp)(Q:VK)(_e3:XK):Prop|mk (n:Addr) (TS:List Zt) (KF:ZX) (m:Nat) (z:Str) (day:Nat) (x:Zt) (_:vs=[.ref n,.str z,.int day]) (_:Ms t H n TS KF m) (_:ZQ Zt.nm TS z=some x) (_:day<=9999) (_:x.Ok) (_:(∀ls,KF z day=some (some ls)->ls.length=x.cs.length)) (_:(Wi x (KF z day) day=none->∀H',Zd H H'->Q .non H')) (_:∀ms,Wi x (KF z day) day=some ms->∀l vs H',Zd H H'->H l=none->H' l=some (.lst vs)->Al (X5 H') vs ms->Q (.ref l) H')
def Kn{x:Zt}(h:∀ls,o=some (some ls)->ls.length=x.cs.length):(Xv x o).length=x.cs.length:=by
 cases o with
 |none=>exact SC
 |some o=>cases o with
  |none=>exact SC
  |some ls=>exact h ls R
def Zlg(c:Zv K mg t):Zo P w K mg base Zr 11 t.Ti t.Tj ["self","trip","day"] (Zcm t):=by
 erw[c.C0.F.ok jJ () λf0 A outer s H vs e0 g0 f h=>?_];ext⟨n,TS,u,m,z,day,x,rfl,I,ex,d9,D,a0,S,q2⟩ h;have c0:=I;ext⟨b,y⟩ c0;ext⟨q,fs,j,i⟩ y.ob;ext⟨rows,E,h2⟩ y.tt;ext⟨h0,k1,k2,k3⟩ y.tk;erw[⟨_,(Zh (Z1 (YO (pv 0) c.Yu c.Qo.me (Zci c) (f.mono ()) c.Qo.b .nil Zm (Zp (pv 1) (pv 2)))) (Zh (ZK (PW.pt (Uo (Yz (Yy (UO (Zw ZN (YI f (ZJ (pv 0) R) (pv 1)) Zc) (Zk (pv 2))))) (Um (UF (G0 (Xk f) (Yp (Zp (pv 2) (pv 1))) (ZJ (pv 0) R)))))) (Zi (ZA Ul)) ZL) (Zi (ZA (ZE c.LL (zT c) f Zm (Yk (Zw ZN (YI f (ZJ (pv 0) R) (pv 1)) Zc) (Zf VH (pv 2) (YR R c.Za8)) (YO (pv 0) c.Yu c.U1.me (Mt c) (f.mono ()) c.U1.b .nil Zm (Zp (pv 1) (pv 2))))))))),?_⟩];sleep 3;erw[⟨_,R,n,q,_,R,j,i.n_check_day,_,R,_,R,n,TS,u,m,z,day,R,I,by rw[ex];rfl,d9,?_⟩];obtain⟨O,J,_,r,rv,lc,b0,G,Q,T,hl,U⟩:=(Xr (λO x (h:YE t H O x)=>h.1) h2 z).2 x ex;erw[⟨_,R,n,_,q,_,_,R,j,c.Yu,c.U2,i.ft,_,R,b.dt,.ref r,R,by rw[<-G,<-J];exact Yr.k (k:=Sum.inr z) E,r,_,0,_,R,R,Zl.of Q,R,?_⟩];erw[Zch (r:=x.r) (day:=day) c (f.mono ()) T D.r (λd0 h=>⟨_,R,h⟩) ⟨_,R,?_⟩];cases C:x.r.runs day with
 |false=>exact Z3 () (S (by unfold Wi;rw[C,SX SR]) _ (Zd.refl H))
 |true =>
  erw[Zq () ⟨_,R,_,R,zL9 R,λp g=>?_⟩];have e:=Zx g (.tup [.int day,.str z]);have L:=@Zj H p (.tup [.int day,.str z]);generalize Za H p (.tup [.int day,.str z])=H1 at e L ⊢;erw[⟨_,R,n,_,q,_,_,R,e _ _ j,c.Yu,c.Qr,i.fk,b.dk,_,R,Yr.t (k:=ZU day z) (e _ _ k1) L,_,R,?_⟩];rw[k3];by_cases v:u z day=some none;exact Z3 (SS v) (S (by unfold Wi;rw[C,SY R,SY v]) _ e);erw[Zq (by rw[SU v];lia) ?_];sleep 1;erw[⟨_,R,n,_,q,_,_,R,e _ _ j,c.Yu,c.U2,i.ft,_,R,b.dt,.ref r,R,by rw[<-G,<-J];exact Yr.k (k:=Sum.inr z) (e _ _ E),r,_,1,_,R,R,Zl.of (e _ _ Q),R,?_⟩];erw[⟨_,R,_,_,R,R,.inr ⟨(),()⟩,?_⟩];erw[⟨_,R,n,q,_,R,e _ _ j,i.n_late_minutes,_,R,_,R,n,b,TS,u,z,day,x,R,(y.same e).la,ex,D.len,λl2 H2 t2 g2 c2=>?_⟩];have B:=e.trans t2;erw[⟨lc,l2,_,b0,x.cs,Xv x (u z day),R,Zg.of (B _ _ hl),U.imp λ_ _=>Yq.same B,Zg.of c2,D.len,Kn a0,λX Y H3 Z g3 c3 M=>?_⟩];rw[Int.mul_comm]at M;exact q2 _ (by unfold Wi;rw[C,SY R,SX v]) X Y H3 (B.trans Z) (B.free g3) c3 M
inductive Zcn(t:Ye)(vs:List V)(H:Hp)(Q:VK)(E:XK):Prop|mk (n:Addr) (TS:List Zt) (KF:ZX) (m:Nat) (z:Str) (day:Nat) (_:vs=[.ref n,.str z,.int day]) (_:Ms t H n TS KF m) (_:ZQ Zt.nm TS z=none) (_:∀H',Zd H H'->E (.ref t.VT) none H')
def Zlh(c:Zv K mg t):Zo P w K mg base (Xf P w) 3 t.Tl t.Tn ["self","trip","day"] (Zcn t):=by
 erw[c.Qo.F.okX jL () λL A outer s H J Q E i h=>?_];ext⟨n,TS,G,m,z,I,rfl,⟨b,f⟩,j,e⟩ h;ext⟨D,fs,B,u⟩ f.ob;ext⟨rows,q,v⟩ f.tt;have y:=(Xr (λC x (h:YE t H C x)=>h.1) v z).1 j;erw[⟨_,(Zh (ZK (Yz (Yy (ZE c.QO (C7 c) i Zm (Zp (pv 1) (ZJ (pv 0) R))))) (Zi (KZ KY c.Zjx R R c.Zbv (Zk ZH))) ZL) (Zi (ZK (Yz (Yy (ZE c.UY (Qs c) i Zm (Yk (pv 2) Zc (YR R c.JV))))) (Zi Xb) ZL))),?_⟩];sleep 2;exact⟨_,R,_,R,n,_,D,_,_,R,B,c.Yu,c.U2,u.ft,z,b.dt,rows,R,q,_,R,Z3 (by rw[y];rfl) ⟨zL9 R,e H (Zd.refl H)⟩⟩
def Zli(c:Zv K mg t):Zo P w K mg base (Xf P w) 11 t.Ti t.Tj ["self","trip","day"] (Zcn t):=by
 erw[c.C0.F.okX jJ () λI A outer s H G Q E f h=>?_];ext⟨n,TS,B,m,z,y,rfl,i,q,e⟩ h;have j:=i;ext⟨b,D⟩ j;ext⟨u,fs,v,C⟩ D.ob;erw[⟨_,(Zh (Z1 (YO (pv 0) c.Yu c.Qo.me (Zlh c) (f.mono ()) c.Qo.b .nil A1 (Zp (pv 1) (pv 2)))) (Zh (ZK (PW.pt (Uo (Yz (Yy (UO (Zw ZN (YI f (ZJ (pv 0) R) (pv 1)) Zc) (Zk (pv 2))))) (Um (UF (G0 (Xk f) (Yp (Zp (pv 2) (pv 1))) (ZJ (pv 0) R)))))) (Zi (ZA Ul)) ZL) (Zi (ZA (ZE c.LL (zT c) f Zm (Yk (Zw ZN (YI f (ZJ (pv 0) R) (pv 1)) Zc) (Zf VH (pv 2) (YR R c.Za8)) (YO (pv 0) c.Yu c.U1.me (Mt c) (f.mono ()) c.U1.b .nil Zm (Zp (pv 1) (pv 2))))))))),?_⟩];sleep 3;exact⟨_,R,n,u,_,R,v,C.n_check_day,_,R,_,R,n,TS,B,m,z,y,R,i,q,e⟩
def VD:List (Str×Int×Int)->Bool
 |x::y::r=>V2 y x && VD (y::r)
 |_=>true
theorem Mu:∀e:List (Str×Int×Int),VD e=true↔∀i x y,e[i]? = some x->e[i+1]? = some y->V2 y x=true
 |[]=>⟨(),λ_=>R⟩
 |[a]=>⟨λ_ i x y _ h=>(by cases i<;>cases h),λ_=>rfl⟩
 |a::b::r=>by
  have f:=Mu (b::r);show(V2 b a && VD (b::r))=true↔_;rw[Bool.and_eq_true];constructor;rintro⟨q,j⟩ i x y ex c;cases i with
  |zero=>cases ex;cases c;exact q
  |succ i=>exact f.mp j i x y ex c
  intro h;exact⟨h 0 a b R R,f.mpr λi x y ex c=>h (i+1) x y ex c⟩
inductive Zlj(t:Ye)(K:OA)(vs:List V)(H:Hp)(Q:VK)(E:XK):Prop|mk (a:Addr) (mvv:List V) (ms:List (Str×Int×Int)) (_:vs=[.ref a]) (_:Zg K H a mvv) (_:Al (X5 H) mvv ms) (_:ms.length<=6) (_:(VD ms=true->Q .non H)) (_:(VD ms=false->E (.ref t.Vx) none H))
def Zlk(f:Zv K mg t):Zo P w K mg base (Xf P w) 2 t.kM t.kN ["calls"] (Zlj t K):=by
 erw[f.Zbe.F.okX qU () λb0 A outer s H vs a0 c0 hr h=>?_];ext⟨a,u,B,rfl,G,J,l6,q,e⟩ h;erw[⟨_,(Zi (yR PassesOwn.leaving R (yP R f.VU (Zp Zc (ZP Xt f.Xi Xh (Zk (pv 0))))) (Z4 1 qU.nd) (Zi (ZK (Yz (Yy (ZE f.Tq (Zb7 f) hr Zm (Zp (Zw YC (pv 0) (pv 1)) (Zw YC (pv 0) (Zf Vm (pv 1) Zc)))))) (Zi (KZ KY f.Zjs R R f.Zbw (Zk ZH))) ZL)))),?_⟩];sleep 1;have lm:=J.length;erw[⟨_,R,a,_,R,.inl G,1,_,R,⟨(),(),(),()⟩,UH (lo:=1) (n:=(((u.length:Nat):Int) - 1).toNat) (λi L X=>X=H/\(∀j x y,j<i->B[j]? = some x->B[j+1]? = some y->V2 y x=true)/\∃v,L=[some (.ref a),v]) ⟨R,(),none,R⟩ ?_ ?_⟩];rintro i L Y hi ⟨rfl,ok,v,rfl⟩;sleep 101;have M:i+1<u.length:=by lia
 obtain⟨y,C,T⟩:=J.get (Sv M);obtain⟨x,ex,Q⟩:=J.get (Sv (show i<u.length by lia));have U:YP u ((1:Int)+(i:Int))=some u[i+1]:=by
  rw[show(1:Int)+(i:Int)=((i+1:Nat):Int) by lia];exact XZ (Sv M)
 have S:YP u ((1:Int)+(i:Int) - 1)=some u[i]:=by
  rw[show(1:Int)+(i:Int) - 1=(i:Int) by lia];exact XZ (Sv ())
 erw[⟨_,R,_,R,a,_,_,_,R,R,G,U,_,R,_,R,_,_,R,R,a,_,_,_,R,R,G,S,_,_,y,x,R,T,Q,_,R,?_⟩];cases E:V2 y x with
 |true =>
  erw[Zq () ⟨R,λj Z O hj D I=>?_,_,R⟩];by_cases c:j<i;exact ok j Z O c D I;obtain rfl:j=i:=by lia
  rw[ex]at D;rw[C]at I;cases D;cases I;exact E
 |false =>
  erw[Z3 () ⟨zL9 R,e ?_⟩];cases c:VD B with
  |false=>rfl
  |true=>rw[(Mu B).mp c i x y ex C]at E;cases E
 rintro L Y ⟨rfl,ok,v,rfl⟩;exact q ((Mu B).mpr λi x y ex C=>ok i x y (by have:=(Su.mp C).1;lia) ex C)
def Ko{κ:Type}[DecidableEq κ](i:List (κ×V))(k j:κ):ZD (Vd i k) j=if j=k then none else ZD i j:=by
 induction i with
 |nil =>
  by_cases e:j=k;rw[SY e];rfl;rw[SX e];rfl
 |cons a r c =>
  unfold Vd at c ⊢;by_cases h:a.1=k;rw[List.filter_cons,SX (by rw[decide_eq_true_eq];exact λz=>z h),c];by_cases e:j=k;rw[SY e,SY e];rw[SX e,SX e,WO (λz=>e (z.symm.trans h))];rw[List.filter_cons,SY (SS h)];by_cases e:j=k;rw[SY e]at c ⊢;rw[WO (λz=>h (z.trans e)),c];rw[SX e]at c ⊢;by_cases f:a.1=j;rw[Ve f,Ve f];rw[WO f,WO f,c]
def XB(x:Zt)(o:Option (Option (List Nat)))(c k:Nat):List Nat:=(Xv x o).take c++List.replicate (x.cs.length - c) k
def zW{x:Zt}(h:∀ls,o=some (some ls)->ls.length=x.cs.length)(k:Nat)(e:c<=x.cs.length):(XB x o c k).length=x.cs.length:=by
 unfold XB;rw[Sw,Sz,Kn h,SC];lia
inductive Zll(t:Ye)(vs:List V)(H:Hp)(Q:VK)(E:XK):Prop|mk (n:Addr) (b:NB) (TS:List Zt) (KF:ZX) (m:Nat) (z:Str) (day c k:Nat) (x:Zt) (_:vs=[.ref n,.str z,.int day,.int c,.int k]) (_:Yc t H n b TS KF m) (_:m<1000) (_:ZQ Zt.nm TS z=some x) (_:day<=9999) (_:x.Ok) (_:(∀ls,KF z day=some (some ls)->ls.length=x.cs.length)) (_:c<x.cs.length) (_:k<=300) (_:(V3 x (KF z day) day=false->∀H',Zd H H'->E (.ref t.WR) none H')) (_:(V3 x (KF z day) day=true->VD (Y1 0 x.cs (XB x (KF z day) c k))=false->∀H',Zd H H'->E (.ref t.Vx) none H')) (_:(V3 x (KF z day) day=true->VD (Y1 0 x.cs (XB x (KF z day) c k))=true->∀H',Zd (wo (wo H b.dk) b.dl) H'->Yc t H' n b TS (X7 KF z day (some (XB x (KF z day) c k))) (m+1)->Q .non H'))
def Q5{x:Zt}(h:V3 x o day=true):x.r.runs day=true/\o≠some none:=by
 unfold V3 at h;rw[Bool.and_eq_true]at h;exact⟨h.1,λz=>by rw[SS z]at h;cases h.2⟩
def Zco(xs:List V)(c:Nat):WM xs none (some (c:Int))=xs.take c:=by
 unfold WM HT.sIx;dsimp only;rw[SX (),List.drop_zero];by_cases h:c<=xs.length;congr 1;lia;rw[Oa (),Oa ()]
def Yc.late{n:Addr}{b:NB}{TS:List Zt}{j:ZX}{m:Nat}{z:Str}{day:Nat}{l:Addr}{ls:OJ}{u:List (List Zn×V)}(h:Yc t H n b TS j m)(M:j z day≠some none)(f:H b.dl=some (.dT u))(E:H l=some (.lst (ls.map λn=>V.int (n:Nat)))) :
  Yc t (Za H b.dl (.dT (YD u (ZU day z) (.ref l)))) n b TS (X7 j z day (some ls)) (m+1):=by
 ext⟨⟨T,fs,O,I⟩,ap,⟨rows,v,L⟩,⟨S,Q,J,X⟩,⟨D,q,G,U⟩⟩ h;obtain rfl:u=D:=by rw[f]at q;injection q with q;injection q
 have keep:∀{p y},H p=some (.lst y)->∀o,Za H b.dl o p=some (.lst y):=λB o=>by rwa[Ze (Z5 B f (by intro z;cases z))]
 erw[⟨⟨T,fs,Qu f ZI.dt O,I⟩,ap,⟨rows,by rwa[Ze (Z5 v f (by intro z;cases z))],L.imp λ_ _=>YE.put f ZI.dt ()⟩,⟨S,by rwa[Ze ap],J.mono (Nat.le_succ _),λc i=>?_⟩,⟨_,Zj,G.put,λc i=>?_⟩⟩];rw[X];unfold X7;by_cases e:c=z/\i=day;rw[SY e,e.1,e.2,SU M];rfl;rw[SX e];rw[Nu];have C:=U c i;unfold X7;by_cases e:c=z/\i=day;rw[SY e];show ∃_,_;rw[e.1,e.2,SY R];exact⟨l,R,keep E _⟩;rw[SX e,SX λz=>e (C9 z)];revert C;cases j c i with
 |none=>exact id
 |some o=>cases o with
  |none=>exact id
  |some ls=>exact λ⟨l,e,h⟩=>⟨l,e,keep h _⟩
def Zlm(f:Zv K mg t):Zo P w K mg base (Xf P w) 13 t.ZaR t.ZaS ["self","trip","day","call","minutes"] (Zll t):=by
 erw[f.T7.F.okX Rp () λs0 A outer s l0 vs o0 t0 u h=>?_];ext⟨n,b,TS,j,m,z,i,c,k,x,rfl,y,m1,ex,d9,ok,d0,hc,hk,h0,C,q⟩ h;ext⟨H,fs,G,E⟩ y.ob;ext⟨rows,h1,h2⟩ y.tt;ext⟨m0,k1,k2,k3⟩ y.lt;erw[⟨_,(Zh (Z1 (YO (pv 0) f.Yu f.J8.me (Zcl f) (u.mono ()) f.J8.b .nil A1 (Zp (pv 1) (pv 2)))) (Zh (ZM 5 Rp.nd (Zw ZN (YI u (ZJ (pv 0) R) (pv 1)) Zc)) (Zh (Z1 (ZE f.Ux (U4 f) u Zm (Yk (pv 3) Zc (Zf Vm (ZP Xt f.Xi Xh (Zk (pv 5))) Zc)))) (Zh (Z1 (ZE f.Ux (U4 f) u Zm (Yk (pv 4) Zc (YR R f.ZiE)))) (Zh (ZM 6 Rp.nd (Zf XH (QF KQ (YO (pv 0) f.Yu f.U1.me (Mt f) (u.mono ()) f.U1.b .nil Zm (Zp (pv 1) (pv 2))) Q8 (Ur (pv 3))) (Zf Xj (Z7 (Zk (pv 4))) (Zf Vm (ZP Xt f.Xi Xh (Zk (pv 5))) (pv 3))))) (Zh (Z1 (ZE f.Zbe (Zlk f) u A1 (Zk (ZE f.LL (zT f) u Zm (Yk (pv 5) Zc (pv 6)))))) (Zi (VR (Xk u) (ZJ (pv 0) R) (Yp (Zp (pv 2) (pv 1))) (pv 6) R)))))))),?_⟩];sleep 7;erw[⟨_,R,n,H,_,R,G,E.n_check_goes,_,R,_,R,n,TS,j,m,z,i,x,R,⟨b,y⟩,ex,d9,ok.r,h0,λa0 H1 v=>?_⟩];have J:=ok.len;obtain⟨r0,nk⟩:=Q5 a0;replace C:=C a0;replace q:=q a0;obtain⟨kv,ev,_,r,rv,S,Z,er,n0,q0,hl,b0⟩:=(Xr (λkv x (h:YE t l0 kv x)=>h.1) h2 z).2 x ex;have p0:=b0.length;have lm:=Kn d0;erw[⟨_,R,n,_,H,_,_,R,v _ _ G,f.Yu,f.U2,E.ft,_,R,b.dt,.ref r,R,by rw[<-er,<-ev];exact Yr.k (k:=Sum.inr z) (v _ _ h1),r,_,1,_,R,R,Zl.of (v _ _ n0),R,?_⟩];erw[⟨_,R,_,R,S,_,R,.inl (Zg.of (v _ _ hl)),_,_,R,R,c,0,_,R,(),(),?_⟩];erw[⟨_,R,k,0,300,R,(),(),?_⟩];erw[⟨_,R,n,H,_,R,v _ _ G,E.n_late_minutes,_,R,_,R,n,b,TS,j,z,i,x,R,(y.same v).la,ex,J,λl2 H2 s2 g2 c2=>?_⟩];have S2:=v.trans s2;erw[⟨_,R,_,R,l2,_,R,Zg.of c2,λQ g3=>?_⟩];rw[show WM ((Xv x (j z i)).map λn:Nat=>V.int (n:Nat)) none (some (c:Int))=((Xv x (j z i)).take c).map λn:Nat=>V.int (n:Nat) by rw[Zco,List.map_take]];have t3:=Zx g3 (.lst (((Xv x (j z i)).take c).map λn:Nat=>V.int (n:Nat)));have S3:=S2.trans t3;have c3:=@Zj H2 Q (.lst (((Xv x (j z i)).take c).map λn:Nat=>V.int (n:Nat)));generalize Za H2 Q (.lst (((Xv x (j z i)).take c).map λn:Nat=>V.int (n:Nat)))=H3 at S3 c3 ⊢;erw[⟨_,R,zL9 R,λL g4=>?_⟩];have t4:=Zx g4 (.lst [.int k]);have X:=S3.trans t4;have c4:=@Zj H3 L (.lst [.int k]);have e0:=t4 _ _ c3;generalize Za H3 L (.lst [.int k])=H4 at X c4 e0 ⊢;erw[⟨_,R,S,_,R,.inl (Zg.of (X _ _ hl)),_,R,_,_,R,R,L,((Z.length:Nat):Int) - (c:Int),_,R,R,c4,(),(),by show 1*_<=sizeLine;exact Si (show _<=6 by lia) (),λM g5=>?_⟩];rw[show(((Z.length:Nat):Int) - (c:Int)).toNat=x.cs.length - c by lia,D2];have t5:=Zx g5 (.lst ((List.replicate (x.cs.length - c) k).map λn:Nat=>V.int (n:Nat)));have S5:=X.trans t5;have c5:=@Zj H4 M (.lst ((List.replicate (x.cs.length - c) k).map λn:Nat=>V.int (n:Nat)));have c0:=t5 _ _ e0;generalize Za H4 M (.lst ((List.replicate (x.cs.length - c) k).map λn:Nat=>V.int (n:Nat)))=H5 at S5 c5 c0 ⊢;erw[⟨Q,M,_,_,R,R,c0,c5,by rw[Sx,Sx,Sz,SC,lm];exact Si (show _<=6 by lia) (),λU g6=>?_⟩];rw[<-SN,show(Xv x (j z i)).take c++List.replicate (x.cs.length - c) k=XB x (j z i) c k from R];have T:=zW d0 k (show c<=x.cs.length by lia);generalize XB x (j z i) c k=B at T C q ⊢;have t6:=Zx g6 (.lst (B.map λn:Nat=>V.int (n:Nat)));have I:=S5.trans t6;have Y:=@Zj H5 U (.lst (B.map λn:Nat=>V.int (n:Nat)));generalize Za H5 U (.lst (B.map λn:Nat=>V.int (n:Nat)))=H6 at I Y ⊢;erw[⟨_,R,_,R,S,U,0,Z,x.cs,B,R,Zg.of (I _ _ hl),b0.imp λ_ _=>Yq.same I,Zg.of Y,J,T,λl7 g0 H7 s7 g7 c7 f0=>?_⟩];have S7:=I.trans s7;have k0:=s7 _ _ Y;have i0:(Y1 0 x.cs B).length<=6:=by unfold Y1;rwa[List.length_zipWith,T,Nat.min_self]
 erw[⟨l7,g0,_,R,Zg.of c7,f0,i0,λO=>?_,λO=>C O _ S7⟩];have S8:=S7;have j0:=k0;replace q:=q O;erw[⟨_,R,_,R,n,_,H,_,_,R,S8 _ _ G,f.Yu,f.C3,E.fl,_,R,_,R,zL9 R,λp9 g9=>?_⟩];have t9:=Zx g9 (.tup [.int i,.str z]);have D:=S8.trans t9;erw[⟨b.dl,_,R,XN.t (k:=ZU i z) (D _ _ k1) Zj (Sk (show m0.length<=1000 by have:=k2.1;lia) ()),?_⟩];erw[q _ (λa o e=>?_) ((y.same D).late nk (D _ _ k1) (t9 _ _ j0))];obtain⟨na,e⟩:=Z0 e;obtain⟨_,e⟩:=Z0 e;rw[Ze na];exact D _ _ e
inductive Zln(t:Ye)(vs:List V)(H:Hp)(Q:VK)(E:XK):Prop|mk (n:Addr) (b:NB) (TS:List Zt) (KF:ZX) (m:Nat) (z:Str) (day:Nat) (x:Zt) (_:vs=[.ref n,.str z,.int day]) (_:Yc t H n b TS KF m) (_:m<1000) (_:ZQ Zt.nm TS z=some x) (_:day<=9999) (_:x.r.Ok) (_:(V3 x (KF z day) day=false->∀H',Zd H H'->E (.ref t.WR) none H')) (_:(V3 x (KF z day) day=true->∀H',Zd (wo (wo H b.dk) b.dl) H'->Yc t H' n b TS (X7 KF z day none) (m+1)->Q .non H'))
def Yc.outs{n:Addr}{b:NB}{TS:List Zt}{D:ZX}{m:Nat}{z:Str}{day:Nat}{y q:List (List Zn×V)}(h:Yc t H n b TS D m)(J:H b.dl=some (.dT y))(I:H b.dk=some (.dT q)){C:List (List Zn×V)}(Q:C.Sublist y)(vl:∀j,ZD C j=if j=ZU day z then none else ZD y j){i:Hp}(s:Zd (wo H b.dl) i)(X:i b.dl=some (.dT C))(b0:i b.dk=some (.dT q))(v:V) :
  Yc t (Za i b.dk (.dT (YD q (ZU day z) v))) n b TS (X7 D z day none) (m+1):=by
 ext⟨⟨dx,fs,G,E⟩,ap,⟨rows,M,h2⟩,⟨k1,B,a2,a3⟩,⟨O,u,b2,b3⟩⟩ h;obtain rfl:y=O:=by rw[J]at u;injection u with u;injection u
 obtain rfl:q=k1:=by rw[I]at B;injection B with B;injection B
 have S:Zd (wo (wo H b.dl) b.dk) (Za i b.dk (.dT (YD q (ZU day z) v))):=λa o e=>by
  obtain⟨Y,e⟩:=Z0 e;rw[Ze Y];exact s _ _ e
 have up:∀{a o},H a=some o->(∀a0,o≠.dT a0)->wo (wo H b.dl) b.dk a=some o:=λe n=>Zy (Zy e (Z5 e J (n _))) (Z5 e I (n _));have r2:Al (YE t (wo (wo H b.dl) b.dk)) rows TS:=h2.imp λ_ _ Z=>by
  ext⟨e,r,U,l,vs,G,E,e3,e4,T⟩ Z;exact YE.keep (λa o e nd _ _=>up e nd) ⟨e,r,U,l,vs,G,E,e3,e4,T⟩
 erw[⟨⟨dx,fs,S _ _ (up G ()),E⟩,ap,⟨rows,S _ _ (up M ()),r2.imp λ_ _=>YE.same S⟩,⟨_,Zj,a2.put,λc f=>?_⟩,⟨C,by rwa[Ze ap.symm],(b2.sub Q).mono (Nat.le_succ _),λc f=>?_⟩⟩];rw[Nu];unfold X7;by_cases e:c=z/\f=day;rw[e.1,e.2,SY R,SY ⟨R,R⟩];rfl;rw[SX e,SX λz=>e (C9 z),a3];rw[vl];have L:=b3 c f;unfold X7;by_cases e:c=z/\f=day;rw[SY e];show _=none;rw[e.1,e.2,SY R];rw[SX e,SX λz=>e (C9 z)];revert L;cases D c f with
 |none=>exact id
 |some o=>cases o with
  |none=>exact id
  |some ls=>exact λ⟨l,e,h⟩=>⟨l,e,S _ _ (up h ())⟩
def Kq{c:List (List Zn×V)}{k:List Zn}:(Vd c k).Sublist c:=List.filter_sublist
def Zlo(h:Zv K mg t):Zo P w K mg base (Xf P w) 13 t.ZaT t.ZaU ["self","trip","day"] (Zln t):=by
 erw[h.T9.F.okX Zib () λh0 A outer s f0 vs c0 i0 T b0=>?_];ext⟨n,b,TS,KF,m,z,c,x,rfl,y,m1,ex,d9,ok,e,q⟩ b0;ext⟨D,fs,B,E⟩ y.ob;ext⟨u,l1,l2,l3⟩ y.lt;ext⟨H,G,U,k3⟩ y.tk;erw[⟨_,(Zh (Z1 (YO (pv 0) h.Yu h.J8.me (Zcl h) (T.mono ()) h.J8.b .nil A1 (Zp (pv 1) (pv 2)))) (Zh (Z1 (NL (Xk T) (ZJ (pv 0) R) (Yp (Zp (pv 2) (pv 1))) Ul ⟨R,R,R,R⟩)) (Zi (VR (Xk T) (ZJ (pv 0) R) (Yp (Zp (pv 2) (pv 1))) WA R)))),?_⟩];sleep 3;erw[⟨_,R,n,D,_,R,B,E.n_check_goes,_,R,_,R,n,TS,KF,m,z,c,x,R,⟨b,y⟩,ex,d9,ok,e,λhn H1 S=>?_⟩];replace q:=q hn;erw[⟨_,R,n,_,D,_,_,R,S _ _ B,h.Yu,h.C3,E.fl,b.dl,R,.inr ⟨u,.inl (S _ _ l1)⟩,_,R,_,R,zL9 R,λO g2=>?_⟩];have t2:=Zx g2 (.tup [.int c,.str z]);have f:=S.trans t2;have c2:=@Zj H1 O (.tup [.int c,.str z]);generalize Za H1 O (.tup [.int c,.str z])=C at f c2 ⊢;have Z:∀(i:Hp) (J:List (List Zn×V)),J.Sublist u->(∀j,ZD J j=if j=ZU c z then none else ZD u j)->Zd (wo C b.dl) i->i b.dl=some (.dT J)->i b.dk=some (.dT H)->i n=some (.ins t.YJ D fs)->∀p g,i p=none->c0 .non (Za (Za i p g) b.dk (.dT (YD H (ZU c z) (.bl true)))):=λi J ll vl X e0 d0 j0 p g gp=>by
  have v:=Zx gp g;erw[q _ (λa o e=>?_) ((y.same f).outs (f _ _ l1) (f _ _ G) ll vl (X.trans v) (v _ _ e0) (v _ _ d0) _)];obtain⟨n1,e⟩:=Z0 e;obtain⟨n2,e⟩:=Z0 e;rw[Ze n2];exact v _ _ (X _ _ (Zy (f _ _ e) n1))
 erw[⟨u,ZU c z,O,f _ _ l1,R,c2,λg0 Y=>?_,λY=>?_⟩];have I:Zd (wo C b.dl) (Za C b.dl (.dT (Vd u (ZU c z)))):=λa o e=>by
  obtain⟨na,e⟩:=Z0 e;rwa[Ze na]
 have L:=I _ _ (Zy (f _ _ B) (Z5 (f _ _ B) (f _ _ l1) (by intro z;cases z)));have M:=I _ _ (Zy (f _ _ G) y.ap);have a0:=@Zj C b.dl (.dT (Vd u (ZU c z)));generalize Za C b.dl (.dT (Vd u (ZU c z)))=i at I L M a0 ⊢;erw[⟨_,R,n,_,D,_,_,R,L,h.Yu,h.Qr,E.fk,_,R,_,R,zL9 R,λQ g4=>?_⟩];have v:=Zx g4 (.tup [.int c,.str z]);exact⟨b.dk,_,R,XN.t (k:=ZU c z) (v _ _ M) Zj (Sk (show H.length<=1000 by have:=U.1;lia) ()),Z i _ Kq (λj=>Ko _ _ _) I a0 M L Q _ g4⟩;erw[⟨_,R,n,_,D,_,_,R,f _ _ B,h.Yu,h.Qr,E.fk,_,R,_,R,zL9 R,λQ g4=>?_⟩];have v:=Zx g4 (.tup [.int c,.str z]);erw[⟨b.dk,_,R,XN.t (k:=ZU c z) (v _ _ (f _ _ G)) Zj (Sk (show H.length<=1000 by have:=U.1;lia) ()),Z C u (List.Sublist.refl _) (λj=>?_) WP (f _ _ l1) (f _ _ G) (f _ _ B) Q _ g4⟩];by_cases e:j=ZU c z;rw[SY e,e,Y];rw[SX e]
def U7(f:ZX)(z:Str)(day:Nat):ZX:=λc e=>if c=z/\e=day then none else f c e
def Yc.backs{u:Hp}{n:Addr}{b:NB}{TS:List Zt}{D:ZX}{m:Nat}{z:Str}{day:Nat}{q y C B:List (List Zn×V)}(h:Yc t H n b TS D m)(G:H b.dl=some (.dT q))(E:H b.dk=some (.dT y))(M:C.Sublist q)(S:B.Sublist y)(vl:∀j,ZD C j=if j=ZU day z then none else ZD q j)(Q:∀j,ZD B j=if j=ZU day z then none else ZD y j)(s:Zd (wo (wo H b.dk) b.dl) u)(O:u b.dl=some (.dT C))(a0:u b.dk=some (.dT B)) :
  Yc t u n b TS (U7 D z day) m:=by
 ext⟨⟨dx,fs,e1,X⟩,ap,⟨rows,J,Z⟩,⟨k1,v,Y,a3⟩,⟨L,i,U,b3⟩⟩ h;obtain rfl:q=L:=by rw[G]at i;injection i with i;injection i
 obtain rfl:y=k1:=by rw[E]at v;injection v with v;injection v
 have up:∀{a o},H a=some o->(∀b0,o≠.dT b0)->wo (wo H b.dk) b.dl a=some o:=λe n=>Zy (Zy e (Z5 e E (n _))) (Z5 e G (n _));have r2:Al (YE t (wo (wo H b.dk) b.dl)) rows TS:=Z.imp λ_ _ T=>YE.keep (λa o e nd _ _=>up e nd) T;erw[⟨⟨dx,fs,s _ _ (up e1 ()),X⟩,ap,⟨rows,s _ _ (up J ()),r2.imp λ_ _=>YE.same s⟩,⟨B,a0,Y.sub S,λc f=>?_⟩,⟨C,O,U.sub M,λc f=>?_⟩⟩];rw[Q];unfold U7;by_cases e:c=z/\f=day;rw[e.1,e.2,SY R,SY ⟨R,R⟩];rfl;rw[SX e,SX λz=>e (C9 z),a3];rw[vl];have I:=b3 c f;unfold U7;by_cases e:c=z/\f=day;rw[SY e];show _=none;rw[e.1,e.2,SY R];rw[SX e,SX λz=>e (C9 z)];revert I;cases D c f with
 |none=>exact id
 |some o=>cases o with
  |none=>exact id
  |some ls=>exact λ⟨l,e,h⟩=>⟨l,e,s _ _ (up h ())⟩
def Mv(h:ZD c k=none)(j:List Zn):ZD c j=if j=k then none else ZD c j:=by
 by_cases e:j=k;rw[SY e,e,h];rw[SX e]
inductive Zlp(t:Ye)(vs:List V)(H:Hp)(Q:VK)(E:XK):Prop|mk (n:Addr) (b:NB) (TS:List Zt) (KF:ZX) (m:Nat) (z:Str) (day:Nat) (x:Zt) (_:vs=[.ref n,.str z,.int day]) (_:Yc t H n b TS KF m) (_:ZQ Zt.nm TS z=some x) (_:day<=9999) (_:x.r.Ok) (_:(x.r.runs day=false->∀H',Zd H H'->E (.ref t.WR) none H')) (_:(x.r.runs day=true->∀H',Zd (wo (wo H b.dk) b.dl) H'->Yc t H' n b TS (U7 KF z day) m->Q .non H'))
def Zlq(h:Zv K mg t):Zo P w K mg base (Xf P w) 12 t.ZaV t.ZaW ["self","trip","day"] (Zlp t):=by
 erw[h.zA.F.okX Zic () λg0 A outer s e0 vs d0 h0 hr b0=>?_];ext⟨n,b,TS,KF,m,z,f,x,rfl,C,ex,d9,ok,e,c0⟩ b0;ext⟨O,fs,D,M⟩ C.ob;ext⟨q,l1,l2,l3⟩ C.lt;ext⟨y,I,k2,k3⟩ C.tk;erw[⟨_,(Zh (Z1 (YO (pv 0) h.Yu h.J7.me (Zck h) (hr.mono ()) h.J7.b .nil A1 (Zp (pv 1) (pv 2)))) (Zh (Z1 (NL (Xk hr) (ZJ (pv 0) R) (Yp (Zp (pv 2) (pv 1))) Ul ⟨R,R,R,R⟩)) (Zi (Z1 (NL (Xk hr) (ZJ (pv 0) R) (Yp (Zp (pv 2) (pv 1))) Ul ⟨R,R,R,R⟩))))),?_⟩];sleep 3;erw[⟨_,R,n,O,_,R,D,M.n_check_runs,_,R,_,R,n,TS,KF,m,z,f,x,R,⟨b,C⟩,ex,d9,ok,e,λhn H1 s1=>?_⟩];erw[⟨_,R,n,_,O,_,_,R,s1 _ _ D,h.Yu,h.C3,M.fl,b.dl,R,.inr ⟨q,.inl (s1 _ _ l1)⟩,_,R,_,R,zL9 R,λZ g2=>?_⟩];generalize X:Za H1 Z _=v;have c:Zd e0 v:=s1.trans (X ▸ Zx g2 _);have c2:v Z=some (.tup [.int f,.str z]):=X ▸ Zj;clear X;have go:∀(B:Hp) (S:List (List Zn×V)),S.Sublist q->(∀j,ZD S j=if j=ZU f z then none else ZD q j)->Zd (wo v b.dl) B->B b.dl=some (.dT S)->∀(H:Hp) (Q:List (List Zn×V)),Q.Sublist y->(∀j,ZD Q j=if j=ZU f z then none else ZD y j)->Zd (wo B b.dk) H->H b.dk=some (.dT Q)->d0 .non H:=λB S ll vl s3 h3 H Q lk vk U h4=>by
  erw[c0 hn H ?_ ((C.same c).backs (c _ _ l1) (c _ _ I) ll lk vl vk ?_ ?_ h4)];intro a o i;obtain⟨n1,i⟩:=Z0 i;obtain⟨n2,i⟩:=Z0 i;exact U _ _ (Zy (s3 _ _ (Zy (c _ _ i) n1)) n2);intro a o i;obtain⟨n1,i⟩:=Z0 i;obtain⟨n2,i⟩:=Z0 i;exact U _ _ (Zy (s3 _ _ (Zy i n1)) n2);exact U _ _ (Zy h3 C.ap.symm)
 have wk:∀(G:Hp) (k':List (List Zn×V)),Zd (wo G b.dk) (Za G b.dk (.dT k')):=λG k' a o e=>by
  obtain⟨T,e⟩:=Z0 e;rwa[Ze T]
 erw[⟨q,ZU f z,Z,c _ _ l1,R,c2,λf0 Y=>?_,λY=>?_⟩];have J:Zd (wo v b.dl) (Za v b.dl (.dT (Vd q (ZU f z)))):=λa o e=>by
  obtain⟨T,e⟩:=Z0 e;rwa[Ze T]
 have n3:=J _ _ (Zy (c _ _ D) (Z5 (c _ _ D) (c _ _ l1) (by intro z;cases z)));have L:=J _ _ (Zy (c _ _ I) C.ap);have a0:=@Zj v b.dl (.dT (Vd q (ZU f z)));generalize Za v b.dl (.dT (Vd q (ZU f z)))=B at J n3 L a0 ⊢;erw[⟨_,R,n,_,O,_,_,R,n3,h.Yu,h.Qr,M.fk,b.dk,R,.inr ⟨y,.inl L⟩,_,R,_,R,zL9 R,λp4 g4=>?_⟩];have u:=Zx g4 (.tup [.int f,.str z]);erw[⟨y,ZU f z,p4,u _ _ L,R,Zj,λv2 E=>?_,λE=>?_⟩];exact go B _ Kq (λj=>Ko _ _ _) J a0 _ _ Kq (λj=>Ko _ _ _) (λa o e=>wk _ _ _ _ (Zy (u _ _ (Z0 e).2) (Z0 e).1)) Zj;exact go B _ Kq (λj=>Ko _ _ _) J a0 _ y (List.Sublist.refl _) (Mv E) (λa o e=>u _ _ (Z0 e).2) (u _ _ L);erw[⟨_,R,n,_,O,_,_,R,c _ _ D,h.Yu,h.Qr,M.fk,b.dk,R,.inr ⟨y,.inl (c _ _ I)⟩,_,R,_,R,zL9 R,λp4 g4=>?_⟩];have u:=Zx g4 (.tup [.int f,.str z]);erw[⟨y,ZU f z,p4,u _ _ (c _ _ I),R,Zj,λv2 E=>?_,λE=>?_⟩];exact go v q (List.Sublist.refl _) (Mv Y) WP (c _ _ l1) _ _ Kq (λj=>Ko _ _ _) (λa o e=>wk _ _ _ _ (Zy (u _ _ (Z0 e).2) (Z0 e).1)) Zj;exact go v q (List.Sublist.refl _) (Mv Y) WP (c _ _ l1) _ y (List.Sublist.refl _) (Mv E) (λa o e=>u _ _ (Z0 e).2) (u _ _ (c _ _ I))
def Zlr{c:OH}(h:∀z∈c,0<=z):c.map V.int=YB (c.map Int.toNat):=by
 unfold YB;rw[Og];exact List.map_congr_left λz e=>by
  show V.int z=V.int ((z.toNat:Nat):Int);rw[show((z.toNat:Nat):Int)=z by have:=h z e;lia]
def Zcp{zs:OH}{a b:Nat}{hi:Nat}(ha:a<=hi)(j:b<=hi)(pw:zs.Pairwise (· < ·))(mem:∀z,z∈zs↔z∈[(a:Int),(b:Int)])(v:zs.length<=2):∃i:List Nat,zs.map V.int=YB i/\Nt i 0 hi:=by
 have f:∀z∈zs,0<=z/\z<=(hi:Int):=λz c=>by
  have h:=(mem z).mp c;simp only[SH,List.not_mem_nil,or_false]at h;lia
 erw[⟨zs.map Int.toNat,Zlr λz c=>(f z c).1,?_,?_,?_,λx q=>?_⟩];rw[Sx];exact List.length_pos_iff.mpr λe=>by have:=(mem (a:Nat)).mpr SF;rw[e]at this;cases this
 rw[Sx];lia;rw[List.pairwise_map];exact pw.imp_of_mem λha j u=>by have:=(f _ ha).1;lia
 obtain⟨z,c,rfl⟩:=SL.mp q;have:=f z c;exact⟨Sl _,()⟩
inductive Zls(n:Nat)(vs:List V)(H:Hp)(Q:VK)(_e3:XK):Prop|mk (d deep:Nat) (_:vs=[.int d,.int deep]) (_:d<2147483647) (_:deep<n) (_:n<=3) (_:∀(r:RT) (v:V) (H':Hp),Zd H H'->r.good->r.weight+1<=2 ^ (deep+1)->r.depth<=deep+1->(∀tp,H tp≠none->YU tp H' v r)->Q v H')
def Zlt(i:Zv K mg t):∀n:Nat,Zo P w K mg base Zr (n+1) t.kU t.kW ["_law_number","_law_deep"] (Zls n):=by
 intro n;induction n with
 |zero =>
  erw[i.U0.F.ok B9 (λvs H c0 d0 h=>?_) (λg0 A outer s H vs c0 d0 L h=>?_)];ext⟨d,deep,rfl,_⟩ h;rfl;ext⟨d,deep,rfl,_,U,_⟩ h;lia
 |succ n ih =>
 erw[i.U0.F.ok B9 () λg0 A outer s H vs c0 d0 L h=>?_];ext⟨d,deep,rfl,hd,i0,h3,q⟩ h;erw[⟨_,(Zh (ZM 2 B9.nd (Zf YN (pv 0) Zc)) (Uu (ZM 3 B9.nd (Q4 (Ys QC (pv 1) Zc) (Zf ZZ (pv 0) Zc) (Zw YC (Z7 (Yk Zc Zc Zc)) (Zf ZZ (pv 0) Zc)))) (Zh (ZK (Ys YZ (pv 3) Zc) (Zi (ZA (Yp (Zk ZH)))) ZL) (Zh (ZK (Ys YZ (pv 3) Zc) (Zi (ZA (Yp (Zp ZH (Zf ZZ (pv 2) Zc))))) ZL) (Zh (ZK (Ys YZ (pv 3) Zc) (Zh (ZM 4 B9.nd (ZP (vP R) i.LI Lu (Zk (Yt (vO R) R i.Za7 jO (Zk (Z7 (Zp (Zf ZZ (pv 2) Zc) (Zf ZZ (Zf YN (pv 2) Zc) Zc)))))))) (Zi (ZA (Yp (Yk ZH (Zf Z9 Zc (Zf ZZ (Zf YN (pv 2) Zc) Zc)) (pv 4)))))) ZL) (Zh (ZM 5 B9.nd (Vq ih (L.mono ()) R i.U0.m i.U0.F.kp i.U0.b .nil Zm (Zp (Zf ZZ (Zf VH (pv 2) Zc) Zc) (Zf Vm (pv 1) Zc)))) (Zh (ZK (Ys YZ (pv 3) Zc) (Zi (ZA (Yp (Uw ZH (Zf ZZ (pv 2) Zc) (Zf Z9 (Zf ZZ (pv 2) Zc) (Zf ZZ (Zf YN (pv 2) Zc) Zc)) (pv 5))))) ZL) (Zh (ZK (Ys YZ (pv 3) Zc) (Zi (ZA (Yp (Yk ZH (ZP (vP R) i.LI Lu (Zk (Yt (vO R) R i.Za7 jO (Zk (Z7 (Zp (Zf ZZ (pv 2) Zc) (Zf ZZ (Zf YN (pv 2) Zc) Zc))))))) (pv 5))))) ZL) (Zi (ZA (Yp (Yk (Zw YC (Z7 (Zp ZH ZH)) (Zf Vm (pv 3) Zc)) (pv 5) (Vq ih (L.mono ()) R i.U0.m i.U0.F.kp i.U0.b .nil Zm (Zp (Zf ZZ (Zf VH (pv 2) Zc) Zc) (Zf Vm (pv 1) Zc))))))))))))))),?_⟩];sleep 2;erw[⟨_,R,_,_,R,R,⟨(),()⟩,?_⟩];have e7:(d:Int)/7=((d/7:Nat):Int):=by lia
 erw[⟨λf0 H'=>∃f:Nat,Zd H H'/\f<7/\(deep=0->f=0\/f=1\/f=3)/\f0=[some (.int d),some (.int deep),some (.int ((d/7:Nat):Int)),some (.int (f:Nat)),none,none],?_,?_⟩];rw[<-e7];sleep 1;erw[⟨_,R,_,_,R,R,_,R,?_⟩];by_cases c:0<deep;erw[Z3 (SS ()) ⟨_,R,_,_,R,R,(),d%7,Zd.refl H,(),(),?_⟩];rw[show((d%7:Nat):Int)=(d:Int)%7 by lia];rfl;erw[Zq (by rw[SU ()];lia) ⟨zL9 R,λp g=>?_⟩];erw[⟨_,R,_,_,R,R,(),?_⟩];obtain⟨v,ev,f,rfl,hw⟩:=Nh (p:=λv=>∃f:Nat,v=V.int (f:Nat)/\(f=0\/f=1\/f=3)) (xs:=[.int 0,.int 1,.int 3]) (d:=(d:Int)%3) (λv hv=>by
  simp only[SH,List.not_mem_nil,or_false]at hv;rcases hv with rfl|rfl|rfl;exact⟨0,R,()⟩;exact⟨1,R,()⟩;exact⟨3,R,()⟩) () (by show(d:Int)%3<3;lia)
 exact⟨p,_,_,_,R,R,Zg.of Zj,ev,f,Zx g _,(),λ_=>hw,R⟩;rintro σ H1 ⟨f,C,hw,U,rfl⟩;have hm:d/7<306783379:=by lia
 generalize d/7=m at hm;sleep 7;have S:∀r:RT,r.weight=1->r.weight+1<=2 ^ (deep+1):=λr h=>by rw[h,Nat.pow_succ];have:=Nat.one_le_two_pow (n:=deep);lia
 erw[⟨_,R,R,_,R,VL (λ_=>?_) (λT=>?_)⟩];sleep 1;exact⟨zL9 R,λp g=>q .always _ _ (C.trans (Zx g _)) trivial (S _ R) (Oo _ _) λtp _=>.always Zj⟩;sleep 1;erw[⟨_,R,R,_,R,VL (λ_=>?_) (λn1=>?_)⟩];sleep 1;erw[⟨_,R,_,_,R,R,(),zL9 R,λp g=>?_⟩];erw[q (.week (m%128)) _ _ (C.trans (Zx g _)) (show m%128<=127 by lia) (S _ R) (Oo _ _) λtp _=>.week ?_];rw[Zj,show((m%128:Nat):Int)=(m:Int)%128 by lia];have e4:∀k:Nat,(m:Int)%((k:Nat):Int)=((m%k:Nat):Int):=λk=>(SZ m k).symm;have e5:∀a0 k:Nat,(m:Int)/((a0:Nat):Int)%((k:Nat):Int)=((m/a0%k:Nat):Int):=λa0 k=>by rw[SZ,S0]
 erw[⟨_,R,R,_,R,VL (λ_=>?_) (λO=>?_)⟩];sleep 2;erw[⟨_,R,_,_,R,R,(),_,R,_,_,R,R,⟨(),()⟩,_,_,R,R,(),zL9 R,λp1 g1=>?_⟩];have y:=Zx g1 (.lst [.int ((m:Int)%4),.int ((m:Int)/4%4)]);erw[⟨p1,[(m:Int)%4,(m:Int)/4%4],R,Zg.of Zj,by show 2<=1000;lia,λl2 g2=>?_⟩];have t2:=y.trans (Zx g2 (F6 P w l2 [(m:Int)%4,(m:Int)/4%4]));erw[⟨l2,_,R,Zj,by show 2<64;lia,λD zs g3 pw mem X=>?_⟩];have B:=Zx g3 (.lst (zs.map V.int));have Z:=(C.trans t2).free g3;erw[⟨_,R,_,_,R,R,⟨(),()⟩,_,_,R,R,(),_,_,R,R,_,R,zL9 R,λp4 g4=>?_⟩];have j:=Zx g4 (.tup [.str (ON "each"),.int (4+(m:Int)/16%25),.ref D]);obtain⟨J,M,Y⟩:=Zcp (a:=m%4) (b:=m/4%4) (hi:=3+m/16%25) () () pw (λz=>by rw[mem,<-e4 4,<-e5 4 4];exact Iff.rfl) X;erw[q (.each (4+m/16%25) J) _ _ (((C.trans t2).trans B).trans j) ⟨(),(),by rwa[show 4+m/16%25 - 1=3+m/16%25 by lia]⟩ (S _ R) (Oo _ _) λtp u=>.each (l:=D) ?_ ?_ λe=>u (e ▸ Z)];rw[Zj,show((4+m/16%25:Nat):Int)=4+(m:Int)/16%25 by lia];exact j _ _ (by rw[Zj,M]);have d1:1<=deep:=by
  rcases Nat.eq_zero_or_pos deep with h|h;have:=U h;have T:¬ (f:Int)=0:=λe=>T (by rw[VI];simpa using e);have n1:¬ (f:Int)=1:=λe=>n1 (by rw[VI];simpa using e);have O:¬ (f:Int)=3:=λe=>O (by rw[VI];simpa using e);lia;exact h
 obtain⟨dp,rfl⟩:∃dp,deep=dp+1:=⟨deep - 1,()⟩;have er:∀c:Nat,(m:Int)*((c:Nat):Int)%2147483647=((m*c%2147483647:Nat):Int):=λc=>by rw[SZ,Int.natCast_mul];rfl
 have ea:∀c:Nat,[V.int ((m:Int)*((c:Nat):Int)%2147483647),V.int (((dp+1:Nat):Int) - 1)]=[.int ((m*c%2147483647:Nat):Int),.int (dp:Int)]:=λc=>by rw[er c,show((dp+1:Nat):Int) - 1=(dp:Int) by lia]
 have lt:∀c:Nat,m*c%2147483647<2147483647:=λc=>Oq _ ();erw[⟨_,R,_,_,R,R,.inr ⟨(),()⟩,_,_,R,R,(),_,R,_,_,R,R,m*48271%2147483647,dp,ea 48271,lt _,(),(),λr v H2 s2 g2 w2 p2 T2=>?_⟩];have G:=C.trans s2;have I:∀tp,H tp≠none->YU tp H2 v r:=λtp h=>T2 tp λe=>h (C.free e);have j0:2 ^ (dp+1+1)=2*2 ^ (dp+1):=by rw[Nat.pow_succ,Nat.mul_comm]
 erw[⟨_,R,R,_,R,VL (λ_=>?_) (λn2=>?_)⟩];sleep 1;erw[⟨_,R,_,_,R,R,(),_,R,_,_,R,R,(),_,R,_,_,R,R,⟨(),()⟩,_,_,R,R,(),_,_,R,R,_,R,zL9 R,λp g=>?_⟩];have B:=Zx g (.tup [.str (ON "span"),.int ((m:Int)%20),.int ((m:Int)%20+(m:Int)/20%30),v]);erw[q (.span (m%20) (m%20+m/20%30) r) _ _ (G.trans B) ⟨(),(),g2⟩ (by show 1+r.weight+1<=_;lia) (by show 1+r.depth<=_;lia) λtp u=>.span (v:=v) ?_ ((I tp u).same B)];rw[Zj,show((m%20+m/20%30:Nat):Int)=(m:Int)%20+(m:Int)/20%30 by lia,show((m%20:Nat):Int)=(m:Int)%20 by lia];erw[⟨_,R,R,_,R,VL (λ_=>?_) (λn4=>?_)⟩];sleep 1;erw[⟨_,R,_,_,R,R,(),_,R,_,_,R,R,⟨(),()⟩,_,_,R,R,(),zL9 R,λp1 g1=>?_⟩];have y:=Zx g1 (.lst [.int ((m:Int)%9),.int ((m:Int)/9%9)]);erw[⟨p1,[(m:Int)%9,(m:Int)/9%9],R,Zg.of Zj,by show 2<=1000;lia,λl2 g3=>?_⟩];have t2:=y.trans (Zx g3 (F6 P w l2 [(m:Int)%9,(m:Int)/9%9]));erw[⟨l2,_,R,Zj,by show 2<64;lia,λD zs g4 pw mem X=>?_⟩];have B:=Zx g4 (.lst (zs.map V.int));have Z:=(G.trans t2).free g4;erw[⟨_,R,zL9 R,λp4 g5=>?_⟩];have j:=Zx g5 (.tup [.str (ON "but"),.ref D,v]);obtain⟨J,M,Y⟩:=Zcp (a:=m%9) (b:=m/9%9) (hi:=9999) () () pw (λz=>by rw[mem,<-e4 9,<-e5 9 9];exact Iff.rfl) X;erw[q (.but J r) _ _ (((G.trans t2).trans B).trans j) ⟨Y,g2⟩ (by show 1+r.weight+1<=_;lia) (by show 1+r.depth<=_;lia) λtp u=>.but (l:=D) Zj ?_ (λe=>u (e ▸ Z)) ((I tp u).same ((t2.trans B).trans j))];exact j _ _ (by rw[Zj,M]);have e0:f=5\/f=6:=by
  have U:¬ (f:Int)=0:=λe=>T (by rw[VI];simpa using e);have h1:¬ (f:Int)=1:=λe=>n1 (by rw[VI];simpa using e);have h2:¬ (f:Int)=2:=λe=>n2 (by rw[VI];simpa using e);have h3:¬ (f:Int)=3:=λe=>O (by rw[VI];simpa using e);have h4:¬ (f:Int)=4:=λe=>n4 (by rw[VI];simpa using e);lia
 erw[⟨zL9 R,λp1 g1=>?_⟩];have y:=Zx g1 (.lst [.str (ON "either"),.str (ON "both")]);obtain⟨E,ek,hk⟩:∃E,YP [V.str (ON "either"),V.str (ON "both")] ((f:Int) - 5)=some E/\(E=.str (ON "either")\/E=.str (ON "both")):=by
  rcases e0 with rfl|rfl;exact⟨_,R,.inl R⟩;exact⟨_,R,.inr R⟩
 erw[⟨_,R,_,_,R,R,p1,_,_,_,R,R,Zg.of Zj,ek,_,R,?_⟩];erw[⟨_,R,_,_,R,R,.inr ⟨(),()⟩,_,_,R,R,(),_,R,_,_,R,R,m*16807%2147483647,dp,ea 16807,lt _,(),(),λr3 v3 H3 Q g3 w3 p3 T3=>?_⟩];erw[⟨zL9 R,λp4 g4=>?_⟩];have j:=Zx g4 (.tup [E,v,v3]);have b0:∀tp,H tp≠none->YU tp H3 v3 r3:=λtp h=>T3 tp λe=>h ((G.trans y).free e);have S4:=((G.trans y).trans Q).trans j;rcases hk with rfl|rfl;exact q (.either r r3) _ _ S4 ⟨g2,g3⟩ (by show 1+(r.weight+r3.weight)+1<=_;lia) (by show 1+max r.depth r3.depth<=_;lia) λtp u=>.either Zj ((I tp u).same ((y.trans Q).trans j)) ((b0 tp u).same j);exact q (.both r r3) _ _ S4 ⟨g2,g3⟩ (by show 1+(r.weight+r3.weight)+1<=_;lia) (by show 1+max r.depth r3.depth<=_;lia) λtp u=>.both Zj ((I tp u).same ((y.trans Q).trans j)) ((b0 tp u).same j)
inductive Zlu(c:RC)(K:OA)(n:Nat)(vs:List V)(H:Hp)(Q:VK)(_e3:XK):Prop|mk (tp:Addr) (v:V) (r:RT) (_:vs=[v]) (_:YU tp H v r) (_:r.good) (_:r.weight<=15) (_:r.depth<=8) (_:r.depth<=n) (_:∀b H',Zd H H'->ZT c K H' b r->Q (.ref b) H')
def Zlv(c:Zv K mg t):∀n:Nat,Zo P w K mg base Zr (n+42) t.kX t.kY ["_law_told"] (Zlu (rc t) K n):=by
 intro n;induction n with
 |zero =>
  erw[c.Xz.F.ok qW (λvs H b0 c0 h=>?_) (λd0 A outer s H vs b0 c0 i h=>?_)];ext⟨tp,v,r,rfl,_⟩ h;rfl;ext⟨tp,v,r,rfl,h,g,M,O,hd,_⟩ h;have:=r.depth_pos;lia
 |succ n I =>
 erw[c.Xz.F.ok qW () λd0 A outer s H vs b0 c0 i h=>?_];ext⟨tp,v,r,rfl,h,g,M,O,hd,q⟩ h;erw[⟨_,(Zh (ZK (Ys YZ (Zw ZN (pv 0) Zc) ZH) (Zi (ZA (Nj c.zB R c.Md))) ZL) (Zh (ZK (Ys YZ (Zw ZN (pv 0) Zc) ZH) (Zi (ZA (W2 c.Zbo (Zkj c) (i.mono ()) R c.Zbx c.Tz.b .nil Zm (Zk (Zw ZN (pv 0) Zc))))) ZL) (Zh (ZK (Ys YZ (Zw ZN (pv 0) Zc) ZH) (Zi (ZA (W2 c.Zbq (Zkk c) (i.mono ()) R c.Zbz c.TH.b .nil Zm (Zp (Zw ZN (pv 0) Zc) (Yt Qg R c.X4 X1 (Zk (Zw ZN (pv 0) Zc))))))) ZL) (Zh (ZK (Ys YZ (Zw ZN (pv 0) Zc) ZH) (Zi (ZA (W2 c.Zbp (Zkf c) (i.mono ()) R c.Zby c.TD.b .nil Zm (Yk (Zw ZN (pv 0) Zc) (Zw ZN (pv 0) Zc) (Vq I (i.mono ()) R c.Xz.m c.Xz.F.kp c.Xz.b .nil Zm (Zk (Zw ZN (pv 0) Zc))))))) ZL) (Zh (ZK (Ys YZ (Zw ZN (pv 0) Zc) ZH) (Zi (ZA (W2 c.Zbt (Zkg c) (i.mono ()) R c.ZbC c.TR.b .nil Zm (Zp (Yt Qg R c.X4 X1 (Zk (Zw ZN (pv 0) Zc))) (Vq I (i.mono ()) R c.Xz.m c.Xz.F.kp c.Xz.b .nil Zm (Zk (Zw ZN (pv 0) Zc))))))) ZL) (Zh (ZK (Ys YZ (Zw ZN (pv 0) Zc) ZH) (Zi (ZA (W2 c.Zbr (Zkh c) (i.mono ()) R c.ZbA c.TL.b .nil Zm (Zp (Vq I (i.mono ()) R c.Xz.m c.Xz.F.kp c.Xz.b .nil Zm (Zk (Zw ZN (pv 0) Zc))) (Vq I (i.mono ()) R c.Xz.m c.Xz.F.kp c.Xz.b .nil Zm (Zk (Zw ZN (pv 0) Zc))))))) ZL) (Zi (ZA (W2 c.Zbs (Zki c) (i.mono ()) R c.ZbB c.TN.b .nil Zm (Zp (Vq I (i.mono ()) R c.Xz.m c.Xz.F.kp c.Xz.b .nil Zm (Zk (Zw ZN (pv 0) Zc))) (Vq I (i.mono ()) R c.Xz.m c.Xz.F.kp c.Xz.b .nil Zm (Zk (Zw ZN (pv 0) Zc))))))))))))),?_⟩];cases h with
 |always h =>
  erw[⟨_,R,_,_,0,_,R,R,Zl.of h,R,R,_,R,Z3 () ?_⟩];exact λx G nx nd E=>q x _ (XM nx (XM nd (Zd.refl _) _) _) (.always Zj)
 |week h =>
  erw[⟨_,R,_,_,0,_,R,R,Zl.of h,R,R,_,R,Zq () ?_⟩];erw[⟨_,R,_,_,0,_,R,R,Zl.of h,R,R,_,R,Z3 () ?_⟩];exact⟨_,R,_,_,1,_,R,R,Zl.of h,R,λx G nx nd E=>⟨x,H,_,R,VZ nx nd,g,λB y j=>⟨R,q x B y (j.same (Uc _ _))⟩⟩⟩
 |each h S ne =>
  rename_i a l m ss;erw[⟨_,R,_,_,0,_,R,R,Zl.of h,R,R,_,R,Zq () ?_⟩];erw[⟨_,R,_,_,0,_,R,R,Zl.of h,R,R,_,R,Zq () ?_⟩];erw[⟨_,R,_,_,0,_,R,R,Zl.of h,R,R,_,R,Z3 () ?_⟩];erw[⟨_,R,_,_,1,_,R,R,Zl.of h,R,_,R,_,_,2,_,R,R,Zl.of h,R,l,_,R,.inl (Zg.of S),λp Q x G nx nd E=>?_⟩];have e:=Zx Q (.lst (YB ss));exact⟨x,p,_,_,_,R,VZ nx nd,Zj,g,λB y j=>⟨R,q x B (e.trans y) (j.same (Uc _ _))⟩⟩
 |span h D =>
  rename_i a Y y0 v r;have Z:(RT.span Y y0 r).depth=1+r.depth:=rfl;have T:(RT.span Y y0 r).weight=1+r.weight:=rfl;erw[⟨_,R,_,_,0,_,R,R,Zl.of h,R,R,_,R,Zq () ?_⟩];erw[⟨_,R,_,_,0,_,R,R,Zl.of h,R,R,_,R,Zq () ?_⟩];erw[⟨_,R,_,_,0,_,R,R,Zl.of h,R,R,_,R,Zq () ?_⟩];erw[⟨_,R,_,_,0,_,R,R,Zl.of h,R,R,_,R,Z3 () ?_⟩];erw[⟨_,R,_,_,1,_,R,R,Zl.of h,R,_,R,_,_,2,_,R,R,Zl.of h,R,_,R,_,_,3,_,R,R,Zl.of h,R,tp,v,r,R,D,g.2.2,(),(),(),λb H1 e C=>?_⟩];exact λx G nx nd E=>⟨x,b,H1,Y,y0,r,R,VZ nx nd,C,g,M,O,(),λB y j=>⟨R,q x B (e.trans y) (j.same (Uc _ _))⟩⟩
 |but h S ne D =>
  rename_i a l ds v r;have Z:(RT.but ds r).depth=1+r.depth:=rfl;have T:(RT.but ds r).weight=1+r.weight:=rfl;erw[⟨_,R,_,_,0,_,R,R,Zl.of h,R,R,_,R,Zq () ?_⟩];erw[⟨_,R,_,_,0,_,R,R,Zl.of h,R,R,_,R,Zq () ?_⟩];erw[⟨_,R,_,_,0,_,R,R,Zl.of h,R,R,_,R,Zq () ?_⟩];erw[⟨_,R,_,_,0,_,R,R,Zl.of h,R,R,_,R,Zq () ?_⟩];erw[⟨_,R,_,_,0,_,R,R,Zl.of h,R,R,_,R,Z3 () ?_⟩];erw[⟨_,R,_,_,1,_,R,R,Zl.of h,R,l,_,R,.inl (Zg.of S),λp Q=>?_⟩];have e:=Zx Q (.lst (YB ds));have C:=e _ _ h;erw[⟨_,R,_,_,2,_,R,R,Zl.of C,R,tp,v,r,R,D.same e,g.2,(),(),(),λb L s2 J=>?_⟩];exact λx G nx nd E=>⟨x,p,b,L,ds,r,R,VZ nx nd,s2 _ _ Zj,J,g,M,O,(),λB y j=>⟨R,q x B ((e.trans s2).trans y) (j.same (Uc _ _))⟩⟩
 |either h D U =>
  rename_i a v u r f;have Z:(RT.either r f).depth=1+max r.depth f.depth:=rfl;have T:(RT.either r f).weight=1+(r.weight+f.weight):=rfl;erw[⟨_,R,_,_,0,_,R,R,Zl.of h,R,R,_,R,Zq () ?_⟩];erw[⟨_,R,_,_,0,_,R,R,Zl.of h,R,R,_,R,Zq () ?_⟩];erw[⟨_,R,_,_,0,_,R,R,Zl.of h,R,R,_,R,Zq () ?_⟩];erw[⟨_,R,_,_,0,_,R,R,Zl.of h,R,R,_,R,Zq () ?_⟩];erw[⟨_,R,_,_,0,_,R,R,Zl.of h,R,R,_,R,Zq () ?_⟩];erw[⟨_,R,_,_,0,_,R,R,Zl.of h,R,R,_,R,Z3 () ?_⟩];erw[⟨_,R,_,_,1,_,R,R,Zl.of h,R,tp,v,r,R,D,g.1,(),(),(),λb H1 e C=>?_⟩];have J:=e _ _ h;erw[⟨_,R,_,_,2,_,R,R,Zl.of J,R,tp,u,f,R,U.same e,g.2,(),(),(),λa0 L s2 X=>?_⟩];exact λx G nx nd E=>⟨x,b,a0,L,r,f,R,VZ nx nd,C.same s2,X,g,M,O,(),(),λB y j=>⟨R,q x B ((e.trans s2).trans y) (j.same (Uc _ _))⟩⟩
 |both h D U =>
  rename_i a v u r f;have Z:(RT.both r f).depth=1+max r.depth f.depth:=rfl;have T:(RT.both r f).weight=1+(r.weight+f.weight):=rfl;erw[⟨_,R,_,_,0,_,R,R,Zl.of h,R,R,_,R,Zq () ?_⟩];erw[⟨_,R,_,_,0,_,R,R,Zl.of h,R,R,_,R,Zq () ?_⟩];erw[⟨_,R,_,_,0,_,R,R,Zl.of h,R,R,_,R,Zq () ?_⟩];erw[⟨_,R,_,_,0,_,R,R,Zl.of h,R,R,_,R,Zq () ?_⟩];erw[⟨_,R,_,_,0,_,R,R,Zl.of h,R,R,_,R,Zq () ?_⟩];erw[⟨_,R,_,_,0,_,R,R,Zl.of h,R,R,_,R,Zq () ?_⟩];erw[⟨_,R,_,_,1,_,R,R,Zl.of h,R,tp,v,r,R,D,g.1,(),(),(),λb H1 e C=>?_⟩];have J:=e _ _ h;erw[⟨_,R,_,_,2,_,R,R,Zl.of J,R,tp,u,f,R,U.same e,g.2,(),(),(),λa0 L s2 X=>?_⟩];exact λx G nx nd E=>⟨x,b,a0,L,r,f,R,VZ nx nd,C.same s2,X,g,M,O,(),(),λB y j=>⟨R,q x B ((e.trans s2).trans y) (j.same (Uc _ _))⟩⟩
inductive Zlw(n:Nat)(vs:List V)(H:Hp)(Q:VK)(_e3:XK):Prop|mk (tp:Addr) (v:V) (r:RT) (d:Nat) (_:vs=[v,.int d]) (_:YU tp H v r) (_:r.good) (_:r.depth<=n) (_:∀H',Zd H H'->Q (.bl (r.runs d)) H')
def Zcq(f:Zv K mg t):∀n:Nat,Zo P w K mg base Zr (n+1) t.kZ t.gA ["_law_told","_law_day"] (Zlw n):=by
 intro n;induction n with
 |zero =>
  erw[f.WH.F.ok Pg (λvs H Q a0 h=>?_) (λb0 A outer s H vs Q a0 L h=>?_)];ext⟨tp,v,r,d,rfl,_⟩ h;rfl;ext⟨tp,v,r,d,rfl,h,g,hd,_⟩ h;have:=r.depth_pos;lia
 |succ n O =>
 erw[f.WH.F.ok Pg () λb0 A outer s H vs Q a0 L h=>?_];ext⟨tp,v,r,d,rfl,h,g,hd,q⟩ h;erw[⟨_,(Zh (ZK (Ys YZ (Zw ZN (pv 0) Zc) ZH) (Zi (ZA WA)) ZL) (Zh (ZK (Ys YZ (Zw ZN (pv 0) Zc) ZH) (Zi (ZA (WB YZ (Zf ZZ (Zf YN (Zw ZN (pv 0) Zc) (Zf yS Zc (Zf ZZ (pv 1) Zc))) Zc) Zc (Vo _)))) ZL) (Zh (ZK (Ys YZ (Zw ZN (pv 0) Zc) ZH) (Zi (ZA (WB KR (Zf ZZ (pv 1) (Zw ZN (pv 0) Zc)) (Zw ZN (pv 0) Zc) R))) ZL) (Zh (ZK (Ys YZ (Zw ZN (pv 0) Zc) ZH) (Zi (ZA (UG (MT Vn Vn (Zw ZN (pv 0) Zc) (pv 1) (Zw ZN (pv 0) Zc)) (Vl (Vq O (L.mono ()) R f.WH.m f.WH.F.kp f.WH.b .nil Zm (Zp (Zw ZN (pv 0) Zc) (pv 1))))))) ZL) (Zh (ZK (Ys YZ (Zw ZN (pv 0) Zc) ZH) (Zi (ZA (WB E5 (Vq O (L.mono ()) R f.WH.m f.WH.F.kp f.WH.b .nil Zm (Zp (Zw ZN (pv 0) Zc) (pv 1))) (WB KR (pv 1) (Zw ZN (pv 0) Zc) R) (Vo _)))) ZL) (Zh (Zdz (i:=2) (j:=3) R Pg.nd R R () R R (Zp (Vq O (L.mono ()) R f.WH.m f.WH.F.kp f.WH.b .nil Zm (Zp (Zw ZN (pv 0) Zc) (pv 1))) (Vq O (L.mono ()) R f.WH.m f.WH.F.kp f.WH.b .nil Zm (Zp (Zw ZN (pv 0) Zc) (pv 1)))) R) (Zi (ZA (Q4 (Ys YZ (Zw ZN (pv 0) Zc) ZH) (MN (pv 2) (Vl (pv 3))) (UG (pv 2) (Vl (pv 3)))))))))))),?_⟩];cases h with
 |always h =>
  erw[⟨_,R,_,_,0,_,R,R,Zl.of h,R,R,_,R,Z3 () ?_⟩];exact q _ (Zd.refl _)
 |week h =>
  rename_i a b;erw[⟨_,R,_,_,0,_,R,R,Zl.of h,R,R,_,R,Zq () ?_⟩];erw[⟨_,R,_,_,0,_,R,R,Zl.of h,R,R,_,R,Z3 () ?_⟩];have eN:((d:Int)%7).toNat=d%7:=by lia
  have pL:(1:Int)*2 ^ ((d:Int)%7).toNat=((2 ^ (d%7):Nat):Int):=by rw[eN,Int.one_mul,Int.natCast_pow];rfl
  have pP:0<2 ^ (d%7):=Nat.two_pow_pos _;have pU:2 ^ (d%7)<=2 ^ 6:=Nat.pow_le_pow_right () ();erw[⟨_,R,_,_,1,_,R,R,Zl.of h,R,_,R,_,_,R,R,(),_,_,R,R,⟨(),(),()⟩,_,_,R,R,?_,_,_,R,R,(),R,?_⟩];rw[pL];exact⟨(),()⟩;have c:=q H (Zd.refl _);have e:(RT.week b).runs d=decide (V.int ((b:Int)/((1:Int)*2 ^ ((d:Int)%7).toNat)%2)=V.int 1):=by
   rw[pL,VI,<-S0];show(b/2 ^ (d%7)%2==1)=_;rw[Bool.eq_iff_iff,beq_iff_eq,beq_iff_eq];lia
  rw[e]at c;exact c
 |each h T ne =>
  rename_i a l m M;ext⟨g1,g2,g3⟩ g;erw[⟨_,R,_,_,0,_,R,R,Zl.of h,R,R,_,R,Zq () ?_⟩];erw[⟨_,R,_,_,0,_,R,R,Zl.of h,R,R,_,R,Zq () ?_⟩];erw[⟨_,R,_,_,0,_,R,R,Zl.of h,R,R,_,R,Z3 () ?_⟩];have e1:(d:Int)%(m:Int)=((d%m:Nat):Int):=(SZ d m).symm;erw[⟨_,R,_,R,_,_,1,_,R,R,Zl.of h,R,_,_,R,R,(by show(0:Int)<(m:Int);lia),_,R,_,_,2,_,R,R,Zl.of h,R,l,_,R,.inl (Zg.of T),R,K5 M,?_⟩];have c:=q H (Zd.refl _);have e2:Qd (.int ((d:Int)%(m:Int))) (YB M)=(RT.each m M).runs d:=by
   rw[e1];exact F5 (d%m) M
  rw[<-e2]at c;exact c
 |span h E =>
  rename_i a x y v r;have Y:(RT.span x y r).depth=1+r.depth:=rfl;have S:∀b:Bool,b=(decide (x<=d) && decide (d<=y) && r.runs d)->∀G,Zd H G->Q (.bl b) G:=λb e G s'=>by rw[e];exact q G s'
  erw[⟨_,R,_,_,0,_,R,R,Zl.of h,R,R,_,R,Zq () ?_⟩];erw[⟨_,R,_,_,0,_,R,R,Zl.of h,R,R,_,R,Zq () ?_⟩];erw[⟨_,R,_,_,0,_,R,R,Zl.of h,R,R,_,R,Zq () ?_⟩];erw[⟨_,R,_,_,0,_,R,R,Zl.of h,R,R,_,R,Z3 () ?_⟩];erw[⟨_,R,_,_,1,_,R,R,Zl.of h,R,_,R,_,_,R,R,_,R,?_⟩];by_cases D:x<=d;rw[SY (SS ())];erw[⟨_,R,_,_,2,_,R,R,Zl.of h,R,_,_,R,R,_,R,?_⟩];by_cases h2:d<=y;erw[Z3 (SS ()) ?_];exact⟨_,R,_,_,3,_,R,R,Zl.of h,R,_,R,tp,v,r,d,R,E,g.2.2,(),λG s'=>S _ (by rw[SS D,SS h2];rfl) G s'⟩;erw[Zq (by rw[SU ()];lia) ?_];exact S _ (by rw[SU h2,Bool.and_false,Bool.false_and]) H (Zd.refl _);rw[SX (by rw[SU ()];lia)];exact⟨_,R,Zq () (S _ (by rw[SU D,Bool.false_and,Bool.false_and]) H (Zd.refl _))⟩
 |but h T ne E =>
  rename_i a l ds v r;have Y:(RT.but ds r).depth=1+r.depth:=rfl;erw[⟨_,R,_,_,0,_,R,R,Zl.of h,R,R,_,R,Zq () ?_⟩];erw[⟨_,R,_,_,0,_,R,R,Zl.of h,R,R,_,R,Zq () ?_⟩];erw[⟨_,R,_,_,0,_,R,R,Zl.of h,R,R,_,R,Zq () ?_⟩];erw[⟨_,R,_,_,0,_,R,R,Zl.of h,R,R,_,R,Zq () ?_⟩];erw[⟨_,R,_,_,0,_,R,R,Zl.of h,R,R,_,R,Z3 () ?_⟩];erw[⟨_,R,_,_,2,_,R,R,Zl.of h,R,_,R,tp,v,r,d,R,E,g.2,(),λZ C=>?_⟩];have D:=C _ _ h;erw[⟨_,R,_,R,_,_,1,_,R,R,Zl.of D,R,l,_,R,.inl (Zg.of (C _ _ T)),R,K5 ds,R,?_⟩];have c:=q Z C;have e:(RT.but ds r).runs d=(!decide (V.bl (r.runs d)=V.bl (Qd (.int (d:Int)) (YB ds)))):=by
   rw[F5,KL];rfl
  rw[e]at c;exact c
 |either h E U =>
  rename_i a v u r B;have Y:(RT.either r B).depth=1+max r.depth B.depth:=rfl;erw[⟨_,R,_,_,0,_,R,R,Zl.of h,R,R,_,R,Zq () ?_⟩];erw[⟨_,R,_,_,0,_,R,R,Zl.of h,R,R,_,R,Zq () ?_⟩];erw[⟨_,R,_,_,0,_,R,R,Zl.of h,R,R,_,R,Zq () ?_⟩];erw[⟨_,R,_,_,0,_,R,R,Zl.of h,R,R,_,R,Zq () ?_⟩];erw[⟨_,R,_,_,0,_,R,R,Zl.of h,R,R,_,R,Zq () ?_⟩];erw[⟨_,R,_,_,1,_,R,R,Zl.of h,R,_,R,tp,v,r,d,R,E,g.1,(),λZ C=>?_⟩];have D:=C _ _ h;erw[⟨_,R,_,_,2,_,R,R,Zl.of D,R,_,R,tp,u,B,d,R,U.same C,g.2,(),λH2 s2=>?_⟩];have I:=C.trans s2;have X:=I _ _ h;erw[⟨_,_,R,?_⟩];erw[⟨_,R,_,_,0,_,R,R,Zl.of X,R,R,_,R,Z3 () ?_⟩];have c:=q _ I;erw[⟨_,R,_,R,?_⟩];have e:(RT.either r B).runs d=(r.runs d || B.runs d):=rfl;rw[e]at c;cases J:r.runs d with
  |true=>rw[J]at c;exact Z3 R c
  |false=>rw[J]at c;exact Zq () ⟨_,R,c⟩
 |both h E U =>
  rename_i a v u r B;have Y:(RT.both r B).depth=1+max r.depth B.depth:=rfl;erw[⟨_,R,_,_,0,_,R,R,Zl.of h,R,R,_,R,Zq () ?_⟩];erw[⟨_,R,_,_,0,_,R,R,Zl.of h,R,R,_,R,Zq () ?_⟩];erw[⟨_,R,_,_,0,_,R,R,Zl.of h,R,R,_,R,Zq () ?_⟩];erw[⟨_,R,_,_,0,_,R,R,Zl.of h,R,R,_,R,Zq () ?_⟩];erw[⟨_,R,_,_,0,_,R,R,Zl.of h,R,R,_,R,Zq () ?_⟩];erw[⟨_,R,_,_,1,_,R,R,Zl.of h,R,_,R,tp,v,r,d,R,E,g.1,(),λZ C=>?_⟩];have D:=C _ _ h;erw[⟨_,R,_,_,2,_,R,R,Zl.of D,R,_,R,tp,u,B,d,R,U.same C,g.2,(),λH2 s2=>?_⟩];have I:=C.trans s2;have X:=I _ _ h;erw[⟨_,_,R,?_⟩];erw[⟨_,R,_,_,0,_,R,R,Zl.of X,R,R,_,R,Zq () ?_⟩];have c:=q _ I;erw[⟨_,R,_,R,?_⟩];have e:(RT.both r B).runs d=(r.runs d && B.runs d):=rfl;rw[e]at c;cases J:r.runs d with
  |true=>rw[J]at c;exact Z3 R ⟨_,R,c⟩
  |false=>rw[J]at c;exact Zq () c
def ZR(g:H p=none)(e:Za H p o=c):Zd H c:=e ▸ Zx g o
def ZV(e:Za H p o=c):c p=some o:=e ▸ Zj
local macro_rules|`(tactic|exists $a,$b,$c:ident,$d:ident,$e,$f:ident)=>`(tactic|(generalize hE:Za $a $b _=$c;have $d:ident:=ZR $e hE;have $f:ident:=ZV hE;clear hE))
structure Zlx(kvs:List (Zn×V))(a:NA):Prop where
 s:ZD kvs (Sum.inr (ON "stops"))=some (.ref a.ds)
 w:ZD kvs (Sum.inr (ON "walks"))=some (.ref a.lw)
 r:ZD kvs (Sum.inr (ON "rules"))=some (.ref a.dr)
 t:ZD kvs (Sum.inr (ON "tickets"))=some (.ref a.dt)
 p:ZD kvs (Sum.inr (ON "trips"))=some (.ref a.dp)
def XC(H:Hp)(c:Zn×V)(k:Yi):Prop:=c.1=Sum.inr k.nm/\∃tp,YU tp H c.2 k.r
def XC.same(s:Zd H c)(h:XC H f k):XC c f k:=let ⟨e,tp,h⟩:=h;⟨e,tp,h.same s⟩
def WY(H:Hp)(c:Zn×V)(k:WX):Prop:=c.1=Sum.inr k.nm/\∃r z,c.2=.ref r/\H r=some (.tup [.int (k.pr:Nat),.int (k.la:Nat),.ref z])/\H z=some (.lst (YB k.zs))
def WY.same(s:Zd H c)(h:WY H f k):WY c f k:=let ⟨e,r,z,e1,e2,e3⟩:=h;⟨e,r,z,e1,s _ _ e2,s _ _ e3⟩
def Xw(H:Hp)(e:Zn×V)(k:Tp):Prop:=e.1=Sum.inr k.nm/\∃r l c,e.2=.ref r/\H r=some (.tup [.str k.ru,.ref l])/\H l=some (.lst c)/\Al (Yq H) c k.cs
def Xw.same(s:Zd H c)(h:Xw H f k):Xw c f k:=let ⟨e,r,l,vs,e1,e2,e3,e4⟩:=h;⟨e,r,l,vs,e1,s _ _ e2,s _ _ e3,e4.imp λ_ _=>Yq.same s⟩
structure Y9(H:Hp)(wd:Addr)(a:NA)(W:Yn):Prop where
 ob:∃kvs,H wd=some (.dK kvs)/\Zlx kvs a
 ap:Zb9 a
 st:∃rows,H a.ds=some (.dK rows)/\Al (Y2 H) rows W.st
 wk:∃vs,H a.lw=some (.lst vs)/\Al (Y8 H) vs W.wk
 ru:∃rows,H a.dr=some (.dK rows)/\Al (XC H) rows W.ru
 tk:∃rows,H a.dt=some (.dK rows)/\Al (WY H) rows W.tk
 tp:∃rows,H a.dp=some (.dK rows)/\Al (Xw H) rows W.tp
def Y9.same{W:Yn}(s:Zd H c)(h:Y9 H n a W):Y9 c n a W:=by
 ext⟨⟨y,B,J⟩,ap,⟨r1,q,I⟩,⟨u,i,v⟩,⟨D,f,j⟩,⟨r3,L,E⟩,⟨G,e,C⟩⟩ h;exact⟨⟨y,s _ _ B,J⟩,ap,⟨r1,s _ _ q,I.imp λ_ _=>Y2.same s⟩,⟨u,s _ _ i,v.imp λ_ _=>Y8.same s⟩,⟨D,s _ _ f,j.imp λ_ _=>XC.same s⟩,⟨r3,s _ _ L,E.imp λ_ _=>WY.same s⟩,⟨G,s _ _ e,C.imp λ_ _=>Xw.same s⟩⟩
def Zly:Sp:=λf H Q _=>f=[]/\∀c a e,Zd H e->H c=none->Uy H a->(c≠a.ds/\c≠a.dr/\c≠a.dt/\c≠a.dp)->Y9 e c a ⟨[],[],[],[],[]⟩->Q (.ref c) e
def Zlz(M:Zv K mg t):Zo P w K mg base Zr 1 t.gE t.gF [] Zly:=by
 erw[M.LN.F.ok ZhF () λj0 A outer s d0 vs i0 l0 hr h=>?_];ext⟨rfl,a0⟩ h;erw[⟨_,(Zi (ZA (Zgm (G1 ZH UN (G1 ZH (Z7 Xs) (G1 ZH UN (G1 ZH UN (G1 ZH UN Zgk))))) R R (λh=>nomatch h) ()))),?_⟩];sleep 1;intro p C;exists d0,p,H0,v,C,u;erw[λp1 g1=>?_];exists H0,p1,H1,f,g1,y;erw[⟨zL9 R,λB g2=>?_⟩];exists H1,B,H2,s2,g2,c2;erw[λp3 g3=>?_];exists H2,p3,U,e,g3,D;erw[λj g4=>?_];exists U,j,H4,i,g4,E;erw[λq g5=>?_];exists H4,q,H5,s5,g5,Q;have O:=s5 _ _ (i _ _ (e _ _ (s2 _ _ (f _ _ u))));have k1:=s5 _ _ (i _ _ (e _ _ (s2 _ _ y)));have T:=s5 _ _ (i _ _ (e _ _ c2));have k3:=s5 _ _ (i _ _ D);have k4:=s5 _ _ E;have n1:=v.free g1;have n2:=(v.trans f).free g2;have Y:=((v.trans f).trans s2).free g3;have n4:=(((v.trans f).trans s2).trans e).free g4;have X:=((((v.trans f).trans s2).trans e).trans i).free g5;have J:p≠p1:=Zu u g1;have h0:p≠B:=Zu (f _ _ u) g2;have G:p≠p3:=Zu (s2 _ _ (f _ _ u)) g3;have I:p≠j:=Zu (e _ _ (s2 _ _ (f _ _ u))) g4;have H:p≠q:=Zu (i _ _ (e _ _ (s2 _ _ (f _ _ u)))) g5;have L:p1≠p3:=Zu (s2 _ _ y) g3;have Z:p1≠j:=Zu (e _ _ (s2 _ _ y)) g4;have g0:p1≠q:=Zu (i _ _ (e _ _ (s2 _ _ y))) g5;have e0:p3≠j:=Zu D g4;have b0:p3≠q:=Zu (i _ _ D) g5;have f0:j≠q:=Zu E g5;erw[⟨O,[(Sum.inr (ON "stops"),.ref p1),(Sum.inr (ON "walks"),.ref B),(Sum.inr (ON "rules"),.ref p3),(Sum.inr (ON "tickets"),.ref j),(Sum.inr (ON "trips"),.ref q)],R,by show 5<=15;lia,?_⟩];have S:=((((v.trans f).trans s2).trans e).trans i).trans s5;erw[a0 p ⟨p1,B,p3,j,q⟩ _ (Y3 S C _) C ⟨n1,n2,Y,n4,X⟩ ⟨J,G,I,H⟩ ⟨⟨_,Zj,⟨R,R,R,R,R⟩⟩,⟨L,Z,g0,e0,b0,f0⟩,⟨[],by rwa[Ze J.symm],.nil⟩,⟨[],by rwa[Ze h0.symm],.nil⟩,⟨[],by rwa[Ze G.symm],.nil⟩,⟨[],by rwa[Ze I.symm],.nil⟩,⟨[],by rwa[Ze H.symm],.nil⟩⟩]
structure Mw(H:Hp)(wd:Addr)(a:NA):Prop extends Uy H a where
 d:H wd=none
 ns:wd≠a.ds
 nr:wd≠a.dr
 nt:wd≠a.dt
 np:wd≠a.dp
section Wp
variable{d:Addr}{kvs:List (Zn×V)}{o:HO}(hd:H d=some (.dK kvs))
include hd
theorem X9(h:H p=some (.lst xs)):Za H d o p=some (.lst xs):=by rwa[Ze (Z5 h hd (by intro z;cases z))]
theorem YU.put(h:YU tp H v r):YU tp (Za H d o) v r:=by
 induction h with
 |always h=>exact .always (XA hd ZI.k h)
 |week h=>exact .week (XA hd ZI.k h)
 |span h _ c=>exact .span (XA hd ZI.k h) c
 |each h f ne=>exact .each (XA hd ZI.k h) (X9 hd f) ne
 |either h _ _ e i=>exact .either (XA hd ZI.k h) e i
 |both h _ _ e i=>exact .both (XA hd ZI.k h) e i
 |but h f ne _ c=>exact .but (XA hd ZI.k h) (X9 hd f) ne c
theorem XC.put(h:XC H c k):XC (Za H d o) c k:=let ⟨e,tp,h⟩:=h;⟨e,tp,YU.put hd h⟩
theorem WY.put(h:WY H c k):WY (Za H d o) c k:=let ⟨e,r,z,e1,e2,e3⟩:=h;⟨e,r,z,e1,XA hd ZI.k e2,X9 hd e3⟩
theorem Xw.put(h:Xw H c k):Xw (Za H d o) c k:=let ⟨e,r,l,vs,e1,e2,e3,e4⟩:=h;⟨e,r,l,vs,e1,XA hd ZI.k e2,X9 hd e3,e4.imp λ_ _=>Yq.put hd ZI.k⟩
end Wp
section Wa
variable{H0:Hp}{wd:Addr}{a:NA}{W:Yn}{rows:List (Zn×V)}{v:V}(h:Y9 H wd a W)(n:Mw H0 wd a)
include h n
theorem Y9.addSt{x:Z6}(c:H a.ds=some (.dK rows))(j:Al (Y2 H) rows W.st)(f:ZD rows (Sum.inr x.nm)=none)(G:Y2 H (Sum.inr x.nm,v) x):Y9 (Za H a.ds (.dK (YD rows (Sum.inr x.nm) v))) wd a {W with st:=W.st++[x]}:=by
 ext⟨⟨B,C,M⟩,ap,_,⟨u,J,y⟩,⟨E,i,q⟩,⟨r3,O,I⟩,⟨L,e,D⟩⟩ h;erw[⟨⟨B,by rwa[Ze n.ns],M⟩,ap,⟨_,Zj,?_⟩,⟨u,X9 c J,y.imp λ_ _=>Y8.put c ZI.k⟩,⟨E,by rwa[Ze (ap.sr.symm)],q.imp λ_ _=>XC.put c⟩,⟨r3,by rwa[Ze (ap.st.symm)],I.imp λ_ _=>WY.put c⟩,⟨L,by rwa[Ze (ap.sp.symm)],D.imp λ_ _=>Xw.put c⟩⟩];rw[US v f];exact(j.imp λ_ _=>Y2.put c ZI.k).snoc (G.put c ZI.k)
theorem Y9.addWk(c:H a.lw=some (.lst vs))(y:Al (Y8 H) vs W.wk)(G:Y8 H v x)(nr:W.ru=[])(nt:W.tk=[])(np:W.tp=[]):Y9 (Za H a.lw (.lst (vs++[v]))) wd a {W with wk:=W.wk++[x]}:=by
 ext⟨⟨C,D,L⟩,ap,⟨r1,B,J⟩,_,⟨E,u,f⟩,⟨r3,M,j⟩,⟨I,q,i⟩⟩ h;have kp:∀{p:Addr} {k:List (Zn×V)},H p=some (.dK k)->Za H a.lw (.lst (vs++[v])) p=some (.dK k):=λe=>by rwa[Ze (Z5 e c (by intro z;cases z))]
 erw[⟨⟨C,kp D,L⟩,ap,⟨r1,kp B,J.imp λ_ _=>Y2.put c ZI.l⟩,⟨_,Zj,?_⟩,⟨E,kp u,?_⟩,⟨r3,kp M,?_⟩,⟨I,kp q,?_⟩⟩];exact(y.imp λ_ _=>Y8.put c ZI.l).snoc (G.put c ZI.l);rw[nr]at f ⊢;cases f;exact .nil;rw[nt]at j ⊢;cases j;exact .nil;rw[np]at i ⊢;cases i;exact .nil
theorem Y9.addRu{x:Yi}(c:H a.dr=some (.dK rows))(i:Al (XC H) rows W.ru)(f:ZD rows (Sum.inr x.nm)=none)(D:XC H (Sum.inr x.nm,v) x):Y9 (Za H a.dr (.dK (YD rows (Sum.inr x.nm) v))) wd a {W with ru:=W.ru++[x]}:=by
 ext⟨⟨y,B,L⟩,ap,⟨r1,j,J⟩,⟨q,G,u⟩,_,⟨r3,M,E⟩,⟨I,e,C⟩⟩ h;erw[⟨⟨y,by rwa[Ze n.nr],L⟩,ap,⟨r1,by rwa[Ze (ap.sr)],J.imp λ_ _=>Y2.put c ZI.k⟩,⟨q,X9 c G,u.imp λ_ _=>Y8.put c ZI.k⟩,⟨_,Zj,?_⟩,⟨r3,by rwa[Ze (ap.rt.symm)],E.imp λ_ _=>WY.put c⟩,⟨I,by rwa[Ze (ap.rp.symm)],C.imp λ_ _=>Xw.put c⟩⟩];rw[US v f];exact(i.imp λ_ _=>XC.put c).snoc (D.put c)
theorem Y9.addTk{x:WX}(c:H a.dt=some (.dK rows))(j:Al (WY H) rows W.tk)(f:ZD rows (Sum.inr x.nm)=none)(I:WY H (Sum.inr x.nm,v) x):Y9 (Za H a.dt (.dK (YD rows (Sum.inr x.nm) v))) wd a {W with tk:=W.tk++[x]}:=by
 ext⟨⟨C,D,O⟩,ap,⟨r1,u,M⟩,⟨y,J,B⟩,⟨G,i,q⟩,_,⟨L,e,E⟩⟩ h;erw[⟨⟨C,by rwa[Ze n.nt],O⟩,ap,⟨r1,by rwa[Ze (ap.st)],M.imp λ_ _=>Y2.put c ZI.k⟩,⟨y,X9 c J,B.imp λ_ _=>Y8.put c ZI.k⟩,⟨G,by rwa[Ze (ap.rt)],q.imp λ_ _=>XC.put c⟩,⟨_,Zj,?_⟩,⟨L,by rwa[Ze (ap.tp.symm)],E.imp λ_ _=>Xw.put c⟩⟩];rw[US v f];exact(j.imp λ_ _=>WY.put c).snoc (I.put c)
theorem Y9.addTp{x:Tp}(c:H a.dp=some (.dK rows))(i:Al (Xw H) rows W.tp)(e:ZD rows (Sum.inr x.nm)=none)(C:Xw H (Sum.inr x.nm,v) x):Y9 (Za H a.dp (.dK (YD rows (Sum.inr x.nm) v))) wd a {W with tp:=W.tp++[x]}:=by
 ext⟨⟨y,B,L⟩,ap,⟨r1,j,J⟩,⟨q,G,u⟩,⟨D,f,I⟩,⟨r3,M,E⟩,_⟩ h;erw[⟨⟨y,by rwa[Ze n.np],L⟩,ap,⟨r1,by rwa[Ze (ap.sp)],J.imp λ_ _=>Y2.put c ZI.k⟩,⟨q,X9 c G,u.imp λ_ _=>Y8.put c ZI.k⟩,⟨D,by rwa[Ze (ap.rp)],I.imp λ_ _=>XC.put c⟩,⟨r3,by rwa[Ze (ap.tp)],E.imp λ_ _=>WY.put c⟩,⟨_,Zj,?_⟩⟩];rw[US v e];exact(i.imp λ_ _=>Xw.put c).snoc (C.put c)
end Wa
structure QV(W:Yn):Prop where
 s2:2<=W.st.length
 s5:W.st.length<=5
 sn:(W.st.map Z6.nm).Nodup
 so:∀x∈W.st,Yv x.nm/\1<=x.z/\x.z<=6/\x.ch<=30
 w4:W.wk.length<=4
 wo:∀x∈W.wk,x.o∈W.st.map Z6.nm/\x.t∈W.st.map Z6.nm/\x.o≠x.t/\1<=x.m/\x.m<=60
 wn:∀i x,W.wk[i]? = some x->Kl (W.wk.take i) x.o x.t=false
 r1:1<=W.ru.length
 r3:W.ru.length<=3
 rn:(W.ru.map Yi.nm).Nodup
 ro:∀x∈W.ru,Yv x.nm/\x.r.Ok
 t2:W.tk.length<=2
 tn:(W.tk.map WX.nm).Nodup
 to:∀x∈W.tk,x.Ok
 p1:1<=W.tp.length
 p3:W.tp.length<=3
 pn:(W.tp.map Tp.nm).Nodup
 po:∀x∈W.tp,Yv x.nm/\x.ru∈W.ru.map Yi.nm/\Vj (W.st.map Z6.nm) x.cs/\2<=x.cs.length/\x.cs.length<=6
 r7:∀z∈W.ru.map Yi.nm,z.length<=7
 p7:∀z∈W.tp.map Tp.nm,z.length<=7
inductive ZlA(vs:List V)(H:Hp)(Q:VK)(_e3:XK):Prop|mk (d:Nat) (_:vs=[.int d]) (_:d<998244353) (_:∀wd a W H',Zd H H'->Mw H wd a->Y9 H' wd a W->QV W->Q (.ref wd) H')
def Vk(d:Nat):List Str:=(List.range 8).map (ZO d)
def ZlB(h:i<8):(Vk d)[i]? = some (ZO d i):=by
 unfold Vk;rw[Oc,List.getElem?_range h];rfl
def Mx{d i:Nat}(h:i<8):YP ((Vk d).map V.str) (i:Int)=some (.str (ZO d i)):=XZ (by rw[Oc,ZlB h];rfl)
def My(hi:i<8)(c:j<8)(e:ZO d i=ZO d j):i=j:=by
 rcases Nat.lt_trichotomy i j with h|h|h;exact Ov e (zS h c);exact h;exact Ov e.symm (zS h hi)
def zX{f:Type}{nm:f->Str}{xs:List f}{d k i:Nat}(e:xs.map nm=(List.range i).map λj=>ZO d (j+k))(h:i+k<8):ZQ nm xs (ZO d (i+k))=none:=by
 unfold ZQ;rw[List.find?_eq_none];intro y q v;have hm:nm y∈xs.map nm:=SL.mpr ⟨y,q,R⟩;rw[e,SV v]at hm;obtain⟨j,c,u⟩:=SL.mp hm;have c:=List.mem_range.mp c;have:=My () h u;lia
def Zcr{f:Type}{nm:f->Str}{xs:List f}{d k i:Nat}(e:xs.map nm=(List.range i).map λj=>ZO d (j+k)):∀z∈xs.map nm,z.length<=7:=λz c=>by
 rw[e]at c;obtain⟨j,_,rfl⟩:=SL.mp c;unfold ZO;rw[V0,Sw,Sw,Sy,Sz,SD,U3];lia
def Kr(h:i+k<=8):((List.range i).map λj=>ZO d (j+k)).Nodup:=by
 erw[List.pairwise_map.mpr (List.nodup_range.imp_of_mem λ{a b} ha f c e=>c ?_)];have:=My (by have:=List.mem_range.mp ha;lia) (by have:=List.mem_range.mp f;lia) e;lia
def QW{c:Type}{nm:c->Str}{xs:List c}{f:Nat->Str}{i:Nat}(e:xs.map nm=(List.range i).map f):xs.length=i:=by
 have:=congrArg List.length e;rwa [Sx,Sx,List.length_range]at this
def Mz{e:Type}{nm:e->Str}{R:Zn×V->e->Prop}(i:∀c x,R c x->c.1=Sum.inr (nm x)){rows:List (Zn×V)}{xs:List e}(h:Al R rows xs):(rows.map λc=>kV c.1)=(xs.map nm).map V.str:=by
 induction h with
 |nil=>rfl
 |cons a _ f=>rw[SO,SO,SO,f,i _ _ a];rfl
def QX(d:Nat)(c:List Wl):Prop:=∀j x,c[j]? = some x->(x.o=ZO d j/\x.t=ZO d (j+1)\/x.o=ZO d (j+1)/\x.t=ZO d j)/\1<=x.m/\x.m<=60
def QX.snoc{f:List Wl}{x:Wl}(h:QX d f)(i:(x.o=ZO d f.length/\x.t=ZO d (f.length+1)\/x.o=ZO d (f.length+1)/\x.t=ZO d f.length)/\1<=x.m/\x.m<=60):QX d (f++[x]):=λj y e=>by
 by_cases c:j<f.length;rw[List.getElem?_append_left c]at e;exact h j y e;have q:=(Su.mp e).1;rw[Sw,Sy]at q;obtain rfl:j=f.length:=by lia
 rw[Od (Sh _),Nat.sub_self]at e;cases e;exact i
def QX.new{f:List Wl}(h:QX d f)(l:f.length<=6):∀i x,f[i]? = some x->Kl (f.take i) x.o x.t=false:=λi x e=>by
 unfold Kl;rw[List.any_eq_false];intro y I c;obtain⟨j,G,E⟩:=List.mem_iff_getElem.mp I;rw[Sz]at G;rw[List.getElem_take]at E;have H:=h j y (by rw[<-E];exact Sv ());have ex:=h i x e;have M:=(Su.mp e).1;have inj:∀{a b},a<=7->b<=7->ZO d a=ZO d b->a=b:=λha J e=>My () () e;simp only[Bool.or_eq_true,Bool.and_eq_true,beq_iff_eq]at c;rcases ex.1 with⟨v,D⟩|⟨v,D⟩<;>rcases H.1 with⟨C,B⟩|⟨C,B⟩<;>rcases c with⟨q,u⟩|⟨q,u⟩<;>(simp only[v,D,C,B]at q u;have O:=inj () () q;have L:=inj () () u;lia)
def ZlC(D:Zv K mg t):Zo P w K mg base Zr 8 t.gG t.gH ["_law_seed"] ZlA:=by
 erw[D.Zbh.F.ok Vi () λe3 A outer s b0 vs x2 f3 O h=>?_];ext⟨d,rfl,hd,d2⟩ h;erw[⟨_,(Zh (ZM 1 Vi.nd (Zeb (Zlz D) (O.mono ()) R D.LN.m D.LN.F.kp D.LN.b .nil Zm)) (Zh (Nr (i0:=2) (cl:=[(ON "_law_seed",s.heap.objs.size+1)]) (N:=["_law_k","_law_seed"]) (fr:=[none,some 0]) Vi.nd R (Or.inl R) R (Uq R D.VU (Zk Zc)) R () R () ⟨⟨R,Or.inl R,Or.inl R,_,R,R⟩,trivial⟩ ⟨R,trivial⟩ R (λ_ _ _ _ _=>(Z4 0 (show List.Nodup (["_law_k","_law_seed"]:OF) by lia))) (λ_ _ _ _ _=>VQ) (λ_ _ _ _ _=>(ZE D.Zbf (Zkr D) O Zm (Zp (pv 1) (pv 0))))) (Uu (Xq (Uq R D.VU (Zk (Zf Z9 Zc (Zf ZZ (pv 0) Zc)))) (Z4 3 Vi.nd) (Zi (VR (Xk O) (YI O (pv 1) ZH) (Zw YC (pv 2) (pv 3)) (Yp (Zp (Zf Z9 Zc (Zf ZZ (ZE D.VW (Uh D) O Zm (Zp (pv 0) (Zf Z9 Zc (pv 3)))) Zc)) (Zf ZZ (ZE D.VW (Uh D) O Zm (Zp (pv 0) (Zf Z9 Zc (pv 3)))) Zc))) R))) (Zh (ZM 4 Vi.nd (Yt (B1 R) R D.X4 X1 (Zk (YI O (pv 1) ZH)))) (Uu (Xq (Uq R D.VU (Zk (Zf ZZ (Zf YN (pv 0) Zc) (ZP Xt D.Xi Xh (Zk (pv 4)))))) (Z4 3 Vi.nd) (Zh (ZM 5 Vi.nd (Q4 (Ys KM (Zf Z9 (pv 3) Zc) (ZP Xt D.Xi Xh (Zk (pv 4)))) (qP (Z7 (Zp (Zw YC (pv 4) (pv 3)) (Zw YC (pv 4) (Zf Z9 (pv 3) Zc)))) (Ur (Zf Vm Zc (Zf VH Zc (Zf ZZ (Zf YN (pv 0) Zc) Zc))))) (Z7 Xs))) (Zi (ZK (Ys (ZgH O.units0) (pv 5) (Z7 Xs)) (Zi (Z1 (V7 PySem.F.plainAttrs_list PySem.F.slot_list_append PySem.F.type_list_append Us (YI O (pv 1) ZH) (Zk (Yp (Yk (Zw YC (pv 5) Zc) (Zw YC (pv 5) Zc) (Zf Z9 Zc (Zf ZZ (ZE D.VW (Uh D) O Zm (Zp (pv 0) (Zf Z9 Zc (pv 3)))) Zc)))))))) ZL)))) (Uu (Xq (Uq R D.VU (Zk (Zf Z9 Zc (Zf ZZ (Zf YN (pv 0) Zc) Zc)))) (Z4 3 Vi.nd) (Zi (VR (Xk O) (YI O (pv 1) ZH) (Zw YC (pv 2) (Zf Z9 (pv 3) Zc)) (ZE D.U0 (Zlt D 3) O Zm (Zp (ZE D.VW (Uh D) O Zm (Zp (pv 0) (Zf Z9 Zc (pv 3)))) Zc)) R))) (Uu (Xq (Uq R D.VU (Zk (Zf ZZ (Zf YN (pv 0) Zc) Zc))) (Z4 3 Vi.nd) (Zh (ZM 6 Vi.nd (ZE D.VW (Uh D) O Zm (Zp (pv 0) (Zf Z9 Zc (pv 3))))) (Uu (ZM 7 Vi.nd (Zgt (V8 (cl:=[(ON "_law_mixed_here",s.heap.objs.size+2)]) (N:=["_law_zone","_law_mixed_here"]) (fr:=[none,some 6]) R (yP R D.VU (Zp Zc Zc)) R () R () ⟨⟨R,Or.inl R,Or.inl R,_,R,R⟩,trivial⟩ ⟨R,trivial⟩ R (λ_ _ _ _ _=>(Z4 0 (show List.Nodup (["_law_zone","_law_mixed_here"]:OF) by lia))) (λ_ _ _ _ _=>(wP (Ys YZ (Zf ZZ (Zf YN (pv 1) (Zf yS Zc (pv 0))) Zc) Zc))) (λ_ _ _ _ _=>(pv 0))) (Vl (Z7 (Zk Zc))))) (Zi (VR (Xk O) (YI O (pv 1) ZH) (Zw YC (pv 2) (pv 3)) (Yp (Yk (Zf ZZ (Zf YN (pv 6) Zc) Zc) (Zf Z9 Zc (Zf ZZ (Zf YN (pv 6) Zc) Zc)) (pv 7))) R))))) (Zh (ZM 8 Vi.nd (Yt (B1 R) R D.X4 X1 (Zk (YI O (pv 1) ZH)))) (Uu (Xq (Uq R D.VU (Zk (Zf Z9 Zc (Zf ZZ (Zf YN (pv 0) Zc) Zc)))) (Z4 3 Vi.nd) (Zh (ZM 6 Vi.nd (ZE D.VW (Uh D) O Zm (Zp (pv 0) (Zf Z9 Zc (pv 3))))) (Zi (VR (Xk O) (YI O (pv 1) ZH) (Zw YC (pv 2) (Zf Z9 (pv 3) Zc)) (Yp (Zp (Zw YC (pv 8) (Zf ZZ (pv 6) (ZP Xt D.Xi Xh (Zk (pv 8))))) (ZE D.Zbg (Zku D) O Zm (Yk (Zf YN (pv 6) Zc) (pv 4) (Zf Z9 Zc (Zf ZZ (Zf YN (pv 6) Zc) Zc)))))) R)))) (Zi (ZA (pv 1)))))))))))),?_⟩];sleep 3;erw[⟨R,λE a H1 s1 f2 j2 dd W1=>?_⟩];have nW:Mw b0 E a:=⟨j2,f2,dd.1,dd.2.1,dd.2.2.1,dd.2.2.2⟩;erw[⟨8,R,(),(),Nd (λi k0 q c=>Zd H1 c/\k0=((List.range i).map (ZO d)).map V.str/\∃v,q=[v,some (.int d)]) ⟨Zd.refl _,R,_,R⟩ (zL9 R) ?_ ?_⟩];rintro i k0 q c hi ha ⟨s',j0,v,rfl⟩;dsimp only[XE,Vs];rw[SY R];erw[⟨_,R,_,R,d,i,by show[V.int d,V.int (0+(i:Int))]=_;rw[Int.zero_add],(),λH2 s2=>⟨by rw[Sw,Sy];lia,s'.trans s2,?_,_,R⟩⟩];rw[j0,Om,SN,SN];rfl;rintro k0 q H2 ha ⟨s2,j0,v,rfl⟩ I gn;subst j0;rw[show(List.range (Int.toNat 8)).map (ZO d)=Vk d from R];exists H2,I,H3,s3,gn,hn;have h3:=(s1.trans s2).free gn;have nl:I≠a.lw:=by
  obtain⟨vs,h,_⟩:=(W1.same s2).wk;exact(Zu h gn).symm
 replace s3:Zd H1 H3:=s2.trans s3;have S3:=s1.trans s3;replace W1:=W1.same s3;clear s2 s3 gn;erw[⟨λq c=>∃(e:List Z6) (y:Option V),Zd b0 c/\c I=some (.lst ((Vk d).map V.str))/\Y9 c E a ⟨e,[],[],[],[]⟩/\e.map Z6.nm=(List.range (2+d%4)).map (ZO d)/\(∀x∈e,Yv x.nm/\1<=x.z/\x.z<=6/\x.ch<=30)/\q=[some (.int d),some (.ref E),some (.ref I),y,none,none,none,none,none],?_,?_⟩];sleep 1;have en:((2:Int)+(d:Int)%4).toNat=2+d%4:=by lia
 refine⟨_,R,_,_,R,R,(),_,_,R,R,_,R,(),(),UH (λi q c=>∃(e:List Z6) (y:Option V),Zd b0 c/\c I=some (.lst ((Vk d).map V.str))/\Y9 c E a ⟨e,[],[],[],[]⟩/\e.map Z6.nm=(List.range i).map (ZO d)/\(∀x∈e,Yv x.nm/\1<=x.z/\x.z<=6/\x.ch<=30)/\q=[some (.int d),some (.ref E),some (.ref I),y,none,none,none,none,none])
  ⟨[],_,S3,hn,W1,R,(),R⟩ ?_ ?_⟩
 rintro i q H4 hi ⟨e,y,S4,g0,W4,Z,oS,rfl⟩;sleep 101;have c0:i<8:=by lia
 erw[⟨_,R,_,R,_,_,R,R,_,_,R,(),(),_,_,R,R,(),_,_,R,R,_,R,_,R,_,_,R,R,_,_,R,(),(),_,_,R,R,(),zL9 R,λp g=>?_⟩];generalize Wg _ (1+(0+(i:Int)))=u at *;generalize Wg _ (6+(0+(i:Int)))=m2 at *;exists H4,p,H5,s5,g,c5;have W5:=W4.same s5;ext⟨u0,e1,e2⟩ W5.ob;ext⟨rows,G,L⟩ W5.st;have lS:e.length=i:=by have:=congrArg List.length Z;rw[Sx,Sx,List.length_range]at this;exact this
 have hf:ZQ Z6.nm e (ZO d i)=none:=by
  unfold ZQ;rw[List.find?_eq_none];intro c1 hy ey;have hm:c1.nm∈e.map Z6.nm:=SL.mpr ⟨c1,hy,R⟩;rw[Z,SV ey]at hm;obtain⟨j,hj,ej⟩:=SL.mp hm;have hj:=List.mem_range.mp hj;have:=My () c0 ej;lia
 have hv:=(Xr (λkv x (h:Y2 H5 kv x)=>h.1) L (ZO d i)).1 hf;erw[⟨_,R,E,_,R,by rw[<-e2.s];exact Yr.k (k:=Sum.inr (ON "stops")) e1,_,R,_,R,I,_,_,_,R,R,Zg.of (s5 _ _ g0),by rw[Int.zero_add];exact Mx c0,a.ds,_,R,XN.k (k:=Sum.inr (ZO d i)) G (Sk (show rows.length<=8 by rw[L.length,lS];lia) ()),?_⟩];erw[⟨e++[⟨ZO d i,1+u%6,m2%31⟩],_,Y3 (S4.trans s5) nW.s _,X9 G (s5 _ _ g0),W5.addSt (x:=⟨ZO d i,1+u%6,m2%31⟩) nW G L hv ⟨R,p,R,?_⟩,?_,λx H=>?_,R⟩];rw[c5,show((1+u%6:Nat):Int)=1+(u:Int)%6 by lia,show((m2%31:Nat):Int)=(m2:Int)%31 by lia];rw[SN,Z,Om,SN];rfl;rcases SI.mp H with H|H;exact oS x H;rw[SG.mp H];exact⟨Mo d i,by show 1<=1+u%6;lia,by show 1+u%6<=6;lia,by show m2%31<=30;lia⟩;rintro q H4 ⟨e,y,S4,g0,W4,Z,oS,rfl⟩;exact⟨e,y,S4,g0,W4,by rw[Z,en],oS,R⟩;rintro q H4 ⟨e,y,S4,g0,W4,Z,oS,rfl⟩;generalize hm:2+d%4=m at Z;sleep 2;have lS:=QW Z;ext⟨a3,q1,d1⟩ W4.ob;ext⟨z2,k1,o1⟩ W4.st;erw[⟨_,R,E,_,R,by rw[<-d1.s];exact Yr.k (k:=Sum.inr (ON "stops")) q1,a.ds,_,R,k1,λJ gs=>?_⟩];rw[Mz (λkv x (h:Y2 H4 kv x)=>h.1) o1];exists H4,J,H5,s5,gs,x0;have r2:J≠a.lw:=by
  ext⟨vs,h,_⟩ W4.wk;exact(Zu h gs).symm
 have j1:=s5 _ _ g0;have W5:=W4.same s5;have S5:=S4.trans s5;have lL:((e.map Z6.nm).map V.str).length=m:=by rw[Sx,Sx,lS]
 have atS:∀j:Nat,j<m->YP ((e.map Z6.nm).map V.str) ((j:Nat):Int)=some (.str (ZO d j)):=λj hj=>XZ (by rw[Z,Oc,Oc,List.getElem?_range hj];rfl);clear W4 g0 S4 s5 k1 o1 q1 d1 gs;erw[⟨λq c=>∃(M:List Wl) (y U:Option V),Zd b0 c/\c I=some (.lst ((Vk d).map V.str))/\c J=some (.lst ((e.map Z6.nm).map V.str))/\Y9 c E a ⟨e,M,[],[],[]⟩/\QX d M/\M.length+1<=m/\q=[some (.int d),some (.ref E),some (.ref I),y,some (.ref J),U,none,none,none],?_,?_⟩];sleep 1;have em:(d:Int)/4%((((e.map Z6.nm).map V.str).length:Nat):Int)=((d/4%m:Nat):Int):=by rw[lL,SZ,S0];rfl
 have i3:d/4%m<m:=Oq _ ();have en:((d:Int)/4%((((e.map Z6.nm).map V.str).length:Nat):Int)).toNat=d/4%m:=by rw[em];lia
 erw[⟨_,R,_,_,R,R,⟨(),()⟩,_,R,J,_,R,.inl (Zg.of x0),_,_,R,R,(by show(0:Int)<((((e.map Z6.nm).map V.str).length:Nat):Int);lia),_,R,by rw[em];lia,by rw[em];lia,?_⟩];refine UH (λi q c=>∃(M:List Wl) (y U:Option V),Zd b0 c/\c I=some (.lst ((Vk d).map V.str))/\c J=some (.lst ((e.map Z6.nm).map V.str))/\Y9 c E a ⟨e,M,[],[],[]⟩/\QX d M/\M.length=i/\q=[some (.int d),some (.ref E),some (.ref I),y,some (.ref J),U,none,none,none])
  ⟨[],y,none,S5,j1,x0,W5,λj x j0=>(nomatch j0),R,R⟩ ?_ ?_
 rintro i q H6 hi ⟨M,y,U,S6,p0,e0,W6,iW,lW,rfl⟩;rw[en]at hi;sleep 102;have c2:i+1<m:=by lia
 have a0:YP ((e.map Z6.nm).map V.str) (0+(i:Int))=some (.str (ZO d i)):=by rw[Int.zero_add];exact atS i ()
 have a1:YP ((e.map Z6.nm).map V.str) (0+(i:Int)+1)=some (.str (ZO d (i+1))):=by rw[Int.zero_add];exact atS (i+1) c2
 erw[⟨_,R,_,_,R,R,_,R,J,_,R,.inl (Zg.of e0),_,_,R,R,_,R,Z3 (SS ()) ?_⟩];erw[⟨_,R,_,R,J,_,_,_,R,R,Zg.of e0,a0,_,R,_,R,_,_,R,R,J,_,_,_,R,R,Zg.of e0,a1,zL9 R,λp1 g1=>?_⟩];exists H6,p1,H7,s7,g1,c7;obtain⟨f0,v,x1,w1⟩:∃f0 v:Str,((f0=ZO d i/\v=ZO d (i+1))\/(f0=ZO d (i+1)/\v=ZO d i))/\((some ((1:Int) - 2*((d:Int)/16%2))=some 1/\[V.str f0,V.str v]=[V.str (ZO d i),V.str (ZO d (i+1))])\/(some ((1:Int) - 2*((d:Int)/16%2))=some (-1)/\[V.str f0,V.str v]=[V.str (ZO d i),V.str (ZO d (i+1))].reverse)):=by
  rcases(show(d:Int)/16%2=0\/(d:Int)/16%2=1 by lia)with h|h;exact⟨_,_,.inl ⟨R,R⟩,.inl ⟨by rw[h];rfl,R⟩⟩;exact⟨_,_,.inr ⟨R,R⟩,.inr ⟨by rw[h];rfl,R⟩⟩
 erw[⟨_,R,_,_,R,R,⟨(),()⟩,_,_,R,R,(),_,_,R,R,.inl ⟨(),()⟩,_,_,R,R,_,R,p1,_,[V.str f0,V.str v],w1,R,Zg.of c7,λp2 g2=>?_⟩];exists H7,p2,H8,X,g2,c8;erw[⟨_,R,zL9 R,λp3 g3=>?_⟩];exists H8,p3,H9,s9,g3,c9;have b1:=s9 _ _ c8;have v0:=(s7.trans X).trans s9;have W9:=W6.same v0;ext⟨u0,e1,e2⟩ W9.ob;ext⟨vs,G,L⟩ W9.wk;erw[⟨p2,p3,_,R,R,Zg.of b1,Zg.of c9,_,R,Z3 R ?_⟩];sleep 1;erw[⟨_,R,E,.ref a.lw,R,by rw[<-e2.w];exact Yr.k (k:=Sum.inr (ON "walks")) e1,.inl ⟨R,_,Zg.of G⟩,_,R,p2,_,0,_,R,R,Zg.of b1,R,_,R,p2,_,1,_,R,R,Zg.of b1,R,_,R,_,R,_,_,R,R,_,_,R,(),(),_,_,R,R,(),_,_,R,R,zL9 R,λp4 g4=>?_⟩];generalize Wg _ _=u at *;exists H9,p4,o0,S,g4,w0;erw[⟨a.lw,_,_,R,R,S _ _ G,Sk (show vs.length<=6 by rw[L.length];show M.length<=6;lia) (),?_⟩];have l0:=S6.trans (v0.trans S);have i1:=v0.trans S;erw[⟨M++[⟨f0,v,1+u%60⟩],_,_,Y3 l0 nW.w _,by rw[Ze nl];exact i1 _ _ p0,by rw[Ze r2];exact i1 _ _ e0,(W9.same S).addWk (x:=⟨f0,v,1+u%60⟩) nW (S _ _ G) (L.imp λ_ _=>Y8.same S) ⟨p4,R,?_⟩ R R R,iW.snoc ⟨by rwa[lW],by show 1<=1+u%60;lia,by show 1+u%60<=60;lia⟩,by rw[Sw,lW];rfl,R⟩];rw[w0,show((1+u%60:Nat):Int)=1+(u:Int)%60 by lia];rintro q H6 ⟨M,y,U,S6,p0,e0,W6,iW,lW,rfl⟩;rw[en]at lW;exact⟨M,y,U,S6,p0,e0,W6,iW,(),R⟩;rintro q H6 ⟨M,y,U,S6,p0,e0,W6,iW,lW,rfl⟩;sleep 1;clear S5 j1 x0 W5;erw[⟨λq c=>∃(C:List Yi) (y:Option V),Zd b0 c/\c I=some (.lst ((Vk d).map V.str))/\c J=some (.lst ((e.map Z6.nm).map V.str))/\Y9 c E a ⟨e,M,C,[],[]⟩/\C.map Yi.nm=(List.range (1+d/32%3)).map (λj=>ZO d (j+2))/\(∀x∈C,Yv x.nm/\x.r.Ok)/\q=[some (.int d),some (.ref E),some (.ref I),y,some (.ref J),U,none,none,none],?_,?_⟩];sleep 1;have en:((1:Int)+(d:Int)/32%3).toNat=1+d/32%3:=by lia
 refine⟨_,R,_,_,R,R,⟨(),()⟩,_,_,R,R,(),_,_,R,R,_,R,(),(),UH (λi q c=>∃(C:List Yi) (y:Option V),Zd b0 c/\c I=some (.lst ((Vk d).map V.str))/\c J=some (.lst ((e.map Z6.nm).map V.str))/\Y9 c E a ⟨e,M,C,[],[]⟩/\C.map Yi.nm=(List.range i).map (λj=>ZO d (j+2))/\(∀x∈C,Yv x.nm/\x.r.Ok)/\q=[some (.int d),some (.ref E),some (.ref I),y,some (.ref J),U,none,none,none])
  ⟨[],_,S6,p0,e0,W6,R,(),R⟩ ?_ ?_⟩
 rintro i q H7 hi ⟨C,y,S7,h0,q0,W7,eR,oR,rfl⟩;sleep 101;have c0:i+2<8:=by lia
 have lR:=QW eR;erw[⟨_,R,_,R,_,_,R,R,_,_,R,(),(),?_⟩];have ml:=zQ (d:Int) (30+(0+(i:Int)));generalize Wg (d:Int) (30+(0+(i:Int)))=u at ml;erw[⟨u,2,R,(),(),(),λr v H8 X gr wr pr T8=>?_⟩];have Y:=W7.same X;ext⟨u0,e1,e2⟩ Y.ob;ext⟨rows,G,L⟩ Y.ru;have hv:=(Xr (λkv x (h:XC H8 kv x)=>h.1) L (ZO d (i+2))).1 (zX eR c0);erw[⟨_,R,E,.ref a.dr,R,by rw[<-e2.r];exact Yr.k (k:=Sum.inr (ON "rules")) e1,_,R,_,R,_,_,R,R,I,_,_,_,R,R,Zg.of (X _ _ h0),by rw[Int.zero_add];exact Mx c0,a.dr,_,R,XN.k (k:=Sum.inr (ZO d (i+2))) G (Sk (show rows.length<=8 by rw[L.length,show List.length ({st:=e,wk:=M,ru:=C,tk:=[],tp:=[]}:Yn).ru=i from lR];lia) ()),?_⟩];erw[⟨C++[⟨ZO d (i+2),r⟩],_,Y3 (S7.trans X) nW.r _,X9 G (X _ _ h0),X9 G (X _ _ q0),Y.addRu (x:=⟨ZO d (i+2),r⟩) nW G L hv ⟨R,E,T8 E ?_⟩,?_,λx H=>?_,R⟩];ext⟨k7,e7,_⟩ W7.ob;rw[e7];exact ();rw[SN,eR,Om,SN];rfl;rcases SI.mp H with H|H;exact oR x H;rw[SG.mp H];exact⟨Mo d (i+2),gr,Si (Nat.le_of_lt wr) (),Si pr ()⟩;rintro q H7 ⟨C,y,S7,h0,q0,W7,eR,oR,rfl⟩;rw[en]at eR;exact⟨C,y,S7,h0,q0,W7,eR,oR,R⟩;rintro q H7 ⟨C,b3,S7,h0,q0,W7,eR,oR,rfl⟩;sleep 1;clear S6 p0 e0 W6;erw[⟨λq c=>∃(Q:List WX) (y T v7:Option V),Zd b0 c/\c I=some (.lst ((Vk d).map V.str))/\c J=some (.lst ((e.map Z6.nm).map V.str))/\Y9 c E a ⟨e,M,C,Q,[]⟩/\Q.map WX.nm=(List.range (d/96%3)).map (λj=>ZO d (j+0))/\(∀x∈Q,x.Ok)/\q=[some (.int d),some (.ref E),some (.ref I),y,some (.ref J),U,T,v7,none],?_,?_⟩];sleep 1;have en:((d:Int)/96%3).toNat=d/96%3:=by lia
 refine⟨_,R,_,_,R,R,⟨(),()⟩,_,_,R,R,(),_,R,(),(),UH (λi q c=>∃(Q:List WX) (y T v7:Option V),Zd b0 c/\c I=some (.lst ((Vk d).map V.str))/\c J=some (.lst ((e.map Z6.nm).map V.str))/\Y9 c E a ⟨e,M,C,Q,[]⟩/\Q.map WX.nm=(List.range i).map (λj=>ZO d (j+0))/\(∀x∈Q,x.Ok)/\q=[some (.int d),some (.ref E),some (.ref I),y,some (.ref J),U,T,v7,none])
  ⟨[],_,_,_,S7,h0,q0,W7,R,(),R⟩ ?_ ?_⟩
 rintro i q H8 hi ⟨Q,y,T,v7,S8,m0,n0,Y,eT,oT,rfl⟩;sleep 102;have c0:i<8:=by lia
 have lT:=QW eT;erw[⟨_,R,_,R,_,_,R,R,_,_,R,(),(),?_⟩];generalize Wg (d:Int) (34+(0+(i:Int)))=u;erw[⟨λi2 c=>∃(zl:Addr) (ZS:OJ),Zd H8 c/\c zl=some (.lst (YB ZS))/\1<=ZS.length/\ZS.length<=6/\ZS.Pairwise (· < ·)/\(∀z∈ZS,1<=z/\z<=6)/\i2=[some (.int d),some (.ref E),some (.ref I),some (.int (0+(i:Int))),some (.ref J),U,some (.int u),some (.ref zl),none],?_,?_⟩];sleep 1;erw[⟨1,7,R,⟨(),(),(),()⟩,Nd (lo:=1) (n:=6) (λi k0 q c=>c=H8/\(∃zs:List Nat,k0=YB zs/\zs.Pairwise (· < ·)/\∀z∈zs,1<=z/\z<=i)/\∃v,q=[v,some (.int u)]) ⟨R,⟨[],R,.nil,()⟩,_,R⟩ () ?_ ?_⟩];rintro j k0 q c hj ha ⟨rfl,⟨zs,rfl,pw,zr⟩,v,rfl⟩;have pS:(1:Int)*2 ^ ((1:Int)+(j:Int)).toNat=((2 ^ (1+j):Nat):Int):=by rw[Int.one_mul,Int.natCast_pow,show((1:Int)+(j:Int)).toNat=1+j by lia];rfl
 have pP:0<2 ^ (1+j):=Nat.two_pow_pos _;have pU:2 ^ (1+j)<=2 ^ 6:=Nat.pow_le_pow_right () ();erw[⟨_,R,_,R,_,_,R,R,⟨(),(),()⟩,_,_,R,R,(by rw[pS];exact⟨(),()⟩),_,_,R,R,(),R,_,R,?_⟩];erw[VL (λ_=>?_) (λ_=>?_)];erw[⟨_,R,by rw[Sw,Sy];lia,R,⟨zs++[j+1],?_,?_,λz hz=>?_⟩,_,R⟩];rw[show YB (zs++[j+1])=YB zs++[V.int ((j+1:Nat):Int)] from SN,show((j+1:Nat):Int)=1+(j:Int) by lia];rw[List.pairwise_append];exact⟨pw,List.pairwise_singleton _ _,λx H c1 hy=>by rw[SG.mp hy];have:=(zr x H).2;lia⟩;rcases SI.mp hz with hz|hz;have:=zr z hz;lia;rw[SG.mp hz];lia;exact⟨(),R,⟨zs,R,pw,λz hz=>by have:=zr z hz;lia⟩,_,R⟩;rintro k0 q c ha ⟨rfl,⟨zs,rfl,pw,zr⟩,v,rfl⟩ lz gz;have sz:=Zx gz (.lst (YB zs));have cz:=@Zj c lz (.lst (YB zs));have l6:zs.length<=6:=by have:=ha;rwa [Sx]at this
 generalize Za c lz (.lst (YB zs))=Hz at sz cz ⊢;erw[⟨_,.inl ⟨_,Zg.of cz,R⟩,?_⟩];cases zs with
 |cons z v2=>exact Z3 R ⟨lz,z::v2,sz,cz,Nat.succ_pos _,l6,pw,zr,R⟩
 |nil =>
  erw[Zq () ⟨zL9 R,λp g=>⟨p,[6],sz.trans (Zx g _),Zj,Sh 1,(),List.pairwise_singleton _ _,λz hz=>by rw[SG.mp hz];exact⟨(),()⟩,R⟩⟩]
 rintro q H9 ⟨zl,ZS,s9,hz,z1,z6,zp,zr,rfl⟩;sleep 1;erw[⟨_,R,_,_,R,R,⟨(),()⟩,_,_,R,R,(),_,R,_,_,R,R,⟨(),()⟩,_,_,R,R,(),_,_,R,R,_,R,zL9 R,λp g=>?_⟩];exists H9,p,o0,S,g,w0;have X:=s9.trans S;have d0:=Y.same X;ext⟨u0,e1,e2⟩ d0.ob;ext⟨rows,G,L⟩ d0.tk;have hv:=(Xr (λkv x (h:WY o0 kv x)=>h.1) L (ZO d (i+0))).1 (zX eT ());erw[⟨_,R,E,.ref a.dt,R,by rw[<-e2.t];exact Yr.k (k:=Sum.inr (ON "tickets")) e1,_,R,_,R,I,_,_,_,R,R,Zg.of (X _ _ m0),by rw[Int.zero_add];exact Mx c0,a.dt,_,R,XN.k (k:=Sum.inr (ZO d (i+0))) G (Sk (show rows.length<=8 by rw[L.length,show List.length ({st:=e,wk:=M,ru:=C,tk:=Q,tp:=[]}:Yn).tk=i from lT];lia) ()),?_⟩];erw[⟨Q++[⟨ZO d (i+0),u/128%10001,1+u/7%1440,ZS⟩],_,_,_,Y3 (S8.trans X) nW.t _,X9 G (X _ _ m0),X9 G (X _ _ n0),d0.addTk (x:=⟨ZO d (i+0),u/128%10001,1+u/7%1440,ZS⟩) nW G L hv ⟨R,p,zl,R,?_,S _ _ hz⟩,?_,λx H=>?_,R⟩];rw[w0,show((1+u/7%1440:Nat):Int)=1+(u:Int)/7%1440 by lia,show((u/128%10001:Nat):Int)=(u:Int)/128%10001 by lia];rw[SN,eT,Om,SN];rfl;rcases SI.mp H with H|H;exact oT x H;rw[SG.mp H];exact⟨Mo d (i+0),by show u/128%10001<=10000;lia,by show 1<=1+u/7%1440;lia,by show 1+u/7%1440<=1440;lia,z1,z6,zp,zr⟩;rintro q H8 ⟨Q,y,T,v7,S8,m0,n0,Y,eT,oT,rfl⟩;rw[en]at eT;exact⟨Q,y,T,v7,S8,m0,n0,Y,eT,oT,R⟩;rintro q H8 ⟨Q,y,T,v7,S8,m0,n0,Y,eT,oT,rfl⟩;sleep 2;clear S7 h0 q0 W7;have lR:=QW eR;ext⟨d3,t1,v1⟩ Y.ob;ext⟨c3,u1,f1⟩ Y.ru;erw[⟨_,R,E,.ref a.dr,R,by rw[<-v1.r];exact Yr.k (k:=Sum.inr (ON "rules")) t1,a.dr,_,R,u1,λlr gr=>?_⟩];rw[Mz (λkv x (h:XC H8 kv x)=>h.1) f1];generalize B:Za H8 lr _=H9;have s9:=ZR gr B;have y1:H9 lr=some (.lst ((C.map Yi.nm).map V.str)):=ZV B;clear B;have W9:=Y.same s9;have S9:=S8.trans s9;have q2:=s9 _ _ m0;have a2:=s9 _ _ n0;clear Y S8 m0 n0 s9 u1 f1 t1 v1 gr;have y2:((C.map Yi.nm).map V.str).length=1+d/32%3:=by rw[Sx,Sx,lR]
 erw[⟨λq c=>∃(TP:List Tp) (y T:Option V),Zd b0 c/\c I=some (.lst ((Vk d).map V.str))/\c J=some (.lst ((e.map Z6.nm).map V.str))/\c lr=some (.lst ((C.map Yi.nm).map V.str))/\Y9 c E a ⟨e,M,C,Q,TP⟩/\TP.map Tp.nm=(List.range (1+d/288%3)).map (λj=>ZO d (j+1))/\(∀x∈TP,Yv x.nm/\x.ru∈C.map Yi.nm/\Vj (e.map Z6.nm) x.cs/\2<=x.cs.length/\x.cs.length<=6)/\q=[some (.int d),some (.ref E),some (.ref I),y,some (.ref J),U,T,v7,some (.ref lr)],?_,?_⟩];sleep 1;have en:((1:Int)+(d:Int)/288%3).toNat=1+d/288%3:=by lia
 refine⟨_,R,_,_,R,R,⟨(),()⟩,_,_,R,R,(),_,_,R,R,_,R,(),(),UH (λi q c=>∃(TP:List Tp) (y T:Option V),Zd b0 c/\c I=some (.lst ((Vk d).map V.str))/\c J=some (.lst ((e.map Z6.nm).map V.str))/\c lr=some (.lst ((C.map Yi.nm).map V.str))/\Y9 c E a ⟨e,M,C,Q,TP⟩/\TP.map Tp.nm=(List.range i).map (λj=>ZO d (j+1))/\(∀x∈TP,Yv x.nm/\x.ru∈C.map Yi.nm/\Vj (e.map Z6.nm) x.cs/\2<=x.cs.length/\x.cs.length<=6)/\q=[some (.int d),some (.ref E),some (.ref I),y,some (.ref J),U,T,v7,some (.ref lr)])
  ⟨[],_,_,S9,q2,a2,y1,W9,R,(),R⟩ ?_ ?_⟩
 rintro i q o0 hi ⟨TP,y,T,l0,t0,s0,r0,d0,eP,oP,rfl⟩;sleep 102;have c0:i+1<8:=by lia
 have lP:=QW eP;erw[⟨_,R,_,R,_,_,R,R,_,_,R,(),(),?_⟩];have ml:=zQ (d:Int) (37+(0+(i:Int)));generalize Wg (d:Int) (37+(0+(i:Int)))=u at ml;have u2:∃z,YP ((C.map Yi.nm).map V.str) ((u:Int)%((((C.map Yi.nm).map V.str).length:Nat):Int))=some (.str z)/\z∈C.map Yi.nm:=by
  have j0:(u:Int)%((((C.map Yi.nm).map V.str).length:Nat):Int)=((u%((C.map Yi.nm).map V.str).length:Nat):Int):=(SZ _ _).symm;have hl:u%((C.map Yi.nm).map V.str).length<(C.map Yi.nm).length:=by have:=Oq u (show 0<((C.map Yi.nm).map V.str).length by lia);rwa [Sx (f:=V.str)]at this ⊢
  erw[⟨_,by rw[j0];exact XZ (by rw[Oc,Sv hl];rfl),Ol hl⟩]
 ext⟨z,ez,mz⟩ u2;erw[⟨_,R,_,R,_,R,lr,_,R,.inl (Zg.of r0),_,_,R,R,(by show(0:Int)<((((C.map Yi.nm).map V.str).length:Nat):Int);lia),lr,_,_,_,R,R,Zg.of r0,ez,?_⟩];erw[⟨_,R,_,_,R,R,⟨(),()⟩,_,R,_,R,_,_,R,R,⟨(),()⟩,_,_,R,R,(),_,_,R,R,?_⟩];erw[⟨u/4,2+u/3%4,J,e.map Z6.nm,?_,s0,by rw[Z];exact Kr (k:=0) (),by rw[Sx,lS];lia,by rw[Sx,lS];lia,(),λcs l vs w2 o2 gl hl al ok lc=>?_⟩];show[V.int ((u:Int)/4),V.ref J,V.int (2+(u:Int)/3%4)]=_;rw[show((u/4:Nat):Int)=(u:Int)/4 by lia,show((2+u/3%4:Nat):Int)=2+(u:Int)/3%4 by lia];erw[⟨zL9 R,λp g=>?_⟩];exists w2,p,b2,y0,g,k2;have S:=o2.trans y0;have z0:=d0.same S;ext⟨u0,e1,e2⟩ z0.ob;ext⟨rows,G,L⟩ z0.tp;have hv:=(Xr (λkv x (h:Xw b2 kv x)=>h.1) L (ZO d (i+1))).1 (zX eP c0);erw[⟨_,R,E,.ref a.dp,R,by rw[<-e2.p];exact Yr.k (k:=Sum.inr (ON "trips")) e1,_,R,_,R,_,_,R,R,I,_,_,_,R,R,Zg.of (S _ _ t0),by rw[Int.zero_add];exact Mx c0,a.dp,_,R,XN.k (k:=Sum.inr (ZO d (i+1))) G (Sk (show rows.length<=8 by rw[L.length,show List.length ({st:=e,wk:=M,ru:=C,tk:=Q,tp:=TP}:Yn).tp=i from lP];lia) ()),?_⟩];erw[⟨TP++[⟨ZO d (i+1),z,cs⟩],_,_,Y3 (l0.trans S) nW.p _,X9 G (S _ _ t0),X9 G (S _ _ s0),X9 G (S _ _ r0),z0.addTp (x:=⟨ZO d (i+1),z,cs⟩) nW G L hv ⟨R,p,l,vs,R,k2,y0 _ _ hl,al.imp λ_ _=>Yq.same y0⟩,?_,λx H=>?_,R⟩];rw[SN,eP,Om,SN];rfl;rcases SI.mp H with H|H;exact oP x H;rw[SG.mp H];exact⟨Mo d (i+1),mz,ok,by show 2<=cs.length;lia,by show cs.length<=6;lia⟩;rintro q o0 ⟨TP,y,T,l0,t0,s0,r0,d0,eP,oP,rfl⟩;rw[en]at eP;exact⟨TP,y,T,l0,t0,s0,r0,d0,eP,oP,R⟩;rintro q o0 ⟨TP,y,T,l0,t0,s0,r0,d0,eP,oP,rfl⟩;sleep 1;erw[⟨_,R,d2 E a _ o0 l0 nW d0 ?_⟩];have lP:=QW eP;have lT:=QW eT;erw[⟨by show 2<=e.length;lia,by show e.length<=5;lia,by show(e.map Z6.nm).Nodup;rw[Z];exact Kr (k:=0) (),oS,by show M.length<=4;lia,λx H=>?_,iW.new (),by show 1<=C.length;lia,by show C.length<=3;lia,by show(C.map Yi.nm).Nodup;rw[eR];exact Kr (),oR,by show Q.length<=2;lia,by show(Q.map WX.nm).Nodup;rw[eT];exact Kr (),oT,by show 1<=TP.length;lia,by show TP.length<=3;lia,by show(TP.map Tp.nm).Nodup;rw[eP];exact Kr (),oP,Zcr eR,Zcr eP⟩];obtain⟨j,hj,ej⟩:=List.mem_iff_getElem.mp H;have hW:=iW j x (by rw[<-ej];exact Sv hj);have hj:j<M.length:=hj;have mem:∀k,k<m->ZO d k∈e.map Z6.nm:=λk hk=>by rw[Z];exact SL.mpr ⟨k,List.mem_range.mpr hk,R⟩
 have ne:ZO d j≠ZO d (j+1):=zS () ();rcases hW.1 with⟨G,L⟩|⟨G,L⟩;exact⟨by rw[G];exact mem _ (),by rw[L];exact mem _ (),by rw[G,L];exact ne,hW.2⟩;exact⟨by rw[G];exact mem _ (),by rw[L];exact mem _ (),by rw[G,L];exact ne.symm,hW.2⟩
def Yl.put{a:NA}(h:Yl t H n a N)(hd:H d=some (.dK I))(n1:a.ds≠d)(n2:a.dr≠d)(i:a.dt≠d)(D:a.dp≠d):Yl t (Za H d o) n a N:=by
 ext⟨⟨J,fs,y,q⟩,ap,⟨r1,E,f⟩,⟨G,M,v⟩,⟨B,u,j⟩,⟨r3,O,L⟩,⟨e,C,c⟩⟩ h;exact⟨⟨J,fs,Qu hd ZI.k y,q⟩,ap,⟨r1,by rwa[Ze n1],f.imp λ_ _=>Y2.put hd ZI.k⟩,⟨G,X9 hd M,v.imp λ_ _=>Y8.put hd ZI.k⟩,⟨B,by rwa[Ze n2],j.imp λ_ _=>XR.put hd ZI.k⟩,⟨r3,by rwa[Ze i],L.imp λ_ _=>Wh.put hd ZI.k⟩,⟨e,by rwa[Ze D],c.imp λ_ _=>Xu.put hd ZI.k⟩⟩
def Yl.thaw{n d:Addr}{a:NA}{N:Yn}{ob:Obj}{c:List (Zn×V)}{o:HO}(h:Yl t H n a N)(hd:H d=some (.frz ob (.dK c))):Yl t (Za H d o) n a N :=
 Yl.keep (λb u e _ _ nf=>by rwa[Ze (λz=>by rw[z,hd]at e;exact nf ob c (Sr e).symm)]) h
structure Ww(H:Hp)(d:Addr)(ob:Obj)(kvs:List (Zn×V))(H':Hp):Prop where
 at_:H d=some (.dK kvs)
 s:Zd (Za H d (.frz ob (.dK kvs))) H'
def Ww.new(ob:Obj)(h:H d=some (.dK f))(s:Zd H i):Ww H d ob f (Za i d (.frz ob (.dK f))):=⟨h,λa o e=>by
 by_cases c:a=d;rw[c,Zj]at e ⊢;exact e;rw[Ze c]at e ⊢;exact s _ _ e⟩
def Ww.same(h:Ww H d ob c e)(s:Zd e f):Ww H d ob c f:=⟨h.at_,h.s.trans s⟩
def Ww.frz{H e:Hp}{d:Addr}{ob:Obj}{c:List (Zn×V)}(h:Ww H d ob c e):e d=some (.frz ob (.dK c)):=h.s _ _ Zj
def Ww.thaw(h:Ww H d ob f i):Zd H (Za i d (.dK f)):=λa o e=>by
 by_cases c:a=d;rw[c,h.at_]at e;rwa[c,Zj];rw[Ze c];exact h.s _ _ (by rwa[Ze c])
def Uy.held(h:Uy H a)(hd:H d=some u):Uy (Za H d o) a:=by
 have k:∀{x},H x=none->Za H d o x=none:=λe=>by rwa[Ze (Zu hd e).symm]
 exact⟨k h.s,k h.w,k h.r,k h.t,k h.p⟩
inductive ZlD(t:Ye)(vs:List V)(H:Hp)(Q:VK)(_e3:XK):Prop|mk (wd:Addr) (a:NA) (W:Yn) (H00:Hp) (_:vs=[.ref wd]) (_:Y9 H wd a W) (_:Mw H00 wd a) (_:QV W) (_:∀n b H',Zd H H'->Yl t H' n b W->Uy H b->Q (.ref n) H')
def ZlE(c:Zv K mg t):Zo P w K mg base Zr 52 t.gJ t.gK ["_law_world_here"] (ZlD t):=by
 erw[c.Zbi.F.ok Vw () λh1 A outer s f0 vs d1 i1 Q h=>?_];ext⟨C,a,W,c1,rfl,hW,nW,ok,v0⟩ h;ext⟨i0,e1,e2⟩ hW.ob;ext⟨Z,a0,o0⟩ hW.st;ext⟨wv,r0,s0⟩ hW.wk;ext⟨rr,b0,p0⟩ hW.ru;ext⟨rt,X,q0⟩ hW.tk;ext⟨rp,S,t0⟩ hW.tp;erw[⟨_,(Zh (ZM 1 Vw.nd (Zec c.ZiT (ZkJ c) (Q.mono ()) R c.Zjn c.Zbn.b .nil Zm)) (Zh (B8 (Xq (Lm (YI Q (pv 0) ZH)) (WJ (n:=2) R (YQ (Z4 2 Vw.nd) (YQ (Z4 3 Vw.nd) WI))) (Zi (Z1 (YO (pv 1) c.Yg c.J2.me (Zca c) (Q.mono ()) c.J2.b .nil Zm (Zp (pv 2) (ZE c.Xz (Zlv c 8) Q Zm (Zk (pv 3))))))))) (Zh (B8 (Xq (Lm (YI Q (pv 0) ZH)) (WJ (n:=2) R (YQ (Z4 2 Vw.nd) (YQ (Z4 4 Vw.nd) WI))) (Zi (Z1 (YO (pv 1) c.Yg c.TV.me (ZkL c) (Q.mono ()) c.TV.b .nil Zm (Yk (pv 2) (Zw ZN (pv 4) Zc) (Zw ZN (pv 4) Zc))))))) (Zh (B8 (Xq (Lm (YI Q (pv 0) ZH)) (WJ (n:=2) R (YQ (Z4 2 Vw.nd) (YQ (Z4 3 Vw.nd) WI))) (Zi (Z1 (YO (pv 1) c.Yg c.J3.me (Zcd c) (Q.mono ()) c.J3.b .nil Zm (Yk (pv 2) (Zw ZN (pv 3) Zc) (Yt Qg R c.X4 X1 (Zk (Zw ZN (pv 3) Zc))))))))) (Zh (B8 (Xq (Lm (YI Q (pv 0) ZH)) (WJ (n:=2) R (YQ (Z4 2 Vw.nd) (YQ (Z4 3 Vw.nd) WI))) (Zi (Z1 (YO (pv 1) c.Yg c.TX.me (ZkO c) (Q.mono ()) c.TX.b .nil Zm (Uw (pv 2) (Zw ZN (pv 3) Zc) (Zw ZN (pv 3) Zc) (Yt Qg R c.X4 X1 (Zk (Zw ZN (pv 3) Zc))))))))) (Zh (Xq (Wo (YI Q (pv 0) ZH)) (WJ (n:=3) R (YQ (Z4 5 Vw.nd) (YQ (Z4 6 Vw.nd) (YQ (Z4 7 Vw.nd) WI)))) (Zi (Z1 (YO (pv 1) c.Yg c.TW.me (Zk5 c) (Q.mono ()) c.TW.b .nil Zm (Yk (pv 5) (pv 6) (pv 7)))))) (Zi (ZA (pv 1))))))))),?_⟩];sleep 7;intro n dx nn O w0;erw[⟨n,f0,R,nn,Y3 (Zx O _) nn _,⟨dx,Zj⟩,λH1 b S1 z0 q=>⟨R,?_⟩⟩];have get:∀{j:Hp} {z:Str} {l:Addr},j C=some (.dK i0)->ZD i0 (Sum.inr z)=some (.ref l)->Yr j C (.str z) (some (.ref l)):=λs' x0=>by rw[<-x0];exact Yr.k (k:=Sum.inr _) s'
 clear nn O w0;erw[⟨a.dr,.dK rr,S1 _ _ b0,.inl ⟨rr,R⟩,λob=>?_⟩];sleep 1;have v:=Ww.new ob b0 S1;have I:=z0.put (o:=.frz ob (.dK rr)) (S1 _ _ b0) (Zu b0 q.s).symm (Zu b0 q.r).symm (Zu b0 q.t).symm (Zu b0 q.p).symm;have H:Za H1 a.dr (.frz ob (.dK rr)) C=some (.dK i0):=by rw[Ze nW.nr];exact S1 _ _ e1
 have Y:=q.held (o:=.frz ob (.dK rr)) b0;generalize Za H1 a.dr (.frz ob (.dK rr))=Hf at v I H ⊢;erw[⟨_,R,C,.ref a.dr,R,get H e2.r,a.dr,ob,rr,R,v.frz,Ln (λi f j=>Ww f0 a.dr ob rr j/\Yl t j n b ⟨[],[],W.ru.take i,[],[]⟩/\∃E B D:Option V,f=[some (.ref C),some (.ref n),E,B,D,none,none,none]) ⟨v,I,_,_,_,R⟩ (λi f j _ h=>h.1.frz) ?_ ?_⟩];rintro i kv p f M g0 gp ⟨T,J,E,B,D,rfl⟩;exists M,p,H4,s4,gp,U;have y:=J.same s4;have u:=T.same s4;ext⟨O,m0,d0,c0⟩ y.ob;obtain⟨x,ex,ek,tp,hT⟩:=p0.get g0;have e:=ok.ro x (SM ex);rw[ek]at U;erw[⟨p,_,R,Zl.of U,R,_,_,R,_,_,R,R,?_⟩];sleep 1;erw[⟨_,R,n,O,_,R,d0,c0.n_add_rule,_,R,_,R,tp,kv.2,x.r,R,(YU.put b0 hT).same u.s,e.2.1,e.2.2.1,e.2.2.2,e.2.2.2,λrb H5 s5 R5=>?_⟩];erw[⟨n,b,_,x,.ref rb,_,R,y.same s5,Y.r,(u.same s5).s,e.1,⟨rb,R,by rw[c.kf];exact R5⟩,e.2,Kj ok.rn ex,?_,λH6 s6 L=>⟨⟨b0,s6⟩,?_,_,_,_,R⟩⟩];show(W.ru.take i).length<6;rw[Sz];have:=ok.r3;lia;rwa[Ob,ex];rintro f H2 ⟨h2,j0,E,B,D,rfl⟩;rw[Oa (by rw[p0.length];exact Sh _)]at j0;erw[⟨h2.frz,?_⟩];have S2:=h2.thaw;replace j0:=j0.thaw (o:=.dK rr) h2.frz;generalize Za H2 a.dr (.dK rr)=H2 at S2 j0 ⊢;clear h2 v I H Y;erw[⟨a.ds,.dK Z,S2 _ _ a0,.inl ⟨Z,R⟩,λob=>?_⟩];sleep 1;have v:=Ww.new ob a0 S2;have I:=j0.put (o:=.frz ob (.dK Z)) (S2 _ _ a0) (Zu a0 q.s).symm (Zu a0 q.r).symm (Zu a0 q.t).symm (Zu a0 q.p).symm;have H:Za H2 a.ds (.frz ob (.dK Z)) C=some (.dK i0):=by rw[Ze nW.ns];exact S2 _ _ e1
 have Y:=q.held (o:=.frz ob (.dK Z)) a0;generalize Za H2 a.ds (.frz ob (.dK Z))=Hf at v I H ⊢;erw[⟨_,R,C,.ref a.ds,R,get H e2.s,a.ds,ob,Z,R,v.frz,Ln (λi f j=>Ww f0 a.ds ob Z j/\Yl t j n b ⟨W.st.take i,[],W.ru,[],[]⟩/\∃E B D:Option V,f=[some (.ref C),some (.ref n),E,B,D,none,none,none]) ⟨v,I,_,_,_,R⟩ (λi f j _ h=>h.1.frz) ?_ ?_⟩];rintro i kv p f M g0 gp ⟨T,J,E,B,D,rfl⟩;exists M,p,H4,s4,gp,U;have y:=J.same s4;have u:=T.same s4;ext⟨O,m0,d0,c0⟩ y.ob;obtain⟨x,ex,ek,r,er,k0⟩:=o0.get g0;have e:=ok.so x (SM ex);have e0:=(u.s) _ _ (XA (o:=.frz ob (.dK Z)) a0 ZI.k k0);rw[ek]at U;erw[⟨p,_,R,Zl.of U,R,_,_,R,_,_,R,R,?_⟩];sleep 1;erw[⟨_,R,n,O,_,R,d0,c0.n_add_stop,_,R,_,R,r,_,0,_,er,R,Zl.of e0,R,_,R,r,_,1,_,er,R,Zl.of e0,R,n,b,_,x,_,R,y,Y,u.s,e.1,e.2.1,e.2.2.1,e.2.2.2,Kj ok.sn ex,?_,λH6 s6 L=>⟨⟨a0,s6⟩,?_,_,_,_,R⟩⟩];show(W.st.take i).length<8;rw[Sz];have:=ok.s5;lia;rwa[Ob,ex];rintro f M ⟨T,J,E,B,D,rfl⟩;rw[Oa (by rw[o0.length];exact Sh _)]at J;erw[⟨T.frz,?_⟩];have S3:=T.thaw;replace J:=J.thaw (o:=.dK Z) T.frz;generalize Za M a.ds (.dK Z)=M at S3 J ⊢;clear T v I H Y;erw[⟨a.dp,.dK rp,S3 _ _ S,.inl ⟨rp,R⟩,λob=>?_⟩];sleep 1;have v:=Ww.new ob S S3;have I:=J.put (o:=.frz ob (.dK rp)) (S3 _ _ S) (Zu S q.s).symm (Zu S q.r).symm (Zu S q.t).symm (Zu S q.p).symm;have H:Za M a.dp (.frz ob (.dK rp)) C=some (.dK i0):=by rw[Ze nW.np];exact S3 _ _ e1
 have Y:=q.held (o:=.frz ob (.dK rp)) S;generalize Za M a.dp (.frz ob (.dK rp))=Hf at v I H ⊢;erw[⟨_,R,C,.ref a.dp,R,get H e2.p,a.dp,ob,rp,R,v.frz,Ln (λi f j=>Ww f0 a.dp ob rp j/\Yl t j n b ⟨W.st,[],W.ru,[],W.tp.take i⟩/\∃E B D:Option V,f=[some (.ref C),some (.ref n),E,B,D,none,none,none]) ⟨v,I,_,_,_,R⟩ (λi f j _ h=>h.1.frz) ?_ ?_⟩];rintro i kv p f M g0 gp ⟨T,J,E,B,D,rfl⟩;exists M,p,H4,s4,gp,U;have y:=J.same s4;have u:=T.same s4;ext⟨O,m0,d0,c0⟩ y.ob;obtain⟨x,ex,ek,r,l,vs,er,k0,hl,al⟩:=t0.get g0;have e:=ok.po x (SM ex);have e0:=(u.s) _ _ (XA (o:=.frz ob (.dK rp)) S ZI.k k0);have y0:=(u.s) _ _ (X9 (o:=.frz ob (.dK rp)) S hl);have a1:Al (Yq H4) vs x.cs:=al.imp λ_ _ h=>(Yq.put (o:=.frz ob (.dK rp)) S ZI.k h).same u.s;rw[ek]at U;erw[⟨p,_,R,Zl.of U,R,_,_,R,_,_,R,R,?_⟩];sleep 1;erw[⟨_,R,n,O,_,R,d0,c0.n_add_trip,_,R,_,R,r,_,0,_,er,R,Zl.of e0,R,_,R,r,_,1,_,er,R,Zl.of e0,R,l,_,R,.inl (Zg.of y0),λl2 g2=>?_⟩];have s5:=Zx g2 (.lst vs);erw[⟨n,b,_,x,l2,vs,_,R,y.same s5,Y.p,(u.same s5).s,Zj,a1.imp λ_ _=>Yq.same s5,e.2.2.1,e.2.2.2.1,e.2.2.2.2,e.1,?_,Kj ok.pn ex,?_,λH6 s6 _ L=>⟨⟨S,s6⟩,?_,_,_,_,R⟩⟩];obtain⟨n0,hy,ey⟩:=SL.mp e.2.1;obtain⟨y',e'⟩:=Kk (nm:=Yi.nm) hy;show(ZQ Yi.nm W.ru x.ru).isSome=true;rw[<-ey,e'];rfl;show(W.tp.take i).length<10;rw[Sz];have:=ok.p3;lia;rwa[Ob,ex];rintro f H4 ⟨u,y,E,B,D,rfl⟩;rw[Oa (by rw[t0.length];exact Sh _)]at y;erw[⟨u.frz,?_⟩];have S4:=u.thaw;replace y:=y.thaw (o:=.dK rp) u.frz;generalize Za H4 a.dp (.dK rp)=H4 at S4 y ⊢;clear u v I H Y;erw[⟨a.dt,.dK rt,S4 _ _ X,.inl ⟨rt,R⟩,λob=>?_⟩];sleep 1;have v:=Ww.new ob X S4;have I:=y.put (o:=.frz ob (.dK rt)) (S4 _ _ X) (Zu X q.s).symm (Zu X q.r).symm (Zu X q.t).symm (Zu X q.p).symm;have H:Za H4 a.dt (.frz ob (.dK rt)) C=some (.dK i0):=by rw[Ze nW.nt];exact S4 _ _ e1
 have Y:=q.held (o:=.frz ob (.dK rt)) X;generalize Za H4 a.dt (.frz ob (.dK rt))=Hf at v I H ⊢;erw[⟨_,R,C,.ref a.dt,R,get H e2.t,a.dt,ob,rt,R,v.frz,Ln (λi f j=>Ww f0 a.dt ob rt j/\Yl t j n b ⟨W.st,[],W.ru,W.tk.take i,W.tp⟩/\∃E B D:Option V,f=[some (.ref C),some (.ref n),E,B,D,none,none,none]) ⟨v,I,_,_,_,R⟩ (λi f j _ h=>h.1.frz) ?_ ?_⟩];rintro i kv p f M g0 gp ⟨T,J,E,B,D,rfl⟩;exists M,p,H4,s4,gp,U;have y:=J.same s4;have u:=T.same s4;ext⟨O,m0,d0,c0⟩ y.ob;obtain⟨x,ex,ek,r,z,er,k0,hz⟩:=q0.get g0;have e:=ok.to x (SM ex);have e0:=(u.s) _ _ (XA (o:=.frz ob (.dK rt)) X ZI.k k0);have b1:=(u.s) _ _ (X9 (o:=.frz ob (.dK rt)) X hz);rw[ek]at U;erw[⟨p,_,R,Zl.of U,R,_,_,R,_,_,R,R,?_⟩];sleep 1;erw[⟨_,R,n,O,_,R,d0,c0.n_add_ticket,_,R,_,R,r,_,0,_,er,R,Zl.of e0,R,_,R,r,_,1,_,er,R,Zl.of e0,R,_,R,r,_,2,_,er,R,Zl.of e0,R,z,_,R,.inl (Zg.of b1),λl2 g2=>?_⟩];have s5:=Zx g2 (.lst (YB x.zs));erw[⟨n,b,_,x,l2,_,R,y.same s5,Y,(u.same s5).s,Zj,e,Kj ok.tn ex,?_,λH6 s6 L=>⟨⟨X,s6⟩,?_,_,_,_,R⟩⟩];show(W.tk.take i).length<3;rw[Sz];have:=ok.t2;lia;rwa[Ob,ex];rintro f H5 ⟨h5,l0,E,B,D,rfl⟩;rw[Oa (by rw[q0.length];exact Sh _)]at l0;erw[⟨h5.frz,?_⟩];have S5:=h5.thaw;replace l0:=l0.thaw (o:=.dK rt) h5.frz;generalize Za H5 a.dt (.dK rt)=H5 at S5 l0 ⊢;clear h5 v I H Y;erw[⟨_,R,C,.ref a.lw,R,get (S5 _ _ e1) e2.w,a.lw,R,⟨_,Zg.of (S5 _ _ r0)⟩,Qc (K:=K) (a:=a.lw) (xs:=wv) (λi f j=>Zd f0 j/\Yl t j n b ⟨W.st,W.wk.take i,W.ru,W.tk,W.tp⟩/\∃v5 v6 v7:Option V,f=[some (.ref C),some (.ref n),E,B,D,v5,v6,v7]) ⟨S5,l0,_,_,_,R⟩ (λi f j _ ⟨s',_⟩=>Zg.of (s' _ _ r0)) ?_ ?_⟩];rintro i f1 f H6 hv ⟨S6,L,v5,v6,v7,rfl⟩;obtain⟨x,ex,p,rfl,hp⟩:=s0.get hv;have e:=ok.wo x (SM ex);ext⟨O,m0,d0,c0⟩ L.ob;have h0:∀z,z∈W.st.map Z6.nm->Yv z/\(ZQ Z6.nm W.st z).isSome=true:=λz hz=>by
  obtain⟨n0,hy,rfl⟩:=SL.mp hz;obtain⟨y',e'⟩:=Kk (nm:=Z6.nm) hy;exact⟨(ok.so n0 hy).1,by rw[e'];rfl⟩
 erw[⟨p,_,R,Zl.of (S6 _ _ hp),R,_,_,R,_,_,R,_,_,R,R,?_⟩];sleep 1;erw[⟨_,R,n,O,_,R,d0,c0.n_add_walk,_,R,_,R,_,R,n,b,_,x,f0,R,L,q,S6,λn0 hy=>?_,(h0 _ e.1).1,(h0 _ e.2.1).1,(h0 _ e.1).2,(h0 _ e.2.1).2,e.2.2.1,ok.wn i x ex,e.2.2.2.1,e.2.2.2.2,?_,λH7 s7 u0=>⟨s7,?_,_,_,_,R⟩⟩];have hy:=ok.wo n0 (List.mem_of_mem_take hy);exact⟨(h0 _ hy.1).1,(h0 _ hy.2.1).1⟩;show(W.wk.take i).length<12;rw[Sz];have:=ok.w4;lia;rwa[Ob,ex];rintro f H6 ⟨S6,L,v5,v6,v7,rfl⟩;rw[Oa (by rw[s0.length];exact Sh _)]at L;exact⟨_,R,v0 n b H6 S6 L q⟩
def Ui(W:Yn)(y:Tp):Zt:=⟨y.nm,((ZQ Yi.nm W.ru y.ru).map Yi.r).getD .always,y.cs⟩
def YM(W:Yn):List Zt:=W.tp.map (Ui W)
structure D3(H:Hp)(wd:Addr)(W:Yn):Prop where
 ex:∃kvs dr dp rr rp,H wd=some (.dK kvs)/\ZD kvs (Sum.inr (ON "rules"))=some (.ref dr)/\ZD kvs (Sum.inr (ON "trips"))=some (.ref dp)/\Rd H dr (.dK rr)/\Rd H dp (.dK rp)/\Al (XC H) rr W.ru/\Al (Xw H) rp W.tp
def D3.same{W:Yn}(s:Zd H e)(h:D3 H c W):D3 e c W:=by
 ext⟨j,dr,dp,y,rp,v,D,B,u,C,i,f⟩ h.ex;exact⟨j,dr,dp,y,rp,s _ _ v,D,B,u.imp (s _ _) λ⟨o,q⟩=>⟨o,s _ _ q⟩,C.imp (s _ _) λ⟨o,q⟩=>⟨o,s _ _ q⟩,i.imp λ_ _=>XC.same s,f.imp λ_ _=>Xw.same s⟩
structure QY(H:Hp)(wd:Addr)(x:Zt)(ru:Str):Prop where
 ex:∃kvs dr dp rr rp r l vs v tp,H wd=some (.dK kvs)/\ZD kvs (Sum.inr (ON "rules"))=some (.ref dr)/\ZD kvs (Sum.inr (ON "trips"))=some (.ref dp)/\Rd H dr (.dK rr)/\Rd H dp (.dK rp) /\
  ZD rp (Sum.inr x.nm)=some (.ref r)/\H r=some (.tup [.str ru,.ref l])/\H l=some (.lst vs)/\Al (Yq H) vs x.cs/\ZD rr (Sum.inr ru)=some v/\YU tp H v x.r
def QY.same(s:Zd H e)(h:QY H c x ru):QY e c x ru:=by
 ext⟨B,dr,dp,I,rp,r,l,j,v,tp,C,G,M,D,L,u,f,J,E,i,y⟩ h.ex;exact⟨B,dr,dp,I,rp,r,l,j,v,tp,s _ _ C,G,M,D.imp (s _ _) λ⟨o,q⟩=>⟨o,s _ _ q⟩,L.imp (s _ _) λ⟨o,q⟩=>⟨o,s _ _ q⟩,u,s _ _ f,s _ _ J,E.imp λ_ _=>Yq.same s,i,y.same s⟩
theorem zY{c e:Type}{nm:c->Str}{f:c->e}{nm':e->Str}(h:∀x,nm' (f x)=nm x)(z:Str):∀xs:List c,ZQ nm' (xs.map f) z=(ZQ nm xs z).map f
 |[]=>rfl
 |x::r=>by
  unfold ZQ;rw[SO,List.find?_cons,List.find?_cons,h];cases decide (nm x=z)with
  |true=>rfl
  |false=>exact zY h z r
def D3.trip{W:Yn}(h:D3 H v W)(ok:QV W){x:Zt}(e:ZQ Zt.nm (YM W) z=some x):∃ru,QY H v x ru/\x.Ok/\x.nm=z/\2<=x.cs.length/\Vj (W.st.map Z6.nm) x.cs:=by
 ext⟨a0,dr,dp,G,rp,T,M,L,e4,I,Z,O⟩ h.ex;unfold YM at e;rw[zY (nm:=Tp.nm) (f:=Ui W) (nm':=Zt.nm) (λ_=>R)]at e;obtain⟨y,j,rfl⟩:=Oh.mp e;have c:=ok.po y (C8 j).1;obtain⟨u,C,eu⟩:=SL.mp c.2.1;have q:ZQ Yi.nm W.ru y.ru=some u:=by rw[<-eu];exact Mr ok.rn C
 obtain⟨i,S,_,r,l,X,E,hr,J,Q⟩:=(Xr (λi x (h:Xw H i x)=>h.1) O z).2 y j;obtain⟨B,U,_,tp,Y⟩:=(Xr (λi x (h:XC H i x)=>h.1) Z y.ru).2 u q;have D:=(C8 j).2;erw[⟨y.ru,⟨a0,dr,dp,G,rp,r,l,X,B.2,tp,T,M,L,e4,I,?_,hr,J,Q,U,?_⟩,⟨?_,c.2.2.2.2⟩,D,c.2.2.2.1,c.2.2.1⟩];show ZD rp (Sum.inr y.nm)=_;rw[D,S,E];show YU tp H B.2 (((ZQ Yi.nm W.ru y.ru).map Yi.r).getD .always);rwa[q];show R3.Ok (((ZQ Yi.nm W.ru y.ru).map Yi.r).getD .always);rw[q];exact(ok.ro u C).2
def XS(H:Hp)(c:List (List Zn×V))(e:ZX):Prop:=∀(z:Str) (day:Nat),match e z day with
 |none=>ZD c (ZU day z)=none
 |some none=>ZD c (ZU day z)=some .non
 |some (some f)=>∃l,ZD c (ZU day z)=some (.ref l)/\H l=some (.lst (f.map λn=>V.int (n:Nat)))
def XS.keep(k:∀l xs,H l=some (.lst xs)->j l=some (.lst xs))(h:XS H f c):XS j f c:=λz i=>by
 have:=h z i;revert this;cases c z i with
 |none=>exact id
 |some o=>cases o with
  |none=>exact id
  |some q=>exact λ⟨l,e,h⟩=>⟨l,e,k _ _ h⟩
def XS.same(s:Zd H e)(h:XS H c f):XS e c f:=h.keep λ_ _=>s _ _
inductive Zcs(vs:List V)(H:Hp)(Q:VK)(_e3:XK):Prop|mk (wd g:Addr) (day:Nat) (x:Zt) (ru:Str) (kvs:List (List Zn×V)) (GF:ZX) (_:vs=[.ref wd,.ref g,.str x.nm,.int day]) (_:QY H wd x ru) (_:x.Ok) (_:H g=some (.dT kvs)) (_:XS H kvs GF) (_:(∀ls,GF x.nm day=some (some ls)->ls.length=x.cs.length)) (_:(Wi x (GF x.nm day) day=none->∀H',Zd H H'->Q .non H')) (_:∀ms,Wi x (GF x.nm day) day=some ms->∀l vs H',Zd H H'->H l=none->H' l=some (.lst vs)->Al (X5 H') vs ms->Q (.ref l) H')
def ZlF(y:Zv K mg t):Zo P w K mg base Zr 12 t.gN t.gO ["_law_world_here","_law_gaps","_law_trip","_law_day"] Zcs:=by
 erw[y.Zbj.F.ok UV () λd1 A outer s m0 v a1 f1 B a0=>?_];ext⟨wd,g,e,x,ru,f0,H,rfl,hT,c0,hg,gp,w0,q1,q2⟩ a0;ext⟨wk,dr,dp,rr,rp,r,E,G,i0,tp,e1,e2,e3,e4,e5,e6,e7,S,e9,n0,y0⟩ hT.ex;have b1:=e9.length;have l6:=c0.len;erw[⟨_,(Zh (MP (YI B (YI B (pv 0) ZH) (pv 2)) (WJ (n:=2) R (YQ (Z4 4 UV.nd) (YQ (Z4 5 UV.nd) WI)))) (Zh (ZM 6 UV.nd (Ny (Xk B) (pv 1) (Yp (Zp (pv 3) (pv 2))) (Zf Xj (Z7 (Zk Zc)) (ZP Xt y.Xi Xh (Zk (pv 5)))) ⟨R,R,R,R⟩)) (Zh (ZK (PW.pt (Uo (UF (Kz (pv 6))) (Um (Yz (Yy (ZE y.WH (Zcq y 8) B Zm (Zp (YI B (YI B (pv 0) ZH) (pv 4)) (pv 3)))))))) (Zi (ZA Ul)) ZL) (Zh (ZM 7 UV.nd (Z7 Xs)) (Zh (Xq (Uq R y.VU (Zk (ZP Xt y.Xi Xh (Zk (pv 5))))) (Z4 8 UV.nd) (Zh (MP (Zw YC (pv 5) (pv 8)) (WJ (n:=3) R (YQ (Z4 9 UV.nd) (YQ (Z4 10 UV.nd) (YQ (Z4 11 UV.nd) WI))))) (Zi (Z1 (V7 PySem.F.plainAttrs_list PySem.F.slot_list_append PySem.F.type_list_append Us (pv 7) (Zk (Yp (Yk (pv 9) (Zf Z9 (Zf Z9 (Zf VH Zc (pv 3)) (pv 10)) (Zw YC (pv 6) (pv 8))) (Zf Z9 (Zf Z9 (Zf VH Zc (pv 3)) (pv 11)) (Zw YC (pv 6) (pv 8))))))))))) (Zi (ZA (pv 7)))))))),?_⟩];sleep 6;erw[⟨_,R,wd,.ref dp,R,by rw[<-e3];exact Yr.k (k:=Sum.inr (ON "trips")) e1,_,R,dp,.ref r,R,.inl ⟨rp,Sum.inr x.nm,e5,R,e6.symm⟩,r,_,R,Zl.of e7,R,_,_,R,_,_,R,R,?_⟩];erw[⟨_,R,g,R,.inr ⟨f0,.inl hg⟩,_,R,_,R,zL9 R,λpk gk=>?_⟩];exists m0,pk,H1,s1,gk,c1;erw[⟨zL9 R,λp0 g0=>?_⟩];exists H1,p0,H2,s2,g0,c2;have S2:=s1.trans s2;erw[⟨_,R,E,_,R,.inl (Zg.of (S2 _ _ S)),p0,((G.length:Nat):Int),_,R,R,c2,(),(),by show 1*_<=sizeLine;exact Si (show _<=6 by lia) (),λpr gr=>?_⟩];rw[show(List.replicate ((G.length:Nat):Int).toNat [V.int 0]).flatten=(List.replicate x.cs.length 0).map λn:Nat=>V.int (n:Nat) by rw[show((G.length:Nat):Int).toNat=x.cs.length by lia];exact D2 _ 0];exists H2,pr,H3,s3,gr,c3;have u:=S2.trans s3;erw[⟨_,Yr.t (k:=ZU e x.nm) (u _ _ hg) ((s2.trans s3) _ _ c1),?_⟩];have I:=gp.same u x.nm e;have v0:H x.nm e=some none/\ZD f0 (ZU e x.nm)=some .non\/H x.nm e≠some none/\∃h,(ZD f0 (ZU e x.nm)).getD (.ref pr)=.ref h/\H3 h=some (.lst ((Xv x (H x.nm e)).map λn=>V.int (n:Nat))):=by
  revert I;cases H x.nm e with
  |none=>exact λI=>.inr ⟨(),pr,by rw[I];rfl,c3⟩
  |some o=>cases o with
   |none=>exact λI=>.inl ⟨R,I⟩
   |some ls=>exact λ⟨h,s0,a0⟩=>.inr ⟨(),h,by rw[s0];rfl,a0⟩
 rcases v0 with⟨hn,X⟩|⟨hn,h,X,b0⟩;rw[X];exact⟨_,R,_,R,Z3 (SS R) (q1 (by unfold Wi;rw[hn];simp) H3 u)⟩;rw[X];erw[⟨_,R,_,R,Zq (by rw[SU (show ¬ V.ref h=V.non from λz=>nomatch z)];lia) ?_⟩];erw[⟨_,R,wd,.ref dr,R,by rw[<-e2];exact Yr.k (k:=Sum.inr (ON "rules")) (u _ _ e1),_,R,dr,i0,R,.inl ⟨rr,Sum.inr ru,e4.imp (u _ _) λ⟨o,r0⟩=>⟨o,u _ _ r0⟩,R,n0.symm⟩,_,R,tp,i0,x.r,e,R,y0.same u,c0.r.1,c0.r.2.2,λH4 s4=>⟨_,R,?_⟩⟩];have O:=u.trans s4;cases k0:x.r.runs e with
 |false=>exact Z3 () (q1 (by unfold Wi;rw[k0,SX SR]) _ O)
 |true =>
  erw[Zq () ⟨zL9 R,λq T=>?_⟩];exists H4,q,H5,s5,T,c5;have S5:=O.trans s5;have nf:=O.free T;have lm:=Kn w0;generalize hL:Xv x (H x.nm e)=j at b0 lm;have o0:=s5 _ _ (s4 _ _ b0);have x0:h≠q:=Zu (s4 _ _ b0) T;have h1:E≠q:=Zu (O _ _ S) T;have q3:=q2 _ (by unfold Wi;rw[k0,SY R,SX hn,hL]);clear q2 q1;refine⟨_,R,E,_,R,.inl (Zg.of (S5 _ _ S)),_,R,(),(),UH (λi Y M=>∃(v:List V) (v8 U d0 Z:Option V),Zd m0 M/\M q=some (.lst v)/\M h=some (.lst (j.map λn=>V.int (n:Nat)))/\Al (X5 (wo M q)) v ((Y1 (1440*(e:Nat)) x.cs j).take i)/\Y=[some (.ref wd),some (.ref g),some (.str x.nm),some (.int e),some (.str ru),some (.ref E),some (.ref h),some (.ref q),v8,U,d0,Z])
   ⟨[],_,_,_,_,S5,c5,o0,.nil,R⟩ ?_ ?_⟩
  rintro i Y H6 hi ⟨v,v8,U,d0,Z,J,D,Q,C,rfl⟩;sleep 102;have j0:i<G.length:=by lia
  obtain⟨c,ec,pc,ep,q0⟩:=e9.get (Sv j0);have l0:i<j.length:=by lia
  have z0:YP G (0+(i:Int))=some (.ref pc):=by rw[Int.zero_add,<-ep];exact XZ (Sv j0)
  have h0:YP (j.map λn=>V.int (n:Nat)) (0+(i:Int))=some (.int (j[i]:Nat)):=by rw[Int.zero_add];exact XZ (by rw[Oc,Sv l0];rfl)
  erw[⟨_,R,_,R,E,_,_,_,R,R,Zg.of (J _ _ S),z0,pc,_,R,Zl.of (J _ _ q0),R,_,_,R,_,_,R,_,_,R,R,?_⟩];erw[⟨_,R,.inl ⟨R,_,Zg.of D⟩,_,R,_,R,_,_,R,R,.inl ⟨(),()⟩,_,R,_,_,R,R,_,R,_,R,h,_,_,_,R,R,Zg.of Q,h0,_,_,R,R,_,R,_,_,R,R,.inl ⟨(),()⟩,_,R,_,_,R,R,_,R,_,R,h,_,_,_,R,R,Zg.of Q,h0,_,_,R,R,zL9 R,λp g6=>?_⟩];exists H6,p,H7,L,g6,c7;have u0:=C.length;have t0:p≠q:=(Zu D g6).symm;erw[⟨q,_,_,R,R,L _ _ D,Sk (show v.length<=6 by rw[u0,Sz];lia) (),?_⟩];erw[⟨v++[.ref p],_,_,_,_,Y3 (J.trans L) nf _,Zj,by rw[Ze x0];exact L _ _ Q,?_,R⟩];have em:(Y1 (1440*(e:Int)) x.cs j)[i]? = some (Qt (1440*(e:Nat)) c j[i]):=by
   unfold Y1;rw[List.getElem?_zipWith,ec,Sv l0]
  rw[Ob,em,B2];erw[(C.imp λ_ _=>X5.same (QJ (l:=q) L)).snoc ⟨p,R,Zy ?_ t0⟩];rw[c7];show some (HO.tup [.str c.st,.int (1440*(e:Int)+((c.ar:Nat):Int)+((j[i]:Nat):Int)),.int (1440*(e:Int)+((c.lv:Nat):Int)+((j[i]:Nat):Int))])=some (.tup [.str c.st,.int (1440*(e:Int)+((j[i]:Nat):Int)+((c.ar:Nat):Int)),.int (1440*(e:Int)+((j[i]:Nat):Int)+((c.lv:Nat):Int))]);rw[Int.add_right_comm (1440*(e:Int)) ((c.ar:Nat):Int),Int.add_right_comm (1440*(e:Int)) ((c.lv:Nat):Int)];rintro Y H6 ⟨v,v8,U,d0,Z,J,D,Q,C,rfl⟩;rw[Oa (by unfold Y1;rw[List.length_zipWith];lia)]at C;exact⟨_,R,q3 q v H6 J nf D (C.imp λ_ _=>X5.same WP)⟩
def wl(b:Bool)(w:Str):List V:=match b with
 |true=>[.str w]
 |false=>[]
def D4(b:Bool)(w:Str):(wl b w).length<=1:=by
 cases b;exact Sl _;exact Sh _
def D5(t:TE)(e:St)(G:Hp->Prop)(L:List V):Prop:=∀H Q,G H->(∀p c,Zd H c->c p=some (.lst L)->Q (.ref p) c)->t e H Q
def Ks{e f:List V}(y:∀H j,Zd H j->G H->G j)(D:e.length+f.length<=sizeLine)(h1:D5 h c G e)(q:D5 t2 c G f):D5 (W0 KS h t2) c G (e++f):=λH Q g k=>h1 H _ g λp1 u i B=>q u _ (y _ _ i g) λv I s2 E =>
 ⟨p1,v,_,_,R,R,s2 _ _ B,E,D,λp C=>k p _ ((i.trans s2).trans (Zx C _)) Zj⟩
def Zct(e:c[i]? = some (some (.ref l)))(f:∀H,G H->H l=some (.lst L)):D5 (Qa i) c G L:=λH Q g k=>⟨_,e,k l H (Zd.refl H) (f H g)⟩
def Kt{w:Str}(h:e[i]? = some (some (.ref a)))(q:∀H,G H->H a=some (Wq a (.ref C)))(ex:XI c C)(u:W.kitOne c (.ref C) (.ref D)=some b) :
  D5 (W0 F1 (E7 (Yj (tC (.str w)) Y5)) (V6 (λxs H Q=>∃b,xs=[.bl b]/\Q (.int (if b=true then 1 else 0)) H) (Yj (V6 (Lo c) (Yj (Qa i) (Yj (tC (.ref D)) Y5))) Y5))) e G (wl b w):=λH Q g k=>by
 erw[⟨zL9 R,λp1 g1=>?_⟩];have f:=Zx g1 (.lst [.str w]);erw[⟨_,h,a,C,D,b,R,f _ _ (q H g),ex,u,b,R,p1,_,_,R,R,Zj,?_,?_,?_,λj g2=>?_⟩];cases b<;>decide
 cases b<;>decide
 cases b;show 1*0<=sizeLine;lia;show 1*1<=sizeLine;lia;erw[k j _ (f.trans (Zx g2 _)) ?_];rw[Zj];cases b<;>rfl
def ZlG{w:Str}(h:e[i]? = some (some (.ref a)))(q:∀H,G H->H a=some (Wq a (.ref C)))(ex:XI c C)(u:W.kitOne c (.ref C) (.type "ValueError")=some true) :
  D5 (W0 F1 (E7 (Yj (tC (.str w)) Y5)) (V6 (λxs H Q=>∃b,xs=[.bl b]/\Q (.int (if b=true then 1 else 0)) H) (Yj (yK (V6 (qS c) (Yj (Qa i) (Yj (tC (.ty "ValueError")) Y5)))) Y5))) e G []:=λH Q g k=>by
 erw[⟨zL9 R,λp1 g1=>?_⟩];have f:=Zx g1 (.lst [.str w]);erw[⟨_,h,a,C,"ValueError",true,R,f _ _ (q H g),ex,u,_,R,_,R,p1,_,_,R,R,Zj,(),(),by show 1*0<=sizeLine;lia,λj g2=>?_⟩];erw[k j _ (f.trans (Zx g2 _)) ?_];rw[Zj];rfl
def ZlH(c:Zv K mg t)(e:Wn):W.exmOne K (.ref (e.cls t)) (.ref t.JF)=some true:=by
 cases e with
 |run=>exact c.Zjr
 |calls=>exact c.Zjw
 |trip=>exact c.ZjB
def ZlI(c:Zv K mg t)(e:Wn):XI K (e.cls t):=by
 cases e with
 |run=>exact c.Zjo
 |calls=>exact c.Zjt
 |trip=>exact c.Zjy
def ZlJ(c:Zv K mg t)(e:Wn):W.kitOne K (.ref (e.cls t)) (.type "ValueError")=some true:=by
 cases e with
 |run=>exact c.Zjq
 |calls=>exact c.Zjv
 |trip=>exact c.ZjA
def Wn.is(a:Wn):Wn->Bool
 |.run=>(match a with|.run=>true|_=>false)
 |.calls=>(match a with|.calls=>true|_=>false)
 |.trip=>(match a with|.trip=>true|_=>false)
def kts(e:Zv K mg t)(c:Wn):KX K (c.cls t) [(t.JG,false),(t.JH,false),(t.JI,false),(t.JJ,false),(t.JK,false),(t.JL,false),(t.JM,false),(t.JN,false),(t.VT,c.is .trip),(t.JO,false),(t.Vx,c.is .calls),(t.JP,false),(t.WR,c.is .run),(t.JQ,false),(t.JR,false),(t.JT,false),(t.JS,false)]:=by
 cases c with
 |run=>exact e.Zjp
 |calls=>exact e.Zju
 |trip=>exact e.Zjz
def QZ{E : Addr}{L:List V}(J:v[2]? = some (some (.ref u)))(B:v[1]? = some (some (.ref a)))(ex:XI e C)(k1:W.kitOne e (.ref C) (.ref D)=some j)(k2:W.kitOne e (.ref C) (.ref E)=some f)(M:L.length<=n)(hn:n<=100)(y:H a=some (Wq a (.ref C)))(I:H u=some (.lst L))
  (h:∀p c,Zd H c->c a=some (Wq a (.ref C))->c p=some (.lst (L++wl j i++wl f q))->(L++wl j i++wl f q).length<=n+2->Q (.ref p) c) :
  W0 KS (W0 KS (Qa 2) (W0 F1 (E7 (Yj (tC (.str i)) Y5)) (V6 (λxs H Q=>∃b,xs=[.bl b]/\Q (.int (if b=true then 1 else 0)) H) (Yj (V6 (Lo e) (Yj (Qa 1) (Yj (tC (.ref D)) Y5))) Y5)))) (W0 F1 (E7 (Yj (tC (.str q)) Y5)) (V6 (λxs H Q=>∃b,xs=[.bl b]/\Q (.int (if b=true then 1 else 0)) H) (Yj (V6 (Lo e) (Yj (Qa 1) (Yj (tC (.ref E)) Y5))) Y5))) v H Q:=by
 have T:=D4 j i;have O:=D4 f q;have S:sizeLine ≥ 200:=by lia
 erw[Ks (G:=λH=>H a=some (Wq a (.ref C))/\H u=some (.lst L)) (λ_ _ s g=>⟨s _ _ g.1,s _ _ g.2⟩) (by rw[Sw];lia) (Ks (λ_ _ s g=>⟨s _ _ g.1,s _ _ g.2⟩) () (Zct J (λ_ g=>g.2)) (Kt B (λ_ g=>g.1) ex k1)) (Kt B (λ_ g=>g.1) ex k2) H _ ⟨y,I⟩ λp c s k=>h p c s (s _ _ y) k ?_];rw[Sw,Sw];lia
inductive Zcu(t:Ye)(P:Program)(w:World)(K:OA)(mg:Oz)(base:Heap)(vs:List V)(H:Hp)(Q:VK)(_e3:XK):Prop|mk (f:Addr) (Wc:VK->XK->Prop) (TOLD:V->Hp->Prop) (REF:Wn->Hp->Prop) (_:vs=[.ref f]) (_:NF P w K mg base 20 f H Wc) (_:(∀Q1 E1,(∀v H',TOLD v H'->Q1 v H')->(∀wd H',REF wd H'->E1 (.ref (wd.cls t)) none H')->Wc Q1 E1)) (_:(∀v H' H'' p,TOLD v H'->Zd H' H''->H'' p=some (.tup [.str (ON "told"),v])->Q (.ref p) H'')) (_:(∀wd H' H'',REF wd H'->Zd H' H''->Q (.str wd.txt) H''))
def MA(c:Zv K mg t):Zo P w K mg base Zr 22 t.gL t.gM ["_law_call"] (Zcu t P w K mg base):=by
 erw[c.Vz.F.ok Uf () λy0 A outer s H vs Q z0 hr h=>?_];ext⟨k0,Wc,x0,w0,rfl,hC,hW,q1,v⟩ h;erw[⟨_,(Zi (ZeQ (i:=1) ⟨R,R⟩ R Uf.nd R R R c.Zi8 (λpins Kx=>(Zi (ZA (Yp (Zp ZH (show PE _ _ (uY P w K mg base 20 0 λb0 _ H=>Kx b0 H)from ZgK (x := "_law_call") (k:=20) (i:=0) R (Or.inl R) (hr.mono (j:=20) ()) ZeO)))))) (λa=>(Zh (ZM 2 Uf.nd (Zf XH (Zf Xj (Z7 (Zk ZH)) (Yt Wd R c.X3 X0 (Zk (ZP (Wt (K:=K)) c.YW YV (Zp (pv 1) (Wb R c.Zi9)))))) (Zf Xj (Z7 (Zk ZH)) (Yt Wd R c.X3 X0 (Zk (ZP (Wt (K:=K)) c.YW YV (Zp (pv 1) (Wb R c.Zja)))))))) (Zh (ZM 2 Uf.nd (Zf XH (Zf XH (pv 2) (Zf Xj (Z7 (Zk ZH)) (Yt Wd R c.X3 X0 (Zk (ZP (Wt (K:=K)) c.YW YV (Zp (pv 1) (Wb R c.Zjb))))))) (Zf Xj (Z7 (Zk ZH)) (Yt Wd R c.X3 X0 (Zk (ZP (Wt (K:=K)) c.YW YV (Zp (pv 1) (Wb R c.Zjc)))))))) (Zh (ZM 2 Uf.nd (Zf XH (Zf XH (pv 2) (Zf Xj (Z7 (Zk ZH)) (Yt Wd R c.X3 X0 (Zk (ZP (Wt (K:=K)) c.YW YV (Zp (pv 1) (Wb R c.Zjd))))))) (Zf Xj (Z7 (Zk ZH)) (Yt Wd R c.X3 X0 (Zk (ZP (Wt (K:=K)) c.YW YV (Zp (pv 1) (Wb R c.Zje)))))))) (Zh (ZM 2 Uf.nd (Zf XH (Zf XH (pv 2) (Zf Xj (Z7 (Zk ZH)) (Yt Wd R c.X3 X0 (Zk (ZP (Wt (K:=K)) c.YW YV (Zp (pv 1) (Wb R c.Zjf))))))) (Zf Xj (Z7 (Zk ZH)) (Yt Wd R c.X3 X0 (Zk (ZP (Wt (K:=K)) c.YW YV (Zp (pv 1) (Wb R c.Zjg)))))))) (Zh (ZM 2 Uf.nd (Zf XH (Zf XH (pv 2) (Zf Xj (Z7 (Zk ZH)) (Yt Wd R c.X3 X0 (Zk (ZP (Wt (K:=K)) c.YW YV (Zp (pv 1) (Wb R c.Zbv))))))) (Zf Xj (Z7 (Zk ZH)) (Yt Wd R c.X3 X0 (Zk (ZP (Wt (K:=K)) c.YW YV (Zp (pv 1) (Wb R c.Zjh)))))))) (Zh (ZM 2 Uf.nd (Zf XH (Zf XH (pv 2) (Zf Xj (Z7 (Zk ZH)) (Yt Wd R c.X3 X0 (Zk (ZP (Wt (K:=K)) c.YW YV (Zp (pv 1) (Wb R c.Zbw))))))) (Zf Xj (Z7 (Zk ZH)) (Yt Wd R c.X3 X0 (Zk (ZP (Wt (K:=K)) c.YW YV (Zp (pv 1) (Wb R c.Zji)))))))) (Zh (ZM 2 Uf.nd (Zf XH (Zf XH (pv 2) (Zf Xj (Z7 (Zk ZH)) (Yt Wd R c.X3 X0 (Zk (ZP (Wt (K:=K)) c.YW YV (Zp (pv 1) (Wb R c.zI))))))) (Zf Xj (Z7 (Zk ZH)) (Yt Wd R c.X3 X0 (Zk (ZP (Wt (K:=K)) c.YW YV (Zp (pv 1) (Wb R c.Zjj)))))))) (Zh (ZM 2 Uf.nd (Zf XH (Zf XH (pv 2) (Zf Xj (Z7 (Zk ZH)) (Yt Wd R c.X3 X0 (Zk (ZP (Wt (K:=K)) c.YW YV (Zp (pv 1) (Wb R c.Zjk))))))) (Zf Xj (Z7 (Zk ZH)) (Yt Wd R c.X3 X0 (Zk (ZP (Wt (K:=K)) c.YW YV (Zp (pv 1) (Wb R c.Zjm)))))))) (Zh (ZM 2 Uf.nd (Zf XH (Zf XH (pv 2) (Zf Xj (Z7 (Zk ZH)) (Yt Wd R c.X3 X0 (Zk (ZP (Wt (K:=K)) c.YW YV (Zp (pv 1) (Wb R c.Zjl))))))) (Zf Xj (Z7 (Zk ZH)) (Yt Wd R c.X3 X0 (Zk (yL (ZP (Zhs (K:=K)) c.YW YV (Zp (pv 1) (Vr R c.Zii Zif))))))))) (Zi (ZA (Q4 (Ys YZ (ZP (show YT _ (.builtin "len") (λxs H Q=>∃p y,xs=[V.ref p]/\(Zg K H p y\/Zl K H p y)/\Q (V.int ↑y.length) H)from Xt) c.Xi Xh (Zk (pv 2))) Zc) (Zw (show VJ _ (M0 K)from YC) (pv 2) Zc) ZH))))))))))))))),?_⟩];sleep 1;erw[⟨k0,Wc,R,hC,hW _ _ (λe0 q hT=>⟨zL9 R,λp hp=>q1 e0 q _ p hT (Zx hp _) Zj⟩) (λf q hR=>⟨ZlH c f,λa ha=>?_⟩)⟩];sleep 10;have J:=Zx ha (Wq a (.ref (f.cls t)));have e:=@Zj q a (Wq a (.ref (f.cls t)));have v:=λm0=>v f q m0 hR;have ex:=ZlI c f;have C:=kts c f;dsimp only[KX]at C;ext⟨r0,h0,l0,g0,n0,d0,q0,u0,v0,p0,a0,t0,o0,c0,i0,j0,f0,_⟩ C;generalize Za q a (Wq a (.ref (f.cls t)))=H0 at J e ⊢;have room:∀m,m<=100->m<=sizeLine:=λm h=>Si h ();erw[Ks (G:=λH=>H a=some (Wq a (.ref (f.cls t)))) (λ_ _ s g=>s _ _ g) (room _ (by have h1:=D4 false (ON "clock");have h2:=D4 false (ON "days");lia)) (Kt (w:=ON "clock") (i:=1) R (λ_ g=>g) ex r0) (Kt (w:=ON "days") (i:=1) R (λ_ g=>g) ex h0) H0 _ e λp1 H1 S E=>?_];have e:=S _ _ e;have l1:(wl false (ON "clock")++wl false (ON "days")).length<=2:=by lia
 have S1:=J.trans S;generalize e1:(wl (false) (ON "clock")++wl (false) (ON "days"))=L1 at E l1;erw[QZ R R ex l0 g0 l1 () e E λp2 H2 s2 e k2 l2=>?_];have S2:=S1.trans s2;generalize e2:L1++_++_=L2 at k2 l2;erw[QZ R R ex n0 d0 l2 () e k2 λp3 H3 s3 e L I=>?_];have S3:=S2.trans s3;generalize e3:L2++_++_=L3 at L I;erw[QZ R R ex q0 u0 I () e L λp4 H4 s4 e D T=>?_];have S4:=S3.trans s4;generalize e4:L3++_++_=L4 at D T;erw[QZ R R ex v0 p0 T () e D λp5 H5 s5 e k5 M=>?_];have S5:=S4.trans s5;generalize e5:L4++_++_=L5 at k5 M;erw[QZ R R ex a0 t0 M () e k5 λp6 H6 s6 e X B=>?_];have S6:=S5.trans s6;generalize e6:L5++_++_=L6 at X B;erw[QZ R R ex o0 c0 B () e X λp7 H7 s7 e O Y=>?_];have S7:=S6.trans s7;generalize e7:L6++_++_=L7 at O Y;erw[QZ R R ex i0 j0 Y () e O λp8 H8 s8 e Z l8=>?_];have S8:=S7.trans s8;generalize e8:L7++_++_=U at Z l8;erw[Ks (G:=λH=>H a=some (Wq a (.ref (f.cls t)))/\H p8=some (.lst U)) (λ_ _ s g=>⟨s _ _ g.1,s _ _ g.2⟩) (room _ (by rw[Sw];have h1:=D4 (false) (ON "traveller");have h3:([]:List V).length=0:=rfl;lia)) (Ks (λ_ _ s g=>⟨s _ _ g.1,s _ _ g.2⟩) (room _ (by have h1:=D4 (false) (ON "traveller");lia)) (Zct R (λ_ g=>g.2)) (Kt (w:=ON "traveller") (i:=1) R (λ_ g=>g.1) ex f0)) (ZlG (w:=ON "bare") (i:=1) R (λ_ g=>g.1) ex (ZlJ c f)) H8 _ ⟨e,Z⟩ λp9 H9 s9 u=>?_];have S9:=S8.trans s9;generalize e9:U++wl (false) (ON "traveller")++([]:List V)=L9 at u;have eL:L9=[.str f.txt]:=by
  rw[<-e9,<-e8,<-e7,<-e6,<-e5,<-e4,<-e3,<-e2,<-e1];cases f<;>rfl
 rw[eL]at u;erw[⟨_,R,p9,_,R,.inl (Zg.of u),R,_,R,Z3 (SS R) ?_⟩];exact⟨_,R,p9,_,0,_,R,R,Zg.of u,R,v H9 S9⟩
structure Rw where
 d:Nat
 z:Str
 o:Option (List Nat)
def YF:Option (Option (List Nat))->Option (Option (List Nat))
 |some (some ls)=>if (ls.any λl=>decide (0<l))=true then some (some ls)else none
 |o=>o
def Uz(d:Nat)(z:Str):List (Sum Int (List Nat)):=[Sum.inl (d:Nat),Sum.inr z.cps.toList]
def Zcv(e:Uz d z=Uz d' f):d=d'/\z=f:=by
 unfold Uz at e;injection e with h c;injection c with c _;have h:=Sum.inl.inj h;have c:=Sum.inr.inj c;cases z with|mk a=>cases f with|mk b =>
 have:a=b:=Array.toList_inj.mp c;exact⟨(),by rw[this]⟩
structure UA(KF:ZX)(S:List Rw):Prop where
 m:∀r,r∈S↔YF (KF r.z r.d)=some r.o
 nd:S.Nodup
 pw:S.Pairwise λa b=>Xg Vu (Uz b.d b.z) (Uz a.d a.z)=false
theorem Zcw{j:Type}{i:j->j->Prop}:∀{S f:List j},S.Perm f->S.Pairwise i->f.Pairwise i->(∀a∈S,∀b∈S,i a b->i b a->a=b)->S=f
 |[],f,c,_,_,_=>(List.nil_perm.mp c).symm
 |a::S,[],c,_,_,_=>Ov (List.perm_nil.mp c) (by simp)
 |a::S,b::f,c,h1,q,u=>by
  have v:a=b:=by
   have ha:a∈b::f:=c.mem_iff.mp SF;have h:b∈a::S:=c.mem_iff.mpr SF;rcases SH.mp ha with e|ha;exact e;rcases SH.mp h with e|h;exact e.symm;exact u a SF b (SE _ h) ((List.pairwise_cons.mp h1).1 b h) ((List.pairwise_cons.mp q).1 a ha)
  subst v;rw[Zcw (List.Perm.cons_inv c) (List.pairwise_cons.mp h1).2 (List.pairwise_cons.mp q).2 λx C y B=>u x (SE _ C) y (SE _ B)]
def UA.uniq(ag:∀z d,YF (q z d)=YF (f z d))(h:UA q S)(h':UA f i):S=i:=by
 erw[Zcw ((List.perm_ext_iff_of_nodup h.nd h'.nd).mpr λr=>by rw[h.m,h'.m,ag]) h.pw h'.pw λa ha b v l1 l2=>?_];obtain⟨c,e⟩:=Zcv ((uX Vu).total _ _ l2 l1);have j:=(h.m a).mp ha;have y:=(h.m b).mp v;rw[c,e,y]at j;have u:=Sr j;cases a;cases b;simp only at c e u;rw[c,e,u]
def UA.of{F:List Rw}(hm:∀r,r∈F↔YF (q r.z r.d)=some r.o)(nd:F.Nodup){is:OJ}(u:∀i r,F[i]? = some r->kf i=Uz r.d r.z)(h:Vv kf F.length is):UA q (is.map λi=>F.getD i ⟨0,Str.empty,none⟩):=by
 have v:∀i∈is,i<F.length:=λi c=>List.mem_range.mp (h.1.mem_iff.mp c);have y:(is.map λi=>F.getD i ⟨0,Str.empty,none⟩).Perm F:=by
  have:=h.1.map λi=>F.getD i ⟨0,Str.empty,none⟩;erw[this.trans (List.Perm.of_eq ?_)];erw[List.ext_getElem (by rw[Sx,List.length_range]) λi E C=>?_];rw[List.getElem_map,List.getElem_range,List.getD_eq_getElem?_getD,Sv C];rfl
 erw[⟨λr=>by rw[y.mem_iff,hm],y.nodup_iff.mpr nd,?_⟩];rw[List.pairwise_map];erw[h.2.imp_of_mem λ{i j} c D f=>?_];have B:=Sv (v i c);have e:=Sv (v j D);rw[u i _ B,u j _ e]at f;rwa[List.getD_eq_getElem?_getD,List.getD_eq_getElem?_getD,B,e]
theorem Zcx{R:V->Rw->Prop}{xs:List V}{F:List Rw}(c:Al R xs F):∀{is:OJ},(∀i∈is,i<F.length)->Al R (is.map λi=>xs.getD i .non) (is.map λi=>F.getD i ⟨0,Str.empty,none⟩)
 |[],_=>.nil
 |i::is,h=>by
  have hi:=h i SF;have e:i<xs.length:=by rw[c.length];exact hi
  obtain⟨r,q,u⟩:=c.get (Sv e);rw[SO,SO];erw[.cons ?_ (Zcx c λj f=>h j (SE _ f))];rwa[List.getD_eq_getElem?_getD,List.getD_eq_getElem?_getD,Sv e,q]
def Wj(G H:Hp)(v:V)(r:Rw):Prop:=∃p u,v=.ref p/\H p=some (.tup [.int (r.d:Nat),.str r.z,u])/\match r.o with
 |none=>u=.str (ON "out")
 |some c=>∃l,u=.ref l/\H l=some (.lst (c.map λn=>V.int (n:Nat)))/\G l=none
def Wj.keep(k:∀a o,H a=some o->(∀ob u,o≠.frz ob u)->(∀x,o≠.dT x)->(∀x,o≠.tbl x)->c a=some o)(h:Wj G H v r):Wj G c v r:=by
 ext⟨p,u,e,f,h⟩ h;erw[⟨p,u,e,k _ _ f () () (),?_⟩];revert h;cases r.o with
 |none=>exact id
 |some i=>exact λ⟨l,e,h,g⟩=>⟨l,e,k _ _ h () () (),g⟩
def Wj.same(s:Zd H c)(h:Wj G H v r):Wj G c v r:=h.keep λa o e _ _ _=>s a o e
def U6.keep(k:∀l xs,H l=some (.lst xs)->j l=some (.lst xs))(h:U6 H f c):U6 j f c:=λz i=>by
 have:=h z i;revert this;cases c z i with
 |none=>exact id
 |some o=>cases o with
  |none=>exact id
  |some q=>exact λ⟨l,e,h⟩=>⟨l,e,k _ _ h⟩
def YX(o:Option (List Nat)):List Zn->Rw
 |[Sum.inl d,Sum.inr z]=>⟨d.toNat,z,o⟩
 |_=>⟨0,Str.empty,o⟩
def Wk(f:ZX)(c:List Zn×V):Option Rw:=match YF (f (YX none c.1).z (YX none c.1).d)with
 |some (some e)=>some (YX (some e) c.1)
 |_=>none
def VE:Pos:=(Lk (Va QM) 2).2.2.2
def VF:Str:=(("Notices.told" : Str) ++ ".<locals>.") ++ "<lambda>"
def XT(TS:List Zt)(e:ZX):Prop:=∀z d,e z d≠none->∃x,ZQ Zt.nm TS z=some x/\2<=x.cs.length/\x.cs.length<=6/\(∀c,e z d=some (some c)->c.length=x.cs.length/\∀l∈c,l<=300)/\Yv z/\d<=9999
def D6{κ:Type}[DecidableEq κ]{c:List (κ×V)}{k:κ}:(ZD c k).isSome=true↔∃f∈c,f.1=k:=by
 rw[<-A7,List.any_eq_true];exact⟨λ⟨x,h,e⟩=>⟨x,h,SV e⟩,λ⟨x,h,e⟩=>⟨x,h,SS e⟩⟩
def Zcy{c:List Zn×V}(h:∃d z,c.1=ZU d z):c.1=ZU (YX o c.1).d (YX o c.1).z:=by
 ext⟨d,z,e⟩ h;rw[e];rfl
def ZlK{C q:List (List Zn×V)}(k2:X8 C m)(l2:X8 q m)(k3:∀z day,(ZD C (ZU day z)).isSome=decide (j z day=some none))(J:U6 H q j)(nd:(C.map (·.1)).Nodup)(L:(q.map (·.1)).Nodup) :
  (∀r,r∈(C.map λc=>YX none c.1)++q.filterMap (Wk j)↔YF (j r.z r.d)=some r.o)/\((C.map λc=>YX none c.1)++q.filterMap (Wk j)).Nodup:=by
 have D:∀c r,Wk j c=some r->∃f,YF (j (YX none c.1).z (YX none c.1).d)=some (some f)/\r=YX (some f) c.1:=λc r h=>by
  unfold Wk at h;split at h;rename_i f e;exact⟨f,e,(Sr h).symm⟩;cases h
 have u:∀(o:Option (List Nat)) (c:List Zn×V),(∃d z,c.1=ZU d z)->ZU (YX o c.1).d (YX o c.1).z=c.1/\(YX o c.1).o=o:=λo c ⟨d,z,e⟩=>by rw[e];exact⟨R,R⟩
 constructor;intro r;rw[SI,SL,List.mem_filterMap];constructor;rintro(⟨c,i,rfl⟩|⟨c,i,hr⟩);have e:=u none c (k2.2 c i);have:=k3 (YX none c.1).z (YX none c.1).d;rw[e.1,D6.mpr ⟨c,i,R⟩]at this;rw[SV this.symm,e.2];rfl;obtain⟨f,e,rfl⟩:=D c r hr;obtain⟨d,z,S⟩:=l2.2 c i;rw[S]at e ⊢;exact e;intro h;have hL:=J r.z r.d;have I:=k3 r.z r.d;revert h hL I;cases Z:j r.z r.d with
 |none=>intro h;cases h
 |some o=>cases o with
  |none =>
   intro h _ I;obtain⟨c,hm,e⟩:=D6.mp (I.trans (SS R));erw[.inl ⟨c,hm,?_⟩];rw[e];cases r;cases h;rfl
  |some f =>
   rintro h ⟨l,T,_⟩ _;obtain⟨c,hm,e⟩:=D6.mp (show(ZD q (ZU r.d r.z)).isSome=true by rw[T];rfl);erw[.inr ⟨c,hm,?_⟩];unfold Wk;rw[e];show(match YF (j r.z r.d)with|some (some f)=>some (YX (some f) (ZU r.d r.z))|_=>none)=_;rw[Z];have v:(if (f.any λl=>decide (0<l))=true then some (some f)else none)=some r.o:=h;rw[h];split at v;cases r;cases v;rfl;cases v
 rw[List.nodup_append];erw[⟨?_,?_,?_⟩];exact List.pairwise_map.mpr ((List.pairwise_map.mp nd).imp_of_mem λ{a b} ha M h e=>h (by rw[<-(u none a (k2.2 a ha)).1,<-(u none b (k2.2 b M)).1,e]));have i:=l2.2;clear nd k3 k2 J l2;induction q with
 |nil=>exact List.nodup_nil
 |cons c q G =>
  have G:=G (On.mp L).2 λc h=>i c (SE _ h);rw[List.filterMap_cons];cases e:Wk j c with
  |none=>exact G
  |some r =>
   erw[On.mpr ⟨λhm=>(On.mp L).1 ?_,G⟩];obtain⟨y,E,O⟩:=List.mem_filterMap.mp hm;obtain⟨f,_,Y⟩:=D _ _ e;obtain⟨Q,_,U⟩:=D _ _ O;have B:=(u (some f) c (i c SF)).1;have X:=(u (some Q) y (i y (SE _ E))).1;rw[<-Y,U,X]at B;exact SL.mpr ⟨y,E,B⟩
 intro r h r' v e;obtain⟨c,i,rfl⟩:=SL.mp h;obtain⟨y,E,v⟩:=List.mem_filterMap.mp v;obtain⟨f,_,rfl⟩:=D _ _ v;have B:=(u none c (k2.2 c i)).2;rw[e,(u (some f) y (l2.2 y E)).2]at B;cases B
inductive ZlL(t:Ye)(vs:List V)(H:Hp)(Q:VK)(_e3:XK):Prop|mk (n:Addr) (b:NB) (TS:List Zt) (KF:ZX) (m:Nat) (_:vs=[.ref n]) (_:Yc t H n b TS KF m) (_:m<32) (_:XT TS KF) (_:Xm t.Yf VE VF H) (_:∀(S:List Rw) l vs H',UA KF S->S.length<64->Zd (wo H t.Yf) H'->H l=none->Xm t.Yf VE VF H'->H' l=some (.lst vs)->Al (Wj H (wo H' l)) vs S->Q (.ref l) H')
def Zcz(C:Zv K mg t)(f1:W.CodeHd base t.QN t.Yf)(x1:BM mg base):Zo P w K mg base Zr 4 t.ZaX t.Tk ["self"] (ZlL t):=by
 erw[WC.okC C.J6.F JE () λb2 A outer s H vs a2 c2 w1 hr h=>?_];ext⟨n,b,TS,j,m,rfl,hN,m1,kn,hT,q⟩ h;ext⟨dx,fs,Y,X⟩ hN.ob;ext⟨kk,k1,k2,k3⟩ hN.tk;ext⟨M,l1,l2,l3⟩ hN.lt;erw[⟨_,(Zh (B8 (Nr (i0:=1) (cl:=[]) (N:=["day","trip"]) (fr:=[none,none]) JE.nd R (Or.inl R) R (qN (ZJ (pv 0) R)) R () R () trivial trivial R (λ_ _ _ _ _=>(show PG _ _ (KD K 2 _)from WJ R (YQ (Z4 0 (show List.Nodup (["day","trip"]:OF) by lia)) (YQ (Z4 1 (show List.Nodup (["day","trip"]:OF) by lia)) WI)))) (λ_ _ _ _ _=>VQ) (λ_ _ _ _ _=>(Yp (Yk (pv 0) (pv 1) ZH))))) (Zh (B8 (Xq (qN (ZJ (pv 0) R)) (WJ (n:=2) R (YQ (Z4 2 JE.nd) (YQ (Z4 3 JE.nd) WI))) (Zh (ZM 4 JE.nd (YO (pv 0) C.Yu C.U1.me (Mt C) (hr.mono ()) C.U1.b .nil Zm (Zp (pv 3) (pv 2)))) (Zi (ZK (Yy (ZP (uN R) C.Za4 jM (Zk (V8 (cl:=[]) (N:=["minutes"]) (fr:=[none]) R (Wo (pv 4)) R () R () trivial trivial R (λ_ _ _ _ _=>(Z4 0 (show List.Nodup (["minutes"]:OF) by lia))) (λ_ _ _ _ _=>VQ) (λ_ _ _ _ _=>(WB QC (pv 0) Zc (Vo _))))))) (Zi (Z1 (V7 PySem.F.plainAttrs_list PySem.F.slot_list_append PySem.F.type_list_append Us (pv 1) (Zk (Yp (Yk (pv 2) (pv 3) (pv 4))))))) ZL))))) (Zi (ZA (Zg1 (k:=0) (N:=["row"]) (x := "row") (qual:=(("Notices.told" : Str) ++ ".<locals>.") ++ "<lambda>") (params:=Prod.fst (Lk (Va QM) 2)) (body:=Prod.fst (Prod.snd (Lk (Va QM) 2))) (scope:=Prod.fst (Prod.snd (Prod.snd (Lk (Va QM) 2)))) R C.LI Lu (hr.mono ()) ⟨R,R,R,(),R,(),()⟩ (λ_ _ _ _=>R) (λ_ _ _ _ _ _ _=>(QF (show E9 _ (xT K)from Zel) (pv 0) Q8 (Ur Zc))) (Zk (pv 1)) (xI (Zgx (w1.symm.trans C.ZjC) f1 x1 R R) xH)))))),?_⟩];sleep 3;erw[⟨b.dk,_,k1,.inr ⟨_,R⟩,λo=>?_⟩];generalize G:Za H b.dk _=H1;have h1:H1 b.dk=some (.frz o (.dT kk)):=G ▸ Zj;have n1:H1 n=some (.ins t.YJ dx fs):=by rwa[<-G,Ze (Z5 Y k1 (by intro z;cases z))]
 erw[⟨_,R,n,_,dx,_,_,R,n1,C.Yu,C.Qr,X.fk,b.dk,o,kk,R,h1,λnd=>?_⟩];erw[Zhi (λi E y u=>Zd H1 u/\Al (Wj H u) E ((kk.take i).map λv=>YX none v.1)/\∃v0 v1,y=[v0,v1]) ⟨Zd.refl _,.nil,_,_,R⟩ (Si k2.1 (Si (Nat.le_of_lt m1) ())) (λi E y u _ h=>h.1 _ _ h1) ?_ ?_];rintro i v p E y u ha a0 J ⟨s1,O,v0,v1,rfl⟩;obtain⟨d,z,U⟩:=k2.2 v (SM a0);rw[U]at J;dsimp only[XE,Vs];erw[⟨p,_,R,Zl.of J,R,_,_,R,_,_,R,R,?_⟩];dsimp only;rw[SY R];erw[⟨_,R,_,R,zL9 R,λpt gt=>⟨by rw[Sw,Sy];lia,s1.trans (Zx gt _),?_,_,_,R⟩⟩];rw[Ob,a0,SN];show Al _ _ (_++[YX none v.1]);rw[U];exact(O.imp λ_ _=>Wj.same (Zx gt _)).snoc ⟨pt,.str (ON "out"),R,Zj,R⟩;rintro E y u ha ⟨s1,O,v0,v1,rfl⟩ p J;rw[Oa (Sh _)]at O;have gd:=s1 _ _ h1;have np:b.dk≠p:=Zu gd J;erw[⟨by rw[Ze np];exact gd,?_⟩];generalize e0:Za (Za u p _) b.dk _=H2;have u2:∀a o,u a=some o->(∀ob t0,o≠.frz ob t0)->H2 a=some o/\a≠p:=λa o e nf=>by
  have na:a≠p:=Zu e J;rw[<-e0,Ze (Z5 e gd (nf _ _)),Ze na];exact⟨e,na⟩
 have s2:Zd H H2:=λa S e=>by
  by_cases B:a=b.dk;subst B;rw[k1]at e;rwa[<-e0,Zj];have Y:H1 a=some S:=by rwa[<-G,Ze B]
  have X:=s1 _ _ Y;rwa[<-e0,Ze B,Ze (Zu X J)]
 have gp:H2 p=some (.lst E):=by rw[<-e0,Ze np.symm];exact Zj
 have m0:H p=none:=by
  cases c:H p with
  |none=>rfl
  |some S =>
   have:H1 p=some S:=by rwa[<-G,Ze np.symm]
   rw[s1 _ _ this]at J;cases J
 replace O:Al (Wj H (wo H2 p)) E (kk.map λv=>YX none v.1):=O.imp λh0 r h=>h.keep λa S e nf _ _=>let z:=u2 a S e nf;Zy z.1 z.2;clear u2 e0 G s1 gd h1 n1 J ha;generalize o0:(kk.map λv=>YX none v.1)=FT at O;have b0:b.dl≠p:=Zu l1 m0;erw[⟨b.dl,_,s2 _ _ l1,.inr ⟨_,R⟩,λo2=>?_⟩];generalize G:Za H2 b.dl _=H3;have h3:H3 b.dl=some (.frz o2 (.dT M)):=G ▸ Zj;have u3:∀a o,H2 a=some o->(∀k,o≠.dT k)->H3 a=some o:=λa o e n=>by rwa[<-G,Ze (Z5 e (s2 _ _ l1) (n _))]
 have y0:=u3 _ _ gp ();have x0:∀{H4},Zd (wo H3 p) H4->∀a o,H a=some o->(∀k,o≠.dT k)->H4 a=some o:=λI a o e n=>I _ _ (Zy (u3 _ _ (s2 _ _ e) n) (Zu e m0));erw[⟨_,R,n,_,dx,_,_,R,u3 _ _ (s2 _ _ Y) (),C.Yu,C.C3,X.fl,b.dl,o2,M,R,h3,λu1=>?_⟩];erw[Zhh (λi y u=>Zd (wo H3 p) u/\∃(D:List V) (v2 v3 v4:Option V),u p=some (.lst D)/\Al (Wj H (wo u p)) D (FT++(M.take i).filterMap (Wk j))/\y=[some (.ref n),some (.ref p),v2,v3,v4]) ⟨WP,E,_,_,_,y0,?_,R⟩ (λi y u _ h=>h.1 _ _ (Zy h3 b0)) ?_ ?_];rw[List.take_zero,List.filterMap_nil,Oe];exact O.imp λ_ _ h=>h.keep λa o e _ nd _=>let z:=Z0 e;Zy (u3 _ _ z.2 nd) z.1;rintro i v pk y H4 a0 q0 ⟨I,D,v2,v3,v4,c0,Q,rfl⟩;obtain⟨d,z,U⟩:=l2.2 v (SM a0);rw[U]at q0;obtain⟨f,eK⟩:∃f,j z d=some (some f):=by
  have T:=D6.mpr ⟨v,SM a0,U⟩;have h:=l3 z d;revert h;cases j z d with
  |none=>intro h;rw[h]at T;cases T
  |some o=>cases o with
   |none=>intro h;rw[h]at T;cases T
   |some f=>exact λ_=>⟨f,R⟩
 obtain⟨x,ex,_,l6,t1,_⟩:=kn z d (by rw[eK];intro c;cases c);erw[⟨pk,_,R,Zl.of q0,R,_,_,R,_,_,R,R,?_⟩];have up:=x0 I;have lo:zV t H4 n b TS j:=⟨⟨dx,fs,up _ _ Y (),X⟩,let ⟨rows,r1,r2⟩:=hN.tt;⟨rows,up _ _ r1 (),r2.imp λ_ _=>YE.keep λa o e nd _ _=>up a o e nd⟩,⟨M,.inr ⟨o2,I _ _ (Zy h3 b0)⟩,l3.keep λl xs e=>up _ _ e ()⟩⟩;sleep 2;erw[⟨_,R,n,dx,_,R,up _ _ Y (),X.n_late_minutes,_,R,_,R,n,b,TS,j,z,d,x,R,lo,ex,l6,λl H5 s5 g5 c5=>?_⟩];rw[show Xv x (j z d)=f by rw[eK];rfl]at c5;have s0:l≠p:=(Zu c0 g5).symm;have g0:H l=none:=by
  cases c:H l with
  |none=>rfl
  |some S =>
   by_cases B:l=b.dl;rw[B,I _ _ (Zy h3 b0)]at g5;cases g5;rw[I _ _ (Zy (by rw[<-G,Ze B];exact s2 _ _ c) s0)]at g5;cases g5
 have c1:f.length<=6:=by rwa[(t1 f eK).1]
 erw[⟨_,R,l,R,⟨_,Zg.of c5⟩,UM (K:=K) (a:=l) (xs:=f.map λn=>V.int (n:Nat)) (λi E y u=>u=H5/\E=((f.take i).map λn=>decide (0<n)).map V.bl/\∃h0,y=[h0]) ⟨R,R,none,R⟩ (by rw[Sx];exact Si c1 ()) (λi E y u _ ⟨z,_⟩=>by rw[z];exact Zg.of c5) ?_ ?_⟩];rintro i h0 E y H6 ha T ⟨rfl,rfl,v0,rfl⟩;rw[Oc]at T;obtain⟨n0,en,rfl⟩:=Oh.mp T;dsimp only[XE,Vs];rw[SY R];erw[⟨_,R,_,_,R,R,by rw[Sw,Sy];lia,R,?_,_,R⟩];rw[Ob,en,SN,SN];show _=_++[V.bl (decide (0<n0))];rw[show decide ((0:Int)<(n0:Int))=decide (0<n0) by simp];rintro E y H6 ha ⟨rfl,rfl,v0,rfl⟩ pc gc;rw[Oa (by rw[Sx];exact Sh _)];generalize j0:Za H6 pc _=H7;have L:=s5.trans (ZR gc j0);have c7:=ZV j0;have i1:=ZR gc j0 _ _ c5;clear j0;have S7:=I.trans L;have k0:=L _ _ c0;have r0:=Q.imp λ_ _ h=>h.same (QJ (l:=p) L);erw[⟨pc,_,R,Zg.of c7,_,R,?_⟩];have er:YF (j z d)=if (f.any λl=>decide (0<l))=true then some (some f)else none:=by rw[eK];rfl
 rw[show((f.map λn=>decide (0<n)).any id)=f.any λl=>decide (0<l) by rw[List.any_map];rfl];erw[VL (λc=>?_) (λc=>?_)];have eR:Wk j v=some ⟨d,z,some f⟩:=by
  unfold Wk;rw[U];show(match YF (j z d)with|some (some f)=>some (YX (some f) (ZU d z))|_=>none)=_;rw[er,SY c];rfl
 erw[⟨_,R,.inl ⟨R,_,Zg.of k0⟩,_,R,_,R,_,R,zL9 R,λp8 g8=>?_⟩];have Z:=Zx g8 (.tup [.int d,.str z,.ref l]);have n8:p8≠p:=(Zu k0 g8).symm;erw[⟨p,_,_,R,R,Z _ _ k0,Sk (show D.length<=64 by rw[Q.length,Sw,<-o0,Sx];have:=k2.1;have:=l2.1;have:=List.length_filterMap_le (Wk j) (M.take i);rw[Sz]at this;lia) (),?_⟩];erw[⟨λa o e=>?_,D++[.ref p8],_,_,_,Zj,?_,R⟩];rw[Ze (Z0 e).1];exact Z _ _ (S7 _ _ e);rw[Ob,a0,List.filterMap_append,B2];show Al _ _ (_++(_++List.filterMap (Wk j) [v]));rw[List.filterMap_cons,eR,List.filterMap_nil,<-Of];exact(r0.imp λ_ _ h=>h.same (QJ (l:=p) Z)).snoc ⟨p8,_,R,Zy Zj n8,l,R,Zy (Z _ _ i1) s0,g0⟩;have eR:Wk j v=none:=by
  unfold Wk;rw[U];show(match YF (j z d)with|some (some f)=>some (YX (some f) (ZU d z))|_=>none)=_;rw[er,SX c]
 erw[⟨S7,D,_,_,_,k0,?_,R⟩];rw[Ob,a0,List.filterMap_append];show Al _ _ (_++(_++List.filterMap (Wk j) [v]));rwa[List.filterMap_cons,eR,List.filterMap_nil,Oe];rintro y H4 ⟨I,D,v2,v3,v4,c0,Q,rfl⟩;rw[Oa (Sh _)]at Q;have g4:=I _ _ (Zy h3 b0);erw[⟨g4,?_⟩];generalize d0:Za H4 b.dl _=H5;have s5:Zd H H5:=λa o e=>by
  by_cases B:a=b.dl;subst B;rw[l1]at e;rwa[<-d0,Zj];rw[<-d0,Ze B];exact I _ _ (Zy (by rw[<-G,Ze B];exact s2 _ _ e) (Zu e m0))
 have q1:H5 p=some (.lst D):=by rwa[<-d0,Ze b0.symm]
 replace Q:Al (Wj H H5) D (FT++M.filterMap (Wk j)):=Q.imp λ_ _ h=>h.keep λa o e nf _ _=>by
  obtain⟨na,e⟩:=Z0 e;rwa[<-d0,Ze (Z5 e g4 (nf _ _))]
 clear d0 g4 I c0 x0 u3 h3 G y0 gp O s2;obtain⟨hm,p0⟩:=ZlK k2 l2 k3 l3 nd u1;rw[o0]at hm p0;have lF:(FT++M.filterMap (Wk j)).length<64:=by rw[Sw,<-o0,Sx];have:=k2.1;have:=l2.1;have:=List.length_filterMap_le (Wk j) M;lia
 generalize FT++M.filterMap (Wk j)=F at hm p0 lF Q;erw[⟨_,R,?_⟩];dsimp only[Y5,Yj];have a1:=hT.same s5;erw[Zgy (q:=VF) (pos:=VE) a1 λj1 c' b1 H6 s6 z0 hf d1=>?_];ext⟨ps,eT⟩ a1.at;have l0:Al (Wj H H6) D F:=Q.imp λ_ _ h=>h.keep λa o e _ _ nt=>s6 _ _ (Vt eT e nt);have o1:=s6 _ _ (Vt eT q1 ());have w0:=l0.length;erw[⟨p,j1,c',_,b1,D,λi=>Uz (F.getD i ⟨0,Str.empty,none⟩).d (F.getD i ⟨0,Str.empty,none⟩).z,[Wf (.inl 0),Wf (.inr [])],R,R,Zg.of o1,(),λi _=>R,λz=>(by cases z),hf,d1,λi h0 ev H7 L=>?_,λis l H7 io L u0 f0=>?_⟩];obtain⟨r,er,y1⟩:=l0.get ev;obtain⟨pr,t0,rfl,J,_⟩:=y1.same L;erw[⟨_,R,_,R,pr,_,R,Zl.of J,(by show ¬ (HT.sIx 3 0 none=0/\HT.sIx 3 3 (some 2)=3);lia),λpt gt=>⟨Zx gt _,pt,_,R,Zj,?_⟩⟩];have eg:F.getD i ⟨0,Str.empty,none⟩=r:=by rw[List.getD_eq_getElem?_getD,er];rfl
 try dsimp only
 rw[eg];exact .int _ (.str _ .nil);have g0:H l=none:=by
  cases c:H l with
  |none=>rfl
  |some S =>
   by_cases B:l=t.Yf;ext⟨d2,e6⟩ z0.at;rw[B,e6]at f0;cases f0;rw[s6 _ _ (Zy (s5 _ _ c) B)]at f0;cases f0
 have hS:=UA.of hm p0 (kf:=λi=>Uz (F.getD i ⟨0,Str.empty,none⟩).d (F.getD i ⟨0,Str.empty,none⟩).z) (λi r hr=>by rw[List.getD_eq_getElem?_getD,hr];rfl) (by rw[<-w0];exact io);have Z:=Zx u0 (.lst (is.map λi=>D.getD i .non));have sw:Zd (wo H t.Yf) H7:=λa o e=>L _ _ (s6 _ _ (Zy (s5 _ _ (Z0 e).2) (Z0 e).1));erw[q _ l _ _ hS (by rw[Sx,io.1.length_eq,List.length_range];lia) (sw.trans Z) g0 ((z0.same L).same Z) Zj ?_];rw[B2];erw[(Zcx (l0.imp λ_ _ h=>h.same (L.trans (uJ (Zd.refl H7) u0))) λi hi=>?_)];rw[<-w0];exact List.mem_range.mp (io.1.mem_iff.mp hi)
def Uj(e:ZX)(c:List Zn×V):Option Rw:=(YF (e (YX none c.1).z (YX none c.1).d)).map λo=>YX o c.1
abbrev Wx(kvs:List (List Zn×V))(i:Nat):List Zn×V:=kvs.getD i ([],.non)
def Qv(h:c[i]? = some e):Wx c i=e:=by
 unfold Wx;rw[List.getD_eq_getElem?_getD,h];rfl
def ZcA{f:List (List Zn×V)}(nd:(f.map (·.1)).Nodup)(hi:i<f.length)(q:j<f.length)(e:(Wx f i).1=(Wx f j).1):i=j:=by
 have h:=List.pairwise_iff_getElem.mp (List.pairwise_map.mp nd);rw[Qv (Sv hi),Qv (Sv q)]at e;rcases Nat.lt_trichotomy i j with c|c|c;exact Ov e (h i j hi q c);exact c;exact Ov e.symm (h j i q hi c)
theorem ZcB:∀(r:OJ) (a:Nat),decide (0<r.foldl max a)=(decide (0<a) || r.any λl=>decide (0<l))
 |[],a=>by rw[List.any_nil,Bool.or_false];rfl
 |b::r,a=>by
  rw[List.foldl_cons,ZcB r (max a b),List.any_cons,<-Bool.or_assoc];congr 1;rw[<-Bool.decide_or];exact decide_eq_decide.mpr ()
def ZlM{ls:OJ}(h:ls≠[]):∃x:Int,WN none (ls.map λn=>((n:Nat):Int))=some x/\decide (0<x)=ls.any λl=>decide (0<l):=by
 cases ls with
 |nil=>exact Ov R h
 |cons a r =>
  erw[⟨_,zP r a,?_⟩];rw[List.any_cons,<-ZcB];exact decide_eq_decide.mpr ()
def ZlN{f:List (List Zn×V)}(k2:X8 f m)(gp:XS H f u)(nd:(f.map (·.1)).Nodup){is:OJ}(B:Vv (λi=>Uz (YX none (Wx f i).1).d (YX none (Wx f i).1).z) f.length is):UA u (is.filterMap λi=>Uj u (Wx f i)):=by
 have q:∀i∈is,i<f.length:=λi c=>List.mem_range.mp (B.1.mem_iff.mp c);have v:∀i r,i<f.length->Uj u (Wx f i)=some r->(Wx f i).1=ZU r.d r.z/\YF (u r.z r.d)=some r.o:=λi r c h=>by
  obtain⟨d,z,I⟩:=k2.2 _ (Ol c);rw[Qv (Sv c)]at h ⊢;unfold Uj at h;rw[I]at h ⊢;obtain⟨o,e,rfl⟩:=Oh.mp h;exact⟨R,e⟩
 erw[⟨λr=>?_,?_,?_⟩];rw[List.mem_filterMap];constructor;rintro⟨i,c,h⟩;exact(v i r (q i c) h).2;intro h;have L:(ZD f (ZU r.d r.z)).isSome=true:=by
  have:=gp r.z r.d;revert this h;cases u r.z r.d with
  |none=>intro h;cases h
  |some o=>cases o with
   |none=>exact λ_ h=>by rw[h];rfl
   |some O=>exact λ_ ⟨l,h,_⟩=>by rw[h];rfl
 obtain⟨Q,hm,e⟩:=D6.mp L;obtain⟨i,c,M⟩:=List.mem_iff_getElem.mp hm;erw[⟨i,B.1.mem_iff.mpr (List.mem_range.mpr c),?_⟩];rw[Qv (Sv c),M];unfold Uj;rw[e];show(YF (u r.z r.d)).map _=_;rw[h];rfl;erw[List.pairwise_filterMap.mpr ((B.1.nodup_iff.mpr List.nodup_range).imp_of_mem λ{i j} c y h r E G C e=>h ?_)];subst e;have D:=(v i r (q i c) E).1.trans (v j r (q j y) C).1.symm;exact ZcA nd (q i c) (q j y) D;erw[List.pairwise_filterMap.mpr (B.2.imp_of_mem λ{i j} c y h r E G C=>?_)];have D:=(v i r (q i c) E).1;have J:=(v j G (q j y) C).1;dsimp only at h;rw[D,J]at h;exact h
inductive ZlO(t:Ye)(vs:List V)(H:Hp)(Q:VK)(_e3:XK):Prop|mk (g:Addr) (kvs:List (List Zn×V)) (TS:List Zt) (GF:ZX) (m:Nat) (_:vs=[.ref g]) (_:H g=some (.dT kvs)) (_:X8 kvs m) (_:m<64) (_:XS H kvs GF) (_:XT TS GF) (_:∀(S:List Rw) l vs H',UA GF S->Zd H H'->H l=none->H' l=some (.lst vs)->Al (Wj (λ_=>none) (wo H' l)) vs S->Q (.ref l) H')
def ZcC(Tx:Zv K mg t):Zo P w K mg base Zr 2 t.gR t.gU ["_law_gaps"] (ZlO t):=by
 erw[Tx.Tr.F.ok I0 () λw0 A outer s k0 vs u0 x0 hr h=>?_];ext⟨g,B,TS,v,m,rfl,hg,I,m1,gp,kn,o0⟩ h;erw[⟨_,(Zh (ZM 1 I0.nd (Z7 Xs)) (Zh (Xq (Wo (ZP (Zhl R) Tx.LI Lu (Zk (pv 0)))) (WJ (n:=2) R (YQ (Z4 2 I0.nd) (YQ (Z4 3 I0.nd) WI))) (Zh (ZM 4 I0.nd (YI hr (pv 0) (Yp (Zp (pv 2) (pv 3))))) (Zi (ZK (UF (Kz (pv 4))) (Zi (Z1 (V7 PySem.F.plainAttrs_list PySem.F.slot_list_append PySem.F.type_list_append Us (pv 1) (Zk (Yp (Yk (pv 2) (pv 3) ZH)))))) (Zi (ZK (Ys QC (ZP (ZfV R) Tx.Za6 jN (Zk (pv 4))) Zc) (Zi (Z1 (V7 PySem.F.plainAttrs_list PySem.F.slot_list_append PySem.F.type_list_append Us (pv 1) (Zk (Yp (Yk (pv 2) (pv 3) (pv 4))))))) ZL)))))) (Zi (ZA (pv 1))))),?_⟩];sleep 3;erw[⟨zL9 R,λf U=>?_⟩];exists k0,f,H1,s1,U,c1;erw[⟨_,R,g,B,λi=>Uz (YX none (Wx B i).1).d (YX none (Wx B i).1).z,[Wf (.inl 0),Wf (.inr [])],R,s1 _ _ hg,by have:=I.1;lia,λi kv l0=>?_,λi _=>R,λz=>(by cases z),λnd=>⟨λi j E hj e=>?_,λis ys l ly hy io gl=>?_⟩⟩];obtain⟨d,z,Q⟩:=I.2 kv (SM l0);dsimp only;rw[Qv l0,Q];exact .int _ (.str _ .nil);obtain⟨e1,e2⟩:=Zcv e;erw[ZcA nd E hj ?_];have a1:=Zcy (o:=none) (I.2 _ (Ol E));have a2:=Zcy (o:=none) (I.2 _ (Ol hj));rw[Qv (Sv E),Qv (Sv hj)]at e1 e2 ⊢;rw[a1,a2,e1,e2];generalize y:Za H1 l _=H2;have s2:=ZR gl y;have c2:=ZV y;clear y;have S2:=s1.trans s2;have m0:l≠f:=(Zu c1 gl).symm;have hl:∀i∈is,i<B.length:=λi E=>List.mem_range.mp (io.1.mem_iff.mp E);erw[⟨l,R,⟨_,Zg.of c2⟩,Qc (K:=K) (a:=l) (xs:=is.map λi=>ys.getD i .non) (λj Z H'=>Zd (wo H2 f) H'/\∃(C:List V) (v2 v3 v4:Option V),H' f=some (.lst C)/\Al (Wj (λ_=>none) (wo H' f)) C ((is.take j).filterMap λi=>Uj v (Wx B i))/\Z=[some (.ref g),some (.ref f),v2,v3,v4]) ⟨WP,[],_,_,_,s2 _ _ c1,.nil,R⟩ (λj Z H' _ ⟨h,_⟩=>Zg.of (h _ _ (Zy c2 m0))) ?_ ?_⟩];rintro j v0 Z M L ⟨T,C,v2,v3,v4,b0,O,rfl⟩;rw[Oc]at L;obtain⟨i,ei,rfl⟩:=Oh.mp L;have E:=hl i (SM ei);have a0:=Sv E;obtain⟨pk,p0,X⟩:=hy i _ a0;have h0:=Qv a0;generalize B[i]=kv at a0 X h0;have g0:=SM a0;obtain⟨d,z,Q⟩:=I.2 kv g0;rw[Q]at X;rw[List.getD_eq_getElem?_getD,p0];have up:∀a o,k0 a=some o->M a=some o:=λa o e=>T _ _ (Zy (S2 _ _ e) (Zu e U));have t0:M pk=some (.tup [.int d,.str z]):=T _ _ (Zy (s2 _ _ X) (Z5 X c1 (by intro z;cases z)));have f0:C.length<=64:=by rw[O.length];have:=List.length_filterMap_le (λi=>Uj v (Wx B i)) (is.take j);have h2:=io.1.length_eq;rw[List.length_range]at h2;rw[Sz]at this;have:=I.1;lia
 have c0:(is.take (j+1)).filterMap (λi=>Uj v (Wx B i))=(is.take j).filterMap (λi=>Uj v (Wx B i))++((YF (v z d)).map λo=>(⟨d,z,o⟩:Rw)).toList:=by
  rw[Ob,ei,List.filterMap_append];congr 1;show List.filterMap (λi=>Uj v (Wx B i)) [i]=_;rw[List.filterMap_cons,h0,List.filterMap_nil];unfold Uj;rw[Q];have e0:YF (v (YX none (ZU d z)).z (YX none (ZU d z)).d)=YF (v z d):=rfl;rw[e0];cases YF (v z d)<;>rfl
 erw[⟨pk,_,R,Zl.of t0,R,_,_,R,_,_,R,R,?_⟩];sleep 2;erw[⟨_,R,_,R,_,R,zL9 R,λpt gt=>?_⟩];exists M,pt,H4,S,gt,c4;have s0:=S _ _ (up _ _ hg);have G:=gp z d;have L:=D6.mpr ⟨kv,g0,Q⟩;have J:=S _ _ b0;have j0:=O.imp λ_ _ h=>h.same (QJ (l:=f) S);have S4:=T.trans S;have d0:∀(u:V) (o:Option (List Nat)) q,H4 q=none->YF (v z d)=some o->(match o with|none=>u=.str (ON "out")|some ls=>∃l,u=.ref l/\H4 l=some (.lst (ls.map λn=>V.int (n:Nat)))/\l≠f) ->
   Zd (wo H2 f) (Za (Za H4 q (.tup [.int d,.str z,u])) f (.lst (C++[.ref q])))/\Al (Wj (λ_=>none) (wo (Za (Za H4 q (.tup [.int d,.str z,u])) f (.lst (C++[.ref q]))) f)) (C++[.ref q]) ((is.take (j+1)).filterMap λi=>Uj v (Wx B i)):=λu o q D er hu=>by
  have H:=Zx D (.tup [.int d,.str z,u]);have n8:q≠f:=(Zu J D).symm;erw[⟨λa o e=>by rw[Ze (Z0 e).1];exact H _ _ (S4 _ _ e),?_⟩];rw[c0,er,B2];erw[(j0.imp λ_ _ h=>h.same (QJ (l:=f) H)).snoc ⟨q,u,R,Zy Zj n8,?_⟩];cases o with
  |none=>exact hu
  |some ls=>ext⟨l,e,h,n⟩ hu;exact⟨l,e,Zy (H _ _ h) n,R⟩
 have dg:=Yr.t (k:=ZU d z) s0 c4;revert G;cases eG:v z d with
 |none=>intro G;rw[G]at L;cases L
 |some o=>cases o with
  |none =>
   intro G;rw[G]at dg;erw[⟨g,_,R,dg,_,R,_,R,Z3 (SS R) ⟨_,R,.inl ⟨R,_,Zg.of J⟩,_,R,_,R,zL9 R,λq D=>?_⟩⟩];have H:=Zx D (.tup [.int d,.str z,.str (ON "out")]);obtain⟨f1,f2⟩:=d0 (.str (ON "out")) none q D (by rw[eG];rfl) R;exact⟨f,_,_,R,R,H _ _ J,Sk f0 (),f1,_,_,_,_,Zj,f2,R⟩
  |some ls =>
   rintro⟨l,G,hl⟩;rw[G]at dg;obtain⟨x,ex,x2,x6,q0,_⟩:=kn z d (by rw[eG];intro c;cases c);obtain⟨Y,_⟩:=q0 ls eG;have i0:=S _ _ (up _ _ hl);obtain⟨mx,n0,r0⟩:=ZlM (ls:=ls) (by intro c;rw[c]at Y;simp at Y;lia);erw[⟨g,_,R,dg,_,R,_,R,Zq (by rw[SU ()];lia) ⟨_,R,l,ls.map λn=>((n:Nat):Int),mx,R,by rw[Og];exact Zg.of i0,by intro c;rw[List.map_eq_nil_iff]at c;rw[c]at Y;simp at Y;lia,n0,_,_,R,R,_,R,?_⟩⟩];rw[r0];have er:YF (v z d)=if (ls.any λl=>decide (0<l))=true then some (some ls)else none:=by rw[eG];rfl
   erw[VL (λc=>?_) (λc=>?_)];erw[⟨_,R,.inl ⟨R,_,Zg.of J⟩,_,R,_,R,_,R,zL9 R,λq D=>?_⟩];have H:=Zx D (.tup [.int d,.str z,.ref l]);obtain⟨f1,f2⟩:=d0 (.ref l) (some ls) q D (by rw[er,SY c]) ⟨l,R,i0,Zu hl U⟩;exact⟨f,_,_,R,R,H _ _ J,Sk f0 (),f1,_,_,_,_,Zj,f2,R⟩;erw[⟨S4,C,_,_,_,J,?_,R⟩];rw[c0,er,SX c];show Al _ _ (_++[]);rwa[Oe]
 rintro Z M ⟨T,C,v2,v3,v4,b0,O,rfl⟩;have e:is.take (is.map λi=>ys.getD i .non).length=is:=Oa (by rw[Sx];exact Sh _);rw[e]at O;exact⟨_,R,o0 _ f C M (ZlN I gp nd io) (λa o e=>T _ _ (Zy (S2 _ _ e) (Zu e U))) U b0 O⟩
def WZ(H e:Hp):Prop:=∀a o,H a=some o->(∀c,o≠.dT c)->(∀f,o≠.tbl f)->e a=some o
def WZ.of(s:Zd H c):WZ H c:=λa o e _ _=>s a o e
def VG(H:Hp):Hp:=λa=>match H a with
 |some (.tup c)=>some (.tup c)
 |some (.lst c)=>some (.lst c)
 |_=>none
def MB(h:VG H a=some o):H a=some o/\(∀c,o≠.dT c)/\∀i,o≠.tbl i:=by
 unfold VG at h;split at h;rename_i f e;cases h;exact⟨e,(),()⟩;rename_i f e;cases h;exact⟨e,(),()⟩;cases h
def ZcD(h:H a=some (.tup xs)):VG H a=some (.tup xs):=by unfold VG;rw[h]
def ZcE(h:H a=some (.lst xs)):VG H a=some (.lst xs):=by unfold VG;rw[h]
def zZ(k:WZ H h):Zd (VG (wo H lo)) (VG (wo h lo)):=λa o e=>by
 obtain⟨c,n1,n2⟩:=MB e;obtain⟨f,c⟩:=Z0 c;have:=Zy (k _ _ c n1 n2) f;unfold VG at e ⊢;rw[this];rw[Zy c f]at e;exact e
structure Gd(d:PyData):Prop where
 dp:d.depth<=60
 wt:d.weight<=2 ^ 20
 it:d.intsShort 13=true
 sh:d.showable=true
def ZlP(K:OA)(H:Hp)(v:V):Prop:=∃p f d,v=.ref p/\H p=some (.tup [.ref f,.str d.shown])/\DV K H (.ref f) d/\Gd d
def V4(K:OA)(H:Hp)(lo:Addr)(n:Nat):Prop:=∃c,H lo=some (.lst c)/\c.length<=n/\∀v∈c,ZlP K (VG (wo H lo)) v
def V4.keep(k:WZ H c)(h:V4 K H lo n):V4 K c lo n:=by
 ext⟨q,u,j,B⟩ h;erw[⟨q,k _ _ u () (),j,λv i=>?_⟩];obtain⟨p,f,d,e,y,hd,g⟩:=B v i;exact⟨p,f,d,e,zZ k _ _ y,hd.same (zZ k),g⟩
def Wy(G:Hp)(n:Nat)(H:Hp)(v:V)(r:Rw):Prop:=∃p u,v=.ref p/\H p=some (.tup [.int (r.d:Nat),.str r.z,u])/\(u=.str (ON "out")\/∃(l:Addr) (ns:OH),u=.ref l/\H l=some (.lst (ns.map V.int))/\G l=none/\ns.length<=6+n/\∀x∈ns,0<=x/\x<=300)
structure Sd(t:Ye)(H:Hp)(TS:List Zt)(n g:Addr)(b:NB)(KF GF:ZX)(m:Nat):Prop where
 no:Yc t H n b TS KF m
 kn:XT TS KF
 gp:∃kvs,H g=some (.dT kvs)/\X8 kvs m/\XS H kvs GF
 gn:XT TS GF
 ag:∀z d,YF (KF z d)=YF (GF z d)
 n1:g≠b.dk
 n2:g≠b.dl
def Sd.same{e:Hp}{TS:List Zt}{n g:Addr}{b:NB}{i f:ZX}{m:Nat}(s:Zd H e)(h:Sd t H TS n g b i f m):Sd t e TS n g b i f m :=
 ⟨h.no.same s,h.kn,let ⟨k,a,b,c⟩:=h.gp;⟨k,s _ _ a,b,c.same s⟩,h.gn,h.ag,h.n1,h.n2⟩
def Yc.keepE{c:Hp}{n:Addr}{b:NB}{TS:List Zt}{f:ZX}{m:Nat}(k:WZ H c)(I:∀o,H b.dk=some o->c b.dk=some o)(u:∀o,H b.dl=some o->c b.dl=some o)(h:Yc t H n b TS f m):Yc t c n b TS f m:=by
 ext⟨⟨J,fs,D,y⟩,ap,⟨rows,i,C⟩,⟨G,E,B,M⟩,⟨j,q,v,L⟩⟩ h;exact⟨⟨J,fs,k _ _ D () (),y⟩,ap,⟨rows,k _ _ i () (),C.imp λ_ _=>YE.keep λa o e nd nt _=>k a o e nd nt⟩,⟨G,I _ E,B,M⟩,⟨j,u _ q,v,L.keep λl O h=>k _ _ h () ()⟩⟩
def Sd.keepE{i:Hp}{TS:List Zt}{n g:Addr}{b:NB}{q j:ZX}{m:Nat}(k:WZ H i)(f:∀a o,(a=b.dk\/a=b.dl\/a=g)->H a=some o->i a=some o)(h:Sd t H TS n g b q j m):Sd t i TS n g b q j m :=
 ⟨h.no.keepE k (λo=>f _ o (.inl R)) λo=>f _ o (.inr (.inl R)),h.kn,let ⟨kv,a,b,c⟩:=h.gp;⟨kv,f _ _ (.inr (.inr R)) a,b,c.keep λl u e=>k _ _ e () ()⟩,h.gn,h.ag,h.n1,h.n2⟩
def Sd.tab{j:Hp}{TS:List Zt}{n g:Addr}{b:NB}{f c:ZX}{m:Nat}(k:∀a o,H a=some o->(∀i,o≠.tbl i)->j a=some o)(h:Sd t H TS n g b f c m):Sd t j TS n g b f c m:=by
 ext⟨y,u,_⟩ h.no.tk;ext⟨B,q,_⟩ h.no.lt;ext⟨C,v,_⟩ h.gp;erw[h.keepE (λa o e _ n=>k a o e n) λa o ha e=>k a o e λi z=>?_];subst z;rcases ha with rfl|rfl|rfl;rw[u]at e;cases e;rw[q]at e;cases e;rw[v]at e;cases e
def Q0(r:Rw):PyData:=.tuple [.int ((r.d:Nat):Int),.str r.z,match r.o with|none=>.str (ON "out")|some ls=>.list (ls.map λn=>.int ((n:Nat):Int))]
theorem yA:∀ns:List Int,Xd K H (ns.map V.int) (ns.map .int)
 |[]=>.nil
 |n::ns=>.cons (.int n) (yA ns)
theorem Ku:∀{vs:List V} {S:List Rw},Al (Wj G H) vs S->(∀r∈S,Yv r.z)->Xd K H vs (S.map Q0)
 |_,_,.nil,_=>.nil
 |_,r::_,.cons ⟨p,u,e,h1,h⟩ f,ok=>by
  subst e;erw[.cons (.tup (Zl.of h1) (.cons (.int _) (.cons (.str _ (U5 (ok _ SF))) (.cons ?_ .nil)))) (Ku f λr i=>ok r (SE _ i))];revert h;cases r.o with
  |none=>rintro rfl;exact .str _ ()
  |some ls =>
   rintro⟨l,rfl,c,_⟩;erw[.lst (Zg.of c) ?_];have:=yA (H:=H) (K:=K) (ls.map λn=>((n:Nat):Int));rw[Og,Og]at this;exact this
theorem ZcF:∀ns:List Nat,PyData.depthAll (ns.map λn=>.int ((n:Nat):Int))<=1
 |[]=>by simp[PyData.depthAll]
 |m::c=>by
  have:=ZcF c;simp[PyData.depth,PyData.depthAll]at *;lia
theorem yB:∀S:List Rw,PyData.depthAll (S.map Q0)<=3
 |[]=>by simp[PyData.depthAll]
 |r::S=>by
  have:=yB S;simp only[SO,Q0,PyData.depth,PyData.depthAll];cases r.o with
  |none=>simp[PyData.depth];lia
  |some c=>have:=ZcF c;simp[PyData.depth];lia
def ZcG{i:Int}(h:i.natAbs<16384):(PyData.int i).weight<=14/\(PyData.int i).intsShort 13=true/\(PyData.int i).showable=true:=by
 have e:i.natAbs.log2<14:=by
  by_cases c:i.natAbs=0;rw[c];lia;exact(Nat.log2_lt c).mpr h
 erw[⟨?_,?_,?_⟩];simp only[PyData.weight];split<;>omega
 simp only[PyData.intsShort];exact SS (PyData.shown_int_le (Nat.lt_trans h ()));simp only[PyData.showable];exact SS ()
theorem ZcH:∀ns:List Int,(∀n∈ns,0<=n/\n<=300)->PyData.weightAll (ns.map .int)<=15*ns.length/\PyData.intsShortAll 13 (ns.map .int)=true/\PyData.showableAll (ns.map .int)=true/\PyData.depthAll (ns.map .int)<=1
 |[],_=>by simp[PyData.weightAll,PyData.intsShortAll,PyData.showableAll,PyData.depthAll]
 |n::ns,h=>by
  obtain⟨v,c,q,u⟩:=ZcH ns λx e=>h x (SE _ e);obtain⟨y,j,f⟩:=ZcG (i:=n) (by have:=h n SF;lia);simp only[SO,PyData.weightAll,PyData.intsShortAll,PyData.showableAll,PyData.depthAll,SA,c,q,j,f,Bool.and_self,true_and];erw[⟨(),?_⟩];simp[PyData.depth];lia
def ZlQ{r:Rw}(h:Wy G n H v r)(hn:n<=64)(hz:Yv r.z)(hd:r.d<=9999):∃d,DV K H v d/\d.depth<=3/\d.weight<=2000/\d.intsShort 13=true/\d.showable=true:=by
 ext⟨p,u,rfl,B,D⟩ h;obtain⟨d,y,O,Q,f,j⟩:∃d,DV K H u d/\d.depth<=2/\d.weight<=1500/\d.intsShort 13=true/\d.showable=true:=by
  rcases D with rfl|⟨l,ns,rfl,C,_,M,I⟩;exact⟨.str (ON "out"),.str _ (),by simp[PyData.depth],(),R,R⟩;obtain⟨T,E,L,S⟩:=ZcH ns I;erw[⟨.list (ns.map .int),.lst (Zg.of C) (yA ns),by simp only[PyData.depth];lia,by simp only[PyData.weight];lia,by simp only[PyData.intsShort];exact E,by simp only[PyData.showable];exact L⟩]
 obtain⟨q,c,e⟩:=ZcG (i:=((r.d:Nat):Int)) ();have J:(PyData.str r.z).weight<=8:=hz.2.1;erw[⟨.tuple [.int ((r.d:Nat):Int),.str r.z,d],.tup (Zl.of B) (.cons (.int _) (.cons (.str _ (U5 hz)) (.cons y .nil))),?_,?_,?_,?_⟩];simp[PyData.depth,PyData.depthAll];lia;simp only[PyData.weight,PyData.weightAll]at J q ⊢;lia;simp only[PyData.intsShort,PyData.intsShortAll]at c ⊢;rw[c,f];rfl;simp only[PyData.showable,PyData.showableAll]at e ⊢;rw[e,j];rfl
theorem ZcI{G H:Hp}{K:OA}{n:Nat}(hn:n<=64):∀{vs:List V} {S:List Rw},Al (Wy G n H) vs S->(∀r∈S,Yv r.z/\r.d<=9999)->∃ds,Xd K H (vs++[.str (ON "more")]) ds/\PyData.depthAll ds<=4/\PyData.weightAll ds<=2001*vs.length+5/\PyData.intsShortAll 13 ds=true/\PyData.showableAll ds=true
 |_,_,.nil,_=>⟨[.str (ON "more")],.cons (.str _ ()) .nil,by simp[PyData.depth,PyData.depthAll],(),R,R⟩
 |_,_,.cons a c,ok=>by
  obtain⟨ds,h1,i,j,f,e⟩:=ZcI (K:=K) hn c λr h=>ok r (SE _ h);obtain⟨d,g1,g2,g3,g4,g5⟩:=ZlQ (K:=K) a hn (ok _ SF).1 (ok _ SF).2;erw[⟨d::ds,.cons g1 h1,by simp only[PyData.depthAll];lia,by simp only[PyData.weightAll,SA];lia,by simp only[PyData.intsShortAll];rw[g4,f];rfl,by simp only[PyData.showableAll];rw[g5,e];rfl⟩]
def Yc.off{n lo:Addr}{b:NB}{TS:List Zt}{f:ZX}{m:Nat}{q:List V}(h:Yc t H n b TS f m)(i:H lo=some (.lst q))(S:∀vs cs,Al (Yq H) vs cs->cs≠[]->vs≠q)(C:∀z d ls,f z d=some (some ls)->(ls.map λn=>V.int (n:Nat))≠q)(y:∀x∈TS,x.cs≠[]):Yc t (wo H lo) n b TS f m:=by
 have w:∀{a o},H a=some o->(∀E,o≠.lst E)->wo H lo a=some o:=λe n=>Zy e (Z5 e i (n _));ext⟨⟨dx,fs,Y,Q⟩,ap,⟨rows,u,X⟩,⟨k1,a1,T,a3⟩,⟨D,G,O,b3⟩⟩ h;erw[⟨⟨dx,fs,w Y (),Q⟩,ap,⟨rows,w u (),?_⟩,⟨k1,w a1 (),T,a3⟩,⟨D,w G (),O,λz d=>?_⟩⟩];clear u;induction X with
 |nil=>exact .nil
 |@cons kv x _ _ a _ ih =>
  erw[.cons ?_ (ih λa0 U=>y a0 (SE _ U))];ext⟨e,r,J,l,vs,L,I,⟨B,f3,f4⟩,c,v⟩ a;erw[⟨e,r,J,l,vs,L,w I (),⟨B,f3,ZT.keepF (λ_ _ _ _ _ e=>w e ()) (λ_ _=>Ki (λe=>w e ()) λ_ e=>w e ()) f4⟩,Zy c λz=>?_,v.imp λ_ _ ⟨p,Z,M⟩=>⟨p,Z,w M ()⟩⟩];rw[z,i]at c;injection c with c;injection c with c;exact S _ _ v (y x SF) c.symm
 have:=b3 z d;have j:=C z d;revert this j;cases f z d with
 |none=>exact λh _=>h
 |some o=>cases o with
  |none=>exact λh _=>h
  |some ls =>
   rintro⟨l,e,h⟩ j;erw[⟨l,e,Zy h λz=>j ls R ?_⟩];rw[z,i]at h;injection h with h;injection h with h;exact h.symm
def XS.off(h:XS H i c)(u:H lo=some (.lst j))(q:∀z d ls,c z d=some (some ls)->(ls.map λn=>V.int (n:Nat))≠j):XS (wo H lo) i c:=λz d=>by
 have:=h z d;have f:=q z d;revert this f;cases c z d with
 |none=>exact λh _=>h
 |some o=>cases o with
  |none=>exact λh _=>h
  |some ls =>
   rintro⟨l,e,h⟩ f;erw[⟨l,e,Zy h λz=>f ls R ?_⟩];rw[z,u]at h;injection h with h;injection h with h;exact h.symm
def Sd.off{TS:List Zt}{n g lo:Addr}{b:NB}{q C:ZX}{m k:Nat}(h:Sd t H TS n g b q C m)(L:∀x∈TS,x.cs≠[])(J:V4 K H lo k):Sd t (wo H lo) TS n g b q C m:=by
 ext⟨M,j,_,B⟩ J;have u:∀{F:ZX},XT TS F->∀z d i,F z d=some (some i)->(i.map λn=>V.int (n:Nat))≠M:=λkn z d i e c=>by
  obtain⟨x,_,Q,_,I,_⟩:=kn z d (by rw[e];exact ());cases i with
  |nil=>have:=(I [] e).1;simp at this;lia
  |cons y S =>
   obtain⟨p,f,d,e,_⟩:=B (.int y) (by rw[<-c];exact SF);cases e
 ext⟨G,g1,g2,g3⟩ h.gp;erw[⟨h.no.off j (λT cs E hn c=>?_) (u h.kn) L,h.kn,⟨G,Zy g1 (Z5 g1 j ()),g2,g3.off j (u h.gn)⟩,h.gn,h.ag,h.n1,h.n2⟩];cases E with
 |nil=>exact hn R
 |cons a _ =>
  ext⟨p,rfl,v⟩ a;obtain⟨O,f,d,e,D,_⟩:=B (.ref p) (by rw[<-c];exact SF);cases e;rw[(Z0 (MB D).1).2]at v;cases v
def ZcJ{G:Hp}{TS:List Zt}{j:ZX}{S:List Rw}(kn:XT TS j)(q:UA j S){vs:List V}(y:Al (Wj G H) vs S):Al (Wy G 0 H) vs S/\∀r∈S,Yv r.z/\r.d<=9999:=by
 have ok:∀r∈S,(Yv r.z/\r.d<=9999)/\∀f,r.o=some f->f.length<=6/\∀l∈f,l<=300:=λr i=>by
  have h:=(q.m r).mp i;have D:j r.z r.d≠none:=λc=>by rw[c]at h;cases h
  obtain⟨x,_,_,Q,B,M,hd⟩:=kn r.z r.d D;erw[⟨⟨M,hd⟩,λf e=>?_⟩];rw[e]at h;have:j r.z r.d=some (some f):=by
   revert h;cases j r.z r.d with
   |none=>intro h;cases h
   |some o=>cases o with
    |none=>intro h;cases h
    |some l =>
     intro h;have h:(if (l.any λl=>decide (0<l))=true then some (some l)else none)=some (some f):=h;split at h;exact h;cases h
  exact⟨by rwa[(B f this).1],(B f this).2⟩
 erw[⟨?_,λr i=>(ok r i).1⟩];replace ok:=λr i=>(ok r i).2;clear q;induction y with
 |nil=>exact .nil
 |@cons v r vs S a y T =>
  erw[.cons ?_ (T λr i=>ok r (SE _ i))];ext⟨p,u,e,I,L⟩ a;erw[⟨p,u,e,I,?_⟩];have o:=ok r SF;revert L o;cases r.o with
  |none=>exact λh _=>.inl h
  |some f =>
   rintro⟨l,e,J,g⟩ o;obtain⟨C,O⟩:=o f R;erw[.inr ⟨l,f.map λn=>((n:Nat):Int),e,by rwa[Og],g,by rwa[Sx],λx E=>?_⟩];obtain⟨n,hn,rfl⟩:=SL.mp E;have:=O n hn;lia
def Wy.put{ns:OH}(h:Wy G n H v r)(E:H l=some (.lst (ns.map V.int))):Wy G (n+1) (Za H l (.lst ((ns++[9]).map V.int))) v r:=by
 ext⟨p,u,e,D,j⟩ h;erw[⟨p,u,e,by rwa[Ze (Z5 D E ())],?_⟩];rcases j with j|⟨q,C,y,i,g,I,B⟩;exact .inl j;by_cases c:q=l;subst c;erw[.inr ⟨q,C++[9],y,?_,g,by rw[Sw,Sy];lia,λx f=>?_⟩];rw[Zj];rw[E]at i;have:=Sr i;injection this with this;rw[SN,SN,this];rcases SI.mp f with f|f;exact B x f;rw[SG.mp f];lia;exact .inr ⟨q,C,y,by rwa[Ze c],g,(),B⟩
def Wy.same(s:Zd H f)(h:Wy G n H v r):Wy G n f v r:=let ⟨p,u,e,hp,hu⟩:=h;⟨p,u,e,s _ _ hp,hu.imp id λ⟨l,ns,a,b,c⟩=>⟨l,ns,a,s _ _ b,c⟩⟩
def Wy.tl(s:Zd H i)(y:i lo=some (.lst C))(q:G lo≠none)(h:Wy G n H v r):Wy G n (VG (wo i lo)) v r:=by
 ext⟨p,u,e,j,B⟩ h;exact⟨p,u,e,ZcD (Zy (s _ _ j) (Z5 (s _ _ j) y ())),B.imp id λ⟨l,ns,a,b,c,f⟩=>⟨l,ns,a,ZcE (Zy (s _ _ b) λz=>q (z ▸ c)),c,f⟩⟩
def Wy.more(h:Wy G n H v r):Wy G (n+1) H v r:=by
 ext⟨p,u,e,i,j⟩ h;exact⟨p,u,e,i,j.imp id λ⟨l,ns,a,b,c,d,f⟩=>⟨l,ns,a,b,c,(),f⟩⟩
def ZcK(h:H a=none):wo H l a=none:=by
 unfold wo;split;rfl;exact h
def ZlR(h:a≠l):wo (Za H a o) l=Za (wo H l) a o:=by
 funext x;unfold wo Za;by_cases c:x=l;subst c;simp[h.symm];simp[c]
inductive ZlS(t:Ye)(K:OA)(vs:List V)(H:Hp)(Q:VK)(_e3:XK):Prop|mk (n g lo:Addr) (TS:List Zt) (b:NB) (KF GF:ZX) (m k:Nat) (_:vs=[.ref n,.ref g,.ref lo]) (_:Sd t H TS n g b KF GF m) (_:(∀x∈TS,x.cs≠[])) (_:m<32) (_:Xm t.Yf VE VF H) (_:V4 K H lo k) (_:k<1000) (_:∀H',Zd (wo (wo H t.Yf) lo) H'->Xm t.Yf VE VF H'->V4 K H' lo (k+1)->Q (.bl true) H')
def ZcL(c:Zv K mg t)(g0:W.CodeHd base t.QN t.Yf)(l0:BM mg base):Zo P w K mg base Zr 5 t.gW t.gX ["_law_notices","_law_gaps","_law_olds"] (ZlS t K):=by
 erw[c.Tt.F.ok Pq () λr2 A outer s H B c2 u2 f h=>?_];ext⟨n,g,lo,TS,b,X,U,m,k,rfl,i,ht,m1,hT,hO,k1,r0⟩ h;ext⟨ps,L⟩ hT.at;have up:∀{H'},Zd (wo H t.Yf) H'->Sd t H' TS n g b X U m:=λs=>i.tab λa o e nt=>s _ _ (Vt L e nt);have ke:∀{H'},Zd (wo H t.Yf) H'->WZ H H':=λs a o e _ nt=>s _ _ (Vt L e nt);erw[⟨_,(Zh (ZM 3 Pq.nd (E8 (pv 0) c.Yu c.J6.me (Zcz c g0 l0) (f.mono ()) c.J6.b .nil Zm)) (Zh (ZK (PW.pt (Uo (Yz (Yy (ZP VN c.YW YV (Zp (pv 3) (Vr R c.X4 X1))))) (Um (Ys (Nf f.units) (pv 3) (ZE c.Tr (ZcC c) f Zm (Zk (pv 1))))))) (Zi (ZA WA)) ZL) (Zh (Xq (Wo (pv 3)) (Z4 4 Pq.nd) (Zh (ZK (Yz (Yy (ZP VN c.YW YV (Zp (pv 4) (Vr R c.Qn Qm))))) (Zi (ZA WA)) ZL) (Zi (ZK (Yy (ZP VN c.YW YV (Zp (Zw ZN (pv 4) Zc) (Vr R c.X4 X1)))) (Zi (Z1 (V7 PySem.F.plainAttrs_list PySem.F.slot_list_append PySem.F.type_list_append Us (Zw ZN (pv 4) Zc) (Zk Zc)))) ZL)))) (Zh (Z1 (V7 PySem.F.plainAttrs_list PySem.F.slot_list_append PySem.F.type_list_append Us (pv 3) (Zk ZH))) (Zh (Z1 (V7 PySem.F.plainAttrs_list PySem.F.slot_list_append PySem.F.type_list_append Us (pv 2) (Zk (Yp (Zp (pv 3) (Yt (show YT _ _ (NP K)from qO f) R c.LJ Lv (Zk (pv 3)))))))) (Zi (ZA (WB (Ze3 f.units) (E8 (pv 0) c.Yu c.J6.me (Zcz c g0 l0) (f.mono ()) c.J6.b .nil Zm) (ZE c.Tr (ZcC c) f Zm (Zk (pv 1))) (Vo _))))))))),?_⟩];ext⟨dx,fs,e1,e2⟩ i.no.ob;sleep 6;erw[⟨_,R,n,dx,_,R,e1,e2.n_told,n,b,TS,X,m,R,i.no,m1,i.kn,hT,λS l B H1 hW lS s1 gl x0 T a0=>?_⟩];have S1:=up s1;ext⟨b2,n0,u1,i1⟩ S1.gp;erw[⟨_,R,.ref l,"list",_,_,R,.lst T,R,_,R,Zq () ?_⟩];erw[⟨_,R,_,R,g,b2,TS,U,m,R,n0,u1,(),i1,i.gn,λS2 l2 w2 H2 u0 s2 j2 s0 w1=>?_⟩];obtain rfl:=hW.uniq i.ag u0;obtain⟨o0,b0⟩:=ZcJ i.kn hW a0;have G:DV K H2 (.ref l) (.list (S.map Q0)):=.lst (Zg.of (s2 _ _ T)) (Ku (a0.imp λ_ _ h=>(h.same WP).same s2) λr f=>(b0 r f).1);have d2:DV K H2 (.ref l2) (.list (S.map Q0)):=.lst (Zg.of s0) (Ku (w1.imp λ_ _ h=>h.same WP) λr f=>(b0 r f).1);erw[⟨_,_,G,d2,by have:=yB S;simp[PyData.depth];lia,_,R,Zq (by rw[SeqAt.eqv_refl _ G.can];lia) ?_⟩];have q2:=a0.length;erw[⟨_,R,l,R,⟨_,Zg.of (s2 _ _ T)⟩,Qc (K:=K) (a:=l) (xs:=B) (λh0 Q H'=>Zd (wo H t.Yf) H'/\Xm t.Yf VE VF H'/\H' l=some (.lst B)/\Al (Wy H h0 (wo H' l)) B S/\∃J:Option V,Q=[some (.ref n),some (.ref g),some (.ref lo),some (.ref l),J]) ⟨s1.trans s2,x0.same s2,s2 _ _ T,?_,_,R⟩ (λp2 Q H' _ ⟨_,_,h,_⟩=>Zg.of h) ?_ ?_⟩];exact o0.imp λ_ _ h=>h.same (QJ s2);rintro h0 f0 Q H3 q ⟨Y,O,C,E,J,rfl⟩;sleep 102;obtain⟨r,er,p,k2,rfl,y,hu⟩:=E.get q;have hj:=(Su.mp q).1;have y:=(Z0 y).2;erw[⟨_,R,.ref p,"tuple",_,_,R,.tup y,R,_,R,Zq () ?_⟩];rcases hu with rfl|⟨l',ns,rfl,u,g',n6,n3⟩;exact⟨_,R,p,_,2,_,R,R,Zl.of y,R,.str _,"list",_,_,R,.str _,R,_,R,Zq () ⟨Y,O,C,E.imp λ_ _=>Wy.more,_,R⟩⟩;obtain⟨nl,u⟩:=Z0 u;erw[⟨_,R,p,_,2,_,R,R,Zl.of y,R,.ref l',"list",_,_,R,.lst u,R,_,R,Z3 () ⟨_,R,p,_,2,_,R,R,Zl.of y,R,.inl ⟨R,_,Zg.of u⟩,l',_,_,R,R,u,Sk (show _<=100 by rw[Sx];lia) (),?_⟩⟩];have ex:(ns.map V.int)++[V.int 9]=(ns++[9]).map V.int:=by rw[SN];rfl
 rw[ex];erw[⟨Y3 Y (ZcK g') _,O.put u,by rwa[Ze nl.symm],?_,_,R⟩];rw[ZlR nl];exact E.imp λ_ _ h=>h.put (Zy u nl);rintro Q H3 ⟨Y,O,C,E,J,rfl⟩;erw[⟨_,R,.inl ⟨R,_,Zg.of C⟩,l,B,_,R,R,C,Sk (show _<=100 by lia) (),?_⟩];have gw:wo H t.Yf l=none:=ZcK gl;generalize j:Za H3 l _=v;have s4:Zd (wo H t.Yf) v:=j ▸ Y3 Y gw _;have p0:Xm t.Yf VE VF v:=j ▸ O.put C;have f1:v l=some (.lst (B++[.str (ON "more")])):=j ▸ Zj;have w0:Zd (wo H3 l) v:=λa o e=>by rw[<-j,Ze (Z0 e).1];exact(Z0 e).2
 clear j;obtain⟨i2,d0,_⟩:=id hO;obtain⟨M,I,o2,o3⟩:=hO.keep (ke s4);have x1:l≠lo:=λz=>by rw[z,d0]at gl;cases gl
 obtain⟨ds,v1,v2,v3,J,v5⟩:=ZcI (K:=K) () (E.imp λ_ _ h=>h.tl w0 I (by rw[d0];exact ())) b0;have dv:DV K (VG (wo v lo)) (.ref l) (.list ds):=.lst (Zg.of (ZcE (Zy f1 x1))) v1;have gd:Gd (.list ds):=⟨by simp only[PyData.depth];lia,by simp only[PyData.weight];have:(2:Nat) ^ 20=1048576:=rfl;lia,by simp only[PyData.intsShort];exact J,by simp only[PyData.showable];exact v5⟩;erw[⟨_,R,.inl ⟨R,_,Zg.of I⟩,_,R,_,R,l,.list ds,R,dv.same (λa o e=>(Z0 (MB e).1).2),gd.dp,gd.wt,gd.it,gd.sh,zL9 R,λpt gt=>?_⟩];exists v,pt,Z,s5,gt,c5;have t1:pt≠lo:=(Zu I gt).symm;erw[⟨lo,_,_,R,R,s5 _ _ I,Sk (show M.length<=1000 by lia) (),?_⟩];have O6:V4 K (Za Z lo (.lst (M++[.ref pt]))) lo (k+1):=by
  erw[⟨_,Zj,by rw[Sw,Sy];lia,λf0 q=>?_⟩];rw[B2];have ks:=zZ (lo:=lo) (WZ.of s5);rcases SI.mp q with q|q;obtain⟨p,y0,d,e,L,hd,g⟩:=o3 f0 q;exact⟨p,y0,d,e,ks _ _ L,hd.same ks,g⟩;exact⟨pt,l,.list ds,SG.mp q,ZcD (Zy c5 t1),dv.same ks,gd⟩
 have s6:Zd (wo (wo H t.Yf) lo) (Za Z lo (.lst (M++[.ref pt]))):=λa o e=>by
  rw[Ze (Z0 e).1];exact s5 _ _ (s4 _ _ (Z0 e).2)
 have c0:Xm t.Yf VE VF (Za Z lo (.lst (M++[.ref pt]))):=(p0.same s5).put (s5 _ _ I);generalize Za Z lo (.lst (M++[.ref pt]))=H6 at O6 s6 c0 ⊢;ext⟨z2,q0⟩ c0.at;have S6:Sd t H6 TS n g b X U m:=(i.off ht hO).tab λa o e nt=>s6 _ _ (Zy (Vt L (Z0 e).2 nt) (Z0 e).1);ext⟨q1,f2,a2,z0⟩ S6.no.ob;erw[⟨_,R,n,q1,_,R,a2,z0.n_told,n,b,TS,X,m,R,S6.no,m1,i.kn,c0,λS7 l7 y2 H7 k0 _ s7 m2 v0 h1 e0=>?_⟩];have j0:∀a o,H6 a=some o->(∀ps,o≠.tbl ps)->H7 a=some o:=λa o e nt=>s7 _ _ (Vt q0 e nt);obtain⟨t0,c1,b1,j1⟩:=(S6.tab j0).gp;erw[⟨_,R,g,t0,TS,U,m,R,c1,b1,(),j1,i.gn,λS8 l8 h2 H8 m0 D x2 a1 y1=>?_⟩];obtain rfl:=k0.uniq i.ag m0;have i0:=(ZcJ i.kn k0 e0).2;have G:DV K H8 (.ref l7) (.list (S7.map Q0)):=.lst (Zg.of (D _ _ h1)) (Ku (e0.imp λ_ _ h=>(h.same WP).same D) λr f=>(i0 r f).1);have d2:DV K H8 (.ref l8) (.list (S7.map Q0)):=.lst (Zg.of a1) (Ku (y1.imp λ_ _ h=>h.same WP) λr f=>(i0 r f).1);erw[⟨_,_,G,d2,by have:=yB S7;simp[PyData.depth];lia,?_⟩];rw[SeqAt.eqv_refl _ G.can];erw[r0 H8 (λa o e=>?_) (v0.same D) (O6.keep λa o e _ nt=>D _ _ (j0 a o e nt))];exact D _ _ (s7 _ _ (Zy (s6 _ _ e) (Z0 (Z0 e).2).1))
structure UB(H:Hp)(wd:Addr)(W:Yn):Prop where
 ex:∃kvs dr dp rr rp,H wd=some (.dK kvs)/\ZD kvs (Sum.inr (ON "rules"))=some (.ref dr)/\ZD kvs (Sum.inr (ON "trips"))=some (.ref dp)/\H dr=some (.dK rr)/\H dp=some (.dK rp)/\Al (XC H) rr W.ru/\Al (Xw H) rp W.tp
def UB.toT{W:Yn}(h:UB H c W):D3 H c W:=by
 ext⟨i,dr,dp,u,rp,q,B,v,j,y,f,e⟩ h.ex;exact⟨i,dr,dp,u,rp,q,B,v,.inl j,.inl y,f,e⟩
def UB.same{W:Yn}(s:Zd H e)(h:UB H c W):UB e c W:=by
 ext⟨j,dr,dp,v,rp,u,C,y,q,B,i,f⟩ h.ex;exact⟨j,dr,dp,v,rp,s _ _ u,C,y,s _ _ q,s _ _ B,i.imp λ_ _=>XC.same s,f.imp λ_ _=>Xw.same s⟩
def Q2(G H:Hp)(v:V):Option (List (Str×Int×Int))->Prop
 |none=>v=.non
 |some c=>∃l vs,v=.ref l/\G l=none/\H l=some (.lst vs)/\Al (X5 H) vs c
def Q2.same(s:Zd H c)(h:Q2 G H v o):Q2 G c v o:=by
 cases o with
 |none=>exact h
 |some q=>ext⟨l,f,e,g,j,i⟩ h;exact⟨l,f,e,g,s _ _ j,i.imp λ_ _=>X5.same s⟩
def ZlT{x:Zt}{E:XK}(B:QY H i x ru)(ok:x.Ok)(C:H g=some (.dT j))(gp:XS H j f)(q:∀ls,f x.nm day=some (some ls)->ls.length=x.cs.length)(h:∀v c,Zd H c->Q2 H c v (Wi x (f x.nm day) day)->Q v c):Zcs [.ref i,.ref g,.str x.nm,.int day] H Q E :=
 ⟨i,g,day,x,ru,j,f,R,B,ok,C,gp,q,λe c s=>h _ _ s (by rw[e];rfl),λD e l u c s n q y=>h _ _ s (by rw[e];exact⟨l,u,R,n,q,y⟩)⟩
def ZlU{n:Addr}{b:NB}{TS:List Zt}{f:ZX}{m day:Nat}{x:Zt}{Q:VK}{E:XK}(y:Yc t H n b TS f m)(ex:ZQ Zt.nm TS x.nm=some x)(j:day<=9999)(ok:x.Ok)(i:∀ls,f x.nm day=some (some ls)->ls.length=x.cs.length)(h:∀v c,Zd H c->Q2 H c v (Wi x (f x.nm day) day)->Q v c):Zcm t [.ref n,.str x.nm,.int day] H Q E :=
 ⟨n,TS,f,m,x.nm,day,x,R,⟨b,y⟩,ex,j,ok,i,λe c s=>h _ _ s (by rw[e];rfl),λB e l q c s n i u=>h _ _ s (by rw[e];exact⟨l,q,R,n,i,u⟩)⟩
def dM(m:Str×Int×Int):PyData:=.tuple [.str m.1,.int m.2.1,.int m.2.2]
theorem ZcM:∀{vs:List V} {ms:List (Str×Int×Int)},Al (X5 H) vs ms->(∀m∈ms,Yv m.1)->Xd K H vs (ms.map dM)
 |_,_,.nil,_=>.nil
 |_,_,.cons ⟨p,e,h⟩ r,ok=>by
  subst e;exact .cons (.tup (Zl.of h) (.cons (.str _ (U5 (ok _ SF))) (.cons (.int _) (.cons (.int _) .nil)))) (ZcM r λm hm=>ok m (SE _ hm))
theorem ZcN:∀c:List (Str×Int×Int),PyData.depthAll (c.map dM)<=1
 |[]=>by simp[PyData.depthAll]
 |m::c=>by
  have:=ZcN c;simp[dM,PyData.depth,PyData.depthAll];lia
def Kv:Option (List (Str×Int×Int))->PyData
 |none=>.none
 |some c=>.list (c.map dM)
def Q2.dv(h:Q2 G H v o)(ok:∀c,o=some c->∀m∈c,Yv m.1):DV K H v (Kv o):=by
 cases o with
 |none=>obtain rfl:v=.non:=h;exact .non
 |some c=>ext⟨l,i,rfl,_,e,f⟩ h;exact .lst (Zg.of e) (ZcM f (ok c R))
def ZlV(o:Option (List (Str×Int×Int))):(Kv o).depth<=2:=by
 cases o with
 |none=>simp[Kv,PyData.depth]
 |some c=>have:=ZcN c;simp[Kv,PyData.depth];lia
def ZlW{h:OF}{x:Zt}{o:Option (Option (List Nat))}{day:Nat}(j:∀c∈x.cs,c.st∈h)(hn:∀z∈h,Yv z):∀f,Wi x o day=some f->f.length<=x.cs.length/\∀m∈f,Yv m.1:=λf e=>by
 unfold Wi at e;split at e;split at e;cases e;cases e;unfold Y1;erw[⟨by rw[List.length_zipWith];lia,λm hm=>?_⟩];obtain⟨i,q,rfl⟩:=List.mem_iff_getElem.mp hm;rw[List.getElem_zipWith];exact hn _ (j _ (Ol _));cases e
def ZlX{W:Yn}(ok:QV W){y:Tp}(c:y∈W.tp):ZQ Zt.nm (YM W) y.nm=some (Ui W y):=by
 unfold YM;rw[zY (nm:=Tp.nm) (f:=Ui W) (nm':=Zt.nm) (λ_=>R),Mr ok.pn c];rfl
def ZcO{W:Yn}(c:QV W)(h:v∈(W.tp.map Tp.nm).map V.str):∃x,v=.str x.nm/\ZQ Zt.nm (YM W) x.nm=some x:=by
 obtain⟨z,f,rfl⟩:=SL.mp h;obtain⟨y,e,rfl⟩:=SL.mp f;exact⟨Ui W y,R,ZlX c e⟩
def Qw{TS:List Zt}{F:ZX}(h:XT TS F){z:Str}{x:Zt}(e:ZQ Zt.nm TS z=some x){d:Nat}:∀ls,F z d=some (some ls)->ls.length=x.cs.length/\∀l∈ls,l<=300:=λls f=>by
 obtain⟨i,c,_,_,h,_⟩:=h z d (by rw[f];exact ());rw[e]at c;obtain rfl:=Sr c;exact h ls f
def MC{x:Zt}(h:∀ls,o=some (some ls)->ls.length=x.cs.length):Xv x o=Xv x (YF o):=by
 cases o with
 |none=>rfl
 |some o=>cases o with
  |none=>rfl
  |some ls =>
   show ls=Xv x (if (ls.any λl=>decide (0<l))=true then some (some ls)else none);split;rfl;rename_i c;erw[List.eq_replicate_iff.mpr ⟨h ls R,λl e=>?_⟩];by_cases z:l=0;exact z;exact Ov (List.any_eq_true.mpr ⟨l,e,SS ()⟩) c
def Qx:o=some none↔YF o=some none:=by
 cases o with
 |none=>exact Iff.rfl
 |some o=>cases o with
  |none=>exact Iff.rfl
  |some c =>
   show _↔(if (c.any λl=>decide (0<l))=true then some (some c)else none)=some none;split<;>exact⟨(),()⟩
def ZlY{x:Zt}(h:∀ls,o=some (some ls)->ls.length=x.cs.length)(h':∀ls,f=some (some ls)->ls.length=x.cs.length)(e:YF o=YF f)(day:Nat):Wi x o day=Wi x f day:=by
 unfold Wi;rw[MC h,MC h',e];by_cases c:o=some none;rw[SY c,SY (Qx.mpr (e ▸ Qx.mp c))];rw[SX c,SX λz=>c (Qx.mpr (e ▸ Qx.mp z))]
inductive ZlZ(t:Ye)(K:OA)(vs:List V)(H:Hp)(Q:VK)(_e3:XK):Prop|mk (n wd g ld lo:Addr) (G:Hp) (Wm:Yn) (b:NB) (KF GF:ZX) (m k M:Nat) (ds:OJ) (_:vs=[.ref n,.ref wd,.ref g,.ref ld,.int M,.ref lo]) (_:Sd t H (YM Wm) n g b KF GF m) (_:m<32) (_:Zd G H) (_:G lo=none) (_:G t.Yf=none) (_:UB G wd Wm) (_:QV Wm) (_:H ld=some (.lst (ds.map λn=>V.int (n:Nat)))) (_:ld≠lo) (_:(∀d∈ds,d<=9999)) (_:Xm t.Yf VE VF H) (_:V4 K H lo k) (_:k<1000) (_:∀H',Zd (wo (wo H t.Yf) lo) H'->Xm t.Yf VE VF H'->V4 K H' lo (k+1)->Q (.bl true) H')
def Zl0(f:Zv K mg t)(g0:W.CodeHd base t.QN t.Yf)(q0:BM mg base):Zo P w K mg base Zr 14 t.gY t.gZ ["_law_notices","_law_world_here","_law_gaps","_law_days_here","_law_turn","_law_olds"] (ZlZ t K):=by
 erw[f.Zbl.F.ok Lr () λq1 A outer s H vs f0 t1 G h=>?_];ext⟨n,wd,g,ld,lo,t0,C,b,T,GF,m,k,M,ds,rfl,Q,m1,sG,r0,i1,hW,X,d1,y0,d9,hT,hO,k1,h0⟩ h;ext⟨ps,hp⟩ hT.at;have ht:∀x∈YM C,x.cs≠[]:=λx E m0=>by
  obtain⟨y,hy,rfl⟩:=SL.mp E;have:=(X.po y hy).2.2.2.1;rw[show y.cs=[] from m0]at this;exact Ov this ()
 have up:∀{H'},Zd (wo (wo H t.Yf) lo) H'->Sd t H' (YM C) n g b T GF m:=λs=>(Q.off ht hO).tab λa o e nt=>s _ _ (Zy (Vt hp (Z0 e).2 nt) (Z0 e).1);have b1:∀{H'},Zd (wo (wo H t.Yf) lo) H'->Zd t0 H':=λs a o e=>s _ _ (Zy (Zy (sG _ _ e) λz=>by rw[z,i1]at e;cases e) λz=>by rw[z,r0]at e;cases e);erw[⟨_,(Uu (ZK (PW.pt (ML (Ys YZ (Zf ZZ (pv 4) Zc) Zc) (MK (Yz (Yy (ZE f.Tt (ZcL f g0 q0) G Zm (Yk (pv 0) (pv 2) (pv 5)))))))) (Zi (ZA WA)) ZL) (Zh (Xq (Wo (qP (Yt (B1 R) R f.X4 X1 (Zk (YI G (pv 1) ZH))) (Ur (Zf Vm Zc (Zf VH Zc (Zf ZZ (Zf YN (pv 4) Zc) Zc)))))) (Z4 6 Lr.nd) (Zi (Xq (Wo (pv 3)) (Z4 7 Lr.nd) (Zh (ZM 8 Lr.nd (YO (pv 0) f.Yu f.C0.me (Zlg f) (G.mono ()) f.C0.b .nil Zm (Zp (pv 6) (pv 7)))) (Zh (ZK (Ys (Nf G.units) (pv 8) (ZE f.Zbj (ZlF f) G Zm (Uw (pv 1) (pv 2) (pv 6) (pv 7)))) (Zi (ZA WA)) ZL) (Zi (ZK (UF (Zdf (pv 8))) (Zh (ZK (PW.pt (Uo (Yz (Yy (ZP VN f.YW YV (Zp (pv 8) (Vr R f.X4 X1))))) (Um (Yz (Yy (ZP (K4 R) f.LH Ls (Zk (V8 (cl:=[]) (N:=["_law_call"]) (fr:=[none]) R (Wo (pv 8)) R () R () trivial trivial R (λ_ _ _ _ _=>(Z4 0 (show List.Nodup (["_law_call"]:OF) by lia))) (λ_ _ _ _ _=>VQ) (λ_ _ _ _ _=>(ZP (show YT _ (.builtin "isinstance") (λxs H f0=>∃x n0 t b,xs=[x,V.ty n0]/\XW K H x t/\W.kitOne K t (Value.type n0)=some b/\f0 (V.bl b) H)from VN) f.YW YV (Zp (pv 0) (Vr R f.Qn Qm)))))))))))) (Zi (ZA WA)) ZL) (Zi (Z1 (Zet PySem.F.plainAttrs_list PySem.F.slot_list_clear PySem.F.type_list_clear Zex (pv 8))))) ZL))))))) (Zi (ZA (MN (WB YZ (Zf ZZ (pv 4) Zc) Zc (Vo _)) (Vl (ZE f.Tt (ZcL f g0 q0) G Zm (Yk (pv 0) (pv 2) (pv 5))))))))),?_⟩];sleep 1;erw[⟨λc D=>∃L,Zd (wo (wo H t.Yf) lo) D/\Xm t.Yf VE VF D/\V4 K D lo L/\L<1001/\(M%2=1->L=k+1)/\(M%2=0->L=k)/\c=[some (.ref n),some (.ref wd),some (.ref g),some (.ref ld),some (.int M),some (.ref lo),none,none,none],?_,?_⟩];erw[⟨_,R,_,_,R,R,(),R,_,R,?_⟩];rcases(show M%2=0\/M%2=1 by lia)with O|O;rw[show(M:Int)%2=0 by lia];erw[Zq () ?_];exact Zq () ⟨k,λa o e=>(Z0 (Z0 e).2).2,hT,hO,(),(),λ_=>R,R⟩;rw[show(M:Int)%2=1 by lia];erw[Z3 () ?_];exact⟨_,R,_,R,_,R,n,g,lo,YM C,b,T,GF,m,k,R,Q,ht,m1,hT,hO,k1,λH' s' d0 O'=>⟨_,R,Zq () ⟨k+1,s',d0,O',(),λ_=>R,(),R⟩⟩⟩;rintro c D ⟨L,ss,l0,Os,o1,kb,kc,rfl⟩;have sg:=b1 ss;have Ss:=up ss;have o0:=ss _ _ (Zy (Vt hp d1 ()) y0);obtain⟨wk,dr,dp,rr,rp,e1,e2,e3,e4,e5,e6,e7⟩:=(hW.same sg).ex;sleep 2;erw[⟨_,R,wd,.ref dp,R,by rw[<-e3];exact Yr.k (k:=Sum.inr (ON "trips")) e1,dp,rp,R,e5,λlt gt=>?_⟩];rw[Mz (λkv x (h:Xw D kv x)=>h.1) e7];exists D,lt,H1,s1,gt,c1;obtain⟨J,a1,u0⟩:∃J:List V,(∀v∈J,v∈(C.tp.map Tp.nm).map V.str)/\((some ((1:Int) - 2*((M:Int)/2%2))=some 1/\J=(C.tp.map Tp.nm).map V.str)\/(some ((1:Int) - 2*((M:Int)/2%2))=some (-1)/\J=((C.tp.map Tp.nm).map V.str).reverse)):=by
  rcases(show(M:Int)/2%2=0\/(M:Int)/2%2=1 by lia)with h|h;exact⟨_,λv h=>h,.inl ⟨by rw[h];rfl,R⟩⟩;exact⟨_,λv h=>List.mem_reverse.mp h,.inr ⟨by rw[h];rfl,R⟩⟩
 erw[⟨_,R,_,_,R,R,⟨(),()⟩,_,_,R,R,(),_,_,R,R,.inl ⟨(),()⟩,_,_,R,R,_,R,lt,_,J,u0,R,Zg.of c1,λp2 g2=>?_⟩];generalize i:Za H1 p2 _=H2;have s2:=s1.trans (ZR g2 i);have c2:=ZV i;clear i c1 s1;erw[⟨p2,R,⟨_,Zg.of c2⟩,Qc (K:=K) (a:=p2) (xs:=J) (λj c H'=>Zd H2 H'/\∃v6 B u:Option V,c=[some (.ref n),some (.ref wd),some (.ref g),some (.ref ld),some (.int M),some (.ref lo),v6,B,u]) ⟨Zd.refl _,_,_,_,R⟩ (λj c H' _ ⟨h,_⟩=>Zg.of (h _ _ c2)) ?_ ?_⟩];rintro j v c H3 Y ⟨s3,v6,B,u,rfl⟩;obtain⟨x,rfl,E⟩:=ZcO X (a1 v (SM Y));sleep 101;erw[⟨_,R,ld,R,⟨_,Zg.of (s3 _ _ (s2 _ _ o0))⟩,Qc (K:=K) (a:=ld) (xs:=ds.map λn=>V.int (n:Nat)) (λj c H'=>Zd H2 H'/\∃B u:Option V,c=[some (.ref n),some (.ref wd),some (.ref g),some (.ref ld),some (.int M),some (.ref lo),some (.str x.nm),B,u]) ⟨s3,_,_,R⟩ (λj c H' _ ⟨h,_⟩=>Zg.of (h _ _ (s2 _ _ o0))) ?_ ?_⟩];rintro j v c H4 Y ⟨q,B,u,rfl⟩;rw[Oc]at Y;obtain⟨day,ed,rfl⟩:=Oh.mp Y;have z0:=d9 day (SM ed);have S4:=Ss.same (s2.trans q);ext⟨dx,fs,f1,f2⟩ S4.no.ob;ext⟨u1,j1,_,w0⟩ S4.gp;obtain⟨ru,h1,e0,_,_,cs⟩:=((hW.same sg).same (s2.trans q)).toT.trip X E;have k0:=λls h=>(Qw Q.kn E (d:=day) ls h).1;have i0:=λls h=>(Qw Q.gn E (d:=day) ls h).1;have a0:=ZlW (x:=x) (o:=T x.nm day) (day:=day) cs.st λz hz=>by
  obtain⟨y,hy,rfl⟩:=SL.mp hz;exact(X.so y hy).1
 have em:=ZlY k0 i0 (Q.ag x.nm day) day;sleep 103;erw[⟨_,R,n,dx,_,R,f1,f2.n_moments,_,R,_,R,ZlU S4.no E z0 e0 k0 λv H5 s5 m5=>?_⟩];erw[⟨_,R,_,R,_,R,_,R,_,R,ZlT (h1.same s5) e0 (s5 _ _ j1) (w0.same s5) i0 λx0 H6 s6 m6=>?_⟩];rw[<-em]at m6;have b0:=m5.same s6;generalize Wi x (T x.nm day) day=o at a0 b0 m6;have p0:DV K H6 v (Kv o):=b0.dv λU e=>(a0 U e).2;erw[⟨_,_,p0,m6.dv λU e=>(a0 U e).2,by have:=ZlV o;lia,_,R,Zq (by rw[SeqAt.eqv_refl _ p0.can];lia) ?_⟩];have j0:=s5.trans s6;cases o with
 |none =>
  obtain rfl:v=.non:=b0;exact⟨_,R,_,R,Zq () ⟨q.trans j0,_,_,R⟩⟩
 |some U =>
  ext⟨l,vs,rfl,gl,S,al⟩ b0;have lv:=al.length;have l6:=(a0 U R).1;have x6:=e0.len;erw[⟨_,R,_,R,Z3 (by rw[SU ()];rfl) ?_⟩];sleep 2;erw[⟨_,R,.ref l,"list",_,_,R,.lst S,R,_,R,Zq () ?_⟩];erw[⟨_,R,l,R,⟨_,Zg.of S⟩,UM (K:=K) (a:=l) (xs:=vs) (λc0 Z c H'=>H'=H6/\Z=(List.replicate c0 true).map V.bl/\∃v,c=[v]) ⟨R,R,none,R⟩ (Si (show _<=6 by lia) ()) (λc0 Z c H' _ ⟨z,_⟩=>by rw[z];exact Zg.of S) ?_ ?_⟩];rintro c0 x0 Z c H7 ha hu ⟨rfl,rfl,v0,rfl⟩;obtain⟨m0,_,p,rfl,hp⟩:=al.get hu;dsimp only[XE,Vs];rw[SY R];exact⟨_,R,.ref p,"tuple",_,_,R,.tup hp,R,by rw[Sw,Sy];lia,R,by rw[List.replicate_succ',SN];rfl,_,R⟩;rintro Z c H7 ha ⟨rfl,rfl,v0,rfl⟩ pc gc;exists H7,pc,H8,s8,gc,c8;erw[⟨pc,_,R,Zg.of c8,_,R,Zq (by rw[show(List.replicate vs.length true).all id=true from List.all_eq_true.mpr λb hb=>List.eq_of_mem_replicate hb];lia) ?_⟩];exact⟨_,R,.inl ⟨R,_,Zg.of (s8 _ _ S)⟩,l,vs,R,R,s8 _ _ S,Y3 (q.trans (j0.trans s8)) (q.free gl) _,_,_,R⟩
 rintro c H4 ⟨q,B,u,rfl⟩;exact⟨q,_,_,_,R⟩;rintro c H3 ⟨s3,v6,B,u,rfl⟩;have I:=s2.trans s3;have S3:=Ss.same I;have s0:Zd (wo (wo H t.Yf) lo) H3:=ss.trans I;erw[⟨_,R,_,_,R,R,(),R,_,R,?_⟩];rcases(show M%2=0\/M%2=1 by lia)with O|O;rw[show(M:Int)%2=0 by lia];obtain rfl:=kc O;erw[Zq () ⟨_,R,_,R,_,R,n,g,lo,YM C,b,T,GF,m,_,R,S3,ht,m1,l0.same I,Os.keep (WZ.of I),k1,λH' s' d0 O'=>h0 H' (λa o e=>?_) d0 O'⟩];exact s' _ _ (Zy (Zy (s0 _ _ e) (Z0 (Z0 e).2).1) (Z0 e).1);rw[show(M:Int)%2=1 by lia];obtain rfl:=kb O;exact Z3 () (h0 H3 s0 (l0.same I) (Os.keep (WZ.of I)))
def XS.put(h:XS H c i)(D:H g=some (.dT c))(q:match o with|none=>v=.non|some ls=>∃l,v=.ref l/\H l=some (.lst (ls.map λn=>V.int (n:Nat)))) :
  XS (Za H g (.dT (YD c (ZU day z) v))) (YD c (ZU day z) v) (X7 i z day o):=λf j=>by
 have keep:∀{p B},H p=some (.lst B)->∀u,Za H g u p=some (.lst B):=λy u=>by rwa[Ze (Z5 y D (by intro z;cases z))]
 rw[Nu];have C:=h f j;unfold X7;by_cases e:f=z/\j=day;rw[SY e];rw[e.1,e.2,SY R];cases o with
 |none=>exact congrArg some q
 |some ls=>ext⟨l,rfl,E⟩ q;exact⟨l,R,keep E _⟩
 rw[SX e,SX λz=>e (C9 z)];revert C;cases i f j with
 |none=>exact id
 |some o=>cases o with
  |none=>exact id
  |some ls=>exact λ⟨l,e,h⟩=>⟨l,e,keep h _⟩
def MD(c:ZX)(z:Str)(day:Nat)(o:Option (List Nat)):X7 c z day o z day=some o:=SY ⟨R,R⟩
def ZcP(c:ZX)(z:Str)(day:Nat):U7 c z day z day=none:=SY ⟨R,R⟩
def ZcQ{x:Zt}(h:∀ls,o=some (some ls)->ls.length=x.cs.length/\∀l∈ls,l<=300)(i:c<=x.cs.length)(j:k<=300):(XB x o c k).length=x.cs.length/\∀l∈XB x o c k,l<=300:=by
 erw[⟨zW (λls e=>(h ls e).1) k i,λl f=>?_⟩];unfold XB at f;rcases SI.mp f with f|f;have f:=List.mem_of_mem_take f;cases o with
 |none=>rw[List.eq_of_mem_replicate f];lia
 |some o=>cases o with
  |none=>rw[List.eq_of_mem_replicate f];lia
  |some ls=>exact(h ls R).2 l f
 rwa[List.eq_of_mem_replicate f]
def Xa(x:Zt)(o:Option (Option (List Nat)))(day way c k:Nat):Option Wn:=if x.r.runs day=false\/(way<2/\o=some none)then some .run else if way=0/\VD (Y1 0 x.cs (XB x o c k))=false then some .calls else none
def U8(x:Zt)(o:Option (Option (List Nat)))(way c k:Nat):Option (List Nat):=if way=1 then none else some (if way=0 then XB x o c k else List.replicate x.cs.length 0)
inductive Zl1(vs:List V)(H:Hp)(Q:VK)(_e3:XK):Prop|mk (wd g:Addr) (day way c k m:Nat) (x:Zt) (ru:Str) (kvs:List (List Zn×V)) (GF:ZX) (NS:OF) (_:vs=[.ref wd,.ref g,.str x.nm,.int day,.int way,.int c,.int k]) (_:QY H wd x ru) (_:x.Ok) (_:H g=some (.dT kvs)) (_:X8 kvs m) (_:m<1000) (_:XS H kvs GF) (_:(∀ls,GF x.nm day=some (some ls)->ls.length=x.cs.length)) (_:c<x.cs.length) (_:Vj NS x.cs) (_:(∀w,Xa x (GF x.nm day) day way c k=some w->∀H',Zd H H'->Q (.str w.txt) H')) (_:(Xa x (GF x.nm day) day way c k=none->∀H' kvs',Zd (wo H g) H'->H' g=some (.dT kvs')->X8 kvs' (m+1)->XS H' kvs' (X7 GF x.nm day (U8 x (GF x.nm day) way c k))->Q .non H'))
def Zl2(I:Zv K mg t):Zo P w K mg base Zr 12 t.gP t.gQ ["_law_world_here","_law_gaps","_law_trip","_law_day","_law_way","_law_call","_law_minutes"] Zl1:=by
 erw[I.Zbk.F.ok Ql () λy1 A outer s r0 vs i0 a2 Q h=>?_];ext⟨wd,g,q,C,c,k,m,x,ru,a0,y,NS,rfl,hT,f0,hg,k2,m1,gp,q0,hc,cs,q1,q2⟩ h;ext⟨wk,dr,dp,rr,rp,r,H,B,v,tp,e1,e2,e3,e4,e5,e6,e7,e8,e9,t0,j1⟩ hT.ex;have w1:=e9.length;have l6:=f0.len;have lm:=Kn q0;erw[⟨_,(Zh (MP (YI Q (YI Q (pv 0) ZH) (pv 2)) (WJ (n:=2) R (YQ (Z4 7 Ql.nd) (YQ (Z4 8 Ql.nd) WI)))) (Zh (ZM 9 Ql.nd (Ny (Xk Q) (pv 1) (Yp (Zp (pv 3) (pv 2))) (Zf Xj (Z7 (Zk Zc)) (ZP Xt I.Xi Xh (Zk (pv 8)))) ⟨R,R,R,R⟩)) (Uu (ZK (PW.pt (Uo (Yz (Yy (ZE I.WH (Zcq I 8) Q Zm (Zp (YI Q (YI Q (pv 0) ZH) (pv 7)) (pv 3))))) (Um (PW.pt (ML (Ys KM (pv 4) Zc) (MK (UF (Kz (pv 9))))))))) (Zi (ZA ZH)) ZL) (Zh (ZM 10 Ql.nd (Zf Xj (Z7 (Zk Zc)) (ZP Xt I.Xi Xh (Zk (pv 8))))) (Uu (ZK (Ys YZ (pv 4) Zc) (Zh (ZM 10 Ql.nd (Zf XH (QF KQ (pv 9) Q8 (Ur (pv 5))) (Zf Xj (Z7 (Zk (pv 6))) (Zf Vm (ZP Xt I.Xi Xh (Zk (pv 8))) (pv 5))))) (Zi (Xq (Uq R I.VU (Zk (Zf Vm (ZP Xt I.Xi Xh (Zk (pv 8))) Zc))) (Z4 11 Ql.nd) (Zh (ZM 12 Ql.nd (Zf Z9 (Zw ZN (Zw YC (pv 8) (pv 11)) Zc) (Zw YC (pv 10) (pv 11)))) (Zi (ZK (Ys Vn (Zf Z9 (Zw ZN (Zw YC (pv 8) (Zf Z9 (pv 11) Zc)) Zc) (Zw YC (pv 10) (Zf Z9 (pv 11) Zc))) (pv 12)) (Zi (ZA ZH)) ZL)))))) ZL) (Zh (VR (Xk Q) (pv 1) (Yp (Zp (pv 3) (pv 2))) (Q4 (Ys YZ (pv 4) Zc) Ul (pv 10)) R) (Zi (ZA Ul)))))))),?_⟩];sleep 3;erw[⟨_,R,wd,.ref dp,R,by rw[<-e3];exact Yr.k (k:=Sum.inr (ON "trips")) e1,_,R,dp,.ref r,R,.inl ⟨rp,Sum.inr x.nm,e5,R,e6.symm⟩,r,_,R,Zl.of e7,R,_,_,R,_,_,R,R,?_⟩];erw[⟨_,R,g,R,.inr ⟨a0,.inl hg⟩,_,R,_,R,zL9 R,λpk gk=>?_⟩];exists r0,pk,H1,s1,gk,c1;erw[⟨zL9 R,λp0 g0=>?_⟩];exists H1,p0,H2,s2,g0,c2;have S2:=s1.trans s2;erw[⟨_,R,H,_,R,.inl (Zg.of (S2 _ _ e8)),p0,((B.length:Nat):Int),_,R,R,c2,(),(),by show 1*_<=sizeLine;exact Si (show _<=6 by lia) (),λpr gr=>?_⟩];rw[show(List.replicate ((B.length:Nat):Int).toNat [V.int 0]).flatten=(List.replicate x.cs.length 0).map λn:Nat=>V.int (n:Nat) by rw[show((B.length:Nat):Int).toNat=x.cs.length by lia];exact D2 _ 0];exists H2,pr,H3,s3,gr,c3;have L:=S2.trans s3;erw[⟨_,Yr.t (k:=ZU q x.nm) (L _ _ hg) ((s2.trans s3) _ _ c1),?_⟩];have hk:=gp.same L x.nm q;obtain⟨ov,o0,m0⟩:∃ov:V,(ZD a0 (ZU q x.nm)).getD (.ref pr)=ov/\(y x.nm q=some none/\ov=.non\/y x.nm q≠some none/\∃J,ov=.ref J/\H3 J=some (.lst ((Xv x (y x.nm q)).map λn=>V.int (n:Nat)))):=by
  erw[⟨_,R,?_⟩];revert hk;cases y x.nm q with
  |none=>exact λhk=>.inr ⟨(),pr,by rw[hk];rfl,c3⟩
  |some o=>cases o with
   |none=>exact λhk=>.inl ⟨R,by rw[hk];rfl⟩
   |some ls=>exact λ⟨J,e,h⟩=>.inr ⟨(),J,by rw[e];rfl,h⟩
 rw[o0];clear o0 hk;erw[⟨λG U=>Zd H3 U/\x.r.runs q=true/\¬ (C<2/\y x.nm q=some none)/\G=[some (.ref wd),some (.ref g),some (.str x.nm),some (.int q),some (.int C),some (.int c),some (.int k),some (.str ru),some (.ref H),some ov,none,none,none],?_,?_⟩];erw[⟨_,R,wd,.ref dr,R,by rw[<-e2];exact Yr.k (k:=Sum.inr (ON "rules")) (L _ _ e1),_,R,dr,v,R,.inl ⟨rr,Sum.inr ru,e4.imp (L _ _) λ⟨o,z0⟩=>⟨o,L _ _ z0⟩,R,t0.symm⟩,_,R,tp,v,x.r,q,R,j1.same L,f0.r.1,f0.r.2.2,λU Z=>⟨_,R,?_⟩⟩];have S4:=L.trans Z;cases d0:x.r.runs q with
 |false =>
  erw[Z3 () ?_];exact Z3 R (q1 .run (by unfold Xa;rw[SY (.inl d0)]) U S4)
 |true =>
  erw[Zq () ?_];erw[⟨_,R,_,_,R,R,_,R,?_⟩];by_cases D:C<2;erw[Z3 (SS ()) ?_];rcases m0 with⟨T,rfl⟩|⟨T,J,rfl,l0⟩;exact⟨_,R,_,R,Z3 (SS R) (q1 .run (by unfold Xa;rw[SY (.inr ⟨D,T⟩)]) U S4)⟩;exact⟨_,R,_,R,Zq (by rw[SU ()];lia) ⟨Z,R,λz=>T z.2,R⟩⟩;erw[Zq (by rw[SU ()];lia) ?_];exact Zq () ⟨Z,R,λz=>D z.1,R⟩
 rintro G U ⟨Z,d0,hb,rfl⟩;have S4:=L.trans Z;sleep 2;erw[⟨zL9 R,λp5 g5=>?_⟩];exists U,p5,H5,s5,g5,c5;have S5:=S4.trans s5;erw[⟨_,R,H,_,R,.inl (Zg.of (S5 _ _ e8)),p5,((B.length:Nat):Int),_,R,R,c5,(),(),by show 1*_<=sizeLine;exact Si (show _<=6 by lia) (),λpz gz=>?_⟩];rw[show(List.replicate ((B.length:Nat):Int).toNat [V.int 0]).flatten=(List.replicate x.cs.length 0).map λn:Nat=>V.int (n:Nat) by rw[show((B.length:Nat):Int).toNat=x.cs.length by lia];exact D2 _ 0];exists H5,pz,H6,s6,gz,cz;have S6:=S5.trans s6;have a1:=s5.trans s6;erw[⟨λG O=>∃(E:Addr) (c0 e0:Option V),Zd H6 O/\(C=0->VD (Y1 0 x.cs (XB x (y x.nm q) c k))=true)/\O E=some (.lst ((if C=0 then XB x (y x.nm q) c k else List.replicate x.cs.length 0).map λn:Nat=>V.int (n:Nat)))/\G=[some (.ref wd),some (.ref g),some (.str x.nm),some (.int q),some (.int C),some (.int c),some (.int k),some (.str ru),some (.ref H),some ov,some (.ref E),c0,e0],?_,?_⟩];erw[⟨_,R,R,_,R,?_⟩];by_cases D:C=0;subst D;erw[Z3 () ?_];rcases m0 with⟨T,_⟩|⟨T,J,rfl,l0⟩;exact Ov ⟨(),T⟩ hb;have d1:=a1 _ _ (Z _ _ l0);sleep 2;erw[⟨_,R,_,R,_,R,J,_,R,Zg.of d1,λl4 g4=>?_⟩];rw[Zco,<-List.map_take];exists H6,l4,H7,s7,g4,c7;erw[⟨_,R,zL9 R,λS M=>?_⟩];exists H7,S,H8,s8,M,c8;have S8:=(S6.trans s7).trans s8;erw[⟨_,R,H,_,R,.inl (Zg.of (S8 _ _ e8)),_,R,_,_,R,R,S,((B.length:Nat):Int) - (c:Int),_,R,R,c8,(),(),by show 1*_<=sizeLine;exact Si (show _<=6 by lia) (),λp9 g9=>?_⟩];rw[show(((B.length:Nat):Int) - (c:Int)).toNat=x.cs.length - c by lia,D2];exists H8,p9,H9,s9,g9,c9;erw[⟨l4,p9,_,_,R,R,(s8.trans s9) _ _ c7,c9,by rw[Sx,Sx,Sz,SC,lm];exact Si (show _<=6 by lia) (),λE gf=>?_⟩];rw[<-SN,show(Xv x (y x.nm q)).take c++List.replicate (x.cs.length - c) k=XB x (y x.nm q) c k from R];have ln:=zW q0 k (show c<=x.cs.length by lia);have q3:VD (Y1 0 x.cs (XB x (y x.nm q) c k))=false->∀O,Zd r0 O->i0 (.str (ON "calls")) O:=λh=>q1 .calls (by unfold Xa;rw[SX (by rw[d0];exact λz=>z.elim () hb),SY ⟨R,h⟩]);generalize n0:XB x (y x.nm q) c k=u at ln q3 ⊢;exists H9,E,HA,sA,gf,cA;have h0:=((s7.trans s8).trans s9).trans sA;have X:=S6.trans h0;have iff:=Mu (Y1 0 x.cs u);have x1:(Y1 0 x.cs u).length=x.cs.length:=by unfold Y1;rw[List.length_zipWith,ln,Nat.min_self]
 have b0:∀i (hi:i<x.cs.length),(Y1 0 x.cs u)[i]? = some (Qt 0 x.cs[i] (u[i]'())):=λi hi=>by
  unfold Y1;rw[List.getElem?_zipWith,Sv hi,Sv ()]
 have fl:∀i (hi:i+1<x.cs.length),V2 (Qt 0 x.cs[i+1] (u[i+1]'())) (Qt 0 x.cs[i] (u[i]'()))=decide ((x.cs[i].lv:Int)+(u[i]'():Nat)<x.cs[i+1].ar+(u[i+1]'():Nat)):=λi hi=>by
  have hf:=cs.fol i x.cs[i] x.cs[i+1] (Sv _) (Sv _);unfold V2;rw[SU (show ¬ V.str (Qt 0 x.cs[i+1] (u[i+1]'())).1=V.str (Qt 0 x.cs[i] (u[i]'())).1 from λe=>hf.1 (by injection e))];show(true && decide _)=_;rw[Ow];erw[decide_eq_decide.mpr ?_];show(0:Int)+((u[i+1]'():Nat):Int)+(x.cs[i+1].ar:Nat)>0+((u[i]'():Nat):Int)+(x.cs[i].lv:Nat)↔_;constructor<;>intro h<;>omega
 refine⟨_,R,H,_,R,.inl (Zg.of (X _ _ e8)),_,_,R,R,_,R,(),(),UH (λi G O=>O=HA/\(∀j a b,j<i->(Y1 0 x.cs u)[j]? = some a->(Y1 0 x.cs u)[j+1]? = some b->V2 b a=true)/\∃c0 e0:Option V,G=[some (.ref wd),some (.ref g),some (.str x.nm),some (.int q),some (.int (0:Nat)),some (.int c),some (.int k),some (.str ru),some (.ref H),some (.ref J),some (.ref E),c0,e0])
  ⟨R,(),_,_,R⟩ ?_ ?_⟩
 rintro i G HB hi ⟨rfl,ok,v9,t1,rfl⟩;sleep 102;have h1:i+1<x.cs.length:=by lia
 obtain⟨ca,x0,pa,b1,k1⟩:=e9.get (Sv (show i<B.length by lia));obtain⟨cb,o1,pb,s0,f1⟩:=e9.get (Sv (show i+1<B.length by lia));have v1:YP B (0+(i:Int))=some (.ref pa):=by rw[Int.zero_add,<-b1];exact XZ (Sv _)
 have u0:YP B (0+(i:Int)+1)=some (.ref pb):=by rw[Int.zero_add,<-s0];exact XZ (j:=i+1) (Sv _)
 have u1:YP (u.map λn=>V.int (n:Nat)) (0+(i:Int))=some (.int (u[i]:Nat)):=by rw[Int.zero_add];exact XZ (by rw[Oc,Sv (show i<u.length by lia)];rfl)
 have y0:YP (u.map λn=>V.int (n:Nat)) (0+(i:Int)+1)=some (.int (u[i+1]:Nat)):=by rw[Int.zero_add];exact XZ (j:=i+1) (by rw[Oc,Sv (show i+1<u.length by lia)];rfl)
 erw[⟨_,R,_,R,H,_,_,_,R,R,Zg.of (X _ _ e8),v1,pa,_,2,_,R,R,Zl.of (X _ _ k1),R,_,R,_,R,E,_,_,_,R,R,Zg.of cA,u1,_,_,R,R,?_⟩];erw[⟨_,R,_,R,_,_,R,R,H,_,_,_,R,R,Zg.of (X _ _ e8),u0,pb,_,1,_,R,R,Zl.of (X _ _ f1),R,_,R,_,R,_,_,R,R,E,_,_,_,R,R,Zg.of cA,y0,_,_,R,R,_,R,_,_,R,R,_,R,?_⟩];obtain⟨_,rfl⟩:=Su.mp x0;obtain⟨_,rfl⟩:=Su.mp o1;have j0:=fl i h1;erw[VL (λcc=>?_) (λcc=>?_)];erw[q3 ?_ _ X];have cc:=SV cc;cases hb:VD (Y1 0 x.cs u)with
 |false=>rfl
 |true =>
  have:=iff.mp hb i _ _ (b0 i ()) (b0 (i+1) h1);rw[j0]at this;have:=SV this;lia
 have cc:=SW (Oj.mpr cc);erw[⟨R,λj a b hj ea Y=>?_,_,_,R⟩];by_cases w0:j<i;exact ok j a b w0 ea Y;obtain rfl:j=i:=by lia
 rw[b0 j ()]at ea;rw[b0 (j+1) h1]at Y;cases ea;cases Y;rw[j0];exact SS ();rintro G HB ⟨rfl,ok,v9,t1,rfl⟩;exact⟨E,_,_,h0,λ_=>by rw[n0];exact iff.mpr λi a b ea Y=>ok i a b (by have:=(Su.mp Y).1;lia) ea Y,by rw[SY R,n0];exact cA,R⟩;erw[Zq (by rw[SU (λz=>D (by injection z with z;lia))];lia) ⟨pz,_,_,Zd.refl _,λz=>Ov z D,by rw[SX D];exact cz,R⟩];rintro G H7 ⟨E,c0,e0,s7,v0,cf,rfl⟩;have S7:=S6.trans s7;have hd:Xa x (y x.nm q) q C c k=none:=by
  unfold Xa;rw[SX (by rw[d0];exact λz=>z.elim () hb),SX λz=>by rw[v0 z.1]at z;cases z.2]
 have k0:∀v p,H7 p=none->(match U8 x (y x.nm q) C c k with|none=>v=.non|some ls=>∃l,v=.ref l/\H7 l=some (.lst (ls.map λn=>V.int (n:Nat))))->i0 .non (Za (Za H7 p (.tup [.int q,.str x.nm])) g (.dT (YD a0 (ZU q x.nm) v))):=λv p i1 hv=>by
  have t8:=Zx i1 (.tup [.int q,.str x.nm]);have S8:=S7.trans t8;erw[q2 hd _ _ (λa o e=>?_) Zj k2.put ((gp.same S8).put (S8 _ _ hg) ?_)];rw[Ze (Z0 e).1];exact S8 _ _ (Z0 e).2;revert hv;cases U8 x (y x.nm q) C c k with
  |none=>exact id
  |some ls=>exact λ⟨l,e,h⟩=>⟨l,e,t8 _ _ h⟩
 sleep 2;erw[⟨_,R,R,_,R,?_⟩];by_cases D:C=1;subst D;erw[Z3 () ⟨_,R,_,R,_,R,zL9 R,λS M=>?_⟩];exact⟨g,_,R,XN.t (k:=ZU q x.nm) (Zx M _ _ _ (S7 _ _ hg)) Zj (Sk (show a0.length<=1000 by have:=k2.1;lia) ()),k0 _ S M (by unfold U8;rw[SY R])⟩;erw[Zq (by rw[SU (λz=>D (by injection z with z;lia))];lia) ⟨_,R,_,R,_,R,_,R,zL9 R,λS M=>?_⟩];exact⟨g,_,R,XN.t (k:=ZU q x.nm) (Zx M _ _ _ (S7 _ _ hg)) Zj (Sk (show a0.length<=1000 by have:=k2.1;lia) ()),k0 _ S M (by unfold U8;rw[SX D];exact⟨E,R,cf⟩)⟩
def Zl3{L:List (Str×V×Nat)}{cl:OB}(h:Lh FN cl cs u H)(D:QL (λq:Str×V×Nat=>(q.1,q.2.2)∈FN/\u[q.2.2]? = some (some q.2.1)) L)(nd:(cl.map (·.2)).Nodup)
  (M:(scope.names.all λp=>!(p.2==.cell || p.2==.free) || (cl.lookup p.1).isSome)=true) (J:QL (λx=>scope.names.lookup x=some .free) (L.map (·.1))):NE (L.map (·.1)) scope cl (L.map (·.2.1)) cs:=by
 erw[⟨by rw[Sx,Sx],λi x v C f=>?_,h.cell,λx y c=>qR nd,λx j=>?_,λx j=>G7 J x j,λb o e=>(h.free b o e).2⟩];rw[Oc]at C f;obtain⟨q,B,rfl⟩:=Oh.mp C;rw[B]at f;cases f;obtain⟨m,e⟩:=G7 D q (SM B);exact h.val _ m _ e;have q:∃k,scope.names.lookup x=some k/\(k=.cell\/k=.free):=j.elim (λz=>⟨_,z,.inl R⟩) λz=>⟨_,z,.inr R⟩;ext⟨k,E,I⟩ q;have z:=Nb M E;have G:(cl.lookup x).isSome=true:=by
  rcases I with rfl|rfl;simpa using z;simpa using z
 exact Option.isSome_iff_exists.mp G
abbrev Qy:Str:=(("_law_tell" : Str) ++ ".<locals>.") ++ "<lambda>"
def Yc.tab{i:Hp}{n:Addr}{b:NB}{TS:List Zt}{f:ZX}{m:Nat}(k:∀a o,H a=some o->(∀c,o≠.tbl c)->i a=some o)(h:Yc t H n b TS f m):Yc t i n b TS f m:=by
 ext⟨u,q,_⟩ h.tk;ext⟨v,j,_⟩ h.lt;exact h.keepE (λa o e _ n=>k a o e n) (λo e=>k _ _ e λc z=>by rw[q,z]at e;cases e) λo e=>k _ _ e λc z=>by rw[j,z]at e;cases e
def Yc.more{n:Addr}{b:NB}{TS:List Zt}{c:ZX}{m:Nat}(h:Yc t H n b TS c m):Yc t H n b TS c (m+1):=by
 ext⟨o,ap,r,⟨i,f,e,y⟩,⟨j,v,u,q⟩⟩ h;exact⟨o,ap,r,⟨i,f,e.mono (Nat.le_succ _),y⟩,⟨j,v,u.mono (Nat.le_succ _),q⟩⟩
def Zl4(h:Y7 lt q H)(h1:H i=some (.dT k1))(c:H f=some (.dT k2)):Y7 lt q (wo (wo H i) f) :=
 h.keep (λj e=>Zy (Zy e (Z5 e h1 (λz=>nomatch z))) (Z5 e c (λz=>nomatch z))) λa e=>Zy (Zy e (Z5 e h1 (λz=>nomatch z))) (Z5 e c (λz=>nomatch z))
def ME{FN:List (Str×Nat)}{cl:OB}{lt:Addr}{q:Str}{params:Arguments}{body:Expr}{S:St}{Q:VK}{L:List (Str×V×Nat)}{J:XK->TE}(c0:Y7 lt q H)(hv:QL (λq:Str×V×Nat=>(q.1,q.2.2)∈FN/\S[q.2.2]? = some (some q.2.1)) L)(nd:(cl.map (·.2)).Nodup)
  (e0:(scope.names.all λp=>!(p.2==.cell || p.2==.free) || (cl.lookup p.1).isSome)=true) (i0:QL (λx=>scope.names.lookup x=some .free) (L.map (·.1))) (f0:scope.isCoroutine=false) (d0:scope.isGenerator=false) (hk:scope.kind=.function) (a0:∀x∈scope.names,x.2≠.cell)
  (hb:∀pm y M,bindArgs (W.kla_fn "<lambda>" q params body scope cl pm (.ref y) M) ⟨[],[]⟩=pure [])
  (g0:∀(f y:Addr) (j:Hp) (A:Around) (outer:List Env) (s:Shared) (E:XK),Yh 19 (A.deeper (W.envX q scope s.heap.objs.size f (.ref y) cl))->PE (B5 (Xf P w) P w K mg base (L.map (·.1)) q scope cl f (.ref y) A outer s j E) body (J E))
  (h:∀j,Zd (wo H lt) j->Y7 lt q j->∃(told:Hp->Prop) (ref:Wn->Hp->Prop),(∀(X:VK) (G:XK),(∀c,told c->X .non c)->(∀(i:Wn) c,ref i c->G (.ref (i.cls t)) none c)->J G ((L.map (·.2.1)).map some) j X)/\(∀c B p,told c->Zd c B->B p=some (.tup [.str (ON "told"),.non])->Q (.ref p) B)/\∀(i:Wn) c B,ref i c->Zd c B->Q (.str i.txt) B) :
  NG (Zcu t P w K mg base) FN cl (Lf lt mg q params body scope cl pos) S H Q:=by
 dsimp only[NG];erw[Zhq c0 ?_];intro f y M j s2 b0 I Z cs T;have U:∀b o,cs b=some o->j b=none:=λb o e=>(T.free b o e).1;have Y:∀{a o},j a=some o->cs a=none:=λ{a o} e=>by
  cases z:cs a with
  |none=>rfl
  |some ob=>rw[U a ob z]at e;cases e
 obtain⟨told,ref,h0,h1,h2⟩:=h j s2 b0;have calls:=ZgJ (P:=P) (w:=w) (K:=K) (mg:=mg) (base:=base) (k:=19) (H:=lent cs j) (by rwa[Xx (Y I)]) (by rwa[Xx (Y Z)]) f0 d0 hk a0 (hb _ _ _) (Zl3 T hv nd e0 i0) (λb o e=>B4 e) (λA outer s E hr=>g0 f y _ A outer s E hr);rw[Zhr U]at calls;erw[⟨f,_,λv C=>∃c,C=lent cs c/\(∀b o,cs b=some o->c b=none)/\v=.non/\told c,λi C=>∃c,C=lent cs c/\(∀b o,cs b=some o->c b=none)/\ref i c,R,calls,λQ1 E1 a1 a2=>h0 _ _ (λc h u=>a1 _ _ ⟨c,R,u,R,h⟩) λi c h u=>a2 i _ ⟨c,R,u,h⟩,?_,?_⟩];rintro v C H3 p ⟨c,rfl,u,rfl,h⟩ D O;have cp:cs p=none:=by
  cases z:cs p with
  |none=>rfl
  |some o=>have:=D p _ (B4 z);rw[O]at this;cases this
 exact h1 c _ p h (qQ u D) (by rwa[Vf cp]);rintro i C H3 ⟨c,rfl,u,h⟩ D;exact h2 _ c _ h (qQ u D)
def ZcR(h:H p=some (.tup [.str (ON "told"),.non])):DV K H (.ref p) (.tuple [.str (ON "told"),.none]):=.tup (Zl.of h) (.cons (.str _ ()) (.cons .non .nil))
def Kw{x:Zt}(e:way<2):(V3 x o day=false->Xa x o day way c k=some .run)/\(V3 x o day=true->Xa x o day way c k=if way=0/\VD (Y1 0 x.cs (XB x o c k))=false then some .calls else none):=by
 unfold Xa;constructor;intro h;erw[SY ?_];unfold V3 at h;cases j:x.r.runs day with
 |false=>exact .inl rfl
 |true =>
  rw[j,Ow]at h;exact .inr ⟨e,SV (by simpa using h)⟩
 intro h;obtain⟨i,f⟩:=Q5 h;rw[SX (by rw[i];exact λz=>z.elim () λz=>f z.2)]
def Uk(e:ZX)(x:Zt)(day way c k:Nat):ZX:=if way=0 then X7 e x.nm day (some (XB x (e x.nm day) c k))else if way=1 then X7 e x.nm day none else U7 e x.nm day
inductive Zl5(t:Ye)(vs:List V)(H:Hp)(Q:VK)(_e3:XK):Prop|mk (n:Addr) (b:NB) (TS:List Zt) (KF:ZX) (m day way c k:Nat) (x:Zt) (_:vs=[.ref n,.str x.nm,.int day,.int way,.int c,.int k]) (_:Yc t H n b TS KF m) (_:m<1000) (_:ZQ Zt.nm TS x.nm=some x) (_:day<=9999) (_:x.Ok) (_:(∀ls,KF x.nm day=some (some ls)->ls.length=x.cs.length)) (_:c<x.cs.length) (_:k<=300) (_:Y7 t.YA Qy H) (_:(∀w,Xa x (KF x.nm day) day way c k=some w->∀H',Zd (wo H t.YA) H'->Y7 t.YA Qy H'->Q (.str w.txt) H')) (_:(Xa x (KF x.nm day) day way c k=none->∀p H',Zd (wo (wo (wo H b.dk) b.dl) t.YA) H'->Y7 t.YA Qy H'->Yc t H' n b TS (Uk KF x day way c k) (m+1)->H' p=some (.tup [.str (ON "told"),.non])->Q (.ref p) H'))
def Zl6(i:Zv K mg t)(a0:W.CodeHd base t.JU t.YA)(c0:BM mg base):Zo P w K mg base Zr 40 t.Zaa t.RD ["_law_notices","_law_trip","_law_day","_law_way","_law_call","_law_minutes"] (Zl5 t):=by
 erw[WC.okC i.Zbm.F ZhG () λo0 A outer s d0 vs g0 f0 b0 y h=>?_];ext⟨n,b,TS,u,m,j,D,c,k,x,rfl,hN,m1,hx,d9,e0,m0,hc,hk,U,G,E⟩ h;ext⟨n0,k0⟩ U.at;have up:∀{H2},Zd (wo d0 t.YA) H2->Yc t H2 n b TS u m:=λs2=>hN.tab λa o e ne=>s2 _ _ (Vt k0 e ne);have Z:∀{H2 f J p},Zd (wo d0 t.YA) H2->Y7 t.YA Qy H2->Zd (wo (wo H2 b.dk) b.dl) f->Zd f J->Yc t f n b TS (Uk u x j D c k) (m+1)->J p=some (.tup [.str (ON "told"),.non])->Xa x (u x.nm j) j D c k=none->g0 (.ref p) J:=λs2 B q M H I hd=>by
  obtain⟨kk,j0,_⟩:=(up s2).tk;obtain⟨kl,l0,_⟩:=(up s2).lt;erw[E hd _ _ (λa o e=>?_) ((Zl4 B j0 l0).same (q.trans M)) (H.same M) I];obtain⟨na,e⟩:=Z0 e;obtain⟨nb,e⟩:=Z0 e;obtain⟨nc,e⟩:=Z0 e;exact M _ _ (q _ _ (Zy (Zy (s2 _ _ (Zy e na)) nc) nb))
 have ref:∀{H2 f J:Hp} {w:Wn},Zd (wo d0 t.YA) H2->Y7 t.YA Qy H2->Zd H2 f->Zd f J->Xa x (u x.nm j) j D c k=some w->g0 (.str w.txt) J:=λs2 B q M hd=>G _ hd _ ((s2.trans q).trans M) (B.same (q.trans M));clear G E;erw[⟨_,(Zh (ZK (Ys YZ (pv 3) Zc) (Zi (ZA (Li (FN:=[(ON "_law_trip",1),(ON "_law_day",2),(ON "_law_call",4),(ON "_law_minutes",5),(ON "_law_notices",0)]) (cl:=[(ON "_law_trip",s.heap.objs.size+2),(ON "_law_notices",s.heap.objs.size+1),(ON "_law_minutes",s.heap.objs.size+5),(ON "_law_day",s.heap.objs.size+3),(ON "_law_call",s.heap.objs.size+4)]) (MA i) (y.mono ()) R i.Vz.m i.Vz.F.kp i.Vz.b (λ_=>R) ⟨R,⟨R,⟨R,⟨R,⟨R,trivial⟩⟩⟩⟩⟩ (Lj ⟨⟨R,R,_,R,R⟩,⟨R,R,_,R,R⟩,⟨R,R,_,R,R⟩,⟨R,R,_,R,R⟩,⟨R,R,_,R,R⟩,trivial⟩) (G3 (cl:=[(ON "_law_trip",s.heap.objs.size+2),(ON "_law_notices",s.heap.objs.size+1),(ON "_law_minutes",s.heap.objs.size+5),(ON "_law_day",s.heap.objs.size+3),(ON "_law_call",s.heap.objs.size+4)]) (b0.symm.trans i.zJ) a0 c0 R R)))) ZL) (Zh (ZK (Ys YZ (pv 3) Zc) (Zi (ZA (Li (FN:=[(ON "_law_trip",1),(ON "_law_day",2),(ON "_law_notices",0)]) (cl:=[(ON "_law_trip",s.heap.objs.size+2),(ON "_law_notices",s.heap.objs.size+1),(ON "_law_day",s.heap.objs.size+3)]) (MA i) (y.mono ()) R i.Vz.m i.Vz.F.kp i.Vz.b (λ_=>R) ⟨R,⟨R,⟨R,trivial⟩⟩⟩ (Lj ⟨⟨R,R,_,R,R⟩,⟨R,R,_,R,R⟩,⟨R,R,_,R,R⟩,trivial⟩) (G3 (cl:=[(ON "_law_trip",s.heap.objs.size+2),(ON "_law_notices",s.heap.objs.size+1),(ON "_law_day",s.heap.objs.size+3)]) (b0.symm.trans i.zJ) a0 c0 R R)))) ZL) (Zi (ZA (Li (FN:=[(ON "_law_trip",1),(ON "_law_day",2),(ON "_law_notices",0)]) (cl:=[(ON "_law_trip",s.heap.objs.size+2),(ON "_law_notices",s.heap.objs.size+1),(ON "_law_day",s.heap.objs.size+3)]) (MA i) (y.mono ()) R i.Vz.m i.Vz.F.kp i.Vz.b (λ_=>R) ⟨R,⟨R,⟨R,trivial⟩⟩⟩ (Lj ⟨⟨R,R,_,R,R⟩,⟨R,R,_,R,R⟩,⟨R,R,_,R,R⟩,trivial⟩) (G3 (cl:=[(ON "_law_trip",s.heap.objs.size+2),(ON "_law_notices",s.heap.objs.size+1),(ON "_law_day",s.heap.objs.size+3)]) (b0.symm.trans i.zJ) a0 c0 R R)))))),?_⟩];sleep 3;erw[⟨_,R,R,_,R,?_⟩];by_cases X:D=0;subst X;erw[Z3 () ?_];erw[ME (L:=[("_law_notices",.ref n,0),("_law_trip",.str x.nm,1),("_law_day",.int j,2),("_law_call",.int c,4),("_law_minutes",.int k,5)]) U ⟨⟨.tail _ (.tail _ (.tail _ (.tail _ (.head _)))),R⟩,⟨.head _,R⟩,⟨.tail _ (.head _),R⟩,⟨.tail _ (.tail _ (.head _)),R⟩,⟨.tail _ (.tail _ (.tail _ (.head _))),R⟩,trivial⟩ (by simp) R ⟨R,R,R,R,R,trivial⟩ R R R () (λ_ _ _=>R) (λi0 c' H2 A outer s f0 y=>(YO (pv 0) i.Yu i.T7.me (Zlm i) (y.mono ()) i.T7.b .nil Lg (YH (pv 1) (YH (pv 2) (YH (pv 3) (YH (pv 4) Xs)))))) λH2 s2 B=>?_];have n2:=up s2;ext⟨S,fs,Q,O⟩ n2.ob;erw[⟨λf=>Xa x (u x.nm j) j 0 c k=none/\Zd (wo (wo H2 b.dk) b.dl) f/\Yc t f n b TS (Uk u x j 0 c k) (m+1),λw f=>Xa x (u x.nm j) j 0 c k=some w/\Zd H2 f,λQe Ee G E=>⟨_,R,n,S,_,R,Q,O.n_late,_,R,_,R,_,R,_,R,n,b,TS,u,m,x.nm,j,c,k,x,R,n2,m1,hx,d9,e0,m0,hc,hk,λv f q=>E .run f ⟨?_,q⟩,λv y f q=>E .calls f ⟨?_,q⟩,λv y f q H=>G f ⟨?_,q,H⟩⟩,λf T p h C I=>Z s2 B h.2.1 C h.2.2 I h.1,λz f T h C=>ref s2 B h.2 C h.1⟩];exact(Kw ()).1 v;rw[(Kw ()).2 v,SY ⟨R,y⟩];rw[(Kw ()).2 v,SX λz=>by rw[y]at z;cases z.2];erw[Zq (by rw[SU (λz=>X (by injection z with z;lia))];lia) ?_];erw[⟨_,R,R,_,R,?_⟩];by_cases Y:D=1;subst Y;erw[Z3 () ?_];erw[ME (L:=[("_law_notices",.ref n,0),("_law_trip",.str x.nm,1),("_law_day",.int j,2)]) U ⟨⟨.tail _ (.tail _ (.head _)),R⟩,⟨.head _,R⟩,⟨.tail _ (.head _),R⟩,trivial⟩ (by simp) R ⟨R,R,R,trivial⟩ R R R () (λ_ _ _=>R) (λi0 c' H2 A outer s f0 y=>(YO (pv 0) i.Yu i.T9.me (Zlo i) (y.mono ()) i.T9.b .nil Lg (YH (pv 1) (YH (pv 2) Xs)))) λH2 s2 B=>?_];have n2:=up s2;ext⟨S,fs,Q,O⟩ n2.ob;erw[⟨λf=>Xa x (u x.nm j) j 1 c k=none/\Zd (wo (wo H2 b.dk) b.dl) f/\Yc t f n b TS (Uk u x j 1 c k) (m+1),λw f=>Xa x (u x.nm j) j 1 c k=some w/\Zd H2 f,λQe Ee G E=>⟨_,R,n,S,_,R,Q,O.n_out,_,R,_,R,n,b,TS,u,m,x.nm,j,x,R,n2,m1,hx,d9,e0.r,λv f q=>E .run f ⟨?_,q⟩,λv f q H=>G f ⟨?_,q,H⟩⟩,λf T p h C I=>Z s2 B h.2.1 C h.2.2 I h.1,λz f T h C=>ref s2 B h.2 C h.1⟩];exact(Kw ()).1 v;rw[(Kw ()).2 v,SX λz=>(nomatch z.1)];erw[Zq (by rw[SU (λz=>Y (by injection z with z;lia))];lia) ?_];have e2:¬ D<2:=by lia
 erw[ME (L:=[("_law_notices",.ref n,0),("_law_trip",.str x.nm,1),("_law_day",.int j,2)]) U ⟨⟨.tail _ (.tail _ (.head _)),R⟩,⟨.head _,R⟩,⟨.tail _ (.head _),R⟩,trivial⟩ (by simp) R ⟨R,R,R,trivial⟩ R R R () (λ_ _ _=>R) (λi0 c' H2 A outer s f0 y=>(YO (pv 0) i.Yu i.zA.me (Zlq i) (y.mono ()) i.zA.b .nil Lg (YH (pv 1) (YH (pv 2) Xs)))) λH2 s2 B=>?_];have n2:=up s2;ext⟨S,fs,Q,O⟩ n2.ob;erw[⟨λf=>Xa x (u x.nm j) j D c k=none/\Zd (wo (wo H2 b.dk) b.dl) f/\Yc t f n b TS (Uk u x j D c k) (m+1),λw f=>Xa x (u x.nm j) j D c k=some w/\Zd H2 f,λQe Ee G E=>⟨_,R,n,S,_,R,Q,O.n_back,_,R,_,R,n,b,TS,u,m,x.nm,j,x,R,n2,hx,d9,e0.r,λv f q=>E .run f ⟨?_,q⟩,λv f q H=>G f ⟨?_,q,?_⟩⟩,λf T p h C I=>Z s2 B h.2.1 C h.2.2 I h.1,λz f T h C=>ref s2 B h.2 C h.1⟩];unfold Xa;rw[SY (.inl v)];unfold Xa;rw[SX (by rw[v];exact λz=>z.elim () λz=>e2 z.1),SX λz=>X z.1];unfold Uk;rw[SX X,SX Y];exact H.more
def Zl7{H:Hp}{rows:List (Zn×V)}{st:List Z6}(h:Al (λc (x:Z6)=>c.1=Sum.inr x.nm) rows st):(rows.map λc=>kV c.1)=(st.map Z6.nm).map V.str:=by
 induction h with
 |nil=>rfl
 |cons a _ e=>rw[SO,SO,SO,e,a];rfl
inductive Zl8(t:Ye)(vs:List V)(H:Hp)(Q:VK)(_e3:XK):Prop|mk (n:Addr) (N:Yn) (_:vs=[.ref n]) (_:VC t H n N) (_:∀l,H l=none->Q (.ref l) (Za H l (.lst ((N.st.map Z6.nm).map V.str))))
def ZcS(c:Zv K mg t):Zo P w K mg base Zr 1 t.ZaG t.ZaH ["self"] (Zl8 t):=by
 erw[c.J5.F.ok Zh6 () λC A outer s H B Q E D h=>?_];ext⟨n,N,rfl,⟨a,e⟩,q⟩ h;ext⟨i,fs,j,y⟩ e.ob;ext⟨rows,u,f⟩ e.st;erw[⟨_,(Zi (ZA (Yt (B1 R) R c.X4 X1 (Zk (ZJ (pv 0) R))))),?_⟩];sleep 1;erw[⟨_,R,n,_,i,_,_,R,j,c.Yg,c.C2,y.fs1,a.ds,rows,R,u,λl v=>?_⟩];rw[Zl7 (H:=H) (f.imp λ_ _ h=>h.1)];exact q l v
def ZcT{x:Zt}(h:∀ls,o=some (some ls)->ls.length=x.cs.length)(h':∀ls,c=some (some ls)->ls.length=x.cs.length)(e:YF o=YF c):Xv x o=Xv x c:=by rw[MC h,MC h',e]
def ZcU{x:Zt}(h:∀ls,o=some (some ls)->ls.length=x.cs.length)(h':∀ls,f=some (some ls)->ls.length=x.cs.length)(e:YF o=YF f)(day way c k:Nat):Xa x o day way c k=Xa x f day way c k:=by
 have i:(o=some none)=(f=some none):=propext ⟨λc=>Qx.mpr (e ▸ Qx.mp c),λc=>Qx.mpr (e ▸ Qx.mp c)⟩;unfold Xa XB;rw[ZcT h h' e];simp only[i]
def Zl9(n:Nat):((List.replicate n 0).any λl=>decide (0<l))=false:=by
 rw[List.any_eq_false];intro l c;rw[List.eq_of_mem_replicate c]
 decide
def Zma{TS:List Zt}{f i:ZX}{x:Zt}(kn:XT TS f)(gn:XT TS i)(ag:∀z d,YF (f z d)=YF (i z d))(v:ZQ Zt.nm TS x.nm=some x)(day way c k:Nat)(z:Str)(d:Nat):YF (Uk f x day way c k z d)=YF (X7 i x.nm day (U8 x (i x.nm day) way c k) z d):=by
 have off:∀(F:ZX) o,¬ (z=x.nm/\d=day)->X7 F x.nm day o z d=F z d:=λF o h=>SX h;by_cases e:z=x.nm/\d=day;ext⟨rfl,rfl⟩ e;rw[MD];unfold Uk U8;by_cases q:way=0;rw[SY q,SX (),SY q,MD];unfold XB;rw[ZcT (λu h=>(Qw kn v u h).1) (λu h=>(Qw gn v u h).1) (ag x.nm d)];rw[SX q,SX q];by_cases j:way=1;rw[SY j,SY j,MD];rw[SX j,SX j,ZcP];show none=if ((List.replicate x.cs.length 0).any λl=>decide (0<l))=true then _ else none
 rw[Zl9];rfl;rw[off _ _ e];unfold Uk;split;rw[off _ _ e];exact ag z d;split;rw[off _ _ e];exact ag z d;rw[show U7 f x.nm day z d=f z d from SX e];exact ag z d
def yC{TS:List Zt}{F:ZX}{x:Zt}(h:XT TS F)(u:ZQ Zt.nm TS x.nm=some x)(j:2<=x.cs.length)(v:x.cs.length<=6)(nm:Yv x.nm){day:Nat}(i:day<=9999){o:Option (List Nat)}(q:∀ls,o=some ls->ls.length=x.cs.length/\∀l∈ls,l<=300):XT TS (X7 F x.nm day o):=λz d c=>by
 by_cases e:z=x.nm/\d=day;ext⟨rfl,rfl⟩ e;erw[⟨x,u,j,v,λls f=>?_,nm,i⟩];rw[MD]at f;exact q ls (Sr f);have:=h z d;rw[show X7 F x.nm day o z d=F z d from SX e]at c ⊢;exact this c
def Zmb{TS:List Zt}{F:ZX}{x:Zt}(h:XT TS F){day:Nat}:XT TS (U7 F x.nm day):=λz d c=>by
 by_cases e:z=x.nm/\d=day;ext⟨rfl,rfl⟩ e;rw[ZcP]at c;exact Ov R c;have:=h z d;rw[show U7 F x.nm day z d=F z d from SX e]at c ⊢;exact this c
def Zmc{TS:List Zt}{B h:ZX}{x:Zt}(kn:XT TS B)(gn:XT TS h)(f:ZQ Zt.nm TS x.nm=some x)(j:2<=x.cs.length)(q:x.cs.length<=6)(nm:Yv x.nm){day:Nat}(i:day<=9999){way c k:Nat}(u:c<x.cs.length)(y:k<=300):XT TS (Uk B x day way c k)/\XT TS (X7 h x.nm day (U8 x (h x.nm day) way c k)):=by
 have D:=ZcQ (Qw kn f (d:=day)) (Nat.le_of_lt u) y;have C:=ZcQ (Qw gn f (d:=day)) (Nat.le_of_lt u) y;constructor;unfold Uk;split;exact yC kn f j q nm i λv e=>by cases e;exact D
 split;exact yC kn f j q nm i λv e=>(nomatch e);exact Zmb kn;erw[yC gn f j q nm i λv e=>?_];unfold U8 at e;split at e;cases e;cases e;split;exact C;exact⟨SC,λl E=>by rw[List.eq_of_mem_replicate E];lia⟩
def UB.keepE(k:WZ H i){W:Yn}(h:UB H D W):UB i D W:=by
 have q:∀{a f},H a=some (.dK f)->i a=some (.dK f):=λe=>k _ _ e () ();have c:∀{a f},H a=some (.tup f)->i a=some (.tup f):=λe=>k _ _ e () ();have u:∀{a f},H a=some (.lst f)->i a=some (.lst f):=λe=>k _ _ e () ();have J:∀{tp v r},YU tp H v r->YU tp i v r:=λh=>by
  induction h with
  |always h=>exact .always (c h)
  |week h=>exact .week (c h)
  |span h _ C=>exact .span (c h) C
  |each h j ne=>exact .each (c h) (u j) ne
  |either h _ _ B y=>exact .either (c h) B y
  |both h _ _ B y=>exact .both (c h) B y
  |but h j ne _ C=>exact .but (c h) (u j) ne C
 ext⟨Y,dr,dp,E,rp,Q,L,I,Z,G,X,M⟩ h.ex;exact⟨Y,dr,dp,E,rp,q Q,L,I,q Z,q G,X.imp λ_ _ ⟨e,tp,h⟩=>⟨e,tp,J h⟩,M.imp λ_ _ ⟨e,r,l,T,U,O,a3,S⟩=>⟨e,r,l,T,U,c O,u a3,S.imp λ_ _ ⟨p,e,h⟩=>⟨p,e,c h⟩⟩⟩
def U9(c:OK)(H:Hp):Hp:=λa=>if a∈c then none else H a
def MF(h:a∈c):U9 c H a=none:=SY h
def ZcV(e:H a=some o)(h:a∉c):U9 c H a=some o:=(SX h).trans e
def Zmd:Zd (U9 c H) H:=λa o e=>by
 unfold U9 at e;split at e;cases e;exact e
structure D7 where
 n:Addr
 g:Addr
 b:NB
def D7.has(s:D7)(a:Addr):Prop:=a=s.b.dk\/a=s.b.dl\/a=s.g
def Zme:Str:=(("law" : Str) ++ ".<locals>.") ++ "<lambda>"
structure XU(t:Ye)(K:OA)(G:Hp)(TS:List Zt)(s:Bool->D7)(lo:Addr)(H:Hp)(KF GF:Bool->ZX)(m k:Nat):Prop where
 g:Zd G H
 sd:∀i,Sd t H TS (s i).n (s i).g (s i).b (KF i) (GF i) m
 ol:V4 K H lo k
 tt:Xm t.Yf VE VF H
 tl:Y7 t.YA Qy H
 tw:Y7 t.WF Zme H
structure MG(t:Ye)(G:Hp)(s:Bool->D7)(lo:Addr):Prop where
 lo:G lo=none
 l1:G t.Yf=none
 l2:G t.YA=none
 d:∀i a,(s i).has a->G a=none
 x:∀i a,(s i).has a->¬ (s (!i)).has a
section St
variable{G H':Hp}{TS:List Zt}{s:Bool->D7}{lo:Addr}{KF GF:Bool->ZX}{m k:Nat}
def XU.same(h:XU t K G TS s lo H KF GF m k)(e:Zd H H'):XU t K G TS s lo H' KF GF m k :=
 ⟨h.g.trans e,λi=>(h.sd i).same e,h.ol.keep (WZ.of e),h.tt.same e,h.tl.same e,h.tw.same e⟩
def XU.mono(h:XU t K G TS s lo H KF GF m k)(e:k<=f):XU t K G TS s lo H KF GF m f :=
 ⟨h.g,h.sd,let ⟨ov,a,b,c⟩:=h.ol;⟨ov,a,Si b e,c⟩,h.tt,h.tl,h.tw⟩
def Sd.more{KF GF:ZX}(h:Sd t H TS n g b KF GF m):Sd t H TS n g b KF GF (m+1):=⟨h.no.more,h.kn,let ⟨k,a,b,c⟩:=h.gp;⟨k,a,b.mono (Nat.le_succ _),c⟩,h.gn,h.ag,h.n1,h.n2⟩
def MH{c:Type}(f:Bool->c)(i:Bool)(v:c):Bool->c:=λj=>if j=i then v else f j
def ZcW{c:Type}{f:Bool->c}{i:Bool}{v:c}:MH f i v i=v:=SY R
def ZcX{c:Type}{f:Bool->c}{i j:Bool}{v:c}(h:j≠i):MH f i v j=f j:=SX h
def ZcY(h:Xm lt pos q H)(k:∀a o,H a=some o->(∀c,o≠.dT c)->(∀xs,o≠.lst xs)->(∀i,o=.tbl i->a=lt)->H' a=some o):Xm lt pos q H':=by
 rcases h with h|⟨f,h,e⟩;exact .inl (k _ _ h (λ_ z=>nomatch z) (λ_ z=>nomatch z) λ_ _=>R);exact .inr ⟨f,k _ _ h (λ_ z=>nomatch z) (λ_ z=>nomatch z) λ_ _=>R,k _ _ e (λ_ z=>nomatch z) (λ_ z=>nomatch z) λ_ z=>nomatch z⟩
def MI(h:Y7 lt q H)(k:∀a o,H a=some o->(∀f,o≠.dT f)->(∀xs,o≠.lst xs)->(∀c,o=.tbl c->a=lt)->H' a=some o):Y7 lt q H' :=
 h.keep (λc e=>k _ _ e (λ_ z=>nomatch z) (λ_ z=>nomatch z) λ_ _=>R) λa e=>k _ _ e (λ_ z=>nomatch z) (λ_ z=>nomatch z) λ_ z=>nomatch z
def yD(h:XU t K G TS s lo H KF GF m k)(ha:(s i).has a):∃e,H a=some (.dT e):=by
 obtain⟨q,f,_⟩:=(h.sd i).no.tk;obtain⟨u,c,_⟩:=(h.sd i).no.lt;obtain⟨v,j,_⟩:=(h.sd i).gp;rcases ha with rfl|rfl|rfl;exact⟨_,f⟩;exact⟨_,c⟩;exact⟨_,j⟩
def XU.ref(h:XU t K G TS s lo H KF GF m k)(ap:MG t G s lo)(n1:t.Yf≠t.YA)(n2:t.WF≠t.YA)(e:Zd (wo H t.YA) H')(tl:Y7 t.YA Qy H'):XU t K G TS s lo H' KF GF (m+1) k:=by
 ext⟨f,q⟩ h.tl.at;have up:∀a o,H a=some o->(∀f,o≠.tbl f)->H' a=some o:=λa o c nt=>e _ _ (Vt q c nt);have j:∀{lt:Addr},lt≠t.YA->∀a o,H a=some o->(∀v,o≠.dT v)->(∀B,o≠.lst B)->(∀f,o=.tbl f->a=lt)->H' a=some o:=λu a o c _ _ y=>e _ _ (Zy c λz=>by
  subst z;rw[q]at c;exact u (y _ (Sr c).symm).symm)
 exact⟨(uJ h.g ap.l2).trans e,λi=>((h.sd i).tab up).more,h.ol.keep λa o c _ nt=>up a o c nt,ZcY h.tt (j n1),tl,MI h.tw (j n2)⟩
def XU.tol(h:XU t K G TS s lo H KF GF m k)(ap:MG t G s lo)(n1:t.Yf≠t.YA)(n2:t.WF≠t.YA)(E:Zd (wo H (s i).g) q)(g1:q (s i).g=some (.dT f))(g2:X8 f (m+1))(g3:XS q f B)
  (J:Zd (wo (wo (wo q (s i).b.dk) (s i).b.dl) t.YA) H') (tl:Y7 t.YA Qy H') (no:Yc t H' (s i).n (s i).b TS I (m+1)) (kn:XT TS I) (gn:XT TS B) (ag:∀z d,YF (I z d)=YF (B z d)):XU t K G TS s lo H' (MH KF i I) (MH GF i B) (m+1) k:=by
 ext⟨u,y⟩ h.tl.at;obtain⟨kk,S,_⟩:=(h.sd i).no.tk;obtain⟨Y,Z,_⟩:=(h.sd i).no.lt;obtain⟨kg,C,_⟩:=(h.sd i).gp;have up:∀a o,H a=some o->¬ (s i).has a->a≠t.YA->H' a=some o:=λa o c v nt=>J _ _ (Zy (Zy (Zy (E _ _ (Zy c λz=>v (.inr (.inr z)))) λz=>v (.inl z)) λz=>v (.inr (.inl z))) nt);have v:∀{a o},H a=some o->(∀f,o≠.dT f)->¬ (s i).has a:=λc nd ha=>by
  obtain⟨f,e⟩:=yD h ha;rw[e]at c;exact nd _ (Sr c).symm
 have O:WZ H H':=λa o c nd nt=>up a o c (v c nd) (Z5 c y (nt _));have L:∀{lt:Addr},lt≠t.YA->∀a o,H a=some o->(∀f,o≠.dT f)->(∀M,o≠.lst M)->(∀u,o=.tbl u->a=lt)->H' a=some o:=λT a o c nd _ U=>up a o c (v c nd) λz=>by
  subst z;rw[y]at c;exact T (U _ (Sr c).symm).symm
 erw[⟨λa o c=>up a o (h.g _ _ c) (λha=>by rw[ap.d i a ha]at c;cases c) λz=>(by rw[z,ap.l2]at c;cases c),λj=>?_,h.ol.keep O,ZcY h.tt (L n1),tl,MI h.tw (L n2)⟩];by_cases D:j=i;subst D;rw[ZcW,ZcW];have up1:∀a o,q a=some o->(∀u,o≠.dT u)->(∀u,o≠.tbl u)->H' a=some o:=λa o c nd nt=>by
  have q1:q (s j).b.dk=some (.dT kk):=E _ _ (Zy S (h.sd j).n1.symm);have X:q (s j).b.dl=some (.dT Y):=E _ _ (Zy Z (h.sd j).n2.symm);have q3:q t.YA=some (.tbl u):=E _ _ (Zy y (Z5 y C ()));exact J _ _ (Zy (Zy (Zy c (Z5 c q1 (nd _))) (Z5 c X (nd _))) (Z5 c q3 (nt _)))
 have Q:H' (s j).g=some (.dT f):=J _ _ (Zy (Zy (Zy g1 (h.sd j).n1) (h.sd j).n2) λz=>by
  rw[z]at C;rw[y]at C;cases C)
 exact⟨no,kn,⟨f,Q,g2,g3.keep λl M e=>up1 _ _ e () ()⟩,gn,ag,(h.sd j).n1,(h.sd j).n2⟩;rw[ZcX D,ZcX D];have a0:i = !j:=by cases i<;>cases j<;>first|rfl|exact Ov R D
 erw[((h.sd j).keepE O λa o ha c=>up a o c ?_ ?_).more];rw[a0];exact ap.x j a ha;obtain⟨b0,e⟩:=yD h ha;exact Z5 e y ()
def XU.stood(h:XU t K G TS s lo H KF GF m k)(ap:MG t G s lo)(B:∀x∈TS,x.cs≠[])(n1:t.YA≠t.Yf)(n2:t.WF≠t.Yf)(e:Zd (wo (wo H t.Yf) lo) H')(tt:Xm t.Yf VE VF H')(ol:V4 K H' lo (k+1)):XU t K G TS s lo H' KF GF m (k+1):=by
 ext⟨q,j⟩ h.tt.at;ext⟨E,v,_⟩ h.ol;have f:∀{lt:Addr},lt≠t.Yf->∀a o,H a=some o->(∀y,o≠.dT y)->(∀D,o≠.lst D)->(∀q,o=.tbl q->a=lt)->H' a=some o:=λu a o c _ nx C=>e _ _ (Zy (Zy c λz=>by
  subst z;rw[j]at c;exact u (C _ (Sr c).symm).symm) (Z5 c v (nx _)))
 exact⟨λa o c=>e _ _ (Zy (Zy (h.g _ _ c) λz=>by rw[z,ap.l1]at c;cases c) λz=>by rw[z,ap.lo]at c;cases c),λi=>((h.sd i).off B h.ol).tab λa o c nt=>e _ _ (Zy (Vt j (Z0 c).2 nt) (Z0 c).1),ol,tt,MI h.tl (f n1),MI h.tw (f n2)⟩
end St
def Yc.woK{n d:Addr}{b:NB}{TS:List Zt}{c:ZX}{m:Nat}{U:List (Zn×V)}(h:Yc t H n b TS c m)(hd:H d=some (.dK U))(n1:b.dt≠d):Yc t (wo H d) n b TS c m:=by
 have w:∀{a o},H a=some o->(∀k,o≠.dK k)->wo H d a=some o:=λe n=>Zy e (Z5 e hd (n _));ext⟨⟨X,fs,J,D⟩,ap,⟨rows,i,I⟩,⟨T,S,G,a3⟩,⟨j,q,E,Z⟩⟩ h;erw[⟨⟨X,fs,w J (),D⟩,ap,⟨rows,Zy i n1,I.imp λ_ _ a=>?_⟩,⟨T,w S (),G,a3⟩,⟨j,w q (),E,Z.keep λl xs e=>w e ()⟩⟩];ext⟨e,r,v,l,O,y,u,⟨f,Y,Q⟩,M,B⟩ a;exact⟨e,r,v,l,O,y,w u (),⟨f,Y,ZT.keepF (λ_ _ _ _ _ e=>w e ()) (λ_ _=>Ki (λe=>w e ()) λ_ e=>w e ()) Q⟩,w M (),B.imp λ_ _ ⟨p,L,C⟩=>⟨p,L,w C ()⟩⟩
inductive sp_law(K:OA)(Ts:OK)(vs:List V)(H:Hp)(Q:VK)(_e3:XK):Prop|mk (a:Addr) (ns:OH) (_:vs=[.ref a]) (_:(∀T∈Ts,H T=some (.tbl #[]))) (_:Zg K H a (ns.map V.int)) (_:ns.length<=63) (_:∀H',Q (.bl true) H')
def Zmf{W:Yn}(ok:QV W):Al (D1 W) W.tp (YM W)/\((YM W).map Zt.nm).Nodup/\(∀x∈YM W,x.r.Ok)/\(YM W).length<=10:=by
 have q:∀y∈W.tp,D1 W y (Ui W y)/\(Ui W y).r.Ok:=λy e=>by
  obtain⟨u,j,C⟩:=SL.mp (ok.po y e).2.1;have f:ZQ Yi.nm W.ru y.ru=some u:=by rw[<-C];exact Mr ok.rn j
  have i:(Ui W y).r=u.r:=by unfold Ui;rw[f];rfl
  exact⟨⟨R,R,u,f,i.symm⟩,by rw[i];exact(ok.ro u j).2⟩
 erw[⟨?_,by unfold YM;rw[Og];exact ok.pn,λx B=>?_,by unfold YM;rw[Sx];have:=ok.p3;lia⟩];unfold YM;have:∀c:List Tp,(∀y∈c,D1 W y (Ui W y))->Al (D1 W) c (c.map (Ui W)):=λc=>by
  induction c with
  |nil=>exact λ_=>.nil
  |cons y c D=>exact λh=>.cons (h y SF) (D λz v=>h z (SE _ v))
 exact this _ λy e=>(q y e).1;obtain⟨y,e,rfl⟩:=SL.mp B;exact(q y e).2
def Zmg{xs:List V}(h:0<xs.length)(m:Nat):∃(j:Nat) (hj:j<xs.length),YP xs ((m:Int)%((xs.length:Nat):Int))=some xs[j]:=by
 have c:=Oq m h;exact⟨_,c,by rw[<-SZ];exact XZ (Sv c)⟩
def yE{f:Type}{nm:f->Str}{xs:List f}{z:Str}(h:∀y∈xs.map nm,y.length<=7)(hz:z.length=8):ZQ nm xs z=none:=by
 unfold ZQ;rw[List.find?_eq_none];intro x i c;have e:=SV c;have:=h _ (SL.mpr ⟨x,i,R⟩);rw[e]at this;lia
def ZcZ{ns:OJ}{d:Int}{B:Nat}(f:0<=d)(h1:d<(ns.length:Nat))(e:(ns.all λn=>decide (n<=B))=true):∃b:Nat,YP (ns.map λn=>V.int (n:Nat)) d=some (.int (b:Nat))/\b<=B:=by
 obtain⟨k,rfl⟩:∃k:Nat,d=(k:Nat):=⟨d.toNat,()⟩;have c:k<ns.length:=by lia
 exact⟨ns[k],XZ (by rw[Oc,Sv c];rfl),SV (List.all_eq_true.mp e _ (Ol c))⟩
def Zmh(q:Zv K mg t)(z9:W.CodeHd base t.QN t.Yf)(hC_law_tell:W.CodeHd base t.JU t.YA)(hC_law:W.CodeHd base t.LG t.WF)(b7:BM mg base):Zo P w K mg base Zr 60 t.Zab t.Lw ["_law_script"] (sp_law K [t.Yf,t.YA,t.WF]):=by
 erw[WC.okC q.Tu.F Xy () λcdv A outer s H vs Q o9 hcv y h=>?_];ext⟨a,ns,rfl,m8,hS,l63,u0⟩ h;erw[⟨_,(Zh (ZM 1 Xy.nd (ZE q.Zbh (ZlC q) y Zm (Zk (ZE q.VW (Uh q) y Zm (Zp (ZE q.LM (zR q) y Zm (Zp (pv 0) Zc)) Zc))))) (Zh (ZM 2 Xy.nd (ZE q.Zbi (ZlE q) y Zm (Zk (pv 1)))) (Zh (ZM 3 Xy.nd (Z7 (Zp (W2 q.Zbu (Zcg q) (y.mono ()) R q.ZbD q.T6.b .nil Zm (Zk (pv 2))) (W2 q.Zbu (Zcg q) (y.mono ()) R q.ZbD q.T6.b .nil Zm (Zk (pv 2)))))) (Zh (ZM 4 Xy.nd (Z7 (Zp Lc Lc))) (Zh (ZM 5 Xy.nd (Z7 Xs)) (Zh (ZM 6 Xy.nd (Zf Z9 (Zw YC (Z7 (Uw Zc Zc Zc Zc)) (Zf ZZ (ZE q.LM (zR q) y Zm (Zp (pv 0) Zc)) Zc)) (Zf ZZ (Zf YN (ZE q.LM (zR q) y Zm (Zp (pv 0) Zc)) Zc) Zc))) (Zh (ZM 7 Xy.nd (Z7 (Uw (pv 6) (Zf Z9 (pv 6) Zc) (Zf Z9 (pv 6) Zc) (Zf Z9 (pv 6) Zc)))) (Zh (ZM 8 Xy.nd (Yt (B1 R) R q.X4 X1 (Zk (YI y (pv 1) ZH)))) (Zh (Z1 (YO (pv 2) q.Yg q.J2.me (Zca q) (y.mono ()) q.J2.b .nil Zm (Zp ZH (Nj q.zB R q.Md)))) (Zh (Z1 (YO (pv 2) q.Yg q.J3.me (Zcd q) (y.mono ()) q.J3.b .nil Zm (Yk ZH ZH (Z7 (Zp (Yp (Yk (Zw YC (E8 (pv 2) q.Yg q.J5.me (ZcS q) (y.mono ()) q.J5.b .nil Zm) Zc) Zc Zc)) (Yp (Yk (Zw YC (E8 (pv 2) q.Yg q.J5.me (ZcS q) (y.mono ()) q.J5.b .nil Zm) Zc) Zc Zc))))))) (Zh (Xq (vT R q.Za5 (Zk (QF KQ (pv 0) (Ur Zc) (Ur Zc)))) (WJ (n:=2) R (YQ (Z4 9 Xy.nd) (YQ (Z4 10 Xy.nd) WI))) (Zh (ZM 11 Xy.nd (ZE q.VW (Uh q) y Zm (Zp (pv 10) (Zf Z9 Zc (pv 9))))) (Zh (ZM 12 Xy.nd (Zf YN (Zf ZZ (pv 11) Zc) Zc)) (Zh (ZM 13 Xy.nd (Zw YC (pv 8) (Zf ZZ (Zf YN (pv 11) Zc) (ZP Xt q.Xi Xh (Zk (pv 8)))))) (Zh (ZM 14 Xy.nd (Zw YC (Z7 (NT Zc Zc Zc Zc Zc Zc)) (Zf ZZ (Zf YN (pv 11) Zc) Zc))) (Zh (ZM 15 Xy.nd (Zf ZZ (Zf YN (pv 11) Zc) (ZP Xt q.Xi Xh (Zk (Zw ZN (YI y (YI y (pv 1) ZH) (pv 13)) Zc))))) (Zh (ZM 16 Xy.nd (Zw YC (Z7 (Uw (Zf ZZ (Zf YN (pv 11) Zc) Zc) (Zf ZZ (Zf YN (pv 11) Zc) Zc) Zc Zc)) (Zf ZZ (Zf YN (pv 11) Zc) Zc))) (Zh (ZM 17 Xy.nd (Zw YC (pv 7) (Zf ZZ (Zf YN (pv 11) Zc) Zc))) (Zh (ZM 18 Xy.nd (ZE q.Zbk (Zl2 q) y Zm (pa7 (pv 1) (Zw YC (pv 4) (pv 12)) (pv 13) (pv 17) (pv 14) (pv 15) (pv 16)))) (Zh (ZK (Ys (Nf y.units) (ZE q.Zbm (Zl6 q hC_law_tell b7) y Zm (NT (Zw YC (pv 3) (pv 12)) (pv 13) (pv 17) (pv 14) (pv 15) (pv 16))) (Q4 (UF (Kz (pv 18))) (Yp (Zp ZH Ul)) (pv 18))) (Zi (ZA WA)) ZL) (Zh (ZM 19 Xy.nd (ZE q.VW (Uh q) y Zm (Zp (pv 10) (Zf Z9 Zc (pv 9))))) (Zi (Xq (Wo (QF KQ (Z7 (Zp (pv 12) (Zf Vm Zc (pv 12)))) Q8 (Ur (Zf Z9 Zc (Zf ZZ (Zf YN (pv 19) Zc) Zc))))) (Z4 20 Xy.nd) (Zi (ZK (Yz (Yy (ZE q.Zbl (Zl0 q z9 b7) y Zm (NT (Zw YC (pv 3) (pv 20)) (pv 1) (Zw YC (pv 4) (pv 20)) (Zf XH (pv 7) (Z7 (Zk (Zf Z9 (pv 6) Zc)))) (pv 19) (pv 5))))) (Zi (ZA WA)) ZL))))))))))))))) (Zh (ZK (Ys E5 (Li (FN:=[(ON "_law_both",3)]) (cl:=[(ON "_law_both",s.heap.objs.size+1)]) (MA q) (y.mono ()) R q.Vz.m q.Vz.F.kp q.Vz.b (λ_=>R) ⟨R,trivial⟩ (Lj ⟨⟨R,R,_,R,R⟩,trivial⟩) (G3 (cl:=[(ON "_law_both",s.heap.objs.size+1)]) (hcv.symm.trans q.ZjH) hC_law b7 R R)) ZH) (Zi (ZA WA)) ZL) (Zi (ZA (ZP (K4 R) q.LH Ls (Zk (V8 (cl:=[]) (N:=["_law_found","_law_shown"]) (fr:=[none,none]) R (Wo (pv 5)) R () R () trivial trivial R (λ_ _ _ _ _=>(show PG _ _ (KD K 2 _)from WJ R (YQ (Z4 0 (show List.Nodup (["_law_found","_law_shown"]:OF) by lia)) (YQ (Z4 1 (show List.Nodup (["_law_found","_law_shown"]:OF) by lia)) WI)))) (λ_ _ _ _ _=>VQ) (λ_ _ _ _ _=>(WB YZ (Yt (show YT _ _ (NP K)from qO y) R q.LJ Lv (Zk (pv 0))) (pv 1) (Vo _)))))))))))))))))))),?_⟩];dsimp only[kx,ky];erw[Sq13 ?_];intro dd y13 y12 y11 y10 y9 y8 y7 y6 y5 y4 y3 y2 y1 sg;erw[⟨_,R,a,ns,0,R,hS,(),λd=>⟨d,0,R,(),(),Wg d 0,R,zQ _ _,λwd aw W H1 s1 nw hW G=>?_⟩⟩];obtain⟨b9,g8,t7,f7⟩:=Zmf G;have h8:UB H1 wd W:=by
  ext⟨l6,e1,e2⟩ hW.ob;ext⟨r2,a2,b2⟩ hW.ru;ext⟨r4,a4,b4⟩ hW.tp;exact⟨l6,aw.dr,aw.dp,r2,r4,e1,e2.r,e2.p,a2,a4,b2,b4⟩
 erw[⟨_,R,wd,aw,W,H,R,hW,nw,G,λJ bn H2 s2 hN nN=>?_⟩];erw[⟨_,R,λn0 dx0 g1 g2 nd0=>?_⟩];erw[⟨n0,J,H2,W,YM W,R,g1,Y3 (Zx g2 _) g1 _,⟨dx0,Zj⟩,⟨bn,hN⟩,b9,g8,t7,f7,λH3 b0 s3 c3 f1 f2 f3=>⟨R,?_⟩⟩];erw[⟨_,R,λn1 dx1 i8 n9 A4=>?_⟩];erw[⟨n1,J,H3,W,YM W,R,i8,Y3 (Zx n9 _) i8 _,⟨dx1,Zj⟩,⟨bn,hN.same s3⟩,b9,g8,t7,f7,λH4 X s4 o3 f8 q6 o5=>⟨R,zL9 R,λlb gb=>?_⟩⟩];exists H4,lb,H5,s5,gb,cb;erw[λga x0=>?_];exists H5,ga,H6,Y,x0,c6;erw[λgc i0=>?_];exists H6,gc,H7,s7,i0,c7;erw[⟨zL9 R,λlg glg=>?_⟩];exists H7,lg,H8,s8,glg,c8;erw[⟨zL9 R,λlo h3=>?_⟩];exists H8,lo,H9,s9,h3,c9;erw[⟨zL9 R,λp gp=>?_⟩];exists H9,p,H10,e0,gp,i7;have w0:=(s2.trans s3).trans s4;have v2:=((((w0.trans s5).trans Y).trans s7).trans s8).trans (s9.trans e0);erw[⟨_,R,a,ns,1,R,(s1.trans v2).seq hS,(),λd1=>?_⟩];obtain⟨s0,es,hs0⟩:=ZcZ (ns:=[0,3,40,9980]) (d:=d1%4) (B:=9980) () (by show d1%4<4;lia) R;erw[⟨_,_,R,R,(),p,_,_,_,R,R,Zg.of i7,es,?_⟩];erw[⟨_,R,a,ns,1,R,(s1.trans v2).seq hS,(),λd2=>?_⟩];erw[⟨_,_,R,R,⟨(),()⟩,_,_,R,R,(),_,_,R,R,?_⟩];obtain⟨st,est,st9⟩:∃st:Nat,(s0:Int)+d2/4%5=((st:Nat):Int)/\st<=9984:=⟨((s0:Int)+d2/4%5).toNat,(),()⟩;rw[est];erw[⟨_,R,_,R,_,_,R,R,_,R,_,_,R,R,_,R,_,_,R,R,zL9 R,λld b8=>?_⟩];generalize f:Za H10 ld _=o4;have j0:=ZR b8 f;have v7:o4 ld=some (.lst ([st,st+1,st+2,st+4].map λn=>V.int (n:Nat))):=ZV f;clear f;have z8:=v2.trans j0;obtain⟨wk,dr,dp,rr,rp,e1,e2,e3,e4,e5,e6,e7⟩:=(h8.same z8).ex;erw[⟨_,R,wd,.ref dp,R,by rw[<-e3];exact Yr.k (k:=Sum.inr (ON "trips")) e1,dp,rp,R,e5,λlt gt=>?_⟩];rw[Mz (λkv x (h:Xw o4 kv x)=>h.1) e7];generalize f:Za o4 lt _=n3;have t0:=ZR gt f;have l7:=ZV f;clear f e1 e2 e3 e4 e5 e6 e7 es;have p5:=(((hN.same s3).same s4).same ((((s5.trans Y).trans s7).trans s8).trans (s9.trans e0))).same (j0.trans t0);ext⟨k1,nfs,o1,i1⟩ p5.ob;erw[⟨_,R,J,k1,_,R,o1,i1.n_add_rule,λxr k0 gx gd _=>?_⟩];have f0:Zd n3 (Za (Za n3 k0 (.own xr)) xr (.ins t.Xo k0 [])):=Y3 (Zx gd _) gx _;have b5:(Za (Za n3 k0 (.own xr)) xr (.ins t.Xo k0 [])) xr=some (.ins t.Xo k0 []):=Zj;generalize Za (Za n3 k0 (.own xr)) xr (.ins t.Xo k0 [])=i2 at f0 b5 ⊢;have a6:=p5.same f0;erw[⟨J,bn,W,⟨ON "newrules",.always⟩,.ref xr,wo i2 bn.dr,R,a6,SY R,WP,⟨(),(),(),trivial⟩,⟨xr,R,by rw[q.kf];exact .always b5⟩,⟨trivial,(),()⟩,yE G.r7 (),by have:=G.r3;lia,λH14 z2 d4=>?_⟩];obtain⟨qa,qb,qr,eW,m9⟩:∃(qa qb:Z6) (qr:List Z6),W.st=qa::qb::qr/\qb.nm≠qa.nm:=by
  have h2:=G.s2;have hn:=G.sn;revert h2 hn;cases W.st with
  |nil=>intro h2;exact Ov h2 ()
  |cons a r=>cases r with
   |nil=>intro h2;exact Ov h2 (by simp)
   |cons b r=>exact λ_ hn=>⟨a,b,r,R,λz=>(On.mp hn).1 (by rw[<-z];exact SF)⟩
 have nmT:Yv (ON "newtrips"):=⟨(),(),(),trivial⟩;have f9:(ON "newtrips").length=8:=by lia
 ext⟨k1,nfs,o1,i1⟩ d4.ob;erw[⟨_,R,J,k1,_,R,o1,i1.n_add_trip,_,R,J,k1,_,R,o1,i1.n_stops,J,_,R,⟨bn,d4⟩,λl1 gl1=>?_⟩];generalize f:Za H14 l1 _=p8;have m6:=ZR gl1 f;have v6:p8 l1=some (.lst ((W.st.map Z6.nm).map V.str)):=ZV f;clear f;rw[eW]at v6;erw[⟨l1,_,0,_,R,R,Zg.of v6,XZ (j:=0) R,zL9 R,λp1 gp1=>?_⟩];generalize f:Za p8 p1 _=n8;have m5:=ZR gp1 f;have j8:n8 p1=some (.tup [.str qa.nm,.int ((1:Nat):Int),.int ((1:Nat):Int)]):=ZV f;clear f;have m4:=(d4.same m6).same m5;erw[⟨_,R,J,k1,_,R,(m6.trans m5) _ _ o1,i1.n_stops,J,_,R,⟨bn,m4⟩,λl2 gl2=>?_⟩];generalize f:Za n8 l2 _=n7;have j5:=ZR gl2 f;have a5:n7 l2=some (.lst ((W.st.map Z6.nm).map V.str)):=ZV f;clear f;rw[eW]at a5;erw[⟨l2,_,1,_,R,R,Zg.of a5,XZ (j:=1) R,zL9 R,λp2 l9=>?_⟩];generalize f:Za n7 p2 _=w8;have h5:=ZR l9 f;have d7:w8 p2=some (.tup [.str qb.nm,.int ((9:Nat):Int),.int ((9:Nat):Int)]):=ZV f;clear f;erw[⟨zL9 R,λl3 gl3=>?_⟩];exists w8,l3,p9,w3,gl3,q8;have i4:=((m4.same j5).same h5).same w3;have v3:=(((m6.trans m5).trans j5).trans h5).trans w3;erw[⟨J,bn,_,⟨ON "newtrips",ON "newrules",[⟨qa.nm,1,1⟩,⟨qb.nm,9,9⟩]⟩,l3,_,wo p9 bn.dp,R,i4,SY R,WP,q8,.cons ⟨p1,R,(j5.trans (h5.trans w3)) _ _ j8⟩ (.cons ⟨p2,R,w3 _ _ d7⟩ .nil),?_,by show 2<=2;lia,by show 2<=6;lia,nmT,?_,yE G.p7 f9,by show W.tp.length<10;have:=G.p3;lia,λy0 m3 s20' hN20=>?_⟩];erw[⟨λc hc=>?_,λc hc=>?_,λi a b U E=>?_,λi a b U E=>?_⟩];show c.st∈W.st.map Z6.nm;rw[eW];rcases SH.mp hc with rfl|hc;exact SF;rw[SG.mp hc];exact SE _ SF;rcases SH.mp hc with rfl|hc;exact⟨Sh _,by show 1<=2879;lia⟩;rw[SG.mp hc];exact⟨Sh _,by show 9<=2879;lia⟩
 match i,U,E with
 |0,U,E=>cases U;cases E;exact⟨m9,by show 1<9;lia⟩
 |1,U,E=>cases E
 |n+2,U,E=>cases E
 match i,U,E with
 |0,U,E=>cases U;cases E;show 9<=1+40;lia
 |1,U,E=>cases E
 |n+2,U,E=>cases E
 obtain⟨y',e'⟩:=Kk (nm:=Yi.nm) (show(⟨ON "newrules",.always⟩:Yi)∈W.ru++[⟨ON "newrules",.always⟩] from SJ _ SF);show(ZQ Yi.nm (W.ru++[⟨ON "newrules",.always⟩]) (ON "newrules")).isSome=true;rw[e'];rfl;ext⟨rrw,b6,_⟩ a6.ru;ext⟨rpw,q7,_⟩ i4.tp;have k3:=(((((s5.trans Y).trans s7).trans s8).trans (s9.trans e0)).trans (j0.trans t0)).trans f0;have k4:∀a o,i2 a=some o->(∀k,o≠.dK k)->y0 a=some o:=λa o e n=>m3 _ _ (Zy (v3 _ _ (z2 _ _ (Zy e (Z5 e b6 (n _))))) (Z5 (v3 _ _ (z2 _ _ (Zy e (Z5 e b6 (n _))))) q7 (n _)));ext⟨r2w,a8,_⟩ hN.ru;ext⟨p2w,d8,_⟩ hN.tp;have k6:∀{n b},Yc t i2 n b (YM W) K0 0->b.dt≠bn.dr->b.dt≠bn.dp->Yc t y0 n b (YM W) K0 0:=λh n1 n2=>((((h.woK b6 n1).same z2).same v3).woK q7 n2).same m3;have N0:Yc t y0 n0 b0 (YM W) K0 0:=k6 ((c3.same s4).same k3) (Zu a8 f1).symm (Zu d8 f1).symm;have N1:Yc t y0 n1 X (YM W) K0 0:=k6 (o3.same k3) (Zu (s3 _ _ a8) f8).symm (Zu (s3 _ _ d8) f8).symm;have t3:Zd H1 y0:=λa o e=>m3 _ _ (Zy (v3 _ _ (z2 _ _ (Zy ((w0.trans k3) _ _ e) (Zu e nN.r)))) (Zu e nN.p));erw[⟨_,R,2,R,16,R,a,_,R,(s1.trans t3).seq hS,λls d9=>?_⟩];exists y0,ls,a0,r0,d9,v5;have g0:∀a o,i2 a=some o->(∀k,o≠.dK k)->a0 a=some o:=λa o e n=>r0 _ _ (k4 a o e n);have f4:=q.ZjK;have nT2:=q.ZjL;have k8:=q.ZjM;ext⟨ka0,q1,_⟩ c3.tk;ext⟨kb0,q2,_⟩ c3.lt;ext⟨ka1,q3,_⟩ o3.tk;ext⟨kb1,q4,_⟩ o3.lt;have tb:∀T∈[t.Yf,t.YA,t.WF],H1 T=some (.tbl #[]):=λT h=>s1 _ _ (m8 T h);generalize k2:[t.Yf,t.YA,b0.dk,b0.dl,ga,X.dk,X.dl,gc,lo]=z0;have kG:WZ H1 (U9 z0 a0):=λa o e nd nt=>by
  erw[ZcV (r0 _ _ (t3 _ _ e)) λhm=>?_];have fr:∀x,H1 x=none->a≠x:=λx n=>Zu e n;have w7:∀T∈[t.Yf,t.YA,t.WF],a≠T:=λT h=>Z5 e (tb T h) (nt _);rw[<-k2]at hm;simp only[SH,List.not_mem_nil,or_false]at hm;rcases hm with h|h|h|h|h|h|h|h|h;exact w7 _ (.head _) h;exact w7 _ (.tail _ (.head _)) h;exact fr _ (s2.free f2) h;exact fr _ (s2.free f3) h;exact fr _ ((w0.trans s5).free x0) h;exact fr _ ((s2.trans s3).free q6) h;exact fr _ ((s2.trans s3).free o5) h;exact fr _ (((w0.trans s5).trans Y).free i0) h;exact fr _ (((((w0.trans s5).trans Y).trans s7).trans s8).free h3) h
 have n6:=((s9.trans e0).trans (j0.trans t0)).trans f0;have i3:=s8.trans n6;have h6:=g0 _ _ ((s7.trans i3) _ _ c6) ();have h7:=g0 _ _ (i3 _ _ c7) ();have hb:=g0 _ _ ((((Y.trans s7).trans i3)) _ _ cb) ();have hg:=g0 _ _ (n6 _ _ c8) ();have v8:=g0 _ _ ((((e0).trans (j0.trans t0)).trans f0) _ _ c9) ();have o8:=g0 _ _ ((t0.trans f0) _ _ v7) ();have o0:=g0 _ _ (f0 _ _ l7) ();have h9:∀i:Bool,Sd t a0 (YM W) (bif i then n1 else n0) (bif i then gc else ga) (bif i then X else b0) K0 K0 0:=λi=>by
  have kn:XT (YM W) K0:=λ_ _ h=>Ov R h;cases i with
  |false=>exact⟨N0.same r0,kn,⟨[],h6,⟨Sh _,()⟩,λ_ _=>R⟩,kn,λ_ _=>R,(Zu ((s4.trans s5) _ _ q1) x0).symm,(Zu ((s4.trans s5) _ _ q2) x0).symm⟩
  |true=>exact⟨N1.same r0,kn,⟨[],h7,⟨Sh _,()⟩,λ_ _=>R⟩,kn,λ_ _=>R,(Zu ((s5.trans Y) _ _ q3) i0).symm,(Zu ((s5.trans Y) _ _ q4) i0).symm⟩
 have p0:∀T∈[t.Yf,t.YA,t.WF],a0 T=some (.tbl #[]):=λT h=>r0 _ _ (t3 _ _ (tb T h));obtain⟨sd,l0⟩:∃sd:Bool->D7,sd=λi=>⟨bif i then n1 else n0,bif i then gc else ga,bif i then X else b0⟩:=⟨_,R⟩;have w1:XU t K (U9 z0 a0) (YM W) sd lo a0 (λ_=>K0) (λ_=>K0) 0 0:=⟨Zmd,λi=>by rw[l0];exact h9 i,⟨[],v8,Sh _,()⟩,.inl (p0 _ (.head _)),.nil (p0 _ (.tail _ (.head _))),.nil (p0 _ (.tail _ (.tail _ (.head _))))⟩;have ap:MG t (U9 z0 a0) sd lo:=by
  subst k2;erw[⟨MF (by simp),MF (by simp),MF (by simp),λi a ha=>MF ?_,λi a ha hb=>?_⟩];rw[l0]at ha;cases i<;>rcases ha with rfl|rfl|rfl<;>simp
  have x1:X.dk≠b0.dk:=(Zu q1 q6).symm;have x2:X.dk≠b0.dl:=(Zu q2 q6).symm;have x3:X.dl≠b0.dk:=(Zu q1 o5).symm;have x4:X.dl≠b0.dl:=(Zu q2 o5).symm;have x5:ga≠X.dk:=(Zu (s5 _ _ q3) x0).symm;have x6:ga≠X.dl:=(Zu (s5 _ _ q4) x0).symm;have x7:gc≠b0.dk:=(Zu ((s4.trans (s5.trans Y)) _ _ q1) i0).symm;have x8:gc≠b0.dl:=(Zu ((s4.trans (s5.trans Y)) _ _ q2) i0).symm;have x9:gc≠ga:=(Zu c6 i0).symm;rw[l0]at ha hb;cases i with
  |false=>rcases ha with rfl|rfl|rfl<;>rcases hb with h|h|h<;>first|exact x1 h.symm|exact x2 h.symm|exact x3 h.symm|exact x4 h.symm|exact x5 h|exact x6 h|exact x7 h.symm|exact x8 h.symm|exact x9 h.symm
  |true=>rcases ha with rfl|rfl|rfl<;>rcases hb with h|h|h<;>first|exact x1 h|exact x2 h|exact x3 h|exact x4 h|exact x5 h.symm|exact x6 h.symm|exact x7 h|exact x8 h|exact x9 h
 have lG:∀{l xs},a0 l=some (.lst xs)->l≠lo->U9 z0 a0 l=some (.lst xs):=λ{l xs} e n=>by
  erw[ZcV e λhm=>?_];have dd:∀i,¬ (sd i).has l:=λi ha=>by
   obtain⟨kv,z⟩:=yD w1 ha;rw[z]at e;cases e
  have d0:=dd false;have d1:=dd true;rw[l0]at d0 d1;rw[<-k2]at hm;simp only[SH,List.not_mem_nil,or_false]at hm;rcases hm with h|h|h|h|h|h|h|h|h;exact Z5 e (p0 _ (.head _)) () h;exact Z5 e (p0 _ (.tail _ (.head _))) () h;exact d0 (.inl h);exact d0 (.inr (.inl h));exact d0 (.inr (.inr h));exact d1 (.inl h);exact d1 (.inr (.inl h));exact d1 (.inr (.inr h));exact n h
 have WG:=h8.keepE kG;have a1:=lG hb (Zu ((((Y.trans s7).trans s8)) _ _ cb) h3);have t4:=lG hg (Zu c8 h3);have n4:=lG o8 (Zu c9 (e0.free b8)).symm;have a9:=lG o0 (Zu ((e0.trans j0) _ _ c9) gt).symm;have z3:=lG v5 (Zu (k4 _ _ ((((e0).trans (j0.trans t0)).trans f0) _ _ c9) ()) d9).symm;generalize z4:WM (ns.map V.int) (some 2) (some 16)=xs at v5 z3;have lxs:xs.length<=14:=by
  rw[<-z4];unfold WM HT.sIx;dsimp only;rw[SX (),SX (),Sz,SD];have:min (ns.map V.int).length (Int.toNat 16)<=16:=Nat.min_le_right _ _;lia
 have ixs:∀v∈xs,∃c:Int,v=.int c:=λv u=>by
  rw[<-z4]at u;unfold WM at u;obtain⟨c,_,rfl⟩:=SL.mp (List.mem_of_mem_drop (List.mem_of_mem_take u));exact⟨c,R⟩
 have lT:0<((W.tp.map Tp.nm).map V.str).length:=by rw[Sx,Sx];exact G.p1
 have htT:∀x∈YM W,x.cs≠[]:=λx hx c=>by
  obtain⟨w2,hy,rfl⟩:=SL.mp hx;have:=(G.po w2 hy).2.2.2.1;rw[show w2.cs=[] from c]at this;exact Ov this ()
 have g9:∀i:Bool,(sd i).n=bif i then n1 else n0:=λi=>by rw[l0]
 have j7:∀i:Bool,(sd i).g=bif i then gc else ga:=λi=>by rw[l0]
 have w6:∀j:Nat,j<2->∃i:Bool,YP [V.ref n0,V.ref n1] ((j:Nat):Int)=some (.ref (sd i).n)/\YP [V.ref ga,V.ref gc] ((j:Nat):Int)=some (.ref (sd i).g):=λj hj=>by
  erw[⟨decide (j=1),?_⟩];rw[g9,j7]
  match j,hj with
  |0,_=>exact⟨R,R⟩
  |1,_=>exact⟨R,R⟩
 generalize U9 z0 a0=j3 at w1 ap WG a1 t4 n4 a9 z3;clear z4 m8 c3 o3 hN hW lG kG h9 p0 tb hb hg v8 o8 o0 h6 h7 i3 n6 g0 k4 k6 N0 N1 i4 m4 d4 a6 p5 m3 r0 t3 q1 q2 q3 q4 k2 g9 j7 l0 c6 c7 c8 c9 i7 v7 l7 b5 v6 j8 a5 d7 q8 v5 cb v2 z8 k3 w0;erw[⟨ls,R,⟨_,Zg.of (w1.g _ _ z3)⟩,vU (xs:=xs) (λi σ D=>∃(KF GF:Bool->ZX) (v9 t5 j4 r5 h4 q5 o6 l4 f5 v4 b3 h0:Option V),XU t K j3 (YM W) sd lo D KF GF i (2*i)/\σ=[some (.ref a),some (.ref wd),some (.ref J),some (.ref lb),some (.ref lg),some (.ref lo),some (.int st),some (.ref ld),some (.ref lt),v9,t5,j4,r5,h4,q5,o6,l4,f5,v4,b3,h0]) ⟨_,_,_,_,_,_,_,_,_,_,_,_,_,_,w1,R⟩ (λi σ D _ ⟨_,_,_,_,_,_,_,_,_,_,_,_,_,_,s,_⟩=>Zg.of (s.g _ _ z3)) ?_ ?_⟩];rintro i v pp σ Ha u z7 ⟨KF,GF,v9,t5,j4,r5,h4,q5,o6,l4,f5,v4,b3,h0,sa,rfl⟩;have hi:=(Su.mp u).1;obtain⟨c,rfl⟩:=ixs v (SM u);generalize f:Za Ha pp _=Hb;have sb:=sa.same (ZR z7 f);have cp:=ZV f;clear f z7 u sa;erw[⟨pp,_,R,Zl.of cp,R,_,_,R,_,_,R,R,?_⟩];erw[Sq11 ?_];intro d0 u11 u10 u9 u8 u7 u6 u5 u4 u3 u2 u1 sg;have rest:∀(c2 m1:Bool->ZX) (D:Hp) (j:Nat) (i6 t6 z5 a7 d6 k5 d5:Option V),j<2->XU t K j3 (YM W) sd lo D c2 m1 (i+1) (2*i)->u10 [some (.ref a),some (.ref wd),some (.ref J),some (.ref lb),some (.ref lg),some (.ref lo),some (.int st),some (.ref ld),some (.ref lt),some (.int i),some (.int c),i6,some (.int (j:Nat)),t6,z5,a7,d6,k5,d5,b3,h0] D:=λc2 m1 Hf j i6 t6 z5 a7 d6 k5 d5 hj sf=>by
  erw[⟨_,R,_,R,_,_,R,R,c,30+(i:Nat),R,(),(),?_⟩];generalize Wg c (30+(i:Nat))=M;erw[⟨_,R,_,R,_,_,R,R,zL9 R,λpl gl=>?_⟩];generalize f:Za Hf pl _=Hg;have sh:=sf.same (ZR gl f);have ch:=ZV f;clear f gl sf;erw[⟨_,R,_,_,R,R,⟨(),()⟩,_,_,R,R,(),_,_,R,R,_,R,pl,_,R,Zg.of ch,λpq gq=>?_⟩];generalize f6:WM _ none _=xq;have lxq:xq.length<=2:=by
   rw[<-f6];unfold WM;rw[Sz,SD];show min _ (2 - _)<=2;lia
  have ixq:∀v∈xq,∃j':Nat,v=.int (j':Nat)/\j'<2:=λv u=>by
   rw[<-f6]at u;unfold WM at u;have u:=List.mem_of_mem_drop (List.mem_of_mem_take u);rcases SH.mp u with rfl|u;exact⟨j,R,hj⟩;rw[SG.mp u];exact⟨1 - j,congrArg V.int (),()⟩
  clear f6;ext⟨k9,j1,_⟩ sh.ol;have nq:pq≠lo:=(Zu j1 gq).symm;generalize f:Za Hg pq _=Hh;have s0:=sh.same (ZR gq f);have cq:=ZV f;clear f gq sh ch j1;erw[⟨pq,R,⟨_,Zg.of cq⟩,Qc (K:=K) (a:=pq) (xs:=xq) (λu0 σ D=>D pq=some (.lst xq)/\∃h0:Option V,XU t K j3 (YM W) sd lo D c2 m1 (i+1) (2*i+u0)/\σ=[some (.ref a),some (.ref wd),some (.ref J),some (.ref lb),some (.ref lg),some (.ref lo),some (.int st),some (.ref ld),some (.ref lt),some (.int i),some (.int c),i6,some (.int j),t6,z5,a7,d6,k5,d5,some (.int M),h0]) ⟨cq,_,s0,R⟩ (λu0 σ D _ h=>Zg.of h.1) ?_ ?_⟩];rintro u0 v σ Hi u ⟨cq,h0,si,rfl⟩;have hq:=(Su.mp u).1;obtain⟨j',rfl,q9⟩:=ixq v (SM u);obtain⟨C,an,ag⟩:=w6 j' q9;erw[⟨_,R,_,R,lb,_,_,_,R,R,Zg.of (si.g _ _ a1),an,_,R,_,R,_,R,lg,_,_,_,R,R,Zg.of (si.g _ _ t4),ag,_,R,_,R,_,_,R,R,zL9 R,λp1 g1=>?_⟩];generalize f:Za Hi p1 _=Hj;have t1:=ZR g1 f;have c1:=ZV f;clear f g1;erw[⟨ld,p1,_,_,R,R,t1 _ _ (si.g _ _ n4),c1,zL9 R,λl5 g5=>?_⟩];obtain⟨k9,j1,_⟩:=(si.same t1).ol;have n5:l5≠lo:=(Zu j1 g5).symm;generalize f:Za Hj l5 _=Hk;have t2:=ZR g5 f;have c5:Hk l5=some (.lst ([st,st+1,st+2,st+4,st+3].map λn=>V.int (n:Nat))):=ZV f;clear f g5 j1 c1;have sk:=si.same (t1.trans t2);have cq':=(t1.trans t2) _ _ cq;ext⟨psk,hpk⟩ sk.tt.at;erw[⟨_,R,_,R,(sd C).n,wd,(sd C).g,l5,lo,j3,W,(sd C).b,c2 C,m1 C,i+1,2*i+u0,M,[st,st+1,st+2,st+4,st+3],R,sk.sd C,(),sk.g,ap.lo,ap.l1,WG,G,c5,n5,λd hd=>?_,sk.tt,sk.ol,(),λD O tt' ol'=>⟨_,R,Zq () ⟨O _ _ (Zy (Vt hpk cq' ()) nq),_,sk.stood ap htT f4.symm nT2.symm O tt' ol',R⟩⟩⟩];simp only[SH,List.not_mem_nil,or_false]at hd;lia;rintro σ Hi ⟨cq,h0,si,rfl⟩;exact⟨c2,m1,_,_,_,_,_,_,_,_,_,_,_,_,si.mono (),R⟩
 erw[⟨_,R,_,R,_,_,R,R,c,2+(i:Nat),R,(),(),?_⟩];generalize Wg c (2+(i:Nat))=M;erw[⟨_,R,_,_,R,R,(),_,_,R,R,⟨(),()⟩,?_⟩];obtain⟨j,ej,hj⟩:∃j:Nat,(M:Int)%4/3=((j:Nat):Int)/\j<2:=⟨M%4/3,(),()⟩;dsimp only;rw[ej];clear ej;obtain⟨jt,i9,r8⟩:=Zmg lT (M/4);obtain⟨x,ex,hx⟩:=ZcO G (Ol i9);rw[ex,show(((M/4:Nat):Nat):Int)=(M:Int)/4 by lia]at r8;have o0:=sb.g _ _ a9;erw[⟨_,R,_,R,_,_,R,R,⟨(),()⟩,_,R,lt,_,R,.inl (Zg.of o0),_,_,R,R,(by show(0:Int)<(_:Nat);lia),lt,_,_,_,R,R,Zg.of o0,r8,?_⟩];erw[⟨zL9 R,λp6 g6=>?_⟩];generalize f:Za Hb p6 _=Hc;have sc:=sb.same (ZR g6 f);have cc:=ZV f;clear f g6 sb cp o0;obtain⟨way,ew,hw2⟩:=ZcZ (ns:=[0,0,0,0,1,2]) (d:=(M:Int)/12%6) (B:=2) () (by show _<(6:Int);lia) R;erw[⟨_,R,_,_,R,R,⟨(),()⟩,_,_,R,R,(),p6,_,_,_,R,R,Zg.of cc,ew,?_⟩];clear ew;obtain⟨ru,hT,m2,_,x2,csx⟩:=(WG.same sc.g).toT.trip G hx;ext⟨wk,dr,dp,rr,rp,r,lc,o7,vv,tp,e1,e2,e3,e4,e5,e6,e7,e8,e9,t9,e11⟩ hT.ex;have l8:=e9.length;have x6:=m2.len;erw[⟨_,R,_,_,R,R,⟨(),()⟩,_,R,wd,.ref dp,R,by rw[<-e3];exact Yr.k (k:=Sum.inr (ON "trips")) e1,_,R,dp,.ref r,R,.inl ⟨rp,Sum.inr x.nm,e5,R,e6.symm⟩,r,_,1,_,R,R,Zl.of e7,R,lc,_,R,.inl (Zg.of e8),_,_,R,R,(by show(0:Int)<(_:Nat);lia),?_⟩];obtain⟨Z,k7,a3⟩:∃Z:Nat,(M:Int)/72%((o7.length:Nat):Int)=((Z:Nat):Int)/\Z<x.cs.length:=⟨M/72%o7.length,by rw[SZ,S0];rfl,by rw[<-l8];exact Oq _ ()⟩;dsimp only;rw[k7];clear k7 e1 e2 e3 e4 e5 e6 e7 e8 e9 t9 e11 l8;erw[⟨_,R,_,_,R,R,⟨(),()⟩,_,_,R,R,(),_,R,_,_,R,R,⟨(),()⟩,_,_,R,R,(),zL9 R,λp4 g4=>?_⟩];generalize f:Za Hc p4 _=Hd;have se:=sc.same (ZR g4 f);have ce:=ZV f;have hT:=hT.same (ZR g4 f);clear f g4 sc cc;obtain⟨_,ew,k,rfl,hk⟩:=Nh (p:=λv=>∃b:Nat,v=V.int (b:Nat)/\b<=300) (xs:=[.int ((M:Int)/500%301),.int ((M:Int)/500%20),.int 0,.int 300]) (d:=(M:Int)/7%4) (λv u=>by
  simp only[SH,List.not_mem_nil,or_false]at u;rcases u with rfl|rfl|rfl|rfl;exact⟨M/500%301,congrArg V.int (),()⟩;exact⟨M/500%20,congrArg V.int (),()⟩;exact⟨0,R,()⟩;exact⟨300,R,()⟩) () (by show _<(4:Int);lia)
 erw[⟨_,R,_,_,R,R,⟨(),()⟩,_,_,R,R,(),p4,_,_,_,R,R,Zg.of ce,ew,?_⟩];clear ew ce;obtain⟨_,ew,I,rfl,r6⟩:=Nh (p:=λv=>∃b:Nat,v=V.int (b:Nat)/\b<=9999) (xs:=[st,st+1,st+2,st+4].map λn=>V.int (n:Nat)) (d:=(M:Int)/28%4) (λv u=>by
  obtain⟨n,hn,rfl⟩:=SL.mp u;erw[⟨n,R,?_⟩];simp only[SH,List.not_mem_nil,or_false]at hn;omega) () (by show _<(4:Int);lia)
 erw[⟨_,R,_,R,_,_,R,R,⟨(),()⟩,_,_,R,R,(),ld,_,_,_,R,R,Zg.of (se.g _ _ n4),ew,?_⟩];clear ew;obtain⟨C,an,ag⟩:=w6 j hj;have S:=se.sd C;ext⟨l6,hg,kk,gp⟩ S.gp;have d3:=λls h=>(Qw S.kn hx (d:=I) ls h).1;have w5:=λls h=>(Qw S.gn hx (d:=I) ls h).1;erw[⟨_,R,_,R,_,R,lg,_,_,_,R,R,Zg.of (se.g _ _ t4),ag,_,R,_,R,_,R,_,R,_,R,wd,(sd C).g,I,way,Z,k,i,x,ru,l6,GF C,_,R,hT,m2,hg,kk,(),gp,w5,a3,csx,λw hd D O=>?_,λhd D kvs' O hg' kk' gp'=>?_⟩];have sf:=se.same O;have j2:Xa x (KF C x.nm I) I way Z k=some w:=(ZcU d3 w5 (S.ag x.nm I) I way Z k).trans hd;erw[⟨_,R,_,R,lb,_,_,_,R,R,Zg.of (sf.g _ _ a1),an,_,R,_,R,_,R,_,R,_,R,(sd C).n,(sd C).b,YM W,KF C,i,I,way,Z,k,x,R,(sf.sd C).no,(),hx,r6,m2,d3,a3,hk,sf.tl,λw' q0 m0 h1 i5=>?_,λq0=>Ov q0 (by rw[j2];exact ())⟩];obtain rfl:w=w':=Sr (j2.symm.trans q0);have dv:DV K m0 (.str w.txt) (.str w.txt):=.str _ (by cases w<;>decide +kernel);exact⟨_,R,_,R,Zq (by rw[SU ()];lia) ⟨_,R,_,_,dv,dv,by simp[PyData.depth],_,R,Zq (by rw[SeqAt.eqv_refl _ dv.can];lia) (rest KF GF m0 j _ _ _ _ _ _ _ hj (sf.ref ap f4 k8.symm h1 i5))⟩⟩;have j2:Xa x (KF C x.nm I) I way Z k=none:=(ZcU d3 w5 (S.ag x.nm I) I way Z k).trans hd;have up:∀a o,Hd a=some o->(∀k,o≠.dT k)->D a=some o:=λa o e nd=>O _ _ (Zy e (Z5 e hg (nd _)));have no':=S.no.keepE (λa o e nd _=>up a o e nd) (λo e=>O _ _ (Zy e S.n1.symm)) λo e=>O _ _ (Zy e S.n2.symm);have j9:=se.tl.keep (λps e=>up _ _ e λ_ z=>nomatch z) λa e=>up _ _ e λ_ z=>nomatch z;have r9:Yv x.nm:=by
  obtain⟨w2,hy,e⟩:=SL.mp (C8 hx).1;rw[<-e];exact(G.po w2 hy).1
 obtain⟨kn',w9⟩:=Zmc S.kn S.gn hx x2 x6 r9 r6 (way:=way) a3 hk;erw[⟨_,R,_,R,lb,_,_,_,R,R,Zg.of (up _ _ (se.g _ _ a1) ()),an,_,R,_,R,_,R,_,R,_,R,(sd C).n,(sd C).b,YM W,KF C,i,I,way,Z,k,x,R,no',(),hx,r6,m2,d3,a3,hk,j9,λw' q0=>Ov q0 (by rw[j2];exact ()),λq0 p m0 h1 i5 no'' hp''=>?_⟩];have sj:=se.tol ap f4 k8.symm O hg' kk' gp' h1 i5 no'' kn' w9 (Zma S.kn S.gn S.ag hx I way Z k);erw[⟨_,R,_,R,Z3 (SS R) ⟨zL9 R,λp3 g3=>?_⟩⟩];have s3:=Zx g3 (.tup [.str (ON "told"),.non]);have dv:DV K (Za m0 p3 (.tup [.str (ON "told"),.non])) (.ref p) _:=ZcR (s3 _ _ hp'');exact⟨_,_,dv,ZcR Zj,by simp[PyData.depth,PyData.depthAll],_,R,Zq (by rw[SeqAt.eqv_refl _ dv.can];lia) (rest _ _ _ j _ _ _ _ _ _ _ hj (sj.same s3))⟩;rintro σ Ha ⟨KF,GF,v9,t5,j4,r5,h4,q5,o6,l4,f5,v4,b3,h0,sa,rfl⟩;clear w1;obtain⟨C,an,_⟩:=w6 0 ();dsimp only[y12,yM,KN,W0];erw[ME (L:=[("_law_both",.ref lb,3)]) sa.tw ⟨⟨.head _,R⟩,trivial⟩ (by simp) R ⟨R,trivial⟩ R R R () (λ_ _ _=>R) (λm7 c' H2 A outer s o9 y=>(YO (xV (show VJ _ (M0 K)from YC) (pv 0) Zc (λ_ _=>R)) q.Yu q.C0.me (Zli q) (y.mono ()) q.C0.b .nil Lg (YH ZH (YH Zc Xs)))) λH2 s2 tl2=>?_];ext⟨ps3,ht3⟩ sa.tw.at;have j6:∀a o,Ha a=some o->(∀ps,o≠.tbl ps)->H2 a=some o:=λa o e nt=>s2 _ _ (Vt ht3 e nt);have n2:=((sa.sd C).tab j6).no;have o2:=sa.ol.keep λa o e _ nt=>j6 a o e nt;ext⟨dx,fs,f1,f2⟩ n2.ob;erw[⟨λ_=>False,λw D=>w=.trip/\Zd H2 D,λQe Ee q1 q2=>⟨_,R,lb,_,0,_,R,R,Zg.of (j6 _ _ (sa.g _ _ a1) ()),an,(sd C).n,dx,_,R,f1,f2.n_moments,(sd C).n,YM W,KF C,xs.length,ON "newtrips",0,R,⟨_,n2⟩,yE (by unfold YM;rw[Og];exact G.p7) f9,λD O=>q2 .trip D ⟨R,O⟩⟩,λD m0 p h=>h.elim,λw D m0 h h1=>?_⟩];ext⟨rfl,O⟩ h;erw[⟨R,_,R,Zq () ?_⟩];obtain⟨ov,ho,lo2,oo⟩:=o2.keep (WZ.of (O.trans h1));erw[⟨_,R,lo,R,⟨_,Zg.of ho⟩,UM (K:=K) (a:=lo) (xs:=ov) (λi c4 σ D=>D=m0/\c4=(List.replicate i true).map V.bl/\∃v0 v1,σ=[v0,v1]) ⟨R,R,_,_,R⟩ (Si lo2 (Si (show _<=28 by lia) ())) (λi c4 σ D _ ⟨z,_⟩=>by rw[z];exact Zg.of ho) ?_ ?_⟩];rintro i v c4 σ H3 ha u ⟨rfl,rfl,v0,v1,rfl⟩;obtain⟨pp,m7,d,rfl,hp,hd,g⟩:=oo v (SM u);have t8:Zd (VG (wo H3 lo)) H3:=λa o e=>(Z0 (MB e).1).2;erw[⟨pp,_,R,Zl.of (t8 _ _ hp),R,_,_,R,_,_,R,R,?_⟩];dsimp only[Vs];rw[SY R];exact⟨_,R,m7,d,R,hd.same t8,g.dp,g.wt,g.it,g.sh,_,R,R,by rw[Sw,Sy];lia,R,by rw[List.replicate_succ',SN,SS R];rfl,_,_,R⟩;rintro c4 σ H3 ha ⟨rfl,rfl,v0,v1,rfl⟩ pc gc;erw[⟨pc,_,R,Zg.of Zj,?_⟩];rw[show(List.replicate ov.length true).all id=true from List.all_eq_true.mpr λb hb=>List.eq_of_mem_replicate hb];exact u0 _
end
local macro_rules|`(tactic|rfl')=>`(tactic|first|exact on0 λ_ _ _ _ _ _=>R|exact Y0 λ_ _ _ _ _ _ _=>R|exact Xn λ_ _ _ _ _ _ _ _=>R|exact We λ_ _ _ _ _ _ _ _ _=>R|exact B6 λ_ _ _ _ _ _ _ _ _ _=>R|exact uZ λ_ _ _ _ _ _ _ _ _ _ _=>R|exact qA λ_ _ _ _ _ _ _ _ _ _ _ _=>R|exact on7 λ_ _ _ _ _ _ _ _ _ _ _ _ _=>R)
def all_mk{h:Heap}(X:K.In h)(G:h.Ns mainGlobals mg){Aa Ab Ac Ad Ae Af Ag Ah Ai Aj Ak Al Am An Ao Ap Aq Ar As At Au Av Aw Ax:Tok}{Ay Az AA AB AC AD AE AF AG AH AI AJ AK AL AM AN AO AP AQ AR AS AT AU AV AW AX AY AZ Ba Bb Bc Bd Be Bf Bg Bh Bi Bj Bk Bl Bm Bn Bo Bp Bq Br Bs Bt Bu Bv Bw Bx By Bz BA BB BC BD BE BF BG BH BI BJ BK BL BM BN BO BP BQ BR BS BT BU BV BW BX BY BZ Ca Cb Cc Cd Ce Cf Cg Ch Ci Cj Ck Cl Cm Cn Co Cp Cq Cr Cs Ct Cu Cv Cw Cx Cy Cz CA CB CC CD CE CF CG CH CI CJ CK:Addr}{CL CM CN CO CP CQ CR CS CT CU CV CW CY CZ Da Db Dc Dd De Df Dg Dh Di Dj Dk Dl Dm Dn Do Dp Dq Dr Ds Dt Du Dv Dw Dx Dy Dz DA DB DC DD DE DF DG DH DI DJ DK DL DN DO DP DQ DR DS DT DU DV DW DX DY DZ Ea Eb Ec Ed Ee Ef Eg Eh Ei Ej Ek El Em En Eo Ep Er Es Et:OM}{Eu Ev Ew:Value}{Ex Ey Ez:OI}{EA EB EC:Array Value}{ED EE EF:OC}(EG:OK)(EH:W.nsIn K mainGlobals "RoadError"=some (some (.ref Be)))(EI:W.nsIn K mainGlobals "BadClock"=some (some (.ref Bf)))(EJ:W.nsIn K mainGlobals "BadRule"=some (some (.ref Bg)))(EK:W.nsIn K mainGlobals "TooMany"=some (some (.ref Bh)))(EL:W.nsIn K mainGlobals "BadName"=some (some (.ref Bi)))(EM:W.nsIn K mainGlobals "Twice"=some (some (.ref Bj)))(EN:W.nsIn K mainGlobals "NoStop"=some (some (.ref Bk)))(EO:W.nsIn K mainGlobals "NoRule"=some (some (.ref Bl)))(EP:W.nsIn K mainGlobals "NoTicket"=some (some (.ref Bm)))(EQ:W.nsIn K mainGlobals "NoTrip"=some (some (.ref Bn)))(ER:W.nsIn K mainGlobals "BadNumber"=some (some (.ref Bo)))(ES:W.nsIn K mainGlobals "BadCalls"=some (some (.ref Bp)))(ET:W.nsIn K mainGlobals "BadRow"=some (some (.ref Bq)))(EU:W.nsIn K mainGlobals "NoRun"=some (some (.ref Br)))(EV:W.nsIn K mainGlobals "NoPlan"=some (some (.ref Bs)))(EW:W.nsIn K mainGlobals "TooLate"=some (some (.ref Bt)))(EX:W.nsIn K mainGlobals "NoTraveller"=some (some (.ref Bu)))(EY:W.nsIn K mainGlobals "BadLine"=some (some (.ref Bv)))(EZ:W.nsIn K mainGlobals "Rule"=some (some (.ref Bw)))(Fa:W.nsIn K mainGlobals "Week"=some (some (.ref Bx)))(Fb:W.nsIn K mainGlobals "Span"=some (some (.ref By)))(Fc:W.nsIn K mainGlobals "Each"=some (some (.ref Bz)))(Fd:W.nsIn K mainGlobals "Either"=some (some (.ref BA)))(Fe:W.nsIn K mainGlobals "Both"=some (some (.ref BB)))(Ff:W.nsIn K mainGlobals "But"=some (some (.ref BC)))(Fg:W.nsIn K mainGlobals "Net"=some (some (.ref BD)))(Fh:W.nsIn K mainGlobals "Notices"=some (some (.ref BE)))(Fi:W.nsIn K mainGlobals "ValueError"=some none)(Fj:W.nsIn K mainGlobals "all"=some none)(Fk:W.nsIn K mainGlobals "any"=some none)(Fl:W.nsIn K mainGlobals "bool"=some none)(Fm:W.nsIn K mainGlobals "enumerate"=some none)(Fn:W.nsIn K mainGlobals "int"=some none)(Fo:W.nsIn K mainGlobals "isinstance"=some none)(Fp:W.nsIn K mainGlobals "len"=some none)(Fq:W.nsIn K mainGlobals "list"=some none)(Fr:W.nsIn K mainGlobals "max"=some none)(Fs:W.nsIn K mainGlobals "range"=some none)(Ft:W.nsIn K mainGlobals "set"=some none)(Fu:W.nsIn K mainGlobals "sorted"=some none)(Fv:W.nsIn K mainGlobals "str"=some none)(Fw:W.nsIn K mainGlobals "sum"=some none)(Fx:W.nsIn K mainGlobals "tuple"=some none)(Fy:W.nsIn K mainGlobals "zip"=some none)(Fz:W.nsIn K mainGlobals "LETTERS"=some (some (.str (ON "abcdefghijklmnopqrstuvwxyz") Aa)))(FA:W.nsIn K mainGlobals "MOST_LETTERS"=some (some (.int 8 Ab)))(FB:W.nsIn K mainGlobals "LAST_DAY"=some (some (.int 9999 Ac)))(FC:W.nsIn K mainGlobals "DAY_MINUTES"=some (some (.int 1440 Ad)))(FD:W.nsIn K mainGlobals "LAST_MINUTE"=some (some (.int 2879 Ae)))(FE:W.nsIn K mainGlobals "WEEK_DAYS"=some (some (.int 7 Af)))(FF:W.nsIn K mainGlobals "ALL_WEEK"=some (some (.int 127 Ag)))(FG:W.nsIn K mainGlobals "MOST_LENGTH"=some (some (.int 28 Ah)))(FH:W.nsIn K mainGlobals "MOST_LISTED"=some (some (.int 12 Ai)))(FI:W.nsIn K mainGlobals "MOST_WEIGHT"=some (some (.int 15 Aj)))(FJ:W.nsIn K mainGlobals "MOST_DEPTH"=some (some (.int 8 Ak)))(FK:W.nsIn K mainGlobals "MOST_STOPS"=some (some (.int 8 Al)))(FL:W.nsIn K mainGlobals "MOST_WALKS"=some (some (.int 12 Am)))(FM:W.nsIn K mainGlobals "MOST_RULES"=some (some (.int 6 An)))(FN:W.nsIn K mainGlobals "MOST_TICKETS"=some (some (.int 3 Ao)))(FO:W.nsIn K mainGlobals "MOST_TRIPS"=some (some (.int 10 Ap)))(FP:W.nsIn K mainGlobals "LAST_ZONE"=some (some (.int 6 Aq)))(FQ:W.nsIn K mainGlobals "MOST_CHANGE"=some (some (.int 30 Ar)))(FR:W.nsIn K mainGlobals "MOST_WALKED"=some (some (.int 60 As)))(FS:W.nsIn K mainGlobals "MOST_PRICE"=some (some (.int 10000 At)))(FT:W.nsIn K mainGlobals "MOST_LASTING"=some (some (.int 1440 Au)))(FU:W.nsIn K mainGlobals "LEAST_CALLS"=some (some (.int 2 Av)))(FV:W.nsIn K mainGlobals "MOST_CALLS"=some (some (.int 6 Aw)))(FW:W.nsIn K mainGlobals "MOST_LATE"=some (some (.int 300 Ax)))(FX:DM K "is_any_number" NU Ay CL)(FY:DM K "is_number" NV Az CM)(FZ:DM K "check_number" NW AA CN)(Ga:DM K "are_rising" NX AB CO)(Gb:DM K "is_name" NY AC CP)(Gc:DM K "is_known" NZ AD CQ)(Gd:DM K "copy_of" N2 AE CR)(Ge:DM K "check_size" N3 AF CS)(Gf:DM K "check_new" N4 AG CT)(Gg:DM K "check_room" N5 AH CU)(Gh:DM K "have_calls_form" N6 AI CV)(Gi:DM K "can_follow" N7 AJ CW)(Gj:DM K "moved" N8 AK CY)(Gk:DM K "check_rising" N9 AL CZ)(Gl:DM K "_law_cell_at" Pa AM Da)(Gm:DM K "_law_mixed" Pb AN Db)(Gn:DM K "_law_name" Pc AO Dc)(Go:DM K "_law_days" Pd AP Dd)(Gp:DM K "_law_rule" Pe AQ De)(Gq:DM K "_law_runs" Pf AR Df)(Gr:DM K "_law_calls" Ph AS Dg)(Gs:DM K "_law_world" Pi AT Dh)(Gt:DM K "_law_drawn" Pj AU Di)(Gu:DM K "_law_made" Pk AV Dj)(Gv:DM K "_law_said" Pl AW Dk)(Gw:DM K "_law_moments" Pm AX Dl)(Gx:DM K "_law_due" Pn AY Dm)(Gy:DM K "_law_rows" Po AZ Dn)(Gz:DM K "_law_told_right" Pp Ba Do)(GA:DM K "_law_stands" Pr Bb Dp)(GB:DM K "_law_tell" Ps Bc Dq)(GC:DM K "law" Pu Bd Dr)(GD:MM K Bw "copied" "Rule.copied" Pv BF Ds)(GE:MM K Bw "parts" "Rule.parts" Pw BG Dt)(GF:MM K Bw "runs" "Rule.runs" Px BH Du)(GG:MM K Bw "weight" "Rule.weight" Py BI Dv)(GH:MM K Bw "depth" "Rule.depth" Pz BJ Dw)(GI:MM K Bx "__init__" "Week.__init__" PB BK Dx)(GJ:MM K Bx "copied" "Week.copied" PD BL Dy)(GK:MM K Bx "runs" "Week.runs" PF BM Dz)(GL:MM K By "__init__" "Span.__init__" PH BN DA)(GM:MM K By "copied" "Span.copied" PJ BO DB)(GN:MM K By "parts" "Span.parts" PL BP DC)(GO:MM K By "runs" "Span.runs" PM BQ DD)(GP:MM K Bz "__init__" "Each.__init__" PN BR DE)(GQ:MM K Bz "copied" "Each.copied" PP BS DF)(GR:MM K Bz "runs" "Each.runs" PQ BT DG)(GS:MM K BA "__init__" "Either.__init__" PR BU DH)(GT:MM K BA "copied" "Either.copied" PU BV DI)(GU:MM K BA "parts" "Either.parts" PV BW DJ)(GV:MM K BA "runs" "Either.runs" PX BX DK)(GW:MM K BB "__init__" "Both.__init__" PY BY DL)(GX:MM K BB "copied" "Both.copied" PZ BZ DN)(GY:MM K BB "parts" "Both.parts" P0 Ca DO)(GZ:MM K BB "runs" "Both.runs" P1 Cb DP)(Ha:MM K BC "__init__" "But.__init__" P2 Cc DQ)(Hb:MM K BC "copied" "But.copied" P3 Cd DR)(Hc:MM K BC "parts" "But.parts" P4 Ce DS)(Hd:MM K BC "runs" "But.runs" P5 Cf DT)(He:MM K BD "__init__" "Net.__init__" P6 Cg DU)(Hf:MM K BD "add_stop" "Net.add_stop" P7 Ch DV)(Hg:MM K BD "add_walk" "Net.add_walk" P8 Ci DW)(Hh:MM K BD "add_rule" "Net.add_rule" P9 Cj DX)(Hi:MM K BD "add_ticket" "Net.add_ticket" Ra Ck DY)(Hj:MM K BD "add_trip" "Net.add_trip" Rb Cl DZ)(Hk:MM K BD "check_stop" "Net.check_stop" Re Cm Ea)(Hl:MM K BD "check_trip" "Net.check_trip" Rf Cn Eb)(Hm:MM K BD "check_call" "Net.check_call" Rg Co Ec)(Hn:MM K BD "has_walk" "Net.has_walk" Rh Cp Ed)(Ho:MM K BD "stops" "Net.stops" Ri Cq Ee)(Hp:MM K BD "trips" "Net.trips" Rj Cr Ef)(Hq:MM K BD "rule" "Net.rule" Rk Cs Eg)(Hr:MM K BD "rule_name" "Net.rule_name" Rl Ct Eh)(Hs:MM K BD "calls" "Net.calls" Rm Cu Ei)(Ht:MM K BE "__init__" "Notices.__init__" Rn Cv Ej)(Hu:MM K BE "late" "Notices.late" Ro Cw Ek)(Hv:MM K BE "out" "Notices.out" Rq Cx El)(Hw:MM K BE "back" "Notices.back" Rr Cy Em)(Hx:MM K BE "moments" "Notices.moments" Rs Cz En)(Hy:MM K BE "told" "Notices.told" QM CA Eo)(Hz:MM K BE "late_minutes" "Notices.late_minutes" Rt CB Ep)(HA:MM K BE "check_day" "Notices.check_day" Ru CC Er)(HB:MM K BE "check_runs" "Notices.check_runs" Rv CD Es)(HC:MM K BE "check_goes" "Notices.check_goes" Rx CE Et)(HD:YG K Bw)(HE:Ni K Bw)(HF:YG K Bx)(HG:Mk K Bx BK)(HH:Yx K Bx "depth" BJ)(HI:Yx K Bx "parts" BG)(HJ:Yx K Bx "weight" BI)(HK:W.findIn K (.ref Bx) "bits"=some none)(HL:YG K By)(HM:Mk K By BN)(HN:Yx K By "depth" BJ)(HO:Yx K By "weight" BI)(HP:W.findIn K (.ref By) "first"=some none)(HQ:W.findIn K (.ref By) "last"=some none)(HR:W.findIn K (.ref By) "inner"=some none)(HS:YG K Bz)(HT:Mk K Bz BR)(HU:Yx K Bz "depth" BJ)(HV:Yx K Bz "parts" BG)(HW:Yx K Bz "weight" BI)(HX:W.findIn K (.ref Bz) "length"=some none)(HY:W.findIn K (.ref Bz) "starts"=some none)(HZ:YG K BA)(Ia:Mk K BA BU)(Ib:Yx K BA "depth" BJ)(Ic:Yx K BA "weight" BI)(Ie:W.findIn K (.ref BA) "one"=some none)(If:W.findIn K (.ref BA) "other"=some none)(Ig:YG K BB)(Ih:Mk K BB BY)(Ii:Yx K BB "depth" BJ)(Ij:Yx K BB "weight" BI)(Ik:W.findIn K (.ref BB) "one"=some none)(Il:W.findIn K (.ref BB) "other"=some none)(Im:YG K BC)(Io:Mk K BC Cc)(Ip:Yx K BC "depth" BJ)(Iq:Yx K BC "weight" BI)(Ir:W.findIn K (.ref BC) "days"=some none)(Is:W.findIn K (.ref BC) "inner"=some none)(It:YG K BD)(Iu:Mk K BD Cg)(Iv:W.findIn K (.ref BD) "stop_rows"=some none)(Iw:W.findIn K (.ref BD) "walk_rows"=some none)(Ix:W.findIn K (.ref BD) "rule_rows"=some none)(Iy:W.findIn K (.ref BD) "ticket_rows"=some none)(Iz:W.findIn K (.ref BD) "trip_rows"=some none)(IA:YG K BE)(IB:Mk K BE Cv)(IC:W.findIn K (.ref BE) "timetable"=some none)(ID:W.findIn K (.ref BE) "taken"=some none)(IE:W.findIn K (.ref BE) "lateness"=some none)(IF:WD K Bw)(IG:W.kitOne K (.ref Bw) (.ref Bw)=some true)(IH:WD K Bx)(II:W.kitOne K (.ref Bx) (.ref Bw)=some true)(IJ:WD K By)(IK:W.kitOne K (.ref By) (.ref Bw)=some true)(IL:WD K Bz)(IM:W.kitOne K (.ref Bz) (.ref Bw)=some true)(IN:WD K BA)(IP:W.kitOne K (.ref BA) (.ref Bw)=some true)(IQ:WD K BB)(IR:W.kitOne K (.ref BB) (.ref Bw)=some true)(IS:WD K BC)(IT:W.kitOne K (.ref BC) (.ref Bw)=some true)(IU:QH K Br)(IV:XI K Br)(IW:KX K Br [(Bf,false),(Bg,false),(Bh,false),(Bi,false),(Bj,false),(Bk,false),(Bl,false),(Bm,false),(Bn,false),(Bo,false),(Bp,false),(Bq,false),(Br,true),(Bs,false),(Bt,false),(Bv,false),(Bu,false)])(IX:W.kitOne K (.ref Br) (.type "ValueError")=some true)(IY:W.exmOne K (.ref Br) (.ref Be)=some true)(IZ:QH K Bp)(Ja:XI K Bp)(Jb:KX K Bp [(Bf,false),(Bg,false),(Bh,false),(Bi,false),(Bj,false),(Bk,false),(Bl,false),(Bm,false),(Bn,false),(Bo,false),(Bp,true),(Bq,false),(Br,false),(Bs,false),(Bt,false),(Bv,false),(Bu,false)])(Jc:W.kitOne K (.ref Bp) (.type "ValueError")=some true)(Jd:W.exmOne K (.ref Bp) (.ref Be)=some true)(Je:QH K Bn)(Jf:XI K Bn)(Jg:KX K Bn [(Bf,false),(Bg,false),(Bh,false),(Bi,false),(Bj,false),(Bk,false),(Bl,false),(Bm,false),(Bn,true),(Bo,false),(Bp,false),(Bq,false),(Br,false),(Bs,false),(Bt,false),(Bv,false),(Bu,false)])(Jh:W.kitOne K (.ref Bn) (.type "ValueError")=some true)(Ji:W.exmOne K (.ref Bn) (.ref Be)=some true)(Jj:Eo.code=.ref CF)(Jk:K.lookup CF=some ⟨Eu,Ex,.fields EA,ED⟩)(Jl:(EA[11]?:Option Value)=some (.ref CG))(Jm:K.lookup CG=none)(Jn:W.codeHdIn K CF CG=true)(Jo:CG∈EG)(Jp:Dq.code=.ref CH)(Jq:K.lookup CH=some ⟨Ev,Ey,.fields EB,EE⟩)(Jr:(EB[11]?:Option Value)=some (.ref CI))(Js:K.lookup CI=none)(Jt:W.codeHdIn K CH CI=true)(Ju:CI∈EG)(Jv:Dr.code=.ref CJ)(Jw:K.lookup CJ=some ⟨Ew,Ez,.fields EC,EF⟩)(Jx:(EC[11]?:Option Value)=some (.ref CK))(Jy:K.lookup CK=none)(Jz:W.codeHdIn K CJ CK=true)(JA:CK∈EG)(JB:CG≠CI)(JC:CG≠CK)(JD:CI≠CK): ∃t:Ye,Zv K mg t/\t.Yf∈EG/\t.YA∈EG/\t.WF∈EG :=
 ⟨⟨Ay,CL,Az,CM,AA,CN,AB,CO,AC,CP,AD,CQ,AE,CR,AF,CS,AG,CT,AH,CU,AI,CV,AJ,CW,AK,CY,AL,CZ,AM,Da,AN,Db,AO,Dc,AP,Dd,AQ,De,AR,Df,AS,Dg,AT,Dh,AU,Di,AV,Dj,AW,Dk,AX,Dl,AY,Dm,AZ,Dn,Ba,Do,Bb,Dp,Bc,Dq,Bd,Dr,BF,Ds,BG,Dt,BH,Du,BI,Dv,BJ,Dw,BK,Dx,BL,Dy,BM,Dz,BN,DA,BO,DB,BP,DC,BQ,DD,BR,DE,BS,DF,BT,DG,BU,DH,BV,DI,BW,DJ,BX,DK,BY,DL,BZ,DN,Ca,DO,Cb,DP,Cc,DQ,Cd,DR,Ce,DS,Cf,DT,Cg,DU,Ch,DV,Ci,DW,Cj,DX,Ck,DY,Cl,DZ,Cm,Ea,Cn,Eb,Co,Ec,Cp,Ed,Cq,Ee,Cr,Ef,Cs,Eg,Ct,Eh,Cu,Ei,Cv,Ej,Cw,Ek,Cx,El,Cy,Em,Cz,En,CA,Eo,CB,Ep,CC,Er,CD,Es,CE,Et,Be,Bf,Bg,Bh,Bi,Bj,Bk,Bl,Bm,Bn,Bo,Bp,Bq,Br,Bs,Bt,Bu,Bv,Bw,Bx,By,Bz,BA,BB,BC,BD,BE,CF,CG,CH,CI,CJ,CK,K⟩,⟨W.mg_none_of X G Fi,W.mg_none_of X G Fj,W.mg_none_of X G Fk,W.mg_none_of X G Fl,W.mg_none_of X G Fm,W.mg_none_of X G Fn,W.mg_none_of X G Fo,W.mg_none_of X G Fp,W.mg_none_of X G Fq,W.mg_none_of X G Fr,W.mg_none_of X G Fs,W.mg_none_of X G Ft,W.mg_none_of X G Fu,W.mg_none_of X G Fv,W.mg_none_of X G Fw,W.mg_none_of X G Fx,W.mg_none_of X G Fy,⟨_,W.mg_of X G Fz⟩,⟨_,W.mg_of X G FA⟩,⟨_,W.mg_of X G FB⟩,⟨_,W.mg_of X G FC⟩,⟨_,W.mg_of X G FD⟩,⟨_,W.mg_of X G FE⟩,⟨_,W.mg_of X G FF⟩,⟨_,W.mg_of X G FG⟩,⟨_,W.mg_of X G FH⟩,⟨_,W.mg_of X G FI⟩,⟨_,W.mg_of X G FJ⟩,⟨_,W.mg_of X G FK⟩,⟨_,W.mg_of X G FL⟩,⟨_,W.mg_of X G FM⟩,⟨_,W.mg_of X G FN⟩,⟨_,W.mg_of X G FO⟩,⟨_,W.mg_of X G FP⟩,⟨_,W.mg_of X G FQ⟩,⟨_,W.mg_of X G FR⟩,⟨_,W.mg_of X G FS⟩,⟨_,W.mg_of X G FT⟩,⟨_,W.mg_of X G FU⟩,⟨_,W.mg_of X G FV⟩,⟨_,W.mg_of X G FW⟩,YS X G FX (by rfl'),YS X G FY (by rfl'),YS X G FZ (by rfl'),YS X G Ga (by rfl'),YS X G Gb (by rfl'),YS X G Gc (by rfl'),YS X G Gd (by rfl'),YS X G Ge (by rfl'),YS X G Gf (by rfl'),YS X G Gg (by rfl'),YS X G Gh (by rfl'),YS X G Gi (by rfl'),YS X G Gj (by rfl'),YS X G Gk (by rfl'),YS X G Gl (by rfl'),YS X G Gm (by rfl'),YS X G Gn (by rfl'),YS X G Go (by rfl'),YS X G Gp (by rfl'),YS X G Gq (by rfl'),YS X G Gr (by rfl'),YS X G Gs (by rfl'),YS X G Gt (by rfl'),YS X G Gu (by rfl'),YS X G Gv (by rfl'),YS X G Gw (by rfl'),YS X G Gx (by rfl'),YS X G Gy (by rfl'),YS X G Gz (by rfl'),YS X G GA (by rfl'),YS X G GB (by rfl'),YS X G GC (by rfl'),Yb GD (by rfl'),Yb GE (by rfl'),Yb GF (by rfl'),Yb GG (by rfl'),Yb GH (by rfl'),Yb GI (by rfl'),Yb GJ (by rfl'),Yb GK (by rfl'),Yb GL (by rfl'),Yb GM (by rfl'),Yb GN (by rfl'),Yb GO (by rfl'),Yb GP (by rfl'),Yb GQ (by rfl'),Yb GR (by rfl'),Yb GS (by rfl'),Yb GT (by rfl'),Yb GU (by rfl'),Yb GV (by rfl'),Yb GW (by rfl'),Yb GX (by rfl'),Yb GY (by rfl'),Yb GZ (by rfl'),Yb Ha (by rfl'),Yb Hb (by rfl'),Yb Hc (by rfl'),Yb Hd (by rfl'),Yb He (by rfl'),Yb Hf (by rfl'),Yb Hg (by rfl'),Yb Hh (by rfl'),Yb Hi (by rfl'),Yb Hj (by rfl'),Yb Hk (by rfl'),Yb Hl (by rfl'),Yb Hm (by rfl'),Yb Hn (by rfl'),Yb Ho (by rfl'),Yb Hp (by rfl'),Yb Hq (by rfl'),Yb Hr (by rfl'),Yb Hs (by rfl'),Yb Ht (by rfl'),Yb Hu (by rfl'),Yb Hv (by rfl'),Yb Hw (by rfl'),Yb Hx (by rfl'),Yb Hy (by rfl'),Yb Hz (by rfl'),Yb HA (by rfl'),Yb HB (by rfl'),Yb HC (by rfl'),HD,HE,HF,HG,HH,HI,HJ,HK,HL,HM,HN,HO,HP,HQ,HR,HS,HT,HU,HV,HW,HX,HY,HZ,Ia,Ib,Ic,Ie,If,Ig,Ih,Ii,Ij,Ik,Il,Im,Io,Ip,Iq,Ir,Is,It,Iu,Iv,Iw,Ix,Iy,Iz,IA,IB,IC,ID,IE,IF,IG,IH,II,IJ,IK,IL,IM,IN,IP,IQ,IR,IS,IT,W.mg_of X G EH,W.mg_of X G EI,W.mg_of X G EJ,W.mg_of X G EK,W.mg_of X G EL,W.mg_of X G EM,W.mg_of X G EN,W.mg_of X G EO,W.mg_of X G EP,W.mg_of X G EQ,W.mg_of X G ER,W.mg_of X G ES,W.mg_of X G ET,W.mg_of X G EU,W.mg_of X G EV,W.mg_of X G EW,W.mg_of X G EX,W.mg_of X G EY,W.mg_of X G EZ,W.mg_of X G Fa,W.mg_of X G Fb,W.mg_of X G Fc,W.mg_of X G Fd,W.mg_of X G Fe,W.mg_of X G Ff,W.mg_of X G Fg,W.mg_of X G Fh,IU,IV,IW,IX,IY,IZ,Ja,Jb,Jc,Jd,Je,Jf,Jg,Jh,Ji,Jj,Jn,Jm,Jp,Jt,Js,Jv,Jz,Jy,JB,JC,JD,rfl⟩,Jo,Ju,JA⟩
end K28
local macro_rules|`(command|#where)=>do
 let n:=`PySem.Challenge
 let f(k:String)(i:Nat):=Lean.mkIdent (.str `PySem.W.Fast s!"tw{((n.str "cw_roadbook_k28_notices_stand_holds").str s!"{k}{i}").hash}")
 let x:=(Array.range 1279).map (f "o_")++#[41].map (f "env_")++#[39,46,1239].map (f "heap_")++#[49,71,86,101,116,131,146,161,176,191,206,221,236,258,273,295,310,325,373,396,450,493,543,586,636,686,736,764,1014,1028,1119,1199].map (f "sts_")++#[47,70,85,100,115,130,145,160,175,190,205,220,235,257,272,294,309,324,372,395,449,492,542,585,635,685,735,763,929,1010,1027,1118,1198,1238].map (f "tree_")++#[39].map (f "view_")
 return Lean.mkNullNode (←x.mapM λi=>`(theorem $i:ident:True:=trivial))
#where
def PySem.W.Fast.tw12932052068713544401:=0
open PySem PySem.W PyProof.Rows
set_option maxRecDepth 100000 in
set_option maxHeartbeats 0 in
theorem PySem.Challenge.cw_roadbook_k28_notices_stand_holds : PySem.Challenge.rw_roadbook_k28_notices_stand.Holds := by
 w_on;o_law;k_head;(case hw=>w_witness2)
 k_fill
 refine L2.ZgM (l:=PySem.Challenge.rw_roadbook_k28_notices_stand) (n:=63) (k:=60) (x := "_law_script") (CX:=L2.Zr) (sp:=K28.sp_law) rfl (by lia) rfl ⟨rfl,by lia,by lia,rfl⟩ (fun w h Y=>⟨PySem.W.km_in_of Y,PySem.W.km_tabs_of Y⟩) ?F (fun _ _ _ a ns hl hT hS=>⟨a,ns,rfl,hT,hS,hl,fun _=>rfl⟩) fun _ _ _ _ z=>z
 case F =>
  intro EG eu w mg fa h KX G hmg
  have T:∃t,K28.Zv (L2.wD KX) mg t/\t.Yf∈EG/\t.YA∈EG/\t.WF∈EG:=by
   dsimp only[L2.wD]
   refine' K28.all_mk (EG:=EG) KX G ?EH ?EI ?EJ ?EK ?EL ?EM ?EN ?EO ?EP ?EQ ?ER ?ES ?ET ?EU ?EV ?EW ?EX ?EY ?EZ ?Fa ?Fb ?Fc ?Fd ?Fe ?Ff ?Fg ?Fh ?Fi ?Fj ?Fk ?Fl ?Fm ?Fn ?Fo ?Fp ?Fq ?Fr ?Fs ?Ft ?Fu ?Fv ?Fw ?Fx ?Fy ?Fz ?FA ?FB ?FC ?FD ?FE ?FF ?FG ?FH ?FI ?FJ ?FK ?FL ?FM ?FN ?FO ?FP ?FQ ?FR ?FS ?FT ?FU ?FV ?FW ?FX ?FY ?FZ ?Ga ?Gb ?Gc ?Gd ?Ge ?Gf ?Gg ?Gh ?Gi ?Gj ?Gk ?Gl ?Gm ?Gn ?Go ?Gp ?Gq ?Gr ?Gs ?Gt ?Gu ?Gv ?Gw ?Gx ?Gy ?Gz ?GA ?GB ?GC ?GD ?GE ?GF ?GG ?GH ?GI ?GJ ?GK ?GL ?GM ?GN ?GO ?GP ?GQ ?GR ?GS ?GT ?GU ?GV ?GW ?GX ?GY ?GZ ?Ha ?Hb ?Hc ?Hd ?He ?Hf ?Hg ?Hh ?Hi ?Hj ?Hk ?Hl ?Hm ?Hn ?Ho ?Hp ?Hq ?Hr ?Hs ?Ht ?Hu ?Hv ?Hw ?Hx ?Hy ?Hz ?HA ?HB ?HC ?HD ?HE ?HF ?HG ?HH ?HI ?HJ ?HK ?HL ?HM ?HN ?HO ?HP ?HQ ?HR ?HS ?HT ?HU ?HV ?HW ?HX ?HY ?HZ ?Ia ?Ib ?Ic ?Ie ?If ?Ig ?Ih ?Ii ?Ij ?Ik ?Il ?Im ?Io ?Ip ?Iq ?Ir ?Is ?It ?Iu ?Iv ?Iw ?Ix ?Iy ?Iz ?IA ?IB ?IC ?ID ?IE ?IF ?IG ?IH ?II ?IJ ?IK ?IL ?IM ?IN ?IP ?IQ ?IR ?IS ?IT ?IU ?IV ?IW ?IX ?IY ?IZ ?Ja ?Jb ?Jc ?Jd ?Je ?Jf ?Jg ?Jh ?Ji ?Jj ?Jk ?Jl ?Jm ?Jn ?Jo ?Jp ?Jq ?Jr ?Js ?Jt ?Ju ?Jv ?Jw ?Jx ?Jy ?Jz ?JA ?JB ?JC ?JD
   (case EH|EI|EJ|EK|EL|EM|EN|EO|EP|EQ|ER|ES|ET|EU|EV|EW|EX|EY|EZ|Fa|Fb|Fc|Fd|Fe|Ff|Fg|Fh|Fi|Fj|Fk|Fl|Fm|Fn|Fo|Fp|Fq|Fr|Fs|Ft|Fu|Fv|Fw|Fx|Fy|Fz|FA|FB|FC|FD|FE|FF|FG|FH|FI|FJ|FK|FL|FM|FN|FO|FP|FQ|FR|FS|FT|FU|FV|FW=>k_is)
   (case FX|FY|FZ|Ga|Gb|Gc|Gd|Ge|Gf|Gg|Gh|Gi|Gj|Gk|Gl|Gm|Gn|Go|Gp|Gq|Gr|Gs|Gt|Gu|Gv|Gw|Gx|Gy|Gz|GA|GB|GC=>refine' ⟨?a,L2.wE ?b ?c ?d⟩;(case a|b|c|d=>k_is))
   (case GD|GE|GF|GG|GH|GI|GJ|GK|GL|GM|GN|GO|GP|GQ|GR|GS|GT|GU|GV|GW|GX|GY|GZ|Ha|Hb|Hc|Hd|He|Hf|Hg|Hh|Hi|Hj|Hk|Hl|Hm|Hn|Ho|Hp|Hq|Hr|Hs|Ht|Hu|Hv|Hw|Hx|Hy|Hz|HA|HB|HC=>refine' ⟨⟨?a,?b,?c⟩,L2.wE ?d ?e ?f⟩;(case a|b|c|d|e|f=>k_is))
   (case HD=>refine' ⟨?a,?b,?c,?d⟩;(case a|b|c|d=>k_is))
   (case HE=>refine' ⟨?a,?b,?c⟩;(case a|b|c=>k_is))
   (case HF|HG=>refine' ⟨?a,?b,?c,?d⟩;(case a|b|c|d=>k_is))
   (case HH|HI|HJ=>refine' ⟨?a,?b,?c⟩;(case a|b|c=>k_is))
   (case HK=>k_is)
   (case HL|HM=>refine' ⟨?a,?b,?c,?d⟩;(case a|b|c|d=>k_is))
   (case HN|HO=>refine' ⟨?a,?b,?c⟩;(case a|b|c=>k_is))
   (case HP|HQ|HR=>k_is)
   (case HS|HT=>refine' ⟨?a,?b,?c,?d⟩;(case a|b|c|d=>k_is))
   (case HU|HV|HW=>refine' ⟨?a,?b,?c⟩;(case a|b|c=>k_is))
   (case HX|HY=>k_is)
   (case HZ|Ia=>refine' ⟨?a,?b,?c,?d⟩;(case a|b|c|d=>k_is))
   (case Ib|Ic=>refine' ⟨?a,?b,?c⟩;(case a|b|c=>k_is))
   (case Ie|If=>k_is)
   (case Ig|Ih=>refine' ⟨?a,?b,?c,?d⟩;(case a|b|c|d=>k_is))
   (case Ii|Ij=>refine' ⟨?a,?b,?c⟩;(case a|b|c=>k_is))
   (case Ik|Il=>k_is)
   (case Im|Io=>refine' ⟨?a,?b,?c,?d⟩;(case a|b|c|d=>k_is))
   (case Ip|Iq=>refine' ⟨?a,?b,?c⟩;(case a|b|c=>k_is))
   (case Ir|Is=>k_is)
   (case It|Iu=>refine' ⟨?a,?b,?c,?d⟩;(case a|b|c|d=>k_is))
   (case Iv|Iw|Ix|Iy|Iz=>k_is)
   (case IA|IB=>refine' ⟨?a,?b,?c,?d⟩;(case a|b|c|d=>k_is))
   (case IC|ID|IE=>k_is)
   (case IF=>refine' ⟨?a,?b,?c,?d⟩;(case a|b|c|d=>k_is))
   (case IG=>kit_is)
   (case IH=>refine' ⟨?a,?b,?c,?d⟩;(case a|b|c|d=>k_is))
   (case II=>kit_is)
   (case IJ=>refine' ⟨?a,?b,?c,?d⟩;(case a|b|c|d=>k_is))
   (case IK=>kit_is)
   (case IL=>refine' ⟨?a,?b,?c,?d⟩;(case a|b|c|d=>k_is))
   (case IM=>kit_is)
   (case IN=>refine' ⟨?a,?b,?c,?d⟩;(case a|b|c|d=>k_is))
   (case IP=>kit_is)
   (case IQ=>refine' ⟨?a,?b,?c,?d⟩;(case a|b|c|d=>k_is))
   (case IR=>kit_is)
   (case IS=>refine' ⟨?a,?b,?c,?d⟩;(case a|b|c|d=>k_is))
   (case IT=>kit_is)
   (case IU=>refine' ⟨?_⟩;k_exc)
   (case IV=>refine' L2.NQ ?a ?b ?c ?d ?e ?f ?g ?h;(case a|b|c|d|e|f|g|h=>k_is))
   (case IW=>refine' L2.Yd ?_ (L2.Yd ?_ (L2.Yd ?_ (L2.Yd ?_ (L2.Yd ?_ (L2.Yd ?_ (L2.Yd ?_ (L2.Yd ?_ (L2.Yd ?_ (L2.Yd ?_ (L2.Yd ?_ (L2.Yd ?_ (L2.Yd ?_ (L2.Yd ?_ (L2.Yd ?_ (L2.Yd ?_ (L2.Yd ?_ (L2.NR)))))))))))))))))<;>kit_is)
   (case IX=>kit_is)
   (case IY=>kts_exm)
   (case IZ=>refine' ⟨?_⟩;k_exc)
   (case Ja=>refine' L2.NQ ?a ?b ?c ?d ?e ?f ?g ?h;(case a|b|c|d|e|f|g|h=>k_is))
   (case Jb=>refine' L2.Yd ?_ (L2.Yd ?_ (L2.Yd ?_ (L2.Yd ?_ (L2.Yd ?_ (L2.Yd ?_ (L2.Yd ?_ (L2.Yd ?_ (L2.Yd ?_ (L2.Yd ?_ (L2.Yd ?_ (L2.Yd ?_ (L2.Yd ?_ (L2.Yd ?_ (L2.Yd ?_ (L2.Yd ?_ (L2.Yd ?_ (L2.NR)))))))))))))))))<;>kit_is)
   (case Jc=>kit_is)
   (case Jd=>kts_exm)
   (case Je=>refine' ⟨?_⟩;k_exc)
   (case Jf=>refine' L2.NQ ?a ?b ?c ?d ?e ?f ?g ?h;(case a|b|c|d|e|f|g|h=>k_is))
   (case Jg=>refine' L2.Yd ?_ (L2.Yd ?_ (L2.Yd ?_ (L2.Yd ?_ (L2.Yd ?_ (L2.Yd ?_ (L2.Yd ?_ (L2.Yd ?_ (L2.Yd ?_ (L2.Yd ?_ (L2.Yd ?_ (L2.Yd ?_ (L2.Yd ?_ (L2.Yd ?_ (L2.Yd ?_ (L2.Yd ?_ (L2.Yd ?_ (L2.NR)))))))))))))))))<;>kit_is)
   (case Jh=>kit_is)
   (case Ji=>kts_exm)
   (case Jj=>exact rfl)
   (case Jk=>k_is)
   (case Jl=>exact rfl)
   (case Jm=>first|k_is|exact rfl|decide +kernel)
   (case Jn=>first|kernel_rfl|k_is|exact rfl|decide +kernel)
   (case Jo=>rw[eu];lia)
   (case Jp=>exact rfl)
   (case Jq=>k_is)
   (case Jr=>exact rfl)
   (case Js=>first|k_is|exact rfl|decide +kernel)
   (case Jt=>first|kernel_rfl|k_is|exact rfl|decide +kernel)
   (case Ju=>rw[eu];lia)
   (case Jv=>exact rfl)
   (case Jw=>k_is)
   (case Jx=>exact rfl)
   (case Jy=>first|k_is|exact rfl|decide +kernel)
   (case Jz=>first|kernel_rfl|k_is|exact rfl|decide +kernel)
   (case JA=>rw[eu];lia)
   (case JB|JC|JD=>decide)
  obtain⟨t,T,m_Notices_told,m_law_tell,m_law⟩:=T
  have e0:=hmg.symm.trans T.Tu.m
  cases e0
  refine' ⟨[(t.QN,t.Yf),(t.JU,t.YA),(t.LG,t.WF)],L2.G7 ⟨⟨⟨T.ZjD,m_Notices_told⟩,T.ZjE⟩,⟨⟨T.ZjF,m_law_tell⟩,T.ZjG⟩,⟨⟨T.ZjI,m_law⟩,T.ZjJ⟩,trivial⟩,t.Lw,?b,fun base kb nb hC hB=>K28.Zmh T (hC _ (.head _)) (hC _ (.tail _ (.head _))) (hC _ (.tail _ (.tail _ (.head _)))) hB⟩
  obtain⟨oc,od,kV,doc,pm,an,cdv,ct,osl,e,_,_⟩:=T.Tu.F.ex
  rw[e]
  exact fun s EG=>.of_eq rfl
