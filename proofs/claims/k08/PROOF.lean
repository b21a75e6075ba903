import PyProof.Rows.All
import Lean
import PyProof.EqAt
import PyProof.EqKinds
import PyProof.TupleCall
import KE.KIntText
import PyProof.CompFree
import PyProof.P3Eq
import PyProof.NeData
import PyProof.StrLawsTight
import PyProof.StrLawsReplace
import PyProof.StrCalls2
import KE.IntTextLaws
import KE.KMinBuiltin
import PyProof.WalkInts
import PyProof.Rows.CallKwBuiltin
import PyProof.Rows.CallKw2
import PyProof.SetScanFacts
import PyProof.SetKind
import PyProof.DictStraight
import PyProof.Rows.SetFrom
import PyProof.DictIter
import PyProof.Walks
import PyProof.FactsAll.set_1
import PyProof.Rows.TupIn
import PyProof.CollectWalk
import PyProof.FactsAll.set_2
import PyProof.Rows.SortWalk
import PyProof.MeetsStr
import PyProof.StrLaws
import PyProof.StrBlockL
import PyProof.ListRange
import PyProof.ZipIter
import PyProof.EnumMake
import PyProof.Rows.EnumRows
import PyProof.Rows.FactsT2
import PyProof.DictWalks
import PyProof.Conv_int_bool
import KE.KRevSl
import KE.KDictList
import KE.KLam
import KE.KMinKey
import PyProof.Draws
import PyProof.Rows.Range3
import PyProof.StrWalks
import PyProof.DictItems
import KE.KPairComp
import PyProof.Rows.SortStr
import KE.KTryOn
import KE.KRevIter
import PyProof.Rows.StrCut
import PyProof.StrOps2
import PyProof.Rows.StrFirst
import PyProof.Rows.StrNews2
import KE.KFromBytes
import KE.KNestM
import KE.KDictOf
import KE.RegKIsAll
import KE.RegKTryMore
import PySem.Challenge.RW_roadbook_k08_texts_told_and_read
noncomputable section
local macro_rules|`(tactic| lia) => `(tactic| first|decide +kernel|(intros; contradiction)|lia -verbose|omega|(intro _ _ _ _ h; cases h; subst_vars; rfl))
local macro_rules|`(tactic|erw[$t:term])=>`(tactic|refine $t)
local macro_rules|`(tactic|ext $p:rcasesPat $h:ident)=>`(tactic|obtain $p:rcasesPat:=$h)
local macro_rules | `(()) => `(by lia)
theorem L2.zL9{n:Nat}(h:Nat.ble n 99=true):n<=PySem.sizeLine:=Nat.le_trans (Nat.le_of_ble_eq_true h) (by decide)
set_option maxRecDepth 100000
set_option maxHeartbeats 4000000
set_option bootstrap.genMatcherCode false
set_option Elab.async false
set_option linter.all false
namespace L2
open PySem PySem.Spec PyProof.Rows
def Sa:=@wpAny_bind
def Sb:=@wpAny_pure
def Sc:=@Heap.get?_push_of_some
def Sd:=@Heap.get?_push_size
def Se:=@Heap.lt_size
def Sf:=@Nat.ne_of_lt
def Sg:=@Nat.le_refl
def Sh:=@Nat.le_trans
def Si:=@Nat.lt_of_lt_of_le
def Sj:=@Nat.lt_of_le_of_lt
def Sk:=@Nat.zero_le
def Sl:=@Nat.lt_irrefl
def Sm:=@Nat.lt_succ_self
def Sn:=@Nat.lt_succ_of_lt
def So:=@Option.some.inj
def Sr:=@List.getElem?_eq_some_iff
def Ss:=@List.getElem?_eq_getElem
def Su:=@List.length_append
def Sv:=@List.length_map
def Sw:=@List.length_singleton
def Sx:=@List.length_take
def Sy:=@List.length_cons
def SA:=@List.length_replicate
def SB:=@List.length_drop
def SD:=@List.mem_cons_of_mem
def SE:=@List.mem_cons_self
def SF:=@List.mem_singleton
def SG:=@List.mem_cons
def SH:=@List.mem_append
def SI:=@List.mem_append_right
def SJ:=@List.mem_append_left
def SK:=@List.mem_map
def SL:=@List.mem_of_getElem?
def SM:=@List.map_append
def SN:=@List.map_cons
def SO:=@List.size_toArray
def SQ:=@Bool.false_ne_true
def SR:=@decide_eq_true
def SS:=@decide_eq_false
def SU:=@of_decide_eq_true
def SV:=@if_neg
def SW:=@if_pos
def SX:=@Int.natCast_emod
def SY:=@Int.natCast_ediv
def SZ:=@List.take_of_length_le
def Oa:=@List.take_add_one
def Ob:=@List.getElem?_map
def Oc:=@List.getElem?_append_right
def Od:=@List.append_nil
def Oe:=@List.append_assoc
def Of:=@List.map_map
def Og:=@Option.map_eq_some_iff
def Oh:=@Nat.not_lt
def Oi:=@Bool.eq_false_iff
def Oj:=@List.getElem_mem
def Ol:=@List.range_succ
def Om:=@List.nodup_cons
def On:=@Nat.le_add_left
def Oo:=@Nat.le_add_right
def Op:=@Nat.mod_lt
def Oq:=@wpAny_load
def Os:=@wpAny_mono
def Ot:=@absurd
def Ou:=@Bool.true_and
abbrev Ov:=Value->Shared->Prop
abbrev Ow:=List (Addr×Obj)
abbrev Ox:=Str->Option Value
abbrev Oy:=W.Frag
abbrev Oz:=List (Str×Addr)
abbrev OA:=Array (Option Value)
abbrev OB:=Unit->Shared->Prop
abbrev OC:=List Value
abbrev OD:=List Str
abbrev OE:=List Expr
abbrev OF:=List Int
abbrev OG:=Option Addr
abbrev OH:=List Nat
abbrev OI:=List Addr
abbrev OJ:=SetTable
abbrev OK:=FuncData
abbrev OL:=Str.ofString
def R{α:Sort u}{a:α}:a=a:=rfl
abbrev ZD:=Sum Int Str
def D4:ZD->Value->Bool
 |.inl k,v=>Value.isInt k v
 |.inr x,v=>Value.isStrOf x v
def Zgp(w:World):ZD->Int
 |.inl k=>hashInt k
 |.inr x=>hashStr w x
theorem UW:∀{k:ZD} {v:Value},D4 k v=true->(∃i t,k=Sum.inl i/\v=Value.int i t)\/(∃x t,k=Sum.inr x/\v=Value.str x t)
 |.inl i,v,h=>by
  obtain⟨t,e⟩:=Value.isInt_shape (k:=i) (v:=v) h;exact .inl ⟨i,t,R,e⟩
 |.inr x,v,h=>by
  obtain⟨t,e⟩:=Value.isStrOf_shape (x:=x) (v:=v) h;exact .inr ⟨x,t,R,e⟩
def Zgq(i:Int)(t:Tok):D4 (.inl i) (.int i t)=true:=by simp[D4,Value.isInt]
def Zgr(x:Str)(t:Tok):D4 (.inr x) (.str x t)=true:=by simp[D4,Value.isStrOf]
def Zgs(a b:Int):decide ((Sum.inl a:ZD)=Sum.inl b)=(a==b):=by
 by_cases e:a=b;subst e;simp;have h:¬ (Sum.inl a:ZD)=Sum.inl b:=λq=>e (Sum.inl.inj q);rw[SS h];exact(beq_eq_false_iff_ne.mpr e).symm
def Zgt(a b:Str):decide ((Sum.inr a:ZD)=Sum.inr b)=decide (a=b):=by
 by_cases e:a=b;subst e;simp;have h:¬ (Sum.inr a:ZD)=Sum.inr b:=λq=>e (Sum.inr.inj q);rw[SS h,SS e]
def Zgu(a:Int)(b:Str):decide ((Sum.inl a:ZD)=Sum.inr b)=false:=SS (λq=>nomatch q)
def Zgv(a:Str)(b:Int):decide ((Sum.inr a:ZD)=Sum.inl b)=false:=SS (λq=>nomatch q)
def XR(prog:Program)(w:World):PySem.KeyKind prog w ZD where
 is:=D4
 hash:=Zgp w
 inj:=λv a b ha g=>by
  rcases UW ha with⟨i,t,rfl,rfl⟩|⟨x,t,rfl,rfl⟩;rcases UW g with⟨j,u,rfl,e⟩|⟨y,u,rfl,e⟩;injection e with c _;rw[c];exact nomatch e;rcases UW g with⟨j,u,rfl,e⟩|⟨y,u,rfl,e⟩;exact nomatch e;injection e with c _;rw[c]
 byValue:=λk v h=>by
  rcases UW h with⟨i,t,rfl,rfl⟩|⟨x,t,rfl,rfl⟩<;>rfl
 pyHash:=λf h=>by
  rcases UW f with⟨i,t,rfl,rfl⟩|⟨x,t,rfl,rfl⟩;exact wpAny_pyHash_int h;exact wpAny_pyHash_str h
 eqBool:=λn f h=>by
  rcases UW n with⟨i,t,rfl,rfl⟩|⟨x,t,rfl,rfl⟩;rcases UW f with⟨j,u,rfl,rfl⟩|⟨y,u,rfl,rfl⟩;rw[Zgs]at h;exact wpAny_eqBool_int h;rw[Zgu]at h;exact SeqAt.EqAt.int_str i t y u _ _ _ _ h;rcases UW f with⟨j,u,rfl,rfl⟩|⟨y,u,rfl,rfl⟩;rw[Zgv]at h;exact SeqAt.EqAt.str_int x t j u _ _ _ _ h;rw[Zgt]at h;exact wpAny_eqBool_str h
 «strs»:=λk x t v h=>by
  rcases UW h with⟨i,u,rfl,e⟩|⟨y,u,rfl,e⟩;exact nomatch e;injection e with c _;subst c;cases v<;>rfl
def Zgw(prog:Program)(w:World)(i:Int)(t:Tok):(XR prog w).is (.inl i) (.int i t)=true:=Zgq i t
def Zgx(prog:Program)(w:World)(x:Str)(t:Tok):(XR prog w).is (.inr x) (.str x t)=true:=Zgr x t
inductive V where
 |non|bl (b:Bool)|int (i:Int)|str (x:Str)|byt (b:Array UInt8)|flt (b:UInt64)|ref (a:Addr)|ty (n:String)
 deriving DecidableEq
def ZP:V->Value->Prop
 |.non,u=>u=Value.none
 |.bl b,u=>u=Value.bool b
 |.int i,u=>∃t,u=Value.int i t
 |.str x,u=>∃t,u=Value.str x t
 |.byt b,u=>∃t,u=Value.bytes b t
 |.flt b,u=>∃t,u=Value.float b t
 |.ref a,u=>u=Value.ref a
 |.ty n,u=>u=Value.type n
abbrev ZG:List V->List Value->Prop:=Paired ZP
def ZG.length{xs:List V}{us:OC}(r:ZG xs us):xs.length=us.length:=Paired.length r
theorem ZG.get:∀{xs:List V} {us:OC} {i:Nat} {x:V},ZG xs us->xs[i]? = some x->∃u,us[i]? = some u/\ZP x u
 |_,_,_,_,.nil,e=>by simp at e
 |_,_,0,_,.cons r _,e=>by simp at e;subst e;exact⟨_,R,r⟩
 |_,_,i+1,x,.cons _ t,e=>by
  obtain⟨u,h1,c⟩:=ZG.get (i:=i) (x:=x) t (by simpa using e);exact⟨u,by simpa using h1,c⟩
theorem ZG.append:∀{xs c:List V} {us ws:OC},ZG xs us->ZG c ws->ZG (xs++c) (us++ws)
 |_,_,_,_,.nil,s=>s
 |_,_,_,_,.cons r t,s=>.cons r (ZG.append t s)
theorem ZG.take:∀{xs:List V} {us:OC} (n:Nat),ZG xs us->ZG (xs.take n) (us.take n)
 |_,_,0,_=>.nil
 |_,_,_+1,.nil=>.nil
 |_,_,n+1,.cons r t=>.cons r (ZG.take n t)
theorem ZG.drop:∀{xs:List V} {us:OC} (n:Nat),ZG xs us->ZG (xs.drop n) (us.drop n)
 |_,_,0,r=>r
 |_,_,_+1,.nil=>.nil
 |_,_,n+1,.cons _ t=>ZG.drop n t
def WE:Option V->Option Value->Prop
 |some v,some u=>ZP v u
 |none,none=>True
 |_,_=>False
def KV{c:Type}:List (c×V)->List (c×Value)->Prop:=Paired λ(p:c×V) (q:c×Value)=>p.1=q.1/\ZP p.2 q.2
def kV:ZD->V
 |.inl i=>.int i
 |.inr x=>.str x
inductive HO where
  |lst (xs:List V)
  |tup (xs:List V)
  |dK (kvs:List (ZD×V))|dT (kvs:List (List ZD×V))
  |set (S:Int->Bool) (n:Nat)
  |ins (C dx:Addr) (fs:List (Str×V))
  |own (x:Addr)
  |xd (fs:List (Str×V))
  |met (f x:Addr)
  |rng (lo hi:Int)
  |frz (o:Obj) (u:HO)
  |tbl (ps:Array Value)
  |ext (φ:Heap->Prop)
abbrev Hp:=Addr->Option HO
def upd(H:Hp)(a:Addr)(o:HO):Hp:=λb=>if b=a then some o else H b
def Zi{H:Hp}{a:Addr}{o:HO}:upd H a o a=some o:=by unfold upd;rw[SW R]
def Zm(h:b≠a):upd H a o b=H b:=by unfold upd;rw[SV h]
def Vg{H:Hp}{a b:Addr}{o u:HO}(h:H a=some o)(h':H b=some u)(d:o≠u):a≠b:=by
 intro e;subst e;rw[h]at h';exact d (So h')
def Z4{H:Hp}{a b:Addr}{o:HO}(h:H a=some o)(h':H b=none):a≠b:=by
 intro e;subst e;rw[h]at h';cases h'
section
variable(P:Program)(w:World)
def Yq(H:Hp)(h:Heap)(a:Addr):HO->Prop
 |.lst xs=>xs.length<=sizeLine/\∃(i:OC) (n:Nat),ZG xs i/\h.get? a=some {cls:=.type "list",data:=.seq i.toArray n}
 |.tup xs=>xs.length<=sizeLine/\∃i:List Value,ZG xs i/\IsTup h a i.toArray
 |.dK g=>g.length<=sizeLine/\(a==sysModules)=false/\∃B,KV g B/\h.DictOf (XR P w) a B
 |.dT g=>g.length<=sizeLine/\(a==sysModules)=false/\∃xs:List (List ZD×Addr×Value),
   Paired (λ(p:List ZD×V) (q:List ZD×Addr×Value)=>p.1=q.1/\H q.2.1=some (.tup (p.1.map kV))/\ZP p.2 q.2.2) g xs /\
   ∃o G I,h.get? a=some o/\o.ExactDict/\o.data=.dict G I/\G.toList=xs.map (entryOfKey (tupleKind (XR P w)))/\(xs.map (·.1)).Nodup
 |.set S n=>h.SetOf (intKind P w) a S n
 |.ins C j fs=>H j=some (.own a)/\fs.length<=1000/\j≠a/\h.get? a=some (W.instObj C j) /\
   ∃c,h.Ns1 j c/\(∀f,WE (fs.lookup f) (c f))/\PySem.Within c (fs.map (·.1))
 |.own _=>∃o,h.get? a=some o
 |.xd fs=>∃c,h.Ns1 a c/\∀f,WE (fs.lookup f) (c f)
 |.rng lo J=>∃t u v,h.get? a=some {cls:=.type "range",data:=.fields #[.int lo t,.int J u,.int 1 v]}
 |.frz o u=>h.get? a=some o/\Yq H h a u
 |.tbl L=>h.get? a=some {cls:=.none,data:=.fields L}
 |.met f x=>h.get? a=some (W.methodObj (.ref f) (.ref x))
 |.ext y=>y h/\(∃o,h.get? a=some o)/\∀E D:Heap,y E->(∀o,E.get? a=some o->D.get? a=some o)->y D
def YK(H:Hp)(h:Heap):Prop:=∀a o,H a=some o->Yq P w H h a o
end
section
variable{P:Program}{w:World}{H H':Hp}{h h':Heap}{a:Addr}{o:HO}
def Yq.lt(x:Yq P w H h a o):a<h.objs.size:=by
 cases o with
 |lst g=>ext⟨_,_,_,_,e⟩ x;exact Se e
 |tup g=>ext⟨_,_,_,p⟩ x;exact p.lt
 |dK c=>ext⟨_,_,_,_,o,_,_,e,_⟩ x;exact Se e
 |dT c=>ext⟨_,_,_,_,o,_,_,e,_⟩ x;exact Se e
 |set S n=>ext⟨o,_,_,_,e,_⟩ x;exact Se e
 |ins C j fs=>ext⟨_,_,_,e,_⟩ x;exact Se e
 |own y=>ext⟨_,e⟩ x;exact Se e
 |xd fs=>ext⟨_,⟨_,_,_,e,_⟩,_⟩ x;exact Se e
 |rng lo v=>ext⟨_,_,_,e⟩ x;exact Se e
 |frz ob u=>ext⟨e,_⟩ x;exact Se e
 |tbl B=>exact Se (show h.get? a=some _ from x)
 |met f y=>exact Se (show h.get? a=some _ from x)
 |ext i=>ext⟨_,⟨_,e⟩,_⟩ x;exact Se e
theorem Paired.mapP{g c:Type}{F G:g->c->Prop}:∀{i:List g} {l₂:List c},Paired F i l₂->(∀a b,F a b->G a b)->Paired G i l₂
 |_,_,.nil,_=>.nil
 |_,_,.cons r t,f=>.cons (f _ _ r) (Paired.mapP t f)
def Yq.stay(x:Yq P w H h a o)(k:∀b u,(b=a\/H b=some (.own a))->h.get? b=some u->h'.get? b=some u)
  (O:∀b,H b=some (.own a)->H' b=some (.own a)) (I:∀b xs,H b=some (.tup xs)->H' b=some (.tup xs)):Yq P w H' h' a o:=by
 induction o with
 |lst xs=>ext⟨z,B,n,r,e⟩ x;exact⟨z,B,n,r,k _ _ (.inl R) e⟩
 |tup xs=>ext⟨z,B,r,ob,e,c⟩ x;exact⟨z,B,r,ob,k _ _ (.inl R) e,c⟩
 |dK L=>ext⟨z,y,M,r,ob,g,i,e,c⟩ x;exact⟨z,y,M,r,ob,g,i,k _ _ (.inl R) e,c⟩
 |dT L =>
  ext⟨z,y,xs,r,ob,g,i,e,c⟩ x;exact⟨z,y,xs,Paired.mapP r λp q z=>⟨z.1,I _ _ z.2.1,z.2.2⟩,ob,g,i,k _ _ (.inl R) e,c⟩
 |set S n=>ext⟨ob,g,i,t,e,c⟩ x;exact⟨ob,g,i,t,k _ _ (.inl R) e,c⟩
 |ins C Q fs =>
  ext⟨d,z,ne,e,j,⟨D,g,i,J,c⟩,r⟩ x;exact⟨O _ d,z,ne,k _ _ (.inl R) e,j,⟨D,g,i,k _ _ (.inr d) J,c⟩,r⟩
 |own y=>ext⟨ob,e⟩ x;exact⟨ob,k _ _ (.inl R) e⟩
 |xd fs=>ext⟨j,⟨D,g,i,e,c⟩,r⟩ x;exact⟨j,⟨D,g,i,k _ _ (.inl R) e,c⟩,r⟩
 |rng lo U=>ext⟨t,u,v,e⟩ x;exact⟨t,u,v,k _ _ (.inl R) e⟩
 |frz ob u G=>ext⟨e,q⟩ x;exact⟨k _ _ (.inl R) e,G q⟩
 |tbl E =>
  have e:h.get? a=some {cls:=.none,data:=.fields E}:=x;show h'.get? a=some {cls:=.none,data:=.fields E};exact k a _ (.inl R) e
 |met f y =>
  have e:h.get? a=some (W.methodObj (.ref f) (.ref y)):=x;show h'.get? a=some (W.methodObj (.ref f) (.ref y));exact k a _ (.inl R) e
 |ext T=>ext⟨p,⟨o,e⟩,st⟩ x;exact⟨st _ _ p λo q=>k _ _ (.inl R) q,⟨o,k _ _ (.inl R) e⟩,st⟩
def YK.lt(x:YK P w H h)(e:H a=some o):a<h.objs.size:=(x a o e).lt
def YK.fresh(x:YK P w H h)(e:h.objs.size<=a):H a=none:=by
 cases q:H a with
 |none=>rfl
 |some u=>exact Ot (Si (x.lt q) e) (Sl _)
def YK.kept(x:YK P w H h)(k:∀b u,h.get? b=some u->h'.get? b=some u):YK P w H h':=λa o e =>
 (x a o e).stay (λb u _ q=>k b u q) (λ_ q=>q) λ_ _ q=>q
def YK.laid(x:YK P w H h)(k:∀b u,h.get? b=some u->h'.get? b=some u)(g:h.objs.size<=a)(new:Yq P w (upd H a o) h' a o):YK P w (upd H a o) h':=λb u e=>by
 have hn:=x.fresh g;by_cases f:b=a;subst f;rw[Zi]at e;cases e;exact new;rw[Zm f]at e;exact(x b u e).stay (λc v _ q=>k c v q) (λc q=>by rwa[Zm (Z4 q hn)]) λc i q=>by rwa[Zm (Z4 q hn)]
end
def Rd(H:Hp)(a:Addr)(u:HO):Prop:=H a=some u\/∃o,H a=some (.frz o u)
def Rd.ok(r:Rd H a u)(x:YK P w H h):Yq P w H h a u:=by
 rcases r with r|⟨o,r⟩;exact x a u r;obtain⟨_,q⟩:=x a _ r;exact q
def KZ:Option HO->Prop
 |some (.lst _)=>True
 |some (.dK _)=>True
 |some (.dT _)=>True
 |some (.set _ _)=>True
 |some (.ins _ _ _)=>True
 |some (.ext _)=>True
 |_=>False
section
variable{P:Program}{w:World}{H:Hp}{h h':Heap}{x e:Addr}{o':HO}
def YK.write(ok:YK P w H h)(j:KZ (H x))(D:e=x\/H e=some (.own x))(k:∀b u,b≠e->h.get? b=some u->h'.get? b=some u)(E:∃u,h'.get? e=some u)
  (new:Yq P w (upd H x o') h' x o'):YK P w (upd H x o') h':=λb u q=>by
 have B:∀c y,H c=some (.own y)->c≠x:=λc y r z=>by subst z;rw[r]at j;exact j
 have I:∀c i,H c=some (.tup i)->c≠x:=λc i r z=>by subst z;rw[r]at j;exact j
 by_cases g:b=x;subst g;rw[Zi]at q;cases q;exact new;rw[Zm g]at q;by_cases f:b=e;have C:H b=some (.own x):=by
  rcases D with z|z;exact Ot (f.trans z) g;rwa[f]
 rw[q]at C;cases C;ext⟨v,G⟩ E;exact⟨v,by rwa[f]⟩;refine(ok b u q).stay (λc v n r=>k c v ?_ r) (λc r=>by rwa[Zm (B c b r)]) λc i r=>by rwa[Zm (I c i r)]
 rcases n with rfl|n;exact f;rintro rfl;rcases D with z|z;exact B c b n z;rw[n]at z;cases z;exact g R
end
structure Un(fs ex:OI)(H H':Hp)(h h':Heap):Prop where
 keep:∀b o,h.get? b=some o->H b=none->b∉fs->b∉ex->h'.get? b=some o
 slot:∀b o,h.get? b=some o->H b=none->b∈fs->b∉ex->∃sl,h'.get? b=some {o with slots:=sl}
 free:∀b o,h.get? b=some o->H b=none->b∉ex->H' b=none
 there:∀b o,h.get? b=some o->b∉ex->∃o',h'.get? b=some o'
 tups:∀b xs,H b=some (.tup xs)->H' b=some (.tup xs)
 frzs:∀b o u,H b=some (.frz o u)->H' b=some (.frz o u)
 tbls:∀b ps,H b=some (.tbl ps)->∃more,H' b=some (.tbl (ps++more))
section
variable{fs fs' ex ex':OI}{H H1 H2:Hp}{h h1 h2 h':Heap}{a x e:Addr}{o:HO}
def Un.any(u:Un fs ex H H1 h h1)(q:h.get? b=some ob)(n:H b=none)(c:b∉ex):∃g,h1.get? b=some {ob with slots:=g}:=by
 by_cases f:b∈fs;exact u.slot b ob q n f c;exact⟨ob.slots,u.keep b ob q n f c⟩
def Un.kept(k:∀b u,h.get? b=some u->h'.get? b=some u):Un fs ex H H h h' :=
 ⟨λb ob q _ _ _=>k b ob q,λb ob q _ _ _=>⟨ob.slots,k b ob q⟩,λ_ _ _ n _=>n,λb ob q _=>⟨ob,k b ob q⟩,λ_ _ q=>q,λ_ _ _ q=>q,λ_ c q=>⟨#[],by rw[q];simp⟩⟩
def Un.refl:Un fs ex H H h h:=Un.kept λ_ _ q=>q
def Un.laid(k:∀b u,h.get? b=some u->h'.get? b=some u)(f:h.objs.size<=a)(hn:H a=none):Un fs ex H (upd H a o) h h' where
 keep:=λb u q _ _ _=>k b u q
 slot:=λb u q _ _ _=>⟨u.slots,k b u q⟩
 free:=λb u q n _=>by rwa[Zm (Sf (Si (Se q) f))]
 there:=λb u q _=>⟨u,k b u q⟩
 tups:=λb c q=>by rwa[Zm (Z4 q hn)]
 frzs:=λb u c q=>by rwa[Zm (Z4 q hn)]
 tbls:=λb g q=>⟨#[],by rw[Zm (Z4 q hn),q];simp⟩
def Un.write(c:KZ (H x))(y:e=x\/H e=some (.own x))(k:∀b u,b≠e->h.get? b=some u->h'.get? b=some u)(j:∃u,h'.get? e=some u):Un fs ex H (upd H x o) h h':=by
 have f:∀b,H b=none->b≠x:=λb n z=>by subst z;rw[n]at c;exact c
 have i:∀b,H b=none->b≠e:=λb n z=>by
  subst z;rcases y with r|r;exact f b n r;rw[n]at r;cases r
 have hm:∀b u,H b=some u->¬ KZ (some u)->b≠x:=λb u q nm z=>by subst z;rw[q]at c;exact nm c
 refine⟨λb u q n _ _=>k b u (i b n) q,λb u q n _ _=>⟨u.slots,k b u (i b n) q⟩,λb u q n _=>by rwa[Zm (f b n)],λb u q _=>?_,
  λb v q=>by rwa[Zm (hm b _ q λz=>z)],λb u v q=>by rwa[Zm (hm b _ q λz=>z)],λb B q=>⟨#[],by rw[Zm (hm b _ q λz=>z),q];simp⟩⟩
 by_cases g:b=e;subst g;exact j;exact⟨u,k b u g q⟩
end
def MD(h:Heap)(H:Hp):List Addr:=(List.range h.objs.size).filter λa=>(H a).isSome
def UX(h:Heap)(H:Hp):Heap:=W.hideAll h (MD h H)
def Zgy(h:Heap)(H:Hp):(UX h H).objs.size=h.objs.size:=W.hideAll_size _ _
def Zgz{h:Heap}(e:h.get? b=some o)(n:H b=none):(UX h H).get? b=some o :=
 W.hideAll_get _ e λhm=>by
  have q:(H b).isSome=true:=(List.mem_filter.mp hm).2;rw[n]at q;simp at q
def ZgA{h:Heap}(e:(UX h H).get? b=some o):h.get? b=some o/\H b=none:=by
 have c:h.get? b=some o:=W.of_hideAll (MD h H) e;erw[⟨c,?_⟩];cases q:H b with
 |none=>rfl
 |some x =>
  have hm:b∈MD h H:=List.mem_filter.mpr ⟨List.mem_range.mpr (Se c),by simp[q]⟩;have z:(UX h H).get? b=none:=W.hideAll_none (MD h H) hm;rw[z]at e;cases e
structure Mod(K:Oy)(mg:Ox)(base:Heap):Prop where
 kin:K.In base
 glob:base.Ns mainGlobals mg
 blt:∃mb,base.Ns builtinsNs mb/\∀x:Str,x ≠ "__name__" -> mb x=bootBuiltins x
 nolimit:base.NoLimit
structure Cx where
 prog:Program
 w:World
 K:W.Frag
 mg:Str->Option Value
 base:Heap
 A:Around
 N:List Str
 s₀:Shared
 H₀:Hp
 env:Env
 outer:List Env
 stack:List Env
 ex:List Addr
 fn:Str->Bool
 calm:Bool
 pn:List (Addr×Obj)
 xe:Value->Shared->Prop
def Yj(l:List Env):List Addr:=l.filterMap (·.frame)
abbrev Cx.fs(X:Cx):List Addr:=Yj X.outer
def ME(c:Scope)(x:Str):Prop:=c.names.lookup x=some .local\/c.names.lookup x=some .cell\/c.names.lookup x=some .free
def QY(c:Scope)(x:Str):Prop:=c.names.lookup x=some .local\/c.names.lookup x=some .cell
def kA(env:Env)(h:Heap)(m:Ox)(x:Str)(u:Value):Prop :=
 (env.kindOf x=some .local/\m x=some u)\/((env.kindOf x=some .cell\/env.kindOf x=some .free)/\∃c,env.cells.lookup x=some c/\h.IsCell c (some u))
structure Cx.Ok(X:Cx):Prop where
 mod:Mod X.K X.mg X.base
 kind:X.env.scope.kind=.function
 glob:X.env.globals=mainGlobals
 blt:X.env.builtins=builtinsNs
 above:X.s₀.heap.objs.size<=X.env.locals
 inj:∀x y c,X.env.cells.lookup x=some c->X.env.cells.lookup y=some c->x=y
 has:∀x,(X.env.kindOf x=some .cell\/X.env.kindOf x=some .free)->∃c,X.env.cells.lookup x=some c
 cab:∀x c,X.fn x=true->X.env.cells.lookup x=some c->X.s₀.heap.objs.size<=c
 hd:X.calm=true->X.A.handled=none
 frames:X.A.frames=some X.stack
 stk:X.stack=X.outer\/(X.stack=X.env::X.outer/\X.env.frame=some X.env.locals)
 exf:∀b∈X.ex,b≠X.env.locals/\∀x c,X.env.cells.lookup x=some c->c≠b
 bs:∀b o,X.base.get? b=some o->X.s₀.heap.get? b=some o/\X.H₀ b=none
 bsz:X.base.objs.size<=X.s₀.heap.objs.size
 noex:∀b o,X.base.get? b=some o->b∉X.ex
 exfs:∀b∈X.ex,b∉X.fs
 funs:X.s₀.heap.FunFrames X.base X.outer
 frf:∀b∈X.fs,X.H₀ b=none
structure Zb(X:Cx)(pins:Ow)(σ:List (Option V))(H:Hp)(s:Shared):Prop where
 ok:X.Ok
 os:s.os=X.s₀.os
 bare:AllBare s.gens
 base:Un X.fs X.ex X.H₀ H X.s₀.heap s.heap
 loc:∃m,s.heap.Ns X.env.locals m/\∀(i:Nat) (x:Str) (v:V),X.N[i]? = some x->σ[i]? = some (some v)->ME X.env.scope x->∃u,ZP v u/\kA X.env s.heap m x u
 cell:∀x c,X.env.cells.lookup x=some c->∃v,s.heap.IsCell c v
 free:H X.env.locals=none
 freeC:∀x c,X.env.cells.lookup x=some c->H c=none
 pin:∀p∈X.pn++pins,s.heap.get? p.1=some p.2/\H p.1=none/\p.1≠X.env.locals/\p.1∉X.fs/\∀v,p.2.data≠.cell v
 hok:YK X.prog X.w H s.heap
 len:σ.length=X.N.length
section
variable{X:Cx}{pins:Ow}{σ:List (Option V)}{H H':Hp}{s:Shared}{h':Heap}
def Cx.Ok.nofr(ok:X.Ok)(e:X.base.get? b=some o):b∉X.fs:=λc=>by
 have:=(ok.funs.mem c).1;rw[e]at this;cases this
def Zb.bs(I:Zb X pins σ H s):∀b o,X.base.get? b=some o->s.heap.get? b=some o/\H b=none:=λb o e =>
 ⟨I.base.keep b o (I.ok.bs b o e).1 (I.ok.bs b o e).2 (I.ok.nofr e) (I.ok.noex b o e),I.base.free b o (I.ok.bs b o e).1 (I.ok.bs b o e).2 (I.ok.noex b o e)⟩
def Zb.bk(I:Zb X pins σ H s):∀b o,X.base.get? b=some o->s.heap.get? b=some o:=λb o e=>(I.bs b o e).1
def Zb.mod(I:Zb X pins σ H s):Mod X.K X.mg X.base:=I.ok.mod
def Zb.kIn(I:Zb X pins σ H s):X.K.In s.heap:=I.ok.mod.kin.keeps I.bk
def Zb.fr(I:Zb X pins σ H s):∃m,Fr X.base X.env.locals s.heap m :=
 let ⟨m,hn,_⟩:=I.loc
 ⟨m,hn,I.bk,Sh I.ok.bsz I.ok.above⟩
def Zb.lt(I:Zb X pins σ H s):X.env.locals<s.heap.objs.size:=let ⟨_,hn,_⟩:=I.loc;hn.lt
def Zb.sz(I:Zb X pins σ H s):X.s₀.heap.objs.size<=s.heap.objs.size:=Sh I.ok.above (Nat.le_of_lt I.lt)
def Zb.nofs(I:Zb X pins σ H s)(h:s.heap.objs.size<=a):a∉X.fs:=λf=>by
 obtain⟨_,o,c,_⟩:=I.ok.funs.mem f;exact Ot (Si (Se c) (Sh I.sz h)) (Sl _)
def Zb.cne(I:Zb X pins σ H s):∀x c,X.env.cells.lookup x=some c->c≠X.env.locals:=λx c e z=>by
 obtain⟨v,o,f,hd⟩:=I.cell x c e;ext⟨m,⟨n,j,i,h,g,_⟩,_⟩ I.loc;rw[z,h]at f;cases f;rw[g]at hd;cases hd
def Zb.funs(I:Zb X pins σ H s):s.heap.FunFrames X.base X.outer:=by
 have all:∀(l:List Env),(∀b∈Yj l,b∈X.fs)->X.s₀.heap.FunFrames X.base l->s.heap.FunFrames X.base l:=by
  intro l;induction l with
  |nil=>intro _ _;trivial
  |cons env r i =>
   intro h v;ext⟨u,⟨L,o,c,hn,n,hd⟩,j⟩ v;have g:L∈X.fs:=h L (by unfold Yj;rw[List.filterMap_cons,c];exact SE);obtain⟨x,e⟩:=I.base.slot L o n (I.ok.frf L g) g λz=>I.ok.exfs L z g;exact⟨u,⟨L,_,c,hn,e,hd⟩,i (λb f=>h b (by unfold Yj;rw[List.filterMap_cons,c];exact SD _ f)) j⟩
 exact all X.outer (λ_ f=>f) I.ok.funs
def Zb.stack(I:Zb X pins σ H s):s.heap.FunFrames X.base X.stack:=by
 rcases I.ok.stk with e|⟨e,c⟩;rw[e];exact I.funs;rw[e];ext⟨m,hn,_⟩ I.loc;erw[.cons (by rw[I.ok.kind];lia) c hn ?_ I.funs];exact Heap.get?_none_of_le (Sh I.ok.bsz I.ok.above)
def Zb.stkSub(I:Zb X pins σ H s):∀b∈Yj X.stack,b∈X.env.locals::X.fs:=λb c=>by
 rcases I.ok.stk with e|⟨e,f⟩;rw[e]at c;exact SD _ c;rw[e]at c;unfold Yj at c;rw[List.filterMap_cons,f]at c;exact c
def Zb.stkFree(I:Zb X pins σ H s):∀b∈Yj X.stack,H b=none:=λb c=>by
 rcases SG.mp (I.stkSub b c)with e|c;rw[e];exact I.free;obtain⟨_,o,f,_⟩:=I.ok.funs.mem c;exact I.base.free b o f (I.ok.frf b c) λz=>I.ok.exfs b z c
def Zb.step{g':Array GenState}{t':Nat}{d':Drawn}{ch:OI}(I:Zb X pins σ H s)
  (B:∀b∈ch,(b∈X.ex\/X.s₀.heap.objs.size<=b)/\b≠X.env.locals/\(∀x c,X.env.cells.lookup x=some c->c≠b)/\∀p∈X.pn++pins,p.1≠b)
  (keep:∀b o,b≠X.env.locals->b∉X.fs->b∉ch->s.heap.get? b=some o->H b=none->h'.get? b=some o)
  (slot:∀b o,b≠X.env.locals->b∈X.fs->b∉ch->s.heap.get? b=some o->H b=none->∃L,h'.get? b=some {o with slots:=L}) (free:∀b o,b∉ch->s.heap.get? b=some o->H b=none->H' b=none)
  (there:∀b o,b∉ch->s.heap.get? b=some o->∃E,h'.get? b=some E)
  (tups:∀b h,H b=some (.tup h)->H' b=some (.tup h)) (frzs:∀b o u,H b=some (.frz o u)->H' b=some (.frz o u)) (tbls:∀b J,H b=some (.tbl J)->∃more,H' b=some (.tbl (J++more)))
  (ns:∀m,s.heap.Ns X.env.locals m->h'.Ns X.env.locals m) (hok:YK X.prog X.w H' h') (U:AllBare g') :
  Zb X pins σ H' {s with heap:=h',gens:=g',drawn:=d',toks:=t'}:=by
 have P:∀b o,X.s₀.heap.get? b=some o->b≠X.env.locals:=λb o e=>Sf (Si (Se e) I.ok.above);have G:∀b o,X.s₀.heap.get? b=some o->b∉X.ex->b∉ch:=λb o e f j=>by
  rcases(B b j).1 with z|z;exact f z;exact Ot (Si (Se e) z) (Sl _)
 have cellK:∀x c,X.env.cells.lookup x=some c->∀v,s.heap.IsCell c v->h'.IsCell c v:=λx c e v ⟨o,y,hd⟩=>by
  have D:c∉ch:=λz=>(B c z).2.2.1 x c e R;by_cases O:c∈X.fs;obtain⟨L,q⟩:=slot c o (I.cne x c e) O D y (I.freeC x c e);exact⟨_,q,hd⟩;exact⟨o,keep c o (I.cne x c e) O D y (I.freeC x c e),hd⟩
 erw[⟨I.ok,I.os,U,⟨λb o e n j f=>?_,λb o e n j f=>?_,λb o e n f=>?_,λb o e f=>?_,λb h e=>tups b h (I.base.tups b h e),λb o h e=>frzs b o h (I.base.frzs b o h e),λb J e=>?_⟩,?_,λx c e=>?_,?_,λx c e=>?_,λp M=>?_,hok,I.len⟩];exact keep b o (P b o e) j (G b o e f) (I.base.keep b o e n j f) (I.base.free b o e n f);obtain⟨L,g⟩:=I.base.slot b o e n j f;obtain⟨T,C⟩:=slot b _ (P b o e) j (G b o e f) g (I.base.free b o e n f);exact⟨T,C⟩;obtain⟨E,g⟩:=I.base.there b o e f;exact free b E (G b o e f) g (I.base.free b o e n f);obtain⟨E,g⟩:=I.base.there b o e f;exact there b E (G b o e f) g;obtain⟨S,g⟩:=I.base.tbls b J e;obtain⟨Q,C⟩:=tbls b _ g;exact⟨S++Q,by rw[C,Array.append_assoc]⟩;ext⟨m,hn,Y⟩ I.loc;erw[⟨m,ns m hn,λi x v g C Z=>?_⟩];obtain⟨u,r,l⟩:=Y i x v g C Z;erw[⟨u,r,?_⟩];rcases l with l|⟨k,c,e,z⟩;exact .inl l;exact .inr ⟨k,c,e,cellK x c e _ z⟩;obtain⟨v,z⟩:=I.cell x c e;exact⟨v,cellK x c e v z⟩;ext⟨m,⟨o,_,_,y,_⟩,_⟩ I.loc;exact free _ o (λz=>(B _ z).2.1 R) y I.free;obtain⟨v,o,y,hd⟩:=I.cell x c e;exact free c o (λz=>(B c z).2.2.1 x c e R) y (I.freeC x c e);obtain⟨e,n,ne,nf,d⟩:=I.pin p M;have D:p.1∉ch:=λz=>(B p.1 z).2.2.2 p M R;exact⟨keep p.1 p.2 ne nf D e n,free p.1 p.2 D e n,ne,nf,d⟩
def Zb.un{t':Nat}(I:Zb X pins σ H s)(u:Un X.fs [] H H' s.heap h')(hok:YK X.prog X.w H' h'):Zb X pins σ H' {s with heap:=h',toks:=t'}:=by
 obtain⟨m,⟨o,B,x,f,r⟩,_⟩:=id I.loc;obtain⟨C,v⟩:=u.any f I.free (by simp);exact I.step (g':=s.gens) (d':=s.drawn) (ch:=[]) (λ_ z=>nomatch z) (λb o _ c _ e n=>u.keep b o e n c (by simp)) (λb o _ c _ e n=>u.slot b o e n c (by simp)) (λb o _ e n=>u.free b o e n (by simp)) (λb o _ e=>u.there b o e (by simp)) u.tups u.frzs u.tbls (λy hm=>by
  ext⟨D,h,i,g,j⟩ hm;rw[f]at g;cases g;exact⟨_,h,i,v,j⟩) hok I.bare
def Zb.call{g':Array GenState}{t':Nat}{d':Drawn}{ch:OI}(I:Zb X pins σ H s)(u:Un (Yj X.stack) ch H H' s.heap h')(hok:YK X.prog X.w H' h')(v:AllBare g')
  (j:∀b∈ch,(b∈X.ex\/X.s₀.heap.objs.size<=b)/\b≠X.env.locals/\(∀x c,X.env.cells.lookup x=some c->c≠b)/\∀p∈X.pn++pins,p.1≠b) :
  Zb X pins σ H' {s with heap:=h',gens:=g',drawn:=d',toks:=t'}:=by
 obtain⟨m,⟨o,J,E,i,r⟩,_⟩:=id I.loc;obtain⟨L,g⟩:=u.any i I.free λz=>(j _ z).2.1 R;exact I.step (ch:=ch) j (λb o g B f e n=>u.keep b o e n (λz=>(SG.mp (I.stkSub b z)).elim g B) f) (λb o _ _ f e n=>u.any e n f) (λb o f e n=>u.free b o e n f) (λb o f e=>u.there b o e f) u.tups u.frzs u.tbls (λG hm=>by
  ext⟨M,y,C,h,D⟩ hm;rw[i]at h;cases h;exact⟨_,y,C,g,D⟩) hok v
def Zb.turned{t':Nat}{it:Addr}(I:Zb X pins σ H s)(k:∀b o,b≠it->s.heap.get? b=some o->h'.get? b=some o)(hn:H it=none)(h:it≠X.env.locals)
  (h1:it∈X.ex\/X.s₀.heap.objs.size<=it) (j:∀x c,X.env.cells.lookup x=some c->c≠it) (D:∀p∈X.pn++pins,p.1≠it):Zb X pins σ H {s with heap:=h',toks:=t'}:=by
 have g:∀b u,H b=some u->b≠it:=λb u e z=>by rw[z,hn]at e;cases e
 refine I.step (g':=s.gens) (d':=s.drawn) (ch:=[it]) (λb y=>?_) (λb o _ _ f e _=>k b o (λz=>f (by simp[z])) e) (λb o _ _ f e _=>⟨o.slots,k b o (λz=>f (by simp[z])) e⟩) (λ_ _ _ _ n=>n)
  (λb o f e=>⟨o,k b o (λz=>f (by simp[z])) e⟩) (λ_ _ e=>e) (λ_ _ _ e=>e) (λb E e=>⟨#[],by rw[e];simp⟩) (λm hm=>?_) (λb u e=>?_) I.bare
 have e:b=it:=by simpa using y
 subst e;exact⟨h1,h,j,D⟩;ext⟨o,B,i,C,r⟩ hm;exact⟨o,B,i,k _ o (Ne.symm h) C,r⟩;erw[(I.hok b u e).stay (λc v f q=>k c v ?_ q) (λ_ q=>q) λ_ _ q=>q];rcases f with z|z;rw[z];exact g b u e;exact g c _ z
def Zb.tok(I:Zb X pins σ H s)(t:Nat):Zb X pins σ H {s with toks:=t}:=I.un (h':=s.heap) (t':=t) Un.refl I.hok
def Zb.kept(I:Zb X pins σ H s)(k:∀b u,s.heap.get? b=some u->h'.get? b=some u):Zb X pins σ H {s with heap:=h',toks:=t'}:=I.un (Un.kept k) (I.hok.kept k)
def Zb.laid(I:Zb X pins σ H s)(k:∀b u,s.heap.get? b=some u->h'.get? b=some u)(c:s.heap.objs.size<=a)(new:Yq X.prog X.w (upd H a o) h' a o) :
  Zb X pins σ (upd H a o) {s with heap:=h',toks:=t'}:=I.un (Un.laid k c (I.hok.fresh c)) (I.hok.laid k c new)
def Zb.write(I:Zb X pins σ H s)(g:KZ (H x))(f:e=x\/H e=some (.own x))(k:∀b u,b≠e->s.heap.get? b=some u->h'.get? b=some u)(c:∃u,h'.get? e=some u)
  (new:Yq X.prog X.w (upd H x o) h' x o):Zb X pins σ (upd H x o) {s with heap:=h',toks:=t'}:=I.un (Un.write g f k c) (I.hok.write g f k c new)
def Zb.weak{c:List (Option V)}(I:Zb X pins σ H s)(f:c.length=σ.length)(w:∀(i:Nat) v,c[i]? = some (some v)->σ[i]? = some (some v)):Zb X pins c H s :=
 ⟨I.ok,I.os,I.bare,I.base,let ⟨m,hn,hl'⟩:=I.loc;⟨m,hn,λi x v h j g=>hl' i x v h (w i v j) g⟩,I.cell,I.free,I.freeC,I.pin,I.hok,f.trans I.len⟩
def Zb.pins_of(I:Zb X pins σ H s)(h:∀p∈pins',s.heap.get? p.1=some p.2/\H p.1=none/\p.1≠X.env.locals/\p.1∉X.fs/\∀v,p.2.data≠.cell v):Zb X pins' σ H s :=
 ⟨I.ok,I.os,I.bare,I.base,I.loc,I.cell,I.free,I.freeC,λp c=>(SH.mp c).elim (λz=>I.pin p (SJ _ z)) (h p),I.hok,I.len⟩
def PY{N:OD}(c:N.Nodup){i j:Nat}{x:Str}(a:N[i]? = some x)(b:N[j]? = some x):i=j:=by
 obtain⟨n,f⟩:=Sr.mp a;obtain⟨h,g⟩:=Sr.mp b;exact(List.getElem_inj c).mp (f.trans g.symm)
def kB{M:Model}{A:Around}{E:Ov}{i:Nat}{x:Str}{v:V}{u:Value}{Q:OB}(I:Zb X pins σ H s)(hN:X.N.Nodup)(hi:X.N[i]? = some x)(C:QY X.env.scope x)(r:ZP v u)
  (h:∀s',Zb X pins (σ.set i (some v)) H s'->(∃a,Heap.SameBut a s.heap s'.heap/\(a=X.env.locals\/X.env.cells.lookup x=some a))->Q Unit.unit s') (hf:X.fn x=true\/X.env.scope.names.lookup x=some .local:=by first|exact .inl rfl|exact .inr rfl|assumption):wpAny M A (storeName X.env x u) Q E s:=by
 obtain⟨m,hn,hl⟩:=id I.loc;have f0:(X.env.scope.kind==.class || (X.env.scope.kind==.module && X.env.locals != X.env.globals))=false:=by rw[I.ok.kind];rfl
 have d0:i<σ.length:=by rw[I.len];exact(Sr.mp hi).1
 have cne:=I.cne;have tracked:∀{a:Addr} {h':Heap},(∃o,s.heap.get? a=some o/\H a=none)->Heap.SameBut a s.heap h'->YK X.prog X.w H h':=λ{a h'} ha f b ob e=>by
  ext⟨_,_,a0⟩ ha;erw[(I.hok b ob e).stay (λc O B q=>(f.2 c ?_).trans q) (λ_ q=>q) λ_ _ q=>q];rintro rfl;rcases B with rfl|B;rw[a0]at e;cases e;rw[a0]at B;cases B
 rcases C with G|G;erw[wpAny_storeName_local G hn (λh' i0 f=>?_) f0];obtain⟨oL,_,_,g0,_⟩:=id hn;erw[h _ ⟨I.ok,I.os,I.bare,⟨λb o e n L C=>?_,λb o e n L C=>?_,I.base.free,λb o e C=>?_,I.base.tups,I.base.frzs,I.base.tbls⟩,⟨_,i0,λj y S g D e3=>?_⟩,λy c e=>?_,I.free,I.freeC,λp U=>?_,tracked ⟨oL,g0,I.free⟩ f,by simpa using I.len⟩ ⟨_,f,.inl R⟩];exact(f.2 b (Sf (Si (Se e) I.ok.above))).trans (I.base.keep b o e n L C);obtain⟨sl,g⟩:=I.base.slot b o e n L C;exact⟨sl,(f.2 b (Sf (Si (Se e) I.ok.above))).trans g⟩;obtain⟨o',g⟩:=I.base.there b o e C;exact⟨o',(f.2 b (Sf (Si (Se e) I.ok.above))).trans g⟩;by_cases J:j=i;subst J;rw[hi]at g;cases g;rw[List.getElem?_set_self d0]at D;cases D;exact⟨u,r,.inl ⟨G,by simp⟩⟩;rw[List.getElem?_set_ne (Ne.symm J)]at D;obtain⟨Z,Y,q⟩:=hl j y S g D e3;erw[⟨Z,Y,?_⟩];rcases q with⟨k,e⟩|⟨k,c,e,z⟩;erw[.inl ⟨k,?_⟩];have:y≠x:=λe=>J (PY hN g (e ▸ hi));simp[this,e];exact .inr ⟨k,c,e,z.sameBut f (cne y c e)⟩;obtain⟨O,z⟩:=I.cell y c e;exact⟨O,z.sameBut f (cne y c e)⟩;obtain⟨e,n,ne,nf,d⟩:=I.pin p U;exact⟨(f.2 p.1 ne).trans e,n,ne,nf,d⟩;have T:X.fn x=true:=by
  rcases hf with z|z;exact z;rw[z]at G;cases G
 obtain⟨c,B⟩:=I.ok.has x (.inl G);obtain⟨O,z⟩:=I.cell x c B;erw[wpAny_storeName_cell I.ok.kind G B z (λh' b0 f=>?_)];obtain⟨oc,c0,h0⟩:=id z;erw[h {s with heap:=h'} ⟨I.ok,I.os,I.bare,⟨λb o e n L C=>?_,λb o e n L C=>?_,I.base.free,λb o e C=>?_,I.base.tups,I.base.frzs,I.base.tbls⟩,⟨m,hn.sameBut f (Ne.symm (cne x c B)),λj y S g D e3=>?_⟩,λy P e=>?_,I.free,I.freeC,λp U=>?_,tracked ⟨oc,c0,I.freeC x c B⟩ f,by simpa using I.len⟩ ⟨c,f,.inr B⟩];exact(f.2 b (Sf (Si (Se e) (I.ok.cab x c T B)))).trans (I.base.keep b o e n L C);obtain⟨sl,g⟩:=I.base.slot b o e n L C;exact⟨sl,(f.2 b (Sf (Si (Se e) (I.ok.cab x c T B)))).trans g⟩;obtain⟨o',g⟩:=I.base.there b o e C;exact⟨o',(f.2 b (Sf (Si (Se e) (I.ok.cab x c T B)))).trans g⟩;by_cases J:j=i;subst J;rw[hi]at g;cases g;rw[List.getElem?_set_self d0]at D;cases D;exact⟨u,r,.inr ⟨.inl G,c,B,b0⟩⟩;rw[List.getElem?_set_ne (Ne.symm J)]at D;obtain⟨Z,Y,q⟩:=hl j y S g D e3;erw[⟨Z,Y,?_⟩];rcases q with q|⟨k,P,e,z'⟩;exact .inl q;erw[.inr ⟨k,P,e,z'.sameBut f ?_⟩];rintro rfl;exact J (PY hN g (I.ok.inj _ _ _ e B ▸ hi));by_cases e0:P=c;subst e0;exact⟨_,b0⟩;obtain⟨w2,z2⟩:=I.cell y P e;exact⟨w2,z2.sameBut f e0⟩;obtain⟨e,n,ne,nf,d⟩:=I.pin p U;erw[⟨(f.2 p.1 ?_).trans e,n,ne,nf,d⟩];intro q;rw[q,c0]at e;have q':oc=p.2:=So e;exact d O (by rwa[<-q'])
def K0(I:Zb X pins σ H s)(j:X.N.Nodup)(hi:X.N[i]? = some x)(c:QY X.env.scope x)(r:ZP v u)
  (h:∀s',Zb X pins (σ.set i (some v)) H s'->Q Unit.unit s') (g:X.fn x=true\/X.env.scope.names.lookup x=some .local:=by first|exact .inl rfl|exact .inr rfl|assumption):wpAny M A (storeName X.env x u) Q E s :=
 kB I j hi c r (λs' f _=>h s' f) g
def Zb.call'{s':Shared}(I:Zb X pins σ H s)(g:s'.os=s.os)(u:Un (Yj X.stack) ch H H' s.heap s'.heap)(hok:YK X.prog X.w H' s'.heap)(f:AllBare s'.gens)
  (i:∀b∈ch,(b∈X.ex\/X.s₀.heap.objs.size<=b)/\b≠X.env.locals/\(∀x c,X.env.cells.lookup x=some c->c≠b)/\∀p∈X.pn++pins,p.1≠b):Zb X pins σ H' s':=by
 ext⟨h',g',d',t',h⟩ s';have e:h=s.os:=g;subst e;exact I.call (g':=g') (t':=t') (d':=d') u hok f i
end
abbrev XK:=Value->Option Addr->Hp->Prop
abbrev St:=List (Option V)
abbrev VK:=V->Hp->Prop
abbrev TE:=St->Hp->VK->Prop
abbrev TT:=St->Hp->(Bool->Hp->Prop)->Prop
abbrev TA:=St->Hp->(List V->Hp->Prop)->Prop
structure X8 where
 nx:St->Hp->Prop
 rt:VK
 bk:St->Hp->Prop:=λ_ _=>False
 ct:St->Hp->Prop:=λ_ _=>False
abbrev TS:=X8->St->Hp->Prop
inductive EP(X:Cx)(pins:Ow)(σ:St)(Q:VK)(u:Value)(s':Shared):Prop|mk v H' (_:Zb X pins σ H' s') (_:ZP v u) (_:Q v H')
inductive TP(X:Cx)(pins:Ow)(σ:St)(Q:Bool->Hp->Prop)(b:Bool)(s':Shared):Prop|mk H' (_:Zb X pins σ H' s') (_:Q b H')
inductive AP(X:Cx)(pins:Ow)(σ:St)(Q:List V->Hp->Prop)(us:OC)(s':Shared):Prop|mk vs H' (_:Zb X pins σ H' s') (_:ZG vs us) (_:Q vs H')
def SP(X:Cx)(pins:Ow)(D:X8)(f:Flow)(s':Shared):Prop :=
 match f with
 |.next=>∃g c,Zb X pins g c s'/\D.nx g c
 |.brk=>∃g c,Zb X pins g c s'/\D.bk g c
 |.cont=>∃g c,Zb X pins g c s'/\D.ct g c
 |.ret u=>∃v g c,Zb X pins g c s'/\ZP v u/\D.rt v c
def PE(X:Cx)(e:Expr)(t:TE):Prop :=
 ∀(pins:Ow) (s:Shared) (σ:St) (H:Hp) (Q:VK),Zb X pins σ H s->t σ H Q->wpAny (model X.prog X.w) X.A (eval e X.env) (EP X pins σ Q) X.xe s
def PT(X:Cx)(e:Expr)(t:TT):Prop :=
 ∀(pins:Ow) (s:Shared) (σ:St) (H:Hp) (Q:Bool->Hp->Prop),Zb X pins σ H s->t σ H Q->wpAny (model X.prog X.w) X.A (isTrue e X.env (eval e X.env)) (TP X pins σ Q) X.xe s
def PW(X:Cx)(e:Expr)(t:TT):Prop :=
 ∀(whole:Sem Value) (pins:Ow) (s:Shared) (σ:St) (H:Hp) (Q:Bool->Hp->Prop),Zb X pins σ H s->t σ H Q->wpAny (model X.prog X.w) X.A (isTrue e X.env whole) (TP X pins σ Q) X.xe s
def PW.pt(h:PW X e t):PT X e t:=h _
def PA(X:Cx)(c:OE)(t:TA):Prop :=
 ∀(f:Pos) (pins:Ow) (s:Shared) (σ:St) (H:Hp) (Q:List V->Hp->Prop),Zb X pins σ H s->t σ H Q->wpAny (model X.prog X.w) X.A (spliced (backTo f (starEach c X.env))) (AP X pins σ Q) X.xe s
def PS(X:Cx)(st:Stmt)(t:TS):Prop :=
 ∀(pins:Ow) (s:Shared) (σ:St) (H:Hp) (D:X8),Zb X pins σ H s->t D σ H->wpAny (model X.prog X.w) X.A (exec st X.env) (SP X pins D) X.xe s
def X1(X:Cx)(st:List Stmt)(t:TS):Prop :=
 ∀(pins:Ow) (s:Shared) (σ:St) (H:Hp) (D:X8),Zb X pins σ H s->t D σ H->wpAny (model X.prog X.w) X.A (execs st X.env) (SP X pins D) X.xe s
def ZA{f:Type}{t:Sem f}{Q c:f->Shared->Prop}{M:Model}{A:Around}{E:Ov}{s:Shared}(h:wpAny M A t Q E s)(g:∀a s,Q a s->c a s):wpAny M A t c E s:=Os h g λ_ _ x=>x
end L2
variable{pins:List (PySem.Addr×PySem.Obj)}{K:PySem.W.Frag}{s:PySem.Shared}{X:L2.Cx}{E:PySem.Value->PySem.Shared->Prop}{A:PySem.Around}{w:PySem.World}{H:L2.Hp}{mg:PySem.Str->Option PySem.Value}{scope:PySem.Scope}{prog:PySem.Program}{P:PySem.Program}{pos:PySem.Pos}{base:PySem.Heap}
namespace L2
open PySem PySem.Spec PyProof.Rows
section
inductive kC(i:Nat)(σ:St)(H:Hp)(Q:VK):Prop|mk v (_:σ[i]? = some (some v)) (_:Q v H)
def tC(v:V):TE:=λ_ H Q=>Q v H
def ZgB(E:X.N[i]? = some x)(D:ME X.env.scope x)(hd:(x==("__debug__" : Str))=false:=by lia) (B:(x==("__classdict__" : Str))=false:=by lia):PE X (.Name x y) (kC i):=by
 intro pins s C H Q I h;ext⟨v,e,h⟩ h;ext⟨m,hn,G⟩ I.loc;obtain⟨u,r,l⟩:=G i x v E e D;have g:EP X pins C Q u s:=⟨v,H,I,r,h⟩;rcases l with⟨f,hm⟩|⟨f,c,n,j⟩;exact wpAny_Name (wpAny_loadName_local I.ok.kind f hn hm g) hd;rcases f with f|f;exact wpAny_Name (wpAny_loadName_cell I.ok.kind f n j g) hd;exact wpAny_Name (wpAny_loadName_free I.ok.kind f n j g B) hd
def Za{i j pos}:PE X (.Constant (.int i) j pos) (tC (.int i)):=λ_ _ _ H _ I h=>wpAny_Constant_int ⟨.int i,H,I.tok _,⟨_,R⟩,h⟩
def Xy{b j pos}:PE X (.Constant (.bool b) j pos) (tC (.bl b)):=λ_ _ _ H _ I h=>Constant_bool ⟨.bl b,H,I,R,h⟩
def PZ{j pos}:PE X (.Constant .none j pos) (tC .non):=λ_ _ _ H _ I h=>Constant_none ⟨.non,H,I,R,h⟩
def Zl{x j pos}:PE X (.Constant (.str x) j pos) (tC (.str x)):=λ_ _ _ H _ I h=>Calls.Constant_str ⟨.str x,H,I.tok _,⟨_,R⟩,h⟩
def Gl(X:Cx)(x:Str):Prop:=X.env.kindOf x=some .globalImplicit
def Uu(I:Zb X pins c H s)(g:Gl X x)(hm:X.mg x=some u)(h:Q u s)
  (hd:(x==("__debug__" : Str))=false:=by lia):wpAny (model X.prog X.w) X.A (eval (.Name x f) X.env) Q E s :=
 Calls.Name_function_global I.ok.kind g (Calls.loadGlobal_global (by rw[I.ok.glob];exact I.mod.glob.keeps I.bk) hm h) hd
def VN(I:Zb X pins j H s)(f:Gl X x)(hm:X.mg x=none)(n:bootBuiltins x=some u)(h:Q u s)
  (hn:x ≠ "__name__" := by lia) (hd:(x==("__debug__" : Str))=false:=by lia):wpAny (model X.prog X.w) X.A (eval (.Name x g) X.env) Q E s:=by
 ext⟨v,i,c⟩ I.mod.blt;exact Calls.Name_function_global I.ok.kind f (Calls.loadGlobal_builtin (by rw[I.ok.glob];exact I.mod.glob.keeps I.bk) hm (by rw[I.ok.blt];exact i.keeps I.bk) ((c x hn).trans n) h) hd
def kD(c:Gl X x)(hm:X.mg x=some u)(r:ZP v u)(hd:(x==("__debug__" : Str))=false:=by lia):PE X (.Name x f) (tC v) :=
 λ_ _ _ H _ I h=>Uu I c hm ⟨v,H,I,r,h⟩ hd
def ZgC(c:Gl X x)(hm:X.mg x=none)(g:bootBuiltins x=some u)(r:ZP v u)(hn:x ≠ "__name__" := by lia) (hd:(x==("__debug__" : Str))=false:=by lia):PE X (.Name x f) (tC v) :=
 λ_ _ _ H _ I h=>VN I c hm g ⟨v,H,I,r,h⟩ hn hd
variable{a b:Expr}{ta tb:TE}
def PC(X:Cx)(g:CmpOp)(a b:Expr)(t:TE):Prop :=
 ∀(pins:Ow) (s:Shared) (σ:St) (H:Hp) (Q:VK),Zb X pins σ H s->t σ H Q ->
  wpAny (model X.prog X.w) X.A (eval a X.env) (λv c=>wpAny (model X.prog X.w) X.A (eval b X.env) (λu f=>wpAny (model X.prog X.w) X.A (compareOp g v u) (EP X pins σ Q) X.xe f) X.xe c) X.xe s
def kE(b:Expr)(h:c≠.In)(g:c≠.NotIn):behindInMarks c b=false:=by
 have i:(c==CmpOp.In)=false:=by cases c<;>first|rfl|exact Ot R h
 have f:(c==CmpOp.NotIn)=false:=by cases c<;>first|rfl|exact Ot R g
 cases b<;>simp[behindInMarks,i,f]
def ZgD(ta:TE):TE:=λf H Q=>ta f H λx c=>Q (.bl (decide (x=.non))) c
def ZP.none_iff(r:ZP x v):(v==Value.none)=decide (x=.non):=by
 cases x with
 |non=>cases r;rfl
 |bl _=>cases r;rfl
 |int _=>ext⟨t,rfl⟩ r;rfl
 |str _=>ext⟨t,rfl⟩ r;rfl
 |byt _=>ext⟨t,rfl⟩ r;rfl
 |flt _=>ext⟨t,rfl⟩ r;rfl
 |ref _=>cases r;rfl
 |ty _=>cases r;rfl
def ZgE{j pos'}(ha:PE X a ta):PC X .Is a (.Constant .none j pos') (ZgD ta):=by
 intro pins s f H Q I h;erw[ZA (ha pins s f H _ I h) λv n ⟨x,c,g,r1,i⟩=>?_];exact Constant_none (is_none_gen ⟨.bl _,c,g,by rw[r1.none_iff];rfl,i⟩)
inductive ZgF(Q:Bool->Hp->Prop)(x:V)(H1:Hp):Prop|mk c (_:x=.bl c) (_:Q c H1)
def tB(t:TE):TT:=λf H Q=>t f H λx c=>ZgF Q x c
def ZgG(h:PC X c a b t)(h1:behindInMarks c b=false:=by first|exact kE _ () ()|rfl):PE X (.Compare a [c] [b] pos) t:=λpins s g H Q I f=>wpAny_Compare1 (h pins s g H Q I f) h1
def kF(h:PC X f a b t)(h1:behindInMarks f b=false:=by first|exact kE _ () ()|rfl):PT X (.Compare a [f] [b] pos) (tB t):=by
 intro pins s n H Q I g;erw[wpAny_isTrue_Compare1 (ZA (h pins s n H _ I g) λv D h1=>ZA h1 λu s2 j=>ZA j λc C ⟨x,i,y,r1,B⟩=>?_) h1];ext⟨d,rfl,q⟩ B;cases r1;exact wpAny_truthy_bool ⟨i,y,q⟩
def Ym{e:Expr}(h:PE X e t)(n:∀whole,isTrue e X.env whole=(do let v <-whole;standAt e.pos;holding [v] (truthy v)):=by intro _;rfl):PT X e (tB t):=by
 intro pins s g H Q I c;erw[isTrue_plain (ZA (h pins s g H _ I c) λv u ⟨x,f,i,r1,j⟩=>?_) (n _)];ext⟨d,rfl,q⟩ j;cases r1;exact wpAny_truthy_bool ⟨f,i,q⟩
variable{tA tB':TT}{rest:OE}
def ZgH(t u:TT):TT:=λg H Q=>t g H λc f=>if c=true then u g f Q else Q false f
def tOr(t u:TT):TT:=λg H Q=>t g H λc f=>if c=true then Q true f else u g f Q
def ZgI(t:TT):TT:=λg H Q=>t g H λc f=>Q (!c) f
def P0(ha:PT X a tA):PW X (.BoolOp .And [a] pos) tA:=by
 intro i pins s f H Q I h;erw[isTrue_and (ZA (ha pins s f H Q I h) λc g e=>?_)];cases c with
 |true=>exact isTrue_and_nil e
 |false=>exact e
def VO(ha:PT X a tA):PW X (.BoolOp .Or [a] pos) tA:=by
 intro i pins s f H Q I h;erw[isTrue_or (ZA (ha pins s f H Q I h) λc g e=>?_)];cases c with
 |false=>exact isTrue_or_nil e
 |true=>exact e
def P1(ha:PT X a tA)(n:PW X (.BoolOp .And (b::rest) pos) tB'):PW X (.BoolOp .And (a::b::rest) pos) (ZgH tA tB'):=by
 intro v pins s g H Q I h;erw[isTrue_and (ZA (ha pins s g H _ I h) λc u ⟨f,i,j⟩=>?_)];cases c with
 |true=>exact n v pins u g f Q i j
 |false=>exact⟨f,i,j⟩
def Vh(ha:PT X a tA)(n:PW X (.BoolOp .Or (b::rest) pos) tB'):PW X (.BoolOp .Or (a::b::rest) pos) (tOr tA tB'):=by
 intro v pins s g H Q I h;erw[isTrue_or (ZA (ha pins s g H _ I h) λc u ⟨f,i,j⟩=>?_)];cases c with
 |true=>exact⟨f,i,j⟩
 |false=>exact n v pins u g f Q i j
def Yn(ha:PT X a tA):PT X (.UnaryOp .Not a pos) (ZgI tA):=by
 intro pins s g H Q I h;exact isTrue_not (ZA (ha pins s g H (λc f=>Q (!c) f) I h) λ_ _ ⟨a,b,c⟩=>⟨a,b,c⟩)
inductive ZgJ(tb:TE)(σ:St)(Q:VK)(x:V)(H1:Hp):Prop|mk c (_:x=.bl c) (_:if c=true then tb σ H1 Q else Q (.bl false) H1)
def ZgK(ta tb:TE):TE:=λc H Q=>ta c H λx f=>ZgJ tb c Q x f
inductive ZgL(tb:TE)(σ:St)(Q:VK)(x:V)(H1:Hp):Prop|mk c (_:x=.bl c) (_:if c=true then Q (.bl true) H1 else tb σ H1 Q)
def ZgM(ta tb:TE):TE:=λc H Q=>ta c H λx f=>ZgL tb c Q x f
inductive ZgN(Q:VK)(x:V)(H1:Hp):Prop|mk c (_:x=.bl c) (_:Q (.bl (!c)) H1)
def ZgO(ta:TE):TE:=λf H Q=>ta f H λx c=>ZgN Q x c
def WF{op}(h:PE X a t):PE X (.BoolOp op [a] pos) t:=λpins s f H Q I c=>BoolOp_one (h pins s f H Q I c)
def Vi(ha:PE X a ta)(n:PE X (.BoolOp .And (b::rest) pos) tb):PE X (.BoolOp .And (a::b::rest) pos) (ZgK ta tb):=by
 intro pins s i H Q I h;erw[BoolOp_and (ZA (ha pins s i H _ I h) λv u ⟨x,g,j,r1,f⟩=>?_)];ext⟨c,rfl,f⟩ f;cases r1;erw[wpAny_truthy_bool ?_];cases c with
 |true=>exact n pins u i g Q j f
 |false=>exact⟨.bl false,g,j,R,f⟩
def kG(ha:PE X a ta)(n:PE X (.BoolOp .Or (b::rest) pos) tb):PE X (.BoolOp .Or (a::b::rest) pos) (ZgM ta tb):=by
 intro pins s i H Q I h;erw[BoolOp_or (ZA (ha pins s i H _ I h) λv u ⟨x,g,j,r1,f⟩=>?_)];ext⟨c,rfl,f⟩ f;cases r1;erw[wpAny_truthy_bool ?_];cases c with
 |false=>exact n pins u i g Q j f
 |true=>exact⟨.bl true,g,j,R,f⟩
def ZgP(ha:PE X a ta):PE X (.UnaryOp .Not a pos) (ZgO ta):=by
 intro pins s i H Q I h;erw[UnaryOp_ (ZA (ha pins s i H _ I h) λv n ⟨x,g,j,r1,f⟩=>?_)];ext⟨c,rfl,f⟩ f;cases r1;exact not_of (wpAny_truthy_bool ⟨.bl (!c),g,j,R,f⟩)
def tIf(t:TT)(ta tb:TE):TE:=λf H Q=>t f H λc g=>if c=true then ta f g Q else tb f g Q
def K2(v:PT X c tA)(ha:PE X a ta)(u:PE X b tb):PE X (.IfExp c a b pos) (tIf tA ta tb):=by
 intro pins s f H Q I h;erw[wpAny_IfExp (ZA (v pins s f H _ I h) λd i ⟨g,j,n⟩=>?_)];cases d with
 |true=>exact ha pins i f g Q j n
 |false=>exact u pins i f g Q j n
end
def Zd(K:Oy)(H:Hp)(a:Addr)(xs:List V):Prop :=
 Rd H a (.lst xs) \/
  ∃(o:Obj) (its:Array Value) (n:Nat),K.lookup a=some o/\o.cls=.type "list" /\ o.dict=none/\o.data=.seq its n/\its.size<=sizeLine/\ZG xs its.toList
def Zg(K:Oy)(H:Hp)(a:Addr)(xs:List V):Prop :=
 Rd H a (.tup xs) \/
  ∃(o:Obj) (its:Array Value) (n:Nat),K.lookup a=some o/\o.cls=.type "tuple" /\ o.data=.seq its n/\its.size<=sizeLine/\ZG xs its.toList
def ZgQ:Value->Option V
 |.none=>some .non
 |.bool b=>some (.bl b)
 |.int i _=>some (.int i)
 |.str x _=>some (.str x)
 |.bytes b _=>some (.byt b)
 |.float b _=>some (.flt b)
 |.ref a=>some (.ref a)
 |.type n=>some (.ty n)
 |_=>none
def ZP.abs(r:ZP x u):ZgQ u=some x:=by
 cases x with
 |non=>cases r;rfl
 |bl _=>cases r;rfl
 |int _=>ext⟨t,rfl⟩ r;rfl
 |str _=>ext⟨t,rfl⟩ r;rfl
 |byt _=>ext⟨t,rfl⟩ r;rfl
 |flt _=>ext⟨t,rfl⟩ r;rfl
 |ref _=>cases r;rfl
 |ty _=>cases r;rfl
def ZP.inj(r:ZP x u)(q:ZP y u):x=y:=So (r.abs.symm.trans q.abs)
theorem ZG.inj:∀{xs c:List V} {us:OC},ZG xs us->ZG c us->xs=c
 |_,_,_,.nil,.nil=>rfl
 |_,_,_,.cons r t,.cons f t'=>by rw[r.inj f,ZG.inj t t']
section
variable{σ:St}{a:Addr}{xs ys:List V}
def Zd.of(h:H a=some (.lst xs)):Zd K H a xs:=.inl (.inl h)
def Zg.of(h:H a=some (.tup xs)):Zg K H a xs:=.inl (.inl h)
def Zb.list(I:Zb X pins σ H s)(h:Zd X.K H a xs):∃c:List Value,ZG xs c/\PlainL s.heap a c.toArray/\xs.length<=sizeLine:=by
 rcases h with h|⟨o,c,n,g,i,hd,f,j,r⟩;obtain⟨z,c,n,r,e⟩:=h.ok I.hok;exact⟨c,r,⟨_,n,e,R,R,R⟩,z⟩;erw[⟨c.toList,r,⟨o,n,I.kIn a o g,i,hd,by simpa using f⟩,?_⟩];have e:=r.length;simp only[Array.length_toList]at e;lia
def Zb.tuple(I:Zb X pins σ H s)(h:Zg X.K H a xs):∃c:List Value,ZG xs c/\IsTup s.heap a c.toArray/\xs.length<=sizeLine:=by
 rcases h with h|⟨o,c,n,g,i,f,j,r⟩;obtain⟨z,c,r,p⟩:=h.ok I.hok;exact⟨c,r,p,z⟩;erw[⟨c.toList,r,⟨o,I.kIn a o g,i,n,by simpa using f⟩,?_⟩];have e:=r.length;simp only[Array.length_toList]at e;lia
def Zb.list_inj(I:Zb X pins σ H s)(h:Zd X.K H a xs)(h':Zd X.K H a ys):xs=ys:=by
 obtain⟨g,r,⟨o,n,e,_,_,d⟩,_⟩:=I.list h;obtain⟨j,u,⟨x,v,c,_,_,f⟩,_⟩:=I.list h';rw[e]at c;cases c;rw[d]at f;injection f with i _;have:g=j:=by simpa using congrArg Array.toList i
 subst this;exact r.inj u
def Zb.tuple_inj(I:Zb X pins σ H s)(h:Zg X.K H a xs)(h':Zg X.K H a ys):xs=ys:=by
 obtain⟨g,r,⟨o,e,_,n,d⟩,_⟩:=I.tuple h;obtain⟨j,u,⟨x,c,_,v,f⟩,_⟩:=I.tuple h';rw[e]at c;cases c;rw[d]at f;injection f with i _;have:g=j:=by simpa using congrArg Array.toList i
 subst this;exact r.inj u
end
abbrev Cx.wish(X:Cx)(E:Ov):Cx:={X with xe:=E}
abbrev Cx.nox(X:Cx):Cx:=X.wish λ_ _=>False
def Cx.Ok.wish(ok:X.Ok)(E:Ov):(X.wish E).Ok :=
 ⟨ok.mod,ok.kind,ok.glob,ok.blt,ok.above,ok.inj,ok.has,ok.cab,ok.hd,ok.frames,ok.stk,ok.exf,ok.bs,ok.bsz,ok.noex,ok.exfs,ok.funs,ok.frf⟩
def Cx.Ok.unwish(ok:(X.wish E).Ok):X.Ok :=
 ⟨ok.mod,ok.kind,ok.glob,ok.blt,ok.above,ok.inj,ok.has,ok.cab,ok.hd,ok.frames,ok.stk,ok.exf,ok.bs,ok.bsz,ok.noex,ok.exfs,ok.funs,ok.frf⟩
section
variable{σ:St}
def Zb.wish(I:Zb X pins σ H s)(E:Ov):Zb (X.wish E) pins σ H s:=⟨I.ok.wish E,I.os,I.bare,I.base,I.loc,I.cell,I.free,I.freeC,I.pin,I.hok,I.len⟩
def Zb.unwish(I:Zb (X.wish E) pins σ H s):Zb X pins σ H s:=⟨I.ok.unwish,I.os,I.bare,I.base,I.loc,I.cell,I.free,I.freeC,I.pin,I.hok,I.len⟩
def SP.unwish(h:SP (X.wish E) pins D f s'):SP X pins D f s':=by
 cases f with
 |next=>ext⟨c,g,I,q⟩ h;exact⟨c,g,I.unwish,q⟩
 |brk=>ext⟨c,g,I,q⟩ h;exact⟨c,g,I.unwish,q⟩
 |cont=>ext⟨c,g,I,q⟩ h;exact⟨c,g,I.unwish,q⟩
 |ret u=>ext⟨v,c,g,I,r,q⟩ h;exact⟨v,c,g,I.unwish,r,q⟩
def X1.nox{st:List Stmt}{t:TS}(h:X1 X.nox st t):X1 X st t:=λpins s σ H D I c =>
 Os (h pins s σ H D (I.wish _) c) (λ_ _ q=>q.unwish) λ_ _ z=>False.elim z
end
section
variable{st:Stmt}{rest:List Stmt}{t u:TS}{e:Expr}{te:TE}
def ZgR:TS:=λD c H=>D.nx c H
def Yh(t u:TS):TS:=λD c H=>t {D with nx:=u D} c H
def ZE:X1 X [] ZgR:=λ_ _ c H _ I h=>wpAny_execs_nil ⟨c,H,I,h⟩
def Zh(h1:PS X st t)(g:X1 X rest u):X1 X (st::rest) (Yh t u):=by
 intro pins s j H D I h;erw[wpAny_execs_cons (ZA (h1 pins s j H {D with nx:=u D} I h) λf n q=>?_)];cases f with
 |next =>
  ext⟨c,x,i,q⟩ q;exact g pins n c x D i q
 |ret v=>exact q
 |brk=>exact q
 |cont=>exact q
def Ze(h1:PS X st t):X1 X [st] t:=by
 intro pins s c H D I h;erw[wpAny_execs_cons (ZA (h1 pins s c H D I h) λf g q=>?_)];cases f with
 |next=>exact wpAny_execs_nil q
 |ret v=>exact q
 |brk=>exact q
 |cont=>exact q
def Zb.quiet(I:Zb X pins c H s):interactive X.env=false:=by simp[interactive,I.ok.kind]
def ZgS(te:TE):TS:=λD c H=>te c H λ_ f=>D.nx c f
def Yc(n:PE X e te)(g:swapsWith e none pos.line X.env=pure false:=by rfl):PS X (.Expr e pos) (ZgS te):=by
 intro pins s c H D I h;exact wpAny_Expr_any (ZA (n pins s c H _ I h) λv y ⟨x,f,i,r1,j⟩=>⟨c,f,i,j⟩) I.quiet g
def ZgT(te:TE):TS:=λD c H=>te c H D.rt
def Zp(j:PE X e te):PS X (.Return (some e) pos) (ZgT te):=by
 intro pins s c H D I h;exact wpAny_Return_some (ZA (j pins s c H _ I h) λv n ⟨x,f,g,r1,i⟩=>⟨x,c,f,g,r1,i⟩)
def ZgU(c:TT)(t u:TS):TS:=λD f H=>c f H λb g=>if b=true then t D f g else u D f g
def ZC(y:PT X c n)(ha:X1 X a t)(x:X1 X b u):PS X (.If c a b pos) (ZgU n t u):=by
 intro pins s f H D I h;erw[wpAny_If (ZA (y pins s f H _ I h) λd i ⟨g,j,v⟩=>?_)];cases d with
 |true=>exact ha pins i f g D j v
 |false=>exact x pins i f g D j v
def ZgV:TS:=λ_ _ _=>False
def Wm:PS X st ZgV:=λ_ _ _ _ _ _ h=>h.elim
end
abbrev TG:=V->St->Hp->(St->Hp->Prop)->Prop
abbrev MF:=List V->St->Hp->(St->Hp->Prop)->Prop
def PG(X:Cx)(target:Expr)(t:TG):Prop :=
 ∀(pins:Ow) (s:Shared) (σ:St) (H:Hp) (v:V) (u:Value) (Q:St->Hp->Prop),Zb X pins σ H s->ZP v u->t v σ H Q ->
  wpAny (model X.prog X.w) X.A (assign target X.env u) (λ_ g=>∃f c,Zb X pins f c g/\Q f c) X.xe s
def MG(X:Cx)(h:OE)(t:MF):Prop :=
 ∀(pins:Ow) (s:Shared) (σ:St) (H:Hp) (vs:List V) (us:OC) (Q:St->Hp->Prop),Zb X pins σ H s->ZG vs us->t vs σ H Q ->
  wpAny (model X.prog X.w) X.A (assignInOrder ((assignEach h X.env).map (·.2)) us) (λ_ g=>∃f c,Zb X pins f c g/\Q f c) X.xe s
def YA(i:Nat):TG:=λv c H Q=>Q (c.set i (some v)) H
def P2(j:X.N.Nodup)(hi:X.N[i]? = some x)(c:QY X.env.scope x)(g:X.fn x=true\/X.env.scope.names.lookup x=some .local:=by first|exact .inl rfl|exact .inr rfl|assumption):PG X (.Name x pos) (YA i):=by
 intro pins s y H v u Q I r h;exact wpAny_assign_Name (K0 I j hi c r (λn f=>⟨_,H,f,h⟩) g)
def P3:MF:=λf c H Q=>f=[]/\Q c H
inductive MH(t:TG)(u:MF)(vs:List V)(σ:St)(H:Hp)(Q:St->Hp->Prop):Prop|mk v r (_:vs=v::r) (_:t v σ H λσ' H'=>u r σ' H' Q)
def Wo:MG X [] P3:=by
 intro pins s c H f g Q I r h;ext⟨e,h⟩ h;subst e;cases r;exact assignInOrder_nil ⟨c,H,I,h⟩
def YB(h1:PG X e t)(C:MG X c u)
  (x:(assignEach (e::c) X.env).map (·.2)=assign e X.env::(assignEach c X.env).map (·.2):=by rfl):MG X (e::c) (MH t u):=by
 intro pins s g H G E Q I r h;ext⟨v,J,j,h⟩ h;subst j;cases r with
 |cons r B =>
  rw[x];erw[assignInOrder_cons (ZA (h1 pins s g H _ _ _ I r h) λ_ D ⟨n,f,y,i⟩=>?_)];exact C pins D n f _ _ Q y B i
inductive D5(K:Oy)(n:Nat)(t:MF)(v:V)(σ:St)(H:Hp)(Q:St->Hp->Prop):Prop|mk a xs (_:v=.ref a) (_:Zg K H a xs) (_:xs.length=n) (_:t xs σ H Q)
def Wq(D:X.calm=true)(h:MG X c t)
  (hn:(assignEach c X.env).length=n:=by rfl) (G:(assignEach c X.env).findIdx? (·.1)=none:=by rfl):PG X (.Tuple c k pos) (D5 X.K n t):=by
 intro pins s g H v u Q I r f;ext⟨a,E,y,j,L,f⟩ f;subst y;cases r;obtain⟨O,i,x,M⟩:=I.tuple j;erw[assign_Tuple_tuple (I.ok.hd D) x (by simp[hn,<-L,i.length]) G λJ B=>?_];have C:Zb X pins g H {s with heap:=J}:=I.kept (t':=s.toks) λb o e=>B b o (Sf (Se e)) e;exact h pins _ g H E _ Q C (by simpa using i) f
def P4(h:TE)(g:TG):TS:=λD c H=>h c H λx f=>g x c f D.nx
def ZgW{pos':Pos}(C:X.N.Nodup)(hi:X.N[i]? = some x)(f:QY X.env.scope x)(J:PE X e c)(u:swapsWith e (some (.Name x pos')) pos.line X.env=pure false:=by rfl)(n:X.fn x=true\/X.env.scope.names.lookup x=some .local:=by first|exact .inl rfl|exact .inr rfl|assumption) :
  PS X (.Assign [.Name x pos'] e pos) (P4 c (YA i)):=by
 intro pins s B H D I h;erw[wpAny_Assign_Name (ZA (J pins s B H _ I h) λv L ⟨y,g,E,r1,G⟩=>?_) u];exact K0 E C hi f r1 (λs2 j=>⟨_,g,j,G⟩) n
inductive ZgX(i j:Nat)(D:X8)(σ:St)(vs:List V)(H1:Hp):Prop|mk v w (_:vs=[v,w]) (_:D.nx ((σ.set i (some v)).set j (some w)) H1)
def ZgY(i j:Nat)(h:TA):TS:=λD c H=>h c H λf g=>ZgX i j D c f g
def ZgZ{kt k2 pt2}(hc:X.calm=true)(H:X.N.Nodup)(hi:X.N[i]? = some x)(hj:X.N[j]? = some y)(a0:i≠j)
  (J:X.env.scope.names.lookup x=some .local) (G:X.env.scope.names.lookup y=some .local) (ha:PA X [a,b] L)
  (S:swappedStores [.Tuple [.Name x B,.Name y n] kt pt] (.Tuple [a,b] k2 pt2) X.env=pure (some [x,y]))
  (U:swapsWithSole [.Tuple [.Name x B,.Name y n] kt pt] (.Tuple [a,b] k2 pt2) pos.line X.env=pure false:=by rfl) :
  PS X (.Assign [.Tuple [.Name x B,.Name y n] kt pt] (.Tuple [a,b] k2 pt2) pos) (ZgY i j L):=by
 intro pins s E c0 d0 I h;rw[exec_Assign_arm];erw[Sa (wpAny_standAt ?_)];rw[U];erw[Sa (Sb ?_)];rw[SV ()];erw[Sa (Tuple_ (ZA (ha _ pins s E c0 _ I h) λP g ⟨vs,C,Y,r1,u⟩=>?_))];ext⟨v,w,Q,u⟩ u;subst Q;obtain⟨c,f,rfl,T,b0⟩:∃c f,P=[c,f]/\ZP v c/\ZP w f:=by
  cases r1 with
  |cons p q =>
   cases q with
   |cons O q' =>
    cases q';exact⟨_,_,R,p,O⟩
 erw[wpAny_newObj_type ?_ (zL9 R)];have M:Zb X pins E C {g with heap:=g.heap.push {cls:=.type "tuple",data:=.seq [c,f].toArray} }:=Y.kept (t':=g.toks) λb o e=>Sc _ e;rw[S];erw[Sa (Sb ?_)];show wpAny (model X.prog X.w) X.A (do rule "assign.swapped-stores";let items <-unpackItems (.ref g.heap.objs.size) 2 none;assignInOrder [λv=>bindName X.env y v,λv=>bindName X.env x v] items.reverse;pure Flow.next) _ _ _;erw[Sa (wpAny_rule (Sa (unpackItems_tuple (items:=#[c,f]) (I.ok.hd hc) (IsTup.new g.heap _) λh' Z=>?_)))];have I3:=M.kept (h':=h') (t':=g.toks) λb o e=>Z b o (Sf (Se e)) e;show wpAny _ _ (assignInOrder [λv=>bindName X.env y v,λv=>bindName X.env x v] [f,c] >>= λ_=>pure Flow.next) _ _ _;erw[Sa (assignInOrder_cons (wpAny_bindName (K0 I3 H hj (.inl G) b0 (λs2 I4=>?_) (.inr G))))];erw[assignInOrder_cons (wpAny_bindName (K0 I4 H hi (.inl J) T (λs3 D=>assignInOrder_nil (Sb ?_)) (.inr J)))];rw[List.set_comm _ _ (Ne.symm a0)]at D;exact⟨_,C,D,u⟩
structure It where
 go:Nat->Hp->Prop
 yld:Nat->Hp->V->Hp->Prop
 stop:Nat->Hp->Prop
def VA(X:Cx)(pins:Ow)(H:Hp)(b:Addr):Prop :=
 H b=none/\b≠X.env.locals/\b∉X.fs/\(b∈X.ex\/X.s₀.heap.objs.size<=b)/\(∀x c,X.env.cells.lookup x=some c->c≠b)/\∀p∈X.pn++pins,p.1≠b
def Zb.fpOk(I:Zb X pins h H s)(f:s.heap.objs.size<=b)(hn:g b=none):VA X pins g b:=by
 erw[⟨hn,Nat.ne_of_gt (Si I.lt f),I.nofs f,.inr (Sh I.sz f),λx c e z=>?_,λp i z=>?_⟩];obtain⟨v,q⟩:=I.cell x c e;exact Ot (Si q.lt (by rwa[z])) (Sl _);exact Ot (Si (Se (I.pin p i).1) (by rwa[z])) (Sl _)
structure Uv(P:Program)(w:World)(K:Oy)(tg:Expr)(J:It)(fp:OI)(it:Addr)(tn:Nat->Heap->Prop):Prop where
 mem:it∈fp
 obj:∀i h,tn i h->∀b∈fp,∃o,h.get? b=some o/\∀v,o.data≠.cell v
 keep:∀i h h',tn i h->(∀b∈fp,∀o,h.get? b=some o->h'.get? b=some o)->tn i h'
 item:∀(X:Cx),X.prog=P->X.w=w->X.K=K->X.calm=true->∀(i:Nat) (pins:Ow) (s:Shared) (σ:St) (H:Hp) (E:Ov),Zb X pins σ H s->(∀b∈fp,VA X pins H b)->tn i s.heap->J.go i H ->
  wpAny (model P w) X.A (pyNext (.ref it)) (λr s1=>∃u,r=some u /\
   wpAny (model P w) X.A (letOwnedTupleGo tg (.ref it) u) (λ_ s2=>∃x H',Zb X pins σ H' s2/\ZP x u/\J.yld i H x H'/\tn (i+1) s2.heap/\∀b∈fp,H' b=none) E s1) E s
 done:∀(X:Cx),X.prog=P->X.w=w->X.K=K->X.calm=true->∀(i:Nat) (pins:Ow) (s:Shared) (σ:St) (H:Hp) (E:Ov),Zb X pins σ H s->(∀b∈fp,VA X pins H b)->tn i s.heap->J.stop i H ->
  wpAny (model P w) X.A (pyNext (.ref it)) (λr s1=>r=none/\Zb X pins σ H s1) E s
 self:∀(A:Around) (i:Nat) (s:Shared) (Q:Ov) (E:Ov),tn i s.heap->Q (.ref it) s->wpAny (model P w) A (pyIter (.ref it)) Q E s
abbrev TI:=St->Hp->(It->Hp->Prop)->Prop
inductive kH(X:Cx)(pins:Ow)(σ:St)(tg:Expr)(R:It->Hp->Prop)(itv:Value)(s2:Shared):Prop|mk (it:Addr) (fp:OI) (tn:Nat->Heap->Prop) (J:It) (H':Hp) (_:itv=.ref it) (_:Zb X pins σ H' s2) (_:Uv X.prog X.w X.K tg J fp it tn) (_:tn 0 s2.heap) (_:(∀b∈fp,VA X pins H' b)) (_:R J H')
def PI(X:Cx)(g iter:Expr)(f:TI):Prop :=
 ∀(pins:Ow) (s:Shared) (σ:St) (H:Hp) (R:It->Hp->Prop),Zb X pins σ H s->f σ H R ->
  wpAny (model X.prog X.w) X.A (eval iter X.env) (λv c=>wpAny (model X.prog X.w) X.A (pyIter v) (kH X pins σ g R) X.xe c) X.xe s
def K3 {o:Obj} (g:s.heap.get? it=some o) (i:o.cls=.type n) (hd:o.data=.fields vs)
    (hn:["enumerate","zip","dict_itemiterator","dict_reverseitemiterator","odict_iterator","itertools.zip_longest","itertools.pairwise"].contains n=false) (c:Q Unit.unit s):wpAny M A (letOwnedTupleGo f (.ref it) u) Q E s:=by
  unfold letOwnedTupleGo;cases f<;>first
    |exact Sb c
    | (cases u <;> first
        |exact Sb c
        | (refine Sa (Oq g ?_)
           rw[i,hd];show wpAny M A (if (["enumerate","zip","dict_itemiterator","dict_reverseitemiterator","odict_iterator","itertools.zip_longest","itertools.pairwise"].contains n && vs[0]? == some (rawInt _))=true then _ else _) Q E s;rw[SV (by intro h;rw[hn,Bool.false_and]at h;cases h)];exact Sb c))
def Wr(K:Oy)(a:Addr):It :=
 ⟨λi H=>∃c x,Zd K H a c/\c[i]? = some x,λi H x f=>f=H/\∀c,Zd K H a c->c[i]? = some x,λi H=>∃c,Zd K H a c/\c.length<=i⟩
def Qo(K:Oy)(a:Addr):It :=
 ⟨λi H=>∃c x,Zg K H a c/\c[i]? = some x,λi H x f=>f=H/\∀c,Zg K H a c->c[i]? = some x,λi H=>∃c,Zg K H a c/\c.length<=i⟩
def Uw(lo:Int)(n:Nat):It:=⟨λi _=>i<n,λi H x c=>c=H/\x=.int (lo+i),λi _=>n<=i⟩
def Zg0{U:Expr}(a it:Addr):Uv P w K U (Wr K a) [it] it (λi h=>h.IsListIter it a i) where
 mem:=by simp
 obj:=λi h st b f=>by
  have e:b=it:=by simpa using f
  subst e;ext⟨o,e,c,d⟩ st;exact⟨o,e,λc0 z=>by rw[d]at z;cases z⟩
 keep:=λi h n st k=>st.at λo e=>k it (by simp) o e
 item:=by
  intro X G y D T i pins s S H b0 I j st E;subst G y D;ext⟨xs,x,g,B⟩ E;obtain⟨a0,C,p,hz⟩:=I.list g;obtain⟨u,hu,ru⟩:=C.get B;obtain⟨O,M,f2,v,L,J⟩:=j it (by simp);erw[wpAny_pyNext_list_item st p.isList (x:=u) (by simpa using hu) λn Q sb=>?_];have Z:Zb X pins S H {s with heap:=n}:=I.turned (t':=s.toks) (λb o f e=>(sb.2 b f).trans e) O M v L J;obtain⟨o,e,c,d⟩:=id Q;exact⟨u,R,K3 (s:={s with heap:=n}) e c d () ⟨x,H,Z,ru,⟨R,λys Y=>by rwa[I.list_inj Y g]⟩,Q,λb f=>(j b f).1⟩⟩
 done:=by
  intro X G y D T i pins s S H b0 I j st E;subst G y D;ext⟨xs,g,B⟩ E;obtain⟨a0,C,p,hz⟩:=I.list g;obtain⟨O,M,f2,v,L,J⟩:=j it (by simp);have hl:=C.length;exact wpAny_pyNext_list_end (I.ok.hd T) st p.isList (by simp;lia) λn eb=>⟨R,I.turned (t':=s.toks) (λb o f e=>eb b o f e) O M v L J⟩
 self:=λ_ _ _ _ _ st h=>wpAny_pyIter_listiter st h
def Zg1{Y:Expr}(a it:Addr):Uv P w K Y (Qo K a) [it] it (λi h=>h.IsTupleIter it a i) where
 mem:=by simp
 obj:=λi h st b f=>by
  have e:b=it:=by simpa using f
  subst e;ext⟨o,e,c,d⟩ st;exact⟨o,e,λb0 z=>by rw[d]at z;cases z⟩
 keep:=λi h n st k=>st.at λo e=>k it (by simp) o e
 item:=by
  intro X J y D U i pins s T H a0 I j st E;subst J y D;ext⟨xs,x,g,B⟩ E;obtain⟨G,C,p,hz⟩:=I.tuple g;obtain⟨u,hu,ru⟩:=C.get B;obtain⟨Q,O,f2,v,M,L⟩:=j it (by simp);erw[wpAny_pyNext_tuple_item st (show s.heap.IsTuple a G.toArray from p) (x:=u) (by simpa using hu) λn S sb=>?_];have I1:Zb X pins T H {s with heap:=n}:=I.turned (t':=s.toks) (λb o f e=>(sb.2 b f).trans e) Q O v M L;obtain⟨o,e,c,d⟩:=id S;exact⟨u,R,K3 (s:={s with heap:=n}) e c d () ⟨x,H,I1,ru,⟨R,λys Z=>by rwa[I.tuple_inj Z g]⟩,S,λb f=>(j b f).1⟩⟩
 done:=by
  intro X J y D U i pins s T H a0 I j st E;subst J y D;ext⟨xs,g,B⟩ E;obtain⟨G,C,p,hz⟩:=I.tuple g;obtain⟨Q,O,f2,v,M,L⟩:=j it (by simp);have hl:=C.length;exact wpAny_pyNext_tuple_end (I.ok.hd U) st (show s.heap.IsTuple a G.toArray from p) (by simp;lia) λn eb=>⟨R,I.turned (t':=s.toks) (λb o f e=>eb b o f e) Q O v M L⟩
 self:=λ_ _ _ _ _ st h=>wpAny_pyIter_tupleiter st h
def Zg2{O:Expr}(it:Addr)(lo:Int)(n:Nat):Uv P w K O (Uw lo n) [it] it (λi h=>IsRangeIter h it (lo+(i:Nat)*1) ((n:Int) - (i:Nat)) 1) where
 mem:=by simp
 obj:=λi h st b c=>by
  have e:b=it:=by simpa using c
  subst e;exact⟨_,st,λv z=>by
   have T:Data.fields _=Data.cell v:=z;cases T⟩
 keep:=λi h g st k=>k it (by simp) _ st
 item:=by
  intro X D u y x i pins s M H a0 I f st B;subst D u y;obtain⟨J,G,U,j,E,C⟩:=f it (by simp);have W:=Walks.range (prog:=X.prog) (w:=X.w) (I.ok.hd x) it lo 1 n;erw[W.item i s _ _ B st λv g tk Y L Q=>?_];ext⟨t,rfl⟩ Y;have S:Zb X pins M H {s with heap:=g,toks:=tk}:=I.turned (λb o c e=>Q b o (by simpa using c) e) J G j E C;erw[⟨_,R,K3 (s:={s with heap:=g,toks:=tk}) (n := "range_iterator") L R R () ⟨.int (lo+i),H,S,⟨t,?_⟩,⟨R,R⟩,L,λb c=>(f b c).1⟩⟩];rw[Int.mul_one]
 done:=by
  intro X D u y x i pins s M H a0 I f st B;subst D u y;obtain⟨J,G,U,j,E,C⟩:=f it (by simp);exact wpAny_pyNext_range_end (I.ok.hd x) st (by have:n<=i:=B;lia) λg Z=>⟨R,I.turned (t':=s.toks) (λb o c e=>Z b o c e) J G j E C⟩
 self:=λ_ _ _ _ _ st h=>wpAny_pyIter_rangeiter st h
section
variable{tg:Expr}
inductive Zg3(K:Oy)(R:It->Hp->Prop)(x:V)(H1:Hp):Prop|mk a (_:x=.ref a) (_:(∃xs,Zd K H1 a xs)) (_:R (Wr K a) H1)
def Zg4(K:Oy)(f:TE):TI:=λg H h=>f g H λx c=>Zg3 K h x c
inductive Zg5(K:Oy)(R:It->Hp->Prop)(x:V)(H1:Hp):Prop|mk a (_:x=.ref a) (_:(∃xs,Zg K H1 a xs)) (_:R (Qo K a) H1)
def Zg6(K:Oy)(f:TE):TI:=λg H h=>f g H λx c=>Zg5 K h x c
def YP{l:Expr}{g:TE}(B:PE X l g):PI X tg l (Zg4 X.K g):=by
 intro pins s n H D I h;erw[ZA (B pins s n H _ I h) λv f ⟨x,i,c,r1,u⟩=>?_];ext⟨a,e,⟨G,j⟩,q⟩ u;subst e;cases r1;obtain⟨J,C,p,E⟩:=c.list j;erw[wpAny_pyIter_list p.isList ?_];erw[⟨f.heap.objs.size,[f.heap.objs.size],_,_,i,R,c.kept (t':=f.toks) λb o e=>Sc _ e,Zg0 a _,⟨_,Sd _ R,R,R⟩,λb y=>?_,q⟩];have e:b=f.heap.objs.size:=by simpa using y
 subst e;exact c.fpOk (Sg _) (c.hok.fresh (Sg _))
def kI{l:Expr}{g:TE}(C:PE X l g):PI X tg l (Zg6 X.K g):=by
 intro pins s n H E I h;erw[ZA (C pins s n H _ I h) λv c ⟨x,i,f,r1,u⟩=>?_];ext⟨a,e,⟨J,j⟩,q⟩ u;subst e;cases r1;obtain⟨y,D,p,G⟩:=f.tuple j;erw[wpAny_pyIter_tuple (show c.heap.IsTuple a y.toArray from p) ?_];erw[⟨c.heap.objs.size,[c.heap.objs.size],_,_,i,R,f.kept (t':=c.toks) λb o e=>Sc _ e,Zg1 a _,⟨_,Sd _ R,R,R⟩,λb B=>?_,q⟩];have e:b=c.heap.objs.size:=by simpa using B
 subst e;exact f.fpOk (Sg _) (f.hok.fresh (Sg _))
def kJ{c:St}{R:It->Hp->Prop}{lo hi:Int}{t u v:Tok}{tk:Nat}(I:Zb X pins c H s)(h1:-(2 ^ 62)<=lo)(h:lo<2 ^ 62)(j:-(2 ^ 62)<=hi)(g:hi<2 ^ 62)
  (q:R (Uw lo (hi - lo).toNat) H):wpAny (model X.prog X.w) X.A (pyIter (.ref s.heap.objs.size)) (kH X pins c tg R) E {s with heap:=s.heap.push {cls:=.type "range",data:=.fields #[.int lo t,.int hi u,.int 1 v]},toks:=tk}:=by
 erw[wpAny_pyIter_range (IsRange.new ..) (small_one h1 h j g) ?_];have f:Zb X pins c H {s with heap:=s.heap.push {cls:=.type "range",data:=.fields #[.int lo t,.int hi u,.int 1 v]},toks:=tk}:=I.kept λb o e=>Sc _ e;refine⟨(s.heap.push {cls:=.type "range",data:=.fields #[.int lo t,.int hi u,.int 1 v]}).objs.size,[(s.heap.push {cls:=.type "range",data:=.fields #[.int lo t,.int hi u,.int 1 v]}).objs.size],_,_,H,rfl,
  f.kept (t':=tk) λb o e=>Sc _ e,Zg2 _ lo (hi - lo).toNat,?_,λb i=>?_,q⟩
 have n:lo+((0:Nat):Int)*1=lo:=by simp
 have x:(((hi - lo).toNat:Nat):Int) - ((0:Nat):Int)=Builtin.Range.rangeSize lo hi 1:=by rw[rangeSize_one];split<;>omega
 show IsRangeIter _ _ (lo+((0:Nat):Int)*1) ((((hi - lo).toNat:Nat):Int) - ((0:Nat):Int)) 1;rw[n,x];exact Sd _ rfl;have e:b=(s.heap.push {cls:=.type "range",data:=.fields #[.int lo t,.int hi u,.int 1 v]}).objs.size:=by simpa using i
 subst e;exact f.fpOk (Sg _) (f.hok.fresh (Sg _))
inductive Zg7(R:It->Hp->Prop)(vs:List V)(H1:Hp):Prop|mk (j:Int) (_:vs=[.int j]) (_:-(2 ^ 62)<=j) (_:j<2 ^ 62) (_:R (Uw 0 j.toNat) H1)
def Zg8(i:TA):TI:=λg H h=>i g H λc f=>Zg7 h c f
inductive Zg9(R:It->Hp->Prop)(vs:List V)(H1:Hp):Prop|mk (i j:Int) (_:vs=[.int i,.int j]) (_:(-(2 ^ 62)<=i/\i<2 ^ 62/\-(2 ^ 62)<=j/\j<2 ^ 62)) (_:R (Uw i (j - i).toNat) H1)
def Zha(i:TA):TI:=λg H h=>i g H λc f=>Zg9 h c f
def Vj{a:Expr}{g:TA}{p f:Pos}(n:Gl X "range") (hm:X.mg "range"=none) (ha:PA X [a] g) (u:starEach [a] X.env=[(false,eval a X.env)]:=by rfl):PI X tg (.Call (.Name "range" p) [a] [] f) (Zg8 g):=by
 intro pins s v H E I h;erw[Call_ (VN I n hm boot_range (PyProof.Rows.callWith_type1 (ZA (ha f pins s v H _ I h) λG D ⟨B,C,x,r1,c⟩=>?_) u R))];ext⟨j,e,c,i,q⟩ c;subst e;cases r1 with
 |cons r y =>
  cases y;ext⟨t,rfl⟩ r;exact call_range_1 (kJ x () () c i (by simpa using q))
def Zhb(G:Gl X "range") (hm:X.mg "range"=none) (ha:PA X [a,b] n) (y:starEach [a,b] X.env=[(false,eval a X.env),(false,eval b X.env)]:=by rfl) (g:starEach [b] X.env=[(false,eval b X.env)]:=by rfl) :
  PI X tg (.Call (.Name "range" p) [a,b] [] u) (Zha n):=by
 intro pins s x H M I h;erw[Call_ (VN I G hm boot_range (PyProof.Rows.callWith_type1 (ZA (ha u pins s x H _ I h) λL Q ⟨O,J,C,r1,c⟩=>?_) (by rw[y,g]) (by rw[g];rfl)))];ext⟨i,j,e,⟨c,E,B,v⟩,q⟩ c;subst e;cases r1 with
 |cons r f =>
  cases f with
  |cons D f =>
   cases f;ext⟨t,rfl⟩ r;ext⟨P,rfl⟩ D;exact call_range_2 (kJ C c E B v q)
def kK(y:TI)(g:TG)(u:TS):TS:=λD c H=>y c H λJ n=>∃W:Nat->Nat->St->Hp->Prop,(∃m,W 0 m c n)/\∀i m c H,W i m c H ->
 (J.stop i H/\D.nx c H)\/(J.go i H/\∃N:St->Hp->Prop,(∀h f,N h f->∃j,j<m/\W (i+1) j h f)/\∀x f,J.yld i H x f->g x c f λB v=>u {D with nx:=N,ct:=N,bk:=D.nx} B v)
def QZ(fp:OI)(h:Heap):List (Addr×Obj):=fp.filterMap λb=>(h.get? b).map λo=>(b,o)
def MI{h:Heap}(c:b∈fp)(e:h.get? b=some o):(b,o)∈QZ fp h:=List.mem_filterMap.mpr ⟨b,c,by rw[e];rfl⟩
def Zhc{h:Heap}{p:Addr×Obj}(g:p∈QZ fp h):p.1∈fp/\h.get? p.1=some p.2:=by
 obtain⟨b,c,e⟩:=List.mem_filterMap.mp g;cases q:h.get? b with
 |none=>rw[q]at e;cases e
 |some o =>
  rw[q]at e;have f:(b,o)=p:=So e;subst f;exact⟨c,q⟩
def Zb.pinned(I:Zb X pins f H s)(n:∀b∈fp,VA X pins H b)(x:∀b∈fp,∃o,s.heap.get? b=some o/\∀v,o.data≠.cell v):Zb X (pins++QZ fp s.heap) f H s :=
 I.pins_of λp u=>(SH.mp u).elim (λz=>I.pin p (SI _ z)) λz=>by
  obtain⟨c,e⟩:=Zhc z;obtain⟨j,i,h,_⟩:=n p.1 c;obtain⟨o,g,d⟩:=x p.1 c;rw[e]at g;cases g;exact⟨e,j,i,h,d⟩
def Zb.unpinned(I:Zb X (pins++pl) c H s):Zb X pins c H s:=I.pins_of λp f=>I.pin p (SI _ (SJ _ f))
def MJ{iter:Expr}{body:List Stmt}{P:TS}(B:PassesOwn (model X.prog X.w) X.A X.env X.xe)(S:X.calm=true)(hi:PI X tg iter Q)(hg:PG X tg g)(h:X1 X body P)
  (hs:∀x,foldedSetIterable iter X.env x=pure x:=by intro _;rfl):PS X (.For tg iter body [] j0) (kK Q g P):=by
 intro pins s M l0 n0 c0 b0;erw[wpAny_For (ZA (hi pins s M l0 _ c0 b0) λf0 s1 h1=>ZA h1 λo0 s2 h2=>?_) hs];ext⟨it,fp,tn,p0,H2,e,I2,T,e0,U,W,⟨m0,w0⟩,turn⟩ h2;subst e
 -- what stays true of the iterator's objects through the loop
 have G:∀{u:Hp},(∀b∈fp,u b=none)->∀b∈fp,VA X pins u b:=λhn b h=>⟨hn b h,(U b h).2⟩;erw[codeAny_forLoop_any (λn Z=>∃i y u,Zb X pins y u Z/\tn i Z.heap/\(∀b∈fp,u b=none)/\W i n y u) ?_ m0 ⟨0,M,H2,I2,e0,λb h=>(U b h).1,w0⟩];rintro n O ⟨i,C,E,Y,a0,L,w3⟩;rcases turn i n C E w3 with⟨stop,qn⟩|⟨go,N,hN,step⟩;erw[wpAny_passesOwn B (ZA (T.done X R R R S i pins O C E X.xe Y (G L) a0 stop) λr s4 ⟨J,I4⟩=>?_)];subst J;exact wpAny_execs_nil ⟨C,E,I4,qn⟩;erw[wpAny_passesOwn B (ZA (T.item X R R R S i pins O C E X.xe Y (G L) a0 go) λr s4 ⟨i0,J,h4⟩=>?_)];subst J;erw[wpAny_passesOwn B (ZA h4 λ_ s5 ⟨x,H5,I5,r5,y5,I,k0⟩=>?_)];have h0:=I5.pinned (G k0) (T.obj _ _ I);erw[wpAny_passesOwn B (ZA (hg _ s5 C H5 x i0 _ h0 r5 (step x H5 y5)) λ_ s6 ⟨g0,H6,I6,q6⟩=>?_)];erw[wpAny_passesOwn B (ZA (h _ s6 g0 H6 _ I6 q6) λd0 H v=>?_)];have again:∀{f:St} {j:Hp},Zb X (pins++QZ fp s5.heap) f j H->N f j->∃m,m<n/\∃i y u,Zb X pins y u H/\tn i H.heap/\(∀b∈fp,u b=none)/\W i m y u:=λ{f j} c D=>by
  obtain⟨m',hm,w7⟩:=hN f j D;erw[⟨m',hm,i+1,f,j,c.unpinned,T.keep _ _ _ I λb h o e=>(c.pin (b,o) (SI _ (SI _ (MI h e)))).1,λb h=>?_,w7⟩];obtain⟨o,e,d⟩:=T.obj _ _ I b h;exact(c.pin (b,o) (SI _ (SI _ (MI h e)))).2.1
 cases d0 with
 |next=>ext⟨f,j,c,D⟩ v;exact again c D
 |cont=>ext⟨f,j,c,D⟩ v;exact again c D
 |brk=>ext⟨f,j,c,v⟩ v;exact⟨f,j,c.unpinned,v⟩
 |ret f0=>ext⟨x7,f,j,c,r7,v⟩ v;exact⟨x7,f,j,c.unpinned,r7,v⟩
end
def Qp{a:Addr}{xs:List V}{g:TG}{v:TS}{D:X8}{c:St}(f:Nat->St->Hp->Prop)(E:f 0 c H)(L:∀i c H,i<=xs.length->f i c H->Zd K H a xs)
  (I:∀i x c H,xs[i]? = some x->f i c H->g x c H λu n=>v {D with nx:=f (i+1),ct:=f (i+1),bk:=D.nx} u n) (hd:∀c H,f xs.length c H->D.nx c H) :
  ∃W:Nat->Nat->St->Hp->Prop,(∃m,W 0 m c H)/\∀i m c H,W i m c H ->
   ((Wr K a).stop i H/\D.nx c H)\/((Wr K a).go i H/\∃N:St->Hp->Prop,(∀j h,N j h->∃B,B<m/\W (i+1) B j h)/\∀x h,(Wr K a).yld i H x h->g x c h λu n=>v {D with nx:=N,ct:=N,bk:=D.nx} u n):=by
 erw[⟨λi m c H=>m=xs.length - i/\i<=xs.length/\f i c H,⟨xs.length,by simp,Sk _,E⟩,?_⟩];rintro i m c H ⟨rfl,J,p⟩;have q:=L i c H J p;by_cases C:i<xs.length;erw[.inr ⟨⟨xs,xs[i],q,by simp[C]⟩,f (i+1),λj h G=>⟨xs.length - (i+1),(),R,C,G⟩,λx h y=>?_⟩];ext⟨e,y⟩ y;subst e;exact I i x c _ (y xs q) p;have e:i=xs.length:=by lia
 subst e;exact .inl ⟨⟨xs,q,Sg _⟩,hd c H p⟩
def Zhd{a:Addr}{xs:List V}{g:TG}{v:TS}{D:X8}{c:St}(f:Nat->St->Hp->Prop)(E:f 0 c H)(L:∀i c H,i<=xs.length->f i c H->Zg K H a xs)
  (I:∀i x c H,xs[i]? = some x->f i c H->g x c H λu n=>v {D with nx:=f (i+1),ct:=f (i+1),bk:=D.nx} u n) (hd:∀c H,f xs.length c H->D.nx c H) :
  ∃W:Nat->Nat->St->Hp->Prop,(∃m,W 0 m c H)/\∀i m c H,W i m c H ->
   ((Qo K a).stop i H/\D.nx c H)\/((Qo K a).go i H/\∃N:St->Hp->Prop,(∀j h,N j h->∃B,B<m/\W (i+1) B j h)/\∀x h,(Qo K a).yld i H x h->g x c h λu n=>v {D with nx:=N,ct:=N,bk:=D.nx} u n):=by
 erw[⟨λi m c H=>m=xs.length - i/\i<=xs.length/\f i c H,⟨xs.length,by simp,Sk _,E⟩,?_⟩];rintro i m c H ⟨rfl,J,p⟩;have q:=L i c H J p;by_cases C:i<xs.length;erw[.inr ⟨⟨xs,xs[i],q,by simp[C]⟩,f (i+1),λj h G=>⟨xs.length - (i+1),(),R,C,G⟩,λx h y=>?_⟩];ext⟨e,y⟩ y;subst e;exact I i x c _ (y xs q) p;have e:i=xs.length:=by lia
 subst e;exact .inl ⟨⟨xs,q,Sg _⟩,hd c H p⟩
def Q0{lo:Int}{n:Nat}{g:TG}{C:TS}{D:X8}{c:St}(f:Nat->St->Hp->Prop)(G:f 0 c H)
  (J:∀i c H,i<n->f i c H->g (.int (lo+i)) c H λB u=>C {D with nx:=f (i+1),ct:=f (i+1),bk:=D.nx} B u) (hd:∀c H,f n c H->D.nx c H) :
  ∃W:Nat->Nat->St->Hp->Prop,(∃m,W 0 m c H)/\∀i m c H,W i m c H ->
   ((Uw lo n).stop i H/\D.nx c H)\/((Uw lo n).go i H/\∃N:St->Hp->Prop,(∀j h,N j h->∃E,E<m/\W (i+1) E j h)/\∀x h,(Uw lo n).yld i H x h->g x c h λB u=>C {D with nx:=N,ct:=N,bk:=D.nx} B u):=by
 erw[⟨λi m c H=>m=n - i/\i<=n/\f i c H,⟨n,by simp,Sk _,G⟩,?_⟩];rintro i m c H ⟨rfl,L,p⟩;by_cases v:i<n;erw[.inr ⟨v,f (i+1),λj h I=>⟨n - (i+1),(),R,v,I⟩,λx h y=>?_⟩];ext⟨e,y⟩ y;subst e y;exact J i c _ v p;have e:i=n:=by lia
 subst e;exact .inl ⟨Sg _,hd c H p⟩
abbrev R2:=V->V->Hp->VK->Prop
def YD(X:Cx)(f:Value->Value->Sem Value)(r:R2):Prop :=
 ∀(pins:Ow) (s:Shared) (σ:St) (H:Hp) (x y:V) (v u:Value) (Q:VK),Zb X pins σ H s->ZP x v->ZP y u->r x y H Q ->
  wpAny (model X.prog X.w) X.A (f v u) (EP X pins σ Q) X.xe s
def P5(X:Cx)(f:Value->Sem Value)(r:V->Hp->VK->Prop):Prop :=
 ∀(pins:Ow) (s:Shared) (σ:St) (H:Hp) (x:V) (v:Value) (Q:VK),Zb X pins σ H s->ZP x v->r x H Q ->
  wpAny (model X.prog X.w) X.A (f v) (EP X pins σ Q) X.xe s
def Xk(X:Cx)(f:Value)(r:List V->Hp->VK->Prop):Prop :=
 ∀(pins:Ow) (s:Shared) (σ:St) (H:Hp) (xs:List V) (us:OC) (Q:VK),Zb X pins σ H s->ZG xs us->r xs H Q ->
  wpAny (model X.prog X.w) X.A (call f us) (EP X pins σ Q) X.xe s
def Zhe(X:Cx)(r:V->Hp->(Bool->Hp->Prop)->Prop):Prop :=
 ∀(pins:Ow) (s:Shared) (σ:St) (H:Hp) (x:V) (v:Value) (Q:Bool->Hp->Prop),Zb X pins σ H s->ZP x v->r x H Q ->
  wpAny (model X.prog X.w) X.A (truthy v) (TP X pins σ Q) X.xe s
def D6(r:R2)(i g:TE):TE:=λc H Q=>i c H λx f=>g c f λy h=>r x y h Q
def tUn(r:V->Hp->VK->Prop)(g:TE):TE:=λf H Q=>g f H λx c=>r x c Q
inductive rI(C:Int->Int->Prop)(g:Int->Int->V)(x:V)(y:V)(H:Hp)(Q:VK):Prop|mk i j (_:x=.int i) (_:y=.int j) (_:C i j) (_:Q (g i j) H)
inductive UY(g:Int->Int->V)(x:V)(y:V)(H:Hp)(Q:VK):Prop|mk i j (_:x=.int i) (_:y=.int j) (_:Q (g i j) H)
inductive rU(g:Int->V)(x:V)(H:Hp)(Q:VK):Prop|mk i (_:x=.int i) (_:Q (g i) H)
section
variable{a b c:Expr}{ta tb tc:TE}
def P6(ha:PE X a ta)(D:PE X b tb){i:St}{R:V->V->Hp->Prop}(I:Zb X pins i H s)
  (h:ta i H λx j=>tb i j λy g=>R x y g) {Q:Ov} {f:Value->Value->Sem Value}
  (C:∀v u s2 x y g,Zb X pins i g s2->ZP x v->ZP y u->R x y g->wpAny (model X.prog X.w) X.A (f v u) Q X.xe s2) :
  wpAny (model X.prog X.w) X.A (eval a X.env) (λv n=>wpAny (model X.prog X.w) X.A (eval b X.env) (λu E=>wpAny (model X.prog X.w) X.A (f v u) Q X.xe E) X.xe n) X.xe s:=by
 erw[ZA (ha pins s i H _ I h) λv J ⟨x,j,L,r1,O⟩=>?_];erw[ZA (D pins J i j _ L O) λu s2 ⟨y,g,B,G,M⟩=>?_];exact C v u s2 x y g B r1 G M
def Zj{f:Operator}{r:R2}(D:YD X (binaryOp f) r)(ha:PE X a ta)(j:PE X b tb):PE X (.BinOp a f b pos) (D6 r ta tb):=by
 intro pins s B H Q I h;exact wpAny_BinOp (P6 ha j I h λv u s2 x y n i g C q=>D pins s2 B n x y v u Q i g C q)
def kL(n:P5 X (unaryOp g) r)(ha:PE X a ta):PE X (.UnaryOp g a pos) (tUn r ta):=by
 intro pins s f H Q I h;exact UnaryOp_ (ZA (ha pins s f H _ I h) λv j ⟨x,i,u,r1,y⟩=>n pins j f i x v Q u r1 y)
def K4{f:Value->Value->Sem Value}{C:Int->Int->Prop}{g:Int->Int->Int}
  (rule:∀(i j:Int) (t u:Tok) (s:Shared) (Q:Ov) (E:Ov),C i j->Q (.int (g i j) s.toks) {s with toks:=s.toks+1}->wpAny (model X.prog X.w) X.A (f (.int i t) (.int j u)) Q E s) :
  YD X f (rI C λi j=>.int (g i j)):=by
 intro pins s J H x y v u Q I n B h;ext⟨i,j,rfl,rfl,G,q⟩ h;ext⟨t,rfl⟩ n;ext⟨D,rfl⟩ B;exact rule i j t D s _ _ G ⟨.int (g i j),H,I.tok _,⟨_,R⟩,q⟩
def P7{f:Value->Value->Sem Value}{g:Int->Int->Int}
  (rule:∀(i j:Int) (t u:Tok) (s:Shared) (Q:Ov) (E:Ov),Q (.int (g i j) s.toks) {s with toks:=s.toks+1}->wpAny (model X.prog X.w) X.A (f (.int i t) (.int j u)) Q E s) :
  YD X f (UY λi j=>.int (g i j)):=by
 intro pins s D H x y v u Q I n B h;ext⟨i,j,rfl,rfl,q⟩ h;ext⟨t,rfl⟩ n;ext⟨C,rfl⟩ B;exact rule i j t C s _ _ ⟨.int (g i j),H,I.tok _,⟨_,R⟩,q⟩
def MK{f:Value->Value->Sem Value}{g:Int->Int->Bool}
  (rule:∀(i j:Int) (t u:Tok) (s:Shared) (Q:Ov) (E:Ov),Q (.bool (g i j)) s->wpAny (model X.prog X.w) X.A (f (.int i t) (.int j u)) Q E s) :
  YD X f (UY λi j=>.bl (g i j)):=by
 intro pins s D H x y v u Q I n B h;ext⟨i,j,rfl,rfl,q⟩ h;ext⟨t,rfl⟩ n;ext⟨C,rfl⟩ B;exact rule i j t C s _ _ ⟨.bl (g i j),H,I,R,q⟩
def Zhf(i j:Int):Prop:=0<j/\j<1073741824
def Zhg(i j:Int):Prop:=0<=j/\j<=1000000/\i.natAbs<2 ^ 64
def ML(i j:Int):Prop:=(-(2 ^ 64)<i/\i<2 ^ 64)\/(-(2 ^ 64)<j/\j<2 ^ 64)
def ML.ok(h:ML i j):IntMulOk i j:=by
 rcases h with⟨f,g⟩|⟨f,g⟩;exact .of_left (intBits_le_64 f g);exact .of_right (intBits_le_64 f g)
def Zhh(k:Nat):(0:Int)<=2 ^ k:=by
 rw[two_pow_cast];exact Int.natCast_nonneg _
def Yw:YD X (binaryOp .Add) (UY λi j=>.int (i+j)):=P7 λ_ _ _ _ _ _ _ q=>add_int q
def VP:YD X (binaryOp .Sub) (UY λi j=>.int (i - j)):=P7 λ_ _ _ _ _ _ _ q=>sub_int q
def Qq:YD X (binaryOp .Mult) (rI ML λi j=>.int (i*j)):=K4 λ_ _ _ _ _ _ _ f q=>mul_int q f.ok
def YY:YD X (binaryOp .FloorDiv) (rI Zhf λi j=>.int (i/j)):=K4 λi j _ _ _ _ _ f q=>by
 have g:(0:Int)<j:=f.1;have h:j<1073741824:=f.2;exact floordiv_int () (by rwa[Int.fdiv_eq_ediv_of_nonneg i ()]) (.inl (PyProof.noPylong_small ()))
def Z7:YD X (binaryOp .Mod) (rI (λ_ j=>0<j) λi j=>.int (i%j)):=K4 λi j _ _ _ _ _ f q=>by
 have g:(0:Int)<j:=f;exact mod_int' () (by rwa[Int.fmod_eq_emod_of_nonneg i ()])
def MN:YD X (binaryOp .LShift) (rI Zhg λi j=>.int (i*2 ^ j.toNat)):=K4 λ_ _ _ _ _ _ _ f q=>lshift_int_small f.1 f.2.1 f.2.2 q
def Zhi:YD X (binaryOp .RShift) (rI (λ_ j=>0<=j) λi j=>.int (i/2 ^ j.toNat)):=K4 λi j _ _ _ _ _ f q =>
 rshift_int f (by rwa[Int.fdiv_eq_ediv_of_nonneg i (Zhh _)])
def Zhj:YD X (binaryOp .BitAnd) (UY λi j=>.int (Builtin.bitAnd i j)):=P7 λ_ _ _ _ _ _ _ q=>and_int q
def unI{f:Value->Sem Value}{g:Int->Int}
  (rule:∀(i:Int) (t:Tok) (s:Shared) (Q:Ov) (E:Ov),Q (.int (g i) s.toks) {s with toks:=s.toks+1}->wpAny (model X.prog X.w) X.A (f (.int i t)) Q E s) :
  P5 X f (rU λi=>.int (g i)):=by
 intro pins s n H x v Q I j h;ext⟨i,rfl,q⟩ h;ext⟨t,rfl⟩ j;exact rule i t s _ _ ⟨.int (g i),H,I.tok _,⟨_,R⟩,q⟩
def kM:P5 X (unaryOp .USub) (rU λi=>.int (-i)):=unI λ_ _ _ _ _ q=>neg_int q
end
def P8:V->V->Bool
 |.non,.non=>true|.non,.int _=>true|.int _,.non=>true|.non,.bl _=>true|.bl _,.non=>true|.non,.str _=>true|.str _,.non=>true
 |.int _,.int _=>true|.bl _,.bl _=>true|.str _,.str _=>true|.byt _,.byt _=>true
 |.int _,.str _=>true|.str _,.int _=>true|.bl _,.str _=>true|.str _,.bl _=>true
 |_,_=>false
def rEq:R2:=λx y H Q=>P8 x y=true/\Q (.bl (decide (x=y))) H
def rNe:R2:=λx y H Q=>P8 x y=true/\Q (.bl (!decide (x=y))) H
def VQ:decide (V.int i=V.int j)=(i==j):=by
 rw[Bool.eq_iff_iff];simp
def MO:decide (V.bl i=V.bl j)=(i==j):=by
 rw[Bool.eq_iff_iff];simp
def kN:decide (V.str i=V.str j)=(i==j):=by
 rw[Bool.eq_iff_iff];simp
def kO{i j:Array UInt8}:decide (V.byt i=V.byt j)=(i.toList==j.toList):=by
 rw[Bool.eq_iff_iff];cases i;cases j;simp
section
variable{a b c:Expr}{ta tb tc:TE}
def YV(I:Zb X pins g H s)(q:Q (.bl k) H)(e:k=f):EP X pins g Q (.bool f) s:=by
 subst e;exact⟨.bl k,H,I,R,q⟩
def Z8:YD X (compareOp .Eq) rEq:=by
 intro pins s C H x y v u Q I B f h;ext⟨n,q⟩ h;cases x with
 |non =>
  cases B;cases y with
  |non=>cases f;exact PySem.EqNone.eq_none_none (YV I q (by simp))
  |bl j=>cases f;exact PySem.EqNone.eq_none_bool (YV I q (by simp))
  |int j=>ext⟨g,rfl⟩ f;exact PySem.EqNone.eq_none_int (YV I q (by simp))
  |str j=>ext⟨g,rfl⟩ f;exact PySem.EqNone.eq_none_str (YV I q (by simp))
  |_=>exact Ot (show false=true from n) SQ
 |bl i =>
  cases B;cases y with
  |non=>cases f;exact PySem.EqNone.eq_bool_none (YV I q (by simp))
  |bl j=>cases f;exact eq_bool (YV I q MO)
  |str j=>ext⟨g,rfl⟩ f;exact PySem.EqMixed.eq_bool_str (YV I q (by simp))
  |_=>exact Ot (show false=true from n) SQ
 |int i =>
  ext⟨t,rfl⟩ B;cases y with
  |non=>cases f;exact PySem.EqNone.eq_int_none (YV I q (by simp))
  |int j=>ext⟨g,rfl⟩ f;exact eq_int (YV I q VQ)
  |str j=>ext⟨g,rfl⟩ f;exact PySem.EqMixed.eq_int_str (YV I q (by simp))
  |_=>exact Ot (show false=true from n) SQ
 |str i =>
  ext⟨t,rfl⟩ B;cases y with
  |non=>cases f;exact PySem.EqNone.eq_str_none (YV I q (by simp))
  |bl j=>cases f;exact PySem.EqMixed.eq_str_bool (YV I q (by simp))
  |int j=>ext⟨g,rfl⟩ f;exact PySem.EqMixed.eq_str_int (YV I q (by simp))
  |str j=>ext⟨g,rfl⟩ f;exact eq_str (YV I q kN)
  |_=>exact Ot (show false=true from n) SQ
 |byt i =>
  ext⟨t,rfl⟩ B;cases y with
  |byt j=>ext⟨g,rfl⟩ f;exact W.eq_bytes (YV I q kO)
  |_=>exact Ot (show false=true from n) SQ
 |_=>cases y<;>exact Ot (show false=true from n) SQ
def Ux:YD X (compareOp .NotEq) rNe:=by
 intro pins s C H x y v u Q I B f h;ext⟨n,q⟩ h;cases x with
 |non =>
  cases B;cases y with
  |non=>cases f;exact PySem.EqNone.ne_none_none (YV I q (by simp))
  |bl j=>cases f;exact PySem.EqNone.ne_none_bool (YV I q (by simp))
  |int j=>ext⟨g,rfl⟩ f;exact PySem.EqNone.ne_none_int (YV I q (by simp))
  |str j=>ext⟨g,rfl⟩ f;exact PySem.EqNone.ne_none_str (YV I q (by simp))
  |_=>exact Ot (show false=true from n) SQ
 |bl i =>
  cases B;cases y with
  |non=>cases f;exact PySem.EqNone.ne_bool_none (YV I q (by simp))
  |bl j=>cases f;exact ne_bool (YV I q (congrArg not MO))
  |str j=>ext⟨g,rfl⟩ f;exact PySem.EqMixed.ne_bool_str (YV I q (by simp))
  |_=>exact Ot (show false=true from n) SQ
 |int i =>
  ext⟨t,rfl⟩ B;cases y with
  |non=>cases f;exact PySem.EqNone.ne_int_none (YV I q (by simp))
  |int j=>ext⟨g,rfl⟩ f;exact ne_int (YV I q (congrArg not VQ))
  |str j=>ext⟨g,rfl⟩ f;exact PySem.EqMixed.ne_int_str (YV I q (by simp))
  |_=>exact Ot (show false=true from n) SQ
 |str i =>
  ext⟨t,rfl⟩ B;cases y with
  |non=>cases f;exact PySem.EqNone.ne_str_none (YV I q (by simp))
  |bl j=>cases f;exact PySem.EqMixed.ne_str_bool (YV I q (by simp))
  |int j=>ext⟨g,rfl⟩ f;exact PySem.EqMixed.ne_str_int (YV I q (by simp))
  |str j=>ext⟨g,rfl⟩ f;exact ne_str (YV I q (congrArg not kN))
  |_=>exact Ot (show false=true from n) SQ
 |byt i =>
  ext⟨t,rfl⟩ B;cases y with
  |byt j=>ext⟨g,rfl⟩ f;exact W.ne_bytes (YV I q (congrArg not kO))
  |_=>exact Ot (show false=true from n) SQ
 |_=>cases y<;>exact Ot (show false=true from n) SQ
def P9:YD X (compareOp .Lt) (UY λi j=>.bl (decide (i<j))):=MK λ_ _ _ _ _ _ _ q=>lt_int q
def Vl:YD X (compareOp .LtE) (UY λi j=>.bl (decide (i<=j))):=MK λ_ _ _ _ _ _ _ q=>le_int q
def UZ:YD X (compareOp .Gt) (UY λi j=>.bl (decide (j<i))):=MK λ_ _ _ _ _ _ _ q=>gt_int q
def MP:YD X (compareOp .GtE) (UY λi j=>.bl (decide (j<=i))):=MK λ_ _ _ _ _ _ _ q=>ge_int q
def XD(b:Expr)(h:f≠.In:=by lia)(i:f≠.NotIn:=by lia):behindInMarks f b=false:=by
 have j:(f==CmpOp.In)=false:=by cases f<;>first|rfl|exact Ot R h
 have g:(f==CmpOp.NotIn)=false:=by cases f<;>first|rfl|exact Ot R i
 cases b<;>simp[behindInMarks,j,g]
def Xl(D:YD X (compareOp f) r)(ha:PE X a ta)(j:PE X b tb)(hm:behindInMarks f b=false):PE X (.Compare a [f] [b] pos) (D6 r ta tb):=by
 intro pins s B H Q I h;exact wpAny_Compare1 (P6 ha j I h λv u s2 x y n i g C q=>D pins s2 B n x y v u Q i g C q) hm
inductive Zhk(Q:Bool->Hp->Prop)(x:V)(H':Hp):Prop|mk k (_:x=.bl k) (_:Q k H')
def Ra(t:TE):TT:=λf H Q=>t f H λx g=>Zhk Q x g
def K5(J:YD X (compareOp g) r)(ha:PE X a ta)(L:PE X b tb)(hm:behindInMarks g b=false):PT X (.Compare a [g] [b] pos) (Ra (D6 r ta tb)):=by
 intro pins s f H Q I h;refine wpAny_isTrue_Compare1 (ZA (ha pins s f H _ I h) λv P ⟨x,i,C,r1,n⟩=>ZA (L pins P f i _ C n) λu s2 ⟨y,M,j,G,D⟩ =>
  ZA (J pins s2 f M x y v u _ j r1 G D) λc S ⟨z,O,E,r3,k,e,B⟩=>?_) hm
 subst e;cases r3;exact wpAny_truthy_bool ⟨O,E,B⟩
inductive Zhl(r':R2)(tc:TE)(σ:St)(Q:VK)(y:V)(z:V)(H3:Hp):Prop|mk k (_:z=.bl k) (_:(if k=true then tc σ H3 λw' H4=>r' y w' H4 Q else Q (.bl false) H3))
def kP(r j:R2)(ta tb tc:TE):TE:=λf H Q=>ta f H λx g=>tb f g λy h=>r x y h λz i=>Zhl j tc f Q y z i
def Rb(U:YD X (compareOp i) r)(Y:YD X (compareOp g) n)(ha:PE X a ta)(hb:PE X b tb)(S:PE X c tc)
  (hm:lastMarks [i,g] [b,c]=false:=by with_unfolding_all rfl):PE X (.Compare a [i,g] [b,c] pos) (kP r n ta tb tc):=by
 intro pins s f b0 a0 I h;refine Compare_chain (ZA (ha pins s f b0 _ I h) λv s1 ⟨x,E,O,r1,J⟩=>chain_link (ZA (hb pins s1 f E _ O J) λu s2 ⟨y,H2,G,C,Q⟩ =>
  ZA (U pins s2 f H2 x y v u _ G r1 C Q) λd L ⟨z,D,B,r3,k,e,j⟩=>?_)) hm
 subst e;cases r3;erw[wpAny_truthy_bool ?_];cases k with
 |false=>exact ite_ff ⟨.bl false,D,B,R,j⟩
 |true=>exact ite_tt (chain_last (ZA (S pins L f D _ B j) λw' Z ⟨P,M,T,r4,H⟩=>Y pins Z f M y P u w' a0 T C r4 H))
def MQ(Z:YD X (compareOp i) r)(a0:YD X (compareOp g) n)(ha:PE X a ta)(hb:PE X b tb)(U:PE X c tc)
  (hm:lastMarks [i,g] [b,c]=false:=by with_unfolding_all rfl):PT X (.Compare a [i,g] [b,c] pos) (Ra (kP r n ta tb tc)):=by
 intro pins s f c0 d0 I h;refine isTrue_chain (ZA (ha pins s f c0 _ I h) λv s1 ⟨b0,D,Q,r1,L⟩=>test_link (ZA (hb pins s1 f D _ Q L) λu s2 ⟨y,H2,E,B,T⟩ =>
  ZA (Z pins s2 f H2 b0 y v u _ E r1 B T) λd J ⟨z,C,x,r3,k,e,j⟩=>?_)) hm
 subst e;cases r3;erw[wpAny_truthy_bool ?_];cases k with
 |false =>
  ext⟨k',e',q'⟩ j;cases e';exact ite_ff ⟨C,x,q'⟩
 |true =>
  erw[ite_tt (test_last (ZA (U pins J f C _ x j) λw' s4 ⟨S,P,Y,r4,G⟩=>ZA (a0 pins s4 f P y S u w' _ Y B r4 G) λd' s5 ⟨z2,H5,H,r5,k2,M,O⟩=>?_))];subst M;cases r5;exact wpAny_truthy_bool ⟨H5,H,O⟩
def kQ(K:Oy)(x:V)(H:Hp)(k:Bool):Prop :=
 match x with
 |.non=>k=false
 |.bl b=>k=b
 |.int i=>k=(i != 0)
 |.str y=>y.length<=sizeLine/\k=((y.length:Int) != 0)
 |.byt y=>y.size<=sizeLine/\k=((y.size:Int) != 0)
 |.ref p=>(∃f,Zd K H p f/\k = !f.isEmpty)\/(∃f,Zg K H p f/\k = !f.isEmpty)\/∃g,H p=some (.dK g)/\k = !g.isEmpty
 |_=>False
def Zhm{g:Type}{f:List (g×V)}{vs:List (g×Value)}(r:KV f vs):(!vs.isEmpty) = !f.isEmpty:=by
 cases r<;>rfl
def kR{xs:List V}{f:OC}(r:ZG xs f):(!f.toArray.isEmpty) = !xs.isEmpty:=by
 cases r<;>simp
def D7:(sizeLine:Nat)<2 ^ 63:=by rw[sizeLine_eq];lia
def Zhn:Zhe X (λx H Q=>∃k,kQ X.K x H k/\Q k H):=by
 intro pins s L H x v Q I n h;ext⟨k,e,q⟩ h;have O:=D7;have M:sizeLine=16777216:=sizeLine_eq;cases x with
 |non =>
  cases n;have f:k=false:=e;subst f;exact truthy_none ⟨H,I,q⟩
 |bl b =>
  cases n;have f:k=b:=e;subst f;exact wpAny_truthy_bool ⟨H,I,q⟩
 |int i =>
  ext⟨t,rfl⟩ n;have f:k=(i != 0):=e;subst f;exact PySem.P.truthy_int ⟨H,I,q⟩
 |str y =>
  ext⟨t,rfl⟩ n;obtain⟨G,f⟩:y.length<=sizeLine/\k=((y.length:Int) != 0):=e;subst f;exact PySem.P.truthy_str () ⟨H,I.tok _,q⟩
 |byt y =>
  ext⟨t,rfl⟩ n;obtain⟨G,f⟩:y.size<=sizeLine/\k=((y.size:Int) != 0):=e;subst f;exact W.truthy_bytes () ⟨H,I.tok _,q⟩
 |ref p =>
  cases n;have f:(∃g,Zd X.K H p g/\k = !g.isEmpty)\/(∃g,Zg X.K H p g/\k = !g.isEmpty)\/∃j,H p=some (.dK j)/\k = !j.isEmpty:=e;rcases f with⟨g,u,f⟩|⟨g,u,f⟩|⟨j,u,f⟩;subst f;obtain⟨J,r,C,D⟩:=I.list u;have hlen:=r.length;exact wpAny_truthy_list C.isList (by simp only[SO];lia) ⟨H,I.tok _,by rwa[kR r]⟩;subst f;obtain⟨J,r,C,D⟩:=I.tuple u;have hlen:=r.length;exact truthy_tuple C (by simp only[SO];lia) ⟨H,I.tok _,by rwa[kR r]⟩;subst f;obtain⟨D,E,B,r,m⟩:j.length<=sizeLine/\(p==sysModules)=false/\∃B,KV j B/\s.heap.DictOf (XR X.prog X.w) p B:=I.hok p _ u;have hlen:j.length=B.length:=Paired.length r;exact wpAny_truthy_dict E m () ⟨H,I.tok _,by rwa[Zhm r]⟩
 |_=>exact(show False from e).elim
def Yo:YD X (binaryOp .Add) (λx y H Q=>∃i j,x=.str i/\y=.str j/\i.length+j.length<=sizeLine/\Q (.str (i++j)) H):=by
 intro pins s C H x y v u Q I f g h;ext⟨i,j,rfl,rfl,B,q⟩ h;ext⟨t,rfl⟩ f;ext⟨n,rfl⟩ g;exact add_str (λn tk=>⟨.str (i++j),H,I.tok _,⟨_,R⟩,q⟩) B
def Xm(r:ZG [x] us):∃u,us=[u]/\ZP x u:=by
 cases r with
 |cons r1 f=>cases f;exact⟨_,R,r1⟩
def kS(r:ZG [x,y] us):∃u f,us=[u,f]/\ZP x u/\ZP y f:=by
 cases r with
 |cons r1 h =>
  cases h with
  |cons r3 g=>cases g;exact⟨_,_,R,r1,r3⟩
def XS:Xk X (.type "str") (λxs H Q=>∃i,xs=[.int i]/\i.natAbs.log2<1920/\Q (.str (toString i)) H):=by
 intro pins s g H xs j Q I r h;ext⟨i,rfl,f,q⟩ h;obtain⟨u,rfl,t,rfl⟩:=Xm r;exact PySem.P.str_of_int f ⟨.str _,H,I.tok _,⟨_,R⟩,q⟩
end
structure Q1(h:Heap)(x dx C:Addr)(mA:Ox):Prop where
 obj:h.get? x=some (W.instObj C dx)
 ns:h.Ns1 dx mA
 ne:dx≠x
def Zho{h:Heap}(n:h.Ns1 f c):∃g,h.get? f=some g/\∀name,W.lookIn name g=some (c name):=by
 ext⟨o,i,C,v,hd,x,_,hm⟩ n;erw[⟨o,v,λname=>?_⟩];have e:=hm name;unfold nsFind findBy at e;rw[<-Array.find?_toList]at e;unfold W.lookIn;rw[hd];dsimp only;split;rename_i y q;rw[q]at e;exact congrArg some e;rename_i q;rw[q]at e;have a:i.toList.any (·.refKey)=false:=by
  rw[List.any_eq_false];intro y u;obtain⟨z,t,j⟩:=x y (Array.mem_toList_iff.mp u);simp[DictEntry.refKey,j]
 have B:¬ i.toList.any (·.refKey)=true:=by rw[a];exact SQ
 rw[SV B];exact congrArg some e
def Q1.look(I:Q1 h x g C f):∃c,W.InstAt h x (W.instObj C g) C (some c)/\∀name,W.lookIn name c=some (f name) :=
 let ⟨c,ho,hl⟩:=Zho I.ns
 ⟨c,⟨I.obj,R,R,ho⟩,hl⟩
section
variable{x dx C f:Addr}{mA:Ox}{name:Str}{v:Value}
def Zhp{expr:Bool}(X:K.In s.heap)(I:Q1 s.heap x dx C mA)(g:W.plainGet K C name=true)(c:W.hasDictIn K C=true)
  (ha:W.findIn K (.ref C) name=some none) (i:mA name=some v) (n:W.handedIn v=true) (h:Q v {s with toks:=s.toks+1}) :
  wpAny (model prog w) A (getAttr (.ref x) name expr) Q E s:=by
 ext⟨u,J,j⟩ I.look;exact W.get_value X J (W.plainGet_of g).1 (W.findObj_own c ha R (by rw[j,i])) n h
def Zhq(X:K.In s.heap)(I:Q1 s.heap x dx C mA)(c:W.plainGet K C name=true)
  (g:W.findIn K (.ref C) name=some (some (.ref f))) (j:W.isFn K (.ref f)=true) (n:mA name=none) (h:Q (.ref f,[.ref x]) s) :
  wpAny (model prog w) A (getMethod (.ref x) name pl) Q E s:=by
 ext⟨i,J,u⟩ I.look;exact W.method_fn X J (W.plainGet_of c).1 (W.plainGet_of c).2 g (beq_iff_eq.mp j) (by show(W.lookIn name i).map (·.isSome)=some false;rw[u,n];rfl) h
def Zhr{ns:OD}(X:K.In s.heap)(I:Q1 s.heap x dx C mA)
  (G:W.findIn K (.ref C) "__setattr__"=some (some (.builtin "object.__setattr__"))) (n:W.plainOver K C=true) (u:W.takerIn K C name=some none) (i:W.hasDictIn K C=true)
  (D:PySem.Within mA ns) (hsz:ns.length<=sizeLine)
  (h:∀h',Q1 h' x dx C (λy=>if y=name then some v else mA y)->Heap.SameBut dx s.heap h'->Q Unit.unit {s with heap:=h',toks:=s.toks+2}) :
  wpAny (model prog w) A (setAttr (.ref x) name v) Q E s:=by
 ext⟨Y,J,Z⟩ I.look;erw[W.set_plain X J G (W.osa_open (s:={s with toks:=s.toks+1}) (r:=none) X J n u λb=>?_)];obtain⟨P,H,j⟩:=W.any_some i;have B:s.heap.get? x=some ⟨.ref C,some dx,.plain,#[]⟩:=I.obj;erw[Sa (Sb (Sa (Sa (wpAny_loadPart B (Sa (W.Looks.here (s:={s with toks:=s.toks+1}) (W.looks_clsIn X H) ?_))))))];rw[j];erw[Sb (a:=some dx) (Sa (Sb (Sa ?_)))];erw[wpAny_nsSet1 (s:={s with toks:=s.toks+1}) I.ns λh' c g=>?_];obtain⟨U,T,S,O,M,L⟩:=c.count (PySem.Within.cons name v D);erw[Sa (wpAny_lookBehind O (by rw[M];exact pastItsLine_dict (Sh L (by rw[Sy];lia))) ?_)];exact Sb (h _ ⟨(g.2 _ (Ne.symm I.ne)).trans I.obj,c,I.ne⟩ g)
def Zhs{R:Result->Shared->Prop}(X:K.In s.heap)(hm:W.makesIn K C=true)
  (hi:W.findIn K (.ref C) "__init__"=some (some (.ref f))) (c:W.typeIn K (.ref f)=some (.type "function"))
  (h:codeAny (model prog w) (A.under (.builtin "type.__call__" ⟨.ref C::vs,kw⟩)) (.call (.ref f) ⟨.ref (s.heap.objs.size+1)::vs,kw⟩) (W.InitBack (s.heap.objs.size+1) R)
   {s with heap:=(s.heap.push W.emptyDict).push (W.instObj C s.heap.objs.size)}) :
  codeAny (model prog w) A (.call (.ref C) ⟨vs,kw⟩) R s:=by
 ext⟨i,g,d,t,os⟩ s;exact W.make_core (W.makes_of X hm) (W.looks_findIn X hi) (λself=>W.bind_fn X self c) (.inl rfl) h
def Zht{R:Result->Shared->Prop}(X:K.In s.heap)(hm:W.makesIn K C=true)
  (hi:W.findIn K (.ref C) "__init__"=some (some (.builtin "object.__init__")))
  (c:∀self,W.Looks (model prog w) s.heap (bindSpecial (.builtin "object.__init__") self) (.builtin "object.__init__",[self]))
  (h:codeAny (model prog w) (A.under (.builtin "type.__call__" ⟨[.ref C],[]⟩)) (.call (.builtin "object.__init__") ⟨[.ref (s.heap.objs.size+1)],[]⟩) (W.InitBack (s.heap.objs.size+1) R)
   {s with heap:=(s.heap.push W.emptyDict).push (W.instObj C s.heap.objs.size)}) :
  codeAny (model prog w) A (.call (.ref C) ⟨[],[]⟩) R s:=by
 ext⟨i,g,d,t,os⟩ s;exact W.make_core (W.makes_of X hm) (W.looks_findIn X hi) c (.inr ⟨rfl,rfl⟩) h
end
def Z9(f:Str)(v:V):List (Str×V)->List (Str×V)
 |[]=>[(f,v)]
 |(g,x)::r=>if g=f then (g,v)::r else (g,x)::Z9 f v r
theorem kT(f g:Str)(v:V):∀fs:List (Str×V),(Z9 f v fs).lookup g=if g=f then some v else fs.lookup g
 |[]=>by
  show List.lookup g [(f,v)]=_;by_cases h:g=f;have c:(g==f)=true:=beq_iff_eq.mpr h;simp only[List.lookup,c,SW h];have c:(g==f)=false:=beq_eq_false_iff_ne.mpr h;simp only[List.lookup,c,SV h]
 |(k,x)::r=>by
  have j:=kT f g v r;rw[show Z9 f v ((k,x)::r)=(if k=f then (k,v)::r else (k,x)::Z9 f v r)from R];by_cases i:k=f;rw[SW i];by_cases h:g=k;have c:(g==k)=true:=beq_iff_eq.mpr h;simp only[List.lookup,c,SW (h.trans i)];have c:(g==k)=false:=beq_eq_false_iff_ne.mpr h;simp only[List.lookup,c,SV (λe:g=f=>h (e.trans i.symm))];rw[SV i];by_cases h:g=k;have c:(g==k)=true:=beq_iff_eq.mpr h;simp only[List.lookup,c,SV (λe:g=f=>i (h.symm.trans e))];have c:(g==k)=false:=beq_eq_false_iff_ne.mpr h;simp only[List.lookup,c];exact j
theorem Rc(f:Str)(v:V):∀fs:List (Str×V),f∈(Z9 f v fs).map (·.1)/\∀g,g∈fs.map (·.1)->g∈(Z9 f v fs).map (·.1)
 |[]=>⟨by simp[Z9],λg h=>by simp at h⟩
 |(k,x)::r=>by
  obtain⟨j,i⟩:=Rc f v r;rw[show Z9 f v ((k,x)::r)=(if k=f then (k,v)::r else (k,x)::Z9 f v r)from R];by_cases c:k=f;rw[SW c];subst c;exact⟨by simp,λg h=>by simpa using h⟩;rw[SV c];erw[⟨?_,λg h=>?_⟩];rw[SN];exact SD _ j;rw[SN]at h ⊢;rcases SG.mp h with e|e;exact SG.mpr (.inl e);exact SD _ (i g e)
theorem D8(f:Str)(v:V):∀fs:List (Str×V),(Z9 f v fs).length<=fs.length+1
 |[]=>by simp[Z9]
 |(k,x)::r=>by
  have g:=D8 f v r;rw[show Z9 f v ((k,x)::r)=(if k=f then (k,v)::r else (k,x)::Z9 f v r)from R];by_cases c:k=f;rw[SW c,Sy,Sy];lia;rw[SV c,Sy,Sy];lia
def WE.some_of(r:WE (some v) o):∃u,o=some u/\ZP v u:=by
 cases o with
 |none=>exact(show False from r).elim
 |some u=>exact⟨u,R,r⟩
def WE.none_of(r:WE none o):o=none:=by
 cases o with
 |none=>rfl
 |some u=>exact(show False from r).elim
def Zhu(r:ZP v u):W.handedIn u=true:=by
 cases v with
 |non=>cases (show u=Value.none from r);rfl
 |bl b=>cases (show u=Value.bool b from r);rfl
 |int i=>obtain⟨t,e⟩:=(show ∃t,u=Value.int i t from r);cases e;rfl
 |str x=>obtain⟨t,e⟩:=(show ∃t,u=Value.str x t from r);cases e;rfl
 |byt b=>obtain⟨t,e⟩:=(show ∃t,u=Value.bytes b t from r);cases e;rfl
 |flt b=>obtain⟨t,e⟩:=(show ∃t,u=Value.float b t from r);cases e;rfl
 |ref a=>cases (show u=Value.ref a from r);rfl
 |ty n=>cases (show u=Value.type n from r);rfl
section
variable{H':Hp}{h h':Heap}{a C dx:Addr}{fs fs':List (Str×V)}
def MR(hok:YK P w H h)(e:H a=some (.ins C dx fs)):∃c,Q1 h a dx C c/\(∀f,WE (fs.lookup f) (c f))/\PySem.Within c (fs.map (·.1))/\fs.length<=1000/\H dx=some (.own a):=by
 obtain⟨d,z,ne,ob,c,n,r,q⟩:=(show Yq P w H h a (.ins C dx fs)from hok a _ e);exact⟨c,⟨ob,n,ne⟩,r,q,z,d⟩
end
structure YI(K:Oy)(C:Addr):Prop where
 pg:W.plainGet K C Str.empty=true
 hd:W.hasDictIn K C=true
 po:W.plainOver K C=true
 sa:W.findIn K (.ref C) "__setattr__"=some (some (.builtin "object.__setattr__"))
def YI.get{C:Addr}(c:YI K C)(f:Str):W.plainGet K C f=true:=c.pg
def Xt(K:Oy)(C:Addr)(f:Str):Prop:=W.findIn K (.ref C) f=some none
def Xt.taker{C:Addr}{f:Str}(n:Xt K C f):W.takerIn K C f=some none:=by
 unfold W.takerIn;rw[show W.findIn K (.ref C) f=some none from n];rfl
structure Con(K:Oy)(C:Addr)(f:Str)(v:V)(u:Value):Prop where
 at_:W.findIn K (.ref C) f=some (some u)
 rel:ZP v u
 get:W.specialIn K u "__get__"=some none
 cp:W.copiedNames.contains f=false
structure Yr(K:Oy)(C:Addr)(m:Str)(f:Addr):Prop where
 at_:W.findIn K (.ref C) m=some (some (.ref f))
 fn:W.isFn K (.ref f)=true
 kp:W.keepIn K (.ref f)=true
section
variable{σ:St}{a C dx:Addr}{fs:List (Str×V)}{f:Str}{v:V}
def Zhv(I:Zb X pins σ H s)(e:H a=some (.ins C dx fs))(c:YI X.K C)(n:Xt X.K C f)(l:fs.lookup f=some v)
  (h:∀u s',Zb X pins σ H s'->ZP v u->Q u s'):wpAny (model X.prog X.w) A (getAttr (.ref a) f b) Q E s:=by
 obtain⟨i,O,r,_,_,_⟩:=MR I.hok e;obtain⟨u,g,ru⟩:=WE.some_of (v:=v) (o:=i f) (by rw[<-l];exact r f);exact Zhp I.kIn O (c.get f) c.hd n g (Zhu ru) (h u _ (I.tok _) ru)
def D9(I:Zb X pins σ H s)(e:H a=some (.ins C dx fs))(c:YI X.K C)(k:Yr X.K C m g)(l:fs.lookup m=none)
  (h:Q (.ref g,[.ref a]) s):wpAny (model X.prog X.w) A (getMethod (.ref a) m pl) Q E s:=by
 obtain⟨i,O,r,_,_,_⟩:=MR I.hok e;have hn:i m=none:=WE.none_of (by rw[<-l];exact r m);exact Zhq I.kIn O (c.get m) k.at_ k.fn hn h
def Zhw(I:Zb X pins σ H s)(e:H a=some (.ins C dx fs))(c:YI X.K C)(n:Xt X.K C f)(T:fs.length<1000)(M:ZP y u)
  (h:∀s',Zb X pins σ (upd H a (.ins C dx (Z9 f y fs))) s'->Q Unit.unit s'):wpAny (model X.prog X.w) A (setAttr (.ref a) f u) Q E s:=by
 obtain⟨j,O,r,D,_,B⟩:=MR I.hok e;have S:(fs.map (·.1)).length<=sizeLine:=by rw[Sv,sizeLine_eq];lia
 erw[Zhr I.kIn O c.sa c.po n.taker c.hd D S λP i G=>h _ ?_];have hd:∃o,P.get? dx=some o:=let ⟨o,_,_,e',_⟩:=i.ns;⟨o,e'⟩;erw[I.write (x:=a) (e:=dx) (by rw[e];exact True.intro) (.inr B) (λb q L z=>(G.2 b L).trans z) hd ?_];erw[⟨by rwa[Zm O.ne],?_,O.ne,i.obj,_,i.ns,λg=>?_,λg J=>?_⟩];have:=D8 f y fs;lia;show WE ((Z9 f y fs).lookup g) (if g=f then some u else j g);rw[kT];by_cases q:g=f;rwa[SW q,SW q];rw[SV q,SV q];exact r g;by_cases q:g=f;rw[q];exact(Rc f y fs).1;erw[(Rc f y fs).2 g (D g λz=>J ?_)];show(if g=f then some u else j g)=none;rwa[SV q]
def Zb.made(I:Zb X pins σ H s):Zb X pins σ (upd (upd H s.heap.objs.size (.own (s.heap.objs.size+1))) (s.heap.objs.size+1) (.ins C s.heap.objs.size []))
  {s with heap:=(s.heap.push W.emptyDict).push (W.instObj C s.heap.objs.size)}:=by
 have c:(s.heap.push W.emptyDict).get? s.heap.objs.size=some W.emptyDict:=Sd s.heap R;have n:((s.heap.push W.emptyDict).push (W.instObj C s.heap.objs.size)).get? (s.heap.objs.size+1)=some (W.instObj C s.heap.objs.size):=by
  have:=Sd (s.heap.push W.emptyDict) (o:=W.instObj C s.heap.objs.size) R;rwa [Heap.size_push]at this
 have g:(s.heap.push W.emptyDict).Ns s.heap.objs.size (λ_=>none):=⟨W.emptyDict,#[],_,c,R,(λe j=>Ot j (by simp)),λ_=>R⟩;have i:=I.laid (a:=s.heap.objs.size) (o:=.own (s.heap.objs.size+1)) (h':=s.heap.push W.emptyDict) (t':=s.toks) (λb u q=>Sc _ q) (Sg _) ⟨_,c⟩;erw[i.laid (a:=s.heap.objs.size+1) (o:=.ins C s.heap.objs.size []) (t':=s.toks) (λb u q=>Sc _ q) (Nat.le_of_eq (Heap.size_push _ _)) ?_];have ne:s.heap.objs.size≠s.heap.objs.size+1:=Sf (Sm _);erw[⟨by rw[Zm ne,Zi],Sk _,ne,n,λ_=>none,(Heap.Ns1.of_empty g).at λo q=>Sc _ q,λ_=>True.intro,λy h=>Ot rfl h⟩]
def Zhx(c:attributeBase e f env (eval e env)=eval e env)
  (h:wpAny (model prog w) A (eval e env) (λo g=>wpAny (model prog w) A (getAttr o f true) Q E g) E s):wpAny (model prog w) A (eval (.Attribute e f i) env) Q E s :=
 Attribute_any_ h (by rw[arm_eval_Attribute,c])
end
inductive Zhy(K:Oy)(f:Str)(Q:VK)(x:V)(H1:Hp):Prop|mk a C dx fs v (_:x=.ref a) (_:H1 a=some (.ins C dx fs)) (_:YI K C) (_:Xt K C f) (_:fs.lookup f=some v) (_:Q v H1)
def Zhz(K:Oy)(h:TE)(f:Str):TE:=λg H Q=>h g H λx c=>Zhy K f Q x c
inductive ZhA(K:Oy)(f:Str)(D:X8)(σ:St)(y:V)(x:V)(H2:Hp):Prop|mk a C dx fs (_:x=.ref a) (_:H2 a=some (.ins C dx fs)) (_:YI K C) (_:Xt K C f) (_:fs.length<1000) (_:D.nx σ (upd H2 a (.ins C dx (Z9 f y fs))))
def ZhB(K:Oy)(i j:TE)(f:Str):TS:=λD c H=>j c H λy g=>i c g λx h=>ZhA K f D c y x h
section
variable{o e value:Expr}{f:Str}{pos' tpos:Pos}{ta tv:TE}
def ZQ(y:PE X e ta)(G:attributeBase e f X.env (eval e X.env)=eval e X.env):PE X (.Attribute e f pos) (Zhz X.K ta f):=by
 intro pins s j H Q I h;erw[Zhx G (ZA (y pins s j H _ I h) λu L ⟨x,g,B,E,a,C,J,fs,v,ex,D,c,n,l,q⟩=>?_)];subst ex;obtain rfl:u=Value.ref a:=E;exact Zhv B D c n l λM s2 i ru=>⟨v,g,i,ru,q⟩
def Ws(ha:PE X o ta)(L:PE X value tv)(v:swapsWith value (some (.Attribute o f pos')) pos.line X.env=pure false):PS X (.Assign [.Attribute o f pos'] value pos) (ZhB X.K ta tv f):=by
 intro pins s g H D I h;erw[plainObj_wpAny_Assign_Attribute (ZA (L pins s g H _ I h) λu Q ⟨y,i,E,B,q⟩=>ZA (ha pins Q g i _ E q) λP s2 ⟨x,U,j,O,a,C,S,fs,ex,M,c,n,l,G⟩=>?_) v];subst ex;obtain rfl:P=Value.ref a:=O;exact Zhw j M c n l B λT J=>⟨g,_,J,G⟩
end
section
variable{σ:St}{Q:Ov}{c:Value}{b:Bool}
inductive X9(K:Oy)(H:Hp):V->Value->Prop where
 |non:X9 K H .non (.type "NoneType")
 |bl (x:Bool):X9 K H (.bl x) (.type "bool")
 |int (i:Int):X9 K H (.int i) (.type "int")
 |str (x:Str):X9 K H (.str x) (.type "str")
 |flt (x:UInt64):X9 K H (.flt x) (.type "float")
 |lst {a:Addr} {xs:List V} (e:H a=some (.lst xs)):X9 K H (.ref a) (.type "list")
 |frz {a:Addr} {o:Obj} {xs:List V} (e:H a=some (.frz o (.lst xs))):X9 K H (.ref a) (.type "list")
 |tup {a:Addr} {xs:List V} (e:H a=some (.tup xs)):X9 K H (.ref a) (.type "tuple")
 |dK {a:Addr} {kvs:List (ZD×V)} (e:H a=some (.dK kvs)):X9 K H (.ref a) (.type "dict")
 |dT {a:Addr} {kvs:List (List ZD×V)} (e:H a=some (.dT kvs)):X9 K H (.ref a) (.type "dict")
 |ins {a C dx:Addr} {fs:List (Str×V)} (e:H a=some (.ins C dx fs)) (cl:YI K C) (ha:W.findIn K (.ref C) "__class__"=some (some (.builtin "object.__class__")))
   (hn:W.specialIn K (.builtin "object.__class__") "__get__"=some (some (.builtin "getset_descriptor.__get__"))) (htk:W.takesIn K (.builtin "object.__class__")=some true)
   (hm:W.mroIn K C (.type "object")=some true):X9 K H (.ref a) (.ref C)
def kU(I:Zb X pins σ H s)(g:ZP x u)(ty:X9 X.K H x t)(e:W.kitOne X.K t c=some b)(h:∀tk,Q (.bool b) {s with toks:=tk}) :
  wpAny (model X.prog X.w) A (call (.builtin "isinstance") [u,c]) Q E s:=by
 cases ty with
 |non=>cases (show u=Value.none from g);exact W.kia_one W.kitx_none I.kIn True.intro e (λz=>nomatch z) h
 |bl y=>cases (show u=Value.bool y from g);exact W.kia_one W.kitx_bool I.kIn True.intro e (λz=>nomatch z) h
 |int i=>obtain⟨t,q⟩:=(show ∃t,u=Value.int i t from g);cases q;exact W.kia_one W.kitx_int I.kIn True.intro e (λz=>nomatch z) h
 |str y=>obtain⟨t,q⟩:=(show ∃t,u=Value.str y t from g);cases q;exact W.kia_one W.kitx_str I.kIn True.intro e (λz=>nomatch z) h
 |flt y=>obtain⟨t,q⟩:=(show ∃t,u=Value.float y t from g);cases q;exact W.kia_one W.kitx_float I.kIn True.intro e (λz=>nomatch z) h
 |@lst a v f =>
  cases (show u=Value.ref a from g);obtain⟨_,_,n,_,j⟩:=(show Yq X.prog X.w H s.heap a (.lst v)from I.hok a _ f);exact W.kia_one W.kitx_list I.kIn ⟨_,j,R⟩ e (λz=>nomatch z) h
 |@frz a ob v f =>
  cases (show u=Value.ref a from g);obtain⟨_,_,_,n,_,j⟩:=(show Yq X.prog X.w H s.heap a (.frz ob (.lst v))from I.hok a _ f);exact W.kia_one W.kitx_list I.kIn ⟨_,j,R⟩ e (λz=>nomatch z) h
 |@tup a v f =>
  cases (show u=Value.ref a from g);obtain⟨_,_,_,p⟩:=(show Yq X.prog X.w H s.heap a (.tup v)from I.hok a _ f);ext⟨o,j,B,_⟩ p;exact W.kia_one W.kitx_tuple I.kIn ⟨o,j,B⟩ e (λz=>nomatch z) h
 |@dK a D f =>
  cases (show u=Value.ref a from g);obtain⟨_,_,T,_,p⟩:=(show Yq X.prog X.w H s.heap a (.dK D)from I.hok a _ f);ext⟨o,G,L,j,B,_⟩ p;exact W.kia_one W.kitx_dict I.kIn ⟨o,j,B.1⟩ e (λz=>nomatch z) h
 |@dT a D f =>
  cases (show u=Value.ref a from g);obtain⟨_,_,v,_,o,G,L,j,B,_⟩:=(show Yq X.prog X.w H s.heap a (.dT D)from I.hok a _ f);exact W.kia_one W.kitx_dict I.kIn ⟨o,j,B.1⟩ e (λz=>nomatch z) h
 |@ins a C P fs f cl ha hn M hm =>
  cases (show u=Value.ref a from g);obtain⟨S,O,_⟩:=MR I.hok f;ext⟨U,J,_⟩ O.look;exact W.kia_one (W.kitx_own (cl.get _) cl.hd ha hn M hm) I.kIn J e (λz=>nomatch z) h
end
structure YE(k:Nat)(A:Around):Prop where
 hd:A.handled=none
 dp:A.depth+3*k+5<recursionLimit
 un:A.units+16*k+200<cLine
 gd:A.guards=some []
def YE.mono(r:YE k A)(h:j<=k):YE j A:=⟨r.hd,by have:=r.dp;lia,by have:=r.un;lia,r.gd⟩
def YE.deeper(r:YE (k+1) A)(env:Env):YE k (A.deeper env) :=
 ⟨r.hd,by have:=r.dp;show A.depth+1+3*k+5<_;lia,by have:=r.un;show A.units+3+16*k+200<_;lia,r.gd⟩
def ZhC:(A.under (.builtin "type.__call__" ⟨.ref C::us,kw⟩)).depth=A.depth+1:=by
 first|rfl|simp[Around.under,Code.weight,Code.isCreation,Code.isGuard,Code.isCaller,Code.frames,Code.isFrame,guardIds]
def ZhD:(A.under (.builtin "type.__call__" ⟨.ref C::us,kw⟩)).units=A.units+1:=by
 first|rfl|simp[Around.under,Code.cUnits,Code.frames,Code.isFrame]
def YE.make(r:YE (k+1) A)(C:Addr)(us:OC)(kw:List (Str×Value)):YE k (A.under (.builtin "type.__call__" ⟨.ref C::us,kw⟩)) :=
 ⟨r.hd,by have:=r.dp;rw[ZhC];lia,by have:=r.un;rw[ZhD];lia,by have:=r.gd;first|exact this|simp[Around.under,Code.guards,Code.isGuard,guardIds,this]⟩
def YE.depth(r:YE k A):A.depth<recursionLimit:=by have:=r.dp;lia
def YE.units(r:YE k A):A.units+64<cLine:=by have:=r.un;lia
def YE.units0(r:YE k A):A.units<cLine:=by have:=r.un;lia
def Vm:TA:=λ_ H Q=>Q [] H
def Y8(h:TE)(tr:TA):TA:=λc H Q=>h c H λx f=>tr c f λi g=>Q (x::i) g
section
variable{e:Expr}{es:OE}{te:TE}{t:TA}
def Xz:PA X [] Vm:=λ_ _ _ _ H Q I h=>Calls.spliced_nil ⟨[],H,I,.nil,h⟩
def ZhE(ha:PE X e te)(D:PA X es t)(j:starEach (e::es) X.env=(false,eval e X.env)::starEach es X.env:=by rfl):PA X (e::es) (Y8 te t):=by
 intro pos pins s c H Q I h;rw[j];show wpAny _ _ (spliced ((false,eval e X.env)::backTo pos (starEach es X.env))) _ _ s;erw[Calls.spliced_cons (ZA (ha pins s c H _ I h) λu E ⟨x,f,n,r1,i⟩=>?_)];exact ZA (D pos pins E c f _ n i) λG s2 ⟨y,C,g,B,v⟩=>⟨x::y,C,g,.cons r1 B,v⟩
def ZhF(t:TA):TE:=λg H Q=>t g H λf c=>f.length<=sizeLine/\∀p,c p=none->Q (.ref p) (upd c p (.tup f))
def ZhG(t:TA):TE:=λg H Q=>t g H λf c=>f.length<=sizeLine/\∀p,c p=none->Q (.ref p) (upd c p (.lst f))
def Y9{x1}(h:PA X es t):PE X (.Tuple es x1 pos) (ZhF t):=by
 intro pins s n H Q I i;erw[wpAny_Tuple_spliced (ZA (h pos pins s n H _ I i) λv c ⟨x,f,g,r,z,q⟩=>⟨by rwa[<-r.length],?_⟩)];have j:f c.heap.objs.size=none:=g.hok.fresh (Sg _);erw[⟨.ref c.heap.objs.size,upd f c.heap.objs.size (.tup x),g.laid (t':=c.toks) (λb u e=>Sc _ e) (Sg _) ?_,R,q _ j⟩];exact⟨z,v,r,⟨_,Sd _ R,R,_,R⟩⟩
def Ye(h:PA X es t):PE X (.List es pos) (ZhG t):=by
 intro pins s n H Q I i;erw[wpAny_List_spliced (ZA (h pos pins s n H _ I i) λv c ⟨x,f,g,r,z,q⟩=>⟨by rwa[<-r.length],?_⟩)];have j:f c.heap.objs.size=none:=g.hok.fresh (Sg _);erw[⟨.ref c.heap.objs.size,upd f c.heap.objs.size (.lst x),g.laid (t':=c.toks) (λb u e=>Sc _ e) (Sg _) ?_,R,q _ j⟩];exact⟨z,v,0,r,Sd _ R⟩
end
abbrev Sp:=List V->Hp->VK->XK->Prop
abbrev WG:=List Env->Hp->Shared->XK->Value->Shared->Prop
structure Q2(P:Program)(w:World)(K:Oy)(mg:Ox)(base:Heap)(A:Around)(outer:List Env)(s:Shared)(H:Hp):Prop where
 frames:A.frames=some outer
 mod:Mod K mg base
 bs:∀b o,base.get? b=some o->s.heap.get? b=some o/\H b=none
 bsz:base.objs.size<=s.heap.objs.size
 funs:s.heap.FunFrames base outer
 frf:∀b∈Yj outer,H b=none
 hok:YK P w H s.heap
 bare:AllBare s.gens
inductive CE(outer:List Env)(P:Program)(w:World)(H:Hp)(s:Shared)(Q:VK)(u:Value)(s':Shared):Prop|mk v H' (_:s'.os=s.os) (_:AllBare s'.gens) (_:Un (Yj outer) [] H H' s.heap s'.heap) (_:YK P w H' s'.heap) (_:ZP v u) (_:Q v H')
def CR(CX:WG)(outer:List Env)(P:Program)(w:World)(H:Hp)(s:Shared)(Q:VK)(E:XK)(r:Result)(s':Shared):Prop :=
 match r with
 |.ok (.ret u)=>CE outer P w H s Q u s'
 |.ok _=>False
 |.error e=>CX outer H s E e s'
structure Zo(P:Program)(w:World)(K:Oy)(mg:Ox)(base:Heap)(CX:WG)(k:Nat)(f:Addr)(fd:OK)(ps:OD)(sp:Sp):Prop where
 len:∀vs H Q E,sp vs H Q E->vs.length=ps.length
 run:∀(A:Around) (outer:List Env) (s:Shared) (H:Hp) (args:Args) (us:OC) (vs:List V) (Q:VK) (E:XK),YE k A->Q2 P w K mg base A outer s H->BindsTo s fd args (ps.zip us)->ZG vs us->sp vs H Q E ->
  codeAny (model P w) A (.call (.ref f) args) (CR CX outer P w H s Q E) s
def Zo.mono{CX:WG}{j k:Nat}{f:Addr}{g:OK}{c:OD}{sp:Sp}(F:Zo P w K mg base CX j f g c sp)(h:j<=k) :
  Zo P w K mg base CX k f g c sp:=⟨F.len,λA outer s H args u i Q E n=>F.run A outer s H args u i Q E (n.mono h)⟩
def Q2.make{outer:List Env}(e:Q2 P w K mg base A outer s H)(C:Addr)(us:OC)(kw:List (Str×Value)) :
  Q2 P w K mg base (A.under (.builtin "type.__call__" ⟨.ref C::us,kw⟩)) outer s H:=⟨by first|exact e.frames|(simpa [Around.under,Code.envs,Code.isFrame,pushEnvs]using e.frames),e.mod,e.bs,e.bsz,e.funs,e.frf,e.hok,e.bare⟩
section
variable{σ:St}{s':Shared}
def Zb.env0(I:Zb X pins σ H s):Q2 X.prog X.w X.K X.mg X.base X.A X.stack s H :=
 ⟨I.ok.frames,I.ok.mod,I.bs,Sh I.ok.bsz I.sz,I.stack,I.stkFree,I.hok,I.bare⟩
def Zb.after(I:Zb X pins σ H s)(h:CE X.stack X.prog X.w H s Q u s'):EP X pins σ Q u s':=by
 ext⟨v,i,os,bare,un,hok,r,q⟩ h;ext⟨c,g,d,t,f⟩ s';obtain rfl:f=s.os:=os;exact⟨v,i,I.call (h':=c) (g':=g) (d':=d) (t':=t) (ch:=[]) un hok bare (λb z=>Ot z (by simp)),r,q⟩
end
def Re(sp:Sp)(dvs:List V)(E:XK)(t:TA):TE:=λg H Q=>t g H λc f=>sp (c++dvs) f Q E
inductive ZhH(C:Addr)(m:Str)(sp:Sp)(dvs:List V)(E:XK)(t:TA)(σ:St)(Q:VK)(x:V)(H1:Hp):Prop|mk a dx fs (_:x=.ref a) (_:H1 a=some (.ins C dx fs)) (_:fs.lookup m=none) (_:t σ H1 λvs H2=>sp (x::(vs++dvs)) H2 Q E)
def kW(C:Addr)(m:Str)(sp:Sp)(dvs:List V)(E:XK)(g:TE)(t:TA):TE:=λc H Q=>g c H λx f=>ZhH C m sp dvs E t c Q x f
def kX(C:Addr)(sp:Sp)(dvs:List V)(E:XK)(t:TA):TE:=λi H Q=>t i H λg f=>∀x c,f x=none->f c=none->c≠x ->
 sp (.ref x::(g++dvs)) (upd (upd f c (.own x)) x (.ins C c [])) (λv h=>v=.non/\Q (.ref x) h) E
def XT(K:Oy)(f:OK)(c:OD)(ds:OC):Prop :=
 ∀(s:Shared) (us:OC),K.In s.heap->(us++ds).length=c.length->BindsTo s f ⟨us,[]⟩ (c.zip (us++ds))
def XT.all{g:OK}{c:OD}(h:∀us:List Value,us.length=c.length->bindArgs g ⟨us,[]⟩=pure (c.zip us)):XT K g c []:=λs us _ f=>by
 rw[Od]at f ⊢;exact .of_eq (h us f)
def Vn(CX:WG)(X:Cx)(E:XK):Prop:=∀(pins:Ow) (σ:St) (H:Hp) (s:Shared) (e:Value) (s':Shared),Zb X pins σ H s->CX X.stack H s E e s'->X.xe e s'
section
variable{CX:WG}{k:Nat}{f C:Addr}{fd:OK}{ps:OD}{sp:Sp}{dvs:List V}{ds:OC}{E:XK}{x m:Str}{p apos:Pos}{e o:Expr}{es:OE}{ta:TE}{t:TA}
def Qr(F:Zo X.prog X.w X.K X.mg X.base CX k f fd ps sp)(y:YE k X.A)(n:XT X.K fd ps ds)(hd:ZG dvs ds)(j:Vn CX X E)
  (I:Zb X pins g H s) (r:ZG vs us) (h:sp (vs++dvs) H Q E):wpAny (model X.prog X.w) X.A (call (.ref f) us) (EP X pins g Q) X.xe s:=by
 have i:ZG (vs++dvs) (us++ds):=r.append hd;have D:(us++ds).length=ps.length:=by rw[<-i.length];exact F.len _ _ _ _ h
 erw[wpAny_call (codeAny_mono (F.run X.A X.stack s H ⟨us,[]⟩ (us++ds) (vs++dvs) Q E y I.env0 (n s us I.kIn D) i h) λr v c=>?_)];cases r with
 |error e=>exact j pins g H s e v I c
 |ok B =>
  cases B with
  |ret u=>exact I.after c
  |next=>exact False.elim c
  |brk=>exact False.elim c
  |cont=>exact False.elim c
def Xu(F:Zo X.prog X.w X.K X.mg X.base CX k f fd ps sp)(v:YE k X.A)(i:Gl X x)(hm:X.mg x=some (.ref f))(y:W.keepIn X.K (.ref f)=true)(j:XT X.K fd ps ds)(hd:ZG dvs ds)(g:Vn CX X E)
  (ha:PA X (e::es) t) (B:(x==("__debug__" : Str))=false:=by lia) (D:starEach (e::es) X.env=(false,eval e X.env)::starEach es X.env:=by rfl) (n:(backTo pos (starEach es X.env)).any (·.1)=false:=by rfl) :
  PE X (.Call (.Name x p) (e::es) [] pos) (Re sp dvs E t):=by
 intro pins s u H Q I h;erw[wpAny_Call_Name_kw (Uu I i hm ?_ B)];erw[W.callWith_K (h₀:=X.base) I.ok.mod.kin y (ZA (ha pos pins s u H _ I h) λM L ⟨G,J,c,r,q⟩=>⟨c.kIn,?_⟩) D n];exact Qr F v j hd g c r q
def ZhI(F:Zo X.prog X.w X.K X.mg X.base CX k f fd ps sp)(j:YE k X.A)(g:Gl X x)(hm:X.mg x=some (.ref f))(n:W.keepIn X.K (.ref f)=true)(i:XT X.K fd ps ds)(hd:ZG dvs ds)(c:Vn CX X E)
  (u:(x==("__debug__" : Str))=false:=by lia):PE X (.Call (.Name x p) [] [] pos) (Re sp dvs E Vm):=by
 intro pins s v H Q I h;erw[wpAny_Call_Name_kw (Uu I g hm ?_ u)];exact W.callWith_K0 I.kIn n (Qr (us:=[]) F j i hd c I .nil h)
def YL(B:PE X o ta)(c:YI X.K C)(hm:Yr X.K C m f)(F:Zo X.prog X.w X.K X.mg X.base CX k f fd ps sp)(S:YE k X.A)(P:XT X.K fd ps ds)(hd:ZG dvs ds)(D:Vn CX X E)(ha:PA X (e::es) t)
  (M:starEach (e::es) X.env=(false,eval e X.env)::starEach es X.env:=by rfl) (J:(backTo pos (starEach es X.env)).any (·.1)=false:=by rfl)
  (y:eval (.Call (.Attribute o m apos) (e::es) [] pos) X.env=(do
   let n <-eval o X.env
   standAt apos.atName
   let (f,first) <-holding [n] (getMethod n m pl)
   callWith pos f first (backTo pos (starEach (e::es) X.env)) (backToKw pos (keywordEach [] X.env))):=by rfl) :
  PE X (.Call (.Attribute o m apos) (e::es) [] pos) (kW C m sp dvs E ta t):=by
 intro pins s i H Q I h;erw[W.methodCall_KW (pl:=pl) (ZA (B pins s i H _ I h) λu T ⟨x,v,j,O,a,U,fs,ex,L,l,q⟩=>?_) y];subst ex;obtain rfl:u=Value.ref a:=O;erw[D9 j L c hm l ?_];erw[W.callWith_K (first:=[.ref a]) (h₀:=X.base) I.ok.mod.kin hm.kp (ZA (ha pos pins T i v _ j q) λus s2 ⟨vs,Y,g,r,G⟩=>⟨g.kIn,?_⟩) M J];exact Qr (us:=.ref a::us) (vs:=.ref a::vs) F S P hd D g (.cons R r) G
def Vo(J:PE X o ta)(c:YI X.K C)(hm:Yr X.K C m f)(F:Zo X.prog X.w X.K X.mg X.base CX k f fd ps sp)(D:YE k X.A)(v:XT X.K fd ps ds)(hd:ZG dvs ds)(j:Vn CX X E)
  (B:eval (.Call (.Attribute o m apos) [] [] pos) X.env=(do
   let i <-eval o X.env
   standAt apos.atName
   let (f,first) <-holding [i] (getMethod i m pl)
   callWith pos f first (backTo pos (starEach [] X.env)) (backToKw pos (keywordEach [] X.env))):=by rfl) :
  PE X (.Call (.Attribute o m apos) [] [] pos) (kW C m sp dvs E ta Vm):=by
 intro pins s y H Q I h;erw[W.methodCall_KW (pl:=pl) (ZA (J pins s y H _ I h) λu O ⟨x,M,g,n,a,L,fs,ex,G,l,q⟩=>?_) B];subst ex;obtain rfl:u=Value.ref a:=n;erw[D9 g G c hm l ?_];exact W.callWith_K0 (first:=[.ref a]) g.kIn hm.kp (Qr (us:=[.ref a]) (vs:=[.ref a]) F D v hd j g (.cons R .nil) q)
structure Mk(K:Oy)(C f:Addr):Prop where
 makes:W.makesIn K C=true
 init:W.findIn K (.ref C) "__init__"=some (some (.ref f))
 fn:W.isFn K (.ref f)=true
 kp:W.keepIn K (.ref C)=true
def kY(M:Mk X.K C f)(F:Zo X.prog X.w X.K X.mg X.base CX k f fd ps sp)(U:YE (k+1) X.A)(S:XT X.K fd ps ds)(hd:ZG dvs ds)
  (D:Vn CX X E) (I:Zb X pins j H s) (r:ZG vs us)
  (h:∀x g,H x=none->H g=none->g≠x->sp (.ref x::(vs++dvs)) (upd (upd H g (.own x)) x (.ins C g [])) (λv T=>v=.non/\Q (.ref x) T) E) :
  wpAny (model X.prog X.w) X.A (call (.ref C) us) (EP X pins j Q) X.xe s:=by
 have n:=h (s.heap.objs.size+1) s.heap.objs.size (I.hok.fresh (Nat.le_succ _)) (I.hok.fresh (Sg _)) (Sf (Sm _));have i:=Zb.made (C:=C) I;have y:ZG (V.ref (s.heap.objs.size+1)::(vs++dvs)) (Value.ref (s.heap.objs.size+1)::(us++ds)):=.cons R (r.append hd);have Y:(Value.ref (s.heap.objs.size+1)::us++ds).length=ps.length:=by
  have e:=y.length;rw[F.len _ _ _ _ n]at e;exact e.symm
 refine wpAny_call (Zhs (f:=f) I.kIn M.makes M.init (beq_iff_eq.mp M.fn) (codeAny_mono (F.run _ X.stack _ _ ⟨Value.ref (s.heap.objs.size+1)::us,[]⟩ (Value.ref (s.heap.objs.size+1)::(us++ds)) _ _ E (U.make C us [])
  (i.env0.make C us []) (S _ (Value.ref (s.heap.objs.size+1)::us) i.kIn Y) y n) λr P c=>?_))
 cases r with
 |error e=>exact D pins j _ _ e P i c
 |ok L =>
  cases L with
  |ret u =>
   obtain⟨v,B,O,G,Z,J⟩:=i.after c;subst Z;exact⟨G,⟨V.ref (s.heap.objs.size+1),B,O,R,J⟩⟩
  |next=>exact False.elim c
  |brk=>exact False.elim c
  |cont=>exact False.elim c
def Wb(M:Mk X.K C f)(F:Zo X.prog X.w X.K X.mg X.base CX k f fd ps sp)(v:YE (k+1) X.A)(i:Gl X x)(hm:X.mg x=some (.ref C))(j:XT X.K fd ps ds)(hd:ZG dvs ds)(g:Vn CX X E)
  (ha:PA X (e::es) t) (y:(x==("__debug__" : Str))=false:=by lia) (B:starEach (e::es) X.env=(false,eval e X.env)::starEach es X.env:=by rfl) (n:(backTo pos (starEach es X.env)).any (·.1)=false:=by rfl) :
  PE X (.Call (.Name x p) (e::es) [] pos) (kX C sp dvs E t):=by
 intro pins s u H Q I h;erw[wpAny_Call_Name_kw (Uu I i hm ?_ y)];erw[W.callWith_K (h₀:=X.base) I.ok.mod.kin M.kp (ZA (ha pos pins s u H _ I h) λL J ⟨D,G,c,r,q⟩=>⟨c.kIn,?_⟩) B n];exact kY M F v j hd g c r q
def Rf(M:Mk X.K C f)(F:Zo X.prog X.w X.K X.mg X.base CX k f fd ps sp)(j:YE (k+1) X.A)(g:Gl X x)(hm:X.mg x=some (.ref C))(i:XT X.K fd ps ds)(hd:ZG dvs ds)(c:Vn CX X E)
  (n:(x==("__debug__" : Str))=false:=by lia):PE X (.Call (.Name x p) [] [] pos) (kX C sp dvs E Vm):=by
 intro pins s u H Q I h;erw[wpAny_Call_Name_kw (Uu I g hm ?_ n)];exact W.callWith_K0 I.kIn M.kp (kY (us:=[]) M F j i hd c I .nil h)
end
def PK(X:Cx)(f:List Keyword)(t:TA):Prop :=
 ∀(c:Pos) (pins:Ow) (s:Shared) (σ:St) (H:Hp) (Q:List V->Hp->Prop),Zb X pins σ H s->t σ H Q->wpAny (model X.prog X.w) X.A (evalAll ((backToKw c (keywordEach f X.env)).map (·.2))) (AP X pins σ Q) X.xe s
section
variable{CX:WG}{k:Nat}{f C:Addr}{fd:OK}{ps ks:OD}{sp:Sp}{E:XK}{x m:Str}{p apos kpos:Pos}{e o:Expr}{es:OE}{kws:List Keyword}{te ta:TE}{t tk:TA}{nm:Option Str}
def kZ:PK X [] Vm:=λ_ _ _ _ H Q I h=>wpAny_evalAll_nil ⟨[],H,I,.nil,h⟩
def gA(ha:PE X e te)(B:PK X kws t):PK X (⟨nm,e,kpos⟩::kws) (Y8 te t):=by
 intro pos pins s c H Q I h;show wpAny _ _ (evalAll ((do let v <-eval e X.env;standAt pos;pure v)::(backToKw pos (keywordEach kws X.env)).map (·.2))) _ _ s;erw[wpAny_evalAll_cons (Sa (ZA (ha pins s c H _ I h) λu D ⟨x,i,G,r1,J⟩=>Sa (wpAny_standAt (Sb ?_))))];exact ZA (B pos pins D c i _ G J) λM s2 ⟨L,n,j,y,g⟩=>⟨x::L,n,j,.cons r1 y,g⟩
structure Zqz(K:Oy)(fd:OK)(ps ks:OD)(g:List Value->List Value->List Value)(gV:List V->List V->List V):Prop where
 to:∀(s:Shared) (us ws:OC),K.In s.heap->(g us ws).length=ps.length->BindsTo s fd ⟨us,ks.zip ws⟩ (ps.zip (g us ws))
 rel:∀{vs:List V} {us:OC} {zs:List V} {ws:OC},ZG vs us->ZG zs ws->ZG (gV vs zs) (g us ws)
variable{g:List Value->List Value->List Value}{gV:List V->List V->List V}
end
structure Zx(N P:OD)(sc:Scope):Prop where
 kind:sc.kind=.function
 co:sc.isCoroutine=false
 gen:sc.isGenerator=false
 nd:N.Nodup
 pre:N.take P.length=P
 par:∀x∈P,sc.names.lookup x=some .local\/sc.names.lookup x=some .cell
 nofree:∀y∈sc.names,y.2≠.free
theorem gB{kindOf:Str->Option NameKind}{x:Str}:∀{binds:List (Str×Value)} {m:Ox},(∀v,(x,v)∉binds)->bindL kindOf binds m x=m x
 |[],_,_=>rfl
 |(n,v)::r,m,h=>by
  unfold bindL;rw[gB λw c=>h w (SD _ c)];split;have:x≠n:=by rintro rfl;exact h v SE
  simp[this];rfl
theorem gC{kindOf:Str->Option NameKind}{x:Str}:∀{binds:List (Str×Value)} {m:Ox},(∀v,(x,v)∉binds)->bindC kindOf binds m x=m x
 |[],_,_=>rfl
 |(n,v)::r,m,h=>by
  unfold bindC;rw[gC λw c=>h w (SD _ c)];split;rfl;have:x≠n:=by rintro rfl;exact h v SE
  simp[this]
theorem gD{kindOf:Str->Option NameKind}{x:Str}{v:Value}:∀{P:OD} {vs:OC} {i:Nat} {m:Ox},P.Nodup->P[i]? = some x->vs[i]? = some v->kindOf x=some .local ->
  bindL kindOf (P.zip vs) m x=some v
 |[],_,_,_,_,h,_,_=>by simp at h
 |_::_,[],_,_,_,_,h,_=>by simp at h
 |p::P,w::vs,0,m,nd,h1,c,f=>by
  simp at h1 c;subst h1;subst c;show bindL kindOf ((p,w)::P.zip vs) m p=_;unfold bindL;rw[gB λv g=>(Om.mp nd).1 (List.of_mem_zip g).1,SW f];simp
 |p::P,w::vs,i+1,m,nd,h1,c,f=>by
  show bindL kindOf ((p,w)::P.zip vs) m x=_;unfold bindL;exact gD (i:=i) (Om.mp nd).2 (by simpa using h1) (by simpa using c) f
theorem gE{kindOf:Str->Option NameKind}{x:Str}{v:Value}:∀{P:OD} {vs:OC} {i:Nat} {m:Ox},P.Nodup->P[i]? = some x->vs[i]? = some v->kindOf x≠some .local ->
  bindC kindOf (P.zip vs) m x=some v
 |[],_,_,_,_,h,_,_=>by simp at h
 |_::_,[],_,_,_,_,h,_=>by simp at h
 |p::P,w::vs,0,m,nd,h1,c,f=>by
  simp at h1 c;subst h1;subst c;show bindC kindOf ((p,w)::P.zip vs) m p=_;unfold bindC;rw[gC λv g=>(Om.mp nd).1 (List.of_mem_zip g).1,SV f];simp
 |p::P,w::vs,i+1,m,nd,h1,c,f=>by
  show bindC kindOf ((p,w)::P.zip vs) m x=_;unfold bindC;exact gE (i:=i) (Om.mp nd).2 (by simpa using h1) (by simpa using c) f
def U0(N:OD)(vs:List V):St:=vs.map some++List.replicate (N.length - vs.length) none
def VR(CX:WG)(P:Program)(w:World)(K:Oy)(mg:Ox)(base:Heap)(N:OD)(qual:Str)(scope:Scope)(f:Addr)(c:Value)(A:Around)(outer:List Env)(s:Shared)(H:Hp)(E:XK):Cx where
 prog:=P
 w:=w
 K:=K
 mg:=mg
 base:=base
 A:=A.deeper (envOfC qual scope s.heap.objs.size f c)
 N:=N
 s₀:=s
 H₀:=H
 env:=envOfC qual scope s.heap.objs.size f c
 outer:=outer
 stack:=envOfC qual scope s.heap.objs.size f c::outer
 ex:=[]
 calm:=true
 fn:=λ_=>true
 pn:=[]
 xe:=λe h=>wpAny (model P w) (A.deeper (envOfC qual scope s.heap.objs.size f c)) (leaving (envOfC qual scope s.heap.objs.size f c) e) (λ_ g=>CX outer H s E e g) (λi g=>CX outer H s E i g) h
def gF{f:Scope}(h:f.names.lookup x=some .cell):∃c,(cellsFrom n f.names []).lookup x=some c:=by
 have q:=W.cellsFrom_some f.names n [] (.inl h);exact Option.isSome_iff_exists.mp q
def ZhJ{CX:WG}{N C:OD}{qual:Str}{f:Addr}{G:Value}{outer:List Env}{Q:Shared}{E:XK}{us:OC}{vs:List V}
  (S:Zx N C scope) (hd:A.handled=none) (j:Q2 P w K mg base A outer s H) (Z:vs.length=C.length) (r:ZG vs us)
  (x:InCallC s s.heap.objs.size (bindL (envOfC qual scope s.heap.objs.size f G).kindOf (C.zip us) λ_=>none) (cellsFrom (s.heap.objs.size+1) scope.names []) (bindC (envOfC qual scope s.heap.objs.size f G).kindOf (C.zip us) λ_=>none) Q) :
  Zb (VR CX P w K mg base N qual scope f G A outer s H E) [] (U0 N vs) H Q:=by
 have X:C.length<=N.length:=by have:=congrArg List.length S.pre;rw[Sx]at this;lia
 ext⟨I,tk,rfl,T⟩ x.done;have L:∀b:Addr,b∉(VR CX P w K mg base N qual scope f G A outer s H E).ex:=λb z=>Ot (show b∈([]:OI)from z) (by simp);refine⟨⟨j.mod,S.kind,R,R,Sg _,λy z c I g=>?_,λy B=>?_,λy c _ h=>?_,λ_=>hd,Around.frames_deeper j.frames,.inr ⟨R,R⟩,λb z=>Ot z (L b),j.bs,j.bsz,λb _ _=>L b,λb z=>Ot z (L b),j.funs,j.frf⟩,
  rfl,j.bare,Un.kept T,⟨_,x.toInCall.ns,λi y v I g Y=>?_⟩,λy c h=>⟨_,x.cell y c h⟩,j.hok.fresh (Sg _),λy c h=>?_,λp D=>Ot (show p∈([]:Ow)from D) (by simp),j.hok.kept T,?_⟩
 exact name_of_addr x.apart (PySem.mem_of_lookup I) (PySem.mem_of_lookup g);have B:scope.names.lookup y=some .cell\/scope.names.lookup y=some .free:=B;rcases B with B|B;exact gF B;exact Ot R (S.nofree _ (PySem.mem_of_lookup B));exact Nat.le_of_lt (x.above y c (PySem.mem_of_lookup h));have J:i<vs.length:=by
  unfold U0 at g;by_cases J:i<vs.length;exact J;rw[Oc (by simpa using J)]at g;rw[List.getElem?_replicate]at g;split at g<;>cases g
 have ha:vs[i]? = some v:=by
  unfold U0 at g;rw[List.getElem?_append_left (by simpa using J),Ob]at g;cases e:vs[i]? with
  |none=>rw[e]at g;cases g
  |some a=>rw[e]at g;cases g;rfl
 obtain⟨u,O,U⟩:=r.get ha;have D:C[i]? = some y:=by
  rwa[<-S.pre,List.getElem?_take_of_lt ()]
 have M:C.Nodup:=by rw[<-S.pre];exact S.nd.sublist (List.take_sublist _ _)
 erw[⟨u,U,?_⟩];rcases S.par y (SL D)with k|k;exact .inl ⟨k,gD M D O k⟩;obtain⟨c,e⟩:=gF (n:=s.heap.objs.size+1) k;erw[.inr ⟨.inl k,c,e,?_⟩];have q:=x.cell y c e;rw[gE M D O (by show scope.names.lookup y≠_;rw[k];lia)]at q;exact q;exact j.hok.fresh (Nat.le_of_lt (x.above y c (PySem.mem_of_lookup h)));unfold U0;show _=N.length;rw[Su,Sv,SA];lia
def gG{CX:WG}{k:Nat}{f:Addr}{name qual:Str}{params:Arguments}{body:List Stmt}{M kV U T g ct oc:Value}{G od:OG}
  {Y:OA} {N n:OD} {sp:Sp} (lk:K.lookup f=some ⟨oc,od,.func (W.fnOf name qual params body scope M kV U T G g ct),Y⟩) (Z:W.codeIn K g qual=true) (S:Zx N n scope)
  (len:∀vs H Q E,sp vs H Q E->vs.length=n.length)
  (c0:∀(A:Around) (outer:List Env) (s:Shared) (H:Hp) (vs:List V) (Q:VK) (E:XK),YE k (A.deeper (envOfC qual scope s.heap.objs.size f g))->sp vs H Q E ->
   ∃t,X1 (VR CX P w K mg base N qual scope f g A outer s H E) body t/\t {nx:=λ_ c=>Q .non c,rt:=Q} (U0 N vs) H) :
  Zo P w K mg base CX (k+1) f (W.fnOf name qual params body scope M kV U T G g ct) n sp:=by
 erw[⟨len,λA outer s H args us vs Q E D i hb r L=>?_⟩];have hl:=len _ _ _ _ L;have KX:K.In s.heap:=i.mod.kin.keeps λb o e=>(i.bs b o e).1;have f0:s.heap.NoLimit:=i.mod.nolimit.keeps λb o e=>(i.bs b o e).1;have b0:∀y∈n.zip us,scope.names.lookup y.1=some .local\/(scope.names.lookup y.1=some .cell/\((cellsFrom (s.heap.objs.size+1) scope.names []).lookup y.1).isSome=true):=λ⟨d0,v⟩ hy=>by
  rcases S.par d0 (List.of_mem_zip hy).1 with q|q;exact .inl q;exact .inr ⟨q,W.cellsFrom_some _ _ _ (.inl q)⟩
 erw[codeAny_call_function D.depth (KX _ _ lk) R S.co S.gen R (W.codeRec_of KX Z) (hb _ _ _ _ ?_)];erw[wpAny_newFunctionEnv_cells S.kind b0 λenv he O x=>?_];subst he;erw[⟨f0.keeps x.toInCall.keep,codeAny_func ?_⟩];obtain⟨t,ht,X⟩:=c0 A outer s H vs Q E (D.deeper _) L;have a0:Zb (VR CX P w K mg base N qual scope f g A outer s H E) [] (U0 N vs) H O:=ZhJ S D.hd i hl r x;erw[Os (ht [] O (U0 N vs) H _ a0 X) (λfl C h=>?_) λe C h=>h];have I:∀{j:St} {c:Hp} {v:V} {u:Value},Zb (VR CX P w K mg base N qual scope f g A outer s H E) [] j c C->ZP v u->Q v c->CE outer P w H s Q u C :=
  λ{j c v u} J B q=>⟨v,c,J.os,J.bare,J.base,J.hok,B,q⟩
 cases fl with
 |ret u =>
  ext⟨v,j,c,J,B,q⟩ h;exact I J B q
 |next =>
  ext⟨j,c,J,q⟩ h;exact I (v:=V.non) (u:=Value.none) J R q
 |brk =>
  ext⟨_,_,_,q⟩ h;exact False.elim q
 |cont =>
  ext⟨_,_,_,q⟩ h;exact False.elim q
section
variable{x:Str}{p:Pos}{e:Expr}{es:OE}{t:TA}{id T:String}{r:List V->Hp->VK->Prop}
def Rg(r:List V->Hp->VK->Prop)(t:TA):TE:=λg H Q=>t g H λc f=>r c f Q
def gH(D:Xk X (.builtin id) r)(i:Gl X x)(hm:X.mg x=none)(n:bootBuiltins x=some (.builtin id))(ha:PA X (e::es) t)(hn:x ≠ "__name__" := by lia) (y:(x==("__debug__" : Str))=false:=by lia)
  (E:starEach (e::es) X.env=(false,eval e X.env)::starEach es X.env:=by rfl) (j:(backTo pos (starEach es X.env)).any (·.1)=false:=by rfl):PE X (.Call (.Name x p) (e::es) [] pos) (Rg r t):=by
 intro pins s c H Q I h;erw[wpAny_Call_Name_kw (VN I i hm n ?_ hn y)];exact PyProof.Rows.callWith_builtin1 (ZA (ha pos pins s c H _ I h) λB u ⟨f,g,v,r1,C⟩=>D pins u c g f B Q v r1 C) E j
def Z1(D:Xk X (.type T) r)(i:Gl X x)(hm:X.mg x=none)(n:bootBuiltins x=some (.type T))(ha:PA X (e::es) t)(hn:x ≠ "__name__" := by lia) (y:(x==("__debug__" : Str))=false:=by lia)
  (E:starEach (e::es) X.env=(false,eval e X.env)::starEach es X.env:=by rfl) (j:(backTo pos (starEach es X.env)).any (·.1)=false:=by rfl):PE X (.Call (.Name x p) (e::es) [] pos) (Rg r t):=by
 intro pins s c H Q I h;erw[wpAny_Call_Name_kw (VN I i hm n ?_ hn y)];exact PyProof.Rows.callWith_type1 (ZA (ha pos pins s c H _ I h) λB u ⟨f,g,v,r1,C⟩=>D pins u c g f B Q v r1 C) E j
end
end L2
namespace HT
open PySem PyProof.Rows
section
open PySem.SeqAt
open PySem.AutoSeq1 (wpAny_loadPart')
open PySem.MeetsSeq PySem.MeetsSeq2 PySem.MeetsSeq3
end
def sIx(n d:Nat):Option Int->Nat
 |none=>d
 |some v=>if v<0 then (v+(n:Int)).toNat else min v.toNat n
def sIx_none(n d:Nat):sIx n d none=d:=rfl
def sIx_nat(n d k:Nat):sIx n d (some (k:Int))=min k n:=by
 show(if (k:Int)<0 then ((k:Int)+(n:Int)).toNat else min (k:Int).toNat n)=min k n;rw[if_neg (),Int.toNat_natCast]
end HT
namespace L2
open PySem PySem.Spec PyProof.Rows
abbrev TO:=St->Hp->(Option Int->Hp->Prop)->Prop
def PO(X:Cx)(e:Option Expr)(t:TO):Prop :=
 ∀(pins:Ow) (s:Shared) (σ:St) (H:Hp) (Q:Option Int->Hp->Prop),Zb X pins σ H s->t σ H Q ->
  wpAny (model X.prog X.w) X.A (evalPart e X.env) (λu f=>∃o c,Zb X pins σ c f/\IsPart u o/\Q o c) X.xe s
def ZhK:TO:=λ_ H Q=>Q none H
inductive ZhL(Q:Option Int->Hp->Prop)(x:V)(H1:Hp):Prop|mk i (_:x=.int i) (_:Q (some i) H1)
def ZhM(t:TE):TO:=λf H Q=>t f H λx c=>ZhL Q x c
section
variable{e:Expr}{te:TE}{lo hi:Option Expr}{tl th:TO}{p2:Pos}
def VS:PO X none ZhK:=by
 intro pins s c H Q I h;rw[evalPart_none];exact Sb ⟨none,H,I,.none,h⟩
def VB(h:PE X e te):PO X (some e) (ZhM te):=by
 intro pins s g H Q I c;rw[evalPart_some];erw[ZA (h pins s g H _ I c) λu v ⟨x,f,j,r1,n⟩=>?_];ext⟨i,rfl,q⟩ n;ext⟨t,rfl⟩ r1;exact⟨some i,f,j,.int i t,q⟩
def Rh(X:Cx)(r:V->Option Int->Option Int->Hp->VK->Prop):Prop :=
 ∀(pins:Ow) (s:Shared) (σ:St) (H:Hp) (x:V) (v vl vu:Value) (lo hi:Option Int) (sl:Addr) (Q:VK),Zb X pins σ H s->ZP x v->s.heap.IsSliceOf sl vl vu .none->IsPart vl lo->IsPart vu hi->r x lo hi H Q ->
  ∃T id,typeLookup (.type T) "__getitem__"=pure (some (.builtin id))/\s.TypeIs v T/\wpAny (model X.prog X.w) X.A (getItem v (.ref sl)) (EP X pins σ Q) X.xe s
def tSl(r:V->Option Int->Option Int->Hp->VK->Prop)(te:TE)(tl th:TO):TE:=λc H Q=>te c H λx f=>tl c f λl g=>th c g λu h=>r x l u h Q
def VT(Y:Rh X r)(D:PE X e te)(hl:PO X lo tl)(S:PO X hi th):PE X (.Subscript e (.Slice lo hi none p2) pos) (tSl r te tl th):=by
 intro pins s f a0 Q I h;erw[Subscript_ (ZA (D pins s f a0 _ I h) λv Z ⟨x,n,J,r1,C⟩=>?_)];erw[wpAny_Slice (ZA (hl pins Z f n _ J C) λi s2 ⟨l,U,y,T,L⟩=>ZA (S pins s2 f U _ y L) λg c ⟨u,j,M,G,H⟩=>?_)];rw[evalPart_none];erw[Sb ?_];have P:Zb X pins f j {c with heap:=c.heap.push {cls:=.type "slice",data:=.fields #[i,g,.none]} }:=M.kept (t':=c.toks) λb ob q=>Sc _ q;obtain⟨b0,id,E,B,O⟩:=Y pins {c with heap:=c.heap.push {cls:=.type "slice",data:=.fields #[i,g,.none]} } f j x v i g l u c.heap.objs.size Q P r1 (Heap.IsSliceOf.new ..) T G H;show wpAny (model X.prog X.w) X.A (subscriptTail e (.Slice lo hi none p2) v (.ref c.heap.objs.size)) (EP X pins f Q) X.xe {c with heap:=c.heap.push {cls:=.type "slice",data:=.fields #[i,g,.none]} };exact tail_any (ops:=[.ref c.heap.objs.size,v]) B E O (by with_unfolding_all rfl)
def Uy(xs:List V)(lo hi:Option Int):List V:=(xs.drop (HT.sIx xs.length 0 lo)).take (HT.sIx xs.length xs.length hi - HT.sIx xs.length 0 lo)
def ZhN(xs:List V)(lo hi:Option Int):(Uy xs lo hi).length<=xs.length:=by
 unfold Uy;rw[Sx,SB];lia
end
def E1(n:Nat)(i:Int):Option Nat:=if 0<=i then (if i<n then some i.toNat else none)else if -(n:Int)<=i then some (i+n).toNat else none
def YW{c:Type}(xs:List c)(i:Int):Option c:=(E1 xs.length i).bind λj=>xs[j]?
def ZhO(h:E1 n i=some j):seqIndex? i n=some j/\j<n/\-(n:Int)<=i/\i<n:=by
 unfold E1 at h;by_cases f:0<=i;rw[SW f]at h;by_cases c:i<n;rw[SW c]at h;have e:i.toNat=j:=So h;exact⟨by rw[seqIndex_of f c,e],(),(),c⟩;rw[SV c]at h;cases h;rw[SV f]at h;by_cases c:-(n:Int)<=i;rw[SW c]at h;have e:(i+n).toNat=j:=So h;exact⟨by rw[seqIndex_neg () c,e],(),c,()⟩;rw[SV c]at h;cases h
def Ri{c:Type}{xs:List c}{i:Int}{v:c}(h:YW xs i=some v):∃j,seqIndex? i xs.length=some j/\xs[j]? = some v/\j<xs.length/\-(xs.length:Int)<=i/\i<xs.length:=by
 unfold YW at h;cases e:E1 xs.length i with
 |none=>rw[e]at h;cases h
 |some j =>
  rw[e]at h;obtain⟨n,g,u,f⟩:=ZhO e;exact⟨j,n,h,g,u,f⟩
def Wt{c:Type}{xs:List c}{j:Nat}{v:c}(h:xs[j]? = some v):YW xs (j:Int)=some v:=by
 have f:j<xs.length:=(Sr.mp h).1;have e:E1 xs.length (j:Int)=some j:=by
  unfold E1;rw[SW (),SW ()];simp
 unfold YW;rwa[e]
def gJ(b:Expr):Prop:=∀o i,subscripted b false o i=operate [o,i] (getItem o i)
def XA(X:Cx)(r:R2):Prop :=
 ∀(value slice:Expr) (pins:Ow) (s:Shared) (σ:St) (H:Hp) (x y:V) (v u:Value) (Q:VK),Zb X pins σ H s->ZP x v->ZP y u->r x y H Q ->
  subscripted slice false v u=operate [v,u] (getItem v u)->wpAny (model X.prog X.w) X.A (subscriptTail value slice v u) (EP X pins σ Q) X.xe s
def Qs(X:Cx)(id:String)(r:V->List V->Hp->VK->Prop):Prop :=
 ∀(pins:Ow) (s:Shared) (σ:St) (H:Hp) (x:V) (xs:List V) (v:Value) (us:OC) (Q:VK),Zb X pins σ H s->ZP x v->ZG xs us->r x xs H Q ->
  wpAny (model X.prog X.w) X.A (call (.builtin id) (v::us)) (EP X pins σ Q) X.xe s
section
variable{a b:Expr}{ta tb:TE}
def ZhP(C:XA X r)(ha:PE X a ta)(g:PE X b tb)(j:gJ b):PE X (.Subscript a b pos) (D6 r ta tb):=by
 intro pins s n H Q I h;exact Subscript_ (P6 ha g I h λv u s2 x y i f c B q=>C a b pins s2 n i x y v u Q f c B q (j _ _))
inductive MS(K:Oy)(x:V)(y:V)(H:Hp)(Q:VK):Prop|mk p xs i v (_:x=.ref p) (_:y=.int i) (_:Zd K H p xs) (_:YW xs i=some v) (_:Q v H)
inductive WV(K:Oy)(x:V)(y:V)(H:Hp)(Q:VK):Prop|mk p xs i v (_:x=.ref p) (_:y=.int i) (_:Zg K H p xs) (_:YW xs i=some v) (_:Q v H)
inductive ZhQ(x:V)(y:V)(H:Hp)(Q:VK):Prop|mk z i c (_:x=.str z) (_:y=.int i) (_:z.length<=sizeLine) (_:YW z.cps.toList i=some c) (_:Q (.str ⟨#[c]⟩) H)
def Yf:XA X (MS X.K):=by
 intro value slice pins s u H x a0 v b0 Q I S J h B;ext⟨p,Z,i,z,rfl,rfl,E,G,q⟩ h;cases S;ext⟨t,rfl⟩ J;obtain⟨P,r,g,Y⟩:=I.list E;obtain⟨j,c,M,h3,L,D⟩:=Ri G;obtain⟨w,C,T⟩:=r.get M;have U:=r.length;have hn:=D7;have y:EP X pins u Q w s:=⟨z,H,I,T,q⟩;by_cases n:0<=i;have f:i.toNat=j:=by
  rw[seqIndex_of n D]at c;exact So c
 exact item_listR g.isList n () (by rw[f];simpa using C) y B;have f:(i+(P.toArray.size:Int)).toNat=j:=by
  rw[seqIndex_neg () L]at c;rw[SO,<-U];exact So c
 exact subscriptTail_builtinR (x:=w) g.isList.typeIs slot_list_getitem.lookup
  (wpAny_getItem_list_neg (Q:=λr O=>r=w/\EP X pins u Q r O) g.isList () (by rw[SO]<;>omega) () (by rw[f];simpa using C) ⟨R,y⟩) B
def ZH:XA X (WV X.K):=by
 intro value slice pins s c H x y v u Q I M D h C;ext⟨p,U,i,z,rfl,rfl,g,n,q⟩ h;cases M;ext⟨t,rfl⟩ D;obtain⟨Z,r,f,T⟩:=I.tuple g;obtain⟨j,J,E,h3,Y,S⟩:=Ri n;obtain⟨w,L,O⟩:=r.get E;have P:=r.length;have hn:=D7;have B:EP X pins c Q w s:=⟨z,H,I,O,q⟩;exact subscriptTail_builtinR (x:=w) f.typeIs slot_tuple_getitem.lookup
  (getItem_tuple (j:=j) (Q:=λr G=>r=w/\EP X pins c Q r G) f () () (by rwa[SO,<-P]) (by simpa using L) ⟨R,B⟩) C
def K6:XA X ZhQ:=by
 intro value slice pins s O H x y v u Q I L E h D;ext⟨z,i,c,rfl,rfl,P,n,q⟩ h;ext⟨t,rfl⟩ L;ext⟨S,rfl⟩ E;obtain⟨j,f,J,T,G,g⟩:=Ri n;have M:z.cps.toList.length=z.length:=by simp[Str.length]
 rw[M]at f G g;have hn:=D7;exact tail_any (typeIs_str s z t) slot_str_getitem.lookup (getItem_str (c:=c) (by
  have B:decide (i < -(2 ^ 63:Int))=false:=SS ();have C:decide (i ≥ 2 ^ 63)=false:=SS ();rw[B,C,Bool.or_false]) (by rw[f];simpa using J) ⟨.str ⟨#[c]⟩,H,I.tok _,⟨_,R⟩,q⟩) D
def ZhR(lo hi:Option Int)(n:Nat):(sliceBounds lo hi none n).1=((HT.sIx n 0 lo:Nat):Int)/\(sliceBounds lo hi none n).2.1=((HT.sIx n n hi:Nat):Int)/\(sliceBounds lo hi none n).2.2=1:=by
 erw[⟨?_,?_,R⟩];cases lo with
 |none=>simp[sliceBounds,HT.sIx]
 |some i =>
  simp only[sliceBounds,HT.sIx,Option.getD_none,show(1:Int)>0 by lia,if_true];by_cases h:i<0;simp only[h,if_true]<;>omega
  simp only[h,if_false]<;>omega
 cases hi with
 |none=>simp[sliceBounds,HT.sIx]
 |some i =>
  simp only[sliceBounds,HT.sIx,Option.getD_none,show(1:Int)>0 by lia,if_true];by_cases h:i<0;simp only[h,if_true]<;>omega
  simp only[h,if_false]<;>omega
def ZhS(c:OC)(lo hi:Option Int):slicePick c.toArray lo hi none=((c.drop (HT.sIx c.length 0 lo)).take (HT.sIx c.length c.length hi - HT.sIx c.length 0 lo)).toArray:=by
 obtain⟨f,h,g⟩:=ZhR lo hi c.toArray.size;unfold slicePick;rw[f,h,g];simp only[sliceRange_one,pick_run,SO]<;>rfl
inductive ZhT(K:Oy)(x:V)(lo:Option Int)(hi:Option Int)(H:Hp)(Q:VK):Prop|mk a xs (_:x=.ref a) (_:Zd K H a xs) (_:∀p,H p=none->Q (.ref p) (upd H p (.lst (Uy xs lo hi))))
def gK:Rh X (ZhT X.K):=by
 intro pins s C H x v G D lo f J Q I B j y n h;ext⟨a,c,rfl,i,q⟩ h;cases B;obtain⟨E,r,g,u⟩:=I.list i;have hlen:=r.length;erw[⟨"list",_,slot_list_getitem.lookup,g.isList.typeIs,?_⟩];erw[wpAny_getItem_list_slice g.isList j y n .none (by simp) ?_ (by rw[SO]<;>omega)];rw[ZhS,<-hlen];erw[⟨.ref s.heap.objs.size,_,I.laid (t':=s.toks) (o:=.lst (Uy c lo f)) (λb ob q=>Sc _ q) (Sg _) ?_,R,q _ (I.hok.fresh (Sg _))⟩];exact⟨Sh (ZhN c lo f) u,_,0,(r.drop (HT.sIx c.length 0 lo)).take (HT.sIx c.length c.length f - HT.sIx c.length 0 lo),Sd _ R⟩
def WW:V->Bool
 |.non=>true
 |.bl _=>true
 |.int _=>true
 |.str _=>true
 |_=>false
def XU:V->V->Bool
 |.non,.non=>true
 |.bl a,.bl b=>a==b
 |.bl a,.int b=>(if a then 1 else 0)==b
 |.int a,.bl b=>a==(if b then 1 else 0)
 |.int a,.int b=>a==b
 |.str a,.str b=>a==b
 |_,_=>false
def gL(h:ZP y u)(c:ZP x v)(i:WW y=true)(g:WW x=true):SeqAt.EqAt A s u v (XU y x):=by
 cases y with
 |non =>
  cases h;cases x with
  |non=>cases c;exact SeqAt.EqAt.same _
  |bl b=>cases c;exact SeqAt.EqAt.none_bool b
  |int b=>ext⟨t,rfl⟩ c;exact SeqAt.EqAt.none_int b t
  |str b=>ext⟨t,rfl⟩ c;exact SeqAt.EqAt.none_str b t
  |_=>exact Ot (show false=true from g) SQ
 |bl a =>
  cases h;cases x with
  |non=>cases c;exact SeqAt.EqAt.bool_none a
  |bl b=>cases c;exact SeqAt.EqAt.bool_bool a b
  |int b=>ext⟨t,rfl⟩ c;exact SeqAt.EqAt.bool_int a b t
  |str b=>ext⟨t,rfl⟩ c;exact SeqAt.EqAt.bool_str a b t
  |_=>exact Ot (show false=true from g) SQ
 |int a =>
  ext⟨f,rfl⟩ h;cases x with
  |non=>cases c;exact SeqAt.EqAt.int_none a f
  |bl b=>cases c;exact SeqAt.EqAt.int_bool a f b
  |int b=>ext⟨t,rfl⟩ c;exact SeqAt.EqAt.int_int a f b t
  |str b=>ext⟨t,rfl⟩ c;exact SeqAt.EqAt.int_str a f b t
  |_=>exact Ot (show false=true from g) SQ
 |str a =>
  ext⟨f,rfl⟩ h;cases x with
  |non=>cases c;exact SeqAt.EqAt.str_none a f
  |bl b=>cases c;exact SeqAt.EqAt.str_bool a f b
  |int b=>ext⟨t,rfl⟩ c;exact SeqAt.EqAt.str_int a f b t
  |str b=>ext⟨t,rfl⟩ c;exact SeqAt.EqAt.str_str a f b t
  |_=>exact Ot (show false=true from g) SQ
 |_=>exact Ot (show false=true from i) SQ
def WX(x:V)(u:Value):Bool:=match u with
 |.none=>XU .non x
 |.bool b=>XU (.bl b) x
 |.int i _=>XU (.int i) x
 |.str z _=>XU (.str z) x
 |_=>false
def gM(r:ZP y u)(f:WW y=true):WX x u=XU y x:=by
 cases y with
 |non=>cases r;rfl
 |bl b=>cases r;rfl
 |int i=>ext⟨t,rfl⟩ r;rfl
 |str z=>ext⟨t,rfl⟩ r;rfl
 |_=>exact Ot (show false=true from f) SQ
theorem K7:∀{xs:List V} {us:OC},ZG xs us->xs.all WW=true->us.any (WX x)=xs.any λy=>XU y x
 |_,_,.nil,_=>rfl
 |y::xs,u::us,.cons r t,f=>by
  rw[List.all_cons,Bool.and_eq_true]at f;rw[List.any_cons,List.any_cons,gM r f.1,K7 t f.2]
theorem K8(g:ZP x v)(h:WW x=true):∀{xs:List V} {us:OC},ZG xs us->xs.all WW=true->∀u∈us,SeqAt.EqAt A s u v (WX x u)
 |_,_,.nil,_=>λu c=>by cases c
 |y::xs,u::us,.cons r t,f=>λi c=>by
  rw[List.all_cons,Bool.and_eq_true]at f;rcases SG.mp c with rfl|c;rw[gM r f.1];exact gL r g f.1 h;exact K8 g h t f.2 i c
def VU(x:V)(xs:List V):Bool:=xs.any λy=>XU y x
inductive gN(K:Oy)(neg:Bool)(x:V)(y:V)(H:Hp)(Q:VK):Prop|mk p xs (_:y=.ref p) (_:(Zd K H p xs\/Zg K H p xs)) (_:WW x=true) (_:xs.all WW=true) (_:Q (.bl (if neg then !VU x xs else VU x xs)) H)
def E3:YD X (compareOp .In) (gN X.K false):=by
 intro pins s D H x y v u Q I j B h;ext⟨p,E,rfl,c,n,fs,q⟩ h;cases B;rcases c with c|c;obtain⟨f,r,i,C⟩:=I.list c;erw[SeqAt.in_listAt (WX x) i.isList (λw g=>K8 j n r fs w (by simpa using g)) ⟨.bl _,H,I,R,?_⟩];rwa[show f.toArray.any (WX x)=f.any (WX x) by simp,K7 r fs];obtain⟨f,r,i,C⟩:=I.tuple c;erw[SeqAt.in_tupleAt (WX x) i (λw g=>K8 j n r fs w (by simpa using g)) ⟨.bl _,H,I,R,?_⟩];rwa[show f.toArray.any (WX x)=f.any (WX x) by simp,K7 r fs]
def ZhU:YD X (compareOp .NotIn) (gN X.K true):=by
 intro pins s D H x y v u Q I j B h;ext⟨p,E,rfl,c,n,fs,q⟩ h;cases B;rcases c with c|c;obtain⟨f,r,i,C⟩:=I.list c;erw[SeqAt.notIn_listAt (WX x) i.isList (λw g=>K8 j n r fs w (by simpa using g)) ⟨.bl _,H,I,R,?_⟩];rwa[show f.toArray.any (WX x)=f.any (WX x) by simp,K7 r fs];obtain⟨f,r,i,C⟩:=I.tuple c;erw[SeqAt.notIn_tupleAt (WX x) i (λw g=>K8 j n r fs w (by simpa using g)) ⟨.bl _,H,I,R,?_⟩];rwa[show f.toArray.any (WX x)=f.any (WX x) by simp,K7 r fs]
def WY:Xk X (.builtin "len") (λxs H Q=>∃p c,xs=[.ref p]/\(Zd X.K H p c\/Zg X.K H p c)/\Q (.int c.length) H):=by
 intro pins s x H xs y Q I r h;ext⟨p,c,rfl,f,q⟩ h;obtain⟨u,rfl,j⟩:=Xm r;cases j;have hn:=D7;rcases f with f|f;obtain⟨n,i,g,v⟩:=I.list f;have hlen:=i.length;exact Calls.call_len_list g.isList (by simp only[SO]<;>omega) ⟨.int c.length,H,I.tok _,⟨s.toks+1,by rw[SO,hlen]⟩,q⟩;obtain⟨n,i,g,v⟩:=I.tuple f;have hlen:=i.length;exact len_tuple g (by simp only[SO]<;>omega) ⟨.int c.length,H,I.tok _,⟨s.toks+1,by rw[SO,hlen]⟩,q⟩
def La:Xk X (.builtin "len") (λxs H Q=>∃z,xs=[.str z]/\z.length<=sizeLine/\Q (.int z.length) H):=by
 intro pins s c H xs f Q I r h;ext⟨z,rfl,g,q⟩ h;obtain⟨u,rfl,t,rfl⟩:=Xm r;have hn:=D7;exact len_str () ⟨.int z.length,H,I.tok _,⟨_,R⟩,q⟩
def Uz:Xk X (.type "list") (λxs H Q=>∃p g,xs=[.ref p]/\(Zd X.K H p g\/Zg X.K H p g)/\∀l,H l=none->Q (.ref l) (upd H l (.lst g))):=by
 intro pins s G H xs L Q I r h;ext⟨p,g,rfl,v,q⟩ h;obtain⟨u,rfl,J⟩:=Xm r;cases J;have D:∀(f:OC),ZG g f->g.length<=sizeLine->∀(c:Heap) (j:Nat),(∀b E,s.heap.get? b=some E->c.get? b=some E) ->
   c.get? s.heap.objs.size=some {cls:=.type "list",dict:=none,data:=.seq f.toArray j,slots:=#[]}->EP X pins G Q (.ref s.heap.objs.size) {s with heap:=c}:=λf i x c j kp e =>
  ⟨.ref s.heap.objs.size,_,I.laid (t':=s.toks) kp (Sg _) (show Yq X.prog X.w _ c _ (.lst g)from⟨x,f,j,i,e⟩),R,q _ (I.hok.fresh (Sg _))⟩
 rcases v with v|v;obtain⟨f,i,B,x⟩:=I.list v;have hlen:=i.length;ext⟨o,C,y,n,hd⟩ B.isList;exact call_list_seq p (.inl R) C y hd (λc j kp e=>D f i x c j kp e) (by simp only[SO]<;>omega);obtain⟨f,i,B,x⟩:=I.tuple v;have hlen:=i.length;ext⟨o,C,y,n,hd⟩ B;exact call_list_seq p (.inr R) C y hd (λc j kp e=>D f i x c j kp e) (by simp only[SO]<;>omega)
def Lb:Xk X (.type "tuple") (λxs H Q=>∃p c,xs=[.ref p]/\((Zd X.K H p c/\∀l,H l=none->Q (.ref l) (upd H l (.tup c)))\/(Zg X.K H p c/\Q (.ref p) H))):=by
 intro pins s v H xs D Q I r h;ext⟨p,c,rfl,h⟩ h;obtain⟨u,rfl,B⟩:=Xm r;cases B;rcases h with⟨g,q⟩|⟨g,q⟩;obtain⟨j,n,i,y⟩:=I.list g;have hlen:=n.length;erw[call_tuple_list i.isList (λf kp=>?_) (by simp only[SO]<;>omega)];have x:Zb X pins v H {s with heap:=f}:=I.kept (t':=s.toks) kp;have C:Zb X pins v (upd H f.objs.size (.tup c)) {s with heap:=f.push {cls:=.type "tuple",data:=.seq j.toArray} } :=
  x.laid (t':=s.toks) (λb o e=>Sc _ e) (Sg _) (show Yq X.prog X.w _ _ _ (.tup c)from⟨y,j,n,IsTup.new _ _⟩)
 exact⟨.ref f.objs.size,_,C,R,q _ (x.hok.fresh (Sg _))⟩;obtain⟨j,n,i,y⟩:=I.tuple g;exact call_tuple_same i ⟨.ref p,H,I,R,q⟩
def Rj(K:Oy)(T:String)(x:V)(H:Hp):Prop:=match x with
 |.str _=>T="str"
 |.int _=>T="int"
 |.ref p=>(T="list" /\ ∃f,Zd K H p f)\/(T="tuple" /\ ∃o,K.lookup p=some o/\o.cls=.type "tuple" /\ o.dict=none) \/
   (T="dict" /\ ((∃c,H p=some (.dK c))\/∃c,H p=some (.dT c)))\/(T="set" /\ ∃S n,H p=some (.set S n))
 |_=>False
def gO(I:Zb X pins u H s)(r:ZP x v)(ty:Rj X.K T x H) :
  s.TypeIs v T/\∀a,v=.ref a->∃ob,s.heap.get? a=some ob/\ob.dict=none:=by
 cases x with
 |str z =>
  ext⟨t,rfl⟩ r;cases (show T="str" from ty);exact⟨typeIs_str s z t,λ_ e=>nomatch e⟩
 |int i =>
  ext⟨t,rfl⟩ r;cases (show T="int" from ty);exact⟨typeIs_int s i t,λ_ e=>nomatch e⟩
 |ref p =>
  cases r;rcases ty with⟨rfl,D,j⟩|⟨rfl,o,f,B,hd⟩|⟨rfl,f⟩|⟨rfl,S,n,f⟩;obtain⟨C,_,h,_⟩:=I.list j;erw[⟨h.isList.typeIs,λa e=>?_⟩];cases e;ext⟨o,n,e,c,hd,_⟩ h;exact⟨o,e,hd⟩;erw[⟨⟨o,I.kIn p o f,B⟩,λa e=>?_⟩];cases e;exact⟨o,I.kIn _ o f,hd⟩;have z:∃o,s.heap.get? p=some o/\o.ExactDict:=by
   rcases f with⟨y,f⟩|⟨y,f⟩;obtain⟨_,_,_,_,o,_,_,e,ex,_⟩:=I.hok p _ f;exact⟨o,e,ex⟩;obtain⟨_,_,_,_,o,_,_,e,ex,_⟩:=I.hok p _ f;exact⟨o,e,ex⟩
  ext⟨o,e,ex⟩ z;erw[⟨⟨o,e,ex.1⟩,λa g=>?_⟩];cases g;exact⟨o,e,ex.2.1⟩;obtain⟨o,_,_,_,e,ex,_⟩:=I.hok p _ f;erw[⟨⟨o,e,ex.1⟩,λa g=>?_⟩];cases g;exact⟨o,e,ex.2.1⟩
 |_=>exact False.elim ty
def ZhV(K:Oy)(T:String)(r:V->List V->Hp->VK->Prop)(to:TE):TE:=λf H Q=>to f H λx c=>Rj K T x c/\r x [] c Q
def tBM(K:Oy)(T:String)(r:V->List V->Hp->VK->Prop)(to:TE)(t:TA):TE:=λf H Q=>to f H λx c=>Rj K T x c/\t f c λh g=>r x h g Q
variable{o e:Expr}{es:OE}{to:TE}{t:TA}{name:Str}{apos cpos:Pos}{T id:String}{r:V->List V->Hp->VK->Prop}
def MT(E:PlainAttrs T)(slot:Slot T name id)(i:typeOf (.builtin id)=pure (.type "method_descriptor")) (hm:Qs X id r) (B:PE X o to)
  (D:attributeBase o name X.env (eval o X.env)=eval o X.env:=by rfl) (g:(apos.endLine==cpos.line)=true:=by rfl):PE X (.Call (.Attribute o name apos) [] [] cpos) (ZhV X.K T r to):=by
 intro pins s c H Q I h;erw[wpAny_Call_method0_late D g (ZA (B pins s c H _ I h) λv y ⟨x,n,f,r1,ty,C⟩=>?_)];obtain⟨u,j⟩:=gO f r1 ty;exact⟨T,id,E,slot,i,u,j,Calls.callWith_builtin R (PySem.evalArgs_none (hm pins y c n x [] v [] Q f r1 .nil C))⟩
def YQ(Z:PlainAttrs T)(slot:Slot T name id)(J:typeOf (.builtin id)=pure (.type "method_descriptor")) (hm:Qs X id r) (O:PE X o to) (ha:PA X (e::es) t)
  (P:attributeBase o name X.env (eval o X.env)=eval o X.env:=by rfl)
  (y:((backTo cpos (starEach (e::es) X.env)).all (λx=>!x.1) && (backToKw cpos (keywordEach [] X.env)).all (λx=>x.1.isSome)
   && decide ((e::es).length+([]:List Keyword).length+(if ([]:List Keyword).isEmpty then 0 else 1)<30))=true:=by rfl)
  (S:(apos.endLine==cpos.line)=true:=by rfl) (C:starEach (e::es) X.env=(false,eval e X.env)::starEach es X.env:=by rfl) (B:(backTo cpos (starEach es X.env)).any (·.1)=false:=by rfl) :
  PE X (.Call (.Attribute o name apos) (e::es) [] cpos) (tBM X.K T r to t):=by
 intro pins s c H Q I h;erw[wpAny_Call_method_late P y S R (ZA (O pins s c H _ I h) λv Y ⟨x,i,g,r1,ty,u⟩=>?_)];obtain⟨L,G⟩:=gO g r1 ty;erw[⟨T,id,Z,slot,J,L,G,?_⟩];have f:=ha cpos pins Y c i _ g u;rw[C]at f ⊢;erw[Calls.callWith_builtin (by show(false || (backTo cpos (starEach es X.env)).any (·.1))=false;rw[B]<;>rfl) (Calls.evalArgs_plain ?_)];exact ZA f λn s2 ⟨E,U,j,M,D⟩=>hm pins s2 c U x E v n Q j r1 M D
end
def Rk(X:Cx)(id:String)(r:V->List V->Hp->VK->Prop):Prop :=
 ∀(pins:Ow) (s:Shared) (σ:St) (H:Hp) (x:V) (xs:List V) (v:Value) (us:OC) (Q:VK),Zb X pins σ H s->ZP x v->ZG xs us->r x xs H Q ->
  wpAny (model X.prog X.w) X.A (call (.builtin id) (v::us)) (EP X pins σ Q) X.xe s
theorem ZG.one:∀{x:V} {us:OC},ZG [x] us->∃u,us=[u]/\ZP x u
 |_,_,.cons r .nil=>⟨_,R,r⟩
theorem ZG.zero:∀{us:OC},ZG [] us->us=[]
 |_,.nil=>rfl
def ZG.dropLast{xs:List V}{us:OC}(h:ZG xs us):ZG xs.dropLast us.dropLast:=by
 induction h with
 |nil=>exact .nil
 |cons r t c =>
  cases t with
  |nil=>exact .nil
  |cons q f=>exact .cons r c
def ZhW{f:Type}(l:List f):l.eraseIdx (l.length - 1)=l.dropLast:=by
 induction l with
 |nil=>rfl
 |cons a r c =>
  cases r with
  |nil=>rfl
  |cons b r =>
   have e:(a::b::r).length - 1=((b::r).length - 1)+1:=by
    have g:(a::b::r).length=r.length+2:=rfl;have h:(b::r).length=r.length+1:=rfl;lia
   rw[e,List.eraseIdx_cons_succ,c]
   all_goals rfl
section
variable{σ:St}{l b:Addr}{xs ys zs:List V}
def Zb.lset{c its':OC}(I:Zb X pins σ H s)(v:H l=some (.lst xs))
  (e:s.heap.get? l=some {cls:=.type "list",data:=.seq c.toArray n}) (g:f c.toArray=its'.toArray) (j:ZG ys its') (y:ys.length<=sizeLine) :
  Zb X pins σ (upd H l (.lst ys)) {s with heap:=s.heap.update l (Obj.mapSeq f),toks:=t'}:=by
 have q:=PySem.IsL.update e f;rw[g]at q;erw[I.write (x:=l) (e:=l) (by rw[v];exact trivial) (.inl R) (λB u h i=>(Heap.get?_update_other s.heap (Obj.mapSeq f) (Ne.symm h)).trans i) ⟨_,q⟩ ?_];exact⟨y,its',_,j,q⟩
def Zb.lnew{c:OC}(I:Zb X pins σ H s)(f:ZG ys c)(hz:ys.length<=sizeLine) :
  Zb X pins σ (upd H s.heap.objs.size (.lst ys)) {s with heap:=s.heap.push {cls:=.type "list",data:=.seq c.toArray},toks:=t'} :=
 I.laid (λ_ _ q=>Sc _ q) (Sg _) ⟨hz,c,0,f,Sd _ R⟩
def Zb.fresh(I:Zb X pins σ H s):H s.heap.objs.size=none:=I.hok.fresh (Sg _)
def Zb.lstM(I:Zb X pins σ H s)(f:H l=some (.lst xs)):xs.length<=sizeLine/\∃(c:OC) (n:Nat),ZG xs c/\xs.length=c.length/\s.heap.get? l=some {cls:=.type "list",data:=.seq c.toArray n}:=by
 obtain⟨z,c,n,r,e⟩:=I.hok l _ f;exact⟨z,c,n,r,r.length,e⟩
def ZhX(h:n<=sizeLine):Builtin.List.listTooLong n=false:=by
 unfold Builtin.List.listTooLong;exact SS ()
end
inductive ZhY(x:V)(vs:List V)(H:Hp)(Q:VK):Prop|mk l xs y (_:x=.ref l) (_:vs=[y]) (_:H l=some (.lst xs)) (_:xs.length<sizeLine) (_:Q .non (upd H l (.lst (xs++[y]))))
def Lc:Rk X "list.append" ZhY:=by
 intro pins s j H x E v B Q I i g h;ext⟨l,D,y,rfl,rfl,c,C,q⟩ h;cases i;ext⟨u,rfl,ru⟩ g.one;obtain⟨z,f,n,r,G,e⟩:=I.lstM c;erw[call_meets F.slot_list_append ⟨_,e,R⟩ F.entry_list_append (F.args_list_append_2 _ _) (PySem.list_append l f.toArray n u (by rw[SO];lia)) ⟨e,?_⟩];erw[⟨.non,_,I.lset (its':=f++[u]) c e (by simp) (r.append (.cons ru .nil)) ?_,R,q⟩];rw[Su,Sw];lia
inductive gP(x:V)(vs:List V)(H:Hp)(Q:VK):Prop|mk l b xs zs (_:x=.ref l) (_:vs=[.ref b]) (_:H l=some (.lst xs)) (_:H b=some (.lst zs)) (_:xs.length+zs.length<=sizeLine) (_:Q .non (upd H l (.lst (xs++zs))))
def Ld:Rk X "list.extend" gP:=by
 intro pins s J H x P v L Q I G C h;ext⟨l,b,O,zs,rfl,rfl,g,D,M,q⟩ h;cases G;ext⟨u,rfl,ru⟩ C.one;cases ru;obtain⟨z,c,n,r,U,e⟩:=I.lstM g;obtain⟨S,f,i,E,T,B⟩:=I.lstM D;have y:c.toArray.size+f.toArray.size<=sizeLine:=by rw[SO,SO];lia
 have j:¬ (!c.toArray.isEmpty && Builtin.List.listTooLong (c.toArray.size+f.toArray.size))=true:=by
  rw[ZhX y,Bool.and_false];exact SQ
 refine call_meets F.slot_list_extend ⟨_,e,R⟩ F.entry_list_extend (F.args_list_extend_2 _ _)
  (AutoSeq1.list_extend_list_list_0 l c.toArray n b f.toArray i j (by rw[SO];lia) ()) ⟨e,B,?_⟩
 erw[⟨.non,_,I.lset (its':=c++f) g e (by simp) (r.append E) ?_,R,q⟩];rw[Su];lia
inductive ZhZ(x:V)(vs:List V)(H:Hp)(Q:VK):Prop|mk l xs y (_:x=.ref l) (_:vs=[]) (_:H l=some (.lst xs)) (_:xs[xs.length - 1]? = some y) (_:Q y (upd H l (.lst xs.dropLast)))
def Zh0:Rk X "list.pop" ZhZ:=by
 intro pins s G H x M v J Q I D j h;ext⟨l,L,y,rfl,rfl,f,g,q⟩ h;cases D;have B:=j.zero;subst B;obtain⟨z,c,n,r,E,e⟩:=I.lstM f;obtain⟨u,C,ru⟩:=r.get g;have i:c.toArray[c.toArray.size - 1]? = some u:=by
  show c.toArray[c.length - 1]? = some u;rwa[<-Array.getElem?_toList,<-E]
 erw[call_meets F.slot_list_pop ⟨_,e,R⟩ F.entry_list_pop (F.args_list_pop_1 _) (MeetsSeq.list_pop_last l c.toArray n u i (by rw[SO];lia)) ⟨e,?_⟩];erw[⟨y,_,I.lset (its':=c.dropLast) f e ?_ r.dropLast ?_,ru,q⟩];show c.toArray.eraseIdxIfInBounds (c.toArray.size - 1)=c.dropLast.toArray;rw[SO,List.eraseIdxIfInBounds_toArray,ZhW];rw[List.length_dropLast];lia
inductive Zh1(x:V)(y:V)(H:Hp)(Q:VK):Prop|mk l b xs zs (_:x=.ref l) (_:y=.ref b) (_:H l=some (.lst xs)) (_:H b=some (.lst zs)) (_:xs.length+zs.length<=sizeLine) (_:∀p,H p=none->Q (.ref p) (upd H p (.lst (xs++zs))))
def Ub:YD X (binaryOp .Add) Zh1:=by
 intro pins s J H x y v u Q I E j h;ext⟨l,b,M,zs,rfl,rfl,g,B,L,q⟩ h;cases E;cases j;obtain⟨z,f,n,r,T,e⟩:=I.lstM g;obtain⟨O,c,G,C,S,i⟩:=I.lstM B;erw[PySem.P.add_list e i ?_ (by rw[SO,SO];lia)];have D:f.toArray++c.toArray=(f++c).toArray:=by simp
 rw[D];exact⟨.ref _,_,I.lnew (t':=s.toks) (r.append C) (by rw[Su];lia),R,q _ I.fresh⟩
section
set_option maxRecDepth 100000 in
end
end L2
namespace Att
open PySem PySem.W PySem.Calls PyProof.Rows
def Zh2{P:Params}:∀(ns:List Int) (vs:List Value),WellAll P h vs (ns.map WData.int)->IntsAre vs ns:=by
 intro ns;induction ns with
 |nil =>
  intro vs w;rw[List.map_nil]at w;cases w;exact .nil
 |cons n ns c =>
  intro vs w;rw[List.map_cons]at w;cases w with
  |cons a b =>
   cases a;exact .cons _ _ (c _ b)
def Zh3{l:OpenLaw}(hn:l.most=some n){P:Params}{h:Heap}{args:List WData}{vals:List Value}
  (g:l.row.toRowW.claim.pre args=true) (j:WellAll P h vals args) :
  ∃a vs ns,vals=[Value.ref a]/\args=[WData.list (ns.map WData.int)]/\h.get? a=some {cls:=.type "list",data:=.seq vs.toArray}/\IntsAre vs ns/\ns.length<=n:=by
 have x:WShape.hasAll [] args [.list .int]=true:=(pre_splitW g).1;have i:l.pre.holds [] {args:=args} = true:=(pre_splitW g).2;obtain⟨d,r,rfl,y,u⟩:=hasAllW_cons x;obtain rfl:=hasAllW_nil u;obtain⟨H,rfl,D⟩:=hasW_list y;obtain⟨ns,rfl⟩:=items_int D;have hlen:ns.length<=n:=by
  unfold OpenLaw.pre at i;have f:(WTm.not (.lt (.lit (.int (n:Int))) (.len (.arg 0)))).holds [] {args:=[.list (ns.map .int)]} = true:=by
   have f:=(holds_andW i).1;rw[hn]at f;exact f
  have c:=condW_of f (w_not (w_lt w_lit (w_len_list (w_arg rfl))));rw[List.length_map]at c;erw[Nat.le_of_not_lt λq=>?_];have C:(n:Int)<((ns.length:Nat):Int):=by lia
  first
   |(rw[decide_eq_true C]at c;exact absurd c ())
   |(simp at c;lia)
 cases j with
 |cons G E =>
  cases E;cases G with
  |list B v=>exact⟨_,_,ns,rfl,rfl,B,Zh2 ns _ v,hlen⟩
def Zh4(l:OpenLaw)(args:List WData):l.row.toRowW.claim.post args (.bool true) args=true :=
 postW_of (r:=l.row.toRowW) (X:=(true==true))
  (show WShape.has [] (.bool true) .bool=true by first|rfl|decide|simp[WShape.has,WShape.arms,WShape.armsAll])
  (show(WTm.eq .res (.lit (.bool true))).value [] {args:=args,res:=some (.bool true),after:=args} = some (.bool (true==true))from w_eq_bool (w_res rfl) w_lit) rfl
def attach_call{l:OpenLaw}{loose:List Str}{d:DefRec}
  (hn:l.most=some n) (E:d.params.defaults=[])
  (call:∀(w:World) (s₀ c:Shared) (mg j:Str->Option Value) (g:Addr) (o:Obj) (v h u:Value) (a:Addr) (vs:List Value) (ns:List Int),
   Ground q loose [] B w s₀ mg j c.heap->x w c.heap ->
   c.heap.get? g=some o->o.data=.func (docDef d.name d.params d.body d.scope v h u)->c.heap.CodeRec h d.name->mg d.name=some (.ref g) ->
   c.heap.get? a=some {cls:=.type "list",data:=.seq vs.toArray}->IntsAre vs ns->ns.length<=n->c.gens=#[] ->
   codeAny (model l.prog w) callerA (.call (.ref g) ⟨[.ref a],[]⟩) (λr i=>r=.ok (.ret (.bool true))/\OldK c.heap i.heap/\i.os=c.os/\AllBare i.gens) c) :
  WalkO q loose B x l.row.toRowW d [] (λf vs=>PySem.call f vs):=by
 intro w s₀ c mg j G Y g o v h u S kV O hd D y P L args vals U I a0 X Q Z;obtain rfl:S=.none:=Dflts.none y E;obtain rfl:kV=.none:=Dflts.noKw y;obtain⟨a,vs,ns,rfl,rfl,H,hints,hlen⟩:=Zh3 hn I Q;erw[enter_call (codeAny_mono (call w s₀ c mg j g o v h u a vs ns G Y O (fd_plain hd) D P H hints hlen L) λr i C=>?_)];ext⟨rfl,M,T,J⟩ C;exact⟨.inl ⟨.bool true,.bool true,[],rfl,λ_=>rfl,.bool true,Zh4 l _,λ_=>⟨List.Pairwise.nil,()⟩⟩,M,T,J⟩
end Att
namespace L2
open PySem PySem.Spec PyProof.Rows
theorem gQ:∀{vs:OC} {ns:OF},IntsAre vs ns->ZG (ns.map V.int) vs
 |_,_,.nil=>.nil
 |_,_,.cons n t h=>.cons ⟨t,R⟩ (gQ h)
def MU(H:Hp):Prop:=∀b,H b=none\/∃o c,H b=some (.frz o (.lst c))
def Zh5{c:Shared}{vs:OC}{ns:OF}
  (KX:K.In c.heap) (O:c.heap.Ns mainGlobals mg) (f:c.heap.Ns builtinsNs B) (g0:∀x:Str,x ≠ "__name__" -> B x=bootBuiltins x) (i0:c.heap.NoLimit) (hg:c.gens=#[])
  (ha:c.heap.get? a=some {cls:=.type "list",data:=.seq vs.toArray}) (T:IntsAre vs ns) (U:ns.length<=sizeLine) (hr:YE k callerA)
  (F:∀base:Heap,K.In base->base.Ns mainGlobals mg->Zo P w K mg base CX k C Q [x] sp) (h0:∀(s:Shared) (u:Value),BindsTo s Q ⟨[u],[]⟩ [(x,u)])
  (f0:∀H:Hp,MU H->Zd K H a (ns.map V.int)->sp [.ref a] H (λv _=>v=.bl true) λ_ _ _=>False)
  (a0:∀H e g,CX [] H c (λ_ _ _=>False) e g->False) :
  codeAny (model P w) callerA (.call (.ref C) ⟨[.ref a],[]⟩) (λr g=>r=.ok (.ret (.bool true))/\OldK c.heap g.heap/\g.os=c.os/\AllBare g.gens) c:=by
 have J:=gQ T;have b0:=T.length
 -- from an abstract heap in which nothing but the script may be tracked
 have core:∀H:Hp,MU H->Zd K H a (ns.map V.int)->YK P w H c.heap->(∀b,H b≠none->b=a)->(H a≠none->K.lookup a=none) ->
   codeAny (model P w) callerA (.call (.ref C) ⟨[.ref a],[]⟩) (λr g=>r=.ok (.ret (.bool true))/\OldK c.heap g.heap/\g.os=c.os/\AllBare g.gens) c:=by
  intro H S X hok G hK;have L:∀{b:Addr} {o:Obj},c.heap.get? b=some o->H b=none->(UX c.heap H).get? b=some o:=λe c0=>Zgz e c0;have d0:∀{b:Addr} {o:Obj} {j:Array DictEntry} {n:Nat},c.heap.get? b=some o->o.data=.dict j n->H b=none:=λ{b o j n} e d=>by
   cases q:H b with
   |none=>rfl
   |some u =>
    have E:b=a:=G b (by rw[q];simp);subst E;rw[ha]at e;cases e;have Z:Data.seq vs.toArray _=Data.dict j n:=d;cases Z
  have y:∀{b:Addr} {m:Ox},c.heap.Ns b m->(UX c.heap H).Ns b m:=λ{b m} ⟨o,j,n,e,d,r⟩=>⟨o,j,n,L e (d0 e d),d,r⟩;have M:K.In (UX c.heap H):=λb o e=>L (KX b o e) (by
   cases q:H b with
   |none=>rfl
   |some u =>
    have E:b=a:=G b (by rw[q];simp);subst E;rw[hK (by rw[q];simp)]at e;cases e)
  have hM:Mod K mg (UX c.heap H):=⟨M,y O,⟨B,y f,g0⟩,let ⟨mc,h1,h2⟩:=i0;⟨mc,y h1,h2⟩⟩;have e0:Q2 P w K mg (UX c.heap H) callerA [] c H:=⟨R,hM,λb o e=>ZgA e,Nat.le_of_eq (Zgy _ _),trivial,λb f=>Ot (show b∈([]:OI)from f) (by simp),hok,.of_eq hg⟩;erw[codeAny_mono ((F _ M (y O)).run callerA [] c H ⟨[.ref a],[]⟩ [.ref a] [.ref a] _ _ hr e0 (h0 c (.ref a)) (.cons R .nil) (f0 H S X)) λr g h=>?_];cases r with
  |error e=>exact(a0 H e g h).elim
  |ok fl =>
   cases fl with
   |next=>exact False.elim h
   |brk=>exact False.elim h
   |cont=>exact False.elim h
   |ret u =>
    ext⟨v,H',os,bare,un,Y,r',q⟩ h;have q':v=.bl true:=q;subst q';obtain rfl:u=Value.bool true:=r';erw[⟨R,OldK.of_keep λb o e=>?_,os,bare⟩];cases q:H b with
    |none=>exact un.keep b o e q (by intro z;exact Ot (show b∈([]:OI)from z) (by simp)) (by simp)
    |some u =>
     rcases S b with z|⟨ob,xs,z⟩;rw[q]at z;cases z;have z2:=un.frzs b ob _ z;obtain⟨I,_⟩:=hok b _ z;obtain⟨e2,_⟩:=Y b _ z2;rw[e]at I;cases I;exact e2
 cases D:K.lookup a with
 |some o =>
  -- the script is one of the module's own objects
  have e:=KX a o D;rw[ha]at e;cases e;erw[core (λ_=>none) (λ_=>.inl R) (.inr ⟨_,vs.toArray,_,D,R,R,R,by rwa[SO,b0],by simpa using J⟩) (λb u z=>by have i:(none:Option HO)=some u:=z;cases i) (λb z=>Ot rfl z) λz=>Ot rfl z]
 |none =>
  erw[core (λb=>if b=a then some (.frz {cls:=.type "list",data:=.seq vs.toArray} (.lst (ns.map V.int)))else none) (λb=>?_) (.inl (.inr ⟨{cls:=.type "list",data:=.seq vs.toArray},SW R⟩)) (λb u z=>?_) (λb z=>?_) λ_=>D];by_cases f:b=a;exact .inr ⟨_,_,SW f⟩;exact .inl (SV f);by_cases f:b=a;have i:=(SW f).symm.trans z;cases i;subst f;exact⟨ha,by rwa[Sv],vs,_,J,ha⟩;have i:=(SV f).symm.trans z;cases i;by_cases f:b=a;exact f;exact Ot (SV f) z
abbrev gR(_:K.In h):W.Frag:=K
def Zh6{l:W.OpenLaw}{n k:Nat}{q:Program}{loose:OD}{L:(Str->Option Value)->Heap->Prop}{j:World->Heap->Prop}{d:DefRec}{K:Params->W.Frag}{CX:World->WG}{sp:World->Sp}{x:Str}
  (hn:l.most=some n) (B:n<=sizeLine) (C:d.params.defaults=[]) (X:YE k callerA)
  (I:∀(w:World) (h:Heap),j w h->(K w.params).In h)
  (F:∀(w:World) (mg:Ox) (c:Addr) (h:Heap),(K w.params).In h->h.Ns mainGlobals mg->mg d.name=some (.ref c) ->
   ∃i:FuncData,(∀(s:Shared) (u:Value),BindsTo s i ⟨[u],[]⟩ [(x,u)]) /\
    ∀base:Heap,(K w.params).In base->base.Ns mainGlobals mg->Zo l.prog w (K w.params) mg base (CX w) k c i [x] (sp w))
  (O:∀(w:World) (H:Hp) (a:Addr) (ns:OF),ns.length<=n->MU H->Zd (K w.params) H a (ns.map V.int)->sp w [.ref a] H (λv _=>v=.bl true) λ_ _ _=>False)
  (D:∀(w:World) (H:Hp) (s:Shared) (e:Value) (s':Shared),CX w [] H s (λ_ _ _=>False) e s'->False) :
  W.WalkO q loose L j l.row.toRowW d [] (λf vs=>PySem.call f vs):=by
 erw[Att.attach_call hn C λw s₀ Q mg mb c o pm cd a0 a vs ns G Y ho hd Z P E hints hlen M=>?_];have KX:=I w _ Y;obtain⟨i,U,J⟩:=F w mg c _ KX G.T.g P;exact Zh5 KX G.T.g G.T.b G.T.builtins G.T.nolimit M E hints (Sh hlen B) X J U (λH S y=>O w H a ns hlen S y) λH e s'=>D w H Q e s'
def Zh7{l:W.OpenLaw}{n k:Nat}{q:Program}{loose:OD}{j:(Str->Option Value)->Heap->Prop}{c:World->Heap->Prop}{d:DefRec}{K:Params->W.Frag}{CX:WG}{sp:W.Frag->Sp}{x:Str}
  (hn:l.most=some n) (B:n<=sizeLine) (D:d.params.defaults=[]) (E:YE k callerA)
  (G:∀(w:World) (h:Heap),c w h->(K w.params).In h)
  (F:∀(w:World) (mg:Ox) (fa:Addr) (h:Heap),(K w.params).In h->h.Ns mainGlobals mg->mg d.name=some (.ref fa) ->
   ∃g:FuncData,(∀(s:Shared) (u:Value),BindsTo s g ⟨[u],[]⟩ [(x,u)]) /\
    ∀base:Heap,(K w.params).In base->base.Ns mainGlobals mg->Zo l.prog w (K w.params) mg base CX k fa g [x] (sp (K w.params)))
  (J:∀(K:Oy) (H:Hp) (a:Addr) (ns:OF),ns.length<=n->MU H->Zd K H a (ns.map V.int)->sp K [.ref a] H (λv _=>v=.bl true) λ_ _ _=>False)
  (i:∀(H:Hp) (s:Shared) (e:Value) (s':Shared),CX [] H s (λ_ _ _=>False) e s'->False) :
  W.WalkO q loose j c l.row.toRowW d [] (λf vs=>PySem.call f vs) :=
 Zh6 (K:=K) (CX:=λ_=>CX) (sp:=λw=>sp (K w.params)) hn B D E G F (λw H a ns C y I=>J (K w.params) H a ns C y I) λ_ H s e s'=>i H s e s'
def Z5(s:Stmt)(j:Nat):Stmt:=match s with
 |.ClassDef _ _ _ body _ _ _ _ _ _ _=>body.getD j (.Pass ⟨0,0,0,0⟩)
 |_=>.Pass ⟨0,0,0,0⟩
def Q3(s:Stmt):Arguments:=match s with
 |.FunctionDef _ a _ _ _ _ _ _ _ _=>a
 |_=>{posonlyargs:=[],args:=[],vararg:=none,kwonlyargs:=[],kw_defaults:=[],kwarg:=none,defaults:=[]}
def U1(s:Stmt):List Stmt:=match s with
 |.FunctionDef _ _ b _ _ _ _ _ _ _=>b
 |_=>[]
def Zv(s:Stmt):Scope:=match s with
 |.FunctionDef _ _ _ _ _ _ c _ _ _=>c
 |_=>{kind:=.function,names:=[],isGenerator:=false,isCoroutine:=false}
abbrev Zr:WG:=λ_ _ _ _ _ _=>False
abbrev E0:XK:=λ_ _ _=>False
def Zn:Vn Zr X E0:=λ_ _ _ _ _ _ _ h=>h.elim
structure Uc(K:Oy)(x qual:Str)(st:Stmt)(f:Addr)(fd:OK):Prop where
 ex:∃(oc:Value) (od:OG) (kV doc pm:Value) (an:OG) (cdv ct:Value) (osl:OA),
  fd=W.fnOf x qual (Q3 st) (U1 st) (Zv st) .none kV doc pm an cdv ct/\K.lookup f=some ⟨oc,od,.func fd,osl⟩/\W.codeIn K cdv qual=true
 kp:W.keepIn K (.ref f)=true
def Uc.ok{x qual:Str}{st:Stmt}{f:Addr}{i:OK}{N g:OD}{k:Nat}{sp:Sp}(F:Uc K x qual st f i)(S:Zx N g (Zv st))(len:∀vs H Q E,sp vs H Q E->vs.length=g.length)
  (v:∀(c:Value) (A:Around) (outer:List Env) (s:Shared) (H:Hp) (vs:List V) (Q:VK) (E:XK),YE k (A.deeper (envOfC qual (Zv st) s.heap.objs.size f c))->sp vs H Q E ->
   ∃t,X1 (VR Zr P w K mg base N qual (Zv st) f c A outer s H E).nox (U1 st) t/\t {nx:=λ_ y=>Q .non y,rt:=Q} (U0 N vs) H):Zo P w K mg base Zr (k+1) f i g sp:=by
 ext⟨J,G,kV,L,I,D,c,ct,C,rfl,j,n⟩ F.ex;erw[gG j n S len λA outer s H vs Q E u B=>?_];obtain⟨t,h,q⟩:=v c A outer s H vs Q E u B;exact⟨t,h.nox,q⟩
def Uc.binds{x qual:Str}{st:Stmt}{f:Addr}{u:OK}{i:OD}(F:Uc K x qual st f u)
  (h:∀(kV n j:Value) (g:OG) (c ct:Value) (us:OC),us.length=i.length->bindArgs (W.fnOf x qual (Q3 st) (U1 st) (Zv st) .none kV n j g c ct) ⟨us,[]⟩=pure (i.zip us)):XT K u i []:=by
 ext⟨D,C,kV,n,j,g,c,ct,y,rfl,v,B⟩ F.ex;exact .all (h kV n j g c ct)
def gS{x qual:Str}{st:Stmt}{f:Addr}{v:Value}{u h:OG}{n:OA}{kV i j g ct:Value}(l:K.lookup f=some ⟨v,u,.func (W.fnOf x qual (Q3 st) (U1 st) (Zv st) .none kV i j h g ct),n⟩)
  (c:W.codeIn K g qual=true) (k:W.keepIn K (.ref f)=true):Uc K x qual st f (W.fnOf x qual (Q3 st) (U1 st) (Zv st) .none kV i j h g ct):=⟨⟨v,u,kV,i,j,h,g,ct,n,R,l,c⟩,k⟩
def Ud(c:YE k A):A.units+1<cLine:=Sj (Nat.add_le_add_left (():1<=64) _) c.units
def pv(i:Nat)(g:X.N[i]? = some x:=by rfl)(c:ME X.env.scope x:=by first|exact Or.inl rfl|exact Or.inr (Or.inl rfl)|exact Or.inr (Or.inr rfl))(hd:(x==("__debug__" : Str))=false:=by lia)
  (h:(x==("__classdict__" : Str))=false:=by lia):PE X (.Name x f) (kC i):=ZgB g c hd h
def Zh8{A B:Prop}(h:B):if false=true then A else B:=by
 rwa[SV SQ]
def Zh9{A B:Prop}(h:A):if true=true then A else B:=by
 rwa[SW R]
def VC{c A B:Prop}[Decidable c](h1:c->A)(f:¬ c->B):if c then A else B:=by
 by_cases h:c;rw[SW h];exact h1 h;rw[SV h];exact f h
def Zf(H c:Hp):Prop:=∀b o,H b=some o->c b=some o
def Zf.refl(H:Hp):Zf H H:=λ_ _ h=>h
def Zf.trans(a:Zf H f)(b:Zf f g):Zf H g:=λc o h=>b c o (a c o h)
def Zf.free(e:Zf H c)(h:c l=Option.none):H l=Option.none:=by
 cases q:H l with
 |none=>rfl
 |some o =>
  rw[e l o q]at h;cases h
def Zf.seq{c:Hp}{a:Addr}{xs:List V}(e:Zf H c)(h:Zd K H a xs):Zd K c a xs:=by
 rcases h with(h|⟨o,h⟩)|h;exact .inl (.inl (e _ _ h));exact .inl (.inr ⟨o,e _ _ h⟩);exact .inr h
def Yq.has{h:Heap}(x:Yq P w H h a o):∃u,h.get? a=some u:=by
 cases o with
 |lst g=>ext⟨_,_,_,_,q⟩ x;exact⟨_,q⟩
 |tup g=>ext⟨_,_,_,ob,q,_⟩ x;exact⟨ob,q⟩
 |dK c=>ext⟨_,_,_,_,ob,_,_,q,_⟩ x;exact⟨ob,q⟩
 |dT c=>ext⟨_,_,_,_,ob,_,_,q,_⟩ x;exact⟨ob,q⟩
 |set S n=>ext⟨ob,_,_,_,q,_⟩ x;exact⟨ob,q⟩
 |ins C j fs=>ext⟨_,_,_,q,_⟩ x;exact⟨_,q⟩
 |own y=>ext⟨ob,q⟩ x;exact⟨ob,q⟩
 |xd fs=>ext⟨_,⟨ob,_,_,q,_⟩,_⟩ x;exact⟨ob,q⟩
 |rng lo v=>ext⟨_,_,_,q⟩ x;exact⟨_,q⟩
 |frz ob u=>ext⟨q,_⟩ x;exact⟨_,q⟩
 |tbl B=>exact⟨_,(show h.get? a=some _ from x)⟩
 |met f y=>exact⟨_,(show h.get? a=some _ from x)⟩
 |ext i=>ext⟨_,⟨ob,q⟩,_⟩ x;exact⟨ob,q⟩
def Wc(h:Heap)(e:Addr):Prop:=∃ob c,h.get? e=some ob/\ob.data=.fields c/\c[2]? = some .none
def KC{c:Type}(x:Sem c):Prop:=∀(M:Model) (Γ:PySem.Ctx) (Q:c->Pos->Shared->Prop) (E:Value->Pos->Shared->Prop) (p:Pos) (s:Shared) (e:Addr),Wc s.heap e->Sem.wp M Γ x Q E p s ->
 Sem.wp M Γ x (λa p s=>Q a p s/\Wc s.heap e) (λv p s=>E v p s/\Wc s.heap e) p s
section
variable{α β:Type}
def KC.bind(g:KC x)(i:∀a,KC (f a)):KC (x >>= f):=λM c Q E p s e n h=>by
 rw[Sem.wp_bind']at h ⊢;exact Sem.wp_mono M c x (λa p s q=>i a M c Q E p s e q.2 q.1) (λ_ _ _ q=>q) p s (g M c _ _ p s e n h)
def KC.pure(a:α):KC (Pure.pure a:Sem α):=λM c Q E p s e n h=>by
 rw[Sem.wp_pure']at h ⊢;exact⟨h,n⟩
def KC.uns(c:String):KC (.unsupported c:Sem α):=λM f Q E p s e n h=>by
 rw[Sem.wp_unsupported]at h;exact h.elim
def KC.load(a:Addr):KC (PySem.load a):=λM g Q E p s e n h=>by
 unfold PySem.load at h ⊢;rw[Sem.wp_load]at h ⊢;ext⟨o,f,c⟩ h;exact⟨o,f,by rw[Sem.wp_pure]at c ⊢;exact⟨c,n⟩⟩
def KC.stack:KC PySem.stack:=λM c Q E p s e n h=>by
 unfold PySem.stack at h ⊢;rw[Sem.wp_stack]at h ⊢;rw[Sem.wp_pure]at h ⊢;exact⟨h,n⟩
def KC.alloc(o:Obj):KC (PySem.alloc o):=λM f Q E p s e n h=>by
 unfold PySem.alloc at h ⊢;rw[Sem.wp_alloc]at h ⊢;rw[Sem.wp_pure]at h ⊢;ext⟨ob,c,q,r⟩ n;exact⟨h,ob,c,Sc _ q,r⟩
def KC.update(u:∀o vs,o.data=.fields vs->vs[2]? = some .none->∃g,(f o).data=.fields g/\g[2]? = some .none):KC (PySem.update a f):=λM x Q E p s e n h=>by
 unfold PySem.update at h ⊢;rw[Sem.wp_update]at h ⊢;erw[⟨h.1,?_⟩];have i:=h.2;rw[Sem.wp_pure]at i ⊢;erw[⟨i,?_⟩];ext⟨ob,vs,q,d,c⟩ n;by_cases z:a=e;subst z;obtain⟨g,j,v⟩:=u ob vs d c;exact⟨f ob,g,Heap.get?_update_self f q (Obj.isFreed_of_fields j),j,v⟩;exact⟨ob,vs,(Heap.get?_update_other _ f z).trans q,d,c⟩
def KC.iff{c:Prop}[Decidable c](g:KC x)(f:KC y):KC (if c then x else y):=by
 split;exact g;exact f
def Zia(v:Value):KC (fieldsOf v):=by
 unfold fieldsOf;split;erw[KC.bind (KC.load _) λo=>?_];split;exact KC.pure _;exact KC.uns _;exact KC.uns _
def MV(v:Value)(i:Nat):KC (field v i):=by
 unfold field;erw[KC.bind (Zia v) λc=>?_];split;exact KC.pure _;exact KC.uns _
def Rl(v:Value)(i:Nat)(x:Value)(hi:i≠2):KC (setField v i x):=by
 unfold setField;split;unfold updateField;erw[KC.bind (KC.load _) λo=>?_];split;erw[KC.iff (KC.update λo f d c=>?_) (KC.uns _)];exact⟨_,Obj.data_mapFields d _,by rwa[Array.getElem?_setIfInBounds_ne hi]⟩;exact KC.uns _;exact KC.uns _
def Le(v:Value)(f:OG):KC (setFlight v f):=by
 unfold setFlight;erw[KC.bind (MV v 1) λc=>?_];exact KC.iff (Rl _ 3 _ ()) (KC.pure _)
def Zib(env:Env)(outer:List Env):KC (behindIsImport env outer):=by
 unfold behindIsImport;erw[KC.iff (KC.pure _) (KC.iff (KC.pure _) (KC.bind (MV _ _) λ_=>KC.pure _))]
def Zic(env:Env)(c:Bool)(l:List Env):KC (keptBack env c l):=by
 unfold keptBack;split;erw[KC.iff (KC.pure _) (KC.bind ?_ λ_=>KC.pure _)];unfold underTheClaimsCaller;exact KC.bind KC.stack λ_=>KC.pure _;exact KC.pure _
theorem gT:∀l:List Env,KC (readyFrames l)
 |[]=>by unfold readyFrames;exact KC.pure _
 |env::outer=>by
  unfold readyFrames;split;erw[KC.bind (KC.load _) λo=>KC.iff (KC.pure _) ?_];erw[KC.bind (Zib _ _) λf=>KC.bind (Zic _ _ _) λbk=>KC.bind (KC.update λo vs d c=>⟨vs,d,c⟩) λ_=>gT outer];exact KC.uns _
def Zid(env:Env):KC (PySem.frameOf env):=by
 unfold PySem.frameOf;erw[KC.bind (KC.bind KC.stack λ_=>KC.pure _) λl=>KC.bind ?_ λr=>?_];unfold frameObject;split;exact KC.pure _;exact KC.bind (gT _) λ_=>KC.pure _;split;exact KC.pure _;exact KC.uns _
def Zie(f:Addr)(b:Bool):KC (entryPlaceOf f b):=by
 unfold entryPlaceOf;erw[KC.bind KC.stack λl=>?_];split;exact KC.pure _;exact KC.pure _
def Zif(a b c d e:Value)(l:OC):KC (EntryCells.newEntry a b c d e l):=by
 unfold EntryCells.newEntry newFields newObj;have k:∀d:Data,KC (newObjAsIs (.type "traceback") d):=λd=>by
  unfold newObjAsIs;exact KC.bind (KC.alloc _) λ_=>KC.pure _
 exact KC.iff (KC.bind (KC.uns _) λ_=>k _) (k _)
def gU(e:Value)(env:Env):KC (noteFrame e env):=by
 unfold noteFrame;split;erw[KC.bind (MV _ _) λhead=>?_];have g:∀f hd,KC (do let b <-PySem.frameOf env;let h <-entryPlaceOf f hd;let c <-EntryCells.newEntry head b .none (rawInt f) .none h;setField e 1 c):=λf hd =>
  KC.bind (Zid _) λ_=>KC.bind (Zie _ _) λ_=>KC.bind (Zif _ _ _ _ _ _) λ_=>Rl _ 1 _ ()
 erw[KC.iff (KC.bind (MV _ _) λx=>KC.iff (KC.pure _) (KC.bind (Rl _ 3 _ ()) λ_=>g _ _)) (g _ _)];exact KC.uns _
def gW(env:Env)(e:Value):KC (leaving env e):=by
 unfold leaving;exact KC.bind (gU _ _) λ_=>Le _ _
def KC.any0(k:KC x)(n:Wc s.heap e)(h:wpAny M A x Q E s) :
  wpAny M A x (λa s=>Q a s/\Wc s.heap e) (λv s=>E v s/\Wc s.heap e) s:=λc p f=>k M c _ _ p s e n (h c p f)
def KC.any{p:Prop}(k:KC x)(n:p->Wc s.heap e)(h:wpAny M A x Q E s) :
  wpAny M A x (λa s=>Q a s/\(p->Wc s.heap e)) (λv s=>E v s/\(p->Wc s.heap e)) s:=by
 by_cases z:p;exact Os (k.any0 (n z) h) (λ_ _ q=>⟨q.1,λ_=>q.2⟩) λ_ _ q=>⟨q.1,λ_=>q.2⟩;exact Os h (λ_ _ q=>⟨q,λy=>Ot y z⟩) λ_ _ q=>⟨q,λy=>Ot y z⟩
theorem KC.with{M:Model}{x:Sem Unit}{Q:OB}{e:Addr}{p:Prop}{W:Heap->Prop}(k:KC x)(n:p->Wc s.heap e)
  (h:wpAny M A x (λ_ s'=>∃h',s' = {s with heap:=h'}/\W h') (λ_ _=>False) s) (c:∀h',W h'->(p->Wc h' e)->Q Unit.unit {s with heap:=h'}):wpAny M A x Q E s :=
 Os (k.any n h) (λ_ s' ⟨⟨h',z,w⟩,f⟩=>by subst z;exact c h' w f) λ_ _ z=>z.1.elim
end
def MW(l:List Env)(g:Heap)(H:Hp)(a:Addr)(C:Value)(h:Heap):Prop :=
 ∃(B:Heap) (t:Addr),Heap.FlyingW B l a C (.ref t) h/\H a=none /\
  ∀b o,h.get? b=some o->((∃u,g.get? b=some u)\/∃u,H b=some u)->b∉Yj l->B.get? b=some o
def Yu(P:Program)(w:World):WG:=λouter H s E e c =>
 ∃(a:Addr) (C:Value) (H':Hp),e=.ref a/\c.os=s.os/\AllBare c.gens/\Un (Yj outer) [] H H' s.heap c.heap/\YK P w H' c.heap/\MW outer s.heap H' a C c.heap/\∃o:Option Addr,(o=none->Wc c.heap a)/\E C o H'
def Zig{env:Env}{outer:List Env}(f:env.frame=some L)(g:b∈Yj (env::outer)):b=L\/b∈Yj outer:=by
 obtain⟨e,c,q⟩:=List.mem_filterMap.mp g;rcases SG.mp c with rfl|c;rw[f]at q;exact .inl (So q).symm;exact .inr (List.mem_filterMap.mpr ⟨e,c,q⟩)
def MX{outer:List Env}(c:b∈Yj outer):b∈Yj (env::outer):=by
 obtain⟨e,f,q⟩:=List.mem_filterMap.mp c;exact List.mem_filterMap.mpr ⟨e,SD _ f,q⟩
def Rm{env:Env}{outer:List Env}{g h1 B : Heap}
  (X:env.frame=some L) (O:g.get? L=none) (U:Un (Yj outer) [] H h g h1) (ok:YK P w h h1) (frf:∀b∈Yj (env::outer),h b=none)
  (frd:∀b∈Yj outer,∀o,h1.get? b=some o->∀vs,o.data≠.fields vs)
  (S:∀b o,h1.get? b=some o->((∃u,g.get? b=some u)\/∃u,h b=some u)->b∉Yj (env::outer)->B.get? b=some o)
  (I:Heap.FlyingW B outer a C (.ref t) y) (ha:h a=none) (up:h1.UpToSlots y):Un (Yj outer) [] H h g y/\YK P w h y/\MW outer g h a C y:=by
 have stay:∀b o,h1.get? b=some o->((∃u,g.get? b=some u)\/∃u,h b=some u)->b∉Yj outer->y.get? b=some o/\B.get? b=some o:=λb o e f hn=>by
  have nf:b∉Yj (env::outer):=λz=>by
   rcases Zig X z with rfl|Q;rcases f with⟨u,q⟩|⟨u,q⟩;rw[O]at q;cases q;rw[frf _ z]at q;cases q;exact hn Q
  have q:=S b o e f nf;exact⟨I.1 b o q,q⟩
 have nx:([]:OI)=[]:=rfl;have j:∀b:Addr,b∉([]:OI):=λb z=>nomatch z;have track:∀b u,h b=some u->b∉Yj outer:=λb u q z=>by
  rw[frf b (MX z)]at q;cases q
 erw[⟨⟨λb o e n f j=>?_,λb o e n f j=>?_,U.free,λb o e j=>?_,U.tups,U.frzs,U.tbls⟩,λb u q=>?_,B,t,I,ha,λb o e f hn=>?_⟩];exact(stay b o (U.keep b o e n f j) (.inl ⟨o,e⟩) f).1;obtain⟨Z,i⟩:=U.slot b o e n f j;obtain⟨UA,x⟩:=up b _ i (frd b f _ i);exact⟨UA,x⟩;obtain⟨D,i⟩:=U.there b o e j;by_cases f:b∈Yj outer;obtain⟨UA,x⟩:=up b _ i (frd b f _ i);exact⟨_,x⟩;exact⟨D,(stay b D i (.inl ⟨o,e⟩) f).1⟩;erw[(ok b u q).stay (λc v G e=>?_) (λ_ z=>z) λ_ _ z=>z];have T:∃E,h c=some E:=by
  rcases G with rfl|G;exact⟨u,q⟩;exact⟨_,G⟩
 ext⟨E,J⟩ T;exact(stay c v e (.inr ⟨E,J⟩) (track c E J)).1;have M:∃D,h1.get? b=some D:=by
  rcases f with⟨u,q⟩|⟨u,q⟩;exact U.there b u q (j b);exact(ok b u q).has
 ext⟨D,i⟩ M;obtain⟨x,Y⟩:=stay b D i f hn;rw[e]at x;cases x;exact Y
def gX(X:Cx)(E:XK):Prop:=∀(pins:Ow) (σ:St) (H:Hp) (s:Shared) (a:Addr) (C:Value) (vs:OC) (h':Heap),Zb X pins σ H s->Heap.MadeExcOf s.heap h' a C vs->E C none H->X.xe (.ref a) {s with heap:=h'}
section
variable{N:OD}{qual:Str}{f:Addr}{cd:Value}{outer:List Env}{E:XK}
def Zb.frd(I:Zb X pins h H s):∀b∈Yj X.stack,∀o,s.heap.get? b=some o->∀vs,o.data≠.fields vs:=λb g o e=>by
 obtain⟨_,i,c,d⟩:=I.stack.mem g;rw[e]at c;cases c;exact d
def Zb.hasNo(I:Zb X pins c H s)(e:s.heap.get? a=none):H a=none:=by
 cases q:H a with
 |none=>rfl
 |some u =>
  obtain⟨o,z⟩:=(I.hok a u q).has;rw[e]at z;cases z
def Xg:gX (VR (Yu P w) P w K mg base N qual scope f cd A outer s H E) E:=by
 intro pins S x i a C T Q I g O;have J:∀env∈(envOfC qual scope s.heap.objs.size f cd::outer),∀b,env.frame=some b->b∈Yj (envOfC qual scope s.heap.objs.size f cd::outer):=λenv y b n=>List.mem_filterMap.mpr ⟨env,y,n⟩;have v:(A.deeper (envOfC qual scope s.heap.objs.size f cd)).frames=some (envOfC qual scope s.heap.objs.size f cd::outer):=I.ok.frames;have sn:s.heap.get? s.heap.objs.size=none:=Heap.get?_none_of_le (Sg _);ext⟨U,u,_,_⟩ g.there;refine KC.with (p:=True) (e:=a) (W:=λc=>∃t,Heap.FlyingW (PySem.W.hideAll i.heap (Yj (envOfC qual scope s.heap.objs.size f cd::outer))) outer a C (.ref t) c/\Q.UpToSlots c) (gW _ _) (λ_=>⟨_,_,u,R,R⟩)
  (wpAny_leaves_madeW (L:=s.heap.objs.size) (base:=PySem.W.hideAll i.heap (Yj (envOfC qual scope s.heap.objs.size f cd::outer))) (h:=i.heap) v R (λb o q=>PySem.W.of_hideAll _ q) (PySem.W.funFrames_hide I.stack J) g λc t j _ _ up=>⟨c,R,t,j,up⟩) λc ⟨t,j,up⟩ B=>?_
 have frd:=I.frd;obtain⟨G,M,D⟩:=Rm (P:=P) (w:=w) (L:=s.heap.objs.size) (h1:=i.heap) R sn I.base I.hok I.stkFree (λb n o e=>frd b (MX n) o e) (λb o e _ hn=>PySem.W.hideAll_get _ e hn) j (I.hasNo g.new) ((Heap.UpToSlots.of_keeps g.keeps).trans up);exact⟨a,C,x,R,I.os,I.bare,G,M,D,none,λ_=>B trivial,O⟩
def Yi:Vn (Yu P w) (VR (Yu P w) P w K mg base N qual scope f cd A outer s H E) E:=by
 intro pins y T U e i I G;ext⟨a,C,v,rfl,os,bare,un,hok,⟨B,t,D,ha,O⟩,o,h,S⟩ G;have c:Zb (VR (Yu P w) P w K mg base N qual scope f cd A outer s H E) pins y v i:=I.call' os un hok bare λb z=>nomatch z;have x:(A.deeper (envOfC qual scope s.heap.objs.size f cd)).frames=some (envOfC qual scope s.heap.objs.size f cd::outer):=I.ok.frames;have sn:s.heap.get? s.heap.objs.size=none:=Heap.get?_none_of_le (Sg _);erw[KC.with (e:=a) (W:=λg=>Heap.FlyingW B outer a C (.ref t) g/\i.heap.UpToSlots g) (gW _ _) h (wpAny_leaves_onW (L:=s.heap.objs.size) x R D λg n up=>⟨g,R,n,up⟩) λg ⟨n,up⟩ h=>?_];have frd:=c.frd;obtain⟨M,Q,J⟩:=Rm (P:=P) (w:=w) (L:=s.heap.objs.size) (h1:=i.heap) R sn c.base c.hok c.stkFree (λb j o e=>frd b (MX j) o e) (λb o e j hn=>O b o e (j.imp (λ⟨u,q⟩=>I.base.there b u q λz=>nomatch z) id) hn) n ha up;exact⟨a,C,v,R,c.os,c.bare,M,Q,J,o,h,S⟩
end
def Uc.okX{x qual:Str}{st:Stmt}{f:Addr}{h:OK}{N g:OD}{k:Nat}{sp:Sp}(F:Uc K x qual st f h)(S:Zx N g (Zv st))(len:∀vs H Q E,sp vs H Q E->vs.length=g.length)
  (u:∀(c:Value) (A:Around) (outer:List Env) (s:Shared) (H:Hp) (vs:List V) (Q:VK) (E:XK),YE k (A.deeper (envOfC qual (Zv st) s.heap.objs.size f c))->sp vs H Q E ->
   ∃t,X1 (VR (Yu P w) P w K mg base N qual (Zv st) f c A outer s H E) (U1 st) t/\t {nx:=λ_ v=>Q .non v,rt:=Q} (U0 N vs) H):Zo P w K mg base (Yu P w) (k+1) f h g sp:=by
 ext⟨I,D,kV,J,G,C,c,ct,B,rfl,i,j⟩ F.ex;exact gG i j S len λA outer s H vs Q E n y=>u c A outer s H vs Q E n y
structure XB(K:Oy)(C:Addr):Prop where
 ex:W.excIn K C [.type "ValueError",.type "Exception",.type "BaseException",.type "object"] "ValueError.__new__"=true
def gY{h:Heap}(Y:K.In h)(z:W.excIn K C i f=true) :
  ∃bm g nm J bs hd sn sub ab col dd k0 k1 k2 k3 k5 mN,h.get? C=some (excClassObj nm J C g bs bm hd sn sub ab col dd k0 k1 k2 k3 k5 f)/\h.Ns g mN/\mN "__init__"=none/\OwnTail h i bm:=by
 unfold W.excIn at z;split at z
 ·next d1 c1 s1 hlk =>
  split at z
  ·next C1 b1 j0 j1 j2 j3 n1 j5 em es =>
   simp only[Bool.and_eq_true,beq_iff_eq,Bool.not_eq_true']at z;ext⟨⟨⟨⟨⟨z1,B⟩,j⟩,v⟩,c⟩,z6⟩ z;subst z1 B;ext⟨L,y,O,n,u,I,G,H,M,E,P⟩ c1;dsimp only at em j c z6;subst em j;ext⟨D⟩ s1;have x:D=[j0,j1,j2,j3,some (.builtin n1),j5]:=es;subst x;exact⟨b1,n,L,u,y,I,G,H,M,E,d1,j0,j1,j2,j3,j5,_,Y _ _ hlk,.of_isNs (W.isNs_of_in Y c),W.nsMap_none_of_in Y c z6,W.tail_of_in Y v⟩
  exact Ot z ()
 exact Ot z ()
section
variable{E:XK}{x:Str}{C:Addr}{e:Expr}{es:OE}{t:TA}{np cpos:Pos}
def Zih(E:XK)(C:Addr)(t:TA):TS:=λ_ g H=>t g H λc f=>c.length<=sizeLine/\E (.ref C) none f
def Xh(R:gX X E)(c:XB X.K C)(J:X.calm=true)(L:Gl X x)(hm:X.mg x=some (.ref C))(ha:PA X (e::es) t)(u:(x==("__debug__" : Str))=false:=by lia)
  (i:starEach (e::es) X.env=(false,eval e X.env)::starEach es X.env:=by rfl) (O:(backTo cpos (starEach es X.env)).any (·.1)=false:=by rfl) :
  PS X (.Raise (some (.Call (.Name x np) (e::es) [] cpos)) none pos) (Zih E C t):=by
 intro pins s g H D I h;obtain⟨bm,B,nm,S,bs,hd,sn,sub,ab,col,dd,k0,k1,k2,k3,k5,mN,M,n,U,j⟩:=gY I.ok.mod.kin c.ex;refine wpAny_Raise_call_subT (C:=C) (nm:=nm) (q:=S) (N:=B) (bs:=bs) (bm:=bm) (hdct:=hd) (sn:=sn) (sub:=sub) (ab:=ab) (col:=col) (dd:=dd) (k0:=k0) (k1:=k1) (k2:=k2) (k3:=k3) (k5:=k5)
  PySem.F.excBase_ValueError (mN:=mN) (j.hasType PySem.F.excBase_ValueError.hasBase) (I.ok.hd J) ?_ U (Uu I L hm ⟨rfl,?_⟩ u)
 rw[i];show(false || (backTo cpos (starEach es X.env)).any (·.1))=false;rw[O];rfl;have q:=ha cpos pins s g H _ I h;rw[i]at q ⊢;erw[Calls.evalArgs_plain (ZA q λv s2 G=>?_)];ext⟨Z,Q,f,r,Y,P⟩ G;exact⟨rfl,by rwa[<-r.length],f.bk _ _ M,n.keeps f.bk,j.keeps f.bk,λT a y=>R pins g Q s2 a _ v T f y P⟩
end
def Zb.moved{h':Heap}(I:Zb X pins J H s)
  (keep:∀b o,s.heap.get? b=some o->((∃u,X.s₀.heap.get? b=some u/\b∉X.ex)\/(∃u,H b=some u)\/∃p∈X.pn++pins,p.1=b)->b∉Yj X.stack->h'.get? b=some o) (up:s.heap.UpToSlots h'):Zb X pins J H {s with heap:=h'}:=by
 have P:∀b o,X.s₀.heap.get? b=some o->b≠X.env.locals:=λb o e=>Sf (Si (Se e) I.ok.above);have x:∀b,b≠X.env.locals->b∉X.fs->b∉Yj X.stack:=λb U T z=>(SG.mp (I.stkSub b z)).elim U T;have M:∀b∈X.fs,∀o,X.s₀.heap.get? b=some o->∀O,o.data≠.fields O:=λb f o e=>by
  obtain⟨_,E,S,d⟩:=I.ok.funs.mem f;rw[e]at S;cases S;exact d
 have cellK:∀c v,s.heap.IsCell c v->h'.IsCell c v:=λc v ⟨o,Y,hd⟩=>by
  obtain⟨Q,q⟩:=up c o Y λO z=>by rw[hd]at z;cases z
  exact⟨_,q,hd⟩
 erw[⟨I.ok,I.os,I.bare,⟨λb o e n f g=>?_,λb o e n f g=>?_,I.base.free,λb o e g=>?_,I.base.tups,I.base.frzs,I.base.tbls⟩,?_,λy c e=>?_,I.free,I.freeC,λp L=>?_,λb u q=>?_,I.len⟩];exact keep b o (I.base.keep b o e n f g) (.inl ⟨o,e,g⟩) (x b (P b o e) f);obtain⟨Q,h⟩:=I.base.slot b o e n f g;obtain⟨UA,j⟩:=up b _ h (M b f o e);exact⟨UA,j⟩;obtain⟨E,h⟩:=I.base.there b o e g;by_cases f:b∈X.fs;obtain⟨Q,j⟩:=I.base.slot b o e (I.ok.frf b f) f g;obtain⟨UA,G⟩:=up b _ j (M b f o e);exact⟨_,G⟩;exact⟨E,keep b E h (.inl ⟨o,e,g⟩) (x b (P b o e) f)⟩;ext⟨m,hn,hl⟩ I.loc;erw[⟨m,up.ns hn,λi y v h j G=>?_⟩];obtain⟨u,r,l⟩:=hl i y v h j G;erw[⟨u,r,?_⟩];rcases l with l|⟨k,c,e,z⟩;exact .inl l;exact .inr ⟨k,c,e,cellK c _ z⟩;obtain⟨v,z⟩:=I.cell y c e;exact⟨v,cellK c v z⟩;obtain⟨e,n,ne,nf,d⟩:=I.pin p L;exact⟨keep p.1 p.2 e (.inr (.inr ⟨p,L,R⟩)) (x p.1 ne nf),n,ne,nf,d⟩;erw[(I.hok b u q).stay (λc v B e=>?_) (λ_ z=>z) λ_ _ z=>z];have Z:∃D,H c=some D:=by
  rcases B with rfl|B;exact⟨u,q⟩;exact⟨_,B⟩
 ext⟨D,C⟩ Z;erw[keep c v e (.inr (.inl ⟨D,C⟩)) λz=>?_];rw[I.stkFree c z]at C;cases C
def Zb.track{ob:Obj}(I:Zb X pins i H s)(ha:H a=none)(j:s.heap.get? a=some ob)(hd:ob.data=.fields vs)
  (B:X.s₀.heap.get? a=none) (C:∀p∈X.pn++pins,p.1≠a) (new:Yq X.prog X.w (upd H a o) s.heap a o):Zb X pins i (upd H a o) s:=by
 have nt:∀b u,H b=some u->b≠a:=λb u q=>Z4 q ha;erw[⟨I.ok,I.os,I.bare,⟨I.base.keep,I.base.slot,λb u e n D=>?_,I.base.there,λb h q=>?_,λb u h q=>?_,λb E q=>?_⟩,I.loc,I.cell,?_,λy c e=>?_,λp q=>?_,λb u q=>?_,I.len⟩];have ne:b≠a:=λz=>by rw[z,B]at e;cases e
 rw[Zm ne];exact I.base.free b u e n D;have z:=I.base.tups b h q;rwa[Zm (nt _ _ z)];have z:=I.base.frzs b u h q;rwa[Zm (nt _ _ z)];obtain⟨m,z⟩:=I.base.tbls b E q;exact⟨m,by rwa[Zm (nt _ _ z)]⟩;have ne:X.env.locals≠a:=λz=>by
  ext⟨m,⟨G,J,M,f,g,_⟩,_⟩ I.loc;rw[z,j]at f;cases f;rw[hd]at g;cases g
 rw[Zm ne];exact I.free;have ne:c≠a:=λz=>by
  obtain⟨v,L,f,g⟩:=I.cell y c e;rw[z,j]at f;cases f;rw[hd]at g;cases g
 rw[Zm ne];exact I.freeC y c e;obtain⟨e,n,r⟩:=I.pin p q;exact⟨e,by rwa[Zm (C p q)],r⟩;by_cases x:b=a;subst x;rw[Zi]at q;cases q;exact new;rw[Zm x]at q;exact(I.hok b u q).stay (λc v _ z=>z) (λc z=>by rwa[Zm (nt _ _ z)]) λc h z=>by rwa[Zm (nt _ _ z)]
def Lf(a:Addr)(C:Value):HO:=.ext λh=>∃ob c,h.get? a=some ob/\ob.cls=C/\ob.data=.fields c
def Zii(X:Cx)(pins:Ow)(f:Value->Hp->Prop)(e:Value)(s':Shared):Prop :=
 ∃(a:Addr) (C:Value) (σ:St) (H:Hp) (g:Heap),e=.ref a/\Zb X pins σ H s'/\MW X.stack g H a C s'.heap/\(∀p∈X.pn++pins,∃u,g.get? p.1=some u) /\
  (∀b u,X.s₀.heap.get? b=some u->b∉X.ex->∃c,g.get? b=some c)/\f C H
abbrev Lg(X:Cx)(pins:Ow)(Kx:Value->Hp->Prop):Cx:={X with pn:=X.pn++pins,xe:=Zii X pins Kx}
abbrev UB(X:Cx)(a:Addr):Cx:={X with A:=X.A.mark (some (.ref a)),calm:=false,xe:=λ_ _=>False}
section
variable{pins':Ow}{σ:St}{Kx:Value->Hp->Prop}{a:Addr}
def Zb.toTry(I:Zb X pins σ H s):Zb (Lg X pins Kx) [] σ H s :=
 ⟨⟨I.ok.mod,I.ok.kind,I.ok.glob,I.ok.blt,I.ok.above,I.ok.inj,I.ok.has,I.ok.cab,I.ok.hd,I.ok.frames,I.ok.stk,I.ok.exf,I.ok.bs,I.ok.bsz,I.ok.noex,I.ok.exfs,I.ok.funs,I.ok.frf⟩,
  I.os,I.bare,I.base,I.loc,I.cell,I.free,I.freeC,λp c=>I.pin p (by simpa using c),I.hok,I.len⟩
def Zb.ofTry(I:Zb (Lg X pins Kx) pins' σ H s):Zb X pins σ H s :=
 ⟨⟨I.ok.mod,I.ok.kind,I.ok.glob,I.ok.blt,I.ok.above,I.ok.inj,I.ok.has,I.ok.cab,I.ok.hd,I.ok.frames,I.ok.stk,I.ok.exf,I.ok.bs,I.ok.bsz,I.ok.noex,I.ok.exfs,I.ok.funs,I.ok.frf⟩,
  I.os,I.bare,I.base,I.loc,I.cell,I.free,I.freeC,λp c=>I.pin p (SJ _ c),I.hok,I.len⟩
def Zb.toSuite(I:Zb X pins σ H s):Zb (UB X a) pins σ H s :=
 ⟨⟨I.ok.mod,I.ok.kind,I.ok.glob,I.ok.blt,I.ok.above,I.ok.inj,I.ok.has,I.ok.cab,(λz=>nomatch z),I.ok.frames,I.ok.stk,I.ok.exf,I.ok.bs,I.ok.bsz,I.ok.noex,I.ok.exfs,I.ok.funs,I.ok.frf⟩,
  I.os,I.bare,I.base,I.loc,I.cell,I.free,I.freeC,I.pin,I.hok,I.len⟩
def Zb.ofSuite(hd:X.calm=true->X.A.handled=none)(I:Zb (UB X a) pins σ H s):Zb X pins σ H s :=
 ⟨⟨I.ok.mod,I.ok.kind,I.ok.glob,I.ok.blt,I.ok.above,I.ok.inj,I.ok.has,I.ok.cab,hd,I.ok.frames,I.ok.stk,I.ok.exf,I.ok.bs,I.ok.bsz,I.ok.noex,I.ok.exfs,I.ok.funs,I.ok.frf⟩,
  I.os,I.bare,I.base,I.loc,I.cell,I.free,I.freeC,I.pin,I.hok,I.len⟩
def Zb.frame{j:St}{h':Heap}(I:Zb X pins σ H s)(hn:h'.Ns X.env.locals D)(f:Heap.SameBut X.env.locals s.heap h')
  (J:∀(i:Nat) (x:Str) (v:V),X.N[i]? = some x->j[i]? = some (some v)->ME X.env.scope x->∃u,ZP v u/\kA X.env h' D x u) (hlen:j.length=σ.length):Zb X pins j H {s with heap:=h',toks:=t'}:=by
 have B:∀b o,X.s₀.heap.get? b=some o->b≠X.env.locals:=λb o e=>Sf (Si (Se e) I.ok.above);erw[⟨I.ok,I.os,I.bare,⟨λb o e n C g=>(f.2 b (B b o e)).trans (I.base.keep b o e n C g),λb o e n C g=>?_,I.base.free,λb o e g=>?_,I.base.tups,I.base.frzs,I.base.tbls⟩,⟨D,hn,J⟩,λy c e=>?_,I.free,I.freeC,λp G=>?_,λb u q=>?_,hlen.trans I.len⟩];obtain⟨L,E⟩:=I.base.slot b o e n C g;exact⟨L,(f.2 b (B b o e)).trans E⟩;obtain⟨M,E⟩:=I.base.there b o e g;exact⟨M,(f.2 b (B b o e)).trans E⟩;obtain⟨v,z⟩:=I.cell y c e;exact⟨v,z.sameBut f (I.cne y c e)⟩;obtain⟨e,n,ne,nf,d⟩:=I.pin p G;exact⟨(f.2 p.1 ne).trans e,n,ne,nf,d⟩;erw[(I.hok b u q).stay (λc v h e=>(f.2 c ?_).trans e) (λ_ z=>z) λ_ _ z=>z];intro z;have fr:=I.free;rcases h with rfl|h;rw[z,fr]at q;cases q;rw[z,fr]at h;cases h
def MY(I:Zb X pins σ H s)(hi:X.N[i]? = some n)(D:X.N.Nodup)(O:X.env.scope.names.lookup n=some .local)
  (h:∀s',Zb X pins (σ.set i none) H s'->Q Unit.unit s'):wpAny M A (do bindName X.env n .none;unbindBehindTheSuite X.env n L) Q E s:=by
 obtain⟨m,hn,G⟩:=id I.loc;erw[wpAny_nameGoes_keeps (m:=m) O hn (by rw[I.ok.kind];rfl) λT v P x=>h _ (I.frame P x (λj y C g f S=>?_) (by simp))];have B:j≠i:=λz=>by
  rw[z]at f;have J:i<σ.length:=by rw[I.len];exact(Sr.mp hi).1
  rw[List.getElem?_set_self J]at f;cases f
 rw[List.getElem?_set_ne (Ne.symm B)]at f;obtain⟨u,r,q⟩:=G j y C g f S;erw[⟨u,r,?_⟩];rcases q with⟨k,e⟩|⟨k,c,e,z⟩;have ne:y≠n:=λz=>B (PY D g (z ▸ hi));exact .inl ⟨k,by simp[ne,e]⟩;exact .inr ⟨k,c,e,z.sameBut x (I.cne y c e)⟩
end
section
variable{body suite:List Stmt}{b₀:Stmt}{n x:Str}{i:Nat}{R:Addr}{np hpos:Pos}{tb:(Value->Hp->Prop)->TS}{th:TS}
def Zij(K:Oy)(R:Addr)(i N:Nat)(tb:(Value->Hp->Prop)->TS)(th:TS):TS:=λD h H =>
 tb (λC g=>W.exmOne K C (.ref R)=some true/\∀a,g a=none ->
  th {nx:=λc f=>D.nx (c.set i none) f,rt:=D.rt,bk:=λc f=>D.bk (c.set i none) f,ct:=λc f=>D.ct (c.set i none) f} ((List.replicate N none).set i (some (.ref a))) (upd g a (Lf a C))) D h H
def Zik(y0:X.stack=X.env::X.outer/\X.env.frame=some X.env.locals)(u0:X.ex=[])(G:X.N.Nodup)(hi:X.N[i]? = some n)(B:X.env.scope.names.lookup n=some .local)(hg:Gl X x)(hm:X.mg x=some (.ref R))
  (O:∀pins Kx,X1 (Lg X pins Kx) body (tb Kx)) (hs:∀a,X1 (UB X a) (b₀::suite) th) (v0:(x==("__debug__" : Str))=false:=by lia) :
  PS X (.Try body [.ExceptHandler (some (.Name x np)) (some n) (b₀::suite) hpos] [] [] pos) (Zij X.K R i X.N.length tb th):=by
 intro pins s σ f1 n0 I s0;erw[wpAny_Try_except (Os (O pins _ [] s σ f1 n0 I.toTry s0) (λf y q=>?_) λe y q=>?_)];cases f with
 |next=>ext⟨g,c,j,q⟩ q;exact wpAny_execs_nil ⟨g,c,j.ofTry,q⟩
 |brk=>ext⟨g,c,j,q⟩ q;exact⟨g,c,j.ofTry,q⟩
 |cont=>ext⟨g,c,j,q⟩ q;exact⟨g,c,j.ofTry,q⟩
 |ret u=>ext⟨v,g,c,j,r,q⟩ q;exact⟨v,g,c,j.ofTry,r,q⟩
 ext⟨a,C,l0,Y,z0,rfl,I1,⟨p0,t,D,ha,c0⟩,g0,i0,b1,a1⟩ q;ext⟨M,e1⟩ y0;have mv:∀P,Heap.FlyingW p0 X.stack a C (.ref t) P->y.heap.UpToSlots P->Zb X pins l0 Y {y with heap:=P}:=λP x0 up=>I1.moved (λb o e O hn=>x0.1 b o (c0 b o e (by
  rcases O with⟨u,q,hx⟩|⟨u,q⟩|⟨p,E,rfl⟩;exact .inl (i0 b u q hx);exact .inr ⟨u,q⟩;exact .inl (g0 p E)) hn)) up
 have c1:X.A.frames=some (X.env::X.outer):=by rw[<-M];exact I.ok.frames
 rw[M]at D;erw[wpAny_looks_onW c1 e1 D λh4 d1 d0=>?_];erw[wpAny_landsW d1 λQ Z a0=>?_];have I5:=mv Q (by rwa[M]) (d0.trans a0);ext⟨i1,r0,t0⟩ Z.there;have LT:W.Looks (model X.prog X.w) Q (typeOf (.ref a)) C:=t0 ▸ (W.Looks.ld r0).andThen .now;erw[wpAny_handleBy_cons (codeAny_handlers_test (Uu (X:=UB X a) I5.toSuite hg hm ?_ v0)) (by intro z;cases z)];erw[(W.exm_one (K:=X.K) (I5.kIn:X.K.In Q) LT b1) _ _ _ _ (λ_ _ z=>z) ?_];erw[codeAny_handlers_suite_as ?_];erw[lands_againW Z λS k0 q0=>?_];have I6:=mv S (by rwa[M]) ((d0.trans a0).trans q0);ext⟨j0,w0,U,o0,f0,_⟩ k0.first;have m0:∀o,y.heap.get? a=some o->a∉Yj X.stack:=λo e z=>by
  ext⟨ob,vs,H,_,q2,_⟩ D.first;exact I1.frd a z ob H vs q2
 have e0:∀u,z0.get? a=some u->False:=λu q=>by
  ext⟨ob,vs,H,_,q2,_⟩ D.first;have z:=c0 a ob H (.inl ⟨u,q⟩) (m0 ob H);rw[D.2.1]at z;cases z
 have h0:X.s₀.heap.get? a=none:=by
  cases q:X.s₀.heap.get? a with
  |none=>rfl
  |some u =>
   obtain⟨u',z⟩:=i0 a u q (by rw[u0];exact λz=>nomatch z);exact(e0 u' z).elim
 have E:∀p∈X.pn++pins,p.1≠a:=λp E z=>by
  obtain⟨u,q⟩:=g0 p E;rw[z]at q;exact e0 u q
 have I7:Zb X pins l0 (upd Y a (Lf a C)) {y with heap:=S}:=I6.track ha U f0 h0 E
  ⟨⟨j0,w0,U,o0,f0⟩,⟨j0,U⟩,λha O ⟨o,v,z1,z2⟩ k=>⟨o,v,k o z1,z2⟩⟩
 have I8:Zb X pins (List.replicate X.N.length none) (upd Y a (Lf a C)) {y with heap:=S}:=I7.weak (by rw[SA,I7.len]) λh1 v q=>by
  rw[List.getElem?_replicate]at q;split at q<;>cases q
 erw[K0 (X:=UB X a) I8.toSuite G hi (.inl B) (v:=.ref a) rfl (λs9 I9=>?_) (.inr B)];erw[Os (hs a pins s9 _ _ _ I9 (a1 a ha)) (λf b0 q=>?_) λ_ _ z=>z.elim];have L:∀{g:St} {c:Hp},Zb (UB X a) pins g c b0->Zb X pins g c b0:=λJ=>J.ofSuite I.ok.hd;cases f with
 |next=>ext⟨g,c,J,q⟩ q;exact MY (L J) hi G B λT h=>⟨_,c,h,q⟩
 |brk=>ext⟨g,c,J,q⟩ q;exact MY (L J) hi G B λT h=>⟨_,c,h,q⟩
 |cont=>ext⟨g,c,J,q⟩ q;exact MY (L J) hi G B λT h=>⟨_,c,h,q⟩
 |ret u=>ext⟨v,g,c,J,r,q⟩ q;exact MY (L J) hi G B λT h=>⟨v,_,c,h,r,q⟩
end
def Lh:Xk X (.type "int") (λxs H Q=>∃z n,xs=[.str z]/\PySem.intText? z=some n/\z.length<=640/\Q (.int n) H):=by
 intro pins s f H xs g Q I r h;ext⟨z,n,rfl,hn,c,q⟩ h;obtain⟨u,rfl,t,rfl⟩:=Xm r;exact W.KIN.call_text hn c ⟨.int n,H,I.tok _,⟨_,R⟩,q⟩
def Zil:Qs X "str.zfill" (λx xs H Q=>∃z i,x=.str z/\xs=[.int i]/\PadOk i=true/\Q (.str (Txt.zfill z i)) H):=by
 intro pins s g H x xs v j Q I c r h;ext⟨z,i,rfl,rfl,f,q⟩ h;ext⟨t,rfl⟩ c;obtain⟨u,rfl,n,rfl⟩:=Xm r;exact SC.zfill f λt2 k=>⟨.str _,H,I.tok _,⟨_,R⟩,q⟩
inductive Zim(x:V)(lo:Option Int)(hi:Option Int)(H:Hp)(Q:VK):Prop|mk z (_:x=.str z) (_:z.length<=sizeLine) (_:Q (.str (Txt.slice z lo hi)) H)
def gZ(p:IsPart v o):∃l:Option (Int×Tok),v=partValue l/\l.map (·.1)=o:=by
 cases p with
 |none=>exact⟨none,R,R⟩
 |int i t=>exact⟨some (i,t),R,R⟩
def UC:Rh X Zim:=by
 intro pins s n H x v y D lo B C Q I c f g i h;ext⟨z,rfl,j,q⟩ h;ext⟨t,rfl⟩ c;obtain⟨l,rfl,rfl⟩:=gZ g;obtain⟨u,rfl,rfl⟩:=gZ i;erw[⟨"str",_,PySem.F.slot_str_getitem.lookup,typeIs_str s z t,wpAny_getItem_str_slice (l:=l) (u:=u) (st:=none) f R ?_⟩];exact post_val_or_str ⟨Sh (Txt.slice_le z _ _) j,λE k=>⟨.str _,H,I.tok _,⟨_,R⟩,q⟩⟩
def WH:List V->List V->Bool
 |[],[]=>true
 |x::xs,y::c=>XU x y && WH xs c
 |_,_=>false
theorem MZ:∀{xs c:List V},xs.length≠c.length->WH xs c=false
 |[],[],h=>Ot R h
 |[],_::_,_=>rfl
 |_::_,[],_=>rfl
 |x::xs,y::c,h=>by
  have:WH xs c=false:=MZ λz=>h (by rw[Sy,Sy,z]);show(XU x y && WH xs c)=false;rw[this,Bool.and_false]
theorem M0:∀(xs c:List V),xs.length=c.length->(List.range xs.length).all (λj=>XU (xs.getD j .non) (c.getD j .non))=WH xs c
 |[],[],_=>rfl
 |[],_::_,h=>nomatch h
 |_::_,[],h=>nomatch h
 |x::xs,y::c,h=>by
  have f:=M0 xs c (by simpa using h);rw[Sy,List.range_succ_eq_map,List.all_cons,List.all_map];show(XU x y && _)=(XU x y && WH xs c);rw[<-f];rfl
inductive Zaa(K:Oy)(neg:Bool)(x:V)(y:V)(H:Hp)(Q:VK):Prop|mk l b xs ys (_:x=.ref l) (_:y=.ref b) (_:Zd K H l xs) (_:Zd K H b ys) (_:xs.all WW=true) (_:ys.all WW=true) (_:Q (.bl (if neg then !WH xs ys else WH xs ys)) H)
def Li{xs c:List V}{g f:OC}(r:ZG xs g)(v:ZG c f)(D:xs.all WW=true)(E:c.all WW=true) :
  ∀(j:Nat) (h1:j<g.toArray.size) (i:j<f.toArray.size),SeqAt.EqAt A s g.toArray[j] f.toArray[j] (XU (xs.getD j .non) (c.getD j .non)):=by
 intro j h1 i;have B:=r.length;have G:=v.length;have h:j<xs.length:=by rw[B];simpa using h1
 have n:j<c.length:=by rw[G];simpa using i
 obtain⟨u,x,I⟩:=r.get (Ss h);obtain⟨w,y,H⟩:=v.get (Ss n);have J:g.toArray[j]=u:=by
  rw[List.getElem_toArray];rw[Ss (by simpa using h1)]at x;exact So x
 have C:f.toArray[j]=w:=by
  rw[List.getElem_toArray];rw[Ss (by simpa using i)]at y;exact So y
 have g1:xs.getD j .non=xs[j]:=by rw[List.getD_eq_getElem?_getD,Ss h];rfl
 have g2:c.getD j .non=c[j]:=by rw[List.getD_eq_getElem?_getD,Ss n];rfl
 rw[J,C,g1,g2];exact gL I H (List.all_eq_true.mp D _ (Oj h)) (List.all_eq_true.mp E _ (Oj n))
def Zin(g:X.A.units<cLine):YD X (compareOp .Eq) (Zaa X.K false):=by
 intro pins s O H x y v u Q I M E h;ext⟨l,b,f,c,rfl,rfl,D,C,J,L,q⟩ h;cases M;cases E;obtain⟨T,r,i,_⟩:=I.list D;obtain⟨S,j,n,_⟩:=I.list C;have G:=r.length;have P:=j.length;by_cases B:f.length=c.length;erw[SeqAt.eq_listAt i.isList n.isList (by simp;lia) g (Li r j J L) ?_];rw[SO,<-G,M0 f c B];exact⟨.bl _,H,I,R,q⟩;erw[SeqAt.eq_list_lengthsAt i.isList n.isList (by simp;lia) g ?_];rw[show(if false=true then !WH f c else WH f c)=false from MZ B]at q;exact⟨.bl _,H,I,R,q⟩
def Lj(g:X.A.units<cLine):YD X (compareOp .NotEq) (Zaa X.K true):=by
 intro pins s O H x y v u Q I M E h;ext⟨l,b,f,c,rfl,rfl,D,C,J,L,q⟩ h;cases M;cases E;obtain⟨T,r,i,_⟩:=I.list D;obtain⟨S,j,n,_⟩:=I.list C;have G:=r.length;have P:=j.length;by_cases B:f.length=c.length;erw[SeqAt.RcNeAt.lists i.isList n.isList (by simp;lia) g (Li r j J L) _ _ _ _ ?_];rw[SO,<-G,M0 f c B];exact⟨.bl _,H,I,R,q⟩;erw[SeqAt.RcNeAt.lists_lengths i.isList n.isList (by simp;lia) g _ _ _ _ ?_];rw[show(if true=true then !WH f c else WH f c)=true by rw[MZ B];rfl]at q;exact⟨.bl _,H,I,R,q⟩
theorem Zab:∀bs:List Bool,(List.range bs.length).all (λi=>bs.getD i false)=bs.all id
 |[]=>rfl
 |b::bs=>by
  rw[Sy,List.range_succ_eq_map,List.all_cons,List.all_map,List.all_cons];show(b && _)=(b && _);rw[<-Zab bs];rfl
def Rn(J:X.calm=true):Xk X (.builtin "all") (λxs H Q=>∃(p:Addr) (bs:List Bool),xs=[.ref p]/\Zd X.K H p (bs.map V.bl)/\Q (.bl (bs.all id)) H):=by
 intro pins s σ H xs us Q I r h;ext⟨p,bs,rfl,C,q⟩ h;obtain⟨b0,rfl,T⟩:=Xm r;cases T;obtain⟨f,u,j,hz⟩:=I.list C;have hlen:=u.length;obtain⟨o,a0,O,_⟩:=id j;have S:p≠s.heap.objs.size:=Sf (Se O);have tr:TruthOf X.prog X.w X.A.in1 (λi v=>f.toArray[i]? = some v) (λi=>bs.getD i false):=by
  intro i v s2 E E2 M D;have B:f[i]? = some v:=by simpa using M
  have y:i<bs.length:=by
   have:=(Sr.mp B).1;rw[<-hlen,Sv]at this;exact this
  obtain⟨w,c,g⟩:=u.get (i:=i) (x:=.bl bs[i]) (by rw[Ob,Ss y];rfl);rw[B]at c;cases c;cases g;erw[wpAny_truthy_bool ?_];have Z:bs.getD i false=bs[i]:=by rw[List.getD_eq_getElem?_getD,Ss y];rfl
  have n:E (bs.getD i false) s2:=D;rw[Z]at n;exact n
 erw[call_all_walk (wpAny_pyIter_list j.isList ?_)];erw[⟨s.heap.objs.size,[s.heap.objs.size,p],[s.heap.objs.size],f.toArray.size,_,_,_,R,Walks.list (A:=X.A.in1) (I.ok.hd J) _ _ S f.toArray,⟨⟨_,Sd _ R,R,R⟩,?_⟩,tr,λY tk U=>?_⟩];ext⟨G,g,L⟩ j.isList;exact⟨G,Sc _ g,L⟩;have P:∀b o,s.heap.get? b=some o->Y.get? b=some o:=λb o e=>U b o (λz=>by
  have c:=Se e;rw[SF.mp z]at c;exact Ot c (Sl _)) (Sc _ e)
 have e:(List.range f.toArray.size).all (λi=>bs.getD i false)=bs.all id:=by
  rw[SO,<-hlen,Sv];exact Zab bs
 rw[e];exact⟨.bl _,H,I.kept (t':=tk) P,R,q⟩
def Zb.laidN{h':Heap}(I:Zb X pins g H s)(k:∀b u,s.heap.get? b=some u->h'.get? b=some u)(hn:s.heap.get? a=none)
  (new:Yq X.prog X.w (upd H a o) h' a o):Zb X pins g (upd H a o) {s with heap:=h',toks:=t'}:=by
 have ha:H a=none:=I.hasNo hn;have nt:∀b u,H b=some u->b≠a:=λb u q=>Z4 q ha;erw[I.un ⟨λb u q _ _ _=>k b u q,λb u q _ _ _=>⟨u.slots,k b u q⟩,λb u q n _=>?_,λb u q _=>⟨u,k b u q⟩,λb h q=>?_,λb u h q=>?_,λb i q=>⟨#[],?_⟩⟩ λb u q=>?_];have ne:b≠a:=λz=>by rw[z,hn]at q;cases q
 rwa[Zm ne];rwa[Zm (nt _ _ q)];rwa[Zm (nt _ _ q)];rw[Zm (nt _ _ q),q];simp;by_cases f:b=a;subst f;rw[Zi]at q;cases q;exact new;rw[Zm f]at q;exact(I.hok b u q).stay (λc v _ z=>k c v z) (λc z=>by rwa[Zm (nt _ _ z)]) λc h z=>by rwa[Zm (nt _ _ z)]
def X2(z:Str)(c:Nat):Bool:=!(Builtin.Str.occurrences z ⟨#[c]⟩ 0 z.length 1).isEmpty
theorem Zac{g:Nat->Bool}:∀(cs:OH) (vs rs:OC),vs.length=cs.length->(∀(j:Nat) (v:Value),vs[j]? = some v->∃c u,cs[j]? = some c/\v=.str ⟨#[c]⟩ u) ->
  Paired (λv r=>∀c u,v=.str ⟨#[c]⟩ u->r=.bool (g c)) vs rs->ZG (cs.map λc=>V.bl (g c)) rs
 |[],[],_,_,_,.nil=>.nil
 |[],_::_,_,h,_,_=>nomatch h
 |_::_,[],_,h,_,_=>nomatch h
 |c::cs,v::vs,_,h,f,.cons r t=>by
  obtain⟨n,u,y,B⟩:=f 0 v R;have x:c=n:=by simpa using y
  subst x;exact .cons (r c u B) (Zac cs vs _ (by simpa using h) (λj w i=>by simpa using f (j+1) w (by simpa using i)) t)
section
variable{x z:Str}{p1 p2 p3 px:Pos}{iter:Expr}{ti:TE}{cl:Oz}{zs:Str}
def Zad(X:Cx)(scope:Scope)(cl:Oz)(z:Str)(p2:Pos)(zs:Str)(c:St):Prop :=
 ∀(pins:Ow) (H:Hp) (s1 s3:Shared) (C:Addr) (Q:Ov) (E:Ov),Zb X pins c H s1->(∀b o,s1.heap.get? b=some o->s3.heap.get? b=some o)->(∀t,Q (.str zs t) s3) ->
  wpAny (model X.prog X.w) X.A (eval (.Name z p2) (compEnvC scope cl C X.env)) Q E s3
def Zio(X:Cx)(scope:Scope)(cl:Oz)(z:Str)(p2:Pos)(ti:TE):TE:=λg H Q=>∃zs,Zad X scope cl z p2 zs g/\ti g H λv f=>∃y,v=.str y/\y.length<=sizeLine /\
 ∀p,f p=none->Q (.ref p) (upd f p (.lst (y.cps.toList.map λc=>V.bl (X2 zs c))))
def Zae(hc:X.calm=true)(hi:PE X iter ti)(h0:closureFor scope X.env=pure cl)(f0:∀y∈scope.names,y.2≠.cell)(Q:scope.kind=.function)
  (c0:∀y∈scope.names,y.2=.local->scope.names.lookup y.1=some .local) (O:scope.names.lookup x=some .local) (hs:∀v,foldedSetIterable iter X.env v=pure v:=by intro _;rfl) (hd:(x==("__debug__" : Str))=false:=by lia) :
  PE X (.ListComp (.Compare (.Name x p1) [.In] [.Name z p2] p3) [⟨.Name x px,iter,[],0⟩] scope pos) (Zio X scope cl z p2 ti):=by
 intro pins s σ j0 k0 b0 h;ext⟨zs,zr,h⟩ h;erw[wpAny_ListComp_free (cl:=cl) (λ_=>true) (λv r=>∀c u,v=.str ⟨#[c]⟩ u->r=.bool (X2 zs c)) h0 f0 Q c0 O (ZA (hi pins s σ j0 _ b0 h) λxv f ⟨v,M,G,r1,y,ev,hy,q⟩=>?_) hs];subst ev;ext⟨t,rfl⟩ r1;erw[wpAny_pyIter_str λo St W i0=>?_];have U:∀(E:Heap),(∀b g,b∉[f.heap.objs.size]->(f.heap.push o).get? b=some g->E.get? b=some g)->∀b g,f.heap.get? b=some g->E.get? b=some g:=λE B b g e =>
  B b g (λz=>by
   have n:=Se e;rw[SF.mp z]at n;exact Ot n (Sl _)) (Sc _ e)
 erw[⟨f.heap.objs.size,[f.heap.objs.size],[f.heap.objs.size],y.cps.size,SignAt y,St,R,W X.A (G.ok.hd hc),hy,i0,λb hb=>?_,⟨?_,?_⟩,?_⟩];rw[SF.mp hb];show f.heap.objs.size<(f.heap.push o).objs.size;rw[Heap.size_push];exact Sm _;intro C i v j T E' _ H hn hm B _;exact Sb ⟨R,j.heap,j.toks,R,λ_ _ e=>e⟩;intro C i v j T E' _ H _ hn hm B _;ext⟨c,u,_,rfl⟩ H;erw[wpAny_Compare1 (wpAny_Name (wpAny_loadName_local (env:=compEnvC scope cl C X.env) (m:=T) Q (lookup_relabel_local O) hn hm ?_) hd)];erw[zr pins M f j C _ _ G (U _ B) λt3=>?_];erw[in_str ⟨λY u' e=>?_,j.heap,j.toks,R,λ_ _ e=>e⟩];injection e with n _;injection n with I;have e3:c=Y:=by simpa using I
 subst e3;rfl;intro D E tk J L e0 hl g0 hlen H S B;have P:f.heap.get? D=none:=by
  cases e:f.heap.get? D with
  |none=>rfl
  |some u =>
   have:=Sc o e;rw[show(f.heap.push o).get? D=none from e0]at this;cases this
 ext⟨d0,hD⟩ g0;have Z:L.filter (λ_=>true)=L:=List.filter_eq_self.mpr λ_ _=>R;rw[Z]at S;have V1:ZG (y.cps.toList.map λc=>V.bl (X2 zs c)) J.toList:=Zac y.cps.toList L J.toList (by rw[hlen];simp) (λa0 v hv=>by
  obtain⟨c,u,n,I⟩:=H a0 v hv;exact⟨c,u,by simpa using n,I⟩) S
 have new:Yq X.prog X.w (upd M D (.lst (y.cps.toList.map λc=>V.bl (X2 zs c)))) E D (.lst (y.cps.toList.map λc=>V.bl (X2 zs c))):=by
  erw[⟨?_,J.toList,d0,V1,?_⟩];rw[Sv];have:y.cps.toList.length=y.length:=by simp[Str.length]
  lia;rw[Array.toArray_toList];exact hD
 exact⟨.ref D,_,G.laidN (t':=tk) (U E B) P new,R,q D (G.hasNo P)⟩
def Zaf(c:(relabel scope X.env).names.lookup z=some .globalImplicit)(g:scope.kind=.function)(hm:X.mg z=some (.str zs t))(hd:(z==("__debug__" : Str))=false:=by lia):Zad X scope cl z p2 zs f:=by
 intro pins H i h C Q E I k q;exact Calls.Name_function_global (env:=compEnvC scope cl C X.env) g c (Calls.loadGlobal_global (env:=compEnvC scope cl C X.env) (by
  show h.heap.Ns X.env.globals X.mg;rw[I.ok.glob];exact(I.mod.glob.keeps I.bk).keeps k) hm (q t)) hd
end
def VW:Xk X (.builtin "isinstance") (λxs H Q=>∃x T t b,xs=[x,.ty T]/\X9 X.K H x t/\W.kitOne X.K t (.type T)=some b/\Q (.bl b) H):=by
 intro pins s i H xs j Q I r h;ext⟨x,T,t,b,rfl,ty,e,q⟩ h;obtain⟨u,g,rfl,c,f⟩:=kS r;cases (show g=Value.type T from f);exact kU I c ty e λtk=>⟨.bl b,H,I.tok _,R,q⟩
def M3:Xk X (.builtin "isinstance") (λxs H Q=>∃x C t b,xs=[x,.ref C]/\X9 X.K H x t/\W.kitOne X.K t (.ref C)=some b/\Q (.bl b) H):=by
 intro pins s i H xs j Q I r h;ext⟨x,C,t,b,rfl,ty,e,q⟩ h;obtain⟨u,g,rfl,c,f⟩:=kS r;cases (show g=Value.ref C from f);exact kU I c ty e λtk=>⟨.bl b,H,I.tok _,R,q⟩
section
variable{x:Str}
def M4(c:Gl X x)(hm:X.mg x=some (.ref a))(hd:(x==("__debug__" : Str))=false:=by lia):PE X (.Name x pos) (tC (.ref a)):=kD c hm R hd
def VX(f:Gl X x)(hm:X.mg x=none)(c:bootBuiltins x=some (.type T))(hn:x ≠ "__name__" := by lia) (hd:(x==("__debug__" : Str))=false:=by lia):PE X (.Name x pos) (tC (.ty T)):=ZgC f hm c R hn hd
end
open PySem PySem.Spec PyProof.Rows PySem.W PySem.Calls Builtin Builtin.ObjectAttr Builtin.Getset_descriptor
section
variable{a C:Addr}{o:Obj}{R:Result->Shared->Prop}
structure XE(K:Oy)(C:Addr):Prop where
 cl:(W.clsIn K C).isSome=true
 g1:W.findIn K (.ref C) "__getattribute__"=some (some (.builtin "BaseException.__getattribute__"))
 g2:W.findIn K (.ref C) "__getattr__"=some none
 g3:W.findIn K (.ref C) "__class__"=some (some (.builtin "object.__class__"))
 g4:W.mroIn K C (.type "object")=some true
 g5:W.mroIn K C (.type "BaseException")=some true
 g6:W.specialIn K (.builtin "object.__class__") "__get__"=some (some (.builtin "getset_descriptor.__get__"))
 g7:W.takesIn K (.builtin "object.__class__")=some true
end
def VY{f:Type}{t:Sem f}{Q c:f->Shared->Prop}{M:Model}(h:wpAny M A t Q (λ_ _=>False) s)(g:∀a s,Q a s->c a s):wpAny M A t c E s:=Os h g λ_ _ z=>z.elim
abbrev Zag(ifs:OE)(env:Env):Sem Bool:=forIn ifs true λc r=>if r=true then do let ok <-isTrue c env (eval c env);pure (ForInStep.yield ok)else pure (ForInStep.yield r)
theorem Zip{R:Result->Shared->Prop}{iter : Expr}{H:Pos}(J:Nat->Shared->Prop)
  (turn:∀k c,J k c->wpAny (model prog w) A (pyNext it) (λr s2=>match r with
   |none=>R (.ok .next) s2
   |some v=>wpAny (model prog w) A (letOwnedTupleGo f it v) (λ_ B=>wpAny (model prog w) A (assign f env v) (λ_ D=>wpAny (model prog w) A (Zag u env) (λok s5 =>
     if ok=true then wpAny (model prog w) A (eval C env) (λx y=>wpAny (model prog w) A (call (.builtin "list.append") [i,x]) (λ_ j=>∃m,m<k/\J m j) (λ_ _=>False) y) (λ_ _=>False) s5
     else ∃m,m<k/\J m s5) (λ_ _=>False) D) (λ_ _=>False) B) (λ_ _=>False) s2) (λ_ _=>False) c)
  (k:Nat) (h:J k s):codeAny (model prog w) A (.compLoop (.ListComp C [⟨f,iter,u,0⟩] scope H) 0 it i env) R s:=by
 erw[codeAny_loop rfl J (λk c I=>?_) k h];erw[wpAny_noted ?_];rw[compTurn_list];erw[Sa (wpAny_standAt (Sa (VY (turn k c I) λr s2 n=>?_)))];cases r with
 |none=>exact Sb n
 |some v =>
  erw[Sa (VY n λ_ B M=>Sa (VY M λ_ D E=>Sa (VY E λok s5 g=>?_)))];cases ok with
  |false=>exact Sb ⟨rfl,g⟩
  |true=>exact Sa (Sa (VY g λx y G=>Sa (VY G λ_ j L=>Sb (Sb ⟨rfl,L⟩))))
abbrev XV(X:Cx)(N:OD)(scope:Scope)(cl:Oz)(C:Addr)(s0:Shared)(H0:Hp)(ex:OI)(pins:Ow):Cx :=
 {X with N:=N,s₀:=s0,H₀:=H0,env:=compEnvC scope cl C X.env,outer:=X.stack,stack:=X.stack,ex:=ex,fn:=λ_=>false,pn:=X.pn++pins,xe:=λ_ _=>False}
def Vp(X:Cx)(scope:Scope)(cl:Oz):List Str->List (Option Nat)->Prop
 |[],[]=>True
 |_::N,none::fr=>Vp X scope cl N fr
 |y::N,some i::fr=>(X.N[i]? = some y/\(X.env.kindOf y=some .cell\/X.env.kindOf y=some .free)/\((relabel scope X.env).names.lookup y=some .cell\/(relabel scope X.env).names.lookup y=some .free) /\
   ∃c,X.env.cells.lookup y=some c/\cl.lookup y=some c)/\Vp X scope cl N fr
 |_,_=>False
def E4(fr:List (Option Nat))(c:St):St:=fr.map λo=>match o with|none=>none|some i=>(c[i]?).getD none
theorem Vp.len:∀{N:OD} {fr:List (Option Nat)},Vp X scope cl N fr->fr.length=N.length
 |[],[],_=>rfl
 |_::N,none::fr,h=>by rw[Sy,Sy,Vp.len (N:=N) h]
 |_::N,some i::fr,h=>by rw[Sy,Sy,Vp.len (N:=N) h.2]
 |[],_::_,h=>h.elim
 |_::_,[],h=>h.elim
theorem Vp.at{cl:Oz}:∀{N:OD} {fr:List (Option Nat)} {j:Nat},Vp X scope cl N fr->N[j]? = some y->(E4 fr g)[j]? = some (some v) ->
  ∃i:Nat,g[i]? = some (some v)/\X.N[i]? = some y/\(X.env.kindOf y=some .cell\/X.env.kindOf y=some .free)/\((relabel scope X.env).names.lookup y=some .cell\/(relabel scope X.env).names.lookup y=some .free) /\
   ∃c,X.env.cells.lookup y=some c/\cl.lookup y=some c
 |[],[],j,_,e,_=>by simp at e
 |[],_::_,_,h,_,_=>h.elim
 |_::_,[],_,h,_,_=>h.elim
 |_::N,none::fr,0,_,_,q=>by cases q
 |_::N,none::fr,j+1,h,e,q=>Vp.at (N:=N) (fr:=fr) (j:=j) h e q
 |x::N,some i::fr,0,h,e,q=>by
  have n:x=y:=So e;subst n;have f:some ((g[i]?).getD none)=some (some v):=q;erw[⟨i,?_,h.1⟩];cases z:g[i]? with
  |none=>rw[z]at f;cases f
  |some o=>rw[z]at f;exact congrArg some (So f)
 |_::N,some i::fr,j+1,h,e,q=>Vp.at (N:=N) (fr:=fr) (j:=j) h.2 e q
def Qt(X:Cx):List (Str×Addr)->Prop
 |[]=>True
 |(y,c)::r=>X.env.cells.lookup y=some c/\Qt X r
theorem Qt.at:∀{cl:Oz},Qt X cl->cl.lookup y=some c->X.env.cells.lookup y=some c
 |[],_,e=>by cases e
 |(z,d)::r,h,e=>by
  rw[List.lookup_cons]at e;cases q:y==z with
  |true =>
   rw[q]at e;have f:y=z:=by simpa using q
   have g:d=c:=So e;subst f g;exact h.1
  |false =>
   rw[q]at e;exact Qt.at h.2 e
theorem Zah{c:Type}{p:Str×c->Bool}{y:Str}{k:c}:∀{l:List (Str×c)},l.all p=true->l.lookup y=some k->p (y,k)=true
 |[],_,e=>by cases e
 |(z,d)::r,h,e=>by
  rw[List.all_cons,Bool.and_eq_true]at h;rw[List.lookup_cons]at e;cases q:y==z with
  |true =>
   rw[q]at e;have f:y=z:=by simpa using q
   have g:d=k:=So e;subst f g;exact h.1
  |false =>
   rw[q]at e;exact Zah h.2 e
section
variable{σ:St}{N:OD}{fr:List (Option Nat)}{cl:Oz}
def Zb.block{h':Heap}(I:Zb X pins σ H s)(Z:scope.kind=.function)(L:Vp X scope cl N fr)(h:Qt X cl)
  (S:((relabel scope X.env).names.all λp=>!(p.2==.cell || p.2==.free) || (cl.lookup p.1).isSome)=true) (i:∀b∈ex,VA X pins H b) (a0:∀b∈ex,b<s.heap.objs.size)
  (g:∀b o,s.heap.get? b=some o->h'.get? b=some o) (n:s.heap.objs.size<=C) (e0:h'.Ns C m):Zb (XV X N scope cl C s H ex pins) [] (E4 fr σ) H {s with heap:=h',toks:=tk}:=by
 have G:∀b,b≠X.env.locals->b∉X.fs->b∉Yj X.stack:=λb h1 h2 z=>(SG.mp (I.stkSub b z)).elim h1 h2;have g0:∀b o,s.heap.get? b=some o->b≠C:=λb o e=>Sf (Si (Se e) n);refine⟨⟨I.ok.mod,Z,I.ok.glob,I.ok.blt,n,λx d0 c y B=>I.ok.inj x d0 c (h.at y) (h.at B),λx T=>?_,(λ_ _ z=>nomatch z),I.ok.hd,I.ok.frames,.inl R,λb f=>⟨Sf (Si (a0 b f) n),λx c e=>(i b f).2.2.2.2.1 x c (h.at e)⟩,
   I.bs,Sh I.ok.bsz I.sz,λb o e f=>?_,λb f=>G b (i b f).2.1 (i b f).2.2.1,I.stack,I.stkFree⟩,R,I.bare,Un.kept g,⟨m,e0,λh0 x v y B e3=>?_⟩,λx c e=>?_,?_,λx c e=>I.freeC x c (h.at e),λp Q=>?_,I.hok.kept g,?_⟩
 have q:∃k,(relabel scope X.env).names.lookup x=some k/\(k=.cell\/k=.free):=T.elim (λz=>⟨_,z,.inl R⟩) λz=>⟨_,z,.inr R⟩;ext⟨k,u,D⟩ q;have z:=Zah S u;have z2:(cl.lookup x).isSome=true:=by
  rcases D with rfl|rfl;simpa using z;simpa using z
 exact Option.isSome_iff_exists.mp z2;rcases(i b f).2.2.2.1 with z|z;exact I.ok.noex b o e z;exact Ot (Si (Si (Se e) I.ok.bsz) z) (Sl _);obtain⟨j,u,D,J,P,c,U,O⟩:=L.at y B;ext⟨m0,i0,c0⟩ I.loc;obtain⟨f0,r,l⟩:=c0 j x v D u (J.elim (λz=>.inr (.inl z)) λz=>.inr (.inr z));erw[⟨f0,r,.inr ⟨P,c,O,?_⟩⟩];rcases l with⟨k,_⟩|⟨_,c',M,o,E,hd⟩;rcases J with z|z;rw[z]at k;cases k;rw[z]at k;cases k;rw[U]at M;cases M;exact⟨o,g _ _ E,hd⟩;obtain⟨v,o,E,hd⟩:=I.cell x c (h.at e);exact⟨v,o,g _ _ E,hd⟩;exact I.hok.fresh n;have Y:p∈X.pn++pins:=by simpa using Q
 obtain⟨e,b0,ne,nf,d⟩:=I.pin p Y;exact⟨g _ _ e,b0,g0 _ _ e,G _ ne nf,d⟩;show(E4 fr σ).length=N.length;unfold E4;rw[Sv,L.len]
def Zb.trackS{ob:Obj}(I:Zb X pins σ H s)(ha:H a=none)(i:s.heap.get? a=some ob)(hd:ob.data=.seq vs n)
  (B:X.s₀.heap.get? a=none) (C:∀p∈X.pn++pins,p.1≠a) (new:Yq X.prog X.w (upd H a o) s.heap a o):Zb X pins σ (upd H a o) s:=by
 have nt:∀b u,H b=some u->b≠a:=λb u q=>Z4 q ha;erw[⟨I.ok,I.os,I.bare,⟨I.base.keep,I.base.slot,λb u e n x=>?_,I.base.there,λb h q=>?_,λb u h q=>?_,λb D q=>?_⟩,I.loc,I.cell,?_,λy c e=>?_,λp q=>?_,λb u q=>?_,I.len⟩];have ne:b≠a:=λz=>by rw[z,B]at e;cases e
 rw[Zm ne];exact I.base.free b u e n x;have z:=I.base.tups b h q;rwa[Zm (nt _ _ z)];have z:=I.base.frzs b u h q;rwa[Zm (nt _ _ z)];obtain⟨m,z⟩:=I.base.tbls b D q;exact⟨m,by rwa[Zm (nt _ _ z)]⟩;have ne:X.env.locals≠a:=λz=>by
  ext⟨m,⟨G,J,E,f,g,_⟩,_⟩ I.loc;rw[z,i]at f;cases f;rw[hd]at g;cases g
 rw[Zm ne];exact I.free;have ne:c≠a:=λz=>by
  obtain⟨v,L,f,g⟩:=I.cell y c e;rw[z,i]at f;cases f;rw[hd]at g;cases g
 rw[Zm ne];exact I.freeC y c e;obtain⟨e,n,r⟩:=I.pin p q;exact⟨e,by rwa[Zm (C p q)],r⟩;by_cases j:b=a;subst j;rw[Zi]at q;cases q;exact new;rw[Zm j]at q;exact(I.hok b u q).stay (λc v _ z=>z) (λc z=>by rwa[Zm (nt _ _ z)]) λc h z=>by rwa[Zm (nt _ _ z)]
end
def Lk(X:Cx)(c:OE)(t:TT):Prop :=
 ∀(pins:Ow) (s:Shared) (σ:St) (H:Hp) (Q:Bool->Hp->Prop),Zb X pins σ H s->t σ H Q->wpAny (model X.prog X.w) X.A (Zag c X.env) (TP X pins σ Q) X.xe s
def Y4:TT:=λ_ H Q=>Q true H
def YM:Lk X [] Y4:=λ_ _ _ H _ I h=>wpAny_tests_nil ⟨H,I,h⟩
def M5(h:PT X c t):Lk X [c] t:=λpins s f H Q I q=>wpAny_tests_one (h pins s f H Q I q)
def Wd(Q:VK)(c:List V)(H:Hp):Prop:=∀p,H p=none->Q (.ref p) (upd H p (.lst c))
def Ro(fr:List (Option Nat))(L:TI)(g:TG)(G:TT)(E:TE):TE:=λn H Q=>L n H λJ D=>∃W:Nat->Nat->List V->St->Hp->Prop,(∃m,W 0 m [] (E4 fr n) D)/\∀i m c v H,W i m c v H ->
 (J.stop i H/\Wd Q c H) \/
 (J.go i H/\c.length<sizeLine/\∃N:List V->St->Hp->Prop,(∀u j f,N u j f->∃B,B<m/\W (i+1) B u j f)/\∀x f,J.yld i H x f->g x v f λh M=>G h M λb C=>if b=true then E h C λy I=>N (c++[y]) h I else N c h C)
def Zai{iter : Expr}{cl:Oz}
  (hc:X.calm=true) (hi:PI X tg iter wi) (n1:closureFor scope X.env=pure cl) (j1:∀y∈scope.names,y.2≠.cell) (l0:scope.kind=.function)
  (i1:∀y∈scope.names,y.2=.local->scope.names.lookup y.1=some .local) (p1:Vp X scope cl N fr) (k0:Qt X cl)
  (m1:((relabel scope X.env).names.all λp=>!(p.2==.cell || p.2==.free) || (cl.lookup p.1).isSome)=true)
  (hg:∀C s0 Y ex pins,PG (XV X N scope cl C s0 Y ex pins) tg g) (ht:∀C s0 Y ex pins,Lk (XV X N scope cl C s0 Y ex pins) j0 tt) (he:∀C s0 Y ex pins,PE (XV X N scope cl C s0 Y ex pins) g0 te)
  (hs:∀v,foldedSetIterable iter X.env v=pure v) (q1:Zb X pins σ H s) (h:Ro fr wi g tt te σ H Q)
  (f1:∀(D:Nat) (s2 s6:Shared) (u M:Hp) (fp:OI) (J:List V) (j:OC) (I:Nat) (P:St),s2.heap.objs.size=D->Zb X pins σ u s2->(∀b∈fp,VA X pins u b)->Zb (XV X N scope cl (D+1) s2 u fp pins) [(D,{cls:=.type "list",dict:=none,data:=.seq (List.toArray j) I})] P M s6->M D=none->ZG J j->J.length<=sizeLine->Wd Q J M->(∀p∈X.pn++pins,p.1<D)->X.s₀.heap.get? D=none->compPost (model X.prog X.w) X.A X.xe i0 Qf (.ref D) (D+1) (.ok .next) s6) :
  wpAny (model X.prog X.w) X.A (comprehension (.ListComp g0 [⟨tg,iter,j0,0⟩] scope z0) scope X.env t1 (newList []) false (eval iter X.env) i0) Qf X.xe s:=by
 erw[wpAny_comprehension_free R hs n1 l0 i1 (ZA (hi pins s σ H _ q1 h) λxv s1 h1=>ZA h1 λb2 s2 h2=>?_)];ext⟨it,fp,tn,c2,u,e,O,T,h0,f2,W,⟨m0,w0⟩,turn⟩ h2;subst e;erw[wpAny_newObj_type (wpAny_newFunctionEnv j1 (λy hy=>nomatch hy) (λh4 d0 c0=>?_) l0)];dsimp only at d0 c0 ⊢;generalize E:s2.heap.objs.size=D at *;generalize hG:s2.heap.push {cls:=.type "list",dict:=none,data:=.seq ([]:OC).toArray} = r0 at d0 c0 ⊢;have hC:r0.objs.size=D+1:=by rw[<-hG,Heap.size_push,E]
 generalize a2:r0.objs.size=C at d0 c0 hC ⊢;subst hC;have f0:∀b o,s2.heap.get? b=some o->h4.get? b=some o:=λb o e=>by
  have lt:=Se e;rw[E]at lt;exact c0.extBut b o (Sf (Sn lt)) (Sc _ (hG ▸ Sc _ e))
 have y1:h4.get? D=some {cls:=.type "list",dict:=none,data:=.seq ([]:OC).toArray 0} :=
  c0.extBut _ _ (Sf (Sm _)) (Sc _ (hG ▸ E ▸ Sd _ R))
 have flt:∀b∈fp,b<D:=λb f=>by
  obtain⟨o,e,_⟩:=T.obj 0 _ h0 b f;have lt:=Se e;rw[E]at lt;exact lt
 have u1:∀b,b≠X.env.locals->b∉X.fs->b∉Yj X.stack:=λb h1 h2 z=>(SG.mp (O.stkSub b z)).elim h1 h2;have pl:∀p∈X.pn++pins,p.1<D:=λp G=>by
  have lt:=Se (O.pin p G).1;rw[E]at lt;exact lt
 have I4:∀tk,Zb (XV X N scope cl (D+1) s2 u fp pins) [] (E4 fr σ) u {s2 with heap:=h4,toks:=tk}:=λtk =>
  O.block l0 p1 k0 m1 f2 (λb f=>by rw[E];exact flt b f) f0 (by rw[E];exact Nat.le_succ _) d0
 have e0:∀{B:Hp} {o:Obj},(∀b∈fp,B b=none)->∀b∈fp,VA (XV X N scope cl (D+1) s2 u fp pins) [(D,o)] B b:=λ{B o} hn b f=>by
  obtain⟨_,Z,k2,_,U,k5⟩:=f2 b f;erw[⟨hn b f,Sf (Sn (flt b f)),u1 b Z k2,.inl f,λx c e=>U x c (k0.at e),λp G=>?_⟩];rcases SH.mp G with G|G;exact k5 p G;rw[SF.mp G];exact(Sf (flt b f)).symm
 have c1:D∉Yj X.stack:=λz=>by
  obtain⟨_,o,e,_⟩:=O.stack.mem z;have lt:=Se e;rw[E]at lt;exact Ot lt (Sl _)
 have loop:∀tk,codeAny (model X.prog X.w) X.A (.compLoop (.ListComp g0 [⟨tg,iter,j0,0⟩] scope z0) 0 (.ref it) (.ref D) (compEnvC scope cl (D+1) X.env)) (compPost (model X.prog X.w) X.A X.xe i0 Qf (.ref D) (D+1)) {s2 with heap:=h4,toks:=tk}:=λtk=>by
  refine Zip (λk L=>∃i a0 B j I J,Zb (XV X N scope cl (D+1) s2 u fp pins) [] a0 B L /\
    L.heap.get? D=some {cls:=.type "list",dict:=none,data:=.seq (List.toArray j) I}/\B D=none/\ZG J j/\J.length<=sizeLine/\tn i L.heap/\(∀b∈fp,B b=none)/\W i k J a0 B) ?_ m0
   ⟨0,_,u,[],0,[],I4 tk,y1,O.hok.fresh (by rw[E];exact Sg _),.nil,Sk _,T.keep 0 _ _ h0 λb _ o e=>f0 b o e,λb f=>(f2 b f).1,w0⟩
  rintro k s5 ⟨i,P,M,j,I,J,I5,hL,x0,va,t0,u0,q0,w5⟩;have d1:∀x c,cl.lookup x=some c->c≠D:=λx c e z=>by
   obtain⟨v,q⟩:=O.cell x c (k0.at e);have lt:=q.lt;rw[E,z]at lt;exact Ot lt (Sl _)
  have p0:Zb (XV X N scope cl (D+1) s2 u fp pins) [(D,{cls:=.type "list",dict:=none,data:=.seq (List.toArray j) I})] P M s5:=I5.pins_of λp G=>by
   rw[SF.mp G];exact⟨hL,x0,Sf (Sm _),c1,λv z=>by cases z⟩
  rcases turn i k J P M w5 with⟨stop,qn⟩|⟨go,d2,N1,v0,step⟩;erw[VY (T.done (XV X N scope cl (D+1) s2 u fp pins) R R R hc i _ s5 _ M _ p0 (e0 q0) u0 stop) λr s6 ⟨hr,I6⟩=>?_];subst hr;exact f1 D s2 s6 u M fp J j I P E O f2 I6 x0 va t0 qn pl (by
    cases z:X.s₀.heap.get? D with
    |none=>rfl
    |some o =>
     have lt:=Si (Se z) O.sz;rw[E]at lt;exact Ot lt (Sl _))
  erw[VY (T.item (XV X N scope cl (D+1) s2 u fp pins) R R R hc i _ s5 _ M _ p0 (e0 q0) u0 go) λr s6 ⟨w1,hr,h6⟩=>?_];subst hr;erw[VY h6 λ_ s7 ⟨x,H7,I7,r7,y7,n0,v1⟩=>?_];have a1:Zb (XV X N scope cl (D+1) s2 u fp pins) ([(D,{cls:=.type "list",dict:=none,data:=.seq (List.toArray j) I})]++QZ fp s7.heap) P H7 s7:=I7.pinned (e0 v1) (T.obj _ _ n0);erw[VY (hg _ _ _ _ _ _ s7 _ H7 x w1 _ a1 r7 (step x H7 y7)) λ_ s8 ⟨b0,H8,I8,q8⟩=>?_];erw[VY (ht _ _ _ _ _ _ s8 b0 H8 _ I8 q8) λok s9 ⟨H9,I9,q9⟩=>?_];have wk:∀{a0:St} {B:Hp} {L:Shared},Zb (XV X N scope cl (D+1) s2 u fp pins) ([(D,{cls:=.type "list",dict:=none,data:=.seq (List.toArray j) I})]++QZ fp s7.heap) a0 B L ->
    tn (i+1) L.heap/\(∀b∈fp,B b=none)/\L.heap.get? D=some {cls:=.type "list",dict:=none,data:=.seq (List.toArray j) I}/\B D=none:=λ{a0 B L} J'=>by
   have pin:∀p∈([(D,{cls:=.type "list",dict:=none,data:=.seq (List.toArray j) I})]:Ow)++QZ fp s7.heap,L.heap.get? p.1=some p.2/\B p.1=none:=λp G=>let ⟨e,n,_⟩:=J'.pin p (SI _ G);⟨e,n⟩;erw[⟨T.keep _ _ _ n0 λb f o e=>(pin (b,o) (SI _ (MI f e))).1,λb f=>?_,(pin (D,_) (SJ _ (SF.mpr R))).1,(pin (D,_) (SJ _ (SF.mpr R))).2⟩];obtain⟨o,e,_⟩:=T.obj _ _ n0 b f;exact(pin (b,o) (SI _ (MI f e))).2
  cases ok with
  |false =>
   obtain⟨m',hm,w9⟩:=v0 _ _ _ q9;obtain⟨Z,k2,k3,U⟩:=wk I9;exact⟨m',hm,i+1,b0,H9,j,I,J,I9.pins_of (λ_ z=>nomatch z),k3,U,va,t0,Z,k2,w9⟩
  |true =>
   erw[VY (he _ _ _ _ _ _ s9 b0 H9 _ I9 q9) λy S ⟨v,o0,y0,l1,x1⟩=>?_];obtain⟨m',hm,b1⟩:=v0 _ _ _ x1;obtain⟨Z,k2,k3,U⟩:=wk y0;erw[call_meets F.slot_list_append ⟨_,k3,R⟩ F.entry_list_append (F.args_list_append_2 _ _) (PySem.list_append D j.toArray I y (by rw[SO,<-va.length];lia)) ⟨k3,?_⟩];have up:∀b o,b≠D->S.heap.get? b=some o->(S.heap.update D (Obj.mapSeq λz=>z.push y)).get? b=some o:=λb o f e=>(Heap.get?_update_other S.heap _ (Ne.symm f)).trans e;have o1:Zb (XV X N scope cl (D+1) s2 u fp pins) [] b0 o0 {S with heap:=S.heap.update D (Obj.mapSeq λz=>z.push y),toks:=S.toks} :=
    (y0.pins_of (pins':=[]) λ_ z=>nomatch z).turned up U (Sf (Sm _)) (.inr (by rw[E];exact Sg _)) d1 λp G=>by
     have e1:p∈X.pn++pins:=by simpa using G
     exact Sf (pl p e1)
   have q:=PySem.IsL.update k3 (λz=>z.push y);rw[show(List.toArray j).push y=(j++[y]).toArray by simp]at q;erw[⟨m',hm,i+1,b0,o0,j++[y],_,J++[v],o1,q,U,va.append (.cons l1 .nil),?_,T.keep _ _ _ Z λb f o e=>up b o (Sf (flt b f)) e,k2,b1⟩];rw[Su,Sw];lia
 exact codeAny_compStart_list (loop _) (T.self _ 0 _ _ _ (T.keep 0 _ _ h0 λb _ o e=>f0 b o e) (loop _))
def YZ{P iter : Expr}{cl:Oz}
  (B:X.calm=true) (hi:PI X I iter S) (k0:closureFor scope X.env=pure cl) (i0:∀y∈scope.names,y.2≠.cell) (f0:scope.kind=.function)
  (g0:∀y∈scope.names,y.2=.local->scope.names.lookup y.1=some .local) (o0:Vp X scope cl N fr) (n0:Qt X cl)
  (e0:((relabel scope X.env).names.all λp=>!(p.2==.cell || p.2==.free) || (cl.lookup p.1).isSome)=true)
  (hg:∀C E j ex pins,PG (XV X N scope cl C E j ex pins) I g) (ht:∀C E j ex pins,Lk (XV X N scope cl C E j ex pins) Q O) (he:∀C E j ex pins,PE (XV X N scope cl C E j ex pins) P L)
  (hs:∀v,foldedSetIterable iter X.env v=pure v:=by intro _;rfl):PE X (.ListComp P [⟨I,iter,Q,0⟩] scope m0) (Ro fr S g O L):=by
 intro pins s M r0 q0 c0 b0;rw[eval_ListComp];erw[Zai B hi k0 i0 f0 g0 o0 n0 e0 hg ht he hs c0 b0 λD s2 J H2 h fp a0 T Y p0 hD I2 f2 c Z va j0 qn pl hz=>?_];ext⟨m6,l0,_⟩ c.loc;erw[⟨m6,l0,λf i=>?_⟩];have U:f.get? D=some {cls:=.type "list",dict:=none,data:=.seq (List.toArray T) Y}:=i.extBut _ _ (Sf (Sm _)) (c.pin (D,_) (SI _ (SF.mpr R))).1;have H:∀b o,s2.heap.get? b=some o->b≠D+1:=λb o e=>by
  have lt:=Se e;rw[hD]at lt;exact Sf (Sn lt)
 have nt:∀b u,h b=some u->b≠D+1:=λb u q z=>by
  have d0:=c.free;rw[z]at q;rw[show h (D+1)=none from d0]at q;cases q
 have un:Un (Yj X.stack) fp H2 h s2.heap f:=⟨λb o e n G x=>i.extBut b o (H b o e) (c.base.keep b o e n G x),
  λb o e n G x=>let ⟨sl,q⟩:=c.base.slot b o e n G x;⟨sl,i.extBut b _ (H b o e) q⟩,c.base.free,λb o e x=>let ⟨o',q⟩:=c.base.there b o e x;⟨o',i.extBut b _ (H b o e) q⟩,c.base.tups,c.base.frzs,c.base.tbls⟩
 have hok:YK X.prog X.w h f:=λb u q=>(c.hok b u q).stay (λh0 v B e=>i.extBut h0 v (by
  rcases B with rfl|B;exact nt _ _ q;exact nt _ _ B) e) (λ_ z=>z) λ_ _ z=>z
 have I8:Zb X pins M h {J with heap:=f}:=I2.call' (s':={J with heap:=f}) c.os un hok c.bare λb G=>let ⟨_,k1,_,k3,k4,k5⟩:=f2 b G;⟨k3,k1,k4,k5⟩;have I9:Zb X pins M (upd h D (.lst a0)) {J with heap:=f}:=I8.trackS Z U R hz (λp hp=>Sf (pl p hp)) ⟨j0,T,Y,va,U⟩;exact⟨.ref D,_,I9,R,qn D Z⟩
def Vq{a:Addr}{xs:List V}{g:TG}{I:TT}{G:TE}{M:St}{Q:VK}(n:Nat->List V->St->Hp->Prop)(O:n 0 [] M H)(hz:xs.length<=sizeLine)(T:∀i c j H,i<=xs.length->n i c j H->Zd K H a xs)
  (P:∀i x c j H,c.length<=i->xs[i]? = some x->n i c j H->g x j H λh E=>I h E λb C=>if b=true then G h C λy D=>(c++[y]).length<=i+1/\n (i+1) (c++[y]) h D else c.length<=i+1/\n (i+1) c h C)
  (hd:∀c j H,c.length<=xs.length->n xs.length c j H->Wd Q c H) :
  ∃W:Nat->Nat->List V->St->Hp->Prop,(∃m,W 0 m [] M H)/\∀i m c v H,W i m c v H ->
   ((Wr K a).stop i H/\Wd Q c H) \/
   ((Wr K a).go i H/\c.length<sizeLine/\∃N:List V->St->Hp->Prop,(∀u B f,N u B f->∃J,J<m/\W (i+1) J u B f)/\∀x f,(Wr K a).yld i H x f->g x v f λh E=>I h E λb C=>if b=true then G h C λy D=>N (c++[y]) h D else N c h C):=by
 erw[⟨λi m c j H=>m=xs.length - i/\i<=xs.length/\c.length<=i/\n i c j H,⟨xs.length,by simp,Sk _,Sk _,O⟩,?_⟩];rintro i m c v H ⟨rfl,S,ha,p⟩;have q:=T i c v H S p;by_cases L:i<xs.length;erw[.inr ⟨⟨xs,xs[i],q,by simp[L]⟩,(),λu B f=>u.length<=i+1/\n (i+1) u B f,λu B f z=>⟨xs.length - (i+1),(),R,L,z.1,z.2⟩,λx f y=>?_⟩];ext⟨e,y⟩ y;subst e;exact P i x c v _ ha (y xs q) p;have e:i=xs.length:=by lia
 subst e;exact .inl ⟨⟨xs,q,Sg _⟩,hd c v H ha p⟩
def Ziq{a:Addr}{xs:List V}{g:TG}{I:TT}{G:TE}{M:St}{Q:VK}(n:Nat->List V->St->Hp->Prop)(O:n 0 [] M H)(hz:xs.length<=sizeLine)(T:∀i c j H,i<=xs.length->n i c j H->Zg K H a xs)
  (P:∀i x c j H,c.length<=i->xs[i]? = some x->n i c j H->g x j H λh E=>I h E λb C=>if b=true then G h C λy D=>(c++[y]).length<=i+1/\n (i+1) (c++[y]) h D else c.length<=i+1/\n (i+1) c h C)
  (hd:∀c j H,c.length<=xs.length->n xs.length c j H->Wd Q c H) :
  ∃W:Nat->Nat->List V->St->Hp->Prop,(∃m,W 0 m [] M H)/\∀i m c v H,W i m c v H ->
   ((Qo K a).stop i H/\Wd Q c H) \/
   ((Qo K a).go i H/\c.length<sizeLine/\∃N:List V->St->Hp->Prop,(∀u B f,N u B f->∃J,J<m/\W (i+1) J u B f)/\∀x f,(Qo K a).yld i H x f->g x v f λh E=>I h E λb C=>if b=true then G h C λy D=>N (c++[y]) h D else N c h C):=by
 erw[⟨λi m c j H=>m=xs.length - i/\i<=xs.length/\c.length<=i/\n i c j H,⟨xs.length,by simp,Sk _,Sk _,O⟩,?_⟩];rintro i m c v H ⟨rfl,S,ha,p⟩;have q:=T i c v H S p;by_cases L:i<xs.length;erw[.inr ⟨⟨xs,xs[i],q,by simp[L]⟩,(),λu B f=>u.length<=i+1/\n (i+1) u B f,λu B f z=>⟨xs.length - (i+1),(),R,L,z.1,z.2⟩,λx f y=>?_⟩];ext⟨e,y⟩ y;subst e;exact P i x c v _ ha (y xs q) p;have e:i=xs.length:=by lia
 subst e;exact .inl ⟨⟨xs,q,Sg _⟩,hd c v H ha p⟩
def Qu{lo:Int}{n:Nat}{g:TG}{L:TT}{J:TE}{O:St}{Q:VK}(j:Nat->List V->St->Hp->Prop)(P:j 0 [] O H)(hz:n<=sizeLine)
  (S:∀i c u H,i<n->c.length<=i->j i c u H->g (.int (lo+i)) u H λh I=>L h I λb D=>if b=true then J h D λy E=>(c++[y]).length<=i+1/\j (i+1) (c++[y]) h E else c.length<=i+1/\j (i+1) c h D)
  (hd:∀c u H,c.length<=n->j n c u H->Wd Q c H) :
  ∃W:Nat->Nat->List V->St->Hp->Prop,(∃m,W 0 m [] O H)/\∀i m c C H,W i m c C H ->
   ((Uw lo n).stop i H/\Wd Q c H) \/
   ((Uw lo n).go i H/\c.length<sizeLine/\∃N:List V->St->Hp->Prop,(∀v B f,N v B f->∃M,M<m/\W (i+1) M v B f)/\∀x f,(Uw lo n).yld i H x f->g x C f λh I=>L h I λb D=>if b=true then J h D λy E=>N (c++[y]) h E else N c h D):=by
 erw[⟨λi m c u H=>m=n - i/\i<=n/\c.length<=i/\j i c u H,⟨n,by simp,Sk _,Sk _,P⟩,?_⟩];rintro i m c C H ⟨rfl,T,ha,p⟩;by_cases G:i<n;erw[.inr ⟨G,(),λv B f=>v.length<=i+1/\j (i+1) v B f,λv B f z=>⟨n - (i+1),(),R,G,z.1,z.2⟩,λx f y=>?_⟩];ext⟨e,y⟩ y;subst e y;exact S i c C _ G ha p;have e:i=n:=by lia
 subst e;exact .inl ⟨Sg _,hd c C H ha p⟩
mutual
inductive DV(K:Oy)(H:Hp):V->PyData->Prop
 |non:DV K H .non .none
 |bl (b:Bool):DV K H (.bl b) (.bool b)
 |int (i:Int):DV K H (.int i) (.int i)
 |str (x:Str) (h:(PyData.str x).canLay0=true):DV K H (.str x) (.str x)
 |lst {a:Addr} {xs:List V} {ds:List PyData} (h:Zd K H a xs) (r:Y0 K H xs ds):DV K H (.ref a) (.list ds)
 |tup {a:Addr} {xs:List V} {ds:List PyData} (h:Zg K H a xs) (r:Y0 K H xs ds):DV K H (.ref a) (.tuple ds)
inductive Y0(K:Oy)(H:Hp):List V->List PyData->Prop
 |nil:Y0 K H [] []
 |cons {x:V} {xs:List V} {d:PyData} {ds:List PyData} (h:DV K H x d) (r:Y0 K H xs ds):Y0 K H (x::xs) (d::ds)
end
mutual
theorem DV.can:∀{x:V} {d:PyData},DV K H x d->d.canLay0=true
 |_,_,.non=>by simp only[PyData.canLay0]
 |_,_,.bl _=>by simp only[PyData.canLay0]
 |_,_,.int _=>by simp only[PyData.canLay0]
 |_,_,.str _ h=>h
 |_,_,.lst _ r=>by simp only[PyData.canLay0];exact Y0.can r
 |_,_,.tup _ r=>by simp only[PyData.canLay0];exact Y0.can r
theorem Y0.can:∀{xs:List V} {ds:List PyData},Y0 K H xs ds->PyData.canLayAll0 ds=true
 |_,_,.nil=>by simp only[PyData.canLayAll0]
 |_,_,.cons h r=>by simp only[PyData.canLayAll0,Bool.and_eq_true];exact⟨DV.can h,Y0.can r⟩
end
def Zg.sameT{c:Hp}{a:Addr}{xs:List V}(e:Zf H c)(h:Zg K H a xs):Zg K c a xs:=by
 rcases h with(h|⟨o,h⟩)|h;exact .inl (.inl (e _ _ h));exact .inl (.inr ⟨o,e _ _ h⟩);exact .inr h
mutual
theorem DV.same{c:Hp}(s:Zf H c):∀{x:V} {d:PyData},DV K H x d->DV K c x d
 |_,_,.non=>.non
 |_,_,.bl b=>.bl b
 |_,_,.int i=>.int i
 |_,_,.str x h=>.str x h
 |_,_,.lst h r=>.lst (s.seq h) (Y0.same s r)
 |_,_,.tup h r=>.tup (Zg.sameT s h) (Y0.same s r)
theorem Y0.same{c:Hp}(s:Zf H c):∀{xs:List V} {ds:List PyData},Y0 K H xs ds->Y0 K c xs ds
 |_,_,.nil=>.nil
 |_,_,.cons h r=>.cons (DV.same s h) (Y0.same s r)
end
section
variable{σ:St}
mutual
theorem DV.reads(I:Zb X pins σ H s):∀{x:V} {d:PyData} {u:Value},DV X.K H x d->ZP x u->∃g,Reads s.heap u d g
 |_,_,_,.non,r=>by cases r;exact⟨_,.none⟩
 |_,_,_,.bl b,r=>by cases r;exact⟨_,.bool b⟩
 |_,_,_,.int i,r=>by ext⟨t,rfl⟩ r;exact⟨_,.int i t⟩
 |_,_,_,.str x _,r=>by ext⟨t,rfl⟩ r;exact⟨_,.str x t⟩
 |_,_,_,.lst h j,r=>by
  cases r;obtain⟨B,v,c,_⟩:=I.list h;ext⟨o,n,f,y,_,hd⟩ c;obtain⟨g,q⟩:=Y0.reads I j v;exact⟨_,.list f y hd (by simpa using q)⟩
 |_,_,_,.tup h j,r=>by
  cases r;obtain⟨B,v,c,_⟩:=I.tuple h;ext⟨o,f,y,n,hd⟩ c;obtain⟨g,q⟩:=Y0.reads I j v;exact⟨_,.tuple f y hd (by simpa using q)⟩
theorem Y0.reads(I:Zb X pins σ H s):∀{xs:List V} {ds:List PyData} {us:OC},Y0 X.K H xs ds->ZG xs us->∃c,ReadsAll s.heap us ds c
 |_,_,_,.nil,.nil=>⟨_,.nil⟩
 |_,_,_,.cons h r,.cons v vs=>by
  obtain⟨c,f⟩:=DV.reads I h v;obtain⟨bs,g⟩:=Y0.reads I r vs;exact⟨_,.cons f g⟩
end
end
inductive Zaj(K:Oy)(neg:Bool)(x:V)(y:V)(H:Hp)(Q:VK):Prop|mk dx dy (_:DV K H x dx) (_:DV K H y dy) (_:dx.depth<=60) (_:Q (.bl (if neg then !PyData.eqv dx dy else PyData.eqv dx dy)) H)
def Zir(B:X.A.units+64<cLine):YD X (compareOp .Eq) (Zaj X.K false):=by
 intro pins s C H x y v u Q I g j h;ext⟨n,E,c,f,hd,q⟩ h;obtain⟨D,r1⟩:=c.reads I g;obtain⟨bs,i⟩:=f.reads I j;exact SeqAt.compareEq_reads r1 i c.can f.can () ⟨.bl _,H,I,R,q⟩
def Rp(B:X.A.units+64<cLine):YD X (compareOp .NotEq) (Zaj X.K true):=by
 intro pins s C H x y v u Q I g j h;ext⟨n,E,c,f,hd,q⟩ h;obtain⟨D,r1⟩:=c.reads I g;obtain⟨bs,i⟩:=f.reads I j;exact SeqAt.compareNe_reads r1 i c.can f.can () ⟨.bl _,H,I,R,q⟩
def spl(c:Nat):List Nat->List (List Nat)
 |[]=>[[]]
 |x::r=>if x=c then []::spl c r else match spl c r with
  |[]=>[[x]]
  |w::ws=>(x::w)::ws
def YF(c:Nat):List (List Nat)->List Nat
 |[]=>[]
 |[p]=>p
 |p::q::r=>p++c::YF c (q::r)
theorem M6(c:Nat):∀l:List Nat,spl c l≠[]
 |[]=>by simp[spl]
 |x::r=>by
  unfold spl;by_cases h:x=c;rw[SW h];simp;rw[SV h];cases q:spl c r<;>simp
theorem Zak(c:Nat):∀p:List Nat,c∉p->spl c p=[p]
 |[],_=>rfl
 |x::r,h=>by
  have h1:x≠c:=λz=>h (by rw[z];exact SE);have f:c∉r:=λz=>h (SD _ z);unfold spl;rw[SV h1,Zak c r f]
theorem Rq(c:Nat)(rest:OH):∀p:List Nat,c∉p->spl c (p++c::rest)=p::spl c rest
 |[],_=>by
  show spl c (c::rest)=_;rw[spl,SW R]
 |x::r,h=>by
  have h1:x≠c:=λz=>h (by rw[z];exact SE);have f:c∉r:=λz=>h (SD _ z);show spl c (x::(r++c::rest))=_;rw[spl,SV h1,Rq c rest r f]
theorem Ll(c:Nat):∀f:List (List Nat),f≠[]->(∀p∈f,c∉p)->spl c (YF c f)=f
 |[],h,_=>Ot R h
 |[p],_,h=>Zak c p (h p SE)
 |p::q::r,_,h=>by
  show spl c (p++c::YF c (q::r))=_;rw[Rq c _ p (h p SE),Ll c (q::r) (by simp) λz hz=>h z (SD _ hz)]
theorem U2(c:Nat):∀f:List Str,(Str.join ⟨#[c]⟩ f).cps.toList=YF c (f.map λp=>p.cps.toList)
 |[]=>rfl
 |[p]=>rfl
 |p::q::r=>by
  show(p++⟨#[c]⟩++Str.join ⟨#[c]⟩ (q::r)).cps.toList=p.cps.toList++c::YF c ((q::r).map λp=>p.cps.toList);rw[<-U2 c (q::r),Str.cps_append,Str.cps_append];simp
def Zis(x:Str)(c:Nat):(Txt.split x ⟨#[c]⟩).map (λp=>p.cps.toList)=spl c x.cps.toList:=by
 have i:=StrLaws.join_split x ⟨#[c]⟩;have g:=StrLaws.split_free x c;have n:Txt.split x ⟨#[c]⟩≠[]:=λz=>by
  have:=split_pos x ⟨#[c]⟩;rw[z]at this;exact Ot this ()
 have f:YF c ((Txt.split x ⟨#[c]⟩).map λp=>p.cps.toList)=x.cps.toList:=by rw[<-U2,i]
 rw[<-f,Ll];intro z;exact n (List.map_eq_nil_iff.mp z);intro p j;obtain⟨q,h,rfl⟩:=SK.mp j;exact g q h
def Rr(x:Str)(c:Nat):Txt.split x ⟨#[c]⟩=(spl c x.cps.toList).map λl=>⟨l.toArray⟩:=by
 rw[<-Zis,Of];have e:((λl:List Nat=>(⟨l.toArray⟩:Str)) ∘ λp:Str=>p.cps.toList)=_root_.id:=by
  funext p;cases p;simp
 rw[e,List.map_id]
theorem M8(c:Nat):∀l:List Nat,(spl c l).length<=l.length+1
 |[]=>Sg _
 |x::r=>by
  have:=M8 c r;unfold spl;by_cases h:x=c;rw[SW h,Sy,Sy];lia;rw[SV h];cases q:spl c r with
  |nil=>simp
  |cons w ws=>rw[q]at this;simp only[Sy]at this ⊢;lia
theorem Zal:∀(c:OD) (k:Nat),ZG (c.map V.str) (strsFrom k c)
 |[],_=>.nil
 |x::r,k=>.cons ⟨k,R⟩ (Zal r (k+1))
inductive Zit(x:V)(xs:List V)(H:Hp)(Q:VK):Prop|mk z c (_:x=.str z) (_:xs=[.str ⟨#[c]⟩]) (_:z.length+2<=sizeLine) (_:∀p,H p=none->Q (.ref p) (upd H p (.lst ((spl c z.cps.toList).map λl=>V.str ⟨l.toArray⟩))))
def Na:Qs X "str.split" Zit:=by
 intro pins s y H x J v E Q I D r h;ext⟨z,c,rfl,rfl,G,q⟩ h;ext⟨t,rfl⟩ D;obtain⟨u,rfl,t',rfl⟩:=Xm r;have M:=M8 c z.cps.toList;have L:z.cps.toList.length=z.length:=by simp[Str.length]
 have B:(spl c z.cps.toList).map (λl=>V.str ⟨l.toArray⟩)=(Txt.split z ⟨#[c]⟩).map V.str:=by rw[Rr,Of];rfl
 have f:∀(j:OC) (tk:Nat),ZG ((Txt.split z ⟨#[c]⟩).map V.str) j->EP X pins y Q (.ref s.heap.objs.size) {s with heap:=s.heap.push {cls:=.type "list",data:=.seq j.toArray},toks:=tk}:=λj tk n=>by
  rw[B]at q;erw[⟨.ref _,_,I.lnew (t':=tk) n ?_,R,q _ I.fresh⟩];rw[Sv,Rr,Sv];lia
 cases g:(decide (z.length<(⟨#[c]⟩:Str).length) || decide (Builtin.Str.strKind z<Builtin.Str.strKind ⟨#[c]⟩))with
 |true =>
  have e:Txt.split z ⟨#[c]⟩=[z]:=by unfold Txt.split;rw[SW g]
  rw[e]at f;exact call_meets F.slot_str_split (typeIs_str _ _ _) F.entry_str_split (F.args_str_split_2 _ _) (meets_str_split_cannot_occur z ⟨#[c]⟩ t t' g) (f [.str z t] s.toks (.cons ⟨t,R⟩ .nil))
 |false =>
  cases i:(Builtin.Str.occurrences z ⟨#[c]⟩ 0 z.length (z.length+1)).isEmpty with
  |true =>
   have e:Txt.split z ⟨#[c]⟩=[z]:=by unfold Txt.split;rw[SV (by rw[g];lia),SW i]
   rw[e]at f;exact call_meets F.slot_str_split (typeIs_str _ _ _) F.entry_str_split (F.args_str_split_2 _ _) (meets_str_split_not_found z ⟨#[c]⟩ t t' g R i) (f [.str z t] s.toks (.cons ⟨t,R⟩ .nil))
  |false =>
   have e:Txt.split z ⟨#[c]⟩=Builtin.Str.partsBetween z (Builtin.Str.occurrences z ⟨#[c]⟩ 0 z.length (z.length+1)) (⟨#[c]⟩:Str).length:=by unfold Txt.split;rw[SV (by rw[g];lia),SV (by rw[i];lia)]
   have C:(Builtin.Str.partsBetween z (Builtin.Str.occurrences z ⟨#[c]⟩ 0 z.length (z.length+1)) (⟨#[c]⟩:Str).length).length<=sizeLine:=by
    rw[<-e,Rr,Sv];lia
   erw[call_meets F.slot_str_split (typeIs_str _ _ _) F.entry_str_split (F.args_str_split_2 _ _) (meets_str_split_sep z ⟨#[c]⟩ t t' g R i () C) ?_];rw[e]at f;exact f _ _ (Zal _ s.toks)
def Rs(x:Str)(c i:Nat):StrLaws.At x ⟨#[c]⟩ x.length i↔x.cps.toList[i]? = some c:=StrLaws.subAt_one x c i
section
variable{x:Str}
def YC(c:Gl X x)(hm:∃t,X.mg x=some (.int k t))(hd:(x==("__debug__" : Str))=false:=by lia):PE X (.Name x pos) (tC (.int k)):=by
 ext⟨t,hm⟩ hm;exact kD c hm ⟨t,R⟩ hd
def Ziu:TE:=λ_ H Q=>∀p,H p=none->Q (.ref p) (upd H p (.dK []))
def Qv:PE X (.Dict [] [] pos) Ziu:=by
 intro pins s c H Q I h;have lt:sysModules<s.heap.objs.size:=Nat.lt_trans (show sysModules<mainGlobals by lia) (I.mod.glob.keeps I.bk).lt;have new:Yq X.prog X.w (upd H s.heap.objs.size (.dK [])) (s.heap.push {cls:=.type "dict",data:=.dict #[]}) s.heap.objs.size (.dK []) :=
  ⟨Sk _,beq_eq_false_iff_ne.mpr (Ne.symm (Sf lt)),[],.nil,Heap.DictOf.new s.heap⟩
 exact wpAny_Dict_empty ⟨.ref s.heap.objs.size,_,I.laid (t':=s.toks) (λ_ _ q=>Sc _ q) (Sg _) new,R,h _ (I.hok.fresh (Sg _))⟩
def Lm(x:Str):[x].Nodup:=by simp
def Xv:Expr->Bool
 |.Starred _ _=>false
 |_=>true
def Ziv(h:Xv e=true):starEach (e::c) env=(false,eval e env)::starEach c env:=by
 cases e<;>first|rfl|cases h
def Xn(ha:PE X e f)(g:PA X c t)(h:Xv e=true:=by rfl):PA X (e::c) (Y8 f t):=ZhE ha g (Ziv h)
end
end L2
namespace K1
open PySem L2
def UD:Str:=⟨#[48,49,50,51,52,53,54,55,56,57]⟩
def Ziw:OL "0123456789"=UD:=by lia
def Zix:∀c:Nat,Builtin.Str.occurrences UD ⟨#[c]⟩ 0 10 1=if 48<=c/\c<=57 then [c - 48] else []:=by
 intro c;by_cases h:48<=c/\c<=57;rw[SW h];have:c=48\/c=49\/c=50\/c=51\/c=52\/c=53\/c=54\/c=55\/c=56\/c=57:=by lia
 rcases this with rfl|rfl|rfl|rfl|rfl|rfl|rfl|rfl|rfl|rfl<;>decide +kernel
 rw[SV h];have u:c≠48:=by lia
 have f:c≠49:=by lia
 have g:c≠50:=by lia
 have v:c≠51:=by lia
 have j:c≠52:=by lia
 have i:c≠53:=by lia
 have B:c≠54:=by lia
 have x:c≠55:=by lia
 have n:c≠56:=by lia
 have y:c≠57:=by lia
 unfold Builtin.Str.occurrences;simp[UD,Builtin.Str.subAt,u.symm,f.symm,g.symm,v.symm,j.symm,i.symm,B.symm,x.symm,n.symm,y.symm,Str.length];rw[show List.range' 0 11=[0,1,2,3,4,5,6,7,8,9,10] from R];simp[List.forIn_cons,u.symm,f.symm,g.symm,v.symm,j.symm,i.symm,B.symm,x.symm,n.symm,y.symm]
def Vr(n:Nat):Str:=⟨#[48+n/10,48+n%10]⟩
def Ziy:∀n:Nat,n<60->Txt.zfill (OL (toString (n:Int))) 2=Vr n:=by lia
def UA(a b c d e:Nat):Txt.slice ⟨#[a,b,c,d,e]⟩ none (some 2)=⟨#[a,b]⟩:=by rfl
def Nb(a b c d e:Nat):Txt.slice ⟨#[a,b,c,d,e]⟩ (some 3) none=⟨#[d,e]⟩:=by
 unfold Txt.slice;rw[show Builtin.Str.strSliceIndices (some 3) none 1 (Str.length ⟨#[a,b,c,d,e]⟩)=[3,4] from(():Builtin.Str.strSliceIndices (some 3) none 1 5=[3,4])];rfl
def XC:V->Int->Int->Bool
 |.int i,lo,hi=>decide (lo<=i/\i<=hi)
 |_,_,_=>false
inductive Kd(H:Hp):V->String->Prop where
 |non:Kd H .non "NoneType"
 |bl (b:Bool):Kd H (.bl b) "bool"
 |int (i:Int):Kd H (.int i) "int"
 |str (x:Str):Kd H (.str x) "str"
 |lst {a:Addr} {xs:List V} (e:H a=some (.lst xs)):Kd H (.ref a) "list"
 |tup {a:Addr} {xs:List V} (e:H a=some (.tup xs)):Kd H (.ref a) "tuple"
 |dK {a:Addr} {kvs:List (ZD×V)} (e:H a=some (.dK kvs)):Kd H (.ref a) "dict"
def Kd.ty(k:Kd H v T):X9 K H v (.type T):=by
 cases k with
 |non=>exact .non
 |bl b=>exact .bl b
 |int i=>exact .int i
 |str x=>exact .str x
 |lst e=>exact .lst e
 |tup e=>exact .tup e
 |dK e=>exact .dK e
def Kd.same(s:Zf H c)(k:Kd H v T):Kd c v T:=by
 cases k with
 |non=>exact .non
 |bl b=>exact .bl b
 |int i=>exact .int i
 |str x=>exact .str x
 |lst e=>exact .lst (s _ _ e)
 |tup e=>exact .tup (s _ _ e)
 |dK e=>exact .dK (s _ _ e)
def Ziz(k:Kd H v T):W.kitOne K (.type T) (.type "int")=some (decide (T="int" \/ T="bool")):=by
 cases k<;>rfl
def Zam(k:Kd H v T):W.kitOne K (.type T) (.type "bool")=some (decide (T="bool")):=by
 cases k<;>rfl
def E5(k:Kd H v T):W.kitOne K (.type T) (.type "str")=some (decide (T="str")):=by
 cases k<;>rfl
def Zy{c A B:Prop}[Decidable c](h:c)(a:A):if c then A else B:=by rwa[SW h]
def Zk{c A B:Prop}[Decidable c](h:¬ c)(b:B):if c then A else B:=by rwa[SV h]
def dg(c:Nat):Bool:=decide (48<=c/\c<=57)
def Zan(c:Nat):X2 UD c=dg c:=by
 unfold X2 dg;rw[show UD.length=10 from R,Zix c];by_cases h:48<=c/\c<=57;rw[SW h,SR h];rfl;rw[SV h,SS h];rfl
def VZ(z:Str):Bool:=!decide (V.str z=V.str (OL "")) && (z.cps.toList.map λc=>X2 UD c).all id
def Zw(h:H p=none)(o:HO):Zf H (upd H p o):=λb u q=>by rwa[Zm (Z4 q h)]
def Zao{f:Type}(g:f->Bool)(l:List f):(l.map λc=>V.bl (g c))=(l.map g).map V.bl:=by rw[Of];rfl
def ZiA:∀n:Nat,n<60->n.log2<1920:=by lia
def wr(m:Nat):Str:=Vr (m/60)++OL ":" ++ Vr (m%60)
def UE:List Nat->Bool
 |[a,b,c,d,e]=>decide (c=58) && (dg a && dg b && dg d && dg e)
 |_=>false
def E6:V->Bool
 |.str z=>UE z.cps.toList
 |_=>false
def Zap{z:Str}(h:z.length=5):∃a b c d e,z=⟨#[a,b,c,d,e]⟩:=by
 ext⟨⟨l⟩⟩ z;have f:l.length=5:=h
 match l,f with
 |[a,b,c,d,e],_=>exact⟨a,b,c,d,e,R⟩
def Zaq{z:Str}(h:z.length≠5):UE z.cps.toList=false:=by
 ext⟨⟨l⟩⟩ z;have c:l.length≠5:=h
 match l,c with
 |[],_=>rfl
 |[_],_=>rfl
 |[_,_],_=>rfl
 |[_,_,_],_=>rfl
 |[_,_,_,_],_=>rfl
 |[_,_,_,_,_],h=>exact Ot R h
 |_::_::_::_::_::_::_,_=>rfl
def ZiB(a b d e:Nat):VZ ⟨#[a,b,d,e]⟩=(dg a && dg b && dg d && dg e):=by
 unfold VZ;rw[SS (show ¬ (V.str ⟨#[a,b,d,e]⟩=V.str (OL ""))from λz=>by
  injection z with z1;have f:(#[a,b,d,e]:Array Nat)=(OL "").cps:=congrArg Str.cps z1;have c:=congrArg Array.size f;rw[show(OL "").cps.size=0 by lia]at c;exact Ot (show(4:Nat)=0 from c) ())]
 simp only[SN,List.map_nil,Zan,List.all_cons,List.all_nil,Bool.not_false,Ou,id,Bool.and_true,Bool.and_assoc]
def Zar(c:Nat):decide (V.str ⟨#[c]⟩=V.str (OL ":"))=decide (c=58):=by
 erw[decide_eq_decide.mpr ⟨λz=>?_,λz=>by subst z;lia⟩];injection z with z1;have f:(#[c]:Array Nat)=(OL ":").cps:=congrArg Str.cps z1;rw[show(OL ":").cps=#[58] by lia]at f;simpa using f
def E7:List Nat->Option Nat
 |[a,b,c,d,e]=>if UE [a,b,c,d,e]=true/\10*(a - 48)+(b - 48)<=47/\10*(d - 48)+(e - 48)<=59 then some (60*(10*(a - 48)+(b - 48))+(10*(d - 48)+(e - 48)))else none
 |_=>none
def Nc:V->Option Nat
 |.str z=>E7 z.cps.toList
 |_=>none
def ZiC(h:UE l=false):E7 l=none:=by
 match l,h with
 |[],_=>rfl
 |[_],_=>rfl
 |[_,_],_=>rfl
 |[_,_,_],_=>rfl
 |[_,_,_,_],_=>rfl
 |[a,b,c,d,e],h =>
  show(if UE [a,b,c,d,e]=true/\_ then _ else _)=none;rw[SV];rw[h];exact λz=>nomatch z.1
 |_::_::_::_::_::_::_,_=>rfl
def ZiD{z:Str}(h:UE z.cps.toList=true):∃a b c d e,z=⟨#[a,b,c,d,e]⟩:=Zap (by
 by_cases f:z.length=5;exact f;rw[Zaq f]at h;cases h)
def Nd{c:Nat}(h:dg c=true):48<=c/\c<=57:=SU h
def ZiE(h:UE [a,b,c,d,e]=true):(48<=a/\a<=57)/\(48<=b/\b<=57)/\c=58/\(48<=d/\d<=57)/\(48<=e/\e<=57):=by
 have f:(decide (c=58) && (dg a && dg b && dg d && dg e))=true:=h;simp only[Bool.and_eq_true,decide_eq_true_eq]at f;exact⟨Nd f.2.1.1.1,Nd f.2.1.1.2,f.1,Nd f.2.1.2,Nd f.2.2⟩
def Zas{a b:Nat}(ha:48<=a/\a<=57)(g:48<=b/\b<=57):PySem.intText? ⟨#[a,b]⟩=some ((10*(a - 48)+(b - 48):Nat):Int):=by
 rw[PySem.intText_digits (x:=⟨#[a,b]⟩) (λc h=>by
  have f:c∈[a,b]:=h;simp only[SG,List.not_mem_nil,or_false]at f;rcases f with rfl|rfl;exact ha;exact g) (by intro z;cases z) (by show 2<=4300;lia)]
 have e:PySem.NumText.digitsVal [a,b]=10*(a - 48)+(b - 48):=by
  show(0*10+(a - 48))*10+(b - 48)=_;lia
 exact congrArg (λn:Nat=>some (n:Int)) e
def ZiF:V->Bool
 |.int _=>true
 |_=>false
structure ZqA(tp:Addr)(k:Int)(H H':Hp):Prop where
 keep:∀b o,b≠tp->H b=some o->H' b=some o
 tape:H' tp=some (.lst [.int k])
def Zat(c:0<=y)(h1:y<18446744073709551616):ML x y:=.inr ⟨(),()⟩
def Zau(m:Nat):wr m=⟨#[48+m/60/10,48+m/60%10,58,48+m%60/10,48+m%60%10]⟩:=by
 unfold wr Vr;rw[show OL ":"=⟨#[58]⟩ by lia];rfl
def Ln:Option Nat->V
 |none=>.non
 |some m=>.int m
def Q4{a b:Str}(ha:a.length<=n)(c:b.length<=m):(a++b).length<=n+m:=by rw[Str.length_append];lia
def Zav{m:Nat}(h:m<=2879):E7 (wr m).cps.toList=some m:=by
 rw[Zau];show(if UE _=true/\10*(48+m/60/10 - 48)+(48+m/60%10 - 48)<=47/\10*(48+m%60/10 - 48)+(48+m%60%10 - 48)<=59 then some (60*(10*(48+m/60/10 - 48)+(48+m/60%10 - 48))+(10*(48+m%60/10 - 48)+(48+m%60%10 - 48)))else none)=some m;have e:∀x,x<10->dg (48+x)=true:=λx f=>SR ⟨(),()⟩;have c:UE [48+m/60/10,48+m/60%10,58,48+m%60/10,48+m%60%10]=true:=by
  show(decide (58=58) && (dg (48+m/60/10) && dg (48+m/60%10) && dg (48+m%60/10) && dg (48+m%60%10)))=true;rw[e _ (),e _ (),e _ (),e _ ()];rfl
 exact(SW ⟨c,(),()⟩).trans (congrArg some ())
def ZiG{p:V->Prop}{xs:List V}{d:Int}(h:∀v∈xs,p v)(f:0<=d)(h1:d<xs.length):∃v,YW xs d=some v/\p v:=by
 have c:d.toNat<xs.length:=by lia
 erw[⟨xs[d.toNat],?_,h _ (Oj c)⟩];have q:YW xs ((d.toNat:Nat):Int)=some xs[d.toNat]:=Wt (Ss c);rw[show((d.toNat:Nat):Int)=d by lia]at q;exact q
end K1
namespace K1
open PySem L2
abbrev UF(l:OH):Nat:=PySem.NumText.digitsVal l
def XF(l:OH):Option Nat:=if l.length<=5/\l≠[]/\l.all dg=true/\¬ (l.head? = some 48/\l≠[48])then some (UF l)else none
def Lo{z y:Str}:decide (V.str z=V.str y)=decide (z.cps.toList=y.cps.toList):=by
 erw[decide_eq_decide.mpr ⟨λh=>?_,λh=>?_⟩];injection h with h;rw[h];have:z.cps=y.cps:=by
  rcases z with⟨⟨a⟩⟩;rcases y with⟨⟨b⟩⟩;exact congrArg List.toArray h
 exact congrArg V.str (Str.ext' this)
def Rt(z:Str):VZ z=(decide (z.cps.toList≠[]) && z.cps.toList.all dg):=by
 unfold VZ;rw[Lo,show(OL "").cps.toList=[] by lia];congr 1;by_cases h:z.cps.toList=[];rw[SR h,SS (λq=>q h)];rfl;rw[SS h,SR h];rfl;rw[List.all_map];congr 1;funext c;exact Zan c
def ZiH{l:OH}(h:l.all dg=true):PySem.NumText.AllDigits l:=λc f=>SU (List.all_eq_true.mp h c f)
def Zaw{z:Str}(h:z.cps.toList.all dg=true)(h1:z.cps.toList≠[])(c:z.length<=640):PySem.intText? z=some ((UF z.cps.toList:Nat):Int):=PySem.intText_digits (ZiH h) h1 ()
def WI(z:Str):z.cps.toList.length=z.length:=by simp[Str.length]
def Zax(z:Str)(j:Nat)(h:j<=z.length):Txt.slice z none (some (j:Int))=⟨(z.cps.toList.take j).toArray⟩:=by
 have e:=StrLaws.sliceText_to (x:=z) (j:=(j:Int)) ⟨(),by rw[WI];lia⟩;rw[List.drop_zero,show((j:Int) - 0).toNat=j by lia]at e;exact e
def ZiI(z:Str)(j:Nat)(h:j<=z.length):Txt.slice z (some (j:Int)) none=⟨(z.cps.toList.drop j).toArray⟩:=by
 have e:=StrLaws.sliceText_from (x:=z) (i:=(j:Int)) ⟨(),by rw[WI];lia⟩;rw[show((j:Int)).toNat=j by lia,SZ (by rw[SB];lia)]at e;exact e
def ZiJ:∀{l:OH},l.all dg=true->UF l<10 ^ l.length:=λ{l} h=>by
 have i:∀(l:OH) (f n:Nat),f<10 ^ n->l.all dg=true->l.foldl (λf c=>f*10+(c - 48)) f<10 ^ (n+l.length):=by
  intro l;induction l with
  |nil=>intro f n h _;simpa using h
  |cons c r g =>
   intro f n h hd;rw[List.all_cons,Bool.and_eq_true]at hd;have j:48<=c/\c<=57:=SU hd.1;have:=g (f*10+(c - 48)) (n+1) (by rw[Nat.pow_succ];lia) hd.2;rw[List.foldl_cons,Sy];rw[show n+(r.length+1)=n+1+r.length by lia];exact this
 have:=i l 0 0 () h;rw[Nat.zero_add]at this;exact this
def ZiK:UF (48::r)=UF r:=rfl
def Ru{d:Nat}(h:d<10000):∀l,l=(OL (toString (d:Int))).cps.toList->1<=l.length/\l.length<=4/\l.all dg=true/\¬ (l.head? = some 48/\l≠[48])/\UF l=d/\32∉l:=by
 intro l e;rw[W.KIN.signs_num]at e;have i:l.length=(Nat.toDigits 10 d).length:=by rw[e,Sv]
 have u:∀c∈l,48<=c/\c<=57:=λc j=>by
  rw[e]at j;obtain⟨ch,x,C⟩:=SK.mp j;have r:=PyProof.Rows.digit_range (Nat.isDigit_of_mem_toDigits () () x);rwa[<-C]
 have f:l.all dg=true:=List.all_eq_true.mpr λc j=>SR (u c j);have g:UF l=d:=by rw[e];exact W.KIN.val_back d
 erw[⟨by rw[i];exact PyProof.Rows.tDigits_len_ge 10 d,by rw[i];exact PyProof.Rows.digits10_le () (show d<10 ^ 4 from h),f,λ⟨z1,n⟩=>?_,g,λz=>?_⟩]
 match l,z1,n,i,g,f with
 |48::r,_,n,i,g,f =>
  have y:r≠[]:=λz=>n (by rw[z]);have v:1<=r.length:=by
   cases r with
   |nil=>exact Ot R y
   |cons _ _=>simp
  rw[List.all_cons,Bool.and_eq_true]at f;have lt:=ZiJ f.2;rw[ZiK]at g;rw[g]at lt;have B:=PyProof.Rows.digits10_le v lt;rw[<-i,Sy]at B;lia
 have:=u 32 z;lia
end K1
namespace L2
open PySem PySem.Spec PyProof.Rows
section
variable{m:Str}{o e:Expr}{es:OE}{ta:TE}{t:TA}{apos:Pos}
inductive ZiL(X:Cx)(m:Str)(t:TA)(σ:St)(Q:VK)(x:V)(H1:Hp):Prop|mk (a C dx:Addr) (fs:List (Str×V)) (f:Addr) (fd:OK) (k:Nat) (ps:OD) (sp:Sp) (CX:WG) (E:XK) (_:x=.ref a) (_:H1 a=some (.ins C dx fs)) (_:fs.lookup m=none) (_:YI X.K C) (_:Yr X.K C m f) (_:Zo X.prog X.w X.K X.mg X.base CX k f fd ps sp) (_:YE k X.A) (_:XT X.K fd ps []) (_:Vn CX X E) (_:t σ H1 λvs H2=>sp (.ref a::vs) H2 Q E)
def Zay(X:Cx)(m:Str)(ta:TE)(t:TA):TE:=λc H Q=>ta c H λx f=>ZiL X m t c Q x f
def E8(B:PE X o ta)(ha:PA X (e::es) t)
  (L:starEach (e::es) X.env=(false,eval e X.env)::starEach es X.env:=by rfl) (G:(backTo pos (starEach es X.env)).any (·.1)=false:=by rfl)
  (y:eval (.Call (.Attribute o m apos) (e::es) [] pos) X.env=(do
   let n <-eval o X.env
   standAt apos.atName
   let (f,first) <-holding [n] (getMethod n m pl)
   callWith pos f first (backTo pos (starEach (e::es) X.env)) (backToKw pos (keywordEach [] X.env))):=by rfl) :
  PE X (.Call (.Attribute o m apos) (e::es) [] pos) (Zay X m ta t):=by
 intro pins s i H b0 I h;erw[W.methodCall_KW (pl:=pl) (ZA (B pins s i H _ I h) λu Q z=>?_) y];ext⟨x,v,j,M,a,C,S,fs,f,Y,k,U,sp,T,a0,ex,J,l,c,hm,F,P,O,D,q⟩ z;subst ex;obtain rfl:u=Value.ref a:=M;erw[D9 j J c hm l ?_];erw[W.callWith_K (first:=[.ref a]) (h₀:=X.base) I.ok.mod.kin hm.kp (ZA (ha pos pins Q i v _ j q) λus s2 ⟨vs,Z,g,r,E⟩=>⟨g.kIn,?_⟩) L G];exact Qr (us:=.ref a::us) (vs:=.ref a::vs) (dvs:=[]) F P O .nil D g (.cons R r) (by rwa[Od])
def VD(v:PE X o ta)
  (n:eval (.Call (.Attribute o m apos) [] [] pos) X.env=(do
   let i <-eval o X.env
   standAt apos.atName
   let (f,first) <-holding [i] (getMethod i m pl)
   callWith pos f first (backTo pos (starEach [] X.env)) (backToKw pos (keywordEach [] X.env))):=by rfl) :
  PE X (.Call (.Attribute o m apos) [] [] pos) (Zay X m ta Vm):=by
 intro pins s j H Q I h;erw[W.methodCall_KW (pl:=pl) (ZA (v pins s j H _ I h) λu T z=>?_) n];ext⟨x,M,g,D,a,C,L,fs,f,S,k,P,sp,O,E,ex,B,l,c,hm,F,J,G,y,q⟩ z;subst ex;obtain rfl:u=Value.ref a:=D;erw[D9 g B c hm l ?_];exact W.callWith_K0 (first:=[.ref a]) g.kIn hm.kp (Qr (us:=[.ref a]) (vs:=[.ref a]) (dvs:=[]) F J G .nil y g (.cons R .nil) q)
structure Rv(K:Oy)(C:Addr):Prop where
 makes:W.makesIn K C=true
 init:W.findIn K (.ref C) "__init__"=some (some (.builtin "object.__init__"))
 kp:W.keepIn K (.ref C)=true
def ZiM(C:Addr):TE:=λ_ H Q=>∀x c,H x=none->H c=none->c≠x->Q (.ref x) (upd (upd H c (.own x)) x (.ins C c []))
def Nf(M:Rv X.K C)(c:Gl X x)(hm:X.mg x=some (.ref C))(i:(x==("__debug__" : Str))=false:=by lia):PE X (.Call (.Name x p) [] [] pos) (ZiM C):=by
 intro pins s j H Q I h;erw[wpAny_Call_Name_kw (Uu I c hm ?_ i)];erw[W.callWith_K0 I.kIn M.kp ?_];have q:=h (s.heap.objs.size+1) s.heap.objs.size (I.hok.fresh (Nat.le_succ _)) (I.hok.fresh (Sg _)) (Sf (Sm _));have f:=Zb.made (C:=C) I;have Y:=W.makes_of (M:=model X.prog X.w) I.kIn M.makes;erw[wpAny_call (Zht (C:=C) I.kIn M.makes M.init (λself=>W.Looks.of_pure (W.oi_bind self)) ?_)];have g1:((s.heap.push W.emptyDict).push (W.instObj C s.heap.objs.size)).get? (s.heap.objs.size+1)=some (W.instObj C s.heap.objs.size):=by
  have:=Sd (s.heap.push W.emptyDict) (o:=W.instObj C s.heap.objs.size) R;rw[Heap.size_push]at this;exact this
 have g:W.Looks (model X.prog X.w) ((s.heap.push W.emptyDict).push (W.instObj C s.heap.objs.size)) (typeOf (.ref (s.heap.objs.size+1))) (.ref C):=(W.Looks.ld g1).andThen .now;have t2:W.Looks (model X.prog X.w) ((s.heap.push W.emptyDict).push (W.instObj C s.heap.objs.size)) (isInstance (.ref (s.heap.objs.size+1)) (.type "object")) true :=
  g.andThen (Y.top.keeps λb o e=>Sc _ (Sc _ e))
 erw[codeAny_call_builtin W.oi_plain W.entry_oi ?_];erw[@W.check_slot (model X.prog X.w) _ _ _ "object.__init__" "object" "__init__" (.ref (s.heap.objs.size+1)) [] [] _ W.oi_kind W.oi_split t2 (W.oi_args _) ?_];rw[W.oi_run];exact Sb (And.intro rfl ⟨.ref _,_,f,rfl,q⟩)
end
theorem Rw(ns:OF):∀k,k<=ns.length->preSum (λi=>ns.getD i 0) k=(ns.take k).sum
 |0,_=>by simp[preSum]
 |k+1,h=>by
  have f:=Rw ns k ();show preSum (λi=>ns.getD i 0) k+ns.getD k 0=_;rw[f,Oa,List.sum_append];have c:k<ns.length:=by lia
  rw[List.getD_eq_getElem?_getD,Ss c];simp
def ZiN(U:X.calm=true):Xk X (.builtin "sum") (λxs H Q=>∃(p:Addr) (ns:OF),xs=[.ref p]/\Zd X.K H p (ns.map V.int)/\(∀n∈ns,0<=n/\n<=1000000)/\ns.length<=1000/\Q (.int ns.sum) H):=by
 intro pins s σ H xs us Q I r h;ext⟨p,ns,rfl,S,G,hl,q⟩ h;obtain⟨c0,rfl,rx⟩:=Xm r;cases rx;obtain⟨f,C,y,hz⟩:=I.list S;have hlen:=C.length;obtain⟨o,n,E,_⟩:=id y;have b0:p≠s.heap.objs.size:=Sf (Se E);have bound:∀k,k<=ns.length->0<=(ns.take k).sum/\(ns.take k).sum<=1000000*k:=by
  intro k;induction k with
  |zero=>intro _;simp
  |succ k P =>
   intro L;have B:k<ns.length:=by lia
   have:=P ();have b:=G ns[k] (Oj B);rw[Oa,List.sum_append,Ss B];simp only[Option.toList_some,List.sum_cons,List.sum_nil];lia
 erw[call_sum_walk (wpAny_pyIter_list y.isList ?_)];erw[⟨s.heap.objs.size,[s.heap.objs.size,p],[s.heap.objs.size],f.toArray.size,_,_,λi=>ns.getD i 0,R,Walks.list (A:=X.A.in1) (I.ok.hd U) _ _ b0 f.toArray,⟨⟨_,Sd _ R,R,R⟩,?_⟩,?_,?_,?_,λh' tk t' L=>?_⟩];ext⟨T,g,Y⟩ y.isList;exact⟨T,Sc _ g,Y⟩;intro b u;show b<(s.heap.push _).objs.size;rw[Heap.size_push];rcases SG.mp u with rfl|u;exact Sm _;rw[SF.mp u];exact Sn (Se E);intro i v Z;have O:f[i]? = some v:=by simpa using Z
 have M:i<ns.length:=by
  have:=(Sr.mp O).1;rw[<-hlen,Sv]at this;exact this
 obtain⟨w,c,g⟩:=C.get (i:=i) (x:=.int ns[i]) (by rw[Ob,Ss M];rfl);rw[O]at c;cases c;ext⟨t,rfl⟩ g;exact⟨t,by dsimp only;rw[List.getD_eq_getElem?_getD,Ss M];rfl⟩;intro j D;have J:j<ns.length:=by
  rw[SO,<-hlen,Sv]at D;exact D
 have b1:=G ns[j] (Oj J);have b2:=bound (j+1) ();have c:ns.getD j 0=ns[j]:=by rw[List.getD_eq_getElem?_getD,Ss J];rfl
 rw[Rw ns (j+1) ()];dsimp only;rw[c];have b3:(1000000:Int)*((j+1:Nat):Int)<=1000000000:=by lia
 unfold InLong
 first|omega
 have a0:∀b o,s.heap.get? b=some o->h'.get? b=some o:=λb o e=>L b o (λz=>by
  have c:=Se e;rw[SF.mp z]at c;exact Ot c (Sl _)) (Sc _ e)
 have e:preSum (λi=>ns.getD i 0) f.toArray.size=ns.sum:=by
  rw[SO,<-hlen,Sv,Rw ns _ (Sg _),List.take_length]
 rw[e];exact⟨.int _,H,I.kept (t':=tk) a0,⟨_,R⟩,q⟩
structure ZqB(K:Oy)(x qual:Str)(st:Stmt)(f:Addr)(fd:OK)(D:Addr)(ds:OC):Prop where
 ex:∃(oc:Value) (od:OG) (kV doc pm:Value) (an:OG) (cdv ct:Value) (osl:OA),
  fd=W.fnOf x qual (Q3 st) (U1 st) (Zv st) (.ref D) kV doc pm an cdv ct/\K.lookup f=some ⟨oc,od,.func fd,osl⟩/\W.codeIn K cdv qual=true
 dt:∃(o:Obj) (n:Nat),K.lookup D=some o/\o.data=.seq ds.toArray n
 kp:W.keepIn K (.ref f)=true
end L2
namespace K1
open PySem L2
inductive RT where
 |always
 |week (b:Nat)
 |span (a b:Nat) (r:RT)
 |each (n:Nat) (ss:OH)
 |either (r s:RT)
 |both (r s:RT)
 |but (ds:OH) (r:RT)
def RT.weight:RT->Nat
 |.always|.week _|.each _ _=>1
 |.span _ _ r|.but _ r=>1+r.weight
 |.either r s|.both r s=>1+(r.weight+s.weight)
def RT.depth:RT->Nat
 |.always|.week _|.each _ _=>1
 |.span _ _ r|.but _ r=>1+r.depth
 |.either r s|.both r s=>1+max r.depth s.depth
def RT.runs:RT->Nat->Bool
 |.always,_=>true
 |.week b,d=>b/2 ^ (d%7)%2==1
 |.span a b r,d=>decide (a<=d) && decide (d<=b) && r.runs d
 |.each n c,d=>c.contains (d%n)
 |.either r s,d=>r.runs d || s.runs d
 |.both r s,d=>r.runs d && s.runs d
 |.but ds r,d=>r.runs d != ds.contains d
theorem RT.depth_pos:∀r:RT,1<=r.depth
 |.always|.week _|.each _ _=>Sg 1
 |.span _ _ r|.but _ r=>Oo 1 _
 |.either r s|.both r s=>Oo 1 _
structure RC where
 rule:Addr
 week:Addr
 span:Addr
 each:Addr
 either:Addr
 both:Addr
 but:Addr
abbrev ZI(l:OH):List V:=l.map λn=>V.int (n:Nat)
inductive ZU(c:RC)(K:Oy)(H:Hp):Addr->RT->Prop
 |always {a dx:Addr} (h:H a=some (.ins c.rule dx [])):ZU c K H a .always
 |week {a dx:Addr} {b:Nat} (h:H a=some (.ins c.week dx [("bits",.int b)])) (hb:b<=127):ZU c K H a (.week b)
 |span {a dx i:Addr} {x y:Nat} {r:RT} (h:H a=some (.ins c.span dx [("first",.int x),("last",.int y),("inner",.ref i)])) (hx:x<=y) (hy:y<=9999) (hi:ZU c K H i r):ZU c K H a (.span x y r)
 |each {a dx p:Addr} {n:Nat} {ss:OH} (h:H a=some (.ins c.each dx [("length",.int n),("starts",.ref p)])) (hn:1<=n) (hn2:n<=28) (hp:Zg K H p (ZI ss)):ZU c K H a (.each n ss)
 |either {a dx i j:Addr} {r s:RT} (h:H a=some (.ins c.either dx [("one",.ref i),("other",.ref j)])) (hi:ZU c K H i r) (hj:ZU c K H j s):ZU c K H a (.either r s)
 |both {a dx i j:Addr} {r s:RT} (h:H a=some (.ins c.both dx [("one",.ref i),("other",.ref j)])) (hi:ZU c K H i r) (hj:ZU c K H j s):ZU c K H a (.both r s)
 |but {a dx p i:Addr} {ds:OH} {r:RT} (h:H a=some (.ins c.but dx [("days",.ref p),("inner",.ref i)])) (hp:Zg K H p (ZI ds)) (hi:ZU c K H i r):ZU c K H a (.but ds r)
def ZU.same(s:Zf H n)(h:ZU c K H a r):ZU c K n a r:=by
 induction h with
 |always h=>exact .always (s _ _ h)
 |week h x=>exact .week (s _ _ h) x
 |span h u y _ f=>exact .span (s _ _ h) u y f
 |each h hn v g=>exact .each (s _ _ h) hn v (Zg.sameT s g)
 |either h _ _ j i=>exact .either (s _ _ h) j i
 |both h _ _ j i=>exact .both (s _ _ h) j i
 |but h g _ f=>exact .but (s _ _ h) (Zg.sameT s g) f
theorem Lp(d:Nat):∀l:List Nat,VU (.int d) (ZI l)=l.contains d
 |[]=>rfl
 |x::r=>by
  have c:=Lp d r;show(XU (.int (x:Int)) (.int (d:Int)) || VU (.int (d:Int)) (ZI r))=_;rw[c,List.contains_cons];congr 1;show((x:Int)==(d:Int))=(d==x);rw[Bool.eq_iff_iff,beq_iff_eq,beq_iff_eq];lia
def E9(l:OH):(ZI l).all WW=true:=by
 rw[List.all_map];exact List.all_eq_true.mpr λ_ _=>R
def ZiO(b k:Nat):(Builtin.bitAnd ((b:Int)/2 ^ k) 1==1)=(b/2 ^ k%2==1):=by
 have e:(b:Int)/2 ^ k=((b/2 ^ k:Nat):Int):=by
  rw[SY,Int.natCast_pow];rfl
 rw[e,PyProof.Rows.bitAnd_pp (Int.natCast_nonneg _) ()];have c:(((b/2 ^ k:Nat):Int).toNat &&& (1:Int).toNat:Nat)=b/2 ^ k%2:=by
  rw[Int.toNat_natCast];exact Nat.and_one_is_mod _
 rw[c,Bool.eq_iff_iff,beq_iff_eq,beq_iff_eq];lia
end K1
namespace L2
open PySem PySem.Spec PyProof.Rows
def F0:Option Int->Int->Int
 |none,y=>y
 |some x,y=>if y>x then y else x
def V0:Option Int->List Int->Option Int
 |b,[]=>b
 |b,y::r=>V0 (some (F0 b y)) r
def Zaz(S:Addr)(h:Heap)(b:Option Int):Prop:=∃(f:Array Value) (c:Nat),h.get? S=some {cls:=.type "list",dict:=none,data:=.seq f c,slots:=#[]}/\match b with
 |none=>f=#[]
 |some x=>∃t,f=#[.int x t,.int x t]
def ZiP(d:Value)(b:Option Int)(v:Value):Prop:=match b with
 |none=>v=d
 |some x=>∃t,v=.int x t
def ZiQ{R:Result->Shared->Prop}{I:Addr}{fp wr:OI}{n:Nat}{P:Nat->Value->Prop}{St:Nat->Heap->Prop}{nm:Str}{d:Value}{g:Nat->Int}
  (W:Walks prog w A.in1 I fp wr n P St) (hg:∀i v,P i v->∃t,v=.int (g i) t) {S:Addr} (out:S∉fp) :
  ∀(l:OF) (j:Nat) (s:Shared) (b:Option Int),j+l.length=n->(∀i y,l[i]? = some y->y=g (j+i))->St j s.heap->Zaz S s.heap b ->
  (∀v h' tk,ZiP d (V0 b l) v->(∀a o,a∉wr->a≠S->s.heap.get? a=some o->h'.get? a=some o)->R (.ok (.ret v)) {s with heap:=h',toks:=tk}) ->
  codeAny (model prog w) A (.builtin "max.loop" ⟨[.ref I,.none,.ref S],[(nm,d)]⟩) R s:=by
 have O:S∉wr:=λz=>out (W.sub _ z);have J:(toString "max" ++ toString ".loop" : String)="max.loop" := by lia
 intro l;induction l with
 |nil =>
  intro j s b D H st m q;obtain rfl:j=n:=D;obtain⟨vs,b0,e,z⟩:=id m;apply codeAny_builtin PySem.F.entry_max_loop;rw[Around.under_plainId PySem.F.plain_max_loop];apply Sa;apply wpAny_seqItems e rfl;apply Sa;apply wpAny_tryCatch;apply W.done s _ _ st;intro h' tk k;cases b with
  |none =>
   subst z;apply Sa;apply wpAny_rule;apply Sb;exact q d h' tk rfl λa o f _ B=>k a o f B
  |some x =>
   ext⟨t,rfl⟩ z;apply Sa;erw[wpAny_updateSeq (k S _ O e) rfl ?_];apply Sa;apply wpAny_letGo;apply Sb;exact q _ _ tk ⟨t,rfl⟩ λa o f c B=>(Heap.get?_update_other _ _ (Ne.symm c)).trans (k a o f B)
 |cons y l T =>
  intro j s b D H st m q;obtain⟨vs,b0,e,z⟩:=id m;have d0:j<n:=by rw[<-D,Sy];lia
  have E:y=g j:=H 0 y rfl;apply codeAny_builtin PySem.F.entry_max_loop;rw[Around.under_plainId PySem.F.plain_max_loop];apply Sa;apply wpAny_seqItems e rfl;apply Sa;apply wpAny_tryCatch;apply W.item j s _ _ d0 st;intro v h' tk pv Q k;obtain⟨h,rfl⟩:=hg j v pv;have u:=k S _ O e;have next:∀(c:Heap),Zaz S c (some (F0 b y))->(∀a o,a≠S->h'.get? a=some o->c.get? a=some o)->codeAny (model prog w) A (.builtin "max.loop" ⟨[.ref I,.none,.ref S],[(nm,d)]⟩) R {s with heap:=c,toks:=tk}:=λc U L =>
   T (j+1) {s with heap:=c,toks:=tk} _ (by rw[<-D,Sy];lia) (λi Z X=>(H (i+1) Z X).trans (by congr 1;lia))
    (W.frame _ _ _ Q λa ha o ho=>L a o (λz=>out (z ▸ ha)) ho) U λv2 B a0 r Y=>q v2 B a0 r λa o f M c0=>Y a o f M (L a o M (k a o f c0))
  cases b with
  |none =>
   subst z;show wpAny _ _ (updateSeq S (λ_=>#[.int (g j) h,.int (g j) h]) >>= _) _ _ _;apply Sa;erw[wpAny_updateSeq u rfl ?_];rw[J];apply Sb;erw[⟨plainId_quiet PySem.F.plain_max_loop _,next _ ⟨_,_,Heap.get?_update_self _ u rfl,h,?_⟩ λa o f c=>(Heap.get?_update_other _ _ (Ne.symm f)).trans c⟩];rw[E];rfl
  |some x =>
   ext⟨t,rfl⟩ z;show wpAny _ _ (tryCatch (holding [.int (g j) h,.int (g j) h] (richCompare .Gt (.int (g j) h) (.int x t) >>= _)) _ >>= _) _ _ _;apply Sa;apply wpAny_tryCatch;apply wpAny_holding;apply Sa;erw[CmpOf.ints_gt (P:=λi v=>∃t,v=.int (if i=0 then g j else x) t) (λi=>if i=0 then g j else x) (λ_ _ z=>z) 0 1 _ _ _ _ _ ⟨_,rfl⟩ ⟨_,rfl⟩ ?_];apply Sa;apply wpAny_holding;apply wpAny_truthy_bool;apply Sa;apply wpAny_letGo;apply Sb;by_cases C:g j>x;rw[SW (show(λi G:Nat=>decide ((if i=0 then g j else x)>if G=0 then g j else x)) 0 1=true from SR C)];apply Sa;erw[wpAny_updateSeq u rfl ?_];apply Sa;apply wpAny_letGo;rw[J];apply Sb;erw[⟨plainId_quiet PySem.F.plain_max_loop _,next _ ⟨_,_,Heap.get?_update_self _ u rfl,h,?_⟩ λa o f c=>(Heap.get?_update_other _ _ (Ne.symm f)).trans c⟩];rw[show F0 (some x) y=g j by rw[E];exact SW C];rw[SV (show ¬(λi G:Nat=>decide ((if i=0 then g j else x)>if G=0 then g j else x)) 0 1=true from λz=>C (SU z))];apply Sa;apply wpAny_letGo;rw[J];apply Sb;erw[⟨plainId_quiet PySem.F.plain_max_loop _,next _ ⟨_,_,u,t,?_⟩ λa o _ c=>c⟩];rw[show F0 (some x) y=x by rw[E];exact SV C]
def ZiR(a v:Value):argsOk "max" ⟨[a],[(OL "default",v)]⟩:=by unfold argsOk;kernel_rfl
def ZiS{u:St}{Q:VK}{p:Addr}{ns:OF}{d:Int}{f:Tok}(P:X.calm=true)(I:Zb X pins u H s)(J:Zd X.K H p (ns.map V.int))(q:Q (.int ((V0 none ns).getD d)) H) :
  wpAny (model X.prog X.w) X.A (call (.builtin "max") [.ref p] [(OL "default",.int d f)]) (EP X pins u Q) X.xe s:=by
 obtain⟨C,B,j,Z⟩:=I.list J;have hlen:=B.length;obtain⟨o,a0,D,_⟩:=id j;have U:p≠s.heap.objs.size:=Sf (Se D);have M:(toString "max" ++ toString ".loop" : String)="max.loop" := by lia
 erw[kmb_tree PySem.F.kind_max PySem.F.plain_max PySem.F.entry_max (ZiR _ _) ?_];show wpAny _ _ (Builtin.Builtins.bindParams "max" ["key","default"] 0 ⟨[],[(OL "default",.int d f)]⟩ >>= _) _ _ s;apply Sa;erw[wpAny_of_eq (show Builtin.Builtins.bindParams "max" ["key","default"] 0 ⟨[],[(OL "default",.int d f)]⟩=pure [none,some (.int d f)] from R) ?_];apply Sa;apply Sb;apply Sa;erw[wpAny_pyIter_list j.isList ?_];apply Sa;erw[wpAny_newObj_type ?_];rw[M];erw[Sb ⟨plainId_quiet PySem.F.plain_max_loop _,?_⟩];erw[ZiQ (fp:=[s.heap.objs.size,p]) (wr:=[s.heap.objs.size]) (g:=λi=>ns.getD i 0) (Walks.list (A:=X.A.in1) (I.ok.hd P) _ _ U C.toArray) ?_ ?_ ns 0 _ none ?_ ?_ ?_ ?_ ?_];intro i v n;have G:C[i]? = some v:=by simpa using n
 have E:i<ns.length:=by
  have:=(Sr.mp G).1;rw[<-hlen,Sv]at this;exact this
 obtain⟨w,c,h⟩:=B.get (i:=i) (x:=.int ns[i]) (by rw[Ob,Ss E];rfl);rw[G]at c;cases c;ext⟨t,rfl⟩ h;exact⟨t,by rw[List.getD_eq_getElem?_getD,Ss E];rfl⟩;intro hm;have c:(s.heap.push {cls:=.type "list_iterator",data:=.fields #[.ref p,.int 0 0]}).objs.size=s.heap.objs.size+1:=Heap.size_push ..;have lt:=Se D;rcases SG.mp hm with z|z;have:s.heap.objs.size+1=s.heap.objs.size:=c.symm.trans z;lia;have:s.heap.objs.size+1=p:=c.symm.trans (SF.mp z);rw[<-this]at lt;exact Ot lt (Oh.mpr (Nat.le_succ _));rw[SO,<-hlen,Sv,Nat.zero_add];intro i b0 L;rw[Nat.zero_add,List.getD_eq_getElem?_getD,L];rfl;erw[⟨⟨_,Sc _ (Sd _ R),R,R⟩,?_⟩];ext⟨O,h,S⟩ j.isList;exact⟨O,Sc _ (Sc _ h),S⟩;exact⟨_,_,Sd _ R,R⟩;intro v Y tk r k;have T:∀b o,s.heap.get? b=some o->Y.get? b=some o:=λb o e=>k b o (λz=>by
   have c:=Se e;rw[SF.mp z]at c;exact Ot c (Sl _)) (λz=>by
   have c:=Se (Sc {cls:=.type "list_iterator",data:=.fields #[.ref p,.int 0 0]} e);rw[z]at c;exact Ot c (Sl _)) (Sc _ (Sc _ e))
 have n:∃y,v=.int ((V0 none ns).getD d) y:=by
  cases e:V0 none ns with
  |none=>rw[e]at r;exact⟨f,r⟩
  |some x=>rw[e]at r;exact r
 ext⟨y,rfl⟩ n;exact⟨.int _,H,I.kept (t':=tk) T,⟨_,R⟩,q⟩
inductive ZiT(K:Oy)(Q:VK)(vs:List V)(zs:List V)(H2:Hp):Prop|mk (p:Addr) (ns:OF) (d:Int) (_:vs=[.ref p]) (_:zs=[.int d]) (_:Zd K H2 p (ns.map V.int)) (_:Q (.int ((V0 none ns).getD d)) H2)
def ZiU(K:Oy)(t tk:TA):TE:=λc H Q=>t c H λf g=>tk c g λzs h=>ZiT K Q f zs h
def ZiV(L:X.calm=true)(M:Gl X "max") (hm:X.mg "max"=none) (P:bootBuiltins "max"=some (.builtin "max"))
  (ha:PA X (e::f) t) (y:PK X g tk) (C:(backToKw c (keywordEach g X.env)).all (·.1.isSome)=true:=by rfl) (D:(backToKw c (keywordEach g X.env)).filterMap (·.1)=[OL "default"]:=by rfl)
  (B:starEach (e::f) X.env=(false,eval e X.env)::starEach f X.env:=by rfl)
  (O:(backTo c (starEach (e::f) X.env)).any (·.1)=false:=by rfl) (T:(backToKw c (keywordEach g X.env)).any (·.1.isNone)=false:=by rfl) :
  PE X (.Call (.Name "max" p) (e::f) g c) (ZiU X.K t tk):=by
 intro pins s i H a0 I h;erw[wpAny_Call_Name_kw (VN I M hm P ?_ () ())];erw[callWith_builtin_kwB O T (evalArgs_kw2 C (ZA (ha c pins s i H _ I h) λU S ⟨Y,n,G,r,q⟩=>?_) B)];erw[ZA (y c pins S i n _ G q) λws s2 ⟨zs,H2,x,j,J⟩=>?_];rw[D];ext⟨l,ns,d,rfl,rfl,v,E⟩ J;obtain⟨u,rfl,Q⟩:=Xm r;cases Q;obtain⟨u,rfl,Z,rfl⟩:=Xm j;exact ZiS L x v E
open PySem
abbrev U3(xs:Array Nat):Prop:=xs.toList.Pairwise (· < ·)
def Ng{xs:Array Nat}(h:U3 xs)(f:i<k)(c:k<xs.size):xs.getD i d<xs.getD k d:=by
 have q:=List.pairwise_iff_getElem.mp h i k (by simpa using Nat.lt_trans f c) (by simpa using c) f;simpa [Array.getD,Nat.lt_trans f c,c]using q
theorem Rx{xs:Array Nat}(h:U3 xs):∀(n lo hi:Nat),hi - lo<=n->lo<=hi->hi<=xs.size->(∀i,i<lo->xs.getD i j<j)->(∀i,hi<=i->i<xs.size->j<=xs.getD i j) ->
  SetTable.below.go xs j n lo hi<=xs.size/\(∀i,i<SetTable.below.go xs j n lo hi->xs.getD i j<j)/\∀i,SetTable.below.go xs j n lo hi<=i->i<xs.size->j<=xs.getD i j
 |0,lo,hi,hn,x,g,h1,f=>by
  have e:lo=hi:=by lia
  subst e;exact⟨g,h1,f⟩
 |n+1,lo,hi,hn,x,g,h1,f=>by
  unfold SetTable.below.go;by_cases c:lo<hi;rw[SW c];dsimp only;by_cases d:xs.getD ((lo+hi)/2) j<j;rw[SW d];erw[Rx h n _ hi () () g (λi u=>?_) f];by_cases e:i=(lo+hi)/2;rwa[e];exact Nat.lt_trans (Ng h (show i<(lo+hi)/2 by lia) ()) d;rw[SV d];erw[Rx h n lo _ () () () h1 (λi u v=>?_)];by_cases e:i=(lo+hi)/2;rw[e];lia;have:=Ng (d:=j) h (show(lo+hi)/2<i by lia) v;lia;rw[SV c];have e:lo=hi:=by lia
  subst e;exact⟨g,h1,f⟩
def Ry{xs:Array Nat}(h:U3 xs):SetTable.below xs j<=xs.size/\(∀i,i<SetTable.below xs j->xs.getD i j<j)/\∀i,SetTable.below xs j<=i->i<xs.size->j<=xs.getD i j :=
 Rx h _ 0 _ () (Sk _) (Sg _) (λi z=>Ot z (Nat.not_lt_zero _)) (λi a b=>by lia)
def ZiW(h:U3 xs)(hn:xs[SetTable.below xs j]?≠some j):U3 (SetTable.insertAt xs (SetTable.below xs j) j):=by
  obtain⟨B,y,n⟩:=Ry (j:=j) h;show List.Pairwise _ _;rw[SetTable.toList_insertAt];have get:∀i (c:i<xs.size),xs.getD i j=xs.toList[i]'(by simpa using c):=λi c=>by simp[Array.getD,c]
  have u:∀b∈xs.toList.drop (SetTable.below xs j),j<b:=λb f=>by
    obtain⟨i,c,rfl⟩:=List.getElem_of_mem f;rw[SB]at c;have hz:SetTable.below xs j+i<xs.size:=by simpa using(show SetTable.below xs j+i<xs.toList.length by lia)
    rw[List.getElem_drop,<-get _ hz];have g:=n _ (Oo (SetTable.below xs j) i) hz;erw[Nat.lt_of_le_of_ne g λe=>?_];by_cases x:i=0
    · subst x
      erw[hn ?_];rw[Nat.add_zero]at e hz;rw[Array.getElem?_eq_getElem hz];have:=get _ hz;rw[<-e]at this;simpa using this.symm
    · have l:=Ng (d:=j) h (show SetTable.below xs j<SetTable.below xs j+i by lia) hz
      have C:=n _ (Sg _) (show SetTable.below xs j<xs.size by lia);lia
  erw[List.pairwise_append.mpr ⟨h.sublist (List.take_sublist _ _),List.pairwise_cons.mpr ⟨u,h.sublist (List.drop_sublist _ _)⟩,λa ha b f=>?_⟩];have v:a<j:=by
    obtain⟨i,c,rfl⟩:=List.getElem_of_mem ha;rw[Sx]at c
    have hz : i < xs.size := by have : xs.toList.length=xs.size := by simp
                                lia
    rw[List.getElem_take,<-get _ hz];exact y i ()
  rcases SG.mp f with rfl|f;exact v;exact Nat.lt_trans v (u b f)
structure Qw(t:OJ):Prop where
 du:t.dummies=#[]
 ri:t.plain=true->U3 t.place
def ZaA(j:Nat):SetTable.has #[] j=false:=rfl
def ZiX{t:OJ}(h:t.slot j=.empty):t.place[SetTable.below t.place j]?≠some j:=by
 intro e;unfold SetTable.slot at h;dsimp only at h;rw[e]at h;simp at h
def ZiY{t:OJ}(c:Qw t):t.slot j≠.dummy:=by
 unfold SetTable.slot;rw[c.du];dsimp only;split;intro z;cases z;rw[ZaA];intro z;cases z
theorem ZaB{t:OJ}(u:Qw t):∀(n:Nat) (p:SetTable.Probe) (j:Nat) (d:Option Nat),p.dummy=none->SetTable.probe.go t g h n p=some (.empty j d)->t.slot j=.empty/\d=none
 |0,p,j,d,_,e=>by cases e
 |n+1,p,j,d,f,e=>by
  unfold SetTable.probe.go at e;cases c:t.slot p.j with
  |empty =>
   rw[c]at e;injection e with e;injection e with x v;subst x;exact⟨c,v.symm.trans f⟩
  |dummy=>exact Ot c (ZiY u)
  |live i =>
   rw[c]at e;dsimp only at e;split at e;injection e with e;cases e;erw[ZaB u n _ j d ?_ e];unfold SetTable.advance;split;exact f;exact f
def ZiZ{t:OJ}(f:Qw t)(g:Array (Int×Value))(h:Int)(x:Value):Qw (layNew t g h x).2.1/\(layNew t g h x).2.1.led=t.led:=by
 unfold layNew;cases c:t.freeSlot h with
 |none=>exact⟨⟨R,λz=>by cases z⟩,rfl⟩
 |some q =>
  ext⟨j,wd⟩ q;have n:t.slot j=.empty:=by
   unfold SetTable.freeSlot at c;split at c;rename_i B C u;obtain⟨v,rfl⟩:=ZaB f _ _ _ _ R u;injection c with c;injection c with i y;rwa[<-i];cases c
  dsimp only;unfold SetTable.orStandIn;split;erw[⟨⟨?_,λz=>?_⟩,R⟩];show(if SetTable.has t.dummies j=true then _ else t.dummies)=#[];rw[f.du,ZaA];rfl;exact ZiW (f.ri z) (ZiX n);exact⟨⟨R,λz=>by cases z⟩,rfl⟩
def Zi0{t:OJ}(C:Qw t)(f:Array (Int×Value))(n:Nat):Qw (relayAll t f n).2.1/\(relayAll t f n).2.1.led=t.led:=by
 unfold relayAll;cases c:t.relaid (f.map (·.1)) n with
 |none=>exact⟨⟨R,λz=>by cases z⟩,rfl⟩
 |some q =>
  ext⟨D,x⟩ q;dsimp only;split;unfold SetTable.relaid SetTable.laid at c;cases g:SetTable.layClean (SetTable.sizeAbove n - 1) (f.map (·.1))with
  |none=>rw[g]at c;cases c
  |some i =>
   rw[g]at c;injection c with c;injection c with u B;subst u;erw[⟨⟨R,λ_=>?_⟩,R⟩];show List.Pairwise _ _;rw[List.toList_toArray];rw[List.map_filterMap];erw[List.Pairwise.sublist (l₂:=List.range (SetTable.sizeAbove n - 1+1)) ?_ List.pairwise_lt_range];have v:∀l:List Nat,List.Sublist (l.filterMap λj=>Option.map (λp:Nat×Nat=>p.1) ((i.getD j none).map λy=>(j,y))) l:=by
    intro l;induction l with
    |nil=>exact .slnil
    |cons a r h =>
     rw[List.filterMap_cons];cases i.getD a none with
     |none=>exact h.cons _
     |some y=>exact h.cons_cons _
   exact v _
  exact⟨⟨R,λz=>by cases z⟩,rfl⟩
open PySem
def Xo(e:Int×Value):Int:=match e.2 with
 |.int k _=>k
 |_=>0
def ZaC(h:ElemsOf (intKind prog w) l){e:Int×Value}(f:e∈l):∃t,e.2=.int (Xo e) t:=by
 obtain⟨⟨k,c,_⟩,_⟩:=h e f;obtain⟨t,q⟩:=Value.isInt_shape (k:=k) (v:=e.2) c;erw[⟨t,?_⟩];unfold Xo;rw[q]
def Zi1(h:ElemsOf (intKind prog w) l){e:Int×Value}(c:e∈l)(q:(intKind prog w).is k e.2=true):Xo e=k:=by
 obtain⟨t,q⟩:=Value.isInt_shape (k:=k) (v:=e.2) q;unfold Xo;rw[q]
def Xp(prog:Program)(w:World)(h:Heap)(a:Addr)(ks:OF):Prop:=∃(o:Obj) (es:Array (Int×Value)) (ep:Nat) (t:OJ),
 h.get? a=some o/\o.ExactSet/\o.data=.set es ep t/\ElemsOf (intKind prog w) es.toList/\t.fits es.size=true/\Qw t/\(w.params.followText "set-order"=false->t.led=true) /\
 (es.toList.map Xo).Nodup/\(∀k,k∈es.toList.map Xo↔k∈ks)/\es.size<=ks.length
def Xp.keep{h h':Heap}(x:Xp prog w h a ks)(k:∀o,h.get? a=some o->h'.get? a=some o):Xp prog w h' a ks :=
 let ⟨o,es,ep,t,ho,r⟩:=x
 ⟨o,es,ep,t,k _ ho,r⟩
def ZaD{h:Heap}{o:Obj}{c : Array (Int×Value)}{t' : SetTable}{ks:OF}(v:h.get? a=some o)(u:o.ExactSet)(hd:o.data=.set n f t)
  (x:ElemsOf (intKind prog w) c.toList) (i:t'.fits c.size=true) (j:Qw t') (y:w.params.followText "set-order"=false->t'.led=true) (nd:(c.toList.map Xo).Nodup)
  (mem:∀k,k∈c.toList.map Xo↔k∈ks) (sz:c.size<=ks.length) :
  (h.update a (Obj.putSet c t')).get? a=some {o with data:=.set c (f+1) t'}/\Xp prog w (h.update a (Obj.putSet c t')) a ks:=by
 have g:(h.update a (Obj.putSet c t')).get? a=some {o with data:=.set c (f+1) t'}:=by
  have q:=Heap.get?_update_self (Obj.putSet c t') v (by rw[putSet_of c t' hd];rfl);rw[putSet_of c t' hd]at q;exact q
 exact⟨g,_,c,f+1,t',g,u,R,x,i,j,y,nd,mem,sz⟩
def Zi2{c f:Array (Int×Value)}(p:List.Perm f.toList c.toList):f.size=c.size:=by
 have:=p.length_eq;simpa using this
def Zi3{ks:OF}(hS:Xp prog w s.heap a ks)(hr:ks.length+1<scanBound)
  (h:∀b h',Heap.SameBut a s.heap h'->Xp prog w h' a (ks++[k])->Q b {s with heap:=h'}):wpAny (model prog w) A (setAddHashed a (.int k tk) ((intKind prog w).hash k)) Q E s:=by
 ext⟨o,f,ep,t,y,C,hd,n,J,X,hl,nd,mem,sz⟩ hS;have hz:f.size<scanBound:=by lia
 have a0:(intKind prog w).is k (.int k tk)=true:=intKind_is _ _ _ _;unfold setAddHashed setAddHashedIn;erw[wpAny_holding (Sa (wpAny_setState_of y hd J ?_))];dsimp only;rw[byScan_of (knd:=intKind prog w) (x:=.int k tk) R hz n];simp only[↓reduceIte];unfold setAddByScan;erw[Sa (Sa (wpAny_rule (Sa (wpAny_setScan_of a0 y hd J n ?_))))];cases hc:List.findIdx? (λe=>(intKind prog w).is k e.2) f.toList with
 |some d0 =>
  dsimp only;obtain⟨hj,hp,_⟩:=List.findIdx?_eq_some_iff_getElem.mp hc;have P:k∈f.toList.map Xo:=SK.mpr ⟨f.toList[d0],Oj hj,Zi1 n (Oj hj) hp⟩;have q:=h false s.heap (Heap.SameBut.refl a s.heap) ⟨o,f,ep,t,y,C,hd,n,J,X,hl,nd,λi=>by
   rw[SH,SF,mem i];exact⟨.inl,λz=>z.elim id λe=>by rw[e];exact(mem k).mp P⟩,by rw[Su];lia⟩
  exact Sb (Sb q)
 |none =>
  dsimp only;have P:k∉f.toList.map Xo:=λz=>by
   obtain⟨e,Z,ek⟩:=SK.mp z;have q:=List.findIdx?_eq_none_iff.mp hc e Z;obtain⟨te,ee⟩:=ZaC n Z;rw[ee,ek,intKind_is]at q;cases q
  have Y:∀(b:Bool) {M:Shared} {D:OB},D Unit.unit M->wpAny (model prog w) A (match b with|true=>rule "set.scan.the-table-gave-way" | false=>pure Unit.unit) D E M :=
   λb M D q=>by
    cases b;exact Sb q;exact wpAny_rule q
  have v:=layNew_perm t f ((intKind prog w).hash k) (.int k tk);have L:=layNew_fits t f ((intKind prog w).hash k) (.int k tk);obtain⟨B,S⟩:=ZiZ X f ((intKind prog w).hash k) (.int k tk);generalize layNew t f ((intKind prog w).hash k) (.int k tk)=e0 at v L B S ⊢;ext⟨c,g,wd,gv⟩ e0;dsimp only at v L B S ⊢;rw[Array.toList_push]at v;have c0:ElemsOf (intKind prog w) c.toList:=(n.push a0 R).perm v;have km:List.Perm (c.toList.map Xo) (f.toList.map Xo++[k]):=by
   have:=v.map Xo;rw[SM]at this;exact this
  have Lm:(c.toList.map Xo).Nodup:=km.nodup_iff.mpr (List.nodup_append.mpr ⟨nd,by simp,λa ha b u=>by
   rw[SF]at u;subst u;intro e;subst e;exact P ha⟩)
  have b0:∀i,i∈c.toList.map Xo↔i∈ks++[k]:=λi=>by
   rw[km.mem_iff,SH,SH,mem i]
  have h0:c.size=f.size+1:=by
   have:=v.length_eq;simpa using this
  have z1:c.size<=(ks++[k]).length:=by rw[Su,Sw];lia
  have l1:w.params.followText "set-order"=false->g.led=true:=λz=>S.trans (hl z);erw[Sa (Y _ ?_)];have tail:∀{H:Option Bool->Shared->Prop},(∀h',Heap.SameBut a s.heap h'->Xp prog w h' a (ks++[k])->H (some true) {s with heap:=h'}) ->
    wpAny (model prog w) A (do
     storeSet a c g
     if (!wd && g.tooFull)=true then do
      (match (relayAll g c (SetTable.grown c.size)).2.2 with|true=>rule "set.scan.the-table-gave-way" | false=>pure Unit.unit)
      storeSet a (relayAll g c (SetTable.grown c.size)).1 (relayAll g c (SetTable.grown c.size)).2.1
      pure (some true)
     else pure (some true)) H E s:=by
   intro H T;erw[Sa (wpAny_storeSet_of y hd ?_ (fits_of_scanBound ()))];obtain⟨g1,i1⟩:=ZaD (prog:=prog) (w:=w) y C hd c0 L B l1 Lm b0 z1;have U:=Heap.SameBut.update s.heap a (Obj.putSet c g);split;have j:=relayAll_perm g c (SetTable.grown c.size);have I:=relayAll_fits g c (SetTable.grown c.size);obtain⟨t2,G⟩:=Zi0 B c (SetTable.grown c.size);generalize relayAll g c (SetTable.grown c.size)=f0 at j I t2 G ⊢;ext⟨i0,t3,g0⟩ f0;dsimp only at j I t2 G ⊢;have s2:=Zi2 j;erw[Sa (Y _ (Sa (wpAny_storeSet_of g1 R ?_ (fits_of_scanBound ()))))];obtain⟨_,i2⟩:=ZaD (prog:=prog) (w:=w) (ks:=ks++[k]) g1 C R (c0.perm j) I t2 (λz=>G.trans (l1 z)) ((j.map Xo).nodup_iff.mpr Lm) (λi=>by rw[(j.map Xo).mem_iff];exact b0 i) ();exact Sb (T _ (U.trans (Heap.SameBut.update _ a _)) i2);exact Sb (T _ U i1)
  split;erw[Sa ?_];rw[hashByValue_scannable 8 (show Value.scannable (.int k tk)=true from R)];erw[Sb ?_];show wpAny _ _ _ _ _ _;exact tail λh' u O=>Sb (h true h' u O);erw[Sa (Sb ?_)];exact tail λh' u O=>Sb (h true h' u O)
section
variable{R:Result->Shared->Prop}{I:Addr}{fp wr:OI}{G:Array GenState->Array GenState->Prop}{n:Nat}{P:Nat->Value->Prop}{St:Nat->Shared->Prop}
def Zi4(W:WalksS prog w A.in1 I fp wr G n P St)(S:Addr)(j:S∉fp)(val:Nat->Int)(E:∀i v,P i v->∃t,v=.int (val i) t)(c:n+1<scanBound) :
  ∀(k i:Nat) (s:Shared),n - i=k->i<=n->St i s->Xp prog w s.heap S ((List.range i).map val)->(∀s',Moved (S::wr) G s s'->Xp prog w s'.heap S ((List.range n).map val)->R (.ok (.ret .none)) s') ->
   codeAny (model prog w) A (.builtin "set.update.loop" ⟨[.ref S,.ref I],[]⟩) R s:=by
 have x:S∉wr:=λz=>j (W.sub _ z);have u:∀b∈wr,b∈S::wr:=λb z=>SD _ z;intro k;induction k with
 |zero =>
  intro i s O f st g h;obtain rfl:i=n:=by lia
  erw[codeAny_builtin PyProof.Rows.F.entry_set_update_loop ?_];rw[Around.under_plainId PyProof.Rows.F.plain_set_update_loop _];erw[Sa (m:=pyNext (.ref I)) (W.done s _ _ st λs' hm=>?_)];exact Sb (h s' (hm.mono u) (g.keep λo e=>hm.heap S o x e))
 |succ k C =>
  intro i s O f st g h;have lt:i<n:=by lia
  erw[codeAny_builtin PyProof.Rows.F.entry_set_update_loop ?_];rw[Around.under_plainId PyProof.Rows.F.plain_set_update_loop _];erw[Sa (m:=pyNext (.ref I)) (W.item i s _ _ lt st λv s' J B hm=>?_)];obtain⟨tk,rfl⟩:=E i v J;have M:=g.keep λo e=>hm.heap S o x e;erw[Sa (m:=holding [Value.int (val i) tk] (setAdd S (.int (val i) tk))) (wpAny_holding ?_)];unfold setAdd;erw[wpAny_holding (Sa ((intKind prog w).pyHash (k:=val i) (intKind_is _ _ _ _) ?_))];erw[Zi3 (s:={s' with toks:=s'.toks+1}) M (by rw[Sv,List.length_range];lia) λb Q y f=>?_];have e:((List.range i).map val)++[val i]=(List.range (i+1)).map val:=by rw[Ol,SM];rfl
  rw[e]at f;erw[Sb ⟨plainId_quiet PyProof.Rows.F.plain_set_update_loop _,C (i+1) _ () lt (W.frame _ s' _ _ B (Nat.le_succ _) λb c o e=>?_) f λD L H=>?_⟩];rwa[y.2 b (λz:b=S=>j (by rw[<-z];exact c))];erw[h D (Moved.trans W.gtrans ((hm.mono u).then_heap (Nat.le_succ _) λb o c e=>?_) L) H];rwa[y.2 b (λz:b=S=>c (by rw[z];exact SE))]
end
open PySem
theorem Rz{c:Type}:∀(l:List c) (i:Nat) (x:c),l[i]? = some x->List.Perm (x::l.eraseIdx i) l
 |[],i,x,h=>by cases h
 |a::r,0,x,h=>by cases h;exact .refl _
 |a::r,i+1,x,h=>(List.Perm.swap a x _).trans ((Rz r i x h).cons a)
theorem ZaE{g:Type}(f:Nat->Nat):∀(n k:Nat) (l:List g) (out:Array g),l.length=n->List.Perm (pickOrder.go f n k l out).toList (out.toList++l)
 |0,k,l,out,h=>by
  cases l with
  |nil=>unfold pickOrder.go;rw[Od]
  |cons a r=>cases h
 |n+1,k,l,out,h=>by
  unfold pickOrder.go;have c:f k%l.length<l.length:=Op _ ();rw[Ss c];dsimp only;have p:=Rz l _ _ (Ss c);erw[(ZaE f n (k+1) _ _ ?_).trans ?_];have:=p.length_eq;rw[Sy]at this;lia;rw[Array.toList_push,Oe];exact List.Perm.append_left _ p
def RA{c:Type}(f:Nat->Nat)(xs:Array c):List.Perm (pickOrder f xs).toList xs.toList:=by
 have:=ZaE f xs.size 0 xs.toList #[] (by simp);rw[show(#[]:Array c).toList++xs.toList=xs.toList from R]at this;exact this
def Zi5{n:Nat}(hn:n≠0)(h:∀i d,i<n->Q i {s with drawn:=d}):wpAny M A (choose c n) Q E s:=λf p g=>by
 show Sem.wp M f (Sem.choose c n Sem.pure) _ _ p s;unfold Sem.wp;erw[⟨hn,?_⟩];unfold Sem.wp;exact h _ _ (Op _ (Nat.pos_of_ne_zero hn))
theorem ZaF{M:Model}{g:Type}:∀(n:Nat) (xs:List g) (s:Shared) {Q:List g->Shared->Prop},xs.length=n->(∀c d,List.Perm c xs->Q c {s with drawn:=d})->wpAny M A (drawOrder n xs) Q E s
 |0,xs,s,Q,f,h=>by
  cases xs with
  |nil=>exact Sb (h [] s.drawn .nil)
  |cons a r=>cases f
 |n+1,xs,s,Q,f,h=>by
  cases xs with
  |nil=>cases f
  |cons a r =>
   unfold drawOrder;erw[Sa (Zi5 (by simp) λi d j=>?_)];rw[Ss j];dsimp only;have p:=Rz (a::r) _ _ (Ss j);erw[Sa (ZaF n _ _ (by have:=p.length_eq;rw[Sy]at this;lia) λc v u=>?_)];exact Sb (h _ v ((u.cons _).trans p))
def Wu(h:Heap)(I:Addr)(f:Value)(i:Nat)(p n c:Nat):Prop:=∃o,h.get? I=some o/\o.cls=.type "set_iterator" /\ o.data=.fields #[f,.int i 0,.ref p,.int n 0,.int c 0]
def Wu.ty(x:Wu s.heap I f i p n c):s.TypeIs (.ref I) "set_iterator" := let ⟨o,ho,hc,_⟩:=x;⟨o,ho,hc⟩
def Vs(h:Heap)(p f:Nat)(c:Array (Int×Value))(t:OJ):Prop:=∃o,h.get? p=some o/\o.ExactSet/\o.data=.set c f t/\t.fits c.size=true
def U4:Slot "set_iterator" "__next__" "set_iterator.__next__" := .of (owner := "set_iterator") (n := "__next__") (by rw[typeLookup_type,builtinLookup_eq_fast];kernel_rfl) () () () (by first|exact .inl ()|exact .inr ()) (by rw[isSubtype_type];kernel_rfl)
def Nh:entryFor table "set_iterator.__next__"=some Builtin.«set_iterator.__next__»:=entryFor_of_tree (by kernel_rfl)
def Ni(a:Value):argsOk "set_iterator.__next__" ⟨[a],[]⟩:=by unfold argsOk;kernel_rfl
def Zi6:entryFor table "set.__iter__"=some Builtin.«frozenset.__iter__»:=entryFor_alias (id' := "frozenset.__iter__") (by kernel_rfl) R () (by kernel_rfl)
def ZaG:typeLookup (.type "set_iterator") "__next__"=pure (some (.builtin "set_iterator.__next__")):=U4.lookup
def Zi7{h:Array (Int×Value)}{t:OJ}(L:Vs s.heap p x h t)
  (M:(w.params.followText "set-order"=true\/(t.plain=true\/h.size<=1))->Q (.ref s.heap.objs.size) {s with heap:=s.heap.push {cls:=.type "set_iterator",data:=.fields #[.int 0 0,.int 0 0,.ref p,.int h.size 0,.int x 0]} })
  (hd:∀(n:OH) (d:Drawn),List.Perm n (List.range h.size)->Q (.ref (s.heap.objs.size+1)) {s with heap:=(s.heap.push {cls:=.type "tuple",data:=.seq (n.map λi=>rawInt (i:Nat)).toArray}).push {cls:=.type "set_iterator",data:=.fields #[.ref s.heap.objs.size,.int 0 0,.ref p,.int h.size 0,.int x 0]},drawn:=d})
  (X:h.size<=sizeLine):wpAny (model prog w) A (pyIter (.ref p)) Q E s:=by
 ext⟨o,u,O,B,y⟩ L;have G:s.TypeIs (.ref p) "set" := ⟨o,u,O.1⟩;erw[wpAny_pyIter_slot G F.slot_set_iter (wpAny_call_entry F.slot_set_iter G Zi6 ?_ (F.args_set_iter_1 _))];unfold Builtin.«frozenset.__iter__»;erw[Sa (m:=Builtin.Frozenset.slot0 "__iter__" _) (Sb ?_)];erw[Sa (m:=Builtin.Frozenset.sizeOf p) ?_];unfold Builtin.Frozenset.sizeOf setEntries;erw[Sa (Sa (wpAny_setState_of u B y (Sb (Sb ?_))))];unfold setDrawn setsByText;erw[Sa (Sa (wpAny_setState_of u B y (Sa (Sa (wpAny_askSetting (Sb (Sb ?_)))))))];have I:∀{f:Value} {j:Heap} {d:Drawn},j.get? p=some o->Q (.ref j.objs.size) {s with heap:=j.push {cls:=.type "set_iterator",data:=.fields #[f,.int 0 0,.ref p,.int h.size 0,.int x 0]},drawn:=d} ->
   wpAny (model prog w) A.in1 (do
    let U <-setEpoch p
    let P <-newFields "set_iterator" [f,rawInt 0,Value.ref p,rawInt (h.size:Nat),rawInt (U:Nat)]
    ret P) (λT J=>∃v,T=Fin.done (Flow.ret v)/\∃H r,J.TypeIs v H/\typeLookup (Value.type H) (OL "__next__")=pure (some r)/\Q v J) E {s with heap:=j,drawn:=d}:=λ{f j d} g q=>by
  erw[Sa (wpAny_setEpoch_of (s:={s with heap:=j,drawn:=d}) g B y ?_)];exact Sa (wpAny_newObj_type (Sb ⟨_,R,"set_iterator",_,⟨_,Sd _ R,R⟩,ZaG,q⟩))
 erw[wpAny_ite_split (λc=>?_) (λc=>?_)];erw[Sa (ZaF h.size _ _ (by simp) λn d D=>?_)];have S:n.length=h.size:=by have:=D.length_eq;simpa using this
 erw[Sa (m:=newTuple _) (wpAny_newObj_type ?_ (by show(n.map λi=>rawInt (i:Nat)).toArray.size<=sizeLine;rwa[SO,Sv,S]))];have q:=hd n d D;have e:s.heap.objs.size+1=(s.heap.push {cls:=.type "tuple",data:=.seq (n.map λi=>rawInt (i:Nat)).toArray}).objs.size:=(Heap.size_push _ _).symm;rw[e]at q;exact I (Sc _ u) q;erw[Sa (Sb (I (d:=s.drawn) u (M ?_)))];have C:¬ (!w.params.followText "set-order" && (!t.plain && decide (h.size>1)))=true:=c;cases Y:w.params.followText "set-order" with
 |true=>exact .inl rfl
 |false =>
  right
  cases j:t.plain with
  |true=>exact .inl rfl
  |false =>
   right
   rw[Y,j]at C;simp at C;exact C
open PySem
def Zi8{h:Heap}(x:Wu h I f i p n c) :
  Wu ((h.update I (Obj.mapFields (·.setIfInBounds 0 g))).update I (Obj.mapFields (·.setIfInBounds 1 (rawInt ((i:Int)+1))))) I g (i+1) p n c:=by
 ext⟨o,v,y,hd⟩ x;have j:=Obj.data_mapFields hd (·.setIfInBounds 0 g);have g1:=Heap.get?_update_self (Obj.mapFields (·.setIfInBounds 0 g)) v (Obj.isFreed_of_fields j);have u:=Obj.data_mapFields j (·.setIfInBounds 1 (rawInt ((i:Int)+1)));erw[⟨_,Heap.get?_update_self _ g1 (Obj.isFreed_of_fields u),(Obj.cls_mapFields ..).trans ((Obj.cls_mapFields ..).trans y),?_⟩];rw[u];simp[rawInt]
def ZaH{I p c i slot nx:Nat}{g:Array (Int×Value)}{t:OJ}{x:Value}{Q:Option Value->Shared->Prop}(f:Wu s.heap I (.int slot 0) i p g.size c)(n:Vs s.heap p c g t)
  (y:∀(C:Around) (E':Ov) (Q':Option (Value×Nat)->Shared->Prop),Q' (some (x,nx)) s->wpAny (model prog w) C (setNext p slot i c) Q' E' s)
  (B:∀h',Wu h' I (.int nx 0) (i+1) p g.size c->Heap.SameBut I s.heap h'->Q (some x) {s with heap:=h'}):wpAny (model prog w) A (pyNext (.ref I)) Q E s:=by
 obtain⟨o,h,J,hd⟩:=id f;ext⟨H,v,G,D,u⟩ n;unfold pyNext;erw[Sa (wpAny_attempt (wpAny_callSpecial?_slot (name:=OL "__next__") f.ty U4 (wpAny_call_entry U4 f.ty Nh ?_ (Ni _))))];unfold Builtin.«set_iterator.__next__»;erw[Sa (m:=slotArgs "__next__" 0 _) (Sb ?_)];erw[Sa (wpAny_fieldsOf h hd ?_)];dsimp only;unfold setEntries;erw[Sa (Sa (wpAny_setState_of v D u (Sb ?_)))];rw[SV (by simp)];simp only[Int.toNat_natCast];erw[Sa (y _ _ _ ?_)];dsimp only;erw[Sa (wpAny_setField h hd (by simp) ?_)];have j:=Obj.data_mapFields hd (·.setIfInBounds 0 (rawInt (nx:Int)));have g1:=Heap.get?_update_self (Obj.mapFields (·.setIfInBounds 0 (rawInt (nx:Int)))) h (Obj.isFreed_of_fields j);erw[Sa (wpAny_setField (s:={s with heap:=s.heap.update I (Obj.mapFields (·.setIfInBounds 0 (rawInt (nx:Int))))}) g1 j (by simp) ?_)];exact Sb ⟨_,R,Sb (B _ (Zi8 f) ((Heap.SameBut.update ..).trans (Heap.SameBut.update ..)))⟩
def ZaI{I p c i slot:Nat}{h:Array (Int×Value)}{t:OJ}{Q:Option Value->Shared->Prop}(j:A.handled=none)(f:Wu s.heap I (.int slot 0) i p h.size c)(n:Vs s.heap p c h t)
  (x:∀(C:Around) (E':Ov) (Q':Option (Value×Nat)->Shared->Prop),Q' none s->wpAny (model prog w) C (setNext p slot i c) Q' E' s)
  (B:∀h',Heap.ExtBut I s.heap h'->Q none {s with heap:=h'}):wpAny (model prog w) A (pyNext (.ref I)) Q E s:=by
 obtain⟨o,g,H,hd⟩:=id f;obtain⟨J,y,G,D,u⟩:=id n;unfold pyNext;erw[Sa (wpAny_attempt (wpAny_callSpecial?_slot (name:=OL "__next__") f.ty U4 (wpAny_call_entry U4 f.ty Nh ?_ (Ni _))))];unfold Builtin.«set_iterator.__next__»;erw[Sa (m:=slotArgs "__next__" 0 _) (Sb ?_)];erw[Sa (wpAny_fieldsOf g hd ?_)];dsimp only;unfold setEntries;erw[Sa (Sa (wpAny_setState_of y D u (Sb ?_)))];rw[SV (by simp)];simp only[Int.toNat_natCast];erw[Sa (x _ _ _ ?_)];dsimp only;erw[Sa (wpAny_setField g hd (by simp) ?_)];have v:=Heap.SameBut.update s.heap I (Obj.mapFields (·.setIfInBounds 2 Value.none));simp only[newExc,newTuple];erw[Sa (Sa (wpAny_newObj_type (Sa (m:=firstArgMember _ _) (wpAny_of_eq (a:=Value.none) (by simp only[firstArgMember];rfl) (wpAny_newObj_type ?_ (by size_fits)))) (by size_fits)))];simp only[raiseNew];erw[Sa (wpAny_handled ?_)];rw[show A.in1.handled=none from j];erw[Sa (Sb (wpAny_throw ?_))];erw[Sa (wpAny_isInstance (T := "StopIteration") (b:=true) ⟨_,Sd _ R,R⟩ isSubtype_stop ?_)];exact Sb (B _ ((v.extBut.push _).push _))
def F1(h:Heap)(T:Nat)(c:OH):Prop:=∃o,h.get? T=some o/\o.cls=.type "tuple" /\ ∃n,o.data=.seq (c.map λi=>rawInt (i:Nat)).toArray n
def Zi9{c:Array (Int×Value)}{e:Int×Value}(h:Wu s.heap I (.ref T) i p c.size f)(B:Vs s.heap p f c t)(D:F1 s.heap T v)
  (L:v[i]? = some j) (C:c[j]? = some e) (G:∀h',Wu h' I (.ref T) (i+1) p c.size f->Heap.SameBut I s.heap h'->Q (some e.2) {s with heap:=h'}):wpAny (model prog w) A (pyNext (.ref I)) Q E s:=by
 obtain⟨o,g,H,hd⟩:=id h;obtain⟨X,n,O,u,y⟩:=id B;unfold pyNext;erw[Sa (wpAny_attempt (wpAny_callSpecial?_slot (name:=OL "__next__") h.ty U4 (wpAny_call_entry U4 h.ty Nh ?_ (Ni _))))];unfold Builtin.«set_iterator.__next__»;erw[Sa (m:=slotArgs "__next__" 0 _) (Sb ?_)];erw[Sa (wpAny_fieldsOf g hd ?_)];dsimp only;unfold setEntries;erw[Sa (Sa (wpAny_setState_of n u y (Sb ?_)))];rw[SV (by simp)];ext⟨S,J,P,U,M⟩ D;erw[Sa (wpAny_seqItems J M ?_)];dsimp only;rw[Int.toNat_natCast,List.getElem?_toArray,Ob,L];show wpAny _ _ (setNextDrawn p j f >>= _) _ _ s;unfold setNextDrawn;erw[Sa (Sa (wpAny_setState_of n u y ?_))];dsimp only;rw[SV (by simp)];rw[C];erw[Sb (Sa (wpAny_setField g hd (by simp) ?_))];have x:=Obj.data_mapFields hd (·.setIfInBounds 1 (rawInt ((i:Int)+1)));erw[Sb ⟨_,R,Sb (G _ ⟨_,Heap.get?_update_self _ g (Obj.isFreed_of_fields x),(Obj.cls_mapFields ..).trans H,?_⟩ (Heap.SameBut.update ..))⟩];rw[x];simp[rawInt]
def Zja{j:Array (Int×Value)}(u:A.handled=none)(f:Wu s.heap I (.ref T) i p j.size n)(v:Vs s.heap p n j t)(B:F1 s.heap T g)
  (G:g[i]? = none) (C:∀h',Heap.ExtBut I s.heap h'->Q none {s with heap:=h'}):wpAny (model prog w) A (pyNext (.ref I)) Q E s:=by
 obtain⟨o,c,O,hd⟩:=id f;obtain⟨X,x,M,y,J⟩:=id v;unfold pyNext;erw[Sa (wpAny_attempt (wpAny_callSpecial?_slot (name:=OL "__next__") f.ty U4 (wpAny_call_entry U4 f.ty Nh ?_ (Ni _))))];unfold Builtin.«set_iterator.__next__»;erw[Sa (m:=slotArgs "__next__" 0 _) (Sb ?_)];erw[Sa (wpAny_fieldsOf c hd ?_)];dsimp only;unfold setEntries;erw[Sa (Sa (wpAny_setState_of x y J (Sb ?_)))];rw[SV (by simp)];ext⟨S,D,P,U,H⟩ B;erw[Sa (wpAny_seqItems D H ?_)];dsimp only;rw[Int.toNat_natCast,List.getElem?_toArray,Ob,G];dsimp only[Option.map_none];erw[Sa (wpAny_setField c hd (by simp) ?_)];have h:=Obj.data_mapFields hd (·.setIfInBounds 0 (rawInt 0));have g1:=Heap.get?_update_self (Obj.mapFields (·.setIfInBounds 0 (rawInt 0))) c (Obj.isFreed_of_fields h);erw[Sa (wpAny_setField (s:={s with heap:=s.heap.update I (Obj.mapFields (·.setIfInBounds 0 (rawInt 0)))}) g1 h (by simp) ?_)];have L:=(Heap.SameBut.update s.heap I (Obj.mapFields (·.setIfInBounds 0 (rawInt 0)))).trans (Heap.SameBut.update (s.heap.update I (Obj.mapFields (·.setIfInBounds 0 (rawInt 0)))) I (Obj.mapFields (·.setIfInBounds 2 Value.none)));simp only[newExc,newTuple];erw[Sa (Sa (wpAny_newObj_type (Sa (m:=firstArgMember _ _) (wpAny_of_eq (a:=Value.none) (by simp only[firstArgMember];rfl) (wpAny_newObj_type ?_ (by size_fits)))) (by size_fits)))];simp only[raiseNew];erw[Sa (wpAny_handled ?_)];rw[show A.in1.handled=none from u];erw[Sa (Sb (wpAny_throw ?_))];erw[Sa (wpAny_isInstance (T := "StopIteration") (b:=true) ⟨_,Sd _ R,R⟩ isSubtype_stop ?_)];exact Sb (C _ ((L.extBut.push _).push _))
def ZaJ{slot : Nat}(f:w.params.followText "set-order"=true) (v:Vs s.heap p c j t)
  (h:Q (((pickOrder (w.params.setOrder p c) j)[i]?).map λe=>(e.2,slot)) s):wpAny (model prog w) A (setNext p slot i c) Q E s:=by
 ext⟨y,n,x,u,g⟩ v;unfold setNext setsByText;erw[Sa (wpAny_setState_of n u g (Sa (Sa (wpAny_askSetting (Sb ?_)))))];dsimp only;rw[SW (show(model prog w).w.params.followText "set-order"=true from f),SV (by simp)];unfold setWalk setsByText;erw[Sa (Sa (wpAny_setState_of n u g (Sa (Sa (wpAny_askSetting (Sb ?_))))))];dsimp only;rw[SW (show(model prog w).w.params.followText "set-order"=true from f)];exact Sa (wpAny_askSetting (Sb (Sb h)))
def ZaK{slot : Nat}{f:Array (Int×Value)}{t:OJ}(v:w.params.followText "set-order"=false) (g:t.plain=true\/f.size<=1) (D:t.led=true) (y:Vs s.heap p u f t)
  (h:Q (match f[SetTable.below t.place slot]?,t.place[SetTable.below t.place slot]? with|some (_,x),some j=>some (x,j+1)|_,_=>none) s):wpAny (model prog w) A (setNext p slot i u) Q E s:=by
 ext⟨I,C,H,G,B⟩ y;unfold setNext setsByText;erw[Sa (wpAny_setState_of C G B (Sa (Sa (wpAny_askSetting (Sb ?_)))))];dsimp only;rw[SV (show ¬ (model prog w).w.params.followText "set-order"=true by intro z;rw[show(model prog w).w.params.followText "set-order"=w.params.followText "set-order" from R,v]at z;cases z)];erw[wpAny_ite_split (λc=>?_) (λc=>?_)];exfalso;have n:(!t.plain && decide (f.size>1))=true:=c;rw[Bool.and_eq_true,decide_eq_true_eq]at n;rcases g with g|g;rw[g]at n;cases n.1;omega;erw[Sa ?_];show wpAny _ _ (if (!t.led && !f.isEmpty)=true then unsupported _ else pure Unit.unit) _ _ _;rw[SV (by rw[D];simp)];exact Sb (Sb h)
open PySem PyProof.Rows
def ZaL:Slot "set_iterator" "__iter__" "set_iterator.__iter__" := .of (owner := "set_iterator") (n := "__iter__") (by rw[typeLookup_type,builtinLookup_eq_fast];kernel_rfl) () () () (by first|exact .inl ()|exact .inr ()) (by rw[isSubtype_type];kernel_rfl)
def Zjb:entryFor table "set_iterator.__iter__"=some Builtin.«dict_keyiterator.__iter__»:=entryFor_alias (id' := "dict_keyiterator.__iter__") (by kernel_rfl) R () (by kernel_rfl)
def Zjc(a:Value):argsOk "set_iterator.__iter__" ⟨[a],[]⟩:=by unfold argsOk;kernel_rfl
def RB(x:Wu s.heap I f i p n c)(h:Q (.ref I) s):wpAny (model prog w) A (pyIter (.ref I)) Q E s:=by
 erw[wpAny_pyIter_slot x.ty ZaL (wpAny_call_entry ZaL x.ty Zjb (show wpAny _ _ (ret (.ref I)) _ _ s from ?_) (Zjc _))];exact Sb ⟨_,R,"set_iterator",_,x.ty,ZaG,h⟩
def Wu.keep{h h':Heap}(x:Wu h I f i p n c)(k:∀o,h.get? I=some o->h'.get? I=some o):Wu h' I f i p n c:=let ⟨o,ho,r⟩:=x;⟨o,k _ ho,r⟩
def Vs.keep{h h':Heap}(x:Vs h p f c t)(k:∀o,h.get? p=some o->h'.get? p=some o):Vs h' p f c t:=let ⟨o,ho,r⟩:=x;⟨o,k _ ho,r⟩
def F1.keep{h h':Heap}(x:F1 h T c)(k:∀o,h.get? T=some o->h'.get? T=some o):F1 h' T c:=let ⟨o,ho,r⟩:=x;⟨o,k _ ho,r⟩
def Zjd(B:A.handled=none)(I p f:Nat)(L:p≠I)(c:Array (Int×Value))(t:OJ)(y:w.params.followText "set-order"=true) :
  Walks prog w A I [I,p] [I] c.size (λi v=>((pickOrder (w.params.setOrder p f) c).toList.map (·.2))[i]? = some v) (λi h=>Wu h I (.int 0 0) i p c.size f/\Vs h p f c t) where
 sub:=λb j=>by rw[SF]at j;rw[j];exact SE
 frame:=λ_ _ _ st k=>⟨st.1.keep (k I SE),st.2.keep (k p (SD _ SE))⟩
 item:=λi s Q E M st n=>by
  have H:i<(pickOrder (w.params.setOrder p f) c).size:=by
   have:=(RA (w.params.setOrder p f) c).length_eq;rw[Array.length_toList,Array.length_toList]at this;lia
  have g:=Array.getElem?_eq_getElem H;erw[ZaH (nx:=0) (x:=((pickOrder (w.params.setOrder p f) c)[i]).2) (slot:=0) st.1 st.2 (λC D G q=>ZaJ y st.2 (by rwa[g])) λu J j=>?_];erw[n _ u s.toks ?_ ⟨J,st.2.keep λo e=>j.extBut p o L e⟩ λb o hn e=>j.extBut b o (λz=>hn (by rw[z];exact SF.mpr R)) e];rw[Ob,Array.getElem?_toList,g];rfl
 done:=λs Q E st n=>by
  have g:(pickOrder (w.params.setOrder p f) c)[c.size]? = none:=by
   have:=(RA (w.params.setOrder p f) c).length_eq;rw[Array.length_toList,Array.length_toList]at this;exact Array.getElem?_eq_none ()
  exact ZaI (slot:=0) B st.1 st.2 (λC D G q=>ZaJ y st.2 (by rwa[g])) λu j=>n u s.toks λb o hn e=>j b o (λz=>hn (by rw[z];exact SF.mpr R)) e
 self:=λ_ _ _ _ st n=>RB st.1 n
def Ue(t:OJ):Nat->Nat
 |0=>0
 |i+1=>t.place.getD i 0+1
theorem ZaM{t:OJ}(h:U3 t.place):∀i,i<=t.place.size->SetTable.below t.place (Ue t i)=i
 |0,_=>by
  obtain⟨x,g,n⟩:=Ry (j:=Ue t 0) h;by_cases c:SetTable.below t.place (Ue t 0)=0;exact c;exact Ot (g 0 ()) (Nat.not_lt_zero _)
 |i+1,u=>by
  obtain⟨x,g,n⟩:=Ry (j:=Ue t (i+1)) h;have e:∀k d,k<t.place.size->t.place.getD k d=t.place.getD k 0:=λk d f=>by simp[Array.getD,f]
  have y:i<SetTable.below t.place (Ue t (i+1)):=by
   by_cases c:SetTable.below t.place (Ue t (i+1))<=i;have:=n i c u;rw[e i _ u]at this;exact Ot this (Nat.not_succ_le_self _);omega
  by_cases v:SetTable.below t.place (Ue t (i+1))=i+1;exact v;have l:=g (i+1) ();have f:i+1<t.place.size:=by lia
  rw[e _ _ f]at l;have r:t.place.getD i 0<t.place.getD (i+1) 0:=Ng (d:=0) h (Sm i) f;have B:t.place.getD (i+1) 0<t.place.getD i 0+1:=l;lia
def Zje(H:A.handled=none)(I p C:Nat)(P:p≠I)(c:Array (Int×Value))(t:OJ)(y:w.params.followText "set-order"=false) (u:t.plain=true\/c.size<=1) (G:t.led=true) (hz:t.place.size=c.size) (D:U3 t.place) :
  Walks prog w A I [I,p] [I] c.size (λi v=>(c.toList.map (·.2))[i]? = some v) (λi h=>Wu h I (.int (Ue t i) 0) i p c.size C/\Vs h p C c t) where
 sub:=λb f=>by rw[SF]at f;rw[f];exact SE
 frame:=λ_ _ _ st k=>⟨st.1.keep (k I SE),st.2.keep (k p (SD _ SE))⟩
 item:=λi s Q E S st j=>by
  have g:=Array.getElem?_eq_getElem S;have B:i<t.place.size:=by lia
  have g2:=Array.getElem?_eq_getElem B;have L:Ue t (i+1)=t.place[i]+1:=by
   show t.place.getD i 0+1=_;simp[Array.getD,B]
  erw[ZaH (nx:=t.place[i]+1) (x:=(c[i]).2) (slot:=Ue t i) st.1 st.2 (λM O J q=>ZaK y u G st.2 (by rwa[ZaM D i (),g,g2])) λn T f=>?_];erw[j _ n s.toks ?_ ⟨by rwa[L],st.2.keep λo e=>f.extBut p o P e⟩ λb o hn e=>f.extBut b o (λz=>hn (by rw[z];exact SF.mpr R)) e];rw[Ob,Array.getElem?_toList,g];rfl
 done:=λs Q E st j=>by
  have g:c[c.size]? = none:=Array.getElem?_eq_none (Sg _);exact ZaI (slot:=Ue t c.size) H st.1 st.2 (λM O J q=>ZaK y u G st.2 (by rwa[ZaM D _ (),g])) λn f=>j n s.toks λb o hn e=>f b o (λz=>hn (by rw[z];exact SF.mpr R)) e
 self:=λ_ _ _ _ st j=>RB st.1 j
def Zjf(G:A.handled=none)(I p T B:Nat)(L:p≠I)(H:T≠I)(f:Array (Int×Value))(t:OJ)(n:OH)(x:List.Perm n (List.range f.size)) :
  Walks prog w A I [I,p,T] [I] f.size (λi v=>(n.map λj=>(f.getD j (0,.none)).2)[i]? = some v) (λi h=>Wu h I (.ref T) i p f.size B/\Vs h p B f t/\F1 h T n) where
 sub:=λb c=>by rw[SF]at c;rw[c];exact SE
 frame:=λ_ _ _ st k=>⟨st.1.keep (k I (by simp)),st.2.1.keep (k p (by simp)),st.2.2.keep (k T (by simp))⟩
 item:=λi s Q E M st u=>by
  have D:i<n.length:=by have:=x.length_eq;rw[List.length_range]at this;lia
  have g:=Ss D;have C:n[i]<f.size:=List.mem_range.mp (x.mem_iff.mp (Oj D));erw[Zi9 st.1 st.2.1 st.2.2 g (Array.getElem?_eq_getElem C) λy J c=>?_];erw[u _ y s.toks ?_ ⟨J,st.2.1.keep λo e=>c.extBut p o L e,st.2.2.keep λo e=>c.extBut T o H e⟩ λb o hn e=>c.extBut b o (λz=>hn (by rw[z];exact SF.mpr R)) e];rw[Ob,g];simp[Array.getD,C]
 done:=λs Q E st u=>by
  have g:n[f.size]? = none:=List.getElem?_eq_none (by have:=x.length_eq;rw[List.length_range]at this;lia);exact Zja G st.1 st.2.1 st.2.2 g λy c=>u y s.toks λb o hn e=>c b o (λz=>hn (by rw[z];exact SF.mpr R)) e
 self:=λ_ _ _ _ st u=>RB st.1 u
def Zjg{l:List (Int×Value)}(h:∀e∈l,∃t,e.2=.int (Xo e) t):IntsAre (l.map (·.2)) (l.map Xo):=by
 induction l with
 |nil=>exact .nil
 |cons e r f =>
  obtain⟨t,q⟩:=h e SE;rw[SN,SN,q];exact .cons _ t (f λx c=>h x (SD _ c))
def Zjh{f:Type}(c:Array f)(d:f):(List.range c.size).map (λj=>c.getD j d)=c.toList:=by
 erw[List.ext_getElem (by simp) λi n g=>?_];have h:i<c.size:=by simpa using g
 simp[Array.getD,h]
def Zji{ks:OF}(M:A.handled=none)(u:Xp prog w s.heap p ks)(hk:ks.length<=1000)
  (h:∀(I:Addr) (fp:OI) (St:Nat->Heap->Prop) (h':Heap) (d:Drawn) (its:OC) (ns:OF),Walks prog w A I fp [I] its.length (λi v=>its[i]? = some v) St->St 0 h' ->
   (∀b o,s.heap.get? b=some o->h'.get? b=some o)->(∀b∈fp,b=p\/s.heap.objs.size<=b)->s.heap.objs.size<=I->IntsAre its ns->ns.Nodup->(∀k,k∈ns↔k∈ks)->its.length<=ks.length->Q (.ref I) {s with heap:=h',drawn:=d}) :
  wpAny (model prog w) A (pyIter (.ref p)) Q E s:=by
 ext⟨o,f,n,t,U,Z,hd,a0,L,Y,hl,nd,mem,sz⟩ u;have u:Vs s.heap p n f t:=⟨o,U,Z,hd,L⟩;have O:p<s.heap.objs.size:=Se U;have hz:t.place.size=f.size:=by
  unfold SetTable.fits at L;rw[Bool.and_eq_true]at L;exact beq_iff_eq.mp L.1
 have P:∀(l:List (Int×Value)),List.Perm l f.toList->IntsAre (l.map (·.2)) (l.map Xo)/\(l.map Xo).Nodup/\(∀k,k∈l.map Xo↔k∈ks)/\(l.map (·.2)).length=f.size:=λl x =>
  ⟨Zjg λe he=>ZaC a0 (x.mem_iff.mp he),(x.map Xo).nodup_iff.mpr nd,λk=>((x.map Xo).mem_iff).trans (mem k),by rw[Sv,x.length_eq,Array.length_toList]⟩
 have X:∀b∈[s.heap.objs.size,p],b=p\/s.heap.objs.size<=b:=λb G=>by
  simp only[SG,List.not_mem_nil,or_false]at G;rcases G with rfl|rfl;exact .inr (Sg _);exact .inl rfl
 erw[Zi7 u (λc=>?_) (λC d T=>?_) (Sh (Sh sz hk) ())];cases J:w.params.followText "set-order" with
 |true =>
  obtain⟨y,D,B,g⟩:=P _ (RA (w.params.setOrder p n) f);have W:=Zjd (prog:=prog) M s.heap.objs.size p n (Sf O) f t J;rw[<-g]at W;exact h _ _ _ _ s.drawn _ _ W ⟨⟨_,Sd _ R,R,by rw[g];rfl⟩,u.keep λo e=>Sc _ e⟩ (λb o e=>Sc _ e) X (Sg _) y D B ()
 |false =>
  have H:t.plain=true\/f.size<=1:=by
   rcases c with c|c;rw[J]at c;cases c;exact c
  have hr:U3 t.place:=by
   rcases H with H|H;exact Y.ri H;have b0:t.place.toList.length<=1:=by rw[Array.length_toList];lia
   show List.Pairwise _ _
   match t.place.toList,b0 with
   |[],_=>exact .nil
   |[a],_=>exact List.pairwise_singleton _ _
  obtain⟨y,D,B,g⟩:=P _ (.refl _);have W:=Zje (prog:=prog) M s.heap.objs.size p n (Sf O) f t J H (hl J) hz hr;rw[<-g]at W;exact h _ _ _ _ s.drawn _ _ W ⟨⟨_,Sd _ R,R,by rw[g];rfl⟩,u.keep λo e=>Sc _ e⟩ (λb o e=>Sc _ e) X (Sg _) y D B ()
 have x:List.Perm (C.map λj=>f.getD j (0,.none)) f.toList:=by
  have:=T.map λj=>f.getD j (0,Value.none);rw[Zjh]at this;exact this
 obtain⟨y,D,B,g⟩:=P _ x;have W:=Zjf (prog:=prog) (w:=w) (A:=A) M (s.heap.objs.size+1) p s.heap.objs.size n (Sf (Sn O)) (Sf (Sm _)) f t C T;rw[Of]at y g;have S:(C.map λj=>(f.getD j (0,.none)).2).length=f.size:=g;rw[<-S]at W;have gI:((s.heap.push {cls:=.type "tuple",data:=.seq (C.map λi=>rawInt (i:Nat)).toArray}).push {cls:=.type "set_iterator",data:=.fields #[.ref s.heap.objs.size,.int 0 0,.ref p,.int f.size 0,.int n 0]}).get? (s.heap.objs.size+1)=some {cls:=.type "set_iterator",data:=.fields #[.ref s.heap.objs.size,.int 0 0,.ref p,.int f.size 0,.int n 0]}:=by
  have:=Sd (s.heap.push {cls:=.type "tuple",data:=.seq (C.map λi=>rawInt (i:Nat)).toArray}) (o:={cls:=.type "set_iterator",data:=.fields #[.ref s.heap.objs.size,.int 0 0,.ref p,.int f.size 0,.int n 0]}) R;rw[Heap.size_push]at this;exact this
 erw[h _ _ _ _ d _ _ W ⟨⟨_,gI,R,by rw[S];rfl⟩,u.keep λo e=>Sc _ (Sc _ e),⟨_,Sc _ (Sd _ R),R,_,R⟩⟩ (λb o e=>Sc _ (Sc _ e)) (λb G=>?_) (Nat.le_succ _) y D B ()];simp only[SG,List.not_mem_nil,or_false]at G;rcases G with rfl|rfl|rfl;exact .inr (Nat.le_succ _);exact .inl rfl;exact .inr (Sg _)
open PySem PyProof.Rows
def Zjj(c:s.TypeIs (.ref r) "set") (h:Q false s):wpAny (model prog w) A (Builtin.List.listLengthHint (.ref r)) Q E s:=by
 unfold Builtin.List.listLengthHint;erw[Sa (wpAny_specialOf c F.slot_set_len.lookup ?_)];generalize f:("set.__len__" : String)=g
 wp_delta;rw[show splitId g=some ("set","__len__")from by subst f;lia]
 subst f;erw[Sa (wpAny_isInstance (T := "set") (b:=true) c (by rw[isSubtype_type];kernel_rfl) ?_)];erw[wpAny_ite_split (λz=>Ot z ()) (λ_=>wpAny_ite_split (λ_=>?_) (λz=>Ot () z))];exact Sa (wpAny_typeOf c (Sb h))
def RD(ks:OF)(c:OC):Prop:=∃ns,IntsAre c ns/\ns.Nodup/\(∀k,k∈ns↔k∈ks)/\c.length<=ks.length
def Xp.ty(x:Xp prog w s.heap p ks):s.TypeIs (.ref p) "set" := let ⟨o,_,_,_,ho,hex,_⟩:=x;⟨o,ho,hex.1⟩
def Xp.lt{h:Heap}(x:Xp prog w h p ks):p<h.objs.size:=let ⟨_,_,_,_,ho,_⟩:=x;Se ho
def Zjk{f:OC}{c:Array Value}(h:ItemsOf (λi v=>f[i]? = some v) c f.length):c.toList=f:=by
 erw[List.ext_getElem? λi=>?_];by_cases g:i<f.length;have ha:i<c.size:=by rwa[h.1]
 have:=h.2 i c[i] (Array.getElem?_eq_getElem ha);rw[Array.getElem?_toList,Array.getElem?_eq_getElem ha,this];have e:c.toList.length=f.length:=by rw[Array.length_toList,h.1]
 rw[List.getElem?_eq_none (l:=f) (),List.getElem?_eq_none (l:=c.toList) ()]
def Zjl{R:Result->Shared->Prop}{ks:OF}{P:Nat}(U:A.handled=none)(x:Xp prog w s.heap p ks)(M:ks.length<=1000)(L:S≠p)
  (O:s.heap.get? S=some {cls:=.type "list",data:=.seq #[] P})
  (X:∀B d tk n c,(∀b o,b≠S->s.heap.get? b=some o->B.get? b=some o)->B.get? S=some {cls:=.type "list",dict:=none,data:=.seq n c,slots:=#[]}->RD ks n.toList->R (.ok (.ret res)) {s with heap:=B,drawn:=d,toks:=tk}) :
  wpAny (model prog w) A.in1 (Builtin.List.listExtendWith (.ref S) (.ref p) res) (λu g=>match u with|.done f=>R (.ok f) g|.again v=>v.quiet=true/\codeAny (model prog w) A v R g) (λe g=>R (.error e) g) s:=by
 unfold Builtin.List.listExtendWith;erw[Sa (wpAny_typeOf (T := "set") x.ty ?_)];have e1:Builtin.List.listSameRef (.ref S) (.ref p)=false:=by simp[Builtin.List.listSameRef,L]
 have e2:(Value.type "set"==Value.type "list")=false:=by lia
 have e3:(Value.type "set"==Value.type "tuple")=false:=by lia
 simp only[e1,e2,e3,Bool.or_false,Bool.false_eq_true,if_false];erw[Sa (Zji (A:=A.in1) U x M λI fp St y d d0 ns W st keep c0 J i1 i2 i3 D=>?_)];have G:=Se O;have C:S∉fp:=λz=>by
  rcases c0 S z with e|e;exact L e;exact Ot G (Oh.mpr e)
 have e0:I≠S:=λz=>Ot G (Oh.mpr (by rwa[<-z]));have g1:=keep _ _ O;have u:∀(h:Heap) (c:Nat) (tk:Nat),St 0 h->(∀b o,b≠S->s.heap.get? b=some o->h.get? b=some o)->h.get? S=some {cls:=.type "list",data:=.seq #[] c} ->
   codeAny (model prog w) A (.builtin "list.extend.loop" ⟨[.ref S,.ref I,res],[]⟩) R {s with heap:=h,drawn:=d,toks:=tk}:=λh c tk Q k a0=>by
  erw[codeAny_extend_loopS W.toS (Sh (Sh D M) ()) S C res d0.length 0 _ #[] c rfl (Sk _) Q a0 (ItemsOf.nil _) λg n v hm Y b0=>?_];have e:=Zjk b0;have es:g = {s with heap:=g.heap,drawn:=d,toks:=g.toks}:=by
   ext⟨a1,a2,a3,a4,a5⟩ g;have Z:a2=s.gens:=hm.gens;have b2:a3=d:=hm.drawn;have b3:a5=s.os:=hm.os;subst Z b2 b3;rfl
  rw[es];erw[X g.heap d g.toks n v (λb o j q=>hm.heap b o (λz=>?_) (k b o j q)) Y (by rw[e];exact⟨ns,i1,i2,i3,D⟩)];rcases SG.mp z with z|z;exact j z;exact Ot (Se q) (Oh.mpr (by rwa[SF.mp z]))
 erw[Sa (wpAny_holding (Zjj (s:={s with heap:=y,drawn:=d}) (x.keep (keep p)).ty ?_))];erw[wpAny_ite_split (λ_=>?_) (λ_=>Sb ⟨plainId_quiet F.plain_extend_loop _,u _ P _ st (λb o _ e=>keep b o e) g1⟩)];erw[Sa (wpAny_rule (Sa ?_))];show wpAny _ _ (updateSeq S (λi=>i.push .none) >>= λ_=>updateSeq S (λi=>i.pop)) _ _ _;erw[Sa (wpAny_updateSeq (s:={s with heap:=y,drawn:=d}) g1 rfl ?_)];have g2:=Heap.get?_update_self (Obj.mapSeq (λi=>i.push Value.none)) g1 rfl;erw[wpAny_updateSeq (s:={s with heap:=y.update S (Obj.mapSeq (λi=>i.push Value.none)),drawn:=d}) (hz:=by seq_fits) g2 rfl ?_];have g3:=Heap.get?_update_self (Obj.mapSeq (λi=>i.pop)) g2 rfl;erw[Sb ⟨plainId_quiet F.plain_extend_loop _,u _ _ _ (W.frame 0 _ _ st λb j o e=>?_) (λb o j e=>?_) g3⟩];have H:b≠S:=λz=>C (z ▸ j);exact(Heap.get?_update_other _ _ (Ne.symm H)).trans ((Heap.get?_update_other _ _ (Ne.symm H)).trans e);exact(Heap.get?_update_other _ _ (Ne.symm j)).trans ((Heap.get?_update_other _ _ (Ne.symm j)).trans (keep b o e))
def Zjm{R:List Value->Shared->Prop}{ks:OF}(v:A.handled=none)(n:Xp prog w s.heap p ks)(G:ks.length<=1000)
  (h:∀h' d tk u,(∀b o,s.heap.get? b=some o->h'.get? b=some o)->RD ks u->R u {s with heap:=h',drawn:=d,toks:=tk}):wpAny (model prog w) A (collect (.ref p)) R E s:=by
 have lt:=n.lt;unfold collect;erw[Sa (wpAny_runValue (codeAny_builtin F.entry_proto_collect ?_))];rw[Around.under_plainId F.plain_proto_collect _];show wpAny _ A.in1 (newList [] >>= λC=>again (.builtin "list.__iadd__" ⟨[C,.ref p],[]⟩)) _ _ s;erw[Sa (wpAny_newObj_type (Sb ⟨plainId_quiet F.plain_list_iadd _,codeAny_builtin F.entry_list_iadd ?_⟩))];rw[Around.under_plainId F.plain_list_iadd _];have H:(s.heap.push {cls:=.type "list",data:=.seq ([]:OC).toArray}).get? s.heap.objs.size=some {cls:=.type "list",data:=.seq #[]}:=Sd _ rfl;have D:=Zjl (A:=A) (s:={s with heap:=s.heap.push {cls:=.type "list",data:=.seq ([]:OC).toArray} }) (res:=.ref s.heap.objs.size)
  (R:=λ(q:Result) (j:Shared)=>∃(h':Heap) (d:Drawn) (tk:Nat) (i:Array Value) (c:Nat),q=.ok (.ret (.ref s.heap.objs.size))/\j = {s with heap:=h',drawn:=d,toks:=tk}/\(∀b o,s.heap.get? b=some o->h'.get? b=some o) /\
   h'.get? s.heap.objs.size=some {cls:=.type "list",dict:=none,data:=.seq i c,slots:=#[]}/\RD ks i.toList) v (n.keep λo e=>Sc _ e) G (Nat.ne_of_gt lt) H
  (λh' d tk i c k g m=>⟨h',d,tk,i,c,rfl,rfl,λb o e=>k b o (Sf (Se e)) (Sc _ e),g,m⟩)
 show wpAny _ A.in1 (Builtin.List.listExtendWith (.ref s.heap.objs.size) (.ref p) (.ref s.heap.objs.size)) _ _ _;erw[Os D (λI j x=>?_) λe j x=>?_];cases I with
 |done f =>
  ext⟨h',d,tk,i,c,e,rfl,k,g,m⟩ x;cases e;exact Sa (m:=load s.heap.objs.size) (Oq g (Sb (h h' d tk _ k m)))
 |again J =>
  erw[⟨x.1,codeAny_mono x.2 λq s2 y=>?_⟩];ext⟨h',d,tk,i,c,rfl,rfl,k,g,m⟩ y;exact Sa (m:=load s.heap.objs.size) (Oq g (Sb (h h' d tk _ k m)))
 ext⟨_,_,_,_,_,B,_⟩ x;cases B
def IntsAre.len{vs:OC}{ns:OF}(h:IntsAre vs ns):vs.length=ns.length:=by
 induction h with
 |nil=>rfl
 |cons n t _ c=>rw[Sy,Sy,c]
def Zjn{zs:OF}(h:zs.Pairwise (·<=·))(n:zs.Nodup):zs.Pairwise (· < ·) :=
 (List.Pairwise.and h n).imp λ⟨a,b⟩=>by lia
def Zjo{ks:OF}(x:A.handled=none)(y:Xp prog w s.heap p ks)(M:ks.length<64)
  (h:∀(D:Addr) (h':Heap) (d:Drawn) (tk:Nat) (out:Array Value) (e:Nat) (zs:OF),(∀b o,s.heap.get? b=some o->h'.get? b=some o)->s.heap.get? D=none->h'.get? D=some (seqObj "list" out e)->IntsAre out.toList zs->zs.Pairwise (· < ·) ->
   (∀k,k∈zs↔k∈ks)->zs.length<=ks.length->Q (.ref D) {s with heap:=h',drawn:=d,toks:=tk}):wpAny (model prog w) A (call (.builtin "sorted") [.ref p]) Q E s:=by
 erw[Calls.call_function_entry kind_sorted plain_sorted entry_sorted (args_sorted1 _) ?_];unfold Builtin.«sorted»;erw[Sa (m:=checkCount "sorted" 1 1 _) (Sb (Sa (Zjm (A:=A.in1) x y () λf d tk i keep mt=>?_)))];ext⟨ns,u,I,C,H⟩ mt;have J:i.length<=sizeLine:=Sh (Sh H (Nat.le_of_lt M)) ();erw[Sa (wpAny_newList ?_ J)];have g:(f.push (seqObj "list" i.toArray 0)).get? f.objs.size=some (seqObj "list" i.toArray 0):=Sd _ R;have no:s.heap.get? f.objs.size=none:=by
  cases c:s.heap.get? f.objs.size with
  |none=>rfl
  |some o=>exact Ot (Se (keep _ _ c)) (Sl _)
 erw[Sa (wpAny_holding (wpAny_call_entry (s:={s with heap:=f.push (seqObj "list" i.toArray 0),drawn:=d,toks:=tk}) slot_list_sort ⟨_,g,R⟩ entry_list_sort (list_sort_tree g u () λout n O j L=>⟨_,R,?_⟩) (args_list_sort _)))];obtain⟨e,B⟩:=sortedHeap_at (out:=out) g;have G:n.Nodup:=j.nodup_iff.mpr I;erw[Sb ⟨_,R,h f.objs.size _ d tk out e n (λb o q=>?_) no B O (Zjn L G) (λk=>(j.mem_iff).trans (C k)) (by have:=j.length_eq;have:=IntsAre.len u;lia)⟩];have v:=Se (keep b o q);exact(sortedHeap_old (Sf v) (by rw[Heap.size_push];exact Sn v)).trans (Sc _ (keep b o q))
def Uf(w:World):Obj:={cls:=.type "set",dict:=none,data:=.set #[] 0 (.fresh 0 0 (!w.params.followText "set-order"))}
def Zjp{h:Heap}(g:h.get? a=some (Uf w)):Xp prog w h a [] :=
 ⟨_,#[],0,_,g,⟨R,R,R⟩,R,(λe c=>by cases c),rfl,⟨rfl,λ_=>List.Pairwise.nil⟩,(λz=>by show(!w.params.followText "set-order")=true;rw[z];rfl),List.Pairwise.nil,(λk=>by simp),Sk _⟩
def Zjq(x:Value)(h:Q (.ref s.heap.objs.size) {s with heap:=s.heap.push (Uf w)}) :
  codeAny (model prog w) A (.call (.builtin "set.__new__") ⟨[.type "set",x],[]⟩) (wants Q E) s:=by
 erw[codeAny_of_tree (show wpAny _ A.in1 (do checkBuiltinCall "set.__new__" ⟨[.type "set",x],[]⟩;again (.builtin "set.__new__" ⟨[.type "set",x],[]⟩)) _ _ s from ?_)];erw[Sa (wpAny_of_eq (PySem.F.newCall_set_1 x) (Sb ⟨plainId_quiet PySem.F.plain_set_new _,codeAny_builtin PySem.F.entry_set_new ?_⟩))];rw[Around.under_plainId PySem.F.plain_set_new _];unfold Builtin.«set.__new__» Builtin.Frozenset.newClass;have c:=sub_set_self;ext⟨f,g,d,tk,os⟩ s;dsimp only;wp_walk;erw[wpAny_askSetting (Sb ?_)];dsimp only;simp only[newObj];exact Sa (wpAny_alloc (Sb (Sb h)))
def Zjr{items:Array Value}{ns:OF}(H:A.handled=none)(hl:s.heap.IsList l items)(hi:IntsAre items.toList ns)(hb:items.size+1<scanBound)
  (h:∀(h':Heap) (tk:Nat),Xp prog w h' s.heap.objs.size ((List.range items.size).map λi=>ns.getD i 0)->(∀b o,s.heap.get? b=some o->h'.get? b=some o)->Q (.ref s.heap.objs.size) {s with heap:=h',toks:=tk}) :
  wpAny (model prog w) A (call (.type "set") [.ref l]) Q E s:=by
 ext⟨c0,tl,mr⟩ PySem.F.called_set.mro;have md:=PySem.F.called_set.made;have sb:=PySem.F.called_set.sub;erw[wpAny_call (codeAny_of_tree (show wpAny _ _ (callAny (.type "set") _) _ _ _ from Sb ⟨Code.quiet_builtin _ (),codeAny_builtin PySem.F.entry_type_call ?_⟩))];rw[Around.under_plain (weight_type_call_type "set" [.ref l] []) rfl];have k1:=PySem.F.called_set.notType;have k2:=PySem.F.called_set.canCreate;have k3:=PySem.F.typeCall_set_1 (.ref l)
 repeat (any_goals (first|assumption|wp_step))
 erw[codeAny_mono (Zjq (.ref l) (E:=E) (Q:=λob C=>ob=.ref s.heap.objs.size/\C = {s with heap:=s.heap.push (Uf w)}) ⟨rfl,rfl⟩) λr C f=>?_];cases r with
 |error e=>exact f
 |ok X =>
  cases X with
  |ret ob =>
   ext⟨rfl,rfl⟩ f;have j:(s.heap.push (Uf w)).get? s.heap.objs.size=some (Uf w):=Sd _ rfl;have P:Shared.TypeIs {s with heap:=s.heap.push (Uf w)} (.ref s.heap.objs.size) "set" := ⟨_,j,rfl⟩;have u1:=PySem.F.called_set.init.lookup;have u2:=PySem.F.called_set.init.bind (.ref s.heap.objs.size)
   repeat (any_goals (first|assumption|wp_step))
   refine codeAny_mono (codeAny_call_builtin (R:=wants (λr s2=>r=.none/\∃h' tk,s2 = {s with heap:=h',toks:=tk}/\Xp prog w h' s.heap.objs.size ((List.range items.size).map λi=>ns.getD i 0)/\(∀b o,s.heap.get? b=some o->h'.get? b=some o)) E)
    PySem.F.called_set.init.plain PySem.F.entry_set_init (check_set_init_1 P ?_)) λr2 s2 g=>?_
   obtain⟨ol,B,G,u,n⟩:=id hl;ext⟨oc,od,d0,os⟩ ol;simp only at G n;subst G;subst n;have v1:(s.heap.push (Uf w)).get? l=some {cls:=.type "list",dict:=od,data:=.seq items u,slots:=os}:=Sc _ B;have v2:=PySem.F.sub_list_set;have v3:=PySem.F.sub_list_frozenset;have v4:(Value.type "list"==Value.type "dict")=false:=by lia
   have D:(s.heap.push (Uf w)).IsList l items:=⟨_,v1,rfl,u,rfl⟩;have fd:(Uf w).data=.set #[] 0 (.fresh 0 0 (!w.params.followText "set-order")):=rfl;unfold Builtin.«set.__init__» noKeywords Builtin.Frozenset.updateFrom;generalize a0:pyIter=PI
   wp_walk
   subst a0;erw[wpAny_pyIter_list D (Sa (wpAny_runValue ?_))];have x:l<s.heap.objs.size:=Se B;have h3:A.in1.in1.in1.handled=none:=by simp[H]
   have U:l≠(s.heap.push (Uf w)).objs.size:=by rw[Heap.size_push];exact Sf (Sn x)
   have J:s.heap.objs.size∉[(s.heap.push (Uf w)).objs.size,l]:=by
    rw[Heap.size_push];intro z;simp only[SG,List.not_mem_nil,or_false]at z;rcases z with z|z;exact Ot z (Sf (Sm _));exact Ot z (Nat.ne_of_gt x)
   refine Zi4 ((Walks.list h3 _ l U items).toS) s.heap.objs.size J (λi=>ns.getD i 0) (λi v hv=>IntsAre.int_at hi i v (by rw[Array.getElem?_toList];exact hv)) hb (items.size - 0) 0 _ () (Sk _)
    ⟨⟨_,Sd _ rfl,rfl,rfl⟩,(D.push _)⟩ (Zjp (Sc _ j)) λs' hm c=>?_
   ext⟨h',I,S,b0,L⟩ s';have O:I=s.gens:=hm.gens;have Y:S=s.drawn:=hm.drawn;have T:L=s.os:=hm.os;subst O Y T;erw[Sb (Sb ⟨rfl,h',b0,rfl,c,λb o e=>?_⟩)];have y:=Se e;erw[hm.heap b o (λz=>?_) (Sc _ (Sc _ e))];simp only[SG,List.not_mem_nil,or_false]at z;rcases z with z|z;exact Ot z (Sf y);rw[Heap.size_push]at z;exact Ot z (Sf (Sn y));cases r2 with
   |error e=>exact g
   |ok Z =>
    cases Z with
    |ret r =>
     ext⟨rfl,h',tk,rfl,c,M⟩ g
     repeat (any_goals (first|assumption|wp_step))
     exact h _ _ c M
    |_=>exact g.elim
  |_=>exact f.elim
def Zb.drawnTo(I:Zb X pins c H s)(d:Drawn):Zb X pins c H {s with drawn:=d}:=⟨I.ok,I.os,I.bare,I.base,I.loc,I.cell,I.free,I.freeC,I.pin,I.hok,I.len⟩
def Lq(P:Program)(w:World)(a:Addr)(ks:OF):HO:=.ext λh=>Xp P w h a ks
def Zjs(x:Xp P w h a ks):Yq P w H h a (Lq P w a ks) :=
 ⟨x,let ⟨o,_,_,_,ho,_⟩:=id x;⟨o,ho⟩,λc f y k=>Xp.keep (h:=c) y k⟩
theorem ZaN:∀{ns:OF} {us:OC},ZG (ns.map V.int) us->IntsAre us ns
 |[],_,.nil=>.nil
 |n::r,_,.cons (b:=u) h t=>by
  ext⟨tk,rfl⟩ h;exact .cons n tk (ZaN t)
theorem ZaO:∀{ns:OF} {us:OC},IntsAre us ns->ZG (ns.map V.int) us
 |_,_,.nil=>.nil
 |_,_,.cons n t h=>.cons ⟨t,R⟩ (ZaO h)
def ZaP(x:X.calm=true):Xk X (.type "set") (λxs H Q=>∃(p:Addr) (ns:OF),xs=[.ref p]/\Zd X.K H p (ns.map V.int)/\ns.length<=1000/\∀l,H l=none->Q (.ref l) (upd H l (Lq X.prog X.w l ns))):=by
 intro pins s D H xs E Q I r h;ext⟨p,ns,rfl,n,M,q⟩ h;obtain⟨u,rfl,C⟩:=Xm r;cases C;obtain⟨c,v,B,G⟩:=I.list n;have j:IntsAre c ns:=ZaN v;have g:c.length=ns.length:=IntsAre.len j;erw[Zjr (I.ok.hd x) B.isList (by simpa using j) (by rw[SO,g];show _<4096;lia) λL tk f keep=>?_];have e:(List.range c.toArray.size).map (λi=>ns.getD i 0)=ns:=by
  rw[SO,g];erw[List.ext_getElem (by simp) λi J y=>?_];simp[List.getD_eq_getElem?_getD,y]
 rw[e]at f;exact⟨.ref _,_,I.laid (t':=tk) keep (Sg _) (Zjs f),R,q _ (I.hok.fresh (Sg _))⟩
def ZaQ(C:X.calm=true):Xk X (.builtin "sorted") (λxs H Q=>∃(p:Addr) (ks:OF),xs=[.ref p]/\H p=some (Lq X.prog X.w p ks)/\ks.length<64 /\
  ∀(l:Addr) (zs:OF),H l=none->zs.Pairwise (· < ·)->(∀k,k∈zs↔k∈ks)->zs.length<=ks.length->Q (.ref l) (upd H l (.lst (zs.map V.int)))):=by
 intro pins s G H xs J Q I r h;ext⟨p,ks,rfl,v,f,q⟩ h;obtain⟨u,rfl,n⟩:=Xm r;cases n;have j:Xp X.prog X.w s.heap p ks:=(I.hok p _ v).1;erw[Zjo (I.ok.hd C) j f λD y d tk i e zs keep no g E x mem c=>?_];have B:(zs.map V.int).length<=sizeLine:=by
  rw[Sv];exact Sh (Sh c (Nat.le_of_lt f)) ()
 have new:Yq X.prog X.w (upd H D (.lst (zs.map V.int))) y D (.lst (zs.map V.int)):=⟨B,i.toList,e,ZaO E,by rwa[Array.toArray_toList]⟩;exact⟨.ref D,_,(I.laidN (t':=tk) keep no new).drawnTo d,R,q D zs (I.hasNo no) x mem c⟩
def U5{pos' U:Pos}{iter : Expr}{E:OE}{cl:Oz}
  (w0:X.N.Nodup) (f0:X.N[i0]? = some f) (u0:QY X.env.scope f) (hc:X.calm=true) (hi:PI X i iter T) (o0:closureFor scope X.env=pure cl) (m0:∀y∈scope.names,y.2≠.cell) (j0:scope.kind=.function)
  (k0:∀y∈scope.names,y.2=.local->scope.names.lookup y.1=some .local) (v0:Vp X scope cl N fr) (t0:Qt X cl)
  (h0:((relabel scope X.env).names.all λp=>!(p.2==.cell || p.2==.free) || (cl.lookup p.1).isSome)=true)
  (hg:∀C n j ex pins,PG (XV X N scope cl C n j ex pins) i g) (ht:∀C n j ex pins,Lk (XV X N scope cl C n j ex pins) E S) (he:∀C n j ex pins,PE (XV X N scope cl C n j ex pins) B O)
  (l0:swapsWith (.ListComp B [⟨i,iter,E,0⟩] scope L) (some (.Name f pos')) U.line X.env=pure true:=by rfl) (y0:X.fn f=true\/X.env.scope.names.lookup f=some .local:=by first|exact .inl rfl|exact .inr rfl)
  (hs:∀v,foldedSetIterable iter X.env v=pure v:=by intro _;rfl):PS X (.Assign [.Name f pos'] (.ListComp B [⟨i,iter,E,0⟩] scope L) U) (P4 (Ro fr T g S O) (YA i0)):=by
 intro pins s P a1 D0 g0 e0;rw[exec_Assign_Name_used _ _ _ _ l0];erw[Sa (wpAny_standAt (Sa ?_))];show wpAny _ _ (do let _ <-comprehension (.ListComp B [⟨i,iter,E,0⟩] scope L) scope X.env _ (newList []) false (eval iter X.env) (some (assign (.Name f pos') X.env))) _ _ s;erw[Sa (ZA (Zai (Qf:=λ_ s'=>SP X pins D0 .next s') hc hi o0 m0 j0 k0 v0 t0 h0 hg ht he hs g0 e0 λD s2 M H2 H5 fp d0 Z nD z0 I u f2 h a0 va n0 qn Y H=>?_) λ_ s' hq=>Sb (Sb hq))];ext⟨m6,q0,_⟩ h.loc;have Q:=(h.pin (D,{cls:=.type "list",dict:=none,data:=.seq (List.toArray Z) nD}) (SI _ (SF.mpr R))).1;have I8:Zb X pins P H5 M:=u.call' (s':=M) h.os h.base h.hok h.bare λb J=>let ⟨_,k1,_,k3,k4,k5⟩:=f2 b J;⟨k3,k1,k4,k5⟩;have I9:Zb X pins P (upd H5 D (.lst d0)) M:=I8.trackS a0 Q R H (λp G=>Sf (Y p G)) ⟨n0,Z,nD,va,Q⟩;have b0:X.env.locals<D+1:=by
  have:=u.lt;rw[I]at this;exact Sn this
 have c0:∀x c,X.env.cells.lookup x=some c->c<D+1:=λx c e=>by
  obtain⟨v,q⟩:=u.cell x c e;have lt:=q.lt;rw[I]at lt;exact Sn lt
 erw[wpAny_assign_Name (kB (v:=.ref D) I9 w0 f0 u0 R (λs7 r0 H=>?_) y0)];ext⟨aa,sb,ha⟩ H;have nC:D+1≠aa:=by
  rcases ha with rfl|ha;exact Nat.ne_of_gt b0;exact Nat.ne_of_gt (c0 _ _ ha)
 erw[⟨m6,q0.sameBut sb nC,λh8 p0=>⟨_,_,r0.turned (h':=h8) (t':=s7.toks) (λb o J e=>p0.extBut b o J e) ?_ (Nat.ne_of_gt b0) (.inr ?_) (λx c e=>Sf (c0 x c e)) (λp G=>Sf (Sn (Y p G))),qn D a0⟩⟩];rw[Zm (Nat.ne_of_gt (Sm D))];exact h.free;have:=u.sz;rw[I]at this;exact Nat.le_succ_of_le this
end L2
namespace K1
open PySem L2
structure RE(l:OH)(lo hi:Nat):Prop where
 one:1<=l.length
 few:l.length<=12
 up:l.Pairwise (· < ·)
 all:∀x∈l,lo<=x/\x<=hi
def RT.good:RT->Prop
 |.always=>True
 |.week b=>b<=127
 |.span a b r=>a<=b/\b<=9999/\r.good
 |.each n c=>1<=n/\n<=28/\RE c 0 (n - 1)
 |.either r s|.both r s=>r.good/\s.good
 |.but ds r=>RE ds 0 9999/\r.good
structure We(K:Oy)(C:Addr):Prop where
 ha:W.findIn K (.ref C) "__class__"=some (some (.builtin "object.__class__"))
 hn:W.specialIn K (.builtin "object.__class__") "__get__"=some (some (.builtin "getset_descriptor.__get__"))
 tk:W.takesIn K (.builtin "object.__class__")=some true
 hm:W.mroIn K C (.type "object")=some true
def We.ty(o:We K C)(c:YI K C)(e:H a=some (.ins C f fs)):X9 K H (.ref a) (.ref C):=.ins e c o.ha o.hn o.tk o.hm
def Y5(c H:Hp):Hp:=λa=>match H a with
 |none=>c a
 |some _=>none
def Ug(n:H a=none)(e:c a=some o):Y5 c H a=some o:=by
 unfold Y5;rwa[n]
def F2(e:Y5 c H a=some o):H a=none/\c a=some o:=by
 unfold Y5 at e;cases h:H a with
 |none=>rw[h]at e;exact⟨R,e⟩
 |some u=>rw[h]at e;cases e
def Wv(c H:Hp):Zf (Y5 c H) c:=λ_ _ e=>(F2 e).2
def Lr(i:Zf g H)(h:∀a o,H a=none->f a=some o->c a=some o):Zf (Y5 f H) (Y5 c g):=λa o e =>
 Ug (i.free (F2 e).1) (h a o (F2 e).1 (F2 e).2)
def Xq(n:c x=none)(s:Zf c H)(o:HO):Zf c (upd H x o):=λb u e=>by
 rw[Zm (Z4 e n)];exact s _ _ e
def Ww{b:Nat}{lo hi:Int}(h1:lo<=b)(c:(b:Int)<=hi):XC (.int b) lo hi=true:=SR ⟨h1,c⟩
inductive YX(tp:Addr)(H:Hp):V->RT->Prop
 |always {a:Addr} (h:H a=some (.tup [.str (OL "always")])):YX tp H (.ref a) .always
 |week {a:Addr} {b:Nat} (h:H a=some (.tup [.str (OL "week"),.int b])):YX tp H (.ref a) (.week b)
 |span {a:Addr} {x y:Nat} {v:V} {r:RT} (h:H a=some (.tup [.str (OL "span"),.int x,.int y,v])) (hv:YX tp H v r):YX tp H (.ref a) (.span x y r)
 |each {a l:Addr} {n:Nat} {ss:OH} (h:H a=some (.tup [.str (OL "each"),.int n,.ref l])) (hl:H l=some (.lst (ZI ss))) (ne:l≠tp):YX tp H (.ref a) (.each n ss)
 |either {a:Addr} {v u:V} {r s:RT} (h:H a=some (.tup [.str (OL "either"),v,u])) (hv:YX tp H v r) (hu:YX tp H u s):YX tp H (.ref a) (.either r s)
 |both {a:Addr} {v u:V} {r s:RT} (h:H a=some (.tup [.str (OL "both"),v,u])) (hv:YX tp H v r) (hu:YX tp H u s):YX tp H (.ref a) (.both r s)
 |but {a l:Addr} {ds:OH} {v:V} {r:RT} (h:H a=some (.tup [.str (OL "but"),.ref l,v])) (hl:H l=some (.lst (ZI ds))) (ne:l≠tp) (hv:YX tp H v r):YX tp H (.ref a) (.but ds r)
def YX.same(s:Zf H j)(h:YX tp H v r):YX tp j v r:=by
 induction h with
 |always h=>exact .always (s _ _ h)
 |week h=>exact .week (s _ _ h)
 |span h _ c=>exact .span (s _ _ h) c
 |each h i ne=>exact .each (s _ _ h) (s _ _ i) ne
 |either h _ _ g f=>exact .either (s _ _ h) g f
 |both h _ _ g f=>exact .both (s _ _ h) g f
 |but h i ne _ c=>exact .but (s _ _ h) (s _ _ i) ne c
end K1
namespace L2
open PySem PySem.Spec PyProof.Rows
def Xa:Vn (Yu X.prog X.w) X E0:=λ_ _ _ _ _ _ _ h=>by
 ext⟨_,_,_,_,_,_,_,_,_,_,_,z⟩ h;exact z.elim
end L2
namespace K1
open PySem L2
end K1
namespace L2
open PySem PySem.Spec PyProof.Rows
theorem ZaR:∀{c:OD} {us:OC},ZG (c.map V.str) us->∃l:List (Str×Tok),us=strValues l/\l.map (·.1)=c
 |[],_,.nil=>⟨[],R,R⟩
 |t::r,_,.cons (b:=u) h q=>by
  ext⟨tk,rfl⟩ h;obtain⟨l,rfl,e⟩:=ZaR q;exact⟨(t,tk)::l,R,by rw[SN,e]⟩
theorem ZaS(n:Nat):∀(c:OD) (k:Nat),c.foldl (λa x=>a+x.length+n) k=k+(c.map λx=>x.length+n).sum
 |[],k=>by simp
 |t::r,k=>by
  rw[List.foldl_cons,ZaS n r,SN,List.sum_cons];lia
theorem ZaT(n:Nat):∀c:List Str,(c.map λx=>x.length+n).sum=(c.map (·.length)).sum+c.length*n
 |[]=>by simp
 |y::r=>by
  have f:=ZaT n r;simp only[SN,List.sum_cons,Sy,Nat.succ_mul];lia
inductive Zjt(K:Oy)(x:V)(xs:List V)(H:Hp)(Q:VK):Prop|mk (z:Str) (p:Addr) (ts:OD) (_:x=.str z) (_:xs=[.ref p]) (_:Zd K H p (ts.map V.str)) (_:(ts.map λx=>x.length+z.length).sum<=sizeLine) (_:Q (.str (Str.join z ts)) H)
def WJ:Qs X "str.join" (Zjt X.K):=by
 intro pins s u H x P v M Q I G r h;ext⟨z,p,f,rfl,rfl,j,O,q⟩ h;ext⟨t,rfl⟩ G;obtain⟨a0,rfl,e⟩:=Xm r;cases e;obtain⟨Z,C,E,_⟩:=I.list j;obtain⟨l,rfl,c⟩:=ZaR C;have L:Builtin.Str.tooLong ((l.map (·.1)).toArray.foldl (· + ·.length+z.length) 0)=false:=by
  rw[c,List.foldl_toArray,ZaS];unfold Builtin.Str.tooLong;exact SS ()
 erw[call_meets F.slot_str_join (typeIs_str _ _ _) F.entry_str_join (F.args_str_join_2 _ _) (meets_str_join_list z t p l L) ⟨E.isList,?_⟩];have i:Builtin.Str.glued z (l.map (·.1))=Str.join z f:=by rw[c];exact StrLaws.glued_eq_join z f
 have J:(Str.join z f).length<=sizeLine:=by
  have T:=StrLaws.join_length_le z f;have S:=ZaT z.length f;lia
 have many:∀(m:Made),m=.str (Builtin.Str.glued z (l.map (·.1)))->m.post (λv D=>wants (EP X pins u Q) X.xe (.ok (.ret v)) D) s:=λm e=>by
  subst e;erw[⟨by rwa[i],?_⟩];rw[i];exact⟨.str _,H,I.tok _,⟨_,R⟩,q⟩
 match l,c,many with
 |[],c,many=>exact many _ R
 |[y],c,many =>
  ext⟨g,n⟩ y;have B:Str.join z f=g:=by rw[<-c];rfl
  rw[B]at q;exact⟨.str g,H,I,⟨n,R⟩,q⟩
 |y::Y::U,c,many=>exact many _ R
end L2
namespace K1
open PySem L2
def ZX(n:Nat):Str:=OL (toString (n:Int))
def X3(c:OH):Str:=Str.join (OL ",") (c.map ZX)
def WK(b d:Nat):Str:=if (RT.week b).runs d then OL "1" else OL "0"
def U6(b:Nat):Str:=Str.join (OL "") ((List.range 7).map (WK b))
def RT.words:RT->List Str
 |.always=>[OL "always"]
 |.week b=>[OL "week",U6 b]
 |.span a b r=>[OL "span",ZX a,ZX b]++r.words
 |.each n c=>[OL "each",ZX n,X3 c]
 |.either r s=>[OL "either"]++r.words++s.words
 |.both r s=>[OL "both"]++r.words++s.words
 |.but ds r=>[OL "but",X3 ds]++r.words
theorem RT.words_len:∀r:RT,r.words.length<=3*r.weight
 |.always|.week _|.each _ _=>by simp[RT.words,RT.weight]
 |.span a b r=>by
  have:=RT.words_len r;simp only[RT.words,RT.weight,Su,Sy,List.length_nil];lia
 |.but ds r=>by
  have:=RT.words_len r;simp only[RT.words,RT.weight,Su,Sy,List.length_nil];lia
 |.either r s|.both r s=>by
  have c:=RT.words_len r;have f:=RT.words_len s;simp only[RT.words,RT.weight,Su,Sy,List.length_nil];lia
def Wf{n:Nat}(h:n<10000):((n:Int).natAbs).log2<1920:=by
 rw[Int.natAbs_natCast];by_cases c:n=0;subst c;lia;exact Nat.lt_trans ((Nat.log2_lt c (k:=14)).mpr (Nat.lt_trans h ())) ()
def Uh{n:Nat}(h:n<10000):(ZX n).length<=4:=by
 have:=(Ru h _ R).2.1;rw[WI]at this;exact this
def Qx{z:Str}{c:OD}{m:Nat}(hz:z.length<=1)(hm:c.length<=20)(h:∀x∈c,x.length<=10):(c.map λx=>x.length+z.length).sum<=sizeLine:=by
 have i:∀l:List Str,(∀x∈l,x.length<=10)->(l.map λx=>x.length+z.length).sum<=11*l.length:=by
  intro l;induction l with
  |nil=>intro _;simp
  |cons y r g =>
   intro h;have n:=h y SE;have j:=g λx f=>h x (SD _ f);simp only[SN,List.sum_cons,Sy];lia
 have:=i c h;exact Sh (show _<=1000 by lia) ()
end K1
namespace L2
open PySem PySem.Spec PyProof.Rows
inductive Zju(t u:TS)(D:X8)(σ:St)(H:Hp):Prop|mk (J:St->Hp->Prop) (_:t {D with nx:=J} σ H) (_:∀σ' H',J σ' H'->u D σ' H')
def Q5{st:Stmt}{rest:List Stmt}{t u:TS}(h1:PS X st t)(g:X1 X rest u):X1 X (st::rest) (Zju t u):=by
 intro pins s j H D I h;ext⟨J,h,n⟩ h;erw[wpAny_execs_cons (ZA (h1 pins s j H {D with nx:=J} I h) λf x q=>?_)];cases f with
 |next =>
  ext⟨c,y,i,q⟩ q;exact g pins x c y D i (n _ _ q)
 |ret v=>exact q
 |brk=>exact q
 |cont=>exact q
section
variable{σ:St}{h':Heap}
def Zb.turnedL{t':Nat}{fp:OI}(I:Zb X pins σ H s)(k:∀b o,b∉fp->s.heap.get? b=some o->h'.get? b=some o)(g:∀b∈fp,VA X pins H b):Zb X pins σ H {s with heap:=h',toks:=t'}:=by
 have i:∀b u,H b=some u->b∉fp:=λb u e z=>by rw[(g b z).1]at e;cases e
 refine I.step (g':=s.gens) (d':=s.drawn) (ch:=fp) (λb h=>⟨(g b h).2.2.2.1,(g b h).2.1,(g b h).2.2.2.2.1,(g b h).2.2.2.2.2⟩) (λb o _ _ f e _=>k b o f e) (λb o _ _ f e _=>⟨o.slots,k b o f e⟩) (λ_ _ _ _ n=>n)
  (λb o f e=>⟨o,k b o f e⟩) (λ_ _ e=>e) (λ_ _ _ e=>e) (λb B e=>⟨#[],by rw[e];simp⟩) (λm hm=>?_) (λb u e=>?_) I.bare
 ext⟨o,y,j,x,r⟩ hm;exact⟨o,y,j,k _ o (λz=>(g _ z).2.1 R) x,r⟩;erw[(I.hok b u e).stay (λc v f q=>k c v ?_ q) (λ_ q=>q) λ_ _ q=>q];rcases f with z|z;rw[z];exact i b u e;exact i c _ z
def Zb.paired{t':Nat}{fp:OI}{x y:V}{u v:Value}(I:Zb X pins σ H s)(h:∀b∈fp,VA X pins H b)(B:∀b∈fp,∃o,s.heap.get? b=some o)
  (k:∀b o,b∉fp->s.heap.get? b=some o->h'.get? b=some o) (D:h'.get? s.heap.objs.size=some {cls:=.type "tuple",data:=.seq #[u,v]}) (j:ZP x u) (n:ZP y v) :
  Zb X pins σ (upd H s.heap.objs.size (.tup [x,y])) {s with heap:=h',toks:=t'}/\∀b∈fp,upd H s.heap.objs.size (.tup [x,y]) b=none:=by
 have C:Zb X pins σ (upd H s.heap.objs.size (.tup [x,y])) {s with heap:=s.heap.push {cls:=.type "tuple",data:=.seq #[u,v]},toks:=t'} :=
  I.laid (λb ob q=>Sc _ q) (Sg _) ⟨show 2<=sizeLine by lia,[u,v],.cons j (.cons n .nil),IsTup.new _ _⟩
 have ne:∀b∈fp,b≠s.heap.objs.size:=λb c e=>by
  obtain⟨o,q⟩:=B b c;exact Ot (Se q) (by rw[e];exact Sl _)
 have g:∀b∈fp,upd H s.heap.objs.size (.tup [x,y]) b=none:=λb c=>by rw[Zm (ne b c)];exact(h b c).1
 erw[⟨Zb.turnedL (s:={s with heap:=s.heap.push {cls:=.type "tuple",data:=.seq #[u,v]},toks:=t'}) (t':=t') (fp:=fp) C (λb o c e=>?_) (λb c=>⟨g b c,(h b c).2⟩),g⟩];have f:(s.heap.push {cls:=.type "tuple",data:=.seq #[u,v]}).get? b=some o:=e;by_cases i:b=s.heap.objs.size;subst i;rw[Sd _ R]at f;cases f;exact D;rw[Heap.get?_push_ne _ _ _ i]at f;exact k b o c f
end
def Ls(K:Oy)(l:Addr):It :=
 ⟨λi H=>∃c x,Zd K H l c/\c[i]? = some x,λi H v f=>∃p x,H p=none/\(∀c,Zd K H l c->c[i]? = some x)/\v=.ref p/\f=upd H p (.tup [.int i,x]),λi H=>∃c,Zd K H l c/\c.length<=i⟩
def Zjv{es:OE}{k:Nat}{g0:Pos}(l e it:Addr)(Q:e≠it):Uv P w K (.Tuple es k g0) (Ls K l) [e,it] e (λi h=>(∃g,IsEnum h e it i g)/\h.IsListIter it l i) where
 mem:=by simp
 obj:=λi h st b f=>by
  ext⟨⟨g,c⟩,o,J,E,hd⟩ st;have O:b=e\/b=it:=by simpa using f
  rcases O with rfl|rfl;exact⟨_,c,λd0 z=>by cases z⟩;exact⟨o,J,λd0 z=>by rw[hd]at z;cases z⟩
 keep:=λi h h' st S=>⟨let ⟨g,c⟩:=st.1;⟨g,S e (by simp) _ c⟩,st.2.at λo q=>S it (by simp) o q⟩
 item:=by
  intro i0 L v G E i pins s σ k0 j0 I M st H;subst L v G;ext⟨xs,x,n,B⟩ H;obtain⟨e0,C,p,hz⟩:=I.list n;obtain⟨u,hu,ru⟩:=C.get B;ext⟨⟨g,c⟩,j⟩ st;have f0:=j;erw[wpAny_pyNext_enum_item c j p.isList (x:=u) (by simpa using hu) Q λh1 J X hT l0 hk=>⟨_,R,?_⟩];erw[wpAny_letOwnedTupleGo_enum (s:={s with heap:=h1,toks:=s.toks+1}) J λT h0 D=>?_];have c0:e<s.heap.objs.size:=Se c;have m0:it<s.heap.objs.size:=by ext⟨_,q,_⟩ j;exact Se q
  have a0:T.get? s.heap.objs.size=some {cls:=.type "tuple",data:=.seq #[.int i s.toks,u]}:=(D.2 _ (Nat.ne_of_gt c0)).trans hT;obtain⟨Z,Y⟩:=I.paired (t':=s.toks+1) (fp:=[e,it]) (x:=.int i) (y:=x) (h':=T) M (λb f=>by
   have O:b=e\/b=it:=by simpa using f
   rcases O with rfl|rfl;exact⟨_,c⟩;ext⟨o,q,_⟩ f0;exact⟨o,q⟩) (λb o f q=>by
   have U:b≠e:=λz=>f (by simp[z]);have b0:b≠it:=λz=>f (by simp[z]);exact(D.2 b U).trans (hk b o U b0 q)) a0 ⟨s.toks,R⟩ ru
  erw[⟨.ref s.heap.objs.size,_,Z,R,⟨_,x,I.hok.fresh (Sg _),λys hy=>by rwa[I.list_inj hy n],R,R⟩,⟨⟨_,by simpa using h0⟩,X.at λo q=>(D.2 it Q.symm).trans q⟩,Y⟩]
 done:=by
  intro i0 L v G E i pins s σ k0 j0 I M st H;subst L v G;ext⟨xs,n,B⟩ H;obtain⟨e0,C,p,hz⟩:=I.list n;ext⟨⟨g,c⟩,j⟩ st;have hl:=C.length;exact wpAny_pyNext_enum_end (I.ok.hd E) c j p.isList (by simp;lia) λh' eb=>⟨R,I.turnedL (t':=s.toks) (fp:=[e,it]) (λb o f q=>eb b o (λz=>f (by simp[z])) q) M⟩
 self:=λ_ _ _ _ _ st h=>by
  ext⟨⟨g,c⟩,_⟩ st;exact wpAny_pyIter_enum c h
inductive Zjw(K:Oy)(R:It->Hp->Prop)(vs:List V)(H1:Hp):Prop|mk a (_:vs=[.ref a]) (_:(∃xs,Zd K H1 a xs)) (_:R (Ls K a) H1)
def Zjx(K:Oy)(i:TA):TI:=λg H h=>i g H λc f=>Zjw K h c f
def ZaU{G:OE}{k:Nat}{tp:Pos}{a:Expr}{i:TA}{p n:Pos}(D:Gl X "enumerate") (hm:X.mg "enumerate"=none) (ha:PA X [a] i) (B:starEach [a] X.env=[(false,eval a X.env)]:=by rfl):PI X (.Tuple G k tp) (.Call (.Name "enumerate" p) [a] [] n) (Zjx X.K i):=by
 intro pins s x H U I h;erw[Call_ (VN I D hm boot_enumerate (PyProof.Rows.callWith_type1 (ZA (ha n pins s x H _ I h) λS c ⟨vs,u,f,r1,y⟩=>?_) B R))];ext⟨l,e,⟨Z,v⟩,q⟩ y;subst e;cases r1 with
 |cons r C =>
  cases C;cases r;obtain⟨a0,T,E,Y⟩:=f.list v;erw[call_enumerate_list E.isList λO g L Q M=>?_];erw[wpAny_pyIter_enum (s:={c with heap:=O}) g ?_];erw[⟨c.heap.objs.size+1,[c.heap.objs.size+1,c.heap.objs.size],_,_,u,R,f.kept (t':=c.toks) M,Zjv l _ _ (Nat.succ_ne_self _),⟨⟨_,g⟩,L⟩,λb J=>?_,q⟩];have P:b=c.heap.objs.size+1\/b=c.heap.objs.size:=by simpa using J
  have j:c.heap.objs.size<=b:=by rcases P with rfl|rfl;exact Nat.le_succ _;exact Sg _
  exact f.fpOk j (f.hok.fresh j)
def ZaV{a:Addr}{xs:List V}{g:TG}{B:TS}{D:X8}{c:St}(f:Nat->St->Hp->Prop)(G:f 0 c H)(O:∀i c H,i<=xs.length->f i c H->Zd K H a xs)
  (J:∀i x p c H,xs[i]? = some x->H p=none->f i c H->g (.ref p) c (upd H p (.tup [.int i,x])) λu n=>B {D with nx:=f (i+1),ct:=f (i+1),bk:=D.nx} u n) (hd:∀c H,f xs.length c H->D.nx c H) :
  ∃W:Nat->Nat->St->Hp->Prop,(∃m,W 0 m c H)/\∀i m c H,W i m c H ->
   ((Ls K a).stop i H/\D.nx c H)\/((Ls K a).go i H/\∃N:St->Hp->Prop,(∀j h,N j h->∃C,C<m/\W (i+1) C j h)/\∀x h,(Ls K a).yld i H x h->g x c h λu n=>B {D with nx:=N,ct:=N,bk:=D.nx} u n):=by
 erw[⟨λi m c H=>m=xs.length - i/\i<=xs.length/\f i c H,⟨xs.length,by simp,Sk _,G⟩,?_⟩];rintro i m c H ⟨rfl,M,p⟩;have q:=O i c H M p;by_cases E:i<xs.length;erw[.inr ⟨⟨xs,xs[i],q,by simp[E]⟩,f (i+1),λj h I=>⟨xs.length - (i+1),(),R,E,I⟩,λv h y=>?_⟩];ext⟨r,x,L,y,rfl,rfl⟩ y;exact J i x r c _ (y xs q) L p;have e:i=xs.length:=by lia
 subst e;exact .inl ⟨⟨xs,q,Sg _⟩,hd c H p⟩
section
variable{κ:Type}[DecidableEq κ]
def Yx(f:List (κ×V))(k:κ):Option V:=(f.find? λc=>decide (c.1=k)).map (·.2)
def Xi(f:List (κ×V))(k:κ)(v:V):List (κ×V) :=
 if (f.any λc=>decide (c.1=k))=true then f.map (λc=>if c.1=k then (c.1,v)else c)else f++[(k,v)]
def Nj{p:κ×V}(e:p.1=k):Yx (p::r) k=some p.2:=by simp[Yx,List.find?_cons,e]
def RF{p:κ×V}(e:¬ p.1=k):Yx (p::r) k=Yx r k:=by simp[Yx,List.find?_cons,e]
theorem RG(k:κ):∀c:List (κ×V),(c.any λf=>decide (f.1=k))=(Yx c k).isSome
 |[]=>rfl
 |p::r=>by
  rw[List.any_cons];by_cases e:p.1=k;simp only[Nj e,SR e,Bool.true_or,Option.isSome_some];rw[RF e,SS e,Bool.false_or];exact RG k r
def RH(c:List (κ×V))(k:κ)(v:V):(Xi c k v).length<=c.length+1:=by
 unfold Xi;split;rw[Sv];lia;rw[Su,Sy,List.length_nil];lia
def Qy{c:List (κ×V)}{k:κ}(v:V)(h:Yx c k=none):Xi c k v=c++[(k,v)]:=by
 unfold Xi;rw[RG,h];exact SV ()
def WE.isSome_eq{o:Option V}{u:Option Value}(r:WE o u):o.isSome=u.isSome:=by
 cases o with
 |none=>cases u with
  |none=>rfl
  |some _=>exact(show False from r).elim
 |some _=>cases u with
  |none=>exact(show False from r).elim
  |some _=>rfl
def KV.val(r:KV i vs)(k:κ):WE (Yx i k) (valueAt vs k):=by
 unfold KV at r;induction r with
 |nil=>exact True.intro
 |@cons p q u c h t j =>
  ext⟨g,n⟩ h;by_cases e:p.1=k;have f:q.1=k:=g.symm.trans e;have b:valueAt (q::c) k=some q.2:=by simp[valueAt,List.find?_cons,f]
  rwa[Nj e,b];have f:¬ q.1=k:=λz=>e (g.trans z);have b:valueAt (q::c) k=valueAt c k:=by simp[valueAt,List.find?_cons,f]
  rwa[RF e,b]
def KV.any{f:List (κ×V)}{vs:List (κ×Value)}(r:KV f vs)(k:κ):(f.any λc=>decide (c.1=k))=vs.any λc=>decide (c.1=k):=by
 unfold KV at r;induction r with
 |nil=>rfl
 |cons h t g=>rw[List.any_cons,List.any_cons,g,h.1]
def KV.repl{g:List (κ×V)}{vs:List (κ×Value)}(r:KV g vs)(k:κ)(n:ZP y u) :
  KV (g.map λc=>if c.1=k then (c.1,y)else c) (vs.map λc=>if c.1=k then (c.1,u)else c):=by
 unfold KV at r ⊢;induction r with
 |nil=>exact .nil
 |@cons p q x v h t i =>
  rw[SN,SN];erw[.cons ?_ i];ext⟨f,j⟩ h;by_cases e:p.1=k;rw[SW e,SW (f.symm.trans e)];exact⟨f,n⟩;rw[SV e,SV (λz=>e (f.trans z))];exact⟨f,j⟩
def KV.put(r:KV f vs)(k:κ)(c:ZP y u):KV (Xi f k y) (stored vs k u):=by
 unfold Xi stored;rw[r.any k];by_cases e:(vs.any λg=>decide (g.1=k))=true;rw[SW e,SW e];exact r.repl k c;rw[SV e,SV e];exact Paired.snoc r ⟨R,c⟩
def KV.length{c:List (κ×V)}{vs:List (κ×Value)}(r:KV c vs):c.length=vs.length:=Paired.length r
end
def Lu(r:ZP (kV k) u):(XR P w).is k u=true:=by
 cases k with
 |inl i=>obtain⟨t,e⟩:=(show ∃t,u=Value.int i t from r);subst e;exact Zgw P w i t
 |inr x=>obtain⟨t,e⟩:=(show ∃t,u=Value.str x t from r);subst e;exact Zgx P w x t
theorem ZaW:∀{ks:List ZD} {us:OC},ZG (ks.map kV) us->ItemsAre (XR P w) ks us
 |[],_,r=>by rw[List.map_nil]at r;cases r;exact .nil
 |k::ks,_,r=>by
  rw[SN]at r;cases r with
  |cons h t=>exact .cons (Lu h) (ZaW t)
abbrev KT(H:Hp):List (List ZD×V)->List (List ZD×Addr×Value)->Prop:=Paired λp q=>p.1=q.1/\H q.2.1=some (.tup (p.1.map kV))/\ZP p.2 q.2.2
def KT.val(r:KT H i xs)(k:List ZD):WE (Yx i k) ((atKey xs k).map (·.2)):=by
 induction r with
 |nil=>exact True.intro
 |@cons p q u c h t j =>
  ext⟨g,_,n⟩ h;by_cases e:p.1=k;have f:q.1=k:=g.symm.trans e;have b:atKey (q::c) k=some q.2:=by simp[atKey,List.find?_cons,f]
  rwa[Nj e,b];have f:¬ q.1=k:=λz=>e (g.trans z);have b:atKey (q::c) k=atKey c k:=by simp[atKey,List.find?_cons,f]
  rwa[RF e,b]
def KT.repl{i:List (List ZD×V)}{xs:List (List ZD×Addr×Value)}(r:KT H i xs)(k:List ZD)(n:ZP y u) :
  KT H (i.map λf=>if f.1=k then (f.1,y)else f) (xs.map (putAt k u)):=by
 induction r with
 |nil=>exact .nil
 |@cons p q B x h t j =>
  rw[SN,SN];erw[.cons ?_ j];ext⟨c,g,v⟩ h;unfold putAt;by_cases e:p.1=k;rw[SW e,SW (c.symm.trans e)];exact⟨c,g,n⟩;rw[SV e,SV (λz=>e (c.trans z))];exact⟨c,g,v⟩
def KT.put(r:KT H c xs)(k:List ZD)(g:H b=some (.tup (k.map kV)))(f:ZP y u) :
  KT H (Xi c k y) (storedH xs k b u):=by
 have e:(c.any λh=>decide (h.1=k))=(atKey xs k).isSome:=by
  rw[RG,(r.val k).isSome_eq,Option.isSome_map]
 unfold Xi storedH;rw[e];by_cases q:(atKey xs k).isSome=true;rw[SW q,SW q];exact r.repl k f;rw[SV q,SV q];exact Paired.snoc r ⟨R,g,f⟩
def KT.keeps(r:KT H g xs)(h:∀b f,H b=some (.tup f)->c b=some (.tup f)):KT c g xs :=
 Paired.mapP r λ_ _ z=>⟨z.1,h _ _ z.2.1,z.2.2⟩
section
variable{h:Heap}{a:Addr}
def ZaX(ok:YK P w H h)(e:Rd H a u):Yq P w H h a u:=e.ok ok
def Lv{c:List (ZD×V)}(ok:YK P w H h)(e:Rd H a (.dK c)):c.length<=sizeLine/\(a==sysModules)=false/\∃vs,KV c vs/\h.DictOf (XR P w) a vs :=
 show Yq P w H h a (.dK c)from ZaX ok e
def ZaY{c:List (ZD×V)}(ok:YK P w H h)(e:H a=some (.dK c)):c.length<=sizeLine/\(a==sysModules)=false/\∃vs,KV c vs/\h.DictOf (XR P w) a vs:=Lv ok (.inl e)
def Nk{ks:List ZD}(ok:YK P w H h)(e:H a=some (.tup (ks.map kV))):(tupleKind (XR P w)).is h ks a:=by
 obtain⟨_,g,r,o,f,c,n,i⟩:=(show Yq P w H h a (.tup (ks.map kV))from ok a _ e);exact⟨o,g.toArray,n,f,c,i,by simpa using ZaW r⟩
def Nl{f:List (List ZD×V)}(ok:YK P w H h)(e:Rd H a (.dT f)):f.length<=sizeLine/\(a==sysModules)=false /\
  ∃xs,KT H f xs/\h.DictOfH (tupleKind (XR P w)) a xs:=by
 obtain⟨z,y,xs,r,o,C,u,B,v,D,j,i⟩:=(show Yq P w H h a (.dT f)from ZaX ok e);erw[⟨z,y,xs,r,o,C,u,B,v,D,j,λx c=>?_,i⟩];have all:∀{l:List (List ZD×V)} {m:List (List ZD×Addr×Value)},KT H l m->∀x∈m,(tupleKind (XR P w)).is h x.1 x.2.1:=by
  intro l m q;induction q with
  |nil=>intro x c;exact nomatch c
  |@cons p q G E g t n =>
   intro x c;rcases SG.mp c with e|c;subst e;exact Nk ok (by rw[<-g.1];exact g.2.1);exact n x c
 exact all r x c
def Zjy{c:List (List ZD×V)}(ok:YK P w H h)(e:H a=some (.dT c)):c.length<=sizeLine/\(a==sysModules)=false /\
  ∃xs,KT H c xs/\h.DictOfH (tupleKind (XR P w)) a xs:=Nl ok (.inl e)
end
def Xw(H:Hp)(a:Addr)(y:V)(r:Option V):Prop :=
 (∃c k,Rd H a (.dK c)/\y=kV k/\r=Yx c k)\/∃c k b,Rd H a (.dT c)/\y=.ref b/\H b=some (.tup (k.map kV))/\r=Yx c k
def V2(H:Hp)(a:Addr)(y v:V)(f:Hp):Prop :=
 (∃c k,H a=some (.dK c)/\y=kV k/\c.length<sizeLine/\f=upd H a (.dK (Xi c k v))) \/
 ∃c k b,H a=some (.dT c)/\y=.ref b/\H b=some (.tup (k.map kV))/\c.length<sizeLine/\f=upd H a (.dT (Xi c k v))
theorem Xw.k{a:Addr}{c:List (ZD×V)}{k:ZD}(e:H a=some (.dK c)):Xw H a (kV k) (Yx c k):=.inl ⟨c,k,.inl e,R,R⟩
theorem V2.k{a:Addr}{c:List (ZD×V)}{k:ZD}{v:V}(e:H a=some (.dK c))(f:c.length<sizeLine):V2 H a (kV k) v (upd H a (.dK (Xi c k v))):=.inl ⟨c,k,e,R,f,R⟩
section
variable{σ:St}{a:Addr}{y v:V}{u r:Value}{o:Option V}
def Zb.big(I:Zb X pins σ H s):sysModules<s.heap.objs.size:=by
 have h:mainGlobals<s.heap.objs.size:=(I.mod.glob.keeps I.bk).lt;exact Nat.lt_trans () h
def Zjz(C:A.units+1<cLine)(I:Zb X pins σ H s)(g:Xw H a y (some v))(x:ZP y u)(h:∀c s',Zb X pins σ H s'->ZP v c->Q c s') :
  wpAny (model X.prog X.w) A (getItem (.ref a) u) Q E s:=by
 rcases g with⟨L,k,e,n,l⟩|⟨L,k,b,e,n,J,l⟩;subst n;obtain⟨z,hd,B,rel,f⟩:=Lv I.hok e;obtain⟨c,i,j⟩:=WE.some_of (v:=v) (o:=valueAt B k) (by rw[l];exact rel.val k);exact wpAny_getItem_of (Lu x) f.mapOf i (h c _ (I.tok _) j);subst n;cases (show u=Value.ref b from x);obtain⟨z,hd,M,rel,f⟩:=Nl I.hok e;obtain⟨c,i,j⟩:=WE.some_of (v:=v) (o:=(atKey M k).map (·.2)) (by rw[l];exact rel.val k);obtain⟨p,G,D⟩:=Og.mp i;erw[wpAny_getItem_heap (tupleKind_room_in1 C) (Nk I.hok J) f G ?_];rw[D];exact h c _ (I.tok _) j
def ZjA(j:A.units+1<cLine)(I:Zb X pins σ H s)(g:Xw H a y o)(i:ZP y u)(h:∀s',Zb X pins σ H s'->Q (.bool o.isSome) s') :
  wpAny (model X.prog X.w) A (compareOp .In u (.ref a)) Q E s:=by
 rcases g with⟨n,k,e,f,l⟩|⟨n,k,b,e,f,x,l⟩;subst f;obtain⟨z,hd,B,rel,c⟩:=Lv I.hok e;erw[wpAny_in_of (Lu i) hd c.mapOf ?_];rw[<-(rel.val k).isSome_eq,<-l];exact h _ (I.tok _);subst f;cases (show u=Value.ref b from i);obtain⟨z,hd,C,rel,c⟩:=Nl I.hok e;erw[wpAny_in_heap (tupleKind_room_in1 j) (Nk I.hok x) hd c ?_];have q:=(rel.val k).isSome_eq;rw[Option.isSome_map]at q;rw[<-q,<-l];exact h _ (I.tok _)
def RI{h':Heap}(I:Zb X pins σ H s)(g:KZ (H a))(f:Heap.SameBut a s.heap h')(h:∃q,h'.get? a=some q)(new:Yq X.prog X.w (upd H a ob) h' a ob) :
  Zb X pins σ (upd H a ob) {s with heap:=h',toks:=t'} :=
 I.write (x:=a) (e:=a) g (.inl R) (λb q c z=>(f.2 b c).trans z) h new
def ZaZ{h':Heap}{c:List (ZD×V)}(z:c.length<=sizeLine)(hd:(a==sysModules)=false)(rel:KV c vs)(dd:h'.DictOf (XR P w) a vs) :
  Yq P w f h' a (.dK c):=⟨z,hd,vs,rel,dd⟩
def ZjB(hu:A.units+1<cLine)(I:Zb X pins σ H s)(g:V2 H a y v G)(L:ZP y u)(J:ZP v r)(h:∀s',Zb X pins σ G s'->Q Unit.unit s') :
  wpAny (model X.prog X.w) A (setItem (.ref a) u r) Q E s:=by
 rcases g with⟨c,k,e,n,l,j⟩|⟨c,k,b,e,n,O,l,j⟩;subst n j;obtain⟨z,hd,Y,rel,C⟩:=ZaY I.hok e;have B:Y.length<=sizeLine:=by rwa[<-rel.length]
 have D:(Xi c k v).length<=sizeLine:=by have:=RH c k v;lia
 erw[wpAny_setItem_pairs (hsz:=B) (Lu L) C λP i x=>h _ ?_];have T:∃q,P.get? a=some q:=let ⟨q,_,_,f,_⟩:=i;⟨q,f⟩;exact RI I (by rw[e];exact True.intro) x T (ZaZ D hd (rel.put k J) i);subst n j;cases (show u=Value.ref b from L);obtain⟨z,hd,U,rel,C⟩:=Zjy I.hok e;have B:U.length<=sizeLine:=by rwa[<-Paired.length rel]
 have D:(Xi c k v).length<=sizeLine:=by have:=RH c k v;lia
 erw[wpAny_setItem_heap (hsz:=B) (tupleKind_room_in1 hu) (Nk I.hok O) C λP i x=>h _ ?_];ext⟨q,es,ep,f,h2,h3,Z,_,S⟩ i;erw[RI I (by rw[e];exact True.intro) x ⟨q,f⟩ ⟨D,hd,_,(rel.put k O J).keeps λa0 ys M=>?_,q,es,ep,f,h2,h3,Z,S⟩];rwa[Zm (Vg M e (λz=>nomatch z))]
end
section
variable{σ:St}{a:Addr}{kvs:List (ZD×V)}{k:ZD}{u:Value}
def ZjC(I:Zb X pins σ H s)(e:Rd H a (.dK kvs))(h:∀t s',Zb X pins σ H s'->Q (.int kvs.length t) s'):wpAny (model X.prog X.w) A (call (.builtin "len") [.ref a]) Q E s:=by
 obtain⟨z,hd,f,rel,c⟩:=Lv I.hok e;erw[call_len_dict hd c (by rw[<-rel.length];rw[sizeLine_eq]at z;lia) ?_];rw[<-rel.length];exact h _ _ (I.tok _)
end
def RJ(i:Expr):Prop:=∀c f,subscripted i false c f=operate [c,f] (getItem c f)
def ZjD{env:Env}{value slice:Expr}{y:Pos}{T id:String}{Q:Ov}
  (D:typeLookup (.type T) "__getitem__"=pure (some (.builtin id))) (B:RJ slice)
  (h:wpAny (model prog w) A (eval value env) (λo j=>wpAny (model prog w) A (eval slice env) (λi c=>c.TypeIs o T/\wpAny (model prog w) A (getItem o i) Q E c) E j) E s) :
  wpAny (model prog w) A (eval (.Subscript value slice y) env) Q E s:=by
 erw[Subscript_ (Os h (λo j v=>Os v (λi c g=>?_) λ_ _ x=>x) λ_ _ x=>x)];ext⟨u,g⟩ g;unfold subscriptTail;erw[Sa ?_];rw[getitemInPython_of_ne u.not_modules];erw[Sa (wpAny_specialOf u D ?_)];have f:wpAny (model prog w) A (subscripted slice false o i) (λr n=>wpAny (model prog w) A (letTemporaryGo value o r >>= λ_=>pure r) Q E n) E c:=by
  rw[B o i];exact wpAny_operating (Os g (λr n C=>Sa (wpAny_letTemporaryGo (Sb C))) λ_ _ x=>x)
 first
  |exact Sb (Sa f)
  |exact Sa (Sb (Sa f))
  |exact Sa f
def ZjE(I:Zb X pins f H s)(g:Xw H a y o):s.TypeIs (.ref a) "dict" := by
 rcases g with⟨h,k,e,_,_⟩|⟨h,k,b,e,_,_,_⟩;obtain⟨_,_,i,_,c⟩:=Lv I.hok e;exact c.typeIs;obtain⟨_,_,j,_,c⟩:=Nl I.hok e;exact c.typeIs
inductive ZjF(Q:VK)(x:V)(y:V)(H2:Hp):Prop|mk a v (_:x=.ref a) (_:Xw H2 a y (some v)) (_:Q v H2)
def Za0(g ty:TE):TE:=λc H Q=>g c H λx f=>ty c f λy h=>ZjF Q x y h
inductive ZjG(Q:VK)(y:V)(x:V)(H2:Hp):Prop|mk a o (_:x=.ref a) (_:Xw H2 a y o) (_:Q (.bl o.isSome) H2)
def ZjH(ty g:TE):TE:=λc H Q=>ty c H λy f=>g c f λx h=>ZjG Q y x h
inductive ZjI(D:X8)(σ:St)(v:V)(x:V)(y:V)(H3:Hp):Prop|mk a H4 (_:x=.ref a) (_:V2 H3 a y v H4) (_:D.nx σ H4)
def ZjJ(i ty j:TE):TS:=λD c H=>j c H λv f=>i c f λx g=>ty c g λy h=>ZjI D c v x y h
section
variable{o i e value:Expr}{pos' tpos:Pos}{td ty tv:TE}
def ZjK(J:X.A.units+1<cLine)(L:PE X o td)(hi:PE X i ty)(B:RJ i):PE X (.Subscript o i pos) (Za0 td ty):=by
 intro pins s f H Q I h;erw[ZjD PySem.F.slot_dict_getitem.lookup B (ZA (L pins s f H _ I h) λu S ⟨x,j,D,M,n⟩=>ZA (hi pins S f j _ D n) λU s2 ⟨y,O,c,C,a,v,ex,g,E⟩=>?_)];subst ex;obtain rfl:u=Value.ref a:=M;exact⟨ZjE c g,Zjz J c g C λY T G P=>⟨v,O,G,P,E⟩⟩
def Za1(E:X.A.units+1<cLine)(hi:PE X i ty)(G:PE X o td):PC X .In i o (ZjH ty td):=by
 intro pins s c H Q I h;erw[ZA (hi pins s c H _ I h) λS O ⟨y,f,B,v,n⟩=>ZA (G pins O c f _ B n) λu s2 ⟨x,L,j,J,a,M,ex,g,C⟩=>?_];subst ex;obtain rfl:u=Value.ref a:=J;exact ZjA E j g v λP D=>⟨.bl M.isSome,L,D,R,C⟩
def Qz(P:X.A.units+1<cLine)(S:PE X o td)(hi:PE X i ty)(Q:PE X value tv)(C:swapsWith value (some (.Subscript o i pos')) pos.line X.env=pure false) :
  PS X (.Assign [.Subscript o i pos'] value pos) (ZjJ td ty tv):=by
 intro pins s c H D I h;erw[wpAny_Assign_Subscript (ZA (Q pins s c H _ I h) λr Y ⟨v,f,J,x,n⟩=>ZA (S pins Y c f _ J n) λu s2 ⟨a0,U,j,T,L⟩=>ZA (hi pins s2 c U _ j L) λiv Z ⟨y,H3,M,E,a,B,ex,g,G⟩=>?_) C];subst ex;obtain rfl:u=Value.ref a:=T;exact ZjB P M g E x λs4 O=>⟨c,B,O,G⟩
end
def ZjL(h:Heap)(c:sysModules<h.objs.size):Yq P w H (h.push {cls:=.type "dict",data:=.dict #[]}) h.objs.size (.dK []) :=
 ⟨Sk _,beq_eq_false_iff_ne.mpr (Ne.symm (Sf c)),[],.nil,Heap.DictOf.new h⟩
def RK:List (TE×TE)->St->Hp->(List (V×V)->Hp->Prop)->Prop
 |[],_,H,Q=>Q [] H
 |(tk,j)::r,c,H,Q=>tk c H λx f=>j c f λy g=>RK r c g λi h=>Q ((x,y)::i) h
abbrev VV:List (V×V)->List (Value×Value)->Prop:=Paired λp q=>ZP p.1 q.1/\ZP p.2 q.2
def Nm(X:Cx)(h:Pos)(keys:List (Option Expr))(values:OE)(j:List (TE×TE)):Prop :=
 ∀(pins:Ow) (s:Shared) (σ:St) (H:Hp) (Q:List (V×V)->Hp->Prop),Zb X pins σ H s->RK j σ H Q ->
  wpAny (model X.prog X.w) X.A (evalPairs (pairTrees keys values X.env h)) (λg i=>∃c f,Zb X pins σ f i/\VV c g/\Q c f) X.xe s
def ZjM:Nm X c [] [] []:=λpins s f H Q I h=>pairTrees_nil_walk ⟨[],H,I,.nil,h⟩
def Lw(U:PE X k tk)(L:PE X v f)(S:Nm X i ks vs g) :
  Nm X i (some k::ks) (v::vs) ((tk,f)::g):=λpins s c H a0 I h =>
 pairTrees_cons_walk (ZA (U pins s c H _ I h) λu T ⟨x,j,E,O,B⟩=>ZA (L pins T c j _ E B) λZ s2 ⟨y,P,n,C,G⟩ =>
  ZA (S pins s2 c P _ n G) λws Y ⟨M,Q,J,rel,D⟩=>⟨(x,y)::M,Q,J,.cons ⟨O,C⟩ rel,D⟩)
def Lx(g more:List (ZD×V)):List (ZD×V):=more.foldl (λf c=>Xi f c.1 c.2) g
def KV.merge:∀{more:List (ZD×V)} {f:List (ZD×Value)} {c:List (ZD×V)} {vs:List (ZD×Value)},KV more f->KV c vs->KV (Lx c more) (merged vs f):=by
 intro more f c vs r;unfold KV at r;induction r generalizing c vs with
 |nil=>intro q;exact q
 |@cons p q n j h t g =>
  intro i;have e:KV (Xi c p.1 p.2) (stored vs q.1 q.2):=by
   have:=i.put p.1 h.2;rw[<-h.1];exact this
  exact g e
theorem Za2:∀(more c:List (ZD×V)),(Lx c more).length<=c.length+more.length
 |[],c=>by show c.length<=c.length+0;lia
 |p::r,c=>by
  have h1:=Za2 r (Xi c p.1 p.2);have f:=RH c p.1 p.2;show(Lx (Xi c p.1 p.2) r).length<=_;rw[Sy];lia
theorem Za3{P:Program}{w:World}:∀{g:List (ZD×V)} {ws:List (Value×Value)},VV (g.map λi=>(kV i.1,i.2)) ws->∃f,Carries (XR P w) ws f/\KV g f
 |[],_,r=>by rw[List.map_nil]at r;cases r;exact⟨[],True.intro,.nil⟩
 |p::g,_,r=>by
  rw[SN]at r;cases r with
  |@cons a b u bs h t =>
   obtain⟨f,c,q⟩:=Za3 (P:=P) (w:=w) t;ext⟨n,j⟩ b;exact⟨(p.1,j)::f,⟨Lu h.1,R,c⟩,.cons ⟨R,h.2⟩ q⟩
def ZjN(j:List (TE×TE)):TE:=λh H Q=>∀p,H p=none->RK j h (upd H p (.dK [])) λi f=>f p=some (.dK [])/\∃c:List (ZD×V),i=c.map (λg=>(kV g.1,g.2))/\c.length<=15/\Q (.ref p) (upd f p (.dK (Lx [] c)))
def ZjO{keys:List (Option Expr)}{values:OE}(h:Nm X n keys values j)(B:keys.all (·.isSome)=true)(Q:keys.length=values.length)(u:keys≠[])
  (S:keys.length<=15):PE X (.Dict keys values n) (ZjN j):=by
 intro pins s v b0 a0 I q;have hn:=I.hok.fresh (Sg s.heap.objs.size);have C:=I.laid (a:=s.heap.objs.size) (o:=.dK []) (h':=s.heap.push {cls:=.type "dict",data:=.dict #[]}) (t':=s.toks) (λ_ _ q=>Sc _ q) (Sg _) (ZjL s.heap I.big);erw[wpAny_Dict_walk (knd:=XR X.prog X.w) B Q u S (ZA (h pins _ v _ _ C (q _ hn)) λws s2 ⟨U,Z,f,rel,e,g,L,Y,D⟩=>?_)];subst L;obtain⟨M,c,O⟩:=Za3 (P:=X.prog) (w:=X.w) rel;obtain⟨z,hd,T,H,G⟩:=ZaY f.hok e;cases H;erw[⟨M,c,G,λh' i y=>⟨.ref s.heap.objs.size,_,?_,R,D⟩⟩];have E:(Lx [] g).length<=sizeLine:=by
  have J:=Za2 g [];rw[List.length_nil]at J;rw[sizeLine_eq];lia
 have x:∃q,h'.get? s.heap.objs.size=some q:=let ⟨q,_,_,hq,_⟩:=i;⟨q,hq⟩;exact RI f (by rw[e];exact True.intro) y x (ZaZ E hd (O.merge .nil) i)
structure M1(X:Cx)(o:Expr)(m:Str)(apos:Pos)(e:Expr)(cpos:Pos):Prop where
 base:attributeBase o m X.env (eval o X.env)=eval o X.env
 few:((backTo cpos (starEach [e] X.env)).all (λx=>!x.1) && (backToKw cpos (keywordEach [] X.env)).all (λx=>x.1.isSome)
  && decide (([e]:OE).length+([]:List Keyword).length+(if ([]:List Keyword).isEmpty then 0 else 1)<30))=true
 line:(apos.endLine==cpos.line)=true
 trees:backTo cpos (starEach [e] X.env)=[(false,eval e X.env)]
structure M2(X:Cx)(o:Expr)(m:Str)(apos:Pos)(e f:Expr)(cpos:Pos):Prop where
 base:attributeBase o m X.env (eval o X.env)=eval o X.env
 few:((backTo cpos (starEach [e,f] X.env)).all (λx=>!x.1) && (backToKw cpos (keywordEach [] X.env)).all (λx=>x.1.isSome)
  && decide (([e,f]:OE).length+([]:List Keyword).length+(if ([]:List Keyword).isEmpty then 0 else 1)<30))=true
 line:(apos.endLine==cpos.line)=true
 trees:backTo cpos (starEach [e,f] X.env)=[(false,eval e X.env),(false,eval f X.env)]
def ZjP:Xk X (.builtin "len") (λxs H Q=>∃a c,xs=[V.ref a]/\H a=some (.dK c)/\Q (.int c.length) H):=by
 intro pins s i H xs j Q I r h;ext⟨a,c,rfl,ha,q⟩ h;obtain⟨u,rfl,ru⟩:=Xm r;cases ru;exact ZjC I (.inl ha) λt g f=>⟨.int c.length,H,f,⟨t,R⟩,q⟩
theorem Za4:∀{f:List (ZD×V)} {vs:List (ZD×Value)} {acc:OC},KV f vs->acc.length=vs.length->(∀(j:Nat) (v:Value),acc[j]? = some v->∃(k:ZD) (x:Value),vs[j]? = some (k,x)/\(XR X.prog X.w).is k v=true)->ZG (f.map λB=>kV B.1) acc
 |_,_,[],.nil,_,_=>.nil
 |_,_,[],.cons _ _,e,_=>by cases e
 |_,_,_::_,.nil,e,_=>by cases e
 |(k0,_)::_,(k1,_)::_,u::us,.cons r t,e,h=>by
  ext⟨y,_⟩ r;obtain⟨k,x,g,c⟩:=h 0 u R;cases g;erw[.cons ?_ (Za4 t (Nat.succ.inj e) λj v q=>h (j+1) v q)];have n:k0=k1:=y;subst n;cases k0 with
  |inl i=>exact Value.isInt_shape c
  |inr z=>exact Value.isStrOf_shape c
def Ui(B:X.calm=true):Xk X (.type "list") (λxs H Q=>∃d f,xs=[.ref d]/\H d=some (.dK f)/\∀l,H l=none->Q (.ref l) (upd H l (.lst (f.map λc=>kV c.1)))):=by
 intro pins s M H xs O Q I r h;ext⟨d,f,rfl,hd,q⟩ h;obtain⟨u,rfl,E⟩:=Xm r;cases E;obtain⟨J,y,C,c,D⟩:=I.hok d _ hd;ext⟨P,n⟩ D.dictAt;have hlen:C.length=f.length:=(Paired.length c).symm;erw[W.kdl_call (W.kdl_dict y) (I.ok.hd B) n () λG tk x L kp e g=>?_];ext⟨i⟩ x;erw[⟨.ref s.heap.objs.size,_,I.laid (t':=tk) kp (Sg _) (show Yq X.prog X.w _ G _ (.lst (f.map λc=>kV c.1))from⟨by rwa[Sv],i,L,Za4 (X:=X) c (by simpa using g.1) (λj v q=>g.2 j v (by simpa using q)),e⟩),R,q _ (I.hok.fresh (Sg _))⟩]
theorem Za5:∀{xs c:List V} {us vs:OC},ZG xs us->ZG c vs->ZG (xs++c) (us++vs)
 |_,_,_,_,.nil,r=>r
 |_,_,_,_,.cons r t,q=>.cons r (Za5 t q)
theorem RL:∀{xs:List V} {us:OC},ZG xs us->ZG xs.reverse us.reverse
 |_,_,.nil=>.nil
 |_,_,.cons r t=>by rw[List.reverse_cons,List.reverse_cons];exact Za5 (RL t) (.cons r .nil)
end L2
namespace K1
open PySem L2
def wo(H:Hp)(l:Addr):Hp:=λa=>if a=l then none else H a
def Q6(h:a≠l):wo H l a=H a:=SV h
def No:Zf (wo H l) H:=λa o e=>by
 by_cases h:a=l;rw[wo,SW h]at e;cases e;rw[Q6 h]at e;exact e
def Za6(e:wo H l a=some o):a≠l/\H a=some o:=by
 by_cases h:a=l;rw[wo,SW h]at e;cases e;rw[Q6 h]at e;exact⟨h,e⟩
def Za7(s:Zf H c):Zf (wo H l) (wo c l):=λa o e=>by
 obtain⟨h,e⟩:=Za6 e;rw[Q6 h];exact s _ _ e
def ZjQ:wo (upd H l o) l=wo H l:=by
 funext a;by_cases h:a=l;rw[wo,wo,SW h,SW h];rw[Q6 h,Q6 h,Zm h]
def QA(e:H a=some o)(h:a≠l):wo H l a=some o:=by rwa[Q6 h]
def Wy(s:Zf c H)(n:c l=none)(o:HO):Zf c (upd H l o):=λa u e=>by
 rw[Zm (Z4 e n)];exact s _ _ e
inductive Al{β α:Type}(R:β->α->Prop):List β->List α->Prop where
 |nil:Al R [] []
 |cons {v:β} {x:α} {vs:List β} {xs:List α}:R v x->Al R vs xs->Al R (v::vs) (x::xs)
section
variable{β α:Type}{R R':β->α->Prop}
def Al.length{vs:List β}{xs:List α}(h:Al R vs xs):vs.length=xs.length:=by
 induction h with
 |nil=>rfl
 |cons _ _ c=>rw[Sy,Sy,c]
def Al.imp(h:Al R vs xs)(f:∀v x,R v x->R' v x):Al R' vs xs:=by
 induction h with
 |nil=>exact .nil
 |cons a _ c=>exact .cons (f _ _ a) c
def Al.app(h:Al R vs xs)(g:Al R us c):Al R (vs++us) (xs++c):=by
 induction h with
 |nil=>exact g
 |cons a _ f=>exact .cons a f
def Al.snoc(h:Al R vs xs)(g:R v x):Al R (vs++[v]) (xs++[x]):=h.app (.cons g .nil)
def Al.get(h:Al R vs xs):∀{i:Nat} {v:β},vs[i]? = some v->∃x,xs[i]? = some x/\R v x:=by
 induction h with
 |nil=>intro i v e;cases e
 |cons a _ c =>
  intro i v e;cases i with
  |zero=>cases e;exact⟨_,rfl,a⟩
  |succ i=>exact c e
end
end K1
namespace L2
open PySem PySem.Spec PyProof.Rows
section
variable{a b:Expr}{rest:OE}{ta tb:TE}
inductive ZjR(K:Oy)(tb:TE)(σ:St)(Q:VK)(x:V)(H1:Hp):Prop|mk c (_:kQ K x H1 c) (_:if c=true then Q x H1 else tb σ H1 Q)
def ZjS(K:Oy)(ta tb:TE):TE:=λc H Q=>ta c H λx f=>ZjR K tb c Q x f
def ZjT(ha:PE X a ta)(D:PE X (.BoolOp .Or (b::rest) pos) tb):PE X (.BoolOp .Or (a::b::rest) pos) (ZjS X.K ta tb):=by
 intro pins s g H Q I h;erw[BoolOp_or (ZA (ha pins s g H _ I h) λv E ⟨x,j,C,r1,f⟩=>?_)];ext⟨c,tr,f⟩ f;erw[ZA (Zhn pins E g j x v (λi u=>i=c/\u=j) C r1 ⟨c,tr,R,R⟩) λi s2 ⟨G,n,y,B⟩=>?_];subst y B;cases i with
 |false=>exact D pins s2 g _ Q n f
 |true=>exact⟨x,_,n,r1,f⟩
end
section
variable{σ:St}
open Classical in
noncomputable def UG (h:Heap) (dx:PyData) (u:Value):Bool:=if ∃d as,Reads h u d as/\PyData.eqv d dx=true then true else false
def Za8{d : PyData}(r:Reads h u d g)(c:d.canLay0=true):UG h f u=PyData.eqv d f:=by
 unfold UG;cases e:PyData.eqv d f with
 |true=>exact SW ⟨d,g,r,e⟩
 |false =>
  erw[SV ?_];rintro⟨v,j,n,i⟩;rw[<-SeqAt.Reads.unique d v u g j c r n,e]at i;exact Bool.noConfusion i
theorem RM:∀{us:OC} {ds:List PyData} {as:OI},ReadsAll h us ds as->PyData.canLayAll0 ds=true->us.any (UG h f)=ds.any λd=>PyData.eqv d f
 |_,_,_,.nil,_=>rfl
 |_,_,_,.cons r g,c=>by
  simp only[PyData.canLayAll0,Bool.and_eq_true]at c;rw[List.any_cons,List.any_cons,Za8 r c.1,RM g c.2]
theorem RN{f:PyData}(h:Reads s.heap v f bs)(i:f.canLay0=true)(g:A.units+f.depth<cLine):∀{us:OC} {ds:List PyData} {as:OI},ReadsAll s.heap us ds as->PyData.canLayAll0 ds=true->∀u∈us,SeqAt.EqAt A s u v (UG s.heap f u)
 |_,_,_,.nil,_=>λu g=>by cases g
 |_,_,_,.cons r j,c=>λn hm=>by
  simp only[PyData.canLayAll0,Bool.and_eq_true]at c;rcases SG.mp hm with rfl|hm;rw[Za8 r c.1];exact SeqAt.eqAt_reads _ _ A s _ _ _ _ r h c.1 i ();exact RN h i g j c.2 n hm
inductive Za9(K:Oy)(neg:Bool)(x:V)(y:V)(H:Hp)(Q:VK):Prop|mk p xs dx ds (_:y=.ref p) (_:(Zd K H p xs\/Zg K H p xs)) (_:DV K H x dx) (_:Y0 K H xs ds) (_:dx.depth<=60) (_:Q (.bl (if neg then !(ds.any λd=>PyData.eqv d dx)else ds.any λd=>PyData.eqv d dx)) H)
def ZjU(O:X.A.units+64<cLine):YD X (compareOp .In) (Za9 X.K false):=by
 intro pins s σ H x y v u Q I J E h;ext⟨p,M,c,ds,rfl,g,B,f,hd,q⟩ h;cases E;obtain⟨L,r1⟩:=B.reads I J;have D:X.A.in1.units+c.depth<cLine:=by show X.A.units+1+_<_;lia
 rcases g with g|g;obtain⟨j,r,C,G⟩:=I.list g;obtain⟨bs,i⟩:=f.reads I r;erw[SeqAt.in_listAt (UG s.heap c) C.isList (λw n=>RN r1 B.can D i f.can w (by simpa using n)) ⟨.bl _,H,I,R,?_⟩];rwa[show j.toArray.any (UG s.heap c)=j.any (UG s.heap c) by simp,RM i f.can];obtain⟨j,r,C,G⟩:=I.tuple g;obtain⟨bs,i⟩:=f.reads I r;erw[SeqAt.in_tupleAt (UG s.heap c) C (λw n=>RN r1 B.can D i f.can w (by simpa using n)) ⟨.bl _,H,I,R,?_⟩];rwa[show j.toArray.any (UG s.heap c)=j.any (UG s.heap c) by simp,RM i f.can]
end
theorem Zba:∀bs:List Bool,(List.range bs.length).any (λi=>bs.getD i false)=bs.any id
 |[]=>rfl
 |b::bs=>by
  rw[Sy,List.range_succ_eq_map,List.any_cons,List.any_map,List.any_cons];show(b || _)=(b || _);rw[<-Zba bs];rfl
def ZjV(J:X.calm=true):Xk X (.builtin "any") (λxs H Q=>∃(p:Addr) (bs:List Bool),xs=[.ref p]/\Zd X.K H p (bs.map V.bl)/\Q (.bl (bs.any id)) H):=by
 intro pins s σ H xs us Q I r h;ext⟨p,bs,rfl,C,q⟩ h;obtain⟨b0,rfl,T⟩:=Xm r;cases T;obtain⟨f,u,j,hz⟩:=I.list C;have hlen:=u.length;obtain⟨o,a0,O,_⟩:=id j;have S:p≠s.heap.objs.size:=Sf (Se O);have tr:TruthOf X.prog X.w X.A.in1 (λi v=>f.toArray[i]? = some v) (λi=>bs.getD i false):=by
  intro i v s2 E E2 M D;have B:f[i]? = some v:=by simpa using M
  have y:i<bs.length:=by
   have:=(Sr.mp B).1;rw[<-hlen,Sv]at this;exact this
  obtain⟨w,c,g⟩:=u.get (i:=i) (x:=.bl bs[i]) (by rw[Ob,Ss y];rfl);rw[B]at c;cases c;cases g;erw[wpAny_truthy_bool ?_];have Z:bs.getD i false=bs[i]:=by rw[List.getD_eq_getElem?_getD,Ss y];rfl
  have n:E (bs.getD i false) s2:=D;rw[Z]at n;exact n
 erw[call_any_walk (wpAny_pyIter_list j.isList ?_)];erw[⟨s.heap.objs.size,[s.heap.objs.size,p],[s.heap.objs.size],f.toArray.size,_,_,_,R,Walks.list (A:=X.A.in1) (I.ok.hd J) _ _ S f.toArray,⟨⟨_,Sd _ R,R,R⟩,?_⟩,tr,λY tk U=>?_⟩];ext⟨G,g,L⟩ j.isList;exact⟨G,Sc _ g,L⟩;have P:∀b o,s.heap.get? b=some o->Y.get? b=some o:=λb o e=>U b o (λz=>by
  have c:=Se e;rw[SF.mp z]at c;exact Ot c (Sl _)) (Sc _ e)
 have e:(List.range f.toArray.size).any (λi=>bs.getD i false)=bs.any id:=by
  rw[SO,<-hlen,Sv];exact Zba bs
 rw[e];exact⟨.bl _,H,I.kept (t':=tk) P,R,q⟩
def ZjW(c:Addr)(qual:Str):HO:=.ext λh=>h.CodeRec (.ref c) qual
end L2
namespace K1
open PySem L2
end K1
namespace L2
open PySem PySem.Spec PyProof.Rows PySem.W
def VE(h:Heap)(d:Addr)(c:Array DictEntry)(f:Nat):Prop:=∃o,h.get? d=some o/\o.ExactDict/\o.data=.dict c f
def VE.typeIs(x:VE s.heap d c f):s.TypeIs (.ref d) "dict" := let ⟨o,ho,hc,_⟩:=x;⟨o,ho,hc.1⟩
def VE.at{h h':Heap}(x:VE h d c f)(k:∀o,h.get? d=some o->h'.get? d=some o):VE h' d c f:=let ⟨o,ho,r⟩:=x;⟨o,k o ho,r⟩
def VE.lt{h:Heap}(x:VE h d c f):d<h.objs.size:=let ⟨_,ho,_⟩:=x;Se ho
def ZjX{i:Array DictEntry}(c:s.heap.IsValuesView v d)(hm:VE s.heap d i f)
  (u:Q (.ref s.heap.objs.size) {s with heap:=s.heap.push {cls:=.type "dict_valueiterator",data:=.fields #[.ref d,.int 0 0,.int i.size 0,.int f 0]} }):wpAny (model prog w) A (pyIter (.ref v)) Q E s:=by
 obtain⟨y,n,B,j⟩:=id c;obtain⟨o,g,C,h⟩:=id hm;apply wpAny_pyIter_slot c.typeIs F.slot_dict_values_iter;erw[wpAny_call_entry F.slot_dict_values_iter c.typeIs F.entry_dict_values_iter ?_ (F.args_dict_values_iter_1 _)];unfold Builtin.«dict_values.__iter__»;apply Sa;apply Sb;apply Sa;unfold Builtin.Dict_items.dictOf;apply Sa;erw[wpAny_field n j (x:=.ref d) R ?_];apply Sb;apply Sa;unfold Builtin.Dict_items.newIterator;apply Sa;erw[wpAny_dictEntries g h ?_];apply Sa;erw[wpAny_dictEpoch g h ?_];simp only[show Builtin.Dict_items.ownsTuple "dict_valueiterator"=false by lia,Bool.false_eq_true,if_false];erw[wpAny_newObj_type ?_];apply Sb;erw[⟨_,R,"dict_valueiterator",_,⟨_,Sd _ R,R⟩,F.slot_dict_valueiterator_next.lookup,?_⟩];simpa [rawInt]using u
def ZjY{f:Array DictEntry}(c:s.heap.IsValIter it d i f.size g)(hm:VE s.heap d f g)(hi:i<f.size)
  (y:∀h',h'.IsValIter it d (i+1) f.size g->Heap.SameBut it s.heap h'->Q (some f[i].val) {s with heap:=h'}):wpAny (model prog w) A (pyNext (.ref it)) Q E s:=by
 obtain⟨B,n,x,h⟩:=id c;obtain⟨o,u,C,v⟩:=id hm;unfold pyNext;apply Sa;apply wpAny_attempt;erw[wpAny_callSpecial?_slot (name:=OL "__next__") c.typeIs F.slot_dict_valueiterator_next ?_];erw[wpAny_call_entry F.slot_dict_valueiterator_next c.typeIs F.entry_dict_valueiterator_next ?_ (F.args_dict_valueiterator_next_1 _)];apply Sa;apply Sb;apply Sa;apply Sa;apply Sa
 first|refine wpAny_typeNameOfWhole_valiter c.typeIs ?_|refine wpAny_typeNameOf_valiter c.typeIs ?_
 apply Sb;apply Sa;erw[wpAny_fieldsOf n h ?_];simp only[show Builtin.Dict_items.ownsTuple "dict_valueiterator"=false by lia,Bool.false_eq_true,if_false];show wpAny _ _ (if (Value.ref d==Value.none)=true then _ else _) _ _ s;rw[SV (by intro z;cases z)];apply Sa;apply Sb;apply Sa;erw[wpAny_dictEntries u v ?_];rw[SV (by simp)];apply Sa;apply Sb;apply Sa;erw[wpAny_dictEpoch u v ?_];rw[SV (by simp)];apply Sb;simp only[show ¬ ((i:Int)<0) by lia,if_false,Int.toNat_natCast,Array.getElem?_eq_getElem hi];apply Sa;apply Sa
 first|refine wpAny_typeNameOfWhole_valiter c.typeIs ?_|refine wpAny_typeNameOf_valiter c.typeIs ?_
 apply Sb;apply Sa;erw[wpAny_isOneOf_valiter c.typeIs ?_];show wpAny _ _ (setField (.ref it) 1 (rawInt ((i:Int)+1)) >>= _) _ _ s;apply Sa;erw[wpAny_setField n h (by simp) ?_];have j:(s.heap.update it (Obj.mapFields (·.setIfInBounds 1 (rawInt ((i:Int)+1))))).IsValIter it d (i+1) f.size g :=
  ⟨_,Heap.get?_update_self _ n (Obj.isFreed_of_fields (Obj.data_mapFields h _)),(Obj.cls_mapFields ..).trans x,by rw[Obj.data_mapFields h];simp[rawInt]⟩
 apply Sa;apply wpAny_holding;apply Sa;erw[wpAny_isOneOf_valiter (s:={s with heap:=s.heap.update it (Obj.mapFields (·.setIfInBounds 1 (rawInt ((i:Int)+1))))}) j.typeIs ?_];apply Sa;erw[wpAny_isOneOf_valiter (s:={s with heap:=s.heap.update it (Obj.mapFields (·.setIfInBounds 1 (rawInt ((i:Int)+1))))}) j.typeIs ?_];show wpAny _ _ (pure f[i].val) _ _ _;apply Sb;apply Sb;erw[⟨_,R,?_⟩];apply Sb;exact y _ j (Heap.SameBut.update ..)
def ZjZ{f:Array DictEntry}(u:A.handled=none)(c:s.heap.IsValIter it d f.size f.size g)(hm:VE s.heap d f g)
  (v:∀h',Heap.ExtBut it s.heap h'->Q none {s with heap:=h'}):wpAny (model prog w) A (pyNext (.ref it)) Q E s:=by
 obtain⟨x,n,y,j⟩:=id c;obtain⟨o,h,B,i⟩:=id hm;unfold pyNext;apply Sa;apply wpAny_attempt;erw[wpAny_callSpecial?_slot (name:=OL "__next__") c.typeIs F.slot_dict_valueiterator_next ?_];erw[wpAny_call_entry F.slot_dict_valueiterator_next c.typeIs F.entry_dict_valueiterator_next ?_ (F.args_dict_valueiterator_next_1 _)];apply Sa;apply Sb;apply Sa;apply Sa;apply Sa
 first|refine wpAny_typeNameOfWhole_valiter c.typeIs ?_|refine wpAny_typeNameOf_valiter c.typeIs ?_
 apply Sb;apply Sa;erw[wpAny_fieldsOf n j ?_];simp only[show Builtin.Dict_items.ownsTuple "dict_valueiterator"=false by lia,Bool.false_eq_true,if_false];show wpAny _ _ (if (Value.ref d==Value.none)=true then _ else _) _ _ s;rw[SV (by intro z;cases z)];apply Sa;apply Sb;apply Sa;erw[wpAny_dictEntries h i ?_];rw[SV (by simp)];apply Sa;apply Sb;apply Sa;erw[wpAny_dictEpoch h i ?_];rw[SV (by simp)];apply Sb;simp only[show ¬ ((f.size:Int)<0) by lia,if_false,Int.toNat_natCast,Array.getElem?_eq_none (Sg _)];apply Sa;apply Sa
 first|refine wpAny_typeNameOfWhole_valiter c.typeIs ?_|refine wpAny_typeNameOf_valiter c.typeIs ?_
 apply Sb;show wpAny _ _ (setField (.ref it) 0 .none >>= _) _ _ s;apply Sa;erw[wpAny_setField n j (by simp) ?_];show wpAny _ _ (newExc (.type "StopIteration") [] >>= _) _ _ _;apply Sa;simp only[newExc,newTuple];apply Sa;erw[wpAny_newObj_type ?_ (by size_fits)];apply Sa (m:=firstArgMember _ _);erw[wpAny_of_eq (a:=Value.none) (by first|rfl|(simp only[firstArgMember];rfl)) ?_];erw[wpAny_newObj_type ?_ (by size_fits)];simp only[raiseNew];apply Sa;apply wpAny_handled;rw[show A.in1.handled=none from u];erw[Sa (Sb ?_)];apply wpAny_throw;apply Sa;erw[wpAny_isInstance (T := "StopIteration") (b:=true) ⟨_,Sd _ R,R⟩ isSubtype_stop ?_];apply Sb;exact v _ (((Heap.SameBut.update ..).extBut.push _).push _)
def Zj0(B:A.handled=none)(I d:Addr)(G:d≠I)(g:Array DictEntry)(n:Nat) :
  Walks prog w A I [I,d] [I] g.size (λi v=>∃e,g[i]? = some e/\e.val=v) (λi h=>h.IsValIter I d i g.size n/\VE h d g n) where
 sub:=λb c=>by simp at c;simp[c]
 frame:=λ_ _ _ st x=>⟨st.1.at λo e=>x I (by simp) o e,st.2.at λo e=>x d (by simp) o e⟩
 item:=λi s Q E y st f=>ZjY st.1 st.2 y λj C u=>f _ j s.toks ⟨_,Array.getElem?_eq_getElem y,R⟩ ⟨C,st.2.at λo e=>u.extBut d o G e⟩ λb o c e=>u.extBut b o (λh=>c (by simp[h])) e
 done:=λs Q E st f=>ZjZ B st.1 st.2 λj D=>f j s.toks λb o c e=>D b o (λh=>c (by simp[h])) e
 self:=λ_ _ _ _ st f=>wpAny_pyIter_valiter st.1 f
def Zj1{c:Array DictEntry}:KdlSrc prog w "dict_values" r d c.size (λi v=>∃e,c[i]? = some e/\e.val=v) (λh=>h.IsValuesView r d/\VE h d c g) where
 type:=λ_ hm=>hm.1.typeIs
 there:=λ_ hm=>⟨let ⟨_,ho,_⟩:=hm.1;Se ho,hm.2.lt⟩
 keep:=λ_ _ hm j=>⟨let ⟨o,ho,x⟩:=hm.1;⟨o,j r (.inl R) o ho,x⟩,hm.2.at λo e=>j d (.inr R) o e⟩
 notList:=by lia
 notTuple:=by lia
 hint:=λ_ _ _ _ hm f=>kdl_hint_values hm.1.typeIs f
 iter:=λ_ _ n hm=>⟨_,_,(λ_ _ f=>ZjX hm.1 hm.2 f),Zj0 n _ d (Sf hm.2.lt) c g,⟨⟨_,Sd _ R,R,R⟩,hm.2.at λo e=>Sc _ e⟩⟩
def Np(v d:Addr):HO:=.ext λh=>h.IsValuesView v d
def Zj2{h:Heap}(x:h.IsValuesView v d):Yq P w H h v (Np v d) :=
 ⟨x,let ⟨o,c,_⟩:=x;⟨o,c⟩,λ_ _ ⟨o,c,r⟩ k=>⟨o,k _ c,r⟩⟩
open AutoSeq1 (wpAny_loadPart')
section
variable{M:Model}
def Zj3{args:List (Bool×Sem Value)}{keywords:List (Option Str×Sem Value)}(i:args.any (·.1)=false)(n:keywords.any (·.1.isNone)=false)
  (h:wpAny M A (evalArgs (.type T) true args keywords) (λa c=>wpAny M A (call (.type T) a.pos a.kw) Q E c) E s):wpAny M A (callWith f (.type T) [] args keywords) Q E s:=by
 unfold callWith;erw[Sa (wpAny_holding (Os h (λa c g=>Sa (wpAny_standAt ?_)) λ_ _ x=>x))];simp only[i,n,Bool.or_false];exact Sa (Sb (Sa (Os g (λr u j=>Sa (wpAny_holding (wpAny_point (Sb j)))) λ_ _ x=>x)))
end
abbrev UH(t:Tok):List (Str×Value):=[(OL "start",.int 1 t)]
def Zj4(a:Value)(t:Tok):checkTypeCall "enumerate" ⟨[a],UH t⟩=pure Unit.unit:=by kernel_rfl
def Zj5(a:Value)(t:Tok):checkBuiltinCall "enumerate.__new__" ⟨[.type "enumerate",a],UH t⟩=pure Unit.unit:=by kernel_rfl
def Zj6(o a:Value)(t:Tok):argsOk "object.__init__" ⟨[o,a],UH t⟩:=by unfold argsOk;rw[signature?_of (id := "object.__init__") (n:=['_','_','t','i','n','i','_','_']) (o:=['t','c','e','j','b','o']) (by kernel_rfl) PySem.F.owner_object];kernel_rfl
def Zj7{newId : String}(f:typeLookup (.type T) "__init__"=pure (some (.builtin "object.__init__"))) (hm:Bind.madeBy (.type T)=pure (some newId)) (h:(some newId != some "object.__new__")=true) :
  Meets (Builtin.«object.__init__» ⟨[o,a],UH t⟩) (λ_ R s=>s.TypeIs o T/\R (.ok (.ret .none)) s):=.of_wp λprog w A R s ⟨g,c⟩=>by
 repeat (any_goals (first|assumption|wp_step))
 exact⟨_,rfl,c⟩
def Zj8(B:entryFor table "enumerate.__new__"=some x) (g:Meets (x ⟨[.type "enumerate",a],UH t⟩) S)
  (h:S A.in1 (wants (λobj f=>f.TypeIs obj "enumerate" /\ Q obj f) E) s):wpAny (model prog w) A (call (.type "enumerate") [a] (UH t)) Q E s:=by
 have ft:=PySem.F.called_enumerate;ext⟨c,H,J⟩ ft.mro;have P:=ft.made;have G:=ft.sub;erw[wpAny_call (codeAny_of_tree (show wpAny _ _ (callAny (.type "enumerate") _) _ _ _ from Sb ⟨Code.quiet_builtin _ (),codeAny_builtin PySem.F.entry_type_call ?_⟩))];rw[Around.under_plain (weight_type_call_type "enumerate" [a] (UH t)) (units_type_call_type "enumerate" [a] (UH t))];have M:=ft.notType;have L:=ft.canCreate;have T:=Zj4 a t
 repeat (any_goals (first|assumption|wp_step))
 erw[codeAny_mono (codeAny_call_builtin ft.plain B (wpAny_of_eq (Zj5 a t) (g prog w A.in1 _ s h))) λr f j=>?_];rcases r with e|C;exact j;cases C with
 |ret obj =>
  ext⟨v,n⟩ j;have O:=ft.init.lookup;have I:=ft.init.bind obj
  repeat (any_goals (first|assumption|wp_step))
  erw[codeAny_mono (codeAny_call_builtin ft.init.plain PySem.F.entry_object_init (ft.init.check _ _ _ _ _ _ _ _ v (Zj6 obj a t) (Zj7 ft.init.lookup ft.made () prog w A.in1 (wants (λr u=>r=.none/\Q obj u) E) f ⟨v,R,n⟩))) λD u i=>?_];rcases D with e|y;exact i;cases y with
  |ret r=>ext⟨rfl,n⟩ i;repeat (any_goals (first|assumption|wp_step))
  |_=>exact i.elim
 |_=>exact j.elim
def Zj9(l:Addr)(t:Tok)(items:Array Value)(n:Nat)(u:OG)(v:OA) :
  Meets (Builtin.«enumerate.__new__» ⟨[.type "enumerate",.ref l],UH t⟩) (λ_ R s=>s.heap.get? l=some ⟨.type "list",u,.seq items n,v⟩/\∀h' e,e=s.heap.objs.size+1 ->
   h'=(s.heap.push {cls:=.type "list_iterator",data:=.fields #[.ref l,.int 0 0]}).push {cls:=.type "enumerate",data:=.fields #[.none,.bool false,.ref s.heap.objs.size,rawInt 1,.none,.none]}->R (.ok (.ret (.ref e))) {s with heap:=h'}) :=
 .of_wp λprog w A R s ⟨f,h⟩=>by
  ext⟨i,g,d,tk,os⟩ s;have x:=sub_enumerate;have j:Heap.IsList (Shared.heap ⟨i,g,d,tk,os⟩) l items:=⟨_,f,rfl,n,rfl⟩;have h:=h _ _ rfl rfl;rw[show i.objs.size+1=(i.push {cls:=.type "list_iterator",data:=.fields #[.ref l,.int 0 0]}).objs.size from(Heap.size_push ..).symm]at h
  wp_walk using wpAny_loadPart' f
  erw[wpAny_stack_any λst=>Sb ?_];split;rename_i c _ _ _ _ _;cases (c==Value.type "enumerate")<;>(wp_walk using wpAny_loadPart' f,wpAny_pyIter_list j;exact⟨_,rfl,h⟩)
  wp_walk using wpAny_loadPart' f,wpAny_pyIter_list j
  exact⟨_,rfl,h⟩
def Zka{items:Array Value}(B:s.heap.IsList l items)
  (h:∀h',IsEnum h' (s.heap.objs.size+1) s.heap.objs.size 1 .none->h'.IsListIter s.heap.objs.size l 0->(∀b o,s.heap.get? b=some o->h'.get? b=some o)->Q (.ref (s.heap.objs.size+1)) {s with heap:=h'}) :
  wpAny (model prog w) A (call (.type "enumerate") [.ref l] (UH t)) Q E s:=by
 ext⟨⟨c,u,dt,v⟩,y,g,n,hd⟩ B;replace g:c=.type "list" := g;replace hd:dt=.seq items n:=hd;subst g hd;erw[Zj8 PySem.F.entry_enumerate_new (Zj9 l t items n u v) ⟨y,λh' e j f=>?_⟩];subst j;have i:IsEnum h' (s.heap.objs.size+1) s.heap.objs.size 1 .none:=by
  have:=Sd (s.heap.push {cls:=.type "list_iterator",data:=.fields #[.ref l,.int 0 0]}) (o:={cls:=.type "enumerate",data:=.fields #[.none,.bool false,.ref s.heap.objs.size,rawInt 1,.none,.none]}) R;rw[Heap.size_push,<-f]at this;exact this
 exact⟨⟨_,i,R⟩,h _ i (by rw[f];exact⟨_,Sc _ (Sd _ R),R,R⟩) λb o x=>by rw[f];exact Sc _ (Sc _ x)⟩
def Zkb{P:Nat->Value->Prop}(D:Draws prog w A it fp n P c):Draws prog w A it fp (n+1) (λi v=>∃j,i=j+1/\P j v) (λi h=>∃j,i=j+1/\c j h) where
 live:=λ_ _ ⟨_,_,st⟩=>D.live _ _ st
 frame:=λ_ _ _ ⟨j,e,st⟩ k=>⟨j,e,D.frame _ _ _ st k⟩
 item:=λi s Q E C ⟨j,e,st⟩ B=>D.item j s Q E () st λx y tk u f=>B x y tk ⟨j,e,u⟩ ⟨j+1,(),f⟩
 done:=λs Q E ⟨j,e,st⟩ g=>D.done s Q E (by rw[show n=j by lia];exact st) g
def Zkc{items:Array Value}(f:A.handled=none)(g:items[i]? = none):Draws prog w A it [it,l] (i+1) (λ_ _=>False) (λj h=>j=i+1/\h.IsListIter it l i/\h.IsList l items) where
 live:=λ_ _ ⟨_,⟨o,u,_⟩,_⟩=>⟨o,u⟩
 frame:=λ_ _ _ st c=>⟨st.1,st.2.1.at λo e=>c it (by simp) o e,st.2.2.at λo e=>c l (by simp) o e⟩
 item:=λj s Q E v ⟨e,_⟩ x=>Ot v ()
 done:=λs Q E st n=>wpAny_nextOf_list_end f st.2.1 st.2.2 g n
def Ly(K:Oy)(l:Addr):It :=
 ⟨λi H=>∃c x,Zd K H l c/\c[i]? = some x,λi H v f=>∃p x,H p=none/\(∀c,Zd K H l c->c[i]? = some x)/\v=.ref p/\f=upd H p (.tup [.int (i+1:Nat),x]),λi H=>∃c,Zd K H l c/\c.length<=i⟩
def Zkd{es:OE}{k:Nat}{j0:Pos}(l e it:Addr)(G:e≠it)(h0:e≠l)(f0:l≠it):Uv P w K (.Tuple es k j0) (Ly K l) [e,it] e (λi h=>((∃g,IsEnum h e it (i+1:Nat) g)/\h.IsListIter it l i)) where
 mem:=by simp
 obj:=λi h st b f=>by
  ext⟨⟨g,c⟩,o,O,B,hd⟩ st;rcases(show b=e\/b=it by simpa using f)with rfl|rfl;exact⟨_,c,λg0 z=>by cases z⟩;exact⟨o,O,λg0 z=>by rw[hd]at z;cases z⟩
 keep:=λi h h' st S=>⟨let ⟨g,c⟩:=st.1;⟨g,S e (by simp) _ c⟩,st.2.at λo q=>S it (by simp) o q⟩
 item:=by
  intro X n D L B i pins s σ m0 l0 I Q st M;subst n D L;ext⟨xs,x,v,E⟩ M;obtain⟨j,H,p,hz⟩:=I.list v;obtain⟨u,U,ru⟩:=H.get E;ext⟨⟨g,c⟩,C⟩ st;have i0:=C;have hi:i<j.toArray.size:=by have:=(Sr.mp U).1;simpa using this
  erw[wpAny_pyNext_enum_itemD (Zkb (Draws.list (A:=X.A.in1) (I.ok.hd B) it l f0 j.toArray)) c ⟨i,R,C,p.isList⟩ (Nat.succ_lt_succ hi) G (by simp[G,h0]) λx' h1 tk n O Y hT o0 hk=>⟨_,R,?_⟩];ext⟨a0,ej,e0⟩ n;obtain rfl:i=a0:=by lia
  obtain rfl:u=x':=So ((by simpa using U.symm:some u=j.toArray[i]?).trans e0);erw[wpAny_letOwnedTupleGo_enum (s:={s with heap:=h1,toks:=tk+1}) O λT k0 J=>?_];have d0:e<s.heap.objs.size:=Se c;have b0:T.get? s.heap.objs.size=some {cls:=.type "tuple",data:=.seq #[.int (i+1:Nat) tk,u]}:=(J.2 _ (Nat.ne_of_gt d0)).trans hT;obtain⟨I2,Z⟩:=I.paired (t':=tk+1) (fp:=[e,it]) (x:=.int (i+1:Nat)) (y:=x) (h':=T) Q (λb f=>by
   rcases(show b=e\/b=it by simpa using f)with rfl|rfl;exact⟨_,c⟩;ext⟨o,q,_⟩ i0;exact⟨o,q⟩) (λb o f q=>(J.2 b λz=>f (by simp[z])).trans (hk b o (λz=>f (by simp[z])) (λz=>f (by simp[z])) q)) b0 ⟨tk,R⟩ ru
  ext⟨j',n0,c0,_⟩ Y;obtain rfl:j'=i+1:=by lia
  exact⟨.ref s.heap.objs.size,_,I2,R,⟨_,x,I.hok.fresh (Sg _),λys hy=>by rwa[I.list_inj hy v],R,R⟩,⟨⟨_,by simpa using k0⟩,c0.at λo q=>(J.2 it G.symm).trans q⟩,Z⟩
 done:=by
  intro X n D L B i pins s σ m0 l0 I Q st M;subst n D L;ext⟨xs,v,E⟩ M;obtain⟨j,H,p,hz⟩:=I.list v;ext⟨⟨g,c⟩,C⟩ st;have hl:=H.length;exact wpAny_pyNext_enum_endD (Zkc (A:=X.A.in1) (it:=it) (l:=l) (i:=i) (items:=j.toArray) (I.ok.hd B) (by simp;lia)) c ⟨R,C,p.isList⟩ λh' eb=>⟨R,I.turnedL (t':=s.toks) (fp:=[e,it]) (λb o f q=>eb b o (λz=>f (by simp[z])) q) Q⟩
 self:=λ_ _ _ _ _ st h=>let ⟨⟨g,c⟩,_⟩:=st;wpAny_pyIter_enum c h
inductive Zke(K:Oy)(R:It->Hp->Prop)(vs zs:List V)(H1:Hp):Prop|mk (a:Addr) (_:vs=[.ref a]) (_:zs=[.int 1]) (_:∃xs,Zd K H1 a xs) (_:R (Ly K a) H1)
def Zkf(K:Oy)(j tk:TA):TI:=λc H i=>j c H λf g=>tk c g λzs h=>Zke K i f zs h
def Zkg{O:OE}{k:Nat}{tp:Pos}{a:Expr}{g:List Keyword}{n tk:TA}{p c:Pos}(M:Gl X "enumerate") (hm:X.mg "enumerate"=none) (ha:PA X [a] n) (D:PK X g tk) (E:(backToKw c (keywordEach g X.env)).all (·.1.isSome)=true:=by rfl) (G:(backToKw c (keywordEach g X.env)).filterMap (·.1)=[OL "start"]:=by rfl)
  (f:starEach [a] X.env=[(false,eval a X.env)]:=by rfl) (a0:(backToKw c (keywordEach g X.env)).any (·.1.isNone)=false:=by rfl):PI X (.Tuple O k tp) (.Call (.Name "enumerate" p) [a] g c) (Zkf X.K n tk):=by
 intro pins s j b0 R I h;erw[wpAny_Call_Name_kw (VN I M hm boot_enumerate ?_ () ())];erw[Zj3 (by rw[f];rfl) a0 (evalArgs_kw2 E (ZA (ha c pins s j b0 _ I h) λus U ⟨vs,B,J,r,q⟩=>?_) (by rw[f];rfl))];erw[ZA (D c pins U j B _ J q) λws s2 ⟨zs,S,i,y,L⟩=>?_];rw[G];ext⟨l,rfl,rfl,⟨xs,C⟩,H⟩ L;obtain⟨u,rfl,P⟩:=Xm r;cases P;obtain⟨u,rfl,td,rfl⟩:=Xm y;obtain⟨c0,rv,x,hz⟩:=i.list C;have lt:l<s2.heap.objs.size:=by ext⟨o,e,_⟩ x.isList;exact Se e
 erw[Zka x.isList λZ f T Y=>?_];erw[wpAny_pyIter_enum (s:={s2 with heap:=Z}) f ?_];erw[⟨s2.heap.objs.size+1,[s2.heap.objs.size+1,s2.heap.objs.size],_,_,S,rfl,i.kept (t':=s2.toks) Y,Zkd l _ _ (Nat.succ_ne_self _) (Nat.ne_of_gt (Sn lt)) (Sf lt),⟨⟨_,f⟩,T⟩,λb Q=>?_,H⟩];have v:s2.heap.objs.size<=b:=by rcases(show b=s2.heap.objs.size+1\/b=s2.heap.objs.size by simpa using Q)with rfl|rfl;exact Nat.le_succ _;exact Sg _
 exact i.fpOk v (i.hok.fresh v)
def Zkh{a:Addr}{xs:List V}{g:TG}{B:TS}{D:X8}{c:St}(f:Nat->St->Hp->Prop)(G:f 0 c H)(O:∀i c H,i<=xs.length->f i c H->Zd K H a xs)
  (J:∀i x p c H,xs[i]? = some x->H p=none->f i c H->g (.ref p) c (upd H p (.tup [.int (i+1:Nat),x])) λu n=>B {D with nx:=f (i+1),ct:=f (i+1),bk:=D.nx} u n) (hd:∀c H,f xs.length c H->D.nx c H) :
  ∃W:Nat->Nat->St->Hp->Prop,(∃m,W 0 m c H)/\∀i m c H,W i m c H ->
   ((Ly K a).stop i H/\D.nx c H)\/((Ly K a).go i H/\∃N:St->Hp->Prop,(∀j h,N j h->∃C,C<m/\W (i+1) C j h)/\∀x h,(Ly K a).yld i H x h->g x c h λu n=>B {D with nx:=N,ct:=N,bk:=D.nx} u n):=by
 erw[⟨λi m c H=>m=xs.length - i/\i<=xs.length/\f i c H,⟨xs.length,by simp,Sk _,G⟩,?_⟩];rintro i m c H ⟨rfl,M,p⟩;have q:=O i c H M p;by_cases E:i<xs.length;erw[.inr ⟨⟨xs,xs[i],q,by simp[E]⟩,f (i+1),λj h I=>⟨xs.length - (i+1),(),R,E,I⟩,λv h y=>?_⟩];ext⟨r,x,L,y,rfl,rfl⟩ y;exact J i x r c _ (y xs q) L p;obtain rfl:i=xs.length:=by lia
 exact .inl ⟨⟨xs,q,Sg _⟩,hd c H p⟩
def Lz(lo c:Int)(n:Nat):It:=⟨λi _=>i<n,λi H x f=>f=H/\x=.int (lo+i*c),λi _=>n<=i⟩
def Zki{Q:Expr}(it:Addr)(lo c:Int)(n:Nat):Uv P w K Q (Lz lo c n) [it] it (λi h=>IsRangeIter h it (lo+(i:Nat)*c) ((n:Int) - (i:Nat)) c) where
 mem:=by simp
 obj:=λi h st b f=>by
  obtain rfl:b=it:=by simpa using f
  exact⟨_,st,λv z=>by cases (show Data.fields _=Data.cell v from z)⟩
 keep:=λi h j st k=>k it (by simp) _ st
 item:=by
  intro X E x B y i pins s O H a0 I g st C;subst E x B;obtain⟨L,J,U,u,G,D⟩:=g it (by simp);erw[(Walks.range (prog:=X.prog) (w:=X.w) (I.ok.hd y) it lo c n).item i s _ _ C st λv j tk ⟨t,Y⟩ M S=>?_];subst Y;have T:Zb X pins O H {s with heap:=j,toks:=tk}:=I.turned (λb o f e=>S b o (by simpa using f) e) L J u G D;exact⟨_,R,K3 (s:={s with heap:=j,toks:=tk}) (n := "range_iterator") M R R () ⟨.int (lo+i*c),H,T,⟨t,R⟩,⟨R,R⟩,M,λb f=>(g b f).1⟩⟩
 done:=by
  intro X E x B y i pins s O H a0 I g st C;subst E x B;obtain⟨L,J,U,u,G,D⟩:=g it (by simp);exact wpAny_pyNext_range_end (I.ok.hd y) st (by have:n<=i:=C;lia) λj Z=>⟨R,I.turned (t':=s.toks) (λb o f e=>Z b o f e) L J u G D⟩
 self:=λ_ _ _ _ _ st h=>wpAny_pyIter_rangeiter st h
def LA(h:0<=i)(c:i<2 ^ 62):Builtin.Range.rangeFitsLong i=true:=by
 unfold Builtin.Range.rangeFitsLong;rw[SR (show -(2 ^ 63)<=i by lia),SR (show i<2 ^ 63 by lia)];rfl
def Zkj(z:Builtin.Range.rangeSize 0 b 3=n)(h:0<=b/\b<2 ^ 61/\0<=n/\n<2 ^ 62):Builtin.Range.small 0 b 3=true:=by
 unfold Builtin.Range.small;rw[z,SW (),LA (i:=0) () (),LA (i:=b) () (),LA (i:=3) () (),LA (i:=n) () (),LA (i:=b+(3 - 1)) () ()];simp
section
variable{tg:Expr}
inductive Zkk(R:It->Hp->Prop)(vs:List V)(H1:Hp):Prop|mk (m:Nat) (_:vs=[.int 0,.int (3*m:Nat),.int 3]) (_:m<2 ^ 20) (_:R (Lz 0 3 m) H1)
def Zkl(i:TA):TI:=λg H h=>i g H λc f=>Zkk h c f
def Zkm(E:Gl X "range") (hm:X.mg "range"=none) (ha:PA X [a,b,c] n) (B:starEach [a,b,c] X.env=[(false,eval a X.env),(false,eval b X.env),(false,eval c X.env)]:=by rfl) (j:starEach [b,c] X.env=[(false,eval b X.env),(false,eval c X.env)]:=by rfl) :
  PI X tg (.Call (.Name "range" p) [a,b,c] [] u) (Zkl n):=by
 intro pins s x H M I h;erw[Call_ (VN I E hm boot_range (PyProof.Rows.callWith_type1 (ZA (ha u pins s x H _ I h) λL i ⟨O,v,C,r1,y⟩=>?_) (by rw[B,j]) (by rw[j];rfl)))];ext⟨m,rfl,hm,q⟩ y;cases r1 with
 |cons r f =>
  cases f with
  |cons D f =>
   cases f with
   |cons G f =>
    cases f;ext⟨t,rfl⟩ r;ext⟨t',rfl⟩ D;ext⟨t2,rfl⟩ G;erw[call_range_3 () ?_ (.inl (PyProof.noPylong_small ()))];have z:Builtin.Range.rangeSize 0 (3*m:Nat) 3=(m:Int):=by
     unfold Builtin.Range.rangeSize;rw[SW ()];split<;>omega
    erw[wpAny_pyIter_range (IsRange.new ..) ?_ ?_];exact Zkj z ();have g:=C.kept (t':=i.toks) (h':=i.heap.push {cls:=.type "range",data:=.fields #[.int 0 t,.int (3*m:Nat) t',.int 3 t2]}) λb o e=>Sc _ e;erw[⟨_,[_],_,_,v,R,g.kept (t':=i.toks) λb o e=>Sc _ e,Zki _ 0 3 m,?_,λb J=>?_,q⟩];show IsRangeIter _ _ (0+((0:Nat):Int)*3) ((m:Int) - ((0:Nat):Int)) 3;rw[show(0:Int)+((0:Nat):Int)*3=0 by rfl,show(m:Int) - ((0:Nat):Int)=Builtin.Range.rangeSize 0 (3*m:Nat) 3 by rw[z];lia];exact Sd _ R;rw[SF.mp J];exact g.fpOk (Sg _) (g.hok.fresh (Sg _))
end
def Zkn{lo c:Int}{n:Nat}{g:TG}{M:TT}{L:TE}{P:St}{Q:VK}(u:Nat->List V->St->Hp->Prop)(S:u 0 [] P H)(hz:n<=sizeLine)
  (T:∀i f v H,i<n->f.length<=i->u i f v H->g (.int (lo+i*c)) v H λj J=>M j J λb E=>if b=true then L j E λy G=>(f++[y]).length<=i+1/\u (i+1) (f++[y]) j G else f.length<=i+1/\u (i+1) f j E)
  (hd:∀f v H,f.length<=n->u n f v H->Wd Q f H) :
  ∃W:Nat->Nat->List V->St->Hp->Prop,(∃m,W 0 m [] P H)/\∀i m f D H,W i m f D H ->
   ((Lz lo c n).stop i H/\Wd Q f H) \/
   ((Lz lo c n).go i H/\f.length<sizeLine/\∃N:List V->St->Hp->Prop,(∀B C h,N B C h->∃O,O<m/\W (i+1) O B C h)/\∀x h,(Lz lo c n).yld i H x h->g x D h λj J=>M j J λb E=>if b=true then L j E λy G=>N (f++[y]) j G else N f j E):=by
 erw[⟨λi m f v H=>m=n - i/\i<=n/\f.length<=i/\u i f v H,⟨n,by simp,Sk _,Sk _,S⟩,?_⟩];rintro i m f D H ⟨rfl,U,ha,p⟩;by_cases I:i<n;erw[.inr ⟨I,(),λB C h=>B.length<=i+1/\u (i+1) B C h,λB C h z=>⟨n - (i+1),(),R,I,z.1,z.2⟩,λx h ⟨e,y⟩=>?_⟩];subst e y;exact T i f D _ I ha p;obtain rfl:i=n:=by lia
 exact .inl ⟨Sg _,hd f D H ha p⟩
inductive Zko(K:Oy)(neg:Bool)(x:V)(y:V)(H:Hp)(Q:VK):Prop|mk l b xs (_:x=.ref l) (_:y=.ref b) (_:Zd K H l xs) (_:Zd K H b []) (_:Q (.bl (if neg then !xs.isEmpty else xs.isEmpty)) H)
def Zkp(g:X.A.units<cLine):YD X (compareOp .NotEq) (Zko X.K true):=by
 intro pins s M H x y v u Q I L D h;ext⟨l,b,E,rfl,rfl,C,B,q⟩ h;cases L;cases D;obtain⟨S,r,i,_⟩:=I.list C;obtain⟨P,J,n,_⟩:=I.list B;have c:=r.length;have f:=J.length;cases E with
 |nil =>
  erw[SeqAt.RcNeAt.lists (e:=λj=>XU (([]:List V).getD j .non) (([]:List V).getD j .non)) i.isList n.isList (by simp;simp at c f;lia) g (λj G _=>by simp at G c;lia) _ _ _ _ ?_];rw[SO,<-c,M0 [] [] R];exact⟨.bl _,H,I,R,q⟩
 |cons x O =>
  erw[SeqAt.RcNeAt.lists_lengths i.isList n.isList (by simp;simp at c f;lia) g _ _ _ _ ?_];exact⟨.bl _,H,I,R,q⟩
def LB(z:Str):It:=⟨λi _=>i<z.cps.size,λi H x f=>f=H/\∃c,z.cps.toList[i]? = some c/\x=.str ⟨#[c]⟩,λi _=>i=z.cps.size⟩
def Zbb{T:Expr}(z:Str)(t:Tok)(it:Addr)(ty:String)(b0:["enumerate","zip","dict_itemiterator","dict_reverseitemiterator","odict_iterator","itertools.zip_longest","itertools.pairwise"].contains ty=false)
  (W:∀A:Around,A.handled=none->Walks P w A it [it] [it] z.cps.size (SignAt z) (λi h=>h.IsStrIter it ty z t i))
  (S:∀(A:Around) (i:Nat) (s:Shared) (Q:Ov) (E:Ov),s.heap.IsStrIter it ty z t i->Q (.ref it) s->wpAny (model P w) A (pyIter (.ref it)) Q E s):Uv P w K T (LB z) [it] it (λi h=>h.IsStrIter it ty z t i) where
 mem:=by simp
 obj:=λi h st b f=>by
  have e:b=it:=by simpa using f
  subst e;ext⟨o,e,c,d⟩ st;exact⟨o,e,λa0 z=>by rw[d]at z;cases z⟩
 keep:=λi h u st k=>let ⟨o,ho,r⟩:=st;⟨o,k it (by simp) o ho,r⟩
 item:=by
  intro X j x B y i pins s O H E I n st g;subst j x B;obtain⟨J,G,Z,v,D,C⟩:=n it (by simp);erw[(W X.A (I.ok.hd y)).item i s _ E g st λa0 u tk j M L=>?_];ext⟨c,c0,U,rfl⟩ j;have Y:Zb X pins O H {s with heap:=u,toks:=tk}:=I.turned (t':=tk) (λb o f e=>L b o (by simpa using f) e) J G v D C;obtain⟨o,e,c',d⟩:=id M;exact⟨_,R,K3 (s:={s with heap:=u,toks:=tk}) e c' d b0 ⟨.str ⟨#[c]⟩,H,Y,⟨c0,R⟩,⟨R,c,by simpa using U,R⟩,M,λb f=>(n b f).1⟩⟩
 done:=by
  intro X j x B y i pins s O H E I n st g;subst j x B;obtain⟨J,G,Z,v,D,C⟩:=n it (by simp);have g:i=z.cps.size:=g;subst g;exact(W X.A (I.ok.hd y)).done s _ E st λu tk L=>⟨R,I.turned (t':=tk) (λb o f e=>L b o (by simpa using f) e) J G v D C⟩
 self:=λA i s Q E st h=>S A i s Q E st h
inductive Zkq(R:It->Hp->Prop)(x:V)(H1:Hp):Prop|mk z (_:x=.str z) (_:R (LB z) H1)
def Zkr(f:TE):TI:=λg H h=>f g H λx c=>Zkq h x c
def Zks{y l:Expr}{n:TE}(D:PE X l n):PI X y l (Zkr n):=by
 intro pins s B H G I h;erw[ZA (D pins s B H _ I h) λv c ⟨x,j,f,r1,z,e,q⟩=>?_];subst e;ext⟨t,rfl⟩ r1;have u:∀b∈[c.heap.objs.size],VA X pins j b:=λb C=>by
  have e:b=c.heap.objs.size:=by simpa using C
  subst e;exact f.fpOk (Sg _) (f.hok.fresh (Sg _))
 cases ha:z.cps.all (· < 128);erw[wpAny_pyIter_wide ha ?_];exact⟨c.heap.objs.size,[c.heap.objs.size],_,_,j,R,f.kept (t':=c.toks) λb o e=>Sc _ e,Zbb z t _ "str_iterator" () (λA g=>Walks.strWide g _ z t) (λA i s Q E st h=>wpAny_pyIter_striter_wide st h),⟨_,Sd _ R,R,R⟩,u,q⟩;erw[wpAny_pyIter_ascii ha ?_];exact⟨c.heap.objs.size,[c.heap.objs.size],_,_,j,R,f.kept (t':=c.toks) λb o e=>Sc _ e,Zbb z t _ "str_ascii_iterator" () (λA g=>Walks.strAscii g _ z t) (λA i s Q E st h=>wpAny_pyIter_striter_ascii st h),⟨_,Sd _ R,R,R⟩,u,q⟩
def Zkt{z:Str}{g:TG}{J:TT}{I:TE}{O:St}{Q:VK}(n:Nat->List V->St->Hp->Prop)(P:n 0 [] O H)(hz:z.length<=sizeLine)
  (S:∀i c f u H,f.length<=i->z.cps.toList[i]? = some c->n i f u H->g (.str ⟨#[c]⟩) u H λj G=>J j G λb D=>if b=true then I j D λy E=>(f++[y]).length<=i+1/\n (i+1) (f++[y]) j E else f.length<=i+1/\n (i+1) f j D)
  (hd:∀f u H,f.length<=z.cps.size->n z.cps.size f u H->Wd Q f H) :
  ∃W:Nat->Nat->List V->St->Hp->Prop,(∃m,W 0 m [] O H)/\∀i m f C H,W i m f C H ->
   ((LB z).stop i H/\Wd Q f H) \/
   ((LB z).go i H/\f.length<sizeLine/\∃N:List V->St->Hp->Prop,(∀v B h,N v B h->∃L,L<m/\W (i+1) L v B h)/\∀x h,(LB z).yld i H x h->g x C h λj G=>J j G λb D=>if b=true then I j D λy E=>N (f++[y]) j E else N f j D):=by
 erw[⟨λi m f u H=>m=z.cps.size - i/\i<=z.cps.size/\f.length<=i/\n i f u H,⟨z.cps.size,by simp,Sk _,Sk _,P⟩,?_⟩];rintro i m f C H ⟨rfl,U,ha,p⟩;have hz:z.cps.size<=sizeLine:=hz;by_cases M:i<z.cps.size;erw[.inr ⟨M,(),λv B h=>v.length<=i+1/\n (i+1) v B h,λv B h z=>⟨_,(),R,M,z.1,z.2⟩,λx h y=>?_⟩];ext⟨e,c,T,y⟩ y;subst e y;exact S i c f C _ ha T p;have e:i=z.cps.size:=by lia
 subst e;exact .inl ⟨R,hd f C H ha p⟩
structure ZqC(N:OD)(scope:Scope)(cl:Oz)(vs:List V)(cs:Addr->Option Obj):Prop where
 len:vs.length=N.length
 val:∀(i:Nat) (x:Str) (v:V),N[i]? = some x->vs[i]? = some v->∃c o u,cl.lookup x=some c/\cs c=some o/\o.data=.cell (some u)/\ZP v u
 cell:∀x c,cl.lookup x=some c->∃o v,cs c=some o/\o.data=.cell v
 inj:∀x y c,cl.lookup x=some c->cl.lookup y=some c->x=y
 has:∀x,(scope.names.lookup x=some .cell\/scope.names.lookup x=some .free)->∃c,cl.lookup x=some c
 fre:∀x∈N,scope.names.lookup x=some .free
 dat:∀b o,cs b=some o->∃v,o.data=.cell v
structure ZqD(FN:List (Str×Nat))(cl:Oz)(cs:Addr->Option Obj)(σ:St)(H:Hp):Prop where
 free:∀b o,cs b=some o->H b=none/\∃v,o.data=.cell v
 cell:∀x c,cl.lookup x=some c->∃o v,cs c=some o/\o.data=.cell v
 val:∀p∈FN,∀v,σ[p.2]? = some (some v)->∃c o u,cl.lookup p.1=some c/\cs c=some o/\o.data=.cell (some u)/\ZP v u
theorem on0{c:Type}{P:List c->Prop}(h:P []):∀us:List c,us.length=0->P us
 |[],_=>h
theorem ZZ{c:Type}{P:List c->Prop}(h:∀a0,P [a0]):∀us:List c,us.length=1->P us
 |[a0],_=>h a0
theorem YN{f:Type}{P:List f->Prop}(h:∀a0 c,P [a0,c]):∀us:List f,us.length=2->P us
 |[a0,c],_=>h a0 c
theorem UI{g:Type}{P:List g->Prop}(h:∀a0 f c,P [a0,f,c]):∀us:List g,us.length=3->P us
 |[a0,f,c],_=>h a0 f c
theorem LC{i:Type}{P:List i->Prop}(h:∀a0 g f c,P [a0,g,f,c]):∀us:List i,us.length=4->P us
 |[a0,g,f,c],_=>h a0 g f c
theorem on5{j:Type}{P:List j->Prop}(h:∀a0 i f g c,P [a0,i,f,g,c]):∀us:List j,us.length=5->P us
 |[a0,i,f,g,c],_=>h a0 i f g c
section
variable{σ:St}
def Zb.refit(I:Zb X pins σ H s)(e:H d=some v)(nt:∀xs,v≠.tup xs)(j:∀g,v≠.tbl g)(no:∀x,v≠.own x)(nf:∀o u,X.H₀ d≠some (.frz o u))(ok:Yq X.prog X.w H s.heap d u):Zb X pins σ (upd H d u) s:=by
 have ne:∀b,H b=none->b≠d:=λb n z=>by rw[z,e]at n;cases n
 have tup:∀b xs,H b=some (.tup xs)->upd H d u b=some (.tup xs):=λb xs q=>by
  rwa[Zm λz=>by rw[z,e]at q;exact nt xs (So q)]
 have own:∀b x,H b=some (.own x)->upd H d u b=some (.own x):=λb x q=>by
  rwa[Zm λz=>by rw[z,e]at q;exact no x (So q)]
 erw[⟨I.ok,I.os,I.bare,⟨I.base.keep,I.base.slot,λb o q n y=>?_,I.base.there,λb xs q=>tup b xs (I.base.tups b xs q),λb o w q=>?_,λb g q=>?_⟩,I.loc,I.cell,?_,λx c q=>?_,λp B=>?_,λb w q=>?_,I.len⟩];have:=I.base.free b o q n y;rw[Zm (ne b this)];exact this;have z:b≠d:=λz=>nf o w (by rwa[<-z]);rw[Zm z];exact I.base.frzs b o w q;obtain⟨more,f⟩:=I.base.tbls b g q;exact⟨more,by rwa[Zm λz=>by rw[z,e]at f;exact j _ (So f)]⟩;rw[Zm (ne _ I.free)];exact I.free;rw[Zm (ne _ (I.freeC x c q))];exact I.freeC x c q;obtain⟨D,i,C⟩:=I.pin p B;exact⟨D,by rwa[Zm (ne _ i)],C⟩;by_cases h:b=d;subst h;rw[Zi]at q;obtain rfl:=So q;exact ok.stay (λ_ _ _ q=>q) (λc q=>own c _ q) tup;rw[Zm h]at q;exact(I.hok b w q).stay (λ_ _ _ q=>q) (λc q=>own c _ q) tup
def Nq(u:HO):Prop:=(∃c,u=.dK c)\/∃c,u=.dT c
def Nq.nt(h:Nq u):(∀xs,u≠.tup xs)/\(∀c,u≠.tbl c)/\(∀x,u≠.own x)/\∀o v,u≠.frz o v:=by
 rcases h with⟨_,rfl⟩|⟨_,rfl⟩<;>exact⟨(),(),(),()⟩
def Zb.freeze(I:Zb X pins σ H s)(e:H d=some u)(c:Nq u):∃o,Zb X pins σ (upd H d (.frz o u)) s/\∀o u,X.H₀ d≠some (.frz o u):=by
 ext⟨f,g,j,h⟩ c.nt;have nf:∀o u,X.H₀ d≠some (.frz o u):=λo v q=>by
  have:=I.base.frzs d o v q;rw[e]at this;exact h _ _ (So this)
 have ok:=I.hok d u e;obtain⟨o,i⟩:∃o,s.heap.get? d=some o:=by
  rcases c with⟨_,rfl⟩|⟨_,rfl⟩;ext⟨_,_,_,_,o,_,_,q,_⟩ ok;exact⟨o,q⟩;ext⟨_,_,_,_,o,_,_,q,_⟩ ok;exact⟨o,q⟩
 exact⟨o,I.refit e f g j nf ⟨i,ok⟩,nf⟩
def Zb.thaw(I:Zb X pins σ H s)(e:H d=some (.frz o u))(nf:∀o u,X.H₀ d≠some (.frz o u)):Zb X pins σ (upd H d u) s :=
 I.refit e () () () nf (I.hok d _ e).2
inductive Zku(t:TS)(D:X8)(σ:St)(H:Hp):Prop|mk d u (_:H d=some u) (_:Nq u) (_:∀o,t {nx:=λσ' H'=>H' d=some (.frz o u)/\D.nx σ' (upd H' d u),rt:=λv H'=>H' d=some (.frz o u)/\D.rt v (upd H' d u),bk:=λσ' H'=>H' d=some (.frz o u)/\D.bk σ' (upd H' d u),ct:=λσ' H'=>H' d=some (.frz o u)/\D.ct σ' (upd H' d u)} σ (upd H d (.frz o u)))
def U7{st:Stmt}{t:TS}(h:PS X st t):PS X st (Zku t):=by
 intro pins s σ H D I q;ext⟨d,u,e,x,q⟩ q;obtain⟨o,y,nf⟩:=I.freeze e x;erw[ZA (h pins s σ _ _ y (q o)) λf C r=>?_];cases f with
 |next=>ext⟨g,n,c,j,i⟩ r;exact⟨g,_,c.thaw j nf,i⟩
 |cont=>ext⟨g,n,c,j,i⟩ r;exact⟨g,_,c.thaw j nf,i⟩
 |brk=>ext⟨g,n,c,j,i⟩ r;exact⟨g,_,c.thaw j nf,i⟩
 |ret v=>ext⟨B,g,n,c,r1,j,i⟩ r;exact⟨B,g,_,c.thaw j nf,r1,i⟩
end
def Zkv(h:(XR P w).is k u=true):ZP (kV k) u:=by
 cases k with
 |inl i=>exact Value.isInt_shape h
 |inr z=>exact Value.isStrOf_shape h
theorem KV.at(r:KV f vs):∀{i:Nat} {c:ZD×V},f[i]? = some c->∃u,vs[i]? = some (c.1,u)/\ZP c.2 u:=by
 induction r with
 |nil=>intro i c e;cases e
 |@cons a b j n h _ g =>
  intro i c e;cases i with
  |zero =>
   obtain rfl:=So e;exact⟨b.2,by rw[List.getElem?_cons_zero,h.1],h.2⟩
  |succ i =>
   rw[List.getElem?_cons_succ]at e;obtain⟨u,x,y⟩:=g e;exact⟨u,by rwa[List.getElem?_cons_succ],y⟩
def Uj(d:Addr)(ob:Obj)(c:List (ZD×V)):It :=
 ⟨λi H=>H d=some (.frz ob (.dK c))/\i<c.length,λi H v g=>∃p f,H p=none/\c[i]? = some f/\v=.ref p/\g=upd H p (.tup [kV f.1,f.2]),λi H=>H d=some (.frz ob (.dK c))/\c.length<=i⟩
def RO{ob:Obj}(I:Zb X pins u H s)(e:H d=some (.frz ob (.dK i))) :
  (d==sysModules)=false/\∃vs c f,KV i vs/\s.heap.DictAt (XR X.prog X.w) d vs c/\ob.data=.dict f c:=by
 obtain⟨h,x,n,vs,v,o,f,c,j,r1,g,r3⟩:=I.hok d _ e;rw[h]at j;obtain rfl:=So j;exact⟨n,vs,c,f,v,⟨_,f,h,r1,g,r3⟩,g⟩
def Zkw{f:OE}{k:Nat}{f0:Pos}(d it:Addr)(ob:Obj)(v:List (ZD×V))(l0:d≠it) :
  Uv P w K (.Tuple f k f0) (Uj d ob v) [it] it (λi h=>∃g f ok n,IsItemIter h it d i v.length g ok n/\ob.data=.dict f g) where
 mem:=by simp
 obj:=λi h st b j=>by
  ext⟨g,f,ok,n,c,_⟩ st;rw[SF.mp j];exact⟨_,c,λk0 z=>by cases z⟩
 keep:=λi h h' st kk=>by
  ext⟨g,f,ok,n,c,hd⟩ st;exact⟨g,f,ok,n,kk it (by simp) _ c,hd⟩
 item:=by
  intro h0 O D L U i pins s σ i0 E I Q st M;subst O D L;ext⟨g,f,ok,n,c,hd⟩ st;ext⟨C,Z⟩ M;obtain⟨hs,J,H,G,B,hm,u⟩:=RO I C;rw[hd]at u;obtain⟨rfl,rfl⟩:f=G/\g=H:=by injection u with a b;exact⟨a,b⟩
  have hlen:J.length=v.length:=(Paired.length B).symm;obtain⟨x,S⟩:∃x,v[i]? = some x:=⟨_,Ss Z⟩;obtain⟨e0,hu,ru⟩:=KV.at B S;rw[<-hlen]at c;erw[wpAny_pyNext_items_item c hm hu λd0 h1 b0 ho hT j0 hk=>⟨_,R,?_⟩];erw[wpAny_letOwnedTupleGo_items (s:={s with heap:=h1}) ho λX g0 T=>?_];have c0:it<s.heap.objs.size:=Se c;have a0:X.get? s.heap.objs.size=some {cls:=.type "tuple",data:=.seq #[d0,e0]}:=(T.2 _ (Nat.ne_of_gt c0)).trans hT;obtain⟨I2,n2⟩:=I.paired (t':=s.toks) (fp:=[it]) (x:=kV x.1) (y:=x.2) (h':=X) Q (λb j=>by
   rw[SF.mp j];exact⟨_,c⟩) (λb o j q=>by
   have Y:b≠it:=λz=>j (by simp[z]);exact(T.2 b Y).trans (hk b o Y q)) a0 (Zkv b0) ru
  erw[⟨.ref s.heap.objs.size,_,I2,R,⟨_,x,I.hok.fresh (Sg _),S,R,R⟩,⟨g,f,_,_,by rwa[<-hlen],hd⟩,n2⟩]
 done:=by
  intro h0 O D L U i pins s σ i0 E I Q st M;subst O D L;ext⟨g,f,ok,n,c,hd⟩ st;ext⟨C,Z⟩ M;obtain⟨hs,J,H,G,B,hm,u⟩:=RO I C;rw[hd]at u;obtain⟨rfl,rfl⟩:f=G/\g=H:=by injection u with a b;exact⟨a,b⟩
  have hlen:J.length=v.length:=(Paired.length B).symm;rw[<-hlen]at c;exact wpAny_pyNext_items_end (I.ok.hd U) c hm (List.getElem?_eq_none ()) λh' eb=>⟨R,I.turnedL (t':=s.toks) (fp:=[it]) (λb o j q=>eb b o (λz=>j (by simp[z])) q) Q⟩
 self:=λA i s m0 E st h=>by
  ext⟨g,f,ok,n,c,_⟩ st;exact W.kcp_self c h
inductive Zkx(R:It->Hp->Prop)(x:V)(H1:Hp):Prop|mk d ob kvs (_:x=.ref d) (_:H1 d=some (.frz ob (.dK kvs))) (_:R (Uj d ob kvs) H1)
def Zky(f:TE):TI:=λg H h=>f g H λx c=>Zkx h x c
def U8{M:OE}{k:Nat}{tp:Pos}{o:Expr}{n:TE}{apos v:Pos}(P:PE X o n)(Q:attributeBase o "items" X.env (eval o X.env)=eval o X.env:=by rfl) (T:(apos.endLine==v.line)=true:=by rfl) :
  PI X (.Tuple M k tp) (.Call (.Attribute o "items" apos) [] [] v) (Zky n):=by
 intro pins s y H R I h;erw[wpAny_Call_method0_late Q T (ZA (P pins s y H _ I h) λa0 c ⟨c0,x,f,r1,D⟩=>?_)];ext⟨d,ob,i,rfl,hd,q⟩ D;cases r1;obtain⟨G,j,S,E,L,hm,Z⟩:=RO f hd;obtain⟨Y,d0,O,B,b0,_⟩:=id hm;erw[⟨"dict","dict.items",PySem.F.plainAttrs_dict,PySem.F.slot_dict_items,PySem.F.type_dict_items,hm.dictOf.typeIs,λa e=>by cases e;exact⟨Y,O,B.2.1⟩,Calls.callWith_builtin rfl (PySem.evalArgs_none ?_)⟩];erw[call_meetsIn PySem.F.slot_dict_items hm.dictOf.typeIs PySem.F.entry_dict_items (PySem.F.args_dict_items_1 _) (meets_dict_items (XR X.prog X.w) d G) ⟨⟨j,hm.dictOf⟩,?_⟩];have C:=hm.push {cls:=.type "dict_items",data:=.fields #[.ref d]};erw[wpAny_pyIter_items (s:={c with heap:=c.heap.push {cls:=.type "dict_items",data:=.fields #[.ref d]} }) ⟨_,Sd _ rfl,rfl,rfl⟩ C ?_];have hlen:j.length=i.length:=(Paired.length L).symm;have J:d<c.heap.objs.size:=hm.lt_size;have g:(c.heap.push {cls:=.type "dict_items",data:=.fields #[.ref d]}).objs.size=c.heap.objs.size+1:=by simp[Heap.push]
 erw[⟨(c.heap.push {cls:=.type "dict_items",data:=.fields #[.ref d]}).objs.size,[(c.heap.push {cls:=.type "dict_items",data:=.fields #[.ref d]}).objs.size],_,_,x,rfl,f.kept (t':=c.toks) (λb o e=>Sc _ (Sc _ e)),Zkw d _ ob i (by rw[g];exact Sf (Sn J)),⟨S,E,_,_,by rw[<-hlen];exact Sd _ rfl,Z⟩,λb U=>?_,q⟩];have u:c.heap.objs.size<=b:=by rw[SF.mp U,g];exact Nat.le_succ _
 exact f.fpOk u (f.hok.fresh u)
def Q7{d:Addr}{ob:Obj}{f:List (ZD×V)}{g:TG}{E:TS}{D:X8}{c:St}(h:Nat->St->Hp->Prop)(J:h 0 c H)(P:∀i c H,i<=f.length->h i c H->H d=some (.frz ob (.dK f)))
  (L:∀i u p c H,f[i]? = some u->H p=none->h i c H->g (.ref p) c (upd H p (.tup [kV u.1,u.2])) λB C=>E {D with nx:=h (i+1),ct:=h (i+1),bk:=D.nx} B C) (hd:∀c H,h f.length c H->D.nx c H) :
  ∃W:Nat->Nat->St->Hp->Prop,(∃m,W 0 m c H)/\∀i m c H,W i m c H ->
   ((Uj d ob f).stop i H/\D.nx c H)\/((Uj d ob f).go i H/\∃N:St->Hp->Prop,(∀v j,N v j->∃G,G<m/\W (i+1) G v j)/\∀x j,(Uj d ob f).yld i H x j->g x c j λB C=>E {D with nx:=N,ct:=N,bk:=D.nx} B C):=by
 erw[⟨λi m c H=>m=f.length - i/\i<=f.length/\h i c H,⟨f.length,by simp,Sk _,J⟩,?_⟩];rintro i m c H ⟨rfl,O,p⟩;have q:=P i c H O p;by_cases I:i<f.length;erw[.inr ⟨⟨q,I⟩,h (i+1),λv j n=>⟨f.length - (i+1),(),R,I,n⟩,λx j y=>?_⟩];ext⟨a,u,ha,M,rfl,rfl⟩ y;exact L i u a c H M ha p;have e:i=f.length:=by lia
 subst e;exact .inl ⟨⟨q,Sg _⟩,hd c H p⟩
open PySem PySem.Spec PyProof.Rows PySem.W
def Zbc{g:List (ZD×V)}(x:Yq P w H h d (.dK g)):g.length<=sizeLine/\(d==sysModules)=false/\∃c f,VE h d c f/\ZG (g.map (·.2)) (c.toList.map (·.val)):=by
 ext⟨i,u,v,rel,o,c,f,e,ex,j,_,pr,nd⟩ x;erw[⟨i,u,c,f,⟨o,e,ex,j⟩,?_⟩];generalize c.toList=l at pr;clear j ex e i nd;induction rel generalizing l with
 |nil=>cases pr;exact .nil
 |cons a _ n=>cases pr with|cons _ ev r=>exact .cons (by dsimp only;rw[ev];exact a.2) (n _ r)
def RP:Qs X "dict.values" (λx vs H Q=>∃d c,x=.ref d/\vs=[]/\H d=some (.dK c)/\∀v,H v=none->Q (.ref v) (upd H v (Np v d))):=by
 intro pins s B H x vs v E Q I g j h;ext⟨d,c,rfl,rfl,hd,q⟩ h;cases g;cases j;obtain⟨G,y,D,C,f,_⟩:=Zbc (I.hok d _ hd);have n:EP X pins B Q (.ref s.heap.objs.size) {s with heap:=s.heap.push {cls:=.type "dict_values",data:=.fields #[.ref d]} }:=by
  have i:=I.laid (a:=s.heap.objs.size) (o:=Np s.heap.objs.size d) (t':=s.toks) (h':=s.heap.push {cls:=.type "dict_values",data:=.fields #[.ref d]}) (λb u e=>Sc _ e) (Sg _) (Zj2 ⟨_,Sd _ R,R,R⟩);exact⟨.ref _,_,i,R,q _ (I.hok.fresh (Sg _))⟩
 erw[wpAny_call_entry F.slot_dict_values f.typeIs F.entry_dict_values ?_ (F.args_dict_values_1 _)];unfold Builtin.«dict.values»;apply Sa;unfold Builtin.Dict.noArgs;apply Sa;erw[wpAny_notOrdered_dict f.typeIs ?_];show wpAny _ _ (pure d) _ _ s;apply Sb;show wpAny _ _ (Builtin.Dict.showsAll d >>= _) _ _ s;unfold Builtin.Dict.showsAll;rw[SV (by rw[y];exact SQ)];apply Sa;apply Sb;apply Sa;erw[wpAny_newObj_type ?_];apply Sb;exact⟨_,R,n⟩
def RQ(D:X.calm=true):Xk X (.type "list") (λxs H Q=>∃v d c,xs=[.ref v]/\H v=some (Np v d)/\H d=some (.dK c)/\∀l,H l=none->Q (.ref l) (upd H l (.lst (c.map (·.2))))):=by
 intro pins s U H xs Y Q I r h;ext⟨v,d,c,rfl,L,hd,q⟩ h;obtain⟨u,rfl,M⟩:=Xm r;cases M;have G:s.heap.IsValuesView v d:=(I.hok v _ L).1;obtain⟨S,Z,f,ep,x,vals⟩:=Zbc (I.hok d _ hd);have hn:f.size=c.length:=by have:=vals.length;rw[Sv,Sv,Array.length_toList]at this;exact this.symm
 erw[kdl_call Zj1 (I.ok.hd D) ⟨G,x⟩ () λP tk C T kp e n=>?_];ext⟨g⟩ C;have E:g=f.toList.map (·.val):=by
  apply List.ext_getElem;have:=n.1;rw[Sv,Array.length_toList];simpa using this;intro j J i;obtain⟨O,y,B⟩:=n.2 j g[j] (by simp[J]);rw[List.getElem_map,<-B];have:f.toList[j]? = some O:=by rwa[Array.getElem?_toList]
  rw[Ss (by rw[Sv]at i;exact i)]at this;rw[So this]
 subst E;exact⟨.ref s.heap.objs.size,_,I.laid (t':=tk) kp (Sg _) (show Yq X.prog X.w _ P _ (.lst (c.map (·.2)))from⟨by rwa[Sv],_,T,vals,e⟩),R,q _ (I.hok.fresh (Sg _))⟩
def Zkz:entryFor table "proto.unchain"=some Builtin.«proto.unchain»:=entryFor_of_tree (by kernel_rfl)
def ZkA{c:Type}{a e:Addr}{ob:Obj}{vs:Array Value}{Q:c->Shared->Prop}(g:A.handled=some (.ref a))(ne:a≠e)(u:Wc s.heap a)
  (f:s.heap.get? e=some ob) (hd:ob.data=.fields vs) (n:2<vs.size) (h:E (.ref e) {s with heap:=s.heap.update e (Obj.mapFields (·.setIfInBounds 2 (.ref a)))}) :
  wpAny (model prog w) A (raiseNew (.ref e):Sem c) Q E s:=by
 ext⟨v,x,ha,i,j⟩ u;unfold raiseNew;erw[Sa (wpAny_handled ?_)];rw[g];dsimp only;rw[SW (show(Value.ref a != Value.ref e)=true by simp[ne])];erw[Sa (wpAny_holding (wpAny_runValue (codeAny_builtin Zkz ?_)))];unfold Builtin.«proto.unchain»;dsimp only;erw[Sa (wpAny_field ha i j ?_)];rw[SW (by rfl)];erw[Sb ?_];erw[Sa ?_];unfold updateField;erw[Sa (Oq f ?_)];rw[hd];dsimp only;rw[SW n];erw[wpAny_update f ?_];exact wpAny_throw h
section
variable{env:Env}
variable{nm q:Str}{C N:Addr}{bs bm:OC}{hdct:Bool}{sn:OD}{sub:OC}{ab:Bool}{col:Option Bool}{dd:OG}{k0 k1 k2 k3 k5:Option Value}{newId:String}
def F3(h:Heap)(e a:Addr):Heap:=((h.update e (Obj.mapFields (·.setIfInBounds 3 .none))).update e (Obj.mapFields (·.setIfInBounds 4 (.bool true)))).update e (Obj.mapFields (·.setIfInBounds 2 (.ref a)))
def ZkB{P:Pos}(L:bm.contains (.type "BaseException")=true) (y:A.handled=some (.ref a))
  (h:wpAny (model prog w) A x (λv c=>∃e t,v=.ref e/\c.heap.get? C=some (excClassObj nm q C N bs bm hdct sn sub ab col dd k0 k1 k2 k3 k5 newId)/\C≠e/\a≠e/\Wc c.heap a /\
   c.heap.get? e=some {cls:=.ref C,data:=.fields #[.ref t,.none,.none,.none,.bool false,.none]}/\E (.ref e) {c with heap:=F3 c.heap e a}) E s) :
  wpAny (model prog w) A (raiseStmt env (some x) (some (do let v <-(pure .none:Sem Value);standAt P;pure v))) Q E s:=by
 have D:(Value.ref C::bm).contains (.type "BaseException")=true:=by rw[List.contains_cons,L,Bool.or_true]
 unfold raiseStmt;erw[Sa (Os h (λv c M=>?_) λ_ _ x=>x)];ext⟨e,t,rfl,n,T,f,I,j,O⟩ M;ext⟨U,g,d,tk,os⟩ c
 repeat (first|with_reducible refine wpAny_loadPart_at j ?_|with_reducible refine wpAny_loadPart_at n ?_|(with_reducible erw[wpAny_isSubtype_exc n ?_];rw[D])|wp_step)
 have J:({cls:=.ref C,data:=.fields #[.ref t,.none,.none,.none,.bool false,.none]}:Obj).data=.fields #[.ref t,.none,.none,.none,.bool false,.none]:=rfl;have u:=Obj.data_mapFields J (·.setIfInBounds 3 Value.none);have i:=Obj.data_mapFields u (·.setIfInBounds 4 (Value.bool true));have B:=Heap.get?_update_self (Obj.mapFields (·.setIfInBounds 3 Value.none)) j (Obj.isFreed_of_fields u);have S:=Heap.get?_update_self (Obj.mapFields (·.setIfInBounds 4 (Value.bool true))) B (Obj.isFreed_of_fields i);erw[ZkA y f ?_ S i (by simp) O];ext⟨G,H,ha,r⟩ I;exact⟨G,H,(Heap.get?_update_other _ _ (Ne.symm f)).trans ((Heap.get?_update_other _ _ (Ne.symm f)).trans ha),r⟩
def ZkC{X : String}(F:ExcBaseFacts B newId X D){P:Nat}{args:OE}
  (Y:bm.contains (.type "BaseException")=true) (H:A.handled=some (.ref a)) (O:(backTo i (starEach args env)).any (·.1)=false) (a0:mN "__init__"=none)
  (h:wpAny (model prog w) A (eval (.Name x np) env) (λf G=>f=.ref C/\wpAny (model prog w) A (evalArgs (.ref C) true (backTo i (starEach args env)) [])
   (λv c=>v.kw=[]/\v.pos.length<=sizeLine/\c.heap.get? C=some (excClassObj nm q C N bs bm hdct sn sub ab col dd k0 k1 k2 k3 k5 newId)/\c.heap.Ns N mN/\OwnTail c.heap D bm/\Wc c.heap a /\
    ∀h' e,Heap.MadeExcOf c.heap h' e (.ref C) v.pos->E (.ref e) {c with heap:=F3 h' e a}) E G) E s) :
  wpAny (model prog w) A (exec (.Raise (some (.Call (.Name x np) args [] i)) (some (.Constant .none P cp)) u) env) Q E s:=by
 rw[arm_exec_Raise];erw[Sa (wpAny_standAt ?_)];show wpAny _ _ (raiseStmt env (some (do let v <-eval (.Call (.Name x np) args [] i) env;standAt u;pure v)) (some (do let v <-(pure .none:Sem Value);standAt u;pure v))) _ _ _;erw[ZkB (C:=C) (nm:=nm) (q:=q) (N:=N) (bs:=bs) (bm:=bm) (hdct:=hdct) (sn:=sn) (sub:=sub) (ab:=ab) (col:=col) (dd:=dd) (k0:=k0) (k1:=k1) (k2:=k2) (k3:=k3) (k5:=k5) (newId:=newId) Y H ?_];erw[Sa (Os (wpAny_Call_ofName (Os h (λf G n=>?_) λ_ _ x=>x)) (λv c0 Z=>Sa (wpAny_standAt (Sb Z))) λ_ _ x=>x)];ext⟨rfl,n⟩ n;unfold callWith;erw[Sa (wpAny_holding (Os n (λv c j=>Sa (wpAny_standAt ?_)) λ_ _ x=>x))];ext⟨apos,I⟩ v;ext⟨M,hlen,g,hn,T,U,j⟩ j;obtain rfl:I=[]:=M;ext⟨L,b0,d,tk,os⟩ c;simp only[O];erw[Sa (wpAny_keeperOf_exc g ?_)];erw[Sa (wpAny_call_exc_subT (hrest:=hlen) F T g hn a0 λh' e hm=>Sa (wpAny_holding (wpAny_point (Sb ?_))))];ext⟨t,J,_,_⟩ hm.there;have ne:∀{b o},L.get? b=some o->b≠e:=λ{b o} z y=>by rw[y,hm.new]at z;cases z
 ext⟨oa,S,ha,r⟩ U;exact⟨e,t,R,hm.keeps _ _ g,ne g,ne ha,⟨oa,S,hm.keeps _ _ ha,r⟩,J,j h' e hm⟩
end
def ZkD{h:Heap}(ne:b≠e):(F3 h e a).get? b=h.get? b :=
 (Heap.get?_update_other _ _ ne.symm).trans ((Heap.get?_update_other _ _ ne.symm).trans (Heap.get?_update_other _ _ ne.symm))
def ZkE{h:Heap}(n:h.get? e=some {cls:=C,data:=.fields #[.ref t,.none,.none,.none,.bool false,.none]}) :
  ∃ob,(F3 h e a).get? e=some ob/\ob.cls=C/\ob.data=.fields #[.ref t,.none,.ref a,.none,.bool true,.none]:=by
 have j:({cls:=C,data:=.fields #[.ref t,.none,.none,.none,.bool false,.none]}:Obj).data=.fields #[.ref t,.none,.none,.none,.bool false,.none]:=rfl;have g:=Obj.data_mapFields j (·.setIfInBounds 3 Value.none);have f:=Obj.data_mapFields g (·.setIfInBounds 4 (Value.bool true));have c:=Obj.data_mapFields f (·.setIfInBounds 2 (Value.ref a));have u:=Heap.get?_update_self (Obj.mapFields (·.setIfInBounds 3 Value.none)) n (Obj.isFreed_of_fields g);have i:=Heap.get?_update_self (Obj.mapFields (·.setIfInBounds 4 (Value.bool true))) u (Obj.isFreed_of_fields f);exact⟨_,Heap.get?_update_self (Obj.mapFields (·.setIfInBounds 2 (Value.ref a))) i (Obj.isFreed_of_fields c),by rw[Obj.cls_mapFields,Obj.cls_mapFields,Obj.cls_mapFields],c.trans (by simp)⟩
def ZkF(I:base.StaysIn s.heap)(J:base.get? e=none)(fr:s.heap.FunFrames base l)(tr:s.heap.TracedAtW base e cls a0 G)
  (h:∀h',Heap.HeldW base l e cls a0 L h'->s.heap.UpToSlots h'->Q Unit.unit {s with heap:=h'}):wpAny M A (setFlight (.ref e) (some L)) Q E s:=by
 ext⟨D,g,T,S,C,j,H,hd,v,y,B,f,dT,P⟩ tr;have u:3<C.size:=(Array.getElem?_eq_some_iff.mp P).1;have x:=Obj.data_mapFields dT (·.setIfInBounds 3 (rawInt L));have c:∀b,b≠T->(s.heap.update T (Obj.mapFields (·.setIfInBounds 3 (rawInt L)))).get? b=s.heap.get? b:=λb O=>Heap.get?_update_other _ _ O.symm;have i:∀b o,s.heap.get? b=some o->(∀g,o.data≠.fields g)->b≠T:=λb o q n z=>by
  subst z;rw[f]at q;cases q;exact n _ dT
 unfold setFlight;erw[Sa (wpAny_field j hd v ?_)];rw[SW (by rfl)];erw[wpAny_setField f dT u (h _ ⟨λb o q=>(c b λz=>?_).trans (I b o q),J,fr.of_keeps λb o q n=>⟨o,(c b (i b o q n)).trans q,R⟩,?_⟩ λb o q n=>⟨o.slots,(c b (i b o q n)).trans q⟩)];rw[z,y]at q;cases q;exact⟨D,g,T,_,_,(c e B.symm).trans j,H,hd,v,y,B,Heap.get?_update_self _ f (Obj.isFreed_of_fields x),x,by simp[u]⟩
def Zbd(X:Cx)(E:XK):Prop:=∀(pins:Ow) (σ:St) (H:Hp) (s:Shared) (B:Heap) (t a:Addr) (C:Value) (o:OG),Zb X pins σ H s->Heap.HeldW B X.stack a C (.ref t) X.env.locals s.heap->H a=none->(o=none->Wc s.heap a) ->
 (∀b ob,s.heap.get? b=some ob->((∃u,X.s₀.heap.get? b=some u)\/∃u,H b=some u)->b∉Yj X.stack->B.get? b=some ob)->E C o H->X.xe (.ref a) s
section
variable{N:OD}{qual:Str}{f:Addr}{cd:Value}{outer:List Env}{E:XK}
def ZkG:Zbd (VR (Yu P w) P w K mg base N qual scope f cd A outer s H E) E:=by
 intro pins S u j B t a C o I i ha h D J;have sn:s.heap.get? s.heap.objs.size=none:=Heap.get?_none_of_le (Sg _);show wpAny _ _ (leaving _ _) _ _ _;unfold leaving;erw[Sa (wpAny_noteFrame_againW R i.2.2.2 ?_)];erw[KC.with (e:=a) (W:=λc=>Heap.FlyingW B (envOfC qual scope s.heap.objs.size f cd::outer) a C (.ref t) c/\j.heap.UpToSlots c) (Le _ _) h (wpAny_landsW i λc g up=>⟨c,R,g,up⟩) λc ⟨g,up⟩ h=>?_];ext⟨n,Q,⟨_,_,O⟩,v⟩ g;have frd:=I.frd;obtain⟨y,G,x⟩:=Rm (P:=P) (w:=w) (L:=s.heap.objs.size) (h1:=j.heap) R sn I.base I.hok I.stkFree (λb M o e=>frd b (MX M) o e) D ⟨n,Q,O,v⟩ ha up;exact⟨a,C,u,R,I.os,I.bare,y,G,x,o,h,J⟩
end
def Nr(a:Addr)(C:Value):HO:=.ext λh=>∃ob c,h.get? a=some ob/\ob.cls=C/\ob.data=.fields c/\c[2]? = some .none
def ZkH(X:Cx)(pins:Ow)(f:XK)(e:Value)(s':Shared):Prop :=
 ∃(a:Addr) (C:Value) (o:OG) (σ:St) (H:Hp) (g:Heap),e=.ref a/\Zb X pins σ H s'/\MW X.stack g H a C s'.heap/\(∀p∈X.pn++pins,∃u,g.get? p.1=some u) /\
  (∀b u,X.s₀.heap.get? b=some u->b∉X.ex->∃c,g.get? b=some c)/\(o=none->Wc s'.heap a)/\f C o H
abbrev Nt(X:Cx)(pins:Ow)(Kx:XK):Cx:={X with pn:=X.pn++pins,xe:=ZkH X pins Kx}
section
variable{pins':Ow}{σ:St}{Kx:XK}{a:Addr}
def Zb.toTryN(I:Zb X pins σ H s):Zb (Nt X pins Kx) [] σ H s:=by
 have J:Zb (Lg X pins λ_ _=>True) [] σ H s:=I.toTry;exact⟨⟨J.ok.mod,J.ok.kind,J.ok.glob,J.ok.blt,J.ok.above,J.ok.inj,J.ok.has,J.ok.cab,J.ok.hd,J.ok.frames,J.ok.stk,J.ok.exf,J.ok.bs,J.ok.bsz,J.ok.noex,J.ok.exfs,J.ok.funs,J.ok.frf⟩,
  J.os,J.bare,J.base,J.loc,J.cell,J.free,J.freeC,J.pin,J.hok,J.len⟩
def Zb.ofTryN(J:Zb (Nt X pins Kx) pins' σ H s):Zb X pins σ H s:=by
 have I:Zb (Lg X pins λ_ _=>True) pins' σ H s :=
  ⟨⟨J.ok.mod,J.ok.kind,J.ok.glob,J.ok.blt,J.ok.above,J.ok.inj,J.ok.has,J.ok.cab,J.ok.hd,J.ok.frames,J.ok.stk,J.ok.exf,J.ok.bs,J.ok.bsz,J.ok.noex,J.ok.exfs,J.ok.funs,J.ok.frf⟩,
  J.os,J.bare,J.base,J.loc,J.cell,J.free,J.freeC,J.pin,J.hok,J.len⟩
 exact I.ofTry
def ZkI:Vn (Yu X.prog X.w) (Nt X pins Kx) Kx:=by
 intro D f j g e E I B;ext⟨a,C,x,rfl,os,bare,un,hok,v,o,y,i⟩ B;have c:Zb X pins f j g:=I.ofTryN;exact⟨a,C,o,f,x,g.heap,R,c.call' os un hok bare (λb z=>nomatch z),v,λp n=>⟨p.2,(c.pin p n).1⟩,λb u q h=>c.base.there b u q h,y,i⟩
end
section
variable{E:XK}{body:List Stmt}{x y:Str}{R C:Addr}{np np2 cpos cp rpos hpos:Pos}{kk:Nat}{e:Expr}{es:OE}{tb:XK->TS}{t:TA}
def ZkJ(K:Oy)(R C:Addr)(N:Nat)(E:XK)(tb:XK->TS)(t:TA):TS:=λD i H =>
 tb (λc o f=>(W.exmOne K c (.ref R)=some false/\E c o f)\/(W.exmOne K c (.ref R)=some true/\o=none /\
  ∀a,f a=none->t (List.replicate N none) (upd f a (Nr a c)) λh g=>h.length<=sizeLine/\g a=some (Nr a c)/\E (.ref C) (some a) g)) D i H
def ZkK(l2:X.stack=X.env::X.outer/\X.env.frame=some X.env.locals)(f0:X.ex=[])(hO:Zbd X E)(c:XB X.K C)(hg:Gl X x)(hm:X.mg x=some (.ref R))(m1:Gl X y)(c3:X.mg y=some (.ref C))
  (n:∀pins Kx,X1 (Nt X pins Kx) body (tb Kx)) (ha:∀a,PA (UB X a) (e::es) t) (b2:(x==("__debug__" : Str))=false:=by lia) (y2:(y==("__debug__" : Str))=false:=by lia)
  (he:starEach (e::es) X.env=(false,eval e X.env)::starEach es X.env:=by rfl) (i2:(backTo cpos (starEach es X.env)).any (·.1)=false:=by rfl) :
  PS X (.Try body [.ExceptHandler (some (.Name x np)) none [.Raise (some (.Call (.Name y np2) (e::es) [] cpos)) (some (.Constant .none kk cp)) rpos] hpos] [] [] pos) (ZkJ X.K R C X.N.length E tb t):=by
 intro pins s σ d3 d1 e0 p1;erw[wpAny_Try_except (Os (n pins _ [] s σ d3 d1 e0.toTryN p1) (λt1 j q=>?_) λe1 j q=>?_)];cases t1 with
 |next=>ext⟨U,O,Q,q⟩ q;exact wpAny_execs_nil ⟨U,O,Q.ofTryN,q⟩
 |brk=>ext⟨U,O,Q,q⟩ q;exact⟨U,O,Q.ofTryN,q⟩
 |cont=>ext⟨U,O,Q,q⟩ q;exact⟨U,O,Q.ofTryN,q⟩
 |ret u=>ext⟨i0,U,O,Q,r,q⟩ q;exact⟨i0,U,O,Q.ofTryN,r,q⟩
 ext⟨a,M,o,v0,H1,p2,rfl,I1,⟨B,t0,G,s0,n0⟩,y0,q0,D,hk⟩ q;ext⟨c0,d0⟩ l2;have mv:∀Y,B.StaysIn Y->j.heap.UpToSlots Y->Zb X pins v0 H1 {j with heap:=Y}:=λY st up=>I1.moved (λb o e n hn=>st b o (n0 b o e (by
  rcases n with⟨u,q,S⟩|⟨u,q⟩|⟨p,hp,rfl⟩;exact .inl (q0 b u q S);exact .inr ⟨u,q⟩;exact .inl (y0 p hp)) hn)) up
 have b1:X.A.frames=some (X.env::X.outer):=by rw[<-c0];exact e0.ok.frames
 rw[c0]at G;erw[KC.with (e:=a) (W:=λP=>Heap.HeldW B (X.env::X.outer) a M (.ref t0) X.env.locals P/\j.heap.UpToSlots P) (gU _ _) D (wpAny_looks_onW b1 d0 G λP hl up=>⟨P,rfl,hl,up⟩) λP ⟨w2,o0⟩ D=>?_];erw[KC.with (s:={j with heap:=P}) (e:=a) (W:=λg=>Heap.FlyingW B (X.env::X.outer) a M (.ref t0) g/\P.UpToSlots g) (Le _ _) D (wpAny_landsW w2 λg G up=>⟨g,rfl,G,up⟩) λg ⟨b0,l0⟩ D=>?_];have I5:=mv g b0.1 (o0.trans l0);ext⟨i3,n1,u1⟩ b0.there;have LT:PySem.W.Looks (model X.prog X.w) g (typeOf (.ref a)) M:=u1 ▸ (PySem.W.Looks.ld n1).andThen .now;erw[wpAny_handleBy_cons (codeAny_handlers_test (Uu (X:=UB X a) I5.toSuite hg hm ?_ b2)) (by intro z;cases z)];rcases hk with⟨u0,hE⟩|⟨u0,rfl,hk⟩;erw[(PySem.W.exm_one (K:=X.K) (I5.kIn:X.K.In g) LT u0) _ _ _ _ (λ_ _ z=>z) ?_];erw[wpAny_handleBy_nil ?_];obtain⟨f1,f2,f3,oe,ws,p0,oT,ts,v1,hc,hd,h1,rest⟩:=id b0;unfold PySem.passOn;erw[Sa (wpAny_field v1 hd h1 ?_)];rw[SV (show ¬ ((Value.ref p0==Value.none)=true)from by simp)];rw[d0];refine Sa (KC.with (s:={j with heap:=g}) (e:=a) (W:=λf=>Heap.HeldW B (X.env::X.outer) a M (.ref t0) X.env.locals f/\g.UpToSlots f) (Le _ _) D
  (PySem.W.setFlight_onW b0 λf v up=>⟨f,rfl,v,up⟩) λf ⟨v,j0⟩ D=>wpAny_throw ?_)
 erw[hO pins v0 H1 _ B t0 a M o (mv f v.1 ((o0.trans l0).trans j0)) (by rwa[c0]) s0 D (λb ob q n hn=>?_) hE];have j1:∃I,j.heap.get? b=some I:=by
  rcases n with⟨u,q⟩|⟨u,q⟩;exact I1.base.there b u q (by rw[f0];exact λz=>nomatch z);exact(I1.hok b u q).has
 ext⟨I,h⟩ j1;have i:=n0 b I h (n.imp (λ⟨u,q⟩=>q0 b u q (by rw[f0];exact λz=>nomatch z)) id) hn;have T:=v.1 b I i;have q4:f.get? b=some ob:=q;rw[T]at q4;cases q4;exact i;erw[(PySem.W.exm_one (K:=X.K) (I5.kIn:X.K.In g) LT u0) _ _ _ _ (λ_ _ z=>z) ?_];erw[codeAny_handlers_suite ?_];erw[KC.with (s:={j with heap:=g}) (e:=a) (W:=λf=>Heap.FlyingW B (X.env::X.outer) a M (.ref t0) f/\g.UpToSlots f) (Le _ _) D (lands_againW b0 λf G up=>⟨f,rfl,G,up⟩) λf ⟨a1,j0⟩ D=>?_];have I6:=mv f a1.1 ((o0.trans l0).trans j0);ext⟨r0,l3,g0,i1,d2,_⟩ a1.first;have c1:∀o,j.heap.get? a=some o->a∉Yj X.stack:=λo e z=>by
  ext⟨ob,Z,h,_,i,_⟩ G.first;exact I1.frd a z ob h Z i
 have x0:∀u,p2.get? a=some u->False:=λu q=>by
  ext⟨ob,Z,h,_,i,_⟩ G.first;have z:=n0 a ob h (.inl ⟨u,q⟩) (c1 ob h);rw[G.2.1]at z;cases z
 have h0:X.s₀.heap.get? a=none:=by
  cases q:X.s₀.heap.get? a with
  |none=>rfl
  |some u =>
   obtain⟨u',z⟩:=q0 a u q (by rw[f0];exact λz=>nomatch z);exact(x0 u' z).elim
 have hp:∀p∈X.pn++pins,p.1≠a:=λp hp z=>by
  obtain⟨u,q⟩:=y0 p hp;rw[z]at q;exact x0 u q
 have w1:∃Z,r0.data=.fields Z/\Z[2]? = some .none:=by
  obtain⟨on,vn,h,i,T⟩:=D rfl;rw[g0]at h;cases h;exact⟨vn,i,T⟩
 ext⟨vn,dn,cn⟩ w1;have I7:Zb X pins v0 (upd H1 a (Nr a M)) {j with heap:=f}:=I6.track s0 g0 d2 h0 hp
  ⟨⟨r0,vn,g0,i1,dn,cn⟩,⟨r0,g0⟩,λha n ⟨o,i0,z1,z2⟩ k=>⟨o,i0,k o z1,z2⟩⟩
 have I8:Zb X pins (List.replicate X.N.length none) (upd H1 a (Nr a M)) {j with heap:=f}:=I7.weak (by rw[SA,I7.len]) λe3 i0 q=>by
  rw[List.getElem?_replicate]at q;split at q<;>cases q
 obtain⟨bm,Nn,nm,qn,bs,hd,sn,sub,ab,col,dd,k0,k1,k2,k3,k5,mN,hC,hN,b3,TL⟩:=gY e0.ok.mod.kin c.ex;erw[wpAny_execs_cons ?_];refine ZkC (C:=C) (nm:=nm) (q:=qn) (N:=Nn) (bs:=bs) (bm:=bm) (hdct:=hd) (sn:=sn) (sub:=sub) (ab:=ab) (col:=col) (dd:=dd) (k0:=k0) (k1:=k1) (k2:=k2) (k3:=k3) (k5:=k5)
  PySem.F.excBase_ValueError (mN:=mN) (TL.hasType PySem.F.excBase_ValueError.hasBase) rfl ?_ b3 (Uu (X:=UB X a) I8.toSuite m1 c3 ⟨rfl,?_⟩ y2)
 rw[he];show(false || (backTo cpos (starEach es X.env)).any (·.1))=false;rw[i2];rfl;have q:=ha a cpos pins {j with heap:=f} _ _ _ I8.toSuite (hk a s0);have v2:starEach (e::es) (UB X a).env=(false,eval e X.env)::starEach es X.env:=he;rw[v2]at q;rw[he];erw[Calls.evalArgs_plain (Os q (λus s2 hs=>?_) λ_ _ z=>z.elim)];ext⟨Z,H2,I2,r,hl,o1,hE⟩ hs;have J:Zb X pins (List.replicate X.N.length none) H2 s2:=I2.ofSuite e0.ok.hd;have l1:Wc s2.heap a:=by
  obtain⟨⟨ob,a3,h,_,i,T⟩,_⟩:=J.hok a _ o1;exact⟨ob,a3,h,i,T⟩
 erw[⟨rfl,by rw[<-r.length];exact hl,I2.bk _ _ hC,hN.keeps I2.bk,TL.keeps I2.bk,l1,λY H S=>?_⟩];have m2:∀env∈X.stack,∀b,env.frame=some b->b∈Yj X.stack:=λenv he b n=>List.mem_filterMap.mpr ⟨env,he,n⟩;ext⟨t9,o2,_,_⟩ S.there;obtain⟨h3,w0,a2,z0⟩:=ZkE (a:=a) o2;have m0:∀b o,s2.heap.get? b=some o->(F3 Y H a).get? b=some o:=λb o q=>by
  rw[ZkD λz=>by rw[z,S.new]at q;cases q];exact S.keeps b o q
 have B0:∀b o,(PySem.W.hideAll s2.heap (Yj X.stack)).get? b=some o->s2.heap.get? b=some o:=λb o q=>PySem.W.of_hideAll _ q;have en:(PySem.W.hideAll s2.heap (Yj X.stack)).get? H=none:=by
  cases q:(PySem.W.hideAll s2.heap (Yj X.stack)).get? H with
  |none=>rfl
  |some u=>have z:=B0 H u q;rw[S.new]at z;cases z
 have u2:(F3 Y H a).FunFrames (PySem.W.hideAll s2.heap (Yj X.stack)) (X.env::X.outer):=by
  rw[<-c0];exact(PySem.W.funFrames_hide J.stack m2).of_keeps λb o q _=>⟨o,m0 b o q,rfl⟩
 show wpAny _ _ (noteFrame (.ref H) X.env) _ _ _;unfold noteFrame;simp only[d0];erw[Sa (wpAny_field w0 z0 (x:=.none) rfl ?_)];rw[SV ()];erw[wpAny_entryW (L:=X.env.locals) (base:=PySem.W.hideAll s2.heap (Yj X.stack)) (a0:=.ref t9) b1 u2 d0 w0 (λb o q=>m0 b o (B0 b o q)) en z0 (by simp) rfl λh7 ⟨x1,x2,x3,x4⟩=>?_];rw[a2]at x3;show cameBackBy _ _ _ _ _ _;unfold cameBackBy;obtain⟨oe,ws,p0,oT,ts,y1,j3,c2,j2,rest⟩:=id x3;erw[Sa (wpAny_field y1 c2 j2 ?_)];rw[SV (show ¬ ((Value.ref p0==Value.none)=true)from by simp)];rw[d0];erw[ZkF x1 en x2 x3 λh8 v r2=>?_];have h2:Heap.HeldW (PySem.W.hideAll s2.heap (Yj X.stack)) X.stack H (.ref C) (.ref t9) X.env.locals h8:=by
  generalize PySem.W.hideAll s2.heap (Yj X.stack)=BB at v ⊢;rwa[c0]
 refine hO pins (List.replicate X.N.length none) H2 _ (PySem.W.hideAll s2.heap (Yj X.stack)) t9 H (.ref C) (some a) (J.moved (λb o q n hn=>v.1 b o (PySem.W.hideAll_get _ q hn)) ((Heap.UpToSlots.of_keeps m0).trans (Heap.UpToSlots.trans x4 r2))) h2
  (J.hasNo S.new) (λz=>nomatch z) (λb ob q n hn=>?_) hE
 have n2:∃I,s2.heap.get? b=some I:=by
  rcases n with⟨u,q⟩|⟨u,q⟩;exact J.base.there b u q (by rw[f0];exact λz=>nomatch z);exact(J.hok b u q).has
 ext⟨I,h⟩ n2;have i:=PySem.W.hideAll_get _ h hn;have T:=v.1 b I i;have q4:h8.get? b=some ob:=q;rw[T]at q4;cases q4;exact i
end
end L2
namespace K1
open PySem L2
abbrev Zs(z:Str):List Nat:=z.cps.toList
def kw(s:String):List Nat:=Zs (OL s)
def bv:List Nat->Nat
 |[]=>0
 |c::r=>(c - 48)+2*bv r
def Q8(w:OH):Option Nat:=if w.length=7/\w.all (λc=>c==48 || c==49)=true then some (bv w)else none
def Q9(w:OH):List (Option Nat):=(spl 44 w).map XF
def LD{n:Nat}(h:n<10000):XF (Zs (ZX n))=some n:=by
 obtain⟨c,j,i,g,f,_⟩:=Ru h (Zs (ZX n)) R;unfold XF;rw[SW ⟨(),λz=>by rw[z]at c;exact Ot c (),i,g⟩,f]
def RR{n c:Nat}(h:n<10000)(g:c<48):c∉Zs (ZX n):=λz=>by
 obtain⟨_,_,f,_⟩:=Ru h _ R;have:48<=c/\c<=57:=SU (List.all_eq_true.mp f c z);lia
def RS:OL ","=⟨#[44]⟩:=by lia
def A0:OL " "=⟨#[32]⟩:=by lia
def RU{ds:OH}(h:ds≠[])(f:∀x∈ds,x<10000):Q9 (Zs (X3 ds))=ds.map some:=by
 unfold Q9 X3;rw[RS];show(spl 44 (Str.join ⟨#[44]⟩ (ds.map ZX)).cps.toList).map XF=_;rw[U2,Ll];rw[Of,Of];exact List.map_congr_left λx c=>LD (f x c);intro z;exact h (List.map_eq_nil_iff.mp (List.map_eq_nil_iff.mp z));intro p g;obtain⟨y,i,rfl⟩:=SK.mp g;obtain⟨x,c,rfl⟩:=SK.mp i;exact RR (f x c) ()
def Zbe:∀b,b<128->Q8 (Zs (U6 b))=some b:=by lia
def ZkL:∀b,b<128->Zs (U6 b)∉([]:List (List Nat))/\32∉Zs (U6 b)/\(Zs (U6 b)).length=7:=by lia
def A1:∀s∈["always","week","span","each","either","both","but"],32∉Zs (OL s)/\(OL s).length<=100:=by lia
def RV(n:Nat)(h:n<10000):32∉Zs (ZX n)/\(ZX n).length<=100:=⟨RR h (),Sh (Uh h) ()⟩
def RW:∀(T:RT),T.good->∀x∈T.words,32∉Zs x/\x.length<=100:=by
 have v:∀ds:List Nat,ds.length<=12->(∀x∈ds,x<10000)->32∉Zs (X3 ds)/\(X3 ds).length<=100:=λds I ha=>by
  erw[⟨?_,?_⟩];unfold X3;rw[RS];show 32∉(Str.join ⟨#[44]⟩ (ds.map ZX)).cps.toList;rw[U2];have G:∀l:List (List Nat),(∀p∈l,32∉p)->32∉YF 44 l:=by
   intro l;induction l with
   |nil=>intro _ z;cases z
   |cons p r f =>
    intro h z;cases r with
    |nil=>exact h p SE z
    |cons q r =>
     rcases SH.mp (show 32∈p++44::YF 44 (q::r)from z)with z|z;exact h p SE z;rcases SG.mp z with z|z;exact Ot z ();exact f (λp i=>h p (SD _ i)) z
  erw[G _ λp i=>?_];obtain⟨y,D,rfl⟩:=SK.mp i;obtain⟨x,c,rfl⟩:=SK.mp D;exact RR (ha x c) ();have C:=StrLaws.join_length_le (OL ",") (ds.map ZX);have L:((ds.map ZX).map (·.length)).sum<=4*ds.length:=by
   clear C I;induction ds with
   |nil=>simp
   |cons y r f =>
    have M:=Uh (ha y SE);have J:=f λx c=>ha x (SD _ c);simp only[SN,List.sum_cons,Sy];lia
  have H:(OL ",").length=1:=by lia
  unfold X3;rw[H,Sv]at C;lia
 intro T;induction T with
 |always=>intro g x c;rcases SF.mp c with rfl;exact A1 _ ()
 |week b =>
  intro g x c;have B:=ZkL b (Nat.lt_succ_of_le g);rcases SG.mp c with rfl|c;exact A1 _ ();rcases SF.mp c with rfl;exact⟨B.2.1,Sh (Nat.le_of_eq ((WI _).symm.trans B.2.2)) ()⟩
 |span a b r f =>
  intro g x c;rcases SH.mp c with c|c;simp only[SG,List.not_mem_nil,or_false]at c;rcases c with rfl|rfl|rfl;exact A1 _ ();exact RV a (by have:=g.1;have:=g.2.1;lia);exact RV b (by have:=g.2.1;lia);exact f g.2.2 x c
 |each n E =>
  intro g x c;simp only[RT.words,SG,List.not_mem_nil,or_false]at c;rcases c with rfl|rfl|rfl;exact A1 _ ();exact RV n (by have:=g.2.1;lia);exact v E g.2.2.few λx c=>by have:=(g.2.2.all x c).2;have:=g.2.1;lia
 |either r s u j =>
  intro g x c;rcases SH.mp c with c|c;rcases SH.mp c with c|c;rcases SF.mp c with rfl;exact A1 _ ();exact u g.1 x c;exact j g.2 x c
 |both r s u j =>
  intro g x c;rcases SH.mp c with c|c;rcases SH.mp c with c|c;rcases SF.mp c with rfl;exact A1 _ ();exact u g.1 x c;exact j g.2 x c
 |but ds r f =>
  intro g x c;rcases SH.mp c with c|c;simp only[SG,List.not_mem_nil,or_false]at c;rcases c with rfl|rfl;exact A1 _ ();exact v ds g.1.few λx c=>by have:=(g.1.all x c).2;lia
  exact f g.2 x c
def LF(T:RT):T.words≠[]:=by cases T<;>exact λz=>nomatch z
def YO(T:RT):Str:=Str.join (OL " ") T.words
def ZkM{T:RT}(g:T.good):spl 32 (Zs (YO T))=T.words.map Zs:=by
 unfold YO;rw[A0];show spl 32 (Str.join ⟨#[32]⟩ T.words).cps.toList=_;rw[U2,Ll];exact λz=>LF T (List.map_eq_nil_iff.mp z);intro p f;obtain⟨x,c,rfl⟩:=SK.mp f;exact(RW T g x c).1
def Nu{T:RT}(g:T.good)(n:T.weight<=15):(YO T).length<=4545:=by
 have j:=StrLaws.join_length_le (OL " ") T.words;have u:=T.words_len;have B:(T.words.map (·.length)).sum<=100*T.words.length:=by
  have f:=RW T g;generalize T.words=l at f;induction l with
  |nil=>simp
  |cons y r i =>
   have C:=(f y SE).2;have v:=i λx h=>f x (SD _ h);simp only[SN,List.sum_cons,Sy];lia
 have c:(OL " ").length=1:=by lia
 unfold YO;rw[c]at j;lia
end K1
namespace L2
open PySem PySem.Spec PyProof.Rows
def ZkN:typeLookup (.type "list_reverseiterator") "__len__"=pure none:=by rw[typeLookup_type,builtinLookup_eq_fast];kernel_rfl
def ZkO:typeLookup (.type "list_reverseiterator") "__length_hint__"=pure (some (.builtin "list_reverseiterator.__length_hint__")):=by rw[typeLookup_type,builtinLookup_eq_fast];kernel_rfl
def ZkP{R:Result->Shared->Prop}{items:Array Value}(M:A.handled=none)(C:s.heap.IsRevIter it l ((items.size:Int) - 1))(hl:s.heap.IsList l items)(hlen:items.size<=sizeLine)(c0:l≠it)
  (S:Addr) (y:S≠it) (I:S≠l) (res:Value) (L:Nat) (O:s.heap.get? S=some {cls:=.type "list",data:=.seq #[] L})
  (P:∀G tk u g,(∀b o,b≠S->b≠it->s.heap.get? b=some o->G.get? b=some o)->G.get? S=some {cls:=.type "list",dict:=none,data:=.seq u g,slots:=#[]} ->
   ItemsOf (λi v=>items[items.size - 1 - i]? = some v) u items.size->R (.ok (.ret res)) {s with heap:=G,toks:=tk}) :
  wpAny (model prog w) A.in1 (Builtin.List.listExtendWith (.ref S) (.ref it) res)
   (λY c=>match Y with|.done f=>R (.ok f) c|.again g=>g.quiet=true/\codeAny (model prog w) A g R c) (λe c=>R (.error e) c) s:=by
 have U:S∉[it,l]:=λZ=>by
  rcases SG.mp Z with e|e;exact y e;exact I (SF.mp e)
 have W:=(Walks.listRev (prog:=prog) (w:=w) (A:=A.in1) M it l c0 items).toS;have n:s.TypeIs (.ref it) "list_reverseiterator" := C.typeIs;unfold Builtin.List.listExtendWith;erw[Sa (wpAny_typeOf (T := "list_reverseiterator") n ?_)];have h1:Builtin.List.listSameRef (.ref S) (.ref it)=false:=by simp[Builtin.List.listSameRef,y]
 have h2:(Value.type "list_reverseiterator"==Value.type "list")=false:=by lia
 have h3:(Value.type "list_reverseiterator"==Value.type "tuple")=false:=by lia
 simp only[h1,h2,h3,Bool.or_false,Bool.false_eq_true,if_false];erw[Sa (wpAny_pyIter_revIter C ?_)];erw[Sa (wpAny_holding ?_)];unfold Builtin.List.listLengthHint;erw[Sa (wpAny_specialOf (T := "list_reverseiterator") n ZkN ?_)];show wpAny _ A.in1 (specialOf (Value.ref it) (OL "__length_hint__") >>= _) _ _ _;erw[Sa (wpAny_specialOf n ZkO ?_)];generalize H:("list_reverseiterator.__length_hint__" : String)=e0
 wp_delta
 rw[show splitId e0=some ("list_reverseiterator","__length_hint__")from by subst H;lia];subst H;erw[Sa (wpAny_isInstance (T := "list_reverseiterator") (b:=true) n (by rw[isSubtype_type];kernel_rfl) ?_)];erw[wpAny_ite_split (λj=>Ot j ()) (λ_=>?_)];erw[wpAny_ite_split (λ_=>?_) (λj=>Ot () j)];erw[wpAny_ite_split (λj=>Ot j ()) (λ_=>?_)];erw[Sb ?_];rw[SV ()];have b0:∀(h:Heap) (B:Nat),(∀b o,b≠S->s.heap.get? b=some o->h.get? b=some o)->h.get? S=some {cls:=.type "list",data:=.seq #[] B} ->
   codeAny (model prog w) A (.builtin "list.extend.loop" ⟨[.ref S,.ref it,res],[]⟩) R {s with heap:=h}:=λh B D f0=>by
  erw[codeAny_extend_loopS W hlen S U res items.size 0 _ #[] B rfl (Sk _) ⟨Sk _,?_,?_⟩ f0 (ItemsOf.nil _) λc u g hm d0 a0=>?_];rw[show(items.size:Int) - 1 - ((0:Nat):Int)=(items.size:Int) - 1 by lia];exact C.at λo e=>D it o y.symm e;exact hl.at λo e=>D l o I.symm e;rw[Moved.eq_with hm];erw[P c.heap c.toks u g (λb o J X e=>hm.heap b o (λx=>?_) (D b o J e)) d0 a0];rcases SG.mp x with Q|x;exact J Q;exact X (SF.mp x)
 exact Sb ⟨plainId_quiet F.plain_extend_loop _,b0 _ L (λb o _ e=>e) O⟩
def ZkQ{items:Array Value}(B:A.handled=none)(x:s.heap.IsRevIter it l ((items.size:Int) - 1))(y:s.heap.IsList l items)(hlen:items.size<=sizeLine)(J:l≠it)
  (G:∀h' tk g n,(∀b o,b≠it->s.heap.get? b=some o->h'.get? b=some o) ->
   h'.get? s.heap.objs.size=some {cls:=.type "list",dict:=none,data:=.seq g n,slots:=#[]}->ItemsOf (λi v=>items[items.size - 1 - i]? = some v) g items.size->Q (.ref s.heap.objs.size) {s with heap:=h',toks:=tk}) :
  wpAny (model prog w) A (call (.type "list") [.ref it]) Q E s:=by
 have c:∀b o,s.heap.get? b=some o->b≠s.heap.objs.size:=λb o e=>Sf (Se e);obtain⟨D,T,_⟩:=id x;obtain⟨I,L,_⟩:=id y;refine callType_codes (Q₁:=λobj u=>obj=.ref s.heap.objs.size/\u = {s with heap:=s.heap.push {cls:=.type "list",data:=.seq #[]} }) F.called_list (F.typeCall_list_1 _) F.entry_list_init
  (code_list_new _ ⟨R,R⟩) λobj u M=>?_
 ext⟨rfl,rfl⟩ M;have f:(s.heap.push {cls:=.type "list",data:=.seq #[]}).get? s.heap.objs.size=some {cls:=.type "list",data:=.seq #[]}:=Sd _ R;erw[⟨⟨_,f,R⟩,F.args_list_init_2 _ _,?_⟩];show wpAny _ _ (do let O <-Builtin.List.listItems (.ref s.heap.objs.size);Builtin.List.listUpdate (.ref s.heap.objs.size) (λ_=>#[]);letGo O.toList.reverse;Builtin.List.listExtendWith (.ref s.heap.objs.size) (.ref it) .none) _ _ _;erw[Sa ?_];unfold Builtin.List.listItems;erw[Sa (wpAny_seqItems f R (Sb ?_))];show wpAny _ _ (updateSeq s.heap.objs.size (λ_=>#[]) >>= λ_=>letGo (#[]:Array Value).toList.reverse >>= λ_=>Builtin.List.listExtendWith (.ref s.heap.objs.size) (.ref it) .none) _ _ _;erw[Sa (wpAny_updateSeq f R ?_)];have C:=Heap.get?_update_self (Obj.mapSeq (λ_=>(#[]:Array Value))) f R;have h:∀b o,b≠s.heap.objs.size->s.heap.get? b=some o->((s.heap.push {cls:=.type "list",data:=.seq #[]}).update s.heap.objs.size (Obj.mapSeq (λ_=>(#[]:Array Value)))).get? b=some o :=
  λb o j e=>(Heap.get?_update_other _ _ (Ne.symm j)).trans (Sc _ e)
 erw[Sa (wpAny_letGo ?_)];erw[ZkP (A:=A.in1) (s:={s with heap:=(s.heap.push {cls:=.type "list",data:=.seq #[]}).update s.heap.objs.size (Obj.mapSeq (λ_=>(#[]:Array Value)))}) B (x.at λo e=>h it o (c it o e) e) (y.at λo e=>h l o (c l o e) e) hlen J _ (c it D T).symm (c l I L).symm .none _ C λh' tk g n S P H=>?_];exact⟨R,G h' tk g n (λb o j e=>S b o (c b o e) j (h b o (c b o e) e)) P H⟩
def ZkR:bootBuiltins "list"=some (.type "list"):=by lia
def ZkS:bootBuiltins "reversed"=some (.type "reversed"):=by lia
def ZkT{xs:List V}{us c:OC}(r:ZG xs us)(h:c.length=us.length)(ha:∀(i:Nat) (v:Value),c[i]? = some v->us[us.length - 1 - i]? = some v):ZG xs.reverse c:=by
 have e:c=us.reverse:=by
  erw[List.ext_getElem? λi=>?_];by_cases g:i<us.length;rw[List.getElem?_reverse g];have f:i<c.length:=by lia
  rw[Ss f];exact(ha i _ (Ss f)).symm;rw[List.getElem?_eq_none (),List.getElem?_eq_none (by rw[List.length_reverse];lia)]
 rw[e];exact RL r
inductive ZkU(K:Oy)(Q:VK)(v:V)(H1:Hp):Prop|mk l xs (_:v=.ref l) (_:Zd K H1 l xs) (_:∀p,H1 p=none->Q (.ref p) (upd H1 p (.lst xs.reverse)))
def tLR(K:Oy)(f:TE):TE:=λg H Q=>f g H λv c=>ZkU K Q v c
def ZkV(S:X.calm=true)(Q:Gl X "list") (a0:X.mg "list"=none) (Z:Gl X "reversed") (Y:X.mg "reversed"=none) (L:PE X e j) (x:starEach [e] X.env=[(false,eval e X.env)]:=by rfl) :
  PE X (.Call (.Name "list" J) [.Call (.Name "reversed" u) [e] [] p3] [] p4) (tLR X.K j):=by
 intro pins s H b0 d0 I h;erw[wpAny_Call_Name_kw (VN I Q a0 ZkR ?_)];erw[PyProof.Rows.callWith_type1 ?_ R R];show wpAny _ _ (spliced [(false,eval (.Call (.Name "reversed" u) [e] [] p3) X.env)]) _ _ _;erw[Calls.spliced_cons ?_];erw[wpAny_Call_Name_kw (VN I Z Y ZkS ?_)];erw[PyProof.Rows.callWith_type1 ?_ x R];rw[x];show wpAny _ _ (spliced [(false,eval e X.env)]) _ _ _;erw[Calls.spliced_cons (ZA (L pins s H b0 _ I h) λc0 c ⟨v,H1,f,r1,l,T,ev,E,q⟩=>Calls.spliced_nil ?_)];subst ev;cases r1;obtain⟨g,n,B,hz⟩:=f.list E;erw[call_reversed_list B.isList ?_];erw[Calls.spliced_nil ?_];have hlen:=n.length;have C:c.heap.IsList l g.toArray:=B.isList;have P:l<c.heap.objs.size:=by ext⟨o,M,_⟩ C;exact Se M
 refine ZkQ (s:={c with heap:=c.heap.push (revObj l ((g.toArray.size:Int) - 1))}) (it:=c.heap.objs.size) (items:=g.toArray) (f.ok.hd S) ⟨_,Sd _ R,R,R⟩ (C.at λo e=>Sc _ e)
  (by rw[SO];lia) (Sf P) λh' tk O G hk D y=>?_
 refine⟨.ref _,_,f.laid (t':=tk) (λb o e=>hk b o (Sf (Se e)) (Sc _ e)) (by show _<=(c.heap.push _).objs.size;rw[Heap.size_push];lia)
  (show Yq X.prog X.w _ h' _ (.lst T.reverse)from⟨by rw[List.length_reverse];lia,O.toList,G,ZkT n (by simpa using y.1) (λi v U=>?_),by simpa using D⟩),R,q _ (f.hok.fresh (by rw[Heap.size_push];lia))⟩
 have:=y.2 i v (by simpa using U);simpa using this
def ZkW:Qs X "str.strip" (λx xs H Q=>∃z y,x=.str z/\xs=[.str y]/\z.length<=sizeLine/\Q (.str (Txt.stripChars z y)) H):=by
 intro pins s i H x xs v j Q I c r h;ext⟨z,y,rfl,rfl,g,q⟩ h;ext⟨t,rfl⟩ c;obtain⟨u,rfl,f,rfl⟩:=Xm r;exact SC.stripChars (λf k=>⟨.str _,H,I.tok _,⟨_,R⟩,q⟩) g
def ZkX(z y:Str):Txt.stripChars z y=OL "" ↔ ∀c∈z.cps.toList,c∈y.cps.toList:=by
 have u:OL ""=(⟨#[]⟩:Str):=by lia
 have f:∀c,y.cps.contains c=true↔c∈y.cps.toList:=λc=>by rw[Array.contains_iff_mem,Array.mem_toList_iff]
 rw[u];unfold Txt.stripChars;rw[stripBy_eq];obtain⟨x,j,v⟩:=lo_facts y.cps.contains z;obtain⟨I,J,n,H⟩:=hi_facts y.cps.contains z _ x;have hn:z.cps.toList.length=z.length:=by simp[Str.length]
 have gd:∀k,k<z.length->z.cps.getD k 0∈z.cps.toList:=λk g=>by
  rw[<-getD_list,List.getD_eq_getElem?_getD,Ss ()];exact Oj _
 constructor;intro h c D;have L:stripHi y.cps.contains true z (stripLo y.cps.contains true z)<=stripLo y.cps.contains true z:=by
  have i:(z.cps.extract (stripLo y.cps.contains true z) (stripHi y.cps.contains true z (stripLo y.cps.contains true z))).size=0:=congrArg (λs:Str=>s.cps.size) h;rw[Array.size_extract]at i;have e:z.cps.size=z.length:=rfl;lia
 obtain⟨k,g,e⟩:=List.getElem_of_mem D;have C:z.cps.getD k 0=c:=by rwa[<-getD_list,List.getD_eq_getElem?_getD,Ss g]
 rw[<-C];erw[(f _).mp ?_];by_cases q:k<stripLo y.cps.contains true z;exact j k q;exact n k () ();intro h;have E:stripLo y.cps.contains true z=z.length:=by
  rcases v with q|q;exact q;by_cases B:stripLo y.cps.contains true z<z.length;rw[(f _).mpr (h _ (gd _ B))]at q;cases q;omega
 have G:stripHi y.cps.contains true z (stripLo y.cps.contains true z)=z.length:=by lia
 rw[G,E];show(⟨z.cps.extract z.length z.length⟩:Str)=⟨#[]⟩;congr 1;simp;exact Nat.min_le_left _ _
def LG(z:Str):It:=⟨λi _=>i<z.cps.size,λi H v f=>∃p c,H p=none/\z.cps.toList[i]? = some c/\v=.ref p/\f=upd H p (.tup [.int i,.str ⟨#[c]⟩]),λi _=>z.cps.size<=i⟩
def ZkY{es:OE}{k:Nat}{f0:Pos}(z:Str)(t:Tok)(e it:Addr)(ty:String)(H:e≠it)
  (D:∀A:Around,A.handled=none->Draws P w A it [it] z.cps.size (λi v=>∃c u,z.cps[i]? = some c/\v=.str ⟨#[c]⟩ u) (λi h=>h.IsStrIter it ty z t i)) :
  Uv P w K (.Tuple es k f0) (LG z) [e,it] e (λi h=>((∃j,IsEnum h e it i j)/\h.IsStrIter it ty z t i)/\i<=z.cps.size) where
 mem:=by simp
 obj:=λi h st b g=>by
  ext⟨⟨⟨j,f⟩,o,n,E,hd⟩,_⟩ st;have Q:b=e\/b=it:=by simpa using g
  rcases Q with rfl|rfl;exact⟨_,f,λv z=>by cases z⟩;exact⟨o,n,λv z=>by rw[hd]at z;cases z⟩
 keep:=λi h h' st S=>⟨⟨let ⟨j,f⟩:=st.1.1;⟨j,S e (by simp) _ f⟩,let ⟨o,n,r⟩:=st.1.2;⟨o,S it (by simp) o n,r⟩⟩,st.2⟩
 item:=by
  intro X B G L E i pins s σ i0 h0 I O st M;subst B G L;ext⟨⟨⟨j,f⟩,C⟩,_⟩ st;have Y:=C;have T:i<z.cps.size:=M;erw[wpAny_pyNext_enum_itemD (D X.A.in1 (I.ok.hd E)) f C T H (by simpa using H) λx h1 tk B n a0 hT j0 hk=>⟨_,R,?_⟩];ext⟨c,u,ec,rfl⟩ B;erw[wpAny_letOwnedTupleGo_enum (s:={s with heap:=h1,toks:=tk+1}) n λU g0 J=>?_];have d0:e<s.heap.objs.size:=Se f;have k0:it<s.heap.objs.size:=by ext⟨_,q,_⟩ Y;exact Se q
  have b0:U.get? s.heap.objs.size=some {cls:=.type "tuple",data:=.seq #[.int i tk,.str ⟨#[c]⟩ u]}:=(J.2 _ (Nat.ne_of_gt d0)).trans hT;obtain⟨I2,n2⟩:=I.paired (t':=tk+1) (fp:=[e,it]) (x:=.int i) (y:=.str ⟨#[c]⟩) (h':=U) O (λb g=>by
   have Q:b=e\/b=it:=by simpa using g
   rcases Q with rfl|rfl;exact⟨_,f⟩;ext⟨o,q,_⟩ Y;exact⟨o,q⟩) (λb o g q=>by
   have Z:b≠e:=λz=>g (by simp[z]);have c0:b≠it:=λz=>g (by simp[z]);exact(J.2 b Z).trans (hk b o Z c0 q)) b0 ⟨tk,R⟩ ⟨u,R⟩
  erw[⟨.ref s.heap.objs.size,_,I2,R,⟨_,c,I.hok.fresh (Sg _),by simpa using ec,R,R⟩,⟨⟨⟨_,by simpa using g0⟩,let ⟨o,q,r⟩:=a0;⟨o,(J.2 it H.symm).trans q,r⟩⟩,T⟩,n2⟩]
 done:=by
  intro X B G L E i pins s σ i0 h0 I O st M;subst B G L;ext⟨⟨⟨j,f⟩,C⟩,hi⟩ st;have e0:i=z.cps.size:=Nat.le_antisymm hi M;rw[e0]at C;exact wpAny_pyNext_enum_endD (D X.A.in1 (I.ok.hd E)) f C λh' eb=>⟨R,I.turnedL (t':=s.toks) (fp:=[e,it]) (λb o g q=>eb b o (λz=>g (by simp[z])) q) O⟩
 self:=λ_ _ _ _ _ st h=>let ⟨j,f⟩:=st.1.1;wpAny_pyIter_enum f h
inductive ZkZ(R:It->Hp->Prop)(vs:List V)(H1:Hp):Prop|mk z (_:vs=[.str z]) (_:R (LG z) H1)
def Zk0(i:TA):TI:=λg H h=>i g H λc f=>ZkZ h c f
def Zk1{E:OE}{k:Nat}{tp:Pos}{a:Expr}{n:TA}{p v:Pos}(D:Gl X "enumerate") (hm:X.mg "enumerate"=none) (ha:PA X [a] n) (B:starEach [a] X.env=[(false,eval a X.env)]:=by rfl):PI X (.Tuple E k tp) (.Call (.Name "enumerate" p) [a] [] v) (Zk0 n):=by
 intro pins s x H S I h;erw[Call_ (VN I D hm boot_enumerate (PyProof.Rows.callWith_type1 (ZA (ha v pins s x H _ I h) λQ c ⟨T,i,f,r1,y⟩=>?_) B R))];ext⟨z,e,q⟩ y;subst e;cases r1 with
 |cons r C =>
  cases C;ext⟨t,rfl⟩ r;erw[call_enumerate_str λM j J P L=>?_];erw[wpAny_pyIter_enum (s:={c with heap:=M}) j ?_];have fp:∀b∈[c.heap.objs.size+1,c.heap.objs.size],VA X pins i b:=λb G=>by
   have O:b=c.heap.objs.size+1\/b=c.heap.objs.size:=by simpa using G
   have u:c.heap.objs.size<=b:=by rcases O with rfl|rfl;exact Nat.le_succ _;exact Sg _
   exact f.fpOk u (f.hok.fresh u)
  erw[⟨c.heap.objs.size+1,[c.heap.objs.size+1,c.heap.objs.size],_,_,i,R,f.kept (t':=c.toks) L,ZkY z t _ _ (strIterType z) (Nat.succ_ne_self _) (λA g=>?_),⟨⟨⟨_,j⟩,J⟩,Sk _⟩,fp,q⟩];unfold strIterType;split;exact Draws.strAscii g _ z t;exact Draws.strWide g _ z t
def Zk2{z:Str}{g:TG}{C:TS}{D:X8}{f:St}(h:Nat->St->Hp->Prop)(I:h 0 f H)
  (L:∀i c p f H,z.cps.toList[i]? = some c->H p=none->h i f H->g (.ref p) f (upd H p (.tup [.int i,.str ⟨#[c]⟩])) λB u=>C {D with nx:=h (i+1),ct:=h (i+1),bk:=D.nx} B u) (hd:∀f H,h z.cps.size f H->D.nx f H) :
  ∃W:Nat->Nat->St->Hp->Prop,(∃m,W 0 m f H)/\∀i m f H,W i m f H ->
   ((LG z).stop i H/\D.nx f H)\/((LG z).go i H/\∃N:St->Hp->Prop,(∀n j,N n j->∃E,E<m/\W (i+1) E n j)/\∀x j,(LG z).yld i H x j->g x f j λB u=>C {D with nx:=N,ct:=N,bk:=D.nx} B u):=by
 erw[⟨λi m f H=>m=z.cps.size - i/\i<=z.cps.size/\h i f H,⟨z.cps.size,by simp,Sk _,I⟩,?_⟩];rintro i m f H ⟨rfl,O,p⟩;by_cases G:i<z.cps.size;erw[.inr ⟨G,h (i+1),λn j J=>⟨z.cps.size - (i+1),(),R,G,J⟩,λv j y=>?_⟩];ext⟨r,c,M,y,rfl,rfl⟩ y;exact L i c r f _ y M p;have e:i=z.cps.size:=by lia
 subst e;exact .inl ⟨Sg _,hd f H p⟩
end L2
namespace K1
open PySem L2
def Yy(x y:Str):Zs (x++y)=Zs x++Zs y:=Array.toList_append
end K1
namespace L2
open PySem PySem.Spec PyProof.Rows
inductive Zk3(xs:List V)(H:Hp)(Q:VK):Prop
 |int (i:Int) (_:xs=[.int i]) (_:i.natAbs.log2<1920) (_:Q (.str (toString i)) H)
 |str (z:Str) (_:xs=[.str z]) (_:Q (.str z) H)
def Zk4:Xk X (.type "str") Zk3:=by
 intro pins s f H j g Q I r h;cases h with
 |int i e c q=>exact XS _ _ _ _ _ _ _ I r ⟨i,e,c,q⟩
 |str z e q =>
  subst e;obtain⟨u,rfl,t,rfl⟩:=Xm r;exact PySem.P.str_of_str ⟨.str z,H,I,⟨_,R⟩,q⟩
inductive Zk5(x:V)(xs:List V)(H:Hp)(Q:VK):Prop|mk (z:Str) (c:Nat) (u r:OH) (_:x=.str z) (_:xs=[.str ⟨#[c]⟩]) (_:z.length<=sizeLine) (_:z.cps.toList=u++r) (_:c∉u) (_:r=[]\/∃r',r=c::r') (_:∀p y1 y2,H p=none->Q (.ref p) (upd H p (.tup [.str ⟨u.toArray⟩,.str y1,.str y2])))
def Zk6:Qs X "str.partition" Zk5:=by
 intro pins s O H x T v P Q I M r h;ext⟨z,c,u,q,rfl,rfl,D,f,E,n,k⟩ h;ext⟨t,rfl⟩ M;obtain⟨w,rfl,y,rfl⟩:=Xm r;have hn:H s.heap.objs.size=none:=I.hok.fresh (Sg _);erw[call_meets F.slot_str_partition (typeIs_str _ _ _) F.entry_str_partition (F.args_str_partition_2 _ _) (meets_str_partition z ⟨#[c]⟩ t y R D) ?_];rcases StrLaws.occ_head z ⟨#[c]⟩ 1 (Sg 1)with⟨j,no⟩|⟨i,S,j,J,no⟩;rw[j];have e:q=[]:=by
  rcases n with h|⟨C,h⟩;exact h;exfalso;erw[no u.length ((Rs z c u.length).mpr ?_)];rw[f,h,Oc (Sg _),Nat.sub_self];rfl
 rw[e,Od]at f;have B:(⟨u.toArray⟩:Str)=z:=by rw[<-f]
 have k:=k _ Str.empty Str.empty hn;rw[B]at k;erw[⟨.ref s.heap.objs.size,_,?_,R,k⟩];exact I.laid (λb o e=>Sc _ e) (Sg _) ⟨by simp only[Sy,List.length_nil];rw[sizeLine_eq];lia,[.str z t,.str Str.empty s.toks,.str Str.empty s.toks],.cons ⟨_,R⟩ (.cons ⟨_,R⟩ (.cons ⟨_,R⟩ .nil)),⟨_,Sd s.heap R,R,0,R⟩⟩;rw[j];have g:=(Rs z c i).mp J;have L:i=u.length:=by
  rcases Nat.lt_trichotomy i u.length with h|h|h;rw[f,List.getElem?_append_left h]at g;exact Ot (SL g) E;exact h;exfalso;erw[no u.length h ((Rs z c u.length).mpr ?_)];rcases n with e|⟨C,e⟩;rw[f,e,Od]at g;have:=(Sr.mp g).1;lia;rw[f,e,Oc (Sg _),Nat.sub_self];rfl
 have G:Builtin.Str.strSub z 0 i=(⟨u.toArray⟩:Str):=by
  unfold Builtin.Str.strSub;congr 1;apply Array.ext';rw[Array.toList_extract,f,L];simp
 have k:=k _ (⟨#[c]⟩:Str) (Builtin.Str.strSub z (i+(⟨#[c]⟩:Str).length) z.length) hn;rw[<-G]at k;erw[⟨.ref s.heap.objs.size,_,?_,R,k⟩];exact I.laid (λb o e=>Sc _ e) (Sg _) ⟨by simp only[Sy,List.length_nil];rw[sizeLine_eq];lia,[.str (Builtin.Str.strSub z 0 i) s.toks,.str ⟨#[c]⟩ y,.str (Builtin.Str.strSub z (i+(⟨#[c]⟩:Str).length) z.length) (s.toks+1)],.cons ⟨_,R⟩ (.cons ⟨_,R⟩ (.cons ⟨_,R⟩ .nil)),⟨_,Sd s.heap R,R,0,R⟩⟩
def Zbf{z:Str}{l:OH}(e:z.cps.toList=List.replicate p 32++l++List.replicate q 32)(B:∀r,l≠32::r)(h1:∀r,l≠r++[32]):Txt.stripChars z (OL " ")=⟨l.toArray⟩:=by
 rw[show OL " "=(⟨#[32]⟩:Str) by lia];by_cases n:l=[];subst n;rw[(ZkX z ⟨#[32]⟩).mpr λc f=>?_]
 decide +kernel
 rw[e,Od]at f;rcases SH.mp f with f|f<;>(rw[(List.mem_replicate.mp f).2];exact SE)
 unfold Txt.stripChars;rw[stripBy_eq];have j:∀c,(#[32]:Array Nat).contains c=true↔c=32:=λc=>by simp
 obtain⟨P,H,L⟩:=lo_facts (#[32]:Array Nat).contains z;obtain⟨Q,S,J,G⟩:=hi_facts (#[32]:Array Nat).contains z _ P;have hn:z.cps.toList.length=z.length:=by simp[Str.length]
 have I:0<l.length:=List.length_pos_iff.mpr n;have len:z.length=p+l.length+q:=by rw[<-hn,e];simp;lia
 have O:∀k,k<p->z.cps.getD k 0=32:=λk i=>by
  rw[<-getD_list,e,List.getD_eq_getElem?_getD,Oe,List.getElem?_append_left (by simpa using i),List.getElem?_replicate_of_lt i];rfl
 have x:∀k,(h:k<l.length)->z.cps.getD (p+k) 0=l[k]:=λk i=>by
  rw[<-getD_list,e,List.getD_eq_getElem?_getD,List.getElem?_append_left (by simp;lia),Oc (by simp),SA,show p+k - p=k by lia,Ss i];rfl
 have M:∀k,p+l.length<=k->k<z.length->z.cps.getD k 0=32:=λk i T=>by
  rw[<-getD_list,e,List.getD_eq_getElem?_getD,Oc (by simp;lia),List.getElem?_replicate_of_lt (by simp;lia)];rfl
 have C:l[0]≠32:=λh=>by
  cases l with
  |nil=>exact n R
  |cons c r=>exact B r (by rw[show c=32 from h])
 have y:l[l.length - 1]≠32:=λh=>h1 l.dropLast (by
  have g:l.getLast n=32:=by rwa[List.getLast_eq_getElem]
  rw[<-g,List.dropLast_concat_getLast])
 have D:stripLo (#[32]:Array Nat).contains true z=p:=by
  rcases Nat.lt_trichotomy (stripLo (#[32]:Array Nat).contains true z) p with h|h|h;exfalso;rcases L with v|v;omega;rw[O _ h,(j 32).mpr R]at v;cases v;exact h;exact Ot ((j _).mp (H p h)) (by have:=x 0 I;rw[Nat.add_zero]at this;rwa[this])
 have E:stripHi (#[32]:Array Nat).contains true z (stripLo (#[32]:Array Nat).contains true z)=p+l.length:=by
  rcases Nat.lt_trichotomy (stripHi (#[32]:Array Nat).contains true z (stripLo (#[32]:Array Nat).contains true z)) (p+l.length)with h|h|h;exfalso;have g:=(j _).mp (J (p+(l.length - 1)) () ());rw[x _ ()]at g;exact y g;exact h;exfalso;rcases G with u|u;omega;rw[M _ () (),(j 32).mpr R]at u;cases u
 rw[E,D];show(⟨z.cps.extract p (p+l.length)⟩:Str)=⟨l.toArray⟩;congr 1;apply Array.ext';rw[Array.toList_extract,e];simp
inductive Zk7(K:Oy)(Q:VK)(x:V)(st:Option Int)(H2:Hp):Prop|mk a xs ys (_:(st=some 1/\ys=xs\/st=some (-1)/\ys=xs.reverse)) (_:x=.ref a) (_:Zd K H2 a xs) (_:∀p,H2 p=none->Q (.ref p) (upd H2 p (.lst ys)))
def Zk8(K:Oy)(h:TE)(i:TO):TE:=λc H Q=>h c H λx f=>i c f λst g=>Zk7 K Q x st g
def Zk9{e st:Expr}{j:TE}{n:TO}{J S:Pos}(G:PE X e j)(D:PO X (some st) n):PE X (.Subscript e (.Slice none none (some st) J) S) (Zk8 X.K j n):=by
 intro pins s g H b0 I h;erw[Subscript_ (ZA (G pins s g H _ I h) λv Y ⟨a0,x,M,r1,E⟩=>?_)];erw[wpAny_Slice ?_];rw[evalPart_none];erw[Sb (Sb ?_)];erw[ZA (D pins Y g x _ M E) λC s2 ⟨Z,U,B,ZR,O⟩=>?_];ext⟨a,P,L,Q,rfl,y,q⟩ O;cases r1;have c:Zb X pins g U {s2 with heap:=s2.heap.push {cls:=.type "slice",data:=.fields #[.none,.none,C]} }:=B.kept (t':=s2.toks) λb ob q=>Sc _ q;obtain⟨f,r,i,u⟩:=c.list y;have hlen:=r.length;erw[tail_any (ops:=[.ref a,.ref s2.heap.objs.size]) (T := "list") i.isList.typeIs slot_list_getitem.lookup ?_ (by with_unfolding_all rfl)];rcases Q with⟨rfl,rfl⟩|⟨rfl,rfl⟩;erw[wpAny_getItem_list_slice i.isList (Heap.IsSliceOf.new ..) .none .none ZR (by simp) ?_ (by rw[SO]<;>omega)];rw[show slicePick f.toArray none none (some 1)=slicePick f.toArray none none none from R,slicePick_all];erw[⟨.ref _,_,c.laid (t':=s2.toks) (o:=.lst L) (λb ob q=>Sc _ q) (Sg _) ?_,R,q _ (c.hok.fresh (Sg _))⟩];exact⟨u,f,0,r,Sd _ R⟩;erw[wpAny_getItem_list_slice i.isList (Heap.IsSliceOf.new ..) .none .none ZR (by simp) ?_ (by rw[SO]<;>omega)];rw[W.krv_pick];erw[⟨.ref _,_,c.laid (t':=s2.toks) (o:=.lst P.reverse) (λb ob q=>Sc _ q) (Sg _) ?_,R,q _ (c.hok.fresh (Sg _))⟩];exact⟨by rwa[List.length_reverse],f.reverse,0,RL r,Sd _ R⟩
end L2
namespace K1
open PySem L2
structure ZqE(lt:Addr)(q:Str)(H:Hp):Prop where
 ex:∃ps,H lt=some (.tbl ps)/\TriplesOk ps.toList/\∀pos v,codeAmong pos ps.toList=some v->∃a,v=.ref a/\H a=some (ZjW a q)
end K1
namespace L2
open PySem PySem.Spec PyProof.Rows
structure Z0(K:Oy)(mg:Ox)(x:Str)(st:Stmt)(ps:OD)(f:Addr)(d:OK):Prop where
 F:Uc K x x st f d
 m:mg x=some (.ref f)
 b:XT K d ps []
structure DM(K:Oy)(x:Str)(st:Stmt)(f:Addr)(d:OK):Prop where
 a:W.nsIn K mainGlobals x=some (some (.ref f))
 F:Uc K x x st f d
def Z2{h:Heap}{x:Str}{st:Stmt}{i:OD}{f:Addr}{d:OK}(X:K.In h)(G:h.Ns mainGlobals mg)(p:DM K x st f d)
  (j:∀(us:OC),us.length=i.length->∀(kV u n:Value) (an:OG) (cdv ct:Value),bindArgs (W.fnOf x x (Q3 st) (U1 st) (Zv st) .none kV u n an cdv ct) ⟨us,[]⟩=pure (i.zip us)):Z0 K mg x st i f d :=
 ⟨p.F,W.mg_of X G p.a,p.F.binds λa b c d e g us l=>j us l a b c d e g⟩
structure Z3(K:Oy)(C:Addr)(x q:Str)(st:Stmt)(ps:OD)(f:Addr)(d:OK):Prop where
 F:Uc K x q st f d
 me:Yr K C x f
 b:XT K d ps []
structure MM(K:Oy)(C:Addr)(x q:Str)(st:Stmt)(f:Addr)(d:OK):Prop where
 me:Yr K C x f
 F:Uc K x q st f d
def Z6{C:Addr}{x q:Str}{st:Stmt}{h:OD}{f:Addr}{d:OK}(p:MM K C x q st f d)
  (i:∀(us:OC),us.length=h.length->∀(kV n j:Value) (an:OG) (cdv ct:Value),bindArgs (W.fnOf x q (Q3 st) (U1 st) (Zv st) .none kV n j an cdv ct) ⟨us,[]⟩=pure (h.zip us)):Z3 K C x q st h f d :=
 ⟨p.F,p.me,p.F.binds λa b c d e g us l=>i us l a b c d e g⟩
def U9{C:Addr}{f:ClassData}(c:W.clsIn K C=some f)(g1:W.findIn K (.ref C) "__getattribute__"=some (some (.builtin "BaseException.__getattribute__"))) (g2:W.findIn K (.ref C) "__getattr__"=some none) (g3:W.findIn K (.ref C) "__class__"=some (some (.builtin "object.__class__"))) (g4:W.mroIn K C (.type "object")=some true) (g5:W.mroIn K C (.type "BaseException")=some true) (g6:W.specialIn K (.builtin "object.__class__") "__get__"=some (some (.builtin "getset_descriptor.__get__"))) (g7:W.takesIn K (.builtin "object.__class__")=some true):XE K C:=⟨by rw[c];rfl,g1,g2,g3,g4,g5,g6,g7⟩
def KX(K:Oy)(C:Addr):List (Addr×Bool)->Prop
 |[]=>True
 |p::L=>W.kitOne K (.ref C) (.ref p.1)=some p.2/\KX K C L
def Qa{C:Addr}:KX K C []:=trivial
def Zz{N P:OD}{i:Scope}(h:(decide (i.kind=.function) && !i.isCoroutine && !i.isGenerator && decide N.Nodup && decide (N.take P.length=P) && P.all (λx=>decide (i.names.lookup x=some .local\/i.names.lookup x=some .cell)) && i.names.all (λy=>decide (y.2≠.free)))=true):Zx N P i:=by
 simp only[Bool.and_eq_true,decide_eq_true_eq,Bool.not_eq_true',List.all_eq_true]at h;ext⟨⟨⟨⟨⟨⟨a,b⟩,c⟩,d⟩,e⟩,f⟩,g⟩ h;exact⟨a,b,c,d,e,f,g⟩
section
variable{CX:WG}{k j:Nat}{f C:Addr}{fd:OK}{ps:OD}{sp:Sp}{E:XK}{x m q:Str}{st:Stmt}{e o:Expr}{es:OE}{t:TA}{ta:TE}{p apos:Pos}
def Zt(D:Z0 X.K X.mg x st ps f fd)(F:Zo X.prog X.w X.K X.mg X.base CX k f fd ps sp)(i:YE j X.A)(c:Vn CX X E)(ha:PA X (e::es) t)(n:k<=j:=by lia)(g:Gl X x:=by rfl)(u:(x==("__debug__" : Str))=false:=by lia) (v:starEach (e::es) X.env=(false,eval e X.env)::starEach es X.env:=by rfl) (h:(backTo pos (starEach es X.env)).any (·.1)=false:=by rfl) :
  PE X (.Call (.Name x p) (e::es) [] pos) (Re sp [] E t):=Xu F (i.mono n) g D.m D.F.kp D.b .nil c ha u v h
end
inductive ZqF(K:Oy)(xs:List V)(H:Hp)(Q:VK):Prop|mk (a C D:Addr) (b:Bool) (_:xs=[.ref a,.ref D]) (_:H a=some (Lf a (.ref C))) (_:XE K C) (_:W.kitOne K (.ref C) (.ref D)=some b) (_:Q (.bl b) H)
inductive ZqG(K:Oy)(xs:List V)(H:Hp)(Q:VK):Prop|mk (a C:Addr) (T:String) (b:Bool) (_:xs=[.ref a,.ty T]) (_:H a=some (Lf a (.ref C))) (_:XE K C) (_:W.kitOne K (.ref C) (.type T)=some b) (_:Q (.bl b) H)
def kx:X.nox.K=X.K:=rfl
def ky{CX:WG}{N:OD}{q:Str}{c:Scope}{f:Addr}{g:Value}{o:List Env}{E:XK}:(VR CX P w K mg base N q c f g A o s H E).K=K:=rfl
def Sq1{c:TS}{D:X8}{f:St}(h:let d:=D;let g:=c d;let s:=f;g s H):(c) D f H:=h
def Gq1{f:TS}{D:X8}{c:St}{i:Nat}{x:V}(h:let d:=D;let g:=f d;let s:=c.set i (some x);g s H):YA i x c H (λc H=>(f) D c H):=h
def Sq2(h:let d:=D;let i:=t2 d;let g:=f {d with nx:=i};let s:=c;g s H):(Yh f t2) D c H:=h
def Gq2{c:St}(h:let d:=D;let j:=t2 d;let g:=f {d with nx:=j};let s:=c.set i (some x);g s H):YA i x c H (λc H=>(Yh f t2) D c H):=h
def Sq3(h:let d:=D;let g:=t3 d;let j:=t2 {d with nx:=g};let i:=f {d with nx:=j};let s:=c;i s H):(Yh f (Yh t2 t3)) D c H:=h
def Sq4(h:let d:=D;let n:=c d;let i:=t3 {d with nx:=n};let u:=t2 {d with nx:=i};let j:=g {d with nx:=u};let s:=f;j s H):(Yh g (Yh t2 (Yh t3 c))) D f H:=h
def Sq5(h:let d:=D;let v:=g d;let u:=c {d with nx:=v};let j:=t3 {d with nx:=u};let x:=t2 {d with nx:=j};let n:=i {d with nx:=x};let s:=f;n s H):(Yh i (Yh t2 (Yh t3 (Yh c g)))) D f H:=h
def Gq5{c:St}(h:let d:=D;let y:=g d;let v:=f {d with nx:=y};let n:=t3 {d with nx:=v};let B:=t2 {d with nx:=n};let u:=j {d with nx:=B};let s:=c.set i (some x);u s H):YA i x c H (λc H=>(Yh j (Yh t2 (Yh t3 (Yh f g)))) D c H):=h
def Sq6(h:let d:=D;let x:=c d;let y:=i {d with nx:=x};let v:=f {d with nx:=y};let n:=t3 {d with nx:=v};let B:=t2 {d with nx:=n};let u:=j {d with nx:=B};let s:=g;u s H):(Yh j (Yh t2 (Yh t3 (Yh f (Yh i c))))) D g H:=h
def Sq7(h:let d:=D;let x:=n d;let B:=c {d with nx:=x};let C:=i {d with nx:=B};let y:=f {d with nx:=C};let u:=t3 {d with nx:=y};let E:=t2 {d with nx:=u};let v:=j {d with nx:=E};let s:=g;v s H):(Yh j (Yh t2 (Yh t3 (Yh f (Yh i (Yh c n)))))) D g H:=h
def Gq7{c:St}(h:let d:=D;let B:=u d;let E:=f {d with nx:=B};let G:=j {d with nx:=E};let C:=g {d with nx:=G};let v:=t3 {d with nx:=C};let I:=t2 {d with nx:=v};let y:=n {d with nx:=I};let s:=c.set i (some x);y s H):YA i x c H (λc H=>(Yh n (Yh t2 (Yh t3 (Yh g (Yh j (Yh f u)))))) D c H):=h
def Sq8(h:let d:=D;let B:=f d;let y:=u {d with nx:=B};let E:=c {d with nx:=y};let G:=j {d with nx:=E};let C:=g {d with nx:=G};let v:=t3 {d with nx:=C};let I:=t2 {d with nx:=v};let x:=n {d with nx:=I};let s:=i;x s H):(Yh n (Yh t2 (Yh t3 (Yh g (Yh j (Yh c (Yh u f))))))) D i H:=h
def Sq10(h:let d:=D;let O:=g d;let I:=f {d with nx:=O};let M:=x {d with nx:=I};let L:=u {d with nx:=M};let G:=v {d with nx:=L};let y:=j {d with nx:=G};let E:=i {d with nx:=y};let B:=t3 {d with nx:=E};let J:=t2 {d with nx:=B};let C:=n {d with nx:=J};let s:=c;C s H):(Yh n (Yh t2 (Yh t3 (Yh i (Yh j (Yh v (Yh u (Yh x (Yh f g))))))))) D c H:=h
section
variable{a b c e o i:Expr}{es:OE}{ta tb td ty te:TE}{t:TA}{r:R2}{op:CmpOp}{pos' p:Pos}{x:Str}
def Zc(h1:PE X f g)(h:Xv f=true:=by rfl):PA X [f] (Y8 g Vm):=(Xn h1 Xz h)
def ZB(h1:PE X g h)(u:PE X f t2)(j:Xv g=true:=by rfl)(n:Xv f=true:=by rfl):PA X [g,f] (Y8 h (Y8 t2 Vm)):=(Xn h1 (Xn u Xz n) j)
def Yk(h1:PE X g j)(v:PE X f t2)(B:PE X h t3)(n:Xv g=true:=by rfl)(u:Xv f=true:=by rfl)(y:Xv h=true:=by rfl):PA X [g,f,h] (Y8 j (Y8 t2 (Y8 t3 Vm))):=(Xn h1 (Xn v (Xn B Xz y) u) n)
def Uk(h1:PE X h u)(B:PE X g t2)(G:PE X j t3)(y:PE X f n)(v:Xv h=true:=by rfl)(C:Xv g=true:=by rfl)(E:Xv j=true:=by rfl)(D:Xv f=true:=by rfl):PA X [h,g,j,f] (Y8 u (Y8 t2 (Y8 t3 (Y8 n Vm)))):=(Xn h1 (Xn B (Xn G (Xn y Xz D) E) C) v)
def Qb(h1:PE X n y)(E:PE X g t2)(L:PE X j t3)(C:PE X f u)(B:PE X h v)(D:Xv n=true:=by rfl)(G:Xv g=true:=by rfl)(J:Xv j=true:=by rfl)(H:Xv f=true:=by rfl)(I:Xv h=true:=by rfl):PA X [n,g,j,f,h] (Y8 y (Y8 t2 (Y8 t3 (Y8 u (Y8 v Vm))))):=(Xn h1 (Xn E (Xn L (Xn C (Xn B Xz I) H) J) G) D)
def pa6(h1:PE X u B)(L:PE X h t2)(Q:PE X j t3)(I:PE X f v)(D:PE X g y)(J:PE X n C)(E:Xv u=true:=by rfl)(G:Xv h=true:=by rfl)(M:Xv j=true:=by rfl)(P:Xv f=true:=by rfl)(H:Xv g=true:=by rfl)(O:Xv n=true:=by rfl):PA X [u,h,j,f,g,n] (Y8 B (Y8 t2 (Y8 t3 (Y8 v (Y8 y (Y8 C Vm)))))):=(Xn h1 (Xn L (Xn Q (Xn I (Xn D (Xn J Xz O) H) P) M) G) E)
def Zq(h:XA X r)(ha:PE X a ta)(f:PE X b tb)(g:gJ b:=by exact λ_ _=>R):PE X (.Subscript a b pos) (D6 r ta tb):=ZhP h ha f g
def YR(h:YE k X.A)(f:PE X o td)(hi:PE X i ty)(g:RJ i:=by exact λ_ _=>R):PE X (.Subscript o i pos) (Za0 td ty):=ZjK (Ud h) f hi g
def ZR(k:Nat)(j:X.N.Nodup)(n:PE X e te)(hi:X.N[k]? = some x:=by rfl)(f:QY X.env.scope x:=by first|exact .inl rfl|exact .inr rfl)(h:swapsWith e (some (.Name x pos')) pos.line X.env=pure false:=by rfl)(g:X.fn x=true\/X.env.scope.names.lookup x=some .local:=by first|exact .inl rfl|exact .inr rfl|assumption):PS X (.Assign [.Name x pos'] e pos) (P4 te (YA k)):=ZgW j hi f n h g
def ZJ(k:Nat)(h:X.N.Nodup)(hi:X.N[k]? = some x:=by rfl)(g:QY X.env.scope x:=by first|exact .inl rfl|exact .inr rfl)(f:X.fn x=true\/X.env.scope.names.lookup x=some .local:=by first|exact .inl rfl|exact .inr rfl|assumption):PG X (.Name x pos) (YA k):=P2 h hi g f
def Xr{iter : Expr}{body:List Stmt}{tb:TS}(hi:PI X f iter h)(j:PG X f g)(n:X1 X body tb)(v:PassesOwn (model X.prog X.w) X.A X.env X.xe:=by exact PassesOwn.never)(y:X.calm=true:=by rfl)(u:∀x,foldedSetIterable iter X.env x=pure x:=by intro _;rfl):PS X (.For f iter body [] pos) (kK h g tb):=MJ v y hi j n u
def ZV(f:YD X (compareOp op) r)(ha:PE X a ta)(g:PE X b tb)(h:op≠.In:=by lia)(j:op≠.NotIn:=by lia):PT X (.Compare a [op] [b] pos) (Ra (D6 r ta tb)):=K5 f ha g (XD _ h j)
def Yp{id:String}{r:List V->Hp->VK->Prop}(n:Xk X (.builtin id) r)(hm:X.mg x=none)(h:bootBuiltins x=some (.builtin id))(ha:PA X (e::es) t)(f:Gl X x:=by rfl)(hn:x ≠ "__name__" := by lia) (j:(x==("__debug__" : Str))=false:=by lia) (u:starEach (e::es) X.env=(false,eval e X.env)::starEach es X.env:=by rfl) (g:(backTo pos (starEach es X.env)).any (·.1)=false:=by rfl):PE X (.Call (.Name x p) (e::es) [] pos) (Rg r t):=gH n f hm h ha hn j u g
end
end L2
local macro_rules|`(tactic| sleep $n) => `(tactic| ((try dsimp only[L2.kx, L2.ky]); erw[$(Lean.mkIdent (.str (.str .anonymous "L2") (if n.getNat<99 then s!"Sq{n.getNat}" else s!"Gq{n.getNat-100}"))) ?_]; intros))
namespace K08
open PySem L2 K1
seal PySem.wpAny
def top(i:Nat):Stmt:=PySem.Challenge.pw_roadbook_k08_texts_told_and_read.main.body.getD i (.Pass ⟨0,0,0,0⟩)
abbrev RX:Stmt:=top 19
def Zla:Zx ["value"] ["value"] (Zv RX):=Zz ()
abbrev RY:Stmt:=top 20
def Zlb:Zx ["value","least","most"] ["value","least","most"] (Zv RY):=Zz ()
abbrev RZ:Stmt:=top 21
def Zlc:Zx ["value","least","most"] ["value","least","most"] (Zv RZ):=Zz ()
abbrev R0:Stmt:=top 22
def QB:Zx ["values","longest","least","most","floor","value"] ["values","longest","least","most"] (Zv R0):=Zz ()
abbrev R6:Stmt:=top 23
def Zld:Zx ["text"] ["text"] (Zv R6):=Zz ()
abbrev R7:Stmt:=top 24
def Zle:Zx ["text"] ["text"] (Zv R7):=Zz ()
abbrev R9:Stmt:=top 25
def Zlf:Zx ["value"] ["value"] (Zv R9):=Zz ()
abbrev Ta:Stmt:=top 26
def Zlg:Zx ["value","named"] ["value","named"] (Zv Ta):=Zz ()
abbrev Tb:Stmt:=top 31
def Zlh:Zx ["number"] ["number"] (Zv Tb):=Zz ()
abbrev Td:Stmt:=top 32
def Zli:Zx ["minute"] ["minute"] (Zv Td):=Zz ()
abbrev Te:Stmt:=top 33
def Zlj:Zx ["text"] ["text"] (Zv Te):=Zz ()
abbrev Tf:Stmt:=top 34
def Tg:Zx ["text","minutes","minute"] ["text"] (Zv Tf):=Zz ()
abbrev Th:Stmt:=top 42
def Zbg:Zx ["rule"] ["rule"] (Zv Th):=Zz ()
abbrev Ti:Stmt:=top 43
def Zlk:Zx ["rule"] ["rule"] (Zv Ti):=Zz ()
abbrev Tj:Stmt:=top 44
def Zll:Zx ["numbers"] ["numbers"] (Zv Tj):=Zz ()
abbrev Tk:Stmt:=top 53
def Zlm:Zx ["rule"] ["rule"] (Zv Tk):=Zz ()
abbrev Tn:Stmt:=top 54
def Tq:Zx ["text","left","rule"] ["text"] (Zv Tn):=Zz ()
abbrev Ts:Stmt:=top 55
def Tu:Zx ["left","deep","word"] ["left","deep"] (Zv Ts):=Zz ()
abbrev Tv:Stmt:=top 56
def Zln:Zx ["left"] ["left"] (Zv Tv):=Zz ()
abbrev Tw:Stmt:=top 57
def Zlo:Zx ["left"] ["left"] (Zv Tw):=Zz ()
abbrev TB:Stmt:=top 58
def Zlp:Zx ["left"] ["left"] (Zv TB):=Zz ()
abbrev TC:Stmt:=top 59
def F4:Zx ["left","signs","bits","weekday","sign"] ["left"] (Zv TC):=Zz ()
abbrev TD:Stmt:=top 61
def Zbh:Zx ["net","rows"] ["net"] (Zv TD):=Zz ()
abbrev TF:Stmt:=top 62
def Zlq:Zx ["words"] ["words"] (Zv TF):=Zz ()
abbrev TH:Stmt:=top 63
def Zlr:Zx ["net","name"] ["net","name"] (Zv TH):=Zz ()
abbrev TJ:Stmt:=top 64
def TK:Zx ["net","name","ticket","zones"] ["net","name"] (Zv TJ):=Zz ()
abbrev TM:Stmt:=top 65
def LH:Zx ["net","name","words","stop","arrive","leave"] ["net","name"] (Zv TM):=Zz ()
abbrev TN:Stmt:=top 79
def Zls:Zx ["name","named"] ["name","named"] (Zv TN):=Zz ()
abbrev TQ:Stmt:=top 80
def Zbi:Zx ["kept","most"] ["kept","most"] (Zv TQ):=Zz ()
abbrev TR:Stmt:=top 81
def Zlt:Zx ["calls"] ["calls"] (Zv TR):=Zz ()
abbrev TU:Stmt:=top 82
def Zlu:Zx ["call","ahead"] ["call","ahead"] (Zv TU):=Zz ()
abbrev TV:Stmt:=top 85
def LI:Zx ["text","net","number","row","words"] ["text"] (Zv TV):=Zz ()
abbrev TW:Stmt:=top 86
def Zbj:Zx ["row","bare"] ["row"] (Zv TW):=Zz ()
abbrev TX:Stmt:=top 87
def Zbk:Zx ["net","number","words","e"] ["net","number","words"] (Zv TX):=Zz ()
abbrev TY:Stmt:=top 88
def Zbl:Zx ["words","count"] ["words"] (Zv TY):=Zz ()
abbrev TZ:Stmt:=top 89
def Zlv:Zx ["net","words"] ["net","words"] (Zv TZ):=Zz ()
abbrev T0:Stmt:=top 90
def Zbm:Zx ["word","number"] ["word"] (Zv T0):=Zz ()
abbrev T1:Stmt:=top 91
def Zlw:Zx ["word"] ["word"] (Zv T1):=Zz ()
abbrev T5:Stmt:=top 92
def Zlx:Zx ["words"] ["words"] (Zv T5):=Zz ()
abbrev T7:Stmt:=top 95
def Zly:Zx ["_law_script","_law_k"] ["_law_script","_law_k"] (Zv T7):=Zz ()
abbrev zA:Stmt:=top 96
def Zbn:Zx ["_law_cell","_law_k","_law_number"] ["_law_cell","_law_k"] (Zv zA):=Zz ()
abbrev zB:Stmt:=top 97
def Nv:Zx ["_law_seed","_law_k","_law_letters","_law_tail","_law_at"] ["_law_seed","_law_k"] (Zv zB):=Zz ()
abbrev zC:Stmt:=top 98
def F5:Zx ["_law_number","_law_deep","_law_more","_law_way","_law_starts","_law_inner"] ["_law_number","_law_deep"] (Zv zC):=Zz ()
abbrev zD:Stmt:=top 99
def Zbo:Zx ["_law_told"] ["_law_told"] (Zv zD):=Zz ()
abbrev zE:Stmt:=top 100
def zF:Zx ["_law_told","_law_day","_law_one","_law_other"] ["_law_told","_law_day"] (Zv zE):=Zz ()
abbrev zG:Stmt:=top 101
def Ul:Zx ["_law_number","_law_stops","_law_many","_law_found","_law_time","_law_last","_law_k","_law_mixed_here","_law_left","_law_arrive","_law_leave"] ["_law_number","_law_stops","_law_many"] (Zv zG):=Zz ()
abbrev zH:Stmt:=top 102
def Zlz:Zx [] [] (Zv zH):=Zz ()
abbrev zI:Stmt:=top 103
def Vt:Zx ["_law_seed","_law_world_here","_law_names","_law_k","_law_stops","_law_pair","_law_mixed_here","_law_zones","_law_rules"] ["_law_seed"] (Zv zI):=Zz ()
abbrev zJ:Stmt:=top 104
def VF:Zx ["_law_world_here","_law_net","_law_name_here","_law_told","_law_pair","_law_one","_law_other","_law_minutes"] ["_law_world_here"] (Zv zJ):=Zz ()
abbrev zK:Stmt:=top 105
def Zbp:Zx ["_law_told"] ["_law_told"] (Zv zK):=Zz ()
abbrev zL:Stmt:=top 106
def ZlA:Zx ["_law_minute"] ["_law_minute"] (Zv zL):=Zz ()
abbrev zM:Stmt:=top 107
def WL:Zx ["_law_world_here","_law_stops","_law_walks","_law_rules","_law_tickets","_law_name_here","_law_told","_law_words","_law_trips","_law_stop","_law_arrive","_law_leave"] ["_law_world_here"] (Zv zM):=Zz ()
abbrev zN:Stmt:=top 108
def Nw:Zx ["_law_net","_law_world_here","_law_name_here","_law_told","_law_days_here"] ["_law_net","_law_world_here"] (Zv zN):=Zz ()
abbrev zO:Stmt:=top 109
def QC:Zx ["_law_rows_here","_law_number","_law_text","_law_k","_law_row","_law_mixed_here","_law_ahead","_law_behind"] ["_law_rows_here","_law_number"] (Zv zO):=Zz ()
abbrev zP:Stmt:=top 110
def VG:Zx ["_law_world_here","_law_number","_law_sorts","_law_orders","_law_rows_here","_law_sort","_law_text","_law_net","_law_again","_law_told","_law_whole"] ["_law_world_here","_law_number"] (Zv zP):=Zz ()
abbrev zQ:Stmt:=top 111
def Qc:Zx ["_law_script","_law_worlds","_law_nets","_law_k","_law_whole","_law_sort","_law_told"] ["_law_script"] (Zv zQ):=Zz ()
abbrev zR:Stmt:=Z5 (top 45) 0
def ZlB:Zx ["self"] ["self"] (Zv zR):=Zz ()
abbrev zS:Stmt:=Z5 (top 45) 1
def ZlC:Zx ["self"] ["self"] (Zv zS):=Zz ()
abbrev zU:Stmt:=Z5 (top 45) 2
def ZlD:Zx ["self","day"] ["self","day"] (Zv zU):=Zz ()
abbrev zV:Stmt:=Z5 (top 45) 3
def ZlE:Zx ["self"] ["self"] (Zv zV):=Zz ()
abbrev zW:Stmt:=Z5 (top 45) 4
def Zbq:Zx ["self"] ["self"] (Zv zW):=Zz ()
abbrev zX:Stmt:=Z5 (top 45) 5
def Zbr:Zx ["self"] ["self"] (Zv zX):=Zz ()
abbrev zY:Stmt:=Z5 (top 46) 0
def ZlF:Zx ["self","bits"] ["self","bits"] (Zv zY):=Zz ()
abbrev zZ:Stmt:=Z5 (top 46) 1
def ZlG:Zx ["self"] ["self"] (Zv zZ):=Zz ()
abbrev yA:Stmt:=Z5 (top 46) 2
def ZlH:Zx ["self","day"] ["self","day"] (Zv yA):=Zz ()
abbrev yB:Stmt:=Z5 (top 46) 3
def ZlI:Zx ["self"] ["self"] (Zv yB):=Zz ()
abbrev yC:Stmt:=Z5 (top 47) 0
def ZlJ:Zx ["self","first","last","rule"] ["self","first","last","rule"] (Zv yC):=Zz ()
abbrev yD:Stmt:=Z5 (top 47) 1
def Zbs:Zx ["self"] ["self"] (Zv yD):=Zz ()
abbrev yE:Stmt:=Z5 (top 47) 2
def ZlK:Zx ["self"] ["self"] (Zv yE):=Zz ()
abbrev yF:Stmt:=Z5 (top 47) 3
def Zbt:Zx ["self","day"] ["self","day"] (Zv yF):=Zz ()
abbrev yG:Stmt:=Z5 (top 47) 4
def Zbu:Zx ["self"] ["self"] (Zv yG):=Zz ()
abbrev yH:Stmt:=Z5 (top 48) 0
def ZlL:Zx ["self","length","starts"] ["self","length","starts"] (Zv yH):=Zz ()
abbrev yI:Stmt:=Z5 (top 48) 1
def ZlM:Zx ["self"] ["self"] (Zv yI):=Zz ()
abbrev yJ:Stmt:=Z5 (top 48) 2
def ZlN:Zx ["self","day"] ["self","day"] (Zv yJ):=Zz ()
abbrev yK:Stmt:=Z5 (top 48) 3
def ZlO:Zx ["self"] ["self"] (Zv yK):=Zz ()
abbrev yL:Stmt:=Z5 (top 49) 0
def ZlP:Zx ["self","one","other"] ["self","one","other"] (Zv yL):=Zz ()
abbrev yM:Stmt:=Z5 (top 49) 1
def Zbv:Zx ["self"] ["self"] (Zv yM):=Zz ()
abbrev yN:Stmt:=Z5 (top 49) 2
def ZlQ:Zx ["self"] ["self"] (Zv yN):=Zz ()
abbrev yO:Stmt:=Z5 (top 49) 3
def Zbw:Zx ["self","day"] ["self","day"] (Zv yO):=Zz ()
abbrev yP:Stmt:=Z5 (top 49) 4
def Zbx:Zx ["self"] ["self"] (Zv yP):=Zz ()
abbrev yQ:Stmt:=Z5 (top 50) 0
def ZlR:Zx ["self","one","other"] ["self","one","other"] (Zv yQ):=Zz ()
abbrev yR:Stmt:=Z5 (top 50) 1
def Zby:Zx ["self"] ["self"] (Zv yR):=Zz ()
abbrev yS:Stmt:=Z5 (top 50) 2
def ZlS:Zx ["self"] ["self"] (Zv yS):=Zz ()
abbrev yT:Stmt:=Z5 (top 50) 3
def Zbz:Zx ["self","day"] ["self","day"] (Zv yT):=Zz ()
abbrev yU:Stmt:=Z5 (top 50) 4
def ZbA:Zx ["self"] ["self"] (Zv yU):=Zz ()
abbrev yV:Stmt:=Z5 (top 51) 0
def ZlT:Zx ["self","days","rule"] ["self","days","rule"] (Zv yV):=Zz ()
abbrev yW:Stmt:=Z5 (top 51) 1
def ZbB:Zx ["self"] ["self"] (Zv yW):=Zz ()
abbrev yX:Stmt:=Z5 (top 51) 2
def ZlU:Zx ["self"] ["self"] (Zv yX):=Zz ()
abbrev yY:Stmt:=Z5 (top 51) 3
def ZbC:Zx ["self","day"] ["self","day"] (Zv yY):=Zz ()
abbrev yZ:Stmt:=Z5 (top 51) 4
def ZbD:Zx ["self"] ["self"] (Zv yZ):=Zz ()
abbrev xA:Stmt:=Z5 (top 83) 0
def ZlV:Zx ["self"] ["self"] (Zv xA):=Zz ()
abbrev xB:Stmt:=Z5 (top 83) 2
def ZlW:Zx ["self","name","zone","change"] ["self","name","zone","change"] (Zv xB):=Zz ()
abbrev xC:Stmt:=Z5 (top 83) 3
def ZlX:Zx ["self","one","other","minutes"] ["self","one","other","minutes"] (Zv xC):=Zz ()
abbrev xD:Stmt:=Z5 (top 83) 4
def ZbE:Zx ["self","name","rule","kept"] ["self","name","rule"] (Zv xD):=Zz ()
abbrev xE:Stmt:=Z5 (top 83) 5
def ZlY:Zx ["self","name","price","lasts","zones"] ["self","name","price","lasts","zones"] (Zv xE):=Zz ()
abbrev xF:Stmt:=Z5 (top 83) 6
def xG:Zx ["self","name","rule","calls","number","call"] ["self","name","rule","calls"] (Zv xF):=Zz ()
abbrev xH:Stmt:=Z5 (top 83) 7
def ZlZ:Zx ["self","name"] ["self","name"] (Zv xH):=Zz ()
abbrev xI:Stmt:=Z5 (top 83) 8
def Zl0:Zx ["self","name"] ["self","name"] (Zv xI):=Zz ()
abbrev xJ:Stmt:=Z5 (top 83) 9
def Zl1:Zx ["self","call"] ["self","call"] (Zv xJ):=Zz ()
abbrev xK:Stmt:=Z5 (top 83) 10
def Zl2:Zx ["self","one","other"] ["self","one","other"] (Zv xK):=Zz ()
abbrev xL:Stmt:=Z5 (top 83) 11
def Zl3:Zx ["self"] ["self"] (Zv xL):=Zz ()
abbrev xM:Stmt:=Z5 (top 83) 12
def Zl4:Zx ["self"] ["self"] (Zv xM):=Zz ()
abbrev xN:Stmt:=Z5 (top 83) 13
def Zl5:Zx ["self"] ["self"] (Zv xN):=Zz ()
abbrev xO:Stmt:=Z5 (top 83) 14
def Zl6:Zx ["self"] ["self"] (Zv xO):=Zz ()
abbrev xP:Stmt:=Z5 (top 83) 15
def Zl7:Zx ["self"] ["self"] (Zv xP):=Zz ()
abbrev xQ:Stmt:=Z5 (top 83) 16
def Zl8:Zx ["self","stop"] ["self","stop"] (Zv xQ):=Zz ()
abbrev xR:Stmt:=Z5 (top 83) 17
def Zl9:Zx ["self","stop"] ["self","stop"] (Zv xR):=Zz ()
abbrev xS:Stmt:=Z5 (top 83) 18
def Zma:Zx ["self","name"] ["self","name"] (Zv xS):=Zz ()
abbrev xT:Stmt:=Z5 (top 83) 19
def ZbF:Zx ["self","name","row"] ["self","name"] (Zv xT):=Zz ()
abbrev xU:Stmt:=Z5 (top 83) 20
def Zmb:Zx ["self","trip"] ["self","trip"] (Zv xU):=Zz ()
abbrev xV:Stmt:=Z5 (top 83) 21
def Zmc:Zx ["self","trip"] ["self","trip"] (Zv xV):=Zz ()
def xW:bootBuiltins "all"=some (.builtin "all"):=by lia
def Zmd:bootBuiltins "any"=some (.builtin "any"):=by lia
def Zme:bootBuiltins "bool"=some (.type "bool"):=by lia
def F6:bootBuiltins "int"=some (.type "int"):=by lia
def WM:bootBuiltins "isinstance"=some (.builtin "isinstance"):=by lia
def XG:bootBuiltins "len"=some (.builtin "len"):=by lia
def Y6:bootBuiltins "list"=some (.type "list"):=by lia
def Zmf:bootBuiltins "max"=some (.builtin "max"):=by lia
def ZbG:bootBuiltins "set"=some (.type "set"):=by lia
def ZbH:bootBuiltins "sorted"=some (.builtin "sorted"):=by lia
def Xb:bootBuiltins "str"=some (.type "str"):=by lia
def Zmg:bootBuiltins "sum"=some (.builtin "sum"):=by lia
def F7:bootBuiltins "tuple"=some (.type "tuple"):=by lia
set_option genInjectivity false in
structure Ya where
 ZbI:Addr
 ZbJ:FuncData
 ZbK:Addr
 ZbL:FuncData
 ZbM:Addr
 ZbN:FuncData
 xX:Addr
 xY:FuncData
 ZbO:Addr
 ZbP:FuncData
 ZbQ:Addr
 ZbR:FuncData
 ZbS:Addr
 ZbT:FuncData
 ZbU:Addr
 ZbV:FuncData
 ZbW:Addr
 ZbX:FuncData
 ZbY:Addr
 ZbZ:FuncData
 Zb0:Addr
 Zb1:FuncData
 Zb2:Addr
 Zb3:FuncData
 xZ:Addr
 wA:FuncData
 Zb4:Addr
 Zb5:FuncData
 Zb6:Addr
 Zb7:FuncData
 Zb8:Addr
 Zb9:FuncData
 Zca:Addr
 Zcb:FuncData
 Zcc:Addr
 Zcd:FuncData
 Zce:Addr
 Zcf:FuncData
 Zcg:Addr
 Zch:FuncData
 Zci:Addr
 Zcj:FuncData
 Zck:Addr
 Zcl:FuncData
 Zcm:Addr
 Zcn:FuncData
 Zco:Addr
 Zcp:FuncData
 Zcq:Addr
 Zcr:FuncData
 Zcs:Addr
 Zct:FuncData
 Zcu:Addr
 Zcv:FuncData
 Zcw:Addr
 Zcx:FuncData
 wB:Addr
 wC:FuncData
 Zcy:Addr
 Zcz:FuncData
 ZcA:Addr
 ZcB:FuncData
 ZcC:Addr
 ZcD:FuncData
 ZcE:Addr
 ZcF:FuncData
 ZcG:Addr
 ZcH:FuncData
 ZcI:Addr
 ZcJ:FuncData
 ZcK:Addr
 ZcL:FuncData
 ZcM:Addr
 ZcN:FuncData
 ZcO:Addr
 ZcP:FuncData
 ZcQ:Addr
 ZcR:FuncData
 ZcS:Addr
 ZcT:FuncData
 ZcU:Addr
 ZcV:FuncData
 ZcW:Addr
 ZcX:FuncData
 ZcY:Addr
 ZcZ:FuncData
 Zc0:Addr
 Zc1:FuncData
 Zc2:Addr
 Zc3:FuncData
 Zc4:Addr
 Zc5:FuncData
 Zc6:Addr
 Zc7:FuncData
 Zc8:Addr
 Zc9:FuncData
 Zda:Addr
 Zdb:FuncData
 Zdc:Addr
 Zdd:FuncData
 Zde:Addr
 Zdf:FuncData
 Zdg:Addr
 Zdh:FuncData
 Zdi:Addr
 Zdj:FuncData
 Zdk:Addr
 Zdl:FuncData
 Zdm:Addr
 Zdn:FuncData
 Zdo:Addr
 wD:FuncData
 wE:Addr
 wF:FuncData
 Nx:Addr
 Zdp:FuncData
 wG:Addr
 wH:FuncData
 wI:Addr
 wJ:FuncData
 Qd:Addr
 Zdq:FuncData
 Qe:Addr
 Zdr:FuncData
 Ny:Addr
 wK:FuncData
 wL:Addr
 wM:FuncData
 wN:Addr
 wO:FuncData
 wP:Addr
 wQ:FuncData
 Nz:Addr
 wR:FuncData
 wT:Addr
 wU:FuncData
 Zds:Addr
 Zdt:FuncData
 wV:Addr
 wW:FuncData
 wX:Addr
 wY:FuncData
 NB:Addr
 wZ:FuncData
 vA:Addr
 vB:FuncData
 vC:Addr
 vD:FuncData
 vE:Addr
 vF:FuncData
 NC:Addr
 vG:FuncData
 vH:Addr
 vI:FuncData
 Zdu:Addr
 Zdv:FuncData
 vJ:Addr
 vK:FuncData
 vL:Addr
 vM:FuncData
 ND:Addr
 vN:FuncData
 vO:Addr
 vP:FuncData
 Zdw:Addr
 Zdx:FuncData
 vQ:Addr
 vR:FuncData
 vS:Addr
 vT:FuncData
 NE:Addr
 vU:FuncData
 vV:Addr
 vW:FuncData
 Zdy:Addr
 Zdz:FuncData
 vX:Addr
 vY:FuncData
 vZ:Addr
 uA:FuncData
 uB:Addr
 ZdA:FuncData
 ZdB:Addr
 ZdC:FuncData
 ZdD:Addr
 ZdE:FuncData
 ZdF:Addr
 ZdG:FuncData
 ZdH:Addr
 ZdI:FuncData
 ZdJ:Addr
 ZdK:FuncData
 ZdL:Addr
 ZdM:FuncData
 ZdN:Addr
 ZdO:FuncData
 ZdP:Addr
 ZdQ:FuncData
 ZdR:Addr
 ZdS:FuncData
 ZdT:Addr
 ZdU:FuncData
 ZdV:Addr
 ZdW:FuncData
 ZdX:Addr
 ZdY:FuncData
 ZdZ:Addr
 Zd0:FuncData
 Zd1:Addr
 Zd2:FuncData
 Zd3:Addr
 Zd4:FuncData
 Zd5:Addr
 Zd6:FuncData
 Zd7:Addr
 Zd8:FuncData
 Zd9:Addr
 Zea:FuncData
 Zeb:Addr
 Zec:FuncData
 Zed:Addr
 Zee:FuncData
 UJ:Addr
 NG:Addr
 VH:Addr
 Qg:Addr
 QD:Addr
 QE:Addr
 Qh:Addr
 QF:Addr
 QG:Addr
 UK:Addr
 QH:Addr
 Zmh:Addr
 Zmi:Addr
 YJ:Addr
 Vu:Addr
 XW:Addr
 WN:Addr
 XH:Addr
 XI:Addr
 Wg:Addr
 ZL:Addr
 kf:W.Frag
structure Zu(K:Oy)(mg:Ox)(t:Ya):Prop where
 Zng:mg "RoadError"=some (.ref t.UJ)
 Ph:mg "BadClock"=some (.ref t.NG)
 UN:mg "BadRule"=some (.ref t.VH)
 qM:mg "TooMany"=some (.ref t.Qg)
 Znh:mg "BadName"=some (.ref t.QD)
 ZeF:mg "Twice"=some (.ref t.QE)
 Zni:mg "NoStop"=some (.ref t.Qh)
 ZeG:mg "NoRule"=some (.ref t.QF)
 Znj:mg "NoTicket"=some (.ref t.QG)
 Znk:mg "NoTrip"=some (.ref t.UK)
 ZeH:mg "BadNumber"=some (.ref t.QH)
 ZqN:mg "BadCalls"=some (.ref t.Zmh)
 ZqO:mg "BadRow"=some (.ref t.Zmi)
 A8:mg "Rule"=some (.ref t.YJ)
 qN:mg "Week"=some (.ref t.Vu)
 qO:mg "Span"=some (.ref t.XW)
 qP:mg "Each"=some (.ref t.WN)
 qQ:mg "Either"=some (.ref t.XH)
 qR:mg "Both"=some (.ref t.XI)
 qS:mg "But"=some (.ref t.Wg)
 Pi:mg "Net"=some (.ref t.ZL)
 uC:mg "all"=none
 Zmj:mg "any"=none
 Zmk:mg "bool"=none
 NH:mg "enumerate"=none
 F8:mg "int"=none
 WO:mg "isinstance"=none
 XJ:mg "len"=none
 Y1:mg "list"=none
 Zml:mg "max"=none
 WP:mg "range"=none
 Zmm:mg "reversed"=none
 Zef:mg "set"=none
 Zeg:mg "sorted"=none
 Xc:mg "str"=none
 Zmn:mg "sum"=none
 F9:mg "tuple"=none
 Zmo:∃tk,mg "FIGURES"=some (.str (OL "0123456789") tk)
 Zmp:∃tk,mg "MOST_FIGURES"=some (.int 5 tk)
 Zmq:∃tk,mg "LETTERS"=some (.str (OL "abcdefghijklmnopqrstuvwxyz") tk)
 Zmr:∃tk,mg "MOST_LETTERS"=some (.int 8 tk)
 uD:∃tk,mg "LAST_DAY"=some (.int 9999 tk)
 NI:∃tk,mg "HOUR_MINUTES"=some (.int 60 tk)
 NJ:∃tk,mg "LAST_MINUTE"=some (.int 2879 tk)
 uE:∃tk,mg "WEEK_DAYS"=some (.int 7 tk)
 Zms:∃tk,mg "ALL_WEEK"=some (.int 127 tk)
 Zmt:∃tk,mg "MOST_LENGTH"=some (.int 28 tk)
 Zeh:∃tk,mg "MOST_LISTED"=some (.int 12 tk)
 Zmu:∃tk,mg "MOST_WEIGHT"=some (.int 15 tk)
 Zei:∃tk,mg "MOST_DEPTH"=some (.int 8 tk)
 Zmv:∃tk,mg "MOST_STOPS"=some (.int 8 tk)
 Zmw:∃tk,mg "MOST_WALKS"=some (.int 12 tk)
 Zmx:∃tk,mg "MOST_RULES"=some (.int 6 tk)
 Zmy:∃tk,mg "MOST_TICKETS"=some (.int 3 tk)
 Zmz:∃tk,mg "MOST_TRIPS"=some (.int 10 tk)
 uF:∃tk,mg "LAST_ZONE"=some (.int 6 tk)
 ZmA:∃tk,mg "MOST_CHANGE"=some (.int 30 tk)
 ZmB:∃tk,mg "MOST_WALKED"=some (.int 60 tk)
 ZmC:∃tk,mg "MOST_PRICE"=some (.int 10000 tk)
 ZmD:∃tk,mg "MOST_LASTING"=some (.int 1440 tk)
 ZmE:∃tk,mg "LEAST_CALLS"=some (.int 2 tk)
 ZmF:∃tk,mg "MOST_CALLS"=some (.int 6 tk)
 Zej:Z0 K mg "is_any_number" RX ["value"] t.ZbI t.ZbJ
 Qi:Z0 K mg "is_number" RY ["value","least","most"] t.ZbK t.ZbL
 QI:Z0 K mg "check_number" RZ ["value","least","most"] t.ZbM t.ZbN
 LJ:Z0 K mg "are_rising" R0 ["values","longest","least","most"] t.xX t.xY
 NK:Z0 K mg "are_figures" R6 ["text"] t.ZbO t.ZbP
 NL:Z0 K mg "number_by" R7 ["text"] t.ZbQ t.ZbR
 Zek:Z0 K mg "is_name" R9 ["value"] t.ZbS t.ZbT
 G0:Z0 K mg "is_known" Ta ["value","named"] t.ZbU t.ZbV
 uG:Z0 K mg "two_figures" Tb ["number"] t.ZbW t.ZbX
 uH:Z0 K mg "clock_text" Td ["minute"] t.ZbY t.ZbZ
 Zel:Z0 K mg "has_clock_form" Te ["text"] t.Zb0 t.Zb1
 uI:Z0 K mg "minute_of" Tf ["text"] t.Zb2 t.Zb3
 UL:Z0 K mg "copy_of" Th ["rule"] t.xZ t.wA
 LK:Z0 K mg "check_size" Ti ["rule"] t.Zb4 t.Zb5
 uJ:Z0 K mg "list_text" Tj ["numbers"] t.Zb6 t.Zb7
 Zem:Z0 K mg "rule_text" Tk ["rule"] t.Zb8 t.Zb9
 Zen:Z0 K mg "rule_of" Tn ["text"] t.Zca t.Zcb
 XM:Z0 K mg "rule_from" Ts ["left","deep"] t.Zcc t.Zcd
 LL:Z0 K mg "word_from" Tv ["left"] t.Zce t.Zcf
 NM:Z0 K mg "number_from" Tw ["left"] t.Zcg t.Zch
 uK:Z0 K mg "numbers_from" TB ["left"] t.Zci t.Zcj
 Zeo:Z0 K mg "bits_from" TC ["left"] t.Zck t.Zcl
 G1:Z0 K mg "net_text" TD ["net"] t.Zcm t.Zcn
 G2:Z0 K mg "joined" TF ["words"] t.Zco t.Zcp
 Zep:Z0 K mg "stop_row" TH ["net","name"] t.Zcq t.Zcr
 Zeq:Z0 K mg "ticket_row" TJ ["net","name"] t.Zcs t.Zct
 Zer:Z0 K mg "trip_row" TM ["net","name"] t.Zcu t.Zcv
 LM:Z0 K mg "check_new" TN ["name","named"] t.Zcw t.Zcx
 A2:Z0 K mg "check_room" TQ ["kept","most"] t.wB t.wC
 Zes:Z0 K mg "have_calls_form" TR ["calls"] t.Zcy t.Zcz
 Zet:Z0 K mg "can_follow" TU ["call","ahead"] t.ZcA t.ZcB
 LN:Z0 K mg "net_of" TV ["text"] t.ZcC t.ZcD
 Zeu:Z0 K mg "words_in" TW ["row"] t.ZcE t.ZcF
 Zev:Z0 K mg "put_row" TX ["net","number","words"] t.ZcG t.ZcH
 Zew:Z0 K mg "have_row_form" TY ["words"] t.ZcI t.ZcJ
 Zex:Z0 K mg "put_words" TZ ["net","words"] t.ZcK t.ZcL
 G3:Z0 K mg "number_in" T0 ["word"] t.ZcM t.ZcN
 Zey:Z0 K mg "zones_in" T1 ["word"] t.ZcO t.ZcP
 Zez:Z0 K mg "calls_in" T5 ["words"] t.ZcQ t.ZcR
 uL:Z0 K mg "_law_cell_at" T7 ["_law_script","_law_k"] t.ZcS t.ZcT
 V3:Z0 K mg "_law_mixed" zA ["_law_cell","_law_k"] t.ZcU t.ZcV
 ZeA:Z0 K mg "_law_name" zB ["_law_seed","_law_k"] t.ZcW t.ZcX
 Qj:Z0 K mg "_law_days" zC ["_law_number","_law_deep"] t.ZcY t.ZcZ
 XN:Z0 K mg "_law_rule" zD ["_law_told"] t.Zc0 t.Zc1
 WZ:Z0 K mg "_law_runs" zE ["_law_told","_law_day"] t.Zc2 t.Zc3
 uM:Z0 K mg "_law_calls" zG ["_law_number","_law_stops","_law_many"] t.Zc4 t.Zc5
 NN:Z0 K mg "_law_world" zH [] t.Zc6 t.Zc7
 ZeB:Z0 K mg "_law_drawn" zI ["_law_seed"] t.Zc8 t.Zc9
 ZeC:Z0 K mg "_law_made" zJ ["_law_world_here"] t.Zda t.Zdb
 W0:Z0 K mg "_law_rule_text" zK ["_law_told"] t.Zdc t.Zdd
 uN:Z0 K mg "_law_clock" zL ["_law_minute"] t.Zde t.Zdf
 uO:Z0 K mg "_law_rows" zM ["_law_world_here"] t.Zdg t.Zdh
 LO:Z0 K mg "_law_is" zN ["_law_net","_law_world_here"] t.Zdi t.Zdj
 ZeD:Z0 K mg "_law_laid" zO ["_law_rows_here","_law_number"] t.Zdk t.Zdl
 ZeE:Z0 K mg "_law_read_right" zP ["_law_world_here","_law_number"] t.Zdm t.Zdn
 uP:Z0 K mg "law" zQ ["_law_script"] t.Zdo t.wD
 uQ:Z3 K t.YJ "copied" "Rule.copied" zR ["self"] t.wE t.wF
 LP:Z3 K t.YJ "parts" "Rule.parts" zS ["self"] t.Nx t.Zdp
 uR:Z3 K t.YJ "runs" "Rule.runs" zU ["self","day"] t.wG t.wH
 uS:Z3 K t.YJ "words" "Rule.words" zV ["self"] t.wI t.wJ
 LQ:Z3 K t.YJ "weight" "Rule.weight" zW ["self"] t.Qd t.Zdq
 LR:Z3 K t.YJ "depth" "Rule.depth" zX ["self"] t.Qe t.Zdr
 NO:Z3 K t.Vu "__init__" "Week.__init__" zY ["self","bits"] t.Ny t.wK
 uT:Z3 K t.Vu "copied" "Week.copied" zZ ["self"] t.wL t.wM
 LS:Z3 K t.Vu "runs" "Week.runs" yA ["self","day"] t.wN t.wO
 uU:Z3 K t.Vu "words" "Week.words" yB ["self"] t.wP t.wQ
 NP:Z3 K t.XW "__init__" "Span.__init__" yC ["self","first","last","rule"] t.Nz t.wR
 NQ:Z3 K t.XW "copied" "Span.copied" yD ["self"] t.wT t.wU
 uV:Z3 K t.XW "parts" "Span.parts" yE ["self"] t.Zds t.Zdt
 NR:Z3 K t.XW "runs" "Span.runs" yF ["self","day"] t.wV t.wW
 NT:Z3 K t.XW "words" "Span.words" yG ["self"] t.wX t.wY
 NU:Z3 K t.WN "__init__" "Each.__init__" yH ["self","length","starts"] t.NB t.wZ
 uW:Z3 K t.WN "copied" "Each.copied" yI ["self"] t.vA t.vB
 uX:Z3 K t.WN "runs" "Each.runs" yJ ["self","day"] t.vC t.vD
 uY:Z3 K t.WN "words" "Each.words" yK ["self"] t.vE t.vF
 NV:Z3 K t.XH "__init__" "Either.__init__" yL ["self","one","other"] t.NC t.vG
 NW:Z3 K t.XH "copied" "Either.copied" yM ["self"] t.vH t.vI
 uZ:Z3 K t.XH "parts" "Either.parts" yN ["self"] t.Zdu t.Zdv
 NX:Z3 K t.XH "runs" "Either.runs" yO ["self","day"] t.vJ t.vK
 NY:Z3 K t.XH "words" "Either.words" yP ["self"] t.vL t.vM
 NZ:Z3 K t.XI "__init__" "Both.__init__" yQ ["self","one","other"] t.ND t.vN
 N0:Z3 K t.XI "copied" "Both.copied" yR ["self"] t.vO t.vP
 qA:Z3 K t.XI "parts" "Both.parts" yS ["self"] t.Zdw t.Zdx
 N2:Z3 K t.XI "runs" "Both.runs" yT ["self","day"] t.vQ t.vR
 N3:Z3 K t.XI "words" "Both.words" yU ["self"] t.vS t.vT
 N6:Z3 K t.Wg "__init__" "But.__init__" yV ["self","days","rule"] t.NE t.vU
 N7:Z3 K t.Wg "copied" "But.copied" yW ["self"] t.vV t.vW
 qB:Z3 K t.Wg "parts" "But.parts" yX ["self"] t.Zdy t.Zdz
 N8:Z3 K t.Wg "runs" "But.runs" yY ["self","day"] t.vX t.vY
 N9:Z3 K t.Wg "words" "But.words" yZ ["self"] t.vZ t.uA
 Pa:Z3 K t.ZL "__init__" "Net.__init__" xA ["self"] t.uB t.ZdA
 LU:Z3 K t.ZL "add_stop" "Net.add_stop" xB ["self","name","zone","change"] t.ZdB t.ZdC
 LV:Z3 K t.ZL "add_walk" "Net.add_walk" xC ["self","one","other","minutes"] t.ZdD t.ZdE
 A3:Z3 K t.ZL "add_rule" "Net.add_rule" xD ["self","name","rule"] t.ZdF t.ZdG
 LW:Z3 K t.ZL "add_ticket" "Net.add_ticket" xE ["self","name","price","lasts","zones"] t.ZdH t.ZdI
 A4:Z3 K t.ZL "add_trip" "Net.add_trip" xF ["self","name","rule","calls"] t.ZdJ t.ZdK
 Um:Z3 K t.ZL "check_stop" "Net.check_stop" xH ["self","name"] t.ZdL t.ZdM
 LX:Z3 K t.ZL "check_trip" "Net.check_trip" xI ["self","name"] t.ZdN t.ZdO
 qC:Z3 K t.ZL "check_call" "Net.check_call" xJ ["self","call"] t.ZdP t.ZdQ
 qD:Z3 K t.ZL "has_walk" "Net.has_walk" xK ["self","one","other"] t.ZdR t.ZdS
 Qk:Z3 K t.ZL "stops" "Net.stops" xL ["self"] t.ZdT t.ZdU
 LY:Z3 K t.ZL "walks" "Net.walks" xM ["self"] t.ZdV t.ZdW
 LZ:Z3 K t.ZL "rules" "Net.rules" xN ["self"] t.ZdX t.ZdY
 A5:Z3 K t.ZL "tickets" "Net.tickets" xO ["self"] t.ZdZ t.Zd0
 A6:Z3 K t.ZL "trips" "Net.trips" xP ["self"] t.Zd1 t.Zd2
 L0:Z3 K t.ZL "zone" "Net.zone" xQ ["self","stop"] t.Zd3 t.Zd4
 L1:Z3 K t.ZL "change" "Net.change" xR ["self","stop"] t.Zd5 t.Zd6
 L3:Z3 K t.ZL "rule" "Net.rule" xS ["self","name"] t.Zd7 t.Zd8
 L4:Z3 K t.ZL "ticket" "Net.ticket" xT ["self","name"] t.Zd9 t.Zea
 L5:Z3 K t.ZL "rule_name" "Net.rule_name" xU ["self","trip"] t.Zeb t.Zec
 L6:Z3 K t.ZL "calls" "Net.calls" xV ["self","trip"] t.Zed t.Zee
 G4:YI K t.YJ
 Pb:Rv K t.YJ
 UM:YI K t.Vu
 qE:Mk K t.Vu t.Ny
 ZmG:Yr K t.Vu "depth" t.Qe
 ZmH:Yr K t.Vu "parts" t.Nx
 ZmI:Yr K t.Vu "weight" t.Qd
 qF:Xt K t.Vu "bits"
 X4:YI K t.XW
 qG:Mk K t.XW t.Nz
 ZmJ:Yr K t.XW "depth" t.Qe
 ZmK:Yr K t.XW "weight" t.Qd
 Pc:Xt K t.XW "first"
 Pd:Xt K t.XW "last"
 L7:Xt K t.XW "inner"
 Vv:YI K t.WN
 qH:Mk K t.WN t.NB
 ZmL:Yr K t.WN "depth" t.Qe
 ZmM:Yr K t.WN "parts" t.Nx
 ZmN:Yr K t.WN "weight" t.Qd
 Pe:Xt K t.WN "length"
 Pf:Xt K t.WN "starts"
 WQ:YI K t.XH
 qI:Mk K t.XH t.NC
 ZmO:Yr K t.XH "depth" t.Qe
 ZmP:Yr K t.XH "weight" t.Qd
 L8:Xt K t.XH "one"
 L9:Xt K t.XH "other"
 WR:YI K t.XI
 qJ:Mk K t.XI t.ND
 ZmQ:Yr K t.XI "depth" t.Qe
 ZmR:Yr K t.XI "weight" t.Qd
 Ma:Xt K t.XI "one"
 Mb:Xt K t.XI "other"
 W2:YI K t.Wg
 qK:Mk K t.Wg t.NE
 ZmS:Yr K t.Wg "depth" t.Qe
 ZmT:Yr K t.Wg "weight" t.Qd
 Pg:Xt K t.Wg "days"
 Mc:Xt K t.Wg "inner"
 ZK:YI K t.ZL
 qL:Mk K t.ZL t.uB
 QJ:Xt K t.ZL "stop_rows"
 Md:Xt K t.ZL "walk_rows"
 QK:Xt K t.ZL "rule_rows"
 A7:Xt K t.ZL "ticket_rows"
 QL:Xt K t.ZL "trip_rows"
 ZmU:We K t.YJ
 ZmV:W.kitOne K (.ref t.YJ) (.ref t.YJ)=some true
 ZmW:We K t.Vu
 ZmX:W.kitOne K (.ref t.Vu) (.ref t.YJ)=some true
 ZmY:We K t.XW
 ZmZ:W.kitOne K (.ref t.XW) (.ref t.YJ)=some true
 Zm0:We K t.WN
 Zm1:W.kitOne K (.ref t.WN) (.ref t.YJ)=some true
 Zm2:We K t.XH
 Zm3:W.kitOne K (.ref t.XH) (.ref t.YJ)=some true
 Zm4:We K t.XI
 Zm5:W.kitOne K (.ref t.XI) (.ref t.YJ)=some true
 Zm6:We K t.Wg
 Zm7:W.kitOne K (.ref t.Wg) (.ref t.YJ)=some true
 Zm8:W.kitOne K (.type "NoneType") (.ref t.YJ)=some false
 Zm9:W.kitOne K (.type "bool") (.ref t.YJ)=some false
 Zna:W.kitOne K (.type "int") (.ref t.YJ)=some false
 Znb:W.kitOne K (.type "str") (.ref t.YJ)=some false
 Znc:W.kitOne K (.type "list") (.ref t.YJ)=some false
 Znd:W.kitOne K (.type "tuple") (.ref t.YJ)=some false
 Zne:We K t.ZL
 Znf:W.kitOne K (.ref t.ZL) (.ref t.ZL)=some true
 ZqH:W.kitOne K (.type "NoneType") (.ref t.ZL)=some false
 ZqI:W.kitOne K (.type "bool") (.ref t.ZL)=some false
 ZqJ:W.kitOne K (.type "int") (.ref t.ZL)=some false
 ZqK:W.kitOne K (.type "str") (.ref t.ZL)=some false
 ZqL:W.kitOne K (.type "list") (.ref t.ZL)=some false
 ZqM:W.kitOne K (.type "tuple") (.ref t.ZL)=some false
 UO:XB K t.VH
 ZqP:XE K t.VH
 ZqQ:KX K t.VH []
 ZqR:W.kitOne K (.ref t.VH) (.type "ValueError")=some true
 ZqS:W.exmOne K (.ref t.VH) (.ref t.UJ)=some true
 ZeI:XB K t.Qg
 ZqT:XE K t.Qg
 ZqU:KX K t.Qg []
 ZqV:W.kitOne K (.ref t.Qg) (.type "ValueError")=some true
 ZqW:W.exmOne K (.ref t.Qg) (.ref t.UJ)=some true
 Znl:XB K t.QD
 ZqX:XE K t.QD
 ZqY:KX K t.QD []
 ZqZ:W.kitOne K (.ref t.QD) (.type "ValueError")=some true
 Zq0:W.exmOne K (.ref t.QD) (.ref t.UJ)=some true
 ZeJ:XB K t.QE
 Zq1:XE K t.QE
 Zq2:KX K t.QE []
 Zq3:W.kitOne K (.ref t.QE) (.type "ValueError")=some true
 Zq4:W.exmOne K (.ref t.QE) (.ref t.UJ)=some true
 Znm:XB K t.Qh
 Zq5:XE K t.Qh
 Zq6:KX K t.Qh []
 Zq7:W.kitOne K (.ref t.Qh) (.type "ValueError")=some true
 Zq8:W.exmOne K (.ref t.Qh) (.ref t.UJ)=some true
 ZeK:XB K t.QF
 Zq9:XE K t.QF
 Zra:KX K t.QF []
 Zrb:W.kitOne K (.ref t.QF) (.type "ValueError")=some true
 Zrc:W.exmOne K (.ref t.QF) (.ref t.UJ)=some true
 Znn:XB K t.QG
 Zrd:XE K t.QG
 Zre:KX K t.QG []
 Zrf:W.kitOne K (.ref t.QG) (.type "ValueError")=some true
 Zrg:W.exmOne K (.ref t.QG) (.ref t.UJ)=some true
 Zno:XB K t.UK
 Zrh:XE K t.UK
 Zri:KX K t.UK []
 Zrj:W.kitOne K (.ref t.UK) (.type "ValueError")=some true
 Zrk:W.exmOne K (.ref t.UK) (.ref t.UJ)=some true
 ZeL:XB K t.QH
 Zrl:XE K t.QH
 Zrm:KX K t.QH []
 Zrn:W.kitOne K (.ref t.QH) (.type "ValueError")=some true
 Zro:W.exmOne K (.ref t.QH) (.ref t.UJ)=some true
 Pj:XB K t.NG
 kf:t.kf=K
section
variable{t:Ya}
def Yd(z:Str):Prop:=1<=z.length/\z.length<=8/\(∀c∈z.cps.toList,97<=c/\c<=122)/\True
inductive Znp(vs:List V)(H:Hp)(Q:VK)(_e3:XK):Prop|mk (v:V) (T:String) (_:vs=[v]) (_:Kd H v T) (_:Q (.bl (ZiF v)) H)
def Znq(c:Zu K mg t):Zo P w K mg base Zr 1 t.ZbI t.ZbJ ["value"] Znp:=by
 erw[c.Zej.F.ok Zla () λg A outer s H f Q E j h=>?_];ext⟨v,T,rfl,kd,q⟩ h;erw[⟨_,(Ze (Zp (Vi (Yp VW c.WO WM (ZB (pv 0) (VX R c.F8 F6))) (WF (ZgP (Yp VW c.WO WM (ZB (pv 0) (VX R c.Zmk Zme)))))))),?_⟩];sleep 1;erw[⟨_,R,v,"int",_,_,R,kd.ty,Ziz kd,_,R,?_⟩];cases kd with
 |non=>exact Zk () q
 |str x=>exact Zk () q
 |lst e=>exact Zk () q
 |tup e=>exact Zk () q
 |dK e=>exact Zk () q
 |bl b=>exact Zy () ⟨_,R,_,"bool",_,_,R,(Kd.bl b).ty (H:=H),Zam (H:=H) (.bl b),_,R,q⟩
 |int i=>exact Zy () ⟨_,R,_,"bool",_,_,R,(Kd.int i).ty (H:=H),Zam (H:=H) (.int i),_,R,q⟩
inductive Znr(vs:List V)(H:Hp)(Q:VK)(_e3:XK):Prop|mk (v:V) (lo hi:Int) (T:String) (_:vs=[v,.int lo,.int hi]) (_:Kd H v T) (_:Q (.bl (XC v lo hi)) H)
def QM(g:Zu K mg t):Zo P w K mg base Zr 2 t.ZbK t.ZbL ["value","least","most"] Znr:=by
 erw[g.Qi.F.ok Zlb () λy A outer s H u Q E n h=>?_];ext⟨v,lo,f,T,rfl,kd,q⟩ h;erw[⟨_,(Ze (Zp (Vi (Zt g.Zej (Znq g) n Zn (Zc (pv 0))) (WF (Rb Vl Vl (pv 1) (pv 0) (pv 2)))))),?_⟩];sleep 1;erw[⟨_,R,v,T,R,kd,_,R,?_⟩];cases kd with
 |non=>exact Zk SQ q
 |str x=>exact Zk SQ q
 |lst e=>exact Zk SQ q
 |tup e=>exact Zk SQ q
 |dK e=>exact Zk SQ q
 |bl b=>exact Zk SQ q
 |int i =>
  erw[Zy R ?_];erw[⟨_,R,_,R,_,_,R,R,_,R,?_⟩];erw[VC (λc=>?_) (λc=>?_)];erw[⟨_,R,_,_,R,R,?_⟩];have j:lo<=i:=SU c;have e:decide (i<=f)=XC (.int i) lo f:=by
   show decide (i<=f)=decide (lo<=i/\i<=f);exact decide_eq_decide.mpr ⟨λz=>⟨j,z⟩,λz=>z.2⟩
  rw[<-e]at q;exact q;have j:¬ lo<=i:=of_decide_eq_false (Oi.mpr c);have e:false=XC (.int i) lo f:=by
   show false=decide (lo<=i/\i<=f);exact(SS λz=>j z.1).symm
  rw[<-e]at q;exact q
inductive Zns(vs:List V)(H:Hp)(Q:VK)(_e3:XK):Prop|mk (a:Addr) (ss:OH) (n lo:Nat) (hi:Int) (_:vs=[.ref a,.int n,.int lo,.int hi]) (_:H a=some (.lst (ZI ss))) (_:1<=ss.length) (_:ss.length<=n) (_:ss.Pairwise (· < ·)) (_:(∀x∈ss,lo<=x/\((x:Nat):Int)<=hi)) (_:Q (.bl true) H)
def ZeM(u:Zu K mg t):Zo P w K mg base Zr 3 t.xX t.xY ["values","longest","least","most"] Zns:=by
 erw[u.LJ.F.ok QB () λS A outer s H O Q E J h=>?_];ext⟨a,g,n,lo,L,rfl,ha,T,M,up,G,q⟩ h;erw[⟨_,(Zh (ZC (PW.pt (Vh (Yn (Ym (Yp VW u.WO WM (ZB (pv 0) (VX R u.Y1 Y6))))) (VO (Yn (MQ Vl Vl Za (Yp WY u.XJ XG (Zc (pv 0))) (pv 1)))))) (Ze (Zp Xy)) ZE) (Zh (ZR 4 QB.nd (pv 2)) (Zh (Xr (YP (pv 0)) (ZJ 5 QB.nd) (Zh (ZC (Yn (Ym (Zt u.Qi (QM u) J Zn (Yk (pv 5) (pv 4) (pv 3))))) (Ze (Zp Xy)) ZE) (Ze (ZR 4 QB.nd (Zj Yw (pv 5) Za))))) (Ze (Zp Xy))))),?_⟩];sleep 4;have hlen:(ZI g).length=g.length:=Sv ..;erw[⟨_,R,.ref a,"list",_,_,R,.lst ha,R,_,R,Zk () ?_⟩];erw[⟨_,R,a,_,R,.inl (Zd.of ha),_,_,R,R,_,R,Zy (SR (by rw[hlen];lia)) ?_⟩];erw[⟨_,R,_,_,R,R,_,R,Zk (by rw[SR (show(((ZI g).length:Nat):Int)<=(n:Int) by rw[hlen];lia)];lia) ?_⟩];sleep 1;refine⟨_,R,_,R,a,R,⟨_,Zd.of ha⟩,Qp (xs:=ZI g) (λi C D=>D=H/\∃(f:Nat) (v:Option V),C=[some (.ref a),some (.int n),some (.int lo),some (.int L),some (.int (f:Nat)),v]/\∀j x,i<=j->g[j]? = some x->f<=x)
  ⟨R,lo,_,R,λj x _ e=>(G x (SL e)).1⟩ (λi C D _ ⟨e,_⟩=>by rw[e];exact Zd.of ha) ?_ ?_⟩
 rintro i x C D B ⟨rfl,f,v,rfl,I⟩;rw[Ob]at B;sleep 102;cases c:g[i]? with
 |none=>rw[c]at B;cases B
 |some m =>
  rw[c]at B;obtain rfl:V.int (m:Int)=x:=So B;have hm:=G m (SL c);have X:=I i m (Sg _) c;erw[⟨_,R,_,R,_,R,.int m,_,_,"int",R,.int _,_,R,Zk (by rw[Ww () hm.2];lia) ?_⟩];erw[⟨_,R,_,_,R,R,R,m+1,_,R,λj y U e=>?_⟩];have:=List.pairwise_iff_getElem.mp up i j (Sr.mp c).1 (Sr.mp e).1 ();rw[(Sr.mp c).2,(Sr.mp e).2]at this;exact this
 rintro C D ⟨rfl,f,v,rfl,_⟩;exact q
abbrev rc(t:Ya):RC:=⟨t.YJ,t.Vu,t.XW,t.WN,t.XH,t.XI,t.Wg⟩
inductive W3(c:RC)(K:Oy)(q:RT->Prop)(n:Nat)(vs:List V)(H:Hp)(Q:VK)(_e3:XK):Prop|mk (a:Addr) (r:RT) (d:Nat) (_:vs=[.ref a,.int d]) (_:ZU c K H a r) (_:q r) (_:r.depth<=n) (_:Q (.bl (r.runs d)) H)
def G5:RT->Prop|.always=>True|_=>False
def G6:RT->Prop|.week _=>True|_=>False
def A9:RT->Prop|.span _ _ _=>True|_=>False
def G7:RT->Prop|.each _ _=>True|_=>False
def B1:RT->Prop|.either _ _=>True|_=>False
def B2:RT->Prop|.both _ _=>True|_=>False
def B3:RT->Prop|.but _ _=>True|_=>False
structure B6(P:Program)(w:World)(K:Oy)(mg:Ox)(base:Heap)(t:Ya)(n:Nat):Prop where
 rule:Zo P w K mg base Zr (n+1) t.wG t.wH ["self","day"] (W3 (rc t) K G5 n)
 week:Zo P w K mg base Zr (n+1) t.wN t.wO ["self","day"] (W3 (rc t) K G6 n)
 span:Zo P w K mg base Zr (n+1) t.wV t.wW ["self","day"] (W3 (rc t) K A9 n)
 each:Zo P w K mg base Zr (n+1) t.vC t.vD ["self","day"] (W3 (rc t) K G7 n)
 either:Zo P w K mg base Zr (n+1) t.vJ t.vK ["self","day"] (W3 (rc t) K B1 n)
 both:Zo P w K mg base Zr (n+1) t.vQ t.vR ["self","day"] (W3 (rc t) K B2 n)
 but:Zo P w K mg base Zr (n+1) t.vX t.vY ["self","day"] (W3 (rc t) K B3 n)
def B6.at(R:B6 P w K mg base t n)(c:Zu K mg t){r:RT}(h:ZU (rc t) K H a r)(hn:r.depth<=n) :
  ∃(C v:Addr) (fs:List (Str×V)) (f:Addr) (fd:OK) (sp:Sp),H a=some (.ins C v fs)/\fs.lookup ("runs" : Str)=none/\YI K C/\Yr K C "runs" f/\Zo P w K mg base Zr (n+1) f fd ["self","day"] sp/\XT K fd ["self","day"] [] /\
   ∀(d:Nat) (Q:VK),Q (.bl (r.runs d)) H->sp [.ref a,.int (d:Nat)] H Q E0:=by
 cases h with
 |always h=>exact⟨_,_,_,_,_,_,h,rfl,c.G4,c.uR.me,R.rule,c.uR.b,λd Q q=>⟨a,_,d,rfl,.always h,trivial,hn,q⟩⟩
 |week h y=>exact⟨_,_,_,_,_,_,h,rfl,c.UM,c.LS.me,R.week,c.LS.b,λd Q q=>⟨a,_,d,rfl,.week h y,trivial,hn,q⟩⟩
 |span h u D g=>exact⟨_,_,_,_,_,_,h,rfl,c.X4,c.NR.me,R.span,c.NR.b,λd Q q=>⟨a,_,d,rfl,.span h u D g,trivial,hn,q⟩⟩
 |each h B x j=>exact⟨_,_,_,_,_,_,h,rfl,c.Vv,c.uX.me,R.each,c.uX.b,λd Q q=>⟨a,_,d,rfl,.each h B x j,trivial,hn,q⟩⟩
 |either h g i=>exact⟨_,_,_,_,_,_,h,rfl,c.WQ,c.NX.me,R.either,c.NX.b,λd Q q=>⟨a,_,d,rfl,.either h g i,trivial,hn,q⟩⟩
 |both h g i=>exact⟨_,_,_,_,_,_,h,rfl,c.WR,c.N2.me,R.both,c.N2.b,λd Q q=>⟨a,_,d,rfl,.both h g i,trivial,hn,q⟩⟩
 |but h j g=>exact⟨_,_,_,_,_,_,h,rfl,c.W2,c.N8.me,R.but,c.N8.b,λd Q q=>⟨a,_,d,rfl,.but h j g,trivial,hn,q⟩⟩
def ZeN(f:Zu K mg t)(n:Nat):Zo P w K mg base Zr (n+1) t.wG t.wH ["self","day"] (W3 (rc t) K G5 n):=by
 erw[f.uR.F.ok ZlD () λi A outer s H g Q E j h=>?_];ext⟨a,r,d,rfl,h,c,hn,q⟩ h;erw[⟨_,(Ze (Zp Xy)),?_⟩];sleep 1;cases r<;>first|exact q|exact c.elim
def qT(c:Zu K mg t)(n:Nat):Zo P w K mg base Zr (n+1) t.wN t.wO ["self","day"] (W3 (rc t) K G6 n):=by
 erw[c.LS.F.ok ZlH () λj A outer s H i Q E x h=>?_];ext⟨a,r,d,rfl,h,f,hn,q⟩ h;erw[⟨_,(Ze (Zp (Xl Z8 (Zj Zhj (Zj Zhi (ZQ (pv 0) R) (Zj Z7 (pv 1) (YC R c.uE))) Za) Za (XD _)))),?_⟩];sleep 1;cases h with
 |week h v =>
  rename_i u b;erw[⟨_,R,a,_,_,_,_,R,h,c.UM,c.qF,R,_,R,_,_,R,R,(),_,_,R,R,Int.emod_nonneg _ (),_,_,R,R,R,?_⟩];have e:((d:Int)%7).toNat=d%7:=by lia
  have g:decide (V.int (Builtin.bitAnd ((b:Int)/2 ^ ((d:Int)%7).toNat) 1)=V.int 1)=(RT.week b).runs d:=by
   rw[e];have:=ZiO b (d%7);rw[VQ];exact this
  rw[<-g]at q;exact q
 |_=>exact f.elim
def ZeO(c:Zu K mg t)(n:Nat):Zo P w K mg base Zr (n+1) t.vC t.vD ["self","day"] (W3 (rc t) K G7 n):=by
 erw[c.uX.F.ok ZlN () λv A outer s H u Q E C h=>?_];ext⟨a,r,d,rfl,h,g,hn,q⟩ h;erw[⟨_,(Ze (Zp (Xl E3 (Zj Z7 (pv 1) (ZQ (pv 0) R)) (ZQ (pv 0) R) R))),?_⟩];sleep 1;cases h with
 |each h B y i =>
  rename_i x p m f;erw[⟨_,R,_,R,a,_,_,_,_,R,h,c.Vv,c.Pe,R,_,_,R,R,(by show(0:Int)<_;lia),_,R,a,_,_,_,_,R,h,c.Vv,c.Pf,R,p,_,R,.inr i,R,E9 f,?_⟩];have e:(d:Int)%(m:Int)=((d%m:Nat):Int):=by lia
  have j:VU (.int ((d:Int)%(m:Int))) (ZI f)=(RT.each m f).runs d:=by
   rw[e];exact Lp (d%m) f
  rw[<-j]at q;exact q
 |_=>exact g.elim
def Znt(c:Zu K mg t)(n:Nat)(R:B6 P w K mg base t n):Zo P w K mg base Zr (n+2) t.wV t.wW ["self","day"] (W3 (rc t) K A9 (n+1)):=by
 erw[c.NR.F.ok Zbt () λS A outer s H O Q E D h=>?_];ext⟨a,r,d,rfl,h,v,hn,q⟩ h;erw[⟨_,(Ze (Zp (Vi (Rb Vl Vl (ZQ (pv 0) rfl) (pv 1) (ZQ (pv 0) rfl)) (WF (E8 (ZQ (pv 0) rfl) (Zc (pv 1))))))),?_⟩];sleep 1;cases h with
 |span h M L I =>
  rename_i J i x y r;have hd:r.depth<=n:=by
   have:(RT.span x y r).depth=1+r.depth:=rfl;lia
  obtain⟨C,G,fs,f,B,sp,g1,g2,g3,g4,g5,g6,g7⟩:=R.at c I hd;erw[⟨_,rfl,a,_,_,_,_,rfl,h,c.X4,c.Pc,rfl,?_⟩];have g:∀b:Bool,b=(decide (x<=d) && decide (d<=y) && r.runs d)->Q (.bl b) H:=λb e=>by rwa[e]
  erw[⟨_,rfl,_,_,rfl,rfl,_,rfl,?_⟩];by_cases u:x<=d;erw[Zy (SR ()) ?_];erw[⟨_,rfl,a,_,_,_,_,rfl,h,c.X4,c.Pd,rfl,_,_,rfl,rfl,_,rfl,?_⟩];by_cases j:d<=y;erw[Zy (SR ()) ?_];erw[⟨_,rfl,a,_,_,_,_,rfl,h,c.X4,c.L7,rfl,i,C,G,fs,f,B,_,_,sp,Zr,E0,rfl,g1,g2,g3,g4,g5,D.mono (),g6,Zn,_,rfl,?_⟩];exact g7 d Q (g _ (by rw[SR u,SR j];rfl));erw[Zk (by rw[SS ()];lia) ?_];exact g _ (by rw[SS j,Bool.and_false,Bool.false_and]);erw[Zk (by rw[SS ()];lia) ?_];exact⟨_,rfl,Zk () (g _ (by rw[SS u,Bool.false_and,Bool.false_and]))⟩
 |_=>exact v.elim
def Znu(c:Zu K mg t)(n:Nat)(R:B6 P w K mg base t n):Zo P w K mg base Zr (n+2) t.vJ t.vK ["self","day"] (W3 (rc t) K B1 (n+1)):=by
 erw[c.NX.F.ok Zbw () λL A outer s H J Q E y h=>?_];ext⟨a,r,d,rfl,h,B,hn,q⟩ h;erw[⟨_,(Ze (Zp (kG (E8 (ZQ (pv 0) rfl) (Zc (pv 1))) (WF (E8 (ZQ (pv 0) rfl) (Zc (pv 1))))))),?_⟩];sleep 1;cases h with
 |either h G D =>
  rename_i I i j r g;have hd:r.depth<=n/\g.depth<=n:=by
   have:(RT.either r g).depth=1+max r.depth g.depth:=rfl;lia
  obtain⟨C,x,fs,f,v,sp,g1,g2,g3,g4,g5,g6,g7⟩:=R.at c G hd.1;erw[⟨_,rfl,a,_,_,_,_,rfl,h,c.WQ,c.L8,rfl,i,C,x,fs,f,v,_,_,sp,Zr,E0,rfl,g1,g2,g3,g4,g5,y.mono (),g6,Zn,_,rfl,g7 d _ ⟨_,rfl,?_⟩⟩];have u:Q (.bl (r.runs d || g.runs d)) H:=q;cases e:r.runs d with
  |true=>exact Zy rfl (by rw[e]at u;exact u)
  |false =>
   erw[Zk () ?_];obtain⟨C,x,fs,f,v,sp,g1,g2,g3,g4,g5,g6,g7⟩:=R.at c D hd.2;erw[⟨_,rfl,a,_,_,_,_,rfl,h,c.WQ,c.L9,rfl,j,C,x,fs,f,v,_,_,sp,Zr,E0,rfl,g1,g2,g3,g4,g5,y.mono (),g6,Zn,_,rfl,g7 d _ ?_⟩];rw[e,Bool.false_or]at u;exact u
 |_=>exact B.elim
def Znv(c:Zu K mg t)(n:Nat)(R:B6 P w K mg base t n):Zo P w K mg base Zr (n+2) t.vQ t.vR ["self","day"] (W3 (rc t) K B2 (n+1)):=by
 erw[c.N2.F.ok Zbz () λL A outer s H J Q E y h=>?_];ext⟨a,r,d,rfl,h,B,hn,q⟩ h;erw[⟨_,(Ze (Zp (Vi (E8 (ZQ (pv 0) rfl) (Zc (pv 1))) (WF (E8 (ZQ (pv 0) rfl) (Zc (pv 1))))))),?_⟩];sleep 1;cases h with
 |both h G D =>
  rename_i I i j r g;have hd:r.depth<=n/\g.depth<=n:=by
   have:(RT.both r g).depth=1+max r.depth g.depth:=rfl;lia
  obtain⟨C,x,fs,f,v,sp,g1,g2,g3,g4,g5,g6,g7⟩:=R.at c G hd.1;erw[⟨_,rfl,a,_,_,_,_,rfl,h,c.WR,c.Ma,rfl,i,C,x,fs,f,v,_,_,sp,Zr,E0,rfl,g1,g2,g3,g4,g5,y.mono (),g6,Zn,_,rfl,g7 d _ ⟨_,rfl,?_⟩⟩];have u:Q (.bl (r.runs d && g.runs d)) H:=q;cases e:r.runs d with
  |false=>exact Zk () (by rw[e]at u;exact u)
  |true =>
   erw[Zy rfl ?_];obtain⟨C,x,fs,f,v,sp,g1,g2,g3,g4,g5,g6,g7⟩:=R.at c D hd.2;erw[⟨_,rfl,a,_,_,_,_,rfl,h,c.WR,c.Mb,rfl,j,C,x,fs,f,v,_,_,sp,Zr,E0,rfl,g1,g2,g3,g4,g5,y.mono (),g6,Zn,_,rfl,g7 d _ ?_⟩];rw[e,Ou]at u;exact u
 |_=>exact B.elim
def Znw(c:Zu K mg t)(n:Nat)(R:B6 P w K mg base t n):Zo P w K mg base Zr (n+2) t.vX t.vY ["self","day"] (W3 (rc t) K B3 (n+1)):=by
 erw[c.N8.F.ok ZbC () λG A outer s H D Q E v h=>?_];ext⟨a,r,d,rfl,h,j,hn,q⟩ h;erw[⟨_,(Ze (Zp (Xl Ux (E8 (ZQ (pv 0) rfl) (Zc (pv 1))) (Xl E3 (pv 1) (ZQ (pv 0) rfl) rfl) (XD _)))),?_⟩];sleep 1;cases h with
 |but h u y =>
  rename_i I p i ds r;have hd:r.depth<=n:=by
   have:(RT.but ds r).depth=1+r.depth:=rfl;lia
  obtain⟨C,x,fs,f,B,sp,g1,g2,g3,g4,g5,g6,g7⟩:=R.at c y hd;erw[⟨_,rfl,a,_,_,_,_,rfl,h,c.W2,c.Mc,rfl,i,C,x,fs,f,B,_,_,sp,Zr,E0,rfl,g1,g2,g3,g4,g5,v.mono (),g6,Zn,_,rfl,g7 d _ ?_⟩];erw[⟨_,rfl,_,rfl,a,_,_,_,_,rfl,h,c.W2,c.Pg,rfl,p,_,rfl,.inr u,rfl,E9 ds,rfl,?_⟩];have g:Q (.bl (r.runs d != ds.contains d)) H:=q;have e:(!decide (V.bl (r.runs d)=V.bl (VU (.int (d:Int)) (ZI ds))))=(r.runs d != ds.contains d):=by
   rw[Lp,MO];rfl
  rw[<-e]at g;exact g
 |_=>exact j.elim
theorem ZeP(c:Zu K mg t):∀n,B6 P w K mg base t n
 |0=>by
  have no:∀{q:RT->Prop},∀vs H Q E,W3 (rc t) K q 0 vs H Q E->False:=λvs H Q E h=>by
   ext⟨a,r,d,rfl,h,j,hn,_⟩ h;have:=r.depth_pos;lia
  exact⟨ZeN c 0,qT c 0,
   c.NR.F.ok Zbt (λvs H Q E h=>(no vs H Q E h).elim) (λg A outer s H vs Q E i h=>(no vs H Q E h).elim),ZeO c 0,
   c.NX.F.ok Zbw (λvs H Q E h=>(no vs H Q E h).elim) (λg A outer s H vs Q E i h=>(no vs H Q E h).elim),
   c.N2.F.ok Zbz (λvs H Q E h=>(no vs H Q E h).elim) (λg A outer s H vs Q E i h=>(no vs H Q E h).elim),
   c.N8.F.ok ZbC (λvs H Q E h=>(no vs H Q E h).elim) (λg A outer s H vs Q E i h=>(no vs H Q E h).elim)⟩
 |n+1=>have f:=ZeP c n
  ⟨ZeN c (n+1),qT c (n+1),Znt c n f,ZeO c (n+1),Znu c n f,Znv c n f,Znw c n f⟩
def qU(c:RC)(K:Oy)(H:Hp)(r:RT)(xs:List V):Prop:=match r with
 |.always|.week _|.each _ _=>xs=[]
 |.span _ _ r1|.but _ r1=>∃i,xs=[.ref i]/\ZU c K H i r1
 |.either r1 f|.both r1 f=>∃i j,xs=[.ref i,.ref j]/\ZU c K H i r1/\ZU c K H j f
inductive Me(c:RC)(K:Oy)(q:RT->Prop)(vs:List V)(H:Hp)(Q:VK)(_e3:XK):Prop|mk (a:Addr) (r:RT) (_:vs=[.ref a]) (_:ZU c K H a r) (_:q r) (_:∀p xs,H p=none->qU c K H r xs->Q (.ref p) (upd H p (.lst xs)))
def Znx:RT->Prop|.always|.week _|.each _ _=>True|_=>False
def qV(g:Zu K mg t):Zo P w K mg base Zr 1 t.Nx t.Zdp ["self"] (Me (rc t) K Znx):=by
 erw[g.LP.F.ok ZlC () λj A outer s H i Q E n h=>?_];ext⟨a,r,rfl,h,c,q⟩ h;erw[⟨_,(Ze (Zp (Ye Xz))),?_⟩];sleep 1;erw[⟨zL9 R,λp f=>q p _ f ?_⟩];cases r<;>first|rfl|exact c.elim
def Zny(c:Zu K mg t):Zo P w K mg base Zr 1 t.Zds t.Zdt ["self"] (Me (rc t) K A9):=by
 erw[c.uV.F.ok ZlK () λu A outer s H n Q E x h=>?_];ext⟨a,r,rfl,h,f,q⟩ h;erw[⟨_,(Ze (Zp (Ye (Zc (ZQ (pv 0) R))))),?_⟩];sleep 1;cases h with
 |span h j v i=>exact⟨_,R,a,_,_,_,_,R,h,c.X4,c.L7,R,zL9 R,λp g=>q p _ g ⟨_,R,i⟩⟩
 |_=>exact f.elim
def Znz(c:Zu K mg t):Zo P w K mg base Zr 1 t.Zdy t.Zdz ["self"] (Me (rc t) K B3):=by
 erw[c.qB.F.ok ZlU () λn A outer s H j Q E u h=>?_];ext⟨a,r,rfl,h,g,q⟩ h;erw[⟨_,(Ze (Zp (Ye (Zc (ZQ (pv 0) R))))),?_⟩];sleep 1;cases h with
 |but h f i=>exact⟨_,R,a,_,_,_,_,R,h,c.W2,c.Mc,R,zL9 R,λp f=>q p _ f ⟨_,R,i⟩⟩
 |_=>exact g.elim
def ZnA(c:Zu K mg t):Zo P w K mg base Zr 1 t.Zdu t.Zdv ["self"] (Me (rc t) K B1):=by
 erw[c.uZ.F.ok ZlQ () λu A outer s H n Q E v h=>?_];ext⟨a,r,rfl,h,f,q⟩ h;erw[⟨_,(Ze (Zp (Ye (ZB (ZQ (pv 0) R) (ZQ (pv 0) R))))),?_⟩];sleep 1;cases h with
 |either h j g=>exact⟨_,R,a,_,_,_,_,R,h,c.WQ,c.L8,R,_,R,a,_,_,_,_,R,h,c.WQ,c.L9,R,zL9 R,λp i=>q p _ i ⟨_,_,R,j,g⟩⟩
 |_=>exact f.elim
def ZnB(c:Zu K mg t):Zo P w K mg base Zr 1 t.Zdw t.Zdx ["self"] (Me (rc t) K B2):=by
 erw[c.qA.F.ok ZlS () λu A outer s H n Q E v h=>?_];ext⟨a,r,rfl,h,f,q⟩ h;erw[⟨_,(Ze (Zp (Ye (ZB (ZQ (pv 0) R) (ZQ (pv 0) R))))),?_⟩];sleep 1;cases h with
 |both h j g=>exact⟨_,R,a,_,_,_,_,R,h,c.WR,c.Ma,R,_,R,a,_,_,_,_,R,h,c.WR,c.Mb,R,zL9 R,λp i=>q p _ i ⟨_,_,R,j,g⟩⟩
 |_=>exact f.elim
def ZeQ(c:Zu K mg t)(h:ZU (rc t) K H a r) :
  ∃(C u:Addr) (fs:List (Str×V)) (f:Addr) (fd:OK) (sp:Sp),H a=some (.ins C u fs)/\fs.lookup ("parts" : Str)=none/\YI K C/\Yr K C "parts" f/\Zo P w K mg base Zr 1 f fd ["self"] sp/\XT K fd ["self"] [] /\
   ∀(Q:VK),(∀p xs,H p=none->qU (rc t) K H r xs->Q (.ref p) (upd H p (.lst xs)))->sp [.ref a] H Q E0:=by
 cases h with
 |always h=>exact⟨_,_,_,_,_,_,h,R,c.G4,c.LP.me,qV c,c.LP.b,λQ q=>⟨a,_,R,.always h,trivial,q⟩⟩
 |week h x=>exact⟨_,_,_,_,_,_,h,R,c.UM,c.ZmH,qV c,c.LP.b,λQ q=>⟨a,_,R,.week h x,trivial,q⟩⟩
 |span h n B g=>exact⟨_,_,_,_,_,_,h,R,c.X4,c.uV.me,Zny c,c.uV.b,λQ q=>⟨a,_,R,.span h n B g,trivial,q⟩⟩
 |each h y v j=>exact⟨_,_,_,_,_,_,h,R,c.Vv,c.ZmM,qV c,c.LP.b,λQ q=>⟨a,_,R,.each h y v j,trivial,q⟩⟩
 |either h g i=>exact⟨_,_,_,_,_,_,h,R,c.WQ,c.uZ.me,ZnA c,c.uZ.b,λQ q=>⟨a,_,R,.either h g i,trivial,q⟩⟩
 |both h g i=>exact⟨_,_,_,_,_,_,h,R,c.WR,c.qA.me,ZnB c,c.qA.b,λQ q=>⟨a,_,R,.both h g i,trivial,q⟩⟩
 |but h j g=>exact⟨_,_,_,_,_,_,h,R,c.W2,c.qB.me,Znz c,c.qB.b,λQ q=>⟨a,_,R,.but h j g,trivial,q⟩⟩
def Pk(c:Zu K mg t)(h:ZU (rc t) K H a r):∃(C g:Addr) (fs:List (Str×V)),H a=some (.ins C g fs)/\YI K C/\(fs.lookup ("weight" : Str)=none/\Yr K C "weight" t.Qd)/\(fs.lookup ("depth" : Str)=none/\Yr K C "depth" t.Qe):=by
 cases h with
 |always h=>exact⟨_,_,_,h,c.G4,⟨R,c.LQ.me⟩,⟨R,c.LR.me⟩⟩
 |week h v=>exact⟨_,_,_,h,c.UM,⟨R,c.ZmI⟩,⟨R,c.ZmG⟩⟩
 |span h n y f=>exact⟨_,_,_,h,c.X4,⟨R,c.ZmK⟩,⟨R,c.ZmJ⟩⟩
 |each h x u j=>exact⟨_,_,_,h,c.Vv,⟨R,c.ZmN⟩,⟨R,c.ZmL⟩⟩
 |either h f i=>exact⟨_,_,_,h,c.WQ,⟨R,c.ZmP⟩,⟨R,c.ZmO⟩⟩
 |both h f i=>exact⟨_,_,_,h,c.WR,⟨R,c.ZmR⟩,⟨R,c.ZmQ⟩⟩
 |but h j f=>exact⟨_,_,_,h,c.W2,⟨R,c.ZmT⟩,⟨R,c.ZmS⟩⟩
inductive ZnC(P:Program)(w:World)(K:Oy)(mg:Ox)(base:Heap)(k:Nat)(m:Str)(Q:VK)(x:V)(H1:Hp):Prop|mk (a C dx:Addr) (fs:List (Str×V)) (f:Addr) (fd:OK) (ps:OD) (sp:Sp) (_:x=.ref a) (_:H1 a=some (.ins C dx fs)) (_:fs.lookup m=none) (_:YI K C) (_:Yr K C m f) (_:Zo P w K mg base Zr k f fd ps sp) (_:XT K fd ps []) (_:sp [.ref a] H1 Q E0)
def ZnD(P:Program)(w:World)(K:Oy)(mg:Ox)(base:Heap)(k:Nat)(m:Str)(g:TE):TE:=λf H Q=>g f H λx c=>ZnC P w K mg base k m Q x c
def ZeR{m:Str}{o:Expr}{n:TE}{g apos:Pos}{pl:Sem Bool}(P:Program)(w:World)(K:Oy)(mg:Ox)(base:Heap)(k:Nat)(O:YE k X.A)(D:PE X o n)
  (L:X.prog=P:=by rfl) (E:X.w=w:=by rfl) (G:X.K=K:=by rfl) (hm:X.mg=mg:=by rfl) (j:X.base=base:=by rfl)
  (B:eval (.Call (.Attribute o m apos) [] [] g) X.env=(do
   let v <-eval o X.env
   standAt apos.atName
   let (f,first) <-holding [v] (getMethod v m pl)
   callWith g f first (backTo g (starEach [] X.env)) (backToKw g (keywordEach [] X.env))):=by rfl) :
  PE X (.Call (.Attribute o m apos) [] [] g) (ZnD P w K mg base k m n):=by
 subst L E G hm j;intro pins s y H Q I h;erw[W.methodCall_KW (pl:=pl) (ZA (D pins s y H _ I h) λu Z ⟨x,T,i,M,a,C,S,fs,f,Y,U,sp,ex,J,l,c,hm,F,j,q⟩=>?_) B];subst ex;obtain rfl:u=Value.ref a:=M;erw[D9 i J c hm l ?_];exact W.callWith_K0 (first:=[.ref a]) i.kIn hm.kp (Qr (us:=[.ref a]) (vs:=[.ref a]) (dvs:=[]) F O j .nil Zn i (.cons R .nil) q)
def W8:RT->List RT
 |.always|.week _|.each _ _=>[]
 |.span _ _ r|.but _ r=>[r]
 |.either r s|.both r s=>[r,s]
def qW(r:RT):r.weight=1+((W8 r).map RT.weight).sum:=by
 cases r<;>simp[W8,RT.weight]
def ZeS{r k:RT}(h:k∈W8 r):k.depth<r.depth:=by
 cases r<;>simp[W8]at h
 all_goals simp only[RT.depth]
 subst h;lia;rcases h with rfl|rfl<;>omega
 rcases h with rfl|rfl<;>omega
 subst h;lia
def ZeT(r:RT):(W8 r).length<=2:=by
 cases r<;>simp[W8]
def ZeU{xs:List V}(h:qU c K H r xs):xs.length=(W8 r).length/\∀(i:Nat) (x:V),xs[i]? = some x->∃(j:Addr) (k:RT),x=.ref j/\(W8 r)[i]? = some k/\ZU c K H j k:=by
 have none:∀(i:Nat) (x:V),([]:List V)[i]? = some x->False:=λi x e=>by cases e
 have one:∀{a:Addr} {r1:RT},ZU c K H a r1->∀(i:Nat) (x:V),[V.ref a][i]? = some x->∃(j:Addr) (k:RT),x=.ref j/\[r1][i]? = some k/\ZU c K H j k:=λ{a r1} q i x e=>by
  match i,e with
  |0,e=>exact⟨a,r1,(So e).symm,R,q⟩
  |_+1,e=>cases e
 have Vr:∀{a b:Addr} {r1 f:RT},ZU c K H a r1->ZU c K H b f->∀(i:Nat) (x:V),[V.ref a,V.ref b][i]? = some x->∃(j:Addr) (k:RT),x=.ref j/\[r1,f][i]? = some k/\ZU c K H j k:=λ{a b r1 f} u g i x e=>by
  match i,e with
  |0,e=>exact⟨a,r1,(So e).symm,R,u⟩
  |1,e=>exact⟨b,f,(So e).symm,R,g⟩
  |_+2,e=>cases e
 cases r with
 |always=>cases h;exact⟨R,λi x e=>(none i x e).elim⟩
 |week b=>cases h;exact⟨R,λi x e=>(none i x e).elim⟩
 |each n v=>cases h;exact⟨R,λi x e=>(none i x e).elim⟩
 |span a b r1=>ext⟨i,rfl,q⟩ h;exact⟨R,one q⟩
 |but ds r1=>ext⟨i,rfl,q⟩ h;exact⟨R,one q⟩
 |either r1 f=>ext⟨i,j,rfl,u,g⟩ h;exact⟨R,Vr u g⟩
 |both r1 f=>ext⟨i,j,rfl,u,g⟩ h;exact⟨R,Vr u g⟩
theorem ZeV:∀l:List Nat,(l.map λn=>((n:Nat):Int)).sum=((l.sum:Nat):Int)
 |[]=>rfl
 |x::r=>by
  rw[SN,List.sum_cons,List.sum_cons,ZeV r];lia
theorem qX:∀{l:OH},x∈l->x<=l.sum
 |y::r,h=>by
  rw[List.sum_cons];rcases SG.mp h with rfl|h;omega;have:=qX h;lia
inductive ZnE(c:RC)(K:Oy)(n:Nat)(vs:List V)(H:Hp)(Q:VK)(_e3:XK):Prop|mk (a:Addr) (r:RT) (_:vs=[.ref a]) (_:ZU c K H a r) (_:r.depth<=n) (_:r.weight<=1000000) (_:∀H',Zf H H'->Q (.int (r.weight:Nat)) H')
def ZnF(u:Zu K mg t):∀n:Nat,Zo P w K mg base Zr (n+1) t.Qd t.Zdq ["self"] (ZnE (rc t) K n):=by
 intro n;induction n with
 |zero =>
  erw[u.LQ.F.ok Zbq (λL H Q E h=>?_) (λc0 A outer s H L Q E D h=>?_)];ext⟨a,r,rfl,_⟩ h;rfl;ext⟨a,r,rfl,h,hd,_⟩ h;have:=r.depth_pos;lia
 |succ n S =>
 erw[u.LQ.F.ok Zbq () λc0 A outer s H L Q E D h=>?_];ext⟨a,r,rfl,h,hd,hw,q⟩ h;erw[⟨_,(Ze (Zp (Zj Yw Za (Yp (ZiN R) u.Zmn Zmg (Zc (YZ (cl:=[]) (N:=["part"]) (fr:=[none]) R (YP (VD (pv 0))) R () R () trivial trivial R (λ_ _ _ _ _=>P2 (i:=0) (Lm _) R (Or.inl R)) (λ_ _ _ _ _=>YM) (λ_ _ _ _ _=>ZeR P w K mg base (n+1) (D.mono ()) (pv 0)))))))),?_⟩];sleep 1;obtain⟨C,T,fs,f,fd,sp,l,lk,cl,me,F,hb,pp⟩:=ZeQ (P:=P) (w:=w) (mg:=mg) (base:=base) u h;erw[⟨_,R,a,C,T,fs,f,fd,_,_,sp,Zr,E0,R,l,lk,cl,me,F,D.mono (),hb,Zn,pp _ λp xs U B=>?_⟩];obtain⟨hl,hk⟩:=ZeU B;have kl:=ZeT r;have J:Zf H (upd H p (.lst xs)):=Zw U _;refine⟨p,R,⟨xs,Zd.of Zi⟩,Vq (K:=K) (a:=p) (xs:=xs) (λi c x y=>Zf (upd H p (.lst xs)) y/\c=(((W8 r).take i).map λk=>V.int (k.weight:Nat))/\∃v,x=[v])
  ⟨Zf.refl _,R,_,R⟩ (by show xs.length<=sizeLine;exact Sh () (show 2<=sizeLine by lia)) (λi c x y _ ⟨g,_⟩=>Zd.of (g _ _ Zi)) ?_ ?_⟩
 rintro i e0 c x y ha B ⟨g,e,v,rfl⟩;obtain⟨j,k,rfl,G,d0⟩:=hk i e0 B;have O:k∈W8 r:=SL G;have kd:=ZeS O;have kw:k.weight<=r.weight:=by
  rw[qW r];have:=qX (List.mem_map_of_mem (f:=RT.weight) O);lia
 dsimp only[YA,Y4];rw[SW R];have M:=d0.same (J.trans g);obtain⟨C2,h0,f0,X,a0,⟨g0,b0⟩,_⟩:=Pk u M;erw[⟨_,R,j,C2,h0,f0,_,_,_,_,R,X,g0,a0,b0,S,u.LQ.b,j,k,R,M,(),(),λH3 Y=>⟨?_,g.trans Y,?_,_,R⟩⟩];rw[Su,Sw];lia;rw[e,Oa,G];simp;rintro c x y ha ⟨g,e,v,rfl⟩ p3 g3;have Z:c=((((W8 r).map RT.weight).map λn=>((n:Nat):Int)).map V.int):=by
  rw[e,hl,List.take_length,Of,Of];rfl
 erw[⟨p3,_,R,Zd.of (by rw[Zi,Z]),?_,?_,?_⟩];intro n hn;obtain⟨m,hm,rfl⟩:=SK.mp hn;have:=qX hm;have:=qW r;lia;rw[Sv,Sv];lia;have s4:=(J.trans g).trans (Zw g3 (.lst c));have I:=q _ s4;rw[qW r]at I;erw[⟨_,_,R,R,?_⟩];rwa[ZeV]
theorem ZeW:∀(l:OH) (x:Nat),V0 (some (x:Int)) (l.map λn=>((n:Nat):Int))=some (((l.foldl max x:Nat)):Int)
 |[],x=>rfl
 |y::r,x=>by
  show V0 (some (F0 (some (x:Int)) (y:Int))) _=_;have e:F0 (some (x:Int)) (y:Int)=((max x y:Nat):Int):=by
   show(if (y:Int)>(x:Int)then (y:Int)else (x:Int))=_;split<;>omega
  rw[e];exact ZeW r (max x y)
def ZnG(r:RT):(1:Int)+(V0 none (((W8 r).map RT.depth).map λn=>((n:Nat):Int))).getD 0=((r.depth:Nat):Int):=by
 have one:∀k:Nat,(1:Int)+(V0 none ([k].map λn=>((n:Nat):Int))).getD 0=((1+k:Nat):Int):=λk=>by
  show(1:Int)+(k:Int)=_;lia
 have Vr:∀k m:Nat,(1:Int)+(V0 none ([k,m].map λn=>((n:Nat):Int))).getD 0=((1+max k m:Nat):Int):=λk m=>by
  show(1:Int)+(V0 (some (k:Int)) ([m].map λn=>((n:Nat):Int))).getD 0=_;rw[ZeW];show(1:Int)+((max k m:Nat):Int)=_;lia
 cases r with
 |always=>rfl
 |week b=>rfl
 |each n f=>rfl
 |span a b r1=>exact one _
 |but ds r1=>exact one _
 |either r1 c=>exact Vr _ _
 |both r1 c=>exact Vr _ _
inductive ZnH(c:RC)(K:Oy)(n:Nat)(vs:List V)(H:Hp)(Q:VK)(_e3:XK):Prop|mk (a:Addr) (r:RT) (_:vs=[.ref a]) (_:ZU c K H a r) (_:r.depth<=n) (_:∀H',Zf H H'->Q (.int (r.depth:Nat)) H')
def ZnI(u:Zu K mg t):∀n:Nat,Zo P w K mg base Zr (n+1) t.Qe t.Zdr ["self"] (ZnH (rc t) K n):=by
 intro n;induction n with
 |zero =>
  erw[u.LR.F.ok Zbr (λL H Q E h=>?_) (λb0 A outer s H L Q E D h=>?_)];ext⟨a,r,rfl,_⟩ h;rfl;ext⟨a,r,rfl,h,hd,_⟩ h;have:=r.depth_pos;lia
 |succ n O =>
 erw[u.LR.F.ok Zbr () λb0 A outer s H L Q E D h=>?_];ext⟨a,r,rfl,h,hd,q⟩ h;erw[⟨_,(Ze (Zp (Zj Yw Za (ZiV R R u.Zml Zmf (Xn (YZ (cl:=[]) (N:=["part"]) (fr:=[none]) R (YP (VD (pv 0))) R () R () trivial trivial R (λ_ _ _ _ _=>P2 (i:=0) (Lm _) R (Or.inl R)) (λ_ _ _ _ _=>YM) (λ_ _ _ _ _=>ZeR P w K mg base (n+1) (D.mono ()) (pv 0))) Xz) (gA Za kZ))))),?_⟩];sleep 1;obtain⟨C,S,fs,f,fd,sp,l,lk,cl,me,F,hb,pp⟩:=ZeQ (P:=P) (w:=w) (mg:=mg) (base:=base) u h;erw[⟨_,R,a,C,S,fs,f,fd,_,_,sp,Zr,E0,R,l,lk,cl,me,F,D.mono (),hb,Zn,pp _ λp xs T B=>?_⟩];obtain⟨hl,hk⟩:=ZeU B;have kl:=ZeT r;have J:Zf H (upd H p (.lst xs)):=Zw T _;refine⟨p,R,⟨xs,Zd.of Zi⟩,Vq (K:=K) (a:=p) (xs:=xs) (λi c x y=>Zf (upd H p (.lst xs)) y/\c=(((W8 r).take i).map λk=>V.int (k.depth:Nat))/\∃v,x=[v])
  ⟨Zf.refl _,R,_,R⟩ (by show xs.length<=sizeLine;exact Sh () (show 2<=sizeLine by lia)) (λi c x y _ ⟨g,_⟩=>Zd.of (g _ _ Zi)) ?_ ?_⟩
 rintro i d0 c x y ha B ⟨g,e,v,rfl⟩;obtain⟨j,k,rfl,G,c0⟩:=hk i d0 B;have km:k∈W8 r:=SL G;have kd:=ZeS km;dsimp only[YA,Y4];rw[SW R];have M:=c0.same (J.trans g);obtain⟨C2,g0,e0,U,Z,_,⟨f0,a0⟩⟩:=Pk u M;erw[⟨_,R,j,C2,g0,e0,_,_,_,_,R,U,f0,Z,a0,O,u.LR.b,j,k,R,M,(),λH3 X=>⟨?_,g.trans X,?_,_,R⟩⟩];rw[Su,Sw];lia;rw[e,Oa,G];simp;rintro c x y ha ⟨g,e,v,rfl⟩ p3 g3;have Y:c=((((W8 r).map RT.depth).map λn=>((n:Nat):Int)).map V.int):=by
  rw[e,hl,List.take_length,Of,Of];rfl
 have s4:=(J.trans g).trans (Zw g3 (.lst c));have I:=q _ s4;rw[<-ZnG r]at I;exact⟨p3,_,0,R,R,Zd.of (by rw[Zi,Y]),_,_,R,R,I⟩
inductive ZnJ(c:RC)(K:Oy)(vs:List V)(H:Hp)(Q:VK)(_e3:XK):Prop|mk (a:Addr) (r:RT) (_:vs=[.ref a]) (_:ZU c K H a r) (_:r.weight<=15) (_:r.depth<=8) (_:∀H',Zf H H'->Q .non H')
def Pl(c:Zu K mg t):Zo P w K mg base Zr 10 t.Zb4 t.Zb5 ["rule"] (ZnJ (rc t) K):=by
 erw[c.LK.F.ok Zlk () λy A outer s H x Q E j h=>?_];ext⟨a,r,rfl,h,v,hd,q⟩ h;erw[⟨_,(Zh (ZC (ZV UZ (VD (pv 0)) (YC R c.Zmu)) (Ze Wm) ZE) (Ze (ZC (ZV UZ (VD (pv 0)) (YC R c.Zei)) (Ze Wm) ZE))),?_⟩];sleep 2;obtain⟨C,f,fs,l,cl,⟨g,me⟩,_⟩:=Pk c h;erw[⟨_,R,a,C,f,fs,_,_,_,_,_,Zr,E0,R,l,g,cl,me,ZnF c 8,j.mono (),c.LQ.b,Zn,a,r,R,h,hd,(),λB n=>?_⟩];erw[⟨_,_,R,R,_,R,Zk (by rw[SS ()];lia) ?_⟩];sleep 1;have i:=h.same n;obtain⟨C,f,fs,l,cl,_,⟨g,me⟩⟩:=Pk c i;erw[⟨_,R,a,C,f,fs,_,_,_,_,_,Zr,E0,R,l,g,cl,me,ZnI c 8,j.mono (),c.LR.b,Zn,a,r,R,i,hd,λu s2=>?_⟩];exact⟨_,_,R,R,_,R,Zk (by rw[SS ()];lia) (q u (n.trans s2))⟩
inductive Va(c:RC)(K:Oy)(q:RT->Prop)(n:Nat)(vs:List V)(H:Hp)(Q:VK)(_e3:XK):Prop|mk (a:Addr) (r:RT) (_:vs=[.ref a]) (_:ZU c K H a r) (_:q r) (_:r.good) (_:r.weight<=15) (_:r.depth<=8) (_:r.depth<=n) (_:∀b H',Zf H H'->ZU c K (Y5 H' H) b r->Q (.ref b) H')
structure V4(P:Program)(w:World)(K:Oy)(mg:Ox)(base:Heap)(t:Ya)(n:Nat):Prop where
 rule:Zo P w K mg base Zr (4*n+10) t.wE t.wF ["self"] (Va (rc t) K G5 n)
 week:Zo P w K mg base Zr (4*n+10) t.wL t.wM ["self"] (Va (rc t) K G6 n)
 span:Zo P w K mg base Zr (4*n+10) t.wT t.wU ["self"] (Va (rc t) K A9 n)
 each:Zo P w K mg base Zr (4*n+10) t.vA t.vB ["self"] (Va (rc t) K G7 n)
 either:Zo P w K mg base Zr (4*n+10) t.vH t.vI ["self"] (Va (rc t) K B1 n)
 both:Zo P w K mg base Zr (4*n+10) t.vO t.vP ["self"] (Va (rc t) K B2 n)
 but:Zo P w K mg base Zr (4*n+10) t.vV t.vW ["self"] (Va (rc t) K B3 n)
def V4.at(R:V4 P w K mg base t n)(c:Zu K mg t){r:RT}(h:ZU (rc t) K H a r)(g:r.good)(i:r.weight<=15)(hd:r.depth<=8)(hn:r.depth<=n) :
  ∃(C B:Addr) (fs:List (Str×V)) (f:Addr) (fd:OK) (sp:Sp),H a=some (.ins C B fs)/\fs.lookup ("copied" : Str)=none/\YI K C/\Yr K C "copied" f/\Zo P w K mg base Zr (4*n+10) f fd ["self"] sp/\XT K fd ["self"] [] /\
   ∀(Q:VK),(∀b x,Zf H x->ZU (rc t) K (Y5 x H) b r->Q (.ref b) x)->sp [.ref a] H Q E0:=by
 cases h with
 |always h=>exact⟨_,_,_,_,_,_,h,rfl,c.G4,c.uQ.me,R.rule,c.uQ.b,λQ q=>⟨a,_,rfl,.always h,trivial,g,i,hd,hn,q⟩⟩
 |week h E=>exact⟨_,_,_,_,_,_,h,rfl,c.UM,c.uT.me,R.week,c.uT.b,λQ q=>⟨a,_,rfl,.week h E,trivial,g,i,hd,hn,q⟩⟩
 |span h y I j=>exact⟨_,_,_,_,_,_,h,rfl,c.X4,c.NQ.me,R.span,c.NQ.b,λQ q=>⟨a,_,rfl,.span h y I j,trivial,g,i,hd,hn,q⟩⟩
 |each h G D v=>exact⟨_,_,_,_,_,_,h,rfl,c.Vv,c.uW.me,R.each,c.uW.b,λQ q=>⟨a,_,rfl,.each h G D v,trivial,g,i,hd,hn,q⟩⟩
 |either h j u=>exact⟨_,_,_,_,_,_,h,rfl,c.WQ,c.NW.me,R.either,c.NW.b,λQ q=>⟨a,_,rfl,.either h j u,trivial,g,i,hd,hn,q⟩⟩
 |both h j u=>exact⟨_,_,_,_,_,_,h,rfl,c.WR,c.N0.me,R.both,c.N0.b,λQ q=>⟨a,_,rfl,.both h j u,trivial,g,i,hd,hn,q⟩⟩
 |but h v j=>exact⟨_,_,_,_,_,_,h,rfl,c.W2,c.N7.me,R.but,c.N7.b,λQ q=>⟨a,_,rfl,.but h v j,trivial,g,i,hd,hn,q⟩⟩
def qY(c:Zu K mg t)(h:ZU (rc t) K H a r):∃C,X9 K H (.ref a) (.ref C)/\W.kitOne K (.ref C) (.ref t.YJ)=some true:=by
 cases h with
 |always h=>exact⟨_,c.ZmU.ty c.G4 h,c.ZmV⟩
 |week h u=>exact⟨_,c.ZmW.ty c.UM h,c.ZmX⟩
 |span h j x f=>exact⟨_,c.ZmY.ty c.X4 h,c.ZmZ⟩
 |each h v n i=>exact⟨_,c.Zm0.ty c.Vv h,c.Zm1⟩
 |either h f g=>exact⟨_,c.Zm2.ty c.WQ h,c.Zm3⟩
 |both h f g=>exact⟨_,c.Zm4.ty c.WR h,c.Zm5⟩
 |but h i f=>exact⟨_,c.Zm6.ty c.W2 h,c.Zm7⟩
inductive ZnK(c:RC)(K:Oy)(n:Nat)(vs:List V)(H:Hp)(Q:VK)(_e3:XK):Prop|mk (a:Addr) (r:RT) (_:vs=[.ref a]) (_:ZU c K H a r) (_:r.good) (_:r.weight<=15) (_:r.depth<=8) (_:r.depth<=n) (_:∀b H',Zf H H'->ZU c K (Y5 H' H) b r->Q (.ref b) H')
def G8(c:Zu K mg t)(n:Nat)(R:V4 P w K mg base t n):Zo P w K mg base Zr (4*n+11) t.xZ t.wA ["rule"] (ZnK (rc t) K n):=by
 erw[c.UL.F.ok Zbg () λB A outer s H y Q E u h=>?_];ext⟨a,r,rfl,h,g,i,hd,hn,q⟩ h;erw[⟨_,(Zh (ZC (Yn (Ym (Yp M3 c.WO WM (ZB (pv 0) (M4 rfl c.A8))))) (Ze Wm) ZE) (Ze (Zp (VD (pv 0))))),?_⟩];sleep 2;obtain⟨D,ty,v⟩:=qY c h;erw[⟨_,rfl,.ref a,t.YJ,_,_,rfl,ty,v,_,rfl,Zk () ?_⟩];sleep 1;obtain⟨C,j,fs,f,x,sp,g1,g2,g3,g4,g5,g6,g7⟩:=R.at c h g i hd hn;exact⟨_,rfl,a,C,j,fs,f,x,_,_,sp,Zr,E0,rfl,g1,g2,g3,g4,g5,u.mono (),g6,Zn,g7 _ q⟩
def Mf(f:Str)(v:V):(Z9 f v []).length<1000:=Sj (D8 _ _ _) ()
def ZnL(f g:Str)(v u:V):(Z9 f v (Z9 g u [])).length<1000:=Sj (D8 _ _ _) (Sj (Nat.succ_le_succ (D8 _ _ _)) ())
structure G9(H0 H:Hp)(x C:Addr):Prop where
 no:H0 x=none
 sm:Zf H0 H
 at_:∃dx,H x=some (.ins C dx [])
inductive ZeX(c:RC)(K:Oy)(vs:List V)(H:Hp)(Q:VK)(_e3:XK):Prop|mk (x:Addr) (H0:Hp) (b:Nat) (_:vs=[.ref x,.int b]) (_:G9 H0 H x c.week) (_:b<=127) (_:∀H',Zf H0 H'->ZU c K (Y5 H' H0) x (.week b)->Q .non H')
inductive ZeY(c:RC)(K:Oy)(vs:List V)(H:Hp)(Q:VK)(_e3:XK):Prop|mk (x l:Addr) (H0:Hp) (n:Nat) (ss:OH) (_:vs=[.ref x,.int n,.ref l]) (_:G9 H0 H x c.each) (_:H0 l=some (.lst (ZI ss))) (_:(RT.each n ss).good) (_:∀H',Zf H0 H'->ZU c K (Y5 H' H0) x (.each n ss)->Q .non H')
inductive ZeZ(c:RC)(K:Oy)(n:Nat)(vs:List V)(H:Hp)(Q:VK)(_e3:XK):Prop|mk (x i:Addr) (H0:Hp) (a b:Nat) (r:RT) (_:vs=[.ref x,.int a,.int b,.ref i]) (_:G9 H0 H x c.span) (_:ZU c K H0 i r) (_:(RT.span a b r).good) (_:(RT.span a b r).weight<=15) (_:(RT.span a b r).depth<=8) (_:r.depth<=n) (_:∀H',Zf H0 H'->ZU c K (Y5 H' H0) x (.span a b r)->Q .non H')
inductive Ze0(c:RC)(K:Oy)(n:Nat)(vs:List V)(H:Hp)(Q:VK)(_e3:XK):Prop|mk (x l i:Addr) (H0:Hp) (ds:OH) (r:RT) (_:vs=[.ref x,.ref l,.ref i]) (_:G9 H0 H x c.but) (_:H0 l=some (.lst (ZI ds))) (_:ZU c K H0 i r) (_:(RT.but ds r).good) (_:(RT.but ds r).weight<=15) (_:(RT.but ds r).depth<=8) (_:r.depth<=n) (_:∀H',Zf H0 H'->ZU c K (Y5 H' H0) x (.but ds r)->Q .non H')
inductive Pm(c:RC)(K:Oy)(n:Nat)(C:Addr)(mk:RT->RT->RT)(vs:List V)(H:Hp)(Q:VK)(_e3:XK):Prop|mk (x i j:Addr) (H0:Hp) (r s:RT) (_:vs=[.ref x,.ref i,.ref j]) (_:G9 H0 H x C) (_:ZU c K H0 i r) (_:ZU c K H0 j s) (_:(mk r s).good) (_:(mk r s).weight<=15) (_:(mk r s).depth<=8) (_:r.depth<=n) (_:s.depth<=n) (_:∀H',Zf H0 H'->ZU c K (Y5 H' H0) x (mk r s)->Q .non H')
def Ze1(c:Zu K mg t):Zo P w K mg base Zr 3 t.Ny t.wK ["self","bits"] (ZeX (rc t) K):=by
 erw[c.NO.F.ok ZlF () λy A outer s H v Q E n h=>?_];ext⟨x,B,b,rfl,⟨f,u,i,g⟩,j,q⟩ h;erw[⟨_,(Zh (ZC (Yn (Ym (Zt c.Qi (QM c) n Zn (Yk (pv 1) Za (YC R c.Zms))))) (Ze Wm) ZE) (Ze (Ws (pv 0) (pv 1) R))),?_⟩];sleep 2;erw[⟨_,R,.int b,0,127,"int",R,.int _,_,R,Zk (by rw[Ww () ()];lia) ?_⟩];sleep 1;exact⟨_,R,_,R,x,_,i,[],R,g,c.UM,c.qF,(),q _ (Xq f u _) (.week (Ug f Zi) j)⟩
def Ze2(c:Zu K mg t):Zo P w K mg base Zr 4 t.NB t.wZ ["self","length","starts"] (ZeY (rc t) K):=by
 erw[c.NU.F.ok ZlL () λT A outer s H S Q E C h=>?_];ext⟨x,l,J,n,M,rfl,⟨j,B,f,L⟩,D,⟨G,O,g⟩,q⟩ h;erw[⟨_,(Zh (ZC (Yn (Ym (Zt c.Qi (QM c) C Zn (Yk (pv 1) Za (YC R c.Zmt))))) (Ze Wm) ZE) (Zh (ZC (Yn (Ym (Zt c.LJ (ZeM c) C Zn (Uk (pv 2) (YC R c.Zeh) Za (Zj VP (pv 1) Za))))) (Ze Wm) ZE) (Zh (Ws (pv 0) (pv 1) R) (Ze (Ws (pv 0) (Z1 Lb R c.F9 F7 (Zc (pv 2))) R))))),?_⟩];sleep 4;erw[⟨_,R,.int n,1,28,"int",R,.int _,_,R,Zk (by rw[Ww () ()];lia) ?_⟩];sleep 1;erw[⟨_,R,_,R,_,_,R,R,l,M,12,0,_,R,B _ _ D,g.one,g.few,g.up,λy I=>⟨Sk _,by have:=(g.all y I).2;lia⟩,_,R,Zk () ?_⟩];erw[⟨_,R,_,R,x,_,f,[],R,L,c.Vv,c.Pe,(),?_⟩];have u:=Xq j B (.ins t.WN f (Z9 "length" (.int n) []));erw[⟨_,R,l,_,R,.inl ⟨Zd.of (u _ _ D),λp i=>?_⟩⟩];have np:p≠x:=λz=>by rw[z,Zi]at i;cases i
 have v:J p=none:=u.free i;erw[⟨_,R,x,_,f,_,R,(by rw[Zm np.symm];exact Zi),c.Vv,c.Pf,Mf _ _,?_⟩];erw[q _ (Xq j (Xq v u _) _) (.each (Ug j Zi) G O (Zg.of (Ug v (by rw[Zm np];exact Zi))))]
def Pn(i:Zf g c)(j:c x=some h)(o:HO):Zf (Y5 f c) (Y5 (upd f x o) g) :=
 Lr i λa u n e=>by rwa[Zm (λz=>by rw[z,j]at n;cases n)]
def Po(s:Zf g f):Zf (Y5 g c) (Y5 f c):=λa o e=>Ug (F2 e).1 (s _ _ (F2 e).2)
def Ze3(f:Zu K mg t)(n:Nat)(R:V4 P w K mg base t n):Zo P w K mg base Zr (4*n+12) t.Nz t.wR ["self","first","last","rule"] (ZeZ (rc t) K n):=by
 erw[f.NP.F.ok ZlJ () λY A outer s b0 X a0 E v h=>?_];ext⟨x,i,D,a,b,r,rfl,⟨u,I,j,G⟩,Q,⟨C,J,g⟩,H,hd,hn,q⟩ h;have Z:(RT.span a b r).weight=1+r.weight:=rfl;have U:(RT.span a b r).depth=1+r.depth:=rfl;erw[⟨_,(Zh (ZC (Yn (Ym (Zt f.Qi (QM f) v Zn (Yk (pv 1) Za (YC rfl f.uD))))) (Ze Wm) ZE) (Zh (ZC (Yn (Ym (Zt f.Qi (QM f) v Zn (Yk (pv 2) (pv 1) (YC rfl f.uD))))) (Ze Wm) ZE) (Zh (Ws (pv 0) (pv 1) rfl) (Zh (Ws (pv 0) (pv 2) rfl) (Zh (Ws (pv 0) (Zt f.UL (G8 f n R) v Zn (Zc (pv 3))) rfl) (Ze (Yc (Zt f.LK (Pl f) v Zn (Zc (pv 0)))))))))),?_⟩];sleep 6;erw[⟨_,rfl,.int a,0,9999,"int",rfl,.int _,_,rfl,Zk (by rw[Ww () ()];lia) ?_⟩];sleep 1;erw[⟨_,rfl,_,rfl,.int b,(a:Nat),9999,"int",rfl,.int _,_,rfl,Zk (by rw[Ww () ()];lia) ?_⟩];erw[⟨_,rfl,_,rfl,x,_,j,[],rfl,G,f.X4,f.Pc,(),?_⟩];have O:=Xq u I (.ins t.XW j (Z9 "first" (.int a) []));erw[⟨_,rfl,_,rfl,x,_,j,_,rfl,Zi,f.X4,f.Pd,Mf _ _,?_⟩];have s2:=Xq u O (.ins t.XW j (Z9 "last" (.int b) (Z9 "first" (.int a) [])));erw[⟨_,rfl,i,r,rfl,Q.same s2,g,(),(),hn,λc M y S=>?_⟩];erw[⟨_,rfl,x,_,j,_,rfl,y _ _ Zi,f.X4,f.L7,ZnL _ _ _ _,?_⟩];have L:=Xq u (s2.trans y) (.ins t.XW j (Z9 "inner" (.ref c) (Z9 "last" (.int b) (Z9 "first" (.int a) []))));have B:ZU (rc t) K (Y5 (upd M x (.ins t.XW j (Z9 "inner" (.ref c) (Z9 "last" (.int b) (Z9 "first" (.int a) []))))) D) x (.span a b r) :=
  .span (Ug u Zi) C J (S.same (Pn s2 Zi _))
 exact⟨_,rfl,x,_,rfl,B.same (Wv _ _),H,hd,λT s5=>q T (L.trans s5) (B.same (Po s5))⟩
def Ze4(f:Zu K mg t)(n:Nat)(R:V4 P w K mg base t n):Zo P w K mg base Zr (4*n+12) t.NE t.vU ["self","days","rule"] (Ze0 (rc t) K n):=by
 erw[f.N6.F.ok ZlT () λa0 A outer s d0 vs c0 b0 E h=>?_];ext⟨x,l,i,G,ds,r,rfl,⟨D,v,j,H⟩,M,X,⟨u,g⟩,Q,hd,hn,q⟩ h;have ew:(RT.but ds r).weight=1+r.weight:=rfl;have ed:(RT.but ds r).depth=1+r.depth:=rfl;erw[⟨_,(Zh (ZC (Yn (Ym (Zt f.LJ (ZeM f) E Zn (Uk (pv 1) (YC rfl f.Zeh) Za (YC rfl f.uD))))) (Ze Wm) ZE) (Zh (Ws (pv 0) (Z1 Lb rfl f.F9 F7 (Zc (pv 1))) rfl) (Zh (Ws (pv 0) (Zt f.UL (G8 f n R) E Zn (Zc (pv 2))) rfl) (Ze (Yc (Zt f.LK (Pl f) E Zn (Zc (pv 0)))))))),?_⟩];sleep 4;erw[⟨_,rfl,l,ds,12,0,_,rfl,v _ _ M,u.one,u.few,u.up,λy O=>⟨Sk _,by have:=(u.all y O).2;lia⟩,_,rfl,Zk () ?_⟩];sleep 1;erw[⟨_,rfl,l,_,rfl,.inl ⟨Zd.of (v _ _ M),λp B=>?_⟩⟩];have np:p≠x:=λz=>by rw[z,H]at B;cases B
 have I:G p=none:=v.free B;have U:=Xq I v (.tup (ZI ds));erw[⟨_,rfl,x,_,j,[],rfl,(by rwa[Zm np.symm]),f.W2,f.Pg,(),?_⟩];have s2:=Xq D U (.ins t.Wg j (Z9 "days" (.ref p) []));erw[⟨_,rfl,i,r,rfl,X.same s2,g,(),(),hn,λc L C Y=>?_⟩];erw[⟨_,rfl,x,_,j,_,rfl,C _ _ Zi,f.W2,f.Mc,Mf _ _,?_⟩];have S:=Xq D (s2.trans C) (.ins t.Wg j (Z9 "inner" (.ref c) (Z9 "days" (.ref p) [])));have T:L p=some (.tup (ZI ds)):=C _ _ (by rw[Zm np];exact Zi);have J:ZU (rc t) K (Y5 (upd L x (.ins t.Wg j (Z9 "inner" (.ref c) (Z9 "days" (.ref p) [])))) G) x (.but ds r) :=
  .but (Ug D Zi) (Zg.of (Ug I (by rwa[Zm np]))) (Y.same (Pn s2 Zi _))
 exact⟨_,rfl,x,_,rfl,J.same (Wv _ _),Q,hd,λZ s5=>q Z (S.trans s5) (J.same (Po s5))⟩
def Ze5(f:Zu K mg t)(n:Nat)(R:V4 P w K mg base t n):Zo P w K mg base Zr (4*n+12) t.NC t.vG ["self","one","other"] (Pm (rc t) K n t.XH .either):=by
 erw[f.NV.F.ok ZlP () λb0 A outer s a0 vs e0 d0 C h=>?_];ext⟨x,i,j,E,r,u,rfl,⟨y,B,g,G⟩,Y,T,⟨g1,g2⟩,Q,hd,S,M,q⟩ h;have ew:(RT.either r u).weight=1+(r.weight+u.weight):=rfl;have ed:(RT.either r u).depth=1+max r.depth u.depth:=rfl;erw[⟨_,(Zh (Ws (pv 0) (Zt f.UL (G8 f n R) C Zn (Zc (pv 1))) rfl) (Zh (Ws (pv 0) (Zt f.UL (G8 f n R) C Zn (Zc (pv 2))) rfl) (Ze (Yc (Zt f.LK (Pl f) C Zn (Zc (pv 0))))))),?_⟩];sleep 3;erw[⟨_,rfl,i,r,rfl,Y.same B,g1,(),(),S,λc L J U=>?_⟩];erw[⟨_,rfl,x,_,g,_,rfl,J _ _ G,f.WQ,f.L8,(),?_⟩];have s2:=Xq y (B.trans J) (.ins t.XH g (Z9 "one" (.ref c) []));erw[⟨_,rfl,j,u,rfl,T.same s2,g2,(),(),M,λd I v Z=>?_⟩];erw[⟨_,rfl,x,_,g,_,rfl,v _ _ Zi,f.WQ,f.L9,Mf _ _,?_⟩];have X:=Xq y (s2.trans v) (.ins t.XH g (Z9 "other" (.ref d) (Z9 "one" (.ref c) [])));have O:Zf (Y5 L a0) (Y5 (upd I x (.ins t.XH g (Z9 "other" (.ref d) (Z9 "one" (.ref c) [])))) E):=Lr B λa c0 D e=>by
  have ne:a≠x:=λz=>by rw[z,G]at D;cases D
  rw[Zm ne];exact v _ _ (by rwa[Zm ne])
 have H:ZU (rc t) K (Y5 (upd I x (.ins t.XH g (Z9 "other" (.ref d) (Z9 "one" (.ref c) [])))) E) x (.either r u) :=
  .either (Ug y Zi) (U.same O) (Z.same (Pn s2 Zi _))
 exact⟨_,rfl,x,_,rfl,H.same (Wv _ _),Q,hd,λH5 s5=>q H5 (X.trans s5) (H.same (Po s5))⟩
def Ze6(f:Zu K mg t)(n:Nat)(R:V4 P w K mg base t n):Zo P w K mg base Zr (4*n+12) t.ND t.vN ["self","one","other"] (Pm (rc t) K n t.XI .both):=by
 erw[f.NZ.F.ok ZlR () λb0 A outer s a0 vs e0 d0 C h=>?_];ext⟨x,i,j,E,r,u,rfl,⟨y,B,g,G⟩,Y,T,⟨g1,g2⟩,Q,hd,S,M,q⟩ h;have ew:(RT.both r u).weight=1+(r.weight+u.weight):=rfl;have ed:(RT.both r u).depth=1+max r.depth u.depth:=rfl;erw[⟨_,(Zh (Ws (pv 0) (Zt f.UL (G8 f n R) C Zn (Zc (pv 1))) rfl) (Zh (Ws (pv 0) (Zt f.UL (G8 f n R) C Zn (Zc (pv 2))) rfl) (Ze (Yc (Zt f.LK (Pl f) C Zn (Zc (pv 0))))))),?_⟩];sleep 3;erw[⟨_,rfl,i,r,rfl,Y.same B,g1,(),(),S,λc L J U=>?_⟩];erw[⟨_,rfl,x,_,g,_,rfl,J _ _ G,f.WR,f.Ma,(),?_⟩];have s2:=Xq y (B.trans J) (.ins t.XI g (Z9 "one" (.ref c) []));erw[⟨_,rfl,j,u,rfl,T.same s2,g2,(),(),M,λd I v Z=>?_⟩];erw[⟨_,rfl,x,_,g,_,rfl,v _ _ Zi,f.WR,f.Mb,Mf _ _,?_⟩];have X:=Xq y (s2.trans v) (.ins t.XI g (Z9 "other" (.ref d) (Z9 "one" (.ref c) [])));have O:Zf (Y5 L a0) (Y5 (upd I x (.ins t.XI g (Z9 "other" (.ref d) (Z9 "one" (.ref c) [])))) E):=Lr B λa c0 D e=>by
  have ne:a≠x:=λz=>by rw[z,G]at D;cases D
  rw[Zm ne];exact v _ _ (by rwa[Zm ne])
 have H:ZU (rc t) K (Y5 (upd I x (.ins t.XI g (Z9 "other" (.ref d) (Z9 "one" (.ref c) [])))) E) x (.both r u) :=
  .both (Ug y Zi) (U.same O) (Z.same (Pn s2 Zi _))
 exact⟨_,rfl,x,_,rfl,H.same (Wv _ _),Q,hd,λH5 s5=>q H5 (X.trans s5) (H.same (Po s5))⟩
def Wh(nx:H x=none)(nd:H c=none):G9 H (upd (upd H c (.own x)) x (.ins C c [])) x C :=
 ⟨nx,Xq nx (Xq nd (Zf.refl _) _) _,c,Zi⟩
def Ze7(c:Zu K mg t)(n:Nat):Zo P w K mg base Zr (4*n+10) t.wE t.wF ["self"] (Va (rc t) K G5 n):=by
 erw[c.uQ.F.ok ZlB () λu A outer s H j Q E y h=>?_];ext⟨a,r,rfl,h,f,g,i,hd,hn,q⟩ h;erw[⟨_,(Ze (Zp (Nf c.Pb R c.A8))),?_⟩];sleep 1;cases h with
 |always h=>exact λx v nx nd B=>q x _ (Xq nx (Xq nd (Zf.refl _) _) _) (.always (Ug nx Zi))
 |_=>exact f.elim
def Ze8(c:Zu K mg t)(n:Nat):Zo P w K mg base Zr (4*n+10) t.wL t.wM ["self"] (Va (rc t) K G6 n):=by
 erw[c.uT.F.ok ZlG () λD A outer s H C Q E u h=>?_];ext⟨a,r,rfl,h,f,g,B,hd,hn,q⟩ h;erw[⟨_,(Ze (Zp (Wb c.qE (Ze1 c) (u.mono ()) R c.qN c.NO.b .nil Zn (Zc (ZQ (pv 0) R))))),?_⟩];sleep 1;cases h with
 |week h i=>exact⟨_,R,a,_,_,_,_,R,h,c.UM,c.qF,R,λx G nx nd I=>⟨x,H,_,R,Wh nx nd,i,λy j v=>⟨R,q x y j v⟩⟩⟩
 |_=>exact f.elim
def Ze9(c:Zu K mg t)(n:Nat):Zo P w K mg base Zr (4*n+10) t.vA t.vB ["self"] (Va (rc t) K G7 n):=by
 erw[c.uW.F.ok ZlM () λS A outer s H O Q E B h=>?_];ext⟨a,r,rfl,h,i,g,J,hd,hn,q⟩ h;erw[⟨_,(Ze (Zp (Wb c.qH (Ze2 c) (B.mono ()) R c.qP c.NU.b .nil Zn (ZB (ZQ (pv 0) R) (Z1 Uz R c.Y1 Y6 (Zc (ZQ (pv 0) R))))))),?_⟩];sleep 1;cases h with
 |each h X T j =>
  rename_i U L G y;erw[⟨_,R,a,_,_,_,_,R,h,c.Vv,c.Pe,R,_,R,a,_,_,_,_,R,h,c.Vv,c.Pf,R,_,_,R,.inr j,λl D x I nx nd M=>?_⟩];have f:=Zw D (.lst (ZI y));exact⟨x,l,_,_,_,R,Wh nx nd,Zi,g,λu v C=>⟨R,q x u (f.trans v) (C.same (Lr f λ_ _ _ e=>e))⟩⟩
 |_=>exact i.elim
def ZnM(c:Zu K mg t)(n:Nat)(R:V4 P w K mg base t n):Zo P w K mg base Zr (4*(n+1)+10) t.wT t.wU ["self"] (Va (rc t) K A9 (n+1)):=by
 erw[c.NQ.F.ok Zbs () λU A outer s H T Q E C h=>?_];ext⟨a,r,rfl,h,j,g,y,hd,hn,q⟩ h;erw[⟨_,(Ze (Zp (Wb c.qG (Ze3 c n R) (C.mono ()) rfl c.qO c.NP.b .nil Zn (Yk (ZQ (pv 0) rfl) (ZQ (pv 0) rfl) (ZQ (pv 0) rfl))))),?_⟩];sleep 1;cases h with
 |span h M L D =>
  rename_i X i I u f;have S:(RT.span I u f).depth=1+f.depth:=rfl;exact⟨_,rfl,a,_,_,_,_,rfl,h,c.X4,c.Pc,rfl,_,rfl,a,_,_,_,_,rfl,h,c.X4,c.Pd,rfl,_,rfl,a,_,_,_,_,rfl,h,c.X4,c.L7,rfl,
   λx J nx nd O=>⟨x,_,H,_,_,_,rfl,Wh nx nd,D,g,y,hd,(),λv B G=>⟨rfl,q x v B G⟩⟩⟩
 |_=>exact j.elim
def ZnN(c:Zu K mg t)(n:Nat)(R:V4 P w K mg base t n):Zo P w K mg base Zr (4*(n+1)+10) t.vV t.vW ["self"] (Va (rc t) K B3 (n+1)):=by
 erw[c.N7.F.ok ZbB () λX A outer s H U Q E G h=>?_];ext⟨a,r,rfl,h,v,g,C,hd,hn,q⟩ h;erw[⟨_,(Ze (Zp (Wb c.qK (Ze4 c n R) (G.mono ()) rfl c.qS c.N6.b .nil Zn (ZB (Z1 Uz rfl c.Y1 Y6 (Zc (ZQ (pv 0) rfl))) (ZQ (pv 0) rfl))))),?_⟩];sleep 1;cases h with
 |but h y I =>
  rename_i Y O i j u;have T:(RT.but j u).depth=1+u.depth:=rfl;erw[⟨_,rfl,a,_,_,_,_,rfl,h,c.W2,c.Pg,rfl,_,_,rfl,.inr y,λl L=>?_⟩];have f:=Zw L (.lst (ZI j));exact⟨_,rfl,a,_,_,_,_,rfl,f _ _ h,c.W2,c.Mc,rfl,λx M nx nd S=>⟨x,l,_,_,_,_,rfl,Wh nx nd,Zi,I.same f,g,C,hd,(),λB D J=>⟨rfl,q x B (f.trans D) (J.same (Lr f λ_ _ _ e=>e))⟩⟩⟩
 |_=>exact v.elim
def ZnO(c:Zu K mg t)(n:Nat)(R:V4 P w K mg base t n):Zo P w K mg base Zr (4*(n+1)+10) t.vH t.vI ["self"] (Va (rc t) K B1 (n+1)):=by
 erw[c.NW.F.ok Zbv () λS A outer s H O Q E D h=>?_];ext⟨a,r,rfl,h,u,g,y,hd,hn,q⟩ h;erw[⟨_,(Ze (Zp (Wb c.qI (Ze5 c n R) (D.mono ()) rfl c.qQ c.NV.b .nil Zn (ZB (ZQ (pv 0) rfl) (ZQ (pv 0) rfl))))),?_⟩];sleep 1;cases h with
 |either h G B =>
  rename_i T i j f r1;have M:(RT.either f r1).depth=1+max f.depth r1.depth:=rfl;exact⟨_,rfl,a,_,_,_,_,rfl,h,c.WQ,c.L8,rfl,_,rfl,a,_,_,_,_,rfl,h,c.WQ,c.L9,rfl,
   λx J nx nd L=>⟨x,_,_,H,_,_,rfl,Wh nx nd,G,B,g,y,hd,(),(),λv C I=>⟨rfl,q x v C I⟩⟩⟩
 |_=>exact u.elim
def ZnP(c:Zu K mg t)(n:Nat)(R:V4 P w K mg base t n):Zo P w K mg base Zr (4*(n+1)+10) t.vO t.vP ["self"] (Va (rc t) K B2 (n+1)):=by
 erw[c.N0.F.ok Zby () λS A outer s H O Q E D h=>?_];ext⟨a,r,rfl,h,u,g,y,hd,hn,q⟩ h;erw[⟨_,(Ze (Zp (Wb c.qJ (Ze6 c n R) (D.mono ()) rfl c.qR c.NZ.b .nil Zn (ZB (ZQ (pv 0) rfl) (ZQ (pv 0) rfl))))),?_⟩];sleep 1;cases h with
 |both h G B =>
  rename_i T i j f r1;have M:(RT.both f r1).depth=1+max f.depth r1.depth:=rfl;exact⟨_,rfl,a,_,_,_,_,rfl,h,c.WR,c.Ma,rfl,_,rfl,a,_,_,_,_,rfl,h,c.WR,c.Mb,rfl,
   λx J nx nd L=>⟨x,_,_,H,_,_,rfl,Wh nx nd,G,B,g,y,hd,(),(),λv C I=>⟨rfl,q x v C I⟩⟩⟩
 |_=>exact u.elim
theorem I0(c:Zu K mg t):∀n,V4 P w K mg base t n
 |0=>by
  have no:∀{q:RT->Prop},∀vs H Q E,Va (rc t) K q 0 vs H Q E->False:=λvs H Q E h=>by
   ext⟨a,r,rfl,h,v,g,u,hd,hn,_⟩ h;have:=r.depth_pos;lia
  exact⟨Ze7 c 0,Ze8 c 0,
   c.NQ.F.ok Zbs (λvs H Q E h=>(no vs H Q E h).elim) (λi A outer s H vs Q E j h=>(no vs H Q E h).elim),Ze9 c 0,
   c.NW.F.ok Zbv (λvs H Q E h=>(no vs H Q E h).elim) (λi A outer s H vs Q E j h=>(no vs H Q E h).elim),
   c.N0.F.ok Zby (λvs H Q E h=>(no vs H Q E h).elim) (λi A outer s H vs Q E j h=>(no vs H Q E h).elim),
   c.N7.F.ok ZbB (λvs H Q E h=>(no vs H Q E h).elim) (λi A outer s H vs Q E j h=>(no vs H Q E h).elim)⟩
 |n+1=>have f:=I0 c n
  ⟨Ze7 c (n+1),Ze8 c (n+1),ZnM c n f,Ze9 c (n+1),ZnO c n f,ZnP c n f,ZnN c n f⟩
def Zfa(c:Zu K mg t):Zo P w K mg base Zr 40 t.Nz t.wR ["self","first","last","rule"] (ZeZ (rc t) K 7):=Ze3 c 7 (I0 c 7)
def Zfb(c:Zu K mg t):Zo P w K mg base Zr 40 t.NE t.vU ["self","days","rule"] (Ze0 (rc t) K 7):=Ze4 c 7 (I0 c 7)
def Zfc(c:Zu K mg t):Zo P w K mg base Zr 40 t.NC t.vG ["self","one","other"] (Pm (rc t) K 7 t.XH .either):=Ze5 c 7 (I0 c 7)
def Zfd(c:Zu K mg t):Zo P w K mg base Zr 40 t.ND t.vN ["self","one","other"] (Pm (rc t) K 7 t.XI .both):=Ze6 c 7 (I0 c 7)
def Zfe(c:Zu K mg t):Zo P w K mg base Zr 40 t.Ny t.wK ["self","bits"] (ZeX (rc t) K):=(Ze1 c).mono ()
def Zff(c:Zu K mg t):Zo P w K mg base Zr 40 t.NB t.wZ ["self","length","starts"] (ZeY (rc t) K):=(Ze2 c).mono ()
def tx(l:OH):Str:=⟨l.toArray⟩
def V5(l:OH):(tx l).length=l.length:=by show l.toArray.size=_;rw[SO]
def Pp(a b:OH):tx a++tx b=tx (a++b):=by
 show Str.mk (a.toArray++b.toArray)=_;rw[List.append_toArray];rfl
def Mg(l:OH):(tx l).cps.toList=l:=by show l.toArray.toList=l;rfl
def ZnQ(h:tx a=tx b):a=b:=by
 have:=congrArg (λz:Str=>z.cps.toList) h;rwa [Mg,Mg]at this
theorem Zfg:∀l:List Nat,Str.join (OL "") (l.map λc=>tx [c])=tx l
 |[]=>rfl
 |c::l=>by
  rw[SN,show OL ""=(⟨#[]⟩:Str)from R,PyProof.Rows.join_nil_cons];have f:=Zfg l;rw[show OL ""=(⟨#[]⟩:Str)from R]at f;rw[f,Pp];rfl
def Zfh:∀i:Nat,i<26->YW (OL "abcdefghijklmnopqrstuvwxyz").cps.toList (i:Int)=some (97+i):=by lia
def ZnR(l:OH)(h:l.length<=20):((l.map λc=>tx [c]).map λx=>x.length+(OL "").length).sum<=sizeLine :=
 Qx (m:=0) () (by rwa[Sv]) λx f=>by
  obtain⟨c,_,rfl⟩:=SK.mp f;rw[V5,Sw];lia
structure ZT where
 nm:Str
 z:Nat
 ch:Nat
structure Cl where
 st:Str
 ar:Nat
 lv:Nat
def Yt(H:Hp)(v:V)(c:Cl):Prop:=∃p,v=.ref p/\H p=some (.tup [.str c.st,.int (c.ar:Nat),.int (c.lv:Nat)])
def Yt.same(s:Zf H f)(h:Yt H v c):Yt f v c:=let ⟨p,e,h⟩:=h;⟨p,e,s _ _ h⟩
def qZ:V->Int
 |.int i=>i
 |_=>0
def Vb(lo hi:Int):List V->Bool
 |[]=>true
 |x::r=>XC x lo hi && Vb (qZ x+1) hi r
def ZnS(k:Kd H v T):W.kitOne K (.type T) (.type "list")=some (decide (T="list")):=by
 cases k<;>rfl
inductive ZnT(vs:List V)(H:Hp)(Q:VK)(_e3:XK):Prop|mk (v:V) (n lo hi:Int) (_:vs=[v,.int n,.int lo,.int hi]) (_:((∃T,Kd H v T/\T ≠ "list" /\ Q (.bl false) H)\/(∃(a:Addr) (xs:List V),v=.ref a/\H a=some (.lst xs)/\(∀x∈xs,∃T,Kd H x T)/\Q (.bl (decide (1<=xs.length/\(xs.length:Int)<=n) && Vb lo hi xs)) H)))
def ZnU(j:Zu K mg t):Zo P w K mg base Zr 3 t.xX t.xY ["values","longest","least","most"] ZnT:=by
 erw[j.LJ.F.ok QB () λU A outer s H S Q E L h=>?_];ext⟨v,n,lo,c,rfl,h⟩ h;erw[⟨_,(Zh (ZC (PW.pt (Vh (Yn (Ym (Yp VW j.WO WM (ZB (pv 0) (VX R j.Y1 Y6))))) (VO (Yn (MQ Vl Vl Za (Yp WY j.XJ XG (Zc (pv 0))) (pv 1)))))) (Ze (Zp Xy)) ZE) (Zh (ZR 4 QB.nd (pv 2)) (Zh (Xr (YP (pv 0)) (ZJ 5 QB.nd) (Zh (ZC (Yn (Ym (Zt j.Qi (QM j) L Zn (Yk (pv 5) (pv 4) (pv 3))))) (Ze (Zp Xy)) ZE) (Ze (ZR 4 QB.nd (Zj Yw (pv 5) Za))))) (Ze (Zp Xy))))),?_⟩];sleep 4;rcases h with⟨T,kd,I,q⟩|⟨a,xs,rfl,ha,M,q⟩;exact⟨_,R,v,"list",_,_,R,kd.ty,ZnS kd,_,R,Zy (by rw[SS I];rfl) q⟩;erw[⟨_,R,.ref a,"list",_,_,R,.lst ha,R,_,R,Zk () ?_⟩];erw[⟨_,R,a,_,R,.inl (Zd.of ha),_,_,R,R,_,R,?_⟩];by_cases G:1<=xs.length
 rotate_left
 erw[Zk (by rw[SS ()];lia) ?_];erw[⟨_,R,Zy R ?_⟩];sleep 1;rw[SS (λz=>G z.1),Bool.false_and]at q;exact q;erw[Zy (SR ()) ⟨_,R,_,_,R,R,_,R,?_⟩];by_cases B:(xs.length:Int)<=n
 rotate_left
 erw[Zy (by rw[SS B];rfl) ?_];sleep 1;rw[SS (λz=>B z.2),Bool.false_and]at q;exact q;erw[Zk (by rw[SR B];lia) ?_];sleep 1;rw[SR ⟨G,B⟩,Ou]at q;refine⟨_,R,_,R,a,R,⟨_,Zd.of ha⟩,Qp (xs:=xs) (λi y C=>C=H/\∃(f:Int) (u:Option V),y=[some (.ref a),some (.int n),some (.int lo),some (.int c),some (.int f),u]/\Vb lo c xs=Vb f c (xs.drop i))
  ⟨R,lo,_,R,R⟩ (λi y C _ ⟨e,_⟩=>by rw[e];exact Zd.of ha) ?_ ?_⟩
 rintro i x y C D ⟨rfl,f,u,rfl,g⟩;sleep 102;have O:i<xs.length:=(Sr.mp D).1;have J:xs.drop i=x::xs.drop (i+1):=by
  rw[List.drop_eq_getElem_cons O,(Sr.mp D).2]
 rw[J]at g;obtain⟨T,kx⟩:=M x (SL D);erw[⟨_,R,_,R,_,R,x,f,c,T,R,kx,_,R,?_⟩];cases hn:XC x f c with
 |false =>
  erw[Zy R ?_];sleep 1;have e:Vb lo c xs=false:=by
   rw[g];show(XC x f c && _)=false;rw[hn];rfl
  rw[e]at q;exact q
 |true =>
  erw[Zk () ?_];cases x with
  |int m =>
   erw[⟨_,R,_,_,R,R,R,m+1,_,R,?_⟩];rw[g];show(XC (.int m) f c && Vb (m+1) c (xs.drop (i+1)))=_;rw[hn,Ou]
  |_=>cases hn
 rintro y C ⟨rfl,f,u,rfl,g⟩;rw[List.drop_length]at g;have e:Vb lo c xs=true:=g;rw[e]at q;exact q
def Ww{b:Nat}{lo hi:Int}(h1:lo<=b)(c:(b:Int)<=hi):XC (.int b) lo hi=true:=SR ⟨h1,c⟩
def Uo:Str:=⟨#[97,98,99,100,101,102,103,104,105,106,107,108,109,110,111,112,113,114,115,116,117,118,119,120,121,122]⟩
def ZnV:OL "abcdefghijklmnopqrstuvwxyz"=Uo:=by lia
def ZnW:∀i:Nat,i<26->X2 Uo (97+i)=true:=by lia
def ZnX{z:Str}(h:Yd z):((z.cps.toList.map λc=>X2 Uo c).all id)=true:=by
 rw[List.all_eq_true];intro b f;obtain⟨c,g,rfl⟩:=SK.mp f;have:=h.2.2.1 c g;have e:=ZnW (c - 97) ();rw[show 97+(c - 97)=c by lia]at e;exact e
def ZnY{c:Nat}(h:X2 Uo c=true):97<=c/\c<=122:=by
 by_cases e:97<=c/\c<=122;exact e;exfalso;unfold X2 at h;rw[W.occ_nil_of_no _ _ 1 (λi f=>?_)]at h;cases h;have f:i<26:=f;show(Uo.cps.extract i (i+1)==#[c])=false;rw[(():∀i,i<26->Uo.cps.extract i (i+1)=#[97+i]) i f];simp only[beq_eq_false_iff_ne,ne_eq,Array.mk.injEq,List.cons.injEq,and_true];lia
def Vk(H:Hp)(v:V):Prop:=(∃T,Kd H v T)/\∀z,v=.str z->z.length<=100
def UP(z:Str)(h:z.length<=100):Vk H (.str z):=⟨⟨_,.str z⟩,λy e=>by injection e with e;rwa[<-e]⟩
def V6(z:Str):Bool:=decide (1<=z.length/\z.length<=8) && (z.cps.toList.map λc=>X2 Uo c).all id
def Vw:V->Bool
 |.str z=>V6 z
 |_=>false
def Ql(h:Yd z):V6 z=true:=by
 unfold V6;rw[ZnX h,SR ⟨h.1,h.2.1⟩];rfl
def J0(h:Vw v=true):∃z,v=.str z/\V6 z=true:=by
 cases v with
 |str z=>exact⟨z,R,h⟩
 |_=>cases h
def Xd:V->Nat
 |.int i=>i.toNat
 |_=>0
def X5:V->Str
 |.str z=>z
 |_=>OL ""
def ZnZ(h:V6 z=true):Yd z:=by
 unfold V6 at h;rw[Bool.and_eq_true]at h;have f:=SU h.1;erw[⟨f.1,f.2,λc g=>?_,trivial⟩];have i:=List.all_eq_true.mp h.2 _ (SK.mpr ⟨c,g,R⟩);exact ZnY i
def J1(h:XC v lo hi=true)(c:0<=lo):v=.int ((Xd v:Nat):Int)/\lo<=((Xd v:Nat):Int)/\((Xd v:Nat):Int)<=hi:=by
 cases v with
 |int i =>
  have:=SU h;have e:((i.toNat:Nat):Int)=i:=Int.toNat_of_nonneg ();exact⟨congrArg V.int e.symm,by show lo<=((i.toNat:Nat):Int);lia,by show((i.toNat:Nat):Int)<=hi;lia⟩
 |_=>cases h
inductive Wn where
 |days|many|name|twice|stop|rule|ticket|trip|number
def Wn.cls(t:Ya):Wn->Addr
 |.days=>t.VH
 |.many=>t.Qg
 |.name=>t.QD
 |.twice=>t.QE
 |.stop=>t.Qh
 |.rule=>t.QF
 |.ticket=>t.QG
 |.trip=>t.UK
 |.number=>t.QH
def ck(b:Bool)(w:Wn)(r:Option Wn):Option Wn:=match b with
 |true=>r
 |false=>some w
def QN{w:Wn}(h:ck b w r=none):b=true/\r=none:=by
 cases b with
 |true=>exact⟨R,h⟩
 |false=>cases h
def Zfi(c k:Int):Int:=(c%1000000007+7919*k+13)*(c%1000000007+7919*k+13)%1000000007*(c%1000000007+7919*k+13)%998244353/11
def Wi(c k:Int):Nat:=(Zfi c k).toNat
def Zn0(c k:Int):Zfi c k=((Wi c k:Nat):Int):=by
 have e:∀z:Int,z%998244353/11=(((z%998244353/11).toNat:Nat):Int):=λz=>by lia
 exact e _
def jA(c k:Int):Wi c k<998244353:=by
 have e:∀z:Int,(z%998244353/11).toNat<998244353:=λz=>by lia
 exact e _
inductive Zn1(vs:List V)(H:Hp)(Q:VK)(_e3:XK):Prop|mk (c k:Int) (_:vs=[.int c,.int k]) (_:0<=k) (_:k<=130000) (_:Q (.int (Wi c k:Nat)) H)
def Up(f:Zu K mg t):Zo P w K mg base Zr 1 t.ZcU t.ZcV ["_law_cell","_law_k"] Zn1:=by
 erw[f.V3.F.ok Zbn () λi A outer s H g Q E n h=>?_];ext⟨c,k,rfl,u,j,q⟩ h;erw[⟨_,(Zh (ZR 2 Zbn.nd (Zj Yw (Zj Yw (Zj Z7 (pv 0) Za) (Zj Qq Za (pv 1))) Za)) (Ze (Zp (Zj YY (Zj Z7 (Zj Qq (Zj Z7 (Zj Qq (pv 2) (pv 2)) Za) (pv 2)) Za) Za)))),?_⟩];sleep 2;have g1:0<=c%1000000007:=Int.emod_nonneg _ ();have g2:c%1000000007<1000000007:=Int.emod_lt_of_pos _ ();erw[⟨_,R,_,_,R,R,(),_,R,_,_,R,R,.inl ⟨(),()⟩,_,_,R,R,_,_,R,R,?_⟩];refine⟨_,R,_,R,_,_,R,R,Zat (by show 0<=c%1000000007+7919*k+13;lia) (by show c%1000000007+7919*k+13<_;lia),_,_,R,R,(),_,R,_,_,R,R,
  Zat (by show 0<=c%1000000007+7919*k+13;lia) (by show c%1000000007+7919*k+13<_;lia),_,_,R,R,(),_,_,R,R,⟨(),()⟩,?_⟩
 rw[<-Zn0 c k]at q;exact q
inductive Zn2(K:Oy)(vs:List V)(H:Hp)(Q:VK)(_e3:XK):Prop|mk (a:Addr) (ns:OF) (k:Int) (_:vs=[.ref a,.int k]) (_:Zd K H a (ns.map V.int)) (_:0<=k) (_:∀d:Int,Q (.int d) H)
def Zfj(g:Zu K mg t):Zo P w K mg base Zr 2 t.ZcS t.ZcT ["_law_script","_law_k"] (Zn2 K):=by
 erw[g.uL.F.ok Zly () λv A outer s H u Q E x h=>?_];ext⟨a,ns,k,rfl,f,y,q⟩ h;erw[⟨_,(Zh (ZC (ZV P9 (pv 1) (Yp WY g.XJ XG (Zc (pv 0)))) (Ze (Zp (Zq Yf (pv 0) (pv 1)))) ZE) (Ze (Zp Za))),?_⟩];sleep 2;erw[⟨_,R,_,R,a,_,R,.inl f,_,_,R,R,_,R,?_⟩];erw[VC (λc=>?_) (λc=>?_)];sleep 1;have n:k<((ns.map V.int).length:Nat):=SU c;rw[Sv]at n;have j:k.toNat<ns.length:=by lia
 have i:YW (ns.map V.int) ((k.toNat:Nat):Int)=some (.int ns[k.toNat]):=Wt (by rw[Ob,Ss j];rfl);rw[show((k.toNat:Nat):Int)=k by lia]at i;exact⟨_,R,_,R,a,_,_,_,R,R,f,i,q _⟩;sleep 1;exact q 0
def Wz(d n:Nat):List Nat:=(List.range n).map λj=>97+Wi (d:Nat) ((20+j:Nat):Int)%26
def Qm(d n:Nat):(Wz d n).length=n:=by unfold Wz;rw[Sv,List.length_range]
def Zfk(d n:Nat):∀c∈Wz d n,97<=c/\c<=122:=λc h=>by
 obtain⟨j,_,rfl⟩:=SK.mp h;lia
def ZW(d k:Nat):Str:=tx ((Wz d (d%7)).take (d/7%(d%7+1))++[97+(d/56+3*k)%26]++(Wz d (d%7)).drop (d/7%(d%7+1)))
def Pq(d k:Nat):Yd (ZW d k):=by
 unfold ZW;erw[⟨?_,?_,λc f=>?_,trivial⟩];rw[V5,Su,Su,Sw];lia;rw[V5,Su,Su,Sw,Sx,SB,Qm];lia;rw[Mg]at f;rcases SH.mp f with f|f;rcases SH.mp f with f|f;exact Zfk d _ c (List.mem_of_mem_take f);rw[SF]at f;lia;exact Zfk d _ c (List.mem_of_mem_drop f)
def jB{j : Nat}(f:i<j)(c:j<9):ZW d i≠ZW d j:=λe=>by
 unfold ZW at e;have e:=ZnQ e;rw[Oe,Oe]at e;have e:=List.append_cancel_left e;injection e with e _;lia
inductive Zn3(vs:List V)(H:Hp)(Q:VK)(_e3:XK):Prop|mk (d k:Nat) (_:vs=[.int d,.int k]) (_:k<=13) (_:∀H',Zf H H'->Q (.str (ZW d k)) H')
def Zn4(g:Zu K mg t):Zo P w K mg base Zr 2 t.ZcW t.ZcX ["_law_seed","_law_k"] Zn3:=by
 erw[g.ZeA.F.ok Nv () λT A outer s H S Q E L h=>?_];ext⟨d,k,rfl,X,q⟩ h;erw[⟨_,(Zh (ZR 2 Nv.nd Zl) (Zh (ZR 3 Nv.nd (YQ PySem.F.plainAttrs_str PySem.F.slot_str_join PySem.F.type_str_join WJ Zl (Zc (YZ (cl:=[(OL "_law_seed",s.heap.objs.size+1),(OL "_law_letters",s.heap.objs.size+2)]) (N:=["_law_j","_law_letters","_law_seed"]) (fr:=[none,some 2,some 0]) R (Vj R g.WP (Zc (Zj Z7 (pv 0) Za))) R () R () ⟨⟨R,Or.inl R,Or.inl R,_,R,R⟩,⟨⟨R,Or.inl R,Or.inl R,_,R,R⟩,trivial⟩⟩ ⟨R,⟨R,trivial⟩⟩ R (λ_ _ _ _ _=>(ZJ 0 (show List.Nodup (["_law_j","_law_letters","_law_seed"]:OD) by lia))) (λ_ _ _ _ _=>YM) (λ_ _ _ _ _=>(Zq K6 (pv 1) (Zj Z7 (Zt g.V3 (Up g) L Zn (ZB (pv 2) (Zj Yw Za (pv 0)))) Za))))))) (Zh (ZR 4 Nv.nd (Zj Z7 (Zj YY (pv 0) Za) (Zj Yw (Yp La g.XJ XG (Zc (pv 3))) Za))) (Ze (Zp (Zj Yo (Zj Yo (VT UC (pv 3) VS (VB (pv 4))) (Zq K6 (pv 2) (Zj Z7 (Zj Yw (Zj YY (pv 0) Za) (Zj Qq Za (pv 1))) Za))) (VT UC (pv 3) (VB (pv 4)) VS))))))),?_⟩];sleep 4;have D:(d:Int)%7=((d%7:Nat):Int):=by lia
 erw[⟨R,_,R,_,_,R,R,(),?_⟩];dsimp only;rw[D];erw[⟨_,R,(),(),Qu (λi j n x=>x=H/\j=((Wz d i).map λc=>tx [c]).map V.str/\∃v,n=[v,some (.str (OL "abcdefghijklmnopqrstuvwxyz")),some (.int d)]) ⟨R,R,none,R⟩ (Sh (show _<=7 by lia) ()) ?_ ?_⟩];rintro i j n x Y ha ⟨rfl,rfl,v,rfl⟩;dsimp only[YA,Y4];rw[SW R];have J:(20:Int)+(0+(i:Int))=((20+i:Nat):Int):=by lia
 erw[⟨_,R,_,R,_,R,_,_,R,R,?_⟩];dsimp only[Vm,Y8,Od];rw[J];erw[⟨_,_,R,(),(),_,_,R,R,(),_,_,97+Wi (d:Nat) ((20+i:Nat):Int)%26,R,R,(),?_,?_⟩];have:=Zfh (Wi (d:Nat) ((20+i:Nat):Int)%26) ();rw[show((Wi (d:Nat) ((20+i:Nat):Int)%26:Nat):Int)=((Wi (d:Nat) ((20+i:Nat):Int):Nat):Int)%26 by lia]at this;exact this;erw[⟨by rw[Su,Sw];lia,R,?_,_,R⟩];unfold Wz;rw[Ol,SM,SM,SM];rfl;rintro j n x ha ⟨rfl,rfl,v,rfl⟩ p C;have I:((d%7:Nat):Int).toNat=d%7:=by lia
 rw[I];have s2:=Zw C (.lst (((Wz d (d%7)).map λc=>tx [c]).map V.str));erw[⟨_,p,(Wz d (d%7)).map λc=>tx [c],R,R,Zd.of Zi,ZnR _ (by rw[Qm];lia),?_⟩];rw[Zfg];have y:(tx (Wz d (d%7))).length<=sizeLine:=by rw[V5,Qm];exact Sh (show _<=7 by lia) ()
 erw[⟨_,R,_,_,R,R,⟨(),()⟩,_,R,_,R,y,_,_,R,R,_,_,R,R,(by show(0:Int)<((tx (Wz d (d%7))).length:Int)+1;lia),?_⟩];dsimp only;have M:(d:Int)/7%((((tx (Wz d (d%7))).length:Nat):Int)+1)=((d/7%(d%7+1):Nat):Int):=by
  have G:=SX (d/7) (d%7+1);rw[V5,Qm,G,SY d 7];rfl
 rw[M];have u:d/7%(d%7+1)<=d%7:=by have:=Op (d/7) (show d%7+1>0 by lia);lia
 unfold ZW at q;generalize d/7%(d%7+1)=f at u q ⊢;erw[⟨_,R,_,R,_,R,_,R,y,?_⟩];rw[Zax _ _ (by rwa[V5,Qm]),Mg];erw[⟨_,R,_,R,_,_,R,R,⟨(),()⟩,_,R,_,_,R,R,.inl ⟨(),()⟩,_,_,R,R,_,_,R,R,(),_,_,97+(d/56+3*k)%26,R,R,(),?_,?_⟩];have:=Zfh ((d/56+3*k)%26) ();rw[show(((d/56+3*k)%26:Nat):Int)=((d:Int)/56+3*(k:Int))%26 by lia]at this;exact this;have U:((Wz d (d%7)).take f).length<=8:=by rw[Sx,Qm];lia
 have O:((Wz d (d%7)).drop f).length<=8:=by rw[SB,Qm];lia
 erw[⟨_,_,R,R,?_,?_⟩];show(tx ((Wz d (d%7)).take f)).length+(tx [97+(d/56+3*k)%26]).length<=sizeLine;rw[V5,V5,Sw];exact Sh (show _<=9 by lia) ();erw[⟨_,R,_,R,_,R,_,R,y,?_⟩];rw[ZiI _ _ (by rwa[V5,Qm]),Mg];erw[⟨_,_,R,R,?_,?_⟩];show(tx ((Wz d (d%7)).take f)++tx [97+(d/56+3*k)%26]).length+(tx ((Wz d (d%7)).drop f)).length<=sizeLine;rw[Pp,V5,V5,Su,Sw];exact Sh (show _<=17 by lia) ();have B:=q _ s2;rw[<-Pp,<-Pp]at B;exact B
structure Vc(NS:OD)(cs:List Cl):Prop where
 st:∀c∈cs,c.st∈NS
 rng:∀c∈cs,c.ar<=c.lv/\c.lv<=2879
 fol:∀i a b,cs[i]? = some a->cs[i+1]? = some b->b.st≠a.st/\a.lv<b.ar
 gap:∀i a b,cs[i]? = some a->cs[i+1]? = some b->b.ar<=a.lv+40
def Vc.nil(c:OD):Vc c []:=⟨(),(),(),()⟩
def Zfl(cs:List Cl)(v:V)(T:Nat):Prop:=(cs=[]/\v=.non)\/∃f c,cs=f++[c]/\v=.str c.st/\T=c.lv
def Vc.snoc{c:Cl}(h:Vc y cs)(l:Zfl cs v T)(I:c.st∈y)(G:c.ar<=c.lv/\c.lv<=2879)(D:V.str c.st≠v)(E:T<c.ar)(C:c.ar<=T+40):Vc y (cs++[c]):=by
 erw[⟨λx f=>?_,λx f=>?_,λi a b j g=>?_,λi a b j g=>?_⟩];rcases SH.mp f with f|f;exact h.st x f;rwa[SF.mp f];rcases SH.mp f with f|f;exact h.rng x f;rwa[SF.mp f];have B:=(Sr.mp g).1;rw[Su,Sw]at B;by_cases H:i+1<cs.length;rw[List.getElem?_append_left ()]at j g;exact h.fol i a b j g;have n:i+1=cs.length:=by lia
 rw[n,Oc (Sg _),Nat.sub_self]at g;obtain rfl:c=b:=So g;rw[List.getElem?_append_left ()]at j;rcases l with⟨rfl,_⟩|⟨u,k,rfl,rfl,rfl⟩;simp at n;rw[Su,Sw]at n;rw[show i=u.length by lia,Oc (Sg _),Nat.sub_self]at j;obtain rfl:k=a:=So j;exact⟨λe=>D (by rw[e]),E⟩;have B:=(Sr.mp g).1;rw[Su,Sw]at B;by_cases H:i+1<cs.length;rw[List.getElem?_append_left ()]at j g;exact h.gap i a b j g;have n:i+1=cs.length:=by lia
 rw[n,Oc (Sg _),Nat.sub_self]at g;obtain rfl:c=b:=So g;rw[List.getElem?_append_left ()]at j;rcases l with⟨rfl,_⟩|⟨u,k,rfl,rfl,rfl⟩;simp at n;rw[Su,Sw]at n;rw[show i=u.length by lia,Oc (Sg _),Nat.sub_self]at j;obtain rfl:k=a:=So j;exact C
inductive Zn5(vs:List V)(H:Hp)(Q:VK)(_e3:XK):Prop|mk (d many:Nat) (ls:Addr) (NS:OD) (_:vs=[.int d,.ref ls,.int many]) (_:H ls=some (.lst (NS.map V.str))) (_:NS.Nodup) (_:2<=NS.length) (_:NS.length<=8) (_:many<=6) (_:∀(cs:List Cl) l vs H',Zf H H'->H l=none->H' l=some (.lst vs)->Al (Yt H') vs cs->Vc NS cs->cs.length=many->Q (.ref l) H')
def Zn6{g:OD}(nd:g.Nodup)(f:2<=g.length)(v:V):(g.filter λz=>!decide (V.str z=v))≠[]:=by
 match g,nd,f with
 |a::b::r,nd,_ =>
  have i:a≠b:=λe=>(Om.mp nd).1 (by rw[e];exact SE);intro e;have c:¬ ((!decide (V.str a=v))=true):=λh=>by have:a∈([]:OD):=e ▸ List.mem_filter.mpr ⟨SE,h⟩;cases this
  have f:¬ ((!decide (V.str b=v))=true):=λh=>by have:b∈([]:OD):=e ▸ List.mem_filter.mpr ⟨SD _ SE,h⟩;cases this
  simp at c f;rw[<-f]at c;injection c with c;exact i c
def Zfm(D:Zu K mg t):Zo P w K mg base Zr 2 t.Zc4 t.Zc5 ["_law_number","_law_stops","_law_many"] Zn5:=by
 erw[D.uM.F.ok Ul () λs0 A outer s e0 u v0 u0 hr k0=>?_];ext⟨d,many,Y,c,rfl,g0,nd,n2,n8,hm,q⟩ k0;erw[⟨_,(Zh (ZR 3 Ul.nd (Ye Xz)) (Zh (ZR 4 Ul.nd (Zj Yw (Zq Yf (Ye (Uk Za Za Za Za)) (Zj Z7 (pv 0) Za)) (Zj Z7 (Zj YY (pv 0) Za) Za))) (Zh (ZR 5 Ul.nd PZ) (Zh (Xr (Vj R D.WP (Zc (pv 2))) (ZJ 6 Ul.nd) (Zh (ZR 7 Ul.nd (Zt D.V3 (Up D) hr Zn (ZB (pv 0) (Zj Yw Za (pv 6))))) (Zh (U5 (i0:=8) (cl:=[(OL "_law_last",s.heap.objs.size+1)]) (N:=["_law_stop","_law_last"]) (fr:=[none,some 5]) Ul.nd R (Or.inl R) R (YP (pv 1)) R () R () ⟨⟨R,Or.inl R,Or.inl R,_,R,R⟩,trivial⟩ ⟨R,trivial⟩ R (λ_ _ _ _ _=>(ZJ 0 (show List.Nodup (["_law_stop","_law_last"]:OD) by lia))) (λ_ _ _ _ _=>(M5 (ZV Ux (pv 0) (pv 1)))) (λ_ _ _ _ _=>(pv 0))) (Zh (ZR 5 Ul.nd (Zq Yf (pv 8) (Zj Z7 (pv 7) (Yp WY D.XJ XG (Zc (pv 8)))))) (Zh (ZR 9 Ul.nd (Zj Yw (Zj Yw (pv 4) Za) (Zj Z7 (Zj YY (pv 7) Za) Za))) (Zh (ZR 10 Ul.nd (Zj Yw (pv 9) (Zj Z7 (Zj YY (pv 7) Za) Za))) (Zh (Yc (YQ PySem.F.plainAttrs_list PySem.F.slot_list_append PySem.F.type_list_append Lc (pv 3) (Zc (Y9 (Yk (pv 5) (pv 9) (pv 10)))))) (Ze (ZR 4 Ul.nd (pv 10)))))))))) (Ze (Zp (pv 3))))))),?_⟩];sleep 5;erw[⟨zL9 R,λg d0=>?_⟩];have s1:=Zw d0 (.lst []);have k1:=@Zi e0 g (.lst []);generalize upd e0 g (.lst [])=H1 at s1 k1 ⊢;erw[⟨zL9 R,λU l0=>?_⟩];have s2:=Zw l0 (.lst [.int 300,.int 600,.int 1380,.int 2000]);have k2:=@Zi H1 U (.lst [.int 300,.int 600,.int 1380,.int 2000]);generalize upd H1 U (.lst [.int 300,.int 600,.int 1380,.int 2000])=H2 at s2 k2 ⊢;obtain⟨B,hB,eB⟩:∃B:Nat,B<=2000/\YW [V.int 300,.int 600,.int 1380,.int 2000] ((d:Int)%4)=some (.int (B:Nat)):=by
  have h4:d%4<4:=Op _ ();rw[show(d:Int)%4=((d%4:Nat):Int) by lia];generalize d%4=m at h4 ⊢
  match m,h4 with
  |0,_=>exact⟨300,(),R⟩
  |1,_=>exact⟨600,(),R⟩
  |2,_=>exact⟨1380,(),R⟩
  |3,_=>exact⟨2000,(),R⟩
 erw[⟨_,R,_,_,R,R,(),U,_,_,_,R,R,Zd.of k2,eB,_,R,_,_,R,R,⟨(),()⟩,_,_,R,R,(),_,_,R,R,?_⟩];have S2:=s1.trans s2;have eT:(B:Int)+(d:Int)/4%60=((B+d/4%60:Nat):Int):=by lia
 erw[⟨_,R,_,R,(),(),?_⟩];have en:(many:Int).toNat=many:=by lia
 refine Q0 (n:=(many:Int).toNat) (λi h f=>Zf e0 f/\∃(cs:List Cl) (u:List V) (T:Nat) (lv:V),f g=some (.lst u)/\Al (Yt (wo f g)) u cs/\Vc c cs/\cs.length=i/\Zfl cs lv T/\T<=2059+44*i /\
  ∃Q v7 S Z M:Option V,h=[some (.int d),some (.ref Y),some (.int many),some (.ref g),some (.int T),some lv,Q,v7,S,Z,M])
  ⟨S2,[],[],B+d/4%60,.non,s2 _ _ k1,.nil,(Vc.nil c),R,.inl ⟨R,R⟩,(),none,none,none,none,none,?_⟩ ?_ ?_
 rw[<-eT];rfl;rintro i h H3 hi ⟨y,cs,u,T,lv,H,I,ok,c0,last,hT,Q,v7,S,Z,M,rfl⟩;rw[en]at hi;rw[show(0:Int)+(i:Int)=(i:Int) by lia];sleep 107;have n0:(50:Int)+(i:Int)=((50+i:Nat):Int):=by lia
 erw[⟨_,R,_,R,_,_,R,R,?_⟩];dsimp only[Vm,Y8,Od];rw[n0];erw[⟨_,_,R,(),(),?_⟩];generalize Wi (d:Int) ((50+i:Nat):Int)=m;erw[⟨_,R,Y,R,⟨_,Zd.of (y _ _ g0)⟩,Vq (K:=K) (a:=Y) (xs:=c.map V.str) (λj E h f=>f=H3/\E=(((c.take j).filter λz=>!decide (V.str z=lv))).map V.str/\∃b0,h=[b0,some lv]) ⟨R,R,none,R⟩ (by rw[Sv];exact Sh n8 ()) (λj E h f _ ⟨e,_⟩=>by rw[e];exact Zd.of (y _ _ g0)) ?_ ?_⟩];rintro j p0 E h f hj x ⟨rfl,rfl,b0,rfl⟩;rw[Ob]at x;cases v:c[j]? with
 |none=>rw[v]at x;cases x
 |some z =>
  rw[v]at x;obtain rfl:V.str z=p0:=So x;have et:c.take (j+1)=c.take j++[z]:=by rw[Oa,v];rfl
  have sc:P8 (.str z) lv=true:=by
   rcases last with⟨_,rfl⟩|⟨_,_,_,rfl,_⟩<;>rfl
  dsimp only[YA];erw[⟨_,R,_,R,sc,_,R,?_⟩];cases hb:(!decide (V.str z=lv))with
  |true =>
   erw[Zy R ⟨_,R,by rw[Su,Sw];lia,R,?_,_,R⟩];rw[et,List.filter_append,List.filter_cons,hb,SM];rfl
  |false =>
   erw[Zk SQ ⟨(),R,?_,_,R⟩];rw[et,List.filter_append,List.filter_cons,hb];simp
 rintro E h f ha ⟨rfl,rfl,b0,rfl⟩ C O;rw[Sv,List.take_length];have J:=Zw O (.lst ((c.filter λz=>!decide (V.str z=lv)).map V.str));have G:=@Zi f C (.lst ((c.filter λz=>!decide (V.str z=lv)).map V.str));have j0:=Zn6 nd n2 lv;have t0:C≠g:=λe=>by rw[e,H]at O;cases O
 generalize upd f C (.lst ((c.filter λz=>!decide (V.str z=lv)).map V.str))=H4 at J G ⊢;have f0:∀z∈c.filter (λz=>!decide (V.str z=lv)),z∈c/\V.str z≠lv:=λz v=>by
  have:=List.mem_filter.mp v;exact⟨this.1,by simpa using this.2⟩
 generalize c.filter (λz=>!decide (V.str z=lv))=L at G j0 f0 ⊢;have hL:0<L.length:=List.length_pos_iff.mpr j0;have lp:(0:Int)<(((L.map V.str).length:Nat):Int):=by rw[Sv];lia
 obtain⟨z,v,ez⟩:∃z∈L,YW (L.map V.str) ((m:Int)%(((L.map V.str).length:Nat):Int))=some (.str z):=by
  have h0:m%L.length<L.length:=Op _ hL;erw[⟨L[m%L.length],Oj h0,?_⟩];rw[Sv,<-SX];exact Wt (by rw[Ob,Ss h0];rfl)
 obtain⟨q0,m0⟩:=f0 z v;erw[⟨_,R,_,R,_,R,C,_,R,.inl (Zd.of G),_,_,R,R,lp,C,_,_,_,R,R,Zd.of G,ez,?_⟩];erw[⟨_,R,_,_,R,R,_,R,_,_,R,R,⟨(),()⟩,_,_,R,R,(),_,_,R,R,?_⟩];dsimp only;rw[show(T:Int)+1+(m:Int)/8%40=((T+1+m/8%40:Nat):Int) by lia];erw[⟨_,R,_,R,_,_,R,R,⟨(),()⟩,_,_,R,R,(),_,_,R,R,?_⟩];dsimp only;rw[show((T+1+m/8%40:Nat):Int)+(m:Int)/320%5=((T+1+m/8%40+m/320%5:Nat):Int) by lia];have a0:=J _ _ H;erw[⟨_,R,.inl ⟨R,_,Zd.of a0⟩,_,R,_,R,_,R,zL9 R,λpt X=>?_⟩];have o0:pt≠g:=λe=>by rw[e,a0]at X;cases X
 have s7:=Zw X (.tup [.str z,.int ((T+1+m/8%40:Nat):Int),.int ((T+1+m/8%40+m/320%5:Nat):Int)]);have r0:u.length<=6:=by rw[I.length];lia
 erw[⟨g,_,_,R,R,s7 _ _ a0,Sj r0 (),?_⟩];erw[⟨_,R,Wy ((y.trans J).trans s7) d0 _,cs++[⟨z,T+1+m/8%40,T+1+m/8%40+m/320%5⟩],u++[.ref pt],T+1+m/8%40+m/320%5,.str z,Zi,?_,ok.snoc last q0 ⟨by show T+1+m/8%40<=T+1+m/8%40+m/320%5;lia,by show T+1+m/8%40+m/320%5<=2879;lia⟩ m0 (by show T<T+1+m/8%40;lia) (by show T+1+m/8%40<=T+40;lia),by rw[Su,Sw,c0],.inr ⟨cs,_,R,R,R⟩,(),_,_,_,_,_,R⟩];rw[ZjQ];erw[(I.imp λ_ _=>Yt.same (Za7 (J.trans s7))).app (.cons ⟨pt,R,?_⟩ .nil)];rw[Q6 o0];exact Zi;rintro h H3 ⟨y,cs,u,T,lv,H,I,ok,c0,last,hT,Q,v7,S,Z,M,rfl⟩;exact⟨_,R,q cs g u H3 y d0 H (I.imp λ_ _=>Yt.same No) ok (by rw[c0,en])⟩
inductive Zn7(vs:List V)(H:Hp)(Q:VK)(_e3:XK):Prop|mk (v:V) (_:vs=[v]) (_:Vk H v) (_:∀H',Zf H H'->Q (.bl (Vw v)) H')
def Zn8(g:Zu K mg t):Zo P w K mg base Zr 1 t.ZbS t.ZbT ["value"] Zn7:=by
 erw[g.Zek.F.ok Zlf () λG A outer s H D Q E I h=>?_];ext⟨v,rfl,⟨⟨T,kd⟩,C⟩,q⟩ h;ext⟨tk,n⟩ g.Zmq;rw[ZnV]at n;have f:=q H (Zf.refl H);erw[⟨_,(Zh (ZC (PW.pt (Vh (Yn (Ym (Yp VW g.WO WM (ZB (pv 0) (VX R g.Xc Xb))))) (VO (Yn (MQ Vl Vl Za (Yp La g.XJ XG (Zc (pv 0))) (YC R g.Zmr)))))) (Ze (Zp Xy)) ZE) (Ze (Zp (Yp (Rn R) g.uC xW (Zc (Zae (cl:=[]) R (pv 0) R () R () R)))))),?_⟩];sleep 2;erw[⟨_,R,v,"str",_,_,R,kd.ty,E5 kd,_,R,?_⟩];cases kd with
 |non=>exact Zy () (Zy R f)
 |bl b=>exact Zy () (Zy R f)
 |int i=>exact Zy () (Zy R f)
 |lst e=>exact Zy () (Zy R f)
 |tup e=>exact Zy () (Zy R f)
 |dK e=>exact Zy () (Zy R f)
 |str z =>
  have y:z.length<=sizeLine:=Sh (C z R) ();erw[Zk () ⟨_,R,z,R,y,_,_,R,R,_,R,?_⟩];by_cases u:1<=z.length;erw[Zy (SR ()) ⟨_,_,R,R,_,R,?_⟩];by_cases j:z.length<=8;erw[Zk (by rw[SR (show((z.length:Nat):Int)<=8 by lia)];lia) ?_];sleep 1;erw[⟨Uo,Zaf (t:=tk) R R n,_,R,z,R,y,λp B=>?_⟩];erw[⟨p,z.cps.toList.map (λc=>X2 Uo c),R,Zd.of (by rw[Zi,Zao]),?_⟩];have x:=q _ (Zw B (HO.lst (z.cps.toList.map λc=>V.bl (X2 Uo c))));rw[show Vw (.str z)=(z.cps.toList.map λc=>X2 Uo c).all id by show V6 z=_;unfold V6;rw[SR ⟨u,j⟩];rfl]at x;exact x;rw[show Vw (.str z)=false by show V6 z=_;unfold V6;rw[SS λh=>j h.2];rfl]at f;exact Zy (by rw[SS (show ¬ ((z.length:Nat):Int)<=8 by lia)];lia) f;rw[show Vw (.str z)=false by show V6 z=_;unfold V6;rw[SS λh=>u h.1];rfl]at f;exact Zk (by rw[SS ()];lia) ⟨_,R,Zy () f⟩
def J2(rows:List (ZD×V)):V->Bool
 |.str z=>(Yx rows (Sum.inr z)).isSome
 |_=>false
inductive Zn9(vs:List V)(H:Hp)(Q:VK)(_e3:XK):Prop|mk (v:V) (T:String) (d:Addr) (kvs:List (ZD×V)) (_:vs=[v,.ref d]) (_:Kd H v T) (_:H d=some (.dK kvs)) (_:Q (.bl (J2 kvs v)) H)
def Mh(c:Zu K mg t):Zo P w K mg base Zr 1 t.ZbU t.ZbV ["value","named"] Zn9:=by
 erw[c.G0.F.ok Zlg () λj A outer s H g Q E f h=>?_];ext⟨v,T,d,n,rfl,kd,hd,q⟩ h;erw[⟨_,(Ze (Zp (Vi (Yp VW c.WO WM (ZB (pv 0) (VX R c.Xc Xb))) (WF (ZgG (Za1 (Ud f) (pv 0) (pv 1))))))),?_⟩];sleep 1;erw[⟨_,R,v,"str",_,_,R,kd.ty,E5 kd,_,R,?_⟩];cases kd with
 |non=>exact Zk () q
 |bl b=>exact Zk () q
 |int i=>exact Zk () q
 |lst e=>exact Zk () q
 |tup e=>exact Zk () q
 |dK e=>exact Zk () q
 |str z=>exact Zy () ⟨_,R,_,R,d,_,R,Xw.k (k:=Sum.inr z) hd,q⟩
inductive Zoa(t:Ya)(vs:List V)(H:Hp)(Q:VK)(E:XK):Prop|mk (v:V) (T:String) (lo hi:Int) (_:vs=[v,.int lo,.int hi]) (_:Kd H v T) (_:(XC v lo hi=true->Q .non H)) (_:(XC v lo hi=false->E (.ref t.QH) none H))
def B7(f:Zu K mg t):Zo P w K mg base (Yu P w) 3 t.ZbM t.ZbN ["value","least","most"] (Zoa t):=by
 erw[f.QI.F.okX Zlc () λn A outer s H j Q E i h=>?_];ext⟨v,T,lo,g,rfl,kd,q,e⟩ h;erw[⟨_,(Ze (ZC (Yn (Ym (Zt f.Qi (QM f) i Zn (Yk (pv 0) (pv 1) (pv 2))))) (Ze (Xh Xg f.ZeL R R f.ZeH (Zc Zl))) ZE)),?_⟩];sleep 1;erw[⟨_,R,_,R,_,R,v,lo,g,T,R,kd,_,R,?_⟩];by_cases c:XC v lo g=true;exact Zk (by rw[c];lia) (q c);have c:=Oi.mpr c;exact Zy (by rw[c];lia) ⟨zL9 R,e c⟩
inductive Zob(t:Ya)(vs:List V)(H:Hp)(Q:VK)(E:XK):Prop|mk (v:V) (d:Addr) (kvs:List (ZD×V)) (_:vs=[v,.ref d]) (_:H d=some (.dK kvs)) (_:Vk H v) (_:(Vw v=false->∀H',Zf H H'->E (.ref t.QD) none H')) (_:(Vw v=true->J2 kvs v=true->∀H',Zf H H'->E (.ref t.QE) none H')) (_:(Vw v=true->J2 kvs v=false->∀H',Zf H H'->Q .non H'))
def Pr(c:Zu K mg t):Zo P w K mg base (Yu P w) 2 t.Zcw t.Zcx ["name","named"] (Zob t):=by
 erw[c.LM.F.okX Zls () λC A outer s H B Q E i h=>?_];ext⟨v,d,u,rfl,hd,n,x,y,q⟩ h;erw[⟨_,(Zh (ZC (Yn (Ym (Zt c.Zek (Zn8 c) i Zn (Zc (pv 0))))) (Ze (Xh Xg c.Znl R R c.Znh (Zc Zl))) ZE) (Ze (ZC (kF (Za1 (Ud i) (pv 0) (pv 1))) (Ze (Xh Xg c.ZeJ R R c.ZeF (Zc Zl))) ZE))),?_⟩];sleep 2;erw[⟨_,R,v,R,n,λg f=>⟨_,R,?_⟩⟩];cases hn:Vw v with
 |false=>exact Zy () ⟨zL9 R,x hn g f⟩
 |true =>
  obtain⟨z,rfl,_⟩:=J0 hn;erw[Zk () ⟨_,R,_,R,d,_,R,Xw.k (k:=Sum.inr z) (f _ _ hd),_,R,?_⟩];cases j:(Yx u (Sum.inr z)).isSome with
  |true=>exact Zy R ⟨zL9 R,y hn j g f⟩
  |false=>exact Zk SQ (q hn j g f)
inductive Zoc(t:Ya)(vs:List V)(H:Hp)(Q:VK)(E:XK):Prop|mk (d:Addr) (kvs:List (ZD×V)) (n:Nat) (_:vs=[.ref d,.int n]) (_:H d=some (.dK kvs)) (_:(decide (kvs.length<n)=true->Q .non H)) (_:(decide (kvs.length<n)=false->E (.ref t.Qg) none H))
def Ps(f:Zu K mg t):Zo P w K mg base (Yu P w) 1 t.wB t.wC ["kept","most"] (Zoc t):=by
 erw[f.A2.F.okX Zbi () λj A outer s H i Q E u h=>?_];ext⟨d,g,n,rfl,hd,q,e⟩ h;erw[⟨_,(Ze (ZC (ZV MP (Yp ZjP f.XJ XG (Zc (pv 0))) (pv 1)) (Ze (Xh Xg f.ZeI R R f.qM (Zc Zl))) ZE)),?_⟩];sleep 1;erw[⟨_,R,d,g,R,hd,_,R,_,_,R,R,_,R,?_⟩];by_cases c:g.length<n;exact Zk (by rw[SS ()];lia) (q (SR c));exact Zy (SR ()) ⟨zL9 R,e (SS c)⟩
inductive Zod(t:Ya)(vs:List V)(H:Hp)(Q:VK)(E:XK):Prop|mk (d:Addr) (xs:List V) (n:Nat) (_:vs=[.ref d,.int n]) (_:H d=some (.lst xs)) (_:(decide (xs.length<n)=true->Q .non H)) (_:(decide (xs.length<n)=false->E (.ref t.Qg) none H))
def Zoe(f:Zu K mg t):Zo P w K mg base (Yu P w) 1 t.wB t.wC ["kept","most"] (Zod t):=by
 erw[f.A2.F.okX Zbi () λj A outer s H i Q E u h=>?_];ext⟨d,g,n,rfl,hd,q,e⟩ h;refine⟨_,(Ze (ZC (K5 MP (gH WY R f.XJ XG (Xn (pv 0) Xz)) (pv 1) (XD _))
  (Ze (Xh Xg f.ZeI R R f.qM (Xn Zl Xz)))
  ZE)),?_⟩
 sleep 1;erw[⟨_,R,d,g,R,.inl (Zd.of hd),_,R,_,_,R,R,_,R,?_⟩];by_cases c:g.length<n;exact Zk (by rw[SS ()];lia) (q (SR c));exact Zy (SR ()) ⟨zL9 R,e (SS c)⟩
abbrev R3:=RT
def R3.Ok(r:R3):Prop:=RT.good r/\RT.weight r<=15/\RT.depth r<=8
def UQ(t:Ya)(H:Hp)(v:V)(r:R3):Prop:=∃b,v=.ref b/\ZU (rc t) t.kf H b r
def UQ.same(s:Zf H c)(h:UQ t H v r):UQ t c v r:=let ⟨b,e,h⟩:=h;⟨b,e,h.same s⟩
def Mi(t:Ya)(H:Hp)(v:V):Option RT->Prop
 |some r=>UQ t H v r/\R3.Ok r
 |none=>∃T,Kd H v T/\T ≠ "dict"
def Mi.same(s:Zf H c)(h:Mi t H v o):Mi t c v o:=by
 cases o with
 |none=>ext⟨T,k,n⟩ h;exact⟨T,k.same s,n⟩
 |some r=>exact⟨h.1.same s,h.2⟩
def Zof(c:Zu K mg t)(k:Kd H v T)(n:T ≠ "dict"):W.kitOne K (.type T) (.ref t.YJ)=some false:=by
 cases k with
 |non=>exact c.Zm8
 |bl b=>exact c.Zm9
 |int i=>exact c.Zna
 |str z=>exact c.Znb
 |lst e=>exact c.Znc
 |tup e=>exact c.Znd
 |dK e=>exact Ot R n
inductive Zog(t:Ya)(vs:List V)(H:Hp)(Q:VK)(E:XK):Prop|mk (v:V) (o:Option RT) (_:vs=[v]) (_:Mi t H v o) (_:(o=none->E (.ref t.VH) none H)) (_:∀r,o=some r->∀v' H',Zf H H'->UQ t H' v' r->Q v' H')
def Zfn(c:Zu K mg t):Zo P w K mg base (Yu P w) 43 t.xZ t.wA ["rule"] (Zog t):=by
 erw[c.UL.F.okX Zbg () λL A outer s H J Q E B h=>?_];ext⟨v,o,rfl,h,e,q⟩ h;erw[⟨_,(Zh (ZC (Yn (Ym (Yp M3 c.WO WM (ZB (pv 0) (M4 R c.A8))))) (Ze (Xh Xg c.UO R R c.UN (Zc Zl))) ZE) (Ze (Zp (VD (pv 0))))),?_⟩];sleep 2;cases o with
 |none =>
  ext⟨T,kd,nd⟩ h;exact⟨_,R,v,t.YJ,_,_,R,kd.ty,Zof c kd nd,_,R,Zy () ⟨zL9 R,e R⟩⟩
 |some r =>
  ext⟨⟨a,rfl,h⟩,g,n,hd⟩ h;rw[c.kf]at h;obtain⟨I,ty,j⟩:=qY c h;erw[⟨_,R,.ref a,t.YJ,_,_,R,ty,j,_,R,Zk () ?_⟩];sleep 1;obtain⟨C,i,fs,f,y,sp,g1,g2,g3,g4,g5,g6,g7⟩:=(I0 c 8).at c h g n hd hd;exact⟨_,R,a,C,i,fs,f,y,_,_,sp,Zr,E0,R,g1,g2,g3,g4,g5,B.mono (),g6,Zn,g7 _ λx G u D=>q r R _ _ u ⟨x,R,by rw[c.kf];exact D.same (Wv _ _)⟩⟩
def ZU.keepF(f:∀x C dx (fs:List (Str×V)),fs.lookup ("timetable" : Str)=none->H x=some (.ins C dx fs)->u x=some (.ins C dx fs)) (v:∀p xs,Zg K H p xs->Zg K u p xs) (h:ZU c K H a r):ZU c K u a r:=by
 induction h with
 |always h=>exact .always (f _ _ _ _ R h)
 |week h D=>exact .week (f _ _ _ _ R h) D
 |span h y E _ g=>exact .span (f _ _ _ _ R h) y E g
 |each h hn B i=>exact .each (f _ _ _ _ R h) hn B (v _ _ i)
 |either h _ _ j n=>exact .either (f _ _ _ _ R h) j n
 |both h _ _ j n=>exact .both (f _ _ _ _ R h) j n
 |but h i _ g=>exact .but (f _ _ _ _ R h) (v _ _ i) g
def Zfo(k1:H p=some (.tup xs)->c p=some (.tup xs))(k2:∀o,H p=some (.frz o (.tup xs))->c p=some (.frz o (.tup xs)))(h:Zg K H p xs):Zg K c p xs :=
 h.imp (λr=>r.imp k1 λ⟨o,e⟩=>⟨o,k2 o e⟩) id
def Yv{c:Type}(nm:c->Str)(xs:List c)(z:Str):Option c:=xs.find? λx=>decide (nm x=z)
def Vd{c:Type}{nm:c->Str}{xs:List c}{z:Str}{x:c}(h:Yv nm xs z=some x):x∈xs/\nm x=z:=⟨List.mem_of_find?_eq_some h,SU (List.find?_some (p:=λx=>decide (nm x=z)) h)⟩
def J3{c:Type}{nm:c->Str}{xs:List c}{z:Str}{x:c}(h:Yv nm xs z=some x):Yv nm xs (nm x)=some x:=by rwa[(Vd h).2]
def Uq{g:Type}{nm:g->Str}{R:ZD×V->g->Prop}(u:∀c x,R c x->c.1=Sum.inr (nm x)){rows:List (ZD×V)}{xs:List g}(h:Al R rows xs)(z:Str) :
  (Yv nm xs z=none->Yx rows (Sum.inr z)=none)/\∀x,Yv nm xs z=some x->∃c,Yx rows (Sum.inr z)=some c.2/\R c x:=by
 induction h with
 |nil=>exact⟨λ_=>rfl,λk e=>by cases e⟩
 |@cons c k rows xs i _ y =>
  by_cases e:nm k=z;have j:c.1=Sum.inr z:=by rw[u _ _ i,e]
  have f:Yv nm (k::xs) z=some k:=by unfold Yv;rw[List.find?_cons,SR e]
  erw[⟨λn=>(by rw[f]at n;cases n),λC v=>?_⟩];rw[f]at v;cases v;exact⟨c,Nj j,i⟩;have j:c.1≠Sum.inr z:=λx=>e (by rw[u _ _ i]at x;exact Sum.inr.inj x);have f:Yv nm (k::xs) z=Yv nm xs z:=by unfold Yv;rw[List.find?_cons,SS e]
  have B:Yx (c::rows) (Sum.inr z)=Yx rows (Sum.inr z):=by unfold Yx;rw[List.find?_cons,SS j]
  rwa[f,B]
def Zoh{c:Type}{nm:c->Str}{xs:List c}(nd:(xs.map nm).Nodup){i:Nat}{x:c}(e:xs[i]? = some x):Yv nm (xs.take i) (nm x)=none:=by
 unfold Yv;rw[List.find?_eq_none];intro y h;rw[decide_eq_true_eq];intro ex;obtain⟨j,g,f⟩:=List.mem_iff_getElem.mp h;rw[Sx]at g;obtain⟨n,u⟩:=Sr.mp e;rw[List.getElem_take]at f;have:=List.pairwise_iff_getElem.mp nd j i (by rw[Sv];lia) (by rwa[Sv]) ();rw[List.getElem_map,List.getElem_map,f,u]at this;exact this ex
def jC{c:Type}{nm:c->Str}{xs:List c}{x:c}(h:x∈xs):∃y,Yv nm xs (nm x)=some y:=by
 cases e:Yv nm xs (nm x)with
 |some y=>exact⟨y,R⟩
 |none =>
  unfold Yv at e;rw[List.find?_eq_none]at e;exact Ot (SR R) (e x h)
def Mj{f:Type}{nm:f->Str}{xs:List f}(nd:(xs.map nm).Nodup){x:f}(h:x∈xs):Yv nm xs (nm x)=some x:=by
 obtain⟨y,c⟩:=jC (nm:=nm) h;have:=Vd c;obtain⟨i,B,u⟩:=List.mem_iff_getElem.mp h;obtain⟨j,v,g⟩:=List.mem_iff_getElem.mp this.1;by_cases e:i=j;subst e;rw[c,<-u,g];exfalso;rcases Nat.lt_or_gt_of_ne e with n|n;have:=List.pairwise_iff_getElem.mp nd i j (by rwa[Sv]) (by rwa[Sv]) n;rw[List.getElem_map,List.getElem_map,g,u]at this;exact this (by rw[(Vd c).2]);have:=List.pairwise_iff_getElem.mp nd j i (by rwa[Sv]) (by rwa[Sv]) n;rw[List.getElem_map,List.getElem_map,g,u]at this;exact this (by rw[(Vd c).2])
structure Wl where
 o:Str
 t:Str
 m:Nat
structure Yl where
 nm:Str
 r:R3
structure YS where
 nm:Str
 pr:Nat
 la:Nat
 zs:List Nat
structure Tp where
 nm:Str
 ru:Str
 cs:List Cl
structure YS.Ok(k:YS):Prop where
 nm:Yd k.nm
 pr:k.pr<=10000
 la1:1<=k.la
 la:k.la<=1440
 z1:1<=k.zs.length
 z6:k.zs.length<=6
 up:k.zs.Pairwise (· < ·)
 rng:∀z∈k.zs,1<=z/\z<=6
def Xj(H:Hp)(c:ZD×V)(k:YS):Prop:=c.1=Sum.inr k.nm/\∃r z,c.2=.ref r/\H r=some (.tup [.int (k.pr:Nat),.int (k.la:Nat),.ref z])/\H z=some (.tup (ZI k.zs))
def Xj.same(s:Zf H c)(h:Xj H f k):Xj c f k:=let ⟨e,r,z,e1,e2,e3⟩:=h;⟨e,r,z,e1,s _ _ e2,s _ _ e3⟩
def Yz(H:Hp)(c:ZD×V)(k:ZT):Prop:=c.1=Sum.inr k.nm/\∃r,c.2=.ref r/\H r=some (.tup [.int (k.z:Nat),.int (k.ch:Nat)])
def Yz.same(s:Zf H c)(h:Yz H f k):Yz c f k:=let ⟨e,r,e1,e2⟩:=h;⟨e,r,e1,s _ _ e2⟩
def Xe(H:Hp)(f:ZD×V)(k:Tp):Prop:=f.1=Sum.inr k.nm/\∃r q c,f.2=.ref r/\H r=some (.tup [.str k.ru,.ref q])/\H q=some (.tup c)/\Al (Yt H) c k.cs
def Xe.same(s:Zf H c)(h:Xe H f k):Xe c f k:=let ⟨e,r,q,vs,e1,e2,e3,e4⟩:=h;⟨e,r,q,vs,e1,s _ _ e2,s _ _ e3,e4.imp λ_ _=>Yt.same s⟩
def Y7(t:Ya)(H:Hp)(c:ZD×V)(k:Yl):Prop:=c.1=Sum.inr k.nm/\UQ t H c.2 k.r
def Y7.same(s:Zf H c)(h:Y7 t H f k):Y7 t c f k:=⟨h.1,h.2.same s⟩
def YG(H:Hp)(v:V)(x:Wl):Prop:=∃p,v=.ref p/\H p=some (.tup [.str x.o,.str x.t,.int (x.m:Nat)])
def YG.same(s:Zf H c)(h:YG H v x):YG c v x:=let ⟨p,e,h⟩:=h;⟨p,e,s _ _ h⟩
structure ZF where
 st:List ZT
 wk:List Wl
 ru:List Yl
 tk:List YS
 tp:List Tp
structure NA where
 ds:Addr
 lw:Addr
 dr:Addr
 dt:Addr
 dp:Addr
structure Zoi(fs:List (Str×V))(a:NA):Prop where
 fs1:fs.lookup ("stop_rows" : Str)=some (V.ref a.ds)
 fw:fs.lookup ("walk_rows" : Str)=some (V.ref a.lw)
 fr:fs.lookup ("rule_rows" : Str)=some (V.ref a.dr)
 ft:fs.lookup ("ticket_rows" : Str)=some (V.ref a.dt)
 fp:fs.lookup ("trip_rows" : Str)=some (V.ref a.dp)
 n_calls:fs.lookup ("calls" : Str)=none
 n_rule_name:fs.lookup ("rule_name" : Str)=none
 n_rule:fs.lookup ("rule" : Str)=none
 n_trips:fs.lookup ("trips" : Str)=none
 n_rules:fs.lookup ("rules" : Str)=none
 n_check_stop:fs.lookup ("check_stop" : Str)=none
 n_check_trip:fs.lookup ("check_trip" : Str)=none
 n_check_call:fs.lookup ("check_call" : Str)=none
 n_has_walk:fs.lookup ("has_walk" : Str)=none
 n_add_stop:fs.lookup ("add_stop" : Str)=none
 n_add_walk:fs.lookup ("add_walk" : Str)=none
 n_add_rule:fs.lookup ("add_rule" : Str)=none
 n_add_ticket:fs.lookup ("add_ticket" : Str)=none
 n_add_trip:fs.lookup ("add_trip" : Str)=none
 n_zone:fs.lookup ("zone" : Str)=none
 n_change:fs.lookup ("change" : Str)=none
 n_stops:fs.lookup ("stops" : Str)=none
 n_walks:fs.lookup ("walks" : Str)=none
 n_tickets:fs.lookup ("tickets" : Str)=none
 n_ticket:fs.lookup ("ticket" : Str)=none
structure Zfp(a:NA):Prop where
 sr:a.ds≠a.dr
 st:a.ds≠a.dt
 sp:a.ds≠a.dp
 rt:a.dr≠a.dt
 rp:a.dr≠a.dp
 tp:a.dt≠a.dp
structure Yb(t:Ya)(H:Hp)(n:Addr)(a:NA)(N:ZF):Prop where
 ob:∃dx fs,H n=some (.ins t.ZL dx fs)/\Zoi fs a
 ap:Zfp a
 st:∃rows,H a.ds=some (.dK rows)/\Al (Yz H) rows N.st
 wk:∃vs,H a.lw=some (.lst vs)/\Al (YG H) vs N.wk
 ru:∃rows,H a.dr=some (.dK rows)/\Al (Y7 t H) rows N.ru
 tk:∃rows,H a.dt=some (.dK rows)/\Al (Xj H) rows N.tk
 tp:∃rows,H a.dp=some (.dK rows)/\Al (Xe H) rows N.tp
def Yb.same(s:Zf H c)(h:Yb t H n a N):Yb t c n a N:=by
 ext⟨⟨g,fs,J,L⟩,ap,⟨r1,G,u⟩,⟨j,D,x⟩,⟨y,v,B⟩,⟨r3,E,C⟩,⟨I,i,f⟩⟩ h;exact⟨⟨g,fs,s _ _ J,L⟩,ap,⟨r1,s _ _ G,u.imp λ_ _=>Yz.same s⟩,⟨j,s _ _ D,x.imp λ_ _=>YG.same s⟩,⟨y,s _ _ v,B.imp λ_ _=>Y7.same s⟩,⟨r3,s _ _ E,C.imp λ_ _=>Xj.same s⟩,⟨I,s _ _ i,f.imp λ_ _=>Xe.same s⟩⟩
structure UR(H0:Hp)(a:NA):Prop where
 s:H0 a.ds=none
 w:H0 a.lw=none
 r:H0 a.dr=none
 t:H0 a.dt=none
 p:H0 a.dp=none
def XX(t:Ya)(H:Hp)(n:Addr)(N:ZF):Prop:=∃a,Yb t H n a N
def XX.same(s:Zf H c)(h:XX t H n N):XX t c n N:=let ⟨a,h⟩:=h;⟨a,h.same s⟩
def Ml{fs:List (Str×V)}(h:fs.length<=n):(Z9 f v fs).length<=n+1:=Sh (D8 _ _ _) (Nat.succ_le_succ h)
inductive Zoj(t:Ya)(vs:List V)(H:Hp)(Q:VK)(_e3:XK):Prop|mk (x:Addr) (H0:Hp) (_:vs=[.ref x]) (_:H0 x=none) (_:Zf H0 H) (_:(∃dx,H x=some (.ins t.ZL dx []))) (_:∀H' a,Zf H0 H'->Yb t H' x a ⟨[],[],[],[],[]⟩->UR H0 a->Q .non H')
def jD(u:Zu K mg t):Zo P w K mg base Zr 1 t.uB t.ZdA ["self"] (Zoj t):=by
 erw[u.Pa.F.ok ZlV () λx0 A outer s H vs z0 y0 hr r0=>?_];ext⟨x,H0,rfl,M,s0,⟨c,hx⟩,q⟩ r0;erw[⟨_,(Zh (Ws (pv 0) Qv R) (Zh (Ws (pv 0) (Ye Xz) R) (Zh (Ws (pv 0) Qv R) (Zh (Ws (pv 0) Qv R) (Ze (Ws (pv 0) Qv R)))))),?_⟩];sleep 5;intro g g1;have L:g≠x:=λz=>by rw[z,hx]at g1;cases g1
 have d1:=s0.free g1;erw[⟨_,R,x,_,c,_,R,(by rw[Zm L.symm];exact hx),u.ZK,u.QJ,(),?_⟩];generalize f0:Z9 "stop_rows" (.ref g) []=G;have l0:G.length<=1:=by rw[<-f0];exact Ml (Sk 0)
 have Z:=Wy (s0.trans (Zw g1 (.dK []))) M (.ins t.ZL c G);have y1:(upd (upd H g (.dK [])) x (.ins t.ZL c G)) x=some (.ins t.ZL c G):=Zi;have f:(upd (upd H g (.dK [])) x (.ins t.ZL c G)) g=some (.dK []):=by rw[Zm L];exact Zi
 generalize upd (upd H g (.dK [])) x (.ins t.ZL c G)=S at Z y1 f ⊢;erw[⟨zL9 R,λh g2=>?_⟩];have O:h≠x:=λz=>by rw[z,y1]at g2;cases g2
 have q0:g≠h:=Z4 f g2;have d2:=Z.free g2;erw[⟨_,R,x,_,c,_,R,(by rwa[Zm O.symm]),u.ZK,u.Md,Sj l0 (),?_⟩];generalize i0:Z9 "walk_rows" (.ref h) G=D;have b0:D.length<=2:=by rw[<-i0];exact Ml l0
 have u2:=Wy (Z.trans (Zw g2 (.lst []))) M (.ins t.ZL c D);have y2:(upd (upd S h (.lst [])) x (.ins t.ZL c D)) x=some (.ins t.ZL c D):=Zi;have f:(upd (upd S h (.lst [])) x (.ins t.ZL c D)) g=some (.dK []):=by rwa[Zm L,Zm q0]
 have n:(upd (upd S h (.lst [])) x (.ins t.ZL c D)) h=some (.lst []):=by rw[Zm O];exact Zi
 generalize upd (upd S h (.lst [])) x (.ins t.ZL c D)=Q at u2 y2 f n ⊢;intro p3 g3;have T:p3≠x:=λz=>by rw[z,y2]at g3;cases g3
 have o0:g≠p3:=Z4 f g3;have u0:h≠p3:=Z4 n g3;have d3:=u2.free g3;erw[⟨_,R,x,_,c,_,R,(by rwa[Zm T.symm]),u.ZK,u.QK,Sj b0 (),?_⟩];generalize j0:Z9 "rule_rows" (.ref p3) D=C;have k0:C.length<=3:=by rw[<-j0];exact Ml b0
 have Y:=Wy (u2.trans (Zw g3 (.dK []))) M (.ins t.ZL c C);have y3:(upd (upd Q p3 (.dK [])) x (.ins t.ZL c C)) x=some (.ins t.ZL c C):=Zi;have f:(upd (upd Q p3 (.dK [])) x (.ins t.ZL c C)) g=some (.dK []):=by rwa[Zm L,Zm o0]
 have n:(upd (upd Q p3 (.dK [])) x (.ins t.ZL c C)) h=some (.lst []):=by rwa[Zm O,Zm u0]
 have v:(upd (upd Q p3 (.dK [])) x (.ins t.ZL c C)) p3=some (.dK []):=by rw[Zm T];exact Zi
 generalize upd (upd Q p3 (.dK [])) x (.ins t.ZL c C)=J at Y y3 f n v ⊢;intro j g4;have X:j≠x:=λz=>by rw[z,y3]at g4;cases g4
 have a0:g≠j:=Z4 f g4;have t0:h≠j:=Z4 n g4;have c0:p3≠j:=Z4 v g4;have d4:=Y.free g4;erw[⟨_,R,x,_,c,_,R,(by rwa[Zm X.symm]),u.ZK,u.A7,Sj k0 (),?_⟩];generalize m0:Z9 "ticket_rows" (.ref j) C=B;have e0:B.length<=4:=by rw[<-m0];exact Ml k0
 have u4:=Wy (Y.trans (Zw g4 (.dK []))) M (.ins t.ZL c B);have U:(upd (upd J j (.dK [])) x (.ins t.ZL c B)) x=some (.ins t.ZL c B):=Zi;have f:(upd (upd J j (.dK [])) x (.ins t.ZL c B)) g=some (.dK []):=by rwa[Zm L,Zm a0]
 have n:(upd (upd J j (.dK [])) x (.ins t.ZL c B)) h=some (.lst []):=by rwa[Zm O,Zm t0]
 have v:(upd (upd J j (.dK [])) x (.ins t.ZL c B)) p3=some (.dK []):=by rwa[Zm T,Zm c0]
 have I:(upd (upd J j (.dK [])) x (.ins t.ZL c B)) j=some (.dK []):=by rw[Zm X];exact Zi
 generalize upd (upd J j (.dK [])) x (.ins t.ZL c B)=E at u4 U f n v I ⊢;intro i g5;have x5:i≠x:=λz=>by rw[z,U]at g5;cases g5
 have g0:g≠i:=Z4 f g5;have v0:h≠i:=Z4 n g5;have p0:p3≠i:=Z4 v g5;have h0:j≠i:=Z4 I g5;have d5:=u4.free g5;erw[⟨_,R,x,_,c,_,R,(by rwa[Zm x5.symm]),u.ZK,u.QL,Sj e0 (),?_⟩];generalize d0:Z9 "trip_rows" (.ref i) B=y;have w0:y.length<=5:=by rw[<-d0];exact Ml e0
 have u5:=Wy (u4.trans (Zw g5 (.dK []))) M (.ins t.ZL c y);have y5:(upd (upd E i (.dK [])) x (.ins t.ZL c y)) x=some (.ins t.ZL c y):=Zi;have f:(upd (upd E i (.dK [])) x (.ins t.ZL c y)) g=some (.dK []):=by rwa[Zm L,Zm g0]
 have n:(upd (upd E i (.dK [])) x (.ins t.ZL c y)) h=some (.lst []):=by rwa[Zm O,Zm v0]
 have v:(upd (upd E i (.dK [])) x (.ins t.ZL c y)) p3=some (.dK []):=by rwa[Zm T,Zm p0]
 have I:(upd (upd E i (.dK [])) x (.ins t.ZL c y)) j=some (.dK []):=by rwa[Zm X,Zm h0]
 have k5:(upd (upd E i (.dK [])) x (.ins t.ZL c y)) i=some (.dK []):=by rw[Zm x5];exact Zi
 generalize upd (upd E i (.dK [])) x (.ins t.ZL c y)=H5 at u5 y5 f n v I k5 ⊢;subst f0 i0 j0 m0 d0;exact q _ ⟨g,h,p3,j,i⟩ u5 ⟨⟨c,_,y5,⟨R,R,R,R,R,R,R,R,R,R,R,R,R,R,R,R,R,R,R,R,R,R,R,R,R⟩⟩,⟨o0,a0,g0,c0,p0,h0⟩,⟨[],f,.nil⟩,⟨[],n,.nil⟩,⟨[],v,.nil⟩,⟨[],I,.nil⟩,⟨[],k5,.nil⟩⟩ ⟨d1,d2,d3,d4,d5⟩
structure ZN(u:HO):Prop where
 nt:∀ys,u≠.tup ys
 ni:∀c x fs,u≠.ins c x fs
 nf:∀o v,u≠.frz o v
def ZN.k:ZN (.dK c):=⟨(),(),()⟩
def ZN.l:ZN (.lst xs):=⟨(),(),()⟩
def XY(hd:H d=some u)(lo:ZN u)(h:H p=some (.tup xs)):upd H d o p=some (.tup xs):=by
 rwa[Zm (Vg h hd (λz=>lo.nt _ z.symm))]
def B8(hd:H d=some u)(lo:ZN u)(h:H p=some (.ins c x fs)):upd H d o p=some (.ins c x fs):=by
 rwa[Zm (Vg h hd (λz=>lo.ni _ _ _ z.symm))]
section Pt
variable{d:Addr}{u o:HO}(hd:H d=some u)(lo:ZN u)
include hd lo
theorem Xj.put(h:Xj H c k):Xj (upd H d o) c k:=let ⟨e,r,z,e1,e2,e3⟩:=h;⟨e,r,z,e1,XY hd lo e2,XY hd lo e3⟩
theorem Yz.put(h:Yz H c k):Yz (upd H d o) c k:=let ⟨e,r,e1,e2⟩:=h;⟨e,r,e1,XY hd lo e2⟩
theorem Yt.put(h:Yt H v c):Yt (upd H d o) v c:=let ⟨p,e,h⟩:=h;⟨p,e,XY hd lo h⟩
theorem Xe.put(h:Xe H c k):Xe (upd H d o) c k:=let ⟨e,r,q,vs,e1,e2,e3,e4⟩:=h;⟨e,r,q,vs,e1,XY hd lo e2,XY hd lo e3,e4.imp λ_ _=>Yt.put hd lo⟩
theorem YG.put(h:YG H v x):YG (upd H d o) v x:=let ⟨p,e,h⟩:=h;⟨p,e,XY hd lo h⟩
theorem UQ.put(h:UQ t H v r):UQ t (upd H d o) v r:=let ⟨b,e,h⟩:=h;⟨b,e,ZU.keepF (λ_ _ _ _ _ e=>B8 hd lo e) (λ_ _=>Zfo (XY hd lo) λ_ e=>by rwa[Zm (Vg e hd (λz=>lo.nf _ _ z.symm))]) h⟩
theorem Y7.put(h:Y7 t H c k):Y7 t (upd H d o) c k:=⟨h.1,h.2.put hd lo⟩
end Pt
def Yb.addSt{a:NA}{N:ZF}{rows:List (ZD×V)}{x:ZT}(h:Yb t H n a N)(c:H a.ds=some (.dK rows))(y:Al (Yz H) rows N.st)(I:Yx rows (Sum.inr x.nm)=none)(g:Yz H (Sum.inr x.nm,v) x) :
  Yb t (upd H a.ds (.dK (Xi rows (Sum.inr x.nm) v))) n a {N with st:=N.st++[x]}:=by
 ext⟨⟨j,fs,O,Q⟩,ap,_,⟨L,f,C⟩,⟨D,B,E⟩,⟨r3,J,G⟩,⟨M,u,i⟩⟩ h;erw[⟨⟨j,fs,B8 c ZN.k O,Q⟩,ap,⟨_,Zi,?_⟩,⟨L,by rwa[Zm (Vg f c (by intro z;cases z))],C.imp λ_ _=>YG.put c ZN.k⟩,⟨D,by rwa[Zm (ap.sr.symm)],E.imp λ_ _=>Y7.put c ZN.k⟩,⟨r3,by rwa[Zm (ap.st.symm)],G.imp λ_ _=>Xj.put c ZN.k⟩,⟨M,by rwa[Zm (ap.sp.symm)],i.imp λ_ _=>Xe.put c ZN.k⟩⟩];rw[Qy v I];exact(y.imp λ_ _=>Yz.put c ZN.k).snoc (g.put c ZN.k)
def Yb.addWk{a:NA}{N:ZF}(h:Yb t H n a N)(c:H a.lw=some (.lst vs))(D:Al (YG H) vs N.wk)(u:YG H v x) :
  Yb t (upd H a.lw (.lst (vs++[v]))) n a {N with wk:=N.wk++[x]}:=by
 ext⟨⟨B,fs,L,M⟩,ap,⟨r1,j,C⟩,_,⟨G,g,E⟩,⟨r3,i,I⟩,⟨J,f,y⟩⟩ h;erw[⟨⟨B,fs,B8 c ZN.l L,M⟩,ap,⟨r1,by rwa[Zm (Vg j c (by intro z;cases z))],C.imp λ_ _=>Yz.put c ZN.l⟩,⟨_,Zi,?_⟩,⟨G,by rwa[Zm (Vg g c (by intro z;cases z))],E.imp λ_ _=>Y7.put c ZN.l⟩,⟨r3,by rwa[Zm (Vg i c (by intro z;cases z))],I.imp λ_ _=>Xj.put c ZN.l⟩,⟨J,by rwa[Zm (Vg f c (by intro z;cases z))],y.imp λ_ _=>Xe.put c ZN.l⟩⟩];exact(D.imp λ_ _=>YG.put c ZN.l).snoc (u.put c ZN.l)
def Yb.addRu{a:NA}{N:ZF}{rows:List (ZD×V)}{x:Yl}(h:Yb t H n a N)(c:H a.dr=some (.dK rows))(B:Al (Y7 t H) rows N.ru)(E:Yx rows (Sum.inr x.nm)=none)(g:Y7 t H (Sum.inr x.nm,v) x) :
  Yb t (upd H a.dr (.dK (Xi rows (Sum.inr x.nm) v))) n a {N with ru:=N.ru++[x]}:=by
 ext⟨⟨j,fs,M,O⟩,ap,⟨r1,I,y⟩,⟨J,f,C⟩,_,⟨r3,G,D⟩,⟨L,u,i⟩⟩ h;erw[⟨⟨j,fs,B8 c ZN.k M,O⟩,ap,⟨r1,by rwa[Zm (ap.sr)],y.imp λ_ _=>Yz.put c ZN.k⟩,⟨J,by rwa[Zm (Vg f c (by intro z;cases z))],C.imp λ_ _=>YG.put c ZN.k⟩,⟨_,Zi,?_⟩,⟨r3,by rwa[Zm (ap.rt.symm)],D.imp λ_ _=>Xj.put c ZN.k⟩,⟨L,by rwa[Zm (ap.rp.symm)],i.imp λ_ _=>Xe.put c ZN.k⟩⟩];rw[Qy v E];exact(B.imp λ_ _=>Y7.put c ZN.k).snoc (g.put c ZN.k)
def Yb.addTk{a:NA}{N:ZF}{rows:List (ZD×V)}{x:YS}(h:Yb t H n a N)(c:H a.dt=some (.dK rows))(B:Al (Xj H) rows N.tk)(I:Yx rows (Sum.inr x.nm)=none)(g:Xj H (Sum.inr x.nm,v) x) :
  Yb t (upd H a.dt (.dK (Xi rows (Sum.inr x.nm) v))) n a {N with tk:=N.tk++[x]}:=by
 ext⟨⟨j,fs,O,Q⟩,ap,⟨r1,J,y⟩,⟨L,f,D⟩,⟨E,C,G⟩,_,⟨M,u,i⟩⟩ h;erw[⟨⟨j,fs,B8 c ZN.k O,Q⟩,ap,⟨r1,by rwa[Zm (ap.st)],y.imp λ_ _=>Yz.put c ZN.k⟩,⟨L,by rwa[Zm (Vg f c (by intro z;cases z))],D.imp λ_ _=>YG.put c ZN.k⟩,⟨E,by rwa[Zm (ap.rt)],G.imp λ_ _=>Y7.put c ZN.k⟩,⟨_,Zi,?_⟩,⟨M,by rwa[Zm (ap.tp.symm)],i.imp λ_ _=>Xe.put c ZN.k⟩⟩];rw[Qy v I];exact(B.imp λ_ _=>Xj.put c ZN.k).snoc (g.put c ZN.k)
def Yb.addTp{a:NA}{N:ZF}{rows:List (ZD×V)}{x:Tp}(h:Yb t H n a N)(c:H a.dp=some (.dK rows))(u:Al (Xe H) rows N.tp)(G:Yx rows (Sum.inr x.nm)=none)(g:Xe H (Sum.inr x.nm,v) x) :
  Yb t (upd H a.dp (.dK (Xi rows (Sum.inr x.nm) v))) n a {N with tp:=N.tp++[x]}:=by
 ext⟨⟨i,fs,M,O⟩,ap,⟨r1,J,j⟩,⟨L,f,B⟩,⟨C,y,D⟩,⟨r3,I,E⟩,_⟩ h;erw[⟨⟨i,fs,B8 c ZN.k M,O⟩,ap,⟨r1,by rwa[Zm (ap.sp)],j.imp λ_ _=>Yz.put c ZN.k⟩,⟨L,by rwa[Zm (Vg f c (by intro z;cases z))],B.imp λ_ _=>YG.put c ZN.k⟩,⟨C,by rwa[Zm (ap.rp)],D.imp λ_ _=>Y7.put c ZN.k⟩,⟨r3,by rwa[Zm (ap.tp)],E.imp λ_ _=>Xj.put c ZN.k⟩,⟨_,Zi,?_⟩⟩];rw[Qy v G];exact(u.imp λ_ _=>Xe.put c ZN.k).snoc (g.put c ZN.k)
def V7(h:Yd z):(PyData.str z).canLay0=true:=by
 simp only[PyData.canLay0];show z.cps.all (λc=>decide (c<0x110000))=true;rw[<-Array.all_toList,List.all_eq_true];intro c f;have:=h.2.2.1 c f;exact SR ()
def Ur(c:List Wl)(a b:Str):Bool:=c.any λx=>(a==x.o && b==x.t) || (b==x.o && a==x.t)
inductive Zok(t:Ya)(vs:List V)(H:Hp)(Q:VK)(_e3:XK):Prop|mk (n:Addr) (N:ZF) (a b:Str) (_:vs=[.ref n,.str a,.str b]) (_:XX t H n N) (_:Yd a) (_:Yd b) (_:(∀x∈N.wk,Yd x.o/\Yd x.t)) (_:N.wk.length<=12) (_:∀H',Zf H H'->Q (.bl (Ur N.wk a b)) H')
def Zol(n:Zu K mg t):Zo P w K mg base Zr 1 t.ZdR t.ZdS ["self","one","other"] (Zok t):=by
 erw[n.qD.F.ok Zl2 () λd0 A outer s H vs f0 e0 hr h=>?_];ext⟨b0,N,a,b,rfl,⟨L,B⟩,Q,E,c0,w12,q⟩ h;ext⟨T,fs,Y,Z⟩ B.ob;ext⟨vw,M,y⟩ B.wk;erw[⟨_,(Ze (Zp (Yp (ZjV R) n.Zmj Zmd (Zc (YZ (cl:=[(OL "other",s.heap.objs.size+2),(OL "one",s.heap.objs.size+1)]) (N:=["walk","one","other"]) (fr:=[none,some 1,some 2]) R (YP (ZQ (pv 0) R)) R () R () ⟨⟨R,Or.inl R,Or.inl R,_,R,R⟩,⟨⟨R,Or.inl R,Or.inl R,_,R,R⟩,trivial⟩⟩ ⟨R,⟨R,trivial⟩⟩ R (λ_ _ _ _ _=>(ZJ 0 (show List.Nodup (["walk","one","other"]:OD) by lia))) (λ_ _ _ _ _=>YM) (λ_ _ _ _ _=>(Xl (show YD _ (compareOp .In) (Za9 K false)from ZjU hr.units) (Y9 (ZB (Zq (show XA _ (WV K)from ZH) (pv 0) Za) (Zq (show XA _ (WV K)from ZH) (pv 0) Za))) (Y9 (ZB (Y9 (ZB (pv 1) (pv 2))) (Y9 (ZB (pv 2) (pv 1))))) R))))))),?_⟩];sleep 1;refine⟨_,R,b0,_,T,_,_,R,Y,n.ZK,n.Md,Z.fw,L.lw,R,⟨_,Zd.of M⟩,Vq (K:=K) (a:=L.lw) (xs:=vw) (λi c f D=>Zf H D/\(∃v,f=[v,some (.str a),some (.str b)])/\c=((N.wk.take i).map λx=>(a==x.o && b==x.t) || (b==x.o && a==x.t)).map V.bl) ⟨Zf.refl H,⟨_,R⟩,R⟩
  (Sh (show _<=12 by rw[y.length];exact w12) ()) (λi c f D _ ⟨s',_⟩=>Zd.of (s' _ _ M)) ?_ ?_⟩
 rintro i v c f U S hv ⟨j,⟨v0,rfl⟩,rfl⟩;obtain⟨x,ex,I,rfl,a0⟩:=y.get hv;have C:=c0 x (SL ex);have G:=j _ _ a0;dsimp only[YA,Y4];rw[SW R];erw[⟨_,R,I,_,0,_,R,R,Zg.of G,R,_,R,I,_,1,_,R,R,Zg.of G,R,zL9 R,λX g1=>?_⟩];have u1:=Zw g1 (.tup [.str x.o,.str x.t]);erw[⟨_,R,_,R,zL9 R,λJ g2=>?_⟩];have O:=Zw g2 (.tup [.str a,.str b]);erw[⟨_,R,_,R,zL9 R,λp3 g3=>?_⟩];have u:=Zw g3 (.tup [.str b,.str a]);erw[⟨zL9 R,λp4 g4=>?_⟩];have g:=Zw g4 (.tup [.ref J,.ref p3]);have k1:=((O.trans u).trans g) X _ Zi;have k2:=(u.trans g) J _ Zi;have k3:=g p3 _ Zi;have S4:=(((j.trans u1).trans O).trans u).trans g;erw[⟨p4,_,.tuple [.str x.o,.str x.t],[.tuple [.str a,.str b],.tuple [.str b,.str a]],R,.inr (Zg.of Zi),.tup (Zg.of k1) (.cons (.str _ (V7 C.1)) (.cons (.str _ (V7 C.2)) .nil)),.cons (.tup (Zg.of k2) (.cons (.str _ (V7 Q)) (.cons (.str _ (V7 E)) .nil))) (.cons (.tup (Zg.of k3) (.cons (.str _ (V7 E)) (.cons (.str _ (V7 Q)) .nil))) .nil),?_,?_⟩];simp[PyData.depth,PyData.depthAll];erw[⟨by rw[Su,Sw];lia,S4,⟨_,R⟩,?_⟩];rw[Oa,ex,SM,SM];congr 1;simp[PyData.eqv,PyData.eqvAll];rintro c f U ha ⟨j,⟨v0,rfl⟩,rfl⟩ l S;rw[y.length,List.take_length];erw[⟨l,_,R,Zd.of Zi,?_⟩];rw[List.any_map];exact q _ (j.trans (Zw S _))
def Zom{f:Type}{nm:f->Str}{R:ZD×V->f->Prop}(i:∀c x,R c x->c.1=Sum.inr (nm x)){rows:List (ZD×V)}{xs:List f}(h:Al R rows xs)(z:Str):(Yx rows (Sum.inr z)).isSome=(Yv nm xs z).isSome:=by
 have:=Uq i h z;cases e:Yv nm xs z with
 |none=>rw[this.1 e];rfl
 |some x=>obtain⟨c,g,_⟩:=this.2 x e;rw[g];rfl
def YH{c:Type}(nm:c->Str)(xs:List c):V->Bool
 |.str z=>(Yv nm xs z).isSome
 |_=>false
def US{c:Type}{nm:c->Str}{R:ZD×V->c->Prop}(g:∀f x,R f x->f.1=Sum.inr (nm x)){rows:List (ZD×V)}{xs:List c}(h:Al R rows xs)(v:V):J2 rows v=YH nm xs v:=by
 cases v with
 |str z=>exact Zom g h z
 |_=>rfl
def Us{c:Type}{nm:c->Str}{xs:List c}{v:V}(h:YH nm xs v=true):∃z x,v=.str z/\Yv nm xs z=some x:=by
 cases v with
 |str z=>obtain⟨x,e⟩:=Option.isSome_iff_exists.mp h;exact⟨z,x,R,e⟩
 |_=>cases h
def Pu{rows:List (ZD×V)}(h:J2 rows (.str z)=false):Yx rows (Sum.inr z)=none:=by
 cases e:Yx rows (Sum.inr z)with
 |none=>rfl
 |some x=>have h:(Yx rows (Sum.inr z)).isSome=false:=h;rw[e]at h;cases h
def Mm(s:Zf H c):Zf (wo H d) (upd c d o):=λb ob e=>by obtain⟨f,e⟩:=Za6 e;rw[Zm f];exact s _ _ e
structure XZ(N:ZF):Prop where
 s8:N.st.length<=8
 sn:(N.st.map ZT.nm).Nodup
 so:∀x∈N.st,Yd x.nm
 w12:N.wk.length<=12
 wo:∀x∈N.wk,Yd x.o/\Yd x.t
 r6:N.ru.length<=6
 rn:(N.ru.map Yl.nm).Nodup
 ro:∀x∈N.ru,Yd x.nm/\R3.Ok x.r
 t3:N.tk.length<=3
 tn:(N.tk.map YS.nm).Nodup
 to:∀x∈N.tk,x.Ok
 p10:N.tp.length<=10
 pn:(N.tp.map Tp.nm).Nodup
 po:∀x∈N.tp,Yd x.nm/\Yd x.ru/\2<=x.cs.length/\x.cs.length<=6/\∀c∈x.cs,Yd c.st
def Mn(N:ZF)(c g f:V):Option Wn:=ck (Vw c) .name (ck (!YH ZT.nm N.st c) .twice (ck (XC g 1 6) .number (ck (XC f 0 30) .number (ck (decide (N.st.length<8)) .many none))))
def Zon(N:ZF)(f g c:V):ZF:={N with st:=N.st++[⟨X5 f,Xd g,Xd c⟩]}
def Mo(N:ZF)(f c g:V):Option Wn:=ck (YH ZT.nm N.st f) .stop (ck (YH ZT.nm N.st c) .stop (ck (!(decide (f=c) || Ur N.wk (X5 f) (X5 c))) .twice (ck (XC g 1 60) .number (ck (decide (N.wk.length<12)) .many none))))
def Zoo(N:ZF)(g c f:V):ZF:={N with wk:=N.wk++[⟨X5 g,X5 c,Xd f⟩]}
def B9(N:ZF)(c:V)(o:Option RT):Option Wn:=ck (Vw c) .name (ck (!YH Yl.nm N.ru c) .twice (ck o.isSome .days (ck (decide (N.ru.length<6)) .many none)))
def addR(N:ZF)(c:V)(o:Option RT):ZF:={N with ru:=N.ru++[⟨X5 c,o.getD .always⟩]}
def Zfq:Option (List V)->Bool
 |some xs=>decide (1<=xs.length/\(xs.length:Int)<=6) && Vb 1 6 xs
 |none=>false
def Pv(N:ZF)(c pv lv:V)(o:Option (List V)):Option Wn:=ck (Vw c) .name (ck (!YH YS.nm N.tk c) .twice (ck (XC pv 0 10000) .number (ck (XC lv 1 1440) .number (ck (Zfq o) .number (ck (decide (N.tk.length<3)) .many none)))))
def Mp(N:ZF)(c pv lv:V)(o:Option (List V)):ZF:={N with tk:=N.tk++[⟨X5 c,Xd pv,Xd lv,(o.getD []).map Xd⟩]}
def C0(N:ZF)(c f:V):Option Wn:=ck (Vw c) .name (ck (!YH Tp.nm N.tp c) .twice (ck (YH Yl.nm N.ru f) .rule (ck (decide (N.tp.length<10)) .many none)))
def addT(N:ZF)(f c:V)(cs:List Cl):ZF:={N with tp:=N.tp++[⟨X5 f,X5 c,cs⟩]}
def Pw(H:Hp)(v:V):Option (List V)->Prop
 |some xs=>∃a,v=.ref a/\H a=some (.lst xs)/\∀x∈xs,∃T,Kd H x T
 |none=>∃T,Kd H v T/\T ≠ "list"
def Pw.same(s:Zf H c)(h:Pw H v o):Pw c v o:=by
 cases o with
 |none=>ext⟨T,k,n⟩ h;exact⟨T,k.same s,n⟩
 |some g=>ext⟨a,e,h,k⟩ h;exact⟨a,e,s _ _ h,λx f=>let ⟨T,k⟩:=k x f;⟨T,k.same s⟩⟩
theorem Zfr:∀(xs:List V) (lo hi:Int),0<=lo->Vb lo hi xs=true->xs=ZI (xs.map Xd)/\(xs.map Xd).Pairwise (· < ·)/\∀x∈xs.map Xd,lo<=((x:Nat):Int)/\((x:Nat):Int)<=hi
 |[],_,_,_,_=>⟨R,.nil,()⟩
 |x::r,lo,hi,g,h=>by
  have h:(XC x lo hi && Vb (qZ x+1) hi r)=true:=h;rw[Bool.and_eq_true]at h;obtain⟨ex,j,i⟩:=J1 h.1 g;have v:qZ x=((Xd x:Nat):Int):=by rw[ex];rfl
  rw[v]at h;obtain⟨u,n,f⟩:=Zfr r (((Xd x:Nat):Int)+1) hi () h.2;erw[⟨?_,.cons (λy c=>by have:=(f y c).1;lia) n,λy c=>?_⟩];show x::r=V.int ((Xd x:Nat):Int)::ZI (r.map Xd);rw[<-ex,<-u];rcases SG.mp c with rfl|c;exact⟨j,i⟩;have:=f y c;lia
structure Mq(t:Ya)(n:Addr)(a:NA)(d:Addr)(du:Option Wn)(N:ZF)(H:Hp)(Q:VK)(E:XK):Prop where
 e:∀w,du=some w->∀H',Zf H H'->E (.ref (Wn.cls t w)) none H'
 q:du=none->∀H',Zf (wo H d) H'->Yb t H' n a N->Q .non H'
inductive Zop(t:Ya)(vs:List V)(H:Hp)(Q:VK)(E:XK):Prop|mk (n:Addr) (N:ZF) (v:V) (T:String) (_:vs=[.ref n,v]) (_:XX t H n N) (_:Kd H v T) (_:(YH ZT.nm N.st v=true->Q .non H)) (_:(YH ZT.nm N.st v=false->E (.ref t.Qh) none H))
def Mr(c:Zu K mg t):Zo P w K mg base (Yu P w) 2 t.ZdL t.ZdM ["self","name"] (Zop t):=by
 erw[c.Um.F.okX ZlZ () λI A outer s H G Q E D h=>?_];ext⟨n,N,v,T,rfl,⟨a,f⟩,kd,q,e⟩ h;ext⟨i,fs,j,u⟩ f.ob;ext⟨rows,C,B⟩ f.st;erw[⟨_,(Ze (ZC (Yn (Ym (Zt c.G0 (Mh c) D Zn (ZB (pv 1) (ZQ (pv 0) R))))) (Ze (Xh Xg c.Znm R R c.Zni (Zc Zl))) ZE)),?_⟩];sleep 1;erw[⟨_,R,_,R,n,_,i,_,_,R,j,c.ZK,c.QJ,u.fs1,v,T,a.ds,rows,R,kd,C,_,R,?_⟩];rw[US (λy x (h:Yz H y x)=>h.1) B];cases g:YH ZT.nm N.st v with
 |false=>exact Zy () ⟨zL9 R,e g⟩
 |true=>exact Zk SQ (q g)
inductive Zoq(t:Ya)(vs:List V)(H:Hp)(Q:VK)(E:XK):Prop|mk (n:Addr) (N:ZF) (v:V) (T:String) (_:vs=[.ref n,v]) (_:XX t H n N) (_:Kd H v T) (_:(YH Tp.nm N.tp v=true->Q .non H)) (_:(YH Tp.nm N.tp v=false->E (.ref t.UK) none H))
def Zfs(c:Zu K mg t):Zo P w K mg base (Yu P w) 2 t.ZdN t.ZdO ["self","name"] (Zoq t):=by
 erw[c.LX.F.okX Zl0 () λI A outer s H G Q E D h=>?_];ext⟨n,N,v,T,rfl,⟨a,f⟩,kd,q,e⟩ h;ext⟨i,fs,j,u⟩ f.ob;ext⟨rows,C,B⟩ f.tp;erw[⟨_,(Ze (ZC (Yn (Ym (Zt c.G0 (Mh c) D Zn (ZB (pv 1) (ZQ (pv 0) R))))) (Ze (Xh Xg c.Zno R R c.Znk (Zc Zl))) ZE)),?_⟩];sleep 1;erw[⟨_,R,_,R,n,_,i,_,_,R,j,c.ZK,c.QL,u.fp,v,T,a.dp,rows,R,kd,C,_,R,?_⟩];rw[US (λy x (h:Xe H y x)=>h.1) B];cases g:YH Tp.nm N.tp v with
 |false=>exact Zy () ⟨zL9 R,e g⟩
 |true=>exact Zk SQ (q g)
inductive Zor(t:Ya)(vs:List V)(H:Hp)(Q:VK)(E:XK):Prop|mk (n:Addr) (a:NA) (N:ZF) (nv zv cv:V) (Tz Tc:String) (_:vs=[.ref n,nv,zv,cv]) (_:Yb t H n a N) (_:Vk H nv) (_:Kd H zv Tz) (_:Kd H cv Tc) (_:Mq t n a a.ds (Mn N nv zv cv) (Zon N nv zv cv) H Q E)
def Zft(f:Zu K mg t):Zo P w K mg base (Yu P w) 4 t.ZdB t.ZdC ["self","name","zone","change"] (Zor t):=by
 erw[f.LU.F.okX ZlW () λc0 A outer s b0 vs e0 d0 j h=>?_];ext⟨n,a,N,Q,G,M,X,Tc,rfl,H,hv,T,kc,⟨e,q⟩⟩ h;ext⟨E,fs,I,J⟩ H.ob;ext⟨rows,D,L⟩ H.st;unfold Mn at e q;rw[<-US (λY x (h:Yz b0 Y x)=>h.1) L,<-L.length]at e q;erw[⟨_,(Zh (Yc (Zt f.LM (Pr f) j Yi (ZB (pv 1) (ZQ (pv 0) R)))) (Zh (Yc (Zt f.QI (B7 f) j Yi (Yk (pv 2) Za (YC R f.uF)))) (Zh (Yc (Zt f.QI (B7 f) j Yi (Yk (pv 3) Za (YC R f.ZmA)))) (Zh (Yc (Zt f.A2 (Ps f) j Yi (ZB (ZQ (pv 0) R) (YC R f.Zmv)))) (Ze (Qz (Ud j) (ZQ (pv 0) R) (pv 1) (Y9 (ZB (pv 2) (pv 3))) R)))))),?_⟩];sleep 5;erw[⟨_,R,_,R,n,_,E,_,_,R,I,f.ZK,f.QJ,J.fs1,Q,a.ds,rows,R,D,hv,λc O g=>?_,λB u O g=>?_,λB u O g=>?_⟩];rw[c]at e;exact e _ R _ g;rw[B,u]at e;exact e _ R _ g;rw[B,u]at e q;erw[⟨_,R,G,X,1,6,R,T.same g,λv=>?_,λv=>?_⟩]
 rotate_left
 rw[v]at e;exact e _ R _ g;rw[v]at e q;erw[⟨_,R,M,Tc,0,30,R,kc.same g,λC=>?_,λC=>?_⟩]
 rotate_left
 rw[C]at e;exact e _ R _ g;rw[C]at e q;erw[⟨_,R,n,_,E,_,_,R,g _ _ I,f.ZK,f.QJ,J.fs1,a.ds,rows,8,R,g _ _ D,λy=>?_,λy=>?_⟩]
 rotate_left
 rw[y]at e;exact e _ R _ g;rw[y]at q;obtain⟨z,rfl,_⟩:=J0 B;have U:=(J1 v ()).1;have Z:=(J1 C ()).1;erw[⟨_,R,_,R,zL9 R,λr a0=>?_⟩];have S:=Zw a0 (.tup [G,M]);have i:=g.trans S;erw[⟨_,R,n,_,E,_,_,R,i _ _ I,f.ZK,f.QJ,J.fs1,_,R,a.ds,_,R,V2.k (k:=Sum.inr z) (i _ _ D) (Nat.lt_trans (SU y) ()),?_⟩];exact q R _ (Mm i) ((H.same i).addSt (x:=⟨z,Xd G,Xd M⟩) (i _ _ D) (L.imp λ_ _=>Yz.same i) (Pu u) ⟨R,r,R,by rw[Zi,<-U,<-Z]⟩)
inductive Zos(t:Ya)(vs:List V)(H:Hp)(Q:VK)(E:XK):Prop|mk (n:Addr) (a:NA) (N:ZF) (nv v:V) (o:Option RT) (_:vs=[.ref n,nv,v]) (_:Yb t H n a N) (_:Vk H nv) (_:Mi t H v o) (_:Mq t n a a.dr (B9 N nv o) (addR N nv o) H Q E)
def jE(f:Zu K mg t):Zo P w K mg base (Yu P w) 44 t.ZdF t.ZdG ["self","name","rule"] (Zos t):=by
 erw[f.A3.F.okX ZbE () λZ A outer s H Y b0 a0 C h=>?_];ext⟨n,a,N,O,v,o,rfl,G,T,U,⟨e,q⟩⟩ h;ext⟨D,fs,I,J⟩ G.ob;ext⟨rows,B,L⟩ G.ru;unfold B9 at e q;rw[<-US (λS x (h:Y7 t H S x)=>h.1) L,<-L.length]at e q;erw[⟨_,(Zh (Yc (Zt f.LM (Pr f) C Yi (ZB (pv 1) (ZQ (pv 0) R)))) (Zh (ZR 3 ZbE.nd (Zt f.UL (Zfn f) C Yi (Zc (pv 2)))) (Zh (Yc (Zt f.A2 (Ps f) C Yi (ZB (ZQ (pv 0) R) (YC R f.Zmx)))) (Ze (Qz (Ud C) (ZQ (pv 0) R) (pv 1) (pv 3) R))))),?_⟩];sleep 4;erw[⟨_,R,_,R,n,_,D,_,_,R,I,f.ZK,f.QK,J.fr,O,a.dr,rows,R,B,T,λc M i=>?_,λy j M i=>?_,λy j M i=>?_⟩];rw[c]at e;exact e _ R _ i;rw[y,j]at e;exact e _ R _ i;rw[y,j]at e q;erw[⟨_,R,v,o,R,U.same i,λE=>?_,λr E X H2 s2 Q=>?_⟩];subst E;exact e _ R _ i;subst E;have g:=i.trans s2;erw[⟨_,R,n,_,D,_,_,R,g _ _ I,f.ZK,f.QK,J.fr,a.dr,rows,6,R,g _ _ B,λu=>?_,λu=>?_⟩]
 rotate_left
 rw[u]at e;exact e _ R _ g;rw[u]at q;obtain⟨z,rfl,_⟩:=J0 y;erw[⟨_,R,_,R,n,_,D,_,_,R,g _ _ I,f.ZK,f.QK,J.fr,_,R,a.dr,_,R,V2.k (k:=Sum.inr z) (g _ _ B) (Nat.lt_trans (SU u) ()),?_⟩];exact q R _ (Mm g) ((G.same g).addRu (x:=⟨z,r⟩) (g _ _ B) (L.imp λ_ _=>Y7.same g) (Pu j) ⟨R,Q⟩)
inductive Zot(t:Ya)(vs:List V)(H:Hp)(Q:VK)(E:XK):Prop|mk (n:Addr) (a:NA) (N:ZF) (nv prv lv zv:V) (Tp Tl:String) (o:Option (List V)) (_:vs=[.ref n,nv,prv,lv,zv]) (_:Yb t H n a N) (_:Vk H nv) (_:Kd H prv Tp) (_:Kd H lv Tl) (_:Pw H zv o) (_:Mq t n a a.dt (Pv N nv prv lv o) (Mp N nv prv lv o) H Q E)
def Zfu(c:Zu K mg t):Zo P w K mg base (Yu P w) 4 t.ZdH t.ZdI ["self","name","price","lasts","zones"] (Zot t):=by
 erw[c.LW.F.okX ZlY () λe0 A outer s d0 vs g0 f0 u h=>?_];ext⟨n,a,N,Y,M,lv,U,Tp,Z,o,rfl,H,hv,kp,kl,hz,⟨e,q⟩⟩ h;ext⟨G,fs,I,J⟩ H.ob;ext⟨rows,E,L⟩ H.tk;unfold Pv at e q;rw[<-US (λkv x (h:Xj d0 kv x)=>h.1) L,<-L.length]at e q;erw[⟨_,(Zh (Yc (Zt c.LM (Pr c) u Yi (ZB (pv 1) (ZQ (pv 0) R)))) (Zh (Yc (Zt c.QI (B7 c) u Yi (Yk (pv 2) Za (YC R c.ZmC)))) (Zh (Yc (Zt c.QI (B7 c) u Yi (Yk (pv 3) Za (YC R c.ZmD)))) (Zh (ZC (Yn (Ym (Zt c.LJ (ZnU c) u Zn (Uk (pv 4) (YC R c.uF) Za (YC R c.uF))))) (Ze (Xh Xg c.ZeL R R c.ZeH (Zc Zl))) ZE) (Zh (Yc (Zt c.A2 (Ps c) u Yi (ZB (ZQ (pv 0) R) (YC R c.Zmy)))) (Ze (Qz (Ud u) (ZQ (pv 0) R) (pv 1) (Y9 (Yk (pv 2) (pv 3) (Z1 Lb R c.F9 F7 (Zc (pv 4))))) R))))))),?_⟩];sleep 6;erw[⟨_,R,_,R,n,_,G,_,_,R,I,c.ZK,c.A7,J.ft,Y,a.dt,rows,R,E,hv,λb0 O f=>?_,λB v O f=>?_,λB v O f=>?_⟩];rw[b0]at e;exact e _ R _ f;rw[B,v]at e;exact e _ R _ f;rw[B,v]at e q;erw[⟨_,R,M,Tp,0,10000,R,kp.same f,λy=>?_,λy=>?_⟩]
 rotate_left
 rw[y]at e;exact e _ R _ f;rw[y]at e q;erw[⟨_,R,lv,Z,1,1440,R,kl.same f,λD=>?_,λD=>?_⟩]
 rotate_left
 rw[D]at e;exact e _ R _ f;rw[D]at e q;have S:=hz.same f;cases o with
 |none =>
  ext⟨a0,kd,nT⟩ S;exact⟨_,R,U,6,1,6,R,.inl ⟨a0,kd,nT,_,R,Zy () ⟨zL9 R,e _ R _ f⟩⟩⟩
 |some g =>
  ext⟨l,rfl,T,kx⟩ S;erw[⟨_,R,.ref l,6,1,6,R,.inr ⟨l,g,R,T,kx,_,R,?_⟩⟩];cases i:Zfq (some g)with
  |false =>
   rw[i]at e;rw[show(decide (1<=g.length/\(g.length:Int)<=6) && Vb 1 6 g)=false from i];exact Zy () ⟨zL9 R,e _ R _ f⟩
  |true =>
   rw[i]at e q;have i:(decide (1<=g.length/\(g.length:Int)<=6) && Vb 1 6 g)=true:=i;rw[i];erw[Zk () ?_];sleep 1;rw[Bool.and_eq_true]at i;erw[⟨_,R,n,_,G,_,_,R,f _ _ I,c.ZK,c.A7,J.ft,a.dt,rows,3,R,f _ _ E,λC=>?_,λC=>?_⟩]
   rotate_left
   rw[C]at e;exact e _ R _ f;rw[C]at q;obtain⟨z,rfl,_⟩:=J0 B;have ep:=(J1 y ()).1;have el:=(J1 D ()).1;have ex:=(Zfr g 1 6 () i.2).1;erw[⟨_,R,_,R,_,R,l,_,R,.inl ⟨Zd.of T,λp X=>?_⟩⟩];have s2:=Zw X (.tup g);erw[⟨zL9 R,λr c0=>?_⟩];have Q:=Zw c0 (.tup [M,lv,.ref p]);have j:=(f.trans s2).trans Q;erw[⟨_,R,n,_,G,_,_,R,j _ _ I,c.ZK,c.A7,J.ft,_,R,a.dt,_,R,V2.k (k:=Sum.inr z) (j _ _ E) (Nat.lt_trans (SU C) ()),?_⟩];exact q R _ (Mm j) ((H.same j).addTk (x:=⟨z,Xd M,Xd lv,g.map Xd⟩) (j _ _ E) (L.imp λ_ _=>Xj.same j) (Pu v) ⟨R,r,p,R,by rw[Zi,<-ep,<-el],by rw[<-ex];exact Q _ _ Zi⟩)
inductive Zou(vs:List V)(H:Hp)(Q:VK)(_e3:XK):Prop|mk (v u:V) (c a:Cl) (_:vs=[v,u]) (_:Yt H v c) (_:Yt H u a) (_:c.st≠a.st) (_:a.lv<c.ar) (_:Q (.bl true) H)
def Zov(i:Zu K mg t):Zo P w K mg base Zr 1 t.ZcA t.ZcB ["call","ahead"] Zou:=by
 erw[i.Zet.F.ok Zlu () λn A outer s H j Q E x h=>?_];ext⟨v,u,c,a,rfl,⟨p,rfl,g⟩,⟨r,rfl,f⟩,ns,lt,q⟩ h;erw[⟨_,(Ze (Zp (Vi (Xl Ux (Zq ZH (pv 0) Za) (Zq ZH (pv 1) Za) (XD _)) (WF (Xl UZ (Zq ZH (pv 0) Za) (Zq ZH (pv 1) Za) (XD _)))))),?_⟩];sleep 1;erw[⟨_,R,p,_,0,_,R,R,Zg.of g,R,_,R,r,_,0,_,R,R,Zg.of f,R,R,_,R,Zy (by rw[SS λz=>ns (V.str.inj z)];rfl) ?_⟩];erw[⟨_,R,p,_,1,_,R,R,Zg.of g,R,_,R,r,_,2,_,R,R,Zg.of f,R,_,_,R,R,?_⟩];rwa[SR (show((c.ar:Nat):Int)>((a.lv:Nat):Int) by lia)]
inductive Zow(t:Ya)(vs:List V)(H:Hp)(Q:VK)(E:XK):Prop|mk (n:Addr) (a:NA) (N:ZF) (ov tv mv:V) (To Tt Tm:String) (_:vs=[.ref n,ov,tv,mv]) (_:Yb t H n a N) (_:XZ N) (_:Kd H ov To) (_:Kd H tv Tt) (_:Kd H mv Tm) (_:Mq t n a a.lw (Mo N ov tv mv) (Zoo N ov tv mv) H Q E)
def Zfv(c:Zu K mg t):Zo P w K mg base (Yu P w) 4 t.ZdD t.ZdE ["self","one","other","minutes"] (Zow t):=by
 erw[c.LV.F.okX ZlX () λc0 A outer s H vs e0 d0 v h=>?_];ext⟨n,a,N,ov,Y,L,U,Z,Tm,rfl,g,ok,T,S,km,⟨e,q⟩⟩ h;ext⟨i,fs,j,u⟩ g.ob;ext⟨vw,I,M⟩ g.wk;unfold Mo at e q;rw[<-M.length]at e q;erw[⟨_,(Zh (Yc (YL (pv 0) c.ZK c.Um.me (Mr c) (v.mono ()) c.Um.b .nil Yi (Zc (pv 1)))) (Zh (Yc (YL (pv 0) c.ZK c.Um.me (Mr c) (v.mono ()) c.Um.b .nil Yi (Zc (pv 2)))) (Zh (ZC (PW.pt (Vh (ZV Z8 (pv 1) (pv 2)) (VO (Ym (YL (pv 0) c.ZK c.qD.me (Zol c) (v.mono ()) c.qD.b .nil Zn (ZB (pv 1) (pv 2))))))) (Ze (Xh Xg c.ZeJ R R c.ZeF (Zc Zl))) ZE) (Zh (Yc (Zt c.QI (B7 c) v Yi (Yk (pv 3) Za (YC R c.ZmB)))) (Zh (Yc (Zt c.A2 (Zoe c) v Yi (ZB (ZQ (pv 0) R) (YC R c.Zmw)))) (Ze (Yc (YQ PySem.F.plainAttrs_list PySem.F.slot_list_append PySem.F.type_list_append Lc (ZQ (pv 0) R) (Zc (Y9 (Yk (pv 1) (pv 2) (pv 3)))))))))))),?_⟩];erw[⟨_,R,n,i,_,R,j,u.n_check_stop,_,R,n,N,ov,U,R,⟨a,g⟩,T,λB=>?_,λB=>?_⟩]
 rotate_left
 rw[B]at e;exact e _ R _ (Zf.refl H);rw[B]at e q;erw[⟨_,R,n,i,_,R,j,u.n_check_stop,_,R,n,N,Y,Z,R,⟨a,g⟩,S,λE=>?_,λE=>?_⟩]
 rotate_left
 rw[E]at e;exact e _ R _ (Zf.refl H);rw[E]at e q;obtain⟨x,_,rfl,fx⟩:=Us B;obtain⟨y,_,rfl,fy⟩:=Us E;have X:Yd x:=by have:=Vd fx;rw[<-this.2];exact ok.so _ this.1
 have a0:Yd y:=by have:=Vd fy;rw[<-this.2];exact ok.so _ this.1
 erw[⟨_,R,_,R,R,_,R,?_⟩];cases J:decide (V.str x=V.str y)with
 |true=>rw[J]at e;exact Zy R (Zy R ⟨zL9 R,e _ R _ (Zf.refl H)⟩)
 |false =>
 erw[Zk SQ ?_];erw[⟨_,R,n,i,_,R,j,u.n_has_walk,_,R,_,R,n,N,x,y,R,⟨a,g⟩,X,a0,ok.wo,ok.w12,λH1 f=>⟨_,R,?_⟩⟩];cases Q:Ur N.wk x y with
 |true=>rw[J,show Ur N.wk (X5 (V.str x)) (X5 (V.str y))=true from Q]at e;exact Zy R ⟨zL9 R,e _ R _ f⟩
 |false =>
 rw[J,show Ur N.wk (X5 (V.str x)) (X5 (V.str y))=false from Q]at e q;erw[Zk SQ ?_];erw[⟨_,R,L,Tm,1,60,R,km.same f,λG=>?_,λG=>?_⟩]
 rotate_left
 rw[G]at e;exact e _ R _ f;rw[G]at e q;erw[⟨_,R,n,_,i,_,_,R,f _ _ j,c.ZK,c.Md,u.fw,a.lw,vw,12,R,f _ _ I,λC=>?_,λC=>?_⟩]
 rotate_left
 rw[C]at e;exact e _ R _ f;rw[C]at q;have em:=(J1 G ()).1;erw[⟨_,R,n,_,i,_,_,R,f _ _ j,c.ZK,c.Md,u.fw,.inl ⟨R,_,Zd.of (f _ _ I)⟩,_,R,_,R,_,R,zL9 R,λr b0=>?_⟩];have s2:=Zw b0 (.tup [.str x,.str y,L]);have D:=f.trans s2;have O:=D _ _ I;erw[⟨a.lw,_,_,R,R,O,Nat.lt_trans (SU C) (),?_⟩];exact q R _ (Mm D) ((g.same D).addWk (x:=⟨x,y,Xd L⟩) O (M.imp λ_ _=>YG.same D) ⟨r,R,by rw[Zi,<-em]⟩)
def VI{c:Type}{nm:c->Str}{xs:List c}{z:Str}(h:z∈xs.map nm):YH nm xs (.str z)=true:=by
 obtain⟨x,f,rfl⟩:=SK.mp h;obtain⟨y,e⟩:=jC (nm:=nm) f;show(Yv nm xs (nm x)).isSome=true;rw[e];rfl
inductive Zox(t:Ya)(vs:List V)(H:Hp)(Q:VK)(_e3:XK):Prop|mk (n:Addr) (N:ZF) (v:V) (c:Cl) (_:vs=[.ref n,v]) (_:XX t H n N) (_:Yt H v c) (_:c.st∈N.st.map ZT.nm) (_:c.ar<=c.lv) (_:c.lv<=2879) (_:Q .non H)
def Zoy(f:Zu K mg t):Zo P w K mg base (Yu P w) 4 t.ZdP t.ZdQ ["self","call"] (Zox t):=by
 erw[f.qC.F.okX Zl1 () λI A outer s H G Q E i h=>?_];ext⟨n,N,v,c,rfl,j,⟨p,rfl,g⟩,C,L,J,q⟩ h;have D:=j;ext⟨a,x⟩ D;ext⟨u,fs,y,B⟩ x.ob;erw[⟨_,(Zh (Yc (YL (pv 0) f.ZK f.Um.me (Mr f) (i.mono ()) f.Um.b .nil Yi (Zc (Zq ZH (pv 1) Za)))) (Zh (Yc (Zt f.QI (B7 f) i Yi (Yk (Zq ZH (pv 1) Za) Za (YC R f.NJ)))) (Zh (Yc (Zt f.QI (B7 f) i Yi (Yk (Zq ZH (pv 1) Za) Za (YC R f.NJ)))) (Ze (ZC (ZV P9 (Zq ZH (pv 1) Za) (Zq ZH (pv 1) Za)) (Ze Wm) ZE))))),?_⟩];erw[⟨_,R,n,u,_,R,y,B.n_check_stop,_,R,p,_,0,_,R,R,Zg.of g,R,n,N,.str c.st,_,R,j,.str _,λ_=>?_,λz=>by rw[VI C]at z;cases z⟩];erw[⟨_,R,p,_,1,_,R,R,Zg.of g,R,.int (c.ar:Nat),_,0,2879,R,.int _,λ_=>?_,λz=>by rw[Ww () ()]at z;cases z⟩];erw[⟨_,R,p,_,2,_,R,R,Zg.of g,R,.int (c.lv:Nat),_,0,2879,R,.int _,λ_=>?_,λz=>by rw[Ww () ()]at z;cases z⟩];exact⟨_,R,p,_,2,_,R,R,Zg.of g,R,_,R,p,_,1,_,R,R,Zg.of g,R,_,_,R,R,_,R,Zk (by rw[SS ()];lia) q⟩
inductive Zoz(K:Oy)(vs:List V)(H:Hp)(Q:VK)(_e3:XK):Prop|mk (l:Addr) (vs':List V) (cs:List Cl) (_:vs=[.ref l]) (_:H l=some (.lst vs')) (_:Al (Yt H) vs' cs) (_:2<=cs.length) (_:cs.length<=6) (_:∀H',Zf H H'->Q (.bl true) H')
def ZoA(f:Zu K mg t):Zo P w K mg base Zr 1 t.Zcy t.Zcz ["calls"] (Zoz K):=by
 erw[f.Zes.F.ok Zlt () λX A outer s H U Q E Y h=>?_];ext⟨l,g,cs,rfl,C,G,M,O,q⟩ h;have lv:=G.length;erw[⟨_,(Zh (ZC (PW.pt (Vh (Yn (Ym (Yp VW f.WO WM (ZB (pv 0) (VX R f.Y1 Y6))))) (VO (Yn (MQ Vl Vl (YC R f.ZmE) (Yp WY f.XJ XG (Zc (pv 0))) (YC R f.ZmF)))))) (Ze (Zp Xy)) ZE) (Ze (Zp (Yp (Rn R) f.uC xW (Zc (YZ (cl:=[]) (N:=["call"]) (fr:=[none]) R (YP (pv 0)) R () R () trivial trivial R (λ_ _ _ _ _=>(ZJ 0 (show List.Nodup (["call"]:OD) by lia))) (λ_ _ _ _ _=>YM) (λ_ _ _ _ _=>(Vi (Yp (show Xk _ (.builtin "isinstance") (λxs H Q=>∃x T t b,xs=[x,V.ty T]/\X9 K H x t/\W.kitOne K t (Value.type T)=some b/\Q (V.bl b) H)from VW) f.WO WM (ZB (pv 0) (VX R f.F9 F7))) (WF (Xl Z8 (Yp (show Xk _ (.builtin "len") (λxs H Q=>∃p D,xs=[V.ref p]/\(Zd K H p D\/Zg K H p D)/\Q (V.int ↑D.length) H)from WY) f.XJ XG (Zc (pv 0))) Za (XD _))))))))))),?_⟩];sleep 2;erw[⟨_,R,.ref l,"list",_,_,R,.lst C,R,_,R,Zk () ?_⟩];erw[⟨_,R,l,_,R,.inl (Zd.of C),_,_,R,R,_,R,Zy (SR ()) ?_⟩];erw[⟨_,_,R,R,_,R,Zk (by rw[SR (show((g.length:Nat):Int)<=6 by lia)];lia) ?_⟩];sleep 1;erw[⟨_,R,l,R,⟨_,Zd.of C⟩,Vq (K:=K) (a:=l) (xs:=g) (λi j n B=>B=H/\j=(List.replicate i true).map V.bl/\∃v,n=[v]) ⟨R,R,_,R⟩ (Sh (show _<=6 by lia) ()) (λi j n B _ ⟨e,_⟩=>by rw[e];exact Zd.of C) ?_ ?_⟩];rintro i y j n B Z I ⟨rfl,rfl,v,rfl⟩;obtain⟨c,S,p,rfl,u⟩:=G.get I;dsimp only[YA,Y4];rw[SW R];erw[⟨_,R,.ref p,"tuple",_,_,R,.tup u,R,_,R,Zy () ⟨_,R,p,_,R,.inr (Zg.of u),R,?_⟩⟩];erw[⟨by rw[Su,Sw];lia,R,?_,_,R⟩];rw[List.replicate_succ',SM];rfl;rintro j n B ha ⟨rfl,rfl,v,rfl⟩ p u;erw[⟨p,List.replicate g.length true,R,Zd.of Zi,?_⟩];have L:=q _ (Zw u (.lst ((List.replicate g.length true).map V.bl)));rwa[show(List.replicate g.length true).all id=true by rw[List.all_eq_true];intro x J;rw[(List.mem_replicate.mp J).2];rfl]
inductive ZoB(t:Ya)(K:Oy)(vs:List V)(H:Hp)(Q:VK)(E:XK):Prop|mk (n:Addr) (a:NA) (N:ZF) (nv rv:V) (Tr:String) (cs:List Cl) (l:Addr) (vs':List V) (_:vs=[.ref n,nv,rv,.ref l]) (_:Yb t H n a N) (_:Vk H nv) (_:Kd H rv Tr) (_:H l=some (.lst vs')) (_:Al (Yt H) vs' cs) (_:Vc (N.st.map ZT.nm) cs) (_:2<=cs.length) (_:cs.length<=6) (_:Mq t n a a.dp (C0 N nv rv) (addT N nv rv cs) H Q E)
def jF(f:Zu K mg t):Zo P w K mg base (Yu P w) 6 t.ZdJ t.ZdK ["self","name","rule","calls"] (ZoB t K):=by
 erw[f.A4.F.okX xG () λj0 A outer s H vs a0 k0 I h=>?_];ext⟨n,a,N,nv,rv,Tr,cs,l,g,rfl,O,hv,kr,L,J,ok,l2,l6,⟨e,q⟩⟩ h;ext⟨M,fs,Q,S⟩ O.ob;ext⟨rows,h1,h2⟩ O.tp;ext⟨b0,g0,c0⟩ O.ru;have lv:=J.length;have d0:g.length<=sizeLine:=Sh (show g.length<=6 by lia) ();unfold C0 at e q;rw[<-US (λT x (h:Xe H T x)=>h.1) h2,<-US (λT x (h:Y7 t H T x)=>h.1) c0,<-h2.length]at e q;erw[⟨_,(Zh (Yc (Zt f.LM (Pr f) I Yi (ZB (pv 1) (ZQ (pv 0) R)))) (Zh (ZC (Yn (Ym (Zt f.G0 (Mh f) I Zn (ZB (pv 2) (ZQ (pv 0) R))))) (Ze (Xh Xg f.ZeK R R f.ZeG (Zc Zl))) ZE) (Zh (ZC (Yn (Ym (Zt f.Zes (ZoA f) I Zn (Zc (pv 3))))) (Ze Wm) ZE) (Zh (MJ PassesOwn.leaving R (ZaU R f.NH (Zc (pv 3))) (Wq (n:=2) R (YB (ZJ 4 xG.nd) (YB (ZJ 5 xG.nd) Wo))) (Zh (Yc (YL (pv 0) f.ZK f.qC.me (Zoy f) (I.mono ()) f.qC.b .nil Yi (Zc (pv 5)))) (Ze (ZC (PW.pt (P1 (ZV UZ (pv 4) Za) (P0 (Yn (Ym (Zt f.Zet (Zov f) I Zn (ZB (pv 5) (Zq Yf (pv 3) (Zj VP (pv 4) Za))))))))) (Ze Wm) ZE)))) (Zh (Yc (Zt f.A2 (Ps f) I Yi (ZB (ZQ (pv 0) R) (YC R f.Zmz)))) (Ze (Qz (Ud I) (ZQ (pv 0) R) (pv 1) (Y9 (ZB (pv 2) (Z1 Lb R f.F9 F7 (Zc (YZ (cl:=[]) (N:=["call"]) (fr:=[none]) R (YP (pv 3)) R () R () trivial trivial R (λ_ _ _ _ _=>(ZJ 0 (show List.Nodup (["call"]:OD) by lia))) (λ_ _ _ _ _=>YM) (λ_ _ _ _ _=>(Z1 (show Xk _ (.type "tuple") (λxs H a0=>∃p ys,xs=[.ref p]/\((Zd K H p ys/\∀l,H l=none->a0 (.ref l) (upd H l (.tup ys)))\/(Zg K H p ys/\a0 (.ref p) H)))from Lb) R f.F9 F7 (Zc (pv 0))))))))) R))))))),?_⟩];erw[⟨_,R,_,R,n,_,M,_,_,R,Q,f.ZK,f.QL,S.fp,nv,a.dp,rows,R,h1,hv,λc H1 u=>?_,λZ X H1 u=>?_,λZ X H1 u=>?_⟩];rw[c]at e;exact e _ R _ u;rw[Z,X]at e;exact e _ R _ u;rw[Z,X]at e q;erw[⟨_,R,_,R,n,_,M,_,_,R,u _ _ Q,f.ZK,f.QK,S.fr,rv,Tr,a.dr,b0,R,kr.same u,u _ _ g0,_,R,?_⟩];cases c3:J2 b0 rv with
 |false=>rw[c3]at e;exact Zy () ⟨zL9 R,e _ R _ u⟩
 |true =>
 rw[c3]at e q;erw[Zk SQ ?_];obtain⟨z,rfl,_⟩:=J0 Z;obtain⟨y,_,rfl,_⟩:=Us ((US (λT x (h:Y7 t H T x)=>h.1) c0 rv).symm.trans c3);erw[⟨_,R,l,g,cs,R,u _ _ L,J.imp λ_ _=>Yt.same u,l2,l6,λH2 s2=>⟨_,R,Zk () ?_⟩⟩];have S2:=u.trans s2;erw[⟨_,R,l,R,⟨_,Zd.of (S2 _ _ L)⟩,ZaV (xs:=g) (λi B E=>Zf H E/\∃v4 v5:Option V,B=[some (.ref n),some (.str z),some (.str y),some (.ref l),v4,v5]) ⟨S2,_,_,R⟩ (λi B E _ ⟨s',_⟩=>Zd.of (s' _ _ L)) ?_ ?_⟩];rintro i v pp B H3 hx i0 ⟨C,v4,v5,rfl⟩;have D:=C.trans (Zw i0 (.tup [.int i,v]));obtain⟨c,ec,hc⟩:=J.get hx;have mc:=SL ec;erw[⟨pp,_,R,Zg.of Zi,R,_,_,R,_,_,R,R,?_⟩];erw[⟨_,R,n,M,_,R,D _ _ Q,S.n_check_call,_,R,n,N,v,c,R,⟨a,O.same D⟩,hc.same D,ok.st c mc,(ok.rng c mc).1,(ok.rng c mc).2,?_⟩];erw[⟨_,R,_,_,R,R,_,R,?_⟩];by_cases ci:0<i;erw[Zy (SR ()) ?_];obtain⟨j,rfl⟩:∃j,i=j+1:=⟨i - 1,()⟩;have hj:j<g.length:=by have:=(Sr.mp hx).1;lia
 obtain⟨k,ea,ha⟩:=J.get (Ss hj);have fo:=ok.fol j k c ea ec;have e0:YW g (((j+1:Nat):Int) - 1)=some g[j]:=by
  have:YW g (j:Int)=some g[j]:=Wt (Ss hj);rw[show(((j+1:Nat):Int) - 1)=(j:Int) by lia];exact this
 exact⟨_,R,_,R,_,R,_,_,R,R,l,_,_,_,R,R,Zd.of (D _ _ L),e0,v,_,_,_,R,hc.same D,ha.same D,fo.1,fo.2,_,R,Zk () ⟨D,_,_,R⟩⟩;exact Zk (by rw[SS ()];lia) (Zk () ⟨D,_,_,R⟩);rintro B H3 ⟨C,v4,v5,rfl⟩;erw[⟨_,R,n,_,M,_,_,R,C _ _ Q,f.ZK,f.QL,S.fp,a.dp,rows,10,R,C _ _ h1,λY=>?_,λY=>?_⟩]
 rotate_left
 rw[Y]at e;exact e _ R _ C;rw[Y]at q;erw[⟨_,R,_,R,l,R,⟨_,Zd.of (C _ _ L)⟩,Vq (K:=K) (a:=l) (xs:=g) (λi U B E=>E=H3/\U=g.take i/\∃v,B=[v]) ⟨R,R,_,R⟩ d0 (λi U B E _ ⟨e,_⟩=>by rw[e];exact Zd.of (C _ _ L)) ?_ ?_⟩];rintro i y U B E hi hy ⟨rfl,rfl,v,rfl⟩;obtain⟨c,ec,p,rfl,hp⟩:=J.get hy;dsimp only[YA,Y4];rw[SW R];erw[⟨_,R,p,_,R,.inr ⟨Zg.of (C _ _ hp),?_⟩⟩];erw[⟨by rw[Su,Sw];lia,R,?_,_,R⟩];rw[Oa,hy];rfl;rintro U B E ha ⟨rfl,rfl,v,rfl⟩ p hp;rw[List.take_length];have s5:=Zw hp (.lst g);erw[⟨p,_,R,.inl ⟨Zd.of Zi,λp2 f0=>?_⟩⟩];have s6:=Zw f0 (.tup g);erw[⟨zL9 R,λr h0=>?_⟩];have s7:=Zw h0 (.tup [.str y,.ref p2]);have G:=((C.trans s5).trans s6).trans s7;erw[⟨_,R,n,_,M,_,_,R,G _ _ Q,f.ZK,f.QL,S.fp,_,R,a.dp,_,R,V2.k (k:=Sum.inr z) (G _ _ h1) (Nat.lt_trans (SU Y) ()),?_⟩];exact q R _ (Mm G) ((O.same G).addTp (x:=⟨z,y,cs⟩) (G _ _ h1) (h2.imp λ_ _=>Xe.same G) (Pu X) ⟨R,r,p2,g,R,Zi,s7 _ _ Zi,J.imp λ_ _=>Yt.same G⟩)
def Ut{f:Type}{nm:f->Str}{R:ZD×V->f->Prop}(i:∀c x,R c x->c.1=Sum.inr (nm x)){rows:List (ZD×V)}{xs:List f}(h:Al R rows xs):(rows.map λc=>kV c.1)=(xs.map nm).map V.str:=by
 induction h with
 |nil=>rfl
 |cons a _ g=>rw[SN,SN,SN,g,i _ _ a];rfl
inductive Px(t:Ya)(f:ZF->List Str)(vs:List V)(H:Hp)(Q:VK)(_e3:XK):Prop|mk (n:Addr) (N:ZF) (_:vs=[.ref n]) (_:XX t H n N) (_:∀l,H l=none->Q (.ref l) (upd H l (.lst ((f N).map V.str))))
def Py(c:Zu K mg t):Zo P w K mg base Zr 1 t.ZdT t.ZdU ["self"] (Px t λN=>N.st.map ZT.nm):=by
 erw[c.Qk.F.ok Zl3 () λD A outer s H C Q E G h=>?_];ext⟨n,N,rfl,⟨a,f⟩,q⟩ h;ext⟨g,fs,y,B⟩ f.ob;ext⟨rows,j,i⟩ f.st;erw[⟨_,(Ze (Zp (Z1 (Ui R) R c.Y1 Y6 (Zc (ZQ (pv 0) R))))),?_⟩];sleep 1;erw[⟨_,R,n,_,g,_,_,R,y,c.ZK,c.QJ,B.fs1,a.ds,rows,R,j,λl u=>?_⟩];rw[Ut (λv x (h:Yz H v x)=>h.1) i];exact q l u
def Zfw(c:Zu K mg t):Zo P w K mg base Zr 1 t.ZdX t.ZdY ["self"] (Px t λN=>N.ru.map Yl.nm):=by
 erw[c.LZ.F.ok Zl5 () λD A outer s H C Q E G h=>?_];ext⟨n,N,rfl,⟨a,f⟩,q⟩ h;ext⟨g,fs,y,B⟩ f.ob;ext⟨rows,j,i⟩ f.ru;erw[⟨_,(Ze (Zp (Z1 (Ui R) R c.Y1 Y6 (Zc (ZQ (pv 0) R))))),?_⟩];sleep 1;erw[⟨_,R,n,_,g,_,_,R,y,c.ZK,c.QK,B.fr,a.dr,rows,R,j,λl u=>?_⟩];rw[Ut (λv x (h:Y7 t H v x)=>h.1) i];exact q l u
def jG(c:Zu K mg t):Zo P w K mg base Zr 1 t.ZdZ t.Zd0 ["self"] (Px t λN=>N.tk.map YS.nm):=by
 erw[c.A5.F.ok Zl6 () λD A outer s H C Q E G h=>?_];ext⟨n,N,rfl,⟨a,f⟩,q⟩ h;ext⟨g,fs,y,B⟩ f.ob;ext⟨rows,j,i⟩ f.tk;erw[⟨_,(Ze (Zp (Z1 (Ui R) R c.Y1 Y6 (Zc (ZQ (pv 0) R))))),?_⟩];sleep 1;erw[⟨_,R,n,_,g,_,_,R,y,c.ZK,c.A7,B.ft,a.dt,rows,R,j,λl u=>?_⟩];rw[Ut (λv x (h:Xj H v x)=>h.1) i];exact q l u
def jH(c:Zu K mg t):Zo P w K mg base Zr 1 t.Zd1 t.Zd2 ["self"] (Px t λN=>N.tp.map Tp.nm):=by
 erw[c.A6.F.ok Zl7 () λD A outer s H C Q E G h=>?_];ext⟨n,N,rfl,⟨a,f⟩,q⟩ h;ext⟨g,fs,y,B⟩ f.ob;ext⟨rows,j,i⟩ f.tp;erw[⟨_,(Ze (Zp (Z1 (Ui R) R c.Y1 Y6 (Zc (ZQ (pv 0) R))))),?_⟩];sleep 1;erw[⟨_,R,n,_,g,_,_,R,y,c.ZK,c.QL,B.fp,a.dp,rows,R,j,λl u=>?_⟩];rw[Ut (λv x (h:Xe H v x)=>h.1) i];exact q l u
inductive ZoC(t:Ya)(vs:List V)(H:Hp)(Q:VK)(_e3:XK):Prop|mk (n:Addr) (N:ZF) (_:vs=[.ref n]) (_:XX t H n N) (_:∀l xs,H l=none->Al (YG H) xs N.wk->Q (.ref l) (upd H l (.lst xs)))
def Zfx(c:Zu K mg t):Zo P w K mg base Zr 1 t.ZdV t.ZdW ["self"] (ZoC t):=by
 erw[c.LY.F.ok Zl4 () λC A outer s H B Q E D h=>?_];ext⟨n,N,rfl,⟨a,f⟩,q⟩ h;ext⟨i,fs,x,y⟩ f.ob;ext⟨g,u,j⟩ f.wk;erw[⟨_,(Ze (Zp (Z1 Uz R c.Y1 Y6 (Zc (ZQ (pv 0) R))))),?_⟩];sleep 1;exact⟨_,R,n,_,i,_,_,R,x,c.ZK,c.Md,y.fw,a.lw,g,R,.inl (Zd.of u),λl v=>q l g v j⟩
inductive Zfy(t:Ya)(f:ZT->Nat)(vs:List V)(H:Hp)(Q:VK)(E:XK):Prop|mk (n:Addr) (N:ZF) (v:V) (T:String) (_:vs=[.ref n,v]) (_:XX t H n N) (_:Kd H v T) (_:(YH ZT.nm N.st v=false->E (.ref t.Qh) none H)) (_:∀x,v=.str x.nm->Yv ZT.nm N.st x.nm=some x->Q (.int (f x:Nat)) H)
def Zfz(c:Zu K mg t):Zo P w K mg base (Yu P w) 3 t.Zd3 t.Zd4 ["self","stop"] (Zfy t ZT.z):=by
 erw[c.L0.F.okX Zl8 () λM A outer s H L Q E B h=>?_];ext⟨n,N,v,T,rfl,⟨a,f⟩,kd,e,q⟩ h;ext⟨i,fs,j,u⟩ f.ob;ext⟨rows,G,D⟩ f.st;erw[⟨_,(Zh (Yc (YL (pv 0) c.ZK c.Um.me (Mr c) (B.mono ()) c.Um.b .nil Yi (Zc (pv 1)))) (Ze (Zp (Zq ZH (YR B (ZQ (pv 0) R) (pv 1)) Za)))),?_⟩];sleep 2;erw[⟨_,R,n,i,_,R,j,u.n_check_stop,_,R,n,N,v,T,R,⟨a,f⟩,kd,λb=>?_,e⟩];obtain⟨z,x,rfl,g⟩:=Us b;obtain⟨y,J,_,r,C,I⟩:=(Uq (λy x (h:Yz H y x)=>h.1) D z).2 x g;erw[⟨_,R,n,_,i,_,_,R,j,c.ZK,c.QJ,u.fs1,_,R,a.ds,_,R,.inl ⟨rows,Sum.inr z,.inl G,R,J.symm⟩,r,_,0,_,C,R,Zg.of I,R,?_⟩];exact q x (by rw[(Vd g).2]) (J3 g)
def ZfA(c:Zu K mg t):Zo P w K mg base (Yu P w) 3 t.Zd5 t.Zd6 ["self","stop"] (Zfy t ZT.ch):=by
 erw[c.L1.F.okX Zl9 () λM A outer s H L Q E B h=>?_];ext⟨n,N,v,T,rfl,⟨a,f⟩,kd,e,q⟩ h;ext⟨i,fs,j,u⟩ f.ob;ext⟨rows,G,D⟩ f.st;erw[⟨_,(Zh (Yc (YL (pv 0) c.ZK c.Um.me (Mr c) (B.mono ()) c.Um.b .nil Yi (Zc (pv 1)))) (Ze (Zp (Zq ZH (YR B (ZQ (pv 0) R) (pv 1)) Za)))),?_⟩];sleep 2;erw[⟨_,R,n,i,_,R,j,u.n_check_stop,_,R,n,N,v,T,R,⟨a,f⟩,kd,λb=>?_,e⟩];obtain⟨z,x,rfl,g⟩:=Us b;obtain⟨y,J,_,r,C,I⟩:=(Uq (λy x (h:Yz H y x)=>h.1) D z).2 x g;erw[⟨_,R,n,_,i,_,_,R,j,c.ZK,c.QJ,u.fs1,_,R,a.ds,_,R,.inl ⟨rows,Sum.inr z,.inl G,R,J.symm⟩,r,_,1,_,C,R,Zg.of I,R,?_⟩];exact q x (by rw[(Vd g).2]) (J3 g)
inductive ZoD(t:Ya)(vs:List V)(H:Hp)(Q:VK)(E:XK):Prop|mk (n:Addr) (N:ZF) (v:V) (T:String) (_:vs=[.ref n,v]) (_:XX t H n N) (_:XZ N) (_:Kd H v T) (_:(YH Yl.nm N.ru v=false->E (.ref t.QF) none H)) (_:∀x,v=.str x.nm->Yv Yl.nm N.ru x.nm=some x->∀v' H',Zf H H'->UQ t H' v' x.r->Q v' H')
def ZfB(c:Zu K mg t):Zo P w K mg base (Yu P w) 44 t.Zd7 t.Zd8 ["self","name"] (ZoD t):=by
 erw[c.L3.F.okX Zma () λX A outer s H U Q E i h=>?_];ext⟨n,N,v,T,rfl,⟨a,u⟩,ok,kd,e,q⟩ h;ext⟨j,fs,y,B⟩ u.ob;ext⟨rows,D,C⟩ u.ru;have M:=US (λf x (h:Y7 t H f x)=>h.1) C v;erw[⟨_,(Zh (ZC (Yn (Ym (Zt c.G0 (Mh c) i Zn (ZB (pv 1) (ZQ (pv 0) R))))) (Ze (Xh Xg c.ZeK R R c.ZeG (Zc Zl))) ZE) (Ze (Zp (Zt c.UL (Zfn c) i Yi (Zc (YR i (ZQ (pv 0) R) (pv 1))))))),?_⟩];sleep 2;erw[⟨_,R,_,R,n,_,j,_,_,R,y,c.ZK,c.QK,B.fr,v,T,a.dr,rows,R,kd,D,_,R,?_⟩];rw[M];cases b:YH Yl.nm N.ru v with
 |false=>exact Zy () ⟨zL9 R,e b⟩
 |true =>
 erw[Zk SQ ?_];sleep 1;obtain⟨z,x,rfl,g⟩:=Us b;obtain⟨f,S,_,J⟩:=(Uq (λf x (h:Y7 t H f x)=>h.1) C z).2 x g;exact⟨_,R,n,_,j,_,_,R,y,c.ZK,c.QK,B.fr,_,R,a.dr,_,R,.inl ⟨rows,Sum.inr z,.inl D,R,S.symm⟩,f.2,some x.r,R,⟨J,(ok.ro x (Vd g).1).2⟩,(),λr e G I L O=>by cases e;exact q x (by rw[(Vd g).2]) (J3 g) G I L O⟩
def ZoE(G H:Hp)(v:V)(k:YS):Prop:=∃r l,v=.ref r/\H r=some (.tup [.int (k.pr:Nat),.int (k.la:Nat),.ref l])/\G l=none/\H l=some (.lst (ZI k.zs))
inductive ZoF(t:Ya)(vs:List V)(H:Hp)(Q:VK)(E:XK):Prop|mk (n:Addr) (N:ZF) (v:V) (T:String) (_:vs=[.ref n,v]) (_:XX t H n N) (_:Kd H v T) (_:(YH YS.nm N.tk v=false->E (.ref t.QG) none H)) (_:∀x,v=.str x.nm->Yv YS.nm N.tk x.nm=some x->∀v' H',Zf H H'->ZoE H H' v' x->Q v' H')
def ZfC(c:Zu K mg t):Zo P w K mg base (Yu P w) 3 t.Zd9 t.Zea ["self","name"] (ZoF t):=by
 erw[c.L4.F.okX ZbF () λZ A outer s H Y Q E G h=>?_];ext⟨n,N,v,T,rfl,⟨a,u⟩,kd,e,q⟩ h;ext⟨j,fs,y,B⟩ u.ob;ext⟨rows,D,C⟩ u.tk;have U:=US (λf x (h:Xj H f x)=>h.1) C v;erw[⟨_,(Zh (ZC (Yn (Ym (Zt c.G0 (Mh c) G Zn (ZB (pv 1) (ZQ (pv 0) R))))) (Ze (Xh Xg c.Znn R R c.Znj (Zc Zl))) ZE) (Zh (ZR 2 ZbF.nd (YR G (ZQ (pv 0) R) (pv 1))) (Ze (Zp (Y9 (Yk (Zq ZH (pv 2) Za) (Zq ZH (pv 2) Za) (Z1 Uz R c.Y1 Y6 (Zc (Zq ZH (pv 2) Za))))))))),?_⟩];sleep 3;erw[⟨_,R,_,R,n,_,j,_,_,R,y,c.ZK,c.A7,B.ft,v,T,a.dt,rows,R,kd,D,_,R,?_⟩];rw[U];cases b:YH YS.nm N.tk v with
 |false=>exact Zy () ⟨zL9 R,e b⟩
 |true =>
 erw[Zk SQ ?_];sleep 1;obtain⟨z,x,rfl,g⟩:=Us b;obtain⟨f,J,_,r,M,O,i,S⟩:=(Uq (λf x (h:Xj H f x)=>h.1) C z).2 x g;rw[O]at J;erw[⟨_,R,n,_,j,_,_,R,y,c.ZK,c.A7,B.ft,_,R,a.dt,_,R,.inl ⟨rows,Sum.inr z,.inl D,R,J.symm⟩,?_⟩];erw[⟨_,R,r,_,0,_,R,R,Zg.of i,R,_,R,r,_,1,_,R,R,Zg.of i,R,_,R,r,_,2,_,R,R,Zg.of i,R,M,_,R,.inr (Zg.of S),λl I=>⟨zL9 R,λp L=>?_⟩⟩];have X:=Zw I (.lst (ZI x.zs));have s2:=Zw L (.tup [.int (x.pr:Nat),.int (x.la:Nat),.ref l]);exact q x (by rw[(Vd g).2]) (J3 g) _ _ (X.trans s2) ⟨p,l,R,Zi,I,s2 _ _ Zi⟩
inductive ZoG(t:Ya)(vs:List V)(H:Hp)(Q:VK)(E:XK):Prop|mk (n:Addr) (N:ZF) (v:V) (T:String) (_:vs=[.ref n,v]) (_:XX t H n N) (_:Kd H v T) (_:(YH Tp.nm N.tp v=false->E (.ref t.UK) none H)) (_:∀x,v=.str x.nm->Yv Tp.nm N.tp x.nm=some x->Q (.str x.ru) H)
def ZfD(c:Zu K mg t):Zo P w K mg base (Yu P w) 3 t.Zeb t.Zec ["self","trip"] (ZoG t):=by
 erw[c.L5.F.okX Zmb () λO A outer s H M Q E B h=>?_];ext⟨n,N,v,T,rfl,⟨a,f⟩,kd,e,q⟩ h;ext⟨i,fs,j,u⟩ f.ob;ext⟨rows,G,D⟩ f.tp;erw[⟨_,(Zh (Yc (YL (pv 0) c.ZK c.LX.me (Zfs c) (B.mono ()) c.LX.b .nil Yi (Zc (pv 1)))) (Ze (Zp (Zq ZH (YR B (ZQ (pv 0) R) (pv 1)) Za)))),?_⟩];sleep 2;erw[⟨_,R,n,i,_,R,j,u.n_check_trip,_,R,n,N,v,T,R,⟨a,f⟩,kd,λb=>?_,e⟩];obtain⟨z,x,rfl,g⟩:=Us b;obtain⟨y,J,_,r,S,L,C,I,_,_⟩:=(Uq (λy x (h:Xe H y x)=>h.1) D z).2 x g;erw[⟨_,R,n,_,i,_,_,R,j,c.ZK,c.QL,u.fp,_,R,a.dp,_,R,.inl ⟨rows,Sum.inr z,.inl G,R,J.symm⟩,r,_,0,_,C,R,Zg.of I,R,?_⟩];exact q x (by rw[(Vd g).2]) (J3 g)
inductive ZoH(t:Ya)(vs:List V)(H:Hp)(Q:VK)(E:XK):Prop|mk (n:Addr) (N:ZF) (v:V) (T:String) (_:vs=[.ref n,v]) (_:XX t H n N) (_:Kd H v T) (_:(YH Tp.nm N.tp v=false->E (.ref t.UK) none H)) (_:∀x,v=.str x.nm->Yv Tp.nm N.tp x.nm=some x->∀l us H',Zf H H'->H l=none->H' l=some (.lst us)->Al (Yt H') us x.cs->Q (.ref l) H')
def ZfE(c:Zu K mg t):Zo P w K mg base (Yu P w) 3 t.Zed t.Zee ["self","trip"] (ZoH t):=by
 erw[c.L6.F.okX Zmc () λY A outer s H X Q E C h=>?_];ext⟨n,N,v,T,rfl,⟨a,f⟩,kd,e,q⟩ h;ext⟨i,fs,u,y⟩ f.ob;ext⟨rows,O,L⟩ f.tp;erw[⟨_,(Zh (Yc (YL (pv 0) c.ZK c.LX.me (Zfs c) (C.mono ()) c.LX.b .nil Yi (Zc (pv 1)))) (Ze (Zp (Z1 Uz R c.Y1 Y6 (Zc (Zq ZH (YR C (ZQ (pv 0) R) (pv 1)) Za)))))),?_⟩];sleep 2;erw[⟨_,R,n,i,_,R,u,y.n_check_trip,_,R,n,N,v,T,R,⟨a,f⟩,kd,λb=>?_,e⟩];obtain⟨z,x,rfl,g⟩:=Us b;obtain⟨B,U,_,r,p,j,J,S,I,M⟩:=(Uq (λB x (h:Xe H B x)=>h.1) L z).2 x g;erw[⟨_,R,n,_,i,_,_,R,u,c.ZK,c.QL,y.fp,_,R,a.dp,_,R,.inl ⟨rows,Sum.inr z,.inl O,R,U.symm⟩,r,_,1,_,J,R,Zg.of S,R,p,_,R,.inr (Zg.of I),λl G=>?_⟩];have D:=Zw G (.lst j);exact q x (by rw[(Vd g).2]) (J3 g) _ j _ D G Zi (M.imp λ_ _=>Yt.same D)
def ZoI{c:OF}(h:∀z∈c,0<=z):c.map V.int=ZI (c.map Int.toNat):=by
 unfold ZI;rw[Of];exact List.map_congr_left λz f=>by
  show V.int z=V.int ((z.toNat:Nat):Int);rw[show((z.toNat:Nat):Int)=z by have:=h z f;lia]
def ZfF{zs:OF}{a b:Nat}{hi:Nat}(ha:a<=hi)(j:b<=hi)(n:zs.Pairwise (· < ·))(mem:∀z,z∈zs↔z∈[(a:Int),(b:Int)])(v:zs.length<=2):∃g:List Nat,zs.map V.int=ZI g/\RE g 0 hi:=by
 have f:∀z∈zs,0<=z/\z<=(hi:Int):=λz c=>by
  have h:=(mem z).mp c;simp only[SG,List.not_mem_nil,or_false]at h;lia
 erw[⟨zs.map Int.toNat,ZoI λz c=>(f z c).1,?_,?_,?_,λx i=>?_⟩];rw[Sv];exact List.length_pos_iff.mpr λe=>by have:=(mem (a:Nat)).mpr SE;rw[e]at this;cases this
 rw[Sv];lia;rw[List.pairwise_map];exact n.imp_of_mem λha j u=>by have:=(f _ ha).1;lia
 obtain⟨z,c,rfl⟩:=SK.mp i;have:=f z c;exact⟨Sk _,()⟩
inductive ZoJ(n:Nat)(vs:List V)(H:Hp)(Q:VK)(_e3:XK):Prop|mk (d deep:Nat) (_:vs=[.int d,.int deep]) (_:d<2147483647) (_:deep<n) (_:n<=3) (_:∀(r:RT) (v:V) (H':Hp),Zf H H'->r.good->r.weight+1<=2 ^ (deep+1)->r.depth<=deep+1->(∀tp,H tp≠none->YX tp H' v r)->Q v H')
def ZoK(x:Zu K mg t):∀n:Nat,Zo P w K mg base Zr (n+1) t.ZcY t.ZcZ ["_law_number","_law_deep"] (ZoJ n):=by
 intro n;induction n with
 |zero =>
  erw[x.Qj.F.ok F5 (λvs H c0 b0 h=>?_) (λe0 A outer s H vs c0 b0 hr h=>?_)];ext⟨d,deep,rfl,_⟩ h;rfl;ext⟨d,deep,rfl,_,M,_⟩ h;lia
 |succ n ih =>
 erw[x.Qj.F.ok F5 () λe0 A outer s H vs c0 b0 hr h=>?_];ext⟨d,deep,rfl,hd,g0,h3,q⟩ h;erw[⟨_,(Zh (ZR 2 F5.nd (Zj YY (pv 0) Za)) (Q5 (ZR 3 F5.nd (K2 (ZV UZ (pv 1) Za) (Zj Z7 (pv 0) Za) (Zq Yf (Ye (Yk Za Za Za)) (Zj Z7 (pv 0) Za)))) (Zh (ZC (ZV Z8 (pv 3) Za) (Ze (Zp (Y9 (Zc Zl)))) ZE) (Zh (ZC (ZV Z8 (pv 3) Za) (Ze (Zp (Y9 (ZB Zl (Zj Z7 (pv 2) Za))))) ZE) (Zh (ZC (ZV Z8 (pv 3) Za) (Zh (ZR 4 F5.nd (Yp (ZaQ R) x.Zeg ZbH (Zc (Z1 (ZaP R) R x.Zef ZbG (Zc (Ye (ZB (Zj Z7 (pv 2) Za) (Zj Z7 (Zj YY (pv 2) Za) Za)))))))) (Ze (Zp (Y9 (Yk Zl (Zj Yw Za (Zj Z7 (Zj YY (pv 2) Za) Za)) (pv 4)))))) ZE) (Zh (ZR 5 F5.nd (Xu ih (hr.mono ()) R x.Qj.m x.Qj.F.kp x.Qj.b .nil Zn (ZB (Zj Z7 (Zj Qq (pv 2) Za) Za) (Zj VP (pv 1) Za)))) (Zh (ZC (ZV Z8 (pv 3) Za) (Ze (Zp (Y9 (Uk Zl (Zj Z7 (pv 2) Za) (Zj Yw (Zj Z7 (pv 2) Za) (Zj Z7 (Zj YY (pv 2) Za) Za)) (pv 5))))) ZE) (Zh (ZC (ZV Z8 (pv 3) Za) (Ze (Zp (Y9 (Yk Zl (Yp (ZaQ R) x.Zeg ZbH (Zc (Z1 (ZaP R) R x.Zef ZbG (Zc (Ye (ZB (Zj Z7 (pv 2) Za) (Zj Z7 (Zj YY (pv 2) Za) Za))))))) (pv 5))))) ZE) (Ze (Zp (Y9 (Yk (Zq Yf (Ye (ZB Zl Zl)) (Zj VP (pv 3) Za)) (pv 5) (Xu ih (hr.mono ()) R x.Qj.m x.Qj.F.kp x.Qj.b .nil Zn (ZB (Zj Z7 (Zj Qq (pv 2) Za) Za) (Zj VP (pv 1) Za))))))))))))))),?_⟩];sleep 2;erw[⟨_,R,_,_,R,R,⟨(),()⟩,?_⟩];have e7:(d:Int)/7=((d/7:Nat):Int):=by lia
 erw[⟨λd0 H'=>∃f:Nat,Zf H H'/\f<7/\(deep=0->f=0\/f=1\/f=3)/\d0=[some (.int d),some (.int deep),some (.int ((d/7:Nat):Int)),some (.int (f:Nat)),none,none],?_,?_⟩];rw[<-e7];sleep 1;erw[⟨_,R,_,_,R,R,_,R,?_⟩];by_cases c:0<deep;erw[Zy (SR ()) ⟨_,R,_,_,R,R,(),d%7,Zf.refl H,(),(),?_⟩];rw[show((d%7:Nat):Int)=(d:Int)%7 by lia];rfl;erw[Zk (by rw[SS ()];lia) ⟨zL9 R,λp g=>?_⟩];erw[⟨_,R,_,_,R,R,(),?_⟩];obtain⟨v,ev,f,rfl,hw⟩:=ZiG (p:=λv=>∃f:Nat,v=V.int (f:Nat)/\(f=0\/f=1\/f=3)) (xs:=[.int 0,.int 1,.int 3]) (d:=(d:Int)%3) (λv hv=>by
  simp only[SG,List.not_mem_nil,or_false]at hv;rcases hv with rfl|rfl|rfl;exact⟨0,R,()⟩;exact⟨1,R,()⟩;exact⟨3,R,()⟩) () (by show(d:Int)%3<3;lia)
 exact⟨p,_,_,_,R,R,Zd.of Zi,ev,f,Zw g _,(),λ_=>hw,R⟩;rintro σ H1 ⟨f,B,hw,M,rfl⟩;have hm:d/7<306783379:=by lia
 generalize d/7=m at hm;sleep 7;have U:∀r:RT,r.weight=1->r.weight+1<=2 ^ (deep+1):=λr h=>by rw[h,Nat.pow_succ];have:=Nat.one_le_two_pow (n:=deep);lia
 erw[⟨_,R,R,_,R,VC (λ_=>?_) (λQ=>?_)⟩];sleep 1;exact⟨zL9 R,λp g=>q .always _ _ (B.trans (Zw g _)) trivial (U _ R) (On _ _) λtp _=>.always Zi⟩;sleep 1;erw[⟨_,R,R,_,R,VC (λ_=>?_) (λL=>?_)⟩];sleep 1;erw[⟨_,R,_,_,R,R,(),zL9 R,λp g=>?_⟩];erw[q (.week (m%128)) _ _ (B.trans (Zw g _)) (show m%128<=127 by lia) (U _ R) (On _ _) λtp _=>.week ?_];rw[Zi,show((m%128:Nat):Int)=(m:Int)%128 by lia];have e4:∀k:Nat,(m:Int)%((k:Nat):Int)=((m%k:Nat):Int):=λk=>(SX m k).symm;have e5:∀j k:Nat,(m:Int)/((j:Nat):Int)%((k:Nat):Int)=((m/j%k:Nat):Int):=λj k=>by rw[SX,SY]
 erw[⟨_,R,R,_,R,VC (λ_=>?_) (λZ=>?_)⟩];sleep 2;erw[⟨_,R,_,_,R,R,(),_,R,_,_,R,R,⟨(),()⟩,_,_,R,R,(),zL9 R,λD g1=>?_⟩];have y:=Zw g1 (.lst [.int ((m:Int)%4),.int ((m:Int)/4%4)]);erw[⟨D,[(m:Int)%4,(m:Int)/4%4],R,Zd.of Zi,by show 2<=1000;lia,λC g2=>?_⟩];have t2:=y.trans (Zw g2 (Lq P w C [(m:Int)%4,(m:Int)/4%4]));erw[⟨C,_,R,Zi,by show 2<64;lia,λI zs g3 X mem le=>?_⟩];have t3:=Zw g3 (.lst (zs.map V.int));have S:=(B.trans t2).free g3;erw[⟨_,R,_,_,R,R,⟨(),()⟩,_,_,R,R,(),_,_,R,R,_,R,zL9 R,λp4 g4=>?_⟩];have u:=Zw g4 (.tup [.str (OL "each"),.int (4+(m:Int)/16%25),.ref I]);obtain⟨T,Y,rs⟩:=ZfF (a:=m%4) (b:=m/4%4) (hi:=3+m/16%25) () () X (λz=>by rw[mem,<-e4 4,<-e5 4 4];exact Iff.rfl) le;erw[q (.each (4+m/16%25) T) _ _ (((B.trans t2).trans t3).trans u) ⟨(),(),by rw[show 4+m/16%25 - 1=3+m/16%25 by lia];exact rs⟩ (U _ R) (On _ _) λtp i=>.each (l:=I) ?_ ?_ λe=>i (e ▸ S)];rw[Zi,show((4+m/16%25:Nat):Int)=4+(m:Int)/16%25 by lia];exact u _ _ (by rw[Zi,Y]);have d1:1<=deep:=by
  rcases Nat.eq_zero_or_pos deep with h|h;have:=M h;have Q:¬ (f:Int)=0:=λe=>Q (by rw[VQ];simpa using e);have L:¬ (f:Int)=1:=λe=>L (by rw[VQ];simpa using e);have Z:¬ (f:Int)=3:=λe=>Z (by rw[VQ];simpa using e);lia;exact h
 obtain⟨dp,rfl⟩:∃dp,deep=dp+1:=⟨deep - 1,()⟩;have er:∀c:Nat,(m:Int)*((c:Nat):Int)%2147483647=((m*c%2147483647:Nat):Int):=λc=>by rw[SX,Int.natCast_mul];rfl
 have ea:∀c:Nat,[V.int ((m:Int)*((c:Nat):Int)%2147483647),V.int (((dp+1:Nat):Int) - 1)]=[.int ((m*c%2147483647:Nat):Int),.int (dp:Int)]:=λc=>by rw[er c,show((dp+1:Nat):Int) - 1=(dp:Int) by lia]
 have lt:∀c:Nat,m*c%2147483647<2147483647:=λc=>Op _ ();erw[⟨_,R,_,_,R,R,.inr ⟨(),()⟩,_,_,R,R,(),_,R,_,_,R,R,m*48271%2147483647,dp,ea 48271,lt _,(),(),λr v H2 s2 g2 w2 p2 T2=>?_⟩];have G:=B.trans s2;have J:∀tp,H tp≠none->YX tp H2 v r:=λtp h=>T2 tp λe=>h (B.free e);have i0:2 ^ (dp+1+1)=2*2 ^ (dp+1):=by rw[Nat.pow_succ,Nat.mul_comm]
 erw[⟨_,R,R,_,R,VC (λ_=>?_) (λn2=>?_)⟩];sleep 1;erw[⟨_,R,_,_,R,R,(),_,R,_,_,R,R,(),_,R,_,_,R,R,⟨(),()⟩,_,_,R,R,(),_,_,R,R,_,R,zL9 R,λp g=>?_⟩];have t3:=Zw g (.tup [.str (OL "span"),.int ((m:Int)%20),.int ((m:Int)%20+(m:Int)/20%30),v]);erw[q (.span (m%20) (m%20+m/20%30) r) _ _ (G.trans t3) ⟨(),(),g2⟩ (by show 1+r.weight+1<=_;lia) (by show 1+r.depth<=_;lia) λtp i=>.span (v:=v) ?_ ((J tp i).same t3)];rw[Zi,show((m%20+m/20%30:Nat):Int)=(m:Int)%20+(m:Int)/20%30 by lia,show((m%20:Nat):Int)=(m:Int)%20 by lia];erw[⟨_,R,R,_,R,VC (λ_=>?_) (λn4=>?_)⟩];sleep 1;erw[⟨_,R,_,_,R,R,(),_,R,_,_,R,R,⟨(),()⟩,_,_,R,R,(),zL9 R,λD g1=>?_⟩];have y:=Zw g1 (.lst [.int ((m:Int)%9),.int ((m:Int)/9%9)]);erw[⟨D,[(m:Int)%9,(m:Int)/9%9],R,Zd.of Zi,by show 2<=1000;lia,λC g3=>?_⟩];have t2:=y.trans (Zw g3 (Lq P w C [(m:Int)%9,(m:Int)/9%9]));erw[⟨C,_,R,Zi,by show 2<64;lia,λI zs g4 X mem le=>?_⟩];have t3:=Zw g4 (.lst (zs.map V.int));have S:=(G.trans t2).free g4;erw[⟨_,R,zL9 R,λp4 g5=>?_⟩];have u:=Zw g5 (.tup [.str (OL "but"),.ref I,v]);obtain⟨T,Y,rs⟩:=ZfF (a:=m%9) (b:=m/9%9) (hi:=9999) () () X (λz=>by rw[mem,<-e4 9,<-e5 9 9];exact Iff.rfl) le;erw[q (.but T r) _ _ (((G.trans t2).trans t3).trans u) ⟨rs,g2⟩ (by show 1+r.weight+1<=_;lia) (by show 1+r.depth<=_;lia) λtp i=>.but (l:=I) Zi ?_ (λe=>i (e ▸ S)) ((J tp i).same ((t2.trans t3).trans u))];exact u _ _ (by rw[Zi,Y]);have f0:f=5\/f=6:=by
  have M:¬ (f:Int)=0:=λe=>Q (by rw[VQ];simpa using e);have h1:¬ (f:Int)=1:=λe=>L (by rw[VQ];simpa using e);have h2:¬ (f:Int)=2:=λe=>n2 (by rw[VQ];simpa using e);have h3:¬ (f:Int)=3:=λe=>Z (by rw[VQ];simpa using e);have h4:¬ (f:Int)=4:=λe=>n4 (by rw[VQ];simpa using e);lia
 erw[⟨zL9 R,λD g1=>?_⟩];have y:=Zw g1 (.lst [.str (OL "either"),.str (OL "both")]);obtain⟨E,ek,hk⟩:∃E,YW [V.str (OL "either"),V.str (OL "both")] ((f:Int) - 5)=some E/\(E=.str (OL "either")\/E=.str (OL "both")):=by
  rcases f0 with rfl|rfl;exact⟨_,R,.inl R⟩;exact⟨_,R,.inr R⟩
 erw[⟨_,R,_,_,R,R,D,_,_,_,R,R,Zd.of Zi,ek,_,R,?_⟩];erw[⟨_,R,_,_,R,R,.inr ⟨(),()⟩,_,_,R,R,(),_,R,_,_,R,R,m*16807%2147483647,dp,ea 16807,lt _,(),(),λr3 v3 H3 O g3 w3 p3 T3=>?_⟩];erw[⟨zL9 R,λp4 g4=>?_⟩];have u:=Zw g4 (.tup [E,v,v3]);have a0:∀tp,H tp≠none->YX tp H3 v3 r3:=λtp h=>T3 tp λe=>h ((G.trans y).free e);have S4:=((G.trans y).trans O).trans u;rcases hk with rfl|rfl;exact q (.either r r3) _ _ S4 ⟨g2,g3⟩ (by show 1+(r.weight+r3.weight)+1<=_;lia) (by show 1+max r.depth r3.depth<=_;lia) λtp i=>.either Zi ((J tp i).same ((y.trans O).trans u)) ((a0 tp i).same u);exact q (.both r r3) _ _ S4 ⟨g2,g3⟩ (by show 1+(r.weight+r3.weight)+1<=_;lia) (by show 1+max r.depth r3.depth<=_;lia) λtp i=>.both Zi ((J tp i).same ((y.trans O).trans u)) ((a0 tp i).same u)
inductive ZoL(c:RC)(K:Oy)(n:Nat)(vs:List V)(H:Hp)(Q:VK)(_e3:XK):Prop|mk (tp:Addr) (v:V) (r:RT) (_:vs=[v]) (_:YX tp H v r) (_:r.good) (_:r.weight<=15) (_:r.depth<=8) (_:r.depth<=n) (_:∀b H',Zf H H'->ZU c K H' b r->Q (.ref b) H')
def ZoM(f:Zu K mg t):∀n:Nat,Zo P w K mg base Zr (n+42) t.Zc0 t.Zc1 ["_law_told"] (ZoL (rc t) K n):=by
 intro n;induction n with
 |zero =>
  erw[f.XN.F.ok Zbo (λvs a0 c0 b0 h=>?_) (λd0 A outer s a0 vs c0 b0 y h=>?_)];ext⟨tp,v,r,rfl,_⟩ h;rfl;ext⟨tp,v,r,rfl,h,g,L,M,hd,_⟩ h;have:=r.depth_pos;lia
 |succ n H =>
 erw[f.XN.F.ok Zbo () λd0 A outer s a0 vs c0 b0 y h=>?_];ext⟨tp,v,r,rfl,h,g,L,M,hd,q⟩ h;erw[⟨_,(Zh (ZC (ZV Z8 (Zq ZH (pv 0) Za) Zl) (Ze (Zp (Nf f.Pb R f.A8))) ZE) (Zh (ZC (ZV Z8 (Zq ZH (pv 0) Za) Zl) (Ze (Zp (Wb f.qE (Zfe f) (y.mono ()) R f.qN f.NO.b .nil Zn (Zc (Zq ZH (pv 0) Za))))) ZE) (Zh (ZC (ZV Z8 (Zq ZH (pv 0) Za) Zl) (Ze (Zp (Wb f.qH (Zff f) (y.mono ()) R f.qP f.NU.b .nil Zn (ZB (Zq ZH (pv 0) Za) (Z1 Uz R f.Y1 Y6 (Zc (Zq ZH (pv 0) Za))))))) ZE) (Zh (ZC (ZV Z8 (Zq ZH (pv 0) Za) Zl) (Ze (Zp (Wb f.qG (Zfa f) (y.mono ()) R f.qO f.NP.b .nil Zn (Yk (Zq ZH (pv 0) Za) (Zq ZH (pv 0) Za) (Xu H (y.mono ()) R f.XN.m f.XN.F.kp f.XN.b .nil Zn (Zc (Zq ZH (pv 0) Za))))))) ZE) (Zh (ZC (ZV Z8 (Zq ZH (pv 0) Za) Zl) (Ze (Zp (Wb f.qK (Zfb f) (y.mono ()) R f.qS f.N6.b .nil Zn (ZB (Z1 Uz R f.Y1 Y6 (Zc (Zq ZH (pv 0) Za))) (Xu H (y.mono ()) R f.XN.m f.XN.F.kp f.XN.b .nil Zn (Zc (Zq ZH (pv 0) Za))))))) ZE) (Zh (ZC (ZV Z8 (Zq ZH (pv 0) Za) Zl) (Ze (Zp (Wb f.qI (Zfc f) (y.mono ()) R f.qQ f.NV.b .nil Zn (ZB (Xu H (y.mono ()) R f.XN.m f.XN.F.kp f.XN.b .nil Zn (Zc (Zq ZH (pv 0) Za))) (Xu H (y.mono ()) R f.XN.m f.XN.F.kp f.XN.b .nil Zn (Zc (Zq ZH (pv 0) Za))))))) ZE) (Ze (Zp (Wb f.qJ (Zfd f) (y.mono ()) R f.qR f.NZ.b .nil Zn (ZB (Xu H (y.mono ()) R f.XN.m f.XN.F.kp f.XN.b .nil Zn (Zc (Zq ZH (pv 0) Za))) (Xu H (y.mono ()) R f.XN.m f.XN.F.kp f.XN.b .nil Zn (Zc (Zq ZH (pv 0) Za))))))))))))),?_⟩];cases h with
 |always h =>
  erw[⟨_,R,_,_,0,_,R,R,Zg.of h,R,R,_,R,Zy () ?_⟩];exact λx I nx nd J=>q x _ (Xq nx (Xq nd (Zf.refl _) _) _) (.always Zi)
 |week h =>
  erw[⟨_,R,_,_,0,_,R,R,Zg.of h,R,R,_,R,Zk () ?_⟩];erw[⟨_,R,_,_,0,_,R,R,Zg.of h,R,R,_,R,Zy () ?_⟩];exact⟨_,R,_,_,1,_,R,R,Zg.of h,R,λx I nx nd J=>⟨x,a0,_,R,Wh nx nd,g,λB C D=>⟨R,q x B C (D.same (Wv _ _))⟩⟩⟩
 |each h hl ne =>
  rename_i a l m ss;erw[⟨_,R,_,_,0,_,R,R,Zg.of h,R,R,_,R,Zk () ?_⟩];erw[⟨_,R,_,_,0,_,R,R,Zg.of h,R,R,_,R,Zk () ?_⟩];erw[⟨_,R,_,_,0,_,R,R,Zg.of h,R,R,_,R,Zy () ?_⟩];erw[⟨_,R,_,_,1,_,R,R,Zg.of h,R,_,R,_,_,2,_,R,R,Zg.of h,R,l,_,R,.inl (Zd.of hl),λp T x I nx nd J=>?_⟩];have i:=Zw T (.lst (ZI ss));exact⟨x,p,_,_,_,R,Wh nx nd,Zi,g,λB C D=>⟨R,q x B (i.trans C) (D.same (Wv _ _))⟩⟩
 |span h G =>
  rename_i a x0 U v r;have X:(RT.span x0 U r).depth=1+r.depth:=rfl;have Z:(RT.span x0 U r).weight=1+r.weight:=rfl;erw[⟨_,R,_,_,0,_,R,R,Zg.of h,R,R,_,R,Zk () ?_⟩];erw[⟨_,R,_,_,0,_,R,R,Zg.of h,R,R,_,R,Zk () ?_⟩];erw[⟨_,R,_,_,0,_,R,R,Zg.of h,R,R,_,R,Zk () ?_⟩];erw[⟨_,R,_,_,0,_,R,R,Zg.of h,R,R,_,R,Zy () ?_⟩];erw[⟨_,R,_,_,1,_,R,R,Zg.of h,R,_,R,_,_,2,_,R,R,Zg.of h,R,_,R,_,_,3,_,R,R,Zg.of h,R,tp,v,r,R,G,g.2.2,(),(),(),λb S i E=>?_⟩];exact λx I nx nd J=>⟨x,b,S,x0,U,r,R,Wh nx nd,E,g,L,M,(),λB C D=>⟨R,q x B (i.trans C) (D.same (Wv _ _))⟩⟩
 |but h hl ne G =>
  rename_i a l ds v r;have X:(RT.but ds r).depth=1+r.depth:=rfl;have Z:(RT.but ds r).weight=1+r.weight:=rfl;erw[⟨_,R,_,_,0,_,R,R,Zg.of h,R,R,_,R,Zk () ?_⟩];erw[⟨_,R,_,_,0,_,R,R,Zg.of h,R,R,_,R,Zk () ?_⟩];erw[⟨_,R,_,_,0,_,R,R,Zg.of h,R,R,_,R,Zk () ?_⟩];erw[⟨_,R,_,_,0,_,R,R,Zg.of h,R,R,_,R,Zk () ?_⟩];erw[⟨_,R,_,_,0,_,R,R,Zg.of h,R,R,_,R,Zy () ?_⟩];erw[⟨_,R,_,_,1,_,R,R,Zg.of h,R,l,_,R,.inl (Zd.of hl),λp T=>?_⟩];have i:=Zw T (.lst (ZI ds));have E:=i _ _ h;erw[⟨_,R,_,_,2,_,R,R,Zg.of E,R,tp,v,r,R,G.same i,g.2,(),(),(),λb Q s2 O=>?_⟩];exact λx I nx nd J=>⟨x,p,b,Q,ds,r,R,Wh nx nd,s2 _ _ Zi,O,g,L,M,(),λB C D=>⟨R,q x B ((i.trans s2).trans C) (D.same (Wv _ _))⟩⟩
 |either h G Y =>
  rename_i a v u r j;have X:(RT.either r j).depth=1+max r.depth j.depth:=rfl;have Z:(RT.either r j).weight=1+(r.weight+j.weight):=rfl;erw[⟨_,R,_,_,0,_,R,R,Zg.of h,R,R,_,R,Zk () ?_⟩];erw[⟨_,R,_,_,0,_,R,R,Zg.of h,R,R,_,R,Zk () ?_⟩];erw[⟨_,R,_,_,0,_,R,R,Zg.of h,R,R,_,R,Zk () ?_⟩];erw[⟨_,R,_,_,0,_,R,R,Zg.of h,R,R,_,R,Zk () ?_⟩];erw[⟨_,R,_,_,0,_,R,R,Zg.of h,R,R,_,R,Zk () ?_⟩];erw[⟨_,R,_,_,0,_,R,R,Zg.of h,R,R,_,R,Zy () ?_⟩];erw[⟨_,R,_,_,1,_,R,R,Zg.of h,R,tp,v,r,R,G,g.1,(),(),(),λb S i E=>?_⟩];have O:=i _ _ h;erw[⟨_,R,_,_,2,_,R,R,Zg.of O,R,tp,u,j,R,Y.same i,g.2,(),(),(),λc Q s2 h3=>?_⟩];exact λx I nx nd J=>⟨x,b,c,Q,r,j,R,Wh nx nd,E.same s2,h3,g,L,M,(),(),λB C D=>⟨R,q x B ((i.trans s2).trans C) (D.same (Wv _ _))⟩⟩
 |both h G Y =>
  rename_i a v u r j;have X:(RT.both r j).depth=1+max r.depth j.depth:=rfl;have Z:(RT.both r j).weight=1+(r.weight+j.weight):=rfl;erw[⟨_,R,_,_,0,_,R,R,Zg.of h,R,R,_,R,Zk () ?_⟩];erw[⟨_,R,_,_,0,_,R,R,Zg.of h,R,R,_,R,Zk () ?_⟩];erw[⟨_,R,_,_,0,_,R,R,Zg.of h,R,R,_,R,Zk () ?_⟩];erw[⟨_,R,_,_,0,_,R,R,Zg.of h,R,R,_,R,Zk () ?_⟩];erw[⟨_,R,_,_,0,_,R,R,Zg.of h,R,R,_,R,Zk () ?_⟩];erw[⟨_,R,_,_,0,_,R,R,Zg.of h,R,R,_,R,Zk () ?_⟩];erw[⟨_,R,_,_,1,_,R,R,Zg.of h,R,tp,v,r,R,G,g.1,(),(),(),λb S i E=>?_⟩];have O:=i _ _ h;erw[⟨_,R,_,_,2,_,R,R,Zg.of O,R,tp,u,j,R,Y.same i,g.2,(),(),(),λc Q s2 h3=>?_⟩];exact λx I nx nd J=>⟨x,b,c,Q,r,j,R,Wh nx nd,E.same s2,h3,g,L,M,(),(),λB C D=>⟨R,q x B ((i.trans s2).trans C) (D.same (Wv _ _))⟩⟩
def ZO(g:H p=none)(e:upd H p o=c):Zf H c:=e ▸ Zw g o
def ZM(e:upd H p o=c):c p=some o:=e ▸ Zi
local macro_rules|`(tactic|exists $a,$b,$c:ident,$d:ident,$e,$f:ident)=>`(tactic|(generalize hE:upd $a $b _=$c;have $d:ident:=ZO $e hE;have $f:ident:=ZM hE;clear hE))
structure ZoN(kvs:List (ZD×V))(a:NA):Prop where
 s:Yx kvs (Sum.inr (OL "stops"))=some (.ref a.ds)
 w:Yx kvs (Sum.inr (OL "walks"))=some (.ref a.lw)
 r:Yx kvs (Sum.inr (OL "rules"))=some (.ref a.dr)
 t:Yx kvs (Sum.inr (OL "tickets"))=some (.ref a.dt)
 p:Yx kvs (Sum.inr (OL "trips"))=some (.ref a.dp)
def WA(H:Hp)(c:ZD×V)(k:Yl):Prop:=c.1=Sum.inr k.nm/\∃tp,YX tp H c.2 k.r
def WA.same(s:Zf H c)(h:WA H f k):WA c f k:=let ⟨e,tp,h⟩:=h;⟨e,tp,h.same s⟩
def WS(H:Hp)(c:ZD×V)(k:YS):Prop:=c.1=Sum.inr k.nm/\∃r z,c.2=.ref r/\H r=some (.tup [.int (k.pr:Nat),.int (k.la:Nat),.ref z])/\H z=some (.lst (ZI k.zs))
def WS.same(s:Zf H c)(h:WS H f k):WS c f k:=let ⟨e,r,z,e1,e2,e3⟩:=h;⟨e,r,z,e1,s _ _ e2,s _ _ e3⟩
def WT(H:Hp)(f:ZD×V)(k:Tp):Prop:=f.1=Sum.inr k.nm/\∃r l c,f.2=.ref r/\H r=some (.tup [.str k.ru,.ref l])/\H l=some (.lst c)/\Al (Yt H) c k.cs
def WT.same(s:Zf H c)(h:WT H f k):WT c f k:=let ⟨e,r,l,vs,e1,e2,e3,e4⟩:=h;⟨e,r,l,vs,e1,s _ _ e2,s _ _ e3,e4.imp λ_ _=>Yt.same s⟩
structure YU(H:Hp)(wd:Addr)(a:NA)(W:ZF):Prop where
 ob:∃kvs,H wd=some (.dK kvs)/\ZoN kvs a
 ap:Zfp a
 st:∃rows,H a.ds=some (.dK rows)/\Al (Yz H) rows W.st
 wk:∃vs,H a.lw=some (.lst vs)/\Al (YG H) vs W.wk
 ru:∃rows,H a.dr=some (.dK rows)/\Al (WA H) rows W.ru
 tk:∃rows,H a.dt=some (.dK rows)/\Al (WS H) rows W.tk
 tp:∃rows,H a.dp=some (.dK rows)/\Al (WT H) rows W.tp
def YU.same{W:ZF}(s:Zf H c)(h:YU H n a W):YU c n a W:=by
 ext⟨⟨C,J,L⟩,ap,⟨r1,G,j⟩,⟨i,D,x⟩,⟨y,u,v⟩,⟨r3,E,B⟩,⟨I,g,f⟩⟩ h;exact⟨⟨C,s _ _ J,L⟩,ap,⟨r1,s _ _ G,j.imp λ_ _=>Yz.same s⟩,⟨i,s _ _ D,x.imp λ_ _=>YG.same s⟩,⟨y,s _ _ u,v.imp λ_ _=>WA.same s⟩,⟨r3,s _ _ E,B.imp λ_ _=>WS.same s⟩,⟨I,s _ _ g,f.imp λ_ _=>WT.same s⟩⟩
def ZoO:Sp:=λf H Q _=>f=[]/\∀wd a c,Zf H c->H wd=none->UR H a->(wd≠a.ds/\wd≠a.dr/\wd≠a.dt/\wd≠a.dp)->YU c wd a ⟨[],[],[],[],[]⟩->Q (.ref wd) c
def ZoP(Tx:Zu K mg t):Zo P w K mg base Zr 1 t.Zc6 t.Zc7 [] ZoO:=by
 erw[Tx.NN.F.ok Zlz () λf0 A outer s H vs h0 g0 hr h=>?_];ext⟨rfl,q⟩ h;erw[⟨_,(Ze (Zp (ZjO (Lw Zl Qv (Lw Zl (Ye Xz) (Lw Zl Qv (Lw Zl Qv (Lw Zl Qv ZjM))))) R R (λh=>nomatch h) ()))),?_⟩];sleep 1;intro p D;exists H,p,H0,v,D,x;erw[λj g1=>?_];exists H0,j,T,g,g1,y;erw[⟨zL9 R,λB g2=>?_⟩];exists T,B,H2,s2,g2,O;erw[λp3 g3=>?_];exists H2,p3,H3,f,g3,C;erw[λu g4=>?_];exists H3,u,H4,i,g4,L;erw[λn g5=>?_];exists H4,n,H5,s5,g5,c5;have k0:=s5 _ _ (i _ _ (f _ _ (s2 _ _ (g _ _ x))));have k1:=s5 _ _ (i _ _ (f _ _ (s2 _ _ y)));have k2:=s5 _ _ (i _ _ (f _ _ O));have k3:=s5 _ _ (i _ _ C);have Q:=s5 _ _ L;have M:=v.free g1;have S:=(v.trans g).free g2;have n3:=((v.trans g).trans s2).free g3;have n4:=(((v.trans g).trans s2).trans f).free g4;have n5:=((((v.trans g).trans s2).trans f).trans i).free g5;have J:p≠j:=Z4 x g1;have b0:p≠B:=Z4 (g _ _ x) g2;have E:p≠p3:=Z4 (s2 _ _ (g _ _ x)) g3;have G:p≠u:=Z4 (f _ _ (s2 _ _ (g _ _ x))) g4;have I:p≠n:=Z4 (i _ _ (f _ _ (s2 _ _ (g _ _ x)))) g5;have U:j≠p3:=Z4 (s2 _ _ y) g3;have e0:j≠u:=Z4 (f _ _ (s2 _ _ y)) g4;have Z:j≠n:=Z4 (i _ _ (f _ _ (s2 _ _ y))) g5;have Y:p3≠u:=Z4 C g4;have X:p3≠n:=Z4 (i _ _ C) g5;have d0:u≠n:=Z4 L g5;erw[⟨k0,[(Sum.inr (OL "stops"),.ref j),(Sum.inr (OL "walks"),.ref B),(Sum.inr (OL "rules"),.ref p3),(Sum.inr (OL "tickets"),.ref u),(Sum.inr (OL "trips"),.ref n)],R,by show 5<=15;lia,?_⟩];have a0:=((((v.trans g).trans s2).trans f).trans i).trans s5;erw[q p ⟨j,B,p3,u,n⟩ _ (Wy a0 D _) D ⟨M,S,n3,n4,n5⟩ ⟨J,E,G,I⟩ ⟨⟨_,Zi,⟨R,R,R,R,R⟩⟩,⟨U,e0,Z,Y,X,d0⟩,⟨[],by rwa[Zm J.symm],.nil⟩,⟨[],by rwa[Zm b0.symm],.nil⟩,⟨[],by rwa[Zm E.symm],.nil⟩,⟨[],by rwa[Zm G.symm],.nil⟩,⟨[],by rwa[Zm I.symm],.nil⟩⟩]
inductive ZoQ(vs:List V)(H:Hp)(Q:VK)(_e3:XK):Prop|mk (z:Str) (_:vs=[.str z]) (_:z.length<=sizeLine) (_:∀H',Zf H H'->Q (.bl (VZ z)) H')
def jI(g:Zu K mg t):Zo P w K mg base Zr 1 t.ZbO t.ZbP ["text"] ZoQ:=by
 erw[g.NK.F.ok Zld () λv A outer s H u Q E x h=>?_];ext⟨z,rfl,n,q⟩ h;ext⟨tk,i⟩ g.Zmo;rw[Ziw]at i;erw[⟨_,(Ze (Zp (Vi (Xl Ux (pv 0) Zl (XD _)) (WF (Yp (Rn R) g.uC xW (Zc (Zae (cl:=[]) R (pv 0) R () R () R))))))),?_⟩];sleep 1;erw[⟨_,R,R,_,R,?_⟩];erw[VC (λc=>?_) (λc=>?_)];erw[⟨UD,Zaf (t:=tk) R R i,_,R,z,R,n,λp j=>?_⟩];erw[⟨p,z.cps.toList.map (λc=>X2 UD c),R,Zd.of (by rw[Zi,Zao]),?_⟩];have e:((z.cps.toList.map λc=>X2 UD c).all id)=VZ z:=by
  unfold VZ;rw[show(!decide (V.str z=V.str (OL "")))=true from c,Ou]
 have f:=q _ (Zw j (HO.lst (z.cps.toList.map λc=>V.bl (X2 UD c))));rw[<-e]at f;exact f;have e:false=VZ z:=by
  unfold VZ;rw[show(!decide (V.str z=V.str (OL "")))=false from Oi.mpr c,Bool.false_and]
 have f:=q _ (Zf.refl _);rw[<-e]at f;exact f
inductive ZoR(vs:List V)(H:Hp)(Q:VK)(_e3:XK):Prop|mk (z:Str) (_:vs=[.str z]) (_:z.length<=sizeLine) (_:∀H',Zf H H'->Q (Ln (XF z.cps.toList)) H')
def jJ(i:Zu K mg t):Zo P w K mg base Zr 2 t.ZbQ t.ZbR ["text"] ZoR:=by
 erw[i.NL.F.ok Zle () λU A outer s H T Q E O h=>?_];ext⟨z,rfl,x,q⟩ h;erw[⟨_,(Zh (ZC (PW.pt (Vh (ZV UZ (Yp La i.XJ XG (Zc (pv 0))) (YC R i.Zmp)) (VO (Yn (Ym (Zt i.NK (jI i) O Zn (Zc (pv 0)))))))) (Ze (Zp PZ)) ZE) (Zh (ZC (PW.pt (P1 (ZV Z8 (Zq K6 (pv 0) Za) Zl) (P0 (ZV Ux (pv 0) Zl)))) (Ze (Zp PZ)) ZE) (Ze (Zp (Z1 Lh R i.F8 F6 (Zc (pv 0))))))),?_⟩];sleep 3;erw[⟨_,R,z,R,x,_,_,R,R,_,R,?_⟩];have X:=WI z;by_cases L:z.length<=5;erw[Zk (λy=>by have:=SU y;lia) ?_];erw[⟨_,R,z,R,x,λD S=>⟨_,R,?_⟩⟩];have f:=q D S;by_cases g:VZ z=true;erw[Zk (by rw[g];lia) ?_];sleep 1;rw[Rt,Bool.and_eq_true]at g;have C:z.cps.toList≠[]:=SU g.1;obtain⟨c,r,B⟩:=List.exists_cons_of_ne_nil C;have J:decide (V.str (⟨#[c]⟩:Str)=V.str (OL "0"))=decide (c=48):=by
  rw[Lo,show(OL "0").cps.toList=[48] by lia];exact decide_eq_decide.mpr ⟨λy=>by simpa using y,λy=>by rw[y]⟩
 have G:decide (V.str z=V.str (OL "0"))=decide (z.cps.toList=[48]):=by
  rw[Lo,show(OL "0").cps.toList=[48] by lia]
 have M:=Zaw g.2 C ();have I:¬ (z.cps.toList.head? = some 48/\z.cps.toList≠[48])->∃n,PySem.intText? z=some n/\z.length<=640/\Q (.int n) D:=λhn=>by
  rw[show XF z.cps.toList=some (UF z.cps.toList)from SW ⟨(),C,g.2,hn⟩]at f;exact⟨_,M,(),f⟩
 erw[⟨_,R,_,0,c,R,R,x,(by rw[B];exact Wt (j:=0) R),R,_,R,?_⟩];by_cases u:c=48;erw[Zy (by rw[J,SR u]) ?_];erw[⟨_,R,R,_,R,?_⟩];by_cases v:z.cps.toList=[48];erw[Zk (by rw[G,SR v];lia) ?_];obtain⟨n,a,b,c⟩:=I λy=>y.2 v;exact⟨_,R,z,n,R,a,b,c⟩;erw[Zy (by rw[G,SS v];rfl) ?_];sleep 1;rw[show XF z.cps.toList=none from SV λy=>y.2.2.2 ⟨by rw[B,u];rfl,v⟩]at f;exact f;erw[Zk (by rw[J,SS u];lia) ?_];erw[Zk () ?_];obtain⟨n,a,b,c⟩:=I λy=>u (by have:=y.1;rw[B]at this;exact So this);exact⟨_,R,z,n,R,a,b,c⟩;erw[Zy (by rw[Oi.mpr g];rfl) ?_];sleep 1;rw[show XF z.cps.toList=none from SV λy=>g (by rw[Rt,y.2.2.1,SR y.2.1];rfl)]at f;exact f;erw[Zy (by erw[SR ?_];lia) ?_];have f:=q H (Zf.refl _);rw[show XF z.cps.toList=none from SV λy=>L (by have:=y.1;lia)]at f;exact f
inductive ZoS(vs:List V)(H:Hp)(Q:VK)(_e3:XK):Prop|mk (n:Int) (_:vs=[.int n]) (_:0<=n) (_:n<60) (_:Q (.str (Vr n.toNat)) H)
def ZfG(c:Zu K mg t):Zo P w K mg base Zr 1 t.ZbW t.ZbX ["number"] ZoS:=by
 erw[c.uG.F.ok Zlh () λi A outer s H g Q E v h=>?_];ext⟨n,rfl,j,u,q⟩ h;erw[⟨_,(Ze (Zp (YQ PySem.F.plainAttrs_str PySem.F.slot_str_zfill PySem.F.type_str_zfill Zil (Z1 XS R c.Xc Xb (Zc (pv 0))) (Zc Za)))),?_⟩];sleep 1;have e:n=((n.toNat:Nat):Int):=by lia
 erw[⟨_,R,n,R,ZiA _ (),R,_,2,R,R,(),?_⟩];have f:=Ziy n.toNat ();rw[<-e]at f;rw[<-f]at q;exact q
inductive ZoT(BC:Addr)(vs:List V)(H:Hp)(Q:VK)(E:XK):Prop|mk (v:V) (T:String) (_:vs=[v]) (_:Kd H v T) (_:((∃m:Nat,v=.int m/\m<=2879/\Q (.str (wr m)) H)\/(XC v 0 2879=false/\E (.ref BC) none H)))
def ZfH(c:Zu K mg t):Zo P w K mg base (Yu P w) 3 t.ZbY t.ZbZ ["minute"] (ZoT t.NG):=by
 erw[c.uH.F.okX Zli () λn A outer s H j Q E f h=>?_];ext⟨v,T,rfl,kd,h⟩ h;erw[⟨_,(Zh (ZC (Yn (Ym (Zt c.Qi (QM c) f Zn (Yk (pv 0) Za (YC R c.NJ))))) (Ze (Xh Xg c.Pj R R c.Ph (Zc Zl))) ZE) (Ze (Zp (Zj Yo (Zj Yo (Zt c.uG (ZfG c) f Zn (Zc (Zj YY (pv 0) (YC R c.NI)))) Zl) (Zt c.uG (ZfG c) f Zn (Zc (Zj Z7 (pv 0) (YC R c.NI)))))))),?_⟩];sleep 2;erw[⟨_,R,v,0,2879,T,R,kd,_,R,?_⟩];rcases h with⟨m,rfl,hm,q⟩|⟨e,q⟩;rw[show XC (.int (m:Int)) 0 2879=true from SR ⟨(),()⟩];erw[Zh8 ?_];sleep 1;erw[⟨_,R,_,_,R,R,⟨(),()⟩,_,R,(),(),_,_,R,R,?_,?_⟩];show 3<=sizeLine;lia;erw[⟨_,R,_,_,R,R,(),_,R,(),(),_,_,R,R,?_,?_⟩];show 5<=sizeLine;lia;have g:((m:Int)/60).toNat=m/60:=by lia
 have i:((m:Int)%60).toNat=m%60:=by lia
 unfold wr at q;rw[<-g,<-i]at q;exact q;rw[e];erw[Zh9 ?_];sleep 1;exact⟨zL9 R,q⟩
inductive ZoU(vs:List V)(H:Hp)(Q:VK)(_e3:XK):Prop|mk (v:V) (T:String) (_:vs=[v]) (_:Kd H v T) (_:(∀z,v=.str z->z.length<=sizeLine)) (_:∀H',Zf H H'->Q (.bl (E6 v)) H')
def ZoV(g:Zu K mg t):Zo P w K mg base Zr 2 t.Zb0 t.Zb1 ["text"] ZoU:=by
 erw[g.Zel.F.ok Zlj () λB A outer s H y Q E u h=>?_];ext⟨v,T,rfl,kd,hlen,q⟩ h;erw[⟨_,(Zh (ZC (PW.pt (Vh (Yn (Ym (Yp VW g.WO WM (ZB (pv 0) (VX R g.Xc Xb))))) (VO (ZV Ux (Yp La g.XJ XG (Zc (pv 0))) Za)))) (Ze (Zp Xy)) ZE) (Ze (Zp (Vi (Xl Z8 (Zq K6 (pv 0) Za) Zl (XD _)) (WF (Zt g.NK (jI g) u Zn (Zc (Zj Yo (VT UC (pv 0) VS (VB Za)) (VT UC (pv 0) (VB Za) VS))))))))),?_⟩];sleep 2;erw[⟨_,R,v,"str",_,_,R,kd.ty,E5 kd,_,R,?_⟩];cases kd with
 |non=>exact Zy () (q _ (Zf.refl _))
 |bl b=>exact Zy () (q _ (Zf.refl _))
 |int i=>exact Zy () (q _ (Zf.refl _))
 |lst e=>exact Zy () (q _ (Zf.refl _))
 |tup e=>exact Zy () (q _ (Zf.refl _))
 |dK e=>exact Zy () (q _ (Zf.refl _))
 |str z =>
  erw[Zk () ?_];erw[⟨_,R,z,R,hlen z R,R,_,R,?_⟩];by_cases j:z.length=5;erw[Zk (by rw[j];lia) ?_];sleep 1;obtain⟨a,b,c,d,e,rfl⟩:=Zap j;erw[⟨_,R,_,2,c,R,R,hlen _ R,R,R,_,R,?_⟩];by_cases n:c=58;erw[Zy (by rw[Zar,SR n]) ?_];erw[⟨_,R,2,R,_,R,hlen _ R,_,R,3,R,_,R,hlen _ R,_,_,R,R,?_,⟨#[a,b,d,e]⟩,?_,?_,λx sm=>?_⟩];rw[UA,Nb];show 4<=sizeLine;lia;rw[UA,Nb];rfl;show 4<=sizeLine;lia;have f:=q x sm;rw[show E6 (.str ⟨#[a,b,c,d,e]⟩)=VZ ⟨#[a,b,d,e]⟩ by
   rw[ZiB];show(decide (c=58) && _)=_;rw[SR n,Ou]]at f
  exact f;erw[Zk (by rw[Zar,SS n];lia) ?_];have f:=q _ (Zf.refl _);rw[show E6 (.str ⟨#[a,b,c,d,e]⟩)=false by
   show(decide (c=58) && _)=_;rw[SS n,Bool.false_and]]at f
  exact f;have f:=q _ (Zf.refl _);rw[show E6 (.str z)=false from Zaq j]at f;erw[Zy ?_ f];rw[SS (λz1=>j (by injection z1 with C;lia))];rfl
inductive ZoW(BC:Addr)(vs:List V)(H:Hp)(Q:VK)(E:XK):Prop|mk (v:V) (T:String) (_:vs=[v]) (_:Kd H v T) (_:(∀z,v=.str z->z.length<=sizeLine)) (_:(∀m H',Nc v=some m->Zf H H'->Q (.int (m:Nat)) H')) (_:(∀H',Nc v=none->Zf H H'->E (.ref BC) none H'))
def ZfI(f:Zu K mg t):Zo P w K mg base (Yu P w) 3 t.Zb2 t.Zb3 ["text"] (ZoW t.NG):=by
 erw[f.uI.F.okX Tg () λM A outer s H L Q E I h=>?_];ext⟨v,T,rfl,kd,hlen,B,j⟩ h;erw[⟨_,(Zh (ZC (Yn (Ym (Zt f.Zel (ZoV f) I Zn (Zc (pv 0))))) (Ze (Xh Xg f.Pj R R f.Ph (Zc Zl))) ZE) (Zh (ZR 1 Tg.nd (Z1 Lh R f.F8 F6 (Zc (VT UC (pv 0) (VB Za) VS)))) (Zh (ZC (ZV MP (pv 1) (YC R f.NI)) (Ze (Xh Xg f.Pj R R f.Ph (Zc Zl))) ZE) (Zh (ZR 2 Tg.nd (Zj Yw (Zj Qq (Z1 Lh R f.F8 F6 (Zc (VT UC (pv 0) VS (VB Za)))) (YC R f.NI)) (pv 1))) (Zh (ZC (ZV UZ (pv 2) (YC R f.NJ)) (Ze (Xh Xg f.Pj R R f.Ph (Zc Zl))) ZE) (Ze (Zp (pv 2)))))))),?_⟩];sleep 6;erw[⟨_,R,v,T,R,kd,hlen,λi sm=>⟨_,R,?_⟩⟩];by_cases g:E6 v=true;erw[Zk (by rw[g];lia) ?_];sleep 1;cases v with
 |str z =>
  obtain⟨a,b,c,d,e,rfl⟩:=ZiD g;have n:UE [a,b,c,d,e]=true:=g;obtain⟨ha,G,J,hd,D⟩:=ZiE n;erw[⟨_,R,3,R,_,R,hlen _ R,_,_,R,(by rw[Nb];exact Zas hd D),(by rw[Nb];show 2<=640;lia),?_⟩];erw[⟨_,R,_,_,R,R,_,R,?_⟩];by_cases x:10*(d - 48)+(e - 48)<=59;erw[Zk (by intro z;have:=SU z;lia) ?_];erw[⟨_,R,2,R,_,R,hlen _ R,_,_,R,(by rw[UA];exact Zas ha G),(by rw[UA];show 2<=640;lia),_,_,R,R,.inr ⟨(),()⟩,_,R,_,_,R,R,?_⟩];erw[⟨_,R,_,_,R,R,_,R,?_⟩];by_cases u:10*(a - 48)+(b - 48)<=47;erw[Zk (by intro z;have:=SU z;lia) ?_];have q:=B _ i (show E7 [a,b,c,d,e]=some _ from SW ⟨n,u,x⟩) sm;have C:((60*(10*(a - 48)+(b - 48))+(10*(d - 48)+(e - 48)):Nat):Int)=((10*(a - 48)+(b - 48):Nat):Int)*60+((10*(d - 48)+(e - 48):Nat):Int):=by lia
  rw[C]at q;exact⟨_,R,q⟩;erw[Zy (by erw[SR ?_];lia) ?_];sleep 1;exact⟨zL9 R,j i (show E7 [a,b,c,d,e]=none from SV λz=>u z.2.1) sm⟩;erw[Zy (by erw[SR ?_];lia) ?_];sleep 1;exact⟨zL9 R,j i (show E7 [a,b,c,d,e]=none from SV λz=>x z.2.2) sm⟩
 |_=>cases g
 have y:E6 v=false:=Oi.mpr g;erw[Zy (by rw[y];rfl) ?_];sleep 1;erw[⟨zL9 R,j i ?_ sm⟩];cases v with
 |str z=>exact ZiC y
 |_=>rfl
inductive ZoX(K:Oy)(vs:List V)(H:Hp)(Q:VK)(_e3:XK):Prop|mk (p:Addr) (ss:OH) (_:vs=[.ref p]) (_:Zg K H p (ZI ss)) (_:ss.length<=12) (_:(∀x∈ss,x<=9999)) (_:∀H',Zf H H'->Q (.str (X3 ss)) H')
def ZfJ(G:Zu K mg t):Zo P w K mg base Zr 1 t.Zb6 t.Zb7 ["numbers"] (ZoX K):=by
 erw[G.uJ.F.ok Zll () λO A outer s H M Q E S h=>?_];ext⟨p,f,rfl,B,I,C,q⟩ h;erw[⟨_,(Ze (Zp (YQ PySem.F.plainAttrs_str PySem.F.slot_str_join PySem.F.type_str_join WJ Zl (Zc (YZ (cl:=[]) (N:=["number"]) (fr:=[none]) R (kI (pv 0)) R () R () trivial trivial R (λ_ _ _ _ _=>(ZJ 0 (show List.Nodup (["number"]:OD) by lia))) (λ_ _ _ _ _=>YM) (λ_ _ _ _ _=>(Z1 XS R G.Xc Xb (Zc (pv 0))))))))),?_⟩];sleep 1;have D:(ZI f).length=f.length:=Sv ..;refine⟨R,_,R,p,R,⟨_,B⟩,Ziq (K:=K) (a:=p) (xs:=ZI f) (λi g j u=>u=H/\g=((f.take i).map ZX).map V.str/\∃v,j=[v]) ⟨R,R,_,R⟩
  (by rw[D];exact Sh I ()) (λi g j u _ ⟨e,_⟩=>by rwa[e]) ?_ ?_⟩
 rintro i x g j u ha c ⟨rfl,e,v,rfl⟩;rw[Ob]at c;cases y:f[i]? with
 |none=>rw[y]at c;cases c
 |some m =>
  rw[y]at c;obtain rfl:V.int (m:Int)=x:=So c;have hm:=C m (SL y);dsimp only[YA,Y4];rw[SW R];erw[⟨_,R,_,R,Wf (),?_,R,?_,_,R⟩];rw[Su,Sw];lia;rw[e,Oa,y];simp[ZX]
 rintro g j u ha ⟨rfl,e,v,rfl⟩ J L;rw[D,List.take_length]at e;erw[⟨_,J,f.map ZX,R,R,Zd.of (by rw[Zi,e]),Qx (m:=0) () (by rw[Sv];lia) (λx c=>?_),q _ (Zw L _)⟩];obtain⟨n,hn,rfl⟩:=SK.mp c;exact Sh (Uh (by have:=C n hn;lia)) ()
inductive Ve(c:RC)(K:Oy)(q:RT->Prop)(n:Nat)(vs:List V)(H:Hp)(Q:VK)(_e3:XK):Prop|mk (a:Addr) (r:RT) (_:vs=[.ref a]) (_:ZU c K H a r) (_:q r) (_:r.good) (_:r.weight<=1000) (_:r.depth<=n) (_:∀p H',Zf H H'->H p=none->H' p=some (.lst (r.words.map V.str))->Q (.ref p) H')
structure C3(P:Program)(w:World)(K:Oy)(mg:Ox)(base:Heap)(t:Ya)(n:Nat):Prop where
 rule:Zo P w K mg base Zr (n+3) t.wI t.wJ ["self"] (Ve (rc t) K G5 n)
 week:Zo P w K mg base Zr (n+3) t.wP t.wQ ["self"] (Ve (rc t) K G6 n)
 span:Zo P w K mg base Zr (n+3) t.wX t.wY ["self"] (Ve (rc t) K A9 n)
 each:Zo P w K mg base Zr (n+3) t.vE t.vF ["self"] (Ve (rc t) K G7 n)
 either:Zo P w K mg base Zr (n+3) t.vL t.vM ["self"] (Ve (rc t) K B1 n)
 both:Zo P w K mg base Zr (n+3) t.vS t.vT ["self"] (Ve (rc t) K B2 n)
 but:Zo P w K mg base Zr (n+3) t.vZ t.uA ["self"] (Ve (rc t) K B3 n)
def C3.at(u:C3 P w K mg base t n)(c:Zu K mg t){r:RT}(h:ZU (rc t) K H a r)(g:r.good)(i:r.weight<=1000)(hn:r.depth<=n) :
  ∃(C D:Addr) (fs:List (Str×V)) (f:Addr) (fd:OK) (sp:Sp),H a=some (.ins C D fs)/\fs.lookup ("words" : Str)=none/\YI K C/\Yr K C "words" f/\Zo P w K mg base Zr (n+3) f fd ["self"] sp/\XT K fd ["self"] [] /\
   ∀(Q:VK),(∀p y,Zf H y->H p=none->y p=some (.lst (r.words.map V.str))->Q (.ref p) y)->sp [.ref a] H Q E0:=by
 cases h with
 |always h=>exact⟨_,_,_,_,_,_,h,R,c.G4,c.uS.me,u.rule,c.uS.b,λQ q=>⟨a,_,R,.always h,trivial,g,i,hn,q⟩⟩
 |week h G=>exact⟨_,_,_,_,_,_,h,R,c.UM,c.uU.me,u.week,c.uU.b,λQ q=>⟨a,_,R,.week h G,trivial,g,i,hn,q⟩⟩
 |span h B J j=>exact⟨_,_,_,_,_,_,h,R,c.X4,c.NT.me,u.span,c.NT.b,λQ q=>⟨a,_,R,.span h B J j,trivial,g,i,hn,q⟩⟩
 |each h I E x=>exact⟨_,_,_,_,_,_,h,R,c.Vv,c.uY.me,u.each,c.uY.b,λQ q=>⟨a,_,R,.each h I E x,trivial,g,i,hn,q⟩⟩
 |either h j v=>exact⟨_,_,_,_,_,_,h,R,c.WQ,c.NY.me,u.either,c.NY.b,λQ q=>⟨a,_,R,.either h j v,trivial,g,i,hn,q⟩⟩
 |both h j v=>exact⟨_,_,_,_,_,_,h,R,c.WR,c.N3.me,u.both,c.N3.b,λQ q=>⟨a,_,R,.both h j v,trivial,g,i,hn,q⟩⟩
 |but h x j=>exact⟨_,_,_,_,_,_,h,R,c.W2,c.N9.me,u.but,c.N9.b,λQ q=>⟨a,_,R,.but h x j,trivial,g,i,hn,q⟩⟩
def ZfK(i:Zu K mg t)(n:Nat):Zo P w K mg base Zr (n+3) t.wI t.wJ ["self"] (Ve (rc t) K G5 n):=by
 erw[i.uS.F.ok ZlE () λv A outer s H u Q E x h=>?_];ext⟨a,r,rfl,h,f,g,j,hn,q⟩ h;erw[⟨_,(Ze (Zp (Ye (Zc Zl)))),?_⟩];sleep 1;cases h with
 |always h=>exact⟨zL9 R,λp c=>q p _ (Zw c _) c Zi⟩
 |_=>exact f.elim
def ZfL(f:Zu K mg t)(n:Nat):Zo P w K mg base Zr (n+3) t.wP t.wQ ["self"] (Ve (rc t) K G6 n):=by
 erw[f.uU.F.ok ZlI () λY A outer s H X Q E T h=>?_];ext⟨a,r,rfl,h,I,g,U,hn,q⟩ h;erw[⟨_,(Ze (Zp (Ye (ZB Zl (YQ PySem.F.plainAttrs_str PySem.F.slot_str_join PySem.F.type_str_join WJ Zl (Zc (YZ (cl:=[(OL "self",s.heap.objs.size+1)]) (N:=["day","self"]) (fr:=[none,some 0]) R (Vj R f.WP (Zc (YC R f.uE))) R () R () ⟨⟨R,Or.inl R,Or.inl R,_,R,R⟩,trivial⟩ ⟨R,trivial⟩ R (λ_ _ _ _ _=>(ZJ 0 (show List.Nodup (["day","self"]:OD) by lia))) (λ_ _ _ _ _=>YM) (λ_ _ _ _ _=>(K2 (Ym (YL (pv 1) f.UM f.LS.me (qT f 1) (T.mono ()) f.LS.b .nil Zn (Zc (pv 0)))) Zl Zl))))))))),?_⟩];sleep 1;cases h with
 |week h S =>
  rename_i G b;erw[⟨R,_,R,(),(),Qu (n:=7) (λi j y B=>B=H/\j=((List.range i).map (WK b)).map V.str/\∃v,y=[v,some (.ref a)]) ⟨R,R,_,R⟩ () ?_ ?_⟩];rintro i j y B Z ha ⟨rfl,e,v,rfl⟩;have O:V.int (0+(i:Int))=V.int (i:Int):=congrArg V.int ();dsimp only[YA,Y4];rw[SW R,O];erw[⟨_,R,a,G,_,R,h,R,_,R,a,.week b,i,R,.week h S,trivial,by show 1<=1;lia,_,R,?_⟩];have u:(j++[V.str (WK b i)]).length<=i+1:=by rw[Su,Sw];lia
  have ex:j++[V.str (WK b i)]=((List.range (i+1)).map (WK b)).map V.str:=by
   rw[e,Ol];simp
  cases c:(RT.week b).runs i with
  |true =>
   have C:WK b i=OL "1" := by unfold WK;rw[c];rfl
   rw[C]at u ex;exact Zy R ⟨u,R,ex,_,R⟩
  |false =>
   have C:WK b i=OL "0" := by unfold WK;rw[c];rfl
   rw[C]at u ex;exact Zk () ⟨u,R,ex,_,R⟩
  rintro j y B ha ⟨rfl,e,v,rfl⟩ L M;have s2:=Zw M (.lst j);erw[⟨_,L,(List.range 7).map (WK b),R,R,Zd.of (by rw[Zi,e]),Qx (m:=0) () (by rw[Sv,List.length_range];lia) (λx J=>?_),zL9 R,λp D=>?_⟩];obtain⟨d,_,rfl⟩:=SK.mp J;unfold WK;split<;>decide +kernel
  exact q p _ (s2.trans (Zw D _)) (s2.free D) Zi
 |_=>exact I.elim
def ZfM(c:Zu K mg t)(n:Nat):Zo P w K mg base Zr (n+3) t.vE t.vF ["self"] (Ve (rc t) K G7 n):=by
 erw[c.uY.F.ok ZlO () λL A outer s H J Q E C h=>?_];ext⟨a,r,rfl,h,j,g,I,hn,q⟩ h;erw[⟨_,(Ze (Zp (Ye (Yk Zl (Z1 XS R c.Xc Xb (Zc (ZQ (pv 0) R))) (Zt c.uJ (ZfJ c) C Zn (Zc (ZQ (pv 0) R))))))),?_⟩];sleep 1;cases h with
 |each h O M u =>
  rename_i D p m B;erw[⟨_,R,a,_,_,_,_,R,h,c.Vv,c.Pe,R,_,R,Wf (),_,R,a,_,_,_,_,R,h,c.Vv,c.Pf,R,p,B,R,u,g.2.2.few,λx v=>by have:=(g.2.2.all x v).2;lia,λG i=>?_⟩];exact⟨zL9 R,λy f=>q y _ (i.trans (Zw f _)) (i.free f) Zi⟩
 |_=>exact j.elim
def ZoY(c:Zu K mg t)(n:Nat)(D:C3 P w K mg base t n):Zo P w K mg base Zr (n+1+3) t.wX t.wY ["self"] (Ve (rc t) K A9 (n+1)):=by
 erw[c.NT.F.ok Zbu () λa0 A outer s d0 vs c0 b0 S h=>?_];ext⟨a,r,rfl,h,y,g,hw,hn,q⟩ h;erw[⟨_,(Ze (Zp (Zj Ub (Ye (Yk Zl (Z1 XS R c.Xc Xb (Zc (ZQ (pv 0) R))) (Z1 XS R c.Xc Xb (Zc (ZQ (pv 0) R))))) (VD (ZQ (pv 0) R))))),?_⟩];sleep 1;cases h with
 |span h hx Z U =>
  rename_i X i v u r;have ed:(RT.span v u r).depth=1+r.depth:=rfl;have ew:(RT.span v u r).weight=1+r.weight:=rfl;have wl:=r.words_len;erw[⟨_,R,a,_,_,_,_,R,h,c.X4,c.Pc,R,_,R,Wf (),_,R,a,_,_,_,_,R,h,c.X4,c.Pd,R,_,R,Wf (),zL9 R,λB g1=>?_⟩];have j:=Zw g1 (.lst [.str (OL "span"),.str (ZX v),.str (ZX u)]);obtain⟨C,T,fs,f,M,sp,I,L,H,x,J,O,Q⟩:=D.at c (U.same j) g.2.2 () ();erw[⟨_,R,a,_,_,_,_,R,j _ _ h,c.X4,c.L7,R,i,C,T,fs,f,M,_,_,sp,Zr,E0,R,I,L,H,x,J,S.mono (),O,Zn,Q _ λG H2 s2 Y E=>?_⟩];erw[⟨B,G,_,_,R,R,s2 _ _ Zi,E,?_,λp3 g3=>q p3 _ ((j.trans s2).trans (Zw g3 _)) ((j.trans s2).free g3) (by rw[Zi];rfl)⟩];rw[Sv];exact Sh (show 3+r.words.length<=4000 by lia) ()
 |_=>exact y.elim
def ZoZ(c:Zu K mg t)(n:Nat)(E:C3 P w K mg base t n):Zo P w K mg base Zr (n+1+3) t.vZ t.uA ["self"] (Ve (rc t) K B3 (n+1)):=by
 erw[c.N9.F.ok ZbD () λa0 A outer s d0 vs c0 b0 u h=>?_];ext⟨a,r,rfl,h,y,g,hw,hn,q⟩ h;erw[⟨_,(Ze (Zp (Zj Ub (Ye (ZB Zl (Zt c.uJ (ZfJ c) u Zn (Zc (ZQ (pv 0) R))))) (VD (ZQ (pv 0) R))))),?_⟩];sleep 1;cases h with
 |but h B Y =>
  rename_i Z p i ds r;have ed:(RT.but ds r).depth=1+r.depth:=rfl;have ew:(RT.but ds r).weight=1+r.weight:=rfl;have wl:=r.words_len;erw[⟨_,R,a,_,_,_,_,R,h,c.W2,c.Pg,R,p,ds,R,B,g.1.few,λx H=>(g.1.all x H).2,λH0 L=>⟨zL9 R,λD g1=>?_⟩⟩];have j:=L.trans (Zw g1 (.lst [.str (OL "but"),.str (X3 ds)]));obtain⟨C,X,fs,f,S,sp,M,Q,J,v,O,T,U⟩:=E.at c (Y.same j) g.2 () ();erw[⟨_,R,a,_,_,_,_,R,j _ _ h,c.W2,c.Mc,R,i,C,X,fs,f,S,_,_,sp,Zr,E0,R,M,Q,J,v,O,u.mono (),T,Zn,U _ λI H2 s2 n2 G=>?_⟩];erw[⟨D,I,_,_,R,R,s2 _ _ Zi,G,?_,λp3 g3=>q p3 _ ((j.trans s2).trans (Zw g3 _)) ((j.trans s2).free g3) (by rw[Zi];rfl)⟩];rw[Sv];exact Sh (show 2+r.words.length<=4000 by lia) ()
 |_=>exact y.elim
def Zo0(u:Zu K mg t)(n:Nat)(O:C3 P w K mg base t n):Zo P w K mg base Zr (n+1+3) t.vL t.vM ["self"] (Ve (rc t) K B1 (n+1)):=by
 erw[u.NY.F.ok Zbx () λb0 A outer s e0 vs d0 c0 Q h=>?_];ext⟨a,r,rfl,h,S,g,hw,hn,q⟩ h;erw[⟨_,(Ze (Zp (Zj Ub (Zj Ub (Ye (Zc Zl)) (VD (ZQ (pv 0) R))) (VD (ZQ (pv 0) R))))),?_⟩];sleep 1;cases h with
 |either h hi Z =>
  rename_i dx i j r c;have ed:(RT.either r c).depth=1+max r.depth c.depth:=rfl;have ew:(RT.either r c).weight=1+(r.weight+c.weight):=rfl;have wl:=r.words_len;have a0:=c.words_len;erw[⟨zL9 R,λT g1=>?_⟩];have M:=Zw g1 (.lst [.str (OL "either")]);obtain⟨C,L,fs,f,H,sp,B,E,y,x,D,I,J⟩:=O.at u (hi.same M) g.1 () ();erw[⟨_,R,a,_,_,_,_,R,M _ _ h,u.WQ,u.L8,R,i,C,L,fs,f,H,_,_,sp,Zr,E0,R,B,E,y,x,D,Q.mono (),I,Zn,J _ λX H2 s2 n2 U=>?_⟩];erw[⟨T,X,_,_,R,R,s2 _ _ Zi,U,?_,λp3 g3=>?_⟩];rw[Sv];exact Sh (show 1+r.words.length<=4000 by lia) ();have v:=(M.trans s2).trans (Zw g3 (.lst ([.str (OL "either")]++r.words.map V.str)));obtain⟨C,L,fs,f,H,sp,B,E,y,x,D,I,J⟩:=O.at u (Z.same v) g.2 () ();erw[⟨_,R,a,_,_,_,_,R,v _ _ h,u.WQ,u.L9,R,j,C,L,fs,f,H,_,_,sp,Zr,E0,R,B,E,y,x,D,Q.mono (),I,Zn,J _ λp4 H4 G n4 Y=>?_⟩];erw[⟨p3,p4,_,_,R,R,G _ _ Zi,Y,?_,λp5 g5=>q p5 _ ((v.trans G).trans (Zw g5 _)) ((v.trans G).free g5) ?_⟩];rw[Su,Sv,Sv];exact Sh (show[V.str (OL "either")].length+r.words.length+c.words.length<=7000 by rw[Sw];lia) ();rw[Zi];show some (HO.lst ([V.str (OL "either")]++r.words.map V.str++c.words.map V.str))=some (.lst (([OL "either"]++r.words++c.words).map V.str));rw[SM,SM];rfl
 |_=>exact S.elim
def Zo1(u:Zu K mg t)(n:Nat)(O:C3 P w K mg base t n):Zo P w K mg base Zr (n+1+3) t.vS t.vT ["self"] (Ve (rc t) K B2 (n+1)):=by
 erw[u.N3.F.ok ZbA () λb0 A outer s e0 vs d0 c0 Q h=>?_];ext⟨a,r,rfl,h,S,g,hw,hn,q⟩ h;erw[⟨_,(Ze (Zp (Zj Ub (Zj Ub (Ye (Zc Zl)) (VD (ZQ (pv 0) R))) (VD (ZQ (pv 0) R))))),?_⟩];sleep 1;cases h with
 |both h hi Z =>
  rename_i dx i j r c;have ed:(RT.both r c).depth=1+max r.depth c.depth:=rfl;have ew:(RT.both r c).weight=1+(r.weight+c.weight):=rfl;have wl:=r.words_len;have a0:=c.words_len;erw[⟨zL9 R,λT g1=>?_⟩];have M:=Zw g1 (.lst [.str (OL "both")]);obtain⟨C,L,fs,f,H,sp,B,E,y,x,D,I,J⟩:=O.at u (hi.same M) g.1 () ();erw[⟨_,R,a,_,_,_,_,R,M _ _ h,u.WR,u.Ma,R,i,C,L,fs,f,H,_,_,sp,Zr,E0,R,B,E,y,x,D,Q.mono (),I,Zn,J _ λX H2 s2 n2 U=>?_⟩];erw[⟨T,X,_,_,R,R,s2 _ _ Zi,U,?_,λp3 g3=>?_⟩];rw[Sv];exact Sh (show 1+r.words.length<=4000 by lia) ();have v:=(M.trans s2).trans (Zw g3 (.lst ([.str (OL "both")]++r.words.map V.str)));obtain⟨C,L,fs,f,H,sp,B,E,y,x,D,I,J⟩:=O.at u (Z.same v) g.2 () ();erw[⟨_,R,a,_,_,_,_,R,v _ _ h,u.WR,u.Mb,R,j,C,L,fs,f,H,_,_,sp,Zr,E0,R,B,E,y,x,D,Q.mono (),I,Zn,J _ λp4 H4 G n4 Y=>?_⟩];erw[⟨p3,p4,_,_,R,R,G _ _ Zi,Y,?_,λp5 g5=>q p5 _ ((v.trans G).trans (Zw g5 _)) ((v.trans G).free g5) ?_⟩];rw[Su,Sv,Sv];exact Sh (show[V.str (OL "both")].length+r.words.length+c.words.length<=7000 by rw[Sw];lia) ();rw[Zi];show some (HO.lst ([V.str (OL "both")]++r.words.map V.str++c.words.map V.str))=some (.lst (([OL "both"]++r.words++c.words).map V.str));rw[SM,SM];rfl
 |_=>exact S.elim
theorem ZfN(c:Zu K mg t):∀n,C3 P w K mg base t n
 |0=>by
  have no:∀{q:RT->Prop},∀vs H Q E,Ve (rc t) K q 0 vs H Q E->False:=λvs H Q E h=>by
   ext⟨a,r,rfl,h,v,g,u,hn,_⟩ h;have:=r.depth_pos;lia
  exact⟨ZfK c 0,ZfL c 0,
   c.NT.F.ok Zbu (λvs H Q E h=>(no vs H Q E h).elim) (λi A outer s H vs Q E j h=>(no vs H Q E h).elim),ZfM c 0,
   c.NY.F.ok Zbx (λvs H Q E h=>(no vs H Q E h).elim) (λi A outer s H vs Q E j h=>(no vs H Q E h).elim),
   c.N3.F.ok ZbA (λvs H Q E h=>(no vs H Q E h).elim) (λi A outer s H vs Q E j h=>(no vs H Q E h).elim),
   c.N9.F.ok ZbD (λvs H Q E h=>(no vs H Q E h).elim) (λi A outer s H vs Q E j h=>(no vs H Q E h).elim)⟩
 |n+1=>have f:=ZfN c n
  ⟨ZfK c (n+1),ZfL c (n+1),ZoY c n f,ZfM c (n+1),Zo0 c n f,Zo1 c n f,ZoZ c n f⟩
abbrev wS(w:OH):V:=.str ⟨w.toArray⟩
def XO(ws:List (List Nat)):List V:=(ws.map wS).reverse
def ZfO(w:OH)(r:List (List Nat)):XO (w::r)=XO r++[wS w]:=by unfold XO;rw[SN,List.reverse_cons]
def Zo2(ws:List (List Nat)):(XO ws).length=ws.length:=by unfold XO;rw[List.length_reverse,Sv]
def Kp(l:Addr)(H c:Hp):Prop:=∀a o,a≠l->H a=some o->c a=some o
def Kp.of(s:Zf H c):Kp l H c:=λa o _ e=>s a o e
def Kp.trans(a:Kp l H f)(b:Kp l f c):Kp l H c:=λx o n e=>b x o n (a x o n e)
theorem Kp.upd(l:Addr)(H:Hp)(o:HO):Kp l H (upd H l o):=λa u n e=>by rwa[Zm n]
def ZU.kp(v:H l=some (.lst I))(k:Kp l H f)(h:ZU c K H a r):ZU c K f a r:=by
 have q:∀{x C i fs},H x=some (.ins C i fs)->f x=some (.ins C i fs):=λ{x C i fs} e=>k _ _ (λz=>by rw[z,v]at e;cases e) e;have B:∀{p y},Zg K H p y->Zg K f p y:=λ{p y} e=>e.imp (λr=>r.imp (λe=>k _ _ (λz=>by rw[z,v]at e;cases e) e) (λ⟨o,e⟩=>⟨o,k _ _ (λz=>by rw[z,v]at e;cases e) e⟩)) id;induction h with
 |always h=>exact .always (q h)
 |week h G=>exact .week (q h) G
 |span h D J _ g=>exact .span (q h) D J g
 |each h hn E j=>exact .each (q h) hn E (B j)
 |either h _ _ n u=>exact .either (q h) n u
 |both h _ _ n u=>exact .both (q h) n u
 |but h j _ g=>exact .but (q h) (B j) g
def Wj(ws:List (List Nat)):Prop:=ws.length<=100000/\∀w∈ws,w.length<=100000
def Wj.tail{w:OH}(h:Wj (w::r)):Wj r:=⟨by have:=h.1;rw[Sy]at this;lia,λx c=>h.2 x (SD _ c)⟩
inductive Zo3(t:Ya)(vs:List V)(H:Hp)(Q:VK)(E:XK):Prop|mk (l:Addr) (ws:List (List Nat)) (_:vs=[.ref l]) (_:H l=some (.lst (XO ws))) (_:Wj ws) (_:(∀w r,ws=w::r->Q (wS w) (upd H l (.lst (XO r))))) (_:(ws=[]->E (.ref t.VH) none H))
def Pz(c:Zu K mg t):Zo P w K mg base (Yu P w) 1 t.Zce t.Zcf ["left"] (Zo3 t):=by
 erw[c.LL.F.okX Zln () λj A outer s H i Q E n h=>?_];ext⟨l,ws,rfl,f,ok,q,e⟩ h;erw[⟨_,(Zh (ZC (ZV Z8 (Yp WY c.XJ XG (Zc (pv 0))) Za) (Ze (Xh Xg c.UO R R c.UN (Zc Zl))) ZE) (Ze (Zp (MT PySem.F.plainAttrs_list PySem.F.slot_list_pop PySem.F.type_list_pop Zh0 (pv 0))))),?_⟩];sleep 2;erw[⟨_,R,l,XO ws,R,.inl (Zd.of f),R,_,R,?_⟩];cases ws with
 |nil=>exact Zy () ⟨zL9 R,e R⟩
 |cons w r =>
  erw[Zk (by rw[SS (by intro z;have g:=V.int.inj z;rw[Zo2,Sy]at g;lia)];lia) ?_];sleep 1;erw[⟨_,R,.inl ⟨R,_,Zd.of f⟩,l,XO (w::r),wS w,R,R,f,?_,?_⟩];rw[ZfO,Su,Sw,Nat.add_sub_cancel,Oc (Sg _),Nat.sub_self];rfl;rw[ZfO,List.dropLast_concat];exact q w r R
inductive Zo4(t:Ya)(vs:List V)(H:Hp)(Q:VK)(E:XK):Prop|mk (l:Addr) (ws:List (List Nat)) (_:vs=[.ref l]) (_:H l=some (.lst (XO ws))) (_:Wj ws) (_:(∀w r,ws=w::r->∀H',Zf (upd H l (.lst (XO r))) H'->Q (Ln (XF w)) H')) (_:(ws=[]->E (.ref t.VH) none H))
def jK{w:OH}(h:w.length<=100000):(⟨w.toArray⟩:Str).length<=sizeLine:=by
 show w.toArray.size<=sizeLine;rw[SO];exact Sh h ()
def jL(c:Zu K mg t):Zo P w K mg base (Yu P w) 3 t.Zcg t.Zch ["left"] (Zo4 t):=by
 erw[c.NM.F.okX Zlo () λv A outer s H u Q E f h=>?_];ext⟨l,ws,rfl,j,ok,q,e⟩ h;erw[⟨_,(Ze (Zp (Zt c.NL (jJ c) f Zn (Zc (Zt c.LL (Pz c) f Yi (Zc (pv 0))))))),?_⟩];sleep 1;erw[⟨_,R,l,ws,R,j,ok,λw r g=>⟨⟨w.toArray⟩,R,jK (ok.2 w (by rw[g];exact SE)),λn i=>?_⟩,e⟩];exact q w r g n i
theorem Ms(c:Nat):∀(l:OH),∀p∈spl c l,p.length<=l.length
 |[],p,f=>by
  have:p=[]:=by simpa [spl]using f
  rw[this];exact Sg _
 |x::r,p,f=>by
  unfold spl at f;by_cases h:x=c;rw[SW h]at f;rcases SG.mp f with rfl|f;exact Sk _;exact Nat.le_succ_of_le (Ms c r p f);rw[SV h]at f;cases q:spl c r with
  |nil=>exact Ot q (M6 c r)
  |cons w ws =>
   rw[q]at f;rcases SG.mp f with rfl|f;have:=Ms c r w (by rw[q];exact SE);rw[Sy,Sy];lia;exact Nat.le_succ_of_le (Ms c r p (by rw[q];exact SD _ f))
def Wj.spl{l:OH}(h:l.length+1<=100000):Wj (L2.spl c l):=⟨Sh (M8 c l) h,λw f=>Sh (Ms c l w f) ()⟩
inductive Zo5(t:Ya)(vs:List V)(H:Hp)(Q:VK)(E:XK):Prop|mk (l:Addr) (ws:List (List Nat)) (_:vs=[.ref l]) (_:H l=some (.lst (XO ws))) (_:Wj ws) (_:(∀w r,ws=w::r->∀p H',Zf (upd H l (.lst (XO r))) H'->H p=none->H' p=some (.lst ((Q9 w).map Ln))->Q (.ref p) H')) (_:(ws=[]->E (.ref t.VH) none H))
def ZfP(g:Zu K mg t):Zo P w K mg base (Yu P w) 3 t.Zci t.Zcj ["left"] (Zo5 t):=by
 erw[g.uK.F.okX Zlp () λa0 A outer s H Z c0 b0 G h=>?_];ext⟨l,ws,rfl,X,ok,q,e⟩ h;erw[⟨_,(Ze (Zp (YZ (cl:=[]) (N:=["part"]) (fr:=[none]) R (YP (YQ PySem.F.plainAttrs_str PySem.F.slot_str_split PySem.F.type_str_split Na (Zt g.LL (Pz g) G Yi (Zc (pv 0))) (Zc Zl))) R () R () trivial trivial R (λ_ _ _ _ _=>(ZJ 0 (show List.Nodup (["part"]:OD) by lia))) (λ_ _ _ _ _=>YM) (λ_ _ _ _ _=>(Zt g.NL (jJ g) G Zn (Zc (pv 0))))))),?_⟩];sleep 1;erw[⟨_,R,l,ws,R,X,ok,λw r E=>?_,e⟩];have lw:=ok.2 w (by rw[E];exact SE);have hn:(L2.spl 44 w).length<=100001:=Sh (M8 44 w) ();have M:(⟨w.toArray⟩:Str).length+2<=sizeLine:=by
  show w.toArray.size+2<=sizeLine;rw[SO];exact Sh (Nat.add_le_add_right lw 2) ()
 erw[⟨R,⟨w.toArray⟩,44,R,congrArg (λz=>[V.str z]) RS,M,λp n=>?_⟩];have Q:p≠l:=λz=>by rw[z,Zi]at n;cases n
 have Y:H p=none:=by rw[<-n,Zm Q]
 have S:(⟨w.toArray⟩:Str).cps.toList=w:=rfl;have I:((L2.spl 44 w).map wS).length=(L2.spl 44 w).length:=Sv ..;rw[S];refine⟨p,R,⟨_,Zd.of Zi⟩,Vq (K:=K) (a:=p) (xs:=(L2.spl 44 w).map wS) (λi j u B=>Zf (upd (upd H l (.lst (XO r))) p (.lst ((L2.spl 44 w).map wS))) B/\j=(((L2.spl 44 w).take i).map λx=>Ln (XF x))/\∃v,u=[v])
  ⟨Zf.refl _,R,_,R⟩ (by rw[I];exact Sh hn ()) (λi j u B _ ⟨c,_⟩=>Zd.of (c _ _ Zi)) ?_ ?_⟩
 rintro i x j u B ha f ⟨c,D,v,rfl⟩;rw[Ob]at f;cases C:(L2.spl 44 w)[i]? with
 |none=>rw[C]at f;cases f
 |some y =>
  rw[C]at f;obtain rfl:wS y=x:=So f;have U:=Ms 44 w y (SL C);dsimp only[YA,Y4];rw[SW R];erw[⟨_,R,⟨y.toArray⟩,R,jK (Sh U lw),λH3 O=>⟨?_,c.trans O,?_,_,R⟩⟩];rw[Su,Sw];lia;rw[D,Oa,C];simp
 rintro j u B ha ⟨c,D,v,rfl⟩ p3 g3;rw[I,List.take_length]at D;have T:H p3=none:=by
  have z:=c.free g3;have J:p3≠p:=λy=>by rw[y,Zi]at z;cases z
  rw[Zm J]at z;have L:p3≠l:=λy=>by rw[y,Zi]at z;cases z
  rw[Zm L]at z;exact z
 erw[q w r E p3 _ (((Zw n _).trans c).trans (Zw g3 _)) T ?_];rw[Zi,D];unfold Q9;rw[Of];rfl
theorem ZfQ(c:Nat):∀l:List Nat,bv (l++[c])=bv l+(c - 48)*2 ^ l.length
 |[]=>by simp[bv]
 |x::r=>by
  show(x - 48)+2*bv (r++[c])=(x - 48)+2*bv r+(c - 48)*2 ^ (r.length+1);rw[ZfQ c r,Nat.pow_succ];generalize bv r=B;generalize 2 ^ r.length=Z;rw[show(c - 48)*(Z*2)=2*((c - 48)*Z) by rw[<-Nat.mul_assoc,Nat.mul_comm]];lia
def ZfR(c:Nat):VU (.str ⟨#[c]⟩) [.str (OL "0"),.str (OL "1")]=(c==48 || c==49):=by
 have g:OL "0"=⟨#[48]⟩:=by lia
 have f:OL "1"=⟨#[49]⟩:=by lia
 rw[g,f];have k:∀d:Nat,((⟨#[d]⟩:Str)==⟨#[c]⟩)=(c==d):=λd=>by
  rw[Bool.eq_iff_iff,beq_iff_eq,beq_iff_eq];constructor;intro h;have:=congrArg (λz:Str=>z.cps.toList) h;simp at this;exact this.symm;intro h;rw[h]
 show((⟨#[48]⟩:Str)==⟨#[c]⟩ || (((⟨#[49]⟩:Str)==⟨#[c]⟩) || false))=_;rw[k,k,Bool.or_false]
def Zo6(h:(c==48 || c==49)=true):PySem.intText? ⟨#[c]⟩=some (((c - 48:Nat)):Int):=by
 rcases(Bool.or_eq_true _ _).mp h with h|h<;>(rw[eq_of_beq h];lia)
inductive Zo7(t:Ya)(vs:List V)(H:Hp)(Q:VK)(E:XK):Prop|mk (l:Addr) (ws:List (List Nat)) (_:vs=[.ref l]) (_:H l=some (.lst (XO ws))) (_:Wj ws) (_:(∀w r b,ws=w::r->Q8 w=some b->∀H',Zf (upd H l (.lst (XO r))) H'->Q (.int (b:Nat)) H')) (_:((ws=[]\/∃w r,ws=w::r/\Q8 w=none)->∀H',Kp l H H'->E (.ref t.VH) none H'))
def Zo8(f:Zu K mg t):Zo P w K mg base (Yu P w) 2 t.Zck t.Zcl ["left"] (Zo7 t):=by
 erw[f.Zeo.F.okX F4 () λa0 A outer s H vs b0 E U h=>?_];ext⟨l,ws,rfl,Z,ok,q,e⟩ h;erw[⟨_,(Zh (ZR 1 F4.nd (Zt f.LL (Pz f) U Yi (Zc (pv 0)))) (Zh (ZC (ZV Ux (Yp La f.XJ XG (Zc (pv 1))) (YC R f.uE)) (Ze (Xh Xg f.UO R R f.UN (Zc Zl))) ZE) (Zh (ZR 2 F4.nd Za) (Zh (MJ PassesOwn.leaving R (Zk1 R f.NH (Zc (pv 1))) (Wq (n:=2) R (YB (ZJ 3 F4.nd) (YB (ZJ 4 F4.nd) Wo))) (Zh (ZC (K5 ZhU (pv 4) (Y9 (ZB Zl Zl)) R) (Ze (Xh Xg f.UO R R f.UN (Zc Zl))) ZE) (Ze (ZR 2 F4.nd (Zj Yw (pv 2) (Zj MN (Z1 Lh R f.F8 F6 (Zc (pv 4))) (pv 3))))))) (Ze (Zp (pv 2))))))),?_⟩];sleep 5;erw[⟨_,R,l,ws,R,Z,ok,λw r C=>?_,λz=>e (.inl z) _ (λ_ _ _ y=>y)⟩];have lw:=ok.2 w (by rw[C];exact SE);have D:Q8 w=none->∀g,Zf (upd H l (.lst (XO r))) g->E (.ref t.VH) none g:=λT g u=>e (.inr ⟨w,r,C,T⟩) g ((Kp.upd l H _).trans (Kp.of u));erw[⟨_,R,⟨w.toArray⟩,R,jK lw,R,_,R,?_⟩];have G:(⟨w.toArray⟩:Str).length=w.length:=SO ..;by_cases v:w.length=7
 rotate_left
 erw[Zy (by rw[G,SS (λz=>v (by have:=V.int.inj z;lia))];rfl) ⟨zL9 R,D (SV λz=>v z.1) _ (Zf.refl _)⟩];erw[Zk (by rw[G,v];lia) ?_];sleep 1;refine⟨_,R,⟨w.toArray⟩,R,Zk2 (z:=⟨w.toArray⟩) (λi B g=>Zf (upd H l (.lst (XO r))) g/\(w.take i).all (λc=>c==48 || c==49)=true/\∃a b,B=[some (.ref l),some (wS w),some (.int ((bv (w.take i):Nat):Int)),a,b])
  ⟨Zf.refl _,R,_,_,R⟩ ?_ ?_⟩
 rintro i c p B g Q J ⟨u,ha,a,b,rfl⟩;have x:w[i]? = some c:=Q;have X:=u.trans (Zw J (.tup [.int i,.str ⟨#[c]⟩]));dsimp only[D5,MH,YA,P3];erw[⟨p,_,R,Zg.of Zi,R,?_⟩];erw[⟨_,_,R,_,_,R,R,?_⟩];sleep 2;erw[⟨_,R,zL9 R,λL g1=>⟨L,_,R,.inr (Zg.of Zi),R,R,_,R,?_⟩⟩];have s2:=X.trans (Zw g1 (.tup [.str (OL "0"),.str (OL "1")]));have M:c∈w:=SL x;cases j:(c==48 || c==49)with
 |false =>
  erw[Zy (by rw[SW R,ZfR,j];rfl) ⟨zL9 R,D (SV λz=>?_) _ s2⟩];rw[List.all_eq_true.mp z.2 c M]at j;cases j
 |true =>
  erw[Zk (by rw[SW R,ZfR,j];lia) ?_];have Y:i<w.length:=(Sr.mp x).1;erw[⟨_,R,_,R,⟨#[c]⟩,_,R,Zo6 j,by show 1<=640;lia,_,R,_,_,R,R,⟨(),(),?_⟩,_,_,R,R,?_⟩];have:c - 48<=1:=by
   rcases(Bool.or_eq_true _ _).mp j with z|z<;>(rw[eq_of_beq z];lia)
  exact Sj (show(((c - 48:Nat)):Int).natAbs<=1 by rw[Int.natAbs_natCast];exact this) ();erw[⟨s2,?_,some (.int (i:Int)),some (.str ⟨#[c]⟩),?_⟩];rw[Oa,x];show((w.take i)++[c]).all _=true;rw[List.all_append,ha];show((c==48 || c==49) && true)=true;rw[j];rfl;have S:((bv (w.take i):Nat):Int)+(((c - 48:Nat)):Int)*2 ^ (i:Int).toNat=((bv (w.take (i+1)):Nat):Int):=by
   rw[Oa,x];show _=((bv ((w.take i)++[c]):Nat):Int);rw[ZfQ,Sx,Nat.min_eq_left (Nat.le_of_lt Y),Int.natCast_add,Int.natCast_mul,Int.natCast_pow,Int.toNat_natCast];rfl
  rw[<-S];rfl
 rintro B g ⟨u,ha,a,b,rfl⟩;have O:w.take w.toArray.size=w:=by rw[SO,List.take_length]
 have I:w.take (⟨w.toArray⟩:Str).cps.size=w:=O;rw[I]at ha ⊢;exact⟨_,R,q w r (bv w) C (SW ⟨v,ha⟩) _ u⟩
inductive Zo9(t:Ya)(K:Oy)(d:Nat)(vs:List V)(H:Hp)(Q:VK)(_e3:XK):Prop|mk (l:Addr) (T:RT) (rest:List (List Nat)) (_:vs=[.ref l,.int d]) (_:d<=8) (_:H l=some (.lst (XO (T.words.map Zs++rest)))) (_:Wj (T.words.map Zs++rest)) (_:T.good) (_:T.weight<=15) (_:T.depth<=d) (_:∀b H',Kp l H H'->H' l=some (.lst (XO rest))->ZU (rc t) K H' b T->Q (.ref b) H')
def Y2(w:OH)(s:String):decide (V.str (⟨w.toArray⟩:Str)=V.str (OL s))=decide (w=kw s):=Lo
def Wj.suf(h:Wj b)(s:a <:+ b):Wj a:=⟨Sh s.length_le h.1,λw c=>h.2 w (s.subset c)⟩
def ZfS(ds:OH):(ds.map some).map Ln=ZI ds:=by rw[Of];rfl
def Zpa(f:Zu K mg t):∀d:Nat,Zo P w K mg base (Yu P w) (d+46) t.Zcc t.Zcd ["left","deep"] (Zo9 t K d):=by
 intro d;induction d with
 |zero =>
  erw[f.XM.F.okX Tu (λvs H h0 j0 h=>?_) (λl0 A outer s H vs h0 j0 j h=>?_)];ext⟨l,T,rest,rfl,_⟩ h;rfl;ext⟨l,T,rest,rfl,d8,hl,ok,g,Z,hd,q⟩ h;have:=T.depth_pos;lia
 |succ d S =>
 erw[f.XM.F.okX Tu () λl0 A outer s H vs h0 j0 j h=>?_];ext⟨l,T,rest,rfl,d8,hl,ok,g,Z,hd,q⟩ h;erw[⟨_,(Zh (ZC (ZV Z8 (pv 1) Za) (Ze (Xh Xg f.UO R R f.UN (Zc Zl))) ZE) (Zh (ZR 2 Tu.nd (Zt f.LL (Pz f) j Yi (Zc (pv 0)))) (Zh (ZC (ZV Z8 (pv 2) Zl) (Ze (Zp (Nf f.Pb R f.A8))) ZE) (Zh (ZC (ZV Z8 (pv 2) Zl) (Ze (Zp (Wb f.qE (Zfe f) (j.mono ()) R f.qN f.NO.b .nil Zn (Zc (Zt f.Zeo (Zo8 f) j Yi (Zc (pv 0))))))) ZE) (Zh (ZC (ZV Z8 (pv 2) Zl) (Ze (Zp (Wb f.qG (Zfa f) (j.mono ()) R f.qO f.NP.b .nil Zn (Yk (Zt f.NM (jL f) j Yi (Zc (pv 0))) (Zt f.NM (jL f) j Yi (Zc (pv 0))) (Xu S (j.mono ()) R f.XM.m f.XM.F.kp f.XM.b .nil Yi (ZB (pv 0) (Zj VP (pv 1) Za))))))) ZE) (Zh (ZC (ZV Z8 (pv 2) Zl) (Ze (Zp (Wb f.qH (Zff f) (j.mono ()) R f.qP f.NU.b .nil Zn (ZB (Zt f.NM (jL f) j Yi (Zc (pv 0))) (Zt f.uK (ZfP f) j Yi (Zc (pv 0))))))) ZE) (Zh (ZC (ZV Z8 (pv 2) Zl) (Ze (Zp (Wb f.qI (Zfc f) (j.mono ()) R f.qQ f.NV.b .nil Zn (ZB (Xu S (j.mono ()) R f.XM.m f.XM.F.kp f.XM.b .nil Yi (ZB (pv 0) (Zj VP (pv 1) Za))) (Xu S (j.mono ()) R f.XM.m f.XM.F.kp f.XM.b .nil Yi (ZB (pv 0) (Zj VP (pv 1) Za))))))) ZE) (Zh (ZC (ZV Z8 (pv 2) Zl) (Ze (Zp (Wb f.qJ (Zfd f) (j.mono ()) R f.qR f.NZ.b .nil Zn (ZB (Xu S (j.mono ()) R f.XM.m f.XM.F.kp f.XM.b .nil Yi (ZB (pv 0) (Zj VP (pv 1) Za))) (Xu S (j.mono ()) R f.XM.m f.XM.F.kp f.XM.b .nil Yi (ZB (pv 0) (Zj VP (pv 1) Za))))))) ZE) (Zh (ZC (ZV Z8 (pv 2) Zl) (Ze (Zp (Wb f.qK (Zfb f) (j.mono ()) R f.qS f.N6.b .nil Zn (ZB (Zt f.uK (ZfP f) j Yi (Zc (pv 0))) (Xu S (j.mono ()) R f.XM.m f.XM.F.kp f.XM.b .nil Yi (ZB (pv 0) (Zj VP (pv 1) Za))))))) ZE) (Ze (Xh Xg f.UO R R f.UN (Zc Zl)))))))))))),?_⟩];sleep 10;erw[⟨_,R,R,_,R,Zk (by rw[SS (by intro z;have:=V.int.inj z;lia)];lia) ?_⟩];sleep 1;have go:∀(w:OH) (r:List (List Nat)),T.words.map Zs++rest=w::r->Kp l H (upd H l (.lst (XO r)))/\Wj r:=λw r e=>⟨Kp.upd l H _,(e ▸ ok).tail⟩;erw[⟨_,R,l,_,R,hl,ok,λw r G=>?_,λz=>Ot (List.append_eq_nil_iff.mp z).1 (λm0=>LF T (List.map_eq_nil_iff.mp m0))⟩];obtain⟨Q,D⟩:=go w r G;clear go;cases T with
 |always =>
  obtain⟨rfl,rfl⟩:=List.cons.inj G;erw[⟨_,R,R,_,R,Zy (by rw[Y2];exact SR R) ?_⟩];sleep 1;intro x I nx nd X;have s1:=Xq nx (Xq nd (Zf.refl _) (.own x)) (.ins t.YJ I []);exact q x _ (Q.trans (Kp.of s1)) (s1 _ _ Zi) (.always Zi)
 |week b =>
  obtain⟨rfl,rfl⟩:=List.cons.inj G;erw[⟨_,R,R,_,R,Zk (by rw[Y2];lia) ?_⟩];erw[⟨_,R,R,_,R,Zy (by rw[Y2];exact SR R) ?_⟩];sleep 1;have eb:=Zbe b (Nat.lt_succ_of_le g);erw[⟨_,R,l,_,R,Zi,D,λw1 r1 b' J Y y s2 x I nx nd X=>?_,λz=>?_⟩];obtain⟨rfl,rfl⟩:=List.cons.inj J;obtain rfl:b=b':=So (eb.symm.trans Y);have u:Kp l H y:=Q.trans ((Kp.upd l _ _).trans (Kp.of s2));exact⟨x,y,_,R,Wh nx nd,g,λB E a0=>⟨R,q x B (u.trans (Kp.of E)) (E _ _ (s2 _ _ Zi)) (a0.same (Wv _ _))⟩⟩;rcases z with z|⟨w1,r1,z,z2⟩;cases z;obtain⟨rfl,rfl⟩:=List.cons.inj z;rw[show Q8 (Zs (U6 b))=some b from eb]at z2;cases z2
 |span a b T =>
  obtain⟨rfl,rfl⟩:=List.cons.inj G;erw[⟨_,R,R,_,R,Zk (by rw[Y2];lia) ?_⟩];erw[⟨_,R,R,_,R,Zk (by rw[Y2];lia) ?_⟩];erw[⟨_,R,R,_,R,Zy (by rw[Y2];exact SR R) ?_⟩];sleep 1;have ed:(RT.span a b T).depth=1+T.depth:=rfl;have e0:(RT.span a b T).weight=1+T.weight:=rfl;have na:=LD (n:=a) (by have:=g.1;have:=g.2.1;lia);have nb:=LD (n:=b) (by have:=g.1;have:=g.2.1;lia);erw[⟨_,R,l,_,R,Zi,D,λw1 r1 J y s2=>?_,λz=>nomatch z⟩];obtain⟨rfl,rfl⟩:=List.cons.inj J;have u:Kp l H y:=Q.trans ((Kp.upd l _ _).trans (Kp.of s2));have v:=D.tail;erw[⟨_,R,l,_,R,s2 _ _ Zi,v,λw2 r2 Y B E=>?_,λz=>nomatch z⟩];obtain⟨rfl,rfl⟩:=List.cons.inj Y;have M:Kp l H B:=u.trans ((Kp.upd l _ _).trans (Kp.of E));erw[⟨_,R,_,R,_,_,R,R,l,T,rest,congrArg (λi=>[V.ref l,V.int i]) (),(),E _ _ Zi,v.tail,g.2.2,(),(),λc H4 k4 d0 a0 x I nx nd X=>?_⟩];have L:=M.trans k4;erw[⟨x,c,H4,a,b,T,?_,Wh nx nd,a0,g,Z,(),(),λC s5 rt=>⟨R,q x C (L.trans (Kp.of s5)) (s5 _ _ d0) (rt.same (Wv _ _))⟩⟩];rw[show XF (Zs (ZX a))=some a from na,show XF (Zs (ZX b))=some b from nb];rfl
 |each n ss =>
  obtain⟨rfl,rfl⟩:=List.cons.inj G;erw[⟨_,R,R,_,R,Zk (by rw[Y2];lia) ?_⟩];erw[⟨_,R,R,_,R,Zk (by rw[Y2];lia) ?_⟩];erw[⟨_,R,R,_,R,Zk (by rw[Y2];lia) ?_⟩];erw[⟨_,R,R,_,R,Zy (by rw[Y2];exact SR R) ?_⟩];sleep 1;have nn:=LD (n:=n) (by have:=g.1;have:=g.2.1;lia);have ns:=RU (ds:=ss) (λz=>by have:=g.2.2.one;rw[z]at this;cases this) (λx hx=>by have:=(g.2.2.all x hx).2;have:=g.2.1;lia);erw[⟨_,R,l,_,R,Zi,D,λw1 r1 J y s2=>?_,λz=>nomatch z⟩];obtain⟨rfl,rfl⟩:=List.cons.inj J;have u:Kp l H y:=Q.trans ((Kp.upd l _ _).trans (Kp.of s2));have v:=D.tail;erw[⟨_,R,l,_,R,s2 _ _ Zi,v,λw2 r2 Y p B E hp i0 x I nx nd X=>?_,λz=>nomatch z⟩];obtain⟨rfl,rfl⟩:=List.cons.inj Y;have M:Kp l H B:=u.trans ((Kp.upd l _ _).trans (Kp.of E));rw[show Q9 (Zs (X3 ss))=ss.map some from ns,ZfS]at i0;erw[⟨x,p,B,n,ss,?_,Wh nx nd,i0,g,λC s5 rt=>⟨R,q x C (M.trans (Kp.of s5)) (s5 _ _ (E _ _ Zi)) (rt.same (Wv _ _))⟩⟩];rw[show XF (Zs (ZX n))=some n from nn];rfl
 |either T U =>
  obtain⟨rfl,rfl⟩:=List.cons.inj G;erw[⟨_,R,R,_,R,Zk (by rw[Y2];lia) ?_⟩];erw[⟨_,R,R,_,R,Zk (by rw[Y2];lia) ?_⟩];erw[⟨_,R,R,_,R,Zk (by rw[Y2];lia) ?_⟩];erw[⟨_,R,R,_,R,Zk (by rw[Y2];lia) ?_⟩];erw[⟨_,R,R,_,R,Zy (by rw[Y2];exact SR R) ?_⟩];sleep 1;have ed:(RT.either T U).depth=1+max T.depth U.depth:=rfl;have e0:(RT.either T U).weight=1+(T.weight+U.weight):=rfl;have er:(T.words++U.words).map Zs++rest=T.words.map Zs++(U.words.map Zs++rest):=by rw[SM,Oe]
  have v:Wj (T.words.map Zs++(U.words.map Zs++rest)):=er ▸ D;erw[⟨_,R,_,R,_,_,R,R,l,T,U.words.map Zs++rest,congrArg (λi=>[V.ref l,V.int i]) (),(),?_,v,g.1,(),(),λc y M O c0=>?_⟩];exact Zi.trans (by rw[<-er];rfl);have u:=Q.trans M;erw[⟨_,R,_,R,_,_,R,R,l,U,rest,congrArg (λi=>[V.ref l,V.int i]) (),(),O,v.suf (List.suffix_append _ _),g.2,(),(),λe B L b0 f0 x I nx nd X=>?_⟩];exact⟨x,c,e,B,T,U,R,Wh nx nd,ZU.kp O L c0,f0,g,Z,(),(),(),λC s5 rt=>⟨R,q x C ((u.trans L).trans (Kp.of s5)) (s5 _ _ b0) (rt.same (Wv _ _))⟩⟩
 |both T U =>
  obtain⟨rfl,rfl⟩:=List.cons.inj G;erw[⟨_,R,R,_,R,Zk (by rw[Y2];lia) ?_⟩];erw[⟨_,R,R,_,R,Zk (by rw[Y2];lia) ?_⟩];erw[⟨_,R,R,_,R,Zk (by rw[Y2];lia) ?_⟩];erw[⟨_,R,R,_,R,Zk (by rw[Y2];lia) ?_⟩];erw[⟨_,R,R,_,R,Zk (by rw[Y2];lia) ?_⟩];erw[⟨_,R,R,_,R,Zy (by rw[Y2];exact SR R) ?_⟩];sleep 1;have ed:(RT.both T U).depth=1+max T.depth U.depth:=rfl;have e0:(RT.both T U).weight=1+(T.weight+U.weight):=rfl;have er:(T.words++U.words).map Zs++rest=T.words.map Zs++(U.words.map Zs++rest):=by rw[SM,Oe]
  have v:Wj (T.words.map Zs++(U.words.map Zs++rest)):=er ▸ D;erw[⟨_,R,_,R,_,_,R,R,l,T,U.words.map Zs++rest,congrArg (λi=>[V.ref l,V.int i]) (),(),?_,v,g.1,(),(),λc y M O c0=>?_⟩];exact Zi.trans (by rw[<-er];rfl);have u:=Q.trans M;erw[⟨_,R,_,R,_,_,R,R,l,U,rest,congrArg (λi=>[V.ref l,V.int i]) (),(),O,v.suf (List.suffix_append _ _),g.2,(),(),λe B L b0 f0 x I nx nd X=>?_⟩];exact⟨x,c,e,B,T,U,R,Wh nx nd,ZU.kp O L c0,f0,g,Z,(),(),(),λC s5 rt=>⟨R,q x C ((u.trans L).trans (Kp.of s5)) (s5 _ _ b0) (rt.same (Wv _ _))⟩⟩
 |but ds T =>
  obtain⟨rfl,rfl⟩:=List.cons.inj G;erw[⟨_,R,R,_,R,Zk (by rw[Y2];lia) ?_⟩];erw[⟨_,R,R,_,R,Zk (by rw[Y2];lia) ?_⟩];erw[⟨_,R,R,_,R,Zk (by rw[Y2];lia) ?_⟩];erw[⟨_,R,R,_,R,Zk (by rw[Y2];lia) ?_⟩];erw[⟨_,R,R,_,R,Zk (by rw[Y2];lia) ?_⟩];erw[⟨_,R,R,_,R,Zk (by rw[Y2];lia) ?_⟩];erw[⟨_,R,R,_,R,Zy (by rw[Y2];exact SR R) ?_⟩];sleep 1;have ed:(RT.but ds T).depth=1+T.depth:=rfl;have e0:(RT.but ds T).weight=1+T.weight:=rfl;have ns:=RU (ds:=ds) (λz=>by have:=g.1.one;rw[z]at this;cases this) (λx hx=>by have:=(g.1.all x hx).2;lia);erw[⟨_,R,l,_,R,Zi,D,λw1 r1 J p y s2 hp g0=>?_,λz=>nomatch z⟩];obtain⟨rfl,rfl⟩:=List.cons.inj J;have u:Kp l H y:=Q.trans ((Kp.upd l _ _).trans (Kp.of s2));rw[show Q9 (Zs (X3 ds))=ds.map some from ns,ZfS]at g0;have O:=s2 _ _ Zi;have pl:p≠l:=λz=>by rw[z,Zi]at hp;cases hp
  erw[⟨_,R,_,R,_,_,R,R,l,T,rest,congrArg (λi=>[V.ref l,V.int i]) (),(),O,D.tail,g.2,(),(),λc H4 k4 d0 a0 x I nx nd X=>?_⟩];exact⟨x,p,c,H4,ds,T,R,Wh nx nd,k4 _ _ pl g0,a0,g,Z,(),(),λC s5 rt=>⟨R,q x C ((u.trans k4).trans (Kp.of s5)) (s5 _ _ d0) (rt.same (Wv _ _))⟩⟩
inductive Zpb(t:Ya)(K:Oy)(vs:List V)(H:Hp)(Q:VK)(_e3:XK):Prop|mk (T:RT) (_:vs=[.str (YO T)]) (_:T.good) (_:T.weight<=15) (_:T.depth<=8) (_:∀b H',Zf H H'->ZU (rc t) K H' b T->Q (.ref b) H')
def Zpc(c:Zu K mg t):Zo P w K mg base (Yu P w) 55 t.Zca t.Zcb ["text"] (Zpb t K):=by
 erw[c.Zen.F.okX Tq () λS A outer s H O Q E L h=>?_];ext⟨T,rfl,g,i,hd,q⟩ h;erw[⟨_,(Zh (ZC (Yn (Ym (Yp VW c.WO WM (ZB (pv 0) (VX R c.Xc Xb))))) (Ze (Xh Xg c.UO R R c.UN (Zc Zl))) ZE) (Zh (ZR 1 Tq.nd (ZkV R R c.Y1 R c.Zmm (YQ PySem.F.plainAttrs_str PySem.F.slot_str_split PySem.F.type_str_split Na (pv 0) (Zc Zl)))) (Zh (ZkK ⟨R,R⟩ R ZkG c.UO R c.qM R c.UN (λpins U=>(Ze (ZR 2 Tq.nd (Zt c.XM (Zpa c 8) L ZkI (ZB (pv 1) (YC R c.Zei)))))) (λa=>(Zc Zl))) (Zh (ZC (ZV UZ (Yp WY c.XJ XG (Zc (pv 1))) Za) (Ze (Xh Xg c.UO R R c.UN (Zc Zl))) ZE) (Ze (Zp (pv 2))))))),?_⟩];sleep 5;erw[⟨_,R,.str (YO T),"str",_,_,R,(Kd.str (H:=H) (YO T)).ty,E5 (Kd.str (H:=H) (YO T)),_,R,Zk () ?_⟩];sleep 1;have B:=Nu g i;have G:(YO T).length+2<=sizeLine:=Sh (Nat.add_le_add_right B 2) ();erw[⟨_,R,R,YO T,32,R,(congrArg (λz=>[V.str z]) A0),G,λf D=>⟨f,_,R,Zd.of Zi,λp C=>?_⟩⟩];have u:=Zw D (.lst ((spl 32 (YO T).cps.toList).map λl=>V.str ⟨l.toArray⟩));have y:H p=none:=u.free C;have j:=ZkM g;have M:Wj (T.words.map Zs++[]):=by rw[Od,<-j];exact Wj.spl (by rw[WI];lia)
 have sm:∀{H'},Kp p (upd (upd H f (.lst ((spl 32 (YO T).cps.toList).map λl=>V.str ⟨l.toArray⟩))) p (.lst ((spl 32 (YO T).cps.toList).map λl=>V.str ⟨l.toArray⟩).reverse)) H'->Zf H H':=λk a o e=>by
  have n:a≠p:=Z4 e y;exact k a o n (by rw[Zm n];exact u a o e)
 erw[⟨_,R,p,T,[],R,(),Zi.trans ?_,M,g,i,hd,λb I x v J=>?_⟩];rw[Od,<-j];rfl;exact⟨_,R,p,_,R,.inl (Zd.of v),_,_,R,R,_,R,Zk () ⟨_,R,q b I (sm x) J⟩⟩
inductive Zpd(t:Ya)(K:Oy)(vs:List V)(H:Hp)(Q:VK)(_e3:XK):Prop|mk (a:Addr) (r:RT) (_:vs=[.ref a]) (_:ZU (rc t) K H a r) (_:r.good) (_:r.weight<=15) (_:r.depth<=8) (_:∀H',Zf H H'->Q (.str (YO r)) H')
def ZfT{r:RT}(g:r.good)(j:r.weight<=15):(r.words.map λx=>x.length+(OL " ").length).sum<=sizeLine:=by
 have n:=r.words_len;have e:(OL " ").length=1:=by lia
 have f:=RW r g;have i:(r.words.map λx=>x.length+(OL " ").length).sum<=101*r.words.length:=by
  rw[e];generalize r.words=l at f;induction l with
  |nil=>simp
  |cons y q h =>
   have v:=(f y SE).2;have u:=h λx c=>f x (SD _ c);simp only[SN,List.sum_cons,Sy];lia
 exact Sh (Sh i (Nat.mul_le_mul_left 101 (show r.words.length<=45 by lia))) ()
def Zpe(c:Zu K mg t):Zo P w K mg base (Yu P w) 13 t.Zb8 t.Zb9 ["rule"] (Zpd t K):=by
 erw[c.Zem.F.okX Zlm () λX A outer s H U Q E M h=>?_];ext⟨a,r,rfl,h,g,x,hd,q⟩ h;erw[⟨_,(Zh (ZC (Yn (Ym (Yp M3 c.WO WM (ZB (pv 0) (M4 R c.A8))))) (Ze (Xh Xg c.UO R R c.UN (Zc Zl))) ZE) (Ze (Zp (YQ PySem.F.plainAttrs_str PySem.F.slot_str_join PySem.F.type_str_join WJ Zl (Zc (VD (pv 0))))))),?_⟩];sleep 2;obtain⟨T,ty,n⟩:=qY c h;erw[⟨_,R,.ref a,t.YJ,_,_,R,ty,n,_,R,Zk () ?_⟩];sleep 1;obtain⟨C,j,fs,f,I,sp,O,B,u,D,i,J,y⟩:=(ZfN (P:=P) (w:=w) (mg:=mg) (base:=base) c 8).at c h g () hd;erw[⟨R,_,R,a,C,j,fs,f,I,_,_,sp,Zr,E0,R,O,B,u,D,i,M.mono (),J,Zn,y _ λp v G S L=>?_⟩];exact⟨_,p,r.words,R,R,Zd.of L,ZfT g x,q v G⟩
def Xx:V->Str
 |.str z=>z
 |.int i=>toString i
 |_=>Str.empty
def QO(v:V):Prop:=(∃z,v=.str z/\z.length<=5000)\/∃n:Nat,v=.int (n:Nat)/\n<=10000
inductive Zpf(K:Oy)(vs:List V)(H:Hp)(Q:VK)(_e3:XK):Prop|mk (p:Addr) (xs:List V) (_:vs=[.ref p]) (_:Zd K H p xs) (_:xs.length<=200) (_:(∀v∈xs,QO v)) (_:∀H',Zf H H'->Q (.str (Str.join (OL " ") (xs.map Xx))) H')
def Mt(h:QO v):(Xx v).length<=5000:=by
 rcases h with⟨z,rfl,h⟩|⟨n,rfl,h⟩;exact h;by_cases e:n=10000;subst e;lia;exact Sh (Uh (n:=n) ()) ()
def Zpg{xs:List V}(c:xs.length<=200)(h:∀v∈xs,QO v):((xs.map Xx).map λx=>x.length+(OL " ").length).sum<=sizeLine:=by
 have e:(OL " ").length=1:=by lia
 have i:((xs.map Xx).map λx=>x.length+(OL " ").length).sum<=5001*xs.length:=by
  rw[e];clear c;induction xs with
  |nil=>simp
  |cons y q g =>
   have n:=Mt (h y SE);have j:=g λx f=>h x (SD _ f);simp only[SN,List.sum_cons,Sy];lia
 exact Sh (Sh i (Nat.mul_le_mul_left 5001 c)) ()
def Mu(B:Zu K mg t):Zo P w K mg base Zr 1 t.Zco t.Zcp ["words"] (Zpf K):=by
 erw[B.G2.F.ok Zlq () λJ A outer s H I Q E L h=>?_];ext⟨p,xs,rfl,j,C,ok,q⟩ h;erw[⟨_,(Ze (Zp (YQ PySem.F.plainAttrs_str PySem.F.slot_str_join PySem.F.type_str_join WJ Zl (Zc (YZ (cl:=[]) (N:=["word"]) (fr:=[none]) R (YP (pv 0)) R () R () trivial trivial R (λ_ _ _ _ _=>(ZJ 0 (show List.Nodup (["word"]:OD) by lia))) (λ_ _ _ _ _=>YM) (λ_ _ _ _ _=>(Z1 Zk4 R B.Xc Xb (Zc (pv 0))))))))),?_⟩];sleep 1;refine⟨R,_,R,p,R,⟨_,j⟩,Vq (K:=K) (a:=p) (xs:=xs) (λi c g f=>f=H/\c=((xs.take i).map Xx).map V.str/\∃v,g=[v]) ⟨R,R,_,R⟩
  (Sh C ()) (λi c g f _ ⟨e,_⟩=>by rwa[e]) ?_ ?_⟩
 rintro i x c g f ha u ⟨rfl,e,v,rfl⟩;have hm:=ok x (SL u);dsimp only[YA,Y4];rw[SW R];have y:(c++[V.str (Xx x)]).length<=i+1/\f=f/\c++[V.str (Xx x)]=((xs.take (i+1)).map Xx).map V.str/\∃v,([some x]:St)=[v]:=by
  erw[⟨by rw[Su,Sw];lia,R,?_,_,R⟩];rw[e,Oa,u];simp
 rcases hm with⟨z,rfl,_⟩|⟨n,rfl,hn⟩;exact⟨_,R,.str z R y⟩;erw[⟨_,R,.int _ R ?_ y⟩];by_cases e:n=10000;subst e;lia;exact Wf ();rintro c g f ha ⟨rfl,e,v,rfl⟩ D G;rw[List.take_length]at e;exact⟨_,D,xs.map Xx,R,R,Zd.of (by rw[Zi,e]),Zpg C ok,q _ (Zw G _)⟩
def Ys(ws:List V):Str:=Str.join (OL " ") (ws.map Xx)
def Vx(x:ZT):List V:=[.str (OL "stop"),.str x.nm,.int (x.z:Nat),.int (x.ch:Nat)]
def WB(h:Yd z):QO (.str z):=.inl ⟨z,R,Sh h.2.1 ()⟩
def X6{z:Str}(h:z.length<=10):QO (.str z):=.inl ⟨z,R,Sh h ()⟩
def V8{n:Nat}(h:n<=10000):QO (.int n):=.inr ⟨n,R,h⟩
inductive Zph(t:Ya)(vs:List V)(H:Hp)(Q:VK)(_e3:XK):Prop|mk (n:Addr) (N:ZF) (x:ZT) (_:vs=[.ref n,.str x.nm]) (_:XX t H n N) (_:Yv ZT.nm N.st x.nm=some x) (_:Yd x.nm) (_:x.z<=10000) (_:x.ch<=10000) (_:∀H',Zf H H'->Q (.str (Ys (Vx x))) H')
def Zpi(c:Zu K mg t):Zo P w K mg base (Yu P w) 5 t.Zcq t.Zcr ["net","name"] (Zph t):=by
 erw[c.Zep.F.okX Zlr () λU A outer s H T Q E j h=>?_];ext⟨n,N,x,rfl,hn,g,nm,M,O,q⟩ h;erw[⟨_,(Ze (Zp (Zt c.G2 (Mu c) j Zn (Zc (Ye (Uk Zl (pv 1) (YL (pv 0) c.ZK c.L0.me (Zfz c) (j.mono ()) c.L0.b .nil Yi (Zc (pv 1))) (YL (pv 0) c.ZK c.L1.me (ZfA c) (j.mono ()) c.L1.b .nil Yi (Zc (pv 1))))))))),?_⟩];sleep 1;obtain⟨a,J⟩:=id hn;ext⟨u,fs,B,C⟩ J.ob;have G:YH ZT.nm N.st (.str x.nm)=true:=by show(Yv ZT.nm N.st x.nm).isSome=true;rw[g];rfl
 erw[⟨_,R,_,R,n,u,_,R,B,C.n_zone,_,R,n,N,.str x.nm,_,R,hn,.str _,λb=>(by rw[G]at b;cases b),λy f i=>?_⟩];obtain rfl:x=y:=So (g.symm.trans (V.str.inj f ▸ i));erw[⟨_,R,n,u,_,R,B,C.n_change,_,R,n,N,.str x.nm,_,R,hn,.str _,λb=>(by rw[G]at b;cases b),λy f i=>?_⟩];obtain rfl:x=y:=So (g.symm.trans (V.str.inj f ▸ i));erw[⟨zL9 R,λp I=>?_⟩];erw[⟨p,Vx x,R,Zd.of Zi,by show 4<=200;lia,?_,λL S=>q L ((Zw I _).trans S)⟩];intro v D;simp only[Vx,SG,List.mem_nil_iff,or_false]at D;rcases D with rfl|rfl|rfl|rfl;exact X6 ();exact WB nm;exact V8 M;exact V8 O
def zT(zs:OH):Str:=Str.join (OL "") (zs.map ZX)
theorem ZfU:∀c:List Str,Zs (Str.join (OL "") c)=(c.map Zs).flatten
 |[]=>rfl
 |[p]=>by show Zs p=(Zs p::[]).flatten;rw[List.flatten_cons,List.flatten_nil,Od]
 |p::q::r=>by
  have e:(OL "")=⟨#[]⟩:=by lia
  show Zs (p++OL "" ++ Str.join (OL "") (q::r))=Zs p++((q::r).map Zs).flatten;rw[Yy,Yy,ZfU (q::r),e];show(Zs p++[])++_=_;rw[Od]
def Zpj:∀z,z<=9->Zs (ZX z)=[48+z]:=by lia
def Mv{zs:OH}(h:∀z∈zs,z<=9):Zs (zT zs)=zs.map (48 + ·):=by
 unfold zT;rw[ZfU];induction zs with
 |nil=>rfl
 |cons z r f =>
  rw[SN,SN,List.flatten_cons,f λx c=>h x (SD _ c),Zpj z (h z SE)];rfl
def WU(x:YS):List V:=[.str (OL "ticket"),.str x.nm,.int (x.pr:Nat),.int (x.la:Nat),.str (zT x.zs)]
inductive Zpk(t:Ya)(vs:List V)(H:Hp)(Q:VK)(_e3:XK):Prop|mk (n:Addr) (N:ZF) (x:YS) (_:vs=[.ref n,.str x.nm]) (_:XX t H n N) (_:Yv YS.nm N.tk x.nm=some x) (_:x.Ok) (_:∀H',Zf H H'->Q (.str (Ys (WU x))) H')
def Zpl(c:Zu K mg t):Zo P w K mg base (Yu P w) 5 t.Zcs t.Zct ["net","name"] (Zpk t):=by
 erw[c.Zeq.F.okX TK () λd0 A outer s g0 vs f0 e0 I h=>?_];ext⟨n,N,x,rfl,hn,E,ok,q⟩ h;erw[⟨_,(Zh (ZR 2 TK.nd (YL (pv 0) c.ZK c.L4.me (ZfC c) (I.mono ()) c.L4.b .nil Yi (Zc (pv 1)))) (Zh (ZR 3 TK.nd (YQ PySem.F.plainAttrs_str PySem.F.slot_str_join PySem.F.type_str_join WJ Zl (Zc (YZ (cl:=[]) (N:=["zone"]) (fr:=[none]) R (YP (Zq ZH (pv 2) Za)) R () R () trivial trivial R (λ_ _ _ _ _=>(ZJ 0 (show List.Nodup (["zone"]:OD) by lia))) (λ_ _ _ _ _=>YM) (λ_ _ _ _ _=>(Z1 XS R c.Xc Xb (Zc (pv 0)))))))) (Ze (Zp (Zt c.G2 (Mu c) I Zn (Zc (Ye (Qb Zl (pv 1) (Zq ZH (pv 2) Za) (Zq ZH (pv 2) Za) (pv 3))))))))),?_⟩];sleep 3;obtain⟨a,S⟩:=id hn;ext⟨L,fs,T,U⟩ S.ob;have b0:YH YS.nm N.tk (.str x.nm)=true:=by show(Yv YS.nm N.tk x.nm).isSome=true;rw[E];rfl
 erw[⟨_,R,n,L,_,R,T,U.n_ticket,_,R,n,N,.str x.nm,_,R,hn,.str _,λb=>(by rw[b0]at b;cases b),λa0 Q fy v' M s1 J=>?_⟩];obtain rfl:x=a0:=So (E.symm.trans (V.str.inj Q ▸ fy));ext⟨r,l,rfl,C,c0,D⟩ J;have H:(ZI x.zs).length=x.zs.length:=Sv ..;have z6:=ok.z6;refine⟨R,_,R,r,_,2,_,R,R,Zg.of C,R,l,R,⟨_,Zd.of D⟩,Vq (K:=K) (a:=l) (xs:=ZI x.zs) (λi g u f=>f=M/\g=((x.zs.take i).map ZX).map V.str/\∃v,u=[v]) ⟨R,R,_,R⟩
  (by rw[H];exact Sh z6 ()) (λi g u f _ ⟨e,_⟩=>by rw[e];exact Zd.of D) ?_ ?_⟩
 rintro i v g u f ha j ⟨rfl,e,v0,rfl⟩;rw[Ob]at j;cases y:x.zs[i]? with
 |none=>rw[y]at j;cases j
 |some m =>
  rw[y]at j;obtain rfl:V.int (m:Int)=v:=So j;have hm:=(ok.rng m (SL y)).2;dsimp only[YA,Y4];rw[SW R];erw[⟨_,R,_,R,Wf (),?_,R,?_,_,R⟩];rw[Su,Sw];lia;rw[e,Oa,y];simp[ZX]
 rintro g u f ha ⟨rfl,e,v,rfl⟩ X Y;rw[H,List.take_length]at e;have s2:=Zw Y (.lst g);erw[⟨_,X,x.zs.map ZX,R,R,Zd.of (by rw[Zi,e]),Qx (m:=0) () (by rw[Sv];lia) (λz B=>?_),?_⟩];obtain⟨k,hk,rfl⟩:=SK.mp B;exact Sh (Uh (by have:=(ok.rng k hk).2;lia)) ();erw[⟨_,R,_,R,r,_,0,_,R,R,Zg.of (s2 _ _ C),R,_,R,r,_,1,_,R,R,Zg.of (s2 _ _ C),R,_,R,zL9 R,λp O=>?_⟩];erw[⟨p,WU x,R,Zd.of Zi,by show 5<=200;lia,?_,λf Z=>q f ((s1.trans (s2.trans (Zw O _))).trans Z)⟩];intro v G;simp only[WU,SG,List.mem_nil_iff,or_false]at G;rcases G with rfl|rfl|rfl|rfl|rfl;exact X6 ();exact WB ok.nm;exact V8 ok.pr;exact V8 (Sh ok.la ());erw[X6 ?_];rw[<-WI,show(zT x.zs).cps.toList=_ from Mv λz B=>Sh (ok.rng z B).2 (),Sv];lia
def Wk(c:Cl):List V:=[.str c.st,.str (wr c.ar),.str (wr c.lv)]
def C4(ks:List Cl):((ks.map Wk).flatten).length=3*ks.length:=by
 induction ks with
 |nil=>rfl
 |cons k r c=>rw[SN,List.flatten_cons,Su,c,Sy];show 3+_=_;lia
def XP(x:Tp):List V:=[.str (OL "trip"),.str x.nm,.str x.ru]++(x.cs.map Wk).flatten
inductive Zpm(t:Ya)(vs:List V)(H:Hp)(Q:VK)(_e3:XK):Prop|mk (n:Addr) (N:ZF) (x:Tp) (_:vs=[.ref n,.str x.nm]) (_:XX t H n N) (_:Yv Tp.nm N.tp x.nm=some x) (_:Yd x.nm) (_:Yd x.ru) (_:x.cs.length<=6) (_:(∀c∈x.cs,Yd c.st/\c.ar<=2879/\c.lv<=2879)) (_:∀H',Zf H H'->Q (.str (Ys (XP x))) H')
def Zpn(f:Zu K mg t):Zo P w K mg base (Yu P w) 5 t.Zcu t.Zcv ["net","name"] (Zpm t):=by
 erw[f.Zer.F.okX LH () λh0 A outer s d0 vs j0 i0 v e0=>?_];ext⟨n,N,x,rfl,hn,J,nm,nr,c6,cs,q⟩ e0;erw[⟨_,(Zh (ZR 2 LH.nd (Ye (Yk Zl (pv 1) (YL (pv 0) f.ZK f.L5.me (ZfD f) (v.mono ()) f.L5.b .nil Yi (Zc (pv 1)))))) (Zh (MJ PassesOwn.leaving R (YP (YL (pv 0) f.ZK f.L6.me (ZfE f) (v.mono ()) f.L6.b .nil Yi (Zc (pv 1)))) (Wq (n:=3) R (YB (ZJ 3 LH.nd) (YB (ZJ 4 LH.nd) (YB (ZJ 5 LH.nd) Wo)))) (Ze (Yc (YQ PySem.F.plainAttrs_list PySem.F.slot_list_extend PySem.F.type_list_extend Ld (pv 2) (Zc (Ye (Yk (pv 3) (Zt f.uH (ZfH f) v Yi (Zc (pv 4))) (Zt f.uH (ZfH f) v Yi (Zc (pv 5)))))))))) (Ze (Zp (Zt f.G2 (Mu f) v Zn (Zc (pv 2))))))),?_⟩];sleep 3;obtain⟨a,hN⟩:=id hn;ext⟨X,fs,Z,e2⟩ hN.ob;have b0:YH Tp.nm N.tp (.str x.nm)=true:=by show(Yv Tp.nm N.tp x.nm).isSome=true;rw[J];rfl
 erw[⟨_,R,_,R,n,X,_,R,Z,e2.n_rule_name,_,R,n,N,.str x.nm,_,R,hn,.str _,λb=>(by rw[b0]at b;cases b),λy G M=>?_⟩];obtain rfl:x=y:=So (J.symm.trans (V.str.inj G ▸ M));erw[⟨zL9 R,λg Y=>?_⟩];have D:=Zw Y (.lst [.str (OL "trip"),.str x.nm,.str x.ru]);have H:upd d0 g (.lst [.str (OL "trip"),.str x.nm,.str x.ru]) g=some (.lst [.str (OL "trip"),.str x.nm,.str x.ru]):=Zi;generalize upd d0 g (.lst [.str (OL "trip"),.str x.nm,.str x.ru])=H1 at D H ⊢;erw[⟨_,R,n,X,_,R,D _ _ Z,e2.n_calls,_,R,n,N,.str x.nm,_,R,hn.same D,.str _,λb=>(by rw[b0]at b;cases b),λy G M l us H2 s2 a0 c0 al=>?_⟩];obtain rfl:x=y:=So (J.symm.trans (V.str.inj G ▸ M));have U:=s2 _ _ H;have lw:l≠g:=λz=>by rw[z,H]at a0;cases a0
 have lu:=al.length;erw[⟨l,R,⟨_,Zd.of c0⟩,Qp (K:=K) (a:=l) (xs:=us) (λi B u=>Kp g H2 u/\u g=some (.lst ([.str (OL "trip"),.str x.nm,.str x.ru]++((x.cs.take i).map Wk).flatten))/\∃Q I O:Option V,B=[some (.ref n),some (.str x.nm),some (.ref g),Q,I,O]) ⟨λ_ _ _ e=>e,U,_,_,_,R⟩ (λi B u _ ⟨k,_⟩=>Zd.of (k _ _ lw c0)) ?_ ?_⟩];rintro i f0 B H3 hx ⟨C,j,Q,I,O,rfl⟩;obtain⟨c,ec,p,rfl,E⟩:=al.get hx;have S:=SL ec;have il:=(Sr.mp hx).1;have pp:p≠g:=λz=>by rw[z,U]at E;cases E
 erw[⟨p,_,R,Zg.of (C _ _ pp E),R,_,_,R,_,_,R,_,_,R,R,?_⟩];sleep 1;obtain⟨nc,ca,cl⟩:=cs c S;erw[⟨_,R,.inl ⟨R,_,Zd.of j⟩,_,R,_,R,.int (c.ar:Nat),_,R,.int _,.inl ⟨c.ar,R,ca,_,R,.int (c.lv:Nat),_,R,.int _,.inl ⟨c.lv,R,cl,zL9 R,λpl L=>?_⟩⟩⟩];have np:g≠pl:=λz=>by rw[<-z,j]at L;cases L
 erw[⟨g,pl,_,Wk c,R,R,(Zm np).trans j,Zi,?_,λb o nb e=>?_,?_,_,_,_,R⟩];rw[Su,C4];exact Sh (show 3+3*(x.cs.take i).length+3<=100 by have:=List.length_take_le' i x.cs;lia) ();have T:=C _ _ nb e;rwa[Zm nb,Zm (λz=>by rw[z,L]at T;cases T)];rw[Zi,Oa,ec,SM,List.flatten_append];simp;rintro B H3 ⟨C,j,Q,I,O,rfl⟩;rw[lu,List.take_length]at j;erw[⟨_,R,g,XP x,R,Zd.of j,?_,?_,λu s'=>q u λb o e=>s' _ _ (C _ _ (λz=>by rw[z,Y]at e;cases e) (s2 _ _ (D _ _ e)))⟩];rw[XP,Su,C4];show 3+3*x.cs.length<=200;lia;intro f0 h;rcases SH.mp h with h|h;simp only[SG,List.mem_nil_iff,or_false]at h;rcases h with rfl|rfl|rfl;exact X6 ();exact WB nm;exact WB nr;obtain⟨g0,hu,h⟩:=List.mem_flatten.mp h;obtain⟨c,S,rfl⟩:=SK.mp hu;simp only[Wk,SG,List.mem_nil_iff,or_false]at h;rcases h with rfl|rfl|rfl;exact WB (cs c S).1;exact X6 (by show 5<=10;lia);exact X6 (by show 5<=10;lia)
def VJ(x:Wl):List V:=[.str (OL "walk"),.str x.o,.str x.t,.int (x.m:Nat)]
def Vy(x:Yl):List V:=[.str (OL "days"),.str x.nm,.str (YO x.r)]
def Y3(N:ZF):List Str:=N.st.map (λx=>Ys (Vx x))++N.wk.map (λx=>Ys (VJ x))++N.ru.map (λx=>Ys (Vy x))++N.tk.map (λx=>Ys (WU x))++N.tp.map (λx=>Ys (XP x))
def QP(N:ZF):Str:=Str.join (OL "") ((Y3 N).map λz=>z++OL "\n")
structure jM(N:ZF):Prop where
 st:∀x∈N.st,x.z<=10000/\x.ch<=10000
 wk:∀x∈N.wk,x.m<=10000
 tp:∀x∈N.tp,∀c∈x.cs,c.ar<=2879/\c.lv<=2879
def Zpo{ws:List V}(h:∀v∈ws,(Xx v).length<=m):(Ys ws).length<=(m+1)*ws.length:=by
 have c:=StrLaws.join_length_le (OL " ") (ws.map Xx);have f:(OL " ").length=1:=by lia
 have n:((ws.map Xx).map (·.length)).sum<=m*ws.length:=by
  clear c;induction ws with
  |nil=>simp
  |cons y r i =>
   have u:=h y SE;have j:=i λx g=>h x (SD _ g);simp only[SN,List.sum_cons,Sy];rw[Nat.mul_add];lia
 unfold Ys;rw[f,Sv]at c;rw[Nat.add_mul];lia
def PB{N:ZF}(ok:XZ N)(h:∀v∈(N.st.map Vx++N.wk.map VJ++N.ru.map Vy++N.tk.map WU++N.tp.map XP),(∀x∈v,QO x)/\v.length<=21):∀z∈Y3 N,z.length<=110000:=by
 intro z c;have e:Y3 N=(N.st.map Vx++N.wk.map VJ++N.ru.map Vy++N.tk.map WU++N.tp.map XP).map Ys:=by unfold Y3;simp only[SM,Of];rfl
 rw[e]at c;obtain⟨ws,g,rfl⟩:=SK.mp c;obtain⟨a,b⟩:=h ws g;exact Sh (Zpo λv f=>Mt (a v f)) (Sh (Nat.mul_le_mul_left 5001 b) ())
def Mw{c:OD}(h:∀x∈c,x.length<=m):(c.map λx=>x.length+k).sum<=(m+k)*c.length:=by
 induction c with
 |nil=>simp
 |cons y r g =>
  have j:=h y SE;have i:=g λx f=>h x (SD _ f);simp only[SN,List.sum_cons,Sy];rw[Nat.mul_add];lia
def PD{N:ZF}(ok:XZ N)(h:jM N):∀v∈(N.st.map Vx++N.wk.map VJ++N.ru.map Vy++N.tk.map WU++N.tp.map XP),(∀x∈v,QO x)/\v.length<=21:=by
 intro v f;simp only[SH,SK]at f;rcases f with(((⟨x,g,rfl⟩|⟨x,g,rfl⟩)|⟨x,g,rfl⟩)|⟨x,g,rfl⟩)|⟨x,g,rfl⟩;erw[⟨λv f=>?_,by show 4<=21;lia⟩];simp only[Vx,SG,List.mem_nil_iff,or_false]at f;rcases f with rfl|rfl|rfl|rfl;exact X6 ();exact WB (ok.so x g);exact V8 (h.st x g).1;exact V8 (h.st x g).2;erw[⟨λv f=>?_,by show 4<=21;lia⟩];simp only[VJ,SG,List.mem_nil_iff,or_false]at f;rcases f with rfl|rfl|rfl|rfl;exact X6 ();exact WB (ok.wo x g).1;exact WB (ok.wo x g).2;exact V8 (h.wk x g);erw[⟨λv f=>?_,by show 3<=21;lia⟩];have ro:=(ok.ro x g).2;simp only[Vy,SG,List.mem_nil_iff,or_false]at f;rcases f with rfl|rfl|rfl;exact X6 ();exact WB (ok.ro x g).1;exact .inl ⟨_,R,Sh (Nu ro.1 ro.2.1) ()⟩;erw[⟨λv f=>?_,by show 5<=21;lia⟩];have to:=ok.to x g;have z6:=to.z6;simp only[WU,SG,List.mem_nil_iff,or_false]at f;rcases f with rfl|rfl|rfl|rfl|rfl;exact X6 ();exact WB to.nm;exact V8 to.pr;exact V8 (Sh to.la ());erw[X6 ?_];rw[<-WI,show(zT x.zs).cps.toList=_ from Mv λz n=>Sh (to.rng z n).2 (),Sv];lia;have po:=ok.po x g;have y:=po.2.2.2.1;erw[⟨λv f=>?_,by rw[XP,Su,C4];show 3+3*x.cs.length<=21;lia⟩];rcases SH.mp f with f|f;simp only[SG,List.mem_nil_iff,or_false]at f;rcases f with rfl|rfl|rfl;exact X6 ();exact WB po.1;exact WB po.2.1;obtain⟨u,i,f⟩:=List.mem_flatten.mp f;obtain⟨c,j,rfl⟩:=SK.mp i;simp only[Wk,SG,List.mem_nil_iff,or_false]at f;rcases f with rfl|rfl|rfl;exact WB (po.2.2.2.2 c j);exact X6 (by show 5<=10;lia);exact X6 (by show 5<=10;lia)
inductive Zpp(t:Ya)(vs:List V)(H:Hp)(Q:VK)(_e3:XK):Prop|mk (n:Addr) (N:ZF) (_:vs=[.ref n]) (_:XX t H n N) (_:XZ N) (_:jM N) (_:∀H',Zf H H'->Q (.str (QP N)) H')
def Zpq{c:Type}{xs:List c}{i:Nat}{x:c}(e:xs[i]? = some x):xs.take (i+1)=xs.take i++[x]:=by rw[Oa,e];rfl
def jN{n:Type}{us:List V}{xs:List n}{l:Addr}{E:St}{I:TE}{g:Hp}{Q:VK}{S:V->n->Prop}(R:Hp->V->n->Prop)(mono:∀{H c:Hp} {v:V} {x:n},Zf H c->R H v x->R c v x)(hl:g l=some (.lst us))(D:Al S us xs)(few:xs.length<=100)
  (hs:∀v x,x∈xs->S v x->∀c,Zf g c->∀L:VK,(∀v h,Zf c h->R h v x->L v h)->I (some v::E) c L) (hd:∀f c p,Zf g c->g p=none->f.length<=100->Al (R c) f xs->c p=none->Q (.ref p) (upd c p (.lst f))) :
  ∃W:Nat->Nat->List V->St->Hp->Prop,(∃m,W 0 m [] (none::E) g)/\∀i m f O H,W i m f O H ->
   ((Wr K l).stop i H/\Wd Q f H) \/
   ((Wr K l).go i H/\f.length<sizeLine/\∃N:List V->St->Hp->Prop,(∀M G c,N M G c->∃T,T<m/\W (i+1) T M G c)/\∀x c,(Wr K l).yld i H x c->YA 0 x O c λB h=>Y4 B h λb U=>if b=true then I B U λy Z=>N (f++[y]) B Z else N f B U):=by
 erw[Vq (K:=K) (a:=l) (xs:=us) (λi f u c=>Zf g c/\Al (R c) f (xs.take i)/\∃v,u=v::E) ⟨Zf.refl _,.nil,_,rfl⟩ (by rw[D.length];exact Sh few ()) (λi f u c _ ⟨e,_⟩=>Zd.of (e _ _ hl)) ?_ ?_];rintro i v f u c ha X ⟨j,C,Y,rfl⟩;obtain⟨x,ex,sx⟩:=D.get X;dsimp only[YA,Y4];rw[SW rfl];erw[hs v x (SL ex) sx c j _ λv h s2 d=>⟨by rw[Su,Sw];lia,j.trans s2,?_,_,rfl⟩];rw[Zpq ex];exact(C.imp λ_ _=>mono s2).snoc d;rintro f u c ha ⟨j,C,Y,rfl⟩ p J;rw[D.length]at ha;rw[D.length,List.take_length]at C;exact hd f c p j (j.free J) () C J
theorem Qn{c:Type}{nm:c->Str}:∀xs:List c,Al (λv x=>v=V.str (nm x)) ((xs.map nm).map V.str) xs
 |[]=>.nil
 |_::r=>.cons R (Qn r)
def Zpr{c:Type}{f:c->Str}{vs:List V}{xs:List c}(h:Al (λv x=>v=V.str (f x)) vs xs):vs=(xs.map f).map V.str:=by
 induction h with
 |nil=>rfl
 |cons a _ g=>rw[a,g];rfl
def QQ{C:Type}{us:List V}{xs:List C}{l:Addr}{G:St}{I:TE}{u:Hp}{Q:VK}{S:V->C->Prop}(f:C->Str)(hl:u l=some (.lst us))(Z:Al S us xs)(few:xs.length<=100)
  (X:∀v x,x∈xs->S v x->∀c,Zf u c->∀n:VK,(∀j,Zf c j->n (.str (f x)) j)->I (some v::G) c n) (hd:∀c p,Zf u c->c p=none->Q (.ref p) (upd c p (.lst ((xs.map f).map V.str)))) :
  ∃W:Nat->Nat->List V->St->Hp->Prop,(∃m,W 0 m [] (none::G) u)/\∀i m g L H,W i m g L H ->
   ((Wr K l).stop i H/\Wd Q g H) \/
   ((Wr K l).go i H/\g.length<sizeLine/\∃N:List V->St->Hp->Prop,(∀J E c,N J E c->∃M,M<m/\W (i+1) M J E c)/\∀x c,(Wr K l).yld i H x c->YA 0 x L c λB j=>Y4 B j λb O=>if b=true then I B O λy U=>N (g++[y]) B U else N g B O) :=
 jN (λ_ v x=>v=.str (f x)) (λ_ h=>h) hl Z few (λv x m sx c D n q'=>X v x m sx c D n λj s2=>q' _ _ s2 R) λg c p D _ _ Y T=>by rw[Zpr Y];exact hd c p D T
def PF{j i:Hp}{c pl:Addr}{X Y:OD}{Q:VK}(g:H c=none)(S:Zf H j)(ck:j c=some (.lst (X.map V.str)))(s':Zf j i)(h:i pl=none)(few:X.length+Y.length<=100)(k:∀f,Zf H f->f c=some (.lst ((X++Y).map V.str))->Q .non f):gP (.ref c) [.ref pl] (upd i pl (.lst (Y.map V.str))) Q:=by
 have np:c≠pl:=λz=>by rw[<-z,s' _ _ ck]at h;cases h
 erw[⟨c,pl,_,_,R,R,(Zm np).trans (s' _ _ ck),Zi,by rw[Sv,Sv];exact Sh few (),k _ (λb o e=>?_) (by rw[Zi,SM])⟩];have n:=s' _ _ (S _ _ e);rwa[Zm (show b≠c from λz=>by rw[z,g]at e;cases e),Zm (show b≠pl from λz=>by rw[z,h]at n;cases n)]
def Mx(c:Zu K mg t):Zo P w K mg base Zr 46 t.Zcm t.Zcn ["net"] (Zpp t):=by
 erw[c.G1.F.ok Zbh () λx0 A outer s H vs e0 y0 h q0=>?_];ext⟨n,N,rfl,hn,ok,nu,q⟩ q0;erw[⟨_,(Zh (U5 (i0:=1) (cl:=[(OL "net",s.heap.objs.size+1)]) (N:=["name","net"]) (fr:=[none,some 0]) Zbh.nd R (Or.inl R) R (YP (Vo (pv 0) c.ZK c.Qk.me (Py c) (h.mono ()) c.Qk.b .nil Zn)) R () R () ⟨⟨R,Or.inl R,Or.inl R,_,R,R⟩,trivial⟩ ⟨R,trivial⟩ R (λ_ _ _ _ _=>(ZJ 0 (show List.Nodup (["name","net"]:OD) by lia))) (λ_ _ _ _ _=>YM) (λ_ _ _ _ _=>(Zt c.Zep (Zpi c) h Xa (ZB (pv 1) (pv 0))))) (Zh (Yc (YQ PySem.F.plainAttrs_list PySem.F.slot_list_extend PySem.F.type_list_extend Ld (pv 1) (Zc (YZ (cl:=[]) (N:=["walk"]) (fr:=[none]) R (YP (Vo (pv 0) c.ZK c.LY.me (Zfx c) (h.mono ()) c.LY.b .nil Zn)) R () R () trivial trivial R (λ_ _ _ _ _=>(ZJ 0 (show List.Nodup (["walk"]:OD) by lia))) (λ_ _ _ _ _=>YM) (λ_ _ _ _ _=>(Zt c.G2 (Mu c) h Zn (Zc (Zj Ub (Ye (Zc Zl)) (Z1 (show Xk _ (Value.type "list") (λxs H e0=>∃p ys,xs=[V.ref p]/\(Zd K H p ys\/Zg K H p ys)/\∀(l:Addr) ,H l=none->e0 (V.ref l) (upd H l (HO.lst ys)))from Uz) R c.Y1 Y6 (Zc (pv 0))))))))))) (Zh (Yc (YQ PySem.F.plainAttrs_list PySem.F.slot_list_extend PySem.F.type_list_extend Ld (pv 1) (Zc (YZ (cl:=[(OL "net",s.heap.objs.size+1)]) (N:=["name","net"]) (fr:=[none,some 0]) R (YP (Vo (pv 0) c.ZK c.LZ.me (Zfw c) (h.mono ()) c.LZ.b .nil Zn)) R () R () ⟨⟨R,Or.inl R,Or.inl R,_,R,R⟩,trivial⟩ ⟨R,trivial⟩ R (λ_ _ _ _ _=>(ZJ 0 (show List.Nodup (["name","net"]:OD) by lia))) (λ_ _ _ _ _=>YM) (λ_ _ _ _ _=>(Zt c.G2 (Mu c) h Zn (Zc (Ye (Yk Zl (pv 0) (Zt c.Zem (Zpe c) h Xa (Zc (YL (pv 1) c.ZK c.L3.me (ZfB c) (h.mono ()) c.L3.b .nil Xa (Zc (pv 0)))))))))))))) (Zh (Yc (YQ PySem.F.plainAttrs_list PySem.F.slot_list_extend PySem.F.type_list_extend Ld (pv 1) (Zc (YZ (cl:=[(OL "net",s.heap.objs.size+1)]) (N:=["name","net"]) (fr:=[none,some 0]) R (YP (Vo (pv 0) c.ZK c.A5.me (jG c) (h.mono ()) c.A5.b .nil Zn)) R () R () ⟨⟨R,Or.inl R,Or.inl R,_,R,R⟩,trivial⟩ ⟨R,trivial⟩ R (λ_ _ _ _ _=>(ZJ 0 (show List.Nodup (["name","net"]:OD) by lia))) (λ_ _ _ _ _=>YM) (λ_ _ _ _ _=>(Zt c.Zeq (Zpl c) h Xa (ZB (pv 1) (pv 0)))))))) (Zh (Yc (YQ PySem.F.plainAttrs_list PySem.F.slot_list_extend PySem.F.type_list_extend Ld (pv 1) (Zc (YZ (cl:=[(OL "net",s.heap.objs.size+1)]) (N:=["name","net"]) (fr:=[none,some 0]) R (YP (Vo (pv 0) c.ZK c.A6.me (jH c) (h.mono ()) c.A6.b .nil Zn)) R () R () ⟨⟨R,Or.inl R,Or.inl R,_,R,R⟩,trivial⟩ ⟨R,trivial⟩ R (λ_ _ _ _ _=>(ZJ 0 (show List.Nodup (["name","net"]:OD) by lia))) (λ_ _ _ _ _=>YM) (λ_ _ _ _ _=>(Zt c.Zer (Zpn c) h Xa (ZB (pv 1) (pv 0)))))))) (Ze (Zp (YQ PySem.F.plainAttrs_str PySem.F.slot_str_join PySem.F.type_str_join WJ Zl (Zc (YZ (cl:=[]) (N:=["row"]) (fr:=[none]) R (YP (pv 1)) R () R () trivial trivial R (λ_ _ _ _ _=>(ZJ 0 (show List.Nodup (["row"]:OD) by lia))) (λ_ _ _ _ _=>YM) (λ_ _ _ _ _=>(Zj Yo (pv 0) Zl)))))))))))),?_⟩];sleep 6;obtain⟨a,hN⟩:=id hn;ext⟨E,fs,G,D⟩ hN.ob;have wd:=PD ok nu;have s8:=ok.s8;have w12:=ok.w12;have r6:=ok.r6;have t3:=ok.t3;have p10:=ok.p10;erw[⟨_,R,n,E,_,R,G,D.n_stops,n,N,R,hn,λl1 f1=>?_⟩];generalize f:upd H l1 _=H1;have s1:=ZO f1 f;erw[⟨l1,R,⟨_,Zd.of (ZM f)⟩,QQ (λx=>Ys (Vx x)) (ZM f) (Qn N.st) () (λv x g u y j O i=>?_) λH2 Z s2 a0=>?_⟩];subst u;exact⟨_,R,_,R,n,N,x,R,hn.same (s1.trans j),Mj ok.sn g,ok.so x g,(nu.st x g).1,(nu.st x g).2,λB Q=>i B Q⟩;have S0:=s1.trans s2;have T:H Z=none:=S0.free a0;clear f;generalize f:upd H2 Z _=B;have U:=S0.trans (ZO a0 f);have c3:=ZM f;clear f a0 S0 s2 s1;erw[⟨_,R,.inl ⟨R,_,Zd.of c3⟩,_,R,n,E,_,R,U _ _ G,D.n_walks,n,N,R,hn.same U,λl2 ws f2 al=>?_⟩];generalize f:upd B l2 _=H4;have s4:=ZO f2 f;erw[⟨l2,R,⟨_,Zd.of (ZM f)⟩,QQ (λx=>Ys (VJ x)) (ZM f) al () (λv x g sx y j O i=>?_) λH5 pl s5 C=>PF T U c3 (s4.trans s5) C (by rw[Sv,Sv];lia) λH6 S c6=>?_⟩];ext⟨p,rfl,hp⟩ sx;have hp:=j _ _ (s4 _ _ hp);erw[⟨zL9 R,λX fa=>?_⟩];have s6:=Zw fa (.lst [.str (OL "walk")]);have ca:upd y X (.lst [.str (OL "walk")]) X=some (.lst [.str (OL "walk")]):=Zi;generalize upd y X (.lst [.str (OL "walk")])=H6 at s6 ca ⊢;erw[⟨_,R,p,_,R,.inr (Zg.of (s6 _ _ hp)),λpb fb=>?_⟩];have I:=Zw fb (.lst [.str x.o,.str x.t,.int (x.m:Nat)]);erw[⟨X,pb,_,_,R,R,I _ _ ca,Zi,zL9 R,λpc fc=>?_⟩];exact⟨pc,VJ x,R,Zd.of Zi,by show 4<=200;lia,(wd (VJ x) (by simp only[SH,SK];exact .inl (.inl (.inl (.inr ⟨x,g,R⟩))))).1,λH8 s9=>i H8 (s6.trans (I.trans ((Zw fc _).trans s9)))⟩;clear f s4 f2 al c3 U;erw[⟨_,R,.inl ⟨R,_,Zd.of c6⟩,_,R,n,E,_,R,S _ _ G,D.n_rules,n,N,R,hn.same S,λl3 f3=>?_⟩];generalize f:upd H6 l3 _=H7;have I:=ZO f3 f;erw[⟨l3,R,⟨_,Zd.of (ZM f)⟩,QQ (λx=>Ys (Vy x)) (ZM f) (Qn N.ru) () (λv x g u y j O i=>?_) λH8 pl j0 C=>PF T S c6 (I.trans j0) C (by rw[Su,Sv,Sv,Sv];lia) λH9 M c9=>?_⟩];subst u;have fx:=Mj ok.rn g;have S8:=S.trans (I.trans j);have u0:YH Yl.nm N.ru (.str x.nm)=true:=by show(Yv Yl.nm N.ru x.nm).isSome=true;rw[fx];rfl
 erw[⟨_,R,_,R,n,E,_,R,S8 _ _ G,D.n_rule,_,R,n,N,.str x.nm,_,R,hn.same S8,ok,.str _,λb=>(by rw[u0]at b;cases b),λs0 ey fy v' H9 s9 n0=>?_⟩];obtain rfl:x=s0:=So (fx.symm.trans (V.str.inj ey ▸ fy));ext⟨b,rfl,f0⟩ n0;rw[c.kf]at f0;have ro:=(ok.ro x g).2;exact⟨b,x.r,R,f0,ro.1,ro.2.1,ro.2.2,λl0 J=>⟨zL9 R,λpc fc=>⟨pc,Vy x,R,Zd.of Zi,by show 3<=200;lia,(wd (Vy x) (by simp only[SH,SK];exact .inl (.inl (.inr ⟨x,g,R⟩)))).1,λg0 b0=>i g0 (s9.trans (J.trans ((Zw fc _).trans b0)))⟩⟩⟩;clear f I f3 c6 S;erw[⟨_,R,.inl ⟨R,_,Zd.of c9⟩,_,R,n,E,_,R,M _ _ G,D.n_tickets,n,N,R,hn.same M,λl4 f4=>?_⟩];generalize f:upd H9 l4 _=l0;have J:=ZO f4 f;erw[⟨l4,R,⟨_,Zd.of (ZM f)⟩,QQ (λx=>Ys (WU x)) (ZM f) (Qn N.tk) () (λv x g u y j O i=>?_) λg0 pl b0 C=>PF T M c9 (J.trans b0) C (by rw[Su,Su,Sv,Sv,Sv,Sv];lia) λr0 L c0=>?_⟩];subst u;exact⟨_,R,_,R,n,N,x,R,hn.same (M.trans (J.trans j)),Mj ok.tn g,ok.to x g,λB Q=>i B Q⟩;clear f J f4 c9 M;erw[⟨_,R,.inl ⟨R,_,Zd.of c0⟩,_,R,n,E,_,R,L _ _ G,D.n_trips,n,N,R,hn.same L,λl5 f5=>?_⟩];generalize f:upd r0 l5 _=z0;have d0:=ZO f5 f;erw[⟨l5,R,⟨_,Zd.of (ZM f)⟩,QQ (λx=>Ys (XP x)) (ZM f) (Qn N.tp) () (λv x g u y j O i=>?_) λv0 pl t0 C=>PF T L c0 (d0.trans t0) C (by rw[Su,Su,Su,Sv,Sv,Sv,Sv,Sv];lia) λp0 m0 Y=>?_⟩];subst u;have po:=ok.po x g;exact⟨_,R,_,R,n,N,x,R,hn.same (L.trans (d0.trans j)),Mj ok.pn g,po.1,po.2.1,po.2.2.2.1,λh0 mc=>⟨po.2.2.2.2 h0 mc,nu.tp x g h0 mc⟩,λB Q=>i B Q⟩;clear f d0 f5 c0 L;have Y:p0 Z=some (.lst ((Y3 N).map V.str)):=Y;have zl:∀z∈Y3 N,z.length<=110000:=PB ok wd;have lr:(Y3 N).length<=39:=by
  unfold Y3;simp only[Su,Sv];lia
 erw[⟨R,_,R,Z,R,⟨_,Zd.of Y⟩,QQ (λz=>z++OL "\n") Y (by have:=Qn (nm:=id) (Y3 N);rw[List.map_id]at this;exact this) () (λv z mz u y j O i=>?_) λw0 p2 o0 k0=>?_⟩];subst u;exact⟨_,R,_,_,R,R,Sh (Nat.add_le_add_right (zl z mz) _) (),i y (Zf.refl _)⟩;erw[⟨_,p2,(Y3 N).map λz=>z++OL "\n",R,R,Zd.of Zi,?_,q _ (m0.trans (o0.trans (Zw k0 _)))⟩];have h5:(OL "").length=0:=by lia
 erw[Sh (Mw (m:=110001) λx hx=>?_) ?_];obtain⟨z,hz,rfl⟩:=SK.mp hx;have h6:(OL "\n").length<=1:=by lia
 exact Q4 (zl z hz) h6;rw[h5,Sv];exact Sh (Nat.mul_le_mul_left _ lr) ()
theorem ZfV(c:Nat):∀(a b:List (List Nat)),b≠[]->YF c (a++[YF c b])=YF c (a++b)
 |[],b,_=>by cases b<;>rfl
 |[x],b,f=>by
  cases b with
  |nil=>exact Ot R f
  |cons y r=>rfl
 |x::y::r,b,f=>by
  show x++c::YF c ((y::r)++[YF c b])=x++c::YF c ((y::r)++b);rw[ZfV c (y::r) b f]
def ZfW{n:Nat}(h:n<=10000):XF (Zs (ZX n))=some n:=by
 by_cases e:n=10000;subst e;lia;exact LD ()
def Zps(h:∀w∈spl 32 l,w≠[]):∀r,l≠32::r:=by
 rintro r rfl;exact h [] (by show[]∈(if 32=32 then _ else _);rw[SW R];exact SE) R
theorem jO(d:Nat):∀r:List Nat,spl d (r++[d])=spl d r++[[]]
 |[]=>by show(if d=d then _ else _)=_;rw[SW R];rfl
 |c::r=>by
  show spl d (c::(r++[d]))=_;by_cases e:c=d;rw[spl,SW e,jO d r,spl,SW e];rfl;rw[spl,SV e,jO d r,spl,SV e];cases h:spl d r with
  |nil=>exact Ot h (M6 d r)
  |cons w ws=>rfl
def Zpt(h:∀w∈spl 32 l,w≠[]):∀r,l≠r++[32]:=by
 rintro r rfl;exact h [] (by rw[jO];exact SH.mpr (.inr SE)) R
def C5(ws:List (List Nat)):List V:=ws.map λl=>V.str ⟨l.toArray⟩
def Zpu:OL "#"=(⟨#[35]⟩:Str):=by lia
def ZfX(l core:OH):Prop:=∃p q rest,l=List.replicate p 32++core++List.replicate q 32++rest/\(rest=[]\/∃r,rest=35::r)/\35∉core
inductive Zpv(vs:List V)(H:Hp)(Q:VK)(_e3:XK):Prop|mk (z:Str) (core:OH) (ws:List (List Nat)) (_:vs=[.str z]) (_:z.length+2<=sizeLine) (_:ZfX (Zs z) core) (_:((core=[]/\ws=[])\/(core≠[]/\spl 32 core=ws/\∀w∈ws,w≠[]))) (_:∀p H',H p=none->Zf H H'->H' p=some (.lst (C5 ws))->Q (.ref p) H')
def Zpw(L:Zu K mg t):Zo P w K mg base Zr 1 t.ZcE t.ZcF ["row"] Zpv:=by
 erw[L.Zeu.F.ok Zbj () λS A outer s H O Q E T h=>?_];ext⟨z,core,ws,rfl,n,⟨pn,i,rest,x,C,M⟩,u,q⟩ h;erw[⟨_,(Zh (ZR 1 Zbj.nd (YQ PySem.F.plainAttrs_str PySem.F.slot_str_strip PySem.F.type_str_strip ZkW (Zq ZH (YQ PySem.F.plainAttrs_str PySem.F.slot_str_partition PySem.F.type_str_partition Zk6 (pv 0) (Zc Zl)) Za) (Zc Zl))) (Ze (Zp (K2 (ZV Z8 (pv 1) Zl) (Ye Xz) (YQ PySem.F.plainAttrs_str PySem.F.slot_str_split PySem.F.type_str_split Na (pv 1) (Zc Zl)))))),?_⟩];sleep 2;have len:(Zs z).length=z.length:=WI z;have J:35∉List.replicate pn 32++core++List.replicate i 32:=λh=>by
  rcases SH.mp h with h|h;rcases SH.mp h with h|h;exact Ot (List.mem_replicate.mp h).2 ();exact M h;exact Ot (List.mem_replicate.mp h).2 ()
 have I:Txt.stripChars ⟨(List.replicate pn 32++core++List.replicate i 32).toArray⟩ (OL " ")=⟨core.toArray⟩:=by
  rcases u with⟨e,_⟩|⟨_,e,f⟩;exact Zbf R (λr h=>nomatch e.symm.trans h) (λr h=>Ot (e.symm.trans h).symm (by simp));rw[<-e]at f;exact Zbf R (Zps f) (Zpt f)
 have v:(List.replicate pn 32++core++List.replicate i 32).length<=z.length:=by rw[<-len,x,Su (bs:=rest)];exact Oo _ _
 erw[⟨_,R,R,z,35,_,rest,R,congrArg (λz=>[V.str z]) Zpu,Sh (Oo _ 2) n,x,J,C,λp D G y=>⟨p,_,0,_,R,R,Zg.of Zi,R,R,_,_,R,R,Sh v (Sh (Oo _ 2) n),?_⟩⟩];rw[I];have g:=Zw y (.tup [.str ⟨(List.replicate pn 32++core++List.replicate i 32).toArray⟩,.str D,.str G]);erw[⟨_,R,R,_,R,?_⟩];have B:decide (V.str (⟨core.toArray⟩:Str)=V.str (OL ""))=decide (core=[]):=by rw[Lo,show(OL "").cps.toList=[] by lia]
 rw[B];rcases u with⟨e,rfl⟩|⟨ne,e,f⟩;erw[Zy (SR e) ⟨zL9 R,λj c=>q j _ (g.free c) (g.trans (Zw c _)) Zi⟩];erw[Zk (λh=>ne (SU h)) ⟨_,R,R,⟨core.toArray⟩,32,R,congrArg (λz=>[V.str z]) A0,?_,λj c=>q j _ (g.free c) (g.trans (Zw c _)) ?_⟩];erw[Sh (Nat.add_le_add_right (Sh ?_ v) 2) n];show core.length<=_;rw[Su,Su];lia;rw[Zi,<-e];rfl
def ZfY(ws:OD):Prop:=∃k r,ws=k::r/\(((k=OL "stop" \/ k=OL "walk")/\r.length=3)\/(k=OL "ticket" /\ r.length=4)\/(k=OL "days" /\ 2<=r.length)\/(k=OL "trip" /\ (r.length+1)%3=0))
inductive Zpx(vs:List V)(H:Hp)(Q:VK)(_e3:XK):Prop|mk (p:Addr) (ws:OD) (_:vs=[.ref p]) (_:H p=some (.lst (ws.map V.str))) (_:ZfY ws) (_:(∀w∈ws,Zs w≠[])) (_:∀H',Zf H H'->Q (.bl true) H')
def Zpy(y:Zu K mg t):Zo P w K mg base Zr 1 t.ZcI t.ZcJ ["words"] Zpx:=by
 erw[y.Zew.F.ok Zbl () λM A outer s H L Q E O h=>?_];ext⟨p,ws,rfl,g,⟨k,r,rfl,I⟩,ne,q⟩ h;erw[⟨_,(Zh (ZC (K5 E3 Zl (pv 0) R) (Ze (Zp Xy)) ZE) (Zh (ZR 1 Zbl.nd (Yp WY y.XJ XG (Zc (pv 0)))) (Zh (ZC (K5 E3 (Zq Yf (pv 0) Za) (Y9 (ZB Zl Zl)) R) (Ze (Zp (Xl Z8 (pv 1) Za (XD _)))) ZE) (Zh (ZC (ZV Z8 (Zq Yf (pv 0) Za) Zl) (Ze (Zp (Xl Z8 (pv 1) Za (XD _)))) ZE) (Zh (ZC (ZV Z8 (Zq Yf (pv 0) Za) Zl) (Ze (Zp (Xl MP (pv 1) Za (XD _)))) ZE) (Ze (Zp (Vi (Xl Z8 (Zq Yf (pv 0) Za) Zl (XD _)) (WF (Xl Z8 (Zj Z7 (pv 1) Za) Za (XD _))))))))))),?_⟩];sleep 6;have G:((k::r).map V.str).all WW=true:=by rw[List.all_eq_true];intro v u;obtain⟨z,_,rfl⟩:=SK.mp u;rfl
 have C:VU (.str (OL "")) ((k::r).map V.str)=false:=by
  unfold VU;rw[List.any_eq_false];intro v u e;obtain⟨z,D,rfl⟩:=SK.mp u;have e:(z==OL "")=true:=e;exact ne z D (by rw[eq_of_beq e];lia)
 have i:YW ((k::r).map V.str) 0=some (.str k):=Wt (j:=0) R;erw[⟨_,R,p,_,R,.inl (Zd.of g),R,G,_,R,Zk (by show ¬ (VU _ _=true);rw[C];lia) ?_⟩];sleep 1;erw[⟨_,R,p,_,R,.inl (Zd.of g),?_⟩];have n:((k::r).map V.str).length=r.length+1:=by rw[Sv];rfl
 erw[⟨_,R,p,_,0,_,R,R,Zd.of g,i,zL9 R,λpt B=>?_⟩];have f:=Zw B (.tup [.str (OL "stop"),.str (OL "walk")]);have x:=f _ _ g;erw[⟨pt,_,R,.inr (Zg.of Zi),R,R,_,R,?_⟩];rcases I with⟨J,c⟩|⟨rfl,c⟩|⟨rfl,c⟩|⟨rfl,c⟩;erw[Zy (by rcases J with rfl|rfl<;>decide +kernel) ⟨_,R,R,?_⟩];rw[SR (show V.int (((k::r).map V.str).length:Nat)=.int 4 by rw[n,c];rfl)];exact q _ f
 all_goals erw[Zk () ⟨_,R,p,_,0,_,R,R,Zd.of x,i,R,_,R,?_⟩]
 erw[Zy (SR R) ⟨_,R,R,?_⟩];rw[SR (show V.int (((OL "ticket" :: r).map V.str).length:Nat)=.int 5 by rw[n,c];rfl)];exact q _ f
 all_goals erw[Zk () ⟨_,R,p,_,0,_,R,R,Zd.of x,i,R,_,R,?_⟩]
 erw[Zy (SR R) ⟨_,R,_,_,R,R,?_⟩];rw[SR (show(3:Int)<=(((OL "days" :: r).map V.str).length:Nat) by rw[n];lia)];exact q _ f;erw[Zk () ⟨_,R,p,_,0,_,R,R,Zd.of x,i,R,_,R,Zy (SR R) ⟨_,R,_,_,R,R,(),R,?_⟩⟩];rw[SR (show V.int ((((OL "trip" :: r).map V.str).length:Nat)%3)=.int 0 by rw[n];exact congrArg V.int ())];exact q _ f
inductive Zpz(vs:List V)(H:Hp)(Q:VK)(_e3:XK):Prop|mk (n:Nat) (_:vs=[.str (ZX n)]) (_:n<=10000) (_:∀H',Zf H H'->Q (.int n) H')
def My(c:Zu K mg t):Zo P w K mg base Zr 3 t.ZcM t.ZcN ["word"] Zpz:=by
 erw[c.G3.F.ok Zbm () λu A outer s H j Q E g h=>?_];ext⟨n,rfl,hn,q⟩ h;erw[⟨_,(Zh (ZR 1 Zbm.nd (Zt c.NL (jJ c) g Zn (Zc (pv 0)))) (Zh (ZC (kF (ZgE (pv 1))) (Ze Wm) ZE) (Ze (Zp (pv 1))))),?_⟩];sleep 3;have e:=ZfW hn;erw[⟨_,R,ZX n,R,Sh (Mt (V8 hn)) (),λi f=>?_⟩];rw[show XF (ZX n).cps.toList=some n from e];exact⟨_,R,_,R,Zk (λe=>nomatch (show V.int _=V.non from SU e)) ⟨_,R,q i f⟩⟩
inductive ZpA(vs:List V)(H:Hp)(Q:VK)(_e3:XK):Prop|mk (zs:OH) (_:vs=[.str (zT zs)]) (_:1<=zs.length) (_:zs.length<=6) (_:(∀z∈zs,z<=9)) (_:∀l H',H l=none->Zf H H'->H' l=some (.lst (ZI zs))->Q (.ref l) H')
def ZpB(f:Zu K mg t):Zo P w K mg base Zr 2 t.ZcO t.ZcP ["word"] ZpA:=by
 erw[f.Zey.F.ok Zlw () λY A outer s H X Q E T h=>?_];ext⟨zs,rfl,z1,z6,x,q⟩ h;erw[⟨_,(Zh (ZC (Yn (Ym (Zt f.NK (jI f) T Zn (Zc (pv 0))))) (Ze Wm) ZE) (Ze (Zp (YZ (cl:=[]) (N:=["sign"]) (fr:=[none]) R (Zks (pv 0)) R () R () trivial trivial R (λ_ _ _ _ _=>(ZJ 0 (show List.Nodup (["sign"]:OD) by lia))) (λ_ _ _ _ _=>YM) (λ_ _ _ _ _=>(Z1 Lh R f.F8 F6 (Zc (pv 0)))))))),?_⟩];sleep 2;have g:Zs (zT zs)=zs.map (48 + ·):=Mv x;have I:(zT zs).length=zs.length:=by rw[<-WI,show(zT zs).cps.toList=_ from g,Sv]
 have B:(zT zs).length<=sizeLine:=by rw[I];exact Sh z6 ()
 have J:VZ (zT zs)=true:=by
  rw[Rt,Bool.and_eq_true];erw[⟨SR ?_,?_⟩];rw[show(zT zs).cps.toList=_ from g];intro e;rw[List.map_eq_nil_iff.mp e]at z1;exact Ot z1 ();rw[show(zT zs).cps.toList=_ from g,List.all_eq_true];intro c M;obtain⟨z,S,rfl⟩:=SK.mp M;have:=x z S;exact SR ()
 erw[⟨_,R,zT zs,R,B,λL G=>⟨_,R,Zk (by rw[J];lia) ?_⟩⟩];sleep 1;erw[⟨_,R,zT zs,R,Zkt (λi j n u=>u=L/\j=ZI (zs.take i)/\∃v,n=[v]) ⟨R,R,_,R⟩ B ?_ ?_⟩];rintro i c j n u ha C ⟨rfl,rfl,v,rfl⟩;rw[show(zT zs).cps.toList=_ from g,Ob]at C;obtain⟨z,D,rfl⟩:=Og.mp C;have O:=x z (SL D);dsimp only[YA,Y4];rw[SW R];have U:=Zaw (z:=⟨#[48+z]⟩) (by rw[show(⟨#[48+z]⟩:Str).cps.toList=[48+z] from R,List.all_cons,show dg (48+z)=true from SR ()];rfl) (by intro e;cases e) (by show 1<=640;lia);erw[⟨_,R,_,_,R,U,by show 1<=640;lia,by rw[Su,Sw];lia,R,?_,_,R⟩];rw[Oa,D,show UF (⟨#[48+z]⟩:Str).cps.toList=z from(():∀z,z<=9->UF [48+z]=z) z O];show _=List.map _ (zs.take i++[z]);rw[SM];rfl;rintro j n u ha ⟨rfl,rfl,v,rfl⟩ p y;erw[q p _ (G.free y) (G.trans (Zw y _)) ?_];rw[Zi,show(zT zs).cps.size=zs.length from I,List.take_length]
theorem Li{j:Nat}(f:j<3):∀{cs:List Cl} {i:Nat} {c:Cl},cs[i]? = some c->((cs.map Wk).flatten)[3*i+j]? = (Wk c)[j]?
 |[],_,_,h=>by cases h
 |d::r,0,c,h=>by
  obtain rfl:d=c:=So h;rw[SN,List.flatten_cons,List.getElem?_append_left (by show 3*0+j<3;lia),Nat.mul_zero,Nat.zero_add]
 |d::r,i+1,c,h=>by
  rw[SN,List.flatten_cons,Oc (by show 3<=_;lia),show 3*(i+1)+j - (Wk d).length=3*i+j from(by show 3*(i+1)+j - 3=_;lia)];exact Li f (cs:=r) h
inductive ZpC(vs:List V)(H:Hp)(Q:VK)(_e3:XK):Prop|mk (p:Addr) (cs:List Cl) (_:vs=[.ref p]) (_:H p=some (.lst (cs.map Wk).flatten)) (_:cs.length<=6) (_:(∀c∈cs,c.ar<=2879/\c.lv<=2879)) (_:∀l us H',H l=none->Zf H H'->H' l=some (.lst us)->Al (Yt H') us cs->Q (.ref l) H')
def ZpD(f:Zu K mg t):Zo P w K mg base Zr 4 t.ZcQ t.ZcR ["words"] ZpC:=by
 erw[f.Zez.F.ok Zlx () λb0 A outer s a0 vs d0 c0 Q h=>?_];ext⟨p,cs,rfl,y,I,S,q⟩ h;erw[⟨_,(Ze (Zp (YZ (cl:=[(OL "words",s.heap.objs.size+1)]) (N:=["at","words"]) (fr:=[none,some 0]) R (Zkm R f.WP (Yk Za (Yp WY f.XJ XG (Zc (pv 0))) Za)) R () R () ⟨⟨R,Or.inl R,Or.inl R,_,R,R⟩,trivial⟩ ⟨R,trivial⟩ R (λ_ _ _ _ _=>(ZJ 0 (show List.Nodup (["at","words"]:OD) by lia))) (λ_ _ _ _ _=>YM) (λ_ _ _ _ _=>(Y9 (Yk (Zq (show XA _ (MS K)from Yf) (pv 1) (pv 0)) (Zt f.uI (ZfI f) Q Xa (Zc (Zq (show XA _ (MS K)from Yf) (pv 1) (Zj Yw (pv 0) Za)))) (Zt f.uI (ZfI f) Q Xa (Zc (Zq (show XA _ (MS K)from Yf) (pv 1) (Zj Yw (pv 0) Za)))))))))),?_⟩];sleep 1;have E:∀{i j:Nat} {c:Cl} {v:V} {n:Int},cs[i]? = some c->j<3->(Wk c)[j]? = some v->n=((3*i+j:Nat):Int)->YW (cs.map Wk).flatten n=some v:=λe U ev Y=>by
  subst Y;exact Wt (by rw[Li U e];exact ev)
 erw[⟨_,R,p,_,R,.inl (Zd.of y),cs.length,by rw[C4],Sj I (),Zkn (λi x D B=>Zf a0 B/\Al (Yt B) x (cs.take i)/\∃v,D=[v,some (.ref p)]) ⟨Zf.refl _,.nil,_,R⟩ (Sh I ()) ?_ ?_⟩];rintro i x D B hi ha ⟨u,C,v,rfl⟩;have g:cs[i]? = some cs[i]:=Ss hi;generalize cs[i]=c at g;obtain⟨X,T⟩:=S c (SL g);have L:=Zav X;have M:=Zav T;dsimp only[YA,Y4];rw[SW R];erw[⟨_,R,_,R,p,_,_,_,R,R,Zd.of (u _ _ y),E (j:=0) g () R (),?_⟩];erw[⟨_,R,_,R,_,_,R,R,p,_,_,_,R,R,Zd.of (u _ _ y),E (j:=1) g () R (),.str (wr c.ar),_,R,.str _,λz e=>by cases e;show 5<=sizeLine;lia,λm Z e s2=>?_,λZ e=>(by rw[show Nc (.str (wr c.ar))=some c.ar from L]at e;cases e)⟩];obtain rfl:c.ar=m:=So (L.symm.trans e);have J:=u.trans s2;erw[⟨_,R,_,R,_,_,R,R,p,_,_,_,R,R,Zd.of (J _ _ y),E (j:=2) g () R (),.str (wr c.lv),_,R,.str _,λz e=>by cases e;show 5<=sizeLine;lia,λm H3 e H=>?_,λH3 e=>(by rw[show Nc (.str (wr c.lv))=some c.lv from M]at e;cases e)⟩];obtain rfl:c.lv=m:=So (M.symm.trans e);erw[⟨zL9 R,λr O=>⟨by rw[Su,Sw];lia,J.trans (H.trans (Zw O _)),?_,_,R⟩⟩];rw[Oa,g];exact(C.imp λ_ _=>Yt.same (s2.trans (H.trans (Zw O _)))).app (.cons ⟨r,R,Zi⟩ .nil);rintro x D B ha ⟨u,C,v,rfl⟩ l G;rw[List.take_length]at C;exact q l x _ (u.free G) (u.trans (Zw G _)) Zi (C.imp λ_ _=>Yt.same (Zw G _))
inductive ZY where
 |st (x:ZT)
 |wk (x:Wl)
 |ru (x:Yl)
 |tk (x:YS)
 |tp (x:Tp)
def J4(c:Cl):List Str:=[c.st,wr c.ar,wr c.lv]
def ZY.ws:ZY->List Str
 |.st x=>[OL "stop",x.nm,ZX x.z,ZX x.ch]
 |.wk x=>[OL "walk",x.o,x.t,ZX x.m]
 |.ru x=>OL "days" :: x.nm::x.r.words
 |.tk x=>[OL "ticket",x.nm,ZX x.pr,ZX x.la,zT x.zs]
 |.tp x=>OL "trip" :: x.nm::x.ru::(x.cs.map J4).flatten
def ZY.tx:ZY->Str
 |.st x=>Ys (Vx x)
 |.wk x=>Ys (VJ x)
 |.ru x=>Ys (Vy x)
 |.tk x=>Ys (WU x)
 |.tp x=>Ys (XP x)
def ZY.Ok:ZY->Prop
 |.st x=>Yd x.nm/\1<=x.z/\x.z<=6/\x.ch<=30
 |.wk x=>Yd x.o/\Yd x.t/\1<=x.m/\x.m<=60
 |.ru x=>Yd x.nm/\R3.Ok x.r
 |.tk x=>x.Ok
 |.tp x=>Yd x.nm/\Yd x.ru/\2<=x.cs.length/\x.cs.length<=6/\∀c∈x.cs,Yd c.st/\c.ar<=2879/\c.lv<=2879
def J5(N:ZF):List ZY:=N.st.map .st++N.wk.map .wk++N.ru.map .ru++N.tk.map .tk++N.tp.map .tp
def ZfZ(N:ZF):Y3 N=(J5 N).map ZY.tx:=by
 unfold Y3 J5;simp only[SM,Of];rfl
def UT(l:OH):Prop:=l≠[]/\∀c∈l,44<=c/\c<=122
def QR(h:Yd z):UT (Zs z):=⟨λe=>by have:=h.1;rw[<-WI,show z.cps.toList=[] from e]at this;exact Ot this (),λc f=>by have:=h.2.2.1 c f;lia⟩
def jP(h:XF l=some n):UT l:=by
 unfold XF at h;split at h
 ·next c=>exact⟨c.2.1,λx f=>by have:=List.all_eq_true.mp c.2.2.1 x f;have:=SU this;lia⟩
 cases h
def QS{n:Nat}(h:n<=10000):UT (Zs (ZX n)):=jP (ZfW h)
def Zf0{m:Nat}(h:m<=2879):UT (Zs (wr m)):=by
 rw[show Zs (wr m)=_ from congrArg (λz:Str=>z.cps.toList) (Zau m)];erw[⟨(λe=>by cases e),λc f=>?_⟩];have f:c∈[48+m/60/10,48+m/60%10,58,48+m%60/10,48+m%60%10]:=f;simp only[SG,List.mem_nil_iff,or_false]at f;lia
theorem jQ(d:Nat):∀(l:OH) (c:Nat),c∈l->c=d\/∃w∈spl d l,c∈w
 |x::r,c,h=>by
  by_cases e:x=d;rcases SG.mp h with h|h;exact .inl (h.trans e);rw[spl,SW e];rcases jQ d r c h with h|⟨w,f,h⟩;exact .inl h;exact .inr ⟨w,SD _ f,h⟩;rw[spl,SV e];cases q:spl d r with
  |nil=>exact Ot q (M6 d r)
  |cons v vs =>
   rcases SG.mp h with h|h;exact .inr ⟨_,SE,by rw[h];exact SE⟩;rcases jQ d r c h with h|⟨w,f,h⟩;exact .inl h;rw[q]at f;rcases SG.mp f with rfl|f;exact .inr ⟨_,SE,SD _ h⟩;exact .inr ⟨w,SD _ f,h⟩
def Zf1(ne:ds≠[])(i:∀x∈ds,x<10000):UT (Zs (X3 ds)):=by
 have e:=RU ne i;unfold Q9 at e;have g:∀w∈spl 44 (Zs (X3 ds)),∃n,XF w=some n:=λw f=>by
  have:XF w∈(spl 44 (Zs (X3 ds))).map XF:=SK.mpr ⟨w,f,R⟩;rw[e]at this;obtain⟨n,_,h⟩:=SK.mp this;exact⟨n,h.symm⟩
 erw[⟨λz=>?_,λc j=>?_⟩];rw[z]at g;obtain⟨n,h⟩:=g [] SE;exact(jP h).1 R;rcases jQ 44 _ c j with rfl|⟨w,f,h⟩;exact⟨Sg _,()⟩;obtain⟨n,hn⟩:=g w f;exact(jP hn).2 c h
def ZpE{b:Nat}(h:b<=127):UT (Zs (U6 b)):=by
 have e:=Zbe b (Nat.lt_succ_of_le h);have e:Q8 (Zs (U6 b))=some b:=e;unfold Q8 at e;split at e
 ·next c =>
  erw[⟨λz=>by rw[z]at c;exact Ot c.1 (),λx f=>?_⟩];have:=List.all_eq_true.mp c.2 x f;simp only[Bool.or_eq_true,beq_iff_eq]at this;rcases this with rfl|rfl<;>exact⟨(),()⟩
 cases e
def V9:∀s∈["always","week","span","each","either","both","but","stop","walk","days","ticket","trip"],UT (Zs (OL s)):=by unfold UT;lia
def ZpF:∀(T:RT),T.good->∀x∈T.words,UT (Zs x):=by
 intro T;induction T with
 |always=>exact λ_ x c=>by rcases SF.mp c with rfl;exact V9 _ ()
 |week b =>
  intro g x c;simp only[RT.words,SG,List.not_mem_nil,or_false]at c;rcases c with rfl|rfl;exact V9 _ ();exact ZpE g
 |span a b r f =>
  intro g x c;rcases SH.mp c with c|c;simp only[SG,List.not_mem_nil,or_false]at c;rcases c with rfl|rfl|rfl;exact V9 _ ();exact QS (by have:=g.1;have:=g.2.1;lia);exact QS (by have:=g.2.1;lia);exact f g.2.2 x c
 |each n j =>
  intro g x c;simp only[RT.words,SG,List.not_mem_nil,or_false]at c;rcases c with rfl|rfl|rfl;exact V9 _ ();exact QS (by have:=g.2.1;lia);exact Zf1 (List.ne_nil_of_length_pos g.2.2.one) λx c=>by have:=(g.2.2.all x c).2;have:=g.2.1;lia
 |either r s i h =>
  intro g x c;rcases SH.mp c with c|c;rcases SH.mp c with c|c;rcases SF.mp c with rfl;exact V9 _ ();exact i g.1 x c;exact h g.2 x c
 |both r s i h =>
  intro g x c;rcases SH.mp c with c|c;rcases SH.mp c with c|c;rcases SF.mp c with rfl;exact V9 _ ();exact i g.1 x c;exact h g.2 x c
 |but ds r f =>
  intro g x c;rcases SH.mp c with c|c;simp only[SG,List.not_mem_nil,or_false]at c;rcases c with rfl|rfl;exact V9 _ ();exact Zf1 (List.ne_nil_of_length_pos g.1.one) λx c=>by have:=(g.1.all x c).2;lia
  exact f g.2 x c
def ZY.wd{x:ZY}(h:x.Ok):∀w∈x.ws,UT (Zs w):=by
 intro w f;cases x with
 |st x =>
  simp only[ZY.ws,SG,List.not_mem_nil,or_false]at f;ext⟨g,i,D,n⟩ h;rcases f with rfl|rfl|rfl|rfl;exact V9 _ ();exact QR g;exact QS ();exact QS ()
 |wk x =>
  simp only[ZY.ws,SG,List.not_mem_nil,or_false]at f;ext⟨g,i,D,n⟩ h;rcases f with rfl|rfl|rfl|rfl;exact V9 _ ();exact QR g;exact QR i;exact QS ()
 |ru x =>
  rcases SG.mp f with rfl|f;exact V9 _ ();rcases SG.mp f with rfl|f;exact QR h.1;exact ZpF x.r h.2.1 w f
 |tk x =>
  simp only[ZY.ws,SG,List.not_mem_nil,or_false]at f;have h:x.Ok:=h;rcases f with rfl|rfl|rfl|rfl|rfl;exact V9 _ ();exact QR h.nm;exact QS h.pr;exact QS (Sh h.la ());rw[Mv λz G=>Sh (h.rng z G).2 ()];erw[⟨λe=>by have:=h.z1;rw[List.map_eq_nil_iff.mp e]at this;exact Ot this (),λc H=>?_⟩];obtain⟨z,E,rfl⟩:=SK.mp H;have:=h.rng z E;lia
 |tp x =>
  ext⟨g,i,_,_,j⟩ h;rcases SG.mp f with rfl|f;exact V9 _ ();rcases SG.mp f with rfl|f;exact QR g;rcases SG.mp f with rfl|f;exact QR i;obtain⟨I,u,f⟩:=List.mem_flatten.mp f;obtain⟨c,B,rfl⟩:=SK.mp u;obtain⟨v,C,y⟩:=j c B;simp only[J4,SG,List.not_mem_nil,or_false]at f;rcases f with rfl|rfl|rfl;exact QR v;exact Zf0 C;exact Zf0 y
def ZY.ne(x:ZY):x.ws≠[]:=by cases x<;>exact λe=>nomatch e
def Zf2(cs:List Cl):((cs.map Wk).flatten).map Xx=(cs.map J4).flatten:=by
 induction cs with
 |nil=>rfl
 |cons c r f=>rw[SN,List.flatten_cons,SM,f,SN,List.flatten_cons];rfl
def ZY.txL(x:ZY):Zs x.tx=YF 32 (x.ws.map Zs):=by
 have c:∀ws:List V,Zs (Ys ws)=YF 32 ((ws.map Xx).map Zs):=λws=>by
  unfold Ys;rw[A0];exact U2 32 _
 cases x with
 |st x=>exact c _
 |wk x=>exact c _
 |ru x =>
  show Zs (Ys (Vy x))=_;rw[c];show YF 32 ([Zs (OL "days"),Zs x.nm]++[Zs (YO x.r)])=YF 32 ([Zs (OL "days"),Zs x.nm]++x.r.words.map Zs);rw[show Zs (YO x.r)=YF 32 (x.r.words.map Zs) by unfold YO;rw[A0];exact U2 32 _];exact ZfV 32 _ _ λe=>LF x.r (List.map_eq_nil_iff.mp e)
 |tk x=>exact c _
 |tp x =>
  show Zs (Ys (XP x))=_;rw[c];unfold XP;rw[SM,Zf2];rfl
theorem Zf3(h:c≠d):∀l:List (List Nat),(∀p∈l,c∉p)->c∉YF d l
 |[],_,z=>nomatch z
 |[p],h',z=>h' p SE z
 |p::q::r,h',z=>by
  rcases SH.mp (show c∈p++d::YF d (q::r)from z)with z|z;exact h' p SE z;rcases SG.mp z with z|z;exact h z;exact Zf3 h (q::r) (λp f=>h' p (SD _ f)) z
def ZY.free{x:ZY}(h:x.Ok){c:Nat}(n:c<44)(i:c≠32):c∉Zs x.tx:=by
 rw[x.txL];erw[Zf3 i _ λp j g=>?_];obtain⟨w,f,rfl⟩:=SK.mp j;have:=(x.wd h w f).2 c g;lia
def ZY.cut{x:ZY}(h:x.Ok):spl 32 (Zs x.tx)=x.ws.map Zs:=by
 rw[x.txL,Ll 32 _ (λe=>x.ne (List.map_eq_nil_iff.mp e))];intro p g f;obtain⟨w,c,rfl⟩:=SK.mp g;have:=(x.wd h w c).2 32 f;lia
def ZpG(ws:OD):C5 (ws.map Zs)=ws.map V.str:=by
 unfold C5;rw[Of];exact List.map_congr_left λz _=>R
structure NF(N:ZF):Prop where
 ok:XZ N
 st:∀x∈N.st,1<=x.z/\x.z<=6/\x.ch<=30
 wk:∀x∈N.wk,x.o∈N.st.map ZT.nm/\x.t∈N.st.map ZT.nm/\x.o≠x.t/\1<=x.m/\x.m<=60
 wn:∀i x,N.wk[i]? = some x->Ur (N.wk.take i) x.o x.t=false
 tr:∀x∈N.tp,x.ru∈N.ru.map Yl.nm/\Vc (N.st.map ZT.nm) x.cs
def ZY.due(N:ZF):ZY->Option Wn
 |.st x=>Mn N (.str x.nm) (.int (x.z:Nat)) (.int (x.ch:Nat))
 |.wk x=>Mo N (.str x.o) (.str x.t) (.int (x.m:Nat))
 |.ru x=>B9 N (.str x.nm) (some x.r)
 |.tk x=>Pv N (.str x.nm) (.int (x.pr:Nat)) (.int (x.la:Nat)) (some (ZI x.zs))
 |.tp x=>C0 N (.str x.nm) (.str x.ru)
def ZY.csok(N:ZF):ZY->Prop
 |.tp x=>Vc (N.st.map ZT.nm) x.cs
 |_=>True
def ZY.add(N:ZF):ZY->ZF
 |.st x=>{N with st:=N.st++[x]}
 |.wk x=>{N with wk:=N.wk++[x]}
 |.ru x=>{N with ru:=N.ru++[x]}
 |.tk x=>{N with tk:=N.tk++[x]}
 |.tp x=>{N with tp:=N.tp++[x]}
def Yg{w:Wn}(h:b=true)(c:r=none):ck b w r=none:=by rwa[h]
def QT{c:Type}{nm:c->Str}{xs:List c}{i:Nat}{x:c}(nd:(xs.map nm).Nodup)(e:xs[i]? = some x):(!YH nm (xs.take i) (.str (nm x)))=true:=by
 show(!(Yv nm (xs.take i) (nm x)).isSome)=true;rw[Zoh nd e];rfl
def UU{c:Type}{xs:List c}{i m:Nat}{x:c}(e:xs[i]? = some x)(h:xs.length<=m):decide ((xs.take i).length<m)=true:=SR (by have:=(Sr.mp e).1;rw[Sx];lia)
def VL{c:Type}{xs:List c}{i:Nat}{x:c}(e:xs[i]? = some x):xs.take (i+1)=xs.take i++[x]:=by rw[Oa,e];rfl
theorem Zf4:∀(zs:OH) (lo hi:Int),zs.Pairwise (· < ·)->(∀z∈zs,lo<=(z:Nat)/\((z:Nat):Int)<=hi)->Vb lo hi (ZI zs)=true
 |[],_,_,_,_=>rfl
 |z::r,lo,hi,c,h=>by
  show(XC (.int z) lo hi && Vb ((z:Int)+1) hi (ZI r))=true;have hz:=h z SE;have c:=List.pairwise_cons.mp c;rw[Ww hz.1 hz.2,Zf4 r _ hi c.2 λy f=>⟨by have:=c.1 y f;lia,(h y (SD _ f)).2⟩];rfl
def Zf5{N:ZF}{x:YS}(h:x.Ok)(c:(!YH YS.nm N.tk (.str x.nm))=true)(f:decide (N.tk.length<3)=true):(ZY.tk x).due N=none:=by
 erw[Yg (Ql h.nm) (Yg c (Yg (Ww () (by have:=h.pr;lia)) (Yg (Ww (by have:=h.la1;lia) (by have:=h.la;lia)) (Yg ?_ (Yg f R)))))];show(decide (1<=(ZI x.zs).length/\((ZI x.zs).length:Int)<=6) && Vb 1 6 (ZI x.zs))=true;have j:=h.z1;have i:=h.z6;rw[SR (by rw[show(ZI x.zs).length=x.zs.length from Sv ..];lia),Zf4 x.zs 1 6 h.up λz g=>by have:=h.rng z g;lia];rfl
def XZ.sub{N:ZF}(ok:XZ N)(h1:List.Sublist a N.st)(j:List.Sublist b N.wk)(i:List.Sublist c N.ru)(g:List.Sublist d N.tk)(f:List.Sublist e N.tp):XZ ⟨a,b,c,d,e⟩ :=
 ⟨Sh h1.length_le ok.s8,ok.sn.sublist (h1.map _),λx h=>ok.so x (h1.subset h),Sh j.length_le ok.w12,λx h=>ok.wo x (j.subset h),Sh i.length_le ok.r6,ok.rn.sublist (i.map _),λx h=>ok.ro x (i.subset h),Sh g.length_le ok.t3,ok.tn.sublist (g.map _),λx h=>ok.to x (g.subset h),Sh f.length_le ok.p10,ok.pn.sublist (f.map _),λx h=>ok.po x (f.subset h)⟩
inductive XQ:ZF->List ZY->ZF->Prop
 |nil {M:ZF}:XQ M [] M
 |cons {M M':ZF} {x:ZY} {r:List ZY} (o:x.Ok) (d:x.due M=none) (c:x.csok M) (k:XZ M) (h:XQ (x.add M) r M'):XQ M (x::r) M'
def XQ.app{A : ZF}(h:XQ A xs B)(g:XQ B f C):XQ A (xs++f) C:=by
 induction h with
 |nil=>exact g
 |cons o d c k _ i=>exact .cons o d c k (i g)
def Mz{g:Type}{xs:List g}{f:List g->ZF}{mk:g->ZY}(h:∀i x,xs[i]? = some x->((mk x).Ok/\(mk x).due (f (xs.take i))=none/\(mk x).csok (f (xs.take i))/\XZ (f (xs.take i)))/\(mk x).add (f (xs.take i))=f (xs.take i++[x])):XQ (f []) (xs.map mk) (f xs):=by
 have v:∀n k,xs.length - k=n->XQ (f (xs.take k)) ((xs.drop k).map mk) (f xs):=by
  intro n;induction n with
  |zero=>exact λk e=>by rw[List.drop_eq_nil_of_le (),SZ ()];exact .nil
  |succ n u =>
   intro k e;have j:k<xs.length:=by lia
   have ex:=Ss j;obtain⟨⟨o,d,c,ok⟩,y⟩:=h k xs[k] ex;rw[List.drop_eq_getElem_cons j];erw[.cons o d c ok ?_];rw[y,<-VL ex];exact u (k+1) ()
 exact v _ 0 R
section Ad
variable{N:ZF}(nf:NF N){a:List ZT}{b:List Wl}{c:List Yl}{d:List YS}{e:List Tp}
include nf
theorem NF.aS(u:List.Sublist b N.wk)(C:List.Sublist c N.ru)(n:List.Sublist d N.tk)(j:List.Sublist e N.tp):XQ ⟨[],b,c,d,e⟩ (N.st.map .st) ⟨N.st,b,c,d,e⟩ :=
 Mz (f:=λD=>⟨D,b,c,d,e⟩) λi y h=>by
  have ok:=nf.ok;have g:=SL h;obtain⟨v,B,x⟩:=nf.st y g;exact⟨⟨⟨ok.so y g,v,B,x⟩,Yg (Ql (ok.so y g)) (Yg (QT ok.sn h) (Yg (Ww () ()) (Yg (Ww () ()) (Yg (UU h ok.s8) R)))),trivial,ok.sub (List.take_sublist _ _) u C n j⟩,R⟩
theorem NF.aW(D:List.Sublist c N.ru)(n:List.Sublist d N.tk)(j:List.Sublist e N.tp):XQ ⟨N.st,[],c,d,e⟩ (N.wk.map .wk) ⟨N.st,N.wk,c,d,e⟩ :=
 Mz (f:=λE=>⟨N.st,E,c,d,e⟩) λi y h=>by
  have ok:=nf.ok;have g:=SL h;obtain⟨v,C,x,u,B⟩:=nf.wk y g;exact⟨⟨⟨(ok.wo y g).1,(ok.wo y g).2,u,B⟩,Yg (VI v) (Yg (VI C) (Yg (by rw[SS (λe=>x (V.str.inj e)),show Ur (N.wk.take i) (X5 (V.str y.o)) (X5 (V.str y.t))=false from nf.wn _ y h];rfl) (Yg (Ww () ()) (Yg (UU h ok.w12) R)))),trivial,ok.sub (.refl _) (List.take_sublist _ _) D n j⟩,R⟩
theorem NF.aR(h1:List.Sublist a N.st)(u:List.Sublist b N.wk)(n:List.Sublist d N.tk)(j:List.Sublist e N.tp):XQ ⟨a,b,[],d,e⟩ (N.ru.map .ru) ⟨a,b,N.ru,d,e⟩ :=
 Mz (f:=λv=>⟨a,b,v,d,e⟩) λi y g=>by
  have ok:=nf.ok;have h:=SL g;exact⟨⟨ok.ro y h,Yg (Ql (ok.ro y h).1) (Yg (QT ok.rn g) (Yg R (Yg (UU g ok.r6) R))),trivial,ok.sub h1 u (List.take_sublist _ _) n j⟩,R⟩
theorem NF.aK(h1:List.Sublist a N.st)(n:List.Sublist b N.wk)(u:List.Sublist c N.ru)(j:List.Sublist e N.tp):XQ ⟨a,b,c,[],e⟩ (N.tk.map .tk) ⟨a,b,c,N.tk,e⟩ :=
 Mz (f:=λv=>⟨a,b,c,v,e⟩) λi y g=>by
  have ok:=nf.ok;have h:=SL g;exact⟨⟨ok.to y h,Zf5 (ok.to y h) (QT ok.tn g) (UU g ok.t3),trivial,ok.sub h1 n u (List.take_sublist _ _) j⟩,R⟩
theorem NF.aT(v:List.Sublist b N.wk)(u:List.Sublist d N.tk):XQ ⟨N.st,b,N.ru,d,[]⟩ (N.tp.map .tp) ⟨N.st,b,N.ru,d,N.tp⟩ :=
 Mz (f:=λD=>⟨N.st,b,N.ru,d,D⟩) λi y g=>by
  have ok:=nf.ok;have h:=SL g;obtain⟨j,B,p3,x,E⟩:=ok.po y h;obtain⟨C,t2⟩:=nf.tr y h;exact⟨⟨⟨j,B,p3,x,λc n=>⟨E c n,by have:=t2.rng c n;lia⟩⟩,Yg (Ql j) (Yg (QT ok.pn g) (Yg (VI C) (Yg (UU g ok.p10) R))),t2,ok.sub (.refl _) v (.refl _) u (List.take_sublist _ _)⟩,R⟩
theorem NF.adds:XQ ⟨[],[],[],[],[]⟩ (J5 N) N :=
 have z:∀{f:Type} {xs:List f},List.Sublist [] xs:=List.nil_sublist _
 ((((nf.aS z z z z).app (nf.aW z z z)).app (nf.aR (.refl _) (.refl _) z z)).app (nf.aK (.refl _) (.refl _) (.refl _) z)).app (nf.aT (.refl _) (.refl _))
end Ad
def XQ.all{A : ZF}(h:XQ A xs B):∀x∈xs,x.Ok:=by
 induction h with
 |nil=>exact ()
 |cons o _ _ _ _ f=>exact λy c=>(SG.mp c).elim (λe=>e ▸ o) (f y)
def NA.l(a:NA):List Addr:=[a.ds,a.lw,a.dr,a.dt,a.dp]
def Xf(M:OI)(H c:Hp):Prop:=∀x o,H x=some o->x∉M->c x=some o
def Xf.of(s:Zf H c):Xf M H c:=λx o e _=>s x o e
def Xf.trans(h:Xf M H c)(g:Xf M c f):Xf M H f:=λx o e n=>g x o (h x o e n) n
def Xf.wout(s:Zf (wo H d) c)(hd:d∈M):Xf M H c:=λx o e n=>s x o (QA e λz=>n (z ▸ hd))
inductive Ko(H:Hp)(x:Addr):Prop
 |lst {xs:List V} (e:H x=some (.lst xs)):Ko H x
 |dK {kvs:List (ZD×V)} (e:H x=some (.dK kvs)):Ko H x
def Yb.kd{a:NA}(h:Yb t H n a N)(c:x∈a.l):Ko H x:=by
 ext⟨r1,u,_⟩ h.st;ext⟨v,g,_⟩ h.wk;ext⟨r3,j,_⟩ h.ru;ext⟨B,f,_⟩ h.tk;ext⟨y,i,_⟩ h.tp;simp only[NA.l,SG,List.not_mem_nil,or_false]at c;rcases c with rfl|rfl|rfl|rfl|rfl;exact .dK u;exact .lst g;exact .dK j;exact .dK f;exact .dK i
def PH(k:Ko H x)(n:H y=none):x≠y:=λz=>by
 subst z;cases k with
 |lst e=>rw[n]at e;cases e
 |dK e=>rw[n]at e;cases e
def TIF:HO->Prop
 |.tup _=>True
 |.ins _ _ _=>True
 |.frz _ (.tup _)=>True
 |_=>False
section Kq
variable{H':Hp}(k:∀b o,H b=some o->TIF o->H' b=some o)
include k
theorem Xj.keep(h:Xj H c x):Xj H' c x:=let ⟨e,r,z,e1,e2,e3⟩:=h;⟨e,r,z,e1,k _ _ e2 trivial,k _ _ e3 trivial⟩
theorem Yz.keep(h:Yz H c x):Yz H' c x:=let ⟨e,r,e1,e2⟩:=h;⟨e,r,e1,k _ _ e2 trivial⟩
theorem Yt.keep(h:Yt H v c):Yt H' v c:=let ⟨p,e,h⟩:=h;⟨p,e,k _ _ h trivial⟩
theorem Xe.keep(h:Xe H c x):Xe H' c x:=let ⟨e,r,q,vs,e1,e2,e3,e4⟩:=h;⟨e,r,q,vs,e1,k _ _ e2 trivial,k _ _ e3 trivial,e4.imp λ_ _=>Yt.keep k⟩
theorem YG.keep(h:YG H v x):YG H' v x:=let ⟨p,e,h⟩:=h;⟨p,e,k _ _ h trivial⟩
theorem Y7.keep(h:Y7 t H c x):Y7 t H' c x:=let ⟨e,b,eb,h⟩:=h;⟨e,b,eb,ZU.keepF (λ_ _ _ _ _ e=>k _ _ e trivial) (λ_ _=>Zfo (λe=>k _ _ e trivial) λ_ e=>k _ _ e trivial) h⟩
theorem Yb.keep{a:NA}(k2:∀b o,H b=some o->b∈a.l->H' b=some o)(h:Yb t H n a N):Yb t H' n a N:=by
 ext⟨⟨f,fs,I,J⟩,ap,⟨r1,D,i⟩,⟨E,B,u⟩,⟨v,j,x⟩,⟨r3,C,y⟩,⟨G,g,c⟩⟩ h;exact⟨⟨f,fs,k _ _ I trivial,J⟩,ap,⟨r1,k2 _ _ D (by simp[NA.l]),i.imp λ_ _=>Yz.keep k⟩,⟨E,k2 _ _ B (by simp[NA.l]),u.imp λ_ _=>YG.keep k⟩,⟨v,k2 _ _ j (by simp[NA.l]),x.imp λ_ _=>Y7.keep k⟩,⟨r3,k2 _ _ C (by simp[NA.l]),y.imp λ_ _=>Xj.keep k⟩,⟨G,k2 _ _ g (by simp[NA.l]),c.imp λ_ _=>Xe.keep k⟩⟩
end Kq
def Zf6(xs:List V)(n:Nat):Uy xs (some (n:Int)) none=xs.drop n:=by
 unfold Uy;rw[HT.sIx_none,HT.sIx_nat];rcases Nat.le_total n xs.length with h|h;rw[Nat.min_eq_left h,SZ (by rw[SB];exact Sg _)];rw[Nat.min_eq_right h,Nat.sub_self,List.take_zero,List.drop_eq_nil_of_le h]
def jR(cs:List Cl):((cs.map J4).flatten).map V.str=(cs.map Wk).flatten:=by
 induction cs with
 |nil=>rfl
 |cons c r f=>rw[SN,List.flatten_cons,SM,f,SN,List.flatten_cons];rfl
def QU{z:Str}(h:Yd z):z.length<=100:=Sh h.2.1 ()
inductive ZpH(t:Ya)(vs:List V)(H:Hp)(Q:VK)(_e3:XK):Prop|mk (n:Addr) (a:NA) (N:ZF) (x:ZY) (p:Addr) (_:vs=[.ref n,.ref p]) (_:Yb t H n a N) (_:XZ N) (_:H p=some (.lst (x.ws.map V.str))) (_:x.Ok) (_:x.due N=none) (_:x.csok N) (_:∀H',Xf a.l H H'->Yb t H' n a (x.add N)->Q .non H')
def ZpI(c:Zu K mg t):Zo P w K mg base Zr 57 t.ZcK t.ZcL ["net","words"] (ZpH t):=by
 erw[c.Zex.F.ok Zlv () λe0 A outer s h0 vs g0 f0 i h=>?_];ext⟨n,a,N,x,p,rfl,D,no,f,ok,due,co,q⟩ h;ext⟨G,fs,H,I⟩ D.ob;erw[⟨_,(Ze (ZC (ZV Z8 (Zq Yf (pv 1) Za) Zl) (Ze (Yc (YL (pv 0) c.ZK c.LU.me (Zft c) (i.mono ()) c.LU.b .nil Xa (Yk (Zq Yf (pv 1) Za) (Zt c.G3 (My c) i Zn (Zc (Zq Yf (pv 1) Za))) (Zt c.G3 (My c) i Zn (Zc (Zq Yf (pv 1) Za))))))) (Ze (ZC (ZV Z8 (Zq Yf (pv 1) Za) Zl) (Ze (Yc (YL (pv 0) c.ZK c.LV.me (Zfv c) (i.mono ()) c.LV.b .nil Xa (Yk (Zq Yf (pv 1) Za) (Zq Yf (pv 1) Za) (Zt c.G3 (My c) i Zn (Zc (Zq Yf (pv 1) Za))))))) (Ze (ZC (ZV Z8 (Zq Yf (pv 1) Za) Zl) (Ze (Yc (YL (pv 0) c.ZK c.A3.me (jE c) (i.mono ()) c.A3.b .nil Xa (ZB (Zq Yf (pv 1) Za) (Zt c.Zen (Zpc c) i Xa (Zc (YQ PySem.F.plainAttrs_str PySem.F.slot_str_join PySem.F.type_str_join WJ Zl (Zc (VT gK (pv 1) (VB Za) VS))))))))) (Ze (ZC (ZV Z8 (Zq Yf (pv 1) Za) Zl) (Ze (Yc (YL (pv 0) c.ZK c.LW.me (Zfu c) (i.mono ()) c.LW.b .nil Xa (Uk (Zq Yf (pv 1) Za) (Zt c.G3 (My c) i Zn (Zc (Zq Yf (pv 1) Za))) (Zt c.G3 (My c) i Zn (Zc (Zq Yf (pv 1) Za))) (Zt c.Zey (ZpB c) i Zn (Zc (Zq Yf (pv 1) Za))))))) (Ze (Yc (YL (pv 0) c.ZK c.A4.me (jF c) (i.mono ()) c.A4.b .nil Xa (Yk (Zq Yf (pv 1) Za) (Zq Yf (pv 1) Za) (Zt c.Zez (ZpD c) i Zn (Zc (VT gK (pv 1) (VB Za) VS))))))))))))))),?_⟩];sleep 1;have at_:∀{ws:OD} {j:Nat} {z:Str},ws[j]? = some z->YW (ws.map V.str) (j:Int)=some (.str z):=λh=>Wt (by rw[Ob,h];rfl);cases x with
 |st x =>
  ext⟨E,B,T,J⟩ ok;erw[⟨_,R,p,_,0,_,R,R,Zd.of f,at_ (j:=0) R,R,_,R,Zy (SR R) ?_⟩];sleep 1;erw[⟨_,R,n,G,_,R,H,I.n_add_stop,_,R,p,_,1,_,R,R,Zd.of f,at_ (j:=1) R,_,R,p,_,2,_,R,R,Zd.of f,at_ (j:=2) R,x.z,R,(),λU u=>?_⟩];erw[⟨_,R,p,_,3,_,R,R,Zd.of (u _ _ f),at_ (j:=3) R,x.ch,R,(),λQ s2=>?_⟩];have S:=u.trans s2;erw[⟨n,a,N,.str x.nm,.int (x.z:Nat),.int (x.ch:Nat),_,_,R,D.same S,UP _ (QU E),.int _,.int _,λw g=>?_,λ_ y C v=>q y ((Xf.of S).trans (Xf.wout C (by simp[NA.l]))) v⟩];rw[show Mn N (.str x.nm) (.int (x.z:Nat)) (.int (x.ch:Nat))=none from due]at g;cases g
 |wk x =>
  ext⟨E,B,T,J⟩ ok;erw[⟨_,R,p,_,0,_,R,R,Zd.of f,at_ (j:=0) R,R,_,R,Zk () ?_⟩];sleep 1;erw[⟨_,R,p,_,0,_,R,R,Zd.of f,at_ (j:=0) R,R,_,R,Zy (SR R) ?_⟩];sleep 1;erw[⟨_,R,n,G,_,R,H,I.n_add_walk,_,R,p,_,1,_,R,R,Zd.of f,at_ (j:=1) R,_,R,p,_,2,_,R,R,Zd.of f,at_ (j:=2) R,_,R,p,_,3,_,R,R,Zd.of f,at_ (j:=3) R,x.m,R,(),λU u=>?_⟩];erw[⟨n,a,N,.str x.o,.str x.t,.int (x.m:Nat),_,_,_,R,D.same u,no,.str _,.str _,.int _,λw g=>?_,λ_ y C v=>q y ((Xf.of u).trans (Xf.wout C (by simp[NA.l]))) v⟩];rw[show Mo N (.str x.o) (.str x.t) (.int (x.m:Nat))=none from due]at g;cases g
 |ru x =>
  ext⟨E,B⟩ ok
  iterate 2 erw[⟨_,R,p,_,0,_,R,R,Zd.of f,at_ (j:=0) R,R,_,R,Zk () ?_⟩]
  sleep 1;erw[⟨_,R,p,_,0,_,R,R,Zd.of f,at_ (j:=0) R,R,_,R,Zy (SR R) ?_⟩];sleep 1;erw[⟨_,R,n,G,_,R,H,I.n_add_rule,_,R,p,_,1,_,R,R,Zd.of f,at_ (j:=1) R,?_⟩];erw[⟨R,_,R,2,R,p,_,R,Zd.of f,λM O=>?_⟩];have u:=Zw O (.lst (Uy ((ZY.ru x).ws.map V.str) (some 2) none));have L:Uy ((ZY.ru x).ws.map V.str) (some 2) none=x.r.words.map V.str:=Zf6 _ 2;erw[⟨_,M,x.r.words,R,R,Zd.of (by rw[Zi,L]),ZfT B.1 B.2.1,x.r,R,B.1,B.2.1,B.2.2,λb Q s2 c0=>?_⟩];have S:=u.trans s2;erw[⟨n,a,N,.str x.nm,.ref b,some x.r,R,D.same S,UP _ (QU E),⟨⟨b,R,by rwa[c.kf]⟩,B⟩,λw g=>?_,λ_ y C v=>q y ((Xf.of S).trans (Xf.wout C (by simp[NA.l]))) v⟩];rw[show B9 N (.str x.nm) (some x.r)=none from due]at g;cases g
 |tk x =>
  have ok:x.Ok:=ok
  iterate 3 erw[⟨_,R,p,_,0,_,R,R,Zd.of f,at_ (j:=0) R,R,_,R,Zk () ?_⟩]
  sleep 1;erw[⟨_,R,p,_,0,_,R,R,Zd.of f,at_ (j:=0) R,R,_,R,Zy (SR R) ?_⟩];sleep 1;erw[⟨_,R,n,G,_,R,H,I.n_add_ticket,_,R,p,_,1,_,R,R,Zd.of f,at_ (j:=1) R,_,R,p,_,2,_,R,R,Zd.of f,at_ (j:=2) R,x.pr,R,ok.pr,λU u=>?_⟩];erw[⟨_,R,p,_,3,_,R,R,Zd.of (u _ _ f),at_ (j:=3) R,x.la,R,Sh ok.la (),λQ s2=>?_⟩];have S:=u.trans s2;erw[⟨_,R,p,_,4,_,R,R,Zd.of (S _ _ f),at_ (j:=4) R,x.zs,R,ok.z1,ok.z6,λz hz=>Sh (ok.rng z hz).2 (),λl H3 hl s3 Z=>?_⟩];have X:=S.trans s3;erw[⟨n,a,N,.str x.nm,.int (x.pr:Nat),.int (x.la:Nat),.ref l,_,_,some (ZI x.zs),R,D.same X,UP _ (QU ok.nm),.int _,.int _,⟨l,R,Z,λd0 hv=>?_⟩,λw g=>?_,λ_ y C v=>q y ((Xf.of X).trans (Xf.wout C (by simp[NA.l]))) ?_⟩];obtain⟨z,_,rfl⟩:=SK.mp hv;exact⟨_,.int _⟩;rw[show Pv N (.str x.nm) (.int (x.pr:Nat)) (.int (x.la:Nat)) (some (ZI x.zs))=none from due]at g;cases g;have:Mp N (.str x.nm) (.int (x.pr:Nat)) (.int (x.la:Nat)) (some (ZI x.zs))=(ZY.tk x).add N:=by
   unfold Mp ZY.add;rw[show((some (ZI x.zs)).getD []).map Xd=x.zs by show(x.zs.map _).map Xd=_;rw[Of];exact List.map_id' _];rfl
  rwa[<-this]
 |tp x =>
  ext⟨E,B,T,J,Y⟩ ok
  iterate 4 erw[⟨_,R,p,_,0,_,R,R,Zd.of f,at_ (j:=0) R,R,_,R,Zk () ?_⟩]
  sleep 1;erw[⟨_,R,n,G,_,R,H,I.n_add_trip,_,R,p,_,1,_,R,R,Zd.of f,at_ (j:=1) R,_,R,p,_,2,_,R,R,Zd.of f,at_ (j:=2) R,?_⟩];erw[⟨_,R,3,R,p,_,R,Zd.of f,λM O=>?_⟩];have u:=Zw O (.lst (Uy ((ZY.tp x).ws.map V.str) (some 3) none));have L:Uy ((ZY.tp x).ws.map V.str) (some 3) none=(x.cs.map Wk).flatten:=(Zf6 _ 3).trans (by rw[<-jR];rfl);erw[⟨M,x.cs,R,by rw[Zi,L],J,λa0 hc=>(Y a0 hc).2,λl us Q hl s2 b0 al=>?_⟩];have S:=u.trans s2;erw[⟨n,a,N,.str x.nm,.str x.ru,_,x.cs,l,us,R,D.same S,UP _ (QU E),.str _,b0,al,co,T,J,λw g=>?_,λ_ y C v=>q y ((Xf.of S).trans (Xf.wout C (by simp[NA.l]))) v⟩];rw[show C0 N (.str x.nm) (.str x.ru)=none from due]at g;cases g
inductive ZpJ(t:Ya)(vs:List V)(H:Hp)(Q:VK)(_e3:XK):Prop|mk (n:Addr) (a:NA) (N:ZF) (x:ZY) (p:Addr) (i:Int) (_:vs=[.ref n,.int i,.ref p]) (_:Yb t H n a N) (_:XZ N) (_:H p=some (.lst (x.ws.map V.str))) (_:x.Ok) (_:x.due N=none) (_:x.csok N) (_:∀H',Xf a.l H H'->Yb t H' n a (x.add N)->Q .non H')
def ZY.form{x:ZY}(h:x.Ok):ZfY x.ws:=by
 cases x with
 |st x=>exact⟨_,_,R,.inl ⟨.inl R,R⟩⟩
 |wk x=>exact⟨_,_,R,.inl ⟨.inr R,R⟩⟩
 |ru x=>exact⟨_,_,R,.inr (.inr (.inl ⟨R,by show 2<=x.r.words.length+1;have:=List.length_pos_iff.mpr (LF x.r);lia⟩))⟩
 |tk x=>exact⟨_,_,R,.inr (.inl ⟨R,R⟩)⟩
 |tp x=>exact⟨_,_,R,.inr (.inr (.inr ⟨R,by
   have e:((x.cs.map J4).flatten).length=3*x.cs.length:=by rw[<-Sv (f:=V.str),jR,C4]
   show(((x.cs.map J4).flatten).length+1+1+1)%3=0;omega⟩))⟩
def ZpK(c:Zu K mg t):Zo P w K mg base Zr 60 t.ZcG t.ZcH ["net","number","words"] (ZpJ t):=by
 erw[c.Zev.F.ok Zbk () λD A outer s H C Q E j h=>?_];ext⟨n,a,N,x,p,i,rfl,y,no,g,ok,due,co,q⟩ h;erw[⟨_,(Zh (ZC (Yn (Ym (Zt c.Zew (Zpy c) j Zn (Zc (pv 2))))) (Ze Wm) ZE) (Ze (Zik (i:=3) ⟨R,R⟩ R Zbk.nd R R R c.Zng (λpins I=>(Ze (Yc (Zt c.Zex (ZpI c) j Zn (ZB (pv 0) (pv 2)))))) (λa=>(Ze Wm))))),?_⟩];sleep 2;erw[⟨_,R,p,x.ws,R,g,x.form ok,λw v=>(x.wd ok w v).1,λG f=>⟨_,R,Zk () ?_⟩⟩];sleep 1;exact⟨_,R,_,R,n,a,N,x,p,R,y.same f,no,f _ _ g,ok,due,co,λB o u=>q B ((Xf.of f).trans o) u⟩
theorem PJ(d:Nat):∀(l w:OH),w∈spl d l->w.length<=l.length
 |[],w,h=>by rcases SF.mp h with rfl;exact Sg _
 |c::r,w,h=>by
  by_cases e:c=d;rw[spl,SW e]at h;rcases SG.mp h with rfl|h;exact Sk _;exact Nat.le_succ_of_le (PJ d r w h);rw[spl,SV e]at h;cases q:spl d r with
  |nil=>exact Ot q (M6 d r)
  |cons v vs =>
   rw[q]at h;rcases SG.mp h with rfl|h;exact Nat.succ_le_succ (PJ d r v (by rw[q];exact SE));exact Nat.le_succ_of_le (PJ d r w (by rw[q];exact SD _ h))
def ZpL:OL "\n"=(⟨#[10]⟩:Str):=by lia
def QV(l:OH)(o:Option ZY):Prop:=ZfX l (match o with|none=>[]|some x=>Zs x.tx)
inductive ZpM(t:Ya)(vs:List V)(H:Hp)(Q:VK)(_e3:XK):Prop|mk (z:Str) (rs:List (Option ZY)) (N:ZF) (_:vs=[.str z]) (_:z.length+2<=sizeLine) (_:Al QV (spl 10 (Zs z)) rs) (_:XQ ⟨[],[],[],[],[]⟩ (rs.filterMap id) N) (_:∀n a H',Zf H H'->Yb t H' n a N->UR H a->Q (.ref n) H')
def PL(c:Zu K mg t):Zo P w K mg base Zr 62 t.ZcC t.ZcD ["text"] (ZpM t):=by
 erw[c.LN.F.ok LI () λi0 A outer s H vs j0 k0 T h=>?_];ext⟨z,rs,N,rfl,hz,al,ad,q⟩ h;erw[⟨_,(Zh (ZC (Yn (Ym (Yp VW c.WO WM (ZB (pv 0) (VX R c.Xc Xb))))) (Ze Wm) ZE) (Zh (ZR 1 LI.nd (Rf c.qL (jD c) (T.mono ()) R c.Pi c.Pa.b .nil Zn)) (Zh (Xr (Zkg R c.NH (Zc (YQ PySem.F.plainAttrs_str PySem.F.slot_str_split PySem.F.type_str_split Na (pv 0) (Zc Zl))) (gA Za kZ)) (Wq (n:=2) R (YB (ZJ 2 LI.nd) (YB (ZJ 3 LI.nd) Wo))) (Zh (ZR 4 LI.nd (Zt c.Zeu (Zpw c) T Zn (Zc (pv 3)))) (Ze (ZC (ZV UZ (Yp WY c.XJ XG (Zc (pv 4))) Za) (Ze (Yc (Zt c.Zev (ZpK c) T Zn (Yk (pv 1) (pv 2) (pv 4))))) ZE)))) (Ze (Zp (pv 1)))))),?_⟩];sleep 4;erw[⟨_,R,.str z,"str",_,_,R,(Kd.str (H:=H) z).ty,E5 (Kd.str (H:=H) z),_,R,Zk () ?_⟩];sleep 1;intro n dx G Z f0;erw[⟨n,H,R,G,Wy (Zw Z _) G _,⟨dx,Zi⟩,λH1 a S1 b0 f=>⟨R,?_⟩⟩];clear G Z f0;erw[⟨_,R,R,z,10,R,congrArg (λz=>[V.str z]) ZpL,hz,λj Y=>?_⟩];have n0:j∉a.l:=λm=>PH (b0.kd m) Y R;generalize Q:upd H1 j _=S;have s2:=ZO Y Q;have X:S j=some (.lst (C5 (spl 10 (Zs z)))):=ZM Q;clear Q;have S2:=S1.trans s2;have h0:=b0.same s2;have back:∀{H'},Xf a.l S H'->Zf H H':=λo x a0 e=>o x a0 (S2 x a0 e) λm=>by
  simp only[NA.l,SG,List.not_mem_nil,or_false]at m;rcases m with rfl|rfl|rfl|rfl|rfl;rw[f.s]at e;cases e;rw[f.w]at e;cases e;rw[f.r]at e;cases e;rw[f.t]at e;cases e;rw[f.p]at e;cases e
 have la:=al.length;erw[⟨j,R,R,⟨_,Zd.of X⟩,Zkh (K:=K) (a:=j) (xs:=C5 (spl 10 (Zs z))) (λi u H'=>∃M,Xf a.l S H'/\Yb t H' n a M/\XQ M ((rs.drop i).filterMap id) N/\∃U O J:Option V,u=[some (.str z),some (.ref n),U,O,J]) ⟨_,Xf.of (Zf.refl _),h0,ad,_,_,_,R⟩ (λi u H' _ ⟨_,h,_⟩=>Zd.of (h _ _ X n0)) ?_ ?_⟩];rintro i v p u E L hp ⟨M,C,y,ad,U,O,J,rfl⟩;have D:=Zw hp (.tup [.int ((i+1:Nat):Int),v]);have c4:upd E p (.tup [.int ((i+1:Nat):Int),v]) p=some (.tup [.int ((i+1:Nat):Int),v]):=Zi;generalize upd E p (.tup [.int ((i+1:Nat):Int),v])=H4 at D c4 ⊢;erw[⟨p,_,R,Zg.of c4,R,_,_,R,_,_,R,R,?_⟩];unfold C5 at L;rw[Ob]at L;obtain⟨l,el,rfl⟩:=Og.mp L;obtain⟨o,eo,ln⟩:=al.get el;have hi:=(Sr.mp eo).1;rw[List.drop_eq_getElem_cons hi,(Sr.mp eo).2]at ad;have ll:(⟨l.toArray⟩:Str).length+2<=sizeLine:=Sh (Nat.add_le_add_right (show l.length<=z.length by rw[<-WI];exact PJ 10 _ l (SL el)) 2) hz;cases o with
 |some x =>
  have ad:XQ M (x::(rs.drop (i+1)).filterMap id) N:=ad;cases ad with
  |cons ok due co g0 ad =>
  have ne:Zs x.tx≠[]:=λe=>by
   have h:=x.cut ok;rw[e]at h;have h:[[]]=x.ws.map Zs:=h;have hm:([]:OH)∈x.ws.map Zs:=by rw[<-h];exact SE
   obtain⟨w,I,d0⟩:=SK.mp hm;exact(x.wd ok w I).1 d0
  erw[⟨_,R,⟨l.toArray⟩,Zs x.tx,x.ws.map Zs,R,ll,ln,.inr ⟨ne,x.cut ok,λw I=>by obtain⟨w',h',rfl⟩:=SK.mp I;exact(x.wd ok w' h').1⟩,λB H5 c0 s5 g=>?_⟩];rw[ZpG]at g;have wl:0<x.ws.length:=List.length_pos_iff.mpr x.ne;erw[⟨_,R,B,_,R,.inl (Zd.of g),_,_,R,R,_,R,Zy (SR (by rw[Sv];lia)) ?_⟩];have S5:=D.trans s5;exact⟨_,R,_,R,_,R,n,a,M,x,B,_,R,y.same S5,g0,g,ok,due,co,λH6 o6 e0=>⟨_,C.trans ((Xf.of S5).trans o6),e0,ad,_,_,_,R⟩⟩
 |none =>
  erw[⟨_,R,⟨l.toArray⟩,[],[],R,ll,ln,.inl ⟨R,R⟩,λB H5 c0 s5 g=>?_⟩];exact⟨_,R,B,_,R,.inl (Zd.of g),_,_,R,R,_,R,Zk () ⟨M,C.trans (Xf.of (D.trans s5)),y.same (D.trans s5),ad,_,_,_,R⟩⟩
 rintro u E ⟨M,C,y,ad,U,O,J,rfl⟩;rw[List.drop_eq_nil_of_le (by unfold C5;rw[Sv,la];exact Sg _)]at ad;cases ad;exact⟨_,R,q n a E (back C) y f⟩
def VM(l:OH)(xs:List ZY):Prop:=∃(c:List (List Nat)) (rs:List (Option ZY)),l=(c.map λw=>w++[10]).flatten/\Al QV c rs/\(∀w∈c,10∉w)/\rs.filterMap id=xs
theorem Zf7(c:Nat):∀w:List Nat,c∉w->spl c w=[w]
 |[],_=>rfl
 |x::r,h=>by
  rw[spl,SV (λe=>h (by rw[e];exact SE)),Zf7 c r λm=>h (SD _ m)]
theorem jS:∀(c:List (List Nat)) (w:OH),(∀x∈c,10∉x)->10∉w->spl 10 ((c.map λx=>x++[10]).flatten++w)=c++[w]
 |[],w,_,n=>Zf7 10 w n
 |x::r,w,h,n=>by
  rw[SN,List.flatten_cons,Oe,Oe,List.singleton_append,Rq 10 _ _ (h x SE),jS r w (λy f=>h y (SD _ f)) n];rfl
def VM.line{w : List Nat}{o:Option ZY}(h:VM l xs)(k:QV w o)(n:10∉w):VM (l++w++[10]) (xs++o.toList):=by
 ext⟨i,j,rfl,g,f,rfl⟩ h;erw[⟨i++[w],j++[o],by simp,g.app (.cons k .nil),λx c=>?_,by cases o<;>simp⟩];rcases SH.mp c with c|c;exact f x c;rwa[SF.mp c]
def C6:QV [] none:=⟨0,0,[],R,.inl R,λh=>nomatch h⟩
def VM.cut(h:VM l xs):∃c,Al QV (spl 10 l) c/\c.filterMap id=xs:=by
 ext⟨i,c,rfl,g,f,rfl⟩ h;erw[⟨c++[none],?_,by simp⟩];have e:=jS i [] f (λh=>nomatch h);rw[Od]at e;rw[e];exact g.app (.cons C6 .nil)
def VM.but{l:OH}(h:VM l xs)(ne:l≠[]):∃g,Al QV (spl 10 (l.take (l.length - 1))) g/\g.filterMap id=xs:=by
 ext⟨n,g,rfl,j,f,rfl⟩ h;rcases List.eq_nil_or_concat n with rfl|⟨c,w,rfl⟩;exact Ot R ne;erw[⟨g,?_,R⟩];have e:(((c.concat w).map λx=>x++[10]).flatten).take ((((c.concat w).map λx=>x++[10]).flatten).length - 1)=(c.map λx=>x++[10]).flatten++w:=by
  rw[List.concat_eq_append,SM,List.flatten_append,List.map_singleton,List.flatten_singleton,<-Oe,Su (bs:=[10]),Sw,Nat.add_sub_cancel,List.take_left]
 rwa[e,jS c w (λx i=>f x (by simp[i])) (f w (by simp)),<-List.concat_eq_append]
def ZpN(z:Str)(h:1<=z.length):Txt.slice z none (some (-1))=⟨(z.cps.toList.take (z.length - 1)).toArray⟩:=by
 rw[<-Zax z (z.length - 1) (Nat.sub_le _ _)];have e:Builtin.Str.strSliceIndices none (some (-1)) 1 z.length=Builtin.Str.strSliceIndices none (some ((z.length - 1:Nat):Int)) 1 z.length:=by
  unfold Builtin.Str.strSliceIndices;simp only[SW (show(-1:Int)<0 by lia),SV (show ¬ (((z.length - 1:Nat):Int)<0) by lia)];rw[show(-1:Int)+(z.length:Int)=((z.length - 1:Nat):Int) by lia]
 unfold Txt.slice;rw[e]
def ZpO:List V:=[.str (OL ""),.str (OL "\n"),.str (OL " # net\n"),.str (OL "#\n\n")]
def ZpP:List V:=[.str (OL ""),.str (OL ""),.str (OL " "),.str (OL "   ")]
def ZpQ:List V:=[.str (OL ""),.str (OL ""),.str (OL " "),.str (OL " # stop a 1 1"),.str (OL "#"),.str (OL " # #")]
def Zf8:List V:=[.str (OL "\n"),.str (OL "\n"),.str (OL "\n\n"),.str (OL "\n # row\n")]
def PM:VM [] []:=⟨[],[],R,.nil,(),R⟩
def ZpR{k:Nat}(h:k<4):∃Z,YW ZpO (k:Int)=some (.str Z)/\VM (Zs Z) []/\Z.length<=20:=by
 have c:VM [10] []:=PM.line (w:=[]) (o:=none) C6 (λh=>nomatch h)
 match k,h with
 |0,_=>exact⟨_,R,PM,()⟩
 |1,_=>exact⟨_,R,by rwa[show Zs (OL "\n")=[10] by lia],()⟩
 |2,_=>exact⟨_,R,by rw[show Zs (OL " # net\n")=[32,35,32,110,101,116]++[10] by lia];exact PM.line (o:=none) ⟨1,0,[35,32,110,101,116],R,.inr ⟨_,R⟩,λh=>nomatch h⟩ (),()⟩
 |3,_=>exact⟨_,R,by rw[show Zs (OL "#\n\n")=[35]++[10]++[]++[10] by lia];exact(PM.line (o:=none) ⟨0,0,[35],R,.inr ⟨_,R⟩,λh=>nomatch h⟩ ()).line (o:=none) C6 (λh=>nomatch h),()⟩
def ZpS{k:Nat}(h:k<4):∃(A:Str) (p:Nat),YW ZpP (k:Int)=some (.str A)/\Zs A=List.replicate p 32/\A.length<=20:=by
 match k,h with
 |0,_=>exact⟨_,0,R,(),()⟩
 |1,_=>exact⟨_,0,R,(),()⟩
 |2,_=>exact⟨_,1,R,(),()⟩
 |3,_=>exact⟨_,3,R,(),()⟩
def ZpT{k:Nat}(h:k<6):∃(B:Str) (q:Nat) (rest:OH),YW ZpQ (k:Int)=some (.str B)/\Zs B=List.replicate q 32++rest/\(rest=[]\/∃r,rest=35::r)/\10∉Zs B/\B.length<=20:=by
 match k,h with
 |0,_=>exact⟨_,0,[],R,(),.inl R,(),()⟩
 |1,_=>exact⟨_,0,[],R,(),.inl R,(),()⟩
 |2,_=>exact⟨_,1,[],R,(),.inl R,(),()⟩
 |3,_=>exact⟨_,1,35::[32,115,116,111,112,32,97,32,49,32,49],R,(),.inr ⟨_,R⟩,(),()⟩
 |4,_=>exact⟨_,0,35::[],R,(),.inr ⟨_,R⟩,(),()⟩
 |5,_=>exact⟨_,1,35::[32,35],R,(),.inr ⟨_,R⟩,(),()⟩
def ZpU{k:Nat}(h:k<4):∃Z,YW Zf8 (k:Int)=some (.str Z)/\(∀{l w:OH} {xs:List ZY} {o:Option ZY},VM l xs->QV w o->10∉w->VM (l++w++Zs Z) (xs++o.toList))/\Z.length<=20:=by
 have f:Zs (OL "\n")=[10]:=by lia
 match k,h with
 |0,_=>exact⟨_,R,λa b c=>by rw[f];exact a.line b c,()⟩
 |1,_=>exact⟨_,R,λa b c=>by rw[f];exact a.line b c,()⟩
 |2,_=>exact⟨_,R,λa b c=>by
   have:=(a.line b c).line (w:=[]) (o:=none) C6 (λh=>nomatch h);rw[show Zs (OL "\n\n")=[10]++[]++[10] by lia];simpa using this,()⟩
 |3,_=>exact⟨_,R,λa b c=>by
   have:=(a.line b c).line (w:=[32,35,32,114,111,119]) (o:=none) ⟨1,0,[35,32,114,111,119],R,.inr ⟨_,R⟩,λh=>nomatch h⟩ ();rw[show Zs (OL "\n # row\n")=[10]++[32,35,32,114,111,119]++[10] by lia];simpa using this,()⟩
inductive ZpV(vs:List V)(H:Hp)(Q:VK)(_e3:XK):Prop|mk (p:Addr) (m:Nat) (xs:List ZY) (_:vs=[.ref p,.int m]) (_:H p=some (.lst ((xs.map ZY.tx).map V.str))) (_:xs.length<=39) (_:(∀x∈xs,x.Ok/\x.tx.length<=110000)) (_:∀z rs H',Zf H H'->z.length+2<=sizeLine->Al QV (spl 10 (Zs z)) rs->rs.filterMap id=xs->Q (.str z) H')
def ZpW(B:Zu K mg t):Zo P w K mg base Zr 2 t.Zdk t.Zdl ["_law_rows_here","_law_number"] ZpV:=by
 erw[B.ZeD.F.ok QC () λk0 A outer s b0 vs i0 m0 hr h=>?_];ext⟨p,m,xs,rfl,hp,few,all,q⟩ h;erw[⟨_,(Zh (ZR 2 QC.nd (Zq Yf (Ye (Uk Zl Zl Zl Zl)) (Zj Z7 (pv 1) Za))) (Zh (Xr (ZaU R B.NH (Zc (pv 0))) (Wq (n:=2) R (YB (ZJ 3 QC.nd) (YB (ZJ 4 QC.nd) Wo))) (Zh (ZR 5 QC.nd (Zt B.V3 (Up B) hr Zn (ZB (pv 1) (pv 3)))) (Zh (ZR 6 QC.nd (Zq Yf (Ye (Uk Zl Zl Zl Zl)) (Zj Z7 (pv 5) Za))) (Zh (ZR 7 QC.nd (Zq Yf (Ye (pa6 Zl Zl Zl Zl Zl Zl)) (Zj Z7 (Zj YY (pv 5) Za) Za))) (Ze (ZR 2 QC.nd (Zj Yo (Zj Yo (Zj Yo (Zj Yo (pv 2) (pv 6)) (pv 4)) (pv 7)) (Zq Yf (Ye (Uk Zl Zl Zl Zl)) (Zj Z7 (Zj YY (pv 5) Za) Za))))))))) (Zh (ZC (PW.pt (P1 (ZV Z8 (Zj Z7 (Zj YY (pv 1) Za) Za) Za) (P0 (ZV Z8 (VT UC (pv 2) (VB (kL kM Za)) VS) Zl)))) (Ze (Zp (VT UC (pv 2) VS (VB (kL kM Za))))) ZE) (Ze (Zp (pv 2)))))),?_⟩];sleep 4;have lx:((xs.map ZY.tx).map V.str).length=xs.length:=by rw[Sv,Sv]
 obtain⟨f0,eZ,tZ,lZ⟩:=ZpR (Op m (show 4>0 by lia));rw[SX]at eZ;erw[⟨zL9 R,λph gh=>?_⟩];erw[⟨_,R,_,_,R,R,(),ph,_,_,_,R,R,Zd.of Zi,eZ,?_⟩];generalize g:upd b0 ph _=H1;have s1:=ZO gh g;clear g;erw[⟨_,R,p,R,⟨_,Zd.of (s1 _ _ hp)⟩,ZaV (K:=K) (a:=p) (xs:=(xs.map ZY.tx).map V.str) (λi D L=>Zf b0 L/\∃z:Str,VM (Zs z) (xs.take i)/\z.length<=20+110060*i/\∃J E G I H:Option V,D=[some (.ref p),some (.int m),some (.str z),J,E,G,I,H]) ⟨s1,f0,tZ,(),_,_,_,_,_,R⟩ (λi D L _ ⟨s',_⟩=>Zd.of (s' _ _ hp)) ?_ ?_⟩];rintro i v y D j hv gp ⟨s2,z,u,f,J,E,G,I,H,rfl⟩;have s3:=Zw gp (.tup [.int (i:Int),v]);have c3:upd j y (.tup [.int (i:Int),v]) y=some (.tup [.int (i:Int),v]):=Zi;generalize upd j y (.tup [.int (i:Int),v])=H3 at s3 c3 ⊢;erw[⟨y,_,R,Zg.of c3,R,_,_,R,_,_,R,R,?_⟩];sleep 4;rw[Ob,Ob]at hv;obtain⟨l0,ey,rfl⟩:=Og.mp hv;obtain⟨x,ex,rfl⟩:=Og.mp ey;obtain⟨ox,a0⟩:=all x (SL ex);have il:=(Sr.mp ex).1;erw[⟨_,R,_,R,(m:Int),(i:Int),R,(),(),?_⟩];generalize Wi (m:Int) (i:Int)=k;obtain⟨A,pn,eA,tA,T⟩:=ZpS (Op k (show 4>0 by lia));obtain⟨c0,qn,rest,U,tB,rB,nB,lB⟩:=ZpT (Op (k/4) (show 6>0 by lia));obtain⟨j0,O,tC,X⟩:=ZpU (Op (k/24) (show 4>0 by lia));rw[SX]at eA;rw[SX,SY]at U O;erw[⟨zL9 R,λpa ga=>?_⟩];erw[⟨_,R,_,_,R,R,(),pa,_,_,_,R,R,Zd.of Zi,eA,?_⟩];generalize g:upd H3 pa _=H4;have s4:=ZO ga g;clear g;erw[⟨zL9 R,λS gb=>?_⟩];erw[⟨_,R,_,_,R,R,⟨(),()⟩,_,_,R,R,(),S,_,_,_,R,R,Zd.of Zi,U,?_⟩];generalize g:upd H4 S _=H5;have s5:=ZO gb g;clear g;have C:∀{a b:Str} {n k:Nat},a.length<=n->b.length<=k->n+k<=5000000->a.length+b.length<=sizeLine:=λh1 h2 h3=>Sh (Nat.add_le_add h1 h2) (Sh h3 ());have Z:(z++A).length<=40+110060*i:=by have:=Q4 f T;lia
 have l2:(z++A++x.tx).length<=110040+110060*i:=by have:=Q4 Z a0;lia
 have Q:(z++A++x.tx++c0).length<=110060+110060*i:=by have:=Q4 l2 lB;lia
 erw[⟨_,R,_,R,_,_,R,R,C f T (),_,R,_,_,R,R,C Z a0 (),_,R,_,_,R,R,C l2 lB (),?_⟩];erw[⟨zL9 R,λpc gc=>?_⟩];erw[⟨_,R,_,_,R,R,⟨(),()⟩,_,_,R,R,(),pc,_,_,_,R,R,Zd.of Zi,O,_,_,R,R,C Q X (),?_⟩];have d0:=((s2.trans s3).trans (s4.trans s5)).trans (Zw gc (.lst Zf8));erw[⟨d0,_,?_,(by have:=Q4 Q X;lia),_,_,_,_,_,R⟩];rw[Yy,Yy,Yy,Yy,VL ex,Oe (Zs z),Oe (Zs z)];erw[tC u (o:=some x) ?_ ?_];exact⟨pn,qn,rest,by rw[tA,tB,Oe,Oe,Oe],rB,x.free ox () ()⟩;rw[tA];intro h;rcases SH.mp h with h|h;rcases SH.mp h with h|h;exact Ot (List.mem_replicate.mp h).2 ();exact x.free ox () () h;exact nB h;rintro D j ⟨s2,z,u,f,J,E,G,I,H,rfl⟩;rw[lx,SZ (Sg _)]at u;rw[lx]at f;have f:z.length+2<=sizeLine:=Sh (show _<=5000000 by lia) ();have Y:z.length<=sizeLine:=Sh (Oo _ 2) f;ext⟨rs,al,er⟩ u.cut;have M:=q z rs j s2 f al er;erw[⟨_,R,_,_,R,R,⟨(),()⟩,_,_,R,R,(),R,?_⟩];erw[⟨_,R,VC (λc=>?_) (λc=>⟨_,R,M⟩)⟩];erw[⟨_,R,1,R,-1,R,z,R,Y,R,_,R,VC (λc=>?_) (λc=>⟨_,R,M⟩)⟩];sleep 1;have z1:1<=z.length:=by
  rcases Nat.eq_zero_or_pos z.length with e|e;exfalso;have:z=⟨#[]⟩:=by
   ext⟨a⟩ z;have:a=#[]:=Array.eq_empty_of_size_eq_zero e;rw[this]
  rw[this]at c;exact Ot c ();exact e
 obtain⟨h0,g0,e0⟩:=u.but (λe=>by rw[<-WI,show z.cps.toList=[] from e]at z1;exact Ot z1 ());erw[⟨_,R,1,R,-1,R,z,R,Y,?_⟩];rw[ZpN z z1];erw[q _ h0 j s2 ?_ ?_ e0];erw[Sh (Nat.add_le_add_right ?_ 2) f];show(z.cps.toList.take (z.length - 1)).toArray.size<=_;rw[SO,Sx];rw[WI];lia;rw[<-WI];erw[g0]
def ZpX{i : Nat}(hi:i<7):∃c,YW (OL "01").cps.toList (((b/2 ^ i:Nat):Int)%2)=some c/\(⟨#[c]⟩:Str)=WK b i:=by
 have f:(RT.week b).runs i=(b/2 ^ i%2==1):=by
  show(b/2 ^ (i%7)%2==1)=_;rw[Nat.mod_eq_of_lt hi]
 unfold WK;rw[f];rcases Nat.mod_two_eq_zero_or_one (b/2 ^ i)with h|h;rw[h,show((b/2 ^ i:Nat):Int)%2=0 by lia];exact⟨_,R,()⟩;rw[h,show((b/2 ^ i:Nat):Int)%2=1 by lia];exact⟨_,R,()⟩
def C7(h:Zs a=Zs b):a=b:=by
 ext⟨⟨x⟩⟩ a;ext⟨⟨y⟩⟩ b;have h:x=y:=h;rw[h]
theorem C8(c:Nat):∀(a b:List (List Nat)),a≠[]->b≠[]->YF c (a++b)=YF c a++c::YF c b
 |[x],y::r,_,_=>rfl
 |x::y::r,b,_,f=>by
  show x++c::YF c ((y::r)++b)=(x++c::YF c (y::r))++c::YF c b;rw[C8 c (y::r) b (by simp) f,Oe];rfl
def Ua(T:RT):Zs (YO T)=YF 32 (T.words.map Zs):=by unfold YO;rw[A0];exact U2 32 _
def J6(T:RT):T.words.map Zs≠[]:=λe=>LF T (List.map_eq_nil_iff.mp e)
def ZpY(b:Nat):OL "week " ++ U6 b=YO (.week b):=C7 (by
 rw[Ua,Yy,show Zs (OL "week ")=Zs (OL "week")++[32] by lia,Oe];rfl)
def ZpZ(n:Nat)(c:OH):OL "each " ++ ZX n++OL " " ++ X3 c=YO (.each n c):=C7 (by
 rw[Ua,Yy,Yy,Yy,show Zs (OL "each ")=Zs (OL "each")++[32] by lia,show Zs (OL " ")=[32] by lia,Oe,Oe,Oe];rfl)
def Zp0(a b:Nat)(r:RT):OL "span " ++ ZX a++OL " " ++ ZX b++OL " " ++ YO r=YO (.span a b r):=C7 (by
 rw[Ua,RT.words,SM,C8 32 _ _ (by simp) (J6 r),<-Ua,Yy,Yy,Yy,Yy,Yy,show Zs (OL "span ")=Zs (OL "span")++[32] by lia,show Zs (OL " ")=[32] by lia];simp[YF])
def Zp1(c:OH)(r:RT):OL "but " ++ X3 c++OL " " ++ YO r=YO (.but c r):=C7 (by
 rw[Ua,RT.words,SM,C8 32 _ _ (by simp) (J6 r),<-Ua,Yy,Yy,Yy,show Zs (OL "but ")=Zs (OL "but")++[32] by lia,show Zs (OL " ")=[32] by lia];simp[YF])
def Zp2(r s:RT):OL "either" ++ OL " " ++ YO r++OL " " ++ YO s=YO (.either r s):=C7 (by
 rw[Ua,RT.words,SM,SM,C8 32 _ _ (by simp) (J6 s),C8 32 _ _ (by simp) (J6 r),<-Ua,<-Ua,Yy,Yy,Yy,Yy,show Zs (OL " ")=[32] by lia];simp[YF])
def Zp3(r s:RT):OL "both" ++ OL " " ++ YO r++OL " " ++ YO s=YO (.both r s):=C7 (by
 rw[Ua,RT.words,SM,SM,C8 32 _ _ (by simp) (J6 s),C8 32 _ _ (by simp) (J6 r),<-Ua,<-Ua,Yy,Yy,Yy,Yy,show Zs (OL " ")=[32] by lia];simp[YF])
inductive Zp4(n:Nat)(vs:List V)(H:Hp)(Q:VK)(_e3:XK):Prop|mk (tp:Addr) (v:V) (r:RT) (_:vs=[v]) (_:YX tp H v r) (_:r.good) (_:r.weight<=15) (_:r.depth<=n) (_:∀H',Zf H H'->Q (.str (YO r)) H')
def X0{k:Nat}(h:k<=4545):k<=sizeLine:=Sh h ()
def Zp5(c:Zu K mg t):∀n:Nat,Zo P w K mg base Zr (n+1) t.Zdc t.Zdd ["_law_told"] (Zp4 n):=by
 intro n;induction n with
 |zero =>
  erw[c.W0.F.ok Zbp (λvs H b0 a0 h=>?_) (λc0 A outer s H vs b0 a0 S h=>?_)];ext⟨tp,v,r,rfl,_⟩ h;rfl;ext⟨tp,v,r,rfl,h,g,hw,hd,_⟩ h;have:=r.depth_pos;lia
 |succ n U =>
 erw[c.W0.F.ok Zbp () λc0 A outer s H vs b0 a0 S h=>?_];ext⟨tp,v,r,rfl,h,g,hw,hd,q⟩ h;have f:=Nu g hw;erw[⟨_,(Zh (ZC (ZV Z8 (Zq ZH (pv 0) Za) Zl) (Ze (Zp Zl)) ZE) (Zh (ZC (ZV Z8 (Zq ZH (pv 0) Za) Zl) (Ze (Zp (Zj Yo Zl (YQ PySem.F.plainAttrs_str PySem.F.slot_str_join PySem.F.type_str_join WJ Zl (Zc (YZ (cl:=[(OL "_law_told",s.heap.objs.size+1)]) (N:=["_law_k","_law_told"]) (fr:=[none,some 0]) R (Vj R c.WP (Zc Za)) R () R () ⟨⟨R,Or.inl R,Or.inl R,_,R,R⟩,trivial⟩ ⟨R,trivial⟩ R (λ_ _ _ _ _=>(ZJ 0 (show List.Nodup (["_law_k","_law_told"]:OD) by lia))) (λ_ _ _ _ _=>YM) (λ_ _ _ _ _=>(Zq K6 Zl (Zj Z7 (Zj YY (Zq (show XA _ (WV K)from ZH) (pv 1) Za) (Zj MN Za (pv 0))) Za))))))))) ZE) (Zh (ZC (ZV Z8 (Zq ZH (pv 0) Za) Zl) (Ze (Zp (Zj Yo (Zj Yo (Zj Yo Zl (Z1 XS R c.Xc Xb (Zc (Zq (show XA _ (WV K)from ZH) (pv 0) Za)))) Zl) (YQ PySem.F.plainAttrs_str PySem.F.slot_str_join PySem.F.type_str_join WJ Zl (Zc (YZ (cl:=[]) (N:=["_law_one"]) (fr:=[none]) R (YP (Zq ZH (pv 0) Za)) R () R () trivial trivial R (λ_ _ _ _ _=>(ZJ 0 (show List.Nodup (["_law_one"]:OD) by lia))) (λ_ _ _ _ _=>YM) (λ_ _ _ _ _=>(Z1 XS R c.Xc Xb (Zc (pv 0)))))))))) ZE) (Zh (ZC (ZV Z8 (Zq ZH (pv 0) Za) Zl) (Ze (Zp (Zj Yo (Zj Yo (Zj Yo (Zj Yo (Zj Yo Zl (Z1 XS R c.Xc Xb (Zc (Zq (show XA _ (WV K)from ZH) (pv 0) Za)))) Zl) (Z1 XS R c.Xc Xb (Zc (Zq ZH (pv 0) Za)))) Zl) (Xu U (S.mono ()) R c.W0.m c.W0.F.kp c.W0.b .nil Zn (Zc (Zq ZH (pv 0) Za)))))) ZE) (Zh (ZC (ZV Z8 (Zq ZH (pv 0) Za) Zl) (Ze (Zp (Zj Yo (Zj Yo (Zj Yo Zl (YQ PySem.F.plainAttrs_str PySem.F.slot_str_join PySem.F.type_str_join WJ Zl (Zc (YZ (cl:=[]) (N:=["_law_one"]) (fr:=[none]) R (YP (Zq (show XA _ (WV K)from ZH) (pv 0) Za)) R () R () trivial trivial R (λ_ _ _ _ _=>(ZJ 0 (show List.Nodup (["_law_one"]:OD) by lia))) (λ_ _ _ _ _=>YM) (λ_ _ _ _ _=>(Z1 XS R c.Xc Xb (Zc (pv 0)))))))) Zl) (Xu U (S.mono ()) R c.W0.m c.W0.F.kp c.W0.b .nil Zn (Zc (Zq ZH (pv 0) Za)))))) ZE) (Ze (Zp (Zj Yo (Zj Yo (Zj Yo (Zj Yo (Zq ZH (pv 0) Za) Zl) (Xu U (S.mono ()) R c.W0.m c.W0.F.kp c.W0.b .nil Zn (Zc (Zq (show XA _ (WV K)from ZH) (pv 0) Za)))) Zl) (Xu U (S.mono ()) R c.W0.m c.W0.F.kp c.W0.b .nil Zn (Zc (Zq ZH (pv 0) Za))))))))))),?_⟩];cases h with
 |always h =>
  erw[⟨_,R,_,_,0,_,R,R,Zg.of h,R,R,_,R,Zy () ?_⟩];sleep 1;exact q _ (Zf.refl _)
 |week h =>
  rename_i a b;rw[<-ZpY]at f q;simp only[Str.length_append]at f;erw[⟨_,R,_,_,0,_,R,R,Zg.of h,R,R,_,R,Zk () ?_⟩];erw[⟨_,R,_,_,0,_,R,R,Zg.of h,R,R,_,R,Zy () ?_⟩];sleep 1;erw[⟨R,_,R,(),(),Qu (n:=7) (λi y B C=>C=H/\y=((List.range i).map (WK b)).map V.str/\∃v,B=[v,some (.ref a)]) ⟨R,R,_,R⟩ () ?_ ?_⟩];rintro i y B C hi ha ⟨rfl,e,v,rfl⟩;clear f;dsimp only[YA,Y4];rw[SW R];have eN:((0:Int)+(i:Int)).toNat=i:=by lia
  have pL:(1:Int)*2 ^ ((0:Int)+(i:Int)).toNat=((2 ^ i:Nat):Int):=by rw[eN,Int.one_mul,Int.natCast_pow];rfl
  have pP:0<2 ^ i:=Nat.two_pow_pos _;have pU:2 ^ i<=2 ^ 6:=Nat.pow_le_pow_right () ();obtain⟨d0,hc,eb⟩:=ZpX (b:=b) (i:=i) ();rw[SY]at hc;erw[⟨_,R,_,_,1,_,R,R,Zg.of h,R,_,R,_,_,R,R,⟨(),(),()⟩,_,_,R,R,?_,_,_,R,R,(),_,_,d0,R,R,(),?_,?_⟩];rw[pL];exact⟨(),()⟩;rw[pL];exact hc;rw[eb];erw[⟨by rw[Su,Sw];lia,R,?_,_,R⟩];rw[e,Ol];simp;rintro y B C ha ⟨rfl,e,v,rfl⟩ L M;have s2:=Zw M (.lst y);erw[⟨_,L,(List.range 7).map (WK b),R,R,Zd.of (by rw[Zi,e]),Qx (m:=0) () (by rw[Sv,List.length_range];lia) (λx j=>?_),_,_,R,R,X0 (by exact f),q _ s2⟩];obtain⟨n,hn,rfl⟩:=SK.mp j;unfold WK;split<;>decide +kernel
 |each h T ne =>
  rename_i a l m u;rw[<-ZpZ]at f q;simp only[Str.length_append]at f;ext⟨g1,g2,g3⟩ g;have Q:(ZI u).length=u.length:=Sv ..;have Z:=g3.few;erw[⟨_,R,_,_,0,_,R,R,Zg.of h,R,R,_,R,Zk () ?_⟩];erw[⟨_,R,_,_,0,_,R,R,Zg.of h,R,R,_,R,Zk () ?_⟩];erw[⟨_,R,_,_,0,_,R,R,Zg.of h,R,R,_,R,Zy () ?_⟩];erw[⟨_,R,_,_,1,_,R,R,Zg.of h,R,_,R,Wf (),_,_,R,R,X0 (by show _+(ZX m).length<=_;lia),_,_,R,R,X0 (by simp only[Str.length_append];show _+(ZX m).length+_<=_;lia),?_⟩];refine⟨R,_,R,_,_,2,_,R,R,Zg.of h,R,l,R,⟨_,Zd.of T⟩,Vq (K:=K) (a:=l) (xs:=ZI u) (λi y B C=>C=H/\y=((u.take i).map ZX).map V.str/\∃v,B=[v]) ⟨R,R,_,R⟩
   (by rw[Q];exact Sh Z ()) (λi y B C _ ⟨e,_⟩=>by rw[e];exact Zd.of T) ?_ ?_⟩
  rintro i x y B C ha j ⟨rfl,e,v,rfl⟩;rw[Ob]at j;cases E:u[i]? with
  |none=>rw[E]at j;cases j
  |some J =>
   rw[E]at j;obtain rfl:V.int (J:Int)=x:=So j;have hm:=(g3.all J (SL E)).2;dsimp only[YA,Y4];rw[SW R];erw[⟨_,R,_,R,Wf (),?_,R,?_,_,R⟩];rw[Su,Sw];lia;rw[e,Oa,E];simp[ZX]
  rintro y B C ha ⟨rfl,e,v,rfl⟩ L M;rw[Q,List.take_length]at e;have s2:=Zw M (.lst y);erw[⟨_,L,u.map ZX,R,R,Zd.of (by rw[Zi,e]),Qx (m:=0) () (by rw[Sv];lia) (λx j=>?_),?_⟩];obtain⟨n,hn,rfl⟩:=SK.mp j;exact Sh (Uh (by have:=(g3.all n hn).2;lia)) ();exact⟨_,_,R,R,X0 (by simp only[Str.length_append];exact f),q _ s2⟩
 |span h G =>
  rename_i a I X v r;have ed:(RT.span I X r).depth=1+r.depth:=rfl;have ew:(RT.span I X r).weight=1+r.weight:=rfl;ext⟨g1,g2,g3⟩ g;rw[<-Zp0]at f q;simp only[Str.length_append]at f;erw[⟨_,R,_,_,0,_,R,R,Zg.of h,R,R,_,R,Zk () ?_⟩];erw[⟨_,R,_,_,0,_,R,R,Zg.of h,R,R,_,R,Zk () ?_⟩];erw[⟨_,R,_,_,0,_,R,R,Zg.of h,R,R,_,R,Zk () ?_⟩];erw[⟨_,R,_,_,0,_,R,R,Zg.of h,R,R,_,R,Zy () ?_⟩];erw[⟨_,R,_,_,1,_,R,R,Zg.of h,R,_,R,Wf (),_,_,R,R,X0 (by show _+(ZX I).length<=_;lia),_,_,R,R,X0 (by simp only[Str.length_append];show _+(ZX I).length+_<=_;lia),?_⟩];erw[⟨_,R,_,_,2,_,R,R,Zg.of h,R,_,R,Wf (),_,_,R,R,X0 (by simp only[Str.length_append];show _+(ZX I).length+_+(ZX X).length<=_;lia),_,_,R,R,X0 (by simp only[Str.length_append];show _+(ZX I).length+_+(ZX X).length+_<=_;lia),?_⟩];exact⟨_,R,_,_,3,_,R,R,Zg.of h,R,tp,v,r,R,G,g3,(),(),λH2 s2=>⟨_,_,R,R,X0 (by simp only[Str.length_append];exact f),q _ s2⟩⟩
 |but h T ne G =>
  rename_i a l u v r;have ed:(RT.but u r).depth=1+r.depth:=rfl;have ew:(RT.but u r).weight=1+r.weight:=rfl;rw[<-Zp1]at f q;simp only[Str.length_append]at f;ext⟨g3,g4⟩ g;have Q:(ZI u).length=u.length:=Sv ..;have Z:=g3.few;erw[⟨_,R,_,_,0,_,R,R,Zg.of h,R,R,_,R,Zk () ?_⟩];erw[⟨_,R,_,_,0,_,R,R,Zg.of h,R,R,_,R,Zk () ?_⟩];erw[⟨_,R,_,_,0,_,R,R,Zg.of h,R,R,_,R,Zk () ?_⟩];erw[⟨_,R,_,_,0,_,R,R,Zg.of h,R,R,_,R,Zk () ?_⟩];erw[⟨_,R,_,_,0,_,R,R,Zg.of h,R,R,_,R,Zy () ?_⟩];refine⟨R,_,R,_,_,1,_,R,R,Zg.of h,R,l,R,⟨_,Zd.of T⟩,Vq (K:=K) (a:=l) (xs:=ZI u) (λi y B C=>C=H/\y=((u.take i).map ZX).map V.str/\∃v,B=[v]) ⟨R,R,_,R⟩
   (by rw[Q];exact Sh Z ()) (λi y B C _ ⟨e,_⟩=>by rw[e];exact Zd.of T) ?_ ?_⟩
  rintro i x y B C ha j ⟨rfl,e,v,rfl⟩;rw[Ob]at j;cases E:u[i]? with
  |none=>rw[E]at j;cases j
  |some J =>
   rw[E]at j;obtain rfl:V.int (J:Int)=x:=So j;have hm:=(g3.all J (SL E)).2;dsimp only[YA,Y4];rw[SW R];erw[⟨_,R,_,R,Wf (),?_,R,?_,_,R⟩];rw[Su,Sw];lia;rw[e,Oa,E];simp[ZX]
  rintro y B C ha ⟨rfl,e,v,rfl⟩ L M;rw[Q,List.take_length]at e;have s2:=Zw M (.lst y);erw[⟨_,L,u.map ZX,R,R,Zd.of (by rw[Zi,e]),Qx (m:=0) () (by rw[Sv];lia) (λx j=>?_),?_⟩];obtain⟨n,hn,rfl⟩:=SK.mp j;exact Sh (Uh (by have:=(g3.all n hn).2;lia)) ();erw[⟨_,_,R,R,X0 (by show _+(X3 u).length<=_;lia),_,_,R,R,X0 (by simp only[Str.length_append];show _+(X3 u).length+_<=_;lia),?_⟩];have O:=s2 _ _ h;exact⟨_,R,_,_,2,_,R,R,Zg.of O,R,tp,_,r,R,G.same s2,g4,(),(),λH2 s4=>⟨_,_,R,R,X0 (by simp only[Str.length_append];exact f),q _ (s2.trans s4)⟩⟩
 |either h G hu =>
  rename_i a v e0 r D;have ed:(RT.either r D).depth=1+max r.depth D.depth:=rfl;have ew:(RT.either r D).weight=1+(r.weight+D.weight):=rfl;rw[<-Zp2]at f q;simp only[Str.length_append]at f;ext⟨g3,g4⟩ g;erw[⟨_,R,_,_,0,_,R,R,Zg.of h,R,R,_,R,Zk () ?_⟩];erw[⟨_,R,_,_,0,_,R,R,Zg.of h,R,R,_,R,Zk () ?_⟩];erw[⟨_,R,_,_,0,_,R,R,Zg.of h,R,R,_,R,Zk () ?_⟩];erw[⟨_,R,_,_,0,_,R,R,Zg.of h,R,R,_,R,Zk () ?_⟩];erw[⟨_,R,_,_,0,_,R,R,Zg.of h,R,R,_,R,Zk () ?_⟩];erw[⟨_,R,_,_,0,_,R,R,Zg.of h,R,_,_,R,R,X0 (),?_⟩];erw[⟨_,R,_,_,1,_,R,R,Zg.of h,R,tp,_,r,R,G,g3,(),(),λH2 s2=>⟨_,_,R,R,X0 (by simp only[Str.length_append];lia),_,_,R,R,X0 (by simp only[Str.length_append];lia),?_⟩⟩];have O:=s2 _ _ h;exact⟨_,R,_,_,2,_,R,R,Zg.of O,R,tp,_,D,R,hu.same s2,g4,(),(),λH3 Y=>⟨_,_,R,R,X0 (by simp only[Str.length_append];exact f),q _ (s2.trans Y)⟩⟩
 |both h G hu =>
  rename_i a v e0 r D;have ed:(RT.both r D).depth=1+max r.depth D.depth:=rfl;have ew:(RT.both r D).weight=1+(r.weight+D.weight):=rfl;rw[<-Zp3]at f q;simp only[Str.length_append]at f;ext⟨g3,g4⟩ g;erw[⟨_,R,_,_,0,_,R,R,Zg.of h,R,R,_,R,Zk () ?_⟩];erw[⟨_,R,_,_,0,_,R,R,Zg.of h,R,R,_,R,Zk () ?_⟩];erw[⟨_,R,_,_,0,_,R,R,Zg.of h,R,R,_,R,Zk () ?_⟩];erw[⟨_,R,_,_,0,_,R,R,Zg.of h,R,R,_,R,Zk () ?_⟩];erw[⟨_,R,_,_,0,_,R,R,Zg.of h,R,R,_,R,Zk () ?_⟩];erw[⟨_,R,_,_,0,_,R,R,Zg.of h,R,_,_,R,R,X0 (),?_⟩];erw[⟨_,R,_,_,1,_,R,R,Zg.of h,R,tp,_,r,R,G,g3,(),(),λH2 s2=>⟨_,_,R,R,X0 (by simp only[Str.length_append];lia),_,_,R,R,X0 (by simp only[Str.length_append];lia),?_⟩⟩];have O:=s2 _ _ h;exact⟨_,R,_,_,2,_,R,R,Zg.of O,R,tp,_,D,R,hu.same s2,g4,(),(),λH3 Y=>⟨_,_,R,R,X0 (by simp only[Str.length_append];exact f),q _ (s2.trans Y)⟩⟩
structure J7(H:Hp)(wd:Addr)(a:NA):Prop extends UR H a where
 d:H wd=none
 ns:wd≠a.ds
 nr:wd≠a.dr
 nt:wd≠a.dt
 np:wd≠a.dp
section Wp
variable{d:Addr}{kvs:List (ZD×V)}{o:HO}(hd:H d=some (.dK kvs))
include hd
theorem X7(h:H p=some (.lst xs)):upd H d o p=some (.lst xs):=by rwa[Zm (Vg h hd (by intro z;cases z))]
theorem YX.put(h:YX tp H v r):YX tp (upd H d o) v r:=by
 induction h with
 |always h=>exact .always (XY hd ZN.k h)
 |week h=>exact .week (XY hd ZN.k h)
 |span h _ i=>exact .span (XY hd ZN.k h) i
 |each h f ne=>exact .each (XY hd ZN.k h) (X7 hd f) ne
 |either h _ _ g c=>exact .either (XY hd ZN.k h) g c
 |both h _ _ g c=>exact .both (XY hd ZN.k h) g c
 |but h f ne _ i=>exact .but (XY hd ZN.k h) (X7 hd f) ne i
theorem WA.put(h:WA H c k):WA (upd H d o) c k:=let ⟨e,tp,h⟩:=h;⟨e,tp,YX.put hd h⟩
theorem WS.put(h:WS H c k):WS (upd H d o) c k:=let ⟨e,r,z,e1,e2,e3⟩:=h;⟨e,r,z,e1,XY hd ZN.k e2,X7 hd e3⟩
theorem WT.put(h:WT H c k):WT (upd H d o) c k:=let ⟨e,r,l,vs,e1,e2,e3,e4⟩:=h;⟨e,r,l,vs,e1,XY hd ZN.k e2,X7 hd e3,e4.imp λ_ _=>Yt.put hd ZN.k⟩
end Wp
section Wa
variable{H0:Hp}{wd:Addr}{a:NA}{W:ZF}{rows:List (ZD×V)}{v:V}(h:YU H wd a W)(n:J7 H0 wd a)
include h n
theorem YU.addSt{x:ZT}(c:H a.ds=some (.dK rows))(j:Al (Yz H) rows W.st)(E:Yx rows (Sum.inr x.nm)=none)(f:Yz H (Sum.inr x.nm,v) x):YU (upd H a.ds (.dK (Xi rows (Sum.inr x.nm) v))) wd a {W with st:=W.st++[x]}:=by
 ext⟨⟨I,O,Q⟩,ap,_,⟨L,G,B⟩,⟨C,u,y⟩,⟨r3,J,D⟩,⟨M,i,g⟩⟩ h;erw[⟨⟨I,by rwa[Zm n.ns],Q⟩,ap,⟨_,Zi,?_⟩,⟨L,X7 c G,B.imp λ_ _=>YG.put c ZN.k⟩,⟨C,by rwa[Zm (ap.sr.symm)],y.imp λ_ _=>WA.put c⟩,⟨r3,by rwa[Zm (ap.st.symm)],D.imp λ_ _=>WS.put c⟩,⟨M,by rwa[Zm (ap.sp.symm)],g.imp λ_ _=>WT.put c⟩⟩];rw[Qy v E];exact(j.imp λ_ _=>Yz.put c ZN.k).snoc (f.put c ZN.k)
theorem YU.addWk(c:H a.lw=some (.lst vs))(B:Al (YG H) vs W.wk)(j:YG H v x)(nr:W.ru=[])(nt:W.tk=[])(np:W.tp=[]):YU (upd H a.lw (.lst (vs++[v]))) wd a {W with wk:=W.wk++[x]}:=by
 ext⟨⟨E,L,M⟩,ap,⟨r1,I,y⟩,_,⟨D,C,g⟩,⟨r3,G,i⟩,⟨J,u,f⟩⟩ h;have kp:∀{p:Addr} {k:List (ZD×V)},H p=some (.dK k)->upd H a.lw (.lst (vs++[v])) p=some (.dK k):=λe=>by rwa[Zm (Vg e c (by intro z;cases z))]
 erw[⟨⟨E,kp L,M⟩,ap,⟨r1,kp I,y.imp λ_ _=>Yz.put c ZN.l⟩,⟨_,Zi,?_⟩,⟨D,kp C,?_⟩,⟨r3,kp G,?_⟩,⟨J,kp u,?_⟩⟩];exact(B.imp λ_ _=>YG.put c ZN.l).snoc (j.put c ZN.l);rw[nr]at g ⊢;cases g;exact .nil;rw[nt]at i ⊢;cases i;exact .nil;rw[np]at f ⊢;cases f;exact .nil
theorem YU.addRu{x:Yl}(c:H a.dr=some (.dK rows))(u:Al (WA H) rows W.ru)(C:Yx rows (Sum.inr x.nm)=none)(f:WA H (Sum.inr x.nm,v) x):YU (upd H a.dr (.dK (Xi rows (Sum.inr x.nm) v))) wd a {W with ru:=W.ru++[x]}:=by
 ext⟨⟨D,M,O⟩,ap,⟨r1,I,j⟩,⟨J,E,y⟩,_,⟨r3,G,B⟩,⟨L,i,g⟩⟩ h;erw[⟨⟨D,by rwa[Zm n.nr],O⟩,ap,⟨r1,by rwa[Zm (ap.sr)],j.imp λ_ _=>Yz.put c ZN.k⟩,⟨J,X7 c E,y.imp λ_ _=>YG.put c ZN.k⟩,⟨_,Zi,?_⟩,⟨r3,by rwa[Zm (ap.rt.symm)],B.imp λ_ _=>WS.put c⟩,⟨L,by rwa[Zm (ap.rp.symm)],g.imp λ_ _=>WT.put c⟩⟩];rw[Qy v C];exact(u.imp λ_ _=>WA.put c).snoc (f.put c)
theorem YU.addTk{x:YS}(c:H a.dt=some (.dK rows))(u:Al (WS H) rows W.tk)(E:Yx rows (Sum.inr x.nm)=none)(f:WS H (Sum.inr x.nm,v) x):YU (upd H a.dt (.dK (Xi rows (Sum.inr x.nm) v))) wd a {W with tk:=W.tk++[x]}:=by
 ext⟨⟨G,O,Q⟩,ap,⟨r1,J,j⟩,⟨L,I,B⟩,⟨C,y,D⟩,_,⟨M,i,g⟩⟩ h;erw[⟨⟨G,by rwa[Zm n.nt],Q⟩,ap,⟨r1,by rwa[Zm (ap.st)],j.imp λ_ _=>Yz.put c ZN.k⟩,⟨L,X7 c I,B.imp λ_ _=>YG.put c ZN.k⟩,⟨C,by rwa[Zm (ap.rt)],D.imp λ_ _=>WA.put c⟩,⟨_,Zi,?_⟩,⟨M,by rwa[Zm (ap.tp.symm)],g.imp λ_ _=>WT.put c⟩⟩];rw[Qy v E];exact(u.imp λ_ _=>WS.put c).snoc (f.put c)
theorem YU.addTp{x:Tp}(c:H a.dp=some (.dK rows))(i:Al (WT H) rows W.tp)(D:Yx rows (Sum.inr x.nm)=none)(f:WT H (Sum.inr x.nm,v) x):YU (upd H a.dp (.dK (Xi rows (Sum.inr x.nm) v))) wd a {W with tp:=W.tp++[x]}:=by
 ext⟨⟨G,M,O⟩,ap,⟨r1,J,g⟩,⟨L,E,u⟩,⟨B,j,y⟩,⟨r3,I,C⟩,_⟩ h;erw[⟨⟨G,by rwa[Zm n.np],O⟩,ap,⟨r1,by rwa[Zm (ap.sp)],g.imp λ_ _=>Yz.put c ZN.k⟩,⟨L,X7 c E,u.imp λ_ _=>YG.put c ZN.k⟩,⟨B,by rwa[Zm (ap.rp)],y.imp λ_ _=>WA.put c⟩,⟨r3,by rwa[Zm (ap.tp)],C.imp λ_ _=>WS.put c⟩,⟨_,Zi,?_⟩⟩];rw[Qy v D];exact(i.imp λ_ _=>WT.put c).snoc (f.put c)
end Wa
structure UV(W:ZF):Prop where
 s2:2<=W.st.length
 s5:W.st.length<=5
 sn:(W.st.map ZT.nm).Nodup
 so:∀x∈W.st,Yd x.nm/\1<=x.z/\x.z<=6/\x.ch<=30
 w4:W.wk.length<=4
 wo:∀x∈W.wk,x.o∈W.st.map ZT.nm/\x.t∈W.st.map ZT.nm/\x.o≠x.t/\1<=x.m/\x.m<=60
 wn:∀i x,W.wk[i]? = some x->Ur (W.wk.take i) x.o x.t=false
 r1:1<=W.ru.length
 r3:W.ru.length<=3
 rn:(W.ru.map Yl.nm).Nodup
 ro:∀x∈W.ru,Yd x.nm/\x.r.Ok
 t2:W.tk.length<=2
 tn:(W.tk.map YS.nm).Nodup
 to:∀x∈W.tk,x.Ok
 p3:W.tp.length<=3
 pn:(W.tp.map Tp.nm).Nodup
 po:∀x∈W.tp,Yd x.nm/\x.ru∈W.ru.map Yl.nm/\Vc (W.st.map ZT.nm) x.cs/\2<=x.cs.length/\x.cs.length<=6
 r7:∀z∈W.ru.map Yl.nm,z.length<=7
 p7:∀z∈W.tp.map Tp.nm,z.length<=7
inductive Zp6(vs:List V)(H:Hp)(Q:VK)(_e3:XK):Prop|mk (d:Nat) (_:vs=[.int d]) (_:d<998244353) (_:∀wd a W H',Zf H H'->J7 H wd a->YU H' wd a W->UV W->Q (.ref wd) H')
def Vz(d:Nat):List Str:=(List.range 8).map (ZW d)
def Zp7{i : Nat}(h:i<8):(Vz d)[i]? = some (ZW d i):=by
 unfold Vz;rw[Ob,List.getElem?_range h];rfl
def PN{d i:Nat}(h:i<8):YW ((Vz d).map V.str) (i:Int)=some (.str (ZW d i)):=Wt (by rw[Ob,Zp7 h];rfl)
def PP{i j : Nat}(hi:i<8)(c:j<8)(e:ZW d i=ZW d j):i=j:=by
 rcases Nat.lt_trichotomy i j with h|h|h;exact Ot e (jB h (Sn c));exact h;exact Ot e.symm (jB h (Sn hi))
def jT{f:Type}{nm:f->Str}{xs:List f}{d k i:Nat}(e:xs.map nm=(List.range i).map λj=>ZW d (j+k))(h:i+k<8):Yv nm xs (ZW d (i+k))=none:=by
 unfold Yv;rw[List.find?_eq_none];intro y g n;have hm:nm y∈xs.map nm:=SK.mpr ⟨y,g,R⟩;rw[e,SU n]at hm;obtain⟨j,c,u⟩:=SK.mp hm;have c:=List.mem_range.mp c;have:=PP () h u;lia
def MA{k : Nat}(h:i+k<=8):((List.range i).map λj=>ZW d (j+k)).Nodup:=by
 erw[List.pairwise_map.mpr (List.nodup_range.imp_of_mem λ{a b} ha c f e=>f ?_)];have:=PP (by have:=List.mem_range.mp ha;lia) (by have:=List.mem_range.mp c;lia) e;lia
def C9{c:Type}{nm:c->Str}{xs:List c}{f:Nat->Str}{i:Nat}(e:xs.map nm=(List.range i).map f):xs.length=i:=by
 have:=congrArg List.length e;rwa [Sv,Sv,List.length_range]at this
def Zf9{f:Type}{nm:f->Str}{xs:List f}{d k i:Nat}(e:xs.map nm=(List.range i).map λj=>ZW d (j+k)):∀z∈xs.map nm,z.length<=7:=λz c=>by
 rw[e]at c;obtain⟨j,_,rfl⟩:=SK.mp c;unfold ZW;rw[V5,Su,Su,Sw,Sx,SB,Qm];lia
def D1(d:Nat)(c:List Wl):Prop:=∀j x,c[j]? = some x->(x.o=ZW d j/\x.t=ZW d (j+1)\/x.o=ZW d (j+1)/\x.t=ZW d j)/\1<=x.m/\x.m<=60
def D1.snoc{f:List Wl}{x:Wl}(h:D1 d f)(g:(x.o=ZW d f.length/\x.t=ZW d (f.length+1)\/x.o=ZW d (f.length+1)/\x.t=ZW d f.length)/\1<=x.m/\x.m<=60):D1 d (f++[x]):=λj y e=>by
 by_cases c:j<f.length;rw[List.getElem?_append_left c]at e;exact h j y e;have i:=(Sr.mp e).1;rw[Su,Sw]at i;obtain rfl:j=f.length:=by lia
 rw[Oc (Sg _),Nat.sub_self]at e;cases e;exact g
def D1.new{f:List Wl}(h:D1 d f)(l:f.length<=6):∀i x,f[i]? = some x->Ur (f.take i) x.o x.t=false:=λi x e=>by
 unfold Ur;rw[List.any_eq_false];intro y G c;obtain⟨j,E,C⟩:=List.mem_iff_getElem.mp G;rw[Sx]at E;rw[List.getElem_take]at C;have H:=h j y (by rw[<-C];exact Ss ());have ex:=h i x e;have J:=(Sr.mp e).1;have inj:∀{a b},a<=7->b<=7->ZW d a=ZW d b->a=b:=λha I e=>PP () () e;simp only[Bool.or_eq_true,Bool.and_eq_true,beq_iff_eq]at c;rcases ex.1 with⟨B,v⟩|⟨B,v⟩<;>rcases H.1 with⟨D,u⟩|⟨D,u⟩<;>rcases c with⟨g,n⟩|⟨g,n⟩<;>(simp only[B,v,D,u]at g n;have L:=inj () () g;have M:=inj () () n;lia)
def Zp8(E:Zu K mg t):Zo P w K mg base Zr 8 t.Zc8 t.Zc9 ["_law_seed"] Zp6:=by
 erw[E.ZeB.F.ok Vt () λz2 A outer s b0 vs q2 a3 O h=>?_];ext⟨d,rfl,hd,q⟩ h;erw[⟨_,(Zh (ZR 1 Vt.nd (ZhI (ZoP E) (O.mono ()) R E.NN.m E.NN.F.kp E.NN.b .nil Zn)) (Zh (U5 (i0:=2) (cl:=[(OL "_law_seed",s.heap.objs.size+1)]) (N:=["_law_k","_law_seed"]) (fr:=[none,some 0]) Vt.nd R (Or.inl R) R (Vj R E.WP (Zc Za)) R () R () ⟨⟨R,Or.inl R,Or.inl R,_,R,R⟩,trivial⟩ ⟨R,trivial⟩ R (λ_ _ _ _ _=>(ZJ 0 (show List.Nodup (["_law_k","_law_seed"]:OD) by lia))) (λ_ _ _ _ _=>YM) (λ_ _ _ _ _=>(Zt E.ZeA (Zn4 E) O Zn (ZB (pv 1) (pv 0))))) (Q5 (Xr (Vj R E.WP (Zc (Zj Yw Za (Zj Z7 (pv 0) Za)))) (ZJ 3 Vt.nd) (Ze (Qz (Ud O) (YR O (pv 1) Zl) (Zq Yf (pv 2) (pv 3)) (Y9 (ZB (Zj Yw Za (Zj Z7 (Zt E.V3 (Up E) O Zn (ZB (pv 0) (Zj Yw Za (pv 3)))) Za)) (Zj Z7 (Zt E.V3 (Up E) O Zn (ZB (pv 0) (Zj Yw Za (pv 3)))) Za))) R))) (Zh (ZR 4 Vt.nd (Z1 (Ui R) R E.Y1 Y6 (Zc (YR O (pv 1) Zl)))) (Q5 (Xr (Vj R E.WP (Zc (Zj Z7 (Zj YY (pv 0) Za) (Yp WY E.XJ XG (Zc (pv 4)))))) (ZJ 3 Vt.nd) (Zh (ZR 5 Vt.nd (K2 (ZV P9 (Zj Yw (pv 3) Za) (Yp WY E.XJ XG (Zc (pv 4)))) (Zk9 (Ye (ZB (Zq Yf (pv 4) (pv 3)) (Zq Yf (pv 4) (Zj Yw (pv 3) Za)))) (VB (Zj VP Za (Zj Qq Za (Zj Z7 (Zj YY (pv 0) Za) Za))))) (Ye Xz))) (Ze (ZC (ZV (Zkp O.units0) (pv 5) (Ye Xz)) (Ze (Yc (YQ PySem.F.plainAttrs_list PySem.F.slot_list_append PySem.F.type_list_append Lc (YR O (pv 1) Zl) (Zc (Y9 (Yk (Zq Yf (pv 5) Za) (Zq Yf (pv 5) Za) (Zj Yw Za (Zj Z7 (Zt E.V3 (Up E) O Zn (ZB (pv 0) (Zj Yw Za (pv 3)))) Za)))))))) ZE)))) (Q5 (Xr (Vj R E.WP (Zc (Zj Yw Za (Zj Z7 (Zj YY (pv 0) Za) Za)))) (ZJ 3 Vt.nd) (Ze (Qz (Ud O) (YR O (pv 1) Zl) (Zq Yf (pv 2) (Zj Yw (pv 3) Za)) (Zt E.Qj (ZoK E 3) O Zn (ZB (Zt E.V3 (Up E) O Zn (ZB (pv 0) (Zj Yw Za (pv 3)))) Za)) R))) (Q5 (Xr (Vj R E.WP (Zc (Zj Z7 (Zj YY (pv 0) Za) Za))) (ZJ 3 Vt.nd) (Zh (ZR 6 Vt.nd (Zt E.V3 (Up E) O Zn (ZB (pv 0) (Zj Yw Za (pv 3))))) (Q5 (ZR 7 Vt.nd (ZjT (YZ (cl:=[(OL "_law_mixed_here",s.heap.objs.size+2)]) (N:=["_law_zone","_law_mixed_here"]) (fr:=[none,some 6]) R (Zhb R E.WP (ZB Za Za)) R () R () ⟨⟨R,Or.inl R,Or.inl R,_,R,R⟩,trivial⟩ ⟨R,trivial⟩ R (λ_ _ _ _ _=>(ZJ 0 (show List.Nodup (["_law_zone","_law_mixed_here"]:OD) by lia))) (λ_ _ _ _ _=>(M5 (ZV Z8 (Zj Z7 (Zj YY (pv 1) (Zj MN Za (pv 0))) Za) Za))) (λ_ _ _ _ _=>(pv 0))) (WF (Ye (Zc Za))))) (Ze (Qz (Ud O) (YR O (pv 1) Zl) (Zq Yf (pv 2) (pv 3)) (Y9 (Yk (Zj Z7 (Zj YY (pv 6) Za) Za) (Zj Yw Za (Zj Z7 (Zj YY (pv 6) Za) Za)) (pv 7))) R))))) (Zh (ZR 8 Vt.nd (Z1 (Ui R) R E.Y1 Y6 (Zc (YR O (pv 1) Zl)))) (Q5 (Xr (Vj R E.WP (Zc (Zj Z7 (Zj YY (pv 0) Za) Za))) (ZJ 3 Vt.nd) (Zh (ZR 6 Vt.nd (Zt E.V3 (Up E) O Zn (ZB (pv 0) (Zj Yw Za (pv 3))))) (Ze (Qz (Ud O) (YR O (pv 1) Zl) (Zq Yf (pv 2) (Zj Yw (pv 3) Za)) (Y9 (ZB (Zq Yf (pv 8) (Zj Z7 (pv 6) (Yp WY E.XJ XG (Zc (pv 8))))) (Zt E.uM (Zfm E) O Zn (Yk (Zj YY (pv 6) Za) (pv 4) (Zj Yw Za (Zj Z7 (Zj YY (pv 6) Za) Za)))))) R)))) (Ze (Zp (pv 1)))))))))))),?_⟩];sleep 3;erw[⟨R,λwd a H1 s1 c2 w1 dd W1=>?_⟩];have nW:J7 b0 wd a:=⟨w1,c2,dd.1,dd.2.1,dd.2.2.1,dd.2.2.2⟩;erw[⟨8,R,(),(),Qu (λi h0 y c=>Zf H1 c/\h0=((List.range i).map (ZW d)).map V.str/\∃v,y=[v,some (.int d)]) ⟨Zf.refl _,R,_,R⟩ (zL9 R) ?_ ?_⟩];rintro i h0 y c hi ha ⟨s',e,v,rfl⟩;dsimp only[YA,Y4];rw[SW R];erw[⟨_,R,_,R,d,i,by show[V.int d,V.int (0+(i:Int))]=_;rw[Int.zero_add],(),λH2 s2=>⟨by rw[Su,Sw];lia,s'.trans s2,?_,_,R⟩⟩];rw[e,Ol,SM,SM];rfl;rintro h0 y H2 ha ⟨s2,e,v,rfl⟩ I gn;subst e;rw[show(List.range (Int.toNat 8)).map (ZW d)=Vz d from R];exists H2,I,H3,s3,gn,hn;have r2:=(s1.trans s2).free gn;have nl:I≠a.lw:=by
  obtain⟨vs,h,_⟩:=(W1.same s2).wk;exact(Z4 h gn).symm
 replace s3:Zf H1 H3:=s2.trans s3;have S3:=s1.trans s3;replace W1:=W1.same s3;clear s2 s3 gn;erw[⟨λy c=>∃(g:List ZT) (C:Option V),Zf b0 c/\c I=some (.lst ((Vz d).map V.str))/\YU c wd a ⟨g,[],[],[],[]⟩/\g.map ZT.nm=(List.range (2+d%4)).map (ZW d)/\(∀x∈g,Yd x.nm/\1<=x.z/\x.z<=6/\x.ch<=30)/\y=[some (.int d),some (.ref wd),some (.ref I),C,none,none,none,none,none],?_,?_⟩];sleep 1;have en:((2:Int)+(d:Int)%4).toNat=2+d%4:=by lia
 refine⟨_,R,_,_,R,R,(),_,_,R,R,_,R,(),(),Q0 (λi y c=>∃(g:List ZT) (C:Option V),Zf b0 c/\c I=some (.lst ((Vz d).map V.str))/\YU c wd a ⟨g,[],[],[],[]⟩/\g.map ZT.nm=(List.range i).map (ZW d)/\(∀x∈g,Yd x.nm/\1<=x.z/\x.z<=6/\x.ch<=30)/\y=[some (.int d),some (.ref wd),some (.ref I),C,none,none,none,none,none])
  ⟨[],_,S3,hn,W1,R,(),R⟩ ?_ ?_⟩
 rintro i y H4 hi ⟨g,C,S4,k0,W4,X,oS,rfl⟩;sleep 101;have c0:i<8:=by lia
 erw[⟨_,R,_,R,_,_,R,R,_,_,R,(),(),_,_,R,R,(),_,_,R,R,_,R,_,R,_,_,R,R,_,_,R,(),(),_,_,R,R,(),zL9 R,λp l0=>?_⟩];generalize Wi _ (1+(0+(i:Int)))=u at *;generalize Wi _ (6+(0+(i:Int)))=m2 at *;exists H4,p,H5,s5,l0,c5;have W5:=W4.same s5;ext⟨u0,e1,e2⟩ W5.ob;ext⟨rows,G,L⟩ W5.st;have lS:g.length=i:=by have:=congrArg List.length X;rw[Sv,Sv,List.length_range]at this;exact this
 have hf:Yv ZT.nm g (ZW d i)=none:=by
  unfold Yv;rw[List.find?_eq_none];intro y0 hy ey;have hm:y0.nm∈g.map ZT.nm:=SK.mpr ⟨y0,hy,R⟩;rw[X,SU ey]at hm;obtain⟨j,hj,ej⟩:=SK.mp hm;have hj:=List.mem_range.mp hj;have:=PP () c0 ej;lia
 have hv:=(Uq (λkv x (h:Yz H5 kv x)=>h.1) L (ZW d i)).1 hf;erw[⟨_,R,wd,_,R,by rw[<-e2.s];exact Xw.k (k:=Sum.inr (OL "stops")) e1,_,R,_,R,I,_,_,_,R,R,Zd.of (s5 _ _ k0),by rw[Int.zero_add];exact PN c0,a.ds,_,R,V2.k (k:=Sum.inr (ZW d i)) G (Sj (show rows.length<=8 by rw[L.length,lS];lia) ()),?_⟩];erw[⟨g++[⟨ZW d i,1+u%6,m2%31⟩],_,Wy (S4.trans s5) nW.s _,X7 G (s5 _ _ k0),W5.addSt (x:=⟨ZW d i,1+u%6,m2%31⟩) nW G L hv ⟨R,p,R,?_⟩,?_,λx H=>?_,R⟩];rw[c5,show((1+u%6:Nat):Int)=1+(u:Int)%6 by lia,show((m2%31:Nat):Int)=(m2:Int)%31 by lia];rw[SM,X,Ol,SM];rfl;rcases SH.mp H with H|H;exact oS x H;rw[SF.mp H];exact⟨Pq d i,by show 1<=1+u%6;lia,by show 1+u%6<=6;lia,by show m2%31<=30;lia⟩;rintro y H4 ⟨g,C,S4,k0,W4,X,oS,rfl⟩;exact⟨g,C,S4,k0,W4,by rw[X,en],oS,R⟩;rintro y H4 ⟨g,C,S4,k0,W4,X,oS,rfl⟩;generalize hm:2+d%4=m at X;sleep 2;have lS:=C9 X;ext⟨v2,i1,j1⟩ W4.ob;ext⟨w2,k1,l1⟩ W4.st;erw[⟨_,R,wd,_,R,by rw[<-j1.s];exact Xw.k (k:=Sum.inr (OL "stops")) i1,a.ds,_,R,k1,λJ gs=>?_⟩];rw[Ut (λkv x (h:Yz H4 kv x)=>h.1) l1];exists H4,J,H5,s5,gs,v0;have k2:J≠a.lw:=by
  ext⟨vs,h,_⟩ W4.wk;exact(Z4 h gs).symm
 have q1:=s5 _ _ k0;have W5:=W4.same s5;have S5:=S4.trans s5;have lL:((g.map ZT.nm).map V.str).length=m:=by rw[Sv,Sv,lS]
 have atS:∀j:Nat,j<m->YW ((g.map ZT.nm).map V.str) ((j:Nat):Int)=some (.str (ZW d j)):=λj hj=>Wt (by rw[X,Ob,Ob,List.getElem?_range hj];rfl);clear W4 k0 S4 s5 k1 l1 i1 j1 gs;erw[⟨λy c=>∃(M:List Wl) (C U:Option V),Zf b0 c/\c I=some (.lst ((Vz d).map V.str))/\c J=some (.lst ((g.map ZT.nm).map V.str))/\YU c wd a ⟨g,M,[],[],[]⟩/\D1 d M/\M.length+1<=m/\y=[some (.int d),some (.ref wd),some (.ref I),C,some (.ref J),U,none,none,none],?_,?_⟩];sleep 1;have em:(d:Int)/4%((((g.map ZT.nm).map V.str).length:Nat):Int)=((d/4%m:Nat):Int):=by rw[lL,SX,SY];rfl
 have b3:d/4%m<m:=Op _ ();have en:((d:Int)/4%((((g.map ZT.nm).map V.str).length:Nat):Int)).toNat=d/4%m:=by rw[em];lia
 erw[⟨_,R,_,_,R,R,⟨(),()⟩,_,R,J,_,R,.inl (Zd.of v0),_,_,R,R,(by show(0:Int)<((((g.map ZT.nm).map V.str).length:Nat):Int);lia),_,R,by rw[em];lia,by rw[em];lia,?_⟩];refine Q0 (λi y c=>∃(M:List Wl) (C U:Option V),Zf b0 c/\c I=some (.lst ((Vz d).map V.str))/\c J=some (.lst ((g.map ZT.nm).map V.str))/\YU c wd a ⟨g,M,[],[],[]⟩/\D1 d M/\M.length=i/\y=[some (.int d),some (.ref wd),some (.ref I),C,some (.ref J),U,none,none,none])
  ⟨[],C,none,S5,q1,v0,W5,λj x e=>(nomatch e),R,R⟩ ?_ ?_
 rintro i y H6 hi ⟨M,C,U,S6,p0,e0,W6,iW,lW,rfl⟩;rw[en]at hi;sleep 102;have u1:i+1<m:=by lia
 have a0:YW ((g.map ZT.nm).map V.str) (0+(i:Int))=some (.str (ZW d i)):=by rw[Int.zero_add];exact atS i ()
 have a1:YW ((g.map ZT.nm).map V.str) (0+(i:Int)+1)=some (.str (ZW d (i+1))):=by rw[Int.zero_add];exact atS (i+1) u1
 erw[⟨_,R,_,_,R,R,_,R,J,_,R,.inl (Zd.of e0),_,_,R,R,_,R,Zy (SR ()) ?_⟩];erw[⟨_,R,_,R,J,_,_,_,R,R,Zd.of e0,a0,_,R,_,R,_,_,R,R,J,_,_,_,R,R,Zd.of e0,a1,zL9 R,λp1 g1=>?_⟩];exists H6,p1,H7,s7,g1,c7;obtain⟨f0,v,i2,d2⟩:∃f0 v:Str,((f0=ZW d i/\v=ZW d (i+1))\/(f0=ZW d (i+1)/\v=ZW d i))/\((some ((1:Int) - 2*((d:Int)/16%2))=some 1/\[V.str f0,V.str v]=[V.str (ZW d i),V.str (ZW d (i+1))])\/(some ((1:Int) - 2*((d:Int)/16%2))=some (-1)/\[V.str f0,V.str v]=[V.str (ZW d i),V.str (ZW d (i+1))].reverse)):=by
  rcases(show(d:Int)/16%2=0\/(d:Int)/16%2=1 by lia)with h|h;exact⟨_,_,.inl ⟨R,R⟩,.inl ⟨by rw[h];rfl,R⟩⟩;exact⟨_,_,.inr ⟨R,R⟩,.inr ⟨by rw[h];rfl,R⟩⟩
 erw[⟨_,R,_,_,R,R,⟨(),()⟩,_,_,R,R,(),_,_,R,R,.inl ⟨(),()⟩,_,_,R,R,_,R,p1,_,[V.str f0,V.str v],d2,R,Zd.of c7,λp2 g2=>?_⟩];exists H7,p2,H8,s8,g2,c8;erw[⟨_,R,zL9 R,λp3 g3=>?_⟩];exists H8,p3,H9,s9,g3,c9;have x0:=s9 _ _ c8;have w0:=(s7.trans s8).trans s9;have W9:=W6.same w0;ext⟨u0,e1,e2⟩ W9.ob;ext⟨vs,G,L⟩ W9.wk;erw[⟨p2,p3,_,R,R,Zd.of x0,Zd.of c9,_,R,Zy R ?_⟩];sleep 1;erw[⟨_,R,wd,.ref a.lw,R,by rw[<-e2.w];exact Xw.k (k:=Sum.inr (OL "walks")) e1,.inl ⟨R,_,Zd.of G⟩,_,R,p2,_,0,_,R,R,Zd.of x0,R,_,R,p2,_,1,_,R,R,Zd.of x0,R,_,R,_,R,_,_,R,R,_,_,R,(),(),_,_,R,R,(),_,_,R,R,zL9 R,λp4 g4=>?_⟩];generalize Wi _ _=u at *;exists H9,p4,o0,S,g4,c1;erw[⟨a.lw,_,_,R,R,S _ _ G,Sj (show vs.length<=6 by rw[L.length];show M.length<=6;lia) (),?_⟩];have j0:=S6.trans (w0.trans S);have o1:=w0.trans S;erw[⟨M++[⟨f0,v,1+u%60⟩],_,_,Wy j0 nW.w _,by rw[Zm nl];exact o1 _ _ p0,by rw[Zm k2];exact o1 _ _ e0,(W9.same S).addWk (x:=⟨f0,v,1+u%60⟩) nW (S _ _ G) (L.imp λ_ _=>YG.same S) ⟨p4,R,?_⟩ R R R,iW.snoc ⟨by rwa[lW],by show 1<=1+u%60;lia,by show 1+u%60<=60;lia⟩,by rw[Su,lW];rfl,R⟩];rw[c1,show((1+u%60:Nat):Int)=1+(u:Int)%60 by lia];rintro y H6 ⟨M,C,U,S6,p0,e0,W6,iW,lW,rfl⟩;rw[en]at lW;exact⟨M,C,U,S6,p0,e0,W6,iW,(),R⟩;rintro y H6 ⟨M,C,U,S6,p0,e0,W6,iW,lW,rfl⟩;sleep 1;clear S5 q1 v0 W5;erw[⟨λy c=>∃(D:List Yl) (C:Option V),Zf b0 c/\c I=some (.lst ((Vz d).map V.str))/\c J=some (.lst ((g.map ZT.nm).map V.str))/\YU c wd a ⟨g,M,D,[],[]⟩/\D.map Yl.nm=(List.range (1+d/32%3)).map (λj=>ZW d (j+2))/\(∀x∈D,Yd x.nm/\x.r.Ok)/\y=[some (.int d),some (.ref wd),some (.ref I),C,some (.ref J),U,none,none,none],?_,?_⟩];sleep 1;have en:((1:Int)+(d:Int)/32%3).toNat=1+d/32%3:=by lia
 refine⟨_,R,_,_,R,R,⟨(),()⟩,_,_,R,R,(),_,_,R,R,_,R,(),(),Q0 (λi y c=>∃(D:List Yl) (C:Option V),Zf b0 c/\c I=some (.lst ((Vz d).map V.str))/\c J=some (.lst ((g.map ZT.nm).map V.str))/\YU c wd a ⟨g,M,D,[],[]⟩/\D.map Yl.nm=(List.range i).map (λj=>ZW d (j+2))/\(∀x∈D,Yd x.nm/\x.r.Ok)/\y=[some (.int d),some (.ref wd),some (.ref I),C,some (.ref J),U,none,none,none])
  ⟨[],_,S6,p0,e0,W6,R,(),R⟩ ?_ ?_⟩
 rintro i y H7 hi ⟨D,C,S7,m0,n0,W7,eR,oR,rfl⟩;sleep 101;have c0:i+2<8:=by lia
 have lR:=C9 eR;erw[⟨_,R,_,R,_,_,R,R,_,_,R,(),(),?_⟩];have ml:=jA (d:Int) (30+(0+(i:Int)));generalize Wi (d:Int) (30+(0+(i:Int)))=u at ml;erw[⟨u,2,R,(),(),(),λr v H8 s8 gr wr pr T8=>?_⟩];have Y:=W7.same s8;ext⟨u0,e1,e2⟩ Y.ob;ext⟨rows,G,L⟩ Y.ru;have hv:=(Uq (λkv x (h:WA H8 kv x)=>h.1) L (ZW d (i+2))).1 (jT eR c0);erw[⟨_,R,wd,.ref a.dr,R,by rw[<-e2.r];exact Xw.k (k:=Sum.inr (OL "rules")) e1,_,R,_,R,_,_,R,R,I,_,_,_,R,R,Zd.of (s8 _ _ m0),by rw[Int.zero_add];exact PN c0,a.dr,_,R,V2.k (k:=Sum.inr (ZW d (i+2))) G (Sj (show rows.length<=8 by rw[L.length,show List.length ({st:=g,wk:=M,ru:=D,tk:=[],tp:=[]}:ZF).ru=i from lR];lia) ()),?_⟩];erw[⟨D++[⟨ZW d (i+2),r⟩],_,Wy (S7.trans s8) nW.r _,X7 G (s8 _ _ m0),X7 G (s8 _ _ n0),Y.addRu (x:=⟨ZW d (i+2),r⟩) nW G L hv ⟨R,wd,T8 wd ?_⟩,?_,λx H=>?_,R⟩];ext⟨k7,e7,_⟩ W7.ob;rw[e7];exact ();rw[SM,eR,Ol,SM];rfl;rcases SH.mp H with H|H;exact oR x H;rw[SF.mp H];exact⟨Pq d (i+2),gr,Sh (Nat.le_of_lt wr) (),Sh pr ()⟩;rintro y H7 ⟨D,C,S7,m0,n0,W7,eR,oR,rfl⟩;rw[en]at eR;exact⟨D,C,S7,m0,n0,W7,eR,oR,R⟩;rintro y H7 ⟨D,y2,S7,m0,n0,W7,eR,oR,rfl⟩;sleep 1;clear S6 p0 e0 W6;erw[⟨λy c=>∃(Q:List YS) (C T v7:Option V),Zf b0 c/\c I=some (.lst ((Vz d).map V.str))/\c J=some (.lst ((g.map ZT.nm).map V.str))/\YU c wd a ⟨g,M,D,Q,[]⟩/\Q.map YS.nm=(List.range (d/96%3)).map (λj=>ZW d (j+0))/\(∀x∈Q,x.Ok)/\y=[some (.int d),some (.ref wd),some (.ref I),C,some (.ref J),U,T,v7,none],?_,?_⟩];sleep 1;have en:((d:Int)/96%3).toNat=d/96%3:=by lia
 refine⟨_,R,_,_,R,R,⟨(),()⟩,_,_,R,R,(),_,R,(),(),Q0 (λi y c=>∃(Q:List YS) (C T v7:Option V),Zf b0 c/\c I=some (.lst ((Vz d).map V.str))/\c J=some (.lst ((g.map ZT.nm).map V.str))/\YU c wd a ⟨g,M,D,Q,[]⟩/\Q.map YS.nm=(List.range i).map (λj=>ZW d (j+0))/\(∀x∈Q,x.Ok)/\y=[some (.int d),some (.ref wd),some (.ref I),C,some (.ref J),U,T,v7,none])
  ⟨[],_,_,_,S7,m0,n0,W7,R,(),R⟩ ?_ ?_⟩
 rintro i y H8 hi ⟨Q,C,T,v7,S8,g0,q0,Y,eT,oT,rfl⟩;sleep 102;have c0:i<8:=by lia
 have lT:=C9 eT;erw[⟨_,R,_,R,_,_,R,R,_,_,R,(),(),?_⟩];generalize Wi (d:Int) (34+(0+(i:Int)))=u;erw[⟨λj2 c=>∃(zl:Addr) (ZS:OH),Zf H8 c/\c zl=some (.lst (ZI ZS))/\1<=ZS.length/\ZS.length<=6/\ZS.Pairwise (· < ·)/\(∀z∈ZS,1<=z/\z<=6)/\j2=[some (.int d),some (.ref wd),some (.ref I),some (.int (0+(i:Int))),some (.ref J),U,some (.int u),some (.ref zl),none],?_,?_⟩];sleep 1;erw[⟨1,7,R,⟨(),(),(),()⟩,Qu (lo:=1) (n:=6) (λi h0 y c=>c=H8/\(∃zs:List Nat,h0=ZI zs/\zs.Pairwise (· < ·)/\∀z∈zs,1<=z/\z<=i)/\∃v,y=[v,some (.int u)]) ⟨R,⟨[],R,.nil,()⟩,_,R⟩ () ?_ ?_⟩];rintro j h0 y c hj ha ⟨rfl,⟨zs,rfl,pw,zr⟩,v,rfl⟩;have pS:(1:Int)*2 ^ ((1:Int)+(j:Int)).toNat=((2 ^ (1+j):Nat):Int):=by rw[Int.one_mul,Int.natCast_pow,show((1:Int)+(j:Int)).toNat=1+j by lia];rfl
 have pP:0<2 ^ (1+j):=Nat.two_pow_pos _;have pU:2 ^ (1+j)<=2 ^ 6:=Nat.pow_le_pow_right () ();erw[⟨_,R,_,R,_,_,R,R,⟨(),(),()⟩,_,_,R,R,(by rw[pS];exact⟨(),()⟩),_,_,R,R,(),R,_,R,?_⟩];erw[VC (λ_=>?_) (λ_=>?_)];erw[⟨_,R,by rw[Su,Sw];lia,R,⟨zs++[j+1],?_,?_,λz Z=>?_⟩,_,R⟩];rw[show ZI (zs++[j+1])=ZI zs++[V.int ((j+1:Nat):Int)] from SM,show((j+1:Nat):Int)=1+(j:Int) by lia];rw[List.pairwise_append];exact⟨pw,List.pairwise_singleton _ _,λx H y0 hy=>by rw[SF.mp hy];have:=(zr x H).2;lia⟩;rcases SH.mp Z with Z|Z;have:=zr z Z;lia;rw[SF.mp Z];lia;exact⟨(),R,⟨zs,R,pw,λz Z=>by have:=zr z Z;lia⟩,_,R⟩;rintro h0 y c ha ⟨rfl,⟨zs,rfl,pw,zr⟩,v,rfl⟩ lz gz;have sz:=Zw gz (.lst (ZI zs));have cz:=@Zi c lz (.lst (ZI zs));have l6:zs.length<=6:=by have:=ha;rwa [Sv]at this
 generalize upd c lz (.lst (ZI zs))=Hz at sz cz ⊢;erw[⟨_,.inl ⟨_,Zd.of cz,R⟩,?_⟩];cases zs with
 |cons z b2=>exact Zy R ⟨lz,z::b2,sz,cz,Nat.succ_pos _,l6,pw,zr,R⟩
 |nil =>
  erw[Zk () ⟨zL9 R,λp l0=>⟨p,[6],sz.trans (Zw l0 _),Zi,Sg 1,(),List.pairwise_singleton _ _,λz Z=>by rw[SF.mp Z];exact⟨(),()⟩,R⟩⟩]
 rintro y H9 ⟨zl,ZS,s9,Z,z1,z6,zp,zr,rfl⟩;sleep 1;erw[⟨_,R,_,_,R,R,⟨(),()⟩,_,_,R,R,(),_,R,_,_,R,R,⟨(),()⟩,_,_,R,R,(),_,_,R,R,_,R,zL9 R,λp l0=>?_⟩];exists H9,p,o0,S,l0,c1;have s8:=s9.trans S;have d0:=Y.same s8;ext⟨u0,e1,e2⟩ d0.ob;ext⟨rows,G,L⟩ d0.tk;have hv:=(Uq (λkv x (h:WS o0 kv x)=>h.1) L (ZW d (i+0))).1 (jT eT ());erw[⟨_,R,wd,.ref a.dt,R,by rw[<-e2.t];exact Xw.k (k:=Sum.inr (OL "tickets")) e1,_,R,_,R,I,_,_,_,R,R,Zd.of (s8 _ _ g0),by rw[Int.zero_add];exact PN c0,a.dt,_,R,V2.k (k:=Sum.inr (ZW d (i+0))) G (Sj (show rows.length<=8 by rw[L.length,show List.length ({st:=g,wk:=M,ru:=D,tk:=Q,tp:=[]}:ZF).tk=i from lT];lia) ()),?_⟩];erw[⟨Q++[⟨ZW d (i+0),u/128%10001,1+u/7%1440,ZS⟩],_,_,_,Wy (S8.trans s8) nW.t _,X7 G (s8 _ _ g0),X7 G (s8 _ _ q0),d0.addTk (x:=⟨ZW d (i+0),u/128%10001,1+u/7%1440,ZS⟩) nW G L hv ⟨R,p,zl,R,?_,S _ _ Z⟩,?_,λx H=>?_,R⟩];rw[c1,show((1+u/7%1440:Nat):Int)=1+(u:Int)/7%1440 by lia,show((u/128%10001:Nat):Int)=(u:Int)/128%10001 by lia];rw[SM,eT,Ol,SM];rfl;rcases SH.mp H with H|H;exact oT x H;rw[SF.mp H];exact⟨Pq d (i+0),by show u/128%10001<=10000;lia,by show 1<=1+u/7%1440;lia,by show 1+u/7%1440<=1440;lia,z1,z6,zp,zr⟩;rintro y H8 ⟨Q,C,T,v7,S8,g0,q0,Y,eT,oT,rfl⟩;rw[en]at eT;exact⟨Q,C,T,v7,S8,g0,q0,Y,eT,oT,R⟩;rintro y H8 ⟨Q,C,T,v7,S8,g0,q0,Y,eT,oT,rfl⟩;sleep 2;clear S7 m0 n0 W7;have lR:=C9 eR;ext⟨x2,n1,t1⟩ Y.ob;ext⟨c3,f1,d1⟩ Y.ru;erw[⟨_,R,wd,.ref a.dr,R,by rw[<-t1.r];exact Xw.k (k:=Sum.inr (OL "rules")) n1,a.dr,_,R,f1,λlr gr=>?_⟩];rw[Ut (λkv x (h:WA H8 kv x)=>h.1) d1];generalize B:upd H8 lr _=H9;have s9:=ZO gr B;have o2:H9 lr=some (.lst ((D.map Yl.nm).map V.str)):=ZM B;clear B;have W9:=Y.same s9;have S9:=S8.trans s9;have f2:=s9 _ _ g0;have y1:=s9 _ _ q0;clear Y S8 g0 q0 s9 f1 d1 n1 t1 gr;have u2:((D.map Yl.nm).map V.str).length=1+d/32%3:=by rw[Sv,Sv,lR]
 erw[⟨λy c=>∃(TP:List Tp) (C T:Option V),Zf b0 c/\c I=some (.lst ((Vz d).map V.str))/\c J=some (.lst ((g.map ZT.nm).map V.str))/\c lr=some (.lst ((D.map Yl.nm).map V.str))/\YU c wd a ⟨g,M,D,Q,TP⟩/\TP.map Tp.nm=(List.range (d/288%4)).map (λj=>ZW d (j+1))/\(∀x∈TP,Yd x.nm/\x.ru∈D.map Yl.nm/\Vc (g.map ZT.nm) x.cs/\2<=x.cs.length/\x.cs.length<=6)/\y=[some (.int d),some (.ref wd),some (.ref I),C,some (.ref J),U,T,v7,some (.ref lr)],?_,?_⟩];sleep 1;have en:((d:Int)/288%4).toNat=d/288%4:=by lia
 refine⟨_,R,_,_,R,R,⟨(),()⟩,_,_,R,R,(),_,R,(),(),Q0 (λi y c=>∃(TP:List Tp) (C T:Option V),Zf b0 c/\c I=some (.lst ((Vz d).map V.str))/\c J=some (.lst ((g.map ZT.nm).map V.str))/\c lr=some (.lst ((D.map Yl.nm).map V.str))/\YU c wd a ⟨g,M,D,Q,TP⟩/\TP.map Tp.nm=(List.range i).map (λj=>ZW d (j+1))/\(∀x∈TP,Yd x.nm/\x.ru∈D.map Yl.nm/\Vc (g.map ZT.nm) x.cs/\2<=x.cs.length/\x.cs.length<=6)/\y=[some (.int d),some (.ref wd),some (.ref I),C,some (.ref J),U,T,v7,some (.ref lr)])
  ⟨[],_,_,S9,f2,y1,o2,W9,R,(),R⟩ ?_ ?_⟩
 rintro i y o0 hi ⟨TP,C,T,j0,t0,s0,r0,d0,eP,oP,rfl⟩;sleep 102;have c0:i+1<8:=by lia
 have lP:=C9 eP;erw[⟨_,R,_,R,_,_,R,R,_,_,R,(),(),?_⟩];have ml:=jA (d:Int) (37+(0+(i:Int)));generalize Wi (d:Int) (37+(0+(i:Int)))=u at ml;have x1:∃z,YW ((D.map Yl.nm).map V.str) ((u:Int)%((((D.map Yl.nm).map V.str).length:Nat):Int))=some (.str z)/\z∈D.map Yl.nm:=by
  have e:(u:Int)%((((D.map Yl.nm).map V.str).length:Nat):Int)=((u%((D.map Yl.nm).map V.str).length:Nat):Int):=(SX _ _).symm;have hl:u%((D.map Yl.nm).map V.str).length<(D.map Yl.nm).length:=by have:=Op u (show 0<((D.map Yl.nm).map V.str).length by lia);rwa [Sv (f:=V.str)]at this ⊢
  erw[⟨_,by rw[e];exact Wt (by rw[Ob,Ss hl];rfl),Oj hl⟩]
 ext⟨z,ez,mz⟩ x1;erw[⟨_,R,_,R,_,R,lr,_,R,.inl (Zd.of r0),_,_,R,R,(by show(0:Int)<((((D.map Yl.nm).map V.str).length:Nat):Int);lia),lr,_,_,_,R,R,Zd.of r0,ez,?_⟩];erw[⟨_,R,_,_,R,R,⟨(),()⟩,_,R,_,R,_,_,R,R,⟨(),()⟩,_,_,R,R,(),_,_,R,R,?_⟩];erw[⟨u/4,2+u/3%4,J,g.map ZT.nm,?_,s0,by rw[X];exact MA (k:=0) (),by rw[Sv,lS];lia,by rw[Sv,lS];lia,(),λcs l vs l2 v1 gl hl al ok lc=>?_⟩];show[V.int ((u:Int)/4),V.ref J,V.int (2+(u:Int)/3%4)]=_;rw[show((u/4:Nat):Int)=(u:Int)/4 by lia,show((2+u/3%4:Nat):Int)=2+(u:Int)/3%4 by lia];erw[⟨zL9 R,λp l0=>?_⟩];exists l2,p,a2,b1,l0,n2;have S:=v1.trans b1;have z0:=d0.same S;ext⟨u0,e1,e2⟩ z0.ob;ext⟨rows,G,L⟩ z0.tp;have hv:=(Uq (λkv x (h:WT a2 kv x)=>h.1) L (ZW d (i+1))).1 (jT eP c0);erw[⟨_,R,wd,.ref a.dp,R,by rw[<-e2.p];exact Xw.k (k:=Sum.inr (OL "trips")) e1,_,R,_,R,_,_,R,R,I,_,_,_,R,R,Zd.of (S _ _ t0),by rw[Int.zero_add];exact PN c0,a.dp,_,R,V2.k (k:=Sum.inr (ZW d (i+1))) G (Sj (show rows.length<=8 by rw[L.length,show List.length ({st:=g,wk:=M,ru:=D,tk:=Q,tp:=TP}:ZF).tp=i from lP];lia) ()),?_⟩];erw[⟨TP++[⟨ZW d (i+1),z,cs⟩],_,_,Wy (j0.trans S) nW.p _,X7 G (S _ _ t0),X7 G (S _ _ s0),X7 G (S _ _ r0),z0.addTp (x:=⟨ZW d (i+1),z,cs⟩) nW G L hv ⟨R,p,l,vs,R,n2,b1 _ _ hl,al.imp λ_ _=>Yt.same b1⟩,?_,λx H=>?_,R⟩];rw[SM,eP,Ol,SM];rfl;rcases SH.mp H with H|H;exact oP x H;rw[SF.mp H];exact⟨Pq d (i+1),mz,ok,by show 2<=cs.length;lia,by show cs.length<=6;lia⟩;rintro y o0 ⟨TP,C,T,j0,t0,s0,r0,d0,eP,oP,rfl⟩;rw[en]at eP;exact⟨TP,C,T,j0,t0,s0,r0,d0,eP,oP,R⟩;rintro y o0 ⟨TP,C,T,j0,t0,s0,r0,d0,eP,oP,rfl⟩;sleep 1;erw[⟨_,R,q wd a _ o0 j0 nW d0 ?_⟩];have lP:=C9 eP;have lT:=C9 eT;erw[⟨by show 2<=g.length;lia,by show g.length<=5;lia,by show(g.map ZT.nm).Nodup;rw[X];exact MA (k:=0) (),oS,by show M.length<=4;lia,λx H=>?_,iW.new (),by show 1<=D.length;lia,by show D.length<=3;lia,by show(D.map Yl.nm).Nodup;rw[eR];exact MA (),oR,by show Q.length<=2;lia,by show(Q.map YS.nm).Nodup;rw[eT];exact MA (),oT,by show TP.length<=3;lia,by show(TP.map Tp.nm).Nodup;rw[eP];exact MA (),oP,Zf9 eR,Zf9 eP⟩];obtain⟨j,hj,ej⟩:=List.mem_iff_getElem.mp H;have hW:=iW j x (by rw[<-ej];exact Ss hj);have hj:j<M.length:=hj;have mem:∀k,k<m->ZW d k∈g.map ZT.nm:=λk hk=>by rw[X];exact SK.mpr ⟨k,List.mem_range.mpr hk,R⟩
 have ne:ZW d j≠ZW d (j+1):=jB () ();rcases hW.1 with⟨G,L⟩|⟨G,L⟩;exact⟨by rw[G];exact mem _ (),by rw[L];exact mem _ (),by rw[G,L];exact ne,hW.2⟩;exact⟨by rw[G];exact mem _ (),by rw[L];exact mem _ (),by rw[G,L];exact ne.symm,hW.2⟩
def Yb.put{a:NA}(h:Yb t H n a N)(hd:H d=some (.dK C))(c:a.ds≠d)(i:a.dr≠d)(J:a.dt≠d)(M:a.dp≠d):Yb t (upd H d o) n a N:=by
 ext⟨⟨f,fs,v,x⟩,ap,⟨r1,O,j⟩,⟨Q,u,D⟩,⟨E,B,G⟩,⟨r3,L,I⟩,⟨S,g,y⟩⟩ h;exact⟨⟨f,fs,B8 hd ZN.k v,x⟩,ap,⟨r1,by rwa[Zm c],j.imp λ_ _=>Yz.put hd ZN.k⟩,⟨Q,X7 hd u,D.imp λ_ _=>YG.put hd ZN.k⟩,⟨E,by rwa[Zm i],G.imp λ_ _=>Y7.put hd ZN.k⟩,⟨r3,by rwa[Zm J],I.imp λ_ _=>Xj.put hd ZN.k⟩,⟨S,by rwa[Zm M],y.imp λ_ _=>Xe.put hd ZN.k⟩⟩
def Yb.thaw{n d:Addr}{a:NA}{N:ZF}{ob:Obj}{g:List (ZD×V)}{o:HO}(h:Yb t H n a N)(hd:H d=some (.frz ob (.dK g))):Yb t (upd H d o) n a N:=by
 erw[Yb.keep (λb u e f=>?_) (λb u e m=>?_) h];rwa[Zm (λz=>by rw[z,hd]at e;cases e;exact f)]
 ·rwa[Zm (λz=>by
   cases h.kd m with
   |lst c=>rw[z,hd]at c;cases c
   |dK c=>rw[z,hd]at c;cases c)]
structure YT(H:Hp)(d:Addr)(ob:Obj)(kvs:List (ZD×V))(H':Hp):Prop where
 at_:H d=some (.dK kvs)
 s:Zf (upd H d (.frz ob (.dK kvs))) H'
def YT.new(ob:Obj)(h:H d=some (.dK f))(s:Zf H g):YT H d ob f (upd g d (.frz ob (.dK f))):=⟨h,λa o e=>by
 by_cases c:a=d;rw[c,Zi]at e ⊢;exact e;rw[Zm c]at e ⊢;exact s _ _ e⟩
def YT.same(h:YT H d ob g c)(s:Zf c f):YT H d ob g f:=⟨h.at_,h.s.trans s⟩
def YT.frz{H c:Hp}{d:Addr}{ob:Obj}{f:List (ZD×V)}(h:YT H d ob f c):c d=some (.frz ob (.dK f)):=h.s _ _ Zi
def YT.thaw(h:YT H d ob g f):Zf H (upd f d (.dK g)):=λa o e=>by
 by_cases c:a=d;rw[c,h.at_]at e;rwa[c,Zi];rw[Zm c];exact h.s _ _ (by rwa[Zm c])
def UR.held(h:UR H a)(hd:H d=some u):UR (upd H d o) a:=by
 have k:∀{x},H x=none->upd H d o x=none:=λe=>by rwa[Zm (Z4 hd e).symm]
 exact⟨k h.s,k h.w,k h.r,k h.t,k h.p⟩
def D2{A : Hp}(s:Zf A f)(n:A d=none)(g:Zf (wo f d) c):Zf A c:=λx o e=>g x o (QA (s x o e) (Z4 e n))
def D3{w:Wn}{p:Prop}(h:d=none)(c:d=some w):p:=by rw[h]at c;cases c
def Zp9:∀v∈ZI zs,∃T,Kd H v T:=λv c=>by
 obtain⟨z,_,rfl⟩:=SK.mp c;exact⟨_,.int _⟩
def Zqa{x:YS}:Mp N (.str x.nm) (.int (x.pr:Nat)) (.int (x.la:Nat)) (some (ZI x.zs))=(ZY.tk x).add N:=by
 unfold Mp ZY.add;rw[show((some (ZI x.zs)).getD []).map Xd=x.zs by show(x.zs.map _).map Xd=_;rw[Of];exact List.map_id' _];rfl
inductive Zqb(t:Ya)(vs:List V)(H:Hp)(Q:VK)(_e3:XK):Prop|mk (wd:Addr) (a:NA) (W:ZF) (H00:Hp) (_:vs=[.ref wd]) (_:YU H wd a W) (_:J7 H00 wd a) (_:UV W) (_:∀n b H',Zf H H'->Yb t H' n b W->UR H b->Q (.ref n) H')
def Zqc(c:Zu K mg t):Zo P w K mg base Zr 52 t.Zda t.Zdb ["_law_world_here"] (Zqb t):=by
 erw[c.ZeC.F.ok VF () λd1 A outer s k0 vs c1 h1 S h=>?_];ext⟨wd,a,W,f1,rfl,hW,nW,ok,q⟩ h;ext⟨j0,e1,e2⟩ hW.ob;ext⟨Z,c0,r0⟩ hW.st;ext⟨wv,p0,u0⟩ hW.wk;ext⟨rr,b0,s0⟩ hW.ru;ext⟨rt,a0,t0⟩ hW.tk;ext⟨rp,O,q0⟩ hW.tp;erw[⟨_,(Zh (ZR 1 VF.nd (Rf c.qL (jD c) (S.mono ()) R c.Pi c.Pa.b .nil Zn)) (Zh (U7 (Xr (U8 (YR S (pv 0) Zl)) (Wq (n:=2) R (YB (ZJ 2 VF.nd) (YB (ZJ 3 VF.nd) Wo))) (Ze (Yc (YL (pv 1) c.ZK c.A3.me (jE c) (S.mono ()) c.A3.b .nil Xa (ZB (pv 2) (Zt c.XN (ZoM c 8) S Zn (Zc (pv 3))))))))) (Zh (U7 (Xr (U8 (YR S (pv 0) Zl)) (Wq (n:=2) R (YB (ZJ 2 VF.nd) (YB (ZJ 4 VF.nd) Wo))) (Ze (Yc (YL (pv 1) c.ZK c.LU.me (Zft c) (S.mono ()) c.LU.b .nil Xa (Yk (pv 2) (Zq ZH (pv 4) Za) (Zq ZH (pv 4) Za))))))) (Zh (U7 (Xr (U8 (YR S (pv 0) Zl)) (Wq (n:=2) R (YB (ZJ 2 VF.nd) (YB (ZJ 3 VF.nd) Wo))) (Ze (Yc (YL (pv 1) c.ZK c.A4.me (jF c) (S.mono ()) c.A4.b .nil Xa (Yk (pv 2) (Zq ZH (pv 3) Za) (Z1 Uz R c.Y1 Y6 (Zc (Zq ZH (pv 3) Za))))))))) (Zh (U7 (Xr (U8 (YR S (pv 0) Zl)) (Wq (n:=2) R (YB (ZJ 2 VF.nd) (YB (ZJ 3 VF.nd) Wo))) (Ze (Yc (YL (pv 1) c.ZK c.LW.me (Zfu c) (S.mono ()) c.LW.b .nil Xa (Uk (pv 2) (Zq ZH (pv 3) Za) (Zq ZH (pv 3) Za) (Z1 Uz R c.Y1 Y6 (Zc (Zq ZH (pv 3) Za))))))))) (Zh (Xr (YP (YR S (pv 0) Zl)) (Wq (n:=3) R (YB (ZJ 5 VF.nd) (YB (ZJ 6 VF.nd) (YB (ZJ 7 VF.nd) Wo)))) (Ze (Yc (YL (pv 1) c.ZK c.LV.me (Zfv c) (S.mono ()) c.LV.b .nil Xa (Yk (pv 5) (pv 6) (pv 7)))))) (Ze (Zp (pv 1))))))))),?_⟩];sleep 7;intro n dx nn M w0;erw[⟨n,k0,R,nn,Wy (Zw M _) nn _,⟨dx,Zi⟩,λH1 b S1 z0 u=>⟨R,?_⟩⟩];have get:∀{j:Hp} {z:Str} {l:Addr},j wd=some (.dK j0)->Yx j0 (Sum.inr z)=some (.ref l)->Xw j wd (.str z) (some (.ref l)):=λs' e=>by rw[<-e];exact Xw.k (k:=Sum.inr _) s'
 clear nn M w0;erw[⟨a.dr,.dK rr,S1 _ _ b0,.inl ⟨rr,R⟩,λob=>?_⟩];sleep 1;have y:=YT.new ob b0 S1;have I:=z0.put (o:=.frz ob (.dK rr)) (S1 _ _ b0) (Z4 b0 u.s).symm (Z4 b0 u.r).symm (Z4 b0 u.t).symm (Z4 b0 u.p).symm;have G:upd H1 a.dr (.frz ob (.dK rr)) wd=some (.dK j0):=by rw[Zm nW.nr];exact S1 _ _ e1
 have Y:=u.held (o:=.frz ob (.dK rr)) b0;generalize upd H1 a.dr (.frz ob (.dK rr))=Hf at y I G ⊢;erw[⟨_,R,wd,.ref a.dr,R,get G e2.r,a.dr,ob,rr,R,y.frz,Q7 (λi g j=>YT k0 a.dr ob rr j/\Yb t j n b ⟨[],[],W.ru.take i,[],[]⟩/\∃D E C:Option V,g=[some (.ref wd),some (.ref n),D,E,C,none,none,none]) ⟨y,I,_,_,_,R⟩ (λi g j _ h=>h.1.frz) ?_ ?_⟩];rintro i kv p g Q h0 gp ⟨T,L,D,E,C,rfl⟩;exists Q,p,H4,s4,gp,X;have B:=L.same s4;have v:=T.same s4;ext⟨M,n0,f0,d0⟩ B.ob;obtain⟨x,ex,ek,tp,hT⟩:=s0.get h0;have f:=ok.ro x (SL ex);rw[ek]at X;erw[⟨p,_,R,Zg.of X,R,_,_,R,_,_,R,R,?_⟩];sleep 1;erw[⟨_,R,n,M,_,R,f0,d0.n_add_rule,_,R,_,R,tp,kv.2,x.r,R,(YX.put b0 hT).same v.s,f.2.1,f.2.2.1,f.2.2.2,f.2.2.2,λrb H5 s5 R5=>?_⟩];have due:B9 ⟨[],[],W.ru.take i,[],[]⟩ (.str x.nm) (some x.r)=none:=Yg (Ql f.1) (Yg (QT ok.rn ex) (Yg R (Yg (UU ex (Sh ok.r3 ())) R)));erw[⟨n,b,_,.str x.nm,.ref rb,some x.r,R,B.same s5,UP _ (QU f.1),⟨⟨rb,R,by rw[c.kf];exact R5⟩,f.2⟩,λw hw=>D3 due hw,λ_ H6 s6 J=>⟨⟨b0,D2 (v.same s5).s Y.r s6⟩,?_,_,_,_,R⟩⟩];rwa[VL ex];rintro g H2 ⟨h2,l0,D,E,C,rfl⟩;rw[SZ (by rw[s0.length];exact Sg _)]at l0;erw[⟨h2.frz,?_⟩];have S2:=h2.thaw;replace l0:=l0.thaw (o:=.dK rr) h2.frz;generalize upd H2 a.dr (.dK rr)=H2 at S2 l0 ⊢;clear h2 y I G Y;erw[⟨a.ds,.dK Z,S2 _ _ c0,.inl ⟨Z,R⟩,λob=>?_⟩];sleep 1;have y:=YT.new ob c0 S2;have I:=l0.put (o:=.frz ob (.dK Z)) (S2 _ _ c0) (Z4 c0 u.s).symm (Z4 c0 u.r).symm (Z4 c0 u.t).symm (Z4 c0 u.p).symm;have G:upd H2 a.ds (.frz ob (.dK Z)) wd=some (.dK j0):=by rw[Zm nW.ns];exact S2 _ _ e1
 have Y:=u.held (o:=.frz ob (.dK Z)) c0;generalize upd H2 a.ds (.frz ob (.dK Z))=Hf at y I G ⊢;erw[⟨_,R,wd,.ref a.ds,R,get G e2.s,a.ds,ob,Z,R,y.frz,Q7 (λi g j=>YT k0 a.ds ob Z j/\Yb t j n b ⟨W.st.take i,[],W.ru,[],[]⟩/\∃D E C:Option V,g=[some (.ref wd),some (.ref n),D,E,C,none,none,none]) ⟨y,I,_,_,_,R⟩ (λi g j _ h=>h.1.frz) ?_ ?_⟩];rintro i kv p g Q h0 gp ⟨T,L,D,E,C,rfl⟩;exists Q,p,H4,s4,gp,X;have B:=L.same s4;have v:=T.same s4;ext⟨M,n0,f0,d0⟩ B.ob;obtain⟨x,ex,ek,r,U,g0⟩:=r0.get h0;have f:=ok.so x (SL ex);have e0:=(v.s) _ _ (XY (o:=.frz ob (.dK Z)) c0 ZN.k g0);have due:Mn ⟨W.st.take i,[],W.ru,[],[]⟩ (.str x.nm) (.int (x.z:Nat)) (.int (x.ch:Nat))=none:=Yg (Ql f.1) (Yg (QT ok.sn ex) (Yg (Ww (by have:=f.2.1;lia) (by have:=f.2.2.1;lia)) (Yg (Ww () (by have:=f.2.2.2;lia)) (Yg (UU ex (Sh ok.s5 ())) R))));rw[ek]at X;erw[⟨p,_,R,Zg.of X,R,_,_,R,_,_,R,R,?_⟩];sleep 1;erw[⟨_,R,n,M,_,R,f0,d0.n_add_stop,_,R,_,R,r,_,0,_,U,R,Zg.of e0,R,_,R,r,_,1,_,U,R,Zg.of e0,R,n,b,_,.str x.nm,.int (x.z:Nat),.int (x.ch:Nat),_,_,R,B,UP _ (QU f.1),.int _,.int _,λw hw=>D3 due hw,λ_ H6 s6 J=>⟨⟨c0,D2 v.s Y.s s6⟩,?_,_,_,_,R⟩⟩];rwa[VL ex];rintro g Q ⟨T,L,D,E,C,rfl⟩;rw[SZ (by rw[r0.length];exact Sg _)]at L;erw[⟨T.frz,?_⟩];have S3:=T.thaw;replace L:=L.thaw (o:=.dK Z) T.frz;generalize upd Q a.ds (.dK Z)=Q at S3 L ⊢;clear T y I G Y;erw[⟨a.dp,.dK rp,S3 _ _ O,.inl ⟨rp,R⟩,λob=>?_⟩];sleep 1;have y:=YT.new ob O S3;have I:=L.put (o:=.frz ob (.dK rp)) (S3 _ _ O) (Z4 O u.s).symm (Z4 O u.r).symm (Z4 O u.t).symm (Z4 O u.p).symm;have G:upd Q a.dp (.frz ob (.dK rp)) wd=some (.dK j0):=by rw[Zm nW.np];exact S3 _ _ e1
 have Y:=u.held (o:=.frz ob (.dK rp)) O;generalize upd Q a.dp (.frz ob (.dK rp))=Hf at y I G ⊢;erw[⟨_,R,wd,.ref a.dp,R,get G e2.p,a.dp,ob,rp,R,y.frz,Q7 (λi g j=>YT k0 a.dp ob rp j/\Yb t j n b ⟨W.st,[],W.ru,[],W.tp.take i⟩/\∃D E C:Option V,g=[some (.ref wd),some (.ref n),D,E,C,none,none,none]) ⟨y,I,_,_,_,R⟩ (λi g j _ h=>h.1.frz) ?_ ?_⟩];rintro i kv p g Q h0 gp ⟨T,L,D,E,C,rfl⟩;exists Q,p,H4,s4,gp,X;have B:=L.same s4;have v:=T.same s4;ext⟨M,n0,f0,d0⟩ B.ob;obtain⟨x,ex,ek,r,l,vs,U,g0,hl,al⟩:=q0.get h0;have f:=ok.po x (SL ex);have e0:=(v.s) _ _ (XY (o:=.frz ob (.dK rp)) O ZN.k g0);have a1:=(v.s) _ _ (X7 (o:=.frz ob (.dK rp)) O hl);have y0:Al (Yt H4) vs x.cs:=al.imp λ_ _ h=>(Yt.put (o:=.frz ob (.dK rp)) O ZN.k h).same v.s;rw[ek]at X;erw[⟨p,_,R,Zg.of X,R,_,_,R,_,_,R,R,?_⟩];sleep 1;erw[⟨_,R,n,M,_,R,f0,d0.n_add_trip,_,R,_,R,r,_,0,_,U,R,Zg.of e0,R,_,R,r,_,1,_,U,R,Zg.of e0,R,l,_,R,.inl (Zd.of a1),λl2 g2=>?_⟩];have s5:=Zw g2 (.lst vs);have due:C0 ⟨W.st,[],W.ru,[],W.tp.take i⟩ (.str x.nm) (.str x.ru)=none:=Yg (Ql f.1) (Yg (QT ok.pn ex) (Yg (VI f.2.1) (Yg (UU ex (Sh ok.p3 ())) R)));erw[⟨n,b,_,.str x.nm,.str x.ru,_,x.cs,l2,vs,R,B.same s5,UP _ (QU f.1),.str _,Zi,y0.imp λ_ _=>Yt.same s5,f.2.2.1,f.2.2.2.1,f.2.2.2.2,λw hw=>D3 due hw,λ_ H6 s6 J=>⟨⟨O,D2 (v.same s5).s Y.p s6⟩,?_,_,_,_,R⟩⟩];rwa[VL ex];rintro g H4 ⟨v,B,D,E,C,rfl⟩;rw[SZ (by rw[q0.length];exact Sg _)]at B;erw[⟨v.frz,?_⟩];have S4:=v.thaw;replace B:=B.thaw (o:=.dK rp) v.frz;generalize upd H4 a.dp (.dK rp)=H4 at S4 B ⊢;clear v y I G Y;erw[⟨a.dt,.dK rt,S4 _ _ a0,.inl ⟨rt,R⟩,λob=>?_⟩];sleep 1;have y:=YT.new ob a0 S4;have I:=B.put (o:=.frz ob (.dK rt)) (S4 _ _ a0) (Z4 a0 u.s).symm (Z4 a0 u.r).symm (Z4 a0 u.t).symm (Z4 a0 u.p).symm;have G:upd H4 a.dt (.frz ob (.dK rt)) wd=some (.dK j0):=by rw[Zm nW.nt];exact S4 _ _ e1
 have Y:=u.held (o:=.frz ob (.dK rt)) a0;generalize upd H4 a.dt (.frz ob (.dK rt))=Hf at y I G ⊢;erw[⟨_,R,wd,.ref a.dt,R,get G e2.t,a.dt,ob,rt,R,y.frz,Q7 (λi g j=>YT k0 a.dt ob rt j/\Yb t j n b ⟨W.st,[],W.ru,W.tk.take i,W.tp⟩/\∃D E C:Option V,g=[some (.ref wd),some (.ref n),D,E,C,none,none,none]) ⟨y,I,_,_,_,R⟩ (λi g j _ h=>h.1.frz) ?_ ?_⟩];rintro i kv p g Q h0 gp ⟨T,L,D,E,C,rfl⟩;exists Q,p,H4,s4,gp,X;have B:=L.same s4;have v:=T.same s4;ext⟨M,n0,f0,d0⟩ B.ob;obtain⟨x,ex,ek,r,z,U,g0,hz⟩:=t0.get h0;have f:=ok.to x (SL ex);have e0:=(v.s) _ _ (XY (o:=.frz ob (.dK rt)) a0 ZN.k g0);have x0:=(v.s) _ _ (X7 (o:=.frz ob (.dK rt)) a0 hz);rw[ek]at X;erw[⟨p,_,R,Zg.of X,R,_,_,R,_,_,R,R,?_⟩];sleep 1;erw[⟨_,R,n,M,_,R,f0,d0.n_add_ticket,_,R,_,R,r,_,0,_,U,R,Zg.of e0,R,_,R,r,_,1,_,U,R,Zg.of e0,R,_,R,r,_,2,_,U,R,Zg.of e0,R,z,_,R,.inl (Zd.of x0),λl2 g2=>?_⟩];have s5:=Zw g2 (.lst (ZI x.zs));have due:(ZY.tk x).due ⟨W.st,[],W.ru,W.tk.take i,W.tp⟩=none:=Zf5 f (QT ok.tn ex) (UU ex (Sh ok.t2 ()));erw[⟨n,b,_,.str x.nm,.int (x.pr:Nat),.int (x.la:Nat),.ref l2,_,_,some (ZI x.zs),R,B.same s5,UP _ (QU f.nm),.int _,.int _,⟨l2,R,Zi,Zp9⟩,λw hw=>D3 due hw,λ_ H6 s6 J=>⟨⟨a0,D2 (v.same s5).s Y.t s6⟩,?_,_,_,_,R⟩⟩];rw[VL ex];rw[Zqa]at J;exact J;rintro g H5 ⟨h5,m0,D,E,C,rfl⟩;rw[SZ (by rw[t0.length];exact Sg _)]at m0;erw[⟨h5.frz,?_⟩];have S5:=h5.thaw;replace m0:=m0.thaw (o:=.dK rt) h5.frz;generalize upd H5 a.dt (.dK rt)=H5 at S5 m0 ⊢;clear h5 y I G Y;erw[⟨_,R,wd,.ref a.lw,R,get (S5 _ _ e1) e2.w,a.lw,R,⟨_,Zd.of (S5 _ _ p0)⟩,Qp (K:=K) (a:=a.lw) (xs:=wv) (λi g j=>Zf k0 j/\Yb t j n b ⟨W.st,W.wk.take i,W.ru,W.tk,W.tp⟩/\∃v5 v6 v7:Option V,g=[some (.ref wd),some (.ref n),D,E,C,v5,v6,v7]) ⟨S5,m0,_,_,_,R⟩ (λi g j _ ⟨s',_⟩=>Zd.of (s' _ _ p0)) ?_ ?_⟩];rintro i i1 g H6 hv ⟨S6,J,v5,v6,v7,rfl⟩;obtain⟨x,ex,p,rfl,hp⟩:=u0.get hv;have f:=ok.wo x (SL ex);ext⟨M,n0,f0,d0⟩ J.ob;have o0:∀z,z∈W.st.map ZT.nm->Yd z/\(Yv ZT.nm W.st z).isSome=true:=λz hz=>by
  obtain⟨i0,hy,rfl⟩:=SK.mp hz;obtain⟨y',e'⟩:=jC (nm:=ZT.nm) hy;exact⟨(ok.so i0 hy).1,by rw[e'];rfl⟩
 have due:Mo ⟨W.st,W.wk.take i,W.ru,W.tk,W.tp⟩ (.str x.o) (.str x.t) (.int (x.m:Nat))=none:=Yg (VI f.1) (Yg (VI f.2.1) (Yg (by rw[SS (λe=>f.2.2.1 (V.str.inj e)),show Ur (W.wk.take i) (X5 (V.str x.o)) (X5 (V.str x.t))=false from ok.wn i x ex];rfl) (Yg (Ww (by have:=f.2.2.2.1;lia) (by have:=f.2.2.2.2;lia)) (Yg (UU ex (Sh ok.w4 ())) R))));erw[⟨p,_,R,Zg.of (S6 _ _ hp),R,_,_,R,_,_,R,_,_,R,R,?_⟩];sleep 1;erw[⟨_,R,n,M,_,R,f0,d0.n_add_walk,_,R,_,R,_,R,n,b,_,.str x.o,.str x.t,.int (x.m:Nat),_,_,_,R,J,⟨Sh ok.s5 (),ok.sn,λi0 hy=>(ok.so i0 hy).1,by show(W.wk.take i).length<=12;rw[Sx];have:=ok.w4;lia,λi0 hy=>?_,Sh ok.r3 (),ok.rn,ok.ro,Sh ok.t2 (),ok.tn,ok.to,Sh ok.p3 (),ok.pn,λi0 hy=>?_⟩,.str _,.str _,.int _,λw hw=>D3 due hw,λ_ H7 s7 v0=>⟨D2 S6 u.w s7,?_,_,_,_,R⟩⟩];have hy:=ok.wo i0 (List.mem_of_mem_take hy);exact⟨(o0 _ hy.1).1,(o0 _ hy.2.1).1⟩;obtain⟨q1,q2,q3,q4,q5⟩:=ok.po i0 hy;erw[⟨q1,?_,q4,q5,λb1 hc=>(o0 _ (q3.st b1 hc)).1⟩];obtain⟨r,g0,U⟩:=SK.mp q2;rw[<-U];exact(ok.ro r g0).1;rwa[VL ex];rintro g H6 ⟨S6,J,v5,v6,v7,rfl⟩;rw[SZ (by rw[u0.length];exact Sg _)]at J;exact⟨_,R,q n b H6 S6 J u⟩
def Zga:∀n:Nat,n<60->Txt.slice (OL (toString ((100:Int)+((n:Nat):Int)))) (some 1) none=Vr n/\(OL (toString ((100:Int)+((n:Nat):Int)))).length<=3:=by lia
inductive Zqd(vs:List V)(H:Hp)(Q:VK)(_e3:XK):Prop|mk (m:Nat) (_:vs=[.int m]) (_:m<=2879) (_:Q (.str (wr m)) H)
def Zgb(g:Zu K mg t):Zo P w K mg base Zr 1 t.Zde t.Zdf ["_law_minute"] Zqd:=by
 erw[g.uN.F.ok ZlA () λu A outer s H n Q E v h=>?_];ext⟨m,rfl,hm,q⟩ h;erw[⟨_,(Ze (Zp (Zj Yo (Zj Yo (VT UC (Z1 XS R g.Xc Xb (Zc (Zj Yw Za (Zj YY (pv 0) Za)))) (VB Za) VS) Zl) (VT UC (Z1 XS R g.Xc Xb (Zc (Zj Yw Za (Zj Z7 (pv 0) Za)))) (VB Za) VS)))),?_⟩];sleep 1;obtain⟨c,i⟩:=Zga (m/60) ();obtain⟨f,j⟩:=Zga (m%60) ();rw[SY]at c i;rw[SX]at f j;erw[⟨_,R,_,_,R,R,⟨(),()⟩,_,_,R,R,_,R,?_,_,R,_,R,Sh i (),?_⟩];rw[show(100:Int)+(m:Int)/60=((100+m/60:Nat):Int) by lia];exact Wf ();have c:Txt.slice (OL (toString ((100:Int)+(m:Int)/60))) (some 1) none=Vr (m/60):=c;rw[c];erw[⟨_,_,R,R,(zL9 R),_,R,_,_,R,R,(),_,_,R,R,_,R,?_,_,R,_,R,Sh j (),?_⟩];rw[show(100:Int)+(m:Int)%60=((100+m%60:Nat):Int) by lia];exact Wf ();have f:Txt.slice (OL (toString ((100:Int)+(m:Int)%60))) (some 1) none=Vr (m%60):=f;rw[f];exact⟨_,_,R,R,(zL9 R),q⟩
def Zqe{d:Addr}{ob:Obj}{f:List (ZD×V)}{g:TG}{L:TT}{J:TE}{S:St}{Q:VK}(u:Nat->List V->St->Hp->Prop)(T:u 0 [] S H)(hz:f.length<=sizeLine)(hl:∀i c n H,i<=f.length->u i c n H->H d=some (.frz ob (.dK f)))
  (U:∀i D b c n H,c.length<=i->f[i]? = some D->H b=none->u i c n H->g (.ref b) n (upd H b (.tup [kV D.1,D.2])) λj I=>L j I λb E=>if b=true then J j E λy G=>(c++[y]).length<=i+1/\u (i+1) (c++[y]) j G else c.length<=i+1/\u (i+1) c j E)
  (hd:∀c n H,c.length<=f.length->u f.length c n H->Wd Q c H) :
  ∃W:Nat->Nat->List V->St->Hp->Prop,(∃m,W 0 m [] S H)/\∀i m c B H,W i m c B H ->
   ((Uj d ob f).stop i H/\Wd Q c H) \/
   ((Uj d ob f).go i H/\c.length<sizeLine/\∃N:List V->St->Hp->Prop,(∀v C h,N v C h->∃M,M<m/\W (i+1) M v C h)/\∀x h,(Uj d ob f).yld i H x h->g x B h λj I=>L j I λb E=>if b=true then J j E λy G=>N (c++[y]) j G else N c j E):=by
 erw[⟨λi m c n H=>m=f.length - i/\i<=f.length/\c.length<=i/\u i c n H,⟨f.length,by simp,Sk _,Sk _,T⟩,?_⟩];rintro i m c B H ⟨rfl,Z,ha,p⟩;have q:=hl i c B H Z p;by_cases O:i<f.length;erw[.inr ⟨⟨q,O⟩,(),λv C h=>v.length<=i+1/\u (i+1) v C h,λv C h z=>⟨f.length - (i+1),(),R,O,z.1,z.2⟩,λa0 h y=>?_⟩];ext⟨b,D,X,Y,rfl,rfl⟩ y;exact U i D b c B H ha Y X p;have e:i=f.length:=by lia
 subst e;exact .inl ⟨⟨q,Sg _⟩,hd c B H ha p⟩
def jU{ws:List V}(h:Zs z=YF 32 ((ws.map Xx).map Zs)):z=Ys ws:=C7 (by
 rw[h];unfold Ys;rw[A0];exact(U2 32 _).symm)
def jV:Zs (OL " ")=[32]:=by lia
def Zqf(x:ZT):OL "stop " ++ x.nm++OL " " ++ ZX x.z++OL " " ++ ZX x.ch=Ys (Vx x):=jU (by
 rw[Yy,Yy,Yy,Yy,Yy,show Zs (OL "stop ")=Zs (OL "stop")++[32] by lia,jV];simp[YF,Vx,Xx,ZX])
def Zqg(x:Wl):OL "walk " ++ x.o++OL " " ++ x.t++OL " " ++ ZX x.m=Ys (VJ x):=jU (by
 rw[Yy,Yy,Yy,Yy,Yy,show Zs (OL "walk ")=Zs (OL "walk")++[32] by lia,jV];simp[YF,VJ,Xx,ZX])
def Zqh(x:Yl):OL "days " ++ x.nm++OL " " ++ YO x.r=Ys (Vy x):=jU (by
 rw[Yy,Yy,Yy,show Zs (OL "days ")=Zs (OL "days")++[32] by lia,jV];simp[YF,Vy,Xx])
def YT.set(h:YT H d ob g c)(f:c p=none):upd c p o d=some (.frz ob (.dK g))/\Zf H (upd (upd c p o) d (.dK g))/\upd (upd c p o) d (.dK g) p=some o :=
 ⟨(h.same (Zw f o)).frz,(h.same (Zw f o)).thaw,by rw[Zm (λz=>by rw[z,h.frz]at f;cases f),Zi]⟩
def Zgc{E:Type}{d:Addr}{ob:Obj}{rows:List (ZD×V)}{xs:List E}{J:TE}{B T:Hp}{Q:VK}{R:ZD×V->E->Prop}(f:E->Str)(Y:YT B d ob rows T)(G:Al R rows xs)(few:xs.length<=100)
  (hs:∀h x,x∈xs->R h x->∀c,YT B d ob rows c->∀L:VK,(∀j,Zf c j->L (.str (f x)) j)->J [some (kV h.1),some h.2] c L) (hd:∀c p,YT B d ob rows c->c p=none->Q (.ref p) (upd c p (.lst ((xs.map f).map V.str)))) :
  ∃W:Nat->Nat->List V->St->Hp->Prop,(∃m,W 0 m [] [none,none] T)/\∀i m g O H,W i m g O H ->
   ((Uj d ob rows).stop i H/\Wd Q g H) \/
   ((Uj d ob rows).go i H/\g.length<sizeLine/\∃N:List V->St->Hp->Prop,(∀M I c,N M I c->∃S,S<m/\W (i+1) S M I c)/\∀x c,(Uj d ob rows).yld i H x c->D5 K 2 (MH (YA 0) (MH (YA 1) P3)) x O c λC j=>Y4 C j λb U=>if b=true then J C U λy H4=>N (g++[y]) C H4 else N g C U):=by
 erw[Zqe (λi g n c=>YT B d ob rows c/\g=((xs.take i).map f).map V.str/\∃v u,n=[v,u]) ⟨Y,rfl,_,_,rfl⟩ (by rw[G.length];exact Sh few ()) (λi g n c _ ⟨e,_⟩=>e.frz) ?_ ?_];rintro i h b g n c ha hx gb ⟨D,e,v,u,rfl⟩;obtain⟨x,ex,rx⟩:=G.get hx;have X:=Zw gb (.tup [kV h.1,h.2]);erw[⟨b,_,rfl,Zg.of Zi,rfl,_,_,rfl,_,_,rfl,rfl,?_⟩];dsimp only[Y4];rw[SW rfl];erw[hs h x (SL ex) rx _ (D.same X) _ λj s2=>⟨by rw[Su,Sw];lia,(D.same X).same s2,?_,_,_,rfl⟩];rw[e,VL ex,SM,SM];rfl;rintro g n c ha ⟨D,e,v,u,rfl⟩ p Z;rw[G.length,List.take_length]at e;rw[e];exact hd c p D Z
def PQ(wd:Addr)(a:NA):Prop:=wd≠a.ds/\wd≠a.dr/\wd≠a.dt/\wd≠a.dp
def Zgd{n:Nat}(h:n<=10000):((n:Int).natAbs).log2<1920:=by
 by_cases e:n=10000;subst e;lia;exact Wf ()
structure J8(H:Hp)(p:Addr)(W:ZF):Prop where
 at5:∃p1 p2 p3 p4 p5,H p=some (.lst [.ref p1,.ref p2,.ref p3,.ref p4,.ref p5])/\H p1=some (.lst ((W.st.map λx=>Ys (Vx x)).map V.str))/\H p2=some (.lst ((W.wk.map λx=>Ys (VJ x)).map V.str))/\H p3=some (.lst ((W.ru.map λx=>Ys (Vy x)).map V.str))/\H p4=some (.lst ((W.tk.map λx=>Ys (WU x)).map V.str))/\H p5=some (.lst ((W.tp.map λx=>Ys (XP x)).map V.str))
inductive Zqi(vs:List V)(H:Hp)(Q:VK)(_e3:XK):Prop|mk (wd:Addr) (a:NA) (W:ZF) (_:vs=[.ref wd]) (_:YU H wd a W) (_:PQ wd a) (_:UV W) (_:∀p H',Zf H H'->J8 H' p W->Q (.ref p) H')
def WC{k:Nat}(h:k<=6000):k<=sizeLine:=Sh h ()
def Zge(D:Zu K mg t):Zo P w K mg base Zr 10 t.Zdg t.Zdh ["_law_world_here"] Zqi:=by
 erw[D.uO.F.ok WL () λm2 A outer s m0 vs k2 q2 g h=>?_];ext⟨wd,a,W,rfl,hW,nW,ok,q⟩ h;erw[⟨_,(Zh (U7 (U5 (i0:=1) (cl:=[]) (N:=["_law_name_here","_law_pair"]) (fr:=[none,none]) WL.nd R (Or.inl R) R (U8 (YR g (pv 0) Zl)) R () R () trivial trivial R (λ_ _ _ _ _=>(show PG _ _ (D5 K 2 _)from Wq R (YB (ZJ 0 (show List.Nodup (["_law_name_here","_law_pair"]:OD) by lia)) (YB (ZJ 1 (show List.Nodup (["_law_name_here","_law_pair"]:OD) by lia)) Wo)))) (λ_ _ _ _ _=>YM) (λ_ _ _ _ _=>(Zj Yo (Zj Yo (Zj Yo (Zj Yo (Zj Yo Zl (pv 0)) Zl) (Z1 XS R D.Xc Xb (Zc (Zq (show XA _ (WV K)from ZH) (pv 1) Za)))) Zl) (Z1 XS R D.Xc Xb (Zc (Zq (show XA _ (WV K)from ZH) (pv 1) Za))))))) (Zh (U5 (i0:=2) (cl:=[]) (N:=["_law_one","_law_other","_law_minutes"]) (fr:=[none,none,none]) WL.nd R (Or.inl R) R (YP (YR g (pv 0) Zl)) R () R () trivial trivial R (λ_ _ _ _ _=>(show PG _ _ (D5 K 3 _)from Wq R (YB (ZJ 0 (show List.Nodup (["_law_one","_law_other","_law_minutes"]:OD) by lia)) (YB (ZJ 1 (show List.Nodup (["_law_one","_law_other","_law_minutes"]:OD) by lia)) (YB (ZJ 2 (show List.Nodup (["_law_one","_law_other","_law_minutes"]:OD) by lia)) Wo))))) (λ_ _ _ _ _=>YM) (λ_ _ _ _ _=>(Zj Yo (Zj Yo (Zj Yo (Zj Yo (Zj Yo Zl (pv 0)) Zl) (pv 1)) Zl) (Z1 XS R D.Xc Xb (Zc (pv 2)))))) (Zh (U7 (U5 (i0:=3) (cl:=[]) (N:=["_law_name_here","_law_told"]) (fr:=[none,none]) WL.nd R (Or.inl R) R (U8 (YR g (pv 0) Zl)) R () R () trivial trivial R (λ_ _ _ _ _=>(show PG _ _ (D5 K 2 _)from Wq R (YB (ZJ 0 (show List.Nodup (["_law_name_here","_law_told"]:OD) by lia)) (YB (ZJ 1 (show List.Nodup (["_law_name_here","_law_told"]:OD) by lia)) Wo)))) (λ_ _ _ _ _=>YM) (λ_ _ _ _ _=>(Zj Yo (Zj Yo (Zj Yo Zl (pv 0)) Zl) (Zt D.W0 (Zp5 D 8) g Zn (Zc (pv 1))))))) (Zh (ZR 4 WL.nd (Ye Xz)) (Zh (U7 (Xr (U8 (YR g (pv 0) Zl)) (Wq (n:=2) R (YB (ZJ 5 WL.nd) (YB (ZJ 6 WL.nd) Wo))) (Zh (ZR 7 WL.nd (Ye (Qb Zl (pv 5) (Z1 XS R D.Xc Xb (Zc (Zq (show XA _ (WV K)from ZH) (pv 6) Za))) (Z1 XS R D.Xc Xb (Zc (Zq (show XA _ (WV K)from ZH) (pv 6) Za))) (YQ PySem.F.plainAttrs_str PySem.F.slot_str_join PySem.F.type_str_join WJ Zl (Zc (YZ (cl:=[]) (N:=["_law_zone"]) (fr:=[none]) R (YP (Zq (show XA _ (WV K)from ZH) (pv 6) Za)) R () R () trivial trivial R (λ_ _ _ _ _=>(ZJ 0 (show List.Nodup (["_law_zone"]:OD) by lia))) (λ_ _ _ _ _=>YM) (λ_ _ _ _ _=>(Z1 XS R D.Xc Xb (Zc (pv 0)))))))))) (Ze (Yc (YQ PySem.F.plainAttrs_list PySem.F.slot_list_append PySem.F.type_list_append Lc (pv 4) (Zc (YQ PySem.F.plainAttrs_str PySem.F.slot_str_join PySem.F.type_str_join WJ Zl (Zc (pv 7)))))))))) (Zh (ZR 8 WL.nd (Ye Xz)) (Zh (U7 (Xr (U8 (YR g (pv 0) Zl)) (Wq (n:=2) R (YB (ZJ 5 WL.nd) (YB (ZJ 6 WL.nd) Wo))) (Zh (ZR 7 WL.nd (Ye (Yk Zl (pv 5) (Zq (show XA _ (WV K)from ZH) (pv 6) Za)))) (Zh (Xr (YP (Zq (show XA _ (WV K)from ZH) (pv 6) Za)) (Wq (n:=3) R (YB (ZJ 9 WL.nd) (YB (ZJ 10 WL.nd) (YB (ZJ 11 WL.nd) Wo)))) (Ze (ZR 7 WL.nd (Zj Ub (pv 7) (Ye (Yk (pv 9) (Zt D.uN (Zgb D) g Zn (Zc (pv 10))) (Zt D.uN (Zgb D) g Zn (Zc (pv 11))))))))) (Ze (Yc (YQ PySem.F.plainAttrs_list PySem.F.slot_list_append PySem.F.type_list_append Lc (pv 8) (Zc (YQ PySem.F.plainAttrs_str PySem.F.slot_str_join PySem.F.type_str_join WJ Zl (Zc (pv 7))))))))))) (Ze (Zp (Ye (Qb (pv 1) (pv 2) (pv 3) (pv 4) (pv 8)))))))))))),?_⟩];sleep 8;ext⟨e0,J,e2⟩ hW.ob;ext⟨rs,w0,x1⟩ hW.st;ext⟨wv,x0,q1⟩ hW.wk;ext⟨rr,t0,d2⟩ hW.ru;ext⟨rt,r0,i1⟩ hW.tk;ext⟨rp,o0,y0⟩ hW.tp;have get:∀{c:Hp} {z:Str} {l:Addr},c wd=some (.dK e0)->Yx e0 (Sum.inr z)=some (.ref l)->Xw c wd (.str z) (some (.ref l)):=λs' e=>by rw[<-e];exact Xw.k (k:=Sum.inr _) s'
 have kp:∀{z:String},(OL z).length<=10->(OL z).length<=10:=λh=>h;have k1:(OL " ").length<=1:=by lia
 erw[⟨a.ds,.dK rs,w0,.inl ⟨rs,R⟩,λob=>?_⟩];sleep 1;have u:=YT.new ob w0 (Zf.refl m0);have C:upd m0 a.ds (.frz ob (.dK rs)) wd=some (.dK e0):=by rwa[Zm nW.1]
 generalize upd m0 a.ds (.frz ob (.dK rs))=Hf at u C ⊢;erw[⟨_,R,wd,.ref a.ds,R,get C e2.s,a.ds,ob,rs,R,u.frz,Zgc (λx=>Ys (Vx x)) u x1 (Sh ok.s5 ()) (λkv x mx B c h' Q' q'=>?_) λH1 p1 h1 g1=>?_⟩];ext⟨ek,r,er,g⟩ B;obtain⟨T,o2,U,o4⟩:=ok.so x mx;rw[ek,er];have z0:=h'.s _ _ ((Zm (λz=>by rw[z,w0]at g;cases g)).trans g);have ln:=T.2.1;have l1:=Uh (n:=x.z) ();have l2:=Uh (n:=x.ch) ();have ks:(OL "stop ").length<=10:=by lia
 rw[<-Zqf]at q';erw[⟨_,R,_,_,R,R,WC (),_,_,R,R,WC (by simp only[Str.length_append];lia),?_⟩];have J:∀n:Nat,(OL (toString ((n:Nat):Int)))=ZX n:=λ_=>R;erw[⟨_,R,_,_,0,_,R,R,Zg.of z0,R,_,R,Wf (),_,_,R,R,WC (by simp only[Str.length_append,J];lia),_,_,R,R,WC (by simp only[Str.length_append,J];lia),?_⟩];exact⟨_,R,_,_,1,_,R,R,Zg.of z0,R,_,R,Wf (),_,_,R,R,WC (by simp only[Str.length_append,J];lia),q' _ (Zf.refl _)⟩;obtain⟨f1,S1,M⟩:=h1.set g1;erw[⟨f1,?_⟩];generalize upd (upd H1 p1 _) a.ds (.dK rs)=H2 at S1 M ⊢;clear f1 h1 g1 u C;have lw:=q1.length;have w4:=ok.w4;erw[⟨_,R,wd,.ref a.lw,R,get (S1 _ _ J) e2.w,a.lw,R,⟨_,Zd.of (S1 _ _ x0)⟩,Vq (K:=K) (a:=a.lw) (xs:=wv) (λi I j c=>c=H2/\I=((W.wk.take i).map λx=>Ys (VJ x)).map V.str/\∃v f2 v2,j=[v,f2,v2]) ⟨R,R,_,_,_,R⟩ (by rw[lw];exact WC ()) (λi I j c _ ⟨e,_⟩=>by rw[e];exact Zd.of (S1 _ _ x0)) ?_ ?_⟩];rintro i v I j c ha B ⟨rfl,e,v0,u0,v2,rfl⟩;obtain⟨x,ex,r,rfl,g⟩:=q1.get B;have mx:=SL ex;obtain⟨T,o2,U,o4,o5⟩:=ok.wo x mx;have no:∀{z},z∈W.st.map ZT.nm->z.length<=8:=λh=>by obtain⟨y,my,rfl⟩:=SK.mp h;exact(ok.so y my).1.2.1
 have n1:=no T;have n2:=no o2;have l1:=Uh (n:=x.m) ();have ks:(OL "walk ").length<=10:=by lia
 erw[⟨r,_,R,Zg.of (S1 _ _ g),R,_,_,R,_,_,R,_,_,R,R,?_⟩];dsimp only[Y4];rw[SW R];have en:∀n:Nat,(OL (toString ((n:Nat):Int)))=ZX n:=λ_=>R;erw[⟨_,R,_,_,R,R,WC (),_,_,R,R,WC (by simp only[Str.length_append];lia),_,R,_,_,R,R,WC (by simp only[Str.length_append];lia),_,_,R,R,WC (by simp only[Str.length_append];lia),?_⟩];erw[⟨_,R,_,R,Wf (),_,_,R,R,WC (by simp only[Str.length_append,en];lia),by rw[Su,Sw];lia,R,?_,_,_,_,R⟩];rw[e,VL ex,SM,SM];simp only[en];rw[Zqg];rfl;rintro I j c ha ⟨rfl,e,v0,u0,v2,rfl⟩ p2 g2;rw[lw,List.take_length]at e;rw[e];generalize f:upd c p2 _=H3;have s3:=ZO g2 f;have c2:=ZM f;clear f e;have M:=s3 _ _ M;have Q:=S1.trans s3;clear g2 S1 s3;erw[⟨a.dr,.dK rr,Q _ _ t0,.inl ⟨rr,R⟩,λob=>?_⟩];sleep 1;have u:=YT.new ob (Q _ _ t0) (Zf.refl H3);have C:upd H3 a.dr (.frz ob (.dK rr)) wd=some (.dK e0):=by rw[Zm nW.2.1];exact Q _ _ J
 generalize upd H3 a.dr (.frz ob (.dK rr))=Hf at u C ⊢;erw[⟨_,R,wd,.ref a.dr,R,get C e2.r,a.dr,ob,rr,R,u.frz,Zgc (λx=>Ys (Vy x)) u d2 (Sh ok.r3 ()) (λkv x mx B c h' Q' q'=>?_) λH4 p3 h4 g4=>?_⟩];ext⟨ek,tp,hT⟩ B;obtain⟨T,o2,U,o4⟩:=ok.ro x mx;rw[ek];have ln:=T.2.1;have tl:=Nu o2 U;have ks:(OL "days ").length<=10:=by lia
 rw[<-Zqh]at q';erw[⟨_,R,_,_,R,R,WC (),_,_,R,R,WC (by simp only[Str.length_append];lia),?_⟩];exact⟨_,R,tp,kv.2,x.r,R,(YX.put (Q _ _ t0) (hT.same Q)).same h'.s,o2,U,o4,λH5 s5=>⟨_,_,R,R,WC (by simp only[Str.length_append];lia),q' _ s5⟩⟩;obtain⟨f4,S4,c3⟩:=h4.set g4;erw[⟨f4,?_⟩];generalize upd (upd H4 p3 _) a.dr (.dK rr)=H5 at S4 c3 ⊢;have M:=S4 _ _ M;have c2:=S4 _ _ c2;have S5:=Q.trans S4;clear f4 h4 g4 u C Q S4;erw[⟨zL9 R,λE g4=>?_⟩];generalize f:upd H5 E _=H6;have s6:=ZO g4 f;have c4:H6 E=some (.lst []):=ZM f;clear f;erw[⟨a.dt,.dK rt,s6 _ _ (S5 _ _ r0),.inl ⟨rt,R⟩,λob=>?_⟩];sleep 1;have u:=YT.new ob (S5 _ _ r0) s6;have n4:E≠a.dt:=λz=>by rw[z,S5 _ _ r0]at g4;cases g4
 have C:upd H6 a.dt (.frz ob (.dK rt)) wd=some (.dK e0):=by rw[Zm nW.2.2.1];exact s6 _ _ (S5 _ _ J)
 have c4:upd H6 a.dt (.frz ob (.dK rt)) E=some (.lst []):=by rwa[Zm n4]
 have w1:upd H5 a.dt (.frz ob (.dK rt)) E=none:=by rwa[Zm n4]
 generalize upd H6 a.dt (.frz ob (.dK rt))=Hf at u C c4 ⊢;have t2:=ok.t2;have lt:=i1.length;have lp {i}:((W.tk.take i).map λx=>Ys (WU x)).length<=2:=by rw[Sv,Sx];lia
 erw[⟨_,R,wd,.ref a.dt,R,get C e2.t,a.dt,ob,rt,R,u.frz,Q7 (λi j c=>YT H5 a.dt ob rt c/\c E=some (.lst (((W.tk.take i).map λx=>Ys (WU x)).map V.str))/\∃X v6 Y:Option V,j=[some (.ref wd),some (.ref p1),some (.ref p2),some (.ref p3),some (.ref E),X,v6,Y,none,none,none,none]) ⟨u,c4,_,_,_,R⟩ (λi j c _ h=>h.1.frz) ?_ ?_⟩];rintro i kv p j H7 s0 gp ⟨Z,c7,X,v6,Y,rfl⟩;exists H7,p,H8,s8,gp,c8;have h8:=Z.same s8;obtain⟨x,ex,ek,r,z,er,g,hz⟩:=i1.get s0;have B:=ok.to x (SL ex);rw[ek,er]at c8;have f0:∀{b:Addr} {o:HO},m0 b=some o->(∀l,o≠.dK l)->H8 b=some o:=λe no=>h8.s _ _ (by rw[Zm (λz=>by rw[z,r0]at e;exact no _ (So e).symm)];exact S5 _ _ e);have g:=f0 g (λ_ z=>nomatch z);have hz:=f0 hz (λ_ z=>nomatch z);erw[⟨p,_,R,Zg.of c8,R,_,_,R,_,_,R,R,?_⟩];sleep 2;have s1:=B.pr;have j1:=B.la;have z6:=B.z6;have m1:(ZI x.zs).length=x.zs.length:=Sv ..;refine⟨_,R,_,R,r,_,0,_,R,R,Zg.of g,R,_,R,Zgd s1,_,R,r,_,1,_,R,R,Zg.of g,R,_,R,Zgd (Sh j1 ()),R,_,R,r,_,2,_,R,R,Zg.of g,R,z,R,⟨_,Zd.of hz⟩,Vq (K:=K) (a:=z) (xs:=ZI x.zs) (λi I j c=>c=H8/\I=((x.zs.take i).map ZX).map V.str/\∃v,j=[v]) ⟨R,R,_,R⟩
  (by rw[m1];exact Sh z6 ()) (λi I j c _ ⟨e,_⟩=>by rw[e];exact Zd.of hz) ?_ ?_⟩
 rintro i v I j c ha t1 ⟨rfl,e,v0,rfl⟩;rw[Ob]at t1;obtain⟨m,em,rfl⟩:=Og.mp t1;have hm:=(B.rng m (SL em)).2;dsimp only[YA,Y4];rw[SW R];erw[⟨_,R,_,R,Wf (),by rw[Su,Sw];lia,R,?_,_,R⟩];rw[e,VL em];simp[ZX];rintro I j c ha ⟨rfl,e,v0,rfl⟩ pj gj;rw[m1,List.take_length]at e;have s9:=Zw gj (.lst I);erw[⟨_,pj,x.zs.map ZX,R,R,Zd.of (by rw[Zi,e]),Qx (m:=0) () (by rw[Sv];lia) (λy hy=>?_),?_⟩];obtain⟨k,hk,rfl⟩:=SK.mp hy;exact Sh (Uh (by have:=(B.rng k hk).2;lia)) ();generalize upd c pj _=H9 at s9 ⊢;erw[⟨zL9 R,λpw gw=>?_⟩];generalize f:upd H9 pw _=d0;have a2:=ZO gw f;have h0:d0 pw=some (.lst (((WU x).map Xx).map V.str)):=ZM f;clear f;have l0:=s8.trans (s9.trans a2);have k0:=l0 _ _ c7;erw[⟨_,R,.inl ⟨R,_,Zd.of k0⟩,R,_,R,_,pw,(WU x).map Xx,R,R,Zd.of h0,?_,E,_,_,R,R,k0,Sj (by rw[Sv];exact lp) (),?_⟩];erw[Sh (Mw (m:=5000) λy hy=>?_) ?_];obtain⟨v,G,rfl⟩:=SK.mp hy;erw[Mt ?_];simp only[WU,SG,List.mem_nil_iff,or_false]at G;rcases G with rfl|rfl|rfl|rfl|rfl;exact X6 ();exact WB B.nm;exact V8 s1;exact V8 (Sh j1 ());erw[X6 ?_];rw[<-WI,show(zT x.zs).cps.toList=_ from Mv λz hz=>Sh (B.rng z hz).2 (),Sv];lia;rw[Sv];exact Sh (show _<=5001*5 from Nat.mul_le_mul (Nat.add_le_add_left k1 5000) (Sg 5)) ();erw[⟨⟨Z.at_,?_⟩,?_,_,_,_,R⟩];exact Wy (Z.s.trans l0) w1 _;rw[Zi,VL ex,SM,SM];rfl;rintro j H7 ⟨Z,c7,X,v6,Y,rfl⟩;rw[lt,List.take_length]at c7;erw[⟨Z.frz,?_⟩];have S7:=Z.thaw;have c4:upd H7 a.dt (.dK rt) E=_:=(Zm n4).trans c7;generalize upd H7 a.dt (.dK rt)=H8 at S7 c4 ⊢;have M:=S7 _ _ M;have c2:=S7 _ _ c2;have c3:=S7 _ _ c3;have S8:=S5.trans S7;clear Z c7 u C S5 S7 g4 w1 n4;erw[⟨zL9 R,λH g5=>?_⟩];generalize f:upd H8 H _=H9;have s9:=ZO g5 f;have S:H9 H=some (.lst []):=ZM f;clear f;erw[⟨a.dp,.dK rp,s9 _ _ (S8 _ _ o0),.inl ⟨rp,R⟩,λob=>?_⟩];sleep 1;have u:=YT.new ob (S8 _ _ o0) s9;have n5:H≠a.dp:=λz=>by rw[z,S8 _ _ o0]at g5;cases g5
 have C:upd H9 a.dp (.frz ob (.dK rp)) wd=some (.dK e0):=by rw[Zm nW.2.2.2];exact s9 _ _ (S8 _ _ J)
 have S:upd H9 a.dp (.frz ob (.dK rp)) H=some (.lst []):=by rwa[Zm n5]
 have h2:upd H8 a.dp (.frz ob (.dK rp)) H=none:=by rwa[Zm n5]
 generalize upd H9 a.dp (.frz ob (.dK rp))=Hf at u C S ⊢;have t3:=ok.p3;have lt:=y0.length;have lp {i}:((W.tp.take i).map λx=>Ys (XP x)).length<=3:=by rw[Sv,Sx];lia
 erw[⟨_,R,wd,.ref a.dp,R,get C e2.p,a.dp,ob,rp,R,u.frz,Q7 (λi j c=>YT H8 a.dp ob rp c/\c H=some (.lst (((W.tp.take i).map λx=>Ys (XP x)).map V.str))/\∃X v6 Y v9 O a0:Option V,j=[some (.ref wd),some (.ref p1),some (.ref p2),some (.ref p3),some (.ref E),X,v6,Y,some (.ref H),v9,O,a0]) ⟨u,S,_,_,_,_,_,_,R⟩ (λi j c _ h=>h.1.frz) ?_ ?_⟩];rintro i kv p j d0 s0 gp ⟨c0,h0,X,v6,Y,v9,O,a0,rfl⟩;exists d0,p,q0,l0,gp,k0;have b2:=c0.same l0;obtain⟨x,ex,ek,r,l,vs,er,g,hl,al⟩:=y0.get s0;obtain⟨T,o2,U,o4,o5⟩:=ok.po x (SL ex);rw[ek,er]at k0;have f0:∀{b:Addr} {o:HO},m0 b=some o->(∀l,o≠.dK l)->q0 b=some o:=λe no=>b2.s _ _ (by rw[Zm (λz=>by rw[z,o0]at e;exact no _ (So e).symm)];exact S8 _ _ e);have g:=f0 g (λ_ z=>nomatch z);have hl:=f0 hl (λ_ z=>nomatch z);have al:Al (Yt q0) vs x.cs:=al.imp λ_ _ ⟨b,e,hb⟩=>⟨b,e,f0 hb (λ_ z=>nomatch z)⟩;have y1:Yd x.ru:=by obtain⟨y,my,ey⟩:=SK.mp o2;rw[<-ey];exact(ok.ro y my).1
 erw[⟨p,_,R,Zg.of k0,R,_,_,R,_,_,R,R,?_⟩];sleep 3;erw[⟨_,R,_,R,r,_,0,_,R,R,Zg.of g,R,zL9 R,λpw gw=>?_⟩];generalize f:upd q0 pw _=b1;have n0:=ZO gw f;have i2:b1 pw=some (.lst [.str (OL "trip"),.str x.nm,.str x.ru]):=ZM f;clear f gw;have lv:=al.length;erw[⟨_,R,r,_,1,_,R,R,Zg.of (n0 _ _ g),R,l,R,⟨_,Zd.of (n0 _ _ hl)⟩,Qp (K:=K) (a:=l) (xs:=vs) (λj0 j c=>Zf b1 c/\∃(L:Addr) (v9 O a0:Option V),c L=some (.lst ([.str (OL "trip"),.str x.nm,.str x.ru]++((x.cs.take j0).map Wk).flatten))/\j=[some (.ref wd),some (.ref p1),some (.ref p2),some (.ref p3),some (.ref E),some (.str x.nm),some (.ref r),some (.ref L),some (.ref H),v9,O,a0]) ⟨Zf.refl _,pw,_,_,_,i2,R⟩ (λj0 j c _ ⟨k,_⟩=>Zd.of (k _ _ (n0 _ _ hl))) ?_ ?_⟩];rintro j0 v j u1 B ⟨p0,L,v9,O,a0,b0,rfl⟩;obtain⟨g0,ec,b,rfl,hb⟩:=al.get B;have mc:=SL ec;have rg:=U.rng g0 mc;erw[⟨b,_,R,Zg.of (p0 _ _ (n0 _ _ hb)),R,_,_,R,_,_,R,_,_,R,R,?_⟩];sleep 1;erw[⟨_,R,_,R,_,R,g0.ar,R,(),_,R,g0.lv,R,(),zL9 R,λpl gl=>?_⟩];have np:L≠pl:=λz=>by rw[<-z,b0]at gl;cases gl
 erw[⟨L,pl,_,Wk g0,R,R,(Zm np).trans b0,Zi,?_,λpn gn=>⟨(p0.trans (Zw gl _)).trans (Zw gn _),pn,_,_,_,?_,R⟩⟩];rw[Su,C4];exact Sh (show 3+3*(x.cs.take j0).length+3<=100 by have:=List.length_take_le' j0 x.cs;lia) ();rw[Zi,Oa,ec,SM,List.flatten_append];simp;rintro j u1 ⟨p0,L,v9,O,a0,b0,rfl⟩;rw[lv,List.take_length]at b0;have b0:u1 L=some (.lst (XP x)):=b0;have v1:=l0.trans (n0.trans p0);have a1:=v1 _ _ h0;have eV:XP x=((XP x).map Xx).map V.str:=by
  unfold XP;rw[SM,SM,Zf2,jR];rfl
 erw[⟨_,R,.inl ⟨R,_,Zd.of a1⟩,R,_,R,_,L,(XP x).map Xx,R,R,Zd.of (by rwa[<-eV]),?_,H,_,_,R,R,a1,Sj (by rw[Sv];exact lp) (),?_⟩];erw[Sh (Mw (m:=5000) λy hy=>?_) ?_];obtain⟨v,G,rfl⟩:=SK.mp hy;erw[Mt ?_];rcases SH.mp G with G|G;simp only[SG,List.mem_nil_iff,or_false]at G;rcases G with rfl|rfl|rfl;exact X6 ();exact WB T;exact WB y1;obtain⟨j2,hu,G⟩:=List.mem_flatten.mp G;obtain⟨g0,mc,rfl⟩:=SK.mp hu;simp only[Wk,SG,List.mem_nil_iff,or_false]at G;rcases G with rfl|rfl|rfl;obtain⟨y,my,ey⟩:=SK.mp (U.st g0 mc);rw[<-ey];exact WB (ok.so y my).1;exact X6 (by show 5<=10;lia);exact X6 (by show 5<=10;lia);rw[Sv,XP,Su,C4];exact Sh (show _<=5001*21 from Nat.mul_le_mul (Nat.add_le_add_left k1 5000) (by show 3+3*x.cs.length<=21;lia)) ();erw[⟨⟨c0.at_,?_⟩,?_,_,_,_,_,_,_,R⟩];exact Wy (c0.s.trans v1) h2 _;rw[Zi,VL ex,SM,SM];rfl;rintro j d0 ⟨c0,h0,X,v6,Y,v9,O,a0,rfl⟩;rw[lt,List.take_length]at h0;erw[⟨c0.frz,?_⟩];have d1:=c0.thaw;have S:upd d0 a.dp (.dK rp) H=_:=(Zm n5).trans h0;generalize upd d0 a.dp (.dK rp)=q0 at d1 S ⊢;erw[⟨_,R,_,R,_,R,_,R,_,R,zL9 R,λpz gz=>?_⟩];have WC:=Zw gz (.lst [.ref p1,.ref p2,.ref p3,.ref E,.ref H]);have Sz:=d1.trans WC;exact q pz _ (S8.trans Sz) ⟨⟨p1,p2,p3,E,H,Zi,Sz _ _ M,Sz _ _ c2,Sz _ _ c3,Sz _ _ c4,WC _ _ S⟩⟩
inductive Zqj(n:Nat)(vs:List V)(H:Hp)(Q:VK)(_e3:XK):Prop|mk (tp:Addr) (v:V) (r:RT) (d:Nat) (_:vs=[v,.int d]) (_:YX tp H v r) (_:r.good) (_:r.depth<=n) (_:∀H',Zf H H'->Q (.bl (r.runs d)) H')
def Zqk(f:Zu K mg t):∀n:Nat,Zo P w K mg base Zr (n+1) t.Zc2 t.Zc3 ["_law_told","_law_day"] (Zqj n):=by
 intro n;induction n with
 |zero =>
  erw[f.WZ.F.ok zF (λvs H Q a0 h=>?_) (λb0 A outer s H vs Q a0 L h=>?_)];ext⟨tp,v,r,d,rfl,_⟩ h;rfl;ext⟨tp,v,r,d,rfl,h,g,hd,_⟩ h;have:=r.depth_pos;lia
 |succ n M =>
 erw[f.WZ.F.ok zF () λb0 A outer s H vs Q a0 L h=>?_];ext⟨tp,v,r,d,rfl,h,g,hd,q⟩ h;erw[⟨_,(Zh (ZC (ZV Z8 (Zq ZH (pv 0) Za) Zl) (Ze (Zp Xy)) ZE) (Zh (ZC (ZV Z8 (Zq ZH (pv 0) Za) Zl) (Ze (Zp (Xl Z8 (Zj Z7 (Zj YY (Zq ZH (pv 0) Za) (Zj MN Za (Zj Z7 (pv 1) Za))) Za) Za (XD _)))) ZE) (Zh (ZC (ZV Z8 (Zq ZH (pv 0) Za) Zl) (Ze (Zp (Xl E3 (Zj Z7 (pv 1) (Zq ZH (pv 0) Za)) (Zq ZH (pv 0) Za) R))) ZE) (Zh (ZC (ZV Z8 (Zq ZH (pv 0) Za) Zl) (Ze (Zp (Vi (Rb Vl Vl (Zq ZH (pv 0) Za) (pv 1) (Zq ZH (pv 0) Za)) (WF (Xu M (L.mono ()) R f.WZ.m f.WZ.F.kp f.WZ.b .nil Zn (ZB (Zq ZH (pv 0) Za) (pv 1))))))) ZE) (Zh (ZC (ZV Z8 (Zq ZH (pv 0) Za) Zl) (Ze (Zp (Xl Ux (Xu M (L.mono ()) R f.WZ.m f.WZ.F.kp f.WZ.b .nil Zn (ZB (Zq ZH (pv 0) Za) (pv 1))) (Xl E3 (pv 1) (Zq ZH (pv 0) Za) R) (XD _)))) ZE) (Zh (ZgZ (i:=2) (j:=3) R zF.nd R R () R R (ZB (Xu M (L.mono ()) R f.WZ.m f.WZ.F.kp f.WZ.b .nil Zn (ZB (Zq ZH (pv 0) Za) (pv 1))) (Xu M (L.mono ()) R f.WZ.m f.WZ.F.kp f.WZ.b .nil Zn (ZB (Zq ZH (pv 0) Za) (pv 1)))) R) (Ze (Zp (K2 (ZV Z8 (Zq ZH (pv 0) Za) Zl) (kG (pv 2) (WF (pv 3))) (Vi (pv 2) (WF (pv 3)))))))))))),?_⟩];cases h with
 |always h =>
  erw[⟨_,R,_,_,0,_,R,R,Zg.of h,R,R,_,R,Zy () ?_⟩];exact q _ (Zf.refl _)
 |week h =>
  rename_i a b;erw[⟨_,R,_,_,0,_,R,R,Zg.of h,R,R,_,R,Zk () ?_⟩];erw[⟨_,R,_,_,0,_,R,R,Zg.of h,R,R,_,R,Zy () ?_⟩];have eN:((d:Int)%7).toNat=d%7:=by lia
  have pL:(1:Int)*2 ^ ((d:Int)%7).toNat=((2 ^ (d%7):Nat):Int):=by rw[eN,Int.one_mul,Int.natCast_pow];rfl
  have pP:0<2 ^ (d%7):=Nat.two_pow_pos _;have pU:2 ^ (d%7)<=2 ^ 6:=Nat.pow_le_pow_right () ();erw[⟨_,R,_,_,1,_,R,R,Zg.of h,R,_,R,_,_,R,R,(),_,_,R,R,⟨(),(),()⟩,_,_,R,R,?_,_,_,R,R,(),R,?_⟩];rw[pL];exact⟨(),()⟩;have c:=q H (Zf.refl _);have e:(RT.week b).runs d=decide (V.int ((b:Int)/((1:Int)*2 ^ ((d:Int)%7).toNat)%2)=V.int 1):=by
   rw[pL,VQ,<-SY];show(b/2 ^ (d%7)%2==1)=_;rw[Bool.eq_iff_iff,beq_iff_eq,beq_iff_eq];lia
  rw[e]at c;exact c
 |each h hl ne =>
  rename_i a l m O;ext⟨g1,g2,g3⟩ g;erw[⟨_,R,_,_,0,_,R,R,Zg.of h,R,R,_,R,Zk () ?_⟩];erw[⟨_,R,_,_,0,_,R,R,Zg.of h,R,R,_,R,Zk () ?_⟩];erw[⟨_,R,_,_,0,_,R,R,Zg.of h,R,R,_,R,Zy () ?_⟩];have e1:(d:Int)%(m:Int)=((d%m:Nat):Int):=(SX d m).symm;erw[⟨_,R,_,R,_,_,1,_,R,R,Zg.of h,R,_,_,R,R,(by show(0:Int)<(m:Int);lia),_,R,_,_,2,_,R,R,Zg.of h,R,l,_,R,.inl (Zd.of hl),R,E9 O,?_⟩];have c:=q H (Zf.refl _);have e2:VU (.int ((d:Int)%(m:Int))) (ZI O)=(RT.each m O).runs d:=by
   rw[e1];exact Lp (d%m) O
  rw[<-e2]at c;exact c
 |span h E =>
  rename_i a x y v r;have T:(RT.span x y r).depth=1+r.depth:=rfl;have Y:∀b:Bool,b=(decide (x<=d) && decide (d<=y) && r.runs d)->∀G,Zf H G->Q (.bl b) G:=λb e G X=>by rw[e];exact q G X
  erw[⟨_,R,_,_,0,_,R,R,Zg.of h,R,R,_,R,Zk () ?_⟩];erw[⟨_,R,_,_,0,_,R,R,Zg.of h,R,R,_,R,Zk () ?_⟩];erw[⟨_,R,_,_,0,_,R,R,Zg.of h,R,R,_,R,Zk () ?_⟩];erw[⟨_,R,_,_,0,_,R,R,Zg.of h,R,R,_,R,Zy () ?_⟩];erw[⟨_,R,_,_,1,_,R,R,Zg.of h,R,_,R,_,_,R,R,_,R,?_⟩];by_cases D:x<=d;rw[SW (SR ())];erw[⟨_,R,_,_,2,_,R,R,Zg.of h,R,_,_,R,R,_,R,?_⟩];by_cases h2:d<=y;erw[Zy (SR ()) ?_];exact⟨_,R,_,_,3,_,R,R,Zg.of h,R,_,R,tp,v,r,d,R,E,g.2.2,(),λG X=>Y _ (by rw[SR D,SR h2];rfl) G X⟩;erw[Zk (by rw[SS ()];lia) ?_];exact Y _ (by rw[SS h2,Bool.and_false,Bool.false_and]) H (Zf.refl _);rw[SV (by rw[SS ()];lia)];exact⟨_,R,Zk () (Y _ (by rw[SS D,Bool.false_and,Bool.false_and]) H (Zf.refl _))⟩
 |but h hl ne E =>
  rename_i a l ds v r;have T:(RT.but ds r).depth=1+r.depth:=rfl;erw[⟨_,R,_,_,0,_,R,R,Zg.of h,R,R,_,R,Zk () ?_⟩];erw[⟨_,R,_,_,0,_,R,R,Zg.of h,R,R,_,R,Zk () ?_⟩];erw[⟨_,R,_,_,0,_,R,R,Zg.of h,R,R,_,R,Zk () ?_⟩];erw[⟨_,R,_,_,0,_,R,R,Zg.of h,R,R,_,R,Zk () ?_⟩];erw[⟨_,R,_,_,0,_,R,R,Zg.of h,R,R,_,R,Zy () ?_⟩];erw[⟨_,R,_,_,2,_,R,R,Zg.of h,R,_,R,tp,v,r,d,R,E,g.2,(),λS C=>?_⟩];have D:=C _ _ h;erw[⟨_,R,_,R,_,_,1,_,R,R,Zg.of D,R,l,_,R,.inl (Zd.of (C _ _ hl)),R,E9 ds,R,?_⟩];have c:=q S C;have e:(RT.but ds r).runs d=(!decide (V.bl (r.runs d)=V.bl (VU (.int (d:Int)) (ZI ds)))):=by
   rw[Lp,MO];rfl
  rw[e]at c;exact c
 |either h E U =>
  rename_i a v u r B;have T:(RT.either r B).depth=1+max r.depth B.depth:=rfl;erw[⟨_,R,_,_,0,_,R,R,Zg.of h,R,R,_,R,Zk () ?_⟩];erw[⟨_,R,_,_,0,_,R,R,Zg.of h,R,R,_,R,Zk () ?_⟩];erw[⟨_,R,_,_,0,_,R,R,Zg.of h,R,R,_,R,Zk () ?_⟩];erw[⟨_,R,_,_,0,_,R,R,Zg.of h,R,R,_,R,Zk () ?_⟩];erw[⟨_,R,_,_,0,_,R,R,Zg.of h,R,R,_,R,Zk () ?_⟩];erw[⟨_,R,_,_,1,_,R,R,Zg.of h,R,_,R,tp,v,r,d,R,E,g.1,(),λS C=>?_⟩];have D:=C _ _ h;erw[⟨_,R,_,_,2,_,R,R,Zg.of D,R,_,R,tp,u,B,d,R,U.same C,g.2,(),λH2 s2=>?_⟩];have I:=C.trans s2;have Z:=I _ _ h;erw[⟨_,_,R,?_⟩];erw[⟨_,R,_,_,0,_,R,R,Zg.of Z,R,R,_,R,Zy () ?_⟩];have c:=q _ I;erw[⟨_,R,_,R,?_⟩];have e:(RT.either r B).runs d=(r.runs d || B.runs d):=rfl;rw[e]at c;cases J:r.runs d with
  |true=>rw[J]at c;exact Zy R c
  |false=>rw[J]at c;exact Zk () ⟨_,R,c⟩
 |both h E U =>
  rename_i a v u r B;have T:(RT.both r B).depth=1+max r.depth B.depth:=rfl;erw[⟨_,R,_,_,0,_,R,R,Zg.of h,R,R,_,R,Zk () ?_⟩];erw[⟨_,R,_,_,0,_,R,R,Zg.of h,R,R,_,R,Zk () ?_⟩];erw[⟨_,R,_,_,0,_,R,R,Zg.of h,R,R,_,R,Zk () ?_⟩];erw[⟨_,R,_,_,0,_,R,R,Zg.of h,R,R,_,R,Zk () ?_⟩];erw[⟨_,R,_,_,0,_,R,R,Zg.of h,R,R,_,R,Zk () ?_⟩];erw[⟨_,R,_,_,1,_,R,R,Zg.of h,R,_,R,tp,v,r,d,R,E,g.1,(),λS C=>?_⟩];have D:=C _ _ h;erw[⟨_,R,_,_,2,_,R,R,Zg.of D,R,_,R,tp,u,B,d,R,U.same C,g.2,(),λH2 s2=>?_⟩];have I:=C.trans s2;have Z:=I _ _ h;erw[⟨_,_,R,?_⟩];erw[⟨_,R,_,_,0,_,R,R,Zg.of Z,R,R,_,R,Zk () ?_⟩];have c:=q _ I;erw[⟨_,R,_,R,?_⟩];have e:(RT.both r B).runs d=(r.runs d && B.runs d):=rfl;rw[e]at c;cases J:r.runs d with
  |true=>rw[J]at c;exact Zy R ⟨_,R,c⟩
  |false=>rw[J]at c;exact Zk () c
theorem jW:∀c:List Nat,Y0 K H (ZI c) (c.map λn=>PyData.int (n:Nat))
 |[]=>.nil
 |_::r=>.cons (.int _) (jW r)
theorem Zgf:∀c:List Nat,PyData.depthAll (c.map λn=>PyData.int (n:Nat))=0
 |[]=>by simp[PyData.depthAll]
 |_::r=>by simp[PyData.depthAll,PyData.depth,Zgf r]
inductive Zql(P:Program)(w:World)(K:Oy)(mg:Ox)(base:Heap)(k:Nat)(m:Str)(t:TA)(σ:St)(Q:VK)(x:V)(H1:Hp):Prop|mk (a C dx:Addr) (fs:List (Str×V)) (f:Addr) (fd:OK) (ps:OD) (sp:Sp) (_:x=.ref a) (_:H1 a=some (.ins C dx fs)) (_:fs.lookup m=none) (_:YI K C) (_:Yr K C m f) (_:Zo P w K mg base Zr k f fd ps sp) (_:XT K fd ps []) (_:t σ H1 λvs H2=>sp (.ref a::vs) H2 Q E0)
def Zqm(P:Program)(w:World)(K:Oy)(mg:Ox)(base:Heap)(k:Nat)(m:Str)(g:TE)(t:TA):TE:=λc H Q=>g c H λx f=>Zql P w K mg base k m t c Q x f
def Zqn{m:Str}{o e:Expr}{g:OE}{y:TE}{t:TA}{i apos:Pos}{pl:Sem Bool}(P:Program)(w:World)(K:Oy)(mg:Ox)(base:Heap)(k:Nat)(U:YE k X.A)(E:PE X o y)(ha:PA X (e::g) t)
  (Q:X.prog=P:=by rfl) (G:X.w=w:=by rfl) (L:X.K=K:=by rfl) (hm:X.mg=mg:=by rfl) (j:X.base=base:=by rfl)
  (S:starEach (e::g) X.env=(false,eval e X.env)::starEach g X.env:=by rfl) (M:(backTo i (starEach g X.env)).any (·.1)=false:=by rfl)
  (D:eval (.Call (.Attribute o m apos) (e::g) [] i) X.env=(do
   let B <-eval o X.env
   standAt apos.atName
   let (f,first) <-holding [B] (getMethod B m pl)
   callWith i f first (backTo i (starEach (e::g) X.env)) (backToKw i (keywordEach [] X.env))):=by rfl) :
  PE X (.Call (.Attribute o m apos) (e::g) [] i) (Zqm P w K mg base k m y t):=by
 subst Q G L hm j;intro pins s v H c0 I h;erw[W.methodCall_KW (pl:=pl) (ZA (E pins s v H _ I h) λu Y ⟨b0,C,x,T,a,a0,Z,fs,f,fd,ps,sp,ex,O,l,c,hm,F,j,q⟩=>?_) D];subst ex;obtain rfl:u=Value.ref a:=T;erw[D9 x O c hm l ?_];erw[W.callWith_K (first:=[.ref a]) (h₀:=X.base) I.ok.mod.kin hm.kp (ZA (ha i pins Y v C _ x q) λus s2 ⟨vs,H2,n,r,J⟩=>⟨n.kIn,?_⟩) S M];exact Qr (us:=.ref a::us) (vs:=.ref a::vs) (dvs:=[]) F U j .nil Zn n (.cons R r) (by rwa[Od])
def MB{g:Type}{R:V->g->Prop}{xs:List V}{c:List g}{f:g->PyData}(j:Al R xs c)(h:∀v y,y∈c->R v y->DV K H v (f y)):Y0 K H xs (c.map f):=by
 induction j with
 |nil=>exact .nil
 |cons a _ i=>exact .cons (h _ _ SE a) (i λv y m=>h v y (SD _ m))
def dW(x:Wl):PyData:=.tuple [.str x.o,.str x.t,.int (x.m:Nat)]
def dS(x:ZT):PyData:=.tuple [.int (x.z:Nat),.int (x.ch:Nat)]
def dK(x:YS):PyData:=.tuple [.int (x.pr:Nat),.int (x.la:Nat),.list (x.zs.map λn=>.int (n:Nat))]
def dC(c:Cl):PyData:=.tuple [.str c.st,.int (c.ar:Nat),.int (c.lv:Nat)]
def dT(x:Tp):PyData:=.tuple [.str x.ru,.list (x.cs.map dC)]
theorem jX{c:Type}{f:c->PyData}{n:Nat}(h:∀x,(f x).depth<=n):∀xs:List c,PyData.depthAll (xs.map f)<=n
 |[]=>by simp[PyData.depthAll]
 |x::r=>by have:=h x;have:=jX h r;simp only[SN,PyData.depthAll];lia
def PR{c:Type}{f:c->PyData}{n:Nat}(h:∀x,(f x).depth<=n)(xs:List c):(PyData.list (xs.map f)).depth<=n+1:=by have:=jX h xs;simp only[PyData.depth];lia
def Zqo(x:Wl):(dW x).depth<=3:=by simp[dW,PyData.depth,PyData.depthAll]
def Zqp(x:ZT):(dS x).depth<=3:=by simp[dS,PyData.depth,PyData.depthAll]
def Zqq(x:YS):(dK x).depth<=3:=by simp[dK,PyData.depth,PyData.depthAll,Zgf]
def Zqr(x:Cl):(dC x).depth<=1:=by simp[dC,PyData.depth,PyData.depthAll]
def Zqs(x:Tp):(dT x).depth<=3:=by have:=jX Zqr x.cs;simp[dT,PyData.depth,PyData.depthAll];lia
def Yt.dv{c:Cl}(h:Yt H v c)(n:Yd c.st):DV K H v (dC c):=by
 ext⟨p,rfl,h⟩ h;exact .tup (Zg.of h) (.cons (.str _ (V7 n)) (.cons (.int _) (.cons (.int _) .nil)))
def YG.dv{x:Wl}(h:YG H v x)(n:Yd x.o/\Yd x.t):DV K H v (dW x):=by
 ext⟨p,rfl,h⟩ h;exact .tup (Zg.of h) (.cons (.str _ (V7 n.1)) (.cons (.str _ (V7 n.2)) (.cons (.int _) .nil)))
def J9{c:Type}{nm:c->Str}{xs:List c}(nd:(xs.map nm).Nodup){x y:c}(h:x∈xs)(e:V.str (nm x)=V.str (nm y))(f:Yv nm xs (nm y)=some y):x=y:=by
 have:=Mj nd h;rw[V.str.inj e,f]at this;exact(So this).symm
def jY{E:Type}{nm:E->Str}{xs:List E}{l n z:Addr}{J:TE}{u:Hp}{Q:VK}(f:E->PyData)(hl:u l=some (.lst ((xs.map nm).map V.str)))(few:xs.length<=100)
  (X:∀x∈xs,∀c,Zf u c->∀C:VK,(∀v B,Zf c B->DV K (wo B z) v (f x)->C v B)->J [some (.str (nm x)),some (.ref n)] c C)
  (hd:∀j c p,Zf u c->u p=none->j.length<=100->Y0 K (wo c z) j (xs.map f)->c p=none->Q (.ref p) (upd c p (.lst j))) :
  ∃W:Nat->Nat->List V->St->Hp->Prop,(∃m,W 0 m [] [none,some (.ref n)] u)/\∀i m j M H,W i m j M H ->
   ((Wr K l).stop i H/\Wd Q j H) \/
   ((Wr K l).go i H/\j.length<sizeLine/\∃N:List V->St->Hp->Prop,(∀L I c,N L I c->∃O,O<m/\W (i+1) O L I c)/\∀x c,(Wr K l).yld i H x c->YA 0 x M c λD B=>Y4 D B λb S=>if b=true then J D S λy U=>N (j++[y]) D U else N j D S) :=
 jN (λH v x=>DV K (wo H z) v (f x)) (λs h=>h.same (Za7 s)) hl (Qn xs) few (λv x m ev c G C Z=>by subst ev;exact X x m c G C Z) λj c p G g la Y T=>hd j c p G g la (MB Y λ_ _ _ h=>h) T
theorem MC:∀l:List Str,WH (l.map V.str) (l.map V.str)=true
 |[]=>rfl
 |x::r=>by
  show(XU (.str x) (.str x) && WH (r.map V.str) (r.map V.str))=true;rw[MC r];simp[XU]
def QW(l:OD):(l.map V.str).all WW=true:=by
 rw[List.all_map];exact List.all_eq_true.mpr λ_ _=>R
theorem Zgg:∀l:List Nat,WH (ZI l) (ZI l)=true
 |[]=>rfl
 |x::r=>by
  show(XU (.int x) (.int x) && WH (ZI r) (ZI r))=true;rw[Zgg r];simp[XU]
def jZ{c:Type}{R:ZD×V->c->Prop}{rows:List (ZD×V)}{xs:List c}{f:c->PyData}(j:Al R rows xs)(h:∀g x,x∈xs->R g x->DV K H g.2 (f x)):Y0 K H (rows.map (·.2)) (xs.map f):=by
 induction j with
 |nil=>exact .nil
 |cons a _ i=>exact .cons (h _ _ SE a) (i λv y m=>h v y (SD _ m))
inductive Zqt(t:Ya)(vs:List V)(H:Hp)(Q:VK)(_e3:XK):Prop|mk (n wd:Addr) (a b:NA) (N W:ZF) (_:vs=[.ref n,.ref wd]) (_:Yb t H n b N) (_:a.dr∉b.l) (_:XZ N) (_:YU H wd a W) (_:PQ wd a) (_:UV W) (_:N.st=W.st) (_:N.wk=W.wk) (_:((N=W/\∀H',Zf H H'->Q (.bl true) H')\/(N.ru.length≠W.ru.length/\∀H',Zf H H'->Q (.bl false) H')))
def PU(g:Zu K mg t):Zo P w K mg base Zr 50 t.Zdi t.Zdj ["_law_net","_law_world_here"] (Zqt t):=by
 erw[g.LO.F.ok Nw () λb2 A outer s b0 vs x1 f2 i h=>?_];ext⟨n,wd,a,b,N,W,rfl,hN,nb,no,hW,nW,ok,es,ew,hq⟩ h;have hn:XX t b0 n N:=⟨b,hN⟩;erw[⟨_,(Zh (ZC (PW.pt (Vh (ZV (Lj i.units0) (Vo (pv 0) g.ZK g.Qk.me (Py g) (i.mono ()) g.Qk.b .nil Zn) (Z1 (Ui R) R g.Y1 Y6 (Zc (YR i (pv 1) Zl)))) (Vh (ZV (Rp i.units) (Vo (pv 0) g.ZK g.LY.me (Zfx g) (i.mono ()) g.LY.b .nil Zn) (YR i (pv 1) Zl)) (VO (ZV (Lj i.units0) (Vo (pv 0) g.ZK g.LZ.me (Zfw g) (i.mono ()) g.LZ.b .nil Zn) (Z1 (Ui R) R g.Y1 Y6 (Zc (YR i (pv 1) Zl)))))))) (Ze (Zp Xy)) ZE) (Zh (ZC (ZV (Rp i.units) (YZ (cl:=[(OL "_law_net",s.heap.objs.size+1)]) (N:=["_law_stop","_law_net"]) (fr:=[none,some 0]) R (YP (Vo (pv 0) g.ZK g.Qk.me (Py g) (i.mono ()) g.Qk.b .nil Zn)) R () R () ⟨⟨R,Or.inl R,Or.inl R,_,R,R⟩,trivial⟩ ⟨R,trivial⟩ R (λ_ _ _ _ _=>(ZJ 0 (show List.Nodup (["_law_stop","_law_net"]:OD) by lia))) (λ_ _ _ _ _=>YM) (λ_ _ _ _ _=>(Y9 (ZB (YL (pv 1) g.ZK g.L0.me (Zfz g) (i.mono ()) g.L0.b .nil Xa (Zc (pv 0))) (YL (pv 1) g.ZK g.L1.me (ZfA g) (i.mono ()) g.L1.b .nil Xa (Zc (pv 0))))))) (Z1 (RQ R) R g.Y1 Y6 (Zc (MT PySem.F.plainAttrs_dict PySem.F.slot_dict_values PySem.F.type_dict_values RP (YR i (pv 1) Zl))))) (Ze (Zp Xy)) ZE) (Zh (ZC (PW.pt (Vh (ZV (Lj i.units0) (Vo (pv 0) g.ZK g.A5.me (jG g) (i.mono ()) g.A5.b .nil Zn) (Z1 (Ui R) R g.Y1 Y6 (Zc (YR i (pv 1) Zl)))) (VO (ZV (Lj i.units0) (Vo (pv 0) g.ZK g.A6.me (jH g) (i.mono ()) g.A6.b .nil Zn) (Z1 (Ui R) R g.Y1 Y6 (Zc (YR i (pv 1) Zl))))))) (Ze (Zp Xy)) ZE) (Zh (ZC (ZV (Rp i.units) (YZ (cl:=[(OL "_law_net",s.heap.objs.size+1)]) (N:=["_law_name_here","_law_net"]) (fr:=[none,some 0]) R (YP (Vo (pv 0) g.ZK g.A5.me (jG g) (i.mono ()) g.A5.b .nil Zn)) R () R () ⟨⟨R,Or.inl R,Or.inl R,_,R,R⟩,trivial⟩ ⟨R,trivial⟩ R (λ_ _ _ _ _=>(ZJ 0 (show List.Nodup (["_law_name_here","_law_net"]:OD) by lia))) (λ_ _ _ _ _=>YM) (λ_ _ _ _ _=>(YL (pv 1) g.ZK g.L4.me (ZfC g) (i.mono ()) g.L4.b .nil Xa (Zc (pv 0))))) (Z1 (RQ R) R g.Y1 Y6 (Zc (MT PySem.F.plainAttrs_dict PySem.F.slot_dict_values PySem.F.type_dict_values RP (YR i (pv 1) Zl))))) (Ze (Zp Xy)) ZE) (Zh (U7 (Xr (U8 (YR i (pv 1) Zl)) (Wq (n:=2) R (YB (ZJ 2 Nw.nd) (YB (ZJ 3 Nw.nd) Wo))) (Zh (U5 (i0:=4) (cl:=[(OL "_law_net",s.heap.objs.size+1),(OL "_law_name_here",s.heap.objs.size+2)]) (N:=["_law_day","_law_name_here","_law_net"]) (fr:=[none,some 2,some 0]) Nw.nd R (Or.inl R) R (Vj R g.WP (Zc Za)) R () R () ⟨⟨R,Or.inl R,Or.inl R,_,R,R⟩,⟨⟨R,Or.inl R,Or.inl R,_,R,R⟩,trivial⟩⟩ ⟨R,⟨R,trivial⟩⟩ R (λ_ _ _ _ _=>(ZJ 0 (show List.Nodup (["_law_day","_law_name_here","_law_net"]:OD) by lia))) (λ_ _ _ _ _=>(M5 (Ym (Zqn P w K mg base 9 (i.mono ()) (YL (pv 2) g.ZK g.L3.me (ZfB g) (i.mono ()) g.L3.b .nil Xa (Zc (pv 1))) (Zc (pv 0)))))) (λ_ _ _ _ _=>(pv 0))) (Ze (ZC (ZV (Lj i.units0) (pv 4) (YZ (cl:=[(OL "_law_told",s.heap.objs.size+3)]) (N:=["_law_day","_law_told"]) (fr:=[none,some 3]) R (Vj R g.WP (Zc Za)) R () R () ⟨⟨R,Or.inl R,Or.inl R,_,R,R⟩,trivial⟩ ⟨R,trivial⟩ R (λ_ _ _ _ _=>(ZJ 0 (show List.Nodup (["_law_day","_law_told"]:OD) by lia))) (λ_ _ _ _ _=>(M5 (Ym (Zt g.WZ (Zqk g 8) i Zn (ZB (pv 1) (pv 0)))))) (λ_ _ _ _ _=>(pv 0)))) (Ze (Zp Xy)) ZE))))) (Ze (Zp (Xl (Zir i.units) (YZ (cl:=[(OL "_law_net",s.heap.objs.size+1)]) (N:=["_law_trip","_law_net"]) (fr:=[none,some 0]) R (YP (Vo (pv 0) g.ZK g.A6.me (jH g) (i.mono ()) g.A6.b .nil Zn)) R () R () ⟨⟨R,Or.inl R,Or.inl R,_,R,R⟩,trivial⟩ ⟨R,trivial⟩ R (λ_ _ _ _ _=>(ZJ 0 (show List.Nodup (["_law_trip","_law_net"]:OD) by lia))) (λ_ _ _ _ _=>YM) (λ_ _ _ _ _=>(Y9 (ZB (YL (pv 1) g.ZK g.L5.me (ZfD g) (i.mono ()) g.L5.b .nil Xa (Zc (pv 0))) (YL (pv 1) g.ZK g.L6.me (ZfE g) (i.mono ()) g.L6.b .nil Xa (Zc (pv 0))))))) (Z1 (RQ R) R g.Y1 Y6 (Zc (MT PySem.F.plainAttrs_dict PySem.F.slot_dict_values PySem.F.type_dict_values RP (YR i (pv 1) Zl)))) (XD _))))))))),?_⟩];sleep 6;ext⟨r0,k1,k2⟩ hW.ob;ext⟨rs,p0,x0⟩ hW.st;ext⟨wv,m1,v1⟩ hW.wk;ext⟨U,l0,z0⟩ hW.ru;ext⟨rt,q0,a1⟩ hW.tk;ext⟨rp,o0,u0⟩ hW.tp;have get:∀{E:Hp} {z:Str} {l:Addr},E wd=some (.dK r0)->Yx r0 (Sum.inr z)=some (.ref l)->Xw E wd (.str z) (some (.ref l)):=λs' e=>by rw[<-e];exact Xw.k (k:=Sum.inr _) s'
 ext⟨L,fs,C,M⟩ hN.ob;have sn:∀{E:Hp},Zf b0 E->E n=some (.ins t.ZL L fs):=λs'=>s' _ _ C;erw[⟨_,R,n,L,_,R,C,M.n_stops,n,N,R,hn,λB g1=>?_⟩];exists b0,B,H1,s1,g1,O;erw[⟨_,R,wd,_,R,get (s1 _ _ k1) k2.s,a.ds,rs,R,s1 _ _ p0,λl2 g2=>?_⟩];rw[Ut (λS x (h:Yz b0 S x)=>h.1) x0];generalize c:upd H1 l2 _=H2;have s2:=ZO g2 c;have c2:=ZM c;have O:=s2 _ _ O;have S2:=s1.trans s2;clear c g1 g2 s1 s2;erw[⟨B,l2,_,_,R,R,Zd.of O,Zd.of c2,QW _,QW _,_,R,Zk (by rw[SW R,es,MC];lia) ?_⟩];clear O c2;erw[⟨_,R,n,L,_,R,S2 _ _ C,M.n_walks,n,N,R,hn.same S2,λl3 xs g3 al=>?_⟩];generalize c:upd H2 l3 _=H3;have s3:=ZO g3 c;have c3:=ZM c;have y:=S2.trans s3;clear c g3;have u:DV K H3 (.ref l3) (.list (N.wk.map dW)):=.lst (Zd.of c3) (MB (al.imp λ_ _=>YG.same s3) λg0 c0 m h=>h.dv (no.wo c0 m));have d2:DV K H3 (.ref a.lw) (.list (W.wk.map dW)):=.lst (Zd.of (y _ _ m1)) (MB (v1.imp λ_ _=>YG.same y) λg0 c0 m h=>h.dv (no.wo c0 (ew ▸ m)));erw[⟨_,R,wd,_,R,get (y _ _ k1) k2.w,_,_,u,d2,Sh (PR Zqo _) (),_,R,Zk (by rw[SW R,ew,SeqAt.eqv_refl _ d2.can];lia) ?_⟩];clear u d2 c3 al s3 S2;erw[⟨_,R,n,L,_,R,y _ _ C,M.n_rules,n,N,R,hn.same y,λl4 g4=>?_⟩];generalize c:upd H3 l4 _=H4;have s4:=ZO g4 c;have c4:=ZM c;have S4:=y.trans s4;clear c g4;erw[⟨_,R,wd,_,R,get (S4 _ _ k1) k2.r,a.dr,U,R,S4 _ _ l0,λl5 g5=>?_⟩];rw[Ut (λS x (h:WA b0 S x)=>h.1) z0];generalize c:upd H4 l5 _=H5;have s5:=ZO g5 c;have c5:=ZM c;have c4:=s5 _ _ c4;have S5:=S4.trans s5;clear c g5 s5 s4 S4 y;erw[⟨l4,l5,_,_,R,R,Zd.of c4,Zd.of c5,QW _,QW _,_,R,?_⟩];clear c4 c5;rcases hq with⟨rfl,q⟩|⟨ne,q⟩
 rotate_left
 exact Zy (by rw[SW R,MZ (by rw[Sv,Sv,Sv,Sv];exact ne)];rfl) (q _ S5);erw[Zk (by rw[SW R,MC];lia) ?_];sleep 1;clear es ew;erw[⟨_,R,n,L,_,R,S5 _ _ C,M.n_stops,n,N,R,hn.same S5,λB g1=>?_⟩];generalize c:upd H5 B _=H6;have H:=ZO g1 c;have Y:=ZM c;clear c g1;have S6:=S5.trans H;erw[⟨B,R,⟨_,Zd.of Y⟩,jY (n:=n) (z:=n) dS Y (Sh no.s8 ()) (λx D H7 v Q' q'=>?_) λa2 H7 p2 v _ y0 J e0=>?_⟩];have S7:=S6.trans v;have d0:YH ZT.nm N.st (.str x.nm)=true:=VI (SK.mpr ⟨x,D,R⟩);erw[⟨_,R,n,L,_,R,S7 _ _ C,M.n_zone,_,R,n,N,.str x.nm,_,R,hn.same S7,.str _,λb=>(by rw[d0]at b;cases b),λc0 X Z=>?_⟩];obtain rfl:=J9 no.sn D X Z;erw[⟨_,R,n,L,_,R,S7 _ _ C,M.n_change,_,R,n,N,.str x.nm,_,R,hn.same S7,.str _,λb=>(by rw[d0]at b;cases b),λc0 X Z=>?_⟩];obtain rfl:=J9 no.sn D X Z;erw[⟨zL9 R,λp m0=>q' _ _ (Zw m0 _) (.tup (Zg.of (QA Zi λz=>?_)) (.cons (.int _) (.cons (.int _) .nil)))⟩];rw[z,sn S7]at m0;cases m0;have J:=Y0.same No J;generalize c:upd H7 p2 _=H8;have s8:=ZO e0 c;have G:=(S6.trans v).trans s8;have u:DV K H8 (.ref p2) (.list (N.st.map dS)):=.lst (Zd.of (ZM c)) (J.same s8);clear c J e0 s8 v S6 Y H;erw[⟨_,R,wd,_,R,get (G _ _ k1) k2.s,.inr (.inr (.inl ⟨R,.inl ⟨_,G _ _ p0⟩⟩)),a.ds,rs,R,R,G _ _ p0,λvw gv=>?_⟩];generalize c:upd H8 vw _=H9;have s9:=ZO gv c;have c9:=ZM c;clear c gv;have S9:=G.trans s9;erw[⟨vw,a.ds,rs,R,c9,S9 _ _ p0,λvl gl=>?_⟩];generalize c:upd H9 vl _=j0;have Q:=ZO gl c;have h0:=ZM c;clear c gl;have I:=S9.trans Q;have u:=u.same (s9.trans Q);erw[⟨_,_,u,.lst (Zd.of h0) (jZ (f:=dS) x0 λS x _ ⟨_,r,er,i⟩=>by rw[er];exact .tup (Zg.of (I _ _ i)) (.cons (.int _) (.cons (.int _) .nil))),Sh (PR Zqp _) (),_,R,Zk (by rw[SW R,SeqAt.eqv_refl _ u.can];lia) ?_⟩];clear u h0 c9 s9 Q S9 G S5 J;erw[⟨_,R,n,L,_,R,I _ _ C,M.n_tickets,n,N,R,hn.same I,λB g1=>?_⟩];exists j0,B,H1,s1,g1,O;have S1:=I.trans s1;erw[⟨_,R,wd,_,R,get (S1 _ _ k1) k2.t,a.dt,rt,R,S1 _ _ q0,λl2 g2=>?_⟩];rw[Ut (λS x (h:WS b0 S x)=>h.1) a1];generalize c:upd H1 l2 _=H2;have s2:=ZO g2 c;have c2:=ZM c;have O:=s2 _ _ O;have S2:=S1.trans s2;clear c g1 g2 s1 s2 S1 I;erw[⟨B,l2,_,_,R,R,Zd.of O,Zd.of c2,QW _,QW _,_,R,Zk (by rw[SW R,MC];lia) ?_⟩];clear O c2;erw[⟨_,R,n,L,_,R,S2 _ _ C,M.n_trips,n,N,R,hn.same S2,λB g1=>?_⟩];exists H2,B,H3,s1,g1,O;have y:=S2.trans s1;erw[⟨_,R,wd,_,R,get (y _ _ k1) k2.p,a.dp,rp,R,y _ _ o0,λl2 g2=>?_⟩];rw[Ut (λS x (h:WT b0 S x)=>h.1) u0];generalize c:upd H3 l2 _=H4;have s2:=ZO g2 c;have c2:=ZM c;have O:=s2 _ _ O;have S4:=y.trans s2;clear c g1 g2 s1 s2 y S2;erw[⟨B,l2,_,_,R,R,Zd.of O,Zd.of c2,QW _,QW _,_,R,Zk (by rw[SW R,MC];lia) ?_⟩];clear O c2;erw[⟨_,R,n,L,_,R,S4 _ _ C,M.n_tickets,n,N,R,hn.same S4,λB g1=>?_⟩];generalize c:upd H4 B _=H6;have H:=ZO g1 c;have Y:=ZM c;clear c g1;have S6:=S4.trans H;erw[⟨B,R,⟨_,Zd.of Y⟩,jY (n:=n) (z:=n) dK Y (Sh no.t3 ()) (λx D H7 v Q' q'=>?_) λa2 H7 p2 v _ y0 J e0=>?_⟩];have S7:=S6.trans v;have d0:YH YS.nm N.tk (.str x.nm)=true:=VI (SK.mpr ⟨x,D,R⟩);erw[⟨_,R,n,L,_,R,S7 _ _ C,M.n_ticket,_,R,n,N,.str x.nm,_,R,hn.same S7,.str _,λb=>(by rw[d0]at b;cases b),λc0 X Z v' j0 Q kt=>?_⟩];obtain rfl:=J9 no.tn D X Z;ext⟨r,l,rfl,h1,_,h2⟩ kt;have nn:=sn (S7.trans Q);erw[q' _ _ Q (.tup (Zg.of (QA h1 λz=>?_)) (.cons (.int _) (.cons (.int _) (.cons (.lst (Zd.of (QA h2 λz=>?_)) (jW _)) .nil))))];rw[z,nn]at h1;cases h1;rw[z,nn]at h2;cases h2;have J:=Y0.same No J;generalize c:upd H7 p2 _=H8;have s8:=ZO e0 c;have G:=(S6.trans v).trans s8;have u:DV K H8 (.ref p2) (.list (N.tk.map dK)):=.lst (Zd.of (ZM c)) (J.same s8);clear c J e0 s8 v S6 Y H S4;erw[⟨_,R,wd,_,R,get (G _ _ k1) k2.t,.inr (.inr (.inl ⟨R,.inl ⟨_,G _ _ q0⟩⟩)),a.dt,rt,R,R,G _ _ q0,λvw gv=>?_⟩];generalize c:upd H8 vw _=H9;have s9:=ZO gv c;have c9:=ZM c;clear c gv;have S9:=G.trans s9;erw[⟨vw,a.dt,rt,R,c9,S9 _ _ q0,λvl gl=>?_⟩];generalize c:upd H9 vl _=j0;have Q:=ZO gl c;have h0:=ZM c;clear c gl;have I:=S9.trans Q;have u:=u.same (s9.trans Q);erw[⟨_,_,u,.lst (Zd.of h0) (jZ (f:=dK) a1 λS x _ ⟨_,r,z,er,i,hz⟩=>by rw[er];exact .tup (Zg.of (I _ _ i)) (.cons (.int _) (.cons (.int _) (.cons (.lst (Zd.of (I _ _ hz)) (jW _)) .nil)))),Sh (PR Zqq _) (),_,R,Zk (by rw[SW R,SeqAt.eqv_refl _ u.can];lia) ?_⟩];clear u h0 c9 s9 Q S9 G J;erw[⟨a.dr,.dK U,I _ _ l0,.inl ⟨U,R⟩,λob=>?_⟩];sleep 1;have hh:=YT.new ob l0 I;have t0:upd j0 a.dr (.frz ob (.dK U)) wd=some (.dK r0):=by rw[Zm nW.2.1];exact I _ _ k1
 have nd:n≠a.dr:=λz=>by rw[z,l0]at C;cases C
 have t1:∀{E:Hp},YT b0 a.dr ob U E->XX t E n N:=λh=>⟨b,(hN.put (o:=.frz ob (.dK U)) l0 (λz=>nb (by simp[NA.l,<-z])) (λz=>nb (by simp[NA.l,<-z])) (λz=>nb (by simp[NA.l,<-z])) (λz=>nb (by simp[NA.l,<-z]))).same h.s⟩;generalize upd j0 a.dr (.frz ob (.dK U))=Hf at hh t0 ⊢;erw[⟨_,R,wd,.ref a.dr,R,get t0 k2.r,a.dr,ob,U,R,hh.frz,Q7 (λk0 T E=>YT b0 a.dr ob U E/\∃v2 v3 v4:Option V,T=[some (.ref n),some (.ref wd),v2,v3,v4]) ⟨hh,_,_,_,R⟩ (λk0 T E _ h=>h.1.frz) ?_ ?_⟩];rintro k0 S p T H3 p1 gp ⟨h3,v2,v3,v4,rfl⟩;exists H3,p,H4,s4,gp,c4;have h4:=h3.same s4;obtain⟨x,ex,ek,tp,hT⟩:=z0.get p1;have D:=SL ex;have hx:=ok.ro x D;rw[ek]at c4;erw[⟨p,_,R,Zg.of c4,R,_,_,R,_,_,R,R,?_⟩];sleep 2;have d0:YH Yl.nm N.ru (.str x.nm)=true:=VI (SK.mpr ⟨x,D,R⟩);have hT:=(YX.put (o:=.frz ob (.dK U)) l0 hT).same h4.s;erw[⟨_,R,(),(),Qu (n:=24) (λk0 f0 T E=>YT b0 a.dr ob U E/\Zf H4 E/\f0=ZI ((List.range k0).filter λd=>x.r.runs d)/\∃g0,T=[g0,some (.str x.nm),some (.ref n)]) ⟨h4,Zf.refl _,R,_,R⟩ () ?_ ?_⟩];rintro j f0 T H5 hj ha ⟨h5,s5,rfl,v0,rfl⟩;dsimp only[YA];rw[show(0:Int)+(j:Int)=(j:Int) by lia];erw[⟨_,R,n,L,_,R,h5.s _ _ ((Zm nd).trans C),M.n_rule,_,R,n,N,.str x.nm,_,R,t1 h5,no,.str _,λb=>(by rw[d0]at b;cases b),λc0 X Z v' H6 H n1=>?_⟩];obtain rfl:=J9 no.rn D X Z;ext⟨b,rfl,b1⟩ n1;rw[g.kf]at b1;obtain⟨q1,u1,j1,f,fd,sp,g1,g2,g3,g4,g5,g6,g7⟩:=(ZeP (P:=P) (w:=w) (mg:=mg) (base:=base) g 8).at g b1 hx.2.2.2;erw[⟨b,q1,u1,j1,f,fd,_,sp,R,g1,g2,g3,g4,g5,g6,_,R,g7 j _ ⟨_,R,?_⟩⟩];rw[Ol,List.filter_append];erw[VC (λa0=>?_) (λa0=>?_)];rw[show List.filter (λd=>x.r.runs d) [j]=[j] by rw[List.filter_cons,a0];rfl];exact⟨_,R,by rw[Su,Sw];lia,h5.same H,s5.trans H,(SM (l₂:=[j])).symm,_,R⟩;rw[show List.filter (λd=>x.r.runs d) [j]=[] by rw[List.filter_cons,SV a0];rfl,Od];exact⟨(),h5.same H,s5.trans H,R,_,R⟩;rintro f0 T H5 ha ⟨h5,s5,rfl,v0,rfl⟩ pd gd;generalize c:upd H5 pd _=H6;have H:=ZO gd c;have cd:=ZM c;clear c gd;have h6:=h5.same H;have hT:=hT.same (s5.trans H);erw[⟨_,R,_,R,(),(),Qu (n:=24) (λk0 f0 T E=>Zf H6 E/\f0=ZI ((List.range k0).filter λd=>x.r.runs d)/\∃g0,T=[g0,some S.2]) ⟨Zf.refl _,R,_,R⟩ () ?_ ?_⟩];rintro j f0 T H7 hj ha ⟨v,rfl,v0,rfl⟩;dsimp only[YA];rw[show(0:Int)+(j:Int)=(j:Int) by lia];erw[⟨_,R,_,R,tp,S.2,x.r,j,R,hT.same v,hx.2.1,hx.2.2.2,λH8 s8=>⟨_,R,?_⟩⟩];rw[Ol,List.filter_append];erw[VC (λa0=>?_) (λa0=>?_)];rw[show List.filter (λd=>x.r.runs d) [j]=[j] by rw[List.filter_cons,a0];rfl];exact⟨_,R,by rw[Su,Sw];lia,v.trans s8,(SM (l₂:=[j])).symm,_,R⟩;rw[show List.filter (λd=>x.r.runs d) [j]=[] by rw[List.filter_cons,SV a0];rfl,Od];exact⟨(),v.trans s8,R,_,R⟩;rintro f0 T H7 ha ⟨v,rfl,v0,rfl⟩ pe ge;have s8:=Zw ge (.lst (ZI ((List.range 24).filter λd=>x.r.runs d)));erw[⟨pd,pe,_,_,R,R,Zd.of (s8 _ _ (v _ _ cd)),Zd.of Zi,E9 _,E9 _,_,R,Zk (by rw[SW R,Zgg];lia) ?_⟩];exact⟨h6.same (v.trans s8),_,_,_,R⟩;rintro T H3 ⟨h3,v2,v3,v4,rfl⟩;erw[⟨h3.frz,?_⟩];have y:=h3.thaw;generalize upd H3 a.dr (.dK U)=H4 at y ⊢;clear h3;erw[⟨_,R,n,L,_,R,y _ _ C,M.n_trips,n,N,R,hn.same y,λB g1=>?_⟩];generalize c:upd H4 B _=H6;have H:=ZO g1 c;have Y:=ZM c;clear c g1;have S6:=y.trans H;erw[⟨B,R,⟨_,Zd.of Y⟩,jY (n:=n) (z:=n) dT Y (Sh no.p10 ()) (λx D y1 o1 Q' q'=>?_) λa2 H7 p2 v _ y0 J e0=>?_⟩];have n0:=S6.trans o1;have f1:=sn n0;have d0:YH Tp.nm N.tp (.str x.nm)=true:=VI (SK.mpr ⟨x,D,R⟩);erw[⟨_,R,n,L,_,R,n0 _ _ C,M.n_rule_name,_,R,n,N,.str x.nm,_,R,hn.same n0,.str _,λb=>(by rw[d0]at b;cases b),λc0 X Z=>?_⟩];obtain rfl:=J9 no.pn D X Z;erw[⟨_,R,n,L,_,R,n0 _ _ C,M.n_calls,_,R,n,N,.str x.nm,_,R,hn.same n0,.str _,λb=>(by rw[d0]at b;cases b),λc0 X Z l us w1 i1 gl hl al=>?_⟩];obtain rfl:=J9 no.pn D X Z;erw[⟨zL9 R,λp m0=>?_⟩];have s0:=Zw m0 (.tup [.str x.ru,.ref l]);have po:=no.po x D;have w0:=i1 _ _ f1;erw[q' _ _ (i1.trans s0) (.tup (Zg.of (QA Zi (Z4 w0 m0).symm)) (.cons (.str _ (V7 po.2.1)) (.cons (.lst (Zd.of (QA (s0 _ _ hl) (Z4 f1 gl).symm)) (MB al λg0 a0 m h=>?_)) .nil)))];ext⟨pc,rfl,hc⟩ h;exact .tup (Zg.of (QA (s0 _ _ hc) (λz=>by rw[z,w0]at hc;cases hc))) (.cons (.str _ (V7 (po.2.2.2.2 a0 m))) (.cons (.int _) (.cons (.int _) .nil)));have J:=Y0.same No J;generalize c:upd H7 p2 _=H8;have s8:=ZO e0 c;have G:=(S6.trans v).trans s8;have u:DV K H8 (.ref p2) (.list (N.tp.map dT)):=.lst (Zd.of (ZM c)) (J.same s8);clear c J e0 s8 v S6 Y H;erw[⟨_,R,wd,_,R,get (G _ _ k1) k2.p,.inr (.inr (.inl ⟨R,.inl ⟨_,G _ _ o0⟩⟩)),a.dp,rp,R,R,G _ _ o0,λvw gv=>?_⟩];generalize c:upd H8 vw _=H9;have s9:=ZO gv c;have c9:=ZM c;clear c gv;have S9:=G.trans s9;erw[⟨vw,a.dp,rp,R,c9,S9 _ _ o0,λvl gl=>?_⟩];generalize c:upd H9 vl _=j0;have Q:=ZO gl c;have h0:=ZM c;clear c gl;have I:=S9.trans Q;have u:=u.same (s9.trans Q);erw[⟨_,_,u,.lst (Zd.of h0) (jZ (f:=dT) u0 λS x D ⟨_,r,l,vs,er,i,hl,al⟩=>?_),Sh (PR Zqs _) (),?_⟩];rw[er];have po:=no.po x D;exact .tup (Zg.of (I _ _ i)) (.cons (.str _ (V7 po.2.1)) (.cons (.lst (Zd.of (I _ _ hl)) (MB al λg0 a0 m h=>(Yt.same I h).dv (po.2.2.2.2 a0 m))) .nil));rw[SV (),SeqAt.eqv_refl _ u.can];exact q _ I
def Zgh{c:Type}{nm:c->Str}{xs:List c}{x:c}(nd:(xs.map nm).Nodup)(h:YH nm xs (.str (nm x))=false):((xs++[x]).map nm).Nodup:=by
 rw[SM];erw[List.nodup_append.mpr ⟨nd,List.Pairwise.cons () .nil,λa ha b f e=>?_⟩];obtain rfl:=SF.mp f;subst e;rw[VI ha]at h;cases h
def Zgi{c:Type}{p:c->Prop}{xs:List c}{x:c}(h:∀y∈xs,p y)(g:p x):∀y∈xs++[x],p y:=λy f=>(SH.mp f).elim (h y) λe=>SF.mp e ▸ g
def Zgj(h:Vw v=true):v=.str (X5 v)/\Yd (X5 v):=by
 obtain⟨z,rfl,c⟩:=J0 h;exact⟨R,ZnZ c⟩
def Zgk(h:(!b)=true):b=false:=by cases b;rfl;cases h
def Zgl{c:Type}{xs:List c}{x:c}{n:Nat}(h:decide (xs.length<n)=true):(xs++[x]).length<=n:=by rw[Su];exact SU h
theorem XZ.addR(ok:XZ N)(h:B9 N f o=none)(j:∀r,o=some r->R3.Ok r):XZ (addR N f o):=by
 obtain⟨i,h⟩:=QN h;obtain⟨c,h⟩:=QN h;obtain⟨n,h⟩:=QN h;obtain⟨g,h⟩:=QN h;obtain⟨e,u⟩:=Zgj i;obtain⟨r,rfl⟩:=Option.isSome_iff_exists.mp n;exact{ok with r6:=Zgl g,rn:=Zgh ok.rn (by rw[e]at c;exact Zgk c),ro:=Zgi ok.ro ⟨u,j r R⟩}
theorem XZ.addT{N:ZF}{cs:List Cl}(ok:XZ N)(h:C0 N i g=none)(H:Vc (N.st.map ZT.nm) cs)(n:2<=cs.length)(u:cs.length<=6):XZ (addT N i g cs):=by
 obtain⟨B,h⟩:=QN h;obtain⟨f,h⟩:=QN h;obtain⟨D,h⟩:=QN h;obtain⟨j,h⟩:=QN h;obtain⟨e,G⟩:=Zgj B;obtain⟨y,x,rfl,C⟩:=Us D;refine{ok with p10:=Zgl j,pn:=Zgh ok.pn (by rw[e]at f;exact Zgk f),po:=Zgi ok.po ⟨G,by have:=Vd C;show Yd y;rw[<-this.2];exact(ok.ro _ this.1).1,n,u,λc E=>?_⟩};obtain⟨s,v,e⟩:=SK.mp (H.st c E);rw[<-e];exact ok.so s v
def UV.nf{W:ZF}(h:UV W):NF W:=by
 have nm:∀z∈W.st.map ZT.nm,Yd z:=λz v=>by obtain⟨x,f,rfl⟩:=SK.mp v;exact(h.so x f).1
 erw[⟨⟨Sh h.s5 (),h.sn,λx f=>(h.so x f).1,Sh h.w4 (),λx f=>⟨nm _ (h.wo x f).1,nm _ (h.wo x f).2.1⟩,Sh h.r3 (),h.rn,h.ro,Sh h.t2 (),h.tn,h.to,Sh h.p3 (),h.pn,λx f=>?_⟩,λx f=>(h.so x f).2,h.wo,h.wn,λx f=>⟨(h.po x f).2.1,(h.po x f).2.2.1⟩⟩];obtain⟨u,j,p3,i,B⟩:=h.po x f;obtain⟨r,g,n⟩:=SK.mp j;exact⟨u,by rw[<-n];exact(h.ro r g).1,i,B,λc y=>nm _ (p3.st c y)⟩
def NF.num(h:NF N):jM N:=⟨λx f=>by have:=h.st x f;lia,λx f=>by have:=h.wk x f;lia,λx f c g=>by have:=(h.tr x f).2.rng c g;lia⟩
def WD(W:ZF):Nat->List ZY
 |0=>W.st.map .st
 |1=>W.wk.map .wk
 |2=>W.ru.map .ru
 |3=>W.tk.map .tk
 |4=>W.tp.map .tp
 |_=>[]
def Vf(xs:List ZY):List V:=(xs.map ZY.tx).map V.str
def PV{W:ZF}(ok:UV W)(j:Nat):(WD W j).length<=5:=by
 have:=ok.s5;have:=ok.w4;have:=ok.r3;have:=ok.t2;have:=ok.p3
 match j with
 |0|1|2|3|4=>simp only[WD,Sv];lia
 |_+5=>exact Sk _
def J8.get{W:ZF}(h:J8 H p W):∃g:List Addr,g.length=5/\H p=some (.lst (g.map V.ref))/\∀j q,g[j]? = some q->H q=some (.lst (Vf (WD W j))):=by
 ext⟨E,C,p3,B,I,v,D,y,G,u,n⟩ h.at5;erw[⟨[E,C,p3,B,I],R,v,λj q e=>?_⟩];have k:∀{c:Type} (i:List c) (mk:c->ZY) (f:c->Str),(∀x,(mk x).tx=f x)->(i.map f).map V.str=Vf (i.map mk):=λi mk f e=>by
  unfold Vf;rw[Of,Of,Of];exact List.map_congr_left λx _=>by show V.str (f x)=V.str (mk x).tx;rw[e]
 match j,e with
 |0,e=>cases e;rw[D];exact congrArg (λz=>some (HO.lst z)) (k W.st .st _ λ_=>R)
 |1,e=>cases e;rw[y];exact congrArg (λz=>some (HO.lst z)) (k W.wk .wk _ λ_=>R)
 |2,e=>cases e;rw[G];exact congrArg (λz=>some (HO.lst z)) (k W.ru .ru _ λ_=>R)
 |3,e=>cases e;rw[u];exact congrArg (λz=>some (HO.lst z)) (k W.tk .tk _ λ_=>R)
 |4,e=>cases e;rw[n];exact congrArg (λz=>some (HO.lst z)) (k W.tp .tp _ λ_=>R)
def J8.same{W:ZF}(h:J8 H p W)(s:Zf H c):J8 c p W:=by
 ext⟨x,u,p3,n,B,i,v,j,y,g,f⟩ h.at5;exact⟨⟨x,u,p3,n,B,s _ _ i,s _ _ v,s _ _ j,s _ _ y,s _ _ g,s _ _ f⟩⟩
def PX{W:ZF}(ok:UV W)(O:OH):((O.map (WD W)).flatten).length<=5*O.length:=by
 induction O with
 |nil=>exact Sk _
 |cons x r c=>rw[SN,List.flatten_cons,Su,Sy];have:=PV ok x;lia
def KW:List (List Nat):=[[0,1,2,3,4],[2,0,4,3,1],[3,2,0,1,4],[0,2,4,1,3],[2,3,0,4,1]]
def Zqu{W:ZF}(nf:NF W){k:Nat}(h:k<5):∃O,KW[k]? = some O/\O.length=5/\(∀j∈O,j<5)/\XQ ⟨[],[],[],[],[]⟩ ((O.map (WD W)).flatten) W:=by
 have z:∀{g:Type} {xs:List g},List.Sublist [] xs:=List.nil_sublist _;have r:∀{g:Type} (xs:List g),List.Sublist xs xs:=List.Sublist.refl;have f:∀a b c d e:List ZY,[a,b,c,d,e].flatten=(((a++b)++c)++d)++e:=λa b c d e=>by simp
 match k,h with
 |0,_=>exact⟨_,R,R,(),by rw[show([0,1,2,3,4].map (WD W)).flatten=_ from f _ _ _ _ _];exact((((nf.aS z z z z).app (nf.aW z z z)).app (nf.aR (r _) (r _) z z)).app (nf.aK (r _) (r _) (r _) z)).app (nf.aT (r _) (r _))⟩
 |1,_=>exact⟨_,R,R,(),by rw[show([2,0,4,3,1].map (WD W)).flatten=_ from f _ _ _ _ _];exact((((nf.aR z z z z).app (nf.aS z (r _) z z)).app (nf.aT z z)).app (nf.aK (r _) z (r _) (r _))).app (nf.aW (r _) (r _) (r _))⟩
 |2,_=>exact⟨_,R,R,(),by rw[show([3,2,0,1,4].map (WD W)).flatten=_ from f _ _ _ _ _];exact((((nf.aK z z z z).app (nf.aR z z (r _) z)).app (nf.aS z (r _) (r _) z)).app (nf.aW (r _) (r _) z)).app (nf.aT (r _) (r _))⟩
 |3,_=>exact⟨_,R,R,(),by rw[show([0,2,4,1,3].map (WD W)).flatten=_ from f _ _ _ _ _];exact((((nf.aS z z z z).app (nf.aR (r _) z z z)).app (nf.aT z z)).app (nf.aW (r _) z (r _))).app (nf.aK (r _) (r _) (r _) (r _))⟩
 |4,_=>exact⟨_,R,R,(),by rw[show([2,3,0,4,1].map (WD W)).flatten=_ from f _ _ _ _ _];exact((((nf.aR z z z z).app (nf.aK z z (r _) z)).app (nf.aS z (r _) (r _) z)).app (nf.aT z (r _))).app (nf.aW (r _) (r _) (r _))⟩
def Zqv{W:ZF}(nf:NF W){O:OH}:∀x∈(O.map (WD W)).flatten,x.Ok/\x.tx.length<=110000:=λx c=>by
 obtain⟨l,f,c⟩:=List.mem_flatten.mp c;obtain⟨j,_,rfl⟩:=SK.mp f;have hm:x∈J5 W:=by
  unfold J5
  match j,c with
  |0,c|1,c|2,c|3,c|4,c=>simp only[SH];simp only[WD]at c;simp[c]
 erw[⟨nf.adds.all x hm,PB nf.ok (PD nf.ok nf.num) _ ?_⟩];rw[ZfZ];exact SK.mpr ⟨x,hm,R⟩
def Zgm(W:ZF):(([0,1,2,3,4].map (WD W)).flatten).map ZY.tx=Y3 W:=by
 rw[ZfZ];unfold J5;simp[WD]
def UR.l{a:NA}(h:UR H a):∀x∈a.l,H x=none:=λx m=>by
 simp only[NA.l,SG,List.not_mem_nil,or_false]at m;rcases m with rfl|rfl|rfl|rfl|rfl;exact h.s;exact h.w;exact h.r;exact h.t;exact h.p
def Zgn{c:Type}{nm:c->Str}{xs:List c}{z:Str}(h:∀y∈xs.map nm,y.length<=7)(hz:z.length=8):(!YH nm xs (.str z))=true:=by
 cases e:YH nm xs (.str z)with
 |false=>rfl
 |true =>
  obtain⟨x,y,ex,f⟩:=Us e;have:=Vd f;have l:=h (nm y) (SK.mpr ⟨y,this.1,R⟩);rw[this.2,<-V.str.inj ex,hz]at l;exact Ot l ()
def Zgo:Yd (OL "newrules")/\Yd (OL "newtrips"):=⟨⟨(),(),(),trivial⟩,⟨(),(),(),trivial⟩⟩
inductive Zqw(t:Ya)(vs:List V)(H:Hp)(Q:VK)(_e3:XK):Prop|mk (wd:Addr) (a:NA) (W:ZF) (m:Nat) (_:vs=[.ref wd,.int m]) (_:YU H wd a W) (_:PQ wd a) (_:UV W) (_:∀H',Zf H H'->Q (.bl true) H')
def Zqx(c:Zu K mg t):Zo P w K mg base Zr 64 t.Zdm t.Zdn ["_law_world_here","_law_number"] (Zqw t):=by
 erw[c.ZeE.F.ok VG () λi2 A outer s H vs a2 j2 g f0=>?_];ext⟨wd,a,W,m,rfl,hW,nW,ok,q⟩ f0;erw[⟨_,(Zh (ZR 2 VG.nd (Zt c.uO (Zge c) g Zn (Zc (pv 0)))) (Zh (ZR 3 VG.nd (Ye (Qb (Ye (Qb Za Za Za Za Za)) (Ye (Qb Za Za Za Za Za)) (Ye (Qb Za Za Za Za Za)) (Ye (Qb Za Za Za Za Za)) (Ye (Qb Za Za Za Za Za))))) (Zh (ZR 4 VG.nd (Ye Xz)) (Zh (Xr (YP (Zq Yf (pv 3) (Zj Z7 (pv 1) Za))) (ZJ 5 VG.nd) (Ze (ZR 4 VG.nd (Zj Ub (pv 4) (Zq Yf (pv 2) (pv 5)))))) (Zh (ZR 6 VG.nd (Zt c.ZeD (ZpW c) g Zn (ZB (pv 4) (Zj YY (pv 1) Za)))) (Zh (ZR 7 VG.nd (Zt c.LN (PL c) g Zn (Zc (pv 6)))) (Zh (ZR 8 VG.nd (Zt c.LN (PL c) g Zn (Zc (pv 6)))) (Zh (ZC (PW.pt (Vh (Yn (Ym (Yp M3 c.WO WM (ZB (pv 7) (M4 R c.Pi))))) (VO (Yn (Ym (Zt c.LO (PU c) g Zn (ZB (pv 7) (pv 0)))))))) (Ze (Zp Xy)) ZE) (Zh (ZR 9 VG.nd (Zt c.G1 (Mx c) g Zn (Zc (pv 7)))) (Zh (Yc (YL (pv 8) c.ZK c.A3.me (jE c) (g.mono ()) c.A3.b .nil Xa (ZB Zl (Nf c.Pb R c.A8)))) (Zh (Yc (YL (pv 8) c.ZK c.A4.me (jF c) (g.mono ()) c.A4.b .nil Xa (Yk Zl Zl (Zt c.uM (Zfm c) g Zn (Yk (pv 1) (Z1 (Ui R) R c.Y1 Y6 (Zc (YR g (pv 0) Zl))) Za))))) (Zh (ZC (PW.pt (Vh (ZV Ux (Zt c.G1 (Mx c) g Zn (Zc (pv 7))) (pv 9)) (Vh (Yn (Ym (Zt c.LO (PU c) g Zn (ZB (pv 7) (pv 0))))) (VO (Ym (Zt c.LO (PU c) g Zn (ZB (pv 8) (pv 0)))))))) (Ze (Zp Xy)) ZE) (Zh (ZR 10 VG.nd (Ye Xz)) (Zh (Xr (YP (pv 2)) (ZJ 5 VG.nd) (Ze (ZR 10 VG.nd (Zj Ub (pv 10) (pv 5))))) (Ze (Zp (Xl Z8 (pv 9) (YQ PySem.F.plainAttrs_str PySem.F.slot_str_join PySem.F.type_str_join WJ Zl (Zc (YZ (cl:=[]) (N:=["_law_row"]) (fr:=[none]) R (YP (pv 10)) R () R () trivial trivial R (λ_ _ _ _ _=>(ZJ 0 (show List.Nodup (["_law_row"]:OD) by lia))) (λ_ _ _ _ _=>YM) (λ_ _ _ _ _=>(Zj Yo (pv 0) Zl))))) (XD _)))))))))))))))))),?_⟩];have nf:=ok.nf;erw[⟨_,R,wd,a,W,R,hW,nW,ok,λp H1 S1 R1=>?_⟩];ext⟨U,g0,hp,d0⟩ R1.get;erw[⟨zL9 R,λq1 g1=>?_⟩];generalize f:upd H1 q1 _=I1;have t1:=ZO g1 f;have b1:I1 q1=some (.lst (ZI (KW.getD 0 []))):=ZM f;clear f g1;erw[⟨zL9 R,λq2 g2=>?_⟩];generalize f:upd I1 q2 _=I2;have t2:=ZO g2 f;have E:I2 q2=some (.lst (ZI (KW.getD 1 []))):=ZM f;clear f g2;erw[⟨zL9 R,λq3 g3=>?_⟩];generalize f:upd I2 q3 _=I3;have t3:=ZO g3 f;have b3:I3 q3=some (.lst (ZI (KW.getD 2 []))):=ZM f;clear f g3;erw[⟨zL9 R,λq4 g4=>?_⟩];generalize f:upd I3 q4 _=I4;have t4:=ZO g4 f;have b4:I4 q4=some (.lst (ZI (KW.getD 3 []))):=ZM f;clear f g4;erw[⟨zL9 R,λq5 g5=>?_⟩];generalize f:upd I4 q5 _=I5;have L:=ZO g5 f;have b5:I5 q5=some (.lst (ZI (KW.getD 4 []))):=ZM f;clear f g5;erw[⟨zL9 R,λQ g6=>?_⟩];generalize f:upd I5 Q _=I6;have D:=ZO g6 f;have b6:I6 Q=some (.lst [.ref q1,.ref q2,.ref q3,.ref q4,.ref q5]):=ZM f;clear f g6;obtain⟨O,eO,lO,bO,ad⟩:=Zqu nf (Op m (show 5>0 by lia));obtain⟨qk,eq,hq⟩:∃qk,YW [V.ref q1,.ref q2,.ref q3,.ref q4,.ref q5] ((m:Int)%5)=some (.ref qk)/\I6 qk=some (.lst (ZI O)):=by
  rw[show(m:Int)%5=((m%5:Nat):Int) by lia];have M:m%5<5:=Op _ ();generalize m%5=k at M eO ⊢
  match k,M,eO with
  |0,_,e=>cases e;exact⟨_,R,D _ _ (L _ _ (t4 _ _ (t3 _ _ (t2 _ _ b1))))⟩
  |1,_,e=>cases e;exact⟨_,R,D _ _ (L _ _ (t4 _ _ (t3 _ _ E)))⟩
  |2,_,e=>cases e;exact⟨_,R,D _ _ (L _ _ (t4 _ _ b3))⟩
  |3,_,e=>cases e;exact⟨_,R,D _ _ (L _ _ b4)⟩
  |4,_,e=>cases e;exact⟨_,R,D _ _ b5⟩
 have I:=t1.trans (t2.trans (t3.trans (t4.trans (L.trans D))));clear b1 E b3 b4 b5 t1 t2 t3 t4 L D eO;erw[⟨zL9 R,λpr T=>?_⟩];generalize f:upd I6 pr _=I7;have Y:=ZO T f;have b7:I7 pr=some (.lst (Vf [])):=ZM f;clear f T;have y:=I.trans Y;have p1:(ZI O).length=5:=(Sv ..).trans lO;erw[⟨_,R,_,R,_,_,R,R,(),Q,_,_,_,R,R,Zd.of (Y _ _ b6),eq,qk,R,⟨_,Zd.of (Y _ _ hq)⟩,Qp (K:=K) (a:=qk) (xs:=ZI O) (λi v H'=>Zf I7 H'/\∃(u:Addr) (B:Option V),H' u=some (.lst (Vf (((O.take i).map (WD W)).flatten)))/\v=[some (.ref wd),some (.int m),some (.ref p),some (.ref Q),some (.ref u),B,none,none,none,none,none]) ⟨Zf.refl _,pr,_,b7,R⟩ (λj v H' _ ⟨k,_⟩=>Zd.of (k _ _ (Y _ _ hq))) ?_ ?_⟩];rintro i z0 v H2 C ⟨s2,u,B,h,rfl⟩;sleep 101;rw[Ob]at C;obtain⟨j,Z,rfl⟩:=Og.mp C;have j5:=bO j (SL Z);have r0:U[j]? = some U[j]:=Ss ();have hj:=s2 _ _ (y _ _ (d0 j _ r0));erw[⟨_,R,_,R,_,R,p,_,_,_,R,R,Zd.of (s2 _ _ (y _ _ hp)),Wt (by rw[Ob,r0];rfl),u,_,_,_,R,R,h,hj,?_,λpn J=>⟨s2.trans (Zw J _),pn,_,?_,R⟩⟩];unfold Vf;rw[Sv,Sv,Sv,Sv];have h1:=PX ok (O.take i);have h2:=PV ok j;rw[Sx]at h1;exact Sh (show _<=100 by lia) ();rw[Zi,VL Z,SM,List.flatten_append,List.map_singleton,List.flatten_singleton];unfold Vf;rw[SM,SM];rintro v H2 ⟨s2,c1,B,h,rfl⟩;rw[p1,SZ ()]at h;have S2:=S1.trans (y.trans s2);have R2:=R1.same (y.trans s2);clear hq b6 b7 Y s2 I y eq d0 hp g0;erw[⟨_,R,_,R,_,_,R,R,⟨(),()⟩,c1,m/5,_,R,h,Sh (PX ok O) (),Zqv nf,λz rs H3 s3 lz az ez=>?_⟩];erw[⟨_,R,z,rs,W,R,lz,az,by rw[ez];exact ad,λn b H4 s4 N4 B4=>?_⟩];erw[⟨_,R,z,rs,W,R,lz,az,by rw[ez];exact ad,λG E H5 s5 N5 B5=>?_⟩];have S4:=S2.trans (s3.trans s4);have R4:=R2.same (s3.trans s4);have W4:=hW.same S4;ext⟨rr,j0,_⟩ hW.ru;have nb:a.dr∉b.l:=λz=>PH (Ko.dK ((S2.trans s3) _ _ j0)) (B4.l _ z) R;have u1:a.dr∉E.l:=λz=>PH (Ko.dK (S4 _ _ j0)) (B5.l _ z) R;clear S2 R2 s3 s4 B4 h j0 az ez ad R1 S1 hW;ext⟨dx,fs,f1,f2⟩ N4.ob;have c0:∀{H'},Zf H4 H'->Yb t H' n b W:=λs'=>N4.same s';erw[⟨_,R,_,t.ZL,_,_,R,c.Zne.ty c.ZK (s5 _ _ f1),c.Znf,_,R,Zk () ?_⟩];erw[⟨_,R,_,R,n,wd,a,b,W,W,R,c0 s5,nb,nf.ok,W4.same s5,nW,ok,R,R,.inl ⟨R,λH6 s6=>⟨_,R,Zk () ?_⟩⟩⟩];sleep 1;have I:=s5.trans s6;erw[⟨_,R,n,W,R,⟨b,c0 I⟩,nf.ok,nf.num,λH7 s7=>?_⟩];have y:=I.trans s7;have M7:=N5.same (s6.trans s7);clear s5 s6 s7 I N5;ext⟨h0,l1,S,m2⟩ M7.ob;erw[⟨_,R,G,h0,_,R,S,m2.n_add_rule,λx a0 nx nd o1=>?_⟩];have s8:=Xq nx (Xq nd (Zf.refl _) (.own x)) (.ins t.YJ a0 []);have m0:ZU (rc t) t.kf _ x .always:=.always (Zi (H:=upd H7 a0 (.own x)) (a:=x) (o:=.ins t.YJ a0 []));generalize upd (upd H7 a0 (.own x)) x (.ins t.YJ a0 [])=H8 at s8 m0 ⊢;clear nx nd o1;have n0:B9 W (.str (OL "newrules")) (some .always)=none:=Yg (Ql Zgo.1) (Yg (Zgn ok.r7 ()) (Yg R (Yg (SR (show W.ru.length<6 from by have:=ok.r3;lia)) R)));have x0:=nf.ok.addR n0 λr e=>by cases e;exact⟨trivial,(),()⟩
 erw[⟨G,E,W,.str (OL "newrules"),.ref x,some .always,R,M7.same s8,UP _ (),⟨⟨x,R,m0⟩,trivial,(),()⟩,λw hw=>D3 n0 hw,λ_ H9 s9 M9=>?_⟩];have T9:=D2 (y.trans s8) B5.r s9;clear s8 s9 m0 S m2 M7 y;ext⟨h0,l1,S,m2⟩ M9.ob;ext⟨d2,k1,k2⟩ W4.ob;ext⟨e1,v0,s0⟩ W4.st;erw[⟨_,R,G,h0,_,R,S,m2.n_add_trip,_,R,_,R,wd,_,R,by rw[<-k2.s];exact Xw.k (k:=Sum.inr (OL "stops")) (T9 _ _ k1),a.ds,e1,R,T9 _ _ v0,λln J=>?_⟩];rw[Ut (λkv x (f0:Yz H4 kv x)=>f0.1) s0];generalize f:upd H9 ln _=x1;have t0:=ZO J f;have d1:=ZM f;clear f J;have l2:(W.st.map ZT.nm).length=W.st.length:=Sv ..;have h2:=ok.s2;have M:=ok.s5;erw[⟨m,2,ln,W.st.map ZT.nm,R,d1,ok.sn,(),(),(),λcs l vs o2 X gl hl al co lc=>?_⟩];have X:=t0.trans X;have i0:C0 (addR W (.str (OL "newrules")) (some .always)) (.str (OL "newtrips")) (.str (OL "newrules"))=none:=Yg (Ql Zgo.2) (Yg (Zgn ok.p7 ()) (Yg (VI (nm:=Yl.nm) (by show OL "newrules" ∈ (W.ru++[(⟨OL "newrules",.always⟩:Yl)]).map Yl.nm;rw[SM];exact SH.mpr (.inr SE))) (Yg (SR (show W.tp.length<10 from by have:=ok.p3;lia)) R)));erw[⟨G,E,_,.str (OL "newtrips"),.str (OL "newrules"),_,cs,l,vs,R,M9.same X,UP _ (),.str _,hl,al,co,(),(),λw hw=>D3 i0 hw,λ_ e2 y0 w0=>?_⟩];have o0:=D2 (T9.trans X) B5.p y0;clear t0 X y0 T9 M9 hl al gl d1 k1 k2 v0 s0;erw[⟨_,R,n,W,R,⟨b,c0 o0⟩,nf.ok,nf.num,λr2 q0=>⟨_,R,R,_,R,Zk (by rw[SR R];lia) ?_⟩⟩];have e0:=o0.trans q0;erw[⟨_,R,_,R,n,wd,a,b,W,W,R,c0 e0,nb,nf.ok,W4.same e0,nW,ok,R,R,.inl ⟨R,λw1 k0=>⟨_,R,Zk () ?_⟩⟩⟩];have l0:=e0.trans k0;erw[⟨_,R,_,R,G,wd,a,E,_,W,R,w0.same (q0.trans k0),u1,x0.addT i0 co () (),W4.same l0,nW,ok,R,R,.inr ⟨?_,λn1 a1=>⟨_,R,Zk () ?_⟩⟩⟩];show(W.ru++[_]).length≠W.ru.length;rw[Su,Sw];lia;have p0:=l0.trans a1;have v1:=R4.same p0;have j1:=S4.trans p0;clear o0 e0 l0 q0 k0 a1 w0 n0 i0 x0 S m2 f1 f2 R4 p0;ext⟨U,g0,hp,d0⟩ v1.get;erw[⟨zL9 R,λpr T=>?_⟩];generalize f:upd n1 pr _=u0;have b0:=ZO T f;have b7:u0 pr=some (.lst (Vf [])):=ZM f;clear f T;have lV:(U.map V.ref).length=5:=(Sv ..).trans g0;erw[⟨_,R,p,R,⟨_,Zd.of (b0 _ _ hp)⟩,Qp (K:=K) (a:=p) (xs:=U.map V.ref) (λi v H'=>Zf u0 H'/\∃(u:Addr) (B:Option V),H' u=some (.lst (Vf (((List.range i).map (WD W)).flatten)))/\v=[some (.ref wd),some (.int m),some (.ref p),some (.ref Q),some (.ref c1),B,some (.str z),some (.ref n),some (.ref G),some (.str (QP W)),some (.ref u)]) ⟨Zf.refl _,pr,_,b7,R⟩ (λj v H' _ ⟨k,_⟩=>Zd.of (k _ _ (b0 _ _ hp))) ?_ ?_⟩];rintro i z0 v H2 C ⟨s2,u,B,h,rfl⟩;sleep 101;rw[Ob]at C;obtain⟨pj,Z,rfl⟩:=Og.mp C;have il:=(Sr.mp Z).1;have hj:=s2 _ _ (b0 _ _ (d0 i _ Z));erw[⟨_,R,_,R,u,_,_,_,R,R,h,hj,?_,λpn J=>⟨s2.trans (Zw J _),pn,_,?_,R⟩⟩];unfold Vf;rw[Sv,Sv,Sv,Sv];have h1:=PX ok (List.range i);have h2:=PV ok i;rw[List.length_range]at h1;exact Sh (show _<=100 by lia) ();rw[Zi,Ol,SM,List.flatten_append,List.map_singleton,List.flatten_singleton];unfold Vf;rw[SM,SM];rintro v H2 ⟨s2,u,B,h,rfl⟩;rw[lV]at h;have h:H2 u=some (.lst ((Y3 W).map V.str)):=by rw[h,<-Zgm];rfl
 have zl:∀z∈Y3 W,z.length<=110000:=PB nf.ok (PD nf.ok nf.num);have lr:(Y3 W).length<=39:=by
  have:=nf.ok.s8;have:=nf.ok.w12;have:=nf.ok.r6;have:=nf.ok.t3;have:=nf.ok.p10;unfold Y3;simp only[Su,Sv];lia
 erw[⟨_,R,R,_,R,u,R,⟨_,Zd.of h⟩,QQ (λz=>z++OL "\n") h (by have:=Qn (nm:=id) (Y3 W);rw[List.map_id]at this;exact this) () (λz0 z mz ev H' s' Q' q'=>?_) λy1 p2 s1 i1=>?_⟩];subst ev;exact⟨_,R,_,_,R,R,Sh (Nat.add_le_add_right (zl z mz) _) (),q' H' (Zf.refl _)⟩;erw[⟨_,p2,(Y3 W).map λz=>z++OL "\n",R,R,Zd.of Zi,?_,R,?_⟩];have M:(OL "").length=0:=by lia
 erw[Sh (Mw (m:=110001) λx C=>?_) ?_];obtain⟨z,hz,rfl⟩:=SK.mp C;have h6:(OL "\n").length<=1:=by lia
 exact Q4 (zl z hz) h6;rw[M,Sv];exact Sh (Nat.mul_le_mul_left _ lr) ();rw[show decide (V.str (QP W)=V.str (Str.join (OL "") ((Y3 W).map λz=>z++OL "\n")))=true from SR R];exact q _ ((j1.trans b0).trans ((s2.trans s1).trans (Zw i1 _)))
structure Wx where
 wd:Addr
 a:NA
 W:ZF
def QX(H:Hp)(v:V)(x:Wx):Prop:=v=.ref x.wd/\YU H x.wd x.a x.W/\(∃c,J7 c x.wd x.a)/\UV x.W
def QX.same(s:Zf H c)(h:QX H v x):QX c v x:=⟨h.1,h.2.1.same s,h.2.2⟩
def KY(t:Ya)(H:Hp)(v:V)(x:Wx):Prop:=∃n b,v=.ref n/\Yb t H n b x.W/\x.a.dr∉b.l
def KY.same(s:Zf H c)(h:KY t H v x):KY t c v x:=let ⟨n,b,e,o,d⟩:=h;⟨n,b,e,o.same s,d⟩
inductive sp_law(K:Oy)(vs:List V)(H:Hp)(Q:VK)(_e3:XK):Prop|mk (a:Addr) (ns:OF) (_:vs=[.ref a]) (_:Zd K H a (ns.map V.int)) (_:ns.length<=63) (_:∀H',Q (.bl true) H')
def Zqy(c:Zu K mg t):Zo P w K mg base Zr 100 t.Zdo t.wD ["_law_script"] (sp_law K):=by
 erw[c.uP.F.ok Qc () λk1 A outer s H vs c1 m1 f h=>?_];ext⟨X,ns,rfl,hS,hlen,q⟩ h;erw[⟨_,(Zh (U5 (i0:=1) (cl:=[(OL "_law_script",s.heap.objs.size+1)]) (N:=["_law_k","_law_script"]) (fr:=[none,some 0]) Qc.nd R (Or.inl R) R (Vj R c.WP (Zc Za)) R () R () ⟨⟨R,Or.inl R,Or.inl R,_,R,R⟩,trivial⟩ ⟨R,trivial⟩ R (λ_ _ _ _ _=>(ZJ 0 (show List.Nodup (["_law_k","_law_script"]:OD) by lia))) (λ_ _ _ _ _=>YM) (λ_ _ _ _ _=>(Zt c.ZeB (Zp8 c) f Zn (Zc (Zt c.V3 (Up c) f Zn (ZB (Zt c.uL (Zfj c) f Zn (ZB (pv 1) (pv 0))) (pv 0))))))) (Zh (U5 (i0:=2) (cl:=[]) (N:=["_law_world_here"]) (fr:=[none]) Qc.nd R (Or.inl R) R (YP (pv 1)) R () R () trivial trivial R (λ_ _ _ _ _=>(ZJ 0 (show List.Nodup (["_law_world_here"]:OD) by lia))) (λ_ _ _ _ _=>YM) (λ_ _ _ _ _=>(Zt c.ZeC (Zqc c) f Zn (Zc (pv 0))))) (Zh (Xr (kI (Y9 (Yk Za Za Za))) (ZJ 3 Qc.nd) (Zh (ZR 4 Qc.nd (Ye Xz)) (Zh (Xr (YP (Zt c.uO (Zge c) f Zn (Zc (Zq Yf (pv 1) (pv 3))))) (ZJ 5 Qc.nd) (Ze (ZR 4 Qc.nd (Zj Ub (pv 4) (pv 5))))) (Zh (ZR 6 Qc.nd (Zt c.G1 (Mx c) f Zn (Zc (Zq Yf (pv 2) (pv 3))))) (Zh (ZC (PW.pt (Vh (Yn (Ym (Yp VW c.WO WM (ZB (pv 6) (VX R c.Xc Xb))))) (VO (ZV Ux (pv 6) (YQ PySem.F.plainAttrs_str PySem.F.slot_str_join PySem.F.type_str_join WJ Zl (Zc (YZ (cl:=[]) (N:=["_law_row"]) (fr:=[none]) R (YP (pv 4)) R () R () trivial trivial R (λ_ _ _ _ _=>(ZJ 0 (show List.Nodup (["_law_row"]:OD) by lia))) (λ_ _ _ _ _=>YM) (λ_ _ _ _ _=>(Zj Yo (pv 0) Zl))))))))) (Ze (Zp Xy)) ZE) (Ze (ZC (Yn (Ym (Zt c.LO (PU c) f Zn (ZB (Zq Yf (pv 2) (pv 3)) (Zq Yf (pv 1) (pv 3)))))) (Ze (Zp Xy)) ZE))))))) (Zh (Xr (Vj R c.WP (Zc Za)) (ZJ 3 Qc.nd) (Ze (ZC (Yn (Ym (Zt c.ZeE (Zqx c) f Zn (ZB (Zq Yf (pv 1) (pv 3)) (Zt c.V3 (Up c) f Zn (ZB (Zt c.uL (Zfj c) f Zn (ZB (pv 0) (Zj Yw Za (pv 3)))) Za)))))) (Ze (Zp Xy)) ZE))) (Ze (Zp (Vi (Xl Z8 (Zt c.G1 (Mx c) f Zn (Zc (Rf c.qL (jD c) (f.mono ()) R c.Pi c.Pa.b .nil Zn))) Zl (XD _)) (Vi (Xl Z8 (Zt c.G1 (Mx c) f Zn (Zc (Zt c.LN (PL c) f Zn (Zc Zl)))) Zl (XD _)) (WF (Xl (Zin f.units0) (Vo (Zt c.LN (PL c) f Zn (Zc Zl)) c.ZK c.Qk.me (Py c) (f.mono ()) c.Qk.b .nil Zn) (Ye Xz) (XD _))))))))))),?_⟩];sleep 5;erw[⟨_,R,(),(),Qu (n:=2) (λi Y g y=>Zf H y/\∃Xs:List Wx,Xs.length=i/\Al (QX y) Y Xs/\∃v,g=[v,some (.ref X)]) ⟨Zf.refl _,[],R,.nil,_,R⟩ () ?_ ?_⟩];rintro i Y g H1 hi ha ⟨s1,Xs,lX,E,v,rfl⟩;dsimp only[YA,Y4];rw[SW R,show(0:Int)+(i:Int)=(i:Int) by lia];erw[⟨_,R,_,R,X,ns,(i:Int),R,s1.seq hS,(),λc0=>⟨_,R,c0,(i:Int),R,(),(),Wi c0 (i:Int),R,jA _ _,λwd a W H2 s2 G C ok=>?_⟩⟩];exact⟨by rw[Su,Sw];lia,s1.trans s2,Xs++[⟨wd,a,W⟩],by rw[Su,Sw,lX],(E.imp λ_ _=>QX.same s2).snoc ⟨R,C,⟨_,G⟩,ok⟩,_,R⟩;rintro Y g H1 ha ⟨s1,Xs,lX,E,v,rfl⟩ lw gw;generalize u:upd H1 lw _=H2;have s2:=ZO gw u;have c2:=ZM u;clear u gw;have S2:=s1.trans s2;have E:=E.imp λ_ _=>QX.same s2;have lX:Xs.length=2:=lX;have la:=E.length;clear s1 s2;erw[⟨_,R,lw,R,⟨_,Zd.of c2⟩,jN (KY t) KY.same c2 E () (λv x mx sx H3 s3 Q' q'=>?_) λan H3 ln s3 _ _ j0 gn=>?_⟩];ext⟨rfl,C,⟨h0,G⟩,ok⟩ sx;erw[⟨_,R,x.wd,x.a,x.W,h0,R,C.same s3,G,ok,λn b H4 s4 O nN=>q' _ _ s4 ⟨n,b,R,O,λz=>?_⟩⟩];ext⟨rr,u0,_⟩ C.ru;exact PH (Ko.dK (s3 _ _ u0)) (nN.l _ z) R;generalize u:upd H3 ln _=H4;have s4:=ZO gn u;have c4:=ZM u;clear u gn;have T4:=s3.trans s4;have S4:=S2.trans T4;have l0:=j0.imp λ_ _=>KY.same s4;have cw:=T4 _ _ c2;have aw:=E.imp λ_ _=>QX.same T4;clear j0 s3 s4 c2 E T4 S2;have d1:=l0.length;have pick:∀j:Nat,j<2->∃x vw n b,Y[j]? = some vw/\an[j]? = some (.ref n)/\QX H4 vw x/\Yb t H4 n b x.W/\x.a.dr∉b.l:=λj T=>by
  have M:Y[j]? = some Y[j]:=Ss ();have S:an[j]? = some an[j]:=Ss ();obtain⟨x,ex,Z⟩:=aw.get M;obtain⟨v0,ey,n,b,en,O,nd⟩:=l0.get S;obtain rfl:x=v0:=So (ex.symm.trans ey);exact⟨x,_,n,b,M,by rw[S,en],Z,O,nd⟩
 have ap:∀{x:Wx},(∃h0,J7 h0 x.wd x.a)->PQ x.wd x.a:=λ⟨_,h⟩=>⟨h.ns,h.nr,h.nt,h.np⟩;erw[⟨zL9 R,λpt gt=>?_⟩];generalize u:upd H4 pt _=H5;have s5:=ZO gt u;have c5:H5 pt=some (.tup [.int 0,.int 1,.int 0]):=ZM u;clear u gt;erw[⟨pt,R,⟨_,Zg.of c5⟩,Zhd (K:=K) (a:=pt) (xs:=[.int 0,.int 1,.int 0]) (λi g y=>Zf H5 y/\∃Q I B D:Option V,g=[some (.ref X),some (.ref lw),some (.ref ln),Q,I,B,D]) ⟨Zf.refl _,_,_,_,_,R⟩ (λi g y _ ⟨k,_⟩=>Zg.of (k _ _ c5)) ?_ ?_⟩];rintro i v g H6 hv ⟨k6,Q,I,B,D,rfl⟩;sleep 105;obtain⟨j,T,rfl⟩:∃j:Nat,j<2/\v=.int (j:Nat):=by
  match i,hv with
  |0,e=>cases e;exact⟨0,(),R⟩
  |1,e=>cases e;exact⟨1,(),R⟩
  |2,e=>cases e;exact⟨0,(),R⟩
 obtain⟨x,vw,n,b,M,S,⟨rfl,C,G,ok⟩,O,nd⟩:=pick j T;have nf:=ok.nf;have T6:=s5.trans k6;erw[⟨zL9 R,λpr gr=>?_⟩];generalize u:upd H6 pr _=H7;have s7:=ZO gr u;have b7:H7 pr=some (.lst (Vf [])):=ZM u;clear u gr;have U:=T6.trans s7;erw[⟨_,R,_,R,lw,_,_,_,R,R,Zd.of (U _ _ cw),Wt M,x.wd,x.a,x.W,R,C.same U,ap G,ok,λp H8 s8 R8=>?_⟩];ext⟨ps,q0,hp,s0⟩ R8.get;have lV:(ps.map V.ref).length=5:=(Sv ..).trans q0;erw[⟨p,R,⟨_,Zd.of hp⟩,Qp (K:=K) (a:=p) (xs:=ps.map V.ref) (λi g y=>Zf H8 y/\∃(J:Addr) (B:Option V),y J=some (.lst (Vf (((List.range i).map (WD x.W)).flatten)))/\g=[some (.ref X),some (.ref lw),some (.ref ln),some (.int (j:Nat)),some (.ref J),B,D]) ⟨Zf.refl _,pr,_,s8 _ _ b7,R⟩ (λj g y _ ⟨k,_⟩=>Zd.of (k _ _ hp)) ?_ ?_⟩];rintro i v g H9 Z ⟨s9,J,B,L,rfl⟩;sleep 101;rw[Ob]at Z;obtain⟨pj,ej,rfl⟩:=Og.mp Z;have il:=(Sr.mp ej).1;have T:=s9 _ _ (s0 i _ ej);erw[⟨_,R,_,R,J,_,_,_,R,R,L,T,?_,λpn gn=>⟨s9.trans (Zw gn _),pn,_,?_,R⟩⟩];unfold Vf;rw[Sv,Sv,Sv,Sv];have h1:=PX ok (List.range i);have h2:=PV ok i;rw[List.length_range]at h1;exact Sh (show _<=100 by lia) ();rw[Zi,Ol,SM,List.flatten_append,List.map_singleton,List.flatten_singleton];unfold Vf;rw[SM,SM];rintro g H9 ⟨s9,J,i1,L,rfl⟩;rw[lV]at L;have L:H9 J=some (.lst ((Y3 x.W).map V.str)):=by rw[L,<-Zgm];rfl
 have T9:=U.trans (s8.trans s9);have K9:=k6.trans (s7.trans (s8.trans s9));have zl:∀z∈Y3 x.W,z.length<=110000:=PB nf.ok (PD nf.ok nf.num);have lr:(Y3 x.W).length<=39:=by
  have:=nf.ok.s8;have:=nf.ok.w12;have:=nf.ok.r6;have:=nf.ok.t3;have:=nf.ok.p10;unfold Y3;simp only[Su,Sv];lia
 erw[⟨_,R,_,R,ln,_,_,_,R,R,Zd.of (T9 _ _ c4),Wt S,n,x.W,R,⟨b,O.same T9⟩,nf.ok,nf.num,λg0 f0=>?_⟩];erw[⟨_,R,.str (QP x.W),"str",_,_,R,(Kd.str (H:=g0) (QP x.W)).ty,E5 (Kd.str (H:=g0) (QP x.W)),_,R,Zk () ?_⟩];erw[⟨_,R,R,_,R,J,R,⟨_,Zd.of (f0 _ _ L)⟩,QQ (λz=>z++OL "\n") (f0 _ _ L) (by have:=Qn (nm:=id) (Y3 x.W);rw[List.map_id]at this;exact this) () (λv z mz ev y s' Q' q'=>?_) λz0 p2 y0 o0=>?_⟩];subst ev;exact⟨_,R,_,_,R,R,Sh (Nat.add_le_add_right (zl z mz) _) (),q' y (Zf.refl _)⟩;erw[⟨_,p2,(Y3 x.W).map λz=>z++OL "\n",R,R,Zd.of Zi,?_,R,_,R,Zk (by rw[SR (show V.str (QP x.W)=V.str (Str.join (OL "") ((Y3 x.W).map λz=>z++OL "\n"))from R)];lia) ?_⟩];have h5:(OL "").length=0:=by lia
 erw[Sh (Mw (m:=110001) λx Z=>?_) ?_];obtain⟨z,hz,rfl⟩:=SK.mp Z;have h6:(OL "\n").length<=1:=by lia
 exact Q4 (zl z hz) h6;rw[h5,Sv];exact Sh (Nat.mul_le_mul_left _ lr) ();sleep 1;have k0:=f0.trans (y0.trans (Zw o0 (.lst (((Y3 x.W).map λz=>z++OL "\n").map V.str))));have d0:=T9.trans k0;exact⟨_,R,_,R,ln,_,_,_,R,R,Zd.of (d0 _ _ c4),Wt S,_,R,_,R,lw,_,_,_,R,R,Zd.of (d0 _ _ cw),Wt M,n,x.wd,x.a,b,x.W,x.W,R,O.same d0,nd,nf.ok,C.same d0,ap G,ok,R,R,.inl ⟨R,λl1 x0=>⟨_,R,Zk () ⟨K9.trans (k0.trans x0),_,_,_,_,R⟩⟩⟩⟩;rintro g H6 ⟨k6,Q,I,B,D,rfl⟩;have T6:=s5.trans k6;have S6:=S4.trans T6;erw[⟨_,R,(),(),Q0 (n:=2) (λi g y=>Zf H6 y/\∃Q I B D:Option V,g=[some (.ref X),some (.ref lw),some (.ref ln),Q,I,B,D]) ⟨Zf.refl _,_,_,_,_,R⟩ ?_ ?_⟩];rintro j g H7 T ⟨k7,Q,I,B,D,rfl⟩;obtain⟨x,vw,n,b,M,S,⟨rfl,C,G,ok⟩,O,nd⟩:=pick j T;have U:=T6.trans k7;rw[show(0:Int)+(j:Int)=(j:Int) by lia];exact⟨_,R,_,R,lw,_,_,_,R,R,Zd.of (U _ _ cw),Wt M,_,R,_,R,_,_,R,R,X,ns,_,R,(S6.trans k7).seq hS,(),λc0=>⟨c0,5,R,(),(),x.wd,x.a,x.W,Wi c0 5,R,C.same U,ap G,ok,λH8 s8=>⟨_,R,Zk () ⟨k7.trans s8,_,_,_,_,R⟩⟩⟩⟩;rintro g H7 ⟨k7,Q,I,B,D,rfl⟩;intro n dx nn n0 b1;erw[⟨n,H7,R,nn,Wy (Zw n0 _) nn _,⟨dx,Zi⟩,λH8 b S8 t0 hB=>⟨R,?_⟩⟩];have b0:NF ⟨[],[],[],[],[]⟩:=⟨⟨(),.nil,(),(),(),(),.nil,(),(),.nil,(),(),.nil,()⟩,(),(),(),()⟩;have e0:QP ⟨[],[],[],[],[]⟩=OL "" := by lia
 erw[⟨n,_,R,⟨b,t0⟩,b0.ok,b0.num,λH9 s9=>?_⟩];rw[e0];erw[⟨R,?_⟩];erw[⟨_,R,Zy (SR R) ?_⟩];erw[⟨OL "",[none],⟨[],[],[],[],[]⟩,R,(),by rw[show Zs (OL "")=[] by lia];exact .cons C6 .nil,.nil,λn2 b2 g0 f0 p0 _=>?_⟩];erw[⟨n2,_,R,⟨b2,p0⟩,b0.ok,b0.num,λn1 a1=>?_⟩];rw[e0];erw[⟨R,_,R,Zy (SR R) ?_⟩];erw[⟨OL " # \n\n",[none,none,none],⟨[],[],[],[],[]⟩,R,(),by rw[show Zs (OL " # \n\n")=[32,35,32,10,10] by lia];exact .cons ⟨1,0,[35,32],R,.inr ⟨_,R⟩,λh=>nomatch h⟩ (.cons C6 (.cons C6 .nil)),.nil,λn3 b3 j1 o1 m0 _=>?_⟩];ext⟨w0,p1,f1,f2⟩ m0.ob;erw[⟨n3,w0,_,R,f1,f2.n_stops,n3,_,R,⟨b3,m0⟩,λl gl=>⟨zL9 R,λl2 r0=>?_⟩⟩];exact⟨l,l2,_,_,R,R,Zd.of (Zw r0 _ _ _ Zi),Zd.of Zi,R,R,q _⟩
end

end K08
local macro_rules|`(command|#where)=>do
 let n:=`PySem.Challenge
 let f(k:String)(i:Nat):=Lean.mkIdent (.str `PySem.W.Fast s!"tw{((n.str "cw_roadbook_k08_texts_told_and_read_holds").str s!"{k}{i}").hash}")
 let x:=(Array.range 1256).map (f "o_")++#[39,1216].map (f "heap_")++#[49,229,272,340,354,408,449,499,542,592,642,692,770,798,1048,1128,1209].map (f "sts_")++#[63,78,93,108,123,138,153,168,183,198,213,228,271,339,353,407,448,498,541,591,641,691,769,797,963,1044,1127,1208,1215].map (f "tree_")++#[39].map (f "view_")
 return Lean.mkNullNode (←x.mapM λi=>`(theorem $i:ident:True:=trivial))
#where
def PySem.W.Fast.tw6648676896566207024:=0
open PySem PySem.W PyProof.Rows
local macro_rules|`(tactic|rfl')=>`(tactic|first|exact L2.on0 λ_ _ _ _ _ _=>rfl|exact L2.ZZ λ_ _ _ _ _ _ _=>rfl|exact L2.YN λ_ _ _ _ _ _ _ _=>rfl|exact L2.UI λ_ _ _ _ _ _ _ _ _=>rfl|exact L2.LC λ_ _ _ _ _ _ _ _ _ _=>rfl|exact L2.on5 λ_ _ _ _ _ _ _ _ _ _ _=>rfl)
set_option maxRecDepth 100000 in
set_option maxHeartbeats 0 in
theorem PySem.Challenge.cw_roadbook_k08_texts_told_and_read_holds : PySem.Challenge.rw_roadbook_k08_texts_told_and_read.Holds := by
 w_on;o_law;k_head;(case hw=>w_witness2)
 k_fill
 refine L2.Zh7 (l:=PySem.Challenge.rw_roadbook_k08_texts_told_and_read) (n:=63) (k:=100) (x := "_law_script") (CX:=L2.Zr) (sp:=K08.sp_law) rfl (by lia) rfl ⟨rfl,by lia,by lia,rfl⟩ (fun w h Y=>PySem.W.kIn_of Y) ?F (fun _ _ a ns hl _ hS=>⟨a,ns,rfl,hS,hl,fun _=>rfl⟩) fun _ _ _ _ z=>z
 case F =>
  intro w mg fa h KX G hmg
  have T:∃t,K08.Zu (L2.gR KX) mg t:=by
   dsimp only[L2.gR]
   apply Exists.intro
   case' w=>constructor
   case h=>
    constructor;all_goals try dsimp only
    iterate 21 focus refine' W.mg_of KX G ?_;k_is
    iterate 16 focus refine' W.mg_none_of KX G ?_;k_is
    iterate 25 focus apply Exists.intro;case h=>refine' W.mg_of KX G ?_;k_is
    iterate 56 focus refine' L2.Z2 KX G ⟨?aa,L2.gS ?bb ?cc ?dd⟩ (by rfl');case aa|bb|cc|dd=>k_is
    iterate 55 focus refine' L2.Z6 ⟨⟨?aa,?bb,?cc⟩,L2.gS ?dd ?ee ?ff⟩ (by rfl');case aa|bb|cc|dd|ee|ff=>k_is
    iterate 7 focus constructor<;>k_is
    (focus show W.findIn _ _ _=_;k_is)
    iterate 4 focus constructor<;>k_is
    iterate 3 focus show W.findIn _ _ _=_;k_is
    iterate 5 focus constructor<;>k_is
    iterate 3 ((focus show W.findIn _ _ _=_;k_is);(focus show W.findIn _ _ _=_;k_is);(focus constructor<;>k_is);(focus constructor<;>k_is);(focus constructor<;>k_is);(focus constructor<;>k_is))
    iterate 2 focus show W.findIn _ _ _=_;k_is
    iterate 2 focus constructor<;>k_is
    iterate 5 focus show W.findIn _ _ _=_;k_is
    iterate 7 ((focus constructor<;>k_is);(focus kit_is))
    iterate 6 focus kit_is
    (focus constructor<;>k_is)
    iterate 7 focus kit_is
    iterate 9 ((focus refine' ⟨?_⟩;k_exc);(focus refine' L2.U9 ?aa ?bb ?cc ?dd ?ee ?ff ?gg ?hh;(case aa|bb|cc|dd|ee|ff|gg|hh=>k_is));(focus refine' L2.Qa<;>kit_is);(focus kit_is);(focus kts_exm))
    (focus refine' ⟨?_⟩;k_exc)
    try exact rfl
  obtain⟨t,T⟩:=T
  have e0:=hmg.symm.trans T.uP.m
  cases e0
  refine' ⟨t.wD,?b,fun base kb nb=>K08.Zqy T⟩
  obtain⟨oc,od,kV,doc,pm,an,cdv,ct,osl,e,_,_⟩:=T.uP.F.ex
  rw[e]
  exact fun s u=>.of_eq rfl
