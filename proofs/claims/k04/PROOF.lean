import PyProof.Rows.All
import Wide.All
import OpenK.AllK
import Wide.FinOn
import Lean
import PyProof.EqAt
import PyProof.EqKinds
import PyProof.TupleCall
import KE.KIntText
import PyProof.CompFree
import PyProof.P3Eq
import PyProof.NeData
import PyProof.StrLawsTight
import PyProof.StrLawsReplace
import PyProof.StrCalls2
import KE.IntTextLaws
import KE.KMinBuiltin
import PyProof.WalkInts
import PyProof.Rows.CallKwBuiltin
import PyProof.Rows.CallKw2
import PyProof.SetScanFacts
import PyProof.SetKind
import PyProof.DictStraight
import PyProof.Rows.SetFrom
import PyProof.DictIter
import PyProof.Walks
import PyProof.FactsAll.set_1
import PyProof.Rows.TupIn
import PyProof.CollectWalk
import PyProof.FactsAll.set_2
import PyProof.Rows.SortWalk
import PyProof.MeetsStr
import PyProof.StrLaws
import PyProof.StrBlockL
import PyProof.ListRange
import PyProof.ZipIter
import PyProof.EnumMake
import PyProof.Rows.EnumRows
import PyProof.Rows.FactsT2
import PyProof.DictWalks
import PyProof.Conv_int_bool
import KE.KRevSl
import PyProof.StrWalks
import KE.KTryOn
import KE.KRevIter
import PyProof.Draws
import PyProof.Rows.StrCut
import PyProof.StrOps2
import PySem.Challenge.RW_roadbook_k04_rules_as_texts
noncomputable section
set_option maxRecDepth 100000
set_option maxHeartbeats 4000000
set_option Elab.async false
set_option linter.all false
namespace L2
open PySem PySem.Spec PyProof.Rows
abbrev YY:=Sum Int Str
def Zf7:YY→Value→Bool
 | .inl k,v=>Value.isInt k v
 | .inr x,v=>Value.isStrOf x v
def Zku (w:World):YY→Int
 | .inl k=>hashInt k
 | .inr x=>hashStr w x
theorem Vd:∀ {k:YY} {v:Value},Zf7 k v=true→(∃ i t,k=Sum.inl i∧v=Value.int i t)∨(∃ x t,k=Sum.inr x∧v=Value.str x t)
 | .inl i,v,h=>by
  obtain ⟨t,e⟩:=Value.isInt_shape (k:=i) (v:=v) h
  exact .inl ⟨i,t,rfl,e⟩
 | .inr x,v,h=>by
  obtain ⟨t,e⟩:=Value.isStrOf_shape (x:=x) (v:=v) h
  exact .inr ⟨x,t,rfl,e⟩
theorem Zkv (a b:Int):decide ((Sum.inl a:YY)=Sum.inl b)=(a == b):=by
 by_cases e:a=b
 ·subst e;simp
 ·have h:¬ (Sum.inl a:YY)=Sum.inl b:=fun q=>e (Sum.inl.inj q)
  rw [decide_eq_false h]
  exact (beq_eq_false_iff_ne.mpr e).symm
theorem Zkw (a b:Str):decide ((Sum.inr a:YY)=Sum.inr b)=decide (a=b):=by
 by_cases e:a=b
 ·subst e;simp
 ·have h:¬ (Sum.inr a:YY)=Sum.inr b:=fun q=>e (Sum.inr.inj q)
  rw [decide_eq_false h,decide_eq_false e]
theorem Zkx (a:Int) (b:Str):decide ((Sum.inl a:YY)=Sum.inr b)=false:=decide_eq_false (fun q=>nomatch q)
theorem Zky (a:Str) (b:Int):decide ((Sum.inr a:YY)=Sum.inl b)=false:=decide_eq_false (fun q=>nomatch q)
def Zf8 (prog:Program) (w:World):PySem.KeyKind prog w YY where
 is:=Zf7
 hash:=Zku w
 inj:=fun v a b ha hb=>by
  rcases Vd ha with ⟨i,t,rfl,rfl⟩ | ⟨x,t,rfl,rfl⟩
  ·rcases Vd hb with ⟨j,u,rfl,e⟩ | ⟨y,u,rfl,e⟩
   ·injection e with e1 _;rw [e1]
   ·exact nomatch e
  ·rcases Vd hb with ⟨j,u,rfl,e⟩ | ⟨y,u,rfl,e⟩
   ·exact nomatch e
   ·injection e with e1 _;rw [e1]
 byValue:=fun k v h=>by
  rcases Vd h with ⟨i,t,rfl,rfl⟩ | ⟨x,t,rfl,rfl⟩ <;> rfl
 pyHash:=fun hv h=>by
  rcases Vd hv with ⟨i,t,rfl,rfl⟩ | ⟨x,t,rfl,rfl⟩
  ·exact wpAny_pyHash_int h
  ·exact wpAny_pyHash_str h
 eqBool:=fun hu hv h=>by
  rcases Vd hu with ⟨i,t,rfl,rfl⟩ | ⟨x,t,rfl,rfl⟩
  ·rcases Vd hv with ⟨j,u,rfl,rfl⟩ | ⟨y,u,rfl,rfl⟩
   ·rw [Zkv] at h;exact wpAny_eqBool_int h
   ·rw [Zkx] at h;exact SeqAt.EqAt.int_str i t y u _ _ _ _ h
  ·rcases Vd hv with ⟨j,u,rfl,rfl⟩ | ⟨y,u,rfl,rfl⟩
   ·rw [Zky] at h;exact SeqAt.EqAt.str_int x t j u _ _ _ _ h
   ·rw [Zkw] at h;exact wpAny_eqBool_str h
 «strs»:=fun k x t v h=>by
  rcases Vd h with ⟨i,u,rfl,e⟩ | ⟨y,u,rfl,e⟩
  ·exact nomatch e
  ·injection e with e1 _
   subst e1
   cases v <;> rfl
end L2
namespace L2
open PySem PySem.Spec PyProof.Rows
inductive V where
 | non | bl (b:Bool) | int (i:Int) | str (x:Str) | byt (b:Array UInt8) | flt (b:UInt64) | ref (a:Addr) | ty (n:String)
 deriving DecidableEq
def ZY:V→Value→Prop
 | .non,u=>u=Value.none
 | .bl b,u=>u=Value.bool b
 | .int i,u=>∃ t,u=Value.int i t
 | .str x,u=>∃ t,u=Value.str x t
 | .byt b,u=>∃ t,u=Value.bytes b t
 | .flt b,u=>∃ t,u=Value.float b t
 | .ref a,u=>u=Value.ref a
 | .ty n,u=>u=Value.type n
abbrev ZJ:List V→List Value→Prop:=Paired ZY
theorem ZJ.length {xs:List V} {us:List Value} (r:ZJ xs us):xs.length=us.length:=Paired.length r
theorem ZJ.get:∀ {xs:List V} {us:List Value} {i:Nat} {x:V},ZJ xs us→xs[i]? = some x→∃ u,us[i]? = some u∧ZY x u
 | _,_,_,_,.nil,e=>by simp at e
 | _,_,0,_,.cons r _,e=>by simp at e;subst e;exact ⟨_,rfl,r⟩
 | _,_,i+1,x,.cons _ t,e=>by
  obtain ⟨u,h1,h2⟩:=ZJ.get (i:=i) (x:=x) t (by simpa using e)
  exact ⟨u,by simpa using h1,h2⟩
theorem ZJ.set {x:V} {u:Value} (r:ZY x u):∀ {xs:List V} {us:List Value} (i:Nat),ZJ xs us→ZJ (xs.set i x) (us.set i u)
 | _,_,_,.nil=>.nil
 | _,_,0,.cons _ t=>.cons r t
 | _,_,i+1,.cons q t=>.cons q (ZJ.set r i t)
theorem ZJ.append:∀ {xs ys:List V} {us ws:List Value},ZJ xs us→ZJ ys ws→ZJ (xs++ys) (us++ws)
 | _,_,_,_,.nil,s=>s
 | _,_,_,_,.cons r t,s=>.cons r (ZJ.append t s)
theorem ZJ.take:∀ {xs:List V} {us:List Value} (n:Nat),ZJ xs us→ZJ (xs.take n) (us.take n)
 | _,_,0,_=>.nil
 | _,_,_+1,.nil=>.nil
 | _,_,n+1,.cons r t=>.cons r (ZJ.take n t)
theorem ZJ.drop:∀ {xs:List V} {us:List Value} (n:Nat),ZJ xs us→ZJ (xs.drop n) (us.drop n)
 | _,_,0,r=>r
 | _,_,_+1,.nil=>.nil
 | _,_,n+1,.cons _ t=>ZJ.drop n t
def WT:Option V→Option Value→Prop
 | some v,some u=>ZY v u
 | none,none=>True
 | _,_=>False
def KV {κ:Type}:List (κ×V)→List (κ×Value)→Prop:=Paired fun (p:κ×V) (q:κ×Value)=>p.1=q.1∧ZY p.2 q.2
def kV:YY→V
 | .inl i=>.int i
 | .inr x=>.str x
inductive HO where
  | lst (xs:List V)
  | tup (xs:List V)
  | dK (kvs:List (YY×V)) | dT (kvs:List (List YY×V))
  | set (S:Int→Bool) (n:Nat)
  | ins (C dx:Addr) (fs:List (Str×V))
  | own (x:Addr)
  | xd (fs:List (Str×V))
  | met (f x:Addr)
  | rng (lo hi:Int)
  | frz (o:Obj) (u:HO)
  | tbl (ps:Array Value)
  | ext (φ:Heap→Prop)
abbrev Hp:=Addr→Option HO
def upd (H:Hp) (a:Addr) (o:HO):Hp:=fun b=>if b=a then some o else H b
theorem Zf {H:Hp} {a:Addr} {o:HO}:upd H a o a=some o:=by unfold upd;rw [if_pos rfl]
theorem ZO {H:Hp} {a b:Addr} {o:HO} (h:b≠a):upd H a o b=H b:=by unfold upd;rw [if_neg h]
theorem YZ {H:Hp} {a b:Addr} {o:HO} (h:H a=some o) (h':H b=none):a≠b:=by
 intro e;subst e;rw [h] at h';cases h'
section
variable (P:Program) (w:World)
def Yp (H:Hp) (h:Heap) (a:Addr):HO→Prop
 | .lst xs=>xs.length≤sizeLine∧∃ (its:List Value) (n:Nat),ZJ xs its∧h.get? a=some { cls:=.type "list",data:=.seq its.toArray n }
 | .tup xs=>xs.length≤sizeLine∧∃ its:List Value,ZJ xs its∧IsTup h a its.toArray
 | .dK kvs=>kvs.length≤sizeLine∧(a == sysModules)=false∧∃ vs,KV kvs vs∧h.DictOf (Zf8 P w) a vs
 | .dT kvs=>kvs.length≤sizeLine∧(a == sysModules)=false∧∃ xs:List (List YY×Addr×Value),
   Paired (fun (p:List YY×V) (q:List YY×Addr×Value)=>p.1=q.1∧H q.2.1=some (.tup (p.1.map kV))∧ZY p.2 q.2.2) kvs xs ∧
   ∃ o es ep,h.get? a=some o∧o.ExactDict∧o.data=.dict es ep∧es.toList=xs.map (entryOfKey (tupleKind (Zf8 P w)))∧(xs.map (·.1)).Nodup
 | .set S n=>h.SetOf (intKind P w) a S n
 | .ins C dx fs=>H dx=some (.own a)∧fs.length≤1000∧dx≠a∧h.get? a=some (PySem.W.instObj C dx) ∧
   ∃ mA,h.Ns1 dx mA∧(∀ f,WT (fs.lookup f) (mA f))∧PySem.Within mA (fs.map (·.1))
 | .own _=>∃ o,h.get? a=some o
 | .xd fs=>∃ mA,h.Ns1 a mA∧∀ f,WT (fs.lookup f) (mA f)
 | .rng lo hi=>∃ t u v,h.get? a=some { cls:=.type "range",data:=.fields #[.int lo t,.int hi u,.int 1 v] }
 | .frz o u=>h.get? a=some o∧Yp H h a u
 | .tbl ps=>h.get? a=some { cls:=.none,data:=.fields ps }
 | .met f x=>h.get? a=some (PySem.W.methodObj (.ref f) (.ref x))
 | .ext φ=>φ h∧(∃ o,h.get? a=some o)∧∀ h1 h2:Heap,φ h1→(∀ o,h1.get? a=some o→h2.get? a=some o)→φ h2
def Yu (H:Hp) (h:Heap):Prop:=∀ a o,H a=some o→Yp P w H h a o
end
section
variable {P:Program} {w:World} {H H':Hp} {h h':Heap} {a:Addr} {o:HO}
theorem Yp.lt (x:Yp P w H h a o):a < h.objs.size:=by
 cases o with
 | lst xs=>obtain ⟨_,_,_,_,e⟩:=x;exact Heap.lt_size e
 | tup xs=>obtain ⟨_,_,_,p⟩:=x;exact p.lt
 | dK kvs=>obtain ⟨_,_,_,_,o,_,_,e,_⟩:=x;exact Heap.lt_size e
 | dT kvs=>obtain ⟨_,_,_,_,o,_,_,e,_⟩:=x;exact Heap.lt_size e
 | set S n=>obtain ⟨o,_,_,_,e,_⟩:=x;exact Heap.lt_size e
 | ins C dx fs=>obtain ⟨_,_,_,e,_⟩:=x;exact Heap.lt_size e
 | own y=>obtain ⟨_,e⟩:=x;exact Heap.lt_size e
 | xd fs=>obtain ⟨_,⟨_,_,_,e,_⟩,_⟩:=x;exact Heap.lt_size e
 | rng lo hi=>obtain ⟨_,_,_,e⟩:=x;exact Heap.lt_size e
 | frz ob u=>obtain ⟨e,_⟩:=x;exact Heap.lt_size e
 | tbl ps=>exact Heap.lt_size (show h.get? a=some _ from x)
 | met f y=>exact Heap.lt_size (show h.get? a=some _ from x)
 | ext φ=>obtain ⟨_,⟨_,e⟩,_⟩:=x;exact Heap.lt_size e
theorem Paired.mapP {α β:Type} {F G:α→β→Prop}:∀ {l₁:List α} {l₂:List β},Paired F l₁ l₂→(∀ a b,F a b→G a b)→Paired G l₁ l₂
 | _,_,.nil,_=>.nil
 | _,_,.cons r t,f=>.cons (f _ _ r) (Paired.mapP t f)
theorem Yp.stay (x:Yp P w H h a o) (k:∀ b u,(b=a∨H b=some (.own a))→h.get? b=some u→h'.get? b=some u)
  (ho:∀ b,H b=some (.own a)→H' b=some (.own a)) (ht:∀ b xs,H b=some (.tup xs)→H' b=some (.tup xs)):Yp P w H' h' a o:=by
 induction o with
 | lst xs=>obtain ⟨z,its,n,r,e⟩:=x;exact ⟨z,its,n,r,k _ _ (.inl rfl) e⟩
 | tup xs=>obtain ⟨z,its,r,ob,e,c⟩:=x;exact ⟨z,its,r,ob,k _ _ (.inl rfl) e,c⟩
 | dK kvs=>obtain ⟨z,y,vs,r,ob,es,ep,e,c⟩:=x;exact ⟨z,y,vs,r,ob,es,ep,k _ _ (.inl rfl) e,c⟩
 | dT kvs =>
  obtain ⟨z,y,xs,r,ob,es,ep,e,c⟩:=x
  exact ⟨z,y,xs,Paired.mapP r fun p q z=>⟨z.1,ht _ _ z.2.1,z.2.2⟩,ob,es,ep,k _ _ (.inl rfl) e,c⟩
 | set S n=>obtain ⟨ob,es,ep,t,e,c⟩:=x;exact ⟨ob,es,ep,t,k _ _ (.inl rfl) e,c⟩
 | ins C dx fs =>
  obtain ⟨d,z,ne,e,mA,⟨od,es,ep,e2,c⟩,r⟩:=x
  exact ⟨ho _ d,z,ne,k _ _ (.inl rfl) e,mA,⟨od,es,ep,k _ _ (.inr d) e2,c⟩,r⟩
 | own y=>obtain ⟨ob,e⟩:=x;exact ⟨ob,k _ _ (.inl rfl) e⟩
 | xd fs=>obtain ⟨mA,⟨od,es,ep,e,c⟩,r⟩:=x;exact ⟨mA,⟨od,es,ep,k _ _ (.inl rfl) e,c⟩,r⟩
 | rng lo hi=>obtain ⟨t,u,v,e⟩:=x;exact ⟨t,u,v,k _ _ (.inl rfl) e⟩
 | frz ob u ih=>obtain ⟨e,q⟩:=x;exact ⟨k _ _ (.inl rfl) e,ih q⟩
 | tbl ps =>
  have e:h.get? a=some { cls:=.none,data:=.fields ps }:=x
  show h'.get? a=some { cls:=.none,data:=.fields ps }
  exact k a _ (.inl rfl) e
 | met f y =>
  have e:h.get? a=some (PySem.W.methodObj (.ref f) (.ref y)):=x
  show h'.get? a=some (PySem.W.methodObj (.ref f) (.ref y))
  exact k a _ (.inl rfl) e
 | ext φ=>obtain ⟨p,⟨o,e⟩,st⟩:=x;exact ⟨st _ _ p fun o q=>k _ _ (.inl rfl) q,⟨o,k _ _ (.inl rfl) e⟩,st⟩
theorem Yu.lt (x:Yu P w H h) (e:H a=some o):a < h.objs.size:=(x a o e).lt
theorem Yu.fresh (x:Yu P w H h) (e:h.objs.size≤a):H a=none:=by
 cases q:H a with
 | none=>rfl
 | some u=>exact absurd (Nat.lt_of_lt_of_le (x.lt q) e) (Nat.lt_irrefl _)
theorem Yu.kept (x:Yu P w H h) (k:∀ b u,h.get? b=some u→h'.get? b=some u):Yu P w H h':=fun a o e =>
 (x a o e).stay (fun b u _ q=>k b u q) (fun _ q=>q) fun _ _ q=>q
theorem Yu.laid (x:Yu P w H h) (k:∀ b u,h.get? b=some u→h'.get? b=some u) (hp:h.objs.size≤a) (new:Yp P w (upd H a o) h' a o):Yu P w (upd H a o) h':=fun b u e=>by
 have hn:=x.fresh hp
 by_cases hb:b=a
 ·subst hb;rw [Zf] at e;cases e;exact new
 ·rw [ZO hb] at e
  exact (x b u e).stay (fun c v _ q=>k c v q) (fun c q=>by rw [ZO (YZ q hn)];exact q) fun c xs q=>by rw [ZO (YZ q hn)];exact q
end
def Rd (H:Hp) (a:Addr) (u:HO):Prop:=H a=some u∨∃ o,H a=some (.frz o u)
theorem Rd.ok {P:Program} {w:World} {H:Hp} {h:Heap} {a:Addr} {u:HO} (r:Rd H a u) (x:Yu P w H h):Yp P w H h a u:=by
 rcases r with r | ⟨o,r⟩
 ·exact x a u r
 ·obtain ⟨_,q⟩:=x a _ r
  exact q
def Mut:Option HO→Prop
 | some (.lst _)=>True
 | some (.dK _)=>True
 | some (.dT _)=>True
 | some (.set _ _)=>True
 | some (.ins _ _ _)=>True
 | some (.ext _)=>True
 | _=>False
section
variable {P:Program} {w:World} {H:Hp} {h h':Heap} {x e:Addr} {o':HO}
theorem Yu.write (ok:Yu P w H h) (mu:Mut (H x)) (he:e=x∨H e=some (.own x)) (k:∀ b u,b≠e→h.get? b=some u→h'.get? b=some u) (heo:∃ u,h'.get? e=some u)
  (new:Yp P w (upd H x o') h' x o'):Yu P w (upd H x o') h':=fun b u q=>by
 have nown:∀ c y,H c=some (.own y)→c≠x:=fun c y r z=>by subst z;rw [r] at mu;exact mu
 have ntup:∀ c xs,H c=some (.tup xs)→c≠x:=fun c xs r z=>by subst z;rw [r] at mu;exact mu
 by_cases hb:b=x
 ·subst hb;rw [Zf] at q;cases q;exact new
 ·rw [ZO hb] at q
  by_cases hbe:b=e
  ·have q':H b=some (.own x):=by
    rcases he with z | z
    ·exact absurd (hbe.trans z) hb
    ·rw [hbe];exact z
   rw [q] at q';cases q'
   obtain ⟨v,hv⟩:=heo
   exact ⟨v,by rw [hbe];exact hv⟩
  ·refine (ok b u q).stay (fun c v hc r=>k c v ?_ r) (fun c r=>by rw [ZO (nown c b r)];exact r) fun c xs r=>by rw [ZO (ntup c xs r)];exact r
   rcases hc with rfl | hc
   ·exact hbe
   ·rintro rfl
    rcases he with z | z
    ·exact nown c b hc z
    ·rw [hc] at z;cases z;exact hb rfl
end
structure Un (fs ex:List Addr) (H H':Hp) (h h':Heap):Prop where
 keep:∀ b o,h.get? b=some o→H b=none→b∉fs→b∉ex→h'.get? b=some o
 slot:∀ b o,h.get? b=some o→H b=none→b∈fs→b∉ex→∃ sl,h'.get? b=some { o with slots:=sl }
 free:∀ b o,h.get? b=some o→H b=none→b∉ex→H' b=none
 there:∀ b o,h.get? b=some o→b∉ex→∃ o',h'.get? b=some o'
 tups:∀ b xs,H b=some (.tup xs)→H' b=some (.tup xs)
 frzs:∀ b o u,H b=some (.frz o u)→H' b=some (.frz o u)
 tbls:∀ b ps,H b=some (.tbl ps)→∃ more,H' b=some (.tbl (ps++more))
section
variable {fs fs' ex ex':List Addr} {H H1 H2:Hp} {h h1 h2 h':Heap} {a x e:Addr} {o:HO}
theorem Un.any (u:Un fs ex H H1 h h1) {b:Addr} {ob:Obj} (q:h.get? b=some ob) (n:H b=none) (hx:b∉ex):∃ sl,h1.get? b=some { ob with slots:=sl }:=by
 by_cases hb:b∈fs
 ·exact u.slot b ob q n hb hx
 ·exact ⟨ob.slots,u.keep b ob q n hb hx⟩
theorem Un.kept (k:∀ b u,h.get? b=some u→h'.get? b=some u):Un fs ex H H h h' :=
 ⟨fun b ob q _ _ _=>k b ob q,fun b ob q _ _ _=>⟨ob.slots,k b ob q⟩,fun _ _ _ n _=>n,fun b ob q _=>⟨ob,k b ob q⟩,fun _ _ q=>q,fun _ _ _ q=>q,fun _ ps q=>⟨#[],by rw [q];simp⟩⟩
theorem Un.refl:Un fs ex H H h h:=Un.kept fun _ _ q=>q
theorem Un.laid (k:∀ b u,h.get? b=some u→h'.get? b=some u) (hp:h.objs.size≤a) (hn:H a=none):Un fs ex H (upd H a o) h h' where
 keep:=fun b u q _ _ _=>k b u q
 slot:=fun b u q _ _ _=>⟨u.slots,k b u q⟩
 free:=fun b u q n _=>by rw [ZO (Nat.ne_of_lt (Nat.lt_of_lt_of_le (Heap.lt_size q) hp))];exact n
 there:=fun b u q _=>⟨u,k b u q⟩
 tups:=fun b xs q=>by rw [ZO (YZ q hn)];exact q
 frzs:=fun b u xs q=>by rw [ZO (YZ q hn)];exact q
 tbls:=fun b ps q=>⟨#[],by rw [ZO (YZ q hn),q];simp⟩
theorem Un.write (mu:Mut (H x)) (he:e=x∨H e=some (.own x)) (k:∀ b u,b≠e→h.get? b=some u→h'.get? b=some u) (heo:∃ u,h'.get? e=some u):Un fs ex H (upd H x o) h h':=by
 have hx:∀ b,H b=none→b≠x:=fun b n z=>by subst z;rw [n] at mu;exact mu
 have hb:∀ b,H b=none→b≠e:=fun b n z=>by
  subst z
  rcases he with r | r
  ·exact hx b n r
  ·rw [n] at r;cases r
 have hm:∀ b u,H b=some u→¬ Mut (some u)→b≠x:=fun b u q nm z=>by subst z;rw [q] at mu;exact nm mu
 refine ⟨fun b u q n _ _=>k b u (hb b n) q,fun b u q n _ _=>⟨u.slots,k b u (hb b n) q⟩,fun b u q n _=>by rw [ZO (hx b n)];exact n,fun b u q _=>?_,
  fun b xs q=>by rw [ZO (hm b _ q fun z=>z)];exact q,fun b u xs q=>by rw [ZO (hm b _ q fun z=>z)];exact q,fun b ps q=>⟨#[],by rw [ZO (hm b _ q fun z=>z),q];simp⟩⟩
 by_cases hbe:b=e
 ·subst hbe;exact heo
 ·exact ⟨u,k b u hbe q⟩
end
def trk (h:Heap) (H:Hp):List Addr:=(List.range h.objs.size).filter fun a=>(H a).isSome
def Ve (h:Heap) (H:Hp):Heap:=PySem.W.hideAll h (trk h H)
theorem Zkz (h:Heap) (H:Hp):(Ve h H).objs.size=h.objs.size:=PySem.W.hideAll_size _ _
theorem ZkA {h:Heap} {H:Hp} {b:Addr} {o:Obj} (e:h.get? b=some o) (n:H b=none):(Ve h H).get? b=some o :=
 PySem.W.hideAll_get _ e fun hm=>by
  have q:(H b).isSome=true:=(List.mem_filter.mp hm).2
  rw [n] at q;simp at q
theorem ZkB {h:Heap} {H:Hp} {b:Addr} {o:Obj} (e:(Ve h H).get? b=some o):h.get? b=some o∧H b=none:=by
 have e':h.get? b=some o:=PySem.W.of_hideAll (trk h H) e
 refine ⟨e',?_⟩
 cases q:H b with
 | none=>rfl
 | some x =>
  have hm:b∈trk h H:=List.mem_filter.mpr ⟨List.mem_range.mpr (Heap.lt_size e'),by simp [q]⟩
  have z:(Ve h H).get? b=none:=PySem.W.hideAll_none (trk h H) hm
  rw [z] at e;cases e
end L2
namespace L2
open PySem PySem.Spec PyProof.Rows
structure Mod (K:PySem.W.Frag) (mg:Str→Option Value) (base:Heap):Prop where
 kin:K.In base
 glob:base.Ns mainGlobals mg
 blt:∃ mb,base.Ns builtinsNs mb∧∀ x:Str,x ≠ "__name__" → mb x=bootBuiltins x
 nolimit:base.NoLimit
structure Cx where
 prog:Program
 w:World
 K:PySem.W.Frag
 mg:Str→Option Value
 base:Heap
 A:Around
 N:List Str
 s₀:Shared
 H₀:Hp
 env:Env
 outer:List Env
 stack:List Env
 ex:List Addr
 fn:Str→Bool
 calm:Bool
 pn:List (Addr×Obj)
 xe:Value→Shared→Prop
def Z2 (l:List Env):List Addr:=l.filterMap (·.frame)
abbrev Cx.fs (X:Cx):List Addr:=Z2 X.outer
def Vis (sc:Scope) (x:Str):Prop:=sc.names.lookup x=some .local∨sc.names.lookup x=some .cell∨sc.names.lookup x=some .free
def Loc (sc:Scope) (x:Str):Prop:=sc.names.lookup x=some .local∨sc.names.lookup x=some .cell
def Zf9 (env:Env) (h:Heap) (m:Str→Option Value) (x:Str) (u:Value):Prop :=
 (env.kindOf x=some .local∧m x=some u)∨((env.kindOf x=some .cell∨env.kindOf x=some .free)∧∃ c,env.cells.lookup x=some c∧h.IsCell c (some u))
structure Cx.Ok (X:Cx):Prop where
 mod:Mod X.K X.mg X.base
 kind:X.env.scope.kind=.function
 glob:X.env.globals=mainGlobals
 blt:X.env.builtins=builtinsNs
 above:X.s₀.heap.objs.size≤X.env.locals
 inj:∀ x y c,X.env.cells.lookup x=some c→X.env.cells.lookup y=some c→x=y
 has:∀ x,(X.env.kindOf x=some .cell∨X.env.kindOf x=some .free)→∃ c,X.env.cells.lookup x=some c
 cab:∀ x c,X.fn x=true→X.env.cells.lookup x=some c→X.s₀.heap.objs.size≤c
 hd:X.calm=true→X.A.handled=none
 frames:X.A.frames=some X.stack
 stk:X.stack=X.outer∨(X.stack=X.env::X.outer∧X.env.frame=some X.env.locals)
 exf:∀ b∈X.ex,b≠X.env.locals∧∀ x c,X.env.cells.lookup x=some c→c≠b
 bs:∀ b o,X.base.get? b=some o→X.s₀.heap.get? b=some o∧X.H₀ b=none
 bsz:X.base.objs.size≤X.s₀.heap.objs.size
 noex:∀ b o,X.base.get? b=some o→b∉X.ex
 exfs:∀ b∈X.ex,b∉X.fs
 funs:X.s₀.heap.FunFrames X.base X.outer
 frf:∀ b∈X.fs,X.H₀ b=none
structure Zd (X:Cx) (pins:List (Addr×Obj)) (σ:List (Option V)) (H:Hp) (s:Shared):Prop where
 ok:X.Ok
 os:s.os=X.s₀.os
 bare:AllBare s.gens
 base:Un X.fs X.ex X.H₀ H X.s₀.heap s.heap
 loc:∃ m,s.heap.Ns X.env.locals m∧∀ (i:Nat) (x:Str) (v:V),X.N[i]? = some x→σ[i]? = some (some v)→Vis X.env.scope x→∃ u,ZY v u∧Zf9 X.env s.heap m x u
 cell:∀ x c,X.env.cells.lookup x=some c→∃ v,s.heap.IsCell c v
 free:H X.env.locals=none
 freeC:∀ x c,X.env.cells.lookup x=some c→H c=none
 pin:∀ p∈X.pn++pins,s.heap.get? p.1=some p.2∧H p.1=none∧p.1≠X.env.locals∧p.1∉X.fs∧∀ v,p.2.data≠.cell v
 hok:Yu X.prog X.w H s.heap
 len:σ.length=X.N.length
section
variable {X:Cx} {pins:List (Addr×Obj)} {σ:List (Option V)} {H H':Hp} {s:Shared} {h':Heap}
theorem Cx.Ok.nofr (ok:X.Ok) {b:Addr} {o:Obj} (e:X.base.get? b=some o):b∉X.fs:=fun hb=>by
 have:=(ok.funs.mem hb).1
 rw [e] at this;cases this
theorem Zd.bs (I:Zd X pins σ H s):∀ b o,X.base.get? b=some o→s.heap.get? b=some o∧H b=none:=fun b o e =>
 ⟨I.base.keep b o (I.ok.bs b o e).1 (I.ok.bs b o e).2 (I.ok.nofr e) (I.ok.noex b o e),I.base.free b o (I.ok.bs b o e).1 (I.ok.bs b o e).2 (I.ok.noex b o e)⟩
theorem Zd.bk (I:Zd X pins σ H s):∀ b o,X.base.get? b=some o→s.heap.get? b=some o:=fun b o e=>(I.bs b o e).1
theorem Zd.mod (I:Zd X pins σ H s):Mod X.K X.mg X.base:=I.ok.mod
theorem Zd.kIn (I:Zd X pins σ H s):X.K.In s.heap:=I.ok.mod.kin.keeps I.bk
theorem Zd.fr (I:Zd X pins σ H s):∃ m,Fr X.base X.env.locals s.heap m :=
 let ⟨m,hn,_⟩:=I.loc
 ⟨m,hn,I.bk,Nat.le_trans I.ok.bsz I.ok.above⟩
theorem Zd.lt (I:Zd X pins σ H s):X.env.locals < s.heap.objs.size:=let ⟨_,hn,_⟩:=I.loc;hn.lt
theorem Zd.sz (I:Zd X pins σ H s):X.s₀.heap.objs.size≤s.heap.objs.size:=Nat.le_trans I.ok.above (Nat.le_of_lt I.lt)
theorem Zd.nofs (I:Zd X pins σ H s) {a:Addr} (h:s.heap.objs.size≤a):a∉X.fs:=fun hb=>by
 obtain ⟨_,o,ho,_⟩:=I.ok.funs.mem hb
 exact absurd (Nat.lt_of_lt_of_le (Heap.lt_size ho) (Nat.le_trans I.sz h)) (Nat.lt_irrefl _)
theorem Zd.cne (I:Zd X pins σ H s):∀ x c,X.env.cells.lookup x=some c→c≠X.env.locals:=fun x c e z=>by
 obtain ⟨v,o,ho,hd⟩:=I.cell x c e
 obtain ⟨m,⟨o',es,ep,ho',hd',_⟩,_⟩:=I.loc
 rw [z,ho'] at ho;cases ho;rw [hd'] at hd;cases hd
theorem Zd.funs (I:Zd X pins σ H s):s.heap.FunFrames X.base X.outer:=by
 have all:∀ (l:List Env),(∀ b∈Z2 l,b∈X.fs)→X.s₀.heap.FunFrames X.base l→s.heap.FunFrames X.base l:=by
  intro l
  induction l with
  | nil=>intro _ _;trivial
  | cons env r ih =>
   intro hs hl
   obtain ⟨hk,⟨L,o,hf,hn,ho,hd⟩,hr⟩:=hl
   have hL:L∈X.fs:=hs L (by unfold Z2;rw [List.filterMap_cons,hf];exact List.mem_cons_self)
   obtain ⟨sl,e⟩:=I.base.slot L o ho (I.ok.frf L hL) hL fun z=>I.ok.exfs L z hL
   exact ⟨hk,⟨L,_,hf,hn,e,hd⟩,ih (fun b hb=>hs b (by unfold Z2;rw [List.filterMap_cons,hf];exact List.mem_cons_of_mem _ hb)) hr⟩
 exact all X.outer (fun _ hb=>hb) I.ok.funs
theorem Zd.stack (I:Zd X pins σ H s):s.heap.FunFrames X.base X.stack:=by
 rcases I.ok.stk with e | ⟨e,hf⟩
 ·rw [e];exact I.funs
 ·rw [e]
  obtain ⟨m,hn,_⟩:=I.loc
  refine .cons (by rw [I.ok.kind];decide) hf hn ?_ I.funs
  exact Heap.get?_none_of_le (Nat.le_trans I.ok.bsz I.ok.above)
theorem Zd.stkSub (I:Zd X pins σ H s):∀ b∈Z2 X.stack,b∈X.env.locals::X.fs:=fun b hb=>by
 rcases I.ok.stk with e | ⟨e,hf⟩
 ·rw [e] at hb;exact List.mem_cons_of_mem _ hb
 ·rw [e] at hb
  unfold Z2 at hb
  rw [List.filterMap_cons,hf] at hb
  exact hb
theorem Zd.stkFree (I:Zd X pins σ H s):∀ b∈Z2 X.stack,H b=none:=fun b hb=>by
 rcases List.mem_cons.mp (I.stkSub b hb) with e | hb
 ·rw [e];exact I.free
 ·obtain ⟨_,o,ho,_⟩:=I.ok.funs.mem hb
  exact I.base.free b o ho (I.ok.frf b hb) fun z=>I.ok.exfs b z hb
theorem Zd.step {g':Array GenState} {t':Nat} {d':Drawn} {ch:List Addr} (I:Zd X pins σ H s)
  (hch:∀ b∈ch,(b∈X.ex∨X.s₀.heap.objs.size≤b)∧b≠X.env.locals∧(∀ x c,X.env.cells.lookup x=some c→c≠b)∧∀ p∈X.pn++pins,p.1≠b)
  (keep:∀ b o,b≠X.env.locals→b∉X.fs→b∉ch→s.heap.get? b=some o→H b=none→h'.get? b=some o)
  (slot:∀ b o,b≠X.env.locals→b∈X.fs→b∉ch→s.heap.get? b=some o→H b=none→∃ sl,h'.get? b=some { o with slots:=sl }) (free:∀ b o,b∉ch→s.heap.get? b=some o→H b=none→H' b=none)
  (there:∀ b o,b∉ch→s.heap.get? b=some o→∃ o',h'.get? b=some o')
  (tups:∀ b xs,H b=some (.tup xs)→H' b=some (.tup xs)) (frzs:∀ b o u,H b=some (.frz o u)→H' b=some (.frz o u)) (tbls:∀ b ps,H b=some (.tbl ps)→∃ more,H' b=some (.tbl (ps++more)))
  (ns:∀ m,s.heap.Ns X.env.locals m→h'.Ns X.env.locals m) (hok:Yu X.prog X.w H' h') (hg:AllBare g') :
  Zd X pins σ H' { s with heap:=h',gens:=g',drawn:=d',toks:=t' }:=by
 have neL:∀ b o,X.s₀.heap.get? b=some o→b≠X.env.locals:=fun b o e=>Nat.ne_of_lt (Nat.lt_of_lt_of_le (Heap.lt_size e) I.ok.above)
 have neC:∀ b o,X.s₀.heap.get? b=some o→b∉X.ex→b∉ch:=fun b o e hx hb=>by
  rcases (hch b hb).1 with z | z
  ·exact hx z
  ·exact absurd (Nat.lt_of_lt_of_le (Heap.lt_size e) z) (Nat.lt_irrefl _)
 have cellK:∀ x c,X.env.cells.lookup x=some c→∀ v,s.heap.IsCell c v→h'.IsCell c v:=fun x c e v ⟨o,ho,hd⟩=>by
  have nch:c∉ch:=fun z=>(hch c z).2.2.1 x c e rfl
  by_cases hc:c∈X.fs
  ·obtain ⟨sl,q⟩:=slot c o (I.cne x c e) hc nch ho (I.freeC x c e)
   exact ⟨_,q,hd⟩
  ·exact ⟨o,keep c o (I.cne x c e) hc nch ho (I.freeC x c e),hd⟩
 refine ⟨I.ok,I.os,hg,⟨fun b o e n hb hx=>?_,fun b o e n hb hx=>?_,fun b o e n hx=>?_,fun b o e hx=>?_,fun b xs e=>tups b xs (I.base.tups b xs e),fun b o xs e=>frzs b o xs (I.base.frzs b o xs e),fun b ps e=>?_⟩,?_,fun x c e=>?_,?_,fun x c e=>?_,fun p hp=>?_,hok,I.len⟩
 ·exact keep b o (neL b o e) hb (neC b o e hx) (I.base.keep b o e n hb hx) (I.base.free b o e n hx)
 ·obtain ⟨sl,e1⟩:=I.base.slot b o e n hb hx
  obtain ⟨sl',e2⟩:=slot b _ (neL b o e) hb (neC b o e hx) e1 (I.base.free b o e n hx)
  exact ⟨sl',e2⟩
 ·obtain ⟨o',e1⟩:=I.base.there b o e hx
  exact free b o' (neC b o e hx) e1 (I.base.free b o e n hx)
 ·obtain ⟨o',e1⟩:=I.base.there b o e hx
  exact there b o' (neC b o e hx) e1
 ·obtain ⟨m1,e1⟩:=I.base.tbls b ps e
  obtain ⟨m2,e2⟩:=tbls b _ e1
  exact ⟨m1++m2,by rw [e2,Array.append_assoc]⟩
 ·obtain ⟨m,hn,hl⟩:=I.loc
  refine ⟨m,ns m hn,fun i x v e1 e2 e3=>?_⟩
  obtain ⟨u,r,l⟩:=hl i x v e1 e2 e3
  refine ⟨u,r,?_⟩
  rcases l with l | ⟨k,c,e,z⟩
  ·exact .inl l
  ·exact .inr ⟨k,c,e,cellK x c e _ z⟩
 ·obtain ⟨v,z⟩:=I.cell x c e
  exact ⟨v,cellK x c e v z⟩
 ·obtain ⟨m,⟨o,_,_,ho,_⟩,_⟩:=I.loc
  exact free _ o (fun z=>(hch _ z).2.1 rfl) ho I.free
 ·obtain ⟨v,o,ho,hd⟩:=I.cell x c e
  exact free c o (fun z=>(hch c z).2.2.1 x c e rfl) ho (I.freeC x c e)
 ·obtain ⟨e,n,ne,nf,d⟩:=I.pin p hp
  have nch:p.1∉ch:=fun z=>(hch p.1 z).2.2.2 p hp rfl
  exact ⟨keep p.1 p.2 ne nf nch e n,free p.1 p.2 nch e n,ne,nf,d⟩
theorem Zd.un {t':Nat} (I:Zd X pins σ H s) (u:Un X.fs [] H H' s.heap h') (hok:Yu X.prog X.w H' h'):Zd X pins σ H' { s with heap:=h',toks:=t' }:=by
 obtain ⟨m,⟨o,es,ep,ho,r⟩,_⟩:=id I.loc
 obtain ⟨sl,hL⟩:=u.any ho I.free (by simp)
 exact I.step (g':=s.gens) (d':=s.drawn) (ch:=[]) (fun _ z=>nomatch z) (fun b o _ hb _ e n=>u.keep b o e n hb (by simp)) (fun b o _ hb _ e n=>u.slot b o e n hb (by simp)) (fun b o _ e n=>u.free b o e n (by simp)) (fun b o _ e=>u.there b o e (by simp)) u.tups u.frzs u.tbls (fun m' hm=>by
  obtain ⟨o',es',ep',ho',r'⟩:=hm
  rw [ho] at ho';cases ho'
  exact ⟨_,es',ep',hL,r'⟩) hok I.bare
theorem Zd.call {g':Array GenState} {t':Nat} {d':Drawn} {ch:List Addr} (I:Zd X pins σ H s) (u:Un (Z2 X.stack) ch H H' s.heap h') (hok:Yu X.prog X.w H' h') (hg:AllBare g')
  (hch:∀ b∈ch,(b∈X.ex∨X.s₀.heap.objs.size≤b)∧b≠X.env.locals∧(∀ x c,X.env.cells.lookup x=some c→c≠b)∧∀ p∈X.pn++pins,p.1≠b) :
  Zd X pins σ H' { s with heap:=h',gens:=g',drawn:=d',toks:=t' }:=by
 obtain ⟨m,⟨o,es,ep,ho,r⟩,_⟩:=id I.loc
 obtain ⟨sl,hL⟩:=u.any ho I.free fun z=>(hch _ z).2.1 rfl
 exact I.step (ch:=ch) hch (fun b o hL hb hc e n=>u.keep b o e n (fun z=>(List.mem_cons.mp (I.stkSub b z)).elim hL hb) hc) (fun b o _ _ hc e n=>u.any e n hc) (fun b o hc e n=>u.free b o e n hc) (fun b o hc e=>u.there b o e hc) u.tups u.frzs u.tbls (fun m' hm=>by
  obtain ⟨o',es',ep',ho',r'⟩:=hm
  rw [ho] at ho';cases ho'
  exact ⟨_,es',ep',hL,r'⟩) hok hg
theorem Zd.turned {t':Nat} {it:Addr} (I:Zd X pins σ H s) (k:∀ b o,b≠it→s.heap.get? b=some o→h'.get? b=some o) (hn:H it=none) (hL:it≠X.env.locals)
  (h1:it∈X.ex∨X.s₀.heap.objs.size≤it) (h2:∀ x c,X.env.cells.lookup x=some c→c≠it) (h3:∀ p∈X.pn++pins,p.1≠it):Zd X pins σ H { s with heap:=h',toks:=t' }:=by
 have nit:∀ b u,H b=some u→b≠it:=fun b u e z=>by rw [z,hn] at e;cases e
 refine I.step (g':=s.gens) (d':=s.drawn) (ch:=[it]) (fun b hb=>?_) (fun b o _ _ hc e _=>k b o (fun z=>hc (by simp [z])) e) (fun b o _ _ hc e _=>⟨o.slots,k b o (fun z=>hc (by simp [z])) e⟩) (fun _ _ _ _ n=>n)
  (fun b o hc e=>⟨o,k b o (fun z=>hc (by simp [z])) e⟩) (fun _ _ e=>e) (fun _ _ _ e=>e) (fun b ps e=>⟨#[],by rw [e];simp⟩) (fun m hm=>?_) (fun b u e=>?_) I.bare
 ·have e:b=it:=by simpa using hb
  subst e
  exact ⟨h1,hL,h2,h3⟩
 ·obtain ⟨o,es,ep,ho,r⟩:=hm
  exact ⟨o,es,ep,k _ o (Ne.symm hL) ho,r⟩
 ·refine (I.hok b u e).stay (fun c v hc q=>k c v ?_ q) (fun _ q=>q) fun _ _ q=>q
  rcases hc with z | z
  ·rw [z];exact nit b u e
  ·exact nit c _ z
theorem Zd.tok (I:Zd X pins σ H s) (t:Nat):Zd X pins σ H { s with toks:=t }:=I.un (h':=s.heap) (t':=t) Un.refl I.hok
theorem Zd.kept {t':Nat} (I:Zd X pins σ H s) (k:∀ b u,s.heap.get? b=some u→h'.get? b=some u):Zd X pins σ H { s with heap:=h',toks:=t' }:=I.un (Un.kept k) (I.hok.kept k)
theorem Zd.laid {a:Addr} {o:HO} {t':Nat} (I:Zd X pins σ H s) (k:∀ b u,s.heap.get? b=some u→h'.get? b=some u) (hp:s.heap.objs.size≤a) (new:Yp X.prog X.w (upd H a o) h' a o) :
  Zd X pins σ (upd H a o) { s with heap:=h',toks:=t' }:=I.un (Un.laid k hp (I.hok.fresh hp)) (I.hok.laid k hp new)
theorem Zd.write {x e:Addr} {o:HO} {t':Nat} (I:Zd X pins σ H s) (mu:Mut (H x)) (he:e=x∨H e=some (.own x)) (k:∀ b u,b≠e→s.heap.get? b=some u→h'.get? b=some u) (heo:∃ u,h'.get? e=some u)
  (new:Yp X.prog X.w (upd H x o) h' x o):Zd X pins σ (upd H x o) { s with heap:=h',toks:=t' }:=I.un (Un.write mu he k heo) (I.hok.write mu he k heo new)
theorem Zd.weak {σ':List (Option V)} (I:Zd X pins σ H s) (hl:σ'.length=σ.length) (w:∀ (i:Nat) v,σ'[i]? = some (some v)→σ[i]? = some (some v)):Zd X pins σ' H s :=
 ⟨I.ok,I.os,I.bare,I.base,let ⟨m,hn,hl'⟩:=I.loc;⟨m,hn,fun i x v e1 e2 e3=>hl' i x v e1 (w i v e2) e3⟩,I.cell,I.free,I.freeC,I.pin,I.hok,hl.trans I.len⟩
theorem Zd.pins_of {pins':List (Addr×Obj)} (I:Zd X pins σ H s) (h:∀ p∈pins',s.heap.get? p.1=some p.2∧H p.1=none∧p.1≠X.env.locals∧p.1∉X.fs∧∀ v,p.2.data≠.cell v):Zd X pins' σ H s :=
 ⟨I.ok,I.os,I.bare,I.base,I.loc,I.cell,I.free,I.freeC,fun p hp=>(List.mem_append.mp hp).elim (fun z=>I.pin p (List.mem_append_left _ z)) (h p),I.hok,I.len⟩
theorem Zdx {N:List Str} (hN:N.Nodup) {i j:Nat} {x:Str} (a:N[i]? = some x) (b:N[j]? = some x):i=j:=by
 obtain ⟨h1,e1⟩:=List.getElem?_eq_some_iff.mp a
 obtain ⟨h2,e2⟩:=List.getElem?_eq_some_iff.mp b
 exact (List.getElem_inj hN).mp (e1.trans e2.symm)
theorem Zga {M:Model} {A:Around} {E:Value→Shared→Prop} {i:Nat} {x:Str} {v:V} {u:Value} {Q:Unit→Shared→Prop} (I:Zd X pins σ H s) (hN:X.N.Nodup) (hi:X.N[i]? = some x) (hx:Loc X.env.scope x) (r:ZY v u)
  (h:∀ s',Zd X pins (σ.set i (some v)) H s'→(∃ a,Heap.SameBut a s.heap s'.heap∧(a=X.env.locals∨X.env.cells.lookup x=some a))→Q () s') (hf:X.fn x=true∨X.env.scope.names.lookup x=some .local:=by first | exact .inl rfl | exact .inr rfl | assumption):wpAny M A (storeName X.env x u) Q E s:=by
 obtain ⟨m,hn,hl⟩:=id I.loc
 have hcls:(X.env.scope.kind == .class || (X.env.scope.kind == .module && X.env.locals != X.env.globals))=false:=by rw [I.ok.kind];rfl
 have hiσ:i < σ.length:=by rw [I.len];exact (List.getElem?_eq_some_iff.mp hi).1
 have cne:=I.cne
 have tracked:∀ {a:Addr} {h':Heap},(∃ o,s.heap.get? a=some o∧H a=none)→Heap.SameBut a s.heap h'→Yu X.prog X.w H h':=fun {a h'} ha hs b ob e=>by
  obtain ⟨_,_,hfree⟩:=ha
  refine (I.hok b ob e).stay (fun c w' hc q=>(hs.2 c ?_).trans q) (fun _ q=>q) fun _ _ q=>q
  rintro rfl
  rcases hc with rfl | hc
  ·rw [hfree] at e;cases e
  ·rw [hfree] at hc;cases hc
 rcases hx with hk | hk
 ·refine wpAny_storeName_local hk hn (fun h' hn' hs=>?_) hcls
  obtain ⟨oL,_,_,hoL,_⟩:=id hn
  refine h _ ⟨I.ok,I.os,I.bare,⟨fun b o e n hb hx=>?_,fun b o e n hb hx=>?_,I.base.free,fun b o e hx=>?_,I.base.tups,I.base.frzs,I.base.tbls⟩,⟨_,hn',fun j y v' e1 e2 e3=>?_⟩,fun y c e=>?_,I.free,I.freeC,fun p hp=>?_,tracked ⟨oL,hoL,I.free⟩ hs,by simpa using I.len⟩ ⟨_,hs,.inl rfl⟩
  ·exact (hs.2 b (Nat.ne_of_lt (Nat.lt_of_lt_of_le (Heap.lt_size e) I.ok.above))).trans (I.base.keep b o e n hb hx)
  ·obtain ⟨sl,e1⟩:=I.base.slot b o e n hb hx
   exact ⟨sl,(hs.2 b (Nat.ne_of_lt (Nat.lt_of_lt_of_le (Heap.lt_size e) I.ok.above))).trans e1⟩
  ·obtain ⟨o',e1⟩:=I.base.there b o e hx
   exact ⟨o',(hs.2 b (Nat.ne_of_lt (Nat.lt_of_lt_of_le (Heap.lt_size e) I.ok.above))).trans e1⟩
  ·by_cases hj:j=i
   ·subst hj
    rw [hi] at e1;cases e1
    rw [List.getElem?_set_self hiσ] at e2
    cases e2
    exact ⟨u,r,.inl ⟨hk,by simp⟩⟩
   ·rw [List.getElem?_set_ne (Ne.symm hj)] at e2
    obtain ⟨u',r',q⟩:=hl j y v' e1 e2 e3
    refine ⟨u',r',?_⟩
    rcases q with ⟨k,e⟩ | ⟨k,c,e,z⟩
    ·refine .inl ⟨k,?_⟩
     have:y≠x:=fun e=>hj (Zdx hN e1 (e ▸ hi))
     simp [this,e]
    ·exact .inr ⟨k,c,e,z.sameBut hs (cne y c e)⟩
  ·obtain ⟨w',z⟩:=I.cell y c e
   exact ⟨w',z.sameBut hs (cne y c e)⟩
  ·obtain ⟨e,n,ne,nf,d⟩:=I.pin p hp
   exact ⟨(hs.2 p.1 ne).trans e,n,ne,nf,d⟩
 ·have hfn:X.fn x=true:=by
   rcases hf with z | z
   ·exact z
   ·rw [z] at hk;cases hk
  obtain ⟨c,hc⟩:=I.ok.has x (.inl hk)
  obtain ⟨w',z⟩:=I.cell x c hc
  refine wpAny_storeName_cell I.ok.kind hk hc z (fun h' hc' hs=>?_)
  obtain ⟨oc,hoc,hocd⟩:=id z
  refine h { s with heap:=h' } ⟨I.ok,I.os,I.bare,⟨fun b o e n hb hx=>?_,fun b o e n hb hx=>?_,I.base.free,fun b o e hx=>?_,I.base.tups,I.base.frzs,I.base.tbls⟩,⟨m,hn.sameBut hs (Ne.symm (cne x c hc)),fun j y v' e1 e2 e3=>?_⟩,fun y c' e=>?_,I.free,I.freeC,fun p hp=>?_,tracked ⟨oc,hoc,I.freeC x c hc⟩ hs,by simpa using I.len⟩ ⟨c,hs,.inr hc⟩
  ·exact (hs.2 b (Nat.ne_of_lt (Nat.lt_of_lt_of_le (Heap.lt_size e) (I.ok.cab x c hfn hc)))).trans (I.base.keep b o e n hb hx)
  ·obtain ⟨sl,e1⟩:=I.base.slot b o e n hb hx
   exact ⟨sl,(hs.2 b (Nat.ne_of_lt (Nat.lt_of_lt_of_le (Heap.lt_size e) (I.ok.cab x c hfn hc)))).trans e1⟩
  ·obtain ⟨o',e1⟩:=I.base.there b o e hx
   exact ⟨o',(hs.2 b (Nat.ne_of_lt (Nat.lt_of_lt_of_le (Heap.lt_size e) (I.ok.cab x c hfn hc)))).trans e1⟩
  ·by_cases hj:j=i
   ·subst hj
    rw [hi] at e1;cases e1
    rw [List.getElem?_set_self hiσ] at e2
    cases e2
    exact ⟨u,r,.inr ⟨.inl hk,c,hc,hc'⟩⟩
   ·rw [List.getElem?_set_ne (Ne.symm hj)] at e2
    obtain ⟨u',r',q⟩:=hl j y v' e1 e2 e3
    refine ⟨u',r',?_⟩
    rcases q with q | ⟨k,c',e,z'⟩
    ·exact .inl q
    ·refine .inr ⟨k,c',e,z'.sameBut hs ?_⟩
     rintro rfl
     exact hj (Zdx hN e1 (I.ok.inj _ _ _ e hc ▸ hi))
  ·by_cases hcc:c'=c
   ·subst hcc;exact ⟨_,hc'⟩
   ·obtain ⟨w2,z2⟩:=I.cell y c' e
    exact ⟨w2,z2.sameBut hs hcc⟩
  ·obtain ⟨e,n,ne,nf,d⟩:=I.pin p hp
   refine ⟨(hs.2 p.1 ?_).trans e,n,ne,nf,d⟩
   intro q
   rw [q,hoc] at e
   have q':oc=p.2:=Option.some.inj e
   exact d w' (by rw [← q'];exact hocd)
theorem Zdy {M:Model} {A:Around} {E:Value→Shared→Prop} {i:Nat} {x:Str} {v:V} {u:Value} {Q:Unit→Shared→Prop} (I:Zd X pins σ H s) (hN:X.N.Nodup) (hi:X.N[i]? = some x) (hx:Loc X.env.scope x) (r:ZY v u)
  (h:∀ s',Zd X pins (σ.set i (some v)) H s'→Q () s') (hf:X.fn x=true∨X.env.scope.names.lookup x=some .local:=by first | exact .inl rfl | exact .inr rfl | assumption):wpAny M A (storeName X.env x u) Q E s :=
 Zga I hN hi hx r (fun s' I' _=>h s' I') hf
theorem Zd.call' {s':Shared} {ch:List Addr} (I:Zd X pins σ H s) (ho:s'.os=s.os) (u:Un (Z2 X.stack) ch H H' s.heap s'.heap) (hok:Yu X.prog X.w H' s'.heap) (hg:AllBare s'.gens)
  (hch:∀ b∈ch,(b∈X.ex∨X.s₀.heap.objs.size≤b)∧b≠X.env.locals∧(∀ x c,X.env.cells.lookup x=some c→c≠b)∧∀ p∈X.pn++pins,p.1≠b):Zd X pins σ H' s':=by
 obtain ⟨h',g',d',t',o'⟩:=s'
 have e:o'=s.os:=ho
 subst e
 exact I.call (g':=g') (t':=t') (d':=d') u hok hg hch
end
abbrev XK:=Value→Option Addr→Hp→Prop
abbrev St:=List (Option V)
abbrev VK:=V→Hp→Prop
abbrev TE:=St→Hp→VK→Prop
abbrev TT:=St→Hp→(Bool→Hp→Prop)→Prop
abbrev TA:=St→Hp→(List V→Hp→Prop)→Prop
structure UO where
 nx:St→Hp→Prop
 rt:VK
 bk:St→Hp→Prop:=fun _ _=>False
 ct:St→Hp→Prop:=fun _ _=>False
abbrev TS:=UO→St→Hp→Prop
def EP (X:Cx) (pins:List (Addr×Obj)) (σ:St) (Q:VK) (u:Value) (s':Shared):Prop:=∃ v H',Zd X pins σ H' s'∧ZY v u∧Q v H'
def TP (X:Cx) (pins:List (Addr×Obj)) (σ:St) (Q:Bool→Hp→Prop) (b:Bool) (s':Shared):Prop:=∃ H',Zd X pins σ H' s'∧Q b H'
def AP (X:Cx) (pins:List (Addr×Obj)) (σ:St) (Q:List V→Hp→Prop) (us:List Value) (s':Shared):Prop:=∃ vs H',Zd X pins σ H' s'∧ZJ vs us∧Q vs H'
def SP (X:Cx) (pins:List (Addr×Obj)) (D:UO) (f:Flow) (s':Shared):Prop :=
 match f with
 | .next=>∃ σ' H',Zd X pins σ' H' s'∧D.nx σ' H'
 | .brk=>∃ σ' H',Zd X pins σ' H' s'∧D.bk σ' H'
 | .cont=>∃ σ' H',Zd X pins σ' H' s'∧D.ct σ' H'
 | .ret u=>∃ v σ' H',Zd X pins σ' H' s'∧ZY v u∧D.rt v H'
def PE (X:Cx) (e:Expr) (t:TE):Prop :=
 ∀ (pins:List (Addr×Obj)) (s:Shared) (σ:St) (H:Hp) (Q:VK),Zd X pins σ H s→t σ H Q→wpAny (model X.prog X.w) X.A (eval e X.env) (EP X pins σ Q) X.xe s
def PT (X:Cx) (e:Expr) (t:TT):Prop :=
 ∀ (pins:List (Addr×Obj)) (s:Shared) (σ:St) (H:Hp) (Q:Bool→Hp→Prop),Zd X pins σ H s→t σ H Q→wpAny (model X.prog X.w) X.A (isTrue e X.env (eval e X.env)) (TP X pins σ Q) X.xe s
def PW (X:Cx) (e:Expr) (t:TT):Prop :=
 ∀ (whole:Sem Value) (pins:List (Addr×Obj)) (s:Shared) (σ:St) (H:Hp) (Q:Bool→Hp→Prop),Zd X pins σ H s→t σ H Q→wpAny (model X.prog X.w) X.A (isTrue e X.env whole) (TP X pins σ Q) X.xe s
theorem PW.pt {X:Cx} {e:Expr} {t:TT} (h:PW X e t):PT X e t:=h _
def PA (X:Cx) (es:List Expr) (t:TA):Prop :=
 ∀ (pos:Pos) (pins:List (Addr×Obj)) (s:Shared) (σ:St) (H:Hp) (Q:List V→Hp→Prop),Zd X pins σ H s→t σ H Q→wpAny (model X.prog X.w) X.A (spliced (backTo pos (starEach es X.env))) (AP X pins σ Q) X.xe s
def PS (X:Cx) (st:Stmt) (t:TS):Prop :=
 ∀ (pins:List (Addr×Obj)) (s:Shared) (σ:St) (H:Hp) (D:UO),Zd X pins σ H s→t D σ H→wpAny (model X.prog X.w) X.A (exec st X.env) (SP X pins D) X.xe s
def XD (X:Cx) (st:List Stmt) (t:TS):Prop :=
 ∀ (pins:List (Addr×Obj)) (s:Shared) (σ:St) (H:Hp) (D:UO),Zd X pins σ H s→t D σ H→wpAny (model X.prog X.w) X.A (execs st X.env) (SP X pins D) X.xe s
theorem ZK {α:Type} {t:Sem α} {Q Q':α→Shared→Prop} {M:Model} {A:Around} {E:Value→Shared→Prop} {s:Shared} (h:wpAny M A t Q E s) (hQ:∀ a s,Q a s→Q' a s):wpAny M A t Q' E s:=wpAny_mono h hQ fun _ _ x=>x
end L2
namespace L2
open PySem PySem.Spec PyProof.Rows
section
variable {X:Cx}
def Zgb (i:Nat):TE:=fun σ H Q=>∃ v,σ[i]? = some (some v)∧Q v H
def tC (v:V):TE:=fun _ H Q=>Q v H
theorem ZkC {i:Nat} {x:Str} {pos:Pos} (hN:X.N[i]? = some x) (hv:Vis X.env.scope x) (hd:(x == ("__debug__" : Str))=false:=by decide) (hcd:(x == ("__classdict__" : Str))=false:=by decide):PE X (.Name x pos) (Zgb i):=by
 intro pins s σ H Q I h
 obtain ⟨v,e,h⟩:=h
 obtain ⟨m,hn,hl⟩:=I.loc
 obtain ⟨u,r,l⟩:=hl i x v hN e hv
 have fin:EP X pins σ Q u s:=⟨v,H,I,r,h⟩
 rcases l with ⟨hk,hm⟩ | ⟨hk,c,hc,hcell⟩
 ·exact wpAny_Name (wpAny_loadName_local I.ok.kind hk hn hm fin) hd
 ·rcases hk with hk | hk
  ·exact wpAny_Name (wpAny_loadName_cell I.ok.kind hk hc hcell fin) hd
  ·exact wpAny_Name (wpAny_loadName_free I.ok.kind hk hc hcell fin hcd) hd
theorem Ze {i j pos}:PE X (.Constant (.int i) j pos) (tC (.int i)):=fun _ _ _ H _ I h=>wpAny_Constant_int ⟨.int i,H,I.tok _,⟨_,rfl⟩,h⟩
theorem Xd {b j pos}:PE X (.Constant (.bool b) j pos) (tC (.bl b)):=fun _ _ _ H _ I h=>Constant_bool ⟨.bl b,H,I,rfl,h⟩
theorem Y4 {j pos}:PE X (.Constant .none j pos) (tC .non):=fun _ _ _ H _ I h=>Constant_none ⟨.non,H,I,rfl,h⟩
theorem Zn {x j pos}:PE X (.Constant (.str x) j pos) (tC (.str x)):=fun _ _ _ H _ I h=>Calls.Constant_str ⟨.str x,H,I.tok _,⟨_,rfl⟩,h⟩
def Gl (X:Cx) (x:Str):Prop:=X.env.kindOf x=some .globalImplicit
theorem UP {E:Value→Shared→Prop} {pins:List (Addr×Obj)} {s:Shared} {σ:St} {H:Hp} {x:Str} {u:Value} {pos:Pos} {Q:Value→Shared→Prop} (I:Zd X pins σ H s) (hg:Gl X x) (hm:X.mg x=some u) (h:Q u s)
  (hd:(x == ("__debug__" : Str))=false:=by decide):wpAny (model X.prog X.w) X.A (eval (.Name x pos) X.env) Q E s :=
 Calls.Name_function_global I.ok.kind hg (Calls.loadGlobal_global (by rw [I.ok.glob];exact I.mod.glob.keeps I.bk) hm h) hd
theorem UQ {E:Value→Shared→Prop} {pins:List (Addr×Obj)} {s:Shared} {σ:St} {H:Hp} {x:Str} {u:Value} {pos:Pos} {Q:Value→Shared→Prop} (I:Zd X pins σ H s) (hg:Gl X x) (hm:X.mg x=none) (hv:bootBuiltins x=some u) (h:Q u s)
  (hn:x ≠ "__name__" := by decide) (hd:(x == ("__debug__" : Str))=false:=by decide):wpAny (model X.prog X.w) X.A (eval (.Name x pos) X.env) Q E s:=by
 obtain ⟨mb,h1,h2⟩:=I.mod.blt
 exact Calls.Name_function_global I.ok.kind hg (Calls.loadGlobal_builtin (by rw [I.ok.glob];exact I.mod.glob.keeps I.bk) hm (by rw [I.ok.blt];exact h1.keeps I.bk) ((h2 x hn).trans hv) h) hd
theorem Zgc {x:Str} {v:V} {u:Value} {pos:Pos} (hg:Gl X x) (hm:X.mg x=some u) (r:ZY v u) (hd:(x == ("__debug__" : Str))=false:=by decide):PE X (.Name x pos) (tC v) :=
 fun _ _ _ H _ I h=>UP I hg hm ⟨v,H,I,r,h⟩ hd
theorem ZkD {x:Str} {v:V} {u:Value} {pos:Pos} (hg:Gl X x) (hm:X.mg x=none) (hv:bootBuiltins x=some u) (r:ZY v u) (hn:x ≠ "__name__" := by decide) (hd:(x == ("__debug__" : Str))=false:=by decide):PE X (.Name x pos) (tC v) :=
 fun _ _ _ H _ I h=>UQ I hg hm hv ⟨v,H,I,r,h⟩ hn hd
variable {a b:Expr} {ta tb:TE} {pos:Pos}
def PC (X:Cx) (op:CmpOp) (a b:Expr) (t:TE):Prop :=
 ∀ (pins:List (Addr×Obj)) (s:Shared) (σ:St) (H:Hp) (Q:VK),Zd X pins σ H s→t σ H Q →
  wpAny (model X.prog X.w) X.A (eval a X.env) (fun v s₁=>wpAny (model X.prog X.w) X.A (eval b X.env) (fun u s₂=>wpAny (model X.prog X.w) X.A (compareOp op v u) (EP X pins σ Q) X.xe s₂) X.xe s₁) X.xe s
theorem Zgd (b:Expr) {op:CmpOp} (h:op≠.In) (h2:op≠.NotIn):behindInMarks op b=false:=by
 have e1:(op == CmpOp.In)=false:=by cases op <;> first | rfl | exact absurd rfl h
 have e2:(op == CmpOp.NotIn)=false:=by cases op <;> first | rfl | exact absurd rfl h2
 cases b <;> simp [behindInMarks,e1,e2]
def ZkE (ta:TE):TE:=fun σ H Q=>ta σ H fun x H1=>Q (.bl (decide (x=.non))) H1
def ZkF (ta:TE):TE:=fun σ H Q=>ta σ H fun x H1=>Q (.bl (!decide (x=.non))) H1
theorem ZY.none_iff {x:V} {v:Value} (r:ZY x v):(v == Value.none)=decide (x=.non):=by
 cases x with
 | non=>cases r;rfl
 | bl _=>cases r;rfl
 | int _=>obtain ⟨t,rfl⟩:=r;rfl
 | str _=>obtain ⟨t,rfl⟩:=r;rfl
 | byt _=>obtain ⟨t,rfl⟩:=r;rfl
 | flt _=>obtain ⟨t,rfl⟩:=r;rfl
 | ref _=>cases r;rfl
 | ty _=>cases r;rfl
theorem ZaA {j pos'} (ha:PE X a ta):PC X .Is a (.Constant .none j pos') (ZkE ta):=by
 intro pins s σ H Q I h
 refine ZK (ha pins s σ H _ I h) fun v s1 ⟨x,H1,I1,r1,q1⟩=>?_
 exact Constant_none (is_none_gen ⟨.bl _,H1,I1,by rw [r1.none_iff];rfl,q1⟩)
theorem Zbf {j pos'} (ha:PE X a ta):PC X .IsNot a (.Constant .none j pos') (ZkF ta):=by
 intro pins s σ H Q I h
 refine ZK (ha pins s σ H _ I h) fun v s1 ⟨x,H1,I1,r1,q1⟩=>?_
 exact Constant_none (isnot_none_gen ⟨.bl _,H1,I1,by rw [r1.none_iff];rfl,q1⟩)
def tB (t:TE):TT:=fun σ H Q=>t σ H fun x H1=>∃ c,x=.bl c∧Q c H1
theorem ZkG {op:CmpOp} {t:TE} (h:PC X op a b t) (h1:behindInMarks op b=false:=by first | exact Zgd _ (by decide) (by decide) | rfl):PE X (.Compare a [op] [b] pos) t:=fun pins s σ H Q I hw=>wpAny_Compare1 (h pins s σ H Q I hw) h1
theorem UR {op:CmpOp} {t:TE} (h:PC X op a b t) (h1:behindInMarks op b=false:=by first | exact Zgd _ (by decide) (by decide) | rfl):PT X (.Compare a [op] [b] pos) (tB t):=by
 intro pins s σ H Q I hw
 refine wpAny_isTrue_Compare1 (ZK (h pins s σ H _ I hw) fun v s1 h1=>ZK h1 fun u s2 h2=>ZK h2 fun c s3 ⟨x,H1,I1,r1,q1⟩=>?_) h1
 obtain ⟨d,rfl,q⟩:=q1
 cases r1
 exact wpAny_truthy_bool ⟨H1,I1,q⟩
theorem Yx {e:Expr} {t:TE} (h:PE X e t) (he:∀ whole,isTrue e X.env whole=(do let v ← whole;standAt e.pos;holding [v] (truthy v)):=by intro _;rfl):PT X e (tB t):=by
 intro pins s σ H Q I hw
 refine isTrue_plain (ZK (h pins s σ H _ I hw) fun v s1 ⟨x,H1,I1,r1,q1⟩=>?_) (he _)
 obtain ⟨d,rfl,q⟩:=q1
 cases r1
 exact wpAny_truthy_bool ⟨H1,I1,q⟩
variable {tA tB':TT} {rest:List Expr}
def ZkH (t u:TT):TT:=fun σ H Q=>t σ H fun c H1=>if c=true then u σ H1 Q else Q false H1
def tOr (t u:TT):TT:=fun σ H Q=>t σ H fun c H1=>if c=true then Q true H1 else u σ H1 Q
def ZkI (t:TT):TT:=fun σ H Q=>t σ H fun c H1=>Q (!c) H1
theorem Vf (ha:PT X a tA):PW X (.BoolOp .And [a] pos) tA:=by
 intro wh pins s σ H Q I h
 refine isTrue_and (ZK (ha pins s σ H Q I h) fun c s1 e=>?_)
 cases c with
 | true=>exact isTrue_and_nil e
 | false=>exact e
theorem XE (ha:PT X a tA):PW X (.BoolOp .Or [a] pos) tA:=by
 intro wh pins s σ H Q I h
 refine isTrue_or (ZK (ha pins s σ H Q I h) fun c s1 e=>?_)
 cases c with
 | false=>exact isTrue_or_nil e
 | true=>exact e
theorem WC (ha:PT X a tA) (hb:PW X (.BoolOp .And (b::rest) pos) tB'):PW X (.BoolOp .And (a::b::rest) pos) (ZkH tA tB'):=by
 intro wh pins s σ H Q I h
 refine isTrue_and (ZK (ha pins s σ H _ I h) fun c s1 ⟨H1,I1,q1⟩=>?_)
 cases c with
 | true=>exact hb wh pins s1 σ H1 Q I1 q1
 | false=>exact ⟨H1,I1,q1⟩
theorem Y5 (ha:PT X a tA) (hb:PW X (.BoolOp .Or (b::rest) pos) tB'):PW X (.BoolOp .Or (a::b::rest) pos) (tOr tA tB'):=by
 intro wh pins s σ H Q I h
 refine isTrue_or (ZK (ha pins s σ H _ I h) fun c s1 ⟨H1,I1,q1⟩=>?_)
 cases c with
 | true=>exact ⟨H1,I1,q1⟩
 | false=>exact hb wh pins s1 σ H1 Q I1 q1
theorem Yt (ha:PT X a tA):PT X (.UnaryOp .Not a pos) (ZkI tA):=by
 intro pins s σ H Q I h
 exact isTrue_not (ha pins s σ H (fun c H1=>Q (!c) H1) I h)
def ZkJ (ta tb:TE):TE:=fun σ H Q=>ta σ H fun x H1=>∃ c,x=.bl c∧if c=true then tb σ H1 Q else Q (.bl false) H1
def ZkK (ta tb:TE):TE:=fun σ H Q=>ta σ H fun x H1=>∃ c,x=.bl c∧if c=true then Q (.bl true) H1 else tb σ H1 Q
def ZkL (ta:TE):TE:=fun σ H Q=>ta σ H fun x H1=>∃ c,x=.bl c∧Q (.bl (!c)) H1
theorem US {op} {t:TE} (h:PE X a t):PE X (.BoolOp op [a] pos) t:=fun pins s σ H Q I hw=>BoolOp_one (h pins s σ H Q I hw)
theorem UT (ha:PE X a ta) (hb:PE X (.BoolOp .And (b::rest) pos) tb):PE X (.BoolOp .And (a::b::rest) pos) (ZkJ ta tb):=by
 intro pins s σ H Q I h
 refine BoolOp_and (ZK (ha pins s σ H _ I h) fun v s1 ⟨x,H1,I1,r1,q1⟩=>?_)
 obtain ⟨c,rfl,q1⟩:=q1
 cases r1
 refine wpAny_truthy_bool ?_
 cases c with
 | true=>exact hb pins s1 σ H1 Q I1 q1
 | false=>exact ⟨.bl false,H1,I1,rfl,q1⟩
theorem ZkM (ha:PE X a ta) (hb:PE X (.BoolOp .Or (b::rest) pos) tb):PE X (.BoolOp .Or (a::b::rest) pos) (ZkK ta tb):=by
 intro pins s σ H Q I h
 refine BoolOp_or (ZK (ha pins s σ H _ I h) fun v s1 ⟨x,H1,I1,r1,q1⟩=>?_)
 obtain ⟨c,rfl,q1⟩:=q1
 cases r1
 refine wpAny_truthy_bool ?_
 cases c with
 | false=>exact hb pins s1 σ H1 Q I1 q1
 | true=>exact ⟨.bl true,H1,I1,rfl,q1⟩
theorem ZkN (ha:PE X a ta):PE X (.UnaryOp .Not a pos) (ZkL ta):=by
 intro pins s σ H Q I h
 refine UnaryOp_ (ZK (ha pins s σ H _ I h) fun v s1 ⟨x,H1,I1,r1,q1⟩=>?_)
 obtain ⟨c,rfl,q1⟩:=q1
 cases r1
 exact not_of (wpAny_truthy_bool ⟨.bl (!c),H1,I1,rfl,q1⟩)
def tIf (t:TT) (ta tb:TE):TE:=fun σ H Q=>t σ H fun c H1=>if c=true then ta σ H1 Q else tb σ H1 Q
theorem Zdz {c:Expr} (hc:PT X c tA) (ha:PE X a ta) (hb:PE X b tb):PE X (.IfExp c a b pos) (tIf tA ta tb):=by
 intro pins s σ H Q I h
 refine wpAny_IfExp (ZK (hc pins s σ H _ I h) fun d s1 ⟨H1,I1,q1⟩=>?_)
 cases d with
 | true=>exact ha pins s1 σ H1 Q I1 q1
 | false=>exact hb pins s1 σ H1 Q I1 q1
end
end L2
namespace L2
open PySem PySem.Spec PyProof.Rows
def Zm (K:PySem.W.Frag) (H:Hp) (a:Addr) (xs:List V):Prop :=
 Rd H a (.lst xs) ∨
  ∃ (o:Obj) (its:Array Value) (n:Nat),K.lookup a=some o∧o.cls=.type "list" ∧ o.dict=none∧o.data=.seq its n∧its.size≤sizeLine∧ZJ xs its.toList
def Zi (K:PySem.W.Frag) (H:Hp) (a:Addr) (xs:List V):Prop :=
 Rd H a (.tup xs) ∨
  ∃ (o:Obj) (its:Array Value) (n:Nat),K.lookup a=some o∧o.cls=.type "tuple" ∧ o.data=.seq its n∧its.size≤sizeLine∧ZJ xs its.toList
def ZkO:Value→Option V
 | .none=>some .non
 | .bool b=>some (.bl b)
 | .int i _=>some (.int i)
 | .str x _=>some (.str x)
 | .bytes b _=>some (.byt b)
 | .float b _=>some (.flt b)
 | .ref a=>some (.ref a)
 | .type n=>some (.ty n)
 | _=>none
theorem ZY.abs {x:V} {u:Value} (r:ZY x u):ZkO u=some x:=by
 cases x with
 | non=>cases r;rfl
 | bl _=>cases r;rfl
 | int _=>obtain ⟨t,rfl⟩:=r;rfl
 | str _=>obtain ⟨t,rfl⟩:=r;rfl
 | byt _=>obtain ⟨t,rfl⟩:=r;rfl
 | flt _=>obtain ⟨t,rfl⟩:=r;rfl
 | ref _=>cases r;rfl
 | ty _=>cases r;rfl
theorem ZY.inj {x y:V} {u:Value} (r:ZY x u) (q:ZY y u):x=y:=Option.some.inj (r.abs.symm.trans q.abs)
theorem ZJ.inj:∀ {xs ys:List V} {us:List Value},ZJ xs us→ZJ ys us→xs=ys
 | _,_,_,.nil,.nil=>rfl
 | _,_,_,.cons r t,.cons r' t'=>by rw [r.inj r',ZJ.inj t t']
section
variable {X:Cx} {pins:List (Addr×Obj)} {σ:St} {H:Hp} {s:Shared} {a:Addr} {xs ys:List V}
theorem Zm.of {K:PySem.W.Frag} (h:H a=some (.lst xs)):Zm K H a xs:=.inl (.inl h)
theorem Zi.of {K:PySem.W.Frag} (h:H a=some (.tup xs)):Zi K H a xs:=.inl (.inl h)
theorem Zd.list (I:Zd X pins σ H s) (h:Zm X.K H a xs):∃ its:List Value,ZJ xs its∧PlainL s.heap a its.toArray∧xs.length≤sizeLine:=by
 rcases h with h | ⟨o,its,n,hk,hc,hd,hs,hz,r⟩
 ·obtain ⟨z,its,n,r,e⟩:=h.ok I.hok
  exact ⟨its,r,⟨_,n,e,rfl,rfl,rfl⟩,z⟩
 ·refine ⟨its.toList,r,⟨o,n,I.kIn a o hk,hc,hd,by simpa using hs⟩,?_⟩
  have e:=r.length
  simp only [Array.length_toList] at e
  omega
theorem Zd.tuple (I:Zd X pins σ H s) (h:Zi X.K H a xs):∃ its:List Value,ZJ xs its∧IsTup s.heap a its.toArray∧xs.length≤sizeLine:=by
 rcases h with h | ⟨o,its,n,hk,hc,hs,hz,r⟩
 ·obtain ⟨z,its,r,p⟩:=h.ok I.hok
  exact ⟨its,r,p,z⟩
 ·refine ⟨its.toList,r,⟨o,I.kIn a o hk,hc,n,by simpa using hs⟩,?_⟩
  have e:=r.length
  simp only [Array.length_toList] at e
  omega
theorem Zd.list_inj (I:Zd X pins σ H s) (h:Zm X.K H a xs) (h':Zm X.K H a ys):xs=ys:=by
 obtain ⟨its,r,⟨o,n,e,_,_,d⟩,_⟩:=I.list h
 obtain ⟨its',r',⟨o',n',e',_,_,d'⟩,_⟩:=I.list h'
 rw [e] at e';cases e'
 rw [d] at d'
 injection d' with d1 _
 have:its=its':=by simpa using congrArg Array.toList d1
 subst this
 exact r.inj r'
theorem Zd.tuple_inj (I:Zd X pins σ H s) (h:Zi X.K H a xs) (h':Zi X.K H a ys):xs=ys:=by
 obtain ⟨its,r,⟨o,e,_,n,d⟩,_⟩:=I.tuple h
 obtain ⟨its',r',⟨o',e',_,n',d'⟩,_⟩:=I.tuple h'
 rw [e] at e';cases e'
 rw [d] at d'
 injection d' with d1 _
 have:its=its':=by simpa using congrArg Array.toList d1
 subst this
 exact r.inj r'
end
abbrev Cx.wish (X:Cx) (E:Value→Shared→Prop):Cx:={ X with xe:=E }
abbrev Cx.nox (X:Cx):Cx:=X.wish fun _ _=>False
theorem Cx.Ok.wish {X:Cx} (ok:X.Ok) (E:Value→Shared→Prop):(X.wish E).Ok :=
 ⟨ok.mod,ok.kind,ok.glob,ok.blt,ok.above,ok.inj,ok.has,ok.cab,ok.hd,ok.frames,ok.stk,ok.exf,ok.bs,ok.bsz,ok.noex,ok.exfs,ok.funs,ok.frf⟩
theorem Cx.Ok.unwish {X:Cx} {E:Value→Shared→Prop} (ok:(X.wish E).Ok):X.Ok :=
 ⟨ok.mod,ok.kind,ok.glob,ok.blt,ok.above,ok.inj,ok.has,ok.cab,ok.hd,ok.frames,ok.stk,ok.exf,ok.bs,ok.bsz,ok.noex,ok.exfs,ok.funs,ok.frf⟩
section
variable {X:Cx} {pins:List (Addr×Obj)} {σ:St} {H:Hp} {s:Shared} {E:Value→Shared→Prop}
theorem Zd.wish (I:Zd X pins σ H s) (E:Value→Shared→Prop):Zd (X.wish E) pins σ H s:=⟨I.ok.wish E,I.os,I.bare,I.base,I.loc,I.cell,I.free,I.freeC,I.pin,I.hok,I.len⟩
theorem Zd.unwish (I:Zd (X.wish E) pins σ H s):Zd X pins σ H s:=⟨I.ok.unwish,I.os,I.bare,I.base,I.loc,I.cell,I.free,I.freeC,I.pin,I.hok,I.len⟩
theorem SP.unwish {D:UO} {f:Flow} {s':Shared} (h:SP (X.wish E) pins D f s'):SP X pins D f s':=by
 cases f with
 | next=>obtain ⟨σ',H',I,q⟩:=h;exact ⟨σ',H',I.unwish,q⟩
 | brk=>obtain ⟨σ',H',I,q⟩:=h;exact ⟨σ',H',I.unwish,q⟩
 | cont=>obtain ⟨σ',H',I,q⟩:=h;exact ⟨σ',H',I.unwish,q⟩
 | ret u=>obtain ⟨v,σ',H',I,r,q⟩:=h;exact ⟨v,σ',H',I.unwish,r,q⟩
theorem XD.nox {st:List Stmt} {t:TS} (h:XD X.nox st t):XD X st t:=fun pins s σ H D I hw =>
 wpAny_mono (h pins s σ H D (I.wish _) hw) (fun _ _ q=>q.unwish) fun _ _ z=>False.elim z
end
section
variable {X:Cx} {st:Stmt} {rest:List Stmt} {t u:TS} {e:Expr} {te:TE} {pos:Pos}
def ZkP:TS:=fun D σ H=>D.nx σ H
def ZkQ (t u:TS):TS:=fun D σ H=>t { D with nx:=u D } σ H
theorem ZF:XD X [] ZkP:=fun _ _ σ H _ I h=>wpAny_execs_nil ⟨σ,H,I,h⟩
theorem Zl (h1:PS X st t) (h2:XD X rest u):XD X (st::rest) (ZkQ t u):=by
 intro pins s σ H D I h
 refine wpAny_execs_cons (ZK (h1 pins s σ H { D with nx:=u D } I h) fun f s1 q=>?_)
 cases f with
 | next =>
  obtain ⟨σ',H',I',q⟩:=q
  exact h2 pins s1 σ' H' D I' q
 | ret v=>exact q
 | brk=>exact q
 | cont=>exact q
theorem Zj (h1:PS X st t):XD X [st] t:=by
 intro pins s σ H D I h
 refine wpAny_execs_cons (ZK (h1 pins s σ H D I h) fun f s1 q=>?_)
 cases f with
 | next=>exact wpAny_execs_nil q
 | ret v=>exact q
 | brk=>exact q
 | cont=>exact q
theorem Zd.quiet {pins:List (Addr×Obj)} {σ:St} {H:Hp} {s:Shared} (I:Zd X pins σ H s):interactive X.env=false:=by simp [interactive,I.ok.kind]
def ZkR (te:TE):TS:=fun D σ H=>te σ H fun _ H1=>D.nx σ H1
theorem Vg (he:PE X e te) (hs:swapsWith e none pos.line X.env=pure false:=by rfl):PS X (.Expr e pos) (ZkR te):=by
 intro pins s σ H D I h
 exact wpAny_Expr_any (ZK (he pins s σ H _ I h) fun v s1 ⟨x,H1,I1,r1,q1⟩=>⟨σ,H1,I1,q1⟩) I.quiet hs
def ZkS (te:TE):TS:=fun D σ H=>te σ H D.rt
theorem Zw (he:PE X e te):PS X (.Return (some e) pos) (ZkS te):=by
 intro pins s σ H D I h
 exact wpAny_Return_some (ZK (he pins s σ H _ I h) fun v s1 ⟨x,H1,I1,r1,q1⟩=>⟨x,σ,H1,I1,r1,q1⟩)
def ZkT (c:TT) (t u:TS):TS:=fun D σ H=>c σ H fun b H1=>if b=true then t D σ H1 else u D σ H1
theorem ZG {c:Expr} {a b:List Stmt} {tc:TT} (hc:PT X c tc) (ha:XD X a t) (hb:XD X b u):PS X (.If c a b pos) (ZkT tc t u):=by
 intro pins s σ H D I h
 refine wpAny_If (ZK (hc pins s σ H _ I h) fun d s1 ⟨H1,I1,q1⟩=>?_)
 cases d with
 | true=>exact ha pins s1 σ H1 D I1 q1
 | false=>exact hb pins s1 σ H1 D I1 q1
def ZkU:TS:=fun _ _ _=>False
theorem Vh:PS X st ZkU:=fun _ _ _ _ _ _ h=>h.elim
end
abbrev TG:=V→St→Hp→(St→Hp→Prop)→Prop
abbrev Qc:=List V→St→Hp→(St→Hp→Prop)→Prop
def PG (X:Cx) (target:Expr) (t:TG):Prop :=
 ∀ (pins:List (Addr×Obj)) (s:Shared) (σ:St) (H:Hp) (v:V) (u:Value) (Q:St→Hp→Prop),Zd X pins σ H s→ZY v u→t v σ H Q →
  wpAny (model X.prog X.w) X.A (assign target X.env u) (fun _ s'=>∃ σ' H',Zd X pins σ' H' s'∧Q σ' H') X.xe s
def PGs (X:Cx) (ts:List Expr) (t:Qc):Prop :=
 ∀ (pins:List (Addr×Obj)) (s:Shared) (σ:St) (H:Hp) (vs:List V) (us:List Value) (Q:St→Hp→Prop),Zd X pins σ H s→ZJ vs us→t vs σ H Q →
  wpAny (model X.prog X.w) X.A (assignInOrder ((assignEach ts X.env).map (·.2)) us) (fun _ s'=>∃ σ' H',Zd X pins σ' H' s'∧Q σ' H') X.xe s
abbrev ZdA:=V→V→V→Hp→(Hp→Prop)→Prop
def Zge (X:Cx) (t:ZdA):Prop :=
 ∀ (pins:List (Addr×Obj)) (s:Shared) (σ:St) (H:Hp) (o i v:V) (ov iv u:Value) (Q:Hp→Prop),Zd X pins σ H s→ZY o ov→ZY i iv→ZY v u→t o i v H Q →
  wpAny (model X.prog X.w) X.A (setItem ov iv u) (fun _ s'=>∃ H',Zd X pins σ H' s'∧Q H') X.xe s
section
variable {X:Cx} {pos:Pos}
def Xs (i:Nat):TG:=fun v σ H Q=>Q (σ.set i (some v)) H
theorem Y6 {i:Nat} {x:Str} (hN:X.N.Nodup) (hi:X.N[i]? = some x) (hx:Loc X.env.scope x) (hf:X.fn x=true∨X.env.scope.names.lookup x=some .local:=by first | exact .inl rfl | exact .inr rfl | assumption):PG X (.Name x pos) (Xs i):=by
 intro pins s σ H v u Q I r h
 exact wpAny_assign_Name (Zdy I hN hi hx r (fun s' I'=>⟨_,H,I',h⟩) hf)
def Zgf:Qc:=fun vs σ H Q=>vs=[]∧Q σ H
def Zgg (t:TG) (u:Qc):Qc:=fun vs σ H Q=>∃ v r,vs=v::r∧t v σ H fun σ' H'=>u r σ' H' Q
theorem ZkV:PGs X [] Zgf:=by
 intro pins s σ H vs us Q I r h
 obtain ⟨e,h⟩:=h
 subst e
 cases r
 exact assignInOrder_nil ⟨σ,H,I,h⟩
theorem Zgh {e:Expr} {es:List Expr} {t:TG} {u:Qc} (h1:PG X e t) (h2:PGs X es u)
  (hs:(assignEach (e::es) X.env).map (·.2)=assign e X.env::(assignEach es X.env).map (·.2):=by rfl):PGs X (e::es) (Zgg t u):=by
 intro pins s σ H vs us Q I r h
 obtain ⟨v,vr,e1,h⟩:=h
 subst e1
 cases r with
 | cons r rr =>
  rw [hs]
  refine assignInOrder_cons (ZK (h1 pins s σ H _ _ _ I r h) fun _ s1 ⟨σ1,H1,I1,q1⟩=>?_)
  exact h2 pins s1 σ1 H1 _ _ Q I1 rr q1
def Zgi (K:PySem.W.Frag) (n:Nat) (t:Qc):TG:=fun v σ H Q=>∃ a xs,v=.ref a∧Zi K H a xs∧xs.length=n∧t xs σ H Q
theorem ZkW {es:List Expr} {k:Nat} {t:Qc} {n:Nat} (hc:X.calm=true) (h:PGs X es t)
  (hn:(assignEach es X.env).length=n:=by rfl) (hst:(assignEach es X.env).findIdx? (·.1)=none:=by rfl):PG X (.Tuple es k pos) (Zgi X.K n t):=by
 intro pins s σ H v u Q I r hw
 obtain ⟨a,xs,e1,hq,hl,hw⟩:=hw
 subst e1
 cases r
 obtain ⟨its,rv,ht,hz⟩:=I.tuple hq
 refine assign_Tuple_tuple (I.ok.hd hc) ht (by simp [hn,← hl,rv.length]) hst fun h' hx=>?_
 have I1:Zd X pins σ H { s with heap:=h' }:=I.kept (t':=s.toks) fun b o e=>hx b o (Nat.ne_of_lt (Heap.lt_size e)) e
 exact h pins _ σ H xs _ Q I1 (by simpa using rv) hw
def ZkX (to ti:TE) (t:ZdA):TG:=fun v σ H Q=>to σ H fun o H1=>ti σ H1 fun i H2=>t o i v H2 fun H3=>Q σ H3
theorem ZkY {o i:Expr} {to ti:TE} {t:ZdA} (ho:PE X o to) (hi:PE X i ti) (hs:Zge X t)
  (ha:∀ v,assign (.Subscript o i pos) X.env v=(do
   let ov ← holding [v] (eval o X.env)
   let iv ← holding [v,ov] (eval i X.env)
   standAt pos
   holding [v,ov,iv] (setItem ov iv v)
   release [v,ov,iv] []):=by intro _;rfl):PG X (.Subscript o i pos) (ZkX to ti t):=by
 intro pins s σ H v u Q I r h
 rw [ha]
 refine wpAny_bind (wpAny_holding (ZK (ho pins s σ H _ I h) fun ov s1 ⟨x,H1,I1,r1,q1⟩=>?_))
 refine wpAny_bind (wpAny_holding (ZK (hi pins s1 σ H1 _ I1 q1) fun iv s2 ⟨y,H2,I2,r2,q2⟩=>?_))
 refine wpAny_bind (wpAny_standAt (wpAny_bind (wpAny_holding (ZK (hs pins s2 σ H2 x y v ov iv u _ I2 r1 r2 r q2) fun _ s3 ⟨H3,I3,q3⟩=>?_))))
 exact wpAny_release ⟨σ,H3,I3,q3⟩
def ZdB (te:TE) (g:TG):TS:=fun D σ H=>te σ H fun x H1=>g x σ H1 D.nx
theorem ZkZ {tg e:Expr} {te:TE} {g:TG} (he:PE X e te) (hg:PG X tg g) (hs:swapsWithSole [tg] e pos.line X.env=pure false:=by rfl) (hw:swappedStores [tg] e X.env=pure none:=by rfl)
  (h1:(assignEach [tg] X.env).map (·.2)=[assign tg X.env]:=by rfl):PS X (.Assign [tg] e pos) (ZdB te g):=by
 intro pins s σ H D I h
 refine wpAny_Assign_stores (ZK (he pins s σ H _ I h) fun v s1 ⟨x,H1,I1,r1,q1⟩=>?_) hs hw
 rw [h1]
 exact ZK (hg pins s1 σ H1 x v _ I1 r1 q1) fun _ s2 q=>q
theorem ZT {i:Nat} {x:Str} {e:Expr} {te:TE} {pos':Pos} (hN:X.N.Nodup) (hi:X.N[i]? = some x) (hx:Loc X.env.scope x) (he:PE X e te) (hs:swapsWith e (some (.Name x pos')) pos.line X.env=pure false:=by rfl) (hf:X.fn x=true∨X.env.scope.names.lookup x=some .local:=by first | exact .inl rfl | exact .inr rfl | assumption) :
  PS X (.Assign [.Name x pos'] e pos) (ZdB te (Xs i)):=by
 intro pins s σ H D I h
 refine wpAny_Assign_Name (ZK (he pins s σ H _ I h) fun v s1 ⟨y,H1,I1,r1,q1⟩=>?_) hs
 exact Zdy I1 hN hi hx r1 (fun s2 I2=>⟨_,H1,I2,q1⟩) hf
end
section
variable {X:Cx} {pos:Pos}
end
structure It where
 go:Nat→Hp→Prop
 yld:Nat→Hp→V→Hp→Prop
 stop:Nat→Hp→Prop
def Wd (X:Cx) (pins:List (Addr×Obj)) (H:Hp) (b:Addr):Prop :=
 H b=none∧b≠X.env.locals∧b∉X.fs∧(b∈X.ex∨X.s₀.heap.objs.size≤b)∧(∀ x c,X.env.cells.lookup x=some c→c≠b)∧∀ p∈X.pn++pins,p.1≠b
theorem Zd.fpOk {X:Cx} {pins:List (Addr×Obj)} {σ:St} {H H':Hp} {s:Shared} {b:Addr} (I:Zd X pins σ H s) (hb:s.heap.objs.size≤b) (hn:H' b=none):Wd X pins H' b:=by
 refine ⟨hn,Nat.ne_of_gt (Nat.lt_of_lt_of_le I.lt hb),I.nofs hb,.inr (Nat.le_trans I.sz hb),fun x c e z=>?_,fun p hp z=>?_⟩
 ·obtain ⟨v,q⟩:=I.cell x c e
  exact absurd (Nat.lt_of_lt_of_le q.lt (by rw [z];exact hb)) (Nat.lt_irrefl _)
 ·exact absurd (Nat.lt_of_lt_of_le (Heap.lt_size (I.pin p hp).1) (by rw [z];exact hb)) (Nat.lt_irrefl _)
structure QN (P:Program) (w:World) (K:PySem.W.Frag) (tg:Expr) (J:It) (fp:List Addr) (it:Addr) (tn:Nat→Heap→Prop):Prop where
 mem:it∈fp
 obj:∀ i h,tn i h→∀ b∈fp,∃ o,h.get? b=some o∧∀ v,o.data≠.cell v
 keep:∀ i h h',tn i h→(∀ b∈fp,∀ o,h.get? b=some o→h'.get? b=some o)→tn i h'
 item:∀ (X:Cx),X.prog=P→X.w=w→X.K=K→X.calm=true→∀ (i:Nat) (pins:List (Addr×Obj)) (s:Shared) (σ:St) (H:Hp) (E:Value→Shared→Prop),Zd X pins σ H s→(∀ b∈fp,Wd X pins H b)→tn i s.heap→J.go i H →
  wpAny (model P w) X.A (pyNext (.ref it)) (fun r s1=>∃ u,r=some u ∧
   wpAny (model P w) X.A (letOwnedTupleGo tg (.ref it) u) (fun _ s2=>∃ x H',Zd X pins σ H' s2∧ZY x u∧J.yld i H x H'∧tn (i+1) s2.heap∧∀ b∈fp,H' b=none) E s1) E s
 done:∀ (X:Cx),X.prog=P→X.w=w→X.K=K→X.calm=true→∀ (i:Nat) (pins:List (Addr×Obj)) (s:Shared) (σ:St) (H:Hp) (E:Value→Shared→Prop),Zd X pins σ H s→(∀ b∈fp,Wd X pins H b)→tn i s.heap→J.stop i H →
  wpAny (model P w) X.A (pyNext (.ref it)) (fun r s1=>r=none∧Zd X pins σ H s1) E s
 self:∀ (A:Around) (i:Nat) (s:Shared) (Q:Value→Shared→Prop) (E:Value→Shared→Prop),tn i s.heap→Q (.ref it) s→wpAny (model P w) A (pyIter (.ref it)) Q E s
abbrev TI:=St→Hp→(It→Hp→Prop)→Prop
def PIE (X:Cx) (pins:List (Addr×Obj)) (σ:St) (tg:Expr) (R:It→Hp→Prop) (itv:Value) (s2:Shared):Prop :=
 ∃ (it:Addr) (fp:List Addr) (tn:Nat→Heap→Prop) (J:It) (H':Hp),itv=.ref it∧Zd X pins σ H' s2∧QN X.prog X.w X.K tg J fp it tn∧tn 0 s2.heap∧(∀ b∈fp,Wd X pins H' b)∧R J H'
def PI (X:Cx) (tg iter:Expr) (wi:TI):Prop :=
 ∀ (pins:List (Addr×Obj)) (s:Shared) (σ:St) (H:Hp) (R:It→Hp→Prop),Zd X pins σ H s→wi σ H R →
  wpAny (model X.prog X.w) X.A (eval iter X.env) (fun v s1=>wpAny (model X.prog X.w) X.A (pyIter v) (PIE X pins σ tg R) X.xe s1) X.xe s
theorem Zbg {M:Model} {A:Around} {E:Value→Shared→Prop} {s:Shared} {tg:Expr} {it:Addr} {u:Value} {o:Obj} {n:String} {vs:Array Value} {Q:Unit→Shared→Prop} (ho:s.heap.get? it=some o) (hc:o.cls=.type n) (hd:o.data=.fields vs)
    (hn:["enumerate","zip","dict_itemiterator","dict_reverseitemiterator","odict_iterator","itertools.zip_longest","itertools.pairwise"].contains n=false) (hQ:Q () s):wpAny M A (letOwnedTupleGo tg (.ref it) u) Q E s:=by
  unfold letOwnedTupleGo
  cases tg <;> first
    | exact wpAny_pure hQ
    | (cases u <;> first
        | exact wpAny_pure hQ
        | (refine wpAny_bind (wpAny_load ho ?_)
           rw [hc,hd]
           show wpAny M A (if (["enumerate","zip","dict_itemiterator","dict_reverseitemiterator","odict_iterator","itertools.zip_longest","itertools.pairwise"].contains n && vs[0]? == some (rawInt _))=true then _ else _) Q E s
           rw [if_neg (by intro h;rw [hn,Bool.false_and] at h;cases h)]
           exact wpAny_pure hQ))
def UU (K:PySem.W.Frag) (a:Addr):It :=
 ⟨fun i H=>∃ xs x,Zm K H a xs∧xs[i]? = some x,fun i H x H'=>H'=H∧∀ xs,Zm K H a xs→xs[i]? = some x,fun i H=>∃ xs,Zm K H a xs∧xs.length≤i⟩
def Itt (K:PySem.W.Frag) (a:Addr):It :=
 ⟨fun i H=>∃ xs x,Zi K H a xs∧xs[i]? = some x,fun i H x H'=>H'=H∧∀ xs,Zi K H a xs→xs[i]? = some x,fun i H=>∃ xs,Zi K H a xs∧xs.length≤i⟩
def Vi (lo:Int) (n:Nat):It:=⟨fun i _=>i < n,fun i H x H'=>H'=H∧x=.int (lo+i),fun i _=>n≤i⟩
theorem Zk0 {P:Program} {w:World} {K:PySem.W.Frag} {tg:Expr} (a it:Addr):QN P w K tg (UU K a) [it] it (fun i h=>h.IsListIter it a i) where
 mem:=by simp
 obj:=fun i h st b hb=>by
  have e:b=it:=by simpa using hb
  subst e
  obtain ⟨o,e,c,d⟩:=st
  exact ⟨o,e,fun v z=>by rw [d] at z;cases z⟩
 keep:=fun i h h' st k=>st.at fun o e=>k it (by simp) o e
 item:=by
  intro X hP hw hK hc i pins s σ H E I hf st hg
  subst hP hw hK
  obtain ⟨xs,x,hq,hx⟩:=hg
  obtain ⟨its,rv,p,hz⟩:=I.list hq
  obtain ⟨u,hu,ru⟩:=rv.get hx
  obtain ⟨f0,f1,f2,f3,f4,f5⟩:=hf it (by simp)
  refine wpAny_pyNext_list_item st p.isList (x:=u) (by simpa using hu) fun h' st' sb=>?_
  have I1:Zd X pins σ H { s with heap:=h' }:=I.turned (t':=s.toks) (fun b o hb e=>(sb.2 b hb).trans e) f0 f1 f3 f4 f5
  obtain ⟨o,e,c,d⟩:=id st'
  exact ⟨u,rfl,Zbg (s:={ s with heap:=h' }) e c d (by decide) ⟨x,H,I1,ru,⟨rfl,fun ys hy=>by rw [I.list_inj hy hq];exact hx⟩,st',fun b hb=>(hf b hb).1⟩⟩
 done:=by
  intro X hP hw hK hc i pins s σ H E I hf st hg
  subst hP hw hK
  obtain ⟨xs,hq,hx⟩:=hg
  obtain ⟨its,rv,p,hz⟩:=I.list hq
  obtain ⟨f0,f1,f2,f3,f4,f5⟩:=hf it (by simp)
  have hl:=rv.length
  exact wpAny_pyNext_list_end (I.ok.hd hc) st p.isList (by simp;omega) fun h' eb=>⟨rfl,I.turned (t':=s.toks) (fun b o hb e=>eb b o hb e) f0 f1 f3 f4 f5⟩
 self:=fun _ _ _ _ _ st h=>wpAny_pyIter_listiter st h
theorem Zk1 {P:Program} {w:World} {K:PySem.W.Frag} {tg:Expr} (a it:Addr):QN P w K tg (Itt K a) [it] it (fun i h=>h.IsTupleIter it a i) where
 mem:=by simp
 obj:=fun i h st b hb=>by
  have e:b=it:=by simpa using hb
  subst e
  obtain ⟨o,e,c,d⟩:=st
  exact ⟨o,e,fun v z=>by rw [d] at z;cases z⟩
 keep:=fun i h h' st k=>st.at fun o e=>k it (by simp) o e
 item:=by
  intro X hP hw hK hc i pins s σ H E I hf st hg
  subst hP hw hK
  obtain ⟨xs,x,hq,hx⟩:=hg
  obtain ⟨its,rv,p,hz⟩:=I.tuple hq
  obtain ⟨u,hu,ru⟩:=rv.get hx
  obtain ⟨f0,f1,f2,f3,f4,f5⟩:=hf it (by simp)
  refine wpAny_pyNext_tuple_item st (show s.heap.IsTuple a its.toArray from p) (x:=u) (by simpa using hu) fun h' st' sb=>?_
  have I1:Zd X pins σ H { s with heap:=h' }:=I.turned (t':=s.toks) (fun b o hb e=>(sb.2 b hb).trans e) f0 f1 f3 f4 f5
  obtain ⟨o,e,c,d⟩:=id st'
  exact ⟨u,rfl,Zbg (s:={ s with heap:=h' }) e c d (by decide) ⟨x,H,I1,ru,⟨rfl,fun ys hy=>by rw [I.tuple_inj hy hq];exact hx⟩,st',fun b hb=>(hf b hb).1⟩⟩
 done:=by
  intro X hP hw hK hc i pins s σ H E I hf st hg
  subst hP hw hK
  obtain ⟨xs,hq,hx⟩:=hg
  obtain ⟨its,rv,p,hz⟩:=I.tuple hq
  obtain ⟨f0,f1,f2,f3,f4,f5⟩:=hf it (by simp)
  have hl:=rv.length
  exact wpAny_pyNext_tuple_end (I.ok.hd hc) st (show s.heap.IsTuple a its.toArray from p) (by simp;omega) fun h' eb=>⟨rfl,I.turned (t':=s.toks) (fun b o hb e=>eb b o hb e) f0 f1 f3 f4 f5⟩
 self:=fun _ _ _ _ _ st h=>wpAny_pyIter_tupleiter st h
theorem Zk2 {P:Program} {w:World} {K:PySem.W.Frag} {tg:Expr} (it:Addr) (lo:Int) (n:Nat):QN P w K tg (Vi lo n) [it] it (fun i h=>IsRangeIter h it (lo+(i:Nat) * 1) ((n:Int) - (i:Nat)) 1) where
 mem:=by simp
 obj:=fun i h st b hb=>by
  have e:b=it:=by simpa using hb
  subst e
  exact ⟨_,st,fun v z=>by
   have z':Data.fields _=Data.cell v:=z
   cases z'⟩
 keep:=fun i h h' st k=>k it (by simp) _ st
 item:=by
  intro X hP hw hK hc i pins s σ H E I hf st hg
  subst hP hw hK
  obtain ⟨f0,f1,f2,f3,f4,f5⟩:=hf it (by simp)
  have W:=Walks.range (prog:=X.prog) (w:=X.w) (I.ok.hd hc) it lo 1 n
  refine W.item i s _ _ hg st fun v h' tk hv st' kk=>?_
  obtain ⟨t,rfl⟩:=hv
  have I1:Zd X pins σ H { s with heap:=h',toks:=tk }:=I.turned (fun b o hb e=>kk b o (by simpa using hb) e) f0 f1 f3 f4 f5
  refine ⟨_,rfl,Zbg (s:={ s with heap:=h',toks:=tk }) (n := "range_iterator") st' rfl rfl (by decide) ⟨.int (lo+i),H,I1,⟨t,?_⟩,⟨rfl,rfl⟩,st',fun b hb=>(hf b hb).1⟩⟩
  rw [Int.mul_one]
 done:=by
  intro X hP hw hK hc i pins s σ H E I hf st hg
  subst hP hw hK
  obtain ⟨f0,f1,f2,f3,f4,f5⟩:=hf it (by simp)
  exact wpAny_pyNext_range_end (I.ok.hd hc) st (by have:n≤i:=hg;omega) fun h' eb=>⟨rfl,I.turned (t':=s.toks) (fun b o hb e=>eb b o hb e) f0 f1 f3 f4 f5⟩
 self:=fun _ _ _ _ _ st h=>wpAny_pyIter_rangeiter st h
end L2
namespace L2
open PySem PySem.Spec PyProof.Rows
section
variable {X:Cx} {tg:Expr}
def Zk3 (K:PySem.W.Frag) (tl:TE):TI:=fun σ H R=>tl σ H fun x H1=>∃ a,x=.ref a∧(∃ xs,Zm K H1 a xs)∧R (UU K a) H1
def Zk4 (K:PySem.W.Frag) (tl:TE):TI:=fun σ H R=>tl σ H fun x H1=>∃ a,x=.ref a∧(∃ xs,Zi K H1 a xs)∧R (Itt K a) H1
theorem WD {l:Expr} {tl:TE} (hl:PE X l tl):PI X tg l (Zk3 X.K tl):=by
 intro pins s σ H R I h
 refine ZK (hl pins s σ H _ I h) fun v s1 ⟨x,H1,I1,r1,q1⟩=>?_
 obtain ⟨a,e,⟨xs,hq⟩,q⟩:=q1
 subst e
 cases r1
 obtain ⟨its,rv,p,hz⟩:=I1.list hq
 refine wpAny_pyIter_list p.isList ?_
 refine ⟨s1.heap.objs.size,[s1.heap.objs.size],_,_,H1,rfl,I1.kept (t':=s1.toks) fun b o e=>Heap.get?_push_of_some _ e,Zk0 a _,⟨_,Heap.get?_push_size _ rfl,rfl,rfl⟩,fun b hb=>?_,q⟩
 have e:b=s1.heap.objs.size:=by simpa using hb
 subst e
 exact I1.fpOk (Nat.le_refl _) (I1.hok.fresh (Nat.le_refl _))
theorem Zk5 {l:Expr} {tl:TE} (hl:PE X l tl):PI X tg l (Zk4 X.K tl):=by
 intro pins s σ H R I h
 refine ZK (hl pins s σ H _ I h) fun v s1 ⟨x,H1,I1,r1,q1⟩=>?_
 obtain ⟨a,e,⟨xs,hq⟩,q⟩:=q1
 subst e
 cases r1
 obtain ⟨its,rv,p,hz⟩:=I1.tuple hq
 refine wpAny_pyIter_tuple (show s1.heap.IsTuple a its.toArray from p) ?_
 refine ⟨s1.heap.objs.size,[s1.heap.objs.size],_,_,H1,rfl,I1.kept (t':=s1.toks) fun b o e=>Heap.get?_push_of_some _ e,Zk1 a _,⟨_,Heap.get?_push_size _ rfl,rfl,rfl⟩,fun b hb=>?_,q⟩
 have e:b=s1.heap.objs.size:=by simpa using hb
 subst e
 exact I1.fpOk (Nat.le_refl _) (I1.hok.fresh (Nat.le_refl _))
theorem Zk6 {pins:List (Addr×Obj)} {σ:St} {H:Hp} {s:Shared} {R:It→Hp→Prop} {E:Value→Shared→Prop} {lo hi:Int} {t u v:Tok} {tk:Nat} (I:Zd X pins σ H s) (h1:-(2 ^ 62)≤lo) (h2:lo < 2 ^ 62) (h3:-(2 ^ 62)≤hi) (h4:hi < 2 ^ 62)
  (q:R (Vi lo (hi - lo).toNat) H):wpAny (model X.prog X.w) X.A (pyIter (.ref s.heap.objs.size)) (PIE X pins σ tg R) E { s with heap:=s.heap.push { cls:=.type "range",data:=.fields #[.int lo t,.int hi u,.int 1 v] },toks:=tk }:=by
 refine wpAny_pyIter_range (IsRange.new ..) (small_one h1 h2 h3 h4) ?_
 have I1:Zd X pins σ H { s with heap:=s.heap.push { cls:=.type "range",data:=.fields #[.int lo t,.int hi u,.int 1 v] },toks:=tk }:=I.kept fun b o e=>Heap.get?_push_of_some _ e
 refine ⟨(s.heap.push { cls:=.type "range",data:=.fields #[.int lo t,.int hi u,.int 1 v] }).objs.size,[(s.heap.push { cls:=.type "range",data:=.fields #[.int lo t,.int hi u,.int 1 v] }).objs.size],_,_,H,rfl,
  I1.kept (t':=tk) fun b o e=>Heap.get?_push_of_some _ e,Zk2 _ lo (hi - lo).toNat,?_,fun b hb=>?_,q⟩
 ·have e1:lo+((0:Nat):Int) * 1=lo:=by simp
  have e2:(((hi - lo).toNat:Nat):Int) - ((0:Nat):Int)=Builtin.Range.rangeSize lo hi 1:=by rw [rangeSize_one];split <;> omega
  show IsRangeIter _ _ (lo+((0:Nat):Int) * 1) ((((hi - lo).toNat:Nat):Int) - ((0:Nat):Int)) 1
  rw [e1,e2]
  exact Heap.get?_push_size _ rfl
 ·have e:b=(s.heap.push { cls:=.type "range",data:=.fields #[.int lo t,.int hi u,.int 1 v] }).objs.size:=by simpa using hb
  subst e
  exact I1.fpOk (Nat.le_refl _) (I1.hok.fresh (Nat.le_refl _))
def Zk7 (ta:TA):TI:=fun σ H R=>ta σ H fun vs H1=>∃ j:Int,vs=[.int j]∧-(2 ^ 62)≤j∧j < 2 ^ 62∧R (Vi 0 j.toNat) H1
theorem QO {a:Expr} {ta:TA} {p pos:Pos} (hg:Gl X "range") (hm:X.mg "range" = none) (ha:PA X [a] ta) (hs:starEach [a] X.env=[(false,eval a X.env)]:=by rfl):PI X tg (.Call (.Name "range" p) [a] [] pos) (Zk7 ta):=by
 intro pins s σ H R I h
 refine Call_ (UQ I hg hm boot_range (PyProof.Rows.callWith_type1 (ZK (ha pos pins s σ H _ I h) fun us s1 ⟨vs,H1,I1,r1,q1⟩=>?_) hs rfl))
 obtain ⟨j,e,q1,q2,q⟩:=q1
 subst e
 cases r1 with
 | cons r rr =>
  cases rr
  obtain ⟨t,rfl⟩:=r
  exact call_range_1 (Zk6 I1 (by omega) (by omega) q1 q2 (by simpa using q))
def Zk8 (wi:TI) (g:TG) (tb:TS):TS:=fun D σ H=>wi σ H fun J H1=>∃ W:Nat→Nat→St→Hp→Prop,(∃ m,W 0 m σ H1)∧∀ i m σ H,W i m σ H →
 (J.stop i H∧D.nx σ H)∨(J.go i H∧∃ N:St→Hp→Prop,(∀ σ' H',N σ' H'→∃ m',m' < m∧W (i+1) m' σ' H')∧∀ x H',J.yld i H x H'→g x σ H' fun σ2 H2=>tb { D with nx:=N,ct:=N,bk:=D.nx } σ2 H2)
def WU (fp:List Addr) (h:Heap):List (Addr×Obj):=fp.filterMap fun b=>(h.get? b).map fun o=>(b,o)
theorem QP {fp:List Addr} {h:Heap} {b:Addr} {o:Obj} (hb:b∈fp) (e:h.get? b=some o):(b,o)∈WU fp h:=List.mem_filterMap.mpr ⟨b,hb,by rw [e];rfl⟩
theorem Zk9 {fp:List Addr} {h:Heap} {p:Addr×Obj} (hp:p∈WU fp h):p.1∈fp∧h.get? p.1=some p.2:=by
 obtain ⟨b,hb,e⟩:=List.mem_filterMap.mp hp
 cases q:h.get? b with
 | none=>rw [q] at e;cases e
 | some o =>
  rw [q] at e
  have e':(b,o)=p:=Option.some.inj e
  subst e'
  exact ⟨hb,q⟩
theorem Zd.pinned {pins:List (Addr×Obj)} {σ:St} {H:Hp} {s:Shared} {fp:List Addr} (I:Zd X pins σ H s) (hf:∀ b∈fp,Wd X pins H b) (ho:∀ b∈fp,∃ o,s.heap.get? b=some o∧∀ v,o.data≠.cell v):Zd X (pins++WU fp s.heap) σ H s :=
 I.pins_of fun p hp=>(List.mem_append.mp hp).elim (fun z=>I.pin p (List.mem_append_right _ z)) fun z=>by
  obtain ⟨hb,e⟩:=Zk9 z
  obtain ⟨f0,f1,f2,_⟩:=hf p.1 hb
  obtain ⟨o,e',d⟩:=ho p.1 hb
  rw [e] at e';cases e'
  exact ⟨e,f0,f1,f2,d⟩
theorem Zd.unpinned {pins pl:List (Addr×Obj)} {σ:St} {H:Hp} {s:Shared} (I:Zd X (pins++pl) σ H s):Zd X pins σ H s:=I.pins_of fun p hp=>I.pin p (List.mem_append_right _ (List.mem_append_left _ hp))
theorem Qd {iter:Expr} {body:List Stmt} {wi:TI} {g:TG} {tb:TS} {pos:Pos} (hp:PassesOwn (model X.prog X.w) X.A X.env X.xe) (hc:X.calm=true) (hi:PI X tg iter wi) (hg:PG X tg g) (hb:XD X body tb)
  (hs:∀ x,foldedSetIterable iter X.env x=pure x:=by intro _;rfl):PS X (.For tg iter body [] pos) (Zk8 wi g tb):=by
 intro pins s σ H D I h
 refine wpAny_For (ZK (hi pins s σ H _ I h) fun v s1 h1=>ZK h1 fun itv s2 h2=>?_) hs
 obtain ⟨it,fp,tn,J,H2,e,I2,T,st2,f2,W,⟨m0,w0⟩,turn⟩:=h2
 subst e
 -- what stays true of the iterator's objects through the loop
 have stat:∀ {H':Hp},(∀ b∈fp,H' b=none)→∀ b∈fp,Wd X pins H' b:=fun hn b hb=>⟨hn b hb,(f2 b hb).2⟩
 refine codeAny_forLoop_any (fun n s'=>∃ i σ' H',Zd X pins σ' H' s'∧tn i s'.heap∧(∀ b∈fp,H' b=none)∧W i n σ' H') ?_ m0 ⟨0,σ,H2,I2,st2,fun b hb=>(f2 b hb).1,w0⟩
 rintro n s3 ⟨i,σ3,H3,I3,st3,fr3,w3⟩
 rcases turn i n σ3 H3 w3 with ⟨stop,qn⟩ | ⟨go,N,hN,step⟩
 ·refine wpAny_passesOwn hp (ZK (T.done X rfl rfl rfl hc i pins s3 σ3 H3 X.xe I3 (stat fr3) st3 stop) fun r s4 ⟨hr,I4⟩=>?_)
  subst hr
  exact wpAny_execs_nil ⟨σ3,H3,I4,qn⟩
 ·refine wpAny_passesOwn hp (ZK (T.item X rfl rfl rfl hc i pins s3 σ3 H3 X.xe I3 (stat fr3) st3 go) fun r s4 ⟨u,hr,h4⟩=>?_)
  subst hr
  refine wpAny_passesOwn hp (ZK h4 fun _ s5 ⟨x,H5,I5,r5,y5,st5,fr5⟩=>?_)
  have I5':=I5.pinned (stat fr5) (T.obj _ _ st5)
  refine wpAny_passesOwn hp (ZK (hg _ s5 σ3 H5 x u _ I5' r5 (step x H5 y5)) fun _ s6 ⟨σ6,H6,I6,q6⟩=>?_)
  refine wpAny_passesOwn hp (ZK (hb _ s6 σ6 H6 _ I6 q6) fun f s7 q7=>?_)
  have again:∀ {σ7:St} {H7:Hp},Zd X (pins++WU fp s5.heap) σ7 H7 s7→N σ7 H7→∃ m,m < n∧∃ i σ' H',Zd X pins σ' H' s7∧tn i s7.heap∧(∀ b∈fp,H' b=none)∧W i m σ' H':=fun {σ7 H7} I7 n7=>by
   obtain ⟨m',hm,w7⟩:=hN σ7 H7 n7
   refine ⟨m',hm,i+1,σ7,H7,I7.unpinned,T.keep _ _ _ st5 fun b hb o e=>(I7.pin (b,o) (List.mem_append_right _ (List.mem_append_right _ (QP hb e)))).1,fun b hb=>?_,w7⟩
   obtain ⟨o,e,d⟩:=T.obj _ _ st5 b hb
   exact (I7.pin (b,o) (List.mem_append_right _ (List.mem_append_right _ (QP hb e)))).2.1
  cases f with
  | next=>obtain ⟨σ7,H7,I7,n7⟩:=q7;exact again I7 n7
  | cont=>obtain ⟨σ7,H7,I7,n7⟩:=q7;exact again I7 n7
  | brk=>obtain ⟨σ7,H7,I7,q7⟩:=q7;exact ⟨σ7,H7,I7.unpinned,q7⟩
  | ret v=>obtain ⟨x7,σ7,H7,I7,r7,q7⟩:=q7;exact ⟨x7,σ7,H7,I7.unpinned,r7,q7⟩
end
theorem ZdC {K:PySem.W.Frag} {a:Addr} {xs:List V} {g:TG} {tb:TS} {D:UO} {σ:St} {H:Hp} (Pv:Nat→St→Hp→Prop) (h0:Pv 0 σ H) (hl:∀ i σ H,i≤xs.length→Pv i σ H→Zm K H a xs)
  (hs:∀ i x σ H,xs[i]? = some x→Pv i σ H→g x σ H fun σ2 H2=>tb { D with nx:=Pv (i+1),ct:=Pv (i+1),bk:=D.nx } σ2 H2) (hd:∀ σ H,Pv xs.length σ H→D.nx σ H) :
  ∃ W:Nat→Nat→St→Hp→Prop,(∃ m,W 0 m σ H)∧∀ i m σ H,W i m σ H →
   ((UU K a).stop i H∧D.nx σ H)∨((UU K a).go i H∧∃ N:St→Hp→Prop,(∀ σ' H',N σ' H'→∃ m',m' < m∧W (i+1) m' σ' H')∧∀ x H',(UU K a).yld i H x H'→g x σ H' fun σ2 H2=>tb { D with nx:=N,ct:=N,bk:=D.nx } σ2 H2):=by
 refine ⟨fun i m σ H=>m=xs.length - i∧i≤xs.length∧Pv i σ H,⟨xs.length,by simp,Nat.zero_le _,h0⟩,?_⟩
 rintro i m σ H ⟨rfl,hi,p⟩
 have q:=hl i σ H hi p
 by_cases hlt:i < xs.length
 ·refine .inr ⟨⟨xs,xs[i],q,by simp [hlt]⟩,Pv (i+1),fun σ' H' p'=>⟨xs.length - (i+1),by omega,rfl,hlt,p'⟩,fun x H' y=>?_⟩
  obtain ⟨e,y⟩:=y
  subst e
  exact hs i x σ _ (y xs q) p
 ·have e:i=xs.length:=by omega
  subst e
  exact .inl ⟨⟨xs,q,Nat.le_refl _⟩,hd σ H p⟩
theorem ZdD {lo:Int} {n:Nat} {g:TG} {tb:TS} {D:UO} {σ:St} {H:Hp} (Pv:Nat→St→Hp→Prop) (h0:Pv 0 σ H)
  (hs:∀ i σ H,i < n→Pv i σ H→g (.int (lo+i)) σ H fun σ2 H2=>tb { D with nx:=Pv (i+1),ct:=Pv (i+1),bk:=D.nx } σ2 H2) (hd:∀ σ H,Pv n σ H→D.nx σ H) :
  ∃ W:Nat→Nat→St→Hp→Prop,(∃ m,W 0 m σ H)∧∀ i m σ H,W i m σ H →
   ((Vi lo n).stop i H∧D.nx σ H)∨((Vi lo n).go i H∧∃ N:St→Hp→Prop,(∀ σ' H',N σ' H'→∃ m',m' < m∧W (i+1) m' σ' H')∧∀ x H',(Vi lo n).yld i H x H'→g x σ H' fun σ2 H2=>tb { D with nx:=N,ct:=N,bk:=D.nx } σ2 H2):=by
 refine ⟨fun i m σ H=>m=n - i∧i≤n∧Pv i σ H,⟨n,by simp,Nat.zero_le _,h0⟩,?_⟩
 rintro i m σ H ⟨rfl,hi,p⟩
 by_cases hlt:i < n
 ·refine .inr ⟨hlt,Pv (i+1),fun σ' H' p'=>⟨n - (i+1),by omega,rfl,hlt,p'⟩,fun x H' y=>?_⟩
  obtain ⟨e,y⟩:=y
  subst e y
  exact hs i σ _ hlt p
 ·have e:i=n:=by omega
  subst e
  exact .inl ⟨Nat.le_refl _,hd σ H p⟩
end L2
namespace L2
open PySem PySem.Spec PyProof.Rows
abbrev R2:=V→V→Hp→VK→Prop
def Yk (X:Cx) (f:Value→Value→Sem Value) (r:R2):Prop :=
 ∀ (pins:List (Addr×Obj)) (s:Shared) (σ:St) (H:Hp) (x y:V) (v u:Value) (Q:VK),Zd X pins σ H s→ZY x v→ZY y u→r x y H Q →
  wpAny (model X.prog X.w) X.A (f v u) (EP X pins σ Q) X.xe s
def UnR (X:Cx) (f:Value→Sem Value) (r:V→Hp→VK→Prop):Prop :=
 ∀ (pins:List (Addr×Obj)) (s:Shared) (σ:St) (H:Hp) (x:V) (v:Value) (Q:VK),Zd X pins σ H s→ZY x v→r x H Q →
  wpAny (model X.prog X.w) X.A (f v) (EP X pins σ Q) X.xe s
def Xg (X:Cx) (f:Value) (r:List V→Hp→VK→Prop):Prop :=
 ∀ (pins:List (Addr×Obj)) (s:Shared) (σ:St) (H:Hp) (xs:List V) (us:List Value) (Q:VK),Zd X pins σ H s→ZJ xs us→r xs H Q →
  wpAny (model X.prog X.w) X.A (call f us) (EP X pins σ Q) X.xe s
def tOp (r:R2) (ta tb:TE):TE:=fun σ H Q=>ta σ H fun x H1=>tb σ H1 fun y H2=>r x y H2 Q
def tUn (r:V→Hp→VK→Prop) (ta:TE):TE:=fun σ H Q=>ta σ H fun x H1=>r x H1 Q
def rI (C:Int→Int→Prop) (g:Int→Int→V):R2:=fun x y H Q=>∃ i j,x=.int i∧y=.int j∧C i j∧Q (g i j) H
def Vj (g:Int→Int→V):R2:=fun x y H Q=>∃ i j,x=.int i∧y=.int j∧Q (g i j) H
def rU (g:Int→V):V→Hp→VK→Prop:=fun x H Q=>∃ i,x=.int i∧Q (g i) H
section
variable {X:Cx} {a b c:Expr} {ta tb tc:TE} {pos:Pos}
theorem ZdE (ha:PE X a ta) (hb:PE X b tb) {pins:List (Addr×Obj)} {s:Shared} {σ:St} {H:Hp} {R:V→V→Hp→Prop} (I:Zd X pins σ H s)
  (h:ta σ H fun x H1=>tb σ H1 fun y H2=>R x y H2) {Q:Value→Shared→Prop} {f:Value→Value→Sem Value}
  (hf:∀ v u s2 x y H2,Zd X pins σ H2 s2→ZY x v→ZY y u→R x y H2→wpAny (model X.prog X.w) X.A (f v u) Q X.xe s2) :
  wpAny (model X.prog X.w) X.A (eval a X.env) (fun v s₁=>wpAny (model X.prog X.w) X.A (eval b X.env) (fun u s₂=>wpAny (model X.prog X.w) X.A (f v u) Q X.xe s₂) X.xe s₁) X.xe s:=by
 refine ZK (ha pins s σ H _ I h) fun v s1 ⟨x,H1,I1,r1,q1⟩=>?_
 refine ZK (hb pins s1 σ H1 _ I1 q1) fun u s2 ⟨y,H2,I2,r2,q2⟩=>?_
 exact hf v u s2 x y H2 I2 r1 r2 q2
theorem ZB {op:Operator} {r:R2} (ho:Yk X (binaryOp op) r) (ha:PE X a ta) (hb:PE X b tb):PE X (.BinOp a op b pos) (tOp r ta tb):=by
 intro pins s σ H Q I h
 exact wpAny_BinOp (ZdE ha hb I h fun v u s2 x y H2 I2 rx ry q=>ho pins s2 σ H2 x y v u Q I2 rx ry q)
theorem Zgj {op:UnaryOp} {r:V→Hp→VK→Prop} (ho:UnR X (unaryOp op) r) (ha:PE X a ta):PE X (.UnaryOp op a pos) (tUn r ta):=by
 intro pins s σ H Q I h
 exact UnaryOp_ (ZK (ha pins s σ H _ I h) fun v s1 ⟨x,H1,I1,r1,q1⟩=>ho pins s1 σ H1 x v Q I1 r1 q1)
theorem opI {f:Value→Value→Sem Value} {C:Int→Int→Prop} {g:Int→Int→Int}
  (rule:∀ (i j:Int) (t u:Tok) (s:Shared) (Q:Value→Shared→Prop) (E:Value→Shared→Prop),C i j→Q (.int (g i j) s.toks) { s with toks:=s.toks+1 }→wpAny (model X.prog X.w) X.A (f (.int i t) (.int j u)) Q E s) :
  Yk X f (rI C fun i j=>.int (g i j)):=by
 intro pins s σ H x y v u Q I rx ry h
 obtain ⟨i,j,rfl,rfl,hc,q⟩:=h
 obtain ⟨t,rfl⟩:=rx
 obtain ⟨t',rfl⟩:=ry
 exact rule i j t t' s _ _ hc ⟨.int (g i j),H,I.tok _,⟨_,rfl⟩,q⟩
theorem ZdF {f:Value→Value→Sem Value} {g:Int→Int→Int}
  (rule:∀ (i j:Int) (t u:Tok) (s:Shared) (Q:Value→Shared→Prop) (E:Value→Shared→Prop),Q (.int (g i j) s.toks) { s with toks:=s.toks+1 }→wpAny (model X.prog X.w) X.A (f (.int i t) (.int j u)) Q E s) :
  Yk X f (Vj fun i j=>.int (g i j)):=by
 intro pins s σ H x y v u Q I rx ry h
 obtain ⟨i,j,rfl,rfl,q⟩:=h
 obtain ⟨t,rfl⟩:=rx
 obtain ⟨t',rfl⟩:=ry
 exact rule i j t t' s _ _ ⟨.int (g i j),H,I.tok _,⟨_,rfl⟩,q⟩
theorem Zbh {f:Value→Value→Sem Value} {g:Int→Int→Bool}
  (rule:∀ (i j:Int) (t u:Tok) (s:Shared) (Q:Value→Shared→Prop) (E:Value→Shared→Prop),Q (.bool (g i j)) s→wpAny (model X.prog X.w) X.A (f (.int i t) (.int j u)) Q E s) :
  Yk X f (Vj fun i j=>.bl (g i j)):=by
 intro pins s σ H x y v u Q I rx ry h
 obtain ⟨i,j,rfl,rfl,q⟩:=h
 obtain ⟨t,rfl⟩:=rx
 obtain ⟨t',rfl⟩:=ry
 exact rule i j t t' s _ _ ⟨.bl (g i j),H,I,rfl,q⟩
def Zla (i j:Int):Prop:=0 < j∧j < 1073741824
def Zlb (i j:Int):Prop:=0≤j∧j≤1000000∧i.natAbs < 2 ^ 64
def Zbi (i j:Int):Prop:=(-(2 ^ 64) < i∧i < 2 ^ 64)∨(-(2 ^ 64) < j∧j < 2 ^ 64)
theorem Zbi.ok {i j:Int} (h:Zbi i j):IntMulOk i j:=by
 rcases h with ⟨h1,h2⟩ | ⟨h1,h2⟩
 ·exact .of_left (intBits_le_64 h1 h2)
 ·exact .of_right (intBits_le_64 h1 h2)
theorem Zlc (k:Nat):(0:Int)≤2 ^ k:=by
 rw [two_pow_cast]
 exact Int.natCast_nonneg _
theorem Y7:Yk X (binaryOp .Add) (Vj fun i j=>.int (i+j)):=ZdF fun _ _ _ _ _ _ _ q=>add_int q
theorem Yq:Yk X (binaryOp .Sub) (Vj fun i j=>.int (i - j)):=ZdF fun _ _ _ _ _ _ _ q=>sub_int q
theorem Zbj:Yk X (binaryOp .Mult) (rI Zbi fun i j=>.int (i * j)):=opI fun _ _ _ _ _ _ _ hc q=>mul_int q hc.ok
theorem QQ:Yk X (binaryOp .FloorDiv) (rI Zla fun i j=>.int (i / j)):=opI fun i j _ _ _ _ _ hc q=>by
 have h1:(0:Int) < j:=hc.1
 have h2:j < 1073741824:=hc.2
 exact floordiv_int (by omega) (by rw [Int.fdiv_eq_ediv_of_nonneg i (by omega)];exact q) (.inl (PyProof.noPylong_small (by omega)))
theorem We:Yk X (binaryOp .Mod) (rI (fun _ j=>0 < j) fun i j=>.int (i % j)):=opI fun i j _ _ _ _ _ hc q=>by
 have h1:(0:Int) < j:=hc
 exact mod_int' (by omega) (by rw [Int.fmod_eq_emod_of_nonneg i (by omega)];exact q)
theorem Zld:Yk X (binaryOp .LShift) (rI Zlb fun i j=>.int (i * 2 ^ j.toNat)):=opI fun _ _ _ _ _ _ _ hc q=>lshift_int_small hc.1 hc.2.1 hc.2.2 q
theorem Zle:Yk X (binaryOp .RShift) (rI (fun _ j=>0≤j) fun i j=>.int (i / 2 ^ j.toNat)):=opI fun i j _ _ _ _ _ hc q =>
 rshift_int hc (by rw [Int.fdiv_eq_ediv_of_nonneg i (Zlc _)];exact q)
theorem Zlf:Yk X (binaryOp .BitAnd) (Vj fun i j=>.int (Builtin.bitAnd i j)):=ZdF fun _ _ _ _ _ _ _ q=>and_int q
theorem unI {f:Value→Sem Value} {g:Int→Int}
  (rule:∀ (i:Int) (t:Tok) (s:Shared) (Q:Value→Shared→Prop) (E:Value→Shared→Prop),Q (.int (g i) s.toks) { s with toks:=s.toks+1 }→wpAny (model X.prog X.w) X.A (f (.int i t)) Q E s) :
  UnR X f (rU fun i=>.int (g i)):=by
 intro pins s σ H x v Q I rx h
 obtain ⟨i,rfl,q⟩:=h
 obtain ⟨t,rfl⟩:=rx
 exact rule i t s _ _ ⟨.int (g i),H,I.tok _,⟨_,rfl⟩,q⟩
theorem Zgk:UnR X (unaryOp .USub) (rU fun i=>.int (-i)):=unI fun _ _ _ _ _ q=>neg_int q
end
def Zgl:V→V→Bool
 | .non,.non=>true | .non,.int _=>true | .int _,.non=>true | .non,.bl _=>true | .bl _,.non=>true | .non,.str _=>true | .str _,.non=>true
 | .int _,.int _=>true | .bl _,.bl _=>true | .str _,.str _=>true | .byt _,.byt _=>true
 | .int _,.str _=>true | .str _,.int _=>true | .bl _,.str _=>true | .str _,.bl _=>true
 | _,_=>false
def rEq:R2:=fun x y H Q=>Zgl x y=true∧Q (.bl (decide (x=y))) H
def rNe:R2:=fun x y H Q=>Zgl x y=true∧Q (.bl (!decide (x=y))) H
theorem UV {i j:Int}:decide (V.int i=V.int j)=(i == j):=by
 rw [Bool.eq_iff_iff]
 simp
theorem Zbk {i j:Bool}:decide (V.bl i=V.bl j)=(i == j):=by
 rw [Bool.eq_iff_iff]
 simp
theorem Zgm {i j:Str}:decide (V.str i=V.str j)=(i == j):=by
 rw [Bool.eq_iff_iff]
 simp
theorem Zgn {i j:Array UInt8}:decide (V.byt i=V.byt j)=(i.toList == j.toList):=by
 rw [Bool.eq_iff_iff]
 cases i
 cases j
 simp
section
variable {X:Cx} {a b c:Expr} {ta tb tc:TE} {pos:Pos}
theorem Ym {pins:List (Addr×Obj)} {σ:St} {H:Hp} {s:Shared} {Q:VK} {k k':Bool} (I:Zd X pins σ H s) (q:Q (.bl k) H) (e:k=k'):EP X pins σ Q (.bool k') s:=by
 subst e
 exact ⟨.bl k,H,I,rfl,q⟩
theorem ZZ:Yk X (compareOp .Eq) rEq:=by
 intro pins s σ H x y v u Q I rx ry h
 obtain ⟨hs,q⟩:=h
 cases x with
 | non =>
  cases rx
  cases y with
  | non=>cases ry;exact PySem.EqNone.eq_none_none (Ym I q (by simp))
  | bl j=>cases ry;exact PySem.EqNone.eq_none_bool (Ym I q (by simp))
  | int j=>obtain ⟨t',rfl⟩:=ry;exact PySem.EqNone.eq_none_int (Ym I q (by simp))
  | str j=>obtain ⟨t',rfl⟩:=ry;exact PySem.EqNone.eq_none_str (Ym I q (by simp))
  | _=>exact absurd (show false=true from hs) Bool.false_ne_true
 | bl i =>
  cases rx
  cases y with
  | non=>cases ry;exact PySem.EqNone.eq_bool_none (Ym I q (by simp))
  | bl j=>cases ry;exact eq_bool (Ym I q Zbk)
  | str j=>obtain ⟨t',rfl⟩:=ry;exact PySem.EqMixed.eq_bool_str (Ym I q (by simp))
  | _=>exact absurd (show false=true from hs) Bool.false_ne_true
 | int i =>
  obtain ⟨t,rfl⟩:=rx
  cases y with
  | non=>cases ry;exact PySem.EqNone.eq_int_none (Ym I q (by simp))
  | int j=>obtain ⟨t',rfl⟩:=ry;exact eq_int (Ym I q UV)
  | str j=>obtain ⟨t',rfl⟩:=ry;exact PySem.EqMixed.eq_int_str (Ym I q (by simp))
  | _=>exact absurd (show false=true from hs) Bool.false_ne_true
 | str i =>
  obtain ⟨t,rfl⟩:=rx
  cases y with
  | non=>cases ry;exact PySem.EqNone.eq_str_none (Ym I q (by simp))
  | bl j=>cases ry;exact PySem.EqMixed.eq_str_bool (Ym I q (by simp))
  | int j=>obtain ⟨t',rfl⟩:=ry;exact PySem.EqMixed.eq_str_int (Ym I q (by simp))
  | str j=>obtain ⟨t',rfl⟩:=ry;exact eq_str (Ym I q Zgm)
  | _=>exact absurd (show false=true from hs) Bool.false_ne_true
 | byt i =>
  obtain ⟨t,rfl⟩:=rx
  cases y with
  | byt j=>obtain ⟨t',rfl⟩:=ry;exact PySem.W.eq_bytes (Ym I q Zgn)
  | _=>exact absurd (show false=true from hs) Bool.false_ne_true
 | _=>cases y <;> exact absurd (show false=true from hs) Bool.false_ne_true
theorem Wt:Yk X (compareOp .NotEq) rNe:=by
 intro pins s σ H x y v u Q I rx ry h
 obtain ⟨hs,q⟩:=h
 cases x with
 | non =>
  cases rx
  cases y with
  | non=>cases ry;exact PySem.EqNone.ne_none_none (Ym I q (by simp))
  | bl j=>cases ry;exact PySem.EqNone.ne_none_bool (Ym I q (by simp))
  | int j=>obtain ⟨t',rfl⟩:=ry;exact PySem.EqNone.ne_none_int (Ym I q (by simp))
  | str j=>obtain ⟨t',rfl⟩:=ry;exact PySem.EqNone.ne_none_str (Ym I q (by simp))
  | _=>exact absurd (show false=true from hs) Bool.false_ne_true
 | bl i =>
  cases rx
  cases y with
  | non=>cases ry;exact PySem.EqNone.ne_bool_none (Ym I q (by simp))
  | bl j=>cases ry;exact ne_bool (Ym I q (congrArg not Zbk))
  | str j=>obtain ⟨t',rfl⟩:=ry;exact PySem.EqMixed.ne_bool_str (Ym I q (by simp))
  | _=>exact absurd (show false=true from hs) Bool.false_ne_true
 | int i =>
  obtain ⟨t,rfl⟩:=rx
  cases y with
  | non=>cases ry;exact PySem.EqNone.ne_int_none (Ym I q (by simp))
  | int j=>obtain ⟨t',rfl⟩:=ry;exact ne_int (Ym I q (congrArg not UV))
  | str j=>obtain ⟨t',rfl⟩:=ry;exact PySem.EqMixed.ne_int_str (Ym I q (by simp))
  | _=>exact absurd (show false=true from hs) Bool.false_ne_true
 | str i =>
  obtain ⟨t,rfl⟩:=rx
  cases y with
  | non=>cases ry;exact PySem.EqNone.ne_str_none (Ym I q (by simp))
  | bl j=>cases ry;exact PySem.EqMixed.ne_str_bool (Ym I q (by simp))
  | int j=>obtain ⟨t',rfl⟩:=ry;exact PySem.EqMixed.ne_str_int (Ym I q (by simp))
  | str j=>obtain ⟨t',rfl⟩:=ry;exact ne_str (Ym I q (congrArg not Zgm))
  | _=>exact absurd (show false=true from hs) Bool.false_ne_true
 | byt i =>
  obtain ⟨t,rfl⟩:=rx
  cases y with
  | byt j=>obtain ⟨t',rfl⟩:=ry;exact PySem.W.ne_bytes (Ym I q (congrArg not Zgn))
  | _=>exact absurd (show false=true from hs) Bool.false_ne_true
 | _=>cases y <;> exact absurd (show false=true from hs) Bool.false_ne_true
theorem Zbl:Yk X (compareOp .Lt) (Vj fun i j=>.bl (decide (i < j))):=Zbh fun _ _ _ _ _ _ _ q=>lt_int q
theorem Wf:Yk X (compareOp .LtE) (Vj fun i j=>.bl (decide (i≤j))):=Zbh fun _ _ _ _ _ _ _ q=>le_int q
theorem XV:Yk X (compareOp .Gt) (Vj fun i j=>.bl (decide (j < i))):=Zbh fun _ _ _ _ _ _ _ q=>gt_int q
theorem Zlg:Yk X (compareOp .GtE) (Vj fun i j=>.bl (decide (j≤i))):=Zbh fun _ _ _ _ _ _ _ q=>ge_int q
theorem Zlh:Yk X (compareOp .In) (fun x y H Q=>∃ i j,x=.str i∧y=.str j∧Q (.bl (!(Builtin.Str.occurrences j i 0 j.length 1).isEmpty)) H):=by
 intro pins s σ H x y v u Q I rx ry h
 obtain ⟨i,j,rfl,rfl,q⟩:=h
 obtain ⟨t,rfl⟩:=rx
 obtain ⟨t',rfl⟩:=ry
 exact in_str (Ym I q rfl)
theorem ZH (b:Expr) {op:CmpOp} (h:op≠.In:=by decide) (h2:op≠.NotIn:=by decide):behindInMarks op b=false:=by
 have e1:(op == CmpOp.In)=false:=by cases op <;> first | rfl | exact absurd rfl h
 have e2:(op == CmpOp.NotIn)=false:=by cases op <;> first | rfl | exact absurd rfl h2
 cases b <;> simp [behindInMarks,e1,e2]
theorem XF {op:CmpOp} {r:R2} (ho:Yk X (compareOp op) r) (ha:PE X a ta) (hb:PE X b tb) (hm:behindInMarks op b=false):PE X (.Compare a [op] [b] pos) (tOp r ta tb):=by
 intro pins s σ H Q I h
 exact wpAny_Compare1 (ZdE ha hb I h fun v u s2 x y H2 I2 rx ry q=>ho pins s2 σ H2 x y v u Q I2 rx ry q) hm
def Zgo (t:TE):TT:=fun σ H Q=>t σ H fun x H'=>∃ k,x=.bl k∧Q k H'
theorem ZI {op:CmpOp} {r:R2} (ho:Yk X (compareOp op) r) (ha:PE X a ta) (hb:PE X b tb) (hm:behindInMarks op b=false):PT X (.Compare a [op] [b] pos) (Zgo (tOp r ta tb)):=by
 intro pins s σ H Q I h
 refine wpAny_isTrue_Compare1 (ZK (ha pins s σ H _ I h) fun v s1 ⟨x,H1,I1,r1,q1⟩=>ZK (hb pins s1 σ H1 _ I1 q1) fun u s2 ⟨y,H2,I2,r2,q2⟩ =>
  ZK (ho pins s2 σ H2 x y v u _ I2 r1 r2 q2) fun c s3 ⟨z,H3,I3,r3,k,e,q3⟩=>?_) hm
 subst e
 cases r3
 exact wpAny_truthy_bool ⟨H3,I3,q3⟩
def Zgp (r r':R2) (ta tb tc:TE):TE:=fun σ H Q=>ta σ H fun x H1=>tb σ H1 fun y H2=>r x y H2 fun z H3=>∃ k,z=.bl k ∧
 (if k=true then tc σ H3 fun w' H4=>r' y w' H4 Q else Q (.bl false) H3)
theorem Zgq {op op':CmpOp} {r r':R2} (ho:Yk X (compareOp op) r) (ho':Yk X (compareOp op') r') (ha:PE X a ta) (hb:PE X b tb) (hc:PE X c tc)
  (hm:lastMarks [op,op'] [b,c]=false:=by with_unfolding_all rfl):PE X (.Compare a [op,op'] [b,c] pos) (Zgp r r' ta tb tc):=by
 intro pins s σ H Q I h
 refine Compare_chain (ZK (ha pins s σ H _ I h) fun v s1 ⟨x,H1,I1,r1,q1⟩=>chain_link (ZK (hb pins s1 σ H1 _ I1 q1) fun u s2 ⟨y,H2,I2,r2,q2⟩ =>
  ZK (ho pins s2 σ H2 x y v u _ I2 r1 r2 q2) fun d s3 ⟨z,H3,I3,r3,k,e,q3⟩=>?_)) hm
 subst e
 cases r3
 refine wpAny_truthy_bool ?_
 cases k with
 | false=>exact ite_ff ⟨.bl false,H3,I3,rfl,q3⟩
 | true=>exact ite_tt (chain_last (ZK (hc pins s3 σ H3 _ I3 q3) fun w' s4 ⟨z',H4,I4,r4,q4⟩=>ho' pins s4 σ H4 y z' u w' Q I4 r2 r4 q4))
theorem Zbm {op op':CmpOp} {r r':R2} (ho:Yk X (compareOp op) r) (ho':Yk X (compareOp op') r') (ha:PE X a ta) (hb:PE X b tb) (hc:PE X c tc)
  (hm:lastMarks [op,op'] [b,c]=false:=by with_unfolding_all rfl):PT X (.Compare a [op,op'] [b,c] pos) (Zgo (Zgp r r' ta tb tc)):=by
 intro pins s σ H Q I h
 refine isTrue_chain (ZK (ha pins s σ H _ I h) fun v s1 ⟨x,H1,I1,r1,q1⟩=>test_link (ZK (hb pins s1 σ H1 _ I1 q1) fun u s2 ⟨y,H2,I2,r2,q2⟩ =>
  ZK (ho pins s2 σ H2 x y v u _ I2 r1 r2 q2) fun d s3 ⟨z,H3,I3,r3,k,e,q3⟩=>?_)) hm
 subst e
 cases r3
 refine wpAny_truthy_bool ?_
 cases k with
 | false =>
  obtain ⟨k',e',q'⟩:=q3
  cases e'
  exact ite_ff ⟨H3,I3,q'⟩
 | true =>
  refine ite_tt (test_last (ZK (hc pins s3 σ H3 _ I3 q3) fun w' s4 ⟨z',H4,I4,r4,q4⟩=>ZK (ho' pins s4 σ H4 y z' u w' _ I4 r2 r4 q4) fun d' s5 ⟨z2,H5,I5,r5,k2,e2,q5⟩=>?_))
  subst e2
  cases r5
  exact wpAny_truthy_bool ⟨H5,I5,q5⟩
theorem Qe:(sizeLine:Nat) < 2 ^ 63:=by rw [sizeLine_eq];decide
theorem WV:Yk X (binaryOp .Add) (fun x y H Q=>∃ i j,x=.str i∧y=.str j∧i.length+j.length≤sizeLine∧Q (.str (i++j)) H):=by
 intro pins s σ H x y v u Q I rx ry h
 obtain ⟨i,j,rfl,rfl,hz,q⟩:=h
 obtain ⟨t,rfl⟩:=rx
 obtain ⟨t',rfl⟩:=ry
 exact add_str (fun t' tk=>⟨.str (i++j),H,I.tok _,⟨_,rfl⟩,q⟩) hz
theorem XG {x:V} {us:List Value} (r:ZJ [x] us):∃ u,us=[u]∧ZY x u:=by
 cases r with
 | cons r1 r2=>cases r2;exact ⟨_,rfl,r1⟩
theorem ZaB {x y:V} {us:List Value} (r:ZJ [x,y] us):∃ u w',us=[u,w']∧ZY x u∧ZY y w':=by
 cases r with
 | cons r1 r2 =>
  cases r2 with
  | cons r3 r4=>cases r4;exact ⟨_,_,rfl,r1,r3⟩
theorem Zli (hc:X.calm=true):Xg X (.builtin "min") (fun xs H Q=>∃ i j,xs=[.int i,.int j]∧Q (.int (if j < i then j else i)) H):=by
 intro pins s σ H xs us Q I r h
 obtain ⟨i,j,rfl,q⟩:=h
 obtain ⟨u,w',rfl,⟨t,rfl⟩,⟨t',rfl⟩⟩:=ZaB r
 refine min_two_ints (I.ok.hd hc) fun h' tk k=>⟨_,H,I.kept k,?_,q⟩
 by_cases hj:j < i
 ·rw [if_pos hj,if_pos hj];exact ⟨_,rfl⟩
 ·rw [if_neg hj,if_neg hj];exact ⟨_,rfl⟩
theorem Vk:Xg X (.type "str") (fun xs H Q=>∃ i,xs=[.int i]∧i.natAbs.log2 < 1920∧Q (.str (toString i)) H):=by
 intro pins s σ H xs us Q I r h
 obtain ⟨i,rfl,hz,q⟩:=h
 obtain ⟨u,rfl,t,rfl⟩:=XG r
 exact PySem.P.str_of_int hz ⟨.str _,H,I.tok _,⟨_,rfl⟩,q⟩
end
end L2
namespace L2
open PySem PySem.Spec PyProof.Rows
structure Qf (h:Heap) (x dx C:Addr) (mA:Str→Option Value):Prop where
 obj:h.get? x=some (PySem.W.instObj C dx)
 ns:h.Ns1 dx mA
 ne:dx≠x
theorem Zlj {h:Heap} {dx:Addr} {mA:Str→Option Value} (n:h.Ns1 dx mA):∃ od,h.get? dx=some od∧∀ name,PySem.W.lookIn name od=some (mA name):=by
 obtain ⟨o,es,ep,ho,hd,hk,_,hm⟩:=n
 refine ⟨o,ho,fun name=>?_⟩
 have e:=hm name
 unfold nsFind findBy at e
 rw [← Array.find?_toList] at e
 unfold PySem.W.lookIn
 rw [hd]
 dsimp only
 split
 ·rename_i y q
  rw [q] at e
  exact congrArg some e
 ·rename_i q
  rw [q] at e
  have a:es.toList.any (·.refKey)=false:=by
   rw [List.any_eq_false]
   intro y hy
   obtain ⟨z,t,hkey⟩:=hk y (Array.mem_toList_iff.mp hy)
   simp [DictEntry.refKey,hkey]
  have a':¬ es.toList.any (·.refKey)=true:=by rw [a];exact Bool.false_ne_true
  rw [if_neg a']
  exact congrArg some e
theorem Qf.look {h:Heap} {x dx C:Addr} {mA:Str→Option Value} (I:Qf h x dx C mA):∃ od,PySem.W.InstAt h x (PySem.W.instObj C dx) C (some od)∧∀ name,PySem.W.lookIn name od=some (mA name) :=
 let ⟨od,ho,hl⟩:=Zlj I.ns
 ⟨od,⟨I.obj,rfl,rfl,ho⟩,hl⟩
section
variable {prog:Program} {w:World} {A:Around} {E:Value→Shared→Prop} {s:Shared} {K:PySem.W.Frag} {x dx C f:Addr} {mA:Str→Option Value} {name:Str} {v:Value}
theorem Zlk {expr:Bool} {Q:Value→Shared→Prop} (X:K.In s.heap) (I:Qf s.heap x dx C mA) (hg:PySem.W.plainGet K C name=true) (hh:PySem.W.hasDictIn K C=true)
  (ha:PySem.W.findIn K (.ref C) name=some none) (hv:mA name=some v) (hv':PySem.W.handedIn v=true) (h:Q v { s with toks:=s.toks+1 }) :
  wpAny (model prog w) A (getAttr (.ref x) name expr) Q E s:=by
 obtain ⟨od,J,hl⟩:=I.look
 exact PySem.W.get_value X J (PySem.W.plainGet_of hg).1 (PySem.W.findObj_own hh ha rfl (by rw [hl,hv])) hv' h
theorem Zll {pl:Sem Bool} {Q:Value×List Value→Shared→Prop} (X:K.In s.heap) (I:Qf s.heap x dx C mA) (hg:PySem.W.plainGet K C name=true)
  (hf:PySem.W.findIn K (.ref C) name=some (some (.ref f))) (ht:PySem.W.isFn K (.ref f)=true) (hv:mA name=none) (h:Q (.ref f,[.ref x]) s) :
  wpAny (model prog w) A (getMethod (.ref x) name pl) Q E s:=by
 obtain ⟨od,J,hl⟩:=I.look
 exact PySem.W.method_fn X J (PySem.W.plainGet_of hg).1 (PySem.W.plainGet_of hg).2 hf (beq_iff_eq.mp ht) (by show (PySem.W.lookIn name od).map (·.isSome)=some false;rw [hl,hv];rfl) h
theorem Zlm {ns:List Str} {Q:Unit→Shared→Prop} (X:K.In s.heap) (I:Qf s.heap x dx C mA)
  (hs:PySem.W.findIn K (.ref C) "__setattr__" = some (some (.builtin "object.__setattr__"))) (hp:PySem.W.plainOver K C=true) (ht:PySem.W.takerIn K C name=some none) (hh:PySem.W.hasDictIn K C=true)
  (hw:PySem.Within mA ns) (hsz:ns.length≤sizeLine)
  (h:∀ h',Qf h' x dx C (fun y=>if y=name then some v else mA y)→Heap.SameBut dx s.heap h'→Q () { s with heap:=h',toks:=s.toks+2 }) :
  wpAny (model prog w) A (setAttr (.ref x) name v) Q E s:=by
 obtain ⟨od,J,hl⟩:=I.look
 refine PySem.W.set_plain X J hs (PySem.W.osa_open (s:={ s with toks:=s.toks+1 }) (r:=none) X J hp ht fun b=>?_)
 obtain ⟨cd,hc,hd'⟩:=PySem.W.any_some hh
 have hx:s.heap.get? x=some ⟨.ref C,some dx,.plain,#[]⟩:=I.obj
 refine wpAny_bind (wpAny_pure (wpAny_bind (wpAny_bind (wpAny_loadPart hx (wpAny_bind (PySem.W.Looks.here (s:={ s with toks:=s.toks+1 }) (PySem.W.looks_clsIn X hc) ?_))))))
 rw [hd']
 refine wpAny_pure (a:=some dx) (wpAny_bind (wpAny_pure (wpAny_bind ?_)))
 refine wpAny_nsSet1 (s:={ s with toks:=s.toks+1 }) I.ns fun h' hn2 hs2=>?_
 obtain ⟨oD,esD,epD,hoD,hdD,hcD⟩:=hn2.count (PySem.Within.cons name v hw)
 refine wpAny_bind (wpAny_lookBehind hoD (by rw [hdD];exact pastItsLine_dict (Nat.le_trans hcD (by rw [List.length_cons];omega))) ?_)
 exact wpAny_pure (h _ ⟨(hs2.2 _ (Ne.symm I.ne)).trans I.obj,hn2,I.ne⟩ hs2)
theorem Zln {R:Result→Shared→Prop} {vs:List Value} {kw:List (Str×Value)} (X:K.In s.heap) (hm:PySem.W.makesIn K C=true)
  (hi:PySem.W.findIn K (.ref C) "__init__" = some (some (.ref f))) (hf:PySem.W.typeIn K (.ref f)=some (.type "function"))
  (h:codeAny (model prog w) (A.under (.builtin "type.__call__" ⟨.ref C::vs,kw⟩)) (.call (.ref f) ⟨.ref (s.heap.objs.size+1)::vs,kw⟩) (PySem.W.InitBack (s.heap.objs.size+1) R)
   { s with heap:=(s.heap.push PySem.W.emptyDict).push (PySem.W.instObj C s.heap.objs.size) }) :
  codeAny (model prog w) A (.call (.ref C) ⟨vs,kw⟩) R s:=by
 obtain ⟨hh,g,d,t,os⟩:=s
 exact PySem.W.make_core (PySem.W.makes_of X hm) (PySem.W.looks_findIn X hi) (fun self=>PySem.W.bind_fn X self hf) (.inl rfl) h
theorem Zlo {R:Result→Shared→Prop} (X:K.In s.heap) (hm:PySem.W.makesIn K C=true)
  (hi:PySem.W.findIn K (.ref C) "__init__" = some (some (.builtin "object.__init__")))
  (hb:∀ self,PySem.W.Looks (model prog w) s.heap (bindSpecial (.builtin "object.__init__") self) (.builtin "object.__init__",[self]))
  (h:codeAny (model prog w) (A.under (.builtin "type.__call__" ⟨[.ref C],[]⟩)) (.call (.builtin "object.__init__") ⟨[.ref (s.heap.objs.size+1)],[]⟩) (PySem.W.InitBack (s.heap.objs.size+1) R)
   { s with heap:=(s.heap.push PySem.W.emptyDict).push (PySem.W.instObj C s.heap.objs.size) }) :
  codeAny (model prog w) A (.call (.ref C) ⟨[],[]⟩) R s:=by
 obtain ⟨hh,g,d,t,os⟩:=s
 exact PySem.W.make_core (PySem.W.makes_of X hm) (PySem.W.looks_findIn X hi) hb (.inr ⟨rfl,rfl⟩) h
end
def ZP (f:Str) (v:V):List (Str×V)→List (Str×V)
 | []=>[(f,v)]
 | (g,x)::r=>if g=f then (g,v)::r else (g,x)::ZP f v r
theorem Zgr (f g:Str) (v:V):∀ fs:List (Str×V),(ZP f v fs).lookup g=if g=f then some v else fs.lookup g
 | []=>by
  show List.lookup g [(f,v)]=_
  by_cases h:g=f
  ·have hb:(g == f)=true:=beq_iff_eq.mpr h
   simp only [List.lookup,hb,if_pos h]
  ·have hb:(g == f)=false:=beq_eq_false_iff_ne.mpr h
   simp only [List.lookup,hb,if_neg h]
 | (k,x)::r=>by
  have ih:=Zgr f g v r
  rw [show ZP f v ((k,x)::r)=(if k=f then (k,v)::r else (k,x)::ZP f v r) from rfl]
  by_cases hk:k=f
  ·rw [if_pos hk]
   by_cases h:g=k
   ·have hb:(g == k)=true:=beq_iff_eq.mpr h
    simp only [List.lookup,hb,if_pos (h.trans hk)]
   ·have hb:(g == k)=false:=beq_eq_false_iff_ne.mpr h
    simp only [List.lookup,hb,if_neg (fun e:g=f=>h (e.trans hk.symm))]
  ·rw [if_neg hk]
   by_cases h:g=k
   ·have hb:(g == k)=true:=beq_iff_eq.mpr h
    simp only [List.lookup,hb,if_neg (fun e:g=f=>hk (h.symm.trans e))]
   ·have hb:(g == k)=false:=beq_eq_false_iff_ne.mpr h
    simp only [List.lookup,hb]
    exact ih
theorem ZdG (f:Str) (v:V):∀ fs:List (Str×V),f∈(ZP f v fs).map (·.1)∧∀ g,g∈fs.map (·.1)→g∈(ZP f v fs).map (·.1)
 | []=>⟨by simp [ZP],fun g h=>by simp at h⟩
 | (k,x)::r=>by
  obtain ⟨i1,i2⟩:=ZdG f v r
  rw [show ZP f v ((k,x)::r)=(if k=f then (k,v)::r else (k,x)::ZP f v r) from rfl]
  by_cases hk:k=f
  ·rw [if_pos hk]
   subst hk
   exact ⟨by simp,fun g h=>by simpa using h⟩
  ·rw [if_neg hk]
   refine ⟨?_,fun g h=>?_⟩
   ·rw [List.map_cons]
    exact List.mem_cons_of_mem _ i1
   ·rw [List.map_cons] at h ⊢
    rcases List.mem_cons.mp h with e | e
    ·exact List.mem_cons.mpr (.inl e)
    ·exact List.mem_cons_of_mem _ (i2 g e)
theorem ZaC (f:Str) (v:V):∀ fs:List (Str×V),(ZP f v fs).length≤fs.length+1
 | []=>by simp [ZP]
 | (k,x)::r=>by
  have ih:=ZaC f v r
  rw [show ZP f v ((k,x)::r)=(if k=f then (k,v)::r else (k,x)::ZP f v r) from rfl]
  by_cases hk:k=f
  ·rw [if_pos hk,List.length_cons,List.length_cons];omega
  ·rw [if_neg hk,List.length_cons,List.length_cons];omega
theorem WT.some_of {v:V} {o:Option Value} (r:WT (some v) o):∃ u,o=some u∧ZY v u:=by
 cases o with
 | none=>exact (show False from r).elim
 | some u=>exact ⟨u,rfl,r⟩
theorem WT.none_of {o:Option Value} (r:WT none o):o=none:=by
 cases o with
 | none=>rfl
 | some u=>exact (show False from r).elim
theorem Zlp {v:V} {u:Value} (r:ZY v u):PySem.W.handedIn u=true:=by
 cases v with
 | non=>cases (show u=Value.none from r);rfl
 | bl b=>cases (show u=Value.bool b from r);rfl
 | int i=>obtain ⟨t,e⟩:=(show ∃ t,u=Value.int i t from r);cases e;rfl
 | str x=>obtain ⟨t,e⟩:=(show ∃ t,u=Value.str x t from r);cases e;rfl
 | byt b=>obtain ⟨t,e⟩:=(show ∃ t,u=Value.bytes b t from r);cases e;rfl
 | flt b=>obtain ⟨t,e⟩:=(show ∃ t,u=Value.float b t from r);cases e;rfl
 | ref a=>cases (show u=Value.ref a from r);rfl
 | ty n=>cases (show u=Value.type n from r);rfl
section
variable {P:Program} {w:World} {H H':Hp} {h h':Heap} {a C dx:Addr} {fs fs':List (Str×V)}
theorem Zbn (hok:Yu P w H h) (e:H a=some (.ins C dx fs)):∃ mA,Qf h a dx C mA∧(∀ f,WT (fs.lookup f) (mA f))∧PySem.Within mA (fs.map (·.1))∧fs.length≤1000∧H dx=some (.own a):=by
 obtain ⟨d,z,ne,ob,mA,n,r,q⟩:=(show Yp P w H h a (.ins C dx fs) from hok a _ e)
 exact ⟨mA,⟨ob,n,ne⟩,r,q,z,d⟩
end
structure YK (K:PySem.W.Frag) (C:Addr):Prop where
 pg:PySem.W.plainGet K C Str.empty=true
 hd:PySem.W.hasDictIn K C=true
 po:PySem.W.plainOver K C=true
 sa:PySem.W.findIn K (.ref C) "__setattr__" = some (some (.builtin "object.__setattr__"))
theorem YK.get {K:PySem.W.Frag} {C:Addr} (c:YK K C) (f:Str):PySem.W.plainGet K C f=true:=c.pg
def Xh (K:PySem.W.Frag) (C:Addr) (f:Str):Prop:=PySem.W.findIn K (.ref C) f=some none
theorem Xh.taker {K:PySem.W.Frag} {C:Addr} {f:Str} (n:Xh K C f):PySem.W.takerIn K C f=some none:=by
 unfold PySem.W.takerIn
 rw [show PySem.W.findIn K (.ref C) f=some none from n]
 rfl
structure Con (K:PySem.W.Frag) (C:Addr) (f:Str) (v:V) (u:Value):Prop where
 at_:PySem.W.findIn K (.ref C) f=some (some u)
 rel:ZY v u
 get:PySem.W.specialIn K u "__get__" = some none
 cp:PySem.W.copiedNames.contains f=false
structure Z1 (K:PySem.W.Frag) (C:Addr) (m:Str) (f:Addr):Prop where
 at_:PySem.W.findIn K (.ref C) m=some (some (.ref f))
 fn:PySem.W.isFn K (.ref f)=true
 kp:PySem.W.keepIn K (.ref f)=true
section
variable {X:Cx} {pins:List (Addr×Obj)} {σ:St} {H:Hp} {s:Shared} {a C dx:Addr} {fs:List (Str×V)} {f:Str} {v:V} {A:Around} {E:Value→Shared→Prop}
theorem Zlq {b:Bool} {Q:Value→Shared→Prop} (I:Zd X pins σ H s) (e:H a=some (.ins C dx fs)) (c:YK X.K C) (n:Xh X.K C f) (l:fs.lookup f=some v)
  (h:∀ u s',Zd X pins σ H s'→ZY v u→Q u s'):wpAny (model X.prog X.w) A (getAttr (.ref a) f b) Q E s:=by
 obtain ⟨mA,O,r,_,_,_⟩:=Zbn I.hok e
 obtain ⟨u,hu,ru⟩:=WT.some_of (v:=v) (o:=mA f) (by rw [← l];exact r f)
 exact Zlk I.kIn O (c.get f) c.hd n hu (Zlp ru) (h u _ (I.tok _) ru)
theorem Zbo {m:Str} {g:Addr} {pl:Sem Bool} {Q:Value×List Value→Shared→Prop} (I:Zd X pins σ H s) (e:H a=some (.ins C dx fs)) (c:YK X.K C) (k:Z1 X.K C m g) (l:fs.lookup m=none)
  (h:Q (.ref g,[.ref a]) s):wpAny (model X.prog X.w) A (getMethod (.ref a) m pl) Q E s:=by
 obtain ⟨mA,O,r,_,_,_⟩:=Zbn I.hok e
 have hn:mA m=none:=WT.none_of (by rw [← l];exact r m)
 exact Zll I.kIn O (c.get m) k.at_ k.fn hn h
theorem Zlr {y:V} {u:Value} {Q:Unit→Shared→Prop} (I:Zd X pins σ H s) (e:H a=some (.ins C dx fs)) (c:YK X.K C) (n:Xh X.K C f) (hl:fs.length < 1000) (ry:ZY y u)
  (h:∀ s',Zd X pins σ (upd H a (.ins C dx (ZP f y fs))) s'→Q () s'):wpAny (model X.prog X.w) A (setAttr (.ref a) f u) Q E s:=by
 obtain ⟨mA,O,r,wi,_,ho⟩:=Zbn I.hok e
 have hz:(fs.map (·.1)).length≤sizeLine:=by rw [List.length_map,sizeLine_eq];omega
 refine Zlm I.kIn O c.sa c.po n.taker c.hd wi hz fun h' O' sb=>h _ ?_
 have hd:∃ o,h'.get? dx=some o:=let ⟨o,_,_,e',_⟩:=O'.ns;⟨o,e'⟩
 refine I.write (x:=a) (e:=dx) (by rw [e];exact True.intro) (.inr ho) (fun b q hb z=>(sb.2 b hb).trans z) hd ?_
 refine ⟨by rw [ZO O.ne];exact ho,?_,O.ne,O'.obj,_,O'.ns,fun g=>?_,fun g hg=>?_⟩
 ·have:=ZaC f y fs;omega
 ·show WT ((ZP f y fs).lookup g) (if g=f then some u else mA g)
  rw [Zgr]
  by_cases q:g=f
  ·rw [if_pos q,if_pos q];exact ry
  ·rw [if_neg q,if_neg q];exact r g
 ·by_cases q:g=f
  ·rw [q];exact (ZdG f y fs).1
  ·refine (ZdG f y fs).2 g (wi g fun z=>hg ?_)
   show (if g=f then some u else mA g)=none
   rw [if_neg q];exact z
theorem Zd.made (I:Zd X pins σ H s):Zd X pins σ (upd (upd H s.heap.objs.size (.own (s.heap.objs.size+1))) (s.heap.objs.size+1) (.ins C s.heap.objs.size []))
  { s with heap:=(s.heap.push PySem.W.emptyDict).push (PySem.W.instObj C s.heap.objs.size) }:=by
 have e1:(s.heap.push PySem.W.emptyDict).get? s.heap.objs.size=some PySem.W.emptyDict:=Heap.get?_push_size s.heap rfl
 have e2:((s.heap.push PySem.W.emptyDict).push (PySem.W.instObj C s.heap.objs.size)).get? (s.heap.objs.size+1)=some (PySem.W.instObj C s.heap.objs.size):=by
  have:=Heap.get?_push_size (s.heap.push PySem.W.emptyDict) (o:=PySem.W.instObj C s.heap.objs.size) rfl
  rwa [Heap.size_push] at this
 have e3:(s.heap.push PySem.W.emptyDict).Ns s.heap.objs.size (fun _=>none):=⟨PySem.W.emptyDict,#[],_,e1,rfl,(fun e he=>absurd he (by simp)),fun _=>rfl⟩
 have I1:=I.laid (a:=s.heap.objs.size) (o:=.own (s.heap.objs.size+1)) (h':=s.heap.push PySem.W.emptyDict) (t':=s.toks) (fun b u q=>Heap.get?_push_of_some _ q) (Nat.le_refl _) ⟨_,e1⟩
 refine I1.laid (a:=s.heap.objs.size+1) (o:=.ins C s.heap.objs.size []) (t':=s.toks) (fun b u q=>Heap.get?_push_of_some _ q) (Nat.le_of_eq (Heap.size_push _ _)) ?_
 have ne:s.heap.objs.size≠s.heap.objs.size+1:=Nat.ne_of_lt (Nat.lt_succ_self _)
 refine ⟨by rw [ZO ne,Zf],Nat.zero_le _,ne,e2,fun _=>none,(Heap.Ns1.of_empty e3).at fun o q=>Heap.get?_push_of_some _ q,fun _=>True.intro,fun y hy=>absurd rfl hy⟩
theorem Zls {prog:Program} {w:World} {env:Env} {e:Expr} {f:Str} {pos:Pos} {s:Shared} {Q:Value→Shared→Prop} (hb:attributeBase e f env (eval e env)=eval e env)
  (h:wpAny (model prog w) A (eval e env) (fun o s₁=>wpAny (model prog w) A (getAttr o f true) Q E s₁) E s):wpAny (model prog w) A (eval (.Attribute e f pos) env) Q E s :=
 Attribute_any_ h (by rw [arm_eval_Attribute,hb])
end
def Zlt (K:PySem.W.Frag) (ta:TE) (f:Str):TE:=fun σ H Q=>ta σ H fun x H1=>∃ a C dx fs v,x=.ref a∧H1 a=some (.ins C dx fs)∧YK K C∧Xh K C f∧fs.lookup f=some v∧Q v H1
def Zlu (K:PySem.W.Frag) (ta tv:TE) (f:Str):TS:=fun D σ H=>tv σ H fun y H1=>ta σ H1 fun x H2=>∃ a C dx fs,x=.ref a∧H2 a=some (.ins C dx fs)∧YK K C∧Xh K C f∧fs.length < 1000 ∧
 D.nx σ (upd H2 a (.ins C dx (ZP f y fs)))
section
variable {X:Cx} {o e value:Expr} {f:Str} {pos pos' tpos:Pos} {ta tv:TE}
theorem Z7 (he:PE X e ta) (hb:attributeBase e f X.env (eval e X.env)=eval e X.env):PE X (.Attribute e f pos) (Zlt X.K ta f):=by
 intro pins s σ H Q I h
 refine Zls hb (ZK (he pins s σ H _ I h) fun u s1 ⟨x,H1,I1,rx,a,C,dx,fs,v,ex,ea,c,n,l,q⟩=>?_)
 subst ex
 obtain rfl:u=Value.ref a:=rx
 exact Zlq I1 ea c n l fun u' s2 I2 ru=>⟨v,H1,I2,ru,q⟩
theorem YL (ha:PE X o ta) (hv:PE X value tv) (hs:swapsWith value (some (.Attribute o f pos')) pos.line X.env=pure false):PS X (.Assign [.Attribute o f pos'] value pos) (Zlu X.K ta tv f):=by
 intro pins s σ H D I h
 refine plainObj_wpAny_Assign_Attribute (ZK (hv pins s σ H _ I h) fun u s1 ⟨y,H1,I1,ry,q⟩=>ZK (ha pins s1 σ H1 _ I1 q) fun ov s2 ⟨x,H2,I2,rx,a,C,dx,fs,ex,ea,c,n,l,q2⟩=>?_) hs
 subst ex
 obtain rfl:ov=Value.ref a:=rx
 exact Zlr I2 ea c n l ry fun s3 I3=>⟨σ,_,I3,q2⟩
end
section
variable {X:Cx} {pins:List (Addr×Obj)} {σ:St} {H:Hp} {s:Shared} {A:Around} {E:Value→Shared→Prop} {Q:Value→Shared→Prop} {c:Value} {b:Bool}
inductive Xt (K:PySem.W.Frag) (H:Hp):V→Value→Prop where
 | non:Xt K H .non (.type "NoneType")
 | bl (x:Bool):Xt K H (.bl x) (.type "bool")
 | int (i:Int):Xt K H (.int i) (.type "int")
 | str (x:Str):Xt K H (.str x) (.type "str")
 | flt (x:UInt64):Xt K H (.flt x) (.type "float")
 | lst {a:Addr} {xs:List V} (e:H a=some (.lst xs)):Xt K H (.ref a) (.type "list")
 | frz {a:Addr} {o:Obj} {xs:List V} (e:H a=some (.frz o (.lst xs))):Xt K H (.ref a) (.type "list")
 | tup {a:Addr} {xs:List V} (e:H a=some (.tup xs)):Xt K H (.ref a) (.type "tuple")
 | dK {a:Addr} {kvs:List (YY×V)} (e:H a=some (.dK kvs)):Xt K H (.ref a) (.type "dict")
 | dT {a:Addr} {kvs:List (List YY×V)} (e:H a=some (.dT kvs)):Xt K H (.ref a) (.type "dict")
 | ins {a C dx:Addr} {fs:List (Str×V)} (e:H a=some (.ins C dx fs)) (cl:YK K C) (ha:PySem.W.findIn K (.ref C) "__class__" = some (some (.builtin "object.__class__")))
   (hn:PySem.W.specialIn K (.builtin "object.__class__") "__get__" = some (some (.builtin "getset_descriptor.__get__"))) (htk:PySem.W.takesIn K (.builtin "object.__class__")=some true)
   (hm:PySem.W.mroIn K C (.type "object")=some true):Xt K H (.ref a) (.ref C)
theorem Zgs {x:V} {u t:Value} (I:Zd X pins σ H s) (rx:ZY x u) (ty:Xt X.K H x t) (e:PySem.W.kitOne X.K t c=some b) (h:∀ tk,Q (.bool b) { s with toks:=tk }) :
  wpAny (model X.prog X.w) A (call (.builtin "isinstance") [u,c]) Q E s:=by
 cases ty with
 | non=>cases (show u=Value.none from rx);exact PySem.W.kia_one PySem.W.kitx_none I.kIn True.intro e (fun z=>nomatch z) h
 | bl y=>cases (show u=Value.bool y from rx);exact PySem.W.kia_one PySem.W.kitx_bool I.kIn True.intro e (fun z=>nomatch z) h
 | int i=>obtain ⟨t,q⟩:=(show ∃ t,u=Value.int i t from rx);cases q;exact PySem.W.kia_one PySem.W.kitx_int I.kIn True.intro e (fun z=>nomatch z) h
 | str y=>obtain ⟨t,q⟩:=(show ∃ t,u=Value.str y t from rx);cases q;exact PySem.W.kia_one PySem.W.kitx_str I.kIn True.intro e (fun z=>nomatch z) h
 | flt y=>obtain ⟨t,q⟩:=(show ∃ t,u=Value.float y t from rx);cases q;exact PySem.W.kia_one PySem.W.kitx_float I.kIn True.intro e (fun z=>nomatch z) h
 | @lst a xs ea =>
  cases (show u=Value.ref a from rx)
  obtain ⟨_,_,n,_,h1⟩:=(show Yp X.prog X.w H s.heap a (.lst xs) from I.hok a _ ea)
  exact PySem.W.kia_one PySem.W.kitx_list I.kIn ⟨_,h1,rfl⟩ e (fun z=>nomatch z) h
 | @frz a ob xs ea =>
  cases (show u=Value.ref a from rx)
  obtain ⟨_,_,_,n,_,h1⟩:=(show Yp X.prog X.w H s.heap a (.frz ob (.lst xs)) from I.hok a _ ea)
  exact PySem.W.kia_one PySem.W.kitx_list I.kIn ⟨_,h1,rfl⟩ e (fun z=>nomatch z) h
 | @tup a xs ea =>
  cases (show u=Value.ref a from rx)
  obtain ⟨_,_,_,p⟩:=(show Yp X.prog X.w H s.heap a (.tup xs) from I.hok a _ ea)
  obtain ⟨o,h1,h2,_⟩:=p
  exact PySem.W.kia_one PySem.W.kitx_tuple I.kIn ⟨o,h1,h2⟩ e (fun z=>nomatch z) h
 | @dK a kvs ea =>
  cases (show u=Value.ref a from rx)
  obtain ⟨_,_,vs,_,p⟩:=(show Yp X.prog X.w H s.heap a (.dK kvs) from I.hok a _ ea)
  obtain ⟨o,es,ep,h1,h2,_⟩:=p
  exact PySem.W.kia_one PySem.W.kitx_dict I.kIn ⟨o,h1,h2.1⟩ e (fun z=>nomatch z) h
 | @dT a kvs ea =>
  cases (show u=Value.ref a from rx)
  obtain ⟨_,_,xs,_,o,es,ep,h1,h2,_⟩:=(show Yp X.prog X.w H s.heap a (.dT kvs) from I.hok a _ ea)
  exact PySem.W.kia_one PySem.W.kitx_dict I.kIn ⟨o,h1,h2.1⟩ e (fun z=>nomatch z) h
 | @ins a C dx fs ea cl ha hn htk hm =>
  cases (show u=Value.ref a from rx)
  obtain ⟨mA,O,_⟩:=Zbn I.hok ea
  obtain ⟨od,J,_⟩:=O.look
  exact PySem.W.kia_one (PySem.W.kitx_own (cl.get _) cl.hd ha hn htk hm) I.kIn J e (fun z=>nomatch z) h
end
end L2
namespace L2
open PySem PySem.Spec PyProof.Rows
structure Yy (k:Nat) (A:Around):Prop where
 hd:A.handled=none
 dp:A.depth+3 * k+5 < recursionLimit
 un:A.units+16 * k+200 < cLine
theorem Yy.mono {j k:Nat} {A:Around} (r:Yy k A) (h:j≤k):Yy j A:=⟨r.hd,by have:=r.dp;omega,by have:=r.un;omega⟩
theorem Yy.deeper {k:Nat} {A:Around} (r:Yy (k+1) A) (env:Env):Yy k (A.deeper env) :=
 ⟨r.hd,by have:=r.dp;show A.depth+1+3 * k+5 < _;omega,by have:=r.un;show A.units+3+16 * k+200 < _;omega⟩
theorem Zlv {A:Around} {C:Addr} {us:List Value} {kw:List (Str×Value)}:(A.under (.builtin "type.__call__" ⟨.ref C::us,kw⟩)).depth=A.depth+1:=by
 first | rfl | simp [Around.under,Code.weight,Code.isCreation,Code.isGuard,Code.isCaller,Code.frames,Code.isFrame,guardIds]
theorem Zlw {A:Around} {C:Addr} {us:List Value} {kw:List (Str×Value)}:(A.under (.builtin "type.__call__" ⟨.ref C::us,kw⟩)).units=A.units+1:=by
 first | rfl | simp [Around.under,Code.cUnits,Code.frames,Code.isFrame]
theorem Yy.make {k:Nat} {A:Around} (r:Yy (k+1) A) (C:Addr) (us:List Value) (kw:List (Str×Value)):Yy k (A.under (.builtin "type.__call__" ⟨.ref C::us,kw⟩)) :=
 ⟨r.hd,by have:=r.dp;rw [Zlv];omega,by have:=r.un;rw [Zlw];omega⟩
theorem Yy.depth {k:Nat} {A:Around} (r:Yy k A):A.depth < recursionLimit:=by have:=r.dp;omega
theorem Yy.units0 {k:Nat} {A:Around} (r:Yy k A):A.units < cLine:=by have:=r.un;omega
def ZdH:TA:=fun _ H Q=>Q [] H
def ZdI (ta:TE) (tr:TA):TA:=fun σ H Q=>ta σ H fun x H1=>tr σ H1 fun xs H2=>Q (x::xs) H2
section
variable {X:Cx} {e:Expr} {es:List Expr} {te:TE} {t:TA} {pos:Pos}
theorem Zc:PA X [] ZdH:=fun _ _ _ _ H Q I h=>Calls.spliced_nil ⟨[],H,I,.nil,h⟩
theorem Zlx (ha:PE X e te) (hr:PA X es t) (hs:starEach (e::es) X.env=(false,eval e X.env)::starEach es X.env:=by rfl):PA X (e::es) (ZdI te t):=by
 intro pos pins s σ H Q I h
 rw [hs]
 show wpAny _ _ (spliced ((false,eval e X.env)::backTo pos (starEach es X.env))) _ _ s
 refine Calls.spliced_cons (ZK (ha pins s σ H _ I h) fun u s1 ⟨x,H1,I1,r1,q1⟩=>?_)
 exact ZK (hr pos pins s1 σ H1 _ I1 q1) fun us s2 ⟨xs,H2,I2,r2,q2⟩=>⟨x::xs,H2,I2,.cons r1 r2,q2⟩
def Zly (t:TA):TE:=fun σ H Q=>t σ H fun xs H1=>xs.length≤sizeLine∧∀ p,H1 p=none→Q (.ref p) (upd H1 p (.tup xs))
def Zlz (t:TA):TE:=fun σ H Q=>t σ H fun xs H1=>xs.length≤sizeLine∧∀ p,H1 p=none→Q (.ref p) (upd H1 p (.lst xs))
theorem YM {x1} (h:PA X es t):PE X (.Tuple es x1 pos) (Zly t):=by
 intro pins s σ H Q I hq
 refine wpAny_Tuple_spliced (ZK (h pos pins s σ H _ I hq) fun us s1 ⟨xs,H1,I1,r,z,q⟩=>⟨by rw [← r.length];exact z,?_⟩)
 have hf:H1 s1.heap.objs.size=none:=I1.hok.fresh (Nat.le_refl _)
 refine ⟨.ref s1.heap.objs.size,upd H1 s1.heap.objs.size (.tup xs),I1.laid (t':=s1.toks) (fun b u e=>Heap.get?_push_of_some _ e) (Nat.le_refl _) ?_,rfl,q _ hf⟩
 exact ⟨z,us,r,⟨_,Heap.get?_push_size _ rfl,rfl,_,rfl⟩⟩
theorem ZW (h:PA X es t):PE X (.List es pos) (Zlz t):=by
 intro pins s σ H Q I hq
 refine wpAny_List_spliced (ZK (h pos pins s σ H _ I hq) fun us s1 ⟨xs,H1,I1,r,z,q⟩=>⟨by rw [← r.length];exact z,?_⟩)
 have hf:H1 s1.heap.objs.size=none:=I1.hok.fresh (Nat.le_refl _)
 refine ⟨.ref s1.heap.objs.size,upd H1 s1.heap.objs.size (.lst xs),I1.laid (t':=s1.toks) (fun b u e=>Heap.get?_push_of_some _ e) (Nat.le_refl _) ?_,rfl,q _ hf⟩
 exact ⟨z,us,0,r,Heap.get?_push_size _ rfl⟩
end
abbrev Sp:=List V→Hp→VK→XK→Prop
abbrev XW:=List Env→Hp→Shared→XK→Value→Shared→Prop
structure Qg (P:Program) (w:World) (K:PySem.W.Frag) (mg:Str→Option Value) (base:Heap) (A:Around) (outer:List Env) (s:Shared) (H:Hp):Prop where
 frames:A.frames=some outer
 mod:Mod K mg base
 bs:∀ b o,base.get? b=some o→s.heap.get? b=some o∧H b=none
 bsz:base.objs.size≤s.heap.objs.size
 funs:s.heap.FunFrames base outer
 frf:∀ b∈Z2 outer,H b=none
 hok:Yu P w H s.heap
 bare:AllBare s.gens
def CE (outer:List Env) (P:Program) (w:World) (H:Hp) (s:Shared) (Q:VK) (u:Value) (s':Shared):Prop :=
 ∃ v H',s'.os=s.os∧AllBare s'.gens∧Un (Z2 outer) [] H H' s.heap s'.heap∧Yu P w H' s'.heap∧ZY v u∧Q v H'
def CR (CX:XW) (outer:List Env) (P:Program) (w:World) (H:Hp) (s:Shared) (Q:VK) (E:XK) (r:Result) (s':Shared):Prop :=
 match r with
 | .ok (.ret u)=>CE outer P w H s Q u s'
 | .ok _=>False
 | .error e=>CX outer H s E e s'
structure Zv (P:Program) (w:World) (K:PySem.W.Frag) (mg:Str→Option Value) (base:Heap) (CX:XW) (k:Nat) (f:Addr) (fd:FuncData) (ps:List Str) (sp:Sp):Prop where
 len:∀ vs H Q E,sp vs H Q E→vs.length=ps.length
 run:∀ (A:Around) (outer:List Env) (s:Shared) (H:Hp) (args:Args) (us:List Value) (vs:List V) (Q:VK) (E:XK),Yy k A→Qg P w K mg base A outer s H→BindsTo s fd args (ps.zip us)→ZJ vs us→sp vs H Q E →
  codeAny (model P w) A (.call (.ref f) args) (CR CX outer P w H s Q E) s
theorem Zv.mono {P:Program} {w:World} {K:PySem.W.Frag} {mg:Str→Option Value} {base:Heap} {CX:XW} {j k:Nat} {f:Addr} {fd:FuncData} {ps:List Str} {sp:Sp} (F:Zv P w K mg base CX j f fd ps sp) (h:j≤k) :
  Zv P w K mg base CX k f fd ps sp:=⟨F.len,fun A outer s H args us vs Q E hr=>F.run A outer s H args us vs Q E (hr.mono h)⟩
theorem Qg.make {P:Program} {w:World} {K:PySem.W.Frag} {mg:Str→Option Value} {base:Heap} {A:Around} {outer:List Env} {s:Shared} {H:Hp} (e:Qg P w K mg base A outer s H) (C:Addr) (us:List Value) (kw:List (Str×Value)) :
  Qg P w K mg base (A.under (.builtin "type.__call__" ⟨.ref C::us,kw⟩)) outer s H:=⟨by first | exact e.frames | (simpa [Around.under,Code.envs,Code.isFrame,pushEnvs] using e.frames),e.mod,e.bs,e.bsz,e.funs,e.frf,e.hok,e.bare⟩
section
variable {X:Cx} {pins:List (Addr×Obj)} {σ:St} {H:Hp} {s s':Shared}
theorem Zd.env0 (I:Zd X pins σ H s):Qg X.prog X.w X.K X.mg X.base X.A X.stack s H :=
 ⟨I.ok.frames,I.ok.mod,I.bs,Nat.le_trans I.ok.bsz I.sz,I.stack,I.stkFree,I.hok,I.bare⟩
theorem Zd.after {Q:VK} {u:Value} (I:Zd X pins σ H s) (h:CE X.stack X.prog X.w H s Q u s'):EP X pins σ Q u s':=by
 obtain ⟨v,H',os,bare,un,hok,r,q⟩:=h
 obtain ⟨hh,g,d,t,os'⟩:=s'
 obtain rfl:os'=s.os:=os
 exact ⟨v,H',I.call (h':=hh) (g':=g) (d':=d) (t':=t) (ch:=[]) un hok bare (fun b z=>absurd z (by simp)),r,q⟩
end
def ZlA (sp:Sp) (dvs:List V) (E:XK) (t:TA):TE:=fun σ H Q=>t σ H fun vs H1=>sp (vs++dvs) H1 Q E
def ZlB (C:Addr) (m:Str) (sp:Sp) (dvs:List V) (E:XK) (ta:TE) (t:TA):TE:=fun σ H Q=>ta σ H fun x H1=>∃ a dx fs,x=.ref a∧H1 a=some (.ins C dx fs)∧fs.lookup m=none ∧
 t σ H1 fun vs H2=>sp (x::(vs++dvs)) H2 Q E
def ZlC (C:Addr) (sp:Sp) (dvs:List V) (E:XK) (t:TA):TE:=fun σ H Q=>t σ H fun vs H1=>∀ x dx,H1 x=none→H1 dx=none→dx≠x →
 sp (.ref x::(vs++dvs)) (upd (upd H1 dx (.own x)) x (.ins C dx [])) (fun v H2=>v=.non∧Q (.ref x) H2) E
def ZL (K:PySem.W.Frag) (fd:FuncData) (ps:List Str) (ds:List Value):Prop :=
 ∀ (s:Shared) (us:List Value),K.In s.heap→(us++ds).length=ps.length→BindsTo s fd ⟨us,[]⟩ (ps.zip (us++ds))
theorem ZL.all {K:PySem.W.Frag} {fd:FuncData} {ps:List Str} (h:∀ us:List Value,us.length=ps.length→bindArgs fd ⟨us,[]⟩=pure (ps.zip us)):ZL K fd ps []:=fun s us _ hl=>by
 rw [List.append_nil] at hl ⊢
 exact .of_eq (h us hl)
def WE (CX:XW) (X:Cx) (E:XK):Prop:=∀ (pins:List (Addr×Obj)) (σ:St) (H:Hp) (s:Shared) (e:Value) (s':Shared),Zd X pins σ H s→CX X.stack H s E e s'→X.xe e s'
section
variable {X:Cx} {CX:XW} {k:Nat} {f C:Addr} {fd:FuncData} {ps:List Str} {sp:Sp} {dvs:List V} {ds:List Value} {E:XK} {x m:Str} {p pos apos:Pos} {e o:Expr} {es:List Expr} {ta:TE} {t:TA}
theorem ZaD {pins:List (Addr×Obj)} {σ:St} {H:Hp} {s:Shared} {Q:VK} {us:List Value} {vs:List V} (F:Zv X.prog X.w X.K X.mg X.base CX k f fd ps sp) (hr:Yy k X.A) (hb:ZL X.K fd ps ds) (hd:ZJ dvs ds) (hx:WE CX X E)
  (I:Zd X pins σ H s) (r:ZJ vs us) (h:sp (vs++dvs) H Q E):wpAny (model X.prog X.w) X.A (call (.ref f) us) (EP X pins σ Q) X.xe s:=by
 have r2:ZJ (vs++dvs) (us++ds):=r.append hd
 have hl:(us++ds).length=ps.length:=by rw [← r2.length];exact F.len _ _ _ _ h
 refine wpAny_call (codeAny_mono (F.run X.A X.stack s H ⟨us,[]⟩ (us++ds) (vs++dvs) Q E hr I.env0 (hb s us I.kIn hl) r2 h) fun r s' hq=>?_)
 cases r with
 | error e=>exact hx pins σ H s e s' I hq
 | ok fl =>
  cases fl with
  | ret u=>exact I.after hq
  | next=>exact False.elim hq
  | brk=>exact False.elim hq
  | cont=>exact False.elim hq
theorem Zo (F:Zv X.prog X.w X.K X.mg X.base CX k f fd ps sp) (hr:Yy k X.A) (hg:Gl X x) (hm:X.mg x=some (.ref f)) (hk:PySem.W.keepIn X.K (.ref f)=true) (hb:ZL X.K fd ps ds) (hd:ZJ dvs ds) (hx:WE CX X E)
  (ha:PA X (e::es) t) (hdb:(x == ("__debug__" : Str))=false:=by decide) (he:starEach (e::es) X.env=(false,eval e X.env)::starEach es X.env:=by rfl) (hpl:(backTo pos (starEach es X.env)).any (·.1)=false:=by rfl) :
  PE X (.Call (.Name x p) (e::es) [] pos) (ZlA sp dvs E t):=by
 intro pins s σ H Q I h
 refine wpAny_Call_Name_kw (UP I hg hm ?_ hdb)
 refine PySem.W.callWith_K (h₀:=X.base) I.ok.mod.kin hk (ZK (ha pos pins s σ H _ I h) fun us s1 ⟨vs,H1,I1,r,q⟩=>⟨I1.kIn,?_⟩) he hpl
 exact ZaD F hr hb hd hx I1 r q
theorem ZlD {pl:Sem Bool} (he:PE X o ta) (c:YK X.K C) (hm:Z1 X.K C m f) (F:Zv X.prog X.w X.K X.mg X.base CX k f fd ps sp) (hr:Yy k X.A) (hb:ZL X.K fd ps ds) (hd:ZJ dvs ds) (hx:WE CX X E) (ha:PA X (e::es) t)
  (hst:starEach (e::es) X.env=(false,eval e X.env)::starEach es X.env:=by rfl) (hpl:(backTo pos (starEach es X.env)).any (·.1)=false:=by rfl)
  (ht:eval (.Call (.Attribute o m apos) (e::es) [] pos) X.env=(do
   let ov ← eval o X.env
   standAt apos.atName
   let (f,first) ← holding [ov] (getMethod ov m pl)
   callWith pos f first (backTo pos (starEach (e::es) X.env)) (backToKw pos (keywordEach [] X.env))):=by rfl) :
  PE X (.Call (.Attribute o m apos) (e::es) [] pos) (ZlB C m sp dvs E ta t):=by
 intro pins s σ H Q I h
 refine PySem.W.methodCall_KW (pl:=pl) (ZK (he pins s σ H _ I h) fun u s1 ⟨x,H1,I1,rx,a,dx,fs,ex,ea,l,q⟩=>?_) ht
 subst ex
 obtain rfl:u=Value.ref a:=rx
 refine Zbo I1 ea c hm l ?_
 refine PySem.W.callWith_K (first:=[.ref a]) (h₀:=X.base) I.ok.mod.kin hm.kp (ZK (ha pos pins s1 σ H1 _ I1 q) fun us s2 ⟨vs,H2,I2,r,q2⟩=>⟨I2.kIn,?_⟩) hst hpl
 exact ZaD (us:=.ref a::us) (vs:=.ref a::vs) F hr hb hd hx I2 (.cons rfl r) q2
structure Mk (K:PySem.W.Frag) (C f:Addr):Prop where
 makes:PySem.W.makesIn K C=true
 init:PySem.W.findIn K (.ref C) "__init__" = some (some (.ref f))
 fn:PySem.W.isFn K (.ref f)=true
 kp:PySem.W.keepIn K (.ref C)=true
theorem ZlE {pins:List (Addr×Obj)} {σ:St} {H:Hp} {s:Shared} {Q:VK} {us:List Value} {vs:List V} (M:Mk X.K C f) (F:Zv X.prog X.w X.K X.mg X.base CX k f fd ps sp) (hr:Yy (k+1) X.A) (hb:ZL X.K fd ps ds) (hd:ZJ dvs ds)
  (hx:WE CX X E) (I:Zd X pins σ H s) (r:ZJ vs us)
  (h:∀ x dx,H x=none→H dx=none→dx≠x→sp (.ref x::(vs++dvs)) (upd (upd H dx (.own x)) x (.ins C dx [])) (fun v H2=>v=.non∧Q (.ref x) H2) E) :
  wpAny (model X.prog X.w) X.A (call (.ref C) us) (EP X pins σ Q) X.xe s:=by
 have hq:=h (s.heap.objs.size+1) s.heap.objs.size (I.hok.fresh (Nat.le_succ _)) (I.hok.fresh (Nat.le_refl _)) (Nat.ne_of_lt (Nat.lt_succ_self _))
 have I2:=Zd.made (C:=C) I
 have r2:ZJ (V.ref (s.heap.objs.size+1)::(vs++dvs)) (Value.ref (s.heap.objs.size+1)::(us++ds)):=.cons rfl (r.append hd)
 have hl:(Value.ref (s.heap.objs.size+1)::us++ds).length=ps.length:=by
  have e:=r2.length
  rw [F.len _ _ _ _ hq] at e
  exact e.symm
 refine wpAny_call (Zln (f:=f) I.kIn M.makes M.init (beq_iff_eq.mp M.fn) (codeAny_mono (F.run _ X.stack _ _ ⟨Value.ref (s.heap.objs.size+1)::us,[]⟩ (Value.ref (s.heap.objs.size+1)::(us++ds)) _ _ E (hr.make C us [])
  (I2.env0.make C us []) (hb _ (Value.ref (s.heap.objs.size+1)::us) I2.kIn hl) r2 hq) fun r s' hq'=>?_))
 cases r with
 | error e=>exact hx pins σ _ _ e s' I2 hq'
 | ok fl =>
  cases fl with
  | ret u =>
   obtain ⟨v,H',I3,rv,ev,q3⟩:=I2.after hq'
   subst ev
   exact ⟨rv,⟨V.ref (s.heap.objs.size+1),H',I3,rfl,q3⟩⟩
  | next=>exact False.elim hq'
  | brk=>exact False.elim hq'
  | cont=>exact False.elim hq'
theorem YN (M:Mk X.K C f) (F:Zv X.prog X.w X.K X.mg X.base CX k f fd ps sp) (hr:Yy (k+1) X.A) (hg:Gl X x) (hm:X.mg x=some (.ref C)) (hb:ZL X.K fd ps ds) (hd:ZJ dvs ds) (hx:WE CX X E)
  (ha:PA X (e::es) t) (hdb:(x == ("__debug__" : Str))=false:=by decide) (he:starEach (e::es) X.env=(false,eval e X.env)::starEach es X.env:=by rfl) (hpl:(backTo pos (starEach es X.env)).any (·.1)=false:=by rfl) :
  PE X (.Call (.Name x p) (e::es) [] pos) (ZlC C sp dvs E t):=by
 intro pins s σ H Q I h
 refine wpAny_Call_Name_kw (UP I hg hm ?_ hdb)
 refine PySem.W.callWith_K (h₀:=X.base) I.ok.mod.kin M.kp (ZK (ha pos pins s σ H _ I h) fun us s1 ⟨vs,H1,I1,r,q⟩=>⟨I1.kIn,?_⟩) he hpl
 exact ZlE M F hr hb hd hx I1 r q
end
def PK (X:Cx) (kws:List Keyword) (t:TA):Prop :=
 ∀ (pos:Pos) (pins:List (Addr×Obj)) (s:Shared) (σ:St) (H:Hp) (Q:List V→Hp→Prop),Zd X pins σ H s→t σ H Q→wpAny (model X.prog X.w) X.A (evalAll ((backToKw pos (keywordEach kws X.env)).map (·.2))) (AP X pins σ Q) X.xe s
section
variable {X:Cx} {CX:XW} {k:Nat} {f C:Addr} {fd:FuncData} {ps ks:List Str} {sp:Sp} {E:XK} {x m:Str} {p pos apos kpos:Pos} {e o:Expr} {es:List Expr} {kws:List Keyword} {te ta:TE} {t tk:TA} {nm:Option Str}
theorem ZlF:PK X [] ZdH:=fun _ _ _ _ H Q I h=>wpAny_evalAll_nil ⟨[],H,I,.nil,h⟩
theorem ZlG (ha:PE X e te) (hr:PK X kws t):PK X (⟨nm,e,kpos⟩::kws) (ZdI te t):=by
 intro pos pins s σ H Q I h
 show wpAny _ _ (evalAll ((do let v ← eval e X.env;standAt pos;pure v)::(backToKw pos (keywordEach kws X.env)).map (·.2))) _ _ s
 refine wpAny_evalAll_cons (wpAny_bind (ZK (ha pins s σ H _ I h) fun u s1 ⟨x,H1,I1,r1,q1⟩=>wpAny_bind (wpAny_standAt (wpAny_pure ?_))))
 exact ZK (hr pos pins s1 σ H1 _ I1 q1) fun us s2 ⟨xs,H2,I2,r2,q2⟩=>⟨x::xs,H2,I2,.cons r1 r2,q2⟩
structure ZsF (K:PySem.W.Frag) (fd:FuncData) (ps ks:List Str) (g:List Value→List Value→List Value) (gV:List V→List V→List V):Prop where
 to:∀ (s:Shared) (us ws:List Value),K.In s.heap→(g us ws).length=ps.length→BindsTo s fd ⟨us,ks.zip ws⟩ (ps.zip (g us ws))
 rel:∀ {vs:List V} {us:List Value} {zs:List V} {ws:List Value},ZJ vs us→ZJ zs ws→ZJ (gV vs zs) (g us ws)
variable {g:List Value→List Value→List Value} {gV:List V→List V→List V}
end
structure ZQ (N P:List Str) (sc:Scope):Prop where
 kind:sc.kind=.function
 co:sc.isCoroutine=false
 gen:sc.isGenerator=false
 nd:N.Nodup
 pre:N.take P.length=P
 par:∀ x∈P,sc.names.lookup x=some .local∨sc.names.lookup x=some .cell
 nofree:∀ y∈sc.names,y.2≠.free
theorem Zgt {kindOf:Str→Option NameKind} {x:Str}:∀ {binds:List (Str×Value)} {m:Str→Option Value},(∀ v,(x,v)∉binds)→bindL kindOf binds m x=m x
 | [],_,_=>rfl
 | (n,v)::r,m,h=>by
  unfold bindL
  rw [Zgt fun w hw=>h w (List.mem_cons_of_mem _ hw)]
  split
  ·have:x≠n:=by rintro rfl;exact h v List.mem_cons_self
   simp [this]
  ·rfl
theorem Zgu {kindOf:Str→Option NameKind} {x:Str}:∀ {binds:List (Str×Value)} {m:Str→Option Value},(∀ v,(x,v)∉binds)→bindC kindOf binds m x=m x
 | [],_,_=>rfl
 | (n,v)::r,m,h=>by
  unfold bindC
  rw [Zgu fun w hw=>h w (List.mem_cons_of_mem _ hw)]
  split
  ·rfl
  ·have:x≠n:=by rintro rfl;exact h v List.mem_cons_self
   simp [this]
theorem Zgv {kindOf:Str→Option NameKind} {x:Str} {v:Value}:∀ {P:List Str} {vs:List Value} {i:Nat} {m:Str→Option Value},P.Nodup→P[i]? = some x→vs[i]? = some v→kindOf x=some .local →
  bindL kindOf (P.zip vs) m x=some v
 | [],_,_,_,_,h,_,_=>by simp at h
 | _::_,[],_,_,_,_,h,_=>by simp at h
 | p::P,w::vs,0,m,nd,h1,h2,hk=>by
  simp at h1 h2;subst h1;subst h2
  show bindL kindOf ((p,w)::P.zip vs) m p=_
  unfold bindL
  rw [Zgt fun v hv=>(List.nodup_cons.mp nd).1 (List.of_mem_zip hv).1,if_pos hk]
  simp
 | p::P,w::vs,i+1,m,nd,h1,h2,hk=>by
  show bindL kindOf ((p,w)::P.zip vs) m x=_
  unfold bindL
  exact Zgv (i:=i) (List.nodup_cons.mp nd).2 (by simpa using h1) (by simpa using h2) hk
theorem Zgw {kindOf:Str→Option NameKind} {x:Str} {v:Value}:∀ {P:List Str} {vs:List Value} {i:Nat} {m:Str→Option Value},P.Nodup→P[i]? = some x→vs[i]? = some v→kindOf x≠some .local →
  bindC kindOf (P.zip vs) m x=some v
 | [],_,_,_,_,h,_,_=>by simp at h
 | _::_,[],_,_,_,_,h,_=>by simp at h
 | p::P,w::vs,0,m,nd,h1,h2,hk=>by
  simp at h1 h2;subst h1;subst h2
  show bindC kindOf ((p,w)::P.zip vs) m p=_
  unfold bindC
  rw [Zgu fun v hv=>(List.nodup_cons.mp nd).1 (List.of_mem_zip hv).1,if_neg hk]
  simp
 | p::P,w::vs,i+1,m,nd,h1,h2,hk=>by
  show bindC kindOf ((p,w)::P.zip vs) m x=_
  unfold bindC
  exact Zgw (i:=i) (List.nodup_cons.mp nd).2 (by simpa using h1) (by simpa using h2) hk
def Vl (N:List Str) (vs:List V):St:=vs.map some++List.replicate (N.length - vs.length) none
def WF (CX:XW) (P:Program) (w:World) (K:PySem.W.Frag) (mg:Str→Option Value) (base:Heap) (N:List Str) (qual:Str) (scope:Scope) (f:Addr) (cd:Value) (A:Around) (outer:List Env) (s:Shared) (H:Hp) (E:XK):Cx where
 prog:=P
 w:=w
 K:=K
 mg:=mg
 base:=base
 A:=A.deeper (envOfC qual scope s.heap.objs.size f cd)
 N:=N
 s₀:=s
 H₀:=H
 env:=envOfC qual scope s.heap.objs.size f cd
 outer:=outer
 stack:=envOfC qual scope s.heap.objs.size f cd::outer
 ex:=[]
 calm:=true
 fn:=fun _=>true
 pn:=[]
 xe:=fun e s'=>wpAny (model P w) (A.deeper (envOfC qual scope s.heap.objs.size f cd)) (leaving (envOfC qual scope s.heap.objs.size f cd) e) (fun _ s''=>CX outer H s E e s'') (fun e' s''=>CX outer H s E e' s'') s'
theorem Zgx {sc:Scope} {n:Nat} {x:Str} (h:sc.names.lookup x=some .cell):∃ c,(cellsFrom n sc.names []).lookup x=some c:=by
 have q:=PySem.W.cellsFrom_some sc.names n [] (.inl h)
 exact Option.isSome_iff_exists.mp q
theorem ZlH {CX:XW} {P:Program} {w:World} {K:PySem.W.Frag} {mg:Str→Option Value} {base:Heap} {N ps:List Str} {qual:Str} {scope:Scope} {f:Addr} {cd:Value} {A:Around} {outer:List Env} {s s1:Shared} {H:Hp} {E:XK} {us:List Value} {vs:List V}
  (S:ZQ N ps scope) (hd:A.handled=none) (e0:Qg P w K mg base A outer s H) (hl:vs.length=ps.length) (r:ZJ vs us)
  (x:InCallC s s.heap.objs.size (bindL (envOfC qual scope s.heap.objs.size f cd).kindOf (ps.zip us) fun _=>none) (cellsFrom (s.heap.objs.size+1) scope.names []) (bindC (envOfC qual scope s.heap.objs.size f cd).kindOf (ps.zip us) fun _=>none) s1) :
  Zd (WF CX P w K mg base N qual scope f cd A outer s H E) [] (Vl N vs) H s1:=by
 have hpl:ps.length≤N.length:=by have:=congrArg List.length S.pre;rw [List.length_take] at this;omega
 obtain ⟨h1,tk,rfl,hk⟩:=x.done
 have noA:∀ b:Addr,b∉(WF CX P w K mg base N qual scope f cd A outer s H E).ex:=fun b z=>absurd (show b∈([]:List Addr) from z) (by simp)
 refine ⟨⟨e0.mod,S.kind,rfl,rfl,Nat.le_refl _,fun y z c h1 h2=>?_,fun y hy=>?_,fun y c _ h=>?_,fun _=>hd,Around.frames_deeper e0.frames,.inr ⟨rfl,rfl⟩,fun b z=>absurd z (noA b),e0.bs,e0.bsz,fun b _ _=>noA b,fun b z=>absurd z (noA b),e0.funs,e0.frf⟩,
  rfl,e0.bare,Un.kept hk,⟨_,x.toInCall.ns,fun i y v h1 h2 h3=>?_⟩,fun y c h=>⟨_,x.cell y c h⟩,e0.hok.fresh (Nat.le_refl _),fun y c h=>?_,fun p hp=>absurd (show p∈([]:List (Addr×Obj)) from hp) (by simp),e0.hok.kept hk,?_⟩
 ·exact name_of_addr x.apart (PySem.mem_of_lookup h1) (PySem.mem_of_lookup h2)
 ·have hy:scope.names.lookup y=some .cell∨scope.names.lookup y=some .free:=hy
  rcases hy with hy | hy
  ·exact Zgx hy
  ·exact absurd rfl (S.nofree _ (PySem.mem_of_lookup hy))
 ·exact Nat.le_of_lt (x.above y c (PySem.mem_of_lookup h))
 ·have hi:i < vs.length:=by
   unfold Vl at h2
   by_cases hi:i < vs.length
   ·exact hi
   ·rw [List.getElem?_append_right (by simpa using hi)] at h2
    rw [List.getElem?_replicate] at h2
    split at h2 <;> cases h2
  have ha:vs[i]? = some v:=by
   unfold Vl at h2
   rw [List.getElem?_append_left (by simpa using hi),List.getElem?_map] at h2
   cases e:vs[i]? with
   | none=>rw [e] at h2;cases h2
   | some a=>rw [e] at h2;cases h2;rfl
  obtain ⟨u,hu,rv⟩:=r.get ha
  have hp:ps[i]? = some y:=by
   rw [← S.pre,List.getElem?_take_of_lt (by omega)];exact h1
  have ndP:ps.Nodup:=by rw [← S.pre];exact S.nd.sublist (List.take_sublist _ _)
  refine ⟨u,rv,?_⟩
  rcases S.par y (List.mem_of_getElem? hp) with k | k
  ·exact .inl ⟨k,Zgv ndP hp hu k⟩
  ·obtain ⟨c,e⟩:=Zgx (n:=s.heap.objs.size+1) k
   refine .inr ⟨.inl k,c,e,?_⟩
   have q:=x.cell y c e
   rw [Zgw ndP hp hu (by show scope.names.lookup y≠_;rw [k];decide)] at q
   exact q
 ·exact e0.hok.fresh (Nat.le_of_lt (x.above y c (PySem.mem_of_lookup h)))
 ·unfold Vl
  show _=N.length
  rw [List.length_append,List.length_map,List.length_replicate]
  omega
theorem Zgy {CX:XW} {P:Program} {w:World} {K:PySem.W.Frag} {mg:Str→Option Value} {base:Heap} {k:Nat} {f:Addr} {name qual:Str} {params:Arguments} {body:List Stmt} {scope:Scope} {dV kV doc pm cdv ct oc:Value} {an od:Option Addr}
  {osl:Array (Option Value)} {N ps:List Str} {sp:Sp} (lk:K.lookup f=some ⟨oc,od,.func (PySem.W.fnOf name qual params body scope dV kV doc pm an cdv ct),osl⟩) (hcd:PySem.W.codeIn K cdv qual=true) (S:ZQ N ps scope)
  (len:∀ vs H Q E,sp vs H Q E→vs.length=ps.length)
  (hbody:∀ (A:Around) (outer:List Env) (s:Shared) (H:Hp) (vs:List V) (Q:VK) (E:XK),Yy k (A.deeper (envOfC qual scope s.heap.objs.size f cdv))→sp vs H Q E →
   ∃ t,XD (WF CX P w K mg base N qual scope f cdv A outer s H E) body t∧t { nx:=fun _ H'=>Q .non H',rt:=Q } (Vl N vs) H) :
  Zv P w K mg base CX (k+1) f (PySem.W.fnOf name qual params body scope dV kV doc pm an cdv ct) ps sp:=by
 refine ⟨len,fun A outer s H args us vs Q E hr e0 hb r hsp=>?_⟩
 have hl:=len _ _ _ _ hsp
 have KX:K.In s.heap:=e0.mod.kin.keeps fun b o e=>(e0.bs b o e).1
 have lim:s.heap.NoLimit:=e0.mod.nolimit.keeps fun b o e=>(e0.bs b o e).1
 have hkind:∀ y∈ps.zip us,scope.names.lookup y.1=some .local∨(scope.names.lookup y.1=some .cell∧((cellsFrom (s.heap.objs.size+1) scope.names []).lookup y.1).isSome=true):=fun ⟨n,v⟩ hy=>by
  rcases S.par n (List.of_mem_zip hy).1 with q | q
  ·exact .inl q
  ·exact .inr ⟨q,PySem.W.cellsFrom_some _ _ _ (.inl q)⟩
 refine codeAny_call_function hr.depth (KX _ _ lk) rfl S.co S.gen rfl (PySem.W.codeRec_of KX hcd) (hb _ _ _ _ ?_)
 refine wpAny_newFunctionEnv_cells S.kind hkind fun env he s1 x=>?_
 subst he
 refine ⟨lim.keeps x.toInCall.keep,codeAny_func ?_⟩
 obtain ⟨t,ht,hq⟩:=hbody A outer s H vs Q E (hr.deeper _) hsp
 have I:Zd (WF CX P w K mg base N qual scope f cdv A outer s H E) [] (Vl N vs) H s1:=ZlH S hr.hd e0 hl r x
 refine wpAny_mono (ht [] s1 (Vl N vs) H _ I hq) (fun fl s' hs=>?_) fun e s' hs=>hs
 have fin:∀ {σ':St} {H':Hp} {v:V} {u:Value},Zd (WF CX P w K mg base N qual scope f cdv A outer s H E) [] σ' H' s'→ZY v u→Q v H'→CE outer P w H s Q u s' :=
  fun {σ' H' v u} J rv q=>⟨v,H',J.os,J.bare,J.base,J.hok,rv,q⟩
 cases fl with
 | ret u =>
  obtain ⟨v,σ',H',J,rv,q⟩:=hs
  exact fin J rv q
 | next =>
  obtain ⟨σ',H',J,q⟩:=hs
  exact fin (v:=V.non) (u:=Value.none) J rfl q
 | brk =>
  obtain ⟨_,_,_,q⟩:=hs
  exact False.elim q
 | cont =>
  obtain ⟨_,_,_,q⟩:=hs
  exact False.elim q
end L2
namespace L2
open PySem PySem.Spec PyProof.Rows
section
variable {X:Cx} {x:Str} {p pos:Pos} {e:Expr} {es:List Expr} {t:TA} {id T:String} {r:List V→Hp→VK→Prop}
def tCB (r:List V→Hp→VK→Prop) (t:TA):TE:=fun σ H Q=>t σ H fun vs H1=>r vs H1 Q
theorem Z4 (hc:Xg X (.builtin id) r) (hg:Gl X x) (hm:X.mg x=none) (hv:bootBuiltins x=some (.builtin id)) (ha:PA X (e::es) t) (hn:x ≠ "__name__" := by decide) (hdb:(x == ("__debug__" : Str))=false:=by decide)
  (he:starEach (e::es) X.env=(false,eval e X.env)::starEach es X.env:=by rfl) (hpl:(backTo pos (starEach es X.env)).any (·.1)=false:=by rfl):PE X (.Call (.Name x p) (e::es) [] pos) (tCB r t):=by
 intro pins s σ H Q I h
 refine wpAny_Call_Name_kw (UQ I hg hm hv ?_ hn hdb)
 exact PyProof.Rows.callWith_builtin1 (ZK (ha pos pins s σ H _ I h) fun us s1 ⟨vs,H1,I1,r1,q1⟩=>hc pins s1 σ H1 vs us Q I1 r1 q1) he hpl
theorem YU (hc:Xg X (.type T) r) (hg:Gl X x) (hm:X.mg x=none) (hv:bootBuiltins x=some (.type T)) (ha:PA X (e::es) t) (hn:x ≠ "__name__" := by decide) (hdb:(x == ("__debug__" : Str))=false:=by decide)
  (he:starEach (e::es) X.env=(false,eval e X.env)::starEach es X.env:=by rfl) (hpl:(backTo pos (starEach es X.env)).any (·.1)=false:=by rfl):PE X (.Call (.Name x p) (e::es) [] pos) (tCB r t):=by
 intro pins s σ H Q I h
 refine wpAny_Call_Name_kw (UQ I hg hm hv ?_ hn hdb)
 exact PyProof.Rows.callWith_type1 (ZK (ha pos pins s σ H _ I h) fun us s1 ⟨vs,H1,I1,r1,q1⟩=>hc pins s1 σ H1 vs us Q I1 r1 q1) he hpl
end
end L2
namespace HT
open PySem PyProof.Rows
section
open PySem.SeqAt
open PySem.AutoSeq1 (wpAny_loadPart')
open PySem.MeetsSeq PySem.MeetsSeq2 PySem.MeetsSeq3
end
section
variable {prog:Program} {w:World} {A:Around} {E:Value→Shared→Prop} {s:Shared}
def sIx (n d:Nat):Option Int→Nat
 | none=>d
 | some v=>if v < 0 then (v+(n:Int)).toNat else min v.toNat n
theorem sIx_none (n d:Nat):sIx n d none=d:=rfl
theorem sIx_nat (n d k:Nat):sIx n d (some (k:Int))=min k n:=by
 show (if (k:Int) < 0 then ((k:Int)+(n:Int)).toNat else min (k:Int).toNat n)=min k n
 rw [if_neg (by omega),Int.toNat_natCast]
end
end HT
namespace L2
open PySem PySem.Spec PyProof.Rows
abbrev TO:=St→Hp→(Option Int→Hp→Prop)→Prop
def PO (X:Cx) (e:Option Expr) (t:TO):Prop :=
 ∀ (pins:List (Addr×Obj)) (s:Shared) (σ:St) (H:Hp) (Q:Option Int→Hp→Prop),Zd X pins σ H s→t σ H Q →
  wpAny (model X.prog X.w) X.A (evalPart e X.env) (fun u s'=>∃ o H',Zd X pins σ H' s'∧IsPart u o∧Q o H') X.xe s
def ZlI:TO:=fun _ H Q=>Q none H
def ZlJ (t:TE):TO:=fun σ H Q=>t σ H fun x H1=>∃ i,x=.int i∧Q (some i) H1
section
variable {X:Cx} {e:Expr} {te:TE} {lo hi:Option Expr} {tl th:TO} {pos p2:Pos}
theorem XH:PO X none ZlI:=by
 intro pins s σ H Q I h
 rw [evalPart_none]
 exact wpAny_pure ⟨none,H,I,.none,h⟩
theorem XI (h:PE X e te):PO X (some e) (ZlJ te):=by
 intro pins s σ H Q I hw
 rw [evalPart_some]
 refine ZK (h pins s σ H _ I hw) fun u s1 ⟨x,H1,I1,r1,q1⟩=>?_
 obtain ⟨i,rfl,q⟩:=q1
 obtain ⟨t,rfl⟩:=r1
 exact ⟨some i,H1,I1,.int i t,q⟩
def SlR (X:Cx) (r:V→Option Int→Option Int→Hp→VK→Prop):Prop :=
 ∀ (pins:List (Addr×Obj)) (s:Shared) (σ:St) (H:Hp) (x:V) (v vl vu:Value) (lo hi:Option Int) (sl:Addr) (Q:VK),Zd X pins σ H s→ZY x v→s.heap.IsSliceOf sl vl vu .none→IsPart vl lo→IsPart vu hi→r x lo hi H Q →
  ∃ T id,typeLookup (.type T) "__getitem__" = pure (some (.builtin id))∧s.TypeIs v T∧wpAny (model X.prog X.w) X.A (getItem v (.ref sl)) (EP X pins σ Q) X.xe s
def tSl (r:V→Option Int→Option Int→Hp→VK→Prop) (te:TE) (tl th:TO):TE:=fun σ H Q=>te σ H fun x H1=>tl σ H1 fun l H2=>th σ H2 fun u H3=>r x l u H3 Q
theorem XJ {r:V→Option Int→Option Int→Hp→VK→Prop} (hr:SlR X r) (he:PE X e te) (hl:PO X lo tl) (hu:PO X hi th):PE X (.Subscript e (.Slice lo hi none p2) pos) (tSl r te tl th):=by
 intro pins s σ H Q I h
 refine Subscript_ (ZK (he pins s σ H _ I h) fun v s1 ⟨x,H1,I1,r1,q1⟩=>?_)
 refine wpAny_Slice (ZK (hl pins s1 σ H1 _ I1 q1) fun vl s2 ⟨l,H2,I2,pl,q2⟩=>ZK (hu pins s2 σ H2 _ I2 q2) fun vu s3 ⟨u,H3,I3,pu,q3⟩=>?_)
 rw [evalPart_none]
 refine wpAny_pure ?_
 have I4:Zd X pins σ H3 { s3 with heap:=s3.heap.push { cls:=.type "slice",data:=.fields #[vl,vu,.none] } }:=I3.kept (t':=s3.toks) fun b ob q=>Heap.get?_push_of_some _ q
 obtain ⟨T,id,hT,ht,hg⟩:=hr pins { s3 with heap:=s3.heap.push { cls:=.type "slice",data:=.fields #[vl,vu,.none] } } σ H3 x v vl vu l u s3.heap.objs.size Q I4 r1 (Heap.IsSliceOf.new ..) pl pu q3
 show wpAny (model X.prog X.w) X.A (subscriptTail e (.Slice lo hi none p2) v (.ref s3.heap.objs.size)) (EP X pins σ Q) X.xe { s3 with heap:=s3.heap.push { cls:=.type "slice",data:=.fields #[vl,vu,.none] } }
 exact tail_any (ops:=[.ref s3.heap.objs.size,v]) ht hT hg (by with_unfolding_all rfl)
def Wg (xs:List V) (lo hi:Option Int):List V:=(xs.drop (HT.sIx xs.length 0 lo)).take (HT.sIx xs.length xs.length hi - HT.sIx xs.length 0 lo)
theorem ZlK (xs:List V) (lo hi:Option Int):(Wg xs lo hi).length≤xs.length:=by
 unfold Wg
 rw [List.length_take,List.length_drop]
 omega
end
end L2
namespace L2
open PySem PySem.Spec PyProof.Rows
def Vm (n:Nat) (i:Int):Option Nat:=if 0≤i then (if i < n then some i.toNat else none) else if -(n:Int)≤i then some (i+n).toNat else none
def Yf {α:Type} (xs:List α) (i:Int):Option α:=(Vm xs.length i).bind fun j=>xs[j]?
theorem Zgz {n:Nat} {i:Int} {j:Nat} (h:Vm n i=some j):seqIndex? i n=some j∧j < n∧-(n:Int)≤i∧i < n:=by
 unfold Vm at h
 by_cases h0:0≤i
 ·rw [if_pos h0] at h
  by_cases h1:i < n
  ·rw [if_pos h1] at h
   have e:i.toNat=j:=Option.some.inj h
   exact ⟨by rw [seqIndex_of h0 h1,e],by omega,by omega,h1⟩
  ·rw [if_neg h1] at h;cases h
 ·rw [if_neg h0] at h
  by_cases h1:-(n:Int)≤i
  ·rw [if_pos h1] at h
   have e:(i+n).toNat=j:=Option.some.inj h
   exact ⟨by rw [seqIndex_neg (by omega) h1,e],by omega,h1,by omega⟩
  ·rw [if_neg h1] at h;cases h
theorem ZdJ {α:Type} {xs:List α} {i:Int} {v:α} (h:Yf xs i=some v):∃ j,seqIndex? i xs.length=some j∧xs[j]? = some v∧j < xs.length∧-(xs.length:Int)≤i∧i < xs.length:=by
 unfold Yf at h
 cases e:Vm xs.length i with
 | none=>rw [e] at h;cases h
 | some j =>
  rw [e] at h
  obtain ⟨h1,h2,h3,h4⟩:=Zgz e
  exact ⟨j,h1,h,h2,h3,h4⟩
theorem XL {α:Type} {xs:List α} {j:Nat} {v:α} (h:xs[j]? = some v):Yf xs (j:Int)=some v:=by
 have hj:j < xs.length:=(List.getElem?_eq_some_iff.mp h).1
 have e:Vm xs.length (j:Int)=some j:=by
  unfold Vm
  rw [if_pos (by omega),if_pos (by omega)];simp
 unfold Yf;rw [e];exact h
theorem ZlL {α:Type} (xs:List α) (v:α):Yf (xs++[v]) (-1)=some v:=by
 have hl:(xs++[v]).length=xs.length+1:=by simp
 have e:Vm (xs++[v]).length (-1)=some xs.length:=by
  unfold Vm
  rw [hl,if_neg (by decide),if_pos (by omega)]
  congr 1
  omega
 unfold Yf
 rw [e]
 show (xs++[v])[xs.length]? = some v
 simp
def ZlM (b:Expr):Prop:=∀ o i,subscripted b false o i=operate [o,i] (getItem o i)
def WG (X:Cx) (r:R2):Prop :=
 ∀ (value slice:Expr) (pins:List (Addr×Obj)) (s:Shared) (σ:St) (H:Hp) (x y:V) (v u:Value) (Q:VK),Zd X pins σ H s→ZY x v→ZY y u→r x y H Q →
  subscripted slice false v u=operate [v,u] (getItem v u)→wpAny (model X.prog X.w) X.A (subscriptTail value slice v u) (EP X pins σ Q) X.xe s
def Qh (X:Cx) (id:String) (r:V→List V→Hp→VK→Prop):Prop :=
 ∀ (pins:List (Addr×Obj)) (s:Shared) (σ:St) (H:Hp) (x:V) (xs:List V) (v:Value) (us:List Value) (Q:VK),Zd X pins σ H s→ZY x v→ZJ xs us→r x xs H Q →
  wpAny (model X.prog X.w) X.A (call (.builtin id) (v::us)) (EP X pins σ Q) X.xe s
section
variable {X:Cx} {a b:Expr} {ta tb:TE} {pos:Pos}
theorem Zz {r:R2} (hr:WG X r) (ha:PE X a ta) (hb:PE X b tb) (hs:ZlM b):PE X (.Subscript a b pos) (tOp r ta tb):=by
 intro pins s σ H Q I h
 exact Subscript_ (ZdE ha hb I h fun v u s2 x y H2 I2 rx ry q=>hr a b pins s2 σ H2 x y v u Q I2 rx ry q (hs _ _))
def UW (K:PySem.W.Frag):R2:=fun x y H Q=>∃ p xs i v,x=.ref p∧y=.int i∧Zm K H p xs∧Yf xs i=some v∧Q v H
def ZlN (K:PySem.W.Frag):R2:=fun x y H Q=>∃ p xs i v,x=.ref p∧y=.int i∧Zi K H p xs∧Yf xs i=some v∧Q v H
def ZlO:R2:=fun x y H Q=>∃ z i c,x=.str z∧y=.int i∧z.length≤sizeLine∧Yf z.cps.toList i=some c∧Q (.str ⟨#[c]⟩) H
theorem Z5:WG X (UW X.K):=by
 intro value slice pins s σ H x y v u Q I rx ry h hs
 obtain ⟨p,xs,i,z,rfl,rfl,hq,he,q⟩:=h
 cases rx
 obtain ⟨t,rfl⟩:=ry
 obtain ⟨its,r,pl,hz⟩:=I.list hq
 obtain ⟨j,h1,h2,h3,h4,h5⟩:=ZdJ he
 obtain ⟨w,ew,rw'⟩:=r.get h2
 have hl:=r.length
 have hn:=Qe
 have fin:EP X pins σ Q w s:=⟨z,H,I,rw',q⟩
 by_cases h0:0≤i
 ·have hj:i.toNat=j:=by
   rw [seqIndex_of h0 h5] at h1
   exact Option.some.inj h1
  exact item_listR pl.isList h0 (by omega) (by rw [hj];simpa using ew) fin hs
 ·have hj:(i+(its.toArray.size:Int)).toNat=j:=by
   rw [seqIndex_neg (by omega) h4] at h1
   rw [List.size_toArray,← hl]
   exact Option.some.inj h1
  exact subscriptTail_builtinR (x:=w) pl.isList.typeIs slot_list_getitem.lookup
   (wpAny_getItem_list_neg (Q:=fun r s'=>r=w∧EP X pins σ Q r s') pl.isList (by omega) (by rw [List.size_toArray] <;> omega) (by omega) (by rw [hj];simpa using ew) ⟨rfl,fin⟩) hs
theorem ZU:WG X (ZlN X.K):=by
 intro value slice pins s σ H x y v u Q I rx ry h hs
 obtain ⟨p,xs,i,z,rfl,rfl,hq,he,q⟩:=h
 cases rx
 obtain ⟨t,rfl⟩:=ry
 obtain ⟨its,r,pl,hz⟩:=I.tuple hq
 obtain ⟨j,h1,h2,h3,h4,h5⟩:=ZdJ he
 obtain ⟨w,ew,rw'⟩:=r.get h2
 have hl:=r.length
 have hn:=Qe
 have fin:EP X pins σ Q w s:=⟨z,H,I,rw',q⟩
 exact subscriptTail_builtinR (x:=w) pl.typeIs slot_tuple_getitem.lookup
  (getItem_tuple (j:=j) (Q:=fun r s'=>r=w∧EP X pins σ Q r s') pl (by omega) (by omega) (by rw [List.size_toArray,← hl];exact h1) (by simpa using ew) ⟨rfl,fin⟩) hs
theorem ZaE:WG X ZlO:=by
 intro value slice pins s σ H x y v u Q I rx ry h hs
 obtain ⟨z,i,c,rfl,rfl,hz,he,q⟩:=h
 obtain ⟨t,rfl⟩:=rx
 obtain ⟨t',rfl⟩:=ry
 obtain ⟨j,h1,h2,h3,h4,h5⟩:=ZdJ he
 have hl:z.cps.toList.length=z.length:=by simp [Str.length]
 rw [hl] at h1 h4 h5
 have hn:=Qe
 exact tail_any (typeIs_str s z t) slot_str_getitem.lookup (getItem_str (c:=c) (by
  have e1:decide (i < -(2 ^ 63:Int))=false:=decide_eq_false (by omega)
  have e2:decide (i ≥ 2 ^ 63)=false:=decide_eq_false (by omega)
  rw [e1,e2,Bool.or_false]) (by rw [h1];simpa using h2) ⟨.str ⟨#[c]⟩,H,I.tok _,⟨_,rfl⟩,q⟩) hs
theorem ZlP (its:List Value) (n j:Nat) (u:Value):Obj.mapSeq (·.setIfInBounds j u) { cls:=.type "list",data:=.seq its.toArray n } = { cls:=.type "list",data:=.seq (its.set j u).toArray n }:=by
 simp [Obj.mapSeq]
theorem Zd.lst {pins:List (Addr×Obj)} {σ:St} {H:Hp} {s:Shared} {p:Addr} {xs:List V} (I:Zd X pins σ H s) (h:H p=some (.lst xs)) :
  ∃ (its:List Value) (n:Nat),ZJ xs its∧s.heap.get? p=some { cls:=.type "list",data:=.seq its.toArray n }∧xs.length≤sizeLine:=by
 obtain ⟨z,its,n,r,e⟩:=I.hok p _ h
 exact ⟨its,n,r,e,z⟩
theorem Zd.lstUpd {pins:List (Addr×Obj)} {σ:St} {H:Hp} {s:Shared} {p:Addr} {xs ys:List V} {its its':List Value} {n n':Nat} {f:Obj→Obj} (I:Zd X pins σ H s) (h:H p=some (.lst xs))
  (ho:s.heap.get? p=some { cls:=.type "list",data:=.seq its.toArray n }) (hf:f { cls:=.type "list",data:=.seq its.toArray n } = { cls:=.type "list",data:=.seq its'.toArray n' }) (r:ZJ ys its') (hz:ys.length≤sizeLine) (t:Nat) :
  Zd X pins σ (upd H p (.lst ys)) { s with heap:=s.heap.update p f,toks:=t }:=by
 have e:(s.heap.update p f).get? p=some { cls:=.type "list",data:=.seq its'.toArray n' }:=by
  rw [Heap.get?_update_self f ho (by rw [hf] <;> rfl),hf]
 refine I.write (x:=p) (e:=p) (by rw [h];trivial) (.inl rfl) (fun b u hb q=>(Heap.get?_update_other _ _ (Ne.symm hb)).trans q) ⟨_,e⟩ ?_
 exact ⟨hz,its',n',r,e⟩
def ZlQ:V→V→V→Hp→(Hp→Prop)→Prop:=fun o i v H Q=>∃ p xs k j,o=.ref p∧i=.int k∧H p=some (.lst xs)∧Vm xs.length k=some j∧Q (upd H p (.lst (xs.set j v)))
theorem ZlR:Zge X ZlQ:=by
 intro pins s σ H o i v ov iv u Q I ro ri rv h
 obtain ⟨p,xs,k,j,rfl,rfl,hp,hj,q⟩:=h
 cases ro
 obtain ⟨t,rfl⟩:=ri
 obtain ⟨its,n,r,ho,hz⟩:=I.lst hp
 obtain ⟨h1,h2,h3,h4⟩:=Zgz hj
 have hl:=r.length
 have hn:=Qe
 have I':Zd X pins σ (upd H p (.lst (xs.set j v))) { s with heap:=s.heap.update p (Obj.mapSeq (·.setIfInBounds j u)) } :=
  I.lstUpd hp ho (ZlP its n j u) (r.set rv j) (by rw [List.length_set];exact hz) s.toks
 by_cases h0:0≤k
 ·have hk:k.toNat=j:=by
   rw [seqIndex_of h0 h4] at h1
   exact Option.some.inj h1
  exact PySem.W.ki_setAt ho h0 (by omega) (by rw [List.size_toArray,← hl];exact h4) (by rw [hk];exact ⟨_,I',q⟩)
 ·have hk:(k+(its.toArray.size:Int)).toNat=j:=by
   rw [seqIndex_neg (by omega) h3] at h1
   rw [List.size_toArray,← hl]
   exact Option.some.inj h1
  exact PySem.W.ki_setBack ho (by omega) (by rw [List.size_toArray,← hl];exact h3) (by omega) (by rw [hk];exact ⟨_,I',q⟩)
theorem ZlS (lo hi:Option Int) (n:Nat):(sliceBounds lo hi none n).1=((HT.sIx n 0 lo:Nat):Int)∧(sliceBounds lo hi none n).2.1=((HT.sIx n n hi:Nat):Int)∧(sliceBounds lo hi none n).2.2=1:=by
 refine ⟨?_,?_,rfl⟩
 ·cases lo with
  | none=>simp [sliceBounds,HT.sIx]
  | some i =>
   simp only [sliceBounds,HT.sIx,Option.getD_none,show (1:Int) > 0 by decide,if_true]
   by_cases h:i < 0
   ·simp only [h,if_true] <;> omega
   ·simp only [h,if_false] <;> omega
 ·cases hi with
  | none=>simp [sliceBounds,HT.sIx]
  | some i =>
   simp only [sliceBounds,HT.sIx,Option.getD_none,show (1:Int) > 0 by decide,if_true]
   by_cases h:i < 0
   ·simp only [h,if_true] <;> omega
   ·simp only [h,if_false] <;> omega
theorem ZlT (its:List Value) (lo hi:Option Int):slicePick its.toArray lo hi none=((its.drop (HT.sIx its.length 0 lo)).take (HT.sIx its.length its.length hi - HT.sIx its.length 0 lo)).toArray:=by
 obtain ⟨h1,h2,h3⟩:=ZlS lo hi its.toArray.size
 unfold slicePick
 rw [h1,h2,h3]
 simp only [sliceRange_one,pick_run,List.size_toArray] <;> rfl
def ZlU (K:PySem.W.Frag):V→Option Int→Option Int→Hp→VK→Prop:=fun x lo hi H Q=>∃ a xs,x=.ref a∧Zm K H a xs∧∀ p,H p=none→Q (.ref p) (upd H p (.lst (Wg xs lo hi)))
theorem WW:SlR X (ZlU X.K):=by
 intro pins s σ H x v vl vu lo hi sl Q I rx hs pl pu h
 obtain ⟨a,xs,rfl,hx,q⟩:=h
 cases rx
 obtain ⟨its,r,ht,hz⟩:=I.list hx
 have hlen:=r.length
 refine ⟨"list",_,slot_list_getitem.lookup,ht.isList.typeIs,?_⟩
 refine wpAny_getItem_list_slice ht.isList hs pl pu .none (by simp) ?_ (by rw [List.size_toArray] <;> omega)
 rw [ZlT,← hlen]
 refine ⟨.ref s.heap.objs.size,_,I.laid (t':=s.toks) (o:=.lst (Wg xs lo hi)) (fun b ob q=>Heap.get?_push_of_some _ q) (Nat.le_refl _) ?_,rfl,q _ (I.hok.fresh (Nat.le_refl _))⟩
 exact ⟨Nat.le_trans (ZlK xs lo hi) hz,_,0,(r.drop (HT.sIx xs.length 0 lo)).take (HT.sIx xs.length xs.length hi - HT.sIx xs.length 0 lo),Heap.get?_push_size _ rfl⟩
def Y0:V→Bool
 | .non=>true
 | .bl _=>true
 | .int _=>true
 | .str _=>true
 | _=>false
def Yr:V→V→Bool
 | .non,.non=>true
 | .bl a,.bl b=>a == b
 | .bl a,.int b=>(if a then 1 else 0) == b
 | .int a,.bl b=>a == (if b then 1 else 0)
 | .int a,.int b=>a == b
 | .str a,.str b=>a == b
 | _,_=>false
theorem ZgA {A:Around} {s:Shared} {y x:V} {u v:Value} (ry:ZY y u) (rx:ZY x v) (fy:Y0 y=true) (fx:Y0 x=true):SeqAt.EqAt A s u v (Yr y x):=by
 cases y with
 | non =>
  cases ry
  cases x with
  | non=>cases rx;exact SeqAt.EqAt.same _
  | bl b=>cases rx;exact SeqAt.EqAt.none_bool b
  | int b=>obtain ⟨t,rfl⟩:=rx;exact SeqAt.EqAt.none_int b t
  | str b=>obtain ⟨t,rfl⟩:=rx;exact SeqAt.EqAt.none_str b t
  | _=>exact absurd (show false=true from fx) Bool.false_ne_true
 | bl a =>
  cases ry
  cases x with
  | non=>cases rx;exact SeqAt.EqAt.bool_none a
  | bl b=>cases rx;exact SeqAt.EqAt.bool_bool a b
  | int b=>obtain ⟨t,rfl⟩:=rx;exact SeqAt.EqAt.bool_int a b t
  | str b=>obtain ⟨t,rfl⟩:=rx;exact SeqAt.EqAt.bool_str a b t
  | _=>exact absurd (show false=true from fx) Bool.false_ne_true
 | int a =>
  obtain ⟨t',rfl⟩:=ry
  cases x with
  | non=>cases rx;exact SeqAt.EqAt.int_none a t'
  | bl b=>cases rx;exact SeqAt.EqAt.int_bool a t' b
  | int b=>obtain ⟨t,rfl⟩:=rx;exact SeqAt.EqAt.int_int a t' b t
  | str b=>obtain ⟨t,rfl⟩:=rx;exact SeqAt.EqAt.int_str a t' b t
  | _=>exact absurd (show false=true from fx) Bool.false_ne_true
 | str a =>
  obtain ⟨t',rfl⟩:=ry
  cases x with
  | non=>cases rx;exact SeqAt.EqAt.str_none a t'
  | bl b=>cases rx;exact SeqAt.EqAt.str_bool a t' b
  | int b=>obtain ⟨t,rfl⟩:=rx;exact SeqAt.EqAt.str_int a t' b t
  | str b=>obtain ⟨t,rfl⟩:=rx;exact SeqAt.EqAt.str_str a t' b t
  | _=>exact absurd (show false=true from fx) Bool.false_ne_true
 | _=>exact absurd (show false=true from fy) Bool.false_ne_true
def Y8 (x:V) (u:Value):Bool:=match u with
 | .none=>Yr .non x
 | .bool b=>Yr (.bl b) x
 | .int i _=>Yr (.int i) x
 | .str z _=>Yr (.str z) x
 | _=>false
theorem Zbp {x y:V} {u:Value} (r:ZY y u) (f:Y0 y=true):Y8 x u=Yr y x:=by
 cases y with
 | non=>cases r;rfl
 | bl b=>cases r;rfl
 | int i=>obtain ⟨t,rfl⟩:=r;rfl
 | str z=>obtain ⟨t,rfl⟩:=r;rfl
 | _=>exact absurd (show false=true from f) Bool.false_ne_true
theorem ZaF {x:V}:∀ {xs:List V} {us:List Value},ZJ xs us→xs.all Y0=true→us.any (Y8 x)=xs.any fun y=>Yr y x
 | _,_,.nil,_=>rfl
 | y::xs,u::us,.cons r t,f=>by
  rw [List.all_cons,Bool.and_eq_true] at f
  rw [List.any_cons,List.any_cons,Zbp r f.1,ZaF t f.2]
theorem Qi {A:Around} {s:Shared} {x:V} {v:Value} (rx:ZY x v) (fx:Y0 x=true):∀ {xs:List V} {us:List Value},ZJ xs us→xs.all Y0=true→∀ u∈us,SeqAt.EqAt A s u v (Y8 x u)
 | _,_,.nil,_=>fun u hu=>by cases hu
 | y::xs,u::us,.cons r t,f=>fun u' hu=>by
  rw [List.all_cons,Bool.and_eq_true] at f
  rcases List.mem_cons.mp hu with rfl | hu
  ·rw [Zbp r f.1];exact ZgA r rx f.1 fx
  ·exact Qi rx fx t f.2 u' hu
def XX (x:V) (xs:List V):Bool:=xs.any fun y=>Yr y x
def Yz (K:PySem.W.Frag) (neg:Bool):R2:=fun x y H Q=>∃ p xs,y=.ref p∧(Zm K H p xs∨Zi K H p xs)∧Y0 x=true∧xs.all Y0=true∧Q (.bl (if neg then !XX x xs else XX x xs)) H
theorem WH:Yk X (compareOp .In) (Yz X.K false):=by
 intro pins s σ H x y v u Q I rx ry h
 obtain ⟨p,xs,rfl,hq,fx,fs,q⟩:=h
 cases ry
 rcases hq with hq | hq
 ·obtain ⟨its,r,pl,hz⟩:=I.list hq
  refine SeqAt.in_listAt (Y8 x) pl.isList (fun w hw=>Qi rx fx r fs w (by simpa using hw)) ⟨.bl _,H,I,rfl,?_⟩
  rw [show its.toArray.any (Y8 x)=its.any (Y8 x) by simp,ZaF r fs]
  exact q
 ·obtain ⟨its,r,pl,hz⟩:=I.tuple hq
  refine SeqAt.in_tupleAt (Y8 x) pl (fun w hw=>Qi rx fx r fs w (by simpa using hw)) ⟨.bl _,H,I,rfl,?_⟩
  rw [show its.toArray.any (Y8 x)=its.any (Y8 x) by simp,ZaF r fs]
  exact q
theorem ZgB:Yk X (compareOp .NotIn) (Yz X.K true):=by
 intro pins s σ H x y v u Q I rx ry h
 obtain ⟨p,xs,rfl,hq,fx,fs,q⟩:=h
 cases ry
 rcases hq with hq | hq
 ·obtain ⟨its,r,pl,hz⟩:=I.list hq
  refine SeqAt.notIn_listAt (Y8 x) pl.isList (fun w hw=>Qi rx fx r fs w (by simpa using hw)) ⟨.bl _,H,I,rfl,?_⟩
  rw [show its.toArray.any (Y8 x)=its.any (Y8 x) by simp,ZaF r fs]
  exact q
 ·obtain ⟨its,r,pl,hz⟩:=I.tuple hq
  refine SeqAt.notIn_tupleAt (Y8 x) pl (fun w hw=>Qi rx fx r fs w (by simpa using hw)) ⟨.bl _,H,I,rfl,?_⟩
  rw [show its.toArray.any (Y8 x)=its.any (Y8 x) by simp,ZaF r fs]
  exact q
theorem WX:Xg X (.builtin "len") (fun xs H Q=>∃ p ys,xs=[.ref p]∧(Zm X.K H p ys∨Zi X.K H p ys)∧Q (.int ys.length) H):=by
 intro pins s σ H xs us Q I r h
 obtain ⟨p,ys,rfl,hq,q⟩:=h
 obtain ⟨u,rfl,rx⟩:=XG r
 cases rx
 have hn:=Qe
 rcases hq with hq | hq
 ·obtain ⟨its,r',pl,hz⟩:=I.list hq
  have hlen:=r'.length
  exact Calls.call_len_list pl.isList (by simp only [List.size_toArray] <;> omega) ⟨.int ys.length,H,I.tok _,⟨s.toks+1,by rw [List.size_toArray,hlen]⟩,q⟩
 ·obtain ⟨its,r',pl,hz⟩:=I.tuple hq
  have hlen:=r'.length
  exact len_tuple pl (by simp only [List.size_toArray] <;> omega) ⟨.int ys.length,H,I.tok _,⟨s.toks+1,by rw [List.size_toArray,hlen]⟩,q⟩
theorem QR:Xg X (.builtin "len") (fun xs H Q=>∃ z,xs=[.str z]∧z.length≤sizeLine∧Q (.int z.length) H):=by
 intro pins s σ H xs us Q I r h
 obtain ⟨z,rfl,hz,q⟩:=h
 obtain ⟨u,rfl,t,rfl⟩:=XG r
 have hn:=Qe
 exact len_str (by omega) ⟨.int z.length,H,I.tok _,⟨_,rfl⟩,q⟩
theorem Zbq:Xg X (.type "list") (fun xs H Q=>∃ p ys,xs=[.ref p]∧(Zm X.K H p ys∨Zi X.K H p ys)∧∀ l,H l=none→Q (.ref l) (upd H l (.lst ys))):=by
 intro pins s σ H xs us Q I r h
 obtain ⟨p,ys,rfl,hq,q⟩:=h
 obtain ⟨u,rfl,rx⟩:=XG r
 cases rx
 have fin:∀ (its:List Value),ZJ ys its→ys.length≤sizeLine→∀ (h':Heap) (c':Nat),(∀ b o',s.heap.get? b=some o'→h'.get? b=some o') →
   h'.get? s.heap.objs.size=some { cls:=.type "list",dict:=none,data:=.seq its.toArray c',slots:=#[] }→EP X pins σ Q (.ref s.heap.objs.size) { s with heap:=h' }:=fun its r' hz h' c' kp e =>
  ⟨.ref s.heap.objs.size,_,I.laid (t':=s.toks) kp (Nat.le_refl _) (show Yp X.prog X.w _ h' _ (.lst ys) from ⟨hz,its,c',r',e⟩),rfl,q _ (I.hok.fresh (Nat.le_refl _))⟩
 rcases hq with hq | hq
 ·obtain ⟨its,r',pl,hz⟩:=I.list hq
  have hlen:=r'.length
  obtain ⟨o,ho,hc,n,hd⟩:=pl.isList
  exact call_list_seq p (.inl rfl) ho hc hd (fun h' c' kp e=>fin its r' hz h' c' kp e) (by simp only [List.size_toArray] <;> omega)
 ·obtain ⟨its,r',pl,hz⟩:=I.tuple hq
  have hlen:=r'.length
  obtain ⟨o,ho,hc,n,hd⟩:=pl
  exact call_list_seq p (.inr rfl) ho hc hd (fun h' c' kp e=>fin its r' hz h' c' kp e) (by simp only [List.size_toArray] <;> omega)
theorem Zbr:Xg X (.type "tuple") (fun xs H Q=>∃ p ys,xs=[.ref p]∧((Zm X.K H p ys∧∀ l,H l=none→Q (.ref l) (upd H l (.tup ys)))∨(Zi X.K H p ys∧Q (.ref p) H))):=by
 intro pins s σ H xs us Q I r h
 obtain ⟨p,ys,rfl,h⟩:=h
 obtain ⟨u,rfl,rx⟩:=XG r
 cases rx
 rcases h with ⟨hq,q⟩ | ⟨hq,q⟩
 ·obtain ⟨its,r',pl,hz⟩:=I.list hq
  have hlen:=r'.length
  refine call_tuple_list pl.isList (fun h' kp=>?_) (by simp only [List.size_toArray] <;> omega)
  have I1:Zd X pins σ H { s with heap:=h' }:=I.kept (t':=s.toks) kp
  have I2:Zd X pins σ (upd H h'.objs.size (.tup ys)) { s with heap:=h'.push { cls:=.type "tuple",data:=.seq its.toArray } } :=
   I1.laid (t':=s.toks) (fun b o e=>Heap.get?_push_of_some _ e) (Nat.le_refl _) (show Yp X.prog X.w _ _ _ (.tup ys) from ⟨hz,its,r',IsTup.new _ _⟩)
  exact ⟨.ref h'.objs.size,_,I2,rfl,q _ (I1.hok.fresh (Nat.le_refl _))⟩
 ·obtain ⟨its,r',pl,hz⟩:=I.tuple hq
  exact call_tuple_same pl ⟨.ref p,H,I,rfl,q⟩
def tyV (K:PySem.W.Frag) (T:String) (x:V) (H:Hp):Prop:=match x with
 | .str _=>T = "str"
 | .int _=>T = "int"
 | .ref p=>(T = "list" ∧ ∃ xs,Zm K H p xs)∨(T = "tuple" ∧ ∃ o,K.lookup p=some o∧o.cls=.type "tuple" ∧ o.dict=none) ∨
   (T = "dict" ∧ ((∃ kvs,H p=some (.dK kvs))∨∃ kvs,H p=some (.dT kvs)))∨(T = "set" ∧ ∃ S n,H p=some (.set S n))
 | _=>False
theorem ZgC {pins:List (Addr×Obj)} {σ:St} {H:Hp} {s:Shared} {T:String} {x:V} {v:Value} (I:Zd X pins σ H s) (r:ZY x v) (ty:tyV X.K T x H) :
  s.TypeIs v T∧∀ a,v=.ref a→∃ ob,s.heap.get? a=some ob∧ob.dict=none:=by
 cases x with
 | str z =>
  obtain ⟨t,rfl⟩:=r
  cases (show T = "str" from ty)
  exact ⟨typeIs_str s z t,fun _ e=>nomatch e⟩
 | int i =>
  obtain ⟨t,rfl⟩:=r
  cases (show T = "int" from ty)
  exact ⟨typeIs_int s i t,fun _ e=>nomatch e⟩
 | ref p =>
  cases r
  rcases ty with ⟨rfl,xs,hq⟩ | ⟨rfl,o,hk,hc,hd⟩ | ⟨rfl,hk⟩ | ⟨rfl,S,n,hk⟩
  ·obtain ⟨its,_,pl,_⟩:=I.list hq
   refine ⟨pl.isList.typeIs,fun a e=>?_⟩
   cases e
   obtain ⟨o,n,e,c,hd,_⟩:=pl
   exact ⟨o,e,hd⟩
  ·refine ⟨⟨o,I.kIn p o hk,hc⟩,fun a e=>?_⟩
   cases e
   exact ⟨o,I.kIn _ o hk,hd⟩
  ·have z:∃ o,s.heap.get? p=some o∧o.ExactDict:=by
    rcases hk with ⟨kvs,hk⟩ | ⟨kvs,hk⟩
    ·obtain ⟨_,_,_,_,o,_,_,e,ex,_⟩:=I.hok p _ hk
     exact ⟨o,e,ex⟩
    ·obtain ⟨_,_,_,_,o,_,_,e,ex,_⟩:=I.hok p _ hk
     exact ⟨o,e,ex⟩
   obtain ⟨o,e,ex⟩:=z
   refine ⟨⟨o,e,ex.1⟩,fun a e2=>?_⟩
   cases e2
   exact ⟨o,e,ex.2.1⟩
  ·obtain ⟨o,_,_,_,e,ex,_⟩:=I.hok p _ hk
   refine ⟨⟨o,e,ex.1⟩,fun a e2=>?_⟩
   cases e2
   exact ⟨o,e,ex.2.1⟩
 | _=>exact False.elim ty
def ZlV (K:PySem.W.Frag) (T:String) (r:V→List V→Hp→VK→Prop) (to:TE):TE:=fun σ H Q=>to σ H fun x H1=>tyV K T x H1∧r x [] H1 Q
def tBM (K:PySem.W.Frag) (T:String) (r:V→List V→Hp→VK→Prop) (to:TE) (t:TA):TE:=fun σ H Q=>to σ H fun x H1=>tyV K T x H1∧t σ H1 fun xs H2=>r x xs H2 Q
variable {o e:Expr} {es:List Expr} {to:TE} {t:TA} {name:Str} {apos cpos:Pos} {T id:String} {r:V→List V→Hp→VK→Prop}
theorem ZlW (pa:PlainAttrs T) (slot:Slot T name id) (hty:typeOf (.builtin id)=pure (.type "method_descriptor")) (hm:Qh X id r) (ho:PE X o to)
  (hbase:attributeBase o name X.env (eval o X.env)=eval o X.env:=by rfl) (hline:(apos.endLine == cpos.line)=true:=by rfl):PE X (.Call (.Attribute o name apos) [] [] cpos) (ZlV X.K T r to):=by
 intro pins s σ H Q I h
 refine wpAny_Call_method0_late hbase hline (ZK (ho pins s σ H _ I h) fun v s1 ⟨x,H1,I1,r1,ty,q1⟩=>?_)
 obtain ⟨h1,h2⟩:=ZgC I1 r1 ty
 exact ⟨T,id,pa,slot,hty,h1,h2,Calls.callWith_builtin rfl (PySem.evalArgs_none (hm pins s1 σ H1 x [] v [] Q I1 r1 .nil q1))⟩
theorem Xu (pa:PlainAttrs T) (slot:Slot T name id) (hty:typeOf (.builtin id)=pure (.type "method_descriptor")) (hm:Qh X id r) (ho:PE X o to) (ha:PA X (e::es) t)
  (hbase:attributeBase o name X.env (eval o X.env)=eval o X.env:=by rfl)
  (hfew:((backTo cpos (starEach (e::es) X.env)).all (fun x=>!x.1) && (backToKw cpos (keywordEach [] X.env)).all (fun x=>x.1.isSome)
   && decide ((e::es).length+([]:List Keyword).length+(if ([]:List Keyword).isEmpty then 0 else 1) < 30))=true:=by rfl)
  (hline:(apos.endLine == cpos.line)=true:=by rfl) (hs:starEach (e::es) X.env=(false,eval e X.env)::starEach es X.env:=by rfl) (hplain:(backTo cpos (starEach es X.env)).any (·.1)=false:=by rfl) :
  PE X (.Call (.Attribute o name apos) (e::es) [] cpos) (tBM X.K T r to t):=by
 intro pins s σ H Q I h
 refine wpAny_Call_method_late hbase hfew hline rfl (ZK (ho pins s σ H _ I h) fun v s1 ⟨x,H1,I1,r1,ty,q1⟩=>?_)
 obtain ⟨h1,h2⟩:=ZgC I1 r1 ty
 refine ⟨T,id,pa,slot,hty,h1,h2,?_⟩
 have hA:=ha cpos pins s1 σ H1 _ I1 q1
 rw [hs] at hA ⊢
 refine Calls.callWith_builtin (by show (false || (backTo cpos (starEach es X.env)).any (·.1))=false;rw [hplain] <;> rfl) (Calls.evalArgs_plain ?_)
 exact ZK hA fun us s2 ⟨vs,H2,I2,r2,q2⟩=>hm pins s2 σ H2 x vs v us Q I2 r1 r2 q2
end
end L2
namespace L2
open PySem PySem.Spec PyProof.Rows
def MtM (X:Cx) (id:String) (r:V→List V→Hp→VK→Prop):Prop :=
 ∀ (pins:List (Addr×Obj)) (s:Shared) (σ:St) (H:Hp) (x:V) (xs:List V) (v:Value) (us:List Value) (Q:VK),Zd X pins σ H s→ZY x v→ZJ xs us→r x xs H Q →
  wpAny (model X.prog X.w) X.A (call (.builtin id) (v::us)) (EP X pins σ Q) X.xe s
theorem ZJ.one:∀ {x:V} {us:List Value},ZJ [x] us→∃ u,us=[u]∧ZY x u
 | _,_,.cons r .nil=>⟨_,rfl,r⟩
theorem ZJ.zero:∀ {us:List Value},ZJ [] us→us=[]
 | _,.nil=>rfl
theorem ZJ.dropLast {xs:List V} {us:List Value} (h:ZJ xs us):ZJ xs.dropLast us.dropLast:=by
 induction h with
 | nil=>exact .nil
 | cons r t ih =>
  cases t with
  | nil=>exact .nil
  | cons q t'=>exact .cons r ih
theorem ZlX {α:Type} (l:List α):l.eraseIdx (l.length - 1)=l.dropLast:=by
 induction l with
 | nil=>rfl
 | cons a r ih =>
  cases r with
  | nil=>rfl
  | cons b r =>
   have e:(a::b::r).length - 1=((b::r).length - 1)+1:=by
    have h1:(a::b::r).length=r.length+2:=rfl
    have h2:(b::r).length=r.length+1:=rfl
    omega
   rw [e,List.eraseIdx_cons_succ,ih]
   all_goals rfl
section
variable {X:Cx} {pins:List (Addr×Obj)} {σ:St} {H:Hp} {s:Shared} {l b:Addr} {xs ys zs:List V}
theorem Zd.lset {its its':List Value} {n:Nat} {f:Array Value→Array Value} {t':Nat} (I:Zd X pins σ H s) (hH:H l=some (.lst xs))
  (e:s.heap.get? l=some { cls:=.type "list",data:=.seq its.toArray n }) (hf:f its.toArray=its'.toArray) (hv:ZJ ys its') (hz:ys.length≤sizeLine) :
  Zd X pins σ (upd H l (.lst ys)) { s with heap:=s.heap.update l (Obj.mapSeq f),toks:=t' }:=by
 have q:=PySem.IsL.update e f
 rw [hf] at q
 refine I.write (x:=l) (e:=l) (by rw [hH];exact trivial) (.inl rfl) (fun b' u hb hu=>(Heap.get?_update_other s.heap (Obj.mapSeq f) (Ne.symm hb)).trans hu) ⟨_,q⟩ ?_
 exact ⟨hz,its',_,hv,q⟩
theorem Zd.lnew {its:List Value} {t':Nat} (I:Zd X pins σ H s) (hv:ZJ ys its) (hz:ys.length≤sizeLine) :
  Zd X pins σ (upd H s.heap.objs.size (.lst ys)) { s with heap:=s.heap.push { cls:=.type "list",data:=.seq its.toArray },toks:=t' } :=
 I.laid (fun _ _ q=>Heap.get?_push_of_some _ q) (Nat.le_refl _) ⟨hz,its,0,hv,Heap.get?_push_size _ rfl⟩
theorem Zd.fresh (I:Zd X pins σ H s):H s.heap.objs.size=none:=I.hok.fresh (Nat.le_refl _)
theorem Zd.lstM (I:Zd X pins σ H s) (hH:H l=some (.lst xs)):xs.length≤sizeLine∧∃ (its:List Value) (n:Nat),ZJ xs its∧xs.length=its.length∧s.heap.get? l=some { cls:=.type "list",data:=.seq its.toArray n }:=by
 obtain ⟨z,its,n,r,e⟩:=I.hok l _ hH
 exact ⟨z,its,n,r,r.length,e⟩
end
section
variable {X:Cx}
def ZlY:V→List V→Hp→VK→Prop:=fun x vs H Q=>∃ l xs y,x=.ref l∧vs=[]∧H l=some (.lst xs)∧xs[xs.length - 1]? = some y∧Q y (upd H l (.lst xs.dropLast))
theorem ZlZ:MtM X "list.pop" ZlY:=by
 intro pins s σ H x vs v us Q I rx rv h
 obtain ⟨l,xs,y,rfl,rfl,hH,hy,q⟩:=h
 cases rx
 have hus:=rv.zero
 subst hus
 obtain ⟨z,its,n,r,hl,e⟩:=I.lstM hH
 obtain ⟨u,hu,ru⟩:=r.get hy
 have hy':its.toArray[its.toArray.size - 1]? = some u:=by
  show its.toArray[its.length - 1]? = some u
  rw [← Array.getElem?_toList,← hl]
  exact hu
 refine call_meets F.slot_list_pop ⟨_,e,rfl⟩ F.entry_list_pop (F.args_list_pop_1 _) (MeetsSeq.list_pop_last l its.toArray n u hy' (by rw [List.size_toArray];omega)) ⟨e,?_⟩
 refine ⟨y,_,I.lset (its':=its.dropLast) hH e ?_ r.dropLast ?_,ru,q⟩
 ·show its.toArray.eraseIdxIfInBounds (its.toArray.size - 1)=its.dropLast.toArray
  rw [List.size_toArray,List.eraseIdxIfInBounds_toArray,ZlX]
 ·rw [List.length_dropLast]
  omega
def Zl0:R2:=fun x y H Q=>∃ l b xs zs,x=.ref l∧y=.ref b∧H l=some (.lst xs)∧H b=some (.lst zs)∧xs.length+zs.length≤sizeLine∧∀ p,H p=none→Q (.ref p) (upd H p (.lst (xs++zs)))
theorem YO:Yk X (binaryOp .Add) Zl0:=by
 intro pins s σ H x y v u Q I rx ry h
 obtain ⟨l,b,xs,zs,rfl,rfl,hH,hB,hz,q⟩:=h
 cases rx
 cases ry
 obtain ⟨z,its,n,r,hl,e⟩:=I.lstM hH
 obtain ⟨z2,its2,n2,r2,hl2,e2⟩:=I.lstM hB
 refine PySem.P.add_list e e2 ?_ (by rw [List.size_toArray,List.size_toArray];omega)
 have ea:its.toArray++its2.toArray=(its++its2).toArray:=by simp
 rw [ea]
 exact ⟨.ref _,_,I.lnew (t':=s.toks) (r.append r2) (by rw [List.length_append];omega),rfl,q _ I.fresh⟩
end
section
variable {prog:Program} {w:World} {A:Around} {E:Value→Shared→Prop} {s:Shared}
set_option maxRecDepth 100000 in
end
section
variable {X:Cx}
end
end L2
namespace Att
open PySem PySem.W PySem.Calls PyProof.Rows
theorem Zl1 {P:Params} {h:Heap}:∀ (ns:List Int) (vs:List Value),WellAll P h vs (ns.map WData.int)→IntsAre vs ns:=by
 intro ns
 induction ns with
 | nil =>
  intro vs w
  rw [List.map_nil] at w
  cases w
  exact .nil
 | cons n ns ih =>
  intro vs w
  rw [List.map_cons] at w
  cases w with
  | cons a b =>
   cases a
   exact .cons _ _ (ih _ b)
theorem Zl2 {l:OpenLaw} {n:Nat} (hn:l.most=some n) {P:Params} {h:Heap} {args:List WData} {vals:List Value}
  (hpre:l.row.toRowW.claim.pre args=true) (hwl:WellAll P h vals args) :
  ∃ a vs ns,vals=[Value.ref a]∧args=[WData.list (ns.map WData.int)]∧h.get? a=some { cls:=.type "list",data:=.seq vs.toArray }∧IntsAre vs ns∧ns.length≤n:=by
 have hsh:WShape.hasAll [] args [.list .int]=true:=(pre_splitW hpre).1
 have hc:l.pre.holds [] { args:=args } = true:=(pre_splitW hpre).2
 obtain ⟨d,r,rfl,h1,h2⟩:=hasAllW_cons hsh
 obtain rfl:=hasAllW_nil h2
 obtain ⟨xs,rfl,h3⟩:=hasW_list h1
 obtain ⟨ns,rfl⟩:=items_int h3
 have hlen:ns.length≤n:=by
  unfold OpenLaw.pre at hc
  have h4:(WTm.not (.lt (.lit (.int (n:Int))) (.len (.arg 0)))).holds [] { args:=[.list (ns.map .int)] } = true:=by
   have h4:=(holds_andW hc).1
   rw [hn] at h4
   exact h4
  have h5:=condW_of h4 (w_not (w_lt w_lit (w_len_list (w_arg rfl))))
  rw [List.length_map] at h5
  refine Nat.le_of_not_lt fun q=>?_
  have q':(n:Int) < ((ns.length:Nat):Int):=by omega
  first
   | (rw [decide_eq_true q'] at h5;exact absurd h5 (by decide))
   | (simp at h5;omega)
 cases hwl with
 | cons w1 w2 =>
  cases w2
  cases w1 with
  | list ho hall=>exact ⟨_,_,ns,rfl,rfl,ho,Zl1 ns _ hall,hlen⟩
theorem Zl3 (l:OpenLaw) (args:List WData):l.row.toRowW.claim.post args (.bool true) args=true :=
 postW_of (r:=l.row.toRowW) (X:=(true == true))
  (show WShape.has [] (.bool true) .bool=true by first | rfl | decide | simp [WShape.has,WShape.arms,WShape.armsAll])
  (show (WTm.eq .res (.lit (.bool true))).value [] { args:=args,res:=some (.bool true),after:=args } = some (.bool (true == true)) from w_eq_bool (w_res rfl) w_lit) rfl
theorem attach_call {l:OpenLaw} {n:Nat} {q:Program} {loose:List Str} {XP:(Str→Option Value)→Heap→Prop} {YP:World→Heap→Prop} {d:DefRec}
  (hn:l.most=some n) (hdf:d.params.defaults=[])
  (call:∀ (w:World) (s₀ s₁:Shared) (mg mb:Str→Option Value) (fa:Addr) (o:Obj) (pm cd doc:Value) (a:Addr) (vs:List Value) (ns:List Int),
   Ground q loose [] XP w s₀ mg mb s₁.heap→YP w s₁.heap →
   s₁.heap.get? fa=some o→o.data=.func (docDef d.name d.params d.body d.scope pm cd doc)→s₁.heap.CodeRec cd d.name→mg d.name=some (.ref fa) →
   s₁.heap.get? a=some { cls:=.type "list",data:=.seq vs.toArray }→IntsAre vs ns→ns.length≤n→s₁.gens = #[] →
   codeAny (model l.prog w) callerA (.call (.ref fa) ⟨[.ref a],[]⟩) (fun r s'=>r=.ok (.ret (.bool true))∧OldK s₁.heap s'.heap∧s'.os=s₁.os∧AllBare s'.gens) s₁) :
  WalkO q loose XP YP l.row.toRowW d [] (fun f vs=>PySem.call f vs):=by
 intro w s₀ s₁ mg mb G Y fa o pm cd doc dV kV ho hd hcd hD hmg hg args vals as hpre hlay hrd hwl hlo
 obtain rfl:dV=.none:=Dflts.none hD hdf
 obtain rfl:kV=.none:=Dflts.noKw hD
 obtain ⟨a,vs,ns,rfl,rfl,hobj,hints,hlen⟩:=Zl2 hn hpre hwl
 refine enter_call (codeAny_mono (call w s₀ s₁ mg mb fa o pm cd doc a vs ns G Y ho (fd_plain hd) hcd hmg hobj hints hlen hg) fun r s' hq=>?_)
 obtain ⟨rfl,h2,h3,h4⟩:=hq
 exact ⟨.inl ⟨.bool true,.bool true,[],rfl,fun _=>rfl,.bool true,Zl3 l _,fun _=>⟨List.Pairwise.nil,fun _ hm=>(nomatch hm)⟩⟩,h2,h3,h4⟩
section
variable {prog:Program} {w:World} {A:Around} {E:Value→Shared→Prop} {s:Shared} {K:Frag}
end
end Att
namespace L2
open PySem PySem.Spec PyProof.Rows
theorem ZgD:∀ {vs:List Value} {ns:List Int},IntsAre vs ns→ZJ (ns.map V.int) vs
 | _,_,.nil=>.nil
 | _,_,.cons n t h=>.cons ⟨t,rfl⟩ (ZgD h)
def Zbs (H:Hp):Prop:=∀ b,H b=none∨∃ o xs,H b=some (.frz o (.lst xs))
theorem Zl4 {P:Program} {w:World} {K:PySem.W.Frag} {mg mb:Str→Option Value} {CX:XW} {k:Nat} {fa a:Addr} {fd:FuncData} {x:Str} {sp:Sp} {s₁:Shared} {vs:List Value} {ns:List Int}
  (KX:K.In s₁.heap) (hns:s₁.heap.Ns mainGlobals mg) (hb:s₁.heap.Ns builtinsNs mb) (hbb:∀ x:Str,x ≠ "__name__" → mb x=bootBuiltins x) (hlim:s₁.heap.NoLimit) (hg:s₁.gens = #[])
  (ha:s₁.heap.get? a=some { cls:=.type "list",data:=.seq vs.toArray }) (hi:IntsAre vs ns) (hl:ns.length≤sizeLine) (hr:Yy k callerA)
  (F:∀ base:Heap,K.In base→base.Ns mainGlobals mg→Zv P w K mg base CX k fa fd [x] sp) (hbind:∀ (s:Shared) (u:Value),BindsTo s fd ⟨[u],[]⟩ [(x,u)])
  (hsp:∀ H:Hp,Zbs H→Zm K H a (ns.map V.int)→sp [.ref a] H (fun v _=>v=.bl true) fun _ _ _=>False)
  (hCX:∀ H e s',CX [] H s₁ (fun _ _ _=>False) e s'→False) :
  codeAny (model P w) callerA (.call (.ref fa) ⟨[.ref a],[]⟩) (fun r s'=>r=.ok (.ret (.bool true))∧OldK s₁.heap s'.heap∧s'.os=s₁.os∧AllBare s'.gens) s₁:=by
 have rv:=ZgD hi
 have lenV:=hi.length
 -- from an abstract heap in which nothing but the script may be tracked
 have core:∀ H:Hp,Zbs H→Zm K H a (ns.map V.int)→Yu P w H s₁.heap→(∀ b,H b≠none→b=a)→(H a≠none→K.lookup a=none) →
   codeAny (model P w) callerA (.call (.ref fa) ⟨[.ref a],[]⟩) (fun r s'=>r=.ok (.ret (.bool true))∧OldK s₁.heap s'.heap∧s'.os=s₁.os∧AllBare s'.gens) s₁:=by
  intro H hO hS hok hA hK
  have base_of:∀ {b:Addr} {o:Obj},s₁.heap.get? b=some o→H b=none→(Ve s₁.heap H).get? b=some o:=fun e n=>ZkA e n
  have noA:∀ {b:Addr} {o:Obj} {es:Array DictEntry} {ep:Nat},s₁.heap.get? b=some o→o.data=.dict es ep→H b=none:=fun {b o es ep} e d=>by
   cases q:H b with
   | none=>rfl
   | some u =>
    have e':b=a:=hA b (by rw [q];simp)
    subst e'
    rw [ha] at e;cases e
    have d':Data.seq vs.toArray _=Data.dict es ep:=d
    cases d'
  have nsK:∀ {b:Addr} {m:Str→Option Value},s₁.heap.Ns b m→(Ve s₁.heap H).Ns b m:=fun {b m} ⟨o,es,ep,e,d,r⟩=>⟨o,es,ep,base_of e (noA e d),d,r⟩
  have hKb:K.In (Ve s₁.heap H):=fun b o e=>base_of (KX b o e) (by
   cases q:H b with
   | none=>rfl
   | some u =>
    have e':b=a:=hA b (by rw [q];simp)
    subst e'
    rw [hK (by rw [q];simp)] at e;cases e)
  have hM:Mod K mg (Ve s₁.heap H):=⟨hKb,nsK hns,⟨mb,nsK hb,hbb⟩,let ⟨mc,h1,h2⟩:=hlim;⟨mc,nsK h1,h2⟩⟩
  have e0:Qg P w K mg (Ve s₁.heap H) callerA [] s₁ H:=⟨rfl,hM,fun b o e=>ZkB e,Nat.le_of_eq (Zkz _ _),trivial,fun b hb=>absurd (show b∈([]:List Addr) from hb) (by simp),hok,.of_eq hg⟩
  refine codeAny_mono ((F _ hKb (nsK hns)).run callerA [] s₁ H ⟨[.ref a],[]⟩ [.ref a] [.ref a] _ _ hr e0 (hbind s₁ (.ref a)) (.cons rfl .nil) (hsp H hO hS)) fun r s' h=>?_
  cases r with
  | error e=>exact (hCX H e s' h).elim
  | ok fl =>
   cases fl with
   | next=>exact False.elim h
   | brk=>exact False.elim h
   | cont=>exact False.elim h
   | ret u =>
    obtain ⟨v,H',os,bare,un,hok',r',q⟩:=h
    have q':v=.bl true:=q
    subst q'
    obtain rfl:u=Value.bool true:=r'
    refine ⟨rfl,OldK.of_keep fun b o e=>?_,os,bare⟩
    cases q:H b with
    | none=>exact un.keep b o e q (by intro z;exact absurd (show b∈([]:List Addr) from z) (by simp)) (by simp)
    | some u =>
     rcases hO b with z | ⟨ob,xs,z⟩
     ·rw [q] at z;cases z
     ·have z2:=un.frzs b ob _ z
      obtain ⟨e1,_⟩:=hok b _ z
      obtain ⟨e2,_⟩:=hok' b _ z2
      rw [e] at e1;cases e1
      exact e2
 cases hk:K.lookup a with
 | some o =>
  -- the script is one of the module's own objects
  have e:=KX a o hk
  rw [ha] at e
  cases e
  refine core (fun _=>none) (fun _=>.inl rfl) (.inr ⟨_,vs.toArray,_,hk,rfl,rfl,rfl,by rw [List.size_toArray,lenV];exact hl,by simpa using rv⟩) (fun b u z=>by have z':(none:Option HO)=some u:=z;cases z') (fun b z=>absurd rfl z) fun z=>absurd rfl z
 | none =>
  refine core (fun b=>if b=a then some (.frz { cls:=.type "list",data:=.seq vs.toArray } (.lst (ns.map V.int))) else none) (fun b=>?_) (.inl (.inr ⟨{ cls:=.type "list",data:=.seq vs.toArray },if_pos rfl⟩)) (fun b u z=>?_) (fun b z=>?_) fun _=>hk
  ·by_cases hb:b=a
   ·exact .inr ⟨_,_,if_pos hb⟩
   ·exact .inl (if_neg hb)
  ·by_cases hb:b=a
   ·have z':=(if_pos hb).symm.trans z
    cases z'
    subst hb
    exact ⟨ha,by rw [List.length_map];exact hl,vs,_,rv,ha⟩
   ·have z':=(if_neg hb).symm.trans z
    cases z'
  ·by_cases hb:b=a
   ·exact hb
   ·exact absurd (if_neg hb) z
end L2
namespace L2
open PySem PySem.Spec PyProof.Rows
abbrev KOf {K:PySem.W.Frag} {h:Heap} (_:K.In h):PySem.W.Frag:=K
theorem Zl5 {l:PySem.W.OpenLaw} {n k:Nat} {q:Program} {loose:List Str} {XP:(Str→Option Value)→Heap→Prop} {YP:World→Heap→Prop} {d:DefRec} {K:Params→PySem.W.Frag} {CX:World→XW} {sp:World→Sp} {x:Str}
  (hn:l.most=some n) (hn2:n≤sizeLine) (hdf:d.params.defaults=[]) (hr:Yy k callerA)
  (hY:∀ (w:World) (h:Heap),YP w h→(K w.params).In h)
  (F:∀ (w:World) (mg:Str→Option Value) (fa:Addr) (h:Heap),(K w.params).In h→h.Ns mainGlobals mg→mg d.name=some (.ref fa) →
   ∃ fd:FuncData,(∀ (s:Shared) (u:Value),BindsTo s fd ⟨[u],[]⟩ [(x,u)]) ∧
    ∀ base:Heap,(K w.params).In base→base.Ns mainGlobals mg→Zv l.prog w (K w.params) mg base (CX w) k fa fd [x] (sp w))
  (hsp:∀ (w:World) (H:Hp) (a:Addr) (ns:List Int),ns.length≤n→Zbs H→Zm (K w.params) H a (ns.map V.int)→sp w [.ref a] H (fun v _=>v=.bl true) fun _ _ _=>False)
  (hCX:∀ (w:World) (H:Hp) (s:Shared) (e:Value) (s':Shared),CX w [] H s (fun _ _ _=>False) e s'→False) :
  PySem.W.WalkO q loose XP YP l.row.toRowW d [] (fun f vs=>PySem.call f vs):=by
 refine Att.attach_call hn hdf fun w s₀ s₁ mg mb fa o pm cd doc a vs ns G Y ho hd hcd hmg hobj hints hlen hg=>?_
 have KX:=hY w _ Y
 obtain ⟨fd,hb,hF⟩:=F w mg fa _ KX G.T.g hmg
 exact Zl4 KX G.T.g G.T.b G.T.builtins G.T.nolimit hg hobj hints (Nat.le_trans hlen hn2) hr hF hb (fun H hO hS=>hsp w H a ns hlen hO hS) fun H e s'=>hCX w H s₁ e s'
theorem Zl6 {l:PySem.W.OpenLaw} {n k:Nat} {q:Program} {loose:List Str} {XP:(Str→Option Value)→Heap→Prop} {YP:World→Heap→Prop} {d:DefRec} {K:Params→PySem.W.Frag} {CX:XW} {sp:PySem.W.Frag→Sp} {x:Str}
  (hn:l.most=some n) (hn2:n≤sizeLine) (hdf:d.params.defaults=[]) (hr:Yy k callerA)
  (hY:∀ (w:World) (h:Heap),YP w h→(K w.params).In h)
  (F:∀ (w:World) (mg:Str→Option Value) (fa:Addr) (h:Heap),(K w.params).In h→h.Ns mainGlobals mg→mg d.name=some (.ref fa) →
   ∃ fd:FuncData,(∀ (s:Shared) (u:Value),BindsTo s fd ⟨[u],[]⟩ [(x,u)]) ∧
    ∀ base:Heap,(K w.params).In base→base.Ns mainGlobals mg→Zv l.prog w (K w.params) mg base CX k fa fd [x] (sp (K w.params)))
  (hsp:∀ (K:PySem.W.Frag) (H:Hp) (a:Addr) (ns:List Int),ns.length≤n→Zbs H→Zm K H a (ns.map V.int)→sp K [.ref a] H (fun v _=>v=.bl true) fun _ _ _=>False)
  (hCX:∀ (H:Hp) (s:Shared) (e:Value) (s':Shared),CX [] H s (fun _ _ _=>False) e s'→False) :
  PySem.W.WalkO q loose XP YP l.row.toRowW d [] (fun f vs=>PySem.call f vs) :=
 Zl5 (K:=K) (CX:=fun _=>CX) (sp:=fun w=>sp (K w.params)) hn hn2 hdf hr hY F (fun w H a ns h1 h2 h3=>hsp (K w.params) H a ns h1 h2 h3) fun _ H s e s'=>hCX H s e s'
end L2
namespace L2
open PySem PySem.Spec PyProof.Rows
def Yg (s:Stmt) (j:Nat):Stmt:=match s with
 | .ClassDef _ _ _ body _ _ _ _ _ _ _=>body.getD j (.Pass ⟨0,0,0,0⟩)
 | _=>.Pass ⟨0,0,0,0⟩
def Zs (s:Stmt):Arguments:=match s with
 | .FunctionDef _ a _ _ _ _ _ _ _ _=>a
 | _=>{ posonlyargs:=[],args:=[],vararg:=none,kwonlyargs:=[],kw_defaults:=[],kwarg:=none,defaults:=[] }
def Zq (s:Stmt):List Stmt:=match s with
 | .FunctionDef _ _ b _ _ _ _ _ _ _=>b
 | _=>[]
def Zg (s:Stmt):Scope:=match s with
 | .FunctionDef _ _ _ _ _ _ sc _ _ _=>sc
 | _=>{ kind:=.function,names:=[],isGenerator:=false,isCoroutine:=false }
abbrev Zx:XW:=fun _ _ _ _ _ _=>False
abbrev E0:XK:=fun _ _ _=>False
theorem Zp {X:Cx}:WE Zx X E0:=fun _ _ _ _ _ _ _ h=>h.elim
structure ZN (K:PySem.W.Frag) (x qual:Str) (st:Stmt) (f:Addr) (fd:FuncData):Prop where
 ex:∃ (oc:Value) (od:Option Addr) (kV doc pm:Value) (an:Option Addr) (cdv ct:Value) (osl:Array (Option Value)),
  fd=PySem.W.fnOf x qual (Zs st) (Zq st) (Zg st) .none kV doc pm an cdv ct∧K.lookup f=some ⟨oc,od,.func fd,osl⟩∧PySem.W.codeIn K cdv qual=true
 kp:PySem.W.keepIn K (.ref f)=true
section
variable {P:Program} {w:World} {K:PySem.W.Frag} {mg:Str→Option Value} {base:Heap}
theorem ZN.ok {x qual:Str} {st:Stmt} {f:Addr} {fd:FuncData} {N ps:List Str} {k:Nat} {sp:Sp} (F:ZN K x qual st f fd) (S:ZQ N ps (Zg st)) (len:∀ vs H Q E,sp vs H Q E→vs.length=ps.length)
  (hbody:∀ (cdv:Value) (A:Around) (outer:List Env) (s:Shared) (H:Hp) (vs:List V) (Q:VK) (E:XK),Yy k (A.deeper (envOfC qual (Zg st) s.heap.objs.size f cdv))→sp vs H Q E →
   ∃ t,XD (WF Zx P w K mg base N qual (Zg st) f cdv A outer s H E).nox (Zq st) t∧t { nx:=fun _ H'=>Q .non H',rt:=Q } (Vl N vs) H):Zv P w K mg base Zx (k+1) f fd ps sp:=by
 obtain ⟨oc,od,kV,doc,pm,an,cdv,ct,osl,rfl,lk,hcd⟩:=F.ex
 refine Zgy lk hcd S len fun A outer s H vs Q E hr hsp=>?_
 obtain ⟨t,h,q⟩:=hbody cdv A outer s H vs Q E hr hsp
 exact ⟨t,h.nox,q⟩
theorem ZN.binds {x qual:Str} {st:Stmt} {f:Addr} {fd:FuncData} {ps:List Str} (F:ZN K x qual st f fd)
  (h:∀ (kV doc pm:Value) (an:Option Addr) (cdv ct:Value) (us:List Value),us.length=ps.length→bindArgs (PySem.W.fnOf x qual (Zs st) (Zq st) (Zg st) .none kV doc pm an cdv ct) ⟨us,[]⟩=pure (ps.zip us)):ZL K fd ps []:=by
 obtain ⟨oc,od,kV,doc,pm,an,cdv,ct,osl,rfl,lk,hcd⟩:=F.ex
 exact .all (h kV doc pm an cdv ct)
theorem ZS {x qual:Str} {st:Stmt} {f:Addr} {oc:Value} {od an:Option Addr} {osl:Array (Option Value)} {kV doc pm cdv ct:Value} (l:K.lookup f=some ⟨oc,od,.func (PySem.W.fnOf x qual (Zs st) (Zq st) (Zg st) .none kV doc pm an cdv ct),osl⟩)
  (c:PySem.W.codeIn K cdv qual=true) (k:PySem.W.keepIn K (.ref f)=true):ZN K x qual st f (PySem.W.fnOf x qual (Zs st) (Zq st) (Zg st) .none kV doc pm an cdv ct):=⟨⟨oc,od,kV,doc,pm,an,cdv,ct,osl,rfl,l,c⟩,k⟩
end
section
variable {X:Cx}
theorem pv (i:Nat) {x:Str} {pos:Pos} (hN:X.N[i]? = some x:=by rfl) (hv:Vis X.env.scope x:=by first | exact Or.inl rfl | exact Or.inr (Or.inl rfl) | exact Or.inr (Or.inr rfl)) (hd:(x == ("__debug__" : Str))=false:=by decide)
  (hcd:(x == ("__classdict__" : Str))=false:=by decide):PE X (.Name x pos) (Zgb i):=ZkC hN hv hd hcd
end
theorem Zbt {c A B:Prop} [Decidable c] (h1:c→A) (h2:¬ c→B):if c then A else B:=by
 by_cases h:c
 ·rw [if_pos h]
  exact h1 h
 ·rw [if_neg h]
  exact h2 h
def Zt (H H':Hp):Prop:=∀ b o,H b=some o→H' b=some o
theorem Zt.refl (H:Hp):Zt H H:=fun _ _ h=>h
theorem Zt.trans {H H1 H2:Hp} (a:Zt H H1) (b:Zt H1 H2):Zt H H2:=fun c o h=>b c o (a c o h)
theorem Zt.free {H H':Hp} (e:Zt H H') {l:Addr} (h:H' l=Option.none):H l=Option.none:=by
 cases q:H l with
 | none=>rfl
 | some o =>
  rw [e l o q] at h
  cases h
theorem Zt.seq {K:PySem.W.Frag} {H H':Hp} {a:Addr} {xs:List V} (e:Zt H H') (h:Zm K H a xs):Zm K H' a xs:=by
 rcases h with (h | ⟨o,h⟩) | h
 ·exact .inl (.inl (e _ _ h))
 ·exact .inl (.inr ⟨o,e _ _ h⟩)
 ·exact .inr h
end L2
namespace L2
open PySem PySem.Spec PyProof.Rows
theorem Yp.has {P:Program} {w:World} {H:Hp} {h:Heap} {a:Addr} {o:HO} (x:Yp P w H h a o):∃ u,h.get? a=some u:=by
 cases o with
 | lst xs=>obtain ⟨_,_,_,_,q⟩:=x;exact ⟨_,q⟩
 | tup xs=>obtain ⟨_,_,_,ob,q,_⟩:=x;exact ⟨ob,q⟩
 | dK kvs=>obtain ⟨_,_,_,_,ob,_,_,q,_⟩:=x;exact ⟨ob,q⟩
 | dT kvs=>obtain ⟨_,_,_,_,ob,_,_,q,_⟩:=x;exact ⟨ob,q⟩
 | set S n=>obtain ⟨ob,_,_,_,q,_⟩:=x;exact ⟨ob,q⟩
 | ins C dx fs=>obtain ⟨_,_,_,q,_⟩:=x;exact ⟨_,q⟩
 | own y=>obtain ⟨ob,q⟩:=x;exact ⟨ob,q⟩
 | xd fs=>obtain ⟨_,⟨ob,_,_,q,_⟩,_⟩:=x;exact ⟨ob,q⟩
 | rng lo hi=>obtain ⟨_,_,_,q⟩:=x;exact ⟨_,q⟩
 | frz ob u=>obtain ⟨q,_⟩:=x;exact ⟨_,q⟩
 | tbl ps=>exact ⟨_,(show h.get? a=some _ from x)⟩
 | met f y=>exact ⟨_,(show h.get? a=some _ from x)⟩
 | ext φ=>obtain ⟨_,⟨ob,q⟩,_⟩:=x;exact ⟨ob,q⟩
def Xi (h:Heap) (e:Addr):Prop:=∃ ob vs,h.get? e=some ob∧ob.data=.fields vs∧vs[2]? = some .none
def KC {α:Type} (x:Sem α):Prop:=∀ (M:Model) (Γ:PySem.Ctx) (Q:α→Pos→Shared→Prop) (E:Value→Pos→Shared→Prop) (p:Pos) (s:Shared) (e:Addr),Xi s.heap e→Sem.wp M Γ x Q E p s →
 Sem.wp M Γ x (fun a p s=>Q a p s∧Xi s.heap e) (fun v p s=>E v p s∧Xi s.heap e) p s
section
variable {α β:Type}
theorem KC.bind {x:Sem α} {f:α→Sem β} (hx:KC x) (hf:∀ a,KC (f a)):KC (x >>= f):=fun M Γ Q E p s e n h=>by
 rw [Sem.wp_bind'] at h ⊢
 exact Sem.wp_mono M Γ x (fun a p s q=>hf a M Γ Q E p s e q.2 q.1) (fun _ _ _ q=>q) p s (hx M Γ _ _ p s e n h)
theorem KC.pure (a:α):KC (Pure.pure a:Sem α):=fun M Γ Q E p s e n h=>by
 rw [Sem.wp_pure'] at h ⊢
 exact ⟨h,n⟩
theorem KC.uns (what:String):KC (.unsupported what:Sem α):=fun M Γ Q E p s e n h=>by
 rw [Sem.wp_unsupported] at h
 exact h.elim
theorem KC.load (a:Addr):KC (PySem.load a):=fun M Γ Q E p s e n h=>by
 unfold PySem.load at h ⊢
 rw [Sem.wp_load] at h ⊢
 obtain ⟨o,e1,e2⟩:=h
 exact ⟨o,e1,by rw [Sem.wp_pure] at e2 ⊢;exact ⟨e2,n⟩⟩
theorem KC.stack:KC PySem.stack:=fun M Γ Q E p s e n h=>by
 unfold PySem.stack at h ⊢
 rw [Sem.wp_stack] at h ⊢
 rw [Sem.wp_pure] at h ⊢
 exact ⟨h,n⟩
theorem KC.alloc (o:Obj):KC (PySem.alloc o):=fun M Γ Q E p s e n h=>by
 unfold PySem.alloc at h ⊢
 rw [Sem.wp_alloc] at h ⊢
 rw [Sem.wp_pure] at h ⊢
 obtain ⟨ob,vs,q,r⟩:=n
 exact ⟨h,ob,vs,Heap.get?_push_of_some _ q,r⟩
theorem KC.update {a:Addr} {f:Obj→Obj} (hf:∀ o vs,o.data=.fields vs→vs[2]? = some .none→∃ vs',(f o).data=.fields vs'∧vs'[2]? = some .none):KC (PySem.update a f):=fun M Γ Q E p s e n h=>by
 unfold PySem.update at h ⊢
 rw [Sem.wp_update] at h ⊢
 refine ⟨h.1,?_⟩
 have h2:=h.2
 rw [Sem.wp_pure] at h2 ⊢
 refine ⟨h2,?_⟩
 obtain ⟨ob,vs,q,d,c⟩:=n
 by_cases z:a=e
 ·subst z
  obtain ⟨vs',d',c'⟩:=hf ob vs d c
  exact ⟨f ob,vs',Heap.get?_update_self f q (Obj.isFreed_of_fields d'),d',c'⟩
 ·exact ⟨ob,vs,(Heap.get?_update_other _ f z).trans q,d,c⟩
theorem KC.iff {c:Prop} [Decidable c] {x y:Sem α} (hx:KC x) (hy:KC y):KC (if c then x else y):=by
 split
 ·exact hx
 ·exact hy
theorem Zl7 (v:Value):KC (fieldsOf v):=by
 unfold fieldsOf
 split
 ·refine KC.bind (KC.load _) fun o=>?_
  split
  ·exact KC.pure _
  ·exact KC.uns _
 ·exact KC.uns _
theorem Zbu (v:Value) (i:Nat):KC (field v i):=by
 unfold field
 refine KC.bind (Zl7 v) fun vs=>?_
 split
 ·exact KC.pure _
 ·exact KC.uns _
theorem ZdK (v:Value) (i:Nat) (x:Value) (hi:i≠2):KC (setField v i x):=by
 unfold setField
 split
 ·unfold updateField
  refine KC.bind (KC.load _) fun o=>?_
  split
  ·refine KC.iff (KC.update fun o vs d c=>?_) (KC.uns _)
   exact ⟨_,Obj.data_mapFields d _,by rw [Array.getElem?_setIfInBounds_ne hi];exact c⟩
  ·exact KC.uns _
 ·exact KC.uns _
theorem ZaG (v:Value) (f:Option Addr):KC (setFlight v f):=by
 unfold setFlight
 refine KC.bind (Zbu v 1) fun tb=>?_
 exact KC.iff (ZdK _ 3 _ (by decide)) (KC.pure _)
theorem Zl8 (env:Env) (outer:List Env):KC (behindIsImport env outer):=by
 unfold behindIsImport
 refine KC.iff (KC.pure _) (KC.iff (KC.pure _) (KC.bind (Zbu _ _) fun _=>KC.pure _))
theorem Zl9 (env:Env) (im:Bool) (l:List Env):KC (keptBack env im l):=by
 unfold keptBack
 split
 ·refine KC.iff (KC.pure _) (KC.bind ?_ fun _=>KC.pure _)
  unfold underTheClaimsCaller
  exact KC.bind KC.stack fun _=>KC.pure _
 ·exact KC.pure _
theorem ZgE:∀ l:List Env,KC (readyFrames l)
 | []=>by unfold readyFrames;exact KC.pure _
 | env::outer=>by
  unfold readyFrames
  split
  ·refine KC.bind (KC.load _) fun o=>KC.iff (KC.pure _) ?_
   refine KC.bind (Zl8 _ _) fun im=>KC.bind (Zl9 _ _ _) fun bk=>KC.bind (KC.update fun o vs d c=>⟨vs,d,c⟩) fun _=>ZgE outer
  ·exact KC.uns _
theorem Zma (env:Env):KC (PySem.frameOf env):=by
 unfold PySem.frameOf
 refine KC.bind (KC.bind KC.stack fun _=>KC.pure _) fun l=>KC.bind ?_ fun r=>?_
 ·unfold frameObject
  split
  ·exact KC.pure _
  ·exact KC.bind (ZgE _) fun _=>KC.pure _
 ·split
  ·exact KC.pure _
  ·exact KC.uns _
theorem Zmb (f:Addr) (b:Bool):KC (entryPlaceOf f b):=by
 unfold entryPlaceOf
 refine KC.bind KC.stack fun l=>?_
 split
 ·exact KC.pure _
 ·exact KC.pure _
theorem Zmc (a b c d e:Value) (l:List Value):KC (EntryCells.newEntry a b c d e l):=by
 unfold EntryCells.newEntry newFields newObj
 have k:∀ d:Data,KC (newObjAsIs (.type "traceback") d):=fun d=>by
  unfold newObjAsIs
  exact KC.bind (KC.alloc _) fun _=>KC.pure _
 exact KC.iff (KC.bind (KC.uns _) fun _=>k _) (k _)
theorem ZgF (e:Value) (env:Env):KC (noteFrame e env):=by
 unfold noteFrame
 split
 ·refine KC.bind (Zbu _ _) fun head=>?_
  have tl:∀ f hd,KC (do let b ← PySem.frameOf env;let pl ← entryPlaceOf f hd;let c ← EntryCells.newEntry head b .none (rawInt f) .none pl;setField e 1 c):=fun f hd =>
   KC.bind (Zma _) fun _=>KC.bind (Zmb _ _) fun _=>KC.bind (Zmc _ _ _ _ _ _) fun _=>ZdK _ 1 _ (by decide)
  refine KC.iff (KC.bind (Zbu _ _) fun x=>KC.iff (KC.pure _) (KC.bind (ZdK _ 3 _ (by decide)) fun _=>tl _ _)) (tl _ _)
 ·exact KC.uns _
theorem ZgG (env:Env) (e:Value):KC (leaving env e):=by
 unfold leaving
 exact KC.bind (ZgF _ _) fun _=>ZaG _ _
theorem KC.any0 {M:Model} {A:Around} {x:Sem α} {Q:α→Shared→Prop} {E:Value→Shared→Prop} {s:Shared} {e:Addr} (k:KC x) (n:Xi s.heap e) (h:wpAny M A x Q E s) :
  wpAny M A x (fun a s=>Q a s∧Xi s.heap e) (fun v s=>E v s∧Xi s.heap e) s:=fun Γ p hi=>k M Γ _ _ p s e n (h Γ p hi)
theorem KC.any {M:Model} {A:Around} {x:Sem α} {Q:α→Shared→Prop} {E:Value→Shared→Prop} {s:Shared} {e:Addr} {p:Prop} (k:KC x) (n:p→Xi s.heap e) (h:wpAny M A x Q E s) :
  wpAny M A x (fun a s=>Q a s∧(p→Xi s.heap e)) (fun v s=>E v s∧(p→Xi s.heap e)) s:=by
 by_cases z:p
 ·exact wpAny_mono (k.any0 (n z) h) (fun _ _ q=>⟨q.1,fun _=>q.2⟩) fun _ _ q=>⟨q.1,fun _=>q.2⟩
 ·exact wpAny_mono h (fun _ _ q=>⟨q,fun y=>absurd y z⟩) fun _ _ q=>⟨q,fun y=>absurd y z⟩
theorem KC.with {M:Model} {A:Around} {x:Sem Unit} {Q:Unit→Shared→Prop} {E:Value→Shared→Prop} {s:Shared} {e:Addr} {p:Prop} {W:Heap→Prop} (k:KC x) (n:p→Xi s.heap e)
  (h:wpAny M A x (fun _ s'=>∃ h',s' = { s with heap:=h' }∧W h') (fun _ _=>False) s) (hQ:∀ h',W h'→(p→Xi h' e)→Q () { s with heap:=h' }):wpAny M A x Q E s :=
 wpAny_mono (k.any n h) (fun _ s' ⟨⟨h',z,w⟩,n'⟩=>by subst z;exact hQ h' w n') fun _ _ z=>z.1.elim
end
def Fly (l:List Env) (g:Heap) (H:Hp) (a:Addr) (C:Value) (h:Heap):Prop :=
 ∃ (B:Heap) (t:Addr),Heap.FlyingW B l a C (.ref t) h∧H a=none ∧
  ∀ b o,h.get? b=some o→((∃ u,g.get? b=some u)∨∃ u,H b=some u)→b∉Z2 l→B.get? b=some o
def Yn (P:Program) (w:World):XW:=fun outer H s E e s' =>
 ∃ (a:Addr) (C:Value) (H':Hp),e=.ref a∧s'.os=s.os∧AllBare s'.gens∧Un (Z2 outer) [] H H' s.heap s'.heap∧Yu P w H' s'.heap∧Fly outer s.heap H' a C s'.heap∧∃ o:Option Addr,(o=none→Xi s'.heap a)∧E C o H'
theorem Zmd {env:Env} {outer:List Env} {L b:Addr} (hf:env.frame=some L) (hb:b∈Z2 (env::outer)):b=L∨b∈Z2 outer:=by
 obtain ⟨e,he,q⟩:=List.mem_filterMap.mp hb
 rcases List.mem_cons.mp he with rfl | he
 ·rw [hf] at q;exact .inl (Option.some.inj q).symm
 ·exact .inr (List.mem_filterMap.mpr ⟨e,he,q⟩)
theorem Zbv {env:Env} {outer:List Env} {b:Addr} (hb:b∈Z2 outer):b∈Z2 (env::outer):=by
 obtain ⟨e,he,q⟩:=List.mem_filterMap.mp hb
 exact List.mem_filterMap.mpr ⟨e,List.mem_cons_of_mem _ he,q⟩
theorem ZdL {P:Program} {w:World} {env:Env} {outer:List Env} {L:Addr} {H H':Hp} {g h1 h2 B:Heap} {a t:Addr} {C:Value}
  (hf:env.frame=some L) (hL:g.get? L=none) (U:Un (Z2 outer) [] H H' g h1) (ok:Yu P w H' h1) (frf:∀ b∈Z2 (env::outer),H' b=none)
  (frd:∀ b∈Z2 outer,∀ o,h1.get? b=some o→∀ vs,o.data≠.fields vs)
  (inB:∀ b o,h1.get? b=some o→((∃ u,g.get? b=some u)∨∃ u,H' b=some u)→b∉Z2 (env::outer)→B.get? b=some o)
  (fl:Heap.FlyingW B outer a C (.ref t) h2) (ha:H' a=none) (up:h1.UpToSlots h2):Un (Z2 outer) [] H H' g h2∧Yu P w H' h2∧Fly outer g H' a C h2:=by
 have stay:∀ b o,h1.get? b=some o→((∃ u,g.get? b=some u)∨∃ u,H' b=some u)→b∉Z2 outer→h2.get? b=some o∧B.get? b=some o:=fun b o e hb hn=>by
  have nf:b∉Z2 (env::outer):=fun z=>by
   rcases Zmd hf z with rfl | z2
   ·rcases hb with ⟨u,q⟩ | ⟨u,q⟩
    ·rw [hL] at q;cases q
    ·rw [frf _ z] at q;cases q
   ·exact hn z2
  have q:=inB b o e hb nf
  exact ⟨fl.1 b o q,q⟩
 have nx:([]:List Addr)=[]:=rfl
 have hx:∀ b:Addr,b∉([]:List Addr):=fun b z=>nomatch z
 have track:∀ b u,H' b=some u→b∉Z2 outer:=fun b u q z=>by
  rw [frf b (Zbv z)] at q;cases q
 refine ⟨⟨fun b o e n hb hx=>?_,fun b o e n hb hx=>?_,U.free,fun b o e hx=>?_,U.tups,U.frzs,U.tbls⟩,fun b u q=>?_,B,t,fl,ha,fun b o e hb hn=>?_⟩
 ·exact (stay b o (U.keep b o e n hb hx) (.inl ⟨o,e⟩) hb).1
 ·obtain ⟨sl,e1⟩:=U.slot b o e n hb hx
  obtain ⟨sl2,e2⟩:=up b _ e1 (frd b hb _ e1)
  exact ⟨sl2,e2⟩
 ·obtain ⟨o',e1⟩:=U.there b o e hx
  by_cases hb:b∈Z2 outer
  ·obtain ⟨sl2,e2⟩:=up b _ e1 (frd b hb _ e1)
   exact ⟨_,e2⟩
  ·exact ⟨o',(stay b o' e1 (.inl ⟨o,e⟩) hb).1⟩
 ·refine (ok b u q).stay (fun c v hc e=>?_) (fun _ z=>z) fun _ _ z=>z
  have tc:∃ u',H' c=some u':=by
   rcases hc with rfl | hc
   ·exact ⟨u,q⟩
   ·exact ⟨_,hc⟩
  obtain ⟨u',q'⟩:=tc
  exact (stay c v e (.inr ⟨u',q'⟩) (track c u' q')).1
 ·have h1b:∃ o',h1.get? b=some o':=by
   rcases hb with ⟨u,q⟩ | ⟨u,q⟩
   ·exact U.there b u q (hx b)
   ·exact (ok b u q).has
  obtain ⟨o',e1⟩:=h1b
  obtain ⟨e2,e3⟩:=stay b o' e1 hb hn
  rw [e] at e2;cases e2
  exact e3
def ZgH (X:Cx) (E:XK):Prop:=∀ (pins:List (Addr×Obj)) (σ:St) (H:Hp) (s:Shared) (a:Addr) (C:Value) (vs:List Value) (h':Heap),Zd X pins σ H s→Heap.MadeExcOf s.heap h' a C vs→E C none H→X.xe (.ref a) { s with heap:=h' }
section
variable {P:Program} {w:World} {K:PySem.W.Frag} {mg:Str→Option Value} {base:Heap} {N:List Str} {qual:Str} {scope:Scope} {f:Addr} {cd:Value} {A:Around} {outer:List Env} {s:Shared} {H:Hp} {E:XK}
theorem Zd.frd {X:Cx} {pins:List (Addr×Obj)} {σ:St} {H:Hp} {s:Shared} (I:Zd X pins σ H s):∀ b∈Z2 X.stack,∀ o,s.heap.get? b=some o→∀ vs,o.data≠.fields vs:=fun b hb o e=>by
 obtain ⟨_,o',e',d⟩:=I.stack.mem hb
 rw [e] at e';cases e'
 exact d
theorem Zd.hasNo {X:Cx} {pins:List (Addr×Obj)} {σ:St} {H:Hp} {s:Shared} {a:Addr} (I:Zd X pins σ H s) (e:s.heap.get? a=none):H a=none:=by
 cases q:H a with
 | none=>rfl
 | some u =>
  obtain ⟨o,z⟩:=(I.hok a u q).has
  rw [e] at z;cases z
theorem Xj:ZgH (WF (Yn P w) P w K mg base N qual scope f cd A outer s H E) E:=by
 intro pins σ H1 s1 a C vs h' I hx hE
 have hin:∀ env∈(envOfC qual scope s.heap.objs.size f cd::outer),∀ b,env.frame=some b→b∈Z2 (envOfC qual scope s.heap.objs.size f cd::outer):=fun env he b hb=>List.mem_filterMap.mpr ⟨env,he,hb⟩
 have fr0:(A.deeper (envOfC qual scope s.heap.objs.size f cd)).frames=some (envOfC qual scope s.heap.objs.size f cd::outer):=I.ok.frames
 have sn:s.heap.get? s.heap.objs.size=none:=Heap.get?_none_of_le (Nat.le_refl _)
 obtain ⟨t0,he0,_,_⟩:=hx.there
 refine KC.with (p:=True) (e:=a) (W:=fun h2=>∃ t,Heap.FlyingW (PySem.W.hideAll s1.heap (Z2 (envOfC qual scope s.heap.objs.size f cd::outer))) outer a C (.ref t) h2∧h'.UpToSlots h2) (ZgG _ _) (fun _=>⟨_,_,he0,rfl,rfl⟩)
  (wpAny_leaves_madeW (L:=s.heap.objs.size) (base:=PySem.W.hideAll s1.heap (Z2 (envOfC qual scope s.heap.objs.size f cd::outer))) (h:=s1.heap) fr0 rfl (fun b o q=>PySem.W.of_hideAll _ q) (PySem.W.funFrames_hide I.stack hin) hx fun h2 t fl _ _ up=>⟨h2,rfl,t,fl,up⟩) fun h2 ⟨t,fl,up⟩ nc=>?_
 have frd:=I.frd
 obtain ⟨u1,u2,u3⟩:=ZdL (P:=P) (w:=w) (L:=s.heap.objs.size) (h1:=s1.heap) rfl sn I.base I.hok I.stkFree (fun b hb o e=>frd b (Zbv hb) o e) (fun b o e _ hn=>PySem.W.hideAll_get _ e hn) fl (I.hasNo hx.new) ((Heap.UpToSlots.of_keeps hx.keeps).trans up)
 exact ⟨a,C,H1,rfl,I.os,I.bare,u1,u2,u3,none,fun _=>nc trivial,hE⟩
theorem Z6:WE (Yn P w) (WF (Yn P w) P w K mg base N qual scope f cd A outer s H E) E:=by
 intro pins σ H1 s1 e s' I hc
 obtain ⟨a,C,H',rfl,os,bare,un,hok,⟨B,t,fl,ha,inB⟩,o,nc,hE⟩:=hc
 have I':Zd (WF (Yn P w) P w K mg base N qual scope f cd A outer s H E) pins σ H' s':=I.call' os un hok bare fun b z=>nomatch z
 have fr0:(A.deeper (envOfC qual scope s.heap.objs.size f cd)).frames=some (envOfC qual scope s.heap.objs.size f cd::outer):=I.ok.frames
 have sn:s.heap.get? s.heap.objs.size=none:=Heap.get?_none_of_le (Nat.le_refl _)
 refine KC.with (e:=a) (W:=fun h2=>Heap.FlyingW B outer a C (.ref t) h2∧s'.heap.UpToSlots h2) (ZgG _ _) nc (wpAny_leaves_onW (L:=s.heap.objs.size) fr0 rfl fl fun h2 fl2 up=>⟨h2,rfl,fl2,up⟩) fun h2 ⟨fl2,up⟩ nc=>?_
 have frd:=I'.frd
 obtain ⟨u1,u2,u3⟩:=ZdL (P:=P) (w:=w) (L:=s.heap.objs.size) (h1:=s'.heap) rfl sn I'.base I'.hok I'.stkFree (fun b hb o e=>frd b (Zbv hb) o e) (fun b o e hb hn=>inB b o e (hb.imp (fun ⟨u,q⟩=>I.base.there b u q fun z=>nomatch z) id) hn) fl2 ha up
 exact ⟨a,C,H',rfl,I'.os,I'.bare,u1,u2,u3,o,nc,hE⟩
end
theorem ZN.okX {P:Program} {w:World} {K:PySem.W.Frag} {mg:Str→Option Value} {base:Heap} {x qual:Str} {st:Stmt} {f:Addr} {fd:FuncData} {N ps:List Str} {k:Nat} {sp:Sp} (F:ZN K x qual st f fd) (S:ZQ N ps (Zg st)) (len:∀ vs H Q E,sp vs H Q E→vs.length=ps.length)
  (hbody:∀ (cdv:Value) (A:Around) (outer:List Env) (s:Shared) (H:Hp) (vs:List V) (Q:VK) (E:XK),Yy k (A.deeper (envOfC qual (Zg st) s.heap.objs.size f cdv))→sp vs H Q E →
   ∃ t,XD (WF (Yn P w) P w K mg base N qual (Zg st) f cdv A outer s H E) (Zq st) t∧t { nx:=fun _ H'=>Q .non H',rt:=Q } (Vl N vs) H):Zv P w K mg base (Yn P w) (k+1) f fd ps sp:=by
 obtain ⟨oc,od,kV,doc,pm,an,cdv,ct,osl,rfl,lk,hcd⟩:=F.ex
 exact Zgy lk hcd S len fun A outer s H vs Q E hr hsp=>hbody cdv A outer s H vs Q E hr hsp
structure ExC (K:PySem.W.Frag) (C:Addr):Prop where
 ex:PySem.W.excIn K C [.type "ValueError",.type "Exception",.type "BaseException",.type "object"] "ValueError.__new__" = true
theorem ZgI {K:PySem.W.Frag} {h:Heap} {C:Addr} {bmB:List Value} {nid:String} (Y:K.In h) (z:PySem.W.excIn K C bmB nid=true) :
  ∃ bm Nn nm qn bs hd sn sub ab col dd k0 k1 k2 k3 k5 mN,h.get? C=some (excClassObj nm qn C Nn bs bm hd sn sub ab col dd k0 k1 k2 k3 k5 nid)∧h.Ns Nn mN∧mN "__init__" = none∧OwnTail h bmB bm:=by
 unfold PySem.W.excIn at z
 split at z
 ·next d1 c1 s1 hlk =>
  split at z
  ·next C1 b1 j0 j1 j2 j3 n1 j5 em es =>
   simp only [Bool.and_eq_true,beq_iff_eq,Bool.not_eq_true'] at z
   obtain ⟨⟨⟨⟨⟨z1,z2⟩,z3⟩,z4⟩,z5⟩,z6⟩:=z
   subst z1 z2
   obtain ⟨a1,a2,a3,a4,a5,a6,a7,a8,a9,a10,a11⟩:=c1
   dsimp only at em z3 z5 z6
   subst em z3
   obtain ⟨l1⟩:=s1
   have es':l1=[j0,j1,j2,j3,some (.builtin n1),j5]:=es
   subst es'
   exact ⟨b1,a4,a1,a5,a2,a6,a7,a8,a9,a10,d1,j0,j1,j2,j3,j5,_,Y _ _ hlk,.of_isNs (PySem.W.isNs_of_in Y z5),PySem.W.nsMap_none_of_in Y z5 z6,PySem.W.tail_of_in Y z4⟩
  ·exact absurd z (by decide)
 ·exact absurd z (by decide)
section
variable {X:Cx} {E:XK} {x:Str} {C:Addr} {e:Expr} {es:List Expr} {t:TA} {np cpos pos:Pos}
def Zme (E:XK) (C:Addr) (t:TA):TS:=fun _ σ H=>t σ H fun vs H1=>vs.length≤sizeLine∧E (.ref C) none H1
theorem Xk (R:ZgH X E) (c:ExC X.K C) (hc:X.calm=true) (hg:Gl X x) (hm:X.mg x=some (.ref C)) (ha:PA X (e::es) t) (hdb:(x == ("__debug__" : Str))=false:=by decide)
  (he:starEach (e::es) X.env=(false,eval e X.env)::starEach es X.env:=by rfl) (hpl:(backTo cpos (starEach es X.env)).any (·.1)=false:=by rfl) :
  PS X (.Raise (some (.Call (.Name x np) (e::es) [] cpos)) none pos) (Zme E C t):=by
 intro pins s σ H D I h
 obtain ⟨bm,Nn,nm,qn,bs,hd,sn,sub,ab,col,dd,k0,k1,k2,k3,k5,mN,hC,hN,hni,TL⟩:=ZgI I.ok.mod.kin c.ex
 refine wpAny_Raise_call_subT (C:=C) (nm:=nm) (q:=qn) (N:=Nn) (bs:=bs) (bm:=bm) (hdct:=hd) (sn:=sn) (sub:=sub) (ab:=ab) (col:=col) (dd:=dd) (k0:=k0) (k1:=k1) (k2:=k2) (k3:=k3) (k5:=k5)
  PySem.F.excBase_ValueError (mN:=mN) (TL.hasType PySem.F.excBase_ValueError.hasBase) (I.ok.hd hc) ?_ hni (UP I hg hm ⟨rfl,?_⟩ hdb)
 ·rw [he]
  show (false || (backTo cpos (starEach es X.env)).any (·.1))=false
  rw [hpl];rfl
 ·have q:=ha cpos pins s σ H _ I h
  rw [he] at q ⊢
  refine Calls.evalArgs_plain (ZK q fun us s2 hs=>?_)
  obtain ⟨vs,H2,I2,r,hl,hE⟩:=hs
  exact ⟨rfl,by rw [← r.length];exact hl,I2.bk _ _ hC,hN.keeps I2.bk,TL.keeps I2.bk,fun h' a hx=>R pins σ H2 s2 a _ us h' I2 hx hE⟩
end
theorem Zd.moved {X:Cx} {pins:List (Addr×Obj)} {σ:St} {H:Hp} {s:Shared} {h':Heap} (I:Zd X pins σ H s)
  (keep:∀ b o,s.heap.get? b=some o→((∃ u,X.s₀.heap.get? b=some u∧b∉X.ex)∨(∃ u,H b=some u)∨∃ p∈X.pn++pins,p.1=b)→b∉Z2 X.stack→h'.get? b=some o) (up:s.heap.UpToSlots h'):Zd X pins σ H { s with heap:=h' }:=by
 have neL:∀ b o,X.s₀.heap.get? b=some o→b≠X.env.locals:=fun b o e=>Nat.ne_of_lt (Nat.lt_of_lt_of_le (Heap.lt_size e) I.ok.above)
 have nst:∀ b,b≠X.env.locals→b∉X.fs→b∉Z2 X.stack:=fun b h1 h2 z=>(List.mem_cons.mp (I.stkSub b z)).elim h1 h2
 have fsd:∀ b∈X.fs,∀ o,X.s₀.heap.get? b=some o→∀ vs,o.data≠.fields vs:=fun b hb o e=>by
  obtain ⟨_,o',e',d⟩:=I.ok.funs.mem hb
  rw [e] at e';cases e'
  exact d
 have cellK:∀ c v,s.heap.IsCell c v→h'.IsCell c v:=fun c v ⟨o,ho,hd⟩=>by
  obtain ⟨sl,q⟩:=up c o ho fun vs z=>by rw [hd] at z;cases z
  exact ⟨_,q,hd⟩
 refine ⟨I.ok,I.os,I.bare,⟨fun b o e n hb hx=>?_,fun b o e n hb hx=>?_,I.base.free,fun b o e hx=>?_,I.base.tups,I.base.frzs,I.base.tbls⟩,?_,fun y c e=>?_,I.free,I.freeC,fun p hp=>?_,fun b u q=>?_,I.len⟩
 ·exact keep b o (I.base.keep b o e n hb hx) (.inl ⟨o,e,hx⟩) (nst b (neL b o e) hb)
 ·obtain ⟨sl,e1⟩:=I.base.slot b o e n hb hx
  obtain ⟨sl2,e2⟩:=up b _ e1 (fsd b hb o e)
  exact ⟨sl2,e2⟩
 ·obtain ⟨o',e1⟩:=I.base.there b o e hx
  by_cases hb:b∈X.fs
  ·obtain ⟨sl,e2⟩:=I.base.slot b o e (I.ok.frf b hb) hb hx
   obtain ⟨sl2,e3⟩:=up b _ e2 (fsd b hb o e)
   exact ⟨_,e3⟩
  ·exact ⟨o',keep b o' e1 (.inl ⟨o,e,hx⟩) (nst b (neL b o e) hb)⟩
 ·obtain ⟨m,hn,hl⟩:=I.loc
  refine ⟨m,up.ns hn,fun i y v e1 e2 e3=>?_⟩
  obtain ⟨u,r,l⟩:=hl i y v e1 e2 e3
  refine ⟨u,r,?_⟩
  rcases l with l | ⟨k,c,e,z⟩
  ·exact .inl l
  ·exact .inr ⟨k,c,e,cellK c _ z⟩
 ·obtain ⟨v,z⟩:=I.cell y c e
  exact ⟨v,cellK c v z⟩
 ·obtain ⟨e,n,ne,nf,d⟩:=I.pin p hp
  exact ⟨keep p.1 p.2 e (.inr (.inr ⟨p,hp,rfl⟩)) (nst p.1 ne nf),n,ne,nf,d⟩
 ·refine (I.hok b u q).stay (fun c v hc e=>?_) (fun _ z=>z) fun _ _ z=>z
  have tc:∃ u',H c=some u':=by
   rcases hc with rfl | hc
   ·exact ⟨u,q⟩
   ·exact ⟨_,hc⟩
  obtain ⟨u',q'⟩:=tc
  refine keep c v e (.inr (.inl ⟨u',q'⟩)) fun z=>?_
  rw [I.stkFree c z] at q';cases q'
theorem Zd.track {X:Cx} {pins:List (Addr×Obj)} {σ:St} {H:Hp} {s:Shared} {a:Addr} {ob:Obj} {vs:Array Value} {o:HO} (I:Zd X pins σ H s) (ha:H a=none) (hob:s.heap.get? a=some ob) (hd:ob.data=.fields vs)
  (h0:X.s₀.heap.get? a=none) (hp:∀ p∈X.pn++pins,p.1≠a) (new:Yp X.prog X.w (upd H a o) s.heap a o):Zd X pins σ (upd H a o) s:=by
 have nt:∀ b u,H b=some u→b≠a:=fun b u q=>YZ q ha
 refine ⟨I.ok,I.os,I.bare,⟨I.base.keep,I.base.slot,fun b u e n hx=>?_,I.base.there,fun b xs q=>?_,fun b u xs q=>?_,fun b ps q=>?_⟩,I.loc,I.cell,?_,fun y c e=>?_,fun p q=>?_,fun b u q=>?_,I.len⟩
 ·have ne:b≠a:=fun z=>by rw [z,h0] at e;cases e
  rw [ZO ne];exact I.base.free b u e n hx
 ·have z:=I.base.tups b xs q
  rw [ZO (nt _ _ z)];exact z
 ·have z:=I.base.frzs b u xs q
  rw [ZO (nt _ _ z)];exact z
 ·obtain ⟨m,z⟩:=I.base.tbls b ps q
  exact ⟨m,by rw [ZO (nt _ _ z)];exact z⟩
 ·have ne:X.env.locals≠a:=fun z=>by
   obtain ⟨m,⟨oL,es,ep,e1,e2,_⟩,_⟩:=I.loc
   rw [z,hob] at e1;cases e1
   rw [hd] at e2;cases e2
  rw [ZO ne];exact I.free
 ·have ne:c≠a:=fun z=>by
   obtain ⟨v,oc,e1,e2⟩:=I.cell y c e
   rw [z,hob] at e1;cases e1
   rw [hd] at e2;cases e2
  rw [ZO ne];exact I.freeC y c e
 ·obtain ⟨e,n,r⟩:=I.pin p q
  exact ⟨e,by rw [ZO (hp p q)];exact n,r⟩
 ·by_cases hb:b=a
  ·subst hb;rw [Zf] at q;cases q;exact new
  ·rw [ZO hb] at q
   exact (I.hok b u q).stay (fun c v _ z=>z) (fun c z=>by rw [ZO (nt _ _ z)];exact z) fun c xs z=>by rw [ZO (nt _ _ z)];exact z
def Qj (a:Addr) (C:Value):HO:=.ext fun h=>∃ ob vs,h.get? a=some ob∧ob.cls=C∧ob.data=.fields vs
def Zmf (X:Cx) (pins:List (Addr×Obj)) (Kx:Value→Hp→Prop) (e:Value) (s':Shared):Prop :=
 ∃ (a:Addr) (C:Value) (σ:St) (H:Hp) (g:Heap),e=.ref a∧Zd X pins σ H s'∧Fly X.stack g H a C s'.heap∧(∀ p∈X.pn++pins,∃ u,g.get? p.1=some u) ∧
  (∀ b u,X.s₀.heap.get? b=some u→b∉X.ex→∃ u',g.get? b=some u')∧Kx C H
abbrev QS (X:Cx) (pins:List (Addr×Obj)) (Kx:Value→Hp→Prop):Cx:={ X with pn:=X.pn++pins,xe:=Zmf X pins Kx }
abbrev WY (X:Cx) (a:Addr):Cx:={ X with A:=X.A.mark (some (.ref a)),calm:=false,xe:=fun _ _=>False }
section
variable {X:Cx} {pins pins':List (Addr×Obj)} {σ:St} {H:Hp} {s:Shared} {Kx:Value→Hp→Prop} {a:Addr}
theorem Zd.toTry (I:Zd X pins σ H s):Zd (QS X pins Kx) [] σ H s :=
 ⟨⟨I.ok.mod,I.ok.kind,I.ok.glob,I.ok.blt,I.ok.above,I.ok.inj,I.ok.has,I.ok.cab,I.ok.hd,I.ok.frames,I.ok.stk,I.ok.exf,I.ok.bs,I.ok.bsz,I.ok.noex,I.ok.exfs,I.ok.funs,I.ok.frf⟩,
  I.os,I.bare,I.base,I.loc,I.cell,I.free,I.freeC,fun p hp=>I.pin p (by simpa using hp),I.hok,I.len⟩
theorem Zd.ofTry (I:Zd (QS X pins Kx) pins' σ H s):Zd X pins σ H s :=
 ⟨⟨I.ok.mod,I.ok.kind,I.ok.glob,I.ok.blt,I.ok.above,I.ok.inj,I.ok.has,I.ok.cab,I.ok.hd,I.ok.frames,I.ok.stk,I.ok.exf,I.ok.bs,I.ok.bsz,I.ok.noex,I.ok.exfs,I.ok.funs,I.ok.frf⟩,
  I.os,I.bare,I.base,I.loc,I.cell,I.free,I.freeC,fun p hp=>I.pin p (List.mem_append_left _ hp),I.hok,I.len⟩
theorem Zd.toSuite (I:Zd X pins σ H s):Zd (WY X a) pins σ H s :=
 ⟨⟨I.ok.mod,I.ok.kind,I.ok.glob,I.ok.blt,I.ok.above,I.ok.inj,I.ok.has,I.ok.cab,(fun z=>nomatch z),I.ok.frames,I.ok.stk,I.ok.exf,I.ok.bs,I.ok.bsz,I.ok.noex,I.ok.exfs,I.ok.funs,I.ok.frf⟩,
  I.os,I.bare,I.base,I.loc,I.cell,I.free,I.freeC,I.pin,I.hok,I.len⟩
theorem Zd.ofSuite (hd:X.calm=true→X.A.handled=none) (I:Zd (WY X a) pins σ H s):Zd X pins σ H s :=
 ⟨⟨I.ok.mod,I.ok.kind,I.ok.glob,I.ok.blt,I.ok.above,I.ok.inj,I.ok.has,I.ok.cab,hd,I.ok.frames,I.ok.stk,I.ok.exf,I.ok.bs,I.ok.bsz,I.ok.noex,I.ok.exfs,I.ok.funs,I.ok.frf⟩,
  I.os,I.bare,I.base,I.loc,I.cell,I.free,I.freeC,I.pin,I.hok,I.len⟩
theorem ZgJ:WE (Yn X.prog X.w) (QS X pins Kx) (fun C _ H=>Kx C H):=by
 intro p2 σ1 H1 s1 e s' I hc
 obtain ⟨a,C,H',rfl,os,bare,un,hok,fly,_,_,hE⟩:=hc
 have I0:Zd X pins σ1 H1 s1:=I.ofTry
 have I':Zd X pins σ1 H' s':=I0.call' os un hok bare fun b z=>nomatch z
 exact ⟨a,C,σ1,H',s1.heap,rfl,I',fly,fun p hp=>⟨p.2,(I0.pin p hp).1⟩,fun b u q hx=>I0.base.there b u q hx,hE⟩
theorem Zd.frame {σ':St} {h':Heap} {m':Str→Option Value} {t':Nat} (I:Zd X pins σ H s) (hn:h'.Ns X.env.locals m') (hs:Heap.SameBut X.env.locals s.heap h')
  (hl:∀ (i:Nat) (x:Str) (v:V),X.N[i]? = some x→σ'[i]? = some (some v)→Vis X.env.scope x→∃ u,ZY v u∧Zf9 X.env h' m' x u) (hlen:σ'.length=σ.length):Zd X pins σ' H { s with heap:=h',toks:=t' }:=by
 have neL:∀ b o,X.s₀.heap.get? b=some o→b≠X.env.locals:=fun b o e=>Nat.ne_of_lt (Nat.lt_of_lt_of_le (Heap.lt_size e) I.ok.above)
 refine ⟨I.ok,I.os,I.bare,⟨fun b o e n hb hx=>(hs.2 b (neL b o e)).trans (I.base.keep b o e n hb hx),fun b o e n hb hx=>?_,I.base.free,fun b o e hx=>?_,I.base.tups,I.base.frzs,I.base.tbls⟩,⟨m',hn,hl⟩,fun y c e=>?_,I.free,I.freeC,fun p hp=>?_,fun b u q=>?_,hlen.trans I.len⟩
 ·obtain ⟨sl,e1⟩:=I.base.slot b o e n hb hx
  exact ⟨sl,(hs.2 b (neL b o e)).trans e1⟩
 ·obtain ⟨o',e1⟩:=I.base.there b o e hx
  exact ⟨o',(hs.2 b (neL b o e)).trans e1⟩
 ·obtain ⟨v,z⟩:=I.cell y c e
  exact ⟨v,z.sameBut hs (I.cne y c e)⟩
 ·obtain ⟨e,n,ne,nf,d⟩:=I.pin p hp
  exact ⟨(hs.2 p.1 ne).trans e,n,ne,nf,d⟩
 ·refine (I.hok b u q).stay (fun c v hc e=>(hs.2 c ?_).trans e) (fun _ z=>z) fun _ _ z=>z
  intro z
  have fr:=I.free
  rcases hc with rfl | hc
  ·rw [z,fr] at q;cases q
  ·rw [z,fr] at hc;cases hc
theorem Zbw {M:Model} {A:Around} {E:Value→Shared→Prop} {i:Nat} {n:Str} {pos:Pos} {Q:Unit→Shared→Prop} (I:Zd X pins σ H s) (hi:X.N[i]? = some n) (hN:X.N.Nodup) (hk:X.env.scope.names.lookup n=some .local)
  (h:∀ s',Zd X pins (σ.set i none) H s'→Q () s'):wpAny M A (do bindName X.env n .none;unbindBehindTheSuite X.env n pos) Q E s:=by
 obtain ⟨m,hn,hl⟩:=id I.loc
 refine wpAny_nameGoes_keeps (m:=m) hk hn (by rw [I.ok.kind];rfl) fun h' v hn' hs=>h _ (I.frame hn' hs (fun j y v' e1 e2 e3=>?_) (by simp))
 have hij:j≠i:=fun z=>by
  rw [z] at e2
  have hiσ:i < σ.length:=by rw [I.len];exact (List.getElem?_eq_some_iff.mp hi).1
  rw [List.getElem?_set_self hiσ] at e2
  cases e2
 rw [List.getElem?_set_ne (Ne.symm hij)] at e2
 obtain ⟨u,r,q⟩:=hl j y v' e1 e2 e3
 refine ⟨u,r,?_⟩
 rcases q with ⟨k,e⟩ | ⟨k,c,e,z⟩
 ·have ne:y≠n:=fun z=>hij (Zdx hN e1 (z ▸ hi))
  exact .inl ⟨k,by simp [ne,e]⟩
 ·exact .inr ⟨k,c,e,z.sameBut hs (I.cne y c e)⟩
end
section
variable {X:Cx} {body suite:List Stmt} {b₀:Stmt} {n x:Str} {i:Nat} {R:Addr} {np hpos pos:Pos} {tb:(Value→Hp→Prop)→TS} {th:TS}
def Zmg (K:PySem.W.Frag) (R:Addr) (i N:Nat) (tb:(Value→Hp→Prop)→TS) (th:TS):TS:=fun D σ H =>
 tb (fun C H'=>PySem.W.exmOne K C (.ref R)=some true∧∀ a,H' a=none →
  th { nx:=fun σ' H2=>D.nx (σ'.set i none) H2,rt:=D.rt,bk:=fun σ' H2=>D.bk (σ'.set i none) H2,ct:=fun σ' H2=>D.ct (σ'.set i none) H2 } ((List.replicate N none).set i (some (.ref a))) (upd H' a (Qj a C))) D σ H
theorem ZgK (hst:X.stack=X.env::X.outer∧X.env.frame=some X.env.locals) (hex:X.ex=[]) (hN:X.N.Nodup) (hi:X.N[i]? = some n) (hk:X.env.scope.names.lookup n=some .local) (hg:Gl X x) (hm:X.mg x=some (.ref R))
  (hb:∀ pins Kx,XD (QS X pins Kx) body (tb Kx)) (hs:∀ a,XD (WY X a) (b₀::suite) th) (hdb:(x == ("__debug__" : Str))=false:=by decide) :
  PS X (.Try body [.ExceptHandler (some (.Name x np)) (some n) (b₀::suite) hpos] [] [] pos) (Zmg X.K R i X.N.length tb th):=by
 intro pins s σ H D I h
 refine wpAny_Try_except (wpAny_mono (hb pins _ [] s σ H D I.toTry h) (fun f s1 q=>?_) fun e s1 q=>?_)
 ·cases f with
  | next=>obtain ⟨σ',H',I',q⟩:=q;exact wpAny_execs_nil ⟨σ',H',I'.ofTry,q⟩
  | brk=>obtain ⟨σ',H',I',q⟩:=q;exact ⟨σ',H',I'.ofTry,q⟩
  | cont=>obtain ⟨σ',H',I',q⟩:=q;exact ⟨σ',H',I'.ofTry,q⟩
  | ret u=>obtain ⟨v,σ',H',I',r,q⟩:=q;exact ⟨v,σ',H',I'.ofTry,r,q⟩
 ·obtain ⟨a,C,σ1,H1,g,rfl,I1,⟨B,t,fl,ha,inB⟩,hpn,hg0,hm1,hk1⟩:=q
  obtain ⟨es1,es2⟩:=hst
  have mv:∀ h',Heap.FlyingW B X.stack a C (.ref t) h'→s1.heap.UpToSlots h'→Zd X pins σ1 H1 { s1 with heap:=h' }:=fun h' fl' up=>I1.moved (fun b o e hb hn=>fl'.1 b o (inB b o e (by
   rcases hb with ⟨u,q,hx⟩ | ⟨u,q⟩ | ⟨p,hp,rfl⟩
   ·exact .inl (hg0 b u q hx)
   ·exact .inr ⟨u,q⟩
   ·exact .inl (hpn p hp)) hn)) up
  have frA:X.A.frames=some (X.env::X.outer):=by rw [← es1];exact I.ok.frames
  rw [es1] at fl
  refine wpAny_looks_onW frA es2 fl fun h4 hl4 up4=>?_
  refine wpAny_landsW hl4 fun h5 fl5 up5=>?_
  have I5:=mv h5 (by rw [es1];exact fl5) (up4.trans up5)
  obtain ⟨ob5,hob5,hc5⟩:=fl5.there
  have LT:PySem.W.Looks (model X.prog X.w) h5 (typeOf (.ref a)) C:=hc5 ▸ (PySem.W.Looks.ld hob5).andThen .now
  refine wpAny_handleBy_cons (codeAny_handlers_test (UP (X:=WY X a) I5.toSuite hg hm ?_ hdb)) (by intro z;cases z)
  refine (PySem.W.exm_one (K:=X.K) (I5.kIn:X.K.In h5) LT hm1) _ _ _ _ (fun _ _ z=>z) ?_
  refine codeAny_handlers_suite_as ?_
  refine lands_againW fl5 fun h6 fl6 up6=>?_
  have I6:=mv h6 (by rw [es1];exact fl6) ((up4.trans up5).trans up6)
  obtain ⟨ob6,vs6,hob6,hc6,hd6,_⟩:=fl6.first
  have nfr:∀ o,s1.heap.get? a=some o→a∉Z2 X.stack:=fun o e z=>by
   obtain ⟨ob,vs,q1,_,q2,_⟩:=fl.first
   exact I1.frd a z ob q1 vs q2
  have notin:∀ u,g.get? a=some u→False:=fun u q=>by
   obtain ⟨ob,vs,q1,_,q2,_⟩:=fl.first
   have z:=inB a ob q1 (.inl ⟨u,q⟩) (nfr ob q1)
   rw [fl.2.1] at z;cases z
  have h0:X.s₀.heap.get? a=none:=by
   cases q:X.s₀.heap.get? a with
   | none=>rfl
   | some u =>
    obtain ⟨u',z⟩:=hg0 a u q (by rw [hex];exact fun z=>nomatch z)
    exact (notin u' z).elim
  have hp:∀ p∈X.pn++pins,p.1≠a:=fun p hp z=>by
   obtain ⟨u,q⟩:=hpn p hp
   rw [z] at q
   exact notin u q
  have I7:Zd X pins σ1 (upd H1 a (Qj a C)) { s1 with heap:=h6 }:=I6.track ha hob6 hd6 h0 hp
   ⟨⟨ob6,vs6,hob6,hc6,hd6⟩,⟨ob6,hob6⟩,fun ha hb ⟨o,v,z1,z2⟩ k=>⟨o,v,k o z1,z2⟩⟩
  have I8:Zd X pins (List.replicate X.N.length none) (upd H1 a (Qj a C)) { s1 with heap:=h6 }:=I7.weak (by rw [List.length_replicate,I7.len]) fun j v q=>by
   rw [List.getElem?_replicate] at q
   split at q <;> cases q
  refine Zdy (X:=WY X a) I8.toSuite hN hi (.inl hk) (v:=.ref a) rfl (fun s9 I9=>?_) (.inr hk)
  refine wpAny_mono (hs a pins s9 _ _ _ I9 (hk1 a ha)) (fun f s10 q=>?_) fun _ _ z=>z.elim
  have out:∀ {σ':St} {H':Hp},Zd (WY X a) pins σ' H' s10→Zd X pins σ' H' s10:=fun J=>J.ofSuite I.ok.hd
  cases f with
  | next=>obtain ⟨σ',H',J,q⟩:=q;exact Zbw (out J) hi hN hk fun s11 J2=>⟨_,H',J2,q⟩
  | brk=>obtain ⟨σ',H',J,q⟩:=q;exact Zbw (out J) hi hN hk fun s11 J2=>⟨_,H',J2,q⟩
  | cont=>obtain ⟨σ',H',J,q⟩:=q;exact Zbw (out J) hi hN hk fun s11 J2=>⟨_,H',J2,q⟩
  | ret u=>obtain ⟨v,σ',H',J,r,q⟩:=q;exact Zbw (out J) hi hN hk fun s11 J2=>⟨v,_,H',J2,r,q⟩
end
end L2
namespace L2
open PySem PySem.Spec PyProof.Rows
section
variable {X:Cx}
theorem Zbx:Xg X (.type "int") (fun xs H Q=>∃ z n,xs=[.str z]∧PySem.intText? z=some n∧z.length≤640∧Q (.int n) H):=by
 intro pins s σ H xs us Q I r h
 obtain ⟨z,n,rfl,hn,hz,q⟩:=h
 obtain ⟨u,rfl,t,rfl⟩:=XG r
 exact PySem.W.KIN.call_text hn hz ⟨.int n,H,I.tok _,⟨_,rfl⟩,q⟩
def Zmh:V→Option Int→Option Int→Hp→VK→Prop:=fun x lo hi H Q=>∃ z,x=.str z∧z.length≤sizeLine∧Q (.str (Txt.slice z lo hi)) H
theorem ZgL {v:Value} {o:Option Int} (p:IsPart v o):∃ l:Option (Int×Tok),v=partValue l∧l.map (·.1)=o:=by
 cases p with
 | none=>exact ⟨none,rfl,rfl⟩
 | int i t=>exact ⟨some (i,t),rfl,rfl⟩
theorem QT:SlR X Zmh:=by
 intro pins s σ H x v vl vu lo hi sl Q I rx hs pl pu h
 obtain ⟨z,rfl,hz,q⟩:=h
 obtain ⟨t,rfl⟩:=rx
 obtain ⟨l,rfl,rfl⟩:=ZgL pl
 obtain ⟨u,rfl,rfl⟩:=ZgL pu
 refine ⟨"str",_,PySem.F.slot_str_getitem.lookup,typeIs_str s z t,wpAny_getItem_str_slice (l:=l) (u:=u) (st:=none) hs rfl ?_⟩
 exact post_val_or_str ⟨Nat.le_trans (Txt.slice_le z _ _) hz,fun t' k=>⟨.str _,H,I.tok _,⟨_,rfl⟩,q⟩⟩
theorem ZgM {x:V}:∀ {xs:List V} {us:List Value},ZJ xs us→xs.all Y0=true→us.countP (Y8 x)=xs.countP fun y=>Yr y x
 | _,_,.nil,_=>rfl
 | y::xs,u::us,.cons r t,f=>by
  rw [List.all_cons,Bool.and_eq_true] at f
  rw [List.countP_cons,List.countP_cons,Zbp r f.1,ZgM t f.2]
theorem Zmi:Qh X "list.count" (fun x vs H Q=>∃ l xs y,x=.ref l∧vs=[y]∧H l=some (.lst xs)∧Y0 y=true∧xs.all Y0=true∧Q (.int (xs.countP fun z=>Yr z y:Nat)) H):=by
 intro pins s σ H x vs v us Q I rx rv h
 obtain ⟨l,xs,y,rfl,rfl,hH,fy,fx,q⟩:=h
 cases rx
 obtain ⟨u,rfl,ru⟩:=rv.one
 obtain ⟨z,its,n,r,hl,e⟩:=I.lstM hH
 refine call_meets PySem.F.slot_list_count ⟨_,e,rfl⟩ PySem.F.entry_list_count (PySem.F.args_list_count_2 _ _) (SeqAt.list_countAt l its.toArray n none #[] u (Y8 y)) ⟨e,fun w hw=>Qi ru fy r fx w (by simpa using hw),?_⟩
 rw [← ZgM r fx] at q
 exact ⟨.int _,H,I.tok _,⟨_,rfl⟩,q⟩
theorem ZgN:Qh X "list.index" (fun x vs H Q=>∃ l xs y j z,x=.ref l∧vs=[y]∧H l=some (.lst xs)∧Y0 y=true∧xs.all Y0=true∧xs[j]? = some z∧Yr z y=true∧(∀ m z',m < j→xs[m]? = some z'→Yr z' y=false)∧Q (.int (j:Nat)) H):=by
 intro pins s σ H x vs v us Q I rx rv h
 obtain ⟨l,xs,y,j,z,rfl,rfl,hH,fy,fx,hj,hz,hno,q⟩:=h
 cases rx
 obtain ⟨u,rfl,ru⟩:=rv.one
 obtain ⟨zz,its,n,r,hl,e⟩:=I.lstM hH
 have hjl:j < its.length:=by rw [← hl];exact (List.getElem?_eq_some_iff.mp hj).1
 have ans:∀ (m:Nat) (hm:m < its.length) (w:V),xs[m]? = some w→Y8 y its[m]=Yr w y:=fun m hm w hw=>by
  obtain ⟨uu,e1,e2⟩:=r.get hw
  have e3:its[m]=uu:=by rw [List.getElem?_eq_getElem hm] at e1;exact Option.some.inj e1
  rw [e3]
  exact Zbp e2 (List.all_eq_true.mp fx w (List.mem_of_getElem? hw))
 have hline:=Qe
 have hsm:(j:Int) < 2 ^ 63 - 1:=by
  have:j < sizeLine:=by omega
  have h2:sizeLine=16777216:=sizeLine_eq
  omega
 refine call_meets PySem.F.slot_list_index ⟨_,e,rfl⟩ PySem.F.entry_list_index (PySem.F.args_list_index_2 _ _) (SeqAt.list_indexAt l its.toArray n none #[] u (Y8 y) j (by simpa using hjl) hsm ?_ ?_) ⟨e,fun w hw=>Qi ru fy r fx w (by simpa using hw),?_⟩
 ·show Y8 y its.toArray[j]=true
  rw [List.getElem_toArray,ans j hjl z hj];exact hz
 ·intro m hm hmj
  have hm':m < its.length:=by simpa using hm
  have hx:m < xs.length:=by omega
  show Y8 y its.toArray[m]=false
  rw [List.getElem_toArray,ans m hm' xs[m] (List.getElem?_eq_getElem hx)]
  exact hno m _ hmj (List.getElem?_eq_getElem hx)
 ·exact ⟨.int _,H,I.tok _,⟨_,rfl⟩,q⟩
def Xv:List V→List V→Bool
 | [],[]=>true
 | x::xs,y::ys=>Yr x y && Xv xs ys
 | _,_=>false
theorem ZdM:∀ {xs ys:List V},xs.length≠ys.length→Xv xs ys=false
 | [],[],h=>absurd rfl h
 | [],_::_,_=>rfl
 | _::_,[],_=>rfl
 | x::xs,y::ys,h=>by
  have:Xv xs ys=false:=ZdM fun z=>h (by rw [List.length_cons,List.length_cons,z])
  show (Yr x y && Xv xs ys)=false
  rw [this,Bool.and_false]
theorem ZdN:∀ (xs ys:List V),xs.length=ys.length→(List.range xs.length).all (fun j=>Yr (xs.getD j .non) (ys.getD j .non))=Xv xs ys
 | [],[],_=>rfl
 | [],_::_,h=>nomatch h
 | _::_,[],h=>nomatch h
 | x::xs,y::ys,h=>by
  have ih:=ZdN xs ys (by simpa using h)
  rw [List.length_cons,List.range_succ_eq_map,List.all_cons,List.all_map]
  show (Yr x y && _)=(Yr x y && Xv xs ys)
  rw [← ih]
  rfl
def ZgO (K:PySem.W.Frag) (neg:Bool):R2:=fun x y H Q=>∃ l b xs ys,x=.ref l∧y=.ref b∧Zm K H l xs∧Zm K H b ys∧xs.all Y0=true∧ys.all Y0=true∧Q (.bl (if neg then !Xv xs ys else Xv xs ys)) H
theorem ZgP {xs ys:List V} {its its2:List Value} {A:Around} {s:Shared} (r:ZJ xs its) (r2:ZJ ys its2) (fx:xs.all Y0=true) (fy:ys.all Y0=true) :
  ∀ (j:Nat) (h1:j < its.toArray.size) (h2:j < its2.toArray.size),SeqAt.EqAt A s its.toArray[j] its2.toArray[j] (Yr (xs.getD j .non) (ys.getD j .non)):=by
 intro j h1 h2
 have l1:=r.length
 have l2:=r2.length
 have hx:j < xs.length:=by rw [l1];simpa using h1
 have hy:j < ys.length:=by rw [l2];simpa using h2
 obtain ⟨u,e1,q1⟩:=r.get (List.getElem?_eq_getElem hx)
 obtain ⟨w,e2,q2⟩:=r2.get (List.getElem?_eq_getElem hy)
 have e3:its.toArray[j]=u:=by
  rw [List.getElem_toArray];rw [List.getElem?_eq_getElem (by simpa using h1)] at e1;exact Option.some.inj e1
 have e4:its2.toArray[j]=w:=by
  rw [List.getElem_toArray];rw [List.getElem?_eq_getElem (by simpa using h2)] at e2;exact Option.some.inj e2
 have g1:xs.getD j .non=xs[j]:=by rw [List.getD_eq_getElem?_getD,List.getElem?_eq_getElem hx];rfl
 have g2:ys.getD j .non=ys[j]:=by rw [List.getD_eq_getElem?_getD,List.getElem?_eq_getElem hy];rfl
 rw [e3,e4,g1,g2]
 exact ZgA q1 q2 (List.all_eq_true.mp fx _ (List.getElem_mem hx)) (List.all_eq_true.mp fy _ (List.getElem_mem hy))
theorem ZdO (hu:X.A.units < cLine):Yk X (compareOp .Eq) (ZgO X.K false):=by
 intro pins s σ H x y v u Q I rx ry h
 obtain ⟨l,b,xs,ys,rfl,rfl,hx,hy,fx,fy,q⟩:=h
 cases rx;cases ry
 obtain ⟨its,r,pl,_⟩:=I.list hx
 obtain ⟨its2,r2,pl2,_⟩:=I.list hy
 have l1:=r.length
 have l2:=r2.length
 by_cases hl:xs.length=ys.length
 ·refine SeqAt.eq_listAt pl.isList pl2.isList (by simp;omega) hu (ZgP r r2 fx fy) ?_
  rw [List.size_toArray,← l1,ZdN xs ys hl]
  exact ⟨.bl _,H,I,rfl,q⟩
 ·refine SeqAt.eq_list_lengthsAt pl.isList pl2.isList (by simp;omega) hu ?_
  rw [show (if false=true then !Xv xs ys else Xv xs ys)=false from ZdM hl] at q
  exact ⟨.bl _,H,I,rfl,q⟩
theorem ZdP (hu:X.A.units < cLine):Yk X (compareOp .NotEq) (ZgO X.K true):=by
 intro pins s σ H x y v u Q I rx ry h
 obtain ⟨l,b,xs,ys,rfl,rfl,hx,hy,fx,fy,q⟩:=h
 cases rx;cases ry
 obtain ⟨its,r,pl,_⟩:=I.list hx
 obtain ⟨its2,r2,pl2,_⟩:=I.list hy
 have l1:=r.length
 have l2:=r2.length
 by_cases hl:xs.length=ys.length
 ·refine SeqAt.RcNeAt.lists pl.isList pl2.isList (by simp;omega) hu (ZgP r r2 fx fy) _ _ _ _ ?_
  rw [List.size_toArray,← l1,ZdN xs ys hl]
  exact ⟨.bl _,H,I,rfl,q⟩
 ·refine SeqAt.RcNeAt.lists_lengths pl.isList pl2.isList (by simp;omega) hu _ _ _ _ ?_
  rw [show (if true=true then !Xv xs ys else Xv xs ys)=true by rw [ZdM hl];rfl] at q
  exact ⟨.bl _,H,I,rfl,q⟩
theorem ZgQ:∀ bs:List Bool,(List.range bs.length).all (fun i=>bs.getD i false)=bs.all id
 | []=>rfl
 | b::bs=>by
  rw [List.length_cons,List.range_succ_eq_map,List.all_cons,List.all_map,List.all_cons]
  show (b && _)=(b && _)
  rw [← ZgQ bs]
  rfl
theorem ZgR (hc:X.calm=true):Xg X (.builtin "all") (fun xs H Q=>∃ (p:Addr) (bs:List Bool),xs=[.ref p]∧Zm X.K H p (bs.map V.bl)∧Q (.bl (bs.all id)) H):=by
 intro pins s σ H xs us Q I r h
 obtain ⟨p,bs,rfl,hq,q⟩:=h
 obtain ⟨u,rfl,rx⟩:=XG r
 cases rx
 obtain ⟨its,r',pl,hz⟩:=I.list hq
 have hlen:=r'.length
 obtain ⟨o,n,ho,_⟩:=id pl
 have hne:p≠s.heap.objs.size:=Nat.ne_of_lt (Heap.lt_size ho)
 have tr:TruthOf X.prog X.w X.A.in1 (fun i v=>its.toArray[i]? = some v) (fun i=>bs.getD i false):=by
  intro i v s2 Q2 E2 hv hq2
  have hv':its[i]? = some v:=by simpa using hv
  have hi:i < bs.length:=by
   have:=(List.getElem?_eq_some_iff.mp hv').1
   rw [← hlen,List.length_map] at this;exact this
  obtain ⟨w,e1,e2⟩:=r'.get (i:=i) (x:=.bl bs[i]) (by rw [List.getElem?_map,List.getElem?_eq_getElem hi];rfl)
  rw [hv'] at e1
  cases e1
  cases e2
  refine wpAny_truthy_bool ?_
  have e3:bs.getD i false=bs[i]:=by rw [List.getD_eq_getElem?_getD,List.getElem?_eq_getElem hi];rfl
  have q3:Q2 (bs.getD i false) s2:=hq2
  rw [e3] at q3
  exact q3
 refine call_all_walk (wpAny_pyIter_list pl.isList ?_)
 refine ⟨s.heap.objs.size,[s.heap.objs.size,p],[s.heap.objs.size],its.toArray.size,_,_,_,rfl,Walks.list (A:=X.A.in1) (I.ok.hd hc) _ _ hne its.toArray,⟨⟨_,Heap.get?_push_size _ rfl,rfl,rfl⟩,?_⟩,tr,fun h' tk hk=>?_⟩
 ·obtain ⟨o2,e2,r2⟩:=pl.isList
  exact ⟨o2,Heap.get?_push_of_some _ e2,r2⟩
 ·have hk2:∀ b o,s.heap.get? b=some o→h'.get? b=some o:=fun b o e=>hk b o (fun z=>by
   have e1:=Heap.lt_size e
   rw [List.mem_singleton.mp z] at e1
   exact absurd e1 (Nat.lt_irrefl _)) (Heap.get?_push_of_some _ e)
  have e:(List.range its.toArray.size).all (fun i=>bs.getD i false)=bs.all id:=by
   rw [List.size_toArray,← hlen,List.length_map];exact ZgQ bs
  rw [e]
  exact ⟨.bl _,H,I.kept (t':=tk) hk2,rfl,q⟩
end
theorem Zd.laidN {X:Cx} {pins:List (Addr×Obj)} {σ:St} {H:Hp} {s:Shared} {h':Heap} {a:Addr} {o:HO} {t':Nat} (I:Zd X pins σ H s) (k:∀ b u,s.heap.get? b=some u→h'.get? b=some u) (hn:s.heap.get? a=none)
  (new:Yp X.prog X.w (upd H a o) h' a o):Zd X pins σ (upd H a o) { s with heap:=h',toks:=t' }:=by
 have ha:H a=none:=I.hasNo hn
 have nt:∀ b u,H b=some u→b≠a:=fun b u q=>YZ q ha
 refine I.un ⟨fun b u q _ _ _=>k b u q,fun b u q _ _ _=>⟨u.slots,k b u q⟩,fun b u q n _=>?_,fun b u q _=>⟨u,k b u q⟩,fun b xs q=>?_,fun b u xs q=>?_,fun b ps q=>⟨#[],?_⟩⟩ fun b u q=>?_
 ·have ne:b≠a:=fun z=>by rw [z,hn] at q;cases q
  rw [ZO ne];exact n
 ·rw [ZO (nt _ _ q)];exact q
 ·rw [ZO (nt _ _ q)];exact q
 ·rw [ZO (nt _ _ q),q];simp
 ·by_cases hb:b=a
  ·subst hb;rw [Zf] at q;cases q;exact new
  ·rw [ZO hb] at q
   exact (I.hok b u q).stay (fun c v _ z=>k c v z) (fun c z=>by rw [ZO (nt _ _ z)];exact z) fun c xs z=>by rw [ZO (nt _ _ z)];exact z
def WI (z:Str) (c:Nat):Bool:=!(Builtin.Str.occurrences z ⟨#[c]⟩ 0 z.length 1).isEmpty
theorem ZgS {g:Nat→Bool}:∀ (cs:List Nat) (vs rs:List Value),vs.length=cs.length→(∀ (j:Nat) (v:Value),vs[j]? = some v→∃ c u,cs[j]? = some c∧v=.str ⟨#[c]⟩ u) →
  Paired (fun v r=>∀ c u,v=.str ⟨#[c]⟩ u→r=.bool (g c)) vs rs→ZJ (cs.map fun c=>V.bl (g c)) rs
 | [],[],_,_,_,.nil=>.nil
 | [],_::_,_,h,_,_=>nomatch h
 | _::_,[],_,h,_,_=>nomatch h
 | c::cs,v::vs,_,h,hg,.cons r t=>by
  obtain ⟨c',u,e1,e2⟩:=hg 0 v rfl
  have e3:c=c':=by simpa using e1
  subst e3
  exact .cons (r c u e2) (ZgS cs vs _ (by simpa using h) (fun j w hw=>by simpa using hg (j+1) w (by simpa using hw)) t)
section
variable {X:Cx} {x z:Str} {p1 p2 p3 px pos:Pos} {iter:Expr} {ti:TE} {scope:Scope} {cl:List (Str×Addr)} {zs:Str}
def ZgT (X:Cx) (scope:Scope) (cl:List (Str×Addr)) (z:Str) (p2:Pos) (zs:Str) (σ:St):Prop :=
 ∀ (pins:List (Addr×Obj)) (H:Hp) (s1 s3:Shared) (C:Addr) (Q:Value→Shared→Prop) (E:Value→Shared→Prop),Zd X pins σ H s1→(∀ b o,s1.heap.get? b=some o→s3.heap.get? b=some o)→(∀ t,Q (.str zs t) s3) →
  wpAny (model X.prog X.w) X.A (eval (.Name z p2) (compEnvC scope cl C X.env)) Q E s3
def Zmj (X:Cx) (scope:Scope) (cl:List (Str×Addr)) (z:Str) (p2:Pos) (ti:TE):TE:=fun σ H Q=>∃ zs,ZgT X scope cl z p2 zs σ∧ti σ H fun v H1=>∃ y,v=.str y∧y.length≤sizeLine ∧
 ∀ p,H1 p=none→Q (.ref p) (upd H1 p (.lst (y.cps.toList.map fun c=>V.bl (WI zs c))))
theorem Zmk (hc:X.calm=true) (hi:PE X iter ti) (hclos:closureFor scope X.env=pure cl) (hcell:∀ y∈scope.names,y.2≠.cell) (hkind:scope.kind=.function)
  (hnames:∀ y∈scope.names,y.2=.local→scope.names.lookup y.1=some .local) (hx:scope.names.lookup x=some .local) (hs:∀ v,foldedSetIterable iter X.env v=pure v:=by intro _;rfl) (hd:(x == ("__debug__" : Str))=false:=by decide) :
  PE X (.ListComp (.Compare (.Name x p1) [.In] [.Name z p2] p3) [⟨.Name x px,iter,[],0⟩] scope pos) (Zmj X scope cl z p2 ti):=by
 intro pins s σ H Q I h
 obtain ⟨zs,zr,h⟩:=h
 refine wpAny_ListComp_free (cl:=cl) (fun _=>true) (fun v r=>∀ c u,v=.str ⟨#[c]⟩ u→r=.bool (WI zs c)) hclos hcell hkind hnames hx (ZK (hi pins s σ H _ I h) fun xv s1 ⟨v,H1,I1,r1,y,ev,hy,q⟩=>?_) hs
 subst ev
 obtain ⟨t,rfl⟩:=r1
 refine wpAny_pyIter_str fun o St W hst=>?_
 have old:∀ (h':Heap),(∀ b o',b∉[s1.heap.objs.size]→(s1.heap.push o).get? b=some o'→h'.get? b=some o')→∀ b o',s1.heap.get? b=some o'→h'.get? b=some o':=fun h' hk b o' e =>
  hk b o' (fun z=>by
   have e1:=Heap.lt_size e
   rw [List.mem_singleton.mp z] at e1
   exact absurd e1 (Nat.lt_irrefl _)) (Heap.get?_push_of_some _ e)
 refine ⟨s1.heap.objs.size,[s1.heap.objs.size],[s1.heap.objs.size],y.cps.size,SignAt y,St,rfl,W X.A (I1.ok.hd hc),hy,hst,fun b hb=>?_,⟨?_,?_⟩,?_⟩
 ·rw [List.mem_singleton.mp hb]
  show s1.heap.objs.size < (s1.heap.push o).objs.size
  rw [Heap.size_push];exact Nat.lt_succ_self _
 ·intro C i v s3 m3 E' _ hP hn hm hk _
  exact wpAny_pure ⟨rfl,s3.heap,s3.toks,rfl,fun _ _ e=>e⟩
 ·intro C i v s3 m3 E' _ hP _ hn hm hk _
  obtain ⟨c,u,_,rfl⟩:=hP
  refine wpAny_Compare1 (wpAny_Name (wpAny_loadName_local (env:=compEnvC scope cl C X.env) (m:=m3) hkind (lookup_relabel_local hx) hn hm ?_) hd)
  refine zr pins H1 s1 s3 C _ _ I1 (old _ hk) fun t3=>?_
  refine in_str ⟨fun c' u' e=>?_,s3.heap,s3.toks,rfl,fun _ _ e=>e⟩
  injection e with e1 _
  injection e1 with e2
  have e3:c=c':=by simpa using e2
  subst e3
  rfl
 ·intro D h' tk ys vs hnew hl hpl hlen hP hF hk
  have hn1:s1.heap.get? D=none:=by
   cases e:s1.heap.get? D with
   | none=>rfl
   | some u =>
    have:=Heap.get?_push_of_some o e
    rw [show (s1.heap.push o).get? D=none from hnew] at this
    cases this
  obtain ⟨n,hD⟩:=hpl
  have hfil:vs.filter (fun _=>true)=vs:=List.filter_eq_self.mpr fun _ _=>rfl
  rw [hfil] at hF
  have V1:ZJ (y.cps.toList.map fun c=>V.bl (WI zs c)) ys.toList:=ZgS y.cps.toList vs ys.toList (by rw [hlen];simp) (fun j v hv=>by
   obtain ⟨c,u,e1,e2⟩:=hP j v hv
   exact ⟨c,u,by simpa using e1,e2⟩) hF
  have new:Yp X.prog X.w (upd H1 D (.lst (y.cps.toList.map fun c=>V.bl (WI zs c)))) h' D (.lst (y.cps.toList.map fun c=>V.bl (WI zs c))):=by
   refine ⟨?_,ys.toList,n,V1,?_⟩
   ·rw [List.length_map]
    have:y.cps.toList.length=y.length:=by simp [Str.length]
    omega
   ·rw [Array.toArray_toList];exact hD
  exact ⟨.ref D,_,I1.laidN (t':=tk) (old h' hk) hn1 new,rfl,q D (I1.hasNo hn1)⟩
theorem Zml {σ:St} {t:Tok} (hg:(relabel scope X.env).names.lookup z=some .globalImplicit) (hkind:scope.kind=.function) (hm:X.mg z=some (.str zs t)) (hd:(z == ("__debug__" : Str))=false:=by decide):ZgT X scope cl z p2 zs σ:=by
 intro pins H s1 s3 C Q E I k q
 exact Calls.Name_function_global (env:=compEnvC scope cl C X.env) hkind hg (Calls.loadGlobal_global (env:=compEnvC scope cl C X.env) (by
  show s3.heap.Ns X.env.globals X.mg
  rw [I.ok.glob];exact (I.mod.glob.keeps I.bk).keeps k) hm (q t)) hd
end
section
variable {X:Cx}
theorem QU:Xg X (.builtin "isinstance") (fun xs H Q=>∃ x T t b,xs=[x,.ty T]∧Xt X.K H x t∧PySem.W.kitOne X.K t (.type T)=some b∧Q (.bl b) H):=by
 intro pins s σ H xs us Q I r h
 obtain ⟨x,T,t,b,rfl,ty,e,q⟩:=h
 obtain ⟨u,w',rfl,rx,ry⟩:=ZaB r
 cases (show w'=Value.type T from ry)
 exact Zgs I rx ty e fun tk=>⟨.bl b,H,I.tok _,rfl,q⟩
theorem ZdQ:Xg X (.builtin "isinstance") (fun xs H Q=>∃ x C t b,xs=[x,.ref C]∧Xt X.K H x t∧PySem.W.kitOne X.K t (.ref C)=some b∧Q (.bl b) H):=by
 intro pins s σ H xs us Q I r h
 obtain ⟨x,C,t,b,rfl,ty,e,q⟩:=h
 obtain ⟨u,w',rfl,rx,ry⟩:=ZaB r
 cases (show w'=Value.ref C from ry)
 exact Zgs I rx ty e fun tk=>⟨.bl b,H,I.tok _,rfl,q⟩
end
section
variable {X:Cx} {x:Str} {pos:Pos}
theorem XY {a:Addr} (hg:Gl X x) (hm:X.mg x=some (.ref a)) (hd:(x == ("__debug__" : Str))=false:=by decide):PE X (.Name x pos) (tC (.ref a)):=Zgc hg hm rfl hd
theorem Qk {T:String} (hg:Gl X x) (hm:X.mg x=none) (hv:bootBuiltins x=some (.type T)) (hn:x ≠ "__name__" := by decide) (hd:(x == ("__debug__" : Str))=false:=by decide):PE X (.Name x pos) (tC (.ty T)):=ZkD hg hm hv rfl hn hd
end
end L2
namespace L2
open PySem PySem.Spec PyProof.Rows PySem.W PySem.Calls Builtin Builtin.ObjectAttr Builtin.Getset_descriptor
section
variable {prog:Program} {w:World} {A:Around} {E:Value→Shared→Prop} {s:Shared} {K:PySem.W.Frag} {a C:Addr} {o:Obj} {R:Result→Shared→Prop}
structure Vn (K:PySem.W.Frag) (C:Addr):Prop where
 cl:(PySem.W.clsIn K C).isSome=true
 g1:PySem.W.findIn K (.ref C) "__getattribute__" = some (some (.builtin "BaseException.__getattribute__"))
 g2:PySem.W.findIn K (.ref C) "__getattr__" = some none
 g3:PySem.W.findIn K (.ref C) "__class__" = some (some (.builtin "object.__class__"))
 g4:PySem.W.mroIn K C (.type "object")=some true
 g5:PySem.W.mroIn K C (.type "BaseException")=some true
 g6:PySem.W.specialIn K (.builtin "object.__class__") "__get__" = some (some (.builtin "getset_descriptor.__get__"))
 g7:PySem.W.takesIn K (.builtin "object.__class__")=some true
theorem Zmm {tp:Value} (Y:K.In s.heap) (c:Vn K C) (hx:s.heap.get? a=some o) (hc:o.cls=.ref C) (h:R (.ok (.ret (.ref C))) s) :
  codeAny (model prog w) A (.call (.builtin "getset_descriptor.__get__") ⟨[.builtin "object.__class__",.ref a,tp],[]⟩) R s:=by
 obtain ⟨hh,g,dr,t,os⟩:=s
 have L0:Looks (model prog w) hh (typeOf (.ref a)) (.ref C):=hc ▸ (Looks.ld hx).andThen .now
 have L1:=looks_mroIn (M:=model prog w) Y c.g4
 refine codeAny_call_builtin KF.slot_gs.plain KF.entry_gs (KF.slot_gs.check _ _ _ _ _ _ _ _ KF.type_class (KF.args_gs _ _ _) ?_)
 unfold Builtin.«getset_descriptor.__get__» descrGet
 rw [dga_obj]
 refine wpAny_bind (wpAny_pure ?_)
 unfold descrGetter descrCheckInstance descrNameAndClass isInstance
 simp only [KF.owner_class]
 repeat lk
 refine ⟨Code.quiet_builtin _ (by decide +kernel),codeAny_builtin KF.entry_class ?_⟩
 unfold Builtin.«object.__class__» shownTypeOf
 repeat lk
 exact h
theorem Zmn {tk:Tok} {Q:Fin→Shared→Prop} (Y:K.In s.heap) (c:Vn K C) (hx:s.heap.get? a=some o) (hc:o.cls=.ref C) (h:Q (.done (.ret (.ref C))) s) :
  wpAny (model prog w) A (Builtin.«object.__getattribute__» ⟨[.ref a,.str "__class__" tk],[]⟩) Q E s:=by
 obtain ⟨hh,g,dr,t,os⟩:=s
 have L0:Looks (model prog w) hh (typeOf (.ref a)) (.ref C):=hc ▸ (Looks.ld hx).andThen .now
 have L1:=looks_findIn (M:=model prog w) Y c.g3
 have L2:=looks_specialIn (M:=model prog w) Y c.g6
 have L3:=looks_takesIn (M:=model prog w) Y c.g7
 unfold Builtin.«object.__getattribute__»
 repeat lk
 refine wpAny_run (c:=.call (.builtin "getset_descriptor.__get__") ⟨[.builtin "object.__class__",.ref a,.ref C],[]⟩) (h:=none) (Zmm (R:=_) Y c hx hc ?_)
 exact wpAny_pure (wpAny_pure h)
theorem Zmo {M:Model} {nameV:Value} {Q:Unit→Shared→Prop} (Y:K.In s.heap) (c:Vn K C) (hx:s.heap.get? a=some o) (hc:o.cls=.ref C) (h:Q () s) :
  wpAny M A (checkBuiltinCall "BaseException.__getattribute__" ⟨[.ref a,nameV],[]⟩) Q E s:=by
 obtain ⟨hh,g,dr,t,os⟩:=s
 have L0:Looks M hh (typeOf (.ref a)) (.ref C):=hc ▸ (Looks.ld hx).andThen .now
 have L1:=looks_mroIn (M:=M) Y c.g5
 have hk:builtinKind "BaseException.__getattribute__" = some .slot:=by decide +kernel
 have hsplit:splitId "BaseException.__getattribute__" = some ("BaseException","__getattribute__"):=by decide +kernel
 have ha:=PySem.F.args_bexc_ga (.ref a) nameV
 simp only [checkBuiltinCall,hk,hsplit]
 refine wpAny_bind ?_
 unfold isInstance
 refine wpAny_bind (L0.at ?_)
 refine L1.at ?_
 rw [if_neg (by decide)]
 exact wpAny_of_eq ha h
theorem Zmp {Q:Option Value→Shared→Prop} (Y:K.In s.heap) (c:Vn K C) (hx:s.heap.get? a=some o) (hc:o.cls=.ref C) (h:Q (some (.ref C)) { s with toks:=s.toks+1 }) :
  wpAny (model prog w) A (getAttr? (.ref a) "__class__") Q E s:=by
 obtain ⟨hh,g,dr,t,os⟩:=s
 have L0:Looks (model prog w) hh (typeOf (.ref a)) (.ref C):=hc ▸ (Looks.ld hx).andThen .now
 have L1:=looks_findIn (M:=model prog w) Y c.g1
 have L2:=looks_findIn (M:=model prog w) Y c.g2
 have f3:=PySem.F.excAttr_ValueError.ga.bind (.ref a)
 unfold getAttr? getAttrBy? getAttrBy
 refine wpAny_bind (wpAny_mkText (wpAny_bind (wpAny_attempt (wpAny_holding (wpAny_bind (L0.at (wpAny_bind (L1.at ?_))))))))
 dsimp only
 rw [if_neg (show ¬ ((onTheHeap (Value.ref C) && Value.builtin "BaseException.__getattribute__" == Value.builtin "object.__getattribute__")=true) by
  rw [show (Value.builtin "BaseException.__getattribute__" == Value.builtin "object.__getattribute__")=false by decide +kernel,Bool.and_false];decide)]
 unfold getAttrByItsOwn hookBefore
 rw [if_pos (show onTheHeap (Value.ref C)=true from rfl)]
 refine wpAny_bind (L2.at ?_)
 unfold callGetattribute
 rw [if_neg (by decide)]
 unfold boundAndCalled
 refine wpAny_bind (wpAny_attempt (wpAny_holding (wpAny_bind (wpAny_of_eq f3 ?_))))
 refine wpAny_call (codeAny_call_builtin PySem.F.excAttr_ValueError.ga.plain PySem.F.entry_bexc_ga (Zmo Y c hx hc (Zmn Y c hx hc ?_)))
 exact wpAny_pure (wpAny_pure h)
theorem ZgU (c:Vn K C):KitX K (.ref a) (.ref C) (fun h=>∃ ob vs,h.get? a=some ob∧ob.cls=.ref C∧ob.data=.fields vs) where
 ty:=fun M h Y ⟨ob,vs,hx,hc,_⟩=>hc ▸ (Looks.ld hx).andThen .now
 it:=fun M h Y _=>by
  obtain ⟨cd,hcd⟩:=Option.isSome_iff_exists.mp c.cl
  unfold clsIn at hcd
  split at hcd
  ·next ho =>
   intro A' Q' E' s' k q
   unfold isType loadHead
   exact wpAny_bind (wpAny_loadPart (k _ _ (Y _ _ ho)) (wpAny_pure q))
  ·cases hcd
 ne:=fun h tp dd its n sl Y htp=>by
  obtain ⟨cd,hcd⟩:=Option.isSome_iff_exists.mp c.cl
  refine Bool.eq_false_iff.mpr fun q=>?_
  have e:C=tp:=Value.ref.inj (beq_iff_eq.mp q)
  subst e
  unfold clsIn at hcd
  split at hcd
  ·next ho =>
   have z:=(Y _ _ ho).symm.trans htp
   cases z
  ·cases hcd
 ca:=fun Y ⟨ob,vs,hx,hc,_⟩ k=>Zmp Y c hx hc k
end
theorem Wu {X:Cx}:Xg X (.builtin "isinstance") (fun xs H Q=>∃ (a C D:Addr) (b:Bool),xs=[.ref a,.ref D]∧H a=some (Qj a (.ref C))∧Vn X.K C∧PySem.W.kitOne X.K (.ref C) (.ref D)=some b∧Q (.bl b) H):=by
 intro pins s σ H xs us Q I r h
 obtain ⟨a,C,D,b,rfl,ha,c,e,q⟩:=h
 obtain ⟨u,w',rfl,rx,ry⟩:=ZaB r
 cases (show u=Value.ref a from rx)
 cases (show w'=Value.ref D from ry)
 obtain ⟨p,_⟩:=I.hok a _ ha
 exact kia_one (ZgU c) I.kIn p e (fun z=>nomatch z) fun tk=>⟨.bl b,H,I.tok _,rfl,q⟩
theorem Zmq {X:Cx}:Xg X (.builtin "isinstance") (fun xs H Q=>∃ (a C:Addr) (T:String) (b:Bool),xs=[.ref a,.ty T]∧H a=some (Qj a (.ref C))∧Vn X.K C∧PySem.W.kitOne X.K (.ref C) (.type T)=some b∧Q (.bl b) H):=by
 intro pins s σ H xs us Q I r h
 obtain ⟨a,C,T,b,rfl,ha,c,e,q⟩:=h
 obtain ⟨u,w',rfl,rx,ry⟩:=ZaB r
 cases (show u=Value.ref a from rx)
 cases (show w'=Value.type T from ry)
 obtain ⟨p,_⟩:=I.hok a _ ha
 exact kia_one (ZgU c) I.kIn p e (fun z=>nomatch z) fun tk=>⟨.bl b,H,I.tok _,rfl,q⟩
end L2
namespace L2
open PySem PySem.Spec PyProof.Rows
theorem Xl {α:Type} {t:Sem α} {Q Q':α→Shared→Prop} {M:Model} {A:Around} {E:Value→Shared→Prop} {s:Shared} (h:wpAny M A t Q (fun _ _=>False) s) (hQ:∀ a s,Q a s→Q' a s):wpAny M A t Q' E s:=wpAny_mono h hQ fun _ _ z=>z.elim
abbrev ZgV (ifs:List Expr) (env:Env):Sem Bool:=forIn ifs true fun c r=>if r=true then do let ok ← isTrue c env (eval c env);pure (ForInStep.yield ok) else pure (ForInStep.yield r)
theorem ZgW {prog:Program} {w:World} {A:Around} {R:Result→Shared→Prop} {s:Shared} {elt tg iter:Expr} {ifs:List Expr} {scope:Scope} {pos:Pos} {it acc:Value} {env:Env} (J:Nat→Shared→Prop)
  (turn:∀ k s1,J k s1→wpAny (model prog w) A (pyNext it) (fun r s2=>match r with
   | none=>R (.ok .next) s2
   | some v=>wpAny (model prog w) A (letOwnedTupleGo tg it v) (fun _ s3=>wpAny (model prog w) A (assign tg env v) (fun _ s4=>wpAny (model prog w) A (ZgV ifs env) (fun ok s5 =>
     if ok=true then wpAny (model prog w) A (eval elt env) (fun x s6=>wpAny (model prog w) A (call (.builtin "list.append") [acc,x]) (fun _ s7=>∃ m,m < k∧J m s7) (fun _ _=>False) s6) (fun _ _=>False) s5
     else ∃ m,m < k∧J m s5) (fun _ _=>False) s4) (fun _ _=>False) s3) (fun _ _=>False) s2) (fun _ _=>False) s1)
  (k:Nat) (h:J k s):codeAny (model prog w) A (.compLoop (.ListComp elt [⟨tg,iter,ifs,0⟩] scope pos) 0 it acc env) R s:=by
 refine codeAny_loop rfl J (fun k s1 hJ=>?_) k h
 refine wpAny_noted ?_
 rw [compTurn_list]
 refine wpAny_bind (wpAny_standAt (wpAny_bind (Xl (turn k s1 hJ) fun r s2 h2=>?_)))
 cases r with
 | none=>exact wpAny_pure h2
 | some v =>
  refine wpAny_bind (Xl h2 fun _ s3 h3=>wpAny_bind (Xl h3 fun _ s4 h4=>wpAny_bind (Xl h4 fun ok s5 h5=>?_)))
  cases ok with
  | false=>exact wpAny_pure ⟨rfl,h5⟩
  | true=>exact wpAny_bind (wpAny_bind (Xl h5 fun x s6 h6=>wpAny_bind (Xl h6 fun _ s7 h7=>wpAny_pure (wpAny_pure ⟨rfl,h7⟩))))
abbrev YI (X:Cx) (N:List Str) (scope:Scope) (cl:List (Str×Addr)) (C:Addr) (s0:Shared) (H0:Hp) (ex:List Addr) (pins:List (Addr×Obj)):Cx :=
 { X with N:=N,s₀:=s0,H₀:=H0,env:=compEnvC scope cl C X.env,outer:=X.stack,stack:=X.stack,ex:=ex,fn:=fun _=>false,pn:=X.pn++pins,xe:=fun _ _=>False }
def Wh (X:Cx) (scope:Scope) (cl:List (Str×Addr)):List Str→List (Option Nat)→Prop
 | [],[]=>True
 | _::N,none::fr=>Wh X scope cl N fr
 | y::N,some i::fr=>(X.N[i]? = some y∧(X.env.kindOf y=some .cell∨X.env.kindOf y=some .free)∧((relabel scope X.env).names.lookup y=some .cell∨(relabel scope X.env).names.lookup y=some .free) ∧
   ∃ c,X.env.cells.lookup y=some c∧cl.lookup y=some c)∧Wh X scope cl N fr
 | _,_=>False
def Ql (fr:List (Option Nat)) (σ:St):St:=fr.map fun o=>match o with | none=>none | some i=>(σ[i]?).getD none
theorem Wh.len {X:Cx} {scope:Scope} {cl:List (Str×Addr)}:∀ {N:List Str} {fr:List (Option Nat)},Wh X scope cl N fr→fr.length=N.length
 | [],[],_=>rfl
 | _::N,none::fr,h=>by rw [List.length_cons,List.length_cons,Wh.len (N:=N) h]
 | _::N,some i::fr,h=>by rw [List.length_cons,List.length_cons,Wh.len (N:=N) h.2]
 | [],_::_,h=>h.elim
 | _::_,[],h=>h.elim
theorem Wh.at {X:Cx} {scope:Scope} {cl:List (Str×Addr)} {σ:St} {v:V} {y:Str}:∀ {N:List Str} {fr:List (Option Nat)} {j:Nat},Wh X scope cl N fr→N[j]? = some y→(Ql fr σ)[j]? = some (some v) →
  ∃ i:Nat,σ[i]? = some (some v)∧X.N[i]? = some y∧(X.env.kindOf y=some .cell∨X.env.kindOf y=some .free)∧((relabel scope X.env).names.lookup y=some .cell∨(relabel scope X.env).names.lookup y=some .free) ∧
   ∃ c,X.env.cells.lookup y=some c∧cl.lookup y=some c
 | [],[],j,_,e,_=>by simp at e
 | [],_::_,_,h,_,_=>h.elim
 | _::_,[],_,h,_,_=>h.elim
 | _::N,none::fr,0,_,_,q=>by cases q
 | _::N,none::fr,j+1,h,e,q=>Wh.at (N:=N) (fr:=fr) (j:=j) h e q
 | x::N,some i::fr,0,h,e,q=>by
  have e':x=y:=Option.some.inj e
  subst e'
  have q':some ((σ[i]?).getD none)=some (some v):=q
  refine ⟨i,?_,h.1⟩
  cases z:σ[i]? with
  | none=>rw [z] at q';cases q'
  | some o=>rw [z] at q';exact congrArg some (Option.some.inj q')
 | _::N,some i::fr,j+1,h,e,q=>Wh.at (N:=N) (fr:=fr) (j:=j) h.2 e q
def Qm (X:Cx):List (Str×Addr)→Prop
 | []=>True
 | (y,c)::r=>X.env.cells.lookup y=some c∧Qm X r
theorem Qm.at {X:Cx} {y:Str} {c:Addr}:∀ {cl:List (Str×Addr)},Qm X cl→cl.lookup y=some c→X.env.cells.lookup y=some c
 | [],_,e=>by cases e
 | (z,d)::r,h,e=>by
  rw [List.lookup_cons] at e
  cases q:y == z with
  | true =>
   rw [q] at e
   have e1:y=z:=by simpa using q
   have e2:d=c:=Option.some.inj e
   subst e1 e2
   exact h.1
  | false =>
   rw [q] at e
   exact Qm.at h.2 e
theorem ZgX {α:Type} {p:Str×α→Bool} {y:Str} {k:α}:∀ {l:List (Str×α)},l.all p=true→l.lookup y=some k→p (y,k)=true
 | [],_,e=>by cases e
 | (z,d)::r,h,e=>by
  rw [List.all_cons,Bool.and_eq_true] at h
  rw [List.lookup_cons] at e
  cases q:y == z with
  | true =>
   rw [q] at e
   have e1:y=z:=by simpa using q
   have e2:d=k:=Option.some.inj e
   subst e1 e2
   exact h.1
  | false =>
   rw [q] at e
   exact ZgX h.2 e
section
variable {X:Cx} {pins:List (Addr×Obj)} {σ:St} {H:Hp} {s:Shared} {N:List Str} {fr:List (Option Nat)} {scope:Scope} {cl:List (Str×Addr)}
theorem Zd.block {ex:List Addr} {h':Heap} {C:Addr} {m:Str→Option Value} {tk:Nat} (I:Zd X pins σ H s) (hkind:scope.kind=.function) (hfr:Wh X scope cl N fr) (hcl:Qm X cl)
  (hhas:((relabel scope X.env).names.all fun p=>!(p.2 == .cell || p.2 == .free) || (cl.lookup p.1).isSome)=true) (hex:∀ b∈ex,Wd X pins H b) (hlt:∀ b∈ex,b < s.heap.objs.size)
  (old:∀ b o,s.heap.get? b=some o→h'.get? b=some o) (hC:s.heap.objs.size≤C) (hns:h'.Ns C m):Zd (YI X N scope cl C s H ex pins) [] (Ql fr σ) H { s with heap:=h',toks:=tk }:=by
 have nst:∀ b,b≠X.env.locals→b∉X.fs→b∉Z2 X.stack:=fun b h1 h2 z=>(List.mem_cons.mp (I.stkSub b z)).elim h1 h2
 have ltC:∀ b o,s.heap.get? b=some o→b≠C:=fun b o e=>Nat.ne_of_lt (Nat.lt_of_lt_of_le (Heap.lt_size e) hC)
 refine ⟨⟨I.ok.mod,hkind,I.ok.glob,I.ok.blt,hC,fun x y c e1 e2=>I.ok.inj x y c (hcl.at e1) (hcl.at e2),fun x hx=>?_,(fun _ _ z=>nomatch z),I.ok.hd,I.ok.frames,.inl rfl,fun b hb=>⟨Nat.ne_of_lt (Nat.lt_of_lt_of_le (hlt b hb) hC),fun x c e=>(hex b hb).2.2.2.2.1 x c (hcl.at e)⟩,
   I.bs,Nat.le_trans I.ok.bsz I.sz,fun b o e hb=>?_,fun b hb=>nst b (hex b hb).2.1 (hex b hb).2.2.1,I.stack,I.stkFree⟩,rfl,I.bare,Un.kept old,⟨m,hns,fun i x v e1 e2 e3=>?_⟩,fun x c e=>?_,?_,fun x c e=>I.freeC x c (hcl.at e),fun p hp=>?_,I.hok.kept old,?_⟩
 ·have q:∃ k,(relabel scope X.env).names.lookup x=some k∧(k=.cell∨k=.free):=hx.elim (fun z=>⟨_,z,.inl rfl⟩) fun z=>⟨_,z,.inr rfl⟩
  obtain ⟨k,q1,q2⟩:=q
  have z:=ZgX hhas q1
  have z2:(cl.lookup x).isSome=true:=by
   rcases q2 with rfl | rfl
   ·simpa using z
   ·simpa using z
  exact Option.isSome_iff_exists.mp z2
 ·rcases (hex b hb).2.2.2.1 with z | z
  ·exact I.ok.noex b o e z
  ·exact absurd (Nat.lt_of_lt_of_le (Nat.lt_of_lt_of_le (Heap.lt_size e) I.ok.bsz) z) (Nat.lt_irrefl _)
 ·obtain ⟨j,q1,q2,q3,q4,c,q5,q6⟩:=hfr.at e1 e2
  obtain ⟨m0,hn0,hl0⟩:=I.loc
  obtain ⟨u,r,l⟩:=hl0 j x v q2 q1 (q3.elim (fun z=>.inr (.inl z)) fun z=>.inr (.inr z))
  refine ⟨u,r,.inr ⟨q4,c,q6,?_⟩⟩
  rcases l with ⟨k,_⟩ | ⟨_,c',e',o,ho,hd⟩
  ·rcases q3 with z | z
   ·rw [z] at k;cases k
   ·rw [z] at k;cases k
  ·rw [q5] at e';cases e'
   exact ⟨o,old _ _ ho,hd⟩
 ·obtain ⟨v,o,ho,hd⟩:=I.cell x c (hcl.at e)
  exact ⟨v,o,old _ _ ho,hd⟩
 ·exact I.hok.fresh hC
 ·have hp':p∈X.pn++pins:=by simpa using hp
  obtain ⟨e,n,ne,nf,d⟩:=I.pin p hp'
  exact ⟨old _ _ e,n,ltC _ _ e,nst _ ne nf,d⟩
 ·show (Ql fr σ).length=N.length
  unfold Ql
  rw [List.length_map,hfr.len]
theorem Zd.trackS {a:Addr} {ob:Obj} {vs:Array Value} {n:Nat} {o:HO} (I:Zd X pins σ H s) (ha:H a=none) (hob:s.heap.get? a=some ob) (hd:ob.data=.seq vs n)
  (h0:X.s₀.heap.get? a=none) (hp:∀ p∈X.pn++pins,p.1≠a) (new:Yp X.prog X.w (upd H a o) s.heap a o):Zd X pins σ (upd H a o) s:=by
 have nt:∀ b u,H b=some u→b≠a:=fun b u q=>YZ q ha
 refine ⟨I.ok,I.os,I.bare,⟨I.base.keep,I.base.slot,fun b u e n hx=>?_,I.base.there,fun b xs q=>?_,fun b u xs q=>?_,fun b ps q=>?_⟩,I.loc,I.cell,?_,fun y c e=>?_,fun p q=>?_,fun b u q=>?_,I.len⟩
 ·have ne:b≠a:=fun z=>by rw [z,h0] at e;cases e
  rw [ZO ne];exact I.base.free b u e n hx
 ·have z:=I.base.tups b xs q
  rw [ZO (nt _ _ z)];exact z
 ·have z:=I.base.frzs b u xs q
  rw [ZO (nt _ _ z)];exact z
 ·obtain ⟨m,z⟩:=I.base.tbls b ps q
  exact ⟨m,by rw [ZO (nt _ _ z)];exact z⟩
 ·have ne:X.env.locals≠a:=fun z=>by
   obtain ⟨m,⟨oL,es,ep,e1,e2,_⟩,_⟩:=I.loc
   rw [z,hob] at e1;cases e1
   rw [hd] at e2;cases e2
  rw [ZO ne];exact I.free
 ·have ne:c≠a:=fun z=>by
   obtain ⟨v,oc,e1,e2⟩:=I.cell y c e
   rw [z,hob] at e1;cases e1
   rw [hd] at e2;cases e2
  rw [ZO ne];exact I.freeC y c e
 ·obtain ⟨e,n,r⟩:=I.pin p q
  exact ⟨e,by rw [ZO (hp p q)];exact n,r⟩
 ·by_cases hb:b=a
  ·subst hb;rw [Zf] at q;cases q;exact new
  ·rw [ZO hb] at q
   exact (I.hok b u q).stay (fun c v _ z=>z) (fun c z=>by rw [ZO (nt _ _ z)];exact z) fun c xs z=>by rw [ZO (nt _ _ z)];exact z
end
def PTs (X:Cx) (ifs:List Expr) (t:TT):Prop :=
 ∀ (pins:List (Addr×Obj)) (s:Shared) (σ:St) (H:Hp) (Q:Bool→Hp→Prop),Zd X pins σ H s→t σ H Q→wpAny (model X.prog X.w) X.A (ZgV ifs X.env) (TP X pins σ Q) X.xe s
def X7:TT:=fun _ H Q=>Q true H
theorem Wi {X:Cx}:PTs X [] X7:=fun _ _ _ H _ I h=>wpAny_tests_nil ⟨H,I,h⟩
def Vo (Q:VK) (acc:List V) (H:Hp):Prop:=∀ p,H p=none→Q (.ref p) (upd H p (.lst acc))
def ZgY (fr:List (Option Nat)) (wi:TI) (g:TG) (tt:TT) (te:TE):TE:=fun σ H Q=>wi σ H fun J H1=>∃ W:Nat→Nat→List V→St→Hp→Prop,(∃ m,W 0 m [] (Ql fr σ) H1)∧∀ i m acc σ1 H,W i m acc σ1 H →
 (J.stop i H∧Vo Q acc H) ∨
 (J.go i H∧acc.length < sizeLine∧∃ N:List V→St→Hp→Prop,(∀ acc' σ' H',N acc' σ' H'→∃ m',m' < m∧W (i+1) m' acc' σ' H')∧∀ x H',J.yld i H x H'→g x σ1 H' fun σ2 H2=>tt σ2 H2 fun b H3=>if b=true then te σ2 H3 fun y H4=>N (acc++[y]) σ2 H4 else N acc σ2 H3)
theorem WZ {X:Cx} {elt tg iter:Expr} {ifs:List Expr} {scope:Scope} {cl:List (Str×Addr)} {pos:Pos} {N:List Str} {fr:List (Option Nat)} {wi:TI} {g:TG} {tt:TT} {te:TE}
  (hc:X.calm=true) (hi:PI X tg iter wi) (hclos:closureFor scope X.env=pure cl) (hcell:∀ y∈scope.names,y.2≠.cell) (hkind:scope.kind=.function)
  (hnames:∀ y∈scope.names,y.2=.local→scope.names.lookup y.1=some .local) (hfr:Wh X scope cl N fr) (hcl:Qm X cl)
  (hhas:((relabel scope X.env).names.all fun p=>!(p.2 == .cell || p.2 == .free) || (cl.lookup p.1).isSome)=true)
  (hg:∀ C s0 H0 ex pins,PG (YI X N scope cl C s0 H0 ex pins) tg g) (ht:∀ C s0 H0 ex pins,PTs (YI X N scope cl C s0 H0 ex pins) ifs tt) (he:∀ C s0 H0 ex pins,PE (YI X N scope cl C s0 H0 ex pins) elt te)
  (hs:∀ v,foldedSetIterable iter X.env v=pure v:=by intro _;rfl):PE X (.ListComp elt [⟨tg,iter,ifs,0⟩] scope pos) (ZgY fr wi g tt te):=by
 intro pins s σ H Q I h
 rw [eval_ListComp]
 refine wpAny_comprehension_free (use:=none) rfl hs hclos hkind hnames (ZK (hi pins s σ H _ I h) fun xv s1 h1=>ZK h1 fun itv s2 h2=>?_)
 obtain ⟨it,fp,tn,J,H2,e,I2,T,st2,f2,W,⟨m0,w0⟩,turn⟩:=h2
 subst e
 refine wpAny_newObj_type (wpAny_newFunctionEnv hcell (fun y hy=>nomatch hy) (fun h4 hns hsb=>?_) hkind)
 dsimp only at hns hsb ⊢
 generalize hD:s2.heap.objs.size=D at *
 generalize hG:s2.heap.push { cls:=.type "list",dict:=none,data:=.seq ([]:List Value).toArray } = G at hns hsb ⊢
 have hC:G.objs.size=D+1:=by rw [← hG,Heap.size_push,hD]
 generalize hCC:G.objs.size=C at hns hsb hC ⊢
 subst hC
 have old:∀ b o,s2.heap.get? b=some o→h4.get? b=some o:=fun b o e=>by
  have lt:=Heap.lt_size e
  rw [hD] at lt
  exact hsb.extBut b o (Nat.ne_of_lt (Nat.lt_succ_of_lt lt)) (Heap.get?_push_of_some _ (hG ▸ Heap.get?_push_of_some _ e))
 have hDl:h4.get? D=some { cls:=.type "list",dict:=none,data:=.seq ([]:List Value).toArray 0 } :=
  hsb.extBut _ _ (Nat.ne_of_lt (Nat.lt_succ_self _)) (Heap.get?_push_of_some _ (hG ▸ hD ▸ Heap.get?_push_size _ rfl))
 have flt:∀ b∈fp,b < D:=fun b hb=>by
  obtain ⟨o,e,_⟩:=T.obj 0 _ st2 b hb
  have lt:=Heap.lt_size e
  rw [hD] at lt
  exact lt
 have nst:∀ b,b≠X.env.locals→b∉X.fs→b∉Z2 X.stack:=fun b h1 h2 z=>(List.mem_cons.mp (I2.stkSub b z)).elim h1 h2
 have pl:∀ p∈X.pn++pins,p.1 < D:=fun p hp=>by
  have lt:=Heap.lt_size (I2.pin p hp).1
  rw [hD] at lt
  exact lt
 have I4:∀ tk,Zd (YI X N scope cl (D+1) s2 H2 fp pins) [] (Ql fr σ) H2 { s2 with heap:=h4,toks:=tk }:=fun tk =>
  I2.block hkind hfr hcl hhas f2 (fun b hb=>by rw [hD];exact flt b hb) old (by rw [hD];exact Nat.le_succ _) hns
 have stat:∀ {H':Hp} {o:Obj},(∀ b∈fp,H' b=none)→∀ b∈fp,Wd (YI X N scope cl (D+1) s2 H2 fp pins) [(D,o)] H' b:=fun {H' o} hn b hb=>by
  obtain ⟨_,k1,k2,_,k4,k5⟩:=f2 b hb
  refine ⟨hn b hb,Nat.ne_of_lt (Nat.lt_succ_of_lt (flt b hb)),nst b k1 k2,.inl hb,fun x c e=>k4 x c (hcl.at e),fun p hp=>?_⟩
  rcases List.mem_append.mp hp with hp | hp
  ·exact k5 p hp
  ·rw [List.mem_singleton.mp hp]
   exact (Nat.ne_of_lt (flt b hb)).symm
 have dnf:D∉Z2 X.stack:=fun z=>by
  obtain ⟨_,o,e,_⟩:=I2.stack.mem z
  have lt:=Heap.lt_size e
  rw [hD] at lt
  exact absurd lt (Nat.lt_irrefl _)
 have loop:∀ tk,codeAny (model X.prog X.w) X.A (.compLoop (.ListComp elt [⟨tg,iter,ifs,0⟩] scope pos) 0 (.ref it) (.ref D) (compEnvC scope cl (D+1) X.env)) (compPost (model X.prog X.w) X.A X.xe none (EP X pins σ Q) (.ref D) (D+1)) { s2 with heap:=h4,toks:=tk }:=fun tk=>by
  refine ZgW (fun k s'=>∃ i σ' H' its nD acc,Zd (YI X N scope cl (D+1) s2 H2 fp pins) [] σ' H' s' ∧
    s'.heap.get? D=some { cls:=.type "list",dict:=none,data:=.seq (List.toArray its) nD }∧H' D=none∧ZJ acc its∧acc.length≤sizeLine∧tn i s'.heap∧(∀ b∈fp,H' b=none)∧W i k acc σ' H') ?_ m0
   ⟨0,_,H2,[],0,[],I4 tk,hDl,I2.hok.fresh (by rw [hD];exact Nat.le_refl _),.nil,Nat.zero_le _,T.keep 0 _ _ st2 fun b _ o e=>old b o e,fun b hb=>(f2 b hb).1,w0⟩
  rintro k s5 ⟨i,σ5,H5,its,nD,acc,I5,hL,hn5,va,hacc,st5,fr5,w5⟩
  have dcell:∀ x c,cl.lookup x=some c→c≠D:=fun x c e z=>by
   obtain ⟨v,q⟩:=I2.cell x c (hcl.at e)
   have lt:=q.lt
   rw [hD,z] at lt
   exact absurd lt (Nat.lt_irrefl _)
  have I5':Zd (YI X N scope cl (D+1) s2 H2 fp pins) [(D,{ cls:=.type "list",dict:=none,data:=.seq (List.toArray its) nD })] σ5 H5 s5:=I5.pins_of fun p hp=>by
   rw [List.mem_singleton.mp hp]
   exact ⟨hL,hn5,Nat.ne_of_lt (Nat.lt_succ_self _),dnf,fun v z=>by cases z⟩
  rcases turn i k acc σ5 H5 w5 with ⟨stop,qn⟩ | ⟨go,hlt,N1,hN1,step⟩
  ·refine Xl (T.done (YI X N scope cl (D+1) s2 H2 fp pins) rfl rfl rfl hc i _ s5 _ H5 _ I5' (stat fr5) st5 stop) fun r s6 ⟨hr,I6⟩=>?_
   subst hr
   obtain ⟨m6,hn6,_⟩:=I6.loc
   refine ⟨m6,hn6,fun h7 hs7=>?_⟩
   have hL7:h7.get? D=some { cls:=.type "list",dict:=none,data:=.seq (List.toArray its) nD }:=hs7.extBut _ _ (Nat.ne_of_lt (Nat.lt_succ_self _)) (I6.pin (D,_) (List.mem_append_right _ (List.mem_singleton.mpr rfl))).1
   have neC:∀ b o,s2.heap.get? b=some o→b≠D+1:=fun b o e=>by
    have lt:=Heap.lt_size e
    rw [hD] at lt
    exact Nat.ne_of_lt (Nat.lt_succ_of_lt lt)
   have nt:∀ b u,H5 b=some u→b≠D+1:=fun b u q z=>by
    have f:=I6.free
    rw [z] at q
    rw [show H5 (D+1)=none from f] at q
    cases q
   have un:Un (Z2 X.stack) fp H2 H5 s2.heap h7:=⟨fun b o e n hb hx=>hs7.extBut b o (neC b o e) (I6.base.keep b o e n hb hx),
    fun b o e n hb hx=>let ⟨sl,q⟩:=I6.base.slot b o e n hb hx;⟨sl,hs7.extBut b _ (neC b o e) q⟩,I6.base.free,fun b o e hx=>let ⟨o',q⟩:=I6.base.there b o e hx;⟨o',hs7.extBut b _ (neC b o e) q⟩,I6.base.tups,I6.base.frzs,I6.base.tbls⟩
   have hok:Yu X.prog X.w H5 h7:=fun b u q=>(I6.hok b u q).stay (fun c v hc e=>hs7.extBut c v (by
    rcases hc with rfl | hc
    ·exact nt _ _ q
    ·exact nt _ _ hc) e) (fun _ z=>z) fun _ _ z=>z
   have I8:Zd X pins σ H5 { s6 with heap:=h7 }:=I2.call' (s':={ s6 with heap:=h7 }) I6.os un hok I6.bare fun b hb=>let ⟨_,k1,_,k3,k4,k5⟩:=f2 b hb;⟨k3,k1,k4,k5⟩
   have I9:Zd X pins σ (upd H5 D (.lst acc)) { s6 with heap:=h7 }:=I8.trackS hn5 hL7 rfl (by
     cases z:X.s₀.heap.get? D with
     | none=>rfl
     | some o =>
      have lt:=Nat.lt_of_lt_of_le (Heap.lt_size z) I2.sz
      rw [hD] at lt
      exact absurd lt (Nat.lt_irrefl _)) (fun p hp=>Nat.ne_of_lt (pl p hp)) ⟨hacc,its,nD,va,hL7⟩
   exact ⟨.ref D,_,I9,rfl,qn D hn5⟩
  ·refine Xl (T.item (YI X N scope cl (D+1) s2 H2 fp pins) rfl rfl rfl hc i _ s5 _ H5 _ I5' (stat fr5) st5 go) fun r s6 ⟨u,hr,h6⟩=>?_
   subst hr
   refine Xl h6 fun _ s7 ⟨x,H7,I7,r7,y7,st7,fr7⟩=>?_
   have I7':Zd (YI X N scope cl (D+1) s2 H2 fp pins) ([(D,{ cls:=.type "list",dict:=none,data:=.seq (List.toArray its) nD })]++WU fp s7.heap) σ5 H7 s7:=I7.pinned (stat fr7) (T.obj _ _ st7)
   refine Xl (hg _ _ _ _ _ _ s7 _ H7 x u _ I7' r7 (step x H7 y7)) fun _ s8 ⟨σ8,H8,I8,q8⟩=>?_
   refine Xl (ht _ _ _ _ _ _ s8 σ8 H8 _ I8 q8) fun ok s9 ⟨H9,I9,q9⟩=>?_
   have wk:∀ {σ':St} {H':Hp} {s':Shared},Zd (YI X N scope cl (D+1) s2 H2 fp pins) ([(D,{ cls:=.type "list",dict:=none,data:=.seq (List.toArray its) nD })]++WU fp s7.heap) σ' H' s' →
     tn (i+1) s'.heap∧(∀ b∈fp,H' b=none)∧s'.heap.get? D=some { cls:=.type "list",dict:=none,data:=.seq (List.toArray its) nD }∧H' D=none:=fun {σ' H' s'} J'=>by
    have pin:∀ p∈([(D,{ cls:=.type "list",dict:=none,data:=.seq (List.toArray its) nD })]:List (Addr×Obj))++WU fp s7.heap,s'.heap.get? p.1=some p.2∧H' p.1=none:=fun p hp=>let ⟨e,n,_⟩:=J'.pin p (List.mem_append_right _ hp);⟨e,n⟩
    refine ⟨T.keep _ _ _ st7 fun b hb o e=>(pin (b,o) (List.mem_append_right _ (QP hb e))).1,fun b hb=>?_,(pin (D,_) (List.mem_append_left _ (List.mem_singleton.mpr rfl))).1,(pin (D,_) (List.mem_append_left _ (List.mem_singleton.mpr rfl))).2⟩
    obtain ⟨o,e,_⟩:=T.obj _ _ st7 b hb
    exact (pin (b,o) (List.mem_append_right _ (QP hb e))).2
   cases ok with
   | false =>
    obtain ⟨m',hm,w9⟩:=hN1 _ _ _ q9
    obtain ⟨k1,k2,k3,k4⟩:=wk I9
    exact ⟨m',hm,i+1,σ8,H9,its,nD,acc,I9.pins_of (fun _ z=>nomatch z),k3,k4,va,hacc,k1,k2,w9⟩
   | true =>
    refine Xl (he _ _ _ _ _ _ s9 σ8 H9 _ I9 q9) fun y s10 ⟨v,H10,I10,r10,q10⟩=>?_
    obtain ⟨m',hm,w10⟩:=hN1 _ _ _ q10
    obtain ⟨k1,k2,k3,k4⟩:=wk I10
    refine call_meets F.slot_list_append ⟨_,k3,rfl⟩ F.entry_list_append (F.args_list_append_2 _ _) (PySem.list_append D its.toArray nD y (by rw [List.size_toArray,← va.length];omega)) ⟨k3,?_⟩
    have up:∀ b o,b≠D→s10.heap.get? b=some o→(s10.heap.update D (Obj.mapSeq fun z=>z.push y)).get? b=some o:=fun b o hb e=>(Heap.get?_update_other s10.heap _ (Ne.symm hb)).trans e
    have I11:Zd (YI X N scope cl (D+1) s2 H2 fp pins) [] σ8 H10 { s10 with heap:=s10.heap.update D (Obj.mapSeq fun z=>z.push y),toks:=s10.toks } :=
     (I10.pins_of (pins':=[]) fun _ z=>nomatch z).turned up k4 (Nat.ne_of_lt (Nat.lt_succ_self _)) (.inr (by rw [hD];exact Nat.le_refl _)) dcell fun p hp=>by
      have hp':p∈X.pn++pins:=by simpa using hp
      exact Nat.ne_of_lt (pl p hp')
    have q:=PySem.IsL.update k3 (fun z=>z.push y)
    rw [show (List.toArray its).push y=(its++[y]).toArray by simp] at q
    refine ⟨m',hm,i+1,σ8,H10,its++[y],_,acc++[v],I11,q,k4,va.append (.cons r10 .nil),?_,T.keep _ _ _ k1 fun b hb o e=>up b o (Nat.ne_of_lt (flt b hb)) e,k2,w10⟩
    rw [List.length_append,List.length_singleton]
    omega
 exact codeAny_compStart_list (loop _) (T.self _ 0 _ _ _ (T.keep 0 _ _ st2 fun b _ o e=>old b o e) (loop _))
theorem UX {K:PySem.W.Frag} {a:Addr} {xs:List V} {g:TG} {tt:TT} {te:TE} {σ0:St} {H:Hp} {Q:VK} (Pv:Nat→List V→St→Hp→Prop) (h0:Pv 0 [] σ0 H) (hz:xs.length≤sizeLine) (hl:∀ i acc σ H,i≤xs.length→Pv i acc σ H→Zm K H a xs)
  (hs:∀ i x acc σ H,acc.length≤i→xs[i]? = some x→Pv i acc σ H→g x σ H fun σ2 H2=>tt σ2 H2 fun b H3=>if b=true then te σ2 H3 fun y H4=>(acc++[y]).length≤i+1∧Pv (i+1) (acc++[y]) σ2 H4 else acc.length≤i+1∧Pv (i+1) acc σ2 H3)
  (hd:∀ acc σ H,acc.length≤xs.length→Pv xs.length acc σ H→Vo Q acc H) :
  ∃ W:Nat→Nat→List V→St→Hp→Prop,(∃ m,W 0 m [] σ0 H)∧∀ i m acc σ1 H,W i m acc σ1 H →
   ((UU K a).stop i H∧Vo Q acc H) ∨
   ((UU K a).go i H∧acc.length < sizeLine∧∃ N:List V→St→Hp→Prop,(∀ acc' σ' H',N acc' σ' H'→∃ m',m' < m∧W (i+1) m' acc' σ' H')∧∀ x H',(UU K a).yld i H x H'→g x σ1 H' fun σ2 H2=>tt σ2 H2 fun b H3=>if b=true then te σ2 H3 fun y H4=>N (acc++[y]) σ2 H4 else N acc σ2 H3):=by
 refine ⟨fun i m acc σ H=>m=xs.length - i∧i≤xs.length∧acc.length≤i∧Pv i acc σ H,⟨xs.length,by simp,Nat.zero_le _,Nat.zero_le _,h0⟩,?_⟩
 rintro i m acc σ1 H ⟨rfl,hi,ha,p⟩
 have q:=hl i acc σ1 H hi p
 by_cases hlt:i < xs.length
 ·refine .inr ⟨⟨xs,xs[i],q,by simp [hlt]⟩,by omega,fun acc' σ' H'=>acc'.length≤i+1∧Pv (i+1) acc' σ' H',fun acc' σ' H' z=>⟨xs.length - (i+1),by omega,rfl,hlt,z.1,z.2⟩,fun x H' y=>?_⟩
  obtain ⟨e,y⟩:=y
  subst e
  exact hs i x acc σ1 _ ha (y xs q) p
 ·have e:i=xs.length:=by omega
  subst e
  exact .inl ⟨⟨xs,q,Nat.le_refl _⟩,hd acc σ1 H ha p⟩
theorem Zmr {K:PySem.W.Frag} {a:Addr} {xs:List V} {g:TG} {tt:TT} {te:TE} {σ0:St} {H:Hp} {Q:VK} (Pv:Nat→List V→St→Hp→Prop) (h0:Pv 0 [] σ0 H) (hz:xs.length≤sizeLine) (hl:∀ i acc σ H,i≤xs.length→Pv i acc σ H→Zi K H a xs)
  (hs:∀ i x acc σ H,acc.length≤i→xs[i]? = some x→Pv i acc σ H→g x σ H fun σ2 H2=>tt σ2 H2 fun b H3=>if b=true then te σ2 H3 fun y H4=>(acc++[y]).length≤i+1∧Pv (i+1) (acc++[y]) σ2 H4 else acc.length≤i+1∧Pv (i+1) acc σ2 H3)
  (hd:∀ acc σ H,acc.length≤xs.length→Pv xs.length acc σ H→Vo Q acc H) :
  ∃ W:Nat→Nat→List V→St→Hp→Prop,(∃ m,W 0 m [] σ0 H)∧∀ i m acc σ1 H,W i m acc σ1 H →
   ((Itt K a).stop i H∧Vo Q acc H) ∨
   ((Itt K a).go i H∧acc.length < sizeLine∧∃ N:List V→St→Hp→Prop,(∀ acc' σ' H',N acc' σ' H'→∃ m',m' < m∧W (i+1) m' acc' σ' H')∧∀ x H',(Itt K a).yld i H x H'→g x σ1 H' fun σ2 H2=>tt σ2 H2 fun b H3=>if b=true then te σ2 H3 fun y H4=>N (acc++[y]) σ2 H4 else N acc σ2 H3):=by
 refine ⟨fun i m acc σ H=>m=xs.length - i∧i≤xs.length∧acc.length≤i∧Pv i acc σ H,⟨xs.length,by simp,Nat.zero_le _,Nat.zero_le _,h0⟩,?_⟩
 rintro i m acc σ1 H ⟨rfl,hi,ha,p⟩
 have q:=hl i acc σ1 H hi p
 by_cases hlt:i < xs.length
 ·refine .inr ⟨⟨xs,xs[i],q,by simp [hlt]⟩,by omega,fun acc' σ' H'=>acc'.length≤i+1∧Pv (i+1) acc' σ' H',fun acc' σ' H' z=>⟨xs.length - (i+1),by omega,rfl,hlt,z.1,z.2⟩,fun x H' y=>?_⟩
  obtain ⟨e,y⟩:=y
  subst e
  exact hs i x acc σ1 _ ha (y xs q) p
 ·have e:i=xs.length:=by omega
  subst e
  exact .inl ⟨⟨xs,q,Nat.le_refl _⟩,hd acc σ1 H ha p⟩
theorem ZdR {lo:Int} {n:Nat} {g:TG} {tt:TT} {te:TE} {σ0:St} {H:Hp} {Q:VK} (Pv:Nat→List V→St→Hp→Prop) (h0:Pv 0 [] σ0 H) (hz:n≤sizeLine)
  (hs:∀ i acc σ H,i < n→acc.length≤i→Pv i acc σ H→g (.int (lo+i)) σ H fun σ2 H2=>tt σ2 H2 fun b H3=>if b=true then te σ2 H3 fun y H4=>(acc++[y]).length≤i+1∧Pv (i+1) (acc++[y]) σ2 H4 else acc.length≤i+1∧Pv (i+1) acc σ2 H3)
  (hd:∀ acc σ H,acc.length≤n→Pv n acc σ H→Vo Q acc H) :
  ∃ W:Nat→Nat→List V→St→Hp→Prop,(∃ m,W 0 m [] σ0 H)∧∀ i m acc σ1 H,W i m acc σ1 H →
   ((Vi lo n).stop i H∧Vo Q acc H) ∨
   ((Vi lo n).go i H∧acc.length < sizeLine∧∃ N:List V→St→Hp→Prop,(∀ acc' σ' H',N acc' σ' H'→∃ m',m' < m∧W (i+1) m' acc' σ' H')∧∀ x H',(Vi lo n).yld i H x H'→g x σ1 H' fun σ2 H2=>tt σ2 H2 fun b H3=>if b=true then te σ2 H3 fun y H4=>N (acc++[y]) σ2 H4 else N acc σ2 H3):=by
 refine ⟨fun i m acc σ H=>m=n - i∧i≤n∧acc.length≤i∧Pv i acc σ H,⟨n,by simp,Nat.zero_le _,Nat.zero_le _,h0⟩,?_⟩
 rintro i m acc σ1 H ⟨rfl,hi,ha,p⟩
 by_cases hlt:i < n
 ·refine .inr ⟨hlt,by omega,fun acc' σ' H'=>acc'.length≤i+1∧Pv (i+1) acc' σ' H',fun acc' σ' H' z=>⟨n - (i+1),by omega,rfl,hlt,z.1,z.2⟩,fun x H' y=>?_⟩
  obtain ⟨e,y⟩:=y
  subst e y
  exact hs i acc σ1 _ hlt ha p
 ·have e:i=n:=by omega
  subst e
  exact .inl ⟨Nat.le_refl _,hd acc σ1 H ha p⟩
end L2
namespace L2
open PySem PySem.Spec PyProof.Rows
mutual
inductive DV (K:PySem.W.Frag) (H:Hp):V→PyData→Prop
 | non:DV K H .non .none
 | bl (b:Bool):DV K H (.bl b) (.bool b)
 | int (i:Int):DV K H (.int i) (.int i)
 | str (x:Str) (h:(PyData.str x).canLay0=true):DV K H (.str x) (.str x)
 | lst {a:Addr} {xs:List V} {ds:List PyData} (h:Zm K H a xs) (r:DVs K H xs ds):DV K H (.ref a) (.list ds)
 | tup {a:Addr} {xs:List V} {ds:List PyData} (h:Zi K H a xs) (r:DVs K H xs ds):DV K H (.ref a) (.tuple ds)
inductive DVs (K:PySem.W.Frag) (H:Hp):List V→List PyData→Prop
 | nil:DVs K H [] []
 | cons {x:V} {xs:List V} {d:PyData} {ds:List PyData} (h:DV K H x d) (r:DVs K H xs ds):DVs K H (x::xs) (d::ds)
end
theorem Zi.sameT {K:PySem.W.Frag} {H H':Hp} {a:Addr} {xs:List V} (e:Zt H H') (h:Zi K H a xs):Zi K H' a xs:=by
 rcases h with (h | ⟨o,h⟩) | h
 ·exact .inl (.inl (e _ _ h))
 ·exact .inl (.inr ⟨o,e _ _ h⟩)
 ·exact .inr h
section
variable {X:Cx} {pins:List (Addr×Obj)} {σ:St} {H:Hp} {s:Shared}
end
end L2
namespace L2
open PySem PySem.Spec PyProof.Rows
def spl (c:Nat):List Nat→List (List Nat)
 | []=>[[]]
 | x::r=>if x=c then []::spl c r else match spl c r with
  | []=>[[x]]
  | w::ws=>(x::w)::ws
def Wj (c:Nat):List (List Nat)→List Nat
 | []=>[]
 | [p]=>p
 | p::q::r=>p++c::Wj c (q::r)
theorem UY (c:Nat):∀ l:List Nat,spl c l≠[]
 | []=>by simp [spl]
 | x::r=>by
  unfold spl
  by_cases h:x=c
  ·rw [if_pos h];simp
  ·rw [if_neg h]
   cases q:spl c r <;> simp
theorem ZgZ (c:Nat):∀ p:List Nat,c∉p→spl c p=[p]
 | [],_=>rfl
 | x::r,h=>by
  have h1:x≠c:=fun z=>h (by rw [z];exact List.mem_cons_self)
  have h2:c∉r:=fun z=>h (List.mem_cons_of_mem _ z)
  unfold spl
  rw [if_neg h1,ZgZ c r h2]
theorem Zg0 (c:Nat) (rest:List Nat):∀ p:List Nat,c∉p→spl c (p++c::rest)=p::spl c rest
 | [],_=>by
  show spl c (c::rest)=_
  rw [spl,if_pos rfl]
 | x::r,h=>by
  have h1:x≠c:=fun z=>h (by rw [z];exact List.mem_cons_self)
  have h2:c∉r:=fun z=>h (List.mem_cons_of_mem _ z)
  show spl c (x::(r++c::rest))=_
  rw [spl,if_neg h1,Zg0 c rest r h2]
theorem Zby (c:Nat):∀ ps:List (List Nat),ps≠[]→(∀ p∈ps,c∉p)→spl c (Wj c ps)=ps
 | [],h,_=>absurd rfl h
 | [p],_,h=>ZgZ c p (h p List.mem_cons_self)
 | p::q::r,_,h=>by
  show spl c (p++c::Wj c (q::r))=_
  rw [Zg0 c _ p (h p List.mem_cons_self),Zby c (q::r) (by simp) fun z hz=>h z (List.mem_cons_of_mem _ hz)]
theorem Qn (c:Nat):∀ ps:List Str,(Str.join ⟨#[c]⟩ ps).cps.toList=Wj c (ps.map fun p=>p.cps.toList)
 | []=>rfl
 | [p]=>rfl
 | p::q::r=>by
  show (p++⟨#[c]⟩++Str.join ⟨#[c]⟩ (q::r)).cps.toList=p.cps.toList++c::Wj c ((q::r).map fun p=>p.cps.toList)
  rw [← Qn c (q::r),Str.cps_append,Str.cps_append]
  simp
theorem Zms (x:Str) (c:Nat):(Txt.split x ⟨#[c]⟩).map (fun p=>p.cps.toList)=spl c x.cps.toList:=by
 have h1:=StrLaws.join_split x ⟨#[c]⟩
 have h2:=StrLaws.split_free x c
 have h3:Txt.split x ⟨#[c]⟩≠[]:=fun z=>by
  have:=split_pos x ⟨#[c]⟩
  rw [z] at this
  exact absurd this (by decide)
 have h4:Wj c ((Txt.split x ⟨#[c]⟩).map fun p=>p.cps.toList)=x.cps.toList:=by rw [← Qn,h1]
 rw [← h4,Zby]
 ·intro z
  exact h3 (List.map_eq_nil_iff.mp z)
 ·intro p hp
  obtain ⟨q,hq,rfl⟩:=List.mem_map.mp hp
  exact h2 q hq
theorem ZdS (x:Str) (c:Nat):Txt.split x ⟨#[c]⟩=(spl c x.cps.toList).map fun l=>⟨l.toArray⟩:=by
 rw [← Zms,List.map_map]
 have e:((fun l:List Nat=>(⟨l.toArray⟩:Str)) ∘ fun p:Str=>p.cps.toList)=id:=by
  funext p
  cases p
  simp
 rw [e,List.map_id]
theorem Zbz (c:Nat):∀ l:List Nat,(spl c l).length≤l.length+1
 | []=>Nat.le_refl _
 | x::r=>by
  have:=Zbz c r
  unfold spl
  by_cases h:x=c
  ·rw [if_pos h,List.length_cons,List.length_cons];omega
  ·rw [if_neg h]
   cases q:spl c r with
   | nil=>simp
   | cons w ws=>rw [q] at this;simp only [List.length_cons] at this ⊢;omega
theorem Zg1:∀ (ts:List Str) (k:Nat),ZJ (ts.map V.str) (strsFrom k ts)
 | [],_=>.nil
 | x::r,k=>.cons ⟨k,rfl⟩ (Zg1 r (k+1))
def Zmt:V→List V→Hp→VK→Prop:=fun x xs H Q=>∃ z c,x=.str z∧xs=[.str ⟨#[c]⟩]∧z.length+2≤sizeLine∧∀ p,H p=none→Q (.ref p) (upd H p (.lst ((spl c z.cps.toList).map fun l=>V.str ⟨l.toArray⟩)))
theorem ZaH {X:Cx}:Qh X "str.split" Zmt:=by
 intro pins s σ H x xs v us Q I rx r h
 obtain ⟨z,c,rfl,rfl,hz,q⟩:=h
 obtain ⟨t,rfl⟩:=rx
 obtain ⟨u,rfl,t',rfl⟩:=XG r
 have hl:=Zbz c z.cps.toList
 have hl2:z.cps.toList.length=z.length:=by simp [Str.length]
 have em:(spl c z.cps.toList).map (fun l=>V.str ⟨l.toArray⟩)=(Txt.split z ⟨#[c]⟩).map V.str:=by rw [ZdS,List.map_map];rfl
 have fin:∀ (its:List Value) (tk:Nat),ZJ ((Txt.split z ⟨#[c]⟩).map V.str) its→EP X pins σ Q (.ref s.heap.objs.size) { s with heap:=s.heap.push { cls:=.type "list",data:=.seq its.toArray },toks:=tk }:=fun its tk vv=>by
  rw [em] at q
  refine ⟨.ref _,_,I.lnew (t':=tk) vv ?_,rfl,q _ I.fresh⟩
  rw [List.length_map,ZdS,List.length_map]
  omega
 cases h1:(decide (z.length < (⟨#[c]⟩:Str).length) || decide (Builtin.Str.strKind z < Builtin.Str.strKind ⟨#[c]⟩)) with
 | true =>
  have e:Txt.split z ⟨#[c]⟩=[z]:=by unfold Txt.split;rw [if_pos h1]
  rw [e] at fin
  exact call_meets F.slot_str_split (typeIs_str _ _ _) F.entry_str_split (F.args_str_split_2 _ _) (meets_str_split_cannot_occur z ⟨#[c]⟩ t t' h1) (fin [.str z t] s.toks (.cons ⟨t,rfl⟩ .nil))
 | false =>
  cases h2:(Builtin.Str.occurrences z ⟨#[c]⟩ 0 z.length (z.length+1)).isEmpty with
  | true =>
   have e:Txt.split z ⟨#[c]⟩=[z]:=by unfold Txt.split;rw [if_neg (by rw [h1];decide),if_pos h2]
   rw [e] at fin
   exact call_meets F.slot_str_split (typeIs_str _ _ _) F.entry_str_split (F.args_str_split_2 _ _) (meets_str_split_not_found z ⟨#[c]⟩ t t' h1 rfl h2) (fin [.str z t] s.toks (.cons ⟨t,rfl⟩ .nil))
  | false =>
   have e:Txt.split z ⟨#[c]⟩=Builtin.Str.partsBetween z (Builtin.Str.occurrences z ⟨#[c]⟩ 0 z.length (z.length+1)) (⟨#[c]⟩:Str).length:=by unfold Txt.split;rw [if_neg (by rw [h1];decide),if_neg (by rw [h2];decide)]
   have hs2:(Builtin.Str.partsBetween z (Builtin.Str.occurrences z ⟨#[c]⟩ 0 z.length (z.length+1)) (⟨#[c]⟩:Str).length).length≤sizeLine:=by
    rw [← e,ZdS,List.length_map]
    omega
   refine call_meets F.slot_str_split (typeIs_str _ _ _) F.entry_str_split (F.args_str_split_2 _ _) (meets_str_split_sep z ⟨#[c]⟩ t t' h1 rfl h2 (by omega) hs2) ?_
   rw [e] at fin
   exact fin _ _ (Zg1 _ s.toks)
section
variable {X:Cx}
end
end L2
namespace L2
open PySem PySem.Spec PyProof.Rows
section
variable {X:Cx} {x:Str} {pos:Pos}
theorem YV {k:Int} (hg:Gl X x) (hm:∃ t,X.mg x=some (.int k t)) (hd:(x == ("__debug__" : Str))=false:=by decide):PE X (.Name x pos) (tC (.int k)):=by
 obtain ⟨t,hm⟩:=hm
 exact Zgc hg hm ⟨t,rfl⟩ hd
def Zmu:TE:=fun _ H Q=>∀ p,H p=none→Q (.ref p) (upd H p (.dK []))
theorem Zg2 {X:Cx} {pos:Pos}:PE X (.Dict [] [] pos) Zmu:=by
 intro pins s σ H Q I h
 have lt:sysModules < s.heap.objs.size:=Nat.lt_trans (show sysModules < mainGlobals by decide) (I.mod.glob.keeps I.bk).lt
 have new:Yp X.prog X.w (upd H s.heap.objs.size (.dK [])) (s.heap.push { cls:=.type "dict",data:=.dict #[] }) s.heap.objs.size (.dK []) :=
  ⟨Nat.zero_le _,beq_eq_false_iff_ne.mpr (Ne.symm (Nat.ne_of_lt lt)),[],.nil,Heap.DictOf.new s.heap⟩
 exact wpAny_Dict_empty ⟨.ref s.heap.objs.size,_,I.laid (t':=s.toks) (fun _ _ q=>Heap.get?_push_of_some _ q) (Nat.le_refl _) new,rfl,h _ (I.hok.fresh (Nat.le_refl _))⟩
theorem nd1 (x:Str):[x].Nodup:=by simp
def Zg3:Expr→Bool
 | .Starred _ _=>false
 | _=>true
theorem Zmv {e:Expr} {es:List Expr} {env:Env} (h:Zg3 e=true):starEach (e::es) env=(false,eval e env)::starEach es env:=by
 cases e <;> first | rfl | cases h
theorem Zb {e:Expr} {es:List Expr} {te:TE} {t:TA} (ha:PE X e te) (hr:PA X es t) (h:Zg3 e=true:=by rfl):PA X (e::es) (ZdI te t):=Zlx ha hr (Zmv h)
end
end L2
namespace K1
open PySem L2
def WJ:Str:=⟨#[48,49,50,51,52,53,54,55,56,57]⟩
theorem Zg4:Str.ofString "0123456789" = WJ:=by decide +kernel
theorem Zmw:∀ c:Nat,Builtin.Str.occurrences WJ ⟨#[c]⟩ 0 10 1=if 48≤c∧c≤57 then [c - 48] else []:=by
 intro c
 by_cases h:48≤c∧c≤57
 ·rw [if_pos h]
  have:c=48∨c=49∨c=50∨c=51∨c=52∨c=53∨c=54∨c=55∨c=56∨c=57:=by omega
  rcases this with rfl | rfl | rfl | rfl | rfl | rfl | rfl | rfl | rfl | rfl <;> decide +kernel
 ·rw [if_neg h]
  have n0:c≠48:=by omega
  have n1:c≠49:=by omega
  have n2:c≠50:=by omega
  have n3:c≠51:=by omega
  have n4:c≠52:=by omega
  have n5:c≠53:=by omega
  have n6:c≠54:=by omega
  have n7:c≠55:=by omega
  have n8:c≠56:=by omega
  have n9:c≠57:=by omega
  unfold Builtin.Str.occurrences
  simp [WJ,Builtin.Str.subAt,n0.symm,n1.symm,n2.symm,n3.symm,n4.symm,n5.symm,n6.symm,n7.symm,n8.symm,n9.symm,Str.length]
  rw [show List.range' 0 11=[0,1,2,3,4,5,6,7,8,9,10] from rfl]
  simp [List.forIn_cons,n0.symm,n1.symm,n2.symm,n3.symm,n4.symm,n5.symm,n6.symm,n7.symm,n8.symm,n9.symm]
def Xm:V→Int→Int→Bool
 | .int i,lo,hi=>decide (lo≤i∧i≤hi)
 | _,_,_=>false
inductive Kd (H:Hp):V→String→Prop where
 | non:Kd H .non "NoneType"
 | bl (b:Bool):Kd H (.bl b) "bool"
 | int (i:Int):Kd H (.int i) "int"
 | str (x:Str):Kd H (.str x) "str"
 | lst {a:Addr} {xs:List V} (e:H a=some (.lst xs)):Kd H (.ref a) "list"
 | tup {a:Addr} {xs:List V} (e:H a=some (.tup xs)):Kd H (.ref a) "tuple"
 | dK {a:Addr} {kvs:List (YY×V)} (e:H a=some (.dK kvs)):Kd H (.ref a) "dict"
theorem Kd.ty {K:PySem.W.Frag} {H:Hp} {v:V} {T:String} (k:Kd H v T):Xt K H v (.type T):=by
 cases k with
 | non=>exact .non
 | bl b=>exact .bl b
 | int i=>exact .int i
 | str x=>exact .str x
 | lst e=>exact .lst e
 | tup e=>exact .tup e
 | dK e=>exact .dK e
theorem Kd.same {H H':Hp} {v:V} {T:String} (s:Zt H H') (k:Kd H v T):Kd H' v T:=by
 cases k with
 | non=>exact .non
 | bl b=>exact .bl b
 | int i=>exact .int i
 | str x=>exact .str x
 | lst e=>exact .lst (s _ _ e)
 | tup e=>exact .tup (s _ _ e)
 | dK e=>exact .dK (s _ _ e)
theorem Zmx {K:PySem.W.Frag} {H:Hp} {v:V} {T:String} (k:Kd H v T):PySem.W.kitOne K (.type T) (.type "int")=some (decide (T = "int" ∨ T = "bool")):=by
 cases k <;> rfl
theorem Zg5 {K:PySem.W.Frag} {H:Hp} {v:V} {T:String} (k:Kd H v T):PySem.W.kitOne K (.type T) (.type "bool")=some (decide (T = "bool")):=by
 cases k <;> rfl
theorem Zmy {K:PySem.W.Frag} {H:Hp} {v:V} {T:String} (k:Kd H v T):PySem.W.kitOne K (.type T) (.type "str")=some (decide (T = "str")):=by
 cases k <;> rfl
theorem Zy {c A B:Prop} [Decidable c] (h:c) (a:A):if c then A else B:=by rw [if_pos h];exact a
theorem Zh {c A B:Prop} [Decidable c] (h:¬ c) (b:B):if c then A else B:=by rw [if_neg h];exact b
def dg (c:Nat):Bool:=decide (48≤c∧c≤57)
theorem Zg6 (c:Nat):WI WJ c=dg c:=by
 unfold WI dg
 rw [show WJ.length=10 from rfl,Zmw c]
 by_cases h:48≤c∧c≤57
 ·rw [if_pos h,decide_eq_true h];rfl
 ·rw [if_neg h,decide_eq_false h];rfl
def UZ (z:Str):Bool:=!decide (V.str z=V.str (Str.ofString "")) && (z.cps.toList.map fun c=>WI WJ c).all id
theorem Zr {H:Hp} {p:Addr} (h:H p=none) (o:HO):Zt H (upd H p o):=fun b u q=>by rw [ZO (YZ q h)];exact q
theorem Zmz {α:Type} (g:α→Bool) (l:List α):(l.map fun c=>V.bl (g c))=(l.map g).map V.bl:=by rw [List.map_map];rfl
def ZmA:V→Bool
 | .int _=>true
 | _=>false
theorem ZmB (ns:List Int):(ns.map V.int).all Y0=true:=by
 rw [List.all_map];exact List.all_eq_true.mpr fun _ _=>rfl
structure YW (tp:Addr) (k:Int) (H H':Hp):Prop where
 keep:∀ b o,b≠tp→H b=some o→H' b=some o
 tape:H' tp=some (.lst [.int k])
theorem YW.trans {tp:Addr} {k k':Int} {H H1 H2:Hp} (a:YW tp k H H1) (b:YW tp k' H1 H2):YW tp k' H H2:=⟨fun c o n h=>b.keep c o n (a.keep c o n h),b.tape⟩
theorem YW.same {tp:Addr} {k:Int} {H H1 H2:Hp} (a:YW tp k H H1) (s:Zt H1 H2):YW tp k H H2:=⟨fun c o n h=>s _ _ (a.keep c o n h),s _ _ a.tape⟩
def Own (K:PySem.W.Frag) (a:Addr) (xs:List V):Prop:=∃ (o:Obj) (its:Array Value) (n:Nat),K.lookup a=some o∧o.cls=.type "list" ∧ o.dict=none∧o.data=.seq its n∧its.size≤sizeLine∧ZJ xs its.toList
def Xw (K:PySem.W.Frag) (H:Hp) (a tp:Addr) (ns:List Int):Prop:=(a≠tp∧Rd H a (.lst (ns.map V.int)))∨Own K a (ns.map V.int)
theorem Xw.sq {K:PySem.W.Frag} {H:Hp} {a tp:Addr} {ns:List Int} (h:Xw K H a tp ns):Zm K H a (ns.map V.int):=h.imp (·.2) id
theorem Xw.same {K:PySem.W.Frag} {H H':Hp} {a tp:Addr} {ns:List Int} (h:Xw K H a tp ns) (s:Zt H H'):Xw K H' a tp ns :=
 h.imp (fun ⟨n,r⟩=>⟨n,r.imp (s _ _) fun ⟨o,q⟩=>⟨o,s _ _ q⟩⟩) id
theorem YW.scr {K:PySem.W.Frag} {tp a:Addr} {k:Int} {H H':Hp} {ns:List Int} (b:YW tp k H H') (h:Xw K H a tp ns):Xw K H' a tp ns :=
 h.imp (fun ⟨n,r⟩=>⟨n,r.imp (b.keep _ _ n) fun ⟨o,q⟩=>⟨o,b.keep _ _ n q⟩⟩) id
theorem Xw.new {K:PySem.W.Frag} {H:Hp} {a tp:Addr} {ns:List Int} (h:Zm K H a (ns.map V.int)) (n:H tp=none) (o:HO):Xw K (upd H tp o) a tp ns:=by
 rcases h with (h | ⟨u,h⟩) | h
 ·exact .inl ⟨YZ h n,.inl (by rw [ZO (YZ h n)];exact h)⟩
 ·exact .inl ⟨YZ h n,.inr ⟨u,by rw [ZO (YZ h n)];exact h⟩⟩
 ·exact .inr h
theorem Zg7 {x y:Int} (h0:0≤y) (h1:y < 18446744073709551616):Zbi x y:=.inr ⟨by omega,by omega⟩
def YF:Option Nat→V
 | none=>.non
 | some m=>.int (m:Nat)
theorem ZmC {a b:Str} {n m:Nat} (ha:a.length≤n) (hb:b.length≤m):(a++b).length≤n+m:=by rw [Str.length_append];omega
theorem at2 {x y:V} {d:Int} (h0:0≤d) (h1:d < 2):Yf [x,y] d=some x∨Yf [x,y] d=some y:=by
 rcases (show d=0∨d=1 by omega) with rfl | rfl
 ·exact .inl rfl
 ·exact .inr rfl
theorem Wk {p:V→Prop} {xs:List V} {d:Int} (h:∀ v∈xs,p v) (h0:0≤d) (h1:d < xs.length):∃ v,Yf xs d=some v∧p v:=by
 have hl:d.toNat < xs.length:=by omega
 refine ⟨xs[d.toNat],?_,h _ (List.getElem_mem hl)⟩
 have q:Yf xs ((d.toNat:Nat):Int)=some xs[d.toNat]:=XL (List.getElem?_eq_getElem hl)
 rw [show ((d.toNat:Nat):Int)=d by omega] at q
 exact q
end K1
namespace K1
open PySem L2
abbrev Vp (l:List Nat):Nat:=PySem.NumText.digitsVal l
def Yb (l:List Nat):Option Nat:=if l.length≤5∧l≠[]∧l.all dg=true∧¬ (l.head? = some 48∧l≠[48]) then some (Vp l) else none
theorem ZaI {z y:Str}:decide (V.str z=V.str y)=decide (z.cps.toList=y.cps.toList):=by
 refine decide_eq_decide.mpr ⟨fun h=>?_,fun h=>?_⟩
 ·injection h with h
  rw [h]
 ·have:z.cps=y.cps:=by
   rcases z with ⟨⟨a⟩⟩
   rcases y with ⟨⟨b⟩⟩
   exact congrArg List.toArray h
  exact congrArg V.str (Str.ext' this)
theorem Zg8 (z:Str):UZ z=(decide (z.cps.toList≠[]) && z.cps.toList.all dg):=by
 unfold UZ
 rw [ZaI,show (Str.ofString "").cps.toList=[] by decide +kernel]
 congr 1
 ·by_cases h:z.cps.toList=[]
  ·rw [decide_eq_true h,decide_eq_false (fun q=>q h)];rfl
  ·rw [decide_eq_false h,decide_eq_true h];rfl
 ·rw [List.all_map]
  congr 1
  funext c
  exact Zg6 c
theorem ZmD {l:List Nat} (h:l.all dg=true):PySem.NumText.AllDigits l:=fun c hc=>of_decide_eq_true (List.all_eq_true.mp h c hc)
theorem Zg9 {z:Str} (h:z.cps.toList.all dg=true) (h1:z.cps.toList≠[]) (h2:z.length≤640):PySem.intText? z=some ((Vp z.cps.toList:Nat):Int):=PySem.intText_digits (ZmD h) h1 (by omega)
theorem XZ (z:Str):z.cps.toList.length=z.length:=by simp [Str.length]
theorem ZmE (z:Str) (j:Nat) (h:j≤z.length):Txt.slice z none (some (j:Int))=⟨(z.cps.toList.take j).toArray⟩:=by
 have e:=StrLaws.sliceText_to (x:=z) (j:=(j:Int)) ⟨by omega,by rw [XZ];omega⟩
 rw [List.drop_zero,show ((j:Int) - 0).toNat=j by omega] at e
 exact e
theorem ZmF (z:Str) (j:Nat) (h:j≤z.length):Txt.slice z (some (j:Int)) none=⟨(z.cps.toList.drop j).toArray⟩:=by
 have e:=StrLaws.sliceText_from (x:=z) (i:=(j:Int)) ⟨by omega,by rw [XZ];omega⟩
 rw [show ((j:Int)).toNat=j by omega,List.take_of_length_le (by rw [List.length_drop];omega)] at e
 exact e
theorem ZmG:∀ {l:List Nat},l.all dg=true→Vp l < 10 ^ l.length:=fun {l} h=>by
 have key:∀ (l:List Nat) (acc n:Nat),acc < 10 ^ n→l.all dg=true→l.foldl (fun acc c=>acc * 10+(c - 48)) acc < 10 ^ (n+l.length):=by
  intro l
  induction l with
  | nil=>intro acc n h _;simpa using h
  | cons c r ih =>
   intro acc n h hd
   rw [List.all_cons,Bool.and_eq_true] at hd
   have hc:48≤c∧c≤57:=of_decide_eq_true hd.1
   have:=ih (acc * 10+(c - 48)) (n+1) (by rw [Nat.pow_succ];omega) hd.2
   rw [List.foldl_cons,List.length_cons]
   rw [show n+(r.length+1)=n+1+r.length by omega]
   exact this
 have:=key l 0 0 (by decide) h
 rw [Nat.zero_add] at this
 exact this
theorem ZmH {r:List Nat}:Vp (48::r)=Vp r:=rfl
theorem ZdT {d:Nat} (h:d < 10000):∀ l,l=(Str.ofString (toString ((d:Nat):Int))).cps.toList→1≤l.length∧l.length≤4∧l.all dg=true∧¬ (l.head? = some 48∧l≠[48])∧Vp l=d∧32∉l:=by
 intro l e
 rw [PySem.W.KIN.signs_num] at e
 have hl:l.length=(Nat.toDigits 10 d).length:=by rw [e,List.length_map]
 have dig:∀ c∈l,48≤c∧c≤57:=fun c hc=>by
  rw [e] at hc
  obtain ⟨ch,hch,e2⟩:=List.mem_map.mp hc
  have r:=PyProof.Rows.digit_range (Nat.isDigit_of_mem_toDigits (by decide) (by decide) hch)
  rw [← e2]
  exact r
 have hall:l.all dg=true:=List.all_eq_true.mpr fun c hc=>decide_eq_true (dig c hc)
 have hv:Vp l=d:=by rw [e];exact PySem.W.KIN.val_back d
 refine ⟨by rw [hl];exact PyProof.Rows.tDigits_len_ge 10 d,by rw [hl];exact PyProof.Rows.digits10_le (by decide) (show d < 10 ^ 4 from h),hall,fun ⟨z1,z2⟩=>?_,hv,fun z=>?_⟩
 ·match l,z1,z2,hl,hv,hall with
  | 48::r,_,z2,hl,hv,hall =>
   have hr:r≠[]:=fun z=>z2 (by rw [z])
   have hr1:1≤r.length:=by
    cases r with
    | nil=>exact absurd rfl hr
    | cons _ _=>simp
   rw [List.all_cons,Bool.and_eq_true] at hall
   have lt:=ZmG hall.2
   rw [ZmH] at hv
   rw [hv] at lt
   have le:=PyProof.Rows.digits10_le hr1 lt
   rw [← hl,List.length_cons] at le
   omega
 ·have:=dig 32 z
  omega
end K1
namespace L2
open PySem PySem.Spec PyProof.Rows
section
variable {X:Cx} {m:Str} {o e:Expr} {es:List Expr} {ta:TE} {t:TA} {pos apos:Pos}
def Zha (X:Cx) (m:Str) (ta:TE) (t:TA):TE:=fun σ H Q=>ta σ H fun x H1=>∃ (a C dx:Addr) (fs:List (Str×V)) (f:Addr) (fd:FuncData) (k:Nat) (ps:List Str) (sp:Sp) (CX:XW) (E:XK),
 x=.ref a∧H1 a=some (.ins C dx fs)∧fs.lookup m=none∧YK X.K C∧Z1 X.K C m f∧Zv X.prog X.w X.K X.mg X.base CX k f fd ps sp∧Yy k X.A∧ZL X.K fd ps []∧WE CX X E∧t σ H1 fun vs H2=>sp (.ref a::vs) H2 Q E
theorem Qo {pl:Sem Bool} (he:PE X o ta) (ha:PA X (e::es) t)
  (hst:starEach (e::es) X.env=(false,eval e X.env)::starEach es X.env:=by rfl) (hpl:(backTo pos (starEach es X.env)).any (·.1)=false:=by rfl)
  (ht:eval (.Call (.Attribute o m apos) (e::es) [] pos) X.env=(do
   let ov ← eval o X.env
   standAt apos.atName
   let (f,first) ← holding [ov] (getMethod ov m pl)
   callWith pos f first (backTo pos (starEach (e::es) X.env)) (backToKw pos (keywordEach [] X.env))):=by rfl) :
  PE X (.Call (.Attribute o m apos) (e::es) [] pos) (Zha X m ta t):=by
 intro pins s σ H Q I h
 refine PySem.W.methodCall_KW (pl:=pl) (ZK (he pins s σ H _ I h) fun u s1 z=>?_) ht
 obtain ⟨x,H1,I1,rx,a,C,dx,fs,f,fd,k,ps,sp,CX,E,ex,ea,l,c,hm,F,hr,hb,hx,q⟩:=z
 subst ex
 obtain rfl:u=Value.ref a:=rx
 refine Zbo I1 ea c hm l ?_
 refine PySem.W.callWith_K (first:=[.ref a]) (h₀:=X.base) I.ok.mod.kin hm.kp (ZK (ha pos pins s1 σ H1 _ I1 q) fun us s2 ⟨vs,H2,I2,r,q2⟩=>⟨I2.kIn,?_⟩) hst hpl
 exact ZaD (us:=.ref a::us) (vs:=.ref a::vs) (dvs:=[]) F hr hb .nil hx I2 (.cons rfl r) (by rw [List.append_nil];exact q2)
theorem Xx {pl:Sem Bool} (he:PE X o ta)
  (ht:eval (.Call (.Attribute o m apos) [] [] pos) X.env=(do
   let ov ← eval o X.env
   standAt apos.atName
   let (f,first) ← holding [ov] (getMethod ov m pl)
   callWith pos f first (backTo pos (starEach [] X.env)) (backToKw pos (keywordEach [] X.env))):=by rfl) :
  PE X (.Call (.Attribute o m apos) [] [] pos) (Zha X m ta ZdH):=by
 intro pins s σ H Q I h
 refine PySem.W.methodCall_KW (pl:=pl) (ZK (he pins s σ H _ I h) fun u s1 z=>?_) ht
 obtain ⟨x,H1,I1,rx,a,C,dx,fs,f,fd,k,ps,sp,CX,E,ex,ea,l,c,hm,F,hr,hb,hx,q⟩:=z
 subst ex
 obtain rfl:u=Value.ref a:=rx
 refine Zbo I1 ea c hm l ?_
 exact PySem.W.callWith_K0 (first:=[.ref a]) I1.kIn hm.kp (ZaD (us:=[.ref a]) (vs:=[.ref a]) (dvs:=[]) F hr hb .nil hx I1 (.cons rfl .nil) q)
structure MkN (K:PySem.W.Frag) (C:Addr):Prop where
 makes:PySem.W.makesIn K C=true
 init:PySem.W.findIn K (.ref C) "__init__" = some (some (.builtin "object.__init__"))
 kp:PySem.W.keepIn K (.ref C)=true
def ZmI (C:Addr):TE:=fun _ H Q=>∀ x dx,H x=none→H dx=none→dx≠x→Q (.ref x) (upd (upd H dx (.own x)) x (.ins C dx []))
theorem ZbA {C:Addr} {x:Str} {p:Pos} (M:MkN X.K C) (hg:Gl X x) (hm:X.mg x=some (.ref C)) (hdb:(x == ("__debug__" : Str))=false:=by decide):PE X (.Call (.Name x p) [] [] pos) (ZmI C):=by
 intro pins s σ H Q I h
 refine wpAny_Call_Name_kw (UP I hg hm ?_ hdb)
 refine PySem.W.callWith_K0 I.kIn M.kp ?_
 have q:=h (s.heap.objs.size+1) s.heap.objs.size (I.hok.fresh (Nat.le_succ _)) (I.hok.fresh (Nat.le_refl _)) (Nat.ne_of_lt (Nat.lt_succ_self _))
 have I2:=Zd.made (C:=C) I
 have Y:=PySem.W.makes_of (M:=model X.prog X.w) I.kIn M.makes
 refine wpAny_call (Zlo (C:=C) I.kIn M.makes M.init (fun self=>PySem.W.Looks.of_pure (PySem.W.oi_bind self)) ?_)
 have g1:((s.heap.push PySem.W.emptyDict).push (PySem.W.instObj C s.heap.objs.size)).get? (s.heap.objs.size+1)=some (PySem.W.instObj C s.heap.objs.size):=by
  have:=Heap.get?_push_size (s.heap.push PySem.W.emptyDict) (o:=PySem.W.instObj C s.heap.objs.size) rfl
  rw [Heap.size_push] at this
  exact this
 have t1:PySem.W.Looks (model X.prog X.w) ((s.heap.push PySem.W.emptyDict).push (PySem.W.instObj C s.heap.objs.size)) (typeOf (.ref (s.heap.objs.size+1))) (.ref C):=(PySem.W.Looks.ld g1).andThen .now
 have t2:PySem.W.Looks (model X.prog X.w) ((s.heap.push PySem.W.emptyDict).push (PySem.W.instObj C s.heap.objs.size)) (isInstance (.ref (s.heap.objs.size+1)) (.type "object")) true :=
  t1.andThen (Y.top.keeps fun b o e=>Heap.get?_push_of_some _ (Heap.get?_push_of_some _ e))
 refine codeAny_call_builtin PySem.W.oi_plain PySem.W.entry_oi ?_
 refine @PySem.W.check_slot (model X.prog X.w) _ _ _ "object.__init__" "object" "__init__" (.ref (s.heap.objs.size+1)) [] [] _ PySem.W.oi_kind PySem.W.oi_split t2 (PySem.W.oi_args _) ?_
 rw [PySem.W.oi_run]
 exact wpAny_pure (And.intro rfl ⟨.ref _,_,I2,rfl,q⟩)
end
theorem ZdU (ns:List Int):∀ k,k≤ns.length→preSum (fun i=>ns.getD i 0) k=(ns.take k).sum
 | 0,_=>by simp [preSum]
 | k+1,h=>by
  have ih:=ZdU ns k (by omega)
  show preSum (fun i=>ns.getD i 0) k+ns.getD k 0=_
  rw [ih,List.take_add_one,List.sum_append]
  have hk:k < ns.length:=by omega
  rw [List.getD_eq_getElem?_getD,List.getElem?_eq_getElem hk]
  simp
theorem ZdV {X:Cx} (hc:X.calm=true):Xg X (.builtin "sum") (fun xs H Q=>∃ (p:Addr) (ns:List Int),xs=[.ref p]∧Zm X.K H p (ns.map V.int)∧(∀ n∈ns,0≤n∧n≤1000000)∧ns.length≤1000∧Q (.int ns.sum) H):=by
 intro pins s σ H xs us Q I r h
 obtain ⟨p,ns,rfl,hq,hb,hl,q⟩:=h
 obtain ⟨u,rfl,rx⟩:=XG r
 cases rx
 obtain ⟨its,r',pl,hz⟩:=I.list hq
 have hlen:=r'.length
 obtain ⟨o,n,ho,_⟩:=id pl
 have hne:p≠s.heap.objs.size:=Nat.ne_of_lt (Heap.lt_size ho)
 have bound:∀ k,k≤ns.length→0≤(ns.take k).sum∧(ns.take k).sum≤1000000 * k:=by
  intro k
  induction k with
  | zero=>intro _;simp
  | succ k ih =>
   intro hk
   have hk':k < ns.length:=by omega
   have:=ih (by omega)
   have b:=hb ns[k] (List.getElem_mem hk')
   rw [List.take_add_one,List.sum_append,List.getElem?_eq_getElem hk']
   simp only [Option.toList_some,List.sum_cons,List.sum_nil]
   omega
 refine call_sum_walk (wpAny_pyIter_list pl.isList ?_)
 refine ⟨s.heap.objs.size,[s.heap.objs.size,p],[s.heap.objs.size],its.toArray.size,_,_,fun i=>ns.getD i 0,rfl,Walks.list (A:=X.A.in1) (I.ok.hd hc) _ _ hne its.toArray,⟨⟨_,Heap.get?_push_size _ rfl,rfl,rfl⟩,?_⟩,?_,?_,?_,fun h' tk t' hk=>?_⟩
 ·obtain ⟨o2,e2,r2⟩:=pl.isList
  exact ⟨o2,Heap.get?_push_of_some _ e2,r2⟩
 ·intro b hb'
  show b < (s.heap.push _).objs.size
  rw [Heap.size_push]
  rcases List.mem_cons.mp hb' with rfl | hb'
  ·exact Nat.lt_succ_self _
  ·rw [List.mem_singleton.mp hb']
   exact Nat.lt_succ_of_lt (Heap.lt_size ho)
 ·intro i v hv
  have hv':its[i]? = some v:=by simpa using hv
  have hi:i < ns.length:=by
   have:=(List.getElem?_eq_some_iff.mp hv').1
   rw [← hlen,List.length_map] at this;exact this
  obtain ⟨w,e1,e2⟩:=r'.get (i:=i) (x:=.int ns[i]) (by rw [List.getElem?_map,List.getElem?_eq_getElem hi];rfl)
  rw [hv'] at e1
  cases e1
  obtain ⟨t,rfl⟩:=e2
  exact ⟨t,by dsimp only;rw [List.getD_eq_getElem?_getD,List.getElem?_eq_getElem hi];rfl⟩
 ·intro j hj
  have hj':j < ns.length:=by
   rw [List.size_toArray,← hlen,List.length_map] at hj;exact hj
  have b1:=hb ns[j] (List.getElem_mem hj')
  have b2:=bound (j+1) (by omega)
  have e1:ns.getD j 0=ns[j]:=by rw [List.getD_eq_getElem?_getD,List.getElem?_eq_getElem hj'];rfl
  rw [ZdU ns (j+1) (by omega)]
  dsimp only
  rw [e1]
  have b3:(1000000:Int) * ((j+1:Nat):Int)≤1000000000:=by omega
  unfold InLong
  omega
 ·have hk2:∀ b o,s.heap.get? b=some o→h'.get? b=some o:=fun b o e=>hk b o (fun z=>by
   have e1:=Heap.lt_size e
   rw [List.mem_singleton.mp z] at e1
   exact absurd e1 (Nat.lt_irrefl _)) (Heap.get?_push_of_some _ e)
  have e:preSum (fun i=>ns.getD i 0) its.toArray.size=ns.sum:=by
   rw [List.size_toArray,← hlen,List.length_map,ZdU ns _ (Nat.le_refl _),List.take_length]
  rw [e]
  exact ⟨.int _,H,I.kept (t':=tk) hk2,⟨_,rfl⟩,q⟩
structure ZsG (K:PySem.W.Frag) (x qual:Str) (st:Stmt) (f:Addr) (fd:FuncData) (D:Addr) (ds:List Value):Prop where
 ex:∃ (oc:Value) (od:Option Addr) (kV doc pm:Value) (an:Option Addr) (cdv ct:Value) (osl:Array (Option Value)),
  fd=PySem.W.fnOf x qual (Zs st) (Zq st) (Zg st) (.ref D) kV doc pm an cdv ct∧K.lookup f=some ⟨oc,od,.func fd,osl⟩∧PySem.W.codeIn K cdv qual=true
 dt:∃ (o:Obj) (n:Nat),K.lookup D=some o∧o.data=.seq ds.toArray n
 kp:PySem.W.keepIn K (.ref f)=true
section
variable {P:Program} {w:World} {K:PySem.W.Frag} {mg:Str→Option Value} {base:Heap} {x qual:Str} {st:Stmt} {f D:Addr} {fd:FuncData} {ds:List Value}
end
end L2
namespace K1
open PySem L2
inductive RT where
 | always
 | week (b:Nat)
 | span (a b:Nat) (r:RT)
 | each (n:Nat) (ss:List Nat)
 | either (r s:RT)
 | both (r s:RT)
 | but (ds:List Nat) (r:RT)
def RT.weight:RT→Nat
 | .always | .week _ | .each _ _=>1
 | .span _ _ r | .but _ r=>1+r.weight
 | .either r s | .both r s=>1+(r.weight+s.weight)
def RT.depth:RT→Nat
 | .always | .week _ | .each _ _=>1
 | .span _ _ r | .but _ r=>1+r.depth
 | .either r s | .both r s=>1+max r.depth s.depth
def RT.runs:RT→Nat→Bool
 | .always,_=>true
 | .week b,d=>b / 2 ^ (d % 7) % 2 == 1
 | .span a b r,d=>decide (a≤d) && decide (d≤b) && r.runs d
 | .each n ss,d=>ss.contains (d % n)
 | .either r s,d=>r.runs d || s.runs d
 | .both r s,d=>r.runs d && s.runs d
 | .but ds r,d=>r.runs d != ds.contains d
theorem RT.depth_pos:∀ r:RT,1≤r.depth
 | .always | .week _ | .each _ _=>Nat.le_refl 1
 | .span _ _ r | .but _ r=>Nat.le_add_right 1 _
 | .either r s | .both r s=>Nat.le_add_right 1 _
structure RC where
 rule:Addr
 week:Addr
 span:Addr
 each:Addr
 either:Addr
 both:Addr
 but:Addr
abbrev ZR (l:List Nat):List V:=l.map fun n=>V.int (n:Nat)
inductive ZM (c:RC) (K:PySem.W.Frag) (H:Hp):Addr→RT→Prop
 | always {a dx:Addr} (h:H a=some (.ins c.rule dx [])):ZM c K H a .always
 | week {a dx:Addr} {b:Nat} (h:H a=some (.ins c.week dx [("bits",.int (b:Nat))])) (hb:b≤127):ZM c K H a (.week b)
 | span {a dx i:Addr} {x y:Nat} {r:RT} (h:H a=some (.ins c.span dx [("first",.int (x:Nat)),("last",.int (y:Nat)),("inner",.ref i)])) (hx:x≤y) (hy:y≤9999) (hi:ZM c K H i r):ZM c K H a (.span x y r)
 | each {a dx p:Addr} {n:Nat} {ss:List Nat} (h:H a=some (.ins c.each dx [("length",.int (n:Nat)),("starts",.ref p)])) (hn:1≤n) (hn2:n≤28) (hp:Zi K H p (ZR ss)):ZM c K H a (.each n ss)
 | either {a dx i j:Addr} {r s:RT} (h:H a=some (.ins c.either dx [("one",.ref i),("other",.ref j)])) (hi:ZM c K H i r) (hj:ZM c K H j s):ZM c K H a (.either r s)
 | both {a dx i j:Addr} {r s:RT} (h:H a=some (.ins c.both dx [("one",.ref i),("other",.ref j)])) (hi:ZM c K H i r) (hj:ZM c K H j s):ZM c K H a (.both r s)
 | but {a dx p i:Addr} {ds:List Nat} {r:RT} (h:H a=some (.ins c.but dx [("days",.ref p),("inner",.ref i)])) (hp:Zi K H p (ZR ds)) (hi:ZM c K H i r):ZM c K H a (.but ds r)
theorem ZM.same {c:RC} {K:PySem.W.Frag} {H H':Hp} (s:Zt H H') {a:Addr} {r:RT} (h:ZM c K H a r):ZM c K H' a r:=by
 induction h with
 | always h=>exact .always (s _ _ h)
 | week h hb=>exact .week (s _ _ h) hb
 | span h hx hy _ ih=>exact .span (s _ _ h) hx hy ih
 | each h hn hn2 hp=>exact .each (s _ _ h) hn hn2 (Zi.sameT s hp)
 | either h _ _ i1 i2=>exact .either (s _ _ h) i1 i2
 | both h _ _ i1 i2=>exact .both (s _ _ h) i1 i2
 | but h hp _ ih=>exact .but (s _ _ h) (Zi.sameT s hp) ih
theorem ZaJ (d:Nat):∀ l:List Nat,XX (.int (d:Nat)) (ZR l)=l.contains d
 | []=>rfl
 | x::r=>by
  have ih:=ZaJ d r
  show (Yr (.int ((x:Nat):Int)) (.int ((d:Nat):Int)) || XX (.int ((d:Nat):Int)) (ZR r))=_
  rw [ih,List.contains_cons]
  congr 1
  show (((x:Nat):Int) == ((d:Nat):Int))=(d == x)
  rw [Bool.eq_iff_iff,beq_iff_eq,beq_iff_eq]
  omega
theorem QV (l:List Nat):(ZR l).all Y0=true:=by
 rw [List.all_map];exact List.all_eq_true.mpr fun _ _=>rfl
theorem ZmJ (b k:Nat):(Builtin.bitAnd (((b:Nat):Int) / 2 ^ k) 1 == 1)=(b / 2 ^ k % 2 == 1):=by
 have e:((b:Nat):Int) / 2 ^ k=((b / 2 ^ k:Nat):Int):=by
  rw [Int.natCast_ediv,Int.natCast_pow]
  rfl
 rw [e,PyProof.Rows.bitAnd_pp (Int.natCast_nonneg _) (by decide)]
 have e2:(((b / 2 ^ k:Nat):Int).toNat &&& (1:Int).toNat:Nat)=b / 2 ^ k % 2:=by
  rw [Int.toNat_natCast]
  exact Nat.and_one_is_mod _
 rw [e2,Bool.eq_iff_iff,beq_iff_eq,beq_iff_eq]
 omega
end K1
namespace L2
open PySem PySem.Spec PyProof.Rows
def Vq:Option Int→Int→Int
 | none,y=>y
 | some x,y=>if y > x then y else x
def XM:Option Int→List Int→Option Int
 | b,[]=>b
 | b,y::r=>XM (some (Vq b y)) r
def ZbB (S:Addr) (h:Heap) (b:Option Int):Prop:=∃ (vs:Array Value) (c:Nat),h.get? S=some { cls:=.type "list",dict:=none,data:=.seq vs c,slots:=#[] }∧match b with
 | none=>vs = #[]
 | some x=>∃ t,vs = #[.int x t,.int x t]
def Zhb (d:Value) (b:Option Int) (v:Value):Prop:=match b with
 | none=>v=d
 | some x=>∃ t,v=.int x t
theorem ZmK {prog:Program} {w:World} {A:Around} {R:Result→Shared→Prop} {I:Addr} {fp wr:List Addr} {n:Nat} {P:Nat→Value→Prop} {St:Nat→Heap→Prop} {nm:Str} {d:Value} {g:Nat→Int}
  (W:Walks prog w A.in1 I fp wr n P St) (hg:∀ i v,P i v→∃ t,v=.int (g i) t) {S:Addr} (out:S∉fp) :
  ∀ (l:List Int) (j:Nat) (s:Shared) (b:Option Int),j+l.length=n→(∀ i y,l[i]? = some y→y=g (j+i))→St j s.heap→ZbB S s.heap b →
  (∀ v h' tk,Zhb d (XM b l) v→(∀ a o,a∉wr→a≠S→s.heap.get? a=some o→h'.get? a=some o)→R (.ok (.ret v)) { s with heap:=h',toks:=tk }) →
  codeAny (model prog w) A (.builtin "max.loop" ⟨[.ref I,.none,.ref S],[(nm,d)]⟩) R s:=by
 have out2:S∉wr:=fun z=>out (W.sub _ z)
 have nme:(toString "max" ++ toString ".loop" : String) = "max.loop" := by decide
 intro l
 induction l with
 | nil =>
  intro j s b hj hl st m q
  obtain rfl:j=n:=hj
  obtain ⟨vs,c,e,z⟩:=id m
  apply codeAny_builtin PySem.F.entry_max_loop
  rw [Around.under_plainId PySem.F.plain_max_loop]
  apply wpAny_bind
  apply wpAny_seqItems e rfl
  apply wpAny_bind
  apply wpAny_tryCatch
  apply W.done s _ _ st
  intro h' tk k
  cases b with
  | none =>
   subst z
   apply wpAny_bind
   apply wpAny_rule
   apply wpAny_pure
   exact q d h' tk rfl fun a o h1 _ h3=>k a o h1 h3
  | some x =>
   obtain ⟨t,rfl⟩:=z
   apply wpAny_bind
   refine wpAny_updateSeq (k S _ out2 e) rfl ?_
   apply wpAny_bind
   apply wpAny_letGo
   apply wpAny_pure
   exact q _ _ tk ⟨t,rfl⟩ fun a o h1 h2 h3=>(Heap.get?_update_other _ _ (Ne.symm h2)).trans (k a o h1 h3)
 | cons y l ih =>
  intro j s b hj hl st m q
  obtain ⟨vs,c,e,z⟩:=id m
  have hj2:j < n:=by rw [← hj,List.length_cons];omega
  have ey:y=g j:=hl 0 y rfl
  apply codeAny_builtin PySem.F.entry_max_loop
  rw [Around.under_plainId PySem.F.plain_max_loop]
  apply wpAny_bind
  apply wpAny_seqItems e rfl
  apply wpAny_bind
  apply wpAny_tryCatch
  apply W.item j s _ _ hj2 st
  intro v h' tk pv st' k
  obtain ⟨tv,rfl⟩:=hg j v pv
  have e':=k S _ out2 e
  have next:∀ (h2:Heap),ZbB S h2 (some (Vq b y))→(∀ a o,a≠S→h'.get? a=some o→h2.get? a=some o)→codeAny (model prog w) A (.builtin "max.loop" ⟨[.ref I,.none,.ref S],[(nm,d)]⟩) R { s with heap:=h2,toks:=tk }:=fun h2 m2 k2 =>
   ih (j+1) { s with heap:=h2,toks:=tk } _ (by rw [← hj,List.length_cons];omega) (fun i y' hy=>(hl (i+1) y' hy).trans (by congr 1;omega))
    (W.frame _ _ _ st' fun a ha o ho=>k2 a o (fun z=>out (z ▸ ha)) ho) m2 fun v2 h3 tk2 r k3=>q v2 h3 tk2 r fun a o h1 h2' h3'=>k3 a o h1 h2' (k2 a o h2' (k a o h1 h3'))
  cases b with
  | none =>
   subst z
   show wpAny _ _ (updateSeq S (fun _=>#[.int (g j) tv,.int (g j) tv]) >>= _) _ _ _
   apply wpAny_bind
   refine wpAny_updateSeq e' rfl ?_
   rw [nme]
   apply wpAny_pure
   refine ⟨plainId_quiet PySem.F.plain_max_loop _,next _ ⟨_,_,Heap.get?_update_self _ e' rfl,tv,?_⟩ fun a o h1 h2=>(Heap.get?_update_other _ _ (Ne.symm h1)).trans h2⟩
   rw [ey];rfl
  | some x =>
   obtain ⟨t,rfl⟩:=z
   show wpAny _ _ (tryCatch (holding [.int (g j) tv,.int (g j) tv] (richCompare .Gt (.int (g j) tv) (.int x t) >>= _)) _ >>= _) _ _ _
   apply wpAny_bind
   apply wpAny_tryCatch
   apply wpAny_holding
   apply wpAny_bind
   refine CmpOf.ints_gt (P:=fun i v=>∃ t,v=.int (if i=0 then g j else x) t) (fun i=>if i=0 then g j else x) (fun _ _ z=>z) 0 1 _ _ _ _ _ ⟨_,rfl⟩ ⟨_,rfl⟩ ?_
   apply wpAny_bind
   apply wpAny_holding
   apply wpAny_truthy_bool
   apply wpAny_bind
   apply wpAny_letGo
   apply wpAny_pure
   by_cases gt:g j > x
   ·rw [if_pos (show (fun i j_1:Nat=>decide ((if i=0 then g j else x) > if j_1=0 then g j else x)) 0 1=true from decide_eq_true gt)]
    apply wpAny_bind
    refine wpAny_updateSeq e' rfl ?_
    apply wpAny_bind
    apply wpAny_letGo
    rw [nme]
    apply wpAny_pure
    refine ⟨plainId_quiet PySem.F.plain_max_loop _,next _ ⟨_,_,Heap.get?_update_self _ e' rfl,tv,?_⟩ fun a o h1 h2=>(Heap.get?_update_other _ _ (Ne.symm h1)).trans h2⟩
    rw [show Vq (some x) y=g j by rw [ey];exact if_pos gt]
   ·rw [if_neg (show ¬(fun i j_1:Nat=>decide ((if i=0 then g j else x) > if j_1=0 then g j else x)) 0 1=true from fun z=>gt (of_decide_eq_true z))]
    apply wpAny_bind
    apply wpAny_letGo
    rw [nme]
    apply wpAny_pure
    refine ⟨plainId_quiet PySem.F.plain_max_loop _,next _ ⟨_,_,e',t,?_⟩ fun a o _ h2=>h2⟩
    rw [show Vq (some x) y=x by rw [ey];exact if_neg gt]
theorem ZmL (a v:Value):argsOk "max" ⟨[a],[(Str.ofString "default",v)]⟩:=by unfold argsOk;kernel_rfl
theorem ZmM {X:Cx} {pins:List (Addr×Obj)} {s:Shared} {σ:St} {H:Hp} {Q:VK} {p:Addr} {ns:List Int} {d:Int} {td:Tok} (hc:X.calm=true) (I:Zd X pins σ H s) (hq:Zm X.K H p (ns.map V.int)) (q:Q (.int ((XM none ns).getD d)) H) :
  wpAny (model X.prog X.w) X.A (call (.builtin "max") [.ref p] [(Str.ofString "default",.int d td)]) (EP X pins σ Q) X.xe s:=by
 obtain ⟨its,r',pl,hz⟩:=I.list hq
 have hlen:=r'.length
 obtain ⟨o,n,ho,_⟩:=id pl
 have hne:p≠s.heap.objs.size:=Nat.ne_of_lt (Heap.lt_size ho)
 have nme:(toString "max" ++ toString ".loop" : String) = "max.loop" := by decide
 refine kmb_tree PySem.F.kind_max PySem.F.plain_max PySem.F.entry_max (ZmL _ _) ?_
 show wpAny _ _ (Builtin.Builtins.bindParams "max" ["key","default"] 0 ⟨[],[(Str.ofString "default",.int d td)]⟩ >>= _) _ _ s
 apply wpAny_bind
 refine wpAny_of_eq (show Builtin.Builtins.bindParams "max" ["key","default"] 0 ⟨[],[(Str.ofString "default",.int d td)]⟩=pure [none,some (.int d td)] from rfl) ?_
 apply wpAny_bind
 apply wpAny_pure
 apply wpAny_bind
 refine wpAny_pyIter_list pl.isList ?_
 apply wpAny_bind
 refine wpAny_newObj_type ?_
 rw [nme]
 refine wpAny_pure ⟨plainId_quiet PySem.F.plain_max_loop _,?_⟩
 refine ZmK (fp:=[s.heap.objs.size,p]) (wr:=[s.heap.objs.size]) (g:=fun i=>ns.getD i 0) (Walks.list (A:=X.A.in1) (I.ok.hd hc) _ _ hne its.toArray) ?_ ?_ ns 0 _ none ?_ ?_ ?_ ?_ ?_
 ·intro i v hv
  have hv':its[i]? = some v:=by simpa using hv
  have hi:i < ns.length:=by
   have:=(List.getElem?_eq_some_iff.mp hv').1
   rw [← hlen,List.length_map] at this;exact this
  obtain ⟨w,e1,e2⟩:=r'.get (i:=i) (x:=.int ns[i]) (by rw [List.getElem?_map,List.getElem?_eq_getElem hi];rfl)
  rw [hv'] at e1
  cases e1
  obtain ⟨t,rfl⟩:=e2
  exact ⟨t,by rw [List.getD_eq_getElem?_getD,List.getElem?_eq_getElem hi];rfl⟩
 ·intro hm
  have e1:(s.heap.push { cls:=.type "list_iterator",data:=.fields #[.ref p,.int 0 0] }).objs.size=s.heap.objs.size+1:=Heap.size_push ..
  have lt:=Heap.lt_size ho
  rcases List.mem_cons.mp hm with z | z
  ·have:s.heap.objs.size+1=s.heap.objs.size:=e1.symm.trans z
   omega
  ·have:s.heap.objs.size+1=p:=e1.symm.trans (List.mem_singleton.mp z)
   rw [← this] at lt
   exact absurd lt (Nat.not_lt.mpr (Nat.le_succ _))
 ·rw [List.size_toArray,← hlen,List.length_map,Nat.zero_add]
 ·intro i y hy
  rw [Nat.zero_add,List.getD_eq_getElem?_getD,hy]
  rfl
 ·refine ⟨⟨_,Heap.get?_push_of_some _ (Heap.get?_push_size _ rfl),rfl,rfl⟩,?_⟩
  obtain ⟨o2,e2,r2⟩:=pl.isList
  exact ⟨o2,Heap.get?_push_of_some _ (Heap.get?_push_of_some _ e2),r2⟩
 ·exact ⟨_,_,Heap.get?_push_size _ rfl,rfl⟩
 ·intro v h' tk r k
  have k2:∀ b o,s.heap.get? b=some o→h'.get? b=some o:=fun b o e=>k b o (fun z=>by
    have e1:=Heap.lt_size e
    rw [List.mem_singleton.mp z] at e1
    exact absurd e1 (Nat.lt_irrefl _)) (fun z=>by
    have e1:=Heap.lt_size (Heap.get?_push_of_some { cls:=.type "list_iterator",data:=.fields #[.ref p,.int 0 0] } e)
    rw [z] at e1
    exact absurd e1 (Nat.lt_irrefl _)) (Heap.get?_push_of_some _ (Heap.get?_push_of_some _ e))
  have hv:∃ tv,v=.int ((XM none ns).getD d) tv:=by
   cases e:XM none ns with
   | none=>rw [e] at r;exact ⟨td,r⟩
   | some x=>rw [e] at r;exact r
  obtain ⟨tv,rfl⟩:=hv
  exact ⟨.int _,H,I.kept (t':=tk) k2,⟨_,rfl⟩,q⟩
def ZmN (K:PySem.W.Frag) (t tk:TA):TE:=fun σ H Q=>t σ H fun vs H1=>tk σ H1 fun zs H2=>∃ (p:Addr) (ns:List Int) (d:Int),vs=[.ref p]∧zs=[.int d]∧Zm K H2 p (ns.map V.int)∧Q (.int ((XM none ns).getD d)) H2
theorem ZmO {X:Cx} {e:Expr} {es:List Expr} {kws:List Keyword} {t tk:TA} {p pos:Pos} (hc:X.calm=true) (hg:Gl X "max") (hm:X.mg "max" = none) (hv:bootBuiltins "max" = some (.builtin "max"))
  (ha:PA X (e::es) t) (hkw:PK X kws tk) (hall:(backToKw pos (keywordEach kws X.env)).all (·.1.isSome)=true:=by rfl) (hks:(backToKw pos (keywordEach kws X.env)).filterMap (·.1)=[Str.ofString "default"]:=by rfl)
  (he:starEach (e::es) X.env=(false,eval e X.env)::starEach es X.env:=by rfl)
  (hpl:(backTo pos (starEach (e::es) X.env)).any (·.1)=false:=by rfl) (hpk:(backToKw pos (keywordEach kws X.env)).any (·.1.isNone)=false:=by rfl) :
  PE X (.Call (.Name "max" p) (e::es) kws pos) (ZmN X.K t tk):=by
 intro pins s σ H Q I h
 refine wpAny_Call_Name_kw (UQ I hg hm hv ?_ (by decide) (by decide))
 refine callWith_builtin_kwB hpl hpk (evalArgs_kw2 hall (ZK (ha pos pins s σ H _ I h) fun us s1 ⟨vs,H1,I1,r,q⟩=>?_) he)
 refine ZK (hkw pos pins s1 σ H1 _ I1 q) fun ws s2 ⟨zs,H2,I2,rz,q2⟩=>?_
 rw [hks]
 obtain ⟨l,ns,d,rfl,rfl,hq,q3⟩:=q2
 obtain ⟨u,rfl,rx⟩:=XG r
 cases rx
 obtain ⟨u,rfl,td,rfl⟩:=XG rz
 exact ZmM hc I2 hq q3
end L2
namespace L2
open PySem
abbrev Vr (xs:Array Nat):Prop:=xs.toList.Pairwise (· < ·)
theorem ZbC {xs:Array Nat} (h:Vr xs) {i k d:Nat} (hik:i < k) (hk:k < xs.size):xs.getD i d < xs.getD k d:=by
 have q:=List.pairwise_iff_getElem.mp h i k (by simpa using Nat.lt_trans hik hk) (by simpa using hk) hik
 simpa [Array.getD,Nat.lt_trans hik hk,hk] using q
theorem ZdW {xs:Array Nat} {j:Nat} (h:Vr xs):∀ (n lo hi:Nat),hi - lo≤n→lo≤hi→hi≤xs.size→(∀ i,i < lo→xs.getD i j < j)→(∀ i,hi≤i→i < xs.size→j≤xs.getD i j) →
  SetTable.below.go xs j n lo hi≤xs.size∧(∀ i,i < SetTable.below.go xs j n lo hi→xs.getD i j < j)∧∀ i,SetTable.below.go xs j n lo hi≤i→i < xs.size→j≤xs.getD i j
 | 0,lo,hi,hn,hl,hs,h1,h2=>by
  have e:lo=hi:=by omega
  subst e
  exact ⟨hs,h1,h2⟩
 | n+1,lo,hi,hn,hl,hs,h1,h2=>by
  unfold SetTable.below.go
  by_cases c:lo < hi
  ·rw [if_pos c]
   dsimp only
   by_cases d:xs.getD ((lo+hi) / 2) j < j
   ·rw [if_pos d]
    refine ZdW h n _ hi (by omega) (by omega) hs (fun i hi'=>?_) h2
    by_cases e:i=(lo+hi) / 2
    ·rw [e];exact d
    ·exact Nat.lt_trans (ZbC h (show i < (lo+hi) / 2 by omega) (by omega)) d
   ·rw [if_neg d]
    refine ZdW h n lo _ (by omega) (by omega) (by omega) h1 (fun i hi' hz=>?_)
    by_cases e:i=(lo+hi) / 2
    ·rw [e];omega
    ·have:=ZbC (d:=j) h (show (lo+hi) / 2 < i by omega) hz
     omega
  ·rw [if_neg c]
   have e:lo=hi:=by omega
   subst e
   exact ⟨hs,h1,h2⟩
theorem ZdX {xs:Array Nat} {j:Nat} (h:Vr xs):SetTable.below xs j≤xs.size∧(∀ i,i < SetTable.below xs j→xs.getD i j < j)∧∀ i,SetTable.below xs j≤i→i < xs.size→j≤xs.getD i j :=
 ZdW h _ 0 _ (by omega) (Nat.zero_le _) (Nat.le_refl _) (fun i z=>absurd z (Nat.not_lt_zero _)) (fun i a b=>by omega)
theorem ZmP {xs:Array Nat} {j:Nat} (h:Vr xs) (hn:xs[SetTable.below xs j]?≠some j):Vr (SetTable.insertAt xs (SetTable.below xs j) j):=by
  obtain ⟨hb,h1,h2⟩:=ZdX (j:=j) h
  show List.Pairwise _ _
  rw [SetTable.toList_insertAt]
  have get:∀ i (hi:i < xs.size),xs.getD i j=xs.toList[i]'(by simpa using hi):=fun i hi=>by simp [Array.getD,hi]
  have far:∀ b∈xs.toList.drop (SetTable.below xs j),j < b:=fun b hb'=>by
    obtain ⟨i,hi,rfl⟩:=List.getElem_of_mem hb'
    rw [List.length_drop] at hi
    have hz:SetTable.below xs j+i < xs.size:=by simpa using (show SetTable.below xs j+i < xs.toList.length by omega)
    rw [List.getElem_drop,← get _ hz]
    have g:=h2 _ (Nat.le_add_right (SetTable.below xs j) i) hz
    refine Nat.lt_of_le_of_ne g fun e=>?_
    by_cases i0:i=0
    · subst i0
      refine hn ?_
      rw [Nat.add_zero] at e hz
      rw [Array.getElem?_eq_getElem hz]
      have:=get _ hz
      rw [← e] at this
      simpa using this.symm
    · have l:=ZbC (d:=j) h (show SetTable.below xs j < SetTable.below xs j+i by omega) hz
      have g0:=h2 _ (Nat.le_refl _) (show SetTable.below xs j < xs.size by omega)
      omega
  refine List.pairwise_append.mpr ⟨h.sublist (List.take_sublist _ _),List.pairwise_cons.mpr ⟨far,h.sublist (List.drop_sublist _ _)⟩,fun a ha b hb'=>?_⟩
  have ha':a < j:=by
    obtain ⟨i,hi,rfl⟩:=List.getElem_of_mem ha
    rw [List.length_take] at hi
    have hz : i < xs.size := by have : xs.toList.length=xs.size := by simp
                                omega
    rw [List.getElem_take,← get _ hz]
    exact h1 i (by omega)
  rcases List.mem_cons.mp hb' with rfl | hb'
  · exact ha'
  · exact Nat.lt_trans ha' (far b hb')
structure U0 (t:SetTable):Prop where
 du:t.dummies = #[]
 ri:t.plain=true→Vr t.place
theorem Zhc (j:Nat):SetTable.has #[] j=false:=rfl
theorem ZmQ {t:SetTable} {j:Nat} (h:t.slot j=.empty):t.place[SetTable.below t.place j]?≠some j:=by
 intro e
 unfold SetTable.slot at h
 dsimp only at h
 rw [e] at h
 simp at h
theorem ZmR {t:SetTable} (ht:U0 t) {j:Nat}:t.slot j≠.dummy:=by
 unfold SetTable.slot
 rw [ht.du]
 dsimp only
 split
 ·intro z;cases z
 ·rw [Zhc]
  intro z;cases z
theorem Zhd {t:SetTable} (ht:U0 t) {g:Nat→Int} {h:Int}:∀ (n:Nat) (p:SetTable.Probe) (j:Nat) (d:Option Nat),p.dummy=none→SetTable.probe.go t g h n p=some (.empty j d)→t.slot j=.empty∧d=none
 | 0,p,j,d,_,e=>by cases e
 | n+1,p,j,d,hp,e=>by
  unfold SetTable.probe.go at e
  cases c:t.slot p.j with
  | empty =>
   rw [c] at e
   injection e with e
   injection e with e1 e2
   subst e1
   exact ⟨c,e2.symm.trans hp⟩
  | dummy=>exact absurd c (ZmR ht)
  | live i =>
   rw [c] at e
   dsimp only at e
   split at e
   ·injection e with e;cases e
   ·refine Zhd ht n _ j d ?_ e
    unfold SetTable.advance
    split
    ·exact hp
    ·exact hp
theorem ZmS {t:SetTable} (ht:U0 t) (es:Array (Int×Value)) (h:Int) (x:Value):U0 (layNew t es h x).2.1∧(layNew t es h x).2.1.led=t.led:=by
 unfold layNew
 cases c:t.freeSlot h with
 | none=>exact ⟨⟨rfl,fun z=>by cases z⟩,rfl⟩
 | some q =>
  obtain ⟨j,wd⟩:=q
  have hj:t.slot j=.empty:=by
   unfold SetTable.freeSlot at c
   split at c
   ·rename_i j' d' e'
    obtain ⟨e1,rfl⟩:=Zhd ht _ _ _ _ rfl e'
    injection c with c
    injection c with c1 c2
    rw [← c1]
    exact e1
   ·cases c
  dsimp only
  unfold SetTable.orStandIn
  split
  ·refine ⟨⟨?_,fun z=>?_⟩,rfl⟩
   ·show (if SetTable.has t.dummies j=true then _ else t.dummies) = #[]
    rw [ht.du,Zhc]
    rfl
   ·exact ZmP (ht.ri z) (ZmQ hj)
  ·exact ⟨⟨rfl,fun z=>by cases z⟩,rfl⟩
theorem ZmT {t:SetTable} (ht:U0 t) (es:Array (Int×Value)) (n:Nat):U0 (relayAll t es n).2.1∧(relayAll t es n).2.1.led=t.led:=by
 unfold relayAll
 cases c:t.relaid (es.map (·.1)) n with
 | none=>exact ⟨⟨rfl,fun z=>by cases z⟩,rfl⟩
 | some q =>
  obtain ⟨t',ord⟩:=q
  dsimp only
  split
  ·unfold SetTable.relaid SetTable.laid at c
   cases c2:SetTable.layClean (SetTable.sizeAbove n - 1) (es.map (·.1)) with
   | none=>rw [c2] at c;cases c
   | some ow =>
    rw [c2] at c
    injection c with c
    injection c with c1 c3
    subst c1
    refine ⟨⟨rfl,fun _=>?_⟩,rfl⟩
    show List.Pairwise _ _
    rw [List.toList_toArray]
    rw [List.map_filterMap]
    refine List.Pairwise.sublist (l₂:=List.range (SetTable.sizeAbove n - 1+1)) ?_ List.pairwise_lt_range
    have key:∀ l:List Nat,List.Sublist (l.filterMap fun j=>Option.map (fun p:Nat×Nat=>p.1) ((ow.getD j none).map fun y=>(j,y))) l:=by
     intro l
     induction l with
     | nil=>exact .slnil
     | cons a r ih =>
      rw [List.filterMap_cons]
      cases ow.getD a none with
      | none=>exact ih.cons _
      | some y=>exact ih.cons_cons _
    exact key _
  ·exact ⟨⟨rfl,fun z=>by cases z⟩,rfl⟩
end L2
namespace L2
open PySem
def YQ (e:Int×Value):Int:=match e.2 with
 | .int k _=>k
 | _=>0
section
variable {prog:Program} {w:World}
theorem Zhe {l:List (Int×Value)} (h:ElemsOf (intKind prog w) l) {e:Int×Value} (he:e∈l):∃ t,e.2=.int (YQ e) t:=by
 obtain ⟨⟨k,hk,_⟩,_⟩:=h e he
 obtain ⟨t,q⟩:=Value.isInt_shape (k:=k) (v:=e.2) hk
 refine ⟨t,?_⟩
 unfold YQ
 rw [q]
theorem ZmU {l:List (Int×Value)} (h:ElemsOf (intKind prog w) l) {e:Int×Value} (he:e∈l) {k:Int} (q:(intKind prog w).is k e.2=true):YQ e=k:=by
 obtain ⟨t,q⟩:=Value.isInt_shape (k:=k) (v:=e.2) q
 unfold YQ
 rw [q]
def YR (prog:Program) (w:World) (h:Heap) (a:Addr) (ks:List Int):Prop:=∃ (o:Obj) (es:Array (Int×Value)) (ep:Nat) (t:SetTable),
 h.get? a=some o∧o.ExactSet∧o.data=.set es ep t∧ElemsOf (intKind prog w) es.toList∧t.fits es.size=true∧U0 t∧(w.params.followText "set-order" = false→t.led=true) ∧
 (es.toList.map YQ).Nodup∧(∀ k,k∈es.toList.map YQ↔k∈ks)∧es.size≤ks.length
theorem YR.keep {h h':Heap} {a:Addr} {ks:List Int} (x:YR prog w h a ks) (k:∀ o,h.get? a=some o→h'.get? a=some o):YR prog w h' a ks :=
 let ⟨o,es,ep,t,ho,r⟩:=x
 ⟨o,es,ep,t,k _ ho,r⟩
theorem Zhf {h:Heap} {a:Addr} {o:Obj} {es es':Array (Int×Value)} {ep:Nat} {t t':SetTable} {ks:List Int} (ho:h.get? a=some o) (hex:o.ExactSet) (hd:o.data=.set es ep t)
  (hel:ElemsOf (intKind prog w) es'.toList) (hf:t'.fits es'.size=true) (ht:U0 t') (hl:w.params.followText "set-order" = false→t'.led=true) (nd:(es'.toList.map YQ).Nodup)
  (mem:∀ k,k∈es'.toList.map YQ↔k∈ks) (sz:es'.size≤ks.length) :
  (h.update a (Obj.putSet es' t')).get? a=some { o with data:=.set es' (ep+1) t' }∧YR prog w (h.update a (Obj.putSet es' t')) a ks:=by
 have g:(h.update a (Obj.putSet es' t')).get? a=some { o with data:=.set es' (ep+1) t' }:=by
  have q:=Heap.get?_update_self (Obj.putSet es' t') ho (by rw [putSet_of es' t' hd];rfl)
  rw [putSet_of es' t' hd] at q;exact q
 exact ⟨g,_,es',ep+1,t',g,hex,rfl,hel,hf,ht,hl,nd,mem,sz⟩
theorem ZmV {es es':Array (Int×Value)} (p:List.Perm es'.toList es.toList):es'.size=es.size:=by
 have:=p.length_eq
 simpa using this
theorem ZmW {A:Around} {E:Value→Shared→Prop} {s:Shared} {a:Addr} {ks:List Int} {k:Int} {tk:Tok} {Q:Bool→Shared→Prop} (hS:YR prog w s.heap a ks) (hr:ks.length+1 < scanBound)
  (h:∀ b h',Heap.SameBut a s.heap h'→YR prog w h' a (ks++[k])→Q b { s with heap:=h' }):wpAny (model prog w) A (setAddHashed a (.int k tk) ((intKind prog w).hash k)) Q E s:=by
 obtain ⟨o,es,ep,t,ho,hex,hd,hel,hf,ht,hl,nd,mem,sz⟩:=hS
 have hz:es.size < scanBound:=by omega
 have hkey:(intKind prog w).is k (.int k tk)=true:=intKind_is _ _ _ _
 unfold setAddHashed setAddHashedIn
 refine wpAny_holding (wpAny_bind (wpAny_setState_of ho hd hf ?_))
 dsimp only;rw [byScan_of (knd:=intKind prog w) (x:=.int k tk) rfl hz hel]
 simp only [↓reduceIte];unfold setAddByScan
 refine wpAny_bind (wpAny_bind (wpAny_rule (wpAny_bind (wpAny_setScan_of hkey ho hd hf hel ?_))))
 cases hc:List.findIdx? (fun e=>(intKind prog w).is k e.2) es.toList with
 | some j =>
  dsimp only
  obtain ⟨hj,hp,_⟩:=List.findIdx?_eq_some_iff_getElem.mp hc
  have hk:k∈es.toList.map YQ:=List.mem_map.mpr ⟨es.toList[j],List.getElem_mem hj,ZmU hel (List.getElem_mem hj) hp⟩
  have q:=h false s.heap (Heap.SameBut.refl a s.heap) ⟨o,es,ep,t,ho,hex,hd,hel,hf,ht,hl,nd,fun k'=>by
   rw [List.mem_append,List.mem_singleton,mem k']
   exact ⟨.inl,fun z=>z.elim id fun e=>by rw [e];exact (mem k).mp hk⟩,by rw [List.length_append];omega⟩
  exact wpAny_pure (wpAny_pure q)
 | none =>
  dsimp only
  have hk:k∉es.toList.map YQ:=fun z=>by
   obtain ⟨e,he,ek⟩:=List.mem_map.mp z
   have q:=List.findIdx?_eq_none_iff.mp hc e he
   obtain ⟨te,ee⟩:=Zhe hel he
   rw [ee,ek,intKind_is] at q
   cases q
  have gw:∀ (b:Bool) {s1:Shared} {Q':Unit→Shared→Prop},Q' () s1→wpAny (model prog w) A (match b with | true=>rule "set.scan.the-table-gave-way" | false=>pure ()) Q' E s1 :=
   fun b s1 Q' q=>by
    cases b
    ·exact wpAny_pure q
    ·exact wpAny_rule q
  have pm:=layNew_perm t es ((intKind prog w).hash k) (.int k tk);have fm:=layNew_fits t es ((intKind prog w).hash k) (.int k tk)
  obtain ⟨tm,lm⟩:=ZmS ht es ((intKind prog w).hash k) (.int k tk)
  generalize layNew t es ((intKind prog w).hash k) (.int k tk)=L at pm fm tm lm ⊢
  obtain ⟨es1,t1,wd,gv⟩:=L
  dsimp only at pm fm tm lm ⊢;rw [Array.toList_push] at pm
  have hel1:ElemsOf (intKind prog w) es1.toList:=(hel.push hkey rfl).perm pm
  have km:List.Perm (es1.toList.map YQ) (es.toList.map YQ++[k]):=by
   have:=pm.map YQ
   rw [List.map_append] at this
   exact this
  have nd1:(es1.toList.map YQ).Nodup:=km.nodup_iff.mpr (List.nodup_append.mpr ⟨nd,by simp,fun a ha b hb=>by
   rw [List.mem_singleton] at hb
   subst hb
   intro e
   subst e
   exact hk ha⟩)
  have mem1:∀ k',k'∈es1.toList.map YQ↔k'∈ks++[k]:=fun k'=>by
   rw [km.mem_iff,List.mem_append,List.mem_append,mem k']
  have sz1:es1.size=es.size+1:=by
   have:=pm.length_eq
   simpa using this
  have z1:es1.size≤(ks++[k]).length:=by rw [List.length_append,List.length_singleton];omega
  have l1:w.params.followText "set-order" = false→t1.led=true:=fun z=>lm.trans (hl z)
  refine wpAny_bind (gw _ ?_)
  have tail:∀ {R:Option Bool→Shared→Prop},(∀ h',Heap.SameBut a s.heap h'→YR prog w h' a (ks++[k])→R (some true) { s with heap:=h' }) →
    wpAny (model prog w) A (do
     storeSet a es1 t1
     if (!wd && t1.tooFull)=true then do
      (match (relayAll t1 es1 (SetTable.grown es1.size)).2.2 with | true=>rule "set.scan.the-table-gave-way" | false=>pure ())
      storeSet a (relayAll t1 es1 (SetTable.grown es1.size)).1 (relayAll t1 es1 (SetTable.grown es1.size)).2.1
      pure (some true)
     else pure (some true)) R E s:=by
   intro R hR
   refine wpAny_bind (wpAny_storeSet_of ho hd ?_ (fits_of_scanBound (by omega)))
   obtain ⟨g1,i1⟩:=Zhf (prog:=prog) (w:=w) ho hex hd hel1 fm tm l1 nd1 mem1 z1
   have b1:=Heap.SameBut.update s.heap a (Obj.putSet es1 t1)
   split
   ·have p2:=relayAll_perm t1 es1 (SetTable.grown es1.size);have f2:=relayAll_fits t1 es1 (SetTable.grown es1.size)
    obtain ⟨t2,l2⟩:=ZmT tm es1 (SetTable.grown es1.size)
    generalize relayAll t1 es1 (SetTable.grown es1.size)=Y at p2 f2 t2 l2 ⊢
    obtain ⟨es2,t3,gv2⟩:=Y
    dsimp only at p2 f2 t2 l2 ⊢
    have s2:=ZmV p2
    refine wpAny_bind (gw _ (wpAny_bind (wpAny_storeSet_of g1 rfl ?_ (fits_of_scanBound (by omega)))))
    obtain ⟨_,i2⟩:=Zhf (prog:=prog) (w:=w) (ks:=ks++[k]) g1 hex rfl (hel1.perm p2) f2 t2 (fun z=>l2.trans (l1 z)) ((p2.map YQ).nodup_iff.mpr nd1) (fun k'=>by rw [(p2.map YQ).mem_iff];exact mem1 k') (by omega)
    exact wpAny_pure (hR _ (b1.trans (Heap.SameBut.update _ a _)) i2)
   ·exact wpAny_pure (hR _ b1 i1)
  split
  ·refine wpAny_bind ?_
   rw [hashByValue_scannable 8 (show Value.scannable (.int k tk)=true from rfl)]
   refine wpAny_pure ?_
   show wpAny _ _ _ _ _ _
   exact tail fun h' hb hi=>wpAny_pure (h true h' hb hi)
  ·refine wpAny_bind (wpAny_pure ?_)
   exact tail fun h' hb hi=>wpAny_pure (h true h' hb hi)
end
end L2
namespace L2
open PySem PySem.Spec PyProof.Rows
section
variable {prog:Program} {w:World} {A:Around} {R:Result→Shared→Prop} {I:Addr} {fp wr:List Addr} {G:Array GenState→Array GenState→Prop} {n:Nat} {P:Nat→Value→Prop} {St:Nat→Shared→Prop}
theorem ZmX (W:WalksS prog w A.in1 I fp wr G n P St) (S:Addr) (hSf:S∉fp) (val:Nat→Int) (hval:∀ i v,P i v→∃ t,v=.int (val i) t) (hb:n+1 < scanBound) :
  ∀ (k i:Nat) (s:Shared),n - i=k→i≤n→St i s→YR prog w s.heap S ((List.range i).map val)→(∀ s',Moved (S::wr) G s s'→YR prog w s'.heap S ((List.range n).map val)→R (.ok (.ret .none)) s') →
   codeAny (model prog w) A (.builtin "set.update.loop" ⟨[.ref S,.ref I],[]⟩) R s:=by
 have nw:S∉wr:=fun z=>hSf (W.sub _ z)
 have sb:∀ b∈wr,b∈S::wr:=fun b z=>List.mem_cons_of_mem _ z
 intro k
 induction k with
 | zero =>
  intro i s hk hi st hS hR
  obtain rfl:i=n:=by omega
  refine codeAny_builtin PyProof.Rows.F.entry_set_update_loop ?_
  rw [Around.under_plainId PyProof.Rows.F.plain_set_update_loop _]
  refine wpAny_bind (m:=pyNext (.ref I)) (W.done s _ _ st fun s' hm=>?_)
  exact wpAny_pure (hR s' (hm.mono sb) (hS.keep fun o e=>hm.heap S o nw e))
 | succ k ih =>
  intro i s hk hi st hS hR
  have lt:i < n:=by omega
  refine codeAny_builtin PyProof.Rows.F.entry_set_update_loop ?_
  rw [Around.under_plainId PyProof.Rows.F.plain_set_update_loop _]
  refine wpAny_bind (m:=pyNext (.ref I)) (W.item i s _ _ lt st fun v s' hP st' hm=>?_)
  obtain ⟨tk,rfl⟩:=hval i v hP
  have hS':=hS.keep fun o e=>hm.heap S o nw e
  refine wpAny_bind (m:=holding [Value.int (val i) tk] (setAdd S (.int (val i) tk))) (wpAny_holding ?_)
  unfold setAdd
  refine wpAny_holding (wpAny_bind ((intKind prog w).pyHash (k:=val i) (intKind_is _ _ _ _) ?_))
  refine ZmW (s:={ s' with toks:=s'.toks+1 }) hS' (by rw [List.length_map,List.length_range];omega) fun b h' hsb hi=>?_
  have e:((List.range i).map val)++[val i]=(List.range (i+1)).map val:=by rw [List.range_succ,List.map_append];rfl
  rw [e] at hi
  refine wpAny_pure ⟨plainId_quiet PyProof.Rows.F.plain_set_update_loop _,ih (i+1) _ (by omega) lt (W.frame _ s' _ _ st' (Nat.le_succ _) fun b hb o e=>?_) hi fun s'' hm'' hS''=>?_⟩
  ·rw [hsb.2 b (fun z:b=S=>hSf (by rw [← z];exact hb))];exact e
  ·refine hR s'' (Moved.trans W.gtrans ((hm.mono sb).then_heap (Nat.le_succ _) fun b o hb e=>?_) hm'') hS''
   rw [hsb.2 b (fun z:b=S=>hb (by rw [z];exact List.mem_cons_self))];exact e
end
end L2
namespace L2
open PySem
theorem ZdY {α:Type}:∀ (l:List α) (i:Nat) (x:α),l[i]? = some x→List.Perm (x::l.eraseIdx i) l
 | [],i,x,h=>by cases h
 | a::r,0,x,h=>by cases h;exact .refl _
 | a::r,i+1,x,h=>(List.Perm.swap a x _).trans ((ZdY r i x h).cons a)
theorem Zhg {α:Type} (f:Nat→Nat):∀ (n k:Nat) (l:List α) (out:Array α),l.length=n→List.Perm (pickOrder.go f n k l out).toList (out.toList++l)
 | 0,k,l,out,h=>by
  cases l with
  | nil=>unfold pickOrder.go;rw [List.append_nil]
  | cons a r=>cases h
 | n+1,k,l,out,h=>by
  unfold pickOrder.go
  have hl:f k % l.length < l.length:=Nat.mod_lt _ (by omega)
  rw [List.getElem?_eq_getElem hl]
  dsimp only
  have p:=ZdY l _ _ (List.getElem?_eq_getElem hl)
  refine (Zhg f n (k+1) _ _ ?_).trans ?_
  ·have:=p.length_eq
   rw [List.length_cons] at this
   omega
  ·rw [Array.toList_push,List.append_assoc]
   exact List.Perm.append_left _ p
theorem ZdZ {α:Type} (f:Nat→Nat) (xs:Array α):List.Perm (pickOrder f xs).toList xs.toList:=by
 have:=Zhg f xs.size 0 xs.toList #[] (by simp)
 rw [show (#[]:Array α).toList++xs.toList=xs.toList from rfl] at this
 exact this
section
variable {prog:Program} {w:World} {A:Around} {E:Value→Shared→Prop} {s:Shared}
theorem ZmY {M:Model} {src:Source} {n:Nat} {Q:Nat→Shared→Prop} (hn:n≠0) (h:∀ i d,i < n→Q i { s with drawn:=d }):wpAny M A (choose src n) Q E s:=fun Γ p hΓ=>by
 show Sem.wp M Γ (Sem.choose src n Sem.pure) _ _ p s
 unfold Sem.wp
 refine ⟨hn,?_⟩
 unfold Sem.wp
 exact h _ _ (Nat.mod_lt _ (Nat.pos_of_ne_zero hn))
theorem Zhh {M:Model} {α:Type}:∀ (n:Nat) (xs:List α) (s:Shared) {Q:List α→Shared→Prop},xs.length=n→(∀ ys d,List.Perm ys xs→Q ys { s with drawn:=d })→wpAny M A (drawOrder n xs) Q E s
 | 0,xs,s,Q,hl,h=>by
  cases xs with
  | nil=>exact wpAny_pure (h [] s.drawn .nil)
  | cons a r=>cases hl
 | n+1,xs,s,Q,hl,h=>by
  cases xs with
  | nil=>cases hl
  | cons a r =>
   unfold drawOrder
   refine wpAny_bind (ZmY (by simp) fun i d hi=>?_)
   rw [List.getElem?_eq_getElem hi]
   dsimp only
   have p:=ZdY (a::r) _ _ (List.getElem?_eq_getElem hi)
   refine wpAny_bind (Zhh n _ _ (by have:=p.length_eq;rw [List.length_cons] at this;omega) fun ys d' hp=>?_)
   exact wpAny_pure (h _ d' ((hp.cons _).trans p))
def Xy (h:Heap) (I:Addr) (f:Value) (i:Nat) (p n ep:Nat):Prop:=∃ o,h.get? I=some o∧o.cls=.type "set_iterator" ∧ o.data=.fields #[f,.int i 0,.ref p,.int n 0,.int ep 0]
theorem Xy.ty {I p n ep i:Nat} {f:Value} (x:Xy s.heap I f i p n ep):s.TypeIs (.ref I) "set_iterator" := let ⟨o,ho,hc,_⟩:=x;⟨o,ho,hc⟩
def X8 (h:Heap) (p ep:Nat) (es:Array (Int×Value)) (t:SetTable):Prop:=∃ o,h.get? p=some o∧o.ExactSet∧o.data=.set es ep t∧t.fits es.size=true
theorem Vs:Slot "set_iterator" "__next__" "set_iterator.__next__" := .of (owner := "set_iterator") (n := "__next__") (by rw [typeLookup_type,builtinLookup_eq_fast];kernel_rfl) (by decide +kernel) (by decide +kernel) (by decide +kernel) (by first | exact .inl (by decide +kernel) | exact .inr (by decide +kernel)) (by rw [isSubtype_type];kernel_rfl)
theorem ZbD:entryFor table "set_iterator.__next__" = some Builtin.«set_iterator.__next__»:=entryFor_of_tree (by kernel_rfl)
theorem ZbE (a:Value):argsOk "set_iterator.__next__" ⟨[a],[]⟩:=by unfold argsOk;kernel_rfl
theorem ZmZ:entryFor table "set.__iter__" = some Builtin.«frozenset.__iter__»:=entryFor_alias (id' := "frozenset.__iter__") (by kernel_rfl) rfl (by decide +kernel) (by kernel_rfl)
theorem Zhi:typeLookup (.type "set_iterator") "__next__" = pure (some (.builtin "set_iterator.__next__")):=Vs.lookup
theorem Zm0 {p ep:Nat} {es:Array (Int×Value)} {t:SetTable} {Q:Value→Shared→Prop} (hS:X8 s.heap p ep es t)
  (hq:(w.params.followText "set-order" = true∨(t.plain=true∨es.size≤1))→Q (.ref s.heap.objs.size) { s with heap:=s.heap.push { cls:=.type "set_iterator",data:=.fields #[.int 0 0,.int 0 0,.ref p,.int es.size 0,.int ep 0] } })
  (hd:∀ (ys:List Nat) (d:Drawn),List.Perm ys (List.range es.size)→Q (.ref (s.heap.objs.size+1)) { s with heap:=(s.heap.push { cls:=.type "tuple",data:=.seq (ys.map fun i=>rawInt (i:Nat)).toArray }).push { cls:=.type "set_iterator",data:=.fields #[.ref s.heap.objs.size,.int 0 0,.ref p,.int es.size 0,.int ep 0] },drawn:=d })
  (hz:es.size≤sizeLine):wpAny (model prog w) A (pyIter (.ref p)) Q E s:=by
 obtain ⟨o,ho,hex,hdt,hf⟩:=hS
 have hT:s.TypeIs (.ref p) "set" := ⟨o,ho,hex.1⟩
 refine wpAny_pyIter_slot hT F.slot_set_iter (wpAny_call_entry F.slot_set_iter hT ZmZ ?_ (F.args_set_iter_1 _))
 unfold Builtin.«frozenset.__iter__»
 refine wpAny_bind (m:=Builtin.Frozenset.slot0 "__iter__" _) (wpAny_pure ?_)
 refine wpAny_bind (m:=Builtin.Frozenset.sizeOf p) ?_
 unfold Builtin.Frozenset.sizeOf setEntries
 refine wpAny_bind (wpAny_bind (wpAny_setState_of ho hdt hf (wpAny_pure (wpAny_pure ?_))))
 unfold setDrawn setsByText
 refine wpAny_bind (wpAny_bind (wpAny_setState_of ho hdt hf (wpAny_bind (wpAny_bind (wpAny_askSetting (wpAny_pure (wpAny_pure ?_)))))))
 have low:∀ {f:Value} {h2:Heap} {d:Drawn},h2.get? p=some o→Q (.ref h2.objs.size) { s with heap:=h2.push { cls:=.type "set_iterator",data:=.fields #[f,.int 0 0,.ref p,.int es.size 0,.int ep 0] },drawn:=d } →
   wpAny (model prog w) A.in1 (do
    let ep' ← setEpoch p
    let it ← newFields "set_iterator" [f,rawInt 0,Value.ref p,rawInt (es.size:Nat),rawInt (ep':Nat)]
    ret it) (fun fin s'=>∃ v,fin=Fin.done (Flow.ret v)∧∃ T' r,s'.TypeIs v T'∧typeLookup (Value.type T') (Str.ofString "__next__")=pure (some r)∧Q v s') E { s with heap:=h2,drawn:=d }:=fun {f h2 d} g q=>by
  refine wpAny_bind (wpAny_setEpoch_of (s:={ s with heap:=h2,drawn:=d }) g hdt hf ?_)
  exact wpAny_bind (wpAny_newObj_type (wpAny_pure ⟨_,rfl,"set_iterator",_,⟨_,Heap.get?_push_size _ rfl,rfl⟩,Zhi,q⟩))
 refine wpAny_ite_split (fun c=>?_) (fun c=>?_)
 ·refine wpAny_bind (Zhh es.size _ _ (by simp) fun ys d hp=>?_)
  have hy:ys.length=es.size:=by have:=hp.length_eq;simpa using this
  refine wpAny_bind (m:=newTuple _) (wpAny_newObj_type ?_ (by show (ys.map fun i=>rawInt (i:Nat)).toArray.size≤sizeLine;rw [List.size_toArray,List.length_map,hy];exact hz))
  have q:=hd ys d hp
  have e:s.heap.objs.size+1=(s.heap.push { cls:=.type "tuple",data:=.seq (ys.map fun i=>rawInt (i:Nat)).toArray }).objs.size:=(Heap.size_push _ _).symm
  rw [e] at q
  exact low (Heap.get?_push_of_some _ ho) q
 ·refine wpAny_bind (wpAny_pure (low (d:=s.drawn) ho (hq ?_)))
  have c':¬ (!w.params.followText "set-order" && (!t.plain && decide (es.size > 1)))=true:=c
  cases h1:w.params.followText "set-order" with
  | true=>exact .inl rfl
  | false =>
   right
   cases h2:t.plain with
   | true=>exact .inl rfl
   | false =>
    right
    rw [h1,h2] at c'
    simp at c'
    exact c'
end
end L2
namespace L2
open PySem
section
variable {prog:Program} {w:World} {A:Around} {E:Value→Shared→Prop} {s:Shared}
theorem Zm1 {h:Heap} {I p n ep i:Nat} {f g:Value} (x:Xy h I f i p n ep) :
  Xy ((h.update I (Obj.mapFields (·.setIfInBounds 0 g))).update I (Obj.mapFields (·.setIfInBounds 1 (rawInt ((i:Int)+1))))) I g (i+1) p n ep:=by
 obtain ⟨o,ho,hc,hd⟩:=x
 have d1:=Obj.data_mapFields hd (·.setIfInBounds 0 g)
 have g1:=Heap.get?_update_self (Obj.mapFields (·.setIfInBounds 0 g)) ho (Obj.isFreed_of_fields d1)
 have d2:=Obj.data_mapFields d1 (·.setIfInBounds 1 (rawInt ((i:Int)+1)))
 refine ⟨_,Heap.get?_update_self _ g1 (Obj.isFreed_of_fields d2),(Obj.cls_mapFields ..).trans ((Obj.cls_mapFields ..).trans hc),?_⟩
 rw [d2]
 simp [rawInt]
theorem Zhj {I p ep i slot nx:Nat} {es:Array (Int×Value)} {t:SetTable} {x:Value} {Q:Option Value→Shared→Prop} (hI:Xy s.heap I (.int slot 0) i p es.size ep) (hS:X8 s.heap p ep es t)
  (hN:∀ (A':Around) (E':Value→Shared→Prop) (Q':Option (Value×Nat)→Shared→Prop),Q' (some (x,nx)) s→wpAny (model prog w) A' (setNext p slot i ep) Q' E' s)
  (hQ:∀ h',Xy h' I (.int nx 0) (i+1) p es.size ep→Heap.SameBut I s.heap h'→Q (some x) { s with heap:=h' }):wpAny (model prog w) A (pyNext (.ref I)) Q E s:=by
 obtain ⟨o,ho,hc,hd⟩:=id hI
 obtain ⟨op,hop,hex,hdp,hf⟩:=hS
 unfold pyNext
 refine wpAny_bind (wpAny_attempt (wpAny_callSpecial?_slot (name:=Str.ofString "__next__") hI.ty Vs (wpAny_call_entry Vs hI.ty ZbD ?_ (ZbE _))))
 unfold Builtin.«set_iterator.__next__»
 refine wpAny_bind (m:=slotArgs "__next__" 0 _) (wpAny_pure ?_)
 refine wpAny_bind (wpAny_fieldsOf ho hd ?_)
 dsimp only
 unfold setEntries
 refine wpAny_bind (wpAny_bind (wpAny_setState_of hop hdp hf (wpAny_pure ?_)))
 rw [if_neg (by simp)]
 simp only [Int.toNat_natCast]
 refine wpAny_bind (hN _ _ _ ?_)
 dsimp only
 refine wpAny_bind (wpAny_setField ho hd (by simp) ?_)
 have d1:=Obj.data_mapFields hd (·.setIfInBounds 0 (rawInt ((nx:Nat):Int)))
 have g1:=Heap.get?_update_self (Obj.mapFields (·.setIfInBounds 0 (rawInt ((nx:Nat):Int)))) ho (Obj.isFreed_of_fields d1)
 refine wpAny_bind (wpAny_setField (s:={ s with heap:=s.heap.update I (Obj.mapFields (·.setIfInBounds 0 (rawInt ((nx:Nat):Int)))) }) g1 d1 (by simp) ?_)
 exact wpAny_pure ⟨_,rfl,wpAny_pure (hQ _ (Zm1 hI) ((Heap.SameBut.update ..).trans (Heap.SameBut.update ..)))⟩
theorem Zhk {I p ep i slot:Nat} {es:Array (Int×Value)} {t:SetTable} {Q:Option Value→Shared→Prop} (hh:A.handled=none) (hI:Xy s.heap I (.int slot 0) i p es.size ep) (hS:X8 s.heap p ep es t)
  (hN:∀ (A':Around) (E':Value→Shared→Prop) (Q':Option (Value×Nat)→Shared→Prop),Q' none s→wpAny (model prog w) A' (setNext p slot i ep) Q' E' s)
  (hQ:∀ h',Heap.ExtBut I s.heap h'→Q none { s with heap:=h' }):wpAny (model prog w) A (pyNext (.ref I)) Q E s:=by
 obtain ⟨o,ho,hc,hd⟩:=id hI
 obtain ⟨op,hop,hex,hdp,hf⟩:=id hS
 unfold pyNext
 refine wpAny_bind (wpAny_attempt (wpAny_callSpecial?_slot (name:=Str.ofString "__next__") hI.ty Vs (wpAny_call_entry Vs hI.ty ZbD ?_ (ZbE _))))
 unfold Builtin.«set_iterator.__next__»
 refine wpAny_bind (m:=slotArgs "__next__" 0 _) (wpAny_pure ?_)
 refine wpAny_bind (wpAny_fieldsOf ho hd ?_)
 dsimp only
 unfold setEntries
 refine wpAny_bind (wpAny_bind (wpAny_setState_of hop hdp hf (wpAny_pure ?_)))
 rw [if_neg (by simp)]
 simp only [Int.toNat_natCast]
 refine wpAny_bind (hN _ _ _ ?_)
 dsimp only
 refine wpAny_bind (wpAny_setField ho hd (by simp) ?_)
 have s1:=Heap.SameBut.update s.heap I (Obj.mapFields (·.setIfInBounds 2 Value.none))
 simp only [newExc,newTuple]
 refine wpAny_bind (wpAny_bind (wpAny_newObj_type (wpAny_bind (m:=firstArgMember _ _) (wpAny_of_eq (a:=Value.none) (by simp only [firstArgMember];rfl) (wpAny_newObj_type ?_ (by size_fits)))) (by size_fits)))
 simp only [raiseNew]
 refine wpAny_bind (wpAny_handled ?_)
 rw [show A.in1.handled=none from hh]
 refine wpAny_bind (wpAny_pure (wpAny_throw ?_));refine wpAny_bind (wpAny_isInstance (T := "StopIteration") (b:=true) ⟨_,Heap.get?_push_size _ rfl,rfl⟩ isSubtype_stop ?_)
 exact wpAny_pure (hQ _ ((s1.extBut.push _).push _))
def QW (h:Heap) (T:Nat) (ys:List Nat):Prop:=∃ o,h.get? T=some o∧o.cls=.type "tuple" ∧ ∃ n,o.data=.seq (ys.map fun i=>rawInt (i:Nat)).toArray n
theorem Zm2 {I p ep i T j:Nat} {es:Array (Int×Value)} {t:SetTable} {ys:List Nat} {e:Int×Value} {Q:Option Value→Shared→Prop} (hI:Xy s.heap I (.ref T) i p es.size ep) (hS:X8 s.heap p ep es t) (hT:QW s.heap T ys)
  (hj:ys[i]? = some j) (he:es[j]? = some e) (hQ:∀ h',Xy h' I (.ref T) (i+1) p es.size ep→Heap.SameBut I s.heap h'→Q (some e.2) { s with heap:=h' }):wpAny (model prog w) A (pyNext (.ref I)) Q E s:=by
 obtain ⟨o,ho,hc,hd⟩:=id hI
 obtain ⟨op,hop,hex,hdp,hf⟩:=id hS
 unfold pyNext
 refine wpAny_bind (wpAny_attempt (wpAny_callSpecial?_slot (name:=Str.ofString "__next__") hI.ty Vs (wpAny_call_entry Vs hI.ty ZbD ?_ (ZbE _))))
 unfold Builtin.«set_iterator.__next__»
 refine wpAny_bind (m:=slotArgs "__next__" 0 _) (wpAny_pure ?_)
 refine wpAny_bind (wpAny_fieldsOf ho hd ?_)
 dsimp only
 unfold setEntries
 refine wpAny_bind (wpAny_bind (wpAny_setState_of hop hdp hf (wpAny_pure ?_)))
 rw [if_neg (by simp)]
 obtain ⟨oT,hoT,hcT,nT,hdT⟩:=hT
 refine wpAny_bind (wpAny_seqItems hoT hdT ?_)
 dsimp only
 rw [Int.toNat_natCast,List.getElem?_toArray,List.getElem?_map,hj]
 show wpAny _ _ (setNextDrawn p j ep >>= _) _ _ s
 unfold setNextDrawn
 refine wpAny_bind (wpAny_bind (wpAny_setState_of hop hdp hf ?_))
 dsimp only
 rw [if_neg (by simp)]
 rw [he]
 refine wpAny_pure (wpAny_bind (wpAny_setField ho hd (by simp) ?_))
 have d1:=Obj.data_mapFields hd (·.setIfInBounds 1 (rawInt ((i:Int)+1)))
 refine wpAny_pure ⟨_,rfl,wpAny_pure (hQ _ ⟨_,Heap.get?_update_self _ ho (Obj.isFreed_of_fields d1),(Obj.cls_mapFields ..).trans hc,?_⟩ (Heap.SameBut.update ..))⟩
 rw [d1]
 simp [rawInt]
theorem Zm3 {I p ep i T:Nat} {es:Array (Int×Value)} {t:SetTable} {ys:List Nat} {Q:Option Value→Shared→Prop} (hh:A.handled=none) (hI:Xy s.heap I (.ref T) i p es.size ep) (hS:X8 s.heap p ep es t) (hT:QW s.heap T ys)
  (hj:ys[i]? = none) (hQ:∀ h',Heap.ExtBut I s.heap h'→Q none { s with heap:=h' }):wpAny (model prog w) A (pyNext (.ref I)) Q E s:=by
 obtain ⟨o,ho,hc,hd⟩:=id hI
 obtain ⟨op,hop,hex,hdp,hf⟩:=id hS
 unfold pyNext
 refine wpAny_bind (wpAny_attempt (wpAny_callSpecial?_slot (name:=Str.ofString "__next__") hI.ty Vs (wpAny_call_entry Vs hI.ty ZbD ?_ (ZbE _))))
 unfold Builtin.«set_iterator.__next__»
 refine wpAny_bind (m:=slotArgs "__next__" 0 _) (wpAny_pure ?_)
 refine wpAny_bind (wpAny_fieldsOf ho hd ?_)
 dsimp only
 unfold setEntries
 refine wpAny_bind (wpAny_bind (wpAny_setState_of hop hdp hf (wpAny_pure ?_)))
 rw [if_neg (by simp)]
 obtain ⟨oT,hoT,hcT,nT,hdT⟩:=hT
 refine wpAny_bind (wpAny_seqItems hoT hdT ?_)
 dsimp only
 rw [Int.toNat_natCast,List.getElem?_toArray,List.getElem?_map,hj]
 dsimp only [Option.map_none]
 refine wpAny_bind (wpAny_setField ho hd (by simp) ?_)
 have d1:=Obj.data_mapFields hd (·.setIfInBounds 0 (rawInt 0))
 have g1:=Heap.get?_update_self (Obj.mapFields (·.setIfInBounds 0 (rawInt 0))) ho (Obj.isFreed_of_fields d1)
 refine wpAny_bind (wpAny_setField (s:={ s with heap:=s.heap.update I (Obj.mapFields (·.setIfInBounds 0 (rawInt 0))) }) g1 d1 (by simp) ?_)
 have s1:=(Heap.SameBut.update s.heap I (Obj.mapFields (·.setIfInBounds 0 (rawInt 0)))).trans (Heap.SameBut.update (s.heap.update I (Obj.mapFields (·.setIfInBounds 0 (rawInt 0)))) I (Obj.mapFields (·.setIfInBounds 2 Value.none)))
 simp only [newExc,newTuple]
 refine wpAny_bind (wpAny_bind (wpAny_newObj_type (wpAny_bind (m:=firstArgMember _ _) (wpAny_of_eq (a:=Value.none) (by simp only [firstArgMember];rfl) (wpAny_newObj_type ?_ (by size_fits)))) (by size_fits)))
 simp only [raiseNew]
 refine wpAny_bind (wpAny_handled ?_)
 rw [show A.in1.handled=none from hh]
 refine wpAny_bind (wpAny_pure (wpAny_throw ?_));refine wpAny_bind (wpAny_isInstance (T := "StopIteration") (b:=true) ⟨_,Heap.get?_push_size _ rfl,rfl⟩ isSubtype_stop ?_)
 exact wpAny_pure (hQ _ ((s1.extBut.push _).push _))
theorem Zhl {p ep slot i:Nat} {es:Array (Int×Value)} {t:SetTable} {Q:Option (Value×Nat)→Shared→Prop} (hx:w.params.followText "set-order" = true) (hS:X8 s.heap p ep es t)
  (h:Q (((pickOrder (w.params.setOrder p ep) es)[i]?).map fun e=>(e.2,slot)) s):wpAny (model prog w) A (setNext p slot i ep) Q E s:=by
 obtain ⟨op,hop,hex,hdp,hf⟩:=hS
 unfold setNext setsByText
 refine wpAny_bind (wpAny_setState_of hop hdp hf (wpAny_bind (wpAny_bind (wpAny_askSetting (wpAny_pure ?_)))))
 dsimp only
 rw [if_pos (show (model prog w).w.params.followText "set-order" = true from hx),if_neg (by simp)]
 unfold setWalk setsByText
 refine wpAny_bind (wpAny_bind (wpAny_setState_of hop hdp hf (wpAny_bind (wpAny_bind (wpAny_askSetting (wpAny_pure ?_))))))
 dsimp only
 rw [if_pos (show (model prog w).w.params.followText "set-order" = true from hx)]
 exact wpAny_bind (wpAny_askSetting (wpAny_pure (wpAny_pure h)))
theorem Zhm {p ep slot i:Nat} {es:Array (Int×Value)} {t:SetTable} {Q:Option (Value×Nat)→Shared→Prop} (hx:w.params.followText "set-order" = false) (hp:t.plain=true∨es.size≤1) (hl:t.led=true) (hS:X8 s.heap p ep es t)
  (h:Q (match es[SetTable.below t.place slot]?,t.place[SetTable.below t.place slot]? with | some (_,x),some j=>some (x,j+1) | _,_=>none) s):wpAny (model prog w) A (setNext p slot i ep) Q E s:=by
 obtain ⟨op,hop,hex,hdp,hf⟩:=hS
 unfold setNext setsByText
 refine wpAny_bind (wpAny_setState_of hop hdp hf (wpAny_bind (wpAny_bind (wpAny_askSetting (wpAny_pure ?_)))))
 dsimp only
 rw [if_neg (show ¬ (model prog w).w.params.followText "set-order" = true by intro z;rw [show (model prog w).w.params.followText "set-order" = w.params.followText "set-order" from rfl,hx] at z;cases z)]
 refine wpAny_ite_split (fun c=>?_) (fun c=>?_)
 ·exfalso
  have c':(!t.plain && decide (es.size > 1))=true:=c
  rw [Bool.and_eq_true,decide_eq_true_eq] at c'
  rcases hp with hp | hp
  ·rw [hp] at c';cases c'.1
  ·omega
 ·refine wpAny_bind ?_
  show wpAny _ _ (if (!t.led && !es.isEmpty)=true then unsupported _ else pure ()) _ _ _
  rw [if_neg (by rw [hl];simp)]
  exact wpAny_pure (wpAny_pure h)
end
end L2
namespace L2
open PySem PyProof.Rows
section
variable {prog:Program} {w:World} {A:Around} {E:Value→Shared→Prop} {s:Shared}
theorem Zhn:Slot "set_iterator" "__iter__" "set_iterator.__iter__" := .of (owner := "set_iterator") (n := "__iter__") (by rw [typeLookup_type,builtinLookup_eq_fast];kernel_rfl) (by decide +kernel) (by decide +kernel) (by decide +kernel) (by first | exact .inl (by decide +kernel) | exact .inr (by decide +kernel)) (by rw [isSubtype_type];kernel_rfl)
theorem Zm4:entryFor table "set_iterator.__iter__" = some Builtin.«dict_keyiterator.__iter__»:=entryFor_alias (id' := "dict_keyiterator.__iter__") (by kernel_rfl) rfl (by decide +kernel) (by kernel_rfl)
theorem Zm5 (a:Value):argsOk "set_iterator.__iter__" ⟨[a],[]⟩:=by unfold argsOk;kernel_rfl
theorem Zd0 {I p n ep i:Nat} {f:Value} {Q:Value→Shared→Prop} (x:Xy s.heap I f i p n ep) (h:Q (.ref I) s):wpAny (model prog w) A (pyIter (.ref I)) Q E s:=by
 refine wpAny_pyIter_slot x.ty Zhn (wpAny_call_entry Zhn x.ty Zm4 (show wpAny _ _ (ret (.ref I)) _ _ s from ?_) (Zm5 _))
 exact wpAny_pure ⟨_,rfl,"set_iterator",_,x.ty,Zhi,h⟩
theorem Xy.keep {h h':Heap} {I p n ep i:Nat} {f:Value} (x:Xy h I f i p n ep) (k:∀ o,h.get? I=some o→h'.get? I=some o):Xy h' I f i p n ep:=let ⟨o,ho,r⟩:=x;⟨o,k _ ho,r⟩
theorem X8.keep {h h':Heap} {p ep:Nat} {es:Array (Int×Value)} {t:SetTable} (x:X8 h p ep es t) (k:∀ o,h.get? p=some o→h'.get? p=some o):X8 h' p ep es t:=let ⟨o,ho,r⟩:=x;⟨o,k _ ho,r⟩
theorem QW.keep {h h':Heap} {T:Nat} {ys:List Nat} (x:QW h T ys) (k:∀ o,h.get? T=some o→h'.get? T=some o):QW h' T ys:=let ⟨o,ho,r⟩:=x;⟨o,k _ ho,r⟩
theorem Zm6 (hh:A.handled=none) (I p ep:Nat) (hne:p≠I) (es:Array (Int×Value)) (t:SetTable) (hx:w.params.followText "set-order" = true) :
  Walks prog w A I [I,p] [I] es.size (fun i v=>((pickOrder (w.params.setOrder p ep) es).toList.map (·.2))[i]? = some v) (fun i h=>Xy h I (.int 0 0) i p es.size ep∧X8 h p ep es t) where
 sub:=fun b hb=>by rw [List.mem_singleton] at hb;rw [hb];exact List.mem_cons_self
 frame:=fun _ _ _ st k=>⟨st.1.keep (k I List.mem_cons_self),st.2.keep (k p (List.mem_cons_of_mem _ List.mem_cons_self))⟩
 item:=fun i s Q E hi st hQ=>by
  have hl:i < (pickOrder (w.params.setOrder p ep) es).size:=by
   have:=(ZdZ (w.params.setOrder p ep) es).length_eq
   rw [Array.length_toList,Array.length_toList] at this
   omega
  have g:=Array.getElem?_eq_getElem hl
  refine Zhj (nx:=0) (x:=((pickOrder (w.params.setOrder p ep) es)[i]).2) (slot:=0) st.1 st.2 (fun A' E' Q' q=>Zhl hx st.2 (by rw [g];exact q)) fun h' hI hb=>?_
  refine hQ _ h' s.toks ?_ ⟨hI,st.2.keep fun o e=>hb.extBut p o hne e⟩ fun b o hn e=>hb.extBut b o (fun z=>hn (by rw [z];exact List.mem_singleton.mpr rfl)) e
  rw [List.getElem?_map,Array.getElem?_toList,g];rfl
 done:=fun s Q E st hQ=>by
  have g:(pickOrder (w.params.setOrder p ep) es)[es.size]? = none:=by
   have:=(ZdZ (w.params.setOrder p ep) es).length_eq
   rw [Array.length_toList,Array.length_toList] at this
   exact Array.getElem?_eq_none (by omega)
  exact Zhk (slot:=0) hh st.1 st.2 (fun A' E' Q' q=>Zhl hx st.2 (by rw [g];exact q)) fun h' hb=>hQ h' s.toks fun b o hn e=>hb b o (fun z=>hn (by rw [z];exact List.mem_singleton.mpr rfl)) e
 self:=fun _ _ _ _ st hQ=>Zd0 st.1 hQ
def WK (t:SetTable):Nat→Nat
 | 0=>0
 | i+1=>t.place.getD i 0+1
theorem Zho {t:SetTable} (h:Vr t.place):∀ i,i≤t.place.size→SetTable.below t.place (WK t i)=i
 | 0,_=>by
  obtain ⟨b0,b1,b2⟩:=ZdX (j:=WK t 0) h
  by_cases c:SetTable.below t.place (WK t 0)=0
  ·exact c
  ·exact absurd (b1 0 (by omega)) (Nat.not_lt_zero _)
 | i+1,hi=>by
  obtain ⟨b0,b1,b2⟩:=ZdX (j:=WK t (i+1)) h
  have e:∀ k d,k < t.place.size→t.place.getD k d=t.place.getD k 0:=fun k d hk=>by simp [Array.getD,hk]
  have c1:i < SetTable.below t.place (WK t (i+1)):=by
   by_cases c:SetTable.below t.place (WK t (i+1))≤i
   ·have:=b2 i c hi
    rw [e i _ hi] at this
    exact absurd this (Nat.not_succ_le_self _)
   ·omega
  by_cases c2:SetTable.below t.place (WK t (i+1))=i+1
  ·exact c2
  ·have l:=b1 (i+1) (by omega)
   have hk:i+1 < t.place.size:=by omega
   rw [e _ _ hk] at l
   have r:t.place.getD i 0 < t.place.getD (i+1) 0:=ZbC (d:=0) h (Nat.lt_succ_self i) hk
   have l':t.place.getD (i+1) 0 < t.place.getD i 0+1:=l
   omega
theorem Zm7 (hh:A.handled=none) (I p ep:Nat) (hne:p≠I) (es:Array (Int×Value)) (t:SetTable) (hx:w.params.followText "set-order" = false) (hp:t.plain=true∨es.size≤1) (hl:t.led=true) (hz:t.place.size=es.size) (hr:Vr t.place) :
  Walks prog w A I [I,p] [I] es.size (fun i v=>(es.toList.map (·.2))[i]? = some v) (fun i h=>Xy h I (.int (WK t i) 0) i p es.size ep∧X8 h p ep es t) where
 sub:=fun b hb=>by rw [List.mem_singleton] at hb;rw [hb];exact List.mem_cons_self
 frame:=fun _ _ _ st k=>⟨st.1.keep (k I List.mem_cons_self),st.2.keep (k p (List.mem_cons_of_mem _ List.mem_cons_self))⟩
 item:=fun i s Q E hi st hQ=>by
  have g:=Array.getElem?_eq_getElem hi
  have hi2:i < t.place.size:=by omega
  have g2:=Array.getElem?_eq_getElem hi2
  have e2:WK t (i+1)=t.place[i]+1:=by
   show t.place.getD i 0+1=_
   simp [Array.getD,hi2]
  refine Zhj (nx:=t.place[i]+1) (x:=(es[i]).2) (slot:=WK t i) st.1 st.2 (fun A' E' Q' q=>Zhm hx hp hl st.2 (by rw [Zho hr i (by omega),g,g2];exact q)) fun h' hI hb=>?_
  refine hQ _ h' s.toks ?_ ⟨by rw [e2];exact hI,st.2.keep fun o e=>hb.extBut p o hne e⟩ fun b o hn e=>hb.extBut b o (fun z=>hn (by rw [z];exact List.mem_singleton.mpr rfl)) e
  rw [List.getElem?_map,Array.getElem?_toList,g];rfl
 done:=fun s Q E st hQ=>by
  have g:es[es.size]? = none:=Array.getElem?_eq_none (Nat.le_refl _)
  exact Zhk (slot:=WK t es.size) hh st.1 st.2 (fun A' E' Q' q=>Zhm hx hp hl st.2 (by rw [Zho hr _ (by omega),g];exact q)) fun h' hb=>hQ h' s.toks fun b o hn e=>hb b o (fun z=>hn (by rw [z];exact List.mem_singleton.mpr rfl)) e
 self:=fun _ _ _ _ st hQ=>Zd0 st.1 hQ
theorem Zm8 (hh:A.handled=none) (I p T ep:Nat) (hne:p≠I) (hnT:T≠I) (es:Array (Int×Value)) (t:SetTable) (ys:List Nat) (hy:List.Perm ys (List.range es.size)) :
  Walks prog w A I [I,p,T] [I] es.size (fun i v=>(ys.map fun j=>(es.getD j (0,.none)).2)[i]? = some v) (fun i h=>Xy h I (.ref T) i p es.size ep∧X8 h p ep es t∧QW h T ys) where
 sub:=fun b hb=>by rw [List.mem_singleton] at hb;rw [hb];exact List.mem_cons_self
 frame:=fun _ _ _ st k=>⟨st.1.keep (k I (by simp)),st.2.1.keep (k p (by simp)),st.2.2.keep (k T (by simp))⟩
 item:=fun i s Q E hi st hQ=>by
  have hl:i < ys.length:=by have:=hy.length_eq;rw [List.length_range] at this;omega
  have g:=List.getElem?_eq_getElem hl
  have hj:ys[i] < es.size:=List.mem_range.mp (hy.mem_iff.mp (List.getElem_mem hl))
  refine Zm2 st.1 st.2.1 st.2.2 g (Array.getElem?_eq_getElem hj) fun h' hI hb=>?_
  refine hQ _ h' s.toks ?_ ⟨hI,st.2.1.keep fun o e=>hb.extBut p o hne e,st.2.2.keep fun o e=>hb.extBut T o hnT e⟩ fun b o hn e=>hb.extBut b o (fun z=>hn (by rw [z];exact List.mem_singleton.mpr rfl)) e
  rw [List.getElem?_map,g]
  simp [Array.getD,hj]
 done:=fun s Q E st hQ=>by
  have g:ys[es.size]? = none:=List.getElem?_eq_none (by have:=hy.length_eq;rw [List.length_range] at this;omega)
  exact Zm3 hh st.1 st.2.1 st.2.2 g fun h' hb=>hQ h' s.toks fun b o hn e=>hb b o (fun z=>hn (by rw [z];exact List.mem_singleton.mpr rfl)) e
 self:=fun _ _ _ _ st hQ=>Zd0 st.1 hQ
theorem Zm9 {l:List (Int×Value)} (h:∀ e∈l,∃ t,e.2=.int (YQ e) t):IntsAre (l.map (·.2)) (l.map YQ):=by
 induction l with
 | nil=>exact .nil
 | cons e r ih =>
  obtain ⟨t,q⟩:=h e List.mem_cons_self
  rw [List.map_cons,List.map_cons,q]
  exact .cons _ t (ih fun x hx=>h x (List.mem_cons_of_mem _ hx))
theorem Zna {α:Type} (es:Array α) (d:α):(List.range es.size).map (fun j=>es.getD j d)=es.toList:=by
 refine List.ext_getElem (by simp) fun i h1 h2=>?_
 have hi:i < es.size:=by simpa using h2
 simp [Array.getD,hi]
theorem Znb {p:Addr} {ks:List Int} {Q:Value→Shared→Prop} (hh:A.handled=none) (hS:YR prog w s.heap p ks) (hk:ks.length≤1000)
  (h:∀ (I:Addr) (fp:List Addr) (St:Nat→Heap→Prop) (h':Heap) (d:Drawn) (its:List Value) (ns:List Int),Walks prog w A I fp [I] its.length (fun i v=>its[i]? = some v) St→St 0 h' →
   (∀ b o,s.heap.get? b=some o→h'.get? b=some o)→(∀ b∈fp,b=p∨s.heap.objs.size≤b)→s.heap.objs.size≤I→IntsAre its ns→ns.Nodup→(∀ k,k∈ns↔k∈ks)→its.length≤ks.length→Q (.ref I) { s with heap:=h',drawn:=d }) :
  wpAny (model prog w) A (pyIter (.ref p)) Q E s:=by
 obtain ⟨o,es,ep,t,ho,hex,hd,hel,hf,ht,hl,nd,mem,sz⟩:=hS
 have hS:X8 s.heap p ep es t:=⟨o,ho,hex,hd,hf⟩
 have hp:p < s.heap.objs.size:=Heap.lt_size ho
 have hz:t.place.size=es.size:=by
  unfold SetTable.fits at hf
  rw [Bool.and_eq_true] at hf
  exact beq_iff_eq.mp hf.1
 have fin:∀ (l:List (Int×Value)),List.Perm l es.toList→IntsAre (l.map (·.2)) (l.map YQ)∧(l.map YQ).Nodup∧(∀ k,k∈l.map YQ↔k∈ks)∧(l.map (·.2)).length=es.size:=fun l pl =>
  ⟨Zm9 fun e he=>Zhe hel (pl.mem_iff.mp he),(pl.map YQ).nodup_iff.mpr nd,fun k=>((pl.map YQ).mem_iff).trans (mem k),by rw [List.length_map,pl.length_eq,Array.length_toList]⟩
 have lf:∀ b∈[s.heap.objs.size,p],b=p∨s.heap.objs.size≤b:=fun b hb=>by
  simp only [List.mem_cons,List.not_mem_nil,or_false] at hb
  rcases hb with rfl | rfl
  ·exact .inr (Nat.le_refl _)
  ·exact .inl rfl
 refine Zm0 hS (fun c=>?_) (fun ys d hy=>?_) (Nat.le_trans (Nat.le_trans sz hk) (by decide))
 ·cases hx:w.params.followText "set-order" with
  | true =>
   obtain ⟨f1,f2,f3,f4⟩:=fin _ (ZdZ (w.params.setOrder p ep) es)
   have W:=Zm6 (prog:=prog) hh s.heap.objs.size p ep (Nat.ne_of_lt hp) es t hx
   rw [← f4] at W
   exact h _ _ _ _ s.drawn _ _ W ⟨⟨_,Heap.get?_push_size _ rfl,rfl,by rw [f4];rfl⟩,hS.keep fun o e=>Heap.get?_push_of_some _ e⟩ (fun b o e=>Heap.get?_push_of_some _ e) lf (Nat.le_refl _) f1 f2 f3 (by omega)
  | false =>
   have c':t.plain=true∨es.size≤1:=by
    rcases c with c | c
    ·rw [hx] at c;cases c
    ·exact c
   have hr:Vr t.place:=by
    rcases c' with c' | c'
    ·exact ht.ri c'
    ·have hl1:t.place.toList.length≤1:=by rw [Array.length_toList];omega
     show List.Pairwise _ _
     match t.place.toList,hl1 with
     | [],_=>exact .nil
     | [a],_=>exact List.pairwise_singleton _ _
   obtain ⟨f1,f2,f3,f4⟩:=fin _ (.refl _)
   have W:=Zm7 (prog:=prog) hh s.heap.objs.size p ep (Nat.ne_of_lt hp) es t hx c' (hl hx) hz hr
   rw [← f4] at W
   exact h _ _ _ _ s.drawn _ _ W ⟨⟨_,Heap.get?_push_size _ rfl,rfl,by rw [f4];rfl⟩,hS.keep fun o e=>Heap.get?_push_of_some _ e⟩ (fun b o e=>Heap.get?_push_of_some _ e) lf (Nat.le_refl _) f1 f2 f3 (by omega)
 ·have pl:List.Perm (ys.map fun j=>es.getD j (0,.none)) es.toList:=by
   have:=hy.map fun j=>es.getD j (0,Value.none)
   rw [Zna] at this
   exact this
  obtain ⟨f1,f2,f3,f4⟩:=fin _ pl
  have W:=Zm8 (prog:=prog) (w:=w) (A:=A) hh (s.heap.objs.size+1) p s.heap.objs.size ep (Nat.ne_of_lt (Nat.lt_succ_of_lt hp)) (Nat.ne_of_lt (Nat.lt_succ_self _)) es t ys hy
  rw [List.map_map] at f1 f4
  have f4':(ys.map fun j=>(es.getD j (0,.none)).2).length=es.size:=f4
  rw [← f4'] at W
  have gI:((s.heap.push { cls:=.type "tuple",data:=.seq (ys.map fun i=>rawInt (i:Nat)).toArray }).push { cls:=.type "set_iterator",data:=.fields #[.ref s.heap.objs.size,.int 0 0,.ref p,.int es.size 0,.int ep 0] }).get? (s.heap.objs.size+1)=some { cls:=.type "set_iterator",data:=.fields #[.ref s.heap.objs.size,.int 0 0,.ref p,.int es.size 0,.int ep 0] }:=by
   have:=Heap.get?_push_size (s.heap.push { cls:=.type "tuple",data:=.seq (ys.map fun i=>rawInt (i:Nat)).toArray }) (o:={ cls:=.type "set_iterator",data:=.fields #[.ref s.heap.objs.size,.int 0 0,.ref p,.int es.size 0,.int ep 0] }) rfl
   rw [Heap.size_push] at this
   exact this
  refine h _ _ _ _ d _ _ W ⟨⟨_,gI,rfl,by rw [f4'];rfl⟩,hS.keep fun o e=>Heap.get?_push_of_some _ (Heap.get?_push_of_some _ e),⟨_,Heap.get?_push_of_some _ (Heap.get?_push_size _ rfl),rfl,_,rfl⟩⟩ (fun b o e=>Heap.get?_push_of_some _ (Heap.get?_push_of_some _ e)) (fun b hb=>?_) (Nat.le_succ _) f1 f2 f3 (by omega)
  ·simp only [List.mem_cons,List.not_mem_nil,or_false] at hb
   rcases hb with rfl | rfl | rfl
   ·exact .inr (Nat.le_succ _)
   ·exact .inl rfl
   ·exact .inr (Nat.le_refl _)
end
end L2
namespace L2
open PySem PyProof.Rows
section
variable {prog:Program} {w:World} {A:Around} {E:Value→Shared→Prop} {s:Shared}
theorem Znc {r:Addr} {Q:Bool→Shared→Prop} (hT:s.TypeIs (.ref r) "set") (h:Q false s):wpAny (model prog w) A (Builtin.List.listLengthHint (.ref r)) Q E s:=by
 unfold Builtin.List.listLengthHint
 refine wpAny_bind (wpAny_specialOf hT F.slot_set_len.lookup ?_)
 generalize hi:("set.__len__" : String)=idx
 wp_delta;rw [show splitId idx=some ("set","__len__") from by subst hi;decide +kernel]
 subst hi;refine wpAny_bind (wpAny_isInstance (T := "set") (b:=true) hT (by rw [isSubtype_type];kernel_rfl) ?_)
 refine wpAny_ite_split (fun z=>absurd z (by decide)) (fun _=>wpAny_ite_split (fun _=>?_) (fun z=>absurd (by decide +kernel) z))
 exact wpAny_bind (wpAny_typeOf hT (wpAny_pure h))
def Met (ks:List Int) (its:List Value):Prop:=∃ ns,IntsAre its ns∧ns.Nodup∧(∀ k,k∈ns↔k∈ks)∧its.length≤ks.length
theorem YR.ty {p:Addr} {ks:List Int} (x:YR prog w s.heap p ks):s.TypeIs (.ref p) "set" := let ⟨o,_,_,_,ho,hex,_⟩:=x;⟨o,ho,hex.1⟩
theorem YR.lt {h:Heap} {p:Addr} {ks:List Int} (x:YR prog w h p ks):p < h.objs.size:=let ⟨_,_,_,_,ho,_⟩:=x;Heap.lt_size ho
theorem Znd {its:List Value} {acc:Array Value} (h:ItemsOf (fun i v=>its[i]? = some v) acc its.length):acc.toList=its:=by
 refine List.ext_getElem? fun i=>?_
 by_cases hi:i < its.length
 ·have ha:i < acc.size:=by rw [h.1];exact hi
  have:=h.2 i acc[i] (Array.getElem?_eq_getElem ha)
  rw [Array.getElem?_toList,Array.getElem?_eq_getElem ha,this]
 ·have e:acc.toList.length=its.length:=by rw [Array.length_toList,h.1]
  rw [List.getElem?_eq_none (l:=its) (by omega),List.getElem?_eq_none (l:=acc.toList) (by omega)]
theorem Zne {R:Result→Shared→Prop} {p S:Addr} {ks:List Int} {res:Value} {c₀:Nat} (hh:A.handled=none) (hS:YR prog w s.heap p ks) (hk:ks.length≤1000) (hne:S≠p)
  (hl:s.heap.get? S=some { cls:=.type "list",data:=.seq #[] c₀ })
  (hR:∀ h' d tk acc c,(∀ b o,b≠S→s.heap.get? b=some o→h'.get? b=some o)→h'.get? S=some { cls:=.type "list",dict:=none,data:=.seq acc c,slots:=#[] }→Met ks acc.toList→R (.ok (.ret res)) { s with heap:=h',drawn:=d,toks:=tk }) :
  wpAny (model prog w) A.in1 (Builtin.List.listExtendWith (.ref S) (.ref p) res) (fun fin s'=>match fin with | .done f=>R (.ok f) s' | .again c'=>c'.quiet=true∧codeAny (model prog w) A c' R s') (fun e s'=>R (.error e) s') s:=by
 unfold Builtin.List.listExtendWith
 refine wpAny_bind (wpAny_typeOf (T := "set") hS.ty ?_)
 have e1:Builtin.List.listSameRef (.ref S) (.ref p)=false:=by simp [Builtin.List.listSameRef,hne]
 have e2:(Value.type "set" == Value.type "list")=false:=by decide
 have e3:(Value.type "set" == Value.type "tuple")=false:=by decide
 simp only [e1,e2,e3,Bool.or_false,Bool.false_eq_true,if_false]
 refine wpAny_bind (Znb (A:=A.in1) hh hS hk fun I fp St h1 d its ns W st keep hfp hI i1 i2 i3 i4=>?_)
 have hSlt:=Heap.lt_size hl
 have hSf:S∉fp:=fun z=>by
  rcases hfp S z with e | e
  ·exact hne e
  ·exact absurd hSlt (Nat.not_lt.mpr e)
 have hIS:I≠S:=fun z=>absurd hSlt (Nat.not_lt.mpr (by rw [← z];exact hI))
 have g1:=keep _ _ hl
 have fin:∀ (h:Heap) (c:Nat) (tk:Nat),St 0 h→(∀ b o,b≠S→s.heap.get? b=some o→h.get? b=some o)→h.get? S=some { cls:=.type "list",data:=.seq #[] c } →
   codeAny (model prog w) A (.builtin "list.extend.loop" ⟨[.ref S,.ref I,res],[]⟩) R { s with heap:=h,drawn:=d,toks:=tk }:=fun h c tk st' k g=>by
  refine codeAny_extend_loopS W.toS (Nat.le_trans (Nat.le_trans i4 hk) (by decide)) S hSf res its.length 0 _ #[] c rfl (Nat.zero_le _) st' g (ItemsOf.nil _) fun s' acc c' hm g' hacc=>?_
  have e:=Znd hacc
  have es:s' = { s with heap:=s'.heap,drawn:=d,toks:=s'.toks }:=by
   obtain ⟨a1,a2,a3,a4,a5⟩:=s'
   have b1:a2=s.gens:=hm.gens
   have b2:a3=d:=hm.drawn
   have b3:a5=s.os:=hm.os
   subst b1 b2 b3
   rfl
  rw [es]
  refine hR s'.heap d s'.toks acc c' (fun b o hb q=>hm.heap b o (fun z=>?_) (k b o hb q)) g' (by rw [e];exact ⟨ns,i1,i2,i3,i4⟩)
  rcases List.mem_cons.mp z with z | z
  ·exact hb z
  ·exact absurd (Heap.lt_size q) (Nat.not_lt.mpr (by rw [List.mem_singleton.mp z];exact hI))
 refine wpAny_bind (wpAny_holding (Znc (s:={ s with heap:=h1,drawn:=d }) (hS.keep (keep p)).ty ?_))
 refine wpAny_ite_split (fun _=>?_) (fun _=>wpAny_pure ⟨plainId_quiet F.plain_extend_loop _,fin _ c₀ _ st (fun b o _ e=>keep b o e) g1⟩)
 refine wpAny_bind (wpAny_rule (wpAny_bind ?_))
 show wpAny _ _ (updateSeq S (fun xs=>xs.push .none) >>= fun _=>updateSeq S (fun xs=>xs.pop)) _ _ _
 refine wpAny_bind (wpAny_updateSeq (s:={ s with heap:=h1,drawn:=d }) g1 rfl ?_)
 have g2:=Heap.get?_update_self (Obj.mapSeq (fun xs=>xs.push Value.none)) g1 rfl
 refine wpAny_updateSeq (s:={ s with heap:=h1.update S (Obj.mapSeq (fun xs=>xs.push Value.none)),drawn:=d }) (hz:=by seq_fits) g2 rfl ?_
 have g3:=Heap.get?_update_self (Obj.mapSeq (fun xs=>xs.pop)) g2 rfl
 refine wpAny_pure ⟨plainId_quiet F.plain_extend_loop _,fin _ _ _ (W.frame 0 _ _ st fun b hb o e=>?_) (fun b o hb e=>?_) g3⟩
 ·have hb':b≠S:=fun z=>hSf (z ▸ hb)
  exact (Heap.get?_update_other _ _ (Ne.symm hb')).trans ((Heap.get?_update_other _ _ (Ne.symm hb')).trans e)
 ·exact (Heap.get?_update_other _ _ (Ne.symm hb)).trans ((Heap.get?_update_other _ _ (Ne.symm hb)).trans (keep b o e))
theorem Znf {R:List Value→Shared→Prop} {p:Addr} {ks:List Int} (hh:A.handled=none) (hS:YR prog w s.heap p ks) (hk:ks.length≤1000)
  (h:∀ h' d tk its,(∀ b o,s.heap.get? b=some o→h'.get? b=some o)→Met ks its→R its { s with heap:=h',drawn:=d,toks:=tk }):wpAny (model prog w) A (collect (.ref p)) R E s:=by
 have lt:=hS.lt
 unfold collect
 refine wpAny_bind (wpAny_runValue (codeAny_builtin F.entry_proto_collect ?_))
 rw [Around.under_plainId F.plain_proto_collect _]
 show wpAny _ A.in1 (newList [] >>= fun l0=>again (.builtin "list.__iadd__" ⟨[l0,.ref p],[]⟩)) _ _ s
 refine wpAny_bind (wpAny_newObj_type (wpAny_pure ⟨plainId_quiet F.plain_list_iadd _,codeAny_builtin F.entry_list_iadd ?_⟩))
 rw [Around.under_plainId F.plain_list_iadd _]
 have g0:(s.heap.push { cls:=.type "list",data:=.seq ([]:List Value).toArray }).get? s.heap.objs.size=some { cls:=.type "list",data:=.seq #[] }:=Heap.get?_push_size _ rfl
 have key:=Zne (A:=A) (s:={ s with heap:=s.heap.push { cls:=.type "list",data:=.seq ([]:List Value).toArray } }) (res:=.ref s.heap.objs.size)
  (R:=fun (q:Result) (s':Shared)=>∃ (h':Heap) (d:Drawn) (tk:Nat) (acc:Array Value) (c:Nat),q=.ok (.ret (.ref s.heap.objs.size))∧s' = { s with heap:=h',drawn:=d,toks:=tk }∧(∀ b o,s.heap.get? b=some o→h'.get? b=some o) ∧
   h'.get? s.heap.objs.size=some { cls:=.type "list",dict:=none,data:=.seq acc c,slots:=#[] }∧Met ks acc.toList) hh (hS.keep fun o e=>Heap.get?_push_of_some _ e) hk (Nat.ne_of_gt lt) g0
  (fun h' d tk acc c k g m=>⟨h',d,tk,acc,c,rfl,rfl,fun b o e=>k b o (Nat.ne_of_lt (Heap.lt_size e)) (Heap.get?_push_of_some _ e),g,m⟩)
 show wpAny _ A.in1 (Builtin.List.listExtendWith (.ref s.heap.objs.size) (.ref p) (.ref s.heap.objs.size)) _ _ _
 refine wpAny_mono key (fun fi s' x=>?_) fun e s' x=>?_
 ·cases fi with
  | done f =>
   obtain ⟨h',d,tk,acc,c,e,rfl,k,g,m⟩:=x
   cases e
   exact wpAny_bind (m:=load s.heap.objs.size) (wpAny_load g (wpAny_pure (h h' d tk _ k m)))
  | again c1 =>
   refine ⟨x.1,codeAny_mono x.2 fun q s2 y=>?_⟩
   obtain ⟨h',d,tk,acc,c,rfl,rfl,k,g,m⟩:=y
   exact wpAny_bind (m:=load s.heap.objs.size) (wpAny_load g (wpAny_pure (h h' d tk _ k m)))
 ·obtain ⟨_,_,_,_,_,e',_⟩:=x
  cases e'
end
end L2
namespace L2
open PySem PySem.Spec PyProof.Rows
section
variable {prog:Program} {w:World} {A:Around} {E:Value→Shared→Prop} {s:Shared}
theorem IntsAre.len {vs:List Value} {ns:List Int} (h:IntsAre vs ns):vs.length=ns.length:=by
 induction h with
 | nil=>rfl
 | cons n t _ ih=>rw [List.length_cons,List.length_cons,ih]
theorem Zng {zs:List Int} (h:zs.Pairwise (·≤·)) (n:zs.Nodup):zs.Pairwise (· < ·) :=
 (List.Pairwise.and h n).imp fun ⟨a,b⟩=>by omega
theorem Znh {p:Addr} {ks:List Int} {Q:Value→Shared→Prop} (hh:A.handled=none) (hS:YR prog w s.heap p ks) (hk:ks.length < 64)
  (h:∀ (D:Addr) (h':Heap) (d:Drawn) (tk:Nat) (out:Array Value) (e:Nat) (zs:List Int),(∀ b o,s.heap.get? b=some o→h'.get? b=some o)→s.heap.get? D=none→h'.get? D=some (seqObj "list" out e)→IntsAre out.toList zs→zs.Pairwise (· < ·) →
   (∀ k,k∈zs↔k∈ks)→zs.length≤ks.length→Q (.ref D) { s with heap:=h',drawn:=d,toks:=tk }):wpAny (model prog w) A (call (.builtin "sorted") [.ref p]) Q E s:=by
 refine Calls.call_function_entry kind_sorted plain_sorted entry_sorted (args_sorted1 _) ?_
 unfold Builtin.«sorted»
 refine wpAny_bind (m:=checkCount "sorted" 1 1 _) (wpAny_pure (wpAny_bind (Znf (A:=A.in1) hh hS (by omega) fun h1 d tk its keep mt=>?_)))
 obtain ⟨ns,i1,i2,i3,i4⟩:=mt
 have hz:its.length≤sizeLine:=Nat.le_trans (Nat.le_trans i4 (Nat.le_of_lt hk)) (by decide)
 refine wpAny_bind (wpAny_newList ?_ hz)
 have g:(h1.push (seqObj "list" its.toArray 0)).get? h1.objs.size=some (seqObj "list" its.toArray 0):=Heap.get?_push_size _ rfl
 have no:s.heap.get? h1.objs.size=none:=by
  cases c:s.heap.get? h1.objs.size with
  | none=>rfl
  | some o=>exact absurd (Heap.lt_size (keep _ _ c)) (Nat.lt_irrefl _)
 refine wpAny_bind (wpAny_holding (wpAny_call_entry (s:={ s with heap:=h1.push (seqObj "list" its.toArray 0),drawn:=d,toks:=tk }) slot_list_sort ⟨_,g,rfl⟩ entry_list_sort (list_sort_tree g i1 (by omega) fun out ns' a1 a2 a3=>⟨_,rfl,?_⟩) (args_list_sort _)))
 obtain ⟨e,ge⟩:=sortedHeap_at (out:=out) g
 have nz:ns'.Nodup:=a2.nodup_iff.mpr i2
 refine wpAny_pure ⟨_,rfl,h h1.objs.size _ d tk out e ns' (fun b o q=>?_) no ge a1 (Zng a3 nz) (fun k=>(a2.mem_iff).trans (i3 k)) (by have:=a2.length_eq;have:=IntsAre.len i1;omega)⟩
 have lb:=Heap.lt_size (keep b o q)
 exact (sortedHeap_old (Nat.ne_of_lt lb) (by rw [Heap.size_push];exact Nat.lt_succ_of_lt lb)).trans (Heap.get?_push_of_some _ (keep b o q))
def WL (w:World):Obj:={ cls:=.type "set",dict:=none,data:=.set #[] 0 (.fresh 0 0 (!w.params.followText "set-order")) }
theorem Zni {h:Heap} {a:Addr} (g:h.get? a=some (WL w)):YR prog w h a [] :=
 ⟨_,#[],0,_,g,⟨rfl,rfl,rfl⟩,rfl,(fun e he=>by cases he),rfl,⟨rfl,fun _=>List.Pairwise.nil⟩,(fun z=>by show (!w.params.followText "set-order")=true;rw [z];rfl),List.Pairwise.nil,(fun k=>by simp),Nat.zero_le _⟩
theorem Znj (x:Value) {Q:Value→Shared→Prop} (h:Q (.ref s.heap.objs.size) { s with heap:=s.heap.push (WL w) }) :
  codeAny (model prog w) A (.call (.builtin "set.__new__") ⟨[.type "set",x],[]⟩) (wants Q E) s:=by
 refine codeAny_of_tree (show wpAny _ A.in1 (do checkBuiltinCall "set.__new__" ⟨[.type "set",x],[]⟩;again (.builtin "set.__new__" ⟨[.type "set",x],[]⟩)) _ _ s from ?_)
 refine wpAny_bind (wpAny_of_eq (PySem.F.newCall_set_1 x) (wpAny_pure ⟨plainId_quiet PySem.F.plain_set_new _,codeAny_builtin PySem.F.entry_set_new ?_⟩))
 rw [Around.under_plainId PySem.F.plain_set_new _];unfold Builtin.«set.__new__» Builtin.Frozenset.newClass
 have sb:=sub_set_self
 obtain ⟨hp,g,d,tk,os⟩:=s
 dsimp only;wp_walk
 refine wpAny_askSetting (wpAny_pure ?_);dsimp only;simp only [newObj]
 exact wpAny_bind (wpAny_alloc (wpAny_pure (wpAny_pure h)))
theorem Znk {l:Addr} {items:Array Value} {ns:List Int} {Q:Value→Shared→Prop} (hh:A.handled=none) (hl:s.heap.IsList l items) (hi:IntsAre items.toList ns) (hb:items.size+1 < scanBound)
  (h:∀ (h':Heap) (tk:Nat),YR prog w h' s.heap.objs.size ((List.range items.size).map fun i=>ns.getD i 0)→(∀ b o,s.heap.get? b=some o→h'.get? b=some o)→Q (.ref s.heap.objs.size) { s with heap:=h',toks:=tk }) :
  wpAny (model prog w) A (call (.type "set") [.ref l]) Q E s:=by
 obtain ⟨c,tl,mr⟩:=PySem.F.called_set.mro
 have md:=PySem.F.called_set.made
 have sb:=PySem.F.called_set.sub
 refine wpAny_call (codeAny_of_tree (show wpAny _ _ (callAny (.type "set") _) _ _ _ from wpAny_pure ⟨Code.quiet_builtin _ (by decide +kernel),codeAny_builtin PySem.F.entry_type_call ?_⟩))
 rw [Around.under_plain (weight_type_call_type "set" [.ref l] []) rfl]
 have k1:=PySem.F.called_set.notType
 have k2:=PySem.F.called_set.canCreate
 have k3:=PySem.F.typeCall_set_1 (.ref l)
 repeat (any_goals (first | assumption | wp_step))
 refine codeAny_mono (Znj (.ref l) (E:=E) (Q:=fun ob s1=>ob=.ref s.heap.objs.size∧s1 = { s with heap:=s.heap.push (WL w) }) ⟨rfl,rfl⟩) fun r s1 hr=>?_
 cases r with
 | error e=>exact hr
 | ok fl =>
  cases fl with
  | ret ob =>
   obtain ⟨rfl,rfl⟩:=hr
   have g0:(s.heap.push (WL w)).get? s.heap.objs.size=some (WL w):=Heap.get?_push_size _ rfl
   have hT:Shared.TypeIs { s with heap:=s.heap.push (WL w) } (.ref s.heap.objs.size) "set" := ⟨_,g0,rfl⟩
   have u1:=PySem.F.called_set.init.lookup
   have u2:=PySem.F.called_set.init.bind (.ref s.heap.objs.size)
   repeat (any_goals (first | assumption | wp_step))
   refine codeAny_mono (codeAny_call_builtin (R:=wants (fun r s2=>r=.none∧∃ h' tk,s2 = { s with heap:=h',toks:=tk }∧YR prog w h' s.heap.objs.size ((List.range items.size).map fun i=>ns.getD i 0)∧(∀ b o,s.heap.get? b=some o→h'.get? b=some o)) E)
    PySem.F.called_set.init.plain PySem.F.entry_set_init (check_set_init_1 hT ?_)) fun r2 s2 hr2=>?_
   ·obtain ⟨ol,hol,hcl,nl,hdl⟩:=id hl
    obtain ⟨oc,od,oda,os⟩:=ol
    simp only at hcl hdl
    subst hcl;subst hdl
    have v1:(s.heap.push (WL w)).get? l=some { cls:=.type "list",dict:=od,data:=.seq items nl,slots:=os }:=Heap.get?_push_of_some _ hol
    have v2:=PySem.F.sub_list_set
    have v3:=PySem.F.sub_list_frozenset
    have v4:(Value.type "list" == Value.type "dict")=false:=by decide
    have hl1:(s.heap.push (WL w)).IsList l items:=⟨_,v1,rfl,nl,rfl⟩
    have fd:(WL w).data=.set #[] 0 (.fresh 0 0 (!w.params.followText "set-order")):=rfl
    unfold Builtin.«set.__init__» noKeywords Builtin.Frozenset.updateFrom
    generalize hPI:pyIter=PI
    wp_walk
    subst hPI
    refine wpAny_pyIter_list hl1 (wpAny_bind (wpAny_runValue ?_))
    have lS:l < s.heap.objs.size:=Heap.lt_size hol
    have h3:A.in1.in1.in1.handled=none:=by simp [hh]
    have nI:l≠(s.heap.push (WL w)).objs.size:=by rw [Heap.size_push];exact Nat.ne_of_lt (Nat.lt_succ_of_lt lS)
    have nS:s.heap.objs.size∉[(s.heap.push (WL w)).objs.size,l]:=by
     rw [Heap.size_push];intro z
     simp only [List.mem_cons,List.not_mem_nil,or_false] at z
     rcases z with z | z
     ·exact absurd z (Nat.ne_of_lt (Nat.lt_succ_self _))
     ·exact absurd z (Nat.ne_of_gt lS)
    refine ZmX ((Walks.list h3 _ l nI items).toS) s.heap.objs.size nS (fun i=>ns.getD i 0) (fun i v hv=>IntsAre.int_at hi i v (by rw [Array.getElem?_toList];exact hv)) hb (items.size - 0) 0 _ (by omega) (Nat.zero_le _)
     ⟨⟨_,Heap.get?_push_size _ rfl,rfl,rfl⟩,(hl1.push _)⟩ (Zni (Heap.get?_push_of_some _ g0)) fun s' hm hS'=>?_
    obtain ⟨h',g',d',tk',os'⟩:=s'
    have eg:g'=s.gens:=hm.gens
    have ed:d'=s.drawn:=hm.drawn
    have eo:os'=s.os:=hm.os
    subst eg ed eo
    refine wpAny_pure (wpAny_pure ⟨rfl,h',tk',rfl,hS',fun b o e=>?_⟩)
    have lb:=Heap.lt_size e
    refine hm.heap b o (fun z=>?_) (Heap.get?_push_of_some _ (Heap.get?_push_of_some _ e))
    simp only [List.mem_cons,List.not_mem_nil,or_false] at z
    rcases z with z | z
    ·exact absurd z (Nat.ne_of_lt lb)
    ·rw [Heap.size_push] at z
     exact absurd z (Nat.ne_of_lt (Nat.lt_succ_of_lt lb))
   ·cases r2 with
    | error e=>exact hr2
    | ok f2 =>
     cases f2 with
     | ret r =>
      obtain ⟨rfl,h',tk,rfl,hS',hk'⟩:=hr2
      repeat (any_goals (first | assumption | wp_step))
      exact h _ _ hS' hk'
     | _=>exact hr2.elim
  | _=>exact hr.elim
end
end L2
namespace L2
open PySem PySem.Spec PyProof.Rows
theorem Zd.drawnTo {X:Cx} {pins:List (Addr×Obj)} {σ:St} {H:Hp} {s:Shared} (I:Zd X pins σ H s) (d:Drawn):Zd X pins σ H { s with drawn:=d }:=⟨I.ok,I.os,I.bare,I.base,I.loc,I.cell,I.free,I.freeC,I.pin,I.hok,I.len⟩
def Qp (P:Program) (w:World) (a:Addr) (ks:List Int):HO:=.ext fun h=>YR P w h a ks
theorem Znl {P:Program} {w:World} {H:Hp} {h:Heap} {a:Addr} {ks:List Int} (x:YR P w h a ks):Yp P w H h a (Qp P w a ks) :=
 ⟨x,let ⟨o,_,_,_,ho,_⟩:=id x;⟨o,ho⟩,fun h1 h2 y k=>YR.keep (h:=h1) y k⟩
theorem Zhp:∀ {ns:List Int} {us:List Value},ZJ (ns.map V.int) us→IntsAre us ns
 | [],_,.nil=>.nil
 | n::r,_,.cons (b:=u) h t=>by
  obtain ⟨tk,rfl⟩:=h
  exact .cons n tk (Zhp t)
theorem Zhq:∀ {ns:List Int} {us:List Value},IntsAre us ns→ZJ (ns.map V.int) us
 | _,_,.nil=>.nil
 | _,_,.cons n t h=>.cons ⟨t,rfl⟩ (Zhq h)
theorem Zhr {X:Cx} (hc:X.calm=true):Xg X (.type "set") (fun xs H Q=>∃ (p:Addr) (ns:List Int),xs=[.ref p]∧Zm X.K H p (ns.map V.int)∧ns.length≤1000∧∀ l,H l=none→Q (.ref l) (upd H l (Qp X.prog X.w l ns))):=by
 intro pins s σ H xs us Q I r h
 obtain ⟨p,ns,rfl,hq,hl,q⟩:=h
 obtain ⟨u,rfl,rx⟩:=XG r
 cases rx
 obtain ⟨its,r',pl,hz⟩:=I.list hq
 have ia:IntsAre its ns:=Zhp r'
 have ln:its.length=ns.length:=IntsAre.len ia
 refine Znk (I.ok.hd hc) pl.isList (by simpa using ia) (by rw [List.size_toArray,ln];show _ < 4096;omega) fun h' tk hS keep=>?_
 have e:(List.range its.toArray.size).map (fun i=>ns.getD i 0)=ns:=by
  rw [List.size_toArray,ln]
  refine List.ext_getElem (by simp) fun i h1 h2=>?_
  simp [List.getD_eq_getElem?_getD,h2]
 rw [e] at hS
 exact ⟨.ref _,_,I.laid (t':=tk) keep (Nat.le_refl _) (Znl hS),rfl,q _ (I.hok.fresh (Nat.le_refl _))⟩
theorem Zhs {X:Cx} (hc:X.calm=true):Xg X (.builtin "sorted") (fun xs H Q=>∃ (p:Addr) (ks:List Int),xs=[.ref p]∧H p=some (Qp X.prog X.w p ks)∧ks.length < 64 ∧
  ∀ (l:Addr) (zs:List Int),H l=none→zs.Pairwise (· < ·)→(∀ k,k∈zs↔k∈ks)→zs.length≤ks.length→Q (.ref l) (upd H l (.lst (zs.map V.int)))):=by
 intro pins s σ H xs us Q I r h
 obtain ⟨p,ks,rfl,hp,hl,q⟩:=h
 obtain ⟨u,rfl,rx⟩:=XG r
 cases rx
 have hS:YR X.prog X.w s.heap p ks:=(I.hok p _ hp).1
 refine Znh (I.ok.hd hc) hS hl fun D h' d tk out e zs keep no g ia pw mem le=>?_
 have hz:(zs.map V.int).length≤sizeLine:=by
  rw [List.length_map]
  exact Nat.le_trans (Nat.le_trans le (Nat.le_of_lt hl)) (by decide)
 have new:Yp X.prog X.w (upd H D (.lst (zs.map V.int))) h' D (.lst (zs.map V.int)):=⟨hz,out.toList,e,Zhq ia,by rw [Array.toArray_toList];exact g⟩
 exact ⟨.ref D,_,(I.laidN (t':=tk) keep no new).drawnTo d,rfl,q D zs (I.hasNo no) pw mem le⟩
end L2
namespace L2
open PySem PySem.Spec PyProof.Rows
theorem Zd1 {X:Cx} {i0:Nat} {x0:Str} {pos' spos:Pos} {elt tg iter:Expr} {ifs:List Expr} {scope:Scope} {cl:List (Str×Addr)} {pos:Pos} {N:List Str} {fr:List (Option Nat)} {wi:TI} {g:TG} {tt:TT} {te:TE}
  (hN0:X.N.Nodup) (hi0:X.N[i0]? = some x0) (hx0:Loc X.env.scope x0) (hc:X.calm=true) (hi:PI X tg iter wi) (hclos:closureFor scope X.env=pure cl) (hcell:∀ y∈scope.names,y.2≠.cell) (hkind:scope.kind=.function)
  (hnames:∀ y∈scope.names,y.2=.local→scope.names.lookup y.1=some .local) (hfr:Wh X scope cl N fr) (hcl:Qm X cl)
  (hhas:((relabel scope X.env).names.all fun p=>!(p.2 == .cell || p.2 == .free) || (cl.lookup p.1).isSome)=true)
  (hg:∀ C s0 H0 ex pins,PG (YI X N scope cl C s0 H0 ex pins) tg g) (ht:∀ C s0 H0 ex pins,PTs (YI X N scope cl C s0 H0 ex pins) ifs tt) (he:∀ C s0 H0 ex pins,PE (YI X N scope cl C s0 H0 ex pins) elt te)
  (hsw:swapsWith (.ListComp elt [⟨tg,iter,ifs,0⟩] scope pos) (some (.Name x0 pos')) spos.line X.env=pure true:=by rfl) (hf0:X.fn x0=true∨X.env.scope.names.lookup x0=some .local:=by first | exact .inl rfl | exact .inr rfl)
  (hs:∀ v,foldedSetIterable iter X.env v=pure v:=by intro _;rfl):PS X (.Assign [.Name x0 pos'] (.ListComp elt [⟨tg,iter,ifs,0⟩] scope pos) spos) (ZdB (ZgY fr wi g tt te) (Xs i0)):=by
 intro pins s σ H D0 I h
 rw [exec_Assign_Name_used _ _ _ _ hsw]
 refine wpAny_bind (wpAny_standAt (wpAny_bind ?_))
 show wpAny _ _ (do let _ ← comprehension (.ListComp elt [⟨tg,iter,ifs,0⟩] scope pos) scope X.env _ (newList []) false (eval iter X.env) (some (assign (.Name x0 pos') X.env))) _ _ s
 refine wpAny_bind (ZK (wpAny_comprehension_free (use:=some (assign (.Name x0 pos') X.env)) (Q:=fun _ s'=>SP X pins D0 .next s') rfl hs hclos hkind hnames (ZK (hi pins s σ H _ I h) fun xv s1 h1=>ZK h1 fun itv s2 h2=>?_)) fun _ s' hq=>wpAny_pure (wpAny_pure hq))
 obtain ⟨it,fp,tn,J,H2,e,I2,T,st2,f2,W,⟨m0,w0⟩,turn⟩:=h2
 subst e
 refine wpAny_newObj_type (wpAny_newFunctionEnv hcell (fun y hy=>nomatch hy) (fun h4 hns hsb=>?_) hkind)
 dsimp only at hns hsb ⊢
 generalize hD:s2.heap.objs.size=D at *
 generalize hG:s2.heap.push { cls:=.type "list",dict:=none,data:=.seq ([]:List Value).toArray } = G at hns hsb ⊢
 have hC:G.objs.size=D+1:=by rw [← hG,Heap.size_push,hD]
 generalize hCC:G.objs.size=C at hns hsb hC ⊢
 subst hC
 have old:∀ b o,s2.heap.get? b=some o→h4.get? b=some o:=fun b o e=>by
  have lt:=Heap.lt_size e
  rw [hD] at lt
  exact hsb.extBut b o (Nat.ne_of_lt (Nat.lt_succ_of_lt lt)) (Heap.get?_push_of_some _ (hG ▸ Heap.get?_push_of_some _ e))
 have hDl:h4.get? D=some { cls:=.type "list",dict:=none,data:=.seq ([]:List Value).toArray 0 } :=
  hsb.extBut _ _ (Nat.ne_of_lt (Nat.lt_succ_self _)) (Heap.get?_push_of_some _ (hG ▸ hD ▸ Heap.get?_push_size _ rfl))
 have flt:∀ b∈fp,b < D:=fun b hb=>by
  obtain ⟨o,e,_⟩:=T.obj 0 _ st2 b hb
  have lt:=Heap.lt_size e
  rw [hD] at lt
  exact lt
 have nst:∀ b,b≠X.env.locals→b∉X.fs→b∉Z2 X.stack:=fun b h1 h2 z=>(List.mem_cons.mp (I2.stkSub b z)).elim h1 h2
 have pl:∀ p∈X.pn++pins,p.1 < D:=fun p hp=>by
  have lt:=Heap.lt_size (I2.pin p hp).1
  rw [hD] at lt
  exact lt
 have I4:∀ tk,Zd (YI X N scope cl (D+1) s2 H2 fp pins) [] (Ql fr σ) H2 { s2 with heap:=h4,toks:=tk }:=fun tk =>
  I2.block hkind hfr hcl hhas f2 (fun b hb=>by rw [hD];exact flt b hb) old (by rw [hD];exact Nat.le_succ _) hns
 have stat:∀ {H':Hp} {o:Obj},(∀ b∈fp,H' b=none)→∀ b∈fp,Wd (YI X N scope cl (D+1) s2 H2 fp pins) [(D,o)] H' b:=fun {H' o} hn b hb=>by
  obtain ⟨_,k1,k2,_,k4,k5⟩:=f2 b hb
  refine ⟨hn b hb,Nat.ne_of_lt (Nat.lt_succ_of_lt (flt b hb)),nst b k1 k2,.inl hb,fun x c e=>k4 x c (hcl.at e),fun p hp=>?_⟩
  rcases List.mem_append.mp hp with hp | hp
  ·exact k5 p hp
  ·rw [List.mem_singleton.mp hp]
   exact (Nat.ne_of_lt (flt b hb)).symm
 have dnf:D∉Z2 X.stack:=fun z=>by
  obtain ⟨_,o,e,_⟩:=I2.stack.mem z
  have lt:=Heap.lt_size e
  rw [hD] at lt
  exact absurd lt (Nat.lt_irrefl _)
 have loop:∀ tk,codeAny (model X.prog X.w) X.A (.compLoop (.ListComp elt [⟨tg,iter,ifs,0⟩] scope pos) 0 (.ref it) (.ref D) (compEnvC scope cl (D+1) X.env)) (compPost (model X.prog X.w) X.A X.xe (some (assign (.Name x0 pos') X.env)) (fun _ s'=>SP X pins D0 .next s') (.ref D) (D+1)) { s2 with heap:=h4,toks:=tk }:=fun tk=>by
  refine ZgW (fun k s'=>∃ i σ' H' its nD acc,Zd (YI X N scope cl (D+1) s2 H2 fp pins) [] σ' H' s' ∧
    s'.heap.get? D=some { cls:=.type "list",dict:=none,data:=.seq (List.toArray its) nD }∧H' D=none∧ZJ acc its∧acc.length≤sizeLine∧tn i s'.heap∧(∀ b∈fp,H' b=none)∧W i k acc σ' H') ?_ m0
   ⟨0,_,H2,[],0,[],I4 tk,hDl,I2.hok.fresh (by rw [hD];exact Nat.le_refl _),.nil,Nat.zero_le _,T.keep 0 _ _ st2 fun b _ o e=>old b o e,fun b hb=>(f2 b hb).1,w0⟩
  rintro k s5 ⟨i,σ5,H5,its,nD,acc,I5,hL,hn5,va,hacc,st5,fr5,w5⟩
  have dcell:∀ x c,cl.lookup x=some c→c≠D:=fun x c e z=>by
   obtain ⟨v,q⟩:=I2.cell x c (hcl.at e)
   have lt:=q.lt
   rw [hD,z] at lt
   exact absurd lt (Nat.lt_irrefl _)
  have I5':Zd (YI X N scope cl (D+1) s2 H2 fp pins) [(D,{ cls:=.type "list",dict:=none,data:=.seq (List.toArray its) nD })] σ5 H5 s5:=I5.pins_of fun p hp=>by
   rw [List.mem_singleton.mp hp]
   exact ⟨hL,hn5,Nat.ne_of_lt (Nat.lt_succ_self _),dnf,fun v z=>by cases z⟩
  rcases turn i k acc σ5 H5 w5 with ⟨stop,qn⟩ | ⟨go,hlt,N1,hN1,step⟩
  ·refine Xl (T.done (YI X N scope cl (D+1) s2 H2 fp pins) rfl rfl rfl hc i _ s5 _ H5 _ I5' (stat fr5) st5 stop) fun r s6 ⟨hr,I6⟩=>?_
   subst hr
   obtain ⟨m6,hn6,_⟩:=I6.loc
   have hL6:=(I6.pin (D,{ cls:=.type "list",dict:=none,data:=.seq (List.toArray its) nD }) (List.mem_append_right _ (List.mem_singleton.mpr rfl))).1
   have I8:Zd X pins σ H5 s6:=I2.call' (s':=s6) I6.os I6.base I6.hok I6.bare fun b hb=>let ⟨_,k1,_,k3,k4,k5⟩:=f2 b hb;⟨k3,k1,k4,k5⟩
   have I9:Zd X pins σ (upd H5 D (.lst acc)) s6:=I8.trackS hn5 hL6 rfl (by
     cases z:X.s₀.heap.get? D with
     | none=>rfl
     | some o =>
      have lt:=Nat.lt_of_lt_of_le (Heap.lt_size z) I2.sz
      rw [hD] at lt
      exact absurd lt (Nat.lt_irrefl _)) (fun p hp=>Nat.ne_of_lt (pl p hp)) ⟨hacc,its,nD,va,hL6⟩
   have ltL:X.env.locals < D+1:=by
    have:=I2.lt
    rw [hD] at this
    exact Nat.lt_succ_of_lt this
   have ltC:∀ x c,X.env.cells.lookup x=some c→c < D+1:=fun x c e=>by
    obtain ⟨v,q⟩:=I2.cell x c e
    have lt:=q.lt
    rw [hD] at lt
    exact Nat.lt_succ_of_lt lt
   refine wpAny_assign_Name (Zga (v:=.ref D) I9 hN0 hi0 hx0 rfl (fun s7 I10 hz=>?_) hf0)
   obtain ⟨aa,sb,ha⟩:=hz
   have nC:D+1≠aa:=by
    rcases ha with rfl | ha
    ·exact Nat.ne_of_gt ltL
    ·exact Nat.ne_of_gt (ltC _ _ ha)
   refine ⟨m6,hn6.sameBut sb nC,fun h8 hs8=>⟨_,_,I10.turned (h':=h8) (t':=s7.toks) (fun b o hb e=>hs8.extBut b o hb e) ?_ (Nat.ne_of_gt ltL) (.inr ?_) (fun x c e=>Nat.ne_of_lt (ltC x c e)) (fun p hp=>Nat.ne_of_lt (Nat.lt_succ_of_lt (pl p hp))),qn D hn5⟩⟩
   ·rw [ZO (Nat.ne_of_gt (Nat.lt_succ_self D))]
    exact I6.free
   ·have:=I2.sz
    rw [hD] at this
    exact Nat.le_succ_of_le this
  ·refine Xl (T.item (YI X N scope cl (D+1) s2 H2 fp pins) rfl rfl rfl hc i _ s5 _ H5 _ I5' (stat fr5) st5 go) fun r s6 ⟨u,hr,h6⟩=>?_
   subst hr
   refine Xl h6 fun _ s7 ⟨x,H7,I7,r7,y7,st7,fr7⟩=>?_
   have I7':Zd (YI X N scope cl (D+1) s2 H2 fp pins) ([(D,{ cls:=.type "list",dict:=none,data:=.seq (List.toArray its) nD })]++WU fp s7.heap) σ5 H7 s7:=I7.pinned (stat fr7) (T.obj _ _ st7)
   refine Xl (hg _ _ _ _ _ _ s7 _ H7 x u _ I7' r7 (step x H7 y7)) fun _ s8 ⟨σ8,H8,I8,q8⟩=>?_
   refine Xl (ht _ _ _ _ _ _ s8 σ8 H8 _ I8 q8) fun ok s9 ⟨H9,I9,q9⟩=>?_
   have wk:∀ {σ':St} {H':Hp} {s':Shared},Zd (YI X N scope cl (D+1) s2 H2 fp pins) ([(D,{ cls:=.type "list",dict:=none,data:=.seq (List.toArray its) nD })]++WU fp s7.heap) σ' H' s' →
     tn (i+1) s'.heap∧(∀ b∈fp,H' b=none)∧s'.heap.get? D=some { cls:=.type "list",dict:=none,data:=.seq (List.toArray its) nD }∧H' D=none:=fun {σ' H' s'} J'=>by
    have pin:∀ p∈([(D,{ cls:=.type "list",dict:=none,data:=.seq (List.toArray its) nD })]:List (Addr×Obj))++WU fp s7.heap,s'.heap.get? p.1=some p.2∧H' p.1=none:=fun p hp=>let ⟨e,n,_⟩:=J'.pin p (List.mem_append_right _ hp);⟨e,n⟩
    refine ⟨T.keep _ _ _ st7 fun b hb o e=>(pin (b,o) (List.mem_append_right _ (QP hb e))).1,fun b hb=>?_,(pin (D,_) (List.mem_append_left _ (List.mem_singleton.mpr rfl))).1,(pin (D,_) (List.mem_append_left _ (List.mem_singleton.mpr rfl))).2⟩
    obtain ⟨o,e,_⟩:=T.obj _ _ st7 b hb
    exact (pin (b,o) (List.mem_append_right _ (QP hb e))).2
   cases ok with
   | false =>
    obtain ⟨m',hm,w9⟩:=hN1 _ _ _ q9
    obtain ⟨k1,k2,k3,k4⟩:=wk I9
    exact ⟨m',hm,i+1,σ8,H9,its,nD,acc,I9.pins_of (fun _ z=>nomatch z),k3,k4,va,hacc,k1,k2,w9⟩
   | true =>
    refine Xl (he _ _ _ _ _ _ s9 σ8 H9 _ I9 q9) fun y s10 ⟨v,H10,I10,r10,q10⟩=>?_
    obtain ⟨m',hm,w10⟩:=hN1 _ _ _ q10
    obtain ⟨k1,k2,k3,k4⟩:=wk I10
    refine call_meets F.slot_list_append ⟨_,k3,rfl⟩ F.entry_list_append (F.args_list_append_2 _ _) (PySem.list_append D its.toArray nD y (by rw [List.size_toArray,← va.length];omega)) ⟨k3,?_⟩
    have up:∀ b o,b≠D→s10.heap.get? b=some o→(s10.heap.update D (Obj.mapSeq fun z=>z.push y)).get? b=some o:=fun b o hb e=>(Heap.get?_update_other s10.heap _ (Ne.symm hb)).trans e
    have I11:Zd (YI X N scope cl (D+1) s2 H2 fp pins) [] σ8 H10 { s10 with heap:=s10.heap.update D (Obj.mapSeq fun z=>z.push y),toks:=s10.toks } :=
     (I10.pins_of (pins':=[]) fun _ z=>nomatch z).turned up k4 (Nat.ne_of_lt (Nat.lt_succ_self _)) (.inr (by rw [hD];exact Nat.le_refl _)) dcell fun p hp=>by
      have hp':p∈X.pn++pins:=by simpa using hp
      exact Nat.ne_of_lt (pl p hp')
    have q:=PySem.IsL.update k3 (fun z=>z.push y)
    rw [show (List.toArray its).push y=(its++[y]).toArray by simp] at q
    refine ⟨m',hm,i+1,σ8,H10,its++[y],_,acc++[v],I11,q,k4,va.append (.cons r10 .nil),?_,T.keep _ _ _ k1 fun b hb o e=>up b o (Nat.ne_of_lt (flt b hb)) e,k2,w10⟩
    rw [List.length_append,List.length_singleton]
    omega
 exact codeAny_compStart_list (loop _) (T.self _ 0 _ _ _ (T.keep 0 _ _ st2 fun b _ o e=>old b o e) (loop _))
end L2
namespace K1
open PySem L2
structure Vt (l:List Nat) (lo hi:Nat):Prop where
 one:1≤l.length
 few:l.length≤12
 up:l.Pairwise (· < ·)
 all:∀ x∈l,lo≤x∧x≤hi
def RT.good:RT→Prop
 | .always=>True
 | .week b=>b≤127
 | .span a b r=>a≤b∧b≤9999∧r.good
 | .each n ss=>1≤n∧n≤28∧Vt ss 0 (n - 1)
 | .either r s | .both r s=>r.good∧s.good
 | .but ds r=>Vt ds 0 9999∧r.good
structure Vu (K:PySem.W.Frag) (C:Addr):Prop where
 ha:PySem.W.findIn K (.ref C) "__class__" = some (some (.builtin "object.__class__"))
 hn:PySem.W.specialIn K (.builtin "object.__class__") "__get__" = some (some (.builtin "getset_descriptor.__get__"))
 tk:PySem.W.takesIn K (.builtin "object.__class__")=some true
 hm:PySem.W.mroIn K C (.type "object")=some true
theorem Vu.ty {K:PySem.W.Frag} {C:Addr} (o:Vu K C) (c:YK K C) {H:Hp} {a dx:Addr} {fs:List (Str×V)} (e:H a=some (.ins C dx fs)):Xt K H (.ref a) (.ref C):=.ins e c o.ha o.hn o.tk o.hm
def Z9 (H' H:Hp):Hp:=fun a=>match H a with
 | none=>H' a
 | some _=>none
theorem Xe {H' H:Hp} {a:Addr} {o:HO} (n:H a=none) (e:H' a=some o):Z9 H' H a=some o:=by
 unfold Z9;rw [n];exact e
theorem QX {H' H:Hp} {a:Addr} {o:HO} (e:Z9 H' H a=some o):H a=none∧H' a=some o:=by
 unfold Z9 at e
 cases h:H a with
 | none=>rw [h] at e;exact ⟨rfl,e⟩
 | some u=>rw [h] at e;cases e
theorem Xb (H' H:Hp):Zt (Z9 H' H) H':=fun _ _ e=>(QX e).2
theorem Qq {H0 H H' H2:Hp} (s0:Zt H0 H) (s1:∀ a o,H a=none→H' a=some o→H2 a=some o):Zt (Z9 H' H) (Z9 H2 H0):=fun a o e =>
 Xe (s0.free (QX e).1) (s1 a o (QX e).1 (QX e).2)
theorem Yd {H0 H:Hp} {x:Addr} (n:H0 x=none) (s:Zt H0 H) (o:HO):Zt H0 (upd H x o):=fun b u e=>by
 rw [ZO (YZ e n)];exact s _ _ e
theorem W0 {b:Nat} {lo hi:Int} (h1:lo≤b) (h2:(b:Int)≤hi):Xm (.int (b:Nat)) lo hi=true:=decide_eq_true ⟨h1,h2⟩
inductive Z8 (tp:Addr) (H:Hp):V→RT→Prop
 | always {a:Addr} (h:H a=some (.tup [.str (Str.ofString "always")])):Z8 tp H (.ref a) .always
 | week {a:Addr} {b:Nat} (h:H a=some (.tup [.str (Str.ofString "week"),.int (b:Nat)])):Z8 tp H (.ref a) (.week b)
 | span {a:Addr} {x y:Nat} {v:V} {r:RT} (h:H a=some (.tup [.str (Str.ofString "span"),.int (x:Nat),.int (y:Nat),v])) (hv:Z8 tp H v r):Z8 tp H (.ref a) (.span x y r)
 | each {a l:Addr} {n:Nat} {ss:List Nat} (h:H a=some (.tup [.str (Str.ofString "each"),.int (n:Nat),.ref l])) (hl:H l=some (.lst (ZR ss))) (ne:l≠tp):Z8 tp H (.ref a) (.each n ss)
 | either {a:Addr} {v u:V} {r s:RT} (h:H a=some (.tup [.str (Str.ofString "either"),v,u])) (hv:Z8 tp H v r) (hu:Z8 tp H u s):Z8 tp H (.ref a) (.either r s)
 | both {a:Addr} {v u:V} {r s:RT} (h:H a=some (.tup [.str (Str.ofString "both"),v,u])) (hv:Z8 tp H v r) (hu:Z8 tp H u s):Z8 tp H (.ref a) (.both r s)
 | but {a l:Addr} {ds:List Nat} {v:V} {r:RT} (h:H a=some (.tup [.str (Str.ofString "but"),.ref l,v])) (hl:H l=some (.lst (ZR ds))) (ne:l≠tp) (hv:Z8 tp H v r):Z8 tp H (.ref a) (.but ds r)
theorem Z8.keep {tp:Addr} {H H':Hp} (k:∀ b o,b≠tp→H b=some o→H' b=some o) (nt:∀ xs,H tp≠some (.tup xs)) {v:V} {r:RT} (h:Z8 tp H v r):Z8 tp H' v r:=by
 have q:∀ {a xs},H a=some (.tup xs)→H' a=some (.tup xs):=fun {a xs} e=>k _ _ (fun z=>by rw [z] at e;exact nt _ e) e
 induction h with
 | always h=>exact .always (q h)
 | week h=>exact .week (q h)
 | span h _ ih=>exact .span (q h) ih
 | each h hl ne=>exact .each (q h) (k _ _ ne hl) ne
 | either h _ _ i1 i2=>exact .either (q h) i1 i2
 | both h _ _ i1 i2=>exact .both (q h) i1 i2
 | but h hl ne _ ih=>exact .but (q h) (k _ _ ne hl) ne ih
theorem Z8.same {tp:Addr} {H H':Hp} (s:Zt H H') {v:V} {r:RT} (h:Z8 tp H v r):Z8 tp H' v r:=by
 induction h with
 | always h=>exact .always (s _ _ h)
 | week h=>exact .week (s _ _ h)
 | span h _ ih=>exact .span (s _ _ h) ih
 | each h hl ne=>exact .each (s _ _ h) (s _ _ hl) ne
 | either h _ _ i1 i2=>exact .either (s _ _ h) i1 i2
 | both h _ _ i1 i2=>exact .both (s _ _ h) i1 i2
 | but h hl ne _ ih=>exact .but (s _ _ h) (s _ _ hl) ne ih
theorem Znm {H:Hp} {tp:Addr} {ys:List V} (h:H tp=some (.lst ys)) (xs:List V):H tp≠some (.tup xs):=fun e=>by rw [h] at e;cases e
theorem Z8.bump {tp:Addr} {k:Int} {ys:List V} {H H':Hp} (ht:H tp=some (.lst ys)) (b:YW tp k H H') {v:V} {r:RT} (h:Z8 tp H v r):Z8 tp H' v r:=h.keep b.keep (Znm ht)
theorem ZM.bump {c:RC} {K:PySem.W.Frag} {tp:Addr} {k:Int} {ys:List V} {H H':Hp} (ht:H tp=some (.lst ys)) (b:YW tp k H H') {a:Addr} {r:RT} (h:ZM c K H a r):ZM c K H' a r:=by
 have q:∀ {x C dx fs},H x=some (.ins C dx fs)→H' x=some (.ins C dx fs):=fun {x C dx fs} e=>b.keep _ _ (fun z=>by rw [z,ht] at e;cases e) e
 have qt:∀ {p xs},Zi K H p xs→Zi K H' p xs:=fun {p xs} e=>e.imp (fun r=>r.imp (fun e=>b.keep _ _ (fun z=>by rw [z,ht] at e;cases e) e) (fun ⟨o,e⟩=>⟨o,b.keep _ _ (fun z=>by rw [z,ht] at e;cases e) e⟩)) id
 induction h with
 | always h=>exact .always (q h)
 | week h hb=>exact .week (q h) hb
 | span h hx hy _ ih=>exact .span (q h) hx hy ih
 | each h hn hn2 hp=>exact .each (q h) hn hn2 (qt hp)
 | either h _ _ i1 i2=>exact .either (q h) i1 i2
 | both h _ _ i1 i2=>exact .both (q h) i1 i2
 | but h hp _ ih=>exact .but (q h) (qt hp) ih
end K1
namespace L2
open PySem PySem.Spec PyProof.Rows
theorem Zht {X:Cx}:WE (Yn X.prog X.w) X E0:=fun _ _ _ _ _ _ _ h=>by
 obtain ⟨_,_,_,_,_,_,_,_,_,_,_,z⟩:=h
 exact z.elim
end L2
namespace K1
open PySem L2
end K1
namespace L2
open PySem PySem.Spec PyProof.Rows
theorem Zhu:∀ {ts:List Str} {us:List Value},ZJ (ts.map V.str) us→∃ l:List (Str×Tok),us=strValues l∧l.map (·.1)=ts
 | [],_,.nil=>⟨[],rfl,rfl⟩
 | t::r,_,.cons (b:=u) h q=>by
  obtain ⟨tk,rfl⟩:=h
  obtain ⟨l,rfl,e⟩:=Zhu q
  exact ⟨(t,tk)::l,rfl,by rw [List.map_cons,e]⟩
theorem Zhv (n:Nat):∀ (ts:List Str) (k:Nat),ts.foldl (fun a x=>a+x.length+n) k=k+(ts.map fun x=>x.length+n).sum
 | [],k=>by simp
 | t::r,k=>by
  rw [List.foldl_cons,Zhv n r,List.map_cons,List.sum_cons]
  omega
theorem Zhw (n:Nat):∀ ts:List Str,(ts.map fun x=>x.length+n).sum=(ts.map (·.length)).sum+ts.length * n
 | []=>by simp
 | y::r=>by
  have ih:=Zhw n r
  simp only [List.map_cons,List.sum_cons,List.length_cons,Nat.succ_mul]
  omega
def Znn (K:PySem.W.Frag):V→List V→Hp→VK→Prop:=fun x xs H Q=>∃ (z:Str) (p:Addr) (ts:List Str),x=.str z∧xs=[.ref p]∧Zm K H p (ts.map V.str)∧(ts.map fun x=>x.length+z.length).sum≤sizeLine∧Q (.str (Str.join z ts)) H
theorem U2 {X:Cx}:Qh X "str.join" (Znn X.K):=by
 intro pins s σ H x xs v us Q I rx r h
 obtain ⟨z,p,ts,rfl,rfl,hq,hz,q⟩:=h
 obtain ⟨t,rfl⟩:=rx
 obtain ⟨u,rfl,e⟩:=XG r
 cases e
 obtain ⟨its,r',pl,_⟩:=I.list hq
 obtain ⟨l,rfl,el⟩:=Zhu r'
 have hl:Builtin.Str.tooLong ((l.map (·.1)).toArray.foldl (· + ·.length+z.length) 0)=false:=by
  rw [el,List.foldl_toArray,Zhv]
  unfold Builtin.Str.tooLong
  exact decide_eq_false (by omega)
 refine call_meets F.slot_str_join (typeIs_str _ _ _) F.entry_str_join (F.args_str_join_2 _ _) (meets_str_join_list z t p l hl) ⟨pl.isList,?_⟩
 have ej:Builtin.Str.glued z (l.map (·.1))=Str.join z ts:=by rw [el];exact StrLaws.glued_eq_join z ts
 have le:(Str.join z ts).length≤sizeLine:=by
  have h1:=StrLaws.join_length_le z ts
  have h2:=Zhw z.length ts
  omega
 have many:∀ (m:Made),m=.str (Builtin.Str.glued z (l.map (·.1)))→m.post (fun v s'=>wants (EP X pins σ Q) X.xe (.ok (.ret v)) s') s:=fun m e=>by
  subst e
  refine ⟨by rw [ej];exact le,?_⟩
  rw [ej]
  exact ⟨.str _,H,I.tok _,⟨_,rfl⟩,q⟩
 match l,el,many with
 | [],el,many=>exact many _ rfl
 | [y],el,many =>
  obtain ⟨yz,yt⟩:=y
  have e2:Str.join z ts=yz:=by rw [← el];rfl
  rw [e2] at q
  exact ⟨.str yz,H,I,⟨yt,rfl⟩,q⟩
 | y::y2::r2,el,many=>exact many _ rfl
end L2
namespace K1
open PySem L2
def Yi (n:Nat):Str:=Str.ofString (toString ((n:Nat):Int))
def X0 (ss:List Nat):Str:=Str.join (Str.ofString ",") (ss.map Yi)
def X1 (b d:Nat):Str:=if (RT.week b).runs d then Str.ofString "1" else Str.ofString "0"
def U3 (b:Nat):Str:=Str.join (Str.ofString "") ((List.range 7).map (X1 b))
def RT.words:RT→List Str
 | .always=>[Str.ofString "always"]
 | .week b=>[Str.ofString "week",U3 b]
 | .span a b r=>[Str.ofString "span",Yi a,Yi b]++r.words
 | .each n ss=>[Str.ofString "each",Yi n,X0 ss]
 | .either r s=>[Str.ofString "either"]++r.words++s.words
 | .both r s=>[Str.ofString "both"]++r.words++s.words
 | .but ds r=>[Str.ofString "but",X0 ds]++r.words
theorem RT.words_len:∀ r:RT,r.words.length≤3 * r.weight
 | .always | .week _ | .each _ _=>by simp [RT.words,RT.weight]
 | .span a b r=>by
  have:=RT.words_len r
  simp only [RT.words,RT.weight,List.length_append,List.length_cons,List.length_nil]
  omega
 | .but ds r=>by
  have:=RT.words_len r
  simp only [RT.words,RT.weight,List.length_append,List.length_cons,List.length_nil]
  omega
 | .either r s | .both r s=>by
  have h1:=RT.words_len r
  have h2:=RT.words_len s
  simp only [RT.words,RT.weight,List.length_append,List.length_cons,List.length_nil]
  omega
theorem Vv {n:Nat} (h:n < 10000):(((n:Nat):Int).natAbs).log2 < 1920:=by
 rw [Int.natAbs_natCast]
 by_cases h0:n=0
 ·subst h0;decide
 ·exact Nat.lt_trans ((Nat.log2_lt h0 (k:=14)).mpr (Nat.lt_trans h (by decide))) (by decide)
theorem QY {n:Nat} (h:n < 10000):(Yi n).length≤4:=by
 have:=(ZdT h _ rfl).2.1
 rw [XZ] at this
 exact this
theorem ZbF {z:Str} {ts:List Str} {m:Nat} (hz:z.length≤1) (hm:ts.length≤20) (h:∀ x∈ts,x.length≤10):(ts.map fun x=>x.length+z.length).sum≤sizeLine:=by
 have key:∀ l:List Str,(∀ x∈l,x.length≤10)→(l.map fun x=>x.length+z.length).sum≤11 * l.length:=by
  intro l
  induction l with
  | nil=>intro _;simp
  | cons y r ih =>
   intro h
   have h1:=h y List.mem_cons_self
   have h2:=ih fun x hx=>h x (List.mem_cons_of_mem _ hx)
   simp only [List.map_cons,List.sum_cons,List.length_cons]
   omega
 have:=key ts h
 exact Nat.le_trans (show _≤1000 by omega) (by decide)
end K1
namespace L2
open PySem PySem.Spec PyProof.Rows
theorem Zno {prog:Program} {w:World} {A:Around} {R:Result→Shared→Prop} {I:Addr} {fp wr:List Addr} {n:Nat} {P:Nat→Value→Prop} {St:Nat→Heap→Prop} {g:Nat→Int}
  (W:Walks prog w A.in1 I fp wr n P St) (hg:∀ i v,P i v→∃ t,v=.int (g i) t) {S:Addr} (out:S∉fp) :
  ∀ (l:List Int) (j:Nat) (s:Shared) (b:Option Int),(b≠none∨l≠[])→j+l.length=n→(∀ i y,l[i]? = some y→y=g (j+i))→St j s.heap→ZbB S s.heap b →
  (∀ v h' tk,Zhb .none (XM b l) v→(∀ a o,a∉wr→a≠S→s.heap.get? a=some o→h'.get? a=some o)→R (.ok (.ret v)) { s with heap:=h',toks:=tk }) →
  codeAny (model prog w) A (.builtin "max.loop" ⟨[.ref I,.none,.ref S],[]⟩) R s:=by
 have out2:S∉wr:=fun z=>out (W.sub _ z)
 have nme:(toString "max" ++ toString ".loop" : String) = "max.loop" := by decide
 intro l
 induction l with
 | nil =>
  intro j s b hb hj hl st m q
  obtain rfl:j=n:=hj
  obtain ⟨vs,c,e,z⟩:=id m
  apply codeAny_builtin PySem.F.entry_max_loop
  rw [Around.under_plainId PySem.F.plain_max_loop]
  apply wpAny_bind
  apply wpAny_seqItems e rfl
  apply wpAny_bind
  apply wpAny_tryCatch
  apply W.done s _ _ st
  intro h' tk k
  cases b with
  | none=>exact (hb.elim (fun z=>z rfl) fun z=>z rfl).elim
  | some x =>
   obtain ⟨t,rfl⟩:=z
   apply wpAny_bind
   refine wpAny_updateSeq (k S _ out2 e) rfl ?_
   apply wpAny_bind
   apply wpAny_letGo
   apply wpAny_pure
   exact q _ _ tk ⟨t,rfl⟩ fun a o h1 h2 h3=>(Heap.get?_update_other _ _ (Ne.symm h2)).trans (k a o h1 h3)
 | cons y l ih =>
  intro j s b hb hj hl st m q
  obtain ⟨vs,c,e,z⟩:=id m
  have hj2:j < n:=by rw [← hj,List.length_cons];omega
  have ey:y=g j:=hl 0 y rfl
  apply codeAny_builtin PySem.F.entry_max_loop
  rw [Around.under_plainId PySem.F.plain_max_loop]
  apply wpAny_bind
  apply wpAny_seqItems e rfl
  apply wpAny_bind
  apply wpAny_tryCatch
  apply W.item j s _ _ hj2 st
  intro v h' tk pv st' k
  obtain ⟨tv,rfl⟩:=hg j v pv
  have e':=k S _ out2 e
  have next:∀ (h2:Heap),ZbB S h2 (some (Vq b y))→(∀ a o,a≠S→h'.get? a=some o→h2.get? a=some o)→codeAny (model prog w) A (.builtin "max.loop" ⟨[.ref I,.none,.ref S],[]⟩) R { s with heap:=h2,toks:=tk }:=fun h2 m2 k2 =>
   ih (j+1) { s with heap:=h2,toks:=tk } _ (.inl (by intro z;cases z)) (by rw [← hj,List.length_cons];omega) (fun i y' hy=>(hl (i+1) y' hy).trans (by congr 1;omega))
    (W.frame _ _ _ st' fun a ha o ho=>k2 a o (fun z=>out (z ▸ ha)) ho) m2 fun v2 h3 tk2 r k3=>q v2 h3 tk2 r fun a o h1 h2' h3'=>k3 a o h1 h2' (k2 a o h2' (k a o h1 h3'))
  cases b with
  | none =>
   subst z
   show wpAny _ _ (updateSeq S (fun _=>#[.int (g j) tv,.int (g j) tv]) >>= _) _ _ _
   apply wpAny_bind
   refine wpAny_updateSeq e' rfl ?_
   rw [nme]
   apply wpAny_pure
   refine ⟨plainId_quiet PySem.F.plain_max_loop _,next _ ⟨_,_,Heap.get?_update_self _ e' rfl,tv,?_⟩ fun a o h1 h2=>(Heap.get?_update_other _ _ (Ne.symm h1)).trans h2⟩
   rw [ey];rfl
  | some x =>
   obtain ⟨t,rfl⟩:=z
   show wpAny _ _ (tryCatch (holding [.int (g j) tv,.int (g j) tv] (richCompare .Gt (.int (g j) tv) (.int x t) >>= _)) _ >>= _) _ _ _
   apply wpAny_bind
   apply wpAny_tryCatch
   apply wpAny_holding
   apply wpAny_bind
   refine CmpOf.ints_gt (P:=fun i v=>∃ t,v=.int (if i=0 then g j else x) t) (fun i=>if i=0 then g j else x) (fun _ _ z=>z) 0 1 _ _ _ _ _ ⟨_,rfl⟩ ⟨_,rfl⟩ ?_
   apply wpAny_bind
   apply wpAny_holding
   apply wpAny_truthy_bool
   apply wpAny_bind
   apply wpAny_letGo
   apply wpAny_pure
   by_cases gt:g j > x
   ·rw [if_pos (show (fun i j_1:Nat=>decide ((if i=0 then g j else x) > if j_1=0 then g j else x)) 0 1=true from decide_eq_true gt)]
    apply wpAny_bind
    refine wpAny_updateSeq e' rfl ?_
    apply wpAny_bind
    apply wpAny_letGo
    rw [nme]
    apply wpAny_pure
    refine ⟨plainId_quiet PySem.F.plain_max_loop _,next _ ⟨_,_,Heap.get?_update_self _ e' rfl,tv,?_⟩ fun a o h1 h2=>(Heap.get?_update_other _ _ (Ne.symm h1)).trans h2⟩
    rw [show Vq (some x) y=g j by rw [ey];exact if_pos gt]
   ·rw [if_neg (show ¬(fun i j_1:Nat=>decide ((if i=0 then g j else x) > if j_1=0 then g j else x)) 0 1=true from fun z=>gt (of_decide_eq_true z))]
    apply wpAny_bind
    apply wpAny_letGo
    rw [nme]
    apply wpAny_pure
    refine ⟨plainId_quiet PySem.F.plain_max_loop _,next _ ⟨_,_,e',t,?_⟩ fun a o _ h2=>h2⟩
    rw [show Vq (some x) y=x by rw [ey];exact if_neg gt]
theorem Znp (a:Value):argsOk "max" ⟨[a],[]⟩:=by unfold argsOk;kernel_rfl
theorem Znq {X:Cx} (hc:X.calm=true):Xg X (.builtin "max") (fun xs H Q=>∃ (p:Addr) (ns:List Int) (x:Int),xs=[.ref p]∧Zm X.K H p (ns.map V.int)∧ns≠[]∧XM none ns=some x∧Q (.int x) H):=by
 intro pins s σ H xs us Q I r h
 obtain ⟨p,ns,x,rfl,hq,hn,hx,q⟩:=h
 obtain ⟨u,rfl,rx⟩:=XG r
 cases rx
 obtain ⟨its,r',pl,hz⟩:=I.list hq
 have hlen:=r'.length
 obtain ⟨o,n,ho,_⟩:=id pl
 have hne:p≠s.heap.objs.size:=Nat.ne_of_lt (Heap.lt_size ho)
 have nme:(toString "max" ++ toString ".loop" : String) = "max.loop" := by decide
 refine kmb_tree PySem.F.kind_max PySem.F.plain_max PySem.F.entry_max (Znp _) ?_
 show wpAny _ _ (Builtin.Builtins.bindParams "max" ["key","default"] 0 ⟨[],[]⟩ >>= _) _ _ s
 apply wpAny_bind
 refine wpAny_of_eq (show Builtin.Builtins.bindParams "max" ["key","default"] 0 ⟨[],[]⟩=pure [none,none] from rfl) ?_
 apply wpAny_bind
 apply wpAny_pure
 apply wpAny_bind
 refine wpAny_pyIter_list pl.isList ?_
 apply wpAny_bind
 refine wpAny_newObj_type ?_
 rw [nme]
 refine wpAny_pure ⟨plainId_quiet PySem.F.plain_max_loop _,?_⟩
 refine Zno (fp:=[s.heap.objs.size,p]) (wr:=[s.heap.objs.size]) (g:=fun i=>ns.getD i 0) (Walks.list (A:=X.A.in1) (I.ok.hd hc) _ _ hne its.toArray) ?_ ?_ ns 0 _ none (.inr hn) ?_ ?_ ?_ ?_ ?_
 ·intro i v hv
  have hv':its[i]? = some v:=by simpa using hv
  have hi:i < ns.length:=by
   have:=(List.getElem?_eq_some_iff.mp hv').1
   rw [← hlen,List.length_map] at this;exact this
  obtain ⟨w,e1,e2⟩:=r'.get (i:=i) (x:=.int ns[i]) (by rw [List.getElem?_map,List.getElem?_eq_getElem hi];rfl)
  rw [hv'] at e1
  cases e1
  obtain ⟨t,rfl⟩:=e2
  exact ⟨t,by rw [List.getD_eq_getElem?_getD,List.getElem?_eq_getElem hi];rfl⟩
 ·intro hm
  have e1:(s.heap.push { cls:=.type "list_iterator",data:=.fields #[.ref p,.int 0 0] }).objs.size=s.heap.objs.size+1:=Heap.size_push ..
  have lt:=Heap.lt_size ho
  rcases List.mem_cons.mp hm with z | z
  ·have:s.heap.objs.size+1=s.heap.objs.size:=e1.symm.trans z
   omega
  ·have:s.heap.objs.size+1=p:=e1.symm.trans (List.mem_singleton.mp z)
   rw [← this] at lt
   exact absurd lt (Nat.not_lt.mpr (Nat.le_succ _))
 ·rw [List.size_toArray,← hlen,List.length_map,Nat.zero_add]
 ·intro i y hy
  rw [Nat.zero_add,List.getD_eq_getElem?_getD,hy]
  rfl
 ·refine ⟨⟨_,Heap.get?_push_of_some _ (Heap.get?_push_size _ rfl),rfl,rfl⟩,?_⟩
  obtain ⟨o2,e2,r2⟩:=pl.isList
  exact ⟨o2,Heap.get?_push_of_some _ (Heap.get?_push_of_some _ e2),r2⟩
 ·exact ⟨_,_,Heap.get?_push_size _ rfl,rfl⟩
 ·intro v h' tk r k
  have k2:∀ b o,s.heap.get? b=some o→h'.get? b=some o:=fun b o e=>k b o (fun z=>by
    have e1:=Heap.lt_size e
    rw [List.mem_singleton.mp z] at e1
    exact absurd e1 (Nat.lt_irrefl _)) (fun z=>by
    have e1:=Heap.lt_size (Heap.get?_push_of_some { cls:=.type "list_iterator",data:=.fields #[.ref p,.int 0 0] } e)
    rw [z] at e1
    exact absurd e1 (Nat.lt_irrefl _)) (Heap.get?_push_of_some _ (Heap.get?_push_of_some _ e))
  have hv:∃ tv,v=.int x tv:=by
   rw [hx] at r
   exact r
  obtain ⟨tv,rfl⟩:=hv
  exact ⟨.int _,H,I.kept (t':=tk) k2,⟨_,rfl⟩,q⟩
end L2
namespace L2
open PySem PySem.Spec PyProof.Rows
end L2
namespace L2
open PySem PySem.Spec PyProof.Rows
end L2
namespace L2
open PySem PySem.Spec PyProof.Rows
section
variable {X:Cx} {pins:List (Addr×Obj)} {σ:St} {H:Hp} {s:Shared} {h':Heap}
theorem Zd.turnedL {t':Nat} {fp:List Addr} (I:Zd X pins σ H s) (k:∀ b o,b∉fp→s.heap.get? b=some o→h'.get? b=some o) (hf:∀ b∈fp,Wd X pins H b):Zd X pins σ H { s with heap:=h',toks:=t' }:=by
 have nit:∀ b u,H b=some u→b∉fp:=fun b u e z=>by rw [(hf b z).1] at e;cases e
 refine I.step (g':=s.gens) (d':=s.drawn) (ch:=fp) (fun b hb=>⟨(hf b hb).2.2.2.1,(hf b hb).2.1,(hf b hb).2.2.2.2.1,(hf b hb).2.2.2.2.2⟩) (fun b o _ _ hc e _=>k b o hc e) (fun b o _ _ hc e _=>⟨o.slots,k b o hc e⟩) (fun _ _ _ _ n=>n)
  (fun b o hc e=>⟨o,k b o hc e⟩) (fun _ _ e=>e) (fun _ _ _ e=>e) (fun b ps e=>⟨#[],by rw [e];simp⟩) (fun m hm=>?_) (fun b u e=>?_) I.bare
 ·obtain ⟨o,es,ep,ho,r⟩:=hm
  exact ⟨o,es,ep,k _ o (fun z=>(hf _ z).2.1 rfl) ho,r⟩
 ·refine (I.hok b u e).stay (fun c v hc q=>k c v ?_ q) (fun _ q=>q) fun _ _ q=>q
  rcases hc with z | z
  ·rw [z];exact nit b u e
  ·exact nit c _ z
theorem Zd.paired {t':Nat} {fp:List Addr} {x y:V} {u v:Value} (I:Zd X pins σ H s) (hf:∀ b∈fp,Wd X pins H b) (ht:∀ b∈fp,∃ o,s.heap.get? b=some o)
  (k:∀ b o,b∉fp→s.heap.get? b=some o→h'.get? b=some o) (hT:h'.get? s.heap.objs.size=some { cls:=.type "tuple",data:=.seq #[u,v] }) (rx:ZY x u) (ry:ZY y v) :
  Zd X pins σ (upd H s.heap.objs.size (.tup [x,y])) { s with heap:=h',toks:=t' }∧∀ b∈fp,upd H s.heap.objs.size (.tup [x,y]) b=none:=by
 have I1:Zd X pins σ (upd H s.heap.objs.size (.tup [x,y])) { s with heap:=s.heap.push { cls:=.type "tuple",data:=.seq #[u,v] },toks:=t' } :=
  I.laid (fun b ob q=>Heap.get?_push_of_some _ q) (Nat.le_refl _) ⟨show 2≤sizeLine by decide,[u,v],.cons rx (.cons ry .nil),IsTup.new _ _⟩
 have ne:∀ b∈fp,b≠s.heap.objs.size:=fun b hb e=>by
  obtain ⟨o,q⟩:=ht b hb
  exact absurd (Heap.lt_size q) (by rw [e];exact Nat.lt_irrefl _)
 have nn:∀ b∈fp,upd H s.heap.objs.size (.tup [x,y]) b=none:=fun b hb=>by rw [ZO (ne b hb)];exact (hf b hb).1
 refine ⟨Zd.turnedL (s:={ s with heap:=s.heap.push { cls:=.type "tuple",data:=.seq #[u,v] },toks:=t' }) (t':=t') (fp:=fp) I1 (fun b o hb e=>?_) (fun b hb=>⟨nn b hb,(hf b hb).2⟩),nn⟩
 have e':(s.heap.push { cls:=.type "tuple",data:=.seq #[u,v] }).get? b=some o:=e
 by_cases hb2:b=s.heap.objs.size
 ·subst hb2
  rw [Heap.get?_push_size _ rfl] at e'
  cases e'
  exact hT
 ·rw [Heap.get?_push_ne _ _ _ hb2] at e'
  exact k b o hb e'
end
section
variable {X:Cx}
end
end L2
namespace L2
open PySem PySem.Spec PyProof.Rows
section
variable {κ:Type} [DecidableEq κ]
end
section
variable {P:Program} {w:World} {H:Hp} {h:Heap} {a:Addr}
end
section
variable {X:Cx} {pins:List (Addr×Obj)} {σ:St} {H:Hp} {s:Shared} {a:Addr} {y v:V} {u r:Value} {o:Option V} {A:Around} {E:Value→Shared→Prop}
end
section
variable {X:Cx} {pins:List (Addr×Obj)} {σ:St} {H:Hp} {s:Shared} {a:Addr} {kvs:List (YY×V)} {k:YY} {u:Value} {A:Around} {E:Value→Shared→Prop}
end
section
variable {X:Cx} {o i e value:Expr} {pos pos' tpos:Pos} {td ty tv:TE}
end
section
variable {X:Cx} {pos:Pos}
end
structure M1 (X:Cx) (o:Expr) (m:Str) (apos:Pos) (e:Expr) (cpos:Pos):Prop where
 base:attributeBase o m X.env (eval o X.env)=eval o X.env
 few:((backTo cpos (starEach [e] X.env)).all (fun x=>!x.1) && (backToKw cpos (keywordEach [] X.env)).all (fun x=>x.1.isSome)
  && decide (([e]:List Expr).length+([]:List Keyword).length+(if ([]:List Keyword).isEmpty then 0 else 1) < 30))=true
 line:(apos.endLine == cpos.line)=true
 trees:backTo cpos (starEach [e] X.env)=[(false,eval e X.env)]
structure M2 (X:Cx) (o:Expr) (m:Str) (apos:Pos) (e f:Expr) (cpos:Pos):Prop where
 base:attributeBase o m X.env (eval o X.env)=eval o X.env
 few:((backTo cpos (starEach [e,f] X.env)).all (fun x=>!x.1) && (backToKw cpos (keywordEach [] X.env)).all (fun x=>x.1.isSome)
  && decide (([e,f]:List Expr).length+([]:List Keyword).length+(if ([]:List Keyword).isEmpty then 0 else 1) < 30))=true
 line:(apos.endLine == cpos.line)=true
 trees:backTo cpos (starEach [e,f] X.env)=[(false,eval e X.env),(false,eval f X.env)]
section
variable {X:Cx} {pins:List (Addr×Obj)} {σ:St} {H:Hp} {s:Shared} {a:Addr} {y d:V} {u r:Value} {o:Option V} {A:Around} {E:Value→Shared→Prop}
end
section
variable {X:Cx} {o e f:Expr} {apos cpos:Pos} {td ty tx:TE}
end
section
variable {X:Cx} {pins:List (Addr×Obj)} {σ:St} {H:Hp} {s:Shared} {a:Addr} {kvs:List (YY×V)} {A:Around} {E:Value→Shared→Prop}
end
section
variable {X:Cx} {pins:List (Addr×Obj)} {σ:St} {H:Hp} {s:Shared} {a:Addr} {y:V} {u:Value} {A:Around} {E:Value→Shared→Prop}
end
end L2
namespace L2
open PySem PySem.Spec PyProof.Rows
section
variable {X:Cx}
end
section
variable {κ:Type} [DecidableEq κ]
end
end L2
namespace L2
open PySem PySem.Spec PyProof.Rows
section
variable {prog:Program} {w:World} {A:Around} {E:Value→Shared→Prop} {s:Shared} {κ:Type} [DecidableEq κ] {knd:KeyKind prog w κ}
end
section
variable {X:Cx}
theorem Zhx:∀ {xs ys:List V} {us vs:List Value},ZJ xs us→ZJ ys vs→ZJ (xs++ys) (us++vs)
 | _,_,_,_,.nil,r=>r
 | _,_,_,_,.cons r t,q=>.cons r (Zhx t q)
theorem Zhy:∀ {xs:List V} {us:List Value},ZJ xs us→ZJ xs.reverse us.reverse
 | _,_,.nil=>.nil
 | _,_,.cons r t=>by rw [List.reverse_cons,List.reverse_cons];exact Zhx (Zhy t) (.cons r .nil)
end
end L2
namespace K1
open PySem L2
inductive Al {β α:Type} (R:β→α→Prop):List β→List α→Prop where
 | nil:Al R [] []
 | cons {v:β} {x:α} {vs:List β} {xs:List α}:R v x→Al R vs xs→Al R (v::vs) (x::xs)
section
variable {β α:Type} {R R':β→α→Prop}
end
end K1
namespace L2
open PySem PySem.Spec PyProof.Rows
section
variable {X:Cx} {pins:List (Addr×Obj)} {σ:St} {H:Hp} {s:Shared}
open Classical in
noncomputable def eqD (h:Heap) (dx:PyData) (u:Value):Bool:=if ∃ d as,Reads h u d as∧PyData.eqv d dx=true then true else false
end
end L2
namespace L2
open PySem PySem.Spec PyProof.Rows
section
variable {X:Cx}
end
section
variable {prog:Program} {w:World} {A:Around} {E:Value→Shared→Prop} {s:Shared}
end
def Itx (z:Str):It:=⟨fun i _=>i < z.cps.size,fun i H x H'=>H'=H∧∃ c,z.cps.toList[i]? = some c∧x=.str ⟨#[c]⟩,fun i _=>i=z.cps.size⟩
theorem Zhz {P:Program} {w:World} {K:PySem.W.Frag} {tg:Expr} (z:Str) (t:Tok) (it:Addr) (ty:String) (hty:["enumerate","zip","dict_itemiterator","dict_reverseitemiterator","odict_iterator","itertools.zip_longest","itertools.pairwise"].contains ty=false)
  (W:∀ A:Around,A.handled=none→Walks P w A it [it] [it] z.cps.size (SignAt z) (fun i h=>h.IsStrIter it ty z t i))
  (S:∀ (A:Around) (i:Nat) (s:Shared) (Q:Value→Shared→Prop) (E:Value→Shared→Prop),s.heap.IsStrIter it ty z t i→Q (.ref it) s→wpAny (model P w) A (pyIter (.ref it)) Q E s):QN P w K tg (Itx z) [it] it (fun i h=>h.IsStrIter it ty z t i) where
 mem:=by simp
 obj:=fun i h st b hb=>by
  have e:b=it:=by simpa using hb
  subst e
  obtain ⟨o,e,c,d⟩:=st
  exact ⟨o,e,fun v z=>by rw [d] at z;cases z⟩
 keep:=fun i h h' st k=>let ⟨o,ho,r⟩:=st;⟨o,k it (by simp) o ho,r⟩
 item:=by
  intro X hP hw hK hc i pins s σ H E I hf st hg
  subst hP hw hK
  obtain ⟨f0,f1,f2,f3,f4,f5⟩:=hf it (by simp)
  refine (W X.A (I.ok.hd hc)).item i s _ E hg st fun v h' tk hP st' hk=>?_
  obtain ⟨c,u,e1,rfl⟩:=hP
  have I1:Zd X pins σ H { s with heap:=h',toks:=tk }:=I.turned (t':=tk) (fun b o hb e=>hk b o (by simpa using hb) e) f0 f1 f3 f4 f5
  obtain ⟨o,e,c',d⟩:=id st'
  exact ⟨_,rfl,Zbg (s:={ s with heap:=h',toks:=tk }) e c' d hty ⟨.str ⟨#[c]⟩,H,I1,⟨u,rfl⟩,⟨rfl,c,by simpa using e1,rfl⟩,st',fun b hb=>(hf b hb).1⟩⟩
 done:=by
  intro X hP hw hK hc i pins s σ H E I hf st hg
  subst hP hw hK
  obtain ⟨f0,f1,f2,f3,f4,f5⟩:=hf it (by simp)
  have hg:i=z.cps.size:=hg
  subst hg
  exact (W X.A (I.ok.hd hc)).done s _ E st fun h' tk hk=>⟨rfl,I.turned (t':=tk) (fun b o hb e=>hk b o (by simpa using hb) e) f0 f1 f3 f4 f5⟩
 self:=fun A i s Q E st h=>S A i s Q E st h
def Znr (tl:TE):TI:=fun σ H R=>tl σ H fun x H1=>∃ z,x=.str z∧R (Itx z) H1
theorem Zns {X:Cx} {tg l:Expr} {tl:TE} (hl:PE X l tl):PI X tg l (Znr tl):=by
 intro pins s σ H R I h
 refine ZK (hl pins s σ H _ I h) fun v s1 ⟨x,H1,I1,r1,z,e,q⟩=>?_
 subst e
 obtain ⟨t,rfl⟩:=r1
 have fin:∀ b∈[s1.heap.objs.size],Wd X pins H1 b:=fun b hb=>by
  have e:b=s1.heap.objs.size:=by simpa using hb
  subst e
  exact I1.fpOk (Nat.le_refl _) (I1.hok.fresh (Nat.le_refl _))
 cases ha:z.cps.all (· < 128)
 ·refine wpAny_pyIter_wide ha ?_
  exact ⟨s1.heap.objs.size,[s1.heap.objs.size],_,_,H1,rfl,I1.kept (t':=s1.toks) fun b o e=>Heap.get?_push_of_some _ e,Zhz z t _ "str_iterator" (by decide) (fun A hh=>Walks.strWide hh _ z t) (fun A i s Q E st h=>wpAny_pyIter_striter_wide st h),⟨_,Heap.get?_push_size _ rfl,rfl,rfl⟩,fin,q⟩
 ·refine wpAny_pyIter_ascii ha ?_
  exact ⟨s1.heap.objs.size,[s1.heap.objs.size],_,_,H1,rfl,I1.kept (t':=s1.toks) fun b o e=>Heap.get?_push_of_some _ e,Zhz z t _ "str_ascii_iterator" (by decide) (fun A hh=>Walks.strAscii hh _ z t) (fun A i s Q E st h=>wpAny_pyIter_striter_ascii st h),⟨_,Heap.get?_push_size _ rfl,rfl,rfl⟩,fin,q⟩
theorem Znt {z:Str} {g:TG} {tt:TT} {te:TE} {σ0:St} {H:Hp} {Q:VK} (Pv:Nat→List V→St→Hp→Prop) (h0:Pv 0 [] σ0 H) (hz:z.length≤sizeLine)
  (hs:∀ i c acc σ H,acc.length≤i→z.cps.toList[i]? = some c→Pv i acc σ H→g (.str ⟨#[c]⟩) σ H fun σ2 H2=>tt σ2 H2 fun b H3=>if b=true then te σ2 H3 fun y H4=>(acc++[y]).length≤i+1∧Pv (i+1) (acc++[y]) σ2 H4 else acc.length≤i+1∧Pv (i+1) acc σ2 H3)
  (hd:∀ acc σ H,acc.length≤z.cps.size→Pv z.cps.size acc σ H→Vo Q acc H) :
  ∃ W:Nat→Nat→List V→St→Hp→Prop,(∃ m,W 0 m [] σ0 H)∧∀ i m acc σ1 H,W i m acc σ1 H →
   ((Itx z).stop i H∧Vo Q acc H) ∨
   ((Itx z).go i H∧acc.length < sizeLine∧∃ N:List V→St→Hp→Prop,(∀ acc' σ' H',N acc' σ' H'→∃ m',m' < m∧W (i+1) m' acc' σ' H')∧∀ x H',(Itx z).yld i H x H'→g x σ1 H' fun σ2 H2=>tt σ2 H2 fun b H3=>if b=true then te σ2 H3 fun y H4=>N (acc++[y]) σ2 H4 else N acc σ2 H3):=by
 refine ⟨fun i m acc σ H=>m=z.cps.size - i∧i≤z.cps.size∧acc.length≤i∧Pv i acc σ H,⟨z.cps.size,by simp,Nat.zero_le _,Nat.zero_le _,h0⟩,?_⟩
 rintro i m acc σ1 H ⟨rfl,hi,ha,p⟩
 have hz:z.cps.size≤sizeLine:=hz
 by_cases hlt:i < z.cps.size
 ·refine .inr ⟨hlt,by omega,fun acc' σ' H'=>acc'.length≤i+1∧Pv (i+1) acc' σ' H',fun acc' σ' H' z=>⟨_,by omega,rfl,hlt,z.1,z.2⟩,fun x H' y=>?_⟩
  obtain ⟨e,c,hc,y⟩:=y
  subst e y
  exact hs i c acc σ1 _ ha hc p
 ·have e:i=z.cps.size:=by omega
  subst e
  exact .inl ⟨rfl,hd acc σ1 H ha p⟩
end L2
namespace L2
open PySem PySem.Spec PyProof.Rows
theorem Znu:entryFor table "proto.unchain" = some Builtin.«proto.unchain»:=entryFor_of_tree (by kernel_rfl)
theorem Znv {prog:Program} {w:World} {A:Around} {E:Value→Shared→Prop} {s:Shared} {α:Type} {a e:Addr} {ob:Obj} {vs:Array Value} {Q:α→Shared→Prop} (hh:A.handled=some (.ref a)) (ne:a≠e) (nc:Xi s.heap a)
  (he:s.heap.get? e=some ob) (hd:ob.data=.fields vs) (hs:2 < vs.size) (h:E (.ref e) { s with heap:=s.heap.update e (Obj.mapFields (·.setIfInBounds 2 (.ref a))) }) :
  wpAny (model prog w) A (raiseNew (.ref e):Sem α) Q E s:=by
 obtain ⟨oa,va,ha,da,ca⟩:=nc
 unfold raiseNew
 refine wpAny_bind (wpAny_handled ?_)
 rw [hh]
 dsimp only
 rw [if_pos (show (Value.ref a != Value.ref e)=true by simp [ne])]
 refine wpAny_bind (wpAny_holding (wpAny_runValue (codeAny_builtin Znu ?_)))
 unfold Builtin.«proto.unchain»
 dsimp only
 refine wpAny_bind (wpAny_field ha da ca ?_)
 rw [if_pos (by rfl)]
 refine wpAny_pure ?_
 refine wpAny_bind ?_
 unfold updateField
 refine wpAny_bind (wpAny_load he ?_)
 rw [hd]
 dsimp only
 rw [if_pos hs]
 refine wpAny_update he ?_
 exact wpAny_throw h
section
variable {prog:Program} {w:World} {A:Around} {E:Value→Shared→Prop} {env:Env}
variable {nm q:Str} {C N:Addr} {bs bm:List Value} {hdct:Bool} {sn:List Str} {sub:List Value} {ab:Bool} {col:Option Bool} {dd:Option Addr} {k0 k1 k2 k3 k5:Option Value} {newId:String}
def QZ (h:Heap) (e a:Addr):Heap:=((h.update e (Obj.mapFields (·.setIfInBounds 3 .none))).update e (Obj.mapFields (·.setIfInBounds 4 (.bool true)))).update e (Obj.mapFields (·.setIfInBounds 2 (.ref a)))
theorem Znw {s:Shared} {x:Sem Value} {pos:Pos} {Q:Flow→Shared→Prop} {a:Addr} (hbase:bm.contains (.type "BaseException")=true) (hh:A.handled=some (.ref a))
  (h:wpAny (model prog w) A x (fun v s₁=>∃ e t,v=.ref e∧s₁.heap.get? C=some (excClassObj nm q C N bs bm hdct sn sub ab col dd k0 k1 k2 k3 k5 newId)∧C≠e∧a≠e∧Xi s₁.heap a ∧
   s₁.heap.get? e=some { cls:=.ref C,data:=.fields #[.ref t,.none,.none,.none,.bool false,.none] }∧E (.ref e) { s₁ with heap:=QZ s₁.heap e a }) E s) :
  wpAny (model prog w) A (raiseStmt env (some x) (some (do let v ← (pure .none:Sem Value);standAt pos;pure v))) Q E s:=by
 have hcB:(Value.ref C::bm).contains (.type "BaseException")=true:=by rw [List.contains_cons,hbase,Bool.or_true]
 unfold raiseStmt
 refine wpAny_bind (wpAny_mono h (fun v s₁ h₁=>?_) fun _ _ x=>x)
 obtain ⟨e,t,rfl,hC,neC,nea,nc,he,hE⟩:=h₁
 obtain ⟨hp,g,d,tk,os⟩:=s₁
 repeat (first | with_reducible refine wpAny_loadPart_at he ?_ | with_reducible refine wpAny_loadPart_at hC ?_ | (with_reducible refine wpAny_isSubtype_exc hC ?_;rw [hcB]) | wp_step)
 have d1:({ cls:=.ref C,data:=.fields #[.ref t,.none,.none,.none,.bool false,.none] }:Obj).data=.fields #[.ref t,.none,.none,.none,.bool false,.none]:=rfl
 have d2:=Obj.data_mapFields d1 (·.setIfInBounds 3 Value.none)
 have d3:=Obj.data_mapFields d2 (·.setIfInBounds 4 (Value.bool true))
 have e2:=Heap.get?_update_self (Obj.mapFields (·.setIfInBounds 3 Value.none)) he (Obj.isFreed_of_fields d2)
 have e3:=Heap.get?_update_self (Obj.mapFields (·.setIfInBounds 4 (Value.bool true))) e2 (Obj.isFreed_of_fields d3)
 refine Znv hh nea ?_ e3 d3 (by simp) hE
 obtain ⟨oa,va,ha,r⟩:=nc
 exact ⟨oa,va,(Heap.get?_update_other _ _ (Ne.symm nea)).trans ((Heap.get?_update_other _ _ (Ne.symm nea)).trans ha),r⟩
theorem Znx {s:Shared} {B initId:String} {bmB:List Value} (F:ExcBaseFacts B newId initId bmB) {mN:Str→Option Value} {x:Str} {np cpos cp pos:Pos} {kk:Nat} {args:List Expr} {Q:Flow→Shared→Prop} {a:Addr}
  (hbase:bm.contains (.type "BaseException")=true) (hh:A.handled=some (.ref a)) (hplain:(backTo cpos (starEach args env)).any (·.1)=false) (hni:mN "__init__" = none)
  (h:wpAny (model prog w) A (eval (.Name x np) env) (fun f s₁=>f=.ref C∧wpAny (model prog w) A (evalArgs (.ref C) true (backTo cpos (starEach args env)) [])
   (fun v s₂=>v.kw=[]∧v.pos.length≤sizeLine∧s₂.heap.get? C=some (excClassObj nm q C N bs bm hdct sn sub ab col dd k0 k1 k2 k3 k5 newId)∧s₂.heap.Ns N mN∧OwnTail s₂.heap bmB bm∧Xi s₂.heap a ∧
    ∀ h' e,Heap.MadeExcOf s₂.heap h' e (.ref C) v.pos→E (.ref e) { s₂ with heap:=QZ h' e a }) E s₁) E s) :
  wpAny (model prog w) A (exec (.Raise (some (.Call (.Name x np) args [] cpos)) (some (.Constant .none kk cp)) pos) env) Q E s:=by
 rw [arm_exec_Raise]
 refine wpAny_bind (wpAny_standAt ?_)
 show wpAny _ _ (raiseStmt env (some (do let v ← eval (.Call (.Name x np) args [] cpos) env;standAt pos;pure v)) (some (do let v ← (pure .none:Sem Value);standAt pos;pure v))) _ _ _
 refine Znw (C:=C) (nm:=nm) (q:=q) (N:=N) (bs:=bs) (bm:=bm) (hdct:=hdct) (sn:=sn) (sub:=sub) (ab:=ab) (col:=col) (dd:=dd) (k0:=k0) (k1:=k1) (k2:=k2) (k3:=k3) (k5:=k5) (newId:=newId) hbase hh ?_
 refine wpAny_bind (wpAny_mono (wpAny_Call_ofName (wpAny_mono h (fun f s₁ h₁=>?_) fun _ _ x=>x)) (fun v s₃ h₃=>wpAny_bind (wpAny_standAt (wpAny_pure h₃))) fun _ _ x=>x)
 obtain ⟨rfl,h₁⟩:=h₁
 unfold callWith
 refine wpAny_bind (wpAny_holding (wpAny_mono h₁ (fun v s₂ h₂=>wpAny_bind (wpAny_standAt ?_)) fun _ _ x=>x))
 obtain ⟨apos,akw⟩:=v
 obtain ⟨hkw,hlen,hC,hn,T,nc,h₂⟩:=h₂
 obtain rfl:akw=[]:=hkw
 obtain ⟨hp,g,d,tk,os⟩:=s₂
 simp only [hplain]
 refine wpAny_bind (wpAny_keeperOf_exc hC ?_)
 refine wpAny_bind (wpAny_call_exc_subT (hrest:=hlen) F T hC hn hni fun h' e hm=>wpAny_bind (wpAny_holding (wpAny_point (wpAny_pure ?_))))
 obtain ⟨t,ht,_,_⟩:=hm.there
 have ne:∀ {b o},hp.get? b=some o→b≠e:=fun {b o} z y=>by rw [y,hm.new] at z;cases z
 obtain ⟨oa,va,ha,r⟩:=nc
 exact ⟨e,t,rfl,hm.keeps _ _ hC,ne hC,ne ha,⟨oa,va,hm.keeps _ _ ha,r⟩,ht,h₂ h' e hm⟩
end
theorem Zny {h:Heap} {e a b:Addr} (ne:b≠e):(QZ h e a).get? b=h.get? b :=
 (Heap.get?_update_other _ _ ne.symm).trans ((Heap.get?_update_other _ _ ne.symm).trans (Heap.get?_update_other _ _ ne.symm))
theorem Znz {h:Heap} {e a t:Addr} {C:Value} (he:h.get? e=some { cls:=C,data:=.fields #[.ref t,.none,.none,.none,.bool false,.none] }) :
  ∃ ob,(QZ h e a).get? e=some ob∧ob.cls=C∧ob.data=.fields #[.ref t,.none,.ref a,.none,.bool true,.none]:=by
 have d1:({ cls:=C,data:=.fields #[.ref t,.none,.none,.none,.bool false,.none] }:Obj).data=.fields #[.ref t,.none,.none,.none,.bool false,.none]:=rfl
 have d2:=Obj.data_mapFields d1 (·.setIfInBounds 3 Value.none)
 have d3:=Obj.data_mapFields d2 (·.setIfInBounds 4 (Value.bool true))
 have d4:=Obj.data_mapFields d3 (·.setIfInBounds 2 (Value.ref a))
 have e2:=Heap.get?_update_self (Obj.mapFields (·.setIfInBounds 3 Value.none)) he (Obj.isFreed_of_fields d2)
 have e3:=Heap.get?_update_self (Obj.mapFields (·.setIfInBounds 4 (Value.bool true))) e2 (Obj.isFreed_of_fields d3)
 exact ⟨_,Heap.get?_update_self (Obj.mapFields (·.setIfInBounds 2 (Value.ref a))) e3 (Obj.isFreed_of_fields d4),by rw [Obj.cls_mapFields,Obj.cls_mapFields,Obj.cls_mapFields],d4.trans (by simp)⟩
theorem ZnA {M:Model} {A:Around} {E:Value→Shared→Prop} {s:Shared} {base:Heap} {l:List Env} {e L:Addr} {cls a0 fl:Value} {Q:Unit→Shared→Prop} (kb:base.StaysIn s.heap) (en:base.get? e=none) (fr:s.heap.FunFrames base l) (tr:s.heap.TracedAtW base e cls a0 fl)
  (h:∀ h',Heap.HeldW base l e cls a0 L h'→s.heap.UpToSlots h'→Q () { s with heap:=h' }):wpAny M A (setFlight (.ref e) (some L)) Q E s:=by
 obtain ⟨oe,vs,T,oT,ts,he,hc,hd,h1,nT,Te,hT,dT,h3⟩:=tr
 have z3:3 < ts.size:=(Array.getElem?_eq_some_iff.mp h3).1
 have d2:=Obj.data_mapFields dT (·.setIfInBounds 3 (rawInt L))
 have off:∀ b,b≠T→(s.heap.update T (Obj.mapFields (·.setIfInBounds 3 (rawInt L)))).get? b=s.heap.get? b:=fun b hb=>Heap.get?_update_other _ _ hb.symm
 have rec_:∀ b o,s.heap.get? b=some o→(∀ vs,o.data≠.fields vs)→b≠T:=fun b o q n z=>by
  subst z
  rw [hT] at q
  cases q
  exact n _ dT
 unfold setFlight
 refine wpAny_bind (wpAny_field he hd h1 ?_)
 rw [if_pos (by rfl)]
 refine wpAny_setField hT dT z3 (h _ ⟨fun b o q=>(off b fun z=>?_).trans (kb b o q),en,fr.of_keeps fun b o q n=>⟨o,(off b (rec_ b o q n)).trans q,rfl⟩,?_⟩ fun b o q n=>⟨o.slots,(off b (rec_ b o q n)).trans q⟩)
 ·rw [z,nT] at q
  cases q
 ·exact ⟨oe,vs,T,_,_,(off e Te.symm).trans he,hc,hd,h1,nT,Te,Heap.get?_update_self _ hT (Obj.isFreed_of_fields d2),d2,by simp [z3]⟩
def ZhA (X:Cx) (E:XK):Prop:=∀ (pins:List (Addr×Obj)) (σ:St) (H:Hp) (s:Shared) (B:Heap) (t a:Addr) (C:Value) (o:Option Addr),Zd X pins σ H s→Heap.HeldW B X.stack a C (.ref t) X.env.locals s.heap→H a=none→(o=none→Xi s.heap a) →
 (∀ b ob,s.heap.get? b=some ob→((∃ u,X.s₀.heap.get? b=some u)∨∃ u,H b=some u)→b∉Z2 X.stack→B.get? b=some ob)→E C o H→X.xe (.ref a) s
section
variable {P:Program} {w:World} {K:PySem.W.Frag} {mg:Str→Option Value} {base:Heap} {N:List Str} {qual:Str} {scope:Scope} {f:Addr} {cd:Value} {A:Around} {outer:List Env} {s:Shared} {H:Hp} {E:XK}
theorem ZnB:ZhA (WF (Yn P w) P w K mg base N qual scope f cd A outer s H E) E:=by
 intro pins σ H1 s1 B t a C o I hh ha nc inB hE
 have sn:s.heap.get? s.heap.objs.size=none:=Heap.get?_none_of_le (Nat.le_refl _)
 show wpAny _ _ (leaving _ _) _ _ _
 unfold leaving
 refine wpAny_bind (wpAny_noteFrame_againW rfl hh.2.2.2 ?_)
 refine KC.with (e:=a) (W:=fun h2=>Heap.FlyingW B (envOfC qual scope s.heap.objs.size f cd::outer) a C (.ref t) h2∧s1.heap.UpToSlots h2) (ZaG _ _) nc (wpAny_landsW hh fun h2 fl up=>⟨h2,rfl,fl,up⟩) fun h2 ⟨fl,up⟩ nc=>?_
 obtain ⟨j1,j2,⟨_,_,j3⟩,j4⟩:=fl
 have frd:=I.frd
 obtain ⟨u1,u2,u3⟩:=ZdL (P:=P) (w:=w) (L:=s.heap.objs.size) (h1:=s1.heap) rfl sn I.base I.hok I.stkFree (fun b hb o e=>frd b (Zbv hb) o e) inB ⟨j1,j2,j3,j4⟩ ha up
 exact ⟨a,C,H1,rfl,I.os,I.bare,u1,u2,u3,o,nc,hE⟩
end
def exN (a:Addr) (C:Value):HO:=.ext fun h=>∃ ob vs,h.get? a=some ob∧ob.cls=C∧ob.data=.fields vs∧vs[2]? = some .none
def ZnC (X:Cx) (pins:List (Addr×Obj)) (Kx:XK) (e:Value) (s':Shared):Prop :=
 ∃ (a:Addr) (C:Value) (o:Option Addr) (σ:St) (H:Hp) (g:Heap),e=.ref a∧Zd X pins σ H s'∧Fly X.stack g H a C s'.heap∧(∀ p∈X.pn++pins,∃ u,g.get? p.1=some u) ∧
  (∀ b u,X.s₀.heap.get? b=some u→b∉X.ex→∃ u',g.get? b=some u')∧(o=none→Xi s'.heap a)∧Kx C o H
abbrev ZbG (X:Cx) (pins:List (Addr×Obj)) (Kx:XK):Cx:={ X with pn:=X.pn++pins,xe:=ZnC X pins Kx }
section
variable {X:Cx} {pins pins':List (Addr×Obj)} {σ:St} {H:Hp} {s:Shared} {Kx:XK} {a:Addr}
theorem Zd.toTryN (I:Zd X pins σ H s):Zd (ZbG X pins Kx) [] σ H s:=by
 have J:Zd (QS X pins fun _ _=>True) [] σ H s:=I.toTry
 exact ⟨⟨J.ok.mod,J.ok.kind,J.ok.glob,J.ok.blt,J.ok.above,J.ok.inj,J.ok.has,J.ok.cab,J.ok.hd,J.ok.frames,J.ok.stk,J.ok.exf,J.ok.bs,J.ok.bsz,J.ok.noex,J.ok.exfs,J.ok.funs,J.ok.frf⟩,
  J.os,J.bare,J.base,J.loc,J.cell,J.free,J.freeC,J.pin,J.hok,J.len⟩
theorem Zd.ofTryN (J:Zd (ZbG X pins Kx) pins' σ H s):Zd X pins σ H s:=by
 have I:Zd (QS X pins fun _ _=>True) pins' σ H s :=
  ⟨⟨J.ok.mod,J.ok.kind,J.ok.glob,J.ok.blt,J.ok.above,J.ok.inj,J.ok.has,J.ok.cab,J.ok.hd,J.ok.frames,J.ok.stk,J.ok.exf,J.ok.bs,J.ok.bsz,J.ok.noex,J.ok.exfs,J.ok.funs,J.ok.frf⟩,
  J.os,J.bare,J.base,J.loc,J.cell,J.free,J.freeC,J.pin,J.hok,J.len⟩
 exact I.ofTry
theorem ZnD:WE (Yn X.prog X.w) (ZbG X pins Kx) Kx:=by
 intro p2 σ1 H1 s1 e s' I hc
 obtain ⟨a,C,H',rfl,os,bare,un,hok,fly,o,nc,hE⟩:=hc
 have I0:Zd X pins σ1 H1 s1:=I.ofTryN
 exact ⟨a,C,o,σ1,H',s1.heap,rfl,I0.call' os un hok bare (fun b z=>nomatch z),fly,fun p hp=>⟨p.2,(I0.pin p hp).1⟩,fun b u q hx=>I0.base.there b u q hx,nc,hE⟩
end
section
variable {X:Cx} {E:XK} {body:List Stmt} {x y:Str} {R C:Addr} {np np2 cpos cp rpos hpos pos:Pos} {kk:Nat} {e:Expr} {es:List Expr} {tb:XK→TS} {t:TA}
def ZnE (K:PySem.W.Frag) (R C:Addr) (N:Nat) (E:XK) (tb:XK→TS) (t:TA):TS:=fun D σ H =>
 tb (fun C' o H'=>(PySem.W.exmOne K C' (.ref R)=some false∧E C' o H')∨(PySem.W.exmOne K C' (.ref R)=some true∧o=none ∧
  ∀ a,H' a=none→t (List.replicate N none) (upd H' a (exN a C')) fun vs H1=>vs.length≤sizeLine∧H1 a=some (exN a C')∧E (.ref C) (some a) H1)) D σ H
theorem ZnF (hst:X.stack=X.env::X.outer∧X.env.frame=some X.env.locals) (hex:X.ex=[]) (hO:ZhA X E) (c:ExC X.K C) (hg:Gl X x) (hm:X.mg x=some (.ref R)) (hgy:Gl X y) (hmy:X.mg y=some (.ref C))
  (hb:∀ pins Kx,XD (ZbG X pins Kx) body (tb Kx)) (ha:∀ a,PA (WY X a) (e::es) t) (hdb:(x == ("__debug__" : Str))=false:=by decide) (hdy:(y == ("__debug__" : Str))=false:=by decide)
  (he:starEach (e::es) X.env=(false,eval e X.env)::starEach es X.env:=by rfl) (hpl:(backTo cpos (starEach es X.env)).any (·.1)=false:=by rfl) :
  PS X (.Try body [.ExceptHandler (some (.Name x np)) none [.Raise (some (.Call (.Name y np2) (e::es) [] cpos)) (some (.Constant .none kk cp)) rpos] hpos] [] [] pos) (ZnE X.K R C X.N.length E tb t):=by
 intro pins s σ H D I h
 refine wpAny_Try_except (wpAny_mono (hb pins _ [] s σ H D I.toTryN h) (fun f s1 q=>?_) fun e1 s1 q=>?_)
 ·cases f with
  | next=>obtain ⟨σ',H',I',q⟩:=q;exact wpAny_execs_nil ⟨σ',H',I'.ofTryN,q⟩
  | brk=>obtain ⟨σ',H',I',q⟩:=q;exact ⟨σ',H',I'.ofTryN,q⟩
  | cont=>obtain ⟨σ',H',I',q⟩:=q;exact ⟨σ',H',I'.ofTryN,q⟩
  | ret u=>obtain ⟨v,σ',H',I',r,q⟩:=q;exact ⟨v,σ',H',I'.ofTryN,r,q⟩
 obtain ⟨a,C',o,σ1,H1,g,rfl,I1,⟨B,t0,fl,ha1,inB⟩,hpn,hg0,nc,hk⟩:=q
 obtain ⟨es1,es2⟩:=hst
 have mv:∀ h',B.StaysIn h'→s1.heap.UpToSlots h'→Zd X pins σ1 H1 { s1 with heap:=h' }:=fun h' st up=>I1.moved (fun b o e hb hn=>st b o (inB b o e (by
  rcases hb with ⟨u,q,hx⟩ | ⟨u,q⟩ | ⟨p,hp,rfl⟩
  ·exact .inl (hg0 b u q hx)
  ·exact .inr ⟨u,q⟩
  ·exact .inl (hpn p hp)) hn)) up
 have frA:X.A.frames=some (X.env::X.outer):=by rw [← es1];exact I.ok.frames
 rw [es1] at fl
 refine KC.with (e:=a) (W:=fun h4=>Heap.HeldW B (X.env::X.outer) a C' (.ref t0) X.env.locals h4∧s1.heap.UpToSlots h4) (ZgF _ _) nc (wpAny_looks_onW frA es2 fl fun h4 hl up=>⟨h4,rfl,hl,up⟩) fun h4 ⟨hl4,up4⟩ nc=>?_
 refine KC.with (s:={ s1 with heap:=h4 }) (e:=a) (W:=fun h5=>Heap.FlyingW B (X.env::X.outer) a C' (.ref t0) h5∧h4.UpToSlots h5) (ZaG _ _) nc (wpAny_landsW hl4 fun h5 fl up=>⟨h5,rfl,fl,up⟩) fun h5 ⟨fl5,up5⟩ nc=>?_
 have I5:=mv h5 fl5.1 (up4.trans up5)
 obtain ⟨ob5,hob5,hc5⟩:=fl5.there
 have LT:PySem.W.Looks (model X.prog X.w) h5 (typeOf (.ref a)) C':=hc5 ▸ (PySem.W.Looks.ld hob5).andThen .now
 refine wpAny_handleBy_cons (codeAny_handlers_test (UP (X:=WY X a) I5.toSuite hg hm ?_ hdb)) (by intro z;cases z)
 rcases hk with ⟨hm1,hE⟩ | ⟨hm1,rfl,hk⟩
 ·refine (PySem.W.exm_one (K:=X.K) (I5.kIn:X.K.In h5) LT hm1) _ _ _ _ (fun _ _ z=>z) ?_
  refine wpAny_handleBy_nil ?_
  obtain ⟨f1,f2,f3,oe,ws,T,oT,ts,he5,hc,hd,h1,rest⟩:=id fl5
  unfold PySem.passOn
  refine wpAny_bind (wpAny_field he5 hd h1 ?_)
  rw [if_neg (show ¬ ((Value.ref T == Value.none)=true) from by simp)]
  rw [es2]
  refine wpAny_bind (KC.with (s:={ s1 with heap:=h5 }) (e:=a) (W:=fun h6=>Heap.HeldW B (X.env::X.outer) a C' (.ref t0) X.env.locals h6∧h5.UpToSlots h6) (ZaG _ _) nc
   (PySem.W.setFlight_onW fl5 fun h6 hh up=>⟨h6,rfl,hh,up⟩) fun h6 ⟨hh,up6⟩ nc=>wpAny_throw ?_)
  refine hO pins σ1 H1 _ B t0 a C' o (mv h6 hh.1 ((up4.trans up5).trans up6)) (by rw [es1];exact hh) ha1 nc (fun b ob q hb hn=>?_) hE
  have h1b:∃ o',s1.heap.get? b=some o':=by
   rcases hb with ⟨u,q⟩ | ⟨u,q⟩
   ·exact I1.base.there b u q (by rw [hex];exact fun z=>nomatch z)
   ·exact (I1.hok b u q).has
  obtain ⟨o',q1⟩:=h1b
  have q2:=inB b o' q1 (hb.imp (fun ⟨u,q⟩=>hg0 b u q (by rw [hex];exact fun z=>nomatch z)) id) hn
  have q3:=hh.1 b o' q2
  have q4:h6.get? b=some ob:=q
  rw [q3] at q4
  cases q4
  exact q2
 ·refine (PySem.W.exm_one (K:=X.K) (I5.kIn:X.K.In h5) LT hm1) _ _ _ _ (fun _ _ z=>z) ?_
  refine codeAny_handlers_suite ?_
  refine KC.with (s:={ s1 with heap:=h5 }) (e:=a) (W:=fun h6=>Heap.FlyingW B (X.env::X.outer) a C' (.ref t0) h6∧h5.UpToSlots h6) (ZaG _ _) nc (lands_againW fl5 fun h6 fl up=>⟨h6,rfl,fl,up⟩) fun h6 ⟨fl6,up6⟩ nc=>?_
  have I6:=mv h6 fl6.1 ((up4.trans up5).trans up6)
  obtain ⟨ob6,vs6,hob6,hc6,hd6,_⟩:=fl6.first
  have nfr:∀ o,s1.heap.get? a=some o→a∉Z2 X.stack:=fun o e z=>by
   obtain ⟨ob,vs,q1,_,q2,_⟩:=fl.first
   exact I1.frd a z ob q1 vs q2
  have notin:∀ u,g.get? a=some u→False:=fun u q=>by
   obtain ⟨ob,vs,q1,_,q2,_⟩:=fl.first
   have z:=inB a ob q1 (.inl ⟨u,q⟩) (nfr ob q1)
   rw [fl.2.1] at z;cases z
  have h0:X.s₀.heap.get? a=none:=by
   cases q:X.s₀.heap.get? a with
   | none=>rfl
   | some u =>
    obtain ⟨u',z⟩:=hg0 a u q (by rw [hex];exact fun z=>nomatch z)
    exact (notin u' z).elim
  have hp:∀ p∈X.pn++pins,p.1≠a:=fun p hp z=>by
   obtain ⟨u,q⟩:=hpn p hp
   rw [z] at q
   exact notin u q
  have nc6:∃ vs,ob6.data=.fields vs∧vs[2]? = some .none:=by
   obtain ⟨on,vn,q1,q2,q3⟩:=nc rfl
   rw [hob6] at q1
   cases q1
   exact ⟨vn,q2,q3⟩
  obtain ⟨vn,dn,cn⟩:=nc6
  have I7:Zd X pins σ1 (upd H1 a (exN a C')) { s1 with heap:=h6 }:=I6.track ha1 hob6 hd6 h0 hp
   ⟨⟨ob6,vn,hob6,hc6,dn,cn⟩,⟨ob6,hob6⟩,fun ha hb ⟨o,v,z1,z2⟩ k=>⟨o,v,k o z1,z2⟩⟩
  have I8:Zd X pins (List.replicate X.N.length none) (upd H1 a (exN a C')) { s1 with heap:=h6 }:=I7.weak (by rw [List.length_replicate,I7.len]) fun j v q=>by
   rw [List.getElem?_replicate] at q
   split at q <;> cases q
  obtain ⟨bm,Nn,nm,qn,bs,hd,sn,sub,ab,col,dd,k0,k1,k2,k3,k5,mN,hC,hN,hni,TL⟩:=ZgI I.ok.mod.kin c.ex
  refine wpAny_execs_cons ?_
  refine Znx (C:=C) (nm:=nm) (q:=qn) (N:=Nn) (bs:=bs) (bm:=bm) (hdct:=hd) (sn:=sn) (sub:=sub) (ab:=ab) (col:=col) (dd:=dd) (k0:=k0) (k1:=k1) (k2:=k2) (k3:=k3) (k5:=k5)
   PySem.F.excBase_ValueError (mN:=mN) (TL.hasType PySem.F.excBase_ValueError.hasBase) rfl ?_ hni (UP (X:=WY X a) I8.toSuite hgy hmy ⟨rfl,?_⟩ hdy)
  ·rw [he]
   show (false || (backTo cpos (starEach es X.env)).any (·.1))=false
   rw [hpl];rfl
  have q:=ha a cpos pins { s1 with heap:=h6 } _ _ _ I8.toSuite (hk a ha1)
  have he':starEach (e::es) (WY X a).env=(false,eval e X.env)::starEach es X.env:=he
  rw [he'] at q
  rw [he]
  refine Calls.evalArgs_plain (wpAny_mono q (fun us s2 hs=>?_) fun _ _ z=>z.elim)
  obtain ⟨vs,H2,I2,r,hl,hH2,hE⟩:=hs
  have J:Zd X pins (List.replicate X.N.length none) H2 s2:=I2.ofSuite I.ok.hd
  have nc2:Xi s2.heap a:=by
   obtain ⟨⟨ob,vs',q1,_,q2,q3⟩,_⟩:=J.hok a _ hH2
   exact ⟨ob,vs',q1,q2,q3⟩
  refine ⟨rfl,by rw [← r.length];exact hl,I2.bk _ _ hC,hN.keeps I2.bk,TL.keeps I2.bk,nc2,fun h' e2 hx=>?_⟩
  have hin:∀ env∈X.stack,∀ b,env.frame=some b→b∈Z2 X.stack:=fun env he b hb=>List.mem_filterMap.mpr ⟨env,he,hb⟩
  obtain ⟨t9,he9,_,_⟩:=hx.there
  obtain ⟨ob9,hb9,hc9,hd9⟩:=Znz (a:=a) he9
  have old:∀ b o,s2.heap.get? b=some o→(QZ h' e2 a).get? b=some o:=fun b o q=>by
   rw [Zny fun z=>by rw [z,hx.new] at q;cases q]
   exact hx.keeps b o q
  have B0:∀ b o,(PySem.W.hideAll s2.heap (Z2 X.stack)).get? b=some o→s2.heap.get? b=some o:=fun b o q=>PySem.W.of_hideAll _ q
  have en:(PySem.W.hideAll s2.heap (Z2 X.stack)).get? e2=none:=by
   cases q:(PySem.W.hideAll s2.heap (Z2 X.stack)).get? e2 with
   | none=>rfl
   | some u=>have z:=B0 e2 u q;rw [hx.new] at z;cases z
  have fr9:(QZ h' e2 a).FunFrames (PySem.W.hideAll s2.heap (Z2 X.stack)) (X.env::X.outer):=by
   rw [← es1]
   exact (PySem.W.funFrames_hide J.stack hin).of_keeps fun b o q _=>⟨o,old b o q,rfl⟩
  show wpAny _ _ (noteFrame (.ref e2) X.env) _ _ _
  unfold noteFrame
  simp only [es2]
  refine wpAny_bind (wpAny_field hb9 hd9 (x:=.none) rfl ?_)
  rw [if_neg (by decide)]
  refine wpAny_entryW (L:=X.env.locals) (base:=PySem.W.hideAll s2.heap (Z2 X.stack)) (a0:=.ref t9) frA fr9 es2 hb9 (fun b o q=>old b o (B0 b o q)) en hd9 (by simp) rfl fun h7 ⟨x1,x2,x3,x4⟩=>?_
  rw [hc9] at x3
  show cameBackBy _ _ _ _ _ _
  unfold cameBackBy
  obtain ⟨oe,ws,T,oT,ts,he7,hc7,hd7,h17,rest⟩:=id x3
  refine wpAny_bind (wpAny_field he7 hd7 h17 ?_)
  rw [if_neg (show ¬ ((Value.ref T == Value.none)=true) from by simp)]
  rw [es2]
  refine ZnA x1 en x2 x3 fun h8 hh up8=>?_
  have hh2:Heap.HeldW (PySem.W.hideAll s2.heap (Z2 X.stack)) X.stack e2 (.ref C) (.ref t9) X.env.locals h8:=by
   generalize PySem.W.hideAll s2.heap (Z2 X.stack)=BB at hh ⊢
   rw [es1]
   exact hh
  refine hO pins (List.replicate X.N.length none) H2 _ (PySem.W.hideAll s2.heap (Z2 X.stack)) t9 e2 (.ref C) (some a) (J.moved (fun b o q hb hn=>hh.1 b o (PySem.W.hideAll_get _ q hn)) ((Heap.UpToSlots.of_keeps old).trans (Heap.UpToSlots.trans x4 up8))) hh2
   (J.hasNo hx.new) (fun z=>nomatch z) (fun b ob q hb hn=>?_) hE
  have h2b:∃ o',s2.heap.get? b=some o':=by
   rcases hb with ⟨u,q⟩ | ⟨u,q⟩
   ·exact J.base.there b u q (by rw [hex];exact fun z=>nomatch z)
   ·exact (J.hok b u q).has
  obtain ⟨o',q1⟩:=h2b
  have q2:=PySem.W.hideAll_get _ q1 hn
  have q3:=hh.1 b o' q2
  have q4:h8.get? b=some ob:=q
  rw [q3] at q4
  cases q4
  exact q2
end
end L2
namespace K1
open PySem L2
abbrev Zu (z:Str):List Nat:=z.cps.toList
def kw (s:String):List Nat:=Zu (Str.ofString s)
def bv:List Nat→Nat
 | []=>0
 | c::r=>(c - 48)+2 * bv r
def W1 (w:List Nat):Option Nat:=if w.length=7∧w.all (fun c=>c == 48 || c == 49)=true then some (bv w) else none
def Vw {α:Type}:List (Option α)→Option (List α)
 | []=>some []
 | none::_=>none
 | some x::r=>match Vw r with
  | some l=>some (x::l)
  | none=>none
def XN (w:List Nat):List (Option Nat):=(spl 44 w).map Yb
def X2 (w:List Nat) (hi:Nat):Option (List Nat):=match Vw (XN w) with
 | some ds=>if ds.Pairwise (· < ·)∧ds.length≤12∧∀ x∈ds,x≤hi then some ds else none
 | none=>none
abbrev Wl:=Option (RT×List (List Nat))
def WM:List (List Nat)→Wl
 | s::r=>match W1 s with
  | some b=>some (.week b,r)
  | none=>none
 | []=>none
def Wm:List (List Nat)→Wl
 | n::l::r=>match Yb n with
  | some m=>if 1≤m∧m≤28 then (match X2 l (m - 1) with
   | some ss=>some (.each m ss,r)
   | none=>none) else none
  | none=>none
 | _=>none
def YA (mk:RT→RT→RT) (f:List (List Nat)→Wl) (ws:List (List Nat)):Wl:=match f ws with
 | some (T,q)=>(match f q with
  | some (U,q2)=>some (mk T U,q2)
  | none=>none)
 | none=>none
def X9 (f:List (List Nat)→Wl):List (List Nat)→Wl
 | l::r=>match f r with
  | some (T,q)=>(match X2 l 9999 with
   | some ds=>some (.but ds T,q)
   | none=>none)
  | none=>none
 | []=>none
def Wa (f:List (List Nat)→Wl):List (List Nat)→Wl
 | a::b::r=>match f r with
  | some (T,q)=>(match Yb a,Yb b with
   | some x,some y=>if x≤y∧y≤9999 then some (.span x y T,q) else none
   | _,_=>none)
  | none=>none
 | _=>none
def Yz (f:List (List Nat)→Wl) (w:List Nat) (ws:List (List Nat)):Wl :=
 if w=kw "either" then YA .either f ws else if w=kw "both" then YA .both f ws else if w=kw "but" then X9 f ws else if w=kw "span" then Wa f ws else none
def YB (w:List Nat) (ws:List (List Nat)):Wl :=
 if w=kw "always" then some (.always,ws) else if w=kw "week" then WM ws else if w=kw "each" then Wm ws else none
def W2 (w:List Nat):Prop:=w=kw "either" ∨ w=kw "both" ∨ w=kw "but" ∨ w=kw "span"
instance (w:List Nat):Decidable (W2 w):=by unfold W2;infer_instance
def rd:Nat→List (List Nat)→Wl
 | 0,_=>none
 | _+1,[]=>none
 | d+1,w::ws=>if W2 w then Yz (rd d) w ws else YB w ws
def YS (l:List Nat):Option RT:=match rd 8 (spl 32 l) with
 | some (T,[])=>if T.weight≤15 then some T else none
 | _=>none
theorem Zd2 {α:Type}:∀ {l:List (Option α)} {ds:List α},Vw l=some ds→ds.length=l.length∧l=ds.map some
 | [],_,h=>by cases h;exact ⟨rfl,rfl⟩
 | none::_,_,h=>by cases h
 | some x::r,ds,h=>by
  unfold Vw at h
  split at h
  ·next l e =>
   cases h
   obtain ⟨e1,e2⟩:=Zd2 e
   exact ⟨by rw [List.length_cons,List.length_cons,e1],by rw [List.map_cons,← e2]⟩
  ·cases h
theorem ZhB {α:Type}:∀ ds:List α,Vw (ds.map some)=some ds
 | []=>rfl
 | x::r=>by
  show (match Vw (r.map some) with | some l=>some (x::l) | none=>none)=_
  rw [ZhB r]
theorem ZhC {α:Type}:∀ {l:List (Option α)},Vw l=none→none∈l
 | [],h=>by cases h
 | none::_,_=>List.mem_cons_self
 | some x::r,h=>by
  unfold Vw at h
  split at h
  ·cases h
  ·next e=>exact List.mem_cons_of_mem _ (ZhC e)
theorem Zd3 {w:List Nat} {hi:Nat} {ds:List Nat} (h:X2 w hi=some ds):XN w=ds.map some∧ds.Pairwise (· < ·)∧ds.length≤12∧∀ x∈ds,x≤hi:=by
 unfold X2 at h
 split at h
 ·next l e =>
  split at h
  ·next c=>cases h;exact ⟨(Zd2 e).2,c⟩
  ·cases h
 ·cases h
theorem ZbH {w:List Nat} {hi:Nat} {ds:List Nat} (h:X2 w hi=some ds):Vt ds 0 hi:=by
 obtain ⟨e,c1,c2,c3⟩:=Zd3 h
 refine ⟨?_,c2,c1,fun x hx=>⟨Nat.zero_le _,c3 x hx⟩⟩
 cases ds with
 | nil =>
  have z:(spl 44 w)=[]:=List.map_eq_nil_iff.mp (show (spl 44 w).map Yb=[] from e)
  exact absurd z (UY 44 w)
 | cons a r=>exact Nat.le_add_left 1 _
theorem ZbI {w:List Nat} {hi:Nat} {ds:List Nat} (e:XN w=ds.map some) (c:Vt ds 0 hi):X2 w hi=some ds:=by
 unfold X2
 rw [e,ZhB]
 exact if_pos ⟨c.up,c.few,fun x hx=>(c.all x hx).2⟩
theorem ZhD:∀ w:List Nat,w.all (fun c=>c == 48 || c == 49)=true→bv w < 2 ^ w.length
 | [],_=>by decide
 | c::r,h=>by
  rw [List.all_cons,Bool.and_eq_true,Bool.or_eq_true,beq_iff_eq,beq_iff_eq] at h
  have ih:=ZhD r h.2
  show (c - 48)+2 * bv r < 2 ^ (r.length+1)
  rw [Nat.pow_succ]
  omega
theorem ZhE {w:List Nat} {b:Nat} (h:W1 w=some b):b≤127:=by
 unfold W1 at h
 split at h
 ·next c =>
  cases h
  have:=ZhD w c.2
  rw [c.1] at this
  omega
 ·cases h
theorem ZbJ {n:Nat} (h:n < 10000):Yb (Zu (Yi n))=some n:=by
 obtain ⟨h1,h2,h3,h4,h5,_⟩:=ZdT h (Zu (Yi n)) rfl
 unfold Yb
 rw [if_pos ⟨by omega,fun z=>by rw [z] at h1;exact absurd h1 (by decide),h3,h4⟩,h5]
theorem Zd4 {n c:Nat} (h:n < 10000) (hc:c < 48):c∉Zu (Yi n):=fun z=>by
 obtain ⟨_,_,h3,_⟩:=ZdT h _ rfl
 have:48≤c∧c≤57:=of_decide_eq_true (List.all_eq_true.mp h3 c z)
 omega
theorem ZbK:Str.ofString "," = ⟨#[44]⟩:=by decide +kernel
theorem room:Str.ofString " " = ⟨#[32]⟩:=by decide +kernel
theorem Zd5 {ds:List Nat} (h:ds≠[]) (hl:∀ x∈ds,x < 10000):XN (Zu (X0 ds))=ds.map some:=by
 unfold XN X0
 rw [ZbK]
 show (spl 44 (Str.join ⟨#[44]⟩ (ds.map Yi)).cps.toList).map Yb=_
 rw [Qn,Zby]
 ·rw [List.map_map,List.map_map]
  exact List.map_congr_left fun x hx=>ZbJ (hl x hx)
 ·intro z
  exact h (List.map_eq_nil_iff.mp (List.map_eq_nil_iff.mp z))
 ·intro p hp
  obtain ⟨y,hy,rfl⟩:=List.mem_map.mp hp
  obtain ⟨x,hx,rfl⟩:=List.mem_map.mp hy
  exact Zd4 (hl x hx) (by decide)
theorem ZnG:∀ b,b < 128→W1 (Zu (U3 b))=some b:=by decide +kernel
theorem ZhF:∀ b,b < 128→Zu (U3 b)∉([]:List (List Nat))∧32∉Zu (U3 b)∧(Zu (U3 b)).length=7:=by decide +kernel
theorem W3:∀ {d:Nat} {ws q:List (List Nat)} {T:RT},rd d ws=some (T,q)→T.good∧T.depth≤d
 | 0,_,_,_,h=>by cases h
 | _+1,[],_,_,h=>by cases h
 | d+1,w::ws,q,T,h=>by
  have ih:=@W3 d
  unfold rd at h
  split at h
  ·unfold Yz at h
   have pr:∀ (mk:RT→RT→RT),(∀ r s:RT,r.good→s.good→(mk r s).good)→(∀ r s:RT,(mk r s).depth=1+max r.depth s.depth)→YA mk (rd d) ws=some (T,q)→T.good∧T.depth≤d+1:=fun mk hg hd h=>by
    unfold YA at h
    split at h
    ·next T1 q1 e1 =>
     split at h
     ·next T2 q2 e2 =>
      cases h
      obtain ⟨g1,d1⟩:=ih e1
      obtain ⟨g2,d2⟩:=ih e2
      exact ⟨hg _ _ g1 g2,by rw [hd];omega⟩
     ·cases h
    ·cases h
   split at h
   ·exact pr .either (fun _ _ a b=>⟨a,b⟩) (fun _ _=>rfl) h
   split at h
   ·exact pr .both (fun _ _ a b=>⟨a,b⟩) (fun _ _=>rfl) h
   split at h
   ·unfold X9 at h
    split at h
    ·next l r =>
     split at h
     ·next T1 q1 e1 =>
      split at h
      ·next ds e2 =>
       cases h
       obtain ⟨g1,d1⟩:=ih e1
       exact ⟨⟨ZbH e2,g1⟩,by show 1+T1.depth≤_;omega⟩
      ·cases h
     ·cases h
    ·cases h
   split at h
   ·unfold Wa at h
    split at h
    ·next a b r =>
     split at h
     ·next T1 q1 e1 =>
      split at h
      ·next x y ex ey =>
       split at h
       ·next c =>
        cases h
        obtain ⟨g1,d1⟩:=ih e1
        exact ⟨⟨c.1,c.2,g1⟩,by show 1+T1.depth≤_;omega⟩
       ·cases h
      ·cases h
     ·cases h
    ·cases h
   ·cases h
  ·unfold YB at h
   split at h
   ·cases h
    exact ⟨trivial,by show 1≤_;omega⟩
   split at h
   ·unfold WM at h
    split at h
    ·split at h
     ·next b e =>
      cases h
      exact ⟨ZhE e,by show 1≤_;omega⟩
     ·cases h
    ·cases h
   split at h
   ·unfold Wm at h
    split at h
    ·split at h
     ·split at h
      ·next m e c =>
       split at h
       ·next ss e2 =>
        cases h
        exact ⟨⟨c.1,c.2,ZbH e2⟩,by show 1≤_;omega⟩
       ·cases h
      ·cases h
     ·cases h
    ·cases h
   ·cases h
theorem ZnH (d:Nat) (r:List (List Nat)):rd (d+1) (kw "always" :: r)=some (.always,r):=by
 unfold rd;rw [if_neg (by decide +kernel)];exact if_pos rfl
theorem ZhG (d:Nat) (r:List (List Nat)):rd (d+1) (kw "week" :: r)=WM r:=by
 unfold rd;rw [if_neg (by decide +kernel)];unfold YB;rw [if_neg (by decide +kernel),if_pos rfl]
theorem ZhH (d:Nat) (r:List (List Nat)):rd (d+1) (kw "each" :: r)=Wm r:=by
 unfold rd;rw [if_neg (by decide +kernel)];unfold YB;rw [if_neg (by decide +kernel),if_neg (by decide +kernel),if_pos rfl]
theorem ZhI (d:Nat) (r:List (List Nat)):rd (d+1) (kw "either" :: r)=YA .either (rd d) r:=by
 rw [rd,if_pos (.inl rfl)];unfold Yz;rw [if_pos rfl]
theorem ZhJ (d:Nat) (r:List (List Nat)):rd (d+1) (kw "both" :: r)=YA .both (rd d) r:=by
 rw [rd,if_pos (.inr (.inl rfl))];unfold Yz;rw [if_neg (by decide +kernel),if_pos rfl]
theorem ZhK (d:Nat) (r:List (List Nat)):rd (d+1) (kw "but" :: r)=X9 (rd d) r:=by
 rw [rd,if_pos (.inr (.inr (.inl rfl)))];unfold Yz;rw [if_neg (by decide +kernel),if_neg (by decide +kernel),if_pos rfl]
theorem ZhL (d:Nat) (r:List (List Nat)):rd (d+1) (kw "span" :: r)=Wa (rd d) r:=by
 rw [rd,if_pos (.inr (.inr (.inr rfl)))];unfold Yz;rw [if_neg (by decide +kernel),if_neg (by decide +kernel),if_neg (by decide +kernel),if_pos rfl]
theorem ZnI {d:Nat} {w:List Nat} {r:List (List Nat)} (h1:w≠kw "always") (h2:w≠kw "week") (h3:w≠kw "span") (h4:w≠kw "each") (h5:w≠kw "either") (h6:w≠kw "both") (h7:w≠kw "but"):rd (d+1) (w::r)=none:=by
 rw [rd,if_neg (by rintro (z | z | z | z) <;> contradiction)]
 unfold YB
 rw [if_neg h1,if_neg h2,if_neg h4]
theorem ZbL:∀ {d:Nat} {ws q:List (List Nat)} {T:RT},rd d ws=some (T,q)→q <:+ ws
 | 0,_,_,_,h=>by cases h
 | _+1,[],_,_,h=>by cases h
 | d+1,w::ws,q,T,h=>by
  have ih:=@ZbL d
  have up:∀ {l:List (List Nat)},q <:+ l→l <:+ ws→q <:+ w::ws:=fun a b=>(a.trans b).trans (List.suffix_cons _ _)
  have pr:∀ {mk:RT→RT→RT},YA mk (rd d) ws=some (T,q)→q <:+ w::ws:=fun {mk} h=>by
   unfold YA at h
   split at h
   ·next T1 q1 e1 =>
    split at h
    ·next T2 q2 e2=>cases h;exact up (ih e2) (ih e1)
    ·cases h
   ·cases h
  rw [rd] at h
  split at h
  ·unfold Yz at h
   split at h
   ·exact pr h
   split at h
   ·exact pr h
   split at h
   ·unfold X9 at h
    split at h
    ·next l r =>
     split at h
     ·next T1 q1 e1 =>
      split at h
      ·cases h;exact up (ih e1) (List.suffix_cons _ _)
      ·cases h
     ·cases h
    ·cases h
   split at h
   ·unfold Wa at h
    split at h
    ·next a b r =>
     split at h
     ·next T1 q1 e1 =>
      split at h
      ·split at h
       ·cases h;exact up (ih e1) ((List.suffix_cons _ _).trans (List.suffix_cons _ _))
       ·cases h
      ·cases h
     ·cases h
    ·cases h
   ·cases h
  ·unfold YB at h
   split at h
   ·cases h;exact List.suffix_cons _ _
   split at h
   ·unfold WM at h
    split at h
    ·split at h
     ·cases h;exact up (List.suffix_refl _) (List.suffix_cons _ _)
     ·cases h
    ·cases h
   split at h
   ·unfold Wm at h
    split at h
    ·split at h
     ·split at h
      ·split at h
       ·cases h;exact up (List.suffix_refl _) ((List.suffix_cons _ _).trans (List.suffix_cons _ _))
       ·cases h
      ·cases h
     ·cases h
    ·cases h
   ·cases h
theorem Qr:∀ (T:RT) (d:Nat) (rest:List (List Nat)),T.good→T.depth≤d→rd d (T.words.map Zu++rest)=some (T,rest)
 | T,0,rest,_,hd=>by have:=T.depth_pos;omega
 | .always,d+1,rest,_,_=>by
  show (if W2 (kw "always") then _ else YB (kw "always") rest)=_
  rw [if_neg (by decide +kernel)]
  exact if_pos rfl
 | .week b,d+1,rest,g,_=>by
  show (if W2 (kw "week") then _ else YB (kw "week") (Zu (U3 b)::rest))=_
  rw [if_neg (by decide +kernel)]
  unfold YB
  rw [if_neg (by decide +kernel),if_pos rfl]
  unfold WM
  dsimp only
  rw [ZnG b (Nat.lt_succ_of_le g)]
 | .each n ss,d+1,rest,g,_=>by
  obtain ⟨g1,g2,g3⟩:=g
  show (if W2 (kw "each") then _ else YB (kw "each") (Zu (Yi n)::Zu (X0 ss)::rest))=_
  rw [if_neg (by decide +kernel)]
  unfold YB
  rw [if_neg (by decide +kernel),if_neg (by decide +kernel),if_pos rfl]
  unfold Wm
  have ne:ss≠[]:=fun z=>by have:=g3.one;rw [z] at this;exact absurd this (by decide)
  have al:∀ x∈ss,x < 10000:=fun x hx=>by have:=(g3.all x hx).2;omega
  dsimp only
  rw [ZbJ (by omega)]
  dsimp only
  rw [if_pos ⟨g1,g2⟩,ZbI (Zd5 ne al) g3]
 | .either r s,d+1,rest,g,hd=>by
  have hd':1+max r.depth s.depth≤d+1:=hd
  have h1:=Qr r d (s.words.map Zu++rest) g.1 (by omega)
  have h2:=Qr s d rest g.2 (by omega)
  have e:(RT.either r s).words.map Zu++rest=kw "either" :: (r.words.map Zu++(s.words.map Zu++rest)):=by
   show (([Str.ofString "either"]++r.words++s.words).map Zu)++rest=_
   rw [List.map_append,List.map_append,List.append_assoc,List.append_assoc]
   rfl
  rw [e]
  unfold rd
  rw [if_pos (.inl rfl)]
  unfold Yz
  rw [if_pos rfl]
  unfold YA
  rw [h1]
  dsimp only
  rw [h2]
 | .both r s,d+1,rest,g,hd=>by
  have hd':1+max r.depth s.depth≤d+1:=hd
  have h1:=Qr r d (s.words.map Zu++rest) g.1 (by omega)
  have h2:=Qr s d rest g.2 (by omega)
  have e:(RT.both r s).words.map Zu++rest=kw "both" :: (r.words.map Zu++(s.words.map Zu++rest)):=by
   show (([Str.ofString "both"]++r.words++s.words).map Zu)++rest=_
   rw [List.map_append,List.map_append,List.append_assoc,List.append_assoc]
   rfl
  rw [e]
  unfold rd
  rw [if_pos (.inr (.inl rfl))]
  unfold Yz
  rw [if_neg (by decide +kernel),if_pos rfl]
  unfold YA
  rw [h1]
  dsimp only
  rw [h2]
 | .but ds r,d+1,rest,g,hd=>by
  have hd':1+r.depth≤d+1:=hd
  have h1:=Qr r d rest g.2 (by omega)
  have e:(RT.but ds r).words.map Zu++rest=kw "but" :: Zu (X0 ds)::(r.words.map Zu++rest):=by
   show (([Str.ofString "but",X0 ds]++r.words).map Zu)++rest=_
   rw [List.map_append,List.append_assoc]
   rfl
  have ne:ds≠[]:=fun z=>by have:=g.1.one;rw [z] at this;exact absurd this (by decide)
  have al:∀ x∈ds,x < 10000:=fun x hx=>by have:=(g.1.all x hx).2;omega
  rw [e]
  unfold rd
  rw [if_pos (.inr (.inr (.inl rfl)))]
  unfold Yz
  rw [if_neg (by decide +kernel),if_neg (by decide +kernel),if_pos rfl]
  unfold X9
  dsimp only
  rw [h1]
  dsimp only
  rw [ZbI (Zd5 ne al) g.1]
 | .span a b r,d+1,rest,g,hd=>by
  obtain ⟨g1,g2,g3⟩:=g
  have hd':1+r.depth≤d+1:=hd
  have h1:=Qr r d rest g3 (by omega)
  have e:(RT.span a b r).words.map Zu++rest=kw "span" :: Zu (Yi a)::Zu (Yi b)::(r.words.map Zu++rest):=by
   show (([Str.ofString "span",Yi a,Yi b]++r.words).map Zu)++rest=_
   rw [List.map_append,List.append_assoc]
   rfl
  rw [e]
  unfold rd
  rw [if_pos (.inr (.inr (.inr rfl)))]
  unfold Yz
  rw [if_neg (by decide +kernel),if_neg (by decide +kernel),if_neg (by decide +kernel),if_pos rfl]
  unfold Wa
  dsimp only
  rw [h1]
  dsimp only
  rw [ZbJ (by omega),ZbJ (by omega)]
  dsimp only
  rw [if_pos ⟨g1,g2⟩]
theorem Zd6:∀ (T:RT),T.good→∀ x∈T.words,32∉Zu x∧x.length≤100:=by
 have k1:∀ s∈["always","week","span","each","either","both","but"],32∉Zu (Str.ofString s)∧(Str.ofString s).length≤100:=by decide +kernel
 have k2:∀ n,n < 10000→32∉Zu (Yi n)∧(Yi n).length≤100:=fun n h=>⟨Zd4 h (by decide),Nat.le_trans (QY h) (by decide)⟩
 have k3:∀ ds:List Nat,ds.length≤12→(∀ x∈ds,x < 10000)→32∉Zu (X0 ds)∧(X0 ds).length≤100:=fun ds hl ha=>by
  refine ⟨?_,?_⟩
  ·unfold X0
   rw [ZbK]
   show 32∉(Str.join ⟨#[44]⟩ (ds.map Yi)).cps.toList
   rw [Qn]
   have key:∀ l:List (List Nat),(∀ p∈l,32∉p)→32∉Wj 44 l:=by
    intro l
    induction l with
    | nil=>intro _ z;cases z
    | cons p r ih =>
     intro h z
     cases r with
     | nil=>exact h p List.mem_cons_self z
     | cons q r =>
      rcases List.mem_append.mp (show 32∈p++44::Wj 44 (q::r) from z) with z | z
      ·exact h p List.mem_cons_self z
      ·rcases List.mem_cons.mp z with z | z
       ·exact absurd z (by decide)
       ·exact ih (fun p hp=>h p (List.mem_cons_of_mem _ hp)) z
   refine key _ fun p hp=>?_
   obtain ⟨y,hy,rfl⟩:=List.mem_map.mp hp
   obtain ⟨x,hx,rfl⟩:=List.mem_map.mp hy
   exact Zd4 (ha x hx) (by decide)
  ·have h1:=StrLaws.join_length_le (Str.ofString ",") (ds.map Yi)
   have h2:((ds.map Yi).map (·.length)).sum≤4 * ds.length:=by
    clear h1 hl
    induction ds with
    | nil=>simp
    | cons y r ih =>
     have a1:=QY (ha y List.mem_cons_self)
     have a2:=ih fun x hx=>ha x (List.mem_cons_of_mem _ hx)
     simp only [List.map_cons,List.sum_cons,List.length_cons]
     omega
   have h3:(Str.ofString ",").length=1:=by decide +kernel
   unfold X0
   rw [h3,List.length_map] at h1
   omega
 intro T
 induction T with
 | always=>intro g x hx;rcases List.mem_singleton.mp hx with rfl;exact k1 _ (by decide)
 | week b =>
  intro g x hx
  have sb:=ZhF b (Nat.lt_succ_of_le g)
  rcases List.mem_cons.mp hx with rfl | hx
  ·exact k1 _ (by decide)
  ·rcases List.mem_singleton.mp hx with rfl
   exact ⟨sb.2.1,by have:=sb.2.2;rw [XZ] at this;omega⟩
 | span a b r ih =>
  intro g x hx
  rcases List.mem_append.mp hx with hx | hx
  ·simp only [List.mem_cons,List.not_mem_nil,or_false] at hx
   rcases hx with rfl | rfl | rfl
   ·exact k1 _ (by decide)
   ·exact k2 a (by have:=g.1;have:=g.2.1;omega)
   ·exact k2 b (by have:=g.2.1;omega)
  ·exact ih g.2.2 x hx
 | each n ss =>
  intro g x hx
  simp only [RT.words,List.mem_cons,List.not_mem_nil,or_false] at hx
  rcases hx with rfl | rfl | rfl
  ·exact k1 _ (by decide)
  ·exact k2 n (by have:=g.2.1;omega)
  ·exact k3 ss g.2.2.few fun x hx=>by have:=(g.2.2.all x hx).2;have:=g.2.1;omega
 | either r s i1 i2 =>
  intro g x hx
  rcases List.mem_append.mp hx with hx | hx
  ·rcases List.mem_append.mp hx with hx | hx
   ·rcases List.mem_singleton.mp hx with rfl
    exact k1 _ (by decide)
   ·exact i1 g.1 x hx
  ·exact i2 g.2 x hx
 | both r s i1 i2 =>
  intro g x hx
  rcases List.mem_append.mp hx with hx | hx
  ·rcases List.mem_append.mp hx with hx | hx
   ·rcases List.mem_singleton.mp hx with rfl
    exact k1 _ (by decide)
   ·exact i1 g.1 x hx
  ·exact i2 g.2 x hx
 | but ds r ih =>
  intro g x hx
  rcases List.mem_append.mp hx with hx | hx
  ·simp only [List.mem_cons,List.not_mem_nil,or_false] at hx
   rcases hx with rfl | rfl
   ·exact k1 _ (by decide)
   ·exact k3 ds g.1.few fun x hx=>by have:=(g.1.all x hx).2;omega
  ·exact ih g.2 x hx
theorem ZnJ (T:RT):T.words≠[]:=by cases T <;> exact fun z=>nomatch z
def Yv (T:RT):Str:=Str.join (Str.ofString " ") T.words
theorem ZhM {T:RT} (g:T.good):spl 32 (Zu (Yv T))=T.words.map Zu:=by
 unfold Yv
 rw [room]
 show spl 32 (Str.join ⟨#[32]⟩ T.words).cps.toList=_
 rw [Qn,Zby]
 ·exact fun z=>ZnJ T (List.map_eq_nil_iff.mp z)
 ·intro p hp
  obtain ⟨x,hx,rfl⟩:=List.mem_map.mp hp
  exact (Zd6 T g x hx).1
theorem ZhN {T:RT} (g:T.good) (hw:T.weight≤15) (hd:T.depth≤8):YS (Zu (Yv T))=some T:=by
 unfold YS
 have:=Qr T 8 [] g hd
 rw [List.append_nil] at this
 rw [ZhM g,this]
 exact if_pos hw
theorem ZnK {T:RT} (g:T.good) (hw:T.weight≤15):(Yv T).length≤4545:=by
 have h1:=StrLaws.join_length_le (Str.ofString " ") T.words
 have h2:=T.words_len
 have h3:(T.words.map (·.length)).sum≤100 * T.words.length:=by
  have f:=Zd6 T g
  generalize T.words=l at f
  induction l with
  | nil=>simp
  | cons y r ih =>
   have a1:=(f y List.mem_cons_self).2
   have a2:=ih fun x hx=>f x (List.mem_cons_of_mem _ hx)
   simp only [List.map_cons,List.sum_cons,List.length_cons]
   omega
 have h4:(Str.ofString " ").length=1:=by decide +kernel
 unfold Yv
 rw [h4] at h1
 omega
theorem ZnL {l:List Nat} {T:RT} (h:YS l=some T):T.good∧T.weight≤15∧T.depth≤8:=by
 unfold YS at h
 split at h
 ·next T1 e =>
  split at h
  ·next c=>cases h;exact ⟨(W3 e).1,c,(W3 e).2⟩
  ·cases h
 ·cases h
end K1
namespace L2
open PySem PySem.Spec PyProof.Rows
theorem ZnM:typeLookup (.type "list_reverseiterator") "__len__" = pure none:=by rw [typeLookup_type,builtinLookup_eq_fast];kernel_rfl
theorem ZnN:typeLookup (.type "list_reverseiterator") "__length_hint__" = pure (some (.builtin "list_reverseiterator.__length_hint__")):=by rw [typeLookup_type,builtinLookup_eq_fast];kernel_rfl
section
variable {prog:Program} {w:World} {A:Around} {E:Value→Shared→Prop} {s:Shared}
theorem ZnO {R:Result→Shared→Prop} {it l:Addr} {items:Array Value} (hh:A.handled=none) (hit:s.heap.IsRevIter it l ((items.size:Int) - 1)) (hl:s.heap.IsList l items) (hlen:items.size≤sizeLine) (hne:l≠it)
  (S:Addr) (hSi:S≠it) (hSl:S≠l) (res:Value) (c₀:Nat) (hS:s.heap.get? S=some { cls:=.type "list",data:=.seq #[] c₀ })
  (hR:∀ h' tk acc' c',(∀ b o,b≠S→b≠it→s.heap.get? b=some o→h'.get? b=some o)→h'.get? S=some { cls:=.type "list",dict:=none,data:=.seq acc' c',slots:=#[] } →
   ItemsOf (fun i v=>items[items.size - 1 - i]? = some v) acc' items.size→R (.ok (.ret res)) { s with heap:=h',toks:=tk }) :
  wpAny (model prog w) A.in1 (Builtin.List.listExtendWith (.ref S) (.ref it) res)
   (fun fin s'=>match fin with | .done f=>R (.ok f) s' | .again c'=>c'.quiet=true∧codeAny (model prog w) A c' R s') (fun e s'=>R (.error e) s') s:=by
 have hSf:S∉[it,l]:=fun hmm=>by
  rcases List.mem_cons.mp hmm with e | e
  ·exact hSi e
  ·exact hSl (List.mem_singleton.mp e)
 have W:=(Walks.listRev (prog:=prog) (w:=w) (A:=A.in1) hh it l hne items).toS
 have hT:s.TypeIs (.ref it) "list_reverseiterator" := hit.typeIs
 unfold Builtin.List.listExtendWith
 refine wpAny_bind (wpAny_typeOf (T := "list_reverseiterator") hT ?_)
 have h1:Builtin.List.listSameRef (.ref S) (.ref it)=false:=by simp [Builtin.List.listSameRef,hSi]
 have h2:(Value.type "list_reverseiterator" == Value.type "list")=false:=by decide
 have h3:(Value.type "list_reverseiterator" == Value.type "tuple")=false:=by decide
 simp only [h1,h2,h3,Bool.or_false,Bool.false_eq_true,if_false]
 refine wpAny_bind (wpAny_pyIter_revIter hit ?_)
 refine wpAny_bind (wpAny_holding ?_)
 unfold Builtin.List.listLengthHint
 refine wpAny_bind (wpAny_specialOf (T := "list_reverseiterator") hT ZnM ?_)
 show wpAny _ A.in1 (specialOf (Value.ref it) (Str.ofString "__length_hint__") >>= _) _ _ _
 refine wpAny_bind (wpAny_specialOf hT ZnN ?_)
 generalize hid:("list_reverseiterator.__length_hint__" : String)=id0
 wp_delta
 rw [show splitId id0=some ("list_reverseiterator","__length_hint__") from by subst hid;decide +kernel]
 subst hid
 refine wpAny_bind (wpAny_isInstance (T := "list_reverseiterator") (b:=true) hT (by rw [isSubtype_type];kernel_rfl) ?_)
 refine wpAny_ite_split (fun hab=>absurd hab (by decide)) (fun _=>?_)
 refine wpAny_ite_split (fun _=>?_) (fun hab=>absurd (by decide +kernel) hab)
 refine wpAny_ite_split (fun hab=>absurd hab (by decide +kernel)) (fun _=>?_)
 refine wpAny_pure ?_
 rw [if_neg (by decide)]
 have key:∀ (h:Heap) (c₁:Nat),(∀ b o,b≠S→s.heap.get? b=some o→h.get? b=some o)→h.get? S=some { cls:=.type "list",data:=.seq #[] c₁ } →
   codeAny (model prog w) A (.builtin "list.extend.loop" ⟨[.ref S,.ref it,res],[]⟩) R { s with heap:=h }:=fun h c₁ hk hS₁=>by
  refine codeAny_extend_loopS W hlen S hSf res items.size 0 _ #[] c₁ rfl (Nat.zero_le _) ⟨Nat.zero_le _,?_,?_⟩ hS₁ (ItemsOf.nil _) fun s' acc' c' hm hS' hacc=>?_
  ·rw [show (items.size:Int) - 1 - ((0:Nat):Int)=(items.size:Int) - 1 by omega]
   exact hit.at fun o e=>hk it o hSi.symm e
  ·exact hl.at fun o e=>hk l o hSl.symm e
  rw [Moved.eq_with hm]
  refine hR s'.heap s'.toks acc' c' (fun b o hb hbi e=>hm.heap b o (fun hmem=>?_) (hk b o hb e)) hS' hacc
  rcases List.mem_cons.mp hmem with e' | hmem
  ·exact hb e'
  ·exact hbi (List.mem_singleton.mp hmem)
 exact wpAny_pure ⟨plainId_quiet F.plain_extend_loop _,key _ c₀ (fun b o _ e=>e) hS⟩
theorem ZnP {it l:Addr} {items:Array Value} {Q:Value→Shared→Prop} (hh:A.handled=none) (hit:s.heap.IsRevIter it l ((items.size:Int) - 1)) (hl:s.heap.IsList l items) (hlen:items.size≤sizeLine) (hne:l≠it)
  (hQ:∀ h' tk acc' c',(∀ b o,b≠it→s.heap.get? b=some o→h'.get? b=some o) →
   h'.get? s.heap.objs.size=some { cls:=.type "list",dict:=none,data:=.seq acc' c',slots:=#[] }→ItemsOf (fun i v=>items[items.size - 1 - i]? = some v) acc' items.size→Q (.ref s.heap.objs.size) { s with heap:=h',toks:=tk }) :
  wpAny (model prog w) A (call (.type "list") [.ref it]) Q E s:=by
 have nS:∀ b o,s.heap.get? b=some o→b≠s.heap.objs.size:=fun b o e=>Nat.ne_of_lt (Heap.lt_size e)
 obtain ⟨oi,hi,_⟩:=id hit
 obtain ⟨ol,hol,_⟩:=id hl
 refine callType_codes (Q₁:=fun obj s₁=>obj=.ref s.heap.objs.size∧s₁ = { s with heap:=s.heap.push { cls:=.type "list",data:=.seq #[] } }) F.called_list (F.typeCall_list_1 _) F.entry_list_init
  (code_list_new _ ⟨rfl,rfl⟩) fun obj s₁ h₁=>?_
 obtain ⟨rfl,rfl⟩:=h₁
 have hS:(s.heap.push { cls:=.type "list",data:=.seq #[] }).get? s.heap.objs.size=some { cls:=.type "list",data:=.seq #[] }:=Heap.get?_push_size _ rfl
 refine ⟨⟨_,hS,rfl⟩,F.args_list_init_2 _ _,?_⟩
 show wpAny _ _ (do let old ← Builtin.List.listItems (.ref s.heap.objs.size);Builtin.List.listUpdate (.ref s.heap.objs.size) (fun _=>#[]);letGo old.toList.reverse;Builtin.List.listExtendWith (.ref s.heap.objs.size) (.ref it) .none) _ _ _
 refine wpAny_bind ?_
 unfold Builtin.List.listItems
 refine wpAny_bind (wpAny_seqItems hS rfl (wpAny_pure ?_))
 show wpAny _ _ (updateSeq s.heap.objs.size (fun _=>#[]) >>= fun _=>letGo (#[]:Array Value).toList.reverse >>= fun _=>Builtin.List.listExtendWith (.ref s.heap.objs.size) (.ref it) .none) _ _ _
 refine wpAny_bind (wpAny_updateSeq hS rfl ?_)
 have hS₂:=Heap.get?_update_self (Obj.mapSeq (fun _=>(#[]:Array Value))) hS rfl
 have oth:∀ b o,b≠s.heap.objs.size→s.heap.get? b=some o→((s.heap.push { cls:=.type "list",data:=.seq #[] }).update s.heap.objs.size (Obj.mapSeq (fun _=>(#[]:Array Value)))).get? b=some o :=
  fun b o hb e=>(Heap.get?_update_other _ _ (Ne.symm hb)).trans (Heap.get?_push_of_some _ e)
 refine wpAny_bind (wpAny_letGo ?_)
 refine ZnO (A:=A.in1) (s:={ s with heap:=(s.heap.push { cls:=.type "list",data:=.seq #[] }).update s.heap.objs.size (Obj.mapSeq (fun _=>(#[]:Array Value))) }) hh (hit.at fun o e=>oth it o (nS it o e) e) (hl.at fun o e=>oth l o (nS l o e) e) hlen hne _ (nS it oi hi).symm (nS l ol hol).symm .none _ hS₂ fun h' tk acc' c' hk hS' hacc=>?_
 exact ⟨rfl,hQ h' tk acc' c' (fun b o hb e=>hk b o (nS b o e) hb (oth b o (nS b o e) e)) hS' hacc⟩
end
theorem ZnQ:bootBuiltins "list" = some (.type "list"):=by decide +kernel
theorem ZnR:bootBuiltins "reversed" = some (.type "reversed"):=by decide +kernel
theorem ZnS {xs:List V} {us acc:List Value} (r:ZJ xs us) (hl:acc.length=us.length) (ha:∀ (i:Nat) (v:Value),acc[i]? = some v→us[us.length - 1 - i]? = some v):ZJ xs.reverse acc:=by
 have e:acc=us.reverse:=by
  refine List.ext_getElem? fun i=>?_
  by_cases hi:i < us.length
  ·rw [List.getElem?_reverse hi]
   have hi2:i < acc.length:=by omega
   rw [List.getElem?_eq_getElem hi2]
   exact (ha i _ (List.getElem?_eq_getElem hi2)).symm
  ·rw [List.getElem?_eq_none (by omega),List.getElem?_eq_none (by rw [List.length_reverse];omega)]
 rw [e]
 exact Zhy r
def tLR (K:PySem.W.Frag) (te:TE):TE:=fun σ H Q=>te σ H fun v H1=>∃ l xs,v=.ref l∧Zm K H1 l xs∧∀ p,H1 p=none→Q (.ref p) (upd H1 p (.lst xs.reverse))
theorem ZnT {X:Cx} {e:Expr} {te:TE} {p1 p2 p3 p4:Pos} (hc:X.calm=true) (hgl:Gl X "list") (hml:X.mg "list" = none) (hgr:Gl X "reversed") (hmr:X.mg "reversed" = none) (he:PE X e te) (hs:starEach [e] X.env=[(false,eval e X.env)]:=by rfl) :
  PE X (.Call (.Name "list" p1) [.Call (.Name "reversed" p2) [e] [] p3] [] p4) (tLR X.K te):=by
 intro pins s σ H Q I h
 refine wpAny_Call_Name_kw (UQ I hgl hml ZnQ ?_)
 refine PyProof.Rows.callWith_type1 ?_ rfl rfl
 show wpAny _ _ (spliced [(false,eval (.Call (.Name "reversed" p2) [e] [] p3) X.env)]) _ _ _
 refine Calls.spliced_cons ?_
 refine wpAny_Call_Name_kw (UQ I hgr hmr ZnR ?_)
 refine PyProof.Rows.callWith_type1 ?_ hs rfl
 rw [hs]
 show wpAny _ _ (spliced [(false,eval e X.env)]) _ _ _
 refine Calls.spliced_cons (ZK (he pins s σ H _ I h) fun u s1 ⟨v,H1,I1,r1,l,xs,ev,hq,q⟩=>Calls.spliced_nil ?_)
 subst ev
 cases r1
 obtain ⟨its,rv,pl,hz⟩:=I1.list hq
 refine call_reversed_list pl.isList ?_
 refine Calls.spliced_nil ?_
 have hlen:=rv.length
 have hl1:s1.heap.IsList l its.toArray:=pl.isList
 have hlt:l < s1.heap.objs.size:=by obtain ⟨o,e1,_⟩:=hl1;exact Heap.lt_size e1
 refine ZnP (s:={ s1 with heap:=s1.heap.push (revObj l ((its.toArray.size:Int) - 1)) }) (it:=s1.heap.objs.size) (items:=its.toArray) (I1.ok.hd hc) ⟨_,Heap.get?_push_size _ rfl,rfl,rfl⟩ (hl1.at fun o e=>Heap.get?_push_of_some _ e)
  (by rw [List.size_toArray];omega) (Nat.ne_of_lt hlt) fun h' tk acc' c' hk hS hacc=>?_
 refine ⟨.ref _,_,I1.laid (t':=tk) (fun b o e=>hk b o (Nat.ne_of_lt (Heap.lt_size e)) (Heap.get?_push_of_some _ e)) (by show _≤(s1.heap.push _).objs.size;rw [Heap.size_push];omega)
  (show Yp X.prog X.w _ h' _ (.lst xs.reverse) from ⟨by rw [List.length_reverse];omega,acc'.toList,c',ZnS rv (by simpa using hacc.1) (fun i v hv=>?_),by simpa using hS⟩),rfl,q _ (I1.hok.fresh (by rw [Heap.size_push];omega))⟩
 have:=hacc.2 i v (by simpa using hv)
 simpa using this
end L2
namespace L2
open PySem PySem.Spec PyProof.Rows
theorem ZnU {X:Cx}:Qh X "str.strip" (fun x xs H Q=>∃ z y,x=.str z∧xs=[.str y]∧z.length≤sizeLine∧Q (.str (Txt.stripChars z y)) H):=by
 intro pins s σ H x xs v us Q I rx r h
 obtain ⟨z,y,rfl,rfl,hz,q⟩:=h
 obtain ⟨t,rfl⟩:=rx
 obtain ⟨u,rfl,t',rfl⟩:=XG r
 exact SC.stripChars (fun t' k=>⟨.str _,H,I.tok _,⟨_,rfl⟩,q⟩) hz
theorem ZnV (z y:Str):Txt.stripChars z y=Str.ofString "" ↔ ∀ c∈z.cps.toList,c∈y.cps.toList:=by
 have e0:Str.ofString "" = (⟨#[]⟩:Str):=by decide +kernel
 have goes:∀ c,y.cps.contains c=true↔c∈y.cps.toList:=fun c=>by rw [Array.contains_iff_mem,Array.mem_toList_iff]
 rw [e0]
 unfold Txt.stripChars
 rw [stripBy_eq]
 obtain ⟨a1,a2,a3⟩:=lo_facts y.cps.contains z
 obtain ⟨b1,b2,b3,b4⟩:=hi_facts y.cps.contains z _ a1
 have hn:z.cps.toList.length=z.length:=by simp [Str.length]
 have gd:∀ k,k < z.length→z.cps.getD k 0∈z.cps.toList:=fun k hk=>by
  rw [← getD_list,List.getD_eq_getElem?_getD,List.getElem?_eq_getElem (by omega)]
  exact List.getElem_mem _
 constructor
 ·intro h c hc
  have hl:stripHi y.cps.contains true z (stripLo y.cps.contains true z)≤stripLo y.cps.contains true z:=by
   have h2:(z.cps.extract (stripLo y.cps.contains true z) (stripHi y.cps.contains true z (stripLo y.cps.contains true z))).size=0:=congrArg (fun s:Str=>s.cps.size) h
   rw [Array.size_extract] at h2
   have e:z.cps.size=z.length:=rfl
   omega
  obtain ⟨k,hk,e⟩:=List.getElem_of_mem hc
  have ek:z.cps.getD k 0=c:=by rw [← getD_list,List.getD_eq_getElem?_getD,List.getElem?_eq_getElem hk];exact e
  rw [← ek]
  refine (goes _).mp ?_
  by_cases q:k < stripLo y.cps.contains true z
  ·exact a2 k q
  ·exact b3 k (by omega) (by omega)
 ·intro h
  have e1:stripLo y.cps.contains true z=z.length:=by
   rcases a3 with q | q
   ·exact q
   ·by_cases q2:stripLo y.cps.contains true z < z.length
    ·rw [(goes _).mpr (h _ (gd _ q2))] at q;cases q
    ·omega
  have e2:stripHi y.cps.contains true z (stripLo y.cps.contains true z)=z.length:=by omega
  rw [e2,e1]
  show (⟨z.cps.extract z.length z.length⟩:Str)=⟨#[]⟩
  congr 1
  simp
  exact Nat.min_le_left _ _
def X3 (z:Str) (n:Nat):Str:=⟨((List.replicate n z.cps.toList).flatten).toArray⟩
theorem ZhO (z:Array Nat):∀ (n:Nat) (acc:Array Nat),(List.replicate n z).foldl (· ++ ·) acc=acc++((List.replicate n z.toList).flatten).toArray
 | 0,acc=>by simp
 | n+1,acc=>by
  rw [List.replicate_succ,List.foldl_cons,ZhO z n,List.replicate_succ,List.flatten_cons]
  apply Array.ext'
  simp
def ZnW:R2:=fun x y H Q=>∃ (z:Str) (n:Nat),x=.str z∧y=.int (n:Nat)∧z.length≤1000∧n≤1000∧Q (.str (X3 z n)) H
theorem ZnX {X:Cx}:Yk X (binaryOp .Mult) ZnW:=by
 intro pins s σ H x y v u Q I rx ry h
 obtain ⟨z,n,rfl,rfl,hz,hn,q⟩:=h
 obtain ⟨t,rfl⟩:=rx
 obtain ⟨t',rfl⟩:=ry
 have hm:z.length * n≤1000000:=Nat.mul_le_mul hz hn
 refine P.mul_str (by rw [decide_eq_false (by omega),decide_eq_false (by omega)];rfl) (fun h1 _=>?_) (fun _ _=>?_) ?_
 ·have:(1000:Int)≤(2 ^ 63 - 1) / (n:Int):=by
   refine (Int.le_ediv_iff_mul_le (by omega)).mpr ?_
   have:(1000:Int) * (n:Int)≤1000000:=by omega
   omega
  omega
 ·unfold Builtin.Str.tooLong
  rw [show ((n:Nat):Int).toNat=n by omega]
  exact decide_eq_false (by rw [sizeLine_eq];omega)
 ·by_cases h1:((n:Nat):Int) < 1
  ·rw [if_pos h1]
   have e:n=0:=by omega
   subst e
   exact ⟨by decide,⟨.str _,H,I.tok _,⟨_,rfl⟩,q⟩⟩
  ·rw [if_neg h1]
   by_cases h2:(((n:Nat):Int) == 1 || z.length == 0)=true
   ·rw [if_pos h2]
    have e:X3 z n=z:=by
     unfold X3
     rcases (Bool.or_eq_true _ _).mp h2 with c | c
     ·have e1:n=1:=by have:=eq_of_beq c;omega
      subst e1
      simp
     ·have e1:z.cps.toList=[]:=by
       have:=eq_of_beq c
       exact List.length_eq_zero_iff.mp (by simpa [Str.length] using this)
      have e2:z=⟨#[]⟩:=by
       rcases z with ⟨⟨l⟩⟩
       have:l=[]:=e1
       rw [this]
      subst e2
      have:(List.replicate n ([]:List Nat)).flatten=[]:=by simp
      rw [show (⟨#[]⟩:Str).cps.toList=[] from rfl,this]
    rw [e] at q
    exact ⟨.str z,H,I,⟨t,rfl⟩,q⟩
   ·rw [if_neg h2]
    have e:(⟨(List.replicate ((n:Nat):Int).toNat z.cps).foldl (· ++ ·) #[]⟩:Str)=X3 z n:=by
     unfold X3
     rw [show ((n:Nat):Int).toNat=n by omega,ZhO]
     simp
    rw [e]
    refine ⟨?_,⟨.str _,H,I.tok _,⟨_,rfl⟩,q⟩⟩
    have:(X3 z n).length=n * z.length:=by
     unfold X3 Str.length
     simp
    rw [this,Nat.mul_comm,sizeLine_eq]
    omega
def Itq (z:Str):It:=⟨fun i _=>i < z.cps.size,fun i H v H'=>∃ p c,H p=none∧z.cps.toList[i]? = some c∧v=.ref p∧H'=upd H p (.tup [.int i,.str ⟨#[c]⟩]),fun i _=>z.cps.size≤i⟩
theorem ZnY {P:Program} {w:World} {K:PySem.W.Frag} {es:List Expr} {k:Nat} {pos:Pos} (z:Str) (t:Tok) (e it:Addr) (ty:String) (hei:e≠it)
  (D:∀ A:Around,A.handled=none→Draws P w A it [it] z.cps.size (fun i v=>∃ c u,z.cps[i]? = some c∧v=.str ⟨#[c]⟩ u) (fun i h=>h.IsStrIter it ty z t i)) :
  QN P w K (.Tuple es k pos) (Itq z) [e,it] e (fun i h=>((∃ old,IsEnum h e it i old)∧h.IsStrIter it ty z t i)∧i≤z.cps.size) where
 mem:=by simp
 obj:=fun i h st b hb=>by
  obtain ⟨⟨⟨old,he⟩,o,ho,hc,hd⟩,_⟩:=st
  have e':b=e∨b=it:=by simpa using hb
  rcases e' with rfl | rfl
  ·exact ⟨_,he,fun v z=>by cases z⟩
  ·exact ⟨o,ho,fun v z=>by rw [hd] at z;cases z⟩
 keep:=fun i h h' st kk=>⟨⟨let ⟨old,he⟩:=st.1.1;⟨old,kk e (by simp) _ he⟩,let ⟨o,ho,r⟩:=st.1.2;⟨o,kk it (by simp) o ho,r⟩⟩,st.2⟩
 item:=by
  intro X hP hw hK hc i pins s σ H E I hf st hg
  subst hP hw hK
  obtain ⟨⟨⟨old,he⟩,hit⟩,_⟩:=st
  have hit0:=hit
  have hg':i < z.cps.size:=hg
  refine wpAny_pyNext_enum_itemD (D X.A.in1 (I.ok.hd hc)) he hit hg' hei (by simpa using hei) fun x h1 tk hP ho hit' hT hsz hk=>⟨_,rfl,?_⟩
  obtain ⟨c,u,ec,rfl⟩:=hP
  refine wpAny_letOwnedTupleGo_enum (s:={ s with heap:=h1,toks:=tk+1 }) ho fun h2 he2 hs2=>?_
  have hlt:e < s.heap.objs.size:=Heap.lt_size he
  have hilt:it < s.heap.objs.size:=by obtain ⟨_,q,_⟩:=hit0;exact Heap.lt_size q
  have hT2:h2.get? s.heap.objs.size=some { cls:=.type "tuple",data:=.seq #[.int i tk,.str ⟨#[c]⟩ u] }:=(hs2.2 _ (Nat.ne_of_gt hlt)).trans hT
  obtain ⟨I2,n2⟩:=I.paired (t':=tk+1) (fp:=[e,it]) (x:=.int i) (y:=.str ⟨#[c]⟩) (h':=h2) hf (fun b hb=>by
   have e':b=e∨b=it:=by simpa using hb
   rcases e' with rfl | rfl
   ·exact ⟨_,he⟩
   ·obtain ⟨o,q,_⟩:=hit0;exact ⟨o,q⟩) (fun b o hb q=>by
   have hb1:b≠e:=fun z=>hb (by simp [z])
   have hb2:b≠it:=fun z=>hb (by simp [z])
   exact (hs2.2 b hb1).trans (hk b o hb1 hb2 q)) hT2 ⟨tk,rfl⟩ ⟨u,rfl⟩
  refine ⟨.ref s.heap.objs.size,_,I2,rfl,⟨_,c,I.hok.fresh (Nat.le_refl _),by simpa using ec,rfl,rfl⟩,⟨⟨⟨_,by simpa using he2⟩,let ⟨o,q,r⟩:=hit';⟨o,(hs2.2 it hei.symm).trans q,r⟩⟩,hg'⟩,n2⟩
 done:=by
  intro X hP hw hK hc i pins s σ H E I hf st hg
  subst hP hw hK
  obtain ⟨⟨⟨old,he⟩,hit⟩,hi⟩:=st
  have e0:i=z.cps.size:=Nat.le_antisymm hi hg
  rw [e0] at hit
  exact wpAny_pyNext_enum_endD (D X.A.in1 (I.ok.hd hc)) he hit fun h' eb=>⟨rfl,I.turnedL (t':=s.toks) (fp:=[e,it]) (fun b o hb q=>eb b o (fun z=>hb (by simp [z])) q) hf⟩
 self:=fun _ _ _ _ _ st h=>let ⟨old,he⟩:=st.1.1;wpAny_pyIter_enum he h
section
variable {X:Cx}
def ZnZ (ta:TA):TI:=fun σ H R=>ta σ H fun vs H1=>∃ z,vs=[.str z]∧R (Itq z) H1
theorem Zn0 {es:List Expr} {k:Nat} {tp:Pos} {a:Expr} {ta:TA} {p pos:Pos} (hg:Gl X "enumerate") (hm:X.mg "enumerate" = none) (ha:PA X [a] ta) (hs:starEach [a] X.env=[(false,eval a X.env)]:=by rfl):PI X (.Tuple es k tp) (.Call (.Name "enumerate" p) [a] [] pos) (ZnZ ta):=by
 intro pins s σ H R I h
 refine Call_ (UQ I hg hm boot_enumerate (PyProof.Rows.callWith_type1 (ZK (ha pos pins s σ H _ I h) fun us s1 ⟨vs,H1,I1,r1,q1⟩=>?_) hs rfl))
 obtain ⟨z,e,q⟩:=q1
 subst e
 cases r1 with
 | cons r rr =>
  cases rr
  obtain ⟨t,rfl⟩:=r
  refine call_enumerate_str fun h' he hit hsz hk=>?_
  refine wpAny_pyIter_enum (s:={ s1 with heap:=h' }) he ?_
  have fp:∀ b∈[s1.heap.objs.size+1,s1.heap.objs.size],Wd X pins H1 b:=fun b hb=>by
   have e':b=s1.heap.objs.size+1∨b=s1.heap.objs.size:=by simpa using hb
   have hb':s1.heap.objs.size≤b:=by rcases e' with rfl | rfl;exact Nat.le_succ _;exact Nat.le_refl _
   exact I1.fpOk hb' (I1.hok.fresh hb')
  refine ⟨s1.heap.objs.size+1,[s1.heap.objs.size+1,s1.heap.objs.size],_,_,H1,rfl,I1.kept (t':=s1.toks) hk,ZnY z t _ _ (strIterType z) (Nat.succ_ne_self _) (fun A hh=>?_),⟨⟨⟨_,he⟩,hit⟩,Nat.zero_le _⟩,fp,q⟩
  unfold strIterType
  split
  ·exact Draws.strAscii hh _ z t
  ·exact Draws.strWide hh _ z t
theorem Zn1 {z:Str} {g:TG} {tb:TS} {D:UO} {σ:St} {H:Hp} (Pv:Nat→St→Hp→Prop) (h0:Pv 0 σ H)
  (hs:∀ i c p σ H,z.cps.toList[i]? = some c→H p=none→Pv i σ H→g (.ref p) σ (upd H p (.tup [.int i,.str ⟨#[c]⟩])) fun σ2 H2=>tb { D with nx:=Pv (i+1),ct:=Pv (i+1),bk:=D.nx } σ2 H2) (hd:∀ σ H,Pv z.cps.size σ H→D.nx σ H) :
  ∃ W:Nat→Nat→St→Hp→Prop,(∃ m,W 0 m σ H)∧∀ i m σ H,W i m σ H →
   ((Itq z).stop i H∧D.nx σ H)∨((Itq z).go i H∧∃ N:St→Hp→Prop,(∀ σ' H',N σ' H'→∃ m',m' < m∧W (i+1) m' σ' H')∧∀ x H',(Itq z).yld i H x H'→g x σ H' fun σ2 H2=>tb { D with nx:=N,ct:=N,bk:=D.nx } σ2 H2):=by
 refine ⟨fun i m σ H=>m=z.cps.size - i∧i≤z.cps.size∧Pv i σ H,⟨z.cps.size,by simp,Nat.zero_le _,h0⟩,?_⟩
 rintro i m σ H ⟨rfl,hi,p⟩
 by_cases hlt:i < z.cps.size
 ·refine .inr ⟨hlt,Pv (i+1),fun σ' H' p'=>⟨z.cps.size - (i+1),by omega,rfl,hlt,p'⟩,fun v H' y=>?_⟩
  obtain ⟨r,c,hr,y,rfl,rfl⟩:=y
  exact hs i c r σ _ y hr p
 ·have e:i=z.cps.size:=by omega
  subst e
  exact .inl ⟨Nat.le_refl _,hd σ H p⟩
end
end L2
namespace K1
open PySem L2
def Yo (m:Nat) (l:List Nat):Prop:=∀ a b c,l=a++b++c→32∉b→b.count 44≤m
theorem Yo.mono {m n:Nat} {l:List Nat} (h:Yo m l) (mn:m≤n):Yo n l:=fun a b c e hb=>Nat.le_trans (h a b c e hb) mn
theorem Yo.part {m:Nat} {l x p y:List Nat} (h:Yo m l) (e:l=x++p++y):Yo m p:=fun a b c e2 hb=>h (x++a) b (c++y) (by rw [e,e2];simp) hb
theorem Yo.take {m:Nat} {l:List Nat} (h:Yo m l) (k:Nat):Yo m (l.take k):=h.part (x:=[]) (y:=l.drop k) (by simp)
theorem Yo.drop {m:Nat} {l:List Nat} (h:Yo m l) (k:Nat):Yo m (l.drop k):=h.part (x:=l.take k) (y:=[]) (by simp)
theorem Yo.app {m n:Nat} {A B:List Nat} (hA:Yo m A) (hB:Yo n B):Yo (m+n) (A++B):=fun a b c e hb=>by
 rcases List.append_eq_append_iff.mp e with ⟨t,h1,h2⟩ | ⟨t,h1,h2⟩
 ·rcases List.append_eq_append_iff.mp h1 with ⟨u,g1,g2⟩ | ⟨u,g1,g2⟩
  ·have cu:=hA a u [] (by rw [g1];simp) (fun z=>hb (by rw [g2];exact List.mem_append_left _ z))
   have ct:=hB [] t c (by rw [h2];simp) (fun z=>hb (by rw [g2];exact List.mem_append_right _ z))
   rw [g2,List.count_append]
   omega
  ·exact Nat.le_trans (hB u b c (by rw [h2,g2]) hb) (by omega)
 ·exact Nat.le_trans (hA a b t (by rw [h1]) hb) (by omega)
theorem Yo.one (c:Nat):Yo 1 [c]:=fun a b d e hb=>by
 have:b.length≤1:=by have:=congrArg List.length e;simp at this;omega
 exact Nat.le_trans List.count_le_length this
theorem Yo.few {m:Nat} {l:List Nat} (h:l.count 44≤m):Yo m l:=fun a b c e hb=>by
 rw [e,List.count_append,List.count_append] at h
 omega
theorem Yo.blank {m:Nat} {A B:List Nat} (hA:Yo m A) (hB:Yo m B):Yo m (A++32::B):=fun a b c e hb=>by
 rcases List.append_eq_append_iff.mp e with ⟨t,h1,h2⟩ | ⟨t,h1,h2⟩
 ·cases t with
  | nil=>exact hA a b [] (by rw [List.append_nil] at h1;rw [← h1];simp) hb
  | cons y t =>
   have e0:32=y∧B=t++c:=by simpa using h2
   rcases List.append_eq_append_iff.mp h1 with ⟨u,g1,g2⟩ | ⟨u,g1,g2⟩
   ·exact absurd (by rw [g2,← e0.1];simp) hb
   ·cases u with
    | nil =>
     have:b=y::t:=by simpa using g2.symm
     exact absurd (by rw [this,← e0.1];simp) hb
    | cons z u =>
     have e3:y=z∧t=u++b:=by simpa using g2
     exact hB u b c (by rw [e0.2,e3.2]) hb
 ·exact hA a b t (by rw [h1]) hb
theorem ZhP:∀ (r v:List Nat) (vs:List (List Nat)),spl 32 r=v::vs→32∉v∧∃ c,r=v++c
 | [],v,vs,h=>by
  have:v=[]:=by simp [spl] at h;exact h.1
  subst this
  exact ⟨by simp,[],rfl⟩
 | x::r,v,vs,h=>by
  unfold spl at h
  by_cases hx:x=32
  ·rw [if_pos hx] at h
   obtain rfl:[]=v:=(List.cons.inj h).1
   exact ⟨by simp,x::r,rfl⟩
  ·rw [if_neg hx] at h
   cases q:spl 32 r with
   | nil=>exact absurd q (UY 32 r)
   | cons u us =>
    rw [q] at h
    obtain rfl:x::u=v:=(List.cons.inj h).1
    obtain ⟨n,c,e⟩:=ZhP r u us q
    exact ⟨by simp [n,Ne.symm hx],c,by rw [e];rfl⟩
theorem Zd7:∀ (l w:List Nat),w∈spl 32 l→32∉w∧∃ a c,l=a++w++c
 | [],w,h=>by
  have:w=[]:=by simpa [spl] using h
  subst this
  exact ⟨by simp,[],[],rfl⟩
 | x::r,w,h=>by
  unfold spl at h
  by_cases hx:x=32
  ·rw [if_pos hx] at h
   rcases List.mem_cons.mp h with rfl | h
   ·exact ⟨by simp,[],x::r,rfl⟩
   ·obtain ⟨n,a,c,e⟩:=Zd7 r w h
    exact ⟨n,x::a,c,by rw [e];rfl⟩
  ·rw [if_neg hx] at h
   cases q:spl 32 r with
   | nil=>exact absurd q (UY 32 r)
   | cons v vs =>
    rw [q] at h
    rcases List.mem_cons.mp h with rfl | h
    ·obtain ⟨n,c,e⟩:=ZhP r v vs q
     exact ⟨by simp [n,Ne.symm hx],[],c,by rw [e];rfl⟩
    ·obtain ⟨n,a,c,e⟩:=Zd7 r w (by rw [q];exact List.mem_cons_of_mem _ h)
     exact ⟨n,x::a,c,by rw [e];rfl⟩
theorem Yo.words {m:Nat} {l:List Nat} (h:Yo m l):∀ w∈spl 32 l,w.count 44≤m:=fun w hw=>by
 obtain ⟨n,a,c,e⟩:=Zd7 l w hw
 exact h a w c e n
def pl (ws:List (List Nat)):Nat:=(ws.map fun w=>w.length+1).sum
theorem U4 (w:List Nat) (ws:List (List Nat)):pl (w::ws)=w.length+1+pl ws:=by unfold pl;rw [List.map_cons,List.sum_cons]
theorem ZhQ (a b:List (List Nat)):pl (a++b)=pl a+pl b:=by unfold pl;rw [List.map_append,List.sum_append]
theorem ZhR (ws:List (List Nat)) (k:Nat):pl (ws.take k)+pl (ws.drop k)=pl ws:=by rw [← ZhQ,List.take_append_drop]
theorem Zn2 {ws:List (List Nat)} {w:List Nat} (h:w∈ws):w.length+1≤pl ws:=by
 induction ws with
 | nil=>cases h
 | cons x r ih =>
  rw [U4]
  rcases List.mem_cons.mp h with rfl | h
  ·omega
  ·have:=ih h
   omega
theorem ZhS (c:Nat):∀ l:List Nat,pl (spl c l)=l.length+1
 | []=>rfl
 | x::r=>by
  have ih:=ZhS c r
  unfold spl
  by_cases h:x=c
  ·rw [if_pos h,U4,ih];simp;omega
  ·rw [if_neg h]
   cases q:spl c r with
   | nil=>exact absurd q (UY c r)
   | cons w ws =>
    rw [q,U4] at ih
    show pl ((x::w)::ws)=_
    rw [U4]
    simp only [List.length_cons] at ih ⊢
    omega
theorem ZhT (c:Nat):∀ ws:List (List Nat),(Wj c ws).length≤pl ws
 | []=>Nat.zero_le _
 | [p]=>by show p.length≤_;rw [U4];omega
 | p::q::r=>by
  have:=ZhT c (q::r)
  show (p++c::Wj c (q::r)).length≤_
  rw [U4,List.length_append,List.length_cons]
  omega
theorem Yo.join {m:Nat}:∀ {ws:List (List Nat)},(∀ w∈ws,w.count 44≤m)→Yo m (Wj 32 ws)
 | [],_=>.few (Nat.zero_le _)
 | [p],h=>.few (h p List.mem_cons_self)
 | p::q::r,h=>(Yo.few (h p List.mem_cons_self)).blank (Yo.join fun w hw=>h w (List.mem_cons_of_mem _ hw))
def Yc (m n:Nat) (z:Str):Prop:=Yo m (Zu z)∧z.length≤n
theorem Yc.mono {m n a b:Nat} {z:Str} (h:Yc m n z) (ma:m≤a) (nb:n≤b):Yc a b z:=⟨h.1.mono ma,Nat.le_trans h.2 nb⟩
theorem Zn3 (x y:Str):Zu (x++y)=Zu x++Zu y:=Array.toList_append
theorem Yc.app {m n a b:Nat} {x y:Str} (h:Yc m n x) (g:Yc a b y):Yc (m+a) (n+b) (x++y):=⟨by rw [Zn3];exact h.1.app g.1,ZmC h.2 g.2⟩
theorem Yc.sign (c:Nat):Yc 1 1 ⟨#[c]⟩:=⟨.one c,Nat.le_refl 1⟩
theorem Yc.to {m n:Nat} {z:Str} (h:Yc m n z) {j:Nat} (hj:j≤z.length):Yc m n (Txt.slice z none (some (j:Int))):=⟨by rw [ZmE z j hj];exact h.1.take j,Nat.le_trans (Txt.slice_le _ _ _) h.2⟩
theorem Yc.from {m n:Nat} {z:Str} (h:Yc m n z) {j:Nat} (hj:j≤z.length):Yc m n (Txt.slice z (some (j:Int)) none):=⟨by rw [ZmF z j hj];exact h.1.drop j,Nat.le_trans (Txt.slice_le _ _ _) h.2⟩
def Cw (m n:Nat) (ws:List (List Nat)):Prop:=pl ws≤n∧∀ w∈ws,w.count 44≤m
theorem Cw.app {m n a:Nat} {x y:List (List Nat)} (h:Cw m n x) (g:Cw m a y):Cw m (n+a) (x++y):=⟨by rw [ZhQ];exact Nat.add_le_add h.1 g.1,fun w hw=>(List.mem_append.mp hw).elim (h.2 w) (g.2 w)⟩
theorem Cw.take {m n:Nat} {x:List (List Nat)} (h:Cw m n x) (k:Nat):Cw m n (x.take k):=⟨Nat.le_trans (by have:=ZhR x k;omega) h.1,fun w hw=>h.2 w (List.mem_of_mem_take hw)⟩
theorem Cw.drop {m n:Nat} {x:List (List Nat)} (h:Cw m n x) (k:Nat):Cw m n (x.drop k):=⟨Nat.le_trans (by have:=ZhR x k;omega) h.1,fun w hw=>h.2 w (List.mem_of_mem_drop hw)⟩
theorem Cw.one {m n:Nat} {w:List Nat} (h:w.length+1≤n) (g:w.count 44≤m):Cw m n [w]:=⟨by rw [U4];exact h,fun x hx=>by rw [List.mem_singleton.mp hx];exact g⟩
theorem Cw.of {m n:Nat} {x:List (List Nat)} (h:Cw m n x) {w:List Nat} (hw:w∈x):Cw m n [w]:=.one (Nat.le_trans (Zn2 hw) h.1) (h.2 w hw)
theorem Cw.spl {m n:Nat} {z:Str} (h:Yc m n z):Cw m (n+1) (L2.spl 32 (Zu z)):=⟨by rw [ZhS,show (Zu z).length=z.length from XZ z];exact Nat.add_le_add_right h.2 1,h.1.words⟩
def sW (l:List Nat):Str:=⟨l.toArray⟩
theorem Cw.text {m n:Nat} {ws:List (List Nat)} (h:Cw m n ws):Yc m n (Str.join ⟨#[32]⟩ (ws.map sW)):=by
 have e:Zu (Str.join ⟨#[32]⟩ (ws.map sW))=Wj 32 ws:=by
  show (Str.join ⟨#[32]⟩ (ws.map sW)).cps.toList=_
  rw [Qn,List.map_map,show ((fun p:Str=>p.cps.toList) ∘ sW)=id from rfl,List.map_id]
 refine ⟨by rw [e];exact .join h.2,?_⟩
 have l:(Zu (Str.join ⟨#[32]⟩ (ws.map sW))).length≤n:=by rw [e];exact Nat.le_trans (ZhT 32 ws) h.1
 rwa [show (Zu (Str.join ⟨#[32]⟩ (ws.map sW))).length=_ from XZ _] at l
theorem Cw.room {m n:Nat} {ws:List (List Nat)} (h:Cw m n ws) (z:Str) (hz:z.length=1):((ws.map sW).map fun x=>x.length+z.length).sum≤n:=by
 rw [hz,List.map_map]
 exact h.1
theorem Q0 (c:Nat):∀ l:List Nat,(spl c l).length=l.count c+1
 | []=>rfl
 | x::r=>by
  have ih:=Q0 c r
  unfold spl
  by_cases h:x=c
  ·rw [if_pos h,List.length_cons,ih,h,List.count_cons_self]
  ·rw [if_neg h,List.count_cons_of_ne (by simpa using h)]
   cases q:spl c r with
   | nil=>exact absurd q (UY c r)
   | cons w ws =>
    rw [q] at ih
    exact ih
theorem ZhU {ds:List Nat} {lo hi:Nat} (h:Vt ds lo hi) (hl:∀ x∈ds,x < 10000):(Zu (X0 ds)).count 44≤11:=by
 have e:=congrArg List.length (Zd5 (List.ne_nil_of_length_pos h.one) hl)
 unfold XN at e
 rw [List.length_map,List.length_map,Q0] at e
 have:=h.few
 omega
theorem Zn4:∀ (T:RT),T.good→∀ x∈T.words,(Zu x).count 44≤11:=by
 have k0:∀ x:Str,x.length≤11→(Zu x).count 44≤11:=fun x h=>Nat.le_trans List.count_le_length (by rw [show (Zu x).length=x.length from XZ x];exact h)
 have k1:∀ s∈["always","week","span","each","either","both","but"],(Zu (Str.ofString s)).count 44≤11:=by decide +kernel
 have k2:∀ n,n < 10000→(Zu (Yi n)).count 44≤11:=fun n h=>k0 _ (Nat.le_trans (QY h) (by decide))
 intro T
 induction T with
 | always=>exact fun _ x hx=>by rcases List.mem_singleton.mp hx with rfl;exact k1 _ (by decide)
 | week b =>
  intro g x hx
  have sb:=ZhF b (Nat.lt_succ_of_le g)
  rcases List.mem_cons.mp hx with rfl | hx
  ·exact k1 _ (by decide)
  ·rcases List.mem_singleton.mp hx with rfl
   exact Nat.le_trans List.count_le_length (by rw [sb.2.2];decide)
 | span a b r ih =>
  intro g x hx
  rcases List.mem_append.mp hx with hx | hx
  ·simp only [List.mem_cons,List.not_mem_nil,or_false] at hx
   rcases hx with rfl | rfl | rfl
   ·exact k1 _ (by decide)
   ·exact k2 a (by have:=g.1;have:=g.2.1;omega)
   ·exact k2 b (by have:=g.2.1;omega)
  ·exact ih g.2.2 x hx
 | each n ss =>
  intro g x hx
  simp only [RT.words,List.mem_cons,List.not_mem_nil,or_false] at hx
  rcases hx with rfl | rfl | rfl
  ·exact k1 _ (by decide)
  ·exact k2 n (by have:=g.2.1;omega)
  ·exact ZhU g.2.2 fun x hx=>by have:=(g.2.2.all x hx).2;have:=g.2.1;omega
 | either r s i1 i2 =>
  intro g x hx
  rcases List.mem_append.mp hx with hx | hx
  ·rcases List.mem_append.mp hx with hx | hx
   ·rcases List.mem_singleton.mp hx with rfl
    exact k1 _ (by decide)
   ·exact i1 g.1 x hx
  ·exact i2 g.2 x hx
 | both r s i1 i2 =>
  intro g x hx
  rcases List.mem_append.mp hx with hx | hx
  ·rcases List.mem_append.mp hx with hx | hx
   ·rcases List.mem_singleton.mp hx with rfl
    exact k1 _ (by decide)
   ·exact i1 g.1 x hx
  ·exact i2 g.2 x hx
 | but ds r ih =>
  intro g x hx
  rcases List.mem_append.mp hx with hx | hx
  ·simp only [List.mem_cons,List.not_mem_nil,or_false] at hx
   rcases hx with rfl | rfl
   ·exact k1 _ (by decide)
   ·exact ZhU g.1 fun x hx=>by have:=(g.1.all x hx).2;omega
  ·exact ih g.2 x hx
theorem Zn5 {T:RT} (g:T.good) (hw:T.weight≤15):Yc 11 4545 (Yv T):=by
 refine ⟨?_,ZnK g hw⟩
 have e:Zu (Yv T)=Wj 32 (T.words.map Zu):=by
  unfold Yv
  rw [room]
  show (Str.join ⟨#[32]⟩ T.words).cps.toList=_
  rw [Qn]
 rw [e]
 refine .join fun w hw=>?_
 obtain ⟨x,hx,rfl⟩:=List.mem_map.mp hw
 exact Zn4 T g x hx
theorem Zn6 {T:RT} (g:T.good):0 < (Yv T).length:=by
 have e:(Zu (Yv T)).length=(Yv T).length:=XZ _
 cases h:Zu (Yv T) with
 | cons x r=>rw [← e,h];exact Nat.succ_pos _
 | nil =>
  have s:=ZhM g
  rw [h] at s
  exfalso
  cases T with
  | always | week | span | each | but | either | both =>
   have:=congrArg List.head? s
   simp only [spl,RT.words,List.map_cons,List.cons_append,List.append_assoc,List.nil_append,List.head?_cons] at this
   exact absurd (Option.some.inj this) (by decide +kernel)
theorem Zn7 {z:Str} {m:Nat} (h:Yc 0 m z) (f:(Zu z).count 44=0):∀ n:Nat,Yc 0 (n * m) (X3 z n):=fun n=>by
 have e:Zu (X3 z n)=(List.replicate n (Zu z)).flatten:=rfl
 have c:(Zu (X3 z n)).count 44=0:=by
  rw [e]
  induction n with
  | zero=>rfl
  | succ n ih=>rw [List.replicate_succ,List.flatten_cons,List.count_append,f];simpa using ih rfl
 refine ⟨.few (Nat.le_of_eq c),?_⟩
 rw [← XZ]
 show (Zu (X3 z n)).length≤_
 rw [e]
 clear c e
 induction n with
 | zero=>simp
 | succ n ih =>
  rw [List.replicate_succ,List.flatten_cons,List.length_append,Nat.succ_mul,show (Zu z).length=z.length from XZ z]
  have:=h.2
  omega
end K1
namespace L2
theorem Za {α:Type} {A R:α→Prop} (a:α) (h0:A a) (r:R a):∃ a,A a∧R a:=⟨a,h0,r⟩
theorem ZE {α:Type} {A B R:α→Prop} (a:α) (h0:A a) (h1:B a) (r:R a):∃ a,A a∧B a∧R a:=⟨a,h0,h1,r⟩
theorem WN {α:Type} {A B C R:α→Prop} (a:α) (h0:A a) (h1:B a) (h2:C a) (r:R a):∃ a,A a∧B a∧C a∧R a:=⟨a,h0,h1,h2,r⟩
theorem WO {α β:Type} {A R:α→β→Prop} (a:α) (b:β) (h0:A a b) (r:R a b):∃ a b,A a b∧R a b:=⟨a,b,h0,r⟩
theorem ZA {α β:Type} {A B R:α→β→Prop} (a:α) (b:β) (h0:A a b) (h1:B a b) (r:R a b):∃ a b,A a b∧B a b∧R a b:=⟨a,b,h0,h1,r⟩
theorem ZV {α β:Type} {A B C R:α→β→Prop} (a:α) (b:β) (h0:A a b) (h1:B a b) (h2:C a b) (r:R a b):∃ a b,A a b∧B a b∧C a b∧R a b:=⟨a,b,h0,h1,h2,r⟩
theorem ZX {α β:Type} {A B C D R:α→β→Prop} (a:α) (b:β) (h0:A a b) (h1:B a b) (h2:C a b) (h3:D a b) (r:R a b):∃ a b,A a b∧B a b∧C a b∧D a b∧R a b:=⟨a,b,h0,h1,h2,h3,r⟩
theorem Xf {α β:Type} {A B C D F G R:α→β→Prop} (a:α) (b:β) (h0:A a b) (h1:B a b) (h2:C a b) (h3:D a b) (h4:F a b) (h5:G a b) (r:R a b):∃ a b,A a b∧B a b∧C a b∧D a b∧F a b∧G a b∧R a b:=⟨a,b,h0,h1,h2,h3,h4,h5,r⟩
theorem X32 {α β γ:Type} {A B R:α→β→γ→Prop} (a:α) (b:β) (c:γ) (h0:A a b c) (h1:B a b c) (r:R a b c):∃ a b c,A a b c∧B a b c∧R a b c:=⟨a,b,c,h0,h1,r⟩
theorem Xc {α β γ:Type} {A B C R:α→β→γ→Prop} (a:α) (b:β) (c:γ) (h0:A a b c) (h1:B a b c) (h2:C a b c) (r:R a b c):∃ a b c,A a b c∧B a b c∧C a b c∧R a b c:=⟨a,b,c,h0,h1,h2,r⟩
theorem YJ {α β γ:Type} {A B C D R:α→β→γ→Prop} (a:α) (b:β) (c:γ) (h0:A a b c) (h1:B a b c) (h2:C a b c) (h3:D a b c) (r:R a b c):∃ a b c,A a b c∧B a b c∧C a b c∧D a b c∧R a b c:=⟨a,b,c,h0,h1,h2,h3,r⟩
theorem Vx {α β γ:Type} {A B C D F G R:α→β→γ→Prop} (a:α) (b:β) (c:γ) (h0:A a b c) (h1:B a b c) (h2:C a b c) (h3:D a b c) (h4:F a b c) (h5:G a b c) (r:R a b c):∃ a b c,A a b c∧B a b c∧C a b c∧D a b c∧F a b c∧G a b c∧R a b c:=⟨a,b,c,h0,h1,h2,h3,h4,h5,r⟩
theorem Wv {α β γ δ:Type} {A B R:α→β→γ→δ→Prop} (a:α) (b:β) (c:γ) (d:δ) (h0:A a b c d) (h1:B a b c d) (r:R a b c d):∃ a b c d,A a b c d∧B a b c d∧R a b c d:=⟨a,b,c,d,h0,h1,r⟩
theorem Ww {α β γ δ:Type} {A B C R:α→β→γ→δ→Prop} (a:α) (b:β) (c:γ) (d:δ) (h0:A a b c d) (h1:B a b c d) (h2:C a b c d) (r:R a b c d):∃ a b c d,A a b c d∧B a b c d∧C a b c d∧R a b c d:=⟨a,b,c,d,h0,h1,h2,r⟩
theorem ZC {α β γ δ:Type} {A B C D R:α→β→γ→δ→Prop} (a:α) (b:β) (c:γ) (d:δ) (h0:A a b c d) (h1:B a b c d) (h2:C a b c d) (h3:D a b c d) (r:R a b c d):∃ a b c d,A a b c d∧B a b c d∧C a b c d∧D a b c d∧R a b c d:=⟨a,b,c,d,h0,h1,h2,h3,r⟩
theorem Zk {α β γ δ:Type} {A B C D F R:α→β→γ→δ→Prop} (a:α) (b:β) (c:γ) (d:δ) (h0:A a b c d) (h1:B a b c d) (h2:C a b c d) (h3:D a b c d) (h4:F a b c d) (r:R a b c d):∃ a b c d,A a b c d∧B a b c d∧C a b c d∧D a b c d∧F a b c d∧R a b c d:=⟨a,b,c,d,h0,h1,h2,h3,h4,r⟩
theorem X54 {α β γ δ ε:Type} {A B C D R:α→β→γ→δ→ε→Prop} (a:α) (b:β) (c:γ) (d:δ) (e:ε) (h0:A a b c d e) (h1:B a b c d e) (h2:C a b c d e) (h3:D a b c d e) (r:R a b c d e):∃ a b c d e,A a b c d e∧B a b c d e∧C a b c d e∧D a b c d e∧R a b c d e:=⟨a,b,c,d,e,h0,h1,h2,h3,r⟩
theorem Ya {α β γ δ ε:Type} {A B C D F R:α→β→γ→δ→ε→Prop} (a:α) (b:β) (c:γ) (d:δ) (e:ε) (h0:A a b c d e) (h1:B a b c d e) (h2:C a b c d e) (h3:D a b c d e) (h4:F a b c d e) (r:R a b c d e):∃ a b c d e,A a b c d e∧B a b c d e∧C a b c d e∧D a b c d e∧F a b c d e∧R a b c d e:=⟨a,b,c,d,e,h0,h1,h2,h3,h4,r⟩
end L2
namespace K04
open PySem L2 K1
seal PySem.wpAny
def top (i:Nat):Stmt:=PySem.Challenge.pw_roadbook_k04_rules_as_texts.main.body.getD i (.Pass ⟨0,0,0,0⟩)
abbrev Vy:Stmt:=top 17
theorem Zn8:ZQ ["value"] ["value"] (Zg Vy):=⟨rfl,rfl,rfl,by decide +kernel,rfl,by decide +kernel,by decide +kernel⟩
abbrev Vz:Stmt:=top 18
theorem Zn9:ZQ ["value","least","most"] ["value","least","most"] (Zg Vz):=⟨rfl,rfl,rfl,by decide +kernel,rfl,by decide +kernel,by decide +kernel⟩
abbrev VA:Stmt:=top 19
theorem U5:ZQ ["values","longest","least","most","floor","value"] ["values","longest","least","most"] (Zg VA):=⟨rfl,rfl,rfl,by decide +kernel,rfl,by decide +kernel,by decide +kernel⟩
abbrev VB:Stmt:=top 20
theorem Zoa:ZQ ["text"] ["text"] (Zg VB):=⟨rfl,rfl,rfl,by decide +kernel,rfl,by decide +kernel,by decide +kernel⟩
abbrev VC:Stmt:=top 21
theorem Zob:ZQ ["text"] ["text"] (Zg VC):=⟨rfl,rfl,rfl,by decide +kernel,rfl,by decide +kernel,by decide +kernel⟩
abbrev VD:Stmt:=top 30
theorem Zoc:ZQ ["rule"] ["rule"] (Zg VD):=⟨rfl,rfl,rfl,by decide +kernel,rfl,by decide +kernel,by decide +kernel⟩
abbrev VE:Stmt:=top 31
theorem ZhV:ZQ ["rule"] ["rule"] (Zg VE):=⟨rfl,rfl,rfl,by decide +kernel,rfl,by decide +kernel,by decide +kernel⟩
abbrev VF:Stmt:=top 32
theorem Zod:ZQ ["numbers"] ["numbers"] (Zg VF):=⟨rfl,rfl,rfl,by decide +kernel,rfl,by decide +kernel,by decide +kernel⟩
abbrev VG:Stmt:=top 41
theorem Zoe:ZQ ["rule"] ["rule"] (Zg VG):=⟨rfl,rfl,rfl,by decide +kernel,rfl,by decide +kernel,by decide +kernel⟩
abbrev VH:Stmt:=top 42
theorem Zd8:ZQ ["text","left","rule"] ["text"] (Zg VH):=⟨rfl,rfl,rfl,by decide +kernel,rfl,by decide +kernel,by decide +kernel⟩
abbrev VI:Stmt:=top 43
theorem ZaK:ZQ ["left","deep","word"] ["left","deep"] (Zg VI):=⟨rfl,rfl,rfl,by decide +kernel,rfl,by decide +kernel,by decide +kernel⟩
abbrev VJ:Stmt:=top 44
theorem Zof:ZQ ["left"] ["left"] (Zg VJ):=⟨rfl,rfl,rfl,by decide +kernel,rfl,by decide +kernel,by decide +kernel⟩
abbrev VL:Stmt:=top 45
theorem Zog:ZQ ["left"] ["left"] (Zg VL):=⟨rfl,rfl,rfl,by decide +kernel,rfl,by decide +kernel,by decide +kernel⟩
abbrev VM:Stmt:=top 46
theorem Zoh:ZQ ["left"] ["left"] (Zg VM):=⟨rfl,rfl,rfl,by decide +kernel,rfl,by decide +kernel,by decide +kernel⟩
abbrev VN:Stmt:=top 47
theorem Q1:ZQ ["left","signs","bits","weekday","sign"] ["left"] (Zg VN):=⟨rfl,rfl,rfl,by decide +kernel,rfl,by decide +kernel,by decide +kernel⟩
abbrev VO:Stmt:=top 49
theorem Zoi:ZQ ["_law_script","_law_k"] ["_law_script","_law_k"] (Zg VO):=⟨rfl,rfl,rfl,by decide +kernel,rfl,by decide +kernel,by decide +kernel⟩
abbrev VP:Stmt:=top 50
theorem ZhW:ZQ ["_law_script","_law_tape","_law_many","_law_number_here"] ["_law_script","_law_tape","_law_many"] (Zg VP):=⟨rfl,rfl,rfl,by decide +kernel,rfl,by decide +kernel,by decide +kernel⟩
abbrev VQ:Stmt:=top 52
theorem ZbM:ZQ ["_law_script","_law_tape","_law_least","_law_most","_law_many","_law_found"] ["_law_script","_law_tape","_law_least","_law_most"] (Zg VQ):=⟨rfl,rfl,rfl,by decide +kernel,rfl,by decide +kernel,by decide +kernel⟩
abbrev VR:Stmt:=top 53
theorem Zd9:ZQ ["_law_script","_law_tape","_law_kind","_law_length"] ["_law_script","_law_tape"] (Zg VR):=⟨rfl,rfl,rfl,by decide +kernel,rfl,by decide +kernel,by decide +kernel⟩
abbrev VS:Stmt:=top 54
theorem Qs:ZQ ["_law_script","_law_tape","_law_room","_law_deep","_law_kind","_law_first","_law_one","_law_within_here"] ["_law_script","_law_tape","_law_room","_law_deep"] (Zg VS):=⟨rfl,rfl,rfl,by decide +kernel,rfl,by decide +kernel,by decide +kernel⟩
abbrev VT:Stmt:=top 55
theorem ZhX:ZQ ["_law_tree_here"] ["_law_tree_here"] (Zg VT):=⟨rfl,rfl,rfl,by decide +kernel,rfl,by decide +kernel,by decide +kernel⟩
abbrev VU:Stmt:=top 56
theorem ZaL:ZQ ["_law_tree_here","_law_day","_law_rest","_law_k"] ["_law_tree_here","_law_day"] (Zg VU):=⟨rfl,rfl,rfl,by decide +kernel,rfl,by decide +kernel,by decide +kernel⟩
abbrev VV:Stmt:=top 57
theorem Qt:ZQ ["_law_tree_here","_law_signs","_law_rest","_law_k"] ["_law_tree_here"] (Zg VV):=⟨rfl,rfl,rfl,by decide +kernel,rfl,by decide +kernel,by decide +kernel⟩
abbrev VW:Stmt:=top 58
theorem Zoj:ZQ ["_law_tree_here"] ["_law_tree_here"] (Zg VW):=⟨rfl,rfl,rfl,by decide +kernel,rfl,by decide +kernel,by decide +kernel⟩
abbrev VX:Stmt:=top 59
theorem ZhY:ZQ ["_law_tree_here"] ["_law_tree_here"] (Zg VX):=⟨rfl,rfl,rfl,by decide +kernel,rfl,by decide +kernel,by decide +kernel⟩
abbrev VY:Stmt:=top 60
theorem ZhZ:ZQ ["_law_tree_here"] ["_law_tree_here"] (Zg VY):=⟨rfl,rfl,rfl,by decide +kernel,rfl,by decide +kernel,by decide +kernel⟩
abbrev VZ:Stmt:=top 61
theorem Qu:ZQ ["_law_error","_law_words_here","_law_found"] ["_law_error"] (Zg VZ):=⟨rfl,rfl,rfl,by decide +kernel,rfl,by decide +kernel,by decide +kernel⟩
abbrev V0:Stmt:=top 62
theorem Zok:ZQ ["_law_word"] ["_law_word"] (Zg V0):=⟨rfl,rfl,rfl,by decide +kernel,rfl,by decide +kernel,by decide +kernel⟩
abbrev V2:Stmt:=top 63
theorem Zh0:ZQ ["_law_word","_law_most","_law_found"] ["_law_word","_law_most"] (Zg V2):=⟨rfl,rfl,rfl,by decide +kernel,rfl,by decide +kernel,by decide +kernel⟩
abbrev V3:Stmt:=top 64
theorem ZaM:ZQ ["_law_words_here","_law_bits","_law_length","_law_starts"] ["_law_words_here"] (Zg V3):=⟨rfl,rfl,rfl,by decide +kernel,rfl,by decide +kernel,by decide +kernel⟩
abbrev V4:Stmt:=top 65
theorem Qv:ZQ ["_law_words_here","_law_deep","_law_size","_law_one","_law_days","_law_ends","_law_other"] ["_law_words_here","_law_deep"] (Zg V4):=⟨rfl,rfl,rfl,by decide +kernel,rfl,by decide +kernel,by decide +kernel⟩
abbrev V5:Stmt:=top 66
theorem Zh1:ZQ ["_law_words_here","_law_deep"] ["_law_words_here","_law_deep"] (Zg V5):=⟨rfl,rfl,rfl,by decide +kernel,rfl,by decide +kernel,by decide +kernel⟩
abbrev V6:Stmt:=top 67
theorem Zh2:ZQ ["_law_text","_law_found"] ["_law_text"] (Zg V6):=⟨rfl,rfl,rfl,by decide +kernel,rfl,by decide +kernel,by decide +kernel⟩
abbrev V7:Stmt:=top 68
theorem ZbN:ZQ ["_law_text","_law_caught","_law_error"] ["_law_text"] (Zg V7):=⟨rfl,rfl,rfl,by decide +kernel,rfl,by decide +kernel,by decide +kernel⟩
abbrev V8:Stmt:=top 69
theorem ZbO:ZQ ["_law_script","_law_tape","_law_found","_law_tree_here","_law_k","_law_day","_law_told_here"] ["_law_script","_law_tape","_law_found","_law_tree_here"] (Zg V8):=⟨rfl,rfl,rfl,by decide +kernel,rfl,by decide +kernel,by decide +kernel⟩
abbrev V9:Stmt:=top 70
theorem Wx:ZQ ["_law_script","_law_tape","_law_text","_law_words_here","_law_at","_law_others","_law_other","_law_place","_law_sign","_law_some","_law_texts"] ["_law_script","_law_tape","_law_text"] (Zg V9):=⟨rfl,rfl,rfl,by decide +kernel,rfl,by decide +kernel,by decide +kernel⟩
abbrev Ua:Stmt:=top 71
theorem XO:ZQ ["_law_script","_law_tape","_law_tree_here","_law_rule","_law_text","_law_deeper","_law_longer","_law_others","_law_other","_law_due_here","_law_found","_law_odd","_law_caught","_law_error"] ["_law_script"] (Zg Ua):=⟨rfl,rfl,rfl,by decide +kernel,rfl,by decide +kernel,by decide +kernel⟩
abbrev Ub:Stmt:=Yg (top 33) 0
theorem Zol:ZQ ["self"] ["self"] (Zg Ub):=⟨rfl,rfl,rfl,by decide +kernel,rfl,by decide +kernel,by decide +kernel⟩
abbrev Uc:Stmt:=Yg (top 33) 1
theorem Zom:ZQ ["self"] ["self"] (Zg Uc):=⟨rfl,rfl,rfl,by decide +kernel,rfl,by decide +kernel,by decide +kernel⟩
abbrev Ud:Stmt:=Yg (top 33) 2
theorem Zon:ZQ ["self","day"] ["self","day"] (Zg Ud):=⟨rfl,rfl,rfl,by decide +kernel,rfl,by decide +kernel,by decide +kernel⟩
abbrev Ue:Stmt:=Yg (top 33) 3
theorem Zoo:ZQ ["self"] ["self"] (Zg Ue):=⟨rfl,rfl,rfl,by decide +kernel,rfl,by decide +kernel,by decide +kernel⟩
abbrev Uf:Stmt:=Yg (top 33) 4
theorem Zh3:ZQ ["self"] ["self"] (Zg Uf):=⟨rfl,rfl,rfl,by decide +kernel,rfl,by decide +kernel,by decide +kernel⟩
abbrev Ug:Stmt:=Yg (top 33) 5
theorem Zh4:ZQ ["self"] ["self"] (Zg Ug):=⟨rfl,rfl,rfl,by decide +kernel,rfl,by decide +kernel,by decide +kernel⟩
abbrev Uh:Stmt:=Yg (top 34) 0
theorem Zh5:ZQ ["self","bits"] ["self","bits"] (Zg Uh):=⟨rfl,rfl,rfl,by decide +kernel,rfl,by decide +kernel,by decide +kernel⟩
abbrev Ui:Stmt:=Yg (top 34) 1
theorem Zop:ZQ ["self"] ["self"] (Zg Ui):=⟨rfl,rfl,rfl,by decide +kernel,rfl,by decide +kernel,by decide +kernel⟩
abbrev Uj:Stmt:=Yg (top 34) 2
theorem Zoq:ZQ ["self","day"] ["self","day"] (Zg Uj):=⟨rfl,rfl,rfl,by decide +kernel,rfl,by decide +kernel,by decide +kernel⟩
abbrev Uk:Stmt:=Yg (top 34) 3
theorem Zor:ZQ ["self"] ["self"] (Zg Uk):=⟨rfl,rfl,rfl,by decide +kernel,rfl,by decide +kernel,by decide +kernel⟩
abbrev Ul:Stmt:=Yg (top 35) 0
theorem Zh6:ZQ ["self","first","last","rule"] ["self","first","last","rule"] (Zg Ul):=⟨rfl,rfl,rfl,by decide +kernel,rfl,by decide +kernel,by decide +kernel⟩
abbrev Um:Stmt:=Yg (top 35) 1
theorem Zh7:ZQ ["self"] ["self"] (Zg Um):=⟨rfl,rfl,rfl,by decide +kernel,rfl,by decide +kernel,by decide +kernel⟩
abbrev Uo:Stmt:=Yg (top 35) 2
theorem Zos:ZQ ["self"] ["self"] (Zg Uo):=⟨rfl,rfl,rfl,by decide +kernel,rfl,by decide +kernel,by decide +kernel⟩
abbrev Up:Stmt:=Yg (top 35) 3
theorem Zh8:ZQ ["self","day"] ["self","day"] (Zg Up):=⟨rfl,rfl,rfl,by decide +kernel,rfl,by decide +kernel,by decide +kernel⟩
abbrev Uq:Stmt:=Yg (top 35) 4
theorem Zh9:ZQ ["self"] ["self"] (Zg Uq):=⟨rfl,rfl,rfl,by decide +kernel,rfl,by decide +kernel,by decide +kernel⟩
abbrev Ur:Stmt:=Yg (top 36) 0
theorem Zia:ZQ ["self","length","starts"] ["self","length","starts"] (Zg Ur):=⟨rfl,rfl,rfl,by decide +kernel,rfl,by decide +kernel,by decide +kernel⟩
abbrev Us:Stmt:=Yg (top 36) 1
theorem Zot:ZQ ["self"] ["self"] (Zg Us):=⟨rfl,rfl,rfl,by decide +kernel,rfl,by decide +kernel,by decide +kernel⟩
abbrev Ut:Stmt:=Yg (top 36) 2
theorem Zou:ZQ ["self","day"] ["self","day"] (Zg Ut):=⟨rfl,rfl,rfl,by decide +kernel,rfl,by decide +kernel,by decide +kernel⟩
abbrev Uu:Stmt:=Yg (top 36) 3
theorem Zov:ZQ ["self"] ["self"] (Zg Uu):=⟨rfl,rfl,rfl,by decide +kernel,rfl,by decide +kernel,by decide +kernel⟩
abbrev Uv:Stmt:=Yg (top 37) 0
theorem Zib:ZQ ["self","one","other"] ["self","one","other"] (Zg Uv):=⟨rfl,rfl,rfl,by decide +kernel,rfl,by decide +kernel,by decide +kernel⟩
abbrev Uw:Stmt:=Yg (top 37) 1
theorem Zic:ZQ ["self"] ["self"] (Zg Uw):=⟨rfl,rfl,rfl,by decide +kernel,rfl,by decide +kernel,by decide +kernel⟩
abbrev Ux:Stmt:=Yg (top 37) 2
theorem Zow:ZQ ["self"] ["self"] (Zg Ux):=⟨rfl,rfl,rfl,by decide +kernel,rfl,by decide +kernel,by decide +kernel⟩
abbrev Uy:Stmt:=Yg (top 37) 3
theorem Zid:ZQ ["self","day"] ["self","day"] (Zg Uy):=⟨rfl,rfl,rfl,by decide +kernel,rfl,by decide +kernel,by decide +kernel⟩
abbrev Uz:Stmt:=Yg (top 37) 4
theorem Zie:ZQ ["self"] ["self"] (Zg Uz):=⟨rfl,rfl,rfl,by decide +kernel,rfl,by decide +kernel,by decide +kernel⟩
abbrev UA:Stmt:=Yg (top 38) 0
theorem Zif:ZQ ["self","one","other"] ["self","one","other"] (Zg UA):=⟨rfl,rfl,rfl,by decide +kernel,rfl,by decide +kernel,by decide +kernel⟩
abbrev UB:Stmt:=Yg (top 38) 1
theorem Zig:ZQ ["self"] ["self"] (Zg UB):=⟨rfl,rfl,rfl,by decide +kernel,rfl,by decide +kernel,by decide +kernel⟩
abbrev UC:Stmt:=Yg (top 38) 2
theorem Zox:ZQ ["self"] ["self"] (Zg UC):=⟨rfl,rfl,rfl,by decide +kernel,rfl,by decide +kernel,by decide +kernel⟩
abbrev UD:Stmt:=Yg (top 38) 3
theorem Zih:ZQ ["self","day"] ["self","day"] (Zg UD):=⟨rfl,rfl,rfl,by decide +kernel,rfl,by decide +kernel,by decide +kernel⟩
abbrev UE:Stmt:=Yg (top 38) 4
theorem Zii:ZQ ["self"] ["self"] (Zg UE):=⟨rfl,rfl,rfl,by decide +kernel,rfl,by decide +kernel,by decide +kernel⟩
abbrev UF:Stmt:=Yg (top 39) 0
theorem Zij:ZQ ["self","days","rule"] ["self","days","rule"] (Zg UF):=⟨rfl,rfl,rfl,by decide +kernel,rfl,by decide +kernel,by decide +kernel⟩
abbrev UG:Stmt:=Yg (top 39) 1
theorem Zik:ZQ ["self"] ["self"] (Zg UG):=⟨rfl,rfl,rfl,by decide +kernel,rfl,by decide +kernel,by decide +kernel⟩
abbrev UH:Stmt:=Yg (top 39) 2
theorem Zoy:ZQ ["self"] ["self"] (Zg UH):=⟨rfl,rfl,rfl,by decide +kernel,rfl,by decide +kernel,by decide +kernel⟩
abbrev UI:Stmt:=Yg (top 39) 3
theorem Zil:ZQ ["self","day"] ["self","day"] (Zg UI):=⟨rfl,rfl,rfl,by decide +kernel,rfl,by decide +kernel,by decide +kernel⟩
abbrev UJ:Stmt:=Yg (top 39) 4
theorem Zim:ZQ ["self"] ["self"] (Zg UJ):=⟨rfl,rfl,rfl,by decide +kernel,rfl,by decide +kernel,by decide +kernel⟩
theorem Zoz:bootBuiltins "ValueError" = some (.type "ValueError"):=by decide +kernel
theorem Zin:bootBuiltins "all" = some (.builtin "all"):=by decide +kernel
theorem Zio:bootBuiltins "bool" = some (.type "bool"):=by decide +kernel
theorem ZaN:bootBuiltins "int" = some (.type "int"):=by decide +kernel
theorem Y1:bootBuiltins "isinstance" = some (.builtin "isinstance"):=by decide +kernel
theorem XQ:bootBuiltins "len" = some (.builtin "len"):=by decide +kernel
theorem Q3:bootBuiltins "list" = some (.type "list"):=by decide +kernel
theorem Zip:bootBuiltins "max" = some (.builtin "max"):=by decide +kernel
theorem ZoA:bootBuiltins "min" = some (.builtin "min"):=by decide +kernel
theorem Ziq:bootBuiltins "set" = some (.type "set"):=by decide +kernel
theorem Zir:bootBuiltins "sorted" = some (.builtin "sorted"):=by decide +kernel
theorem W4:bootBuiltins "str" = some (.type "str"):=by decide +kernel
theorem Zea:bootBuiltins "sum" = some (.builtin "sum"):=by decide +kernel
theorem ZbP:bootBuiltins "tuple" = some (.type "tuple"):=by decide +kernel
set_option genInjectivity false in
structure YX where
 Zeb:Addr
 Zec:FuncData
 Zed:Addr
 Zee:FuncData
 ZbQ:Addr
 ZbR:FuncData
 Zef:Addr
 Zeg:FuncData
 Zeh:Addr
 Zei:FuncData
 Zej:Addr
 Zek:FuncData
 ZbS:Addr
 ZbT:FuncData
 Zel:Addr
 Zem:FuncData
 Zen:Addr
 Zeo:FuncData
 Zep:Addr
 Zeq:FuncData
 ZbU:Addr
 ZbV:FuncData
 Zer:Addr
 Zes:FuncData
 Zet:Addr
 Zeu:FuncData
 Zev:Addr
 Zew:FuncData
 Zex:Addr
 Zey:FuncData
 Zez:Addr
 ZeA:FuncData
 ZeB:Addr
 ZeC:FuncData
 ZeD:Addr
 ZeE:FuncData
 ZeF:Addr
 ZeG:FuncData
 ZeH:Addr
 ZeI:FuncData
 ZeJ:Addr
 ZeK:FuncData
 ZeL:Addr
 ZeM:FuncData
 ZeN:Addr
 ZeO:FuncData
 ZeP:Addr
 ZeQ:FuncData
 ZeR:Addr
 ZeS:FuncData
 ZeT:Addr
 ZeU:FuncData
 ZeV:Addr
 ZeW:FuncData
 ZeX:Addr
 ZeY:FuncData
 ZeZ:Addr
 Ze0:FuncData
 Ze1:Addr
 Ze2:FuncData
 ZbW:Addr
 ZbX:FuncData
 ZbY:Addr
 ZbZ:FuncData
 Ze3:Addr
 Ze4:FuncData
 Ze5:Addr
 Ze6:FuncData
 Ze7:Addr
 Ze8:FuncData
 Ze9:Addr
 Zfa:FuncData
 Zfb:Addr
 Zb0:FuncData
 Zb1:Addr
 Zb2:FuncData
 ZaO:Addr
 Zfc:FuncData
 Zb3:Addr
 Zb4:FuncData
 Zb5:Addr
 Zb6:FuncData
 W5:Addr
 Zfd:FuncData
 W6:Addr
 Zfe:FuncData
 Q4:Addr
 Q5:FuncData
 Zb7:Addr
 Zb8:FuncData
 Zb9:Addr
 Zca:FuncData
 Zcb:Addr
 Zcc:FuncData
 Q6:Addr
 Q7:FuncData
 Zcd:Addr
 Zce:FuncData
 Zff:Addr
 Zfg:FuncData
 Zcf:Addr
 Zcg:FuncData
 Zch:Addr
 Zci:FuncData
 Q8:Addr
 Q9:FuncData
 Zcj:Addr
 Zck:FuncData
 Zcl:Addr
 Zcm:FuncData
 Zcn:Addr
 Zco:FuncData
 Zaa:Addr
 Zab:FuncData
 Zcp:Addr
 Zcq:FuncData
 Zfh:Addr
 Zfi:FuncData
 Zcr:Addr
 Zcs:FuncData
 Zct:Addr
 Zcu:FuncData
 Zac:Addr
 Zad:FuncData
 Zcv:Addr
 Zcw:FuncData
 Zfj:Addr
 Zfk:FuncData
 Zcx:Addr
 Zcy:FuncData
 Zcz:Addr
 ZcA:FuncData
 Zae:Addr
 Zaf:FuncData
 ZcB:Addr
 ZcC:FuncData
 Zfl:Addr
 Zfm:FuncData
 ZcD:Addr
 ZcE:FuncData
 ZcF:Addr
 ZcG:FuncData
 Zfn:Addr
 ZaP:Addr
 Z0:Addr
 Z3:Addr
 ZaQ:Addr
 ZaR:Addr
 ZaS:Addr
 ZaT:Addr
 ZaU:Addr
 ZaV:Addr
 ZaW:Addr
 ZaX:Addr
 ZaY:Addr
 Yj:Addr
 Wb:Addr
 YT:Addr
 Xz:Addr
 YG:Addr
 YH:Addr
 Y9:Addr
structure ZD (K:W.Frag) (mg:Str→Option Value) (t:YX):Prop where
 ZoB:mg "ValueError" = none
 Zis:mg "all" = none
 Zit:mg "bool" = none
 ZoC:mg "enumerate" = none
 ZaZ:mg "int" = none
 Y2:mg "isinstance" = none
 XR:mg "len" = none
 Qw:mg "list" = none
 Ziu:mg "max" = none
 ZoD:mg "min" = none
 Zag:mg "range" = none
 ZoE:mg "reversed" = none
 Ziv:mg "set" = none
 Ziw:mg "sorted" = none
 W7:mg "str" = none
 Zfo:mg "sum" = none
 ZcH:mg "tuple" = none
 ZoF:∃ tk,mg "FIGURES" = some (.str (Str.ofString "0123456789") tk)
 ZoG:∃ tk,mg "MOST_FIGURES" = some (.int 5 tk)
 Zah:∃ tk,mg "LAST_DAY" = some (.int 9999 tk)
 Zfp:∃ tk,mg "WEEK_DAYS" = some (.int 7 tk)
 Zix:∃ tk,mg "ALL_WEEK" = some (.int 127 tk)
 Ziy:∃ tk,mg "MOST_LENGTH" = some (.int 28 tk)
 ZcI:∃ tk,mg "MOST_LISTED" = some (.int 12 tk)
 Ziz:∃ tk,mg "MOST_WEIGHT" = some (.int 15 tk)
 Zfq:∃ tk,mg "MOST_DEPTH" = some (.int 8 tk)
 ZiA:ZN K "is_any_number" "is_any_number" Vy t.Zeb t.Zec
 ZoH:mg "is_any_number" = some (.ref t.Zeb)
 ZoI:ZL K t.Zec ["value"] []
 WP:ZN K "is_number" "is_number" Vz t.Zed t.Zee
 W8:mg "is_number" = some (.ref t.Zed)
 W9:ZL K t.Zee ["value","least","most"] []
 Zai:ZN K "are_rising" "are_rising" VA t.ZbQ t.ZbR
 ZcJ:mg "are_rising" = some (.ref t.ZbQ)
 ZcK:ZL K t.ZbR ["values","longest","least","most"] []
 ZiB:ZN K "are_figures" "are_figures" VB t.Zef t.Zeg
 ZoJ:mg "are_figures" = some (.ref t.Zef)
 ZoK:ZL K t.Zeg ["text"] []
 Zfr:ZN K "number_by" "number_by" VC t.Zeh t.Zei
 ZiC:mg "number_by" = some (.ref t.Zeh)
 ZiD:ZL K t.Zei ["text"] []
 Wn:ZN K "copy_of" "copy_of" VD t.Zej t.Zek
 Wy:mg "copy_of" = some (.ref t.Zej)
 Wz:ZL K t.Zek ["rule"] []
 Va:ZN K "check_size" "check_size" VE t.ZbS t.ZbT
 U6:mg "check_size" = some (.ref t.ZbS)
 U7:ZL K t.ZbT ["rule"] []
 Zfs:ZN K "list_text" "list_text" VF t.Zel t.Zem
 ZiE:mg "list_text" = some (.ref t.Zel)
 ZiF:ZL K t.Zem ["numbers"] []
 ZcL:ZN K "rule_text" "rule_text" VG t.Zen t.Zeo
 Zft:mg "rule_text" = some (.ref t.Zen)
 Zfu:ZL K t.Zeo ["rule"] []
 ZiG:ZN K "rule_of" "rule_of" VH t.Zep t.Zeq
 ZoL:mg "rule_of" = some (.ref t.Zep)
 ZoM:ZL K t.Zeq ["text"] []
 XS:ZN K "rule_from" "rule_from" VI t.ZbU t.ZbV
 Wo:mg "rule_from" = some (.ref t.ZbU)
 Wp:ZL K t.ZbV ["left","deep"] []
 Zaj:ZN K "word_from" "word_from" VJ t.Zer t.Zes
 Za0:mg "word_from" = some (.ref t.Zer)
 Za1:ZL K t.Zes ["left"] []
 Qx:ZN K "number_from" "number_from" VL t.Zet t.Zeu
 Zak:mg "number_from" = some (.ref t.Zet)
 Zal:ZL K t.Zeu ["left"] []
 Za2:ZN K "numbers_from" "numbers_from" VM t.Zev t.Zew
 ZcM:mg "numbers_from" = some (.ref t.Zev)
 ZcN:ZL K t.Zew ["left"] []
 Zfv:ZN K "bits_from" "bits_from" VN t.Zex t.Zey
 ZiH:mg "bits_from" = some (.ref t.Zex)
 ZiI:ZL K t.Zey ["left"] []
 ZiJ:ZN K "_law_cell" "_law_cell" VO t.Zez t.ZeA
 ZoN:mg "_law_cell" = some (.ref t.Zez)
 ZoO:ZL K t.ZeA ["_law_script","_law_k"] []
 Yw:ZN K "_law_draw" "_law_draw" VP t.ZeB t.ZeC
 YC:mg "_law_draw" = some (.ref t.ZeB)
 YD:ZL K t.ZeC ["_law_script","_law_tape","_law_many"] []
 Zfw:ZN K "_law_rising" "_law_rising" VQ t.ZeD t.ZeE
 ZiK:mg "_law_rising" = some (.ref t.ZeD)
 ZiL:ZL K t.ZeE ["_law_script","_law_tape","_law_least","_law_most"] []
 ZiM:ZN K "_law_leaf" "_law_leaf" VR t.ZeF t.ZeG
 ZoP:mg "_law_leaf" = some (.ref t.ZeF)
 ZoQ:ZL K t.ZeG ["_law_script","_law_tape"] []
 Zam:ZN K "_law_tree" "_law_tree" VS t.ZeH t.ZeI
 ZcO:mg "_law_tree" = some (.ref t.ZeH)
 ZcP:ZL K t.ZeI ["_law_script","_law_tape","_law_room","_law_deep"] []
 UK:ZN K "_law_made" "_law_made" VT t.ZeJ t.ZeK
 Qy:mg "_law_made" = some (.ref t.ZeJ)
 Qz:ZL K t.ZeK ["_law_tree_here"] []
 UL:ZN K "_law_runs" "_law_runs" VU t.ZeL t.ZeM
 QA:mg "_law_runs" = some (.ref t.ZeL)
 QB:ZL K t.ZeM ["_law_tree_here","_law_day"] []
 UM:ZN K "_law_words" "_law_words" VV t.ZeN t.ZeO
 QC:mg "_law_words" = some (.ref t.ZeN)
 QD:ZL K t.ZeO ["_law_tree_here"] []
 Zfx:ZN K "_law_within" "_law_within" VW t.ZeP t.ZeQ
 ZiN:mg "_law_within" = some (.ref t.ZeP)
 ZiO:ZL K t.ZeQ ["_law_tree_here"] []
 Za3:ZN K "_law_weight" "_law_weight" VX t.ZeR t.ZeS
 Zfy:mg "_law_weight" = some (.ref t.ZeR)
 Zfz:ZL K t.ZeS ["_law_tree_here"] []
 ZcQ:ZN K "_law_depth" "_law_depth" VY t.ZeT t.ZeU
 ZiP:mg "_law_depth" = some (.ref t.ZeT)
 ZiQ:ZL K t.ZeU ["_law_tree_here"] []
 ZfA:ZN K "_law_class" "_law_class" VZ t.ZeV t.ZeW
 ZiR:mg "_law_class" = some (.ref t.ZeV)
 ZiS:ZL K t.ZeW ["_law_error"] []
 Za4:ZN K "_law_number" "_law_number" V0 t.ZeX t.ZeY
 ZcR:mg "_law_number" = some (.ref t.ZeX)
 ZcS:ZL K t.ZeY ["_law_word"] []
 ZfB:ZN K "_law_list" "_law_list" V2 t.ZeZ t.Ze0
 ZiT:mg "_law_list" = some (.ref t.ZeZ)
 ZiU:ZL K t.Ze0 ["_law_word","_law_most"] []
 ZfC:ZN K "_law_leaf_read" "_law_leaf_read" V3 t.Ze1 t.Ze2
 ZiV:mg "_law_leaf_read" = some (.ref t.Ze1)
 ZiW:ZL K t.Ze2 ["_law_words_here"] []
 ZcT:ZN K "_law_within_read" "_law_within_read" V4 t.ZbW t.ZbX
 ZiX:mg "_law_within_read" = some (.ref t.ZbW)
 ZiY:ZL K t.ZbX ["_law_words_here","_law_deep"] []
 Za5:ZN K "_law_read" "_law_read" V5 t.ZbY t.ZbZ
 ZfD:mg "_law_read" = some (.ref t.ZbY)
 ZfE:ZL K t.ZbZ ["_law_words_here","_law_deep"] []
 ZiZ:ZN K "_law_due" "_law_due" V6 t.Ze3 t.Ze4
 ZoR:mg "_law_due" = some (.ref t.Ze3)
 ZoS:ZL K t.Ze4 ["_law_text"] []
 ZcU:ZN K "_law_told" "_law_told" V7 t.Ze5 t.Ze6
 ZfF:mg "_law_told" = some (.ref t.Ze5)
 ZfG:ZL K t.Ze6 ["_law_text"] []
 ZfH:ZN K "_law_alike" "_law_alike" V8 t.Ze7 t.Ze8
 Zi0:mg "_law_alike" = some (.ref t.Ze7)
 Zi1:ZL K t.Ze8 ["_law_script","_law_tape","_law_found","_law_tree_here"] []
 ZcV:ZN K "_law_changed" "_law_changed" V9 t.Ze9 t.Zfa
 ZfI:mg "_law_changed" = some (.ref t.Ze9)
 ZfJ:ZL K t.Zfa ["_law_script","_law_tape","_law_text"] []
 Zi2:ZN K "law" "law" Ua t.Zfb t.Zb0
 ZoT:mg "law" = some (.ref t.Zfb)
 ZsH:ZL K t.Zb0 ["_law_script"] []
 ZoU:ZN K "copied" "Rule.copied" Ub t.Zb1 t.Zb2
 ZoV:ZL K t.Zb2 ["self"] []
 ZoW:ZN K "parts" "Rule.parts" Uc t.ZaO t.Zfc
 ZfK:ZL K t.Zfc ["self"] []
 ZoX:ZN K "runs" "Rule.runs" Ud t.Zb3 t.Zb4
 ZoY:ZL K t.Zb4 ["self","day"] []
 ZoZ:ZN K "words" "Rule.words" Ue t.Zb5 t.Zb6
 Zo0:ZL K t.Zb6 ["self"] []
 Zi3:ZN K "weight" "Rule.weight" Uf t.W5 t.Zfd
 ZcW:ZL K t.Zfd ["self"] []
 Zi4:ZN K "depth" "Rule.depth" Ug t.W6 t.Zfe
 ZcX:ZL K t.Zfe ["self"] []
 Zi5:ZN K "__init__" "Week.__init__" Uh t.Q4 t.Q5
 ZcY:ZL K t.Q5 ["self","bits"] []
 Zo1:ZN K "copied" "Week.copied" Ui t.Zb7 t.Zb8
 Zo2:ZL K t.Zb8 ["self"] []
 Zo3:ZN K "runs" "Week.runs" Uj t.Zb9 t.Zca
 Zi6:ZL K t.Zca ["self","day"] []
 Zo4:ZN K "words" "Week.words" Uk t.Zcb t.Zcc
 Zo5:ZL K t.Zcc ["self"] []
 Zi7:ZN K "__init__" "Span.__init__" Ul t.Q6 t.Q7
 ZcZ:ZL K t.Q7 ["self","first","last","rule"] []
 Zi8:ZN K "copied" "Span.copied" Um t.Zcd t.Zce
 Zo6:ZL K t.Zce ["self"] []
 Zo7:ZN K "parts" "Span.parts" Uo t.Zff t.Zfg
 Zo8:ZL K t.Zfg ["self"] []
 Zi9:ZN K "runs" "Span.runs" Up t.Zcf t.Zcg
 Zo9:ZL K t.Zcg ["self","day"] []
 Zja:ZN K "words" "Span.words" Uq t.Zch t.Zci
 Zpa:ZL K t.Zci ["self"] []
 Zjb:ZN K "__init__" "Each.__init__" Ur t.Q8 t.Q9
 Zc0:ZL K t.Q9 ["self","length","starts"] []
 Zpb:ZN K "copied" "Each.copied" Us t.Zcj t.Zck
 Zpc:ZL K t.Zck ["self"] []
 Zpd:ZN K "runs" "Each.runs" Ut t.Zcl t.Zcm
 Zpe:ZL K t.Zcm ["self","day"] []
 Zpf:ZN K "words" "Each.words" Uu t.Zcn t.Zco
 Zpg:ZL K t.Zco ["self"] []
 Zjc:ZN K "__init__" "Either.__init__" Uv t.Zaa t.Zab
 Zc1:ZL K t.Zab ["self","one","other"] []
 Zjd:ZN K "copied" "Either.copied" Uw t.Zcp t.Zcq
 Zph:ZL K t.Zcq ["self"] []
 Zpi:ZN K "parts" "Either.parts" Ux t.Zfh t.Zfi
 Zpj:ZL K t.Zfi ["self"] []
 Zje:ZN K "runs" "Either.runs" Uy t.Zcr t.Zcs
 Zpk:ZL K t.Zcs ["self","day"] []
 Zjf:ZN K "words" "Either.words" Uz t.Zct t.Zcu
 Zpl:ZL K t.Zcu ["self"] []
 Zjg:ZN K "__init__" "Both.__init__" UA t.Zac t.Zad
 Zc2:ZL K t.Zad ["self","one","other"] []
 Zjh:ZN K "copied" "Both.copied" UB t.Zcv t.Zcw
 Zpm:ZL K t.Zcw ["self"] []
 Zpn:ZN K "parts" "Both.parts" UC t.Zfj t.Zfk
 Zpo:ZL K t.Zfk ["self"] []
 Zji:ZN K "runs" "Both.runs" UD t.Zcx t.Zcy
 Zpp:ZL K t.Zcy ["self","day"] []
 Zjj:ZN K "words" "Both.words" UE t.Zcz t.ZcA
 Zpq:ZL K t.ZcA ["self"] []
 Zjk:ZN K "__init__" "But.__init__" UF t.Zae t.Zaf
 Zc3:ZL K t.Zaf ["self","days","rule"] []
 Zjl:ZN K "copied" "But.copied" UG t.ZcB t.ZcC
 Zpr:ZL K t.ZcC ["self"] []
 Zps:ZN K "parts" "But.parts" UH t.Zfl t.Zfm
 Zpt:ZL K t.Zfm ["self"] []
 Zjm:ZN K "runs" "But.runs" UI t.ZcD t.ZcE
 Zpu:ZL K t.ZcE ["self","day"] []
 Zjn:ZN K "words" "But.words" UJ t.ZcF t.ZcG
 Zpv:ZL K t.ZcG ["self"] []
 Zan:YK K t.Yj
 Zc4:MkN K t.Yj
 Zpw:Z1 K t.Yj "copied" t.Zb1
 Zpx:Z1 K t.Yj "depth" t.W6
 Zpy:Z1 K t.Yj "parts" t.ZaO
 Zpz:Z1 K t.Yj "runs" t.Zb3
 ZpA:Z1 K t.Yj "weight" t.W5
 ZpB:Z1 K t.Yj "words" t.Zb5
 WQ:YK K t.Wb
 Zc5:Mk K t.Wb t.Q4
 ZpC:Z1 K t.Wb "copied" t.Zb7
 ZpD:Z1 K t.Wb "depth" t.W6
 ZpE:Z1 K t.Wb "parts" t.ZaO
 Zjo:Z1 K t.Wb "runs" t.Zb9
 ZpF:Z1 K t.Wb "weight" t.W5
 ZpG:Z1 K t.Wb "words" t.Zcb
 Zc6:Xh K t.Wb "bits"
 Y3:YK K t.YT
 Zc7:Mk K t.YT t.Q6
 ZpH:Z1 K t.YT "copied" t.Zcd
 ZpI:Z1 K t.YT "depth" t.W6
 ZpJ:Z1 K t.YT "parts" t.Zff
 ZpK:Z1 K t.YT "runs" t.Zcf
 ZpL:Z1 K t.YT "weight" t.W5
 ZpM:Z1 K t.YT "words" t.Zch
 Za6:Xh K t.YT "first"
 Za7:Xh K t.YT "last"
 Zao:Xh K t.YT "inner"
 XT:YK K t.Xz
 Zc8:Mk K t.Xz t.Q8
 ZpN:Z1 K t.Xz "copied" t.Zcj
 ZpO:Z1 K t.Xz "depth" t.W6
 ZpP:Z1 K t.Xz "parts" t.ZaO
 ZpQ:Z1 K t.Xz "runs" t.Zcl
 ZpR:Z1 K t.Xz "weight" t.W5
 ZpS:Z1 K t.Xz "words" t.Zcn
 Za8:Xh K t.Xz "length"
 Za9:Xh K t.Xz "starts"
 Xn:YK K t.YG
 Zc9:Mk K t.YG t.Zaa
 ZpT:Z1 K t.YG "copied" t.Zcp
 ZpU:Z1 K t.YG "depth" t.W6
 ZpV:Z1 K t.YG "parts" t.Zfh
 ZpW:Z1 K t.YG "runs" t.Zcr
 ZpX:Z1 K t.YG "weight" t.W5
 ZpY:Z1 K t.YG "words" t.Zct
 Zap:Xh K t.YG "one"
 Zaq:Xh K t.YG "other"
 Xo:YK K t.YH
 Zda:Mk K t.YH t.Zac
 ZpZ:Z1 K t.YH "copied" t.Zcv
 Zp0:Z1 K t.YH "depth" t.W6
 Zp1:Z1 K t.YH "parts" t.Zfj
 Zp2:Z1 K t.YH "runs" t.Zcx
 Zp3:Z1 K t.YH "weight" t.W5
 Zp4:Z1 K t.YH "words" t.Zcz
 Zar:Xh K t.YH "one"
 Zas:Xh K t.YH "other"
 XA:YK K t.Y9
 Zdb:Mk K t.Y9 t.Zae
 Zp5:Z1 K t.Y9 "copied" t.ZcB
 Zp6:Z1 K t.Y9 "depth" t.W6
 Zp7:Z1 K t.Y9 "parts" t.Zfl
 Zp8:Z1 K t.Y9 "runs" t.ZcD
 Zp9:Z1 K t.Y9 "weight" t.W5
 Zqa:Z1 K t.Y9 "words" t.ZcF
 Zba:Xh K t.Y9 "days"
 Zat:Xh K t.Y9 "inner"
 Zqb:Vu K t.Yj
 Zqc:W.kitOne K (.ref t.Yj) (.ref t.Yj)=some true
 Zqd:Vu K t.Wb
 Zqe:W.kitOne K (.ref t.Wb) (.ref t.Yj)=some true
 Zqf:Vu K t.YT
 Zqg:W.kitOne K (.ref t.YT) (.ref t.Yj)=some true
 Zqh:Vu K t.Xz
 Zqi:W.kitOne K (.ref t.Xz) (.ref t.Yj)=some true
 Zqj:Vu K t.YG
 Zqk:W.kitOne K (.ref t.YG) (.ref t.Yj)=some true
 Zql:Vu K t.YH
 Zqm:W.kitOne K (.ref t.YH) (.ref t.Yj)=some true
 Zqn:Vu K t.Y9
 Zqo:W.kitOne K (.ref t.Y9) (.ref t.Yj)=some true
 Zqp:W.kitOne K (.type "NoneType") (.ref t.Yj)=some false
 Zqq:W.kitOne K (.type "str") (.ref t.Yj)=some false
 Zqr:W.kitOne K (.type "int") (.ref t.Yj)=some false
 Zqs:W.kitOne K (.type "list") (.ref t.Yj)=some false
 Zqt:W.kitOne K (.type "dict") (.ref t.Yj)=some false
 ZsI:W.kitOne K (.type "bool") (.ref t.Yj)=some false
 Zjp:mg "RoadError" = some (.ref t.Zfn)
 Zqu:mg "BadClock" = some (.ref t.ZaP)
 Xp:mg "BadRule" = some (.ref t.Z0)
 Zdc:mg "TooMany" = some (.ref t.Z3)
 Zqv:mg "BadName" = some (.ref t.ZaQ)
 Zqw:mg "Twice" = some (.ref t.ZaR)
 Zqx:mg "NoStop" = some (.ref t.ZaS)
 Zqy:mg "BadNumber" = some (.ref t.ZaT)
 Zqz:mg "BadCalls" = some (.ref t.ZaU)
 ZqA:mg "NoRun" = some (.ref t.ZaV)
 ZqB:mg "TooLate" = some (.ref t.ZaW)
 ZqC:mg "NoTraveller" = some (.ref t.ZaX)
 ZqD:mg "BadLine" = some (.ref t.ZaY)
 QE:mg "Rule" = some (.ref t.Yj)
 Zdd:mg "Week" = some (.ref t.Wb)
 Zde:mg "Span" = some (.ref t.YT)
 Zdf:mg "Each" = some (.ref t.Xz)
 Zdg:mg "Either" = some (.ref t.YG)
 Zdh:mg "Both" = some (.ref t.YH)
 Zdi:mg "But" = some (.ref t.Y9)
 XB:ExC K t.Z0
 Wq:Vn K t.Z0
 ZqE:W.kitOne K (.ref t.Z0) (.ref t.ZaP)=some false
 ZqF:W.kitOne K (.ref t.Z0) (.ref t.Z0)=some true
 ZqG:W.kitOne K (.ref t.Z0) (.ref t.Z3)=some false
 ZqH:W.kitOne K (.ref t.Z0) (.ref t.ZaQ)=some false
 ZqI:W.kitOne K (.ref t.Z0) (.ref t.ZaR)=some false
 ZqJ:W.kitOne K (.ref t.Z0) (.ref t.ZaS)=some false
 ZqK:W.kitOne K (.ref t.Z0) (.ref t.ZaT)=some false
 ZqL:W.kitOne K (.ref t.Z0) (.ref t.ZaU)=some false
 ZqM:W.kitOne K (.ref t.Z0) (.ref t.ZaV)=some false
 ZqN:W.kitOne K (.ref t.Z0) (.ref t.ZaW)=some false
 ZqO:W.kitOne K (.ref t.Z0) (.ref t.ZaX)=some false
 ZqP:W.kitOne K (.ref t.Z0) (.ref t.ZaY)=some false
 ZqQ:W.kitOne K (.ref t.Z0) (.type "ValueError")=some true
 Zjq:W.exmOne K (.ref t.Z0) (.ref t.Zfn)=some true
 Zjr:ExC K t.Z3
 Wr:Vn K t.Z3
 ZqR:W.kitOne K (.ref t.Z3) (.ref t.ZaP)=some false
 ZqS:W.kitOne K (.ref t.Z3) (.ref t.Z0)=some false
 ZqT:W.kitOne K (.ref t.Z3) (.ref t.Z3)=some true
 ZqU:W.kitOne K (.ref t.Z3) (.ref t.ZaQ)=some false
 ZqV:W.kitOne K (.ref t.Z3) (.ref t.ZaR)=some false
 ZqW:W.kitOne K (.ref t.Z3) (.ref t.ZaS)=some false
 ZqX:W.kitOne K (.ref t.Z3) (.ref t.ZaT)=some false
 ZqY:W.kitOne K (.ref t.Z3) (.ref t.ZaU)=some false
 ZqZ:W.kitOne K (.ref t.Z3) (.ref t.ZaV)=some false
 Zq0:W.kitOne K (.ref t.Z3) (.ref t.ZaW)=some false
 Zq1:W.kitOne K (.ref t.Z3) (.ref t.ZaX)=some false
 Zq2:W.kitOne K (.ref t.Z3) (.ref t.ZaY)=some false
 Zq3:W.kitOne K (.ref t.Z3) (.type "ValueError")=some true
 ZsJ:W.exmOne K (.ref t.Z3) (.ref t.Zfn)=some true
 Zq4:W.exmOne K (.ref t.Z3) (.ref t.Z3)=some true
 Zq5:W.exmOne K (.ref t.Z0) (.ref t.Z3)=some false
section
variable {P:Program} {w:World} {K:W.Frag} {mg:Str→Option Value} {base:Heap} {t:YX}
def Zq6:Sp:=fun vs H Q _=>∃ (v:V) (T:String),vs=[v]∧Kd H v T∧Q (.bl (ZmA v)) H
theorem Zq7 (Tx:ZD K mg t):Zv P w K mg base Zx 1 t.Zeb t.Zec ["value"] Zq6:=by
 refine Tx.ZiA.ok Zn8 (fun vs H Q E h=>?_) (fun cdv A outer s H vs Q E hr h=>?_)
 ·obtain ⟨v,T,rfl,_⟩:=h
  rfl
 obtain ⟨v,T,rfl,kd,q⟩:=h
 refine Za _ (Zj (Zw (UT (Z4 QU rfl Tx.Y2 Y1 (Zb (pv 0) (Zb (Qk rfl Tx.ZaZ ZaN) Zc))) (US (ZkN (Z4 QU rfl Tx.Y2 Y1 (Zb (pv 0) (Zb (Qk rfl Tx.Zit Zio) Zc)))))))) ?_
 refine Za _ rfl (Ww v ("int") _ _ rfl kd.ty (Zmx kd) (Za _ rfl ?_))
 cases kd with
 | non=>exact Zh (by decide) q
 | str x=>exact Zh (by decide) q
 | lst e=>exact Zh (by decide) q
 | tup e=>exact Zh (by decide) q
 | dK e=>exact Zh (by decide) q
 | bl b=>exact Zy (by decide) (Za _ rfl (Ww _ ("bool") _ _ rfl ((Kd.bl b).ty (H:=H)) (Zg5 (H:=H) (.bl b)) (Za _ rfl q)))
 | int i=>exact Zy (by decide) (Za _ rfl (Ww _ ("bool") _ _ rfl ((Kd.int i).ty (H:=H)) (Zg5 (H:=H) (.int i)) (Za _ rfl q)))
def Zq8:Sp:=fun vs H Q _=>∃ (v:V) (lo hi:Int) (T:String),vs=[v,.int lo,.int hi]∧Kd H v T∧Q (.bl (Xm v lo hi)) H
theorem Vb (Tx:ZD K mg t):Zv P w K mg base Zx 2 t.Zed t.Zee ["value","least","most"] Zq8:=by
 refine Tx.WP.ok Zn9 (fun vs H Q E h=>?_) (fun cdv A outer s H vs Q E hr h=>?_)
 ·obtain ⟨v,lo,hi,T,rfl,_⟩:=h
  rfl
 obtain ⟨v,lo,hi,T,rfl,kd,q⟩:=h
 refine Za _ (Zj (Zw (UT (Zo (Zq7 Tx) (hr.mono (by omega)) rfl Tx.ZoH Tx.ZiA.kp Tx.ZoI .nil Zp (Zb (pv 0) Zc)) (US (Zgq Wf Wf (pv 1) (pv 0) (pv 2)))))) ?_
 refine Za _ rfl (ZA v T rfl kd (Za _ rfl ?_))
 cases kd with
 | non=>exact Zh Bool.false_ne_true q
 | str x=>exact Zh Bool.false_ne_true q
 | lst e=>exact Zh Bool.false_ne_true q
 | tup e=>exact Zh Bool.false_ne_true q
 | dK e=>exact Zh Bool.false_ne_true q
 | bl b=>exact Zh Bool.false_ne_true q
 | int i =>
  refine Zy rfl ?_
  refine Za _ rfl (Za _ rfl (ZA _ _ rfl rfl (Za _ rfl ?_)))
  refine Zbt (fun c=>?_) (fun c=>?_)
  ·refine Za _ rfl (ZA _ _ rfl rfl ?_)
   have c':lo≤i:=of_decide_eq_true c
   have e:decide (i≤hi)=Xm (.int i) lo hi:=by
    show decide (i≤hi)=decide (lo≤i∧i≤hi)
    exact decide_eq_decide.mpr ⟨fun z=>⟨c',z⟩,fun z=>z.2⟩
   rw [← e] at q;exact q
  ·have c':¬ lo≤i:=of_decide_eq_false (Bool.eq_false_iff.mpr c)
   have e:false=Xm (.int i) lo hi:=by
    show false=decide (lo≤i∧i≤hi)
    exact (decide_eq_false fun z=>c' z.1).symm
   rw [← e] at q;exact q
def Zq9:Sp:=fun vs H Q _=>∃ (a:Addr) (ss:List Nat) (n lo:Nat) (hi:Int),vs=[.ref a,.int (n:Nat),.int (lo:Nat),.int hi]∧H a=some (.lst (ZR ss))∧1≤ss.length∧ss.length≤n∧ss.Pairwise (· < ·)∧(∀ x∈ss,lo≤x∧((x:Nat):Int)≤hi)∧Q (.bl true) H
theorem Zjs (Tx:ZD K mg t):Zv P w K mg base Zx 3 t.ZbQ t.ZbR ["values","longest","least","most"] Zq9:=by
 refine Tx.Zai.ok U5 (fun vs H Q E h=>?_) (fun cdv A outer s H vs Q E hr h=>?_)
 ·obtain ⟨a,ss,n,lo,hi,rfl,_⟩:=h
  rfl
 obtain ⟨a,ss,n,lo,hi,rfl,ha,l1,l2,up,al,q⟩:=h
 refine Za _ (Zl (ZG (PW.pt (Y5 (Yt (Yx (Z4 QU rfl Tx.Y2 Y1 (Zb (pv 0) (Zb (Qk rfl Tx.Qw Q3) Zc))))) (XE (Yt (Zbm Wf Wf Ze (Z4 WX rfl Tx.XR XQ (Zb (pv 0) Zc)) (pv 1))))))
  (Zj (Zw Xd))
  ZF)
  (Zl (ZT (i:=4) U5.nd rfl (Or.inl rfl) (pv 2))
  (Zl (Qd PassesOwn.never rfl (WD (pv 0)) (Y6 (i:=5) U5.nd rfl (Or.inl rfl))
  (Zl (ZG (Yt (Yx (Zo (Vb Tx) (hr.mono (by omega)) rfl Tx.W8 Tx.WP.kp Tx.W9 .nil Zp (Zb (pv 5) (Zb (pv 4) (Zb (pv 3) Zc))))))
  (Zj (Zw Xd))
  ZF)
  (Zj (ZT (i:=4) U5.nd rfl (Or.inl rfl) (ZB Y7 (pv 5) Ze)))))
  (Zj (Zw Xd))))) ?_
 have hlen:(ZR ss).length=ss.length:=List.length_map ..
 refine Za _ rfl (Ww (.ref a) ("list") _ _ rfl (.lst ha) rfl (Za _ rfl (Zh (by decide) ?_)))
 refine Za _ rfl (ZA a _ rfl (.inl (Zm.of ha)) (ZA _ _ rfl rfl (Za _ rfl (Zy (decide_eq_true (by rw [hlen];omega)) ?_))))
 refine Za _ rfl (ZA _ _ rfl rfl (Za _ rfl (Zh (by rw [decide_eq_true (show (((ZR ss).length:Nat):Int)≤((n:Nat):Int) by rw [hlen];omega)];decide) ?_)))
 refine Za _ rfl (Za _ rfl (ZE a rfl ⟨_,Zm.of ha⟩ (ZdC (xs:=ZR ss) (fun i σ H'=>H'=H∧∃ (f:Nat) (v:Option V),σ=[some (.ref a),some (.int (n:Nat)),some (.int (lo:Nat)),some (.int hi),some (.int (f:Nat)),v]∧∀ j x,i≤j→ss[j]? = some x→f≤x)
  ⟨rfl,WO lo _ rfl fun j x _ e=>(al x (List.mem_of_getElem? e)).1⟩ (fun i σ H' _ ⟨e,_⟩=>by rw [e];exact Zm.of ha) ?_ ?_)))
 ·rintro i x σ H' hx ⟨rfl,f,v,rfl,hf⟩
  rw [List.getElem?_map] at hx
  cases hs:ss[i]? with
  | none=>rw [hs] at hx;cases hx
  | some m =>
   rw [hs] at hx
   obtain rfl:V.int ((m:Nat):Int)=x:=Option.some.inj hx
   have hm:=al m (List.mem_of_getElem? hs)
   have fm:=hf i m (Nat.le_refl _) hs
   refine Za _ rfl (Za _ rfl (Za _ rfl (Wv (.int (m:Nat)) _ _ ("int") rfl (.int _) (Za _ rfl (Zh (by rw [W0 (by omega) hm.2];decide) ?_)))))
   refine Za _ rfl (ZV _ _ rfl rfl rfl (WO (m+1) _ rfl fun j y hj e=>?_))
   have:=List.pairwise_iff_getElem.mp up i j (List.getElem?_eq_some_iff.mp hs).1 (List.getElem?_eq_some_iff.mp e).1 (by omega)
   rw [(List.getElem?_eq_some_iff.mp hs).2,(List.getElem?_eq_some_iff.mp e).2] at this
   exact this
 ·rintro σ H' ⟨rfl,f,v,rfl,_⟩
  exact q
def Zbb:V→Int
 | .int i=>i
 | _=>0
def Wc (lo hi:Int):List V→Bool
 | []=>true
 | x::r=>Xm x lo hi && Wc (Zbb x+1) hi r
theorem Zra {K:W.Frag} {H:Hp} {v:V} {T:String} (k:Kd H v T):W.kitOne K (.type T) (.type "list")=some (decide (T = "list")):=by
 cases k <;> rfl
def Zrb:Sp:=fun vs H Q _=>∃ (v:V) (n lo hi:Int),vs=[v,.int n,.int lo,.int hi] ∧
 ((∃ T,Kd H v T∧T ≠ "list" ∧ Q (.bl false) H)∨(∃ (a:Addr) (xs:List V),v=.ref a∧H a=some (.lst xs)∧(∀ x∈xs,∃ T,Kd H x T)∧Q (.bl (decide (1≤xs.length∧(xs.length:Int)≤n) && Wc lo hi xs)) H))
theorem Zjt (Tx:ZD K mg t):Zv P w K mg base Zx 3 t.ZbQ t.ZbR ["values","longest","least","most"] Zrb:=by
 refine Tx.Zai.ok U5 (fun vs H Q E h=>?_) (fun cdv A outer s H vs Q E hr h=>?_)
 ·obtain ⟨v,n,lo,hi,rfl,_⟩:=h
  rfl
 obtain ⟨v,n,lo,hi,rfl,h⟩:=h
 refine Za _ (Zl (ZG (PW.pt (Y5 (Yt (Yx (Z4 QU rfl Tx.Y2 Y1 (Zb (pv 0) (Zb (Qk rfl Tx.Qw Q3) Zc))))) (XE (Yt (Zbm Wf Wf Ze (Z4 WX rfl Tx.XR XQ (Zb (pv 0) Zc)) (pv 1))))))
  (Zj (Zw Xd))
  ZF)
  (Zl (ZT (i:=4) U5.nd rfl (Or.inl rfl) (pv 2))
  (Zl (Qd PassesOwn.never rfl (WD (pv 0)) (Y6 (i:=5) U5.nd rfl (Or.inl rfl))
  (Zl (ZG (Yt (Yx (Zo (Vb Tx) (hr.mono (by omega)) rfl Tx.W8 Tx.WP.kp Tx.W9 .nil Zp (Zb (pv 5) (Zb (pv 4) (Zb (pv 3) Zc))))))
  (Zj (Zw Xd))
  ZF)
  (Zj (ZT (i:=4) U5.nd rfl (Or.inl rfl) (ZB Y7 (pv 5) Ze)))))
  (Zj (Zw Xd))))) ?_
 rcases h with ⟨T,kd,hT,q⟩ | ⟨a,xs,rfl,ha,hk,q⟩
 ·exact Za _ rfl (Ww v ("list") _ _ rfl kd.ty (Zra kd) (Za _ rfl (Zy (by rw [decide_eq_false hT];rfl) q)))
 refine Za _ rfl (Ww (.ref a) ("list") _ _ rfl (.lst ha) rfl (Za _ rfl (Zh (by decide) ?_)))
 refine Za _ rfl (ZA a _ rfl (.inl (Zm.of ha)) (ZA _ _ rfl rfl (Za _ rfl ?_)))
 by_cases l1:1≤xs.length
 rotate_left
 ·refine Zh (by rw [decide_eq_false (by omega)];decide) ?_
  refine Za _ rfl (Zy rfl ?_)
  rw [decide_eq_false (fun z=>l1 z.1),Bool.false_and] at q
  exact q
 refine Zy (decide_eq_true (by omega)) (Za _ rfl (ZA _ _ rfl rfl (Za _ rfl ?_)))
 by_cases l2:(xs.length:Int)≤n
 rotate_left
 ·refine Zy (by rw [decide_eq_false l2];rfl) ?_
  rw [decide_eq_false (fun z=>l2 z.2),Bool.false_and] at q
  exact q
 refine Zh (by rw [decide_eq_true l2];decide) ?_
 rw [decide_eq_true ⟨l1,l2⟩,Bool.true_and] at q
 refine Za _ rfl (Za _ rfl (ZE a rfl ⟨_,Zm.of ha⟩ (ZdC (xs:=xs) (fun i σ H'=>H'=H∧∃ (f:Int) (u:Option V),σ=[some (.ref a),some (.int n),some (.int lo),some (.int hi),some (.int f),u]∧Wc lo hi xs=Wc f hi (xs.drop i))
  ⟨rfl,WO lo _ rfl rfl⟩ (fun i σ H' _ ⟨e,_⟩=>by rw [e];exact Zm.of ha) ?_ ?_)))
 ·rintro i x σ H' hx ⟨rfl,f,u,rfl,hf⟩
  have hi':i < xs.length:=(List.getElem?_eq_some_iff.mp hx).1
  have ed:xs.drop i=x::xs.drop (i+1):=by
   rw [List.drop_eq_getElem_cons hi',(List.getElem?_eq_some_iff.mp hx).2]
  rw [ed] at hf
  obtain ⟨T,kx⟩:=hk x (List.mem_of_getElem? hx)
  refine Za _ rfl (Za _ rfl (Za _ rfl (Wv x f hi T rfl kx (Za _ rfl ?_))))
  cases hn:Xm x f hi with
  | false =>
   refine Zy rfl ?_
   have e:Wc lo hi xs=false:=by
    rw [hf]
    show (Xm x f hi && _)=false
    rw [hn]
    rfl
   rw [e] at q
   exact q
  | true =>
   refine Zh (by decide) ?_
   cases x with
   | int m =>
    refine Za _ rfl (ZV _ _ rfl rfl rfl (WO (m+1) _ rfl ?_))
    rw [hf]
    show (Xm (.int m) f hi && Wc (m+1) hi (xs.drop (i+1)))=_
    rw [hn,Bool.true_and]
   | _=>cases hn
 ·rintro σ H' ⟨rfl,f,u,rfl,hf⟩
  rw [List.drop_length] at hf
  have e:Wc lo hi xs=true:=hf
  rw [e] at q
  exact q
def Zrc:Sp:=fun vs H Q _=>∃ z:Str,vs=[.str z]∧z.length≤sizeLine∧∀ H',Zt H H'→Q (.bl (UZ z)) H'
theorem Zrd (Tx:ZD K mg t):Zv P w K mg base Zx 1 t.Zef t.Zeg ["text"] Zrc:=by
 refine Tx.ZiB.ok Zoa (fun vs H Q E h=>?_) (fun cdv A outer s H vs Q E hr h=>?_)
 ·obtain ⟨z,rfl,_⟩:=h
  rfl
 obtain ⟨z,rfl,hz,q⟩:=h
 obtain ⟨tk,mf⟩:=Tx.ZoF
 rw [Zg4] at mf
 refine Za _ (Zj (Zw (UT (XF Wt (pv 0) Zn (ZH _)) (US (Z4 (ZgR rfl) rfl Tx.Zis Zin (Zb (Zmk (cl:=[]) rfl (pv 0) rfl (by decide +kernel) rfl (by decide +kernel) rfl) Zc)))))) ?_
 refine ZE _ rfl rfl (Za _ rfl ?_)
 refine Zbt (fun c=>?_) (fun c=>?_)
 ·refine Za WJ (Zml (t:=tk) rfl rfl mf) (Za _ rfl (ZE z rfl hz fun p hp=>?_))
  refine ZA p (z.cps.toList.map (fun c=>WI WJ c)) rfl (Zm.of (by rw [Zf,Zmz])) ?_
  have e:((z.cps.toList.map fun c=>WI WJ c).all id)=UZ z:=by
   unfold UZ
   rw [show (!decide (V.str z=V.str (Str.ofString "")))=true from c,Bool.true_and]
  have q2:=q _ (Zr hp (HO.lst (z.cps.toList.map fun c=>V.bl (WI WJ c))))
  rw [← e] at q2;exact q2
 ·have e:false=UZ z:=by
   unfold UZ
   rw [show (!decide (V.str z=V.str (Str.ofString "")))=false from Bool.eq_false_iff.mpr c,Bool.false_and]
  have q2:=q _ (Zt.refl _)
  rw [← e] at q2;exact q2
def Zre:Sp:=fun vs H Q _=>∃ z:Str,vs=[.str z]∧z.length≤sizeLine∧∀ H',Zt H H'→Q (YF (Yb z.cps.toList)) H'
theorem Zju (Tx:ZD K mg t):Zv P w K mg base Zx 2 t.Zeh t.Zei ["text"] Zre:=by
 refine Tx.Zfr.ok Zob (fun vs H Q E h=>?_) (fun cdv A outer s H vs Q E hr h=>?_)
 ·obtain ⟨z,rfl,_⟩:=h
  rfl
 obtain ⟨z,rfl,hz,q⟩:=h
 refine Za _ (Zl (ZG (PW.pt (Y5 (ZI XV (Z4 QR rfl Tx.XR XQ (Zb (pv 0) Zc)) (YV rfl Tx.ZoG) (ZH _)) (XE (Yt (Yx (Zo (Zrd Tx) (hr.mono (by omega)) rfl Tx.ZoJ Tx.ZiB.kp Tx.ZoK .nil Zp (Zb (pv 0) Zc)))))))
  (Zj (Zw Y4))
  ZF)
  (Zl (ZG (PW.pt (WC (ZI ZZ (Zz ZaE (pv 0) Ze (fun _ _=>rfl)) Zn (ZH _)) (Vf (ZI Wt (pv 0) Zn (ZH _)))))
  (Zj (Zw Y4))
  ZF)
  (Zj (Zw (YU Zbx rfl Tx.ZaZ ZaN (Zb (pv 0) Zc)))))) ?_
 refine Za _ rfl (ZE z rfl hz (ZA _ _ rfl rfl (Za _ rfl ?_)))
 have hl:=XZ z
 by_cases h5:z.length≤5
 ·refine Zh (fun y=>by have:=of_decide_eq_true y;omega) ?_
  refine Za _ rfl (ZE z rfl hz fun H1 s1=>(Za _ rfl ?_))
  have q1:=q H1 s1
  by_cases hf:UZ z=true
  ·refine Zh (by rw [hf];decide) ?_
   rw [Zg8,Bool.and_eq_true] at hf
   have hne:z.cps.toList≠[]:=of_decide_eq_true hf.1
   obtain ⟨c,r,ec⟩:=List.exists_cons_of_ne_nil hne
   have e0:decide (V.str (⟨#[c]⟩:Str)=V.str (Str.ofString "0"))=decide (c=48):=by
    rw [ZaI,show (Str.ofString "0").cps.toList=[48] by decide +kernel]
    exact decide_eq_decide.mpr ⟨fun y=>by simpa using y,fun y=>by rw [y]⟩
   have e1:decide (V.str z=V.str (Str.ofString "0"))=decide (z.cps.toList=[48]):=by
    rw [ZaI,show (Str.ofString "0").cps.toList=[48] by decide +kernel]
   have hv:=Zg9 hf.2 hne (by omega)
   have fin:¬ (z.cps.toList.head? = some 48∧z.cps.toList≠[48])→∃ v,some (some (V.str z))=some (some v)∧∃ zz n,[v]=[V.str zz]∧PySem.intText? zz=some n∧zz.length≤640∧Q (.int n) H1:=fun hn=>by
    rw [show Yb z.cps.toList=some (Vp z.cps.toList) from if_pos ⟨by omega,hne,hf.2,hn⟩] at q1
    exact Za _ rfl (ZV z _ rfl hv (by omega) q1)
   refine Za _ rfl ⟨_,0,c,rfl,rfl,hz,(by rw [ec];exact XL (j:=0) rfl),rfl,Za _ rfl ?_⟩
   by_cases h0:c=48
   ·refine Zy (by rw [e0,decide_eq_true h0]) ?_
    refine ZE _ rfl rfl (Za _ rfl ?_)
    by_cases h1:z.cps.toList=[48]
    ·refine Zh (by rw [e1,decide_eq_true h1];decide) ?_
     exact fin fun y=>y.2 h1
    ·refine Zy (by rw [e1,decide_eq_false h1];rfl) ?_
     rw [show Yb z.cps.toList=none from if_neg fun y=>y.2.2.2 ⟨by rw [ec,h0];rfl,h1⟩] at q1
     exact q1
   ·refine Zh (by rw [e0,decide_eq_false h0];decide) ?_
    refine Zh (by decide) ?_
    exact fin fun y=>h0 (by have:=y.1;rw [ec] at this;exact Option.some.inj this)
  ·refine Zy (by rw [Bool.eq_false_iff.mpr hf];rfl) ?_
   rw [show Yb z.cps.toList=none from if_neg fun y=>hf (by rw [Zg8,y.2.2.1,decide_eq_true y.2.1];rfl)] at q1
   exact q1
 ·refine Zy (by refine decide_eq_true ?_;omega) ?_
  have q1:=q H (Zt.refl _)
  rw [show Yb z.cps.toList=none from if_neg fun y=>h5 (by have:=y.1;omega)] at q1
  exact q1
abbrev rc (t:YX):RC:=⟨t.Yj,t.Wb,t.YT,t.Xz,t.YG,t.YH,t.Y9⟩
def X4 (c:RC) (K:W.Frag) (q:RT→Prop) (n:Nat):Sp:=fun vs H Q _=>∃ (a:Addr) (r:RT) (d:Nat),vs=[.ref a,.int (d:Nat)]∧ZM c K H a r∧q r∧r.depth≤n∧Q (.bl (r.runs d)) H
def Zau:RT→Prop | .always=>True | _=>False
def Zav:RT→Prop | .week _=>True | _=>False
def QF:RT→Prop | .span _ _ _=>True | _=>False
def Zaw:RT→Prop | .each _ _=>True | _=>False
def QG:RT→Prop | .either _ _=>True | _=>False
def QH:RT→Prop | .both _ _=>True | _=>False
def QI:RT→Prop | .but _ _=>True | _=>False
structure QJ (P:Program) (w:World) (K:W.Frag) (mg:Str→Option Value) (base:Heap) (t:YX) (n:Nat):Prop where
 rule:Zv P w K mg base Zx (n+1) t.Zb3 t.Zb4 ["self","day"] (X4 (rc t) K Zau n)
 week:Zv P w K mg base Zx (n+1) t.Zb9 t.Zca ["self","day"] (X4 (rc t) K Zav n)
 span:Zv P w K mg base Zx (n+1) t.Zcf t.Zcg ["self","day"] (X4 (rc t) K QF n)
 each:Zv P w K mg base Zx (n+1) t.Zcl t.Zcm ["self","day"] (X4 (rc t) K Zaw n)
 either:Zv P w K mg base Zx (n+1) t.Zcr t.Zcs ["self","day"] (X4 (rc t) K QG n)
 both:Zv P w K mg base Zx (n+1) t.Zcx t.Zcy ["self","day"] (X4 (rc t) K QH n)
 but:Zv P w K mg base Zx (n+1) t.ZcD t.ZcE ["self","day"] (X4 (rc t) K QI n)
theorem QJ.at {n:Nat} (R:QJ P w K mg base t n) (Tx:ZD K mg t) {H:Hp} {a:Addr} {r:RT} (h:ZM (rc t) K H a r) (hn:r.depth≤n) :
  ∃ (C dx:Addr) (fs:List (Str×V)) (f:Addr) (fd:FuncData) (sp:Sp),H a=some (.ins C dx fs)∧fs.lookup ("runs" : Str)=none∧YK K C∧Z1 K C "runs" f∧Zv P w K mg base Zx (n+1) f fd ["self","day"] sp∧ZL K fd ["self","day"] [] ∧
   ∀ (d:Nat) (Q:VK),Q (.bl (r.runs d)) H→sp [.ref a,.int (d:Nat)] H Q E0:=by
 cases h with
 | always h=>exact ⟨_,_,_,_,_,_,h,rfl,Tx.Zan,Tx.Zpz,R.rule,Tx.ZoY,fun d Q q=>(YJ a _ d rfl (.always h) trivial hn q)⟩
 | week h hb=>exact ⟨_,_,_,_,_,_,h,rfl,Tx.WQ,Tx.Zjo,R.week,Tx.Zi6,fun d Q q=>(YJ a _ d rfl (.week h hb) trivial hn q)⟩
 | span h hx hy hi=>exact ⟨_,_,_,_,_,_,h,rfl,Tx.Y3,Tx.ZpK,R.span,Tx.Zo9,fun d Q q=>(YJ a _ d rfl (.span h hx hy hi) trivial hn q)⟩
 | each h h1 h2 hp=>exact ⟨_,_,_,_,_,_,h,rfl,Tx.XT,Tx.ZpQ,R.each,Tx.Zpe,fun d Q q=>(YJ a _ d rfl (.each h h1 h2 hp) trivial hn q)⟩
 | either h hi hj=>exact ⟨_,_,_,_,_,_,h,rfl,Tx.Xn,Tx.ZpW,R.either,Tx.Zpk,fun d Q q=>(YJ a _ d rfl (.either h hi hj) trivial hn q)⟩
 | both h hi hj=>exact ⟨_,_,_,_,_,_,h,rfl,Tx.Xo,Tx.Zp2,R.both,Tx.Zpp,fun d Q q=>(YJ a _ d rfl (.both h hi hj) trivial hn q)⟩
 | but h hp hi=>exact ⟨_,_,_,_,_,_,h,rfl,Tx.XA,Tx.Zp8,R.but,Tx.Zpu,fun d Q q=>(YJ a _ d rfl (.but h hp hi) trivial hn q)⟩
theorem Zjv (Tx:ZD K mg t) (n:Nat):Zv P w K mg base Zx (n+1) t.Zb3 t.Zb4 ["self","day"] (X4 (rc t) K Zau n):=by
 refine Tx.ZoX.ok Zon (fun vs H Q E h=>?_) (fun cdv A outer s H vs Q E hr h=>?_)
 ·obtain ⟨a,r,d,rfl,_⟩:=h
  rfl
 obtain ⟨a,r,d,rfl,h,hq,hn,q⟩:=h
 refine Za _ (Zj (Zw Xd)) ?_
 cases r <;> first | exact q | exact hq.elim
theorem ZfL (Tx:ZD K mg t) (n:Nat):Zv P w K mg base Zx (n+1) t.Zb9 t.Zca ["self","day"] (X4 (rc t) K Zav n):=by
 refine Tx.Zo3.ok Zoq (fun vs H Q E h=>?_) (fun cdv A outer s H vs Q E hr h=>?_)
 ·obtain ⟨a,r,d,rfl,_⟩:=h
  rfl
 obtain ⟨a,r,d,rfl,h,hq,hn,q⟩:=h
 refine Za _ (Zj (Zw (XF ZZ (ZB Zlf (ZB Zle (Z7 (pv 0) rfl) (ZB We (pv 1) (YV rfl Tx.Zfp))) Ze) Ze (ZH _)))) ?_
 cases h with
 | week h hb =>
  rename_i dx b
  refine Za _ rfl (Ya a _ _ _ _ rfl h Tx.WQ Tx.Zc6 rfl (Za _ rfl (ZV _ _ rfl rfl (by show (0:Int) < 7;decide) (ZV _ _ rfl rfl (Int.emod_nonneg _ (by decide)) (ZV _ _ rfl rfl rfl ?_)))))
  have e:(((d:Nat):Int) % 7).toNat=d % 7:=by omega
  have e2:decide (V.int (Builtin.bitAnd (((b:Nat):Int) / 2 ^ (((d:Nat):Int) % 7).toNat) 1)=V.int 1)=(RT.week b).runs d:=by
   rw [e]
   have:=ZmJ b (d % 7)
   rw [UV]
   exact this
  rw [← e2] at q
  exact q
 | _=>exact hq.elim
theorem Zjw (Tx:ZD K mg t) (n:Nat):Zv P w K mg base Zx (n+1) t.Zcl t.Zcm ["self","day"] (X4 (rc t) K Zaw n):=by
 refine Tx.Zpd.ok Zou (fun vs H Q E h=>?_) (fun cdv A outer s H vs Q E hr h=>?_)
 ·obtain ⟨a,r,d,rfl,_⟩:=h
  rfl
 obtain ⟨a,r,d,rfl,h,hq,hn,q⟩:=h
 refine Za _ (Zj (Zw (XF WH (ZB We (pv 1) (Z7 (pv 0) rfl)) (Z7 (pv 0) rfl) rfl))) ?_
 cases h with
 | each h h1 h2 hp =>
  rename_i dx p m ss
  refine Za _ rfl (Za _ rfl (Ya a _ _ _ _ rfl h Tx.XT Tx.Za8 rfl (ZV _ _ rfl rfl (by show (0:Int) < _;omega) (Za _ rfl (Ya a _ _ _ _ rfl h Tx.XT Tx.Za9 rfl (ZX p _ rfl (.inr hp) rfl (QV ss) ?_))))))
  have e:((d:Nat):Int) % ((m:Nat):Int)=((d % m:Nat):Int):=by omega
  have e2:XX (.int (((d:Nat):Int) % ((m:Nat):Int))) (ZR ss)=(RT.each m ss).runs d:=by
   rw [e]
   exact ZaJ (d % m) ss
  rw [← e2] at q
  exact q
 | _=>exact hq.elim
theorem Zrf (Tx:ZD K mg t) (n:Nat) (R:QJ P w K mg base t n):Zv P w K mg base Zx (n+2) t.Zcf t.Zcg ["self","day"] (X4 (rc t) K QF (n+1)):=by
 refine Tx.Zi9.ok Zh8 (fun vs H Q E h=>?_) (fun cdv A outer s H vs Q E hr h=>?_)
 ·obtain ⟨a,r,d,rfl,_⟩:=h
  rfl
 obtain ⟨a,r,d,rfl,h,hq,hn,q⟩:=h
 refine Za _ (Zj (Zw (UT (Zgq Wf Wf (Z7 (pv 0) rfl) (pv 1) (Z7 (pv 0) rfl)) (US (Qo (Z7 (pv 0) rfl) (Zb (pv 1) Zc)))))) ?_
 cases h with
 | span h hx hy hi =>
  rename_i dx i x y r
  have hd:r.depth≤n:=by
   have:(RT.span x y r).depth=1+r.depth:=rfl
   omega
  obtain ⟨C,dx2,fs,f,fd,sp,g1,g2,g3,g4,g5,g6,g7⟩:=R.at Tx hi hd
  refine Za _ rfl (Ya a _ _ _ _ rfl h Tx.Y3 Tx.Za6 rfl ?_)
  have fin:∀ b:Bool,b=(decide (x≤d) && decide (d≤y) && r.runs d)→Q (.bl b) H:=fun b e=>by rw [e];exact q
  refine Za _ rfl (ZA _ _ rfl rfl (Za _ rfl ?_))
  by_cases h1:x≤d
  ·refine Zy (decide_eq_true (by omega)) ?_
   refine Za _ rfl (Ya a _ _ _ _ rfl h Tx.Y3 Tx.Za7 rfl (ZA _ _ rfl rfl (Za _ rfl ?_)))
   by_cases h2:d≤y
   ·refine Zy (decide_eq_true (by omega)) ?_
    refine Za _ rfl (Ya a _ _ _ _ rfl h Tx.Y3 Tx.Zao rfl ⟨i,C,dx2,fs,f,fd,_,_,sp,Zx,E0,rfl,g1,g2,g3,g4,g5,hr.mono (by omega),g6,Zp,Za _ rfl ?_⟩)
    exact g7 d Q (fin _ (by rw [decide_eq_true h1,decide_eq_true h2];rfl))
   ·refine Zh (by rw [decide_eq_false (by omega)];decide) ?_
    exact fin _ (by rw [decide_eq_false h2,Bool.and_false,Bool.false_and])
  ·refine Zh (by rw [decide_eq_false (by omega)];decide) ?_
   exact Za _ rfl (Zh (by decide) (fin _ (by rw [decide_eq_false h1,Bool.false_and,Bool.false_and])))
 | _=>exact hq.elim
theorem Zrg (Tx:ZD K mg t) (n:Nat) (R:QJ P w K mg base t n):Zv P w K mg base Zx (n+2) t.Zcr t.Zcs ["self","day"] (X4 (rc t) K QG (n+1)):=by
 refine Tx.Zje.ok Zid (fun vs H Q E h=>?_) (fun cdv A outer s H vs Q E hr h=>?_)
 ·obtain ⟨a,r,d,rfl,_⟩:=h
  rfl
 obtain ⟨a,r,d,rfl,h,hq,hn,q⟩:=h
 refine Za _ (Zj (Zw (ZkM (Qo (Z7 (pv 0) rfl) (Zb (pv 1) Zc)) (US (Qo (Z7 (pv 0) rfl) (Zb (pv 1) Zc)))))) ?_
 cases h with
 | either h hi hj =>
  rename_i dx i j r s'
  have hd:r.depth≤n∧s'.depth≤n:=by
   have:(RT.either r s').depth=1+max r.depth s'.depth:=rfl
   omega
  obtain ⟨C,dx2,fs,f,fd,sp,g1,g2,g3,g4,g5,g6,g7⟩:=R.at Tx hi hd.1
  refine Za _ rfl (Ya a _ _ _ _ rfl h Tx.Xn Tx.Zap rfl ⟨i,C,dx2,fs,f,fd,_,_,sp,Zx,E0,rfl,g1,g2,g3,g4,g5,hr.mono (by omega),g6,Zp,Za _ rfl (g7 d _ (Za _ rfl ?_))⟩)
  have q':Q (.bl (r.runs d || s'.runs d)) H:=q
  cases e:r.runs d with
  | true=>exact Zy rfl (by rw [e] at q';exact q')
  | false =>
   refine Zh (by decide) ?_
   obtain ⟨C,dx2,fs,f,fd,sp,g1,g2,g3,g4,g5,g6,g7⟩:=R.at Tx hj hd.2
   refine Za _ rfl (Ya a _ _ _ _ rfl h Tx.Xn Tx.Zaq rfl ⟨j,C,dx2,fs,f,fd,_,_,sp,Zx,E0,rfl,g1,g2,g3,g4,g5,hr.mono (by omega),g6,Zp,Za _ rfl (g7 d _ ?_)⟩)
   rw [e,Bool.false_or] at q'
   exact q'
 | _=>exact hq.elim
theorem Zrh (Tx:ZD K mg t) (n:Nat) (R:QJ P w K mg base t n):Zv P w K mg base Zx (n+2) t.Zcx t.Zcy ["self","day"] (X4 (rc t) K QH (n+1)):=by
 refine Tx.Zji.ok Zih (fun vs H Q E h=>?_) (fun cdv A outer s H vs Q E hr h=>?_)
 ·obtain ⟨a,r,d,rfl,_⟩:=h
  rfl
 obtain ⟨a,r,d,rfl,h,hq,hn,q⟩:=h
 refine Za _ (Zj (Zw (UT (Qo (Z7 (pv 0) rfl) (Zb (pv 1) Zc)) (US (Qo (Z7 (pv 0) rfl) (Zb (pv 1) Zc)))))) ?_
 cases h with
 | both h hi hj =>
  rename_i dx i j r s'
  have hd:r.depth≤n∧s'.depth≤n:=by
   have:(RT.both r s').depth=1+max r.depth s'.depth:=rfl
   omega
  obtain ⟨C,dx2,fs,f,fd,sp,g1,g2,g3,g4,g5,g6,g7⟩:=R.at Tx hi hd.1
  refine Za _ rfl (Ya a _ _ _ _ rfl h Tx.Xo Tx.Zar rfl ⟨i,C,dx2,fs,f,fd,_,_,sp,Zx,E0,rfl,g1,g2,g3,g4,g5,hr.mono (by omega),g6,Zp,Za _ rfl (g7 d _ (Za _ rfl ?_))⟩)
  have q':Q (.bl (r.runs d && s'.runs d)) H:=q
  cases e:r.runs d with
  | false=>exact Zh (by decide) (by rw [e] at q';exact q')
  | true =>
   refine Zy rfl ?_
   obtain ⟨C,dx2,fs,f,fd,sp,g1,g2,g3,g4,g5,g6,g7⟩:=R.at Tx hj hd.2
   refine Za _ rfl (Ya a _ _ _ _ rfl h Tx.Xo Tx.Zas rfl ⟨j,C,dx2,fs,f,fd,_,_,sp,Zx,E0,rfl,g1,g2,g3,g4,g5,hr.mono (by omega),g6,Zp,Za _ rfl (g7 d _ ?_)⟩)
   rw [e,Bool.true_and] at q'
   exact q'
 | _=>exact hq.elim
theorem Zri (Tx:ZD K mg t) (n:Nat) (R:QJ P w K mg base t n):Zv P w K mg base Zx (n+2) t.ZcD t.ZcE ["self","day"] (X4 (rc t) K QI (n+1)):=by
 refine Tx.Zjm.ok Zil (fun vs H Q E h=>?_) (fun cdv A outer s H vs Q E hr h=>?_)
 ·obtain ⟨a,r,d,rfl,_⟩:=h
  rfl
 obtain ⟨a,r,d,rfl,h,hq,hn,q⟩:=h
 refine Za _ (Zj (Zw (XF Wt (Qo (Z7 (pv 0) rfl) (Zb (pv 1) Zc)) (XF WH (pv 1) (Z7 (pv 0) rfl) rfl) (ZH _)))) ?_
 cases h with
 | but h hp hi =>
  rename_i dx p i ds r
  have hd:r.depth≤n:=by
   have:(RT.but ds r).depth=1+r.depth:=rfl
   omega
  obtain ⟨C,dx2,fs,f,fd,sp,g1,g2,g3,g4,g5,g6,g7⟩:=R.at Tx hi hd
  refine Za _ rfl (Ya a _ _ _ _ rfl h Tx.XA Tx.Zat rfl ⟨i,C,dx2,fs,f,fd,_,_,sp,Zx,E0,rfl,g1,g2,g3,g4,g5,hr.mono (by omega),g6,Zp,Za _ rfl (g7 d _ ?_)⟩)
  refine Za _ rfl (Za _ rfl (Ya a _ _ _ _ rfl h Tx.XA Tx.Zba rfl ⟨p,_,rfl,.inr hp,rfl,QV ds,rfl,?_⟩))
  have q':Q (.bl (r.runs d != ds.contains d)) H:=q
  have e:(!decide (V.bl (r.runs d)=V.bl (XX (.int ((d:Nat):Int)) (ZR ds))))=(r.runs d != ds.contains d):=by
   rw [ZaJ,Zbk]
   rfl
  rw [← e] at q'
  exact q'
 | _=>exact hq.elim
theorem Zjx (Tx:ZD K mg t):∀ n,QJ P w K mg base t n
 | 0=>by
  have no:∀ {q:RT→Prop},∀ vs H Q E,X4 (rc t) K q 0 vs H Q E→False:=fun vs H Q E h=>by
   obtain ⟨a,r,d,rfl,h,hq,hn,_⟩:=h
   have:=r.depth_pos
   omega
  exact ⟨Zjv Tx 0,ZfL Tx 0,Tx.Zi9.ok Zh8 (fun vs H Q E h=>(no vs H Q E h).elim) (fun cdv A outer s H vs Q E hr h=>(no vs H Q E h).elim),Zjw Tx 0,Tx.Zje.ok Zid (fun vs H Q E h=>(no vs H Q E h).elim) (fun cdv A outer s H vs Q E hr h=>(no vs H Q E h).elim),Tx.Zji.ok Zih (fun vs H Q E h=>(no vs H Q E h).elim) (fun cdv A outer s H vs Q E hr h=>(no vs H Q E h).elim),Tx.Zjm.ok Zil (fun vs H Q E h=>(no vs H Q E h).elim) (fun cdv A outer s H vs Q E hr h=>(no vs H Q E h).elim)⟩
 | n+1=>have R:=Zjx Tx n
  ⟨Zjv Tx (n+1),ZfL Tx (n+1),Zrf Tx n R,Zjw Tx (n+1),Zrg Tx n R,Zrh Tx n R,Zri Tx n R⟩
def ZfM (c:RC) (K:W.Frag) (H:Hp) (r:RT) (xs:List V):Prop:=match r with
 | .always | .week _ | .each _ _=>xs=[]
 | .span _ _ r1 | .but _ r1=>∃ i,xs=[.ref i]∧ZM c K H i r1
 | .either r1 r2 | .both r1 r2=>∃ i j,xs=[.ref i,.ref j]∧ZM c K H i r1∧ZM c K H j r2
def Zbc (c:RC) (K:W.Frag) (q:RT→Prop):Sp:=fun vs H Q _=>∃ (a:Addr) (r:RT),vs=[.ref a]∧ZM c K H a r∧q r∧∀ p xs,H p=none→ZfM c K H r xs→Q (.ref p) (upd H p (.lst xs))
def Zrj:RT→Prop | .always | .week _ | .each _ _=>True | _=>False
theorem ZfN (Tx:ZD K mg t):Zv P w K mg base Zx 1 t.ZaO t.Zfc ["self"] (Zbc (rc t) K Zrj):=by
 refine Tx.ZoW.ok Zom (fun vs H Q E h=>?_) (fun cdv A outer s H vs Q E hr h=>?_)
 ·obtain ⟨a,r,rfl,_⟩:=h
  rfl
 obtain ⟨a,r,rfl,h,hq,q⟩:=h
 refine Za _ (Zj (Zw (ZW Zc))) ?_
 refine ⟨by show 0≤sizeLine;decide,fun p hp=>q p _ hp ?_⟩
 cases r <;> first | rfl | exact hq.elim
theorem Zrk (Tx:ZD K mg t):Zv P w K mg base Zx 1 t.Zff t.Zfg ["self"] (Zbc (rc t) K QF):=by
 refine Tx.Zo7.ok Zos (fun vs H Q E h=>?_) (fun cdv A outer s H vs Q E hr h=>?_)
 ·obtain ⟨a,r,rfl,_⟩:=h
  rfl
 obtain ⟨a,r,rfl,h,hq,q⟩:=h
 refine Za _ (Zj (Zw (ZW (Zb (Z7 (pv 0) rfl) Zc)))) ?_
 cases h with
 | span h hx hy hi=>exact Za _ rfl ⟨a,_,_,_,_,rfl,h,Tx.Y3,Tx.Zao,rfl,by show 1≤sizeLine;decide,fun p hp=>q p _ hp (Za _ rfl hi)⟩
 | _=>exact hq.elim
theorem Zrl (Tx:ZD K mg t):Zv P w K mg base Zx 1 t.Zfl t.Zfm ["self"] (Zbc (rc t) K QI):=by
 refine Tx.Zps.ok Zoy (fun vs H Q E h=>?_) (fun cdv A outer s H vs Q E hr h=>?_)
 ·obtain ⟨a,r,rfl,_⟩:=h
  rfl
 obtain ⟨a,r,rfl,h,hq,q⟩:=h
 refine Za _ (Zj (Zw (ZW (Zb (Z7 (pv 0) rfl) Zc)))) ?_
 cases h with
 | but h hp hi=>exact Za _ rfl ⟨a,_,_,_,_,rfl,h,Tx.XA,Tx.Zat,rfl,by show 1≤sizeLine;decide,fun p hp=>q p _ hp (Za _ rfl hi)⟩
 | _=>exact hq.elim
theorem Zrm (Tx:ZD K mg t):Zv P w K mg base Zx 1 t.Zfh t.Zfi ["self"] (Zbc (rc t) K QG):=by
 refine Tx.Zpi.ok Zow (fun vs H Q E h=>?_) (fun cdv A outer s H vs Q E hr h=>?_)
 ·obtain ⟨a,r,rfl,_⟩:=h
  rfl
 obtain ⟨a,r,rfl,h,hq,q⟩:=h
 refine Za _ (Zj (Zw (ZW (Zb (Z7 (pv 0) rfl) (Zb (Z7 (pv 0) rfl) Zc))))) ?_
 cases h with
 | either h hi hj=>exact Za _ rfl (Ya a _ _ _ _ rfl h Tx.Xn Tx.Zap rfl (Za _ rfl ⟨a,_,_,_,_,rfl,h,Tx.Xn,Tx.Zaq,rfl,by show 2≤sizeLine;decide,fun p hp=>q p _ hp (ZA _ _ rfl hi hj)⟩))
 | _=>exact hq.elim
theorem Zrn (Tx:ZD K mg t):Zv P w K mg base Zx 1 t.Zfj t.Zfk ["self"] (Zbc (rc t) K QH):=by
 refine Tx.Zpn.ok Zox (fun vs H Q E h=>?_) (fun cdv A outer s H vs Q E hr h=>?_)
 ·obtain ⟨a,r,rfl,_⟩:=h
  rfl
 obtain ⟨a,r,rfl,h,hq,q⟩:=h
 refine Za _ (Zj (Zw (ZW (Zb (Z7 (pv 0) rfl) (Zb (Z7 (pv 0) rfl) Zc))))) ?_
 cases h with
 | both h hi hj=>exact Za _ rfl (Ya a _ _ _ _ rfl h Tx.Xo Tx.Zar rfl (Za _ rfl ⟨a,_,_,_,_,rfl,h,Tx.Xo,Tx.Zas,rfl,by show 2≤sizeLine;decide,fun p hp=>q p _ hp (ZA _ _ rfl hi hj)⟩))
 | _=>exact hq.elim
theorem Zjy (Tx:ZD K mg t) {H:Hp} {a:Addr} {r:RT} (h:ZM (rc t) K H a r) :
  ∃ (C dx:Addr) (fs:List (Str×V)) (f:Addr) (fd:FuncData) (sp:Sp),H a=some (.ins C dx fs)∧fs.lookup ("parts" : Str)=none∧YK K C∧Z1 K C "parts" f∧Zv P w K mg base Zx 1 f fd ["self"] sp∧ZL K fd ["self"] [] ∧
   ∀ (Q:VK),(∀ p xs,H p=none→ZfM (rc t) K H r xs→Q (.ref p) (upd H p (.lst xs)))→sp [.ref a] H Q E0:=by
 cases h with
 | always h=>exact ⟨_,_,_,_,_,_,h,rfl,Tx.Zan,Tx.Zpy,ZfN Tx,Tx.ZfK,fun Q q=>(ZV a _ rfl (.always h) trivial q)⟩
 | week h hb=>exact ⟨_,_,_,_,_,_,h,rfl,Tx.WQ,Tx.ZpE,ZfN Tx,Tx.ZfK,fun Q q=>(ZV a _ rfl (.week h hb) trivial q)⟩
 | span h hx hy hi=>exact ⟨_,_,_,_,_,_,h,rfl,Tx.Y3,Tx.ZpJ,Zrk Tx,Tx.Zo8,fun Q q=>(ZV a _ rfl (.span h hx hy hi) trivial q)⟩
 | each h h1 h2 hp=>exact ⟨_,_,_,_,_,_,h,rfl,Tx.XT,Tx.ZpP,ZfN Tx,Tx.ZfK,fun Q q=>(ZV a _ rfl (.each h h1 h2 hp) trivial q)⟩
 | either h hi hj=>exact ⟨_,_,_,_,_,_,h,rfl,Tx.Xn,Tx.ZpV,Zrm Tx,Tx.Zpj,fun Q q=>(ZV a _ rfl (.either h hi hj) trivial q)⟩
 | both h hi hj=>exact ⟨_,_,_,_,_,_,h,rfl,Tx.Xo,Tx.Zp1,Zrn Tx,Tx.Zpo,fun Q q=>(ZV a _ rfl (.both h hi hj) trivial q)⟩
 | but h hp hi=>exact ⟨_,_,_,_,_,_,h,rfl,Tx.XA,Tx.Zp7,Zrl Tx,Tx.Zpt,fun Q q=>(ZV a _ rfl (.but h hp hi) trivial q)⟩
theorem U8 (Tx:ZD K mg t) {H:Hp} {a:Addr} {r:RT} (h:ZM (rc t) K H a r):∃ (C dx:Addr) (fs:List (Str×V)),H a=some (.ins C dx fs)∧YK K C∧(fs.lookup ("weight" : Str)=none∧Z1 K C "weight" t.W5)∧(fs.lookup ("depth" : Str)=none∧Z1 K C "depth" t.W6):=by
 cases h with
 | always h=>exact Xc _ _ _ h Tx.Zan ⟨rfl,Tx.ZpA⟩ ⟨rfl,Tx.Zpx⟩
 | week h hb=>exact Xc _ _ _ h Tx.WQ ⟨rfl,Tx.ZpF⟩ ⟨rfl,Tx.ZpD⟩
 | span h hx hy hi=>exact Xc _ _ _ h Tx.Y3 ⟨rfl,Tx.ZpL⟩ ⟨rfl,Tx.ZpI⟩
 | each h h1 h2 hp=>exact Xc _ _ _ h Tx.XT ⟨rfl,Tx.ZpR⟩ ⟨rfl,Tx.ZpO⟩
 | either h hi hj=>exact Xc _ _ _ h Tx.Xn ⟨rfl,Tx.ZpX⟩ ⟨rfl,Tx.ZpU⟩
 | both h hi hj=>exact Xc _ _ _ h Tx.Xo ⟨rfl,Tx.Zp3⟩ ⟨rfl,Tx.Zp0⟩
 | but h hp hi=>exact Xc _ _ _ h Tx.XA ⟨rfl,Tx.Zp9⟩ ⟨rfl,Tx.Zp6⟩
def Zro (P:Program) (w:World) (K:W.Frag) (mg:Str→Option Value) (base:Heap) (k:Nat) (m:Str) (ta:TE):TE:=fun σ H Q=>ta σ H fun x H1=>∃ (a C dx:Addr) (fs:List (Str×V)) (f:Addr) (fd:FuncData) (ps:List Str) (sp:Sp),
 x=.ref a∧H1 a=some (.ins C dx fs)∧fs.lookup m=none∧YK K C∧Z1 K C m f∧Zv P w K mg base Zx k f fd ps sp∧ZL K fd ps []∧sp [.ref a] H1 Q E0
theorem Zjz {X:Cx} {m:Str} {o:Expr} {ta:TE} {pos apos:Pos} {pl:Sem Bool} (P:Program) (w:World) (K:W.Frag) (mg:Str→Option Value) (base:Heap) (k:Nat) (hr:Yy k X.A) (he:PE X o ta)
  (hP:X.prog=P:=by rfl) (hw:X.w=w:=by rfl) (hK:X.K=K:=by rfl) (hm:X.mg=mg:=by rfl) (hb:X.base=base:=by rfl)
  (ht:eval (.Call (.Attribute o m apos) [] [] pos) X.env=(do
   let ov ← eval o X.env
   standAt apos.atName
   let (f,first) ← holding [ov] (getMethod ov m pl)
   callWith pos f first (backTo pos (starEach [] X.env)) (backToKw pos (keywordEach [] X.env))):=by rfl) :
  PE X (.Call (.Attribute o m apos) [] [] pos) (Zro P w K mg base k m ta):=by
 subst hP hw hK hm hb
 intro pins s σ H Q I h
 refine W.methodCall_KW (pl:=pl) (ZK (he pins s σ H _ I h) fun u s1 ⟨x,H1,I1,rx,a,C,dx,fs,f,fd,ps,sp,ex,ea,l,c,hm,F,hb,q⟩=>?_) ht
 subst ex
 obtain rfl:u=Value.ref a:=rx
 refine Zbo I1 ea c hm l ?_
 exact W.callWith_K0 (first:=[.ref a]) I1.kIn hm.kp (ZaD (us:=[.ref a]) (vs:=[.ref a]) (dvs:=[]) F hr hb .nil Zp I1 (.cons rfl .nil) q)
def Yl:RT→List RT
 | .always | .week _ | .each _ _=>[]
 | .span _ _ r | .but _ r=>[r]
 | .either r s | .both r s=>[r,s]
theorem Zax (r:RT):r.weight=1+((Yl r).map RT.weight).sum:=by
 cases r <;> simp [Yl,RT.weight]
theorem Zdj {r k:RT} (h:k∈Yl r):k.depth < r.depth:=by
 cases r <;> simp [Yl] at h
 all_goals simp only [RT.depth]
 ·subst h;omega
 ·rcases h with rfl | rfl <;> omega
 ·rcases h with rfl | rfl <;> omega
 ·subst h;omega
theorem Zdk (r:RT):(Yl r).length≤2:=by
 cases r <;> simp [Yl]
theorem ZjA {c:RC} {K:W.Frag} {H:Hp} {r:RT} {xs:List V} (h:ZfM c K H r xs):xs.length=(Yl r).length∧∀ (i:Nat) (x:V),xs[i]? = some x→∃ (j:Addr) (k:RT),x=.ref j∧(Yl r)[i]? = some k∧ZM c K H j k:=by
 have none:∀ (i:Nat) (x:V),([]:List V)[i]? = some x→False:=fun i x e=>by cases e
 have one:∀ {a:Addr} {r1:RT},ZM c K H a r1→∀ (i:Nat) (x:V),[V.ref a][i]? = some x→∃ (j:Addr) (k:RT),x=.ref j∧[r1][i]? = some k∧ZM c K H j k:=fun {a r1} q i x e=>by
  match i,e with
  | 0,e=>exact ZA a r1 ((Option.some.inj e).symm) rfl q
  | _+1,e=>cases e
 have two:∀ {a b:Addr} {r1 r2:RT},ZM c K H a r1→ZM c K H b r2→∀ (i:Nat) (x:V),[V.ref a,V.ref b][i]? = some x→∃ (j:Addr) (k:RT),x=.ref j∧[r1,r2][i]? = some k∧ZM c K H j k:=fun {a b r1 r2} q1 q2 i x e=>by
  match i,e with
  | 0,e=>exact ZA a r1 ((Option.some.inj e).symm) rfl q1
  | 1,e=>exact ZA b r2 ((Option.some.inj e).symm) rfl q2
  | _+2,e=>cases e
 cases r with
 | always=>cases h;exact ⟨rfl,fun i x e=>(none i x e).elim⟩
 | week b=>cases h;exact ⟨rfl,fun i x e=>(none i x e).elim⟩
 | each n ss=>cases h;exact ⟨rfl,fun i x e=>(none i x e).elim⟩
 | span a b r1=>obtain ⟨i,rfl,q⟩:=h;exact ⟨rfl,one q⟩
 | but ds r1=>obtain ⟨i,rfl,q⟩:=h;exact ⟨rfl,one q⟩
 | either r1 r2=>obtain ⟨i,j,rfl,q1,q2⟩:=h;exact ⟨rfl,two q1 q2⟩
 | both r1 r2=>obtain ⟨i,j,rfl,q1,q2⟩:=h;exact ⟨rfl,two q1 q2⟩
theorem ZfO:∀ l:List Nat,(l.map fun n=>((n:Nat):Int)).sum=((l.sum:Nat):Int)
 | []=>rfl
 | x::r=>by
  rw [List.map_cons,List.sum_cons,List.sum_cons,ZfO r]
  omega
theorem Zbd {x:Nat}:∀ {l:List Nat},x∈l→x≤l.sum
 | y::r,h=>by
  rw [List.sum_cons]
  rcases List.mem_cons.mp h with rfl | h
  ·omega
  ·have:=Zbd h
   omega
def Zrp (c:RC) (K:W.Frag) (n:Nat):Sp:=fun vs H Q _=>∃ (a:Addr) (r:RT),vs=[.ref a]∧ZM c K H a r∧r.depth≤n∧r.weight≤1000000∧∀ H',Zt H H'→Q (.int (r.weight:Nat)) H'
theorem ZfP (Tx:ZD K mg t):∀ n:Nat,Zv P w K mg base Zx (n+1) t.W5 t.Zfd ["self"] (Zrp (rc t) K n):=by
 intro n
 induction n with
 | zero =>
  refine Tx.Zi3.ok Zh3 (fun vs H Q E h=>?_) (fun cdv A outer s H vs Q E hr h=>?_)
  ·obtain ⟨a,r,rfl,_⟩:=h
   rfl
  ·obtain ⟨a,r,rfl,h,hd,_⟩:=h
   have:=r.depth_pos
   omega
 | succ n ih =>
 refine Tx.Zi3.ok Zh3 (fun vs H Q E h=>?_) (fun cdv A outer s H vs Q E hr h=>?_)
 ·obtain ⟨a,r,rfl,_⟩:=h
  rfl
 obtain ⟨a,r,rfl,h,hd,hw,q⟩:=h
 refine Za _ (Zj (Zw (ZB Y7 Ze (Z4 (ZdV rfl) rfl Tx.Zfo Zea (Zb (WZ (cl:=[]) (N:=["part"]) (fr:=[none]) rfl (WD (Xx (pv 0))) rfl (by decide +kernel) rfl (by decide +kernel) trivial trivial rfl (fun _ _ _ _ _=>Y6 (i:=0) (nd1 _) rfl (Or.inl rfl)) (fun _ _ _ _ _=>Wi) (fun _ _ _ _ _=>Zjz P w K mg base (n+1) (hr.mono (by omega)) (pv 0))) Zc))))) ?_
 obtain ⟨C,dx,fs,f,fd,sp,l,lk,cl,me,F,hb,pp⟩:=Zjy (P:=P) (w:=w) (mg:=mg) (base:=base) Tx h
 refine Za _ rfl ⟨a,C,dx,fs,f,fd,_,_,sp,Zx,E0,rfl,l,lk,cl,me,F,hr.mono (by omega),hb,Zp,pp _ fun p xs hp hx=>?_⟩
 obtain ⟨hl,hk⟩:=ZjA hx
 have kl:=Zdk r
 have s0:Zt H (upd H p (.lst xs)):=Zr hp _
 refine ZE p rfl ⟨xs,Zm.of Zf⟩ (UX (K:=K) (a:=p) (xs:=xs) (fun i acc σ H'=>Zt (upd H p (.lst xs)) H'∧acc=(((Yl r).take i).map fun k=>V.int (k.weight:Nat))∧∃ v,σ=[v])
  ⟨Zt.refl _,rfl,_,rfl⟩ (by show xs.length≤sizeLine;exact Nat.le_trans (by omega) (show 2≤sizeLine by decide)) (fun i acc σ H' _ ⟨s',_⟩=>Zm.of (s' _ _ Zf)) ?_ ?_)
 ·rintro i x acc σ H' ha hx ⟨s',e,v,rfl⟩
  obtain ⟨j,k,rfl,hk1,hk2⟩:=hk i x hx
  have km:k∈Yl r:=List.mem_of_getElem? hk1
  have kd:=Zdj km
  have kw:k.weight≤r.weight:=by
   rw [Zax r]
   have:=Zbd (List.mem_map_of_mem (f:=RT.weight) km)
   omega
  dsimp only [Xs,X7]
  rw [if_pos rfl]
  have hj:=hk2.same (s0.trans s')
  obtain ⟨C2,dx2,fs2,l2,cl2,⟨lk2,me2⟩,_⟩:=U8 Tx hj
  refine Za _ rfl ⟨j,C2,dx2,fs2,_,_,_,_,rfl,l2,lk2,cl2,me2,ih,Tx.ZcW,ZX j k rfl hj (by omega) (by omega) fun H3 s3=>⟨?_,s'.trans s3,?_,_,rfl⟩⟩
  ·rw [List.length_append,List.length_singleton];omega
  ·rw [e,List.take_add_one,hk1]
   simp
 ·rintro acc σ H' ha ⟨s',e,v,rfl⟩ p3 g3
  have e2:acc=((((Yl r).map RT.weight).map fun n=>((n:Nat):Int)).map V.int):=by
   rw [e,hl,List.take_length,List.map_map,List.map_map]
   rfl
  refine ZX p3 _ rfl (Zm.of (by rw [Zf,e2])) ?_ ?_ ?_
  ·intro n hn
   obtain ⟨m,hm,rfl⟩:=List.mem_map.mp hn
   have:=Zbd hm
   have:=Zax r
   omega
  ·rw [List.length_map,List.length_map];omega
  ·have s4:=(s0.trans s').trans (Zr g3 (.lst acc))
   have q2:=q _ s4
   rw [Zax r] at q2
   refine ZA _ _ rfl rfl ?_
   rw [ZfO]
   exact q2
theorem ZfQ:∀ (l:List Nat) (x:Nat),XM (some ((x:Nat):Int)) (l.map fun n=>((n:Nat):Int))=some (((l.foldl max x:Nat)):Int)
 | [],x=>rfl
 | y::r,x=>by
  show XM (some (Vq (some ((x:Nat):Int)) ((y:Nat):Int))) _=_
  have e:Vq (some ((x:Nat):Int)) ((y:Nat):Int)=((max x y:Nat):Int):=by
   show (if ((y:Nat):Int) > ((x:Nat):Int) then ((y:Nat):Int) else ((x:Nat):Int))=_
   split <;> omega
  rw [e]
  exact ZfQ r (max x y)
theorem Zrq (r:RT):(1:Int)+(XM none (((Yl r).map RT.depth).map fun n=>((n:Nat):Int))).getD 0=((r.depth:Nat):Int):=by
 have one:∀ k:Nat,(1:Int)+(XM none ([k].map fun n=>((n:Nat):Int))).getD 0=((1+k:Nat):Int):=fun k=>by
  show (1:Int)+((k:Nat):Int)=_
  omega
 have two:∀ k m:Nat,(1:Int)+(XM none ([k,m].map fun n=>((n:Nat):Int))).getD 0=((1+max k m:Nat):Int):=fun k m=>by
  show (1:Int)+(XM (some ((k:Nat):Int)) ([m].map fun n=>((n:Nat):Int))).getD 0=_
  rw [ZfQ]
  show (1:Int)+((max k m:Nat):Int)=_
  omega
 cases r with
 | always=>rfl
 | week b=>rfl
 | each n ss=>rfl
 | span a b r1=>exact one _
 | but ds r1=>exact one _
 | either r1 r2=>exact two _ _
 | both r1 r2=>exact two _ _
def Zrr (c:RC) (K:W.Frag) (n:Nat):Sp:=fun vs H Q _=>∃ (a:Addr) (r:RT),vs=[.ref a]∧ZM c K H a r∧r.depth≤n∧∀ H',Zt H H'→Q (.int (r.depth:Nat)) H'
theorem ZfR (Tx:ZD K mg t):∀ n:Nat,Zv P w K mg base Zx (n+1) t.W6 t.Zfe ["self"] (Zrr (rc t) K n):=by
 intro n
 induction n with
 | zero =>
  refine Tx.Zi4.ok Zh4 (fun vs H Q E h=>?_) (fun cdv A outer s H vs Q E hr h=>?_)
  ·obtain ⟨a,r,rfl,_⟩:=h
   rfl
  ·obtain ⟨a,r,rfl,h,hd,_⟩:=h
   have:=r.depth_pos
   omega
 | succ n ih =>
 refine Tx.Zi4.ok Zh4 (fun vs H Q E h=>?_) (fun cdv A outer s H vs Q E hr h=>?_)
 ·obtain ⟨a,r,rfl,_⟩:=h
  rfl
 obtain ⟨a,r,rfl,h,hd,q⟩:=h
 refine Za _ (Zj (Zw (ZB Y7 Ze (ZmO rfl rfl Tx.Ziu Zip (Zb (WZ (cl:=[]) (N:=["part"]) (fr:=[none]) rfl (WD (Xx (pv 0))) rfl (by decide +kernel) rfl (by decide +kernel) trivial trivial rfl (fun _ _ _ _ _=>Y6 (i:=0) (nd1 _) rfl (Or.inl rfl)) (fun _ _ _ _ _=>Wi) (fun _ _ _ _ _=>Zjz P w K mg base (n+1) (hr.mono (by omega)) (pv 0))) Zc) (ZlG Ze ZlF))))) ?_
 obtain ⟨C,dx,fs,f,fd,sp,l,lk,cl,me,F,hb,pp⟩:=Zjy (P:=P) (w:=w) (mg:=mg) (base:=base) Tx h
 refine Za _ rfl ⟨a,C,dx,fs,f,fd,_,_,sp,Zx,E0,rfl,l,lk,cl,me,F,hr.mono (by omega),hb,Zp,pp _ fun p xs hp hx=>?_⟩
 obtain ⟨hl,hk⟩:=ZjA hx
 have kl:=Zdk r
 have s0:Zt H (upd H p (.lst xs)):=Zr hp _
 refine ZE p rfl ⟨xs,Zm.of Zf⟩ (UX (K:=K) (a:=p) (xs:=xs) (fun i acc σ H'=>Zt (upd H p (.lst xs)) H'∧acc=(((Yl r).take i).map fun k=>V.int (k.depth:Nat))∧∃ v,σ=[v])
  ⟨Zt.refl _,rfl,_,rfl⟩ (by show xs.length≤sizeLine;exact Nat.le_trans (by omega) (show 2≤sizeLine by decide)) (fun i acc σ H' _ ⟨s',_⟩=>Zm.of (s' _ _ Zf)) ?_ ?_)
 ·rintro i x acc σ H' ha hx ⟨s',e,v,rfl⟩
  obtain ⟨j,k,rfl,hk1,hk2⟩:=hk i x hx
  have km:k∈Yl r:=List.mem_of_getElem? hk1
  have kd:=Zdj km
  dsimp only [Xs,X7]
  rw [if_pos rfl]
  have hj:=hk2.same (s0.trans s')
  obtain ⟨C2,dx2,fs2,l2,cl2,_,⟨lk2,me2⟩⟩:=U8 Tx hj
  refine Za _ rfl ⟨j,C2,dx2,fs2,_,_,_,_,rfl,l2,lk2,cl2,me2,ih,Tx.ZcX,ZV j k rfl hj (by omega) fun H3 s3=>⟨?_,s'.trans s3,?_,_,rfl⟩⟩
  ·rw [List.length_append,List.length_singleton];omega
  ·rw [e,List.take_add_one,hk1]
   simp
 ·rintro acc σ H' ha ⟨s',e,v,rfl⟩ p3 g3
  have e2:acc=((((Yl r).map RT.depth).map fun n=>((n:Nat):Int)).map V.int):=by
   rw [e,hl,List.take_length,List.map_map,List.map_map]
   rfl
  have s4:=(s0.trans s').trans (Zr g3 (.lst acc))
  have q2:=q _ s4
  rw [← Zrq r] at q2
  exact Xc p3 _ 0 rfl rfl (Zm.of (by rw [Zf,e2])) (ZA _ _ rfl rfl q2)
def Zrs (c:RC) (K:W.Frag):Sp:=fun vs H Q _=>∃ (a:Addr) (r:RT),vs=[.ref a]∧ZM c K H a r∧r.weight≤15∧r.depth≤8∧∀ H',Zt H H'→Q .non H'
theorem Zdl (Tx:ZD K mg t):Zv P w K mg base Zx 10 t.ZbS t.ZbT ["rule"] (Zrs (rc t) K):=by
 refine Tx.Va.ok ZhV (fun vs H Q E h=>?_) (fun cdv A outer s H vs Q E hr h=>?_)
 ·obtain ⟨a,r,rfl,_⟩:=h
  rfl
 obtain ⟨a,r,rfl,h,hw,hd,q⟩:=h
 refine Za _ (Zl (ZG (ZI XV (Xx (pv 0)) (YV rfl Tx.Ziz) (ZH _))
  (Zj Vh)
  ZF)
  (Zj (ZG (ZI XV (Xx (pv 0)) (YV rfl Tx.Zfq) (ZH _))
  (Zj Vh)
  ZF))) ?_
 obtain ⟨C,dx,fs,l,cl,⟨lk,me⟩,_⟩:=U8 Tx h
 refine Za _ rfl ⟨a,C,dx,fs,_,_,_,_,_,Zx,E0,rfl,l,lk,cl,me,ZfP Tx 8,hr.mono (by omega),Tx.ZcW,Zp,ZX a r rfl h hd (by omega) fun H1 s1=>?_⟩
 refine ZA _ _ rfl rfl (Za _ rfl (Zh (by rw [decide_eq_false (by omega)];decide) ?_))
 have h1:=h.same s1
 obtain ⟨C,dx,fs,l,cl,_,⟨lk,me⟩⟩:=U8 Tx h1
 refine Za _ rfl ⟨a,C,dx,fs,_,_,_,_,_,Zx,E0,rfl,l,lk,cl,me,ZfR Tx 8,hr.mono (by omega),Tx.ZcX,Zp,ZV a r rfl h1 hd fun H2 s2=>?_⟩
 exact ZA _ _ rfl rfl (Za _ rfl (Zh (by rw [decide_eq_false (by omega)];decide) (q H2 (s1.trans s2))))
def X5 (c:RC) (K:W.Frag) (q:RT→Prop) (n:Nat):Sp:=fun vs H Q _=>∃ (a:Addr) (r:RT),vs=[.ref a]∧ZM c K H a r∧q r∧r.good∧r.weight≤15∧r.depth≤8∧r.depth≤n∧∀ b H',Zt H H'→ZM c K (Z9 H' H) b r→Q (.ref b) H'
structure XU (P:Program) (w:World) (K:W.Frag) (mg:Str→Option Value) (base:Heap) (t:YX) (n:Nat):Prop where
 rule:Zv P w K mg base Zx (4 * n+10) t.Zb1 t.Zb2 ["self"] (X5 (rc t) K Zau n)
 week:Zv P w K mg base Zx (4 * n+10) t.Zb7 t.Zb8 ["self"] (X5 (rc t) K Zav n)
 span:Zv P w K mg base Zx (4 * n+10) t.Zcd t.Zce ["self"] (X5 (rc t) K QF n)
 each:Zv P w K mg base Zx (4 * n+10) t.Zcj t.Zck ["self"] (X5 (rc t) K Zaw n)
 either:Zv P w K mg base Zx (4 * n+10) t.Zcp t.Zcq ["self"] (X5 (rc t) K QG n)
 both:Zv P w K mg base Zx (4 * n+10) t.Zcv t.Zcw ["self"] (X5 (rc t) K QH n)
 but:Zv P w K mg base Zx (4 * n+10) t.ZcB t.ZcC ["self"] (X5 (rc t) K QI n)
theorem XU.at {n:Nat} (R:XU P w K mg base t n) (Tx:ZD K mg t) {H:Hp} {a:Addr} {r:RT} (h:ZM (rc t) K H a r) (g:r.good) (hw:r.weight≤15) (hd:r.depth≤8) (hn:r.depth≤n) :
  ∃ (C dx:Addr) (fs:List (Str×V)) (f:Addr) (fd:FuncData) (sp:Sp),H a=some (.ins C dx fs)∧fs.lookup ("copied" : Str)=none∧YK K C∧Z1 K C "copied" f∧Zv P w K mg base Zx (4 * n+10) f fd ["self"] sp∧ZL K fd ["self"] [] ∧
   ∀ (Q:VK),(∀ b H',Zt H H'→ZM (rc t) K (Z9 H' H) b r→Q (.ref b) H')→sp [.ref a] H Q E0:=by
 cases h with
 | always h=>exact ⟨_,_,_,_,_,_,h,rfl,Tx.Zan,Tx.Zpw,R.rule,Tx.ZoV,fun Q q=>⟨a,_,rfl,.always h,trivial,g,hw,hd,hn,q⟩⟩
 | week h hb=>exact ⟨_,_,_,_,_,_,h,rfl,Tx.WQ,Tx.ZpC,R.week,Tx.Zo2,fun Q q=>⟨a,_,rfl,.week h hb,trivial,g,hw,hd,hn,q⟩⟩
 | span h hx hy hi=>exact ⟨_,_,_,_,_,_,h,rfl,Tx.Y3,Tx.ZpH,R.span,Tx.Zo6,fun Q q=>⟨a,_,rfl,.span h hx hy hi,trivial,g,hw,hd,hn,q⟩⟩
 | each h h1 h2 hp=>exact ⟨_,_,_,_,_,_,h,rfl,Tx.XT,Tx.ZpN,R.each,Tx.Zpc,fun Q q=>⟨a,_,rfl,.each h h1 h2 hp,trivial,g,hw,hd,hn,q⟩⟩
 | either h hi hj=>exact ⟨_,_,_,_,_,_,h,rfl,Tx.Xn,Tx.ZpT,R.either,Tx.Zph,fun Q q=>⟨a,_,rfl,.either h hi hj,trivial,g,hw,hd,hn,q⟩⟩
 | both h hi hj=>exact ⟨_,_,_,_,_,_,h,rfl,Tx.Xo,Tx.ZpZ,R.both,Tx.Zpm,fun Q q=>⟨a,_,rfl,.both h hi hj,trivial,g,hw,hd,hn,q⟩⟩
 | but h hp hi=>exact ⟨_,_,_,_,_,_,h,rfl,Tx.XA,Tx.Zp5,R.but,Tx.Zpr,fun Q q=>⟨a,_,rfl,.but h hp hi,trivial,g,hw,hd,hn,q⟩⟩
theorem ZfS (Tx:ZD K mg t) {H:Hp} {a:Addr} {r:RT} (h:ZM (rc t) K H a r):∃ C,Xt K H (.ref a) (.ref C)∧W.kitOne K (.ref C) (.ref t.Yj)=some true:=by
 cases h with
 | always h=>exact Za _ (Tx.Zqb.ty Tx.Zan h) Tx.Zqc
 | week h hb=>exact Za _ (Tx.Zqd.ty Tx.WQ h) Tx.Zqe
 | span h hx hy hi=>exact Za _ (Tx.Zqf.ty Tx.Y3 h) Tx.Zqg
 | each h h1 h2 hp=>exact Za _ (Tx.Zqh.ty Tx.XT h) Tx.Zqi
 | either h hi hj=>exact Za _ (Tx.Zqj.ty Tx.Xn h) Tx.Zqk
 | both h hi hj=>exact Za _ (Tx.Zql.ty Tx.Xo h) Tx.Zqm
 | but h hp hi=>exact Za _ (Tx.Zqn.ty Tx.XA h) Tx.Zqo
def Zrt (c:RC) (K:W.Frag) (n:Nat):Sp:=fun vs H Q _=>∃ (a:Addr) (r:RT),vs=[.ref a]∧ZM c K H a r∧r.good∧r.weight≤15∧r.depth≤8∧r.depth≤n∧∀ b H',Zt H H'→ZM c K (Z9 H' H) b r→Q (.ref b) H'
theorem WA (Tx:ZD K mg t) (n:Nat) (R:XU P w K mg base t n):Zv P w K mg base Zx (4 * n+11) t.Zej t.Zek ["rule"] (Zrt (rc t) K n):=by
 refine Tx.Wn.ok Zoc (fun vs H Q E h=>?_) (fun cdv A outer s H vs Q E hr h=>?_)
 ·obtain ⟨a,r,rfl,_⟩:=h
  rfl
 obtain ⟨a,r,rfl,h,g,hw,hd,hn,q⟩:=h
 refine Za _ (Zl (ZG (Yt (Yx (Z4 ZdQ rfl Tx.Y2 Y1 (Zb (pv 0) (Zb (XY rfl Tx.QE) Zc)))))
  (Zj Vh)
  ZF)
  (Zj (Zw (Xx (pv 0))))) ?_
 obtain ⟨C0,ty,ki⟩:=ZfS Tx h
 refine Za _ rfl (Ww (.ref a) t.Yj _ _ rfl ty ki (Za _ rfl (Zh (by decide) ?_)))
 obtain ⟨C,dx,fs,f,fd,sp,g1,g2,g3,g4,g5,g6,g7⟩:=R.at Tx h g hw hd hn
 exact Za _ rfl ⟨a,C,dx,fs,f,fd,_,_,sp,Zx,E0,rfl,g1,g2,g3,g4,g5,hr.mono (by omega),g6,Zp,g7 _ q⟩
theorem Vc (f:Str) (v:V):(ZP f v []).length < 1000:=Nat.lt_of_le_of_lt (ZaC _ _ _) (by decide)
theorem ZjB (f g:Str) (v u:V):(ZP f v (ZP g u [])).length < 1000:=Nat.lt_of_le_of_lt (ZaC _ _ _) (Nat.lt_of_le_of_lt (Nat.succ_le_succ (ZaC _ _ _)) (by decide))
structure WR (H0 H:Hp) (x C:Addr):Prop where
 no:H0 x=none
 sm:Zt H0 H
 at_:∃ dx,H x=some (.ins C dx [])
def ZjC (c:RC) (K:W.Frag):Sp:=fun vs H Q _=>∃ (x:Addr) (H0:Hp) (b:Nat),vs=[.ref x,.int (b:Nat)]∧WR H0 H x c.week∧b≤127∧∀ H',Zt H0 H'→ZM c K (Z9 H' H0) x (.week b)→Q .non H'
def ZjD (c:RC) (K:W.Frag):Sp:=fun vs H Q _=>∃ (x l:Addr) (H0:Hp) (n:Nat) (ss:List Nat),vs=[.ref x,.int (n:Nat),.ref l]∧WR H0 H x c.each∧H0 l=some (.lst (ZR ss))∧(RT.each n ss).good∧∀ H',Zt H0 H'→ZM c K (Z9 H' H0) x (.each n ss)→Q .non H'
def ZjE (c:RC) (K:W.Frag) (n:Nat):Sp:=fun vs H Q _=>∃ (x i:Addr) (H0:Hp) (a b:Nat) (r:RT),vs=[.ref x,.int (a:Nat),.int (b:Nat),.ref i]∧WR H0 H x c.span∧ZM c K H0 i r∧(RT.span a b r).good∧(RT.span a b r).weight≤15∧(RT.span a b r).depth≤8∧r.depth≤n ∧
 ∀ H',Zt H0 H'→ZM c K (Z9 H' H0) x (.span a b r)→Q .non H'
def ZjF (c:RC) (K:W.Frag) (n:Nat):Sp:=fun vs H Q _=>∃ (x l i:Addr) (H0:Hp) (ds:List Nat) (r:RT),vs=[.ref x,.ref l,.ref i]∧WR H0 H x c.but∧H0 l=some (.lst (ZR ds))∧ZM c K H0 i r∧(RT.but ds r).good∧(RT.but ds r).weight≤15∧(RT.but ds r).depth≤8∧r.depth≤n ∧
 ∀ H',Zt H0 H'→ZM c K (Z9 H' H0) x (.but ds r)→Q .non H'
def Zdm (c:RC) (K:W.Frag) (n:Nat) (C:Addr) (mk:RT→RT→RT):Sp:=fun vs H Q _=>∃ (x i j:Addr) (H0:Hp) (r s:RT),vs=[.ref x,.ref i,.ref j]∧WR H0 H x C∧ZM c K H0 i r∧ZM c K H0 j s∧(mk r s).good∧(mk r s).weight≤15∧(mk r s).depth≤8∧r.depth≤n∧s.depth≤n ∧
 ∀ H',Zt H0 H'→ZM c K (Z9 H' H0) x (mk r s)→Q .non H'
theorem ZjG (Tx:ZD K mg t):Zv P w K mg base Zx 3 t.Q4 t.Q5 ["self","bits"] (ZjC (rc t) K):=by
 refine Tx.Zi5.ok Zh5 (fun vs H Q E h=>?_) (fun cdv A outer s H vs Q E hr h=>?_)
 ·obtain ⟨x,H0,b,rfl,_⟩:=h
  rfl
 obtain ⟨x,H0,b,rfl,⟨n0,s0,dx,hx⟩,hb,q⟩:=h
 refine Za _ (Zl (ZG (Yt (Yx (Zo (Vb Tx) (hr.mono (by omega)) rfl Tx.W8 Tx.WP.kp Tx.W9 .nil Zp (Zb (pv 1) (Zb Ze (Zb (YV rfl Tx.Zix) Zc))))))
  (Zj Vh)
  ZF)
  (Zj (YL (pv 0) (pv 1) rfl))) ?_
 refine Za _ rfl (Wv (.int (b:Nat)) 0 127 ("int") rfl (.int _) (Za _ rfl (Zh (by rw [W0 (by omega) (by omega)];decide) ?_)))
 exact Za _ rfl (Za _ rfl (Zk x _ dx [] rfl hx Tx.WQ Tx.Zc6 (by decide) (q _ (Yd n0 s0 _) (.week (Xe n0 Zf) hb))))
theorem ZjH (Tx:ZD K mg t):Zv P w K mg base Zx 4 t.Q8 t.Q9 ["self","length","starts"] (ZjD (rc t) K):=by
 refine Tx.Zjb.ok Zia (fun vs H Q E h=>?_) (fun cdv A outer s H vs Q E hr h=>?_)
 ·obtain ⟨x,l,H0,n,ss,rfl,_⟩:=h
  rfl
 obtain ⟨x,l,H0,n,ss,rfl,⟨n0,s0,dx,hx⟩,hl,⟨b1,b2,g⟩,q⟩:=h
 refine Za _ (Zl (ZG (Yt (Yx (Zo (Vb Tx) (hr.mono (by omega)) rfl Tx.W8 Tx.WP.kp Tx.W9 .nil Zp (Zb (pv 1) (Zb Ze (Zb (YV rfl Tx.Ziy) Zc))))))
  (Zj Vh)
  ZF)
  (Zl (ZG (Yt (Yx (Zo (Zjs Tx) (hr.mono (by omega)) rfl Tx.ZcJ Tx.Zai.kp Tx.ZcK .nil Zp (Zb (pv 2) (Zb (YV rfl Tx.ZcI) (Zb Ze (Zb (ZB Yq (pv 1) Ze) Zc)))))))
  (Zj Vh)
  ZF)
  (Zl (YL (pv 0) (pv 1) rfl)
  (Zj (YL (pv 0) (YU Zbr rfl Tx.ZcH ZbP (Zb (pv 2) Zc)) rfl))))) ?_
 refine Za _ rfl (Wv (.int (n:Nat)) 1 28 ("int") rfl (.int _) (Za _ rfl (Zh (by rw [W0 (by omega) (by omega)];decide) ?_)))
 refine Za _ rfl (Za _ rfl (ZA _ _ rfl rfl ⟨l,ss,12,0,_,rfl,s0 _ _ hl,g.one,g.few,g.up,fun y hy=>⟨Nat.zero_le _,by have:=(g.all y hy).2;omega⟩,Za _ rfl (Zh (by decide) ?_)⟩))
 refine Za _ rfl (Za _ rfl (Zk x _ dx [] rfl hx Tx.XT Tx.Za8 (by decide) ?_))
 have s1:=Yd n0 s0 (.ins t.Xz dx (ZP "length" (.int (n:Nat)) []))
 refine Za _ rfl (WO l _ rfl (.inl ⟨Zm.of (s1 _ _ hl),fun p hp=>?_⟩))
 have np:p≠x:=fun z=>by rw [z,Zf] at hp;cases hp
 have p0:H0 p=none:=s1.free hp
 refine Za _ rfl (Zk x _ dx _ rfl (by rw [ZO np.symm];exact Zf) Tx.XT Tx.Za9 (Vc _ _) ?_)
 refine q _ (Yd n0 (Yd p0 s1 _) _) (.each (Xe n0 Zf) b1 b2 (Zi.of (Xe p0 (by rw [ZO np];exact Zf))))
theorem U9 {H0 H1 H2:Hp} {x:Addr} {o1:HO} (s0:Zt H0 H1) (x1:H1 x=some o1) (o:HO):Zt (Z9 H2 H1) (Z9 (upd H2 x o) H0) :=
 Qq s0 fun a u n e=>by rw [ZO (fun z=>by rw [z,x1] at n;cases n)];exact e
theorem Qa {H0 H1 H2:Hp} (s:Zt H1 H2):Zt (Z9 H1 H0) (Z9 H2 H0):=fun a o e=>Xe (QX e).1 (s _ _ (QX e).2)
theorem ZjI (Tx:ZD K mg t) (n:Nat) (R:XU P w K mg base t n):Zv P w K mg base Zx (4 * n+12) t.Q6 t.Q7 ["self","first","last","rule"] (ZjE (rc t) K n):=by
 refine Tx.Zi7.ok Zh6 (fun vs H Q E h=>?_) (fun cdv A outer s H vs Q E hr h=>?_)
 ·obtain ⟨x,i,H0,a,b,r,rfl,_⟩:=h
  rfl
 obtain ⟨x,i,H0,a,b,r,rfl,⟨n0,s0,dx,hx⟩,hi,⟨b1,b2,g⟩,hw,hd,hn,q⟩:=h
 have ew:(RT.span a b r).weight=1+r.weight:=rfl
 have ed:(RT.span a b r).depth=1+r.depth:=rfl
 refine Za _ (Zl (ZG (Yt (Yx (Zo (Vb Tx) (hr.mono (by omega)) rfl Tx.W8 Tx.WP.kp Tx.W9 .nil Zp (Zb (pv 1) (Zb Ze (Zb (YV rfl Tx.Zah) Zc))))))
  (Zj Vh)
  ZF)
  (Zl (ZG (Yt (Yx (Zo (Vb Tx) (hr.mono (by omega)) rfl Tx.W8 Tx.WP.kp Tx.W9 .nil Zp (Zb (pv 2) (Zb (pv 1) (Zb (YV rfl Tx.Zah) Zc))))))
  (Zj Vh)
  ZF)
  (Zl (YL (pv 0) (pv 1) rfl)
  (Zl (YL (pv 0) (pv 2) rfl)
  (Zl (YL (pv 0) (Zo (WA Tx n R) (hr.mono (by omega)) rfl Tx.Wy Tx.Wn.kp Tx.Wz .nil Zp (Zb (pv 3) Zc)) rfl)
  (Zj (Vg (Zo (Zdl Tx) (hr.mono (by omega)) rfl Tx.U6 Tx.Va.kp Tx.U7 .nil Zp (Zb (pv 0) Zc))))))))) ?_
 refine Za _ rfl (Wv (.int (a:Nat)) 0 9999 ("int") rfl (.int _) (Za _ rfl (Zh (by rw [W0 (by omega) (by omega)];decide) ?_)))
 refine Za _ rfl (Za _ rfl (Wv (.int (b:Nat)) (a:Nat) 9999 ("int") rfl (.int _) (Za _ rfl (Zh (by rw [W0 (by omega) (by omega)];decide) ?_))))
 refine Za _ rfl (Za _ rfl (Zk x _ dx [] rfl hx Tx.Y3 Tx.Za6 (by decide) ?_))
 have s1:=Yd n0 s0 (.ins t.YT dx (ZP "first" (.int (a:Nat)) []))
 refine Za _ rfl (Za _ rfl (Zk x _ dx _ rfl Zf Tx.Y3 Tx.Za7 (Vc _ _) ?_))
 have s2:=Yd n0 s1 (.ins t.YT dx (ZP "last" (.int (b:Nat)) (ZP "first" (.int (a:Nat)) [])))
 refine Za _ rfl (Xf i r rfl (hi.same s2) g (by omega) (by omega) hn fun c H3 s3 h3=>?_)
 refine Za _ rfl (Zk x _ dx _ rfl (s3 _ _ Zf) Tx.Y3 Tx.Zao (ZjB _ _ _ _) ?_)
 have s4:=Yd n0 (s2.trans s3) (.ins t.YT dx (ZP "inner" (.ref c) (ZP "last" (.int (b:Nat)) (ZP "first" (.int (a:Nat)) []))))
 have fin:ZM (rc t) K (Z9 (upd H3 x (.ins t.YT dx (ZP "inner" (.ref c) (ZP "last" (.int (b:Nat)) (ZP "first" (.int (a:Nat)) []))))) H0) x (.span a b r) :=
  .span (Xe n0 Zf) b1 b2 (h3.same (U9 s2 Zf _))
 exact Za _ rfl (ZX x _ rfl (fin.same (Xb _ _)) hw hd fun H5 s5=>q H5 (s4.trans s5) (fin.same (Qa s5)))
theorem ZjJ (Tx:ZD K mg t) (n:Nat) (R:XU P w K mg base t n):Zv P w K mg base Zx (4 * n+12) t.Zae t.Zaf ["self","days","rule"] (ZjF (rc t) K n):=by
 refine Tx.Zjk.ok Zij (fun vs H Q E h=>?_) (fun cdv A outer s H vs Q E hr h=>?_)
 ·obtain ⟨x,l,i,H0,ds,r,rfl,_⟩:=h
  rfl
 obtain ⟨x,l,i,H0,ds,r,rfl,⟨n0,s0,dx,hx⟩,hl,hi,⟨b1,g⟩,hw,hd,hn,q⟩:=h
 have ew:(RT.but ds r).weight=1+r.weight:=rfl
 have ed:(RT.but ds r).depth=1+r.depth:=rfl
 refine Za _ (Zl (ZG (Yt (Yx (Zo (Zjs Tx) (hr.mono (by omega)) rfl Tx.ZcJ Tx.Zai.kp Tx.ZcK .nil Zp (Zb (pv 1) (Zb (YV rfl Tx.ZcI) (Zb Ze (Zb (YV rfl Tx.Zah) Zc)))))))
  (Zj Vh)
  ZF)
  (Zl (YL (pv 0) (YU Zbr rfl Tx.ZcH ZbP (Zb (pv 1) Zc)) rfl)
  (Zl (YL (pv 0) (Zo (WA Tx n R) (hr.mono (by omega)) rfl Tx.Wy Tx.Wn.kp Tx.Wz .nil Zp (Zb (pv 2) Zc)) rfl)
  (Zj (Vg (Zo (Zdl Tx) (hr.mono (by omega)) rfl Tx.U6 Tx.Va.kp Tx.U7 .nil Zp (Zb (pv 0) Zc))))))) ?_
 refine Za _ rfl ⟨l,ds,12,0,_,rfl,s0 _ _ hl,b1.one,b1.few,b1.up,fun y hy=>⟨Nat.zero_le _,by have:=(b1.all y hy).2;omega⟩,Za _ rfl (Zh (by decide) ?_)⟩
 refine Za _ rfl (WO l _ rfl (.inl ⟨Zm.of (s0 _ _ hl),fun p hp=>?_⟩))
 have np:p≠x:=fun z=>by rw [z,hx] at hp;cases hp
 have p0:H0 p=none:=s0.free hp
 have s1:=Yd p0 s0 (.tup (ZR ds))
 refine Za _ rfl (Zk x _ dx [] rfl (by rw [ZO np.symm];exact hx) Tx.XA Tx.Zba (by decide) ?_)
 have s2:=Yd n0 s1 (.ins t.Y9 dx (ZP "days" (.ref p) []))
 refine Za _ rfl (Xf i r rfl (hi.same s2) g (by omega) (by omega) hn fun c H3 s3 h3=>?_)
 refine Za _ rfl (Zk x _ dx _ rfl (s3 _ _ Zf) Tx.XA Tx.Zat (Vc _ _) ?_)
 have s4:=Yd n0 (s2.trans s3) (.ins t.Y9 dx (ZP "inner" (.ref c) (ZP "days" (.ref p) [])))
 have ep:H3 p=some (.tup (ZR ds)):=s3 _ _ (by rw [ZO np];exact Zf)
 have fin:ZM (rc t) K (Z9 (upd H3 x (.ins t.Y9 dx (ZP "inner" (.ref c) (ZP "days" (.ref p) [])))) H0) x (.but ds r) :=
  .but (Xe n0 Zf) (Zi.of (Xe p0 (by rw [ZO np];exact ep))) (h3.same (U9 s2 Zf _))
 exact Za _ rfl (ZX x _ rfl (fin.same (Xb _ _)) hw hd fun H5 s5=>q H5 (s4.trans s5) (fin.same (Qa s5)))
theorem ZjK (Tx:ZD K mg t) (n:Nat) (R:XU P w K mg base t n):Zv P w K mg base Zx (4 * n+12) t.Zaa t.Zab ["self","one","other"] (Zdm (rc t) K n t.YG .either):=by
 refine Tx.Zjc.ok Zib (fun vs H Q E h=>?_) (fun cdv A outer s H vs Q E hr h=>?_)
 ·obtain ⟨x,i,j,H0,r,s',rfl,_⟩:=h
  rfl
 obtain ⟨x,i,j,H0,r,r2,rfl,⟨n0,s0,dx,hx⟩,hi,hj,⟨g1,g2⟩,hw,hd,hn1,hn2,q⟩:=h
 have ew:(RT.either r r2).weight=1+(r.weight+r2.weight):=rfl
 have ed:(RT.either r r2).depth=1+max r.depth r2.depth:=rfl
 refine Za _ (Zl (YL (pv 0) (Zo (WA Tx n R) (hr.mono (by omega)) rfl Tx.Wy Tx.Wn.kp Tx.Wz .nil Zp (Zb (pv 1) Zc)) rfl)
  (Zl (YL (pv 0) (Zo (WA Tx n R) (hr.mono (by omega)) rfl Tx.Wy Tx.Wn.kp Tx.Wz .nil Zp (Zb (pv 2) Zc)) rfl)
  (Zj (Vg (Zo (Zdl Tx) (hr.mono (by omega)) rfl Tx.U6 Tx.Va.kp Tx.U7 .nil Zp (Zb (pv 0) Zc)))))) ?_
 refine Za _ rfl (Xf i r rfl (hi.same s0) g1 (by omega) (by omega) hn1 fun c H1 s1 h1=>?_)
 refine Za _ rfl (Zk x _ dx _ rfl (s1 _ _ hx) Tx.Xn Tx.Zap (by decide) ?_)
 have s2:=Yd n0 (s0.trans s1) (.ins t.YG dx (ZP "one" (.ref c) []))
 refine Za _ rfl (Xf j r2 rfl (hj.same s2) g2 (by omega) (by omega) hn2 fun d H3 s3 h3=>?_)
 refine Za _ rfl (Zk x _ dx _ rfl (s3 _ _ Zf) Tx.Xn Tx.Zaq (Vc _ _) ?_)
 have s4:=Yd n0 (s2.trans s3) (.ins t.YG dx (ZP "other" (.ref d) (ZP "one" (.ref c) [])))
 have c1:Zt (Z9 H1 H) (Z9 (upd H3 x (.ins t.YG dx (ZP "other" (.ref d) (ZP "one" (.ref c) [])))) H0):=Qq s0 fun a u nn e=>by
  have ne:a≠x:=fun z=>by rw [z,hx] at nn;cases nn
  rw [ZO ne]
  exact s3 _ _ (by rw [ZO ne];exact e)
 have fin:ZM (rc t) K (Z9 (upd H3 x (.ins t.YG dx (ZP "other" (.ref d) (ZP "one" (.ref c) [])))) H0) x (.either r r2) :=
  .either (Xe n0 Zf) (h1.same c1) (h3.same (U9 s2 Zf _))
 exact Za _ rfl (ZX x _ rfl (fin.same (Xb _ _)) hw hd fun H5 s5=>q H5 (s4.trans s5) (fin.same (Qa s5)))
theorem ZjL (Tx:ZD K mg t) (n:Nat) (R:XU P w K mg base t n):Zv P w K mg base Zx (4 * n+12) t.Zac t.Zad ["self","one","other"] (Zdm (rc t) K n t.YH .both):=by
 refine Tx.Zjg.ok Zif (fun vs H Q E h=>?_) (fun cdv A outer s H vs Q E hr h=>?_)
 ·obtain ⟨x,i,j,H0,r,s',rfl,_⟩:=h
  rfl
 obtain ⟨x,i,j,H0,r,r2,rfl,⟨n0,s0,dx,hx⟩,hi,hj,⟨g1,g2⟩,hw,hd,hn1,hn2,q⟩:=h
 have ew:(RT.both r r2).weight=1+(r.weight+r2.weight):=rfl
 have ed:(RT.both r r2).depth=1+max r.depth r2.depth:=rfl
 refine Za _ (Zl (YL (pv 0) (Zo (WA Tx n R) (hr.mono (by omega)) rfl Tx.Wy Tx.Wn.kp Tx.Wz .nil Zp (Zb (pv 1) Zc)) rfl)
  (Zl (YL (pv 0) (Zo (WA Tx n R) (hr.mono (by omega)) rfl Tx.Wy Tx.Wn.kp Tx.Wz .nil Zp (Zb (pv 2) Zc)) rfl)
  (Zj (Vg (Zo (Zdl Tx) (hr.mono (by omega)) rfl Tx.U6 Tx.Va.kp Tx.U7 .nil Zp (Zb (pv 0) Zc)))))) ?_
 refine Za _ rfl (Xf i r rfl (hi.same s0) g1 (by omega) (by omega) hn1 fun c H1 s1 h1=>?_)
 refine Za _ rfl (Zk x _ dx _ rfl (s1 _ _ hx) Tx.Xo Tx.Zar (by decide) ?_)
 have s2:=Yd n0 (s0.trans s1) (.ins t.YH dx (ZP "one" (.ref c) []))
 refine Za _ rfl (Xf j r2 rfl (hj.same s2) g2 (by omega) (by omega) hn2 fun d H3 s3 h3=>?_)
 refine Za _ rfl (Zk x _ dx _ rfl (s3 _ _ Zf) Tx.Xo Tx.Zas (Vc _ _) ?_)
 have s4:=Yd n0 (s2.trans s3) (.ins t.YH dx (ZP "other" (.ref d) (ZP "one" (.ref c) [])))
 have c1:Zt (Z9 H1 H) (Z9 (upd H3 x (.ins t.YH dx (ZP "other" (.ref d) (ZP "one" (.ref c) [])))) H0):=Qq s0 fun a u nn e=>by
  have ne:a≠x:=fun z=>by rw [z,hx] at nn;cases nn
  rw [ZO ne]
  exact s3 _ _ (by rw [ZO ne];exact e)
 have fin:ZM (rc t) K (Z9 (upd H3 x (.ins t.YH dx (ZP "other" (.ref d) (ZP "one" (.ref c) [])))) H0) x (.both r r2) :=
  .both (Xe n0 Zf) (h1.same c1) (h3.same (U9 s2 Zf _))
 exact Za _ rfl (ZX x _ rfl (fin.same (Xb _ _)) hw hd fun H5 s5=>q H5 (s4.trans s5) (fin.same (Qa s5)))
theorem Xq {H:Hp} {x dx C:Addr} (nx:H x=none) (nd:H dx=none):WR H (upd (upd H dx (.own x)) x (.ins C dx [])) x C :=
 ⟨nx,Yd nx (Yd nd (Zt.refl _) _) _,dx,Zf⟩
theorem ZjM (Tx:ZD K mg t) (n:Nat):Zv P w K mg base Zx (4 * n+10) t.Zb1 t.Zb2 ["self"] (X5 (rc t) K Zau n):=by
 refine Tx.ZoU.ok Zol (fun vs H Q E h=>?_) (fun cdv A outer s H vs Q E hr h=>?_)
 ·obtain ⟨a,r,rfl,_⟩:=h
  rfl
 obtain ⟨a,r,rfl,h,hq,g,hw,hd,hn,q⟩:=h
 refine Za _ (Zj (Zw (ZbA Tx.Zc4 rfl Tx.QE))) ?_
 cases h with
 | always h=>exact fun x dx nx nd nex=>q x _ (Yd nx (Yd nd (Zt.refl _) _) _) (.always (Xe nx Zf))
 | _=>exact hq.elim
theorem ZjN (Tx:ZD K mg t) (n:Nat):Zv P w K mg base Zx (4 * n+10) t.Zb7 t.Zb8 ["self"] (X5 (rc t) K Zav n):=by
 refine Tx.Zo1.ok Zop (fun vs H Q E h=>?_) (fun cdv A outer s H vs Q E hr h=>?_)
 ·obtain ⟨a,r,rfl,_⟩:=h
  rfl
 obtain ⟨a,r,rfl,h,hq,g,hw,hd,hn,q⟩:=h
 refine Za _ (Zj (Zw (YN Tx.Zc5 (ZjG Tx) (hr.mono (by omega)) rfl Tx.Zdd Tx.ZcY .nil Zp (Zb (Z7 (pv 0) rfl) Zc)))) ?_
 cases h with
 | week h hb=>exact Za _ rfl (Ya a _ _ _ _ rfl h Tx.WQ Tx.Zc6 rfl fun x dx nx nd nex=>(Xc x H _ rfl (Xq nx nd) hb fun H' s' h'=>⟨rfl,q x H' s' h'⟩))
 | _=>exact hq.elim
theorem ZjO (Tx:ZD K mg t) (n:Nat):Zv P w K mg base Zx (4 * n+10) t.Zcj t.Zck ["self"] (X5 (rc t) K Zaw n):=by
 refine Tx.Zpb.ok Zot (fun vs H Q E h=>?_) (fun cdv A outer s H vs Q E hr h=>?_)
 ·obtain ⟨a,r,rfl,_⟩:=h
  rfl
 obtain ⟨a,r,rfl,h,hq,g,hw,hd,hn,q⟩:=h
 refine Za _ (Zj (Zw (YN Tx.Zc8 (ZjH Tx) (hr.mono (by omega)) rfl Tx.Zdf Tx.Zc0 .nil Zp (Zb (Z7 (pv 0) rfl) (Zb (YU Zbq rfl Tx.Qw Q3 (Zb (Z7 (pv 0) rfl) Zc)) Zc))))) ?_
 cases h with
 | each h h1 h2 hp =>
  rename_i dx0 p0 m0 ss0
  refine Za _ rfl (Ya a _ _ _ _ rfl h Tx.XT Tx.Za8 rfl (Za _ rfl (Ya a _ _ _ _ rfl h Tx.XT Tx.Za9 rfl (ZA _ _ rfl (.inr hp) fun l hl x dx nx nd nex=>?_))))
  have s1:=Zr hl (.lst (ZR ss0))
  exact X54 x l _ _ _ rfl (Xq nx nd) Zf g fun H' s' h'=>⟨rfl,q x H' (s1.trans s') (h'.same (Qq s1 fun _ _ _ e=>e))⟩
 | _=>exact hq.elim
theorem Zru (Tx:ZD K mg t) (n:Nat) (R:XU P w K mg base t n):Zv P w K mg base Zx (4 * (n+1)+10) t.Zcd t.Zce ["self"] (X5 (rc t) K QF (n+1)):=by
 refine Tx.Zi8.ok Zh7 (fun vs H Q E h=>?_) (fun cdv A outer s H vs Q E hr h=>?_)
 ·obtain ⟨a,r,rfl,_⟩:=h
  rfl
 obtain ⟨a,r,rfl,h,hq,g,hw,hd,hn,q⟩:=h
 refine Za _ (Zj (Zw (YN Tx.Zc7 (ZjI Tx n R) (hr.mono (by omega)) rfl Tx.Zde Tx.ZcZ .nil Zp (Zb (Z7 (pv 0) rfl) (Zb (Z7 (pv 0) rfl) (Zb (Z7 (pv 0) rfl) Zc)))))) ?_
 cases h with
 | span h hx hy hi =>
  rename_i dx0 i x0 y0 r0
  have ed:(RT.span x0 y0 r0).depth=1+r0.depth:=rfl
  exact Za _ rfl (Ya a _ _ _ _ rfl h Tx.Y3 Tx.Za6 rfl (Za _ rfl (Ya a _ _ _ _ rfl h Tx.Y3 Tx.Za7 rfl (Za _ rfl (Ya a _ _ _ _ rfl h Tx.Y3 Tx.Zao rfl fun x dx nx nd nex=>⟨x,_,H,_,_,_,rfl,Xq nx nd,hi,g,hw,hd,by omega,fun H' s' h'=>⟨rfl,q x H' s' h'⟩⟩)))))
 | _=>exact hq.elim
theorem Zrv (Tx:ZD K mg t) (n:Nat) (R:XU P w K mg base t n):Zv P w K mg base Zx (4 * (n+1)+10) t.ZcB t.ZcC ["self"] (X5 (rc t) K QI (n+1)):=by
 refine Tx.Zjl.ok Zik (fun vs H Q E h=>?_) (fun cdv A outer s H vs Q E hr h=>?_)
 ·obtain ⟨a,r,rfl,_⟩:=h
  rfl
 obtain ⟨a,r,rfl,h,hq,g,hw,hd,hn,q⟩:=h
 refine Za _ (Zj (Zw (YN Tx.Zdb (ZjJ Tx n R) (hr.mono (by omega)) rfl Tx.Zdi Tx.Zc3 .nil Zp (Zb (YU Zbq rfl Tx.Qw Q3 (Zb (Z7 (pv 0) rfl) Zc)) (Zb (Z7 (pv 0) rfl) Zc))))) ?_
 cases h with
 | but h hp hi =>
  rename_i dx0 p0 i ds0 r0
  have ed:(RT.but ds0 r0).depth=1+r0.depth:=rfl
  refine Za _ rfl (Ya a _ _ _ _ rfl h Tx.XA Tx.Zba rfl (ZA _ _ rfl (.inr hp) fun l hl=>?_))
  have s1:=Zr hl (.lst (ZR ds0))
  exact Za _ rfl (Ya a _ _ _ _ rfl (s1 _ _ h) Tx.XA Tx.Zat rfl fun x dx nx nd nex=>⟨x,l,_,_,_,_,rfl,Xq nx nd,Zf,hi.same s1,g,hw,hd,by omega,fun H' s' h'=>⟨rfl,q x H' (s1.trans s') (h'.same (Qq s1 fun _ _ _ e=>e))⟩⟩)
 | _=>exact hq.elim
theorem Zrw (Tx:ZD K mg t) (n:Nat) (R:XU P w K mg base t n):Zv P w K mg base Zx (4 * (n+1)+10) t.Zcp t.Zcq ["self"] (X5 (rc t) K QG (n+1)):=by
 refine Tx.Zjd.ok Zic (fun vs H Q E h=>?_) (fun cdv A outer s H vs Q E hr h=>?_)
 ·obtain ⟨a,r,rfl,_⟩:=h
  rfl
 obtain ⟨a,r,rfl,h,hq,g,hw,hd,hn,q⟩:=h
 refine Za _ (Zj (Zw (YN Tx.Zc9 (ZjK Tx n R) (hr.mono (by omega)) rfl Tx.Zdg Tx.Zc1 .nil Zp (Zb (Z7 (pv 0) rfl) (Zb (Z7 (pv 0) rfl) Zc))))) ?_
 cases h with
 | either h hi hj =>
  rename_i dx0 i j r0 r1
  have ed:(RT.either r0 r1).depth=1+max r0.depth r1.depth:=rfl
  exact Za _ rfl (Ya a _ _ _ _ rfl h Tx.Xn Tx.Zap rfl (Za _ rfl (Ya a _ _ _ _ rfl h Tx.Xn Tx.Zaq rfl fun x dx nx nd nex=>⟨x,_,_,H,_,_,rfl,Xq nx nd,hi,hj,g,hw,hd,by omega,by omega,fun H' s' h'=>⟨rfl,q x H' s' h'⟩⟩)))
 | _=>exact hq.elim
theorem Zrx (Tx:ZD K mg t) (n:Nat) (R:XU P w K mg base t n):Zv P w K mg base Zx (4 * (n+1)+10) t.Zcv t.Zcw ["self"] (X5 (rc t) K QH (n+1)):=by
 refine Tx.Zjh.ok Zig (fun vs H Q E h=>?_) (fun cdv A outer s H vs Q E hr h=>?_)
 ·obtain ⟨a,r,rfl,_⟩:=h
  rfl
 obtain ⟨a,r,rfl,h,hq,g,hw,hd,hn,q⟩:=h
 refine Za _ (Zj (Zw (YN Tx.Zda (ZjL Tx n R) (hr.mono (by omega)) rfl Tx.Zdh Tx.Zc2 .nil Zp (Zb (Z7 (pv 0) rfl) (Zb (Z7 (pv 0) rfl) Zc))))) ?_
 cases h with
 | both h hi hj =>
  rename_i dx0 i j r0 r1
  have ed:(RT.both r0 r1).depth=1+max r0.depth r1.depth:=rfl
  exact Za _ rfl (Ya a _ _ _ _ rfl h Tx.Xo Tx.Zar rfl (Za _ rfl (Ya a _ _ _ _ rfl h Tx.Xo Tx.Zas rfl fun x dx nx nd nex=>⟨x,_,_,H,_,_,rfl,Xq nx nd,hi,hj,g,hw,hd,by omega,by omega,fun H' s' h'=>⟨rfl,q x H' s' h'⟩⟩)))
 | _=>exact hq.elim
theorem UN (Tx:ZD K mg t):∀ n,XU P w K mg base t n
 | 0=>by
  have no:∀ {q:RT→Prop},∀ vs H Q E,X5 (rc t) K q 0 vs H Q E→False:=fun vs H Q E h=>by
   obtain ⟨a,r,rfl,h,hq,g,hw,hd,hn,_⟩:=h
   have:=r.depth_pos
   omega
  exact ⟨ZjM Tx 0,ZjN Tx 0,Tx.Zi8.ok Zh7 (fun vs H Q E h=>(no vs H Q E h).elim) (fun cdv A outer s H vs Q E hr h=>(no vs H Q E h).elim),ZjO Tx 0,Tx.Zjd.ok Zic (fun vs H Q E h=>(no vs H Q E h).elim) (fun cdv A outer s H vs Q E hr h=>(no vs H Q E h).elim),Tx.Zjh.ok Zig (fun vs H Q E h=>(no vs H Q E h).elim) (fun cdv A outer s H vs Q E hr h=>(no vs H Q E h).elim),Tx.Zjl.ok Zik (fun vs H Q E h=>(no vs H Q E h).elim) (fun cdv A outer s H vs Q E hr h=>(no vs H Q E h).elim)⟩
 | n+1=>have R:=UN Tx n
  ⟨ZjM Tx (n+1),ZjN Tx (n+1),Zru Tx n R,ZjO Tx (n+1),Zrw Tx n R,Zrx Tx n R,Zrv Tx n R⟩
theorem Zry (Tx:ZD K mg t):Zv P w K mg base Zx 40 t.Q6 t.Q7 ["self","first","last","rule"] (ZjE (rc t) K 7):=ZjI Tx 7 (UN Tx 7)
theorem Zrz (Tx:ZD K mg t):Zv P w K mg base Zx 40 t.Zae t.Zaf ["self","days","rule"] (ZjF (rc t) K 7):=ZjJ Tx 7 (UN Tx 7)
theorem ZrA (Tx:ZD K mg t):Zv P w K mg base Zx 40 t.Zaa t.Zab ["self","one","other"] (Zdm (rc t) K 7 t.YG .either):=ZjK Tx 7 (UN Tx 7)
theorem ZrB (Tx:ZD K mg t):Zv P w K mg base Zx 40 t.Zac t.Zad ["self","one","other"] (Zdm (rc t) K 7 t.YH .both):=ZjL Tx 7 (UN Tx 7)
theorem ZrC (Tx:ZD K mg t):Zv P w K mg base Zx 40 t.Q4 t.Q5 ["self","bits"] (ZjC (rc t) K):=(ZjG Tx).mono (by omega)
theorem ZrD (Tx:ZD K mg t):Zv P w K mg base Zx 40 t.Q8 t.Q9 ["self","length","starts"] (ZjD (rc t) K):=(ZjH Tx).mono (by omega)
def ZjP (K:W.Frag) (c:Addr) (H:Hp) (v:V):Prop:=∃ T,Kd H v T∧W.kitOne K (.type T) (.ref c)=some false
theorem ZjQ:∀ (xs:List V) (lo hi:Int),0≤lo→Wc lo hi xs=true→∃ ds:List Nat,xs=ZR ds∧ds.Pairwise (· < ·)∧∀ x∈ds,lo≤x∧((x:Nat):Int)≤hi
 | [],lo,hi,_,_=>ZE [] rfl .nil fun x hx=>by cases hx
 | x::r,lo,hi,h0,h=>by
  have h':(Xm x lo hi && Wc (Zbb x+1) hi r)=true:=h
  rw [Bool.and_eq_true] at h'
  cases x with
  | int i =>
   have b:lo≤i∧i≤hi:=of_decide_eq_true h'.1
   obtain ⟨ds,rfl,up,al⟩:=ZjQ r (i+1) hi (by omega) h'.2
   obtain ⟨n,rfl⟩:∃ n:Nat,i=((n:Nat):Int):=⟨i.toNat,by omega⟩
   refine ZE (n::ds) rfl (List.pairwise_cons.mpr ⟨fun y hy=>?_,up⟩) fun y hy=>?_
   ·have:=(al y hy).1
    omega
   ·rcases List.mem_cons.mp hy with rfl | hy
    ·exact b
    ·have:=al y hy
     omega
  | _=>cases h'.1
theorem ZjR:∀ (ds:List Nat) (lo hi:Int),ds.Pairwise (· < ·)→(∀ x∈ds,lo≤((x:Nat):Int)∧((x:Nat):Int)≤hi)→Wc lo hi (ZR ds)=true
 | [],_,_,_,_=>rfl
 | d::r,lo,hi,up,al=>by
  have hd:=al d List.mem_cons_self
  obtain ⟨u1,u2⟩:=List.pairwise_cons.mp up
  show (Xm (.int ((d:Nat):Int)) lo hi && Wc (((d:Nat):Int)+1) hi (ZR r))=true
  rw [W0 hd.1 hd.2,ZjR r _ hi u2 fun x hx=>⟨by have:=u1 x hx;omega,(al x (List.mem_cons_of_mem _ hx)).2⟩]
  rfl
theorem ZfT:∀ {a b:List Nat},ZR a=ZR b→a=b
 | [],[],_=>rfl
 | [],_::_,h=>by cases h
 | _::_,[],h=>by cases h
 | x::r,y::q,h=>by
  have h1:=List.cons.inj h
  have h2:((x:Nat):Int)=((y:Nat):Int):=V.int.inj h1.1
  rw [ZfT h1.2,show x=y by omega]
def QK (H:Hp) (v:V):Prop:=(∃ T,Kd H v T∧T ≠ "list")∨(∃ (a:Addr) (xs:List V),v=.ref a∧H a=some (.lst xs)∧∀ x∈xs,∃ T,Kd H x T)
def Ws (H:Hp) (v:V) (hi:Int):Prop:=∃ (a:Addr) (ds:List Nat),v=.ref a∧H a=some (.lst (ZR ds))∧1≤ds.length∧ds.length≤12∧ds.Pairwise (· < ·)∧∀ x∈ds,((x:Nat):Int)≤hi
theorem QK.same {H H':Hp} {v:V} (h:QK H v) (s:Zt H H'):QK H' v:=by
 rcases h with ⟨T,k,n⟩ | ⟨a,xs,e,ha,hk⟩
 ·exact .inl (Za T (k.same s) n)
 ·exact .inr (ZA a xs e (s _ _ ha) fun x hx=>let ⟨T,k⟩:=hk x hx;⟨T,k.same s⟩)
theorem ZjS {H:Hp} {a:Addr} {xs:List V} {hi:Int} (ha:H a=some (.lst xs)) (h:¬ Ws H (.ref a) hi):(decide (1≤xs.length∧(xs.length:Int)≤12) && Wc 0 hi xs)=false:=by
 cases c:(decide (1≤xs.length∧(xs.length:Int)≤12) && Wc 0 hi xs) with
 | false=>rfl
 | true =>
  rw [Bool.and_eq_true,decide_eq_true_eq] at c
  obtain ⟨ds,rfl,up,al⟩:=ZjQ xs 0 hi (by decide) c.2
  rw [List.length_map] at c
  exact absurd ⟨a,ds,rfl,ha,c.1.1,by omega,up,fun x hx=>(al x hx).2⟩ h
theorem ZjT {ds:List Nat} {hi:Int} (l1:1≤ds.length) (l2:ds.length≤12) (up:ds.Pairwise (· < ·)) (al:∀ x∈ds,((x:Nat):Int)≤hi):(decide (1≤(ZR ds).length∧((ZR ds).length:Int)≤12) && Wc 0 hi (ZR ds))=true:=by
 rw [ZjR ds 0 hi up fun x hx=>⟨by omega,al x hx⟩,List.length_map,decide_eq_true ⟨l1,by omega⟩]
 rfl
theorem ZjU {H:Hp} (ds:List Nat):∀ x∈ZR ds,∃ T,Kd H x T:=fun x hx=>by
 obtain ⟨n,_,rfl⟩:=List.mem_map.mp hx
 exact ⟨_,.int _⟩
theorem Ws.back {H0 H:Hp} {v:V} {hi:Int} (l:QK H0 v) (s:Zt H0 H) (h:Ws H v hi):Ws H0 v hi:=by
 obtain ⟨a,ds,rfl,ha,r⟩:=h
 refine ZA a ds rfl ?_ r
 rcases l with ⟨T',k,nT⟩ | ⟨a',xs,e',ha',_⟩
 ·cases k with
  | lst e'=>exact absurd rfl nT
  | tup e'=>rw [s _ _ e'] at ha;cases ha
  | dK e'=>rw [s _ _ e'] at ha;cases ha
 ·cases e'
  rw [s _ _ ha'] at ha
  cases ha
  exact ha'
theorem Ws.same {H0 H:Hp} {v:V} {hi:Int} (s:Zt H0 H) (h:Ws H0 v hi):Ws H v hi:=let ⟨a,ds,e,ha,r⟩:=h;(ZA a ds e (s _ _ ha) r)
def ZrE (t:YX) (K:W.Frag):Sp:=fun vs H Q E=>∃ (a:Addr) (r:RT),vs=[.ref a]∧ZM (rc t) K H a r∧r.weight≤1000∧r.depth≤9∧(r.weight≤15∧r.depth≤8→∀ H',Zt H H'→Q .non H')∧(¬ (r.weight≤15∧r.depth≤8)→∀ H',Zt H H'→E (.ref t.Z3) none H')
theorem Zdn (Tx:ZD K mg t):Zv P w K mg base (Yn P w) 11 t.ZbS t.ZbT ["rule"] (ZrE t K):=by
 refine Tx.Va.okX ZhV (fun vs H Q E h=>?_) (fun cdv A outer s H vs Q E hr h=>?_)
 ·obtain ⟨a,r,rfl,_⟩:=h
  rfl
 obtain ⟨a,r,rfl,h,hw,hd,q,e⟩:=h
 refine Za _ (Zl (ZG (ZI XV (Xx (pv 0)) (YV rfl Tx.Ziz) (ZH _))
  (Zj (Xk Xj Tx.Zjr rfl rfl Tx.Zdc (Zb Zn Zc)))
  ZF)
  (Zj (ZG (ZI XV (Xx (pv 0)) (YV rfl Tx.Zfq) (ZH _))
  (Zj (Xk Xj Tx.Zjr rfl rfl Tx.Zdc (Zb Zn Zc)))
  ZF))) ?_
 obtain ⟨C,dx,fs,l,cl,⟨lk,me⟩,_⟩:=U8 Tx h
 refine Za _ rfl ⟨a,C,dx,fs,_,_,_,_,_,Zx,E0,rfl,l,lk,cl,me,ZfP Tx 9,hr.mono (by omega),Tx.ZcW,Zp,ZX a r rfl h hd (by omega) fun H1 s1=>?_⟩
 refine ZA _ _ rfl rfl (Za _ rfl ?_)
 by_cases w15:r.weight≤15
 rotate_left
 ·exact Zy (decide_eq_true (by omega)) ⟨by show 1≤sizeLine;decide,e (fun z=>w15 z.1) H1 s1⟩
 refine Zh (by rw [decide_eq_false (by omega)];decide) ?_
 have h1:=h.same s1
 obtain ⟨C,dx,fs,l,cl,_,⟨lk,me⟩⟩:=U8 Tx h1
 refine Za _ rfl ⟨a,C,dx,fs,_,_,_,_,_,Zx,E0,rfl,l,lk,cl,me,ZfR Tx 9,hr.mono (by omega),Tx.ZcX,Zp,ZV a r rfl h1 hd fun H2 s2=>?_⟩
 refine ZA _ _ rfl rfl (Za _ rfl ?_)
 by_cases d8:r.depth≤8
 ·exact Zh (by rw [decide_eq_false (by omega)];decide) (q ⟨w15,d8⟩ H2 (s1.trans s2))
 ·exact Zy (decide_eq_true (by omega)) ⟨by show 1≤sizeLine;decide,e (fun z=>d8 z.2) H2 (s1.trans s2)⟩
def ZjV (t:YX) (K:W.Frag):Sp:=fun vs H Q E=>∃ (x:Addr) (H0:Hp) (v:V) (T:String),vs=[.ref x,v]∧WR H0 H x t.Wb∧Kd H0 v T∧(∀ b:Nat,v=.int (b:Nat)→b≤127→∀ H',Zt H0 H'→ZM (rc t) K (Z9 H' H0) x (.week b)→Q .non H') ∧
 (Xm v 0 127=false→∀ H',Zt H0 H'→E (.ref t.Z0) none H')
theorem ZrF (Tx:ZD K mg t):Zv P w K mg base (Yn P w) 3 t.Q4 t.Q5 ["self","bits"] (ZjV t K):=by
 refine Tx.Zi5.okX Zh5 (fun vs H Q E h=>?_) (fun cdv A outer s H vs Q E hr h=>?_)
 ·obtain ⟨x,H0,v,T,rfl,_⟩:=h
  rfl
 obtain ⟨x,H0,v,T,rfl,⟨n0,s0,dx,hx⟩,kd,q,e⟩:=h
 refine Za _ (Zl (ZG (Yt (Yx (Zo (Vb Tx) (hr.mono (by omega)) rfl Tx.W8 Tx.WP.kp Tx.W9 .nil Zp (Zb (pv 1) (Zb Ze (Zb (YV rfl Tx.Zix) Zc))))))
  (Zj (Xk Xj Tx.XB rfl rfl Tx.Xp (Zb Zn Zc)))
  ZF)
  (Zj (YL (pv 0) (pv 1) rfl))) ?_
 refine Za _ rfl (Wv v 0 127 T rfl (kd.same s0) (Za _ rfl ?_))
 cases hn:Xm v 0 127 with
 | false=>exact Zy rfl ⟨by show 1≤sizeLine;decide,e hn _ s0⟩
 | true =>
  refine Zh (by decide) ?_
  cases v with
  | int i =>
   have b:0≤i∧i≤127:=of_decide_eq_true hn
   obtain ⟨b',rfl⟩:∃ n:Nat,i=((n:Nat):Int):=⟨i.toNat,by omega⟩
   exact Za _ rfl (Za _ rfl (Zk x _ dx [] rfl hx Tx.WQ Tx.Zc6 (by decide) (q b' rfl (by omega) _ (Yd n0 s0 _) (.week (Xe n0 Zf) (by omega)))))
  | _=>cases hn
def ZjW (t:YX) (K:W.Frag):Sp:=fun vs H Q E=>∃ (x:Addr) (H0:Hp) (v u:V) (T:String),vs=[.ref x,v,u]∧WR H0 H x t.Xz∧Kd H0 v T∧QK H0 u ∧
 (∀ (n:Nat) (l:Addr) (ss:List Nat),v=.int (n:Nat)→u=.ref l→H0 l=some (.lst (ZR ss))→(RT.each n ss).good→∀ H',Zt H0 H'→ZM (rc t) K (Z9 H' H0) x (.each n ss)→Q .non H') ∧
 (Xm v 1 28=false∨¬ Ws H0 u (Zbb v - 1)→∀ H',Zt H0 H'→E (.ref t.Z0) none H')
theorem ZrG (Tx:ZD K mg t):Zv P w K mg base (Yn P w) 4 t.Q8 t.Q9 ["self","length","starts"] (ZjW t K):=by
 refine Tx.Zjb.okX Zia (fun vs H Q E h=>?_) (fun cdv A outer s H vs Q E hr h=>?_)
 ·obtain ⟨x,H0,v,u,T,rfl,_⟩:=h
  rfl
 obtain ⟨x,H0,v,u,T,rfl,⟨n0,s0,dx,hx⟩,kd,hl,q,e⟩:=h
 refine Za _ (Zl (ZG (Yt (Yx (Zo (Vb Tx) (hr.mono (by omega)) rfl Tx.W8 Tx.WP.kp Tx.W9 .nil Zp (Zb (pv 1) (Zb Ze (Zb (YV rfl Tx.Ziy) Zc))))))
  (Zj (Xk Xj Tx.XB rfl rfl Tx.Xp (Zb Zn Zc)))
  ZF)
  (Zl (ZG (Yt (Yx (Zo (Zjt Tx) (hr.mono (by omega)) rfl Tx.ZcJ Tx.Zai.kp Tx.ZcK .nil Zp (Zb (pv 2) (Zb (YV rfl Tx.ZcI) (Zb Ze (Zb (ZB Yq (pv 1) Ze) Zc)))))))
  (Zj (Xk Xj Tx.XB rfl rfl Tx.Xp (Zb Zn Zc)))
  ZF)
  (Zl (YL (pv 0) (pv 1) rfl)
  (Zj (YL (pv 0) (YU Zbr rfl Tx.ZcH ZbP (Zb (pv 2) Zc)) rfl))))) ?_
 refine Za _ rfl (Wv v 1 28 T rfl (kd.same s0) (Za _ rfl ?_))
 cases hn:Xm v 1 28 with
 | false=>exact Zy rfl ⟨by show 1≤sizeLine;decide,e (.inl hn) _ s0⟩
 | true =>
  refine Zh (by decide) ?_
  cases v with
  | int i =>
   have b:1≤i∧i≤28:=of_decide_eq_true hn
   obtain ⟨n,rfl⟩:∃ n:Nat,i=((n:Nat):Int):=⟨i.toNat,by omega⟩
   refine Za _ rfl (Za _ rfl (ZA _ _ rfl rfl ?_))
   refine ⟨u,12,0,((n:Nat):Int) - 1,rfl,?_⟩
   by_cases hR:Ws H u (((n:Nat):Int) - 1)
   ·obtain ⟨l,ss,rfl,hl0,_⟩:=Ws.back hl s0 hR
    obtain ⟨l',ss',e',hlH,l1,l2,up,al⟩:=hR
    cases e'
    rw [s0 _ _ hl0] at hlH
    cases ZfT (HO.lst.inj (Option.some.inj hlH))
    refine .inr (ZV l _ rfl (s0 _ _ hl0) (ZjU _) ?_)
    rw [ZjT l1 l2 up al]
    refine Za _ rfl (Zh (by decide) ?_)
    have g:Vt ss 0 (n - 1):=⟨l1,l2,up,fun y hy=>⟨Nat.zero_le _,by have:=al y hy;omega⟩⟩
    refine Za _ rfl (Za _ rfl (Zk x _ dx [] rfl hx Tx.XT Tx.Za8 (by decide) ?_))
    have s1:=Yd n0 s0 (.ins t.Xz dx (ZP "length" (.int (n:Nat)) []))
    refine Za _ rfl (WO l _ rfl (.inl ⟨Zm.of (s1 _ _ hl0),fun p hp=>?_⟩))
    have np:p≠x:=fun z=>by rw [z,Zf] at hp;cases hp
    have p0:H0 p=none:=s1.free hp
    refine Za _ rfl (Zk x _ dx _ rfl (by rw [ZO np.symm];exact Zf) Tx.XT Tx.Za9 (Vc _ _) ?_)
    exact q n l ss rfl rfl hl0 ⟨by omega,by omega,g⟩ _ (Yd n0 (Yd p0 s1 _) _) (.each (Xe n0 Zf) (by omega) (by omega) (Zi.of (Xe p0 (by rw [ZO np];exact Zf))))
   ·have hl':=hl.same s0
    rcases hl' with ⟨T',k',nT⟩ | ⟨a',xs,rfl,ha,hk⟩
    ·exact .inl (ZE T' k' nT (Za _ rfl (Zy rfl ⟨by show 1≤sizeLine;decide,e (.inr fun z=>hR (z.same s0)) _ s0⟩)))
    ·refine .inr (ZV a' xs rfl ha hk ?_)
     rw [ZjS ha hR]
     exact Za _ rfl (Zy rfl ⟨by show 1≤sizeLine;decide,e (.inr fun z=>hR (z.same s0)) _ s0⟩)
  | _=>cases hn
def ZjX (t:YX) (K:W.Frag) (n:Nat):Sp:=fun vs H Q E=>∃ (x:Addr) (H0:Hp) (f l:V) (i:Addr) (r:RT) (Tf Tl:String),vs=[.ref x,f,l,.ref i]∧WR H0 H x t.YT∧Kd H0 f Tf∧Kd H0 l Tl∧ZM (rc t) K H0 i r∧r.good∧r.weight≤15∧r.depth≤8∧r.depth≤n ∧
 (∀ (a b:Nat),f=.int (a:Nat)→l=.int (b:Nat)→(RT.span a b r).good →
  ((RT.span a b r).weight≤15∧(RT.span a b r).depth≤8→∀ H',Zt H0 H'→ZM (rc t) K (Z9 H' H0) x (.span a b r)→Q .non H')∧(¬ ((RT.span a b r).weight≤15∧(RT.span a b r).depth≤8)→∀ H',Zt H0 H'→E (.ref t.Z3) none H')) ∧
 (Xm f 0 9999=false∨Xm l (Zbb f) 9999=false→∀ H',Zt H0 H'→E (.ref t.Z0) none H')
theorem ZrH (Tx:ZD K mg t) (n:Nat) (R:XU P w K mg base t n):Zv P w K mg base (Yn P w) (4 * n+12) t.Q6 t.Q7 ["self","first","last","rule"] (ZjX t K n):=by
 refine Tx.Zi7.okX Zh6 (fun vs H Q E h=>?_) (fun cdv A outer s H vs Q E hr h=>?_)
 ·obtain ⟨x,H0,f,l,i,r,Tf,Tl,rfl,_⟩:=h
  rfl
 obtain ⟨x,H0,f,l,i,r,Tf,Tl,rfl,⟨n0,s0,dx,hx⟩,kf,kl,hi,g,hw,hd,hn,q,e⟩:=h
 refine Za _ (Zl (ZG (Yt (Yx (Zo (Vb Tx) (hr.mono (by omega)) rfl Tx.W8 Tx.WP.kp Tx.W9 .nil Zp (Zb (pv 1) (Zb Ze (Zb (YV rfl Tx.Zah) Zc))))))
  (Zj (Xk Xj Tx.XB rfl rfl Tx.Xp (Zb Zn Zc)))
  ZF)
  (Zl (ZG (Yt (Yx (Zo (Vb Tx) (hr.mono (by omega)) rfl Tx.W8 Tx.WP.kp Tx.W9 .nil Zp (Zb (pv 2) (Zb (pv 1) (Zb (YV rfl Tx.Zah) Zc))))))
  (Zj (Xk Xj Tx.XB rfl rfl Tx.Xp (Zb Zn Zc)))
  ZF)
  (Zl (YL (pv 0) (pv 1) rfl)
  (Zl (YL (pv 0) (pv 2) rfl)
  (Zl (YL (pv 0) (Zo (WA Tx n R) (hr.mono (by omega)) rfl Tx.Wy Tx.Wn.kp Tx.Wz .nil Zp (Zb (pv 3) Zc)) rfl)
  (Zj (Vg (Zo (Zdn Tx) (hr.mono (by omega)) rfl Tx.U6 Tx.Va.kp Tx.U7 .nil Z6 (Zb (pv 0) Zc))))))))) ?_
 refine Za _ rfl (Wv f 0 9999 Tf rfl (kf.same s0) (Za _ rfl ?_))
 cases hf:Xm f 0 9999 with
 | false=>exact Zy rfl ⟨by show 1≤sizeLine;decide,e (.inl hf) _ s0⟩
 | true =>
 refine Zh (by decide) ?_
 cases f with
 | int fi =>
  have bf:0≤fi∧fi≤9999:=of_decide_eq_true hf
  obtain ⟨a,rfl⟩:∃ n:Nat,fi=((n:Nat):Int):=⟨fi.toNat,by omega⟩
  refine Za _ rfl (Za _ rfl (Wv l (a:Nat) 9999 Tl rfl (kl.same s0) (Za _ rfl ?_)))
  cases hl:Xm l (a:Nat) 9999 with
  | false=>exact Zy rfl ⟨by show 1≤sizeLine;decide,e (.inr hl) _ s0⟩
  | true =>
  refine Zh (by decide) ?_
  cases l with
  | int li =>
   have bl:((a:Nat):Int)≤li∧li≤9999:=of_decide_eq_true hl
   obtain ⟨b,rfl⟩:∃ n:Nat,li=((n:Nat):Int):=⟨li.toNat,by omega⟩
   refine Za _ rfl (Za _ rfl (Zk x _ dx [] rfl hx Tx.Y3 Tx.Za6 (by decide) ?_))
   have s1:=Yd n0 s0 (.ins t.YT dx (ZP "first" (.int (a:Nat)) []))
   refine Za _ rfl (Za _ rfl (Zk x _ dx _ rfl Zf Tx.Y3 Tx.Za7 (Vc _ _) ?_))
   have s2:=Yd n0 s1 (.ins t.YT dx (ZP "last" (.int (b:Nat)) (ZP "first" (.int (a:Nat)) [])))
   obtain ⟨q1,q2⟩:=q a b rfl rfl ⟨by omega,by omega,g⟩
   have ew:(RT.span a b r).weight=1+r.weight:=rfl
   have ed:(RT.span a b r).depth=1+r.depth:=rfl
   refine Za _ rfl (Xf i r rfl (hi.same s2) g hw hd hn fun c H3 s3 h3=>?_)
   refine Za _ rfl (Zk x _ dx _ rfl (s3 _ _ Zf) Tx.Y3 Tx.Zao (ZjB _ _ _ _) ?_)
   have s4:=Yd n0 (s2.trans s3) (.ins t.YT dx (ZP "inner" (.ref c) (ZP "last" (.int (b:Nat)) (ZP "first" (.int (a:Nat)) []))))
   have fin:ZM (rc t) K (Z9 (upd H3 x (.ins t.YT dx (ZP "inner" (.ref c) (ZP "last" (.int (b:Nat)) (ZP "first" (.int (a:Nat)) []))))) H0) x (.span a b r) :=
    .span (Xe n0 Zf) (by omega) (by omega) (h3.same (U9 s2 Zf _))
   exact Za _ rfl ⟨x,_,rfl,fin.same (Xb _ _),by omega,by omega,fun z H5 s5=>q1 z H5 (s4.trans s5) (fin.same (Qa s5)),fun z H5 s5=>q2 z H5 (s4.trans s5)⟩
  | _=>cases hl
 | _=>cases hf
def ZjY (t:YX) (K:W.Frag) (n:Nat):Sp:=fun vs H Q E=>∃ (x:Addr) (H0:Hp) (u:V) (i:Addr) (r:RT),vs=[.ref x,u,.ref i]∧WR H0 H x t.Y9∧QK H0 u∧ZM (rc t) K H0 i r∧r.good∧r.weight≤15∧r.depth≤8∧r.depth≤n ∧
 (∀ (l:Addr) (ds:List Nat),u=.ref l→H0 l=some (.lst (ZR ds))→(RT.but ds r).good →
  ((RT.but ds r).weight≤15∧(RT.but ds r).depth≤8→∀ H',Zt H0 H'→ZM (rc t) K (Z9 H' H0) x (.but ds r)→Q .non H')∧(¬ ((RT.but ds r).weight≤15∧(RT.but ds r).depth≤8)→∀ H',Zt H0 H'→E (.ref t.Z3) none H')) ∧
 (¬ Ws H0 u 9999→∀ H',Zt H0 H'→E (.ref t.Z0) none H')
theorem ZrI (Tx:ZD K mg t) (n:Nat) (R:XU P w K mg base t n):Zv P w K mg base (Yn P w) (4 * n+12) t.Zae t.Zaf ["self","days","rule"] (ZjY t K n):=by
 refine Tx.Zjk.okX Zij (fun vs H Q E h=>?_) (fun cdv A outer s H vs Q E hr h=>?_)
 ·obtain ⟨x,H0,u,i,r,rfl,_⟩:=h
  rfl
 obtain ⟨x,H0,u,i,r,rfl,⟨n0,s0,dx,hx⟩,hl,hi,g,hw,hd,hn,q,e⟩:=h
 refine Za _ (Zl (ZG (Yt (Yx (Zo (Zjt Tx) (hr.mono (by omega)) rfl Tx.ZcJ Tx.Zai.kp Tx.ZcK .nil Zp (Zb (pv 1) (Zb (YV rfl Tx.ZcI) (Zb Ze (Zb (YV rfl Tx.Zah) Zc)))))))
  (Zj (Xk Xj Tx.XB rfl rfl Tx.Xp (Zb Zn Zc)))
  ZF)
  (Zl (YL (pv 0) (YU Zbr rfl Tx.ZcH ZbP (Zb (pv 1) Zc)) rfl)
  (Zl (YL (pv 0) (Zo (WA Tx n R) (hr.mono (by omega)) rfl Tx.Wy Tx.Wn.kp Tx.Wz .nil Zp (Zb (pv 2) Zc)) rfl)
  (Zj (Vg (Zo (Zdn Tx) (hr.mono (by omega)) rfl Tx.U6 Tx.Va.kp Tx.U7 .nil Z6 (Zb (pv 0) Zc))))))) ?_
 refine Za _ rfl ?_
 refine ⟨u,12,0,9999,rfl,?_⟩
 by_cases hR:Ws H u 9999
 rotate_left
 ·have hl':=hl.same s0
  rcases hl' with ⟨T',k',nT⟩ | ⟨a',xs,rfl,ha,hk⟩
  ·exact .inl (ZE T' k' nT (Za _ rfl (Zy rfl ⟨by show 1≤sizeLine;decide,e (fun z=>hR (z.same s0)) _ s0⟩)))
  ·refine .inr (ZV a' xs rfl ha hk ?_)
   rw [ZjS ha hR]
   exact Za _ rfl (Zy rfl ⟨by show 1≤sizeLine;decide,e (fun z=>hR (z.same s0)) _ s0⟩)
 obtain ⟨l,ds,rfl,hl0,_⟩:=Ws.back hl s0 hR
 obtain ⟨l',ds',e',hlH,l1,l2,up,al⟩:=hR
 cases e'
 rw [s0 _ _ hl0] at hlH
 cases ZfT (HO.lst.inj (Option.some.inj hlH))
 have hlH:=s0 _ _ hl0
 refine .inr (ZV l _ rfl hlH (ZjU _) ?_)
 rw [ZjT l1 l2 up al]
 refine Za _ rfl (Zh (by decide) ?_)
 have gd:Vt ds 0 9999:=⟨l1,l2,up,fun y hy=>⟨Nat.zero_le _,by have:=al y hy;omega⟩⟩
 refine Za _ rfl (WO l _ rfl (.inl ⟨Zm.of hlH,fun p hp=>?_⟩))
 have np:p≠x:=fun z=>by rw [z,hx] at hp;cases hp
 have p0:H0 p=none:=s0.free hp
 have s1:=Yd p0 s0 (.tup (ZR ds))
 refine Za _ rfl (Zk x _ dx [] rfl (by rw [ZO np.symm];exact hx) Tx.XA Tx.Zba (by decide) ?_)
 have s2:=Yd n0 s1 (.ins t.Y9 dx (ZP "days" (.ref p) []))
 obtain ⟨q1,q2⟩:=q l ds rfl hl0 ⟨gd,g⟩
 have ew:(RT.but ds r).weight=1+r.weight:=rfl
 have ed:(RT.but ds r).depth=1+r.depth:=rfl
 refine Za _ rfl (Xf i r rfl (hi.same s2) g hw hd hn fun c H3 s3 h3=>?_)
 refine Za _ rfl (Zk x _ dx _ rfl (s3 _ _ Zf) Tx.XA Tx.Zat (Vc _ _) ?_)
 have s4:=Yd n0 (s2.trans s3) (.ins t.Y9 dx (ZP "inner" (.ref c) (ZP "days" (.ref p) [])))
 have ep:H3 p=some (.tup (ZR ds)):=s3 _ _ (by rw [ZO np];exact Zf)
 have fin:ZM (rc t) K (Z9 (upd H3 x (.ins t.Y9 dx (ZP "inner" (.ref c) (ZP "days" (.ref p) [])))) H0) x (.but ds r) :=
  .but (Xe n0 Zf) (Zi.of (Xe p0 (by rw [ZO np];exact ep))) (h3.same (U9 s2 Zf _))
 exact Za _ rfl ⟨x,_,rfl,fin.same (Xb _ _),by omega,by omega,fun z H5 s5=>q1 z H5 (s4.trans s5) (fin.same (Qa s5)),fun z H5 s5=>q2 z H5 (s4.trans s5)⟩
def Zdo (t:YX) (K:W.Frag) (n:Nat) (C:Addr) (mk:RT→RT→RT):Sp:=fun vs H Q E=>∃ (x:Addr) (H0:Hp) (i j:Addr) (r s:RT),vs=[.ref x,.ref i,.ref j]∧WR H0 H x C∧ZM (rc t) K H0 i r∧r.good∧r.weight≤15∧r.depth≤8∧r.depth≤n∧ZM (rc t) K H0 j s∧s.good∧s.weight≤15∧s.depth≤8∧s.depth≤n ∧
 ((mk r s).weight≤15∧(mk r s).depth≤8→∀ H',Zt H0 H'→ZM (rc t) K (Z9 H' H0) x (mk r s)→Q .non H')∧(¬ ((mk r s).weight≤15∧(mk r s).depth≤8)→∀ H',Zt H0 H'→E (.ref t.Z3) none H')
theorem ZrJ (Tx:ZD K mg t) (n:Nat) (R:XU P w K mg base t n):Zv P w K mg base (Yn P w) (4 * n+12) t.Zaa t.Zab ["self","one","other"] (Zdo t K n t.YG .either):=by
 refine Tx.Zjc.okX Zib (fun vs H Q E h=>?_) (fun cdv A outer s H vs Q E hr h=>?_)
 ·obtain ⟨x,H0,i,j,r,r2,rfl,_⟩:=h
  rfl
 obtain ⟨x,H0,i,j,r,r2,rfl,⟨n0,s0,dx,hx⟩,hi,g1,hw1,hd1,hn1,hj,g2,hw2,hd2,hn2,q1,q2⟩:=h
 refine Za _ (Zl (YL (pv 0) (Zo (WA Tx n R) (hr.mono (by omega)) rfl Tx.Wy Tx.Wn.kp Tx.Wz .nil Zp (Zb (pv 1) Zc)) rfl)
  (Zl (YL (pv 0) (Zo (WA Tx n R) (hr.mono (by omega)) rfl Tx.Wy Tx.Wn.kp Tx.Wz .nil Zp (Zb (pv 2) Zc)) rfl)
  (Zj (Vg (Zo (Zdn Tx) (hr.mono (by omega)) rfl Tx.U6 Tx.Va.kp Tx.U7 .nil Z6 (Zb (pv 0) Zc)))))) ?_
 refine Za _ rfl (Xf i r rfl (hi.same s0) g1 hw1 hd1 hn1 fun c H1 s1 h1=>?_)
 refine Za _ rfl (Zk x _ dx _ rfl (s1 _ _ hx) Tx.Xn Tx.Zap (by decide) ?_)
 have s2:=Yd n0 (s0.trans s1) (.ins t.YG dx (ZP "one" (.ref c) []))
 refine Za _ rfl (Xf j r2 rfl (hj.same s2) g2 hw2 hd2 hn2 fun d H3 s3 h3=>?_)
 refine Za _ rfl (Zk x _ dx _ rfl (s3 _ _ Zf) Tx.Xn Tx.Zaq (Vc _ _) ?_)
 have s4:=Yd n0 (s2.trans s3) (.ins t.YG dx (ZP "other" (.ref d) (ZP "one" (.ref c) [])))
 have c1:Zt (Z9 H1 H) (Z9 (upd H3 x (.ins t.YG dx (ZP "other" (.ref d) (ZP "one" (.ref c) [])))) H0):=Qq s0 fun a w nn e=>by
  have ne:a≠x:=fun z=>by rw [z,hx] at nn;cases nn
  rw [ZO ne]
  exact s3 _ _ (by rw [ZO ne];exact e)
 have fin:ZM (rc t) K (Z9 (upd H3 x (.ins t.YG dx (ZP "other" (.ref d) (ZP "one" (.ref c) [])))) H0) x (.either r r2) :=
  .either (Xe n0 Zf) (h1.same c1) (h3.same (U9 s2 Zf _))
 have ew:(RT.either r r2).weight=1+(r.weight+r2.weight):=rfl
 have ed:(RT.either r r2).depth=1+max r.depth r2.depth:=rfl
 exact Za _ rfl ⟨x,_,rfl,fin.same (Xb _ _),by omega,by omega,fun z H5 s5=>q1 z H5 (s4.trans s5) (fin.same (Qa s5)),fun z H5 s5=>q2 z H5 (s4.trans s5)⟩
theorem ZrK (Tx:ZD K mg t) (n:Nat) (R:XU P w K mg base t n):Zv P w K mg base (Yn P w) (4 * n+12) t.Zac t.Zad ["self","one","other"] (Zdo t K n t.YH .both):=by
 refine Tx.Zjg.okX Zif (fun vs H Q E h=>?_) (fun cdv A outer s H vs Q E hr h=>?_)
 ·obtain ⟨x,H0,i,j,r,r2,rfl,_⟩:=h
  rfl
 obtain ⟨x,H0,i,j,r,r2,rfl,⟨n0,s0,dx,hx⟩,hi,g1,hw1,hd1,hn1,hj,g2,hw2,hd2,hn2,q1,q2⟩:=h
 refine Za _ (Zl (YL (pv 0) (Zo (WA Tx n R) (hr.mono (by omega)) rfl Tx.Wy Tx.Wn.kp Tx.Wz .nil Zp (Zb (pv 1) Zc)) rfl)
  (Zl (YL (pv 0) (Zo (WA Tx n R) (hr.mono (by omega)) rfl Tx.Wy Tx.Wn.kp Tx.Wz .nil Zp (Zb (pv 2) Zc)) rfl)
  (Zj (Vg (Zo (Zdn Tx) (hr.mono (by omega)) rfl Tx.U6 Tx.Va.kp Tx.U7 .nil Z6 (Zb (pv 0) Zc)))))) ?_
 refine Za _ rfl (Xf i r rfl (hi.same s0) g1 hw1 hd1 hn1 fun c H1 s1 h1=>?_)
 refine Za _ rfl (Zk x _ dx _ rfl (s1 _ _ hx) Tx.Xo Tx.Zar (by decide) ?_)
 have s2:=Yd n0 (s0.trans s1) (.ins t.YH dx (ZP "one" (.ref c) []))
 refine Za _ rfl (Xf j r2 rfl (hj.same s2) g2 hw2 hd2 hn2 fun d H3 s3 h3=>?_)
 refine Za _ rfl (Zk x _ dx _ rfl (s3 _ _ Zf) Tx.Xo Tx.Zas (Vc _ _) ?_)
 have s4:=Yd n0 (s2.trans s3) (.ins t.YH dx (ZP "other" (.ref d) (ZP "one" (.ref c) [])))
 have c1:Zt (Z9 H1 H) (Z9 (upd H3 x (.ins t.YH dx (ZP "other" (.ref d) (ZP "one" (.ref c) [])))) H0):=Qq s0 fun a w nn e=>by
  have ne:a≠x:=fun z=>by rw [z,hx] at nn;cases nn
  rw [ZO ne]
  exact s3 _ _ (by rw [ZO ne];exact e)
 have fin:ZM (rc t) K (Z9 (upd H3 x (.ins t.YH dx (ZP "other" (.ref d) (ZP "one" (.ref c) [])))) H0) x (.both r r2) :=
  .both (Xe n0 Zf) (h1.same c1) (h3.same (U9 s2 Zf _))
 have ew:(RT.both r r2).weight=1+(r.weight+r2.weight):=rfl
 have ed:(RT.both r r2).depth=1+max r.depth r2.depth:=rfl
 exact Za _ rfl ⟨x,_,rfl,fin.same (Xb _ _),by omega,by omega,fun z H5 s5=>q1 z H5 (s4.trans s5) (fin.same (Qa s5)),fun z H5 s5=>q2 z H5 (s4.trans s5)⟩
theorem ZjZ (Tx:ZD K mg t):Zv P w K mg base (Yn P w) 44 t.Q6 t.Q7 ["self","first","last","rule"] (ZjX t K 8):=ZrH Tx 8 (UN Tx 8)
theorem Zj0 (Tx:ZD K mg t):Zv P w K mg base (Yn P w) 44 t.Zae t.Zaf ["self","days","rule"] (ZjY t K 8):=ZrI Tx 8 (UN Tx 8)
theorem Zj1 (Tx:ZD K mg t):Zv P w K mg base (Yn P w) 44 t.Zaa t.Zab ["self","one","other"] (Zdo t K 8 t.YG .either):=ZrJ Tx 8 (UN Tx 8)
theorem Zj2 (Tx:ZD K mg t):Zv P w K mg base (Yn P w) 44 t.Zac t.Zad ["self","one","other"] (Zdo t K 8 t.YH .both):=ZrK Tx 8 (UN Tx 8)
theorem Zj3 (Tx:ZD K mg t):Zv P w K mg base (Yn P w) 44 t.Q4 t.Q5 ["self","bits"] (ZjV t K):=(ZrF Tx).mono (by omega)
theorem Zj4 (Tx:ZD K mg t):Zv P w K mg base (Yn P w) 44 t.Q8 t.Q9 ["self","length","starts"] (ZjW t K):=(ZrG Tx).mono (by omega)
def ZrL (K:W.Frag):Sp:=fun vs H Q _=>∃ (p:Addr) (ss:List Nat),vs=[.ref p]∧Zi K H p (ZR ss)∧ss.length≤12∧(∀ x∈ss,x≤9999)∧∀ H',Zt H H'→Q (.str (X0 ss)) H'
theorem Zj5 (Tx:ZD K mg t):Zv P w K mg base Zx 1 t.Zel t.Zem ["numbers"] (ZrL K):=by
 refine Tx.Zfs.ok Zod (fun vs H Q E h=>?_) (fun cdv A outer s H vs Q E hr h=>?_)
 ·obtain ⟨p,ss,rfl,_⟩:=h
  rfl
 obtain ⟨p,ss,rfl,hp,l12,al,q⟩:=h
 refine Za _ (Zj (Zw (Xu PySem.F.plainAttrs_str PySem.F.slot_str_join PySem.F.type_str_join U2 Zn (Zb (WZ (cl:=[]) (N:=["number"]) (fr:=[none]) rfl (Zk5 (pv 0)) rfl (by decide +kernel) rfl (by decide +kernel) trivial trivial rfl (fun _ _ _ _ _=>(Y6 (i:=0) (show List.Nodup (["number"]:List Str) by decide +kernel) rfl (Or.inl rfl))) (fun _ _ _ _ _=>Wi) (fun _ _ _ _ _=>(YU Vk rfl Tx.W7 W4 (Zb (pv 0) Zc)))) Zc)))) ?_
 have hln:(ZR ss).length=ss.length:=List.length_map ..
 refine ⟨rfl,Za _ rfl (ZE p rfl ⟨_,hp⟩ (Zmr (K:=K) (a:=p) (xs:=ZR ss) (fun i acc σ H'=>H'=H∧acc=((ss.take i).map Yi).map V.str∧∃ v,σ=[v]) ⟨rfl,rfl,_,rfl⟩
  (by rw [hln];exact Nat.le_trans l12 (by decide)) (fun i acc σ H' _ ⟨e,_⟩=>by rw [e];exact hp) ?_ ?_))⟩
 ·rintro i x acc σ H' ha hx ⟨rfl,e,v,rfl⟩
  rw [List.getElem?_map] at hx
  cases hs:ss[i]? with
  | none=>rw [hs] at hx;cases hx
  | some m =>
   rw [hs] at hx
   obtain rfl:V.int ((m:Nat):Int)=x:=Option.some.inj hx
   have hm:=al m (List.mem_of_getElem? hs)
   dsimp only [Xs,X7]
   rw [if_pos rfl]
   refine Za _ rfl ⟨_,rfl,Vv (by omega),?_,rfl,?_,_,rfl⟩
   ·rw [List.length_append,List.length_singleton];omega
   ·rw [e,List.take_add_one,hs]
    simp [Yi]
 ·rintro acc σ H' ha ⟨rfl,e,v,rfl⟩ p2 hp2
  rw [hln,List.take_length] at e
  refine YJ _ p2 (ss.map Yi) rfl rfl (Zm.of (by rw [Zf,e])) (ZbF (m:=0) (by decide +kernel) (by rw [List.length_map];omega) (fun x hx=>?_)) (q _ (Zr hp2 _))
  obtain ⟨n,hn,rfl⟩:=List.mem_map.mp hx
  exact Nat.le_trans (QY (by have:=al n hn;omega)) (by decide)
def X6 (c:RC) (K:W.Frag) (q:RT→Prop) (n:Nat):Sp:=fun vs H Q _=>∃ (a:Addr) (r:RT),vs=[.ref a]∧ZM c K H a r∧q r∧r.good∧r.weight≤1000∧r.depth≤n∧∀ p H',Zt H H'→H p=none→H' p=some (.lst (r.words.map V.str))→Q (.ref p) H'
structure QL (P:Program) (w:World) (K:W.Frag) (mg:Str→Option Value) (base:Heap) (t:YX) (n:Nat):Prop where
 rule:Zv P w K mg base Zx (n+3) t.Zb5 t.Zb6 ["self"] (X6 (rc t) K Zau n)
 week:Zv P w K mg base Zx (n+3) t.Zcb t.Zcc ["self"] (X6 (rc t) K Zav n)
 span:Zv P w K mg base Zx (n+3) t.Zch t.Zci ["self"] (X6 (rc t) K QF n)
 each:Zv P w K mg base Zx (n+3) t.Zcn t.Zco ["self"] (X6 (rc t) K Zaw n)
 either:Zv P w K mg base Zx (n+3) t.Zct t.Zcu ["self"] (X6 (rc t) K QG n)
 both:Zv P w K mg base Zx (n+3) t.Zcz t.ZcA ["self"] (X6 (rc t) K QH n)
 but:Zv P w K mg base Zx (n+3) t.ZcF t.ZcG ["self"] (X6 (rc t) K QI n)
theorem QL.at {n:Nat} (R:QL P w K mg base t n) (Tx:ZD K mg t) {H:Hp} {a:Addr} {r:RT} (h:ZM (rc t) K H a r) (g:r.good) (hw:r.weight≤1000) (hn:r.depth≤n) :
  ∃ (C dx:Addr) (fs:List (Str×V)) (f:Addr) (fd:FuncData) (sp:Sp),H a=some (.ins C dx fs)∧fs.lookup ("words" : Str)=none∧YK K C∧Z1 K C "words" f∧Zv P w K mg base Zx (n+3) f fd ["self"] sp∧ZL K fd ["self"] [] ∧
   ∀ (Q:VK),(∀ p H',Zt H H'→H p=none→H' p=some (.lst (r.words.map V.str))→Q (.ref p) H')→sp [.ref a] H Q E0:=by
 cases h with
 | always h=>exact ⟨_,_,_,_,_,_,h,rfl,Tx.Zan,Tx.ZpB,R.rule,Tx.Zo0,fun Q q=>(Xf a _ rfl (.always h) trivial g hw hn q)⟩
 | week h hb=>exact ⟨_,_,_,_,_,_,h,rfl,Tx.WQ,Tx.ZpG,R.week,Tx.Zo5,fun Q q=>(Xf a _ rfl (.week h hb) trivial g hw hn q)⟩
 | span h hx hy hi=>exact ⟨_,_,_,_,_,_,h,rfl,Tx.Y3,Tx.ZpM,R.span,Tx.Zpa,fun Q q=>(Xf a _ rfl (.span h hx hy hi) trivial g hw hn q)⟩
 | each h h1 h2 hp=>exact ⟨_,_,_,_,_,_,h,rfl,Tx.XT,Tx.ZpS,R.each,Tx.Zpg,fun Q q=>(Xf a _ rfl (.each h h1 h2 hp) trivial g hw hn q)⟩
 | either h hi hj=>exact ⟨_,_,_,_,_,_,h,rfl,Tx.Xn,Tx.ZpY,R.either,Tx.Zpl,fun Q q=>(Xf a _ rfl (.either h hi hj) trivial g hw hn q)⟩
 | both h hi hj=>exact ⟨_,_,_,_,_,_,h,rfl,Tx.Xo,Tx.Zp4,R.both,Tx.Zpq,fun Q q=>(Xf a _ rfl (.both h hi hj) trivial g hw hn q)⟩
 | but h hp hi=>exact ⟨_,_,_,_,_,_,h,rfl,Tx.XA,Tx.Zqa,R.but,Tx.Zpv,fun Q q=>(Xf a _ rfl (.but h hp hi) trivial g hw hn q)⟩
theorem Zj6 (Tx:ZD K mg t) (n:Nat):Zv P w K mg base Zx (n+3) t.Zb5 t.Zb6 ["self"] (X6 (rc t) K Zau n):=by
 refine Tx.ZoZ.ok Zoo (fun vs H Q E h=>?_) (fun cdv A outer s H vs Q E hr h=>?_)
 ·obtain ⟨a,r,rfl,_⟩:=h
  rfl
 obtain ⟨a,r,rfl,h,hq,g,hw,hn,q⟩:=h
 refine Za _ (Zj (Zw (ZW (Zb Zn Zc)))) ?_
 cases h with
 | always h=>exact ⟨by show 1≤sizeLine;decide,fun p hp=>q p _ (Zr hp _) hp Zf⟩
 | _=>exact hq.elim
theorem Zj7 (Tx:ZD K mg t) (n:Nat):Zv P w K mg base Zx (n+3) t.Zcb t.Zcc ["self"] (X6 (rc t) K Zav n):=by
 refine Tx.Zo4.ok Zor (fun vs H Q E h=>?_) (fun cdv A outer s H vs Q E hr h=>?_)
 ·obtain ⟨a,r,rfl,_⟩:=h
  rfl
 obtain ⟨a,r,rfl,h,hq,g,hw,hn,q⟩:=h
 refine Za _ (Zj (Zw (ZW (Zb Zn (Zb (Xu PySem.F.plainAttrs_str PySem.F.slot_str_join PySem.F.type_str_join U2 Zn (Zb (WZ (cl:=[(Str.ofString "self",s.heap.objs.size+1)]) (N:=["day","self"]) (fr:=[none,some 0]) rfl (QO rfl Tx.Zag (Zb (YV rfl Tx.Zfp) Zc)) rfl (by decide +kernel) rfl (by decide +kernel) ⟨⟨rfl,Or.inl rfl,Or.inl rfl,Za _ rfl rfl⟩,trivial⟩ ⟨rfl,trivial⟩ rfl (fun _ _ _ _ _=>(Y6 (i:=0) (show List.Nodup (["day","self"]:List Str) by decide +kernel) rfl (Or.inl rfl))) (fun _ _ _ _ _=>Wi) (fun _ _ _ _ _=>(Zdz (Yx (ZlD (pv 1) Tx.WQ Tx.Zjo (ZfL Tx 1) (hr.mono (by omega)) Tx.Zi6 .nil Zp (Zb (pv 0) Zc))) Zn Zn))) Zc)) Zc))))) ?_
 cases h with
 | week h hb =>
  rename_i dx b
  refine ⟨rfl,WN _ rfl (by decide) (by decide) (ZdR (n:=7) (fun i acc σ H'=>H'=H∧acc=((List.range i).map (X1 b)).map V.str∧∃ v,σ=[v,some (.ref a)]) ⟨rfl,rfl,_,rfl⟩ (by decide) ?_ ?_)⟩
  ·rintro i acc σ H' hi ha ⟨rfl,e,v,rfl⟩
   have ed:V.int (0+((i:Nat):Int))=V.int ((i:Nat):Int):=congrArg V.int (by omega)
   dsimp only [Xs,X7]
   rw [if_pos rfl,ed]
   refine Za _ rfl (Xc a dx _ rfl h rfl (Za _ rfl (YJ a (.week b) i rfl (.week h hb) trivial (by show 1≤1;decide) (Za _ rfl ?_))))
   have le:(acc++[V.str (X1 b i)]).length≤i+1:=by rw [List.length_append,List.length_singleton];omega
   have ex:acc++[V.str (X1 b i)]=((List.range (i+1)).map (X1 b)).map V.str:=by
    rw [e,List.range_succ]
    simp
   cases c:(RT.week b).runs i with
   | true =>
    have eb:X1 b i=Str.ofString "1" := by unfold X1;rw [c];rfl
    rw [eb] at le ex
    exact Zy rfl ⟨le,rfl,ex,_,rfl⟩
   | false =>
    have eb:X1 b i=Str.ofString "0" := by unfold X1;rw [c];rfl
    rw [eb] at le ex
    exact Zh (by decide) ⟨le,rfl,ex,_,rfl⟩
  ·rintro acc σ H' ha ⟨rfl,e,v,rfl⟩ p2 hp2
   have s2:=Zr hp2 (.lst acc)
   refine ⟨_,p2,(List.range 7).map (X1 b),rfl,rfl,Zm.of (by rw [Zf,e]),ZbF (m:=0) (by decide +kernel) (by rw [List.length_map,List.length_range];decide) (fun x hx=>?_),by show 2≤sizeLine;decide,fun p hp=>?_⟩
   ·obtain ⟨d,_,rfl⟩:=List.mem_map.mp hx
    unfold X1
    split <;> decide +kernel
   ·exact q p _ (s2.trans (Zr hp _)) (s2.free hp) Zf
 | _=>exact hq.elim
theorem Zj8 (Tx:ZD K mg t) (n:Nat):Zv P w K mg base Zx (n+3) t.Zcn t.Zco ["self"] (X6 (rc t) K Zaw n):=by
 refine Tx.Zpf.ok Zov (fun vs H Q E h=>?_) (fun cdv A outer s H vs Q E hr h=>?_)
 ·obtain ⟨a,r,rfl,_⟩:=h
  rfl
 obtain ⟨a,r,rfl,h,hq,g,hw,hn,q⟩:=h
 refine Za _ (Zj (Zw (ZW (Zb Zn (Zb (YU Vk rfl Tx.W7 W4 (Zb (Z7 (pv 0) rfl) Zc)) (Zb (Zo (Zj5 Tx) (hr.mono (by omega)) rfl Tx.ZiE Tx.Zfs.kp Tx.ZiF .nil Zp (Zb (Z7 (pv 0) rfl) Zc)) Zc)))))) ?_
 cases h with
 | each h h1 h2 hp =>
  rename_i dx p m ss
  refine Za _ rfl (Ya a _ _ _ _ rfl h Tx.XT Tx.Za8 rfl (ZE _ rfl (Vv (by omega)) (Za _ rfl (Ya a _ _ _ _ rfl h Tx.XT Tx.Za9 rfl (ZX p ss rfl hp g.2.2.few (fun x hx=>by have:=(g.2.2.all x hx).2;omega) fun H1 s1=>?_)))))
  exact ⟨by show 3≤sizeLine;decide,fun p2 hp2=>q p2 _ (s1.trans (Zr hp2 _)) (s1.free hp2) Zf⟩
 | _=>exact hq.elim
theorem ZrM (Tx:ZD K mg t) (n:Nat) (R:QL P w K mg base t n):Zv P w K mg base Zx (n+1+3) t.Zch t.Zci ["self"] (X6 (rc t) K QF (n+1)):=by
 refine Tx.Zja.ok Zh9 (fun vs H Q E h=>?_) (fun cdv A outer s H vs Q E hr h=>?_)
 ·obtain ⟨a,r,rfl,_⟩:=h
  rfl
 obtain ⟨a,r,rfl,h,hq,g,hw,hn,q⟩:=h
 refine Za _ (Zj (Zw (ZB YO (ZW (Zb Zn (Zb (YU Vk rfl Tx.W7 W4 (Zb (Z7 (pv 0) rfl) Zc)) (Zb (YU Vk rfl Tx.W7 W4 (Zb (Z7 (pv 0) rfl) Zc)) Zc)))) (Xx (Z7 (pv 0) rfl))))) ?_
 cases h with
 | span h hx hy hi =>
  rename_i dx i x0 y0 r
  have ed:(RT.span x0 y0 r).depth=1+r.depth:=rfl
  have ew:(RT.span x0 y0 r).weight=1+r.weight:=rfl
  have wl:=r.words_len
  refine Za _ rfl (Ya a _ _ _ _ rfl h Tx.Y3 Tx.Za6 rfl (ZE _ rfl (Vv (by omega)) (Za _ rfl (Ya a _ _ _ _ rfl h Tx.Y3 Tx.Za7 rfl (WN _ rfl (Vv (by omega)) (by show 3≤sizeLine;decide) fun p1 g1=>?_)))))
  have s1:=Zr g1 (.lst [.str (Str.ofString "span"),.str (Yi x0),.str (Yi y0)])
  obtain ⟨C,dx2,fs,f,fd,sp,k1,k2,k3,k4,k5,k6,k7⟩:=R.at Tx (hi.same s1) g.2.2 (by omega) (by omega)
  refine Za _ rfl (Ya a _ _ _ _ rfl (s1 _ _ h) Tx.Y3 Tx.Zao rfl ⟨i,C,dx2,fs,f,fd,_,_,sp,Zx,E0,rfl,k1,k2,k3,k4,k5,hr.mono (by omega),k6,Zp,k7 _ fun p2 H2 s2 n2 e2=>?_⟩)
  refine Zk p1 p2 _ _ rfl rfl (s2 _ _ Zf) e2 ?_ fun p3 g3=>q p3 _ ((s1.trans s2).trans (Zr g3 _)) ((s1.trans s2).free g3) (by rw [Zf];rfl)
  rw [List.length_map]
  exact Nat.le_trans (show 3+r.words.length≤4000 by omega) (by decide)
 | _=>exact hq.elim
theorem ZrN (Tx:ZD K mg t) (n:Nat) (R:QL P w K mg base t n):Zv P w K mg base Zx (n+1+3) t.ZcF t.ZcG ["self"] (X6 (rc t) K QI (n+1)):=by
 refine Tx.Zjn.ok Zim (fun vs H Q E h=>?_) (fun cdv A outer s H vs Q E hr h=>?_)
 ·obtain ⟨a,r,rfl,_⟩:=h
  rfl
 obtain ⟨a,r,rfl,h,hq,g,hw,hn,q⟩:=h
 refine Za _ (Zj (Zw (ZB YO (ZW (Zb Zn (Zb (Zo (Zj5 Tx) (hr.mono (by omega)) rfl Tx.ZiE Tx.Zfs.kp Tx.ZiF .nil Zp (Zb (Z7 (pv 0) rfl) Zc)) Zc))) (Xx (Z7 (pv 0) rfl))))) ?_
 cases h with
 | but h hp hi =>
  rename_i dx p i ds r
  have ed:(RT.but ds r).depth=1+r.depth:=rfl
  have ew:(RT.but ds r).weight=1+r.weight:=rfl
  have wl:=r.words_len
  refine Za _ rfl (Ya a _ _ _ _ rfl h Tx.XA Tx.Zba rfl (ZX p ds rfl hp g.1.few (fun x hx=>(g.1.all x hx).2) fun H0 s0=>⟨by show 2≤sizeLine;decide,fun p1 g1=>?_⟩))
  have s1:=s0.trans (Zr g1 (.lst [.str (Str.ofString "but"),.str (X0 ds)]))
  obtain ⟨C,dx2,fs,f,fd,sp,k1,k2,k3,k4,k5,k6,k7⟩:=R.at Tx (hi.same s1) g.2 (by omega) (by omega)
  refine Za _ rfl (Ya a _ _ _ _ rfl (s1 _ _ h) Tx.XA Tx.Zat rfl ⟨i,C,dx2,fs,f,fd,_,_,sp,Zx,E0,rfl,k1,k2,k3,k4,k5,hr.mono (by omega),k6,Zp,k7 _ fun p2 H2 s2 n2 e2=>?_⟩)
  refine Zk p1 p2 _ _ rfl rfl (s2 _ _ Zf) e2 ?_ fun p3 g3=>q p3 _ ((s1.trans s2).trans (Zr g3 _)) ((s1.trans s2).free g3) (by rw [Zf];rfl)
  rw [List.length_map]
  exact Nat.le_trans (show 2+r.words.length≤4000 by omega) (by decide)
 | _=>exact hq.elim
theorem ZrO (Tx:ZD K mg t) (n:Nat) (R:QL P w K mg base t n):Zv P w K mg base Zx (n+1+3) t.Zct t.Zcu ["self"] (X6 (rc t) K QG (n+1)):=by
 refine Tx.Zjf.ok Zie (fun vs H Q E h=>?_) (fun cdv A outer s H vs Q E hr h=>?_)
 ·obtain ⟨a,r,rfl,_⟩:=h
  rfl
 obtain ⟨a,r,rfl,h,hq,g,hw,hn,q⟩:=h
 refine Za _ (Zj (Zw (ZB YO (ZB YO (ZW (Zb Zn Zc)) (Xx (Z7 (pv 0) rfl))) (Xx (Z7 (pv 0) rfl))))) ?_
 cases h with
 | either h hi hj =>
  rename_i dx i j r r2
  have ed:(RT.either r r2).depth=1+max r.depth r2.depth:=rfl
  have ew:(RT.either r r2).weight=1+(r.weight+r2.weight):=rfl
  have wl:=r.words_len
  have wl2:=r2.words_len
  refine ⟨by show 1≤sizeLine;decide,fun p1 g1=>?_⟩
  have s1:=Zr g1 (.lst [.str (Str.ofString "either")])
  obtain ⟨C,dx2,fs,f,fd,sp,k1,k2,k3,k4,k5,k6,k7⟩:=R.at Tx (hi.same s1) g.1 (by omega) (by omega)
  refine Za _ rfl (Ya a _ _ _ _ rfl (s1 _ _ h) Tx.Xn Tx.Zap rfl ⟨i,C,dx2,fs,f,fd,_,_,sp,Zx,E0,rfl,k1,k2,k3,k4,k5,hr.mono (by omega),k6,Zp,k7 _ fun p2 H2 s2 n2 e2=>?_⟩)
  refine Zk p1 p2 _ _ rfl rfl (s2 _ _ Zf) e2 ?_ fun p3 g3=>?_
  ·rw [List.length_map]
   exact Nat.le_trans (show 1+r.words.length≤4000 by omega) (by decide)
  have s3:=(s1.trans s2).trans (Zr g3 (.lst ([.str (Str.ofString "either")]++r.words.map V.str)))
  obtain ⟨C,dx2,fs,f,fd,sp,k1,k2,k3,k4,k5,k6,k7⟩:=R.at Tx (hj.same s3) g.2 (by omega) (by omega)
  refine Za _ rfl (Ya a _ _ _ _ rfl (s3 _ _ h) Tx.Xn Tx.Zaq rfl ⟨j,C,dx2,fs,f,fd,_,_,sp,Zx,E0,rfl,k1,k2,k3,k4,k5,hr.mono (by omega),k6,Zp,k7 _ fun p4 H4 s4 n4 e4=>?_⟩)
  refine Zk p3 p4 _ _ rfl rfl (s4 _ _ Zf) e4 ?_ fun p5 g5=>q p5 _ ((s3.trans s4).trans (Zr g5 _)) ((s3.trans s4).free g5) ?_
  ·rw [List.length_append,List.length_map,List.length_map]
   exact Nat.le_trans (show [V.str (Str.ofString "either")].length+r.words.length+r2.words.length≤7000 by rw [List.length_singleton];omega) (by decide)
  ·rw [Zf]
   show some (HO.lst ([V.str (Str.ofString "either")]++r.words.map V.str++r2.words.map V.str))=some (.lst (([Str.ofString "either"]++r.words++r2.words).map V.str))
   rw [List.map_append,List.map_append]
   rfl
 | _=>exact hq.elim
theorem ZrP (Tx:ZD K mg t) (n:Nat) (R:QL P w K mg base t n):Zv P w K mg base Zx (n+1+3) t.Zcz t.ZcA ["self"] (X6 (rc t) K QH (n+1)):=by
 refine Tx.Zjj.ok Zii (fun vs H Q E h=>?_) (fun cdv A outer s H vs Q E hr h=>?_)
 ·obtain ⟨a,r,rfl,_⟩:=h
  rfl
 obtain ⟨a,r,rfl,h,hq,g,hw,hn,q⟩:=h
 refine Za _ (Zj (Zw (ZB YO (ZB YO (ZW (Zb Zn Zc)) (Xx (Z7 (pv 0) rfl))) (Xx (Z7 (pv 0) rfl))))) ?_
 cases h with
 | both h hi hj =>
  rename_i dx i j r r2
  have ed:(RT.both r r2).depth=1+max r.depth r2.depth:=rfl
  have ew:(RT.both r r2).weight=1+(r.weight+r2.weight):=rfl
  have wl:=r.words_len
  have wl2:=r2.words_len
  refine ⟨by show 1≤sizeLine;decide,fun p1 g1=>?_⟩
  have s1:=Zr g1 (.lst [.str (Str.ofString "both")])
  obtain ⟨C,dx2,fs,f,fd,sp,k1,k2,k3,k4,k5,k6,k7⟩:=R.at Tx (hi.same s1) g.1 (by omega) (by omega)
  refine Za _ rfl (Ya a _ _ _ _ rfl (s1 _ _ h) Tx.Xo Tx.Zar rfl ⟨i,C,dx2,fs,f,fd,_,_,sp,Zx,E0,rfl,k1,k2,k3,k4,k5,hr.mono (by omega),k6,Zp,k7 _ fun p2 H2 s2 n2 e2=>?_⟩)
  refine Zk p1 p2 _ _ rfl rfl (s2 _ _ Zf) e2 ?_ fun p3 g3=>?_
  ·rw [List.length_map]
   exact Nat.le_trans (show 1+r.words.length≤4000 by omega) (by decide)
  have s3:=(s1.trans s2).trans (Zr g3 (.lst ([.str (Str.ofString "both")]++r.words.map V.str)))
  obtain ⟨C,dx2,fs,f,fd,sp,k1,k2,k3,k4,k5,k6,k7⟩:=R.at Tx (hj.same s3) g.2 (by omega) (by omega)
  refine Za _ rfl (Ya a _ _ _ _ rfl (s3 _ _ h) Tx.Xo Tx.Zas rfl ⟨j,C,dx2,fs,f,fd,_,_,sp,Zx,E0,rfl,k1,k2,k3,k4,k5,hr.mono (by omega),k6,Zp,k7 _ fun p4 H4 s4 n4 e4=>?_⟩)
  refine Zk p3 p4 _ _ rfl rfl (s4 _ _ Zf) e4 ?_ fun p5 g5=>q p5 _ ((s3.trans s4).trans (Zr g5 _)) ((s3.trans s4).free g5) ?_
  ·rw [List.length_append,List.length_map,List.length_map]
   exact Nat.le_trans (show [V.str (Str.ofString "both")].length+r.words.length+r2.words.length≤7000 by rw [List.length_singleton];omega) (by decide)
  ·rw [Zf]
   show some (HO.lst ([V.str (Str.ofString "both")]++r.words.map V.str++r2.words.map V.str))=some (.lst (([Str.ofString "both"]++r.words++r2.words).map V.str))
   rw [List.map_append,List.map_append]
   rfl
 | _=>exact hq.elim
theorem ZfU (Tx:ZD K mg t):∀ n,QL P w K mg base t n
 | 0=>by
  have no:∀ {q:RT→Prop},∀ vs H Q E,X6 (rc t) K q 0 vs H Q E→False:=fun vs H Q E h=>by
   obtain ⟨a,r,rfl,h,hq,g,hw,hn,_⟩:=h
   have:=r.depth_pos
   omega
  exact ⟨Zj6 Tx 0,Zj7 Tx 0,Tx.Zja.ok Zh9 (fun vs H Q E h=>(no vs H Q E h).elim) (fun cdv A outer s H vs Q E hr h=>(no vs H Q E h).elim),Zj8 Tx 0,Tx.Zjf.ok Zie (fun vs H Q E h=>(no vs H Q E h).elim) (fun cdv A outer s H vs Q E hr h=>(no vs H Q E h).elim),Tx.Zjj.ok Zii (fun vs H Q E h=>(no vs H Q E h).elim) (fun cdv A outer s H vs Q E hr h=>(no vs H Q E h).elim),Tx.Zjn.ok Zim (fun vs H Q E h=>(no vs H Q E h).elim) (fun cdv A outer s H vs Q E hr h=>(no vs H Q E h).elim)⟩
 | n+1=>have R:=ZfU Tx n
  ⟨Zj6 Tx (n+1),Zj7 Tx (n+1),ZrM Tx n R,Zj8 Tx (n+1),ZrO Tx n R,ZrP Tx n R,ZrN Tx n R⟩
abbrev wS (w:List Nat):V:=.str ⟨w.toArray⟩
def Xa (ws:List (List Nat)):List V:=(ws.map wS).reverse
theorem Zj9 (w:List Nat) (r:List (List Nat)):Xa (w::r)=Xa r++[wS w]:=by unfold Xa;rw [List.map_cons,List.reverse_cons]
theorem Zka (ws:List (List Nat)):(Xa ws).length=ws.length:=by unfold Xa;rw [List.length_reverse,List.length_map]
def Kp (l:Addr) (H H':Hp):Prop:=∀ a o,a≠l→H a=some o→H' a=some o
theorem Kp.of {l:Addr} {H H':Hp} (s:Zt H H'):Kp l H H':=fun a o _ e=>s a o e
theorem Kp.trans {l:Addr} {H H1 H2:Hp} (a:Kp l H H1) (b:Kp l H1 H2):Kp l H H2:=fun x o n e=>b x o n (a x o n e)
theorem Kp.upd (l:Addr) (H:Hp) (o:HO):Kp l H (upd H l o):=fun a u n e=>by rw [ZO n];exact e
theorem ZM.kp {c:RC} {K:W.Frag} {l:Addr} {ys:List V} {H H':Hp} (hl:H l=some (.lst ys)) (k:Kp l H H') {a:Addr} {r:RT} (h:ZM c K H a r):ZM c K H' a r:=by
 have q:∀ {x C dx fs},H x=some (.ins C dx fs)→H' x=some (.ins C dx fs):=fun {x C dx fs} e=>k _ _ (fun z=>by rw [z,hl] at e;cases e) e
 have qt:∀ {p xs},Zi K H p xs→Zi K H' p xs:=fun {p xs} e=>e.imp (fun r=>r.imp (fun e=>k _ _ (fun z=>by rw [z,hl] at e;cases e) e) (fun ⟨o,e⟩=>⟨o,k _ _ (fun z=>by rw [z,hl] at e;cases e) e⟩)) id
 induction h with
 | always h=>exact .always (q h)
 | week h hb=>exact .week (q h) hb
 | span h hx hy _ ih=>exact .span (q h) hx hy ih
 | each h hn hn2 hp=>exact .each (q h) hn hn2 (qt hp)
 | either h _ _ i1 i2=>exact .either (q h) i1 i2
 | both h _ _ i1 i2=>exact .both (q h) i1 i2
 | but h hp _ ih=>exact .but (q h) (qt hp) ih
def XC (ws:List (List Nat)):Prop:=ws.length≤100000∧∀ w∈ws,w.length≤100000
theorem XC.tail {w:List Nat} {r:List (List Nat)} (h:XC (w::r)):XC r:=⟨by have:=h.1;rw [List.length_cons] at this;omega,fun x hx=>h.2 x (List.mem_cons_of_mem _ hx)⟩
def ZrQ (t:YX):Sp:=fun vs H Q E=>∃ (l:Addr) (ws:List (List Nat)),vs=[.ref l]∧H l=some (.lst (Xa ws))∧XC ws∧(∀ w r,ws=w::r→Q (wS w) (upd H l (.lst (Xa r))))∧(ws=[]→E (.ref t.Z0) none H)
theorem Zbe (Tx:ZD K mg t):Zv P w K mg base (Yn P w) 1 t.Zer t.Zes ["left"] (ZrQ t):=by
 refine Tx.Zaj.okX Zof (fun vs H Q E h=>?_) (fun cdv A outer s H vs Q E hr h=>?_)
 ·obtain ⟨l,ws,rfl,_⟩:=h
  rfl
 obtain ⟨l,ws,rfl,hl,ok,q,e⟩:=h
 refine Za _ (Zl (ZG (ZI ZZ (Z4 WX rfl Tx.XR XQ (Zb (pv 0) Zc)) Ze (ZH _))
  (Zj (Xk Xj Tx.XB rfl rfl Tx.Xp (Zb Zn Zc)))
  ZF)
  (Zj (Zw (ZlW PySem.F.plainAttrs_list PySem.F.slot_list_pop PySem.F.type_list_pop ZlZ (pv 0))))) ?_
 refine Za _ rfl (ZV l (Xa ws) rfl (.inl (Zm.of hl)) rfl (Za _ rfl ?_))
 cases ws with
 | nil=>exact Zy (by decide) ⟨by show 1≤sizeLine;decide,e rfl⟩
 | cons w r =>
  refine Zh (by rw [decide_eq_false (by intro z;have z2:=V.int.inj z;rw [Zka,List.length_cons] at z2;omega)];decide) ?_
  refine ZE _ rfl (.inl ⟨rfl,_,Zm.of hl⟩) (YJ l (Xa (w::r)) (wS w) rfl rfl hl ?_ ?_)
  ·rw [Zj9,List.length_append,List.length_singleton,Nat.add_sub_cancel,List.getElem?_append_right (Nat.le_refl _),Nat.sub_self]
   rfl
  ·rw [Zj9,List.dropLast_concat]
   exact q w r rfl
def ZrR (t:YX):Sp:=fun vs H Q E=>∃ (l:Addr) (ws:List (List Nat)),vs=[.ref l]∧H l=some (.lst (Xa ws))∧XC ws∧(∀ w r,ws=w::r→∀ H',Zt (upd H l (.lst (Xa r))) H'→Q (YF (Yb w)) H')∧(ws=[]→E (.ref t.Z0) none H)
theorem Qb {w:List Nat} (h:w.length≤100000):(⟨w.toArray⟩:Str).length≤sizeLine:=by
 show w.toArray.size≤sizeLine
 rw [List.size_toArray]
 exact Nat.le_trans h (by decide)
theorem Zay (Tx:ZD K mg t):Zv P w K mg base (Yn P w) 3 t.Zet t.Zeu ["left"] (ZrR t):=by
 refine Tx.Qx.okX Zog (fun vs H Q E h=>?_) (fun cdv A outer s H vs Q E hr h=>?_)
 ·obtain ⟨l,ws,rfl,_⟩:=h
  rfl
 obtain ⟨l,ws,rfl,hl,ok,q,e⟩:=h
 refine Za _ (Zj (Zw (Zo (Zju Tx) (hr.mono (by omega)) rfl Tx.ZiC Tx.Zfr.kp Tx.ZiD .nil Zp (Zb (Zo (Zbe Tx) (hr.mono (by omega)) rfl Tx.Za0 Tx.Zaj.kp Tx.Za1 .nil Z6 (Zb (pv 0) Zc)) Zc)))) ?_
 refine Za _ rfl (ZX l ws rfl hl ok (fun w r ew=>ZE ⟨w.toArray⟩ rfl (Qb (ok.2 w (by rw [ew];exact List.mem_cons_self))) fun H' s'=>?_) e)
 exact q w r ew H' s'
theorem Zaz (c:Nat):∀ (l:List Nat),∀ p∈spl c l,p.length≤l.length
 | [],p,hp=>by
  have:p=[]:=by simpa [spl] using hp
  rw [this]
  exact Nat.le_refl _
 | x::r,p,hp=>by
  unfold spl at hp
  by_cases h:x=c
  ·rw [if_pos h] at hp
   rcases List.mem_cons.mp hp with rfl | hp
   ·exact Nat.zero_le _
   ·exact Nat.le_succ_of_le (Zaz c r p hp)
  ·rw [if_neg h] at hp
   cases q:spl c r with
   | nil=>exact absurd q (UY c r)
   | cons w ws =>
    rw [q] at hp
    rcases List.mem_cons.mp hp with rfl | hp
    ·have:=Zaz c r w (by rw [q];exact List.mem_cons_self)
     rw [List.length_cons,List.length_cons]
     omega
    ·exact Nat.le_succ_of_le (Zaz c r p (by rw [q];exact List.mem_cons_of_mem _ hp))
theorem XC.spl {l:List Nat} {c:Nat} (h:l.length+1≤100000):XC (L2.spl c l):=⟨Nat.le_trans (Zbz c l) h,fun w hw=>Nat.le_trans (Zaz c l w hw) (by omega)⟩
def ZrS (t:YX):Sp:=fun vs H Q E=>∃ (l:Addr) (ws:List (List Nat)),vs=[.ref l]∧H l=some (.lst (Xa ws))∧XC ws∧(∀ w r,ws=w::r→∀ p H',Zt (upd H l (.lst (Xa r))) H'→H p=none→H' p=some (.lst ((XN w).map YF))→Q (.ref p) H')∧(ws=[]→E (.ref t.Z0) none H)
theorem Zdp (Tx:ZD K mg t):Zv P w K mg base (Yn P w) 3 t.Zev t.Zew ["left"] (ZrS t):=by
 refine Tx.Za2.okX Zoh (fun vs H Q E h=>?_) (fun cdv A outer s H vs Q E hr h=>?_)
 ·obtain ⟨l,ws,rfl,_⟩:=h
  rfl
 obtain ⟨l,ws,rfl,hl,ok,q,e⟩:=h
 refine Za _ (Zj (Zw (WZ (cl:=[]) (N:=["part"]) (fr:=[none]) rfl (WD (Xu PySem.F.plainAttrs_str PySem.F.slot_str_split PySem.F.type_str_split ZaH (Zo (Zbe Tx) (hr.mono (by omega)) rfl Tx.Za0 Tx.Zaj.kp Tx.Za1 .nil Z6 (Zb (pv 0) Zc)) (Zb Zn Zc))) rfl (by decide +kernel) rfl (by decide +kernel) trivial trivial rfl (fun _ _ _ _ _=>(Y6 (i:=0) (show List.Nodup (["part"]:List Str) by decide +kernel) rfl (Or.inl rfl))) (fun _ _ _ _ _=>Wi) (fun _ _ _ _ _=>(Zo (Zju Tx) (hr.mono (by omega)) rfl Tx.ZiC Tx.Zfr.kp Tx.ZiD .nil Zp (Zb (pv 0) Zc)))))) ?_
 refine Za _ rfl (ZX l ws rfl hl ok (fun w r ew=>?_) e)
 have lw:=ok.2 w (by rw [ew];exact List.mem_cons_self)
 have hn:(L2.spl 44 w).length≤100001:=Nat.le_trans (Zbz 44 w) (by omega)
 have fit:(⟨w.toArray⟩:Str).length+2≤sizeLine:=by
  show w.toArray.size+2≤sizeLine
  rw [List.size_toArray]
  exact Nat.le_trans (Nat.add_le_add_right lw 2) (by decide)
 refine ⟨rfl,ZV ⟨w.toArray⟩ 44 rfl (by rw [ZbK]) fit fun p hp=>?_⟩
 have pl:p≠l:=fun z=>by rw [z,Zf] at hp;cases hp
 have hp0:H p=none:=by rw [← hp,ZO pl]
 have es:(⟨w.toArray⟩:Str).cps.toList=w:=rfl
 have hl1:((L2.spl 44 w).map wS).length=(L2.spl 44 w).length:=List.length_map ..
 rw [es]
 refine ZE p rfl ⟨_,Zm.of Zf⟩ (UX (K:=K) (a:=p) (xs:=(L2.spl 44 w).map wS) (fun i acc σ H'=>Zt (upd (upd H l (.lst (Xa r))) p (.lst ((L2.spl 44 w).map wS))) H'∧acc=(((L2.spl 44 w).take i).map fun x=>YF (Yb x))∧∃ v,σ=[v])
  ⟨Zt.refl _,rfl,_,rfl⟩ (by rw [hl1];exact Nat.le_trans hn (by decide)) (fun i acc σ H' _ ⟨s',_⟩=>Zm.of (s' _ _ Zf)) ?_ ?_)
 ·rintro i x acc σ H' ha hx ⟨s',e',v,rfl⟩
  rw [List.getElem?_map] at hx
  cases hs:(L2.spl 44 w)[i]? with
  | none=>rw [hs] at hx;cases hx
  | some y =>
   rw [hs] at hx
   obtain rfl:wS y=x:=Option.some.inj hx
   have ly:=Zaz 44 w y (List.mem_of_getElem? hs)
   dsimp only [Xs,X7]
   rw [if_pos rfl]
   refine Za _ rfl (ZE ⟨y.toArray⟩ rfl (Qb (Nat.le_trans ly lw)) fun H3 s3=>⟨?_,s'.trans s3,?_,_,rfl⟩)
   ·rw [List.length_append,List.length_singleton];omega
   ·rw [e',List.take_add_one,hs]
    simp
 ·rintro acc σ H' ha ⟨s',e',v,rfl⟩ p3 g3
  rw [hl1,List.take_length] at e'
  have g3':H p3=none:=by
   have z:=s'.free g3
   have n1:p3≠p:=fun y=>by rw [y,Zf] at z;cases z
   rw [ZO n1] at z
   have n2:p3≠l:=fun y=>by rw [y,Zf] at z;cases z
   rw [ZO n2] at z
   exact z
  refine q w r ew p3 _ (((Zr hp _).trans s').trans (Zr g3 _)) g3' ?_
  rw [Zf,e']
  unfold XN
  rw [List.map_map]
  rfl
theorem Zkb (c:Nat):∀ l:List Nat,bv (l++[c])=bv l+(c - 48) * 2 ^ l.length
 | []=>by simp [bv]
 | x::r=>by
  show (x - 48)+2 * bv (r++[c])=(x - 48)+2 * bv r+(c - 48) * 2 ^ (r.length+1)
  rw [Zkb c r,Nat.pow_succ]
  generalize bv r=B
  generalize 2 ^ r.length=Z
  rw [show (c - 48) * (Z * 2)=2 * ((c - 48) * Z) by rw [← Nat.mul_assoc,Nat.mul_comm]]
  omega
theorem Zkc (c:Nat):XX (.str ⟨#[c]⟩) [.str (Str.ofString "0"),.str (Str.ofString "1")]=(c == 48 || c == 49):=by
 have e0:Str.ofString "0" = ⟨#[48]⟩:=by decide +kernel
 have e1:Str.ofString "1" = ⟨#[49]⟩:=by decide +kernel
 rw [e0,e1]
 have k:∀ d:Nat,((⟨#[d]⟩:Str) == ⟨#[c]⟩)=(c == d):=fun d=>by
  rw [Bool.eq_iff_iff,beq_iff_eq,beq_iff_eq]
  constructor
  ·intro h
   have:=congrArg (fun z:Str=>z.cps.toList) h
   simp at this
   exact this.symm
  ·intro h
   rw [h]
 show ((⟨#[48]⟩:Str) == ⟨#[c]⟩ || (((⟨#[49]⟩:Str) == ⟨#[c]⟩) || false))=_
 rw [k,k,Bool.or_false]
theorem Zkd {c:Nat} (h:(c == 48 || c == 49)=true):PySem.intText? ⟨#[c]⟩=some (((c - 48:Nat)):Int):=by
 rcases (Bool.or_eq_true _ _).mp h with h | h <;> (rw [eq_of_beq h];decide +kernel)
def ZrT (t:YX):Sp:=fun vs H Q E=>∃ (l:Addr) (ws:List (List Nat)),vs=[.ref l]∧H l=some (.lst (Xa ws))∧XC ws∧(∀ w r b,ws=w::r→W1 w=some b→∀ H',Zt (upd H l (.lst (Xa r))) H'→Q (.int (b:Nat)) H') ∧
 ((ws=[]∨∃ w r,ws=w::r∧W1 w=none)→∀ H',Kp l H H'→E (.ref t.Z0) none H')
theorem Zke (Tx:ZD K mg t):Zv P w K mg base (Yn P w) 2 t.Zex t.Zey ["left"] (ZrT t):=by
 refine Tx.Zfv.okX Q1 (fun vs H Q E h=>?_) (fun cdv A outer s H vs Q E hr h=>?_)
 ·obtain ⟨l,ws,rfl,_⟩:=h
  rfl
 obtain ⟨l,ws,rfl,hl,ok,q,e⟩:=h
 refine Za _ (Zl (ZT (i:=1) Q1.nd rfl (Or.inl rfl) (Zo (Zbe Tx) (hr.mono (by omega)) rfl Tx.Za0 Tx.Zaj.kp Tx.Za1 .nil Z6 (Zb (pv 0) Zc)))
  (Zl (ZG (ZI Wt (Z4 QR rfl Tx.XR XQ (Zb (pv 1) Zc)) (YV rfl Tx.Zfp) (ZH _))
  (Zj (Xk Xj Tx.XB rfl rfl Tx.Xp (Zb Zn Zc)))
  ZF)
  (Zl (ZT (i:=2) Q1.nd rfl (Or.inl rfl) Ze)
  (Zl (Qd PassesOwn.leaving rfl (Zn0 rfl Tx.ZoC (Zb (pv 1) Zc)) (ZkW rfl (Zgh (Y6 (i:=3) Q1.nd rfl (Or.inl rfl)) (Zgh (Y6 (i:=4) Q1.nd rfl (Or.inl rfl)) ZkV)))
  (Zl (ZG (ZI ZgB (pv 4) (YM (Zb Zn (Zb Zn Zc))) rfl)
  (Zj (Xk Xj Tx.XB rfl rfl Tx.Xp (Zb Zn Zc)))
  ZF)
  (Zj (ZT (i:=2) Q1.nd rfl (Or.inl rfl) (ZB Y7 (pv 2) (ZB Zld (YU Zbx rfl Tx.ZaZ ZaN (Zb (pv 4) Zc)) (pv 3)))))))
  (Zj (Zw (pv 2))))))) ?_
 refine Za _ rfl (ZX l ws rfl hl ok (fun w r ew=>?_) fun z=>e (.inl z) _ (fun _ _ _ y=>y))
 have lw:=ok.2 w (by rw [ew];exact List.mem_cons_self)
 have bad:W1 w=none→∀ H',Zt (upd H l (.lst (Xa r))) H'→E (.ref t.Z0) none H':=fun hb H' s'=>e (.inr (WO w r ew hb)) H' ((Kp.upd l H _).trans (Kp.of s'))
 refine Za _ rfl (WN ⟨w.toArray⟩ rfl (Qb lw) rfl (Za _ rfl ?_))
 have el:(⟨w.toArray⟩:Str).length=w.length:=List.size_toArray ..
 by_cases h7:w.length=7
 rotate_left
 ·refine Zy (by rw [el,decide_eq_false (fun z=>h7 (by have:=V.int.inj z;omega))];rfl) ⟨by show 1≤sizeLine;decide,bad (if_neg fun z=>h7 z.1) _ (Zt.refl _)⟩
 refine Zh (by rw [el,h7];decide) ?_
 refine Za _ rfl (Za ⟨w.toArray⟩ rfl (Zn1 (z:=⟨w.toArray⟩) (fun i σ H'=>Zt (upd H l (.lst (Xa r))) H'∧(w.take i).all (fun c=>c == 48 || c == 49)=true∧∃ a b,σ=[some (.ref l),some (wS w),some (.int ((bv (w.take i):Nat):Int)),a,b])
  ⟨Zt.refl _,rfl,_,_,rfl⟩ ?_ ?_))
 ·rintro i c p σ H' hc hp ⟨s',ha,a,b,rfl⟩
  have hc':w[i]? = some c:=hc
  have s1:=s'.trans (Zr hp (.tup [.int (i:Nat),.str ⟨#[c]⟩]))
  dsimp only [Zgi,Zgg,Xs,Zgf]
  refine ZV p _ rfl (Zi.of Zf) rfl ?_
  refine WO _ _ rfl (ZA _ _ rfl rfl ?_)
  refine ZE _ rfl (by show 2≤sizeLine;decide) fun p1 g1=>(ZX p1 _ rfl (.inr (Zi.of Zf)) rfl rfl (Za _ rfl ?_))
  have s2:=s1.trans (Zr g1 (.tup [.str (Str.ofString "0"),.str (Str.ofString "1")]))
  have ci:c∈w:=List.mem_of_getElem? hc'
  cases h01:(c == 48 || c == 49) with
  | false =>
   refine Zy (by rw [if_pos rfl,Zkc,h01];rfl) ⟨by show 1≤sizeLine;decide,bad (if_neg fun z=>?_) _ s2⟩
   rw [List.all_eq_true.mp z.2 c ci] at h01
   cases h01
  | true =>
   refine Zh (by rw [if_pos rfl,Zkc,h01];decide) ?_
   have hi:i < w.length:=(List.getElem?_eq_some_iff.mp hc').1
   refine Za _ rfl (Za _ rfl (ZV ⟨#[c]⟩ _ rfl (Zkd h01) (by show 1≤640;decide) (Za _ rfl (ZV _ _ rfl rfl ⟨by omega,by omega,?_⟩ (ZA _ _ rfl rfl ?_)))))
   ·have:c - 48≤1:=by
     rcases (Bool.or_eq_true _ _).mp h01 with z | z <;> (rw [eq_of_beq z];decide)
    exact Nat.lt_of_le_of_lt (show (((c - 48:Nat)):Int).natAbs≤1 by rw [Int.natAbs_natCast];exact this) (by decide)
   ·refine ⟨s2,?_,some (.int ((i:Nat):Int)),some (.str ⟨#[c]⟩),?_⟩
    ·rw [List.take_add_one,hc']
     show ((w.take i)++[c]).all _=true
     rw [List.all_append,ha]
     show ((c == 48 || c == 49) && true)=true
     rw [h01]
     rfl
    ·have eb:((bv (w.take i):Nat):Int)+(((c - 48:Nat)):Int) * 2 ^ ((i:Nat):Int).toNat=((bv (w.take (i+1)):Nat):Int):=by
      rw [List.take_add_one,hc']
      show _=((bv ((w.take i)++[c]):Nat):Int)
      rw [Zkb,List.length_take,Nat.min_eq_left (Nat.le_of_lt hi),Int.natCast_add,Int.natCast_mul,Int.natCast_pow,Int.toNat_natCast]
      rfl
     rw [← eb]
     rfl
 ·rintro σ H' ⟨s',ha,a,b,rfl⟩
  have ez:w.take w.toArray.size=w:=by rw [List.size_toArray,List.take_length]
  have ez2:w.take (⟨w.toArray⟩:Str).cps.size=w:=ez
  rw [ez2] at ha ⊢
  exact Za _ rfl (q w r (bv w) ew (if_pos ⟨h7,ha⟩) _ s')
def ZrU (t:YX) (K:W.Frag) (d:Nat):Sp:=fun vs H Q E=>∃ (l:Addr) (ws:List (List Nat)),vs=[.ref l,.int (d:Nat)]∧d≤8∧H l=some (.lst (Xa ws))∧XC ws ∧
 (∀ T r,rd d ws=some (T,r)→T.weight≤15→∀ b H',Kp l H H'→H' l=some (.lst (Xa r))→ZM (rc t) K H' b T→Q (.ref b) H') ∧
 ((∀ T r,rd d ws=some (T,r)→¬ T.weight≤15)→∀ C H',(C=.ref t.Z0∨C=.ref t.Z3)→Kp l H H'→E C none H')
theorem Ys (w:List Nat) (s:String):decide (V.str (⟨w.toArray⟩:Str)=V.str (Str.ofString s))=decide (w=kw s):=ZaI
theorem XC.suf {a b:List (List Nat)} (h:XC b) (s:a <:+ b):XC a:=⟨Nat.le_trans s.length_le h.1,fun w hw=>h.2 w (s.subset hw)⟩
theorem Zdq {o:Option Nat} {n:Nat} (h:YF o=.int (n:Nat)):o=some n:=by
 cases o with
 | none=>cases h
 | some m =>
  have:((m:Nat):Int)=(n:Nat):=V.int.inj h
  rw [show m=n by omega]
theorem Zdr {H:Hp} (o:Option Nat):∃ T,Kd H (YF o) T:=by
 cases o with
 | none=>exact ⟨_,.non⟩
 | some m=>exact ⟨_,.int _⟩
theorem Zkf {H:Hp} {p:Addr} {xs:List (Option Nat)} (h:H p=some (.lst (xs.map YF))):QK H (.ref p) :=
 .inr (ZA p _ rfl h fun x hx=>by
  obtain ⟨o,_,rfl⟩:=List.mem_map.mp hx
  exact Zdr o)
theorem ZfV:∀ {xs:List (Option Nat)} {ds:List Nat},xs.map YF=ZR ds→xs=ds.map some
 | [],[],_=>rfl
 | [],_::_,h=>by cases h
 | _::_,[],h=>by cases h
 | o::r,d::q,h=>by
  have h1:=List.cons.inj h
  rw [List.map_cons,← ZfV h1.2,Zdq h1.1]
theorem ZfW (ds:List Nat):(ds.map some).map YF=ZR ds:=by rw [List.map_map];rfl
theorem ZrV (Tx:ZD K mg t):∀ d:Nat,Zv P w K mg base (Yn P w) (d+46) t.ZbU t.ZbV ["left","deep"] (ZrU t K d):=by
 intro d
 induction d with
 | zero =>
  refine Tx.XS.okX ZaK (fun vs H Q E h=>?_) (fun cdv A outer s H vs Q E hr h=>?_)
  ·obtain ⟨l,ws,rfl,_⟩:=h
   rfl
  obtain ⟨l,ws,rfl,d8,hl,ok,q,e⟩:=h
  have ih:Zv P w K mg base (Yn P w) 1 t.ZbU t.ZbV ["left","deep"] (fun _ _ _ _=>False):=Tx.XS.okX ZaK (fun _ _ _ _ z=>z.elim) (fun _ _ _ _ _ _ _ _ _ z=>z.elim)
  refine Za _ (Zl (ZG (ZI ZZ (pv 1) Ze (ZH _))
  (Zj (Xk Xj Tx.XB rfl rfl Tx.Xp (Zb Zn Zc)))
  ZF)
  (Zl (ZT (i:=2) ZaK.nd rfl (Or.inl rfl) (Zo (Zbe Tx) (hr.mono (by omega)) rfl Tx.Za0 Tx.Zaj.kp Tx.Za1 .nil Z6 (Zb (pv 0) Zc)))
  (Zl (ZG (ZI ZZ (pv 2) Zn (ZH _))
  (Zj (Zw (ZbA Tx.Zc4 rfl Tx.QE)))
  ZF)
  (Zl (ZG (ZI ZZ (pv 2) Zn (ZH _))
  (Zj (Zw (YN Tx.Zc5 (Zj3 Tx) (hr.mono (by omega)) rfl Tx.Zdd Tx.ZcY .nil Z6 (Zb (Zo (Zke Tx) (hr.mono (by omega)) rfl Tx.ZiH Tx.Zfv.kp Tx.ZiI .nil Z6 (Zb (pv 0) Zc)) Zc))))
  ZF)
  (Zl (ZG (ZI ZZ (pv 2) Zn (ZH _))
  (Zj (Zw (YN Tx.Zc7 (ZjZ Tx) (hr.mono (by omega)) rfl Tx.Zde Tx.ZcZ .nil Z6 (Zb (Zo (Zay Tx) (hr.mono (by omega)) rfl Tx.Zak Tx.Qx.kp Tx.Zal .nil Z6 (Zb (pv 0) Zc)) (Zb (Zo (Zay Tx) (hr.mono (by omega)) rfl Tx.Zak Tx.Qx.kp Tx.Zal .nil Z6 (Zb (pv 0) Zc)) (Zb (Zo ih (hr.mono (by omega)) rfl Tx.Wo Tx.XS.kp Tx.Wp .nil Z6 (Zb (pv 0) (Zb (ZB Yq (pv 1) Ze) Zc))) Zc))))))
  ZF)
  (Zl (ZG (ZI ZZ (pv 2) Zn (ZH _))
  (Zj (Zw (YN Tx.Zc8 (Zj4 Tx) (hr.mono (by omega)) rfl Tx.Zdf Tx.Zc0 .nil Z6 (Zb (Zo (Zay Tx) (hr.mono (by omega)) rfl Tx.Zak Tx.Qx.kp Tx.Zal .nil Z6 (Zb (pv 0) Zc)) (Zb (Zo (Zdp Tx) (hr.mono (by omega)) rfl Tx.ZcM Tx.Za2.kp Tx.ZcN .nil Z6 (Zb (pv 0) Zc)) Zc)))))
  ZF)
  (Zl (ZG (ZI ZZ (pv 2) Zn (ZH _))
  (Zj (Zw (YN Tx.Zc9 (Zj1 Tx) (hr.mono (by omega)) rfl Tx.Zdg Tx.Zc1 .nil Z6 (Zb (Zo ih (hr.mono (by omega)) rfl Tx.Wo Tx.XS.kp Tx.Wp .nil Z6 (Zb (pv 0) (Zb (ZB Yq (pv 1) Ze) Zc))) (Zb (Zo ih (hr.mono (by omega)) rfl Tx.Wo Tx.XS.kp Tx.Wp .nil Z6 (Zb (pv 0) (Zb (ZB Yq (pv 1) Ze) Zc))) Zc)))))
  ZF)
  (Zl (ZG (ZI ZZ (pv 2) Zn (ZH _))
  (Zj (Zw (YN Tx.Zda (Zj2 Tx) (hr.mono (by omega)) rfl Tx.Zdh Tx.Zc2 .nil Z6 (Zb (Zo ih (hr.mono (by omega)) rfl Tx.Wo Tx.XS.kp Tx.Wp .nil Z6 (Zb (pv 0) (Zb (ZB Yq (pv 1) Ze) Zc))) (Zb (Zo ih (hr.mono (by omega)) rfl Tx.Wo Tx.XS.kp Tx.Wp .nil Z6 (Zb (pv 0) (Zb (ZB Yq (pv 1) Ze) Zc))) Zc)))))
  ZF)
  (Zl (ZG (ZI ZZ (pv 2) Zn (ZH _))
  (Zj (Zw (YN Tx.Zdb (Zj0 Tx) (hr.mono (by omega)) rfl Tx.Zdi Tx.Zc3 .nil Z6 (Zb (Zo (Zdp Tx) (hr.mono (by omega)) rfl Tx.ZcM Tx.Za2.kp Tx.ZcN .nil Z6 (Zb (pv 0) Zc)) (Zb (Zo ih (hr.mono (by omega)) rfl Tx.Wo Tx.XS.kp Tx.Wp .nil Z6 (Zb (pv 0) (Zb (ZB Yq (pv 1) Ze) Zc))) Zc)))))
  ZF)
  (Zj (Xk Xj Tx.XB rfl rfl Tx.Xp (Zb Zn Zc)))))))))))) ?_
  exact ZE _ rfl rfl (Za _ rfl (Zy (by decide) ⟨by show 1≤sizeLine;decide,e (fun T r z=>by cases z) _ _ (.inl rfl) fun _ _ _ y=>y⟩))
 | succ d ih =>
 refine Tx.XS.okX ZaK (fun vs H Q E h=>?_) (fun cdv A outer s H vs Q E hr h=>?_)
 ·obtain ⟨l,ws,rfl,_⟩:=h
  rfl
 obtain ⟨l,ws,rfl,d8,hl,ok,q,e⟩:=h
 refine Za _ (Zl (ZG (ZI ZZ (pv 1) Ze (ZH _))
  (Zj (Xk Xj Tx.XB rfl rfl Tx.Xp (Zb Zn Zc)))
  ZF)
  (Zl (ZT (i:=2) ZaK.nd rfl (Or.inl rfl) (Zo (Zbe Tx) (hr.mono (by omega)) rfl Tx.Za0 Tx.Zaj.kp Tx.Za1 .nil Z6 (Zb (pv 0) Zc)))
  (Zl (ZG (ZI ZZ (pv 2) Zn (ZH _))
  (Zj (Zw (ZbA Tx.Zc4 rfl Tx.QE)))
  ZF)
  (Zl (ZG (ZI ZZ (pv 2) Zn (ZH _))
  (Zj (Zw (YN Tx.Zc5 (Zj3 Tx) (hr.mono (by omega)) rfl Tx.Zdd Tx.ZcY .nil Z6 (Zb (Zo (Zke Tx) (hr.mono (by omega)) rfl Tx.ZiH Tx.Zfv.kp Tx.ZiI .nil Z6 (Zb (pv 0) Zc)) Zc))))
  ZF)
  (Zl (ZG (ZI ZZ (pv 2) Zn (ZH _))
  (Zj (Zw (YN Tx.Zc7 (ZjZ Tx) (hr.mono (by omega)) rfl Tx.Zde Tx.ZcZ .nil Z6 (Zb (Zo (Zay Tx) (hr.mono (by omega)) rfl Tx.Zak Tx.Qx.kp Tx.Zal .nil Z6 (Zb (pv 0) Zc)) (Zb (Zo (Zay Tx) (hr.mono (by omega)) rfl Tx.Zak Tx.Qx.kp Tx.Zal .nil Z6 (Zb (pv 0) Zc)) (Zb (Zo ih (hr.mono (by omega)) rfl Tx.Wo Tx.XS.kp Tx.Wp .nil Z6 (Zb (pv 0) (Zb (ZB Yq (pv 1) Ze) Zc))) Zc))))))
  ZF)
  (Zl (ZG (ZI ZZ (pv 2) Zn (ZH _))
  (Zj (Zw (YN Tx.Zc8 (Zj4 Tx) (hr.mono (by omega)) rfl Tx.Zdf Tx.Zc0 .nil Z6 (Zb (Zo (Zay Tx) (hr.mono (by omega)) rfl Tx.Zak Tx.Qx.kp Tx.Zal .nil Z6 (Zb (pv 0) Zc)) (Zb (Zo (Zdp Tx) (hr.mono (by omega)) rfl Tx.ZcM Tx.Za2.kp Tx.ZcN .nil Z6 (Zb (pv 0) Zc)) Zc)))))
  ZF)
  (Zl (ZG (ZI ZZ (pv 2) Zn (ZH _))
  (Zj (Zw (YN Tx.Zc9 (Zj1 Tx) (hr.mono (by omega)) rfl Tx.Zdg Tx.Zc1 .nil Z6 (Zb (Zo ih (hr.mono (by omega)) rfl Tx.Wo Tx.XS.kp Tx.Wp .nil Z6 (Zb (pv 0) (Zb (ZB Yq (pv 1) Ze) Zc))) (Zb (Zo ih (hr.mono (by omega)) rfl Tx.Wo Tx.XS.kp Tx.Wp .nil Z6 (Zb (pv 0) (Zb (ZB Yq (pv 1) Ze) Zc))) Zc)))))
  ZF)
  (Zl (ZG (ZI ZZ (pv 2) Zn (ZH _))
  (Zj (Zw (YN Tx.Zda (Zj2 Tx) (hr.mono (by omega)) rfl Tx.Zdh Tx.Zc2 .nil Z6 (Zb (Zo ih (hr.mono (by omega)) rfl Tx.Wo Tx.XS.kp Tx.Wp .nil Z6 (Zb (pv 0) (Zb (ZB Yq (pv 1) Ze) Zc))) (Zb (Zo ih (hr.mono (by omega)) rfl Tx.Wo Tx.XS.kp Tx.Wp .nil Z6 (Zb (pv 0) (Zb (ZB Yq (pv 1) Ze) Zc))) Zc)))))
  ZF)
  (Zl (ZG (ZI ZZ (pv 2) Zn (ZH _))
  (Zj (Zw (YN Tx.Zdb (Zj0 Tx) (hr.mono (by omega)) rfl Tx.Zdi Tx.Zc3 .nil Z6 (Zb (Zo (Zdp Tx) (hr.mono (by omega)) rfl Tx.ZcM Tx.Za2.kp Tx.ZcN .nil Z6 (Zb (pv 0) Zc)) (Zb (Zo ih (hr.mono (by omega)) rfl Tx.Wo Tx.XS.kp Tx.Wp .nil Z6 (Zb (pv 0) (Zb (ZB Yq (pv 1) Ze) Zc))) Zc)))))
  ZF)
  (Zj (Xk Xj Tx.XB rfl rfl Tx.Xp (Zb Zn Zc)))))))))))) ?_
 refine ZE _ rfl rfl (Za _ rfl (Zh (by rw [decide_eq_false (by intro z;have:=V.int.inj z;omega)];decide) ?_))
 refine Za _ rfl (ZX l ws rfl hl ok (fun w r ew=>?_) fun z=>e (fun T r y=>by rw [z] at y;cases y) _ _ (.inl rfl) fun _ _ _ y=>y)
 subst ew
 have ok1:=ok.tail
 have k0:=Kp.upd l H (.lst (Xa r))
 by_cases a1:w=kw "always"
 ·refine ZE _ rfl rfl (Za _ rfl (Zy (by rw [Ys,decide_eq_true a1]) ?_))
  subst a1
  intro x dx nx nd nex
  have s1:=Yd nx (Yd nd (Zt.refl _) (.own x)) (.ins t.Yj dx [])
  exact q .always r (ZnH d r) (by decide) x _ (k0.trans (Kp.of s1)) (s1 _ _ Zf) (.always Zf)
 refine ZE _ rfl rfl (Za _ rfl (Zh (by rw [Ys,decide_eq_false a1];decide) ?_))
 by_cases a2:w=kw "week"
 ·refine ZE _ rfl rfl (Za _ rfl (Zy (by rw [Ys,decide_eq_true a2]) ?_))
  subst a2
  refine Za _ rfl (ZX l r rfl Zf ok1 (fun w1 r1 b ew eb H2 s2 x dx nx nd nex=>?_) fun hb H2 k2=>e (fun T q z=>?_) _ H2 (.inl rfl) (k0.trans k2))
  ·have k1:Kp l H H2:=k0.trans ((Kp.upd l _ _).trans (Kp.of s2))
   refine ZC x H2 _ _ rfl (Xq nx nd) (.int _) (fun b' eb' hb' H3 s3 rat=>⟨rfl,?_⟩) fun hn=>?_
   ·have:b=b':=by have:=V.int.inj eb';omega
    subst this
    exact q (.week b) r1 (by rw [ZhG,ew];unfold WM;dsimp only;rw [eb]) (by show 1≤15;decide) x H3 (k1.trans (Kp.of s3)) (s3 _ _ (s2 _ _ Zf)) (rat.same (Xb _ _))
   ·have b7:=ZhE eb
    rw [W0 (by omega) (by omega)] at hn
    cases hn
  ·rw [ZhG] at z
   rcases hb with hb | ⟨w1,r1,hb,hb2⟩
   ·rw [hb] at z;cases z
   ·rw [hb] at z
    unfold WM at z
    dsimp only at z
    rw [hb2] at z
    cases z
 refine ZE _ rfl rfl (Za _ rfl (Zh (by rw [Ys,decide_eq_false a2];decide) ?_))
 by_cases a3:w=kw "span"
 ·refine ZE _ rfl rfl (Za _ rfl (Zy (by rw [Ys,decide_eq_true a3]) ?_))
  subst a3
  have no0:∀ {C H'},(∀ T q,Wa (rd d) r=some (T,q)→¬ T.weight≤15)→(C=Value.ref t.Z0∨C=.ref t.Z3)→Kp l H H'→E C none H':=fun {C H'} h hC k=>e (fun T q z=>h T q (by rw [ZhL] at z;exact z)) C H' hC k
  refine Za _ rfl (ZX l r rfl Zf ok1 (fun f r1 ef H2 s2=>?_) fun z=>no0 (fun T q y=>by rw [z] at y;cases y) (.inl rfl) k0)
  subst ef
  have k1:Kp l H H2:=k0.trans ((Kp.upd l _ _).trans (Kp.of s2))
  have ok2:=ok1.tail
  refine Za _ rfl (ZX l r1 rfl (s2 _ _ Zf) ok2 (fun g r2 eg H3 s3=>?_) fun z=>no0 (fun T q y=>by rw [z] at y;cases y) (.inl rfl) k1)
  subst eg
  have k2:Kp l H H3:=k1.trans ((Kp.upd l _ _).trans (Kp.of s3))
  have ok3:=ok2.tail
  refine Za _ rfl (Za _ rfl (ZA _ _ rfl rfl ⟨l,r2,congrArg (fun i=>[V.ref l,V.int i]) (by omega),by omega,s3 _ _ Zf,ok3,fun T rr hrd hw b H4 k4 hl4 rat x dx nx nd nex=>?_,fun no C H4 hC k4=>no0 (fun T q y=>?_) hC (k2.trans k4)⟩))
  ·obtain ⟨g1,d1⟩:=W3 hrd
   obtain ⟨Tf,kf⟩:=Zdr (H:=H4) (Yb f)
   obtain ⟨Tg,kg⟩:=Zdr (H:=H4) (Yb g)
   have k3:=k2.trans k4
   refine ⟨x,H4,_,_,b,T,Tf,Tg,rfl,Xq nx nd,kf,kg,rat,g1,hw,by omega,by omega,fun a c ea ec gd=>?_,fun bad H5 s5=>no0 (fun T' q' y=>?_) (.inl rfl) (k3.trans (Kp.of s5))⟩
   ·have e1:=Zdq ea
    have e2:=Zdq ec
    have er:Wa (rd d) (f::g::r2)=some (.span a c T,rr):=by
     unfold Wa
     dsimp only
     rw [hrd]
     dsimp only
     rw [e1,e2]
     exact if_pos ⟨gd.1,gd.2.1⟩
    refine ⟨fun sz H5 s5 rt=>⟨rfl,q (.span a c T) rr (by rw [ZhL];exact er) sz.1 x H5 (k3.trans (Kp.of s5)) (s5 _ _ hl4) (rt.same (Xb _ _))⟩,fun nsz H5 s5=>no0 (fun T' q' y=>?_) (.inr rfl) (k3.trans (Kp.of s5))⟩
    rw [er] at y
    cases y
    exact fun z=>nsz ⟨z,by show 1+T.depth≤8;omega⟩
   ·unfold Wa at y
    dsimp only at y
    rw [hrd] at y
    dsimp only at y
    split at y
    ·next a c e1 e2 =>
     split at y
     ·next cd =>
      exfalso
      rcases bad with z | z
      ·rw [e1,show YF (some a)=.int ((a:Nat):Int) from rfl,W0 (by omega) (by omega)] at z
       cases z
      ·rw [e1,e2,show YF (some c)=.int ((c:Nat):Int) from rfl,show Zbb (YF (some a))=((a:Nat):Int) from rfl,W0 (by omega) (by omega)] at z
       cases z
     ·cases y
    ·cases y
  ·unfold Wa at y
   dsimp only at y
   split at y
   ·next T1 q1 e1 =>
    split at y
    ·split at y
     ·cases y
      exact fun z=>no T1 _ e1 (by have z2:1+T1.weight≤15:=z;omega)
     ·cases y
    ·cases y
   ·cases y
 refine ZE _ rfl rfl (Za _ rfl (Zh (by rw [Ys,decide_eq_false a3];decide) ?_))
 by_cases a4:w=kw "each"
 ·refine ZE _ rfl rfl (Za _ rfl (Zy (by rw [Ys,decide_eq_true a4]) ?_))
  subst a4
  have no0:∀ {C H'},(∀ T q,Wm r=some (T,q)→False)→(C=Value.ref t.Z0∨C=.ref t.Z3)→Kp l H H'→E C none H':=fun {C H'} h hC k=>e (fun T q z=>(h T q (by rw [ZhH] at z;exact z)).elim) C H' hC k
  refine Za _ rfl (ZX l r rfl Zf ok1 (fun f r1 ef H2 s2=>?_) fun z=>no0 (fun T q y=>by rw [z] at y;cases y) (.inl rfl) k0)
  subst ef
  have k1:Kp l H H2:=k0.trans ((Kp.upd l _ _).trans (Kp.of s2))
  have ok2:=ok1.tail
  refine Za _ rfl (ZX l r1 rfl (s2 _ _ Zf) ok2 (fun g r2 eg p H3 s3 hp ep x dx nx nd nex=>?_) fun z=>no0 (fun T q y=>by rw [z] at y;cases y) (.inl rfl) k1)
  subst eg
  have k2:Kp l H H3:=k1.trans ((Kp.upd l _ _).trans (Kp.of s3))
  obtain ⟨Tf,kf⟩:=Zdr (H:=H3) (Yb f)
  refine Ya x H3 _ _ Tf rfl (Xq nx nd) kf (Zkf ep) (fun n l' ss ea el hl' gd H4 s4 rt=>⟨rfl,?_⟩) fun bad H4 s4=>no0 (fun T' q' y=>?_) (.inl rfl) (k2.trans (Kp.of s4))
  ·have e1:=Zdq ea
   cases el
   rw [ep] at hl'
   have e2:=ZfV (HO.lst.inj (Option.some.inj hl'))
   refine q (.each n ss) r2 ?_ (by show 1≤15;decide) x H4 (k2.trans (Kp.of s4)) (s4 _ _ (s3 _ _ Zf)) (rt.same (Xb _ _))
   rw [ZhH]
   unfold Wm
   dsimp only
   rw [e1]
   dsimp only
   rw [if_pos ⟨gd.1,gd.2.1⟩,ZbI e2 gd.2.2]
  ·unfold Wm at y
   dsimp only at y
   split at y
   ·next m e1 =>
    split at y
    ·next cd =>
     split at y
     ·next ss e2 =>
      rcases bad with z | z
      ·rw [e1,show YF (some m)=.int ((m:Nat):Int) from rfl,W0 (by omega) (by omega)] at z
       cases z
      ·obtain ⟨n1,c1,c2,c3⟩:=Zd3 e2
       have gg:=ZbH e2
       refine z ⟨p,ss,rfl,by rw [ep,n1,ZfW],gg.one,gg.few,gg.up,fun x hx=>?_⟩
       have:=c3 x hx
       rw [e1]
       show _≤((m:Nat):Int) - 1
       omega
     ·cases y
    ·cases y
   ·cases y
 refine ZE _ rfl rfl (Za _ rfl (Zh (by rw [Ys,decide_eq_false a4];decide) ?_))
 by_cases a5:w=kw "either"
 ·refine ZE _ rfl rfl (Za _ rfl (Zy (by rw [Ys,decide_eq_true a5]) ?_))
  subst a5
  have no0:∀ {C H'},(∀ T q,YA .either (rd d) r=some (T,q)→¬ T.weight≤15)→(C=Value.ref t.Z0∨C=.ref t.Z3)→Kp l H H'→E C none H':=fun {C H'} h hC k=>e (fun T q z=>h T q (by rw [ZhI] at z;exact z)) C H' hC k
  refine Za _ rfl (Za _ rfl (ZA _ _ rfl rfl ⟨l,r,congrArg (fun i=>[V.ref l,V.int i]) (by omega),by omega,Zf,ok1,fun T rr hrd hw b H2 k2 hl2 rat=>?_,fun no C H2 hC k2=>no0 (fun T q y=>?_) hC (k0.trans k2)⟩))
  ·have k3:=k0.trans k2
   have ok2:=ok1.suf (ZbL hrd)
   refine Za _ rfl (Za _ rfl (ZA _ _ rfl rfl ⟨l,rr,congrArg (fun i=>[V.ref l,V.int i]) (by omega),by omega,hl2,ok2,fun U r3 hrd2 hw2 c H3 k4 hl3 rat2 x dx nx nd nex=>?_,fun no C H3 hC k4=>no0 (fun T' q' y=>?_) hC (k3.trans k4)⟩))
   ·obtain ⟨g1,d1⟩:=W3 hrd
    obtain ⟨g2,d2⟩:=W3 hrd2
    have k5:=k3.trans k4
    have er:YA .either (rd d) r=some (.either T U,r3):=by
     unfold YA
     rw [hrd]
     dsimp only
     rw [hrd2]
    refine ⟨x,H3,b,c,T,U,rfl,Xq nx nd,ZM.kp hl2 k4 rat,g1,hw,by omega,by omega,rat2,g2,hw2,by omega,by omega,fun sz H4 s4 rt=>⟨rfl,q (.either T U) r3 (by rw [ZhI];exact er) sz.1 x H4 (k5.trans (Kp.of s4)) (s4 _ _ hl3) (rt.same (Xb _ _))⟩,fun nsz H4 s4=>no0 (fun T' q' y=>?_) (.inr rfl) (k5.trans (Kp.of s4))⟩
    rw [er] at y
    cases y
    exact fun z=>nsz ⟨z,by show 1+max T.depth U.depth≤8;omega⟩
   ·unfold YA at y
    rw [hrd] at y
    dsimp only at y
    split at y
    ·next U1 q1 e1 =>
     cases y
     exact fun z=>no U1 _ e1 (by have z2:1+(T.weight+U1.weight)≤15:=z;omega)
    ·cases y
  ·unfold YA at y
   split at y
   ·next T1 q1 e1 =>
    split at y
    ·next U1 q2 e2 =>
     cases y
     exact fun z=>no T1 _ e1 (by have z2:1+(T1.weight+U1.weight)≤15:=z;omega)
    ·cases y
   ·cases y
 refine ZE _ rfl rfl (Za _ rfl (Zh (by rw [Ys,decide_eq_false a5];decide) ?_))
 by_cases a6:w=kw "both"
 ·refine ZE _ rfl rfl (Za _ rfl (Zy (by rw [Ys,decide_eq_true a6]) ?_))
  subst a6
  have no0:∀ {C H'},(∀ T q,YA .both (rd d) r=some (T,q)→¬ T.weight≤15)→(C=Value.ref t.Z0∨C=.ref t.Z3)→Kp l H H'→E C none H':=fun {C H'} h hC k=>e (fun T q z=>h T q (by rw [ZhJ] at z;exact z)) C H' hC k
  refine Za _ rfl (Za _ rfl (ZA _ _ rfl rfl ⟨l,r,congrArg (fun i=>[V.ref l,V.int i]) (by omega),by omega,Zf,ok1,fun T rr hrd hw b H2 k2 hl2 rat=>?_,fun no C H2 hC k2=>no0 (fun T q y=>?_) hC (k0.trans k2)⟩))
  ·have k3:=k0.trans k2
   have ok2:=ok1.suf (ZbL hrd)
   refine Za _ rfl (Za _ rfl (ZA _ _ rfl rfl ⟨l,rr,congrArg (fun i=>[V.ref l,V.int i]) (by omega),by omega,hl2,ok2,fun U r3 hrd2 hw2 c H3 k4 hl3 rat2 x dx nx nd nex=>?_,fun no C H3 hC k4=>no0 (fun T' q' y=>?_) hC (k3.trans k4)⟩))
   ·obtain ⟨g1,d1⟩:=W3 hrd
    obtain ⟨g2,d2⟩:=W3 hrd2
    have k5:=k3.trans k4
    have er:YA .both (rd d) r=some (.both T U,r3):=by
     unfold YA
     rw [hrd]
     dsimp only
     rw [hrd2]
    refine ⟨x,H3,b,c,T,U,rfl,Xq nx nd,ZM.kp hl2 k4 rat,g1,hw,by omega,by omega,rat2,g2,hw2,by omega,by omega,fun sz H4 s4 rt=>⟨rfl,q (.both T U) r3 (by rw [ZhJ];exact er) sz.1 x H4 (k5.trans (Kp.of s4)) (s4 _ _ hl3) (rt.same (Xb _ _))⟩,fun nsz H4 s4=>no0 (fun T' q' y=>?_) (.inr rfl) (k5.trans (Kp.of s4))⟩
    rw [er] at y
    cases y
    exact fun z=>nsz ⟨z,by show 1+max T.depth U.depth≤8;omega⟩
   ·unfold YA at y
    rw [hrd] at y
    dsimp only at y
    split at y
    ·next U1 q1 e1 =>
     cases y
     exact fun z=>no U1 _ e1 (by have z2:1+(T.weight+U1.weight)≤15:=z;omega)
    ·cases y
  ·unfold YA at y
   split at y
   ·next T1 q1 e1 =>
    split at y
    ·next U1 q2 e2 =>
     cases y
     exact fun z=>no T1 _ e1 (by have z2:1+(T1.weight+U1.weight)≤15:=z;omega)
    ·cases y
   ·cases y
 refine ZE _ rfl rfl (Za _ rfl (Zh (by rw [Ys,decide_eq_false a6];decide) ?_))
 by_cases a7:w=kw "but"
 ·refine ZE _ rfl rfl (Za _ rfl (Zy (by rw [Ys,decide_eq_true a7]) ?_))
  subst a7
  have no0:∀ {C H'},(∀ T q,X9 (rd d) r=some (T,q)→¬ T.weight≤15)→(C=Value.ref t.Z0∨C=.ref t.Z3)→Kp l H H'→E C none H':=fun {C H'} h hC k=>e (fun T q z=>h T q (by rw [ZhK] at z;exact z)) C H' hC k
  refine Za _ rfl (ZX l r rfl Zf ok1 (fun f r1 ef p H2 s2 hp ep=>?_) fun z=>no0 (fun T q y=>by rw [z] at y;cases y) (.inl rfl) k0)
  subst ef
  have k1:Kp l H H2:=k0.trans ((Kp.upd l _ _).trans (Kp.of s2))
  have ok2:=ok1.tail
  have pl:p≠l:=fun z=>by rw [z,Zf] at hp;cases hp
  refine Za _ rfl (Za _ rfl (ZA _ _ rfl rfl ⟨l,r1,congrArg (fun i=>[V.ref l,V.int i]) (by omega),by omega,s2 _ _ Zf,ok2,fun T rr hrd hw b H3 k2 hl3 rat x dx nx nd nex=>?_,fun no C H3 hC k2=>no0 (fun T q y=>?_) hC (k1.trans k2)⟩))
  ·obtain ⟨g1,d1⟩:=W3 hrd
   have k3:=k1.trans k2
   have ep3:=k2 _ _ pl ep
   refine ⟨x,H3,_,b,T,rfl,Xq nx nd,Zkf ep3,rat,g1,hw,by omega,by omega,fun l' ds el hl' gd=>?_,fun bad H4 s4=>no0 (fun T' q' y=>?_) (.inl rfl) (k3.trans (Kp.of s4))⟩
   ·cases el
    rw [ep3] at hl'
    have e2:=ZfV (HO.lst.inj (Option.some.inj hl'))
    have er:X9 (rd d) (f::r1)=some (.but ds T,rr):=by
     unfold X9
     dsimp only
     rw [hrd]
     dsimp only
     rw [ZbI e2 gd.1]
    refine ⟨fun sz H4 s4 rt=>⟨rfl,q (.but ds T) rr (by rw [ZhK];exact er) sz.1 x H4 (k3.trans (Kp.of s4)) (s4 _ _ hl3) (rt.same (Xb _ _))⟩,fun nsz H4 s4=>no0 (fun T' q' y=>?_) (.inr rfl) (k3.trans (Kp.of s4))⟩
    rw [er] at y
    cases y
    exact fun z=>nsz ⟨z,by show 1+T.depth≤8;omega⟩
   ·unfold X9 at y
    dsimp only at y
    rw [hrd] at y
    dsimp only at y
    split at y
    ·next ds e2 =>
     exfalso
     obtain ⟨n1,c1,c2,c3⟩:=Zd3 e2
     have gg:=ZbH e2
     exact bad ⟨p,ds,rfl,by rw [ep3,n1,ZfW],gg.one,gg.few,gg.up,fun x hx=>by have:=c3 x hx;omega⟩
    ·cases y
  ·unfold X9 at y
   dsimp only at y
   split at y
   ·next T1 q1 e1 =>
    split at y
    ·cases y
     exact fun z=>no T1 _ e1 (by have z2:1+T1.weight≤15:=z;omega)
    ·cases y
   ·cases y
 refine ZE _ rfl rfl (Za _ rfl (Zh (by rw [Ys,decide_eq_false a7];decide) ?_))
 exact ⟨by show 1≤sizeLine;decide,e (fun T q y=>by rw [ZnI a1 a2 a3 a4 a5 a6 a7] at y;cases y) _ _ (.inl rfl) k0⟩
def QM:V→Option RT
 | .str z=>YS (Zu z)
 | _=>none
def ZrW (t:YX) (K:W.Frag):Sp:=fun vs H Q E=>∃ (v:V) (T:String),vs=[v]∧Kd H v T∧(∀ z,v=.str z→z.length≤50000) ∧
 (∀ r b H',QM v=some r→Zt H H'→ZM (rc t) K H' b r→Q (.ref b) H')∧(QM v=none→∀ o H',Zt H H'→E (.ref t.Z0) o H')
theorem ZrX (Tx:ZD K mg t):Zv P w K mg base (Yn P w) 55 t.Zep t.Zeq ["text"] (ZrW t K):=by
 refine Tx.ZiG.okX Zd8 (fun vs H Q E h=>?_) (fun cdv A outer s H vs Q E hr h=>?_)
 ·obtain ⟨v,T,rfl,_⟩:=h
  rfl
 obtain ⟨v,T,rfl,kd,hlen,hq,he⟩:=h
 refine Za _ (Zl (ZG (Yt (Yx (Z4 QU rfl Tx.Y2 Y1 (Zb (pv 0) (Zb (Qk rfl Tx.W7 W4) Zc)))))
  (Zj (Xk Xj Tx.XB rfl rfl Tx.Xp (Zb Zn Zc)))
  ZF)
  (Zl (ZT (i:=1) Zd8.nd rfl (Or.inl rfl) (ZnT rfl rfl Tx.Qw rfl Tx.ZoE (Xu PySem.F.plainAttrs_str PySem.F.slot_str_split PySem.F.type_str_split ZaH (pv 0) (Zb Zn Zc))))
  (Zl (ZnF ⟨rfl,rfl⟩ rfl ZnB Tx.XB rfl Tx.Zdc rfl Tx.Xp
  (fun pins Kx=>(Zj (ZT (i:=2) Zd8.nd rfl (Or.inl rfl) (Zo (ZrV Tx 8) (hr.mono (by omega)) rfl Tx.Wo Tx.XS.kp Tx.Wp .nil ZnD (Zb (pv 1) (Zb (YV rfl Tx.Zfq) Zc))))))
  (fun a=>(Zb Zn Zc)))
  (Zl (ZG (ZI XV (Z4 WX rfl Tx.XR XQ (Zb (pv 1) Zc)) Ze (ZH _))
  (Zj (Xk Xj Tx.XB rfl rfl Tx.Xp (Zb Zn Zc)))
  ZF)
  (Zj (Zw (pv 2))))))) ?_
 refine Za _ rfl (Ww v ("str") _ _ rfl kd.ty (Zmy kd) (Za _ rfl ?_))
 cases kd with
 | non=>exact Zy (by decide) ⟨by show 1≤sizeLine;decide,he rfl _ _ (Zt.refl _)⟩
 | bl b=>exact Zy (by decide) ⟨by show 1≤sizeLine;decide,he rfl _ _ (Zt.refl _)⟩
 | int i=>exact Zy (by decide) ⟨by show 1≤sizeLine;decide,he rfl _ _ (Zt.refl _)⟩
 | lst e=>exact Zy (by decide) ⟨by show 1≤sizeLine;decide,he rfl _ _ (Zt.refl _)⟩
 | tup e=>exact Zy (by decide) ⟨by show 1≤sizeLine;decide,he rfl _ _ (Zt.refl _)⟩
 | dK e=>exact Zy (by decide) ⟨by show 1≤sizeLine;decide,he rfl _ _ (Zt.refl _)⟩
 | str z =>
  refine Zh (by decide) ?_
  have hz:=hlen z rfl
  have hz2:z.length+2≤sizeLine:=Nat.le_trans (Nat.add_le_add_right hz 2) (by decide)
  refine ZE _ rfl rfl (ZV z 32 rfl (by rw [room]) hz2 fun p1 h1=>(ZA p1 _ rfl (Zm.of Zf) fun p h2=>?_))
  have s1:=Zr h1 (.lst ((spl 32 z.cps.toList).map fun l=>V.str ⟨l.toArray⟩))
  have hp0:H p=none:=s1.free h2
  have wok:XC (spl 32 (Zu z)):=XC.spl (by rw [XZ];omega)
  have sm:∀ {H'},Kp p (upd (upd H p1 (.lst ((spl 32 z.cps.toList).map fun l=>V.str ⟨l.toArray⟩))) p (.lst ((spl 32 z.cps.toList).map fun l=>V.str ⟨l.toArray⟩).reverse)) H'→Zt H H':=fun k a o e=>by
   have n:a≠p:=YZ e hp0
   exact k a o n (by rw [ZO n];exact s1 a o e)
  refine Za _ rfl ⟨p,spl 32 (Zu z),rfl,by decide,Zf,wok,fun r q hrd hw b H3 k3 hl3 rat=>?_,fun no C H3 hC k3=>?_⟩
  ·refine Za _ rfl (ZA p _ rfl (.inl (Zm.of hl3)) (ZA _ _ rfl rfl (Za _ rfl ?_)))
   cases q with
   | nil =>
    refine Zh (by decide) ?_
    refine Za _ rfl (hq r b H3 ?_ (sm k3) rat)
    show YS (Zu z)=some r
    unfold YS
    rw [hrd]
    exact if_pos hw
   | cons x y =>
    refine Zy (by rw [Zka,List.length_cons];exact decide_eq_true (by omega)) ⟨by show 1≤sizeLine;decide,he ?_ _ _ (sm k3)⟩
    show YS (Zu z)=none
    unfold YS
    rw [hrd]
  ·have bad:QM (.str z)=none:=by
    show YS (Zu z)=none
    unfold YS
    split
    ·next T e =>
     exact if_neg (no T [] e)
    ·rfl
   rcases hC with rfl | rfl
   ·exact .inl ⟨Tx.Zq5,he bad _ _ (sm k3)⟩
   ·exact .inr ⟨Tx.Zq4,rfl,fun a ha=>⟨by show 1≤sizeLine;decide,Zf,he bad _ _ ((sm k3).trans (Zr ha _))⟩⟩
def ZrY (t:YX) (K:W.Frag):Sp:=fun vs H Q E=>∃ v:V,vs=[v]∧((ZjP K t.Yj H v∧E (.ref t.Z0) none H) ∨
 (∃ (a:Addr) (r:RT),v=.ref a∧ZM (rc t) K H a r∧r.good∧r.weight≤15∧r.depth≤8∧∀ H',Zt H H'→Q (.str (Yv r)) H'))
theorem ZfX {r:RT} (g:r.good) (hw:r.weight≤15):(r.words.map fun x=>x.length+(Str.ofString " ").length).sum≤sizeLine:=by
 have h2:=r.words_len
 have e:(Str.ofString " ").length=1:=by decide +kernel
 have f:=Zd6 r g
 have h3:(r.words.map fun x=>x.length+(Str.ofString " ").length).sum≤101 * r.words.length:=by
  rw [e]
  generalize r.words=l at f
  induction l with
  | nil=>simp
  | cons y q ih =>
   have a1:=(f y List.mem_cons_self).2
   have a2:=ih fun x hx=>f x (List.mem_cons_of_mem _ hx)
   simp only [List.map_cons,List.sum_cons,List.length_cons]
   omega
 exact Nat.le_trans (Nat.le_trans h3 (Nat.mul_le_mul_left 101 (show r.words.length≤45 by omega))) (by decide)
theorem ZfY (Tx:ZD K mg t):Zv P w K mg base (Yn P w) 13 t.Zen t.Zeo ["rule"] (ZrY t K):=by
 refine Tx.ZcL.okX Zoe (fun vs H Q E h=>?_) (fun cdv A outer s H vs Q E hr h=>?_)
 ·obtain ⟨v,rfl,_⟩:=h
  rfl
 obtain ⟨v,rfl,h⟩:=h
 refine Za _ (Zl (ZG (Yt (Yx (Z4 ZdQ rfl Tx.Y2 Y1 (Zb (pv 0) (Zb (XY rfl Tx.QE) Zc)))))
  (Zj (Xk Xj Tx.XB rfl rfl Tx.Xp (Zb Zn Zc)))
  ZF)
  (Zj (Zw (Xu PySem.F.plainAttrs_str PySem.F.slot_str_join PySem.F.type_str_join U2 Zn (Zb (Xx (pv 0)) Zc))))) ?_
 rcases h with ⟨⟨T,kd,ki⟩,e⟩ | ⟨a,r,rfl,h,g,hw,hd,q⟩
 ·exact Za _ rfl (Ww v t.Yj _ _ rfl kd.ty ki (Za _ rfl (Zy (by decide) ⟨by show 1≤sizeLine;decide,e⟩)))
 obtain ⟨C0,ty,ki⟩:=ZfS Tx h
 refine Za _ rfl (Ww (.ref a) t.Yj _ _ rfl ty ki (Za _ rfl (Zh (by decide) ?_)))
 obtain ⟨C,dx,fs,f,fd,sp,x1,x2,x3,x4,x5,x6,x7⟩:=(ZfU (P:=P) (w:=w) (mg:=mg) (base:=base) Tx 8).at Tx h g (by omega) hd
 refine ⟨rfl,Za _ rfl ⟨a,C,dx,fs,f,fd,_,_,sp,Zx,E0,rfl,x1,x2,x3,x4,x5,hr.mono (by omega),x6,Zp,x7 _ fun p H' s' hp ep=>?_⟩⟩
 exact YJ _ p r.words rfl rfl (Zm.of ep) (ZfX g hw) (q H' s')
def ZrZ (K:W.Frag):Sp:=fun vs H Q _=>∃ (a:Addr) (ns:List Int) (k:Int),vs=[.ref a,.int k]∧Zm K H a (ns.map V.int)∧0≤k∧∀ (i:Int) H',Zt H H'→Q (.int i) H'
theorem Zr0 (Tx:ZD K mg t):Zv P w K mg base Zx 1 t.Zez t.ZeA ["_law_script","_law_k"] (ZrZ K):=by
 refine Tx.ZiJ.ok Zoi (fun vs H Q E h=>?_) (fun cdv A outer s H vs Q E hr h=>?_)
 ·obtain ⟨a,ns,k,rfl,_⟩:=h
  rfl
 obtain ⟨a,ns,k,rfl,hS,h0,q⟩:=h
 refine Za _ (Zl (ZG (ZI (ZdO hr.units0) (pv 0) (ZW Zc) (ZH _))
  (Zj (Zw Ze))
  ZF)
  (Zj (Zw (Zz Z5 (pv 0) (ZB We (pv 1) (Z4 WX rfl Tx.XR XQ (Zb (pv 0) Zc))) (fun _ _=>rfl))))) ?_
 refine ZE _ rfl (by show 0≤sizeLine;decide) fun p hp=>?_
 have sm:=Zr hp (.lst [])
 refine ⟨a,p,_,_,rfl,rfl,sm.seq hS,Zm.of Zf,ZmB ns,rfl,Za _ rfl ?_⟩
 cases ns with
 | nil=>exact Zy rfl (q 0 _ sm)
 | cons n r =>
  refine Zh (by intro z;cases z) ?_
  have hl:(((n::r).map V.int).length:Int)=((n::r).length:Int):=by rw [List.length_map]
  have hpos:(0:Int) < (((n::r).map V.int).length:Nat):=by rw [List.length_map,List.length_cons];omega
  have hlt:(k % (((n::r).map V.int).length:Nat)).toNat < (n::r).length:=by
   have h1:=Int.emod_nonneg k (show ((((n::r).map V.int).length:Nat):Int)≠0 by omega)
   have h2:=Int.emod_lt_of_pos k hpos
   omega
  have h1:=Int.emod_nonneg k (show ((((n::r).map V.int).length:Nat):Int)≠0 by omega)
  refine Za _ rfl (Za _ rfl (Za _ rfl (ZA a _ rfl (.inl (sm.seq hS)) (ZV _ _ rfl rfl hpos (ZC a _ _ (.int ((n::r)[(k % (((n::r).map V.int).length:Nat)).toNat])) rfl rfl (sm.seq hS) ?_ (q _ _ sm))))))
  ·have e:k % (((n::r).map V.int).length:Nat)=(((k % (((n::r).map V.int).length:Nat)).toNat:Nat):Int):=by omega
   have q2:Yf ((n::r).map V.int) (((k % (((n::r).map V.int).length:Nat)).toNat:Nat):Int)=some (.int ((n::r)[(k % (((n::r).map V.int).length:Nat)).toNat])):=XL (by rw [List.getElem?_map,List.getElem?_eq_getElem hlt];rfl)
   rw [← e] at q2
   exact q2
def Zr1 (K:W.Frag):Sp:=fun vs H Q _=>∃ (a tp:Addr) (ns:List Int) (k n:Int),vs=[.ref a,.ref tp,.int n]∧Xw K H a tp ns∧H tp=some (.lst [.int k])∧0≤k∧k≤100000∧0 < n∧n < 1073741824 ∧
 ∀ (d:Int) H',0≤d→d < n→YW tp (k+1) H H'→Q (.int d) H'
theorem YE (Tx:ZD K mg t):Zv P w K mg base Zx 2 t.ZeB t.ZeC ["_law_script","_law_tape","_law_many"] (Zr1 K):=by
 refine Tx.Yw.ok ZhW (fun vs H Q E h=>?_) (fun cdv A outer s H vs Q E hr h=>?_)
 ·obtain ⟨a,tp,ns,k,n,rfl,_⟩:=h
  rfl
 obtain ⟨a,tp,ns,k,n,rfl,hS,hT,h0,h1,hn0,hn1,q⟩:=h
 refine Za _ (Zl (ZkZ (ZB Y7 (Zz Z5 (pv 1) Ze (fun _ _=>rfl)) Ze) (ZkY (pv 1) Ze ZlR))
  (Zl (ZT (i:=3) ZhW.nd rfl (Or.inl rfl) (ZB Y7 (ZB Y7 (ZB We (Zo (Zr0 Tx) (hr.mono (by omega)) rfl Tx.ZoN Tx.ZiJ.kp Tx.ZoO .nil Zp (Zb (pv 0) (Zb (ZB Yq (Zz Z5 (pv 1) Ze (fun _ _=>rfl)) Ze) Zc))) Ze) (ZB Zbj Ze (Zz Z5 (pv 1) Ze (fun _ _=>rfl)))) Ze))
  (Zj (Zw (ZB We (ZB QQ (ZB We (ZB Zbj (ZB We (ZB Zbj (pv 3) (pv 3)) Ze) (pv 3)) Ze) Ze) (pv 2)))))) ?_
 refine Za _ rfl (ZC tp _ 0 _ rfl rfl (Zm.of hT) rfl (ZA _ _ rfl rfl (Za _ rfl (ZC tp _ 0 0 rfl rfl hT rfl ?_))))
 have b1:YW tp (k+1) H (upd H tp (.lst [.int (k+1)])):=⟨fun c o nn h=>by rw [ZO nn];exact h,Zf⟩
 refine Za _ rfl (Za _ rfl (ZC tp _ 0 _ rfl rfl (Zm.of b1.tape) rfl (ZA _ _ rfl rfl (Xc a ns _ rfl ((b1.scr hS).sq) (by show 0≤k+1 - 1;omega) fun i H' sm=>?_))))
 have b2:=b1.same sm
 refine ZV _ _ rfl rfl (by show (0:Int) < 1000000007;decide) (Za _ rfl (ZC tp _ 0 _ rfl rfl (Zm.of b2.tape) rfl (ZV _ _ rfl rfl (.inl ⟨by decide,by decide⟩) (ZA _ _ rfl rfl (ZA _ _ rfl rfl ?_)))))
 have g1:0≤i % 1000000007:=Int.emod_nonneg _ (by decide)
 have g2:i % 1000000007 < 1000000007:=Int.emod_lt_of_pos _ (by decide)
 generalize hv:i % 1000000007+7919 * (k+1)+13=v
 have v0:0≤v:=by omega
 have v1:v < 18446744073709551616:=by omega
 have e1:(i % 1000000007+7919 * (k+1)+13:Int)=v:=hv
 refine Za _ rfl (Za _ rfl (ZV _ _ rfl rfl (Zg7 (by show 0≤i % 1000000007+7919 * (k+1)+13;omega) (by show i % 1000000007+7919 * (k+1)+13 < _;omega)) (ZV _ _ rfl rfl (by show (0:Int) < 1000000007;decide) (Za _ rfl (ZV _ _ rfl rfl (Zg7 (by show 0≤i % 1000000007+7919 * (k+1)+13;omega) (by show i % 1000000007+7919 * (k+1)+13 < _;omega)) (ZV _ _ rfl rfl (by show (0:Int) < 998244353;decide) (ZV _ _ rfl rfl ⟨by decide,by decide⟩ (Za _ rfl (ZV _ _ rfl rfl hn0 ?_)))))))))
 exact q _ H' (Int.emod_nonneg _ (by omega)) (Int.emod_lt_of_pos _ hn0) b2
theorem eq4 {x y:V} {i i' j j':Int} (h:i=i') (g:j=j'):[x,y,V.int i,V.int j]=[x,y,V.int i',V.int j']:=by rw [h,g]
theorem WB {H':Hp} {tp:Addr} {k:Int} {p:Addr} (z:H' tp=some (.lst [.int k])) (g:H' p=none):p≠tp:=fun e=>by
 rw [e,z] at g
 cases g
def Zr2 (K:W.Frag):Sp:=fun vs H Q _=>∃ (a tp:Addr) (ns:List Int) (k:Int) (lo hi:Nat),vs=[.ref a,.ref tp,.int (lo:Nat),.int (hi:Nat)]∧Xw K H a tp ns∧H tp=some (.lst [.int k])∧0≤k∧k≤90000∧lo≤hi∧hi≤9999 ∧
 ∀ (l:Addr) (zs:List Nat) (k':Int) (H':Hp),YW tp k' H H'→k≤k'→k'≤k+14→H' l=some (.lst (ZR zs))→l≠tp→Vt zs lo hi→Q (.ref l) H'
theorem Zkg (zs:List Nat):ZR zs=(zs.map fun n=>((n:Nat):Int)).map V.int:=by
 rw [List.map_map];rfl
theorem Zr3 {zs:List Int} {ks:List Nat} {lo hi:Nat} (pw:zs.Pairwise (· < ·)) (mem:∀ k,k∈zs↔k∈ks.map fun n=>((n:Nat):Int)) (le:zs.length≤ks.length) (hk:∀ z∈ks,lo≤z∧z≤hi) (h1:1≤ks.length) (h12:ks.length≤12) :
  zs.map V.int=ZR (zs.map Int.toNat)∧Vt (zs.map Int.toNat) lo hi:=by
 have nn:∀ z∈zs,∃ n:Nat,z=((n:Nat):Int)∧lo≤n∧n≤hi:=fun z hz=>by
  obtain ⟨n,hn,rfl⟩:=List.mem_map.mp ((mem z).mp hz)
  exact Za n rfl (hk n hn)
 refine ⟨?_,⟨?_,?_,?_,?_⟩⟩
 ·show zs.map V.int=(zs.map Int.toNat).map _
  rw [List.map_map]
  refine List.map_congr_left fun z hz=>?_
  obtain ⟨n,rfl,_⟩:=nn z hz
  rfl
 ·rw [List.length_map]
  match ks,h1 with
  | x::r,_ =>
   have:=(mem ((x:Nat):Int)).mpr (List.mem_map.mpr (Za x List.mem_cons_self rfl))
   exact List.length_pos_of_mem this
 ·rw [List.length_map];omega
 ·rw [List.pairwise_map]
  refine List.Pairwise.imp_of_mem (fun {x y} hx hy h=>?_) pw
  obtain ⟨n,rfl,_⟩:=nn x hx
  obtain ⟨m,rfl,_⟩:=nn y hy
  simp only [Int.toNat_natCast]
  omega
 ·intro x hx
  obtain ⟨z,hz,rfl⟩:=List.mem_map.mp hx
  obtain ⟨n,rfl,q⟩:=nn z hz
  exact q
theorem Zkh (Tx:ZD K mg t):Zv P w K mg base Zx 3 t.ZeD t.ZeE ["_law_script","_law_tape","_law_least","_law_most"] (Zr2 K):=by
 refine Tx.Zfw.ok ZbM (fun vs H Q E h=>?_) (fun cdv A outer s H vs Q E hr h=>?_)
 ·obtain ⟨a,tp,ns,k,lo,hi,rfl,_⟩:=h
  rfl
 obtain ⟨a,tp,ns,k,lo,hi,rfl,S,hT,k0,k1,lh,hh,q⟩:=h
 refine Za _ (Zl (ZT (i:=4) ZbM.nd rfl (Or.inl rfl) (ZB Y7 Ze (Zo (YE Tx) (hr.mono (by omega)) rfl Tx.YC Tx.Yw.kp Tx.YD .nil Zp (Zb (pv 0) (Zb (pv 1) (Zb Ze Zc))))))
  (Zl (ZG (ZI ZZ (Zo (YE Tx) (hr.mono (by omega)) rfl Tx.YC Tx.Yw.kp Tx.YD .nil Zp (Zb (pv 0) (Zb (pv 1) (Zb Ze Zc)))) Ze (ZH _))
  (Zj (ZT (i:=4) ZbM.nd rfl (Or.inl rfl) Ze))
  ZF)
  (Zl (Zd1 (i0:=5) (cl:=[(Str.ofString "_law_tape",s.heap.objs.size+2),(Str.ofString "_law_script",s.heap.objs.size+1),(Str.ofString "_law_most",s.heap.objs.size+4),(Str.ofString "_law_least",s.heap.objs.size+3)]) (N:=["_law_k","_law_least","_law_script","_law_tape","_law_most"]) (fr:=[none,some 2,some 0,some 1,some 3]) ZbM.nd rfl (Or.inl rfl) rfl (QO rfl Tx.Zag (Zb (pv 4) Zc)) rfl (by decide +kernel) rfl (by decide +kernel) ⟨⟨rfl,Or.inl rfl,Or.inl rfl,Za _ rfl rfl⟩,⟨⟨rfl,Or.inl rfl,Or.inl rfl,Za _ rfl rfl⟩,⟨⟨rfl,Or.inl rfl,Or.inl rfl,Za _ rfl rfl⟩,⟨⟨rfl,Or.inl rfl,Or.inl rfl,Za _ rfl rfl⟩,trivial⟩⟩⟩⟩ ⟨rfl,⟨rfl,⟨rfl,⟨rfl,trivial⟩⟩⟩⟩ rfl (fun _ _ _ _ _=>(Y6 (i:=0) (show List.Nodup (["_law_k","_law_least","_law_script","_law_tape","_law_most"]:List Str) by decide +kernel) rfl (Or.inl rfl))) (fun _ _ _ _ _=>Wi) (fun _ _ _ _ _=>(ZB Y7 (pv 1) (Zo (YE Tx) (hr.mono (by omega)) rfl Tx.YC Tx.Yw.kp Tx.YD .nil Zp (Zb (pv 2) (Zb (pv 3) (Zb (ZB Y7 (ZB Yq (pv 4) (pv 1)) Ze) Zc)))))))
  (Zj (Zw (Z4 (Zhs rfl) rfl Tx.Ziw Zir (Zb (YU (Zhr rfl) rfl Tx.Ziv Ziq (Zb (pv 5) Zc)) Zc))))))) ?_
 refine Za _ rfl (Za _ rfl ⟨a,tp,ns,k,4,rfl,S,hT,k0,by omega,by decide,by decide,fun d1 H1 d10 d11 b1=>(ZA _ _ rfl rfl ?_)⟩)
 refine Za _ rfl (Za _ rfl ⟨a,tp,ns,k+1,8,rfl,b1.scr S,b1.tape,by omega,by omega,by decide,by decide,fun d2 H2 d20 d21 b2=>⟨rfl,Za _ rfl (Zbt (fun _=>?_) (fun _=>?_))⟩⟩)
 all_goals
  have B2:=b1.trans b2
  refine Za _ rfl (WN _ rfl (by omega) (by omega) (ZdR (fun i acc σ H'=>∃ (zs:List Nat) (vk:Option V),acc=ZR zs∧zs.length=i∧(∀ z∈zs,lo≤z∧z≤hi)∧YW tp (k+1+1+i) H H'∧σ=[vk,some (.int (lo:Nat)),some (.ref a),some (.ref tp),some (.int (hi:Nat))])
   (ZX [] _ rfl rfl (fun z hz=>by cases hz) (by simpa using B2) rfl) (Nat.le_trans (show _≤12 by omega) (by decide)) ?_ ?_))
  ·rintro i acc σ H' hi' ha ⟨zs,vk,rfl,hz,hb,B,rfl⟩
   dsimp only [Xs,X7]
   rw [if_pos rfl]
   refine Za _ rfl (Za _ rfl (Za _ rfl (Za _ rfl (Za _ rfl (ZA _ _ rfl rfl (ZA _ _ rfl rfl ⟨a,tp,ns,k+1+1+i,_,rfl,B.scr S,B.tape,by omega,by omega,by omega,by omega,fun d H4 d0 d1 b4=>?_⟩))))))
   refine ZV _ _ rfl rfl (by rw [List.length_append,List.length_singleton];omega) (ZX (zs++[lo+d.toNat]) _ ?_ (by rw [List.length_append,List.length_singleton];omega) (fun z hz'=>?_) ?_ rfl)
   ·have e:((lo:Nat):Int)+d=((lo+d.toNat:Nat):Int):=by omega
    show ZR zs++[V.int (((lo:Nat):Int)+d)]=List.map _ (zs++[lo+d.toNat])
    rw [List.map_append,e]
    rfl
   ·rcases List.mem_append.mp hz' with hz' | hz'
    ·exact hb z hz'
    ·rw [List.mem_singleton] at hz'
     omega
   ·have:=B.trans b4
    have e:k+1+1+((i:Nat):Int)+1=k+1+1+((i+1:Nat):Int):=by omega
    rw [e] at this
    exact this
  ·rintro acc σ H' ha ⟨zs,vk,rfl,hz,hb,B,rfl⟩ p hp
   have s1:=Zr hp (.lst (ZR zs))
   have z12:zs.length≤12:=by omega
   have z1:1≤zs.length:=by omega
   refine Za _ rfl (ZV p _ rfl (Zm.of (by rw [Zf,Zkg zs])) (by rw [List.length_map];omega) fun l hl=>?_)
   refine ZV l _ rfl Zf (by rw [List.length_map];omega) fun l2 ys hl2 pw mem le=>?_
   obtain ⟨e1,g⟩:=Zr3 pw mem (by rw [List.length_map] at le;exact le) hb z1 z12
   have s2:=Zr hl (Qp P w l (zs.map fun n=>((n:Nat):Int)))
   have s3:=Zr hl2 (.lst (ys.map V.int))
   have B3:=((B.same s1).same s2).same s3
   refine q l2 _ _ _ B3 (by omega) (by omega) (by rw [Zf,e1]) (fun z=>?_) g
   have h2:upd (upd H' p (.lst (ZR zs))) l (Qp P w l (zs.map fun n=>((n:Nat):Int))) l2=none:=hl2
   have:=((B.same s1).same s2).tape
   rw [← z,h2] at this
   cases this
def Zr4 (K:W.Frag):Sp:=fun vs H Q _=>∃ (a tp:Addr) (ns:List Int) (k:Int),vs=[.ref a,.ref tp]∧Xw K H a tp ns∧H tp=some (.lst [.int k])∧0≤k∧k≤80000 ∧
 ∀ (v:V) (r:RT) (k':Int) (H':Hp),YW tp k' H H'→k≤k'→k'≤k+16→Z8 tp H' v r→r.good→r.weight=1→r.depth=1→Q v H'
theorem Zr5 (Tx:ZD K mg t):Zv P w K mg base Zx 4 t.ZeF t.ZeG ["_law_script","_law_tape"] (Zr4 K):=by
 refine Tx.ZiM.ok Zd9 (fun vs H Q E h=>?_) (fun cdv A outer s H vs Q E hr h=>?_)
 ·obtain ⟨a,tp,ns,k,rfl,_⟩:=h
  rfl
 obtain ⟨a,tp,ns,k,rfl,S,hT,k0,k1,q⟩:=h
 refine Za _ (Zl (ZT (i:=2) Zd9.nd rfl (Or.inl rfl) (Zo (YE Tx) (hr.mono (by omega)) rfl Tx.YC Tx.Yw.kp Tx.YD .nil Zp (Zb (pv 0) (Zb (pv 1) (Zb Ze Zc)))))
  (Zl (ZG (ZI ZZ (pv 2) Ze (ZH _))
  (Zj (Zw (YM (Zb Zn Zc))))
  ZF)
  (Zl (ZG (ZI Zbl (pv 2) Ze (ZH _))
  (Zj (Zw (YM (Zb Zn (Zb (Zz Z5 (ZW (Zb (Zo (YE Tx) (hr.mono (by omega)) rfl Tx.YC Tx.Yw.kp Tx.YD .nil Zp (Zb (pv 0) (Zb (pv 1) (Zb Ze Zc)))) (Zb (ZB Y7 Ze (Zo (YE Tx) (hr.mono (by omega)) rfl Tx.YC Tx.Yw.kp Tx.YD .nil Zp (Zb (pv 0) (Zb (pv 1) (Zb Ze Zc))))) (Zb Ze Zc)))) (ZB Yq (pv 2) Ze) (fun _ _=>rfl)) Zc)))))
  ZF)
  (Zl (ZT (i:=3) Zd9.nd rfl (Or.inl rfl) (ZB Y7 Ze (Zo (YE Tx) (hr.mono (by omega)) rfl Tx.YC Tx.Yw.kp Tx.YD .nil Zp (Zb (pv 0) (Zb (pv 1) (Zb (Zz Z5 (ZW (Zb Ze (Zb Ze Zc))) (ZB Yq (pv 2) Ze) (fun _ _=>rfl)) Zc))))))
  (Zj (Zw (YM (Zb Zn (Zb (pv 3) (Zb (Zo (Zkh Tx) (hr.mono (by omega)) rfl Tx.ZiK Tx.Zfw.kp Tx.ZiL .nil Zp (Zb (pv 0) (Zb (pv 1) (Zb Ze (Zb (ZB Yq (pv 3) Ze) Zc))))) Zc)))))))))) ?_
 refine Za _ rfl (Za _ rfl ⟨a,tp,ns,k,6,rfl,S,hT,k0,by omega,by decide,by decide,fun c H1 c0 c1 b1=>?_⟩)
 refine ZE _ rfl rfl (Za _ rfl ?_)
 by_cases h0:c=0
 ·refine Zy (by subst h0;decide) ⟨by show 1≤sizeLine;decide,fun p hp=>?_⟩
  exact q _ .always _ _ (b1.same (Zr hp _)) (by omega) (by omega) (.always Zf) trivial rfl rfl
 ·refine Zh (by rw [UV];simpa using h0) ?_
  refine Za _ rfl (ZA _ _ rfl rfl (Za _ rfl ?_))
  by_cases h4:c < 4
  ·refine Zy (decide_eq_true h4) ?_
   refine Za _ rfl (Za _ rfl ⟨a,tp,ns,k+1,128,rfl,b1.scr S,b1.tape,by omega,by omega,by decide,by decide,fun d1 H2 d10 d11 b2=>?_⟩)
   have B2:=b1.trans b2
   refine Za _ rfl (Za _ rfl ⟨a,tp,ns,k+1+1,4,rfl,B2.scr S,B2.tape,by omega,by omega,by decide,by decide,fun d2 H3 d20 d21 b3=>(ZV _ _ rfl rfl (by show 3≤sizeLine;decide) fun p hp=>?_)⟩)
   have B3:=B2.trans b3
   obtain ⟨vb,eb,b,rfl,hb⟩:=Wk (p:=fun v=>∃ n:Nat,v=V.int (n:Nat)∧n≤127) (xs:=[.int d1,.int (1+d2),.int 31]) (d:=c - 1) (fun v hv=>by
    simp only [List.mem_cons,List.not_mem_nil,or_false] at hv
    rcases hv with rfl | rfl | rfl
    ·exact Za d1.toNat (congrArg V.int (by omega)) (by omega)
    ·exact Za ((1+d2).toNat) (congrArg V.int (by omega)) (by omega)
    ·exact Za 31 rfl (by decide)) (by omega) (by show c - 1 < 3;omega)
   refine Za _ rfl (ZA _ _ rfl rfl (Zk p _ _ _ rfl rfl (Zm.of Zf) eb (by show 2≤sizeLine;decide) fun p2 hp2=>?_))
   exact q _ (.week b) _ _ ((B3.same (Zr hp _)).same (Zr hp2 _)) (by omega) (by omega) (.week Zf) hb rfl rfl
  ·refine Zh (by rw [decide_eq_false h4];decide) ?_
   refine Za _ rfl (ZE _ rfl (by show 2≤sizeLine;decide) fun p hp=>?_)
   have B1:=b1.same (Zr hp (.lst [.int 28,.int 7]))
   obtain ⟨vm,em,m,rfl,hm1,hm2⟩:=Wk (p:=fun v=>∃ n:Nat,v=V.int (n:Nat)∧1≤n∧n≤28) (xs:=[.int 28,.int 7]) (d:=c - 4) (fun v hv=>by
    simp only [List.mem_cons,List.not_mem_nil,or_false] at hv
    rcases hv with rfl | rfl
    ·exact ZE 28 rfl (by decide) (by decide)
    ·exact ZE 7 rfl (by decide) (by decide)) (by omega) (by show c - 4 < 2;omega)
   refine Za _ rfl (ZA _ _ rfl rfl (ZC p _ _ _ rfl rfl (Zm.of Zf) em ⟨a,tp,ns,k+1,_,rfl,B1.scr S,B1.tape,by omega,by omega,by omega,by omega,fun d H2 d0 d1 b2=>(ZA _ _ rfl rfl ?_)⟩))
   have B2:=B1.trans b2
   obtain ⟨n,en⟩:∃ n:Nat,1+d=((n:Nat):Int):=⟨(1+d).toNat,by omega⟩
   refine Za _ rfl (Za _ rfl (Za _ rfl (Za _ rfl (ZA _ _ rfl rfl ⟨a,tp,ns,k+1+1,0,n - 1,eq4 rfl (by omega),B2.scr S,B2.tape,by omega,by omega,by omega,by omega,fun l zs k' H3 b3 u1 u2 hl hne g=>?_⟩))))
   refine ⟨by show 3≤sizeLine;decide,fun p3 hp3=>?_⟩
   have s3:=Zr hp3 (.tup [.str (Str.ofString "each"),.int (1+d),.ref l])
   have hp3':upd H3 p3 (.tup [.str (Str.ofString "each"),.int (1+d),.ref l]) p3=some (.tup [.str (Str.ofString "each"),.int ((n:Nat):Int),.ref l]):=by rw [Zf,en]
   exact q _ (.each n zs) _ _ ((B2.trans b3).same s3) (by omega) (by omega) (.each hp3' (s3 _ _ hl) hne) ⟨by omega,by omega,g⟩ rfl rfl
def Zr6 (K:W.Frag) (n:Nat):Sp:=fun vs H Q _=>∃ (a tp:Addr) (ns:List Int) (k:Int) (room deep:Nat),vs=[.ref a,.ref tp,.int (room:Nat),.int (deep:Nat)]∧Xw K H a tp ns∧H tp=some (.lst [.int k])∧0≤k∧k+40 * room≤70000∧1≤room∧room≤15∧1≤deep∧deep≤n ∧
 ∀ (v:V) (r:RT) (k':Int) (H':Hp),YW tp k' H H'→k≤k'→k'≤k+40 * room→Z8 tp H' v r→r.good→r.weight≤room→r.depth≤deep→Q v H'
theorem Zr7 (Tx:ZD K mg t):∀ n:Nat,Zv P w K mg base Zx (n+5) t.ZeH t.ZeI ["_law_script","_law_tape","_law_room","_law_deep"] (Zr6 K n):=by
 intro n
 induction n with
 | zero =>
  refine Tx.Zam.ok Qs (fun vs H Q E h=>?_) (fun cdv A outer s H vs Q E hr h=>?_)
  ·obtain ⟨a,tp,ns,k,room,deep,rfl,_⟩:=h
   rfl
  ·obtain ⟨a,tp,ns,k,room,deep,rfl,S,hT,k0,k1,r1,r15,d1,dn,_⟩:=h
   omega
 | succ n ih =>
 refine Tx.Zam.ok Qs (fun vs H Q E h=>?_) (fun cdv A outer s H vs Q E hr h=>?_)
 ·obtain ⟨a,tp,ns,k,room,deep,rfl,_⟩:=h
  rfl
 obtain ⟨a,tp,ns,k,room,deep,rfl,S,hT,k0,k1,r1,r15,dd1,dn,q⟩:=h
 refine Za _ (Zl (ZT (i:=4) Qs.nd rfl (Or.inl rfl) (Zo (YE Tx) (hr.mono (by omega)) rfl Tx.YC Tx.Yw.kp Tx.YD .nil Zp (Zb (pv 0) (Zb (pv 1) (Zb Ze Zc)))))
  (Zl (ZG (PW.pt (Y5 (ZI ZZ (pv 2) Ze (ZH _)) (Y5 (ZI ZZ (pv 3) Ze (ZH _)) (XE (PW.pt (WC (ZI ZZ (pv 4) Ze (ZH _)) (Vf (ZI Zbl (pv 2) Ze (ZH _)))))))))
  (Zj (Zw (Zo (Zr5 Tx) (hr.mono (by omega)) rfl Tx.ZoP Tx.ZiM.kp Tx.ZoQ .nil Zp (Zb (pv 0) (Zb (pv 1) Zc)))))
  ZF)
  (Zl (ZG (PW.pt (WC (ZI Zbl (pv 4) Ze (ZH _)) (Vf (ZI XV (pv 2) Ze (ZH _)))))
  (Zl (ZT (i:=5) Qs.nd rfl (Or.inl rfl) (ZB Y7 Ze (Zo (YE Tx) (hr.mono (by omega)) rfl Tx.YC Tx.Yw.kp Tx.YD .nil Zp (Zb (pv 0) (Zb (pv 1) (Zb (ZB Yq (pv 2) Ze) Zc))))))
  (Zl (ZT (i:=6) Qs.nd rfl (Or.inl rfl) (Zo ih (hr.mono (by omega)) rfl Tx.ZcO Tx.Zam.kp Tx.ZcP .nil Zp (Zb (pv 0) (Zb (pv 1) (Zb (pv 5) (Zb (ZB Yq (pv 3) Ze) Zc))))))
  (Zj (Zw (YM (Zb (Zz Z5 (ZW (Zb Zn (Zb Zn Zc))) (ZB We (pv 4) Ze) (fun _ _=>rfl)) (Zb (pv 6) (Zb (Zo ih (hr.mono (by omega)) rfl Tx.ZcO Tx.Zam.kp Tx.ZcP .nil Zp (Zb (pv 0) (Zb (pv 1) (Zb (ZB Yq (ZB Yq (pv 2) Ze) (pv 5)) (Zb (ZB Yq (pv 3) Ze) Zc))))) Zc))))))))
  ZF)
  (Zl (ZT (i:=7) Qs.nd rfl (Or.inl rfl) (Zo ih (hr.mono (by omega)) rfl Tx.ZcO Tx.Zam.kp Tx.ZcP .nil Zp (Zb (pv 0) (Zb (pv 1) (Zb (ZB Yq (pv 2) Ze) (Zb (ZB Yq (pv 3) Ze) Zc))))))
  (Zl (ZG (ZI ZZ (ZB We (pv 4) Ze) Ze (ZH _))
  (Zl (ZT (i:=5) Qs.nd rfl (Or.inl rfl) (Zz Z5 (ZW (Zb (Zo (YE Tx) (hr.mono (by omega)) rfl Tx.YC Tx.Yw.kp Tx.YD .nil Zp (Zb (pv 0) (Zb (pv 1) (Zb Ze Zc)))) (Zb (Zo (YE Tx) (hr.mono (by omega)) rfl Tx.YC Tx.Yw.kp Tx.YD .nil Zp (Zb (pv 0) (Zb (pv 1) (Zb Ze Zc)))) Zc))) (ZB QQ (Zo (YE Tx) (hr.mono (by omega)) rfl Tx.YC Tx.Yw.kp Tx.YD .nil Zp (Zb (pv 0) (Zb (pv 1) (Zb Ze Zc)))) Ze) (fun _ _=>rfl)))
  (Zj (Zw (YM (Zb Zn (Zb (pv 5) (Zb (Z4 (Zli rfl) rfl Tx.ZoD ZoA (Zb Ze (Zb (ZB Y7 (pv 5) (Zz Z5 (ZW (Zb Ze (Zb Ze (Zb Ze (Zb Ze Zc))))) (Zo (YE Tx) (hr.mono (by omega)) rfl Tx.YC Tx.Yw.kp Tx.YD .nil Zp (Zb (pv 0) (Zb (pv 1) (Zb Ze Zc)))) (fun _ _=>rfl))) Zc))) (Zb (pv 7) Zc))))))))
  ZF)
  (Zj (Zw (YM (Zb Zn (Zb (Zo (Zkh Tx) (hr.mono (by omega)) rfl Tx.ZiK Tx.Zfw.kp Tx.ZiL .nil Zp (Zb (pv 0) (Zb (pv 1) (Zb Ze (Zb (Zz Z5 (ZW (Zb Ze (Zb Ze Zc))) (ZB QQ (Zo (YE Tx) (hr.mono (by omega)) rfl Tx.YC Tx.Yw.kp Tx.YD .nil Zp (Zb (pv 0) (Zb (pv 1) (Zb Ze Zc)))) Ze) (fun _ _=>rfl)) Zc))))) (Zb (pv 7) Zc))))))))))) ?_
 refine Za _ rfl (Za _ rfl ⟨a,tp,ns,k,6,rfl,S,hT,k0,by omega,by decide,by decide,fun c H1 c0 c1 b1=>?_⟩)
 have lf:∀ (v:V) (r:RT) (k':Int) (H':Hp),YW tp k' H1 H'→k+1≤k'→k'≤k+1+16→Z8 tp H' v r→r.good→r.weight=1→r.depth=1→Q v H':=fun v r k' H' b u1 u2 ht g w1 w2=>q v r k' H' (b1.trans b) (by omega) (by omega) ht g (by omega) (by omega)
 refine ZE _ rfl rfl (Za _ rfl ?_)
 by_cases hr1:room=1
 ·exact Zy (decide_eq_true (congrArg V.int (by omega))) (Zy rfl (Za _ rfl (Za _ rfl (Zk a tp ns (k+1) rfl (b1.scr S) b1.tape (by omega) (by omega) lf))))
 refine Zh (by rw [UV];simp only [beq_iff_eq];omega) ?_
 refine ZE _ rfl rfl (Za _ rfl ?_)
 by_cases hd1:deep=1
 ·exact Zy (decide_eq_true (congrArg V.int (by omega))) (Zy rfl (Za _ rfl (Za _ rfl (Zk a tp ns (k+1) rfl (b1.scr S) b1.tape (by omega) (by omega) lf))))
 refine Zh (by rw [UV];simp only [beq_iff_eq];omega) ?_
 refine ZE _ rfl rfl (Za _ rfl ?_)
 rcases (show (c=0∧room < 6)∨(c=0∧¬ room < 6)∨c≠0 by omega) with ⟨h0,h6⟩ | ⟨h0,h6⟩ | h0
 ·refine Zy (decide_eq_true (congrArg V.int h0)) (Za _ rfl (ZA _ _ rfl rfl (Za _ rfl ?_)))
  exact Zy (decide_eq_true (by omega)) (Za _ rfl (Za _ rfl (Zk a tp ns (k+1) rfl (b1.scr S) b1.tape (by omega) (by omega) lf)))
 all_goals first
  | refine Zy (decide_eq_true (congrArg V.int h0)) (Za _ rfl (ZA _ _ rfl rfl (Za _ rfl (Zh (by rw [decide_eq_false (by omega)];decide) ?_))))
  | refine Zh (by rw [UV];simpa using h0) (Zh (by decide) ?_)
 all_goals
  clear h0
  rcases (show (c < 3∧2 < room)∨(c < 3∧¬ 2 < room)∨¬ c < 3 by omega) with ⟨h3,h2⟩ | ⟨h3,h2⟩ | h3
  ·refine Za _ rfl (ZA _ _ rfl rfl (Za _ rfl (Zy (decide_eq_true h3) (Za _ rfl (ZA _ _ rfl rfl (Za _ rfl (Zy (decide_eq_true (by omega)) ?_)))))))
   refine Za _ rfl (Za _ rfl (Za _ rfl (ZA _ _ rfl rfl ⟨a,tp,ns,k+1,_,rfl,b1.scr S,b1.tape,by omega,by omega,by omega,by omega,fun d H2 d0 d1 b2=>(ZA _ _ rfl rfl ?_)⟩)))
   have B2:=b1.trans b2
   obtain ⟨f,ef⟩:∃ f:Nat,1+d=((f:Nat):Int):=⟨(1+d).toNat,by omega⟩
   refine Za _ rfl (Za _ rfl (Za _ rfl (Za _ rfl (ZA _ _ rfl rfl ⟨a,tp,ns,k+1+1,f,deep - 1,eq4 ef (by omega),B2.scr S,B2.tape,by omega,by omega,by omega,by omega,by omega,by omega,fun v1 r1 k1' H3 b3 u1 u2 t1 g1 w1 e1=>?_⟩))))
   have B3:=B2.trans b3
   refine ⟨by show 2≤sizeLine;decide,fun p hp=>?_⟩
   have sp:=Zr hp (.lst [.str (Str.ofString "either"),.str (Str.ofString "both")])
   have B3':=B3.same sp
   have hx:=at2 (x:=.str (Str.ofString "either")) (y:=.str (Str.ofString "both")) (d:=c % 2) (Int.emod_nonneg _ (by decide)) (Int.emod_lt_of_pos _ (by decide))
   obtain ⟨wv,ew,ww⟩:∃ (wv:V),Yf [V.str (Str.ofString "either"),.str (Str.ofString "both")] (c % 2)=some wv∧(wv=.str (Str.ofString "either")∨wv=.str (Str.ofString "both")):=by
    rcases hx with hx | hx
    ·exact Za _ hx (.inl rfl)
    ·exact Za _ hx (.inr rfl)
   refine Za _ rfl (ZV _ _ rfl rfl (by show (0:Int) < 2;decide) (ZC p _ _ wv rfl rfl (Zm.of Zf) ew (Za _ rfl ?_)))
   refine Za _ rfl (Za _ rfl (Za _ rfl (ZA _ _ rfl rfl (Za _ rfl (ZA _ _ rfl rfl (Za _ rfl (ZA _ _ rfl rfl ⟨a,tp,ns,k1',room - 1 - f,deep - 1,eq4 (by omega) (by omega),B3'.scr S,B3'.tape,by omega,by omega,by omega,by omega,by omega,by omega,fun v2 r2 k2' H4 b4 u3 u4 t2 g2 w2 e2=>?_⟩)))))))
   refine ⟨by show 3≤sizeLine;decide,fun p2 hp2=>?_⟩
   have s2:=Zr hp2 (.tup [wv,v1,v2])
   have T1:=((t1.same sp).bump B3'.tape b4).same s2
   have T2:=t2.same s2
   have B5:=(B3'.trans b4).same s2
   rcases ww with rfl | rfl
   ·have ed:(RT.either r1 r2).depth=1+max r1.depth r2.depth:=rfl
    have ew2:(RT.either r1 r2).weight=1+(r1.weight+r2.weight):=rfl
    exact q _ (.either r1 r2) _ _ B5 (by omega) (by omega) (.either Zf T1 T2) ⟨g1,g2⟩ (by omega) (by omega)
   ·have ed:(RT.both r1 r2).depth=1+max r1.depth r2.depth:=rfl
    have ew2:(RT.both r1 r2).weight=1+(r1.weight+r2.weight):=rfl
    exact q _ (.both r1 r2) _ _ B5 (by omega) (by omega) (.both Zf T1 T2) ⟨g1,g2⟩ (by omega) (by omega)
  all_goals first
   | refine Za _ rfl (ZA _ _ rfl rfl (Za _ rfl (Zy (decide_eq_true h3) (Za _ rfl (ZA _ _ rfl rfl (Za _ rfl (Zh (by rw [decide_eq_false (by omega)];decide) ?_)))))))
   | refine Za _ rfl (ZA _ _ rfl rfl (Za _ rfl (Zh (by rw [decide_eq_false h3];decide) (Zh (by decide) ?_))))
  all_goals
   refine Za _ rfl (Za _ rfl (Za _ rfl (ZA _ _ rfl rfl (Za _ rfl (ZA _ _ rfl rfl ⟨a,tp,ns,k+1,room - 1,deep - 1,eq4 (by omega) (by omega),b1.scr S,b1.tape,by omega,by omega,by omega,by omega,by omega,by omega,fun v1 r1 k1' H2 b2 u1 u2 t1 g1 w1 e1=>?_⟩)))))
   have B2:=b1.trans b2
   refine Za _ rfl (ZX _ _ rfl rfl (by show (0:Int) < 2;decide) rfl (Za _ rfl (Zbt (fun _=>?_) (fun _=>?_))))
   ·refine Za _ rfl (Za _ rfl ⟨a,tp,ns,k1',40,rfl,B2.scr S,B2.tape,by omega,by omega,by decide,by decide,fun x1 H3 x10 x11 b3=>?_⟩)
    have B3:=B2.trans b3
    refine Za _ rfl (Za _ rfl ⟨a,tp,ns,k1'+1,10000,rfl,B3.scr S,B3.tape,by omega,by omega,by decide,by decide,fun x2 H4 x20 x21 b4=>⟨by show 2≤sizeLine;decide,fun p hp=>?_⟩⟩)
    have B4:=B3.trans b4
    have sp:=Zr hp (.lst [.int x1,.int x2])
    have B4':=B4.same sp
    have np:p≠tp:=WB B4.tape hp
    refine Za _ rfl (Za _ rfl ⟨a,tp,ns,k1'+1+1,3,rfl,B4'.scr S,B4'.tape,by omega,by omega,by decide,by decide,fun x3 H5 x30 x31 b5=>(ZV _ _ rfl rfl ⟨by decide,by decide⟩ ?_)⟩)
    have B5:=B4'.trans b5
    obtain ⟨vf,ef,f,rfl,hf⟩:=Wk (p:=fun v=>∃ n:Nat,v=V.int (n:Nat)∧n≤9999) (xs:=[.int x1,.int x2]) (d:=x3 / 2) (fun v hv=>by
     simp only [List.mem_cons,List.not_mem_nil,or_false] at hv
     rcases hv with rfl | rfl
     ·exact Za x1.toNat (congrArg V.int (by omega)) (by omega)
     ·exact Za x2.toNat (congrArg V.int (by omega)) (by omega)) (by omega) (by show x3 / 2 < 2;omega)
    refine ZC p _ _ _ rfl rfl (Zm.of (b5.keep _ _ np Zf)) ef ?_
    refine Za _ rfl (ZE _ rfl (by show 4≤sizeLine;decide) fun p2 hp2=>?_)
    have sp2:=Zr hp2 (.lst [.int 0,.int 6,.int 30,.int 9999])
    have B5':=B5.same sp2
    have np2:p2≠tp:=WB B5.tape hp2
    refine Za _ rfl (Za _ rfl ⟨a,tp,ns,k1'+1+1+1,4,rfl,B5'.scr S,B5'.tape,by omega,by omega,by decide,by decide,fun x4 H6 x40 x41 b6=>?_⟩)
    have B6:=B5'.trans b6
    obtain ⟨vg,eg,g,rfl,hg⟩:=Wk (p:=fun v=>∃ n:Nat,v=V.int (n:Nat)∧n≤9999) (xs:=[.int 0,.int 6,.int 30,.int 9999]) (d:=x4) (fun v hv=>by
     simp only [List.mem_cons,List.not_mem_nil,or_false] at hv
     rcases hv with rfl | rfl | rfl | rfl
     ·exact Za 0 rfl (by decide)
     ·exact Za 6 rfl (by decide)
     ·exact Za 30 rfl (by decide)
     ·exact Za 9999 rfl (by decide)) x40 (by show x4 < 4;omega)
    refine ZC p2 _ _ _ rfl rfl (Zm.of (b6.keep _ _ np2 Zf)) eg (ZA _ _ rfl rfl (WO _ _ rfl (ZE _ rfl (by show 4≤sizeLine;decide) fun p3 hp3=>?_)))
    obtain ⟨y,ey,hy1,hy2⟩:∃ y:Nat,(if ((f:Nat):Int)+((g:Nat):Int) < 9999 then ((f:Nat):Int)+((g:Nat):Int) else (9999:Int))=((y:Nat):Int)∧f≤y∧y≤9999:=by
     by_cases z:((f:Nat):Int)+((g:Nat):Int) < 9999
     ·exact ZE (f+g) (by rw [if_pos z];omega) (by omega) (by omega)
     ·exact ZE 9999 (by rw [if_neg z];rfl) (by omega) (by omega)
    have s3:=Zr hp3 (.tup [.str (Str.ofString "span"),.int (f:Nat),.int (if ((f:Nat):Int)+((g:Nat):Int) < 9999 then ((f:Nat):Int)+((g:Nat):Int) else (9999:Int)),v1])
    have T1:=((((((t1.bump B2.tape b3).bump B3.tape b4).same sp).bump B4'.tape b5).same sp2).bump B5'.tape b6).same s3
    have ed:(RT.span f y r1).depth=1+r1.depth:=rfl
    have ew2:(RT.span f y r1).weight=1+r1.weight:=rfl
    have at3:upd H6 p3 (.tup [.str (Str.ofString "span"),.int (f:Nat),.int (if ((f:Nat):Int)+((g:Nat):Int) < 9999 then ((f:Nat):Int)+((g:Nat):Int) else (9999:Int)),v1]) p3=some (.tup [.str (Str.ofString "span"),.int (f:Nat),.int (y:Nat),v1]):=by rw [Zf,ey]
    exact q _ (.span f y r1) _ _ (B6.same s3) (by omega) (by omega) (.span at3 T1) ⟨hy1,hy2,g1⟩ (by omega) (by omega)
   ·refine Za _ rfl (ZE _ rfl (by show 2≤sizeLine;decide) fun p hp=>?_)
    have sp:=Zr hp (.lst [.int 40,.int 9999])
    have B2':=B2.same sp
    have np:p≠tp:=WB B2.tape hp
    refine Za _ rfl (Za _ rfl ⟨a,tp,ns,k1',3,rfl,B2'.scr S,B2'.tape,by omega,by omega,by decide,by decide,fun x3 H3 x30 x31 b3=>(ZV _ _ rfl rfl ⟨by decide,by decide⟩ ?_)⟩)
    have B3:=B2'.trans b3
    obtain ⟨vf,ef,f,rfl,hf⟩:=Wk (p:=fun v=>∃ n:Nat,v=V.int (n:Nat)∧n≤9999) (xs:=[.int 40,.int 9999]) (d:=x3 / 2) (fun v hv=>by
     simp only [List.mem_cons,List.not_mem_nil,or_false] at hv
     rcases hv with rfl | rfl
     ·exact Za 40 rfl (by decide)
     ·exact Za 9999 rfl (by decide)) (by omega) (by show x3 / 2 < 2;omega)
    refine ZC p _ _ _ rfl rfl (Zm.of (b3.keep _ _ np Zf)) ef ⟨a,tp,ns,k1'+1,0,f,rfl,B3.scr S,B3.tape,by omega,by omega,by omega,hf,fun l zs k2 H4 b4 u3 u4 hl hne g=>?_⟩
    refine ZE _ rfl (by show 3≤sizeLine;decide) fun p3 hp3=>?_
    have s3:=Zr hp3 (.tup [.str (Str.ofString "but"),.ref l,v1])
    have T1:=(((t1.same sp).bump B2'.tape b3).bump B3.tape b4).same s3
    have ed:(RT.but zs r1).depth=1+r1.depth:=rfl
    have ew2:(RT.but zs r1).weight=1+r1.weight:=rfl
    exact q _ (.but zs r1) _ _ ((B3.trans b4).same s3) (by omega) (by omega) (.but Zf (s3 _ _ hl) hne T1) ⟨⟨g.one,g.few,g.up,fun y hy=>⟨Nat.zero_le _,Nat.le_trans (g.all y hy).2 hf⟩⟩,g1⟩ (by omega) (by omega)
def Zr8 (c:RC) (K:W.Frag) (n:Nat):Sp:=fun vs H Q _=>∃ (tp:Addr) (v:V) (r:RT),vs=[v]∧Z8 tp H v r∧r.good∧r.weight≤15∧r.depth≤8∧r.depth≤n∧∀ b H',Zt H H'→ZM c K H' b r→Q (.ref b) H'
theorem Zr9 (Tx:ZD K mg t):∀ n:Nat,Zv P w K mg base Zx (n+42) t.ZeJ t.ZeK ["_law_tree_here"] (Zr8 (rc t) K n):=by
 intro n
 induction n with
 | zero =>
  refine Tx.UK.ok ZhX (fun vs H Q E h=>?_) (fun cdv A outer s H vs Q E hr h=>?_)
  ·obtain ⟨tp,v,r,rfl,_⟩:=h
   rfl
  ·obtain ⟨tp,v,r,rfl,h,g,hw,h8,hd,_⟩:=h
   have:=r.depth_pos
   omega
 | succ n ih =>
 refine Tx.UK.ok ZhX (fun vs H Q E h=>?_) (fun cdv A outer s H vs Q E hr h=>?_)
 ·obtain ⟨tp,v,r,rfl,_⟩:=h
  rfl
 obtain ⟨tp,v,r,rfl,h,g,hw,h8,hd,q⟩:=h
 refine Za _ (Zl (ZG (ZI ZZ (Zz ZU (pv 0) Ze (fun _ _=>rfl)) Zn (ZH _))
  (Zj (Zw (ZbA Tx.Zc4 rfl Tx.QE)))
  ZF)
  (Zl (ZG (ZI ZZ (Zz ZU (pv 0) Ze (fun _ _=>rfl)) Zn (ZH _))
  (Zj (Zw (YN Tx.Zc5 (ZrC Tx) (hr.mono (by omega)) rfl Tx.Zdd Tx.ZcY .nil Zp (Zb (Zz ZU (pv 0) Ze (fun _ _=>rfl)) Zc))))
  ZF)
  (Zl (ZG (ZI ZZ (Zz ZU (pv 0) Ze (fun _ _=>rfl)) Zn (ZH _))
  (Zj (Zw (YN Tx.Zc8 (ZrD Tx) (hr.mono (by omega)) rfl Tx.Zdf Tx.Zc0 .nil Zp (Zb (Zz ZU (pv 0) Ze (fun _ _=>rfl)) (Zb (YU Zbq rfl Tx.Qw Q3 (Zb (Zz ZU (pv 0) Ze (fun _ _=>rfl)) Zc)) Zc)))))
  ZF)
  (Zl (ZG (ZI ZZ (Zz ZU (pv 0) Ze (fun _ _=>rfl)) Zn (ZH _))
  (Zj (Zw (YN Tx.Zc7 (Zry Tx) (hr.mono (by omega)) rfl Tx.Zde Tx.ZcZ .nil Zp (Zb (Zz ZU (pv 0) Ze (fun _ _=>rfl)) (Zb (Zz ZU (pv 0) Ze (fun _ _=>rfl)) (Zb (Zo ih (hr.mono (by omega)) rfl Tx.Qy Tx.UK.kp Tx.Qz .nil Zp (Zb (Zz ZU (pv 0) Ze (fun _ _=>rfl)) Zc)) Zc))))))
  ZF)
  (Zl (ZG (ZI ZZ (Zz ZU (pv 0) Ze (fun _ _=>rfl)) Zn (ZH _))
  (Zj (Zw (YN Tx.Zdb (Zrz Tx) (hr.mono (by omega)) rfl Tx.Zdi Tx.Zc3 .nil Zp (Zb (YU Zbq rfl Tx.Qw Q3 (Zb (Zz ZU (pv 0) Ze (fun _ _=>rfl)) Zc)) (Zb (Zo ih (hr.mono (by omega)) rfl Tx.Qy Tx.UK.kp Tx.Qz .nil Zp (Zb (Zz ZU (pv 0) Ze (fun _ _=>rfl)) Zc)) Zc)))))
  ZF)
  (Zl (ZG (ZI ZZ (Zz ZU (pv 0) Ze (fun _ _=>rfl)) Zn (ZH _))
  (Zj (Zw (YN Tx.Zc9 (ZrA Tx) (hr.mono (by omega)) rfl Tx.Zdg Tx.Zc1 .nil Zp (Zb (Zo ih (hr.mono (by omega)) rfl Tx.Qy Tx.UK.kp Tx.Qz .nil Zp (Zb (Zz ZU (pv 0) Ze (fun _ _=>rfl)) Zc)) (Zb (Zo ih (hr.mono (by omega)) rfl Tx.Qy Tx.UK.kp Tx.Qz .nil Zp (Zb (Zz ZU (pv 0) Ze (fun _ _=>rfl)) Zc)) Zc)))))
  ZF)
  (Zj (Zw (YN Tx.Zda (ZrB Tx) (hr.mono (by omega)) rfl Tx.Zdh Tx.Zc2 .nil Zp (Zb (Zo ih (hr.mono (by omega)) rfl Tx.Qy Tx.UK.kp Tx.Qz .nil Zp (Zb (Zz ZU (pv 0) Ze (fun _ _=>rfl)) Zc)) (Zb (Zo ih (hr.mono (by omega)) rfl Tx.Qy Tx.UK.kp Tx.Qz .nil Zp (Zb (Zz ZU (pv 0) Ze (fun _ _=>rfl)) Zc)) Zc))))))))))) ?_
 cases h with
 | always h =>
  refine Za _ rfl (Zk _ _ 0 _ rfl rfl (Zi.of h) rfl rfl (Za _ rfl (Zy (by decide +kernel) ?_)))
  exact fun x dx nx nd nex=>q x _ (Yd nx (Yd nd (Zt.refl _) _) _) (.always Zf)
 | week h =>
  refine Za _ rfl (Zk _ _ 0 _ rfl rfl (Zi.of h) rfl rfl (Za _ rfl (Zh (by decide +kernel) ?_)))
  refine Za _ rfl (Zk _ _ 0 _ rfl rfl (Zi.of h) rfl rfl (Za _ rfl (Zy (by decide +kernel) ?_)))
  exact Za _ rfl (ZC _ _ 1 _ rfl rfl (Zi.of h) rfl fun x dx nx nd nex=>(Xc x H _ rfl (Xq nx nd) g fun H' s' h'=>⟨rfl,q x H' s' (h'.same (Xb _ _))⟩))
 | each h hl ne =>
  rename_i a l m ss
  refine Za _ rfl (Zk _ _ 0 _ rfl rfl (Zi.of h) rfl rfl (Za _ rfl (Zh (by decide +kernel) ?_)))
  refine Za _ rfl (Zk _ _ 0 _ rfl rfl (Zi.of h) rfl rfl (Za _ rfl (Zh (by decide +kernel) ?_)))
  refine Za _ rfl (Zk _ _ 0 _ rfl rfl (Zi.of h) rfl rfl (Za _ rfl (Zy (by decide +kernel) ?_)))
  refine Za _ rfl (ZC _ _ 1 _ rfl rfl (Zi.of h) rfl (Za _ rfl (ZC _ _ 2 _ rfl rfl (Zi.of h) rfl (ZA l _ rfl (.inl (Zm.of hl)) fun p hp x dx nx nd nex=>?_))))
  have s1:=Zr hp (.lst (ZR ss))
  exact X54 x p _ _ _ rfl (Xq nx nd) Zf g fun H' s' h'=>⟨rfl,q x H' (s1.trans s') (h'.same (Xb _ _))⟩
 | span h hv =>
  rename_i a x0 y0 v r
  have ed:(RT.span x0 y0 r).depth=1+r.depth:=rfl
  have ew:(RT.span x0 y0 r).weight=1+r.weight:=rfl
  refine Za _ rfl (Zk _ _ 0 _ rfl rfl (Zi.of h) rfl rfl (Za _ rfl (Zh (by decide +kernel) ?_)))
  refine Za _ rfl (Zk _ _ 0 _ rfl rfl (Zi.of h) rfl rfl (Za _ rfl (Zh (by decide +kernel) ?_)))
  refine Za _ rfl (Zk _ _ 0 _ rfl rfl (Zi.of h) rfl rfl (Za _ rfl (Zh (by decide +kernel) ?_)))
  refine Za _ rfl (Zk _ _ 0 _ rfl rfl (Zi.of h) rfl rfl (Za _ rfl (Zy (by decide +kernel) ?_)))
  refine Za _ rfl (ZC _ _ 1 _ rfl rfl (Zi.of h) rfl (Za _ rfl (ZC _ _ 2 _ rfl rfl (Zi.of h) rfl (Za _ rfl (ZC _ _ 3 _ rfl rfl (Zi.of h) rfl (Vx tp v r rfl hv g.2.2 (by omega) (by omega) (by omega) fun b H1 s1 h1=>?_))))))
  exact fun x dx nx nd nex=>⟨x,b,H1,x0,y0,r,rfl,Xq nx nd,h1,g,hw,h8,by omega,fun H' s' h'=>⟨rfl,q x H' (s1.trans s') (h'.same (Xb _ _))⟩⟩
 | but h hl ne hv =>
  rename_i a l ds v r
  have ed:(RT.but ds r).depth=1+r.depth:=rfl
  have ew:(RT.but ds r).weight=1+r.weight:=rfl
  refine Za _ rfl (Zk _ _ 0 _ rfl rfl (Zi.of h) rfl rfl (Za _ rfl (Zh (by decide +kernel) ?_)))
  refine Za _ rfl (Zk _ _ 0 _ rfl rfl (Zi.of h) rfl rfl (Za _ rfl (Zh (by decide +kernel) ?_)))
  refine Za _ rfl (Zk _ _ 0 _ rfl rfl (Zi.of h) rfl rfl (Za _ rfl (Zh (by decide +kernel) ?_)))
  refine Za _ rfl (Zk _ _ 0 _ rfl rfl (Zi.of h) rfl rfl (Za _ rfl (Zh (by decide +kernel) ?_)))
  refine Za _ rfl (Zk _ _ 0 _ rfl rfl (Zi.of h) rfl rfl (Za _ rfl (Zy (by decide +kernel) ?_)))
  refine Za _ rfl (ZC _ _ 1 _ rfl rfl (Zi.of h) rfl (ZA l _ rfl (.inl (Zm.of hl)) fun p hp=>?_))
  have s1:=Zr hp (.lst (ZR ds))
  have h1:=s1 _ _ h
  refine Za _ rfl (ZC _ _ 2 _ rfl rfl (Zi.of h1) rfl (Vx tp v r rfl (hv.same s1) g.2 (by omega) (by omega) (by omega) fun b H2 s2 h2=>?_))
  exact fun x dx nx nd nex=>⟨x,p,b,H2,ds,r,rfl,Xq nx nd,s2 _ _ Zf,h2,g,hw,h8,by omega,fun H' s' h'=>⟨rfl,q x H' ((s1.trans s2).trans s') (h'.same (Xb _ _))⟩⟩
 | either h hv hu =>
  rename_i a v u r r2
  have ed:(RT.either r r2).depth=1+max r.depth r2.depth:=rfl
  have ew:(RT.either r r2).weight=1+(r.weight+r2.weight):=rfl
  refine Za _ rfl (Zk _ _ 0 _ rfl rfl (Zi.of h) rfl rfl (Za _ rfl (Zh (by decide +kernel) ?_)))
  refine Za _ rfl (Zk _ _ 0 _ rfl rfl (Zi.of h) rfl rfl (Za _ rfl (Zh (by decide +kernel) ?_)))
  refine Za _ rfl (Zk _ _ 0 _ rfl rfl (Zi.of h) rfl rfl (Za _ rfl (Zh (by decide +kernel) ?_)))
  refine Za _ rfl (Zk _ _ 0 _ rfl rfl (Zi.of h) rfl rfl (Za _ rfl (Zh (by decide +kernel) ?_)))
  refine Za _ rfl (Zk _ _ 0 _ rfl rfl (Zi.of h) rfl rfl (Za _ rfl (Zh (by decide +kernel) ?_)))
  refine Za _ rfl (Zk _ _ 0 _ rfl rfl (Zi.of h) rfl rfl (Za _ rfl (Zy (by decide +kernel) ?_)))
  refine Za _ rfl (ZC _ _ 1 _ rfl rfl (Zi.of h) rfl (Vx tp v r rfl hv g.1 (by omega) (by omega) (by omega) fun b H1 s1 h1=>?_))
  have h2:=s1 _ _ h
  refine Za _ rfl (ZC _ _ 2 _ rfl rfl (Zi.of h2) rfl (Vx tp u r2 rfl (hu.same s1) g.2 (by omega) (by omega) (by omega) fun c H2 s2 h3=>?_))
  exact fun x dx nx nd nex=>⟨x,b,c,H2,r,r2,rfl,Xq nx nd,h1.same s2,h3,g,hw,h8,by omega,by omega,fun H' s' h'=>⟨rfl,q x H' ((s1.trans s2).trans s') (h'.same (Xb _ _))⟩⟩
 | both h hv hu =>
  rename_i a v u r r2
  have ed:(RT.both r r2).depth=1+max r.depth r2.depth:=rfl
  have ew:(RT.both r r2).weight=1+(r.weight+r2.weight):=rfl
  refine Za _ rfl (Zk _ _ 0 _ rfl rfl (Zi.of h) rfl rfl (Za _ rfl (Zh (by decide +kernel) ?_)))
  refine Za _ rfl (Zk _ _ 0 _ rfl rfl (Zi.of h) rfl rfl (Za _ rfl (Zh (by decide +kernel) ?_)))
  refine Za _ rfl (Zk _ _ 0 _ rfl rfl (Zi.of h) rfl rfl (Za _ rfl (Zh (by decide +kernel) ?_)))
  refine Za _ rfl (Zk _ _ 0 _ rfl rfl (Zi.of h) rfl rfl (Za _ rfl (Zh (by decide +kernel) ?_)))
  refine Za _ rfl (Zk _ _ 0 _ rfl rfl (Zi.of h) rfl rfl (Za _ rfl (Zh (by decide +kernel) ?_)))
  refine Za _ rfl (Zk _ _ 0 _ rfl rfl (Zi.of h) rfl rfl (Za _ rfl (Zh (by decide +kernel) ?_)))
  refine Za _ rfl (ZC _ _ 1 _ rfl rfl (Zi.of h) rfl (Vx tp v r rfl hv g.1 (by omega) (by omega) (by omega) fun b H1 s1 h1=>?_))
  have h2:=s1 _ _ h
  refine Za _ rfl (ZC _ _ 2 _ rfl rfl (Zi.of h2) rfl (Vx tp u r2 rfl (hu.same s1) g.2 (by omega) (by omega) (by omega) fun c H2 s2 h3=>?_))
  exact fun x dx nx nd nex=>⟨x,b,c,H2,r,r2,rfl,Xq nx nd,h1.same s2,h3,g,hw,h8,by omega,by omega,fun H' s' h'=>⟨rfl,q x H' ((s1.trans s2).trans s') (h'.same (Xb _ _))⟩⟩
def Zsa (n:Nat):Sp:=fun vs H Q _=>∃ (tp:Addr) (v:V) (r:RT) (d:Nat),vs=[v,.int (d:Nat)]∧Z8 tp H v r∧r.good∧r.depth≤n∧∀ H',Zt H H'→Q (.bl (r.runs d)) H'
theorem Zsb (Tx:ZD K mg t):∀ n:Nat,Zv P w K mg base Zx (n+1) t.ZeL t.ZeM ["_law_tree_here","_law_day"] (Zsa n):=by
 intro n
 induction n with
 | zero =>
  refine Tx.UL.ok ZaL (fun vs H Q E h=>?_) (fun cdv A outer s H vs Q E hr h=>?_)
  ·obtain ⟨tp,v,r,d,rfl,_⟩:=h
   rfl
  ·obtain ⟨tp,v,r,d,rfl,h,g,hd,_⟩:=h
   have:=r.depth_pos
   omega
 | succ n ih =>
 refine Tx.UL.ok ZaL (fun vs H Q E h=>?_) (fun cdv A outer s H vs Q E hr h=>?_)
 ·obtain ⟨tp,v,r,d,rfl,_⟩:=h
  rfl
 obtain ⟨tp,v,r,d,rfl,h,g,hd,q⟩:=h
 refine Za _ (Zl (ZG (ZI ZZ (Zz ZU (pv 0) Ze (fun _ _=>rfl)) Zn (ZH _))
  (Zl (ZT (i:=2) ZaL.nd rfl (Or.inl rfl) (Zz ZU (pv 0) Ze (fun _ _=>rfl)))
  (Zl (Qd PassesOwn.never rfl (QO rfl Tx.Zag (Zb (ZB We (pv 1) Ze) Zc)) (Y6 (i:=3) ZaL.nd rfl (Or.inl rfl))
  (Zj (ZT (i:=2) ZaL.nd rfl (Or.inl rfl) (ZB QQ (pv 2) Ze))))
  (Zj (Zw (XF ZZ (ZB We (pv 2) Ze) Ze (ZH _))))))
  ZF)
  (Zl (ZG (ZI ZZ (Zz ZU (pv 0) Ze (fun _ _=>rfl)) Zn (ZH _))
  (Zj (Zw (XF WH (ZB Yq (pv 1) (ZB Zbj (ZB QQ (pv 1) (Zz ZU (pv 0) Ze (fun _ _=>rfl))) (Zz ZU (pv 0) Ze (fun _ _=>rfl)))) (Zz ZU (pv 0) Ze (fun _ _=>rfl)) rfl)))
  ZF)
  (Zl (ZG (ZI ZZ (Zz ZU (pv 0) Ze (fun _ _=>rfl)) Zn (ZH _))
  (Zj (Zw (UT (XF Zlg (pv 1) (Zz ZU (pv 0) Ze (fun _ _=>rfl)) (ZH _)) (UT (XF Wf (pv 1) (Zz ZU (pv 0) Ze (fun _ _=>rfl)) (ZH _)) (US (Zo ih (hr.mono (by omega)) rfl Tx.QA Tx.UL.kp Tx.QB .nil Zp (Zb (Zz ZU (pv 0) Ze (fun _ _=>rfl)) (Zb (pv 1) Zc))))))))
  ZF)
  (Zl (ZG (ZI ZZ (Zz ZU (pv 0) Ze (fun _ _=>rfl)) Zn (ZH _))
  (Zj (Zw (XF Wt (Zo ih (hr.mono (by omega)) rfl Tx.QA Tx.UL.kp Tx.QB .nil Zp (Zb (Zz ZU (pv 0) Ze (fun _ _=>rfl)) (Zb (pv 1) Zc))) (XF WH (pv 1) (Zz ZU (pv 0) Ze (fun _ _=>rfl)) rfl) (ZH _))))
  ZF)
  (Zl (ZG (ZI ZZ (Zz ZU (pv 0) Ze (fun _ _=>rfl)) Zn (ZH _))
  (Zj (Zw (XF WH Xd (ZW (Zb (Zo ih (hr.mono (by omega)) rfl Tx.QA Tx.UL.kp Tx.QB .nil Zp (Zb (Zz ZU (pv 0) Ze (fun _ _=>rfl)) (Zb (pv 1) Zc))) (Zb (Zo ih (hr.mono (by omega)) rfl Tx.QA Tx.UL.kp Tx.QB .nil Zp (Zb (Zz ZU (pv 0) Ze (fun _ _=>rfl)) (Zb (pv 1) Zc))) Zc))) rfl)))
  ZF)
  (Zl (ZG (ZI ZZ (Zz ZU (pv 0) Ze (fun _ _=>rfl)) Zn (ZH _))
  (Zj (Zw (XF ZgB Xd (ZW (Zb (Zo ih (hr.mono (by omega)) rfl Tx.QA Tx.UL.kp Tx.QB .nil Zp (Zb (Zz ZU (pv 0) Ze (fun _ _=>rfl)) (Zb (pv 1) Zc))) (Zb (Zo ih (hr.mono (by omega)) rfl Tx.QA Tx.UL.kp Tx.QB .nil Zp (Zb (Zz ZU (pv 0) Ze (fun _ _=>rfl)) (Zb (pv 1) Zc))) Zc))) rfl)))
  ZF)
  (Zj (Zw Xd)))))))) ?_
 cases h with
 | always h =>
  refine Za _ rfl (Zk _ _ 0 _ rfl rfl (Zi.of h) rfl rfl (Za _ rfl (Zh (by decide +kernel) ?_)))
  refine Za _ rfl (Zk _ _ 0 _ rfl rfl (Zi.of h) rfl rfl (Za _ rfl (Zh (by decide +kernel) ?_)))
  refine Za _ rfl (Zk _ _ 0 _ rfl rfl (Zi.of h) rfl rfl (Za _ rfl (Zh (by decide +kernel) ?_)))
  refine Za _ rfl (Zk _ _ 0 _ rfl rfl (Zi.of h) rfl rfl (Za _ rfl (Zh (by decide +kernel) ?_)))
  refine Za _ rfl (Zk _ _ 0 _ rfl rfl (Zi.of h) rfl rfl (Za _ rfl (Zh (by decide +kernel) ?_)))
  refine Za _ rfl (Zk _ _ 0 _ rfl rfl (Zi.of h) rfl rfl (Za _ rfl (Zh (by decide +kernel) ?_)))
  exact q _ (Zt.refl _)
 | week h =>
  rename_i a b
  refine Za _ rfl (Zk _ _ 0 _ rfl rfl (Zi.of h) rfl rfl (Za _ rfl (Zy (by decide +kernel) ?_)))
  refine Za _ rfl (ZC _ _ 1 _ rfl rfl (Zi.of h) rfl ?_)
  have eN:(((d:Nat):Int) % 7).toNat=d % 7:=by omega
  refine Za _ rfl (ZV _ _ rfl rfl (by show (0:Int) < 7;decide) (WN _ rfl (by omega) (by omega) (ZdD (fun i σ H'=>H'=H∧∃ vk,σ=[some (.ref a),some (.int (d:Nat)),some (.int ((b / 2 ^ i:Nat):Nat)),vk]) ⟨rfl,_,by rw [Nat.pow_zero,Nat.div_one];rfl⟩ ?_ ?_)))
  ·rintro i σ H' hi ⟨rfl,vk,rfl⟩
   refine Za _ rfl (ZX _ _ rfl rfl ⟨by decide,by decide⟩ rfl ⟨some (.int (0+((i:Nat):Int))),?_⟩)
   have e:(((b / 2 ^ i:Nat):Nat):Int) / 2=((b / 2 ^ (i+1):Nat):Int):=by
    rw [Nat.pow_succ,← Nat.div_div_eq_div_mul]
    omega
   rw [← e]
   rfl
  ·rintro σ H' ⟨rfl,vk,rfl⟩
   refine Za _ rfl (ZX _ _ rfl rfl (by show (0:Int) < 2;decide) rfl ?_)
   have q1:=q H' (Zt.refl _)
   have e:(RT.week b).runs d=decide (V.int ((((b / 2 ^ ((((d:Nat):Int) % 7).toNat):Nat):Nat):Int) % 2)=V.int 1):=by
    rw [eN,UV]
    show (b / 2 ^ (d % 7) % 2 == 1)=_
    rw [Bool.eq_iff_iff,beq_iff_eq,beq_iff_eq]
    omega
   rw [e] at q1
   exact q1
 | each h hl ne =>
  rename_i a l m ss
  obtain ⟨g1,g2,g3⟩:=g
  refine Za _ rfl (Zk _ _ 0 _ rfl rfl (Zi.of h) rfl rfl (Za _ rfl (Zh (by decide +kernel) ?_)))
  refine Za _ rfl (Zk _ _ 0 _ rfl rfl (Zi.of h) rfl rfl (Za _ rfl (Zy (by decide +kernel) ?_)))
  have e1:((d:Nat):Int) - ((d:Nat):Int) / ((m:Nat):Int) * ((m:Nat):Int)=((d % m:Nat):Int):=by
   have:=Int.emod_def ((d:Nat):Int) ((m:Nat):Int)
   rw [Int.mul_comm] at this
   omega
  refine Za _ rfl (Za _ rfl (Za _ rfl (ZC _ _ 1 _ rfl rfl (Zi.of h) rfl (ZV _ _ rfl rfl ⟨by omega,by omega⟩ (Za _ rfl (ZC _ _ 1 _ rfl rfl (Zi.of h) rfl (ZV _ _ rfl rfl (.inr ⟨by omega,by omega⟩) (ZA _ _ rfl rfl (Za _ rfl (ZC _ _ 2 _ rfl rfl (Zi.of h) rfl (ZX l _ rfl (.inl (Zm.of hl)) rfl (QV ss) ?_)))))))))))
  have q1:=q H (Zt.refl _)
  have e2:XX (.int (((d:Nat):Int) - ((d:Nat):Int) / ((m:Nat):Int) * ((m:Nat):Int))) (ZR ss)=(RT.each m ss).runs d:=by
   rw [e1]
   exact ZaJ (d % m) ss
  rw [← e2] at q1
  exact q1
 | span h hv =>
  rename_i a x y v r
  have ed:(RT.span x y r).depth=1+r.depth:=rfl
  have q':∀ b:Bool,b=(decide (x≤d) && decide (d≤y) && r.runs d)→∀ H',Zt H H'→Q (.bl b) H':=fun b e H' s'=>by rw [e];exact q H' s'
  refine Za _ rfl (Zk _ _ 0 _ rfl rfl (Zi.of h) rfl rfl (Za _ rfl (Zh (by decide +kernel) ?_)))
  refine Za _ rfl (Zk _ _ 0 _ rfl rfl (Zi.of h) rfl rfl (Za _ rfl (Zh (by decide +kernel) ?_)))
  refine Za _ rfl (Zk _ _ 0 _ rfl rfl (Zi.of h) rfl rfl (Za _ rfl (Zy (by decide +kernel) ?_)))
  refine Za _ rfl (Za _ rfl (ZC _ _ 1 _ rfl rfl (Zi.of h) rfl (ZA _ _ rfl rfl (Za _ rfl ?_))))
  by_cases h1:x≤d
  ·refine Zy (decide_eq_true (by omega)) ?_
   refine Za _ rfl (Za _ rfl (ZC _ _ 2 _ rfl rfl (Zi.of h) rfl (ZA _ _ rfl rfl (Za _ rfl ?_))))
   by_cases h2:d≤y
   ·refine Zy (decide_eq_true (by omega)) ?_
    exact Za _ rfl (ZC _ _ 3 _ rfl rfl (Zi.of h) rfl (Za _ rfl (ZC tp v r d rfl hv g.2.2 (by omega) fun H' s'=>q' _ (by rw [decide_eq_true h1,decide_eq_true h2];rfl) H' s')))
   ·refine Zh (by rw [decide_eq_false (by omega)];decide) ?_
    exact q' _ (by rw [decide_eq_false h2,Bool.and_false,Bool.false_and]) H (Zt.refl _)
  ·refine Zh (by rw [decide_eq_false (by omega)];decide) ?_
   exact q' _ (by rw [decide_eq_false h1,Bool.false_and,Bool.false_and]) H (Zt.refl _)
 | but h hl ne hv =>
  rename_i a l ds v r
  have ed:(RT.but ds r).depth=1+r.depth:=rfl
  refine Za _ rfl (Zk _ _ 0 _ rfl rfl (Zi.of h) rfl rfl (Za _ rfl (Zh (by decide +kernel) ?_)))
  refine Za _ rfl (Zk _ _ 0 _ rfl rfl (Zi.of h) rfl rfl (Za _ rfl (Zh (by decide +kernel) ?_)))
  refine Za _ rfl (Zk _ _ 0 _ rfl rfl (Zi.of h) rfl rfl (Za _ rfl (Zh (by decide +kernel) ?_)))
  refine Za _ rfl (Zk _ _ 0 _ rfl rfl (Zi.of h) rfl rfl (Za _ rfl (Zy (by decide +kernel) ?_)))
  refine Za _ rfl (ZC _ _ 2 _ rfl rfl (Zi.of h) rfl (Za _ rfl (ZC tp v r d rfl hv g.2 (by omega) fun H1 s1=>?_)))
  have h1:=s1 _ _ h
  refine Za _ rfl (Za _ rfl (ZC _ _ 1 _ rfl rfl (Zi.of h1) rfl ⟨l,_,rfl,.inl (Zm.of (s1 _ _ hl)),rfl,QV ds,rfl,?_⟩))
  have q1:=q H1 s1
  have e:(RT.but ds r).runs d=(!decide (V.bl (r.runs d)=V.bl (XX (.int ((d:Nat):Int)) (ZR ds)))):=by
   rw [ZaJ,Zbk]
   rfl
  rw [e] at q1
  exact q1
 | either h hv hu =>
  rename_i a v u r r2
  have ed:(RT.either r r2).depth=1+max r.depth r2.depth:=rfl
  refine Za _ rfl (Zk _ _ 0 _ rfl rfl (Zi.of h) rfl rfl (Za _ rfl (Zh (by decide +kernel) ?_)))
  refine Za _ rfl (Zk _ _ 0 _ rfl rfl (Zi.of h) rfl rfl (Za _ rfl (Zh (by decide +kernel) ?_)))
  refine Za _ rfl (Zk _ _ 0 _ rfl rfl (Zi.of h) rfl rfl (Za _ rfl (Zh (by decide +kernel) ?_)))
  refine Za _ rfl (Zk _ _ 0 _ rfl rfl (Zi.of h) rfl rfl (Za _ rfl (Zh (by decide +kernel) ?_)))
  refine Za _ rfl (Zk _ _ 0 _ rfl rfl (Zi.of h) rfl rfl (Za _ rfl (Zy (by decide +kernel) ?_)))
  refine Za _ rfl (ZC _ _ 1 _ rfl rfl (Zi.of h) rfl (Za _ rfl (ZC tp v r d rfl hv g.1 (by omega) fun H1 s1=>?_)))
  have h1:=s1 _ _ h
  refine Za _ rfl (ZC _ _ 2 _ rfl rfl (Zi.of h1) rfl (Za _ rfl (ZC tp u r2 d rfl (hu.same s1) g.2 (by omega) fun H2 s2=>?_)))
  refine ⟨by show 2≤sizeLine;decide,fun p hp=>(ZX p _ rfl (.inl (Zm.of Zf)) rfl rfl ?_)⟩
  have q1:=q _ ((s1.trans s2).trans (Zr hp (.lst [.bl (r.runs d),.bl (r2.runs d)])))
  have e:(RT.either r r2).runs d=XX (.bl true) [.bl (r.runs d),.bl (r2.runs d)]:=by
   show (r.runs d || r2.runs d)=_
   cases r.runs d <;> cases r2.runs d <;> rfl
  rw [e] at q1
  exact q1
 | both h hv hu =>
  rename_i a v u r r2
  have ed:(RT.both r r2).depth=1+max r.depth r2.depth:=rfl
  refine Za _ rfl (Zk _ _ 0 _ rfl rfl (Zi.of h) rfl rfl (Za _ rfl (Zh (by decide +kernel) ?_)))
  refine Za _ rfl (Zk _ _ 0 _ rfl rfl (Zi.of h) rfl rfl (Za _ rfl (Zh (by decide +kernel) ?_)))
  refine Za _ rfl (Zk _ _ 0 _ rfl rfl (Zi.of h) rfl rfl (Za _ rfl (Zh (by decide +kernel) ?_)))
  refine Za _ rfl (Zk _ _ 0 _ rfl rfl (Zi.of h) rfl rfl (Za _ rfl (Zh (by decide +kernel) ?_)))
  refine Za _ rfl (Zk _ _ 0 _ rfl rfl (Zi.of h) rfl rfl (Za _ rfl (Zh (by decide +kernel) ?_)))
  refine Za _ rfl (Zk _ _ 0 _ rfl rfl (Zi.of h) rfl rfl (Za _ rfl (Zy (by decide +kernel) ?_)))
  refine Za _ rfl (ZC _ _ 1 _ rfl rfl (Zi.of h) rfl (Za _ rfl (ZC tp v r d rfl hv g.1 (by omega) fun H1 s1=>?_)))
  have h1:=s1 _ _ h
  refine Za _ rfl (ZC _ _ 2 _ rfl rfl (Zi.of h1) rfl (Za _ rfl (ZC tp u r2 d rfl (hu.same s1) g.2 (by omega) fun H2 s2=>?_)))
  refine ⟨by show 2≤sizeLine;decide,fun p hp=>(ZX p _ rfl (.inl (Zm.of Zf)) rfl rfl ?_)⟩
  have q1:=q _ ((s1.trans s2).trans (Zr hp (.lst [.bl (r.runs d),.bl (r2.runs d)])))
  have e:(RT.both r r2).runs d = !XX (.bl false) [.bl (r.runs d),.bl (r2.runs d)]:=by
   show (r.runs d && r2.runs d)=_
   cases r.runs d <;> cases r2.runs d <;> rfl
  rw [e] at q1
  exact q1
def sgT (b:Nat):Nat→Str
 | 0=>Str.ofString ""
 | i+1=>sgT b i++X1 b i
theorem Zsc:∀ b,b < 128→U3 b=sgT b 7:=by decide +kernel
theorem Zsd:∀ b,b < 128→∀ i,i < 7→(sgT b i).length+(X1 b i).length≤1000:=by decide +kernel
theorem Zse {b i:Nat} (hi:i < 7):∃ c,Yf (Str.ofString "01").cps.toList (((b / 2 ^ i:Nat):Int) % 2)=some c∧(⟨#[c]⟩:Str)=X1 b i:=by
 have er:(RT.week b).runs i=(b / 2 ^ i % 2 == 1):=by
  show (b / 2 ^ (i % 7) % 2 == 1)=_
  rw [Nat.mod_eq_of_lt hi]
 unfold X1
 rw [er]
 rcases Nat.mod_two_eq_zero_or_one (b / 2 ^ i) with h | h
 ·rw [h,show ((b / 2 ^ i:Nat):Int) % 2=0 by omega]
  exact Za _ rfl (by decide +kernel)
 ·rw [h,show ((b / 2 ^ i:Nat):Int) % 2=1 by omega]
  exact Za _ rfl (by decide +kernel)
def Zsf (n:Nat):Sp:=fun vs H Q _=>∃ (tp:Addr) (v:V) (r:RT),vs=[v]∧Z8 tp H v r∧r.good∧r.weight≤1000∧r.depth≤n∧∀ p H',Zt H H'→H p=none→H' p=some (.lst (r.words.map V.str))→Q (.ref p) H'
theorem ZfZ (Tx:ZD K mg t):∀ n:Nat,Zv P w K mg base Zx (n+1) t.ZeN t.ZeO ["_law_tree_here"] (Zsf n):=by
 intro n
 induction n with
 | zero =>
  refine Tx.UM.ok Qt (fun vs H Q E h=>?_) (fun cdv A outer s H vs Q E hr h=>?_)
  ·obtain ⟨tp,v,r,rfl,_⟩:=h
   rfl
  ·obtain ⟨tp,v,r,rfl,h,g,hw,hd,_⟩:=h
   have:=r.depth_pos
   omega
 | succ n ih =>
 refine Tx.UM.ok Qt (fun vs H Q E h=>?_) (fun cdv A outer s H vs Q E hr h=>?_)
 ·obtain ⟨tp,v,r,rfl,_⟩:=h
  rfl
 obtain ⟨tp,v,r,rfl,h,g,hw,hd,q⟩:=h
 refine Za _ (Zl (ZG (ZI ZZ (Zz ZU (pv 0) Ze (fun _ _=>rfl)) Zn (ZH _))
  (Zl (ZT (i:=1) Qt.nd rfl (Or.inl rfl) Zn)
  (Zl (ZT (i:=2) Qt.nd rfl (Or.inl rfl) (Zz ZU (pv 0) Ze (fun _ _=>rfl)))
  (Zl (Qd PassesOwn.never rfl (QO rfl Tx.Zag (Zb Ze Zc)) (Y6 (i:=3) Qt.nd rfl (Or.inl rfl))
  (Zl (ZT (i:=1) Qt.nd rfl (Or.inl rfl) (ZB WV (pv 1) (Zz ZaE Zn (ZB We (pv 2) Ze) (fun _ _=>rfl))))
  (Zj (ZT (i:=2) Qt.nd rfl (Or.inl rfl) (ZB QQ (pv 2) Ze)))))
  (Zj (Zw (ZW (Zb Zn (Zb (pv 1) Zc))))))))
  ZF)
  (Zl (ZG (ZI ZZ (Zz ZU (pv 0) Ze (fun _ _=>rfl)) Zn (ZH _))
  (Zj (Zw (ZW (Zb Zn (Zb (YU Vk rfl Tx.W7 W4 (Zb (Zz ZU (pv 0) Ze (fun _ _=>rfl)) Zc)) (Zb (Xu PySem.F.plainAttrs_str PySem.F.slot_str_join PySem.F.type_str_join U2 Zn (Zb (WZ (cl:=[]) (N:=["_law_one"]) (fr:=[none]) rfl (WD (Zz ZU (pv 0) Ze (fun _ _=>rfl))) rfl (by decide +kernel) rfl (by decide +kernel) trivial trivial rfl (fun _ _ _ _ _=>(Y6 (i:=0) (show List.Nodup (["_law_one"]:List Str) by decide +kernel) rfl (Or.inl rfl))) (fun _ _ _ _ _=>Wi) (fun _ _ _ _ _=>(YU Vk rfl Tx.W7 W4 (Zb (pv 0) Zc)))) Zc)) Zc))))))
  ZF)
  (Zl (ZG (ZI ZZ (Zz ZU (pv 0) Ze (fun _ _=>rfl)) Zn (ZH _))
  (Zj (Zw (ZB YO (ZW (Zb Zn (Zb (YU Vk rfl Tx.W7 W4 (Zb (Zz ZU (pv 0) Ze (fun _ _=>rfl)) Zc)) (Zb (YU Vk rfl Tx.W7 W4 (Zb (Zz ZU (pv 0) Ze (fun _ _=>rfl)) Zc)) Zc)))) (Zo ih (hr.mono (by omega)) rfl Tx.QC Tx.UM.kp Tx.QD .nil Zp (Zb (Zz ZU (pv 0) Ze (fun _ _=>rfl)) Zc)))))
  ZF)
  (Zl (ZG (ZI ZZ (Zz ZU (pv 0) Ze (fun _ _=>rfl)) Zn (ZH _))
  (Zj (Zw (ZB YO (ZW (Zb Zn (Zb (Xu PySem.F.plainAttrs_str PySem.F.slot_str_join PySem.F.type_str_join U2 Zn (Zb (WZ (cl:=[]) (N:=["_law_one"]) (fr:=[none]) rfl (WD (Zz ZU (pv 0) Ze (fun _ _=>rfl))) rfl (by decide +kernel) rfl (by decide +kernel) trivial trivial rfl (fun _ _ _ _ _=>(Y6 (i:=0) (show List.Nodup (["_law_one"]:List Str) by decide +kernel) rfl (Or.inl rfl))) (fun _ _ _ _ _=>Wi) (fun _ _ _ _ _=>(YU Vk rfl Tx.W7 W4 (Zb (pv 0) Zc)))) Zc)) Zc))) (Zo ih (hr.mono (by omega)) rfl Tx.QC Tx.UM.kp Tx.QD .nil Zp (Zb (Zz ZU (pv 0) Ze (fun _ _=>rfl)) Zc)))))
  ZF)
  (Zl (ZG (ZI ZZ (Zz ZU (pv 0) Ze (fun _ _=>rfl)) Zn (ZH _))
  (Zj (Zw (ZW (Zb Zn Zc))))
  ZF)
  (Zj (Zw (ZB YO (ZB YO (ZW (Zb (Zz ZU (pv 0) Ze (fun _ _=>rfl)) Zc)) (Zo ih (hr.mono (by omega)) rfl Tx.QC Tx.UM.kp Tx.QD .nil Zp (Zb (Zz ZU (pv 0) Ze (fun _ _=>rfl)) Zc))) (Zo ih (hr.mono (by omega)) rfl Tx.QC Tx.UM.kp Tx.QD .nil Zp (Zb (Zz ZU (pv 0) Ze (fun _ _=>rfl)) Zc)))))))))) ?_
 cases h with
 | always h =>
  refine Za _ rfl (Zk _ _ 0 _ rfl rfl (Zi.of h) rfl rfl (Za _ rfl (Zh (by decide +kernel) ?_)))
  refine Za _ rfl (Zk _ _ 0 _ rfl rfl (Zi.of h) rfl rfl (Za _ rfl (Zh (by decide +kernel) ?_)))
  refine Za _ rfl (Zk _ _ 0 _ rfl rfl (Zi.of h) rfl rfl (Za _ rfl (Zh (by decide +kernel) ?_)))
  refine Za _ rfl (Zk _ _ 0 _ rfl rfl (Zi.of h) rfl rfl (Za _ rfl (Zh (by decide +kernel) ?_)))
  refine Za _ rfl (Zk _ _ 0 _ rfl rfl (Zi.of h) rfl rfl (Za _ rfl (Zy (by decide +kernel) ?_)))
  exact ⟨by show 1≤sizeLine;decide,fun p hp=>q p _ (Zr hp _) hp Zf⟩
 | week h =>
  rename_i a b
  have hb:b < 128:=Nat.lt_succ_of_le g
  refine Za _ rfl (Zk _ _ 0 _ rfl rfl (Zi.of h) rfl rfl (Za _ rfl (Zy (by decide +kernel) ?_)))
  refine Za _ rfl (ZC _ _ 1 _ rfl rfl (Zi.of h) rfl (WN _ rfl (by decide) (by decide) (ZdD (fun i σ H'=>H'=H∧∃ vk,σ=[some (.ref a),some (.str (sgT b i)),some (.int ((b / 2 ^ i:Nat):Nat)),vk]) ⟨rfl,_,by rw [Nat.pow_zero,Nat.div_one];rfl⟩ ?_ ?_)))
  ·rintro i σ H' hi ⟨rfl,vk,rfl⟩
   have hi7:i < 7:=hi
   obtain ⟨c,hc,eb⟩:=Zse (b:=b) hi7
   refine Za _ rfl (Za _ rfl (ZV _ _ rfl rfl (by show (0:Int) < 2;decide) (YJ _ _ c rfl rfl (by decide +kernel) hc (ZV _ _ rfl rfl ?_ ?_))))
   ·rw [eb];exact Nat.le_trans (Zsd b hb i hi7) (by decide)
   refine Za _ rfl (ZX _ _ rfl rfl ⟨by decide,by decide⟩ rfl ⟨some (.int (0+((i:Nat):Int))),?_⟩)
   have e:(((b / 2 ^ i:Nat):Nat):Int) / 2=((b / 2 ^ (i+1):Nat):Int):=by
    rw [Nat.pow_succ,← Nat.div_div_eq_div_mul]
    omega
   rw [← e,eb]
   rfl
  ·rintro σ H' ⟨rfl,vk,rfl⟩
   refine ZE _ rfl (by show 2≤sizeLine;decide) fun p hp=>q p _ (Zr hp _) hp ?_
   rw [Zf]
   show some (HO.lst [.str (Str.ofString "week"),.str (sgT b 7)])=some (.lst [.str (Str.ofString "week"),.str (U3 b)])
   rw [Zsc b hb]
 | each h hl ne =>
  rename_i a l m ss
  obtain ⟨g1,g2,g3⟩:=g
  have hln:(ZR ss).length=ss.length:=List.length_map ..
  have l12:=g3.few
  refine Za _ rfl (Zk _ _ 0 _ rfl rfl (Zi.of h) rfl rfl (Za _ rfl (Zh (by decide +kernel) ?_)))
  refine Za _ rfl (Zk _ _ 0 _ rfl rfl (Zi.of h) rfl rfl (Za _ rfl (Zy (by decide +kernel) ?_)))
  refine Za _ rfl (ZC _ _ 1 _ rfl rfl (Zi.of h) rfl (WN _ rfl (Vv (by omega)) rfl (Za _ rfl (ZC _ _ 2 _ rfl rfl (Zi.of h) rfl (ZE l rfl ⟨_,Zm.of hl⟩ (UX (K:=K) (a:=l) (xs:=ZR ss) (fun i acc σ H'=>H'=H∧acc=((ss.take i).map Yi).map V.str∧∃ v,σ=[v]) ⟨rfl,rfl,_,rfl⟩
   (by rw [hln];exact Nat.le_trans l12 (by decide)) (fun i acc σ H' _ ⟨e,_⟩=>by rw [e];exact Zm.of hl) ?_ ?_))))))
  ·rintro i x acc σ H' ha hx ⟨rfl,e,v,rfl⟩
   rw [List.getElem?_map] at hx
   cases hs:ss[i]? with
   | none=>rw [hs] at hx;cases hx
   | some m2 =>
    rw [hs] at hx
    obtain rfl:V.int ((m2:Nat):Int)=x:=Option.some.inj hx
    have hm:=(g3.all m2 (List.mem_of_getElem? hs)).2
    dsimp only [Xs,X7]
    rw [if_pos rfl]
    refine Za _ rfl ⟨_,rfl,Vv (by omega),?_,rfl,?_,_,rfl⟩
    ·rw [List.length_append,List.length_singleton];omega
    ·rw [e,List.take_add_one,hs]
     simp [Yi]
  ·rintro acc σ H' ha ⟨rfl,e,v,rfl⟩ p2 hp2
   rw [hln,List.take_length] at e
   have s2:=Zr hp2 (.lst acc)
   refine ⟨_,p2,ss.map Yi,rfl,rfl,Zm.of (by rw [Zf,e]),ZbF (m:=0) (by decide +kernel) (by rw [List.length_map];omega) (fun x hx=>?_),by show 3≤sizeLine;decide,fun p hp=>q p _ (s2.trans (Zr hp _)) (s2.free hp) Zf⟩
   obtain ⟨n,hn,rfl⟩:=List.mem_map.mp hx
   exact Nat.le_trans (QY (by have:=(g3.all n hn).2;omega)) (by decide)
 | span h hv =>
  rename_i a x0 y0 v r
  have ed:(RT.span x0 y0 r).depth=1+r.depth:=rfl
  have ew:(RT.span x0 y0 r).weight=1+r.weight:=rfl
  have wl:=r.words_len
  obtain ⟨g1,g2,g3⟩:=g
  refine Za _ rfl (Zk _ _ 0 _ rfl rfl (Zi.of h) rfl rfl (Za _ rfl (Zh (by decide +kernel) ?_)))
  refine Za _ rfl (Zk _ _ 0 _ rfl rfl (Zi.of h) rfl rfl (Za _ rfl (Zh (by decide +kernel) ?_)))
  refine Za _ rfl (Zk _ _ 0 _ rfl rfl (Zi.of h) rfl rfl (Za _ rfl (Zy (by decide +kernel) ?_)))
  refine Za _ rfl (ZC _ _ 1 _ rfl rfl (Zi.of h) rfl (ZE _ rfl (Vv (by omega)) (Za _ rfl (ZC _ _ 2 _ rfl rfl (Zi.of h) rfl (WN _ rfl (Vv (by omega)) (by show 3≤sizeLine;decide) fun p1 hp1=>?_)))))
  have s1:=Zr hp1 (.lst [.str (Str.ofString "span"),.str (Yi x0),.str (Yi y0)])
  have h1:=s1 _ _ h
  refine Za _ rfl (ZC _ _ 3 _ rfl rfl (Zi.of h1) rfl ⟨tp,v,r,rfl,hv.same s1,g3,by omega,by omega,fun p2 H2 s2 n2 e2=>?_⟩)
  refine Zk p1 p2 _ _ rfl rfl (s2 _ _ Zf) e2 ?_ fun p3 g3=>q p3 _ ((s1.trans s2).trans (Zr g3 _)) ((s1.trans s2).free g3) (by rw [Zf];rfl)
  rw [List.length_map]
  exact Nat.le_trans (show 3+r.words.length≤4000 by omega) (by decide)
 | but h hl ne hv =>
  rename_i a l ss v r
  have ed:(RT.but ss r).depth=1+r.depth:=rfl
  have ew:(RT.but ss r).weight=1+r.weight:=rfl
  have wl:=r.words_len
  obtain ⟨g3,g4⟩:=g
  have hln:(ZR ss).length=ss.length:=List.length_map ..
  have l12:=g3.few
  refine Za _ rfl (Zk _ _ 0 _ rfl rfl (Zi.of h) rfl rfl (Za _ rfl (Zh (by decide +kernel) ?_)))
  refine Za _ rfl (Zk _ _ 0 _ rfl rfl (Zi.of h) rfl rfl (Za _ rfl (Zh (by decide +kernel) ?_)))
  refine Za _ rfl (Zk _ _ 0 _ rfl rfl (Zi.of h) rfl rfl (Za _ rfl (Zh (by decide +kernel) ?_)))
  refine Za _ rfl (Zk _ _ 0 _ rfl rfl (Zi.of h) rfl rfl (Za _ rfl (Zy (by decide +kernel) ?_)))
  refine ⟨rfl,Za _ rfl (ZC _ _ 1 _ rfl rfl (Zi.of h) rfl (ZE l rfl ⟨_,Zm.of hl⟩ (UX (K:=K) (a:=l) (xs:=ZR ss) (fun i acc σ H'=>H'=H∧acc=((ss.take i).map Yi).map V.str∧∃ v,σ=[v]) ⟨rfl,rfl,_,rfl⟩
   (by rw [hln];exact Nat.le_trans l12 (by decide)) (fun i acc σ H' _ ⟨e,_⟩=>by rw [e];exact Zm.of hl) ?_ ?_)))⟩
  ·rintro i x acc σ H' ha hx ⟨rfl,e,v,rfl⟩
   rw [List.getElem?_map] at hx
   cases hs:ss[i]? with
   | none=>rw [hs] at hx;cases hx
   | some m2 =>
    rw [hs] at hx
    obtain rfl:V.int ((m2:Nat):Int)=x:=Option.some.inj hx
    have hm:=(g3.all m2 (List.mem_of_getElem? hs)).2
    dsimp only [Xs,X7]
    rw [if_pos rfl]
    refine Za _ rfl ⟨_,rfl,Vv (by omega),?_,rfl,?_,_,rfl⟩
    ·rw [List.length_append,List.length_singleton];omega
    ·rw [e,List.take_add_one,hs]
     simp [Yi]
  ·rintro acc σ H' ha ⟨rfl,e,v,rfl⟩ p2 hp2
   rw [hln,List.take_length] at e
   have s2:=Zr hp2 (.lst acc)
   refine ⟨_,p2,ss.map Yi,rfl,rfl,Zm.of (by rw [Zf,e]),ZbF (m:=0) (by decide +kernel) (by rw [List.length_map];omega) (fun x hx=>?_),by show 2≤sizeLine;decide,fun p1 hp1=>?_⟩
   ·obtain ⟨n,hn,rfl⟩:=List.mem_map.mp hx
    exact Nat.le_trans (QY (by have:=(g3.all n hn).2;omega)) (by decide)
   have s1:=s2.trans (Zr hp1 (.lst [.str (Str.ofString "but"),.str (X0 ss)]))
   have h1:=s1 _ _ h
   refine Za _ rfl (ZC _ _ 2 _ rfl rfl (Zi.of h1) rfl ⟨tp,_,r,rfl,hv.same s1,g4,by omega,by omega,fun p4 H2 s4 n2 e2=>?_⟩)
   refine Zk p1 p4 _ _ rfl rfl (s4 _ _ Zf) e2 ?_ fun p3 g3=>q p3 _ ((s1.trans s4).trans (Zr g3 _)) ((s1.trans s4).free g3) (by rw [Zf];rfl)
   rw [List.length_map]
   exact Nat.le_trans (show 2+r.words.length≤4000 by omega) (by decide)
 | either h hv hu =>
  rename_i a v u r r2
  have ed:(RT.either r r2).depth=1+max r.depth r2.depth:=rfl
  have ew:(RT.either r r2).weight=1+(r.weight+r2.weight):=rfl
  have wl:=r.words_len
  have wl2:=r2.words_len
  refine Za _ rfl (Zk _ _ 0 _ rfl rfl (Zi.of h) rfl rfl (Za _ rfl (Zh (by decide +kernel) ?_)))
  refine Za _ rfl (Zk _ _ 0 _ rfl rfl (Zi.of h) rfl rfl (Za _ rfl (Zh (by decide +kernel) ?_)))
  refine Za _ rfl (Zk _ _ 0 _ rfl rfl (Zi.of h) rfl rfl (Za _ rfl (Zh (by decide +kernel) ?_)))
  refine Za _ rfl (Zk _ _ 0 _ rfl rfl (Zi.of h) rfl rfl (Za _ rfl (Zh (by decide +kernel) ?_)))
  refine Za _ rfl (Zk _ _ 0 _ rfl rfl (Zi.of h) rfl rfl (Za _ rfl (Zh (by decide +kernel) ?_)))
  refine Za _ rfl (Zk _ _ 0 _ rfl rfl (Zi.of h) rfl (by show 1≤sizeLine;decide) fun p1 g1=>?_)
  have s1:=Zr g1 (.lst [.str (Str.ofString "either")])
  have h1:=s1 _ _ h
  refine Za _ rfl (ZC _ _ 1 _ rfl rfl (Zi.of h1) rfl ⟨tp,v,r,rfl,hv.same s1,g.1,by omega,by omega,fun p2 H2 s2 n2 e2=>?_⟩)
  refine Zk p1 p2 _ _ rfl rfl (s2 _ _ Zf) e2 ?_ fun p3 g3=>?_
  ·rw [List.length_map]
   exact Nat.le_trans (show 1+r.words.length≤4000 by omega) (by decide)
  have s3:=(s1.trans s2).trans (Zr g3 (.lst ([.str (Str.ofString "either")]++r.words.map V.str)))
  have h3:=s3 _ _ h
  refine Za _ rfl (ZC _ _ 2 _ rfl rfl (Zi.of h3) rfl ⟨tp,u,r2,rfl,hu.same s3,g.2,by omega,by omega,fun p4 H4 s4 n4 e4=>?_⟩)
  refine Zk p3 p4 _ _ rfl rfl (s4 _ _ Zf) e4 ?_ fun p5 g5=>q p5 _ ((s3.trans s4).trans (Zr g5 _)) ((s3.trans s4).free g5) ?_
  ·rw [List.length_append,List.length_map,List.length_map]
   exact Nat.le_trans (show [V.str (Str.ofString "either")].length+r.words.length+r2.words.length≤7000 by rw [List.length_singleton];omega) (by decide)
  ·rw [Zf]
   show some (HO.lst ([V.str (Str.ofString "either")]++r.words.map V.str++r2.words.map V.str))=some (.lst (([Str.ofString "either"]++r.words++r2.words).map V.str))
   rw [List.map_append,List.map_append]
   rfl
 | both h hv hu =>
  rename_i a v u r r2
  have ed:(RT.both r r2).depth=1+max r.depth r2.depth:=rfl
  have ew:(RT.both r r2).weight=1+(r.weight+r2.weight):=rfl
  have wl:=r.words_len
  have wl2:=r2.words_len
  refine Za _ rfl (Zk _ _ 0 _ rfl rfl (Zi.of h) rfl rfl (Za _ rfl (Zh (by decide +kernel) ?_)))
  refine Za _ rfl (Zk _ _ 0 _ rfl rfl (Zi.of h) rfl rfl (Za _ rfl (Zh (by decide +kernel) ?_)))
  refine Za _ rfl (Zk _ _ 0 _ rfl rfl (Zi.of h) rfl rfl (Za _ rfl (Zh (by decide +kernel) ?_)))
  refine Za _ rfl (Zk _ _ 0 _ rfl rfl (Zi.of h) rfl rfl (Za _ rfl (Zh (by decide +kernel) ?_)))
  refine Za _ rfl (Zk _ _ 0 _ rfl rfl (Zi.of h) rfl rfl (Za _ rfl (Zh (by decide +kernel) ?_)))
  refine Za _ rfl (Zk _ _ 0 _ rfl rfl (Zi.of h) rfl (by show 1≤sizeLine;decide) fun p1 g1=>?_)
  have s1:=Zr g1 (.lst [.str (Str.ofString "both")])
  have h1:=s1 _ _ h
  refine Za _ rfl (ZC _ _ 1 _ rfl rfl (Zi.of h1) rfl ⟨tp,v,r,rfl,hv.same s1,g.1,by omega,by omega,fun p2 H2 s2 n2 e2=>?_⟩)
  refine Zk p1 p2 _ _ rfl rfl (s2 _ _ Zf) e2 ?_ fun p3 g3=>?_
  ·rw [List.length_map]
   exact Nat.le_trans (show 1+r.words.length≤4000 by omega) (by decide)
  have s3:=(s1.trans s2).trans (Zr g3 (.lst ([.str (Str.ofString "both")]++r.words.map V.str)))
  have h3:=s3 _ _ h
  refine Za _ rfl (ZC _ _ 2 _ rfl rfl (Zi.of h3) rfl ⟨tp,u,r2,rfl,hu.same s3,g.2,by omega,by omega,fun p4 H4 s4 n4 e4=>?_⟩)
  refine Zk p3 p4 _ _ rfl rfl (s4 _ _ Zf) e4 ?_ fun p5 g5=>q p5 _ ((s3.trans s4).trans (Zr g5 _)) ((s3.trans s4).free g5) ?_
  ·rw [List.length_append,List.length_map,List.length_map]
   exact Nat.le_trans (show [V.str (Str.ofString "both")].length+r.words.length+r2.words.length≤7000 by rw [List.length_singleton];omega) (by decide)
  ·rw [Zf]
   show some (HO.lst ([V.str (Str.ofString "both")]++r.words.map V.str++r2.words.map V.str))=some (.lst (([Str.ofString "both"]++r.words++r2.words).map V.str))
   rw [List.map_append,List.map_append]
   rfl
structure Zds (tp:Addr) (H:Hp) (r:RT) (xs:List V):Prop where
 len:xs.length=(Yl r).length
 get:∀ (i:Nat) (x:V),xs[i]? = some x→∃ k:RT,(Yl r)[i]? = some k∧Z8 tp H x k
def Zsg:Sp:=fun vs H Q _=>∃ (tp:Addr) (v:V) (r:RT),vs=[v]∧Z8 tp H v r∧∀ p xs H',Zt H H'→H p=none→H' p=some (.lst xs)→Zds tp H' r xs→Q (.ref p) H'
theorem Zki (Tx:ZD K mg t):Zv P w K mg base Zx 1 t.ZeP t.ZeQ ["_law_tree_here"] Zsg:=by
 refine Tx.Zfx.ok Zoj (fun vs H Q E h=>?_) (fun cdv A outer s H vs Q E hr h=>?_)
 ·obtain ⟨tp,v,r,rfl,_⟩:=h
  rfl
 obtain ⟨tp,v,r,rfl,h,q⟩:=h
 refine Za _ (Zl (ZG (ZI WH (Zz ZU (pv 0) Ze (fun _ _=>rfl)) (YM (Zb Zn (Zb Zn Zc))) rfl)
  (Zj (Zw (ZW (Zb (Zz ZU (pv 0) Ze (fun _ _=>rfl)) (Zb (Zz ZU (pv 0) Ze (fun _ _=>rfl)) Zc)))))
  ZF)
  (Zl (ZG (ZI WH (Zz ZU (pv 0) Ze (fun _ _=>rfl)) (YM (Zb Zn (Zb Zn Zc))) rfl)
  (Zj (Zw (ZW (Zb (Zz ZU (pv 0) (Zgj Zgk Ze) (fun _ _=>rfl)) Zc))))
  ZF)
  (Zj (Zw (ZW Zc))))) ?_
 have none:∀ {r:RT} {H:Hp},Yl r=[]→Zds tp H r []:=fun {r H} e=>⟨by rw [e];rfl,fun i x e=>by cases e⟩
 have one:∀ {r k:RT} {H:Hp} {x:V},Yl r=[k]→Z8 tp H x k→Zds tp H r [x]:=fun {r k H x} e hx=>⟨by rw [e];rfl,fun i y ey=>by
  match i,ey with
  | 0,ey=>cases Option.some.inj ey;exact Za k (by rw [e];rfl) hx
  | _+1,ey=>cases ey⟩
 have two:∀ {r k k2:RT} {H:Hp} {x x2:V},Yl r=[k,k2]→Z8 tp H x k→Z8 tp H x2 k2→Zds tp H r [x,x2]:=fun {r k k2 H x x2} e hx hx2=>⟨by rw [e];rfl,fun i y ey=>by
  match i,ey with
  | 0,ey=>cases Option.some.inj ey;exact Za k (by rw [e];rfl) hx
  | 1,ey=>cases Option.some.inj ey;exact Za k2 (by rw [e];rfl) hx2
  | _+2,ey=>cases ey⟩
 cases h with
 | always h =>
  refine Za _ rfl (Zk _ _ 0 _ rfl rfl (Zi.of h) rfl (by show 2≤sizeLine;decide) fun p1 g1=>(ZX p1 _ rfl (.inr (Zi.of Zf)) rfl rfl (Za _ rfl (Zh (by decide +kernel) ?_))))
  have s1:=Zr g1 (.tup [.str (Str.ofString "either"),.str (Str.ofString "both")])
  have h1:=s1 _ _ h
  refine Za _ rfl (Zk _ _ 0 _ rfl rfl (Zi.of h1) rfl (by show 2≤sizeLine;decide) fun p2 g2=>(ZX p2 _ rfl (.inr (Zi.of Zf)) rfl rfl (Za _ rfl (Zh (by decide +kernel) ?_))))
  have s2:=s1.trans (Zr g2 (.tup [.str (Str.ofString "span"),.str (Str.ofString "but")]))
  exact ⟨by show 0≤sizeLine;decide,fun p3 g3=>q p3 _ _ (s2.trans (Zr g3 _)) (s2.free g3) Zf (none rfl)⟩
 | week h =>
  refine Za _ rfl (Zk _ _ 0 _ rfl rfl (Zi.of h) rfl (by show 2≤sizeLine;decide) fun p1 g1=>(ZX p1 _ rfl (.inr (Zi.of Zf)) rfl rfl (Za _ rfl (Zh (by decide +kernel) ?_))))
  have s1:=Zr g1 (.tup [.str (Str.ofString "either"),.str (Str.ofString "both")])
  have h1:=s1 _ _ h
  refine Za _ rfl (Zk _ _ 0 _ rfl rfl (Zi.of h1) rfl (by show 2≤sizeLine;decide) fun p2 g2=>(ZX p2 _ rfl (.inr (Zi.of Zf)) rfl rfl (Za _ rfl (Zh (by decide +kernel) ?_))))
  have s2:=s1.trans (Zr g2 (.tup [.str (Str.ofString "span"),.str (Str.ofString "but")]))
  exact ⟨by show 0≤sizeLine;decide,fun p3 g3=>q p3 _ _ (s2.trans (Zr g3 _)) (s2.free g3) Zf (none rfl)⟩
 | each h hl ne =>
  refine Za _ rfl (Zk _ _ 0 _ rfl rfl (Zi.of h) rfl (by show 2≤sizeLine;decide) fun p1 g1=>(ZX p1 _ rfl (.inr (Zi.of Zf)) rfl rfl (Za _ rfl (Zh (by decide +kernel) ?_))))
  have s1:=Zr g1 (.tup [.str (Str.ofString "either"),.str (Str.ofString "both")])
  have h1:=s1 _ _ h
  refine Za _ rfl (Zk _ _ 0 _ rfl rfl (Zi.of h1) rfl (by show 2≤sizeLine;decide) fun p2 g2=>(ZX p2 _ rfl (.inr (Zi.of Zf)) rfl rfl (Za _ rfl (Zh (by decide +kernel) ?_))))
  have s2:=s1.trans (Zr g2 (.tup [.str (Str.ofString "span"),.str (Str.ofString "but")]))
  exact ⟨by show 0≤sizeLine;decide,fun p3 g3=>q p3 _ _ (s2.trans (Zr g3 _)) (s2.free g3) Zf (none rfl)⟩
 | span h hv =>
  refine Za _ rfl (Zk _ _ 0 _ rfl rfl (Zi.of h) rfl (by show 2≤sizeLine;decide) fun p1 g1=>(ZX p1 _ rfl (.inr (Zi.of Zf)) rfl rfl (Za _ rfl (Zh (by decide +kernel) ?_))))
  have s1:=Zr g1 (.tup [.str (Str.ofString "either"),.str (Str.ofString "both")])
  have h1:=s1 _ _ h
  refine Za _ rfl (Zk _ _ 0 _ rfl rfl (Zi.of h1) rfl (by show 2≤sizeLine;decide) fun p2 g2=>(ZX p2 _ rfl (.inr (Zi.of Zf)) rfl rfl (Za _ rfl (Zy (by decide +kernel) ?_))))
  have s2:=s1.trans (Zr g2 (.tup [.str (Str.ofString "span"),.str (Str.ofString "but")]))
  have h2:=s2 _ _ h
  exact Za _ rfl (Za _ rfl (Zk _ _ _ _ rfl rfl (Zi.of h2) rfl (by show 1≤sizeLine;decide) fun p3 g3=>q p3 _ _ (s2.trans (Zr g3 _)) (s2.free g3) Zf (one rfl (hv.same (s2.trans (Zr g3 _))))))
 | but h hl ne hv =>
  refine Za _ rfl (Zk _ _ 0 _ rfl rfl (Zi.of h) rfl (by show 2≤sizeLine;decide) fun p1 g1=>(ZX p1 _ rfl (.inr (Zi.of Zf)) rfl rfl (Za _ rfl (Zh (by decide +kernel) ?_))))
  have s1:=Zr g1 (.tup [.str (Str.ofString "either"),.str (Str.ofString "both")])
  have h1:=s1 _ _ h
  refine Za _ rfl (Zk _ _ 0 _ rfl rfl (Zi.of h1) rfl (by show 2≤sizeLine;decide) fun p2 g2=>(ZX p2 _ rfl (.inr (Zi.of Zf)) rfl rfl (Za _ rfl (Zy (by decide +kernel) ?_))))
  have s2:=s1.trans (Zr g2 (.tup [.str (Str.ofString "span"),.str (Str.ofString "but")]))
  have h2:=s2 _ _ h
  exact Za _ rfl (Za _ rfl (Zk _ _ _ _ rfl rfl (Zi.of h2) rfl (by show 1≤sizeLine;decide) fun p3 g3=>q p3 _ _ (s2.trans (Zr g3 _)) (s2.free g3) Zf (one rfl (hv.same (s2.trans (Zr g3 _))))))
 | either h hv hu =>
  refine Za _ rfl (Zk _ _ 0 _ rfl rfl (Zi.of h) rfl (by show 2≤sizeLine;decide) fun p1 g1=>(ZX p1 _ rfl (.inr (Zi.of Zf)) rfl rfl (Za _ rfl (Zy (by decide +kernel) ?_))))
  have s1:=Zr g1 (.tup [.str (Str.ofString "either"),.str (Str.ofString "both")])
  have h1:=s1 _ _ h
  exact Za _ rfl (ZC _ _ 1 _ rfl rfl (Zi.of h1) rfl (Za _ rfl (Zk _ _ 2 _ rfl rfl (Zi.of h1) rfl (by show 2≤sizeLine;decide) fun p3 g3=>q p3 _ _ (s1.trans (Zr g3 _)) (s1.free g3) Zf (two rfl (hv.same (s1.trans (Zr g3 _))) (hu.same (s1.trans (Zr g3 _)))))))
 | both h hv hu =>
  refine Za _ rfl (Zk _ _ 0 _ rfl rfl (Zi.of h) rfl (by show 2≤sizeLine;decide) fun p1 g1=>(ZX p1 _ rfl (.inr (Zi.of Zf)) rfl rfl (Za _ rfl (Zy (by decide +kernel) ?_))))
  have s1:=Zr g1 (.tup [.str (Str.ofString "either"),.str (Str.ofString "both")])
  have h1:=s1 _ _ h
  exact Za _ rfl (ZC _ _ 1 _ rfl rfl (Zi.of h1) rfl (Za _ rfl (Zk _ _ 2 _ rfl rfl (Zi.of h1) rfl (by show 2≤sizeLine;decide) fun p3 g3=>q p3 _ _ (s1.trans (Zr g3 _)) (s1.free g3) Zf (two rfl (hv.same (s1.trans (Zr g3 _))) (hu.same (s1.trans (Zr g3 _)))))))
def Zsh (n:Nat):Sp:=fun vs H Q _=>∃ (tp:Addr) (v:V) (r:RT),vs=[v]∧Z8 tp H v r∧r.depth≤n∧r.weight≤1000000∧∀ H',Zt H H'→Q (.int (r.weight:Nat)) H'
theorem Zkj (Tx:ZD K mg t):∀ n:Nat,Zv P w K mg base Zx (n+1) t.ZeR t.ZeS ["_law_tree_here"] (Zsh n):=by
 intro n
 induction n with
 | zero =>
  refine Tx.Za3.ok ZhY (fun vs H Q E h=>?_) (fun cdv A outer s H vs Q E hr h=>?_)
  ·obtain ⟨tp,v,r,rfl,_⟩:=h
   rfl
  ·obtain ⟨tp,v,r,rfl,h,hd,_⟩:=h
   have:=r.depth_pos
   omega
 | succ n ih =>
 refine Tx.Za3.ok ZhY (fun vs H Q E h=>?_) (fun cdv A outer s H vs Q E hr h=>?_)
 ·obtain ⟨tp,v,r,rfl,_⟩:=h
  rfl
 obtain ⟨tp,v,r,rfl,h,hd,hw,q⟩:=h
 refine Za _ (Zj (Zw (ZB Y7 Ze (Z4 (ZdV rfl) rfl Tx.Zfo Zea (Zb (WZ (cl:=[]) (N:=["_law_one"]) (fr:=[none]) rfl (WD (Zo (Zki Tx) (hr.mono (by omega)) rfl Tx.ZiN Tx.Zfx.kp Tx.ZiO .nil Zp (Zb (pv 0) Zc))) rfl (by decide +kernel) rfl (by decide +kernel) trivial trivial rfl (fun _ _ _ _ _=>(Y6 (i:=0) (show List.Nodup (["_law_one"]:List Str) by decide +kernel) rfl (Or.inl rfl))) (fun _ _ _ _ _=>Wi) (fun _ _ _ _ _=>(Zo ih (hr.mono (by omega)) rfl Tx.Zfy Tx.Za3.kp Tx.Zfz .nil Zp (Zb (pv 0) Zc)))) Zc))))) ?_
 refine Za _ rfl (X32 tp v r rfl h fun p xs H1 s0 hp ep hk=>?_)
 have hl:=hk.len
 have kl:=Zdk r
 refine ZE p rfl ⟨xs,Zm.of ep⟩ (UX (K:=K) (a:=p) (xs:=xs) (fun i acc σ H'=>Zt H1 H'∧acc=(((Yl r).take i).map fun k=>V.int (k.weight:Nat))∧∃ v,σ=[v])
  ⟨Zt.refl _,rfl,_,rfl⟩ (by show xs.length≤sizeLine;exact Nat.le_trans (by omega) (show 2≤sizeLine by decide)) (fun i acc σ H' _ ⟨s',_⟩=>Zm.of (s' _ _ ep)) ?_ ?_)
 ·rintro i x acc σ H' ha hx ⟨s',e,v,rfl⟩
  obtain ⟨k,hk1,hk2⟩:=hk.get i x hx
  have km:k∈Yl r:=List.mem_of_getElem? hk1
  have kd:=Zdj km
  have kw:k.weight≤r.weight:=by
   rw [Zax r]
   have:=Zbd (List.mem_map_of_mem (f:=RT.weight) km)
   omega
  dsimp only [Xs,X7]
  rw [if_pos rfl]
  refine Za _ rfl (YJ tp x k rfl (hk2.same s') (by omega) (by omega) fun H3 s3=>⟨?_,s'.trans s3,?_,_,rfl⟩)
  ·rw [List.length_append,List.length_singleton];omega
  ·rw [e,List.take_add_one,hk1]
   simp
 ·rintro acc σ H' ha ⟨s',e,v,rfl⟩ p3 g3
  have e2:acc=((((Yl r).map RT.weight).map fun n=>((n:Nat):Int)).map V.int):=by
   rw [e,hl,List.take_length,List.map_map,List.map_map]
   rfl
  refine ZX p3 _ rfl (Zm.of (by rw [Zf,e2])) ?_ ?_ ?_
  ·intro n hn
   obtain ⟨m,hm,rfl⟩:=List.mem_map.mp hn
   have:=Zbd hm
   have:=Zax r
   omega
  ·rw [List.length_map,List.length_map];omega
  ·have s4:=(s0.trans s').trans (Zr g3 (.lst acc))
   have q2:=q _ s4
   rw [Zax r] at q2
   refine ZA _ _ rfl rfl ?_
   rw [ZfO]
   exact q2
def Zsi (n:Nat):Sp:=fun vs H Q _=>∃ (tp:Addr) (v:V) (r:RT),vs=[v]∧Z8 tp H v r∧r.depth≤n∧∀ H',Zt H H'→Q (.int (r.depth:Nat)) H'
theorem Zsj (r:RT):∃ x,XM none ([(0:Int)]++((Yl r).map RT.depth).map fun n=>((n:Nat):Int))=some x∧(1:Int)+x=((r.depth:Nat):Int):=by
 have e:XM none ([(0:Int)]++((Yl r).map RT.depth).map fun n=>((n:Nat):Int))=some ((((Yl r).map RT.depth).foldl max 0:Nat):Int):=ZfQ ((Yl r).map RT.depth) 0
 refine Za _ e ?_
 cases r <;> simp only [Yl,List.map,List.foldl,RT.depth] <;> omega
theorem Zsk (Tx:ZD K mg t):∀ n:Nat,Zv P w K mg base Zx (n+1) t.ZeT t.ZeU ["_law_tree_here"] (Zsi n):=by
 intro n
 induction n with
 | zero =>
  refine Tx.ZcQ.ok ZhZ (fun vs H Q E h=>?_) (fun cdv A outer s H vs Q E hr h=>?_)
  ·obtain ⟨tp,v,r,rfl,_⟩:=h
   rfl
  ·obtain ⟨tp,v,r,rfl,h,hd,_⟩:=h
   have:=r.depth_pos
   omega
 | succ n ih =>
 refine Tx.ZcQ.ok ZhZ (fun vs H Q E h=>?_) (fun cdv A outer s H vs Q E hr h=>?_)
 ·obtain ⟨tp,v,r,rfl,_⟩:=h
  rfl
 obtain ⟨tp,v,r,rfl,h,hd,q⟩:=h
 refine Za _ (Zj (Zw (ZB Y7 Ze (Z4 (Znq rfl) rfl Tx.Ziu Zip (Zb (ZB YO (ZW (Zb Ze Zc)) (WZ (cl:=[]) (N:=["_law_one"]) (fr:=[none]) rfl (WD (Zo (Zki Tx) (hr.mono (by omega)) rfl Tx.ZiN Tx.Zfx.kp Tx.ZiO .nil Zp (Zb (pv 0) Zc))) rfl (by decide +kernel) rfl (by decide +kernel) trivial trivial rfl (fun _ _ _ _ _=>(Y6 (i:=0) (show List.Nodup (["_law_one"]:List Str) by decide +kernel) rfl (Or.inl rfl))) (fun _ _ _ _ _=>Wi) (fun _ _ _ _ _=>(Zo ih (hr.mono (by omega)) rfl Tx.ZiP Tx.ZcQ.kp Tx.ZiQ .nil Zp (Zb (pv 0) Zc))))) Zc))))) ?_
 refine ⟨by show 1≤sizeLine;decide,fun p0 g0=>?_⟩
 have s00:=Zr g0 (.lst [.int 0])
 refine Za _ rfl (X32 tp v r rfl (h.same s00) fun p xs H1 s0 hp ep hk=>?_)
 have hl:=hk.len
 have kl:=Zdk r
 refine ZE p rfl ⟨xs,Zm.of ep⟩ (UX (K:=K) (a:=p) (xs:=xs) (fun i acc σ H'=>Zt H1 H'∧acc=(((Yl r).take i).map fun k=>V.int (k.depth:Nat))∧∃ v,σ=[v])
  ⟨Zt.refl _,rfl,_,rfl⟩ (by show xs.length≤sizeLine;exact Nat.le_trans (by omega) (show 2≤sizeLine by decide)) (fun i acc σ H' _ ⟨s',_⟩=>Zm.of (s' _ _ ep)) ?_ ?_)
 ·rintro i x acc σ H' ha hx ⟨s',e,v,rfl⟩
  obtain ⟨k,hk1,hk2⟩:=hk.get i x hx
  have km:k∈Yl r:=List.mem_of_getElem? hk1
  have kd:=Zdj km
  dsimp only [Xs,X7]
  rw [if_pos rfl]
  refine Za _ rfl (Xc tp x k rfl (hk2.same s') (by omega) fun H3 s3=>⟨?_,s'.trans s3,?_,_,rfl⟩)
  ·rw [List.length_append,List.length_singleton];omega
  ·rw [e,List.take_add_one,hk1]
   simp
 ·rintro acc σ H' ha ⟨s',e,v,rfl⟩ p3 g3
  have e2:acc=((((Yl r).map RT.depth).map fun n=>((n:Nat):Int)).map V.int):=by
   rw [e,hl,List.take_length,List.map_map,List.map_map]
   rfl
  have s5:=(s0.trans s').trans (Zr g3 (.lst acc))
  refine Zk p0 p3 _ _ rfl rfl (s5 _ _ Zf) Zf ?_ fun p4 g4=>?_
  ·exact Nat.le_trans (show 1+acc.length≤3 by omega) (by decide)
  have s4:=(s00.trans s5).trans (Zr g4 (.lst ([.int 0]++acc)))
  obtain ⟨x,ex,ed⟩:=Zsj r
  refine YJ p4 ([(0:Int)]++((Yl r).map RT.depth).map fun n=>((n:Nat):Int)) x rfl (Zm.of (by rw [Zf,e2];rfl)) (by intro z;cases z) ex (ZA _ _ rfl rfl ?_)
  have q2:=q _ s4
  rw [← ed] at q2
  exact q2
def Zsl (t:YX):Sp:=fun vs H Q _=>∃ a:Addr,vs=[.ref a]∧((H a=some (Qj a (.ref t.Z0))∧∀ H',Zt H H'→Q (.str (Str.ofString "rule")) H')∨(H a=some (Qj a (.ref t.Z3))∧∀ H',Zt H H'→Q (.str (Str.ofString "many")) H'))
theorem Zkk (Tx:ZD K mg t):Zv P w K mg base Zx 1 t.ZeV t.ZeW ["_law_error"] (Zsl t):=by
 refine Tx.ZfA.ok Qu (fun vs H Q E h=>?_) (fun cdv A outer s H vs Q E hr h=>?_)
 ·obtain ⟨a,rfl,_⟩:=h
  rfl
 obtain ⟨a,rfl,h⟩:=h
 refine Za _ (Zl (ZT (i:=1) Qu.nd rfl (Or.inl rfl) (ZW (Zb Zn (Zb Zn (Zb Zn (Zb Zn (Zb Zn (Zb Zn (Zb Zn Zc)))))))))
  (Zl (ZT (i:=1) Qu.nd rfl (Or.inl rfl) (ZB YO (pv 1) (ZW (Zb Zn (Zb Zn (Zb Zn (Zb Zn (Zb Zn Zc))))))))
  (Zl (ZT (i:=2) Qu.nd rfl (Or.inl rfl) (ZW (Zb (Z4 Wu rfl Tx.Y2 Y1 (Zb (pv 0) (Zb (XY rfl Tx.Zqu) Zc))) (Zb (Z4 Wu rfl Tx.Y2 Y1 (Zb (pv 0) (Zb (XY rfl Tx.Xp) Zc))) (Zb (Z4 Wu rfl Tx.Y2 Y1 (Zb (pv 0) (Zb (XY rfl Tx.Zdc) Zc))) Zc)))))
  (Zl (ZT (i:=2) Qu.nd rfl (Or.inl rfl) (ZB YO (pv 2) (ZW (Zb (Z4 Wu rfl Tx.Y2 Y1 (Zb (pv 0) (Zb (XY rfl Tx.Zqv) Zc))) (Zb (Z4 Wu rfl Tx.Y2 Y1 (Zb (pv 0) (Zb (XY rfl Tx.Zqw) Zc))) (Zb (Z4 Wu rfl Tx.Y2 Y1 (Zb (pv 0) (Zb (XY rfl Tx.Zqx) Zc))) Zc))))))
  (Zl (ZT (i:=2) Qu.nd rfl (Or.inl rfl) (ZB YO (pv 2) (ZW (Zb (Z4 Wu rfl Tx.Y2 Y1 (Zb (pv 0) (Zb (XY rfl Tx.Zqy) Zc))) (Zb (Z4 Wu rfl Tx.Y2 Y1 (Zb (pv 0) (Zb (XY rfl Tx.Zqz) Zc))) (Zb (Z4 Wu rfl Tx.Y2 Y1 (Zb (pv 0) (Zb (XY rfl Tx.ZqA) Zc))) Zc))))))
  (Zl (ZT (i:=2) Qu.nd rfl (Or.inl rfl) (ZB YO (pv 2) (ZW (Zb (Z4 Wu rfl Tx.Y2 Y1 (Zb (pv 0) (Zb (XY rfl Tx.ZqB) Zc))) (Zb (Z4 Wu rfl Tx.Y2 Y1 (Zb (pv 0) (Zb (XY rfl Tx.ZqC) Zc))) (Zb (Z4 Wu rfl Tx.Y2 Y1 (Zb (pv 0) (Zb (XY rfl Tx.ZqD) Zc))) Zc))))))
  (Zl (ZG (PW.pt (Y5 (ZI Wt (Xu PySem.F.plainAttrs_list PySem.F.slot_list_count PySem.F.type_list_count Zmi (pv 2) (Zb Xd Zc)) Ze (ZH _)) (XE (Yt (Yx (Z4 Zmq rfl Tx.Y2 Y1 (Zb (pv 0) (Zb (Qk rfl Tx.ZoB Zoz) Zc))))))))
  (Zj (Zw Zn))
  ZF)
  (Zj (Zw (Zz Z5 (pv 1) (Xu PySem.F.plainAttrs_list PySem.F.slot_list_index PySem.F.type_list_index ZgN (pv 2) (Zb Xd Zc)) (fun _ _=>rfl))))))))))) ?_
 rcases h with ⟨ha,q⟩ | ⟨ha,q⟩
 ·refine ⟨by show 7≤sizeLine;decide,fun p1 h1=>?_⟩
  have s1:=Zr h1 (.lst [.str (Str.ofString "clock"),.str (Str.ofString "rule"),.str (Str.ofString "many"),.str (Str.ofString "name"),.str (Str.ofString "twice"),.str (Str.ofString "stop"),.str (Str.ofString "number")])
  refine ZE _ rfl (by show 5≤sizeLine;decide) fun p2 h2=>?_
  have s2:=Zr h2 (.lst [.str (Str.ofString "calls"),.str (Str.ofString "run"),.str (Str.ofString "late"),.str (Str.ofString "traveller"),.str (Str.ofString "line")])
  refine Zk p1 p2 _ _ rfl rfl (s2 _ _ Zf) Zf (by show 12≤sizeLine;decide) fun p3 h3=>?_
  have s3:=s1.trans (s2.trans (Zr h3 (.lst ([.str (Str.ofString "clock"),.str (Str.ofString "rule"),.str (Str.ofString "many"),.str (Str.ofString "name"),.str (Str.ofString "twice"),.str (Str.ofString "stop"),.str (Str.ofString "number")]++[.str (Str.ofString "calls"),.str (Str.ofString "run"),.str (Str.ofString "late"),.str (Str.ofString "traveller"),.str (Str.ofString "line")]))))
  have a3:=s3 _ _ ha
  refine Za _ rfl (ZC a t.Z0 t.ZaP _ rfl a3 Tx.Wq Tx.ZqE (Za _ rfl (ZC a t.Z0 t.Z0 _ rfl a3 Tx.Wq Tx.ZqF (Za _ rfl (Zk a t.Z0 t.Z3 _ rfl a3 Tx.Wq Tx.ZqG (by show 3≤sizeLine;decide) fun p4 h4=>?_)))))
  have s4:=Zr h4 (.lst [.bl false,.bl true,.bl false])
  have a4:=s4 _ _ a3
  refine Za _ rfl (Za _ rfl (ZC a t.Z0 t.ZaQ _ rfl a4 Tx.Wq Tx.ZqH (Za _ rfl (ZC a t.Z0 t.ZaR _ rfl a4 Tx.Wq Tx.ZqI (Za _ rfl (Zk a t.Z0 t.ZaS _ rfl a4 Tx.Wq Tx.ZqJ (by show 3≤sizeLine;decide) fun p5 h5=>?_))))))
  have s5:=Zr h5 (.lst [.bl false,.bl false,.bl false])
  refine Zk p4 p5 _ _ rfl rfl (s5 _ _ Zf) Zf (by show 6≤sizeLine;decide) fun p6 h6=>?_
  have s6:=s5.trans (Zr h6 (.lst [.bl false,.bl true,.bl false,.bl false,.bl false,.bl false]))
  have a6:=s6 _ _ a4
  refine Za _ rfl (Za _ rfl (ZC a t.Z0 t.ZaT _ rfl a6 Tx.Wq Tx.ZqK (Za _ rfl (ZC a t.Z0 t.ZaU _ rfl a6 Tx.Wq Tx.ZqL (Za _ rfl (Zk a t.Z0 t.ZaV _ rfl a6 Tx.Wq Tx.ZqM (by show 3≤sizeLine;decide) fun p7 h7=>?_))))))
  have s7:=Zr h7 (.lst [.bl false,.bl false,.bl false])
  refine Zk p6 p7 _ _ rfl rfl (s7 _ _ Zf) Zf (by show 9≤sizeLine;decide) fun p8 h8=>?_
  have s8:=s7.trans (Zr h8 (.lst [.bl false,.bl true,.bl false,.bl false,.bl false,.bl false,.bl false,.bl false,.bl false]))
  have a8:=s8 _ _ a6
  refine Za _ rfl (Za _ rfl (ZC a t.Z0 t.ZaW _ rfl a8 Tx.Wq Tx.ZqN (Za _ rfl (ZC a t.Z0 t.ZaX _ rfl a8 Tx.Wq Tx.ZqO (Za _ rfl (Zk a t.Z0 t.ZaY _ rfl a8 Tx.Wq Tx.ZqP (by show 3≤sizeLine;decide) fun p9 h9=>?_))))))
  have s9:=Zr h9 (.lst [.bl false,.bl false,.bl false])
  refine Zk p8 p9 _ _ rfl rfl (s9 _ _ Zf) Zf (by show 12≤sizeLine;decide) fun p10 h10=>?_
  have s10:=s9.trans (Zr h10 (.lst [.bl false,.bl true,.bl false,.bl false,.bl false,.bl false,.bl false,.bl false,.bl false,.bl false,.bl false,.bl false]))
  have a10:=s10 _ _ a8
  refine ZE _ rfl (.inl ⟨rfl,_,Zm.of Zf⟩) (Vx p10 _ _ rfl rfl Zf rfl rfl rfl (Za _ rfl ?_))
  refine Zh (by decide) ?_
  refine Za _ rfl (ZC a t.Z0 ("ValueError") _ rfl a10 Tx.Wq Tx.ZqQ (Za _ rfl ?_))
  refine Zh (by decide) ?_
  refine Za _ rfl (ZE _ rfl (.inl ⟨rfl,_,Zm.of Zf⟩) ⟨p10,_,_,1,.bl true,rfl,rfl,Zf,rfl,rfl,rfl,rfl,(fun m z' hm e=>by
   have hm':m=0:=by omega
   rcases hm' with rfl <;> (cases e;rfl)),ZC p3 _ 1 _ rfl rfl (Zm.of (s10 _ _ (s8 _ _ (s6 _ _ (s4 _ _ Zf))))) rfl ?_⟩)
  exact q _ (s3.trans (s4.trans (s6.trans (s8.trans s10))))
 ·refine ⟨by show 7≤sizeLine;decide,fun p1 h1=>?_⟩
  have s1:=Zr h1 (.lst [.str (Str.ofString "clock"),.str (Str.ofString "rule"),.str (Str.ofString "many"),.str (Str.ofString "name"),.str (Str.ofString "twice"),.str (Str.ofString "stop"),.str (Str.ofString "number")])
  refine ZE _ rfl (by show 5≤sizeLine;decide) fun p2 h2=>?_
  have s2:=Zr h2 (.lst [.str (Str.ofString "calls"),.str (Str.ofString "run"),.str (Str.ofString "late"),.str (Str.ofString "traveller"),.str (Str.ofString "line")])
  refine Zk p1 p2 _ _ rfl rfl (s2 _ _ Zf) Zf (by show 12≤sizeLine;decide) fun p3 h3=>?_
  have s3:=s1.trans (s2.trans (Zr h3 (.lst ([.str (Str.ofString "clock"),.str (Str.ofString "rule"),.str (Str.ofString "many"),.str (Str.ofString "name"),.str (Str.ofString "twice"),.str (Str.ofString "stop"),.str (Str.ofString "number")]++[.str (Str.ofString "calls"),.str (Str.ofString "run"),.str (Str.ofString "late"),.str (Str.ofString "traveller"),.str (Str.ofString "line")]))))
  have a3:=s3 _ _ ha
  refine Za _ rfl (ZC a t.Z3 t.ZaP _ rfl a3 Tx.Wr Tx.ZqR (Za _ rfl (ZC a t.Z3 t.Z0 _ rfl a3 Tx.Wr Tx.ZqS (Za _ rfl (Zk a t.Z3 t.Z3 _ rfl a3 Tx.Wr Tx.ZqT (by show 3≤sizeLine;decide) fun p4 h4=>?_)))))
  have s4:=Zr h4 (.lst [.bl false,.bl false,.bl true])
  have a4:=s4 _ _ a3
  refine Za _ rfl (Za _ rfl (ZC a t.Z3 t.ZaQ _ rfl a4 Tx.Wr Tx.ZqU (Za _ rfl (ZC a t.Z3 t.ZaR _ rfl a4 Tx.Wr Tx.ZqV (Za _ rfl (Zk a t.Z3 t.ZaS _ rfl a4 Tx.Wr Tx.ZqW (by show 3≤sizeLine;decide) fun p5 h5=>?_))))))
  have s5:=Zr h5 (.lst [.bl false,.bl false,.bl false])
  refine Zk p4 p5 _ _ rfl rfl (s5 _ _ Zf) Zf (by show 6≤sizeLine;decide) fun p6 h6=>?_
  have s6:=s5.trans (Zr h6 (.lst [.bl false,.bl false,.bl true,.bl false,.bl false,.bl false]))
  have a6:=s6 _ _ a4
  refine Za _ rfl (Za _ rfl (ZC a t.Z3 t.ZaT _ rfl a6 Tx.Wr Tx.ZqX (Za _ rfl (ZC a t.Z3 t.ZaU _ rfl a6 Tx.Wr Tx.ZqY (Za _ rfl (Zk a t.Z3 t.ZaV _ rfl a6 Tx.Wr Tx.ZqZ (by show 3≤sizeLine;decide) fun p7 h7=>?_))))))
  have s7:=Zr h7 (.lst [.bl false,.bl false,.bl false])
  refine Zk p6 p7 _ _ rfl rfl (s7 _ _ Zf) Zf (by show 9≤sizeLine;decide) fun p8 h8=>?_
  have s8:=s7.trans (Zr h8 (.lst [.bl false,.bl false,.bl true,.bl false,.bl false,.bl false,.bl false,.bl false,.bl false]))
  have a8:=s8 _ _ a6
  refine Za _ rfl (Za _ rfl (ZC a t.Z3 t.ZaW _ rfl a8 Tx.Wr Tx.Zq0 (Za _ rfl (ZC a t.Z3 t.ZaX _ rfl a8 Tx.Wr Tx.Zq1 (Za _ rfl (Zk a t.Z3 t.ZaY _ rfl a8 Tx.Wr Tx.Zq2 (by show 3≤sizeLine;decide) fun p9 h9=>?_))))))
  have s9:=Zr h9 (.lst [.bl false,.bl false,.bl false])
  refine Zk p8 p9 _ _ rfl rfl (s9 _ _ Zf) Zf (by show 12≤sizeLine;decide) fun p10 h10=>?_
  have s10:=s9.trans (Zr h10 (.lst [.bl false,.bl false,.bl true,.bl false,.bl false,.bl false,.bl false,.bl false,.bl false,.bl false,.bl false,.bl false]))
  have a10:=s10 _ _ a8
  refine ZE _ rfl (.inl ⟨rfl,_,Zm.of Zf⟩) (Vx p10 _ _ rfl rfl Zf rfl rfl rfl (Za _ rfl ?_))
  refine Zh (by decide) ?_
  refine Za _ rfl (ZC a t.Z3 ("ValueError") _ rfl a10 Tx.Wr Tx.Zq3 (Za _ rfl ?_))
  refine Zh (by decide) ?_
  refine Za _ rfl (ZE _ rfl (.inl ⟨rfl,_,Zm.of Zf⟩) ⟨p10,_,_,2,.bl true,rfl,rfl,Zf,rfl,rfl,rfl,rfl,(fun m z' hm e=>by
   have hm':m=0∨m=1:=by omega
   rcases hm' with rfl | rfl <;> (cases e;rfl)),ZC p3 _ 2 _ rfl rfl (Zm.of (s10 _ _ (s8 _ _ (s6 _ _ (s4 _ _ Zf))))) rfl ?_⟩)
  exact q _ (s3.trans (s4.trans (s6.trans (s8.trans s10))))
def Zsm:Sp:=fun vs H Q _=>∃ z:Str,vs=[.str z]∧z.length≤sizeLine∧∀ H',Zt H H'→Q (YF (Yb (Zu z))) H'
theorem Zdt (Tx:ZD K mg t):Zv P w K mg base Zx 1 t.ZeX t.ZeY ["_law_word"] Zsm:=by
 refine Tx.Za4.ok Zok (fun vs H Q E h=>?_) (fun cdv A outer s H vs Q E hr h=>?_)
 ·obtain ⟨z,rfl,_⟩:=h
  rfl
 obtain ⟨z,rfl,hz,q⟩:=h
 refine Za _ (Zl (ZG (PW.pt (Y5 (Yt (Zbm Wf Wf Ze (Z4 QR rfl Tx.XR XQ (Zb (pv 0) Zc)) Ze)) (XE (Yt (Yx (Z4 (ZgR rfl) rfl Tx.Zis Zin (Zb (WZ (cl:=[]) (N:=["_law_sign"]) (fr:=[none]) rfl (Zns (pv 0)) rfl (by decide +kernel) rfl (by decide +kernel) trivial trivial rfl (fun _ _ _ _ _=>(Y6 (i:=0) (show List.Nodup (["_law_sign"]:List Str) by decide +kernel) rfl (Or.inl rfl))) (fun _ _ _ _ _=>Wi) (fun _ _ _ _ _=>(XF Zlh (pv 0) Zn rfl))) Zc)))))))
  (Zj (Zw Y4))
  ZF)
  (Zl (ZG (PW.pt (WC (ZI XV (Z4 QR rfl Tx.XR XQ (Zb (pv 0) Zc)) Ze (ZH _)) (Vf (ZI ZZ (Zz ZaE (pv 0) Ze (fun _ _=>rfl)) Zn (ZH _)))))
  (Zj (Zw Y4))
  ZF)
  (Zj (Zw (YU Zbx rfl Tx.ZaZ ZaN (Zb (pv 0) Zc)))))) ?_
 have hl:(Zu z).length=z.length:=XZ z
 refine Za _ rfl (ZE z rfl hz (ZA _ _ rfl rfl ?_))
 have q0:∀ {b:Bool},Yb (Zu z)=none→∀ H',Zt H H'→Q .non H':=fun {b} e H' s'=>by have:=q H' s';rw [e] at this;exact this
 by_cases h1:1≤z.length
 rotate_left
 ·refine Za _ rfl ?_
  rw [if_neg (by rw [decide_eq_false (by omega)];decide)]
  have e:Yb (Zu z)=none:=if_neg fun y=>h1 (by
   rcases hc:Zu z with _ | ⟨a,b⟩
   ·exact absurd hc y.2.1
   ·have:=hl;rw [hc] at this;rw [← this];exact Nat.le_add_left 1 _)
  exact Za _ rfl (Zy (by decide) (q0 (b:=true) e _ (Zt.refl _)))
 refine Za _ rfl ?_
 rw [if_pos (decide_eq_true (by omega))]
 refine ZA _ _ rfl rfl (Za _ rfl ?_)
 by_cases h5:z.length≤5
 rotate_left
 ·have e:Yb (Zu z)=none:=if_neg fun y=>h5 (by have:=y.1;omega)
  exact Zy (by rw [decide_eq_false (by omega)];rfl) (q0 (b:=true) e _ (Zt.refl _))
 refine Zh (by rw [decide_eq_true (by omega)];decide) ?_
 refine Za _ rfl (Za z rfl ?_)
 have e10:Str.ofString "0123456789" = WJ:=Zg4
 refine Znt (fun i acc σ H'=>H'=H∧acc=((Zu z).take i).map (fun c=>V.bl (dg c))∧∃ v,σ=[v]) ⟨rfl,rfl,_,rfl⟩ hz ?_ ?_
 ·rintro i c acc σ H' ha hc ⟨rfl,e,v,rfl⟩
  dsimp only [Xs,X7]
  rw [if_pos rfl]
  refine Za _ rfl ⟨_,_,rfl,rfl,?_,rfl,?_,_,rfl⟩
  ·rw [List.length_append,List.length_singleton];omega
  ·have ei:(!(Builtin.Str.occurrences (Str.ofString "0123456789") ⟨#[c]⟩ 0 (Str.ofString "0123456789").length 1).isEmpty)=dg c:=by
    rw [e10]
    exact Zg6 c
   have hc':(Zu z)[i]? = some c:=hc
   rw [ei,e,List.take_add_one,hc']
   simp
 ·rintro acc σ H' ha ⟨rfl,e,v,rfl⟩ p hp
  have et:(Zu z).take z.cps.size=Zu z:=List.take_of_length_le (by rw [hl];exact Nat.le_refl _)
  rw [et] at e
  have s1:=Zr hp (.lst acc)
  refine ZA p ((Zu z).map dg) rfl (Zm.of (by rw [Zf,e,List.map_map];rfl)) (Za _ rfl ?_)
  have ea:((Zu z).map dg).all id=(Zu z).all dg:=by rw [List.all_map];rfl
  rw [ea]
  cases hf:(Zu z).all dg with
  | false =>
   have en:Yb (Zu z)=none:=if_neg fun y=>by rw [hf] at y;exact absurd y.2.2.1 (by decide)
   exact Zy rfl (q0 (b:=true) en _ s1)
  | true =>
   refine Zh (by decide) ?_
   have hne:Zu z≠[]:=fun y=>by rw [y] at hl;have:0=z.length:=hl;omega
   obtain ⟨c,r,ec⟩:=List.exists_cons_of_ne_nil hne
   have e0:decide (V.str (⟨#[c]⟩:Str)=V.str (Str.ofString "0"))=decide (c=48):=by
    rw [ZaI,show (Str.ofString "0").cps.toList=[48] by decide +kernel]
    exact decide_eq_decide.mpr ⟨fun y=>by simpa using y,fun y=>by rw [y]⟩
   have hv:=Zg9 hf hne (by omega)
   have fin:¬ ((Zu z).head? = some 48∧Zu z≠[48])→∃ v,some (some (V.str z))=some (some v)∧∃ zz n,[v]=[V.str zz]∧PySem.intText? zz=some n∧zz.length≤640∧Q (.int n) (upd H' p (.lst acc)):=fun hn=>by
    have q1:=q _ s1
    rw [show Yb (Zu z)=some (Vp (Zu z)) from if_pos ⟨by omega,hne,hf,hn⟩] at q1
    exact Za _ rfl (ZV z _ rfl hv (by omega) q1)
   refine Za _ rfl (ZE z rfl hz (ZA _ _ rfl rfl (Za _ rfl ?_)))
   by_cases h2:1 < z.length
   ·refine Zy (decide_eq_true (by omega)) ?_
    refine Za _ rfl ⟨_,0,c,rfl,rfl,hz,(by show Yf (Zu z) 0=_;rw [ec];exact XL (j:=0) rfl),rfl,Za _ rfl ?_⟩
    by_cases h0:c=48
    ·refine Zy (by rw [e0,decide_eq_true h0]) ?_
     have en:Yb (Zu z)=none:=if_neg fun y=>y.2.2.2 ⟨by rw [ec,h0];rfl,fun y2=>by rw [y2] at hl;have:1=z.length:=hl;omega⟩
     exact q0 (b:=true) en _ s1
    ·refine Zh (by rw [e0,decide_eq_false h0];decide) ?_
     exact fin fun y=>h0 (by have:=y.1;rw [ec] at this;exact Option.some.inj this)
   ·refine Zh (by rw [decide_eq_false (by omega)];decide) ?_
    refine Zh (by decide) ?_
    refine fin fun y=>y.2 ?_
    have l1:r.length=0:=by have:=hl;rw [ec,List.length_cons] at this;omega
    have:=y.1
    rw [ec,List.length_eq_zero_iff.mp l1] at this ⊢
    rw [Option.some.inj this]
theorem Q0 (c:Nat):∀ l:List Nat,(spl c l).length=l.count c+1
 | []=>rfl
 | x::r=>by
  have ih:=Q0 c r
  unfold spl
  by_cases h:x=c
  ·rw [if_pos h,List.length_cons,ih,h,List.count_cons_self]
  ·rw [if_neg h,List.count_cons_of_ne h]
   cases q:spl c r with
   | nil=>exact absurd q (UY c r)
   | cons w ws=>rw [q] at ih;exact ih
theorem Zf0:∀ xs:List (Option Nat),XX .non (xs.map YF)=xs.contains none
 | []=>rfl
 | none::r=>by
  show (true || XX .non (r.map YF))=_
  rw [List.contains_cons]
  rfl
 | some x::r=>by
  have ih:=Zf0 r
  show (false || XX .non (r.map YF))=_
  rw [ih,List.contains_cons]
  rfl
theorem Zkl (xs:List (Option Nat)):(xs.map YF).all Y0=true:=by
 rw [List.all_map]
 exact List.all_eq_true.mpr fun x _=>by cases x <;> rfl
theorem Zkm:∀ (a b:List Nat),Xv (ZR a) (ZR b)=decide (a=b)
 | [],[]=>rfl
 | [],_::_=>rfl
 | _::_,[]=>rfl
 | x::r,y::q=>by
  have ih:=Zkm r q
  show ((((x:Nat):Int) == ((y:Nat):Int)) && Xv (ZR r) (ZR q))=_
  rw [ih,Bool.eq_iff_iff,Bool.and_eq_true,beq_iff_eq,decide_eq_true_eq,decide_eq_true_eq,List.cons.injEq]
  constructor
  ·rintro ⟨h1,h2⟩;exact ⟨by omega,h2⟩
  ·rintro ⟨h1,h2⟩;exact ⟨by omega,h2⟩
theorem Zkn:∀ {a b:List Nat},a.Pairwise (· < ·)→b.Pairwise (· < ·)→(∀ x,x∈a↔x∈b)→a=b
 | [],[],_,_,_=>rfl
 | [],y::q,_,_,h=>by have:=(h y).mpr List.mem_cons_self;cases this
 | x::r,[],_,_,h=>by have:=(h x).mp List.mem_cons_self;cases this
 | x::r,y::q,ha,hb,h=>by
  obtain ⟨a1,a2⟩:=List.pairwise_cons.mp ha
  obtain ⟨b1,b2⟩:=List.pairwise_cons.mp hb
  have e:x=y:=by
   rcases List.mem_cons.mp ((h x).mp List.mem_cons_self) with z | z
   ·exact z
   ·rcases List.mem_cons.mp ((h y).mpr List.mem_cons_self) with z2 | z2
    ·exact z2.symm
    ·have:=b1 x z;have:=a1 y z2;omega
  subst e
  rw [Zkn a2 b2 fun z=>⟨fun hz=>?_,fun hz=>?_⟩]
  ·rcases List.mem_cons.mp ((h z).mp (List.mem_cons_of_mem _ hz)) with y | y
   ·have:=a1 z hz;omega
   ·exact y
  ·rcases List.mem_cons.mp ((h z).mpr (List.mem_cons_of_mem _ hz)) with y | y
   ·have:=b1 z hz;omega
   ·exact y
def Zsn:Sp:=fun vs H Q _=>∃ (z:Str) (m:Nat),vs=[.str z,.int (m:Nat)]∧z.length≤100000∧(Zu z).count 44≤40∧(X2 (Zu z) m=none→∀ H',Zt H H'→Q .non H') ∧
 (∀ ds,X2 (Zu z) m=some ds→∀ p H',Zt H H'→H p=none→H' p=some (.lst (ZR ds))→Q (.ref p) H')
theorem Zko (Tx:ZD K mg t):Zv P w K mg base Zx 2 t.ZeZ t.Ze0 ["_law_word","_law_most"] Zsn:=by
 refine Tx.ZfB.ok Zh0 (fun vs H Q E h=>?_) (fun cdv A outer s H vs Q E hr h=>?_)
 ·obtain ⟨z,m,rfl,_⟩:=h
  rfl
 obtain ⟨z,m,rfl,hz,hc,qn,qs⟩:=h
 refine Za _ (Zl (Zd1 (i0:=2) (cl:=[]) (N:=["_law_one"]) (fr:=[none]) Zh0.nd rfl (Or.inl rfl) rfl (WD (Xu PySem.F.plainAttrs_str PySem.F.slot_str_split PySem.F.type_str_split ZaH (pv 0) (Zb Zn Zc))) rfl (by decide +kernel) rfl (by decide +kernel) trivial trivial rfl (fun _ _ _ _ _=>(Y6 (i:=0) (show List.Nodup (["_law_one"]:List Str) by decide +kernel) rfl (Or.inl rfl))) (fun _ _ _ _ _=>Wi) (fun _ _ _ _ _=>(Zo (Zdt Tx) (hr.mono (by omega)) rfl Tx.ZcR Tx.Za4.kp Tx.ZcS .nil Zp (Zb (pv 0) Zc))))
  (Zl (ZG (PW.pt (Y5 (ZI WH Y4 (pv 2) rfl) (Y5 (ZI (ZdP hr.units0) (pv 2) (Z4 (Zhs rfl) rfl Tx.Ziw Zir (Zb (YU (Zhr rfl) rfl Tx.Ziv Ziq (Zb (pv 2) Zc)) Zc)) (ZH _)) (Y5 (ZI XV (Z4 WX rfl Tx.XR XQ (Zb (pv 2) Zc)) Ze (ZH _)) (XE (ZI XV (Zz Z5 (pv 2) (Zgj Zgk Ze) (fun _ _=>rfl)) (pv 1) (ZH _)))))))
  (Zj (Zw Y4))
  ZF)
  (Zj (Zw (pv 2))))) ?_
 have lz:(Zu z).length≤100000:=by rw [XZ];exact hz
 have hn:(spl 44 (Zu z)).length≤41:=by rw [Q0];omega
 have fit:z.length+2≤sizeLine:=Nat.le_trans (Nat.add_le_add_right hz 2) (by decide)
 refine ZE _ rfl rfl (ZV z 44 rfl (by rw [ZbK]) fit fun p hp=>?_)
 have hl1:((spl 44 (Zu z)).map wS).length=(spl 44 (Zu z)).length:=List.length_map ..
 have s0:=Zr hp (.lst ((spl 44 (Zu z)).map wS))
 refine ZE p rfl ⟨_,Zm.of Zf⟩ (UX (K:=K) (a:=p) (xs:=(spl 44 (Zu z)).map wS) (fun i acc σ H'=>Zt (upd H p (.lst ((spl 44 (Zu z)).map wS))) H'∧acc=(((spl 44 (Zu z)).take i).map fun x=>YF (Yb x))∧∃ v,σ=[v])
  ⟨Zt.refl _,rfl,_,rfl⟩ (by rw [hl1];exact Nat.le_trans hn (by decide)) (fun i acc σ H' _ ⟨s',_⟩=>Zm.of (s' _ _ Zf)) ?_ ?_)
 ·rintro i x acc σ H' ha hx ⟨s',e',v,rfl⟩
  rw [List.getElem?_map] at hx
  cases hs:(spl 44 (Zu z))[i]? with
  | none=>rw [hs] at hx;cases hx
  | some y =>
   rw [hs] at hx
   obtain rfl:wS y=x:=Option.some.inj hx
   have ly:=Zaz 44 (Zu z) y (List.mem_of_getElem? hs)
   dsimp only [Xs,X7]
   rw [if_pos rfl]
   refine Za _ rfl (ZE ⟨y.toArray⟩ rfl (Qb (Nat.le_trans ly lz)) fun H3 s3=>⟨?_,s'.trans s3,?_,_,rfl⟩)
   ·rw [List.length_append,List.length_singleton];omega
   ·rw [e',List.take_add_one,hs]
    simp
 ·rintro acc σ H' ha ⟨s',e',v,rfl⟩ p3 g3
  rw [hl1,List.take_length] at e'
  have ea:acc=(XN (Zu z)).map YF:=by
   rw [e']
   unfold XN
   rw [List.map_map]
   rfl
  subst ea
  have s1:=(s0.trans s').trans (Zr g3 (.lst ((XN (Zu z)).map YF)))
  have g0:H p3=none:=(s0.trans s').free g3
  refine Za _ rfl (ZX p3 _ rfl (.inl (Zm.of Zf)) rfl (Zkl _) (Za _ rfl ?_))
  rw [if_neg (by decide),Zf0]
  cases hN:Vw (XN (Zu z)) with
  | none =>
   have mem:=ZhC hN
   refine Zy (List.contains_iff_mem.mpr mem) ?_
   exact qn (by unfold X2;rw [hN]) _ s1
  | some ds =>
   obtain ⟨e1,e2⟩:=Zd2 hN
   refine Zh (fun y=>?_) ?_
   ·have:=List.contains_iff_mem.mp y
    rw [e2] at this
    obtain ⟨x,_,hx⟩:=List.mem_map.mp this
    cases hx
   have ev:(XN (Zu z)).map YF=ZR ds:=by rw [e2,ZfW]
   have dl:ds.length≤41:=by
    have:(XN (Zu z)).length=(spl 44 (Zu z)).length:=List.length_map ..
    omega
   rw [ev] at s1 ⊢
   have hno:∀ H',Zt H H'→¬ (ds.Pairwise (· < ·)∧ds.length≤12∧∀ x∈ds,x≤m)→Q .non H':=fun H' sx n=>qn (by unfold X2;rw [hN];exact if_neg n) H' sx
   have e3:ZR ds=(ds.map fun n=>((n:Nat):Int)).map V.int:=Zkg ds
   refine Za _ rfl (Za _ rfl (ZV p3 (ds.map (fun n=>((n:Nat):Int))) rfl (Zm.of (by rw [Zf,e3])) (by rw [List.length_map];omega) fun l hl=>?_))
   refine ZV l _ rfl Zf (by rw [List.length_map];omega) fun l2 ys hl2 pw mem le=>?_
   have ne1:p3≠l:=fun y=>by rw [← y,Zf] at hl;cases hl
   have s2:=s1.trans (Zr hl (Qp P w l (ds.map fun n=>((n:Nat):Int))))
   have s3:=s2.trans (Zr hl2 (.lst (ys.map V.int)))
   have nn:∀ y∈ys,∃ n:Nat,y=((n:Nat):Int)∧n∈ds:=fun y hy=>by
    obtain ⟨n,hn,rfl⟩:=List.mem_map.mp ((mem y).mp hy)
    exact Za n rfl hn
   have ey:ys.map V.int=ZR (ys.map Int.toNat):=by
    show _=(ys.map Int.toNat).map _
    rw [List.map_map]
    refine List.map_congr_left fun y hy=>?_
    obtain ⟨n,rfl,_⟩:=nn y hy
    rfl
   have yp:(ys.map Int.toNat).Pairwise (· < ·):=by
    rw [List.pairwise_map]
    refine List.Pairwise.imp_of_mem (fun {x y} hx hy h=>?_) pw
    obtain ⟨n,rfl,_⟩:=nn x hx
    obtain ⟨k,rfl,_⟩:=nn y hy
    simp only [Int.toNat_natCast]
    omega
   have ym:∀ x,x∈ys.map Int.toNat↔x∈ds:=fun x=>by
    constructor
    ·intro hx
     obtain ⟨y,hy,rfl⟩:=List.mem_map.mp hx
     obtain ⟨n,rfl,hn⟩:=nn y hy
     exact hn
    ·intro hx
     exact List.mem_map.mpr (Za ((x:Nat):Int) ((mem _).mpr (List.mem_map.mpr (Za x hx rfl))) rfl)
   have h3:upd (upd (upd H' p3 (.lst (ZR ds))) l (Qp P w l (ds.map fun n=>((n:Nat):Int)))) l2 (.lst (ys.map V.int)) p3=some (.lst (ZR ds)):=by
    have n2:p3≠l2:=fun y=>by rw [← y,ZO ne1,Zf] at hl2;cases hl2
    rw [ZO n2,ZO ne1,Zf]
   refine ⟨p3,l2,ZR ds,ZR (ys.map Int.toNat),rfl,rfl,Zm.of h3,Zm.of (by rw [Zf,ey]),QV _,QV _,Za _ rfl ?_⟩
   rw [if_pos rfl,Zkm]
   by_cases hp1:ds.Pairwise (· < ·)
   rotate_left
   ·refine Zy ?_ (hno _ s3 fun y=>hp1 y.1)
    rw [decide_eq_false fun y=>hp1 (by rw [y];exact yp)]
    rfl
   have eds:ds=ys.map Int.toNat:=Zkn hp1 yp fun x=>(ym x).symm
   refine Zh (by rw [decide_eq_true eds];decide) ?_
   refine Za _ rfl (ZA p3 (ZR ds) rfl (.inl (Zm.of h3)) (ZA _ _ rfl rfl (Za _ rfl ?_)))
   have ln:(ZR ds).length=ds.length:=List.length_map ..
   by_cases h12:ds.length≤12
   rotate_left
   ·exact Zy (by rw [ln];exact decide_eq_true (by omega)) (hno _ s3 fun y=>h12 y.2.1)
   refine Zh (by rw [ln,decide_eq_false (by omega)];decide) ?_
   have d1:ds≠[]:=fun y=>by
    have z1:(XN (Zu z)).length=(spl 44 (Zu z)).length:=List.length_map ..
    rw [Q0] at z1
    rw [y] at e1
    have:0=(XN (Zu z)).length:=e1
    omega
   have ex:Yf (ZR ds) (-1)=some (V.int ((ds.getLast d1:Nat):Int)):=by
    have e9:ZR ds=ZR ds.dropLast++[V.int ((ds.getLast d1:Nat):Int)] :=
     (congrArg ZR (List.dropLast_concat_getLast d1).symm).trans (List.map_append ..)
    rw [e9]
    exact ZlL _ _
   refine Za _ rfl (Za _ rfl (ZC p3 (ZR ds) (-1) _ rfl rfl (Zm.of h3) ex (Za _ rfl (ZA _ _ rfl rfl (Za _ rfl ?_)))))
   have lm:∀ x∈ds,x≤ds.getLast d1:=fun x hx=>by
    obtain ⟨i,hi,rfl⟩:=List.getElem_of_mem hx
    rw [List.getLast_eq_getElem]
    by_cases q:i=ds.length - 1
    ·subst q;exact Nat.le_refl _
    ·exact Nat.le_of_lt (List.pairwise_iff_getElem.mp hp1 i (ds.length - 1) hi (by omega) (by omega))
   by_cases hm:ds.getLast d1≤m
   rotate_left
   ·exact Zy (decide_eq_true (by omega)) (hno _ s3 fun y=>hm (y.2.2 _ (List.getLast_mem d1)))
   refine Zh (by rw [decide_eq_false (by omega)];decide) ?_
   exact Za _ rfl (qs ds (by unfold X2;rw [hN];exact if_pos ⟨hp1,h12,fun x hx=>Nat.le_trans (lm x hx) hm⟩) p3 _ s3 g0 h3)
def Zf1 (tp:Addr) (H:Hp) (v:V):Wl→Prop
 | none=>v=.non
 | some (T,q)=>∃ (a p:Addr) (tv:V),v=.ref a∧H a=some (.tup [tv,.ref p])∧Z8 tp H tv T∧H p=some (.lst (q.map wS))
def Lw (ws:List (List Nat)):Prop:=XC ws∧∀ w∈ws,w.count 44≤40
theorem Lw.suf {a b:List (List Nat)} (h:Lw b) (s:a <:+ b):Lw a:=⟨h.1.suf s,fun w hw=>h.2 w (s.subset hw)⟩
theorem Zf2 (xs:List V) (n:Nat):Wg xs none (some (n:Int))=xs.take n:=by
 unfold Wg
 rw [HT.sIx_none,HT.sIx_nat,List.drop_zero,Nat.sub_zero]
 rcases Nat.le_total n xs.length with h | h
 ·rw [Nat.min_eq_left h]
 ·rw [Nat.min_eq_right h,List.take_length,List.take_of_length_le h]
theorem Zdu (xs:List V) (n:Nat):Wg xs (some (n:Int)) none=xs.drop n:=by
 unfold Wg
 rw [HT.sIx_none,HT.sIx_nat]
 rcases Nat.le_total n xs.length with h | h
 ·rw [Nat.min_eq_left h,List.take_of_length_le (by rw [List.length_drop];exact Nat.le_refl _)]
 ·rw [Nat.min_eq_right h,Nat.sub_self,List.take_zero,List.drop_eq_nil_of_le h]
theorem Zdv (ws:List (List Nat)) (k:Nat):Wg (ws.map wS) (some (k:Int)) none=(ws.drop k).map wS:=by rw [Zdu,List.map_drop]
def Zso:Sp:=fun vs H Q _=>∃ (l tp:Addr) (o:HO) (w:List Nat) (ws:List (List Nat)),vs=[.ref l]∧H l=some (.lst ((w::ws).map wS))∧H tp=some o∧Lw (w::ws)∧∀ v H',Zt H H'→Zf1 tp H' v (YB w ws)→Q v H'
theorem Zkp (Tx:ZD K mg t):Zv P w K mg base Zx 3 t.Ze1 t.Ze2 ["_law_words_here"] Zso:=by
 refine Tx.ZfC.ok ZaM (fun vs H Q E h=>?_) (fun cdv A outer s H vs Q E hr h=>?_)
 ·obtain ⟨l,tp,o,w,ws,rfl,_⟩:=h
  rfl
 obtain ⟨l,tp,o,w,ws,rfl,hl,htp,ok,q⟩:=h
 refine Za _ (Zl (ZG (ZI ZZ (Zz Z5 (pv 0) Ze (fun _ _=>rfl)) Zn (ZH _))
  (Zj (Zw (YM (Zb (YM (Zb Zn Zc)) (Zb (XJ WW (pv 0) (XI Ze) XH) Zc)))))
  ZF)
  (Zl (ZG (PW.pt (WC (ZI ZZ (Zz Z5 (pv 0) Ze (fun _ _=>rfl)) Zn (ZH _)) (WC (ZI XV (Z4 WX rfl Tx.XR XQ (Zb (pv 0) Zc)) Ze (ZH _)) (WC (ZI ZZ (Z4 QR rfl Tx.XR XQ (Zb (Zz (show WG _ (UW K) from Z5) (pv 0) Ze (fun _ _=>rfl)) Zc)) Ze (ZH _)) (Vf (ZI ZZ (Xu PySem.F.plainAttrs_str PySem.F.slot_str_strip PySem.F.type_str_strip ZnU (Zz (show WG _ (UW K) from Z5) (pv 0) Ze (fun _ _=>rfl)) (Zb Zn Zc)) Zn (ZH _)))))))
  (Zl (Zd1 (i0:=1) (cl:=[(Str.ofString "_law_words_here",s.heap.objs.size+1)]) (N:=["_law_k","_law_words_here"]) (fr:=[none,some 0]) ZaM.nd rfl (Or.inl rfl) rfl (QO rfl Tx.Zag (Zb Ze Zc)) rfl (by decide +kernel) rfl (by decide +kernel) ⟨⟨rfl,Or.inl rfl,Or.inl rfl,Za _ rfl rfl⟩,trivial⟩ ⟨rfl,trivial⟩ rfl (fun _ _ _ _ _=>(Y6 (i:=0) (show List.Nodup (["_law_k","_law_words_here"]:List Str) by decide +kernel) rfl (Or.inl rfl))) (fun _ _ _ _ _=>Wi) (fun _ _ _ _ _=>(Zz (show WG _ (UW K) from Z5) (ZW (Zb Ze (Zb (Zz (show WG _ (UW K) from Z5) (ZW (Zb Ze (Zb Ze (Zb Ze (Zb Ze (Zb Ze (Zb Ze (Zb Ze Zc)))))))) (pv 0) (fun _ _=>rfl)) Zc))) (YU Zbx rfl Tx.ZaZ ZaN (Zb (Zz ZaE (Zz (show WG _ (UW K) from Z5) (pv 1) Ze (fun _ _=>rfl)) (pv 0) (fun _ _=>rfl)) Zc)) (fun _ _=>rfl))))
  (Zj (Zw (YM (Zb (YM (Zb Zn (Zb (Z4 (ZdV rfl) rfl Tx.Zfo Zea (Zb (pv 1) Zc)) Zc))) (Zb (XJ WW (pv 0) (XI Ze) XH) Zc))))))
  ZF)
  (Zl (ZG (PW.pt (WC (ZI ZZ (Zz Z5 (pv 0) Ze (fun _ _=>rfl)) Zn (ZH _)) (Vf (ZI XV (Z4 WX rfl Tx.XR XQ (Zb (pv 0) Zc)) Ze (ZH _)))))
  (Zl (ZT (i:=2) ZaM.nd rfl (Or.inl rfl) (Zo (Zdt Tx) (hr.mono (by omega)) rfl Tx.ZcR Tx.Za4.kp Tx.ZcS .nil Zp (Zb (Zz (show WG _ (UW K) from Z5) (pv 0) Ze (fun _ _=>rfl)) Zc)))
  (Zl (ZT (i:=3) ZaM.nd rfl (Or.inl rfl) Y4)
  (Zl (ZG (PW.pt (WC (UR (Zbf (pv 2))) (Vf (Zbm Wf Wf Ze (pv 2) Ze))))
  (Zj (ZT (i:=3) ZaM.nd rfl (Or.inl rfl) (Zo (Zko Tx) (hr.mono (by omega)) rfl Tx.ZiT Tx.ZfB.kp Tx.ZiU .nil Zp (Zb (Zz Z5 (pv 0) Ze (fun _ _=>rfl)) (Zb (ZB Yq (pv 2) Ze) Zc)))))
  ZF)
  (Zj (ZG (UR (Zbf (pv 3)))
  (Zj (Zw (YM (Zb (YM (Zb Zn (Zb (pv 2) (Zb (pv 3) Zc)))) (Zb (XJ WW (pv 0) (XI Ze) XH) Zc)))))
  ZF)))))
  ZF)
  (Zj (Zw Y4))))) ?_
 have at0:Yf ((w::ws).map wS) 0=some (wS w):=XL (j:=0) rfl
 refine Za _ rfl (Zk l _ 0 _ rfl rfl (Zm.of hl) at0 rfl (Za _ rfl ?_))
 by_cases a1:w=kw "always"
 ·refine Zy (by rw [Ys,decide_eq_true a1]) ?_
  refine ⟨by show 1≤sizeLine;decide,fun p1 h1=>?_⟩
  have s1:=Zr h1 (.tup [.str (Str.ofString "always")])
  refine Za _ rfl (Za 1 rfl (ZA l _ rfl (Zm.of (s1 _ _ hl)) fun p2 h2=>⟨by show 2≤sizeLine;decide,fun p3 h3=>?_⟩))
  have s2:=Zr h2 (.lst (Wg ((w::ws).map wS) (some 1) none))
  have s3:=Zr h3 (.tup [.ref p1,.ref p2])
  refine q (.ref p3) _ ((s1.trans s2).trans s3) ?_
  rw [show YB w ws=some (.always,ws) from if_pos a1]
  exact Xc p3 p2 (.ref p1) rfl Zf (.always ((s2.trans s3) _ _ Zf)) (s3 _ _ (by rw [Zf];exact congrArg (fun x=>some (HO.lst x)) (Zdv (w::ws) 1)))
 refine Zh (by rw [Ys,decide_eq_false a1];decide) ?_
 refine Za _ rfl (Zk l _ 0 _ rfl rfl (Zm.of hl) at0 rfl (Za _ rfl ?_))
 by_cases a2:w=kw "week"
 ·have ne3:w≠kw "each" := fun z=>absurd (a2.symm.trans z) (by decide +kernel)
  have er0:YB w ws=WM ws:=by unfold YB;rw [if_neg a1,if_pos a2]
  refine Zy (by rw [Ys,decide_eq_true a2]) ?_
  have ln:((w::ws).map wS).length=ws.length+1:=by rw [List.length_map,List.length_cons]
  refine Za _ rfl (ZA l _ rfl (.inl (Zm.of hl)) (ZA _ _ rfl rfl (Za _ rfl ?_)))
  cases ws with
  | nil =>
   have er:YB w []=none:=er0
   refine Zh (by rw [ln];decide) ?_
   refine Zh (by decide) ?_
   refine Za _ rfl (Zk l _ 0 _ rfl rfl (Zm.of hl) at0 rfl (Za _ rfl (Zh (by rw [Ys,decide_eq_false ne3];decide) ?_)))
   refine Zh (by decide) ?_
   exact q .non _ (Zt.refl _) (by rw [er];rfl)
  | cons s1 r =>
   have at1:Yf ((w::s1::r).map wS) 1=some (wS s1):=XL (j:=1) rfl
   have f1:(⟨s1.toArray⟩:Str).length≤sizeLine:=Qb (ok.1.2 s1 (by simp))
   have el:(⟨s1.toArray⟩:Str).length=s1.length:=List.size_toArray ..
   refine Zy (by rw [ln,List.length_cons];exact decide_eq_true (by omega)) ?_
   refine Za _ rfl (ZC l _ 1 _ rfl rfl (Zm.of hl) at1 (WN ⟨s1.toArray⟩ rfl f1 rfl (Za _ rfl ?_)))
   by_cases h7:s1.length=7
   rotate_left
   ·have er:YB w (s1::r)=none:=by
     rw [er0];unfold WM;dsimp only;unfold W1;rw [if_neg fun z=>h7 z.1]
    refine Zh (by rw [el,decide_eq_false (fun z=>h7 (by have:=V.int.inj z;omega))];decide) ?_
    refine Zh (by decide) ?_
    refine Za _ rfl (Zk l _ 0 _ rfl rfl (Zm.of hl) at0 rfl (Za _ rfl (Zh (by rw [Ys,decide_eq_false ne3];decide) ?_)))
    refine Zh (by decide) ?_
    exact q .non _ (Zt.refl _) (by rw [er];rfl)
   refine Zy (by rw [el,h7];decide) ?_
   refine Za _ rfl (Zk l _ 1 _ rfl rfl (Zm.of hl) at1 rfl (ZX ⟨s1.toArray⟩ _ rfl rfl f1 rfl (Za _ rfl ?_)))
   have e01:(Str.ofString "01").cps.toList=[48,49]:=by decide +kernel
   have es:Txt.stripChars ⟨s1.toArray⟩ (Str.ofString "01")=Str.ofString "" ↔ s1.all (fun c=>c == 48 || c == 49)=true:=by
    rw [ZnV,e01,List.all_eq_true]
    constructor
    ·intro h c hc
     have:=h c hc
     simpa using this
    ·intro h c hc
     have:=h c hc
     simpa using this
   by_cases hb:s1.all (fun c=>c == 48 || c == 49)=true
   rotate_left
   ·have er:YB w (s1::r)=none:=by
     rw [er0];unfold WM;dsimp only;unfold W1;rw [if_neg fun z=>hb z.2]
    refine Zh (by rw [decide_eq_false (fun z=>hb (es.mp (V.str.inj z)))];decide) ?_
    refine Za _ rfl (Zk l _ 0 _ rfl rfl (Zm.of hl) at0 rfl (Za _ rfl (Zh (by rw [Ys,decide_eq_false ne3];decide) ?_)))
    refine Zh (by decide) ?_
    exact q .non _ (Zt.refl _) (by rw [er];rfl)
   refine Zy (by rw [es.mpr hb];decide) ?_
   have er:YB w (s1::r)=some (.week (bv s1),r):=by
    rw [er0];unfold WM;dsimp only;unfold W1;rw [if_pos ⟨h7,hb⟩]
   refine WN 7 rfl (by decide) (by decide) (ZdR (fun i acc σ H'=>Zt H H'∧acc=((List.range i).map fun j=>V.int ((((s1.getD j 0 - 48) * 2 ^ j:Nat)):Int))∧∃ v,σ=[v,some (.ref l)]) ⟨Zt.refl _,rfl,_,rfl⟩ (by decide) ?_ ?_)
   ·rintro i acc σ H' hi ha ⟨s',e',v,rfl⟩
    dsimp only [Xs,X7]
    rw [if_pos rfl]
    have hi7:i < 7:=by simpa using hi
    obtain ⟨c,hc⟩:∃ c,s1[i]? = some c:=⟨_,List.getElem?_eq_getElem (by omega)⟩
    have hg:s1.getD i 0=c:=by rw [List.getD_eq_getElem?_getD,hc];rfl
    have c01:(c == 48 || c == 49)=true:=List.all_eq_true.mp hb c (List.mem_of_getElem? hc)
    have ci:c - 48≤1:=by rcases (Bool.or_eq_true _ _).mp c01 with z | z <;> (rw [eq_of_beq z];decide)
    have p7:∀ i,i < 7→Yf [V.int 1,V.int 2,V.int 4,V.int 8,V.int 16,V.int 32,V.int 64] ((i:Nat):Int)=some (V.int ((2 ^ i:Nat):Int)):=by
     intro i hi
     match i,hi with
     | 0,_ | 1,_ | 2,_ | 3,_ | 4,_ | 5,_ | 6,_=>rfl
    have ac:Yf s1 ((i:Nat):Int)=some c:=XL hc
    refine ⟨by show 7≤sizeLine;decide,fun pa hpa=>(Za _ rfl (Zk pa _ _ _ rfl rfl (Zm.of Zf) (by rw [Int.zero_add];exact p7 i hi7) (by show 2≤sizeLine;decide) fun pb hpb=>?_))⟩
    have sa:=s'.trans ((Zr hpa (.lst [V.int 1,V.int 2,V.int 4,V.int 8,V.int 16,V.int 32,V.int 64])).trans (Zr hpb (.lst [V.int 0,V.int ((2 ^ i:Nat):Int)])))
    refine Za _ rfl (ZC l _ 1 _ rfl rfl (Zm.of (sa _ _ hl)) at1 (Za _ rfl (YJ ⟨s1.toArray⟩ _ c rfl rfl f1 (by rw [Int.zero_add];exact ac) (ZV ⟨#[c]⟩ _ rfl (Zkd c01) (by show 1≤640;decide) ?_))))
    have pk:Yf [V.int 0,V.int ((2 ^ i:Nat):Int)] (((c - 48:Nat)):Int)=some (V.int (((c - 48) * 2 ^ i:Nat):Int)):=by
     rcases (Bool.or_eq_true _ _).mp c01 with z | z
     ·rw [eq_of_beq z,Nat.sub_self,Nat.zero_mul];rfl
     ·rw [eq_of_beq z,show 49 - 48=1 from rfl,Nat.one_mul];rfl
    refine ⟨pb,_,_,_,rfl,rfl,Zm.of Zf,pk,?_,sa,?_,_,rfl⟩
    ·rw [List.length_append,List.length_singleton];omega
    ·rw [e',List.range_succ,List.map_append,← hg]
     rfl
   ·rintro acc σ H' ha ⟨s',e',v,rfl⟩ p hp
    have e7:acc=((List.range 7).map fun j=>((((s1.getD j 0 - 48) * 2 ^ j:Nat)):Int)).map V.int:=by
     rw [List.map_map]
     exact e'
    subst e7
    have sp:=s'.trans (Zr hp (.lst (((List.range 7).map fun j=>((((s1.getD j 0 - 48) * 2 ^ j:Nat)):Int)).map V.int)))
    have esum:((List.range 7).map fun j=>((((s1.getD j 0 - 48) * 2 ^ j:Nat)):Int)).sum=((bv s1:Nat):Int):=by
     match s1,h7 with
     | [c0,c1,c2,c3,c4,c5,c6],_ =>
      simp [List.range,List.range.loop,bv]
      omega
    have bnd:∀ n∈(List.range 7).map fun j=>((((s1.getD j 0 - 48) * 2 ^ j:Nat)):Int),0≤n∧n≤1000000:=fun n hn=>by
     obtain ⟨j,hj,rfl⟩:=List.mem_map.mp hn
     have j7:j < 7:=List.mem_range.mp hj
     have d1:s1.getD j 0 - 48≤1:=by
      rw [List.getD_eq_getElem?_getD,List.getElem?_eq_getElem (show j < s1.length by omega)]
      have c01:=List.all_eq_true.mp hb _ (List.getElem_mem (show j < s1.length by omega))
      show s1[j] - 48≤1
      rcases (Bool.or_eq_true _ _).mp c01 with z | z <;> (rw [eq_of_beq z];decide)
     have d2:2 ^ j≤128:=Nat.pow_le_pow_right (by decide) (show j≤7 by omega)
     have d3:(s1.getD j 0 - 48) * 2 ^ j≤1 * 128:=Nat.mul_le_mul d1 d2
     omega
    refine Za _ rfl ⟨p,_,rfl,Zm.of Zf,bnd,by rw [List.length_map,List.length_range];decide,by show 2≤sizeLine;decide,fun p1 h1=>?_⟩
    rw [esum] at *
    have s1':=sp.trans (Zr h1 (.tup [.str (Str.ofString "week"),.int ((bv s1:Nat):Int)]))
    refine Za _ rfl (Za 2 rfl (ZA l _ rfl (Zm.of (s1' _ _ hl)) fun p2 h2=>⟨by show 2≤sizeLine;decide,fun p3 h3=>?_⟩))
    have s2:=Zr h2 (.lst (Wg ((w::s1::r).map wS) (some 2) none))
    have s3:=Zr h3 (.tup [.ref p1,.ref p2])
    refine q (.ref p3) _ ((s1'.trans s2).trans s3) ?_
    rw [er]
    exact Xc p3 p2 (.ref p1) rfl Zf (.week ((s2.trans s3) _ _ Zf)) (s3 _ _ (by rw [Zf];exact congrArg (fun x=>some (HO.lst x)) (Zdv (w::s1::r) 2)))
 refine Zh (by rw [Ys,decide_eq_false a2];decide) ?_
 refine Zh (by decide) ?_
 have ln:((w::ws).map wS).length=ws.length+1:=by rw [List.length_map,List.length_cons]
 refine Za _ rfl (Zk l _ 0 _ rfl rfl (Zm.of hl) at0 rfl (Za _ rfl ?_))
 by_cases a3:w=kw "each"
 rotate_left
 ·have er:YB w ws=none:=by unfold YB;rw [if_neg a1,if_neg a2,if_neg a3]
  refine Zh (by rw [Ys,decide_eq_false a3];decide) ?_
  refine Zh (by decide) ?_
  exact q .non _ (Zt.refl _) (by rw [er];rfl)
 have er0:YB w ws=Wm ws:=by unfold YB;rw [if_neg a1,if_neg a2,if_pos a3]
 refine Zy (by rw [Ys,decide_eq_true a3]) ?_
 refine Za _ rfl (ZA l _ rfl (.inl (Zm.of hl)) (ZA _ _ rfl rfl (Za _ rfl ?_)))
 match ws,ln,hl,at0,ok,q,er0 with
 | [],ln,hl,at0,ok,q,er0 =>
  refine Zh (by rw [ln];decide) ?_
  exact q .non _ (Zt.refl _) (by rw [er0];rfl)
 | [_],ln,hl,at0,ok,q,er0 =>
  refine Zh (by rw [ln];show ¬ decide ((2:Int) < ((2:Nat):Int))=true;decide) ?_
  exact q .non _ (Zt.refl _) (by rw [er0];rfl)
 | n::g::r,ln,hl,at0,ok,q,er0 =>
  have at1:Yf ((w::n::g::r).map wS) 1=some (wS n):=XL (j:=1) rfl
  have at2:Yf ((w::n::g::r).map wS) 2=some (wS g):=XL (j:=2) rfl
  have f1:(⟨n.toArray⟩:Str).length≤sizeLine:=Qb (ok.1.2 n (by simp))
  have lg:=ok.1.2 g (by simp)
  have cg:=ok.2 g (by simp)
  refine Zy (by rw [ln,List.length_cons,List.length_cons];exact decide_eq_true (by omega)) ?_
  refine Za _ rfl (ZC l _ 1 _ rfl rfl (Zm.of hl) at1 (ZE ⟨n.toArray⟩ rfl f1 fun H1 s1=>?_))
  cases hn:Yb n with
  | none =>
   have en:YB w (n::g::r)=none:=by rw [er0];unfold Wm;dsimp only;rw [hn]
   refine Za _ rfl (Za _ rfl (Zh (by decide) ?_))
   refine Zh (by decide) ?_
   refine Za _ rfl (Za _ rfl (Zh (by decide) ?_))
   exact q .non _ s1 (by rw [en];rfl)
  | some m =>
   refine Za _ rfl (Za _ rfl (Zy (by rw [decide_eq_false (show ¬ YF (some m)=V.non from fun z=>nomatch z)];rfl) ?_))
   refine Za _ rfl (ZA _ _ rfl rfl (Za _ rfl ?_))
   by_cases m1:1≤m
   rotate_left
   ·have en:YB w (n::g::r)=none:=by rw [er0];unfold Wm;dsimp only;rw [hn];exact if_neg fun z=>m1 z.1
    rw [if_neg (by rw [decide_eq_false (by omega)];decide)]
    refine Za _ rfl (Zh (by decide) ?_)
    refine Za _ rfl (Za _ rfl (Zh (by decide) ?_))
    exact q .non _ s1 (by rw [en];rfl)
   rw [if_pos (decide_eq_true (by omega))]
   refine ZA _ _ rfl rfl (Za _ rfl ?_)
   by_cases m28:m≤28
   rotate_left
   ·have en:YB w (n::g::r)=none:=by rw [er0];unfold Wm;dsimp only;rw [hn];exact if_neg fun z=>m28 z.2
    refine Zh (by rw [decide_eq_false (by omega)];decide) ?_
    refine Za _ rfl (Za _ rfl (Zh (by decide) ?_))
    exact q .non _ s1 (by rw [en];rfl)
   refine Zy (decide_eq_true (by omega)) ?_
   have e0:YB w (n::g::r)=(match X2 g (m - 1) with | some ss=>some (.each m ss,r) | none=>none):=by
    rw [er0];unfold Wm;dsimp only;rw [hn];exact if_pos ⟨m1,m28⟩
   refine Za _ rfl (ZC l _ 2 _ rfl rfl (Zm.of (s1 _ _ hl)) at2 (Za _ rfl (ZA _ _ rfl rfl (ZX ⟨g.toArray⟩ (m - 1) (congrArg (fun i=>[wS g,V.int i]) (by omega)) (by rw [show (⟨g.toArray⟩:Str).length=g.length from List.size_toArray ..];exact lg) cg (fun eg H2 s2=>?_) fun ss eg p H2 s2 hp ep=>?_))))
   ·refine Za _ rfl (Za _ rfl (Zh (by decide) ?_))
    exact q .non _ (s1.trans s2) (by rw [e0,eg];rfl)
   ·refine Za _ rfl (Za _ rfl (Zy (by rw [decide_eq_false (show ¬ V.ref p=V.non from fun z=>nomatch z)];rfl) ?_))
    refine Za _ rfl (ZE _ rfl (by show 3≤sizeLine;decide) fun p1 h1=>?_)
    have s12:=s1.trans s2
    have pt:p≠tp:=fun z=>by rw [z,s1 _ _ htp] at hp;cases hp
    have s3:=Zr h1 (.tup [.str (Str.ofString "each"),YF (some m),.ref p])
    refine Za _ rfl (Za 3 rfl (ZA l _ rfl (Zm.of ((s12.trans s3) _ _ hl)) fun p2 h2=>⟨by show 2≤sizeLine;decide,fun p3 h3=>?_⟩))
    have s4:=Zr h2 (.lst (Wg ((w::n::g::r).map wS) (some 3) none))
    have s5:=Zr h3 (.tup [.ref p1,.ref p2])
    refine q (.ref p3) _ (((s12.trans s3).trans s4).trans s5) ?_
    rw [e0,eg]
    exact Xc p3 p2 (.ref p1) rfl Zf (.each ((s4.trans s5) _ _ Zf) (((s3.trans s4).trans s5) _ _ ep) pt) (s5 _ _ (by rw [Zf];exact congrArg (fun x=>some (HO.lst x)) (Zdv (w::n::g::r) 3)))
def Zkq (n:Nat):Sp:=fun vs H Q _=>∃ (l tp:Addr) (o:HO) (ws:List (List Nat)),vs=[.ref l,.int (n:Nat)]∧n≤8∧H l=some (.lst (ws.map wS))∧H tp=some o∧Lw ws∧∀ v H',Zt H H'→Zf1 tp H' v (rd n ws)→Q v H'
def Zsp (n:Nat):Sp:=fun vs H Q _=>∃ (l tp:Addr) (o:HO) (w:List Nat) (ws:List (List Nat)),vs=[.ref l,.int ((n+1:Nat):Int)]∧n+1≤8∧H l=some (.lst ((w::ws).map wS))∧H tp=some o∧Lw (w::ws)∧W2 w∧∀ v H',Zt H H'→Zf1 tp H' v (Yz (rd n) w ws)→Q v H'
theorem in4 (w:List Nat):XX (wS w) [.str (Str.ofString "either"),.str (Str.ofString "both"),.str (Str.ofString "but"),.str (Str.ofString "span")]=decide (W2 w):=by
 have k:∀ s:String,Yr (.str (Str.ofString s)) (wS w)=decide (w=kw s):=fun s=>by
  have:=Ys w s
  rw [← this]
  show (Str.ofString s == (⟨w.toArray⟩:Str))=_
  rw [Bool.eq_iff_iff,beq_iff_eq,decide_eq_true_eq]
  constructor
  ·intro h;rw [h]
  ·intro h;exact (V.str.inj h).symm
 show (Yr _ (wS w) || (Yr _ (wS w) || (Yr _ (wS w) || (Yr _ (wS w) || false))))=_
 rw [k,k,k,k,Bool.or_false]
 unfold W2
 rw [Bool.eq_iff_iff]
 simp
 exact decide_eq_true_iff.symm
theorem Zf3 (ws:List (List Nat)):(ws.map wS).all Y0=true:=by rw [List.all_map];exact List.all_eq_true.mpr fun _ _=>rfl
theorem Zf4 (Tx:ZD K mg t) (n:Nat) (ih:Zv P w K mg base Zx (2 * n+4) t.ZbY t.ZbZ ["_law_words_here","_law_deep"] (Zkq n)) :
  Zv P w K mg base Zx (2 * n+5) t.ZbW t.ZbX ["_law_words_here","_law_deep"] (Zsp n):=by
 refine Tx.ZcT.ok Qv (fun vs H Q E h=>?_) (fun cdv A outer s H vs Q E hr h=>?_)
 ·obtain ⟨l,tp,o,w,ws,rfl,_⟩:=h
  rfl
 obtain ⟨l,tp,o,w,ws,rfl,n8,hl,htp,ok,hi,q⟩:=h
 refine Za _ (Zl (ZT (i:=2) Qv.nd rfl (Or.inl rfl) (Zz Z5 (ZW (Zb Ze (Zb Ze (Zb Ze (Zb Ze Zc))))) (Xu PySem.F.plainAttrs_list PySem.F.slot_list_index PySem.F.type_list_index ZgN (ZW (Zb Zn (Zb Zn (Zb Zn (Zb Zn Zc))))) (Zb (Zz Z5 (pv 0) Ze (fun _ _=>rfl)) Zc)) (fun _ _=>rfl)))
  (Zl (ZG (ZI Zbl (Z4 WX rfl Tx.XR XQ (Zb (pv 0) Zc)) (pv 2) (ZH _))
  (Zj (Zw Y4))
  ZF)
  (Zl (ZT (i:=3) Qv.nd rfl (Or.inl rfl) (Zo ih (hr.mono (by omega)) rfl Tx.ZfD Tx.Za5.kp Tx.ZfE .nil Zp (Zb (XJ WW (pv 0) (XI (pv 2)) XH) (Zb (ZB Yq (pv 1) Ze) Zc))))
  (Zl (ZG (UR (ZaA (pv 3)))
  (Zj (Zw Y4))
  ZF)
  (Zl (ZG (ZI ZZ (Zz Z5 (pv 0) Ze (fun _ _=>rfl)) Zn (ZH _))
  (Zl (ZT (i:=4) Qv.nd rfl (Or.inl rfl) (Zo (Zko Tx) (hr.mono (by omega)) rfl Tx.ZiT Tx.ZfB.kp Tx.ZiU .nil Zp (Zb (Zz Z5 (pv 0) Ze (fun _ _=>rfl)) (Zb Ze Zc))))
  (Zj (Zw (Zdz (UR (ZaA (pv 4))) Y4 (YM (Zb (YM (Zb Zn (Zb (pv 4) (Zb (Zz ZU (pv 3) Ze (fun _ _=>rfl)) Zc)))) (Zb (Zz ZU (pv 3) Ze (fun _ _=>rfl)) Zc)))))))
  ZF)
  (Zl (ZG (ZI ZZ (Zz Z5 (pv 0) Ze (fun _ _=>rfl)) Zn (ZH _))
  (Zl (ZT (i:=5) Qv.nd rfl (Or.inl rfl) (ZW (Zb (Zo (Zdt Tx) (hr.mono (by omega)) rfl Tx.ZcR Tx.Za4.kp Tx.ZcS .nil Zp (Zb (Zz Z5 (pv 0) Ze (fun _ _=>rfl)) Zc)) (Zb (Zo (Zdt Tx) (hr.mono (by omega)) rfl Tx.ZcR Tx.Za4.kp Tx.ZcS .nil Zp (Zb (Zz Z5 (pv 0) Ze (fun _ _=>rfl)) Zc)) Zc))))
  (Zl (ZG (PW.pt (Y5 (ZI WH Y4 (pv 5) rfl) (Y5 (ZI XV (Zz Z5 (pv 5) Ze (fun _ _=>rfl)) (Zz Z5 (pv 5) Ze (fun _ _=>rfl)) (ZH _)) (XE (ZI XV (Zz Z5 (pv 5) Ze (fun _ _=>rfl)) Ze (ZH _))))))
  (Zj (Zw Y4))
  ZF)
  (Zj (Zw (YM (Zb (YM (Zb Zn (Zb (Zz Z5 (pv 5) Ze (fun _ _=>rfl)) (Zb (Zz Z5 (pv 5) Ze (fun _ _=>rfl)) (Zb (Zz ZU (pv 3) Ze (fun _ _=>rfl)) Zc))))) (Zb (Zz ZU (pv 3) Ze (fun _ _=>rfl)) Zc)))))))
  ZF)
  (Zl (ZT (i:=6) Qv.nd rfl (Or.inl rfl) (Zo ih (hr.mono (by omega)) rfl Tx.ZfD Tx.Za5.kp Tx.ZfE .nil Zp (Zb (Zz ZU (pv 3) Ze (fun _ _=>rfl)) (Zb (ZB Yq (pv 1) Ze) Zc))))
  (Zj (Zw (Zdz (UR (ZaA (pv 6))) Y4 (YM (Zb (YM (Zb (Zz Z5 (pv 0) Ze (fun _ _=>rfl)) (Zb (Zz ZU (pv 3) Ze (fun _ _=>rfl)) (Zb (Zz ZU (pv 6) Ze (fun _ _=>rfl)) Zc)))) (Zb (Zz ZU (pv 6) Ze (fun _ _=>rfl)) Zc))))))))))))) ?_
 have at0:Yf ((w::ws).map wS) 0=some (wS w):=XL (j:=0) rfl
 have ln:((w::ws).map wS).length=ws.length+1:=by rw [List.length_map,List.length_cons]
 refine ⟨by show 4≤sizeLine;decide,fun pa ha=>⟨by show 4≤sizeLine;decide,fun pb hb=>?_⟩⟩
 have s0:=(Zr ha (.lst [.int 1,.int 1,.int 2,.int 3])).trans (Zr hb (.lst [.str (Str.ofString "either"),.str (Str.ofString "both"),.str (Str.ofString "but"),.str (Str.ofString "span")]))
 have eqw:∀ s:String,Yr (.str (Str.ofString s)) (wS w)=decide (w=kw s):=fun s=>by
  rw [← Ys w s]
  show (Str.ofString s == (⟨w.toArray⟩:Str))=_
  rw [Bool.eq_iff_iff,beq_iff_eq,decide_eq_true_eq]
  exact ⟨fun h=>by rw [h],fun h=>(V.str.inj h).symm⟩
 have key:∃ (j k:Nat) (z:V),[V.str (Str.ofString "either"),.str (Str.ofString "both"),.str (Str.ofString "but"),.str (Str.ofString "span")][j]? = some z∧Yr z (wS w)=true ∧
   (∀ m z',m < j→[V.str (Str.ofString "either"),.str (Str.ofString "both"),.str (Str.ofString "but"),.str (Str.ofString "span")][m]? = some z'→Yr z' (wS w)=false)∧Yf [V.int 1,.int 1,.int 2,.int 3] ((j:Nat):Int)=some (.int ((k:Nat):Int)) ∧
   (k=1∧(w=kw "either" ∨ w=kw "both")∨k=2∧w=kw "but" ∨ k=3∧w=kw "span"):=by
  rcases hi with h | h | h | h
  ·exact YJ 0 1 _ rfl (by rw [eqw,decide_eq_true h]) (fun m z' hm=>absurd hm (Nat.not_lt_zero _)) rfl (.inl ⟨rfl,.inl h⟩)
  ·refine YJ 1 1 _ rfl (by rw [eqw,decide_eq_true h]) (fun m z' hm e=>?_) rfl (.inl ⟨rfl,.inr h⟩)
   match m,hm with
   | 0,_=>cases e;rw [eqw];exact decide_eq_false fun z=>absurd (h.symm.trans z) (by decide +kernel)
  ·refine YJ 2 2 _ rfl (by rw [eqw,decide_eq_true h]) (fun m z' hm e=>?_) rfl (.inr (.inl ⟨rfl,h⟩))
   match m,hm with
   | 0,_=>cases e;rw [eqw];exact decide_eq_false fun z=>absurd (h.symm.trans z) (by decide +kernel)
   | 1,_=>cases e;rw [eqw];exact decide_eq_false fun z=>absurd (h.symm.trans z) (by decide +kernel)
  ·refine YJ 3 3 _ rfl (by rw [eqw,decide_eq_true h]) (fun m z' hm e=>?_) rfl (.inr (.inr ⟨rfl,h⟩))
   match m,hm with
   | 0,_=>cases e;rw [eqw];exact decide_eq_false fun z=>absurd (h.symm.trans z) (by decide +kernel)
   | 1,_=>cases e;rw [eqw];exact decide_eq_false fun z=>absurd (h.symm.trans z) (by decide +kernel)
   | 2,_=>cases e;rw [eqw];exact decide_eq_false fun z=>absurd (h.symm.trans z) (by decide +kernel)
 obtain ⟨j,k,z,k1,k2,k3,k4,k5⟩:=key
 refine ⟨.inl ⟨rfl,_,Zm.of Zf⟩,Za _ rfl (ZC l _ 0 _ rfl rfl (Zm.of (s0 _ _ hl)) at0 ⟨pb,_,wS w,j,z,rfl,rfl,Zf,rfl,rfl,k1,k2,k3,?_⟩)⟩
 refine ZC pa _ _ _ rfl rfl (Zm.of ((Zr hb _) _ _ Zf)) k4 ?_
 refine Za _ rfl (ZA l _ rfl (.inl (Zm.of (s0 _ _ hl))) (Za _ rfl (ZA _ _ rfl rfl (Za _ rfl ?_))))
 have r5:Yz (rd n) w ws=(if w=kw "either" then YA .either (rd n) ws else if w=kw "both" then YA .both (rd n) ws else if w=kw "but" then X9 (rd n) ws else if w=kw "span" then Wa (rd n) ws else none):=rfl
 by_cases sh:ws.length+1 < k
 ·refine Zy (by rw [ln];exact decide_eq_true (by omega)) ?_
  refine q .non _ s0 ?_
  have:Yz (rd n) w ws=none:=by
   rcases k5 with ⟨rfl,_⟩ | ⟨rfl,h⟩ | ⟨rfl,h⟩
   ·omega
   ·have:ws=[]:=List.length_eq_zero_iff.mp (by omega)
    subst this
    subst h
    unfold K1.Yz
    rw [if_neg (by decide +kernel),if_neg (by decide +kernel),if_pos rfl]
    rfl
   ·subst h
    unfold K1.Yz
    rw [if_neg (by decide +kernel),if_neg (by decide +kernel),if_neg (by decide +kernel),if_pos rfl]
    match ws,sh with
    | [],_=>rfl
    | [_],_=>rfl
    | _::_::_,sh=>exact absurd sh (by simp)
  rw [this]
  rfl
 refine Zh (by rw [ln,decide_eq_false (by omega)];decide) ?_
 refine Za _ rfl (Za _ rfl (Za k rfl (ZA l _ rfl (Zm.of (s0 _ _ hl)) fun p1 h1=>?_)))
 have s1:=s0.trans (Zr h1 (.lst (Wg ((w::ws).map wS) (some ((k:Nat):Int)) none)))
 refine Za _ rfl (ZA _ _ rfl rfl (Zk p1 tp o ((w::ws).drop k) (congrArg (fun i=>[V.ref p1,V.int i]) (by omega)) (by omega) (by rw [Zf,Zdv]) (s1 _ _ htp) (ok.suf (List.drop_suffix _ _)) fun v H1 s2 r1=>?_))
 have s12:=s1.trans s2
 have at0':=at0
 cases hrd:rd n ((w::ws).drop k) with
 | none =>
  rw [hrd] at r1
  have r1':v=.non:=r1
  subst r1'
  refine Za _ rfl (Za _ rfl (Zy (by decide) ?_))
  refine q .non _ s12 ?_
  have:K1.Yz (rd n) w ws=none:=by
   rcases k5 with ⟨rfl,h | h⟩ | ⟨rfl,h⟩ | ⟨rfl,h⟩
   ·rw [r5,if_pos h];unfold YA;rw [show rd n ws=none from hrd]
   ·rw [r5,if_neg fun z=>absurd (h.symm.trans z) (by decide +kernel),if_pos h];unfold YA;rw [show rd n ws=none from hrd]
   ·rw [r5,if_neg fun z=>absurd (h.symm.trans z) (by decide +kernel),if_neg fun z=>absurd (h.symm.trans z) (by decide +kernel),if_pos h]
    cases ws with
    | nil=>rfl
    | cons x y=>unfold X9;dsimp only;rw [show rd n y=none from hrd]
   ·rw [r5,if_neg fun z=>absurd (h.symm.trans z) (by decide +kernel),if_neg fun z=>absurd (h.symm.trans z) (by decide +kernel),if_neg fun z=>absurd (h.symm.trans z) (by decide +kernel),if_pos h]
    match ws,hrd with
    | [],_=>rfl
    | [_],_=>rfl
    | _::_::y,hrd=>unfold Wa;dsimp only;rw [show rd n y=none from hrd]
  rw [this]
  rfl
 | some res =>
  obtain ⟨T,qs⟩:=res
  rw [hrd] at r1
  obtain ⟨a,pq,tv,rfl,ha1,hT,hpq⟩:=r1
  refine Za _ rfl (Za _ rfl (Zh (by rw [decide_eq_false (show ¬ V.ref a=V.non from fun z=>nomatch z)];decide) ?_))
  refine Za _ rfl (Zk l _ 0 _ rfl rfl (Zm.of (s12 _ _ hl)) at0 rfl (Za _ rfl ?_))
  by_cases hbut:w=kw "but"
  ·have rb:K1.Yz (rd n) w ws=X9 (rd n) ws:=by
    rw [r5,if_neg fun z=>absurd (hbut.symm.trans z) (by decide +kernel),if_neg fun z=>absurd (hbut.symm.trans z) (by decide +kernel),if_pos hbut]
   have k2':k=2:=by
    rcases k5 with ⟨_,h | h⟩ | ⟨h,_⟩ | ⟨_,h⟩
    ·exact absurd (hbut.symm.trans h) (by decide +kernel)
    ·exact absurd (hbut.symm.trans h) (by decide +kernel)
    ·exact h
    ·exact absurd (hbut.symm.trans h) (by decide +kernel)
   subst k2'
   refine Zy (by rw [Ys,decide_eq_true hbut]) ?_
   match ws,sh,hl,at0,ok,q,rb,hrd with
   | [],sh,hl,at0,ok,q,rb,hrd=>exact absurd (show 0+1 < 2 by decide) sh
   | x::y,sh,hl,at0,ok,q,rb,hrd =>
    have hrd':rd n y=some (T,qs):=hrd
    have at1:Yf ((w::x::y).map wS) 1=some (wS x):=XL (j:=1) rfl
    have rb2:K1.Yz (rd n) w (x::y)=(match X2 x 9999 with | some ds=>some (.but ds T,qs) | none=>none):=by
     rw [rb];unfold X9;dsimp only;rw [hrd'];try (cases X2 x 9999 <;> rfl)
    refine Za _ rfl (ZC l _ 1 _ rfl rfl (Zm.of (s12 _ _ hl)) at1 (ZX ⟨x.toArray⟩ 9999 rfl (by rw [show (⟨x.toArray⟩:Str).length=x.length from List.size_toArray ..];exact ok.1.2 x (by simp)) (ok.2 x (by simp)) (fun eg H2 s3=>?_) fun ds eg p H2 s3 hp ep=>?_))
    ·exact Za _ rfl (Za _ rfl (Zy (by decide) (q .non _ (s12.trans s3) (by rw [rb2,eg];rfl))))
    ·refine Za _ rfl (Za _ rfl (Zh (by rw [decide_eq_false (show ¬ V.ref p=V.non from fun z=>nomatch z)];decide) ?_))
     refine Za _ rfl (Za _ rfl (Zk _ _ 0 _ rfl rfl (Zi.of (s3 _ _ ha1)) rfl (by show 3≤sizeLine;decide) fun p5 h5=>?_))
     have s4:=Zr h5 (.tup [.str (Str.ofString "but"),.ref p,tv])
     refine Za _ rfl (Zk _ _ 1 _ rfl rfl (Zi.of ((s3.trans s4) _ _ ha1)) rfl (by show 2≤sizeLine;decide) fun p6 h6=>?_)
     have s5:=Zr h6 (.tup [.ref p5,.ref pq])
     have pt:p≠tp:=fun z=>by rw [z,s12 _ _ htp] at hp;cases hp
     refine q (.ref p6) _ (((s12.trans s3).trans s4).trans s5) ?_
     rw [rb2,eg]
     exact Xc p6 pq (.ref p5) rfl Zf (.but (s5 _ _ Zf) ((s4.trans s5) _ _ ep) pt (hT.same ((s3.trans s4).trans s5))) (((s3.trans s4).trans s5) _ _ hpq)
  refine Zh (by rw [Ys,decide_eq_false hbut];decide) ?_
  refine Za _ rfl (Zk l _ 0 _ rfl rfl (Zm.of (s12 _ _ hl)) at0 rfl (Za _ rfl ?_))
  by_cases hsp:w=kw "span"
  ·have rb:K1.Yz (rd n) w ws=Wa (rd n) ws:=by
    rw [r5,if_neg fun z=>absurd (hsp.symm.trans z) (by decide +kernel),if_neg fun z=>absurd (hsp.symm.trans z) (by decide +kernel),if_neg hbut,if_pos hsp]
   have k3':k=3:=by
    rcases k5 with ⟨_,h | h⟩ | ⟨_,h⟩ | ⟨h,_⟩
    ·exact absurd (hsp.symm.trans h) (by decide +kernel)
    ·exact absurd (hsp.symm.trans h) (by decide +kernel)
    ·exact absurd h hbut
    ·exact h
   subst k3'
   refine Zy (by rw [Ys,decide_eq_true hsp]) ?_
   match ws,sh,hl,at0,ok,q,rb,hrd with
   | [],sh,hl,at0,ok,q,rb,hrd=>exact absurd (show 0+1 < 3 by decide) sh
   | [_],sh,hl,at0,ok,q,rb,hrd=>exact absurd (show 1+1 < 3 by decide) sh
   | x::y::r,sh,hl,at0,ok,q,rb,hrd =>
    have hrd':rd n r=some (T,qs):=hrd
    have at1:Yf ((w::x::y::r).map wS) 1=some (wS x):=XL (j:=1) rfl
    have at2:Yf ((w::x::y::r).map wS) 2=some (wS y):=XL (j:=2) rfl
    have rb2:K1.Yz (rd n) w (x::y::r)=(match Yb x,Yb y with | some a,some b=>if a≤b∧b≤9999 then some (.span a b T,qs) else none | _,_=>none):=by
     rw [rb];unfold Wa;dsimp only;rw [hrd'];try (cases Yb x <;> cases Yb y <;> rfl)
    refine Za _ rfl (ZC l _ 1 _ rfl rfl (Zm.of (s12 _ _ hl)) at1 (ZE ⟨x.toArray⟩ rfl (Qb (ok.1.2 x (by simp))) fun H2 s3=>?_))
    have s13:=s12.trans s3
    refine Za _ rfl (ZC l _ 2 _ rfl rfl (Zm.of (s13 _ _ hl)) at2 (ZE ⟨y.toArray⟩ rfl (Qb (ok.1.2 y (by simp))) fun H3 s4=>⟨by show 2≤sizeLine;decide,fun p hp=>?_⟩))
    have s5:=Zr hp (.lst ([Yb x,Yb y].map YF))
    have s15:=(s13.trans s4).trans s5
    refine Za _ rfl (ZX p ([Yb x,Yb y].map YF) rfl (.inl (Zm.of Zf)) rfl (Zkl _) (Za _ rfl ?_))
    rw [if_neg (by decide),Zf0]
    cases hx:Yb x with
    | none =>
     rw [hx] at s15
     exact Zy (by rfl) (q .non _ s15 (by rw [rb2,hx];rfl))
    | some a =>
    cases hy:Yb y with
    | none =>
     rw [hx,hy] at s15
     exact Zy (by rfl) (q .non _ s15 (by rw [rb2,hx,hy];rfl))
    | some b =>
    refine Zh (by rw [show ([some a,some b]:List (Option Nat)).contains none=false from rfl];decide) ?_
    rw [hx,hy] at s15 s5
    have rb3:K1.Yz (rd n) w (x::y::r)=if a≤b∧b≤9999 then some (.span a b T,qs) else none:=by rw [rb2,hx,hy]
    refine Za _ rfl (ZC p _ 0 _ rfl rfl (Zm.of Zf) rfl (Za _ rfl (ZC p _ 1 _ rfl rfl (Zm.of Zf) rfl (ZA _ _ rfl rfl (Za _ rfl ?_)))))
    by_cases ab:a≤b
    rotate_left
    ·exact Zy (decide_eq_true (by omega)) (q .non _ s15 (by rw [rb3,if_neg fun z=>ab z.1];rfl))
    refine Zh (by rw [decide_eq_false (by omega)];decide) ?_
    refine Za _ rfl (ZC p _ 1 _ rfl rfl (Zm.of Zf) rfl (ZA _ _ rfl rfl (Za _ rfl ?_)))
    by_cases b9:b≤9999
    rotate_left
    ·exact Zy (decide_eq_true (by omega)) (q .non _ s15 (by rw [rb3,if_neg fun z=>b9 z.2];rfl))
    refine Zh (by rw [decide_eq_false (by omega)];decide) ?_
    refine Za _ rfl (ZC p _ 0 _ rfl rfl (Zm.of Zf) rfl (Za _ rfl (ZC p _ 1 _ rfl rfl (Zm.of Zf) rfl (Za _ rfl (Zk _ _ 0 _ rfl rfl (Zi.of (((s3.trans s4).trans s5) _ _ ha1)) rfl (by show 4≤sizeLine;decide) fun p5 h5=>?_)))))
    have s6:=Zr h5 (.tup [.str (Str.ofString "span"),.int ((a:Nat):Int),.int ((b:Nat):Int),tv])
    have s36:=((s3.trans s4).trans s5).trans s6
    refine Za _ rfl (Zk _ _ 1 _ rfl rfl (Zi.of (s36 _ _ ha1)) rfl (by show 2≤sizeLine;decide) fun p6 h6=>?_)
    have s7:=Zr h6 (.tup [.ref p5,.ref pq])
    refine q (.ref p6) _ ((s15.trans s6).trans s7) ?_
    rw [rb3,if_pos ⟨ab,b9⟩]
    exact Xc p6 pq (.ref p5) rfl Zf (.span (s7 _ _ Zf) (hT.same (s36.trans s7))) ((s36.trans s7) _ _ hpq)
  refine Zh (by rw [Ys,decide_eq_false hsp];decide) ?_
  have k1':k=1∧(w=kw "either" ∨ w=kw "both"):=by
   rcases k5 with h | ⟨_,h⟩ | ⟨_,h⟩
   ·exact h
   ·exact absurd h hbut
   ·exact absurd h hsp
  obtain ⟨k1e,hw⟩:=k1'
  subst k1e
  have hrd':rd n ws=some (T,qs):=hrd
  obtain ⟨mk,nm,hnm,hmk,hTA⟩:∃ (mk:RT→RT→RT) (nm:String),w=kw nm∧K1.Yz (rd n) w ws=YA mk (rd n) ws∧∀ (H':Hp) (a:Addr) (v u:V) (r s:RT),H' a=some (.tup [.str (Str.ofString nm),v,u])→Z8 tp H' v r→Z8 tp H' u s→Z8 tp H' (.ref a) (mk r s):=by
   rcases hw with h | h
   ·exact ZA .either ("either") h (by rw [r5,if_pos h]) fun H' a v u r s h1 h2 h3=>.either h1 h2 h3
   ·exact ZA .both ("both") h (by rw [r5,if_neg fun z=>absurd (h.symm.trans z) (by decide +kernel),if_pos h]) fun H' a v u r s h1 h2 h3=>.both h1 h2 h3
  have ew:wS w=.str (Str.ofString nm):=of_decide_eq_true ((Ys w nm).trans (decide_eq_true hnm))
  refine Za _ rfl (ZC _ _ 1 _ rfl rfl (Zi.of ha1) rfl (Za _ rfl (ZA _ _ rfl rfl (Zk pq tp o qs (congrArg (fun i=>[V.ref pq,V.int i]) (by omega)) (by omega) hpq (s12 _ _ htp) ((ok.suf (List.suffix_cons _ _)).suf (ZbL hrd')) fun v2 H2 s3 r2=>?_))))
  have s13:=s12.trans s3
  cases hrd2:rd n qs with
  | none =>
   rw [hrd2] at r2
   have r2':v2=.non:=r2
   subst r2'
   refine Za _ rfl (Za _ rfl (Zy (by decide) (q .non _ s13 ?_)))
   rw [hmk]
   unfold YA
   rw [hrd']
   dsimp only
   rw [hrd2]
   rfl
  | some res2 =>
   obtain ⟨U,q2⟩:=res2
   rw [hrd2] at r2
   obtain ⟨b,pr,tu,rfl,hb1,hU,hpr⟩:=r2
   refine Za _ rfl (Za _ rfl (Zh (by rw [decide_eq_false (show ¬ V.ref b=V.non from fun z=>nomatch z)];decide) ?_))
   refine Za _ rfl (ZC l _ 0 _ rfl rfl (Zm.of (s13 _ _ hl)) at0 (Za _ rfl (ZC _ _ 0 _ rfl rfl (Zi.of (s3 _ _ ha1)) rfl (Za _ rfl (Zk _ _ 0 _ rfl rfl (Zi.of hb1) rfl (by show 3≤sizeLine;decide) fun p5 h5=>?_)))))
   have s6:=Zr h5 (.tup [wS w,tv,tu])
   refine Za _ rfl (Zk _ _ 1 _ rfl rfl (Zi.of (s6 _ _ hb1)) rfl (by show 2≤sizeLine;decide) fun p6 h6=>?_)
   have s7:=Zr h6 (.tup [.ref p5,.ref pr])
   refine q (.ref p6) _ ((s13.trans s6).trans s7) ?_
   have:K1.Yz (rd n) w ws=some (mk T U,q2):=by
    rw [hmk]
    unfold YA
    rw [hrd']
    dsimp only
    rw [hrd2]
   rw [this]
   exact Xc p6 pr (.ref p5) rfl Zf (hTA _ _ _ _ _ _ (s7 _ _ (by rw [Zf,ew])) (hT.same ((s3.trans s6).trans s7)) (hU.same (s6.trans s7))) ((s6.trans s7) _ _ hpr)
theorem Zsq (Tx:ZD K mg t):∀ n:Nat,Zv P w K mg base Zx (2 * n+4) t.ZbY t.ZbZ ["_law_words_here","_law_deep"] (Zkq n):=by
 intro n
 induction n with
 | zero =>
  refine Tx.Za5.ok Zh1 (fun vs H Q E h=>?_) (fun cdv A outer s H vs Q E hr h=>?_)
  ·obtain ⟨l,tp,o,ws,rfl,_⟩:=h
   rfl
  obtain ⟨l,tp,o,ws,rfl,n8,hl,htp,ok,q⟩:=h
  have Zf4:ZD K mg t→Nat→True→Zv P w K mg base Zx 1 t.ZbW t.ZbX ["_law_words_here","_law_deep"] (fun _ _ _ _=>False):=fun _ _ _=>Tx.ZcT.ok Qv (fun _ _ _ _ z=>z.elim) (fun _ _ _ _ _ _ _ _ _ z=>z.elim)
  have ih:True:=trivial
  have n:Nat:=0
  refine Za _ (Zl (ZG (PW.pt (Y5 (ZI (ZdO hr.units0) (pv 0) (ZW Zc) (ZH _)) (XE (ZI ZZ (pv 1) Ze (ZH _)))))
  (Zj (Zw Y4))
  ZF)
  (Zl (ZG (ZI WH (Zz Z5 (pv 0) Ze (fun _ _=>rfl)) (YM (Zb Zn (Zb Zn (Zb Zn (Zb Zn Zc))))) rfl)
  (Zj (Zw (Zo (Zf4 Tx n ih) (hr.mono (by omega)) rfl Tx.ZiX Tx.ZcT.kp Tx.ZiY .nil Zp (Zb (pv 0) (Zb (pv 1) Zc)))))
  ZF)
  (Zj (Zw (Zo (Zkp Tx) (hr.mono (by omega)) rfl Tx.ZiV Tx.ZfC.kp Tx.ZiW .nil Zp (Zb (pv 0) Zc)))))) ?_
  refine ZE _ rfl (by show 0≤sizeLine;decide) fun p0 h0=>?_
  have s0:=Zr h0 (.lst [])
  refine ⟨l,p0,ws.map wS,[],rfl,rfl,Zm.of (s0 _ _ hl),Zm.of Zf,Zf3 ws,rfl,Za _ rfl ?_⟩
  cases ws with
  | nil=>exact Zy (by decide) (q .non _ s0 rfl)
  | cons w ws =>
   refine Zh (by rw [if_neg (by decide)];exact Bool.false_ne_true) ?_
   exact ZE _ rfl rfl (Za _ rfl (Zy (by decide) (q .non _ s0 rfl)))
 | succ n ih =>
 refine Tx.Za5.ok Zh1 (fun vs H Q E h=>?_) (fun cdv A outer s H vs Q E hr h=>?_)
 ·obtain ⟨l,tp,o,ws,rfl,_⟩:=h
  rfl
 obtain ⟨l,tp,o,ws,rfl,n8,hl,htp,ok,q⟩:=h
 refine Za _ (Zl (ZG (PW.pt (Y5 (ZI (ZdO hr.units0) (pv 0) (ZW Zc) (ZH _)) (XE (ZI ZZ (pv 1) Ze (ZH _)))))
  (Zj (Zw Y4))
  ZF)
  (Zl (ZG (ZI WH (Zz Z5 (pv 0) Ze (fun _ _=>rfl)) (YM (Zb Zn (Zb Zn (Zb Zn (Zb Zn Zc))))) rfl)
  (Zj (Zw (Zo (Zf4 Tx n ih) (hr.mono (by omega)) rfl Tx.ZiX Tx.ZcT.kp Tx.ZiY .nil Zp (Zb (pv 0) (Zb (pv 1) Zc)))))
  ZF)
  (Zj (Zw (Zo (Zkp Tx) (hr.mono (by omega)) rfl Tx.ZiV Tx.ZfC.kp Tx.ZiW .nil Zp (Zb (pv 0) Zc)))))) ?_
 refine ZE _ rfl (by show 0≤sizeLine;decide) fun p0 h0=>?_
 have s0:=Zr h0 (.lst [])
 refine ⟨l,p0,ws.map wS,[],rfl,rfl,Zm.of (s0 _ _ hl),Zm.of Zf,Zf3 ws,rfl,Za _ rfl ?_⟩
 cases ws with
 | nil=>exact Zy (by decide) (q .non _ s0 rfl)
 | cons w ws =>
  refine Zh (by rw [if_neg (by decide)];exact Bool.false_ne_true) ?_
  refine ZE _ rfl rfl (Za _ rfl (Zh (by rw [decide_eq_false (by intro z;have:=V.int.inj z;omega)];decide) ?_))
  have at0:Yf ((w::ws).map wS) 0=some (wS w):=XL (j:=0) rfl
  refine Za _ rfl (Zk l _ 0 _ rfl rfl (Zm.of (s0 _ _ hl)) at0 (by show 4≤sizeLine;decide) fun p1 h1=>?_)
  have s1:=s0.trans (Zr h1 (.tup [.str (Str.ofString "either"),.str (Str.ofString "both"),.str (Str.ofString "but"),.str (Str.ofString "span")]))
  refine ZX p1 _ rfl (.inr (Zi.of Zf)) rfl rfl (Za _ rfl ?_)
  by_cases hi:W2 w
  ·refine Zy (by rw [if_neg (by decide),in4,decide_eq_true hi]) ?_
   refine Za _ rfl (Za _ rfl ⟨l,tp,o,w,ws,rfl,n8,s1 _ _ hl,s1 _ _ htp,ok,hi,fun v H' s' r=>q v H' (s1.trans s') ?_⟩)
   rw [rd,if_pos hi]
   exact r
  ·refine Zh (by rw [if_neg (by decide),in4,decide_eq_false hi];decide) ?_
   refine Za _ rfl (X54 l tp o w ws rfl (s1 _ _ hl) (s1 _ _ htp) ok fun v H' s' r=>q v H' (s1.trans s') ?_)
   rw [rd,if_neg hi]
   exact r
def Zsr (tp:Addr) (H:Hp) (v:V):Option RT→Prop
 | none=>v=.non
 | some T=>Z8 tp H v T∧∃ a,v=.ref a
theorem Zdw:∀ r:RT,r.weight+1≤2 ^ r.depth
 | .always | .week _ | .each _ _=>Nat.le_refl 2
 | .span _ _ r | .but _ r=>by
  have ih:=Zdw r
  show 1+r.weight+1≤2 ^ (1+r.depth)
  rw [Nat.pow_add]
  omega
 | .either r s | .both r s=>by
  have i1:=Zdw r
  have i2:=Zdw s
  have l1:2 ^ r.depth≤2 ^ max r.depth s.depth:=Nat.pow_le_pow_right (by decide) (Nat.le_max_left _ _)
  have l2:2 ^ s.depth≤2 ^ max r.depth s.depth:=Nat.pow_le_pow_right (by decide) (Nat.le_max_right _ _)
  show 1+(r.weight+s.weight)+1≤2 ^ (1+max r.depth s.depth)
  rw [Nat.pow_add]
  omega
def Zss:Sp:=fun vs H Q _=>∃ (z:Str) (tp:Addr) (o:HO),vs=[.str z]∧z.length≤50000∧H tp=some o∧Lw (spl 32 (Zu z))∧∀ v H',Zt H H'→Zsr tp H' v (YS (Zu z))→Q v H'
theorem Zst (Tx:ZD K mg t):Zv P w K mg base Zx 21 t.Ze3 t.Ze4 ["_law_text"] Zss:=by
 refine Tx.ZiZ.ok Zh2 (fun vs H Q E h=>?_) (fun cdv A outer s H vs Q E hr h=>?_)
 ·obtain ⟨z,tp,o,rfl,_⟩:=h
  rfl
 obtain ⟨z,tp,o,rfl,hz,htp,ok,q⟩:=h
 refine Za _ (Zl (ZT (i:=1) Zh2.nd rfl (Or.inl rfl) (Zo (Zsq Tx 8) (hr.mono (by omega)) rfl Tx.ZfD Tx.Za5.kp Tx.ZfE .nil Zp (Zb (Xu PySem.F.plainAttrs_str PySem.F.slot_str_split PySem.F.type_str_split ZaH (pv 0) (Zb Zn Zc)) (Zb Ze Zc))))
  (Zl (ZG (PW.pt (Y5 (UR (ZaA (pv 1))) (Y5 (ZI (ZdP hr.units0) (Zz ZU (pv 1) Ze (fun _ _=>rfl)) (ZW Zc) (ZH _)) (XE (ZI XV (Zo (Zkj Tx 8) (hr.mono (by omega)) rfl Tx.Zfy Tx.Za3.kp Tx.Zfz .nil Zp (Zb (Zz ZU (pv 1) Ze (fun _ _=>rfl)) Zc)) Ze (ZH _))))))
  (Zj (Zw Y4))
  ZF)
  (Zj (Zw (Zz ZU (pv 1) Ze (fun _ _=>rfl)))))) ?_
 have fit:z.length+2≤sizeLine:=Nat.le_trans (Nat.add_le_add_right hz 2) (by decide)
 refine ZE _ rfl rfl (ZV z 32 rfl (by rw [room]) fit fun p hp=>?_)
 have s0:=Zr hp (.lst ((spl 32 (Zu z)).map wS))
 refine Zk p tp o (spl 32 (Zu z)) rfl (by decide) Zf (s0 _ _ htp) ok fun v H1 s1 r1=>?_
 have s01:=s0.trans s1
 cases hrd:rd 8 (spl 32 (Zu z)) with
 | none =>
  rw [hrd] at r1
  have r1':v=.non:=r1
  subst r1'
  refine Za _ rfl (Za _ rfl (Zy (by decide) (q .non _ s01 ?_)))
  rw [show YS (Zu z)=none by unfold YS;rw [hrd]]
  rfl
 | some res =>
  obtain ⟨T,qs⟩:=res
  rw [hrd] at r1
  obtain ⟨a,pq,tv,rfl,ha1,hT,hpq⟩:=r1
  refine Za _ rfl (Za _ rfl (Zh (by rw [decide_eq_false (show ¬ V.ref a=V.non from fun z=>nomatch z)];decide) ?_))
  refine Za _ rfl (Zk _ _ 1 _ rfl rfl (Zi.of ha1) rfl (by show 0≤sizeLine;decide) fun p0 h0=>?_)
  have s2:=Zr h0 (.lst [])
  refine ⟨pq,p0,qs.map wS,[],rfl,rfl,Zm.of (s2 _ _ hpq),Zm.of Zf,Zf3 qs,rfl,Za _ rfl ?_⟩
  have s02:=s01.trans s2
  cases qs with
  | cons x y =>
   refine Zy (by rfl) (q .non _ s02 ?_)
   rw [show YS (Zu z)=none by unfold YS;rw [hrd]]
   rfl
  | nil =>
   refine Zh (by decide) ?_
   obtain ⟨g1,d1⟩:=W3 hrd
   have w1:T.weight≤1000000:=by
    have h1:=Zdw T
    have h2:2 ^ T.depth≤2 ^ 8:=Nat.pow_le_pow_right (by decide) d1
    omega
   refine Za _ rfl (ZC _ _ 0 _ rfl rfl (Zi.of (s2 _ _ ha1)) rfl (YJ tp tv T rfl (hT.same s2) d1 w1 fun H2 s3=>(ZA _ _ rfl rfl (Za _ rfl ?_))))
   have s03:=s02.trans s3
   have er:YS (Zu z)=if T.weight≤15 then some T else none:=by unfold YS;rw [hrd]
   by_cases hw:T.weight≤15
   rotate_left
   ·refine Zy (decide_eq_true (by omega)) (q .non _ s03 ?_)
    rw [er,if_neg hw]
    rfl
   refine Zh (by rw [decide_eq_false (by omega)];decide) ?_
   refine Za _ rfl (ZC _ _ 0 _ rfl rfl (Zi.of ((s2.trans s3) _ _ ha1)) rfl (q tv _ s03 ?_))
   rw [er,if_pos hw]
   exact ⟨hT.same (s2.trans s3),by cases hT <;> exact ⟨_,rfl⟩⟩
def Zsu (t:YX) (K:W.Frag):Sp:=fun vs H Q _=>∃ (v:V) (T:String),vs=[v]∧Kd H v T∧(∀ z,v=.str z→z.length≤50000) ∧
 (∀ r b H',QM v=some r→Zt H H'→ZM (rc t) K H' b r→Q (.ref b) H')∧(QM v=none→∀ H',Zt H H'→Q (.str (Str.ofString "rule")) H')
theorem Zf5 (Tx:ZD K mg t):Zv P w K mg base Zx 56 t.Ze5 t.Ze6 ["_law_text"] (Zsu t K):=by
 refine Tx.ZcU.ok ZbN (fun vs H Q E h=>?_) (fun cdv A outer s H vs Q E hr h=>?_)
 ·obtain ⟨v,T,rfl,_⟩:=h
  rfl
 obtain ⟨v,T,rfl,kd,hlen,hq,he⟩:=h
 refine Za _ (Zl (ZT (i:=1) ZbN.nd rfl (Or.inl rfl) Y4)
  (Zl (ZgK (i:=2) ⟨rfl,rfl⟩ rfl ZbN.nd rfl rfl rfl Tx.Zjp
  (fun pins Kx=>(Zj (Zw (Zo (ZrX Tx) (hr.mono (by omega)) rfl Tx.ZoL Tx.ZiG.kp Tx.ZoM .nil ZgJ (Zb (pv 0) Zc)))))
  (fun a=>(Zj (ZT (i:=1) ZbN.nd rfl (Or.inl rfl) (pv 2)))))
  (Zj (Zw (Zo (Zkk Tx) (hr.mono (by omega)) rfl Tx.ZiR Tx.ZfA.kp Tx.ZiS .nil Zp (Zb (pv 1) Zc)))))) ?_
 exact Za _ rfl (ZX v T rfl kd hlen hq fun e o H' s'=>⟨Tx.Zjq,fun x hx=>(Za _ rfl (Za _ rfl (Za x rfl (.inl ⟨Zf,fun H2 s2=>he e H2 ((s'.trans (Zr hx _)).trans s2)⟩))))⟩)
theorem Zkr:∀ l:List Str,Xv (l.map V.str) (l.map V.str)=true
 | []=>rfl
 | x::r=>by
  show (Yr (.str x) (.str x) && Xv (r.map V.str) (r.map V.str))=true
  rw [Zkr r]
  simp [Yr]
theorem Zks (l:List Str):(l.map V.str).all Y0=true:=by
 rw [List.all_map]
 exact List.all_eq_true.mpr fun _ _=>rfl
def Zsv (t:YX) (K:W.Frag):Sp:=fun vs H Q _=>∃ (a tp b:Addr) (ns:List Int) (k:Int) (tv:V) (r:RT),vs=[.ref a,.ref tp,.ref b,tv]∧Xw K H a tp ns∧H tp=some (.lst [.int k])∧0≤k∧k≤90000∧ZM (rc t) K H b r∧Z8 tp H tv r∧r.good∧r.weight≤15∧r.depth≤8 ∧
 ∀ k' H',YW tp k' H H'→k≤k'→k'≤k+8→Q (.bl true) H'
theorem Zkt (Tx:ZD K mg t):Zv P w K mg base Zx 16 t.Ze7 t.Ze8 ["_law_script","_law_tape","_law_found","_law_tree_here"] (Zsv t K):=by
 refine Tx.ZfH.ok ZbO (fun vs H Q E h=>?_) (fun cdv A outer s H vs Q E hr h=>?_)
 ·obtain ⟨a,tp,b,ns,k,tv,r,rfl,_⟩:=h
  rfl
 obtain ⟨a,tp,b,ns,k,tv,r,rfl,S,hT,k0,k1,R,T,g,hw,hd,q⟩:=h
 refine Za _ (Zl (ZG (PW.pt (Y5 (Yt (Yx (Z4 ZdQ rfl Tx.Y2 Y1 (Zb (pv 2) (Zb (XY rfl Tx.QE) Zc))))) (XE (ZI (ZdP hr.units0) (Xx (pv 2)) (Zo (ZfZ Tx 8) (hr.mono (by omega)) rfl Tx.QC Tx.UM.kp Tx.QD .nil Zp (Zb (pv 3) Zc)) (ZH _)))))
  (Zj (Zw Xd))
  ZF)
  (Zl (ZG (PW.pt (Y5 (ZI Wt (Xx (pv 2)) (Zo (Zkj Tx 8) (hr.mono (by omega)) rfl Tx.Zfy Tx.Za3.kp Tx.Zfz .nil Zp (Zb (pv 3) Zc)) (ZH _)) (XE (ZI Wt (Xx (pv 2)) (Zo (Zsk Tx 8) (hr.mono (by omega)) rfl Tx.ZiP Tx.ZcQ.kp Tx.ZiQ .nil Zp (Zb (pv 3) Zc)) (ZH _)))))
  (Zj (Zw Xd))
  ZF)
  (Zl (Qd PassesOwn.never rfl (QO rfl Tx.Zag (Zb Ze Zc)) (Y6 (i:=4) ZbO.nd rfl (Or.inl rfl))
  (Zl (ZT (i:=5) ZbO.nd rfl (Or.inl rfl) (Zz Z5 (ZW (Zb (Zo (YE Tx) (hr.mono (by omega)) rfl Tx.YC Tx.Yw.kp Tx.YD .nil Zp (Zb (pv 0) (Zb (pv 1) (Zb Ze Zc)))) (Zb (Zo (YE Tx) (hr.mono (by omega)) rfl Tx.YC Tx.Yw.kp Tx.YD .nil Zp (Zb (pv 0) (Zb (pv 1) (Zb Ze Zc)))) Zc))) (ZB We (pv 4) Ze) (fun _ _=>rfl)))
  (Zl (ZT (i:=6) ZbO.nd rfl (Or.inl rfl) (Qo (pv 2) (Zb (pv 5) Zc)))
  (Zj (ZG (PW.pt (Y5 (Yt (Yx (Z4 QU rfl Tx.Y2 Y1 (Zb (pv 6) (Zb (Qk rfl Tx.Zit Zio) Zc))))) (XE (ZI Wt (pv 6) (Zo (Zsb Tx 8) (hr.mono (by omega)) rfl Tx.QA Tx.UL.kp Tx.QB .nil Zp (Zb (pv 3) (Zb (pv 5) Zc))) (ZH _)))))
  (Zj (Zw Xd))
  ZF)))))
  (Zj (Zw (XF ZZ (Zo (ZfY Tx) (hr.mono (by omega)) rfl Tx.Zft Tx.ZcL.kp Tx.Zfu .nil Zht (Zb (pv 2) Zc)) (Xu PySem.F.plainAttrs_str PySem.F.slot_str_join PySem.F.type_str_join U2 Zn (Zb (Zo (ZfZ Tx 8) (hr.mono (by omega)) rfl Tx.QC Tx.UM.kp Tx.QD .nil Zp (Zb (pv 3) Zc)) Zc)) (ZH _))))))) ?_
 obtain ⟨C0,ty,ki⟩:=ZfS Tx R
 refine Za _ rfl (Ww (.ref b) t.Yj _ _ rfl ty ki (Za _ rfl (Zh (by decide) ?_)))
 obtain ⟨C,dx2,fs,f,fd,sp,x1,x2,x3,x4,x5,x6,x7⟩:=(ZfU (P:=P) (w:=w) (mg:=mg) (base:=base) Tx 8).at Tx R g (by omega) hd
 refine Za _ rfl ⟨b,C,dx2,fs,f,fd,_,_,sp,Zx,E0,rfl,x1,x2,x3,x4,x5,hr.mono (by omega),x6,Zp,x7 _ fun pf H1 s1 n1 e1=>?_⟩
 refine Za _ rfl ⟨tp,tv,r,rfl,T.same s1,g,by omega,hd,fun pw H2 s2 n2 e2=>?_⟩
 refine ⟨pf,pw,_,_,rfl,rfl,Zm.of (s2 _ _ e1),Zm.of e2,Zks _,Zks _,Za _ rfl (Zh (by show ¬ (!Xv (r.words.map V.str) (r.words.map V.str))=true;rw [Zkr];decide) ?_)⟩
 have s12:=s1.trans s2
 have R2:=R.same s12
 have T2:=T.same s12
 obtain ⟨C3,dx3,fs3,l3,cl3,⟨lk3,me3⟩,⟨lk4,me4⟩⟩:=U8 Tx R2
 refine Za _ rfl ⟨b,C3,dx3,fs3,_,_,_,_,_,Zx,E0,rfl,l3,lk3,cl3,me3,ZfP Tx 8,hr.mono (by omega),Tx.ZcW,Zp,ZX b r rfl R2 hd (by omega) fun H3 s3=>?_⟩
 refine Za _ rfl (YJ tp tv r rfl (T2.same s3) hd (by omega) fun H4 s4=>⟨rfl,Za _ rfl (Zh (by rw [decide_eq_true rfl];decide) ?_)⟩)
 have s34:=s3.trans s4
 have R4:=R2.same s34
 have T4:=T2.same s34
 obtain ⟨C5,dx5,fs5,l5,cl5,_,⟨lk5,me5⟩⟩:=U8 Tx R4
 refine Za _ rfl ⟨b,C5,dx5,fs5,_,_,_,_,_,Zx,E0,rfl,l5,lk5,cl5,me5,ZfR Tx 8,hr.mono (by omega),Tx.ZcX,Zp,ZV b r rfl R4 hd fun H5 s5=>?_⟩
 refine Za _ rfl (Xc tp tv r rfl (T4.same s5) hd fun H6 s6=>⟨rfl,Za _ rfl (Zh (by rw [decide_eq_true rfl];decide) ?_)⟩)
 have sA:Zt H H6:=(s12.trans s34).trans (s5.trans s6)
 have B0:YW tp k H H6:=⟨fun c u _ h=>sA _ _ h,sA _ _ hT⟩
 refine WN 4 rfl (by decide) (by decide) (ZdD (fun i σ H'=>∃ (k':Int) (v1 v2 v3:Option V),YW tp k' H H'∧k'=k+2 * (i:Nat)∧σ=[some (.ref a),some (.ref tp),some (.ref b),some tv,v1,v2,v3]) (Wv k _ _ _ B0 (by omega) rfl) ?_ ?_)
 ·rintro i σ H' hi ⟨k',v1,v2,v3,B,ek,rfl⟩
  have hi4:i < 4:=by simpa using hi
  refine Za _ rfl (Za _ rfl ⟨a,tp,ns,k',10000,rfl,B.scr S,B.tape,by omega,by omega,by decide,by decide,fun d1 H1 d10 d11 b1=>?_⟩)
  have B1:=B.trans b1
  refine Za _ rfl (Za _ rfl ⟨a,tp,ns,k'+1,42,rfl,B1.scr S,B1.tape,by omega,by omega,by decide,by decide,fun d2 H2 d20 d21 b2=>⟨by show 2≤sizeLine;decide,fun p hp=>?_⟩⟩)
  have B2:=(B1.trans b2).same (Zr hp (.lst [.int d1,.int d2]))
  obtain ⟨dv,ed,day,rfl⟩:=Wk (p:=fun v=>∃ n:Nat,v=V.int (n:Nat)) (xs:=[.int d1,.int d2]) (d:=(0+((i:Nat):Int)) % 2) (fun v hv=>by
   simp only [List.mem_cons,List.not_mem_nil,or_false] at hv
   rcases hv with rfl | rfl
   ·exact ⟨d1.toNat,congrArg V.int (by omega)⟩
   ·exact ⟨d2.toNat,congrArg V.int (by omega)⟩) (by omega) (by show _ < ((2:Nat):Int);omega)
  refine Za _ rfl (ZV _ _ rfl rfl (by show (0:Int) < 2;decide) (ZC p _ _ _ rfl rfl (Zm.of Zf) ed ?_))
  have R6:=R.bump hT B2
  have T6:=T.bump hT B2
  obtain ⟨C7,dx7,fs7,f7,fd7,sp7,y1,y2,y3,y4,y5,y6,y7⟩:=(Zjx (P:=P) (w:=w) (mg:=mg) (base:=base) Tx 8).at Tx R6 hd
  refine Za _ rfl ⟨b,C7,dx7,fs7,f7,fd7,_,_,sp7,Zx,E0,rfl,y1,y2,y3,y4,y5,hr.mono (by omega),y6,Zp,Za _ rfl (y7 day _ ?_)⟩
  refine Za _ rfl (Ww (.bl (r.runs day)) ("bool") _ _ rfl ((Kd.bl _).ty) rfl (Za _ rfl (Zh (by decide) ?_)))
  refine Za _ rfl (Za _ rfl (Za _ rfl (ZC tp tv r day rfl T6 g hd fun H9 s9=>⟨rfl,Za _ rfl (Zh (by rw [decide_eq_true rfl];decide) ?_)⟩)))
  exact Wv (k'+1+1) _ _ _ (B2.same s9) (by omega) rfl
 ·rintro σ H' ⟨k',v1,v2,v3,B,ek,rfl⟩
  have R5:=R.bump hT B
  have T5:=T.bump hT B
  refine Za _ rfl (Za (.ref b) rfl (.inr ⟨b,r,rfl,R5,g,hw,hd,fun H7 s7=>?_⟩))
  refine ⟨rfl,Za _ rfl ⟨tp,tv,r,rfl,T5.same s7,g,by omega,hd,fun pw H8 s8 n8 e8=>?_⟩⟩
  refine ⟨_,pw,r.words,rfl,rfl,Zm.of e8,ZfX g hw,rfl,?_⟩
  have q1:=q k' H8 ((B.same s7).same s8) (by omega) (by rw [ek];show k+2 * ((4:Nat):Int)≤k+8;omega)
  rw [show decide (V.str (Yv r)=V.str (Str.join (Str.ofString " ") r.words))=true from decide_eq_true rfl]
  exact q1
theorem Zsw:∀ v∈(["always","week","span","each","either","both","but","0","9999"].map fun s=>V.str (Str.ofString s))++(["10000","3,5","0000000",""].map fun s=>V.str (Str.ofString s)),∃ w:List Nat,v=wS w∧w.length≤10∧w.count 44≤1:=by
 have k:∀ s∈["always","week","span","each","either","both","but","0","9999"]++["10000","3,5","0000000",""],(Zu (Str.ofString s)).length≤10∧(Zu (Str.ofString s)).count 44≤1:=by decide +kernel
 intro v hv
 rw [← List.map_append] at hv
 obtain ⟨s,hs,rfl⟩:=List.mem_map.mp hv
 exact Za (Zu (Str.ofString s)) rfl (k s hs)
theorem Zsx:(Str.ofString "0123456789, abe").cps.toList.length=15:=by decide +kernel
theorem Zsy {d:Int} (h0:0≤d) (h1:d < 15):∃ c,Yf (Str.ofString "0123456789, abe").cps.toList d=some c:=by
 have hl:d.toNat < (Str.ofString "0123456789, abe").cps.toList.length:=by rw [Zsx];omega
 refine ⟨(Str.ofString "0123456789, abe").cps.toList[d.toNat],?_⟩
 have q:Yf (Str.ofString "0123456789, abe").cps.toList ((d.toNat:Nat):Int)=some (Str.ofString "0123456789, abe").cps.toList[d.toNat]:=XL (List.getElem?_eq_getElem hl)
 rw [show ((d.toNat:Nat):Int)=d by omega] at q
 exact q
theorem Yh {H H':Hp} {p:Addr} {o:HO} (g:H p=none) (e:upd H p o=H'):Zt H H':=e ▸ Zr g o
theorem Ye {H H':Hp} {p:Addr} {o:HO} (e:upd H p o=H'):H' p=some o:=e ▸ Zf
theorem WS {m n:Nat} {ws:List (List Nat)} (h:Cw m n ws):(ws.map wS).length≤n:=by
 rw [List.length_map]
 refine Nat.le_trans ?_ h.1
 clear h
 induction ws with
 | nil=>exact Nat.zero_le _
 | cons x r ih=>rw [U4,List.length_cons];omega
theorem Xr {n:Nat} (h:n≤50000):n≤sizeLine:=Nat.le_trans h (by decide)
def Zsz (K:W.Frag):Sp:=fun vs H Q _=>∃ (a tp:Addr) (ns:List Int) (k:Int) (z0:Str),vs=[.ref a,.ref tp,.str z0]∧0 < z0.length∧Yc 11 5000 z0∧Xw K H a tp ns∧H tp=some (.lst [.int k])∧0≤k∧k≤90000 ∧
 ∀ (z:Str) H',Yc 23 15100 z→YW tp (k+6) H H'→Q (.str z) H'
theorem Zf6 (Tx:ZD K mg t):Zv P w K mg base Zx 3 t.Ze9 t.Zfa ["_law_script","_law_tape","_law_text"] (Zsz K):=by
 refine Tx.ZcV.ok Wx (fun vs H Q E h=>?_) (fun cdv A outer s H vs Q E hr h=>?_)
 ·obtain ⟨a,tp,ns,k,z0,rfl,_⟩:=h
  rfl
 obtain ⟨a,tp,ns,k,z0,rfl,h0,hz,hS,hT,k0,k9,q⟩:=h
 refine Za _ (Zl (ZT (i:=3) Wx.nd rfl (Or.inl rfl) (Xu PySem.F.plainAttrs_str PySem.F.slot_str_split PySem.F.type_str_split ZaH (pv 2) (Zb Zn Zc)))
  (Zl (ZT (i:=4) Wx.nd rfl (Or.inl rfl) (Zo (YE Tx) (hr.mono (by omega)) rfl Tx.YC Tx.Yw.kp Tx.YD .nil Zp (Zb (pv 0) (Zb (pv 1) (Zb (Z4 WX rfl Tx.XR XQ (Zb (pv 3) Zc)) Zc)))))
  (Zl (ZT (i:=5) Wx.nd rfl (Or.inl rfl) (ZW (Zb Zn (Zb Zn (Zb Zn (Zb Zn (Zb Zn (Zb Zn (Zb Zn (Zb Zn (Zb Zn Zc)))))))))))
  (Zl (ZT (i:=5) Wx.nd rfl (Or.inl rfl) (ZB YO (pv 5) (ZW (Zb Zn (Zb Zn (Zb Zn (Zb Zn Zc)))))))
  (Zl (ZT (i:=6) Wx.nd rfl (Or.inl rfl) (Zz Z5 (pv 5) (Zo (YE Tx) (hr.mono (by omega)) rfl Tx.YC Tx.Yw.kp Tx.YD .nil Zp (Zb (pv 0) (Zb (pv 1) (Zb Ze Zc)))) (fun _ _=>rfl)))
  (Zl (ZT (i:=7) Wx.nd rfl (Or.inl rfl) (Zo (YE Tx) (hr.mono (by omega)) rfl Tx.YC Tx.Yw.kp Tx.YD .nil Zp (Zb (pv 0) (Zb (pv 1) (Zb (Z4 QR rfl Tx.XR XQ (Zb (pv 2) Zc)) Zc)))))
  (Zl (ZT (i:=8) Wx.nd rfl (Or.inl rfl) (Zz ZaE Zn (Zo (YE Tx) (hr.mono (by omega)) rfl Tx.YC Tx.Yw.kp Tx.YD .nil Zp (Zb (pv 0) (Zb (pv 1) (Zb Ze Zc)))) (fun _ _=>rfl)))
  (Zl (ZT (i:=9) Wx.nd rfl (Or.inl rfl) (ZW (Zb (ZB YO (XJ WW (pv 3) XH (XI (pv 4))) (XJ WW (pv 3) (XI (ZB Y7 (pv 4) Ze)) XH)) (Zb (ZB YO (ZB YO (XJ WW (pv 3) XH (XI (pv 4))) (ZW (Zb (Zz Z5 (pv 3) (pv 4) (fun _ _=>rfl)) Zc))) (XJ WW (pv 3) (XI (pv 4)) XH)) Zc))))
  (Zl (ZT (i:=9) Wx.nd rfl (Or.inl rfl) (ZB YO (pv 9) (ZW (Zb (ZB YO (ZB YO (XJ WW (pv 3) XH (XI (pv 4))) (ZW (Zb (pv 6) Zc))) (XJ WW (pv 3) (XI (ZB Y7 (pv 4) Ze)) XH)) Zc))))
  (Zl (ZT (i:=10) Wx.nd rfl (Or.inl rfl) (ZW (Zb (Xu PySem.F.plainAttrs_str PySem.F.slot_str_join PySem.F.type_str_join U2 Zn (Zb (Zz Z5 (pv 9) (Zo (YE Tx) (hr.mono (by omega)) rfl Tx.YC Tx.Yw.kp Tx.YD .nil Zp (Zb (pv 0) (Zb (pv 1) (Zb Ze Zc)))) (fun _ _=>rfl)) Zc)) (Zb (ZB WV (ZB WV (XJ QT (pv 2) XH (XI (pv 7))) (pv 8)) (XJ QT (pv 2) (XI (ZB Y7 (pv 7) Ze)) XH)) Zc))))
  (Zl (ZT (i:=10) Wx.nd rfl (Or.inl rfl) (ZB YO (pv 10) (ZW (Zb (ZB WV (ZB WV (XJ QT (pv 2) XH (XI (pv 7))) (pv 8)) (XJ QT (pv 2) (XI (pv 7)) XH)) (Zb (ZB WV (XJ QT (pv 2) XH (XI (pv 7))) (XJ QT (pv 2) (XI (ZB Y7 (pv 7) Ze)) XH)) (Zb (Zz Z5 (pv 10) Ze (fun _ _=>rfl)) Zc))))))
  (Zj (Zw (Zz Z5 (pv 10) (Zo (YE Tx) (hr.mono (by omega)) rfl Tx.YC Tx.Yw.kp Tx.YD .nil Zp (Zb (pv 0) (Zb (pv 1) (Zb Ze Zc)))) (fun _ _=>rfl))))))))))))))) ?_
 have zl:=hz.2
 have cw:=Cw.spl hz
 have ne:=UY 32 (Zu z0)
 refine ZE _ rfl rfl (ZV z0 32 rfl (by rw [room]) (Xr (by omega)) fun p1 g1=>?_)
 have B0:YW tp k H H:=⟨fun _ _ _ h=>h,hT⟩
 generalize hE:upd H p1 _=H1
 have s1:=Yh g1 hE
 have w1:=Ye hE
 clear hE
 replace w1:H1 p1=some (.lst ((spl 32 (Zu z0)).map wS)):=w1
 have tp1:p1≠tp:=(YZ hT g1).symm
 have B1:=B0.same s1
 have wl:0 < ((spl 32 (Zu z0)).map wS).length:=by rw [List.length_map];exact List.length_pos_iff.mpr ne
 have wm:=WS cw
 refine Za _ rfl (Za _ rfl (Za _ rfl (ZA p1 _ rfl (.inl (Zm.of w1)) ⟨a,tp,ns,k,_,rfl,B1.scr hS,B1.tape,k0,by omega,by omega,by omega,fun d1 H2 d10 d11 b1=>?_⟩)))
 have B2:=B1.trans b1
 have w2:=b1.keep _ _ tp1 w1
 refine ⟨(by show 9≤sizeLine;decide),fun p2 g2=>?_⟩
 generalize hE:upd H2 p2 _=H3
 have s3:=Yh g2 hE
 have v3:=Ye hE
 clear hE
 refine ZE _ rfl (by show 4≤sizeLine;decide) fun p3 g3=>?_
 generalize hE:upd H3 p3 _=H4
 have s4:=Yh g3 hE
 have v4:=Ye hE
 clear hE
 refine Zk p2 p3 _ _ rfl rfl (s4 _ _ v3) v4 (by show 13≤sizeLine;decide) fun p4 g4=>?_
 generalize hE:upd H4 p4 _=H5
 have s5:=Yh g4 hE
 have v5:=Ye hE
 clear hE
 have B5:=((B2.same s3).same s4).same s5
 have w5:=s5 _ _ (s4 _ _ (s3 _ _ w2))
 have tp4:p4≠tp:=(YZ (s4 _ _ (s3 _ _ B2.tape)) g4).symm
 refine Za _ rfl (Za _ rfl (Za _ rfl ⟨a,tp,ns,k+1,13,rfl,B5.scr hS,B5.tape,by omega,by omega,by decide,by decide,fun d2 H6 d20 d21 b2=>?_⟩))
 have B6:=B5.trans b2
 have w6:=b2.keep _ _ tp1 w5
 obtain ⟨_,hv,x,rfl,xl,xc⟩:=Wk Zsw d20 (by exact d21)
 refine ZC p4 _ d2 _ rfl rfl (Zm.of (b2.keep _ _ tp4 v5)) hv ?_
 refine Za _ rfl (Za _ rfl (Za _ rfl (ZE z0 rfl (Xr (by omega)) ⟨a,tp,ns,k+1+1,_,rfl,B6.scr hS,B6.tape,by omega,by omega,by omega,by omega,fun d3 H7 d30 d31 b3=>?_⟩)))
 have B7:=B6.trans b3
 have w7:=b3.keep _ _ tp1 w6
 refine Za _ rfl (Za _ rfl ⟨a,tp,ns,k+1+1+1,15,rfl,B7.scr hS,B7.tape,by omega,by omega,by decide,by decide,fun d4 H8 d40 d41 b4=>?_⟩)
 have B8:=B7.trans b4
 have w8:=b4.keep _ _ tp1 w7
 obtain ⟨c,hc⟩:=Zsy d40 d41
 refine YJ _ _ c rfl rfl (by rw [show (Str.ofString "0123456789, abe").length=15 by decide +kernel];decide) hc ?_
 obtain ⟨j,rfl⟩:=Int.eq_ofNat_of_zero_le d10
 obtain ⟨i,rfl⟩:=Int.eq_ofNat_of_zero_le d30
 generalize spl 32 (Zu z0)=W at cw wl wm d11 w1 w2 w5 w6 w7 w8
 have hj:j < W.length:=by rw [List.length_map] at d11;omega
 have cT:=cw.take j
 have cD:=cw.drop (j+1)
 have cE:=cw.drop j
 have cJ:=cw.of (List.getElem_mem hj)
 have cO:Cw 11 11 [x]:=.one (by omega) (by omega)
 have atJ:Yf (W.map wS) (j:Int)=some (wS W[j]):=XL (by rw [List.getElem?_map,List.getElem?_eq_getElem hj];rfl)
 have e1:((j:Nat):Int)+1=((j+1:Nat):Int):=rfl
 refine Za _ rfl (Za _ rfl (Za (j:Int) rfl (ZA p1 _ rfl (Zm.of w8) fun q1 e1x=>?_)))
 generalize hE:upd H8 q1 _=H9
 have s9:=Yh e1x hE
 have u1:=Ye hE
 clear hE
 have w9:=s9 _ _ w8
 rw [Zf2,← List.map_take] at u1
 refine Za _ rfl (Za _ rfl (ZA _ _ rfl rfl (Za _ rfl (ZA p1 _ rfl (Zm.of w9) fun q2 e2x=>?_))))
 generalize hE:upd H9 q2 _=H10
 have s10:=Yh e2x hE
 have u2:=Ye hE
 clear hE
 have w10:=s10 _ _ w9
 rw [e1,Zdu,← List.map_drop] at u2
 refine Zk q1 q2 _ _ rfl rfl (s10 _ _ u1) (u2) (Xr (Nat.le_trans (Nat.add_le_add (WS cT) (WS cD)) (by decide))) fun q3 e3x=>?_
 generalize hE:upd H10 q3 _=H11
 have s11:=Yh e3x hE
 have u3:=Ye hE
 clear hE
 have w11:=s11 _ _ w10
 rw [← List.map_append] at u3
 refine Za _ rfl (Za _ rfl (Za (j:Int) rfl (ZA p1 _ rfl (Zm.of w11) fun q4 e4x=>?_)))
 generalize hE:upd H11 q4 _=H12
 have s12:=Yh e4x hE
 have u4:=Ye hE
 clear hE
 have w12:=s12 _ _ w11
 rw [Zf2,← List.map_take] at u4
 refine Za _ rfl (Za _ rfl (Zk p1 _ _ _ rfl rfl (Zm.of w12) atJ (by show 1≤sizeLine;decide) fun q5 e5x=>?_))
 generalize hE:upd H12 q5 _=H13
 have s13:=Yh e5x hE
 have u5:=Ye hE
 clear hE
 have w13:=s13 _ _ w12
 have u5b:H13 q5=some (.lst ([W[j]].map wS)):=u5
 refine Zk q4 q5 _ _ rfl rfl (s13 _ _ u4) (u5b) (Xr (Nat.le_trans (Nat.add_le_add (WS cT) (WS cJ)) (by decide))) fun q6 e6x=>?_
 generalize hE:upd H13 q6 _=H14
 have s14:=Yh e6x hE
 have u6:=Ye hE
 clear hE
 have w14:=s14 _ _ w13
 rw [← List.map_append] at u6
 refine Za _ rfl (Za _ rfl (Za (j:Int) rfl (ZA p1 _ rfl (Zm.of w14) fun q7 e7x=>?_)))
 generalize hE:upd H14 q7 _=H15
 have s15:=Yh e7x hE
 have u7:=Ye hE
 clear hE
 have w15:=s15 _ _ w14
 rw [Zdu,← List.map_drop] at u7
 refine Zk q6 q7 _ _ rfl rfl (s15 _ _ u6) (u7) (Xr (Nat.le_trans (Nat.add_le_add (WS (cT.app cJ)) (WS cE)) (by decide))) fun q8 e8x=>?_
 generalize hE:upd H15 q8 _=H16
 have s16:=Yh e8x hE
 have u8:=Ye hE
 clear hE
 have w16:=s16 _ _ w15
 rw [← List.map_append] at u8
 refine ⟨(by show 2≤sizeLine;decide),fun q9 e9x=>?_⟩
 generalize hE:upd H16 q9 _=H17
 have s17:=Yh e9x hE
 have u9:=Ye hE
 clear hE
 have w17:=s17 _ _ w16
 refine Za _ rfl ?_
 refine Za _ rfl (Za _ rfl (Za (j:Int) rfl (ZA p1 _ rfl (Zm.of w17) fun q10 e10x=>?_)))
 generalize hE:upd H17 q10 _=H18
 have s18:=Yh e10x hE
 have u10:=Ye hE
 clear hE
 have w18:=s18 _ _ w17
 rw [Zf2,← List.map_take] at u10
 refine ZE _ rfl (by show 1≤sizeLine;decide) fun q11 e11x=>?_
 generalize hE:upd H18 q11 _=H19
 have s19:=Yh e11x hE
 have u11:=Ye hE
 clear hE
 have w19:=s19 _ _ w18
 have u11b:H19 q11=some (.lst ([x].map wS)):=u11
 refine Zk q10 q11 _ _ rfl rfl (s19 _ _ u10) (u11b) (Xr (Nat.le_trans (Nat.add_le_add (WS cT) (WS cO)) (by decide))) fun q12 e12x=>?_
 generalize hE:upd H19 q12 _=H20
 have s20:=Yh e12x hE
 have u12:=Ye hE
 clear hE
 have w20:=s20 _ _ w19
 rw [← List.map_append] at u12
 refine Za _ rfl (Za _ rfl (ZA _ _ rfl rfl (Za _ rfl (ZA p1 _ rfl (Zm.of w20) fun q13 e13x=>?_))))
 generalize hE:upd H20 q13 _=H21
 have s21:=Yh e13x hE
 have u13:=Ye hE
 clear hE
 have w21:=s21 _ _ w20
 rw [e1,Zdu,← List.map_drop] at u13
 refine Zk q12 q13 _ _ rfl rfl (s21 _ _ u12) (u13) (Xr (Nat.le_trans (Nat.add_le_add (WS (cT.app cO)) (WS cD)) (by decide))) fun q14 e14x=>?_
 generalize hE:upd H21 q14 _=H22
 have s22:=Yh e14x hE
 have u14:=Ye hE
 clear hE
 have w22:=s22 _ _ w21
 rw [← List.map_append] at u14
 refine ⟨(by show 1≤sizeLine;decide),fun q15 e15x=>?_⟩
 generalize hE:upd H22 q15 _=H23
 have s23:=Yh e15x hE
 have u15:=Ye hE
 clear hE
 have w23:=s23 _ _ w22
 refine Zk q9 q15 _ _ rfl rfl (s23 _ _ (s22 _ _ (s21 _ _ (s20 _ _ (s19 _ _ (s18 _ _ u9)))))) (u15) (by show 3≤sizeLine;decide) fun q16 e16x=>?_
 generalize hE:upd H23 q16 _=H24
 have s24:=Yh e16x hE
 have u16:=Ye hE
 clear hE
 have w24:=s24 _ _ w23
 have sN:=((((((((((((((s9.trans s10).trans s11).trans s12).trans s13).trans s14).trans s15).trans s16).trans s17).trans s18).trans s19).trans s20).trans s21).trans s22).trans s23).trans s24
 have BN:=B8.same sN
 have tpN:q16≠tp:=(YZ (s23 _ _ (s22 _ _ (s21 _ _ (s20 _ _ (s19 _ _ (s18 _ _ (s17 _ _ (s16 _ _ (s15 _ _ (s14 _ _ (s13 _ _ (s12 _ _ (s11 _ _ (s10 _ _ (s9 _ _ B8.tape))))))))))))))) e16x).symm
 have wat:∀ v∈[V.ref q3,V.ref q8]++[V.ref q14],∃ p ws,v=.ref p∧p≠tp∧H24 p=some (.lst (ws.map wS))∧Cw 11 15100 ws:=by
  intro v hv
  simp only [List.cons_append,List.nil_append,List.mem_cons,List.not_mem_nil,or_false] at hv
  rcases hv with rfl | rfl | rfl
  ·exact ZX _ _ rfl ((YZ (s10 _ _ (s9 _ _ B8.tape)) e3x).symm) (s24 _ _ (s23 _ _ (s22 _ _ (s21 _ _ (s20 _ _ (s19 _ _ (s18 _ _ (s17 _ _ (s16 _ _ (s15 _ _ (s14 _ _ (s13 _ _ (s12 _ _ u3))))))))))))) (Nat.le_trans (cT.app cD).1 (by decide)) ((cT.app cD).2)
  ·exact ZX _ _ rfl ((YZ (s15 _ _ (s14 _ _ (s13 _ _ (s12 _ _ (s11 _ _ (s10 _ _ (s9 _ _ B8.tape))))))) e8x).symm) (s24 _ _ (s23 _ _ (s22 _ _ (s21 _ _ (s20 _ _ (s19 _ _ (s18 _ _ (s17 _ _ u8)))))))) (Nat.le_trans ((cT.app cJ).app cE).1 (by decide)) (((cT.app cJ).app cE).2)
  ·exact ZX _ _ rfl ((YZ (s21 _ _ (s20 _ _ (s19 _ _ (s18 _ _ (s17 _ _ (s16 _ _ (s15 _ _ (s14 _ _ (s13 _ _ (s12 _ _ (s11 _ _ (s10 _ _ (s9 _ _ B8.tape))))))))))))) e14x).symm) (s24 _ _ (s23 _ _ u14)) (Nat.le_trans ((cT.app cO).app cD).1 (by decide)) (((cT.app cO).app cD).2)
 refine ⟨rfl,Za _ rfl (Za _ rfl (Za _ rfl ⟨a,tp,ns,k+1+1+1+1,3,rfl,BN.scr hS,BN.tape,by omega,by omega,by decide,by decide,fun d5 G1 d50 d51 b5=>?_⟩))⟩
 have BG:=BN.trans b5
 obtain ⟨_,hv5,p5,ws5,rfl,n5,h5,c5⟩:=Wk wat d50 (by exact d51)
 have lb:(Str.ofString " ").length=1:=by decide +kernel
 have tJ:Yc 23 15100 (Str.join (Str.ofString " ") (ws5.map sW)):=by rw [room];exact c5.text.mono (by decide) (Nat.le_refl _)
 refine ZC q16 _ d5 _ rfl rfl (Zm.of (b5.keep _ _ tpN u16)) hv5 ?_
 refine YJ _ p5 (ws5.map sW) rfl rfl (Zm.of (by rw [b5.keep _ _ n5 h5,List.map_map];rfl)) (Xr (Nat.le_trans (c5.room _ lb) (by decide))) ?_
 have zi:i≤z0.length:=by omega
 have zf:z0.length≤sizeLine:=Xr (by omega)
 have oA:=hz.to zi
 have oB:Yc 11 5000 (Txt.slice z0 (some ((i:Int)+1)) none):=hz.from (j:=i+1) (by omega)
 have oC:=hz.from zi
 have oS:=Yc.sign c
 have o1:=oA.app oS
 have o2:Yc 23 15100 (Txt.slice z0 none (some (i:Int))++⟨#[c]⟩++Txt.slice z0 (some ((i:Int)+1)) none):=(o1.app oB).mono (by decide) (by decide)
 have o3:Yc 23 15100 (Txt.slice z0 none (some (i:Int))++⟨#[c]⟩++Txt.slice z0 (some (i:Int)) none):=(o1.app oC).mono (by decide) (by decide)
 have o4:Yc 23 15100 (Txt.slice z0 none (some (i:Int))++Txt.slice z0 (some ((i:Int)+1)) none):=(oA.app oB).mono (by decide) (by decide)
 refine Za _ rfl (Za _ rfl (Za (i:Int) rfl (ZE _ rfl zf (Za _ rfl (ZV _ _ rfl rfl (Xr (Nat.le_trans (Nat.add_le_add oA.2 oS.2) (by decide))) (Za _ rfl (Za _ rfl (ZA _ _ rfl rfl (Za _ rfl (ZE _ rfl zf (ZX _ _ rfl rfl (Xr (Nat.le_trans (Nat.add_le_add o1.2 oB.2) (by decide))) (by show 2≤sizeLine;decide) fun r1 f1=>?_)))))))))))
 generalize hE:upd G1 r1 _=G2
 have t2:=Yh f1 hE
 have x2:=Ye hE
 clear hE
 refine Za _ rfl (Za _ rfl (Za _ rfl (Za (i:Int) rfl (ZE _ rfl zf (Za _ rfl (ZV _ _ rfl rfl (Xr (Nat.le_trans (Nat.add_le_add oA.2 oS.2) (by decide))) (Za _ rfl (Za _ rfl (Za (i:Int) rfl (ZE _ rfl zf (ZV _ _ rfl rfl (Xr (Nat.le_trans (Nat.add_le_add o1.2 oC.2) (by decide))) ?_)))))))))))
 refine Za _ rfl (Za _ rfl (Za (i:Int) rfl (ZE _ rfl zf (Za _ rfl (Za _ rfl (ZA _ _ rfl rfl (Za _ rfl (ZE _ rfl zf (ZV _ _ rfl rfl (Xr (Nat.le_trans (Nat.add_le_add oA.2 oB.2) (by decide))) ?_)))))))))
 refine Za _ rfl (Zk r1 _ 0 _ rfl rfl (Zm.of x2) rfl (by show 3≤sizeLine;decide) fun r2 f2=>?_)
 generalize hE:upd G2 r2 _=G3
 have t3:=Yh f2 hE
 have x3:=Ye hE
 clear hE
 refine Zk r1 r2 _ _ rfl rfl (t3 _ _ x2) x3 (by show 5≤sizeLine;decide) fun r3 f3=>?_
 generalize hE:upd G3 r3 _=G4
 have t4:=Yh f3 hE
 have x4:=Ye hE
 clear hE
 have B4:=BG.same ((t2.trans t3).trans t4)
 have tr3:r3≠tp:=(YZ (t3 _ _ (t2 _ _ BG.tape)) f3).symm
 refine Za _ rfl (Za _ rfl (Za _ rfl ⟨a,tp,ns,k+1+1+1+1+1,5,rfl,B4.scr hS,B4.tape,by omega,by omega,by decide,by decide,fun d6 G5 d60 d61 b6=>?_⟩))
 have B5':=B4.trans b6
 rw [show k+1+1+1+1+1+1=k+6 by omega] at B5'
 have okt:∀ v∈[V.str (Str.join (Str.ofString " ") (ws5.map sW)),V.str (Txt.slice z0 none (some (i:Int))++⟨#[c]⟩++Txt.slice z0 (some ((i:Int)+1)) none)]++[V.str (Txt.slice z0 none (some (i:Int))++⟨#[c]⟩++Txt.slice z0 (some (i:Int)) none),V.str (Txt.slice z0 none (some (i:Int))++Txt.slice z0 (some ((i:Int)+1)) none),V.str (Str.join (Str.ofString " ") (ws5.map sW))],∃ z,v=.str z∧Yc 23 15100 z:=by
  intro v hv
  simp only [List.cons_append,List.nil_append,List.mem_cons,List.not_mem_nil,or_false] at hv
  rcases hv with rfl | rfl | rfl | rfl | rfl
  ·exact Za _ rfl tJ
  ·exact Za _ rfl o2
  ·exact Za _ rfl o3
  ·exact Za _ rfl o4
  ·exact Za _ rfl tJ
 obtain ⟨_,hv6,z,rfl,oz⟩:=Wk okt d60 (by exact d61)
 exact ZC r3 _ d6 _ rfl rfl (Zm.of (b6.keep _ _ tr3 x4)) hv6 (q z _ oz B5')
theorem ZsA {z:Str} (h:Yc 23 50000 z):Lw (spl 32 (Zu z)) :=
 ⟨XC.spl (by rw [show (Zu z).length=z.length from XZ z];have:=h.2;omega),fun w hw=>Nat.le_trans (h.1.words w hw) (by decide)⟩
theorem ZsB (Tx:ZD K mg t) {H:Hp} {p4 p5:Addr} {v:V} (h4:H p4=some (.lst [])) (h5:H p5=some (.dK [])) (hv:v∈[V.non,.str (Str.ofString "always"),.int 5,.ref p4,.ref p5]):ZjP K t.Yj H v:=by
 simp only [List.mem_cons,List.not_mem_nil,or_false] at hv
 rcases hv with rfl | rfl | rfl | rfl | rfl
 ·exact Za _ .non Tx.Zqp
 ·exact Za _ (.str _) Tx.Zqq
 ·exact Za _ (.int _) Tx.Zqr
 ·exact Za _ (.lst h4) Tx.Zqs
 ·exact Za _ (.dK h5) Tx.Zqt
theorem ZsC {H:Hp} {p1 p2 p3:Addr} {a1:List V} {a3:List V} {v:V} (h1:H p1=some (.lst a1)) (h2:H p2=some (.dK [])) (h3:H p3=some (.tup a3)) (hv:v∈[V.non,.int 5,.bl true,.ref p1,.ref p2,.ref p3,.str (Str.ofString "")]):(∃ T,Kd H v T)∧(∀ z,v=.str z→z.length≤50000)∧QM v=none:=by
 simp only [List.mem_cons,List.not_mem_nil,or_false] at hv
 rcases hv with rfl | rfl | rfl | rfl | rfl | rfl | rfl
 ·exact ⟨⟨_,.non⟩,(fun _ e=>nomatch e),rfl⟩
 ·exact ⟨⟨_,.int _⟩,(fun _ e=>nomatch e),rfl⟩
 ·exact ⟨⟨_,.bl _⟩,(fun _ e=>nomatch e),rfl⟩
 ·exact ⟨⟨_,.lst h1⟩,(fun _ e=>nomatch e),rfl⟩
 ·exact ⟨⟨_,.dK h2⟩,(fun _ e=>nomatch e),rfl⟩
 ·exact ⟨⟨_,.tup h3⟩,(fun _ e=>nomatch e),rfl⟩
 ·exact ⟨⟨_,.str _⟩,fun z e=>by cases e;decide +kernel,by show YS (Zu (Str.ofString ""))=none;decide +kernel⟩
theorem ZsD:∀ v∈[V.str (Str.ofString "either always "),.str (Str.ofString "both week 0000001 "),.str (Str.ofString "span 0 9 "),.str (Str.ofString "but 3 ")],∃ z,v=.str z∧z.length≤20∧(Zu z).count 44=0:=by
 intro v hv
 simp only [List.mem_cons,List.not_mem_nil,or_false] at hv
 rcases hv with rfl | rfl | rfl | rfl <;> exact ZE _ rfl (by decide +kernel) (by decide +kernel)
def sp_law (K:W.Frag):Sp:=fun vs H Q _=>∃ (a:Addr) (ns:List Int),vs=[.ref a]∧Zm K H a (ns.map V.int)∧ns.length≤63∧∀ H',Q (.bl true) H'
theorem ZsE (Tx:ZD K mg t):Zv P w K mg base Zx 80 t.Zfb t.Zb0 ["_law_script"] (sp_law K):=by
 refine Tx.Zi2.ok XO (fun vs H Q E h=>?_) (fun cdv A outer s H vs Q E hr h=>?_)
 ·obtain ⟨a,ns,rfl,_⟩:=h
  rfl
 obtain ⟨a,ns,rfl,hS,hlen,q⟩:=h
 refine Za _ (Zl (ZT (i:=1) XO.nd rfl (Or.inl rfl) (ZW (Zb Ze Zc)))
  (Zl (ZT (i:=2) XO.nd rfl (Or.inl rfl) (Zo (Zr7 Tx 8) (hr.mono (by omega)) rfl Tx.ZcO Tx.Zam.kp Tx.ZcP .nil Zp (Zb (pv 0) (Zb (pv 1) (Zb (Zz Z5 (ZW (Zb Ze (Zb Ze (Zb Ze (Zb Ze Zc))))) (Zo (YE Tx) (hr.mono (by omega)) rfl Tx.YC Tx.Yw.kp Tx.YD .nil Zp (Zb (pv 0) (Zb (pv 1) (Zb Ze Zc)))) (fun _ _=>rfl)) (Zb Ze Zc))))))
  (Zl (ZT (i:=3) XO.nd rfl (Or.inl rfl) (Zo (Zr9 Tx 8) (hr.mono (by omega)) rfl Tx.Qy Tx.UK.kp Tx.Qz .nil Zp (Zb (pv 2) Zc)))
  (Zl (ZT (i:=4) XO.nd rfl (Or.inl rfl) (Xu PySem.F.plainAttrs_str PySem.F.slot_str_join PySem.F.type_str_join U2 Zn (Zb (Zo (ZfZ Tx 8) (hr.mono (by omega)) rfl Tx.QC Tx.UM.kp Tx.QD .nil Zp (Zb (pv 2) Zc)) Zc)))
  (Zl (ZG (PW.pt (Y5 (ZI Wt (Zo (ZfY Tx) (hr.mono (by omega)) rfl Tx.Zft Tx.ZcL.kp Tx.Zfu .nil Zht (Zb (pv 3) Zc)) (pv 4) (ZH _)) (XE (Yt (Yx (Zo (Zkt Tx) (hr.mono (by omega)) rfl Tx.Zi0 Tx.ZfH.kp Tx.Zi1 .nil Zp (Zb (pv 0) (Zb (pv 1) (Zb (Zo (Zf5 Tx) (hr.mono (by omega)) rfl Tx.ZfF Tx.ZcU.kp Tx.ZfG .nil Zp (Zb (pv 4) Zc)) (Zb (pv 2) Zc))))))))))
  (Zj (Zw Xd))
  ZF)
  (Zl (ZT (i:=5) XO.nd rfl (Or.inl rfl) (Zz Z5 (ZW (Zb Zn (Zb Zn (Zb Zn (Zb Zn Zc))))) (Zo (YE Tx) (hr.mono (by omega)) rfl Tx.YC Tx.Yw.kp Tx.YD .nil Zp (Zb (pv 0) (Zb (pv 1) (Zb Ze Zc)))) (fun _ _=>rfl)))
  (Zl (ZT (i:=6) XO.nd rfl (Or.inl rfl) (ZB WV (ZB ZnX (pv 5) (Zo (YE Tx) (hr.mono (by omega)) rfl Tx.YC Tx.Yw.kp Tx.YD .nil Zp (Zb (pv 0) (Zb (pv 1) (Zb Ze Zc))))) (pv 4)))
  (Zl (ZT (i:=7) XO.nd rfl (Or.inl rfl) (ZW (Zb (pv 6) (Zb (ZB WV (ZB WV (ZB WV Zn (pv 4)) Zn) (pv 4)) (Zb (Zo (Zf6 Tx) (hr.mono (by omega)) rfl Tx.ZfI Tx.ZcV.kp Tx.ZfJ .nil Zp (Zb (pv 0) (Zb (pv 1) (Zb (pv 4) Zc)))) Zc)))))
  (Zl (ZT (i:=7) XO.nd rfl (Or.inl rfl) (ZB YO (pv 7) (ZW (Zb (Zo (Zf6 Tx) (hr.mono (by omega)) rfl Tx.ZfI Tx.ZcV.kp Tx.ZfJ .nil Zp (Zb (pv 0) (Zb (pv 1) (Zb (pv 4) Zc)))) (Zb (Zo (Zf6 Tx) (hr.mono (by omega)) rfl Tx.ZfI Tx.ZcV.kp Tx.ZfJ .nil Zp (Zb (pv 0) (Zb (pv 1) (Zb (pv 6) Zc)))) Zc)))))
  (Zl (Qd PassesOwn.never rfl (WD (pv 7)) (Y6 (i:=8) XO.nd rfl (Or.inl rfl))
  (Zl (ZT (i:=9) XO.nd rfl (Or.inl rfl) (Zo (Zst Tx) (hr.mono (by omega)) rfl Tx.ZoR Tx.ZiZ.kp Tx.ZoS .nil Zp (Zb (pv 8) Zc)))
  (Zl (ZT (i:=10) XO.nd rfl (Or.inl rfl) (Zo (Zf5 Tx) (hr.mono (by omega)) rfl Tx.ZfF Tx.ZcU.kp Tx.ZfG .nil Zp (Zb (pv 8) Zc)))
  (Zj (ZG (PW.pt (Y5 (PW.pt (WC (UR (ZaA (pv 9))) (Vf (ZI Wt (pv 10) Zn (ZH _))))) (XE (PW.pt (WC (UR (Zbf (pv 9))) (Vf (Yt (Yx (Zo (Zkt Tx) (hr.mono (by omega)) rfl Tx.Zi0 Tx.ZfH.kp Tx.Zi1 .nil Zp (Zb (pv 0) (Zb (pv 1) (Zb (pv 10) (Zb (pv 9) Zc)))))))))))))
  (Zj (Zw Xd))
  ZF)))))
  (Zl (ZT (i:=11) XO.nd rfl (Or.inl rfl) (Zz Z5 (ZW (Zb Y4 (Zb Ze (Zb Xd (Zb (ZW (Zb Zn Zc)) (Zb Zg2 (Zb (YM (Zb Zn Zc)) (Zb Zn Zc)))))))) (Zo (YE Tx) (hr.mono (by omega)) rfl Tx.YC Tx.Yw.kp Tx.YD .nil Zp (Zb (pv 0) (Zb (pv 1) (Zb Ze Zc)))) (fun _ _=>rfl)))
  (Zl (ZG (ZI Wt (Zo (Zf5 Tx) (hr.mono (by omega)) rfl Tx.ZfF Tx.ZcU.kp Tx.ZfG .nil Zp (Zb (pv 11) Zc)) Zn (ZH _))
  (Zj (Zw Xd))
  ZF)
  (Zl (ZT (i:=12) XO.nd rfl (Or.inl rfl) Y4)
  (Zl (ZgK (i:=13) ⟨rfl,rfl⟩ rfl XO.nd rfl rfl rfl Tx.Zjp
  (fun pins Kx=>(Zj (Vg (Zo (ZfY Tx) (hr.mono (by omega)) rfl Tx.Zft Tx.ZcL.kp Tx.Zfu .nil ZgJ (Zb (Zz (show WG _ (UW K) from Z5) (ZW (Zb Y4 (Zb Zn (Zb Ze (Zb (ZW Zc) (Zb Zg2 Zc)))))) (Zo (YE Tx) (hr.mono (by omega)) rfl Tx.YC Tx.Yw.kp Tx.YD .nil Zp (Zb (pv 0) (Zb (pv 1) (Zb Ze Zc)))) (fun _ _=>rfl)) Zc)))))
  (fun a=>(Zj (ZT (i:=12) XO.nd rfl (Or.inl rfl) (pv 13)))))
  (Zj (Zw (UT (ZkG (Zbf (pv 12))) (US (XF ZZ (Zo (Zkk Tx) (hr.mono (by omega)) rfl Tx.ZiR Tx.ZfA.kp Tx.ZiS .nil Zp (Zb (pv 12) Zc)) Zn (ZH _)))))))))))))))))))) ?_
 refine ⟨by show 1≤sizeLine;decide,fun tp htp=>?_⟩
 have S0:=Xw.new hS htp (.lst [.int 0])
 generalize hE:upd H tp _=H0 at S0 ⊢
 have hT0:=Ye hE
 clear hE
 refine Za _ rfl (ZE _ rfl (by show 4≤sizeLine;decide) fun p hp=>?_)
 have s0:=Zr hp (.lst [.int 3,.int 7,.int 15,.int 15])
 have np:p≠tp:=WB hT0 hp
 refine Za _ rfl (Za _ rfl ⟨a,tp,ns,0,4,rfl,S0.same s0,s0 _ _ hT0,by decide,by decide,by decide,by decide,fun d H1 d0 d1 b1=>?_⟩)
 obtain ⟨vr,er,room,rfl,hr1,hr2⟩:=Wk (p:=fun v=>∃ n:Nat,v=V.int (n:Nat)∧1≤n∧n≤15) (xs:=[.int 3,.int 7,.int 15,.int 15]) (d:=d) (fun v hv=>by
  simp only [List.mem_cons,List.not_mem_nil,or_false] at hv
  rcases hv with rfl | rfl | rfl | rfl
  ·exact ZE 3 rfl (by decide) (by decide)
  ·exact ZE 7 rfl (by decide) (by decide)
  ·exact ZE 15 rfl (by decide) (by decide)
  ·exact ZE 15 rfl (by decide) (by decide)) d0 (by show d < 4;omega)
 have S1:=b1.scr (S0.same s0)
 refine ZC p _ _ _ rfl rfl (Zm.of (b1.keep _ _ np Zf)) er ⟨a,tp,ns,0+1,room,8,rfl,S1,b1.tape,by omega,by omega,hr1,by omega,by decide,by decide,fun v r k' H2 b2 u1 u2 T2 g w2 e2=>?_⟩
 have w3:r.weight≤15:=by omega
 have S2:=b2.scr S1
 have B2:=b2.tape
 clear S0 s0 np b1 S1 b2 er hT0 hp w2
 refine Za _ rfl (Vx tp v r rfl T2 g w3 e2 e2 fun b H3 s3 R3=>?_)
 refine ⟨rfl,Za _ rfl ⟨tp,v,r,rfl,T2.same s3,g,by omega,e2,fun pw H4 s4 n4 e4=>(YJ _ pw r.words rfl rfl (Zm.of e4) (ZfX g w3) ?_)⟩⟩
 rw [show Str.join (Str.ofString " ") r.words=Yv r from rfl]
 have ot:=Zn5 g w3
 have o0:=Zn6 g
 refine Za _ rfl (Za _ rfl (.inr ⟨b,r,rfl,R3.same s4,g,w3,e2,fun H5 s5=>?_⟩))
 refine ZE _ rfl rfl (Za _ rfl (Zh (by rw [decide_eq_true rfl];decide) ?_))
 have s35:=s3.trans (s4.trans s5)
 refine Za _ rfl (Za _ rfl (Za _ rfl (ZX (.str (Yv r)) ("str") rfl (.str _) (fun z e=>by cases e;have:=ot.2;omega) (fun r' b' H6 er s6 R6=>?_) fun e=>absurd (ZhN g w3 e2) (by show ¬ YS (Zu (Yv r))=some r;rw [show YS (Zu (Yv r))=none from e];exact fun z=>nomatch z))))
 obtain rfl:r'=r:=Option.some.inj (er.symm.trans (show QM (.str (Yv r))=some r from ZhN g w3 e2))
 have s36:=s35.trans s6
 refine Za _ rfl ⟨a,tp,b',ns,k',v,r',rfl,S2.same s36,s36 _ _ B2,by omega,by omega,R6,T2.same s36,g,w3,e2,fun k2 H7 b7 k20 k21=>(Za _ rfl (Zh (by decide) ?_))⟩
 have S7:=b7.scr (S2.same s36)
 have B7:=b7.tape
 have k7:k2≤700:=by omega
 have k70:0≤k2:=by omega
 clear s36 s35 s3 s4 s5 s6 er R6 R3 T2 S2 B2 b7 e4 n4 k20 k21 u1 u2
 refine ⟨by show 4≤sizeLine;decide,fun p1 g1=>?_⟩
 generalize hE:upd H7 p1 _=H8
 have s8:=Yh g1 hE
 have v8:=Ye hE
 clear hE
 have np1:p1≠tp:=WB B7 g1
 refine Za _ rfl (Za _ rfl ⟨a,tp,ns,k2,4,rfl,S7.same s8,s8 _ _ B7,by omega,by omega,by decide,by decide,fun d2 H9 d20 d21 c1=>?_⟩)
 have S9:=c1.scr (S7.same s8)
 obtain ⟨_,hv,zd,rfl,zl,zc⟩:=Wk ZsD d20 (by exact d21)
 refine ZC p1 _ d2 _ rfl rfl (Zm.of (c1.keep _ _ np1 v8)) hv ?_
 refine Za _ rfl (Za _ rfl (Za _ rfl ⟨a,tp,ns,k2+1,9,rfl,S9,c1.tape,by omega,by omega,by decide,by decide,fun d3 H10 d30 d31 c2=>?_⟩))
 have S10:=c2.scr S9
 have B10:=c2.tape
 obtain ⟨m,rfl⟩:=Int.eq_ofNat_of_zero_le d30
 have oR:Yc 0 160 (X3 zd m):=(Zn7 (m:=20) ⟨.few (by omega),zl⟩ zc m).mono (Nat.le_refl _) (by omega)
 have oL:Yc 11 5000 (X3 zd m++Yv r'):=(oR.app ot).mono (by decide) (by decide)
 have l0:0 < (X3 zd m++Yv r').length:=by rw [Str.length_append];omega
 refine ZX zd m rfl rfl (by omega) (by omega) (Za _ rfl (ZV _ _ rfl rfl (Xr (Nat.le_trans (Nat.add_le_add oR.2 ot.2) (by decide))) ?_))
 have oT:Yc 11 5000 (Yv r'):=ot.mono (by decide) (by decide)
 have oe:Yc 0 7 (Str.ofString "either "):=⟨.few (by decide +kernel),by decide +kernel⟩
 have ob:Yc 0 1 (Str.ofString " "):=⟨.few (by decide +kernel),by decide +kernel⟩
 have oE:Yc 22 9098 (Str.ofString "either " ++ Yv r'++Str.ofString " " ++ Yv r'):=(((oe.app ot).app ob).app ot)
 generalize X3 zd m++Yv r'=zL at oL l0 ⊢
 refine Za _ rfl (Za _ rfl (ZV _ _ rfl rfl (Xr (Nat.le_trans (Nat.add_le_add oe.2 ot.2) (by decide))) (ZV _ _ rfl rfl (Xr (Nat.le_trans (Nat.add_le_add (oe.app ot).2 ob.2) (by decide))) (Za _ rfl (ZV _ _ rfl rfl (Xr (Nat.le_trans (Nat.add_le_add ((oe.app ot).app ob).2 ot.2) (by decide))) ?_)))))
 generalize Str.ofString "either " ++ Yv r'++Str.ofString " " ++ Yv r'=zE at oE ⊢
 refine Za _ rfl (Za _ rfl (Za _ rfl ⟨a,tp,ns,k2+1+1,_,rfl,o0,oT,S10,B10,by omega,by omega,fun z3 H11 o3 c3=>⟨by show 3≤sizeLine;decide,fun p2 g2=>?_⟩⟩))
 have S11:=c3.scr S10
 have np2:p2≠tp:=WB c3.tape g2
 generalize hE:upd H11 p2 _=H12
 have s12:=Yh g2 hE
 have v12:=Ye hE
 clear hE
 refine Za _ rfl (Za _ rfl (Za _ rfl (Za _ rfl ⟨a,tp,ns,k2+1+1+6,_,rfl,o0,oT,S11.same s12,s12 _ _ c3.tape,by omega,by omega,fun z4 H13 o4 c4=>?_⟩)))
 have S13:=c4.scr (S11.same s12)
 refine Za _ rfl (Za _ rfl (Za _ rfl ⟨a,tp,ns,k2+1+1+6+6,_,rfl,l0,oL,S13,c4.tape,by omega,by omega,fun z5 H14 o5 c5=>⟨by show 2≤sizeLine;decide,fun p3 g3=>?_⟩⟩))
 have S14:=c5.scr S13
 have v14:=c5.keep _ _ np2 (c4.keep _ _ np2 v12)
 generalize hE:upd H14 p3 _=H15
 have s15:=Yh g3 hE
 have v15:=Ye hE
 clear hE
 refine Zk p2 p3 _ _ rfl rfl (s15 _ _ v14) v15 (by show 5≤sizeLine;decide) fun p4 g4=>?_
 have np4:p4≠tp:=WB (s15 _ _ c5.tape) g4
 generalize hE:upd H15 p4 _=H16
 have s16:=Yh g4 hE
 have v16:=Ye hE
 clear hE
 have S16:=(S14.same s15).same s16
 have B16:=s16 _ _ (s15 _ _ c5.tape)
 have hall:∀ v∈[V.str zL,V.str zE,V.str z3]++[V.str z4,V.str z5],∃ z,v=.str z∧Yc 23 50000 z:=by
  intro v hv
  simp only [List.cons_append,List.nil_append,List.mem_cons,List.not_mem_nil,or_false] at hv
  rcases hv with rfl | rfl | rfl | rfl | rfl
  ·exact Za _ rfl (oL.mono (by decide) (by decide))
  ·exact Za _ rfl (oE.mono (by decide) (by decide))
  ·exact Za _ rfl (o3.mono (by decide) (by decide))
  ·exact Za _ rfl (o4.mono (by decide) (by decide))
  ·exact Za _ rfl (o5.mono (by decide) (by decide))
 have h5:([V.str zL,V.str zE,V.str z3]++[V.str z4,V.str z5]).length=5:=rfl
 generalize [V.str zL,V.str zE,V.str z3]++[V.str z4,V.str z5]=xs at v16 hall h5
 clear s15 s16 s12 s8 v15 v14 v12 v8 c1 c2 c3 c4 c5 S14 S13 S11 S10 S9 S7 B10 B7 o3 o4 o5 g1 g2 g3 g4
 refine Za _ rfl (ZE p4 rfl ⟨_,Zm.of v16⟩ (ZdC (xs:=xs) (fun i σ H'=>∃ (v8 v9 v10:Option V) (k:Int),σ=[some (.ref a),some (.ref tp),some v,some (.ref b),some (.str (Yv r')),some (.str zd),some (.str zL),some (.ref p4),v8,v9,v10,none,none,none]∧Xw K H' a tp ns∧H' tp=some (.lst [.int k])∧0≤k∧k≤1000+8 * i∧H' p4=some (.lst xs))
  (Zk _ _ _ _ rfl S16 B16 (by omega) (by omega) v16) (fun i σ H' _ ⟨_,_,_,_,_,_,_,_,_,h⟩=>Zm.of h) ?_ ?_))
 ·rintro i x σ H' hx ⟨v8,v9,v10,k,rfl,S,hT,kk0,kk1,hl⟩
  obtain ⟨z,rfl,oz⟩:=hall x (List.mem_of_getElem? hx)
  have hi:i < xs.length:=(List.getElem?_eq_some_iff.mp hx).1
  refine Za _ rfl (YJ z tp _ rfl oz.2 hT (ZsA oz) fun vd H17 s17 D=>?_)
  refine Za _ rfl (ZX (.str z) ("str") rfl (.str _) (fun z e=>by cases e;exact oz.2) (fun r b H18 er s18 R=>?_) fun e H18 s18=>?_)
  ·rw [show YS (Zu z)=some r from er] at D
   obtain ⟨T,a9,rfl⟩:=D
   obtain ⟨gr,wr,dr⟩:=ZnL (show YS (Zu z)=some r from er)
   have s78:=s17.trans s18
   refine Za _ rfl (Za _ rfl (Zh (by rw [decide_eq_false (show ¬ V.ref a9=V.non from fun z=>nomatch z)];decide) ?_))
   refine Za _ rfl (Za _ rfl (Zy (by rw [decide_eq_false (show ¬ V.ref a9=V.non from fun z=>nomatch z)];decide) ?_))
   refine Za _ rfl (Za _ rfl (Za _ rfl (Za _ rfl ⟨a,tp,b,ns,k,_,r,rfl,S.same s78,s78 _ _ hT,by omega,by omega,R,T.same s18,gr,wr,dr,fun k3 H19 b19 k30 k31=>(Za _ rfl (Zh (by decide) ?_))⟩)))
   exact Zk _ _ _ _ rfl (b19.scr (S.same s78)) b19.tape (by omega) (by omega) (b19.keep _ _ np4 (s78 _ _ hl))
  ·rw [show YS (Zu z)=none from e] at D
   obtain rfl:vd=.non:=D
   have s78:=s17.trans s18
   refine Za _ rfl (Za _ rfl (Zy (by decide) ?_))
   refine ZE _ rfl rfl (Za _ rfl (Zh (by decide) ?_))
   refine Za _ rfl (Za _ rfl (Zh (by decide) ?_))
   exact Zk _ _ _ _ rfl (S.same s78) (s78 _ _ hT) (by omega) (by omega) (s78 _ _ hl)
 ·rintro σ H17 ⟨v8,v9,v10,k,rfl,S,hT,kk0,kk1,hl⟩
  rw [h5] at kk1
  refine ⟨by show 1≤sizeLine;decide,fun p5 g5=>?_⟩
  generalize hE:upd H17 p5 _=H18
  have s18:=Yh g5 hE
  have y5:=Ye hE
  clear hE
  refine fun p6 g6=>?_
  generalize hE:upd H18 p6 _=H19
  have s19:=Yh g6 hE
  have y6:=Ye hE
  clear hE
  refine ⟨by show 1≤sizeLine;decide,fun p7 g7=>?_⟩
  generalize hE:upd H19 p7 _=H20
  have s20:=Yh g7 hE
  have y7:=Ye hE
  clear hE
  refine ⟨by show 7≤sizeLine;decide,fun p8 g8=>?_⟩
  have s1720:=(s18.trans s19).trans s20
  have np8:p8≠tp:=WB (s1720 _ _ hT) g8
  generalize hE:upd H20 p8 _=H21
  have s21:=Yh g8 hE
  have y8:=Ye hE
  clear hE
  have sA:=s1720.trans s21
  have hT21:=sA _ _ hT
  refine Za _ rfl (Za _ rfl ⟨a,tp,ns,k,7,rfl,S.same sA,hT21,by omega,by omega,by decide,by decide,fun d4 H22 d40 d41 c6=>?_⟩)
  have S22:=c6.scr (S.same sA)
  have kp:∀ {x o},H21 x=some o→(∀ l,o≠.lst l)∨x≠tp→H22 x=some o:=fun {x o} h n=>c6.keep _ _ (n.elim (fun n e=>by rw [e,hT21] at h;exact n _ (Option.some.inj h).symm) id) h
  have np5:p5≠tp:=WB hT g5
  obtain ⟨x,hv,⟨TT,kx⟩,lx,rx⟩:=Wk (fun v hv=>ZsC (v:=v) (kp (s21 _ _ (s20 _ _ (s19 _ _ y5))) (.inr np5)) (kp (s21 _ _ (s20 _ _ y6)) (.inl fun _ e=>nomatch e)) (kp (s21 _ _ y7) (.inl fun _ e=>nomatch e)) hv) d40 (by exact d41)
  refine ZC p8 _ d4 _ rfl rfl (Zm.of (c6.keep _ _ np8 y8)) hv ?_
  refine Za _ rfl (ZX x TT rfl kx lx (fun r b H' e=>by rw [rx] at e;cases e) fun _ H23 s23=>?_)
  refine ⟨rfl,Za _ rfl (Zh (by decide) ?_)⟩
  have S23:=S22.same s23
  have B23:=s23 _ _ c6.tape
  clear sA s21 s1720 s20 s19 s18 y5 y6 y7 y8 g5 g6 g7 g8 kx S22 kp c6 hT21 hl hT S
  refine ⟨by show 0≤sizeLine;decide,fun p9 g9=>?_⟩
  generalize hE:upd H23 p9 _=H24
  have s24:=Yh g9 hE
  have y9:=Ye hE
  clear hE
  refine fun p10 g10=>?_
  generalize hE:upd H24 p10 _=H25
  have s25:=Yh g10 hE
  have y10:=Ye hE
  clear hE
  refine ⟨by show 5≤sizeLine;decide,fun p11 g11=>?_⟩
  have np11:p11≠tp:=WB (s25 _ _ (s24 _ _ B23)) g11
  have np9:p9≠tp:=WB B23 g9
  have np10:p10≠tp:=WB (s24 _ _ B23) g10
  generalize hE:upd H25 p11 _=H26
  have s26:=Yh g11 hE
  have y11:=Ye hE
  clear hE
  have sA:=(s24.trans s25).trans s26
  refine Za _ rfl (Za _ rfl ⟨a,tp,ns,k+1,5,rfl,S23.same sA,sA _ _ B23,by omega,by omega,by decide,by decide,fun d5 H27 d50 d51 c7=>?_⟩)
  obtain ⟨y,hv,nr⟩:=Wk (fun v hv=>ZsB Tx (v:=v) (c7.keep _ _ np9 (s26 _ _ (s25 _ _ y9))) (c7.keep _ _ np10 (s26 _ _ y10)) hv) d50 (by exact d51)
  refine ZC p11 _ d5 _ rfl rfl (Zm.of (c7.keep _ _ np11 y11)) hv ?_
  refine Za y rfl (.inl ⟨nr,⟨Tx.Zjq,fun x hx=>(Za _ rfl (Za _ rfl (Za _ rfl ?_)))⟩⟩)
  refine Zy (by rw [decide_eq_false (show ¬ V.ref x=V.non from fun z=>nomatch z)];decide) (Za _ rfl (Za x rfl (.inl ⟨Zf,fun H28 s28=>⟨rfl,q _⟩⟩)))
end
theorem all_mk {K:W.Frag} {h:Heap} {mg:Str→Option Value} (X:K.In h) (G:h.Ns mainGlobals mg)
  {aa:Addr} {ab ac ad ae af ag:Value} {ah ai:Option Addr} {aj:Array (Option Value)}
  {ak:Addr} {al am ao ap aq ar:Value} {as au:Option Addr} {av:Array (Option Value)}
  {aw:Addr} {ax ay az aA aB aC:Value} {aD aE:Option Addr} {aF:Array (Option Value)}
  {aG:Addr} {aH aI aJ aK aL aM:Value} {aN aO:Option Addr} {aP:Array (Option Value)}
  {aQ:Addr} {aR aS aT aU aV aW:Value} {aX aY:Option Addr} {aZ:Array (Option Value)}
  {a0:Addr} {a1 a2 a3 a4 a5 a6:Value} {a7 a8:Option Addr} {a9:Array (Option Value)}
  {ba:Addr} {bb bc bd be bf bg:Value} {bh bi:Option Addr} {bj:Array (Option Value)}
  {bk:Addr} {bl bm bn bo bp bq:Value} {br bs:Option Addr} {bt:Array (Option Value)}
  {bu:Addr} {bv bw bx bz bA bB:Value} {bC bD:Option Addr} {bE:Array (Option Value)}
  {bF:Addr} {bG bH bI bJ bK bL:Value} {bM bN:Option Addr} {bO:Array (Option Value)}
  {bP:Addr} {bQ bR bS bT bU bV:Value} {bW bX:Option Addr} {bY:Array (Option Value)}
  {bZ:Addr} {b0 b1 b2 b3 b4 b5:Value} {b6 b7:Option Addr} {b8:Array (Option Value)}
  {b9:Addr} {ca cb cc cd ce cf:Value} {cg ch:Option Addr} {ci:Array (Option Value)}
  {cj:Addr} {ck cl cm cn co cp:Value} {cq cr:Option Addr} {cs:Array (Option Value)}
  {cu:Addr} {cv cw cx cy cz cA:Value} {cB cC:Option Addr} {cD:Array (Option Value)}
  {cE:Addr} {cF cG cH cI cJ cK:Value} {cL cM:Option Addr} {cN:Array (Option Value)}
  {cO:Addr} {cP cQ cR cS cT cU:Value} {cV cW:Option Addr} {cX:Array (Option Value)}
  {cY:Addr} {cZ c0 c1 c2 c3 c4:Value} {c5 c6:Option Addr} {c7:Array (Option Value)}
  {c8:Addr} {c9 da db dc dd de:Value} {df dg:Option Addr} {dh:Array (Option Value)}
  {di:Addr} {dj dk dl dm dn dp:Value} {dq dr:Option Addr} {ds:Array (Option Value)}
  {dt:Addr} {du dv dw dx dy dz:Value} {dA dB:Option Addr} {dC:Array (Option Value)}
  {dD:Addr} {dE dF dG dH dI dJ:Value} {dK dL:Option Addr} {dM:Array (Option Value)}
  {dN:Addr} {dO dP dQ dR dS dT:Value} {dU dV:Option Addr} {dW:Array (Option Value)}
  {dX:Addr} {dY dZ d0 d1 d2 d3:Value} {d4 d5:Option Addr} {d6:Array (Option Value)}
  {d7:Addr} {d8 d9 ea eb ec ed:Value} {ee ef:Option Addr} {eg:Array (Option Value)}
  {eh:Addr} {ei ej ek el em en:Value} {eo ep:Option Addr} {eq:Array (Option Value)}
  {er:Addr} {es et eu ev ew ey:Value} {ez eA:Option Addr} {eB:Array (Option Value)}
  {eC:Addr} {eD eE eF eG eH eI:Value} {eJ eK:Option Addr} {eL:Array (Option Value)}
  {eM:Addr} {eN eO eP eQ eR eS:Value} {eT eU:Option Addr} {eV:Array (Option Value)}
  {eW:Addr} {eX eY eZ e1 e2 e3:Value} {e4 e5:Option Addr} {e6:Array (Option Value)}
  {e7:Addr} {e8 e9 fb fc fd fe:Value} {ff fg:Option Addr} {fh:Array (Option Value)}
  {fi:Addr} {fj fk fl fm fn fo:Value} {fp fq:Option Addr} {fr:Array (Option Value)}
  {fs:Addr} {ft fu fv fw fx fy:Value} {fz fA:Option Addr} {fB:Array (Option Value)}
  {fC:Addr} {fD fE fF fG fH fI:Value} {fJ fK:Option Addr} {fL:Array (Option Value)}
  {fM:Addr} {fN fO fP fQ fR fS:Value} {fT fU:Option Addr} {fV:Array (Option Value)}
  {fW:Addr} {fX fY fZ f0 f1 f2:Value} {f3 f4:Option Addr} {f5:Array (Option Value)}
  {f6:Addr} {f7 f8 f9 ga gb gc:Value} {gd gf:Option Addr} {gg:Array (Option Value)}
  {gh:Addr} {gi gj gk gl gm gn:Value} {go gp:Option Addr} {gq:Array (Option Value)}
  {gr:Addr} {gs gu gv gw gx gy:Value} {gz gA:Option Addr} {gB:Array (Option Value)}
  {gC:Addr} {gD gE gF gG gH gI:Value} {gJ gK:Option Addr} {gL:Array (Option Value)}
  {gM:Addr} {gN gO gP gQ gR gS:Value} {gT gU:Option Addr} {gV:Array (Option Value)}
  {gW:Addr} {gX gY gZ g0 g1 g2:Value} {g3 g4:Option Addr} {g5:Array (Option Value)}
  {g6:Addr} {g7 g8 g9 hb hc hd:Value} {he hf:Option Addr} {hg:Array (Option Value)}
  {hh:Addr} {hi hj hk hm hn ho:Value} {hp hq:Option Addr} {hr:Array (Option Value)}
  {hs:Addr} {ht hu hv hx hy hz:Value} {hA hB:Option Addr} {hC:Array (Option Value)}
  {hD:Addr} {hE hF hG hH hI hJ:Value} {hK hL:Option Addr} {hM:Array (Option Value)}
  {hN:Addr} {hO hP hQ hR hT hU:Value} {hV hW:Option Addr} {hX:Array (Option Value)}
  {hY:Addr} {hZ h0 h1 h2 h3 h4:Value} {h5 h6:Option Addr} {h7:Array (Option Value)}
  {h8:Addr} {h9 ia ib ic ie ig:Value} {ih ii:Option Addr} {ij:Array (Option Value)}
  {ik:Addr} {il im io ip iq ir:Value} {it iu:Option Addr} {iv:Array (Option Value)}
  {iw:Addr} {ix iy iz iA iB iC:Value} {iD iE:Option Addr} {iF:Array (Option Value)}
  {iG:Addr} {iH iI iJ iK iL iM:Value} {iN iO:Option Addr} {iP:Array (Option Value)}
  {iQ:Addr} {iR iS iT iU iV iW:Value} {iX iY:Option Addr} {iZ:Array (Option Value)}
  {i0:Addr} {i1 i2 i3 i4 i5 i6:Value} {i7 i8:Option Addr} {i9:Array (Option Value)}
  {ja:Addr} {jb jc jd je jf jg:Value} {jh ji:Option Addr} {jj:Array (Option Value)}
  {jk:Addr} {jl jm jn jo jp jq:Value} {jr js:Option Addr} {jt:Array (Option Value)}
  {ju:Addr} {jv jw jx jy jz jA:Value} {jB jC:Option Addr} {jD:Array (Option Value)}
  {jE:Addr} {jF jG jH jI jJ jK:Value} {jL jM:Option Addr} {jN:Array (Option Value)}
  {jO:Addr} {jP jQ jR jS jT jU:Value} {jV jW:Option Addr} {jX:Array (Option Value)}
  {jY:Addr} {jZ j0 j1 j2 j3 j4:Value} {j5 j6:Option Addr} {j7:Array (Option Value)}
  {j8:Addr} {j9 ka kc kd ke kf:Value} {kg kh:Option Addr} {ki:Array (Option Value)}
  {kj:Addr} {kk kl km kn ko kq:Value} {kr ks:Option Addr} {kt:Array (Option Value)}
  {ku:Addr} {kv kw kx ky kz kA:Value} {kB kC:Option Addr} {kD:Array (Option Value)}
  {kE:Addr} {kF kG kH kI kJ kK:Value} {kL kM:Option Addr} {kN:Array (Option Value)}
  {kO:Addr} {kP kQ kR kS kT kU:Value} {kW kX:Option Addr} {kY:Array (Option Value)}
  {kZ:Addr} {k0 k1 k2 k3 k4 k5:Value} {k6 k7:Option Addr} {k8:Array (Option Value)}
  {k9:Addr} {la lb lc ld lf lg:Value} {lh li:Option Addr} {lj:Array (Option Value)}
  {lk:Addr} {ll lm ln lo lp lq:Value} {lr ls:Option Addr} {lu:Array (Option Value)}
  {lv:Addr} {lw lx ly lz lA lB:Value} {lC lD:Option Addr} {lE:Array (Option Value)}
  {lF:Addr} {lG lH lI lJ lK lL:Value} {lM lN:Option Addr} {lO:Array (Option Value)}
  {lP:Addr} {lQ lR lS lT lU lV:Value} {lW lX:Option Addr} {lY:Array (Option Value)}
  {lZ:Addr}
  {l0:Addr}
  {l1:Addr}
  {l2:Addr}
  {l3:Addr}
  {l4:Addr}
  {l5:Addr}
  {l6:Addr}
  {l7:Addr}
  {l8:Addr}
  {l9:Addr}
  {ma:Addr}
  {mb:Addr}
  {mc:Addr}
  {md:Addr}
  {me:Addr}
  {mf:Addr}
  {mh:Addr}
  {mi:Addr}
  {mj:Addr}
  {mk:PySem.ClassData}
  {ml:PySem.ClassData}
  {mm:Tok}
  {mn:Tok}
  {mo:Tok}
  {mp:Tok}
  {mq:Tok}
  {mr:Tok}
  {ms:Tok}
  {mt:Tok}
  {mu:Tok}
  (mv:W.nsIn K mainGlobals "is_any_number" = some (some (.ref aa)))
  (mw:K.lookup aa=some ⟨ab,ah,.func (W.fnOf "is_any_number" "is_any_number" (Zs Vy) (Zq Vy) (Zg Vy) .none ac ad ae ai af ag),aj⟩)
  (mx:W.codeIn K af "is_any_number" = true)
  (my:W.keepIn K (.ref aa)=true)
  (mz:W.nsIn K mainGlobals "is_number" = some (some (.ref ak)))
  (mA:K.lookup ak=some ⟨al,as,.func (W.fnOf "is_number" "is_number" (Zs Vz) (Zq Vz) (Zg Vz) .none am ao ap au aq ar),av⟩)
  (mB:W.codeIn K aq "is_number" = true)
  (mC:W.keepIn K (.ref ak)=true)
  (mD:W.nsIn K mainGlobals "are_rising" = some (some (.ref aw)))
  (mE:K.lookup aw=some ⟨ax,aD,.func (W.fnOf "are_rising" "are_rising" (Zs VA) (Zq VA) (Zg VA) .none ay az aA aE aB aC),aF⟩)
  (mF:W.codeIn K aB "are_rising" = true)
  (mG:W.keepIn K (.ref aw)=true)
  (mH:W.nsIn K mainGlobals "are_figures" = some (some (.ref aG)))
  (mI:K.lookup aG=some ⟨aH,aN,.func (W.fnOf "are_figures" "are_figures" (Zs VB) (Zq VB) (Zg VB) .none aI aJ aK aO aL aM),aP⟩)
  (mJ:W.codeIn K aL "are_figures" = true)
  (mK:W.keepIn K (.ref aG)=true)
  (mL:W.nsIn K mainGlobals "number_by" = some (some (.ref aQ)))
  (mM:K.lookup aQ=some ⟨aR,aX,.func (W.fnOf "number_by" "number_by" (Zs VC) (Zq VC) (Zg VC) .none aS aT aU aY aV aW),aZ⟩)
  (mN:W.codeIn K aV "number_by" = true)
  (mO:W.keepIn K (.ref aQ)=true)
  (mP:W.nsIn K mainGlobals "copy_of" = some (some (.ref a0)))
  (mQ:K.lookup a0=some ⟨a1,a7,.func (W.fnOf "copy_of" "copy_of" (Zs VD) (Zq VD) (Zg VD) .none a2 a3 a4 a8 a5 a6),a9⟩)
  (mR:W.codeIn K a5 "copy_of" = true)
  (mS:W.keepIn K (.ref a0)=true)
  (mT:W.nsIn K mainGlobals "check_size" = some (some (.ref ba)))
  (mU:K.lookup ba=some ⟨bb,bh,.func (W.fnOf "check_size" "check_size" (Zs VE) (Zq VE) (Zg VE) .none bc bd be bi bf bg),bj⟩)
  (mV:W.codeIn K bf "check_size" = true)
  (mW:W.keepIn K (.ref ba)=true)
  (mX:W.nsIn K mainGlobals "list_text" = some (some (.ref bk)))
  (mY:K.lookup bk=some ⟨bl,br,.func (W.fnOf "list_text" "list_text" (Zs VF) (Zq VF) (Zg VF) .none bm bn bo bs bp bq),bt⟩)
  (mZ:W.codeIn K bp "list_text" = true)
  (m0:W.keepIn K (.ref bk)=true)
  (m1:W.nsIn K mainGlobals "rule_text" = some (some (.ref bu)))
  (m2:K.lookup bu=some ⟨bv,bC,.func (W.fnOf "rule_text" "rule_text" (Zs VG) (Zq VG) (Zg VG) .none bw bx bz bD bA bB),bE⟩)
  (m3:W.codeIn K bA "rule_text" = true)
  (m4:W.keepIn K (.ref bu)=true)
  (m5:W.nsIn K mainGlobals "rule_of" = some (some (.ref bF)))
  (m6:K.lookup bF=some ⟨bG,bM,.func (W.fnOf "rule_of" "rule_of" (Zs VH) (Zq VH) (Zg VH) .none bH bI bJ bN bK bL),bO⟩)
  (m7:W.codeIn K bK "rule_of" = true)
  (m8:W.keepIn K (.ref bF)=true)
  (m9:W.nsIn K mainGlobals "rule_from" = some (some (.ref bP)))
  (na:K.lookup bP=some ⟨bQ,bW,.func (W.fnOf "rule_from" "rule_from" (Zs VI) (Zq VI) (Zg VI) .none bR bS bT bX bU bV),bY⟩)
  (nc:W.codeIn K bU "rule_from" = true)
  (nd:W.keepIn K (.ref bP)=true)
  (nf:W.nsIn K mainGlobals "word_from" = some (some (.ref bZ)))
  (ng:K.lookup bZ=some ⟨b0,b6,.func (W.fnOf "word_from" "word_from" (Zs VJ) (Zq VJ) (Zg VJ) .none b1 b2 b3 b7 b4 b5),b8⟩)
  (nh:W.codeIn K b4 "word_from" = true)
  (ni:W.keepIn K (.ref bZ)=true)
  (nj:W.nsIn K mainGlobals "number_from" = some (some (.ref b9)))
  (nk:K.lookup b9=some ⟨ca,cg,.func (W.fnOf "number_from" "number_from" (Zs VL) (Zq VL) (Zg VL) .none cb cc cd ch ce cf),ci⟩)
  (nl:W.codeIn K ce "number_from" = true)
  (nm:W.keepIn K (.ref b9)=true)
  (nn:W.nsIn K mainGlobals "numbers_from" = some (some (.ref cj)))
  (no:K.lookup cj=some ⟨ck,cq,.func (W.fnOf "numbers_from" "numbers_from" (Zs VM) (Zq VM) (Zg VM) .none cl cm cn cr co cp),cs⟩)
  (np:W.codeIn K co "numbers_from" = true)
  (nq:W.keepIn K (.ref cj)=true)
  (nr:W.nsIn K mainGlobals "bits_from" = some (some (.ref cu)))
  (nt:K.lookup cu=some ⟨cv,cB,.func (W.fnOf "bits_from" "bits_from" (Zs VN) (Zq VN) (Zg VN) .none cw cx cy cC cz cA),cD⟩)
  (nu:W.codeIn K cz "bits_from" = true)
  (nv:W.keepIn K (.ref cu)=true)
  (nw:W.nsIn K mainGlobals "_law_cell" = some (some (.ref cE)))
  (nx:K.lookup cE=some ⟨cF,cL,.func (W.fnOf "_law_cell" "_law_cell" (Zs VO) (Zq VO) (Zg VO) .none cG cH cI cM cJ cK),cN⟩)
  (ny:W.codeIn K cJ "_law_cell" = true)
  (nz:W.keepIn K (.ref cE)=true)
  (nA:W.nsIn K mainGlobals "_law_draw" = some (some (.ref cO)))
  (nB:K.lookup cO=some ⟨cP,cV,.func (W.fnOf "_law_draw" "_law_draw" (Zs VP) (Zq VP) (Zg VP) .none cQ cR cS cW cT cU),cX⟩)
  (nC:W.codeIn K cT "_law_draw" = true)
  (nD:W.keepIn K (.ref cO)=true)
  (nE:W.nsIn K mainGlobals "_law_rising" = some (some (.ref cY)))
  (nF:K.lookup cY=some ⟨cZ,c5,.func (W.fnOf "_law_rising" "_law_rising" (Zs VQ) (Zq VQ) (Zg VQ) .none c0 c1 c2 c6 c3 c4),c7⟩)
  (nG:W.codeIn K c3 "_law_rising" = true)
  (nH:W.keepIn K (.ref cY)=true)
  (nI:W.nsIn K mainGlobals "_law_leaf" = some (some (.ref c8)))
  (nJ:K.lookup c8=some ⟨c9,df,.func (W.fnOf "_law_leaf" "_law_leaf" (Zs VR) (Zq VR) (Zg VR) .none da db dc dg dd de),dh⟩)
  (nK:W.codeIn K dd "_law_leaf" = true)
  (nL:W.keepIn K (.ref c8)=true)
  (nM:W.nsIn K mainGlobals "_law_tree" = some (some (.ref di)))
  (nN:K.lookup di=some ⟨dj,dq,.func (W.fnOf "_law_tree" "_law_tree" (Zs VS) (Zq VS) (Zg VS) .none dk dl dm dr dn dp),ds⟩)
  (nO:W.codeIn K dn "_law_tree" = true)
  (nP:W.keepIn K (.ref di)=true)
  (nQ:W.nsIn K mainGlobals "_law_made" = some (some (.ref dt)))
  (nR:K.lookup dt=some ⟨du,dA,.func (W.fnOf "_law_made" "_law_made" (Zs VT) (Zq VT) (Zg VT) .none dv dw dx dB dy dz),dC⟩)
  (nS:W.codeIn K dy "_law_made" = true)
  (nT:W.keepIn K (.ref dt)=true)
  (nU:W.nsIn K mainGlobals "_law_runs" = some (some (.ref dD)))
  (nV:K.lookup dD=some ⟨dE,dK,.func (W.fnOf "_law_runs" "_law_runs" (Zs VU) (Zq VU) (Zg VU) .none dF dG dH dL dI dJ),dM⟩)
  (nW:W.codeIn K dI "_law_runs" = true)
  (nX:W.keepIn K (.ref dD)=true)
  (nY:W.nsIn K mainGlobals "_law_words" = some (some (.ref dN)))
  (nZ:K.lookup dN=some ⟨dO,dU,.func (W.fnOf "_law_words" "_law_words" (Zs VV) (Zq VV) (Zg VV) .none dP dQ dR dV dS dT),dW⟩)
  (n0:W.codeIn K dS "_law_words" = true)
  (n1:W.keepIn K (.ref dN)=true)
  (n2:W.nsIn K mainGlobals "_law_within" = some (some (.ref dX)))
  (n3:K.lookup dX=some ⟨dY,d4,.func (W.fnOf "_law_within" "_law_within" (Zs VW) (Zq VW) (Zg VW) .none dZ d0 d1 d5 d2 d3),d6⟩)
  (n4:W.codeIn K d2 "_law_within" = true)
  (n5:W.keepIn K (.ref dX)=true)
  (n6:W.nsIn K mainGlobals "_law_weight" = some (some (.ref d7)))
  (n7:K.lookup d7=some ⟨d8,ee,.func (W.fnOf "_law_weight" "_law_weight" (Zs VX) (Zq VX) (Zg VX) .none d9 ea eb ef ec ed),eg⟩)
  (n8:W.codeIn K ec "_law_weight" = true)
  (n9:W.keepIn K (.ref d7)=true)
  (oa:W.nsIn K mainGlobals "_law_depth" = some (some (.ref eh)))
  (ob:K.lookup eh=some ⟨ei,eo,.func (W.fnOf "_law_depth" "_law_depth" (Zs VY) (Zq VY) (Zg VY) .none ej ek el ep em en),eq⟩)
  (oe:W.codeIn K em "_law_depth" = true)
  (og:W.keepIn K (.ref eh)=true)
  (oh:W.nsIn K mainGlobals "_law_class" = some (some (.ref er)))
  (oi:K.lookup er=some ⟨es,ez,.func (W.fnOf "_law_class" "_law_class" (Zs VZ) (Zq VZ) (Zg VZ) .none et eu ev eA ew ey),eB⟩)
  (oj:W.codeIn K ew "_law_class" = true)
  (ok:W.keepIn K (.ref er)=true)
  (ol:W.nsIn K mainGlobals "_law_number" = some (some (.ref eC)))
  (om:K.lookup eC=some ⟨eD,eJ,.func (W.fnOf "_law_number" "_law_number" (Zs V0) (Zq V0) (Zg V0) .none eE eF eG eK eH eI),eL⟩)
  (on:W.codeIn K eH "_law_number" = true)
  (oo:W.keepIn K (.ref eC)=true)
  (op:W.nsIn K mainGlobals "_law_list" = some (some (.ref eM)))
  (oq:K.lookup eM=some ⟨eN,eT,.func (W.fnOf "_law_list" "_law_list" (Zs V2) (Zq V2) (Zg V2) .none eO eP eQ eU eR eS),eV⟩)
  (os:W.codeIn K eR "_law_list" = true)
  (ot:W.keepIn K (.ref eM)=true)
  (ou:W.nsIn K mainGlobals "_law_leaf_read" = some (some (.ref eW)))
  (ov:K.lookup eW=some ⟨eX,e4,.func (W.fnOf "_law_leaf_read" "_law_leaf_read" (Zs V3) (Zq V3) (Zg V3) .none eY eZ e1 e5 e2 e3),e6⟩)
  (ow:W.codeIn K e2 "_law_leaf_read" = true)
  (ox:W.keepIn K (.ref eW)=true)
  (oy:W.nsIn K mainGlobals "_law_within_read" = some (some (.ref e7)))
  (oz:K.lookup e7=some ⟨e8,ff,.func (W.fnOf "_law_within_read" "_law_within_read" (Zs V4) (Zq V4) (Zg V4) .none e9 fb fc fg fd fe),fh⟩)
  (oA:W.codeIn K fd "_law_within_read" = true)
  (oB:W.keepIn K (.ref e7)=true)
  (oC:W.nsIn K mainGlobals "_law_read" = some (some (.ref fi)))
  (oD:K.lookup fi=some ⟨fj,fp,.func (W.fnOf "_law_read" "_law_read" (Zs V5) (Zq V5) (Zg V5) .none fk fl fm fq fn fo),fr⟩)
  (oE:W.codeIn K fn "_law_read" = true)
  (oF:W.keepIn K (.ref fi)=true)
  (oG:W.nsIn K mainGlobals "_law_due" = some (some (.ref fs)))
  (oH:K.lookup fs=some ⟨ft,fz,.func (W.fnOf "_law_due" "_law_due" (Zs V6) (Zq V6) (Zg V6) .none fu fv fw fA fx fy),fB⟩)
  (oI:W.codeIn K fx "_law_due" = true)
  (oJ:W.keepIn K (.ref fs)=true)
  (oK:W.nsIn K mainGlobals "_law_told" = some (some (.ref fC)))
  (oL:K.lookup fC=some ⟨fD,fJ,.func (W.fnOf "_law_told" "_law_told" (Zs V7) (Zq V7) (Zg V7) .none fE fF fG fK fH fI),fL⟩)
  (oM:W.codeIn K fH "_law_told" = true)
  (oN:W.keepIn K (.ref fC)=true)
  (oO:W.nsIn K mainGlobals "_law_alike" = some (some (.ref fM)))
  (oP:K.lookup fM=some ⟨fN,fT,.func (W.fnOf "_law_alike" "_law_alike" (Zs V8) (Zq V8) (Zg V8) .none fO fP fQ fU fR fS),fV⟩)
  (oQ:W.codeIn K fR "_law_alike" = true)
  (oR:W.keepIn K (.ref fM)=true)
  (oS:W.nsIn K mainGlobals "_law_changed" = some (some (.ref fW)))
  (oT:K.lookup fW=some ⟨fX,f3,.func (W.fnOf "_law_changed" "_law_changed" (Zs V9) (Zq V9) (Zg V9) .none fY fZ f0 f4 f1 f2),f5⟩)
  (oU:W.codeIn K f1 "_law_changed" = true)
  (oV:W.keepIn K (.ref fW)=true)
  (oW:W.nsIn K mainGlobals "law" = some (some (.ref f6)))
  (oX:K.lookup f6=some ⟨f7,gd,.func (W.fnOf "law" "law" (Zs Ua) (Zq Ua) (Zg Ua) .none f8 f9 ga gf gb gc),gg⟩)
  (oY:W.codeIn K gb "law" = true)
  (oZ:W.keepIn K (.ref f6)=true)
  (o0:W.nsIn K mainGlobals "RoadError" = some (some (.ref lZ)))
  (o1:W.nsIn K mainGlobals "BadClock" = some (some (.ref l0)))
  (o2:W.nsIn K mainGlobals "BadRule" = some (some (.ref l1)))
  (o3:W.nsIn K mainGlobals "TooMany" = some (some (.ref l2)))
  (o4:W.nsIn K mainGlobals "BadName" = some (some (.ref l3)))
  (o5:W.nsIn K mainGlobals "Twice" = some (some (.ref l4)))
  (o6:W.nsIn K mainGlobals "NoStop" = some (some (.ref l5)))
  (o7:W.nsIn K mainGlobals "BadNumber" = some (some (.ref l6)))
  (o8:W.nsIn K mainGlobals "BadCalls" = some (some (.ref l7)))
  (o9:W.nsIn K mainGlobals "NoRun" = some (some (.ref l8)))
  (pa:W.nsIn K mainGlobals "TooLate" = some (some (.ref l9)))
  (pb:W.nsIn K mainGlobals "NoTraveller" = some (some (.ref ma)))
  (pc:W.nsIn K mainGlobals "BadLine" = some (some (.ref mb)))
  (pd:W.nsIn K mainGlobals "Rule" = some (some (.ref mc)))
  (pe:W.nsIn K mainGlobals "Week" = some (some (.ref md)))
  (pf:W.nsIn K mainGlobals "Span" = some (some (.ref me)))
  (pg:W.nsIn K mainGlobals "Each" = some (some (.ref mf)))
  (ph:W.nsIn K mainGlobals "Either" = some (some (.ref mh)))
  (pi:W.nsIn K mainGlobals "Both" = some (some (.ref mi)))
  (pj:W.nsIn K mainGlobals "But" = some (some (.ref mj)))
  (pk:W.findIn K (.ref mc) "copied" = some (some (.ref gh)))
  (pl:W.isFn K (.ref gh)=true)
  (pn:K.lookup gh=some ⟨gi,go,.func (W.fnOf "copied" "Rule.copied" (Zs Ub) (Zq Ub) (Zg Ub) .none gj gk gl gp gm gn),gq⟩)
  (po:W.codeIn K gm "Rule.copied" = true)
  (pp:W.keepIn K (.ref gh)=true)
  (pq:W.findIn K (.ref mc) "parts" = some (some (.ref gr)))
  (pr:W.isFn K (.ref gr)=true)
  (pt:K.lookup gr=some ⟨gs,gz,.func (W.fnOf "parts" "Rule.parts" (Zs Uc) (Zq Uc) (Zg Uc) .none gu gv gw gA gx gy),gB⟩)
  (pu:W.codeIn K gx "Rule.parts" = true)
  (pv:W.keepIn K (.ref gr)=true)
  (pw:W.findIn K (.ref mc) "runs" = some (some (.ref gC)))
  (px:W.isFn K (.ref gC)=true)
  (py:K.lookup gC=some ⟨gD,gJ,.func (W.fnOf "runs" "Rule.runs" (Zs Ud) (Zq Ud) (Zg Ud) .none gE gF gG gK gH gI),gL⟩)
  (pz:W.codeIn K gH "Rule.runs" = true)
  (pA:W.keepIn K (.ref gC)=true)
  (pB:W.findIn K (.ref mc) "words" = some (some (.ref gM)))
  (pC:W.isFn K (.ref gM)=true)
  (pD:K.lookup gM=some ⟨gN,gT,.func (W.fnOf "words" "Rule.words" (Zs Ue) (Zq Ue) (Zg Ue) .none gO gP gQ gU gR gS),gV⟩)
  (pE:W.codeIn K gR "Rule.words" = true)
  (pF:W.keepIn K (.ref gM)=true)
  (pG:W.findIn K (.ref mc) "weight" = some (some (.ref gW)))
  (pH:W.isFn K (.ref gW)=true)
  (pI:K.lookup gW=some ⟨gX,g3,.func (W.fnOf "weight" "Rule.weight" (Zs Uf) (Zq Uf) (Zg Uf) .none gY gZ g0 g4 g1 g2),g5⟩)
  (pJ:W.codeIn K g1 "Rule.weight" = true)
  (pK:W.keepIn K (.ref gW)=true)
  (pL:W.findIn K (.ref mc) "depth" = some (some (.ref g6)))
  (pM:W.isFn K (.ref g6)=true)
  (pN:K.lookup g6=some ⟨g7,he,.func (W.fnOf "depth" "Rule.depth" (Zs Ug) (Zq Ug) (Zg Ug) .none g8 g9 hb hf hc hd),hg⟩)
  (pO:W.codeIn K hc "Rule.depth" = true)
  (pP:W.keepIn K (.ref g6)=true)
  (pQ:W.findIn K (.ref md) "__init__" = some (some (.ref hh)))
  (pR:W.isFn K (.ref hh)=true)
  (pS:K.lookup hh=some ⟨hi,hp,.func (W.fnOf "__init__" "Week.__init__" (Zs Uh) (Zq Uh) (Zg Uh) .none hj hk hm hq hn ho),hr⟩)
  (pT:W.codeIn K hn "Week.__init__" = true)
  (pU:W.keepIn K (.ref hh)=true)
  (pV:W.findIn K (.ref md) "copied" = some (some (.ref hs)))
  (pW:W.isFn K (.ref hs)=true)
  (pX:K.lookup hs=some ⟨ht,hA,.func (W.fnOf "copied" "Week.copied" (Zs Ui) (Zq Ui) (Zg Ui) .none hu hv hx hB hy hz),hC⟩)
  (pY:W.codeIn K hy "Week.copied" = true)
  (pZ:W.keepIn K (.ref hs)=true)
  (p0:W.findIn K (.ref md) "runs" = some (some (.ref hD)))
  (p1:W.isFn K (.ref hD)=true)
  (p2:K.lookup hD=some ⟨hE,hK,.func (W.fnOf "runs" "Week.runs" (Zs Uj) (Zq Uj) (Zg Uj) .none hF hG hH hL hI hJ),hM⟩)
  (p3:W.codeIn K hI "Week.runs" = true)
  (p4:W.keepIn K (.ref hD)=true)
  (p5:W.findIn K (.ref md) "words" = some (some (.ref hN)))
  (p6:W.isFn K (.ref hN)=true)
  (p7:K.lookup hN=some ⟨hO,hV,.func (W.fnOf "words" "Week.words" (Zs Uk) (Zq Uk) (Zg Uk) .none hP hQ hR hW hT hU),hX⟩)
  (p8:W.codeIn K hT "Week.words" = true)
  (p9:W.keepIn K (.ref hN)=true)
  (qa:W.findIn K (.ref me) "__init__" = some (some (.ref hY)))
  (qb:W.isFn K (.ref hY)=true)
  (qc:K.lookup hY=some ⟨hZ,h5,.func (W.fnOf "__init__" "Span.__init__" (Zs Ul) (Zq Ul) (Zg Ul) .none h0 h1 h2 h6 h3 h4),h7⟩)
  (qd:W.codeIn K h3 "Span.__init__" = true)
  (qe:W.keepIn K (.ref hY)=true)
  (qf:W.findIn K (.ref me) "copied" = some (some (.ref h8)))
  (qg:W.isFn K (.ref h8)=true)
  (qh:K.lookup h8=some ⟨h9,ih,.func (W.fnOf "copied" "Span.copied" (Zs Um) (Zq Um) (Zg Um) .none ia ib ic ii ie ig),ij⟩)
  (qi:W.codeIn K ie "Span.copied" = true)
  (qj:W.keepIn K (.ref h8)=true)
  (qk:W.findIn K (.ref me) "parts" = some (some (.ref ik)))
  (ql:W.isFn K (.ref ik)=true)
  (qm:K.lookup ik=some ⟨il,it,.func (W.fnOf "parts" "Span.parts" (Zs Uo) (Zq Uo) (Zg Uo) .none im io ip iu iq ir),iv⟩)
  (qn:W.codeIn K iq "Span.parts" = true)
  (qo:W.keepIn K (.ref ik)=true)
  (qp:W.findIn K (.ref me) "runs" = some (some (.ref iw)))
  (qq:W.isFn K (.ref iw)=true)
  (qr:K.lookup iw=some ⟨ix,iD,.func (W.fnOf "runs" "Span.runs" (Zs Up) (Zq Up) (Zg Up) .none iy iz iA iE iB iC),iF⟩)
  (qs:W.codeIn K iB "Span.runs" = true)
  (qt:W.keepIn K (.ref iw)=true)
  (qu:W.findIn K (.ref me) "words" = some (some (.ref iG)))
  (qv:W.isFn K (.ref iG)=true)
  (qw:K.lookup iG=some ⟨iH,iN,.func (W.fnOf "words" "Span.words" (Zs Uq) (Zq Uq) (Zg Uq) .none iI iJ iK iO iL iM),iP⟩)
  (qx:W.codeIn K iL "Span.words" = true)
  (qy:W.keepIn K (.ref iG)=true)
  (qz:W.findIn K (.ref mf) "__init__" = some (some (.ref iQ)))
  (qA:W.isFn K (.ref iQ)=true)
  (qB:K.lookup iQ=some ⟨iR,iX,.func (W.fnOf "__init__" "Each.__init__" (Zs Ur) (Zq Ur) (Zg Ur) .none iS iT iU iY iV iW),iZ⟩)
  (qC:W.codeIn K iV "Each.__init__" = true)
  (qD:W.keepIn K (.ref iQ)=true)
  (qE:W.findIn K (.ref mf) "copied" = some (some (.ref i0)))
  (qF:W.isFn K (.ref i0)=true)
  (qG:K.lookup i0=some ⟨i1,i7,.func (W.fnOf "copied" "Each.copied" (Zs Us) (Zq Us) (Zg Us) .none i2 i3 i4 i8 i5 i6),i9⟩)
  (qH:W.codeIn K i5 "Each.copied" = true)
  (qI:W.keepIn K (.ref i0)=true)
  (qJ:W.findIn K (.ref mf) "runs" = some (some (.ref ja)))
  (qK:W.isFn K (.ref ja)=true)
  (qL:K.lookup ja=some ⟨jb,jh,.func (W.fnOf "runs" "Each.runs" (Zs Ut) (Zq Ut) (Zg Ut) .none jc jd je ji jf jg),jj⟩)
  (qM:W.codeIn K jf "Each.runs" = true)
  (qN:W.keepIn K (.ref ja)=true)
  (qO:W.findIn K (.ref mf) "words" = some (some (.ref jk)))
  (qP:W.isFn K (.ref jk)=true)
  (qQ:K.lookup jk=some ⟨jl,jr,.func (W.fnOf "words" "Each.words" (Zs Uu) (Zq Uu) (Zg Uu) .none jm jn jo js jp jq),jt⟩)
  (qR:W.codeIn K jp "Each.words" = true)
  (qS:W.keepIn K (.ref jk)=true)
  (qT:W.findIn K (.ref mh) "__init__" = some (some (.ref ju)))
  (qU:W.isFn K (.ref ju)=true)
  (qV:K.lookup ju=some ⟨jv,jB,.func (W.fnOf "__init__" "Either.__init__" (Zs Uv) (Zq Uv) (Zg Uv) .none jw jx jy jC jz jA),jD⟩)
  (qW:W.codeIn K jz "Either.__init__" = true)
  (qX:W.keepIn K (.ref ju)=true)
  (qY:W.findIn K (.ref mh) "copied" = some (some (.ref jE)))
  (qZ:W.isFn K (.ref jE)=true)
  (q0:K.lookup jE=some ⟨jF,jL,.func (W.fnOf "copied" "Either.copied" (Zs Uw) (Zq Uw) (Zg Uw) .none jG jH jI jM jJ jK),jN⟩)
  (q1:W.codeIn K jJ "Either.copied" = true)
  (q2:W.keepIn K (.ref jE)=true)
  (q3:W.findIn K (.ref mh) "parts" = some (some (.ref jO)))
  (q4:W.isFn K (.ref jO)=true)
  (q5:K.lookup jO=some ⟨jP,jV,.func (W.fnOf "parts" "Either.parts" (Zs Ux) (Zq Ux) (Zg Ux) .none jQ jR jS jW jT jU),jX⟩)
  (q6:W.codeIn K jT "Either.parts" = true)
  (q7:W.keepIn K (.ref jO)=true)
  (q8:W.findIn K (.ref mh) "runs" = some (some (.ref jY)))
  (q9:W.isFn K (.ref jY)=true)
  (ra:K.lookup jY=some ⟨jZ,j5,.func (W.fnOf "runs" "Either.runs" (Zs Uy) (Zq Uy) (Zg Uy) .none j0 j1 j2 j6 j3 j4),j7⟩)
  (rb:W.codeIn K j3 "Either.runs" = true)
  (rc:W.keepIn K (.ref jY)=true)
  (rd:W.findIn K (.ref mh) "words" = some (some (.ref j8)))
  (re:W.isFn K (.ref j8)=true)
  (rf:K.lookup j8=some ⟨j9,kg,.func (W.fnOf "words" "Either.words" (Zs Uz) (Zq Uz) (Zg Uz) .none ka kc kd kh ke kf),ki⟩)
  (rg:W.codeIn K ke "Either.words" = true)
  (rh:W.keepIn K (.ref j8)=true)
  (ri:W.findIn K (.ref mi) "__init__" = some (some (.ref kj)))
  (rj:W.isFn K (.ref kj)=true)
  (rk:K.lookup kj=some ⟨kk,kr,.func (W.fnOf "__init__" "Both.__init__" (Zs UA) (Zq UA) (Zg UA) .none kl km kn ks ko kq),kt⟩)
  (rl:W.codeIn K ko "Both.__init__" = true)
  (rm:W.keepIn K (.ref kj)=true)
  (rn:W.findIn K (.ref mi) "copied" = some (some (.ref ku)))
  (ro:W.isFn K (.ref ku)=true)
  (rp:K.lookup ku=some ⟨kv,kB,.func (W.fnOf "copied" "Both.copied" (Zs UB) (Zq UB) (Zg UB) .none kw kx ky kC kz kA),kD⟩)
  (rq:W.codeIn K kz "Both.copied" = true)
  (rr:W.keepIn K (.ref ku)=true)
  (rs:W.findIn K (.ref mi) "parts" = some (some (.ref kE)))
  (rt:W.isFn K (.ref kE)=true)
  (ru:K.lookup kE=some ⟨kF,kL,.func (W.fnOf "parts" "Both.parts" (Zs UC) (Zq UC) (Zg UC) .none kG kH kI kM kJ kK),kN⟩)
  (rv:W.codeIn K kJ "Both.parts" = true)
  (rx:W.keepIn K (.ref kE)=true)
  (ry:W.findIn K (.ref mi) "runs" = some (some (.ref kO)))
  (rz:W.isFn K (.ref kO)=true)
  (rA:K.lookup kO=some ⟨kP,kW,.func (W.fnOf "runs" "Both.runs" (Zs UD) (Zq UD) (Zg UD) .none kQ kR kS kX kT kU),kY⟩)
  (rB:W.codeIn K kT "Both.runs" = true)
  (rC:W.keepIn K (.ref kO)=true)
  (rD:W.findIn K (.ref mi) "words" = some (some (.ref kZ)))
  (rE:W.isFn K (.ref kZ)=true)
  (rF:K.lookup kZ=some ⟨k0,k6,.func (W.fnOf "words" "Both.words" (Zs UE) (Zq UE) (Zg UE) .none k1 k2 k3 k7 k4 k5),k8⟩)
  (rG:W.codeIn K k4 "Both.words" = true)
  (rH:W.keepIn K (.ref kZ)=true)
  (rI:W.findIn K (.ref mj) "__init__" = some (some (.ref k9)))
  (rJ:W.isFn K (.ref k9)=true)
  (rK:K.lookup k9=some ⟨la,lh,.func (W.fnOf "__init__" "But.__init__" (Zs UF) (Zq UF) (Zg UF) .none lb lc ld li lf lg),lj⟩)
  (rL:W.codeIn K lf "But.__init__" = true)
  (rM:W.keepIn K (.ref k9)=true)
  (rN:W.findIn K (.ref mj) "copied" = some (some (.ref lk)))
  (rO:W.isFn K (.ref lk)=true)
  (rP:K.lookup lk=some ⟨ll,lr,.func (W.fnOf "copied" "But.copied" (Zs UG) (Zq UG) (Zg UG) .none lm ln lo ls lp lq),lu⟩)
  (rQ:W.codeIn K lp "But.copied" = true)
  (rR:W.keepIn K (.ref lk)=true)
  (rS:W.findIn K (.ref mj) "parts" = some (some (.ref lv)))
  (rT:W.isFn K (.ref lv)=true)
  (rU:K.lookup lv=some ⟨lw,lC,.func (W.fnOf "parts" "But.parts" (Zs UH) (Zq UH) (Zg UH) .none lx ly lz lD lA lB),lE⟩)
  (rV:W.codeIn K lA "But.parts" = true)
  (rW:W.keepIn K (.ref lv)=true)
  (rX:W.findIn K (.ref mj) "runs" = some (some (.ref lF)))
  (rY:W.isFn K (.ref lF)=true)
  (rZ:K.lookup lF=some ⟨lG,lM,.func (W.fnOf "runs" "But.runs" (Zs UI) (Zq UI) (Zg UI) .none lH lI lJ lN lK lL),lO⟩)
  (r0:W.codeIn K lK "But.runs" = true)
  (r1:W.keepIn K (.ref lF)=true)
  (r2:W.findIn K (.ref mj) "words" = some (some (.ref lP)))
  (r3:W.isFn K (.ref lP)=true)
  (r4:K.lookup lP=some ⟨lQ,lW,.func (W.fnOf "words" "But.words" (Zs UJ) (Zq UJ) (Zg UJ) .none lR lS lT lX lU lV),lY⟩)
  (r5:W.codeIn K lU "But.words" = true)
  (r6:W.keepIn K (.ref lP)=true)
  (r7:W.plainGet K mc Str.empty=true)
  (r8:W.hasDictIn K mc=true)
  (r9:W.plainOver K mc=true)
  (sa:W.findIn K (.ref mc) "__setattr__" = some (some (.builtin "object.__setattr__")))
  (sb:W.makesIn K mc=true)
  (sc:W.keepIn K (.ref mc)=true)
  (sd:W.findIn K (.ref mc) "__init__" = some (some (.builtin "object.__init__")))
  (se:W.plainGet K md Str.empty=true)
  (sf:W.hasDictIn K md=true)
  (sg:W.plainOver K md=true)
  (sh:W.findIn K (.ref md) "__setattr__" = some (some (.builtin "object.__setattr__")))
  (si:W.makesIn K md=true)
  (sj:W.keepIn K (.ref md)=true)
  (sk:W.findIn K (.ref md) "depth" = some (some (.ref g6)))
  (sl:W.findIn K (.ref md) "parts" = some (some (.ref gr)))
  (sm:W.findIn K (.ref md) "weight" = some (some (.ref gW)))
  (sn:W.findIn K (.ref md) "bits" = some none)
  (so:W.plainGet K me Str.empty=true)
  (sq:W.hasDictIn K me=true)
  (sr:W.plainOver K me=true)
  (ss:W.findIn K (.ref me) "__setattr__" = some (some (.builtin "object.__setattr__")))
  (su:W.makesIn K me=true)
  (sv:W.keepIn K (.ref me)=true)
  (sw:W.findIn K (.ref me) "depth" = some (some (.ref g6)))
  (sx:W.findIn K (.ref me) "weight" = some (some (.ref gW)))
  (sy:W.findIn K (.ref me) "first" = some none)
  (sz:W.findIn K (.ref me) "last" = some none)
  (sA:W.findIn K (.ref me) "inner" = some none)
  (sB:W.plainGet K mf Str.empty=true)
  (sC:W.hasDictIn K mf=true)
  (sD:W.plainOver K mf=true)
  (sE:W.findIn K (.ref mf) "__setattr__" = some (some (.builtin "object.__setattr__")))
  (sF:W.makesIn K mf=true)
  (sG:W.keepIn K (.ref mf)=true)
  (sH:W.findIn K (.ref mf) "depth" = some (some (.ref g6)))
  (sI:W.findIn K (.ref mf) "parts" = some (some (.ref gr)))
  (sJ:W.findIn K (.ref mf) "weight" = some (some (.ref gW)))
  (sK:W.findIn K (.ref mf) "length" = some none)
  (sL:W.findIn K (.ref mf) "starts" = some none)
  (sM:W.plainGet K mh Str.empty=true)
  (sN:W.hasDictIn K mh=true)
  (sO:W.plainOver K mh=true)
  (sP:W.findIn K (.ref mh) "__setattr__" = some (some (.builtin "object.__setattr__")))
  (sQ:W.makesIn K mh=true)
  (sR:W.keepIn K (.ref mh)=true)
  (sS:W.findIn K (.ref mh) "depth" = some (some (.ref g6)))
  (sT:W.findIn K (.ref mh) "weight" = some (some (.ref gW)))
  (sU:W.findIn K (.ref mh) "one" = some none)
  (sV:W.findIn K (.ref mh) "other" = some none)
  (sW:W.plainGet K mi Str.empty=true)
  (sX:W.hasDictIn K mi=true)
  (sY:W.plainOver K mi=true)
  (sZ:W.findIn K (.ref mi) "__setattr__" = some (some (.builtin "object.__setattr__")))
  (s0:W.makesIn K mi=true)
  (s1:W.keepIn K (.ref mi)=true)
  (s2:W.findIn K (.ref mi) "depth" = some (some (.ref g6)))
  (s3:W.findIn K (.ref mi) "weight" = some (some (.ref gW)))
  (s4:W.findIn K (.ref mi) "one" = some none)
  (s5:W.findIn K (.ref mi) "other" = some none)
  (s6:W.plainGet K mj Str.empty=true)
  (s7:W.hasDictIn K mj=true)
  (s8:W.plainOver K mj=true)
  (s9:W.findIn K (.ref mj) "__setattr__" = some (some (.builtin "object.__setattr__")))
  (ta:W.makesIn K mj=true)
  (tb:W.keepIn K (.ref mj)=true)
  (tc:W.findIn K (.ref mj) "depth" = some (some (.ref g6)))
  (td:W.findIn K (.ref mj) "weight" = some (some (.ref gW)))
  (te:W.findIn K (.ref mj) "days" = some none)
  (tf:W.findIn K (.ref mj) "inner" = some none)
  (tg:W.findIn K (.ref mc) "__class__" = some (some (.builtin "object.__class__")))
  (th:W.specialIn K (.builtin "object.__class__") "__get__" = some (some (.builtin "getset_descriptor.__get__")))
  (ti:W.takesIn K (.builtin "object.__class__")=some true)
  (tj:W.mroIn K mc (.type "object")=some true)
  (tk:W.kitOne K (.ref mc) (.ref mc)=some true)
  (tl:W.findIn K (.ref md) "__class__" = some (some (.builtin "object.__class__")))
  (tm:W.specialIn K (.builtin "object.__class__") "__get__" = some (some (.builtin "getset_descriptor.__get__")))
  (tn:W.takesIn K (.builtin "object.__class__")=some true)
  (tp:W.mroIn K md (.type "object")=some true)
  (tq:W.kitOne K (.ref md) (.ref mc)=some true)
  (tr:W.findIn K (.ref me) "__class__" = some (some (.builtin "object.__class__")))
  (ts:W.specialIn K (.builtin "object.__class__") "__get__" = some (some (.builtin "getset_descriptor.__get__")))
  (tt:W.takesIn K (.builtin "object.__class__")=some true)
  (tu:W.mroIn K me (.type "object")=some true)
  (tv:W.kitOne K (.ref me) (.ref mc)=some true)
  (tw:W.findIn K (.ref mf) "__class__" = some (some (.builtin "object.__class__")))
  (tx:W.specialIn K (.builtin "object.__class__") "__get__" = some (some (.builtin "getset_descriptor.__get__")))
  (ty:W.takesIn K (.builtin "object.__class__")=some true)
  (tz:W.mroIn K mf (.type "object")=some true)
  (tA:W.kitOne K (.ref mf) (.ref mc)=some true)
  (tB:W.findIn K (.ref mh) "__class__" = some (some (.builtin "object.__class__")))
  (tC:W.specialIn K (.builtin "object.__class__") "__get__" = some (some (.builtin "getset_descriptor.__get__")))
  (tD:W.takesIn K (.builtin "object.__class__")=some true)
  (tE:W.mroIn K mh (.type "object")=some true)
  (tF:W.kitOne K (.ref mh) (.ref mc)=some true)
  (tG:W.findIn K (.ref mi) "__class__" = some (some (.builtin "object.__class__")))
  (tH:W.specialIn K (.builtin "object.__class__") "__get__" = some (some (.builtin "getset_descriptor.__get__")))
  (tI:W.takesIn K (.builtin "object.__class__")=some true)
  (tJ:W.mroIn K mi (.type "object")=some true)
  (tK:W.kitOne K (.ref mi) (.ref mc)=some true)
  (tL:W.findIn K (.ref mj) "__class__" = some (some (.builtin "object.__class__")))
  (tM:W.specialIn K (.builtin "object.__class__") "__get__" = some (some (.builtin "getset_descriptor.__get__")))
  (tN:W.takesIn K (.builtin "object.__class__")=some true)
  (tO:W.mroIn K mj (.type "object")=some true)
  (tP:W.kitOne K (.ref mj) (.ref mc)=some true)
  (tQ:W.kitOne K (.type "NoneType") (.ref mc)=some false)
  (tR:W.kitOne K (.type "str") (.ref mc)=some false)
  (tS:W.kitOne K (.type "int") (.ref mc)=some false)
  (tT:W.kitOne K (.type "list") (.ref mc)=some false)
  (tU:W.kitOne K (.type "dict") (.ref mc)=some false)
  (tV:W.kitOne K (.type "bool") (.ref mc)=some false)
  (tW:W.excIn K l1 [.type "ValueError",.type "Exception",.type "BaseException",.type "object"] "ValueError.__new__" = true)
  (tX:W.clsIn K l1=some mk)
  (tY:W.findIn K (.ref l1) "__getattribute__" = some (some (.builtin "BaseException.__getattribute__")))
  (tZ:W.findIn K (.ref l1) "__getattr__" = some none)
  (t0:W.findIn K (.ref l1) "__class__" = some (some (.builtin "object.__class__")))
  (t1:W.mroIn K l1 (.type "object")=some true)
  (t2:W.mroIn K l1 (.type "BaseException")=some true)
  (t3:W.specialIn K (.builtin "object.__class__") "__get__" = some (some (.builtin "getset_descriptor.__get__")))
  (t4:W.takesIn K (.builtin "object.__class__")=some true)
  (t5:W.kitOne K (.ref l1) (.ref l0)=some false)
  (t6:W.kitOne K (.ref l1) (.ref l1)=some true)
  (t7:W.kitOne K (.ref l1) (.ref l2)=some false)
  (t8:W.kitOne K (.ref l1) (.ref l3)=some false)
  (t9:W.kitOne K (.ref l1) (.ref l4)=some false)
  (ua:W.kitOne K (.ref l1) (.ref l5)=some false)
  (ub:W.kitOne K (.ref l1) (.ref l6)=some false)
  (uc:W.kitOne K (.ref l1) (.ref l7)=some false)
  (ud:W.kitOne K (.ref l1) (.ref l8)=some false)
  (ue:W.kitOne K (.ref l1) (.ref l9)=some false)
  (uf:W.kitOne K (.ref l1) (.ref ma)=some false)
  (ug:W.kitOne K (.ref l1) (.ref mb)=some false)
  (uh:W.kitOne K (.ref l1) (.type "ValueError")=some true)
  (ui:W.exmOne K (.ref l1) (.ref lZ)=some true)
  (uj:W.excIn K l2 [.type "ValueError",.type "Exception",.type "BaseException",.type "object"] "ValueError.__new__" = true)
  (uk:W.clsIn K l2=some ml)
  (ul:W.findIn K (.ref l2) "__getattribute__" = some (some (.builtin "BaseException.__getattribute__")))
  (um:W.findIn K (.ref l2) "__getattr__" = some none)
  (un:W.findIn K (.ref l2) "__class__" = some (some (.builtin "object.__class__")))
  (uo:W.mroIn K l2 (.type "object")=some true)
  (up:W.mroIn K l2 (.type "BaseException")=some true)
  (uq:W.specialIn K (.builtin "object.__class__") "__get__" = some (some (.builtin "getset_descriptor.__get__")))
  (ur:W.takesIn K (.builtin "object.__class__")=some true)
  (ut:W.kitOne K (.ref l2) (.ref l0)=some false)
  (uu:W.kitOne K (.ref l2) (.ref l1)=some false)
  (uv:W.kitOne K (.ref l2) (.ref l2)=some true)
  (uw:W.kitOne K (.ref l2) (.ref l3)=some false)
  (ux:W.kitOne K (.ref l2) (.ref l4)=some false)
  (uy:W.kitOne K (.ref l2) (.ref l5)=some false)
  (uz:W.kitOne K (.ref l2) (.ref l6)=some false)
  (uA:W.kitOne K (.ref l2) (.ref l7)=some false)
  (uB:W.kitOne K (.ref l2) (.ref l8)=some false)
  (uC:W.kitOne K (.ref l2) (.ref l9)=some false)
  (uD:W.kitOne K (.ref l2) (.ref ma)=some false)
  (uE:W.kitOne K (.ref l2) (.ref mb)=some false)
  (uF:W.kitOne K (.ref l2) (.type "ValueError")=some true)
  (uG:W.exmOne K (.ref l2) (.ref lZ)=some true)
  (uH:W.exmOne K (.ref l2) (.ref l2)=some true)
  (uI:W.exmOne K (.ref l1) (.ref l2)=some false)
  (uJ:W.nsIn K mainGlobals "ValueError" = some none)
  (uK:W.nsIn K mainGlobals "all" = some none)
  (uL:W.nsIn K mainGlobals "bool" = some none)
  (uM:W.nsIn K mainGlobals "enumerate" = some none)
  (uN:W.nsIn K mainGlobals "int" = some none)
  (uO:W.nsIn K mainGlobals "isinstance" = some none)
  (uP:W.nsIn K mainGlobals "len" = some none)
  (uQ:W.nsIn K mainGlobals "list" = some none)
  (uR:W.nsIn K mainGlobals "max" = some none)
  (uS:W.nsIn K mainGlobals "min" = some none)
  (uT:W.nsIn K mainGlobals "range" = some none)
  (uU:W.nsIn K mainGlobals "reversed" = some none)
  (uV:W.nsIn K mainGlobals "set" = some none)
  (uW:W.nsIn K mainGlobals "sorted" = some none)
  (uX:W.nsIn K mainGlobals "str" = some none)
  (uY:W.nsIn K mainGlobals "sum" = some none)
  (uZ:W.nsIn K mainGlobals "tuple" = some none)
  (u0:W.nsIn K mainGlobals "FIGURES" = some (some (.str (Str.ofString "0123456789") mm)))
  (u1:W.nsIn K mainGlobals "MOST_FIGURES" = some (some (.int 5 mn)))
  (u2:W.nsIn K mainGlobals "LAST_DAY" = some (some (.int 9999 mo)))
  (u3:W.nsIn K mainGlobals "WEEK_DAYS" = some (some (.int 7 mp)))
  (u4:W.nsIn K mainGlobals "ALL_WEEK" = some (some (.int 127 mq)))
  (u5:W.nsIn K mainGlobals "MOST_LENGTH" = some (some (.int 28 mr)))
  (u6:W.nsIn K mainGlobals "MOST_LISTED" = some (some (.int 12 ms)))
  (u7:W.nsIn K mainGlobals "MOST_WEIGHT" = some (some (.int 15 mt)))
  (u8:W.nsIn K mainGlobals "MOST_DEPTH" = some (some (.int 8 mu)))
  : ∃ t:YX,ZD K mg t:=by
 have u9:=ZS (st:=Vy) mw mx my
 have va:=u9.binds (ps:=["value"]) fun _ _ _ _ _ _=>fun us hl=>match us,hl with | [_],_=>rfl
 have vb:=ZS (st:=Vz) mA mB mC
 have vc:=vb.binds (ps:=["value","least","most"]) fun _ _ _ _ _ _=>fun us hl=>match us,hl with | [_,_,_],_=>rfl
 have vd:=ZS (st:=VA) mE mF mG
 have ve:=vd.binds (ps:=["values","longest","least","most"]) fun _ _ _ _ _ _=>fun us hl=>match us,hl with | [_,_,_,_],_=>rfl
 have vf:=ZS (st:=VB) mI mJ mK
 have vg:=vf.binds (ps:=["text"]) fun _ _ _ _ _ _=>fun us hl=>match us,hl with | [_],_=>rfl
 have vh:=ZS (st:=VC) mM mN mO
 have vi:=vh.binds (ps:=["text"]) fun _ _ _ _ _ _=>fun us hl=>match us,hl with | [_],_=>rfl
 have vj:=ZS (st:=VD) mQ mR mS
 have vk:=vj.binds (ps:=["rule"]) fun _ _ _ _ _ _=>fun us hl=>match us,hl with | [_],_=>rfl
 have vl:=ZS (st:=VE) mU mV mW
 have vm:=vl.binds (ps:=["rule"]) fun _ _ _ _ _ _=>fun us hl=>match us,hl with | [_],_=>rfl
 have vn:=ZS (st:=VF) mY mZ m0
 have vo:=vn.binds (ps:=["numbers"]) fun _ _ _ _ _ _=>fun us hl=>match us,hl with | [_],_=>rfl
 have vp:=ZS (st:=VG) m2 m3 m4
 have vq:=vp.binds (ps:=["rule"]) fun _ _ _ _ _ _=>fun us hl=>match us,hl with | [_],_=>rfl
 have vr:=ZS (st:=VH) m6 m7 m8
 have vs:=vr.binds (ps:=["text"]) fun _ _ _ _ _ _=>fun us hl=>match us,hl with | [_],_=>rfl
 have vt:=ZS (st:=VI) na nc nd
 have vu:=vt.binds (ps:=["left","deep"]) fun _ _ _ _ _ _=>fun us hl=>match us,hl with | [_,_],_=>rfl
 have vv:=ZS (st:=VJ) ng nh ni
 have vw:=vv.binds (ps:=["left"]) fun _ _ _ _ _ _=>fun us hl=>match us,hl with | [_],_=>rfl
 have vx:=ZS (st:=VL) nk nl nm
 have vy:=vx.binds (ps:=["left"]) fun _ _ _ _ _ _=>fun us hl=>match us,hl with | [_],_=>rfl
 have vz:=ZS (st:=VM) no np nq
 have vA:=vz.binds (ps:=["left"]) fun _ _ _ _ _ _=>fun us hl=>match us,hl with | [_],_=>rfl
 have vB:=ZS (st:=VN) nt nu nv
 have vC:=vB.binds (ps:=["left"]) fun _ _ _ _ _ _=>fun us hl=>match us,hl with | [_],_=>rfl
 have vD:=ZS (st:=VO) nx ny nz
 have vE:=vD.binds (ps:=["_law_script","_law_k"]) fun _ _ _ _ _ _=>fun us hl=>match us,hl with | [_,_],_=>rfl
 have vF:=ZS (st:=VP) nB nC nD
 have vG:=vF.binds (ps:=["_law_script","_law_tape","_law_many"]) fun _ _ _ _ _ _=>fun us hl=>match us,hl with | [_,_,_],_=>rfl
 have vH:=ZS (st:=VQ) nF nG nH
 have vI:=vH.binds (ps:=["_law_script","_law_tape","_law_least","_law_most"]) fun _ _ _ _ _ _=>fun us hl=>match us,hl with | [_,_,_,_],_=>rfl
 have vJ:=ZS (st:=VR) nJ nK nL
 have vK:=vJ.binds (ps:=["_law_script","_law_tape"]) fun _ _ _ _ _ _=>fun us hl=>match us,hl with | [_,_],_=>rfl
 have vL:=ZS (st:=VS) nN nO nP
 have vM:=vL.binds (ps:=["_law_script","_law_tape","_law_room","_law_deep"]) fun _ _ _ _ _ _=>fun us hl=>match us,hl with | [_,_,_,_],_=>rfl
 have vN:=ZS (st:=VT) nR nS nT
 have vO:=vN.binds (ps:=["_law_tree_here"]) fun _ _ _ _ _ _=>fun us hl=>match us,hl with | [_],_=>rfl
 have vP:=ZS (st:=VU) nV nW nX
 have vQ:=vP.binds (ps:=["_law_tree_here","_law_day"]) fun _ _ _ _ _ _=>fun us hl=>match us,hl with | [_,_],_=>rfl
 have vR:=ZS (st:=VV) nZ n0 n1
 have vS:=vR.binds (ps:=["_law_tree_here"]) fun _ _ _ _ _ _=>fun us hl=>match us,hl with | [_],_=>rfl
 have vT:=ZS (st:=VW) n3 n4 n5
 have vU:=vT.binds (ps:=["_law_tree_here"]) fun _ _ _ _ _ _=>fun us hl=>match us,hl with | [_],_=>rfl
 have vV:=ZS (st:=VX) n7 n8 n9
 have vW:=vV.binds (ps:=["_law_tree_here"]) fun _ _ _ _ _ _=>fun us hl=>match us,hl with | [_],_=>rfl
 have vX:=ZS (st:=VY) ob oe og
 have vY:=vX.binds (ps:=["_law_tree_here"]) fun _ _ _ _ _ _=>fun us hl=>match us,hl with | [_],_=>rfl
 have vZ:=ZS (st:=VZ) oi oj ok
 have v0:=vZ.binds (ps:=["_law_error"]) fun _ _ _ _ _ _=>fun us hl=>match us,hl with | [_],_=>rfl
 have v1:=ZS (st:=V0) om on oo
 have v2:=v1.binds (ps:=["_law_word"]) fun _ _ _ _ _ _=>fun us hl=>match us,hl with | [_],_=>rfl
 have v3:=ZS (st:=V2) oq os ot
 have v4:=v3.binds (ps:=["_law_word","_law_most"]) fun _ _ _ _ _ _=>fun us hl=>match us,hl with | [_,_],_=>rfl
 have v5:=ZS (st:=V3) ov ow ox
 have v6:=v5.binds (ps:=["_law_words_here"]) fun _ _ _ _ _ _=>fun us hl=>match us,hl with | [_],_=>rfl
 have v7:=ZS (st:=V4) oz oA oB
 have v8:=v7.binds (ps:=["_law_words_here","_law_deep"]) fun _ _ _ _ _ _=>fun us hl=>match us,hl with | [_,_],_=>rfl
 have v9:=ZS (st:=V5) oD oE oF
 have wa:=v9.binds (ps:=["_law_words_here","_law_deep"]) fun _ _ _ _ _ _=>fun us hl=>match us,hl with | [_,_],_=>rfl
 have wb:=ZS (st:=V6) oH oI oJ
 have wc:=wb.binds (ps:=["_law_text"]) fun _ _ _ _ _ _=>fun us hl=>match us,hl with | [_],_=>rfl
 have wd:=ZS (st:=V7) oL oM oN
 have we:=wd.binds (ps:=["_law_text"]) fun _ _ _ _ _ _=>fun us hl=>match us,hl with | [_],_=>rfl
 have wf:=ZS (st:=V8) oP oQ oR
 have wg:=wf.binds (ps:=["_law_script","_law_tape","_law_found","_law_tree_here"]) fun _ _ _ _ _ _=>fun us hl=>match us,hl with | [_,_,_,_],_=>rfl
 have wh:=ZS (st:=V9) oT oU oV
 have wi:=wh.binds (ps:=["_law_script","_law_tape","_law_text"]) fun _ _ _ _ _ _=>fun us hl=>match us,hl with | [_,_,_],_=>rfl
 have wj:=ZS (st:=Ua) oX oY oZ
 have wk:=wj.binds (ps:=["_law_script"]) fun _ _ _ _ _ _=>fun us hl=>match us,hl with | [_],_=>rfl
 have wl:=ZS (st:=Ub) pn po pp
 have wm:=wl.binds (ps:=["self"]) fun _ _ _ _ _ _=>fun us hl=>match us,hl with | [_],_=>rfl
 have wn:=ZS (st:=Uc) pt pu pv
 have wo:=wn.binds (ps:=["self"]) fun _ _ _ _ _ _=>fun us hl=>match us,hl with | [_],_=>rfl
 have wp:=ZS (st:=Ud) py pz pA
 have wq:=wp.binds (ps:=["self","day"]) fun _ _ _ _ _ _=>fun us hl=>match us,hl with | [_,_],_=>rfl
 have wr:=ZS (st:=Ue) pD pE pF
 have ws:=wr.binds (ps:=["self"]) fun _ _ _ _ _ _=>fun us hl=>match us,hl with | [_],_=>rfl
 have wt:=ZS (st:=Uf) pI pJ pK
 have wu:=wt.binds (ps:=["self"]) fun _ _ _ _ _ _=>fun us hl=>match us,hl with | [_],_=>rfl
 have wv:=ZS (st:=Ug) pN pO pP
 have ww:=wv.binds (ps:=["self"]) fun _ _ _ _ _ _=>fun us hl=>match us,hl with | [_],_=>rfl
 have wx:=ZS (st:=Uh) pS pT pU
 have wy:=wx.binds (ps:=["self","bits"]) fun _ _ _ _ _ _=>fun us hl=>match us,hl with | [_,_],_=>rfl
 have wz:=ZS (st:=Ui) pX pY pZ
 have wA:=wz.binds (ps:=["self"]) fun _ _ _ _ _ _=>fun us hl=>match us,hl with | [_],_=>rfl
 have wB:=ZS (st:=Uj) p2 p3 p4
 have wC:=wB.binds (ps:=["self","day"]) fun _ _ _ _ _ _=>fun us hl=>match us,hl with | [_,_],_=>rfl
 have wD:=ZS (st:=Uk) p7 p8 p9
 have wE:=wD.binds (ps:=["self"]) fun _ _ _ _ _ _=>fun us hl=>match us,hl with | [_],_=>rfl
 have wF:=ZS (st:=Ul) qc qd qe
 have wG:=wF.binds (ps:=["self","first","last","rule"]) fun _ _ _ _ _ _=>fun us hl=>match us,hl with | [_,_,_,_],_=>rfl
 have wH:=ZS (st:=Um) qh qi qj
 have wI:=wH.binds (ps:=["self"]) fun _ _ _ _ _ _=>fun us hl=>match us,hl with | [_],_=>rfl
 have wJ:=ZS (st:=Uo) qm qn qo
 have wK:=wJ.binds (ps:=["self"]) fun _ _ _ _ _ _=>fun us hl=>match us,hl with | [_],_=>rfl
 have wL:=ZS (st:=Up) qr qs qt
 have wM:=wL.binds (ps:=["self","day"]) fun _ _ _ _ _ _=>fun us hl=>match us,hl with | [_,_],_=>rfl
 have wN:=ZS (st:=Uq) qw qx qy
 have wO:=wN.binds (ps:=["self"]) fun _ _ _ _ _ _=>fun us hl=>match us,hl with | [_],_=>rfl
 have wP:=ZS (st:=Ur) qB qC qD
 have wQ:=wP.binds (ps:=["self","length","starts"]) fun _ _ _ _ _ _=>fun us hl=>match us,hl with | [_,_,_],_=>rfl
 have wR:=ZS (st:=Us) qG qH qI
 have wS:=wR.binds (ps:=["self"]) fun _ _ _ _ _ _=>fun us hl=>match us,hl with | [_],_=>rfl
 have wT:=ZS (st:=Ut) qL qM qN
 have wU:=wT.binds (ps:=["self","day"]) fun _ _ _ _ _ _=>fun us hl=>match us,hl with | [_,_],_=>rfl
 have wV:=ZS (st:=Uu) qQ qR qS
 have wW:=wV.binds (ps:=["self"]) fun _ _ _ _ _ _=>fun us hl=>match us,hl with | [_],_=>rfl
 have wX:=ZS (st:=Uv) qV qW qX
 have wY:=wX.binds (ps:=["self","one","other"]) fun _ _ _ _ _ _=>fun us hl=>match us,hl with | [_,_,_],_=>rfl
 have wZ:=ZS (st:=Uw) q0 q1 q2
 have w0:=wZ.binds (ps:=["self"]) fun _ _ _ _ _ _=>fun us hl=>match us,hl with | [_],_=>rfl
 have w1:=ZS (st:=Ux) q5 q6 q7
 have w2:=w1.binds (ps:=["self"]) fun _ _ _ _ _ _=>fun us hl=>match us,hl with | [_],_=>rfl
 have w3:=ZS (st:=Uy) ra rb rc
 have w4:=w3.binds (ps:=["self","day"]) fun _ _ _ _ _ _=>fun us hl=>match us,hl with | [_,_],_=>rfl
 have w5:=ZS (st:=Uz) rf rg rh
 have w6:=w5.binds (ps:=["self"]) fun _ _ _ _ _ _=>fun us hl=>match us,hl with | [_],_=>rfl
 have w7:=ZS (st:=UA) rk rl rm
 have w8:=w7.binds (ps:=["self","one","other"]) fun _ _ _ _ _ _=>fun us hl=>match us,hl with | [_,_,_],_=>rfl
 have w9:=ZS (st:=UB) rp rq rr
 have xa:=w9.binds (ps:=["self"]) fun _ _ _ _ _ _=>fun us hl=>match us,hl with | [_],_=>rfl
 have xb:=ZS (st:=UC) ru rv rx
 have xc:=xb.binds (ps:=["self"]) fun _ _ _ _ _ _=>fun us hl=>match us,hl with | [_],_=>rfl
 have xd:=ZS (st:=UD) rA rB rC
 have xe:=xd.binds (ps:=["self","day"]) fun _ _ _ _ _ _=>fun us hl=>match us,hl with | [_,_],_=>rfl
 have xf:=ZS (st:=UE) rF rG rH
 have xg:=xf.binds (ps:=["self"]) fun _ _ _ _ _ _=>fun us hl=>match us,hl with | [_],_=>rfl
 have xh:=ZS (st:=UF) rK rL rM
 have xi:=xh.binds (ps:=["self","days","rule"]) fun _ _ _ _ _ _=>fun us hl=>match us,hl with | [_,_,_],_=>rfl
 have xj:=ZS (st:=UG) rP rQ rR
 have xk:=xj.binds (ps:=["self"]) fun _ _ _ _ _ _=>fun us hl=>match us,hl with | [_],_=>rfl
 have xl:=ZS (st:=UH) rU rV rW
 have xm:=xl.binds (ps:=["self"]) fun _ _ _ _ _ _=>fun us hl=>match us,hl with | [_],_=>rfl
 have xn:=ZS (st:=UI) rZ r0 r1
 have xo:=xn.binds (ps:=["self","day"]) fun _ _ _ _ _ _=>fun us hl=>match us,hl with | [_,_],_=>rfl
 have xp:=ZS (st:=UJ) r4 r5 r6
 have xq:=xp.binds (ps:=["self"]) fun _ _ _ _ _ _=>fun us hl=>match us,hl with | [_],_=>rfl
 exact ⟨⟨aa,W.fnOf "is_any_number" "is_any_number" (Zs Vy) (Zq Vy) (Zg Vy) .none ac ad ae ai af ag,ak,W.fnOf "is_number" "is_number" (Zs Vz) (Zq Vz) (Zg Vz) .none am ao ap au aq ar,aw,W.fnOf "are_rising" "are_rising" (Zs VA) (Zq VA) (Zg VA) .none ay az aA aE aB aC,aG,W.fnOf "are_figures" "are_figures" (Zs VB) (Zq VB) (Zg VB) .none aI aJ aK aO aL aM,aQ,W.fnOf "number_by" "number_by" (Zs VC) (Zq VC) (Zg VC) .none aS aT aU aY aV aW,a0,W.fnOf "copy_of" "copy_of" (Zs VD) (Zq VD) (Zg VD) .none a2 a3 a4 a8 a5 a6,ba,W.fnOf "check_size" "check_size" (Zs VE) (Zq VE) (Zg VE) .none bc bd be bi bf bg,bk,W.fnOf "list_text" "list_text" (Zs VF) (Zq VF) (Zg VF) .none bm bn bo bs bp bq,bu,W.fnOf "rule_text" "rule_text" (Zs VG) (Zq VG) (Zg VG) .none bw bx bz bD bA bB,bF,W.fnOf "rule_of" "rule_of" (Zs VH) (Zq VH) (Zg VH) .none bH bI bJ bN bK bL,bP,W.fnOf "rule_from" "rule_from" (Zs VI) (Zq VI) (Zg VI) .none bR bS bT bX bU bV,bZ,W.fnOf "word_from" "word_from" (Zs VJ) (Zq VJ) (Zg VJ) .none b1 b2 b3 b7 b4 b5,b9,W.fnOf "number_from" "number_from" (Zs VL) (Zq VL) (Zg VL) .none cb cc cd ch ce cf,cj,W.fnOf "numbers_from" "numbers_from" (Zs VM) (Zq VM) (Zg VM) .none cl cm cn cr co cp,cu,W.fnOf "bits_from" "bits_from" (Zs VN) (Zq VN) (Zg VN) .none cw cx cy cC cz cA,cE,W.fnOf "_law_cell" "_law_cell" (Zs VO) (Zq VO) (Zg VO) .none cG cH cI cM cJ cK,cO,W.fnOf "_law_draw" "_law_draw" (Zs VP) (Zq VP) (Zg VP) .none cQ cR cS cW cT cU,cY,W.fnOf "_law_rising" "_law_rising" (Zs VQ) (Zq VQ) (Zg VQ) .none c0 c1 c2 c6 c3 c4,c8,W.fnOf "_law_leaf" "_law_leaf" (Zs VR) (Zq VR) (Zg VR) .none da db dc dg dd de,di,W.fnOf "_law_tree" "_law_tree" (Zs VS) (Zq VS) (Zg VS) .none dk dl dm dr dn dp,dt,W.fnOf "_law_made" "_law_made" (Zs VT) (Zq VT) (Zg VT) .none dv dw dx dB dy dz,dD,W.fnOf "_law_runs" "_law_runs" (Zs VU) (Zq VU) (Zg VU) .none dF dG dH dL dI dJ,dN,W.fnOf "_law_words" "_law_words" (Zs VV) (Zq VV) (Zg VV) .none dP dQ dR dV dS dT,dX,W.fnOf "_law_within" "_law_within" (Zs VW) (Zq VW) (Zg VW) .none dZ d0 d1 d5 d2 d3,d7,W.fnOf "_law_weight" "_law_weight" (Zs VX) (Zq VX) (Zg VX) .none d9 ea eb ef ec ed,eh,W.fnOf "_law_depth" "_law_depth" (Zs VY) (Zq VY) (Zg VY) .none ej ek el ep em en,er,W.fnOf "_law_class" "_law_class" (Zs VZ) (Zq VZ) (Zg VZ) .none et eu ev eA ew ey,eC,W.fnOf "_law_number" "_law_number" (Zs V0) (Zq V0) (Zg V0) .none eE eF eG eK eH eI,eM,W.fnOf "_law_list" "_law_list" (Zs V2) (Zq V2) (Zg V2) .none eO eP eQ eU eR eS,eW,W.fnOf "_law_leaf_read" "_law_leaf_read" (Zs V3) (Zq V3) (Zg V3) .none eY eZ e1 e5 e2 e3,e7,W.fnOf "_law_within_read" "_law_within_read" (Zs V4) (Zq V4) (Zg V4) .none e9 fb fc fg fd fe,fi,W.fnOf "_law_read" "_law_read" (Zs V5) (Zq V5) (Zg V5) .none fk fl fm fq fn fo,fs,W.fnOf "_law_due" "_law_due" (Zs V6) (Zq V6) (Zg V6) .none fu fv fw fA fx fy,fC,W.fnOf "_law_told" "_law_told" (Zs V7) (Zq V7) (Zg V7) .none fE fF fG fK fH fI,fM,W.fnOf "_law_alike" "_law_alike" (Zs V8) (Zq V8) (Zg V8) .none fO fP fQ fU fR fS,fW,W.fnOf "_law_changed" "_law_changed" (Zs V9) (Zq V9) (Zg V9) .none fY fZ f0 f4 f1 f2,f6,W.fnOf "law" "law" (Zs Ua) (Zq Ua) (Zg Ua) .none f8 f9 ga gf gb gc,gh,W.fnOf "copied" "Rule.copied" (Zs Ub) (Zq Ub) (Zg Ub) .none gj gk gl gp gm gn,gr,W.fnOf "parts" "Rule.parts" (Zs Uc) (Zq Uc) (Zg Uc) .none gu gv gw gA gx gy,gC,W.fnOf "runs" "Rule.runs" (Zs Ud) (Zq Ud) (Zg Ud) .none gE gF gG gK gH gI,gM,W.fnOf "words" "Rule.words" (Zs Ue) (Zq Ue) (Zg Ue) .none gO gP gQ gU gR gS,gW,W.fnOf "weight" "Rule.weight" (Zs Uf) (Zq Uf) (Zg Uf) .none gY gZ g0 g4 g1 g2,g6,W.fnOf "depth" "Rule.depth" (Zs Ug) (Zq Ug) (Zg Ug) .none g8 g9 hb hf hc hd,hh,W.fnOf "__init__" "Week.__init__" (Zs Uh) (Zq Uh) (Zg Uh) .none hj hk hm hq hn ho,hs,W.fnOf "copied" "Week.copied" (Zs Ui) (Zq Ui) (Zg Ui) .none hu hv hx hB hy hz,hD,W.fnOf "runs" "Week.runs" (Zs Uj) (Zq Uj) (Zg Uj) .none hF hG hH hL hI hJ,hN,W.fnOf "words" "Week.words" (Zs Uk) (Zq Uk) (Zg Uk) .none hP hQ hR hW hT hU,hY,W.fnOf "__init__" "Span.__init__" (Zs Ul) (Zq Ul) (Zg Ul) .none h0 h1 h2 h6 h3 h4,h8,W.fnOf "copied" "Span.copied" (Zs Um) (Zq Um) (Zg Um) .none ia ib ic ii ie ig,ik,W.fnOf "parts" "Span.parts" (Zs Uo) (Zq Uo) (Zg Uo) .none im io ip iu iq ir,iw,W.fnOf "runs" "Span.runs" (Zs Up) (Zq Up) (Zg Up) .none iy iz iA iE iB iC,iG,W.fnOf "words" "Span.words" (Zs Uq) (Zq Uq) (Zg Uq) .none iI iJ iK iO iL iM,iQ,W.fnOf "__init__" "Each.__init__" (Zs Ur) (Zq Ur) (Zg Ur) .none iS iT iU iY iV iW,i0,W.fnOf "copied" "Each.copied" (Zs Us) (Zq Us) (Zg Us) .none i2 i3 i4 i8 i5 i6,ja,W.fnOf "runs" "Each.runs" (Zs Ut) (Zq Ut) (Zg Ut) .none jc jd je ji jf jg,jk,W.fnOf "words" "Each.words" (Zs Uu) (Zq Uu) (Zg Uu) .none jm jn jo js jp jq,ju,W.fnOf "__init__" "Either.__init__" (Zs Uv) (Zq Uv) (Zg Uv) .none jw jx jy jC jz jA,jE,W.fnOf "copied" "Either.copied" (Zs Uw) (Zq Uw) (Zg Uw) .none jG jH jI jM jJ jK,jO,W.fnOf "parts" "Either.parts" (Zs Ux) (Zq Ux) (Zg Ux) .none jQ jR jS jW jT jU,jY,W.fnOf "runs" "Either.runs" (Zs Uy) (Zq Uy) (Zg Uy) .none j0 j1 j2 j6 j3 j4,j8,W.fnOf "words" "Either.words" (Zs Uz) (Zq Uz) (Zg Uz) .none ka kc kd kh ke kf,kj,W.fnOf "__init__" "Both.__init__" (Zs UA) (Zq UA) (Zg UA) .none kl km kn ks ko kq,ku,W.fnOf "copied" "Both.copied" (Zs UB) (Zq UB) (Zg UB) .none kw kx ky kC kz kA,kE,W.fnOf "parts" "Both.parts" (Zs UC) (Zq UC) (Zg UC) .none kG kH kI kM kJ kK,kO,W.fnOf "runs" "Both.runs" (Zs UD) (Zq UD) (Zg UD) .none kQ kR kS kX kT kU,kZ,W.fnOf "words" "Both.words" (Zs UE) (Zq UE) (Zg UE) .none k1 k2 k3 k7 k4 k5,k9,W.fnOf "__init__" "But.__init__" (Zs UF) (Zq UF) (Zg UF) .none lb lc ld li lf lg,lk,W.fnOf "copied" "But.copied" (Zs UG) (Zq UG) (Zg UG) .none lm ln lo ls lp lq,lv,W.fnOf "parts" "But.parts" (Zs UH) (Zq UH) (Zg UH) .none lx ly lz lD lA lB,lF,W.fnOf "runs" "But.runs" (Zs UI) (Zq UI) (Zg UI) .none lH lI lJ lN lK lL,lP,W.fnOf "words" "But.words" (Zs UJ) (Zq UJ) (Zg UJ) .none lR lS lT lX lU lV,lZ,l0,l1,l2,l3,l4,l5,l6,l7,l8,l9,ma,mb,mc,md,me,mf,mh,mi,mj⟩,⟨W.mg_none_of X G uJ,
  W.mg_none_of X G uK,
  W.mg_none_of X G uL,
  W.mg_none_of X G uM,
  W.mg_none_of X G uN,
  W.mg_none_of X G uO,
  W.mg_none_of X G uP,
  W.mg_none_of X G uQ,
  W.mg_none_of X G uR,
  W.mg_none_of X G uS,
  W.mg_none_of X G uT,
  W.mg_none_of X G uU,
  W.mg_none_of X G uV,
  W.mg_none_of X G uW,
  W.mg_none_of X G uX,
  W.mg_none_of X G uY,
  W.mg_none_of X G uZ,
  ⟨_,W.mg_of X G u0⟩,
  ⟨_,W.mg_of X G u1⟩,
  ⟨_,W.mg_of X G u2⟩,
  ⟨_,W.mg_of X G u3⟩,
  ⟨_,W.mg_of X G u4⟩,
  ⟨_,W.mg_of X G u5⟩,
  ⟨_,W.mg_of X G u6⟩,
  ⟨_,W.mg_of X G u7⟩,
  ⟨_,W.mg_of X G u8⟩,
  u9,
  W.mg_of X G mv,
  va,
  vb,
  W.mg_of X G mz,
  vc,
  vd,
  W.mg_of X G mD,
  ve,
  vf,
  W.mg_of X G mH,
  vg,
  vh,
  W.mg_of X G mL,
  vi,
  vj,
  W.mg_of X G mP,
  vk,
  vl,
  W.mg_of X G mT,
  vm,
  vn,
  W.mg_of X G mX,
  vo,
  vp,
  W.mg_of X G m1,
  vq,
  vr,
  W.mg_of X G m5,
  vs,
  vt,
  W.mg_of X G m9,
  vu,
  vv,
  W.mg_of X G nf,
  vw,
  vx,
  W.mg_of X G nj,
  vy,
  vz,
  W.mg_of X G nn,
  vA,
  vB,
  W.mg_of X G nr,
  vC,
  vD,
  W.mg_of X G nw,
  vE,
  vF,
  W.mg_of X G nA,
  vG,
  vH,
  W.mg_of X G nE,
  vI,
  vJ,
  W.mg_of X G nI,
  vK,
  vL,
  W.mg_of X G nM,
  vM,
  vN,
  W.mg_of X G nQ,
  vO,
  vP,
  W.mg_of X G nU,
  vQ,
  vR,
  W.mg_of X G nY,
  vS,
  vT,
  W.mg_of X G n2,
  vU,
  vV,
  W.mg_of X G n6,
  vW,
  vX,
  W.mg_of X G oa,
  vY,
  vZ,
  W.mg_of X G oh,
  v0,
  v1,
  W.mg_of X G ol,
  v2,
  v3,
  W.mg_of X G op,
  v4,
  v5,
  W.mg_of X G ou,
  v6,
  v7,
  W.mg_of X G oy,
  v8,
  v9,
  W.mg_of X G oC,
  wa,
  wb,
  W.mg_of X G oG,
  wc,
  wd,
  W.mg_of X G oK,
  we,
  wf,
  W.mg_of X G oO,
  wg,
  wh,
  W.mg_of X G oS,
  wi,
  wj,
  W.mg_of X G oW,
  wk,
  wl,
  wm,
  wn,
  wo,
  wp,
  wq,
  wr,
  ws,
  wt,
  wu,
  wv,
  ww,
  wx,
  wy,
  wz,
  wA,
  wB,
  wC,
  wD,
  wE,
  wF,
  wG,
  wH,
  wI,
  wJ,
  wK,
  wL,
  wM,
  wN,
  wO,
  wP,
  wQ,
  wR,
  wS,
  wT,
  wU,
  wV,
  wW,
  wX,
  wY,
  wZ,
  w0,
  w1,
  w2,
  w3,
  w4,
  w5,
  w6,
  w7,
  w8,
  w9,
  xa,
  xb,
  xc,
  xd,
  xe,
  xf,
  xg,
  xh,
  xi,
  xj,
  xk,
  xl,
  xm,
  xn,
  xo,
  xp,
  xq,
  ⟨r7,r8,r9,sa⟩,
  ⟨sb,sd,sc⟩,
  ⟨pk,pl,pp⟩,
  ⟨pL,pM,pP⟩,
  ⟨pq,pr,pv⟩,
  ⟨pw,px,pA⟩,
  ⟨pG,pH,pK⟩,
  ⟨pB,pC,pF⟩,
  ⟨se,sf,sg,sh⟩,
  ⟨si,pQ,pR,sj⟩,
  ⟨pV,pW,pZ⟩,
  ⟨sk,pM,pP⟩,
  ⟨sl,pr,pv⟩,
  ⟨p0,p1,p4⟩,
  ⟨sm,pH,pK⟩,
  ⟨p5,p6,p9⟩,
  sn,
  ⟨so,sq,sr,ss⟩,
  ⟨su,qa,qb,sv⟩,
  ⟨qf,qg,qj⟩,
  ⟨sw,pM,pP⟩,
  ⟨qk,ql,qo⟩,
  ⟨qp,qq,qt⟩,
  ⟨sx,pH,pK⟩,
  ⟨qu,qv,qy⟩,
  sy,
  sz,
  sA,
  ⟨sB,sC,sD,sE⟩,
  ⟨sF,qz,qA,sG⟩,
  ⟨qE,qF,qI⟩,
  ⟨sH,pM,pP⟩,
  ⟨sI,pr,pv⟩,
  ⟨qJ,qK,qN⟩,
  ⟨sJ,pH,pK⟩,
  ⟨qO,qP,qS⟩,
  sK,
  sL,
  ⟨sM,sN,sO,sP⟩,
  ⟨sQ,qT,qU,sR⟩,
  ⟨qY,qZ,q2⟩,
  ⟨sS,pM,pP⟩,
  ⟨q3,q4,q7⟩,
  ⟨q8,q9,rc⟩,
  ⟨sT,pH,pK⟩,
  ⟨rd,re,rh⟩,
  sU,
  sV,
  ⟨sW,sX,sY,sZ⟩,
  ⟨s0,ri,rj,s1⟩,
  ⟨rn,ro,rr⟩,
  ⟨s2,pM,pP⟩,
  ⟨rs,rt,rx⟩,
  ⟨ry,rz,rC⟩,
  ⟨s3,pH,pK⟩,
  ⟨rD,rE,rH⟩,
  s4,
  s5,
  ⟨s6,s7,s8,s9⟩,
  ⟨ta,rI,rJ,tb⟩,
  ⟨rN,rO,rR⟩,
  ⟨tc,pM,pP⟩,
  ⟨rS,rT,rW⟩,
  ⟨rX,rY,r1⟩,
  ⟨td,pH,pK⟩,
  ⟨r2,r3,r6⟩,
  te,
  tf,
  ⟨tg,th,ti,tj⟩,
  tk,
  ⟨tl,tm,tn,tp⟩,
  tq,
  ⟨tr,ts,tt,tu⟩,
  tv,
  ⟨tw,tx,ty,tz⟩,
  tA,
  ⟨tB,tC,tD,tE⟩,
  tF,
  ⟨tG,tH,tI,tJ⟩,
  tK,
  ⟨tL,tM,tN,tO⟩,
  tP,
  tQ,
  tR,
  tS,
  tT,
  tU,
  tV,
  W.mg_of X G o0,
  W.mg_of X G o1,
  W.mg_of X G o2,
  W.mg_of X G o3,
  W.mg_of X G o4,
  W.mg_of X G o5,
  W.mg_of X G o6,
  W.mg_of X G o7,
  W.mg_of X G o8,
  W.mg_of X G o9,
  W.mg_of X G pa,
  W.mg_of X G pb,
  W.mg_of X G pc,
  W.mg_of X G pd,
  W.mg_of X G pe,
  W.mg_of X G pf,
  W.mg_of X G pg,
  W.mg_of X G ph,
  W.mg_of X G pi,
  W.mg_of X G pj,
  ⟨tW⟩,
  ⟨by rw [tX];rfl,tY,tZ,t0,t1,t2,t3,t4⟩,
  t5,
  t6,
  t7,
  t8,
  t9,
  ua,
  ub,
  uc,
  ud,
  ue,
  uf,
  ug,
  uh,
  ui,
  ⟨uj⟩,
  ⟨by rw [uk];rfl,ul,um,un,uo,up,uq,ur⟩,
  ut,
  uu,
  uv,
  uw,
  ux,
  uy,
  uz,
  uA,
  uB,
  uC,
  uD,
  uE,
  uF,
  uG,
  uH,
  uI⟩⟩
end K04
namespace PySem.W.Fast
def tw6603284003420042706:=0
def tw5848149691208279031:=0
def tw8616505792937985868:=0
def tw16559856490663819276:=0
def tw5330435691572875881:=0
def tw5380800021246976836:=0
def tw12711702454467702066:=0
def tw7319358064683226929:=0
def tw4789413255631167733:=0
def tw11402998260825278564:=0
def tw510361339671252570:=0
def tw12248887417755566870:=0
def tw11803932490058155713:=0
def tw14457124974588520665:=0
def tw6611607916903285968:=0
def tw17602163463762886216:=0
def tw3462770762858272147:=0
def tw13787028973463786699:=0
def tw6251065823921183886:=0
def tw3137982252619016838:=0
def tw16905323266550853308:=0
def tw4749487284040271269:=0
def tw14480948445888212518:=0
def tw12256031981539180329:=0
def tw13727782677097294127:=0
def tw12580448762149064182:=0
def tw12045952835430676652:=0
def tw18056176469594146492:=0
def tw10739680380551082238:=0
def tw17244326904905090562:=0
def tw17222458423618951363:=0
def tw488535633355142217:=0
def tw6740521720270194031:=0
def tw14053968927986261938:=0
def tw1190906117750958283:=0
def tw9446499300819794634:=0
def tw14409338825984248710:=0
def tw6146242645131214155:=0
def tw3991374405224182938:=0
def tw12244743182232002238:=0
def tw9369418272939985334:=0
def tw10896881787166080129:=0
def tw6329612029252567225:=0
def tw7353989819413073385:=0
def tw3133044606636096838:=0
def tw13941937452154295910:=0
def tw7162770784231866656:=0
def tw3504482808797244188:=0
def tw15031266429027344323:=0
def tw5407646862499712855:=0
def tw10083393642526268874:=0
def tw3292280280612131335:=0
def tw11667036748962716615:=0
def tw3524472985350866437:=0
def tw2874773958761684124:=0
def tw12940529097193312097:=0
def tw5941636786425800181:=0
def tw5409955514390159149:=0
def tw12947470635782541759:=0
def tw7185066996224986428:=0
def tw13254178459839741535:=0
def tw6438190968821134304:=0
def tw16279750421603074902:=0
def tw14349487985387688404:=0
def tw15961419498852807010:=0
def tw281962560631480046:=0
def tw5039046554845173193:=0
def tw10074896361178523057:=0
def tw10873443929373446715:=0
def tw11549486301725061227:=0
def tw17326663238717318814:=0
def tw7947561839909194605:=0
def tw1390119472971518494:=0
def tw7744206636943151678:=0
def tw14045027842789035143:=0
def tw1568625792836104875:=0
def tw15324492883040662990:=0
def tw12203100714918389127:=0
def tw11468274270140208536:=0
def tw4430753029618993047:=0
def tw3281537477857240993:=0
def tw5116560162264807300:=0
def tw7671885894500687631:=0
def tw10662857466710704318:=0
def tw4082644255470349296:=0
def tw13268337482380630828:=0
def tw17998511617686164237:=0
def tw18439033698589620957:=0
def tw11476537361486400975:=0
def tw7543026553951373414:=0
def tw15840143228492909203:=0
def tw11561618530159556910:=0
def tw17266400321234080437:=0
def tw2842691714113809441:=0
def tw3064122048828542990:=0
def tw9826431461897358856:=0
def tw1967310440492382986:=0
def tw11305154041527325745:=0
def tw13824925652463658414:=0
def tw1862868812110584198:=0
def tw17224479086301257705:=0
def tw11039123972048218858:=0
def tw16354847359518747411:=0
def tw5086955288150362901:=0
def tw4660228270605441485:=0
def tw7910878223862526527:=0
def tw14827696872202755513:=0
def tw9709411236537470031:=0
def tw12134268122704497087:=0
def tw13235406564817954371:=0
def tw13955428501076006823:=0
def tw13578797065623537511:=0
def tw13740349922299048893:=0
def tw114016972202717724:=0
def tw17222818790811249322:=0
def tw211424686333848085:=0
def tw625980511308806530:=0
def tw14786013076868054258:=0
def tw1323935875538226681:=0
def tw14172565604858369472:=0
def tw1465958713014123344:=0
def tw13120671962395608871:=0
def tw13156018837800327606:=0
def tw8719522236835413452:=0
def tw3007748850013569341:=0
def tw9255837856323178728:=0
def tw12486307891285038963:=0
def tw2709812129441710803:=0
def tw16030641593359098101:=0
def tw2264525591210898278:=0
def tw7211672849646611248:=0
def tw5532487913158093188:=0
def tw9359037053968921451:=0
def tw17503381679710921950:=0
def tw8166486647505460856:=0
def tw3859638376406726952:=0
def tw11050460228644772279:=0
def tw1038367082011556165:=0
def tw6043116432362624499:=0
def tw15060860603690437907:=0
def tw17448215101218297643:=0
def tw4908942950145442375:=0
def tw9082279509455766220:=0
def tw17913845851513943900:=0
def tw15143797015526036021:=0
def tw11432760505508681171:=0
def tw7702489681748252468:=0
def tw10309126023100911719:=0
def tw17775904863333039547:=0
def tw12992766208945564966:=0
def tw3972396736864158091:=0
def tw7209285079728105950:=0
def tw2467368771538358937:=0
def tw7550628695890785330:=0
def tw9227165999193147534:=0
def tw16204134842638950572:=0
def tw15831047633131940919:=0
def tw1928596183417816805:=0
def tw14270208564924329068:=0
def tw12437562238092373786:=0
def tw3009761069418236159:=0
def tw1217502437717896793:=0
def tw688278503125128163:=0
def tw544600159931891544:=0
def tw13941223816728086937:=0
def tw5978684354904516407:=0
def tw1025890738459979309:=0
def tw13281107328481530743:=0
def tw11226070363641017703:=0
def tw11476775933888715681:=0
def tw4257868094467400650:=0
def tw12696496356462550212:=0
def tw10018752822819572446:=0
def tw4223953885695613925:=0
def tw3143640109015727303:=0
def tw4096286486366536545:=0
def tw8024190723326335188:=0
def tw9198632861824958638:=0
def tw7872062387985907297:=0
def tw14047924782076221584:=0
def tw3919688688226483198:=0
def tw11180304021263996980:=0
def tw13157730409550843054:=0
def tw5290226689427253522:=0
def tw15398702739434170052:=0
def tw12634769015729021784:=0
def tw3302989807328524541:=0
def tw8457664913033579938:=0
def tw4054765157443102502:=0
def tw7577970518576511618:=0
def tw7618156830534786005:=0
def tw1495348451598017923:=0
def tw11400907723500653749:=0
def tw444568693428120463:=0
def tw15670339971689950812:=0
def tw6501013527684671465:=0
def tw14775036450449365377:=0
def tw1653452470714676171:=0
def tw8080143235661219272:=0
def tw6144300129192988641:=0
end PySem.W.Fast
open PySem PySem.W PyProof.Rows
set_option maxRecDepth 100000 in
set_option maxHeartbeats 0 in
theorem PySem.Challenge.cw_roadbook_k04_rules_as_texts_holds : PySem.Challenge.rw_roadbook_k04_rules_as_texts.Holds := by
 w_on;o_law;k_head;(case hw=>w_witness2)
 k_fill
 refine L2.Zl6 (l:=PySem.Challenge.rw_roadbook_k04_rules_as_texts) (n:=63) (k:=80) (x := "_law_script") (CX:=L2.Zx) (sp:=K04.sp_law) rfl (by decide) rfl ⟨rfl,by decide,by decide⟩ (fun w h Y=>PySem.W.kIn_of Y) ?F (fun _ _ a ns hl _ hS=>⟨a,ns,rfl,hS,hl,fun _=>rfl⟩) fun _ _ _ _ z=>z
 case F =>
  intro w mg fa h KX G hmg
  have T:∃ t,K04.ZD (L2.KOf KX) mg t:=by
   dsimp only [L2.KOf]
   refine' K04.all_mk KX G ?mv ?mw ?mx ?my ?mz ?mA ?mB ?mC ?mD ?mE ?mF ?mG ?mH ?mI ?mJ ?mK ?mL ?mM ?mN ?mO ?mP ?mQ ?mR ?mS ?mT ?mU ?mV ?mW ?mX ?mY ?mZ ?m0 ?m1 ?m2 ?m3 ?m4 ?m5 ?m6 ?m7 ?m8 ?m9 ?na ?nc ?nd ?nf ?ng ?nh ?ni ?nj ?nk ?nl ?nm ?nn ?no ?np ?nq ?nr ?nt ?nu ?nv ?nw ?nx ?ny ?nz ?nA ?nB ?nC ?nD ?nE ?nF ?nG ?nH ?nI ?nJ ?nK ?nL ?nM ?nN ?nO ?nP ?nQ ?nR ?nS ?nT ?nU ?nV ?nW ?nX ?nY ?nZ ?n0 ?n1 ?n2 ?n3 ?n4 ?n5 ?n6 ?n7 ?n8 ?n9 ?oa ?ob ?oe ?og ?oh ?oi ?oj ?ok ?ol ?om ?on ?oo ?op ?oq ?os ?ot ?ou ?ov ?ow ?ox ?oy ?oz ?oA ?oB ?oC ?oD ?oE ?oF ?oG ?oH ?oI ?oJ ?oK ?oL ?oM ?oN ?oO ?oP ?oQ ?oR ?oS ?oT ?oU ?oV ?oW ?oX ?oY ?oZ ?o0 ?o1 ?o2 ?o3 ?o4 ?o5 ?o6 ?o7 ?o8 ?o9 ?pa ?pb ?pc ?pd ?pe ?pf ?pg ?ph ?pi ?pj ?pk ?pl ?pn ?po ?pp ?pq ?pr ?pt ?pu ?pv ?pw ?px ?py ?pz ?pA ?pB ?pC ?pD ?pE ?pF ?pG ?pH ?pI ?pJ ?pK ?pL ?pM ?pN ?pO ?pP ?pQ ?pR ?pS ?pT ?pU ?pV ?pW ?pX ?pY ?pZ ?p0 ?p1 ?p2 ?p3 ?p4 ?p5 ?p6 ?p7 ?p8 ?p9 ?qa ?qb ?qc ?qd ?qe ?qf ?qg ?qh ?qi ?qj ?qk ?ql ?qm ?qn ?qo ?qp ?qq ?qr ?qs ?qt ?qu ?qv ?qw ?qx ?qy ?qz ?qA ?qB ?qC ?qD ?qE ?qF ?qG ?qH ?qI ?qJ ?qK ?qL ?qM ?qN ?qO ?qP ?qQ ?qR ?qS ?qT ?qU ?qV ?qW ?qX ?qY ?qZ ?q0 ?q1 ?q2 ?q3 ?q4 ?q5 ?q6 ?q7 ?q8 ?q9 ?ra ?rb ?rc ?rd ?re ?rf ?rg ?rh ?ri ?rj ?rk ?rl ?rm ?rn ?ro ?rp ?rq ?rr ?rs ?rt ?ru ?rv ?rx ?ry ?rz ?rA ?rB ?rC ?rD ?rE ?rF ?rG ?rH ?rI ?rJ ?rK ?rL ?rM ?rN ?rO ?rP ?rQ ?rR ?rS ?rT ?rU ?rV ?rW ?rX ?rY ?rZ ?r0 ?r1 ?r2 ?r3 ?r4 ?r5 ?r6 ?r7 ?r8 ?r9 ?sa ?sb ?sc ?sd ?se ?sf ?sg ?sh ?si ?sj ?sk ?sl ?sm ?sn ?so ?sq ?sr ?ss ?su ?sv ?sw ?sx ?sy ?sz ?sA ?sB ?sC ?sD ?sE ?sF ?sG ?sH ?sI ?sJ ?sK ?sL ?sM ?sN ?sO ?sP ?sQ ?sR ?sS ?sT ?sU ?sV ?sW ?sX ?sY ?sZ ?s0 ?s1 ?s2 ?s3 ?s4 ?s5 ?s6 ?s7 ?s8 ?s9 ?ta ?tb ?tc ?td ?te ?tf ?tg ?th ?ti ?tj ?tk ?tl ?tm ?tn ?tp ?tq ?tr ?ts ?tt ?tu ?tv ?tw ?tx ?ty ?tz ?tA ?tB ?tC ?tD ?tE ?tF ?tG ?tH ?tI ?tJ ?tK ?tL ?tM ?tN ?tO ?tP ?tQ ?tR ?tS ?tT ?tU ?tV ?tW ?tX ?tY ?tZ ?t0 ?t1 ?t2 ?t3 ?t4 ?t5 ?t6 ?t7 ?t8 ?t9 ?ua ?ub ?uc ?ud ?ue ?uf ?ug ?uh ?ui ?uj ?uk ?ul ?um ?un ?uo ?up ?uq ?ur ?ut ?uu ?uv ?uw ?ux ?uy ?uz ?uA ?uB ?uC ?uD ?uE ?uF ?uG ?uH ?uI ?uJ ?uK ?uL ?uM ?uN ?uO ?uP ?uQ ?uR ?uS ?uT ?uU ?uV ?uW ?uX ?uY ?uZ ?u0 ?u1 ?u2 ?u3 ?u4 ?u5 ?u6 ?u7 ?u8
   (case mv=>k_is)
   (case mw=>k_is)
   (case mx=>k_is)
   (case my=>k_is)
   (case mz=>k_is)
   (case mA=>k_is)
   (case mB=>k_is)
   (case mC=>k_is)
   (case mD=>k_is)
   (case mE=>k_is)
   (case mF=>k_is)
   (case mG=>k_is)
   (case mH=>k_is)
   (case mI=>k_is)
   (case mJ=>k_is)
   (case mK=>k_is)
   (case mL=>k_is)
   (case mM=>k_is)
   (case mN=>k_is)
   (case mO=>k_is)
   (case mP=>k_is)
   (case mQ=>k_is)
   (case mR=>k_is)
   (case mS=>k_is)
   (case mT=>k_is)
   (case mU=>k_is)
   (case mV=>k_is)
   (case mW=>k_is)
   (case mX=>k_is)
   (case mY=>k_is)
   (case mZ=>k_is)
   (case m0=>k_is)
   (case m1=>k_is)
   (case m2=>k_is)
   (case m3=>k_is)
   (case m4=>k_is)
   (case m5=>k_is)
   (case m6=>k_is)
   (case m7=>k_is)
   (case m8=>k_is)
   (case m9=>k_is)
   (case na=>k_is)
   (case nc=>k_is)
   (case nd=>k_is)
   (case nf=>k_is)
   (case ng=>k_is)
   (case nh=>k_is)
   (case ni=>k_is)
   (case nj=>k_is)
   (case nk=>k_is)
   (case nl=>k_is)
   (case nm=>k_is)
   (case nn=>k_is)
   (case no=>k_is)
   (case np=>k_is)
   (case nq=>k_is)
   (case nr=>k_is)
   (case nt=>k_is)
   (case nu=>k_is)
   (case nv=>k_is)
   (case nw=>k_is)
   (case nx=>k_is)
   (case ny=>k_is)
   (case nz=>k_is)
   (case nA=>k_is)
   (case nB=>k_is)
   (case nC=>k_is)
   (case nD=>k_is)
   (case nE=>k_is)
   (case nF=>k_is)
   (case nG=>k_is)
   (case nH=>k_is)
   (case nI=>k_is)
   (case nJ=>k_is)
   (case nK=>k_is)
   (case nL=>k_is)
   (case nM=>k_is)
   (case nN=>k_is)
   (case nO=>k_is)
   (case nP=>k_is)
   (case nQ=>k_is)
   (case nR=>k_is)
   (case nS=>k_is)
   (case nT=>k_is)
   (case nU=>k_is)
   (case nV=>k_is)
   (case nW=>k_is)
   (case nX=>k_is)
   (case nY=>k_is)
   (case nZ=>k_is)
   (case n0=>k_is)
   (case n1=>k_is)
   (case n2=>k_is)
   (case n3=>k_is)
   (case n4=>k_is)
   (case n5=>k_is)
   (case n6=>k_is)
   (case n7=>k_is)
   (case n8=>k_is)
   (case n9=>k_is)
   (case oa=>k_is)
   (case ob=>k_is)
   (case oe=>k_is)
   (case og=>k_is)
   (case oh=>k_is)
   (case oi=>k_is)
   (case oj=>k_is)
   (case ok=>k_is)
   (case ol=>k_is)
   (case om=>k_is)
   (case on=>k_is)
   (case oo=>k_is)
   (case op=>k_is)
   (case oq=>k_is)
   (case os=>k_is)
   (case ot=>k_is)
   (case ou=>k_is)
   (case ov=>k_is)
   (case ow=>k_is)
   (case ox=>k_is)
   (case oy=>k_is)
   (case oz=>k_is)
   (case oA=>k_is)
   (case oB=>k_is)
   (case oC=>k_is)
   (case oD=>k_is)
   (case oE=>k_is)
   (case oF=>k_is)
   (case oG=>k_is)
   (case oH=>k_is)
   (case oI=>k_is)
   (case oJ=>k_is)
   (case oK=>k_is)
   (case oL=>k_is)
   (case oM=>k_is)
   (case oN=>k_is)
   (case oO=>k_is)
   (case oP=>k_is)
   (case oQ=>k_is)
   (case oR=>k_is)
   (case oS=>k_is)
   (case oT=>k_is)
   (case oU=>k_is)
   (case oV=>k_is)
   (case oW=>k_is)
   (case oX=>k_is)
   (case oY=>k_is)
   (case oZ=>k_is)
   (case o0=>k_is)
   (case o1=>k_is)
   (case o2=>k_is)
   (case o3=>k_is)
   (case o4=>k_is)
   (case o5=>k_is)
   (case o6=>k_is)
   (case o7=>k_is)
   (case o8=>k_is)
   (case o9=>k_is)
   (case pa=>k_is)
   (case pb=>k_is)
   (case pc=>k_is)
   (case pd=>k_is)
   (case pe=>k_is)
   (case pf=>k_is)
   (case pg=>k_is)
   (case ph=>k_is)
   (case pi=>k_is)
   (case pj=>k_is)
   (case pk=>k_is)
   (case pl=>k_is)
   (case pn=>k_is)
   (case po=>k_is)
   (case pp=>k_is)
   (case pq=>k_is)
   (case pr=>k_is)
   (case pt=>k_is)
   (case pu=>k_is)
   (case pv=>k_is)
   (case pw=>k_is)
   (case px=>k_is)
   (case py=>k_is)
   (case pz=>k_is)
   (case pA=>k_is)
   (case pB=>k_is)
   (case pC=>k_is)
   (case pD=>k_is)
   (case pE=>k_is)
   (case pF=>k_is)
   (case pG=>k_is)
   (case pH=>k_is)
   (case pI=>k_is)
   (case pJ=>k_is)
   (case pK=>k_is)
   (case pL=>k_is)
   (case pM=>k_is)
   (case pN=>k_is)
   (case pO=>k_is)
   (case pP=>k_is)
   (case pQ=>k_is)
   (case pR=>k_is)
   (case pS=>k_is)
   (case pT=>k_is)
   (case pU=>k_is)
   (case pV=>k_is)
   (case pW=>k_is)
   (case pX=>k_is)
   (case pY=>k_is)
   (case pZ=>k_is)
   (case p0=>k_is)
   (case p1=>k_is)
   (case p2=>k_is)
   (case p3=>k_is)
   (case p4=>k_is)
   (case p5=>k_is)
   (case p6=>k_is)
   (case p7=>k_is)
   (case p8=>k_is)
   (case p9=>k_is)
   (case qa=>k_is)
   (case qb=>k_is)
   (case qc=>k_is)
   (case qd=>k_is)
   (case qe=>k_is)
   (case qf=>k_is)
   (case qg=>k_is)
   (case qh=>k_is)
   (case qi=>k_is)
   (case qj=>k_is)
   (case qk=>k_is)
   (case ql=>k_is)
   (case qm=>k_is)
   (case qn=>k_is)
   (case qo=>k_is)
   (case qp=>k_is)
   (case qq=>k_is)
   (case qr=>k_is)
   (case qs=>k_is)
   (case qt=>k_is)
   (case qu=>k_is)
   (case qv=>k_is)
   (case qw=>k_is)
   (case qx=>k_is)
   (case qy=>k_is)
   (case qz=>k_is)
   (case qA=>k_is)
   (case qB=>k_is)
   (case qC=>k_is)
   (case qD=>k_is)
   (case qE=>k_is)
   (case qF=>k_is)
   (case qG=>k_is)
   (case qH=>k_is)
   (case qI=>k_is)
   (case qJ=>k_is)
   (case qK=>k_is)
   (case qL=>k_is)
   (case qM=>k_is)
   (case qN=>k_is)
   (case qO=>k_is)
   (case qP=>k_is)
   (case qQ=>k_is)
   (case qR=>k_is)
   (case qS=>k_is)
   (case qT=>k_is)
   (case qU=>k_is)
   (case qV=>k_is)
   (case qW=>k_is)
   (case qX=>k_is)
   (case qY=>k_is)
   (case qZ=>k_is)
   (case q0=>k_is)
   (case q1=>k_is)
   (case q2=>k_is)
   (case q3=>k_is)
   (case q4=>k_is)
   (case q5=>k_is)
   (case q6=>k_is)
   (case q7=>k_is)
   (case q8=>k_is)
   (case q9=>k_is)
   (case ra=>k_is)
   (case rb=>k_is)
   (case rc=>k_is)
   (case rd=>k_is)
   (case re=>k_is)
   (case rf=>k_is)
   (case rg=>k_is)
   (case rh=>k_is)
   (case ri=>k_is)
   (case rj=>k_is)
   (case rk=>k_is)
   (case rl=>k_is)
   (case rm=>k_is)
   (case rn=>k_is)
   (case ro=>k_is)
   (case rp=>k_is)
   (case rq=>k_is)
   (case rr=>k_is)
   (case rs=>k_is)
   (case rt=>k_is)
   (case ru=>k_is)
   (case rv=>k_is)
   (case rx=>k_is)
   (case ry=>k_is)
   (case rz=>k_is)
   (case rA=>k_is)
   (case rB=>k_is)
   (case rC=>k_is)
   (case rD=>k_is)
   (case rE=>k_is)
   (case rF=>k_is)
   (case rG=>k_is)
   (case rH=>k_is)
   (case rI=>k_is)
   (case rJ=>k_is)
   (case rK=>k_is)
   (case rL=>k_is)
   (case rM=>k_is)
   (case rN=>k_is)
   (case rO=>k_is)
   (case rP=>k_is)
   (case rQ=>k_is)
   (case rR=>k_is)
   (case rS=>k_is)
   (case rT=>k_is)
   (case rU=>k_is)
   (case rV=>k_is)
   (case rW=>k_is)
   (case rX=>k_is)
   (case rY=>k_is)
   (case rZ=>k_is)
   (case r0=>k_is)
   (case r1=>k_is)
   (case r2=>k_is)
   (case r3=>k_is)
   (case r4=>k_is)
   (case r5=>k_is)
   (case r6=>k_is)
   (case r7=>k_is)
   (case r8=>k_is)
   (case r9=>k_is)
   (case sa=>k_is)
   (case sb=>k_is)
   (case sc=>k_is)
   (case sd=>k_is)
   (case se=>k_is)
   (case sf=>k_is)
   (case sg=>k_is)
   (case sh=>k_is)
   (case si=>k_is)
   (case sj=>k_is)
   (case sk=>k_is)
   (case sl=>k_is)
   (case sm=>k_is)
   (case sn=>k_is)
   (case so=>k_is)
   (case sq=>k_is)
   (case sr=>k_is)
   (case ss=>k_is)
   (case su=>k_is)
   (case sv=>k_is)
   (case sw=>k_is)
   (case sx=>k_is)
   (case sy=>k_is)
   (case sz=>k_is)
   (case sA=>k_is)
   (case sB=>k_is)
   (case sC=>k_is)
   (case sD=>k_is)
   (case sE=>k_is)
   (case sF=>k_is)
   (case sG=>k_is)
   (case sH=>k_is)
   (case sI=>k_is)
   (case sJ=>k_is)
   (case sK=>k_is)
   (case sL=>k_is)
   (case sM=>k_is)
   (case sN=>k_is)
   (case sO=>k_is)
   (case sP=>k_is)
   (case sQ=>k_is)
   (case sR=>k_is)
   (case sS=>k_is)
   (case sT=>k_is)
   (case sU=>k_is)
   (case sV=>k_is)
   (case sW=>k_is)
   (case sX=>k_is)
   (case sY=>k_is)
   (case sZ=>k_is)
   (case s0=>k_is)
   (case s1=>k_is)
   (case s2=>k_is)
   (case s3=>k_is)
   (case s4=>k_is)
   (case s5=>k_is)
   (case s6=>k_is)
   (case s7=>k_is)
   (case s8=>k_is)
   (case s9=>k_is)
   (case ta=>k_is)
   (case tb=>k_is)
   (case tc=>k_is)
   (case td=>k_is)
   (case te=>k_is)
   (case tf=>k_is)
   (case tg=>k_is)
   (case th=>k_is)
   (case ti=>k_is)
   (case tj=>k_is)
   (case tk=>kit_is)
   (case tl=>k_is)
   (case tm=>k_is)
   (case tn=>k_is)
   (case tp=>k_is)
   (case tq=>kit_is)
   (case tr=>k_is)
   (case ts=>k_is)
   (case tt=>k_is)
   (case tu=>k_is)
   (case tv=>kit_is)
   (case tw=>k_is)
   (case tx=>k_is)
   (case ty=>k_is)
   (case tz=>k_is)
   (case tA=>kit_is)
   (case tB=>k_is)
   (case tC=>k_is)
   (case tD=>k_is)
   (case tE=>k_is)
   (case tF=>kit_is)
   (case tG=>k_is)
   (case tH=>k_is)
   (case tI=>k_is)
   (case tJ=>k_is)
   (case tK=>kit_is)
   (case tL=>k_is)
   (case tM=>k_is)
   (case tN=>k_is)
   (case tO=>k_is)
   (case tP=>kit_is)
   (case tQ=>kit_is)
   (case tR=>kit_is)
   (case tS=>kit_is)
   (case tT=>kit_is)
   (case tU=>kit_is)
   (case tV=>kit_is)
   (case tW=>k_exc)
   (case tX=>k_is)
   (case tY=>k_is)
   (case tZ=>k_is)
   (case t0=>k_is)
   (case t1=>k_is)
   (case t2=>k_is)
   (case t3=>k_is)
   (case t4=>k_is)
   (case t5=>kit_is)
   (case t6=>kit_is)
   (case t7=>kit_is)
   (case t8=>kit_is)
   (case t9=>kit_is)
   (case ua=>kit_is)
   (case ub=>kit_is)
   (case uc=>kit_is)
   (case ud=>kit_is)
   (case ue=>kit_is)
   (case uf=>kit_is)
   (case ug=>kit_is)
   (case uh=>kit_is)
   (case ui=>kts_exm)
   (case uj=>k_exc)
   (case uk=>k_is)
   (case ul=>k_is)
   (case um=>k_is)
   (case un=>k_is)
   (case uo=>k_is)
   (case up=>k_is)
   (case uq=>k_is)
   (case ur=>k_is)
   (case ut=>kit_is)
   (case uu=>kit_is)
   (case uv=>kit_is)
   (case uw=>kit_is)
   (case ux=>kit_is)
   (case uy=>kit_is)
   (case uz=>kit_is)
   (case uA=>kit_is)
   (case uB=>kit_is)
   (case uC=>kit_is)
   (case uD=>kit_is)
   (case uE=>kit_is)
   (case uF=>kit_is)
   (case uG=>kts_exm)
   (case uH=>kts_exm)
   (case uI=>kts_exm)
   (case uJ=>k_is)
   (case uK=>k_is)
   (case uL=>k_is)
   (case uM=>k_is)
   (case uN=>k_is)
   (case uO=>k_is)
   (case uP=>k_is)
   (case uQ=>k_is)
   (case uR=>k_is)
   (case uS=>k_is)
   (case uT=>k_is)
   (case uU=>k_is)
   (case uV=>k_is)
   (case uW=>k_is)
   (case uX=>k_is)
   (case uY=>k_is)
   (case uZ=>k_is)
   (case u0=>k_is)
   (case u1=>k_is)
   (case u2=>k_is)
   (case u3=>k_is)
   (case u4=>k_is)
   (case u5=>k_is)
   (case u6=>k_is)
   (case u7=>k_is)
   (case u8=>k_is)
  obtain ⟨t,T⟩:=T
  have e0:=hmg.symm.trans T.ZoT
  cases e0
  refine' ⟨t.Zb0,?b,fun base kb nb=>K04.ZsE T⟩
  obtain ⟨oc,od,kV,doc,pm,an,cdv,ct,osl,e,_,_⟩:=T.Zi2.ex
  rw [e]
  exact fun s u=>.of_eq rfl
