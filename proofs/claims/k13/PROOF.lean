import PyProof.Rows.All
import Wide.All
import OpenK.AllK
import Wide.FinOn
import Lean
import PyProof.EqAt
import PyProof.EqKinds
import PyProof.TupleCall
import KE.KIntText
import PyProof.CompFree
import PyProof.P3Eq
import PyProof.NeData
import PyProof.StrLawsTight
import PyProof.StrLawsReplace
import PyProof.StrCalls2
import KE.IntTextLaws
import KE.KMinBuiltin
import PyProof.WalkInts
import PyProof.Rows.CallKwBuiltin
import PyProof.Rows.CallKw2
import PyProof.SetScanFacts
import PyProof.SetKind
import PyProof.DictStraight
import PyProof.Rows.SetFrom
import PyProof.DictIter
import PyProof.Walks
import PyProof.FactsAll.set_1
import PyProof.Rows.TupIn
import PyProof.CollectWalk
import PyProof.FactsAll.set_2
import PyProof.Rows.SortWalk
import PyProof.MeetsStr
import PyProof.StrLaws
import PyProof.StrBlockL
import PyProof.ListRange
import PyProof.ZipIter
import PyProof.EnumMake
import PyProof.Rows.EnumRows
import PyProof.Rows.FactsT2
import PyProof.DictWalks
import PyProof.Conv_int_bool
import KE.KRevSl
import KE.KLam
import KE.KMinKey
import PyProof.Rows.SortShellK
import KE.KSortTup
import PyProof.StrWalks
import PySem.Challenge.RW_roadbook_k13_runs_between
noncomputable section
set_option maxRecDepth 100000
set_option maxHeartbeats 4000000
set_option Elab.async false
set_option linter.all false
namespace L2
open PySem PySem.Spec PyProof.Rows
abbrev Zt:=Sum Int Str
def U4:Zt→Value→Bool
 | .inl k,v=>Value.isInt k v
 | .inr x,v=>Value.isStrOf x v
def ZiE (w:World):Zt→Int
 | .inl k=>hashInt k
 | .inr x=>hashStr w x
theorem VH:∀ {k:Zt} {v:Value},U4 k v=true→(∃ i t,k=Sum.inl i∧v=Value.int i t)∨(∃ x t,k=Sum.inr x∧v=Value.str x t)
 | .inl i,v,h=>by
  obtain ⟨t,e⟩:=Value.isInt_shape (k:=i) (v:=v) h
  exact .inl ⟨i,t,rfl,e⟩
 | .inr x,v,h=>by
  obtain ⟨t,e⟩:=Value.isStrOf_shape (x:=x) (v:=v) h
  exact .inr ⟨x,t,rfl,e⟩
theorem ZiF (i:Int) (t:Tok):U4 (.inl i) (.int i t)=true:=by simp [U4,Value.isInt]
theorem ZiG (x:Str) (t:Tok):U4 (.inr x) (.str x t)=true:=by simp [U4,Value.isStrOf]
theorem ZiH (a b:Int):decide ((Sum.inl a:Zt)=Sum.inl b)=(a == b):=by
 by_cases e:a=b
 ·subst e;simp
 ·have h:¬ (Sum.inl a:Zt)=Sum.inl b:=fun q=>e (Sum.inl.inj q)
  rw [decide_eq_false h]
  exact (beq_eq_false_iff_ne.mpr e).symm
theorem ZiI (a b:Str):decide ((Sum.inr a:Zt)=Sum.inr b)=decide (a=b):=by
 by_cases e:a=b
 ·subst e;simp
 ·have h:¬ (Sum.inr a:Zt)=Sum.inr b:=fun q=>e (Sum.inr.inj q)
  rw [decide_eq_false h,decide_eq_false e]
theorem ZiJ (a:Int) (b:Str):decide ((Sum.inl a:Zt)=Sum.inr b)=false:=decide_eq_false (fun q=>nomatch q)
theorem ZiK (a:Str) (b:Int):decide ((Sum.inr a:Zt)=Sum.inl b)=false:=decide_eq_false (fun q=>nomatch q)
def Xy (prog:Program) (w:World):PySem.KeyKind prog w Zt where
 is:=U4
 hash:=ZiE w
 inj:=fun v a b ha hb=>by
  rcases VH ha with ⟨i,t,rfl,rfl⟩ | ⟨x,t,rfl,rfl⟩
  ·rcases VH hb with ⟨j,u,rfl,e⟩ | ⟨y,u,rfl,e⟩
   ·injection e with e1 _;rw [e1]
   ·exact nomatch e
  ·rcases VH hb with ⟨j,u,rfl,e⟩ | ⟨y,u,rfl,e⟩
   ·exact nomatch e
   ·injection e with e1 _;rw [e1]
 byValue:=fun k v h=>by
  rcases VH h with ⟨i,t,rfl,rfl⟩ | ⟨x,t,rfl,rfl⟩ <;> rfl
 pyHash:=fun hv h=>by
  rcases VH hv with ⟨i,t,rfl,rfl⟩ | ⟨x,t,rfl,rfl⟩
  ·exact wpAny_pyHash_int h
  ·exact wpAny_pyHash_str h
 eqBool:=fun hu hv h=>by
  rcases VH hu with ⟨i,t,rfl,rfl⟩ | ⟨x,t,rfl,rfl⟩
  ·rcases VH hv with ⟨j,u,rfl,rfl⟩ | ⟨y,u,rfl,rfl⟩
   ·rw [ZiH] at h;exact wpAny_eqBool_int h
   ·rw [ZiJ] at h;exact SeqAt.EqAt.int_str i t y u _ _ _ _ h
  ·rcases VH hv with ⟨j,u,rfl,rfl⟩ | ⟨y,u,rfl,rfl⟩
   ·rw [ZiK] at h;exact SeqAt.EqAt.str_int x t j u _ _ _ _ h
   ·rw [ZiI] at h;exact wpAny_eqBool_str h
 «strs»:=fun k x t v h=>by
  rcases VH h with ⟨i,u,rfl,e⟩ | ⟨y,u,rfl,e⟩
  ·exact nomatch e
  ·injection e with e1 _
   subst e1
   cases v <;> rfl
theorem ZiL (prog:Program) (w:World) (i:Int) (t:Tok):(Xy prog w).is (.inl i) (.int i t)=true:=ZiF i t
theorem ZiM (prog:Program) (w:World) (x:Str) (t:Tok):(Xy prog w).is (.inr x) (.str x t)=true:=ZiG x t
end L2
namespace L2
open PySem PySem.Spec PyProof.Rows
inductive V where
 | non | bl (b:Bool) | int (i:Int) | str (x:Str) | byt (b:Array UInt8) | flt (b:UInt64) | ref (a:Addr) | ty (n:String)
 deriving DecidableEq
def ZC:V→Value→Prop
 | .non,u=>u=Value.none
 | .bl b,u=>u=Value.bool b
 | .int i,u=>∃ t,u=Value.int i t
 | .str x,u=>∃ t,u=Value.str x t
 | .byt b,u=>∃ t,u=Value.bytes b t
 | .flt b,u=>∃ t,u=Value.float b t
 | .ref a,u=>u=Value.ref a
 | .ty n,u=>u=Value.type n
abbrev Zy:List V→List Value→Prop:=Paired ZC
theorem Zy.length {xs:List V} {us:List Value} (r:Zy xs us):xs.length=us.length:=Paired.length r
theorem Zy.get:∀ {xs:List V} {us:List Value} {i:Nat} {x:V},Zy xs us→xs[i]? = some x→∃ u,us[i]? = some u∧ZC x u
 | _,_,_,_,.nil,e=>by simp at e
 | _,_,0,_,.cons r _,e=>by simp at e;subst e;exact ⟨_,rfl,r⟩
 | _,_,i+1,x,.cons _ t,e=>by
  obtain ⟨u,h1,h2⟩:=Zy.get (i:=i) (x:=x) t (by simpa using e)
  exact ⟨u,by simpa using h1,h2⟩
theorem Zy.set {x:V} {u:Value} (r:ZC x u):∀ {xs:List V} {us:List Value} (i:Nat),Zy xs us→Zy (xs.set i x) (us.set i u)
 | _,_,_,.nil=>.nil
 | _,_,0,.cons _ t=>.cons r t
 | _,_,i+1,.cons q t=>.cons q (Zy.set r i t)
theorem Zy.append:∀ {xs ys:List V} {us ws:List Value},Zy xs us→Zy ys ws→Zy (xs++ys) (us++ws)
 | _,_,_,_,.nil,s=>s
 | _,_,_,_,.cons r t,s=>.cons r (Zy.append t s)
theorem Zy.take:∀ {xs:List V} {us:List Value} (n:Nat),Zy xs us→Zy (xs.take n) (us.take n)
 | _,_,0,_=>.nil
 | _,_,_+1,.nil=>.nil
 | _,_,n+1,.cons r t=>.cons r (Zy.take n t)
theorem Zy.drop:∀ {xs:List V} {us:List Value} (n:Nat),Zy xs us→Zy (xs.drop n) (us.drop n)
 | _,_,0,r=>r
 | _,_,_+1,.nil=>.nil
 | _,_,n+1,.cons _ t=>Zy.drop n t
def Xp:Option V→Option Value→Prop
 | some v,some u=>ZC v u
 | none,none=>True
 | _,_=>False
def KV {κ:Type}:List (κ×V)→List (κ×Value)→Prop:=Paired fun (p:κ×V) (q:κ×Value)=>p.1=q.1∧ZC p.2 q.2
def kV:Zt→V
 | .inl i=>.int i
 | .inr x=>.str x
inductive HO where
  | lst (xs:List V)
  | tup (xs:List V)
  | dK (kvs:List (Zt×V)) | dT (kvs:List (List Zt×V))
  | set (S:Int→Bool) (n:Nat)
  | ins (C dx:Addr) (fs:List (Str×V))
  | own (x:Addr)
  | xd (fs:List (Str×V))
  | met (f x:Addr)
  | rng (lo hi:Int)
  | frz (o:Obj) (u:HO)
  | tbl (ps:Array Value)
  | ext (φ:Heap→Prop)
abbrev Hp:=Addr→Option HO
def Zd (H:Hp) (a:Addr) (o:HO):Hp:=fun b=>if b=a then some o else H b
theorem Zh {H:Hp} {a:Addr} {o:HO}:Zd H a o a=some o:=by unfold Zd;rw [if_pos rfl]
theorem Zl {H:Hp} {a b:Addr} {o:HO} (h:b≠a):Zd H a o b=H b:=by unfold Zd;rw [if_neg h]
theorem YL {H:Hp} {a b:Addr} {o u:HO} (h:H a=some o) (h':H b=some u) (d:o≠u):a≠b:=by
 intro e;subst e;rw [h] at h';exact d (Option.some.inj h')
theorem Yp {H:Hp} {a b:Addr} {o:HO} (h:H a=some o) (h':H b=none):a≠b:=by
 intro e;subst e;rw [h] at h';cases h'
section
variable (P:Program) (w:World)
def Yc (H:Hp) (h:Heap) (a:Addr):HO→Prop
 | .lst xs=>xs.length≤sizeLine∧∃ (its:List Value) (n:Nat),Zy xs its∧h.get? a=some { cls:=.type "list",data:=.seq its.toArray n }
 | .tup xs=>xs.length≤sizeLine∧∃ its:List Value,Zy xs its∧IsTup h a its.toArray
 | .dK kvs=>kvs.length≤sizeLine∧(a == sysModules)=false∧∃ vs,KV kvs vs∧h.DictOf (Xy P w) a vs
 | .dT kvs=>kvs.length≤sizeLine∧(a == sysModules)=false∧∃ xs:List (List Zt×Addr×Value),
   Paired (fun (p:List Zt×V) (q:List Zt×Addr×Value)=>p.1=q.1∧H q.2.1=some (.tup (p.1.map kV))∧ZC p.2 q.2.2) kvs xs ∧
   ∃ o es ep,h.get? a=some o∧o.ExactDict∧o.data=.dict es ep∧es.toList=xs.map (entryOfKey (tupleKind (Xy P w)))∧(xs.map (·.1)).Nodup
 | .set S n=>h.SetOf (intKind P w) a S n
 | .ins C dx fs=>H dx=some (.own a)∧fs.length≤1000∧dx≠a∧h.get? a=some (PySem.W.instObj C dx) ∧
   ∃ mA,h.Ns1 dx mA∧(∀ f,Xp (fs.lookup f) (mA f))∧PySem.Within mA (fs.map (·.1))
 | .own _=>∃ o,h.get? a=some o
 | .xd fs=>∃ mA,h.Ns1 a mA∧∀ f,Xp (fs.lookup f) (mA f)
 | .rng lo hi=>∃ t u v,h.get? a=some { cls:=.type "range",data:=.fields #[.int lo t,.int hi u,.int 1 v] }
 | .frz o u=>h.get? a=some o∧Yc H h a u
 | .tbl ps=>h.get? a=some { cls:=.none,data:=.fields ps }
 | .met f x=>h.get? a=some (PySem.W.methodObj (.ref f) (.ref x))
 | .ext φ=>φ h∧(∃ o,h.get? a=some o)∧∀ h1 h2:Heap,φ h1→(∀ o,h1.get? a=some o→h2.get? a=some o)→φ h2
def Yy (H:Hp) (h:Heap):Prop:=∀ a o,H a=some o→Yc P w H h a o
end
section
variable {P:Program} {w:World} {H H':Hp} {h h':Heap} {a:Addr} {o:HO}
theorem Yc.lt (x:Yc P w H h a o):a < h.objs.size:=by
 cases o with
 | lst xs=>obtain ⟨_,_,_,_,e⟩:=x;exact Heap.lt_size e
 | tup xs=>obtain ⟨_,_,_,p⟩:=x;exact p.lt
 | dK kvs=>obtain ⟨_,_,_,_,o,_,_,e,_⟩:=x;exact Heap.lt_size e
 | dT kvs=>obtain ⟨_,_,_,_,o,_,_,e,_⟩:=x;exact Heap.lt_size e
 | set S n=>obtain ⟨o,_,_,_,e,_⟩:=x;exact Heap.lt_size e
 | ins C dx fs=>obtain ⟨_,_,_,e,_⟩:=x;exact Heap.lt_size e
 | own y=>obtain ⟨_,e⟩:=x;exact Heap.lt_size e
 | xd fs=>obtain ⟨_,⟨_,_,_,e,_⟩,_⟩:=x;exact Heap.lt_size e
 | rng lo hi=>obtain ⟨_,_,_,e⟩:=x;exact Heap.lt_size e
 | frz ob u=>obtain ⟨e,_⟩:=x;exact Heap.lt_size e
 | tbl ps=>exact Heap.lt_size (show h.get? a=some _ from x)
 | met f y=>exact Heap.lt_size (show h.get? a=some _ from x)
 | ext φ=>obtain ⟨_,⟨_,e⟩,_⟩:=x;exact Heap.lt_size e
theorem Paired.mapP {α β:Type} {F G:α→β→Prop}:∀ {l₁:List α} {l₂:List β},Paired F l₁ l₂→(∀ a b,F a b→G a b)→Paired G l₁ l₂
 | _,_,.nil,_=>.nil
 | _,_,.cons r t,f=>.cons (f _ _ r) (Paired.mapP t f)
theorem Yc.stay (x:Yc P w H h a o) (k:∀ b u,(b=a∨H b=some (.own a))→h.get? b=some u→h'.get? b=some u)
  (ho:∀ b,H b=some (.own a)→H' b=some (.own a)) (ht:∀ b xs,H b=some (.tup xs)→H' b=some (.tup xs)):Yc P w H' h' a o:=by
 induction o with
 | lst xs=>obtain ⟨z,its,n,r,e⟩:=x;exact ⟨z,its,n,r,k _ _ (.inl rfl) e⟩
 | tup xs=>obtain ⟨z,its,r,ob,e,c⟩:=x;exact ⟨z,its,r,ob,k _ _ (.inl rfl) e,c⟩
 | dK kvs=>obtain ⟨z,y,vs,r,ob,es,ep,e,c⟩:=x;exact ⟨z,y,vs,r,ob,es,ep,k _ _ (.inl rfl) e,c⟩
 | dT kvs =>
  obtain ⟨z,y,xs,r,ob,es,ep,e,c⟩:=x
  exact ⟨z,y,xs,Paired.mapP r fun p q z=>⟨z.1,ht _ _ z.2.1,z.2.2⟩,ob,es,ep,k _ _ (.inl rfl) e,c⟩
 | set S n=>obtain ⟨ob,es,ep,t,e,c⟩:=x;exact ⟨ob,es,ep,t,k _ _ (.inl rfl) e,c⟩
 | ins C dx fs =>
  obtain ⟨d,z,ne,e,mA,⟨od,es,ep,e2,c⟩,r⟩:=x
  exact ⟨ho _ d,z,ne,k _ _ (.inl rfl) e,mA,⟨od,es,ep,k _ _ (.inr d) e2,c⟩,r⟩
 | own y=>obtain ⟨ob,e⟩:=x;exact ⟨ob,k _ _ (.inl rfl) e⟩
 | xd fs=>obtain ⟨mA,⟨od,es,ep,e,c⟩,r⟩:=x;exact ⟨mA,⟨od,es,ep,k _ _ (.inl rfl) e,c⟩,r⟩
 | rng lo hi=>obtain ⟨t,u,v,e⟩:=x;exact ⟨t,u,v,k _ _ (.inl rfl) e⟩
 | frz ob u ih=>obtain ⟨e,q⟩:=x;exact ⟨k _ _ (.inl rfl) e,ih q⟩
 | tbl ps =>
  have e:h.get? a=some { cls:=.none,data:=.fields ps }:=x
  show h'.get? a=some { cls:=.none,data:=.fields ps }
  exact k a _ (.inl rfl) e
 | met f y =>
  have e:h.get? a=some (PySem.W.methodObj (.ref f) (.ref y)):=x
  show h'.get? a=some (PySem.W.methodObj (.ref f) (.ref y))
  exact k a _ (.inl rfl) e
 | ext φ=>obtain ⟨p,⟨o,e⟩,st⟩:=x;exact ⟨st _ _ p fun o q=>k _ _ (.inl rfl) q,⟨o,k _ _ (.inl rfl) e⟩,st⟩
theorem Yy.lt (x:Yy P w H h) (e:H a=some o):a < h.objs.size:=(x a o e).lt
theorem Yy.fresh (x:Yy P w H h) (e:h.objs.size≤a):H a=none:=by
 cases q:H a with
 | none=>rfl
 | some u=>exact absurd (Nat.lt_of_lt_of_le (x.lt q) e) (Nat.lt_irrefl _)
theorem Yy.kept (x:Yy P w H h) (k:∀ b u,h.get? b=some u→h'.get? b=some u):Yy P w H h':=fun a o e =>
 (x a o e).stay (fun b u _ q=>k b u q) (fun _ q=>q) fun _ _ q=>q
theorem Yy.laid (x:Yy P w H h) (k:∀ b u,h.get? b=some u→h'.get? b=some u) (hp:h.objs.size≤a) (new:Yc P w (Zd H a o) h' a o):Yy P w (Zd H a o) h':=fun b u e=>by
 have hn:=x.fresh hp
 by_cases hb:b=a
 ·subst hb;rw [Zh] at e;cases e;exact new
 ·rw [Zl hb] at e
  exact (x b u e).stay (fun c v _ q=>k c v q) (fun c q=>by rw [Zl (Yp q hn)];exact q) fun c xs q=>by rw [Zl (Yp q hn)];exact q
end
def Rd (H:Hp) (a:Addr) (u:HO):Prop:=H a=some u∨∃ o,H a=some (.frz o u)
theorem Rd.ok {P:Program} {w:World} {H:Hp} {h:Heap} {a:Addr} {u:HO} (r:Rd H a u) (x:Yy P w H h):Yc P w H h a u:=by
 rcases r with r | ⟨o,r⟩
 ·exact x a u r
 ·obtain ⟨_,q⟩:=x a _ r
  exact q
def Mut:Option HO→Prop
 | some (.lst _)=>True
 | some (.dK _)=>True
 | some (.dT _)=>True
 | some (.set _ _)=>True
 | some (.ins _ _ _)=>True
 | some (.ext _)=>True
 | _=>False
section
variable {P:Program} {w:World} {H:Hp} {h h':Heap} {x e:Addr} {o':HO}
theorem Yy.write (ok:Yy P w H h) (mu:Mut (H x)) (he:e=x∨H e=some (.own x)) (k:∀ b u,b≠e→h.get? b=some u→h'.get? b=some u) (heo:∃ u,h'.get? e=some u)
  (new:Yc P w (Zd H x o') h' x o'):Yy P w (Zd H x o') h':=fun b u q=>by
 have nown:∀ c y,H c=some (.own y)→c≠x:=fun c y r z=>by subst z;rw [r] at mu;exact mu
 have ntup:∀ c xs,H c=some (.tup xs)→c≠x:=fun c xs r z=>by subst z;rw [r] at mu;exact mu
 by_cases hb:b=x
 ·subst hb;rw [Zh] at q;cases q;exact new
 ·rw [Zl hb] at q
  by_cases hbe:b=e
  ·have q':H b=some (.own x):=by
    rcases he with z | z
    ·exact absurd (hbe.trans z) hb
    ·rw [hbe];exact z
   rw [q] at q';cases q'
   obtain ⟨v,hv⟩:=heo
   exact ⟨v,by rw [hbe];exact hv⟩
  ·refine (ok b u q).stay (fun c v hc r=>k c v ?_ r) (fun c r=>by rw [Zl (nown c b r)];exact r) fun c xs r=>by rw [Zl (ntup c xs r)];exact r
   rcases hc with rfl | hc
   ·exact hbe
   ·rintro rfl
    rcases he with z | z
    ·exact nown c b hc z
    ·rw [hc] at z;cases z;exact hb rfl
end
structure Un (fs ex:List Addr) (H H':Hp) (h h':Heap):Prop where
 keep:∀ b o,h.get? b=some o→H b=none→b∉fs→b∉ex→h'.get? b=some o
 slot:∀ b o,h.get? b=some o→H b=none→b∈fs→b∉ex→∃ sl,h'.get? b=some { o with slots:=sl }
 free:∀ b o,h.get? b=some o→H b=none→b∉ex→H' b=none
 there:∀ b o,h.get? b=some o→b∉ex→∃ o',h'.get? b=some o'
 tups:∀ b xs,H b=some (.tup xs)→H' b=some (.tup xs)
 frzs:∀ b o u,H b=some (.frz o u)→H' b=some (.frz o u)
 tbls:∀ b ps,H b=some (.tbl ps)→∃ more,H' b=some (.tbl (ps++more))
section
variable {fs fs' ex ex':List Addr} {H H1 H2:Hp} {h h1 h2 h':Heap} {a x e:Addr} {o:HO}
theorem Un.any (u:Un fs ex H H1 h h1) {b:Addr} {ob:Obj} (q:h.get? b=some ob) (n:H b=none) (hx:b∉ex):∃ sl,h1.get? b=some { ob with slots:=sl }:=by
 by_cases hb:b∈fs
 ·exact u.slot b ob q n hb hx
 ·exact ⟨ob.slots,u.keep b ob q n hb hx⟩
theorem Un.kept (k:∀ b u,h.get? b=some u→h'.get? b=some u):Un fs ex H H h h' :=
 ⟨fun b ob q _ _ _=>k b ob q,fun b ob q _ _ _=>⟨ob.slots,k b ob q⟩,fun _ _ _ n _=>n,fun b ob q _=>⟨ob,k b ob q⟩,fun _ _ q=>q,fun _ _ _ q=>q,fun _ ps q=>⟨#[],by rw [q];simp⟩⟩
theorem Un.refl:Un fs ex H H h h:=Un.kept fun _ _ q=>q
theorem Un.laid (k:∀ b u,h.get? b=some u→h'.get? b=some u) (hp:h.objs.size≤a) (hn:H a=none):Un fs ex H (Zd H a o) h h' where
 keep:=fun b u q _ _ _=>k b u q
 slot:=fun b u q _ _ _=>⟨u.slots,k b u q⟩
 free:=fun b u q n _=>by rw [Zl (Nat.ne_of_lt (Nat.lt_of_lt_of_le (Heap.lt_size q) hp))];exact n
 there:=fun b u q _=>⟨u,k b u q⟩
 tups:=fun b xs q=>by rw [Zl (Yp q hn)];exact q
 frzs:=fun b u xs q=>by rw [Zl (Yp q hn)];exact q
 tbls:=fun b ps q=>⟨#[],by rw [Zl (Yp q hn),q];simp⟩
theorem Un.write (mu:Mut (H x)) (he:e=x∨H e=some (.own x)) (k:∀ b u,b≠e→h.get? b=some u→h'.get? b=some u) (heo:∃ u,h'.get? e=some u):Un fs ex H (Zd H x o) h h':=by
 have hx:∀ b,H b=none→b≠x:=fun b n z=>by subst z;rw [n] at mu;exact mu
 have hb:∀ b,H b=none→b≠e:=fun b n z=>by
  subst z
  rcases he with r | r
  ·exact hx b n r
  ·rw [n] at r;cases r
 have hm:∀ b u,H b=some u→¬ Mut (some u)→b≠x:=fun b u q nm z=>by subst z;rw [q] at mu;exact nm mu
 refine ⟨fun b u q n _ _=>k b u (hb b n) q,fun b u q n _ _=>⟨u.slots,k b u (hb b n) q⟩,fun b u q n _=>by rw [Zl (hx b n)];exact n,fun b u q _=>?_,
  fun b xs q=>by rw [Zl (hm b _ q fun z=>z)];exact q,fun b u xs q=>by rw [Zl (hm b _ q fun z=>z)];exact q,fun b ps q=>⟨#[],by rw [Zl (hm b _ q fun z=>z),q];simp⟩⟩
 by_cases hbe:b=e
 ·subst hbe;exact heo
 ·exact ⟨u,k b u hbe q⟩
end
def trk (h:Heap) (H:Hp):List Addr:=(List.range h.objs.size).filter fun a=>(H a).isSome
def W1 (h:Heap) (H:Hp):Heap:=PySem.W.hideAll h (trk h H)
theorem ZiN (h:Heap) (H:Hp):(W1 h H).objs.size=h.objs.size:=PySem.W.hideAll_size _ _
theorem ZiO {h:Heap} {H:Hp} {b:Addr} {o:Obj} (e:h.get? b=some o) (n:H b=none):(W1 h H).get? b=some o :=
 PySem.W.hideAll_get _ e fun hm=>by
  have q:(H b).isSome=true:=(List.mem_filter.mp hm).2
  rw [n] at q;simp at q
theorem ZiP {h:Heap} {H:Hp} {b:Addr} {o:Obj} (e:(W1 h H).get? b=some o):h.get? b=some o∧H b=none:=by
 have e':h.get? b=some o:=PySem.W.of_hideAll (trk h H) e
 refine ⟨e',?_⟩
 cases q:H b with
 | none=>rfl
 | some x =>
  have hm:b∈trk h H:=List.mem_filter.mpr ⟨List.mem_range.mpr (Heap.lt_size e'),by simp [q]⟩
  have z:(W1 h H).get? b=none:=PySem.W.hideAll_none (trk h H) hm
  rw [z] at e;cases e
end L2
namespace L2
open PySem PySem.Spec PyProof.Rows
structure Mod (K:PySem.W.Frag) (mg:Str→Option Value) (base:Heap):Prop where
 kin:K.In base
 glob:base.Ns mainGlobals mg
 blt:∃ mb,base.Ns builtinsNs mb∧∀ x:Str,x ≠ "__name__" → mb x=bootBuiltins x
 nolimit:base.NoLimit
structure Cx where
 prog:Program
 w:World
 K:PySem.W.Frag
 mg:Str→Option Value
 base:Heap
 A:Around
 N:List Str
 s₀:Shared
 H₀:Hp
 env:Env
 outer:List Env
 stack:List Env
 ex:List Addr
 fn:Str→Bool
 calm:Bool
 pn:List (Addr×Obj)
 xe:Value→Shared→Prop
def Wb (l:List Env):List Addr:=l.filterMap (·.frame)
abbrev Cx.fs (X:Cx):List Addr:=Wb X.outer
def Vis (sc:Scope) (x:Str):Prop:=sc.names.lookup x=some .local∨sc.names.lookup x=some .cell∨sc.names.lookup x=some .free
def Loc (sc:Scope) (x:Str):Prop:=sc.names.lookup x=some .local∨sc.names.lookup x=some .cell
def ZiQ (env:Env) (h:Heap) (m:Str→Option Value) (x:Str) (u:Value):Prop :=
 (env.kindOf x=some .local∧m x=some u)∨((env.kindOf x=some .cell∨env.kindOf x=some .free)∧∃ c,env.cells.lookup x=some c∧h.IsCell c (some u))
structure Cx.Ok (X:Cx):Prop where
 mod:Mod X.K X.mg X.base
 kind:X.env.scope.kind=.function
 glob:X.env.globals=mainGlobals
 blt:X.env.builtins=builtinsNs
 above:X.s₀.heap.objs.size≤X.env.locals
 inj:∀ x y c,X.env.cells.lookup x=some c→X.env.cells.lookup y=some c→x=y
 has:∀ x,(X.env.kindOf x=some .cell∨X.env.kindOf x=some .free)→∃ c,X.env.cells.lookup x=some c
 cab:∀ x c,X.fn x=true→X.env.cells.lookup x=some c→X.s₀.heap.objs.size≤c
 hd:X.calm=true→X.A.handled=none
 frames:X.A.frames=some X.stack
 stk:X.stack=X.outer∨(X.stack=X.env::X.outer∧X.env.frame=some X.env.locals)
 exf:∀ b∈X.ex,b≠X.env.locals∧∀ x c,X.env.cells.lookup x=some c→c≠b
 bs:∀ b o,X.base.get? b=some o→X.s₀.heap.get? b=some o∧X.H₀ b=none
 bsz:X.base.objs.size≤X.s₀.heap.objs.size
 noex:∀ b o,X.base.get? b=some o→b∉X.ex
 exfs:∀ b∈X.ex,b∉X.fs
 funs:X.s₀.heap.FunFrames X.base X.outer
 frf:∀ b∈X.fs,X.H₀ b=none
structure Zf (X:Cx) (pins:List (Addr×Obj)) (σ:List (Option V)) (H:Hp) (s:Shared):Prop where
 ok:X.Ok
 os:s.os=X.s₀.os
 bare:AllBare s.gens
 base:Un X.fs X.ex X.H₀ H X.s₀.heap s.heap
 loc:∃ m,s.heap.Ns X.env.locals m∧∀ (i:Nat) (x:Str) (v:V),X.N[i]? = some x→σ[i]? = some (some v)→Vis X.env.scope x→∃ u,ZC v u∧ZiQ X.env s.heap m x u
 cell:∀ x c,X.env.cells.lookup x=some c→∃ v,s.heap.IsCell c v
 free:H X.env.locals=none
 freeC:∀ x c,X.env.cells.lookup x=some c→H c=none
 pin:∀ p∈X.pn++pins,s.heap.get? p.1=some p.2∧H p.1=none∧p.1≠X.env.locals∧p.1∉X.fs∧∀ v,p.2.data≠.cell v
 hok:Yy X.prog X.w H s.heap
 len:σ.length=X.N.length
section
variable {X:Cx} {pins:List (Addr×Obj)} {σ:List (Option V)} {H H':Hp} {s:Shared} {h':Heap}
theorem Cx.Ok.nofr (ok:X.Ok) {b:Addr} {o:Obj} (e:X.base.get? b=some o):b∉X.fs:=fun hb=>by
 have:=(ok.funs.mem hb).1
 rw [e] at this;cases this
theorem Zf.bs (I:Zf X pins σ H s):∀ b o,X.base.get? b=some o→s.heap.get? b=some o∧H b=none:=fun b o e =>
 ⟨I.base.keep b o (I.ok.bs b o e).1 (I.ok.bs b o e).2 (I.ok.nofr e) (I.ok.noex b o e),I.base.free b o (I.ok.bs b o e).1 (I.ok.bs b o e).2 (I.ok.noex b o e)⟩
theorem Zf.bk (I:Zf X pins σ H s):∀ b o,X.base.get? b=some o→s.heap.get? b=some o:=fun b o e=>(I.bs b o e).1
theorem Zf.mod (I:Zf X pins σ H s):Mod X.K X.mg X.base:=I.ok.mod
theorem Zf.kIn (I:Zf X pins σ H s):X.K.In s.heap:=I.ok.mod.kin.keeps I.bk
theorem Zf.lt (I:Zf X pins σ H s):X.env.locals < s.heap.objs.size:=let ⟨_,hn,_⟩:=I.loc;hn.lt
theorem Zf.sz (I:Zf X pins σ H s):X.s₀.heap.objs.size≤s.heap.objs.size:=Nat.le_trans I.ok.above (Nat.le_of_lt I.lt)
theorem Zf.nofs (I:Zf X pins σ H s) {a:Addr} (h:s.heap.objs.size≤a):a∉X.fs:=fun hb=>by
 obtain ⟨_,o,ho,_⟩:=I.ok.funs.mem hb
 exact absurd (Nat.lt_of_lt_of_le (Heap.lt_size ho) (Nat.le_trans I.sz h)) (Nat.lt_irrefl _)
theorem Zf.cne (I:Zf X pins σ H s):∀ x c,X.env.cells.lookup x=some c→c≠X.env.locals:=fun x c e z=>by
 obtain ⟨v,o,ho,hd⟩:=I.cell x c e
 obtain ⟨m,⟨o',es,ep,ho',hd',_⟩,_⟩:=I.loc
 rw [z,ho'] at ho;cases ho;rw [hd'] at hd;cases hd
theorem Zf.funs (I:Zf X pins σ H s):s.heap.FunFrames X.base X.outer:=by
 have all:∀ (l:List Env),(∀ b∈Wb l,b∈X.fs)→X.s₀.heap.FunFrames X.base l→s.heap.FunFrames X.base l:=by
  intro l
  induction l with
  | nil=>intro _ _;trivial
  | cons env r ih =>
   intro hs hl
   obtain ⟨hk,⟨L,o,hf,hn,ho,hd⟩,hr⟩:=hl
   have hL:L∈X.fs:=hs L (by unfold Wb;rw [List.filterMap_cons,hf];exact List.mem_cons_self)
   obtain ⟨sl,e⟩:=I.base.slot L o ho (I.ok.frf L hL) hL fun z=>I.ok.exfs L z hL
   exact ⟨hk,⟨L,_,hf,hn,e,hd⟩,ih (fun b hb=>hs b (by unfold Wb;rw [List.filterMap_cons,hf];exact List.mem_cons_of_mem _ hb)) hr⟩
 exact all X.outer (fun _ hb=>hb) I.ok.funs
theorem Zf.stack (I:Zf X pins σ H s):s.heap.FunFrames X.base X.stack:=by
 rcases I.ok.stk with e | ⟨e,hf⟩
 ·rw [e];exact I.funs
 ·rw [e]
  obtain ⟨m,hn,_⟩:=I.loc
  refine .cons (by rw [I.ok.kind];decide) hf hn ?_ I.funs
  exact Heap.get?_none_of_le (Nat.le_trans I.ok.bsz I.ok.above)
theorem Zf.stkSub (I:Zf X pins σ H s):∀ b∈Wb X.stack,b∈X.env.locals::X.fs:=fun b hb=>by
 rcases I.ok.stk with e | ⟨e,hf⟩
 ·rw [e] at hb;exact List.mem_cons_of_mem _ hb
 ·rw [e] at hb
  unfold Wb at hb
  rw [List.filterMap_cons,hf] at hb
  exact hb
theorem Zf.stkFree (I:Zf X pins σ H s):∀ b∈Wb X.stack,H b=none:=fun b hb=>by
 rcases List.mem_cons.mp (I.stkSub b hb) with e | hb
 ·rw [e];exact I.free
 ·obtain ⟨_,o,ho,_⟩:=I.ok.funs.mem hb
  exact I.base.free b o ho (I.ok.frf b hb) fun z=>I.ok.exfs b z hb
theorem Zf.step {g':Array GenState} {t':Nat} {d':Drawn} {ch:List Addr} (I:Zf X pins σ H s)
  (hch:∀ b∈ch,(b∈X.ex∨X.s₀.heap.objs.size≤b)∧b≠X.env.locals∧(∀ x c,X.env.cells.lookup x=some c→c≠b)∧∀ p∈X.pn++pins,p.1≠b)
  (keep:∀ b o,b≠X.env.locals→b∉X.fs→b∉ch→s.heap.get? b=some o→H b=none→h'.get? b=some o)
  (slot:∀ b o,b≠X.env.locals→b∈X.fs→b∉ch→s.heap.get? b=some o→H b=none→∃ sl,h'.get? b=some { o with slots:=sl }) (free:∀ b o,b∉ch→s.heap.get? b=some o→H b=none→H' b=none)
  (there:∀ b o,b∉ch→s.heap.get? b=some o→∃ o',h'.get? b=some o')
  (tups:∀ b xs,H b=some (.tup xs)→H' b=some (.tup xs)) (frzs:∀ b o u,H b=some (.frz o u)→H' b=some (.frz o u)) (tbls:∀ b ps,H b=some (.tbl ps)→∃ more,H' b=some (.tbl (ps++more)))
  (ns:∀ m,s.heap.Ns X.env.locals m→h'.Ns X.env.locals m) (hok:Yy X.prog X.w H' h') (hg:AllBare g') :
  Zf X pins σ H' { s with heap:=h',gens:=g',drawn:=d',toks:=t' }:=by
 have neL:∀ b o,X.s₀.heap.get? b=some o→b≠X.env.locals:=fun b o e=>Nat.ne_of_lt (Nat.lt_of_lt_of_le (Heap.lt_size e) I.ok.above)
 have neC:∀ b o,X.s₀.heap.get? b=some o→b∉X.ex→b∉ch:=fun b o e hx hb=>by
  rcases (hch b hb).1 with z | z
  ·exact hx z
  ·exact absurd (Nat.lt_of_lt_of_le (Heap.lt_size e) z) (Nat.lt_irrefl _)
 have cellK:∀ x c,X.env.cells.lookup x=some c→∀ v,s.heap.IsCell c v→h'.IsCell c v:=fun x c e v ⟨o,ho,hd⟩=>by
  have nch:c∉ch:=fun z=>(hch c z).2.2.1 x c e rfl
  by_cases hc:c∈X.fs
  ·obtain ⟨sl,q⟩:=slot c o (I.cne x c e) hc nch ho (I.freeC x c e)
   exact ⟨_,q,hd⟩
  ·exact ⟨o,keep c o (I.cne x c e) hc nch ho (I.freeC x c e),hd⟩
 refine ⟨I.ok,I.os,hg,⟨fun b o e n hb hx=>?_,fun b o e n hb hx=>?_,fun b o e n hx=>?_,fun b o e hx=>?_,fun b xs e=>tups b xs (I.base.tups b xs e),fun b o xs e=>frzs b o xs (I.base.frzs b o xs e),fun b ps e=>?_⟩,?_,fun x c e=>?_,?_,fun x c e=>?_,fun p hp=>?_,hok,I.len⟩
 ·exact keep b o (neL b o e) hb (neC b o e hx) (I.base.keep b o e n hb hx) (I.base.free b o e n hx)
 ·obtain ⟨sl,e1⟩:=I.base.slot b o e n hb hx
  obtain ⟨sl',e2⟩:=slot b _ (neL b o e) hb (neC b o e hx) e1 (I.base.free b o e n hx)
  exact ⟨sl',e2⟩
 ·obtain ⟨o',e1⟩:=I.base.there b o e hx
  exact free b o' (neC b o e hx) e1 (I.base.free b o e n hx)
 ·obtain ⟨o',e1⟩:=I.base.there b o e hx
  exact there b o' (neC b o e hx) e1
 ·obtain ⟨m1,e1⟩:=I.base.tbls b ps e
  obtain ⟨m2,e2⟩:=tbls b _ e1
  exact ⟨m1++m2,by rw [e2,Array.append_assoc]⟩
 ·obtain ⟨m,hn,hl⟩:=I.loc
  refine ⟨m,ns m hn,fun i x v e1 e2 e3=>?_⟩
  obtain ⟨u,r,l⟩:=hl i x v e1 e2 e3
  refine ⟨u,r,?_⟩
  rcases l with l | ⟨k,c,e,z⟩
  ·exact .inl l
  ·exact .inr ⟨k,c,e,cellK x c e _ z⟩
 ·obtain ⟨v,z⟩:=I.cell x c e
  exact ⟨v,cellK x c e v z⟩
 ·obtain ⟨m,⟨o,_,_,ho,_⟩,_⟩:=I.loc
  exact free _ o (fun z=>(hch _ z).2.1 rfl) ho I.free
 ·obtain ⟨v,o,ho,hd⟩:=I.cell x c e
  exact free c o (fun z=>(hch c z).2.2.1 x c e rfl) ho (I.freeC x c e)
 ·obtain ⟨e,n,ne,nf,d⟩:=I.pin p hp
  have nch:p.1∉ch:=fun z=>(hch p.1 z).2.2.2 p hp rfl
  exact ⟨keep p.1 p.2 ne nf nch e n,free p.1 p.2 nch e n,ne,nf,d⟩
theorem Zf.un {t':Nat} (I:Zf X pins σ H s) (u:Un X.fs [] H H' s.heap h') (hok:Yy X.prog X.w H' h'):Zf X pins σ H' { s with heap:=h',toks:=t' }:=by
 obtain ⟨m,⟨o,es,ep,ho,r⟩,_⟩:=id I.loc
 obtain ⟨sl,hL⟩:=u.any ho I.free (by simp)
 exact I.step (g':=s.gens) (d':=s.drawn) (ch:=[]) (fun _ z=>nomatch z) (fun b o _ hb _ e n=>u.keep b o e n hb (by simp)) (fun b o _ hb _ e n=>u.slot b o e n hb (by simp)) (fun b o _ e n=>u.free b o e n (by simp)) (fun b o _ e=>u.there b o e (by simp)) u.tups u.frzs u.tbls (fun m' hm=>by
  obtain ⟨o',es',ep',ho',r'⟩:=hm
  rw [ho] at ho';cases ho'
  exact ⟨_,es',ep',hL,r'⟩) hok I.bare
theorem Zf.call {g':Array GenState} {t':Nat} {d':Drawn} {ch:List Addr} (I:Zf X pins σ H s) (u:Un (Wb X.stack) ch H H' s.heap h') (hok:Yy X.prog X.w H' h') (hg:AllBare g')
  (hch:∀ b∈ch,(b∈X.ex∨X.s₀.heap.objs.size≤b)∧b≠X.env.locals∧(∀ x c,X.env.cells.lookup x=some c→c≠b)∧∀ p∈X.pn++pins,p.1≠b) :
  Zf X pins σ H' { s with heap:=h',gens:=g',drawn:=d',toks:=t' }:=by
 obtain ⟨m,⟨o,es,ep,ho,r⟩,_⟩:=id I.loc
 obtain ⟨sl,hL⟩:=u.any ho I.free fun z=>(hch _ z).2.1 rfl
 exact I.step (ch:=ch) hch (fun b o hL hb hc e n=>u.keep b o e n (fun z=>(List.mem_cons.mp (I.stkSub b z)).elim hL hb) hc) (fun b o _ _ hc e n=>u.any e n hc) (fun b o hc e n=>u.free b o e n hc) (fun b o hc e=>u.there b o e hc) u.tups u.frzs u.tbls (fun m' hm=>by
  obtain ⟨o',es',ep',ho',r'⟩:=hm
  rw [ho] at ho';cases ho'
  exact ⟨_,es',ep',hL,r'⟩) hok hg
theorem Zf.turned {t':Nat} {it:Addr} (I:Zf X pins σ H s) (k:∀ b o,b≠it→s.heap.get? b=some o→h'.get? b=some o) (hn:H it=none) (hL:it≠X.env.locals)
  (h1:it∈X.ex∨X.s₀.heap.objs.size≤it) (h2:∀ x c,X.env.cells.lookup x=some c→c≠it) (h3:∀ p∈X.pn++pins,p.1≠it):Zf X pins σ H { s with heap:=h',toks:=t' }:=by
 have nit:∀ b u,H b=some u→b≠it:=fun b u e z=>by rw [z,hn] at e;cases e
 refine I.step (g':=s.gens) (d':=s.drawn) (ch:=[it]) (fun b hb=>?_) (fun b o _ _ hc e _=>k b o (fun z=>hc (by simp [z])) e) (fun b o _ _ hc e _=>⟨o.slots,k b o (fun z=>hc (by simp [z])) e⟩) (fun _ _ _ _ n=>n)
  (fun b o hc e=>⟨o,k b o (fun z=>hc (by simp [z])) e⟩) (fun _ _ e=>e) (fun _ _ _ e=>e) (fun b ps e=>⟨#[],by rw [e];simp⟩) (fun m hm=>?_) (fun b u e=>?_) I.bare
 ·have e:b=it:=by simpa using hb
  subst e
  exact ⟨h1,hL,h2,h3⟩
 ·obtain ⟨o,es,ep,ho,r⟩:=hm
  exact ⟨o,es,ep,k _ o (Ne.symm hL) ho,r⟩
 ·refine (I.hok b u e).stay (fun c v hc q=>k c v ?_ q) (fun _ q=>q) fun _ _ q=>q
  rcases hc with z | z
  ·rw [z];exact nit b u e
  ·exact nit c _ z
theorem Zf.tok (I:Zf X pins σ H s) (t:Nat):Zf X pins σ H { s with toks:=t }:=I.un (h':=s.heap) (t':=t) Un.refl I.hok
theorem Zf.kept {t':Nat} (I:Zf X pins σ H s) (k:∀ b u,s.heap.get? b=some u→h'.get? b=some u):Zf X pins σ H { s with heap:=h',toks:=t' }:=I.un (Un.kept k) (I.hok.kept k)
theorem Zf.laid {a:Addr} {o:HO} {t':Nat} (I:Zf X pins σ H s) (k:∀ b u,s.heap.get? b=some u→h'.get? b=some u) (hp:s.heap.objs.size≤a) (new:Yc X.prog X.w (Zd H a o) h' a o) :
  Zf X pins σ (Zd H a o) { s with heap:=h',toks:=t' }:=I.un (Un.laid k hp (I.hok.fresh hp)) (I.hok.laid k hp new)
theorem Zf.write {x e:Addr} {o:HO} {t':Nat} (I:Zf X pins σ H s) (mu:Mut (H x)) (he:e=x∨H e=some (.own x)) (k:∀ b u,b≠e→s.heap.get? b=some u→h'.get? b=some u) (heo:∃ u,h'.get? e=some u)
  (new:Yc X.prog X.w (Zd H x o) h' x o):Zf X pins σ (Zd H x o) { s with heap:=h',toks:=t' }:=I.un (Un.write mu he k heo) (I.hok.write mu he k heo new)
theorem Zf.pins_of {pins':List (Addr×Obj)} (I:Zf X pins σ H s) (h:∀ p∈pins',s.heap.get? p.1=some p.2∧H p.1=none∧p.1≠X.env.locals∧p.1∉X.fs∧∀ v,p.2.data≠.cell v):Zf X pins' σ H s :=
 ⟨I.ok,I.os,I.bare,I.base,I.loc,I.cell,I.free,I.freeC,fun p hp=>(List.mem_append.mp hp).elim (fun z=>I.pin p (List.mem_append_left _ z)) (h p),I.hok,I.len⟩
theorem Ub {N:List Str} (hN:N.Nodup) {i j:Nat} {x:Str} (a:N[i]? = some x) (b:N[j]? = some x):i=j:=by
 obtain ⟨h1,e1⟩:=List.getElem?_eq_some_iff.mp a
 obtain ⟨h2,e2⟩:=List.getElem?_eq_some_iff.mp b
 exact (List.getElem_inj hN).mp (e1.trans e2.symm)
theorem ZiR {M:Model} {A:Around} {E:Value→Shared→Prop} {i:Nat} {x:Str} {v:V} {u:Value} {Q:Unit→Shared→Prop} (I:Zf X pins σ H s) (hN:X.N.Nodup) (hi:X.N[i]? = some x) (hx:Loc X.env.scope x) (r:ZC v u)
  (h:∀ s',Zf X pins (σ.set i (some v)) H s'→(∃ a,Heap.SameBut a s.heap s'.heap∧(a=X.env.locals∨X.env.cells.lookup x=some a))→Q () s') (hf:X.fn x=true∨X.env.scope.names.lookup x=some .local:=by first | exact .inl rfl | exact .inr rfl | assumption):wpAny M A (storeName X.env x u) Q E s:=by
 obtain ⟨m,hn,hl⟩:=id I.loc
 have hcls:(X.env.scope.kind == .class || (X.env.scope.kind == .module && X.env.locals != X.env.globals))=false:=by rw [I.ok.kind];rfl
 have hiσ:i < σ.length:=by rw [I.len];exact (List.getElem?_eq_some_iff.mp hi).1
 have cne:=I.cne
 have tracked:∀ {a:Addr} {h':Heap},(∃ o,s.heap.get? a=some o∧H a=none)→Heap.SameBut a s.heap h'→Yy X.prog X.w H h':=fun {a h'} ha hs b ob e=>by
  obtain ⟨_,_,hfree⟩:=ha
  refine (I.hok b ob e).stay (fun c w' hc q=>(hs.2 c ?_).trans q) (fun _ q=>q) fun _ _ q=>q
  rintro rfl
  rcases hc with rfl | hc
  ·rw [hfree] at e;cases e
  ·rw [hfree] at hc;cases hc
 rcases hx with hk | hk
 ·refine wpAny_storeName_local hk hn (fun h' hn' hs=>?_) hcls
  obtain ⟨oL,_,_,hoL,_⟩:=id hn
  refine h _ ⟨I.ok,I.os,I.bare,⟨fun b o e n hb hx=>?_,fun b o e n hb hx=>?_,I.base.free,fun b o e hx=>?_,I.base.tups,I.base.frzs,I.base.tbls⟩,⟨_,hn',fun j y v' e1 e2 e3=>?_⟩,fun y c e=>?_,I.free,I.freeC,fun p hp=>?_,tracked ⟨oL,hoL,I.free⟩ hs,by simpa using I.len⟩ ⟨_,hs,.inl rfl⟩
  ·exact (hs.2 b (Nat.ne_of_lt (Nat.lt_of_lt_of_le (Heap.lt_size e) I.ok.above))).trans (I.base.keep b o e n hb hx)
  ·obtain ⟨sl,e1⟩:=I.base.slot b o e n hb hx
   exact ⟨sl,(hs.2 b (Nat.ne_of_lt (Nat.lt_of_lt_of_le (Heap.lt_size e) I.ok.above))).trans e1⟩
  ·obtain ⟨o',e1⟩:=I.base.there b o e hx
   exact ⟨o',(hs.2 b (Nat.ne_of_lt (Nat.lt_of_lt_of_le (Heap.lt_size e) I.ok.above))).trans e1⟩
  ·by_cases hj:j=i
   ·subst hj
    rw [hi] at e1;cases e1
    rw [List.getElem?_set_self hiσ] at e2
    cases e2
    exact ⟨u,r,.inl ⟨hk,by simp⟩⟩
   ·rw [List.getElem?_set_ne (Ne.symm hj)] at e2
    obtain ⟨u',r',q⟩:=hl j y v' e1 e2 e3
    refine ⟨u',r',?_⟩
    rcases q with ⟨k,e⟩ | ⟨k,c,e,z⟩
    ·refine .inl ⟨k,?_⟩
     have:y≠x:=fun e=>hj (Ub hN e1 (e ▸ hi))
     simp [this,e]
    ·exact .inr ⟨k,c,e,z.sameBut hs (cne y c e)⟩
  ·obtain ⟨w',z⟩:=I.cell y c e
   exact ⟨w',z.sameBut hs (cne y c e)⟩
  ·obtain ⟨e,n,ne,nf,d⟩:=I.pin p hp
   exact ⟨(hs.2 p.1 ne).trans e,n,ne,nf,d⟩
 ·have hfn:X.fn x=true:=by
   rcases hf with z | z
   ·exact z
   ·rw [z] at hk;cases hk
  obtain ⟨c,hc⟩:=I.ok.has x (.inl hk)
  obtain ⟨w',z⟩:=I.cell x c hc
  refine wpAny_storeName_cell I.ok.kind hk hc z (fun h' hc' hs=>?_)
  obtain ⟨oc,hoc,hocd⟩:=id z
  refine h { s with heap:=h' } ⟨I.ok,I.os,I.bare,⟨fun b o e n hb hx=>?_,fun b o e n hb hx=>?_,I.base.free,fun b o e hx=>?_,I.base.tups,I.base.frzs,I.base.tbls⟩,⟨m,hn.sameBut hs (Ne.symm (cne x c hc)),fun j y v' e1 e2 e3=>?_⟩,fun y c' e=>?_,I.free,I.freeC,fun p hp=>?_,tracked ⟨oc,hoc,I.freeC x c hc⟩ hs,by simpa using I.len⟩ ⟨c,hs,.inr hc⟩
  ·exact (hs.2 b (Nat.ne_of_lt (Nat.lt_of_lt_of_le (Heap.lt_size e) (I.ok.cab x c hfn hc)))).trans (I.base.keep b o e n hb hx)
  ·obtain ⟨sl,e1⟩:=I.base.slot b o e n hb hx
   exact ⟨sl,(hs.2 b (Nat.ne_of_lt (Nat.lt_of_lt_of_le (Heap.lt_size e) (I.ok.cab x c hfn hc)))).trans e1⟩
  ·obtain ⟨o',e1⟩:=I.base.there b o e hx
   exact ⟨o',(hs.2 b (Nat.ne_of_lt (Nat.lt_of_lt_of_le (Heap.lt_size e) (I.ok.cab x c hfn hc)))).trans e1⟩
  ·by_cases hj:j=i
   ·subst hj
    rw [hi] at e1;cases e1
    rw [List.getElem?_set_self hiσ] at e2
    cases e2
    exact ⟨u,r,.inr ⟨.inl hk,c,hc,hc'⟩⟩
   ·rw [List.getElem?_set_ne (Ne.symm hj)] at e2
    obtain ⟨u',r',q⟩:=hl j y v' e1 e2 e3
    refine ⟨u',r',?_⟩
    rcases q with q | ⟨k,c',e,z'⟩
    ·exact .inl q
    ·refine .inr ⟨k,c',e,z'.sameBut hs ?_⟩
     rintro rfl
     exact hj (Ub hN e1 (I.ok.inj _ _ _ e hc ▸ hi))
  ·by_cases hcc:c'=c
   ·subst hcc;exact ⟨_,hc'⟩
   ·obtain ⟨w2,z2⟩:=I.cell y c' e
    exact ⟨w2,z2.sameBut hs hcc⟩
  ·obtain ⟨e,n,ne,nf,d⟩:=I.pin p hp
   refine ⟨(hs.2 p.1 ?_).trans e,n,ne,nf,d⟩
   intro q
   rw [q,hoc] at e
   have q':oc=p.2:=Option.some.inj e
   exact d w' (by rw [← q'];exact hocd)
theorem ZeX {M:Model} {A:Around} {E:Value→Shared→Prop} {i:Nat} {x:Str} {v:V} {u:Value} {Q:Unit→Shared→Prop} (I:Zf X pins σ H s) (hN:X.N.Nodup) (hi:X.N[i]? = some x) (hx:Loc X.env.scope x) (r:ZC v u)
  (h:∀ s',Zf X pins (σ.set i (some v)) H s'→Q () s') (hf:X.fn x=true∨X.env.scope.names.lookup x=some .local:=by first | exact .inl rfl | exact .inr rfl | assumption):wpAny M A (storeName X.env x u) Q E s :=
 ZiR I hN hi hx r (fun s' I' _=>h s' I') hf
theorem Zf.call' {s':Shared} {ch:List Addr} (I:Zf X pins σ H s) (ho:s'.os=s.os) (u:Un (Wb X.stack) ch H H' s.heap s'.heap) (hok:Yy X.prog X.w H' s'.heap) (hg:AllBare s'.gens)
  (hch:∀ b∈ch,(b∈X.ex∨X.s₀.heap.objs.size≤b)∧b≠X.env.locals∧(∀ x c,X.env.cells.lookup x=some c→c≠b)∧∀ p∈X.pn++pins,p.1≠b):Zf X pins σ H' s':=by
 obtain ⟨h',g',d',t',o'⟩:=s'
 have e:o'=s.os:=ho
 subst e
 exact I.call (g':=g') (t':=t') (d':=d') u hok hg hch
end
abbrev XK:=Value→Option Addr→Hp→Prop
abbrev St:=List (Option V)
abbrev VK:=V→Hp→Prop
abbrev TE:=St→Hp→VK→Prop
abbrev TT:=St→Hp→(Bool→Hp→Prop)→Prop
abbrev TA:=St→Hp→(List V→Hp→Prop)→Prop
structure VI where
 nx:St→Hp→Prop
 rt:VK
 bk:St→Hp→Prop:=fun _ _=>False
 ct:St→Hp→Prop:=fun _ _=>False
abbrev TS:=VI→St→Hp→Prop
def EP (X:Cx) (pins:List (Addr×Obj)) (σ:St) (Q:VK) (u:Value) (s':Shared):Prop:=∃ v H',Zf X pins σ H' s'∧ZC v u∧Q v H'
def TP (X:Cx) (pins:List (Addr×Obj)) (σ:St) (Q:Bool→Hp→Prop) (b:Bool) (s':Shared):Prop:=∃ H',Zf X pins σ H' s'∧Q b H'
def AP (X:Cx) (pins:List (Addr×Obj)) (σ:St) (Q:List V→Hp→Prop) (us:List Value) (s':Shared):Prop:=∃ vs H',Zf X pins σ H' s'∧Zy vs us∧Q vs H'
def SP (X:Cx) (pins:List (Addr×Obj)) (D:VI) (f:Flow) (s':Shared):Prop :=
 match f with
 | .next=>∃ σ' H',Zf X pins σ' H' s'∧D.nx σ' H'
 | .brk=>∃ σ' H',Zf X pins σ' H' s'∧D.bk σ' H'
 | .cont=>∃ σ' H',Zf X pins σ' H' s'∧D.ct σ' H'
 | .ret u=>∃ v σ' H',Zf X pins σ' H' s'∧ZC v u∧D.rt v H'
def PE (X:Cx) (e:Expr) (t:TE):Prop :=
 ∀ (pins:List (Addr×Obj)) (s:Shared) (σ:St) (H:Hp) (Q:VK),Zf X pins σ H s→t σ H Q→wpAny (model X.prog X.w) X.A (eval e X.env) (EP X pins σ Q) X.xe s
def PT (X:Cx) (e:Expr) (t:TT):Prop :=
 ∀ (pins:List (Addr×Obj)) (s:Shared) (σ:St) (H:Hp) (Q:Bool→Hp→Prop),Zf X pins σ H s→t σ H Q→wpAny (model X.prog X.w) X.A (isTrue e X.env (eval e X.env)) (TP X pins σ Q) X.xe s
def PW (X:Cx) (e:Expr) (t:TT):Prop :=
 ∀ (whole:Sem Value) (pins:List (Addr×Obj)) (s:Shared) (σ:St) (H:Hp) (Q:Bool→Hp→Prop),Zf X pins σ H s→t σ H Q→wpAny (model X.prog X.w) X.A (isTrue e X.env whole) (TP X pins σ Q) X.xe s
theorem PW.pt {X:Cx} {e:Expr} {t:TT} (h:PW X e t):PT X e t:=h _
def PA (X:Cx) (es:List Expr) (t:TA):Prop :=
 ∀ (pos:Pos) (pins:List (Addr×Obj)) (s:Shared) (σ:St) (H:Hp) (Q:List V→Hp→Prop),Zf X pins σ H s→t σ H Q→wpAny (model X.prog X.w) X.A (spliced (backTo pos (starEach es X.env))) (AP X pins σ Q) X.xe s
def PS (X:Cx) (st:Stmt) (t:TS):Prop :=
 ∀ (pins:List (Addr×Obj)) (s:Shared) (σ:St) (H:Hp) (D:VI),Zf X pins σ H s→t D σ H→wpAny (model X.prog X.w) X.A (exec st X.env) (SP X pins D) X.xe s
def X2 (X:Cx) (st:List Stmt) (t:TS):Prop :=
 ∀ (pins:List (Addr×Obj)) (s:Shared) (σ:St) (H:Hp) (D:VI),Zf X pins σ H s→t D σ H→wpAny (model X.prog X.w) X.A (execs st X.env) (SP X pins D) X.xe s
theorem Zv {α:Type} {t:Sem α} {Q Q':α→Shared→Prop} {M:Model} {A:Around} {E:Value→Shared→Prop} {s:Shared} (h:wpAny M A t Q E s) (hQ:∀ a s,Q a s→Q' a s):wpAny M A t Q' E s:=wpAny_mono h hQ fun _ _ x=>x
end L2
namespace L2
open PySem PySem.Spec PyProof.Rows
section
variable {X:Cx}
def ZeY (i:Nat):TE:=fun σ H Q=>∃ v,σ[i]? = some (some v)∧Q v H
def tC (v:V):TE:=fun _ H Q=>Q v H
theorem ZiS {i:Nat} {x:Str} {pos:Pos} (hN:X.N[i]? = some x) (hv:Vis X.env.scope x) (hd:(x == ("__debug__" : Str))=false:=by decide) (hcd:(x == ("__classdict__" : Str))=false:=by decide):PE X (.Name x pos) (ZeY i):=by
 intro pins s σ H Q I h
 obtain ⟨v,e,h⟩:=h
 obtain ⟨m,hn,hl⟩:=I.loc
 obtain ⟨u,r,l⟩:=hl i x v hN e hv
 have fin:EP X pins σ Q u s:=⟨v,H,I,r,h⟩
 rcases l with ⟨hk,hm⟩ | ⟨hk,c,hc,hcell⟩
 ·exact wpAny_Name (wpAny_loadName_local I.ok.kind hk hn hm fin) hd
 ·rcases hk with hk | hk
  ·exact wpAny_Name (wpAny_loadName_cell I.ok.kind hk hc hcell fin) hd
  ·exact wpAny_Name (wpAny_loadName_free I.ok.kind hk hc hcell fin hcd) hd
theorem Zc {i j pos}:PE X (.Constant (.int i) j pos) (tC (.int i)):=fun _ _ _ H _ I h=>wpAny_Constant_int ⟨.int i,H,I.tok _,⟨_,rfl⟩,h⟩
theorem Wm {b j pos}:PE X (.Constant (.bool b) j pos) (tC (.bl b)):=fun _ _ _ H _ I h=>Constant_bool ⟨.bl b,H,I,rfl,h⟩
theorem UB {j pos}:PE X (.Constant .none j pos) (tC .non):=fun _ _ _ H _ I h=>Constant_none ⟨.non,H,I,rfl,h⟩
theorem Yk {x j pos}:PE X (.Constant (.str x) j pos) (tC (.str x)):=fun _ _ _ H _ I h=>Calls.Constant_str ⟨.str x,H,I.tok _,⟨_,rfl⟩,h⟩
def Gl (X:Cx) (x:Str):Prop:=X.env.kindOf x=some .globalImplicit
theorem Zao {E:Value→Shared→Prop} {pins:List (Addr×Obj)} {s:Shared} {σ:St} {H:Hp} {x:Str} {u:Value} {pos:Pos} {Q:Value→Shared→Prop} (I:Zf X pins σ H s) (hg:Gl X x) (hm:X.mg x=some u) (h:Q u s)
  (hd:(x == ("__debug__" : Str))=false:=by decide):wpAny (model X.prog X.w) X.A (eval (.Name x pos) X.env) Q E s :=
 Calls.Name_function_global I.ok.kind hg (Calls.loadGlobal_global (by rw [I.ok.glob];exact I.mod.glob.keeps I.bk) hm h) hd
theorem Uc {E:Value→Shared→Prop} {pins:List (Addr×Obj)} {s:Shared} {σ:St} {H:Hp} {x:Str} {u:Value} {pos:Pos} {Q:Value→Shared→Prop} (I:Zf X pins σ H s) (hg:Gl X x) (hm:X.mg x=none) (hv:bootBuiltins x=some u) (h:Q u s)
  (hn:x ≠ "__name__" := by decide) (hd:(x == ("__debug__" : Str))=false:=by decide):wpAny (model X.prog X.w) X.A (eval (.Name x pos) X.env) Q E s:=by
 obtain ⟨mb,h1,h2⟩:=I.mod.blt
 exact Calls.Name_function_global I.ok.kind hg (Calls.loadGlobal_builtin (by rw [I.ok.glob];exact I.mod.glob.keeps I.bk) hm (by rw [I.ok.blt];exact h1.keeps I.bk) ((h2 x hn).trans hv) h) hd
theorem ZeZ {x:Str} {v:V} {u:Value} {pos:Pos} (hg:Gl X x) (hm:X.mg x=some u) (r:ZC v u) (hd:(x == ("__debug__" : Str))=false:=by decide):PE X (.Name x pos) (tC v) :=
 fun _ _ _ H _ I h=>Zao I hg hm ⟨v,H,I,r,h⟩ hd
theorem ZiT {x:Str} {v:V} {u:Value} {pos:Pos} (hg:Gl X x) (hm:X.mg x=none) (hv:bootBuiltins x=some u) (r:ZC v u) (hn:x ≠ "__name__" := by decide) (hd:(x == ("__debug__" : Str))=false:=by decide):PE X (.Name x pos) (tC v) :=
 fun _ _ _ H _ I h=>Uc I hg hm hv ⟨v,H,I,r,h⟩ hn hd
variable {a b:Expr} {ta tb:TE} {pos:Pos}
def PC (X:Cx) (op:CmpOp) (a b:Expr) (t:TE):Prop :=
 ∀ (pins:List (Addr×Obj)) (s:Shared) (σ:St) (H:Hp) (Q:VK),Zf X pins σ H s→t σ H Q →
  wpAny (model X.prog X.w) X.A (eval a X.env) (fun v s₁=>wpAny (model X.prog X.w) X.A (eval b X.env) (fun u s₂=>wpAny (model X.prog X.w) X.A (compareOp op v u) (EP X pins σ Q) X.xe s₂) X.xe s₁) X.xe s
theorem Ze0 (b:Expr) {op:CmpOp} (h:op≠.In) (h2:op≠.NotIn):behindInMarks op b=false:=by
 have e1:(op == CmpOp.In)=false:=by cases op <;> first | rfl | exact absurd rfl h
 have e2:(op == CmpOp.NotIn)=false:=by cases op <;> first | rfl | exact absurd rfl h2
 cases b <;> simp [behindInMarks,e1,e2]
def ZiU (ta:TE):TE:=fun σ H Q=>ta σ H fun x H1=>Q (.bl (decide (x=.non))) H1
def ZiV (ta:TE):TE:=fun σ H Q=>ta σ H fun x H1=>Q (.bl (!decide (x=.non))) H1
theorem ZC.none_iff {x:V} {v:Value} (r:ZC x v):(v == Value.none)=decide (x=.non):=by
 cases x with
 | non=>cases r;rfl
 | bl _=>cases r;rfl
 | int _=>obtain ⟨t,rfl⟩:=r;rfl
 | str _=>obtain ⟨t,rfl⟩:=r;rfl
 | byt _=>obtain ⟨t,rfl⟩:=r;rfl
 | flt _=>obtain ⟨t,rfl⟩:=r;rfl
 | ref _=>cases r;rfl
 | ty _=>cases r;rfl
theorem Za9 {j pos'} (ha:PE X a ta):PC X .Is a (.Constant .none j pos') (ZiU ta):=by
 intro pins s σ H Q I h
 refine Zv (ha pins s σ H _ I h) fun v s1 ⟨x,H1,I1,r1,q1⟩=>?_
 exact Constant_none (is_none_gen ⟨.bl _,H1,I1,by rw [r1.none_iff];rfl,q1⟩)
theorem ZiW {j pos'} (ha:PE X a ta):PC X .IsNot a (.Constant .none j pos') (ZiV ta):=by
 intro pins s σ H Q I h
 refine Zv (ha pins s σ H _ I h) fun v s1 ⟨x,H1,I1,r1,q1⟩=>?_
 exact Constant_none (isnot_none_gen ⟨.bl _,H1,I1,by rw [r1.none_iff];rfl,q1⟩)
def tB (t:TE):TT:=fun σ H Q=>t σ H fun x H1=>∃ c,x=.bl c∧Q c H1
theorem ZiX {op:CmpOp} {t:TE} (h:PC X op a b t) (h1:behindInMarks op b=false:=by first | exact Ze0 _ (by decide) (by decide) | rfl):PE X (.Compare a [op] [b] pos) t:=fun pins s σ H Q I hw=>wpAny_Compare1 (h pins s σ H Q I hw) h1
theorem VJ {op:CmpOp} {t:TE} (h:PC X op a b t) (h1:behindInMarks op b=false:=by first | exact Ze0 _ (by decide) (by decide) | rfl):PT X (.Compare a [op] [b] pos) (tB t):=by
 intro pins s σ H Q I hw
 refine wpAny_isTrue_Compare1 (Zv (h pins s σ H _ I hw) fun v s1 h1=>Zv h1 fun u s2 h2=>Zv h2 fun c s3 ⟨x,H1,I1,r1,q1⟩=>?_) h1
 obtain ⟨d,rfl,q⟩:=q1
 cases r1
 exact wpAny_truthy_bool ⟨H1,I1,q⟩
theorem Ym {e:Expr} {t:TE} (h:PE X e t) (he:∀ whole,isTrue e X.env whole=(do let v ← whole;standAt e.pos;holding [v] (truthy v)):=by intro _;rfl):PT X e (tB t):=by
 intro pins s σ H Q I hw
 refine isTrue_plain (Zv (h pins s σ H _ I hw) fun v s1 ⟨x,H1,I1,r1,q1⟩=>?_) (he _)
 obtain ⟨d,rfl,q⟩:=q1
 cases r1
 exact wpAny_truthy_bool ⟨H1,I1,q⟩
variable {tA tB':TT} {rest:List Expr}
def ZiY (t u:TT):TT:=fun σ H Q=>t σ H fun c H1=>if c=true then u σ H1 Q else Q false H1
def tOr (t u:TT):TT:=fun σ H Q=>t σ H fun c H1=>if c=true then Q true H1 else u σ H1 Q
def ZiZ (t:TT):TT:=fun σ H Q=>t σ H fun c H1=>Q (!c) H1
theorem Zap (ha:PT X a tA):PW X (.BoolOp .And [a] pos) tA:=by
 intro wh pins s σ H Q I h
 refine isTrue_and (Zv (ha pins s σ H Q I h) fun c s1 e=>?_)
 cases c with
 | true=>exact isTrue_and_nil e
 | false=>exact e
theorem VL (ha:PT X a tA):PW X (.BoolOp .Or [a] pos) tA:=by
 intro wh pins s σ H Q I h
 refine isTrue_or (Zv (ha pins s σ H Q I h) fun c s1 e=>?_)
 cases c with
 | false=>exact isTrue_or_nil e
 | true=>exact e
theorem U5 (ha:PT X a tA) (hb:PW X (.BoolOp .And (b::rest) pos) tB'):PW X (.BoolOp .And (a::b::rest) pos) (ZiY tA tB'):=by
 intro wh pins s σ H Q I h
 refine isTrue_and (Zv (ha pins s σ H _ I h) fun c s1 ⟨H1,I1,q1⟩=>?_)
 cases c with
 | true=>exact hb wh pins s1 σ H1 Q I1 q1
 | false=>exact ⟨H1,I1,q1⟩
theorem VM (ha:PT X a tA) (hb:PW X (.BoolOp .Or (b::rest) pos) tB'):PW X (.BoolOp .Or (a::b::rest) pos) (tOr tA tB'):=by
 intro wh pins s σ H Q I h
 refine isTrue_or (Zv (ha pins s σ H _ I h) fun c s1 ⟨H1,I1,q1⟩=>?_)
 cases c with
 | true=>exact ⟨H1,I1,q1⟩
 | false=>exact hb wh pins s1 σ H1 Q I1 q1
theorem Yq (ha:PT X a tA):PT X (.UnaryOp .Not a pos) (ZiZ tA):=by
 intro pins s σ H Q I h
 exact isTrue_not (ha pins s σ H (fun c H1=>Q (!c) H1) I h)
def Zi0 (ta tb:TE):TE:=fun σ H Q=>ta σ H fun x H1=>∃ c,x=.bl c∧if c=true then tb σ H1 Q else Q (.bl false) H1
def Zi1 (ta tb:TE):TE:=fun σ H Q=>ta σ H fun x H1=>∃ c,x=.bl c∧if c=true then Q (.bl true) H1 else tb σ H1 Q
def Zi2 (ta:TE):TE:=fun σ H Q=>ta σ H fun x H1=>∃ c,x=.bl c∧Q (.bl (!c)) H1
theorem UC {op} {t:TE} (h:PE X a t):PE X (.BoolOp op [a] pos) t:=fun pins s σ H Q I hw=>BoolOp_one (h pins s σ H Q I hw)
theorem U6 (ha:PE X a ta) (hb:PE X (.BoolOp .And (b::rest) pos) tb):PE X (.BoolOp .And (a::b::rest) pos) (Zi0 ta tb):=by
 intro pins s σ H Q I h
 refine BoolOp_and (Zv (ha pins s σ H _ I h) fun v s1 ⟨x,H1,I1,r1,q1⟩=>?_)
 obtain ⟨c,rfl,q1⟩:=q1
 cases r1
 refine wpAny_truthy_bool ?_
 cases c with
 | true=>exact hb pins s1 σ H1 Q I1 q1
 | false=>exact ⟨.bl false,H1,I1,rfl,q1⟩
theorem Zi3 (ha:PE X a ta) (hb:PE X (.BoolOp .Or (b::rest) pos) tb):PE X (.BoolOp .Or (a::b::rest) pos) (Zi1 ta tb):=by
 intro pins s σ H Q I h
 refine BoolOp_or (Zv (ha pins s σ H _ I h) fun v s1 ⟨x,H1,I1,r1,q1⟩=>?_)
 obtain ⟨c,rfl,q1⟩:=q1
 cases r1
 refine wpAny_truthy_bool ?_
 cases c with
 | false=>exact hb pins s1 σ H1 Q I1 q1
 | true=>exact ⟨.bl true,H1,I1,rfl,q1⟩
theorem Zi4 (ha:PE X a ta):PE X (.UnaryOp .Not a pos) (Zi2 ta):=by
 intro pins s σ H Q I h
 refine UnaryOp_ (Zv (ha pins s σ H _ I h) fun v s1 ⟨x,H1,I1,r1,q1⟩=>?_)
 obtain ⟨c,rfl,q1⟩:=q1
 cases r1
 exact not_of (wpAny_truthy_bool ⟨.bl (!c),H1,I1,rfl,q1⟩)
def tIf (t:TT) (ta tb:TE):TE:=fun σ H Q=>t σ H fun c H1=>if c=true then ta σ H1 Q else tb σ H1 Q
theorem Zi5 {c:Expr} (hc:PT X c tA) (ha:PE X a ta) (hb:PE X b tb):PE X (.IfExp c a b pos) (tIf tA ta tb):=by
 intro pins s σ H Q I h
 refine wpAny_IfExp (Zv (hc pins s σ H _ I h) fun d s1 ⟨H1,I1,q1⟩=>?_)
 cases d with
 | true=>exact ha pins s1 σ H1 Q I1 q1
 | false=>exact hb pins s1 σ H1 Q I1 q1
end
end L2
namespace L2
open PySem PySem.Spec PyProof.Rows
def Zg (K:PySem.W.Frag) (H:Hp) (a:Addr) (xs:List V):Prop :=
 Rd H a (.lst xs) ∨
  ∃ (o:Obj) (its:Array Value) (n:Nat),K.lookup a=some o∧o.cls=.type "list" ∧ o.dict=none∧o.data=.seq its n∧its.size≤sizeLine∧Zy xs its.toList
def Zu (K:PySem.W.Frag) (H:Hp) (a:Addr) (xs:List V):Prop :=
 Rd H a (.tup xs) ∨
  ∃ (o:Obj) (its:Array Value) (n:Nat),K.lookup a=some o∧o.cls=.type "tuple" ∧ o.data=.seq its n∧its.size≤sizeLine∧Zy xs its.toList
def Zi6:Value→Option V
 | .none=>some .non
 | .bool b=>some (.bl b)
 | .int i _=>some (.int i)
 | .str x _=>some (.str x)
 | .bytes b _=>some (.byt b)
 | .float b _=>some (.flt b)
 | .ref a=>some (.ref a)
 | .type n=>some (.ty n)
 | _=>none
theorem ZC.abs {x:V} {u:Value} (r:ZC x u):Zi6 u=some x:=by
 cases x with
 | non=>cases r;rfl
 | bl _=>cases r;rfl
 | int _=>obtain ⟨t,rfl⟩:=r;rfl
 | str _=>obtain ⟨t,rfl⟩:=r;rfl
 | byt _=>obtain ⟨t,rfl⟩:=r;rfl
 | flt _=>obtain ⟨t,rfl⟩:=r;rfl
 | ref _=>cases r;rfl
 | ty _=>cases r;rfl
theorem ZC.inj {x y:V} {u:Value} (r:ZC x u) (q:ZC y u):x=y:=Option.some.inj (r.abs.symm.trans q.abs)
theorem Zy.inj:∀ {xs ys:List V} {us:List Value},Zy xs us→Zy ys us→xs=ys
 | _,_,_,.nil,.nil=>rfl
 | _,_,_,.cons r t,.cons r' t'=>by rw [r.inj r',Zy.inj t t']
section
variable {X:Cx} {pins:List (Addr×Obj)} {σ:St} {H:Hp} {s:Shared} {a:Addr} {xs ys:List V}
theorem Zg.of {K:PySem.W.Frag} (h:H a=some (.lst xs)):Zg K H a xs:=.inl (.inl h)
theorem Zu.of {K:PySem.W.Frag} (h:H a=some (.tup xs)):Zu K H a xs:=.inl (.inl h)
theorem Zf.list (I:Zf X pins σ H s) (h:Zg X.K H a xs):∃ its:List Value,Zy xs its∧PlainL s.heap a its.toArray∧xs.length≤sizeLine:=by
 rcases h with h | ⟨o,its,n,hk,hc,hd,hs,hz,r⟩
 ·obtain ⟨z,its,n,r,e⟩:=h.ok I.hok
  exact ⟨its,r,⟨_,n,e,rfl,rfl,rfl⟩,z⟩
 ·refine ⟨its.toList,r,⟨o,n,I.kIn a o hk,hc,hd,by simpa using hs⟩,?_⟩
  have e:=r.length
  simp only [Array.length_toList] at e
  omega
theorem Zf.tuple (I:Zf X pins σ H s) (h:Zu X.K H a xs):∃ its:List Value,Zy xs its∧IsTup s.heap a its.toArray∧xs.length≤sizeLine:=by
 rcases h with h | ⟨o,its,n,hk,hc,hs,hz,r⟩
 ·obtain ⟨z,its,r,p⟩:=h.ok I.hok
  exact ⟨its,r,p,z⟩
 ·refine ⟨its.toList,r,⟨o,I.kIn a o hk,hc,n,by simpa using hs⟩,?_⟩
  have e:=r.length
  simp only [Array.length_toList] at e
  omega
theorem Zf.list_inj (I:Zf X pins σ H s) (h:Zg X.K H a xs) (h':Zg X.K H a ys):xs=ys:=by
 obtain ⟨its,r,⟨o,n,e,_,_,d⟩,_⟩:=I.list h
 obtain ⟨its',r',⟨o',n',e',_,_,d'⟩,_⟩:=I.list h'
 rw [e] at e';cases e'
 rw [d] at d'
 injection d' with d1 _
 have:its=its':=by simpa using congrArg Array.toList d1
 subst this
 exact r.inj r'
theorem Zf.tuple_inj (I:Zf X pins σ H s) (h:Zu X.K H a xs) (h':Zu X.K H a ys):xs=ys:=by
 obtain ⟨its,r,⟨o,e,_,n,d⟩,_⟩:=I.tuple h
 obtain ⟨its',r',⟨o',e',_,n',d'⟩,_⟩:=I.tuple h'
 rw [e] at e';cases e'
 rw [d] at d'
 injection d' with d1 _
 have:its=its':=by simpa using congrArg Array.toList d1
 subst this
 exact r.inj r'
end
abbrev Cx.wish (X:Cx) (E:Value→Shared→Prop):Cx:={ X with xe:=E }
abbrev Cx.nox (X:Cx):Cx:=X.wish fun _ _=>False
theorem Cx.Ok.wish {X:Cx} (ok:X.Ok) (E:Value→Shared→Prop):(X.wish E).Ok :=
 ⟨ok.mod,ok.kind,ok.glob,ok.blt,ok.above,ok.inj,ok.has,ok.cab,ok.hd,ok.frames,ok.stk,ok.exf,ok.bs,ok.bsz,ok.noex,ok.exfs,ok.funs,ok.frf⟩
theorem Cx.Ok.unwish {X:Cx} {E:Value→Shared→Prop} (ok:(X.wish E).Ok):X.Ok :=
 ⟨ok.mod,ok.kind,ok.glob,ok.blt,ok.above,ok.inj,ok.has,ok.cab,ok.hd,ok.frames,ok.stk,ok.exf,ok.bs,ok.bsz,ok.noex,ok.exfs,ok.funs,ok.frf⟩
section
variable {X:Cx} {pins:List (Addr×Obj)} {σ:St} {H:Hp} {s:Shared} {E:Value→Shared→Prop}
theorem Zf.wish (I:Zf X pins σ H s) (E:Value→Shared→Prop):Zf (X.wish E) pins σ H s:=⟨I.ok.wish E,I.os,I.bare,I.base,I.loc,I.cell,I.free,I.freeC,I.pin,I.hok,I.len⟩
theorem Zf.unwish (I:Zf (X.wish E) pins σ H s):Zf X pins σ H s:=⟨I.ok.unwish,I.os,I.bare,I.base,I.loc,I.cell,I.free,I.freeC,I.pin,I.hok,I.len⟩
theorem SP.unwish {D:VI} {f:Flow} {s':Shared} (h:SP (X.wish E) pins D f s'):SP X pins D f s':=by
 cases f with
 | next=>obtain ⟨σ',H',I,q⟩:=h;exact ⟨σ',H',I.unwish,q⟩
 | brk=>obtain ⟨σ',H',I,q⟩:=h;exact ⟨σ',H',I.unwish,q⟩
 | cont=>obtain ⟨σ',H',I,q⟩:=h;exact ⟨σ',H',I.unwish,q⟩
 | ret u=>obtain ⟨v,σ',H',I,r,q⟩:=h;exact ⟨v,σ',H',I.unwish,r,q⟩
theorem X2.nox {st:List Stmt} {t:TS} (h:X2 X.nox st t):X2 X st t:=fun pins s σ H D I hw =>
 wpAny_mono (h pins s σ H D (I.wish _) hw) (fun _ _ q=>q.unwish) fun _ _ z=>False.elim z
end
section
variable {X:Cx} {st:Stmt} {rest:List Stmt} {t u:TS} {e:Expr} {te:TE} {pos:Pos}
def Zi7:TS:=fun D σ H=>D.nx σ H
def Zi8 (t u:TS):TS:=fun D σ H=>t { D with nx:=u D } σ H
theorem ZY:X2 X [] Zi7:=fun _ _ σ H _ I h=>wpAny_execs_nil ⟨σ,H,I,h⟩
theorem Zm (h1:PS X st t) (h2:X2 X rest u):X2 X (st::rest) (Zi8 t u):=by
 intro pins s σ H D I h
 refine wpAny_execs_cons (Zv (h1 pins s σ H { D with nx:=u D } I h) fun f s1 q=>?_)
 cases f with
 | next =>
  obtain ⟨σ',H',I',q⟩:=q
  exact h2 pins s1 σ' H' D I' q
 | ret v=>exact q
 | brk=>exact q
 | cont=>exact q
theorem Zp (h1:PS X st t):X2 X [st] t:=by
 intro pins s σ H D I h
 refine wpAny_execs_cons (Zv (h1 pins s σ H D I h) fun f s1 q=>?_)
 cases f with
 | next=>exact wpAny_execs_nil q
 | ret v=>exact q
 | brk=>exact q
 | cont=>exact q
def Zi9:TS:=fun D σ H=>D.ct σ H
theorem Ze1:PS X (.Continue pos) Zi9:=fun _ _ σ H _ I h=>wpAny_Continue ⟨σ,H,I,h⟩
theorem Zf.quiet {pins:List (Addr×Obj)} {σ:St} {H:Hp} {s:Shared} (I:Zf X pins σ H s):interactive X.env=false:=by simp [interactive,I.ok.kind]
def Zja (te:TE):TS:=fun D σ H=>te σ H fun _ H1=>D.nx σ H1
theorem Z0 (he:PE X e te) (hs:swapsWith e none pos.line X.env=pure false:=by rfl):PS X (.Expr e pos) (Zja te):=by
 intro pins s σ H D I h
 exact wpAny_Expr_any (Zv (he pins s σ H _ I h) fun v s1 ⟨x,H1,I1,r1,q1⟩=>⟨σ,H1,I1,q1⟩) I.quiet hs
def Zjb (te:TE):TS:=fun D σ H=>te σ H D.rt
theorem ZT (he:PE X e te):PS X (.Return (some e) pos) (Zjb te):=by
 intro pins s σ H D I h
 exact wpAny_Return_some (Zv (he pins s σ H _ I h) fun v s1 ⟨x,H1,I1,r1,q1⟩=>⟨x,σ,H1,I1,r1,q1⟩)
def Zjc (c:TT) (t u:TS):TS:=fun D σ H=>c σ H fun b H1=>if b=true then t D σ H1 else u D σ H1
theorem ZX {c:Expr} {a b:List Stmt} {tc:TT} (hc:PT X c tc) (ha:X2 X a t) (hb:X2 X b u):PS X (.If c a b pos) (Zjc tc t u):=by
 intro pins s σ H D I h
 refine wpAny_If (Zv (hc pins s σ H _ I h) fun d s1 ⟨H1,I1,q1⟩=>?_)
 cases d with
 | true=>exact ha pins s1 σ H1 D I1 q1
 | false=>exact hb pins s1 σ H1 D I1 q1
def Zjd:TS:=fun _ _ _=>False
theorem YT:PS X st Zjd:=fun _ _ _ _ _ _ h=>h.elim
end
abbrev TG:=V→St→Hp→(St→Hp→Prop)→Prop
abbrev UD:=List V→St→Hp→(St→Hp→Prop)→Prop
def PG (X:Cx) (target:Expr) (t:TG):Prop :=
 ∀ (pins:List (Addr×Obj)) (s:Shared) (σ:St) (H:Hp) (v:V) (u:Value) (Q:St→Hp→Prop),Zf X pins σ H s→ZC v u→t v σ H Q →
  wpAny (model X.prog X.w) X.A (assign target X.env u) (fun _ s'=>∃ σ' H',Zf X pins σ' H' s'∧Q σ' H') X.xe s
def PGs (X:Cx) (ts:List Expr) (t:UD):Prop :=
 ∀ (pins:List (Addr×Obj)) (s:Shared) (σ:St) (H:Hp) (vs:List V) (us:List Value) (Q:St→Hp→Prop),Zf X pins σ H s→Zy vs us→t vs σ H Q →
  wpAny (model X.prog X.w) X.A (assignInOrder ((assignEach ts X.env).map (·.2)) us) (fun _ s'=>∃ σ' H',Zf X pins σ' H' s'∧Q σ' H') X.xe s
abbrev Zb4:=V→V→V→Hp→(Hp→Prop)→Prop
def Ze2 (X:Cx) (t:Zb4):Prop :=
 ∀ (pins:List (Addr×Obj)) (s:Shared) (σ:St) (H:Hp) (o i v:V) (ov iv u:Value) (Q:Hp→Prop),Zf X pins σ H s→ZC o ov→ZC i iv→ZC v u→t o i v H Q →
  wpAny (model X.prog X.w) X.A (setItem ov iv u) (fun _ s'=>∃ H',Zf X pins σ H' s'∧Q H') X.xe s
section
variable {X:Cx} {pos:Pos}
def W2 (i:Nat):TG:=fun v σ H Q=>Q (σ.set i (some v)) H
theorem ZU {i:Nat} {x:Str} (hN:X.N.Nodup) (hi:X.N[i]? = some x) (hx:Loc X.env.scope x) (hf:X.fn x=true∨X.env.scope.names.lookup x=some .local:=by first | exact .inl rfl | exact .inr rfl | assumption):PG X (.Name x pos) (W2 i):=by
 intro pins s σ H v u Q I r h
 exact wpAny_assign_Name (ZeX I hN hi hx r (fun s' I'=>⟨_,H,I',h⟩) hf)
def Zje:UD:=fun vs σ H Q=>vs=[]∧Q σ H
def Zjf (t:TG) (u:UD):UD:=fun vs σ H Q=>∃ v r,vs=v::r∧t v σ H fun σ' H'=>u r σ' H' Q
theorem W3:PGs X [] Zje:=by
 intro pins s σ H vs us Q I r h
 obtain ⟨e,h⟩:=h
 subst e
 cases r
 exact assignInOrder_nil ⟨σ,H,I,h⟩
theorem YD {e:Expr} {es:List Expr} {t:TG} {u:UD} (h1:PG X e t) (h2:PGs X es u)
  (hs:(assignEach (e::es) X.env).map (·.2)=assign e X.env::(assignEach es X.env).map (·.2):=by rfl):PGs X (e::es) (Zjf t u):=by
 intro pins s σ H vs us Q I r h
 obtain ⟨v,vr,e1,h⟩:=h
 subst e1
 cases r with
 | cons r rr =>
  rw [hs]
  refine assignInOrder_cons (Zv (h1 pins s σ H _ _ _ I r h) fun _ s1 ⟨σ1,H1,I1,q1⟩=>?_)
  exact h2 pins s1 σ1 H1 _ _ Q I1 rr q1
def Ze3 (K:PySem.W.Frag) (n:Nat) (t:UD):TG:=fun v σ H Q=>∃ a xs,v=.ref a∧Zu K H a xs∧xs.length=n∧t xs σ H Q
theorem W7 {es:List Expr} {k:Nat} {t:UD} {n:Nat} (hc:X.calm=true) (h:PGs X es t)
  (hn:(assignEach es X.env).length=n:=by rfl) (hst:(assignEach es X.env).findIdx? (·.1)=none:=by rfl):PG X (.Tuple es k pos) (Ze3 X.K n t):=by
 intro pins s σ H v u Q I r hw
 obtain ⟨a,xs,e1,hq,hl,hw⟩:=hw
 subst e1
 cases r
 obtain ⟨its,rv,ht,hz⟩:=I.tuple hq
 refine assign_Tuple_tuple (I.ok.hd hc) ht (by simp [hn,← hl,rv.length]) hst fun h' hx=>?_
 have I1:Zf X pins σ H { s with heap:=h' }:=I.kept (t':=s.toks) fun b o e=>hx b o (Nat.ne_of_lt (Heap.lt_size e)) e
 exact h pins _ σ H xs _ Q I1 (by simpa using rv) hw
def Zjg (to ti:TE) (t:Zb4):TG:=fun v σ H Q=>to σ H fun o H1=>ti σ H1 fun i H2=>t o i v H2 fun H3=>Q σ H3
theorem Zjh {o i:Expr} {to ti:TE} {t:Zb4} (ho:PE X o to) (hi:PE X i ti) (hs:Ze2 X t)
  (ha:∀ v,assign (.Subscript o i pos) X.env v=(do
   let ov ← holding [v] (eval o X.env)
   let iv ← holding [v,ov] (eval i X.env)
   standAt pos
   holding [v,ov,iv] (setItem ov iv v)
   release [v,ov,iv] []):=by intro _;rfl):PG X (.Subscript o i pos) (Zjg to ti t):=by
 intro pins s σ H v u Q I r h
 rw [ha]
 refine wpAny_bind (wpAny_holding (Zv (ho pins s σ H _ I h) fun ov s1 ⟨x,H1,I1,r1,q1⟩=>?_))
 refine wpAny_bind (wpAny_holding (Zv (hi pins s1 σ H1 _ I1 q1) fun iv s2 ⟨y,H2,I2,r2,q2⟩=>?_))
 refine wpAny_bind (wpAny_standAt (wpAny_bind (wpAny_holding (Zv (hs pins s2 σ H2 x y v ov iv u _ I2 r1 r2 r q2) fun _ s3 ⟨H3,I3,q3⟩=>?_))))
 exact wpAny_release ⟨σ,H3,I3,q3⟩
def Ze4 (te:TE) (g:TG):TS:=fun D σ H=>te σ H fun x H1=>g x σ H1 D.nx
theorem Zb5 {tg e:Expr} {te:TE} {g:TG} (he:PE X e te) (hg:PG X tg g) (hs:swapsWithSole [tg] e pos.line X.env=pure false:=by rfl) (hw:swappedStores [tg] e X.env=pure none:=by rfl)
  (h1:(assignEach [tg] X.env).map (·.2)=[assign tg X.env]:=by rfl):PS X (.Assign [tg] e pos) (Ze4 te g):=by
 intro pins s σ H D I h
 refine wpAny_Assign_stores (Zv (he pins s σ H _ I h) fun v s1 ⟨x,H1,I1,r1,q1⟩=>?_) hs hw
 rw [h1]
 exact Zv (hg pins s1 σ H1 x v _ I1 r1 q1) fun _ s2 q=>q
theorem ZJ {i:Nat} {x:Str} {e:Expr} {te:TE} {pos':Pos} (hN:X.N.Nodup) (hi:X.N[i]? = some x) (hx:Loc X.env.scope x) (he:PE X e te) (hs:swapsWith e (some (.Name x pos')) pos.line X.env=pure false:=by rfl) (hf:X.fn x=true∨X.env.scope.names.lookup x=some .local:=by first | exact .inl rfl | exact .inr rfl | assumption) :
  PS X (.Assign [.Name x pos'] e pos) (Ze4 te (W2 i)):=by
 intro pins s σ H D I h
 refine wpAny_Assign_Name (Zv (he pins s σ H _ I h) fun v s1 ⟨y,H1,I1,r1,q1⟩=>?_) hs
 exact ZeX I1 hN hi hx r1 (fun s2 I2=>⟨_,H1,I2,q1⟩) hf
end
section
variable {X:Cx} {pos:Pos}
end
structure It where
 go:Nat→Hp→Prop
 yld:Nat→Hp→V→Hp→Prop
 stop:Nat→Hp→Prop
def YO (X:Cx) (pins:List (Addr×Obj)) (H:Hp) (b:Addr):Prop :=
 H b=none∧b≠X.env.locals∧b∉X.fs∧(b∈X.ex∨X.s₀.heap.objs.size≤b)∧(∀ x c,X.env.cells.lookup x=some c→c≠b)∧∀ p∈X.pn++pins,p.1≠b
theorem Zf.fpOk {X:Cx} {pins:List (Addr×Obj)} {σ:St} {H H':Hp} {s:Shared} {b:Addr} (I:Zf X pins σ H s) (hb:s.heap.objs.size≤b) (hn:H' b=none):YO X pins H' b:=by
 refine ⟨hn,Nat.ne_of_gt (Nat.lt_of_lt_of_le I.lt hb),I.nofs hb,.inr (Nat.le_trans I.sz hb),fun x c e z=>?_,fun p hp z=>?_⟩
 ·obtain ⟨v,q⟩:=I.cell x c e
  exact absurd (Nat.lt_of_lt_of_le q.lt (by rw [z];exact hb)) (Nat.lt_irrefl _)
 ·exact absurd (Nat.lt_of_lt_of_le (Heap.lt_size (I.pin p hp).1) (by rw [z];exact hb)) (Nat.lt_irrefl _)
structure UE (P:Program) (w:World) (K:PySem.W.Frag) (tg:Expr) (J:It) (fp:List Addr) (it:Addr) (tn:Nat→Heap→Prop):Prop where
 mem:it∈fp
 obj:∀ i h,tn i h→∀ b∈fp,∃ o,h.get? b=some o∧∀ v,o.data≠.cell v
 keep:∀ i h h',tn i h→(∀ b∈fp,∀ o,h.get? b=some o→h'.get? b=some o)→tn i h'
 item:∀ (X:Cx),X.prog=P→X.w=w→X.K=K→X.calm=true→∀ (i:Nat) (pins:List (Addr×Obj)) (s:Shared) (σ:St) (H:Hp) (E:Value→Shared→Prop),Zf X pins σ H s→(∀ b∈fp,YO X pins H b)→tn i s.heap→J.go i H →
  wpAny (model P w) X.A (pyNext (.ref it)) (fun r s1=>∃ u,r=some u ∧
   wpAny (model P w) X.A (letOwnedTupleGo tg (.ref it) u) (fun _ s2=>∃ x H',Zf X pins σ H' s2∧ZC x u∧J.yld i H x H'∧tn (i+1) s2.heap∧∀ b∈fp,H' b=none) E s1) E s
 done:∀ (X:Cx),X.prog=P→X.w=w→X.K=K→X.calm=true→∀ (i:Nat) (pins:List (Addr×Obj)) (s:Shared) (σ:St) (H:Hp) (E:Value→Shared→Prop),Zf X pins σ H s→(∀ b∈fp,YO X pins H b)→tn i s.heap→J.stop i H →
  wpAny (model P w) X.A (pyNext (.ref it)) (fun r s1=>r=none∧Zf X pins σ H s1) E s
 self:∀ (A:Around) (i:Nat) (s:Shared) (Q:Value→Shared→Prop) (E:Value→Shared→Prop),tn i s.heap→Q (.ref it) s→wpAny (model P w) A (pyIter (.ref it)) Q E s
abbrev TI:=St→Hp→(It→Hp→Prop)→Prop
def PIE (X:Cx) (pins:List (Addr×Obj)) (σ:St) (tg:Expr) (R:It→Hp→Prop) (itv:Value) (s2:Shared):Prop :=
 ∃ (it:Addr) (fp:List Addr) (tn:Nat→Heap→Prop) (J:It) (H':Hp),itv=.ref it∧Zf X pins σ H' s2∧UE X.prog X.w X.K tg J fp it tn∧tn 0 s2.heap∧(∀ b∈fp,YO X pins H' b)∧R J H'
def PI (X:Cx) (tg iter:Expr) (wi:TI):Prop :=
 ∀ (pins:List (Addr×Obj)) (s:Shared) (σ:St) (H:Hp) (R:It→Hp→Prop),Zf X pins σ H s→wi σ H R →
  wpAny (model X.prog X.w) X.A (eval iter X.env) (fun v s1=>wpAny (model X.prog X.w) X.A (pyIter v) (PIE X pins σ tg R) X.xe s1) X.xe s
theorem Zba {M:Model} {A:Around} {E:Value→Shared→Prop} {s:Shared} {tg:Expr} {it:Addr} {u:Value} {o:Obj} {n:String} {vs:Array Value} {Q:Unit→Shared→Prop} (ho:s.heap.get? it=some o) (hc:o.cls=.type n) (hd:o.data=.fields vs)
    (hn:["enumerate","zip","dict_itemiterator","dict_reverseitemiterator","odict_iterator","itertools.zip_longest","itertools.pairwise"].contains n=false) (hQ:Q () s):wpAny M A (letOwnedTupleGo tg (.ref it) u) Q E s:=by
  unfold letOwnedTupleGo
  cases tg <;> first
    | exact wpAny_pure hQ
    | (cases u <;> first
        | exact wpAny_pure hQ
        | (refine wpAny_bind (wpAny_load ho ?_)
           rw [hc,hd]
           show wpAny M A (if (["enumerate","zip","dict_itemiterator","dict_reverseitemiterator","odict_iterator","itertools.zip_longest","itertools.pairwise"].contains n && vs[0]? == some (rawInt _))=true then _ else _) Q E s
           rw [if_neg (by intro h;rw [hn,Bool.false_and] at h;cases h)]
           exact wpAny_pure hQ))
def Ud (K:PySem.W.Frag) (a:Addr):It :=
 ⟨fun i H=>∃ xs x,Zg K H a xs∧xs[i]? = some x,fun i H x H'=>H'=H∧∀ xs,Zg K H a xs→xs[i]? = some x,fun i H=>∃ xs,Zg K H a xs∧xs.length≤i⟩
def Itt (K:PySem.W.Frag) (a:Addr):It :=
 ⟨fun i H=>∃ xs x,Zu K H a xs∧xs[i]? = some x,fun i H x H'=>H'=H∧∀ xs,Zu K H a xs→xs[i]? = some x,fun i H=>∃ xs,Zu K H a xs∧xs.length≤i⟩
def Vl (lo:Int) (n:Nat):It:=⟨fun i _=>i < n,fun i H x H'=>H'=H∧x=.int (lo+i),fun i _=>n≤i⟩
theorem Zji {P:Program} {w:World} {K:PySem.W.Frag} {tg:Expr} (a it:Addr):UE P w K tg (Ud K a) [it] it (fun i h=>h.IsListIter it a i) where
 mem:=by simp
 obj:=fun i h st b hb=>by
  have e:b=it:=by simpa using hb
  subst e
  obtain ⟨o,e,c,d⟩:=st
  exact ⟨o,e,fun v z=>by rw [d] at z;cases z⟩
 keep:=fun i h h' st k=>st.at fun o e=>k it (by simp) o e
 item:=by
  intro X hP hw hK hc i pins s σ H E I hf st hg
  subst hP hw hK
  obtain ⟨xs,x,hq,hx⟩:=hg
  obtain ⟨its,rv,p,hz⟩:=I.list hq
  obtain ⟨u,hu,ru⟩:=rv.get hx
  obtain ⟨f0,f1,f2,f3,f4,f5⟩:=hf it (by simp)
  refine wpAny_pyNext_list_item st p.isList (x:=u) (by simpa using hu) fun h' st' sb=>?_
  have I1:Zf X pins σ H { s with heap:=h' }:=I.turned (t':=s.toks) (fun b o hb e=>(sb.2 b hb).trans e) f0 f1 f3 f4 f5
  obtain ⟨o,e,c,d⟩:=id st'
  exact ⟨u,rfl,Zba (s:={ s with heap:=h' }) e c d (by decide) ⟨x,H,I1,ru,⟨rfl,fun ys hy=>by rw [I.list_inj hy hq];exact hx⟩,st',fun b hb=>(hf b hb).1⟩⟩
 done:=by
  intro X hP hw hK hc i pins s σ H E I hf st hg
  subst hP hw hK
  obtain ⟨xs,hq,hx⟩:=hg
  obtain ⟨its,rv,p,hz⟩:=I.list hq
  obtain ⟨f0,f1,f2,f3,f4,f5⟩:=hf it (by simp)
  have hl:=rv.length
  exact wpAny_pyNext_list_end (I.ok.hd hc) st p.isList (by simp;omega) fun h' eb=>⟨rfl,I.turned (t':=s.toks) (fun b o hb e=>eb b o hb e) f0 f1 f3 f4 f5⟩
 self:=fun _ _ _ _ _ st h=>wpAny_pyIter_listiter st h
theorem Zjj {P:Program} {w:World} {K:PySem.W.Frag} {tg:Expr} (a it:Addr):UE P w K tg (Itt K a) [it] it (fun i h=>h.IsTupleIter it a i) where
 mem:=by simp
 obj:=fun i h st b hb=>by
  have e:b=it:=by simpa using hb
  subst e
  obtain ⟨o,e,c,d⟩:=st
  exact ⟨o,e,fun v z=>by rw [d] at z;cases z⟩
 keep:=fun i h h' st k=>st.at fun o e=>k it (by simp) o e
 item:=by
  intro X hP hw hK hc i pins s σ H E I hf st hg
  subst hP hw hK
  obtain ⟨xs,x,hq,hx⟩:=hg
  obtain ⟨its,rv,p,hz⟩:=I.tuple hq
  obtain ⟨u,hu,ru⟩:=rv.get hx
  obtain ⟨f0,f1,f2,f3,f4,f5⟩:=hf it (by simp)
  refine wpAny_pyNext_tuple_item st (show s.heap.IsTuple a its.toArray from p) (x:=u) (by simpa using hu) fun h' st' sb=>?_
  have I1:Zf X pins σ H { s with heap:=h' }:=I.turned (t':=s.toks) (fun b o hb e=>(sb.2 b hb).trans e) f0 f1 f3 f4 f5
  obtain ⟨o,e,c,d⟩:=id st'
  exact ⟨u,rfl,Zba (s:={ s with heap:=h' }) e c d (by decide) ⟨x,H,I1,ru,⟨rfl,fun ys hy=>by rw [I.tuple_inj hy hq];exact hx⟩,st',fun b hb=>(hf b hb).1⟩⟩
 done:=by
  intro X hP hw hK hc i pins s σ H E I hf st hg
  subst hP hw hK
  obtain ⟨xs,hq,hx⟩:=hg
  obtain ⟨its,rv,p,hz⟩:=I.tuple hq
  obtain ⟨f0,f1,f2,f3,f4,f5⟩:=hf it (by simp)
  have hl:=rv.length
  exact wpAny_pyNext_tuple_end (I.ok.hd hc) st (show s.heap.IsTuple a its.toArray from p) (by simp;omega) fun h' eb=>⟨rfl,I.turned (t':=s.toks) (fun b o hb e=>eb b o hb e) f0 f1 f3 f4 f5⟩
 self:=fun _ _ _ _ _ st h=>wpAny_pyIter_tupleiter st h
theorem Zjk {P:Program} {w:World} {K:PySem.W.Frag} {tg:Expr} (it:Addr) (lo:Int) (n:Nat):UE P w K tg (Vl lo n) [it] it (fun i h=>IsRangeIter h it (lo+(i:Nat) * 1) ((n:Int) - (i:Nat)) 1) where
 mem:=by simp
 obj:=fun i h st b hb=>by
  have e:b=it:=by simpa using hb
  subst e
  exact ⟨_,st,fun v z=>by
   have z':Data.fields _=Data.cell v:=z
   cases z'⟩
 keep:=fun i h h' st k=>k it (by simp) _ st
 item:=by
  intro X hP hw hK hc i pins s σ H E I hf st hg
  subst hP hw hK
  obtain ⟨f0,f1,f2,f3,f4,f5⟩:=hf it (by simp)
  have W:=Walks.range (prog:=X.prog) (w:=X.w) (I.ok.hd hc) it lo 1 n
  refine W.item i s _ _ hg st fun v h' tk hv st' kk=>?_
  obtain ⟨t,rfl⟩:=hv
  have I1:Zf X pins σ H { s with heap:=h',toks:=tk }:=I.turned (fun b o hb e=>kk b o (by simpa using hb) e) f0 f1 f3 f4 f5
  refine ⟨_,rfl,Zba (s:={ s with heap:=h',toks:=tk }) (n := "range_iterator") st' rfl rfl (by decide) ⟨.int (lo+i),H,I1,⟨t,?_⟩,⟨rfl,rfl⟩,st',fun b hb=>(hf b hb).1⟩⟩
  rw [Int.mul_one]
 done:=by
  intro X hP hw hK hc i pins s σ H E I hf st hg
  subst hP hw hK
  obtain ⟨f0,f1,f2,f3,f4,f5⟩:=hf it (by simp)
  exact wpAny_pyNext_range_end (I.ok.hd hc) st (by have:n≤i:=hg;omega) fun h' eb=>⟨rfl,I.turned (t':=s.toks) (fun b o hb e=>eb b o hb e) f0 f1 f3 f4 f5⟩
 self:=fun _ _ _ _ _ st h=>wpAny_pyIter_rangeiter st h
end L2
namespace L2
open PySem PySem.Spec PyProof.Rows
section
variable {X:Cx} {tg:Expr}
def Zjl (K:PySem.W.Frag) (tl:TE):TI:=fun σ H R=>tl σ H fun x H1=>∃ a,x=.ref a∧(∃ xs,Zg K H1 a xs)∧R (Ud K a) H1
def Zjm (K:PySem.W.Frag) (tl:TE):TI:=fun σ H R=>tl σ H fun x H1=>∃ a,x=.ref a∧(∃ xs,Zu K H1 a xs)∧R (Itt K a) H1
theorem XT {l:Expr} {tl:TE} (hl:PE X l tl):PI X tg l (Zjl X.K tl):=by
 intro pins s σ H R I h
 refine Zv (hl pins s σ H _ I h) fun v s1 ⟨x,H1,I1,r1,q1⟩=>?_
 obtain ⟨a,e,⟨xs,hq⟩,q⟩:=q1
 subst e
 cases r1
 obtain ⟨its,rv,p,hz⟩:=I1.list hq
 refine wpAny_pyIter_list p.isList ?_
 refine ⟨s1.heap.objs.size,[s1.heap.objs.size],_,_,H1,rfl,I1.kept (t':=s1.toks) fun b o e=>Heap.get?_push_of_some _ e,Zji a _,⟨_,Heap.get?_push_size _ rfl,rfl,rfl⟩,fun b hb=>?_,q⟩
 have e:b=s1.heap.objs.size:=by simpa using hb
 subst e
 exact I1.fpOk (Nat.le_refl _) (I1.hok.fresh (Nat.le_refl _))
theorem Zjn {l:Expr} {tl:TE} (hl:PE X l tl):PI X tg l (Zjm X.K tl):=by
 intro pins s σ H R I h
 refine Zv (hl pins s σ H _ I h) fun v s1 ⟨x,H1,I1,r1,q1⟩=>?_
 obtain ⟨a,e,⟨xs,hq⟩,q⟩:=q1
 subst e
 cases r1
 obtain ⟨its,rv,p,hz⟩:=I1.tuple hq
 refine wpAny_pyIter_tuple (show s1.heap.IsTuple a its.toArray from p) ?_
 refine ⟨s1.heap.objs.size,[s1.heap.objs.size],_,_,H1,rfl,I1.kept (t':=s1.toks) fun b o e=>Heap.get?_push_of_some _ e,Zjj a _,⟨_,Heap.get?_push_size _ rfl,rfl,rfl⟩,fun b hb=>?_,q⟩
 have e:b=s1.heap.objs.size:=by simpa using hb
 subst e
 exact I1.fpOk (Nat.le_refl _) (I1.hok.fresh (Nat.le_refl _))
theorem Ze5 {pins:List (Addr×Obj)} {σ:St} {H:Hp} {s:Shared} {R:It→Hp→Prop} {E:Value→Shared→Prop} {lo hi:Int} {t u v:Tok} {tk:Nat} (I:Zf X pins σ H s) (h1:-(2 ^ 62)≤lo) (h2:lo < 2 ^ 62) (h3:-(2 ^ 62)≤hi) (h4:hi < 2 ^ 62)
  (q:R (Vl lo (hi - lo).toNat) H):wpAny (model X.prog X.w) X.A (pyIter (.ref s.heap.objs.size)) (PIE X pins σ tg R) E { s with heap:=s.heap.push { cls:=.type "range",data:=.fields #[.int lo t,.int hi u,.int 1 v] },toks:=tk }:=by
 refine wpAny_pyIter_range (IsRange.new ..) (small_one h1 h2 h3 h4) ?_
 have I1:Zf X pins σ H { s with heap:=s.heap.push { cls:=.type "range",data:=.fields #[.int lo t,.int hi u,.int 1 v] },toks:=tk }:=I.kept fun b o e=>Heap.get?_push_of_some _ e
 refine ⟨(s.heap.push { cls:=.type "range",data:=.fields #[.int lo t,.int hi u,.int 1 v] }).objs.size,[(s.heap.push { cls:=.type "range",data:=.fields #[.int lo t,.int hi u,.int 1 v] }).objs.size],_,_,H,rfl,
  I1.kept (t':=tk) fun b o e=>Heap.get?_push_of_some _ e,Zjk _ lo (hi - lo).toNat,?_,fun b hb=>?_,q⟩
 ·have e1:lo+((0:Nat):Int) * 1=lo:=by simp
  have e2:(((hi - lo).toNat:Nat):Int) - ((0:Nat):Int)=Builtin.Range.rangeSize lo hi 1:=by rw [rangeSize_one];split <;> omega
  show IsRangeIter _ _ (lo+((0:Nat):Int) * 1) ((((hi - lo).toNat:Nat):Int) - ((0:Nat):Int)) 1
  rw [e1,e2]
  exact Heap.get?_push_size _ rfl
 ·have e:b=(s.heap.push { cls:=.type "range",data:=.fields #[.int lo t,.int hi u,.int 1 v] }).objs.size:=by simpa using hb
  subst e
  exact I1.fpOk (Nat.le_refl _) (I1.hok.fresh (Nat.le_refl _))
def Zjo (ta:TA):TI:=fun σ H R=>ta σ H fun vs H1=>∃ j:Int,vs=[.int j]∧-(2 ^ 62)≤j∧j < 2 ^ 62∧R (Vl 0 j.toNat) H1
def Zjp (ta:TA):TI:=fun σ H R=>ta σ H fun vs H1=>∃ i j:Int,vs=[.int i,.int j]∧(-(2 ^ 62)≤i∧i < 2 ^ 62∧-(2 ^ 62)≤j∧j < 2 ^ 62)∧R (Vl i (j - i).toNat) H1
theorem VN {a:Expr} {ta:TA} {p pos:Pos} (hg:Gl X "range") (hm:X.mg "range" = none) (ha:PA X [a] ta) (hs:starEach [a] X.env=[(false,eval a X.env)]:=by rfl):PI X tg (.Call (.Name "range" p) [a] [] pos) (Zjo ta):=by
 intro pins s σ H R I h
 refine Call_ (Uc I hg hm boot_range (PyProof.Rows.callWith_type1 (Zv (ha pos pins s σ H _ I h) fun us s1 ⟨vs,H1,I1,r1,q1⟩=>?_) hs rfl))
 obtain ⟨j,e,q1,q2,q⟩:=q1
 subst e
 cases r1 with
 | cons r rr =>
  cases rr
  obtain ⟨t,rfl⟩:=r
  exact call_range_1 (Ze5 I1 (by omega) (by omega) q1 q2 (by simpa using q))
theorem Zb6 {a b:Expr} {ta:TA} {p pos:Pos} (hg:Gl X "range") (hm:X.mg "range" = none) (ha:PA X [a,b] ta) (hs:starEach [a,b] X.env=[(false,eval a X.env),(false,eval b X.env)]:=by rfl) (hs2:starEach [b] X.env=[(false,eval b X.env)]:=by rfl) :
  PI X tg (.Call (.Name "range" p) [a,b] [] pos) (Zjp ta):=by
 intro pins s σ H R I h
 refine Call_ (Uc I hg hm boot_range (PyProof.Rows.callWith_type1 (Zv (ha pos pins s σ H _ I h) fun us s1 ⟨vs,H1,I1,r1,q1⟩=>?_) (by rw [hs,hs2]) (by rw [hs2];rfl)))
 obtain ⟨i,j,e,⟨q1,q2,q3,q4⟩,q⟩:=q1
 subst e
 cases r1 with
 | cons r rr =>
  cases rr with
  | cons r' rr =>
   cases rr
   obtain ⟨t,rfl⟩:=r
   obtain ⟨t',rfl⟩:=r'
   exact call_range_2 (Ze5 I1 q1 q2 q3 q4 q)
def Zjq (wi:TI) (g:TG) (tb:TS):TS:=fun D σ H=>wi σ H fun J H1=>∃ W:Nat→Nat→St→Hp→Prop,(∃ m,W 0 m σ H1)∧∀ i m σ H,W i m σ H →
 (J.stop i H∧D.nx σ H)∨(J.go i H∧∃ N:St→Hp→Prop,(∀ σ' H',N σ' H'→∃ m',m' < m∧W (i+1) m' σ' H')∧∀ x H',J.yld i H x H'→g x σ H' fun σ2 H2=>tb { D with nx:=N,ct:=N,bk:=D.nx } σ2 H2)
def UF (fp:List Addr) (h:Heap):List (Addr×Obj):=fp.filterMap fun b=>(h.get? b).map fun o=>(b,o)
theorem Zbb {fp:List Addr} {h:Heap} {b:Addr} {o:Obj} (hb:b∈fp) (e:h.get? b=some o):(b,o)∈UF fp h:=List.mem_filterMap.mpr ⟨b,hb,by rw [e];rfl⟩
theorem Zjr {fp:List Addr} {h:Heap} {p:Addr×Obj} (hp:p∈UF fp h):p.1∈fp∧h.get? p.1=some p.2:=by
 obtain ⟨b,hb,e⟩:=List.mem_filterMap.mp hp
 cases q:h.get? b with
 | none=>rw [q] at e;cases e
 | some o =>
  rw [q] at e
  have e':(b,o)=p:=Option.some.inj e
  subst e'
  exact ⟨hb,q⟩
theorem Zf.pinned {pins:List (Addr×Obj)} {σ:St} {H:Hp} {s:Shared} {fp:List Addr} (I:Zf X pins σ H s) (hf:∀ b∈fp,YO X pins H b) (ho:∀ b∈fp,∃ o,s.heap.get? b=some o∧∀ v,o.data≠.cell v):Zf X (pins++UF fp s.heap) σ H s :=
 I.pins_of fun p hp=>(List.mem_append.mp hp).elim (fun z=>I.pin p (List.mem_append_right _ z)) fun z=>by
  obtain ⟨hb,e⟩:=Zjr z
  obtain ⟨f0,f1,f2,_⟩:=hf p.1 hb
  obtain ⟨o,e',d⟩:=ho p.1 hb
  rw [e] at e';cases e'
  exact ⟨e,f0,f1,f2,d⟩
theorem Zf.unpinned {pins pl:List (Addr×Obj)} {σ:St} {H:Hp} {s:Shared} (I:Zf X (pins++pl) σ H s):Zf X pins σ H s:=I.pins_of fun p hp=>I.pin p (List.mem_append_right _ (List.mem_append_left _ hp))
theorem YU {iter:Expr} {body:List Stmt} {wi:TI} {g:TG} {tb:TS} {pos:Pos} (hp:PassesOwn (model X.prog X.w) X.A X.env X.xe) (hc:X.calm=true) (hi:PI X tg iter wi) (hg:PG X tg g) (hb:X2 X body tb)
  (hs:∀ x,foldedSetIterable iter X.env x=pure x:=by intro _;rfl):PS X (.For tg iter body [] pos) (Zjq wi g tb):=by
 intro pins s σ H D I h
 refine wpAny_For (Zv (hi pins s σ H _ I h) fun v s1 h1=>Zv h1 fun itv s2 h2=>?_) hs
 obtain ⟨it,fp,tn,J,H2,e,I2,T,st2,f2,W,⟨m0,w0⟩,turn⟩:=h2
 subst e
 -- what stays true of the iterator's objects through the loop
 have stat:∀ {H':Hp},(∀ b∈fp,H' b=none)→∀ b∈fp,YO X pins H' b:=fun hn b hb=>⟨hn b hb,(f2 b hb).2⟩
 refine codeAny_forLoop_any (fun n s'=>∃ i σ' H',Zf X pins σ' H' s'∧tn i s'.heap∧(∀ b∈fp,H' b=none)∧W i n σ' H') ?_ m0 ⟨0,σ,H2,I2,st2,fun b hb=>(f2 b hb).1,w0⟩
 rintro n s3 ⟨i,σ3,H3,I3,st3,fr3,w3⟩
 rcases turn i n σ3 H3 w3 with ⟨stop,qn⟩ | ⟨go,N,hN,step⟩
 ·refine wpAny_passesOwn hp (Zv (T.done X rfl rfl rfl hc i pins s3 σ3 H3 X.xe I3 (stat fr3) st3 stop) fun r s4 ⟨hr,I4⟩=>?_)
  subst hr
  exact wpAny_execs_nil ⟨σ3,H3,I4,qn⟩
 ·refine wpAny_passesOwn hp (Zv (T.item X rfl rfl rfl hc i pins s3 σ3 H3 X.xe I3 (stat fr3) st3 go) fun r s4 ⟨u,hr,h4⟩=>?_)
  subst hr
  refine wpAny_passesOwn hp (Zv h4 fun _ s5 ⟨x,H5,I5,r5,y5,st5,fr5⟩=>?_)
  have I5':=I5.pinned (stat fr5) (T.obj _ _ st5)
  refine wpAny_passesOwn hp (Zv (hg _ s5 σ3 H5 x u _ I5' r5 (step x H5 y5)) fun _ s6 ⟨σ6,H6,I6,q6⟩=>?_)
  refine wpAny_passesOwn hp (Zv (hb _ s6 σ6 H6 _ I6 q6) fun f s7 q7=>?_)
  have again:∀ {σ7:St} {H7:Hp},Zf X (pins++UF fp s5.heap) σ7 H7 s7→N σ7 H7→∃ m,m < n∧∃ i σ' H',Zf X pins σ' H' s7∧tn i s7.heap∧(∀ b∈fp,H' b=none)∧W i m σ' H':=fun {σ7 H7} I7 n7=>by
   obtain ⟨m',hm,w7⟩:=hN σ7 H7 n7
   refine ⟨m',hm,i+1,σ7,H7,I7.unpinned,T.keep _ _ _ st5 fun b hb o e=>(I7.pin (b,o) (List.mem_append_right _ (List.mem_append_right _ (Zbb hb e)))).1,fun b hb=>?_,w7⟩
   obtain ⟨o,e,d⟩:=T.obj _ _ st5 b hb
   exact (I7.pin (b,o) (List.mem_append_right _ (List.mem_append_right _ (Zbb hb e)))).2.1
  cases f with
  | next=>obtain ⟨σ7,H7,I7,n7⟩:=q7;exact again I7 n7
  | cont=>obtain ⟨σ7,H7,I7,n7⟩:=q7;exact again I7 n7
  | brk=>obtain ⟨σ7,H7,I7,q7⟩:=q7;exact ⟨σ7,H7,I7.unpinned,q7⟩
  | ret v=>obtain ⟨x7,σ7,H7,I7,r7,q7⟩:=q7;exact ⟨x7,σ7,H7,I7.unpinned,r7,q7⟩
end
theorem W8 {K:PySem.W.Frag} {a:Addr} {xs:List V} {g:TG} {tb:TS} {D:VI} {σ:St} {H:Hp} (Pv:Nat→St→Hp→Prop) (h0:Pv 0 σ H) (hl:∀ i σ H,i≤xs.length→Pv i σ H→Zg K H a xs)
  (hs:∀ i x σ H,xs[i]? = some x→Pv i σ H→g x σ H fun σ2 H2=>tb { D with nx:=Pv (i+1),ct:=Pv (i+1),bk:=D.nx } σ2 H2) (hd:∀ σ H,Pv xs.length σ H→D.nx σ H) :
  ∃ W:Nat→Nat→St→Hp→Prop,(∃ m,W 0 m σ H)∧∀ i m σ H,W i m σ H →
   ((Ud K a).stop i H∧D.nx σ H)∨((Ud K a).go i H∧∃ N:St→Hp→Prop,(∀ σ' H',N σ' H'→∃ m',m' < m∧W (i+1) m' σ' H')∧∀ x H',(Ud K a).yld i H x H'→g x σ H' fun σ2 H2=>tb { D with nx:=N,ct:=N,bk:=D.nx } σ2 H2):=by
 refine ⟨fun i m σ H=>m=xs.length - i∧i≤xs.length∧Pv i σ H,⟨xs.length,by simp,Nat.zero_le _,h0⟩,?_⟩
 rintro i m σ H ⟨rfl,hi,p⟩
 have q:=hl i σ H hi p
 by_cases hlt:i < xs.length
 ·refine .inr ⟨⟨xs,xs[i],q,by simp [hlt]⟩,Pv (i+1),fun σ' H' p'=>⟨xs.length - (i+1),by omega,rfl,hlt,p'⟩,fun x H' y=>?_⟩
  obtain ⟨e,y⟩:=y
  subst e
  exact hs i x σ _ (y xs q) p
 ·have e:i=xs.length:=by omega
  subst e
  exact .inl ⟨⟨xs,q,Nat.le_refl _⟩,hd σ H p⟩
theorem W9 {lo:Int} {n:Nat} {g:TG} {tb:TS} {D:VI} {σ:St} {H:Hp} (Pv:Nat→St→Hp→Prop) (h0:Pv 0 σ H)
  (hs:∀ i σ H,i < n→Pv i σ H→g (.int (lo+i)) σ H fun σ2 H2=>tb { D with nx:=Pv (i+1),ct:=Pv (i+1),bk:=D.nx } σ2 H2) (hd:∀ σ H,Pv n σ H→D.nx σ H) :
  ∃ W:Nat→Nat→St→Hp→Prop,(∃ m,W 0 m σ H)∧∀ i m σ H,W i m σ H →
   ((Vl lo n).stop i H∧D.nx σ H)∨((Vl lo n).go i H∧∃ N:St→Hp→Prop,(∀ σ' H',N σ' H'→∃ m',m' < m∧W (i+1) m' σ' H')∧∀ x H',(Vl lo n).yld i H x H'→g x σ H' fun σ2 H2=>tb { D with nx:=N,ct:=N,bk:=D.nx } σ2 H2):=by
 refine ⟨fun i m σ H=>m=n - i∧i≤n∧Pv i σ H,⟨n,by simp,Nat.zero_le _,h0⟩,?_⟩
 rintro i m σ H ⟨rfl,hi,p⟩
 by_cases hlt:i < n
 ·refine .inr ⟨hlt,Pv (i+1),fun σ' H' p'=>⟨n - (i+1),by omega,rfl,hlt,p'⟩,fun x H' y=>?_⟩
  obtain ⟨e,y⟩:=y
  subst e y
  exact hs i σ _ hlt p
 ·have e:i=n:=by omega
  subst e
  exact .inl ⟨Nat.le_refl _,hd σ H p⟩
end L2
namespace L2
open PySem PySem.Spec PyProof.Rows
abbrev R2:=V→V→Hp→VK→Prop
def Ys (X:Cx) (f:Value→Value→Sem Value) (r:R2):Prop :=
 ∀ (pins:List (Addr×Obj)) (s:Shared) (σ:St) (H:Hp) (x y:V) (v u:Value) (Q:VK),Zf X pins σ H s→ZC x v→ZC y u→r x y H Q →
  wpAny (model X.prog X.w) X.A (f v u) (EP X pins σ Q) X.xe s
def UnR (X:Cx) (f:Value→Sem Value) (r:V→Hp→VK→Prop):Prop :=
 ∀ (pins:List (Addr×Obj)) (s:Shared) (σ:St) (H:Hp) (x:V) (v:Value) (Q:VK),Zf X pins σ H s→ZC x v→r x H Q →
  wpAny (model X.prog X.w) X.A (f v) (EP X pins σ Q) X.xe s
def Xq (X:Cx) (f:Value) (r:List V→Hp→VK→Prop):Prop :=
 ∀ (pins:List (Addr×Obj)) (s:Shared) (σ:St) (H:Hp) (xs:List V) (us:List Value) (Q:VK),Zf X pins σ H s→Zy xs us→r xs H Q →
  wpAny (model X.prog X.w) X.A (call f us) (EP X pins σ Q) X.xe s
def tOp (r:R2) (ta tb:TE):TE:=fun σ H Q=>ta σ H fun x H1=>tb σ H1 fun y H2=>r x y H2 Q
def tUn (r:V→Hp→VK→Prop) (ta:TE):TE:=fun σ H Q=>ta σ H fun x H1=>r x H1 Q
def rI (C:Int→Int→Prop) (g:Int→Int→V):R2:=fun x y H Q=>∃ i j,x=.int i∧y=.int j∧C i j∧Q (g i j) H
def VO (g:Int→Int→V):R2:=fun x y H Q=>∃ i j,x=.int i∧y=.int j∧Q (g i j) H
def rU (g:Int→V):V→Hp→VK→Prop:=fun x H Q=>∃ i,x=.int i∧Q (g i) H
section
variable {X:Cx} {a b c:Expr} {ta tb tc:TE} {pos:Pos}
theorem Zb7 (ha:PE X a ta) (hb:PE X b tb) {pins:List (Addr×Obj)} {s:Shared} {σ:St} {H:Hp} {R:V→V→Hp→Prop} (I:Zf X pins σ H s)
  (h:ta σ H fun x H1=>tb σ H1 fun y H2=>R x y H2) {Q:Value→Shared→Prop} {f:Value→Value→Sem Value}
  (hf:∀ v u s2 x y H2,Zf X pins σ H2 s2→ZC x v→ZC y u→R x y H2→wpAny (model X.prog X.w) X.A (f v u) Q X.xe s2) :
  wpAny (model X.prog X.w) X.A (eval a X.env) (fun v s₁=>wpAny (model X.prog X.w) X.A (eval b X.env) (fun u s₂=>wpAny (model X.prog X.w) X.A (f v u) Q X.xe s₂) X.xe s₁) X.xe s:=by
 refine Zv (ha pins s σ H _ I h) fun v s1 ⟨x,H1,I1,r1,q1⟩=>?_
 refine Zv (hb pins s1 σ H1 _ I1 q1) fun u s2 ⟨y,H2,I2,r2,q2⟩=>?_
 exact hf v u s2 x y H2 I2 r1 r2 q2
theorem Zi {op:Operator} {r:R2} (ho:Ys X (binaryOp op) r) (ha:PE X a ta) (hb:PE X b tb):PE X (.BinOp a op b pos) (tOp r ta tb):=by
 intro pins s σ H Q I h
 exact wpAny_BinOp (Zb7 ha hb I h fun v u s2 x y H2 I2 rx ry q=>ho pins s2 σ H2 x y v u Q I2 rx ry q)
theorem Zb8 {op:UnaryOp} {r:V→Hp→VK→Prop} (ho:UnR X (unaryOp op) r) (ha:PE X a ta):PE X (.UnaryOp op a pos) (tUn r ta):=by
 intro pins s σ H Q I h
 exact UnaryOp_ (Zv (ha pins s σ H _ I h) fun v s1 ⟨x,H1,I1,r1,q1⟩=>ho pins s1 σ H1 x v Q I1 r1 q1)
theorem opI {f:Value→Value→Sem Value} {C:Int→Int→Prop} {g:Int→Int→Int}
  (rule:∀ (i j:Int) (t u:Tok) (s:Shared) (Q:Value→Shared→Prop) (E:Value→Shared→Prop),C i j→Q (.int (g i j) s.toks) { s with toks:=s.toks+1 }→wpAny (model X.prog X.w) X.A (f (.int i t) (.int j u)) Q E s) :
  Ys X f (rI C fun i j=>.int (g i j)):=by
 intro pins s σ H x y v u Q I rx ry h
 obtain ⟨i,j,rfl,rfl,hc,q⟩:=h
 obtain ⟨t,rfl⟩:=rx
 obtain ⟨t',rfl⟩:=ry
 exact rule i j t t' s _ _ hc ⟨.int (g i j),H,I.tok _,⟨_,rfl⟩,q⟩
theorem Zb9 {f:Value→Value→Sem Value} {g:Int→Int→Int}
  (rule:∀ (i j:Int) (t u:Tok) (s:Shared) (Q:Value→Shared→Prop) (E:Value→Shared→Prop),Q (.int (g i j) s.toks) { s with toks:=s.toks+1 }→wpAny (model X.prog X.w) X.A (f (.int i t) (.int j u)) Q E s) :
  Ys X f (VO fun i j=>.int (g i j)):=by
 intro pins s σ H x y v u Q I rx ry h
 obtain ⟨i,j,rfl,rfl,q⟩:=h
 obtain ⟨t,rfl⟩:=rx
 obtain ⟨t',rfl⟩:=ry
 exact rule i j t t' s _ _ ⟨.int (g i j),H,I.tok _,⟨_,rfl⟩,q⟩
theorem Zbc {f:Value→Value→Sem Value} {g:Int→Int→Bool}
  (rule:∀ (i j:Int) (t u:Tok) (s:Shared) (Q:Value→Shared→Prop) (E:Value→Shared→Prop),Q (.bool (g i j)) s→wpAny (model X.prog X.w) X.A (f (.int i t) (.int j u)) Q E s) :
  Ys X f (VO fun i j=>.bl (g i j)):=by
 intro pins s σ H x y v u Q I rx ry h
 obtain ⟨i,j,rfl,rfl,q⟩:=h
 obtain ⟨t,rfl⟩:=rx
 obtain ⟨t',rfl⟩:=ry
 exact rule i j t t' s _ _ ⟨.bl (g i j),H,I,rfl,q⟩
def Zjs (i j:Int):Prop:=0 < j∧j < 1073741824
def Zbd (i j:Int):Prop:=(-(2 ^ 64) < i∧i < 2 ^ 64)∨(-(2 ^ 64) < j∧j < 2 ^ 64)
theorem Zbd.ok {i j:Int} (h:Zbd i j):IntMulOk i j:=by
 rcases h with ⟨h1,h2⟩ | ⟨h1,h2⟩
 ·exact .of_left (intBits_le_64 h1 h2)
 ·exact .of_right (intBits_le_64 h1 h2)
theorem Zjt (k:Nat):(0:Int)≤2 ^ k:=by
 rw [two_pow_cast]
 exact Int.natCast_nonneg _
theorem ZZ:Ys X (binaryOp .Add) (VO fun i j=>.int (i+j)):=Zb9 fun _ _ _ _ _ _ _ q=>add_int q
theorem XL:Ys X (binaryOp .Sub) (VO fun i j=>.int (i - j)):=Zb9 fun _ _ _ _ _ _ _ q=>sub_int q
theorem UG:Ys X (binaryOp .Mult) (rI Zbd fun i j=>.int (i * j)):=opI fun _ _ _ _ _ _ _ hc q=>mul_int q hc.ok
theorem Yl:Ys X (binaryOp .FloorDiv) (rI Zjs fun i j=>.int (i / j)):=opI fun i j _ _ _ _ _ hc q=>by
 have h1:(0:Int) < j:=hc.1
 have h2:j < 1073741824:=hc.2
 exact floordiv_int (by omega) (by rw [Int.fdiv_eq_ediv_of_nonneg i (by omega)];exact q) (.inl (PyProof.noPylong_small (by omega)))
theorem ZP:Ys X (binaryOp .Mod) (rI (fun _ j=>0 < j) fun i j=>.int (i % j)):=opI fun i j _ _ _ _ _ hc q=>by
 have h1:(0:Int) < j:=hc
 exact mod_int' (by omega) (by rw [Int.fmod_eq_emod_of_nonneg i (by omega)];exact q)
theorem Zju:Ys X (binaryOp .RShift) (rI (fun _ j=>0≤j) fun i j=>.int (i / 2 ^ j.toNat)):=opI fun i j _ _ _ _ _ hc q =>
 rshift_int hc (by rw [Int.fdiv_eq_ediv_of_nonneg i (Zjt _)];exact q)
theorem Zjv:Ys X (binaryOp .BitAnd) (VO fun i j=>.int (Builtin.bitAnd i j)):=Zb9 fun _ _ _ _ _ _ _ q=>and_int q
theorem unI {f:Value→Sem Value} {g:Int→Int}
  (rule:∀ (i:Int) (t:Tok) (s:Shared) (Q:Value→Shared→Prop) (E:Value→Shared→Prop),Q (.int (g i) s.toks) { s with toks:=s.toks+1 }→wpAny (model X.prog X.w) X.A (f (.int i t)) Q E s) :
  UnR X f (rU fun i=>.int (g i)):=by
 intro pins s σ H x v Q I rx h
 obtain ⟨i,rfl,q⟩:=h
 obtain ⟨t,rfl⟩:=rx
 exact rule i t s _ _ ⟨.int (g i),H,I.tok _,⟨_,rfl⟩,q⟩
theorem Zca:UnR X (unaryOp .USub) (rU fun i=>.int (-i)):=unI fun _ _ _ _ _ q=>neg_int q
end
def Ze6:V→V→Bool
 | .non,.non=>true | .non,.int _=>true | .int _,.non=>true | .non,.bl _=>true | .bl _,.non=>true | .non,.str _=>true | .str _,.non=>true
 | .int _,.int _=>true | .bl _,.bl _=>true | .str _,.str _=>true | .byt _,.byt _=>true
 | .int _,.str _=>true | .str _,.int _=>true | .bl _,.str _=>true | .str _,.bl _=>true
 | _,_=>false
def rEq:R2:=fun x y H Q=>Ze6 x y=true∧Q (.bl (decide (x=y))) H
def rNe:R2:=fun x y H Q=>Ze6 x y=true∧Q (.bl (!decide (x=y))) H
theorem Ze7 {i j:Int}:decide (V.int i=V.int j)=(i == j):=by
 rw [Bool.eq_iff_iff]
 simp
theorem Ze8 {i j:Bool}:decide (V.bl i=V.bl j)=(i == j):=by
 rw [Bool.eq_iff_iff]
 simp
theorem Ze9 {i j:Str}:decide (V.str i=V.str j)=(i == j):=by
 rw [Bool.eq_iff_iff]
 simp
theorem Zfa {i j:Array UInt8}:decide (V.byt i=V.byt j)=(i.toList == j.toList):=by
 rw [Bool.eq_iff_iff]
 cases i
 cases j
 simp
section
variable {X:Cx} {a b c:Expr} {ta tb tc:TE} {pos:Pos}
theorem YE {pins:List (Addr×Obj)} {σ:St} {H:Hp} {s:Shared} {Q:VK} {k k':Bool} (I:Zf X pins σ H s) (q:Q (.bl k) H) (e:k=k'):EP X pins σ Q (.bool k') s:=by
 subst e
 exact ⟨.bl k,H,I,rfl,q⟩
theorem Wc:Ys X (compareOp .Eq) rEq:=by
 intro pins s σ H x y v u Q I rx ry h
 obtain ⟨hs,q⟩:=h
 cases x with
 | non =>
  cases rx
  cases y with
  | non=>cases ry;exact PySem.EqNone.eq_none_none (YE I q (by simp))
  | bl j=>cases ry;exact PySem.EqNone.eq_none_bool (YE I q (by simp))
  | int j=>obtain ⟨t',rfl⟩:=ry;exact PySem.EqNone.eq_none_int (YE I q (by simp))
  | str j=>obtain ⟨t',rfl⟩:=ry;exact PySem.EqNone.eq_none_str (YE I q (by simp))
  | _=>exact absurd (show false=true from hs) Bool.false_ne_true
 | bl i =>
  cases rx
  cases y with
  | non=>cases ry;exact PySem.EqNone.eq_bool_none (YE I q (by simp))
  | bl j=>cases ry;exact eq_bool (YE I q Ze8)
  | str j=>obtain ⟨t',rfl⟩:=ry;exact PySem.EqMixed.eq_bool_str (YE I q (by simp))
  | _=>exact absurd (show false=true from hs) Bool.false_ne_true
 | int i =>
  obtain ⟨t,rfl⟩:=rx
  cases y with
  | non=>cases ry;exact PySem.EqNone.eq_int_none (YE I q (by simp))
  | int j=>obtain ⟨t',rfl⟩:=ry;exact eq_int (YE I q Ze7)
  | str j=>obtain ⟨t',rfl⟩:=ry;exact PySem.EqMixed.eq_int_str (YE I q (by simp))
  | _=>exact absurd (show false=true from hs) Bool.false_ne_true
 | str i =>
  obtain ⟨t,rfl⟩:=rx
  cases y with
  | non=>cases ry;exact PySem.EqNone.eq_str_none (YE I q (by simp))
  | bl j=>cases ry;exact PySem.EqMixed.eq_str_bool (YE I q (by simp))
  | int j=>obtain ⟨t',rfl⟩:=ry;exact PySem.EqMixed.eq_str_int (YE I q (by simp))
  | str j=>obtain ⟨t',rfl⟩:=ry;exact eq_str (YE I q Ze9)
  | _=>exact absurd (show false=true from hs) Bool.false_ne_true
 | byt i =>
  obtain ⟨t,rfl⟩:=rx
  cases y with
  | byt j=>obtain ⟨t',rfl⟩:=ry;exact PySem.W.eq_bytes (YE I q Zfa)
  | _=>exact absurd (show false=true from hs) Bool.false_ne_true
 | _=>cases y <;> exact absurd (show false=true from hs) Bool.false_ne_true
theorem Zjw:Ys X (compareOp .NotEq) rNe:=by
 intro pins s σ H x y v u Q I rx ry h
 obtain ⟨hs,q⟩:=h
 cases x with
 | non =>
  cases rx
  cases y with
  | non=>cases ry;exact PySem.EqNone.ne_none_none (YE I q (by simp))
  | bl j=>cases ry;exact PySem.EqNone.ne_none_bool (YE I q (by simp))
  | int j=>obtain ⟨t',rfl⟩:=ry;exact PySem.EqNone.ne_none_int (YE I q (by simp))
  | str j=>obtain ⟨t',rfl⟩:=ry;exact PySem.EqNone.ne_none_str (YE I q (by simp))
  | _=>exact absurd (show false=true from hs) Bool.false_ne_true
 | bl i =>
  cases rx
  cases y with
  | non=>cases ry;exact PySem.EqNone.ne_bool_none (YE I q (by simp))
  | bl j=>cases ry;exact ne_bool (YE I q (congrArg not Ze8))
  | str j=>obtain ⟨t',rfl⟩:=ry;exact PySem.EqMixed.ne_bool_str (YE I q (by simp))
  | _=>exact absurd (show false=true from hs) Bool.false_ne_true
 | int i =>
  obtain ⟨t,rfl⟩:=rx
  cases y with
  | non=>cases ry;exact PySem.EqNone.ne_int_none (YE I q (by simp))
  | int j=>obtain ⟨t',rfl⟩:=ry;exact ne_int (YE I q (congrArg not Ze7))
  | str j=>obtain ⟨t',rfl⟩:=ry;exact PySem.EqMixed.ne_int_str (YE I q (by simp))
  | _=>exact absurd (show false=true from hs) Bool.false_ne_true
 | str i =>
  obtain ⟨t,rfl⟩:=rx
  cases y with
  | non=>cases ry;exact PySem.EqNone.ne_str_none (YE I q (by simp))
  | bl j=>cases ry;exact PySem.EqMixed.ne_str_bool (YE I q (by simp))
  | int j=>obtain ⟨t',rfl⟩:=ry;exact PySem.EqMixed.ne_str_int (YE I q (by simp))
  | str j=>obtain ⟨t',rfl⟩:=ry;exact ne_str (YE I q (congrArg not Ze9))
  | _=>exact absurd (show false=true from hs) Bool.false_ne_true
 | byt i =>
  obtain ⟨t,rfl⟩:=rx
  cases y with
  | byt j=>obtain ⟨t',rfl⟩:=ry;exact PySem.W.ne_bytes (YE I q (congrArg not Zfa))
  | _=>exact absurd (show false=true from hs) Bool.false_ne_true
 | _=>cases y <;> exact absurd (show false=true from hs) Bool.false_ne_true
theorem Zfb:Ys X (compareOp .Lt) (VO fun i j=>.bl (decide (i < j))):=Zbc fun _ _ _ _ _ _ _ q=>lt_int q
theorem Wv:Ys X (compareOp .LtE) (VO fun i j=>.bl (decide (i≤j))):=Zbc fun _ _ _ _ _ _ _ q=>le_int q
theorem Zcb:Ys X (compareOp .Gt) (VO fun i j=>.bl (decide (j < i))):=Zbc fun _ _ _ _ _ _ _ q=>gt_int q
theorem Zfc:Ys X (compareOp .GtE) (VO fun i j=>.bl (decide (j≤i))):=Zbc fun _ _ _ _ _ _ _ q=>ge_int q
theorem YJ (b:Expr) {op:CmpOp} (h:op≠.In:=by decide) (h2:op≠.NotIn:=by decide):behindInMarks op b=false:=by
 have e1:(op == CmpOp.In)=false:=by cases op <;> first | rfl | exact absurd rfl h
 have e2:(op == CmpOp.NotIn)=false:=by cases op <;> first | rfl | exact absurd rfl h2
 cases b <;> simp [behindInMarks,e1,e2]
theorem VP {op:CmpOp} {r:R2} (ho:Ys X (compareOp op) r) (ha:PE X a ta) (hb:PE X b tb) (hm:behindInMarks op b=false):PE X (.Compare a [op] [b] pos) (tOp r ta tb):=by
 intro pins s σ H Q I h
 exact wpAny_Compare1 (Zb7 ha hb I h fun v u s2 x y H2 I2 rx ry q=>ho pins s2 σ H2 x y v u Q I2 rx ry q) hm
def Zfd (t:TE):TT:=fun σ H Q=>t σ H fun x H'=>∃ k,x=.bl k∧Q k H'
theorem Xd {op:CmpOp} {r:R2} (ho:Ys X (compareOp op) r) (ha:PE X a ta) (hb:PE X b tb) (hm:behindInMarks op b=false):PT X (.Compare a [op] [b] pos) (Zfd (tOp r ta tb)):=by
 intro pins s σ H Q I h
 refine wpAny_isTrue_Compare1 (Zv (ha pins s σ H _ I h) fun v s1 ⟨x,H1,I1,r1,q1⟩=>Zv (hb pins s1 σ H1 _ I1 q1) fun u s2 ⟨y,H2,I2,r2,q2⟩ =>
  Zv (ho pins s2 σ H2 x y v u _ I2 r1 r2 q2) fun c s3 ⟨z,H3,I3,r3,k,e,q3⟩=>?_) hm
 subst e
 cases r3
 exact wpAny_truthy_bool ⟨H3,I3,q3⟩
def Zfe (r r':R2) (ta tb tc:TE):TE:=fun σ H Q=>ta σ H fun x H1=>tb σ H1 fun y H2=>r x y H2 fun z H3=>∃ k,z=.bl k ∧
 (if k=true then tc σ H3 fun w' H4=>r' y w' H4 Q else Q (.bl false) H3)
theorem Zff {op op':CmpOp} {r r':R2} (ho:Ys X (compareOp op) r) (ho':Ys X (compareOp op') r') (ha:PE X a ta) (hb:PE X b tb) (hc:PE X c tc)
  (hm:lastMarks [op,op'] [b,c]=false:=by with_unfolding_all rfl):PE X (.Compare a [op,op'] [b,c] pos) (Zfe r r' ta tb tc):=by
 intro pins s σ H Q I h
 refine Compare_chain (Zv (ha pins s σ H _ I h) fun v s1 ⟨x,H1,I1,r1,q1⟩=>chain_link (Zv (hb pins s1 σ H1 _ I1 q1) fun u s2 ⟨y,H2,I2,r2,q2⟩ =>
  Zv (ho pins s2 σ H2 x y v u _ I2 r1 r2 q2) fun d s3 ⟨z,H3,I3,r3,k,e,q3⟩=>?_)) hm
 subst e
 cases r3
 refine wpAny_truthy_bool ?_
 cases k with
 | false=>exact ite_ff ⟨.bl false,H3,I3,rfl,q3⟩
 | true=>exact ite_tt (chain_last (Zv (hc pins s3 σ H3 _ I3 q3) fun w' s4 ⟨z',H4,I4,r4,q4⟩=>ho' pins s4 σ H4 y z' u w' Q I4 r2 r4 q4))
theorem Zbe {op op':CmpOp} {r r':R2} (ho:Ys X (compareOp op) r) (ho':Ys X (compareOp op') r') (ha:PE X a ta) (hb:PE X b tb) (hc:PE X c tc)
  (hm:lastMarks [op,op'] [b,c]=false:=by with_unfolding_all rfl):PT X (.Compare a [op,op'] [b,c] pos) (Zfd (Zfe r r' ta tb tc)):=by
 intro pins s σ H Q I h
 refine isTrue_chain (Zv (ha pins s σ H _ I h) fun v s1 ⟨x,H1,I1,r1,q1⟩=>test_link (Zv (hb pins s1 σ H1 _ I1 q1) fun u s2 ⟨y,H2,I2,r2,q2⟩ =>
  Zv (ho pins s2 σ H2 x y v u _ I2 r1 r2 q2) fun d s3 ⟨z,H3,I3,r3,k,e,q3⟩=>?_)) hm
 subst e
 cases r3
 refine wpAny_truthy_bool ?_
 cases k with
 | false =>
  obtain ⟨k',e',q'⟩:=q3
  cases e'
  exact ite_ff ⟨H3,I3,q'⟩
 | true =>
  refine ite_tt (test_last (Zv (hc pins s3 σ H3 _ I3 q3) fun w' s4 ⟨z',H4,I4,r4,q4⟩=>Zv (ho' pins s4 σ H4 y z' u w' _ I4 r2 r4 q4) fun d' s5 ⟨z2,H5,I5,r5,k2,e2,q5⟩=>?_))
  subst e2
  cases r5
  exact wpAny_truthy_bool ⟨H5,I5,q5⟩
theorem U7:(sizeLine:Nat) < 2 ^ 63:=by rw [sizeLine_eq];decide
theorem Zbf:Ys X (binaryOp .Add) (fun x y H Q=>∃ i j,x=.str i∧y=.str j∧i.length+j.length≤sizeLine∧Q (.str (i++j)) H):=by
 intro pins s σ H x y v u Q I rx ry h
 obtain ⟨i,j,rfl,rfl,hz,q⟩:=h
 obtain ⟨t,rfl⟩:=rx
 obtain ⟨t',rfl⟩:=ry
 exact add_str (fun t' tk=>⟨.str (i++j),H,I.tok _,⟨_,rfl⟩,q⟩) hz
theorem Ww {x:V} {us:List Value} (r:Zy [x] us):∃ u,us=[u]∧ZC x u:=by
 cases r with
 | cons r1 r2=>cases r2;exact ⟨_,rfl,r1⟩
theorem Zbg {x y:V} {us:List Value} (r:Zy [x,y] us):∃ u w',us=[u,w']∧ZC x u∧ZC y w':=by
 cases r with
 | cons r1 r2 =>
  cases r2 with
  | cons r3 r4=>cases r4;exact ⟨_,_,rfl,r1,r3⟩
theorem Zaq (hc:X.calm=true):Xq X (.builtin "max") (fun xs H Q=>∃ i j,xs=[.int i,.int j]∧Q (.int (if j > i then j else i)) H):=by
 intro pins s σ H xs us Q I r h
 obtain ⟨i,j,rfl,q⟩:=h
 obtain ⟨u,w',rfl,⟨t,rfl⟩,⟨t',rfl⟩⟩:=Zbg r
 refine max_two_ints (I.ok.hd hc) fun h' tk k=>⟨_,H,I.kept k,?_,q⟩
 by_cases hj:j > i
 ·rw [if_pos hj,if_pos hj];exact ⟨_,rfl⟩
 ·rw [if_neg hj,if_neg hj];exact ⟨_,rfl⟩
theorem Zar (hc:X.calm=true):Xq X (.builtin "min") (fun xs H Q=>∃ i j,xs=[.int i,.int j]∧Q (.int (if j < i then j else i)) H):=by
 intro pins s σ H xs us Q I r h
 obtain ⟨i,j,rfl,q⟩:=h
 obtain ⟨u,w',rfl,⟨t,rfl⟩,⟨t',rfl⟩⟩:=Zbg r
 refine min_two_ints (I.ok.hd hc) fun h' tk k=>⟨_,H,I.kept k,?_,q⟩
 by_cases hj:j < i
 ·rw [if_pos hj,if_pos hj];exact ⟨_,rfl⟩
 ·rw [if_neg hj,if_neg hj];exact ⟨_,rfl⟩
end
end L2
namespace L2
open PySem PySem.Spec PyProof.Rows
structure UH (h:Heap) (x dx C:Addr) (mA:Str→Option Value):Prop where
 obj:h.get? x=some (PySem.W.instObj C dx)
 ns:h.Ns1 dx mA
 ne:dx≠x
theorem Zjx {h:Heap} {dx:Addr} {mA:Str→Option Value} (n:h.Ns1 dx mA):∃ od,h.get? dx=some od∧∀ name,PySem.W.lookIn name od=some (mA name):=by
 obtain ⟨o,es,ep,ho,hd,hk,_,hm⟩:=n
 refine ⟨o,ho,fun name=>?_⟩
 have e:=hm name
 unfold nsFind findBy at e
 rw [← Array.find?_toList] at e
 unfold PySem.W.lookIn
 rw [hd]
 dsimp only
 split
 ·rename_i y q
  rw [q] at e
  exact congrArg some e
 ·rename_i q
  rw [q] at e
  have a:es.toList.any (·.refKey)=false:=by
   rw [List.any_eq_false]
   intro y hy
   obtain ⟨z,t,hkey⟩:=hk y (Array.mem_toList_iff.mp hy)
   simp [DictEntry.refKey,hkey]
  have a':¬ es.toList.any (·.refKey)=true:=by rw [a];exact Bool.false_ne_true
  rw [if_neg a']
  exact congrArg some e
theorem UH.look {h:Heap} {x dx C:Addr} {mA:Str→Option Value} (I:UH h x dx C mA):∃ od,PySem.W.InstAt h x (PySem.W.instObj C dx) C (some od)∧∀ name,PySem.W.lookIn name od=some (mA name) :=
 let ⟨od,ho,hl⟩:=Zjx I.ns
 ⟨od,⟨I.obj,rfl,rfl,ho⟩,hl⟩
section
variable {prog:Program} {w:World} {A:Around} {E:Value→Shared→Prop} {s:Shared} {K:PySem.W.Frag} {x dx C f:Addr} {mA:Str→Option Value} {name:Str} {v:Value}
theorem Zjy {expr:Bool} {Q:Value→Shared→Prop} (X:K.In s.heap) (I:UH s.heap x dx C mA) (hg:PySem.W.plainGet K C name=true) (hh:PySem.W.hasDictIn K C=true)
  (ha:PySem.W.findIn K (.ref C) name=some none) (hv:mA name=some v) (hv':PySem.W.handedIn v=true) (h:Q v { s with toks:=s.toks+1 }) :
  wpAny (model prog w) A (getAttr (.ref x) name expr) Q E s:=by
 obtain ⟨od,J,hl⟩:=I.look
 exact PySem.W.get_value X J (PySem.W.plainGet_of hg).1 (PySem.W.findObj_own hh ha rfl (by rw [hl,hv])) hv' h
theorem Zjz {pl:Sem Bool} {Q:Value×List Value→Shared→Prop} (X:K.In s.heap) (I:UH s.heap x dx C mA) (hg:PySem.W.plainGet K C name=true)
  (hf:PySem.W.findIn K (.ref C) name=some (some (.ref f))) (ht:PySem.W.isFn K (.ref f)=true) (hv:mA name=none) (h:Q (.ref f,[.ref x]) s) :
  wpAny (model prog w) A (getMethod (.ref x) name pl) Q E s:=by
 obtain ⟨od,J,hl⟩:=I.look
 exact PySem.W.method_fn X J (PySem.W.plainGet_of hg).1 (PySem.W.plainGet_of hg).2 hf (beq_iff_eq.mp ht) (by show (PySem.W.lookIn name od).map (·.isSome)=some false;rw [hl,hv];rfl) h
theorem ZjA {ns:List Str} {Q:Unit→Shared→Prop} (X:K.In s.heap) (I:UH s.heap x dx C mA)
  (hs:PySem.W.findIn K (.ref C) "__setattr__" = some (some (.builtin "object.__setattr__"))) (hp:PySem.W.plainOver K C=true) (ht:PySem.W.takerIn K C name=some none) (hh:PySem.W.hasDictIn K C=true)
  (hw:PySem.Within mA ns) (hsz:ns.length≤sizeLine)
  (h:∀ h',UH h' x dx C (fun y=>if y=name then some v else mA y)→Heap.SameBut dx s.heap h'→Q () { s with heap:=h',toks:=s.toks+2 }) :
  wpAny (model prog w) A (setAttr (.ref x) name v) Q E s:=by
 obtain ⟨od,J,hl⟩:=I.look
 refine PySem.W.set_plain X J hs (PySem.W.osa_open (s:={ s with toks:=s.toks+1 }) (r:=none) X J hp ht fun b=>?_)
 obtain ⟨cd,hc,hd'⟩:=PySem.W.any_some hh
 have hx:s.heap.get? x=some ⟨.ref C,some dx,.plain,#[]⟩:=I.obj
 refine wpAny_bind (wpAny_pure (wpAny_bind (wpAny_bind (wpAny_loadPart hx (wpAny_bind (PySem.W.Looks.here (s:={ s with toks:=s.toks+1 }) (PySem.W.looks_clsIn X hc) ?_))))))
 rw [hd']
 refine wpAny_pure (a:=some dx) (wpAny_bind (wpAny_pure (wpAny_bind ?_)))
 refine wpAny_nsSet1 (s:={ s with toks:=s.toks+1 }) I.ns fun h' hn2 hs2=>?_
 obtain ⟨oD,esD,epD,hoD,hdD,hcD⟩:=hn2.count (PySem.Within.cons name v hw)
 refine wpAny_bind (wpAny_lookBehind hoD (by rw [hdD];exact pastItsLine_dict (Nat.le_trans hcD (by rw [List.length_cons];omega))) ?_)
 exact wpAny_pure (h _ ⟨(hs2.2 _ (Ne.symm I.ne)).trans I.obj,hn2,I.ne⟩ hs2)
theorem ZjB {R:Result→Shared→Prop} {vs:List Value} {kw:List (Str×Value)} (X:K.In s.heap) (hm:PySem.W.makesIn K C=true)
  (hi:PySem.W.findIn K (.ref C) "__init__" = some (some (.ref f))) (hf:PySem.W.typeIn K (.ref f)=some (.type "function"))
  (h:codeAny (model prog w) (A.under (.builtin "type.__call__" ⟨.ref C::vs,kw⟩)) (.call (.ref f) ⟨.ref (s.heap.objs.size+1)::vs,kw⟩) (PySem.W.InitBack (s.heap.objs.size+1) R)
   { s with heap:=(s.heap.push PySem.W.emptyDict).push (PySem.W.instObj C s.heap.objs.size) }) :
  codeAny (model prog w) A (.call (.ref C) ⟨vs,kw⟩) R s:=by
 obtain ⟨hh,g,d,t,os⟩:=s
 exact PySem.W.make_core (PySem.W.makes_of X hm) (PySem.W.looks_findIn X hi) (fun self=>PySem.W.bind_fn X self hf) (.inl rfl) h
theorem ZjC {R:Result→Shared→Prop} (X:K.In s.heap) (hm:PySem.W.makesIn K C=true)
  (hi:PySem.W.findIn K (.ref C) "__init__" = some (some (.builtin "object.__init__")))
  (hb:∀ self,PySem.W.Looks (model prog w) s.heap (bindSpecial (.builtin "object.__init__") self) (.builtin "object.__init__",[self]))
  (h:codeAny (model prog w) (A.under (.builtin "type.__call__" ⟨[.ref C],[]⟩)) (.call (.builtin "object.__init__") ⟨[.ref (s.heap.objs.size+1)],[]⟩) (PySem.W.InitBack (s.heap.objs.size+1) R)
   { s with heap:=(s.heap.push PySem.W.emptyDict).push (PySem.W.instObj C s.heap.objs.size) }) :
  codeAny (model prog w) A (.call (.ref C) ⟨[],[]⟩) R s:=by
 obtain ⟨hh,g,d,t,os⟩:=s
 exact PySem.W.make_core (PySem.W.makes_of X hm) (PySem.W.looks_findIn X hi) hb (.inr ⟨rfl,rfl⟩) h
end
def YQ (f:Str) (v:V):List (Str×V)→List (Str×V)
 | []=>[(f,v)]
 | (g,x)::r=>if g=f then (g,v)::r else (g,x)::YQ f v r
theorem Zfg (f g:Str) (v:V):∀ fs:List (Str×V),(YQ f v fs).lookup g=if g=f then some v else fs.lookup g
 | []=>by
  show List.lookup g [(f,v)]=_
  by_cases h:g=f
  ·have hb:(g == f)=true:=beq_iff_eq.mpr h
   simp only [List.lookup,hb,if_pos h]
  ·have hb:(g == f)=false:=beq_eq_false_iff_ne.mpr h
   simp only [List.lookup,hb,if_neg h]
 | (k,x)::r=>by
  have ih:=Zfg f g v r
  rw [show YQ f v ((k,x)::r)=(if k=f then (k,v)::r else (k,x)::YQ f v r) from rfl]
  by_cases hk:k=f
  ·rw [if_pos hk]
   by_cases h:g=k
   ·have hb:(g == k)=true:=beq_iff_eq.mpr h
    simp only [List.lookup,hb,if_pos (h.trans hk)]
   ·have hb:(g == k)=false:=beq_eq_false_iff_ne.mpr h
    simp only [List.lookup,hb,if_neg (fun e:g=f=>h (e.trans hk.symm))]
  ·rw [if_neg hk]
   by_cases h:g=k
   ·have hb:(g == k)=true:=beq_iff_eq.mpr h
    simp only [List.lookup,hb,if_neg (fun e:g=f=>hk (h.symm.trans e))]
   ·have hb:(g == k)=false:=beq_eq_false_iff_ne.mpr h
    simp only [List.lookup,hb]
    exact ih
theorem Zcc (f:Str) (v:V):∀ fs:List (Str×V),f∈(YQ f v fs).map (·.1)∧∀ g,g∈fs.map (·.1)→g∈(YQ f v fs).map (·.1)
 | []=>⟨by simp [YQ],fun g h=>by simp at h⟩
 | (k,x)::r=>by
  obtain ⟨i1,i2⟩:=Zcc f v r
  rw [show YQ f v ((k,x)::r)=(if k=f then (k,v)::r else (k,x)::YQ f v r) from rfl]
  by_cases hk:k=f
  ·rw [if_pos hk]
   subst hk
   exact ⟨by simp,fun g h=>by simpa using h⟩
  ·rw [if_neg hk]
   refine ⟨?_,fun g h=>?_⟩
   ·rw [List.map_cons]
    exact List.mem_cons_of_mem _ i1
   ·rw [List.map_cons] at h ⊢
    rcases List.mem_cons.mp h with e | e
    ·exact List.mem_cons.mpr (.inl e)
    ·exact List.mem_cons_of_mem _ (i2 g e)
theorem Zbh (f:Str) (v:V):∀ fs:List (Str×V),(YQ f v fs).length≤fs.length+1
 | []=>by simp [YQ]
 | (k,x)::r=>by
  have ih:=Zbh f v r
  rw [show YQ f v ((k,x)::r)=(if k=f then (k,v)::r else (k,x)::YQ f v r) from rfl]
  by_cases hk:k=f
  ·rw [if_pos hk,List.length_cons,List.length_cons];omega
  ·rw [if_neg hk,List.length_cons,List.length_cons];omega
theorem Xp.some_of {v:V} {o:Option Value} (r:Xp (some v) o):∃ u,o=some u∧ZC v u:=by
 cases o with
 | none=>exact (show False from r).elim
 | some u=>exact ⟨u,rfl,r⟩
theorem Xp.none_of {o:Option Value} (r:Xp none o):o=none:=by
 cases o with
 | none=>rfl
 | some u=>exact (show False from r).elim
theorem ZjD {v:V} {u:Value} (r:ZC v u):PySem.W.handedIn u=true:=by
 cases v with
 | non=>cases (show u=Value.none from r);rfl
 | bl b=>cases (show u=Value.bool b from r);rfl
 | int i=>obtain ⟨t,e⟩:=(show ∃ t,u=Value.int i t from r);cases e;rfl
 | str x=>obtain ⟨t,e⟩:=(show ∃ t,u=Value.str x t from r);cases e;rfl
 | byt b=>obtain ⟨t,e⟩:=(show ∃ t,u=Value.bytes b t from r);cases e;rfl
 | flt b=>obtain ⟨t,e⟩:=(show ∃ t,u=Value.float b t from r);cases e;rfl
 | ref a=>cases (show u=Value.ref a from r);rfl
 | ty n=>cases (show u=Value.type n from r);rfl
section
variable {P:Program} {w:World} {H H':Hp} {h h':Heap} {a C dx:Addr} {fs fs':List (Str×V)}
theorem Zbi (hok:Yy P w H h) (e:H a=some (.ins C dx fs)):∃ mA,UH h a dx C mA∧(∀ f,Xp (fs.lookup f) (mA f))∧PySem.Within mA (fs.map (·.1))∧fs.length≤1000∧H dx=some (.own a):=by
 obtain ⟨d,z,ne,ob,mA,n,r,q⟩:=(show Yc P w H h a (.ins C dx fs) from hok a _ e)
 exact ⟨mA,⟨ob,n,ne⟩,r,q,z,d⟩
end
structure XM (K:PySem.W.Frag) (C:Addr):Prop where
 pg:PySem.W.plainGet K C Str.empty=true
 hd:PySem.W.hasDictIn K C=true
 po:PySem.W.plainOver K C=true
 sa:PySem.W.findIn K (.ref C) "__setattr__" = some (some (.builtin "object.__setattr__"))
theorem XM.get {K:PySem.W.Frag} {C:Addr} (c:XM K C) (f:Str):PySem.W.plainGet K C f=true:=c.pg
def XU (K:PySem.W.Frag) (C:Addr) (f:Str):Prop:=PySem.W.findIn K (.ref C) f=some none
theorem XU.taker {K:PySem.W.Frag} {C:Addr} {f:Str} (n:XU K C f):PySem.W.takerIn K C f=some none:=by
 unfold PySem.W.takerIn
 rw [show PySem.W.findIn K (.ref C) f=some none from n]
 rfl
structure Con (K:PySem.W.Frag) (C:Addr) (f:Str) (v:V) (u:Value):Prop where
 at_:PySem.W.findIn K (.ref C) f=some (some u)
 rel:ZC v u
 get:PySem.W.specialIn K u "__get__" = some none
 cp:PySem.W.copiedNames.contains f=false
structure Yz (K:PySem.W.Frag) (C:Addr) (m:Str) (f:Addr):Prop where
 at_:PySem.W.findIn K (.ref C) m=some (some (.ref f))
 fn:PySem.W.isFn K (.ref f)=true
 kp:PySem.W.keepIn K (.ref f)=true
section
variable {X:Cx} {pins:List (Addr×Obj)} {σ:St} {H:Hp} {s:Shared} {a C dx:Addr} {fs:List (Str×V)} {f:Str} {v:V} {A:Around} {E:Value→Shared→Prop}
theorem ZjE {b:Bool} {Q:Value→Shared→Prop} (I:Zf X pins σ H s) (e:H a=some (.ins C dx fs)) (c:XM X.K C) (n:XU X.K C f) (l:fs.lookup f=some v)
  (h:∀ u s',Zf X pins σ H s'→ZC v u→Q u s'):wpAny (model X.prog X.w) A (getAttr (.ref a) f b) Q E s:=by
 obtain ⟨mA,O,r,_,_,_⟩:=Zbi I.hok e
 obtain ⟨u,hu,ru⟩:=Xp.some_of (v:=v) (o:=mA f) (by rw [← l];exact r f)
 exact Zjy I.kIn O (c.get f) c.hd n hu (ZjD ru) (h u _ (I.tok _) ru)
theorem Zbj {m:Str} {g:Addr} {pl:Sem Bool} {Q:Value×List Value→Shared→Prop} (I:Zf X pins σ H s) (e:H a=some (.ins C dx fs)) (c:XM X.K C) (k:Yz X.K C m g) (l:fs.lookup m=none)
  (h:Q (.ref g,[.ref a]) s):wpAny (model X.prog X.w) A (getMethod (.ref a) m pl) Q E s:=by
 obtain ⟨mA,O,r,_,_,_⟩:=Zbi I.hok e
 have hn:mA m=none:=Xp.none_of (by rw [← l];exact r m)
 exact Zjz I.kIn O (c.get m) k.at_ k.fn hn h
theorem ZjF {y:V} {u:Value} {Q:Unit→Shared→Prop} (I:Zf X pins σ H s) (e:H a=some (.ins C dx fs)) (c:XM X.K C) (n:XU X.K C f) (hl:fs.length < 1000) (ry:ZC y u)
  (h:∀ s',Zf X pins σ (Zd H a (.ins C dx (YQ f y fs))) s'→Q () s'):wpAny (model X.prog X.w) A (setAttr (.ref a) f u) Q E s:=by
 obtain ⟨mA,O,r,wi,_,ho⟩:=Zbi I.hok e
 have hz:(fs.map (·.1)).length≤sizeLine:=by rw [List.length_map,sizeLine_eq];omega
 refine ZjA I.kIn O c.sa c.po n.taker c.hd wi hz fun h' O' sb=>h _ ?_
 have hd:∃ o,h'.get? dx=some o:=let ⟨o,_,_,e',_⟩:=O'.ns;⟨o,e'⟩
 refine I.write (x:=a) (e:=dx) (by rw [e];exact True.intro) (.inr ho) (fun b q hb z=>(sb.2 b hb).trans z) hd ?_
 refine ⟨by rw [Zl O.ne];exact ho,?_,O.ne,O'.obj,_,O'.ns,fun g=>?_,fun g hg=>?_⟩
 ·have:=Zbh f y fs;omega
 ·show Xp ((YQ f y fs).lookup g) (if g=f then some u else mA g)
  rw [Zfg]
  by_cases q:g=f
  ·rw [if_pos q,if_pos q];exact ry
  ·rw [if_neg q,if_neg q];exact r g
 ·by_cases q:g=f
  ·rw [q];exact (Zcc f y fs).1
  ·refine (Zcc f y fs).2 g (wi g fun z=>hg ?_)
   show (if g=f then some u else mA g)=none
   rw [if_neg q];exact z
theorem Zf.made (I:Zf X pins σ H s):Zf X pins σ (Zd (Zd H s.heap.objs.size (.own (s.heap.objs.size+1))) (s.heap.objs.size+1) (.ins C s.heap.objs.size []))
  { s with heap:=(s.heap.push PySem.W.emptyDict).push (PySem.W.instObj C s.heap.objs.size) }:=by
 have e1:(s.heap.push PySem.W.emptyDict).get? s.heap.objs.size=some PySem.W.emptyDict:=Heap.get?_push_size s.heap rfl
 have e2:((s.heap.push PySem.W.emptyDict).push (PySem.W.instObj C s.heap.objs.size)).get? (s.heap.objs.size+1)=some (PySem.W.instObj C s.heap.objs.size):=by
  have:=Heap.get?_push_size (s.heap.push PySem.W.emptyDict) (o:=PySem.W.instObj C s.heap.objs.size) rfl
  rwa [Heap.size_push] at this
 have e3:(s.heap.push PySem.W.emptyDict).Ns s.heap.objs.size (fun _=>none):=⟨PySem.W.emptyDict,#[],_,e1,rfl,(fun e he=>absurd he (by simp)),fun _=>rfl⟩
 have I1:=I.laid (a:=s.heap.objs.size) (o:=.own (s.heap.objs.size+1)) (h':=s.heap.push PySem.W.emptyDict) (t':=s.toks) (fun b u q=>Heap.get?_push_of_some _ q) (Nat.le_refl _) ⟨_,e1⟩
 refine I1.laid (a:=s.heap.objs.size+1) (o:=.ins C s.heap.objs.size []) (t':=s.toks) (fun b u q=>Heap.get?_push_of_some _ q) (Nat.le_of_eq (Heap.size_push _ _)) ?_
 have ne:s.heap.objs.size≠s.heap.objs.size+1:=Nat.ne_of_lt (Nat.lt_succ_self _)
 refine ⟨by rw [Zl ne,Zh],Nat.zero_le _,ne,e2,fun _=>none,(Heap.Ns1.of_empty e3).at fun o q=>Heap.get?_push_of_some _ q,fun _=>True.intro,fun y hy=>absurd rfl hy⟩
theorem ZjG {prog:Program} {w:World} {env:Env} {e:Expr} {f:Str} {pos:Pos} {s:Shared} {Q:Value→Shared→Prop} (hb:attributeBase e f env (eval e env)=eval e env)
  (h:wpAny (model prog w) A (eval e env) (fun o s₁=>wpAny (model prog w) A (getAttr o f true) Q E s₁) E s):wpAny (model prog w) A (eval (.Attribute e f pos) env) Q E s :=
 Attribute_any_ h (by rw [arm_eval_Attribute,hb])
end
def ZjH (K:PySem.W.Frag) (ta:TE) (f:Str):TE:=fun σ H Q=>ta σ H fun x H1=>∃ a C dx fs v,x=.ref a∧H1 a=some (.ins C dx fs)∧XM K C∧XU K C f∧fs.lookup f=some v∧Q v H1
def ZjI (K:PySem.W.Frag) (ta tv:TE) (f:Str):TS:=fun D σ H=>tv σ H fun y H1=>ta σ H1 fun x H2=>∃ a C dx fs,x=.ref a∧H2 a=some (.ins C dx fs)∧XM K C∧XU K C f∧fs.length < 1000 ∧
 D.nx σ (Zd H2 a (.ins C dx (YQ f y fs)))
section
variable {X:Cx} {o e value:Expr} {f:Str} {pos pos' tpos:Pos} {ta tv:TE}
theorem Ya (he:PE X e ta) (hb:attributeBase e f X.env (eval e X.env)=eval e X.env):PE X (.Attribute e f pos) (ZjH X.K ta f):=by
 intro pins s σ H Q I h
 refine ZjG hb (Zv (he pins s σ H _ I h) fun u s1 ⟨x,H1,I1,rx,a,C,dx,fs,v,ex,ea,c,n,l,q⟩=>?_)
 subst ex
 obtain rfl:u=Value.ref a:=rx
 exact ZjE I1 ea c n l fun u' s2 I2 ru=>⟨v,H1,I2,ru,q⟩
theorem Va (ha:PE X o ta) (hv:PE X value tv) (hs:swapsWith value (some (.Attribute o f pos')) pos.line X.env=pure false):PS X (.Assign [.Attribute o f pos'] value pos) (ZjI X.K ta tv f):=by
 intro pins s σ H D I h
 refine plainObj_wpAny_Assign_Attribute (Zv (hv pins s σ H _ I h) fun u s1 ⟨y,H1,I1,ry,q⟩=>Zv (ha pins s1 σ H1 _ I1 q) fun ov s2 ⟨x,H2,I2,rx,a,C,dx,fs,ex,ea,c,n,l,q2⟩=>?_) hs
 subst ex
 obtain rfl:ov=Value.ref a:=rx
 exact ZjF I2 ea c n l ry fun s3 I3=>⟨σ,_,I3,q2⟩
end
section
variable {X:Cx} {pins:List (Addr×Obj)} {σ:St} {H:Hp} {s:Shared} {A:Around} {E:Value→Shared→Prop} {Q:Value→Shared→Prop} {c:Value} {b:Bool}
inductive XN (K:PySem.W.Frag) (H:Hp):V→Value→Prop where
 | non:XN K H .non (.type "NoneType")
 | bl (x:Bool):XN K H (.bl x) (.type "bool")
 | int (i:Int):XN K H (.int i) (.type "int")
 | str (x:Str):XN K H (.str x) (.type "str")
 | flt (x:UInt64):XN K H (.flt x) (.type "float")
 | lst {a:Addr} {xs:List V} (e:H a=some (.lst xs)):XN K H (.ref a) (.type "list")
 | frz {a:Addr} {o:Obj} {xs:List V} (e:H a=some (.frz o (.lst xs))):XN K H (.ref a) (.type "list")
 | tup {a:Addr} {xs:List V} (e:H a=some (.tup xs)):XN K H (.ref a) (.type "tuple")
 | dK {a:Addr} {kvs:List (Zt×V)} (e:H a=some (.dK kvs)):XN K H (.ref a) (.type "dict")
 | dT {a:Addr} {kvs:List (List Zt×V)} (e:H a=some (.dT kvs)):XN K H (.ref a) (.type "dict")
 | ins {a C dx:Addr} {fs:List (Str×V)} (e:H a=some (.ins C dx fs)) (cl:XM K C) (ha:PySem.W.findIn K (.ref C) "__class__" = some (some (.builtin "object.__class__")))
   (hn:PySem.W.specialIn K (.builtin "object.__class__") "__get__" = some (some (.builtin "getset_descriptor.__get__"))) (htk:PySem.W.takesIn K (.builtin "object.__class__")=some true)
   (hm:PySem.W.mroIn K C (.type "object")=some true):XN K H (.ref a) (.ref C)
theorem Zfh {x:V} {u t:Value} (I:Zf X pins σ H s) (rx:ZC x u) (ty:XN X.K H x t) (e:PySem.W.kitOne X.K t c=some b) (h:∀ tk,Q (.bool b) { s with toks:=tk }) :
  wpAny (model X.prog X.w) A (call (.builtin "isinstance") [u,c]) Q E s:=by
 cases ty with
 | non=>cases (show u=Value.none from rx);exact PySem.W.kia_one PySem.W.kitx_none I.kIn True.intro e (fun z=>nomatch z) h
 | bl y=>cases (show u=Value.bool y from rx);exact PySem.W.kia_one PySem.W.kitx_bool I.kIn True.intro e (fun z=>nomatch z) h
 | int i=>obtain ⟨t,q⟩:=(show ∃ t,u=Value.int i t from rx);cases q;exact PySem.W.kia_one PySem.W.kitx_int I.kIn True.intro e (fun z=>nomatch z) h
 | str y=>obtain ⟨t,q⟩:=(show ∃ t,u=Value.str y t from rx);cases q;exact PySem.W.kia_one PySem.W.kitx_str I.kIn True.intro e (fun z=>nomatch z) h
 | flt y=>obtain ⟨t,q⟩:=(show ∃ t,u=Value.float y t from rx);cases q;exact PySem.W.kia_one PySem.W.kitx_float I.kIn True.intro e (fun z=>nomatch z) h
 | @lst a xs ea =>
  cases (show u=Value.ref a from rx)
  obtain ⟨_,_,n,_,h1⟩:=(show Yc X.prog X.w H s.heap a (.lst xs) from I.hok a _ ea)
  exact PySem.W.kia_one PySem.W.kitx_list I.kIn ⟨_,h1,rfl⟩ e (fun z=>nomatch z) h
 | @frz a ob xs ea =>
  cases (show u=Value.ref a from rx)
  obtain ⟨_,_,_,n,_,h1⟩:=(show Yc X.prog X.w H s.heap a (.frz ob (.lst xs)) from I.hok a _ ea)
  exact PySem.W.kia_one PySem.W.kitx_list I.kIn ⟨_,h1,rfl⟩ e (fun z=>nomatch z) h
 | @tup a xs ea =>
  cases (show u=Value.ref a from rx)
  obtain ⟨_,_,_,p⟩:=(show Yc X.prog X.w H s.heap a (.tup xs) from I.hok a _ ea)
  obtain ⟨o,h1,h2,_⟩:=p
  exact PySem.W.kia_one PySem.W.kitx_tuple I.kIn ⟨o,h1,h2⟩ e (fun z=>nomatch z) h
 | @dK a kvs ea =>
  cases (show u=Value.ref a from rx)
  obtain ⟨_,_,vs,_,p⟩:=(show Yc X.prog X.w H s.heap a (.dK kvs) from I.hok a _ ea)
  obtain ⟨o,es,ep,h1,h2,_⟩:=p
  exact PySem.W.kia_one PySem.W.kitx_dict I.kIn ⟨o,h1,h2.1⟩ e (fun z=>nomatch z) h
 | @dT a kvs ea =>
  cases (show u=Value.ref a from rx)
  obtain ⟨_,_,xs,_,o,es,ep,h1,h2,_⟩:=(show Yc X.prog X.w H s.heap a (.dT kvs) from I.hok a _ ea)
  exact PySem.W.kia_one PySem.W.kitx_dict I.kIn ⟨o,h1,h2.1⟩ e (fun z=>nomatch z) h
 | @ins a C dx fs ea cl ha hn htk hm =>
  cases (show u=Value.ref a from rx)
  obtain ⟨mA,O,_⟩:=Zbi I.hok ea
  obtain ⟨od,J,_⟩:=O.look
  exact PySem.W.kia_one (PySem.W.kitx_own (cl.get _) cl.hd ha hn htk hm) I.kIn J e (fun z=>nomatch z) h
end
end L2
namespace L2
open PySem PySem.Spec PyProof.Rows
structure Yh (k:Nat) (A:Around):Prop where
 hd:A.handled=none
 dp:A.depth+3 * k+5 < recursionLimit
 un:A.units+16 * k+200 < cLine
theorem Yh.mono {j k:Nat} {A:Around} (r:Yh k A) (h:j≤k):Yh j A:=⟨r.hd,by have:=r.dp;omega,by have:=r.un;omega⟩
theorem Yh.deeper {k:Nat} {A:Around} (r:Yh (k+1) A) (env:Env):Yh k (A.deeper env) :=
 ⟨r.hd,by have:=r.dp;show A.depth+1+3 * k+5 < _;omega,by have:=r.un;show A.units+3+16 * k+200 < _;omega⟩
theorem Yh.in1 {k:Nat} {A:Around} (r:Yh (k+1) A):Yh k A.in1 :=
 ⟨r.hd,by have:=r.dp;show A.depth+3 * k+5 < _;omega,by have:=r.un;show A.units+1+16 * k+200 < _;omega⟩
theorem ZjJ {A:Around} {C:Addr} {us:List Value} {kw:List (Str×Value)}:(A.under (.builtin "type.__call__" ⟨.ref C::us,kw⟩)).depth=A.depth+1:=by
 first | rfl | simp [Around.under,Code.weight,Code.isCreation,Code.isGuard,Code.isCaller,Code.frames,Code.isFrame,guardIds]
theorem ZjK {A:Around} {C:Addr} {us:List Value} {kw:List (Str×Value)}:(A.under (.builtin "type.__call__" ⟨.ref C::us,kw⟩)).units=A.units+1:=by
 first | rfl | simp [Around.under,Code.cUnits,Code.frames,Code.isFrame]
theorem Yh.make {k:Nat} {A:Around} (r:Yh (k+1) A) (C:Addr) (us:List Value) (kw:List (Str×Value)):Yh k (A.under (.builtin "type.__call__" ⟨.ref C::us,kw⟩)) :=
 ⟨r.hd,by have:=r.dp;rw [ZjJ];omega,by have:=r.un;rw [ZjK];omega⟩
theorem Yh.depth {k:Nat} {A:Around} (r:Yh k A):A.depth < recursionLimit:=by have:=r.dp;omega
theorem Yh.units {k:Nat} {A:Around} (r:Yh k A):A.units+64 < cLine:=by have:=r.un;omega
theorem Yh.units0 {k:Nat} {A:Around} (r:Yh k A):A.units < cLine:=by have:=r.un;omega
def YM:TA:=fun _ H Q=>Q [] H
def YV (ta:TE) (tr:TA):TA:=fun σ H Q=>ta σ H fun x H1=>tr σ H1 fun xs H2=>Q (x::xs) H2
section
variable {X:Cx} {e:Expr} {es:List Expr} {te:TE} {t:TA} {pos:Pos}
theorem Ze:PA X [] YM:=fun _ _ _ _ H Q I h=>Calls.spliced_nil ⟨[],H,I,.nil,h⟩
theorem ZjL (ha:PE X e te) (hr:PA X es t) (hs:starEach (e::es) X.env=(false,eval e X.env)::starEach es X.env:=by rfl):PA X (e::es) (YV te t):=by
 intro pos pins s σ H Q I h
 rw [hs]
 show wpAny _ _ (spliced ((false,eval e X.env)::backTo pos (starEach es X.env))) _ _ s
 refine Calls.spliced_cons (Zv (ha pins s σ H _ I h) fun u s1 ⟨x,H1,I1,r1,q1⟩=>?_)
 exact Zv (hr pos pins s1 σ H1 _ I1 q1) fun us s2 ⟨xs,H2,I2,r2,q2⟩=>⟨x::xs,H2,I2,.cons r1 r2,q2⟩
def ZjM (t:TA):TE:=fun σ H Q=>t σ H fun xs H1=>xs.length≤sizeLine∧∀ p,H1 p=none→Q (.ref p) (Zd H1 p (.tup xs))
def ZjN (t:TA):TE:=fun σ H Q=>t σ H fun xs H1=>xs.length≤sizeLine∧∀ p,H1 p=none→Q (.ref p) (Zd H1 p (.lst xs))
theorem Yf {x1} (h:PA X es t):PE X (.Tuple es x1 pos) (ZjM t):=by
 intro pins s σ H Q I hq
 refine wpAny_Tuple_spliced (Zv (h pos pins s σ H _ I hq) fun us s1 ⟨xs,H1,I1,r,z,q⟩=>⟨by rw [← r.length];exact z,?_⟩)
 have hf:H1 s1.heap.objs.size=none:=I1.hok.fresh (Nat.le_refl _)
 refine ⟨.ref s1.heap.objs.size,Zd H1 s1.heap.objs.size (.tup xs),I1.laid (t':=s1.toks) (fun b u e=>Heap.get?_push_of_some _ e) (Nat.le_refl _) ?_,rfl,q _ hf⟩
 exact ⟨z,us,r,⟨_,Heap.get?_push_size _ rfl,rfl,_,rfl⟩⟩
theorem Yj (h:PA X es t):PE X (.List es pos) (ZjN t):=by
 intro pins s σ H Q I hq
 refine wpAny_List_spliced (Zv (h pos pins s σ H _ I hq) fun us s1 ⟨xs,H1,I1,r,z,q⟩=>⟨by rw [← r.length];exact z,?_⟩)
 have hf:H1 s1.heap.objs.size=none:=I1.hok.fresh (Nat.le_refl _)
 refine ⟨.ref s1.heap.objs.size,Zd H1 s1.heap.objs.size (.lst xs),I1.laid (t':=s1.toks) (fun b u e=>Heap.get?_push_of_some _ e) (Nat.le_refl _) ?_,rfl,q _ hf⟩
 exact ⟨z,us,0,r,Heap.get?_push_size _ rfl⟩
end
abbrev Sp:=List V→Hp→VK→XK→Prop
abbrev Wx:=List Env→Hp→Shared→XK→Value→Shared→Prop
structure VQ (P:Program) (w:World) (K:PySem.W.Frag) (mg:Str→Option Value) (base:Heap) (A:Around) (outer:List Env) (s:Shared) (H:Hp):Prop where
 frames:A.frames=some outer
 mod:Mod K mg base
 bs:∀ b o,base.get? b=some o→s.heap.get? b=some o∧H b=none
 bsz:base.objs.size≤s.heap.objs.size
 funs:s.heap.FunFrames base outer
 frf:∀ b∈Wb outer,H b=none
 hok:Yy P w H s.heap
 bare:AllBare s.gens
def CE (outer:List Env) (P:Program) (w:World) (H:Hp) (s:Shared) (Q:VK) (u:Value) (s':Shared):Prop :=
 ∃ v H',s'.os=s.os∧AllBare s'.gens∧Un (Wb outer) [] H H' s.heap s'.heap∧Yy P w H' s'.heap∧ZC v u∧Q v H'
def CR (CX:Wx) (outer:List Env) (P:Program) (w:World) (H:Hp) (s:Shared) (Q:VK) (E:XK) (r:Result) (s':Shared):Prop :=
 match r with
 | .ok (.ret u)=>CE outer P w H s Q u s'
 | .ok _=>False
 | .error e=>CX outer H s E e s'
structure ZF (P:Program) (w:World) (K:PySem.W.Frag) (mg:Str→Option Value) (base:Heap) (CX:Wx) (k:Nat) (f:Addr) (fd:FuncData) (ps:List Str) (sp:Sp):Prop where
 len:∀ vs H Q E,sp vs H Q E→vs.length=ps.length
 run:∀ (A:Around) (outer:List Env) (s:Shared) (H:Hp) (args:Args) (us:List Value) (vs:List V) (Q:VK) (E:XK),Yh k A→VQ P w K mg base A outer s H→BindsTo s fd args (ps.zip us)→Zy vs us→sp vs H Q E →
  codeAny (model P w) A (.call (.ref f) args) (CR CX outer P w H s Q E) s
theorem VQ.make {P:Program} {w:World} {K:PySem.W.Frag} {mg:Str→Option Value} {base:Heap} {A:Around} {outer:List Env} {s:Shared} {H:Hp} (e:VQ P w K mg base A outer s H) (C:Addr) (us:List Value) (kw:List (Str×Value)) :
  VQ P w K mg base (A.under (.builtin "type.__call__" ⟨.ref C::us,kw⟩)) outer s H:=⟨by first | exact e.frames | (simpa [Around.under,Code.envs,Code.isFrame,pushEnvs] using e.frames),e.mod,e.bs,e.bsz,e.funs,e.frf,e.hok,e.bare⟩
section
variable {X:Cx} {pins:List (Addr×Obj)} {σ:St} {H:Hp} {s s':Shared}
theorem Zf.env0 (I:Zf X pins σ H s):VQ X.prog X.w X.K X.mg X.base X.A X.stack s H :=
 ⟨I.ok.frames,I.ok.mod,I.bs,Nat.le_trans I.ok.bsz I.sz,I.stack,I.stkFree,I.hok,I.bare⟩
theorem Zf.after {Q:VK} {u:Value} (I:Zf X pins σ H s) (h:CE X.stack X.prog X.w H s Q u s'):EP X pins σ Q u s':=by
 obtain ⟨v,H',os,bare,un,hok,r,q⟩:=h
 obtain ⟨hh,g,d,t,os'⟩:=s'
 obtain rfl:os'=s.os:=os
 exact ⟨v,H',I.call (h':=hh) (g':=g) (d':=d) (t':=t) (ch:=[]) un hok bare (fun b z=>absurd z (by simp)),r,q⟩
end
def ZjO (sp:Sp) (dvs:List V) (E:XK) (t:TA):TE:=fun σ H Q=>t σ H fun vs H1=>sp (vs++dvs) H1 Q E
def Zfi (C:Addr) (m:Str) (sp:Sp) (dvs:List V) (E:XK) (ta:TE) (t:TA):TE:=fun σ H Q=>ta σ H fun x H1=>∃ a dx fs,x=.ref a∧H1 a=some (.ins C dx fs)∧fs.lookup m=none ∧
 t σ H1 fun vs H2=>sp (x::(vs++dvs)) H2 Q E
def Zfj (C:Addr) (sp:Sp) (dvs:List V) (E:XK) (t:TA):TE:=fun σ H Q=>t σ H fun vs H1=>∀ x dx,H1 x=none→H1 dx=none→dx≠x →
 sp (.ref x::(vs++dvs)) (Zd (Zd H1 dx (.own x)) x (.ins C dx [])) (fun v H2=>v=.non∧Q (.ref x) H2) E
def ZG (K:PySem.W.Frag) (fd:FuncData) (ps:List Str) (ds:List Value):Prop :=
 ∀ (s:Shared) (us:List Value),K.In s.heap→(us++ds).length=ps.length→BindsTo s fd ⟨us,[]⟩ (ps.zip (us++ds))
theorem ZG.all {K:PySem.W.Frag} {fd:FuncData} {ps:List Str} (h:∀ us:List Value,us.length=ps.length→bindArgs fd ⟨us,[]⟩=pure (ps.zip us)):ZG K fd ps []:=fun s us _ hl=>by
 rw [List.append_nil] at hl ⊢
 exact .of_eq (h us hl)
def Vm (CX:Wx) (X:Cx) (E:XK):Prop:=∀ (pins:List (Addr×Obj)) (σ:St) (H:Hp) (s:Shared) (e:Value) (s':Shared),Zf X pins σ H s→CX X.stack H s E e s'→X.xe e s'
section
variable {X:Cx} {CX:Wx} {k:Nat} {f C:Addr} {fd:FuncData} {ps:List Str} {sp:Sp} {dvs:List V} {ds:List Value} {E:XK} {x m:Str} {p pos apos:Pos} {e o:Expr} {es:List Expr} {ta:TE} {t:TA}
theorem Zas {pins:List (Addr×Obj)} {σ:St} {H:Hp} {s:Shared} {Q:VK} {us:List Value} {vs:List V} (F:ZF X.prog X.w X.K X.mg X.base CX k f fd ps sp) (hr:Yh k X.A) (hb:ZG X.K fd ps ds) (hd:Zy dvs ds) (hx:Vm CX X E)
  (I:Zf X pins σ H s) (r:Zy vs us) (h:sp (vs++dvs) H Q E):wpAny (model X.prog X.w) X.A (call (.ref f) us) (EP X pins σ Q) X.xe s:=by
 have r2:Zy (vs++dvs) (us++ds):=r.append hd
 have hl:(us++ds).length=ps.length:=by rw [← r2.length];exact F.len _ _ _ _ h
 refine wpAny_call (codeAny_mono (F.run X.A X.stack s H ⟨us,[]⟩ (us++ds) (vs++dvs) Q E hr I.env0 (hb s us I.kIn hl) r2 h) fun r s' hq=>?_)
 cases r with
 | error e=>exact hx pins σ H s e s' I hq
 | ok fl =>
  cases fl with
  | ret u=>exact I.after hq
  | next=>exact False.elim hq
  | brk=>exact False.elim hq
  | cont=>exact False.elim hq
theorem ZB (F:ZF X.prog X.w X.K X.mg X.base CX k f fd ps sp) (hr:Yh k X.A) (hg:Gl X x) (hm:X.mg x=some (.ref f)) (hk:PySem.W.keepIn X.K (.ref f)=true) (hb:ZG X.K fd ps ds) (hd:Zy dvs ds) (hx:Vm CX X E)
  (ha:PA X (e::es) t) (hdb:(x == ("__debug__" : Str))=false:=by decide) (he:starEach (e::es) X.env=(false,eval e X.env)::starEach es X.env:=by rfl) (hpl:(backTo pos (starEach es X.env)).any (·.1)=false:=by rfl) :
  PE X (.Call (.Name x p) (e::es) [] pos) (ZjO sp dvs E t):=by
 intro pins s σ H Q I h
 refine wpAny_Call_Name_kw (Zao I hg hm ?_ hdb)
 refine PySem.W.callWith_K (h₀:=X.base) I.ok.mod.kin hk (Zv (ha pos pins s σ H _ I h) fun us s1 ⟨vs,H1,I1,r,q⟩=>⟨I1.kIn,?_⟩) he hpl
 exact Zas F hr hb hd hx I1 r q
theorem YR {pl:Sem Bool} (he:PE X o ta) (c:XM X.K C) (hm:Yz X.K C m f) (F:ZF X.prog X.w X.K X.mg X.base CX k f fd ps sp) (hr:Yh k X.A) (hb:ZG X.K fd ps ds) (hd:Zy dvs ds) (hx:Vm CX X E) (ha:PA X (e::es) t)
  (hst:starEach (e::es) X.env=(false,eval e X.env)::starEach es X.env:=by rfl) (hpl:(backTo pos (starEach es X.env)).any (·.1)=false:=by rfl)
  (ht:eval (.Call (.Attribute o m apos) (e::es) [] pos) X.env=(do
   let ov ← eval o X.env
   standAt apos.atName
   let (f,first) ← holding [ov] (getMethod ov m pl)
   callWith pos f first (backTo pos (starEach (e::es) X.env)) (backToKw pos (keywordEach [] X.env))):=by rfl) :
  PE X (.Call (.Attribute o m apos) (e::es) [] pos) (Zfi C m sp dvs E ta t):=by
 intro pins s σ H Q I h
 refine PySem.W.methodCall_KW (pl:=pl) (Zv (he pins s σ H _ I h) fun u s1 ⟨x,H1,I1,rx,a,dx,fs,ex,ea,l,q⟩=>?_) ht
 subst ex
 obtain rfl:u=Value.ref a:=rx
 refine Zbj I1 ea c hm l ?_
 refine PySem.W.callWith_K (first:=[.ref a]) (h₀:=X.base) I.ok.mod.kin hm.kp (Zv (ha pos pins s1 σ H1 _ I1 q) fun us s2 ⟨vs,H2,I2,r,q2⟩=>⟨I2.kIn,?_⟩) hst hpl
 exact Zas (us:=.ref a::us) (vs:=.ref a::vs) F hr hb hd hx I2 (.cons rfl r) q2
theorem Zfk {pl:Sem Bool} (he:PE X o ta) (c:XM X.K C) (hm:Yz X.K C m f) (F:ZF X.prog X.w X.K X.mg X.base CX k f fd ps sp) (hr:Yh k X.A) (hb:ZG X.K fd ps ds) (hd:Zy dvs ds) (hx:Vm CX X E)
  (ht:eval (.Call (.Attribute o m apos) [] [] pos) X.env=(do
   let ov ← eval o X.env
   standAt apos.atName
   let (f,first) ← holding [ov] (getMethod ov m pl)
   callWith pos f first (backTo pos (starEach [] X.env)) (backToKw pos (keywordEach [] X.env))):=by rfl) :
  PE X (.Call (.Attribute o m apos) [] [] pos) (Zfi C m sp dvs E ta YM):=by
 intro pins s σ H Q I h
 refine PySem.W.methodCall_KW (pl:=pl) (Zv (he pins s σ H _ I h) fun u s1 ⟨x,H1,I1,rx,a,dx,fs,ex,ea,l,q⟩=>?_) ht
 subst ex
 obtain rfl:u=Value.ref a:=rx
 refine Zbj I1 ea c hm l ?_
 exact PySem.W.callWith_K0 (first:=[.ref a]) I1.kIn hm.kp (Zas (us:=[.ref a]) (vs:=[.ref a]) F hr hb hd hx I1 (.cons rfl .nil) q)
structure Mk (K:PySem.W.Frag) (C f:Addr):Prop where
 makes:PySem.W.makesIn K C=true
 init:PySem.W.findIn K (.ref C) "__init__" = some (some (.ref f))
 fn:PySem.W.isFn K (.ref f)=true
 kp:PySem.W.keepIn K (.ref C)=true
theorem Zfl {pins:List (Addr×Obj)} {σ:St} {H:Hp} {s:Shared} {Q:VK} {us:List Value} {vs:List V} (M:Mk X.K C f) (F:ZF X.prog X.w X.K X.mg X.base CX k f fd ps sp) (hr:Yh (k+1) X.A) (hb:ZG X.K fd ps ds) (hd:Zy dvs ds)
  (hx:Vm CX X E) (I:Zf X pins σ H s) (r:Zy vs us)
  (h:∀ x dx,H x=none→H dx=none→dx≠x→sp (.ref x::(vs++dvs)) (Zd (Zd H dx (.own x)) x (.ins C dx [])) (fun v H2=>v=.non∧Q (.ref x) H2) E) :
  wpAny (model X.prog X.w) X.A (call (.ref C) us) (EP X pins σ Q) X.xe s:=by
 have hq:=h (s.heap.objs.size+1) s.heap.objs.size (I.hok.fresh (Nat.le_succ _)) (I.hok.fresh (Nat.le_refl _)) (Nat.ne_of_lt (Nat.lt_succ_self _))
 have I2:=Zf.made (C:=C) I
 have r2:Zy (V.ref (s.heap.objs.size+1)::(vs++dvs)) (Value.ref (s.heap.objs.size+1)::(us++ds)):=.cons rfl (r.append hd)
 have hl:(Value.ref (s.heap.objs.size+1)::us++ds).length=ps.length:=by
  have e:=r2.length
  rw [F.len _ _ _ _ hq] at e
  exact e.symm
 refine wpAny_call (ZjB (f:=f) I.kIn M.makes M.init (beq_iff_eq.mp M.fn) (codeAny_mono (F.run _ X.stack _ _ ⟨Value.ref (s.heap.objs.size+1)::us,[]⟩ (Value.ref (s.heap.objs.size+1)::(us++ds)) _ _ E (hr.make C us [])
  (I2.env0.make C us []) (hb _ (Value.ref (s.heap.objs.size+1)::us) I2.kIn hl) r2 hq) fun r s' hq'=>?_))
 cases r with
 | error e=>exact hx pins σ _ _ e s' I2 hq'
 | ok fl =>
  cases fl with
  | ret u =>
   obtain ⟨v,H',I3,rv,ev,q3⟩:=I2.after hq'
   subst ev
   exact ⟨rv,⟨V.ref (s.heap.objs.size+1),H',I3,rfl,q3⟩⟩
  | next=>exact False.elim hq'
  | brk=>exact False.elim hq'
  | cont=>exact False.elim hq'
theorem Qa (M:Mk X.K C f) (F:ZF X.prog X.w X.K X.mg X.base CX k f fd ps sp) (hr:Yh (k+1) X.A) (hg:Gl X x) (hm:X.mg x=some (.ref C)) (hb:ZG X.K fd ps ds) (hd:Zy dvs ds) (hx:Vm CX X E)
  (ha:PA X (e::es) t) (hdb:(x == ("__debug__" : Str))=false:=by decide) (he:starEach (e::es) X.env=(false,eval e X.env)::starEach es X.env:=by rfl) (hpl:(backTo pos (starEach es X.env)).any (·.1)=false:=by rfl) :
  PE X (.Call (.Name x p) (e::es) [] pos) (Zfj C sp dvs E t):=by
 intro pins s σ H Q I h
 refine wpAny_Call_Name_kw (Zao I hg hm ?_ hdb)
 refine PySem.W.callWith_K (h₀:=X.base) I.ok.mod.kin M.kp (Zv (ha pos pins s σ H _ I h) fun us s1 ⟨vs,H1,I1,r,q⟩=>⟨I1.kIn,?_⟩) he hpl
 exact Zfl M F hr hb hd hx I1 r q
theorem ZjP (M:Mk X.K C f) (F:ZF X.prog X.w X.K X.mg X.base CX k f fd ps sp) (hr:Yh (k+1) X.A) (hg:Gl X x) (hm:X.mg x=some (.ref C)) (hb:ZG X.K fd ps ds) (hd:Zy dvs ds) (hx:Vm CX X E)
  (hdb:(x == ("__debug__" : Str))=false:=by decide):PE X (.Call (.Name x p) [] [] pos) (Zfj C sp dvs E YM):=by
 intro pins s σ H Q I h
 refine wpAny_Call_Name_kw (Zao I hg hm ?_ hdb)
 exact PySem.W.callWith_K0 I.kIn M.kp (Zfl (us:=[]) M F hr hb hd hx I .nil h)
end
def PK (X:Cx) (kws:List Keyword) (t:TA):Prop :=
 ∀ (pos:Pos) (pins:List (Addr×Obj)) (s:Shared) (σ:St) (H:Hp) (Q:List V→Hp→Prop),Zf X pins σ H s→t σ H Q→wpAny (model X.prog X.w) X.A (evalAll ((backToKw pos (keywordEach kws X.env)).map (·.2))) (AP X pins σ Q) X.xe s
section
variable {X:Cx} {CX:Wx} {k:Nat} {f C:Addr} {fd:FuncData} {ps ks:List Str} {sp:Sp} {E:XK} {x m:Str} {p pos apos kpos:Pos} {e o:Expr} {es:List Expr} {kws:List Keyword} {te ta:TE} {t tk:TA} {nm:Option Str}
theorem Zfm:PK X [] YM:=fun _ _ _ _ H Q I h=>wpAny_evalAll_nil ⟨[],H,I,.nil,h⟩
theorem Zfn (ha:PE X e te) (hr:PK X kws t):PK X (⟨nm,e,kpos⟩::kws) (YV te t):=by
 intro pos pins s σ H Q I h
 show wpAny _ _ (evalAll ((do let v ← eval e X.env;standAt pos;pure v)::(backToKw pos (keywordEach kws X.env)).map (·.2))) _ _ s
 refine wpAny_evalAll_cons (wpAny_bind (Zv (ha pins s σ H _ I h) fun u s1 ⟨x,H1,I1,r1,q1⟩=>wpAny_bind (wpAny_standAt (wpAny_pure ?_))))
 exact Zv (hr pos pins s1 σ H1 _ I1 q1) fun us s2 ⟨xs,H2,I2,r2,q2⟩=>⟨x::xs,H2,I2,.cons r1 r2,q2⟩
structure Zq4 (K:PySem.W.Frag) (fd:FuncData) (ps ks:List Str) (g:List Value→List Value→List Value) (gV:List V→List V→List V):Prop where
 to:∀ (s:Shared) (us ws:List Value),K.In s.heap→(g us ws).length=ps.length→BindsTo s fd ⟨us,ks.zip ws⟩ (ps.zip (g us ws))
 rel:∀ {vs:List V} {us:List Value} {zs:List V} {ws:List Value},Zy vs us→Zy zs ws→Zy (gV vs zs) (g us ws)
variable {g:List Value→List Value→List Value} {gV:List V→List V→List V}
end
structure ZM (N P:List Str) (sc:Scope):Prop where
 kind:sc.kind=.function
 co:sc.isCoroutine=false
 gen:sc.isGenerator=false
 nd:N.Nodup
 pre:N.take P.length=P
 par:∀ x∈P,sc.names.lookup x=some .local∨sc.names.lookup x=some .cell
 nofree:∀ y∈sc.names,y.2≠.free
theorem Zfo {kindOf:Str→Option NameKind} {x:Str}:∀ {binds:List (Str×Value)} {m:Str→Option Value},(∀ v,(x,v)∉binds)→bindL kindOf binds m x=m x
 | [],_,_=>rfl
 | (n,v)::r,m,h=>by
  unfold bindL
  rw [Zfo fun w hw=>h w (List.mem_cons_of_mem _ hw)]
  split
  ·have:x≠n:=by rintro rfl;exact h v List.mem_cons_self
   simp [this]
  ·rfl
theorem Zfp {kindOf:Str→Option NameKind} {x:Str}:∀ {binds:List (Str×Value)} {m:Str→Option Value},(∀ v,(x,v)∉binds)→bindC kindOf binds m x=m x
 | [],_,_=>rfl
 | (n,v)::r,m,h=>by
  unfold bindC
  rw [Zfp fun w hw=>h w (List.mem_cons_of_mem _ hw)]
  split
  ·rfl
  ·have:x≠n:=by rintro rfl;exact h v List.mem_cons_self
   simp [this]
theorem Zfq {kindOf:Str→Option NameKind} {x:Str} {v:Value}:∀ {P:List Str} {vs:List Value} {i:Nat} {m:Str→Option Value},P.Nodup→P[i]? = some x→vs[i]? = some v→kindOf x=some .local →
  bindL kindOf (P.zip vs) m x=some v
 | [],_,_,_,_,h,_,_=>by simp at h
 | _::_,[],_,_,_,_,h,_=>by simp at h
 | p::P,w::vs,0,m,nd,h1,h2,hk=>by
  simp at h1 h2;subst h1;subst h2
  show bindL kindOf ((p,w)::P.zip vs) m p=_
  unfold bindL
  rw [Zfo fun v hv=>(List.nodup_cons.mp nd).1 (List.of_mem_zip hv).1,if_pos hk]
  simp
 | p::P,w::vs,i+1,m,nd,h1,h2,hk=>by
  show bindL kindOf ((p,w)::P.zip vs) m x=_
  unfold bindL
  exact Zfq (i:=i) (List.nodup_cons.mp nd).2 (by simpa using h1) (by simpa using h2) hk
theorem Zfr {kindOf:Str→Option NameKind} {x:Str} {v:Value}:∀ {P:List Str} {vs:List Value} {i:Nat} {m:Str→Option Value},P.Nodup→P[i]? = some x→vs[i]? = some v→kindOf x≠some .local →
  bindC kindOf (P.zip vs) m x=some v
 | [],_,_,_,_,h,_,_=>by simp at h
 | _::_,[],_,_,_,_,h,_=>by simp at h
 | p::P,w::vs,0,m,nd,h1,h2,hk=>by
  simp at h1 h2;subst h1;subst h2
  show bindC kindOf ((p,w)::P.zip vs) m p=_
  unfold bindC
  rw [Zfp fun v hv=>(List.nodup_cons.mp nd).1 (List.of_mem_zip hv).1,if_neg hk]
  simp
 | p::P,w::vs,i+1,m,nd,h1,h2,hk=>by
  show bindC kindOf ((p,w)::P.zip vs) m x=_
  unfold bindC
  exact Zfr (i:=i) (List.nodup_cons.mp nd).2 (by simpa using h1) (by simpa using h2) hk
def Wn (N:List Str) (vs:List V):St:=vs.map some++List.replicate (N.length - vs.length) none
def Vb (CX:Wx) (P:Program) (w:World) (K:PySem.W.Frag) (mg:Str→Option Value) (base:Heap) (N:List Str) (qual:Str) (scope:Scope) (f:Addr) (cd:Value) (A:Around) (outer:List Env) (s:Shared) (H:Hp) (E:XK):Cx where
 prog:=P
 w:=w
 K:=K
 mg:=mg
 base:=base
 A:=A.deeper (envOfC qual scope s.heap.objs.size f cd)
 N:=N
 s₀:=s
 H₀:=H
 env:=envOfC qual scope s.heap.objs.size f cd
 outer:=outer
 stack:=envOfC qual scope s.heap.objs.size f cd::outer
 ex:=[]
 calm:=true
 fn:=fun _=>true
 pn:=[]
 xe:=fun e s'=>wpAny (model P w) (A.deeper (envOfC qual scope s.heap.objs.size f cd)) (leaving (envOfC qual scope s.heap.objs.size f cd) e) (fun _ s''=>CX outer H s E e s'') (fun e' s''=>CX outer H s E e' s'') s'
theorem Zfs {sc:Scope} {n:Nat} {x:Str} (h:sc.names.lookup x=some .cell):∃ c,(cellsFrom n sc.names []).lookup x=some c:=by
 have q:=PySem.W.cellsFrom_some sc.names n [] (.inl h)
 exact Option.isSome_iff_exists.mp q
theorem Zft {CX:Wx} {P:Program} {w:World} {K:PySem.W.Frag} {mg:Str→Option Value} {base:Heap} {N ps:List Str} {qual:Str} {scope:Scope} {f:Addr} {cd:Value} {A:Around} {outer:List Env} {s s1:Shared} {H:Hp} {E:XK} {us:List Value} {vs:List V}
  (S:ZM N ps scope) (hd:A.handled=none) (e0:VQ P w K mg base A outer s H) (hl:vs.length=ps.length) (r:Zy vs us)
  (x:InCallC s s.heap.objs.size (bindL (envOfC qual scope s.heap.objs.size f cd).kindOf (ps.zip us) fun _=>none) (cellsFrom (s.heap.objs.size+1) scope.names []) (bindC (envOfC qual scope s.heap.objs.size f cd).kindOf (ps.zip us) fun _=>none) s1) :
  Zf (Vb CX P w K mg base N qual scope f cd A outer s H E) [] (Wn N vs) H s1:=by
 have hpl:ps.length≤N.length:=by have:=congrArg List.length S.pre;rw [List.length_take] at this;omega
 obtain ⟨h1,tk,rfl,hk⟩:=x.done
 have noA:∀ b:Addr,b∉(Vb CX P w K mg base N qual scope f cd A outer s H E).ex:=fun b z=>absurd (show b∈([]:List Addr) from z) (by simp)
 refine ⟨⟨e0.mod,S.kind,rfl,rfl,Nat.le_refl _,fun y z c h1 h2=>?_,fun y hy=>?_,fun y c _ h=>?_,fun _=>hd,Around.frames_deeper e0.frames,.inr ⟨rfl,rfl⟩,fun b z=>absurd z (noA b),e0.bs,e0.bsz,fun b _ _=>noA b,fun b z=>absurd z (noA b),e0.funs,e0.frf⟩,
  rfl,e0.bare,Un.kept hk,⟨_,x.toInCall.ns,fun i y v h1 h2 h3=>?_⟩,fun y c h=>⟨_,x.cell y c h⟩,e0.hok.fresh (Nat.le_refl _),fun y c h=>?_,fun p hp=>absurd (show p∈([]:List (Addr×Obj)) from hp) (by simp),e0.hok.kept hk,?_⟩
 ·exact name_of_addr x.apart (PySem.mem_of_lookup h1) (PySem.mem_of_lookup h2)
 ·have hy:scope.names.lookup y=some .cell∨scope.names.lookup y=some .free:=hy
  rcases hy with hy | hy
  ·exact Zfs hy
  ·exact absurd rfl (S.nofree _ (PySem.mem_of_lookup hy))
 ·exact Nat.le_of_lt (x.above y c (PySem.mem_of_lookup h))
 ·have hi:i < vs.length:=by
   unfold Wn at h2
   by_cases hi:i < vs.length
   ·exact hi
   ·rw [List.getElem?_append_right (by simpa using hi)] at h2
    rw [List.getElem?_replicate] at h2
    split at h2 <;> cases h2
  have ha:vs[i]? = some v:=by
   unfold Wn at h2
   rw [List.getElem?_append_left (by simpa using hi),List.getElem?_map] at h2
   cases e:vs[i]? with
   | none=>rw [e] at h2;cases h2
   | some a=>rw [e] at h2;cases h2;rfl
  obtain ⟨u,hu,rv⟩:=r.get ha
  have hp:ps[i]? = some y:=by
   rw [← S.pre,List.getElem?_take_of_lt (by omega)];exact h1
  have ndP:ps.Nodup:=by rw [← S.pre];exact S.nd.sublist (List.take_sublist _ _)
  refine ⟨u,rv,?_⟩
  rcases S.par y (List.mem_of_getElem? hp) with k | k
  ·exact .inl ⟨k,Zfq ndP hp hu k⟩
  ·obtain ⟨c,e⟩:=Zfs (n:=s.heap.objs.size+1) k
   refine .inr ⟨.inl k,c,e,?_⟩
   have q:=x.cell y c e
   rw [Zfr ndP hp hu (by show scope.names.lookup y≠_;rw [k];decide)] at q
   exact q
 ·exact e0.hok.fresh (Nat.le_of_lt (x.above y c (PySem.mem_of_lookup h)))
 ·unfold Wn
  show _=N.length
  rw [List.length_append,List.length_map,List.length_replicate]
  omega
theorem Zcd {CX:Wx} {P:Program} {w:World} {K:PySem.W.Frag} {mg:Str→Option Value} {base:Heap} {k:Nat} {f:Addr} {name qual:Str} {params:Arguments} {body:List Stmt} {scope:Scope} {dV kV doc pm cdv ct oc:Value} {an od:Option Addr}
  {osl:Array (Option Value)} {N ps:List Str} {sp:Sp} (lk:K.lookup f=some ⟨oc,od,.func (PySem.W.fnOf name qual params body scope dV kV doc pm an cdv ct),osl⟩) (hcd:PySem.W.codeIn K cdv qual=true) (S:ZM N ps scope)
  (len:∀ vs H Q E,sp vs H Q E→vs.length=ps.length)
  (hbody:∀ (A:Around) (outer:List Env) (s:Shared) (H:Hp) (vs:List V) (Q:VK) (E:XK),Yh k (A.deeper (envOfC qual scope s.heap.objs.size f cdv))→sp vs H Q E →
   ∃ t,X2 (Vb CX P w K mg base N qual scope f cdv A outer s H E) body t∧t { nx:=fun _ H'=>Q .non H',rt:=Q } (Wn N vs) H) :
  ZF P w K mg base CX (k+1) f (PySem.W.fnOf name qual params body scope dV kV doc pm an cdv ct) ps sp:=by
 refine ⟨len,fun A outer s H args us vs Q E hr e0 hb r hsp=>?_⟩
 have hl:=len _ _ _ _ hsp
 have KX:K.In s.heap:=e0.mod.kin.keeps fun b o e=>(e0.bs b o e).1
 have lim:s.heap.NoLimit:=e0.mod.nolimit.keeps fun b o e=>(e0.bs b o e).1
 have hkind:∀ y∈ps.zip us,scope.names.lookup y.1=some .local∨(scope.names.lookup y.1=some .cell∧((cellsFrom (s.heap.objs.size+1) scope.names []).lookup y.1).isSome=true):=fun ⟨n,v⟩ hy=>by
  rcases S.par n (List.of_mem_zip hy).1 with q | q
  ·exact .inl q
  ·exact .inr ⟨q,PySem.W.cellsFrom_some _ _ _ (.inl q)⟩
 refine codeAny_call_function hr.depth (KX _ _ lk) rfl S.co S.gen rfl (PySem.W.codeRec_of KX hcd) (hb _ _ _ _ ?_)
 refine wpAny_newFunctionEnv_cells S.kind hkind fun env he s1 x=>?_
 subst he
 refine ⟨lim.keeps x.toInCall.keep,codeAny_func ?_⟩
 obtain ⟨t,ht,hq⟩:=hbody A outer s H vs Q E (hr.deeper _) hsp
 have I:Zf (Vb CX P w K mg base N qual scope f cdv A outer s H E) [] (Wn N vs) H s1:=Zft S hr.hd e0 hl r x
 refine wpAny_mono (ht [] s1 (Wn N vs) H _ I hq) (fun fl s' hs=>?_) fun e s' hs=>hs
 have fin:∀ {σ':St} {H':Hp} {v:V} {u:Value},Zf (Vb CX P w K mg base N qual scope f cdv A outer s H E) [] σ' H' s'→ZC v u→Q v H'→CE outer P w H s Q u s' :=
  fun {σ' H' v u} J rv q=>⟨v,H',J.os,J.bare,J.base,J.hok,rv,q⟩
 cases fl with
 | ret u =>
  obtain ⟨v,σ',H',J,rv,q⟩:=hs
  exact fin J rv q
 | next =>
  obtain ⟨σ',H',J,q⟩:=hs
  exact fin (v:=V.non) (u:=Value.none) J rfl q
 | brk =>
  obtain ⟨_,_,_,q⟩:=hs
  exact False.elim q
 | cont =>
  obtain ⟨_,_,_,q⟩:=hs
  exact False.elim q
end L2
namespace L2
open PySem PySem.Spec PyProof.Rows
section
variable {X:Cx} {x:Str} {p pos:Pos} {e:Expr} {es:List Expr} {t:TA} {id T:String} {r:List V→Hp→VK→Prop}
def tCB (r:List V→Hp→VK→Prop) (t:TA):TE:=fun σ H Q=>t σ H fun vs H1=>r vs H1 Q
theorem ZV (hc:Xq X (.builtin id) r) (hg:Gl X x) (hm:X.mg x=none) (hv:bootBuiltins x=some (.builtin id)) (ha:PA X (e::es) t) (hn:x ≠ "__name__" := by decide) (hdb:(x == ("__debug__" : Str))=false:=by decide)
  (he:starEach (e::es) X.env=(false,eval e X.env)::starEach es X.env:=by rfl) (hpl:(backTo pos (starEach es X.env)).any (·.1)=false:=by rfl):PE X (.Call (.Name x p) (e::es) [] pos) (tCB r t):=by
 intro pins s σ H Q I h
 refine wpAny_Call_Name_kw (Uc I hg hm hv ?_ hn hdb)
 exact PyProof.Rows.callWith_builtin1 (Zv (ha pos pins s σ H _ I h) fun us s1 ⟨vs,H1,I1,r1,q1⟩=>hc pins s1 σ H1 vs us Q I1 r1 q1) he hpl
theorem WO (hc:Xq X (.type T) r) (hg:Gl X x) (hm:X.mg x=none) (hv:bootBuiltins x=some (.type T)) (ha:PA X (e::es) t) (hn:x ≠ "__name__" := by decide) (hdb:(x == ("__debug__" : Str))=false:=by decide)
  (he:starEach (e::es) X.env=(false,eval e X.env)::starEach es X.env:=by rfl) (hpl:(backTo pos (starEach es X.env)).any (·.1)=false:=by rfl):PE X (.Call (.Name x p) (e::es) [] pos) (tCB r t):=by
 intro pins s σ H Q I h
 refine wpAny_Call_Name_kw (Uc I hg hm hv ?_ hn hdb)
 exact PyProof.Rows.callWith_type1 (Zv (ha pos pins s σ H _ I h) fun us s1 ⟨vs,H1,I1,r1,q1⟩=>hc pins s1 σ H1 vs us Q I1 r1 q1) he hpl
end
end L2
namespace HT
open PySem PyProof.Rows
section
open PySem.SeqAt
open PySem.AutoSeq1 (wpAny_loadPart')
open PySem.MeetsSeq PySem.MeetsSeq2 PySem.MeetsSeq3
end
section
variable {prog:Program} {w:World} {A:Around} {E:Value→Shared→Prop} {s:Shared}
theorem cat_tup {t b:Addr} {vs ws:List Value} {Q:Value→Shared→Prop} (ht:IsTup s.heap t vs.toArray) (hb:IsTup s.heap b ws.toArray) (hv:vs≠[])
  (h1:ws=[]→Q (.ref t) s) (h2:ws≠[]→Q (.ref s.heap.objs.size) { s with heap:=s.heap.push { cls:=.type "tuple",data:=.seq (vs++ws).toArray } })
  (hsz:vs.length+ws.length≤sizeLine):wpAny (model prog w) A (binaryOp .Add (.ref t) (.ref b)) Q E s:=by
 obtain ⟨⟨cls,dd,data,sl⟩,ho,hc,n,hd⟩:=id ht
 obtain ⟨⟨cls2,dd2,data2,sl2⟩,ho2,hc2,n2,hd2⟩:=id hb
 simp only at hc hd hc2 hd2
 subst hc hd hc2 hd2
 have e:vs.toArray++ws.toArray=(vs++ws).toArray:=by simp
 by_cases hw:ws=[]
 ·exact concat_meets ⟨_,ho,rfl⟩ ⟨_,ho2,rfl⟩ noFill_tuple_add seq_tuple_add PySem.F.slot_tuple_add PySem.F.entry_tuple_add (PySem.F.args_tuple_add_2 _ _)
   (tuple_addW1 t b vs.toArray ws.toArray n n2 dd dd2 sl sl2 (by simpa using hv) (by simp [hw])) ⟨ho,ho2,h1 hw⟩
 ·refine concat_meets ⟨_,ho,rfl⟩ ⟨_,ho2,rfl⟩ noFill_tuple_add seq_tuple_add PySem.F.slot_tuple_add PySem.F.entry_tuple_add (PySem.F.args_tuple_add_2 _ _)
   (tuple_addW2 t b vs.toArray ws.toArray n n2 dd dd2 sl sl2 (by simpa using hv) (by simpa using hw) (by rw [List.size_toArray,List.size_toArray];exact hsz)) ⟨ho,ho2,?_⟩
  rw [e]
  exact h2 hw
def sIx (n d:Nat):Option Int→Nat
 | none=>d
 | some v=>if v < 0 then (v+(n:Int)).toNat else min v.toNat n
theorem ZjQ (n d:Nat) (hd:d≤n) (o:Option Int):sIx n d o≤n:=by
 cases o with
 | none=>exact hd
 | some v =>
  show (if v < 0 then (v+(n:Int)).toNat else min v.toNat n)≤n
  by_cases hv:v < 0
  ·rw [if_pos hv];omega
  ·rw [if_neg hv];exact Nat.min_le_right _ _
theorem Zfu (v:Int) (n d:Nat):(if v < 0 then max (v+(n:Int)) 0 else min v (n:Int))=((sIx n d (some v):Nat):Int):=by
 show (if v < 0 then max (v+(n:Int)) 0 else min v (n:Int))=(((if v < 0 then (v+(n:Int)).toNat else min v.toNat n):Nat):Int)
 by_cases hv:v < 0
 ·simp only [if_pos hv];omega
 ·simp only [if_neg hv];omega
theorem ZjR (lo hi:Option Int) (n:Nat):Builtin.Slice.sliceAdjust lo hi 1 (n:Int)=(((sIx n 0 lo:Nat):Int),((sIx n n hi:Nat):Int)):=by
 have h1:¬ ((1:Int) < 0):=by omega
 unfold Builtin.Slice.sliceAdjust
 simp only [h1,if_false]
 refine Prod.ext ?_ ?_
 ·cases lo with
  | none=>rfl
  | some v=>exact Zfu v n 0
 ·cases hi with
  | none=>rfl
  | some v=>exact Zfu v n n
theorem ZjS (i j:Nat):Builtin.Slice.slicePlaces (i:Int) (j:Int) 1=j - i:=by
 unfold Builtin.Slice.slicePlaces
 have h1:(1:Int) > 0:=by omega
 simp only [h1,if_true,Int.ediv_one]
 split <;> omega
theorem Zfv {v:Value} {o:Option Int} {Q:Option Int→Shared→Prop} (p:IsPart v o) (h:Q o s):wpAny (model prog w) A (Builtin.Slice.slicePartIndex v) Q E s:=by
 cases p with
 | none=>exact slicePart_none h
 | int i t=>exact slicePart_int h
theorem ZjT {sl:Addr} {vl vu:Value} {lo hi:Option Int} {n:Nat} {Q:Int×Int×Nat→Shared→Prop} (hs:s.heap.IsSliceOf sl vl vu .none) (pl:IsPart vl lo) (pu:IsPart vu hi)
  (h:Q (((sIx n 0 lo:Nat):Int),1,sIx n n hi - sIx n 0 lo) s):wpAny (model prog w) A (Builtin.Slice.sliceApplied (.ref sl) (pure (n:Int))) Q E s:=by
 obtain ⟨os,hos,hcs,hds⟩:=id hs
 unfold Builtin.Slice.sliceApplied Builtin.Slice.sliceFields
 refine wpAny_bind (wpAny_bind (wpAny_field hos hds (x:=vl) rfl (wpAny_bind (wpAny_field hos hds (x:=vu) rfl (wpAny_bind (wpAny_field hos hds (x:=.none) rfl (wpAny_pure ?_)))))))
 refine wpAny_bind (slicePart_none ?_)
 show wpAny _ _ (if ((1:Int) == 0)=true then _ else _) _ _ s
 rw [if_neg (by decide)]
 refine wpAny_bind (Zfv pl (wpAny_bind (Zfv pu (wpAny_bind (wpAny_pure ?_)))))
 show wpAny _ _ (match Builtin.Slice.sliceAdjust lo hi 1 (n:Int) with | (lo,hi)=>pure (lo,(1:Int),Builtin.Slice.slicePlaces lo hi 1)) _ _ s
 rw [ZjR lo hi n]
 show wpAny _ _ (pure (((sIx n 0 lo:Nat):Int),(1:Int),Builtin.Slice.slicePlaces ((sIx n 0 lo:Nat):Int) ((sIx n n hi:Nat):Int) 1)) _ _ s
 rw [ZjS]
 exact wpAny_pure h
theorem ZjU (xs:Array Value) (i k:Nat):((List.range k).filterMap fun (m:Nat)=>xs[((i:Int)+(m:Int) * 1).toNat]?).toArray=((xs.toList.drop i).take k).toArray:=by
 have e:(fun (m:Nat)=>xs[((i:Int)+(m:Int) * 1).toNat]?)=fun m=>xs[i+m]?:=by
  funext m
  have:((i:Int)+(m:Int) * 1).toNat=i+m:=by omega
  rw [this]
 rw [e]
 have:=pick_run xs i k
 rw [List.filterMap_map] at this
 have e2:((fun x=>xs[x]?) ∘ fun x=>i+x)=fun m=>xs[i+m]?:=rfl
 rw [e2] at this
 rw [this]
theorem getItem_tuple_cut {t sl:Addr} {items:Array Value} {vl vu:Value} {lo hi:Option Int} {Q:Value→Shared→Prop} (ht:IsTup s.heap t items) (hs:s.heap.IsSliceOf sl vl vu .none) (pl:IsPart vl lo) (pu:IsPart vu hi)
  (hw:¬ (sIx items.size 0 lo=0∧sIx items.size items.size hi=items.size))
  (h:Q (.ref s.heap.objs.size) { s with heap:=s.heap.push { cls:=.type "tuple",data:=.seq ((items.toList.drop (sIx items.size 0 lo)).take (sIx items.size items.size hi - sIx items.size 0 lo)).toArray } })
  (hsz:items.size≤sizeLine):wpAny (model prog w) A (getItem (.ref t) (.ref sl)) Q E s:=by
 have htake:sizeOk (.seq ((items.toList.drop (sIx items.size 0 lo)).take (sIx items.size items.size hi - sIx items.size 0 lo)).toArray):=by
  show ((items.toList.drop (sIx items.size 0 lo)).take (sIx items.size items.size hi - sIx items.size 0 lo)).toArray.size≤sizeLine
  rw [List.size_toArray,List.length_take,List.length_drop,Array.length_toList]
  omega
 have hj:sIx items.size items.size hi≤items.size:=ZjQ _ _ (Nat.le_refl _) hi
 obtain ⟨os,hos,hcs,hds⟩:=id hs
 have hTs:s.TypeIs (.ref sl) "slice" := ⟨os,hos,hcs⟩
 unfold getItem
 try with_reducible refine wpAny_holding ?_
 first | refine wpAny_bind (wpAny_pure ?_) | skip
 refine wpAny_bind (wpAny_sequenceKey ht.typeIs (by decide) ?_)
 refine wpAny_bind (wpAny_callSpecial?_slot (name:=Str.ofString "__getitem__") ht.typeIs PyProof.Rows.slot_tuple_getitem
  (wpAny_call_entry PyProof.Rows.slot_tuple_getitem ht.typeIs entry_tuple_getitem ?_ (args_tuple_getitem _ _)))
 show wpAny _ _ (Builtin.Tuple.tupleItemsOf (.ref t) >>= _) _ _ s
 refine wpAny_bind (tupleItemsOf_ ht ?_)
 refine wpAny_bind (wpAny_typeOf hTs ?_)
 rw [if_pos (by decide)]
 refine wpAny_bind (ZjT hs pl pu ?_)
 have hno:¬ ((((sIx items.size 0 lo:Nat):Int) == 0 && (1:Int) == 1 && (sIx items.size items.size hi - sIx items.size 0 lo) == items.size)=true):=by
  intro q
  rw [Bool.and_eq_true,Bool.and_eq_true] at q
  have q1:((sIx items.size 0 lo:Nat):Int)=0:=eq_of_beq q.1.1
  have q2:sIx items.size items.size hi - sIx items.size 0 lo=items.size:=eq_of_beq q.2
  exact hw ⟨by omega,by omega⟩
 show wpAny _ _ (if (((sIx items.size 0 lo:Nat):Int) == 0 && (1:Int) == 1 && (sIx items.size items.size hi - sIx items.size 0 lo) == items.size)=true then _ else _) _ _ s
 rw [if_neg hno,ZjU]
 first
  | exact wpAny_bind (m:=Builtin.Tuple.tupleExact _) (wpAny_newObj_type (wpAny_pure ⟨_,rfl,wpAny_pure h⟩) htake)
  | exact wpAny_bind (m:=Builtin.Tuple.tupleExact _) (wpAny_newObj_type (wpAny_bind (wpAny_pure (wpAny_pure ⟨_,rfl,wpAny_pure h⟩))) htake)
  | exact wpAny_bind (wpAny_bind (m:=Builtin.Tuple.tupleExact _) (wpAny_newObj_type (wpAny_pure (wpAny_pure ⟨_,rfl,wpAny_pure h⟩)) htake))
  | exact wpAny_bind (wpAny_bind (m:=Builtin.Tuple.tupleExact _) (wpAny_newObj_type (wpAny_pure ⟨_,rfl,wpAny_pure h⟩) htake))
end
end HT
namespace L2
open PySem PySem.Spec PyProof.Rows
abbrev TO:=St→Hp→(Option Int→Hp→Prop)→Prop
def PO (X:Cx) (e:Option Expr) (t:TO):Prop :=
 ∀ (pins:List (Addr×Obj)) (s:Shared) (σ:St) (H:Hp) (Q:Option Int→Hp→Prop),Zf X pins σ H s→t σ H Q →
  wpAny (model X.prog X.w) X.A (evalPart e X.env) (fun u s'=>∃ o H',Zf X pins σ H' s'∧IsPart u o∧Q o H') X.xe s
def ZjV:TO:=fun _ H Q=>Q none H
def ZjW (t:TE):TO:=fun σ H Q=>t σ H fun x H1=>∃ i,x=.int i∧Q (some i) H1
section
variable {X:Cx} {e:Expr} {te:TE} {lo hi:Option Expr} {tl th:TO} {pos p2:Pos}
theorem Vn:PO X none ZjV:=by
 intro pins s σ H Q I h
 rw [evalPart_none]
 exact wpAny_pure ⟨none,H,I,.none,h⟩
theorem Vo (h:PE X e te):PO X (some e) (ZjW te):=by
 intro pins s σ H Q I hw
 rw [evalPart_some]
 refine Zv (h pins s σ H _ I hw) fun u s1 ⟨x,H1,I1,r1,q1⟩=>?_
 obtain ⟨i,rfl,q⟩:=q1
 obtain ⟨t,rfl⟩:=r1
 exact ⟨some i,H1,I1,.int i t,q⟩
def SlR (X:Cx) (r:V→Option Int→Option Int→Hp→VK→Prop):Prop :=
 ∀ (pins:List (Addr×Obj)) (s:Shared) (σ:St) (H:Hp) (x:V) (v vl vu:Value) (lo hi:Option Int) (sl:Addr) (Q:VK),Zf X pins σ H s→ZC x v→s.heap.IsSliceOf sl vl vu .none→IsPart vl lo→IsPart vu hi→r x lo hi H Q →
  ∃ T id,typeLookup (.type T) "__getitem__" = pure (some (.builtin id))∧s.TypeIs v T∧wpAny (model X.prog X.w) X.A (getItem v (.ref sl)) (EP X pins σ Q) X.xe s
def tSl (r:V→Option Int→Option Int→Hp→VK→Prop) (te:TE) (tl th:TO):TE:=fun σ H Q=>te σ H fun x H1=>tl σ H1 fun l H2=>th σ H2 fun u H3=>r x l u H3 Q
theorem Vp {r:V→Option Int→Option Int→Hp→VK→Prop} (hr:SlR X r) (he:PE X e te) (hl:PO X lo tl) (hu:PO X hi th):PE X (.Subscript e (.Slice lo hi none p2) pos) (tSl r te tl th):=by
 intro pins s σ H Q I h
 refine Subscript_ (Zv (he pins s σ H _ I h) fun v s1 ⟨x,H1,I1,r1,q1⟩=>?_)
 refine wpAny_Slice (Zv (hl pins s1 σ H1 _ I1 q1) fun vl s2 ⟨l,H2,I2,pl,q2⟩=>Zv (hu pins s2 σ H2 _ I2 q2) fun vu s3 ⟨u,H3,I3,pu,q3⟩=>?_)
 rw [evalPart_none]
 refine wpAny_pure ?_
 have I4:Zf X pins σ H3 { s3 with heap:=s3.heap.push { cls:=.type "slice",data:=.fields #[vl,vu,.none] } }:=I3.kept (t':=s3.toks) fun b ob q=>Heap.get?_push_of_some _ q
 obtain ⟨T,id,hT,ht,hg⟩:=hr pins { s3 with heap:=s3.heap.push { cls:=.type "slice",data:=.fields #[vl,vu,.none] } } σ H3 x v vl vu l u s3.heap.objs.size Q I4 r1 (Heap.IsSliceOf.new ..) pl pu q3
 show wpAny (model X.prog X.w) X.A (subscriptTail e (.Slice lo hi none p2) v (.ref s3.heap.objs.size)) (EP X pins σ Q) X.xe { s3 with heap:=s3.heap.push { cls:=.type "slice",data:=.fields #[vl,vu,.none] } }
 exact tail_any (ops:=[.ref s3.heap.objs.size,v]) ht hT hg (by with_unfolding_all rfl)
def X4 (xs:List V) (lo hi:Option Int):List V:=(xs.drop (HT.sIx xs.length 0 lo)).take (HT.sIx xs.length xs.length hi - HT.sIx xs.length 0 lo)
theorem Zfw (xs:List V) (lo hi:Option Int):(X4 xs lo hi).length≤xs.length:=by
 unfold X4
 rw [List.length_take,List.length_drop]
 omega
def Zfx (K:PySem.W.Frag):V→Option Int→Option Int→Hp→VK→Prop:=fun x lo hi H Q=>∃ a xs,x=.ref a∧Zu K H a xs ∧
 ¬ (HT.sIx xs.length 0 lo=0∧HT.sIx xs.length xs.length hi=xs.length)∧∀ p,H p=none→Q (.ref p) (Zd H p (.tup (X4 xs lo hi)))
theorem Zfy:SlR X (Zfx X.K):=by
 intro pins s σ H x v vl vu lo hi sl Q I rx hs pl pu h
 obtain ⟨a,xs,rfl,hx,hw,q⟩:=h
 cases rx
 obtain ⟨its,r,ht,hz⟩:=I.tuple hx
 have hlen:its.toArray.size=xs.length:=by rw [List.size_toArray];exact r.length.symm
 refine ⟨"tuple",_,PyProof.Rows.slot_tuple_getitem.lookup,ht.typeIs,?_⟩
 refine HT.getItem_tuple_cut ht hs pl pu (by rw [hlen];exact hw) ?_ (by rw [hlen];exact hz)
 rw [hlen]
 refine ⟨.ref s.heap.objs.size,_,I.laid (t':=s.toks) (o:=.tup (X4 xs lo hi)) (fun b ob q=>Heap.get?_push_of_some _ q) (Nat.le_refl _) ?_,rfl,q _ (I.hok.fresh (Nat.le_refl _))⟩
 exact ⟨Nat.le_trans (Zfw xs lo hi) hz,_,(r.drop (HT.sIx xs.length 0 lo)).take (HT.sIx xs.length xs.length hi - HT.sIx xs.length 0 lo),IsTup.new _ _⟩
def ZjX (K:PySem.W.Frag):R2:=fun x y H Q=>∃ a b xs ys,x=.ref a∧y=.ref b∧Zu K H a xs∧Zu K H b ys∧xs≠[]∧xs.length+ys.length≤sizeLine ∧
 (ys=[]→Q (.ref a) H)∧(ys≠[]→∀ p,H p=none→Q (.ref p) (Zd H p (.tup (xs++ys))))
theorem Zy.nil_iff {xs:List V} {us:List Value} (r:Zy xs us):us=[]↔xs=[]:=by
 cases r with
 | nil=>simp
 | cons _ _=>simp
theorem ZjY:Ys X (binaryOp .Add) (ZjX X.K):=by
 intro pins s σ H x y v u Q I rx ry h
 obtain ⟨a,b,xs,ys,rfl,rfl,ha,hb,hx,hz,q1,q2⟩:=h
 cases rx
 cases ry
 obtain ⟨its,r1,p1,_⟩:=I.tuple ha
 obtain ⟨its2,r2,p2,_⟩:=I.tuple hb
 refine HT.cat_tup p1 p2 (fun z=>hx (r1.nil_iff.mp z)) (fun z=>⟨.ref a,H,I,rfl,q1 (r2.nil_iff.mp z)⟩) (fun z=>?_) (by rw [← r1.length,← r2.length];exact hz)
 refine ⟨.ref s.heap.objs.size,_,I.laid (t':=s.toks) (o:=.tup (xs++ys)) (fun b ob q=>Heap.get?_push_of_some _ q) (Nat.le_refl _) ?_,rfl,q2 (fun w=>z (r2.nil_iff.mpr w)) _ (I.hok.fresh (Nat.le_refl _))⟩
 exact ⟨by rw [List.length_append];exact hz,_,r1.append r2,IsTup.new _ _⟩
end
end L2
namespace L2
open PySem PySem.Spec PyProof.Rows
def Ue (n:Nat) (i:Int):Option Nat:=if 0≤i then (if i < n then some i.toNat else none) else if -(n:Int)≤i then some (i+n).toNat else none
def Yu {α:Type} (xs:List α) (i:Int):Option α:=(Ue xs.length i).bind fun j=>xs[j]?
theorem Zfz {n:Nat} {i:Int} {j:Nat} (h:Ue n i=some j):seqIndex? i n=some j∧j < n∧-(n:Int)≤i∧i < n:=by
 unfold Ue at h
 by_cases h0:0≤i
 ·rw [if_pos h0] at h
  by_cases h1:i < n
  ·rw [if_pos h1] at h
   have e:i.toNat=j:=Option.some.inj h
   exact ⟨by rw [seqIndex_of h0 h1,e],by omega,by omega,h1⟩
  ·rw [if_neg h1] at h;cases h
 ·rw [if_neg h0] at h
  by_cases h1:-(n:Int)≤i
  ·rw [if_pos h1] at h
   have e:(i+n).toNat=j:=Option.some.inj h
   exact ⟨by rw [seqIndex_neg (by omega) h1,e],by omega,h1,by omega⟩
  ·rw [if_neg h1] at h;cases h
theorem Zce {α:Type} {xs:List α} {i:Int} {v:α} (h:Yu xs i=some v):∃ j,seqIndex? i xs.length=some j∧xs[j]? = some v∧j < xs.length∧-(xs.length:Int)≤i∧i < xs.length:=by
 unfold Yu at h
 cases e:Ue xs.length i with
 | none=>rw [e] at h;cases h
 | some j =>
  rw [e] at h
  obtain ⟨h1,h2,h3,h4⟩:=Zfz e
  exact ⟨j,h1,h,h2,h3,h4⟩
theorem Xz {α:Type} {xs:List α} {j:Nat} {v:α} (h:xs[j]? = some v):Yu xs (j:Int)=some v:=by
 have hj:j < xs.length:=(List.getElem?_eq_some_iff.mp h).1
 have e:Ue xs.length (j:Int)=some j:=by
  unfold Ue
  rw [if_pos (by omega),if_pos (by omega)];simp
 unfold Yu;rw [e];exact h
def ZjZ (b:Expr):Prop:=∀ o i,subscripted b false o i=operate [o,i] (getItem o i)
def Y7 (X:Cx) (r:R2):Prop :=
 ∀ (value slice:Expr) (pins:List (Addr×Obj)) (s:Shared) (σ:St) (H:Hp) (x y:V) (v u:Value) (Q:VK),Zf X pins σ H s→ZC x v→ZC y u→r x y H Q →
  subscripted slice false v u=operate [v,u] (getItem v u)→wpAny (model X.prog X.w) X.A (subscriptTail value slice v u) (EP X pins σ Q) X.xe s
def MtR (X:Cx) (id:String) (r:V→List V→Hp→VK→Prop):Prop :=
 ∀ (pins:List (Addr×Obj)) (s:Shared) (σ:St) (H:Hp) (x:V) (xs:List V) (v:Value) (us:List Value) (Q:VK),Zf X pins σ H s→ZC x v→Zy xs us→r x xs H Q →
  wpAny (model X.prog X.w) X.A (call (.builtin id) (v::us)) (EP X pins σ Q) X.xe s
section
variable {X:Cx} {a b:Expr} {ta tb:TE} {pos:Pos}
theorem Zw {r:R2} (hr:Y7 X r) (ha:PE X a ta) (hb:PE X b tb) (hs:ZjZ b):PE X (.Subscript a b pos) (tOp r ta tb):=by
 intro pins s σ H Q I h
 exact Subscript_ (Zb7 ha hb I h fun v u s2 x y H2 I2 rx ry q=>hr a b pins s2 σ H2 x y v u Q I2 rx ry q (hs _ _))
def Zcf (K:PySem.W.Frag):R2:=fun x y H Q=>∃ p xs i v,x=.ref p∧y=.int i∧Zg K H p xs∧Yu xs i=some v∧Q v H
def XA (K:PySem.W.Frag):R2:=fun x y H Q=>∃ p xs i v,x=.ref p∧y=.int i∧Zu K H p xs∧Yu xs i=some v∧Q v H
def Zj0:R2:=fun x y H Q=>∃ z i c,x=.str z∧y=.int i∧z.length≤sizeLine∧Yu z.cps.toList i=some c∧Q (.str ⟨#[c]⟩) H
theorem YA:Y7 X (Zcf X.K):=by
 intro value slice pins s σ H x y v u Q I rx ry h hs
 obtain ⟨p,xs,i,z,rfl,rfl,hq,he,q⟩:=h
 cases rx
 obtain ⟨t,rfl⟩:=ry
 obtain ⟨its,r,pl,hz⟩:=I.list hq
 obtain ⟨j,h1,h2,h3,h4,h5⟩:=Zce he
 obtain ⟨w,ew,rw'⟩:=r.get h2
 have hl:=r.length
 have hn:=U7
 have fin:EP X pins σ Q w s:=⟨z,H,I,rw',q⟩
 by_cases h0:0≤i
 ·have hj:i.toNat=j:=by
   rw [seqIndex_of h0 h5] at h1
   exact Option.some.inj h1
  exact item_listR pl.isList h0 (by omega) (by rw [hj];simpa using ew) fin hs
 ·have hj:(i+(its.toArray.size:Int)).toNat=j:=by
   rw [seqIndex_neg (by omega) h4] at h1
   rw [List.size_toArray,← hl]
   exact Option.some.inj h1
  exact subscriptTail_builtinR (x:=w) pl.isList.typeIs slot_list_getitem.lookup
   (wpAny_getItem_list_neg (Q:=fun r s'=>r=w∧EP X pins σ Q r s') pl.isList (by omega) (by rw [List.size_toArray] <;> omega) (by omega) (by rw [hj];simpa using ew) ⟨rfl,fin⟩) hs
theorem ZQ:Y7 X (XA X.K):=by
 intro value slice pins s σ H x y v u Q I rx ry h hs
 obtain ⟨p,xs,i,z,rfl,rfl,hq,he,q⟩:=h
 cases rx
 obtain ⟨t,rfl⟩:=ry
 obtain ⟨its,r,pl,hz⟩:=I.tuple hq
 obtain ⟨j,h1,h2,h3,h4,h5⟩:=Zce he
 obtain ⟨w,ew,rw'⟩:=r.get h2
 have hl:=r.length
 have hn:=U7
 have fin:EP X pins σ Q w s:=⟨z,H,I,rw',q⟩
 exact subscriptTail_builtinR (x:=w) pl.typeIs slot_tuple_getitem.lookup
  (getItem_tuple (j:=j) (Q:=fun r s'=>r=w∧EP X pins σ Q r s') pl (by omega) (by omega) (by rw [List.size_toArray,← hl];exact h1) (by simpa using ew) ⟨rfl,fin⟩) hs
theorem UI:Y7 X Zj0:=by
 intro value slice pins s σ H x y v u Q I rx ry h hs
 obtain ⟨z,i,c,rfl,rfl,hz,he,q⟩:=h
 obtain ⟨t,rfl⟩:=rx
 obtain ⟨t',rfl⟩:=ry
 obtain ⟨j,h1,h2,h3,h4,h5⟩:=Zce he
 have hl:z.cps.toList.length=z.length:=by simp [Str.length]
 rw [hl] at h1 h4 h5
 have hn:=U7
 exact tail_any (typeIs_str s z t) slot_str_getitem.lookup (getItem_str (c:=c) (by
  have e1:decide (i < -(2 ^ 63:Int))=false:=decide_eq_false (by omega)
  have e2:decide (i ≥ 2 ^ 63)=false:=decide_eq_false (by omega)
  rw [e1,e2,Bool.or_false]) (by rw [h1];simpa using h2) ⟨.str ⟨#[c]⟩,H,I.tok _,⟨_,rfl⟩,q⟩) hs
theorem Zj1 (its:List Value) (n j:Nat) (u:Value):Obj.mapSeq (·.setIfInBounds j u) { cls:=.type "list",data:=.seq its.toArray n } = { cls:=.type "list",data:=.seq (its.set j u).toArray n }:=by
 simp [Obj.mapSeq]
theorem Zf.lst {pins:List (Addr×Obj)} {σ:St} {H:Hp} {s:Shared} {p:Addr} {xs:List V} (I:Zf X pins σ H s) (h:H p=some (.lst xs)) :
  ∃ (its:List Value) (n:Nat),Zy xs its∧s.heap.get? p=some { cls:=.type "list",data:=.seq its.toArray n }∧xs.length≤sizeLine:=by
 obtain ⟨z,its,n,r,e⟩:=I.hok p _ h
 exact ⟨its,n,r,e,z⟩
theorem Zf.lstUpd {pins:List (Addr×Obj)} {σ:St} {H:Hp} {s:Shared} {p:Addr} {xs ys:List V} {its its':List Value} {n n':Nat} {f:Obj→Obj} (I:Zf X pins σ H s) (h:H p=some (.lst xs))
  (ho:s.heap.get? p=some { cls:=.type "list",data:=.seq its.toArray n }) (hf:f { cls:=.type "list",data:=.seq its.toArray n } = { cls:=.type "list",data:=.seq its'.toArray n' }) (r:Zy ys its') (hz:ys.length≤sizeLine) (t:Nat) :
  Zf X pins σ (Zd H p (.lst ys)) { s with heap:=s.heap.update p f,toks:=t }:=by
 have e:(s.heap.update p f).get? p=some { cls:=.type "list",data:=.seq its'.toArray n' }:=by
  rw [Heap.get?_update_self f ho (by rw [hf] <;> rfl),hf]
 refine I.write (x:=p) (e:=p) (by rw [h];trivial) (.inl rfl) (fun b u hb q=>(Heap.get?_update_other _ _ (Ne.symm hb)).trans q) ⟨_,e⟩ ?_
 exact ⟨hz,its',n',r,e⟩
def Zj2:V→V→V→Hp→(Hp→Prop)→Prop:=fun o i v H Q=>∃ p xs k j,o=.ref p∧i=.int k∧H p=some (.lst xs)∧Ue xs.length k=some j∧Q (Zd H p (.lst (xs.set j v)))
theorem Zj3:Ze2 X Zj2:=by
 intro pins s σ H o i v ov iv u Q I ro ri rv h
 obtain ⟨p,xs,k,j,rfl,rfl,hp,hj,q⟩:=h
 cases ro
 obtain ⟨t,rfl⟩:=ri
 obtain ⟨its,n,r,ho,hz⟩:=I.lst hp
 obtain ⟨h1,h2,h3,h4⟩:=Zfz hj
 have hl:=r.length
 have hn:=U7
 have I':Zf X pins σ (Zd H p (.lst (xs.set j v))) { s with heap:=s.heap.update p (Obj.mapSeq (·.setIfInBounds j u)) } :=
  I.lstUpd hp ho (Zj1 its n j u) (r.set rv j) (by rw [List.length_set];exact hz) s.toks
 by_cases h0:0≤k
 ·have hk:k.toNat=j:=by
   rw [seqIndex_of h0 h4] at h1
   exact Option.some.inj h1
  exact PySem.W.ki_setAt ho h0 (by omega) (by rw [List.size_toArray,← hl];exact h4) (by rw [hk];exact ⟨_,I',q⟩)
 ·have hk:(k+(its.toArray.size:Int)).toNat=j:=by
   rw [seqIndex_neg (by omega) h3] at h1
   rw [List.size_toArray,← hl]
   exact Option.some.inj h1
  exact PySem.W.ki_setBack ho (by omega) (by rw [List.size_toArray,← hl];exact h3) (by omega) (by rw [hk];exact ⟨_,I',q⟩)
theorem Zj4 (lo hi:Option Int) (n:Nat):(sliceBounds lo hi none n).1=((HT.sIx n 0 lo:Nat):Int)∧(sliceBounds lo hi none n).2.1=((HT.sIx n n hi:Nat):Int)∧(sliceBounds lo hi none n).2.2=1:=by
 refine ⟨?_,?_,rfl⟩
 ·cases lo with
  | none=>simp [sliceBounds,HT.sIx]
  | some i =>
   simp only [sliceBounds,HT.sIx,Option.getD_none,show (1:Int) > 0 by decide,if_true]
   by_cases h:i < 0
   ·simp only [h,if_true] <;> omega
   ·simp only [h,if_false] <;> omega
 ·cases hi with
  | none=>simp [sliceBounds,HT.sIx]
  | some i =>
   simp only [sliceBounds,HT.sIx,Option.getD_none,show (1:Int) > 0 by decide,if_true]
   by_cases h:i < 0
   ·simp only [h,if_true] <;> omega
   ·simp only [h,if_false] <;> omega
theorem Zj5 (its:List Value) (lo hi:Option Int):slicePick its.toArray lo hi none=((its.drop (HT.sIx its.length 0 lo)).take (HT.sIx its.length its.length hi - HT.sIx its.length 0 lo)).toArray:=by
 obtain ⟨h1,h2,h3⟩:=Zj4 lo hi its.toArray.size
 unfold slicePick
 rw [h1,h2,h3]
 simp only [sliceRange_one,pick_run,List.size_toArray] <;> rfl
def Zj6 (K:PySem.W.Frag):V→Option Int→Option Int→Hp→VK→Prop:=fun x lo hi H Q=>∃ a xs,x=.ref a∧Zg K H a xs∧∀ p,H p=none→Q (.ref p) (Zd H p (.lst (X4 xs lo hi)))
theorem Zat:SlR X (Zj6 X.K):=by
 intro pins s σ H x v vl vu lo hi sl Q I rx hs pl pu h
 obtain ⟨a,xs,rfl,hx,q⟩:=h
 cases rx
 obtain ⟨its,r,ht,hz⟩:=I.list hx
 have hlen:=r.length
 refine ⟨"list",_,slot_list_getitem.lookup,ht.isList.typeIs,?_⟩
 refine wpAny_getItem_list_slice ht.isList hs pl pu .none (by simp) ?_ (by rw [List.size_toArray] <;> omega)
 rw [Zj5,← hlen]
 refine ⟨.ref s.heap.objs.size,_,I.laid (t':=s.toks) (o:=.lst (X4 xs lo hi)) (fun b ob q=>Heap.get?_push_of_some _ q) (Nat.le_refl _) ?_,rfl,q _ (I.hok.fresh (Nat.le_refl _))⟩
 exact ⟨Nat.le_trans (Zfw xs lo hi) hz,_,0,(r.drop (HT.sIx xs.length 0 lo)).take (HT.sIx xs.length xs.length hi - HT.sIx xs.length 0 lo),Heap.get?_push_size _ rfl⟩
def Uf:V→Bool
 | .non=>true
 | .bl _=>true
 | .int _=>true
 | .str _=>true
 | _=>false
def Wy:V→V→Bool
 | .non,.non=>true
 | .bl a,.bl b=>a == b
 | .bl a,.int b=>(if a then 1 else 0) == b
 | .int a,.bl b=>a == (if b then 1 else 0)
 | .int a,.int b=>a == b
 | .str a,.str b=>a == b
 | _,_=>false
theorem Zj7 {A:Around} {s:Shared} {y x:V} {u v:Value} (ry:ZC y u) (rx:ZC x v) (fy:Uf y=true) (fx:Uf x=true):SeqAt.EqAt A s u v (Wy y x):=by
 cases y with
 | non =>
  cases ry
  cases x with
  | non=>cases rx;exact SeqAt.EqAt.same _
  | bl b=>cases rx;exact SeqAt.EqAt.none_bool b
  | int b=>obtain ⟨t,rfl⟩:=rx;exact SeqAt.EqAt.none_int b t
  | str b=>obtain ⟨t,rfl⟩:=rx;exact SeqAt.EqAt.none_str b t
  | _=>exact absurd (show false=true from fx) Bool.false_ne_true
 | bl a =>
  cases ry
  cases x with
  | non=>cases rx;exact SeqAt.EqAt.bool_none a
  | bl b=>cases rx;exact SeqAt.EqAt.bool_bool a b
  | int b=>obtain ⟨t,rfl⟩:=rx;exact SeqAt.EqAt.bool_int a b t
  | str b=>obtain ⟨t,rfl⟩:=rx;exact SeqAt.EqAt.bool_str a b t
  | _=>exact absurd (show false=true from fx) Bool.false_ne_true
 | int a =>
  obtain ⟨t',rfl⟩:=ry
  cases x with
  | non=>cases rx;exact SeqAt.EqAt.int_none a t'
  | bl b=>cases rx;exact SeqAt.EqAt.int_bool a t' b
  | int b=>obtain ⟨t,rfl⟩:=rx;exact SeqAt.EqAt.int_int a t' b t
  | str b=>obtain ⟨t,rfl⟩:=rx;exact SeqAt.EqAt.int_str a t' b t
  | _=>exact absurd (show false=true from fx) Bool.false_ne_true
 | str a =>
  obtain ⟨t',rfl⟩:=ry
  cases x with
  | non=>cases rx;exact SeqAt.EqAt.str_none a t'
  | bl b=>cases rx;exact SeqAt.EqAt.str_bool a t' b
  | int b=>obtain ⟨t,rfl⟩:=rx;exact SeqAt.EqAt.str_int a t' b t
  | str b=>obtain ⟨t,rfl⟩:=rx;exact SeqAt.EqAt.str_str a t' b t
  | _=>exact absurd (show false=true from fx) Bool.false_ne_true
 | _=>exact absurd (show false=true from fy) Bool.false_ne_true
def VR (x:V) (u:Value):Bool:=match u with
 | .none=>Wy .non x
 | .bool b=>Wy (.bl b) x
 | .int i _=>Wy (.int i) x
 | .str z _=>Wy (.str z) x
 | _=>false
theorem ZfA {x y:V} {u:Value} (r:ZC y u) (f:Uf y=true):VR x u=Wy y x:=by
 cases y with
 | non=>cases r;rfl
 | bl b=>cases r;rfl
 | int i=>obtain ⟨t,rfl⟩:=r;rfl
 | str z=>obtain ⟨t,rfl⟩:=r;rfl
 | _=>exact absurd (show false=true from f) Bool.false_ne_true
theorem Zcg {x:V}:∀ {xs:List V} {us:List Value},Zy xs us→xs.all Uf=true→us.any (VR x)=xs.any fun y=>Wy y x
 | _,_,.nil,_=>rfl
 | y::xs,u::us,.cons r t,f=>by
  rw [List.all_cons,Bool.and_eq_true] at f
  rw [List.any_cons,List.any_cons,ZfA r f.1,Zcg t f.2]
theorem Zch {A:Around} {s:Shared} {x:V} {v:Value} (rx:ZC x v) (fx:Uf x=true):∀ {xs:List V} {us:List Value},Zy xs us→xs.all Uf=true→∀ u∈us,SeqAt.EqAt A s u v (VR x u)
 | _,_,.nil,_=>fun u hu=>by cases hu
 | y::xs,u::us,.cons r t,f=>fun u' hu=>by
  rw [List.all_cons,Bool.and_eq_true] at f
  rcases List.mem_cons.mp hu with rfl | hu
  ·rw [ZfA r f.1];exact Zj7 r rx f.1 fx
  ·exact Zch rx fx t f.2 u' hu
def inV (x:V) (xs:List V):Bool:=xs.any fun y=>Wy y x
def rIn (K:PySem.W.Frag) (neg:Bool):R2:=fun x y H Q=>∃ p xs,y=.ref p∧(Zg K H p xs∨Zu K H p xs)∧Uf x=true∧xs.all Uf=true∧Q (.bl (if neg then !inV x xs else inV x xs)) H
theorem ZfB:Ys X (compareOp .In) (rIn X.K false):=by
 intro pins s σ H x y v u Q I rx ry h
 obtain ⟨p,xs,rfl,hq,fx,fs,q⟩:=h
 cases ry
 rcases hq with hq | hq
 ·obtain ⟨its,r,pl,hz⟩:=I.list hq
  refine SeqAt.in_listAt (VR x) pl.isList (fun w hw=>Zch rx fx r fs w (by simpa using hw)) ⟨.bl _,H,I,rfl,?_⟩
  rw [show its.toArray.any (VR x)=its.any (VR x) by simp,Zcg r fs]
  exact q
 ·obtain ⟨its,r,pl,hz⟩:=I.tuple hq
  refine SeqAt.in_tupleAt (VR x) pl (fun w hw=>Zch rx fx r fs w (by simpa using hw)) ⟨.bl _,H,I,rfl,?_⟩
  rw [show its.toArray.any (VR x)=its.any (VR x) by simp,Zcg r fs]
  exact q
theorem Xh:Xq X (.builtin "len") (fun xs H Q=>∃ p ys,xs=[.ref p]∧(Zg X.K H p ys∨Zu X.K H p ys)∧Q (.int ys.length) H):=by
 intro pins s σ H xs us Q I r h
 obtain ⟨p,ys,rfl,hq,q⟩:=h
 obtain ⟨u,rfl,rx⟩:=Ww r
 cases rx
 have hn:=U7
 rcases hq with hq | hq
 ·obtain ⟨its,r',pl,hz⟩:=I.list hq
  have hlen:=r'.length
  exact Calls.call_len_list pl.isList (by simp only [List.size_toArray] <;> omega) ⟨.int ys.length,H,I.tok _,⟨s.toks+1,by rw [List.size_toArray,hlen]⟩,q⟩
 ·obtain ⟨its,r',pl,hz⟩:=I.tuple hq
  have hlen:=r'.length
  exact len_tuple pl (by simp only [List.size_toArray] <;> omega) ⟨.int ys.length,H,I.tok _,⟨s.toks+1,by rw [List.size_toArray,hlen]⟩,q⟩
theorem ZfC:Xq X (.builtin "len") (fun xs H Q=>∃ z,xs=[.str z]∧z.length≤sizeLine∧Q (.int z.length) H):=by
 intro pins s σ H xs us Q I r h
 obtain ⟨z,rfl,hz,q⟩:=h
 obtain ⟨u,rfl,t,rfl⟩:=Ww r
 have hn:=U7
 exact len_str (by omega) ⟨.int z.length,H,I.tok _,⟨_,rfl⟩,q⟩
theorem Qb:Xq X (.type "list") (fun xs H Q=>∃ p ys,xs=[.ref p]∧(Zg X.K H p ys∨Zu X.K H p ys)∧∀ l,H l=none→Q (.ref l) (Zd H l (.lst ys))):=by
 intro pins s σ H xs us Q I r h
 obtain ⟨p,ys,rfl,hq,q⟩:=h
 obtain ⟨u,rfl,rx⟩:=Ww r
 cases rx
 have fin:∀ (its:List Value),Zy ys its→ys.length≤sizeLine→∀ (h':Heap) (c':Nat),(∀ b o',s.heap.get? b=some o'→h'.get? b=some o') →
   h'.get? s.heap.objs.size=some { cls:=.type "list",dict:=none,data:=.seq its.toArray c',slots:=#[] }→EP X pins σ Q (.ref s.heap.objs.size) { s with heap:=h' }:=fun its r' hz h' c' kp e =>
  ⟨.ref s.heap.objs.size,_,I.laid (t':=s.toks) kp (Nat.le_refl _) (show Yc X.prog X.w _ h' _ (.lst ys) from ⟨hz,its,c',r',e⟩),rfl,q _ (I.hok.fresh (Nat.le_refl _))⟩
 rcases hq with hq | hq
 ·obtain ⟨its,r',pl,hz⟩:=I.list hq
  have hlen:=r'.length
  obtain ⟨o,ho,hc,n,hd⟩:=pl.isList
  exact call_list_seq p (.inl rfl) ho hc hd (fun h' c' kp e=>fin its r' hz h' c' kp e) (by simp only [List.size_toArray] <;> omega)
 ·obtain ⟨its,r',pl,hz⟩:=I.tuple hq
  have hlen:=r'.length
  obtain ⟨o,ho,hc,n,hd⟩:=pl
  exact call_list_seq p (.inr rfl) ho hc hd (fun h' c' kp e=>fin its r' hz h' c' kp e) (by simp only [List.size_toArray] <;> omega)
theorem Zbk:Xq X (.type "tuple") (fun xs H Q=>∃ p ys,xs=[.ref p]∧((Zg X.K H p ys∧∀ l,H l=none→Q (.ref l) (Zd H l (.tup ys)))∨(Zu X.K H p ys∧Q (.ref p) H))):=by
 intro pins s σ H xs us Q I r h
 obtain ⟨p,ys,rfl,h⟩:=h
 obtain ⟨u,rfl,rx⟩:=Ww r
 cases rx
 rcases h with ⟨hq,q⟩ | ⟨hq,q⟩
 ·obtain ⟨its,r',pl,hz⟩:=I.list hq
  have hlen:=r'.length
  refine call_tuple_list pl.isList (fun h' kp=>?_) (by simp only [List.size_toArray] <;> omega)
  have I1:Zf X pins σ H { s with heap:=h' }:=I.kept (t':=s.toks) kp
  have I2:Zf X pins σ (Zd H h'.objs.size (.tup ys)) { s with heap:=h'.push { cls:=.type "tuple",data:=.seq its.toArray } } :=
   I1.laid (t':=s.toks) (fun b o e=>Heap.get?_push_of_some _ e) (Nat.le_refl _) (show Yc X.prog X.w _ _ _ (.tup ys) from ⟨hz,its,r',IsTup.new _ _⟩)
  exact ⟨.ref h'.objs.size,_,I2,rfl,q _ (I1.hok.fresh (Nat.le_refl _))⟩
 ·obtain ⟨its,r',pl,hz⟩:=I.tuple hq
  exact call_tuple_same pl ⟨.ref p,H,I,rfl,q⟩
def tyV (K:PySem.W.Frag) (T:String) (x:V) (H:Hp):Prop:=match x with
 | .str _=>T = "str"
 | .int _=>T = "int"
 | .ref p=>(T = "list" ∧ ∃ xs,Zg K H p xs)∨(T = "tuple" ∧ ∃ o,K.lookup p=some o∧o.cls=.type "tuple" ∧ o.dict=none) ∨
   (T = "dict" ∧ ((∃ kvs,H p=some (.dK kvs))∨∃ kvs,H p=some (.dT kvs)))∨(T = "set" ∧ ∃ S n,H p=some (.set S n))
 | _=>False
theorem ZfD {pins:List (Addr×Obj)} {σ:St} {H:Hp} {s:Shared} {T:String} {x:V} {v:Value} (I:Zf X pins σ H s) (r:ZC x v) (ty:tyV X.K T x H) :
  s.TypeIs v T∧∀ a,v=.ref a→∃ ob,s.heap.get? a=some ob∧ob.dict=none:=by
 cases x with
 | str z =>
  obtain ⟨t,rfl⟩:=r
  cases (show T = "str" from ty)
  exact ⟨typeIs_str s z t,fun _ e=>nomatch e⟩
 | int i =>
  obtain ⟨t,rfl⟩:=r
  cases (show T = "int" from ty)
  exact ⟨typeIs_int s i t,fun _ e=>nomatch e⟩
 | ref p =>
  cases r
  rcases ty with ⟨rfl,xs,hq⟩ | ⟨rfl,o,hk,hc,hd⟩ | ⟨rfl,hk⟩ | ⟨rfl,S,n,hk⟩
  ·obtain ⟨its,_,pl,_⟩:=I.list hq
   refine ⟨pl.isList.typeIs,fun a e=>?_⟩
   cases e
   obtain ⟨o,n,e,c,hd,_⟩:=pl
   exact ⟨o,e,hd⟩
  ·refine ⟨⟨o,I.kIn p o hk,hc⟩,fun a e=>?_⟩
   cases e
   exact ⟨o,I.kIn _ o hk,hd⟩
  ·have z:∃ o,s.heap.get? p=some o∧o.ExactDict:=by
    rcases hk with ⟨kvs,hk⟩ | ⟨kvs,hk⟩
    ·obtain ⟨_,_,_,_,o,_,_,e,ex,_⟩:=I.hok p _ hk
     exact ⟨o,e,ex⟩
    ·obtain ⟨_,_,_,_,o,_,_,e,ex,_⟩:=I.hok p _ hk
     exact ⟨o,e,ex⟩
   obtain ⟨o,e,ex⟩:=z
   refine ⟨⟨o,e,ex.1⟩,fun a e2=>?_⟩
   cases e2
   exact ⟨o,e,ex.2.1⟩
  ·obtain ⟨o,_,_,_,e,ex,_⟩:=I.hok p _ hk
   refine ⟨⟨o,e,ex.1⟩,fun a e2=>?_⟩
   cases e2
   exact ⟨o,e,ex.2.1⟩
 | _=>exact False.elim ty
def Zj8 (K:PySem.W.Frag) (T:String) (r:V→List V→Hp→VK→Prop) (to:TE):TE:=fun σ H Q=>to σ H fun x H1=>tyV K T x H1∧r x [] H1 Q
def tBM (K:PySem.W.Frag) (T:String) (r:V→List V→Hp→VK→Prop) (to:TE) (t:TA):TE:=fun σ H Q=>to σ H fun x H1=>tyV K T x H1∧t σ H1 fun xs H2=>r x xs H2 Q
variable {o e:Expr} {es:List Expr} {to:TE} {t:TA} {name:Str} {apos cpos:Pos} {T id:String} {r:V→List V→Hp→VK→Prop}
theorem Zj9 (pa:PlainAttrs T) (slot:Slot T name id) (hty:typeOf (.builtin id)=pure (.type "method_descriptor")) (hm:MtR X id r) (ho:PE X o to)
  (hbase:attributeBase o name X.env (eval o X.env)=eval o X.env:=by rfl) (hline:(apos.endLine == cpos.line)=true:=by rfl):PE X (.Call (.Attribute o name apos) [] [] cpos) (Zj8 X.K T r to):=by
 intro pins s σ H Q I h
 refine wpAny_Call_method0_late hbase hline (Zv (ho pins s σ H _ I h) fun v s1 ⟨x,H1,I1,r1,ty,q1⟩=>?_)
 obtain ⟨h1,h2⟩:=ZfD I1 r1 ty
 exact ⟨T,id,pa,slot,hty,h1,h2,Calls.callWith_builtin rfl (PySem.evalArgs_none (hm pins s1 σ H1 x [] v [] Q I1 r1 .nil q1))⟩
theorem Vc (pa:PlainAttrs T) (slot:Slot T name id) (hty:typeOf (.builtin id)=pure (.type "method_descriptor")) (hm:MtR X id r) (ho:PE X o to) (ha:PA X (e::es) t)
  (hbase:attributeBase o name X.env (eval o X.env)=eval o X.env:=by rfl)
  (hfew:((backTo cpos (starEach (e::es) X.env)).all (fun x=>!x.1) && (backToKw cpos (keywordEach [] X.env)).all (fun x=>x.1.isSome)
   && decide ((e::es).length+([]:List Keyword).length+(if ([]:List Keyword).isEmpty then 0 else 1) < 30))=true:=by rfl)
  (hline:(apos.endLine == cpos.line)=true:=by rfl) (hs:starEach (e::es) X.env=(false,eval e X.env)::starEach es X.env:=by rfl) (hplain:(backTo cpos (starEach es X.env)).any (·.1)=false:=by rfl) :
  PE X (.Call (.Attribute o name apos) (e::es) [] cpos) (tBM X.K T r to t):=by
 intro pins s σ H Q I h
 refine wpAny_Call_method_late hbase hfew hline rfl (Zv (ho pins s σ H _ I h) fun v s1 ⟨x,H1,I1,r1,ty,q1⟩=>?_)
 obtain ⟨h1,h2⟩:=ZfD I1 r1 ty
 refine ⟨T,id,pa,slot,hty,h1,h2,?_⟩
 have hA:=ha cpos pins s1 σ H1 _ I1 q1
 rw [hs] at hA ⊢
 refine Calls.callWith_builtin (by show (false || (backTo cpos (starEach es X.env)).any (·.1))=false;rw [hplain] <;> rfl) (Calls.evalArgs_plain ?_)
 exact Zv hA fun us s2 ⟨vs,H2,I2,r2,q2⟩=>hm pins s2 σ H2 x vs v us Q I2 r1 r2 q2
end
end L2
namespace L2
open PySem PySem.Spec PyProof.Rows
def MtM (X:Cx) (id:String) (r:V→List V→Hp→VK→Prop):Prop :=
 ∀ (pins:List (Addr×Obj)) (s:Shared) (σ:St) (H:Hp) (x:V) (xs:List V) (v:Value) (us:List Value) (Q:VK),Zf X pins σ H s→ZC x v→Zy xs us→r x xs H Q →
  wpAny (model X.prog X.w) X.A (call (.builtin id) (v::us)) (EP X pins σ Q) X.xe s
theorem Zy.one:∀ {x:V} {us:List Value},Zy [x] us→∃ u,us=[u]∧ZC x u
 | _,_,.cons r .nil=>⟨_,rfl,r⟩
theorem Zy.zero:∀ {us:List Value},Zy [] us→us=[]
 | _,.nil=>rfl
theorem Zy.rep {xs:List V} {us:List Value} (h:Zy xs us):∀ k:Nat,Zy (List.replicate k xs).flatten (List.replicate k us).flatten
 | 0=>.nil
 | k+1=>by
  rw [List.replicate_succ,List.replicate_succ,List.flatten_cons,List.flatten_cons]
  exact Zy.append h (Zy.rep h k)
theorem ZfE (its:List Value):∀ (k:Nat) (acc:List Value),
  List.foldl (fun x1 x2=>x1++x2) acc.toArray (List.replicate k its.toArray)=(acc++(List.replicate k its).flatten).toArray
 | 0,acc=>by simp
 | k+1,acc=>by
  have e:acc.toArray++its.toArray=(acc++its).toArray:=by simp
  have e2:(acc++its)++(List.replicate k its).flatten=acc++(List.replicate (k+1) its).flatten:=by
   rw [List.replicate_succ,List.flatten_cons,List.append_assoc]
  rw [← e2,← ZfE its k (acc++its),← e,List.replicate_succ,List.foldl_cons]
section
variable {X:Cx} {pins:List (Addr×Obj)} {σ:St} {H:Hp} {s:Shared} {l b:Addr} {xs ys zs:List V}
theorem Zf.lset {its its':List Value} {n:Nat} {f:Array Value→Array Value} {t':Nat} (I:Zf X pins σ H s) (hH:H l=some (.lst xs))
  (e:s.heap.get? l=some { cls:=.type "list",data:=.seq its.toArray n }) (hf:f its.toArray=its'.toArray) (hv:Zy ys its') (hz:ys.length≤sizeLine) :
  Zf X pins σ (Zd H l (.lst ys)) { s with heap:=s.heap.update l (Obj.mapSeq f),toks:=t' }:=by
 have q:=PySem.IsL.update e f
 rw [hf] at q
 refine I.write (x:=l) (e:=l) (by rw [hH];exact trivial) (.inl rfl) (fun b' u hb hu=>(Heap.get?_update_other s.heap (Obj.mapSeq f) (Ne.symm hb)).trans hu) ⟨_,q⟩ ?_
 exact ⟨hz,its',_,hv,q⟩
theorem Zf.lnew {its:List Value} {t':Nat} (I:Zf X pins σ H s) (hv:Zy ys its) (hz:ys.length≤sizeLine) :
  Zf X pins σ (Zd H s.heap.objs.size (.lst ys)) { s with heap:=s.heap.push { cls:=.type "list",data:=.seq its.toArray },toks:=t' } :=
 I.laid (fun _ _ q=>Heap.get?_push_of_some _ q) (Nat.le_refl _) ⟨hz,its,0,hv,Heap.get?_push_size _ rfl⟩
theorem Zf.fresh (I:Zf X pins σ H s):H s.heap.objs.size=none:=I.hok.fresh (Nat.le_refl _)
theorem Zf.lstM (I:Zf X pins σ H s) (hH:H l=some (.lst xs)):xs.length≤sizeLine∧∃ (its:List Value) (n:Nat),Zy xs its∧xs.length=its.length∧s.heap.get? l=some { cls:=.type "list",data:=.seq its.toArray n }:=by
 obtain ⟨z,its,n,r,e⟩:=I.hok l _ hH
 exact ⟨z,its,n,r,r.length,e⟩
theorem Zka {n:Nat} (h:n≤sizeLine):Builtin.List.listTooLong n=false:=by
 unfold Builtin.List.listTooLong
 exact decide_eq_false (by omega)
end
section
variable {X:Cx}
def Zkb:V→List V→Hp→VK→Prop:=fun x vs H Q=>∃ l xs y,x=.ref l∧vs=[y]∧H l=some (.lst xs)∧xs.length < sizeLine∧Q .non (Zd H l (.lst (xs++[y])))
theorem Vq:MtM X "list.append" Zkb:=by
 intro pins s σ H x vs v us Q I rx rv h
 obtain ⟨l,xs,y,rfl,rfl,hH,hz,q⟩:=h
 cases rx
 obtain ⟨u,rfl,ru⟩:=rv.one
 obtain ⟨z,its,n,r,hl,e⟩:=I.lstM hH
 refine call_meets F.slot_list_append ⟨_,e,rfl⟩ F.entry_list_append (F.args_list_append_2 _ _) (PySem.list_append l its.toArray n u (by rw [List.size_toArray];omega)) ⟨e,?_⟩
 refine ⟨.non,_,I.lset (its':=its++[u]) hH e (by simp) (r.append (.cons ru .nil)) ?_,rfl,q⟩
 rw [List.length_append,List.length_singleton]
 omega
def Zkc:V→List V→Hp→VK→Prop:=fun x vs H Q=>∃ l xs,x=.ref l∧vs=[]∧H l=some (.lst xs)∧Q .non (Zd H l (.lst []))
theorem Zkd:MtM X "list.clear" Zkc:=by
 intro pins s σ H x vs v us Q I rx rv h
 obtain ⟨l,xs,rfl,rfl,hH,q⟩:=h
 cases rx
 have hus:=rv.zero
 subst hus
 obtain ⟨z,its,n,r,hl,e⟩:=I.lstM hH
 refine call_meets F.slot_list_clear ⟨_,e,rfl⟩ F.entry_list_clear (F.args_list_clear_1 _) (AutoSeq1.list_clear_list_0 l its.toArray n (by rw [List.size_toArray];omega)) ⟨e,?_⟩
 exact ⟨.non,_,I.lset (its':=[]) (ys:=[]) hH e rfl .nil (Nat.zero_le _),rfl,q⟩
def Zke:R2:=fun x y H Q=>∃ l b xs zs,x=.ref l∧y=.ref b∧H l=some (.lst xs)∧H b=some (.lst zs)∧xs.length+zs.length≤sizeLine∧∀ p,H p=none→Q (.ref p) (Zd H p (.lst (xs++zs)))
theorem Zci:Ys X (binaryOp .Add) Zke:=by
 intro pins s σ H x y v u Q I rx ry h
 obtain ⟨l,b,xs,zs,rfl,rfl,hH,hB,hz,q⟩:=h
 cases rx
 cases ry
 obtain ⟨z,its,n,r,hl,e⟩:=I.lstM hH
 obtain ⟨z2,its2,n2,r2,hl2,e2⟩:=I.lstM hB
 refine PySem.P.add_list e e2 ?_ (by rw [List.size_toArray,List.size_toArray];omega)
 have ea:its.toArray++its2.toArray=(its++its2).toArray:=by simp
 rw [ea]
 exact ⟨.ref _,_,I.lnew (t':=s.toks) (r.append r2) (by rw [List.length_append];omega),rfl,q _ I.fresh⟩
def Zkf:R2:=fun x y H Q=>∃ l k xs,x=.ref l∧y=.int k∧H l=some (.lst xs)∧-(2 ^ 63)≤k∧k < 2 ^ 63∧xs.length * k.toNat≤sizeLine ∧
 ∀ p,H p=none→Q (.ref p) (Zd H p (.lst (List.replicate k.toNat xs).flatten))
theorem Zkg {α:Type} (xs:List α) (k:Nat):(List.replicate k xs).flatten.length=k * xs.length:=by
 induction k with
 | zero=>simp
 | succ k ih=>rw [List.replicate_succ,List.flatten_cons,List.length_append,ih,Nat.succ_mul,Nat.add_comm]
theorem Qc:Ys X (binaryOp .Mult) Zkf:=by
 intro pins s σ H x y v u Q I rx ry h
 obtain ⟨l,k,xs,rfl,rfl,hH,h1,h2,hz,q⟩:=h
 cases rx
 obtain ⟨t,rfl⟩:=ry
 obtain ⟨z,its,n,r,hl,e⟩:=I.lstM hH
 have hlen:its.toArray.size * k.toNat≤sizeLine:=by rw [List.size_toArray,← hl];exact hz
 have hcap:¬ its.toArray.size * k.toNat > (2 ^ 63 - 1) / 8:=by
  have:(sizeLine:Nat)≤(2 ^ 63 - 1) / 8:=by decide
  omega
 have hfit:¬ (!Builtin.List.listFitsIndex k)=true:=by
  rw [fitsIndex_both h1 h2]
  exact Bool.false_ne_true
 have hlong:¬ Builtin.List.listTooLong (its.toArray.size * k.toNat)=true:=by
  rw [Zka hlen]
  exact Bool.false_ne_true
 have hnew:List.foldl (fun x1 x2=>x1++x2) #[] (List.replicate (if its.toArray.isEmpty=true then 0 else k.toNat) its.toArray)=(List.replicate k.toNat its).flatten.toArray:=by
  have f0:∀ m:Nat,List.foldl (fun x1 x2=>x1++x2) #[] (List.replicate m its.toArray)=(List.replicate m its).flatten.toArray:=fun m=>by
   have:=ZfE its m []
   rw [List.nil_append] at this
   exact this
  rw [f0]
  cases its with
  | nil=>simp
  | cons a r'=>rw [if_neg (by simp)]
 refine wpAny_binaryOp_repeat_ref (T := "list") (U := "int") (by decide) ⟨_,e,rfl⟩ (fun s'=>typeIs_int s' k t) noFill_list_mul F.fills_int_mul F.slot_int_rmul repeat_list F.slot_int_index.lookup
  (call_meets F.slot_int_rmul (typeIs_int s k t) F.entry_int_rmul (F.args_int_rmul_2 _ _) (int___rmul___int_list k t l its.toArray n)
   ⟨e,rfl,⟨_,e,rfl⟩,call_meets F.slot_list_mul ⟨_,e,rfl⟩ F.entry_list_mul (F.args_list_mul_2 _ _) (AutoListH.list___mul___list_int_3 l its.toArray n k t hfit hcap hlong) ⟨e,?_⟩⟩)
 rw [hnew]
 exact ⟨.ref _,_,I.lnew (t':=s.toks) (r.rep k.toNat) (by rw [Zkg,Nat.mul_comm];exact hz),rfl,q _ I.fresh⟩
end
section
variable {prog:Program} {w:World} {A:Around} {E:Value→Shared→Prop} {s:Shared}
set_option maxRecDepth 100000 in
end
section
variable {X:Cx}
end
end L2
namespace Att
open PySem PySem.W PySem.Calls PyProof.Rows
theorem Zkh {P:Params} {h:Heap}:∀ (ns:List Int) (vs:List Value),WellAll P h vs (ns.map WData.int)→IntsAre vs ns:=by
 intro ns
 induction ns with
 | nil =>
  intro vs w
  rw [List.map_nil] at w
  cases w
  exact .nil
 | cons n ns ih =>
  intro vs w
  rw [List.map_cons] at w
  cases w with
  | cons a b =>
   cases a
   exact .cons _ _ (ih _ b)
theorem Zki {l:OpenLaw} {n:Nat} (hn:l.most=some n) {P:Params} {h:Heap} {args:List WData} {vals:List Value}
  (hpre:l.row.toRowW.claim.pre args=true) (hwl:WellAll P h vals args) :
  ∃ a vs ns,vals=[Value.ref a]∧args=[WData.list (ns.map WData.int)]∧h.get? a=some { cls:=.type "list",data:=.seq vs.toArray }∧IntsAre vs ns∧ns.length≤n:=by
 have hsh:WShape.hasAll [] args [.list .int]=true:=(pre_splitW hpre).1
 have hc:l.pre.holds [] { args:=args } = true:=(pre_splitW hpre).2
 obtain ⟨d,r,rfl,h1,h2⟩:=hasAllW_cons hsh
 obtain rfl:=hasAllW_nil h2
 obtain ⟨xs,rfl,h3⟩:=hasW_list h1
 obtain ⟨ns,rfl⟩:=items_int h3
 have hlen:ns.length≤n:=by
  unfold OpenLaw.pre at hc
  have h4:(WTm.not (.lt (.lit (.int (n:Int))) (.len (.arg 0)))).holds [] { args:=[.list (ns.map .int)] } = true:=by
   have h4:=(holds_andW hc).1
   rw [hn] at h4
   exact h4
  have h5:=condW_of h4 (w_not (w_lt w_lit (w_len_list (w_arg rfl))))
  rw [List.length_map] at h5
  refine Nat.le_of_not_lt fun q=>?_
  have q':(n:Int) < ((ns.length:Nat):Int):=by omega
  first
   | (rw [decide_eq_true q'] at h5;exact absurd h5 (by decide))
   | (simp at h5;omega)
 cases hwl with
 | cons w1 w2 =>
  cases w2
  cases w1 with
  | list ho hall=>exact ⟨_,_,ns,rfl,rfl,ho,Zkh ns _ hall,hlen⟩
theorem Zkj (l:OpenLaw) (args:List WData):l.row.toRowW.claim.post args (.bool true) args=true :=
 postW_of (r:=l.row.toRowW) (X:=(true == true))
  (show WShape.has [] (.bool true) .bool=true by first | rfl | decide | simp [WShape.has,WShape.arms,WShape.armsAll])
  (show (WTm.eq .res (.lit (.bool true))).value [] { args:=args,res:=some (.bool true),after:=args } = some (.bool (true == true)) from w_eq_bool (w_res rfl) w_lit) rfl
theorem attach_call {l:OpenLaw} {n:Nat} {q:Program} {loose:List Str} {XP:(Str→Option Value)→Heap→Prop} {YP:World→Heap→Prop} {d:DefRec}
  (hn:l.most=some n) (hdf:d.params.defaults=[])
  (call:∀ (w:World) (s₀ s₁:Shared) (mg mb:Str→Option Value) (fa:Addr) (o:Obj) (pm cd doc:Value) (a:Addr) (vs:List Value) (ns:List Int),
   Ground q loose [] XP w s₀ mg mb s₁.heap→YP w s₁.heap →
   s₁.heap.get? fa=some o→o.data=.func (docDef d.name d.params d.body d.scope pm cd doc)→s₁.heap.CodeRec cd d.name→mg d.name=some (.ref fa) →
   s₁.heap.get? a=some { cls:=.type "list",data:=.seq vs.toArray }→IntsAre vs ns→ns.length≤n→s₁.gens = #[] →
   codeAny (model l.prog w) callerA (.call (.ref fa) ⟨[.ref a],[]⟩) (fun r s'=>r=.ok (.ret (.bool true))∧OldK s₁.heap s'.heap∧s'.os=s₁.os∧AllBare s'.gens) s₁) :
  WalkO q loose XP YP l.row.toRowW d [] (fun f vs=>PySem.call f vs):=by
 intro w s₀ s₁ mg mb G Y fa o pm cd doc dV kV ho hd hcd hD hmg hg args vals as hpre hlay hrd hwl hlo
 obtain rfl:dV=.none:=Dflts.none hD hdf
 obtain rfl:kV=.none:=Dflts.noKw hD
 obtain ⟨a,vs,ns,rfl,rfl,hobj,hints,hlen⟩:=Zki hn hpre hwl
 refine enter_call (codeAny_mono (call w s₀ s₁ mg mb fa o pm cd doc a vs ns G Y ho (fd_plain hd) hcd hmg hobj hints hlen hg) fun r s' hq=>?_)
 obtain ⟨rfl,h2,h3,h4⟩:=hq
 exact ⟨.inl ⟨.bool true,.bool true,[],rfl,fun _=>rfl,.bool true,Zkj l _,fun _=>⟨List.Pairwise.nil,fun _ hm=>(nomatch hm)⟩⟩,h2,h3,h4⟩
section
variable {prog:Program} {w:World} {A:Around} {E:Value→Shared→Prop} {s:Shared} {K:Frag}
end
end Att
namespace L2
open PySem PySem.Spec PyProof.Rows
theorem ZfF:∀ {vs:List Value} {ns:List Int},IntsAre vs ns→Zy (ns.map V.int) vs
 | _,_,.nil=>.nil
 | _,_,.cons n t h=>.cons ⟨t,rfl⟩ (ZfF h)
end L2
namespace L2
open PySem PySem.Spec PyProof.Rows
abbrev KOf {K:PySem.W.Frag} {h:Heap} (_:K.In h):PySem.W.Frag:=K
end L2
namespace L2
open PySem PySem.Spec PyProof.Rows
def YF (s:Stmt) (j:Nat):Stmt:=match s with
 | .ClassDef _ _ _ body _ _ _ _ _ _ _=>body.getD j (.Pass ⟨0,0,0,0⟩)
 | _=>.Pass ⟨0,0,0,0⟩
def ZL (s:Stmt):Arguments:=match s with
 | .FunctionDef _ a _ _ _ _ _ _ _ _=>a
 | _=>{ posonlyargs:=[],args:=[],vararg:=none,kwonlyargs:=[],kw_defaults:=[],kwarg:=none,defaults:=[] }
def ZD (s:Stmt):List Stmt:=match s with
 | .FunctionDef _ _ b _ _ _ _ _ _ _=>b
 | _=>[]
def Zq (s:Stmt):Scope:=match s with
 | .FunctionDef _ _ _ _ _ _ sc _ _ _=>sc
 | _=>{ kind:=.function,names:=[],isGenerator:=false,isCoroutine:=false }
abbrev ZE:Wx:=fun _ _ _ _ _ _=>False
abbrev E0:XK:=fun _ _ _=>False
theorem Zr {X:Cx}:Vm ZE X E0:=fun _ _ _ _ _ _ _ h=>h.elim
structure ZN (K:PySem.W.Frag) (x qual:Str) (st:Stmt) (f:Addr) (fd:FuncData):Prop where
 ex:∃ (oc:Value) (od:Option Addr) (kV doc pm:Value) (an:Option Addr) (cdv ct:Value) (osl:Array (Option Value)),
  fd=PySem.W.fnOf x qual (ZL st) (ZD st) (Zq st) .none kV doc pm an cdv ct∧K.lookup f=some ⟨oc,od,.func fd,osl⟩∧PySem.W.codeIn K cdv qual=true
 kp:PySem.W.keepIn K (.ref f)=true
section
variable {P:Program} {w:World} {K:PySem.W.Frag} {mg:Str→Option Value} {base:Heap}
theorem ZN.ok {x qual:Str} {st:Stmt} {f:Addr} {fd:FuncData} {N ps:List Str} {k:Nat} {sp:Sp} (F:ZN K x qual st f fd) (S:ZM N ps (Zq st)) (len:∀ vs H Q E,sp vs H Q E→vs.length=ps.length)
  (hbody:∀ (cdv:Value) (A:Around) (outer:List Env) (s:Shared) (H:Hp) (vs:List V) (Q:VK) (E:XK),Yh k (A.deeper (envOfC qual (Zq st) s.heap.objs.size f cdv))→sp vs H Q E →
   ∃ t,X2 (Vb ZE P w K mg base N qual (Zq st) f cdv A outer s H E).nox (ZD st) t∧t { nx:=fun _ H'=>Q .non H',rt:=Q } (Wn N vs) H):ZF P w K mg base ZE (k+1) f fd ps sp:=by
 obtain ⟨oc,od,kV,doc,pm,an,cdv,ct,osl,rfl,lk,hcd⟩:=F.ex
 refine Zcd lk hcd S len fun A outer s H vs Q E hr hsp=>?_
 obtain ⟨t,h,q⟩:=hbody cdv A outer s H vs Q E hr hsp
 exact ⟨t,h.nox,q⟩
theorem ZN.binds {x qual:Str} {st:Stmt} {f:Addr} {fd:FuncData} {ps:List Str} (F:ZN K x qual st f fd)
  (h:∀ (kV doc pm:Value) (an:Option Addr) (cdv ct:Value) (us:List Value),us.length=ps.length→bindArgs (PySem.W.fnOf x qual (ZL st) (ZD st) (Zq st) .none kV doc pm an cdv ct) ⟨us,[]⟩=pure (ps.zip us)):ZG K fd ps []:=by
 obtain ⟨oc,od,kV,doc,pm,an,cdv,ct,osl,rfl,lk,hcd⟩:=F.ex
 exact .all (h kV doc pm an cdv ct)
theorem ZR {x qual:Str} {st:Stmt} {f:Addr} {oc:Value} {od an:Option Addr} {osl:Array (Option Value)} {kV doc pm cdv ct:Value} (l:K.lookup f=some ⟨oc,od,.func (PySem.W.fnOf x qual (ZL st) (ZD st) (Zq st) .none kV doc pm an cdv ct),osl⟩)
  (c:PySem.W.codeIn K cdv qual=true) (k:PySem.W.keepIn K (.ref f)=true):ZN K x qual st f (PySem.W.fnOf x qual (ZL st) (ZD st) (Zq st) .none kV doc pm an cdv ct):=⟨⟨oc,od,kV,doc,pm,an,cdv,ct,osl,rfl,l,c⟩,k⟩
end
theorem Z8 {A:Around} {k:Nat} (hr:Yh k A):A.units+1 < cLine:=Nat.lt_of_le_of_lt (Nat.add_le_add_left (by decide:1≤64) _) hr.units
section
variable {X:Cx}
theorem pv (i:Nat) {x:Str} {pos:Pos} (hN:X.N[i]? = some x:=by rfl) (hv:Vis X.env.scope x:=by first | exact Or.inl rfl | exact Or.inr (Or.inl rfl) | exact Or.inr (Or.inr rfl)) (hd:(x == ("__debug__" : Str))=false:=by decide)
  (hcd:(x == ("__classdict__" : Str))=false:=by decide):PE X (.Name x pos) (ZeY i):=ZiS hN hv hd hcd
end
theorem XO {c A B:Prop} [Decidable c] (h1:c→A) (h2:¬ c→B):if c then A else B:=by
 by_cases h:c
 ·rw [if_pos h]
  exact h1 h
 ·rw [if_neg h]
  exact h2 h
def Zk (H H':Hp):Prop:=∀ b o,H b=some o→H' b=some o
theorem Zk.refl (H:Hp):Zk H H:=fun _ _ h=>h
theorem Zk.trans {H H1 H2:Hp} (a:Zk H H1) (b:Zk H1 H2):Zk H H2:=fun c o h=>b c o (a c o h)
theorem Zk.free {H H':Hp} (e:Zk H H') {l:Addr} (h:H' l=Option.none):H l=Option.none:=by
 cases q:H l with
 | none=>rfl
 | some o =>
  rw [e l o q] at h
  cases h
theorem Zk.seq {K:PySem.W.Frag} {H H':Hp} {a:Addr} {xs:List V} (e:Zk H H') (h:Zg K H a xs):Zg K H' a xs:=by
 rcases h with (h | ⟨o,h⟩) | h
 ·exact .inl (.inl (e _ _ h))
 ·exact .inl (.inr ⟨o,e _ _ h⟩)
 ·exact .inr h
end L2
namespace L2
open PySem PySem.Spec PyProof.Rows
theorem Yc.has {P:Program} {w:World} {H:Hp} {h:Heap} {a:Addr} {o:HO} (x:Yc P w H h a o):∃ u,h.get? a=some u:=by
 cases o with
 | lst xs=>obtain ⟨_,_,_,_,q⟩:=x;exact ⟨_,q⟩
 | tup xs=>obtain ⟨_,_,_,ob,q,_⟩:=x;exact ⟨ob,q⟩
 | dK kvs=>obtain ⟨_,_,_,_,ob,_,_,q,_⟩:=x;exact ⟨ob,q⟩
 | dT kvs=>obtain ⟨_,_,_,_,ob,_,_,q,_⟩:=x;exact ⟨ob,q⟩
 | set S n=>obtain ⟨ob,_,_,_,q,_⟩:=x;exact ⟨ob,q⟩
 | ins C dx fs=>obtain ⟨_,_,_,q,_⟩:=x;exact ⟨_,q⟩
 | own y=>obtain ⟨ob,q⟩:=x;exact ⟨ob,q⟩
 | xd fs=>obtain ⟨_,⟨ob,_,_,q,_⟩,_⟩:=x;exact ⟨ob,q⟩
 | rng lo hi=>obtain ⟨_,_,_,q⟩:=x;exact ⟨_,q⟩
 | frz ob u=>obtain ⟨q,_⟩:=x;exact ⟨_,q⟩
 | tbl ps=>exact ⟨_,(show h.get? a=some _ from x)⟩
 | met f y=>exact ⟨_,(show h.get? a=some _ from x)⟩
 | ext φ=>obtain ⟨_,⟨ob,q⟩,_⟩:=x;exact ⟨ob,q⟩
section
variable {P:Program} {w:World} {K:PySem.W.Frag} {mg:Str→Option Value} {base:Heap} {N:List Str} {qual:Str} {scope:Scope} {f:Addr} {cd:Value} {A:Around} {outer:List Env} {s:Shared} {H:Hp} {E:XK}
theorem Zf.hasNo {X:Cx} {pins:List (Addr×Obj)} {σ:St} {H:Hp} {s:Shared} {a:Addr} (I:Zf X pins σ H s) (e:s.heap.get? a=none):H a=none:=by
 cases q:H a with
 | none=>rfl
 | some u =>
  obtain ⟨o,z⟩:=(I.hok a u q).has
  rw [e] at z;cases z
end
structure ExC (K:PySem.W.Frag) (C:Addr):Prop where
 ex:PySem.W.excIn K C [.type "ValueError",.type "Exception",.type "BaseException",.type "object"] "ValueError.__new__" = true
section
variable {X:Cx} {E:XK} {x:Str} {C:Addr} {e:Expr} {es:List Expr} {t:TA} {np cpos pos:Pos}
end
section
variable {X:Cx} {pins pins':List (Addr×Obj)} {σ:St} {H:Hp} {s:Shared} {Kx:Value→Hp→Prop} {a:Addr}
end
section
variable {X:Cx} {body suite:List Stmt} {b₀:Stmt} {n x:Str} {i:Nat} {R:Addr} {np hpos pos:Pos} {tb:(Value→Hp→Prop)→TS} {th:TS}
end
end L2
namespace L2
open PySem PySem.Spec PyProof.Rows
section
variable {X:Cx}
def Zkk:V→Option Int→Option Int→Hp→VK→Prop:=fun x lo hi H Q=>∃ z,x=.str z∧z.length≤sizeLine∧Q (.str (Txt.slice z lo hi)) H
theorem ZfG {v:Value} {o:Option Int} (p:IsPart v o):∃ l:Option (Int×Tok),v=partValue l∧l.map (·.1)=o:=by
 cases p with
 | none=>exact ⟨none,rfl,rfl⟩
 | int i t=>exact ⟨some (i,t),rfl,rfl⟩
theorem Zcj:SlR X Zkk:=by
 intro pins s σ H x v vl vu lo hi sl Q I rx hs pl pu h
 obtain ⟨z,rfl,hz,q⟩:=h
 obtain ⟨t,rfl⟩:=rx
 obtain ⟨l,rfl,rfl⟩:=ZfG pl
 obtain ⟨u,rfl,rfl⟩:=ZfG pu
 refine ⟨"str",_,PySem.F.slot_str_getitem.lookup,typeIs_str s z t,wpAny_getItem_str_slice (l:=l) (u:=u) (st:=none) hs rfl ?_⟩
 exact post_val_or_str ⟨Nat.le_trans (Txt.slice_le z _ _) hz,fun t' k=>⟨.str _,H,I.tok _,⟨_,rfl⟩,q⟩⟩
def eqL:List V→List V→Bool
 | [],[]=>true
 | x::xs,y::ys=>Wy x y && eqL xs ys
 | _,_=>false
theorem ZfH:∀ (xs ys:List V),xs.length=ys.length→(List.range xs.length).all (fun j=>Wy (xs.getD j .non) (ys.getD j .non))=eqL xs ys
 | [],[],_=>rfl
 | [],_::_,h=>nomatch h
 | _::_,[],h=>nomatch h
 | x::xs,y::ys,h=>by
  have ih:=ZfH xs ys (by simpa using h)
  rw [List.length_cons,List.range_succ_eq_map,List.all_cons,List.all_map]
  show (Wy x y && _)=(Wy x y && eqL xs ys)
  rw [← ih]
  rfl
theorem ZfI:∀ bs:List Bool,(List.range bs.length).all (fun i=>bs.getD i false)=bs.all id
 | []=>rfl
 | b::bs=>by
  rw [List.length_cons,List.range_succ_eq_map,List.all_cons,List.all_map,List.all_cons]
  show (b && _)=(b && _)
  rw [← ZfI bs]
  rfl
theorem ZfJ (hc:X.calm=true):Xq X (.builtin "all") (fun xs H Q=>∃ (p:Addr) (bs:List Bool),xs=[.ref p]∧Zg X.K H p (bs.map V.bl)∧Q (.bl (bs.all id)) H):=by
 intro pins s σ H xs us Q I r h
 obtain ⟨p,bs,rfl,hq,q⟩:=h
 obtain ⟨u,rfl,rx⟩:=Ww r
 cases rx
 obtain ⟨its,r',pl,hz⟩:=I.list hq
 have hlen:=r'.length
 obtain ⟨o,n,ho,_⟩:=id pl
 have hne:p≠s.heap.objs.size:=Nat.ne_of_lt (Heap.lt_size ho)
 have tr:TruthOf X.prog X.w X.A.in1 (fun i v=>its.toArray[i]? = some v) (fun i=>bs.getD i false):=by
  intro i v s2 Q2 E2 hv hq2
  have hv':its[i]? = some v:=by simpa using hv
  have hi:i < bs.length:=by
   have:=(List.getElem?_eq_some_iff.mp hv').1
   rw [← hlen,List.length_map] at this;exact this
  obtain ⟨w,e1,e2⟩:=r'.get (i:=i) (x:=.bl bs[i]) (by rw [List.getElem?_map,List.getElem?_eq_getElem hi];rfl)
  rw [hv'] at e1
  cases e1
  cases e2
  refine wpAny_truthy_bool ?_
  have e3:bs.getD i false=bs[i]:=by rw [List.getD_eq_getElem?_getD,List.getElem?_eq_getElem hi];rfl
  have q3:Q2 (bs.getD i false) s2:=hq2
  rw [e3] at q3
  exact q3
 refine call_all_walk (wpAny_pyIter_list pl.isList ?_)
 refine ⟨s.heap.objs.size,[s.heap.objs.size,p],[s.heap.objs.size],its.toArray.size,_,_,_,rfl,Walks.list (A:=X.A.in1) (I.ok.hd hc) _ _ hne its.toArray,⟨⟨_,Heap.get?_push_size _ rfl,rfl,rfl⟩,?_⟩,tr,fun h' tk hk=>?_⟩
 ·obtain ⟨o2,e2,r2⟩:=pl.isList
  exact ⟨o2,Heap.get?_push_of_some _ e2,r2⟩
 ·have hk2:∀ b o,s.heap.get? b=some o→h'.get? b=some o:=fun b o e=>hk b o (fun z=>by
   have e1:=Heap.lt_size e
   rw [List.mem_singleton.mp z] at e1
   exact absurd e1 (Nat.lt_irrefl _)) (Heap.get?_push_of_some _ e)
  have e:(List.range its.toArray.size).all (fun i=>bs.getD i false)=bs.all id:=by
   rw [List.size_toArray,← hlen,List.length_map];exact ZfI bs
  rw [e]
  exact ⟨.bl _,H,I.kept (t':=tk) hk2,rfl,q⟩
end
theorem Zf.laidN {X:Cx} {pins:List (Addr×Obj)} {σ:St} {H:Hp} {s:Shared} {h':Heap} {a:Addr} {o:HO} {t':Nat} (I:Zf X pins σ H s) (k:∀ b u,s.heap.get? b=some u→h'.get? b=some u) (hn:s.heap.get? a=none)
  (new:Yc X.prog X.w (Zd H a o) h' a o):Zf X pins σ (Zd H a o) { s with heap:=h',toks:=t' }:=by
 have ha:H a=none:=I.hasNo hn
 have nt:∀ b u,H b=some u→b≠a:=fun b u q=>Yp q ha
 refine I.un ⟨fun b u q _ _ _=>k b u q,fun b u q _ _ _=>⟨u.slots,k b u q⟩,fun b u q n _=>?_,fun b u q _=>⟨u,k b u q⟩,fun b xs q=>?_,fun b u xs q=>?_,fun b ps q=>⟨#[],?_⟩⟩ fun b u q=>?_
 ·have ne:b≠a:=fun z=>by rw [z,hn] at q;cases q
  rw [Zl ne];exact n
 ·rw [Zl (nt _ _ q)];exact q
 ·rw [Zl (nt _ _ q)];exact q
 ·rw [Zl (nt _ _ q),q];simp
 ·by_cases hb:b=a
  ·subst hb;rw [Zh] at q;cases q;exact new
  ·rw [Zl hb] at q
   exact (I.hok b u q).stay (fun c v _ z=>k c v z) (fun c z=>by rw [Zl (nt _ _ z)];exact z) fun c xs z=>by rw [Zl (nt _ _ z)];exact z
def VS (z:Str) (c:Nat):Bool:=!(Builtin.Str.occurrences z ⟨#[c]⟩ 0 z.length 1).isEmpty
theorem ZfK {g:Nat→Bool}:∀ (cs:List Nat) (vs rs:List Value),vs.length=cs.length→(∀ (j:Nat) (v:Value),vs[j]? = some v→∃ c u,cs[j]? = some c∧v=.str ⟨#[c]⟩ u) →
  Paired (fun v r=>∀ c u,v=.str ⟨#[c]⟩ u→r=.bool (g c)) vs rs→Zy (cs.map fun c=>V.bl (g c)) rs
 | [],[],_,_,_,.nil=>.nil
 | [],_::_,_,h,_,_=>nomatch h
 | _::_,[],_,h,_,_=>nomatch h
 | c::cs,v::vs,_,h,hg,.cons r t=>by
  obtain ⟨c',u,e1,e2⟩:=hg 0 v rfl
  have e3:c=c':=by simpa using e1
  subst e3
  exact .cons (r c u e2) (ZfK cs vs _ (by simpa using h) (fun j w hw=>by simpa using hg (j+1) w (by simpa using hw)) t)
section
variable {X:Cx} {x z:Str} {p1 p2 p3 px pos:Pos} {iter:Expr} {ti:TE} {scope:Scope} {cl:List (Str×Addr)} {zs:Str}
def ZfL (X:Cx) (scope:Scope) (cl:List (Str×Addr)) (z:Str) (p2:Pos) (zs:Str) (σ:St):Prop :=
 ∀ (pins:List (Addr×Obj)) (H:Hp) (s1 s3:Shared) (C:Addr) (Q:Value→Shared→Prop) (E:Value→Shared→Prop),Zf X pins σ H s1→(∀ b o,s1.heap.get? b=some o→s3.heap.get? b=some o)→(∀ t,Q (.str zs t) s3) →
  wpAny (model X.prog X.w) X.A (eval (.Name z p2) (compEnvC scope cl C X.env)) Q E s3
def Zkl (X:Cx) (scope:Scope) (cl:List (Str×Addr)) (z:Str) (p2:Pos) (ti:TE):TE:=fun σ H Q=>∃ zs,ZfL X scope cl z p2 zs σ∧ti σ H fun v H1=>∃ y,v=.str y∧y.length≤sizeLine ∧
 ∀ p,H1 p=none→Q (.ref p) (Zd H1 p (.lst (y.cps.toList.map fun c=>V.bl (VS zs c))))
theorem Zkm (hc:X.calm=true) (hi:PE X iter ti) (hclos:closureFor scope X.env=pure cl) (hcell:∀ y∈scope.names,y.2≠.cell) (hkind:scope.kind=.function)
  (hnames:∀ y∈scope.names,y.2=.local→scope.names.lookup y.1=some .local) (hx:scope.names.lookup x=some .local) (hs:∀ v,foldedSetIterable iter X.env v=pure v:=by intro _;rfl) (hd:(x == ("__debug__" : Str))=false:=by decide) :
  PE X (.ListComp (.Compare (.Name x p1) [.In] [.Name z p2] p3) [⟨.Name x px,iter,[],0⟩] scope pos) (Zkl X scope cl z p2 ti):=by
 intro pins s σ H Q I h
 obtain ⟨zs,zr,h⟩:=h
 refine wpAny_ListComp_free (cl:=cl) (fun _=>true) (fun v r=>∀ c u,v=.str ⟨#[c]⟩ u→r=.bool (VS zs c)) hclos hcell hkind hnames hx (Zv (hi pins s σ H _ I h) fun xv s1 ⟨v,H1,I1,r1,y,ev,hy,q⟩=>?_) hs
 subst ev
 obtain ⟨t,rfl⟩:=r1
 refine wpAny_pyIter_str fun o St W hst=>?_
 have old:∀ (h':Heap),(∀ b o',b∉[s1.heap.objs.size]→(s1.heap.push o).get? b=some o'→h'.get? b=some o')→∀ b o',s1.heap.get? b=some o'→h'.get? b=some o':=fun h' hk b o' e =>
  hk b o' (fun z=>by
   have e1:=Heap.lt_size e
   rw [List.mem_singleton.mp z] at e1
   exact absurd e1 (Nat.lt_irrefl _)) (Heap.get?_push_of_some _ e)
 refine ⟨s1.heap.objs.size,[s1.heap.objs.size],[s1.heap.objs.size],y.cps.size,SignAt y,St,rfl,W X.A (I1.ok.hd hc),hy,hst,fun b hb=>?_,⟨?_,?_⟩,?_⟩
 ·rw [List.mem_singleton.mp hb]
  show s1.heap.objs.size < (s1.heap.push o).objs.size
  rw [Heap.size_push];exact Nat.lt_succ_self _
 ·intro C i v s3 m3 E' _ hP hn hm hk _
  exact wpAny_pure ⟨rfl,s3.heap,s3.toks,rfl,fun _ _ e=>e⟩
 ·intro C i v s3 m3 E' _ hP _ hn hm hk _
  obtain ⟨c,u,_,rfl⟩:=hP
  refine wpAny_Compare1 (wpAny_Name (wpAny_loadName_local (env:=compEnvC scope cl C X.env) (m:=m3) hkind (lookup_relabel_local hx) hn hm ?_) hd)
  refine zr pins H1 s1 s3 C _ _ I1 (old _ hk) fun t3=>?_
  refine in_str ⟨fun c' u' e=>?_,s3.heap,s3.toks,rfl,fun _ _ e=>e⟩
  injection e with e1 _
  injection e1 with e2
  have e3:c=c':=by simpa using e2
  subst e3
  rfl
 ·intro D h' tk ys vs hnew hl hpl hlen hP hF hk
  have hn1:s1.heap.get? D=none:=by
   cases e:s1.heap.get? D with
   | none=>rfl
   | some u =>
    have:=Heap.get?_push_of_some o e
    rw [show (s1.heap.push o).get? D=none from hnew] at this
    cases this
  obtain ⟨n,hD⟩:=hpl
  have hfil:vs.filter (fun _=>true)=vs:=List.filter_eq_self.mpr fun _ _=>rfl
  rw [hfil] at hF
  have V1:Zy (y.cps.toList.map fun c=>V.bl (VS zs c)) ys.toList:=ZfK y.cps.toList vs ys.toList (by rw [hlen];simp) (fun j v hv=>by
   obtain ⟨c,u,e1,e2⟩:=hP j v hv
   exact ⟨c,u,by simpa using e1,e2⟩) hF
  have new:Yc X.prog X.w (Zd H1 D (.lst (y.cps.toList.map fun c=>V.bl (VS zs c)))) h' D (.lst (y.cps.toList.map fun c=>V.bl (VS zs c))):=by
   refine ⟨?_,ys.toList,n,V1,?_⟩
   ·rw [List.length_map]
    have:y.cps.toList.length=y.length:=by simp [Str.length]
    omega
   ·rw [Array.toArray_toList];exact hD
  exact ⟨.ref D,_,I1.laidN (t':=tk) (old h' hk) hn1 new,rfl,q D (I1.hasNo hn1)⟩
theorem Zkn {σ:St} {t:Tok} (hg:(relabel scope X.env).names.lookup z=some .globalImplicit) (hkind:scope.kind=.function) (hm:X.mg z=some (.str zs t)) (hd:(z == ("__debug__" : Str))=false:=by decide):ZfL X scope cl z p2 zs σ:=by
 intro pins H s1 s3 C Q E I k q
 exact Calls.Name_function_global (env:=compEnvC scope cl C X.env) hkind hg (Calls.loadGlobal_global (env:=compEnvC scope cl C X.env) (by
  show s3.heap.Ns X.env.globals X.mg
  rw [I.ok.glob];exact (I.mod.glob.keeps I.bk).keeps k) hm (q t)) hd
end
section
variable {X:Cx}
theorem WP:Xq X (.builtin "isinstance") (fun xs H Q=>∃ x T t b,xs=[x,.ty T]∧XN X.K H x t∧PySem.W.kitOne X.K t (.type T)=some b∧Q (.bl b) H):=by
 intro pins s σ H xs us Q I r h
 obtain ⟨x,T,t,b,rfl,ty,e,q⟩:=h
 obtain ⟨u,w',rfl,rx,ry⟩:=Zbg r
 cases (show w'=Value.type T from ry)
 exact Zfh I rx ty e fun tk=>⟨.bl b,H,I.tok _,rfl,q⟩
theorem Zck:Xq X (.builtin "isinstance") (fun xs H Q=>∃ x C t b,xs=[x,.ref C]∧XN X.K H x t∧PySem.W.kitOne X.K t (.ref C)=some b∧Q (.bl b) H):=by
 intro pins s σ H xs us Q I r h
 obtain ⟨x,C,t,b,rfl,ty,e,q⟩:=h
 obtain ⟨u,w',rfl,rx,ry⟩:=Zbg r
 cases (show w'=Value.ref C from ry)
 exact Zfh I rx ty e fun tk=>⟨.bl b,H,I.tok _,rfl,q⟩
end
section
variable {X:Cx} {x:Str} {pos:Pos}
theorem Zcl {a:Addr} (hg:Gl X x) (hm:X.mg x=some (.ref a)) (hd:(x == ("__debug__" : Str))=false:=by decide):PE X (.Name x pos) (tC (.ref a)):=ZeZ hg hm rfl hd
theorem WQ {T:String} (hg:Gl X x) (hm:X.mg x=none) (hv:bootBuiltins x=some (.type T)) (hn:x ≠ "__name__" := by decide) (hd:(x == ("__debug__" : Str))=false:=by decide):PE X (.Name x pos) (tC (.ty T)):=ZiT hg hm hv rfl hn hd
end
end L2
namespace L2
open PySem PySem.Spec PyProof.Rows PySem.W PySem.Calls Builtin Builtin.ObjectAttr Builtin.Getset_descriptor
section
variable {prog:Program} {w:World} {A:Around} {E:Value→Shared→Prop} {s:Shared} {K:PySem.W.Frag} {a C:Addr} {o:Obj} {R:Result→Shared→Prop}
structure ExI (K:PySem.W.Frag) (C:Addr):Prop where
 cl:(PySem.W.clsIn K C).isSome=true
 g1:PySem.W.findIn K (.ref C) "__getattribute__" = some (some (.builtin "BaseException.__getattribute__"))
 g2:PySem.W.findIn K (.ref C) "__getattr__" = some none
 g3:PySem.W.findIn K (.ref C) "__class__" = some (some (.builtin "object.__class__"))
 g4:PySem.W.mroIn K C (.type "object")=some true
 g5:PySem.W.mroIn K C (.type "BaseException")=some true
 g6:PySem.W.specialIn K (.builtin "object.__class__") "__get__" = some (some (.builtin "getset_descriptor.__get__"))
 g7:PySem.W.takesIn K (.builtin "object.__class__")=some true
end
end L2
namespace L2
open PySem PySem.Spec PyProof.Rows
theorem WR {α:Type} {t:Sem α} {Q Q':α→Shared→Prop} {M:Model} {A:Around} {E:Value→Shared→Prop} {s:Shared} (h:wpAny M A t Q (fun _ _=>False) s) (hQ:∀ a s,Q a s→Q' a s):wpAny M A t Q' E s:=wpAny_mono h hQ fun _ _ z=>z.elim
abbrev ZfM (ifs:List Expr) (env:Env):Sem Bool:=forIn ifs true fun c r=>if r=true then do let ok ← isTrue c env (eval c env);pure (ForInStep.yield ok) else pure (ForInStep.yield r)
theorem Zko {prog:Program} {w:World} {A:Around} {R:Result→Shared→Prop} {s:Shared} {elt tg iter:Expr} {ifs:List Expr} {scope:Scope} {pos:Pos} {it acc:Value} {env:Env} (J:Nat→Shared→Prop)
  (turn:∀ k s1,J k s1→wpAny (model prog w) A (pyNext it) (fun r s2=>match r with
   | none=>R (.ok .next) s2
   | some v=>wpAny (model prog w) A (letOwnedTupleGo tg it v) (fun _ s3=>wpAny (model prog w) A (assign tg env v) (fun _ s4=>wpAny (model prog w) A (ZfM ifs env) (fun ok s5 =>
     if ok=true then wpAny (model prog w) A (eval elt env) (fun x s6=>wpAny (model prog w) A (call (.builtin "list.append") [acc,x]) (fun _ s7=>∃ m,m < k∧J m s7) (fun _ _=>False) s6) (fun _ _=>False) s5
     else ∃ m,m < k∧J m s5) (fun _ _=>False) s4) (fun _ _=>False) s3) (fun _ _=>False) s2) (fun _ _=>False) s1)
  (k:Nat) (h:J k s):codeAny (model prog w) A (.compLoop (.ListComp elt [⟨tg,iter,ifs,0⟩] scope pos) 0 it acc env) R s:=by
 refine codeAny_loop rfl J (fun k s1 hJ=>?_) k h
 refine wpAny_noted ?_
 rw [compTurn_list]
 refine wpAny_bind (wpAny_standAt (wpAny_bind (WR (turn k s1 hJ) fun r s2 h2=>?_)))
 cases r with
 | none=>exact wpAny_pure h2
 | some v =>
  refine wpAny_bind (WR h2 fun _ s3 h3=>wpAny_bind (WR h3 fun _ s4 h4=>wpAny_bind (WR h4 fun ok s5 h5=>?_)))
  cases ok with
  | false=>exact wpAny_pure ⟨rfl,h5⟩
  | true=>exact wpAny_bind (wpAny_bind (WR h5 fun x s6 h6=>wpAny_bind (WR h6 fun _ s7 h7=>wpAny_pure (wpAny_pure ⟨rfl,h7⟩))))
abbrev Wz (X:Cx) (N:List Str) (scope:Scope) (cl:List (Str×Addr)) (C:Addr) (s0:Shared) (H0:Hp) (ex:List Addr) (pins:List (Addr×Obj)):Cx :=
 { X with N:=N,s₀:=s0,H₀:=H0,env:=compEnvC scope cl C X.env,outer:=X.stack,stack:=X.stack,ex:=ex,fn:=fun _=>false,pn:=X.pn++pins,xe:=fun _ _=>False }
def WT (X:Cx) (scope:Scope) (cl:List (Str×Addr)):List Str→List (Option Nat)→Prop
 | [],[]=>True
 | _::N,none::fr=>WT X scope cl N fr
 | y::N,some i::fr=>(X.N[i]? = some y∧(X.env.kindOf y=some .cell∨X.env.kindOf y=some .free)∧((relabel scope X.env).names.lookup y=some .cell∨(relabel scope X.env).names.lookup y=some .free) ∧
   ∃ c,X.env.cells.lookup y=some c∧cl.lookup y=some c)∧WT X scope cl N fr
 | _,_=>False
def Qd (fr:List (Option Nat)) (σ:St):St:=fr.map fun o=>match o with | none=>none | some i=>(σ[i]?).getD none
theorem WT.len {X:Cx} {scope:Scope} {cl:List (Str×Addr)}:∀ {N:List Str} {fr:List (Option Nat)},WT X scope cl N fr→fr.length=N.length
 | [],[],_=>rfl
 | _::N,none::fr,h=>by rw [List.length_cons,List.length_cons,WT.len (N:=N) h]
 | _::N,some i::fr,h=>by rw [List.length_cons,List.length_cons,WT.len (N:=N) h.2]
 | [],_::_,h=>h.elim
 | _::_,[],h=>h.elim
theorem WT.at {X:Cx} {scope:Scope} {cl:List (Str×Addr)} {σ:St} {v:V} {y:Str}:∀ {N:List Str} {fr:List (Option Nat)} {j:Nat},WT X scope cl N fr→N[j]? = some y→(Qd fr σ)[j]? = some (some v) →
  ∃ i:Nat,σ[i]? = some (some v)∧X.N[i]? = some y∧(X.env.kindOf y=some .cell∨X.env.kindOf y=some .free)∧((relabel scope X.env).names.lookup y=some .cell∨(relabel scope X.env).names.lookup y=some .free) ∧
   ∃ c,X.env.cells.lookup y=some c∧cl.lookup y=some c
 | [],[],j,_,e,_=>by simp at e
 | [],_::_,_,h,_,_=>h.elim
 | _::_,[],_,h,_,_=>h.elim
 | _::N,none::fr,0,_,_,q=>by cases q
 | _::N,none::fr,j+1,h,e,q=>WT.at (N:=N) (fr:=fr) (j:=j) h e q
 | x::N,some i::fr,0,h,e,q=>by
  have e':x=y:=Option.some.inj e
  subst e'
  have q':some ((σ[i]?).getD none)=some (some v):=q
  refine ⟨i,?_,h.1⟩
  cases z:σ[i]? with
  | none=>rw [z] at q';cases q'
  | some o=>rw [z] at q';exact congrArg some (Option.some.inj q')
 | _::N,some i::fr,j+1,h,e,q=>WT.at (N:=N) (fr:=fr) (j:=j) h.2 e q
def Qe (X:Cx):List (Str×Addr)→Prop
 | []=>True
 | (y,c)::r=>X.env.cells.lookup y=some c∧Qe X r
theorem Qe.at {X:Cx} {y:Str} {c:Addr}:∀ {cl:List (Str×Addr)},Qe X cl→cl.lookup y=some c→X.env.cells.lookup y=some c
 | [],_,e=>by cases e
 | (z,d)::r,h,e=>by
  rw [List.lookup_cons] at e
  cases q:y == z with
  | true =>
   rw [q] at e
   have e1:y=z:=by simpa using q
   have e2:d=c:=Option.some.inj e
   subst e1 e2
   exact h.1
  | false =>
   rw [q] at e
   exact Qe.at h.2 e
theorem ZfN {α:Type} {p:Str×α→Bool} {y:Str} {k:α}:∀ {l:List (Str×α)},l.all p=true→l.lookup y=some k→p (y,k)=true
 | [],_,e=>by cases e
 | (z,d)::r,h,e=>by
  rw [List.all_cons,Bool.and_eq_true] at h
  rw [List.lookup_cons] at e
  cases q:y == z with
  | true =>
   rw [q] at e
   have e1:y=z:=by simpa using q
   have e2:d=k:=Option.some.inj e
   subst e1 e2
   exact h.1
  | false =>
   rw [q] at e
   exact ZfN h.2 e
section
variable {X:Cx} {pins:List (Addr×Obj)} {σ:St} {H:Hp} {s:Shared} {N:List Str} {fr:List (Option Nat)} {scope:Scope} {cl:List (Str×Addr)}
theorem Zf.block {ex:List Addr} {h':Heap} {C:Addr} {m:Str→Option Value} {tk:Nat} (I:Zf X pins σ H s) (hkind:scope.kind=.function) (hfr:WT X scope cl N fr) (hcl:Qe X cl)
  (hhas:((relabel scope X.env).names.all fun p=>!(p.2 == .cell || p.2 == .free) || (cl.lookup p.1).isSome)=true) (hex:∀ b∈ex,YO X pins H b) (hlt:∀ b∈ex,b < s.heap.objs.size)
  (old:∀ b o,s.heap.get? b=some o→h'.get? b=some o) (hC:s.heap.objs.size≤C) (hns:h'.Ns C m):Zf (Wz X N scope cl C s H ex pins) [] (Qd fr σ) H { s with heap:=h',toks:=tk }:=by
 have nst:∀ b,b≠X.env.locals→b∉X.fs→b∉Wb X.stack:=fun b h1 h2 z=>(List.mem_cons.mp (I.stkSub b z)).elim h1 h2
 have ltC:∀ b o,s.heap.get? b=some o→b≠C:=fun b o e=>Nat.ne_of_lt (Nat.lt_of_lt_of_le (Heap.lt_size e) hC)
 refine ⟨⟨I.ok.mod,hkind,I.ok.glob,I.ok.blt,hC,fun x y c e1 e2=>I.ok.inj x y c (hcl.at e1) (hcl.at e2),fun x hx=>?_,(fun _ _ z=>nomatch z),I.ok.hd,I.ok.frames,.inl rfl,fun b hb=>⟨Nat.ne_of_lt (Nat.lt_of_lt_of_le (hlt b hb) hC),fun x c e=>(hex b hb).2.2.2.2.1 x c (hcl.at e)⟩,
   I.bs,Nat.le_trans I.ok.bsz I.sz,fun b o e hb=>?_,fun b hb=>nst b (hex b hb).2.1 (hex b hb).2.2.1,I.stack,I.stkFree⟩,rfl,I.bare,Un.kept old,⟨m,hns,fun i x v e1 e2 e3=>?_⟩,fun x c e=>?_,?_,fun x c e=>I.freeC x c (hcl.at e),fun p hp=>?_,I.hok.kept old,?_⟩
 ·have q:∃ k,(relabel scope X.env).names.lookup x=some k∧(k=.cell∨k=.free):=hx.elim (fun z=>⟨_,z,.inl rfl⟩) fun z=>⟨_,z,.inr rfl⟩
  obtain ⟨k,q1,q2⟩:=q
  have z:=ZfN hhas q1
  have z2:(cl.lookup x).isSome=true:=by
   rcases q2 with rfl | rfl
   ·simpa using z
   ·simpa using z
  exact Option.isSome_iff_exists.mp z2
 ·rcases (hex b hb).2.2.2.1 with z | z
  ·exact I.ok.noex b o e z
  ·exact absurd (Nat.lt_of_lt_of_le (Nat.lt_of_lt_of_le (Heap.lt_size e) I.ok.bsz) z) (Nat.lt_irrefl _)
 ·obtain ⟨j,q1,q2,q3,q4,c,q5,q6⟩:=hfr.at e1 e2
  obtain ⟨m0,hn0,hl0⟩:=I.loc
  obtain ⟨u,r,l⟩:=hl0 j x v q2 q1 (q3.elim (fun z=>.inr (.inl z)) fun z=>.inr (.inr z))
  refine ⟨u,r,.inr ⟨q4,c,q6,?_⟩⟩
  rcases l with ⟨k,_⟩ | ⟨_,c',e',o,ho,hd⟩
  ·rcases q3 with z | z
   ·rw [z] at k;cases k
   ·rw [z] at k;cases k
  ·rw [q5] at e';cases e'
   exact ⟨o,old _ _ ho,hd⟩
 ·obtain ⟨v,o,ho,hd⟩:=I.cell x c (hcl.at e)
  exact ⟨v,o,old _ _ ho,hd⟩
 ·exact I.hok.fresh hC
 ·have hp':p∈X.pn++pins:=by simpa using hp
  obtain ⟨e,n,ne,nf,d⟩:=I.pin p hp'
  exact ⟨old _ _ e,n,ltC _ _ e,nst _ ne nf,d⟩
 ·show (Qd fr σ).length=N.length
  unfold Qd
  rw [List.length_map,hfr.len]
theorem Zf.trackS {a:Addr} {ob:Obj} {vs:Array Value} {n:Nat} {o:HO} (I:Zf X pins σ H s) (ha:H a=none) (hob:s.heap.get? a=some ob) (hd:ob.data=.seq vs n)
  (h0:X.s₀.heap.get? a=none) (hp:∀ p∈X.pn++pins,p.1≠a) (new:Yc X.prog X.w (Zd H a o) s.heap a o):Zf X pins σ (Zd H a o) s:=by
 have nt:∀ b u,H b=some u→b≠a:=fun b u q=>Yp q ha
 refine ⟨I.ok,I.os,I.bare,⟨I.base.keep,I.base.slot,fun b u e n hx=>?_,I.base.there,fun b xs q=>?_,fun b u xs q=>?_,fun b ps q=>?_⟩,I.loc,I.cell,?_,fun y c e=>?_,fun p q=>?_,fun b u q=>?_,I.len⟩
 ·have ne:b≠a:=fun z=>by rw [z,h0] at e;cases e
  rw [Zl ne];exact I.base.free b u e n hx
 ·have z:=I.base.tups b xs q
  rw [Zl (nt _ _ z)];exact z
 ·have z:=I.base.frzs b u xs q
  rw [Zl (nt _ _ z)];exact z
 ·obtain ⟨m,z⟩:=I.base.tbls b ps q
  exact ⟨m,by rw [Zl (nt _ _ z)];exact z⟩
 ·have ne:X.env.locals≠a:=fun z=>by
   obtain ⟨m,⟨oL,es,ep,e1,e2,_⟩,_⟩:=I.loc
   rw [z,hob] at e1;cases e1
   rw [hd] at e2;cases e2
  rw [Zl ne];exact I.free
 ·have ne:c≠a:=fun z=>by
   obtain ⟨v,oc,e1,e2⟩:=I.cell y c e
   rw [z,hob] at e1;cases e1
   rw [hd] at e2;cases e2
  rw [Zl ne];exact I.freeC y c e
 ·obtain ⟨e,n,r⟩:=I.pin p q
  exact ⟨e,by rw [Zl (hp p q)];exact n,r⟩
 ·by_cases hb:b=a
  ·subst hb;rw [Zh] at q;cases q;exact new
  ·rw [Zl hb] at q
   exact (I.hok b u q).stay (fun c v _ z=>z) (fun c z=>by rw [Zl (nt _ _ z)];exact z) fun c xs z=>by rw [Zl (nt _ _ z)];exact z
end
def PTs (X:Cx) (ifs:List Expr) (t:TT):Prop :=
 ∀ (pins:List (Addr×Obj)) (s:Shared) (σ:St) (H:Hp) (Q:Bool→Hp→Prop),Zf X pins σ H s→t σ H Q→wpAny (model X.prog X.w) X.A (ZfM ifs X.env) (TP X pins σ Q) X.xe s
def VT:TT:=fun _ H Q=>Q true H
theorem Ug {X:Cx}:PTs X [] VT:=fun _ _ _ H _ I h=>wpAny_tests_nil ⟨H,I,h⟩
theorem ZfO {X:Cx} {c:Expr} {t:TT} (h:PT X c t):PTs X [c] t:=fun pins s σ H Q I q=>wpAny_tests_one (h pins s σ H Q I q)
def Vd (Q:VK) (acc:List V) (H:Hp):Prop:=∀ p,H p=none→Q (.ref p) (Zd H p (.lst acc))
def Zkp (fr:List (Option Nat)) (wi:TI) (g:TG) (tt:TT) (te:TE):TE:=fun σ H Q=>wi σ H fun J H1=>∃ W:Nat→Nat→List V→St→Hp→Prop,(∃ m,W 0 m [] (Qd fr σ) H1)∧∀ i m acc σ1 H,W i m acc σ1 H →
 (J.stop i H∧Vd Q acc H) ∨
 (J.go i H∧acc.length < sizeLine∧∃ N:List V→St→Hp→Prop,(∀ acc' σ' H',N acc' σ' H'→∃ m',m' < m∧W (i+1) m' acc' σ' H')∧∀ x H',J.yld i H x H'→g x σ1 H' fun σ2 H2=>tt σ2 H2 fun b H3=>if b=true then te σ2 H3 fun y H4=>N (acc++[y]) σ2 H4 else N acc σ2 H3)
theorem Vr {X:Cx} {elt tg iter:Expr} {ifs:List Expr} {scope:Scope} {cl:List (Str×Addr)} {pos:Pos} {N:List Str} {fr:List (Option Nat)} {wi:TI} {g:TG} {tt:TT} {te:TE}
  (hc:X.calm=true) (hi:PI X tg iter wi) (hclos:closureFor scope X.env=pure cl) (hcell:∀ y∈scope.names,y.2≠.cell) (hkind:scope.kind=.function)
  (hnames:∀ y∈scope.names,y.2=.local→scope.names.lookup y.1=some .local) (hfr:WT X scope cl N fr) (hcl:Qe X cl)
  (hhas:((relabel scope X.env).names.all fun p=>!(p.2 == .cell || p.2 == .free) || (cl.lookup p.1).isSome)=true)
  (hg:∀ C s0 H0 ex pins,PG (Wz X N scope cl C s0 H0 ex pins) tg g) (ht:∀ C s0 H0 ex pins,PTs (Wz X N scope cl C s0 H0 ex pins) ifs tt) (he:∀ C s0 H0 ex pins,PE (Wz X N scope cl C s0 H0 ex pins) elt te)
  (hs:∀ v,foldedSetIterable iter X.env v=pure v:=by intro _;rfl):PE X (.ListComp elt [⟨tg,iter,ifs,0⟩] scope pos) (Zkp fr wi g tt te):=by
 intro pins s σ H Q I h
 rw [eval_ListComp]
 refine wpAny_comprehension_free (use:=none) rfl hs hclos hkind hnames (Zv (hi pins s σ H _ I h) fun xv s1 h1=>Zv h1 fun itv s2 h2=>?_)
 obtain ⟨it,fp,tn,J,H2,e,I2,T,st2,f2,W,⟨m0,w0⟩,turn⟩:=h2
 subst e
 refine wpAny_newObj_type (wpAny_newFunctionEnv hcell (fun y hy=>nomatch hy) (fun h4 hns hsb=>?_) hkind)
 dsimp only at hns hsb ⊢
 generalize hD:s2.heap.objs.size=D at *
 generalize hG:s2.heap.push { cls:=.type "list",dict:=none,data:=.seq ([]:List Value).toArray } = G at hns hsb ⊢
 have hC:G.objs.size=D+1:=by rw [← hG,Heap.size_push,hD]
 generalize hCC:G.objs.size=C at hns hsb hC ⊢
 subst hC
 have old:∀ b o,s2.heap.get? b=some o→h4.get? b=some o:=fun b o e=>by
  have lt:=Heap.lt_size e
  rw [hD] at lt
  exact hsb.extBut b o (Nat.ne_of_lt (Nat.lt_succ_of_lt lt)) (Heap.get?_push_of_some _ (hG ▸ Heap.get?_push_of_some _ e))
 have hDl:h4.get? D=some { cls:=.type "list",dict:=none,data:=.seq ([]:List Value).toArray 0 } :=
  hsb.extBut _ _ (Nat.ne_of_lt (Nat.lt_succ_self _)) (Heap.get?_push_of_some _ (hG ▸ hD ▸ Heap.get?_push_size _ rfl))
 have flt:∀ b∈fp,b < D:=fun b hb=>by
  obtain ⟨o,e,_⟩:=T.obj 0 _ st2 b hb
  have lt:=Heap.lt_size e
  rw [hD] at lt
  exact lt
 have nst:∀ b,b≠X.env.locals→b∉X.fs→b∉Wb X.stack:=fun b h1 h2 z=>(List.mem_cons.mp (I2.stkSub b z)).elim h1 h2
 have pl:∀ p∈X.pn++pins,p.1 < D:=fun p hp=>by
  have lt:=Heap.lt_size (I2.pin p hp).1
  rw [hD] at lt
  exact lt
 have I4:∀ tk,Zf (Wz X N scope cl (D+1) s2 H2 fp pins) [] (Qd fr σ) H2 { s2 with heap:=h4,toks:=tk }:=fun tk =>
  I2.block hkind hfr hcl hhas f2 (fun b hb=>by rw [hD];exact flt b hb) old (by rw [hD];exact Nat.le_succ _) hns
 have stat:∀ {H':Hp} {o:Obj},(∀ b∈fp,H' b=none)→∀ b∈fp,YO (Wz X N scope cl (D+1) s2 H2 fp pins) [(D,o)] H' b:=fun {H' o} hn b hb=>by
  obtain ⟨_,k1,k2,_,k4,k5⟩:=f2 b hb
  refine ⟨hn b hb,Nat.ne_of_lt (Nat.lt_succ_of_lt (flt b hb)),nst b k1 k2,.inl hb,fun x c e=>k4 x c (hcl.at e),fun p hp=>?_⟩
  rcases List.mem_append.mp hp with hp | hp
  ·exact k5 p hp
  ·rw [List.mem_singleton.mp hp]
   exact (Nat.ne_of_lt (flt b hb)).symm
 have dnf:D∉Wb X.stack:=fun z=>by
  obtain ⟨_,o,e,_⟩:=I2.stack.mem z
  have lt:=Heap.lt_size e
  rw [hD] at lt
  exact absurd lt (Nat.lt_irrefl _)
 have loop:∀ tk,codeAny (model X.prog X.w) X.A (.compLoop (.ListComp elt [⟨tg,iter,ifs,0⟩] scope pos) 0 (.ref it) (.ref D) (compEnvC scope cl (D+1) X.env)) (compPost (model X.prog X.w) X.A X.xe none (EP X pins σ Q) (.ref D) (D+1)) { s2 with heap:=h4,toks:=tk }:=fun tk=>by
  refine Zko (fun k s'=>∃ i σ' H' its nD acc,Zf (Wz X N scope cl (D+1) s2 H2 fp pins) [] σ' H' s' ∧
    s'.heap.get? D=some { cls:=.type "list",dict:=none,data:=.seq (List.toArray its) nD }∧H' D=none∧Zy acc its∧acc.length≤sizeLine∧tn i s'.heap∧(∀ b∈fp,H' b=none)∧W i k acc σ' H') ?_ m0
   ⟨0,_,H2,[],0,[],I4 tk,hDl,I2.hok.fresh (by rw [hD];exact Nat.le_refl _),.nil,Nat.zero_le _,T.keep 0 _ _ st2 fun b _ o e=>old b o e,fun b hb=>(f2 b hb).1,w0⟩
  rintro k s5 ⟨i,σ5,H5,its,nD,acc,I5,hL,hn5,va,hacc,st5,fr5,w5⟩
  have dcell:∀ x c,cl.lookup x=some c→c≠D:=fun x c e z=>by
   obtain ⟨v,q⟩:=I2.cell x c (hcl.at e)
   have lt:=q.lt
   rw [hD,z] at lt
   exact absurd lt (Nat.lt_irrefl _)
  have I5':Zf (Wz X N scope cl (D+1) s2 H2 fp pins) [(D,{ cls:=.type "list",dict:=none,data:=.seq (List.toArray its) nD })] σ5 H5 s5:=I5.pins_of fun p hp=>by
   rw [List.mem_singleton.mp hp]
   exact ⟨hL,hn5,Nat.ne_of_lt (Nat.lt_succ_self _),dnf,fun v z=>by cases z⟩
  rcases turn i k acc σ5 H5 w5 with ⟨stop,qn⟩ | ⟨go,hlt,N1,hN1,step⟩
  ·refine WR (T.done (Wz X N scope cl (D+1) s2 H2 fp pins) rfl rfl rfl hc i _ s5 _ H5 _ I5' (stat fr5) st5 stop) fun r s6 ⟨hr,I6⟩=>?_
   subst hr
   obtain ⟨m6,hn6,_⟩:=I6.loc
   refine ⟨m6,hn6,fun h7 hs7=>?_⟩
   have hL7:h7.get? D=some { cls:=.type "list",dict:=none,data:=.seq (List.toArray its) nD }:=hs7.extBut _ _ (Nat.ne_of_lt (Nat.lt_succ_self _)) (I6.pin (D,_) (List.mem_append_right _ (List.mem_singleton.mpr rfl))).1
   have neC:∀ b o,s2.heap.get? b=some o→b≠D+1:=fun b o e=>by
    have lt:=Heap.lt_size e
    rw [hD] at lt
    exact Nat.ne_of_lt (Nat.lt_succ_of_lt lt)
   have nt:∀ b u,H5 b=some u→b≠D+1:=fun b u q z=>by
    have f:=I6.free
    rw [z] at q
    rw [show H5 (D+1)=none from f] at q
    cases q
   have un:Un (Wb X.stack) fp H2 H5 s2.heap h7:=⟨fun b o e n hb hx=>hs7.extBut b o (neC b o e) (I6.base.keep b o e n hb hx),
    fun b o e n hb hx=>let ⟨sl,q⟩:=I6.base.slot b o e n hb hx;⟨sl,hs7.extBut b _ (neC b o e) q⟩,I6.base.free,fun b o e hx=>let ⟨o',q⟩:=I6.base.there b o e hx;⟨o',hs7.extBut b _ (neC b o e) q⟩,I6.base.tups,I6.base.frzs,I6.base.tbls⟩
   have hok:Yy X.prog X.w H5 h7:=fun b u q=>(I6.hok b u q).stay (fun c v hc e=>hs7.extBut c v (by
    rcases hc with rfl | hc
    ·exact nt _ _ q
    ·exact nt _ _ hc) e) (fun _ z=>z) fun _ _ z=>z
   have I8:Zf X pins σ H5 { s6 with heap:=h7 }:=I2.call' (s':={ s6 with heap:=h7 }) I6.os un hok I6.bare fun b hb=>let ⟨_,k1,_,k3,k4,k5⟩:=f2 b hb;⟨k3,k1,k4,k5⟩
   have I9:Zf X pins σ (Zd H5 D (.lst acc)) { s6 with heap:=h7 }:=I8.trackS hn5 hL7 rfl (by
     cases z:X.s₀.heap.get? D with
     | none=>rfl
     | some o =>
      have lt:=Nat.lt_of_lt_of_le (Heap.lt_size z) I2.sz
      rw [hD] at lt
      exact absurd lt (Nat.lt_irrefl _)) (fun p hp=>Nat.ne_of_lt (pl p hp)) ⟨hacc,its,nD,va,hL7⟩
   exact ⟨.ref D,_,I9,rfl,qn D hn5⟩
  ·refine WR (T.item (Wz X N scope cl (D+1) s2 H2 fp pins) rfl rfl rfl hc i _ s5 _ H5 _ I5' (stat fr5) st5 go) fun r s6 ⟨u,hr,h6⟩=>?_
   subst hr
   refine WR h6 fun _ s7 ⟨x,H7,I7,r7,y7,st7,fr7⟩=>?_
   have I7':Zf (Wz X N scope cl (D+1) s2 H2 fp pins) ([(D,{ cls:=.type "list",dict:=none,data:=.seq (List.toArray its) nD })]++UF fp s7.heap) σ5 H7 s7:=I7.pinned (stat fr7) (T.obj _ _ st7)
   refine WR (hg _ _ _ _ _ _ s7 _ H7 x u _ I7' r7 (step x H7 y7)) fun _ s8 ⟨σ8,H8,I8,q8⟩=>?_
   refine WR (ht _ _ _ _ _ _ s8 σ8 H8 _ I8 q8) fun ok s9 ⟨H9,I9,q9⟩=>?_
   have wk:∀ {σ':St} {H':Hp} {s':Shared},Zf (Wz X N scope cl (D+1) s2 H2 fp pins) ([(D,{ cls:=.type "list",dict:=none,data:=.seq (List.toArray its) nD })]++UF fp s7.heap) σ' H' s' →
     tn (i+1) s'.heap∧(∀ b∈fp,H' b=none)∧s'.heap.get? D=some { cls:=.type "list",dict:=none,data:=.seq (List.toArray its) nD }∧H' D=none:=fun {σ' H' s'} J'=>by
    have pin:∀ p∈([(D,{ cls:=.type "list",dict:=none,data:=.seq (List.toArray its) nD })]:List (Addr×Obj))++UF fp s7.heap,s'.heap.get? p.1=some p.2∧H' p.1=none:=fun p hp=>let ⟨e,n,_⟩:=J'.pin p (List.mem_append_right _ hp);⟨e,n⟩
    refine ⟨T.keep _ _ _ st7 fun b hb o e=>(pin (b,o) (List.mem_append_right _ (Zbb hb e))).1,fun b hb=>?_,(pin (D,_) (List.mem_append_left _ (List.mem_singleton.mpr rfl))).1,(pin (D,_) (List.mem_append_left _ (List.mem_singleton.mpr rfl))).2⟩
    obtain ⟨o,e,_⟩:=T.obj _ _ st7 b hb
    exact (pin (b,o) (List.mem_append_right _ (Zbb hb e))).2
   cases ok with
   | false =>
    obtain ⟨m',hm,w9⟩:=hN1 _ _ _ q9
    obtain ⟨k1,k2,k3,k4⟩:=wk I9
    exact ⟨m',hm,i+1,σ8,H9,its,nD,acc,I9.pins_of (fun _ z=>nomatch z),k3,k4,va,hacc,k1,k2,w9⟩
   | true =>
    refine WR (he _ _ _ _ _ _ s9 σ8 H9 _ I9 q9) fun y s10 ⟨v,H10,I10,r10,q10⟩=>?_
    obtain ⟨m',hm,w10⟩:=hN1 _ _ _ q10
    obtain ⟨k1,k2,k3,k4⟩:=wk I10
    refine call_meets F.slot_list_append ⟨_,k3,rfl⟩ F.entry_list_append (F.args_list_append_2 _ _) (PySem.list_append D its.toArray nD y (by rw [List.size_toArray,← va.length];omega)) ⟨k3,?_⟩
    have up:∀ b o,b≠D→s10.heap.get? b=some o→(s10.heap.update D (Obj.mapSeq fun z=>z.push y)).get? b=some o:=fun b o hb e=>(Heap.get?_update_other s10.heap _ (Ne.symm hb)).trans e
    have I11:Zf (Wz X N scope cl (D+1) s2 H2 fp pins) [] σ8 H10 { s10 with heap:=s10.heap.update D (Obj.mapSeq fun z=>z.push y),toks:=s10.toks } :=
     (I10.pins_of (pins':=[]) fun _ z=>nomatch z).turned up k4 (Nat.ne_of_lt (Nat.lt_succ_self _)) (.inr (by rw [hD];exact Nat.le_refl _)) dcell fun p hp=>by
      have hp':p∈X.pn++pins:=by simpa using hp
      exact Nat.ne_of_lt (pl p hp')
    have q:=PySem.IsL.update k3 (fun z=>z.push y)
    rw [show (List.toArray its).push y=(its++[y]).toArray by simp] at q
    refine ⟨m',hm,i+1,σ8,H10,its++[y],_,acc++[v],I11,q,k4,va.append (.cons r10 .nil),?_,T.keep _ _ _ k1 fun b hb o e=>up b o (Nat.ne_of_lt (flt b hb)) e,k2,w10⟩
    rw [List.length_append,List.length_singleton]
    omega
 exact codeAny_compStart_list (loop _) (T.self _ 0 _ _ _ (T.keep 0 _ _ st2 fun b _ o e=>old b o e) (loop _))
theorem Qf {K:PySem.W.Frag} {a:Addr} {xs:List V} {g:TG} {tt:TT} {te:TE} {σ0:St} {H:Hp} {Q:VK} (Pv:Nat→List V→St→Hp→Prop) (h0:Pv 0 [] σ0 H) (hz:xs.length≤sizeLine) (hl:∀ i acc σ H,i≤xs.length→Pv i acc σ H→Zg K H a xs)
  (hs:∀ i x acc σ H,acc.length≤i→xs[i]? = some x→Pv i acc σ H→g x σ H fun σ2 H2=>tt σ2 H2 fun b H3=>if b=true then te σ2 H3 fun y H4=>(acc++[y]).length≤i+1∧Pv (i+1) (acc++[y]) σ2 H4 else acc.length≤i+1∧Pv (i+1) acc σ2 H3)
  (hd:∀ acc σ H,acc.length≤xs.length→Pv xs.length acc σ H→Vd Q acc H) :
  ∃ W:Nat→Nat→List V→St→Hp→Prop,(∃ m,W 0 m [] σ0 H)∧∀ i m acc σ1 H,W i m acc σ1 H →
   ((Ud K a).stop i H∧Vd Q acc H) ∨
   ((Ud K a).go i H∧acc.length < sizeLine∧∃ N:List V→St→Hp→Prop,(∀ acc' σ' H',N acc' σ' H'→∃ m',m' < m∧W (i+1) m' acc' σ' H')∧∀ x H',(Ud K a).yld i H x H'→g x σ1 H' fun σ2 H2=>tt σ2 H2 fun b H3=>if b=true then te σ2 H3 fun y H4=>N (acc++[y]) σ2 H4 else N acc σ2 H3):=by
 refine ⟨fun i m acc σ H=>m=xs.length - i∧i≤xs.length∧acc.length≤i∧Pv i acc σ H,⟨xs.length,by simp,Nat.zero_le _,Nat.zero_le _,h0⟩,?_⟩
 rintro i m acc σ1 H ⟨rfl,hi,ha,p⟩
 have q:=hl i acc σ1 H hi p
 by_cases hlt:i < xs.length
 ·refine .inr ⟨⟨xs,xs[i],q,by simp [hlt]⟩,by omega,fun acc' σ' H'=>acc'.length≤i+1∧Pv (i+1) acc' σ' H',fun acc' σ' H' z=>⟨xs.length - (i+1),by omega,rfl,hlt,z.1,z.2⟩,fun x H' y=>?_⟩
  obtain ⟨e,y⟩:=y
  subst e
  exact hs i x acc σ1 _ ha (y xs q) p
 ·have e:i=xs.length:=by omega
  subst e
  exact .inl ⟨⟨xs,q,Nat.le_refl _⟩,hd acc σ1 H ha p⟩
theorem Zkq {K:PySem.W.Frag} {a:Addr} {xs:List V} {g:TG} {tt:TT} {te:TE} {σ0:St} {H:Hp} {Q:VK} (Pv:Nat→List V→St→Hp→Prop) (h0:Pv 0 [] σ0 H) (hz:xs.length≤sizeLine) (hl:∀ i acc σ H,i≤xs.length→Pv i acc σ H→Zu K H a xs)
  (hs:∀ i x acc σ H,acc.length≤i→xs[i]? = some x→Pv i acc σ H→g x σ H fun σ2 H2=>tt σ2 H2 fun b H3=>if b=true then te σ2 H3 fun y H4=>(acc++[y]).length≤i+1∧Pv (i+1) (acc++[y]) σ2 H4 else acc.length≤i+1∧Pv (i+1) acc σ2 H3)
  (hd:∀ acc σ H,acc.length≤xs.length→Pv xs.length acc σ H→Vd Q acc H) :
  ∃ W:Nat→Nat→List V→St→Hp→Prop,(∃ m,W 0 m [] σ0 H)∧∀ i m acc σ1 H,W i m acc σ1 H →
   ((Itt K a).stop i H∧Vd Q acc H) ∨
   ((Itt K a).go i H∧acc.length < sizeLine∧∃ N:List V→St→Hp→Prop,(∀ acc' σ' H',N acc' σ' H'→∃ m',m' < m∧W (i+1) m' acc' σ' H')∧∀ x H',(Itt K a).yld i H x H'→g x σ1 H' fun σ2 H2=>tt σ2 H2 fun b H3=>if b=true then te σ2 H3 fun y H4=>N (acc++[y]) σ2 H4 else N acc σ2 H3):=by
 refine ⟨fun i m acc σ H=>m=xs.length - i∧i≤xs.length∧acc.length≤i∧Pv i acc σ H,⟨xs.length,by simp,Nat.zero_le _,Nat.zero_le _,h0⟩,?_⟩
 rintro i m acc σ1 H ⟨rfl,hi,ha,p⟩
 have q:=hl i acc σ1 H hi p
 by_cases hlt:i < xs.length
 ·refine .inr ⟨⟨xs,xs[i],q,by simp [hlt]⟩,by omega,fun acc' σ' H'=>acc'.length≤i+1∧Pv (i+1) acc' σ' H',fun acc' σ' H' z=>⟨xs.length - (i+1),by omega,rfl,hlt,z.1,z.2⟩,fun x H' y=>?_⟩
  obtain ⟨e,y⟩:=y
  subst e
  exact hs i x acc σ1 _ ha (y xs q) p
 ·have e:i=xs.length:=by omega
  subst e
  exact .inl ⟨⟨xs,q,Nat.le_refl _⟩,hd acc σ1 H ha p⟩
theorem Zkr {lo:Int} {n:Nat} {g:TG} {tt:TT} {te:TE} {σ0:St} {H:Hp} {Q:VK} (Pv:Nat→List V→St→Hp→Prop) (h0:Pv 0 [] σ0 H) (hz:n≤sizeLine)
  (hs:∀ i acc σ H,i < n→acc.length≤i→Pv i acc σ H→g (.int (lo+i)) σ H fun σ2 H2=>tt σ2 H2 fun b H3=>if b=true then te σ2 H3 fun y H4=>(acc++[y]).length≤i+1∧Pv (i+1) (acc++[y]) σ2 H4 else acc.length≤i+1∧Pv (i+1) acc σ2 H3)
  (hd:∀ acc σ H,acc.length≤n→Pv n acc σ H→Vd Q acc H) :
  ∃ W:Nat→Nat→List V→St→Hp→Prop,(∃ m,W 0 m [] σ0 H)∧∀ i m acc σ1 H,W i m acc σ1 H →
   ((Vl lo n).stop i H∧Vd Q acc H) ∨
   ((Vl lo n).go i H∧acc.length < sizeLine∧∃ N:List V→St→Hp→Prop,(∀ acc' σ' H',N acc' σ' H'→∃ m',m' < m∧W (i+1) m' acc' σ' H')∧∀ x H',(Vl lo n).yld i H x H'→g x σ1 H' fun σ2 H2=>tt σ2 H2 fun b H3=>if b=true then te σ2 H3 fun y H4=>N (acc++[y]) σ2 H4 else N acc σ2 H3):=by
 refine ⟨fun i m acc σ H=>m=n - i∧i≤n∧acc.length≤i∧Pv i acc σ H,⟨n,by simp,Nat.zero_le _,Nat.zero_le _,h0⟩,?_⟩
 rintro i m acc σ1 H ⟨rfl,hi,ha,p⟩
 by_cases hlt:i < n
 ·refine .inr ⟨hlt,by omega,fun acc' σ' H'=>acc'.length≤i+1∧Pv (i+1) acc' σ' H',fun acc' σ' H' z=>⟨n - (i+1),by omega,rfl,hlt,z.1,z.2⟩,fun x H' y=>?_⟩
  obtain ⟨e,y⟩:=y
  subst e y
  exact hs i acc σ1 _ hlt ha p
 ·have e:i=n:=by omega
  subst e
  exact .inl ⟨Nat.le_refl _,hd acc σ1 H ha p⟩
end L2
namespace L2
open PySem PySem.Spec PyProof.Rows
mutual
inductive DV (K:PySem.W.Frag) (H:Hp):V→PyData→Prop
 | non:DV K H .non .none
 | bl (b:Bool):DV K H (.bl b) (.bool b)
 | int (i:Int):DV K H (.int i) (.int i)
 | str (x:Str) (h:(PyData.str x).canLay0=true):DV K H (.str x) (.str x)
 | lst {a:Addr} {xs:List V} {ds:List PyData} (h:Zg K H a xs) (r:Xi K H xs ds):DV K H (.ref a) (.list ds)
 | tup {a:Addr} {xs:List V} {ds:List PyData} (h:Zu K H a xs) (r:Xi K H xs ds):DV K H (.ref a) (.tuple ds)
inductive Xi (K:PySem.W.Frag) (H:Hp):List V→List PyData→Prop
 | nil:Xi K H [] []
 | cons {x:V} {xs:List V} {d:PyData} {ds:List PyData} (h:DV K H x d) (r:Xi K H xs ds):Xi K H (x::xs) (d::ds)
end
mutual
theorem DV.can {K:PySem.W.Frag} {H:Hp}:∀ {x:V} {d:PyData},DV K H x d→d.canLay0=true
 | _,_,.non=>by simp only [PyData.canLay0]
 | _,_,.bl _=>by simp only [PyData.canLay0]
 | _,_,.int _=>by simp only [PyData.canLay0]
 | _,_,.str _ h=>h
 | _,_,.lst _ r=>by simp only [PyData.canLay0];exact Xi.can r
 | _,_,.tup _ r=>by simp only [PyData.canLay0];exact Xi.can r
theorem Xi.can {K:PySem.W.Frag} {H:Hp}:∀ {xs:List V} {ds:List PyData},Xi K H xs ds→PyData.canLayAll0 ds=true
 | _,_,.nil=>by simp only [PyData.canLayAll0]
 | _,_,.cons h r=>by simp only [PyData.canLayAll0,Bool.and_eq_true];exact ⟨DV.can h,Xi.can r⟩
end
section
variable {X:Cx} {pins:List (Addr×Obj)} {σ:St} {H:Hp} {s:Shared}
mutual
theorem DV.reads (I:Zf X pins σ H s):∀ {x:V} {d:PyData} {u:Value},DV X.K H x d→ZC x u→∃ as,Reads s.heap u d as
 | _,_,_,.non,r=>by cases r;exact ⟨_,.none⟩
 | _,_,_,.bl b,r=>by cases r;exact ⟨_,.bool b⟩
 | _,_,_,.int i,r=>by obtain ⟨t,rfl⟩:=r;exact ⟨_,.int i t⟩
 | _,_,_,.str x _,r=>by obtain ⟨t,rfl⟩:=r;exact ⟨_,.str x t⟩
 | _,_,_,.lst h rs,r=>by
  cases r
  obtain ⟨its,v,pl,_⟩:=I.list h
  obtain ⟨o,n,ho,hc,_,hd⟩:=pl
  obtain ⟨as,q⟩:=Xi.reads I rs v
  exact ⟨_,.list ho hc hd (by simpa using q)⟩
 | _,_,_,.tup h rs,r=>by
  cases r
  obtain ⟨its,v,pl,_⟩:=I.tuple h
  obtain ⟨o,ho,hc,n,hd⟩:=pl
  obtain ⟨as,q⟩:=Xi.reads I rs v
  exact ⟨_,.tuple ho hc hd (by simpa using q)⟩
theorem Xi.reads (I:Zf X pins σ H s):∀ {xs:List V} {ds:List PyData} {us:List Value},Xi X.K H xs ds→Zy xs us→∃ as,ReadsAll s.heap us ds as
 | _,_,_,.nil,.nil=>⟨_,.nil⟩
 | _,_,_,.cons h r,.cons v vs=>by
  obtain ⟨as,q1⟩:=DV.reads I h v
  obtain ⟨bs,q2⟩:=Xi.reads I r vs
  exact ⟨_,.cons q1 q2⟩
end
end
def Zks (K:PySem.W.Frag) (neg:Bool):R2:=fun x y H Q=>∃ dx dy,DV K H x dx∧DV K H y dy∧dx.depth≤60∧Q (.bl (if neg then !PyData.eqv dx dy else PyData.eqv dx dy)) H
theorem Zkt {X:Cx} (hu:X.A.units+64 < cLine):Ys X (compareOp .NotEq) (Zks X.K true):=by
 intro pins s σ H x y v u Q I rx ry h
 obtain ⟨dx,dy,hx,hy,hd,q⟩:=h
 obtain ⟨as,r1⟩:=hx.reads I rx
 obtain ⟨bs,r2⟩:=hy.reads I ry
 exact SeqAt.compareNe_reads r1 r2 hx.can hy.can (by omega) ⟨.bl _,H,I,rfl,q⟩
end L2
namespace L2
open PySem PySem.Spec PyProof.Rows
section
variable {X:Cx}
end
end L2
namespace L2
open PySem PySem.Spec PyProof.Rows
section
variable {X:Cx} {x:Str} {pos:Pos}
theorem YH {k:Int} (hg:Gl X x) (hm:∃ t,X.mg x=some (.int k t)) (hd:(x == ("__debug__" : Str))=false:=by decide):PE X (.Name x pos) (tC (.int k)):=by
 obtain ⟨t,hm⟩:=hm
 exact ZeZ hg hm ⟨t,rfl⟩ hd
def Zku:TE:=fun _ H Q=>∀ p,H p=none→Q (.ref p) (Zd H p (.dK []))
theorem Zau {X:Cx} {pos:Pos}:PE X (.Dict [] [] pos) Zku:=by
 intro pins s σ H Q I h
 have lt:sysModules < s.heap.objs.size:=Nat.lt_trans (show sysModules < mainGlobals by decide) (I.mod.glob.keeps I.bk).lt
 have new:Yc X.prog X.w (Zd H s.heap.objs.size (.dK [])) (s.heap.push { cls:=.type "dict",data:=.dict #[] }) s.heap.objs.size (.dK []) :=
  ⟨Nat.zero_le _,beq_eq_false_iff_ne.mpr (Ne.symm (Nat.ne_of_lt lt)),[],.nil,Heap.DictOf.new s.heap⟩
 exact wpAny_Dict_empty ⟨.ref s.heap.objs.size,_,I.laid (t':=s.toks) (fun _ _ q=>Heap.get?_push_of_some _ q) (Nat.le_refl _) new,rfl,h _ (I.hok.fresh (Nat.le_refl _))⟩
def ZfP:Expr→Bool
 | .Starred _ _=>false
 | _=>true
theorem Zkv {e:Expr} {es:List Expr} {env:Env} (h:ZfP e=true):starEach (e::es) env=(false,eval e env)::starEach es env:=by
 cases e <;> first | rfl | cases h
theorem Zb {e:Expr} {es:List Expr} {te:TE} {t:TA} (ha:PE X e te) (hr:PA X es t) (h:ZfP e=true:=by rfl):PA X (e::es) (YV te t):=ZjL ha hr (Zkv h)
end
end L2
namespace K1
open PySem L2
def UJ:V→Int→Int→Bool
 | .int i,lo,hi=>decide (lo≤i∧i≤hi)
 | _,_,_=>false
inductive Kd (H:Hp):V→String→Prop where
 | non:Kd H .non "NoneType"
 | bl (b:Bool):Kd H (.bl b) "bool"
 | int (i:Int):Kd H (.int i) "int"
 | str (x:Str):Kd H (.str x) "str"
 | lst {a:Addr} {xs:List V} (e:H a=some (.lst xs)):Kd H (.ref a) "list"
 | tup {a:Addr} {xs:List V} (e:H a=some (.tup xs)):Kd H (.ref a) "tuple"
 | dK {a:Addr} {kvs:List (Zt×V)} (e:H a=some (.dK kvs)):Kd H (.ref a) "dict"
theorem Kd.ty {K:PySem.W.Frag} {H:Hp} {v:V} {T:String} (k:Kd H v T):XN K H v (.type T):=by
 cases k with
 | non=>exact .non
 | bl b=>exact .bl b
 | int i=>exact .int i
 | str x=>exact .str x
 | lst e=>exact .lst e
 | tup e=>exact .tup e
 | dK e=>exact .dK e
theorem ZfQ {K:PySem.W.Frag} {H:Hp} {v:V} {T:String} (k:Kd H v T):PySem.W.kitOne K (.type T) (.type "int")=some (decide (T = "int" ∨ T = "bool")):=by
 cases k <;> rfl
theorem ZfR {K:PySem.W.Frag} {H:Hp} {v:V} {T:String} (k:Kd H v T):PySem.W.kitOne K (.type T) (.type "bool")=some (decide (T = "bool")):=by
 cases k <;> rfl
theorem ZfS {K:PySem.W.Frag} {H:Hp} {v:V} {T:String} (k:Kd H v T):PySem.W.kitOne K (.type T) (.type "str")=some (decide (T = "str")):=by
 cases k <;> rfl
theorem YS {c A B:Prop} [Decidable c] (h:c) (a:A):if c then A else B:=by rw [if_pos h];exact a
theorem ZH {c A B:Prop} [Decidable c] (h:¬ c) (b:B):if c then A else B:=by rw [if_neg h];exact b
theorem Zn {H:Hp} {p:Addr} (h:H p=none) (o:HO):Zk H (Zd H p o):=fun b u q=>by rw [Zl (Yp q h)];exact q
theorem Zkw {α:Type} (g:α→Bool) (l:List α):(l.map fun c=>V.bl (g c))=(l.map g).map V.bl:=by rw [List.map_map];rfl
def Zkx:V→Bool
 | .int _=>true
 | _=>false
structure Zq5 (tp:Addr) (k:Int) (H H':Hp):Prop where
 keep:∀ b o,b≠tp→H b=some o→H' b=some o
 tape:H' tp=some (.lst [.int k])
theorem ZfT {x y:Int} (h0:0≤y) (h1:y < 18446744073709551616):Zbd x y:=.inr ⟨by omega,by omega⟩
theorem Vs {p:V→Prop} {xs:List V} {d:Int} (h:∀ v∈xs,p v) (h0:0≤d) (h1:d < xs.length):∃ v,Yu xs d=some v∧p v:=by
 have hl:d.toNat < xs.length:=by omega
 refine ⟨xs[d.toNat],?_,h _ (List.getElem_mem hl)⟩
 have q:Yu xs ((d.toNat:Nat):Int)=some xs[d.toNat]:=Xz (List.getElem?_eq_getElem hl)
 rw [show ((d.toNat:Nat):Int)=d by omega] at q
 exact q
end K1
namespace K1
open PySem L2
theorem ZfU (z:Str):z.cps.toList.length=z.length:=by simp [Str.length]
theorem ZfV (z:Str) (j:Nat) (h:j≤z.length):Txt.slice z none (some (j:Int))=⟨(z.cps.toList.take j).toArray⟩:=by
 have e:=StrLaws.sliceText_to (x:=z) (j:=(j:Int)) ⟨by omega,by rw [ZfU];omega⟩
 rw [List.drop_zero,show ((j:Int) - 0).toNat=j by omega] at e
 exact e
theorem Zky (z:Str) (j:Nat) (h:j≤z.length):Txt.slice z (some (j:Int)) none=⟨(z.cps.toList.drop j).toArray⟩:=by
 have e:=StrLaws.sliceText_from (x:=z) (i:=(j:Int)) ⟨by omega,by rw [ZfU];omega⟩
 rw [show ((j:Int)).toNat=j by omega,List.take_of_length_le (by rw [List.length_drop];omega)] at e
 exact e
end K1
namespace L2
open PySem PySem.Spec PyProof.Rows
section
variable {X:Cx} {m:Str} {o e:Expr} {es:List Expr} {ta:TE} {t:TA} {pos apos:Pos}
def ZfW (X:Cx) (m:Str) (ta:TE) (t:TA):TE:=fun σ H Q=>ta σ H fun x H1=>∃ (a C dx:Addr) (fs:List (Str×V)) (f:Addr) (fd:FuncData) (k:Nat) (ps:List Str) (sp:Sp) (CX:Wx) (E:XK),
 x=.ref a∧H1 a=some (.ins C dx fs)∧fs.lookup m=none∧XM X.K C∧Yz X.K C m f∧ZF X.prog X.w X.K X.mg X.base CX k f fd ps sp∧Yh k X.A∧ZG X.K fd ps []∧Vm CX X E∧t σ H1 fun vs H2=>sp (.ref a::vs) H2 Q E
theorem ZfX {pl:Sem Bool} (he:PE X o ta) (ha:PA X (e::es) t)
  (hst:starEach (e::es) X.env=(false,eval e X.env)::starEach es X.env:=by rfl) (hpl:(backTo pos (starEach es X.env)).any (·.1)=false:=by rfl)
  (ht:eval (.Call (.Attribute o m apos) (e::es) [] pos) X.env=(do
   let ov ← eval o X.env
   standAt apos.atName
   let (f,first) ← holding [ov] (getMethod ov m pl)
   callWith pos f first (backTo pos (starEach (e::es) X.env)) (backToKw pos (keywordEach [] X.env))):=by rfl) :
  PE X (.Call (.Attribute o m apos) (e::es) [] pos) (ZfW X m ta t):=by
 intro pins s σ H Q I h
 refine PySem.W.methodCall_KW (pl:=pl) (Zv (he pins s σ H _ I h) fun u s1 z=>?_) ht
 obtain ⟨x,H1,I1,rx,a,C,dx,fs,f,fd,k,ps,sp,CX,E,ex,ea,l,c,hm,F,hr,hb,hx,q⟩:=z
 subst ex
 obtain rfl:u=Value.ref a:=rx
 refine Zbj I1 ea c hm l ?_
 refine PySem.W.callWith_K (first:=[.ref a]) (h₀:=X.base) I.ok.mod.kin hm.kp (Zv (ha pos pins s1 σ H1 _ I1 q) fun us s2 ⟨vs,H2,I2,r,q2⟩=>⟨I2.kIn,?_⟩) hst hpl
 exact Zas (us:=.ref a::us) (vs:=.ref a::vs) (dvs:=[]) F hr hb .nil hx I2 (.cons rfl r) (by rw [List.append_nil];exact q2)
theorem Zcm {pl:Sem Bool} (he:PE X o ta)
  (ht:eval (.Call (.Attribute o m apos) [] [] pos) X.env=(do
   let ov ← eval o X.env
   standAt apos.atName
   let (f,first) ← holding [ov] (getMethod ov m pl)
   callWith pos f first (backTo pos (starEach [] X.env)) (backToKw pos (keywordEach [] X.env))):=by rfl) :
  PE X (.Call (.Attribute o m apos) [] [] pos) (ZfW X m ta YM):=by
 intro pins s σ H Q I h
 refine PySem.W.methodCall_KW (pl:=pl) (Zv (he pins s σ H _ I h) fun u s1 z=>?_) ht
 obtain ⟨x,H1,I1,rx,a,C,dx,fs,f,fd,k,ps,sp,CX,E,ex,ea,l,c,hm,F,hr,hb,hx,q⟩:=z
 subst ex
 obtain rfl:u=Value.ref a:=rx
 refine Zbj I1 ea c hm l ?_
 exact PySem.W.callWith_K0 (first:=[.ref a]) I1.kIn hm.kp (Zas (us:=[.ref a]) (vs:=[.ref a]) (dvs:=[]) F hr hb .nil hx I1 (.cons rfl .nil) q)
structure MkN (K:PySem.W.Frag) (C:Addr):Prop where
 makes:PySem.W.makesIn K C=true
 init:PySem.W.findIn K (.ref C) "__init__" = some (some (.builtin "object.__init__"))
 kp:PySem.W.keepIn K (.ref C)=true
def Zkz (C:Addr):TE:=fun _ H Q=>∀ x dx,H x=none→H dx=none→dx≠x→Q (.ref x) (Zd (Zd H dx (.own x)) x (.ins C dx []))
theorem ZfY {C:Addr} {x:Str} {p:Pos} (M:MkN X.K C) (hg:Gl X x) (hm:X.mg x=some (.ref C)) (hdb:(x == ("__debug__" : Str))=false:=by decide):PE X (.Call (.Name x p) [] [] pos) (Zkz C):=by
 intro pins s σ H Q I h
 refine wpAny_Call_Name_kw (Zao I hg hm ?_ hdb)
 refine PySem.W.callWith_K0 I.kIn M.kp ?_
 have q:=h (s.heap.objs.size+1) s.heap.objs.size (I.hok.fresh (Nat.le_succ _)) (I.hok.fresh (Nat.le_refl _)) (Nat.ne_of_lt (Nat.lt_succ_self _))
 have I2:=Zf.made (C:=C) I
 have Y:=PySem.W.makes_of (M:=model X.prog X.w) I.kIn M.makes
 refine wpAny_call (ZjC (C:=C) I.kIn M.makes M.init (fun self=>PySem.W.Looks.of_pure (PySem.W.oi_bind self)) ?_)
 have g1:((s.heap.push PySem.W.emptyDict).push (PySem.W.instObj C s.heap.objs.size)).get? (s.heap.objs.size+1)=some (PySem.W.instObj C s.heap.objs.size):=by
  have:=Heap.get?_push_size (s.heap.push PySem.W.emptyDict) (o:=PySem.W.instObj C s.heap.objs.size) rfl
  rw [Heap.size_push] at this
  exact this
 have t1:PySem.W.Looks (model X.prog X.w) ((s.heap.push PySem.W.emptyDict).push (PySem.W.instObj C s.heap.objs.size)) (typeOf (.ref (s.heap.objs.size+1))) (.ref C):=(PySem.W.Looks.ld g1).andThen .now
 have t2:PySem.W.Looks (model X.prog X.w) ((s.heap.push PySem.W.emptyDict).push (PySem.W.instObj C s.heap.objs.size)) (isInstance (.ref (s.heap.objs.size+1)) (.type "object")) true :=
  t1.andThen (Y.top.keeps fun b o e=>Heap.get?_push_of_some _ (Heap.get?_push_of_some _ e))
 refine codeAny_call_builtin PySem.W.oi_plain PySem.W.entry_oi ?_
 refine @PySem.W.check_slot (model X.prog X.w) _ _ _ "object.__init__" "object" "__init__" (.ref (s.heap.objs.size+1)) [] [] _ PySem.W.oi_kind PySem.W.oi_split t2 (PySem.W.oi_args _) ?_
 rw [PySem.W.oi_run]
 exact wpAny_pure (And.intro rfl ⟨.ref _,_,I2,rfl,q⟩)
end
structure Zcn (K:PySem.W.Frag) (x qual:Str) (st:Stmt) (f:Addr) (fd:FuncData) (D:Addr) (ds:List Value):Prop where
 ex:∃ (oc:Value) (od:Option Addr) (kV doc pm:Value) (an:Option Addr) (cdv ct:Value) (osl:Array (Option Value)),
  fd=PySem.W.fnOf x qual (ZL st) (ZD st) (Zq st) (.ref D) kV doc pm an cdv ct∧K.lookup f=some ⟨oc,od,.func fd,osl⟩∧PySem.W.codeIn K cdv qual=true
 dt:∃ (o:Obj) (n:Nat),K.lookup D=some o∧o.data=.seq ds.toArray n
 kp:PySem.W.keepIn K (.ref f)=true
section
variable {P:Program} {w:World} {K:PySem.W.Frag} {mg:Str→Option Value} {base:Heap} {x qual:Str} {st:Stmt} {f D:Addr} {fd:FuncData} {ds:List Value}
end
end L2
namespace K1
open PySem L2
inductive RT where
 | always
 | week (b:Nat)
 | span (a b:Nat) (r:RT)
 | each (n:Nat) (ss:List Nat)
 | either (r s:RT)
 | both (r s:RT)
 | but (ds:List Nat) (r:RT)
structure RC where
 rule:Addr
 week:Addr
 span:Addr
 each:Addr
 either:Addr
 both:Addr
 but:Addr
abbrev Xj (l:List Nat):List V:=l.map fun n=>V.int (n:Nat)
inductive WA (c:RC) (K:PySem.W.Frag) (H:Hp):Addr→RT→Prop
 | always {a dx:Addr} (h:H a=some (.ins c.rule dx [])):WA c K H a .always
 | week {a dx:Addr} {b:Nat} (h:H a=some (.ins c.week dx [("bits",.int (b:Nat))])) (hb:b≤127):WA c K H a (.week b)
 | span {a dx i:Addr} {x y:Nat} {r:RT} (h:H a=some (.ins c.span dx [("first",.int (x:Nat)),("last",.int (y:Nat)),("inner",.ref i)])) (hx:x≤y) (hy:y≤9999) (hi:WA c K H i r):WA c K H a (.span x y r)
 | each {a dx p:Addr} {n:Nat} {ss:List Nat} (h:H a=some (.ins c.each dx [("length",.int (n:Nat)),("starts",.ref p)])) (hn:1≤n) (hn2:n≤28) (hp:Zu K H p (Xj ss)):WA c K H a (.each n ss)
 | either {a dx i j:Addr} {r s:RT} (h:H a=some (.ins c.either dx [("one",.ref i),("other",.ref j)])) (hi:WA c K H i r) (hj:WA c K H j s):WA c K H a (.either r s)
 | both {a dx i j:Addr} {r s:RT} (h:H a=some (.ins c.both dx [("one",.ref i),("other",.ref j)])) (hi:WA c K H i r) (hj:WA c K H j s):WA c K H a (.both r s)
 | but {a dx p i:Addr} {ds:List Nat} {r:RT} (h:H a=some (.ins c.but dx [("days",.ref p),("inner",.ref i)])) (hp:Zu K H p (Xj ds)) (hi:WA c K H i r):WA c K H a (.but ds r)
theorem ZkA (b k:Nat):(Builtin.bitAnd (((b:Nat):Int) / 2 ^ k) 1 == 1)=(b / 2 ^ k % 2 == 1):=by
 have e:((b:Nat):Int) / 2 ^ k=((b / 2 ^ k:Nat):Int):=by
  rw [Int.natCast_ediv,Int.natCast_pow]
  rfl
 rw [e,PyProof.Rows.bitAnd_pp (Int.natCast_nonneg _) (by decide)]
 have e2:(((b / 2 ^ k:Nat):Int).toNat &&& (1:Int).toNat:Nat)=b / 2 ^ k % 2:=by
  rw [Int.toNat_natCast]
  exact Nat.and_one_is_mod _
 rw [e2,Bool.eq_iff_iff,beq_iff_eq,beq_iff_eq]
 omega
end K1
namespace L2
open PySem PySem.Spec PyProof.Rows
end L2
namespace L2
open PySem
abbrev VU (xs:Array Nat):Prop:=xs.toList.Pairwise (· < ·)
theorem Zbl {xs:Array Nat} (h:VU xs) {i k d:Nat} (hik:i < k) (hk:k < xs.size):xs.getD i d < xs.getD k d:=by
 have q:=List.pairwise_iff_getElem.mp h i k (by simpa using Nat.lt_trans hik hk) (by simpa using hk) hik
 simpa [Array.getD,Nat.lt_trans hik hk,hk] using q
theorem Zco {xs:Array Nat} {j:Nat} (h:VU xs):∀ (n lo hi:Nat),hi - lo≤n→lo≤hi→hi≤xs.size→(∀ i,i < lo→xs.getD i j < j)→(∀ i,hi≤i→i < xs.size→j≤xs.getD i j) →
  SetTable.below.go xs j n lo hi≤xs.size∧(∀ i,i < SetTable.below.go xs j n lo hi→xs.getD i j < j)∧∀ i,SetTable.below.go xs j n lo hi≤i→i < xs.size→j≤xs.getD i j
 | 0,lo,hi,hn,hl,hs,h1,h2=>by
  have e:lo=hi:=by omega
  subst e
  exact ⟨hs,h1,h2⟩
 | n+1,lo,hi,hn,hl,hs,h1,h2=>by
  unfold SetTable.below.go
  by_cases c:lo < hi
  ·rw [if_pos c]
   dsimp only
   by_cases d:xs.getD ((lo+hi) / 2) j < j
   ·rw [if_pos d]
    refine Zco h n _ hi (by omega) (by omega) hs (fun i hi'=>?_) h2
    by_cases e:i=(lo+hi) / 2
    ·rw [e];exact d
    ·exact Nat.lt_trans (Zbl h (show i < (lo+hi) / 2 by omega) (by omega)) d
   ·rw [if_neg d]
    refine Zco h n lo _ (by omega) (by omega) (by omega) h1 (fun i hi' hz=>?_)
    by_cases e:i=(lo+hi) / 2
    ·rw [e];omega
    ·have:=Zbl (d:=j) h (show (lo+hi) / 2 < i by omega) hz
     omega
  ·rw [if_neg c]
   have e:lo=hi:=by omega
   subst e
   exact ⟨hs,h1,h2⟩
theorem Zcp {xs:Array Nat} {j:Nat} (h:VU xs):SetTable.below xs j≤xs.size∧(∀ i,i < SetTable.below xs j→xs.getD i j < j)∧∀ i,SetTable.below xs j≤i→i < xs.size→j≤xs.getD i j :=
 Zco h _ 0 _ (by omega) (Nat.zero_le _) (Nat.le_refl _) (fun i z=>absurd z (Nat.not_lt_zero _)) (fun i a b=>by omega)
theorem ZkB {xs:Array Nat} {j:Nat} (h:VU xs) (hn:xs[SetTable.below xs j]?≠some j):VU (SetTable.insertAt xs (SetTable.below xs j) j):=by
  obtain ⟨hb,h1,h2⟩:=Zcp (j:=j) h
  show List.Pairwise _ _
  rw [SetTable.toList_insertAt]
  have get:∀ i (hi:i < xs.size),xs.getD i j=xs.toList[i]'(by simpa using hi):=fun i hi=>by simp [Array.getD,hi]
  have far:∀ b∈xs.toList.drop (SetTable.below xs j),j < b:=fun b hb'=>by
    obtain ⟨i,hi,rfl⟩:=List.getElem_of_mem hb'
    rw [List.length_drop] at hi
    have hz:SetTable.below xs j+i < xs.size:=by simpa using (show SetTable.below xs j+i < xs.toList.length by omega)
    rw [List.getElem_drop,← get _ hz]
    have g:=h2 _ (Nat.le_add_right (SetTable.below xs j) i) hz
    refine Nat.lt_of_le_of_ne g fun e=>?_
    by_cases i0:i=0
    · subst i0
      refine hn ?_
      rw [Nat.add_zero] at e hz
      rw [Array.getElem?_eq_getElem hz]
      have:=get _ hz
      rw [← e] at this
      simpa using this.symm
    · have l:=Zbl (d:=j) h (show SetTable.below xs j < SetTable.below xs j+i by omega) hz
      have g0:=h2 _ (Nat.le_refl _) (show SetTable.below xs j < xs.size by omega)
      omega
  refine List.pairwise_append.mpr ⟨h.sublist (List.take_sublist _ _),List.pairwise_cons.mpr ⟨far,h.sublist (List.drop_sublist _ _)⟩,fun a ha b hb'=>?_⟩
  have ha':a < j:=by
    obtain ⟨i,hi,rfl⟩:=List.getElem_of_mem ha
    rw [List.length_take] at hi
    have hz : i < xs.size := by have : xs.toList.length=xs.size := by simp
                                omega
    rw [List.getElem_take,← get _ hz]
    exact h1 i (by omega)
  rcases List.mem_cons.mp hb' with rfl | hb'
  · exact ha'
  · exact Nat.lt_trans ha' (far b hb')
structure Uh (t:SetTable):Prop where
 du:t.dummies = #[]
 ri:t.plain=true→VU t.place
theorem ZfZ (j:Nat):SetTable.has #[] j=false:=rfl
theorem ZkC {t:SetTable} {j:Nat} (h:t.slot j=.empty):t.place[SetTable.below t.place j]?≠some j:=by
 intro e
 unfold SetTable.slot at h
 dsimp only at h
 rw [e] at h
 simp at h
theorem ZkD {t:SetTable} (ht:Uh t) {j:Nat}:t.slot j≠.dummy:=by
 unfold SetTable.slot
 rw [ht.du]
 dsimp only
 split
 ·intro z;cases z
 ·rw [ZfZ]
  intro z;cases z
theorem Zf0 {t:SetTable} (ht:Uh t) {g:Nat→Int} {h:Int}:∀ (n:Nat) (p:SetTable.Probe) (j:Nat) (d:Option Nat),p.dummy=none→SetTable.probe.go t g h n p=some (.empty j d)→t.slot j=.empty∧d=none
 | 0,p,j,d,_,e=>by cases e
 | n+1,p,j,d,hp,e=>by
  unfold SetTable.probe.go at e
  cases c:t.slot p.j with
  | empty =>
   rw [c] at e
   injection e with e
   injection e with e1 e2
   subst e1
   exact ⟨c,e2.symm.trans hp⟩
  | dummy=>exact absurd c (ZkD ht)
  | live i =>
   rw [c] at e
   dsimp only at e
   split at e
   ·injection e with e;cases e
   ·refine Zf0 ht n _ j d ?_ e
    unfold SetTable.advance
    split
    ·exact hp
    ·exact hp
theorem ZkE {t:SetTable} (ht:Uh t) (es:Array (Int×Value)) (h:Int) (x:Value):Uh (layNew t es h x).2.1∧(layNew t es h x).2.1.led=t.led:=by
 unfold layNew
 cases c:t.freeSlot h with
 | none=>exact ⟨⟨rfl,fun z=>by cases z⟩,rfl⟩
 | some q =>
  obtain ⟨j,wd⟩:=q
  have hj:t.slot j=.empty:=by
   unfold SetTable.freeSlot at c
   split at c
   ·rename_i j' d' e'
    obtain ⟨e1,rfl⟩:=Zf0 ht _ _ _ _ rfl e'
    injection c with c
    injection c with c1 c2
    rw [← c1]
    exact e1
   ·cases c
  dsimp only
  unfold SetTable.orStandIn
  split
  ·refine ⟨⟨?_,fun z=>?_⟩,rfl⟩
   ·show (if SetTable.has t.dummies j=true then _ else t.dummies) = #[]
    rw [ht.du,ZfZ]
    rfl
   ·exact ZkB (ht.ri z) (ZkC hj)
  ·exact ⟨⟨rfl,fun z=>by cases z⟩,rfl⟩
theorem ZkF {t:SetTable} (ht:Uh t) (es:Array (Int×Value)) (n:Nat):Uh (relayAll t es n).2.1∧(relayAll t es n).2.1.led=t.led:=by
 unfold relayAll
 cases c:t.relaid (es.map (·.1)) n with
 | none=>exact ⟨⟨rfl,fun z=>by cases z⟩,rfl⟩
 | some q =>
  obtain ⟨t',ord⟩:=q
  dsimp only
  split
  ·unfold SetTable.relaid SetTable.laid at c
   cases c2:SetTable.layClean (SetTable.sizeAbove n - 1) (es.map (·.1)) with
   | none=>rw [c2] at c;cases c
   | some ow =>
    rw [c2] at c
    injection c with c
    injection c with c1 c3
    subst c1
    refine ⟨⟨rfl,fun _=>?_⟩,rfl⟩
    show List.Pairwise _ _
    rw [List.toList_toArray]
    rw [List.map_filterMap]
    refine List.Pairwise.sublist (l₂:=List.range (SetTable.sizeAbove n - 1+1)) ?_ List.pairwise_lt_range
    have key:∀ l:List Nat,List.Sublist (l.filterMap fun j=>Option.map (fun p:Nat×Nat=>p.1) ((ow.getD j none).map fun y=>(j,y))) l:=by
     intro l
     induction l with
     | nil=>exact .slnil
     | cons a r ih =>
      rw [List.filterMap_cons]
      cases ow.getD a none with
      | none=>exact ih.cons _
      | some y=>exact ih.cons_cons _
    exact key _
  ·exact ⟨⟨rfl,fun z=>by cases z⟩,rfl⟩
end L2
namespace L2
open PySem
def keyOf (e:Int×Value):Int:=match e.2 with
 | .int k _=>k
 | _=>0
section
variable {prog:Program} {w:World}
theorem Zf1 {l:List (Int×Value)} (h:ElemsOf (intKind prog w) l) {e:Int×Value} (he:e∈l):∃ t,e.2=.int (keyOf e) t:=by
 obtain ⟨⟨k,hk,_⟩,_⟩:=h e he
 obtain ⟨t,q⟩:=Value.isInt_shape (k:=k) (v:=e.2) hk
 refine ⟨t,?_⟩
 unfold keyOf
 rw [q]
theorem ZkG {l:List (Int×Value)} (h:ElemsOf (intKind prog w) l) {e:Int×Value} (he:e∈l) {k:Int} (q:(intKind prog w).is k e.2=true):keyOf e=k:=by
 obtain ⟨t,q⟩:=Value.isInt_shape (k:=k) (v:=e.2) q
 unfold keyOf
 rw [q]
def Y8 (prog:Program) (w:World) (h:Heap) (a:Addr) (ks:List Int):Prop:=∃ (o:Obj) (es:Array (Int×Value)) (ep:Nat) (t:SetTable),
 h.get? a=some o∧o.ExactSet∧o.data=.set es ep t∧ElemsOf (intKind prog w) es.toList∧t.fits es.size=true∧Uh t∧(w.params.followText "set-order" = false→t.led=true) ∧
 (es.toList.map keyOf).Nodup∧(∀ k,k∈es.toList.map keyOf↔k∈ks)∧es.size≤ks.length
theorem Y8.keep {h h':Heap} {a:Addr} {ks:List Int} (x:Y8 prog w h a ks) (k:∀ o,h.get? a=some o→h'.get? a=some o):Y8 prog w h' a ks :=
 let ⟨o,es,ep,t,ho,r⟩:=x
 ⟨o,es,ep,t,k _ ho,r⟩
theorem Zf2 {h:Heap} {a:Addr} {o:Obj} {es es':Array (Int×Value)} {ep:Nat} {t t':SetTable} {ks:List Int} (ho:h.get? a=some o) (hex:o.ExactSet) (hd:o.data=.set es ep t)
  (hel:ElemsOf (intKind prog w) es'.toList) (hf:t'.fits es'.size=true) (ht:Uh t') (hl:w.params.followText "set-order" = false→t'.led=true) (nd:(es'.toList.map keyOf).Nodup)
  (mem:∀ k,k∈es'.toList.map keyOf↔k∈ks) (sz:es'.size≤ks.length) :
  (h.update a (Obj.putSet es' t')).get? a=some { o with data:=.set es' (ep+1) t' }∧Y8 prog w (h.update a (Obj.putSet es' t')) a ks:=by
 have g:(h.update a (Obj.putSet es' t')).get? a=some { o with data:=.set es' (ep+1) t' }:=by
  have q:=Heap.get?_update_self (Obj.putSet es' t') ho (by rw [putSet_of es' t' hd];rfl)
  rw [putSet_of es' t' hd] at q;exact q
 exact ⟨g,_,es',ep+1,t',g,hex,rfl,hel,hf,ht,hl,nd,mem,sz⟩
theorem ZkH {es es':Array (Int×Value)} (p:List.Perm es'.toList es.toList):es'.size=es.size:=by
 have:=p.length_eq
 simpa using this
theorem ZkI {A:Around} {E:Value→Shared→Prop} {s:Shared} {a:Addr} {ks:List Int} {k:Int} {tk:Tok} {Q:Bool→Shared→Prop} (hS:Y8 prog w s.heap a ks) (hr:ks.length+1 < scanBound)
  (h:∀ b h',Heap.SameBut a s.heap h'→Y8 prog w h' a (ks++[k])→Q b { s with heap:=h' }):wpAny (model prog w) A (setAddHashed a (.int k tk) ((intKind prog w).hash k)) Q E s:=by
 obtain ⟨o,es,ep,t,ho,hex,hd,hel,hf,ht,hl,nd,mem,sz⟩:=hS
 have hz:es.size < scanBound:=by omega
 have hkey:(intKind prog w).is k (.int k tk)=true:=intKind_is _ _ _ _
 unfold setAddHashed setAddHashedIn
 refine wpAny_holding (wpAny_bind (wpAny_setState_of ho hd hf ?_))
 dsimp only;rw [byScan_of (knd:=intKind prog w) (x:=.int k tk) rfl hz hel]
 simp only [↓reduceIte];unfold setAddByScan
 refine wpAny_bind (wpAny_bind (wpAny_rule (wpAny_bind (wpAny_setScan_of hkey ho hd hf hel ?_))))
 cases hc:List.findIdx? (fun e=>(intKind prog w).is k e.2) es.toList with
 | some j =>
  dsimp only
  obtain ⟨hj,hp,_⟩:=List.findIdx?_eq_some_iff_getElem.mp hc
  have hk:k∈es.toList.map keyOf:=List.mem_map.mpr ⟨es.toList[j],List.getElem_mem hj,ZkG hel (List.getElem_mem hj) hp⟩
  have q:=h false s.heap (Heap.SameBut.refl a s.heap) ⟨o,es,ep,t,ho,hex,hd,hel,hf,ht,hl,nd,fun k'=>by
   rw [List.mem_append,List.mem_singleton,mem k']
   exact ⟨.inl,fun z=>z.elim id fun e=>by rw [e];exact (mem k).mp hk⟩,by rw [List.length_append];omega⟩
  exact wpAny_pure (wpAny_pure q)
 | none =>
  dsimp only
  have hk:k∉es.toList.map keyOf:=fun z=>by
   obtain ⟨e,he,ek⟩:=List.mem_map.mp z
   have q:=List.findIdx?_eq_none_iff.mp hc e he
   obtain ⟨te,ee⟩:=Zf1 hel he
   rw [ee,ek,intKind_is] at q
   cases q
  have gw:∀ (b:Bool) {s1:Shared} {Q':Unit→Shared→Prop},Q' () s1→wpAny (model prog w) A (match b with | true=>rule "set.scan.the-table-gave-way" | false=>pure ()) Q' E s1 :=
   fun b s1 Q' q=>by
    cases b
    ·exact wpAny_pure q
    ·exact wpAny_rule q
  have pm:=layNew_perm t es ((intKind prog w).hash k) (.int k tk);have fm:=layNew_fits t es ((intKind prog w).hash k) (.int k tk)
  obtain ⟨tm,lm⟩:=ZkE ht es ((intKind prog w).hash k) (.int k tk)
  generalize layNew t es ((intKind prog w).hash k) (.int k tk)=L at pm fm tm lm ⊢
  obtain ⟨es1,t1,wd,gv⟩:=L
  dsimp only at pm fm tm lm ⊢;rw [Array.toList_push] at pm
  have hel1:ElemsOf (intKind prog w) es1.toList:=(hel.push hkey rfl).perm pm
  have km:List.Perm (es1.toList.map keyOf) (es.toList.map keyOf++[k]):=by
   have:=pm.map keyOf
   rw [List.map_append] at this
   exact this
  have nd1:(es1.toList.map keyOf).Nodup:=km.nodup_iff.mpr (List.nodup_append.mpr ⟨nd,by simp,fun a ha b hb=>by
   rw [List.mem_singleton] at hb
   subst hb
   intro e
   subst e
   exact hk ha⟩)
  have mem1:∀ k',k'∈es1.toList.map keyOf↔k'∈ks++[k]:=fun k'=>by
   rw [km.mem_iff,List.mem_append,List.mem_append,mem k']
  have sz1:es1.size=es.size+1:=by
   have:=pm.length_eq
   simpa using this
  have z1:es1.size≤(ks++[k]).length:=by rw [List.length_append,List.length_singleton];omega
  have l1:w.params.followText "set-order" = false→t1.led=true:=fun z=>lm.trans (hl z)
  refine wpAny_bind (gw _ ?_)
  have tail:∀ {R:Option Bool→Shared→Prop},(∀ h',Heap.SameBut a s.heap h'→Y8 prog w h' a (ks++[k])→R (some true) { s with heap:=h' }) →
    wpAny (model prog w) A (do
     storeSet a es1 t1
     if (!wd && t1.tooFull)=true then do
      (match (relayAll t1 es1 (SetTable.grown es1.size)).2.2 with | true=>rule "set.scan.the-table-gave-way" | false=>pure ())
      storeSet a (relayAll t1 es1 (SetTable.grown es1.size)).1 (relayAll t1 es1 (SetTable.grown es1.size)).2.1
      pure (some true)
     else pure (some true)) R E s:=by
   intro R hR
   refine wpAny_bind (wpAny_storeSet_of ho hd ?_ (fits_of_scanBound (by omega)))
   obtain ⟨g1,i1⟩:=Zf2 (prog:=prog) (w:=w) ho hex hd hel1 fm tm l1 nd1 mem1 z1
   have b1:=Heap.SameBut.update s.heap a (Obj.putSet es1 t1)
   split
   ·have p2:=relayAll_perm t1 es1 (SetTable.grown es1.size);have f2:=relayAll_fits t1 es1 (SetTable.grown es1.size)
    obtain ⟨t2,l2⟩:=ZkF tm es1 (SetTable.grown es1.size)
    generalize relayAll t1 es1 (SetTable.grown es1.size)=Y at p2 f2 t2 l2 ⊢
    obtain ⟨es2,t3,gv2⟩:=Y
    dsimp only at p2 f2 t2 l2 ⊢
    have s2:=ZkH p2
    refine wpAny_bind (gw _ (wpAny_bind (wpAny_storeSet_of g1 rfl ?_ (fits_of_scanBound (by omega)))))
    obtain ⟨_,i2⟩:=Zf2 (prog:=prog) (w:=w) (ks:=ks++[k]) g1 hex rfl (hel1.perm p2) f2 t2 (fun z=>l2.trans (l1 z)) ((p2.map keyOf).nodup_iff.mpr nd1) (fun k'=>by rw [(p2.map keyOf).mem_iff];exact mem1 k') (by omega)
    exact wpAny_pure (hR _ (b1.trans (Heap.SameBut.update _ a _)) i2)
   ·exact wpAny_pure (hR _ b1 i1)
  split
  ·refine wpAny_bind ?_
   rw [hashByValue_scannable 8 (show Value.scannable (.int k tk)=true from rfl)]
   refine wpAny_pure ?_
   show wpAny _ _ _ _ _ _
   exact tail fun h' hb hi=>wpAny_pure (h true h' hb hi)
  ·refine wpAny_bind (wpAny_pure ?_)
   exact tail fun h' hb hi=>wpAny_pure (h true h' hb hi)
end
end L2
namespace L2
open PySem PySem.Spec PyProof.Rows
section
variable {prog:Program} {w:World} {A:Around} {R:Result→Shared→Prop} {I:Addr} {fp wr:List Addr} {G:Array GenState→Array GenState→Prop} {n:Nat} {P:Nat→Value→Prop} {St:Nat→Shared→Prop}
theorem ZkJ (W:WalksS prog w A.in1 I fp wr G n P St) (S:Addr) (hSf:S∉fp) (val:Nat→Int) (hval:∀ i v,P i v→∃ t,v=.int (val i) t) (hb:n+1 < scanBound) :
  ∀ (k i:Nat) (s:Shared),n - i=k→i≤n→St i s→Y8 prog w s.heap S ((List.range i).map val)→(∀ s',Moved (S::wr) G s s'→Y8 prog w s'.heap S ((List.range n).map val)→R (.ok (.ret .none)) s') →
   codeAny (model prog w) A (.builtin "set.update.loop" ⟨[.ref S,.ref I],[]⟩) R s:=by
 have nw:S∉wr:=fun z=>hSf (W.sub _ z)
 have sb:∀ b∈wr,b∈S::wr:=fun b z=>List.mem_cons_of_mem _ z
 intro k
 induction k with
 | zero =>
  intro i s hk hi st hS hR
  obtain rfl:i=n:=by omega
  refine codeAny_builtin PyProof.Rows.F.entry_set_update_loop ?_
  rw [Around.under_plainId PyProof.Rows.F.plain_set_update_loop _]
  refine wpAny_bind (m:=pyNext (.ref I)) (W.done s _ _ st fun s' hm=>?_)
  exact wpAny_pure (hR s' (hm.mono sb) (hS.keep fun o e=>hm.heap S o nw e))
 | succ k ih =>
  intro i s hk hi st hS hR
  have lt:i < n:=by omega
  refine codeAny_builtin PyProof.Rows.F.entry_set_update_loop ?_
  rw [Around.under_plainId PyProof.Rows.F.plain_set_update_loop _]
  refine wpAny_bind (m:=pyNext (.ref I)) (W.item i s _ _ lt st fun v s' hP st' hm=>?_)
  obtain ⟨tk,rfl⟩:=hval i v hP
  have hS':=hS.keep fun o e=>hm.heap S o nw e
  refine wpAny_bind (m:=holding [Value.int (val i) tk] (setAdd S (.int (val i) tk))) (wpAny_holding ?_)
  unfold setAdd
  refine wpAny_holding (wpAny_bind ((intKind prog w).pyHash (k:=val i) (intKind_is _ _ _ _) ?_))
  refine ZkI (s:={ s' with toks:=s'.toks+1 }) hS' (by rw [List.length_map,List.length_range];omega) fun b h' hsb hi=>?_
  have e:((List.range i).map val)++[val i]=(List.range (i+1)).map val:=by rw [List.range_succ,List.map_append];rfl
  rw [e] at hi
  refine wpAny_pure ⟨plainId_quiet PyProof.Rows.F.plain_set_update_loop _,ih (i+1) _ (by omega) lt (W.frame _ s' _ _ st' (Nat.le_succ _) fun b hb o e=>?_) hi fun s'' hm'' hS''=>?_⟩
  ·rw [hsb.2 b (fun z:b=S=>hSf (by rw [← z];exact hb))];exact e
  ·refine hR s'' (Moved.trans W.gtrans ((hm.mono sb).then_heap (Nat.le_succ _) fun b o hb e=>?_) hm'') hS''
   rw [hsb.2 b (fun z:b=S=>hb (by rw [z];exact List.mem_cons_self))];exact e
end
end L2
namespace L2
open PySem
theorem Zcq {α:Type}:∀ (l:List α) (i:Nat) (x:α),l[i]? = some x→List.Perm (x::l.eraseIdx i) l
 | [],i,x,h=>by cases h
 | a::r,0,x,h=>by cases h;exact .refl _
 | a::r,i+1,x,h=>(List.Perm.swap a x _).trans ((Zcq r i x h).cons a)
theorem Zf3 {α:Type} (f:Nat→Nat):∀ (n k:Nat) (l:List α) (out:Array α),l.length=n→List.Perm (pickOrder.go f n k l out).toList (out.toList++l)
 | 0,k,l,out,h=>by
  cases l with
  | nil=>unfold pickOrder.go;rw [List.append_nil]
  | cons a r=>cases h
 | n+1,k,l,out,h=>by
  unfold pickOrder.go
  have hl:f k % l.length < l.length:=Nat.mod_lt _ (by omega)
  rw [List.getElem?_eq_getElem hl]
  dsimp only
  have p:=Zcq l _ _ (List.getElem?_eq_getElem hl)
  refine (Zf3 f n (k+1) _ _ ?_).trans ?_
  ·have:=p.length_eq
   rw [List.length_cons] at this
   omega
  ·rw [Array.toList_push,List.append_assoc]
   exact List.Perm.append_left _ p
theorem Zcr {α:Type} (f:Nat→Nat) (xs:Array α):List.Perm (pickOrder f xs).toList xs.toList:=by
 have:=Zf3 f xs.size 0 xs.toList #[] (by simp)
 rw [show (#[]:Array α).toList++xs.toList=xs.toList from rfl] at this
 exact this
section
variable {prog:Program} {w:World} {A:Around} {E:Value→Shared→Prop} {s:Shared}
theorem ZkK {M:Model} {src:Source} {n:Nat} {Q:Nat→Shared→Prop} (hn:n≠0) (h:∀ i d,i < n→Q i { s with drawn:=d }):wpAny M A (choose src n) Q E s:=fun Γ p hΓ=>by
 show Sem.wp M Γ (Sem.choose src n Sem.pure) _ _ p s
 unfold Sem.wp
 refine ⟨hn,?_⟩
 unfold Sem.wp
 exact h _ _ (Nat.mod_lt _ (Nat.pos_of_ne_zero hn))
theorem Zf4 {M:Model} {α:Type}:∀ (n:Nat) (xs:List α) (s:Shared) {Q:List α→Shared→Prop},xs.length=n→(∀ ys d,List.Perm ys xs→Q ys { s with drawn:=d })→wpAny M A (drawOrder n xs) Q E s
 | 0,xs,s,Q,hl,h=>by
  cases xs with
  | nil=>exact wpAny_pure (h [] s.drawn .nil)
  | cons a r=>cases hl
 | n+1,xs,s,Q,hl,h=>by
  cases xs with
  | nil=>cases hl
  | cons a r =>
   unfold drawOrder
   refine wpAny_bind (ZkK (by simp) fun i d hi=>?_)
   rw [List.getElem?_eq_getElem hi]
   dsimp only
   have p:=Zcq (a::r) _ _ (List.getElem?_eq_getElem hi)
   refine wpAny_bind (Zf4 n _ _ (by have:=p.length_eq;rw [List.length_cons] at this;omega) fun ys d' hp=>?_)
   exact wpAny_pure (h _ d' ((hp.cons _).trans p))
def XV (h:Heap) (I:Addr) (f:Value) (i:Nat) (p n ep:Nat):Prop:=∃ o,h.get? I=some o∧o.cls=.type "set_iterator" ∧ o.data=.fields #[f,.int i 0,.ref p,.int n 0,.int ep 0]
theorem XV.ty {I p n ep i:Nat} {f:Value} (x:XV s.heap I f i p n ep):s.TypeIs (.ref I) "set_iterator" := let ⟨o,ho,hc,_⟩:=x;⟨o,ho,hc⟩
def Wo (h:Heap) (p ep:Nat) (es:Array (Int×Value)) (t:SetTable):Prop:=∃ o,h.get? p=some o∧o.ExactSet∧o.data=.set es ep t∧t.fits es.size=true
theorem VW:Slot "set_iterator" "__next__" "set_iterator.__next__" := .of (owner := "set_iterator") (n := "__next__") (by rw [typeLookup_type,builtinLookup_eq_fast];kernel_rfl) (by decide +kernel) (by decide +kernel) (by decide +kernel) (by first | exact .inl (by decide +kernel) | exact .inr (by decide +kernel)) (by rw [isSubtype_type];kernel_rfl)
theorem Zbm:entryFor table "set_iterator.__next__" = some Builtin.«set_iterator.__next__»:=entryFor_of_tree (by kernel_rfl)
theorem Zbn (a:Value):argsOk "set_iterator.__next__" ⟨[a],[]⟩:=by unfold argsOk;kernel_rfl
theorem ZkL:entryFor table "set.__iter__" = some Builtin.«frozenset.__iter__»:=entryFor_alias (id' := "frozenset.__iter__") (by kernel_rfl) rfl (by decide +kernel) (by kernel_rfl)
theorem Zf5:typeLookup (.type "set_iterator") "__next__" = pure (some (.builtin "set_iterator.__next__")):=VW.lookup
theorem ZkM {p ep:Nat} {es:Array (Int×Value)} {t:SetTable} {Q:Value→Shared→Prop} (hS:Wo s.heap p ep es t)
  (hq:(w.params.followText "set-order" = true∨(t.plain=true∨es.size≤1))→Q (.ref s.heap.objs.size) { s with heap:=s.heap.push { cls:=.type "set_iterator",data:=.fields #[.int 0 0,.int 0 0,.ref p,.int es.size 0,.int ep 0] } })
  (hd:∀ (ys:List Nat) (d:Drawn),List.Perm ys (List.range es.size)→Q (.ref (s.heap.objs.size+1)) { s with heap:=(s.heap.push { cls:=.type "tuple",data:=.seq (ys.map fun i=>rawInt (i:Nat)).toArray }).push { cls:=.type "set_iterator",data:=.fields #[.ref s.heap.objs.size,.int 0 0,.ref p,.int es.size 0,.int ep 0] },drawn:=d })
  (hz:es.size≤sizeLine):wpAny (model prog w) A (pyIter (.ref p)) Q E s:=by
 obtain ⟨o,ho,hex,hdt,hf⟩:=hS
 have hT:s.TypeIs (.ref p) "set" := ⟨o,ho,hex.1⟩
 refine wpAny_pyIter_slot hT F.slot_set_iter (wpAny_call_entry F.slot_set_iter hT ZkL ?_ (F.args_set_iter_1 _))
 unfold Builtin.«frozenset.__iter__»
 refine wpAny_bind (m:=Builtin.Frozenset.slot0 "__iter__" _) (wpAny_pure ?_)
 refine wpAny_bind (m:=Builtin.Frozenset.sizeOf p) ?_
 unfold Builtin.Frozenset.sizeOf setEntries
 refine wpAny_bind (wpAny_bind (wpAny_setState_of ho hdt hf (wpAny_pure (wpAny_pure ?_))))
 unfold setDrawn setsByText
 refine wpAny_bind (wpAny_bind (wpAny_setState_of ho hdt hf (wpAny_bind (wpAny_bind (wpAny_askSetting (wpAny_pure (wpAny_pure ?_)))))))
 have low:∀ {f:Value} {h2:Heap} {d:Drawn},h2.get? p=some o→Q (.ref h2.objs.size) { s with heap:=h2.push { cls:=.type "set_iterator",data:=.fields #[f,.int 0 0,.ref p,.int es.size 0,.int ep 0] },drawn:=d } →
   wpAny (model prog w) A.in1 (do
    let ep' ← setEpoch p
    let it ← newFields "set_iterator" [f,rawInt 0,Value.ref p,rawInt (es.size:Nat),rawInt (ep':Nat)]
    ret it) (fun fin s'=>∃ v,fin=Fin.done (Flow.ret v)∧∃ T' r,s'.TypeIs v T'∧typeLookup (Value.type T') (Str.ofString "__next__")=pure (some r)∧Q v s') E { s with heap:=h2,drawn:=d }:=fun {f h2 d} g q=>by
  refine wpAny_bind (wpAny_setEpoch_of (s:={ s with heap:=h2,drawn:=d }) g hdt hf ?_)
  exact wpAny_bind (wpAny_newObj_type (wpAny_pure ⟨_,rfl,"set_iterator",_,⟨_,Heap.get?_push_size _ rfl,rfl⟩,Zf5,q⟩))
 refine wpAny_ite_split (fun c=>?_) (fun c=>?_)
 ·refine wpAny_bind (Zf4 es.size _ _ (by simp) fun ys d hp=>?_)
  have hy:ys.length=es.size:=by have:=hp.length_eq;simpa using this
  refine wpAny_bind (m:=newTuple _) (wpAny_newObj_type ?_ (by show (ys.map fun i=>rawInt (i:Nat)).toArray.size≤sizeLine;rw [List.size_toArray,List.length_map,hy];exact hz))
  have q:=hd ys d hp
  have e:s.heap.objs.size+1=(s.heap.push { cls:=.type "tuple",data:=.seq (ys.map fun i=>rawInt (i:Nat)).toArray }).objs.size:=(Heap.size_push _ _).symm
  rw [e] at q
  exact low (Heap.get?_push_of_some _ ho) q
 ·refine wpAny_bind (wpAny_pure (low (d:=s.drawn) ho (hq ?_)))
  have c':¬ (!w.params.followText "set-order" && (!t.plain && decide (es.size > 1)))=true:=c
  cases h1:w.params.followText "set-order" with
  | true=>exact .inl rfl
  | false =>
   right
   cases h2:t.plain with
   | true=>exact .inl rfl
   | false =>
    right
    rw [h1,h2] at c'
    simp at c'
    exact c'
end
end L2
namespace L2
open PySem
section
variable {prog:Program} {w:World} {A:Around} {E:Value→Shared→Prop} {s:Shared}
theorem ZkN {h:Heap} {I p n ep i:Nat} {f g:Value} (x:XV h I f i p n ep) :
  XV ((h.update I (Obj.mapFields (·.setIfInBounds 0 g))).update I (Obj.mapFields (·.setIfInBounds 1 (rawInt ((i:Int)+1))))) I g (i+1) p n ep:=by
 obtain ⟨o,ho,hc,hd⟩:=x
 have d1:=Obj.data_mapFields hd (·.setIfInBounds 0 g)
 have g1:=Heap.get?_update_self (Obj.mapFields (·.setIfInBounds 0 g)) ho (Obj.isFreed_of_fields d1)
 have d2:=Obj.data_mapFields d1 (·.setIfInBounds 1 (rawInt ((i:Int)+1)))
 refine ⟨_,Heap.get?_update_self _ g1 (Obj.isFreed_of_fields d2),(Obj.cls_mapFields ..).trans ((Obj.cls_mapFields ..).trans hc),?_⟩
 rw [d2]
 simp [rawInt]
theorem Zf6 {I p ep i slot nx:Nat} {es:Array (Int×Value)} {t:SetTable} {x:Value} {Q:Option Value→Shared→Prop} (hI:XV s.heap I (.int slot 0) i p es.size ep) (hS:Wo s.heap p ep es t)
  (hN:∀ (A':Around) (E':Value→Shared→Prop) (Q':Option (Value×Nat)→Shared→Prop),Q' (some (x,nx)) s→wpAny (model prog w) A' (setNext p slot i ep) Q' E' s)
  (hQ:∀ h',XV h' I (.int nx 0) (i+1) p es.size ep→Heap.SameBut I s.heap h'→Q (some x) { s with heap:=h' }):wpAny (model prog w) A (pyNext (.ref I)) Q E s:=by
 obtain ⟨o,ho,hc,hd⟩:=id hI
 obtain ⟨op,hop,hex,hdp,hf⟩:=hS
 unfold pyNext
 refine wpAny_bind (wpAny_attempt (wpAny_callSpecial?_slot (name:=Str.ofString "__next__") hI.ty VW (wpAny_call_entry VW hI.ty Zbm ?_ (Zbn _))))
 unfold Builtin.«set_iterator.__next__»
 refine wpAny_bind (m:=slotArgs "__next__" 0 _) (wpAny_pure ?_)
 refine wpAny_bind (wpAny_fieldsOf ho hd ?_)
 dsimp only
 unfold setEntries
 refine wpAny_bind (wpAny_bind (wpAny_setState_of hop hdp hf (wpAny_pure ?_)))
 rw [if_neg (by simp)]
 simp only [Int.toNat_natCast]
 refine wpAny_bind (hN _ _ _ ?_)
 dsimp only
 refine wpAny_bind (wpAny_setField ho hd (by simp) ?_)
 have d1:=Obj.data_mapFields hd (·.setIfInBounds 0 (rawInt ((nx:Nat):Int)))
 have g1:=Heap.get?_update_self (Obj.mapFields (·.setIfInBounds 0 (rawInt ((nx:Nat):Int)))) ho (Obj.isFreed_of_fields d1)
 refine wpAny_bind (wpAny_setField (s:={ s with heap:=s.heap.update I (Obj.mapFields (·.setIfInBounds 0 (rawInt ((nx:Nat):Int)))) }) g1 d1 (by simp) ?_)
 exact wpAny_pure ⟨_,rfl,wpAny_pure (hQ _ (ZkN hI) ((Heap.SameBut.update ..).trans (Heap.SameBut.update ..)))⟩
theorem Zf7 {I p ep i slot:Nat} {es:Array (Int×Value)} {t:SetTable} {Q:Option Value→Shared→Prop} (hh:A.handled=none) (hI:XV s.heap I (.int slot 0) i p es.size ep) (hS:Wo s.heap p ep es t)
  (hN:∀ (A':Around) (E':Value→Shared→Prop) (Q':Option (Value×Nat)→Shared→Prop),Q' none s→wpAny (model prog w) A' (setNext p slot i ep) Q' E' s)
  (hQ:∀ h',Heap.ExtBut I s.heap h'→Q none { s with heap:=h' }):wpAny (model prog w) A (pyNext (.ref I)) Q E s:=by
 obtain ⟨o,ho,hc,hd⟩:=id hI
 obtain ⟨op,hop,hex,hdp,hf⟩:=id hS
 unfold pyNext
 refine wpAny_bind (wpAny_attempt (wpAny_callSpecial?_slot (name:=Str.ofString "__next__") hI.ty VW (wpAny_call_entry VW hI.ty Zbm ?_ (Zbn _))))
 unfold Builtin.«set_iterator.__next__»
 refine wpAny_bind (m:=slotArgs "__next__" 0 _) (wpAny_pure ?_)
 refine wpAny_bind (wpAny_fieldsOf ho hd ?_)
 dsimp only
 unfold setEntries
 refine wpAny_bind (wpAny_bind (wpAny_setState_of hop hdp hf (wpAny_pure ?_)))
 rw [if_neg (by simp)]
 simp only [Int.toNat_natCast]
 refine wpAny_bind (hN _ _ _ ?_)
 dsimp only
 refine wpAny_bind (wpAny_setField ho hd (by simp) ?_)
 have s1:=Heap.SameBut.update s.heap I (Obj.mapFields (·.setIfInBounds 2 Value.none))
 simp only [newExc,newTuple]
 refine wpAny_bind (wpAny_bind (wpAny_newObj_type (wpAny_bind (m:=firstArgMember _ _) (wpAny_of_eq (a:=Value.none) (by simp only [firstArgMember];rfl) (wpAny_newObj_type ?_ (by size_fits)))) (by size_fits)))
 simp only [raiseNew]
 refine wpAny_bind (wpAny_handled ?_)
 rw [show A.in1.handled=none from hh]
 refine wpAny_bind (wpAny_pure (wpAny_throw ?_));refine wpAny_bind (wpAny_isInstance (T := "StopIteration") (b:=true) ⟨_,Heap.get?_push_size _ rfl,rfl⟩ isSubtype_stop ?_)
 exact wpAny_pure (hQ _ ((s1.extBut.push _).push _))
def Qg (h:Heap) (T:Nat) (ys:List Nat):Prop:=∃ o,h.get? T=some o∧o.cls=.type "tuple" ∧ ∃ n,o.data=.seq (ys.map fun i=>rawInt (i:Nat)).toArray n
theorem ZkO {I p ep i T j:Nat} {es:Array (Int×Value)} {t:SetTable} {ys:List Nat} {e:Int×Value} {Q:Option Value→Shared→Prop} (hI:XV s.heap I (.ref T) i p es.size ep) (hS:Wo s.heap p ep es t) (hT:Qg s.heap T ys)
  (hj:ys[i]? = some j) (he:es[j]? = some e) (hQ:∀ h',XV h' I (.ref T) (i+1) p es.size ep→Heap.SameBut I s.heap h'→Q (some e.2) { s with heap:=h' }):wpAny (model prog w) A (pyNext (.ref I)) Q E s:=by
 obtain ⟨o,ho,hc,hd⟩:=id hI
 obtain ⟨op,hop,hex,hdp,hf⟩:=id hS
 unfold pyNext
 refine wpAny_bind (wpAny_attempt (wpAny_callSpecial?_slot (name:=Str.ofString "__next__") hI.ty VW (wpAny_call_entry VW hI.ty Zbm ?_ (Zbn _))))
 unfold Builtin.«set_iterator.__next__»
 refine wpAny_bind (m:=slotArgs "__next__" 0 _) (wpAny_pure ?_)
 refine wpAny_bind (wpAny_fieldsOf ho hd ?_)
 dsimp only
 unfold setEntries
 refine wpAny_bind (wpAny_bind (wpAny_setState_of hop hdp hf (wpAny_pure ?_)))
 rw [if_neg (by simp)]
 obtain ⟨oT,hoT,hcT,nT,hdT⟩:=hT
 refine wpAny_bind (wpAny_seqItems hoT hdT ?_)
 dsimp only
 rw [Int.toNat_natCast,List.getElem?_toArray,List.getElem?_map,hj]
 show wpAny _ _ (setNextDrawn p j ep >>= _) _ _ s
 unfold setNextDrawn
 refine wpAny_bind (wpAny_bind (wpAny_setState_of hop hdp hf ?_))
 dsimp only
 rw [if_neg (by simp)]
 rw [he]
 refine wpAny_pure (wpAny_bind (wpAny_setField ho hd (by simp) ?_))
 have d1:=Obj.data_mapFields hd (·.setIfInBounds 1 (rawInt ((i:Int)+1)))
 refine wpAny_pure ⟨_,rfl,wpAny_pure (hQ _ ⟨_,Heap.get?_update_self _ ho (Obj.isFreed_of_fields d1),(Obj.cls_mapFields ..).trans hc,?_⟩ (Heap.SameBut.update ..))⟩
 rw [d1]
 simp [rawInt]
theorem ZkP {I p ep i T:Nat} {es:Array (Int×Value)} {t:SetTable} {ys:List Nat} {Q:Option Value→Shared→Prop} (hh:A.handled=none) (hI:XV s.heap I (.ref T) i p es.size ep) (hS:Wo s.heap p ep es t) (hT:Qg s.heap T ys)
  (hj:ys[i]? = none) (hQ:∀ h',Heap.ExtBut I s.heap h'→Q none { s with heap:=h' }):wpAny (model prog w) A (pyNext (.ref I)) Q E s:=by
 obtain ⟨o,ho,hc,hd⟩:=id hI
 obtain ⟨op,hop,hex,hdp,hf⟩:=id hS
 unfold pyNext
 refine wpAny_bind (wpAny_attempt (wpAny_callSpecial?_slot (name:=Str.ofString "__next__") hI.ty VW (wpAny_call_entry VW hI.ty Zbm ?_ (Zbn _))))
 unfold Builtin.«set_iterator.__next__»
 refine wpAny_bind (m:=slotArgs "__next__" 0 _) (wpAny_pure ?_)
 refine wpAny_bind (wpAny_fieldsOf ho hd ?_)
 dsimp only
 unfold setEntries
 refine wpAny_bind (wpAny_bind (wpAny_setState_of hop hdp hf (wpAny_pure ?_)))
 rw [if_neg (by simp)]
 obtain ⟨oT,hoT,hcT,nT,hdT⟩:=hT
 refine wpAny_bind (wpAny_seqItems hoT hdT ?_)
 dsimp only
 rw [Int.toNat_natCast,List.getElem?_toArray,List.getElem?_map,hj]
 dsimp only [Option.map_none]
 refine wpAny_bind (wpAny_setField ho hd (by simp) ?_)
 have d1:=Obj.data_mapFields hd (·.setIfInBounds 0 (rawInt 0))
 have g1:=Heap.get?_update_self (Obj.mapFields (·.setIfInBounds 0 (rawInt 0))) ho (Obj.isFreed_of_fields d1)
 refine wpAny_bind (wpAny_setField (s:={ s with heap:=s.heap.update I (Obj.mapFields (·.setIfInBounds 0 (rawInt 0))) }) g1 d1 (by simp) ?_)
 have s1:=(Heap.SameBut.update s.heap I (Obj.mapFields (·.setIfInBounds 0 (rawInt 0)))).trans (Heap.SameBut.update (s.heap.update I (Obj.mapFields (·.setIfInBounds 0 (rawInt 0)))) I (Obj.mapFields (·.setIfInBounds 2 Value.none)))
 simp only [newExc,newTuple]
 refine wpAny_bind (wpAny_bind (wpAny_newObj_type (wpAny_bind (m:=firstArgMember _ _) (wpAny_of_eq (a:=Value.none) (by simp only [firstArgMember];rfl) (wpAny_newObj_type ?_ (by size_fits)))) (by size_fits)))
 simp only [raiseNew]
 refine wpAny_bind (wpAny_handled ?_)
 rw [show A.in1.handled=none from hh]
 refine wpAny_bind (wpAny_pure (wpAny_throw ?_));refine wpAny_bind (wpAny_isInstance (T := "StopIteration") (b:=true) ⟨_,Heap.get?_push_size _ rfl,rfl⟩ isSubtype_stop ?_)
 exact wpAny_pure (hQ _ ((s1.extBut.push _).push _))
theorem Zf8 {p ep slot i:Nat} {es:Array (Int×Value)} {t:SetTable} {Q:Option (Value×Nat)→Shared→Prop} (hx:w.params.followText "set-order" = true) (hS:Wo s.heap p ep es t)
  (h:Q (((pickOrder (w.params.setOrder p ep) es)[i]?).map fun e=>(e.2,slot)) s):wpAny (model prog w) A (setNext p slot i ep) Q E s:=by
 obtain ⟨op,hop,hex,hdp,hf⟩:=hS
 unfold setNext setsByText
 refine wpAny_bind (wpAny_setState_of hop hdp hf (wpAny_bind (wpAny_bind (wpAny_askSetting (wpAny_pure ?_)))))
 dsimp only
 rw [if_pos (show (model prog w).w.params.followText "set-order" = true from hx),if_neg (by simp)]
 unfold setWalk setsByText
 refine wpAny_bind (wpAny_bind (wpAny_setState_of hop hdp hf (wpAny_bind (wpAny_bind (wpAny_askSetting (wpAny_pure ?_))))))
 dsimp only
 rw [if_pos (show (model prog w).w.params.followText "set-order" = true from hx)]
 exact wpAny_bind (wpAny_askSetting (wpAny_pure (wpAny_pure h)))
theorem Zf9 {p ep slot i:Nat} {es:Array (Int×Value)} {t:SetTable} {Q:Option (Value×Nat)→Shared→Prop} (hx:w.params.followText "set-order" = false) (hp:t.plain=true∨es.size≤1) (hl:t.led=true) (hS:Wo s.heap p ep es t)
  (h:Q (match es[SetTable.below t.place slot]?,t.place[SetTable.below t.place slot]? with | some (_,x),some j=>some (x,j+1) | _,_=>none) s):wpAny (model prog w) A (setNext p slot i ep) Q E s:=by
 obtain ⟨op,hop,hex,hdp,hf⟩:=hS
 unfold setNext setsByText
 refine wpAny_bind (wpAny_setState_of hop hdp hf (wpAny_bind (wpAny_bind (wpAny_askSetting (wpAny_pure ?_)))))
 dsimp only
 rw [if_neg (show ¬ (model prog w).w.params.followText "set-order" = true by intro z;rw [show (model prog w).w.params.followText "set-order" = w.params.followText "set-order" from rfl,hx] at z;cases z)]
 refine wpAny_ite_split (fun c=>?_) (fun c=>?_)
 ·exfalso
  have c':(!t.plain && decide (es.size > 1))=true:=c
  rw [Bool.and_eq_true,decide_eq_true_eq] at c'
  rcases hp with hp | hp
  ·rw [hp] at c';cases c'.1
  ·omega
 ·refine wpAny_bind ?_
  show wpAny _ _ (if (!t.led && !es.isEmpty)=true then unsupported _ else pure ()) _ _ _
  rw [if_neg (by rw [hl];simp)]
  exact wpAny_pure (wpAny_pure h)
end
end L2
namespace L2
open PySem PyProof.Rows
section
variable {prog:Program} {w:World} {A:Around} {E:Value→Shared→Prop} {s:Shared}
theorem Zga:Slot "set_iterator" "__iter__" "set_iterator.__iter__" := .of (owner := "set_iterator") (n := "__iter__") (by rw [typeLookup_type,builtinLookup_eq_fast];kernel_rfl) (by decide +kernel) (by decide +kernel) (by decide +kernel) (by first | exact .inl (by decide +kernel) | exact .inr (by decide +kernel)) (by rw [isSubtype_type];kernel_rfl)
theorem ZkQ:entryFor table "set_iterator.__iter__" = some Builtin.«dict_keyiterator.__iter__»:=entryFor_alias (id' := "dict_keyiterator.__iter__") (by kernel_rfl) rfl (by decide +kernel) (by kernel_rfl)
theorem ZkR (a:Value):argsOk "set_iterator.__iter__" ⟨[a],[]⟩:=by unfold argsOk;kernel_rfl
theorem Zcs {I p n ep i:Nat} {f:Value} {Q:Value→Shared→Prop} (x:XV s.heap I f i p n ep) (h:Q (.ref I) s):wpAny (model prog w) A (pyIter (.ref I)) Q E s:=by
 refine wpAny_pyIter_slot x.ty Zga (wpAny_call_entry Zga x.ty ZkQ (show wpAny _ _ (ret (.ref I)) _ _ s from ?_) (ZkR _))
 exact wpAny_pure ⟨_,rfl,"set_iterator",_,x.ty,Zf5,h⟩
theorem XV.keep {h h':Heap} {I p n ep i:Nat} {f:Value} (x:XV h I f i p n ep) (k:∀ o,h.get? I=some o→h'.get? I=some o):XV h' I f i p n ep:=let ⟨o,ho,r⟩:=x;⟨o,k _ ho,r⟩
theorem Wo.keep {h h':Heap} {p ep:Nat} {es:Array (Int×Value)} {t:SetTable} (x:Wo h p ep es t) (k:∀ o,h.get? p=some o→h'.get? p=some o):Wo h' p ep es t:=let ⟨o,ho,r⟩:=x;⟨o,k _ ho,r⟩
theorem Qg.keep {h h':Heap} {T:Nat} {ys:List Nat} (x:Qg h T ys) (k:∀ o,h.get? T=some o→h'.get? T=some o):Qg h' T ys:=let ⟨o,ho,r⟩:=x;⟨o,k _ ho,r⟩
theorem ZkS (hh:A.handled=none) (I p ep:Nat) (hne:p≠I) (es:Array (Int×Value)) (t:SetTable) (hx:w.params.followText "set-order" = true) :
  Walks prog w A I [I,p] [I] es.size (fun i v=>((pickOrder (w.params.setOrder p ep) es).toList.map (·.2))[i]? = some v) (fun i h=>XV h I (.int 0 0) i p es.size ep∧Wo h p ep es t) where
 sub:=fun b hb=>by rw [List.mem_singleton] at hb;rw [hb];exact List.mem_cons_self
 frame:=fun _ _ _ st k=>⟨st.1.keep (k I List.mem_cons_self),st.2.keep (k p (List.mem_cons_of_mem _ List.mem_cons_self))⟩
 item:=fun i s Q E hi st hQ=>by
  have hl:i < (pickOrder (w.params.setOrder p ep) es).size:=by
   have:=(Zcr (w.params.setOrder p ep) es).length_eq
   rw [Array.length_toList,Array.length_toList] at this
   omega
  have g:=Array.getElem?_eq_getElem hl
  refine Zf6 (nx:=0) (x:=((pickOrder (w.params.setOrder p ep) es)[i]).2) (slot:=0) st.1 st.2 (fun A' E' Q' q=>Zf8 hx st.2 (by rw [g];exact q)) fun h' hI hb=>?_
  refine hQ _ h' s.toks ?_ ⟨hI,st.2.keep fun o e=>hb.extBut p o hne e⟩ fun b o hn e=>hb.extBut b o (fun z=>hn (by rw [z];exact List.mem_singleton.mpr rfl)) e
  rw [List.getElem?_map,Array.getElem?_toList,g];rfl
 done:=fun s Q E st hQ=>by
  have g:(pickOrder (w.params.setOrder p ep) es)[es.size]? = none:=by
   have:=(Zcr (w.params.setOrder p ep) es).length_eq
   rw [Array.length_toList,Array.length_toList] at this
   exact Array.getElem?_eq_none (by omega)
  exact Zf7 (slot:=0) hh st.1 st.2 (fun A' E' Q' q=>Zf8 hx st.2 (by rw [g];exact q)) fun h' hb=>hQ h' s.toks fun b o hn e=>hb b o (fun z=>hn (by rw [z];exact List.mem_singleton.mpr rfl)) e
 self:=fun _ _ _ _ st hQ=>Zcs st.1 hQ
def Ve (t:SetTable):Nat→Nat
 | 0=>0
 | i+1=>t.place.getD i 0+1
theorem Zgb {t:SetTable} (h:VU t.place):∀ i,i≤t.place.size→SetTable.below t.place (Ve t i)=i
 | 0,_=>by
  obtain ⟨b0,b1,b2⟩:=Zcp (j:=Ve t 0) h
  by_cases c:SetTable.below t.place (Ve t 0)=0
  ·exact c
  ·exact absurd (b1 0 (by omega)) (Nat.not_lt_zero _)
 | i+1,hi=>by
  obtain ⟨b0,b1,b2⟩:=Zcp (j:=Ve t (i+1)) h
  have e:∀ k d,k < t.place.size→t.place.getD k d=t.place.getD k 0:=fun k d hk=>by simp [Array.getD,hk]
  have c1:i < SetTable.below t.place (Ve t (i+1)):=by
   by_cases c:SetTable.below t.place (Ve t (i+1))≤i
   ·have:=b2 i c hi
    rw [e i _ hi] at this
    exact absurd this (Nat.not_succ_le_self _)
   ·omega
  by_cases c2:SetTable.below t.place (Ve t (i+1))=i+1
  ·exact c2
  ·have l:=b1 (i+1) (by omega)
   have hk:i+1 < t.place.size:=by omega
   rw [e _ _ hk] at l
   have r:t.place.getD i 0 < t.place.getD (i+1) 0:=Zbl (d:=0) h (Nat.lt_succ_self i) hk
   have l':t.place.getD (i+1) 0 < t.place.getD i 0+1:=l
   omega
theorem ZkT (hh:A.handled=none) (I p ep:Nat) (hne:p≠I) (es:Array (Int×Value)) (t:SetTable) (hx:w.params.followText "set-order" = false) (hp:t.plain=true∨es.size≤1) (hl:t.led=true) (hz:t.place.size=es.size) (hr:VU t.place) :
  Walks prog w A I [I,p] [I] es.size (fun i v=>(es.toList.map (·.2))[i]? = some v) (fun i h=>XV h I (.int (Ve t i) 0) i p es.size ep∧Wo h p ep es t) where
 sub:=fun b hb=>by rw [List.mem_singleton] at hb;rw [hb];exact List.mem_cons_self
 frame:=fun _ _ _ st k=>⟨st.1.keep (k I List.mem_cons_self),st.2.keep (k p (List.mem_cons_of_mem _ List.mem_cons_self))⟩
 item:=fun i s Q E hi st hQ=>by
  have g:=Array.getElem?_eq_getElem hi
  have hi2:i < t.place.size:=by omega
  have g2:=Array.getElem?_eq_getElem hi2
  have e2:Ve t (i+1)=t.place[i]+1:=by
   show t.place.getD i 0+1=_
   simp [Array.getD,hi2]
  refine Zf6 (nx:=t.place[i]+1) (x:=(es[i]).2) (slot:=Ve t i) st.1 st.2 (fun A' E' Q' q=>Zf9 hx hp hl st.2 (by rw [Zgb hr i (by omega),g,g2];exact q)) fun h' hI hb=>?_
  refine hQ _ h' s.toks ?_ ⟨by rw [e2];exact hI,st.2.keep fun o e=>hb.extBut p o hne e⟩ fun b o hn e=>hb.extBut b o (fun z=>hn (by rw [z];exact List.mem_singleton.mpr rfl)) e
  rw [List.getElem?_map,Array.getElem?_toList,g];rfl
 done:=fun s Q E st hQ=>by
  have g:es[es.size]? = none:=Array.getElem?_eq_none (Nat.le_refl _)
  exact Zf7 (slot:=Ve t es.size) hh st.1 st.2 (fun A' E' Q' q=>Zf9 hx hp hl st.2 (by rw [Zgb hr _ (by omega),g];exact q)) fun h' hb=>hQ h' s.toks fun b o hn e=>hb b o (fun z=>hn (by rw [z];exact List.mem_singleton.mpr rfl)) e
 self:=fun _ _ _ _ st hQ=>Zcs st.1 hQ
theorem ZkU (hh:A.handled=none) (I p T ep:Nat) (hne:p≠I) (hnT:T≠I) (es:Array (Int×Value)) (t:SetTable) (ys:List Nat) (hy:List.Perm ys (List.range es.size)) :
  Walks prog w A I [I,p,T] [I] es.size (fun i v=>(ys.map fun j=>(es.getD j (0,.none)).2)[i]? = some v) (fun i h=>XV h I (.ref T) i p es.size ep∧Wo h p ep es t∧Qg h T ys) where
 sub:=fun b hb=>by rw [List.mem_singleton] at hb;rw [hb];exact List.mem_cons_self
 frame:=fun _ _ _ st k=>⟨st.1.keep (k I (by simp)),st.2.1.keep (k p (by simp)),st.2.2.keep (k T (by simp))⟩
 item:=fun i s Q E hi st hQ=>by
  have hl:i < ys.length:=by have:=hy.length_eq;rw [List.length_range] at this;omega
  have g:=List.getElem?_eq_getElem hl
  have hj:ys[i] < es.size:=List.mem_range.mp (hy.mem_iff.mp (List.getElem_mem hl))
  refine ZkO st.1 st.2.1 st.2.2 g (Array.getElem?_eq_getElem hj) fun h' hI hb=>?_
  refine hQ _ h' s.toks ?_ ⟨hI,st.2.1.keep fun o e=>hb.extBut p o hne e,st.2.2.keep fun o e=>hb.extBut T o hnT e⟩ fun b o hn e=>hb.extBut b o (fun z=>hn (by rw [z];exact List.mem_singleton.mpr rfl)) e
  rw [List.getElem?_map,g]
  simp [Array.getD,hj]
 done:=fun s Q E st hQ=>by
  have g:ys[es.size]? = none:=List.getElem?_eq_none (by have:=hy.length_eq;rw [List.length_range] at this;omega)
  exact ZkP hh st.1 st.2.1 st.2.2 g fun h' hb=>hQ h' s.toks fun b o hn e=>hb b o (fun z=>hn (by rw [z];exact List.mem_singleton.mpr rfl)) e
 self:=fun _ _ _ _ st hQ=>Zcs st.1 hQ
theorem ZkV {l:List (Int×Value)} (h:∀ e∈l,∃ t,e.2=.int (keyOf e) t):IntsAre (l.map (·.2)) (l.map keyOf):=by
 induction l with
 | nil=>exact .nil
 | cons e r ih =>
  obtain ⟨t,q⟩:=h e List.mem_cons_self
  rw [List.map_cons,List.map_cons,q]
  exact .cons _ t (ih fun x hx=>h x (List.mem_cons_of_mem _ hx))
theorem ZkW {α:Type} (es:Array α) (d:α):(List.range es.size).map (fun j=>es.getD j d)=es.toList:=by
 refine List.ext_getElem (by simp) fun i h1 h2=>?_
 have hi:i < es.size:=by simpa using h2
 simp [Array.getD,hi]
theorem ZkX {p:Addr} {ks:List Int} {Q:Value→Shared→Prop} (hh:A.handled=none) (hS:Y8 prog w s.heap p ks) (hk:ks.length≤1000)
  (h:∀ (I:Addr) (fp:List Addr) (St:Nat→Heap→Prop) (h':Heap) (d:Drawn) (its:List Value) (ns:List Int),Walks prog w A I fp [I] its.length (fun i v=>its[i]? = some v) St→St 0 h' →
   (∀ b o,s.heap.get? b=some o→h'.get? b=some o)→(∀ b∈fp,b=p∨s.heap.objs.size≤b)→s.heap.objs.size≤I→IntsAre its ns→ns.Nodup→(∀ k,k∈ns↔k∈ks)→its.length≤ks.length→Q (.ref I) { s with heap:=h',drawn:=d }) :
  wpAny (model prog w) A (pyIter (.ref p)) Q E s:=by
 obtain ⟨o,es,ep,t,ho,hex,hd,hel,hf,ht,hl,nd,mem,sz⟩:=hS
 have hS:Wo s.heap p ep es t:=⟨o,ho,hex,hd,hf⟩
 have hp:p < s.heap.objs.size:=Heap.lt_size ho
 have hz:t.place.size=es.size:=by
  unfold SetTable.fits at hf
  rw [Bool.and_eq_true] at hf
  exact beq_iff_eq.mp hf.1
 have fin:∀ (l:List (Int×Value)),List.Perm l es.toList→IntsAre (l.map (·.2)) (l.map keyOf)∧(l.map keyOf).Nodup∧(∀ k,k∈l.map keyOf↔k∈ks)∧(l.map (·.2)).length=es.size:=fun l pl =>
  ⟨ZkV fun e he=>Zf1 hel (pl.mem_iff.mp he),(pl.map keyOf).nodup_iff.mpr nd,fun k=>((pl.map keyOf).mem_iff).trans (mem k),by rw [List.length_map,pl.length_eq,Array.length_toList]⟩
 have lf:∀ b∈[s.heap.objs.size,p],b=p∨s.heap.objs.size≤b:=fun b hb=>by
  simp only [List.mem_cons,List.not_mem_nil,or_false] at hb
  rcases hb with rfl | rfl
  ·exact .inr (Nat.le_refl _)
  ·exact .inl rfl
 refine ZkM hS (fun c=>?_) (fun ys d hy=>?_) (Nat.le_trans (Nat.le_trans sz hk) (by decide))
 ·cases hx:w.params.followText "set-order" with
  | true =>
   obtain ⟨f1,f2,f3,f4⟩:=fin _ (Zcr (w.params.setOrder p ep) es)
   have W:=ZkS (prog:=prog) hh s.heap.objs.size p ep (Nat.ne_of_lt hp) es t hx
   rw [← f4] at W
   exact h _ _ _ _ s.drawn _ _ W ⟨⟨_,Heap.get?_push_size _ rfl,rfl,by rw [f4];rfl⟩,hS.keep fun o e=>Heap.get?_push_of_some _ e⟩ (fun b o e=>Heap.get?_push_of_some _ e) lf (Nat.le_refl _) f1 f2 f3 (by omega)
  | false =>
   have c':t.plain=true∨es.size≤1:=by
    rcases c with c | c
    ·rw [hx] at c;cases c
    ·exact c
   have hr:VU t.place:=by
    rcases c' with c' | c'
    ·exact ht.ri c'
    ·have hl1:t.place.toList.length≤1:=by rw [Array.length_toList];omega
     show List.Pairwise _ _
     match t.place.toList,hl1 with
     | [],_=>exact .nil
     | [a],_=>exact List.pairwise_singleton _ _
   obtain ⟨f1,f2,f3,f4⟩:=fin _ (.refl _)
   have W:=ZkT (prog:=prog) hh s.heap.objs.size p ep (Nat.ne_of_lt hp) es t hx c' (hl hx) hz hr
   rw [← f4] at W
   exact h _ _ _ _ s.drawn _ _ W ⟨⟨_,Heap.get?_push_size _ rfl,rfl,by rw [f4];rfl⟩,hS.keep fun o e=>Heap.get?_push_of_some _ e⟩ (fun b o e=>Heap.get?_push_of_some _ e) lf (Nat.le_refl _) f1 f2 f3 (by omega)
 ·have pl:List.Perm (ys.map fun j=>es.getD j (0,.none)) es.toList:=by
   have:=hy.map fun j=>es.getD j (0,Value.none)
   rw [ZkW] at this
   exact this
  obtain ⟨f1,f2,f3,f4⟩:=fin _ pl
  have W:=ZkU (prog:=prog) (w:=w) (A:=A) hh (s.heap.objs.size+1) p s.heap.objs.size ep (Nat.ne_of_lt (Nat.lt_succ_of_lt hp)) (Nat.ne_of_lt (Nat.lt_succ_self _)) es t ys hy
  rw [List.map_map] at f1 f4
  have f4':(ys.map fun j=>(es.getD j (0,.none)).2).length=es.size:=f4
  rw [← f4'] at W
  have gI:((s.heap.push { cls:=.type "tuple",data:=.seq (ys.map fun i=>rawInt (i:Nat)).toArray }).push { cls:=.type "set_iterator",data:=.fields #[.ref s.heap.objs.size,.int 0 0,.ref p,.int es.size 0,.int ep 0] }).get? (s.heap.objs.size+1)=some { cls:=.type "set_iterator",data:=.fields #[.ref s.heap.objs.size,.int 0 0,.ref p,.int es.size 0,.int ep 0] }:=by
   have:=Heap.get?_push_size (s.heap.push { cls:=.type "tuple",data:=.seq (ys.map fun i=>rawInt (i:Nat)).toArray }) (o:={ cls:=.type "set_iterator",data:=.fields #[.ref s.heap.objs.size,.int 0 0,.ref p,.int es.size 0,.int ep 0] }) rfl
   rw [Heap.size_push] at this
   exact this
  refine h _ _ _ _ d _ _ W ⟨⟨_,gI,rfl,by rw [f4'];rfl⟩,hS.keep fun o e=>Heap.get?_push_of_some _ (Heap.get?_push_of_some _ e),⟨_,Heap.get?_push_of_some _ (Heap.get?_push_size _ rfl),rfl,_,rfl⟩⟩ (fun b o e=>Heap.get?_push_of_some _ (Heap.get?_push_of_some _ e)) (fun b hb=>?_) (Nat.le_succ _) f1 f2 f3 (by omega)
  ·simp only [List.mem_cons,List.not_mem_nil,or_false] at hb
   rcases hb with rfl | rfl | rfl
   ·exact .inr (Nat.le_succ _)
   ·exact .inl rfl
   ·exact .inr (Nat.le_refl _)
end
end L2
namespace L2
open PySem PyProof.Rows
section
variable {prog:Program} {w:World} {A:Around} {E:Value→Shared→Prop} {s:Shared}
theorem ZkY {r:Addr} {Q:Bool→Shared→Prop} (hT:s.TypeIs (.ref r) "set") (h:Q false s):wpAny (model prog w) A (Builtin.List.listLengthHint (.ref r)) Q E s:=by
 unfold Builtin.List.listLengthHint
 refine wpAny_bind (wpAny_specialOf hT F.slot_set_len.lookup ?_)
 generalize hi:("set.__len__" : String)=idx
 wp_delta;rw [show splitId idx=some ("set","__len__") from by subst hi;decide +kernel]
 subst hi;refine wpAny_bind (wpAny_isInstance (T := "set") (b:=true) hT (by rw [isSubtype_type];kernel_rfl) ?_)
 refine wpAny_ite_split (fun z=>absurd z (by decide)) (fun _=>wpAny_ite_split (fun _=>?_) (fun z=>absurd (by decide +kernel) z))
 exact wpAny_bind (wpAny_typeOf hT (wpAny_pure h))
def Met (ks:List Int) (its:List Value):Prop:=∃ ns,IntsAre its ns∧ns.Nodup∧(∀ k,k∈ns↔k∈ks)∧its.length≤ks.length
theorem Y8.ty {p:Addr} {ks:List Int} (x:Y8 prog w s.heap p ks):s.TypeIs (.ref p) "set" := let ⟨o,_,_,_,ho,hex,_⟩:=x;⟨o,ho,hex.1⟩
theorem Y8.lt {h:Heap} {p:Addr} {ks:List Int} (x:Y8 prog w h p ks):p < h.objs.size:=let ⟨_,_,_,_,ho,_⟩:=x;Heap.lt_size ho
theorem ZkZ {its:List Value} {acc:Array Value} (h:ItemsOf (fun i v=>its[i]? = some v) acc its.length):acc.toList=its:=by
 refine List.ext_getElem? fun i=>?_
 by_cases hi:i < its.length
 ·have ha:i < acc.size:=by rw [h.1];exact hi
  have:=h.2 i acc[i] (Array.getElem?_eq_getElem ha)
  rw [Array.getElem?_toList,Array.getElem?_eq_getElem ha,this]
 ·have e:acc.toList.length=its.length:=by rw [Array.length_toList,h.1]
  rw [List.getElem?_eq_none (l:=its) (by omega),List.getElem?_eq_none (l:=acc.toList) (by omega)]
theorem Zk0 {R:Result→Shared→Prop} {p S:Addr} {ks:List Int} {res:Value} {c₀:Nat} (hh:A.handled=none) (hS:Y8 prog w s.heap p ks) (hk:ks.length≤1000) (hne:S≠p)
  (hl:s.heap.get? S=some { cls:=.type "list",data:=.seq #[] c₀ })
  (hR:∀ h' d tk acc c,(∀ b o,b≠S→s.heap.get? b=some o→h'.get? b=some o)→h'.get? S=some { cls:=.type "list",dict:=none,data:=.seq acc c,slots:=#[] }→Met ks acc.toList→R (.ok (.ret res)) { s with heap:=h',drawn:=d,toks:=tk }) :
  wpAny (model prog w) A.in1 (Builtin.List.listExtendWith (.ref S) (.ref p) res) (fun fin s'=>match fin with | .done f=>R (.ok f) s' | .again c'=>c'.quiet=true∧codeAny (model prog w) A c' R s') (fun e s'=>R (.error e) s') s:=by
 unfold Builtin.List.listExtendWith
 refine wpAny_bind (wpAny_typeOf (T := "set") hS.ty ?_)
 have e1:Builtin.List.listSameRef (.ref S) (.ref p)=false:=by simp [Builtin.List.listSameRef,hne]
 have e2:(Value.type "set" == Value.type "list")=false:=by decide
 have e3:(Value.type "set" == Value.type "tuple")=false:=by decide
 simp only [e1,e2,e3,Bool.or_false,Bool.false_eq_true,if_false]
 refine wpAny_bind (ZkX (A:=A.in1) hh hS hk fun I fp St h1 d its ns W st keep hfp hI i1 i2 i3 i4=>?_)
 have hSlt:=Heap.lt_size hl
 have hSf:S∉fp:=fun z=>by
  rcases hfp S z with e | e
  ·exact hne e
  ·exact absurd hSlt (Nat.not_lt.mpr e)
 have hIS:I≠S:=fun z=>absurd hSlt (Nat.not_lt.mpr (by rw [← z];exact hI))
 have g1:=keep _ _ hl
 have fin:∀ (h:Heap) (c:Nat) (tk:Nat),St 0 h→(∀ b o,b≠S→s.heap.get? b=some o→h.get? b=some o)→h.get? S=some { cls:=.type "list",data:=.seq #[] c } →
   codeAny (model prog w) A (.builtin "list.extend.loop" ⟨[.ref S,.ref I,res],[]⟩) R { s with heap:=h,drawn:=d,toks:=tk }:=fun h c tk st' k g=>by
  refine codeAny_extend_loopS W.toS (Nat.le_trans (Nat.le_trans i4 hk) (by decide)) S hSf res its.length 0 _ #[] c rfl (Nat.zero_le _) st' g (ItemsOf.nil _) fun s' acc c' hm g' hacc=>?_
  have e:=ZkZ hacc
  have es:s' = { s with heap:=s'.heap,drawn:=d,toks:=s'.toks }:=by
   obtain ⟨a1,a2,a3,a4,a5⟩:=s'
   have b1:a2=s.gens:=hm.gens
   have b2:a3=d:=hm.drawn
   have b3:a5=s.os:=hm.os
   subst b1 b2 b3
   rfl
  rw [es]
  refine hR s'.heap d s'.toks acc c' (fun b o hb q=>hm.heap b o (fun z=>?_) (k b o hb q)) g' (by rw [e];exact ⟨ns,i1,i2,i3,i4⟩)
  rcases List.mem_cons.mp z with z | z
  ·exact hb z
  ·exact absurd (Heap.lt_size q) (Nat.not_lt.mpr (by rw [List.mem_singleton.mp z];exact hI))
 refine wpAny_bind (wpAny_holding (ZkY (s:={ s with heap:=h1,drawn:=d }) (hS.keep (keep p)).ty ?_))
 refine wpAny_ite_split (fun _=>?_) (fun _=>wpAny_pure ⟨plainId_quiet F.plain_extend_loop _,fin _ c₀ _ st (fun b o _ e=>keep b o e) g1⟩)
 refine wpAny_bind (wpAny_rule (wpAny_bind ?_))
 show wpAny _ _ (updateSeq S (fun xs=>xs.push .none) >>= fun _=>updateSeq S (fun xs=>xs.pop)) _ _ _
 refine wpAny_bind (wpAny_updateSeq (s:={ s with heap:=h1,drawn:=d }) g1 rfl ?_)
 have g2:=Heap.get?_update_self (Obj.mapSeq (fun xs=>xs.push Value.none)) g1 rfl
 refine wpAny_updateSeq (s:={ s with heap:=h1.update S (Obj.mapSeq (fun xs=>xs.push Value.none)),drawn:=d }) (hz:=by seq_fits) g2 rfl ?_
 have g3:=Heap.get?_update_self (Obj.mapSeq (fun xs=>xs.pop)) g2 rfl
 refine wpAny_pure ⟨plainId_quiet F.plain_extend_loop _,fin _ _ _ (W.frame 0 _ _ st fun b hb o e=>?_) (fun b o hb e=>?_) g3⟩
 ·have hb':b≠S:=fun z=>hSf (z ▸ hb)
  exact (Heap.get?_update_other _ _ (Ne.symm hb')).trans ((Heap.get?_update_other _ _ (Ne.symm hb')).trans e)
 ·exact (Heap.get?_update_other _ _ (Ne.symm hb)).trans ((Heap.get?_update_other _ _ (Ne.symm hb)).trans (keep b o e))
theorem Zk1 {R:List Value→Shared→Prop} {p:Addr} {ks:List Int} (hh:A.handled=none) (hS:Y8 prog w s.heap p ks) (hk:ks.length≤1000)
  (h:∀ h' d tk its,(∀ b o,s.heap.get? b=some o→h'.get? b=some o)→Met ks its→R its { s with heap:=h',drawn:=d,toks:=tk }):wpAny (model prog w) A (collect (.ref p)) R E s:=by
 have lt:=hS.lt
 unfold collect
 refine wpAny_bind (wpAny_runValue (codeAny_builtin F.entry_proto_collect ?_))
 rw [Around.under_plainId F.plain_proto_collect _]
 show wpAny _ A.in1 (newList [] >>= fun l0=>again (.builtin "list.__iadd__" ⟨[l0,.ref p],[]⟩)) _ _ s
 refine wpAny_bind (wpAny_newObj_type (wpAny_pure ⟨plainId_quiet F.plain_list_iadd _,codeAny_builtin F.entry_list_iadd ?_⟩))
 rw [Around.under_plainId F.plain_list_iadd _]
 have g0:(s.heap.push { cls:=.type "list",data:=.seq ([]:List Value).toArray }).get? s.heap.objs.size=some { cls:=.type "list",data:=.seq #[] }:=Heap.get?_push_size _ rfl
 have key:=Zk0 (A:=A) (s:={ s with heap:=s.heap.push { cls:=.type "list",data:=.seq ([]:List Value).toArray } }) (res:=.ref s.heap.objs.size)
  (R:=fun (q:Result) (s':Shared)=>∃ (h':Heap) (d:Drawn) (tk:Nat) (acc:Array Value) (c:Nat),q=.ok (.ret (.ref s.heap.objs.size))∧s' = { s with heap:=h',drawn:=d,toks:=tk }∧(∀ b o,s.heap.get? b=some o→h'.get? b=some o) ∧
   h'.get? s.heap.objs.size=some { cls:=.type "list",dict:=none,data:=.seq acc c,slots:=#[] }∧Met ks acc.toList) hh (hS.keep fun o e=>Heap.get?_push_of_some _ e) hk (Nat.ne_of_gt lt) g0
  (fun h' d tk acc c k g m=>⟨h',d,tk,acc,c,rfl,rfl,fun b o e=>k b o (Nat.ne_of_lt (Heap.lt_size e)) (Heap.get?_push_of_some _ e),g,m⟩)
 show wpAny _ A.in1 (Builtin.List.listExtendWith (.ref s.heap.objs.size) (.ref p) (.ref s.heap.objs.size)) _ _ _
 refine wpAny_mono key (fun fi s' x=>?_) fun e s' x=>?_
 ·cases fi with
  | done f =>
   obtain ⟨h',d,tk,acc,c,e,rfl,k,g,m⟩:=x
   cases e
   exact wpAny_bind (m:=load s.heap.objs.size) (wpAny_load g (wpAny_pure (h h' d tk _ k m)))
  | again c1 =>
   refine ⟨x.1,codeAny_mono x.2 fun q s2 y=>?_⟩
   obtain ⟨h',d,tk,acc,c,rfl,rfl,k,g,m⟩:=y
   exact wpAny_bind (m:=load s.heap.objs.size) (wpAny_load g (wpAny_pure (h h' d tk _ k m)))
 ·obtain ⟨_,_,_,_,_,e',_⟩:=x
  cases e'
end
end L2
namespace L2
open PySem PySem.Spec PyProof.Rows
section
variable {prog:Program} {w:World} {A:Around} {E:Value→Shared→Prop} {s:Shared}
theorem IntsAre.len {vs:List Value} {ns:List Int} (h:IntsAre vs ns):vs.length=ns.length:=by
 induction h with
 | nil=>rfl
 | cons n t _ ih=>rw [List.length_cons,List.length_cons,ih]
theorem Zk2 {zs:List Int} (h:zs.Pairwise (·≤·)) (n:zs.Nodup):zs.Pairwise (· < ·) :=
 (List.Pairwise.and h n).imp fun ⟨a,b⟩=>by omega
theorem Zk3 {p:Addr} {ks:List Int} {Q:Value→Shared→Prop} (hh:A.handled=none) (hS:Y8 prog w s.heap p ks) (hk:ks.length < 64)
  (h:∀ (D:Addr) (h':Heap) (d:Drawn) (tk:Nat) (out:Array Value) (e:Nat) (zs:List Int),(∀ b o,s.heap.get? b=some o→h'.get? b=some o)→s.heap.get? D=none→h'.get? D=some (seqObj "list" out e)→IntsAre out.toList zs→zs.Pairwise (· < ·) →
   (∀ k,k∈zs↔k∈ks)→zs.length≤ks.length→Q (.ref D) { s with heap:=h',drawn:=d,toks:=tk }):wpAny (model prog w) A (call (.builtin "sorted") [.ref p]) Q E s:=by
 refine Calls.call_function_entry kind_sorted plain_sorted entry_sorted (args_sorted1 _) ?_
 unfold Builtin.«sorted»
 refine wpAny_bind (m:=checkCount "sorted" 1 1 _) (wpAny_pure (wpAny_bind (Zk1 (A:=A.in1) hh hS (by omega) fun h1 d tk its keep mt=>?_)))
 obtain ⟨ns,i1,i2,i3,i4⟩:=mt
 have hz:its.length≤sizeLine:=Nat.le_trans (Nat.le_trans i4 (Nat.le_of_lt hk)) (by decide)
 refine wpAny_bind (wpAny_newList ?_ hz)
 have g:(h1.push (seqObj "list" its.toArray 0)).get? h1.objs.size=some (seqObj "list" its.toArray 0):=Heap.get?_push_size _ rfl
 have no:s.heap.get? h1.objs.size=none:=by
  cases c:s.heap.get? h1.objs.size with
  | none=>rfl
  | some o=>exact absurd (Heap.lt_size (keep _ _ c)) (Nat.lt_irrefl _)
 refine wpAny_bind (wpAny_holding (wpAny_call_entry (s:={ s with heap:=h1.push (seqObj "list" its.toArray 0),drawn:=d,toks:=tk }) slot_list_sort ⟨_,g,rfl⟩ entry_list_sort (list_sort_tree g i1 (by omega) fun out ns' a1 a2 a3=>⟨_,rfl,?_⟩) (args_list_sort _)))
 obtain ⟨e,ge⟩:=sortedHeap_at (out:=out) g
 have nz:ns'.Nodup:=a2.nodup_iff.mpr i2
 refine wpAny_pure ⟨_,rfl,h h1.objs.size _ d tk out e ns' (fun b o q=>?_) no ge a1 (Zk2 a3 nz) (fun k=>(a2.mem_iff).trans (i3 k)) (by have:=a2.length_eq;have:=IntsAre.len i1;omega)⟩
 have lb:=Heap.lt_size (keep b o q)
 exact (sortedHeap_old (Nat.ne_of_lt lb) (by rw [Heap.size_push];exact Nat.lt_succ_of_lt lb)).trans (Heap.get?_push_of_some _ (keep b o q))
def Vf (w:World):Obj:={ cls:=.type "set",dict:=none,data:=.set #[] 0 (.fresh 0 0 (!w.params.followText "set-order")) }
theorem Zk4 {h:Heap} {a:Addr} (g:h.get? a=some (Vf w)):Y8 prog w h a [] :=
 ⟨_,#[],0,_,g,⟨rfl,rfl,rfl⟩,rfl,(fun e he=>by cases he),rfl,⟨rfl,fun _=>List.Pairwise.nil⟩,(fun z=>by show (!w.params.followText "set-order")=true;rw [z];rfl),List.Pairwise.nil,(fun k=>by simp),Nat.zero_le _⟩
theorem Zk5 (x:Value) {Q:Value→Shared→Prop} (h:Q (.ref s.heap.objs.size) { s with heap:=s.heap.push (Vf w) }) :
  codeAny (model prog w) A (.call (.builtin "set.__new__") ⟨[.type "set",x],[]⟩) (wants Q E) s:=by
 refine codeAny_of_tree (show wpAny _ A.in1 (do checkBuiltinCall "set.__new__" ⟨[.type "set",x],[]⟩;again (.builtin "set.__new__" ⟨[.type "set",x],[]⟩)) _ _ s from ?_)
 refine wpAny_bind (wpAny_of_eq (PySem.F.newCall_set_1 x) (wpAny_pure ⟨plainId_quiet PySem.F.plain_set_new _,codeAny_builtin PySem.F.entry_set_new ?_⟩))
 rw [Around.under_plainId PySem.F.plain_set_new _];unfold Builtin.«set.__new__» Builtin.Frozenset.newClass
 have sb:=sub_set_self
 obtain ⟨hp,g,d,tk,os⟩:=s
 dsimp only;wp_walk
 refine wpAny_askSetting (wpAny_pure ?_);dsimp only;simp only [newObj]
 exact wpAny_bind (wpAny_alloc (wpAny_pure (wpAny_pure h)))
theorem Zk6 {l:Addr} {items:Array Value} {ns:List Int} {Q:Value→Shared→Prop} (hh:A.handled=none) (hl:s.heap.IsList l items) (hi:IntsAre items.toList ns) (hb:items.size+1 < scanBound)
  (h:∀ (h':Heap) (tk:Nat),Y8 prog w h' s.heap.objs.size ((List.range items.size).map fun i=>ns.getD i 0)→(∀ b o,s.heap.get? b=some o→h'.get? b=some o)→Q (.ref s.heap.objs.size) { s with heap:=h',toks:=tk }) :
  wpAny (model prog w) A (call (.type "set") [.ref l]) Q E s:=by
 obtain ⟨c,tl,mr⟩:=PySem.F.called_set.mro
 have md:=PySem.F.called_set.made
 have sb:=PySem.F.called_set.sub
 refine wpAny_call (codeAny_of_tree (show wpAny _ _ (callAny (.type "set") _) _ _ _ from wpAny_pure ⟨Code.quiet_builtin _ (by decide +kernel),codeAny_builtin PySem.F.entry_type_call ?_⟩))
 rw [Around.under_plain (weight_type_call_type "set" [.ref l] []) rfl]
 have k1:=PySem.F.called_set.notType
 have k2:=PySem.F.called_set.canCreate
 have k3:=PySem.F.typeCall_set_1 (.ref l)
 repeat (any_goals (first | assumption | wp_step))
 refine codeAny_mono (Zk5 (.ref l) (E:=E) (Q:=fun ob s1=>ob=.ref s.heap.objs.size∧s1 = { s with heap:=s.heap.push (Vf w) }) ⟨rfl,rfl⟩) fun r s1 hr=>?_
 cases r with
 | error e=>exact hr
 | ok fl =>
  cases fl with
  | ret ob =>
   obtain ⟨rfl,rfl⟩:=hr
   have g0:(s.heap.push (Vf w)).get? s.heap.objs.size=some (Vf w):=Heap.get?_push_size _ rfl
   have hT:Shared.TypeIs { s with heap:=s.heap.push (Vf w) } (.ref s.heap.objs.size) "set" := ⟨_,g0,rfl⟩
   have u1:=PySem.F.called_set.init.lookup
   have u2:=PySem.F.called_set.init.bind (.ref s.heap.objs.size)
   repeat (any_goals (first | assumption | wp_step))
   refine codeAny_mono (codeAny_call_builtin (R:=wants (fun r s2=>r=.none∧∃ h' tk,s2 = { s with heap:=h',toks:=tk }∧Y8 prog w h' s.heap.objs.size ((List.range items.size).map fun i=>ns.getD i 0)∧(∀ b o,s.heap.get? b=some o→h'.get? b=some o)) E)
    PySem.F.called_set.init.plain PySem.F.entry_set_init (check_set_init_1 hT ?_)) fun r2 s2 hr2=>?_
   ·obtain ⟨ol,hol,hcl,nl,hdl⟩:=id hl
    obtain ⟨oc,od,oda,os⟩:=ol
    simp only at hcl hdl
    subst hcl;subst hdl
    have v1:(s.heap.push (Vf w)).get? l=some { cls:=.type "list",dict:=od,data:=.seq items nl,slots:=os }:=Heap.get?_push_of_some _ hol
    have v2:=PySem.F.sub_list_set
    have v3:=PySem.F.sub_list_frozenset
    have v4:(Value.type "list" == Value.type "dict")=false:=by decide
    have hl1:(s.heap.push (Vf w)).IsList l items:=⟨_,v1,rfl,nl,rfl⟩
    have fd:(Vf w).data=.set #[] 0 (.fresh 0 0 (!w.params.followText "set-order")):=rfl
    unfold Builtin.«set.__init__» noKeywords Builtin.Frozenset.updateFrom
    generalize hPI:pyIter=PI
    wp_walk
    subst hPI
    refine wpAny_pyIter_list hl1 (wpAny_bind (wpAny_runValue ?_))
    have lS:l < s.heap.objs.size:=Heap.lt_size hol
    have h3:A.in1.in1.in1.handled=none:=by simp [hh]
    have nI:l≠(s.heap.push (Vf w)).objs.size:=by rw [Heap.size_push];exact Nat.ne_of_lt (Nat.lt_succ_of_lt lS)
    have nS:s.heap.objs.size∉[(s.heap.push (Vf w)).objs.size,l]:=by
     rw [Heap.size_push];intro z
     simp only [List.mem_cons,List.not_mem_nil,or_false] at z
     rcases z with z | z
     ·exact absurd z (Nat.ne_of_lt (Nat.lt_succ_self _))
     ·exact absurd z (Nat.ne_of_gt lS)
    refine ZkJ ((Walks.list h3 _ l nI items).toS) s.heap.objs.size nS (fun i=>ns.getD i 0) (fun i v hv=>IntsAre.int_at hi i v (by rw [Array.getElem?_toList];exact hv)) hb (items.size - 0) 0 _ (by omega) (Nat.zero_le _)
     ⟨⟨_,Heap.get?_push_size _ rfl,rfl,rfl⟩,(hl1.push _)⟩ (Zk4 (Heap.get?_push_of_some _ g0)) fun s' hm hS'=>?_
    obtain ⟨h',g',d',tk',os'⟩:=s'
    have eg:g'=s.gens:=hm.gens
    have ed:d'=s.drawn:=hm.drawn
    have eo:os'=s.os:=hm.os
    subst eg ed eo
    refine wpAny_pure (wpAny_pure ⟨rfl,h',tk',rfl,hS',fun b o e=>?_⟩)
    have lb:=Heap.lt_size e
    refine hm.heap b o (fun z=>?_) (Heap.get?_push_of_some _ (Heap.get?_push_of_some _ e))
    simp only [List.mem_cons,List.not_mem_nil,or_false] at z
    rcases z with z | z
    ·exact absurd z (Nat.ne_of_lt lb)
    ·rw [Heap.size_push] at z
     exact absurd z (Nat.ne_of_lt (Nat.lt_succ_of_lt lb))
   ·cases r2 with
    | error e=>exact hr2
    | ok f2 =>
     cases f2 with
     | ret r =>
      obtain ⟨rfl,h',tk,rfl,hS',hk'⟩:=hr2
      repeat (any_goals (first | assumption | wp_step))
      exact h _ _ hS' hk'
     | _=>exact hr2.elim
  | _=>exact hr.elim
end
end L2
namespace L2
open PySem PySem.Spec PyProof.Rows
theorem Zf.drawnTo {X:Cx} {pins:List (Addr×Obj)} {σ:St} {H:Hp} {s:Shared} (I:Zf X pins σ H s) (d:Drawn):Zf X pins σ H { s with drawn:=d }:=⟨I.ok,I.os,I.bare,I.base,I.loc,I.cell,I.free,I.freeC,I.pin,I.hok,I.len⟩
def Zbo (P:Program) (w:World) (a:Addr) (ks:List Int):HO:=.ext fun h=>Y8 P w h a ks
theorem Zk7 {P:Program} {w:World} {H:Hp} {h:Heap} {a:Addr} {ks:List Int} (x:Y8 P w h a ks):Yc P w H h a (Zbo P w a ks) :=
 ⟨x,let ⟨o,_,_,_,ho,_⟩:=id x;⟨o,ho⟩,fun h1 h2 y k=>Y8.keep (h:=h1) y k⟩
theorem Zgc:∀ {ns:List Int} {us:List Value},Zy (ns.map V.int) us→IntsAre us ns
 | [],_,.nil=>.nil
 | n::r,_,.cons (b:=u) h t=>by
  obtain ⟨tk,rfl⟩:=h
  exact .cons n tk (Zgc t)
theorem Zgd:∀ {ns:List Int} {us:List Value},IntsAre us ns→Zy (ns.map V.int) us
 | _,_,.nil=>.nil
 | _,_,.cons n t h=>.cons ⟨t,rfl⟩ (Zgd h)
theorem Zk8 {X:Cx} (hc:X.calm=true):Xq X (.type "set") (fun xs H Q=>∃ (p:Addr) (ns:List Int),xs=[.ref p]∧Zg X.K H p (ns.map V.int)∧ns.length≤1000∧∀ l,H l=none→Q (.ref l) (Zd H l (Zbo X.prog X.w l ns))):=by
 intro pins s σ H xs us Q I r h
 obtain ⟨p,ns,rfl,hq,hl,q⟩:=h
 obtain ⟨u,rfl,rx⟩:=Ww r
 cases rx
 obtain ⟨its,r',pl,hz⟩:=I.list hq
 have ia:IntsAre its ns:=Zgc r'
 have ln:its.length=ns.length:=IntsAre.len ia
 refine Zk6 (I.ok.hd hc) pl.isList (by simpa using ia) (by rw [List.size_toArray,ln];show _ < 4096;omega) fun h' tk hS keep=>?_
 have e:(List.range its.toArray.size).map (fun i=>ns.getD i 0)=ns:=by
  rw [List.size_toArray,ln]
  refine List.ext_getElem (by simp) fun i h1 h2=>?_
  simp [List.getD_eq_getElem?_getD,h2]
 rw [e] at hS
 exact ⟨.ref _,_,I.laid (t':=tk) keep (Nat.le_refl _) (Zk7 hS),rfl,q _ (I.hok.fresh (Nat.le_refl _))⟩
theorem Zk9 {X:Cx} (hc:X.calm=true):Xq X (.builtin "sorted") (fun xs H Q=>∃ (p:Addr) (ks:List Int),xs=[.ref p]∧H p=some (Zbo X.prog X.w p ks)∧ks.length < 64 ∧
  ∀ (l:Addr) (zs:List Int),H l=none→zs.Pairwise (· < ·)→(∀ k,k∈zs↔k∈ks)→zs.length≤ks.length→Q (.ref l) (Zd H l (.lst (zs.map V.int)))):=by
 intro pins s σ H xs us Q I r h
 obtain ⟨p,ks,rfl,hp,hl,q⟩:=h
 obtain ⟨u,rfl,rx⟩:=Ww r
 cases rx
 have hS:Y8 X.prog X.w s.heap p ks:=(I.hok p _ hp).1
 refine Zk3 (I.ok.hd hc) hS hl fun D h' d tk out e zs keep no g ia pw mem le=>?_
 have hz:(zs.map V.int).length≤sizeLine:=by
  rw [List.length_map]
  exact Nat.le_trans (Nat.le_trans le (Nat.le_of_lt hl)) (by decide)
 have new:Yc X.prog X.w (Zd H D (.lst (zs.map V.int))) h' D (.lst (zs.map V.int)):=⟨hz,out.toList,e,Zgd ia,by rw [Array.toArray_toList];exact g⟩
 exact ⟨.ref D,_,(I.laidN (t':=tk) keep no new).drawnTo d,rfl,q D zs (I.hasNo no) pw mem le⟩
end L2
namespace L2
open PySem PySem.Spec PyProof.Rows
end L2
namespace K1
open PySem L2
structure Rsg (l:List Nat) (lo hi:Nat):Prop where
 one:1≤l.length
 few:l.length≤12
 up:l.Pairwise (· < ·)
 all:∀ x∈l,lo≤x∧x≤hi
structure Zav (K:PySem.W.Frag) (C:Addr):Prop where
 ha:PySem.W.findIn K (.ref C) "__class__" = some (some (.builtin "object.__class__"))
 hn:PySem.W.specialIn K (.builtin "object.__class__") "__get__" = some (some (.builtin "getset_descriptor.__get__"))
 tk:PySem.W.takesIn K (.builtin "object.__class__")=some true
 hm:PySem.W.mroIn K C (.type "object")=some true
theorem Zav.ty {K:PySem.W.Frag} {C:Addr} (o:Zav K C) (c:XM K C) {H:Hp} {a dx:Addr} {fs:List (Str×V)} (e:H a=some (.ins C dx fs)):XN K H (.ref a) (.ref C):=.ins e c o.ha o.hn o.tk o.hm
theorem Zbp {b:Nat} {lo hi:Int} (h1:lo≤b) (h2:(b:Int)≤hi):UJ (.int (b:Nat)) lo hi=true:=decide_eq_true ⟨h1,h2⟩
inductive WB (tp:Addr) (H:Hp):V→RT→Prop
 | always {a:Addr} (h:H a=some (.tup [.str (Str.ofString "always")])):WB tp H (.ref a) .always
 | week {a:Addr} {b:Nat} (h:H a=some (.tup [.str (Str.ofString "week"),.int (b:Nat)])):WB tp H (.ref a) (.week b)
 | span {a:Addr} {x y:Nat} {v:V} {r:RT} (h:H a=some (.tup [.str (Str.ofString "span"),.int (x:Nat),.int (y:Nat),v])) (hv:WB tp H v r):WB tp H (.ref a) (.span x y r)
 | each {a l:Addr} {n:Nat} {ss:List Nat} (h:H a=some (.tup [.str (Str.ofString "each"),.int (n:Nat),.ref l])) (hl:H l=some (.lst (Xj ss))) (ne:l≠tp):WB tp H (.ref a) (.each n ss)
 | either {a:Addr} {v u:V} {r s:RT} (h:H a=some (.tup [.str (Str.ofString "either"),v,u])) (hv:WB tp H v r) (hu:WB tp H u s):WB tp H (.ref a) (.either r s)
 | both {a:Addr} {v u:V} {r s:RT} (h:H a=some (.tup [.str (Str.ofString "both"),v,u])) (hv:WB tp H v r) (hu:WB tp H u s):WB tp H (.ref a) (.both r s)
 | but {a l:Addr} {ds:List Nat} {v:V} {r:RT} (h:H a=some (.tup [.str (Str.ofString "but"),.ref l,v])) (hl:H l=some (.lst (Xj ds))) (ne:l≠tp) (hv:WB tp H v r):WB tp H (.ref a) (.but ds r)
end K1
namespace L2
open PySem PySem.Spec PyProof.Rows
end L2
namespace K1
open PySem L2
end K1
namespace L2
open PySem PySem.Spec PyProof.Rows
theorem Zge:∀ {ts:List Str} {us:List Value},Zy (ts.map V.str) us→∃ l:List (Str×Tok),us=strValues l∧l.map (·.1)=ts
 | [],_,.nil=>⟨[],rfl,rfl⟩
 | t::r,_,.cons (b:=u) h q=>by
  obtain ⟨tk,rfl⟩:=h
  obtain ⟨l,rfl,e⟩:=Zge q
  exact ⟨(t,tk)::l,rfl,by rw [List.map_cons,e]⟩
theorem Zgf (n:Nat):∀ (ts:List Str) (k:Nat),ts.foldl (fun a x=>a+x.length+n) k=k+(ts.map fun x=>x.length+n).sum
 | [],k=>by simp
 | t::r,k=>by
  rw [List.foldl_cons,Zgf n r,List.map_cons,List.sum_cons]
  omega
theorem Zgg (n:Nat):∀ ts:List Str,(ts.map fun x=>x.length+n).sum=(ts.map (·.length)).sum+ts.length * n
 | []=>by simp
 | y::r=>by
  have ih:=Zgg n r
  simp only [List.map_cons,List.sum_cons,List.length_cons,Nat.succ_mul]
  omega
def Zla (K:PySem.W.Frag):V→List V→Hp→VK→Prop:=fun x xs H Q=>∃ (z:Str) (p:Addr) (ts:List Str),x=.str z∧xs=[.ref p]∧Zg K H p (ts.map V.str)∧(ts.map fun x=>x.length+z.length).sum≤sizeLine∧Q (.str (Str.join z ts)) H
theorem Zlb {X:Cx}:MtR X "str.join" (Zla X.K):=by
 intro pins s σ H x xs v us Q I rx r h
 obtain ⟨z,p,ts,rfl,rfl,hq,hz,q⟩:=h
 obtain ⟨t,rfl⟩:=rx
 obtain ⟨u,rfl,e⟩:=Ww r
 cases e
 obtain ⟨its,r',pl,_⟩:=I.list hq
 obtain ⟨l,rfl,el⟩:=Zge r'
 have hl:Builtin.Str.tooLong ((l.map (·.1)).toArray.foldl (· + ·.length+z.length) 0)=false:=by
  rw [el,List.foldl_toArray,Zgf]
  unfold Builtin.Str.tooLong
  exact decide_eq_false (by omega)
 refine call_meets F.slot_str_join (typeIs_str _ _ _) F.entry_str_join (F.args_str_join_2 _ _) (meets_str_join_list z t p l hl) ⟨pl.isList,?_⟩
 have ej:Builtin.Str.glued z (l.map (·.1))=Str.join z ts:=by rw [el];exact StrLaws.glued_eq_join z ts
 have le:(Str.join z ts).length≤sizeLine:=by
  have h1:=StrLaws.join_length_le z ts
  have h2:=Zgg z.length ts
  omega
 have many:∀ (m:Made),m=.str (Builtin.Str.glued z (l.map (·.1)))→m.post (fun v s'=>wants (EP X pins σ Q) X.xe (.ok (.ret v)) s') s:=fun m e=>by
  subst e
  refine ⟨by rw [ej];exact le,?_⟩
  rw [ej]
  exact ⟨.str _,H,I.tok _,⟨_,rfl⟩,q⟩
 match l,el,many with
 | [],el,many=>exact many _ rfl
 | [y],el,many =>
  obtain ⟨yz,yt⟩:=y
  have e2:Str.join z ts=yz:=by rw [← el];rfl
  rw [e2] at q
  exact ⟨.str yz,H,I,⟨yt,rfl⟩,q⟩
 | y::y2::r2,el,many=>exact many _ rfl
end L2
namespace K1
open PySem L2
theorem Zlc {z:Str} {ts:List Str} {m:Nat} (hz:z.length≤1) (hm:ts.length≤20) (h:∀ x∈ts,x.length≤10):(ts.map fun x=>x.length+z.length).sum≤sizeLine:=by
 have key:∀ l:List Str,(∀ x∈l,x.length≤10)→(l.map fun x=>x.length+z.length).sum≤11 * l.length:=by
  intro l
  induction l with
  | nil=>intro _;simp
  | cons y r ih =>
   intro h
   have h1:=h y List.mem_cons_self
   have h2:=ih fun x hx=>h x (List.mem_cons_of_mem _ hx)
   simp only [List.map_cons,List.sum_cons,List.length_cons]
   omega
 have:=key ts h
 exact Nat.le_trans (show _≤1000 by omega) (by decide)
end K1
namespace L2
open PySem PySem.Spec PyProof.Rows
end L2
namespace L2
open PySem PySem.Spec PyProof.Rows
end L2
namespace L2
open PySem PySem.Spec PyProof.Rows
def Zld (t u:TS):TS:=fun D σ H=>∃ J:St→Hp→Prop,t { D with nx:=J } σ H∧∀ σ' H',J σ' H'→u D σ' H'
theorem Vt {X:Cx} {st:Stmt} {rest:List Stmt} {t u:TS} (h1:PS X st t) (h2:X2 X rest u):X2 X (st::rest) (Zld t u):=by
 intro pins s σ H D I h
 obtain ⟨J,h,hJ⟩:=h
 refine wpAny_execs_cons (Zv (h1 pins s σ H { D with nx:=J } I h) fun f s1 q=>?_)
 cases f with
 | next =>
  obtain ⟨σ',H',I',q⟩:=q
  exact h2 pins s1 σ' H' D I' (hJ _ _ q)
 | ret v=>exact q
 | brk=>exact q
 | cont=>exact q
end L2
namespace L2
open PySem PySem.Spec PyProof.Rows
section
variable {X:Cx} {pins:List (Addr×Obj)} {σ:St} {H:Hp} {s:Shared} {h':Heap}
theorem Zf.turnedL {t':Nat} {fp:List Addr} (I:Zf X pins σ H s) (k:∀ b o,b∉fp→s.heap.get? b=some o→h'.get? b=some o) (hf:∀ b∈fp,YO X pins H b):Zf X pins σ H { s with heap:=h',toks:=t' }:=by
 have nit:∀ b u,H b=some u→b∉fp:=fun b u e z=>by rw [(hf b z).1] at e;cases e
 refine I.step (g':=s.gens) (d':=s.drawn) (ch:=fp) (fun b hb=>⟨(hf b hb).2.2.2.1,(hf b hb).2.1,(hf b hb).2.2.2.2.1,(hf b hb).2.2.2.2.2⟩) (fun b o _ _ hc e _=>k b o hc e) (fun b o _ _ hc e _=>⟨o.slots,k b o hc e⟩) (fun _ _ _ _ n=>n)
  (fun b o hc e=>⟨o,k b o hc e⟩) (fun _ _ e=>e) (fun _ _ _ e=>e) (fun b ps e=>⟨#[],by rw [e];simp⟩) (fun m hm=>?_) (fun b u e=>?_) I.bare
 ·obtain ⟨o,es,ep,ho,r⟩:=hm
  exact ⟨o,es,ep,k _ o (fun z=>(hf _ z).2.1 rfl) ho,r⟩
 ·refine (I.hok b u e).stay (fun c v hc q=>k c v ?_ q) (fun _ q=>q) fun _ _ q=>q
  rcases hc with z | z
  ·rw [z];exact nit b u e
  ·exact nit c _ z
theorem Zf.paired {t':Nat} {fp:List Addr} {x y:V} {u v:Value} (I:Zf X pins σ H s) (hf:∀ b∈fp,YO X pins H b) (ht:∀ b∈fp,∃ o,s.heap.get? b=some o)
  (k:∀ b o,b∉fp→s.heap.get? b=some o→h'.get? b=some o) (hT:h'.get? s.heap.objs.size=some { cls:=.type "tuple",data:=.seq #[u,v] }) (rx:ZC x u) (ry:ZC y v) :
  Zf X pins σ (Zd H s.heap.objs.size (.tup [x,y])) { s with heap:=h',toks:=t' }∧∀ b∈fp,Zd H s.heap.objs.size (.tup [x,y]) b=none:=by
 have I1:Zf X pins σ (Zd H s.heap.objs.size (.tup [x,y])) { s with heap:=s.heap.push { cls:=.type "tuple",data:=.seq #[u,v] },toks:=t' } :=
  I.laid (fun b ob q=>Heap.get?_push_of_some _ q) (Nat.le_refl _) ⟨show 2≤sizeLine by decide,[u,v],.cons rx (.cons ry .nil),IsTup.new _ _⟩
 have ne:∀ b∈fp,b≠s.heap.objs.size:=fun b hb e=>by
  obtain ⟨o,q⟩:=ht b hb
  exact absurd (Heap.lt_size q) (by rw [e];exact Nat.lt_irrefl _)
 have nn:∀ b∈fp,Zd H s.heap.objs.size (.tup [x,y]) b=none:=fun b hb=>by rw [Zl (ne b hb)];exact (hf b hb).1
 refine ⟨Zf.turnedL (s:={ s with heap:=s.heap.push { cls:=.type "tuple",data:=.seq #[u,v] },toks:=t' }) (t':=t') (fp:=fp) I1 (fun b o hb e=>?_) (fun b hb=>⟨nn b hb,(hf b hb).2⟩),nn⟩
 have e':(s.heap.push { cls:=.type "tuple",data:=.seq #[u,v] }).get? b=some o:=e
 by_cases hb2:b=s.heap.objs.size
 ·subst hb2
  rw [Heap.get?_push_size _ rfl] at e'
  cases e'
  exact hT
 ·rw [Heap.get?_push_ne _ _ _ hb2] at e'
  exact k b o hb e'
end
def Ite (K:PySem.W.Frag) (l:Addr):It :=
 ⟨fun i H=>∃ xs x,Zg K H l xs∧xs[i]? = some x,fun i H v H'=>∃ p x,H p=none∧(∀ xs,Zg K H l xs→xs[i]? = some x)∧v=.ref p∧H'=Zd H p (.tup [.int i,x]),fun i H=>∃ xs,Zg K H l xs∧xs.length≤i⟩
def Ui (K:PySem.W.Frag) (l m:Addr):It :=
 ⟨fun i H=>∃ xs ys x y,Zg K H l xs∧Zg K H m ys∧xs[i]? = some x∧ys[i]? = some y,fun i H v H'=>∃ p x y,H p=none∧(∀ xs,Zg K H l xs→xs[i]? = some x)∧(∀ ys,Zg K H m ys→ys[i]? = some y)∧v=.ref p∧H'=Zd H p (.tup [x,y]),
  fun i H=>∃ xs ys,Zg K H l xs∧Zg K H m ys∧(xs.length≤i∨ys.length≤i)⟩
theorem Zle {P:Program} {w:World} {K:PySem.W.Frag} {es:List Expr} {k:Nat} {pos:Pos} (l e it:Addr) (hei:e≠it):UE P w K (.Tuple es k pos) (Ite K l) [e,it] e (fun i h=>(∃ old,IsEnum h e it i old)∧h.IsListIter it l i) where
 mem:=by simp
 obj:=fun i h st b hb=>by
  obtain ⟨⟨old,he⟩,o,ho,hc,hd⟩:=st
  have e':b=e∨b=it:=by simpa using hb
  rcases e' with rfl | rfl
  ·exact ⟨_,he,fun v z=>by cases z⟩
  ·exact ⟨o,ho,fun v z=>by rw [hd] at z;cases z⟩
 keep:=fun i h h' st kk=>⟨let ⟨old,he⟩:=st.1;⟨old,kk e (by simp) _ he⟩,st.2.at fun o q=>kk it (by simp) o q⟩
 item:=by
  intro X hP hw hK hc i pins s σ H E I hf st hg
  subst hP hw hK
  obtain ⟨xs,x,hq,hx⟩:=hg
  obtain ⟨its,rv,p,hz⟩:=I.list hq
  obtain ⟨u,hu,ru⟩:=rv.get hx
  obtain ⟨⟨old,he⟩,hit⟩:=st
  have hit0:=hit
  refine wpAny_pyNext_enum_item he hit p.isList (x:=u) (by simpa using hu) hei fun h1 ho hit' hT hsz hk=>⟨_,rfl,?_⟩
  refine wpAny_letOwnedTupleGo_enum (s:={ s with heap:=h1,toks:=s.toks+1 }) ho fun h2 he2 hs2=>?_
  have hlt:e < s.heap.objs.size:=Heap.lt_size he
  have hilt:it < s.heap.objs.size:=by obtain ⟨_,q,_⟩:=hit;exact Heap.lt_size q
  have hT2:h2.get? s.heap.objs.size=some { cls:=.type "tuple",data:=.seq #[.int i s.toks,u] }:=(hs2.2 _ (Nat.ne_of_gt hlt)).trans hT
  obtain ⟨I2,n2⟩:=I.paired (t':=s.toks+1) (fp:=[e,it]) (x:=.int i) (y:=x) (h':=h2) hf (fun b hb=>by
   have e':b=e∨b=it:=by simpa using hb
   rcases e' with rfl | rfl
   ·exact ⟨_,he⟩
   ·obtain ⟨o,q,_⟩:=hit0;exact ⟨o,q⟩) (fun b o hb q=>by
   have hb1:b≠e:=fun z=>hb (by simp [z])
   have hb2:b≠it:=fun z=>hb (by simp [z])
   exact (hs2.2 b hb1).trans (hk b o hb1 hb2 q)) hT2 ⟨s.toks,rfl⟩ ru
  refine ⟨.ref s.heap.objs.size,_,I2,rfl,⟨_,x,I.hok.fresh (Nat.le_refl _),fun ys hy=>by rw [I.list_inj hy hq];exact hx,rfl,rfl⟩,⟨⟨_,by simpa using he2⟩,hit'.at fun o q=>(hs2.2 it hei.symm).trans q⟩,n2⟩
 done:=by
  intro X hP hw hK hc i pins s σ H E I hf st hg
  subst hP hw hK
  obtain ⟨xs,hq,hx⟩:=hg
  obtain ⟨its,rv,p,hz⟩:=I.list hq
  obtain ⟨⟨old,he⟩,hit⟩:=st
  have hl:=rv.length
  exact wpAny_pyNext_enum_end (I.ok.hd hc) he hit p.isList (by simp;omega) fun h' eb=>⟨rfl,I.turnedL (t':=s.toks) (fp:=[e,it]) (fun b o hb q=>eb b o (fun z=>hb (by simp [z])) q) hf⟩
 self:=fun _ _ _ _ _ st h=>by
  obtain ⟨⟨old,he⟩,_⟩:=st
  exact wpAny_pyIter_enum he h
theorem Zlf {P:Program} {w:World} {K:PySem.W.Frag} {es:List Expr} {k:Nat} {pos:Pos} (l m z TI TO i1 i2:Addr) (D:ZipApart z TI TO i1 i2 l m):UE P w K (.Tuple es k pos) (Ui K l m) [z,TI,TO,i1,i2] z (fun i h=>IsZip h z TI TO .none∧IsPair h TI (.ref i1) (.ref i2)∧(∃ a b,IsPair h TO a b)∧h.IsListIter i1 l i∧h.IsListIter i2 m i) where
 mem:=by simp
 obj:=fun i h st b hb=>by
  obtain ⟨hz,hTI,⟨a,c,hTO⟩,⟨o1,g1,_,d1⟩,⟨o2,g2,_,d2⟩⟩:=st
  have e':b=z∨b=TI∨b=TO∨b=i1∨b=i2:=by simpa using hb
  rcases e' with rfl | rfl | rfl | rfl | rfl
  ·exact ⟨_,hz,fun v z=>by cases z⟩
  ·exact ⟨_,hTI,fun v z=>by cases z⟩
  ·exact ⟨_,hTO,fun v z=>by cases z⟩
  ·exact ⟨o1,g1,fun v z=>by rw [d1] at z;cases z⟩
  ·exact ⟨o2,g2,fun v z=>by rw [d2] at z;cases z⟩
 keep:=fun i h h' st kk=>⟨kk z (by simp) _ st.1,kk TI (by simp) _ st.2.1,let ⟨a,b,q⟩:=st.2.2.1;⟨a,b,kk TO (by simp) _ q⟩,st.2.2.2.1.at fun o q=>kk i1 (by simp) o q,st.2.2.2.2.at fun o q=>kk i2 (by simp) o q⟩
 item:=by
  intro X hP hw hK hc i pins s σ H E I hf st hg
  subst hP hw hK
  obtain ⟨xs,ys,x,y,hq1,hq2,hx,hy⟩:=hg
  obtain ⟨its1,rv1,p1,hz1⟩:=I.list hq1
  obtain ⟨its2,rv2,p2,hz2⟩:=I.list hq2
  obtain ⟨u,hu,ru⟩:=rv1.get hx
  obtain ⟨v,hv,rv⟩:=rv2.get hy
  obtain ⟨hz,hTI,⟨a,b,hTO⟩,h1,h2⟩:=st
  have h10:=h1
  have h20:=h2
  refine wpAny_pyNext_zip_item D hz hTI hTO h1 h2 p1.isList p2.isList (x:=u) (y:=v) (by simpa using hu) (by simpa using hv) fun g1 a1 a2 a3 a4 a5 a6 hk=>⟨_,rfl,?_⟩
  refine wpAny_letOwnedTupleGo_zip (s:={ s with heap:=g1 }) a1 fun g2 b1 bs=>?_
  have hlt:z < s.heap.objs.size:=Heap.lt_size hz
  have hT2:g2.get? s.heap.objs.size=some { cls:=.type "tuple",data:=.seq #[u,v] }:=(bs.2 _ (Nat.ne_of_gt hlt)).trans a5
  obtain ⟨I2,n2⟩:=I.paired (t':=s.toks) (fp:=[z,TI,TO,i1,i2]) (x:=x) (y:=y) (h':=g2) hf (fun b hb=>by
   have e':b=z∨b=TI∨b=TO∨b=i1∨b=i2:=by simpa using hb
   rcases e' with rfl | rfl | rfl | rfl | rfl
   ·exact ⟨_,hz⟩
   ·exact ⟨_,hTI⟩
   ·exact ⟨_,hTO⟩
   ·obtain ⟨o,q,_⟩:=h10;exact ⟨o,q⟩
   ·obtain ⟨o,q,_⟩:=h20;exact ⟨o,q⟩) (fun b o hb q=>by
   have c1:b≠z:=fun w=>hb (by simp [w])
   have c2:b≠TO:=fun w=>hb (by simp [w])
   have c3:b≠i1:=fun w=>hb (by simp [w])
   have c4:b≠i2:=fun w=>hb (by simp [w])
   exact (bs.2 b c1).trans (hk b o c1 c2 c3 c4 q)) hT2 ru rv
  exact ⟨.ref s.heap.objs.size,_,I2,rfl,⟨_,x,y,I.hok.fresh (Nat.le_refl _),fun zs hy=>by rw [I.list_inj hy hq1];exact hx,fun zs hy'=>by rw [I.list_inj hy' hq2];exact hy,rfl,rfl⟩,
   ⟨b1,(bs.2 _ D.TIz).trans (hk _ _ D.TIz D.TITO D.TIi1 D.TIi2 hTI),⟨_,_,(bs.2 _ D.TOz).trans a2⟩,a3.at fun o q=>(bs.2 _ D.i1z).trans q,a4.at fun o q=>(bs.2 _ D.i2z).trans q⟩,n2⟩
 done:=by
  intro X hP hw hK hc i pins s σ H E I hf st hg
  subst hP hw hK
  obtain ⟨xs,ys,hq1,hq2,hx⟩:=hg
  obtain ⟨its1,rv1,p1,hz1⟩:=I.list hq1
  obtain ⟨its2,rv2,p2,hz2⟩:=I.list hq2
  have l1:=rv1.length
  have l2:=rv2.length
  obtain ⟨hz,hTI,⟨a,b,hTO⟩,h1,h2⟩:=st
  exact wpAny_pyNext_zip_end (I.ok.hd hc) D hz hTI hTO h1 h2 p1.isList p2.isList (by rcases hx with hx | hx;exact .inl (by simp;omega);exact .inr (by simp;omega)) fun h' eb =>
   ⟨rfl,I.turnedL (t':=s.toks) (fp:=[z,TI,TO,i1,i2]) (fun b o hb q=>eb b o (fun w=>hb (by simp [w])) (fun w=>hb (by simp [w])) (fun w=>hb (by simp [w])) (fun w=>hb (by simp [w])) q) hf⟩
 self:=fun _ _ _ _ _ st h=>wpAny_pyIter_zip st.1 h
section
variable {X:Cx}
def Zlg (K:PySem.W.Frag) (ta:TA):TI:=fun σ H R=>ta σ H fun vs H1=>∃ a,vs=[.ref a]∧(∃ xs,Zg K H1 a xs)∧R (Ite K a) H1
def Zlh (K:PySem.W.Frag) (ta:TA):TI:=fun σ H R=>ta σ H fun vs H1=>∃ a b,vs=[.ref a,.ref b]∧(∃ xs,Zg K H1 a xs)∧(∃ ys,Zg K H1 b ys)∧R (Ui K a b) H1
theorem Zli {es:List Expr} {k:Nat} {tp:Pos} {a:Expr} {ta:TA} {p pos:Pos} (hg:Gl X "enumerate") (hm:X.mg "enumerate" = none) (ha:PA X [a] ta) (hs:starEach [a] X.env=[(false,eval a X.env)]:=by rfl):PI X (.Tuple es k tp) (.Call (.Name "enumerate" p) [a] [] pos) (Zlg X.K ta):=by
 intro pins s σ H R I h
 refine Call_ (Uc I hg hm boot_enumerate (PyProof.Rows.callWith_type1 (Zv (ha pos pins s σ H _ I h) fun us s1 ⟨vs,H1,I1,r1,q1⟩=>?_) hs rfl))
 obtain ⟨l,e,⟨xs,hq⟩,q⟩:=q1
 subst e
 cases r1 with
 | cons r rr =>
  cases rr
  cases r
  obtain ⟨its,rv,pl,hz⟩:=I1.list hq
  refine call_enumerate_list pl.isList fun h' he hit hsz hk=>?_
  refine wpAny_pyIter_enum (s:={ s1 with heap:=h' }) he ?_
  refine ⟨s1.heap.objs.size+1,[s1.heap.objs.size+1,s1.heap.objs.size],_,_,H1,rfl,I1.kept (t':=s1.toks) hk,Zle l _ _ (Nat.succ_ne_self _),⟨⟨_,he⟩,hit⟩,fun b hb=>?_,q⟩
  have e':b=s1.heap.objs.size+1∨b=s1.heap.objs.size:=by simpa using hb
  have hb':s1.heap.objs.size≤b:=by rcases e' with rfl | rfl;exact Nat.le_succ _;exact Nat.le_refl _
  exact I1.fpOk hb' (I1.hok.fresh hb')
theorem Zct {es:List Expr} {k:Nat} {tp:Pos} {a b:Expr} {ta:TA} {p pos:Pos} (hg:Gl X "zip") (hm:X.mg "zip" = none) (ha:PA X [a,b] ta) (hs:starEach [a,b] X.env=[(false,eval a X.env),(false,eval b X.env)]:=by rfl) (hs2:starEach [b] X.env=[(false,eval b X.env)]:=by rfl) :
  PI X (.Tuple es k tp) (.Call (.Name "zip" p) [a,b] [] pos) (Zlh X.K ta):=by
 intro pins s σ H R I h
 refine Call_ (Uc I hg hm boot_zip (PyProof.Rows.callWith_type1 (Zv (ha pos pins s σ H _ I h) fun us s1 ⟨vs,H1,I1,r1,q1⟩=>?_) (by rw [hs,hs2]) (by rw [hs2];rfl)))
 obtain ⟨l,m,e,⟨xs,hq1⟩,⟨ys,hq2⟩,q⟩:=q1
 subst e
 cases r1 with
 | cons r rr =>
  cases rr with
  | cons r' rr =>
   cases rr
   cases r
   cases r'
   obtain ⟨its1,rv1,p1,hz1⟩:=I1.list hq1
   obtain ⟨its2,rv2,p2,hz2⟩:=I1.list hq2
   have lt1:l < s1.heap.objs.size:=by obtain ⟨o,e,_⟩:=p1.isList;exact Heap.lt_size e
   have lt2:m < s1.heap.objs.size:=by obtain ⟨o,e,_⟩:=p2.isList;exact Heap.lt_size e
   refine call_zip_2 p1.isList p2.isList fun h' hz hTI hTO hi1 hi2 hsz hk=>?_
   refine wpAny_pyIter_zip (s:={ s1 with heap:=h' }) hz ?_
   refine ⟨s1.heap.objs.size+4,[s1.heap.objs.size+4,s1.heap.objs.size+2,s1.heap.objs.size+3,s1.heap.objs.size,s1.heap.objs.size+1],_,_,H1,rfl,I1.kept (t':=s1.toks) hk,Zlf l m _ _ _ _ _ (zipApart_new lt1 lt2),⟨hz,hTI,⟨_,_,hTO⟩,hi1,hi2⟩,fun b hb=>?_,q⟩
   have hb':s1.heap.objs.size≤b:=by
    simp only [List.mem_cons,List.not_mem_nil,or_false] at hb
    rcases hb with rfl | rfl | rfl | rfl | rfl
    ·exact Nat.le_add_right _ _
    ·exact Nat.le_add_right _ _
    ·exact Nat.le_add_right _ _
    ·exact Nat.le_refl _
    ·exact Nat.le_add_right _ _
   exact I1.fpOk hb' (I1.hok.fresh hb')
end
theorem Zlj {K:PySem.W.Frag} {a:Addr} {xs:List V} {g:TG} {tb:TS} {D:VI} {σ:St} {H:Hp} (Pv:Nat→St→Hp→Prop) (h0:Pv 0 σ H) (hl:∀ i σ H,i≤xs.length→Pv i σ H→Zg K H a xs)
  (hs:∀ i x p σ H,xs[i]? = some x→H p=none→Pv i σ H→g (.ref p) σ (Zd H p (.tup [.int i,x])) fun σ2 H2=>tb { D with nx:=Pv (i+1),ct:=Pv (i+1),bk:=D.nx } σ2 H2) (hd:∀ σ H,Pv xs.length σ H→D.nx σ H) :
  ∃ W:Nat→Nat→St→Hp→Prop,(∃ m,W 0 m σ H)∧∀ i m σ H,W i m σ H →
   ((Ite K a).stop i H∧D.nx σ H)∨((Ite K a).go i H∧∃ N:St→Hp→Prop,(∀ σ' H',N σ' H'→∃ m',m' < m∧W (i+1) m' σ' H')∧∀ x H',(Ite K a).yld i H x H'→g x σ H' fun σ2 H2=>tb { D with nx:=N,ct:=N,bk:=D.nx } σ2 H2):=by
 refine ⟨fun i m σ H=>m=xs.length - i∧i≤xs.length∧Pv i σ H,⟨xs.length,by simp,Nat.zero_le _,h0⟩,?_⟩
 rintro i m σ H ⟨rfl,hi,p⟩
 have q:=hl i σ H hi p
 by_cases hlt:i < xs.length
 ·refine .inr ⟨⟨xs,xs[i],q,by simp [hlt]⟩,Pv (i+1),fun σ' H' p'=>⟨xs.length - (i+1),by omega,rfl,hlt,p'⟩,fun v H' y=>?_⟩
  obtain ⟨r,x,hr,y,rfl,rfl⟩:=y
  exact hs i x r σ _ (y xs q) hr p
 ·have e:i=xs.length:=by omega
  subst e
  exact .inl ⟨⟨xs,q,Nat.le_refl _⟩,hd σ H p⟩
theorem Zgh {K:PySem.W.Frag} {a b:Addr} {xs ys:List V} {g:TG} {tb:TS} {D:VI} {σ:St} {H:Hp} (Pv:Nat→St→Hp→Prop) (h0:Pv 0 σ H) (hl:∀ i σ H,i≤xs.length→i≤ys.length→Pv i σ H→Zg K H a xs∧Zg K H b ys)
  (hs:∀ i x y p σ H,xs[i]? = some x→ys[i]? = some y→H p=none→Pv i σ H→g (.ref p) σ (Zd H p (.tup [x,y])) fun σ2 H2=>tb { D with nx:=Pv (i+1),ct:=Pv (i+1),bk:=D.nx } σ2 H2) (hd:∀ i σ H,i=min xs.length ys.length→Pv i σ H→D.nx σ H) :
  ∃ W:Nat→Nat→St→Hp→Prop,(∃ m,W 0 m σ H)∧∀ i m σ H,W i m σ H →
   ((Ui K a b).stop i H∧D.nx σ H)∨((Ui K a b).go i H∧∃ N:St→Hp→Prop,(∀ σ' H',N σ' H'→∃ m',m' < m∧W (i+1) m' σ' H')∧∀ x H',(Ui K a b).yld i H x H'→g x σ H' fun σ2 H2=>tb { D with nx:=N,ct:=N,bk:=D.nx } σ2 H2):=by
 refine ⟨fun i m σ H=>m=xs.length - i∧(i≤xs.length∧i≤ys.length)∧Pv i σ H,⟨xs.length,by simp,⟨Nat.zero_le _,Nat.zero_le _⟩,h0⟩,?_⟩
 rintro i m σ H ⟨rfl,⟨hi,hj⟩,p⟩
 obtain ⟨q1,q2⟩:=hl i σ H hi hj p
 by_cases hlt:i < xs.length∧i < ys.length
 ·obtain ⟨h1,h2⟩:=hlt
  refine .inr ⟨⟨xs,ys,xs[i],ys[i],q1,q2,by simp [h1],by simp [h2]⟩,Pv (i+1),fun σ' H' p'=>⟨xs.length - (i+1),by omega,rfl,⟨h1,h2⟩,p'⟩,fun v H' y=>?_⟩
  obtain ⟨r,x,y,hr,y1,y2,rfl,rfl⟩:=y
  exact hs i x y r σ _ (y1 xs q1) (y2 ys q2) hr p
 ·exact .inl ⟨⟨xs,ys,q1,q2,by omega⟩,hd i σ H (by omega) p⟩
end L2
namespace L2
open PySem PySem.Spec PyProof.Rows
section
variable {κ:Type} [DecidableEq κ]
def ZA (kvs:List (κ×V)) (k:κ):Option V:=(kvs.find? fun kv=>decide (kv.1=k)).map (·.2)
def Yv (kvs:List (κ×V)) (k:κ) (v:V):List (κ×V) :=
 if (kvs.any fun kv=>decide (kv.1=k))=true then kvs.map (fun kv=>if kv.1=k then (kv.1,v) else kv) else kvs++[(k,v)]
def Vu (kvs:List (κ×V)) (k:κ):List (κ×V):=kvs.filter fun kv=>decide (kv.1≠k)
theorem Wp {p:κ×V} {r:List (κ×V)} {k:κ} (e:p.1=k):ZA (p::r) k=some p.2:=by simp [ZA,List.find?_cons,e]
theorem Wd {p:κ×V} {r:List (κ×V)} {k:κ} (e:¬ p.1=k):ZA (p::r) k=ZA r k:=by simp [ZA,List.find?_cons,e]
theorem Zaw (k:κ):∀ kvs:List (κ×V),(kvs.any fun kv=>decide (kv.1=k))=(ZA kvs k).isSome
 | []=>rfl
 | p::r=>by
  rw [List.any_cons]
  by_cases e:p.1=k
  ·simp only [Wp e,decide_eq_true e,Bool.true_or,Option.isSome_some]
  ·rw [Wd e,decide_eq_false e,Bool.false_or];exact Zaw k r
theorem Zgi (k j:κ) (y:V):∀ kvs:List (κ×V),ZA (kvs.map fun kv=>if kv.1=k then (kv.1,y) else kv) j=(ZA kvs j).map fun x=>if j=k then y else x
 | []=>rfl
 | p::r=>by
  have ih:=Zgi k j y r
  rw [List.map_cons]
  by_cases h:p.1=k
  ·rw [if_pos h]
   by_cases e:p.1=j
   ·rw [Wp (p:=(p.1,y)) e,Wp e,Option.map_some,if_pos (e.symm.trans h)]
   ·rw [Wd (p:=(p.1,y)) e,Wd e,ih]
  ·rw [if_neg h]
   by_cases e:p.1=j
   ·rw [Wp (p:=p) e,Wp e,Option.map_some,if_neg (fun z=>h (e.trans z))]
   ·rw [Wd (p:=p) e,Wd e,ih]
theorem Zgj (k j:κ) (y:V):∀ kvs:List (κ×V),ZA kvs k=none→ZA (kvs++[(k,y)]) j=if j=k then some y else ZA kvs j
 | [],_=>by
  by_cases e:k=j
  ·rw [if_pos e.symm];exact Wp (p:=(k,y)) e
  ·rw [if_neg (fun z=>e z.symm)];exact Wd (p:=(k,y)) e
 | p::r,hn=>by
  rw [List.cons_append]
  have hk:¬ p.1=k:=fun z=>by rw [Wp z] at hn;cases hn
  rw [Wd hk] at hn
  have ih:=Zgj k j y r hn
  by_cases e:p.1=j
  ·rw [Wp e,Wp e,if_neg (fun z=>hk (e.trans z))]
  ·rw [Wd e,Wd e,ih]
theorem WC (kvs:List (κ×V)) (k j:κ) (y:V):ZA (Yv kvs k y) j=if j=k then some y else ZA kvs j:=by
 unfold Yv
 by_cases a:(kvs.any fun kv=>decide (kv.1=k))=true
 ·rw [if_pos a,Zgi]
  rw [Zaw] at a
  by_cases e:j=k
  ·obtain ⟨x,hx⟩:=Option.isSome_iff_exists.mp a
   rw [if_pos e,e,hx,Option.map_some,if_pos rfl]
  ·rw [if_neg e]
   cases ZA kvs j with
   | none=>rfl
   | some x=>rw [Option.map_some,if_neg e]
 ·rw [if_neg a]
  refine Zgj k j y kvs ?_
  rw [Zaw] at a
  cases q:ZA kvs k with
  | none=>rfl
  | some x=>rw [q] at a;exact (a rfl).elim
theorem UK (kvs:List (κ×V)) (k:κ) (v:V):(Yv kvs k v).length≤kvs.length+1:=by
 unfold Yv
 split
 ·rw [List.length_map];omega
 ·rw [List.length_append,List.length_cons,List.length_nil];omega
theorem Zax {kvs:List (κ×V)} {k:κ} (v:V) (h:ZA kvs k=none):Yv kvs k v=kvs++[(k,v)]:=by
 unfold Yv
 rw [Zaw,h]
 exact if_neg (by decide)
theorem Xp.isSome_eq {o:Option V} {u:Option Value} (r:Xp o u):o.isSome=u.isSome:=by
 cases o with
 | none=>cases u with
  | none=>rfl
  | some _=>exact (show False from r).elim
 | some _=>cases u with
  | none=>exact (show False from r).elim
  | some _=>rfl
theorem Xp.getD {o:Option V} {u:Option Value} {d:V} {d':Value} (r:Xp o u) (rd:ZC d d'):ZC (o.getD d) (u.getD d'):=by
 cases o with
 | none=>cases u with
  | none=>exact rd
  | some _=>exact (show False from r).elim
 | some _=>cases u with
  | none=>exact (show False from r).elim
  | some _=>exact r
theorem KV.val {kvs:List (κ×V)} {vs:List (κ×Value)} (r:KV kvs vs) (k:κ):Xp (ZA kvs k) (valueAt vs k):=by
 unfold KV at r
 induction r with
 | nil=>exact True.intro
 | @cons p q ps qs h t ih =>
  obtain ⟨h1,h2⟩:=h
  by_cases e:p.1=k
  ·have e':q.1=k:=h1.symm.trans e
   have b:valueAt (q::qs) k=some q.2:=by simp [valueAt,List.find?_cons,e']
   rw [Wp e,b];exact h2
  ·have e':¬ q.1=k:=fun z=>e (h1.trans z)
   have b:valueAt (q::qs) k=valueAt qs k:=by simp [valueAt,List.find?_cons,e']
   rw [Wd e,b];exact ih
theorem KV.any {kvs:List (κ×V)} {vs:List (κ×Value)} (r:KV kvs vs) (k:κ):(kvs.any fun kv=>decide (kv.1=k))=vs.any fun kv=>decide (kv.1=k):=by
 unfold KV at r
 induction r with
 | nil=>rfl
 | cons h t ih=>rw [List.any_cons,List.any_cons,ih,h.1]
theorem KV.repl {kvs:List (κ×V)} {vs:List (κ×Value)} (r:KV kvs vs) (k:κ) {y:V} {u:Value} (ry:ZC y u) :
  KV (kvs.map fun kv=>if kv.1=k then (kv.1,y) else kv) (vs.map fun kv=>if kv.1=k then (kv.1,u) else kv):=by
 unfold KV at r ⊢
 induction r with
 | nil=>exact .nil
 | @cons p q ps qs h t ih =>
  rw [List.map_cons,List.map_cons]
  refine .cons ?_ ih
  obtain ⟨h1,h2⟩:=h
  by_cases e:p.1=k
  ·rw [if_pos e,if_pos (h1.symm.trans e)];exact ⟨h1,ry⟩
  ·rw [if_neg e,if_neg (fun z=>e (h1.trans z))];exact ⟨h1,h2⟩
theorem KV.put {kvs:List (κ×V)} {vs:List (κ×Value)} (r:KV kvs vs) (k:κ) {y:V} {u:Value} (ry:ZC y u):KV (Yv kvs k y) (stored vs k u):=by
 unfold Yv stored
 rw [r.any k]
 by_cases e:(vs.any fun kv=>decide (kv.1=k))=true
 ·rw [if_pos e,if_pos e];exact r.repl k ry
 ·rw [if_neg e,if_neg e];exact Paired.snoc r ⟨rfl,ry⟩
theorem KV.length {kvs:List (κ×V)} {vs:List (κ×Value)} (r:KV kvs vs):kvs.length=vs.length:=Paired.length r
theorem Zgk (kvs:List (κ×V)) (k:κ):(Vu kvs k).length≤kvs.length:=List.length_filter_le _ _
end
theorem UL {P:Program} {w:World} {k:Zt} {u:Value} (r:ZC (kV k) u):(Xy P w).is k u=true:=by
 cases k with
 | inl i=>obtain ⟨t,e⟩:=(show ∃ t,u=Value.int i t from r);subst e;exact ZiL P w i t
 | inr x=>obtain ⟨t,e⟩:=(show ∃ t,u=Value.str x t from r);subst e;exact ZiM P w x t
theorem Zgl {P:Program} {w:World}:∀ {ks:List Zt} {us:List Value},Zy (ks.map kV) us→ItemsAre (Xy P w) ks us
 | [],_,r=>by rw [List.map_nil] at r;cases r;exact .nil
 | k::ks,_,r=>by
  rw [List.map_cons] at r
  cases r with
  | cons h t=>exact .cons (UL h) (Zgl t)
abbrev KT (H:Hp):List (List Zt×V)→List (List Zt×Addr×Value)→Prop:=Paired fun p q=>p.1=q.1∧H q.2.1=some (.tup (p.1.map kV))∧ZC p.2 q.2.2
theorem KT.val {H:Hp} {kvs:List (List Zt×V)} {xs:List (List Zt×Addr×Value)} (r:KT H kvs xs) (k:List Zt):Xp (ZA kvs k) ((atKey xs k).map (·.2)):=by
 induction r with
 | nil=>exact True.intro
 | @cons p q ps qs h t ih =>
  obtain ⟨h1,_,h2⟩:=h
  by_cases e:p.1=k
  ·have e':q.1=k:=h1.symm.trans e
   have b:atKey (q::qs) k=some q.2:=by simp [atKey,List.find?_cons,e']
   rw [Wp e,b];exact h2
  ·have e':¬ q.1=k:=fun z=>e (h1.trans z)
   have b:atKey (q::qs) k=atKey qs k:=by simp [atKey,List.find?_cons,e']
   rw [Wd e,b];exact ih
theorem KT.repl {H:Hp} {kvs:List (List Zt×V)} {xs:List (List Zt×Addr×Value)} (r:KT H kvs xs) (k:List Zt) {y:V} {u:Value} (ry:ZC y u) :
  KT H (kvs.map fun kv=>if kv.1=k then (kv.1,y) else kv) (xs.map (putAt k u)):=by
 induction r with
 | nil=>exact .nil
 | @cons p q ps qs h t ih =>
  rw [List.map_cons,List.map_cons]
  refine .cons ?_ ih
  obtain ⟨h1,h2,h3⟩:=h
  unfold putAt
  by_cases e:p.1=k
  ·rw [if_pos e,if_pos (h1.symm.trans e)];exact ⟨h1,h2,ry⟩
  ·rw [if_neg e,if_neg (fun z=>e (h1.trans z))];exact ⟨h1,h2,h3⟩
theorem KT.put {H:Hp} {kvs:List (List Zt×V)} {xs:List (List Zt×Addr×Value)} (r:KT H kvs xs) (k:List Zt) {b:Addr} {y:V} {u:Value} (hb:H b=some (.tup (k.map kV))) (ry:ZC y u) :
  KT H (Yv kvs k y) (storedH xs k b u):=by
 have e:(kvs.any fun kv=>decide (kv.1=k))=(atKey xs k).isSome:=by
  rw [Zaw,(r.val k).isSome_eq,Option.isSome_map]
 unfold Yv storedH
 rw [e]
 by_cases q:(atKey xs k).isSome=true
 ·rw [if_pos q,if_pos q];exact r.repl k ry
 ·rw [if_neg q,if_neg q];exact Paired.snoc r ⟨rfl,hb,ry⟩
theorem KT.keeps {H H':Hp} {kvs:List (List Zt×V)} {xs:List (List Zt×Addr×Value)} (r:KT H kvs xs) (ht:∀ b ys,H b=some (.tup ys)→H' b=some (.tup ys)):KT H' kvs xs :=
 Paired.mapP r fun _ _ z=>⟨z.1,ht _ _ z.2.1,z.2.2⟩
section
variable {P:Program} {w:World} {H:Hp} {h:Heap} {a:Addr}
theorem Zgm {u:HO} (ok:Yy P w H h) (e:Rd H a u):Yc P w H h a u:=e.ok ok
theorem Uj {kvs:List (Zt×V)} (ok:Yy P w H h) (e:Rd H a (.dK kvs)):kvs.length≤sizeLine∧(a == sysModules)=false∧∃ vs,KV kvs vs∧h.DictOf (Xy P w) a vs :=
 show Yc P w H h a (.dK kvs) from Zgm ok e
theorem Zgn {kvs:List (Zt×V)} (ok:Yy P w H h) (e:H a=some (.dK kvs)):kvs.length≤sizeLine∧(a == sysModules)=false∧∃ vs,KV kvs vs∧h.DictOf (Xy P w) a vs:=Uj ok (.inl e)
theorem UM {ks:List Zt} (ok:Yy P w H h) (e:H a=some (.tup (ks.map kV))):(tupleKind (Xy P w)).is h ks a:=by
 obtain ⟨_,its,r,o,h1,h2,n,h3⟩:=(show Yc P w H h a (.tup (ks.map kV)) from ok a _ e)
 exact ⟨o,its.toArray,n,h1,h2,h3,by simpa using Zgl r⟩
theorem UN {kvs:List (List Zt×V)} (ok:Yy P w H h) (e:Rd H a (.dT kvs)):kvs.length≤sizeLine∧(a == sysModules)=false ∧
  ∃ xs,KT H kvs xs∧h.DictOfH (tupleKind (Xy P w)) a xs:=by
 obtain ⟨z,y,xs,r,o,es,ep,h1,h2,h3,h4,h5⟩:=(show Yc P w H h a (.dT kvs) from Zgm ok e)
 refine ⟨z,y,xs,r,o,es,ep,h1,h2,h3,h4,fun x hx=>?_,h5⟩
 have all:∀ {l:List (List Zt×V)} {m:List (List Zt×Addr×Value)},KT H l m→∀ x∈m,(tupleKind (Xy P w)).is h x.1 x.2.1:=by
  intro l m q
  induction q with
  | nil=>intro x hx;exact nomatch hx
  | @cons p q ps qs hq t ih =>
   intro x hx
   rcases List.mem_cons.mp hx with e | hx
   ·subst e
    exact UM ok (by rw [← hq.1];exact hq.2.1)
   ·exact ih x hx
 exact all r x hx
theorem Zgo {kvs:List (List Zt×V)} (ok:Yy P w H h) (e:H a=some (.dT kvs)):kvs.length≤sizeLine∧(a == sysModules)=false ∧
  ∃ xs,KT H kvs xs∧h.DictOfH (tupleKind (Xy P w)) a xs:=UN ok (.inl e)
end
def Yd (H:Hp) (a:Addr) (y:V) (r:Option V):Prop :=
 (∃ kvs k,Rd H a (.dK kvs)∧y=kV k∧r=ZA kvs k)∨∃ kvs k b,Rd H a (.dT kvs)∧y=.ref b∧H b=some (.tup (k.map kV))∧r=ZA kvs k
def XW (H:Hp) (a:Addr) (y v:V) (H':Hp):Prop :=
 (∃ kvs k,H a=some (.dK kvs)∧y=kV k∧kvs.length < sizeLine∧H'=Zd H a (.dK (Yv kvs k v))) ∨
 ∃ kvs k b,H a=some (.dT kvs)∧y=.ref b∧H b=some (.tup (k.map kV))∧kvs.length < sizeLine∧H'=Zd H a (.dT (Yv kvs k v))
theorem Yd.k {H:Hp} {a:Addr} {kvs:List (Zt×V)} {k:Zt} (e:H a=some (.dK kvs)):Yd H a (kV k) (ZA kvs k):=.inl ⟨kvs,k,.inl e,rfl,rfl⟩
theorem Yd.t {H:Hp} {a b:Addr} {kvs:List (List Zt×V)} {k:List Zt} (e:H a=some (.dT kvs)) (eb:H b=some (.tup (k.map kV))):Yd H a (.ref b) (ZA kvs k):=.inr ⟨kvs,k,b,.inl e,rfl,eb,rfl⟩
theorem XW.k {H:Hp} {a:Addr} {kvs:List (Zt×V)} {k:Zt} {v:V} (e:H a=some (.dK kvs)) (hl:kvs.length < sizeLine):XW H a (kV k) v (Zd H a (.dK (Yv kvs k v))):=.inl ⟨kvs,k,e,rfl,hl,rfl⟩
theorem XW.t {H:Hp} {a b:Addr} {kvs:List (List Zt×V)} {k:List Zt} {v:V} (e:H a=some (.dT kvs)) (eb:H b=some (.tup (k.map kV))) (hl:kvs.length < sizeLine) :
  XW H a (.ref b) v (Zd H a (.dT (Yv kvs k v))):=.inr ⟨kvs,k,b,e,rfl,eb,hl,rfl⟩
section
variable {X:Cx} {pins:List (Addr×Obj)} {σ:St} {H:Hp} {s:Shared} {a:Addr} {y v:V} {u r:Value} {o:Option V} {A:Around} {E:Value→Shared→Prop}
theorem Zf.big (I:Zf X pins σ H s):sysModules < s.heap.objs.size:=by
 have h:mainGlobals < s.heap.objs.size:=(I.mod.glob.keeps I.bk).lt
 exact Nat.lt_trans (by decide) h
theorem Zlk {Q:Value→Shared→Prop} (hu:A.units+1 < cLine) (I:Zf X pins σ H s) (g:Yd H a y (some v)) (ry:ZC y u) (h:∀ w' s',Zf X pins σ H s'→ZC v w'→Q w' s') :
  wpAny (model X.prog X.w) A (getItem (.ref a) u) Q E s:=by
 rcases g with ⟨kvs,k,e,ey,l⟩ | ⟨kvs,k,b,e,ey,eb,l⟩
 ·subst ey
  obtain ⟨z,hd,vs,rel,dd⟩:=Uj I.hok e
  obtain ⟨w',hw,rw'⟩:=Xp.some_of (v:=v) (o:=valueAt vs k) (by rw [l];exact rel.val k)
  exact wpAny_getItem_of (UL ry) dd.mapOf hw (h w' _ (I.tok _) rw')
 ·subst ey
  cases (show u=Value.ref b from ry)
  obtain ⟨z,hd,xs,rel,dd⟩:=UN I.hok e
  obtain ⟨w',hw,rw'⟩:=Xp.some_of (v:=v) (o:=(atKey xs k).map (·.2)) (by rw [l];exact rel.val k)
  obtain ⟨p,hp,hp2⟩:=Option.map_eq_some_iff.mp hw
  refine wpAny_getItem_heap (tupleKind_room_in1 hu) (UM I.hok eb) dd hp ?_
  rw [hp2]
  exact h w' _ (I.tok _) rw'
theorem Zll {Q:Value→Shared→Prop} (hu:A.units+1 < cLine) (I:Zf X pins σ H s) (g:Yd H a y o) (ry:ZC y u) (h:∀ s',Zf X pins σ H s'→Q (.bool o.isSome) s') :
  wpAny (model X.prog X.w) A (compareOp .In u (.ref a)) Q E s:=by
 rcases g with ⟨kvs,k,e,ey,l⟩ | ⟨kvs,k,b,e,ey,eb,l⟩
 ·subst ey
  obtain ⟨z,hd,vs,rel,dd⟩:=Uj I.hok e
  refine wpAny_in_of (UL ry) hd dd.mapOf ?_
  rw [← (rel.val k).isSome_eq,← l]
  exact h _ (I.tok _)
 ·subst ey
  cases (show u=Value.ref b from ry)
  obtain ⟨z,hd,xs,rel,dd⟩:=UN I.hok e
  refine wpAny_in_heap (tupleKind_room_in1 hu) (UM I.hok eb) hd dd ?_
  have q:=(rel.val k).isSome_eq
  rw [Option.isSome_map] at q
  rw [← q,← l]
  exact h _ (I.tok _)
theorem Zlm {Q:Value→Shared→Prop} (hu:A.units+1 < cLine) (I:Zf X pins σ H s) (g:Yd H a y o) (ry:ZC y u) (h:∀ s',Zf X pins σ H s'→Q (.bool (!o.isSome)) s') :
  wpAny (model X.prog X.w) A (compareOp .NotIn u (.ref a)) Q E s:=by
 rcases g with ⟨kvs,k,e,ey,l⟩ | ⟨kvs,k,b,e,ey,eb,l⟩
 ·subst ey
  obtain ⟨z,hd,vs,rel,dd⟩:=Uj I.hok e
  refine wpAny_notIn_of (UL ry) hd dd.mapOf ?_
  rw [← (rel.val k).isSome_eq,← l]
  exact h _ (I.tok _)
 ·subst ey
  cases (show u=Value.ref b from ry)
  obtain ⟨z,hd,xs,rel,dd⟩:=UN I.hok e
  refine wpAny_notIn_heap (tupleKind_room_in1 hu) (UM I.hok eb) hd dd ?_
  have q:=(rel.val k).isSome_eq
  rw [Option.isSome_map] at q
  rw [← q,← l]
  exact h _ (I.tok _)
theorem Zbq {h':Heap} {t':Nat} {ob:HO} (I:Zf X pins σ H s) (mu:Mut (H a)) (hs:Heap.SameBut a s.heap h') (he:∃ q,h'.get? a=some q) (new:Yc X.prog X.w (Zd H a ob) h' a ob) :
  Zf X pins σ (Zd H a ob) { s with heap:=h',toks:=t' } :=
 I.write (x:=a) (e:=a) mu (.inl rfl) (fun b q hb z=>(hs.2 b hb).trans z) he new
theorem Zgp {P:Program} {w:World} {H':Hp} {h':Heap} {kvs:List (Zt×V)} {vs:List (Zt×Value)} (z:kvs.length≤sizeLine) (hd:(a == sysModules)=false) (rel:KV kvs vs) (dd:h'.DictOf (Xy P w) a vs) :
  Yc P w H' h' a (.dK kvs):=⟨z,hd,vs,rel,dd⟩
theorem Zln {H':Hp} {Q:Unit→Shared→Prop} (hu:A.units+1 < cLine) (I:Zf X pins σ H s) (g:XW H a y v H') (ry:ZC y u) (rv:ZC v r) (h:∀ s',Zf X pins σ H' s'→Q () s') :
  wpAny (model X.prog X.w) A (setItem (.ref a) u r) Q E s:=by
 rcases g with ⟨kvs,k,e,ey,l,eH⟩ | ⟨kvs,k,b,e,ey,eb,l,eH⟩
 ·subst ey eH
  obtain ⟨z,hd,vs,rel,dd⟩:=Zgn I.hok e
  have hz:vs.length≤sizeLine:=by rw [← rel.length];exact z
  have hl:(Yv kvs k v).length≤sizeLine:=by have:=UK kvs k v;omega
  refine wpAny_setItem_pairs (hsz:=hz) (UL ry) dd fun h' dd' hs=>h _ ?_
  have he:∃ q,h'.get? a=some q:=let ⟨q,_,_,hq,_⟩:=dd';⟨q,hq⟩
  exact Zbq I (by rw [e];exact True.intro) hs he (Zgp hl hd (rel.put k rv) dd')
 ·subst ey eH
  cases (show u=Value.ref b from ry)
  obtain ⟨z,hd,xs,rel,dd⟩:=Zgo I.hok e
  have hz:xs.length≤sizeLine:=by rw [← Paired.length rel];exact z
  have hl:(Yv kvs k v).length≤sizeLine:=by have:=UK kvs k v;omega
  refine wpAny_setItem_heap (hsz:=hz) (tupleKind_room_in1 hu) (UM I.hok eb) dd fun h' dd' hs=>h _ ?_
  obtain ⟨q,es,ep,hq,h2,h3,h4,_,h5⟩:=dd'
  refine Zbq I (by rw [e];exact True.intro) hs ⟨q,hq⟩ ⟨hl,hd,_,(rel.put k eb rv).keeps fun c ys ec=>?_,q,es,ep,hq,h2,h3,h4,h5⟩
  rw [Zl (YL ec e (fun z=>nomatch z))]
  exact ec
end
section
variable {X:Cx} {pins:List (Addr×Obj)} {σ:St} {H:Hp} {s:Shared} {a:Addr} {kvs:List (Zt×V)} {k:Zt} {u:Value} {A:Around} {E:Value→Shared→Prop}
theorem Zlo {Q:Value→Shared→Prop} (I:Zf X pins σ H s) (e:Rd H a (.dK kvs)) (h:∀ t s',Zf X pins σ H s'→Q (.int kvs.length t) s'):wpAny (model X.prog X.w) A (call (.builtin "len") [.ref a]) Q E s:=by
 obtain ⟨z,hd,vs,rel,dd⟩:=Uj I.hok e
 refine call_len_dict hd dd (by rw [← rel.length];rw [sizeLine_eq] at z;omega) ?_
 rw [← rel.length]
 exact h _ _ (I.tok _)
end
def Zgq (i:Expr):Prop:=∀ ov iv,subscripted i false ov iv=operate [ov,iv] (getItem ov iv)
theorem Zlp {prog:Program} {w:World} {A:Around} {E:Value→Shared→Prop} {s:Shared} {env:Env} {value slice:Expr} {pos:Pos} {T id:String} {Q:Value→Shared→Prop}
  (hl:typeLookup (.type T) "__getitem__" = pure (some (.builtin id))) (hs:Zgq slice)
  (h:wpAny (model prog w) A (eval value env) (fun o s₁=>wpAny (model prog w) A (eval slice env) (fun i s₂=>s₂.TypeIs o T∧wpAny (model prog w) A (getItem o i) Q E s₂) E s₁) E s) :
  wpAny (model prog w) A (eval (.Subscript value slice pos) env) Q E s:=by
 refine Subscript_ (wpAny_mono h (fun o s₁ h₁=>wpAny_mono h₁ (fun i s₂ h₂=>?_) fun _ _ x=>x) fun _ _ x=>x)
 obtain ⟨hT,h₂⟩:=h₂
 unfold subscriptTail
 refine wpAny_bind ?_
 rw [getitemInPython_of_ne hT.not_modules]
 refine wpAny_bind (wpAny_specialOf hT hl ?_)
 have fin:wpAny (model prog w) A (subscripted slice false o i) (fun r s₃=>wpAny (model prog w) A (letTemporaryGo value o r >>= fun _=>pure r) Q E s₃) E s₂:=by
  rw [hs o i]
  exact wpAny_operating (wpAny_mono h₂ (fun r s₃ h₃=>wpAny_bind (wpAny_letTemporaryGo (wpAny_pure h₃))) fun _ _ x=>x)
 first
  | exact wpAny_pure (wpAny_bind fin)
  | exact wpAny_bind (wpAny_pure (wpAny_bind fin))
  | exact wpAny_bind fin
theorem Zlq {X:Cx} {pins:List (Addr×Obj)} {σ:St} {H:Hp} {s:Shared} {a:Addr} {y:V} {o:Option V} (I:Zf X pins σ H s) (g:Yd H a y o):s.TypeIs (.ref a) "dict" := by
 rcases g with ⟨kvs,k,e,_,_⟩ | ⟨kvs,k,b,e,_,_,_⟩
 ·obtain ⟨_,_,vs,_,dd⟩:=Uj I.hok e
  exact dd.typeIs
 ·obtain ⟨_,_,xs,_,dd⟩:=UN I.hok e
  exact dd.typeIs
def Zlr (td ty:TE):TE:=fun σ H Q=>td σ H fun x H1=>ty σ H1 fun y H2=>∃ a v,x=.ref a∧Yd H2 a y (some v)∧Q v H2
def Zls (ty td:TE):TE:=fun σ H Q=>ty σ H fun y H1=>td σ H1 fun x H2=>∃ a o,x=.ref a∧Yd H2 a y o∧Q (.bl o.isSome) H2
def Zlt (ty td:TE):TE:=fun σ H Q=>ty σ H fun y H1=>td σ H1 fun x H2=>∃ a o,x=.ref a∧Yd H2 a y o∧Q (.bl (!o.isSome)) H2
def Zlu (td ty tv:TE):TS:=fun D σ H=>tv σ H fun v H1=>td σ H1 fun x H2=>ty σ H2 fun y H3=>∃ a H4,x=.ref a∧XW H3 a y v H4∧D.nx σ H4
section
variable {X:Cx} {o i e value:Expr} {pos pos' tpos:Pos} {td ty tv:TE}
theorem Xa (hu:X.A.units+1 < cLine) (ho:PE X o td) (hi:PE X i ty) (hs:Zgq i):PE X (.Subscript o i pos) (Zlr td ty):=by
 intro pins s σ H Q I h
 refine Zlp PySem.F.slot_dict_getitem.lookup hs (Zv (ho pins s σ H _ I h) fun u s1 ⟨x,H1,I1,rx,q1⟩=>Zv (hi pins s1 σ H1 _ I1 q1) fun iv s2 ⟨y,H2,I2,ry,a,v,ex,g,q2⟩=>?_)
 subst ex
 obtain rfl:u=Value.ref a:=rx
 exact ⟨Zlq I2 g,Zlk hu I2 g ry fun w' s3 I3 rw'=>⟨v,H2,I3,rw',q2⟩⟩
theorem Zbr (hu:X.A.units+1 < cLine) (hi:PE X i ty) (ho:PE X o td):PC X .In i o (Zls ty td):=by
 intro pins s σ H Q I h
 refine Zv (hi pins s σ H _ I h) fun iv s1 ⟨y,H1,I1,ry,q1⟩=>Zv (ho pins s1 σ H1 _ I1 q1) fun u s2 ⟨x,H2,I2,rx,a,ov,ex,g,q2⟩=>?_
 subst ex
 obtain rfl:u=Value.ref a:=rx
 exact Zll hu I2 g ry fun s3 I3=>⟨.bl ov.isSome,H2,I3,rfl,q2⟩
theorem Zlv (hu:X.A.units+1 < cLine) (hi:PE X i ty) (ho:PE X o td):PC X .NotIn i o (Zlt ty td):=by
 intro pins s σ H Q I h
 refine Zv (hi pins s σ H _ I h) fun iv s1 ⟨y,H1,I1,ry,q1⟩=>Zv (ho pins s1 σ H1 _ I1 q1) fun u s2 ⟨x,H2,I2,rx,a,ov,ex,g,q2⟩=>?_
 subst ex
 obtain rfl:u=Value.ref a:=rx
 exact Zlm hu I2 g ry fun s3 I3=>⟨.bl (!ov.isSome),H2,I3,rfl,q2⟩
theorem Vv (hu:X.A.units+1 < cLine) (ho:PE X o td) (hi:PE X i ty) (hv:PE X value tv) (hs:swapsWith value (some (.Subscript o i pos')) pos.line X.env=pure false) :
  PS X (.Assign [.Subscript o i pos'] value pos) (Zlu td ty tv):=by
 intro pins s σ H D I h
 refine wpAny_Assign_Subscript (Zv (hv pins s σ H _ I h) fun r s1 ⟨v,H1,I1,rv,q1⟩=>Zv (ho pins s1 σ H1 _ I1 q1) fun u s2 ⟨x,H2,I2,rx,q2⟩=>Zv (hi pins s2 σ H2 _ I2 q2) fun iv s3 ⟨y,H3,I3,ry,a,H4,ex,g,q3⟩=>?_) hs
 subst ex
 obtain rfl:u=Value.ref a:=rx
 exact Zln hu I3 g ry rv fun s4 I4=>⟨σ,H4,I4,q3⟩
end
theorem Zlw {P:Program} {w:World} {H:Hp} (h:Heap) (hb:sysModules < h.objs.size):Yc P w H (h.push { cls:=.type "dict",data:=.dict #[] }) h.objs.size (.dK []) :=
 ⟨Nat.zero_le _,beq_eq_false_iff_ne.mpr (Ne.symm (Nat.ne_of_lt hb)),[],.nil,Heap.DictOf.new h⟩
theorem Zlx {P:Program} {w:World} {H:Hp} (h:Heap) (hb:sysModules < h.objs.size):Yc P w H (h.push { cls:=.type "dict",data:=.dict #[] }) h.objs.size (.dT []) :=
 ⟨Nat.zero_le _,beq_eq_false_iff_ne.mpr (Ne.symm (Nat.ne_of_lt hb)),[],.nil,_,#[],0,Heap.get?_push_size _ rfl,⟨rfl,rfl,rfl⟩,rfl,rfl,List.nodup_nil⟩
def Zly:TE:=fun _ H Q=>∀ p,H p=none→Q (.ref p) (Zd H p (.dT []))
section
variable {X:Cx} {pos:Pos}
theorem Zay:PE X (.Dict [] [] pos) Zly:=fun pins s σ H Q I h =>
 wpAny_Dict_empty ⟨.ref s.heap.objs.size,_,I.laid (a:=s.heap.objs.size) (o:=.dT []) (t':=s.toks) (fun _ _ q=>Heap.get?_push_of_some _ q) (Nat.le_refl _) (Zlx s.heap I.big),rfl,h _ (I.hok.fresh (Nat.le_refl _))⟩
end
def Zcu:List (TE×TE)→St→Hp→(List (V×V)→Hp→Prop)→Prop
 | [],_,H,Q=>Q [] H
 | (tk,tv)::r,σ,H,Q=>tk σ H fun x H1=>tv σ H1 fun y H2=>Zcu r σ H2 fun ps H3=>Q ((x,y)::ps) H3
abbrev VV:List (V×V)→List (Value×Value)→Prop:=Paired fun p q=>ZC p.1 q.1∧ZC p.2 q.2
def PPs (X:Cx) (pos:Pos) (keys:List (Option Expr)) (values:List Expr) (trs:List (TE×TE)):Prop :=
 ∀ (pins:List (Addr×Obj)) (s:Shared) (σ:St) (H:Hp) (Q:List (V×V)→Hp→Prop),Zf X pins σ H s→Zcu trs σ H Q →
  wpAny (model X.prog X.w) X.A (evalPairs (pairTrees keys values X.env pos)) (fun vs s'=>∃ ps H',Zf X pins σ H' s'∧VV ps vs∧Q ps H') X.xe s
theorem Zlz {X:Cx} {pos:Pos}:PPs X pos [] [] []:=fun pins s σ H Q I h=>pairTrees_nil_walk ⟨[],H,I,.nil,h⟩
theorem Zbs {X:Cx} {pos:Pos} {k v:Expr} {ks:List (Option Expr)} {vs:List Expr} {tk tv:TE} {trs:List (TE×TE)} (hk:PE X k tk) (hv:PE X v tv) (hr:PPs X pos ks vs trs) :
  PPs X pos (some k::ks) (v::vs) ((tk,tv)::trs):=fun pins s σ H Q I h =>
 pairTrees_cons_walk (Zv (hk pins s σ H _ I h) fun u s1 ⟨x,H1,I1,rx,q1⟩=>Zv (hv pins s1 σ H1 _ I1 q1) fun w2 s2 ⟨y,H2,I2,ry,q2⟩ =>
  Zv (hr pins s2 σ H2 _ I2 q2) fun ws s3 ⟨ps,H3,I3,rel,q3⟩=>⟨(x,y)::ps,H3,I3,.cons ⟨rx,ry⟩ rel,q3⟩)
def WD (kvs more:List (Zt×V)):List (Zt×V):=more.foldl (fun acc kv=>Yv acc kv.1 kv.2) kvs
theorem KV.merge:∀ {more:List (Zt×V)} {rs:List (Zt×Value)} {kvs:List (Zt×V)} {vs:List (Zt×Value)},KV more rs→KV kvs vs→KV (WD kvs more) (merged vs rs):=by
 intro more rs kvs vs r
 unfold KV at r
 induction r generalizing kvs vs with
 | nil=>intro q;exact q
 | @cons p q ps qs h t ih =>
  intro r0
  have e:KV (Yv kvs p.1 p.2) (stored vs q.1 q.2):=by
   have:=r0.put p.1 h.2
   rw [← h.1];exact this
  exact ih e
theorem Zgr:∀ (more kvs:List (Zt×V)),(WD kvs more).length≤kvs.length+more.length
 | [],kvs=>by show kvs.length≤kvs.length+0;omega
 | p::r,kvs=>by
  have h1:=Zgr r (Yv kvs p.1 p.2)
  have h2:=UK kvs p.1 p.2
  show (WD (Yv kvs p.1 p.2) r).length≤_
  rw [List.length_cons];omega
theorem Zgs {P:Program} {w:World}:∀ {kvs:List (Zt×V)} {ws:List (Value×Value)},VV (kvs.map fun kv=>(kV kv.1,kv.2)) ws→∃ rs,Carries (Xy P w) ws rs∧KV kvs rs
 | [],_,r=>by rw [List.map_nil] at r;cases r;exact ⟨[],True.intro,.nil⟩
 | p::kvs,_,r=>by
  rw [List.map_cons] at r
  cases r with
  | @cons a b as bs h t =>
   obtain ⟨rs,c,q⟩:=Zgs (P:=P) (w:=w) t
   obtain ⟨b1,b2⟩:=b
   exact ⟨(p.1,b2)::rs,⟨UL h.1,rfl,c⟩,.cons ⟨rfl,h.2⟩ q⟩
def ZlA (trs:List (TE×TE)):TE:=fun σ H Q=>∀ p,H p=none→Zcu trs σ (Zd H p (.dK [])) fun ps H2=>H2 p=some (.dK [])∧∃ kvs:List (Zt×V),ps=kvs.map (fun kv=>(kV kv.1,kv.2))∧kvs.length≤15∧Q (.ref p) (Zd H2 p (.dK (WD [] kvs)))
theorem ZlB {X:Cx} {pos:Pos} {keys:List (Option Expr)} {values:List Expr} {trs:List (TE×TE)} (h:PPs X pos keys values trs) (hall:keys.all (·.isSome)=true) (hl:keys.length=values.length) (h0:keys≠[])
  (h15:keys.length≤15):PE X (.Dict keys values pos) (ZlA trs):=by
 intro pins s σ H Q I q
 have hn:=I.hok.fresh (Nat.le_refl s.heap.objs.size)
 have I1:=I.laid (a:=s.heap.objs.size) (o:=.dK []) (h':=s.heap.push { cls:=.type "dict",data:=.dict #[] }) (t':=s.toks) (fun _ _ q=>Heap.get?_push_of_some _ q) (Nat.le_refl _) (Zlw s.heap I.big)
 refine wpAny_Dict_walk (knd:=Xy X.prog X.w) hall hl h0 h15 (Zv (h pins _ σ _ _ I1 (q _ hn)) fun ws s2 ⟨ps,H2,I2,rel,e,kvs,ep,lk,q2⟩=>?_)
 subst ep
 obtain ⟨rs,c,rk⟩:=Zgs (P:=X.prog) (w:=X.w) rel
 obtain ⟨z,hd,vs0,r0,dd⟩:=Zgn I2.hok e
 cases r0
 refine ⟨rs,c,dd,fun h' dd' hs=>⟨.ref s.heap.objs.size,_,?_,rfl,q2⟩⟩
 have hz:(WD [] kvs).length≤sizeLine:=by
  have h1:=Zgr kvs []
  rw [List.length_nil] at h1
  rw [sizeLine_eq];omega
 have he:∃ q,h'.get? s.heap.objs.size=some q:=let ⟨q,_,_,hq,_⟩:=dd';⟨q,hq⟩
 exact Zbq I2 (by rw [e];exact True.intro) hs he (Zgp hz hd (rk.merge .nil) dd')
structure M1 (X:Cx) (o:Expr) (m:Str) (apos:Pos) (e:Expr) (cpos:Pos):Prop where
 base:attributeBase o m X.env (eval o X.env)=eval o X.env
 few:((backTo cpos (starEach [e] X.env)).all (fun x=>!x.1) && (backToKw cpos (keywordEach [] X.env)).all (fun x=>x.1.isSome)
  && decide (([e]:List Expr).length+([]:List Keyword).length+(if ([]:List Keyword).isEmpty then 0 else 1) < 30))=true
 line:(apos.endLine == cpos.line)=true
 trees:backTo cpos (starEach [e] X.env)=[(false,eval e X.env)]
structure M2 (X:Cx) (o:Expr) (m:Str) (apos:Pos) (e f:Expr) (cpos:Pos):Prop where
 base:attributeBase o m X.env (eval o X.env)=eval o X.env
 few:((backTo cpos (starEach [e,f] X.env)).all (fun x=>!x.1) && (backToKw cpos (keywordEach [] X.env)).all (fun x=>x.1.isSome)
  && decide (([e,f]:List Expr).length+([]:List Keyword).length+(if ([]:List Keyword).isEmpty then 0 else 1) < 30))=true
 line:(apos.endLine == cpos.line)=true
 trees:backTo cpos (starEach [e,f] X.env)=[(false,eval e X.env),(false,eval f X.env)]
def IsD (H:Hp) (a:Addr):Prop:=(∃ kvs,Rd H a (.dK kvs))∨∃ kvs,Rd H a (.dT kvs)
theorem Zgt {X:Cx} {pins:List (Addr×Obj)} {σ:St} {H:Hp} {s:Shared} {a:Addr} (I:Zf X pins σ H s) (d:IsD H a) :
  s.TypeIs (.ref a) "dict" ∧ (∀ b,Value.ref a=.ref b→∃ ob,s.heap.get? b=some ob∧ob.dict=none)∧(a == sysModules)=false:=by
 rcases d with ⟨kvs,e⟩ | ⟨kvs,e⟩
 ·obtain ⟨_,hd,vs,_,dd⟩:=Uj I.hok e
  refine ⟨dd.typeIs,fun b q=>?_,hd⟩
  cases q
  obtain ⟨ob,_,_,h1,h2,_⟩:=dd
  exact ⟨ob,h1,h2.2.1⟩
 ·obtain ⟨_,hd,xs,_,dd⟩:=UN I.hok e
  refine ⟨dd.typeIs,fun b q=>?_,hd⟩
  cases q
  obtain ⟨ob,_,_,h1,h2,_⟩:=dd
  exact ⟨ob,h1,h2.2.1⟩
section
variable {X:Cx} {pins:List (Addr×Obj)} {σ:St} {H:Hp} {s:Shared} {a:Addr} {y d:V} {u r:Value} {o:Option V} {A:Around} {E:Value→Shared→Prop}
theorem ZlC {Q:Value→Shared→Prop} (hu:A.units+1 < cLine) (I:Zf X pins σ H s) (g:Yd H a y o) (ry:ZC y u) (rd:ZC d r) (h:∀ w' s',Zf X pins σ H s'→ZC (o.getD d) w'→Q w' s') :
  wpAny (model X.prog X.w) A (call (.builtin "dict.get") [.ref a,u,r]) Q E s:=by
 rcases g with ⟨kvs,k,e,ey,l⟩ | ⟨kvs,k,b,e,ey,eb,l⟩
 ·subst ey
  obtain ⟨z,hd,vs,rel,dd⟩:=Uj I.hok e
  refine call_meetsIn PySem.F.slot_dict_get dd.typeIs PySem.F.entry_dict_get (PySem.F.args_dict_get_3 _ _ _) (meets_dict_get_default (Xy X.prog X.w) a (UL ry) hd r) ⟨_,dd.mapOf,h _ _ (I.tok _) ?_⟩
  rw [l]
  exact (rel.val k).getD rd
 ·subst ey
  cases (show u=Value.ref b from ry)
  obtain ⟨z,hd,xs,rel,dd⟩:=UN I.hok e
  refine call_meetsIn PySem.F.slot_dict_get dd.typeIs PySem.F.entry_dict_get (PySem.F.args_dict_get_3 _ _ _) (meetsH_dict_get_default (tupleKind (Xy X.prog X.w)) a b hd r) ⟨tupleKind_room_in1 hu,k,xs,UM I.hok eb,dd,h _ _ (I.tok _) ?_⟩
  rw [l]
  exact (rel.val k).getD rd
end
def ZlD (td ty tx:TE):TE:=fun σ H Q=>td σ H fun x H1=>∃ a,x=.ref a∧IsD H1 a∧ty σ H1 fun y H2=>tx σ H2 fun z H3=>∃ o,Yd H3 a y o∧Q (o.getD z) H3
section
variable {X:Cx} {o e f:Expr} {apos cpos:Pos} {td ty tx:TE}
theorem Zcv (hu:X.A.units+1 < cLine) (ho:PE X o td) (he:PE X e ty) (hf:PE X f tx) (m:M2 X o "get" apos e f cpos):PE X (.Call (.Attribute o "get" apos) [e,f] [] cpos) (ZlD td ty tx):=by
 intro pins s σ H Q I h
 refine wpAny_Call_method m.base m.few m.line PySem.F.plainAttrs_dict PySem.F.slot_dict_get PySem.F.type_dict_get (Zv (ho pins s σ H _ I h) fun u s1 ⟨x,H1,I1,rx,a,ex,d,q1⟩=>?_)
 subst ex
 obtain rfl:u=Value.ref a:=rx
 obtain ⟨t1,t2,_⟩:=Zgt I1 d
 refine ⟨t1,t2,?_⟩
 rw [m.trees]
 refine Calls.callWith_builtin rfl (Calls.evalArgs_plain (Calls.spliced_cons (Zv (he pins s1 σ H1 _ I1 q1) fun iv s2 ⟨y,H2,I2,ry,q2⟩ =>
  Calls.spliced_cons (Zv (hf pins s2 σ H2 _ I2 q2) fun fv s3 ⟨z,H3,I3,rz,ov,g,q3⟩=>Calls.spliced_nil ?_))))
 exact ZlC hu I3 g ry rz fun w' s4 I4 rw'=>⟨_,H3,I4,rw',q3⟩
end
section
variable {X:Cx} {pins:List (Addr×Obj)} {σ:St} {H:Hp} {s:Shared} {a:Addr} {kvs:List (Zt×V)} {A:Around} {E:Value→Shared→Prop}
end
section
variable {X:Cx} {pins:List (Addr×Obj)} {σ:St} {H:Hp} {s:Shared} {a:Addr} {y:V} {u:Value} {A:Around} {E:Value→Shared→Prop}
end
end L2
namespace L2
open PySem PySem.Spec PyProof.Rows
section
variable {X:Cx}
theorem ZlE:Xq X (.builtin "len") (fun xs H Q=>∃ a kvs,xs=[V.ref a]∧H a=some (.dK kvs)∧Q (.int kvs.length) H):=by
 intro pins s σ H xs us Q I r h
 obtain ⟨a,kvs,rfl,ha,q⟩:=h
 obtain ⟨u,rfl,ru⟩:=Ww r
 cases ru
 exact Zlo I (.inl ha) fun t s' I'=>⟨.int kvs.length,H,I',⟨t,rfl⟩,q⟩
end
section
variable {κ:Type} [DecidableEq κ]
end
end L2
namespace L2
open PySem PySem.Spec PyProof.Rows
section
variable {prog:Program} {w:World} {A:Around} {E:Value→Shared→Prop} {s:Shared} {κ:Type} [DecidableEq κ] {knd:KeyKind prog w κ}
theorem ZlF {R:Result→Shared→Prop} {d:Addr} {kvs:List (κ×Value)} {ep:Nat} (hh:A.handled=none) (hd:(d == sysModules)=false) (hm:s.heap.DictAt knd d kvs ep) (hlen:kvs.length≤sizeLine)
  (S:Addr) (hSd:S≠d) (res:Value) (c₀:Nat) (hS:s.heap.get? S=some { cls:=.type "list",data:=.seq #[] c₀ })
  (hR:∀ h' tk acc' c',(∀ b o,b≠S→s.heap.get? b=some o→h'.get? b=some o)→h'.get? S=some { cls:=.type "list",dict:=none,data:=.seq acc' c',slots:=#[] } →
   ItemsOf (fun i v=>∃ k x,kvs[i]? = some (k,x)∧knd.is k v=true) acc' kvs.length→R (.ok (.ret res)) { s with heap:=h',toks:=tk }) :
  wpAny (model prog w) A.in1 (Builtin.List.listExtendWith (.ref S) (.ref d) res)
   (fun fin s'=>match fin with | .done f=>R (.ok f) s' | .again c'=>c'.quiet=true∧codeAny (model prog w) A c' R s') (fun e s'=>R (.error e) s') s:=by
 have hSlt:S < s.heap.objs.size:=Heap.lt_size hS
 have hdlt:d < s.heap.objs.size:=hm.lt_size
 have hSI:S≠s.heap.objs.size:=Nat.ne_of_lt hSlt
 have hSf:S∉[s.heap.objs.size,d]:=fun hmm=>by
  rcases List.mem_cons.mp hmm with e | e
  ·exact hSI e
  ·exact hSd (List.mem_singleton.mp e)
 have W:=(Walks.dictKeys (prog:=prog) (w:=w) (A:=A.in1) (knd:=knd) hh s.heap.objs.size d (Nat.ne_of_lt hdlt) kvs ep).toS
 have hT:s.TypeIs (.ref d) "dict" := hm.dictOf.typeIs
 unfold Builtin.List.listExtendWith
 refine wpAny_bind (wpAny_typeOf (T := "dict") hT ?_)
 have h1:Builtin.List.listSameRef (.ref S) (.ref d)=false:=by simp [Builtin.List.listSameRef,hSd]
 have h2:(Value.type "dict" == Value.type "list")=false:=by decide
 have h3:(Value.type "dict" == Value.type "tuple")=false:=by decide
 simp only [h1,h2,h3,Bool.or_false,Bool.false_eq_true,if_false]
 refine wpAny_bind (wpAny_pyIter_dict hd hm ?_)
 refine wpAny_bind (wpAny_holding ?_)
 have hm1:=hm.push { cls:=.type "dict_keyiterator",data:=.fields #[.ref d,.int 0 0,.int kvs.length 0,.int ep 0] }
 have hT1:Shared.TypeIs { s with heap:=s.heap.push { cls:=.type "dict_keyiterator",data:=.fields #[.ref d,.int 0 0,.int kvs.length 0,.int ep 0] } } (.ref d) "dict" := Heap.DictOf.typeIs (s:={ s with heap:=s.heap.push { cls:=.type "dict_keyiterator",data:=.fields #[.ref d,.int 0 0,.int kvs.length 0,.int ep 0] } }) hm1.dictOf
 unfold Builtin.List.listLengthHint
 refine wpAny_bind (wpAny_specialOf (T := "dict") hT1 F.slot_dict_len.lookup ?_)
 generalize hid:("dict.__len__" : String)=id0
 wp_delta
 rw [show splitId id0=some ("dict","__len__") from by subst hid;decide +kernel]
 subst hid
 refine wpAny_bind (wpAny_isInstance (T := "dict") (b:=true) hT1 (by rw [isSubtype_type];kernel_rfl) ?_)
 refine wpAny_ite_split (fun hab=>absurd hab (by decide)) (fun _=>?_)
 refine wpAny_ite_split (fun _=>?_) (fun hab=>absurd (by decide +kernel) hab)
 refine wpAny_bind (wpAny_typeOf (T := "dict") hT1 ?_)
 refine wpAny_pure ?_
 rw [if_pos (by decide +kernel)]
 have hS₁:=Heap.get?_push_of_some { cls:=.type "dict_keyiterator",data:=.fields #[.ref d,.int 0 0,.int kvs.length 0,.int ep 0] } hS
 have it₁:(s.heap.push { cls:=.type "dict_keyiterator",data:=.fields #[.ref d,.int 0 0,.int kvs.length 0,.int ep 0] }).get? s.heap.objs.size=some _:=Heap.get?_push_size _ rfl
 refine wpAny_bind (wpAny_rule ?_)
 refine wpAny_bind ?_
 show wpAny _ _ (updateSeq S (·.push .none) >>= fun _=>updateSeq S (·.pop)) _ _ _
 refine wpAny_bind (wpAny_updateSeq hS₁ rfl ?_)
 have hS₂:=Heap.get?_update_self (Obj.mapSeq (·.push Value.none)) hS₁ rfl
 refine wpAny_updateSeq (hz:=by seq_fits) hS₂ rfl ?_
 have hS₃:=Heap.get?_update_self (Obj.mapSeq (·.pop)) hS₂ rfl
 have up:∀ b o,b≠S→(s.heap.push { cls:=.type "dict_keyiterator",data:=.fields #[.ref d,.int 0 0,.int kvs.length 0,.int ep 0] }).get? b=some o→(((s.heap.push { cls:=.type "dict_keyiterator",data:=.fields #[.ref d,.int 0 0,.int kvs.length 0,.int ep 0] }).update S (Obj.mapSeq (·.push Value.none))).update S (Obj.mapSeq (·.pop))).get? b=some o :=
  fun b o hb e=>(Heap.get?_update_other _ _ (Ne.symm hb)).trans ((Heap.get?_update_other _ _ (Ne.symm hb)).trans e)
 refine wpAny_pure ⟨plainId_quiet F.plain_extend_loop _,codeAny_extend_loopS W hlen _ hSf _ kvs.length 0 _ _ _ rfl (Nat.zero_le _) ⟨⟨_,up _ _ (Ne.symm hSI) it₁,rfl,rfl⟩,hm1.at' fun o e=>up d o (Ne.symm hSd) e⟩ hS₃ (ItemsOf.nil _) fun s' acc' c' hmv hS' hacc=>?_⟩
 rw [Moved.eq_with hmv]
 refine hR s'.heap s'.toks acc' c' (fun b ob hb e=>hmv.heap b ob (fun hmem=>?_) (up b ob hb (Heap.get?_push_of_some _ e))) hS' hacc
 rcases List.mem_cons.mp hmem with e' | hmem
 ·exact hb e'
 ·exact absurd (Heap.lt_size e) (by rw [List.mem_singleton.mp hmem];exact Nat.lt_irrefl _)
theorem ZlG {R:Result→Shared→Prop} {d:Addr} {kvs:List (κ×Value)} {ep:Nat} (hh:A.handled=none) (hd:(d == sysModules)=false) (hm:s.heap.DictAt knd d kvs ep) (hlen:kvs.length≤sizeLine)
  (S:Addr) (hSd:S≠d) (hS:s.heap.get? S=some { cls:=.type "list",data:=.seq #[] })
  (hR:∀ h' tk acc' c',(∀ b o,b≠S→s.heap.get? b=some o→h'.get? b=some o)→h'.get? S=some { cls:=.type "list",dict:=none,data:=.seq acc' c',slots:=#[] } →
   ItemsOf (fun i v=>∃ k x,kvs[i]? = some (k,x)∧knd.is k v=true) acc' kvs.length→R (.ok (.ret .none)) { s with heap:=h',toks:=tk }) :
  wpAny (model prog w) A.in1 (Builtin.«list.__init__» ⟨[.ref S,.ref d],[]⟩)
   (fun fin s'=>match fin with | .done f=>R (.ok f) s' | .again c'=>c'.quiet=true∧codeAny (model prog w) A c' R s') (fun e s'=>R (.error e) s') s:=by
 show wpAny _ _ (do let old ← Builtin.List.listItems (.ref S);Builtin.List.listUpdate (.ref S) (fun _=>#[]);letGo old.toList.reverse;Builtin.List.listExtendWith (.ref S) (.ref d) .none) _ _ s
 refine wpAny_bind ?_
 unfold Builtin.List.listItems
 refine wpAny_bind (wpAny_seqItems hS rfl (wpAny_pure ?_))
 show wpAny _ _ (updateSeq S (fun _=>#[]) >>= fun _=>letGo (#[]:Array Value).toList.reverse >>= fun _=>Builtin.List.listExtendWith (.ref S) (.ref d) .none) _ _ s
 refine wpAny_bind (wpAny_updateSeq hS rfl ?_)
 have hS₂:=Heap.get?_update_self (Obj.mapSeq (fun _=>(#[]:Array Value))) hS rfl
 have oth:∀ b o,b≠S→s.heap.get? b=some o→(s.heap.update S (Obj.mapSeq (fun _=>(#[]:Array Value)))).get? b=some o :=
  fun b o hb e=>(Heap.get?_update_other _ _ (Ne.symm hb)).trans e
 refine wpAny_bind (wpAny_letGo ?_)
 refine ZlF (s:={ s with heap:=s.heap.update S (Obj.mapSeq (fun _=>(#[]:Array Value))) }) hh hd (hm.at' fun o e=>oth d o (Ne.symm hSd) e) hlen S hSd .none _ hS₂ fun h' tk acc' c' hk hS' hacc=>?_
 exact hR h' tk acc' c' (fun b o hb e=>hk b o hb (oth b o hb e)) hS' hacc
theorem ZlH {d:Addr} {kvs:List (κ×Value)} {ep:Nat} {Q:Value→Shared→Prop} (hh:A.handled=none) (hd:(d == sysModules)=false) (hm:s.heap.DictAt knd d kvs ep) (hlen:kvs.length≤sizeLine)
  (hQ:∀ h' tk acc' c',(∀ b o,s.heap.get? b=some o→h'.get? b=some o) →
   h'.get? s.heap.objs.size=some { cls:=.type "list",dict:=none,data:=.seq acc' c',slots:=#[] }→ItemsOf (fun i v=>∃ k x,kvs[i]? = some (k,x)∧knd.is k v=true) acc' kvs.length→Q (.ref s.heap.objs.size) { s with heap:=h',toks:=tk }) :
  wpAny (model prog w) A (call (.type "list") [.ref d]) Q E s:=by
 refine callType_codes (Q₁:=fun obj s₁=>obj=.ref s.heap.objs.size∧s₁ = { s with heap:=s.heap.push { cls:=.type "list",data:=.seq #[] } }) F.called_list (F.typeCall_list_1 _) F.entry_list_init
  (code_list_new _ ⟨rfl,rfl⟩) fun obj s₁ h₁=>?_
 obtain ⟨rfl,rfl⟩:=h₁
 have hS:(s.heap.push { cls:=.type "list",data:=.seq #[] }).get? s.heap.objs.size=some { cls:=.type "list",data:=.seq #[] }:=Heap.get?_push_size _ rfl
 refine ⟨⟨_,hS,rfl⟩,F.args_list_init_2 _ _,ZlG (s:={ s with heap:=s.heap.push { cls:=.type "list",data:=.seq #[] } }) (A:=A.in1) hh hd (hm.push _) hlen _ (Nat.ne_of_gt hm.lt_size) hS fun h' tk acc' c' hk hS' hacc=>?_⟩
 exact ⟨rfl,hQ h' tk acc' c' (fun b o e=>hk b o (Nat.ne_of_lt (Heap.lt_size e)) (Heap.get?_push_of_some _ e)) hS' hacc⟩
end
section
variable {X:Cx}
theorem Zgu:∀ {kvs:List (Zt×V)} {vs:List (Zt×Value)} {acc:List Value},KV kvs vs→acc.length=vs.length→(∀ (j:Nat) (v:Value),acc[j]? = some v→∃ (k:Zt) (x:Value),vs[j]? = some (k,x)∧(Xy X.prog X.w).is k v=true)→Zy (kvs.map fun kv=>kV kv.1) acc
 | _,_,[],.nil,_,_=>.nil
 | _,_,[],.cons _ _,e,_=>by cases e
 | _,_,_::_,.nil,e,_=>by cases e
 | (k0,_)::_,(k1,_)::_,u::us,.cons r t,e,h=>by
  obtain ⟨rk,_⟩:=r
  obtain ⟨k,x,e0,i0⟩:=h 0 u rfl
  cases e0
  refine .cons ?_ (Zgu t (Nat.succ.inj e) fun j v q=>h (j+1) v q)
  have rk':k0=k1:=rk
  subst rk'
  cases k0 with
  | inl i=>exact Value.isInt_shape i0
  | inr z=>exact Value.isStrOf_shape i0
theorem ZlI (hc:X.calm=true):Xq X (.type "list") (fun xs H Q=>∃ d kvs,xs=[.ref d]∧H d=some (.dK kvs)∧∀ l,H l=none→Q (.ref l) (Zd H l (.lst (kvs.map fun kv=>kV kv.1)))):=by
 intro pins s σ H xs us Q I r h
 obtain ⟨d,kvs,rfl,hd,q⟩:=h
 obtain ⟨u,rfl,rx⟩:=Ww r
 cases rx
 obtain ⟨hl,hs,vs,kv,hD⟩:=I.hok d _ hd
 obtain ⟨ep,hA⟩:=hD.dictAt
 have hlen:vs.length=kvs.length:=(Paired.length kv).symm
 refine ZlH (I.ok.hd hc) hs hA (by omega) fun h' tk acc' c' kp e hacc=>?_
 obtain ⟨acc⟩:=acc'
 refine ⟨.ref s.heap.objs.size,_,I.laid (t':=tk) kp (Nat.le_refl _) (show Yc X.prog X.w _ h' _ (.lst (kvs.map fun kv=>kV kv.1)) from ⟨by rw [List.length_map];exact hl,acc,c',Zgu (X:=X) kv (by simpa using hacc.1) (fun j v q=>hacc.2 j v (by simpa using q)),e⟩),rfl,q _ (I.hok.fresh (Nat.le_refl _))⟩
end
end L2
namespace K1
open PySem L2
def wo (H:Hp) (l:Addr):Hp:=fun a=>if a=l then none else H a
theorem Uk {H:Hp} {l a:Addr} (h:a≠l):wo H l a=H a:=if_neg h
theorem Xr {H:Hp} {l:Addr}:Zk (wo H l) H:=fun a o e=>by
 by_cases h:a=l
 ·rw [wo,if_pos h] at e;cases e
 ·rw [Uk h] at e;exact e
theorem XQ {H:Hp} {l a:Addr} {o:HO} (e:wo H l a=some o):a≠l∧H a=some o:=by
 by_cases h:a=l
 ·rw [wo,if_pos h] at e;cases e
 ·rw [Uk h] at e;exact ⟨h,e⟩
theorem YG {H H':Hp} {l:Addr} (s:Zk H H'):Zk (wo H l) (wo H' l):=fun a o e=>by
 obtain ⟨h,e⟩:=XQ e
 rw [Uk h];exact s _ _ e
theorem Vw {H:Hp} {l:Addr} {o:HO}:wo (Zd H l o) l=wo H l:=by
 funext a
 by_cases h:a=l
 ·rw [wo,wo,if_pos h,if_pos h]
 ·rw [Uk h,Uk h,Zl h]
theorem Z4 {H:Hp} {l a:Addr} {o:HO} (e:H a=some o) (h:a≠l):wo H l a=some o:=by rw [Uk h];exact e
theorem Yb {H0 H:Hp} {l:Addr} (s:Zk H0 H) (n:H0 l=none) (o:HO):Zk H0 (Zd H l o):=fun a u e=>by
 rw [Zl (Yp e n)];exact s _ _ e
theorem We {H0 H:Hp} {l:Addr} (s:Zk H0 H) (n:H0 l=none):Zk H0 (wo H l):=fun a u e=>by
 rw [Uk (Yp e n)];exact s _ _ e
inductive Al {β α:Type} (R:β→α→Prop):List β→List α→Prop where
 | nil:Al R [] []
 | cons {v:β} {x:α} {vs:List β} {xs:List α}:R v x→Al R vs xs→Al R (v::vs) (x::xs)
section
variable {β α:Type} {R R':β→α→Prop}
theorem Al.length {vs:List β} {xs:List α} (h:Al R vs xs):vs.length=xs.length:=by
 induction h with
 | nil=>rfl
 | cons _ _ ih=>rw [List.length_cons,List.length_cons,ih]
theorem Al.imp {vs:List β} {xs:List α} (h:Al R vs xs) (f:∀ v x,R v x→R' v x):Al R' vs xs:=by
 induction h with
 | nil=>exact .nil
 | cons a _ ih=>exact .cons (f _ _ a) ih
theorem Al.app {vs us:List β} {xs ys:List α} (h:Al R vs xs) (g:Al R us ys):Al R (vs++us) (xs++ys):=by
 induction h with
 | nil=>exact g
 | cons a _ ih=>exact .cons a ih
theorem Al.snoc {vs:List β} {xs:List α} {v:β} {x:α} (h:Al R vs xs) (g:R v x):Al R (vs++[v]) (xs++[x]):=h.app (.cons g .nil)
theorem Al.get {vs:List β} {xs:List α} (h:Al R vs xs):∀ {i:Nat} {v:β},vs[i]? = some v→∃ x,xs[i]? = some x∧R v x:=by
 induction h with
 | nil=>intro i v e;cases e
 | cons a _ ih =>
  intro i v e
  cases i with
  | zero=>cases e;exact ⟨_,rfl,a⟩
  | succ i=>exact ih e
theorem Al.take {vs:List β} {xs:List α} (h:Al R vs xs):∀ n,Al R (vs.take n) (xs.take n):=by
 induction h with
 | nil=>intro n;rw [List.take_nil,List.take_nil];exact .nil
 | cons a _ ih =>
  intro n
  cases n with
  | zero=>exact .nil
  | succ n=>exact .cons a (ih n)
end
end K1
namespace L2
open PySem PySem.Spec PyProof.Rows
section
variable {X:Cx} {a b:Expr} {rest:List Expr} {ta tb:TE} {pos:Pos}
end
end L2
namespace L2
open PySem PySem.Spec PyProof.Rows
section
variable {X:Cx} {pins:List (Addr×Obj)} {σ:St} {H:Hp} {s:Shared}
open Classical in
noncomputable def X6 (h:Heap) (dx:PyData) (u:Value):Bool:=if ∃ d as,Reads h u d as∧PyData.eqv d dx=true then true else false
theorem Zgv {h:Heap} {dx d:PyData} {u:Value} {as:List Addr} (r:Reads h u d as) (c:d.canLay0=true):X6 h dx u=PyData.eqv d dx:=by
 unfold X6
 cases e:PyData.eqv d dx with
 | true=>exact if_pos ⟨d,as,r,e⟩
 | false =>
  refine if_neg ?_
  rintro ⟨d',as',r',e'⟩
  rw [← SeqAt.Reads.unique d d' u as as' c r r',e] at e'
  exact Bool.noConfusion e'
theorem Zaz {h:Heap} {dx:PyData}:∀ {us:List Value} {ds:List PyData} {as:List Addr},ReadsAll h us ds as→PyData.canLayAll0 ds=true→us.any (X6 h dx)=ds.any fun d=>PyData.eqv d dx
 | _,_,_,.nil,_=>rfl
 | _,_,_,.cons r rs,c=>by
  simp only [PyData.canLayAll0,Bool.and_eq_true] at c
  rw [List.any_cons,List.any_cons,Zgv r c.1,Zaz rs c.2]
theorem ZaA {A:Around} {dx:PyData} {v:Value} {bs:List Addr} (rv:Reads s.heap v dx bs) (cv:dx.canLay0=true) (hu:A.units+dx.depth < cLine):∀ {us:List Value} {ds:List PyData} {as:List Addr},ReadsAll s.heap us ds as→PyData.canLayAll0 ds=true→∀ u∈us,SeqAt.EqAt A s u v (X6 s.heap dx u)
 | _,_,_,.nil,_=>fun u hu=>by cases hu
 | _,_,_,.cons r rs,c=>fun u' hm=>by
  simp only [PyData.canLayAll0,Bool.and_eq_true] at c
  rcases List.mem_cons.mp hm with rfl | hm
  ·rw [Zgv r c.1]
   exact SeqAt.eqAt_reads _ _ A s _ _ _ _ r rv c.1 cv (by omega)
  ·exact ZaA rv cv hu rs c.2 u' hm
def Zcw (K:PySem.W.Frag) (neg:Bool):R2:=fun x y H Q=>∃ p xs dx ds,y=.ref p∧(Zg K H p xs∨Zu K H p xs)∧DV K H x dx∧Xi K H xs ds∧dx.depth≤60∧Q (.bl (if neg then !(ds.any fun d=>PyData.eqv d dx) else ds.any fun d=>PyData.eqv d dx)) H
theorem ZlJ (hu:X.A.units+64 < cLine):Ys X (compareOp .In) (Zcw X.K false):=by
 intro pins s σ H x y v u Q I rx ry h
 obtain ⟨p,xs,dx,ds,rfl,hq,hx,hs,hd,q⟩:=h
 cases ry
 obtain ⟨as,r1⟩:=hx.reads I rx
 have hu2:X.A.in1.units+dx.depth < cLine:=by show X.A.units+1+_ < _;omega
 rcases hq with hq | hq
 ·obtain ⟨its,r,pl,hz⟩:=I.list hq
  obtain ⟨bs,r2⟩:=hs.reads I r
  refine SeqAt.in_listAt (X6 s.heap dx) pl.isList (fun w hw=>ZaA r1 hx.can hu2 r2 hs.can w (by simpa using hw)) ⟨.bl _,H,I,rfl,?_⟩
  rw [show its.toArray.any (X6 s.heap dx)=its.any (X6 s.heap dx) by simp,Zaz r2 hs.can]
  exact q
 ·obtain ⟨its,r,pl,hz⟩:=I.tuple hq
  obtain ⟨bs,r2⟩:=hs.reads I r
  refine SeqAt.in_tupleAt (X6 s.heap dx) pl (fun w hw=>ZaA r1 hx.can hu2 r2 hs.can w (by simpa using hw)) ⟨.bl _,H,I,rfl,?_⟩
  rw [show its.toArray.any (X6 s.heap dx)=its.any (X6 s.heap dx) by simp,Zaz r2 hs.can]
  exact q
theorem ZlK (hu:X.A.units+64 < cLine):Ys X (compareOp .NotIn) (Zcw X.K true):=by
 intro pins s σ H x y v u Q I rx ry h
 obtain ⟨p,xs,dx,ds,rfl,hq,hx,hs,hd,q⟩:=h
 cases ry
 obtain ⟨as,r1⟩:=hx.reads I rx
 have hu2:X.A.in1.units+dx.depth < cLine:=by show X.A.units+1+_ < _;omega
 rcases hq with hq | hq
 ·obtain ⟨its,r,pl,hz⟩:=I.list hq
  obtain ⟨bs,r2⟩:=hs.reads I r
  refine SeqAt.notIn_listAt (X6 s.heap dx) pl.isList (fun w hw=>ZaA r1 hx.can hu2 r2 hs.can w (by simpa using hw)) ⟨.bl _,H,I,rfl,?_⟩
  rw [show its.toArray.any (X6 s.heap dx)=its.any (X6 s.heap dx) by simp,Zaz r2 hs.can]
  exact q
 ·obtain ⟨its,r,pl,hz⟩:=I.tuple hq
  obtain ⟨bs,r2⟩:=hs.reads I r
  refine SeqAt.notIn_tupleAt (X6 s.heap dx) pl (fun w hw=>ZaA r1 hx.can hu2 r2 hs.can w (by simpa using hw)) ⟨.bl _,H,I,rfl,?_⟩
  rw [show its.toArray.any (X6 s.heap dx)=its.any (X6 s.heap dx) by simp,Zaz r2 hs.can]
  exact q
end
end L2
namespace L2
open PySem PySem.Spec PyProof.Rows
section
variable {X:Cx}
theorem Zgw:∀ bs:List Bool,(List.range bs.length).any (fun i=>bs.getD i false)=bs.any id
 | []=>rfl
 | b::bs=>by
  rw [List.length_cons,List.range_succ_eq_map,List.any_cons,List.any_map,List.any_cons]
  show (b || _)=(b || _)
  rw [← Zgw bs]
  rfl
theorem Zgx (hc:X.calm=true):Xq X (.builtin "any") (fun xs H Q=>∃ (p:Addr) (bs:List Bool),xs=[.ref p]∧Zg X.K H p (bs.map V.bl)∧Q (.bl (bs.any id)) H):=by
 intro pins s σ H xs us Q I r h
 obtain ⟨p,bs,rfl,hq,q⟩:=h
 obtain ⟨u,rfl,rx⟩:=Ww r
 cases rx
 obtain ⟨its,r',pl,hz⟩:=I.list hq
 have hlen:=r'.length
 obtain ⟨o,n,ho,_⟩:=id pl
 have hne:p≠s.heap.objs.size:=Nat.ne_of_lt (Heap.lt_size ho)
 have tr:TruthOf X.prog X.w X.A.in1 (fun i v=>its.toArray[i]? = some v) (fun i=>bs.getD i false):=by
  intro i v s2 Q2 E2 hv hq2
  have hv':its[i]? = some v:=by simpa using hv
  have hi:i < bs.length:=by
   have:=(List.getElem?_eq_some_iff.mp hv').1
   rw [← hlen,List.length_map] at this;exact this
  obtain ⟨w,e1,e2⟩:=r'.get (i:=i) (x:=.bl bs[i]) (by rw [List.getElem?_map,List.getElem?_eq_getElem hi];rfl)
  rw [hv'] at e1
  cases e1
  cases e2
  refine wpAny_truthy_bool ?_
  have e3:bs.getD i false=bs[i]:=by rw [List.getD_eq_getElem?_getD,List.getElem?_eq_getElem hi];rfl
  have q3:Q2 (bs.getD i false) s2:=hq2
  rw [e3] at q3
  exact q3
 refine call_any_walk (wpAny_pyIter_list pl.isList ?_)
 refine ⟨s.heap.objs.size,[s.heap.objs.size,p],[s.heap.objs.size],its.toArray.size,_,_,_,rfl,Walks.list (A:=X.A.in1) (I.ok.hd hc) _ _ hne its.toArray,⟨⟨_,Heap.get?_push_size _ rfl,rfl,rfl⟩,?_⟩,tr,fun h' tk hk=>?_⟩
 ·obtain ⟨o2,e2,r2⟩:=pl.isList
  exact ⟨o2,Heap.get?_push_of_some _ e2,r2⟩
 ·have hk2:∀ b o,s.heap.get? b=some o→h'.get? b=some o:=fun b o e=>hk b o (fun z=>by
   have e1:=Heap.lt_size e
   rw [List.mem_singleton.mp z] at e1
   exact absurd e1 (Nat.lt_irrefl _)) (Heap.get?_push_of_some _ e)
  have e:(List.range its.toArray.size).any (fun i=>bs.getD i false)=bs.any id:=by
   rw [List.size_toArray,← hlen,List.length_map];exact Zgw bs
  rw [e]
  exact ⟨.bl _,H,I.kept (t':=tk) hk2,rfl,q⟩
end
end L2
namespace L2
open PySem PySem.Spec PyProof.Rows
theorem ZlL {P:Program} {w:World} {K:PySem.W.Frag} {mg:Str→Option Value} {base:Heap} {k:Nat} {f c':Addr} {name qual:Str} {params:Arguments} {body:Expr} {scope:Scope} {pm ctv:Value} {N ps:List Str} (S:ZM N ps scope)
  {A:Around} {outer:List Env} {s:Shared} {H:Hp} {us:List Value} {vs:List V} {Q:VK} {E:XK} {te:TE}
  (hr:Yh (k+1) A) (e0:VQ P w K mg base A outer s H) (ho:s.heap.get? f=some (PySem.W.kla_obj name qual params body scope [] pm c' ctv)) (hc:s.heap.CodeRec (.ref c') qual)
  (hb:bindArgs (PySem.W.kla_fn name qual params body scope [] pm (.ref c') ctv) ⟨us,[]⟩=pure (ps.zip us)) (r:Zy vs us) (hl:vs.length=ps.length)
  (he:PE (Vb ZE P w K mg base N qual scope f (.ref c') A outer s H E) body te) (hq:te (Wn N vs) H Q) :
  codeAny (model P w) A (.call (.ref f) ⟨us,[]⟩) (CR ZE outer P w H s Q E) s:=by
 have lim:s.heap.NoLimit:=e0.mod.nolimit.keeps fun b o e=>(e0.bs b o e).1
 have hkind:∀ y∈ps.zip us,scope.names.lookup y.1=some .local∨(scope.names.lookup y.1=some .cell∧((cellsFrom (s.heap.objs.size+1) scope.names []).lookup y.1).isSome=true):=fun ⟨n,v⟩ hy=>by
  rcases S.par n (List.of_mem_zip hy).1 with q | q
  ·exact .inl q
  ·exact .inr ⟨q,PySem.W.cellsFrom_some _ _ _ (.inl q)⟩
 refine PySem.W.kla_callFunE hr.depth ho rfl S.co S.gen rfl hc ?_
 rw [hb]
 refine wpAny_pure ?_
 refine wpAny_newFunctionEnv_cells S.kind hkind fun env he' s1 x=>?_
 subst he'
 refine ⟨lim.keeps x.toInCall.keep,PySem.W.kla_codeExpr ?_⟩
 have I:Zf (Vb ZE P w K mg base N qual scope f (.ref c') A outer s H E) [] (Wn N vs) H s1:=Zft S hr.hd e0 hl r x
 refine wpAny_mono (he [] s1 (Wn N vs) H _ I hq) (fun u s' hs=>?_) fun e s' hs=>hs
 obtain ⟨v,H',J,rv,q⟩:=hs
 exact ⟨v,H',J.os,J.bare,J.base,J.hok,rv,q⟩
theorem Zf.one {X:Cx} {pins:List (Addr×Obj)} {σ:St} {H:Hp} {s:Shared} {h':Heap} {t':Nat} {b:Addr} (I:Zf X pins σ H s) (hf:YO X pins H b) (k:∀ c o,c≠b→s.heap.get? c=some o→h'.get? c=some o):Zf X pins σ H { s with heap:=h',toks:=t' } :=
 I.turned (t':=t') k hf.1 hf.2.1 hf.2.2.2.1 hf.2.2.2.2.1 hf.2.2.2.2.2
end L2
namespace L2
open PySem PySem.Spec PyProof.Rows
def VX (c':Addr) (qual:Str):HO:=.ext fun h=>h.CodeRec (.ref c') qual
def VY (f:Addr) (qual:Str) (params:Arguments) (body:Expr) (scope:Scope) (pm:Value) (c':Addr) (ctv:Value):HO:=.ext fun h=>h.get? f=some (PySem.W.kla_obj "<lambda>" qual params body scope [] pm c' ctv)
def BM (mg:Str→Option Value) (base:Heap):Prop:=∃ bm ob,mg "__builtins__" = some (.ref bm)∧bm≠builtinsNs∧bm≠mainGlobals∧base.get? bm=some ob∧ob.cls=.type "module" ∧ ob.dict=some builtinsNs∧ob.data=.plain
theorem ZlM {P:Program} {w:World} {H:Hp} {h:Heap} {c':Addr} {qual:Str} (hr:h.CodeRec (.ref c') qual):Yc P w H h c' (VX c' qual):=by
 refine ⟨hr,?_,fun h1 h2 q k=>?_⟩
 ·obtain ⟨c2,oc,vs,t,e,hoc,_⟩:=hr
  cases e
  exact ⟨oc,hoc⟩
 ·obtain ⟨c2,oc,vs,t,e,hoc,hd,hq⟩:=q
  cases e
  exact ⟨_,oc,vs,t,rfl,k _ hoc,hd,hq⟩
theorem Zgy {P:Program} {w:World} {H:Hp} {h:Heap} {f c':Addr} {qual:Str} {params:Arguments} {body:Expr} {scope:Scope} {pm ctv:Value} (e:h.get? f=some (PySem.W.kla_obj "<lambda>" qual params body scope [] pm c' ctv)):Yc P w H h f (VY f qual params body scope pm c' ctv) :=
 ⟨e,⟨_,e⟩,fun _ _ q k=>k _ q⟩
def Zgz (P:Addr) (mg:Str→Option Value) (qual:Str) (params:Arguments) (body:Expr) (scope:Scope) (pos:Pos):TE:=fun _ H Q=>∃ ps:Array Value,H P=some (.tbl ps)∧TriplesOk ps.toList ∧
  ((codeAmong pos ps.toList=none∧∀ f c' ctv,H f=none→H c'=none→f≠c'→Q (.ref f) (Zd (Zd (Zd H P (.tbl (ps ++ #[rawInt pos.line,rawInt pos.col,.ref c']))) c' (VX c' qual)) f (VY f qual params body scope ((mg "__name__").getD .none) c' ctv))) ∨
   ∃ c',codeAmong pos ps.toList=some (.ref c')∧∀ f ctv,H f=none→Q (.ref f) (Zd H f (VY f qual params body scope ((mg "__name__").getD .none) c' ctv)))
theorem ZgA {X:Cx} {params:Arguments} {body:Expr} {scope:Scope} {pos:Pos} {c P:Addr} (hcode:X.env.code=.ref c) (C:PySem.W.CodeHd X.base c P) (hbm:BM X.mg X.base) (hcl:closureFor scope X.env=pure []) (hdef:defaultsOf params X.env=([],[])) :
  PE X (.Lambda params body scope pos) (Zgz P X.mg (X.env.qual ++ "<lambda>") params body scope pos):=by
 intro pins s σ H Q I h
 obtain ⟨ps,hP,ht,h⟩:=h
 have gP:s.heap.get? P=some (PySem.W.tabObj ps):=I.hok P _ hP
 have base_ne:∀ {b o},X.base.get? b=some o→b≠P:=fun e z=>by
  have:=(I.bs _ _ e).2
  rw [z,hP] at this
  cases this
 have hgP:mainGlobals≠P:=by
  obtain ⟨o,es,ep,e,_⟩:=I.mod.glob
  exact base_ne e
 obtain ⟨bm,ob,b1,b2,b3,b4,b5,b6,b7⟩:=hbm
 have hb:s.heap.BuiltinsAt X.mg P:=⟨bm,ob,b1,b2,b3,base_ne b4,I.bk _ _ b4,b5,b6,b7⟩
 refine PySem.W.kla_eval hdef ?_
 rcases h with ⟨hn,q⟩ | ⟨c',hf,q⟩
 ·refine PySem.W.kla_makeFunction (mg:=X.mg) hcl I.ok.glob (I.mod.glob.keeps I.bk) hcode (C.keeps I.bk) gP ht hn hgP hb fun c' ctv h' tk hx hge hlt hrec htb=>?_
  have nc:H c'=none:=I.hok.fresh hge
  have hPs:P < s.heap.objs.size:=Heap.lt_size gP
  have cP:c'≠P:=Nat.ne_of_gt (Nat.lt_of_lt_of_le hPs hge)
  have at1:∀ {b o},H b=some o→(∀ qs,o≠.tbl qs)→Zd (Zd H P (.tbl (ps ++ #[rawInt pos.line,rawInt pos.col,.ref c']))) c' (VX c' (X.env.qual ++ "<lambda>")) b=some o:=fun e n=>by
   rw [Zl (Yp e nc),Zl (YL e hP (n _))];exact e
  have I1:Zf X pins σ (Zd (Zd H P (.tbl (ps ++ #[rawInt pos.line,rawInt pos.col,.ref c']))) c' (VX c' (X.env.qual ++ "<lambda>"))) { s with heap:=h',gens:=s.gens,drawn:=s.drawn,toks:=tk }:=by
   refine I.step (ch:=[]) (fun _ z=>nomatch z) (fun b o _ _ _ e n=>hx b o (fun z=>by rw [z,hP] at n;cases n) e) (fun b o _ _ _ e n=>⟨o.slots,hx b o (fun z=>by rw [z,hP] at n;cases n) e⟩) (fun b o _ e n=>?_) (fun b o _ e=>?_) (fun b xs e=>at1 e fun _ z=>by cases z) (fun b o u e=>at1 e fun _ z=>by cases z) (fun b qs e=>?_) (fun m hn=>hn.extBut hx fun z=>?_) (fun b u e=>?_) I.bare
   ·rw [Zl (Nat.ne_of_lt (Nat.lt_of_lt_of_le (Heap.lt_size e) hge)),Zl fun z=>by rw [z,hP] at n;cases n]
    exact n
   ·by_cases z:b=P
    ·exact ⟨_,by rw [z];exact htb⟩
    ·exact ⟨o,hx b o z e⟩
   ·by_cases z:b=P
    ·subst z
     rw [hP] at e
     obtain rfl:ps=qs:=by injection e with e;injection e
     exact ⟨#[rawInt pos.line,rawInt pos.col,.ref c'],by rw [Zl cP.symm,Zh]⟩
    ·exact ⟨#[],by rw [Zl (Yp e nc),Zl z,e];simp⟩
   ·have:=I.free
    rw [z,hP] at this
    cases this
   ·by_cases z:b=c'
    ·subst z
     rw [Zh] at e
     obtain rfl:=Option.some.inj e
     exact ZlM hrec
    ·rw [Zl z] at e
     by_cases z2:b=P
     ·subst z2
      rw [Zh] at e
      obtain rfl:=Option.some.inj e
      exact htb
     ·rw [Zl z2] at e
      refine (I.hok b u e).stay (fun b' u' hb' e'=>hx b' u' (fun zz=>?_) e') (fun b' e'=>at1 e' fun _ z=>by cases z) (fun b' xs e'=>at1 e' fun _ z=>by cases z)
      rcases hb' with rfl | hb'
      ·exact z2 zz
      ·rw [zz,hP] at hb';cases hb'
  have I2:=I1.laid (a:=h'.objs.size) (o:=VY h'.objs.size (X.env.qual ++ "<lambda>") params body scope ((X.mg "__name__").getD .none) c' ctv) (t':=tk) (h':=h'.push (PySem.W.kla_obj "<lambda>" (X.env.qual ++ "<lambda>") params body scope [] ((X.mg "__name__").getD .none) c' ctv)) (fun b u e=>Heap.get?_push_of_some _ e) (Nat.le_refl _) (Zgy (Heap.get?_push_size _ rfl))
  have nf:H h'.objs.size=none:=I.hok.fresh (Nat.le_trans hge (Nat.le_of_lt hlt))
  exact ⟨.ref _,_,I2,rfl,q _ c' ctv nf nc (Nat.ne_of_gt hlt)⟩
 ·refine PySem.W.kla_makeFunctionHit (mg:=X.mg) hcl I.ok.glob (I.mod.glob.keeps I.bk) hcode (C.keeps I.bk) gP ht hf hb fun ctv h' tk hk hsz=>?_
  have I2:=I.laid (a:=h'.objs.size) (o:=VY h'.objs.size (X.env.qual ++ "<lambda>") params body scope ((X.mg "__name__").getD .none) c' ctv) (t':=tk) (h':=h'.push (PySem.W.kla_obj "<lambda>" (X.env.qual ++ "<lambda>") params body scope [] ((X.mg "__name__").getD .none) c' ctv)) (fun b u e=>Heap.get?_push_of_some _ (hk b u e)) hsz (Zgy (Heap.get?_push_size _ rfl))
  exact ⟨.ref _,_,I2,rfl,q _ ctv (I.hok.fresh hsz)⟩
end L2
namespace L2
open PySem PySem.Spec PyProof.Rows
theorem ZN.okC {P:Program} {w:World} {K:PySem.W.Frag} {mg:Str→Option Value} {base:Heap} {x qual:Str} {st:Stmt} {f:Addr} {fd:FuncData} {N ps:List Str} {k:Nat} {sp:Sp} (F:ZN K x qual st f fd) (S:ZM N ps (Zq st)) (len:∀ vs H Q E,sp vs H Q E→vs.length=ps.length)
  (hbody:∀ (cdv:Value) (A:Around) (outer:List Env) (s:Shared) (H:Hp) (vs:List V) (Q:VK) (E:XK),fd.code=cdv→Yh k (A.deeper (envOfC qual (Zq st) s.heap.objs.size f cdv))→sp vs H Q E →
   ∃ t,X2 (Vb ZE P w K mg base N qual (Zq st) f cdv A outer s H E).nox (ZD st) t∧t { nx:=fun _ H'=>Q .non H',rt:=Q } (Wn N vs) H):ZF P w K mg base ZE (k+1) f fd ps sp:=by
 obtain ⟨oc,od,kV,doc,pm,an,cdv,ct,osl,rfl,lk,hcd⟩:=F.ex
 refine Zcd lk hcd S len fun A outer s H vs Q E hr hsp=>?_
 obtain ⟨t,h,q⟩:=hbody cdv A outer s H vs Q E rfl hr hsp
 exact ⟨t,h.nox,q⟩
end L2
namespace K1
open PySem L2
def Xs (lt:Addr) (pos:Pos) (q:Str) (H:Hp):Prop:=H lt=some (.tbl #[])∨∃ c',H lt=some (.tbl #[rawInt pos.line,rawInt pos.col,.ref c'])∧H c'=some (VX c' q)
theorem Xs.same {lt:Addr} {pos:Pos} {q:Str} {H H':Hp} (s:Zk H H') (h:Xs lt pos q H):Xs lt pos q H':=by
 rcases h with h | ⟨c',h,hc⟩
 ·exact .inl (s _ _ h)
 ·exact .inr ⟨c',s _ _ h,s _ _ hc⟩
theorem Xs.at {lt:Addr} {pos:Pos} {q:Str} {H:Hp} (h:Xs lt pos q H):∃ ps,H lt=some (.tbl ps):=by
 rcases h with h | ⟨c',h,hc⟩
 ·exact ⟨_,h⟩
 ·exact ⟨_,h⟩
theorem ZgB {lt:Addr} {mg:Str→Option Value} {q:Str} {params:Arguments} {body:Expr} {scope:Scope} {pos:Pos} {σ:St} {H:Hp} {Q:VK} (h:Xs lt pos q H)
  (k:∀ (f c':Addr) (ctv:Value) (H':Hp),Zk (wo H lt) H'→Xs lt pos q H'→H' f=some (VY f q params body scope ((mg "__name__").getD .none) c' ctv)→H' c'=some (VX c' q)→Q (.ref f) H'):Zgz lt mg q params body scope pos σ H Q:=by
 rcases h with h | ⟨c',h,hc⟩
 ·refine ⟨#[],h,trivial,.inl ⟨rfl,fun f c' ctv hf hc' ne=>?_⟩⟩
  have nf:lt≠f:=Yp h hf
  have nc:lt≠c':=Yp h hc'
  have ec:(Zd (Zd (Zd H lt (.tbl (#[] ++ #[rawInt pos.line,rawInt pos.col,.ref c']))) c' (VX c' q)) f (VY f q params body scope ((mg "__name__").getD .none) c' ctv)) c'=some (VX c' q):=by
   rw [Zl (Ne.symm ne),Zh]
  refine k f c' ctv _ (fun a o e=>?_) (.inr ⟨c',?_,ec⟩) Zh ec
  ·obtain ⟨n,e⟩:=XQ e
   rw [Zl (Yp e hf),Zl (Yp e hc'),Zl n];exact e
  ·rw [Zl nf,Zl nc,Zh];rfl
 ·refine ⟨_,h,trivial,.inr ⟨c',?_,fun f ctv hf=>?_⟩⟩
  ·show codeAmong pos [rawInt pos.line,rawInt pos.col,.ref c']=some (.ref c')
   simp [codeAmong,rawInt]
  ·have s:=Zn hf (VY f q params body scope ((mg "__name__").getD .none) c' ctv)
   exact k f c' ctv _ (Xr.trans s) (.inr ⟨c',s _ _ h,s _ _ hc⟩) Zh (s _ _ hc)
theorem Xs.put {lt a:Addr} {pos:Pos} {q:Str} {H:Hp} {xs:List V} {o:HO} (h:Xs lt pos q H) (e:H a=some (.lst xs)):Xs lt pos q (Zd H a o):=by
 rcases h with h | ⟨c',h,hc⟩
 ·exact .inl (by rw [Zl fun z=>by rw [z,e] at h;cases h];exact h)
 ·exact .inr ⟨c',by rw [Zl fun z=>by rw [z,e] at h;cases h];exact h,by rw [Zl fun z=>by rw [z,e] at hc;cases hc];exact hc⟩
theorem UO {H:Hp} {lt a:Addr} {o:HO} {ps:Array Value} (h:H lt=some (.tbl ps)) (e:H a=some o) (n:∀ ps,o≠.tbl ps):wo H lt a=some o :=
 Z4 e fun z=>by rw [z,h] at e;exact n ps (Option.some.inj e).symm
end K1
namespace L2
open PySem PySem.Spec PyProof.Rows
structure SB (k₀:SortKind) (a₀:Array Keyed) (st:SortSt):Prop where
 perm:(arrOf st).Perm a₀
 kind:kindOf st=k₀
 failed:failedOf st=none
 pend:pendingOf st = #[]
theorem SB.size {k₀:SortKind} {a₀:Array Keyed} {st:SortSt} (h:SB k₀ a₀ st):(arrOf st).size=a₀.size:=h.perm.size_eq
theorem SB.arr {k₀:SortKind} {a₀:Array Keyed} {st:SortSt} (h:SB k₀ a₀ st) {xs:Array Keyed} (p:xs.Perm (arrOf st)):SB k₀ a₀ (setArr st xs):=⟨p.trans h.perm,h.kind,h.failed,h.pend⟩
def VZ (prog:Program) (w:World) (A:Around) (s:Shared) (k₀:SortKind) (κ:PyProof.Rows.KeyKind):Prop :=
 ∀ (E:Value→Shared→Prop) (x y:Value) (a b:κ.α) (Q:Bool→Shared→Prop),κ.keyOf x=some a→κ.keyOf y=some b→Q (κ.blt a b) s→wpAny (model prog w) A (keyLt' k₀ x y) Q E s
section
variable {prog:Program} {w:World} {A:Around} {E:Value→Shared→Prop} {s:Shared} {k₀:SortKind} {κ:PyProof.Rows.KeyKind} {a₀:Array Keyed}
theorem ZgC {st:SortSt} (hB:SB k₀ a₀ st) (h0:KeysOf κ a₀) {i:Nat} (hi:i < a₀.size):∃ x p,(arrOf st)[i]? = some (x,p)∧κ.keyOf x=some (KK κ (arrOf st) i):=by
 have hi':i < (arrOf st).size:=by rw [hB.size];exact hi
 have e:(arrOf st)[i]? = some (arrOf st)[i]:=getElem?_pos _ i hi'
 have mem:(arrOf st)[i]∈a₀.toList:=(Array.perm_iff_toList_perm.mp hB.perm).mem_iff.mp (by simp)
 obtain ⟨a,ha⟩:=h0 _ mem
 refine ⟨(arrOf st)[i].1,(arrOf st)[i].2,e,?_⟩
 rw [ha]
 unfold KK
 rw [e]
 show some a=some ((κ.keyOf (arrOf st)[i].1).getD κ.dflt)
 rw [ha]
 rfl
theorem ZaB {st:SortSt} {i j:Nat} {Q:Option Bool→SortSt→Prop} (hL:VZ prog w A s k₀ κ) (hB:SB k₀ a₀ st) (h0:KeysOf κ a₀) (hi:i < a₀.size) (hj:j < a₀.size)
  (h:Q (some (κ.blt (KK κ (arrOf st) i) (KK κ (arrOf st) j))) st):wpS (model prog w) A E s (ltAt' i j) Q st:=by
 obtain ⟨x,p,e1,k1⟩:=ZgC hB h0 hi
 obtain ⟨y,q,e2,k2⟩:=ZgC hB h0 hj
 rw [ltAt'_eq]
 apply wpS_bind
 apply wpS_get
 apply wpS_bind
 rw [elem'_eq,e1]
 apply wpS_pure
 apply wpS_bind
 rw [elem'_eq,e2]
 apply wpS_pure
 rw [lt'_eq]
 apply wpS_bind
 apply wpS_get
 apply wpS_bind
 rw [hB.kind]
 refine wpS_lift (wpAny_attempt (hL _ x y _ _ _ k1 k2 ⟨rfl,?_⟩))
 exact wpS_pure h
theorem ZlN {xs:Array Keyed} {k l:Nat} (hk:k < xs.size) (hl:l≤k) (hs:SortedToK κ xs k) (lo:∀ i,i < l→κ.kle (KK κ xs i) (KK κ xs k)) (hi:∀ i,l≤i→i < k→κ.klt (KK κ xs k) (KK κ xs i)):SortedToK κ (bubble xs k (k - l)) (k+1):=by
 intro i j hij hj
 rw [KK_bubble hk (by omega) i,KK_bubble hk (by omega) j]
 have e:k - (k - l)=l:=by omega
 rw [e]
 by_cases i1:i=l
 ·rw [if_pos i1]
  by_cases j1:j=l
  ·rw [if_pos j1];exact KeyOrd.kle_refl _
  ·rw [if_neg j1]
   by_cases j2:l < j∧j≤k
   ·rw [if_pos j2];exact KeyOrd.kle_of_klt (hi (j - 1) (by omega) (by omega))
   ·omega
 ·rw [if_neg i1]
  by_cases i2:l < i∧i≤k
  ·rw [if_pos i2]
   have j1:¬ j=l:=by omega
   have j2:l < j∧j≤k:=by omega
   rw [if_neg j1,if_pos j2]
   exact hs (i - 1) (j - 1) (by omega) (by omega)
  ·rw [if_neg i2]
   by_cases j1:j=l
   ·rw [if_pos j1];exact lo i (by omega)
   ·rw [if_neg j1]
    by_cases j2:l < j∧j≤k
    ·rw [if_pos j2];exact hs i (j - 1) (by omega) (by omega)
    ·rw [if_neg j2];exact hs i j hij (by omega)
theorem ZlO {st:SortSt} {n ok:Nat} {Q:Bool→SortSt→Prop} (hL:VZ prog w A s k₀ κ) (h0:KeysOf κ a₀) (hn:n≤a₀.size) (hok:ok≤n) (hB:SB k₀ a₀ st) (hs:SortedToK κ (arrOf st) ok)
  (h:∀ st',SB k₀ a₀ st'→SortedToK κ (arrOf st') n→Q true st'):wpS (model prog w) A E s (binarySort' 0 n ok) Q st:=by
 rw [binarySort'_eq]
 simp only [Nat.zero_add]
 apply wpS_bind
 refine wpS_mono (Q:=fun c st'=>c=(none,())∧SB k₀ a₀ st'∧SortedToK κ (arrOf st') n) (wpS_forRange (fun k c st'=>c=(none,())∧SB k₀ a₀ st'∧(k≤n→SortedToK κ (arrOf st') k)∧(n < k→SortedToK κ (arrOf st') n)) ?_ ?_ ?_) ?_
 ·rintro k c st' hk hkn ⟨rfl,hB',hs',_⟩
  have hks:k < a₀.size:=by omega
  have srt:=hs' (by omega)
  apply wpS_bind
  refine wpS_mono (Q:=fun c st''=>st''=st'∧∃ l r,c=(none,l,r)∧l≤k∧(∀ i,i < l→κ.kle (KK κ (arrOf st') i) (KK κ (arrOf st') k))∧∀ i,l≤i→i < k→κ.klt (KK κ (arrOf st') k) (KK κ (arrOf st') i))
   (wpS_forRange (fun x c st''=>st''=st'∧∃ l r,c=(none,l,r)∧l≤r∧r≤k∧r+x≤l+k∧(∀ i,i < l→κ.kle (KK κ (arrOf st') i) (KK κ (arrOf st') k))∧∀ i,r≤i→i < k→κ.klt (KK κ (arrOf st') k) (KK κ (arrOf st') i)) ?_ ?_ ?_) ?_
  ·rintro x c st'' _ hx ⟨rfl,l,r,rfl,hlr,hrk,hm,lo,hi⟩
   dsimp only
   by_cases ge:l ≥ r
   ·rw [if_pos ge]
    exact wpS_pure ⟨rfl,l,r,rfl,by omega,lo,fun i h1 h2=>hi i (by omega) h2⟩
   ·rw [if_neg ge]
    apply wpS_bind
    refine ZaB hL hB' h0 hks (by omega) ?_
    dsimp only
    cases c:κ.blt (KK κ (arrOf st'') k) (KK κ (arrOf st'') ((l+r) / 2)) with
    | true =>
     rw [if_pos rfl]
     refine wpS_pure ⟨rfl,l,(l+r) / 2,rfl,by omega,by omega,by omega,lo,fun i h1 h2=>?_⟩
     exact KeyOrd.klt_of_klt_of_kle c (srt ((l+r) / 2) i h1 h2)
    | false =>
     rw [if_neg Bool.false_ne_true]
     refine wpS_pure ⟨rfl,(l+r) / 2+1,r,rfl,by omega,by omega,by omega,fun i h1=>?_,hi⟩
     exact KeyOrd.kle_trans (srt i ((l+r) / 2) (by omega) (by omega)) c
  ·rintro c st'' ⟨rfl,l,r,rfl,hlr,hrk,hm,lo,hi⟩
   have:l=r:=by omega
   subst this
   exact ⟨rfl,l,l,rfl,hrk,lo,hi⟩
  ·exact ⟨rfl,0,k,rfl,by omega,by omega,by omega,fun i hi=>by omega,fun i h1 h2=>by omega⟩
  ·rintro c st'' ⟨rfl,l,r,rfl,hlk,lo,hi⟩
   dsimp only
   apply wpS_bind
   rw [moveDown'_eq]
   apply wpS_modify
   have hks':k < (arrOf st'').size:=by rw [hB'.size];exact hks
   have sp:=ZlN hks' hlk srt lo hi
   exact wpS_pure ⟨rfl,hB'.arr (bubble_perm _ _ _),fun _=>sp,fun z=>absurd z (by omega)⟩
 ·rintro c st' ⟨hc,hB',h1,h2⟩
  refine ⟨hc,hB',?_⟩
  by_cases z:max (max ok 1) n≤n
  ·have:max (max ok 1) n=n:=by omega
   rw [this] at h1
   exact h1 (Nat.le_refl _)
  ·exact h2 (by omega)
 ·refine ⟨rfl,hB,fun _=>?_,fun _=>?_⟩
  ·intro i j hij hj
   by_cases z:ok=0
   ·have:i=j:=by omega
    subst this;exact KeyOrd.kle_refl _
   ·exact hs i j hij (by omega)
  ·intro i j hij hj
   by_cases z:ok=0
   ·have:i=j:=by omega
    subst this;exact KeyOrd.kle_refl _
   ·exact hs i j hij (by omega)
 ·rintro c st' ⟨rfl,hB',hs'⟩
  exact wpS_pure (h st' hB' hs')
theorem ZlP {xs:Array Keyed} {n:Nat} (h:1≤n) (hs:SortedToK κ xs n) (k:κ.kle (KK κ xs (n - 1)) (KK κ xs n)):SortedToK κ xs (n+1):=by
 intro i j hij hj
 by_cases e:j=n
 ·subst e
  by_cases e2:i=j
  ·subst e2;exact KeyOrd.kle_refl _
  ·exact KeyOrd.kle_trans (hs i (j - 1) (by omega) (by omega)) k
 ·exact hs i j hij (by omega)
theorem ZaC {xs:Array Keyed} {n:Nat} (h:1≤n) (hs:NonIncK κ xs n) (k:κ.kle (KK κ xs n) (KK κ xs (n - 1))):NonIncK κ xs (n+1):=by
 intro i j hij hj
 by_cases e:j=n
 ·subst e
  by_cases e2:i=j
  ·subst e2;exact KeyOrd.kle_refl _
  ·exact KeyOrd.kle_trans k (hs i (j - 1) (by omega) (by omega))
 ·exact hs i j hij (by omega)
theorem ZgD {st:SortSt} {a nrem:Nat} {Q:AscSt→SortSt→Prop} (hL:VZ prog w A s k₀ κ) (h0:KeysOf κ a₀) (hn:nrem≤a₀.size) (ha:1≤a) (han:a≤nrem) (hB:SB k₀ a₀ st) (hs:SortedToK κ (arrOf st) a)
  (h:∀ n,a≤n→n≤nrem→SortedToK κ (arrOf st) n→(n=nrem∨κ.klt (KK κ (arrOf st) n) (KK κ (arrOf st) (n - 1)))→Q (none,n) st):wpS (model prog w) A E s (ascLoop a nrem) Q st:=by
 unfold ascLoop
 refine wpS_forRange (fun x c st'=>st'=st∧c=(none,x)∧SortedToK κ (arrOf st) x) ?_ ?_ ⟨rfl,rfl,hs⟩
 ·rintro x c st' hx hxn ⟨rfl,rfl,hs'⟩
  dsimp only
  apply wpS_bind
  refine ZaB hL hB h0 (by omega) (by omega) ?_
  dsimp only
  cases c:κ.blt (KK κ (arrOf st') x) (KK κ (arrOf st') (x - 1)) with
  | true =>
   rw [if_pos rfl]
   exact wpS_pure (h x hx (by omega) hs' (.inr c))
  | false =>
   rw [if_neg Bool.false_ne_true]
   exact wpS_pure ⟨rfl,rfl,ZlP (by omega) hs' c⟩
 ·rintro c st' ⟨rfl,rfl,hs'⟩
  rw [show max a nrem=nrem by omega] at hs' ⊢
  exact h nrem han (Nat.le_refl _) hs' (.inl rfl)
theorem ZlQ {xs:Array Keyed} {n:Nat} (hn:n≤xs.size) (h:NonIncK κ xs n):SortedToK κ (mirror xs 0 n ((n - 0) / 2)) n:=by
 intro i j hij hj
 rw [KK_mirror hn i,KK_mirror hn j,if_pos (by omega),if_pos (by omega)]
 exact h _ _ (by omega) (by omega)
theorem ZgE {st:SortSt} {n nrem:Nat} {Q:Option Nat→SortSt→Prop} (hL:VZ prog w A s k₀ κ) (h0:KeysOf κ a₀) (hn:nrem≤a₀.size) (h1:1≤n) (hnn:n≤nrem) (hB:SB k₀ a₀ st) (hs:NonIncK κ (arrOf st) n)
  (h:∀ m st',SB k₀ a₀ st'→1≤m→m≤nrem→SortedToK κ (arrOf st') m→Q (some m) st'):wpS (model prog w) A E s (tail3 n nrem) Q st:=by
 unfold tail3
 apply wpS_bind
 refine wpS_reverse ?_
 apply wpS_bind
 have hB':SB k₀ a₀ (setArr st (mirror (arrOf st) 0 n ((n - 0) / 2))):=hB.arr (mirror_perm _ _ _ _)
 refine ZgD hL h0 hn h1 hnn hB' (ZlQ (by rw [hB.size];omega) hs) fun m h2 h3 hs' _=>?_
 exact wpS_pure (h m _ hB' (by omega) h3 hs')
theorem ZlR {st:SortSt} {n nrem:Nat} {Q:DescSt→SortSt→Prop} (hL:VZ prog w A s k₀ κ) (h0:KeysOf κ a₀) (hn:nrem≤a₀.size) (h1:1≤n) (hnn:n≤nrem) (hB:SB k₀ a₀ st) (hs:NonIncK κ (arrOf st) n)
  (h:∀ m q st',SB k₀ a₀ st'→n≤m→m≤nrem→q+1≤m→NonIncK κ (arrOf st') m→(∀ k,m - (q+1)≤k→k < m→KK κ (arrOf st') k=KK κ (arrOf st') (m - 1))→Q (none,m,q) st'):wpS (model prog w) A E s (descLoop n nrem) Q st:=by
 unfold descLoop
 refine wpS_forRange (fun x c st'=>∃ q,c=(none,x,q)∧SB k₀ a₀ st'∧q+1≤x∧NonIncK κ (arrOf st') x∧∀ k,x - (q+1)≤k→k < x→KK κ (arrOf st') k=KK κ (arrOf st') (x - 1)) ?_ ?_ ⟨0,rfl,hB,by omega,hs,fun k k1 k2=>by rw [show k=n - 1 by omega]⟩
 ·rintro x c st' hx hxn ⟨q,rfl,hB',hq,hs',he⟩
  dsimp only
  apply wpS_bind
  refine ZaB hL hB' h0 (by omega) (by omega) ?_
  dsimp only
  cases c:κ.blt (KK κ (arrOf st') x) (KK κ (arrOf st') (x - 1)) with
  | true =>
   rw [if_pos rfl]
   by_cases q0:q > 0
   ·rw [if_pos q0]
    apply wpS_bind
    refine wpS_reverse ?_
    have ek:∀ k,KK κ (mirror (arrOf st') (x - (q+1)) x ((x - (x - (q+1))) / 2)) k=KK κ (arrOf st') k:=fun k=>KK_mirror_equal (by rw [hB'.size];omega) he k
    refine wpS_pure ⟨0,rfl,hB'.arr (mirror_perm _ _ _ _),by omega,?_,fun k k1 k2=>by rw [show k=x+1 - 1 by omega]⟩
    refine ZaC (by omega) (fun i j hij hj=>?_) ?_
    ·show κ.kle (KK κ (mirror (arrOf st') (x - (q+1)) x ((x - (x - (q+1))) / 2)) j) (KK κ (mirror (arrOf st') (x - (q+1)) x ((x - (x - (q+1))) / 2)) i)
     rw [ek,ek]
     exact hs' i j hij hj
    ·show κ.kle (KK κ (mirror (arrOf st') (x - (q+1)) x ((x - (x - (q+1))) / 2)) x) (KK κ (mirror (arrOf st') (x - (q+1)) x ((x - (x - (q+1))) / 2)) (x - 1))
     rw [ek,ek]
     exact KeyOrd.kle_of_klt c
   ·rw [if_neg q0]
    exact wpS_pure ⟨0,rfl,hB',by omega,ZaC (by omega) hs' (KeyOrd.kle_of_klt c),fun k k1 k2=>by rw [show k=x+1 - 1 by omega]⟩
  | false =>
   rw [if_neg Bool.false_ne_true]
   apply wpS_bind
   refine ZaB hL hB' h0 (by omega) (by omega) ?_
   dsimp only
   cases c2:κ.blt (KK κ (arrOf st') (x - 1)) (KK κ (arrOf st') x) with
   | true =>
    rw [if_pos rfl]
    exact wpS_pure (h x q st' hB' hx (by omega) hq hs' he)
   | false =>
    rw [if_neg Bool.false_ne_true]
    have eq:KK κ (arrOf st') x=KK κ (arrOf st') (x - 1):=κ.total _ _ c c2
    refine wpS_pure ⟨q+1,rfl,hB',by omega,ZaC (by omega) hs' c2,fun k k1 k2=>?_⟩
    rw [show x+1 - 1=x by omega]
    by_cases z:k=x
    ·rw [z]
    ·rw [eq]
     exact he k (by omega) (by omega)
 ·rintro c st' ⟨q,rfl,hB',hq,hs',he⟩
  have em:max n nrem=nrem:=by omega
  rw [em] at hq hs' he ⊢
  exact h nrem q st' hB' hnn (Nat.le_refl _) hq hs' he
theorem ZgF {st:SortSt} {n nrem:Nat} {Q:Option Nat→SortSt→Prop} (hL:VZ prog w A s k₀ κ) (h0:KeysOf κ a₀) (hn:nrem≤a₀.size) (hnn:n+1≤nrem) (hB:SB k₀ a₀ st) (hs:NonIncK κ (arrOf st) (n+1))
  (h:∀ m st',SB k₀ a₀ st'→1≤m→m≤nrem→SortedToK κ (arrOf st') m→Q (some m) st'):wpS (model prog w) A E s (descPart n nrem) Q st:=by
 unfold descPart
 apply wpS_bind
 refine wpS_lift (wpAny_rule ⟨rfl,?_⟩)
 apply wpS_bind
 refine ZlR hL h0 hn (by omega) hnn hB hs fun m q st' hB' h1 h2 hq hs' he=>?_
 dsimp only
 by_cases q0:q > 0
 ·rw [if_pos q0]
  apply wpS_bind
  refine wpS_reverse ?_
  have ek:∀ k,KK κ (mirror (arrOf st') (m - (q+1)) m ((m - (m - (q+1))) / 2)) k=KK κ (arrOf st') k:=fun k=>KK_mirror_equal (by rw [hB'.size];omega) he k
  refine ZgE hL h0 hn (by omega) h2 (hB'.arr (mirror_perm _ _ _ _)) (fun i j hij hj=>?_) h
  show κ.kle (KK κ (mirror (arrOf st') (m - (q+1)) m ((m - (m - (q+1))) / 2)) j) (KK κ (mirror (arrOf st') (m - (q+1)) m ((m - (m - (q+1))) / 2)) i)
  rw [ek,ek]
  exact hs' i j hij hj
 ·rw [if_neg q0]
  exact ZgE hL h0 hn (by omega) h2 hB' hs' h
theorem ZlS {st:SortSt} {nrem:Nat} {Q:Option Nat→SortSt→Prop} (hL:VZ prog w A s k₀ κ) (h0:KeysOf κ a₀) (hn:nrem≤a₀.size) (h1:1≤nrem) (hB:SB k₀ a₀ st)
  (h:∀ m st',SB k₀ a₀ st'→1≤m→m≤nrem→SortedToK κ (arrOf st') m→Q (some m) st'):wpS (model prog w) A E s (countRun' 0 nrem) Q st:=by
 rw [countRun0_eq]
 apply wpS_bind
 refine ZgD hL h0 hn (Nat.le_refl 1) h1 hB (fun i j hij hj=>by have:i=j:=(by omega);subst this;exact KeyOrd.kle_refl _) fun n n1 n2 hs hor=>?_
 dsimp only
 by_cases e:n=nrem
 ·rw [if_pos (by simpa using e)]
  exact wpS_pure (h n st hB n1 n2 hs)
 ·rw [if_neg (by simpa using e)]
  have lt:=hor.resolve_left e
  by_cases g:n > 1
  ·rw [if_pos g]
   apply wpS_bind
   refine ZaB hL hB h0 (by omega) (by omega) ?_
   dsimp only
   cases c:κ.blt (KK κ (arrOf st) 0) (KK κ (arrOf st) (n - 1)) with
   | true =>
    rw [if_pos rfl]
    exact wpS_pure (h n st hB n1 n2 hs)
   | false =>
    rw [if_neg Bool.false_ne_true]
    apply wpS_bind
    refine wpS_reverse ?_
    have eqs:∀ k,0≤k→k < n→KK κ (arrOf st) k=KK κ (arrOf st) (n - 1):=fun k _ hk=>KeyOrd.kle_antisymm (hs k (n - 1) (by omega) (by omega)) (KeyOrd.kle_trans c (hs 0 k (by omega) hk))
    have ek:∀ k,KK κ (mirror (arrOf st) 0 n ((n - 0) / 2)) k=KK κ (arrOf st) k:=fun k=>KK_mirror_equal (by rw [hB.size];omega) eqs k
    refine ZgF hL h0 hn (by omega) (hB.arr (mirror_perm _ _ _ _)) (ZaC (by omega) (fun i j hij hj=>?_) ?_) h
    ·show κ.kle (KK κ (mirror (arrOf st) 0 n ((n - 0) / 2)) j) (KK κ (mirror (arrOf st) 0 n ((n - 0) / 2)) i)
     rw [ek,ek,eqs i (by omega) (by omega),eqs j (by omega) hj]
     exact KeyOrd.kle_refl _
    ·show κ.kle (KK κ (mirror (arrOf st) 0 n ((n - 0) / 2)) n) (KK κ (mirror (arrOf st) 0 n ((n - 0) / 2)) (n - 1))
     rw [ek,ek]
     exact KeyOrd.kle_of_klt lt
  ·rw [if_neg g]
   have en:n=1:=by omega
   subst en
   exact ZgF hL h0 hn (by omega) hB (ZaC (by omega) (fun i j hij hj=>by have:i=j:=(by omega);subst this;exact KeyOrd.kle_refl _) (KeyOrd.kle_of_klt lt)) h
theorem ZlT {st:SortSt} {Q:Unit→SortSt→Prop} (hL:VZ prog w A s k₀ κ) (h0:KeysOf κ a₀) (hB:SB k₀ a₀ st) (h2:2≤a₀.size) (h64:a₀.size < 64)
  (h:∀ st',(arrOf st').Perm a₀→failedOf st'=none→SortedToK κ (arrOf st') a₀.size→Q () st'):wpS (model prog w) A E s sortRuns' Q st:=by
 rw [sortRuns'_eq]
 apply wpS_bind
 apply wpS_get
 have em:minRun' (arrOf st).size (arrOf st).size 0=a₀.size:=by
  rw [hB.size]
  obtain ⟨m,e⟩:∃ m,a₀.size=m+1:=⟨a₀.size - 1,by omega⟩
  rw [e,minRun'_succ,if_pos (by omega)]
 dsimp only
 rw [em,hB.size]
 apply wpS_bind
 refine wpS_mono (Q:=fun c st'=>c=(none,a₀.size)∧(arrOf st').Perm a₀∧failedOf st'=none∧pendingOf st' = #[(0,a₀.size,0)]∧SortedToK κ (arrOf st') a₀.size) (wpS_forRange (fun x c st'=>(x=0∧c=(none,0)∧st'=st)∨(1≤x∧c=(none,a₀.size)∧(arrOf st').Perm a₀∧failedOf st'=none∧pendingOf st' = #[(0,a₀.size,0)]∧SortedToK κ (arrOf st') a₀.size)) ?_ ?_ (.inl ⟨rfl,rfl,rfl⟩)) ?_
 ·rintro x c st' _ hx (⟨rfl,rfl,rfl⟩ | ⟨hx1,rfl,r1,r2,r3,r4⟩)
  ·dsimp only
   rw [if_neg (by omega)]
   apply wpS_bind
   refine ZlS hL h0 (by omega) (by omega) hB fun m st1 hB1 m1 m2 hs1=>?_
   dsimp only
   by_cases hm:m < a₀.size
   ·rw [if_pos hm]
    apply wpS_bind
    refine wpS_lift (wpAny_rule ⟨rfl,?_⟩)
    apply wpS_bind
    refine ZlO hL h0 (by omega) (by omega) hB1 hs1 fun st2 hB2 hs2=>?_
    rw [if_neg (by decide)]
    apply wpS_bind
    apply wpS_get
    rw [show min (a₀.size - 0) a₀.size=a₀.size by omega] at hs2 ⊢
    rw [hB2.pend]
    show wpS _ _ _ _ (modify _ >>= fun _=>pure _) _ _
    apply wpS_bind
    apply wpS_modify
    refine wpS_pure (.inr ⟨by omega,by rw [Nat.zero_add],hB2.perm,hB2.failed,?_,hs2⟩)
    show (pendingOf st2).push (0,a₀.size,0)=_
    rw [hB2.pend]
    rfl
   ·rw [if_neg hm]
    have em2:m=a₀.size:=by omega
    subst em2
    apply wpS_bind
    apply wpS_get
    rw [hB1.pend]
    show wpS _ _ _ _ (modify _ >>= fun _=>pure _) _ _
    apply wpS_bind
    apply wpS_modify
    refine wpS_pure (.inr ⟨by omega,by rw [Nat.zero_add],hB1.perm,hB1.failed,?_,hs1⟩)
    show (pendingOf st1).push (0,a₀.size,0)=_
    rw [hB1.pend]
    rfl
  ·dsimp only
   rw [if_pos (by omega)]
   exact wpS_pure ⟨rfl,r1,r2,r3,r4⟩
 ·rintro c st' (⟨e,_⟩ | ⟨_,r⟩)
  ·omega
  ·exact r
 ·rintro c st' ⟨rfl,r1,r2,r3,r4⟩
  dsimp only
  apply wpS_bind
  refine wpS_mono (Q:=fun c st''=>c=(none,())∧st''=st') (wpS_forRange (fun x c st''=>c=(none,())∧st''=st') ?_ ?_ ⟨rfl,rfl⟩) ?_
  ·rintro x c st'' _ _ ⟨rfl,rfl⟩
   apply wpS_bind
   apply wpS_get
   rw [if_pos (by rw [r3];exact Nat.le_refl 1)]
   exact wpS_pure ⟨rfl,rfl⟩
  ·rintro c st'' z
   exact z
  ·rintro c st'' ⟨rfl,rfl⟩
   exact wpS_pure (h st'' r1 r2 r4)
end
end L2
namespace L2
open PySem PySem.Spec PyProof.Rows
def V0:Sum Int (List Nat)→Sum Int (List Nat)→Bool
 | .inl a,.inl b=>decide (a < b)
 | .inl _,.inr _=>true
 | .inr _,.inl _=>false
 | .inr a,.inr b=>decide (a < b)
@[reducible] def WE:KeyOrd where
 α:=Sum Int (List Nat)
 blt:=V0
 irrefl a:=by
  cases a with
  | inl a=>exact decide_eq_false (Int.lt_irrefl a)
  | inr a=>exact strKind.irrefl a
 trans a b c h1 h2:=by
  cases a with
  | inl a =>
   cases b with
   | inl b =>
    cases c with
    | inl c =>
     have h1:=of_decide_eq_true h1
     have h2:=of_decide_eq_true h2
     exact decide_eq_true (Int.lt_trans h1 h2)
    | inr c=>rfl
   | inr b =>
    cases c with
    | inl c=>cases h2
    | inr c=>rfl
  | inr a =>
   cases b with
   | inl b=>cases h1
   | inr b =>
    cases c with
    | inl c=>cases h2
    | inr c=>exact strKind.trans a b c h1 h2
 negTrans a b c h:=by
  cases a with
  | inl a =>
   cases b with
   | inl b =>
    cases c with
    | inl c =>
     have h:=of_decide_eq_true h
     by_cases z:a < b
     ·exact .inl (decide_eq_true z)
     ·exact .inr (decide_eq_true (by omega))
    | inr c=>exact .inr rfl
   | inr b=>exact .inl rfl
  | inr a =>
   cases c with
   | inl c=>cases h
   | inr c =>
    cases b with
    | inl b=>exact .inr rfl
    | inr b=>exact strKind.negTrans a b c h
 total a b h1 h2:=by
  cases a with
  | inl a =>
   cases b with
   | inl b =>
    have h1:=of_decide_eq_false h1
    have h2:=of_decide_eq_false h2
    rw [show a=b by omega]
   | inr b=>cases h1
  | inr a =>
   cases b with
   | inl b=>cases h2
   | inr b=>rw [strKind.total a b h1 h2]
def YW (O:KeyOrd):List O.α→List O.α→Bool
 | [],[]=>false
 | [],_::_=>true
 | _::_,[]=>false
 | a::as,b::bs=>if O.blt a b=true then true else if O.blt b a=true then false else YW O as bs
theorem X7 {O:KeyOrd} {a b:O.α} {as bs:List O.α}:YW O (a::as) (b::bs)=true↔O.blt a b=true∨(a=b∧YW O as bs=true):=by
 show (if O.blt a b=true then true else if O.blt b a=true then false else YW O as bs)=true↔_
 by_cases h1:O.blt a b=true
 ·rw [if_pos h1];exact ⟨fun _=>.inl h1,fun _=>rfl⟩
 ·rw [if_neg h1]
  by_cases h2:O.blt b a=true
  ·rw [if_pos h2]
   refine ⟨fun z=>(by cases z),fun z=>?_⟩
   rcases z with z | ⟨z,_⟩
   ·exact absurd z h1
   ·subst z;exact absurd h2 h1
  ·rw [if_neg h2]
   have e:a=b:=O.total a b (Bool.eq_false_iff.mpr h1) (Bool.eq_false_iff.mpr h2)
   exact ⟨fun z=>.inr ⟨e,z⟩,fun z=>z.elim (fun z=>absurd z h1) (·.2)⟩
theorem ZgG {O:KeyOrd}:∀ a:List O.α,YW O a a=false
 | []=>rfl
 | a::as=>by
  rw [Bool.eq_false_iff]
  intro z
  rcases X7.mp z with z | ⟨_,z⟩
  ·rw [O.irrefl] at z;cases z
  ·rw [ZgG as] at z;cases z
theorem ZgH {O:KeyOrd}:∀ a b c:List O.α,YW O a b=true→YW O b c=true→YW O a c=true
 | [],[],_,h1,_=>by cases h1
 | [],_::_,[],_,h2=>by cases h2
 | [],_::_,_::_,_,_=>rfl
 | _::_,[],_,h1,_=>by cases h1
 | _::_,_::_,[],_,h2=>by cases h2
 | a::as,b::bs,c::cs,h1,h2=>by
  refine X7.mpr ?_
  rcases X7.mp h1 with g1 | ⟨e1,g1⟩
  ·rcases X7.mp h2 with g2 | ⟨e2,g2⟩
   ·exact .inl (O.trans _ _ _ g1 g2)
   ·rw [← e2];exact .inl g1
  ·rcases X7.mp h2 with g2 | ⟨e2,g2⟩
   ·rw [e1];exact .inl g2
   ·exact .inr ⟨e1.trans e2,ZgH as bs cs g1 g2⟩
theorem ZgI {O:KeyOrd}:∀ a b c:List O.α,YW O a c=true→YW O a b=true∨YW O b c=true
 | [],_,[],h=>by cases h
 | [],[],_::_,_=>.inr rfl
 | [],_::_,_::_,_=>.inl rfl
 | _::_,_,[],h=>by cases h
 | _::_,[],_::_,_=>.inr rfl
 | a::as,b::bs,c::cs,h=>by
  rcases X7.mp h with g | ⟨ec,g⟩
  ·rcases O.negTrans a b c g with z | z
   ·exact .inl (X7.mpr (.inl z))
   ·exact .inr (X7.mpr (.inl z))
  ·by_cases h1:O.blt a b=true
   ·exact .inl (X7.mpr (.inl h1))
   ·by_cases h2:O.blt b a=true
    ·rw [← ec];exact .inr (X7.mpr (.inl h2))
    ·have e:a=b:=O.total a b (Bool.eq_false_iff.mpr h1) (Bool.eq_false_iff.mpr h2)
     subst e
     rcases ZgI as bs cs g with z | z
     ·exact .inl (X7.mpr (.inr ⟨rfl,z⟩))
     ·exact .inr (X7.mpr (.inr ⟨ec,z⟩))
theorem ZgJ {O:KeyOrd}:∀ a b:List O.α,YW O a b=false→YW O b a=false→a=b
 | [],[],_,_=>rfl
 | [],_::_,h,_=>by cases h
 | _::_,[],_,h=>by cases h
 | a::as,b::bs,h1,h2=>by
  have n1:O.blt a b=false:=Bool.eq_false_iff.mpr fun z=>by rw [X7.mpr (.inl z)] at h1;cases h1
  have n2:O.blt b a=false:=Bool.eq_false_iff.mpr fun z=>by rw [X7.mpr (.inl z)] at h2;cases h2
  have e:=O.total a b n1 n2
  subst e
  have m1:YW O as bs=false:=Bool.eq_false_iff.mpr fun z=>by rw [X7.mpr (.inr ⟨rfl,z⟩)] at h1;cases h1
  have m2:YW O bs as=false:=Bool.eq_false_iff.mpr fun z=>by rw [X7.mpr (.inr ⟨rfl,z⟩)] at h2;cases h2
  rw [ZgJ as bs m1 m2]
def ZgK (O:KeyOrd):KeyOrd:=⟨List O.α,YW O,ZgG,ZgH,ZgI,ZgJ⟩
end L2
namespace L2
open PySem PySem.Spec PyProof.Rows
inductive Zbt:Value→Sum Int (List Nat)→Prop
 | int (i:Int) (t:Tok):Zbt (.int i t) (.inl i)
 | str (z:Str) (t:Tok):Zbt (.str z t) (.inr z.cps.toList)
inductive Wq:List Value→List (Sum Int (List Nat))→Prop
 | nil:Wq [] []
 | cons {v:Value} {a:Sum Int (List Nat)} {vs:List Value} {as:List (Sum Int (List Nat))}:Zbt v a→Wq vs as→Wq (v::vs) (a::as)
inductive Vx:List (Sum Int (List Nat))→List (Sum Int (List Nat))→Prop
 | nil:Vx [] []
 | int {a b:Int} {as bs:List (Sum Int (List Nat))}:Vx as bs→Vx (.inl a::as) (.inl b::bs)
 | str {a b:List Nat} {as bs:List (Sum Int (List Nat))}:Vx as bs→Vx (.inr a::as) (.inr b::bs)
theorem ZgL {a b:Sum Int (List Nat)} {as bs:List (Sum Int (List Nat))} (h:a≠b):YW WE (a::as) (b::bs)=V0 a b:=by
 show (if V0 a b=true then true else if V0 b a=true then false else YW WE as bs)=_
 cases h1:V0 a b with
 | true=>rw [if_pos rfl]
 | false =>
  rw [if_neg Bool.false_ne_true]
  cases h2:V0 b a with
  | true=>rw [if_pos rfl]
  | false=>exact absurd (WE.total a b h1 h2) h
theorem ZgM {a:Sum Int (List Nat)} {as bs:List (Sum Int (List Nat))}:YW WE (a::as) (a::bs)=YW WE as bs:=by
 show (if V0 a a=true then true else if V0 a a=true then false else YW WE as bs)=_
 rw [show V0 a a=false from WE.irrefl a,if_neg Bool.false_ne_true,if_neg Bool.false_ne_true]
section
variable {prog:Program} {w:World} {A:Around} {E:Value→Shared→Prop} {s:Shared} {b:Bool} {Q:Bool→Shared→Prop}
theorem ZlU {x y:Int} {t u:Tok} {c:Bool} (h:Q (decide (x < y)) s):wpAny (model prog w) A (oneLt' c (.int x t) (.int y u)) Q E s:=by
 cases c with
 | true=>exact oneLt_int h
 | false=>exact PySem.W.kat_one _ _ (lt_int h)
theorem ZlV {x y:Str} {t u:Tok} {c:Bool} (h:Q (decide (x.cps.toList < y.cps.toList)) s):wpAny (model prog w) A (oneLt' c (.str x t) (.str y u)) Q E s:=by
 cases c with
 | true=>exact oneLt_str h
 | false=>exact PySem.W.kat_one _ _ (lt_str h)
theorem ZlW {xs ys:List Value} {as bs:List (Sum Int (List Nat))} {i:Nat} (h1:Wq xs as) (h2:Wq ys bs) (al:Vx as bs) (h:Q (YW WE as bs) s):PySem.W.KatLex prog w A b false Q (xs.zip ys) i s:=by
 induction al generalizing xs ys i with
 | nil =>
  cases h1
  exact PySem.W.kat_nil h
 | int al ih =>
  cases h1 with | cons v1 r1=>cases v1 with | int x t =>
  cases h2 with | cons v2 r2=>cases v2 with | int y u =>
  rw [List.zip_cons_cons]
  refine PySem.W.kat_cons (wpAny_eqBool_int (PySem.W.kat_go (fun e=>PySem.W.kat_yes ?_) fun e=>PySem.W.kat_no (ZlU ?_)))
  ·have e:=beq_iff_eq.mp e
   subst e
   rw [ZgM] at h
   exact ih r1 r2 h
  ·have ne:=beq_eq_false_iff_ne.mp e
   rw [ZgL (fun z=>ne (Sum.inl.inj z))] at h
   exact h
 | str al ih =>
  cases h1 with | cons v1 r1=>cases v1 with | str x t =>
  cases h2 with | cons v2 r2=>cases v2 with | str y u =>
  rw [List.zip_cons_cons]
  refine PySem.W.kat_cons (wpAny_eqBool_str (PySem.W.kat_go (fun e=>PySem.W.kat_yes ?_) fun e=>PySem.W.kat_no (ZlV ?_)))
  ·have e:=of_decide_eq_true e
   subst e
   rw [ZgM] at h
   exact ih r1 r2 h
  ·have ne:=of_decide_eq_false e
   have ne2:x.cps.toList≠y.cps.toList:=fun z=>ne (by
    obtain ⟨cx⟩:=x
    obtain ⟨cy⟩:=y
    have z:cx.toList=cy.toList:=z
    rw [show cx=cy from Array.toList_inj.mp z])
   rw [ZgL (fun z=>ne2 (Sum.inr.inj z))] at h
   exact h
theorem Wq.length {vs:List Value} {as:List (Sum Int (List Nat))} (h:Wq vs as):vs.length=as.length:=by
 induction h with
 | nil=>rfl
 | cons _ _ ih=>rw [List.length_cons,List.length_cons,ih]
theorem Vx.length {as bs:List (Sum Int (List Nat))} (h:Vx as bs):as.length=bs.length:=by
 induction h with
 | nil=>rfl
 | int _ ih=>rw [List.length_cons,List.length_cons,ih]
 | str _ ih=>rw [List.length_cons,List.length_cons,ih]
theorem ZlX {x y:Addr} {ox oy:Obj} {xs ys:Array Value} {n k:Nat} {as bs:List (Sum Int (List Nat))} (hx:s.heap.get? x=some ox) (dx:ox.data=.seq xs n) (hy:s.heap.get? y=some oy) (dy:oy.data=.seq ys k) (ix:Wq xs.toList as) (iy:Wq ys.toList bs) (al:Vx as bs)
  (h:Q (YW WE as bs) s):wpAny (model prog w) A (keyLt' (tuples' b) (.ref x) (.ref y)) Q E s:=by
 refine PySem.W.kat_lt hx dx hy dy ?_
 have e:xs.size=ys.size:=by
  have l1:=ix.length
  have l2:=iy.length
  have l3:=al.length
  rw [Array.length_toList] at l1 l2
  omega
 rw [decide_eq_false (show ¬ xs.size < ys.size by omega)]
 exact ZlW ix iy al h
end
end L2
namespace L2
open PySem PySem.Spec PyProof.Rows
def Qh:Value→Option (Sum Int (List Nat))
 | .int i _=>some (.inl i)
 | .str z _=>some (.inr z.cps.toList)
 | _=>none
def V2:List Value→Option (List (Sum Int (List Nat)))
 | []=>some []
 | v::vs=>match Qh v,V2 vs with
  | some a,some as=>some (a::as)
  | _,_=>none
theorem ZlY {v:Value} {a:Sum Int (List Nat)} (h:Qh v=some a):Zbt v a:=by
 cases v <;> first | (cases h;done) | skip
 ·cases h;exact .int _ _
 ·cases h;exact .str _ _
theorem ZgN:∀ {vs:List Value} {as:List (Sum Int (List Nat))},V2 vs=some as→Wq vs as
 | [],as,h=>by cases h;exact .nil
 | v::vs,as,h=>by
  have h:(match Qh v,V2 vs with | some a,some as=>some (a::as) | _,_=>none)=some as:=h
  cases h1:Qh v with
  | none=>rw [h1] at h;cases h
  | some a =>
   cases h2:V2 vs with
   | none=>rw [h1,h2] at h;cases h
   | some as' =>
    rw [h1,h2] at h
    cases h
    exact .cons (ZlY h1) (ZgN h2)
theorem ZlZ {vs:List Value} {as:List (Sum Int (List Nat))} (h:Wq vs as):V2 vs=some as:=by
 induction h with
 | nil=>rfl
 | @cons v a vs as i _ ih =>
  show (match Qh v,V2 vs with | some a,some as=>some (a::as) | _,_=>none)=_
  rw [ih,show Qh v=some a by cases i <;> rfl]
def Xt:Sum Int (List Nat)→Bool
 | .inl _=>true
 | .inr _=>false
theorem Zcx:∀ {as bs:List (Sum Int (List Nat))},as.map Xt=bs.map Xt→Vx as bs
 | [],[],_=>.nil
 | .inl _::as,.inl _::bs,h=>.int (Zcx (by rw [List.map_cons,List.map_cons] at h;exact (List.cons.inj h).2))
 | .inr _::as,.inr _::bs,h=>.str (Zcx (by rw [List.map_cons,List.map_cons] at h;exact (List.cons.inj h).2))
 | .inl _::as,.inr _::bs,h=>by rw [List.map_cons,List.map_cons] at h;cases (List.cons.inj h).1
 | .inr _::as,.inl _::bs,h=>by rw [List.map_cons,List.map_cons] at h;cases (List.cons.inj h).1
 | [],_::_,h=>by cases h
 | _::_,[],h=>by cases h
def Zcy (h:Heap):Value→Option (List (Sum Int (List Nat)))
 | .ref a=>match h.get? a with
  | some o=>match o.data with
   | .seq xs _=>V2 xs.toList
   | _=>none
  | none=>none
 | _=>none
def UP (h:Heap) (sh:List Bool) (v:Value):Option (List (Sum Int (List Nat))):=match Zcy h v with
 | some as=>if as.map Xt=sh then some as else none
 | none=>none
@[reducible] def Zbu (h:Heap) (sh:List Bool):PyProof.Rows.KeyKind:={ ZgK WE with keyOf:=UP h sh,dflt:=([]:List (Sum Int (List Nat))) }
theorem ZgO {h:Heap} {sh:List Bool} {v:Value} {as:List (Sum Int (List Nat))} (e:UP h sh v=some as):as.map Xt=sh∧∃ a o xs n,v=.ref a∧h.get? a=some o∧o.data=.seq xs n∧Wq xs.toList as:=by
 unfold UP at e
 cases r:Zcy h v with
 | none=>rw [r] at e;cases e
 | some bs =>
  rw [r] at e
  dsimp only at e
  by_cases z:bs.map Xt=sh
  ·rw [if_pos z] at e
   cases e
   refine ⟨z,?_⟩
   cases v with
   | ref a =>
    have r:(match h.get? a with | some o=>(match o.data with | .seq xs _=>V2 xs.toList | _=>none) | none=>none)=some as:=r
    cases g:h.get? a with
    | none=>rw [g] at r;cases r
    | some o =>
     rw [g] at r
     dsimp only at r
     split at r
     ·rename_i xs n d
      exact ⟨a,o,xs,n,rfl,g,d,ZgN r⟩
     ·cases r
   | _=>cases r
  ·rw [if_neg z] at e;cases e
theorem Zl0 {prog:Program} {w:World} {A:Around} {s:Shared} {b:Bool} {sh:List Bool}:VZ prog w A s (tuples' b) (Zbu s.heap sh):=by
 intro E x y as bs Q hx hy h
 obtain ⟨e1,ax,ox,xs,n,rfl,gx,dx,ix⟩:=ZgO hx
 obtain ⟨e2,ay,oy,ys,k,rfl,gy,dy,iy⟩:=ZgO hy
 exact ZlX gx dx gy dy ix iy (Zcx (e1.trans e2.symm)) h
end L2
namespace L2
open PySem PySem.Spec PyProof.Rows
section
variable {X:Cx}
def Zl1 (K:PySem.W.Frag) (neg:Bool):R2:=fun x y H Q=>∃ l b xs,x=.ref l∧y=.ref b∧Zg K H l xs∧Zg K H b []∧Q (.bl (if neg then !xs.isEmpty else xs.isEmpty)) H
theorem Zcz (hu:X.A.units < cLine):Ys X (compareOp .NotEq) (Zl1 X.K true):=by
 intro pins s σ H x y v u Q I rx ry h
 obtain ⟨l,b,xs,rfl,rfl,hx,hy,q⟩:=h
 cases rx;cases ry
 obtain ⟨its,r,pl,_⟩:=I.list hx
 obtain ⟨its2,r2,pl2,_⟩:=I.list hy
 have l1:=r.length
 have l2:=r2.length
 cases xs with
 | nil =>
  refine SeqAt.RcNeAt.lists (e:=fun j=>Wy (([]:List V).getD j .non) (([]:List V).getD j .non)) pl.isList pl2.isList (by simp;simp at l1 l2;omega) hu (fun j h1 _=>by simp at h1 l1;omega) _ _ _ _ ?_
  rw [List.size_toArray,← l1,ZfH [] [] rfl]
  exact ⟨.bl _,H,I,rfl,q⟩
 | cons x r' =>
  refine SeqAt.RcNeAt.lists_lengths pl.isList pl2.isList (by simp;simp at l1 l2;omega) hu _ _ _ _ ?_
  exact ⟨.bl _,H,I,rfl,q⟩
end
section
variable {prog:Program} {w:World} {A:Around} {E:Value→Shared→Prop} {s:Shared}
end
def Itx (z:Str):It:=⟨fun i _=>i < z.cps.size,fun i H x H'=>H'=H∧∃ c,z.cps.toList[i]? = some c∧x=.str ⟨#[c]⟩,fun i _=>i=z.cps.size⟩
theorem ZgP {P:Program} {w:World} {K:PySem.W.Frag} {tg:Expr} (z:Str) (t:Tok) (it:Addr) (ty:String) (hty:["enumerate","zip","dict_itemiterator","dict_reverseitemiterator","odict_iterator","itertools.zip_longest","itertools.pairwise"].contains ty=false)
  (W:∀ A:Around,A.handled=none→Walks P w A it [it] [it] z.cps.size (SignAt z) (fun i h=>h.IsStrIter it ty z t i))
  (S:∀ (A:Around) (i:Nat) (s:Shared) (Q:Value→Shared→Prop) (E:Value→Shared→Prop),s.heap.IsStrIter it ty z t i→Q (.ref it) s→wpAny (model P w) A (pyIter (.ref it)) Q E s):UE P w K tg (Itx z) [it] it (fun i h=>h.IsStrIter it ty z t i) where
 mem:=by simp
 obj:=fun i h st b hb=>by
  have e:b=it:=by simpa using hb
  subst e
  obtain ⟨o,e,c,d⟩:=st
  exact ⟨o,e,fun v z=>by rw [d] at z;cases z⟩
 keep:=fun i h h' st k=>let ⟨o,ho,r⟩:=st;⟨o,k it (by simp) o ho,r⟩
 item:=by
  intro X hP hw hK hc i pins s σ H E I hf st hg
  subst hP hw hK
  obtain ⟨f0,f1,f2,f3,f4,f5⟩:=hf it (by simp)
  refine (W X.A (I.ok.hd hc)).item i s _ E hg st fun v h' tk hP st' hk=>?_
  obtain ⟨c,u,e1,rfl⟩:=hP
  have I1:Zf X pins σ H { s with heap:=h',toks:=tk }:=I.turned (t':=tk) (fun b o hb e=>hk b o (by simpa using hb) e) f0 f1 f3 f4 f5
  obtain ⟨o,e,c',d⟩:=id st'
  exact ⟨_,rfl,Zba (s:={ s with heap:=h',toks:=tk }) e c' d hty ⟨.str ⟨#[c]⟩,H,I1,⟨u,rfl⟩,⟨rfl,c,by simpa using e1,rfl⟩,st',fun b hb=>(hf b hb).1⟩⟩
 done:=by
  intro X hP hw hK hc i pins s σ H E I hf st hg
  subst hP hw hK
  obtain ⟨f0,f1,f2,f3,f4,f5⟩:=hf it (by simp)
  have hg:i=z.cps.size:=hg
  subst hg
  exact (W X.A (I.ok.hd hc)).done s _ E st fun h' tk hk=>⟨rfl,I.turned (t':=tk) (fun b o hb e=>hk b o (by simpa using hb) e) f0 f1 f3 f4 f5⟩
 self:=fun A i s Q E st h=>S A i s Q E st h
def Zl2 (tl:TE):TI:=fun σ H R=>tl σ H fun x H1=>∃ z,x=.str z∧R (Itx z) H1
theorem Zl3 {X:Cx} {tg l:Expr} {tl:TE} (hl:PE X l tl):PI X tg l (Zl2 tl):=by
 intro pins s σ H R I h
 refine Zv (hl pins s σ H _ I h) fun v s1 ⟨x,H1,I1,r1,z,e,q⟩=>?_
 subst e
 obtain ⟨t,rfl⟩:=r1
 have fin:∀ b∈[s1.heap.objs.size],YO X pins H1 b:=fun b hb=>by
  have e:b=s1.heap.objs.size:=by simpa using hb
  subst e
  exact I1.fpOk (Nat.le_refl _) (I1.hok.fresh (Nat.le_refl _))
 cases ha:z.cps.all (· < 128)
 ·refine wpAny_pyIter_wide ha ?_
  exact ⟨s1.heap.objs.size,[s1.heap.objs.size],_,_,H1,rfl,I1.kept (t':=s1.toks) fun b o e=>Heap.get?_push_of_some _ e,ZgP z t _ "str_iterator" (by decide) (fun A hh=>Walks.strWide hh _ z t) (fun A i s Q E st h=>wpAny_pyIter_striter_wide st h),⟨_,Heap.get?_push_size _ rfl,rfl,rfl⟩,fin,q⟩
 ·refine wpAny_pyIter_ascii ha ?_
  exact ⟨s1.heap.objs.size,[s1.heap.objs.size],_,_,H1,rfl,I1.kept (t':=s1.toks) fun b o e=>Heap.get?_push_of_some _ e,ZgP z t _ "str_ascii_iterator" (by decide) (fun A hh=>Walks.strAscii hh _ z t) (fun A i s Q E st h=>wpAny_pyIter_striter_ascii st h),⟨_,Heap.get?_push_size _ rfl,rfl,rfl⟩,fin,q⟩
theorem Zl4 {z:Str} {g:TG} {tt:TT} {te:TE} {σ0:St} {H:Hp} {Q:VK} (Pv:Nat→List V→St→Hp→Prop) (h0:Pv 0 [] σ0 H) (hz:z.length≤sizeLine)
  (hs:∀ i c acc σ H,acc.length≤i→z.cps.toList[i]? = some c→Pv i acc σ H→g (.str ⟨#[c]⟩) σ H fun σ2 H2=>tt σ2 H2 fun b H3=>if b=true then te σ2 H3 fun y H4=>(acc++[y]).length≤i+1∧Pv (i+1) (acc++[y]) σ2 H4 else acc.length≤i+1∧Pv (i+1) acc σ2 H3)
  (hd:∀ acc σ H,acc.length≤z.cps.size→Pv z.cps.size acc σ H→Vd Q acc H) :
  ∃ W:Nat→Nat→List V→St→Hp→Prop,(∃ m,W 0 m [] σ0 H)∧∀ i m acc σ1 H,W i m acc σ1 H →
   ((Itx z).stop i H∧Vd Q acc H) ∨
   ((Itx z).go i H∧acc.length < sizeLine∧∃ N:List V→St→Hp→Prop,(∀ acc' σ' H',N acc' σ' H'→∃ m',m' < m∧W (i+1) m' acc' σ' H')∧∀ x H',(Itx z).yld i H x H'→g x σ1 H' fun σ2 H2=>tt σ2 H2 fun b H3=>if b=true then te σ2 H3 fun y H4=>N (acc++[y]) σ2 H4 else N acc σ2 H3):=by
 refine ⟨fun i m acc σ H=>m=z.cps.size - i∧i≤z.cps.size∧acc.length≤i∧Pv i acc σ H,⟨z.cps.size,by simp,Nat.zero_le _,Nat.zero_le _,h0⟩,?_⟩
 rintro i m acc σ1 H ⟨rfl,hi,ha,p⟩
 have hz:z.cps.size≤sizeLine:=hz
 by_cases hlt:i < z.cps.size
 ·refine .inr ⟨hlt,by omega,fun acc' σ' H'=>acc'.length≤i+1∧Pv (i+1) acc' σ' H',fun acc' σ' H' z=>⟨_,by omega,rfl,hlt,z.1,z.2⟩,fun x H' y=>?_⟩
  obtain ⟨e,c,hc,y⟩:=y
  subst e y
  exact hs i c acc σ1 _ ha hc p
 ·have e:i=z.cps.size:=by omega
  subst e
  exact .inl ⟨rfl,hd acc σ1 H ha p⟩
end L2
namespace L2
open PySem PySem.Spec PyProof.Rows
section
variable {P:Program} {w:World} {cs:Addr→Option Obj} {H H':Hp} {h h':Heap} {b:Addr} {o:Obj} {fs:List Addr}
end
section
variable {P:Program} {w:World} {K:PySem.W.Frag} {mg:Str→Option Value} {base:Heap} {N:List Str} {qual:Str} {scope:Scope} {cl:List (Str×Addr)} {f:Addr} {cd:Value} {A:Around} {outer:List Env} {s:Shared} {H:Hp} {E:XK}
end
structure Zq6 (N:List Str) (scope:Scope) (cl:List (Str×Addr)) (vs:List V) (cs:Addr→Option Obj):Prop where
 len:vs.length=N.length
 val:∀ (i:Nat) (x:Str) (v:V),N[i]? = some x→vs[i]? = some v→∃ c o u,cl.lookup x=some c∧cs c=some o∧o.data=.cell (some u)∧ZC v u
 cell:∀ x c,cl.lookup x=some c→∃ o v,cs c=some o∧o.data=.cell v
 inj:∀ x y c,cl.lookup x=some c→cl.lookup y=some c→x=y
 has:∀ x,(scope.names.lookup x=some .cell∨scope.names.lookup x=some .free)→∃ c,cl.lookup x=some c
 fre:∀ x∈N,scope.names.lookup x=some .free
 dat:∀ b o,cs b=some o→∃ v,o.data=.cell v
structure Zq7 (FN:List (Str×Nat)) (cl:List (Str×Addr)) (cs:Addr→Option Obj) (σ:St) (H:Hp):Prop where
 free:∀ b o,cs b=some o→H b=none∧∃ v,o.data=.cell v
 cell:∀ x c,cl.lookup x=some c→∃ o v,cs c=some o∧o.data=.cell v
 val:∀ p∈FN,∀ v,σ[p.2]? = some (some v)→∃ c o u,cl.lookup p.1=some c∧cs c=some o∧o.data=.cell (some u)∧ZC v u
def ZgQ {α:Type} (P:α→Prop):List α→Prop
 | []=>True
 | a::r=>P a∧ZgQ P r
theorem ZgR {α:Type} {P:α→Prop}:∀ {l:List α},ZgQ P l→∀ a∈l,P a
 | _::_,h,a,m=>by
  rcases List.mem_cons.mp m with rfl | m
  ·exact h.1
  ·exact ZgR h.2 a m
end L2
namespace L2
open PySem PySem.Spec PyProof.Rows
inductive WF:List V→List (Sum Int (List Nat))→Prop
 | nil:WF [] []
 | int (i:Int) {vs:List V} {as:List (Sum Int (List Nat))}:WF vs as→WF (.int i::vs) (.inl i::as)
 | str (z:Str) {vs:List V} {as:List (Sum Int (List Nat))}:WF vs as→WF (.str z::vs) (.inr z.cps.toList::as)
theorem WF.its {zs:List V} {as:List (Sum Int (List Nat))} (h:WF zs as):∀ {its:List Value},Zy zs its→Wq its as:=by
 induction h with
 | nil=>intro its r;cases r;exact .nil
 | int i _ ih =>
  intro its r
  cases r with
  | cons a r=>obtain ⟨t,rfl⟩:=a;exact .cons (.int _ _) (ih r)
 | str z _ ih =>
  intro its r
  cases r with
  | cons a r=>obtain ⟨t,rfl⟩:=a;exact .cons (.str _ _) (ih r)
structure Ul (h:Heap) (k:Value) (as:List (Sum Int (List Nat))):Prop where
 ex:∃ a o xs n,k=.ref a∧h.get? a=some o∧o.cls=.type "tuple" ∧ o.data=.seq xs n∧Wq xs.toList as
theorem Ul.of {P:Program} {w:World} {H:Hp} {h:Heap} {l:Addr} {zs:List V} {as:List (Sum Int (List Nat))} (ok:Yc P w H h l (.tup zs)) (k:WF zs as):Ul h (.ref l) as:=by
 obtain ⟨_,its,r,o,ho,hc,n,hd⟩:=ok
 exact ⟨l,o,its.toArray,n,rfl,ho,hc,hd,by simpa using k.its r⟩
theorem Ul.at {h:Heap} {k:Value} {as:List (Sum Int (List Nat))} {sh:List Bool} (x:Ul h k as) (e:as.map Xt=sh):UP h sh k=some as:=by
 obtain ⟨a,o,xs,n,rfl,ho,hc,hd,it⟩:=x.ex
 have r:Zcy h (.ref a)=some as:=by
  show (match h.get? a with | some o=>(match o.data with | .seq xs _=>V2 xs.toList | _=>none) | none=>none)=some as
  rw [ho]
  dsimp only
  rw [hd]
  exact ZlZ it
 unfold UP
 rw [r]
 dsimp only
 rw [if_pos e]
theorem ZgS {α β:Type} {f:α→β}:∀ {l:List β} {T:List α},l.Perm (T.map f)→∃ T':List α,T'.Perm T∧T'.map f=l
 | [],T,h=>by
  have:T.map f=[]:=h.symm.eq_nil
  rw [List.map_eq_nil_iff] at this
  subst this
  exact ⟨[],.nil,rfl⟩
 | b::l,T,h=>by
  obtain ⟨t,ht,e⟩:=List.mem_map.mp (h.mem_iff.mp List.mem_cons_self)
  obtain ⟨A,B,rfl⟩:=List.append_of_mem ht
  have h2:(b::l).Perm (f t::(A++B).map f):=by
   refine h.trans ?_
   rw [List.map_append,List.map_cons,List.map_append]
   exact List.perm_middle
  rw [e] at h2
  obtain ⟨T',p,e'⟩:=ZgS h2.cons_inv
  exact ⟨t::T',(p.cons t).trans List.perm_middle.symm,by rw [List.map_cons,e,e']⟩
theorem Zl5 {ks us:List Value} (h:ks.length=us.length):ks.zip us=(List.range us.length).map fun i=>(ks.getD i Value.none,us.getD i Value.none):=by
 refine List.ext_getElem (by simp [h]) fun i h1 h2=>?_
 simp at h1 h2
 simp [h2,show i < ks.length by omega]
theorem ZgT {xs:List V} {us:List Value} (r:Zy xs us):∀ {is:List Nat},(∀ i∈is,i < xs.length)→Zy (is.map fun i=>xs.getD i .non) (is.map fun i=>us.getD i Value.none)
 | [],_=>.nil
 | i::is,h=>by
  have hi:=h i List.mem_cons_self
  obtain ⟨u,eu,ru⟩:=r.get (List.getElem?_eq_getElem hi)
  refine .cons ?_ (ZgT r fun j hj=>h j (List.mem_cons_of_mem _ hj))
  show ZC (xs.getD i .non) (us.getD i Value.none)
  rw [List.getD_eq_getElem?_getD,List.getD_eq_getElem?_getD,List.getElem?_eq_getElem hi,eu]
  exact ru
theorem Zl6 {M:Model} {A:Around} {E:Value→Shared→Prop} {s:Shared} {ks:List Value} {kf:Nat→List (Sum Int (List Nat))} {sh:List Bool} {Q:SortKind→Shared→Prop} (hk:∀ i k,ks[i]? = some k→Ul s.heap k (kf i)) (hsh:∀ i,i < ks.length→(kf i).map Xt=sh) (hne:sh≠[]) (h2:0 < ks.length)
  (h:∀ b,Q (tuples' b) s):wpAny M A (keyKind' ks.toArray) Q E s:=by
 obtain ⟨b,sh',rfl⟩:∃ b sh',sh=b::sh':=by
  cases sh with
  | nil=>exact absurd rfl hne
  | cons b sh'=>exact ⟨b,sh',rfl⟩
 have go:∀ (vs:List Value),(∀ k∈vs,∃ as,Ul s.heap k as∧as.map Xt=b::sh')→∃ fs:List Value,fs.length=vs.length∧PySem.W.KatTups s.heap vs fs∧∀ v∈fs,PySem.W.Looks M s.heap (typeOf v) (.type (if b=true then "int" else "str")):=by
  intro vs
  induction vs with
  | nil=>intro _;exact ⟨[],rfl,PySem.W.KatTups.nil,fun v hv=>by cases hv⟩
  | cons k vs ih =>
   intro hv
   obtain ⟨fs,el,t,ty⟩:=ih fun k' h'=>hv k' (List.mem_cons_of_mem _ h')
   obtain ⟨as,ko,es⟩:=hv k List.mem_cons_self
   obtain ⟨a,o,xs,n,rfl,ho,hc,hd,it⟩:=ko.ex
   generalize hx:xs.toList=xl at it
   cases it with
   | nil=>cases es
   | @cons v a1 vs1 as1 iv its =>
    have e1:Xt a1=b:=by rw [List.map_cons] at es;exact (List.cons.inj es).1
    refine ⟨v::fs,by rw [List.length_cons,List.length_cons,el],PySem.W.KatTups.cons ho hc hd (by rw [← Array.getElem?_toList,hx];rfl) t,fun u hu=>?_⟩
    rcases List.mem_cons.mp hu with rfl | hu
    ·cases iv with
     | int i t=>rw [← e1];exact PySem.W.Looks.of_pure rfl
     | str z t=>rw [← e1];exact PySem.W.Looks.of_pure rfl
    ·exact ty u hu
 obtain ⟨fs,el,t,ty⟩:=go ks fun k hm=>by
  obtain ⟨i,hi,e⟩:=List.getElem_of_mem hm
  exact ⟨kf i,hk i k (by rw [List.getElem?_eq_getElem hi,e]),hsh i hi⟩
 exact PySem.W.kat_kind t (by omega) ty (by cases b <;> rfl) (h _)
section
variable {X:Cx} {pins:List (Addr×Obj)} {σ:St} {H H':Hp} {s:Shared} {A:Around} {E:Value→Shared→Prop} {D S:Addr} {e e1:Nat} {ks us:List Value} {xs:List V} {kf:Nat→List (Sum Int (List Nat))} {sh:List Bool} {P:PySem.Fin→Shared→Prop}
def Qi (kf:Nat→List (Sum Int (List Nat))) (n:Nat) (is:List Nat):Prop:=is.Perm (List.range n)∧is.Pairwise fun i j=>YW WE (kf j) (kf i)=false
theorem ZgU {st:SortSt} {is:List Nat} (I:Zf X pins σ H' s) (fS:YO X pins H' S) (fD:YO X pins H' D) (hSD:S≠D) (gS:s.heap.get? S=some (seqObj "list" ks.toArray e)) (gD:s.heap.get? D=some (seqObj "list" #[] e1)) (h64:us.length < 64) (hl:ks.length=us.length)
  (har:(arrOf st).toList=is.map fun i=>(ks.getD i Value.none,us.getD i Value.none)) (hfl:failedOf st=none) (hlen:is.length=us.length)
  (h:∀ c s',Zf X pins σ H' s'→s'.heap.get? D=some (seqObj "list" (is.map fun i=>us.getD i Value.none).toArray c)→P (.done (.ret .none)) s'):wpAny (model X.prog X.w) A (ksk_tail D false e1 (.ref S) st) P E s:=by
 have hout:(arrOf st).map (·.2)=(is.map fun i=>us.getD i Value.none).toArray:=by
  apply Array.toList_inj.mp
  rw [Array.toList_map,har,List.map_map]
  rfl
 have s1:=Heap.SameBut.update s.heap S (Obj.mapSeq fun _=>(#[]:Array Value))
 have gD1:(s.heap.update S (Obj.mapSeq fun _=>(#[]:Array Value))).get? D=some (seqObj "list" #[] e1):=(s1.2 D hSD.symm).trans gD
 have s2:=Heap.SameBut.update (s.heap.update S (Obj.mapSeq fun _=>(#[]:Array Value))) D (Obj.mapSeq fun _=>(is.map fun i=>us.getD i Value.none).toArray)
 obtain ⟨c2,hc2⟩:∃ c2,((s.heap.update S (Obj.mapSeq fun _=>(#[]:Array Value))).update D (Obj.mapSeq fun _=>(is.map fun i=>us.getD i Value.none).toArray)).get? D=some (seqObj "list" (is.map fun i=>us.getD i Value.none).toArray c2) :=
  ⟨_,get?_update_seq gD1 fun _=>(is.map fun i=>us.getD i Value.none).toArray⟩
 unfold ksk_tail
 try dsimp only
 rw [hout]
 refine wpAny_bind (listUpdate_at gS rfl ?_ (by rw [List.size_toArray,sizeLine_eq];omega) (Nat.zero_le _))
 refine wpAny_bind (wpAny_letGo ?_)
 refine wpAny_bind (seqEpoch_at gD1 rfl ?_)
 simp only [Bool.false_eq_true,if_false]
 refine wpAny_bind (listUpdate_at gD1 rfl ?_ (Nat.zero_le _) (by rw [List.size_toArray,List.length_map,hlen,sizeLine_eq];omega))
 rw [hfl]
 simp only [bne_self_eq_false,Bool.false_eq_true,if_false]
 exact wpAny_pure (h c2 _ ((I.one (t':=s.toks) fS fun c o hc e=>(s1.2 c hc).trans e).one (t':=s.toks) fD fun c o hc e=>(s2.2 c hc).trans e) hc2)
theorem Zl7 (I:Zf X pins σ H' s) (fS:YO X pins H' S) (fD:YO X pins H' D) (hSD:S≠D) (gS:s.heap.get? S=some (seqObj "list" ks.toArray e)) (gD:s.heap.get? D=some (seqObj "list" #[] e1)) (h64:us.length < 64) (hl:ks.length=us.length)
  (hk:∀ i k,ks[i]? = some k→Ul s.heap k (kf i)) (hsh:∀ i,i < ks.length→(kf i).map Xt=sh) (hne:sh≠[])
  (h:∀ is c s',Qi kf us.length is→Zf X pins σ H' s'→s'.heap.get? D=some (seqObj "list" (is.map fun i=>us.getD i Value.none).toArray c)→P (.done (.ret .none)) s'):wpAny (model X.prog X.w) A (ksk_end D false us.toArray e1 (.ref S) ks.toArray) P E s:=by
 have hz:(ks.toArray.zip us.toArray).toList=(List.range us.length).map fun i=>(ks.getD i Value.none,us.getD i Value.none):=by rw [ksk_zip,← Zl5 hl]
 have hzs:(ks.toArray.zip us.toArray).size=us.length:=by simp [hl]
 have key:∀ i,i < us.length→UP s.heap sh (ks.getD i Value.none)=some (kf i):=fun i hi=>by
  have e:ks[i]? = some (ks.getD i Value.none):=by rw [List.getD_eq_getElem?_getD,List.getElem?_eq_getElem (by omega)];rfl
  exact (hk i _ e).at (hsh i (by omega))
 unfold ksk_end
 try dsimp only
 simp only [Bool.false_eq_true,if_false]
 by_cases h2:us.toArray.size < 2
 ·rw [if_pos h2,if_pos h2]
  refine wpAny_bind (wpAny_pure ?_)
  rw [StateT.run_pure]
  refine wpAny_bind (wpAny_pure ?_)
  try dsimp only
  refine ZgU (st:=SortSt.mk' general' (ks.toArray.zip us.toArray) #[] 7 none) (is:=List.range us.length) I fS fD hSD gS gD h64 hl hz rfl (by simp) fun c s' I' g=>h _ c s' ⟨.refl _,?_⟩ I' g
  rw [List.size_toArray] at h2
  rcases (show us.length=0∨us.length=1 by omega) with e | e
  ·rw [e];exact .nil
  ·rw [e];exact List.pairwise_singleton _ _
 ·rw [if_neg h2,if_neg h2]
  rw [List.size_toArray] at h2
  refine wpAny_bind (Zl6 hk hsh hne (by omega) fun b=>?_)
  refine wpAny_bind (wpAny_mono (ZlT (κ:=Zbu s.heap sh) (a₀:=ks.toArray.zip us.toArray) (st:=SortSt.mk' (tuples' b) (ks.toArray.zip us.toArray) #[] 7 none)
   (Q:=fun _ st'=>(arrOf st').Perm (ks.toArray.zip us.toArray)∧failedOf st'=none∧SortedToK (Zbu s.heap sh) (arrOf st') (ks.toArray.zip us.toArray).size)
   Zl0 (fun p hp=>?_) ⟨Array.Perm.refl _,rfl,rfl,rfl⟩ (by rw [hzs];omega) (by rw [hzs];exact h64) fun st' a1 a2 a3=>⟨a1,a2,a3⟩) ?_ fun _ _ e=>e)
  ·rw [hz] at hp
   obtain ⟨i,hi,rfl⟩:=List.mem_map.mp hp
   exact ⟨_,key i (List.mem_range.mp hi)⟩
  ·rintro ⟨⟨⟩,st'⟩ s' ⟨rfl,hp,hf,hs⟩
   try dsimp only at hp hf hs ⊢
   have hpl:(arrOf st').toList.Perm ((List.range us.length).map fun i=>(ks.getD i Value.none,us.getD i Value.none)):=by rw [← hz];exact Array.perm_iff_toList_perm.mp hp
   obtain ⟨is,pis,eis⟩:=ZgS hpl
   have hlen:is.length=us.length:=by rw [pis.length_eq,List.length_range]
   have mem:∀ i∈is,i < us.length:=fun i hi=>List.mem_range.mp (pis.mem_iff.mp hi)
   refine ZgU (is:=is) I fS fD hSD gS gD h64 hl eis.symm hf hlen fun c s2 I' g=>h is c s2 ⟨pis,?_⟩ I' g
   have kk:∀ i (hi:i < is.length),KK (Zbu s'.heap sh) (arrOf st') i=kf is[i]:=fun i hi=>by
    unfold KK
    have e:(arrOf st')[i]? = some (ks.getD is[i] Value.none,us.getD is[i] Value.none):=by
     rw [← Array.getElem?_toList,← eis,List.getElem?_map,List.getElem?_eq_getElem hi]
     rfl
    rw [e]
    show (UP s'.heap sh (ks.getD is[i] Value.none)).getD _=_
    rw [key _ (mem _ (List.getElem_mem hi))]
    rfl
   rw [List.pairwise_iff_getElem]
   intro i j hi hj hij
   have q:=hs i j (Nat.le_of_lt hij) (by rw [hzs];omega)
   rw [kk i hi,kk j hj] at q
   exact q
theorem Zl8 {f:Addr} (I:Zf X pins σ H s) (fS:YO X pins H S) (fD:YO X pins H D) (hSD:S≠D) (gS:s.heap.get? S=some (seqObj "list" #[] 0)) (gD:s.heap.get? D=some (seqObj "list" #[] e1)) (rv:Zy xs us) (h64:us.length < 64)
  (hsh:∀ i,i < us.length→(kf i).map Xt=sh) (hne:sh≠[])
  (turn:∀ (i:Nat) (v:V),xs[i]? = some v→∀ (H1:Hp) (u:Value) (pins':List (Addr×Obj)) (s':Shared),Zk H H1→ZC v u→Zf X pins' σ H1 s'→wpAny (model X.prog X.w) A (call (.ref f) [u]) (EP X pins' σ fun r H2=>Zk H1 H2∧∃ l zs,r=.ref l∧H2 l=some (.tup zs)∧WF zs (kf i)) (fun _ _=>False) s')
  (h:∀ is c s' H',Qi kf us.length is→Zk H H'→YO X pins H' D→Zf X pins σ H' s'→s'.heap.get? D=some (seqObj "list" (is.map fun i=>us.getD i Value.none).toArray c)→P (.done (.ret .none)) s'):wpAny (model X.prog X.w) A (ksk_rest D (.ref f) false us.toArray e1 (.ref S)) P E s:=by
 unfold ksk_rest
 refine wpAny_bind (wpAny_rule ?_)
 first
  | rw [List.forIn_toArray]
  | (rw [← Array.forIn_toList];simp only [List.toList_toArray])
  | rw [← Array.forIn_toList]
 refine wpAny_bind (ksk_fold (fun i s'=>∃ (H':Hp) (ks:List Value) (e:Nat),Zf X pins σ H' s'∧Zk H H'∧YO X pins H' S∧YO X pins H' D∧s'.heap.get? S=some (seqObj "list" ks.toArray e)∧s'.heap.get? D=some (seqObj "list" #[] e1)∧ks.length=i∧∀ j k,ks[j]? = some k→∃ l zs,k=.ref l∧H' l=some (.tup zs)∧WF zs (kf j)) us 0 s
  ⟨H,[],0,I,Zk.refl H,fS,fD,gS,gD,rfl,fun j k e=>by simp at e⟩ ?step ?done)
 case step =>
  rintro j u s' hu ⟨H1,ks,e,I1,S1,fS1,fD1,gS1,gD1,lk,hk⟩
  simp only [Nat.zero_add] at lk ⊢
  have hj:j < us.length:=(List.getElem?_eq_some_iff.mp hu).1
  obtain ⟨v,ev⟩:∃ v,xs[j]? = some v:=⟨_,List.getElem?_eq_getElem (by rw [rv.length];exact hj)⟩
  obtain ⟨u',eu',ru⟩:=rv.get ev
  rw [hu] at eu'
  obtain rfl:=Option.some.inj eu'
  have I2:Zf X (pins++[(S,seqObj "list" ks.toArray e),(D,seqObj "list" #[] e1)]) σ H1 s':=I1.pins_of fun q hq=>by
   rcases List.mem_append.mp hq with hq | hq
   ·exact I1.pin q (List.mem_append_right _ hq)
   ·rcases List.mem_cons.mp hq with rfl | hq
    ·exact ⟨gS1,fS1.1,fS1.2.1,fS1.2.2.1,fun v z=>by cases z⟩
    ·rw [List.mem_singleton.mp hq]
     exact ⟨gD1,fD1.1,fD1.2.1,fD1.2.2.1,fun v z=>by cases z⟩
  refine wpAny_bind (wpAny_attempt (wpAny_mono (turn j v ev H1 u _ s' S1 ru I2) (fun y s2 he=>?_) fun _ _ hF=>hF.elim))
  obtain ⟨vy,H2,J,ry,S2,l,zs,rfl,hl2,kis⟩:=he
  cases ry
  have J1:=J.unpinned
  have pS:=J.pin (S,seqObj "list" ks.toArray e) (List.mem_append_right _ (List.mem_append_right _ (.head _)))
  have pD:=J.pin (D,seqObj "list" #[] e1) (List.mem_append_right _ (List.mem_append_right _ (.tail _ (.head _))))
  have fS2:YO X pins H2 S:=⟨pS.2.1,fS1.2⟩
  have fD2:YO X pins H2 D:=⟨pD.2.1,fD1.2⟩
  have s1:=Heap.SameBut.update s2.heap S (Obj.mapSeq (·.push (Value.ref l)))
  have ea:ks.toArray.push (Value.ref l)=(ks++[Value.ref l]).toArray:=by simp
  obtain ⟨c2,hc2⟩:∃ c2,(s2.heap.update S (Obj.mapSeq (·.push (Value.ref l)))).get? S=some (seqObj "list" (ks++[Value.ref l]).toArray c2):=⟨_,by rw [← ea];exact get?_update_seq pS.1 (·.push (Value.ref l))⟩
  try dsimp only
  refine wpAny_bind (listUpdate_at pS.1 rfl ?_ (by rw [List.size_toArray,sizeLine_eq];omega) (Nat.le_trans (Nat.le_of_eq (Array.size_push ..)) (by rw [List.size_toArray,sizeLine_eq];omega)))
  refine wpAny_pure ⟨rfl,H2,ks++[Value.ref l],c2,J1.one (t':=s2.toks) fS2 fun c o hc e=>(s1.2 c hc).trans e,S1.trans S2,fS2,fD2,hc2,(s1.2 D hSD.symm).trans pD.1,by rw [List.length_append,List.length_singleton,lk],fun j' k ek=>?_⟩
  by_cases hj':j' < ks.length
  ·rw [List.getElem?_append_left hj'] at ek
   obtain ⟨l',zs',e1,e2,e3⟩:=hk j' k ek
   exact ⟨l',zs',e1,S2 _ _ e2,e3⟩
  ·rw [List.getElem?_append_right (by omega)] at ek
   have e0:j' - ks.length=0:=by
    have:=(List.getElem?_eq_some_iff.mp ek).1
    rw [List.length_singleton] at this
    omega
   rw [e0] at ek
   obtain rfl:=Option.some.inj ek
   exact ⟨l,zs,rfl,hl2,by rw [show j'=j by omega];exact kis⟩
 case done =>
  rintro s' ⟨H1,ks,e,I1,S1,fS1,fD1,gS1,gD1,lk,hk⟩
  try dsimp only
  refine wpAny_bind (listItems_at gS1 rfl ?_)
  rw [Nat.zero_add] at lk
  refine Zl7 I1 fS1 fD1 hSD gS1 gD1 h64 lk (fun i k ek=>?_) (fun i hi=>hsh i (by omega)) hne fun is c s2 o I' g=>h is c s2 H1 o S1 fD1 I' g
  obtain ⟨l,zs,rfl,e2,e3⟩:=hk i k ek
  exact Ul.of (I1.hok l _ e2) e3
theorem Zl9 {f:Addr} {n:Nat} (I:Zf X pins σ H s) (fD:YO X pins H D) (gD:s.heap.get? D=some (seqObj "list" us.toArray n)) (rv:Zy xs us) (h64:us.length < 64)
  (hsh:∀ i,i < us.length→(kf i).map Xt=sh) (hne:sh≠[])
  (turn:∀ (i:Nat) (v:V),xs[i]? = some v→∀ (H1:Hp) (u:Value) (pins':List (Addr×Obj)) (s':Shared),Zk H H1→ZC v u→Zf X pins' σ H1 s'→wpAny (model X.prog X.w) A (call (.ref f) [u]) (EP X pins' σ fun r H2=>Zk H1 H2∧∃ l zs,r=.ref l∧H2 l=some (.tup zs)∧WF zs (kf i)) (fun _ _=>False) s')
  (h:∀ is c s' H',Qi kf us.length is→Zk H H'→YO X pins H' D→Zf X pins σ H' s'→s'.heap.get? D=some (seqObj "list" (is.map fun i=>us.getD i Value.none).toArray c)→P (.done (.ret .none)) s'):wpAny (model X.prog X.w) A (ksk_tree D (.ref f) false) P E s:=by
 have hD:D < s.heap.objs.size:=Heap.lt_size gD
 have s1:=Heap.SameBut.update s.heap D (Obj.mapSeq fun _=>(#[]:Array Value))
 obtain ⟨e1,gD1⟩:∃ e1,(s.heap.update D (Obj.mapSeq fun _=>(#[]:Array Value))).get? D=some (seqObj "list" #[] e1):=⟨_,get?_update_seq gD fun _=>#[]⟩
 have I1:=I.one (t':=s.toks) fD fun c o hc e=>(s1.2 c hc).trans e
 have hkS:((s.heap.update D (Obj.mapSeq fun _=>(#[]:Array Value))).push (seqObj "tuple" us.toArray 0)).objs.size=s.heap.objs.size+1:=by rw [size_push',Heap.size_update]
 unfold ksk_tree
 refine wpAny_bind (listItems_at gD rfl ?_)
 refine wpAny_bind (listUpdate_at gD rfl ?_ (by rw [List.size_toArray,sizeLine_eq];omega) (Nat.zero_le _))
 refine wpAny_bind (seqEpoch_at gD1 rfl ?_)
 refine wpAny_bind (wpAny_newTuple ?_ (by show us.length≤_;rw [sizeLine_eq];omega))
 refine wpAny_bind (wpAny_newList ?_ (Nat.zero_le _))
 refine wpAny_holding ?_
 have nS:H (s.heap.objs.size+1)=none:=I.hok.fresh (by omega)
 refine Zl8 (s:={ s with heap:=((s.heap.update D (Obj.mapSeq fun _=>(#[]:Array Value))).push (seqObj "tuple" us.toArray 0)).push (seqObj "list" #[] 0) }) (S:=((s.heap.update D (Obj.mapSeq fun _=>(#[]:Array Value))).push (seqObj "tuple" us.toArray 0)).objs.size)
  (I1.kept (t':=s.toks) fun b u e=>Heap.get?_push_of_some _ (Heap.get?_push_of_some _ e)) (by rw [hkS];exact I.fpOk (by omega) nS) fD (by rw [hkS];exact Nat.ne_of_gt (Nat.lt_succ_of_lt hD)) (Heap.get?_push_size _ rfl) (Heap.get?_push_of_some _ (Heap.get?_push_of_some _ gD1)) rv h64 hsh hne turn h
theorem Zma {f p:Addr} {Q:VK} (I:Zf X pins σ H s) (hq:Zg X.K H p xs) (h64:xs.length < 64) (hsh:∀ i,i < xs.length→(kf i).map Xt=sh) (hne:sh≠[])
  (turn:∀ (i:Nat) (v:V),xs[i]? = some v→∀ (H1:Hp) (u:Value) (pins':List (Addr×Obj)) (s':Shared),Zk H H1→ZC v u→Zf X pins' σ H1 s'→wpAny (model X.prog X.w) X.A.in1.in1 (call (.ref f) [u]) (EP X pins' σ fun r H2=>Zk H1 H2∧∃ l zs,r=.ref l∧H2 l=some (.tup zs)∧WF zs (kf i)) (fun _ _=>False) s')
  (q:∀ (is:List Nat) (l:Addr) (H':Hp),Qi kf xs.length is→Zk H H'→H' l=none→H l=none→Q (.ref l) (Zd H' l (.lst (is.map fun i=>xs.getD i .non)))) :
  wpAny (model X.prog X.w) X.A (call (.builtin "sorted") [.ref p] [(Str.ofString "key",.ref f)]) (EP X pins σ Q) E s:=by
 obtain ⟨us,rv,pl,hz⟩:=I.list hq
 have hlen:=rv.length
 refine call_function_entry_kw kind_sorted plain_sorted entry_sorted (ksk_s1 _ _) ?_
 unfold Builtin.«sorted»
 refine wpAny_bind (m:=checkCount "sorted" 1 1 _) (wpAny_pure ?_)
 refine wpAny_bind (collect_list pl.isList ?_ (by rw [sizeLine_eq];omega))
 refine wpAny_bind (wpAny_newList ?_ (by rw [sizeLine_eq];omega))
 have hsz:((s.heap.push (seqObj "list" #[] 0)).update s.heap.objs.size (Obj.mapSeq (· ++ us.toArray))).objs.size=s.heap.objs.size+1:=by
  rw [Heap.size_update,size_push']
 have hoL:(((s.heap.push (seqObj "list" #[] 0)).update s.heap.objs.size (Obj.mapSeq (· ++ us.toArray))).push (seqObj "list" us.toArray 0)).get? (s.heap.objs.size+1)=some (seqObj "list" us.toArray 0):=by
  rw [← hsz];exact Heap.get?_push_size _ rfl
 have keep:∀ b o,s.heap.get? b=some o→(((s.heap.push (seqObj "list" #[] 0)).update s.heap.objs.size (Obj.mapSeq (· ++ us.toArray))).push (seqObj "list" us.toArray 0)).get? b=some o:=fun b o q=>by
  have hlt:b < s.heap.objs.size:=Heap.lt_size q
  rw [Heap.get?_push_ne _ _ _ (by rw [hsz];exact Nat.ne_of_lt (Nat.lt_succ_of_lt hlt)),Heap.get?_update_ne _ _ _ _ (Nat.ne_of_lt hlt),Heap.get?_push_ne _ _ _ (Nat.ne_of_lt hlt)]
  exact q
 show wpAny _ _ _ _ _ { s with heap:=((s.heap.push (seqObj "list" #[] 0)).update s.heap.objs.size (Obj.mapSeq (· ++ us.toArray))).push (seqObj "list" us.toArray 0) }
 rw [hsz]
 have I1:Zf X pins σ H { s with heap:=((s.heap.push (seqObj "list" #[] 0)).update s.heap.objs.size (Obj.mapSeq (· ++ us.toArray))).push (seqObj "list" us.toArray 0) }:=I.kept (t':=s.toks) keep
 have nD:H (s.heap.objs.size+1)=none:=I.hok.fresh (by omega)
 have fD:YO X pins H (s.heap.objs.size+1):=I.fpOk (by omega) nD
 refine wpAny_bind (wpAny_holding (wpAny_call_entry_kw slot_list_sort ⟨_,hoL,rfl⟩ entry_list_sort ?body (ksk_l1 _ _)))
 case body =>
  show wpAny _ X.A.in1.in1 (Builtin.«list.sort» ⟨[.ref (s.heap.objs.size+1)],[(Str.ofString "key",.ref f)]⟩) _ _ _
  rw [ksk_t1]
  refine Zl9 (xs:=xs) I1 fD hoL rv (by omega) (fun i hi=>hsh i (by omega)) hne turn fun is c s' H' io S' fD' I' g=>⟨_,rfl,wpAny_pure ⟨_,rfl,?_⟩⟩
  rw [← hlen] at io
  have hm:∀ i∈is,i < xs.length:=fun i hi=>List.mem_range.mp (io.1.mem_iff.mp hi)
  have zl:(is.map fun i=>xs.getD i .non).length≤sizeLine:=by rw [List.length_map,io.1.length_eq,List.length_range];exact hz
  have new:Yc X.prog X.w (Zd H' (s.heap.objs.size+1) (.lst (is.map fun i=>xs.getD i .non))) s'.heap (s.heap.objs.size+1) (.lst (is.map fun i=>xs.getD i .non)):=⟨zl,_,c,ZgT rv hm,g⟩
  exact ⟨.ref _,_,I'.trackS fD'.1 g rfl (Heap.get?_none_of_le (Nat.le_trans I.sz (Nat.le_succ _))) fD'.2.2.2.2.2 new,rfl,q is _ H' io S' fD'.1 nD⟩
end
def Zmb (K:PySem.W.Frag) (N:List Str) (qual:Str) (params:Arguments) (body:Expr) (scope:Scope) (te:TE) (t tk:TA):TE:=fun σ H Q=>t σ H fun vs H1=>tk σ H1 fun zs H2=>∃ (p f c':Addr) (pm ctv:Value) (xs:List V) (kf:Nat→List (Sum Int (List Nat))) (sh:List Bool),vs=[.ref p]∧zs=[.ref f]∧Zg K H2 p xs∧xs.length < 64 ∧
 (∀ i,i < xs.length→(kf i).map Xt=sh)∧sh≠[]∧H2 f=some (VY f qual params body scope pm c' ctv)∧H2 c'=some (VX c' qual) ∧
 (∀ (i:Nat) (v:V),xs[i]? = some v→∀ H3,Zk H2 H3→te (Wn N [v]) H3 fun r H'=>Zk H3 H'∧∃ l zs,r=.ref l∧H' l=some (.tup zs)∧WF zs (kf i)) ∧
 ∀ (is:List Nat) (l:Addr) (H':Hp),Qi kf xs.length is→Zk H2 H'→H' l=none→H2 l=none→Q (.ref l) (Zd H' l (.lst (is.map fun i=>xs.getD i .non)))
theorem ZgV {X:Cx} {e:Expr} {es:List Expr} {kws:List Keyword} {t tk:TA} {p pos:Pos} {k:Nat} {x:Str} {N:List Str} {qual:Str} {params:Arguments} {body:Expr} {scope:Scope} {te:TE} (hg:Gl X "sorted") (hm:X.mg "sorted" = none) (hv:bootBuiltins "sorted" = some (.builtin "sorted"))
  (hr:Yh (k+3) X.A) (S:ZM N [x] scope) (hb:∀ (pm:Value) (c':Addr) (ctv u:Value),bindArgs (PySem.W.kla_fn "<lambda>" qual params body scope [] pm (.ref c') ctv) ⟨[u],[]⟩=pure [(x,u)])
  (hbody:∀ (f c':Addr) (A:Around) (outer:List Env) (s:Shared) (H:Hp),Yh k (A.deeper (envOfC qual scope s.heap.objs.size f (.ref c')))→PE (Vb ZE X.prog X.w X.K X.mg X.base N qual scope f (.ref c') A outer s H E0) body te)
  (ha:PA X (e::es) t) (hkw:PK X kws tk) (hall:(backToKw pos (keywordEach kws X.env)).all (·.1.isSome)=true:=by rfl) (hks:(backToKw pos (keywordEach kws X.env)).filterMap (·.1)=[Str.ofString "key"]:=by rfl)
  (he:starEach (e::es) X.env=(false,eval e X.env)::starEach es X.env:=by rfl)
  (hpl:(backTo pos (starEach (e::es) X.env)).any (·.1)=false:=by rfl) (hpk:(backToKw pos (keywordEach kws X.env)).any (·.1.isNone)=false:=by rfl) :
  PE X (.Call (.Name "sorted" p) (e::es) kws pos) (Zmb X.K N qual params body scope te t tk):=by
 intro pins s σ H Q I h
 refine wpAny_Call_Name_kw (Uc I hg hm hv ?_ (by decide) (by decide))
 refine callWith_builtin_kwB hpl hpk (evalArgs_kw2 hall (Zv (ha pos pins s σ H _ I h) fun us s1 ⟨vs,H1,I1,r,q⟩=>?_) he)
 refine Zv (hkw pos pins s1 σ H1 _ I1 q) fun ws s2 ⟨zs,H2,I2,rz,q2⟩=>?_
 rw [hks]
 obtain ⟨l,f,c',pm,ctv,xs,kf,sh,rfl,rfl,hq,h64,hsh,hne,hf,hcd,turn,q3⟩:=q2
 obtain ⟨u,rfl,rx⟩:=Ww r
 cases rx
 obtain ⟨u,rfl,rx⟩:=Ww rz
 cases rx
 refine Zma I2 hq h64 hsh hne (fun i v ev H3 u pins' s' sm ru I'=>?_) q3
 have ho:=(I'.hok f _ (sm _ _ hf)).1
 have hcr:=(I'.hok c' _ (sm _ _ hcd)).1
 have e0:VQ X.prog X.w X.K X.mg X.base X.A.in1.in1 X.stack s' H3:={ I'.env0 with frames:=I'.env0.frames }
 refine wpAny_call (codeAny_mono (ZlL (E:=E0) S hr.in1.in1 e0 ho hcr (hb _ _ _ _) (.cons ru .nil) rfl (hbody f c' X.A.in1.in1 X.stack s' H3 (hr.in1.in1.deeper _)) (turn i v ev H3 sm)) fun r s3 hq3=>?_)
 cases r with
 | error e=>exact False.elim hq3
 | ok fl =>
  cases fl with
  | ret u=>exact I'.after hq3
  | next=>exact False.elim hq3
  | brk=>exact False.elim hq3
  | cont=>exact False.elim hq3
def Um (b:List Stmt) (i:Nat):Arguments×Expr×Scope×Pos:=match b[i]? with
 | some (.Return (some (.Call _ _ (kw::_) _)) _)=>match kw.value with
  | .Lambda a e sc p=>(a,e,sc,p)
  | _=>(⟨[],[],none,[],[],none,[]⟩,.Name "" ⟨0,0,0,0⟩,⟨.function,[],false,false,[]⟩,⟨0,0,0,0⟩)
 | _=>(⟨[],[],none,[],[],none,[]⟩,.Name "" ⟨0,0,0,0⟩,⟨.function,[],false,false,[]⟩,⟨0,0,0,0⟩)
end L2
namespace L2
open PySem PySem.Spec PyProof.Rows
theorem Zmc {P:Program} {w:World} {K:PySem.W.Frag} {mg mb:Str→Option Value} {CX:Wx} {k:Nat} {fa a:Addr} {Ts:List (Addr×Addr)} {fd:FuncData} {x:Str} {sp:Sp} {s₁:Shared} {vs:List Value} {ns:List Int}
  (KX:K.In s₁.heap) (hns:s₁.heap.Ns mainGlobals mg) (hb:s₁.heap.Ns builtinsNs mb) (hbb:∀ x:Str,x ≠ "__name__" → mb x=bootBuiltins x) (hlim:s₁.heap.NoLimit) (hg:s₁.gens = #[])
  (ha:s₁.heap.get? a=some { cls:=.type "list",data:=.seq vs.toArray }) (hi:IntsAre vs ns) (hl:ns.length≤sizeLine) (hr:Yh k callerA)
  (hTs:∀ p∈Ts,PySem.W.CodeHd s₁.heap p.1 p.2∧s₁.heap.get? p.2=some (PySem.W.tabObj #[])∧K.lookup p.2=none) (hbm:BM mg s₁.heap)
  (F:∀ base:Heap,K.In base→base.Ns mainGlobals mg→(∀ p∈Ts,PySem.W.CodeHd base p.1 p.2)→BM mg base→ZF P w K mg base CX k fa fd [x] sp) (hbind:∀ (s:Shared) (u:Value),BindsTo s fd ⟨[u],[]⟩ [(x,u)])
  (hsp:∀ H:Hp,(∀ p∈Ts,H p.2=some (.tbl #[]))→Zg K H a (ns.map V.int)→sp [.ref a] H (fun v _=>v=.bl true) fun _ _ _=>False)
  (hCX:∀ H e s',CX [] H s₁ (fun _ _ _=>False) e s'→False) :
  codeAny (model P w) callerA (.call (.ref fa) ⟨[.ref a],[]⟩) (fun r s'=>r=.ok (.ret (.bool true))∧OldK s₁.heap s'.heap∧s'.os=s₁.os∧AllBare s'.gens) s₁:=by
 have rv:=ZfF hi
 have lenV:=hi.length
 have inT:∀ {b:Addr},b∈Ts.map (·.2)→s₁.heap.get? b=some (PySem.W.tabObj #[])∧K.lookup b=none:=fun {b} hb=>by
  obtain ⟨p,hp,rfl⟩:=List.mem_map.mp hb
  exact (hTs p hp).2
 have aT:a∉Ts.map (·.2):=fun z=>by rw [(inT z).1] at ha;cases ha
 have core:∀ H:Hp,(∀ b,H b=none∨(b∈Ts.map (·.2)∧H b=some (.tbl #[]))∨∃ o xs,H b=some (.frz o (.lst xs)))→(∀ b∈Ts.map (·.2),H b=some (.tbl #[]))→Zg K H a (ns.map V.int)→Yy P w H s₁.heap→(∀ b,H b≠none→b=a∨b∈Ts.map (·.2))→(H a≠none→K.lookup a=none) →
   codeAny (model P w) callerA (.call (.ref fa) ⟨[.ref a],[]⟩) (fun r s'=>r=.ok (.ret (.bool true))∧OldK s₁.heap s'.heap∧s'.os=s₁.os∧AllBare s'.gens) s₁:=by
  intro H hO hHT hS hok hA hK
  have base_of:∀ {b:Addr} {o:Obj},s₁.heap.get? b=some o→H b=none→(W1 s₁.heap H).get? b=some o:=fun e n=>ZiO e n
  have noC:∀ {b:Addr} {o:Obj},s₁.heap.get? b=some o→o.cls≠.type "list" → o.cls≠.none→H b=none:=fun {b o} e n1 n2=>by
   cases q:H b with
   | none=>rfl
   | some u =>
    rcases hA b (by rw [q];simp) with rfl | hb
    ·rw [ha] at e;cases e;exact absurd rfl n1
    ·rw [(inT hb).1] at e;cases e;exact absurd rfl n2
  have noA:∀ {b:Addr} {o:Obj} {es:Array DictEntry} {ep:Nat},s₁.heap.get? b=some o→o.data=.dict es ep→H b=none:=fun {b o es ep} e d=>by
   cases q:H b with
   | none=>rfl
   | some u =>
    rcases hA b (by rw [q];simp) with rfl | hb
    ·rw [ha] at e;cases e
     have d':Data.seq vs.toArray _=Data.dict es ep:=d
     cases d'
    ·rw [(inT hb).1] at e;cases e;cases d
  have nsK:∀ {b:Addr} {m:Str→Option Value},s₁.heap.Ns b m→(W1 s₁.heap H).Ns b m:=fun {b m} ⟨o,es,ep,e,d,r⟩=>⟨o,es,ep,base_of e (noA e d),d,r⟩
  have hKb:K.In (W1 s₁.heap H):=fun b o e=>base_of (KX b o e) (by
   cases q:H b with
   | none=>rfl
   | some u =>
    rcases hA b (by rw [q];simp) with rfl | hb
    ·rw [hK (by rw [q];simp)] at e;cases e
    ·rw [(inT hb).2] at e;cases e)
  have hCb:∀ p∈Ts,PySem.W.CodeHd (W1 s₁.heap H) p.1 p.2:=fun p hp=>by
   obtain ⟨o,ws,file,tf,flags,tg,inF,text,tt,e,hc,r⟩:=(hTs p hp).1
   exact ⟨o,ws,file,tf,flags,tg,inF,text,tt,base_of e (noC e (by rw [hc];exact fun z=>absurd (Value.type.inj z) (by decide)) (by rw [hc];intro z;cases z)),hc,r⟩
  have hBb:BM mg (W1 s₁.heap H):=by
   obtain ⟨bm,ob,b1,b2,b3,b4,b5,b6⟩:=hbm
   exact ⟨bm,ob,b1,b2,b3,base_of b4 (noC b4 (by rw [b5];exact fun z=>absurd (Value.type.inj z) (by decide)) (by rw [b5];intro z;cases z)),b5,b6⟩
  have hM:Mod K mg (W1 s₁.heap H):=⟨hKb,nsK hns,⟨mb,nsK hb,hbb⟩,let ⟨mc,h1,h2⟩:=hlim;⟨mc,nsK h1,h2⟩⟩
  have e0:VQ P w K mg (W1 s₁.heap H) callerA [] s₁ H:=⟨rfl,hM,fun b o e=>ZiP e,Nat.le_of_eq (ZiN _ _),trivial,fun b hb=>absurd (show b∈([]:List Addr) from hb) (by simp),hok,.of_eq hg⟩
  refine codeAny_mono ((F _ hKb (nsK hns) hCb hBb).run callerA [] s₁ H ⟨[.ref a],[]⟩ [.ref a] [.ref a] _ _ hr e0 (hbind s₁ (.ref a)) (.cons rfl .nil) (hsp H (fun p hp=>hHT p.2 (List.mem_map.mpr ⟨p,hp,rfl⟩)) hS)) fun r s' h=>?_
  cases r with
  | error e=>exact (hCX H e s' h).elim
  | ok fl =>
   cases fl with
   | next=>exact False.elim h
   | brk=>exact False.elim h
   | cont=>exact False.elim h
   | ret u =>
    obtain ⟨v,H',os,bare,un,hok',r',q⟩:=h
    have q':v=.bl true:=q
    subst q'
    obtain rfl:u=Value.bool true:=r'
    have keep:∀ b o,b∉Ts.map (·.2)→s₁.heap.get? b=some o→s'.heap.get? b=some o:=fun b o nT e=>by
     cases q:H b with
     | none=>exact un.keep b o e q (by intro z;exact absurd (show b∈([]:List Addr) from z) (by simp)) (by simp)
     | some u =>
      rcases hO b with z | ⟨z,_⟩ | ⟨ob,xs,z⟩
      ·rw [q] at z;cases z
      ·exact absurd z nT
      ·have z2:=un.frzs b ob _ z
       obtain ⟨e1,_⟩:=hok b _ z
       obtain ⟨e2,_⟩:=hok' b _ z2
       rw [e] at e1;cases e1
       exact e2
    have gT:∀ b∈Ts.map (·.2),∃ more:Array Value,s'.heap.get? b=some { cls:=.none,data:=.fields (#[]++more) }:=fun b hb=>by
     obtain ⟨more,hm⟩:=un.tbls b _ (hHT b hb)
     exact ⟨more,hok' b _ hm⟩
    refine ⟨rfl,⟨fun b o e=>?_,fun b o e=>?_⟩,os,bare⟩
    ·by_cases z:b∈Ts.map (·.2)
     ·obtain ⟨more,g⟩:=gT b z
      obtain ⟨p,hp,rfl⟩:=List.mem_map.mp z
      obtain ⟨C,hT,_⟩:=hTs p hp
      rw [hT] at e
      obtain rfl:=Option.some.inj e
      exact .inr (.inl ⟨(C.tab hT).isCodeTable,rfl,#[],more,rfl,g⟩)
     ·exact .inl (keep b o z e)
    ·by_cases z:b∈Ts.map (·.2)
     ·obtain ⟨more,g⟩:=gT b z
      exact ⟨_,g⟩
     ·exact ⟨o,keep b o z e⟩
 cases hk:K.lookup a with
 | some o =>
  have e:=KX a o hk
  rw [ha] at e
  cases e
  refine core (fun b=>if b∈Ts.map (·.2) then some (.tbl #[]) else none) (fun b=>?_) (fun b hb=>if_pos hb) (.inr ⟨_,vs.toArray,_,hk,rfl,rfl,rfl,by rw [List.size_toArray,lenV];exact hl,by simpa using rv⟩) (fun b u z=>?_) (fun b z=>?_) fun z=>absurd (if_neg aT) z
  ·by_cases hb:b∈Ts.map (·.2)
   ·exact .inr (.inl ⟨hb,if_pos hb⟩)
   ·exact .inl (if_neg hb)
  ·by_cases hb:b∈Ts.map (·.2)
   ·have z':=(if_pos hb).symm.trans z
    cases z'
    exact (inT hb).1
   ·have z':=(if_neg hb).symm.trans z
    cases z'
  ·by_cases hb:b∈Ts.map (·.2)
   ·exact .inr hb
   ·exact absurd (if_neg hb) z
 | none =>
  have at1:∀ b,b∉Ts.map (·.2)→b≠a→(fun b=>if b∈Ts.map (·.2) then some (HO.tbl #[]) else if b=a then some (.frz { cls:=.type "list",data:=.seq vs.toArray } (.lst (ns.map V.int))) else none) b=none:=fun b h1 h2=>by
   show (if b∈Ts.map (·.2) then _ else if b=a then _ else _)=none
   rw [if_neg h1,if_neg h2]
  have at2:(fun b=>if b∈Ts.map (·.2) then some (HO.tbl #[]) else if b=a then some (.frz { cls:=.type "list",data:=.seq vs.toArray } (.lst (ns.map V.int))) else none) a=some (.frz { cls:=.type "list",data:=.seq vs.toArray } (.lst (ns.map V.int))):=by
   show (if a∈Ts.map (·.2) then _ else if a=a then _ else _)=_
   rw [if_neg aT,if_pos rfl]
  refine core (fun b=>if b∈Ts.map (·.2) then some (.tbl #[]) else if b=a then some (.frz { cls:=.type "list",data:=.seq vs.toArray } (.lst (ns.map V.int))) else none) (fun b=>?_) (fun b hb=>if_pos hb) (.inl (.inr ⟨{ cls:=.type "list",data:=.seq vs.toArray },at2⟩)) (fun b u z=>?_) (fun b z=>?_) fun _=>hk
  ·by_cases h1:b∈Ts.map (·.2)
   ·exact .inr (.inl ⟨h1,if_pos h1⟩)
   ·by_cases h2:b=a
    ·subst h2;exact .inr (.inr ⟨_,_,at2⟩)
    ·exact .inl (at1 b h1 h2)
  ·by_cases h1:b∈Ts.map (·.2)
   ·have z':=(if_pos h1).symm.trans z
    cases z'
    exact (inT h1).1
   ·by_cases h2:b=a
    ·subst h2
     have z':=at2.symm.trans z
     cases z'
     exact ⟨ha,by rw [List.length_map];exact hl,vs,_,rv,ha⟩
    ·have z':=(at1 b h1 h2).symm.trans z
     cases z'
  ·by_cases h1:b∈Ts.map (·.2)
   ·exact .inr h1
   ·by_cases h2:b=a
    ·exact .inl h2
    ·exact absurd (at1 b h1 h2) z
theorem Zmd {l:PySem.W.OpenLaw} {n k:Nat} {q:Program} {loose:List Str} {XP:(Str→Option Value)→Heap→Prop} {YP:World→Heap→Prop} {d:DefRec} {K:Params→PySem.W.Frag} {CX:Wx} {sp:PySem.W.Frag→List Addr→Sp} {x:Str} {ts:List Addr}
  (hn:l.most=some n) (hn2:n≤sizeLine) (hdf:d.params.defaults=[]) (hr:Yh k callerA)
  (hY:∀ (w:World) (h:Heap),YP w h→(K w.params).In h∧∀ P∈ts,h.get? P=some (PySem.W.tabObj #[]))
  (F:∀ (u:List Addr),u=ts→∀ (w:World) (mg:Str→Option Value) (fa:Addr) (h:Heap),(K w.params).In h→h.Ns mainGlobals mg→mg d.name=some (.ref fa) →
   ∃ Ts:List (Addr×Addr),(∀ p∈Ts,(PySem.W.codeHdIn (K w.params) p.1 p.2=true∧p.2∈u)∧(K w.params).lookup p.2=none)∧∃ fd:FuncData,(∀ (s:Shared) (u:Value),BindsTo s fd ⟨[u],[]⟩ [(x,u)]) ∧
    ∀ base:Heap,(K w.params).In base→base.Ns mainGlobals mg→(∀ p∈Ts,PySem.W.CodeHd base p.1 p.2)→BM mg base→ZF l.prog w (K w.params) mg base CX k fa fd [x] (sp (K w.params) (Ts.map (·.2))))
  (hsp:∀ (K:PySem.W.Frag) (Ts:List Addr) (H:Hp) (a:Addr) (ns:List Int),ns.length≤n→(∀ T∈Ts,H T=some (.tbl #[]))→Zg K H a (ns.map V.int)→sp K Ts [.ref a] H (fun v _=>v=.bl true) fun _ _ _=>False)
  (hCX:∀ (H:Hp) (s:Shared) (e:Value) (s':Shared),CX [] H s (fun _ _ _=>False) e s'→False) :
  PySem.W.WalkO q loose XP YP l.row.toRowW d [] (fun f vs=>PySem.call f vs):=by
 refine Att.attach_call hn hdf fun w s₀ s₁ mg mb fa o pm cd doc a vs ns G Y ho hd hcd hmg hobj hints hlen hg=>?_
 obtain ⟨KX,hts⟩:=hY w _ Y
 obtain ⟨Ts,ht,fd,hb,hF⟩:=F ts rfl w mg fa _ KX G.T.g hmg
 have hTs:∀ p∈Ts,PySem.W.CodeHd s₁.heap p.1 p.2∧s₁.heap.get? p.2=some (PySem.W.tabObj #[])∧(K w.params).lookup p.2=none:=fun ⟨c,T⟩ hp=>by
  obtain ⟨⟨h1,h2⟩,h3⟩:=ht (c,T) hp
  exact ⟨PySem.W.codeHd_of_K KX h1,hts _ h2,h3⟩
 obtain ⟨bm,ob,b1,b2,b3,b4,b5,b6⟩:=G.T.bmain
 have hbG:bm≠mainGlobals:=fun z=>by
  obtain ⟨o',es,ep,e,hd',_⟩:=G.T.g
  rw [z,e] at b3;cases b3;rw [hd'] at b6;cases b6
 exact Zmc KX G.T.g G.T.b G.T.builtins G.T.nolimit hg hobj hints (Nat.le_trans hlen hn2) hr hTs ⟨bm,ob,b1,b2,hbG,b3,b4,b5,b6⟩ hF hb (fun H hH hS=>hsp _ _ H a ns hlen (fun T hT=>by obtain ⟨p,hp,rfl⟩:=List.mem_map.mp hT;exact hH p hp) hS) fun H e s'=>hCX H s₁ e s'
theorem WG {α:Type} {P:List α→Prop} (h:∀ a0,P [a0]):∀ us:List α,us.length=1→P us
 | [a0],_=>h a0
theorem Xe {α:Type} {P:List α→Prop} (h:∀ a0 a1,P [a0,a1]):∀ us:List α,us.length=2→P us
 | [a0,a1],_=>h a0 a1
theorem WH {α:Type} {P:List α→Prop} (h:∀ a0 a1 a2,P [a0,a1,a2]):∀ us:List α,us.length=3→P us
 | [a0,a1,a2],_=>h a0 a1 a2
theorem Qj {α:Type} {P:List α→Prop} (h:∀ a0 a1 a2 a3,P [a0,a1,a2,a3]):∀ us:List α,us.length=4→P us
 | [a0,a1,a2,a3],_=>h a0 a1 a2 a3
theorem on5 {α:Type} {P:List α→Prop} (h:∀ a0 a1 a2 a3 a4,P [a0,a1,a2,a3,a4]):∀ us:List α,us.length=5→P us
 | [a0,a1,a2,a3,a4],_=>h a0 a1 a2 a3 a4
end L2
namespace L2
open PySem PySem.Spec PyProof.Rows
theorem ZgW {K β:Type} [DecidableEq K]:∀ {xs:List (K×β)} {j:Nat} {k:K} {p:β},(xs.map (·.1)).Nodup→xs[j]? = some (k,p)→xs.eraseIdx j=xs.filter fun x=>decide (x.1≠k)
 | [],_,_,_,_,h=>by simp at h
 | x::xs,0,k,p,hn,h=>by
  have e:x=(k,p):=Option.some.inj h
  subst e
  rw [List.map_cons,List.nodup_cons] at hn
  rw [List.eraseIdx_cons_zero,List.filter_cons,if_neg (by simp)]
  refine (List.filter_eq_self.mpr fun y hy=>?_).symm
  have ne:y.1≠k:=fun z=>hn.1 (by rw [← z];exact List.mem_map.mpr ⟨y,hy,rfl⟩)
  simpa using ne
 | x::xs,j+1,k,p,hn,h=>by
  rw [List.map_cons,List.nodup_cons] at hn
  have h':xs[j]? = some (k,p):=by simpa using h
  have ne:x.1≠k:=fun z=>hn.1 (by rw [z];exact List.mem_map.mpr ⟨(k,p),List.mem_of_getElem? h',rfl⟩)
  rw [List.eraseIdx_cons_succ,List.filter_cons,if_pos (by simpa using ne),ZgW hn.2 h']
theorem ZgX {α β:Type} (f:α→β):∀ (xs:List α) (j:Nat),(xs.map f).eraseIdx j=(xs.eraseIdx j).map f
 | [],_=>rfl
 | x::xs,0=>rfl
 | x::xs,j+1=>by
  rw [List.map_cons,List.eraseIdx_cons_succ,List.eraseIdx_cons_succ,List.map_cons,ZgX f xs j]
section
variable {prog:Program} {w:World} {K:Type} [DecidableEq K] {knd:HeapKind prog w K} {A:Around} {E:Value→Shared→Prop} {s:Shared} {d a:Addr} {k:K} {xs:List (K×Addr×Value)}
def ZaD (xs:List (K×Addr×Value)) (k:K):List (K×Addr×Value):=xs.filter fun x=>decide (x.1≠k)
theorem Zme {Q:Option DictEntry→Shared→Prop} (hu:knd.room A) (hkey:knd.is s.heap k a) (hm:s.heap.DictOfH knd d xs) (hsz:xs.length≤sizeLine)
  (hnone:(atKey xs k).map (·.2)=none→Q none { s with toks:=s.toks+knd.draws k })
  (hsome:∀ e,(atKey xs k).map (·.2)=some e.val→∀ h',h'.DictOfH knd d (ZaD xs k)→Heap.SameBut d s.heap h'→Q (some e) { s with heap:=h',toks:=s.toks+knd.draws k }) :
  wpAny (model prog w) A (Builtin.Dict.takeOut d (.ref a)) Q E s:=by
 obtain ⟨o,es,ep,ho,hc,hd,he,his,hn⟩:=hm
 unfold Builtin.Dict.takeOut
 try with_reducible refine wpAny_holding ?_
 refine wpAny_bind (knd.pyHash hu hkey (wpAny_bind (wpAny_dictFind_heap (s:={ s with toks:=s.toks+knd.draws k }) hu hkey ho hd he his hn ?_ ?_)))
 ·intro hno
  exact wpAny_pure (hnone (by rw [atKey_none_of_get hno];rfl))
 ·intro j p hj
  refine wpAny_bind (wpAny_dictEntries (s:={ s with toks:=s.toks+knd.draws k }) ho hd ?_)
  rw [entry_at he j,hj]
  refine wpAny_bind (wpAny_updateDictKeys (hz:=by have e:=size_of_entries he;omega) (s:={ s with toks:=s.toks+knd.draws k }) ho hd (wpAny_pure (hsome _ (by rw [atKey_of_get hn hj];rfl) _ ⟨_,_,ep+1,Heap.get?_update_self _ ho (Obj.isFreed_of_dict (Obj.data_mapDictKeys hd _)),
   hc.mapDictKeys _,Obj.data_mapDictKeys hd _,?_,?_,?_⟩ (Heap.SameBut.update ..))))
  ·have e1:(es.eraseIdxIfInBounds j).toList=es.toList.eraseIdx j:=by
    obtain ⟨l⟩:=es
    simp
   rw [e1,he,ZgX,ZgW hn hj]
   rfl
  ·intro x hx
   exact knd.keeps (his x ((List.mem_filter.mp hx).1)) ho hd (Heap.SameBut.update ..)
  ·unfold ZaD
   exact List.Nodup.sublist (List.Sublist.map _ List.filter_sublist) hn
theorem Zmf (knd:HeapKind prog w K) (d a:Addr) (hd:(d == sysModules)=false) (dflt:Value) :
  MeetsIn prog w (Builtin.«dict.pop» ⟨[.ref d,.ref a,dflt],[]⟩) (fun A R s=>knd.room A.in1∧∃ k xs,knd.is s.heap k a∧s.heap.DictOfH knd d xs∧xs.length≤sizeLine ∧
   ((atKey xs k).map (·.2)=none→∀ t,R (.ok (.ret dflt)) { s with toks:=t }) ∧
   ∀ v,(atKey xs k).map (·.2)=some v→∀ h' t,h'.DictOfH knd d (ZaD xs k)→Heap.SameBut d s.heap h'→R (.ok (.ret v)) { s with heap:=h',toks:=t }) :=
 .of_wp fun A R s ⟨hu,k,xs,hkey,hm,hsz,h1,h2⟩=>by
  unfold Builtin.«dict.pop»
  refine wpAny_bind ?_
  unfold Builtin.Dict.keyAndDefault
  refine wpAny_bind (wpAny_notOrdered_dict hm.typeIs ?_)
  show wpAny _ _ (pure (d,Value.ref a,some dflt)) _ _ s
  refine wpAny_pure ?_
  obtain ⟨o,es,ep,ho,hc,hdt,he,his,hn⟩:=id hm
  dsimp only
  rw [if_neg (show ¬ (keyPart (Value.ref a)).isSome=true by simp [keyPart])]
  refine wpAny_bind (wpAny_dictEntries ho hdt (wpAny_bind (wpAny_pure ?_)))
  cases hem:es.isEmpty with
  | true =>
   have e0:xs=[]:=by
    have:=size_of_entries he
    have z:es.size=0:=by simpa using hem
    exact List.length_eq_zero_iff.mp (by omega)
   subst e0
   simp only [if_true]
   refine wpAny_bind (wpAny_rule (wpAny_bind (wpAny_pure ?_)))
   simp only [Option.isNone_none,if_true]
   refine wpAny_bind (wpAny_missedRemoval_other hd ?_)
   exact wpAny_bind (wpAny_rule (wpAny_pure ⟨dflt,rfl,h1 rfl _⟩))
  | false =>
   simp only [Bool.false_eq_true,if_false]
   refine wpAny_bind (Zme hu hkey hm hsz (fun hn=>?_) fun e he' h' dd hs=>?_)
   ·simp only [Option.isNone_none,if_true]
    refine wpAny_bind (wpAny_missedRemoval_other hd ?_)
    exact wpAny_bind (wpAny_rule (wpAny_pure ⟨dflt,rfl,h1 hn _⟩))
   ·simp only [Option.isNone_some,Bool.false_eq_true,if_false]
    exact wpAny_bind (wpAny_letGo (wpAny_pure ⟨e.val,rfl,h2 _ he' h' _ dd hs⟩))
end
theorem KT.drop {H:Hp} {kvs:List (List Zt×V)} {xs:List (List Zt×Addr×Value)} (r:KT H kvs xs) (k:List Zt):KT H (Vu kvs k) (ZaD xs k):=by
 unfold Vu ZaD
 induction r with
 | nil=>exact .nil
 | @cons p q ps qs h t ih =>
  rw [List.filter_cons,List.filter_cons,← h.1]
  by_cases e:p.1=k
  ·rw [if_neg (by simpa using e),if_neg (by simpa using e)];exact ih
  ·rw [if_pos (by simpa using e),if_pos (by simpa using e)];exact .cons h ih
theorem Zmg {X:Cx} {pins:List (Addr×Obj)} {σ:St} {H:Hp} {s:Shared} {a b:Addr} {kvs:List (List Zt×V)} {k:List Zt} {r:Value} {A:Around} {E:Value→Shared→Prop} {Q:Value→Shared→Prop} (hu:A.units+1 < cLine) (I:Zf X pins σ H s) (e:H a=some (.dT kvs)) (eb:H b=some (.tup (k.map kV)))
  (h1:ZA kvs k=none→∀ s',Zf X pins σ H s'→Q r s') (h2:∀ v,ZA kvs k=some v→∀ w' s',Zf X pins σ (Zd H a (.dT (Vu kvs k))) s'→ZC v w'→Q w' s'):wpAny (model X.prog X.w) A (call (.builtin "dict.pop") [.ref a,.ref b,r]) Q E s:=by
 obtain ⟨zl,hd,xs,rel,dd⟩:=Zgo I.hok e
 refine call_meetsIn PySem.F.slot_dict_pop dd.typeIs PySem.F.entry_dict_pop (PySem.F.args_dict_pop_3 _ _ _) (Zmf (tupleKind (Xy X.prog X.w)) a b hd r) ⟨tupleKind_room_in1 hu,k,xs,UM I.hok eb,dd,by rw [← Paired.length rel];exact zl,fun hn t=>?_,fun v hv h' t dd' hs=>?_⟩
 ·have q:Xp (ZA kvs k) none:=by rw [← hn];exact rel.val k
  refine h1 ?_ _ (I.tok t)
  cases c:ZA kvs k with
  | none=>rfl
  | some v=>rw [c] at q;exact q.elim
 ·have q:Xp (ZA kvs k) (some v):=by rw [← hv];exact rel.val k
  obtain ⟨q0,es,ep,hq,g2,g3,g4,_,g5⟩:=dd'
  cases c:ZA kvs k with
  | none=>rw [c] at q;exact q.elim
  | some v' =>
   rw [c] at q
   refine h2 v' c v _ (Zbq I (by rw [e];exact True.intro) hs ⟨q0,hq⟩ ⟨Nat.le_trans (Zgk kvs k) zl,hd,_,(rel.drop k).keeps fun c ys ec=>?_,q0,es,ep,hq,g2,g3,g4,g5⟩) q
   rw [Zl (YL ec e (fun z=>nomatch z))]
   exact ec
def Zmh (td ty tx:TE):TE:=fun σ H Q=>td σ H fun x H1=>∃ a,x=.ref a∧IsD H1 a∧ty σ H1 fun y H2=>tx σ H2 fun z H3=>∃ kvs k b,H3 a=some (.dT kvs)∧y=.ref b∧H3 b=some (.tup (k.map kV)) ∧
 (∀ v,ZA kvs k=some v→Q v (Zd H3 a (.dT (Vu kvs k))))∧(ZA kvs k=none→Q z H3)
theorem Zmi {X:Cx} {o e f:Expr} {apos cpos:Pos} {td ty tx:TE} (hu:X.A.units+1 < cLine) (ho:PE X o td) (he:PE X e ty) (hf:PE X f tx) (m:M2 X o "pop" apos e f cpos):PE X (.Call (.Attribute o "pop" apos) [e,f] [] cpos) (Zmh td ty tx):=by
 intro pins s σ H Q I h
 refine wpAny_Call_method m.base m.few m.line PySem.F.plainAttrs_dict PySem.F.slot_dict_pop PySem.F.type_dict_pop (Zv (ho pins s σ H _ I h) fun u s1 ⟨x,H1,I1,rx,a,ex,d,q1⟩=>?_)
 subst ex
 obtain rfl:u=Value.ref a:=rx
 obtain ⟨t1,t2,_⟩:=Zgt I1 d
 refine ⟨t1,t2,?_⟩
 rw [m.trees]
 refine Calls.callWith_builtin rfl (Calls.evalArgs_plain (Calls.spliced_cons (Zv (he pins s1 σ H1 _ I1 q1) fun iv s2 ⟨y,H2,I2,ry,q2⟩ =>
  Calls.spliced_cons (Zv (hf pins s2 σ H2 _ I2 q2) fun fv s3 ⟨z,H3,I3,rz,kvs,k,b,ea,ey,eb,q3,q4⟩=>Calls.spliced_nil ?_))))
 subst ey
 cases (show iv=Value.ref b from ry)
 exact Zmg hu I3 ea eb (fun l s4 I4=>⟨z,H3,I4,rz,q4 l⟩) fun v l w' s4 I4 rw'=>⟨v,_,I4,rw',q3 v l⟩
end L2
namespace L2
open PySem PySem.Spec PyProof.Rows
theorem Zmj {K:PySem.W.Frag} {a b:Addr} {xs ys:List V} {g:TG} {tt:TT} {te:TE} {σ0:St} {H:Hp} {Q:VK} (Pv:Nat→List V→St→Hp→Prop) (h0:Pv 0 [] σ0 H) (hz:xs.length≤sizeLine) (hl:∀ i acc σ H,i≤xs.length→i≤ys.length→Pv i acc σ H→Zg K H a xs∧Zg K H b ys)
  (hs:∀ i x y p acc σ H,acc.length≤i→xs[i]? = some x→ys[i]? = some y→H p=none→Pv i acc σ H→g (.ref p) σ (Zd H p (.tup [x,y])) fun σ2 H2=>tt σ2 H2 fun b H3=>if b=true then te σ2 H3 fun z H4=>(acc++[z]).length≤i+1∧Pv (i+1) (acc++[z]) σ2 H4 else acc.length≤i+1∧Pv (i+1) acc σ2 H3)
  (hd:∀ i acc σ H,i=min xs.length ys.length→acc.length≤i→Pv i acc σ H→Vd Q acc H) :
  ∃ W:Nat→Nat→List V→St→Hp→Prop,(∃ m,W 0 m [] σ0 H)∧∀ i m acc σ1 H,W i m acc σ1 H →
   ((Ui K a b).stop i H∧Vd Q acc H) ∨
   ((Ui K a b).go i H∧acc.length < sizeLine∧∃ N:List V→St→Hp→Prop,(∀ acc' σ' H',N acc' σ' H'→∃ m',m' < m∧W (i+1) m' acc' σ' H')∧∀ x H',(Ui K a b).yld i H x H'→g x σ1 H' fun σ2 H2=>tt σ2 H2 fun b H3=>if b=true then te σ2 H3 fun y H4=>N (acc++[y]) σ2 H4 else N acc σ2 H3):=by
 refine ⟨fun i m acc σ H=>m=xs.length - i∧(i≤xs.length∧i≤ys.length)∧acc.length≤i∧Pv i acc σ H,⟨xs.length,by simp,⟨Nat.zero_le _,Nat.zero_le _⟩,Nat.zero_le _,h0⟩,?_⟩
 rintro i m acc σ1 H ⟨rfl,⟨hi,hj⟩,ha,p⟩
 obtain ⟨q1,q2⟩:=hl i acc σ1 H hi hj p
 by_cases hlt:i < xs.length∧i < ys.length
 ·obtain ⟨h1,h2⟩:=hlt
  refine .inr ⟨⟨xs,ys,xs[i],ys[i],q1,q2,by simp [h1],by simp [h2]⟩,by omega,fun acc' σ' H'=>acc'.length≤i+1∧Pv (i+1) acc' σ' H',fun acc' σ' H' z=>⟨xs.length - (i+1),by omega,rfl,⟨h1,h2⟩,z.1,z.2⟩,fun v H' y=>?_⟩
  obtain ⟨r,x,y,hr,y1,y2,rfl,rfl⟩:=y
  exact hs i x y r acc σ1 _ ha (y1 xs q1) (y2 ys q2) hr p
 ·exact .inl ⟨⟨xs,ys,q1,q2,by omega⟩,hd i acc σ1 H (by omega) ha p⟩
end L2
namespace L2
theorem Za {α:Type} {A R:α→Prop} (a:α) (h0:A a) (r:R a):∃ a,A a∧R a:=⟨a,h0,r⟩
theorem Zx {α:Type} {A B R:α→Prop} (a:α) (h0:A a) (h1:B a) (r:R a):∃ a,A a∧B a∧R a:=⟨a,h0,h1,r⟩
theorem V3 {α:Type} {A B C R:α→Prop} (a:α) (h0:A a) (h1:B a) (h2:C a) (r:R a):∃ a,A a∧B a∧C a∧R a:=⟨a,h0,h1,h2,r⟩
theorem ZK {α β:Type} {A R:α→β→Prop} (a:α) (b:β) (h0:A a b) (r:R a b):∃ a b,A a b∧R a b:=⟨a,b,h0,r⟩
theorem Zj {α β:Type} {A B R:α→β→Prop} (a:α) (b:β) (h0:A a b) (h1:B a b) (r:R a b):∃ a b,A a b∧B a b∧R a b:=⟨a,b,h0,h1,r⟩
theorem Zo {α β:Type} {A B C R:α→β→Prop} (a:α) (b:β) (h0:A a b) (h1:B a b) (h2:C a b) (r:R a b):∃ a b,A a b∧B a b∧C a b∧R a b:=⟨a,b,h0,h1,h2,r⟩
theorem Xm {α β:Type} {A B C D R:α→β→Prop} (a:α) (b:β) (h0:A a b) (h1:B a b) (h2:C a b) (h3:D a b) (r:R a b):∃ a b,A a b∧B a b∧C a b∧D a b∧R a b:=⟨a,b,h0,h1,h2,h3,r⟩
theorem Qk {α β:Type} {A B C D F G R:α→β→Prop} (a:α) (b:β) (h0:A a b) (h1:B a b) (h2:C a b) (h3:D a b) (h4:F a b) (h5:G a b) (r:R a b):∃ a b,A a b∧B a b∧C a b∧D a b∧F a b∧G a b∧R a b:=⟨a,b,h0,h1,h2,h3,h4,h5,r⟩
theorem XX {α β γ:Type} {A B R:α→β→γ→Prop} (a:α) (b:β) (c:γ) (h0:A a b c) (h1:B a b c) (r:R a b c):∃ a b c,A a b c∧B a b c∧R a b c:=⟨a,b,c,h0,h1,r⟩
theorem ZI {α β γ:Type} {A B C R:α→β→γ→Prop} (a:α) (b:β) (c:γ) (h0:A a b c) (h1:B a b c) (h2:C a b c) (r:R a b c):∃ a b c,A a b c∧B a b c∧C a b c∧R a b c:=⟨a,b,c,h0,h1,h2,r⟩
theorem Yn {α β γ:Type} {A B C D R:α→β→γ→Prop} (a:α) (b:β) (c:γ) (h0:A a b c) (h1:B a b c) (h2:C a b c) (h3:D a b c) (r:R a b c):∃ a b c,A a b c∧B a b c∧C a b c∧D a b c∧R a b c:=⟨a,b,c,h0,h1,h2,h3,r⟩
theorem UQ {α β γ:Type} {A B C D F G R:α→β→γ→Prop} (a:α) (b:β) (c:γ) (h0:A a b c) (h1:B a b c) (h2:C a b c) (h3:D a b c) (h4:F a b c) (h5:G a b c) (r:R a b c):∃ a b c,A a b c∧B a b c∧C a b c∧D a b c∧F a b c∧G a b c∧R a b c:=⟨a,b,c,h0,h1,h2,h3,h4,h5,r⟩
theorem UR {α β γ δ:Type} {A B R:α→β→γ→δ→Prop} (a:α) (b:β) (c:γ) (d:δ) (h0:A a b c d) (h1:B a b c d) (r:R a b c d):∃ a b c d,A a b c d∧B a b c d∧R a b c d:=⟨a,b,c,d,h0,h1,r⟩
theorem Xu {α β γ δ:Type} {A B C R:α→β→γ→δ→Prop} (a:α) (b:β) (c:γ) (d:δ) (h0:A a b c d) (h1:B a b c d) (h2:C a b c d) (r:R a b c d):∃ a b c d,A a b c d∧B a b c d∧C a b c d∧R a b c d:=⟨a,b,c,d,h0,h1,h2,r⟩
theorem Zz {α β γ δ:Type} {A B C D R:α→β→γ→δ→Prop} (a:α) (b:β) (c:γ) (d:δ) (h0:A a b c d) (h1:B a b c d) (h2:C a b c d) (h3:D a b c d) (r:R a b c d):∃ a b c d,A a b c d∧B a b c d∧C a b c d∧D a b c d∧R a b c d:=⟨a,b,c,d,h0,h1,h2,h3,r⟩
theorem Z7 {α β γ δ:Type} {A B C D F R:α→β→γ→δ→Prop} (a:α) (b:β) (c:γ) (d:δ) (h0:A a b c d) (h1:B a b c d) (h2:C a b c d) (h3:D a b c d) (h4:F a b c d) (r:R a b c d):∃ a b c d,A a b c d∧B a b c d∧C a b c d∧D a b c d∧F a b c d∧R a b c d:=⟨a,b,c,d,h0,h1,h2,h3,h4,r⟩
theorem Ql {α β γ δ ε:Type} {A B C D R:α→β→γ→δ→ε→Prop} (a:α) (b:β) (c:γ) (d:δ) (e:ε) (h0:A a b c d e) (h1:B a b c d e) (h2:C a b c d e) (h3:D a b c d e) (r:R a b c d e):∃ a b c d e,A a b c d e∧B a b c d e∧C a b c d e∧D a b c d e∧R a b c d e:=⟨a,b,c,d,e,h0,h1,h2,h3,r⟩
theorem Z5 {α β γ δ ε:Type} {A B C D F R:α→β→γ→δ→ε→Prop} (a:α) (b:β) (c:γ) (d:δ) (e:ε) (h0:A a b c d e) (h1:B a b c d e) (h2:C a b c d e) (h3:D a b c d e) (h4:F a b c d e) (r:R a b c d e):∃ a b c d e,A a b c d e∧B a b c d e∧C a b c d e∧D a b c d e∧F a b c d e∧R a b c d e:=⟨a,b,c,d,e,h0,h1,h2,h3,h4,r⟩
end L2
namespace K13
open PySem L2 K1
seal PySem.wpAny
def top (i:Nat):Stmt:=PySem.Challenge.pw_roadbook_k13_runs_between.main.body.getD i (.Pass ⟨0,0,0,0⟩)
abbrev Qm:Stmt:=top 17
theorem Zmk:ZM ["value"] ["value"] (Zq Qm):=⟨rfl,rfl,rfl,by decide +kernel,rfl,by decide +kernel,by decide +kernel⟩
abbrev Qn:Stmt:=top 18
theorem Zml:ZM ["value","least","most"] ["value","least","most"] (Zq Qn):=⟨rfl,rfl,rfl,by decide +kernel,rfl,by decide +kernel,by decide +kernel⟩
abbrev Qo:Stmt:=top 19
theorem Zmm:ZM ["value","least","most"] ["value","least","most"] (Zq Qo):=⟨rfl,rfl,rfl,by decide +kernel,rfl,by decide +kernel,by decide +kernel⟩
abbrev Qp:Stmt:=top 20
theorem Zbv:ZM ["values","longest","least","most","floor","value"] ["values","longest","least","most"] (Zq Qp):=⟨rfl,rfl,rfl,by decide +kernel,rfl,by decide +kernel,by decide +kernel⟩
abbrev Qq:Stmt:=top 21
theorem Zmn:ZM ["value"] ["value"] (Zq Qq):=⟨rfl,rfl,rfl,by decide +kernel,rfl,by decide +kernel,by decide +kernel⟩
abbrev Qr:Stmt:=top 22
theorem Zmo:ZM ["value","named"] ["value","named"] (Zq Qr):=⟨rfl,rfl,rfl,by decide +kernel,rfl,by decide +kernel,by decide +kernel⟩
abbrev Qs:Stmt:=top 31
theorem Zmp:ZM ["rule"] ["rule"] (Zq Qs):=⟨rfl,rfl,rfl,by decide +kernel,rfl,by decide +kernel,by decide +kernel⟩
abbrev Qt:Stmt:=top 48
theorem Zmq:ZM ["name","named"] ["name","named"] (Zq Qt):=⟨rfl,rfl,rfl,by decide +kernel,rfl,by decide +kernel,by decide +kernel⟩
abbrev Qu:Stmt:=top 49
theorem ZgY:ZM ["kept","most"] ["kept","most"] (Zq Qu):=⟨rfl,rfl,rfl,by decide +kernel,rfl,by decide +kernel,by decide +kernel⟩
abbrev Qv:Stmt:=top 50
theorem Zmr:ZM ["calls"] ["calls"] (Zq Qv):=⟨rfl,rfl,rfl,by decide +kernel,rfl,by decide +kernel,by decide +kernel⟩
abbrev Qw:Stmt:=top 51
theorem Zms:ZM ["call","ahead"] ["call","ahead"] (Zq Qw):=⟨rfl,rfl,rfl,by decide +kernel,rfl,by decide +kernel,by decide +kernel⟩
abbrev Qx:Stmt:=top 55
theorem Zmt:ZM ["calls","begin","late"] ["calls","begin","late"] (Zq Qx):=⟨rfl,rfl,rfl,by decide +kernel,rfl,by decide +kernel,by decide +kernel⟩
abbrev Qy:Stmt:=top 56
theorem ZgZ:ZM ["calls","number"] ["calls"] (Zq Qy):=⟨rfl,rfl,rfl,by decide +kernel,rfl,by decide +kernel,by decide +kernel⟩
abbrev XB:Stmt:=top 59
theorem Uo:ZM ["net","begin","end","notices","known","first","last","found","trip","day","calls"] ["net","begin","end","notices"] (Zq XB):=⟨rfl,rfl,rfl,by decide +kernel,rfl,by decide +kernel,by decide +kernel⟩
abbrev Qz:Stmt:=top 60
theorem Zmu:ZM ["calls","begin","end"] ["calls","begin","end"] (Zq Qz):=⟨rfl,rfl,rfl,by decide +kernel,rfl,by decide +kernel,by decide +kernel⟩
abbrev QA:Stmt:=top 62
theorem Zmv:ZM ["_law_script","_law_k"] ["_law_script","_law_k"] (Zq QA):=⟨rfl,rfl,rfl,by decide +kernel,rfl,by decide +kernel,by decide +kernel⟩
abbrev QB:Stmt:=top 63
theorem Zg0:ZM ["_law_cell","_law_k","_law_number"] ["_law_cell","_law_k"] (Zq QB):=⟨rfl,rfl,rfl,by decide +kernel,rfl,by decide +kernel,by decide +kernel⟩
abbrev QC:Stmt:=top 64
theorem ZcA:ZM ["_law_cell","_law_many","_law_word","_law_at"] ["_law_cell","_law_many"] (Zq QC):=⟨rfl,rfl,rfl,by decide +kernel,rfl,by decide +kernel,by decide +kernel⟩
abbrev QD:Stmt:=top 65
theorem Vy:ZM ["_law_cell","_law_stops","_law_many","_law_minute","_law_calls_here","_law_place","_law_k","_law_number","_law_leave"] ["_law_cell","_law_stops"] (Zq QD):=⟨rfl,rfl,rfl,by decide +kernel,rfl,by decide +kernel,by decide +kernel⟩
abbrev QE:Stmt:=top 66
theorem Zg1:ZM ["_law_cell","_law_length"] ["_law_cell"] (Zq QE):=⟨rfl,rfl,rfl,by decide +kernel,rfl,by decide +kernel,by decide +kernel⟩
abbrev QF:Stmt:=top 67
theorem XC:ZM ["_law_script","_law_first","_law_cell","_law_names_here","_law_stops","_law_k","_law_number","_law_walks","_law_one","_law_other","_law_pair","_law_tickets","_law_zones","_law_trips"] ["_law_script","_law_first"] (Zq QF):=⟨rfl,rfl,rfl,by decide +kernel,rfl,by decide +kernel,by decide +kernel⟩
abbrev QG:Stmt:=top 68
theorem XD:ZM ["_law_data","_law_net_here","_law_name","_law_zone","_law_change","_law_one","_law_other","_law_minutes","_law_price","_law_lasts","_law_zones","_law_k","_law_rule_here","_law_calls_here","_law_made"] ["_law_data"] (Zq QG):=⟨rfl,rfl,rfl,by decide +kernel,rfl,by decide +kernel,by decide +kernel⟩
abbrev QH:Stmt:=top 69
theorem Zmw:ZM ["_law_rule_here","_law_day"] ["_law_rule_here","_law_day"] (Zq QH):=⟨rfl,rfl,rfl,by decide +kernel,rfl,by decide +kernel,by decide +kernel⟩
abbrev QI:Stmt:=top 70
theorem ZaE:ZM ["_law_calls_here","_law_lates","_law_last","_law_call","_law_late"] ["_law_calls_here","_law_lates"] (Zq QI):=⟨rfl,rfl,rfl,by decide +kernel,rfl,by decide +kernel,by decide +kernel⟩
abbrev QJ:Stmt:=top 71
theorem Vg:ZM ["_law_data","_law_script","_law_first","_law_day","_law_notices","_law_kept","_law_k","_law_number","_law_name","_law_rule_here","_law_calls_here","_law_that","_law_call","_law_late","_law_lates"] ["_law_data","_law_script","_law_first","_law_day","_law_notices"] (Zq QJ):=⟨rfl,rfl,rfl,by decide +kernel,rfl,by decide +kernel,by decide +kernel⟩
abbrev QK:Stmt:=top 72
theorem Up:ZM ["_law_data","_law_kept","_law_name","_law_day","_law_trip","_law_rule_here","_law_calls_here","_law_lates","_law_found","_law_call","_law_late"] ["_law_data","_law_kept","_law_name","_law_day"] (Zq QK):=⟨rfl,rfl,rfl,by decide +kernel,rfl,by decide +kernel,by decide +kernel⟩
abbrev Vz:Stmt:=top 73
theorem US:ZM ["_law_data","_law_kept","_law_begin","_law_end","_law_found","_law_day","_law_name","_law_rule_here","_law_calls_here","_law_moments_here"] ["_law_data","_law_kept","_law_begin","_law_end"] (Zq Vz):=⟨rfl,rfl,rfl,by decide +kernel,rfl,by decide +kernel,by decide +kernel⟩
abbrev QL:Stmt:=top 74
theorem ZcB:ZM ["_law_found","_law_due","_law_run","_law_call"] ["_law_found","_law_due"] (Zq QL):=⟨rfl,rfl,rfl,by decide +kernel,rfl,by decide +kernel,by decide +kernel⟩
abbrev QM:Stmt:=top 75
theorem XE:ZM ["_law_script","_law_data","_law_calls_here","_law_net_here","_law_cell","_law_day","_law_notices","_law_kept","_law_number","_law_begin","_law_runs_here","_law_end","_law_due","_law_turn","_law_found","_law_run","_law_plain"] ["_law_script"] (Zq QM):=⟨rfl,rfl,rfl,by decide +kernel,rfl,by decide +kernel,by decide +kernel⟩
abbrev QN:Stmt:=YF (top 32) 0
theorem Zmx:ZM ["self"] ["self"] (Zq QN):=⟨rfl,rfl,rfl,by decide +kernel,rfl,by decide +kernel,by decide +kernel⟩
abbrev QO:Stmt:=YF (top 32) 2
theorem Zmy:ZM ["self","day"] ["self","day"] (Zq QO):=⟨rfl,rfl,rfl,by decide +kernel,rfl,by decide +kernel,by decide +kernel⟩
abbrev QP:Stmt:=YF (top 33) 0
theorem Zmz:ZM ["self","bits"] ["self","bits"] (Zq QP):=⟨rfl,rfl,rfl,by decide +kernel,rfl,by decide +kernel,by decide +kernel⟩
abbrev QQ:Stmt:=YF (top 33) 1
theorem ZmA:ZM ["self"] ["self"] (Zq QQ):=⟨rfl,rfl,rfl,by decide +kernel,rfl,by decide +kernel,by decide +kernel⟩
abbrev QR:Stmt:=YF (top 33) 2
theorem ZmB:ZM ["self","day"] ["self","day"] (Zq QR):=⟨rfl,rfl,rfl,by decide +kernel,rfl,by decide +kernel,by decide +kernel⟩
abbrev QS:Stmt:=YF (top 34) 0
theorem ZmC:ZM ["self","length","starts"] ["self","length","starts"] (Zq QS):=⟨rfl,rfl,rfl,by decide +kernel,rfl,by decide +kernel,by decide +kernel⟩
abbrev QT:Stmt:=YF (top 34) 1
theorem ZmD:ZM ["self"] ["self"] (Zq QT):=⟨rfl,rfl,rfl,by decide +kernel,rfl,by decide +kernel,by decide +kernel⟩
abbrev QU:Stmt:=YF (top 34) 2
theorem ZmE:ZM ["self","day"] ["self","day"] (Zq QU):=⟨rfl,rfl,rfl,by decide +kernel,rfl,by decide +kernel,by decide +kernel⟩
abbrev QV:Stmt:=YF (top 52) 0
theorem ZmF:ZM ["self"] ["self"] (Zq QV):=⟨rfl,rfl,rfl,by decide +kernel,rfl,by decide +kernel,by decide +kernel⟩
abbrev QW:Stmt:=YF (top 52) 2
theorem ZmG:ZM ["self","name","zone","change"] ["self","name","zone","change"] (Zq QW):=⟨rfl,rfl,rfl,by decide +kernel,rfl,by decide +kernel,by decide +kernel⟩
abbrev QX:Stmt:=YF (top 52) 3
theorem ZmH:ZM ["self","one","other","minutes"] ["self","one","other","minutes"] (Zq QX):=⟨rfl,rfl,rfl,by decide +kernel,rfl,by decide +kernel,by decide +kernel⟩
abbrev QY:Stmt:=YF (top 52) 4
theorem Zg2:ZM ["self","name","rule","kept"] ["self","name","rule"] (Zq QY):=⟨rfl,rfl,rfl,by decide +kernel,rfl,by decide +kernel,by decide +kernel⟩
abbrev QZ:Stmt:=YF (top 52) 5
theorem ZmI:ZM ["self","name","price","lasts","zones"] ["self","name","price","lasts","zones"] (Zq QZ):=⟨rfl,rfl,rfl,by decide +kernel,rfl,by decide +kernel,by decide +kernel⟩
abbrev Q0:Stmt:=YF (top 52) 6
theorem ZcC:ZM ["self","name","rule","calls","number","call"] ["self","name","rule","calls"] (Zq Q0):=⟨rfl,rfl,rfl,by decide +kernel,rfl,by decide +kernel,by decide +kernel⟩
abbrev Q1:Stmt:=YF (top 52) 7
theorem ZmJ:ZM ["self","name"] ["self","name"] (Zq Q1):=⟨rfl,rfl,rfl,by decide +kernel,rfl,by decide +kernel,by decide +kernel⟩
abbrev Q3:Stmt:=YF (top 52) 8
theorem ZmK:ZM ["self","name"] ["self","name"] (Zq Q3):=⟨rfl,rfl,rfl,by decide +kernel,rfl,by decide +kernel,by decide +kernel⟩
abbrev Q4:Stmt:=YF (top 52) 9
theorem ZmL:ZM ["self","call"] ["self","call"] (Zq Q4):=⟨rfl,rfl,rfl,by decide +kernel,rfl,by decide +kernel,by decide +kernel⟩
abbrev Q5:Stmt:=YF (top 52) 10
theorem ZmM:ZM ["self","one","other"] ["self","one","other"] (Zq Q5):=⟨rfl,rfl,rfl,by decide +kernel,rfl,by decide +kernel,by decide +kernel⟩
abbrev Q6:Stmt:=YF (top 52) 15
theorem ZmN:ZM ["self"] ["self"] (Zq Q6):=⟨rfl,rfl,rfl,by decide +kernel,rfl,by decide +kernel,by decide +kernel⟩
abbrev Q7:Stmt:=YF (top 52) 18
theorem ZmO:ZM ["self","name"] ["self","name"] (Zq Q7):=⟨rfl,rfl,rfl,by decide +kernel,rfl,by decide +kernel,by decide +kernel⟩
abbrev Q8:Stmt:=YF (top 52) 20
theorem ZmP:ZM ["self","trip"] ["self","trip"] (Zq Q8):=⟨rfl,rfl,rfl,by decide +kernel,rfl,by decide +kernel,by decide +kernel⟩
abbrev Q9:Stmt:=YF (top 52) 21
theorem ZmQ:ZM ["self","trip"] ["self","trip"] (Zq Q9):=⟨rfl,rfl,rfl,by decide +kernel,rfl,by decide +kernel,by decide +kernel⟩
abbrev Zaa:Stmt:=YF (top 57) 0
theorem Zg3:ZM ["self","net","trip"] ["self","net"] (Zq Zaa):=⟨rfl,rfl,rfl,by decide +kernel,rfl,by decide +kernel,by decide +kernel⟩
abbrev Zab:Stmt:=YF (top 57) 2
theorem ZcD:ZM ["self","trip","day","call","minutes","calls","late"] ["self","trip","day","call","minutes"] (Zq Zab):=⟨rfl,rfl,rfl,by decide +kernel,rfl,by decide +kernel,by decide +kernel⟩
abbrev Zac:Stmt:=YF (top 57) 3
theorem ZmR:ZM ["self","trip","day"] ["self","trip","day"] (Zq Zac):=⟨rfl,rfl,rfl,by decide +kernel,rfl,by decide +kernel,by decide +kernel⟩
abbrev Zad:Stmt:=YF (top 57) 5
theorem ZmS:ZM ["self","trip","day"] ["self","trip","day"] (Zq Zad):=⟨rfl,rfl,rfl,by decide +kernel,rfl,by decide +kernel,by decide +kernel⟩
abbrev Zae:Stmt:=YF (top 57) 7
theorem Zg4:ZM ["self","trip","day","on_time"] ["self","trip","day"] (Zq Zae):=⟨rfl,rfl,rfl,by decide +kernel,rfl,by decide +kernel,by decide +kernel⟩
abbrev Zaf:Stmt:=YF (top 57) 8
theorem ZmT:ZM ["self","trip","day"] ["self","trip","day"] (Zq Zaf):=⟨rfl,rfl,rfl,by decide +kernel,rfl,by decide +kernel,by decide +kernel⟩
abbrev Zag:Stmt:=YF (top 57) 9
theorem ZmU:ZM ["self","trip","day"] ["self","trip","day"] (Zq Zag):=⟨rfl,rfl,rfl,by decide +kernel,rfl,by decide +kernel,by decide +kernel⟩
abbrev Zah:Stmt:=YF (top 57) 10
theorem ZmV:ZM ["self","trip","day"] ["self","trip","day"] (Zq Zah):=⟨rfl,rfl,rfl,by decide +kernel,rfl,by decide +kernel,by decide +kernel⟩
theorem Zg5:bootBuiltins "all" = some (.builtin "all"):=by decide +kernel
theorem Zg6:bootBuiltins "any" = some (.builtin "any"):=by decide +kernel
theorem ZmW:bootBuiltins "bool" = some (.type "bool"):=by decide +kernel
theorem Zg7:bootBuiltins "int" = some (.type "int"):=by decide +kernel
theorem Wf:bootBuiltins "isinstance" = some (.builtin "isinstance"):=by decide +kernel
theorem YX:bootBuiltins "len" = some (.builtin "len"):=by decide +kernel
theorem Vh:bootBuiltins "list" = some (.type "list"):=by decide +kernel
theorem ZaF:bootBuiltins "max" = some (.builtin "max"):=by decide +kernel
theorem ZaG:bootBuiltins "min" = some (.builtin "min"):=by decide +kernel
theorem ZmX:bootBuiltins "set" = some (.type "set"):=by decide +kernel
theorem ZcE:bootBuiltins "sorted" = some (.builtin "sorted"):=by decide +kernel
theorem Zg8:bootBuiltins "str" = some (.type "str"):=by decide +kernel
theorem UT:bootBuiltins "tuple" = some (.type "tuple"):=by decide +kernel
set_option genInjectivity false in
structure Z9 where
 ZcF:Addr
 ZcG:FuncData
 ZcH:Addr
 ZcI:FuncData
 ZcJ:Addr
 ZcK:FuncData
 ZcL:Addr
 ZcM:FuncData
 ZcN:Addr
 ZcO:FuncData
 ZcP:Addr
 ZcQ:FuncData
 ZcR:Addr
 ZcS:FuncData
 ZcT:Addr
 ZcU:FuncData
 Zbw:Addr
 Zbx:FuncData
 ZcV:Addr
 ZcW:FuncData
 ZcX:Addr
 ZcY:FuncData
 ZcZ:Addr
 Zc0:FuncData
 Zc1:Addr
 Zc2:FuncData
 Zc3:Addr
 ZaH:FuncData
 ZmY:Addr
 Zc4:List Value
 Zc5:Addr
 Zc6:FuncData
 Zc7:Addr
 Zc8:FuncData
 Zc9:Addr
 Zda:FuncData
 Zdb:Addr
 Zdc:FuncData
 Zdd:Addr
 Zde:FuncData
 Zdf:Addr
 Zdg:FuncData
 Zdh:Addr
 Zdi:FuncData
 Zdj:Addr
 Zdk:FuncData
 Zdl:Addr
 Zdm:FuncData
 Zdn:Addr
 Zdo:FuncData
 Zdp:Addr
 Zdq:FuncData
 Zdr:Addr
 Zds:FuncData
 Zdt:Addr
 Zby:FuncData
 Zdu:Addr
 Zdv:FuncData
 Zdw:Addr
 Zbz:FuncData
 ZbA:Addr
 ZbB:FuncData
 ZbC:Addr
 ZbD:FuncData
 Zdx:Addr
 Zdy:FuncData
 ZbE:Addr
 ZbF:FuncData
 ZbG:Addr
 ZbH:FuncData
 Zdz:Addr
 ZdA:FuncData
 ZbI:Addr
 ZbJ:FuncData
 ZbK:Addr
 ZbL:FuncData
 ZdB:Addr
 ZdC:FuncData
 ZdD:Addr
 ZdE:FuncData
 ZdF:Addr
 ZdG:FuncData
 ZdH:Addr
 ZdI:FuncData
 ZdJ:Addr
 ZdK:FuncData
 ZdL:Addr
 ZdM:FuncData
 ZdN:Addr
 ZdO:FuncData
 ZdP:Addr
 ZdQ:FuncData
 ZdR:Addr
 ZdS:FuncData
 ZdT:Addr
 ZdU:FuncData
 ZdV:Addr
 ZdW:FuncData
 ZdX:Addr
 ZdY:FuncData
 ZdZ:Addr
 Zd0:FuncData
 Zd1:Addr
 Zd2:FuncData
 Zd3:Addr
 Zd4:FuncData
 Zd5:Addr
 Zd6:FuncData
 Zd7:Addr
 Zd8:FuncData
 Zd9:Addr
 Zea:FuncData
 Zeb:Addr
 Zec:FuncData
 Zed:Addr
 Zee:FuncData
 Zef:Addr
 Zeg:FuncData
 Zeh:Addr
 Zei:FuncData
 XF:Addr
 Wg:Addr
 XY:Addr
 ZS:Addr
 YB:Addr
 ZaI:Addr
 YY:Addr
 ZaJ:Addr
 Xb:Addr
structure ZO (K:W.Frag) (mg:Str→Option Value) (t:Z9):Prop where
 Zg9:mg "all" = none
 Zha:mg "any" = none
 ZmZ:mg "bool" = none
 Zm0:mg "enumerate" = none
 Zhb:mg "int" = none
 Wh:mg "isinstance" = none
 YZ:mg "len" = none
 Vi:mg "list" = none
 ZaK:mg "max" = none
 ZaL:mg "min" = none
 WU:mg "range" = none
 Zm1:mg "set" = none
 Zej:mg "sorted" = none
 Zhc:mg "str" = none
 UU:mg "tuple" = none
 Zek:mg "zip" = none
 Zm2:∃ tk,mg "LETTERS" = some (.str (Str.ofString "abcdefghijklmnopqrstuvwxyz") tk)
 Zm3:∃ tk,mg "MOST_LETTERS" = some (.int 8 tk)
 Zhd:∃ tk,mg "LAST_DAY" = some (.int 9999 tk)
 Zel:∃ tk,mg "DAY_MINUTES" = some (.int 1440 tk)
 Zem:∃ tk,mg "LAST_MINUTE" = some (.int 2879 tk)
 Zm4:∃ tk,mg "WEEK_DAYS" = some (.int 7 tk)
 Zm5:∃ tk,mg "ALL_WEEK" = some (.int 127 tk)
 Zm6:∃ tk,mg "MOST_LENGTH" = some (.int 28 tk)
 Zm7:∃ tk,mg "MOST_LISTED" = some (.int 12 tk)
 Zm8:∃ tk,mg "MOST_STOPS" = some (.int 8 tk)
 Zm9:∃ tk,mg "MOST_WALKS" = some (.int 12 tk)
 Zna:∃ tk,mg "MOST_RULES" = some (.int 6 tk)
 Znb:∃ tk,mg "MOST_TICKETS" = some (.int 3 tk)
 Znc:∃ tk,mg "MOST_TRIPS" = some (.int 10 tk)
 Zen:∃ tk,mg "LAST_ZONE" = some (.int 6 tk)
 Znd:∃ tk,mg "MOST_CHANGE" = some (.int 30 tk)
 Zne:∃ tk,mg "MOST_WALKED" = some (.int 60 tk)
 Znf:∃ tk,mg "MOST_PRICE" = some (.int 10000 tk)
 Zng:∃ tk,mg "MOST_LASTING" = some (.int 1440 tk)
 Znh:∃ tk,mg "LEAST_CALLS" = some (.int 2 tk)
 Zni:∃ tk,mg "MOST_CALLS" = some (.int 6 tk)
 Zhe:∃ tk,mg "MOST_LATE" = some (.int 300 tk)
 Zhf:ZN K "is_any_number" "is_any_number" Qm t.ZcF t.ZcG
 Znj:mg "is_any_number" = some (.ref t.ZcF)
 Znk:ZG K t.ZcG ["value"] []
 Zai:ZN K "is_number" "is_number" Qn t.ZcH t.ZcI
 ZaM:mg "is_number" = some (.ref t.ZcH)
 ZaN:ZG K t.ZcI ["value","least","most"] []
 VA:ZN K "check_number" "check_number" Qo t.ZcJ t.ZcK
 V4:mg "check_number" = some (.ref t.ZcJ)
 V5:ZG K t.ZcK ["value","least","most"] []
 Zeo:ZN K "are_rising" "are_rising" Qp t.ZcL t.ZcM
 Zhg:mg "are_rising" = some (.ref t.ZcL)
 Zhh:ZG K t.ZcM ["values","longest","least","most"] []
 Zhi:ZN K "is_name" "is_name" Qq t.ZcN t.ZcO
 Znl:mg "is_name" = some (.ref t.ZcN)
 Znm:ZG K t.ZcO ["value"] []
 Zaj:ZN K "is_known" "is_known" Qr t.ZcP t.ZcQ
 ZaO:mg "is_known" = some (.ref t.ZcP)
 ZaP:ZG K t.ZcQ ["value","named"] []
 Zep:ZN K "copy_of" "copy_of" Qs t.ZcR t.ZcS
 Zhj:mg "copy_of" = some (.ref t.ZcR)
 Zhk:ZG K t.ZcS ["rule"] []
 ZaQ:ZN K "check_new" "check_new" Qt t.ZcT t.ZcU
 ZbM:mg "check_new" = some (.ref t.ZcT)
 ZbN:ZG K t.ZcU ["name","named"] []
 UV:ZN K "check_room" "check_room" Qu t.Zbw t.Zbx
 ZaR:mg "check_room" = some (.ref t.Zbw)
 ZaS:ZG K t.Zbx ["kept","most"] []
 Zhl:ZN K "have_calls_form" "have_calls_form" Qv t.ZcV t.ZcW
 Znn:mg "have_calls_form" = some (.ref t.ZcV)
 Zno:ZG K t.ZcW ["calls"] []
 Zeq:ZN K "can_follow" "can_follow" Qw t.ZcX t.ZcY
 Zhm:mg "can_follow" = some (.ref t.ZcX)
 Zhn:ZG K t.ZcY ["call","ahead"] []
 Zer:ZN K "moved" "moved" Qx t.ZcZ t.Zc0
 Zho:mg "moved" = some (.ref t.ZcZ)
 Zhp:ZG K t.Zc0 ["calls","begin","late"] []
 Zhq:ZN K "check_rising" "check_rising" Qy t.Zc1 t.Zc2
 Znp:mg "check_rising" = some (.ref t.Zc1)
 Znq:ZG K t.Zc2 ["calls"] []
 ZbO:Zcn K "runs_between" "runs_between" XB t.Zc3 t.ZaH t.ZmY t.Zc4
 Znr:Zy [.non] t.Zc4
 Zns:ZG K t.ZaH ["net","begin","end","notices"] t.Zc4
 m_runs_between:mg "runs_between" = some (.ref t.Zc3)
 Zhr:ZG K t.ZaH ["net","begin","end","notices"] []
 Zhs:ZN K "leaves_within" "leaves_within" Qz t.Zc5 t.Zc6
 Znt:mg "leaves_within" = some (.ref t.Zc5)
 Znu:ZG K t.Zc6 ["calls","begin","end"] []
 Wr:ZN K "_law_cell_at" "_law_cell_at" QA t.Zc7 t.Zc8
 WI:mg "_law_cell_at" = some (.ref t.Zc7)
 WJ:ZG K t.Zc8 ["_law_script","_law_k"] []
 Vj:ZN K "_law_mixed" "_law_mixed" QB t.Zc9 t.Zda
 VB:mg "_law_mixed" = some (.ref t.Zc9)
 VC:ZG K t.Zda ["_law_cell","_law_k"] []
 Zht:ZN K "_law_names" "_law_names" QC t.Zdb t.Zdc
 Znv:mg "_law_names" = some (.ref t.Zdb)
 Znw:ZG K t.Zdc ["_law_cell","_law_many"] []
 Zhu:ZN K "_law_calls" "_law_calls" QD t.Zdd t.Zde
 Znx:mg "_law_calls" = some (.ref t.Zdd)
 Zny:ZG K t.Zde ["_law_cell","_law_stops"] []
 Zhv:ZN K "_law_rule" "_law_rule" QE t.Zdf t.Zdg
 Znz:mg "_law_rule" = some (.ref t.Zdf)
 ZnA:ZG K t.Zdg ["_law_cell"] []
 Zhw:ZN K "_law_net" "_law_net" QF t.Zdh t.Zdi
 ZnB:mg "_law_net" = some (.ref t.Zdh)
 ZnC:ZG K t.Zdi ["_law_script","_law_first"] []
 Zhx:ZN K "_law_built" "_law_built" QG t.Zdj t.Zdk
 ZnD:mg "_law_built" = some (.ref t.Zdj)
 ZnE:ZG K t.Zdk ["_law_data"] []
 Zes:ZN K "_law_runs_on" "_law_runs_on" QH t.Zdl t.Zdm
 Zhy:mg "_law_runs_on" = some (.ref t.Zdl)
 Zhz:ZG K t.Zdm ["_law_rule_here","_law_day"] []
 ZhA:ZN K "_law_rises" "_law_rises" QI t.Zdn t.Zdo
 ZnF:mg "_law_rises" = some (.ref t.Zdn)
 ZnG:ZG K t.Zdo ["_law_calls_here","_law_lates"] []
 ZhB:ZN K "_law_told" "_law_told" QJ t.Zdp t.Zdq
 ZnH:mg "_law_told" = some (.ref t.Zdp)
 ZnI:ZG K t.Zdq ["_law_data","_law_script","_law_first","_law_day","_law_notices"] []
 ZhC:ZN K "_law_moments" "_law_moments" QK t.Zdr t.Zds
 ZnJ:mg "_law_moments" = some (.ref t.Zdr)
 ZnK:ZG K t.Zds ["_law_data","_law_kept","_law_name","_law_day"] []
 ZbP:ZN K "_law_runs" "_law_runs" Vz t.Zdt t.Zby
 m_law_runs:mg "_law_runs" = some (.ref t.Zdt)
 Zet:ZG K t.Zby ["_law_data","_law_kept","_law_begin","_law_end"] []
 ZbQ:ZN K "_law_is" "_law_is" QL t.Zdu t.Zdv
 Zeu:mg "_law_is" = some (.ref t.Zdu)
 Zev:ZG K t.Zdv ["_law_found","_law_due"] []
 ZhD:ZN K "law" "law" QM t.Zdw t.Zbz
 ZnL:mg "law" = some (.ref t.Zdw)
 Zq8:ZG K t.Zbz ["_law_script"] []
 ZnM:ZN K "copied" "Rule.copied" QN t.ZbA t.ZbB
 ZnN:ZG K t.ZbB ["self"] []
 ZnO:ZN K "runs" "Rule.runs" QO t.ZbC t.ZbD
 ZnP:ZG K t.ZbD ["self","day"] []
 ZnQ:ZN K "__init__" "Week.__init__" QP t.Zdx t.Zdy
 ZhE:ZG K t.Zdy ["self","bits"] []
 ZnR:ZN K "copied" "Week.copied" QQ t.ZbE t.ZbF
 ZnS:ZG K t.ZbF ["self"] []
 ZnT:ZN K "runs" "Week.runs" QR t.ZbG t.ZbH
 ZnU:ZG K t.ZbH ["self","day"] []
 ZnV:ZN K "__init__" "Each.__init__" QS t.Zdz t.ZdA
 ZhF:ZG K t.ZdA ["self","length","starts"] []
 ZnW:ZN K "copied" "Each.copied" QT t.ZbI t.ZbJ
 ZnX:ZG K t.ZbJ ["self"] []
 ZnY:ZN K "runs" "Each.runs" QU t.ZbK t.ZbL
 ZnZ:ZG K t.ZbL ["self","day"] []
 Zn0:ZN K "__init__" "Net.__init__" QV t.ZdB t.ZdC
 Zn1:ZG K t.ZdC ["self"] []
 Zn2:ZN K "add_stop" "Net.add_stop" QW t.ZdD t.ZdE
 Zn3:ZG K t.ZdE ["self","name","zone","change"] []
 Zn4:ZN K "add_walk" "Net.add_walk" QX t.ZdF t.ZdG
 Zn5:ZG K t.ZdG ["self","one","other","minutes"] []
 Zn6:ZN K "add_rule" "Net.add_rule" QY t.ZdH t.ZdI
 Zn7:ZG K t.ZdI ["self","name","rule"] []
 Zn8:ZN K "add_ticket" "Net.add_ticket" QZ t.ZdJ t.ZdK
 Zn9:ZG K t.ZdK ["self","name","price","lasts","zones"] []
 Zoa:ZN K "add_trip" "Net.add_trip" Q0 t.ZdL t.ZdM
 Zob:ZG K t.ZdM ["self","name","rule","calls"] []
 Zoc:ZN K "check_stop" "Net.check_stop" Q1 t.ZdN t.ZdO
 Zew:ZG K t.ZdO ["self","name"] []
 Zod:ZN K "check_trip" "Net.check_trip" Q3 t.ZdP t.ZdQ
 ZhG:ZG K t.ZdQ ["self","name"] []
 Zoe:ZN K "check_call" "Net.check_call" Q4 t.ZdR t.ZdS
 Zof:ZG K t.ZdS ["self","call"] []
 Zog:ZN K "has_walk" "Net.has_walk" Q5 t.ZdT t.ZdU
 Zoh:ZG K t.ZdU ["self","one","other"] []
 Zoi:ZN K "trips" "Net.trips" Q6 t.ZdV t.ZdW
 ZhH:ZG K t.ZdW ["self"] []
 Zoj:ZN K "rule" "Net.rule" Q7 t.ZdX t.ZdY
 Zok:ZG K t.ZdY ["self","name"] []
 Zol:ZN K "rule_name" "Net.rule_name" Q8 t.ZdZ t.Zd0
 Zom:ZG K t.Zd0 ["self","trip"] []
 Zon:ZN K "calls" "Net.calls" Q9 t.Zd1 t.Zd2
 Zoo:ZG K t.Zd2 ["self","trip"] []
 Zop:ZN K "__init__" "Notices.__init__" Zaa t.Zd3 t.Zd4
 ZhI:ZG K t.Zd4 ["self","net"] []
 Zoq:ZN K "late" "Notices.late" Zab t.Zd5 t.Zd6
 ZhJ:ZG K t.Zd6 ["self","trip","day","call","minutes"] []
 Zor:ZN K "out" "Notices.out" Zac t.Zd7 t.Zd8
 Zos:ZG K t.Zd8 ["self","trip","day"] []
 Zot:ZN K "moments" "Notices.moments" Zad t.Zd9 t.Zea
 Zou:ZG K t.Zea ["self","trip","day"] []
 Zov:ZN K "late_minutes" "Notices.late_minutes" Zae t.Zeb t.Zec
 ZhK:ZG K t.Zec ["self","trip","day"] []
 Zow:ZN K "check_day" "Notices.check_day" Zaf t.Zed t.Zee
 ZhL:ZG K t.Zee ["self","trip","day"] []
 Zox:ZN K "check_runs" "Notices.check_runs" Zag t.Zef t.Zeg
 Zoy:ZG K t.Zeg ["self","trip","day"] []
 Zoz:ZN K "check_goes" "Notices.check_goes" Zah t.Zeh t.Zei
 ZhM:ZG K t.Zei ["self","trip","day"] []
 Zex:XM K t.XF
 ZhN:MkN K t.XF
 ZoA:Yz K t.XF "copied" t.ZbA
 ZoB:Yz K t.XF "runs" t.ZbC
 Zak:XM K t.Wg
 ZhO:Mk K t.Wg t.Zdx
 ZoC:Yz K t.Wg "copied" t.ZbE
 ZoD:Yz K t.Wg "runs" t.ZbG
 Zey:XU K t.Wg "bits"
 V6:XM K t.XY
 ZhP:Mk K t.XY t.Zdz
 ZoE:Yz K t.XY "copied" t.ZbI
 ZoF:Yz K t.XY "runs" t.ZbK
 Zez:XU K t.XY "length"
 ZeA:XU K t.XY "starts"
 Z6:XM K t.ZS
 ZoG:Mk K t.ZS t.ZdB
 ZoH:Yz K t.ZS "add_rule" t.ZdH
 ZoI:Yz K t.ZS "add_stop" t.ZdD
 ZoJ:Yz K t.ZS "add_ticket" t.ZdJ
 ZoK:Yz K t.ZS "add_trip" t.ZdL
 ZoL:Yz K t.ZS "add_walk" t.ZdF
 ZoM:Yz K t.ZS "calls" t.Zd1
 ZoN:Yz K t.ZS "check_call" t.ZdR
 ZeB:Yz K t.ZS "check_stop" t.ZdN
 ZhQ:Yz K t.ZS "check_trip" t.ZdP
 ZoO:Yz K t.ZS "has_walk" t.ZdT
 ZoP:Yz K t.ZS "rule" t.ZdX
 ZoQ:Yz K t.ZS "rule_name" t.ZdZ
 ZhR:Yz K t.ZS "trips" t.ZdV
 ZaT:XU K t.ZS "stop_rows"
 ZbR:XU K t.ZS "walk_rows"
 UW:XU K t.ZS "rule_rows"
 ZbS:XU K t.ZS "ticket_rows"
 Uq:XU K t.ZS "trip_rows"
 YK:XM K t.YB
 ZhS:Mk K t.YB t.Zd3
 ZhT:Yz K t.YB "check_day" t.Zed
 ZhU:Yz K t.YB "check_goes" t.Zeh
 ZoR:Yz K t.YB "check_runs" t.Zef
 ZhV:Yz K t.YB "late" t.Zd5
 ZhW:Yz K t.YB "late_minutes" t.Zeb
 ZoS:Yz K t.YB "moments" t.Zd9
 ZoT:Yz K t.YB "out" t.Zd7
 Ur:XU K t.YB "timetable"
 ZaU:XU K t.YB "taken"
 ZbT:XU K t.YB "lateness"
 ZoU:Zav K t.XF
 ZoV:W.kitOne K (.ref t.XF) (.ref t.XF)=some true
 ZoW:Zav K t.Wg
 ZoX:W.kitOne K (.ref t.Wg) (.ref t.XF)=some true
 ZoY:Zav K t.XY
 ZoZ:W.kitOne K (.ref t.XY) (.ref t.XF)=some true
 ZaV:mg "Rule" = some (.ref t.XF)
 ZhX:mg "Week" = some (.ref t.Wg)
 ZhY:mg "Each" = some (.ref t.XY)
 Zo0:mg "Net" = some (.ref t.ZS)
 ZhZ:mg "Notices" = some (.ref t.YB)
 Zo1:t.ZaH.code=.ref t.ZaI
 Zo2:W.codeHdIn K t.ZaI t.YY=true
 Zo3:K.lookup t.YY=none
 Zo4:t.Zby.code=.ref t.ZaJ
 Zo5:W.codeHdIn K t.ZaJ t.Xb=true
 Zo6:K.lookup t.Xb=none
 Zo7:t.YY≠t.Xb
section
variable {P:Program} {w:World} {K:W.Frag} {mg:Str→Option Value} {base:Heap} {t:Z9}
def Yw (z:Str):Prop:=1≤z.length∧z.length≤8∧(∀ c∈z.cps.toList,97≤c∧c≤122)∧True
def Zo8:Sp:=fun vs H Q _=>∃ (v:V) (T:String),vs=[v]∧Kd H v T∧Q (.bl (Zkx v)) H
theorem Zo9 (Tx:ZO K mg t):ZF P w K mg base ZE 1 t.ZcF t.ZcG ["value"] Zo8:=by
 refine Tx.Zhf.ok Zmk (fun vs H Q E h=>?_) (fun cdv A outer s H vs Q E hr h=>?_)
 ·obtain ⟨v,T,rfl,_⟩:=h
  rfl
 obtain ⟨v,T,rfl,kd,q⟩:=h
 refine Za _ (Zp (ZT (U6 (ZV WP rfl Tx.Wh Wf (Zb (pv 0) (Zb (WQ rfl Tx.Zhb Zg7) Ze))) (UC (Zi4 (ZV WP rfl Tx.Wh Wf (Zb (pv 0) (Zb (WQ rfl Tx.ZmZ ZmW) Ze)))))))) ?_
 refine Za _ rfl (Xu v ("int") _ _ rfl kd.ty (ZfQ kd) (Za _ rfl ?_))
 cases kd with
 | non=>exact ZH (by decide) q
 | str x=>exact ZH (by decide) q
 | lst e=>exact ZH (by decide) q
 | tup e=>exact ZH (by decide) q
 | dK e=>exact ZH (by decide) q
 | bl b=>exact YS (by decide) (Za _ rfl (Xu _ ("bool") _ _ rfl ((Kd.bl b).ty (H:=H)) (ZfR (H:=H) (.bl b)) (Za _ rfl q)))
 | int i=>exact YS (by decide) (Za _ rfl (Xu _ ("bool") _ _ rfl ((Kd.int i).ty (H:=H)) (ZfR (H:=H) (.int i)) (Za _ rfl q)))
def Zpa:Sp:=fun vs H Q _=>∃ (v:V) (lo hi:Int) (T:String),vs=[v,.int lo,.int hi]∧Kd H v T∧Q (.bl (UJ v lo hi)) H
theorem ZaW (Tx:ZO K mg t):ZF P w K mg base ZE 2 t.ZcH t.ZcI ["value","least","most"] Zpa:=by
 refine Tx.Zai.ok Zml (fun vs H Q E h=>?_) (fun cdv A outer s H vs Q E hr h=>?_)
 ·obtain ⟨v,lo,hi,T,rfl,_⟩:=h
  rfl
 obtain ⟨v,lo,hi,T,rfl,kd,q⟩:=h
 refine Za _ (Zp (ZT (U6 (ZB (Zo9 Tx) (hr.mono (by omega)) rfl Tx.Znj Tx.Zhf.kp Tx.Znk .nil Zr (Zb (pv 0) Ze)) (UC (Zff Wv Wv (pv 1) (pv 0) (pv 2)))))) ?_
 refine Za _ rfl (Zj v T rfl kd (Za _ rfl ?_))
 cases kd with
 | non=>exact ZH Bool.false_ne_true q
 | str x=>exact ZH Bool.false_ne_true q
 | lst e=>exact ZH Bool.false_ne_true q
 | tup e=>exact ZH Bool.false_ne_true q
 | dK e=>exact ZH Bool.false_ne_true q
 | bl b=>exact ZH Bool.false_ne_true q
 | int i =>
  refine YS rfl ?_
  refine Za _ rfl (Za _ rfl (Zj _ _ rfl rfl (Za _ rfl ?_)))
  refine XO (fun c=>?_) (fun c=>?_)
  ·refine Za _ rfl (Zj _ _ rfl rfl ?_)
   have c':lo≤i:=of_decide_eq_true c
   have e:decide (i≤hi)=UJ (.int i) lo hi:=by
    show decide (i≤hi)=decide (lo≤i∧i≤hi)
    exact decide_eq_decide.mpr ⟨fun z=>⟨c',z⟩,fun z=>z.2⟩
   rw [← e] at q;exact q
  ·have c':¬ lo≤i:=of_decide_eq_false (Bool.eq_false_iff.mpr c)
   have e:false=UJ (.int i) lo hi:=by
    show false=decide (lo≤i∧i≤hi)
    exact (decide_eq_false fun z=>c' z.1).symm
   rw [← e] at q;exact q
def tx (l:List Nat):Str:=⟨l.toArray⟩
theorem Wi (l:List Nat):(tx l).length=l.length:=by show l.toArray.size=_;rw [List.size_toArray]
theorem ZaX (a b:List Nat):tx a++tx b=tx (a++b):=by
 show Str.mk (a.toArray++b.toArray)=_
 rw [List.append_toArray];rfl
theorem UX (l:List Nat):(tx l).cps.toList=l:=by show l.toArray.toList=l;rfl
theorem ZaY {a b:List Nat} (h:tx a=tx b):a=b:=by
 have:=congrArg (fun z:Str=>z.cps.toList) h
 rwa [UX,UX] at this
theorem Zh0:∀ l:List Nat,Str.join (Str.ofString "") (l.map fun c=>tx [c])=tx l
 | []=>rfl
 | c::l=>by
  rw [List.map_cons,show Str.ofString "" = (⟨#[]⟩:Str) from rfl,PyProof.Rows.join_nil_cons]
  have ih:=Zh0 l
  rw [show Str.ofString "" = (⟨#[]⟩:Str) from rfl] at ih
  rw [ih,ZaX]
  rfl
theorem Zpb (l:List Nat) (h:l.length≤20):((l.map fun c=>tx [c]).map fun x=>x.length+(Str.ofString "").length).sum≤sizeLine :=
 Zlc (m:=0) (by decide) (by rw [List.length_map];exact h) fun x hx=>by
  obtain ⟨c,_,rfl⟩:=List.mem_map.mp hx
  rw [Wi,List.length_singleton];decide
def Zh1 (c k:Int):Int:=(c % 1000000007+7919 * k+13) * (c % 1000000007+7919 * k+13) % 1000000007 * (c % 1000000007+7919 * k+13) % 998244353 / 11
def Wj (c k:Int):Nat:=(Zh1 c k).toNat
theorem Zpc (c k:Int):Zh1 c k=((Wj c k:Nat):Int):=by
 have e:∀ z:Int,z % 998244353 / 11=(((z % 998244353 / 11).toNat:Nat):Int):=fun z=>by omega
 exact e _
def Zpd:Sp:=fun vs H Q _=>∃ (c k:Int),vs=[.int c,.int k]∧0≤k∧k≤100000∧Q (.int (Wj c k:Nat)) H
theorem VD (Tx:ZO K mg t):ZF P w K mg base ZE 1 t.Zc9 t.Zda ["_law_cell","_law_k"] Zpd:=by
 refine Tx.Vj.ok Zg0 (fun vs H Q E h=>?_) (fun cdv A outer s H vs Q E hr h=>?_)
 ·obtain ⟨c,k,rfl,_⟩:=h
  rfl
 obtain ⟨c,k,rfl,k0,k1,q⟩:=h
 refine Za _ (Zm (ZJ (i:=2) Zg0.nd rfl (Or.inl rfl) (Zi ZZ (Zi ZZ (Zi ZP (pv 0) Zc) (Zi UG Zc (pv 1))) Zc))
  (Zp (ZT (Zi Yl (Zi ZP (Zi UG (Zi ZP (Zi UG (pv 2) (pv 2)) Zc) (pv 2)) Zc) Zc)))) ?_
 have g1:0≤c % 1000000007:=Int.emod_nonneg _ (by decide)
 have g2:c % 1000000007 < 1000000007:=Int.emod_lt_of_pos _ (by decide)
 refine Za _ rfl (Zo _ _ rfl rfl (by show (0:Int) < 1000000007;decide) (Za _ rfl (Zo _ _ rfl rfl (.inl ⟨by decide,by decide⟩) (Zj _ _ rfl rfl (Zj _ _ rfl rfl ?_)))))
 refine Za _ rfl (Za _ rfl (Zo _ _ rfl rfl (ZfT (by show 0≤c % 1000000007+7919 * k+13;omega) (by show c % 1000000007+7919 * k+13 < _;omega)) (Zo _ _ rfl rfl (by show (0:Int) < 1000000007;decide) (Za _ rfl (Zo _ _ rfl rfl (ZfT (by show 0≤c % 1000000007+7919 * k+13;omega) (by show c % 1000000007+7919 * k+13 < _;omega)) (Zo _ _ rfl rfl (by show (0:Int) < 998244353;decide) (Zo _ _ rfl rfl ⟨by decide,by decide⟩ ?_)))))))
 rw [← Zpc c k] at q
 exact q
def Wk (ns:List Int) (k:Nat):Nat:=Wj (ns.getD k 0) ((100+k:Nat):Int)
def Zpe (K:W.Frag):Sp:=fun vs H Q _=>∃ (a:Addr) (ns:List Int) (k:Nat),vs=[.ref a,.int (k:Nat)]∧Zg K H a (ns.map V.int)∧k≤1000∧Q (.int (Wk ns k:Nat)) H
theorem WK (Tx:ZO K mg t):ZF P w K mg base ZE 2 t.Zc7 t.Zc8 ["_law_script","_law_k"] (Zpe K):=by
 refine Tx.Wr.ok Zmv (fun vs H Q E h=>?_) (fun cdv A outer s H vs Q E hr h=>?_)
 ·obtain ⟨a,ns,k,rfl,_⟩:=h
  rfl
 obtain ⟨a,ns,k,rfl,hS,k0,q⟩:=h
 refine Za _ (Zm (ZX (Xd Zfb (pv 1) (ZV Xh rfl Tx.YZ YX (Zb (pv 0) Ze)) (YJ _))
  (Zp (ZT (ZB (VD Tx) (hr.mono (by omega)) rfl Tx.VB Tx.Vj.kp Tx.VC .nil Zr (Zb (Zw YA (pv 0) (pv 1) (fun _ _=>rfl)) (Zb (Zi ZZ Zc (pv 1)) Ze)))))
  ZY)
  (Zp (ZT (ZB (VD Tx) (hr.mono (by omega)) rfl Tx.VB Tx.Vj.kp Tx.VC .nil Zr (Zb Zc (Zb (Zi ZZ Zc (pv 1)) Ze)))))) ?_
 refine Za _ rfl (Za _ rfl (Zj a _ rfl (.inl hS) (Zj _ _ rfl rfl (Za _ rfl ?_))))
 have e1:(100:Int)+((k:Nat):Int)=((100+k:Nat):Int):=by omega
 refine XO (fun c=>?_) (fun c=>?_)
 ·have c':((k:Nat):Int) < ((ns.map V.int).length:Nat):=of_decide_eq_true c
  rw [List.length_map] at c'
  have hl:k < ns.length:=by omega
  have ei:Yu (ns.map V.int) ((k:Nat):Int)=some (.int ns[k]):=Xz (by rw [List.getElem?_map,List.getElem?_eq_getElem hl];rfl)
  refine Za _ rfl (Za _ rfl (Zz a _ _ _ rfl rfl hS ei (Za _ rfl (Zj _ _ rfl rfl (Zo _ _ rfl (by omega) (by omega) ?_)))))
  unfold Wk at q
  rw [List.getD_eq_getElem?_getD,List.getElem?_eq_getElem hl] at q
  rw [e1]
  exact q
 ·have c':¬ ((k:Nat):Int) < ((ns.map V.int).length:Nat):=fun z=>c (decide_eq_true z)
  rw [List.length_map] at c'
  refine Za _ rfl (Zj _ _ rfl rfl (Zo _ _ rfl (by omega) (by omega) ?_))
  unfold Wk at q
  rw [List.getD_eq_getElem?_getD,List.getElem?_eq_none (by omega)] at q
  rw [e1]
  exact q
def Xf (d n:Nat):List Nat:=(List.range n).map fun k=>97+Wj (d:Nat) ((k:Nat):Int) % 4
theorem Us (d n:Nat):(Xf d n).length=n:=by unfold Xf;rw [List.length_map,List.length_range]
theorem Zh2 (d n:Nat):∀ c∈Xf d n,97≤c∧c≤122:=fun c h=>by
 obtain ⟨j,_,rfl⟩:=List.mem_map.mp h
 omega
theorem Zpf:∀ i:Nat,i < 4→Yu (Str.ofString "abcd").cps.toList (i:Int)=some (97+i):=by decide +kernel
def WL:List Nat:=[113,109,107,122,112,120,119,116]
def UY (d c:Nat):Str:=tx ((Xf d (d % 8)).take (d / 8 % (d % 8+1))++[c]++(Xf d (d % 8)).drop (d / 8 % (d % 8+1)))
def WV (d many:Nat):List Str:=(WL.take many).map (UY d)
theorem Zpg:∀ c∈WL,97≤c∧c≤122:=by decide
theorem Zph:WL.Nodup:=by decide
theorem Zpi {d c:Nat} (h:97≤c∧c≤122):Yw (UY d c):=by
 unfold UY
 refine ⟨?_,?_,fun x hx=>?_,trivial⟩
 ·rw [Wi,List.length_append,List.length_append,List.length_singleton];omega
 ·rw [Wi,List.length_append,List.length_append,List.length_singleton,List.length_take,List.length_drop,Us];omega
 ·rw [UX] at hx
  rcases List.mem_append.mp hx with hx | hx
  ·rcases List.mem_append.mp hx with hx | hx
   ·exact Zh2 d _ x (List.mem_of_mem_take hx)
   ·rw [List.mem_singleton] at hx;omega
  ·exact Zh2 d _ x (List.mem_of_mem_drop hx)
theorem Zpj {d a b:Nat} (e:UY d a=UY d b):a=b:=by
 unfold UY at e
 have e:=ZaY e
 rw [List.append_assoc,List.append_assoc] at e
 have e:=List.append_cancel_left e
 injection e
theorem Zpk (d many:Nat):∀ z∈WV d many,Yw z:=fun z hz=>by
 obtain ⟨c,hc,rfl⟩:=List.mem_map.mp hz
 exact Zpi (Zpg c (List.mem_of_mem_take hc))
theorem Zpl (d many:Nat):(WV d many).Nodup:=by
 unfold WV
 show List.Pairwise _ _
 rw [List.pairwise_map]
 exact (List.Pairwise.take Zph).imp fun h e=>h (Zpj e)
theorem Zh3 {d many:Nat} (h:many≤8):(WV d many).length=many:=by
 unfold WV
 rw [List.length_map,List.length_take]
 show min many 8=many
 omega
def Zpm:Sp:=fun vs H Q _=>∃ (d many:Nat),vs=[.int (d:Nat),.int (many:Nat)]∧many≤8∧∀ l H',Zk H H'→H l=none→H' l=some (.lst ((WV d many).map V.str))→Q (.ref l) H'
theorem Zpn (Tx:ZO K mg t):ZF P w K mg base ZE 2 t.Zdb t.Zdc ["_law_cell","_law_many"] Zpm:=by
 refine Tx.Zht.ok ZcA (fun vs H Q E h=>?_) (fun cdv A outer s H vs Q E hr h=>?_)
 ·obtain ⟨d,many,rfl,_⟩:=h
  rfl
 obtain ⟨d,many,rfl,hm,q⟩:=h
 refine Za _ (Zm (ZJ (i:=2) ZcA.nd rfl (Or.inr rfl) (Vc PySem.F.plainAttrs_str PySem.F.slot_str_join PySem.F.type_str_join Zlb Yk (Zb (Vr (cl:=[(Str.ofString "_law_cell",s.heap.objs.size+1)]) (N:=["_law_k","_law_cell"]) (fr:=[none,some 0]) rfl (VN rfl Tx.WU (Zb (Zi ZP (pv 0) Zc) Ze)) rfl (by decide +kernel) rfl (by decide +kernel) ⟨⟨rfl,Or.inl rfl,Or.inl rfl,Za _ rfl rfl⟩,trivial⟩ ⟨rfl,trivial⟩ rfl (fun _ _ _ _ _=>(ZU (i:=0) (show List.Nodup (["_law_k","_law_cell"]:List Str) by decide +kernel) rfl (Or.inl rfl))) (fun _ _ _ _ _=>Ug) (fun _ _ _ _ _=>(Zw UI Yk (Zi ZP (ZB (VD Tx) (hr.mono (by omega)) rfl Tx.VB Tx.Vj.kp Tx.VC .nil Zr (Zb (pv 1) (Zb (pv 0) Ze))) Zc) (fun _ _=>rfl)))) Ze)))
  (Zm (ZJ (i:=3) ZcA.nd rfl (Or.inr rfl) (Zi ZP (Zi Yl (pv 0) Zc) (Zi ZZ (ZV ZfC rfl Tx.YZ YX (Zb (pv 2) Ze)) Zc)))
  (Zp (ZT (Vr (cl:=[(Str.ofString "_law_word",s.heap.objs.size+2),(Str.ofString "_law_at",s.heap.objs.size+3)]) (N:=["_law_sign","_law_word","_law_at"]) (fr:=[none,some 2,some 3]) rfl (Zl3 (Vp Zcj Yk Vn (Vo (pv 1)))) rfl (by decide +kernel) rfl (by decide +kernel) ⟨⟨rfl,Or.inl rfl,Or.inl rfl,Za _ rfl rfl⟩,⟨⟨rfl,Or.inl rfl,Or.inl rfl,Za _ rfl rfl⟩,trivial⟩⟩ ⟨rfl,⟨rfl,trivial⟩⟩ rfl (fun _ _ _ _ _=>(ZU (i:=0) (show List.Nodup (["_law_sign","_law_word","_law_at"]:List Str) by decide +kernel) rfl (Or.inl rfl))) (fun _ _ _ _ _=>Ug) (fun _ _ _ _ _=>(Zi Zbf (Zi Zbf (Vp Zcj (pv 1) Vn (Vo (pv 2))) (pv 0)) (Vp Zcj (pv 1) (Vo (pv 2)) Vn)))))))) ?_
 have e8:((d:Nat):Int) % 8=((d % 8:Nat):Int):=by omega
 refine ⟨rfl,Za _ rfl (Zo _ _ rfl rfl (by show (0:Int) < 8;decide) ?_)⟩
 dsimp only
 rw [e8]
 refine V3 _ rfl (by omega) (by omega) (Zkr (fun i acc σ H'=>H'=H∧acc=((Xf d i).map fun c=>tx [c]).map V.str∧∃ v,σ=[v,some (.int (d:Nat))]) ⟨rfl,rfl,none,rfl⟩ (Nat.le_trans (show _≤8 by omega) (by decide)) ?_ ?_)
 ·rintro i acc σ H' hi ha ⟨rfl,rfl,v,rfl⟩
  dsimp only [W2,VT]
  rw [if_pos rfl]
  have e0:(0:Int)+((i:Nat):Int)=((i:Nat):Int):=by omega
  refine Za _ rfl (Za _ rfl ?_)
  dsimp only [YM,YV,List.append_nil]
  rw [e0]
  refine Zo _ _ rfl (by omega) (by omega) (Zo _ _ rfl rfl (by show (0:Int) < 4;decide) (Yn _ _ (97+Wj (d:Nat) ((i:Nat):Int) % 4) rfl rfl (by decide) ?_ ?_))
  ·have:=Zpf (Wj (d:Nat) ((i:Nat):Int) % 4) (by omega)
   rw [show ((Wj (d:Nat) ((i:Nat):Int) % 4:Nat):Int)=((Wj (d:Nat) ((i:Nat):Int):Nat):Int) % 4 by omega] at this
   exact this
  ·refine ⟨by rw [List.length_append,List.length_singleton];omega,rfl,?_,_,rfl⟩
   unfold Xf
   rw [List.range_succ,List.map_append,List.map_append,List.map_append]
   rfl
 rintro acc σ H' ha ⟨rfl,rfl,v,rfl⟩ p hp
 have en:((d % 8:Nat):Int).toNat=d % 8:=by omega
 rw [en]
 have s2:=Zn hp (.lst (((Xf d (d % 8)).map fun c=>tx [c]).map V.str))
 refine Yn _ p ((Xf d (d % 8)).map fun c=>tx [c]) rfl rfl (Zg.of Zh) (Zpb _ (by rw [Us];omega)) ?_
 rw [Zh0]
 generalize Zd H' p (.lst (((Xf d (d % 8)).map fun c=>tx [c]).map V.str))=H2 at s2 ⊢
 have lz:(tx (Xf d (d % 8))).length≤sizeLine:=by rw [Wi,Us];exact Nat.le_trans (show _≤7 by omega) (by decide)
 refine Za _ rfl (Zo _ _ rfl rfl ⟨by decide,by decide⟩ (Za _ rfl (Zx _ rfl lz (Zj _ _ rfl rfl (Zo _ _ rfl rfl (by show (0:Int) < ((tx (Xf d (d % 8))).length:Int)+1;omega) ?_)))))
 dsimp only
 have eA:((d:Nat):Int) / 8 % ((((tx (Xf d (d % 8))).length:Nat):Int)+1)=((d / 8 % (d % 8+1):Nat):Int):=by
  have h1:=Int.natCast_emod (d / 8) (d % 8+1)
  rw [Wi,Us,h1,Int.natCast_ediv d 8];rfl
 rw [eA]
 have hA:d / 8 % (d % 8+1)≤d % 8:=by have:=Nat.mod_lt (d / 8) (show d % 8+1 > 0 by omega);omega
 unfold WV UY at q
 generalize d / 8 % (d % 8+1)=A' at hA q ⊢
 refine Za _ rfl (Za _ rfl (Zx _ rfl (by decide) ?_))
 rw [ZfV _ _ (show many≤(Str.ofString "qmkzpxwt").length from hm),show (Str.ofString "qmkzpxwt").cps.toList=WL by decide +kernel]
 have len8:(WL.take many).length≤8:=by rw [List.length_take];show min many 8≤8;omega
 refine Za _ rfl (Zl4 (z:=tx (WL.take many)) (fun i acc σ H3=>H3=H2∧acc=(((WL.take many).take i).map fun c=>tx ((Xf d (d % 8)).take A'++[c]++(Xf d (d % 8)).drop A')).map V.str∧∃ v,σ=[v,some (.str (tx (Xf d (d % 8)))),some (.int (A':Nat))]) ⟨rfl,rfl,none,rfl⟩ (by rw [Wi];exact Nat.le_trans len8 (by decide)) ?_ ?_)
 ·rintro i c acc σ H3 ha hc ⟨rfl,rfl,v,rfl⟩
  rw [UX] at hc
  dsimp only [W2,VT]
  rw [if_pos rfl]
  have l1:((Xf d (d % 8)).take A').length≤8:=by rw [List.length_take,Us];omega
  have l2:((Xf d (d % 8)).drop A').length≤8:=by rw [List.length_drop,Us];omega
  refine Za _ rfl (Za _ rfl (Za _ rfl (Zx _ rfl lz ?_)))
  rw [ZfV _ _ (by rw [Wi,Us];exact hA),UX]
  refine Za _ rfl (Zo _ _ rfl rfl ?_ ?_)
  ·show (tx ((Xf d (d % 8)).take A')).length+(tx [c]).length≤sizeLine
   rw [Wi,Wi,List.length_singleton]
   exact Nat.le_trans (show _≤9 by omega) (by decide)
  refine Za _ rfl (Za _ rfl (Za _ rfl (Zx _ rfl lz ?_)))
  rw [Zky _ _ (by rw [Wi,Us];exact hA),UX]
  refine Zo _ _ rfl rfl ?_ ?_
  ·show (tx ((Xf d (d % 8)).take A')++tx [c]).length+(tx ((Xf d (d % 8)).drop A')).length≤sizeLine
   rw [ZaX,Wi,Wi,List.length_append,List.length_singleton]
   exact Nat.le_trans (show _≤17 by omega) (by decide)
  refine ⟨by rw [List.length_append,List.length_singleton];omega,rfl,?_,_,rfl⟩
  rw [List.take_add_one (l:=WL.take many),hc,List.map_append,List.map_append]
  show _++[V.str (tx ((Xf d (d % 8)).take A')++tx [c]++tx ((Xf d (d % 8)).drop A'))]=_
  rw [ZaX,ZaX]
  rfl
 ·rintro acc σ H3 _ ⟨rfl,rfl,v,rfl⟩ l hl
  have e:(WL.take many).take (tx (WL.take many)).cps.size=WL.take many:=by
   rw [show (tx (WL.take many)).cps.size=(WL.take many).length from Wi _,List.take_length]
  rw [e]
  exact q l _ (s2.trans (Zn hl _)) (s2.free hl) Zh
inductive R3 where
 | all
 | week (b:Nat)
 | each (n:Nat) (ss:List Int)
def R3.Ok:R3→Prop
 | .all=>True
 | .week b=>b≤127
 | .each n ss=>1≤n∧n≤3∧ss≠[]∧ss.length≤2∧ss.Pairwise (· < ·)∧∀ z∈ss,0≤z∧z < (n:Nat)
def VE (H:Hp) (v:V):R3→Prop
 | .all=>∃ p,v=.ref p∧H p=some (.tup [.str (Str.ofString "always")])
 | .week b=>∃ p,v=.ref p∧H p=some (.tup [.str (Str.ofString "week"),.int (b:Nat)])
 | .each n ss=>∃ p l,v=.ref p∧H p=some (.tup [.str (Str.ofString "each"),.int (n:Nat),.ref l])∧H l=some (.lst (ss.map V.int))
theorem VE.same {H H':Hp} {v:V} {r:R3} (s:Zk H H') (h:VE H v r):VE H' v r:=by
 cases r with
 | all=>obtain ⟨p,e,h⟩:=h;exact Za p e (s _ _ h)
 | week b=>obtain ⟨p,e,h⟩:=h;exact Za p e (s _ _ h)
 | each n ss=>obtain ⟨p,l,e,h,h2⟩:=h;exact Zj p l e (s _ _ h) (s _ _ h2)
def Zpo:Sp:=fun vs H Q _=>∃ d:Nat,vs=[.int (d:Nat)]∧∀ (r:R3) v H',Zk H H'→r.Ok→VE H' v r→(∀ a,H a≠none→VE (wo H' a) v r)→Q v H'
theorem Zpp (Tx:ZO K mg t):ZF P w K mg base ZE 2 t.Zdf t.Zdg ["_law_cell"] Zpo:=by
 refine Tx.Zhv.ok Zg1 (fun vs H Q E h=>?_) (fun cdv A outer s H vs Q E hr h=>?_)
 ·obtain ⟨d,rfl,_⟩:=h
  rfl
 obtain ⟨d,rfl,q⟩:=h
 refine Za _ (Zm (ZX (Xd Wc (Zi ZP (pv 0) Zc) Zc (YJ _))
  (Zp (ZT (Yf (Zb Yk Ze))))
  ZY)
  (Zm (ZX (Xd Wc (Zi ZP (pv 0) Zc) Zc (YJ _))
  (Zp (ZT (Yf (Zb Yk (Zb (Zi XL Zc (Zi ZP (Zi Yl (pv 0) Zc) Zc)) Ze)))))
  ZY)
  (Zm (ZJ (i:=1) Zg1.nd rfl (Or.inl rfl) (Zi ZZ Zc (Zi ZP (Zi Yl (pv 0) Zc) Zc)))
  (Zp (ZT (Yf (Zb Yk (Zb (pv 1) (Zb (ZV (Zk9 rfl) rfl Tx.Zej ZcE (Zb (WO (Zk8 rfl) rfl Tx.Zm1 ZmX (Zb (Yj (Zb (Zi ZP (Zi Yl (pv 0) Zc) (pv 1)) (Zb (Zi ZP (Zi Yl (pv 0) Zc) (pv 1)) Ze))) Ze)) Ze)) Ze))))))))) ?_
 refine Za _ rfl (Xm _ _ rfl rfl (by show (0:Int) < 3;decide) rfl (Za _ rfl (XO (fun _=>?_) (fun _=>?_))))
 ·refine ⟨by show 1≤sizeLine;decide,fun p hp=>q .all _ _ (Zn hp _) trivial (Za p rfl Zh) fun a ha=>(Za p rfl (Z4 Zh fun z=>ha (z ▸ hp)))⟩
 refine Za _ rfl (Xm _ _ rfl rfl (by show (0:Int) < 3;decide) rfl (Za _ rfl (XO (fun _=>?_) (fun _=>?_))))
 ·refine Za _ rfl (Zo _ _ rfl rfl ⟨by decide,by decide⟩ (Zo _ _ rfl rfl (by show (0:Int) < 40;decide) (Zo _ _ rfl rfl (by show 2≤sizeLine;decide) fun p hp=>?_)))
  have e40:Zd H p (.tup [.str (Str.ofString "week"),.int (127 - ((d:Nat):Int) / 3 % 40)]) p=some (.tup [.str (Str.ofString "week"),.int ((127 - d / 3 % 40:Nat):Int)]):=by
   rw [Zh,show ((127 - d / 3 % 40:Nat):Int)=127 - ((d:Nat):Int) / 3 % 40 by omega]
  exact q (.week (127 - d / 3 % 40)) _ _ (Zn hp _) (show 127 - d / 3 % 40≤127 by omega) (Za p rfl e40) fun a ha=>Za p rfl (Z4 e40 fun z=>ha (z ▸ hp))
 refine Za _ rfl (Zo _ _ rfl rfl ⟨by decide,by decide⟩ (Zo _ _ rfl rfl (by show (0:Int) < 3;decide) (Zj _ _ rfl rfl ?_)))
 generalize hn:1+d / 3 % 3=n
 dsimp only
 rw [show (1:Int)+((d:Nat):Int) / 3 % 3=((n:Nat):Int) by omega]
 have n1:1≤n:=by omega
 have n3:n≤3:=by omega
 have pos:(0:Int) < ((n:Nat):Int):=by omega
 refine Za _ rfl (Za _ rfl (Zo _ _ rfl rfl ⟨by decide,by decide⟩ (Za _ rfl (Zo _ _ rfl rfl pos (Za _ rfl (Zo _ _ rfl rfl ⟨by decide,by decide⟩ (Za _ rfl (Xm _ _ rfl rfl pos (by show 2≤sizeLine;decide) fun p1 g1=>?_))))))))
 have t1:=Zn g1 (.lst [.int (((d:Nat):Int) / 9 % ((n:Nat):Int)),.int (((d:Nat):Int) / 27 % ((n:Nat):Int))])
 have c1:=@Zh H p1 (.lst [.int (((d:Nat):Int) / 9 % ((n:Nat):Int)),.int (((d:Nat):Int) / 27 % ((n:Nat):Int))])
 dsimp only [YM,YV,List.append_nil]
 generalize Zd H p1 (.lst [.int (((d:Nat):Int) / 9 % ((n:Nat):Int)),.int (((d:Nat):Int) / 27 % ((n:Nat):Int))])=H1 at t1 c1 ⊢
 refine Zo p1 [((d:Nat):Int) / 9 % ((n:Nat):Int),((d:Nat):Int) / 27 % ((n:Nat):Int)] rfl (Zg.of c1) (by show 2≤1000;decide) fun l2 g2=>?_
 have t2:=t1.trans (Zn g2 (Zbo P w l2 [((d:Nat):Int) / 9 % ((n:Nat):Int),((d:Nat):Int) / 27 % ((n:Nat):Int)]))
 refine Zo l2 _ rfl Zh (by show 2 < 64;decide) fun l3 zs g3 pw mem le=>?_
 have t3:=t2.trans (Zn g3 (.lst (zs.map V.int)))
 refine ⟨by show 3≤sizeLine;decide,fun p4 g4=>?_⟩
 have t4:=Zn g4 (.tup [.str (Str.ofString "each"),.int ((n:Nat):Int),.ref l3])
 refine q (.each n zs) _ _ (t3.trans t4) ⟨n1,n3,fun e=>?_,le,pw,fun z hz=>?_⟩ (Zj p4 l3 rfl Zh (t4 _ _ Zh)) fun a ha=>Zj p4 l3 rfl (Z4 Zh fun z=>ha (t3.free (z ▸ g4))) (Z4 (t4 _ _ Zh) fun z=>ha (t2.free (z ▸ g3)))
 ·have:((d:Nat):Int) / 9 % ((n:Nat):Int)∈zs:=(mem _).mpr List.mem_cons_self
  rw [e] at this
  cases this
 ·have h:=(mem z).mp hz
  simp only [List.mem_cons,List.not_mem_nil,or_false] at h
  rcases h with rfl | rfl
  ·exact ⟨Int.emod_nonneg _ (by omega),Int.emod_lt_of_pos _ pos⟩
  ·exact ⟨Int.emod_nonneg _ (by omega),Int.emod_lt_of_pos _ pos⟩
structure Z3 where
 nm:Str
 z:Nat
 ch:Nat
structure Cl where
 st:Str
 ar:Nat
 lv:Nat
def Ye (H:Hp) (v:V) (c:Cl):Prop:=∃ p,v=.ref p∧H p=some (.tup [.str c.st,.int (c.ar:Nat),.int (c.lv:Nat)])
theorem Ye.same {H H':Hp} {v:V} {c:Cl} (s:Zk H H') (h:Ye H v c):Ye H' v c:=let ⟨p,e,h⟩:=h;(Za p e (s _ _ h))
def Xv (H:Hp) (v:V) (s:Z3):Prop:=∃ p,v=.ref p∧H p=some (.tup [.str s.nm,.int (s.z:Nat),.int (s.ch:Nat)])
theorem Xv.same {H H':Hp} {v:V} {c:Z3} (s:Zk H H') (h:Xv H v c):Xv H' v c:=let ⟨p,e,h⟩:=h;(Za p e (s _ _ h))
structure Vk (NS:List Str) (cs:List Cl):Prop where
 st:∀ c∈cs,c.st∈NS
 rng:∀ c∈cs,c.ar≤c.lv∧c.lv≤2879
 fol:∀ i a b,cs[i]? = some a→cs[i+1]? = some b→b.st≠a.st∧a.lv < b.ar
theorem Vk.nil (NS:List Str):Vk NS []:=⟨fun _ h=>(nomatch h),fun _ h=>(nomatch h),fun _ _ _ h=>(nomatch h)⟩
theorem Vk.snoc {NS:List Str} {cs:List Cl} {c:Cl} (h:Vk NS cs) (l:∀ c0 k,cs=c0++[k]→c.st≠k.st∧k.lv < c.ar) (hc:c.st∈NS) (hr:c.ar≤c.lv∧c.lv≤2879):Vk NS (cs++[c]):=by
 refine ⟨fun x hx=>?_,fun x hx=>?_,fun i a b ea eb=>?_⟩
 ·rcases List.mem_append.mp hx with hx | hx
  ·exact h.st x hx
  ·rw [List.mem_singleton.mp hx];exact hc
 ·rcases List.mem_append.mp hx with hx | hx
  ·exact h.rng x hx
  ·rw [List.mem_singleton.mp hx];exact hr
 ·have hi:=(List.getElem?_eq_some_iff.mp eb).1
  rw [List.length_append,List.length_singleton] at hi
  by_cases hlt:i+1 < cs.length
  ·rw [List.getElem?_append_left (by omega)] at ea eb
   exact h.fol i a b ea eb
  ·have e1:i+1=cs.length:=by omega
   rw [e1,List.getElem?_append_right (Nat.le_refl _),Nat.sub_self] at eb
   obtain rfl:c=b:=Option.some.inj eb
   rw [List.getElem?_append_left (by omega)] at ea
   rcases List.eq_nil_or_concat cs with e | ⟨c0,k,e⟩
   ·rw [e] at e1;simp at e1
   ·rw [List.concat_eq_append] at e
    subst e
    rw [List.length_append,List.length_singleton] at e1
    rw [show i=c0.length by omega,List.getElem?_append_right (Nat.le_refl _),Nat.sub_self] at ea
    obtain rfl:k=a:=Option.some.inj ea
    exact l c0 k rfl
def Zpq:Sp:=fun vs H Q _=>∃ (d:Nat) (ls:Addr) (vs1:List V) (SS:List Z3),vs=[.int (d:Nat),.ref ls]∧H ls=some (.lst vs1)∧Al (Xv H) vs1 SS∧(SS.map Z3.nm).Nodup∧2≤SS.length∧SS.length≤8 ∧
 ∀ (cs:List Cl) l vs H',Zk H H'→H l=none→H' l=some (.lst vs)→Al (Ye H') vs cs→Vk (SS.map Z3.nm) cs→2≤cs.length→cs.length≤4→Q (.ref l) H'
theorem Zpr (Tx:ZO K mg t):ZF P w K mg base ZE 2 t.Zdd t.Zde ["_law_cell","_law_stops"] Zpq:=by
 refine Tx.Zhu.ok Vy (fun vs H Q E h=>?_) (fun cdv A outer s H vs Q E hr h=>?_)
 ·obtain ⟨d,ls,vs1,SS,rfl,_⟩:=h
  rfl
 obtain ⟨d,ls,vs1,SS,rfl,hls,al,nd,n2,n8,q⟩:=h
 refine Za _ (Zm (ZJ (i:=2) Vy.nd rfl (Or.inl rfl) (Zi ZZ Zc (Zi ZP (pv 0) Zc)))
  (Zm (ZJ (i:=3) Vy.nd rfl (Or.inl rfl) (Zi ZZ (Zw YA (Yj (Zb Zc (Zb Zc (Zb Zc (Zb Zc Ze))))) (Zi ZP (Zi Yl (pv 0) Zc) Zc) (fun _ _=>rfl)) (Zi ZP (Zi Yl (pv 0) Zc) Zc)))
  (Zm (ZJ (i:=4) Vy.nd rfl (Or.inl rfl) (Yj Ze))
  (Zm (ZJ (i:=5) Vy.nd rfl (Or.inl rfl) (Zi ZP (Zi Yl (pv 0) Zc) (ZV Xh rfl Tx.YZ YX (Zb (pv 1) Ze))))
  (Zm (YU PassesOwn.never rfl (VN rfl Tx.WU (Zb (pv 2) Ze)) (ZU (i:=6) Vy.nd rfl (Or.inl rfl))
  (Zm (ZJ (i:=7) Vy.nd rfl (Or.inl rfl) (ZB (VD Tx) (hr.mono (by omega)) rfl Tx.VB Tx.Vj.kp Tx.VC .nil Zr (Zb (pv 0) (Zb (pv 6) Ze))))
  (Zm (ZJ (i:=8) Vy.nd rfl (Or.inl rfl) (Zi ZZ (pv 3) (Zw YA (Yj (Zb Zc (Zb Zc (Zb Zc (Zb Zc Ze))))) (Zi ZP (pv 7) Zc) (fun _ _=>rfl))))
  (Zm (Z0 (Vc PySem.F.plainAttrs_list PySem.F.slot_list_append PySem.F.type_list_append Vq (pv 4) (Zb (Yf (Zb (Zw ZQ (Zw YA (pv 1) (pv 5) (fun _ _=>rfl)) Zc (fun _ _=>rfl)) (Zb (pv 3) (Zb (pv 8) Ze)))) Ze)))
  (Zm (ZJ (i:=3) Vy.nd rfl (Or.inl rfl) (Zi ZZ (Zi ZZ (pv 8) Zc) (Zi ZP (Zi Yl (pv 7) Zc) Zc)))
  (Zp (ZJ (i:=5) Vy.nd rfl (Or.inl rfl) (Zi ZP (Zi ZZ (Zi ZZ (pv 5) Zc) (Zi ZP (Zi Yl (pv 7) Zc) (Zi XL (ZV Xh rfl Tx.YZ YX (Zb (pv 1) Ze)) Zc))) (ZV Xh rfl Tx.YZ YX (Zb (pv 1) Ze))))))))))
  (Zp (ZT (pv 4)))))))) ?_
 have lv1:=al.length
 refine Za _ rfl (Zo _ _ rfl rfl (by show (0:Int) < 3;decide) (Zj _ _ rfl rfl ?_))
 generalize hm:2+d % 3=m
 have m2:2≤m:=by omega
 have m4:m≤4:=by omega
 dsimp only
 rw [show (2:Int)+((d:Nat):Int) % 3=((m:Nat):Int) by omega]
 refine ⟨by show 4≤sizeLine;decide,fun p1 g1=>?_⟩
 have t1:=Zn g1 (.lst [.int 480,.int 470,.int 2760,.int 1425])
 have c1:=@Zh H p1 (.lst [.int 480,.int 470,.int 2760,.int 1425])
 generalize Zd H p1 (.lst [.int 480,.int 470,.int 2760,.int 1425])=H1 at t1 c1 ⊢
 obtain ⟨vm,em,b,rfl,hb⟩:=Vs (p:=fun v=>∃ b:Nat,v=.int (b:Nat)∧b≤2760) (xs:=[.int 480,.int 470,.int 2760,.int 1425]) (d:=((d:Nat):Int) / 3 % 4) (fun v hv=>by
  simp only [List.mem_cons,List.not_mem_nil,or_false] at hv
  rcases hv with rfl | rfl | rfl | rfl
  ·exact Za 480 rfl (by decide)
  ·exact Za 470 rfl (by decide)
  ·exact Za 2760 rfl (by decide)
  ·exact Za 1425 rfl (by decide)) (by omega) (by show ((d:Nat):Int) / 3 % 4 < 4;omega)
 refine Za _ rfl (Zo _ _ rfl rfl ⟨by decide,by decide⟩ (Zo _ _ rfl rfl (by show (0:Int) < 4;decide) (Zz p1 _ _ _ rfl rfl (Zg.of c1) em (Za _ rfl (Zo _ _ rfl rfl ⟨by decide,by decide⟩ (Zo _ _ rfl rfl (by show (0:Int) < 20;decide) (Zj _ _ rfl rfl ?_)))))))
 generalize hT:b+d / 12 % 20=T
 have bT:T≤2779:=by omega
 dsimp only
 rw [show ((b:Nat):Int)+((d:Nat):Int) / 12 % 20=((T:Nat):Int) by omega]
 refine ⟨by show 0≤sizeLine;decide,fun lc gc=>?_⟩
 have t2:=t1.trans (Zn gc (.lst []))
 have c2:=@Zh H1 lc (.lst [])
 have fc:H lc=none:=t1.free gc
 generalize Zd H1 lc (.lst [])=H2 at t2 c2 ⊢
 have nlc:ls≠lc:=Yp hls fc
 refine Za _ rfl (Zo _ _ rfl rfl ⟨by decide,by decide⟩ (Za _ rfl (Zj ls _ rfl (.inl (Zg.of (t2 _ _ hls))) (Zo _ _ rfl rfl (by show (0:Int) < ((vs1.length:Nat):Int);omega) ?_))))
 have epl:((d:Nat):Int) / 480 % ((vs1.length:Nat):Int)=((d / 480 % SS.length:Nat):Int):=by rw [lv1,Int.natCast_emod,Int.natCast_ediv];rfl
 dsimp only
 rw [epl]
 have hpl:d / 480 % SS.length < SS.length:=Nat.mod_lt _ (by omega)
 generalize d / 480 % SS.length=pl at hpl ⊢
 refine Za _ rfl (V3 _ rfl (by omega) (by omega) (W9 (fun i σ H'=>∃ (cvs:List V) (cs:List Cl) (T pl:Nat) (v6 v7 v8:Option V),Zk H H'∧H' lc=some (.lst cvs)∧Al (Ye (wo H' lc)) cvs cs∧cs.length=i∧Vk (SS.map Z3.nm) cs∧T≤2779+23 * i∧pl < SS.length∧(∀ c0 k,cs=c0++[k]→(∀ s,SS[pl]? = some s→s.nm≠k.st)∧k.lv < T)∧σ=[some (.int (d:Nat)),some (.ref ls),some (.int (m:Nat)),some (.int (T:Nat)),some (.ref lc),some (.int (pl:Nat)),v6,v7,v8])
  ⟨[],[],T,pl,none,none,none,t2,c2,.nil,rfl,Vk.nil _,by omega,hpl,fun c0 k e=>(by simp at e),rfl⟩ ?_ ?_))
 ·rintro i σ H3 hi ⟨cvs,cs,T,pl,v6,v7,v8,s3,hc3,alc,len,ok,bT,hpl,last,rfl⟩
  have hi4:i < 4:=by omega
  refine Za _ rfl (Za _ rfl (Zo _ _ rfl (by omega) (by omega) ?_))
  generalize Wj ((d:Nat):Int) (0+((i:Nat):Int))=g
  refine Zx _ rfl (by show 4≤sizeLine;decide) fun p4 g4=>?_
  have t4:=Zn g4 (.lst [.int 0,.int 0,.int 1,.int 3])
  have c4:=@Zh H3 p4 (.lst [.int 0,.int 0,.int 1,.int 3])
  have hc4:=t4 _ _ hc3
  have alc4:=alc.imp fun _ _=>Ye.same (YG (l:=lc) t4)
  have s4:=s3.trans t4
  generalize Zd H3 p4 (.lst [.int 0,.int 0,.int 1,.int 3])=H4 at c4 hc4 alc4 s4 ⊢
  obtain ⟨vx,ex,x,rfl,hx⟩:=Vs (p:=fun v=>∃ b:Nat,v=.int (b:Nat)∧b≤3) (xs:=[.int 0,.int 0,.int 1,.int 3]) (d:=((g:Nat):Int) % 4) (fun v hv=>by
   simp only [List.mem_cons,List.not_mem_nil,or_false] at hv
   rcases hv with rfl | rfl | rfl | rfl
   ·exact Za 0 rfl (by decide)
   ·exact Za 0 rfl (by decide)
   ·exact Za 1 rfl (by decide)
   ·exact Za 3 rfl (by decide)) (by omega) (by show ((g:Nat):Int) % 4 < 4;omega)
  refine Za _ rfl (Zo _ _ rfl rfl (by show (0:Int) < 4;decide) (Zz p4 _ _ _ rfl rfl (Zg.of c4) ex (Zj _ _ rfl rfl ?_)))
  dsimp only
  rw [show ((T:Nat):Int)+((x:Nat):Int)=((T+x:Nat):Int) by omega]
  obtain ⟨s0,es0⟩:∃ s0,SS[pl]? = some s0:=⟨_,List.getElem?_eq_getElem hpl⟩
  have hvp:pl < vs1.length:=by omega
  obtain ⟨s1,es1,⟨ps,eps,hps⟩⟩:=al.get (List.getElem?_eq_getElem hvp)
  have e01:s0=s1:=Option.some.inj (es0.symm.trans es1)
  subst e01
  have eat:Yu vs1 ((pl:Nat):Int)=some (.ref ps):=by rw [← eps];exact Xz (List.getElem?_eq_getElem hvp)
  refine Zx _ rfl (.inl ⟨rfl,_,Zg.of hc4⟩) (Za _ rfl (Za _ rfl (Zz ls _ _ _ rfl rfl (Zg.of (s4 _ _ hls)) eat (Zz ps _ 0 _ rfl rfl (Zu.of (s4 _ _ hps)) rfl (Za _ rfl (Zx _ rfl (by show 3≤sizeLine;decide) fun p5 g5=>?_))))))
  have n5:p5≠lc:=fun e=>by rw [e,hc4] at g5;cases g5
  have t5:=Zn g5 (.tup [.str s0.nm,.int ((T:Nat):Int),.int ((T+x:Nat):Int)])
  have lcv:cvs.length≤4:=by rw [alc.length];omega
  refine Yn lc _ _ rfl rfl (t5 _ _ hc4) (Nat.lt_of_le_of_lt lcv (by decide)) ?_
  have hn:SS.length=vs1.length:=lv1.symm
  refine Za _ rfl (Zj _ _ rfl rfl (Za _ rfl (Zo _ _ rfl rfl ⟨by decide,by decide⟩ (Zo _ _ rfl rfl (by show (0:Int) < 20;decide) (Zj _ _ rfl rfl ?_)))))
  dsimp only
  rw [show ((T+x:Nat):Int)+1+((g:Nat):Int) / 4 % 20=((T+x+1+g / 4 % 20:Nat):Int) by omega]
  have hls5:Zd (Zd H4 p5 (.tup [.str s0.nm,.int ((T:Nat):Int),.int ((T+x:Nat):Int)])) lc (.lst (cvs++[.ref p5])) ls=some (.lst vs1):=by rw [Zl nlc];exact t5 _ _ (s4 _ _ hls)
  refine Za _ rfl (Zj _ _ rfl rfl (Za _ rfl (Zo _ _ rfl rfl ⟨by decide,by decide⟩ (Za _ rfl (Zj ls _ rfl (.inl (Zg.of hls5)) (Zj _ _ rfl rfl (Zo _ _ rfl rfl (by show (0:Int) < ((vs1.length:Nat):Int) - 1;omega) (Zj _ _ rfl rfl (Za _ rfl (Zj ls _ rfl (.inl (Zg.of hls5)) (Zo _ _ rfl rfl (by show (0:Int) < ((vs1.length:Nat):Int);omega) ?_)))))))))))
  have e1:((g:Nat):Int) / 80 % (((vs1.length:Nat):Int) - 1)=((g / 80 % (SS.length - 1):Nat):Int):=by
   rw [lv1,Int.natCast_emod,Int.natCast_ediv,show ((SS.length - 1:Nat):Int)=((SS.length:Nat):Int) - 1 by omega];rfl
  have hy:g / 80 % (SS.length - 1) < SS.length - 1:=Nat.mod_lt _ (by omega)
  dsimp only
  rw [e1]
  generalize g / 80 % (SS.length - 1)=y at hy ⊢
  have e2:(((pl:Nat):Int)+1+((y:Nat):Int)) % ((vs1.length:Nat):Int)=(((pl+1+y) % SS.length:Nat):Int):=by
   rw [lv1,Int.natCast_emod];rfl
  rw [e2]
  have hpl2:(pl+1+y) % SS.length < SS.length:=Nat.mod_lt _ (by omega)
  have hne:(pl+1+y) % SS.length≠pl:=by
   by_cases hlt:pl+1+y < SS.length
   ·rw [Nat.mod_eq_of_lt hlt];omega
   ·rw [Nat.mod_eq_sub_mod (by omega),Nat.mod_eq_of_lt (by omega)];omega
  generalize (pl+1+y) % SS.length=pl2 at hpl2 hne ⊢
  refine ⟨cvs++[.ref p5],cs++[⟨s0.nm,T,T+x⟩],T+x+1+g / 4 % 20,pl2,_,_,_,Yb (s4.trans t5) fc _,Zh,?_,by rw [List.length_append,List.length_singleton,len],?_,by omega,hpl2,fun c0 k e=>?_,rfl⟩
  ·rw [Vw]
   exact (alc4.imp fun _ _=>Ye.same (YG (l:=lc) t5)).snoc (Za p5 rfl (Z4 Zh n5))
  ·exact ok.snoc (fun c0 k e=>⟨(last c0 k e).1 s0 es0,(last c0 k e).2⟩) (List.mem_map.mpr (Za s0 (List.mem_of_getElem? es0) rfl)) ⟨by show T≤T+x;omega,by show T+x≤2879;omega⟩
  ·have ek:(⟨s0.nm,T,T+x⟩:Cl)=k:=by
    have:=congrArg List.getLast? e
    simpa using this
   subst ek
   refine ⟨fun s' es'=>fun z=>hne ?_,by show T+x < T+x+1+g / 4 % 20;omega⟩
   have a1:(SS.map Z3.nm)[pl2]? = some s0.nm:=by rw [List.getElem?_map,es'];exact congrArg some z
   have a2:(SS.map Z3.nm)[pl]? = some s0.nm:=by rw [List.getElem?_map,es0];rfl
   exact Ub nd a1 a2
 ·rintro σ H3 ⟨cvs,cs,T,pl,v6,v7,v8,s3,hc3,alc,len,ok,bT,hpl,last,rfl⟩
  have lm:cs.length=m:=by rw [len];omega
  exact Za _ rfl (q cs lc cvs H3 s3 fc hc3 (alc.imp fun _ _=>Ye.same Xr) ok (by omega) (by omega))
def R3.runs (day:Nat):R3→Bool
 | .all=>true
 | .week b=>decide (b / 2 ^ (day % 7) % 2=1)
 | .each n ss=>inV (.int ((day:Nat) % (n:Nat):Int)) (ss.map V.int)
def Zps:Sp:=fun vs H Q _=>∃ (v:V) (r:R3) (day:Nat),vs=[v,.int (day:Nat)]∧VE H v r∧r.Ok∧∀ H',Zk H H'→Q (.bl (r.runs day)) H'
theorem Zh4 (Tx:ZO K mg t):ZF P w K mg base ZE 1 t.Zdl t.Zdm ["_law_rule_here","_law_day"] Zps:=by
 refine Tx.Zes.ok Zmw (fun vs H Q E h=>?_) (fun cdv A outer s H vs Q E hr h=>?_)
 ·obtain ⟨v,r,day,rfl,_⟩:=h
  rfl
 obtain ⟨v,r,day,rfl,hv,ok,q⟩:=h
 refine Za _ (Zm (ZX (Xd Wc (Zw ZQ (pv 0) Zc (fun _ _=>rfl)) Yk (YJ _))
  (Zp (ZT (VP Wc (Zi ZP (Zi Yl (Zw ZQ (pv 0) Zc (fun _ _=>rfl)) (Zw YA (Yj (Zb Zc (Zb Zc (Zb Zc (Zb Zc (Zb Zc (Zb Zc (Zb Zc Ze)))))))) (Zi ZP (pv 1) Zc) (fun _ _=>rfl))) Zc) Zc (YJ _))))
  ZY)
  (Zp (ZT (Zi3 (VP Wc (Zw ZQ (pv 0) Zc (fun _ _=>rfl)) Yk (YJ _)) (UC (VP ZfB (Zi ZP (pv 1) (Zw ZQ (pv 0) Zc (fun _ _=>rfl))) (Zw ZQ (pv 0) Zc (fun _ _=>rfl)) rfl)))))) ?_
 cases r with
 | all =>
  obtain ⟨p,rfl,hp⟩:=hv
  refine Za _ rfl (Z7 p _ 0 _ rfl rfl (Zu.of hp) rfl rfl (Za _ rfl (ZH (by decide +kernel) ?_)))
  refine Za _ rfl (Z7 p _ 0 _ rfl rfl (Zu.of hp) rfl rfl (Za _ rfl (YS (by decide +kernel) ?_)))
  exact q _ (Zk.refl H)
 | week b =>
  obtain ⟨p,rfl,hp⟩:=hv
  have hb:b≤127:=ok
  refine Za _ rfl (Z7 p _ 0 _ rfl rfl (Zu.of hp) rfl rfl (Za _ rfl (YS (by decide +kernel) ?_)))
  refine Za _ rfl (Z7 p _ 1 _ rfl rfl (Zu.of hp) rfl (by show 7≤sizeLine;decide) fun p1 g1=>?_)
  have t1:=Zn g1 (.lst [.int 1,.int 2,.int 4,.int 8,.int 16,.int 32,.int 64])
  have c1:=@Zh H p1 (.lst [.int 1,.int 2,.int 4,.int 8,.int 16,.int 32,.int 64])
  have e7:((day:Nat):Int) % 7=((day % 7:Nat):Int):=by omega
  have h7:day % 7 < 7:=by omega
  unfold R3.runs at q
  generalize day % 7=j at e7 h7 q
  have eat:Yu [V.int 1,.int 2,.int 4,.int 8,.int 16,.int 32,.int 64] ((j:Nat):Int)=some (.int ((2 ^ j:Nat):Int)):=by
   rcases (show j=0∨j=1∨j=2∨j=3∨j=4∨j=5∨j=6 by omega) with rfl | rfl | rfl | rfl | rfl | rfl | rfl <;> rfl
  have pj:0 < 2 ^ j∧2 ^ j≤64:=by
   rcases (show j=0∨j=1∨j=2∨j=3∨j=4∨j=5∨j=6 by omega) with rfl | rfl | rfl | rfl | rfl | rfl | rfl <;> decide
  generalize 2 ^ j=w2 at eat pj q
  rw [← e7] at eat
  refine Za _ rfl (Zo _ _ rfl rfl (by show (0:Int) < 7;decide) (Zz p1 _ _ _ rfl rfl (Zg.of c1) eat (Zo _ _ rfl rfl ⟨by omega,by omega⟩ (Xm _ _ rfl rfl (by show (0:Int) < 2;decide) rfl ?_))))
  have e:decide (V.int (((b:Nat):Int) / ((w2:Nat):Int) % 2)=V.int 1)=decide (b / w2 % 2=1):=by
   have e1:((b:Nat):Int) / ((w2:Nat):Int) % 2=((b / w2 % 2:Nat):Int):=by rw [Int.natCast_emod,Int.natCast_ediv];rfl
   rw [e1]
   by_cases z:b / w2 % 2=1
   ·rw [z];rfl
   ·rw [decide_eq_false z,decide_eq_false fun y=>z (by injection y with y;omega)]
  have q1:=q _ t1
  dsimp only at q1
  rw [← e] at q1
  exact q1
 | each n ss =>
  obtain ⟨p,l,rfl,hp,hl⟩:=hv
  obtain ⟨n1,n3,ne,le,pw,rng⟩:=ok
  refine Za _ rfl (Z7 p _ 0 _ rfl rfl (Zu.of hp) rfl rfl (Za _ rfl (ZH (by decide +kernel) ?_)))
  refine Za _ rfl (Z7 p _ 0 _ rfl rfl (Zu.of hp) rfl rfl (Za _ rfl (ZH (by decide +kernel) ?_)))
  refine Za _ rfl (Za _ rfl (Zz p _ 1 _ rfl rfl (Zu.of hp) rfl (Zo _ _ rfl rfl (by show (0:Int) < ((n:Nat):Int);omega) (Za _ rfl (Zz p _ 2 _ rfl rfl (Zu.of hp) rfl (Xm l _ rfl (.inl (Zg.of hl)) rfl ?_ (q _ (Zk.refl H))))))))
  rw [List.all_map]
  exact List.all_eq_true.mpr fun _ _=>rfl
def mvC (b:Int) (c:Cl) (l:Nat):Str×Int×Int:=(c.st,b+l+c.ar,b+l+c.lv)
def Yo (b:Int) (cs:List Cl) (ls:List Nat):List (Str×Int×Int):=List.zipWith (mvC b) cs ls
def YI (H:Hp) (v:V) (c:Str×Int×Int):Prop:=∃ p,v=.ref p∧H p=some (.tup [.str c.1,.int c.2.1,.int c.2.2])
theorem YI.same {H H':Hp} {v:V} {c:Str×Int×Int} (s:Zk H H') (h:YI H v c):YI H' v c:=let ⟨p,e,h⟩:=h;(Za p e (s _ _ h))
def Zpt (K:W.Frag):Sp:=fun vs H Q _=>∃ (a la:Addr) (b:Int) (cvs:List V) (cs:List Cl) (ls:List Nat),vs=[.ref a,.int b,.ref la]∧Zg K H a cvs∧Al (Ye H) cvs cs∧Zg K H la (ls.map fun n=>V.int (n:Nat))∧cs.length≤6∧ls.length=cs.length ∧
 ∀ l vs H',Zk H H'→H l=none→H' l=some (.lst vs)→Al (YI H') vs (Yo b cs ls)→Q (.ref l) H'
theorem Zh5 (Tx:ZO K mg t):ZF P w K mg base ZE 1 t.ZcZ t.Zc0 ["calls","begin","late"] (Zpt K):=by
 refine Tx.Zer.ok Zmt (fun vs H Q E h=>?_) (fun cdv A outer s H vs Q E hr h=>?_)
 ·obtain ⟨a,la,b,cvs,cs,ls,rfl,_⟩:=h
  rfl
 obtain ⟨a,la,b,cvs,cs,ls,rfl,hS,al,hL,l6,el,q⟩:=h
 refine Za _ (Zp (ZT (Vr (cl:=[(Str.ofString "begin",s.heap.objs.size+1)]) (N:=["call","minutes","begin"]) (fr:=[none,none,some 1]) rfl (Zct rfl Tx.Zek (Zb (pv 0) (Zb (pv 2) Ze))) rfl (by decide +kernel) rfl (by decide +kernel) ⟨⟨rfl,Or.inl rfl,Or.inl rfl,Za _ rfl rfl⟩,trivial⟩ ⟨rfl,trivial⟩ rfl (fun _ _ _ _ _=>(show PG _ _ (Ze3 K 2 _) from W7 rfl (YD (ZU (i:=0) (show List.Nodup (["call","minutes","begin"]:List Str) by decide +kernel) rfl (Or.inl rfl)) (YD (ZU (i:=1) (show List.Nodup (["call","minutes","begin"]:List Str) by decide +kernel) rfl (Or.inl rfl)) W3)))) (fun _ _ _ _ _=>Ug) (fun _ _ _ _ _=>(Yf (Zb (Zw (show Y7 _ (XA K) from ZQ) (pv 0) Zc (fun _ _=>rfl)) (Zb (Zi ZZ (Zi ZZ (pv 2) (pv 1)) (Zw (show Y7 _ (XA K) from ZQ) (pv 0) Zc (fun _ _=>rfl))) (Zb (Zi ZZ (Zi ZZ (pv 2) (pv 1)) (Zw (show Y7 _ (XA K) from ZQ) (pv 0) Zc (fun _ _=>rfl))) Ze)))))))) ?_
 have lc:=al.length
 have lz:(Yo b cs ls).length=cs.length:=by unfold Yo;rw [List.length_zipWith,el,Nat.min_self]
 refine Za _ rfl (Za _ rfl (Zo a la rfl ⟨_,hS⟩ ⟨_,hL⟩ (Zmj (K:=K) (a:=a) (b:=la) (xs:=cvs) (ys:=ls.map fun n=>V.int (n:Nat)) (fun i acc σ H'=>Zk H H'∧Al (YI H') acc ((Yo b cs ls).take i)∧∃ v0 v1,σ=[v0,v1,some (.int b)]) ⟨Zk.refl H,.nil,none,none,rfl⟩ (Nat.le_trans (show _≤6 by omega) (by decide)) (fun i acc σ H' _ _ ⟨s,_⟩=>⟨s.seq hS,s.seq hL⟩) ?_ ?_)))
 ·rintro i x y p acc σ H1 ha hx hy hp ⟨s1,al1,v0,v1,rfl⟩
  obtain ⟨c,ec,pc,rfl,hpc⟩:=al.get hx
  rw [List.getElem?_map] at hy
  obtain ⟨l,el',rfl⟩:=Option.map_eq_some_iff.mp hy
  have t1:=Zn hp (.tup [.ref pc,.int (l:Nat)])
  refine Zo p _ rfl (Zu.of Zh) rfl (ZK _ _ rfl (Zj _ _ rfl rfl ?_))
  dsimp only [VT]
  rw [if_pos rfl]
  have hpc2:=t1 _ _ (s1 _ _ hpc)
  generalize Zd H1 p (.tup [.ref pc,.int (l:Nat)])=H2 at t1 hpc2 ⊢
  refine Za _ rfl (Zz pc _ 0 _ rfl rfl (Zu.of hpc2) rfl (Za _ rfl (Za _ rfl (Zj _ _ rfl rfl (Za _ rfl (Zz pc _ 1 _ rfl rfl (Zu.of hpc2) rfl (Zj _ _ rfl rfl (Za _ rfl (Za _ rfl (Zj _ _ rfl rfl (Za _ rfl (Zz pc _ 2 _ rfl rfl (Zu.of hpc2) rfl (Zo _ _ rfl rfl (by show 3≤sizeLine;decide) fun p3 g3=>?_)))))))))))))
  have t3:=t1.trans (Zn g3 (.tup [.str c.st,.int (b+((l:Nat):Int)+((c.ar:Nat):Int)),.int (b+((l:Nat):Int)+((c.lv:Nat):Int))]))
  refine ⟨by rw [List.length_append,List.length_singleton];omega,s1.trans t3,?_,_,_,rfl⟩
  have em:(Yo b cs ls)[i]? = some (mvC b c l):=by
   unfold Yo
   rw [List.getElem?_zipWith,ec,el']
  rw [List.take_add_one,em]
  exact (al1.imp fun _ _=>YI.same t3).snoc (Za p3 rfl Zh)
 ·rintro i acc σ H1 hi _ ⟨s1,al1,v0,v1,rfl⟩ l hl
  have e:(Yo b cs ls).take i=Yo b cs ls:=List.take_of_length_le (by rw [lz,hi,List.length_map];omega)
  rw [e] at al1
  have t1:=Zn hl (.lst acc)
  exact q l acc _ (s1.trans t1) (s1.free hl) Zh (al1.imp fun _ _=>YI.same t1)
def WW (b e:Int) (ms:List (Str×Int×Int)):Bool:=ms.dropLast.any fun m=>decide (b≤m.2.2) && decide (m.2.2≤e)
theorem Zh6 (xs:List V):X4 xs none (some (-1))=xs.take (xs.length - 1):=by
 unfold X4 HT.sIx
 dsimp only
 rw [if_pos (by decide),List.drop_zero]
 congr 1
 omega
def Zpu (K:W.Frag):Sp:=fun vs H Q _=>∃ (a:Addr) (b e:Int) (mvv:List V) (ms:List (Str×Int×Int)),vs=[.ref a,.int b,.int e]∧Zg K H a mvv∧Al (YI H) mvv ms∧ms.length≤6∧∀ H',Zk H H'→Q (.bl (WW b e ms)) H'
theorem Zpv (Tx:ZO K mg t):ZF P w K mg base ZE 1 t.Zc5 t.Zc6 ["calls","begin","end"] (Zpu K):=by
 refine Tx.Zhs.ok Zmu (fun vs H Q E h=>?_) (fun cdv A outer s H vs Q E hr h=>?_)
 ·obtain ⟨a,b,e,mvv,ms,rfl,_⟩:=h
  rfl
 obtain ⟨a,b,e,mvv,ms,rfl,hS,al,l6,q⟩:=h
 refine Za _ (Zp (ZT (ZV (Zgx rfl) rfl Tx.Zha Zg6 (Zb (Vr (cl:=[(Str.ofString "end",s.heap.objs.size+2),(Str.ofString "begin",s.heap.objs.size+1)]) (N:=["call","begin","end"]) (fr:=[none,some 1,some 2]) rfl (XT (Vp Zat (pv 0) Vn (Vo (Zb8 Zca Zc)))) rfl (by decide +kernel) rfl (by decide +kernel) ⟨⟨rfl,Or.inl rfl,Or.inl rfl,Za _ rfl rfl⟩,⟨⟨rfl,Or.inl rfl,Or.inl rfl,Za _ rfl rfl⟩,trivial⟩⟩ ⟨rfl,⟨rfl,trivial⟩⟩ rfl (fun _ _ _ _ _=>(ZU (i:=0) (show List.Nodup (["call","begin","end"]:List Str) by decide +kernel) rfl (Or.inl rfl))) (fun _ _ _ _ _=>Ug) (fun _ _ _ _ _=>(Zff Wv Wv (pv 1) (Zw (show Y7 _ (XA K) from ZQ) (pv 0) Zc (fun _ _=>rfl)) (pv 2)))) Ze)))) ?_
 have lm:=al.length
 refine Za _ rfl (Za _ rfl (Za _ rfl (Zj a _ rfl hS fun p1 g1=>?_)))
 rw [show X4 mvv none (some (-1))=mvv.take (mvv.length - 1) from Zh6 mvv,lm]
 have t1:=Zn g1 (.lst (mvv.take (ms.length - 1)))
 have c1:=@Zh H p1 (.lst (mvv.take (ms.length - 1)))
 have al1:=(al.take (ms.length - 1)).imp fun _ _=>YI.same t1
 rw [← List.dropLast_eq_take] at al1
 generalize hms:ms.dropLast=md at al1
 have lmd:md.length≤6:=by rw [← hms,List.length_dropLast];omega
 unfold WW at q
 rw [hms] at q
 have lv:=al1.length
 generalize mvv.take (ms.length - 1)=mv1 at t1 c1 al1 lv ⊢
 generalize Zd H p1 (.lst mv1)=H1 at t1 c1 al1 ⊢
 refine Zx p1 rfl ⟨_,Zg.of c1⟩ (Qf (K:=K) (a:=p1) (xs:=mv1) (fun i acc σ H'=>H'=H1∧acc=((md.take i).map fun m=>decide (b≤m.2.2) && decide (m.2.2≤e)).map V.bl∧∃ v,σ=[v,some (.int b),some (.int e)]) ⟨rfl,rfl,none,rfl⟩ (Nat.le_trans (show _≤6 by omega) (by decide)) (fun i acc σ H' _ ⟨z,_⟩=>by rw [z];exact Zg.of c1) ?_ ?_)
 ·rintro i v acc σ H2 ha hv ⟨rfl,rfl,vv,rfl⟩
  obtain ⟨m,em,pm,rfl,hpm⟩:=al1.get hv
  dsimp only [W2,VT]
  rw [if_pos rfl]
  refine Za _ rfl (Za _ rfl (Zz pm _ 2 _ rfl rfl (Zu.of hpm) rfl (Zj _ _ rfl rfl (Za _ rfl ?_))))
  have fin:∀ bb:Bool,bb=(decide (b≤m.2.2) && decide (m.2.2≤e))→(((((md.take i).map fun m=>decide (b≤m.2.2) && decide (m.2.2≤e)).map V.bl)++[V.bl bb]).length≤i+1∧(H2=H2∧((((md.take i).map fun m=>decide (b≤m.2.2) && decide (m.2.2≤e)).map V.bl)++[V.bl bb])=(((md.take (i+1)).map fun m=>decide (b≤m.2.2) && decide (m.2.2≤e)).map V.bl)∧∃ v,[some (V.ref pm),some (.int b),some (.int e)]=[v,some (.int b),some (.int e)])):=fun bb hb=>by
   refine ⟨by rw [List.length_append,List.length_singleton];omega,rfl,?_,_,rfl⟩
   rw [List.take_add_one,em,List.map_append,List.map_append,hb]
   rfl
  refine XO (fun c=>?_) (fun c=>?_)
  ·refine Za _ rfl (Zj _ _ rfl rfl (fin _ ?_))
   rw [show decide (b≤m.2.2)=true from c,Bool.true_and]
  ·refine fin _ ?_
   rw [show decide (b≤m.2.2)=false by simpa using c,Bool.false_and]
 ·rintro acc σ H2 _ ⟨rfl,rfl,v,rfl⟩ l hl
  have e0:md.take mv1.length=md:=List.take_of_length_le (by omega)
  rw [e0]
  have t2:=Zn hl (.lst ((md.map fun m=>decide (b≤m.2.2) && decide (m.2.2≤e)).map V.bl))
  refine Zj l _ rfl (Zg.of Zh) ?_
  have q1:=q _ (t1.trans t2)
  rw [List.any_map]
  exact q1
def Ws:Int→List Cl→List Nat→Bool
 | last,c::cs,l::ls=>if ((c.ar:Nat):Int)+((l:Nat):Int)≤last then false else Ws (((c.lv:Nat):Int)+((l:Nat):Int)) cs ls
 | _,_,_=>true
theorem ZeC (last:Int) (c:Cl) (cs:List Cl) (l:Nat) (ls:List Nat):Ws last (c::cs) (l::ls)=if ((c.ar:Nat):Int)+((l:Nat):Int)≤last then false else Ws (((c.lv:Nat):Int)+((l:Nat):Int)) cs ls:=by rw [Ws]
def Zpw (K:W.Frag):Sp:=fun vs H Q _=>∃ (a la:Addr) (cvs:List V) (cs:List Cl) (ls:List Nat),vs=[.ref a,.ref la]∧Zg K H a cvs∧Al (Ye H) cvs cs∧Zg K H la (ls.map fun n=>V.int (n:Nat))∧ls.length=cs.length∧∀ H',Zk H H'→Q (.bl (Ws (-1) cs ls)) H'
theorem Zpx (Tx:ZO K mg t):ZF P w K mg base ZE 1 t.Zdn t.Zdo ["_law_calls_here","_law_lates"] (Zpw K):=by
 refine Tx.ZhA.ok ZaE (fun vs H Q E h=>?_) (fun cdv A outer s H vs Q E hr h=>?_)
 ·obtain ⟨a,la,cvs,cs,ls,rfl,_⟩:=h
  rfl
 obtain ⟨a,la,cvs,cs,ls,rfl,hS,al,hL,el,q⟩:=h
 refine Za _ (Zm (ZJ (i:=2) ZaE.nd rfl (Or.inl rfl) (Zb8 Zca Zc))
  (Zm (YU PassesOwn.never rfl (Zct rfl Tx.Zek (Zb (pv 0) (Zb (pv 1) Ze))) (W7 rfl (YD (ZU (i:=3) ZaE.nd rfl (Or.inl rfl)) (YD (ZU (i:=4) ZaE.nd rfl (Or.inl rfl)) W3)))
  (Zm (ZX (Xd Wv (Zi ZZ (Zw ZQ (pv 3) Zc (fun _ _=>rfl)) (pv 4)) (pv 2) (YJ _))
  (Zp (ZT Wm))
  ZY)
  (Zp (ZJ (i:=2) ZaE.nd rfl (Or.inl rfl) (Zi ZZ (Zw ZQ (pv 3) Zc (fun _ _=>rfl)) (pv 4))))))
  (Zp (ZT Wm)))) ?_
 have lc:=al.length
 refine Za _ rfl ?_
 refine Za _ rfl (Za _ rfl (Zo a la rfl ⟨_,hS⟩ ⟨_,hL⟩ (Zgh (K:=K) (a:=a) (b:=la) (xs:=cvs) (ys:=ls.map fun n=>V.int (n:Nat)) (fun i σ H'=>Zk H H'∧∃ (last:Int) (v3 v4:Option V),Ws last (cs.drop i) (ls.drop i)=Ws (-1) cs ls∧σ=[some (.ref a),some (.ref la),some (.int last),v3,v4]) ⟨Zk.refl H,-1,none,none,rfl,rfl⟩ (fun i σ H' _ _ ⟨s,_⟩=>⟨s.seq hS,s.seq hL⟩) ?_ ?_)))
 ·rintro i x y p σ H1 hx hy hp ⟨s1,last,v3,v4,er,rfl⟩
  obtain ⟨c,ec,pc,rfl,hpc⟩:=al.get hx
  rw [List.getElem?_map] at hy
  obtain ⟨l,el',rfl⟩:=Option.map_eq_some_iff.mp hy
  obtain ⟨hci,ec'⟩:=List.getElem?_eq_some_iff.mp ec
  obtain ⟨hli,el2⟩:=List.getElem?_eq_some_iff.mp el'
  rw [List.drop_eq_getElem_cons hci,List.drop_eq_getElem_cons hli,ec',el2] at er
  have t1:=Zn hp (.tup [.ref pc,.int (l:Nat)])
  refine Zo p _ rfl (Zu.of Zh) rfl (ZK _ _ rfl (Zj _ _ rfl rfl ?_))
  have hpc2:=t1 _ _ (s1 _ _ hpc)
  have s2:=s1.trans t1
  generalize Zd H1 p (.tup [.ref pc,.int (l:Nat)])=H2 at t1 hpc2 s2 ⊢
  refine Za _ rfl (Zz pc _ 1 _ rfl rfl (Zu.of hpc2) rfl (Za _ rfl (Zj _ _ rfl rfl (Za _ rfl (Zj _ _ rfl rfl (Za _ rfl ?_))))))
  rw [ZeC] at er
  refine XO (fun z=>?_) (fun z=>?_)
  ·rw [if_pos (of_decide_eq_true z)] at er
   rw [← er] at q
   exact q _ s2
  ·rw [if_neg (fun y=>z (decide_eq_true y))] at er
   exact Za _ rfl (Zz pc _ 2 _ rfl rfl (Zu.of hpc2) rfl (Za _ rfl (Zo _ _ rfl rfl s2 ⟨_,_,_,er,rfl⟩)))
 ·rintro i σ H1 hi ⟨s1,last,v3,v4,er,rfl⟩
  have e1:cs.drop i=[]:=List.drop_eq_nil_of_le (by rw [hi,List.length_map];omega)
  rw [e1] at er
  have e2:Ws last [] (ls.drop i)=true:=by unfold Ws;rfl
  rw [e2] at er
  rw [← er] at q
  exact q _ s1
def Ut (c a:Str×Int×Int):Bool:=!decide (V.str c.1=V.str a.1) && decide (c.2.1 > a.2.2)
def Zpy:Sp:=fun vs H Q _=>∃ (v u:V) (c a:Str×Int×Int),vs=[v,u]∧YI H v c∧YI H u a∧Q (.bl (Ut c a)) H
theorem Zh7 (Tx:ZO K mg t):ZF P w K mg base ZE 1 t.ZcX t.ZcY ["call","ahead"] Zpy:=by
 refine Tx.Zeq.ok Zms (fun vs H Q E h=>?_) (fun cdv A outer s H vs Q E hr h=>?_)
 ·obtain ⟨v,u,c,a,rfl,_⟩:=h
  rfl
 obtain ⟨v,u,c,a,rfl,⟨p,rfl,hp⟩,⟨r,rfl,hr'⟩,q⟩:=h
 refine Za _ (Zp (ZT (U6 (VP Zjw (Zw ZQ (pv 0) Zc (fun _ _=>rfl)) (Zw ZQ (pv 1) Zc (fun _ _=>rfl)) (YJ _)) (UC (VP Zcb (Zw ZQ (pv 0) Zc (fun _ _=>rfl)) (Zw ZQ (pv 1) Zc (fun _ _=>rfl)) (YJ _)))))) ?_
 refine Za _ rfl (Zz p _ 0 _ rfl rfl (Zu.of hp) rfl (Za _ rfl (Z7 r _ 0 _ rfl rfl (Zu.of hr') rfl rfl (Za _ rfl ?_))))
 unfold Ut at q
 refine XO (fun z=>?_) (fun z=>?_)
 ·refine Za _ rfl (Zz p _ 1 _ rfl rfl (Zu.of hp) rfl (Za _ rfl (Zz r _ 2 _ rfl rfl (Zu.of hr') rfl (Zj _ _ rfl rfl ?_))))
  rw [show (!decide (V.str c.1=V.str a.1))=true from z,Bool.true_and] at q
  exact q
 ·rw [show (!decide (V.str c.1=V.str a.1))=false by simpa using z,Bool.false_and] at q
  exact q
def Zpz (K:W.Frag):Sp:=fun vs H Q _=>∃ (a:Addr) (mvv:List V) (ms:List (Str×Int×Int)),vs=[.ref a]∧Zg K H a mvv∧Al (YI H) mvv ms∧ms.length≤6∧(∀ i x y,ms[i]? = some x→ms[i+1]? = some y→Ut y x=true)∧∀ H',Zk H H'→Q .non H'
theorem ZpA (Tx:ZO K mg t):ZF P w K mg base ZE 2 t.Zc1 t.Zc2 ["calls"] (Zpz K):=by
 refine Tx.Zhq.ok ZgZ (fun vs H Q E h=>?_) (fun cdv A outer s H vs Q E hr h=>?_)
 ·obtain ⟨a,mvv,ms,rfl,_⟩:=h
  rfl
 obtain ⟨a,mvv,ms,rfl,hS,al,l6,ok,q⟩:=h
 refine Za _ (Zp (YU PassesOwn.never rfl (Zb6 rfl Tx.WU (Zb Zc (Zb (ZV Xh rfl Tx.YZ YX (Zb (pv 0) Ze)) Ze))) (ZU (i:=1) ZgZ.nd rfl (Or.inl rfl))
  (Zp (ZX (Yq (Ym (ZB (Zh7 Tx) (hr.mono (by omega)) rfl Tx.Zhm Tx.Zeq.kp Tx.Zhn .nil Zr (Zb (Zw YA (pv 0) (pv 1) (fun _ _=>rfl)) (Zb (Zw YA (pv 0) (Zi XL (pv 1) Zc) (fun _ _=>rfl)) Ze)))))
  (Zp YT)
  ZY)))) ?_
 have lm:=al.length
 refine Za _ rfl (Zj a _ rfl (.inl hS) (Zj 1 _ rfl ⟨by decide,by decide,by omega,by omega⟩ (W9 (lo:=1) (n:=(((mvv.length:Nat):Int) - 1).toNat) (fun i σ H'=>H'=H∧∃ v,σ=[some (.ref a),v]) ⟨rfl,none,rfl⟩ ?_ ?_)))
 ·rintro i σ H1 hi ⟨rfl,v,rfl⟩
  have h1:i+1 < mvv.length:=by omega
  obtain ⟨y,ey,hy⟩:=al.get (List.getElem?_eq_getElem h1)
  obtain ⟨x,ex,hx⟩:=al.get (List.getElem?_eq_getElem (show i < mvv.length by omega))
  have e1:Yu mvv ((1:Int)+((i:Nat):Int))=some mvv[i+1]:=by
   rw [show (1:Int)+((i:Nat):Int)=((i+1:Nat):Int) by omega]
   exact Xz (List.getElem?_eq_getElem h1)
  have e2:Yu mvv ((1:Int)+((i:Nat):Int) - 1)=some mvv[i]:=by
   rw [show (1:Int)+((i:Nat):Int) - 1=((i:Nat):Int) by omega]
   exact Xz (List.getElem?_eq_getElem (by omega))
  refine Za _ rfl (Za _ rfl (Zz a _ _ _ rfl rfl hS e1 (Za _ rfl (Za _ rfl (Zj _ _ rfl rfl (Zz a _ _ _ rfl rfl hS e2 (Xu _ _ y x rfl hy hx (Za _ rfl ?_))))))))
  rw [ok i x y ex ey]
  exact ZH (by decide) ⟨rfl,_,rfl⟩
 ·rintro σ H1 ⟨rfl,v,rfl⟩
  exact q _ (Zk.refl _)
def ZpB:Sp:=fun vs H Q _=>∃ (a:Addr) (ss:List Nat) (n lo:Nat) (hi:Int),vs=[.ref a,.int (n:Nat),.int (lo:Nat),.int hi]∧H a=some (.lst (Xj ss))∧1≤ss.length∧ss.length≤n∧ss.Pairwise (· < ·)∧(∀ x∈ss,lo≤x∧((x:Nat):Int)≤hi)∧Q (.bl true) H
theorem Zh8 (Tx:ZO K mg t):ZF P w K mg base ZE 3 t.ZcL t.ZcM ["values","longest","least","most"] ZpB:=by
 refine Tx.Zeo.ok Zbv (fun vs H Q E h=>?_) (fun cdv A outer s H vs Q E hr h=>?_)
 ·obtain ⟨a,ss,n,lo,hi,rfl,_⟩:=h
  rfl
 obtain ⟨a,ss,n,lo,hi,rfl,ha,l1,l2,up,al,q⟩:=h
 refine Za _ (Zm (ZX (PW.pt (VM (Yq (Ym (ZV WP rfl Tx.Wh Wf (Zb (pv 0) (Zb (WQ rfl Tx.Vi Vh) Ze))))) (VL (Yq (Zbe Wv Wv Zc (ZV Xh rfl Tx.YZ YX (Zb (pv 0) Ze)) (pv 1))))))
  (Zp (ZT Wm))
  ZY)
  (Zm (ZJ (i:=4) Zbv.nd rfl (Or.inl rfl) (pv 2))
  (Zm (YU PassesOwn.never rfl (XT (pv 0)) (ZU (i:=5) Zbv.nd rfl (Or.inl rfl))
  (Zm (ZX (Yq (Ym (ZB (ZaW Tx) (hr.mono (by omega)) rfl Tx.ZaM Tx.Zai.kp Tx.ZaN .nil Zr (Zb (pv 5) (Zb (pv 4) (Zb (pv 3) Ze))))))
  (Zp (ZT Wm))
  ZY)
  (Zp (ZJ (i:=4) Zbv.nd rfl (Or.inl rfl) (Zi ZZ (pv 5) Zc)))))
  (Zp (ZT Wm))))) ?_
 have hlen:(Xj ss).length=ss.length:=List.length_map ..
 refine Za _ rfl (Xu (.ref a) ("list") _ _ rfl (.lst ha) rfl (Za _ rfl (ZH (by decide) ?_)))
 refine Za _ rfl (Zj a _ rfl (.inl (Zg.of ha)) (Zj _ _ rfl rfl (Za _ rfl (YS (decide_eq_true (by rw [hlen];omega)) ?_))))
 refine Za _ rfl (Zj _ _ rfl rfl (Za _ rfl (ZH (by rw [decide_eq_true (show (((Xj ss).length:Nat):Int)≤((n:Nat):Int) by rw [hlen];omega)];decide) ?_)))
 refine Za _ rfl (Za _ rfl (Zx a rfl ⟨_,Zg.of ha⟩ (W8 (xs:=Xj ss) (fun i σ H'=>H'=H∧∃ (f:Nat) (v:Option V),σ=[some (.ref a),some (.int (n:Nat)),some (.int (lo:Nat)),some (.int hi),some (.int (f:Nat)),v]∧∀ j x,i≤j→ss[j]? = some x→f≤x)
  ⟨rfl,ZK lo _ rfl fun j x _ e=>(al x (List.mem_of_getElem? e)).1⟩ (fun i σ H' _ ⟨e,_⟩=>by rw [e];exact Zg.of ha) ?_ ?_)))
 ·rintro i x σ H' hx ⟨rfl,f,v,rfl,hf⟩
  rw [List.getElem?_map] at hx
  cases hs:ss[i]? with
  | none=>rw [hs] at hx;cases hx
  | some m =>
   rw [hs] at hx
   obtain rfl:V.int ((m:Nat):Int)=x:=Option.some.inj hx
   have hm:=al m (List.mem_of_getElem? hs)
   have fm:=hf i m (Nat.le_refl _) hs
   refine Za _ rfl (Za _ rfl (Za _ rfl (UR (.int (m:Nat)) _ _ ("int") rfl (.int _) (Za _ rfl (ZH (by rw [Zbp (by omega) hm.2];decide) ?_)))))
   refine Za _ rfl (Zo _ _ rfl rfl rfl (ZK (m+1) _ rfl fun j y hj e=>?_))
   have:=List.pairwise_iff_getElem.mp up i j (List.getElem?_eq_some_iff.mp hs).1 (List.getElem?_eq_some_iff.mp e).1 (by omega)
   rw [(List.getElem?_eq_some_iff.mp hs).2,(List.getElem?_eq_some_iff.mp e).2] at this
   exact this
 ·rintro σ H' ⟨rfl,f,v,rfl,_⟩
  exact q
def Xg (t:Z9) (H:Hp) (v:V):R3→Prop
 | .all=>∃ p dx,v=.ref p∧H p=some (.ins t.XF dx [])
 | .week b=>∃ p dx,v=.ref p∧H p=some (.ins t.Wg dx [("bits",.int (b:Nat))])
 | .each n ss=>∃ p dx q,v=.ref p∧H p=some (.ins t.XY dx [("length",.int (n:Nat)),("starts",.ref q)])∧H q=some (.tup (ss.map V.int))
theorem Xg.same {H H':Hp} {v:V} {r:R3} (s:Zk H H') (h:Xg t H v r):Xg t H' v r:=by
 cases r with
 | all=>obtain ⟨p,dx,e,h⟩:=h;exact ZK p dx e (s _ _ h)
 | week b=>obtain ⟨p,dx,e,h⟩:=h;exact ZK p dx e (s _ _ h)
 | each n ss=>obtain ⟨p,dx,q,e,h,h2⟩:=h;exact XX p dx q e (s _ _ h) (s _ _ h2)
theorem ZpC {ss:List Int} (h:∀ z∈ss,0≤z):ss.map V.int=Xj (ss.map Int.toNat):=by
 unfold Xj
 rw [List.map_map]
 exact List.map_congr_left fun z hz=>by
  show V.int z=V.int ((z.toNat:Nat):Int)
  rw [show ((z.toNat:Nat):Int)=z by have:=h z hz;omega]
def ZpD (t:Z9):Sp:=fun vs H Q _=>∃ (x dx:Addr) (b:Nat),vs=[.ref x,.int (b:Nat)]∧b≤127∧H x=some (.ins t.Wg dx [])∧Q .non (Zd H x (.ins t.Wg dx [("bits",.int (b:Nat))]))
theorem Zh9 (Tx:ZO K mg t):ZF P w K mg base ZE 3 t.Zdx t.Zdy ["self","bits"] (ZpD t):=by
 refine Tx.ZnQ.ok Zmz (fun vs H Q E h=>?_) (fun cdv A outer s H vs Q E hr h=>?_)
 ·obtain ⟨x,dx,b,rfl,_⟩:=h
  rfl
 obtain ⟨x,dx,b,rfl,b1,hx,q⟩:=h
 refine Za _ (Zm (ZX (Yq (Ym (ZB (ZaW Tx) (hr.mono (by omega)) rfl Tx.ZaM Tx.Zai.kp Tx.ZaN .nil Zr (Zb (pv 1) (Zb Zc (Zb (YH rfl Tx.Zm5) Ze))))))
  (Zp YT)
  ZY)
  (Zp (Va (pv 0) (pv 1) rfl))) ?_
 refine Za _ rfl (UR (.int (b:Nat)) 0 127 ("int") rfl (.int (b:Nat)) (Za _ rfl (ZH (by rw [show UJ (.int (b:Nat)) 0 127=true from decide_eq_true ⟨by omega,by omega⟩];decide) ?_)))
 exact Za _ rfl (Za _ rfl (Z7 x _ dx _ rfl hx Tx.Zak Tx.Zey (by decide) q))
def ZpE (t:Z9):Sp:=fun vs H Q _=>∃ (x dx l:Addr) (n:Nat) (ss:List Int),vs=[.ref x,.int (n:Nat),.ref l]∧(R3.each n ss).Ok∧H l=some (.lst (ss.map V.int))∧H x=some (.ins t.XY dx []) ∧
 ∀ q H',Zk (wo H x) H'→H' x=some (.ins t.XY dx [("length",.int (n:Nat)),("starts",.ref q)])→H' q=some (.tup (ss.map V.int))→Q .non H'
theorem Zia (Tx:ZO K mg t):ZF P w K mg base ZE 4 t.Zdz t.ZdA ["self","length","starts"] (ZpE t):=by
 refine Tx.ZnV.ok ZmC (fun vs H Q E h=>?_) (fun cdv A outer s H vs Q E hr h=>?_)
 ·obtain ⟨x,dx,l,n,ss,rfl,_⟩:=h
  rfl
 obtain ⟨x,dx,l,n,ss,rfl,ok,hl,hx,q⟩:=h
 obtain ⟨n1,n3,ne,le,pw,rng⟩:=ok
 refine Za _ (Zm (ZX (Yq (Ym (ZB (ZaW Tx) (hr.mono (by omega)) rfl Tx.ZaM Tx.Zai.kp Tx.ZaN .nil Zr (Zb (pv 1) (Zb Zc (Zb (YH rfl Tx.Zm6) Ze))))))
  (Zp YT)
  ZY)
  (Zm (ZX (Yq (Ym (ZB (Zh8 Tx) (hr.mono (by omega)) rfl Tx.Zhg Tx.Zeo.kp Tx.Zhh .nil Zr (Zb (pv 2) (Zb (YH rfl Tx.Zm7) (Zb Zc (Zb (Zi XL (pv 1) Zc) Ze)))))))
  (Zp YT)
  ZY)
  (Zm (Va (pv 0) (pv 1) rfl)
  (Zp (Va (pv 0) (WO Zbk rfl Tx.UU UT (Zb (pv 2) Ze)) rfl))))) ?_
 refine Za _ rfl (UR (.int (n:Nat)) 1 28 ("int") rfl (.int (n:Nat)) (Za _ rfl (ZH (by rw [show UJ (.int (n:Nat)) 1 28=true from decide_eq_true ⟨by omega,by omega⟩];decide) ?_)))
 have e0:=ZpC fun z hz=>(rng z hz).1
 have len1:1≤(ss.map Int.toNat).length:=by
  rw [List.length_map]
  exact List.length_pos_iff.mpr ne
 have up:(ss.map Int.toNat).Pairwise (· < ·):=by
  rw [List.pairwise_map]
  exact pw.imp_of_mem fun ha hb hab=>by have:=(rng _ ha).1;omega
 refine Za _ rfl (Za _ rfl (Zj _ _ rfl rfl ⟨l,ss.map Int.toNat,12,0,((n:Nat):Int) - 1,rfl,by rw [← e0];exact hl,len1,by rw [List.length_map];omega,up,fun y hy=>?_,Za _ rfl (ZH (by decide) ?_)⟩))
 ·obtain ⟨z,hz,rfl⟩:=List.mem_map.mp hy
  have:=rng z hz
  exact ⟨Nat.zero_le _,by omega⟩
 refine Za _ rfl (Za _ rfl (Z7 x _ dx [] rfl hx Tx.V6 Tx.Zez (by decide) ?_))
 have nlx:l≠x:=YL hl hx (by intro z;cases z)
 have hl1:Zd H x (.ins t.XY dx (YQ "length" (.int (n:Nat)) [])) l=some (.lst (ss.map V.int)):=by rw [Zl nlx];exact hl
 refine Za _ rfl (ZK l _ rfl (.inl ⟨Zg.of hl1,fun p hp=>?_⟩))
 have np:p≠x:=fun z=>by rw [z,Zh] at hp;cases hp
 refine Za _ rfl (Z7 x _ dx _ rfl (by rw [Zl np.symm];exact Zh) Tx.V6 Tx.ZeA (Nat.lt_of_le_of_lt (Zbh _ _ _) (by decide)) ?_)
 refine q p _ (fun a o e=>?_) Zh (by rw [Zl np];exact Zh)
 obtain ⟨na,e⟩:=XQ e
 have nap:a≠p:=fun z=>by
  rw [Zl np] at hp
  rw [z,hp] at e
  cases e
 rw [Zl na,Zl nap,Zl na]
 exact e
def UZ (t:Z9) (ro:R3→Prop):Sp:=fun vs H Q _=>∃ (v:V) (r:R3),vs=[v]∧Xg t H v r∧r.Ok∧ro r∧∀ v' H',Zk H H'→Xg t H' v' r→Q v' H'
def ZbU:R3→Prop | .all=>True | _=>False
def ZbV:R3→Prop | .week _=>True | _=>False
def ZbW:R3→Prop | .each _ _=>True | _=>False
theorem ZpF (Tx:ZO K mg t):ZF P w K mg base ZE 1 t.ZbA t.ZbB ["self"] (UZ t ZbU):=by
 refine Tx.ZnM.ok Zmx (fun vs H Q E h=>?_) (fun cdv A outer s H vs Q E hr h=>?_)
 ·obtain ⟨v,r,rfl,_⟩:=h
  rfl
 obtain ⟨v,r,rfl,hv,_,ro,q⟩:=h
 refine Za _ (Zp (ZT (ZfY Tx.ZhN rfl Tx.ZaV))) ?_
 cases r with
 | all =>
  intro x dx nx ndx nex
  exact q _ _ (Yb (Zn ndx _) nx _) (ZK x dx rfl Zh)
 | week b=>exact ro.elim
 | each n ss=>exact ro.elim
theorem ZpG (Tx:ZO K mg t):ZF P w K mg base ZE 5 t.ZbE t.ZbF ["self"] (UZ t ZbV):=by
 refine Tx.ZnR.ok ZmA (fun vs H Q E h=>?_) (fun cdv A outer s H vs Q E hr h=>?_)
 ·obtain ⟨v,r,rfl,_⟩:=h
  rfl
 obtain ⟨v,r,rfl,hv,ok,ro,q⟩:=h
 refine Za _ (Zp (ZT (Qa Tx.ZhO (Zh9 Tx) (hr.mono (by omega)) rfl Tx.ZhX Tx.ZhE .nil Zr (Zb (Ya (pv 0) rfl) Ze)))) ?_
 cases r with
 | all=>exact ro.elim
 | week b =>
  obtain ⟨p,dx,rfl,hp⟩:=hv
  refine Za _ rfl (Z5 p _ dx _ _ rfl hp Tx.Zak Tx.Zey rfl fun x dx' nx ndx nex=>?_)
  exact Yn x dx' b rfl ok Zh rfl (q _ _ (Yb (Yb (Zn ndx _) nx _) nx _) (ZK x dx' rfl Zh))
 | each n ss=>exact ro.elim
theorem ZpH (Tx:ZO K mg t):ZF P w K mg base ZE 6 t.ZbI t.ZbJ ["self"] (UZ t ZbW):=by
 refine Tx.ZnW.ok ZmD (fun vs H Q E h=>?_) (fun cdv A outer s H vs Q E hr h=>?_)
 ·obtain ⟨v,r,rfl,_⟩:=h
  rfl
 obtain ⟨v,r,rfl,hv,ok,ro,q⟩:=h
 refine Za _ (Zp (ZT (Qa Tx.ZhP (Zia Tx) (hr.mono (by omega)) rfl Tx.ZhY Tx.ZhF .nil Zr (Zb (Ya (pv 0) rfl) (Zb (WO Qb rfl Tx.Vi Vh (Zb (Ya (pv 0) rfl) Ze)) Ze))))) ?_
 cases r with
 | all=>exact ro.elim
 | week b=>exact ro.elim
 | each n ss =>
  obtain ⟨p,dx,s0,rfl,hp,hs⟩:=hv
  refine Za _ rfl (Z5 p _ dx _ _ rfl hp Tx.V6 Tx.Zez rfl (Za _ rfl (Z5 p _ dx _ _ rfl hp Tx.V6 Tx.ZeA rfl (Zj s0 _ rfl (.inr (Zu.of hs)) fun l gl=>?_))))
  have t1:=Zn gl (.lst (ss.map V.int))
  have c1:=@Zh H l (.lst (ss.map V.int))
  dsimp only [YM,YV,List.append_nil]
  generalize Zd H l (.lst (ss.map V.int))=H1 at t1 c1 ⊢
  intro x dx' nx ndx nex
  have t2:=Yb (Zn ndx (.own x)) nx (.ins t.XY dx' [])
  refine Ql x dx' l n ss rfl ok (t2 _ _ c1) Zh fun q0 H' s' hx hq=>⟨rfl,q _ _ ?_ (XX x dx' q0 rfl hx hq)⟩
  exact t1.trans ((We t2 nx).trans s')
def ZpI (t:Z9):Sp:=UZ t fun _=>True
theorem Zib (Tx:ZO K mg t):ZF P w K mg base ZE 7 t.ZcR t.ZcS ["rule"] (ZpI t):=by
 refine Tx.Zep.ok Zmp (fun vs H Q E h=>?_) (fun cdv A outer s H vs Q E hr h=>?_)
 ·obtain ⟨v,r,rfl,_⟩:=h
  rfl
 obtain ⟨v,r,rfl,hv,ok,_,q⟩:=h
 cases r with
 | all =>
  obtain ⟨p,dx,rfl,hp⟩:=hv
  refine Za _ (Zm (ZX (Yq (Ym (ZV Zck rfl Tx.Wh Wf (Zb (pv 0) (Zb (Zcl rfl Tx.ZaV) Ze)))))
  (Zp YT)
  ZY)
  (Zp (ZT (Zcm (pv 0))))) ?_
  refine Za _ rfl (Xu (.ref p) t.XF _ _ rfl (Tx.ZoU.ty Tx.Zex hp) Tx.ZoV (Za _ rfl (ZH (by decide) ?_)))
  exact Za _ rfl ⟨p,t.XF,dx,_,t.ZbA,t.ZbB,1,["self"],UZ t ZbU,ZE,E0,rfl,hp,rfl,Tx.Zex,Tx.ZoA,ZpF Tx,hr.mono (by omega),Tx.ZnN,Zr,Xm _ .all rfl (ZK p dx rfl hp) ok trivial q⟩
 | week b =>
  obtain ⟨p,dx,rfl,hp⟩:=hv
  refine Za _ (Zm (ZX (Yq (Ym (ZV Zck rfl Tx.Wh Wf (Zb (pv 0) (Zb (Zcl rfl Tx.ZaV) Ze)))))
  (Zp YT)
  ZY)
  (Zp (ZT (Zcm (pv 0))))) ?_
  refine Za _ rfl (Xu (.ref p) t.XF _ _ rfl (Tx.ZoW.ty Tx.Zak hp) Tx.ZoX (Za _ rfl (ZH (by decide) ?_)))
  exact Za _ rfl ⟨p,t.Wg,dx,_,t.ZbE,t.ZbF,5,["self"],UZ t ZbV,ZE,E0,rfl,hp,rfl,Tx.Zak,Tx.ZoC,ZpG Tx,hr.mono (by omega),Tx.ZnS,Zr,Xm _ (.week b) rfl (ZK p dx rfl hp) ok trivial q⟩
 | each n ss =>
  obtain ⟨p,dx,s0,rfl,hp,hs⟩:=hv
  refine Za _ (Zm (ZX (Yq (Ym (ZV Zck rfl Tx.Wh Wf (Zb (pv 0) (Zb (Zcl rfl Tx.ZaV) Ze)))))
  (Zp YT)
  ZY)
  (Zp (ZT (Zcm (pv 0))))) ?_
  refine Za _ rfl (Xu (.ref p) t.XF _ _ rfl (Tx.ZoY.ty Tx.V6 hp) Tx.ZoZ (Za _ rfl (ZH (by decide) ?_)))
  exact Za _ rfl ⟨p,t.XY,dx,_,t.ZbI,t.ZbJ,6,["self"],UZ t ZbW,ZE,E0,rfl,hp,rfl,Tx.V6,Tx.ZoE,ZpH Tx,hr.mono (by omega),Tx.ZnX,Zr,Xm _ (.each n ss) rfl (XX p dx s0 rfl hp hs) ok trivial q⟩
def Zal (t:Z9) (ro:R3→Prop):Sp:=fun vs H Q _=>∃ (v:V) (r:R3) (day:Nat),vs=[v,.int (day:Nat)]∧Xg t H v r∧r.Ok∧ro r∧Q (.bl (r.runs day)) H
theorem ZpJ (Tx:ZO K mg t):ZF P w K mg base ZE 1 t.ZbC t.ZbD ["self","day"] (Zal t ZbU):=by
 refine Tx.ZnO.ok Zmy (fun vs H Q E h=>?_) (fun cdv A outer s H vs Q E hr h=>?_)
 ·obtain ⟨v,r,day,rfl,_⟩:=h
  rfl
 obtain ⟨v,r,day,rfl,hv,ok,ro,q⟩:=h
 refine Za _ (Zp (ZT Wm)) ?_
 cases r with
 | all=>exact q
 | week b=>exact ro.elim
 | each n ss=>exact ro.elim
theorem ZpK (Tx:ZO K mg t):ZF P w K mg base ZE 1 t.ZbG t.ZbH ["self","day"] (Zal t ZbV):=by
 refine Tx.ZnT.ok ZmB (fun vs H Q E h=>?_) (fun cdv A outer s H vs Q E hr h=>?_)
 ·obtain ⟨v,r,day,rfl,_⟩:=h
  rfl
 obtain ⟨v,r,day,rfl,hv,ok,ro,q⟩:=h
 refine Za _ (Zp (ZT (VP Wc (Zi Zjv (Zi Zju (Ya (pv 0) rfl) (Zi ZP (pv 1) (YH rfl Tx.Zm4))) Zc) Zc (YJ _)))) ?_
 cases r with
 | all=>exact ro.elim
 | week b =>
  obtain ⟨p,dx,rfl,hp⟩:=hv
  refine Za _ rfl (Z5 p _ _ _ _ rfl hp Tx.Zak Tx.Zey rfl (Za _ rfl (Zo _ _ rfl rfl (by show (0:Int) < 7;decide) (Zo _ _ rfl rfl (Int.emod_nonneg _ (by decide)) (Zo _ _ rfl rfl rfl ?_)))))
  have e:(((day:Nat):Int) % 7).toNat=day % 7:=by omega
  have e2:decide (V.int (Builtin.bitAnd (((b:Nat):Int) / 2 ^ (((day:Nat):Int) % 7).toNat) 1)=V.int 1)=(R3.week b).runs day:=by
   rw [e]
   have h1:=ZkA b (day % 7)
   show _=decide (b / 2 ^ (day % 7) % 2=1)
   generalize Builtin.bitAnd (((b:Nat):Int) / 2 ^ (day % 7)) 1=z at h1
   generalize b / 2 ^ (day % 7) % 2=y at h1
   by_cases hz:z=1
   ·subst hz
    have hy:y=1:=by simpa using h1
    subst hy
    rfl
   ·have hy:¬ y=1:=fun hy=>by subst hy;exact hz (by simpa using h1)
    rw [decide_eq_false hy,decide_eq_false fun e=>hz (by injection e)]
  rw [← e2] at q
  exact q
 | each n ss=>exact ro.elim
theorem ZpL (Tx:ZO K mg t):ZF P w K mg base ZE 1 t.ZbK t.ZbL ["self","day"] (Zal t ZbW):=by
 refine Tx.ZnY.ok ZmE (fun vs H Q E h=>?_) (fun cdv A outer s H vs Q E hr h=>?_)
 ·obtain ⟨v,r,day,rfl,_⟩:=h
  rfl
 obtain ⟨v,r,day,rfl,hv,ok,ro,q⟩:=h
 refine Za _ (Zp (ZT (VP ZfB (Zi ZP (pv 1) (Ya (pv 0) rfl)) (Ya (pv 0) rfl) rfl))) ?_
 cases r with
 | all=>exact ro.elim
 | week b=>exact ro.elim
 | each n ss =>
  obtain ⟨p,dx,s0,rfl,hp,hs⟩:=hv
  have n1:1≤n:=ok.1
  refine Za _ rfl (Za _ rfl (Z5 p _ _ _ _ rfl hp Tx.V6 Tx.Zez rfl (Zo _ _ rfl rfl (by show (0:Int) < ((n:Nat):Int);omega) (Za _ rfl (Z5 p _ _ _ _ rfl hp Tx.V6 Tx.ZeA rfl (Xm s0 _ rfl (.inr (Zu.of hs)) rfl ?_ q))))))
  rw [List.all_map]
  exact List.all_eq_true.mpr fun _ _=>rfl
structure Zs where
 nm:Str
 r:R3
 cs:List Cl
def XG (H:Hp) (v:V) (x:Zs):Prop:=∃ p rv l cvs,v=.ref p∧H p=some (.tup [.str x.nm,rv,.ref l])∧VE H rv x.r∧H l=some (.lst cvs)∧Al (Ye H) cvs x.cs
theorem XG.same {H H':Hp} {v:V} {x:Zs} (s:Zk H H') (h:XG H v x):XG H' v x:=let ⟨p,rv,l,cvs,e,h1,h2,h3,h4⟩:=h;(Zz p rv l cvs e (s _ _ h1) (h2.same s) (s _ _ h3) (h4.imp fun _ _=>Ye.same s))
structure Zs.Ok (x:Zs):Prop where
 r:x.r.Ok
 len:x.cs.length≤6
def WX (H:Hp) (d:Addr) (TS:List Zs):Prop:=∃ kvs l vs,H d=some (.dK kvs)∧ZA kvs (Sum.inr (Str.ofString "trips"))=some (.ref l)∧H l=some (.lst vs)∧Al (XG H) vs TS
theorem WX.same {H H':Hp} {d:Addr} {TS:List Zs} (s:Zk H H') (h:WX H d TS):WX H' d TS:=let ⟨k,l,vs,h1,h2,h3,h4⟩:=h;(ZI k l vs (s _ _ h1) h2 (s _ _ h3) (h4.imp fun _ _=>XG.same s))
abbrev ZW:=Str→Nat→Option (Option (List Nat))
def XH (H:Hp) (kvs:List (List Zt×V)) (KF:ZW):Prop:=∀ (z:Str) (day:Nat),match KF z day with
 | none=>ZA kvs [Sum.inr z,Sum.inl ((day:Nat):Int)]=none
 | some none=>ZA kvs [Sum.inr z,Sum.inl ((day:Nat):Int)]=some .non
 | some (some ls)=>∃ l,ZA kvs [Sum.inr z,Sum.inl ((day:Nat):Int)]=some (.ref l)∧H l=some (.lst (ls.map fun n=>V.int (n:Nat)))
theorem XH.same {H H':Hp} {kvs:List (List Zt×V)} {KF:ZW} (s:Zk H H') (h:XH H kvs KF):XH H' kvs KF:=fun z day=>by
 have:=h z day
 revert this
 cases KF z day with
 | none=>exact id
 | some o=>cases o with
  | none=>exact id
  | some ls=>exact fun ⟨l,e,h⟩=>Za l e (s _ _ h)
def Uu (TS:List Zs) (KF:ZW) (z:Str) (day:Nat):Option (List (Str×Int×Int)) :=
 match TS.find? fun x=>decide (x.nm=z) && x.r.runs day with
 | none=>none
 | some x=>match KF z day with
  | none=>some (Yo (1440 * (day:Nat)) x.cs (List.replicate x.cs.length 0))
  | some none=>none
  | some (some ls)=>some (Yo (1440 * (day:Nat)) x.cs ls)
def ZpM:Sp:=fun vs H Q _=>∃ (d k:Addr) (z:Str) (day:Nat) (TS:List Zs) (kvs:List (List Zt×V)) (KF:ZW),vs=[.ref d,.ref k,.str z,.int (day:Nat)]∧WX H d TS∧(∀ x∈TS,x.Ok)∧H k=some (.dT kvs)∧XH H kvs KF∧(∀ x∈TS,∀ ls,KF z day=some (some ls)→x.nm=z→ls.length=x.cs.length) ∧
 (Uu TS KF z day=none→∀ H',Zk H H'→Q .non H')∧∀ ms,Uu TS KF z day=some ms→∀ l vs H',Zk H H'→H l=none→H' l=some (.lst vs)→Al (YI H') vs ms→Q (.ref l) H'
theorem ZpN (Tx:ZO K mg t):ZF P w K mg base ZE 2 t.Zdr t.Zds ["_law_data","_law_kept","_law_name","_law_day"] ZpM:=by
 refine Tx.ZhC.ok Up (fun vs H Q E h=>?_) (fun cdv A outer s H vs Q E hr h=>?_)
 ·obtain ⟨d,k,z,day,TS,kvs,KF,rfl,_⟩:=h
  rfl
 obtain ⟨d,k,z,day,TS,kvs,KF,rfl,⟨dk,lt,tvs,hd,hdt,hlt,alt⟩,okT,hk,alk,lsl,q1,q2⟩:=h
 refine Za _ (Zm (YU PassesOwn.never rfl (XT (Xa (Z8 hr) (pv 0) Yk (fun _ _=>rfl))) (W7 rfl (YD (ZU (i:=4) Up.nd rfl (Or.inl rfl)) (YD (ZU (i:=5) Up.nd rfl (Or.inl rfl)) (YD (ZU (i:=6) Up.nd rfl (Or.inl rfl)) W3))))
  (Zp (ZX (PW.pt (U5 (Xd Wc (pv 4) (pv 2) (YJ _)) (Zap (Ym (ZB (Zh4 Tx) (hr.mono (by omega)) rfl Tx.Zhy Tx.Zes.kp Tx.Zhz .nil Zr (Zb (pv 5) (Zb (pv 3) Ze)))))))
  (Zm (ZJ (i:=7) Up.nd rfl (Or.inl rfl) (Zcv (Z8 hr) (pv 1) (Yf (Zb (pv 2) (Zb (pv 3) Ze))) (Zi Qc (Yj (Zb Zc Ze)) (ZV Xh rfl Tx.YZ YX (Zb (pv 6) Ze))) ⟨rfl,rfl,rfl,rfl⟩))
  (Zm (ZX (VJ (Za9 (pv 7)))
  (Zp (ZT UB))
  ZY)
  (Zm (ZJ (i:=8) Up.nd rfl (Or.inl rfl) (Yj Ze))
  (Zm (YU PassesOwn.never rfl (Zct rfl Tx.Zek (Zb (pv 6) (Zb (pv 7) Ze))) (W7 rfl (YD (ZU (i:=9) Up.nd rfl (Or.inl rfl)) (YD (ZU (i:=10) Up.nd rfl (Or.inl rfl)) W3)))
  (Zp (Z0 (Vc PySem.F.plainAttrs_list PySem.F.slot_list_append PySem.F.type_list_append Vq (pv 8) (Zb (Yf (Zb (Zw ZQ (pv 9) Zc (fun _ _=>rfl)) (Zb (Zi ZZ (Zi ZZ (Zi UG Zc (pv 3)) (Zw ZQ (pv 9) Zc (fun _ _=>rfl))) (pv 10)) (Zb (Zi ZZ (Zi ZZ (Zi UG Zc (pv 3)) (Zw ZQ (pv 9) Zc (fun _ _=>rfl))) (pv 10)) Ze)))) Ze)))))
  (Zp (ZT (pv 8)))))))
  ZY)))
  (Zp (ZT UB))) ?_
 have mom_no:∀ (i:Nat),(∀ x∈TS.take i,(decide (x.nm=z) && x.r.runs day)=false)→∀ x,TS[i]? = some x→(decide (x.nm=z) && x.r.runs day)=true→TS.find? (fun x=>decide (x.nm=z) && x.r.runs day)=some x:=fun i hno x ex hx=>by
  have hi:=(List.getElem?_eq_some_iff.mp ex)
  obtain ⟨hi,ei⟩:=hi
  rw [List.find?_eq_some_iff_append]
  refine ⟨hx,ZK (TS.take i) (TS.drop (i+1)) ?_ fun a ha=>by rw [hno a ha];rfl⟩
  rw [← ei,List.getElem_cons_drop_succ_eq_drop hi,List.take_append_drop]
 have hget:Yd H d (.str (Str.ofString "trips")) (some (.ref lt)):=by rw [← hdt];exact Yd.k (k:=Sum.inr (Str.ofString "trips")) hd
 have ltv:=alt.length
 refine Za _ rfl (Zj d _ rfl hget (Zx lt rfl ⟨_,Zg.of hlt⟩ (W8 (K:=K) (a:=lt) (xs:=tvs) (fun i σ H'=>Zk H H'∧(∀ x∈TS.take i,(decide (x.nm=z) && x.r.runs day)=false)∧∃ v4 v5 v6:Option V,σ=[some (.ref d),some (.ref k),some (.str z),some (.int (day:Nat)),v4,v5,v6,none,none,none,none]) ⟨Zk.refl H,fun x hx=>by simp at hx,none,none,none,rfl⟩ (fun i σ H' _ ⟨s,_⟩=>Zg.of (s _ _ hlt)) ?_ ?_)))
 ·rintro i v σ H1 hv ⟨s1,hno,v4,v5,v6,rfl⟩
  obtain ⟨x,ex,p,rv,lc,cvs,rfl,hp,hrv,hlc,alc⟩:=alt.get hv
  have hmem:x∈TS:=List.mem_of_getElem? ex
  refine Zo p _ rfl (Zu.of (s1 _ _ hp)) rfl (ZK _ _ rfl (ZK _ _ rfl (Zj _ _ rfl rfl ?_)))
  have nexti:(decide (x.nm=z) && x.r.runs day)=false→∀ y∈TS.take (i+1),(decide (y.nm=z) && y.r.runs day)=false:=fun hx y hy=>by
   rw [List.take_add_one,ex] at hy
   rcases List.mem_append.mp hy with hy | hy
   ·exact hno y hy
   ·rw [show y=x by simpa using hy];exact hx
  refine Za _ rfl (Zx _ rfl rfl (Za _ rfl (XO (fun hz=>?_) (fun hz=>?_))))
  ·refine Za _ rfl (Za _ rfl (ZI rv x.r day rfl (hrv.same s1) ((okT x hmem).r) fun H2 s2=>(Za _ rfl (XO (fun hru=>?_) (fun hru=>?_)))))
   ·have hnm:x.nm=z:=by
     have:=of_decide_eq_true (show decide (V.str x.nm=V.str z)=true from hz)
     injection this
    have hfind:=mom_no i hno x ex (by rw [decide_eq_true hnm,Bool.true_and];exact hru)
    have S2:=s1.trans s2
    have lcs:=alc.length
    have l6:=(okT x hmem).len
    refine Za _ rfl (Zx k rfl (.inr ⟨kvs,.inl (S2 _ _ hk)⟩) (Za _ rfl (Zx _ rfl (by show 2≤sizeLine;decide) fun pk gk=>?_)))
    have t3:=Zn gk (.tup [.str z,.int (day:Nat)])
    have ck:=@Zh H2 pk (.tup [.str z,.int (day:Nat)])
    have S3:=S2.trans t3
    dsimp only [YM,YV,List.append_nil]
    generalize Zd H2 pk (.tup [.str z,.int (day:Nat)])=H3 at ck S3 ⊢
    refine ⟨by show 1≤sizeLine;decide,fun p0 g0=>?_⟩
    have t4:=Zn g0 (.lst [.int 0])
    have c0:=@Zh H3 p0 (.lst [.int 0])
    have ck4:=t4 _ _ ck
    have S4:=S3.trans t4
    generalize Zd H3 p0 (.lst [.int 0])=H4 at c0 ck4 S4 ⊢
    refine Za _ rfl (Zj lc _ rfl (.inl (Zg.of (S4 _ _ hlc))) (UQ p0 ((cvs.length:Nat):Int) _ rfl rfl c0 (by omega) (by omega) (by show 1 * _≤sizeLine;exact Nat.le_trans (show _≤6 by omega) (by decide)) fun pr gr=>?_))
    have t5:=Zn gr (.lst (List.replicate ((cvs.length:Nat):Int).toNat [V.int 0]).flatten)
    have cr:=@Zh H4 pr (.lst (List.replicate ((cvs.length:Nat):Int).toNat [V.int 0]).flatten)
    have ck5:=t5 _ _ ck4
    have S5:=S4.trans t5
    generalize Zd H4 pr (.lst (List.replicate ((cvs.length:Nat):Int).toNat [V.int 0]).flatten)=H5 at cr ck5 S5 ⊢
    refine Za _ (Yd.t (k:=[Sum.inr z,Sum.inl ((day:Nat):Int)]) (S5 _ _ hk) ck5) ?_
    have kv:=alk.same S5 z day
    have erep:(List.replicate ((cvs.length:Nat):Int).toNat [V.int 0]).flatten=(List.replicate x.cs.length 0).map fun n:Nat=>V.int (n:Nat):=by
     rw [show ((cvs.length:Nat):Int).toNat=x.cs.length by omega,List.map_replicate]
     generalize x.cs.length=m
     induction m with
     | zero=>rfl
     | succ m ih=>rw [List.replicate_succ,List.replicate_succ,List.flatten_cons,ih];rfl
    rw [erep] at cr
    have hcase:(Uu TS KF z day=none∧ZA kvs [Sum.inr z,Sum.inl ((day:Nat):Int)]=some .non)∨∃ (ls:List Nat) (ll:Addr),(ZA kvs [Sum.inr z,Sum.inl ((day:Nat):Int)]).getD (.ref pr)=.ref ll∧H5 ll=some (.lst (ls.map fun n=>V.int (n:Nat)))∧ls.length=x.cs.length∧Uu TS KF z day=some (Yo (1440 * (day:Nat)) x.cs ls):=by
     unfold Uu
     rw [hfind]
     revert kv
     cases hkp:KF z day with
     | none=>exact fun kv=>.inr (Zo (List.replicate x.cs.length 0) pr (by rw [kv];rfl) cr List.length_replicate rfl)
     | some o =>
      cases o with
      | none=>exact fun kv=>.inl ⟨rfl,kv⟩
      | some ls=>exact fun ⟨ll,e,hl⟩=>.inr (Zo ls ll (by rw [e];rfl) hl (lsl x hmem ls hkp hnm) rfl)
    rcases hcase with ⟨hm,hv0⟩ | ⟨ls,ll,hv0,hll,hlen,hm⟩
    ·rw [hv0]
     exact Za _ rfl (Za _ rfl (YS (decide_eq_true rfl) (q1 hm _ S5)))
    ·rw [hv0]
     refine Za _ rfl (Za _ rfl (ZH (by rw [decide_eq_false (fun y=>by cases y)];decide) ?_))
     refine ⟨by show 0≤sizeLine;decide,fun lf gf=>?_⟩
     have t6:=Zn gf (.lst [])
     have cf:=@Zh H5 lf (.lst [])
     have S6:=S5.trans t6
     have ff:H lf=none:=S5.free gf
     have nll:ll≠lf:=fun e=>by rw [e,gf] at hll;cases hll
     have hll6:=t6 _ _ hll
     generalize Zd H5 lf (.lst [])=H6 at cf S6 hll6 ⊢
     have nlc:lc≠lf:=Yp hlc ff
     refine Za _ rfl (Za _ rfl (Zo lc ll rfl ⟨_,Zg.of (S6 _ _ hlc)⟩ ⟨_,Zg.of hll6⟩ (Zgh (K:=K) (a:=lc) (b:=ll) (xs:=cvs) (ys:=ls.map fun n=>V.int (n:Nat)) (fun j σ H'=>Zk H H'∧H' ll=some (.lst (ls.map fun n=>V.int (n:Nat)))∧∃ (fv:List V) (v9 v10:Option V),H' lf=some (.lst fv)∧Al (YI (wo H' lf)) fv ((Yo (1440 * (day:Nat)) x.cs ls).take j)∧fv.length≤j∧σ=[some (.ref d),some (.ref k),some (.str z),some (.int (day:Nat)),some (.str x.nm),some rv,some (.ref lc),some (.ref ll),some (.ref lf),v9,v10]) ⟨S6,hll6,ZI [] _ _ cf .nil (Nat.zero_le _) rfl⟩ (fun j σ H' _ _ ⟨s,h,_⟩=>⟨Zg.of (s _ _ hlc),Zg.of h⟩) ?_ ?_)))
     ·rintro j xc y pp σ H7 hxc hy hpp ⟨s7,hll7,fv,v9,v10,hlf7,alf,lfv,rfl⟩
      obtain ⟨c,ec,pc,rfl,hpc⟩:=alc.get hxc
      rw [List.getElem?_map] at hy
      obtain ⟨l,el,rfl⟩:=Option.map_eq_some_iff.mp hy
      have hj6:j < 6:=by
       have:=(List.getElem?_eq_some_iff.mp ec).1
       omega
      have t8:=Zn hpp (.tup [.ref pc,.int (l:Nat)])
      refine Zo pp _ rfl (Zu.of Zh) rfl (ZK _ _ rfl (Zj _ _ rfl rfl ?_))
      have s8:=s7.trans t8
      have hll8:=t8 _ _ hll7
      have hlf8:=t8 _ _ hlf7
      have alf8:=alf.imp fun _ _=>YI.same (YG (l:=lf) t8)
      generalize Zd H7 pp (.tup [.ref pc,.int (l:Nat)])=H8 at s8 hll8 hlf8 alf8 ⊢
      have hpc8:=s8 _ _ hpc
      refine Zx _ rfl (.inl ⟨rfl,_,Zg.of hlf8⟩) (Za _ rfl (Zz pc _ 0 _ rfl rfl (Zu.of hpc8) rfl (Za _ rfl (Zo _ _ rfl rfl (.inl ⟨by decide,by decide⟩) (Za _ rfl (Zz pc _ 1 _ rfl rfl (Zu.of hpc8) rfl (Zj _ _ rfl rfl (Za _ rfl (Zj _ _ rfl rfl (Za _ rfl (Zo _ _ rfl rfl (.inl ⟨by decide,by decide⟩) (Za _ rfl (Zz pc _ 2 _ rfl rfl (Zu.of hpc8) rfl (Zj _ _ rfl rfl (Za _ rfl (Zo _ _ rfl rfl (by show 3≤sizeLine;decide) fun p9 g9=>?_))))))))))))))))
      have e1:1440 * ((day:Nat):Int)+((c.ar:Nat):Int)+((l:Nat):Int)=1440 * ((day:Nat):Int)+((l:Nat):Int)+((c.ar:Nat):Int):=by omega
      have e2:1440 * ((day:Nat):Int)+((c.lv:Nat):Int)+((l:Nat):Int)=1440 * ((day:Nat):Int)+((l:Nat):Int)+((c.lv:Nat):Int):=by omega
      dsimp only
      rw [e1,e2]
      have t9:=Zn g9 (.tup [.str c.st,.int (1440 * ((day:Nat):Int)+((l:Nat):Int)+((c.ar:Nat):Int)),.int (1440 * ((day:Nat):Int)+((l:Nat):Int)+((c.lv:Nat):Int))])
      have n9:p9≠lf:=fun e=>by rw [e,hlf8] at g9;cases g9
      refine Yn lf _ _ rfl rfl (t9 _ _ hlf8) (Nat.lt_of_le_of_lt (show fv.length≤6 by omega) (by decide)) ?_
      have em:(Yo (1440 * (day:Nat)) x.cs ls)[j]? = some (mvC (1440 * (day:Nat)) c l):=by
       unfold Yo
       rw [List.getElem?_zipWith,ec,el]
      refine ⟨Yb (s8.trans t9) ff _,by rw [Zl nll];exact t9 _ _ hll8,ZI (fv++[.ref p9]) _ _ Zh ?_ (by rw [List.length_append,List.length_singleton];omega) rfl⟩
      rw [Vw,List.take_add_one,em]
      exact (alf8.imp fun _ _=>YI.same (YG (l:=lf) t9)).snoc (Za p9 rfl (Z4 Zh n9))
     ·rintro j σ H7 hj ⟨s7,hll7,fv,v9,v10,hlf7,alf,lfv,rfl⟩
      have e:(Yo (1440 * (day:Nat)) x.cs ls).take j=Yo (1440 * (day:Nat)) x.cs ls:=List.take_of_length_le (by unfold Yo;rw [List.length_zipWith,hlen,Nat.min_self,hj,List.length_map];omega)
      rw [e] at alf
      exact Za _ rfl (q2 _ hm lf fv H7 s7 ff hlf7 (alf.imp fun _ _=>YI.same Xr))
   ·exact ⟨s1.trans s2,nexti (by rw [show x.r.runs day=false by simpa using hru,Bool.and_false]),_,_,_,rfl⟩
  ·refine ⟨s1,nexti ?_,_,_,_,rfl⟩
   have:¬ x.nm=z:=fun e=>hz (by show decide (V.str x.nm=V.str z)=true;rw [e];exact decide_eq_true rfl)
   rw [decide_eq_false this,Bool.false_and]
 ·rintro σ H1 ⟨s1,hno,v4,v5,v6,rfl⟩
  refine q1 ?_ _ s1
  unfold Uu
  have e:TS.find? (fun x=>decide (x.nm=z) && x.r.runs day)=none:=by
   rw [List.find?_eq_none]
   intro x hx
   have:=hno x (by rw [List.take_of_length_le (by omega)];exact hx)
   rw [this]
   decide
  rw [e]
theorem Zbp {b:Nat} {lo hi:Int} (h1:lo≤b) (h2:(b:Int)≤hi):UJ (.int (b:Nat)) lo hi=true:=decide_eq_true ⟨h1,h2⟩
def Zam:Str:=⟨#[97,98,99,100,101,102,103,104,105,106,107,108,109,110,111,112,113,114,115,116,117,118,119,120,121,122]⟩
theorem ZpO:Str.ofString "abcdefghijklmnopqrstuvwxyz" = Zam:=by decide +kernel
theorem ZpP:∀ i:Nat,i < 26→VS Zam (97+i)=true:=by decide +kernel
theorem ZpQ {z:Str} (h:Yw z):((z.cps.toList.map fun c=>VS Zam c).all id)=true:=by
 rw [List.all_eq_true]
 intro b hb
 obtain ⟨c,hc,rfl⟩:=List.mem_map.mp hb
 have:=h.2.2.1 c hc
 have e:=ZpP (c - 97) (by omega)
 rw [show 97+(c - 97)=c by omega] at e
 exact e
def ZpR:Sp:=fun vs H Q _=>∃ (b:Nat) (lo hi:Int),vs=[.int (b:Nat),.int lo,.int hi]∧lo≤b∧(b:Int)≤hi∧Q .non H
theorem V7 (Tx:ZO K mg t):ZF P w K mg base ZE 3 t.ZcJ t.ZcK ["value","least","most"] ZpR:=by
 refine Tx.VA.ok Zmm (fun vs H Q E h=>?_) (fun cdv A outer s H vs Q E hr h=>?_)
 ·obtain ⟨b,lo,hi,rfl,_⟩:=h
  rfl
 obtain ⟨b,lo,hi,rfl,h1,h2,q⟩:=h
 refine Za _ (Zp (ZX (Yq (Ym (ZB (ZaW Tx) (hr.mono (by omega)) rfl Tx.ZaM Tx.Zai.kp Tx.ZaN .nil Zr (Zb (pv 0) (Zb (pv 1) (Zb (pv 2) Ze))))))
  (Zp YT)
  ZY)) ?_
 exact Za _ rfl (Za _ rfl (Za _ rfl (UR (.int (b:Nat)) lo hi ("int") rfl (.int _) (Za _ rfl (ZH (by rw [Zbp h1 h2];decide) q)))))
def ZpS:Sp:=fun vs H Q _=>∃ z:Str,vs=[.str z]∧Yw z∧∀ H',Zk H H'→Q (.bl true) H'
theorem ZpT (Tx:ZO K mg t):ZF P w K mg base ZE 1 t.ZcN t.ZcO ["value"] ZpS:=by
 refine Tx.Zhi.ok Zmn (fun vs H Q E h=>?_) (fun cdv A outer s H vs Q E hr h=>?_)
 ·obtain ⟨z,rfl,_⟩:=h
  rfl
 obtain ⟨z,rfl,hn,q⟩:=h
 obtain ⟨tk,mf⟩:=Tx.Zm2
 rw [ZpO] at mf
 have hz:z.length≤sizeLine:=Nat.le_trans hn.2.1 (by decide)
 refine Za _ (Zm (ZX (PW.pt (VM (Yq (Ym (ZV WP rfl Tx.Wh Wf (Zb (pv 0) (Zb (WQ rfl Tx.Zhc Zg8) Ze))))) (VL (Yq (Zbe Wv Wv Zc (ZV ZfC rfl Tx.YZ YX (Zb (pv 0) Ze)) (YH rfl Tx.Zm3))))))
  (Zp (ZT Wm))
  ZY)
  (Zp (ZT (ZV (ZfJ rfl) rfl Tx.Zg9 Zg5 (Zb (Zkm (cl:=[]) rfl (pv 0) rfl (by decide +kernel) rfl (by decide +kernel) rfl) Ze))))) ?_
 refine Za _ rfl (Xu (.str z) ("str") _ _ rfl ((Kd.str z).ty (H:=H)) (ZfS (H:=H) (.str z)) (Za _ rfl (ZH (by decide) ?_)))
 refine Za _ rfl (Zx z rfl hz (Zj _ _ rfl rfl (Za _ rfl (YS (decide_eq_true (by have:=hn.1;omega)) ?_))))
 refine Zj _ _ rfl rfl (Za _ rfl (ZH (by rw [decide_eq_true (show ((z.length:Nat):Int)≤8 by have:=hn.2.1;omega)];decide) ?_))
 refine Za Zam (Zkn (t:=tk) rfl rfl mf) (Za _ rfl (Zx z rfl hz fun p hp=>?_))
 refine Zj p (z.cps.toList.map (fun c=>VS Zam c)) rfl (Zg.of (by rw [Zh,Zkw])) ?_
 have q2:=q _ (Zn hp (HO.lst (z.cps.toList.map fun c=>V.bl (VS Zam c))))
 rw [← ZpQ hn] at q2;exact q2
def ZpU:Sp:=fun vs H Q _=>∃ (z:Str) (d:Addr) (kvs:List (Zt×V)),vs=[.str z,.ref d]∧H d=some (.dK kvs)∧Q (.bl (ZA kvs (Sum.inr z)).isSome) H
theorem ZaZ (Tx:ZO K mg t):ZF P w K mg base ZE 1 t.ZcP t.ZcQ ["value","named"] ZpU:=by
 refine Tx.Zaj.ok Zmo (fun vs H Q E h=>?_) (fun cdv A outer s H vs Q E hr h=>?_)
 ·obtain ⟨z,d,kvs,rfl,_⟩:=h
  rfl
 obtain ⟨z,d,kvs,rfl,hd,q⟩:=h
 refine Za _ (Zp (ZT (U6 (ZV WP rfl Tx.Wh Wf (Zb (pv 0) (Zb (WQ rfl Tx.Zhc Zg8) Ze))) (UC (ZiX (Zbr (Z8 hr) (pv 0) (pv 1))))))) ?_
 exact Za _ rfl (Xu (.str z) ("str") _ _ rfl ((Kd.str z).ty (H:=H)) (ZfS (H:=H) (.str z)) (Za _ rfl (YS (by decide) (Za _ rfl (Za _ rfl (Zj d _ rfl (Yd.k (k:=Sum.inr z) hd) q))))))
def ZpV:Sp:=fun vs H Q _=>∃ (z:Str) (d:Addr) (kvs:List (Zt×V)),vs=[.str z,.ref d]∧H d=some (.dK kvs)∧Yw z∧ZA kvs (Sum.inr z)=none∧∀ H',Zk H H'→Q .non H'
theorem ZbX (Tx:ZO K mg t):ZF P w K mg base ZE 2 t.ZcT t.ZcU ["name","named"] ZpV:=by
 refine Tx.ZaQ.ok Zmq (fun vs H Q E h=>?_) (fun cdv A outer s H vs Q E hr h=>?_)
 ·obtain ⟨z,d,kvs,rfl,_⟩:=h
  rfl
 obtain ⟨z,d,kvs,rfl,hd,hn,he,q⟩:=h
 refine Za _ (Zm (ZX (Yq (Ym (ZB (ZpT Tx) (hr.mono (by omega)) rfl Tx.Znl Tx.Zhi.kp Tx.Znm .nil Zr (Zb (pv 0) Ze))))
  (Zp YT)
  ZY)
  (Zp (ZX (VJ (Zbr (Z8 hr) (pv 0) (pv 1)))
  (Zp YT)
  ZY))) ?_
 refine Za _ rfl (Zx z rfl hn fun H1 s1=>(Za _ rfl (ZH (by decide) ?_)))
 exact Za _ rfl (Za _ rfl (Zj d _ rfl (Yd.k (k:=Sum.inr z) (s1 _ _ hd)) (Za _ rfl (ZH (by rw [he];decide) (q H1 s1)))))
def ZpW:Sp:=fun vs H Q _=>∃ (d:Addr) (kvs:List (Zt×V)) (n:Int),vs=[.ref d,.int n]∧H d=some (.dK kvs)∧(kvs.length:Int) < n∧Q .non H
theorem ZbY (Tx:ZO K mg t):ZF P w K mg base ZE 1 t.Zbw t.Zbx ["kept","most"] ZpW:=by
 refine Tx.UV.ok ZgY (fun vs H Q E h=>?_) (fun cdv A outer s H vs Q E hr h=>?_)
 ·obtain ⟨d,kvs,n,rfl,_⟩:=h
  rfl
 obtain ⟨d,kvs,n,rfl,hd,hl,q⟩:=h
 refine Za _ (Zp (ZX (Xd Zfc (ZV ZlE rfl Tx.YZ YX (Zb (pv 0) Ze)) (pv 1) (YJ _))
  (Zp YT)
  ZY)) ?_
 exact Za _ rfl (Zj d kvs rfl hd (Za _ rfl (Zj _ _ rfl rfl (Za _ rfl (ZH (by rw [decide_eq_false (by omega)];decide) q)))))
def fnd {α:Type} (nm:α→Str) (xs:List α) (z:Str):Option α:=xs.find? fun x=>decide (nm x=z)
theorem ZeD {α:Type} {nm:α→Str} {xs:List α} {z:Str} {x:α} (h:fnd nm xs z=some x):x∈xs∧nm x=z:=⟨List.mem_of_find?_eq_some h,of_decide_eq_true (List.find?_some (p:=fun x=>decide (nm x=z)) h)⟩
theorem X8 {α:Type} {nm:α→Str} {R:Zt×V→α→Prop} (hR:∀ kv x,R kv x→kv.1=Sum.inr (nm x)) {rows:List (Zt×V)} {xs:List α} (h:Al R rows xs) (z:Str) :
  (fnd nm xs z=none→ZA rows (Sum.inr z)=none)∧∀ x,fnd nm xs z=some x→∃ kv,ZA rows (Sum.inr z)=some kv.2∧R kv x:=by
 induction h with
 | nil=>exact ⟨fun _=>rfl,fun k e=>by cases e⟩
 | @cons kv k rows xs hr _ ih =>
  by_cases e:nm k=z
  ·have ek:kv.1=Sum.inr z:=by rw [hR _ _ hr,e]
   have ef:fnd nm (k::xs) z=some k:=by unfold fnd;rw [List.find?_cons,decide_eq_true e]
   refine ⟨fun n=>(by rw [ef] at n;cases n),fun k' e'=>?_⟩
   rw [ef] at e'
   cases e'
   exact Za kv (Wp ek) hr
  ·have ek:kv.1≠Sum.inr z:=fun x=>e (by rw [hR _ _ hr] at x;exact Sum.inr.inj x)
   have ef:fnd nm (k::xs) z=fnd nm xs z:=by unfold fnd;rw [List.find?_cons,decide_eq_false e]
   have ev:ZA (kv::rows) (Sum.inr z)=ZA rows (Sum.inr z):=by unfold ZA;rw [List.find?_cons,decide_eq_false ek]
   rw [ef,ev]
   exact ih
theorem ZeE {α:Type} {nm:α→Str} {xs:List α} (nd:(xs.map nm).Nodup) {i:Nat} {x:α} (e:xs[i]? = some x):fnd nm (xs.take i) (nm x)=none:=by
 unfold fnd
 rw [List.find?_eq_none]
 intro y hy
 rw [decide_eq_true_eq]
 intro ex
 obtain ⟨j,hj,ej⟩:=List.mem_iff_getElem.mp hy
 rw [List.length_take] at hj
 obtain ⟨hi,ei⟩:=List.getElem?_eq_some_iff.mp e
 rw [List.getElem_take] at ej
 have:=List.pairwise_iff_getElem.mp nd j i (by rw [List.length_map];omega) (by rw [List.length_map];exact hi) (by omega)
 rw [List.getElem_map,List.getElem_map,ej,ei] at this
 exact this ex
theorem Zic {α:Type} {nm:α→Str} {xs:List α} {x:α} (h:x∈xs):∃ y,fnd nm xs (nm x)=some y:=by
 cases e:fnd nm xs (nm x) with
 | some y=>exact ⟨y,rfl⟩
 | none =>
  unfold fnd at e
  rw [List.find?_eq_none] at e
  exact absurd (decide_eq_true rfl) (e x h)
theorem Uv {α:Type} {nm:α→Str} {xs:List α} (nd:(xs.map nm).Nodup) {x:α} (h:x∈xs):fnd nm xs (nm x)=some x:=by
 obtain ⟨y,hy⟩:=Zic (nm:=nm) h
 have:=ZeD hy
 obtain ⟨i,hi,ei⟩:=List.mem_iff_getElem.mp h
 obtain ⟨j,hj,ej⟩:=List.mem_iff_getElem.mp this.1
 by_cases e:i=j
 ·subst e;rw [hy,← ei,ej]
 ·exfalso
  rcases Nat.lt_or_gt_of_ne e with hlt | hlt
  ·have:=List.pairwise_iff_getElem.mp nd i j (by rw [List.length_map];exact hi) (by rw [List.length_map];exact hj) hlt
   rw [List.getElem_map,List.getElem_map,ej,ei] at this
   exact this (by rw [(ZeD hy).2])
  ·have:=List.pairwise_iff_getElem.mp nd j i (by rw [List.length_map];exact hj) (by rw [List.length_map];exact hi) hlt
   rw [List.getElem_map,List.getElem_map,ej,ei] at this
   exact this (by rw [(ZeD hy).2])
structure Wl where
 o:Str
 t:Str
 m:Nat
structure Xk where
 nm:Str
 r:R3
structure XI where
 nm:Str
 pr:Nat
 la:Nat
 zs:List Nat
structure Tp where
 nm:Str
 ru:Str
 cs:List Cl
structure XI.Ok (k:XI):Prop where
 nm:Yw k.nm
 pr:k.pr≤10000
 la1:1≤k.la
 la:k.la≤1440
 z1:1≤k.zs.length
 z6:k.zs.length≤6
 up:k.zs.Pairwise (· < ·)
 rng:∀ z∈k.zs,1≤z∧z≤6
def XZ (H:Hp) (kv:Zt×V) (k:XI):Prop:=kv.1=Sum.inr k.nm∧∃ r z,kv.2=.ref r∧H r=some (.tup [.int (k.pr:Nat),.int (k.la:Nat),.ref z])∧H z=some (.tup (Xj k.zs))
theorem XZ.same {H H':Hp} {kv:Zt×V} {k:XI} (s:Zk H H') (h:XZ H kv k):XZ H' kv k:=let ⟨e,r,z,e1,e2,e3⟩:=h;⟨e,Zj r z e1 (s _ _ e2) (s _ _ e3)⟩
def XR (H:Hp) (kv:Zt×V) (k:Z3):Prop:=kv.1=Sum.inr k.nm∧∃ r,kv.2=.ref r∧H r=some (.tup [.int (k.z:Nat),.int (k.ch:Nat)])
theorem XR.same {H H':Hp} {kv:Zt×V} {k:Z3} (s:Zk H H') (h:XR H kv k):XR H' kv k:=let ⟨e,r,e1,e2⟩:=h;⟨e,Za r e1 (s _ _ e2)⟩
def Xn (H:Hp) (kv:Zt×V) (k:Tp):Prop:=kv.1=Sum.inr k.nm∧∃ r q vs,kv.2=.ref r∧H r=some (.tup [.str k.ru,.ref q])∧H q=some (.tup vs)∧Al (Ye H) vs k.cs
theorem Xn.same {H H':Hp} {kv:Zt×V} {k:Tp} (s:Zk H H') (h:Xn H kv k):Xn H' kv k:=let ⟨e,r,q,vs,e1,e2,e3,e4⟩:=h;⟨e,ZI r q vs e1 (s _ _ e2) (s _ _ e3) (e4.imp fun _ _=>Ye.same s)⟩
def XJ (t:Z9) (H:Hp) (kv:Zt×V) (k:Xk):Prop:=kv.1=Sum.inr k.nm∧Xg t H kv.2 k.r
theorem XJ.same {H H':Hp} {kv:Zt×V} {k:Xk} (s:Zk H H') (h:XJ t H kv k):XJ t H' kv k:=⟨h.1,h.2.same s⟩
def YC (H:Hp) (v:V) (x:Wl):Prop:=∃ p,v=.ref p∧H p=some (.tup [.str x.o,.str x.t,.int (x.m:Nat)])
theorem YC.same {H H':Hp} {v:V} {x:Wl} (s:Zk H H') (h:YC H v x):YC H' v x:=let ⟨p,e,h⟩:=h;(Za p e (s _ _ h))
structure YN where
 st:List Z3
 wk:List Wl
 ru:List Xk
 tk:List XI
 tp:List Tp
structure NA where
 ds:Addr
 lw:Addr
 dr:Addr
 dt:Addr
 dp:Addr
structure ZpX (fs:List (Str×V)) (a:NA):Prop where
 fs1:fs.lookup ("stop_rows" : Str)=some (V.ref a.ds)
 fw:fs.lookup ("walk_rows" : Str)=some (V.ref a.lw)
 fr:fs.lookup ("rule_rows" : Str)=some (V.ref a.dr)
 ft:fs.lookup ("ticket_rows" : Str)=some (V.ref a.dt)
 fp:fs.lookup ("trip_rows" : Str)=some (V.ref a.dp)
 n_calls:fs.lookup ("calls" : Str)=none
 n_rule_name:fs.lookup ("rule_name" : Str)=none
 n_rule:fs.lookup ("rule" : Str)=none
 n_trips:fs.lookup ("trips" : Str)=none
 n_check_stop:fs.lookup ("check_stop" : Str)=none
 n_check_trip:fs.lookup ("check_trip" : Str)=none
 n_check_call:fs.lookup ("check_call" : Str)=none
 n_has_walk:fs.lookup ("has_walk" : Str)=none
 n_add_stop:fs.lookup ("add_stop" : Str)=none
 n_add_walk:fs.lookup ("add_walk" : Str)=none
 n_add_rule:fs.lookup ("add_rule" : Str)=none
 n_add_ticket:fs.lookup ("add_ticket" : Str)=none
 n_add_trip:fs.lookup ("add_trip" : Str)=none
 n_zone:fs.lookup ("zone" : Str)=none
 n_change:fs.lookup ("change" : Str)=none
 n_stops:fs.lookup ("stops" : Str)=none
 n_walks:fs.lookup ("walks" : Str)=none
 n_tickets:fs.lookup ("tickets" : Str)=none
 n_ticket:fs.lookup ("ticket" : Str)=none
structure ZpY (a:NA):Prop where
 sr:a.ds≠a.dr
 st:a.ds≠a.dt
 sp:a.ds≠a.dp
 rt:a.dr≠a.dt
 rp:a.dr≠a.dp
 tp:a.dt≠a.dp
structure Yi (t:Z9) (H:Hp) (n:Addr) (a:NA) (N:YN):Prop where
 ob:∃ dx fs,H n=some (.ins t.ZS dx fs)∧ZpX fs a
 ap:ZpY a
 st:∃ rows,H a.ds=some (.dK rows)∧Al (XR H) rows N.st
 wk:∃ vs,H a.lw=some (.lst vs)∧Al (YC H) vs N.wk
 ru:∃ rows,H a.dr=some (.dK rows)∧Al (XJ t H) rows N.ru
 tk:∃ rows,H a.dt=some (.dK rows)∧Al (XZ H) rows N.tk
 tp:∃ rows,H a.dp=some (.dK rows)∧Al (Xn H) rows N.tp
theorem Yi.same {H H':Hp} {n:Addr} {a:NA} {N:YN} (s:Zk H H') (h:Yi t H n a N):Yi t H' n a N:=by
 obtain ⟨⟨dx,fs,e1,e2⟩,ap,⟨r1,a1,b1⟩,⟨r5,a5,b5⟩,⟨r2,a2,b2⟩,⟨r3,a3,b3⟩,⟨r4,a4,b4⟩⟩:=h
 exact ⟨ZK dx fs (s _ _ e1) e2,ap,Za r1 (s _ _ a1) (b1.imp fun _ _=>XR.same s),Za r5 (s _ _ a5) (b5.imp fun _ _=>YC.same s),Za r2 (s _ _ a2) (b2.imp fun _ _=>XJ.same s),Za r3 (s _ _ a3) (b3.imp fun _ _=>XZ.same s),(Za r4 (s _ _ a4) (b4.imp fun _ _=>Xn.same s))⟩
structure Zan (H0:Hp) (a:NA):Prop where
 s:H0 a.ds=none
 w:H0 a.lw=none
 r:H0 a.dr=none
 t:H0 a.dt=none
 p:H0 a.dp=none
def X0 (t:Z9) (H:Hp) (n:Addr) (N:YN):Prop:=∃ a,Yi t H n a N
theorem X0.same {H H':Hp} {n:Addr} {N:YN} (s:Zk H H') (h:X0 t H n N):X0 t H' n N:=let ⟨a,h⟩:=h;⟨a,h.same s⟩
theorem U0 {f:Str} {v:V} {fs:List (Str×V)} {n:Nat} (h:fs.length≤n):(YQ f v fs).length≤n+1:=Nat.le_trans (Zbh _ _ _) (Nat.succ_le_succ h)
def ZpZ (t:Z9):Sp:=fun vs H Q _=>∃ (x:Addr) (H0:Hp),vs=[.ref x]∧H0 x=none∧Zk H0 H∧(∃ dx,H x=some (.ins t.ZS dx []))∧∀ H' a,Zk H0 H'→Yi t H' x a ⟨[],[],[],[],[]⟩→Zan H0 a→Q .non H'
theorem Zp0 (Tx:ZO K mg t):ZF P w K mg base ZE 1 t.ZdB t.ZdC ["self"] (ZpZ t):=by
 refine Tx.Zn0.ok ZmF (fun vs H Q E h=>?_) (fun cdv A outer s H vs Q E hr h=>?_)
 ·obtain ⟨x,H0,rfl,_⟩:=h
  rfl
 obtain ⟨x,H0,rfl,n0,s0,⟨dx,hx⟩,q⟩:=h
 refine Za _ (Zm (Va (pv 0) Zau rfl)
  (Zm (Va (pv 0) (Yj Ze) rfl)
  (Zm (Va (pv 0) Zau rfl)
  (Zm (Va (pv 0) Zau rfl)
  (Zp (Va (pv 0) Zau rfl)))))) ?_
 intro p1 g1
 have x1:p1≠x:=fun z=>by rw [z,hx] at g1;cases g1
 have d1:=s0.free g1
 refine Za _ rfl (Z7 x _ dx _ rfl (by rw [Zl x1.symm];exact hx) Tx.Z6 Tx.ZaT (by decide) ?_)
 generalize hf1:YQ "stop_rows" (.ref p1) []=f1
 have lf1:f1.length≤1:=by rw [← hf1];exact U0 (Nat.zero_le 0)
 have u1:=Yb (s0.trans (Zn g1 (.dK []))) n0 (.ins t.ZS dx f1)
 have y1:(Zd (Zd H p1 (.dK [])) x (.ins t.ZS dx f1)) x=some (.ins t.ZS dx f1):=Zh
 have k1:(Zd (Zd H p1 (.dK [])) x (.ins t.ZS dx f1)) p1=some (.dK []):=by rw [Zl x1];exact Zh
 generalize Zd (Zd H p1 (.dK [])) x (.ins t.ZS dx f1)=H1 at u1 y1 k1 ⊢
 refine ⟨by show 0≤sizeLine;decide,fun p2 g2=>?_⟩
 have x2:p2≠x:=fun z=>by rw [z,y1] at g2;cases g2
 have n12:p1≠p2:=Yp k1 g2
 have d2:=u1.free g2
 refine Za _ rfl (Z7 x _ dx _ rfl (by rw [Zl x2.symm];exact y1) Tx.Z6 Tx.ZbR (Nat.lt_of_le_of_lt lf1 (by decide)) ?_)
 generalize hf2:YQ "walk_rows" (.ref p2) f1=f2
 have lf2:f2.length≤2:=by rw [← hf2];exact U0 lf1
 have u2:=Yb (u1.trans (Zn g2 (.lst []))) n0 (.ins t.ZS dx f2)
 have y2:(Zd (Zd H1 p2 (.lst [])) x (.ins t.ZS dx f2)) x=some (.ins t.ZS dx f2):=Zh
 have k1:(Zd (Zd H1 p2 (.lst [])) x (.ins t.ZS dx f2)) p1=some (.dK []):=by rw [Zl x1,Zl n12];exact k1
 have k2:(Zd (Zd H1 p2 (.lst [])) x (.ins t.ZS dx f2)) p2=some (.lst []):=by rw [Zl x2];exact Zh
 generalize Zd (Zd H1 p2 (.lst [])) x (.ins t.ZS dx f2)=H2 at u2 y2 k1 k2 ⊢
 intro p3 g3
 have x3:p3≠x:=fun z=>by rw [z,y2] at g3;cases g3
 have n13:p1≠p3:=Yp k1 g3
 have n23:p2≠p3:=Yp k2 g3
 have d3:=u2.free g3
 refine Za _ rfl (Z7 x _ dx _ rfl (by rw [Zl x3.symm];exact y2) Tx.Z6 Tx.UW (Nat.lt_of_le_of_lt lf2 (by decide)) ?_)
 generalize hf3:YQ "rule_rows" (.ref p3) f2=f3
 have lf3:f3.length≤3:=by rw [← hf3];exact U0 lf2
 have u3:=Yb (u2.trans (Zn g3 (.dK []))) n0 (.ins t.ZS dx f3)
 have y3:(Zd (Zd H2 p3 (.dK [])) x (.ins t.ZS dx f3)) x=some (.ins t.ZS dx f3):=Zh
 have k1:(Zd (Zd H2 p3 (.dK [])) x (.ins t.ZS dx f3)) p1=some (.dK []):=by rw [Zl x1,Zl n13];exact k1
 have k2:(Zd (Zd H2 p3 (.dK [])) x (.ins t.ZS dx f3)) p2=some (.lst []):=by rw [Zl x2,Zl n23];exact k2
 have k3:(Zd (Zd H2 p3 (.dK [])) x (.ins t.ZS dx f3)) p3=some (.dK []):=by rw [Zl x3];exact Zh
 generalize Zd (Zd H2 p3 (.dK [])) x (.ins t.ZS dx f3)=H3 at u3 y3 k1 k2 k3 ⊢
 intro p4 g4
 have x4:p4≠x:=fun z=>by rw [z,y3] at g4;cases g4
 have n14:p1≠p4:=Yp k1 g4
 have n24:p2≠p4:=Yp k2 g4
 have n34:p3≠p4:=Yp k3 g4
 have d4:=u3.free g4
 refine Za _ rfl (Z7 x _ dx _ rfl (by rw [Zl x4.symm];exact y3) Tx.Z6 Tx.ZbS (Nat.lt_of_le_of_lt lf3 (by decide)) ?_)
 generalize hf4:YQ "ticket_rows" (.ref p4) f3=f4
 have lf4:f4.length≤4:=by rw [← hf4];exact U0 lf3
 have u4:=Yb (u3.trans (Zn g4 (.dK []))) n0 (.ins t.ZS dx f4)
 have y4:(Zd (Zd H3 p4 (.dK [])) x (.ins t.ZS dx f4)) x=some (.ins t.ZS dx f4):=Zh
 have k1:(Zd (Zd H3 p4 (.dK [])) x (.ins t.ZS dx f4)) p1=some (.dK []):=by rw [Zl x1,Zl n14];exact k1
 have k2:(Zd (Zd H3 p4 (.dK [])) x (.ins t.ZS dx f4)) p2=some (.lst []):=by rw [Zl x2,Zl n24];exact k2
 have k3:(Zd (Zd H3 p4 (.dK [])) x (.ins t.ZS dx f4)) p3=some (.dK []):=by rw [Zl x3,Zl n34];exact k3
 have k4:(Zd (Zd H3 p4 (.dK [])) x (.ins t.ZS dx f4)) p4=some (.dK []):=by rw [Zl x4];exact Zh
 generalize Zd (Zd H3 p4 (.dK [])) x (.ins t.ZS dx f4)=H4 at u4 y4 k1 k2 k3 k4 ⊢
 intro p5 g5
 have x5:p5≠x:=fun z=>by rw [z,y4] at g5;cases g5
 have n15:p1≠p5:=Yp k1 g5
 have n25:p2≠p5:=Yp k2 g5
 have n35:p3≠p5:=Yp k3 g5
 have n45:p4≠p5:=Yp k4 g5
 have d5:=u4.free g5
 refine Za _ rfl (Z7 x _ dx _ rfl (by rw [Zl x5.symm];exact y4) Tx.Z6 Tx.Uq (Nat.lt_of_le_of_lt lf4 (by decide)) ?_)
 generalize hf5:YQ "trip_rows" (.ref p5) f4=f5
 have lf5:f5.length≤5:=by rw [← hf5];exact U0 lf4
 have u5:=Yb (u4.trans (Zn g5 (.dK []))) n0 (.ins t.ZS dx f5)
 have y5:(Zd (Zd H4 p5 (.dK [])) x (.ins t.ZS dx f5)) x=some (.ins t.ZS dx f5):=Zh
 have k1:(Zd (Zd H4 p5 (.dK [])) x (.ins t.ZS dx f5)) p1=some (.dK []):=by rw [Zl x1,Zl n15];exact k1
 have k2:(Zd (Zd H4 p5 (.dK [])) x (.ins t.ZS dx f5)) p2=some (.lst []):=by rw [Zl x2,Zl n25];exact k2
 have k3:(Zd (Zd H4 p5 (.dK [])) x (.ins t.ZS dx f5)) p3=some (.dK []):=by rw [Zl x3,Zl n35];exact k3
 have k4:(Zd (Zd H4 p5 (.dK [])) x (.ins t.ZS dx f5)) p4=some (.dK []):=by rw [Zl x4,Zl n45];exact k4
 have k5:(Zd (Zd H4 p5 (.dK [])) x (.ins t.ZS dx f5)) p5=some (.dK []):=by rw [Zl x5];exact Zh
 generalize Zd (Zd H4 p5 (.dK [])) x (.ins t.ZS dx f5)=H5 at u5 y5 k1 k2 k3 k4 k5 ⊢
 subst hf1 hf2 hf3 hf4 hf5
 exact q _ ⟨p1,p2,p3,p4,p5⟩ u5 ⟨ZK dx _ y5 ⟨rfl,rfl,rfl,rfl,rfl,rfl,rfl,rfl,rfl,rfl,rfl,rfl,rfl,rfl,rfl,rfl,rfl,rfl,rfl,rfl,rfl,rfl,rfl,rfl⟩,⟨n13,n14,n15,n34,n35,n45⟩,Za [] k1 .nil,Za [] k2 .nil,Za [] k3 .nil,Za [] k4 .nil,(Za [] k5 .nil)⟩ ⟨d1,d2,d3,d4,d5⟩
structure Z2 (u:HO):Prop where
 nt:∀ ys,u≠.tup ys
 ni:∀ c x fs,u≠.ins c x fs
theorem Z2.k {kvs:List (Zt×V)}:Z2 (.dK kvs):=⟨fun _ z=>(nomatch z),fun _ _ _ z=>(nomatch z)⟩
theorem Z2.l {xs:List V}:Z2 (.lst xs):=⟨fun _ z=>(nomatch z),fun _ _ _ z=>(nomatch z)⟩
theorem Z2.dt {kvs:List (List Zt×V)}:Z2 (.dT kvs):=⟨fun _ z=>(nomatch z),fun _ _ _ z=>(nomatch z)⟩
theorem V8 {H:Hp} {d p:Addr} {u o:HO} {xs:List V} (hd:H d=some u) (lo:Z2 u) (h:H p=some (.tup xs)):Zd H d o p=some (.tup xs):=by
 rw [Zl (YL h hd (fun z=>lo.nt _ z.symm))];exact h
theorem VF {H:Hp} {d p c x:Addr} {u o:HO} {fs:List (Str×V)} (hd:H d=some u) (lo:Z2 u) (h:H p=some (.ins c x fs)):Zd H d o p=some (.ins c x fs):=by
 rw [Zl (YL h hd (fun z=>lo.ni _ _ _ z.symm))];exact h
section Pt
variable {H:Hp} {d:Addr} {u o:HO} (hd:H d=some u) (lo:Z2 u)
include hd lo
theorem XZ.put {kv:Zt×V} {k:XI} (h:XZ H kv k):XZ (Zd H d o) kv k:=let ⟨e,r,z,e1,e2,e3⟩:=h;⟨e,Zj r z e1 (V8 hd lo e2) (V8 hd lo e3)⟩
theorem XR.put {kv:Zt×V} {k:Z3} (h:XR H kv k):XR (Zd H d o) kv k:=let ⟨e,r,e1,e2⟩:=h;⟨e,Za r e1 (V8 hd lo e2)⟩
theorem Ye.put {v:V} {c:Cl} (h:Ye H v c):Ye (Zd H d o) v c:=let ⟨p,e,h⟩:=h;(Za p e (V8 hd lo h))
theorem Xn.put {kv:Zt×V} {k:Tp} (h:Xn H kv k):Xn (Zd H d o) kv k:=let ⟨e,r,q,vs,e1,e2,e3,e4⟩:=h;⟨e,ZI r q vs e1 (V8 hd lo e2) (V8 hd lo e3) (e4.imp fun _ _=>Ye.put hd lo)⟩
theorem YC.put {v:V} {x:Wl} (h:YC H v x):YC (Zd H d o) v x:=let ⟨p,e,h⟩:=h;(Za p e (V8 hd lo h))
theorem Xg.put {v:V} {r:R3} (h:Xg t H v r):Xg t (Zd H d o) v r:=by
 cases r with
 | all=>obtain ⟨p,dx,e,h⟩:=h;exact ZK p dx e (VF hd lo h)
 | week b=>obtain ⟨p,dx,e,h⟩:=h;exact ZK p dx e (VF hd lo h)
 | each n ss=>obtain ⟨p,dx,q,e,h,h2⟩:=h;exact XX p dx q e (VF hd lo h) (V8 hd lo h2)
theorem XJ.put {kv:Zt×V} {k:Xk} (h:XJ t H kv k):XJ t (Zd H d o) kv k:=⟨h.1,h.2.put hd lo⟩
end Pt
theorem Yi.addSt {H:Hp} {n:Addr} {a:NA} {N:YN} {rows:List (Zt×V)} {x:Z3} {v:V} (h:Yi t H n a N) (hr:H a.ds=some (.dK rows)) (al:Al (XR H) rows N.st) (hv:ZA rows (Sum.inr x.nm)=none) (hx:XR H (Sum.inr x.nm,v) x) :
  Yi t (Zd H a.ds (.dK (Yv rows (Sum.inr x.nm) v))) n a { N with st:=N.st++[x] }:=by
 obtain ⟨⟨dx,fs,e1,e2⟩,ap,_,⟨r5,a5,b5⟩,⟨r2,a2,b2⟩,⟨r3,a3,b3⟩,⟨r4,a4,b4⟩⟩:=h
 refine ⟨ZK dx fs (VF hr Z2.k e1) e2,ap,Za _ Zh ?_,Za r5 (by rw [Zl (YL a5 hr (by intro z;cases z))];exact a5) (b5.imp fun _ _=>YC.put hr Z2.k),Za r2 (by rw [Zl (ap.sr.symm)];exact a2) (b2.imp fun _ _=>XJ.put hr Z2.k),Za r3 (by rw [Zl (ap.st.symm)];exact a3) (b3.imp fun _ _=>XZ.put hr Z2.k),(Za r4 (by rw [Zl (ap.sp.symm)];exact a4) (b4.imp fun _ _=>Xn.put hr Z2.k))⟩
 rw [Zax v hv]
 exact (al.imp fun _ _=>XR.put hr Z2.k).snoc (hx.put hr Z2.k)
theorem Yi.addWk {H:Hp} {n:Addr} {a:NA} {N:YN} {vs:List V} {x:Wl} {v:V} (h:Yi t H n a N) (hr:H a.lw=some (.lst vs)) (al:Al (YC H) vs N.wk) (hx:YC H v x) :
  Yi t (Zd H a.lw (.lst (vs++[v]))) n a { N with wk:=N.wk++[x] }:=by
 obtain ⟨⟨dx,fs,e1,e2⟩,ap,⟨r1,a1,b1⟩,_,⟨r2,a2,b2⟩,⟨r3,a3,b3⟩,⟨r4,a4,b4⟩⟩:=h
 refine ⟨ZK dx fs (VF hr Z2.l e1) e2,ap,Za r1 (by rw [Zl (YL a1 hr (by intro z;cases z))];exact a1) (b1.imp fun _ _=>XR.put hr Z2.l),Za _ Zh ?_,Za r2 (by rw [Zl (YL a2 hr (by intro z;cases z))];exact a2) (b2.imp fun _ _=>XJ.put hr Z2.l),Za r3 (by rw [Zl (YL a3 hr (by intro z;cases z))];exact a3) (b3.imp fun _ _=>XZ.put hr Z2.l),(Za r4 (by rw [Zl (YL a4 hr (by intro z;cases z))];exact a4) (b4.imp fun _ _=>Xn.put hr Z2.l))⟩
 exact (al.imp fun _ _=>YC.put hr Z2.l).snoc (hx.put hr Z2.l)
theorem Yi.addRu {H:Hp} {n:Addr} {a:NA} {N:YN} {rows:List (Zt×V)} {x:Xk} {v:V} (h:Yi t H n a N) (hr:H a.dr=some (.dK rows)) (al:Al (XJ t H) rows N.ru) (hv:ZA rows (Sum.inr x.nm)=none) (hx:XJ t H (Sum.inr x.nm,v) x) :
  Yi t (Zd H a.dr (.dK (Yv rows (Sum.inr x.nm) v))) n a { N with ru:=N.ru++[x] }:=by
 obtain ⟨⟨dx,fs,e1,e2⟩,ap,⟨r1,a1,b1⟩,⟨r5,a5,b5⟩,_,⟨r3,a3,b3⟩,⟨r4,a4,b4⟩⟩:=h
 refine ⟨ZK dx fs (VF hr Z2.k e1) e2,ap,Za r1 (by rw [Zl (ap.sr)];exact a1) (b1.imp fun _ _=>XR.put hr Z2.k),Za r5 (by rw [Zl (YL a5 hr (by intro z;cases z))];exact a5) (b5.imp fun _ _=>YC.put hr Z2.k),Za _ Zh ?_,Za r3 (by rw [Zl (ap.rt.symm)];exact a3) (b3.imp fun _ _=>XZ.put hr Z2.k),(Za r4 (by rw [Zl (ap.rp.symm)];exact a4) (b4.imp fun _ _=>Xn.put hr Z2.k))⟩
 rw [Zax v hv]
 exact (al.imp fun _ _=>XJ.put hr Z2.k).snoc (hx.put hr Z2.k)
theorem Yi.addTk {H:Hp} {n:Addr} {a:NA} {N:YN} {rows:List (Zt×V)} {x:XI} {v:V} (h:Yi t H n a N) (hr:H a.dt=some (.dK rows)) (al:Al (XZ H) rows N.tk) (hv:ZA rows (Sum.inr x.nm)=none) (hx:XZ H (Sum.inr x.nm,v) x) :
  Yi t (Zd H a.dt (.dK (Yv rows (Sum.inr x.nm) v))) n a { N with tk:=N.tk++[x] }:=by
 obtain ⟨⟨dx,fs,e1,e2⟩,ap,⟨r1,a1,b1⟩,⟨r5,a5,b5⟩,⟨r2,a2,b2⟩,_,⟨r4,a4,b4⟩⟩:=h
 refine ⟨ZK dx fs (VF hr Z2.k e1) e2,ap,Za r1 (by rw [Zl (ap.st)];exact a1) (b1.imp fun _ _=>XR.put hr Z2.k),Za r5 (by rw [Zl (YL a5 hr (by intro z;cases z))];exact a5) (b5.imp fun _ _=>YC.put hr Z2.k),Za r2 (by rw [Zl (ap.rt)];exact a2) (b2.imp fun _ _=>XJ.put hr Z2.k),Za _ Zh ?_,(Za r4 (by rw [Zl (ap.tp.symm)];exact a4) (b4.imp fun _ _=>Xn.put hr Z2.k))⟩
 rw [Zax v hv]
 exact (al.imp fun _ _=>XZ.put hr Z2.k).snoc (hx.put hr Z2.k)
theorem Yi.addTp {H:Hp} {n:Addr} {a:NA} {N:YN} {rows:List (Zt×V)} {x:Tp} {v:V} (h:Yi t H n a N) (hr:H a.dp=some (.dK rows)) (al:Al (Xn H) rows N.tp) (hv:ZA rows (Sum.inr x.nm)=none) (hx:Xn H (Sum.inr x.nm,v) x) :
  Yi t (Zd H a.dp (.dK (Yv rows (Sum.inr x.nm) v))) n a { N with tp:=N.tp++[x] }:=by
 obtain ⟨⟨dx,fs,e1,e2⟩,ap,⟨r1,a1,b1⟩,⟨r5,a5,b5⟩,⟨r2,a2,b2⟩,⟨r3,a3,b3⟩,_⟩:=h
 refine ⟨ZK dx fs (VF hr Z2.k e1) e2,ap,Za r1 (by rw [Zl (ap.sp)];exact a1) (b1.imp fun _ _=>XR.put hr Z2.k),Za r5 (by rw [Zl (YL a5 hr (by intro z;cases z))];exact a5) (b5.imp fun _ _=>YC.put hr Z2.k),Za r2 (by rw [Zl (ap.rp)];exact a2) (b2.imp fun _ _=>XJ.put hr Z2.k),Za r3 (by rw [Zl (ap.tp)];exact a3) (b3.imp fun _ _=>XZ.put hr Z2.k),(Za _ Zh ?_)⟩
 rw [Zax v hv]
 exact (al.imp fun _ _=>Xn.put hr Z2.k).snoc (hx.put hr Z2.k)
def Zp1 (t:Z9):Sp:=fun vs H Q _=>∃ (n:Addr) (a:NA) (N:YN) (x:Z3) (H0:Hp),vs=[.ref n,.str x.nm,.int (x.z:Nat),.int (x.ch:Nat)]∧Yi t H n a N∧Zan H0 a∧Zk H0 H∧Yw x.nm∧1≤x.z∧x.z≤6∧x.ch≤30∧fnd Z3.nm N.st x.nm=none∧N.st.length < 8 ∧
 ∀ H',Zk H0 H'→Yi t H' n a { N with st:=N.st++[x] }→Q .non H'
theorem Zp2 (Tx:ZO K mg t):ZF P w K mg base ZE 4 t.ZdD t.ZdE ["self","name","zone","change"] (Zp1 t):=by
 refine Tx.Zn2.ok ZmG (fun vs H Q E h=>?_) (fun cdv A outer s H vs Q E hr h=>?_)
 ·obtain ⟨n,a,N,x,H0,rfl,_⟩:=h
  rfl
 obtain ⟨n,a,N,x,H0,rfl,hN,hW,s0,okn,z1,z6,c30,hf,hlen,q⟩:=h
 obtain ⟨dx,fs,e1,e2⟩:=hN.ob
 obtain ⟨rows,h1,h2⟩:=hN.st
 have hv:=(X8 (fun kv x (h:XR H kv x)=>h.1) h2 x.nm).1 hf
 have hrl:rows.length < 8:=by rw [h2.length];exact hlen
 refine Za _ (Zm (Z0 (ZB (ZbX Tx) (hr.mono (by omega)) rfl Tx.ZbM Tx.ZaQ.kp Tx.ZbN .nil Zr (Zb (pv 1) (Zb (Ya (pv 0) rfl) Ze))))
  (Zm (Z0 (ZB (V7 Tx) (hr.mono (by omega)) rfl Tx.V4 Tx.VA.kp Tx.V5 .nil Zr (Zb (pv 2) (Zb Zc (Zb (YH rfl Tx.Zen) Ze)))))
  (Zm (Z0 (ZB (V7 Tx) (hr.mono (by omega)) rfl Tx.V4 Tx.VA.kp Tx.V5 .nil Zr (Zb (pv 3) (Zb Zc (Zb (YH rfl Tx.Znd) Ze)))))
  (Zm (Z0 (ZB (ZbY Tx) (hr.mono (by omega)) rfl Tx.ZaR Tx.UV.kp Tx.ZaS .nil Zr (Zb (Ya (pv 0) rfl) (Zb (YH rfl Tx.Zm8) Ze))))
  (Zp (Vv (Z8 hr) (Ya (pv 0) rfl) (pv 1) (Yf (Zb (pv 2) (Zb (pv 3) Ze))) rfl)))))) ?_
 refine Za _ rfl (Za _ rfl (Z5 n _ dx _ _ rfl e1 Tx.Z6 Tx.ZaT e2.fs1 (Yn x.nm a.ds rows rfl h1 okn hv fun H1 s1=>?_)))
 refine Za _ rfl (ZI x.z 1 6 rfl (by omega) (by omega) ?_)
 refine Za _ rfl (ZI x.ch 0 30 rfl (by omega) (by omega) ?_)
 refine Za _ rfl (Z5 n _ dx _ _ rfl (s1 _ _ e1) Tx.Z6 Tx.ZaT e2.fs1 (ZI a.ds rows 8 rfl (s1 _ _ h1) (by omega) ?_))
 refine Za _ rfl (Zx _ rfl (by show 2≤sizeLine;decide) fun r hr'=>?_)
 have s3:=Zn hr' (.tup [.int (x.z:Nat),.int (x.ch:Nat)])
 have S3:=s1.trans s3
 refine Za _ rfl (Z5 n _ dx _ _ rfl (S3 _ _ e1) Tx.Z6 Tx.ZaT e2.fs1 (Za _ rfl (Zj a.ds _ rfl (XW.k (k:=Sum.inr x.nm) (S3 _ _ h1) (Nat.lt_trans hrl (by decide))) ?_)))
 exact q _ (Yb (s0.trans S3) hW.s _) ((hN.same S3).addSt (S3 _ _ h1) (h2.imp fun _ _=>XR.same S3) hv ⟨rfl,Za r rfl Zh⟩)
def Zp3 (t:Z9):Sp:=fun vs H Q _=>∃ (n:Addr) (a:NA) (N:YN) (x:Xk) (v:V) (H0:Hp),vs=[.ref n,.str x.nm,v]∧Yi t H n a N∧Zan H0 a∧Zk H0 H∧Yw x.nm∧Xg t H v x.r∧x.r.Ok∧fnd Xk.nm N.ru x.nm=none∧N.ru.length < 6 ∧
 ∀ H',Zk H0 H'→Yi t H' n a { N with ru:=N.ru++[x] }→Q .non H'
theorem Zp4 (Tx:ZO K mg t):ZF P w K mg base ZE 8 t.ZdH t.ZdI ["self","name","rule"] (Zp3 t):=by
 refine Tx.Zn6.ok Zg2 (fun vs H Q E h=>?_) (fun cdv A outer s H vs Q E hr h=>?_)
 ·obtain ⟨n,a,N,x,v,H0,rfl,_⟩:=h
  rfl
 obtain ⟨n,a,N,x,v,H0,rfl,hN,hW,s0,okn,hru,okr,hf,hl6,q⟩:=h
 obtain ⟨dx,fs,e1,e2⟩:=hN.ob
 obtain ⟨rows,h1,h2⟩:=hN.ru
 have hv:=(X8 (fun kv x (h:XJ t H kv x)=>h.1) h2 x.nm).1 hf
 have hrl:rows.length < 6:=by rw [h2.length];exact hl6
 refine Za _ (Zm (Z0 (ZB (ZbX Tx) (hr.mono (by omega)) rfl Tx.ZbM Tx.ZaQ.kp Tx.ZbN .nil Zr (Zb (pv 1) (Zb (Ya (pv 0) rfl) Ze))))
  (Zm (ZJ (i:=3) Zg2.nd rfl (Or.inl rfl) (ZB (Zib Tx) (hr.mono (by omega)) rfl Tx.Zhj Tx.Zep.kp Tx.Zhk .nil Zr (Zb (pv 2) Ze)))
  (Zm (Z0 (ZB (ZbY Tx) (hr.mono (by omega)) rfl Tx.ZaR Tx.UV.kp Tx.ZaS .nil Zr (Zb (Ya (pv 0) rfl) (Zb (YH rfl Tx.Zna) Ze))))
  (Zp (Vv (Z8 hr) (Ya (pv 0) rfl) (pv 1) (pv 3) rfl))))) ?_
 refine Za _ rfl (Za _ rfl (Z5 n _ dx _ _ rfl e1 Tx.Z6 Tx.UW e2.fr (Yn x.nm a.dr rows rfl h1 okn hv fun H1 s1=>?_)))
 refine Za _ rfl (Xm v x.r rfl (hru.same s1) okr trivial fun v' H2 s2 hv2=>?_)
 have S2:=s1.trans s2
 refine Za _ rfl (Z5 n _ dx _ _ rfl (S2 _ _ e1) Tx.Z6 Tx.UW e2.fr (ZI a.dr rows 6 rfl (S2 _ _ h1) (by omega) ?_))
 refine Za _ rfl (Za _ rfl (Z5 n _ dx _ _ rfl (S2 _ _ e1) Tx.Z6 Tx.UW e2.fr (Za _ rfl (Zj a.dr _ rfl (XW.k (k:=Sum.inr x.nm) (S2 _ _ h1) (Nat.lt_trans hrl (by decide))) ?_))))
 exact q _ (Yb (s0.trans S2) hW.r _) ((hN.same S2).addRu (S2 _ _ h1) (h2.imp fun _ _=>XJ.same S2) hv ⟨rfl,hv2⟩)
def Zp5 (t:Z9):Sp:=fun vs H Q _=>∃ (n:Addr) (a:NA) (N:YN) (k:XI) (zl:Addr) (H0:Hp),vs=[.ref n,.str k.nm,.int (k.pr:Nat),.int (k.la:Nat),.ref zl]∧Yi t H n a N∧Zan H0 a∧Zk H0 H∧H zl=some (.lst (Xj k.zs))∧k.Ok∧fnd XI.nm N.tk k.nm=none∧N.tk.length < 3 ∧
 ∀ H',Zk H0 H'→Yi t H' n a { N with tk:=N.tk++[k] }→Q .non H'
theorem Zp6 (Tx:ZO K mg t):ZF P w K mg base ZE 4 t.ZdJ t.ZdK ["self","name","price","lasts","zones"] (Zp5 t):=by
 refine Tx.Zn8.ok ZmI (fun vs H Q E h=>?_) (fun cdv A outer s H vs Q E hr h=>?_)
 ·obtain ⟨n,a,N,k,zl,H0,rfl,_⟩:=h
  rfl
 obtain ⟨n,a,N,k,zl,H0,rfl,hN,hW,s0,hz,ok,hf,hlen,q⟩:=h
 obtain ⟨dx,fs,e1,e2⟩:=hN.ob
 obtain ⟨rows,h1,h2⟩:=hN.tk
 have hv:=(X8 (fun kv x (h:XZ H kv x)=>h.1) h2 k.nm).1 hf
 have hrl:rows.length < 3:=by rw [h2.length];exact hlen
 refine Za _ (Zm (Z0 (ZB (ZbX Tx) (hr.mono (by omega)) rfl Tx.ZbM Tx.ZaQ.kp Tx.ZbN .nil Zr (Zb (pv 1) (Zb (Ya (pv 0) rfl) Ze))))
  (Zm (Z0 (ZB (V7 Tx) (hr.mono (by omega)) rfl Tx.V4 Tx.VA.kp Tx.V5 .nil Zr (Zb (pv 2) (Zb Zc (Zb (YH rfl Tx.Znf) Ze)))))
  (Zm (Z0 (ZB (V7 Tx) (hr.mono (by omega)) rfl Tx.V4 Tx.VA.kp Tx.V5 .nil Zr (Zb (pv 3) (Zb Zc (Zb (YH rfl Tx.Zng) Ze)))))
  (Zm (ZX (Yq (Ym (ZB (Zh8 Tx) (hr.mono (by omega)) rfl Tx.Zhg Tx.Zeo.kp Tx.Zhh .nil Zr (Zb (pv 4) (Zb (YH rfl Tx.Zen) (Zb Zc (Zb (YH rfl Tx.Zen) Ze)))))))
  (Zp YT)
  ZY)
  (Zm (Z0 (ZB (ZbY Tx) (hr.mono (by omega)) rfl Tx.ZaR Tx.UV.kp Tx.ZaS .nil Zr (Zb (Ya (pv 0) rfl) (Zb (YH rfl Tx.Znb) Ze))))
  (Zp (Vv (Z8 hr) (Ya (pv 0) rfl) (pv 1) (Yf (Zb (pv 2) (Zb (pv 3) (Zb (WO Zbk rfl Tx.UU UT (Zb (pv 4) Ze)) Ze)))) rfl))))))) ?_
 refine Za _ rfl (Za _ rfl (Z5 n _ dx _ _ rfl e1 Tx.Z6 Tx.ZbS e2.ft (Yn k.nm a.dt rows rfl h1 ok.nm hv fun H1 s1=>?_)))
 refine Za _ rfl (ZI k.pr 0 10000 rfl (by omega) (by have:=ok.pr;omega) ?_)
 refine Za _ rfl (ZI k.la 1 1440 rfl (by have:=ok.la1;omega) (by have:=ok.la;omega) ?_)
 refine Za _ rfl ⟨zl,k.zs,6,1,6,rfl,s1 _ _ hz,ok.z1,ok.z6,ok.up,fun x hx=>⟨(ok.rng x hx).1,by have:=(ok.rng x hx).2;omega⟩,Za _ rfl (ZH (by decide) ?_)⟩
 refine Za _ rfl (Z5 n _ dx _ _ rfl (s1 _ _ e1) Tx.Z6 Tx.ZbS e2.ft (ZI a.dt rows 3 rfl (s1 _ _ h1) (by omega) ?_))
 refine Za _ rfl (Za _ rfl (Za _ rfl (ZK zl _ rfl (.inl ⟨Zg.of (s1 _ _ hz),fun p hp=>?_⟩))))
 have s2:=Zn hp (.tup (Xj k.zs))
 refine ⟨by show 3≤sizeLine;decide,fun r hr'=>?_⟩
 have s3:=Zn hr' (.tup [.int (k.pr:Nat),.int (k.la:Nat),.ref p])
 have S3:=(s1.trans s2).trans s3
 refine Za _ rfl (Z5 n _ dx _ _ rfl (S3 _ _ e1) Tx.Z6 Tx.ZbS e2.ft (Za _ rfl (Zj a.dt _ rfl (XW.k (k:=Sum.inr k.nm) (S3 _ _ h1) (Nat.lt_trans hrl (by decide))) ?_)))
 exact q _ (Yb (s0.trans S3) hW.t _) ((hN.same S3).addTk (S3 _ _ h1) (h2.imp fun _ _=>XZ.same S3) hv ⟨rfl,Zj r p rfl Zh (s3 _ _ Zh)⟩)
def Zp7 (t:Z9):Sp:=fun vs H Q _=>∃ (n:Addr) (N:YN) (z:Str),vs=[.ref n,.str z]∧X0 t H n N∧(fnd Z3.nm N.st z).isSome=true∧Q .non H
theorem ZeF (Tx:ZO K mg t):ZF P w K mg base ZE 2 t.ZdN t.ZdO ["self","name"] (Zp7 t):=by
 refine Tx.Zoc.ok ZmJ (fun vs H Q E h=>?_) (fun cdv A outer s H vs Q E hr h=>?_)
 ·obtain ⟨n,N,z,rfl,_⟩:=h
  rfl
 obtain ⟨n,N,z,rfl,⟨a,hN⟩,hf,q⟩:=h
 obtain ⟨dx,fs,e1,e2⟩:=hN.ob
 obtain ⟨rows,h1,h2⟩:=hN.st
 obtain ⟨x,ex⟩:=Option.isSome_iff_exists.mp hf
 obtain ⟨kv,ev,_⟩:=(X8 (fun kv x (h:XR H kv x)=>h.1) h2 z).2 x ex
 refine Za _ (Zp (ZX (Yq (Ym (ZB (ZaZ Tx) (hr.mono (by omega)) rfl Tx.ZaO Tx.Zaj.kp Tx.ZaP .nil Zr (Zb (pv 1) (Zb (Ya (pv 0) rfl) Ze)))))
  (Zp YT)
  ZY)) ?_
 exact Za _ rfl (Za _ rfl (Z5 n _ dx _ _ rfl e1 Tx.Z6 Tx.ZaT e2.fs1 (XX z a.ds rows rfl h1 (Za _ rfl (ZH (by rw [ev];exact Bool.false_ne_true) q)))))
def Zp8 (t:Z9):Sp:=fun vs H Q _=>∃ (n:Addr) (N:YN) (z:Str),vs=[.ref n,.str z]∧X0 t H n N∧(fnd Tp.nm N.tp z).isSome=true∧Q .non H
theorem Zid (Tx:ZO K mg t):ZF P w K mg base ZE 2 t.ZdP t.ZdQ ["self","name"] (Zp8 t):=by
 refine Tx.Zod.ok ZmK (fun vs H Q E h=>?_) (fun cdv A outer s H vs Q E hr h=>?_)
 ·obtain ⟨n,N,z,rfl,_⟩:=h
  rfl
 obtain ⟨n,N,z,rfl,⟨a,hN⟩,hf,q⟩:=h
 obtain ⟨dx,fs,e1,e2⟩:=hN.ob
 obtain ⟨rows,h1,h2⟩:=hN.tp
 obtain ⟨x,ex⟩:=Option.isSome_iff_exists.mp hf
 obtain ⟨kv,ev,_⟩:=(X8 (fun kv x (h:Xn H kv x)=>h.1) h2 z).2 x ex
 refine Za _ (Zp (ZX (Yq (Ym (ZB (ZaZ Tx) (hr.mono (by omega)) rfl Tx.ZaO Tx.Zaj.kp Tx.ZaP .nil Zr (Zb (pv 1) (Zb (Ya (pv 0) rfl) Ze)))))
  (Zp YT)
  ZY)) ?_
 exact Za _ rfl (Za _ rfl (Z5 n _ dx _ _ rfl e1 Tx.Z6 Tx.Uq e2.fp (XX z a.dp rows rfl h1 (Za _ rfl (ZH (by rw [ev];exact Bool.false_ne_true) q)))))
def Zp9 (t:Z9):Sp:=fun vs H Q _=>∃ (n:Addr) (N:YN),vs=[.ref n]∧X0 t H n N∧∀ l,H l=none→Q (.ref l) (Zd H l (.lst ((N.tp.map Tp.nm).map V.str)))
theorem Zqa {H:Hp} {rows:List (Zt×V)} {tp:List Tp} (h:Al (Xn H) rows tp):(rows.map fun kv=>kV kv.1)=(tp.map Tp.nm).map V.str:=by
 induction h with
 | nil=>rfl
 | cons a _ ih=>rw [List.map_cons,List.map_cons,List.map_cons,ih,a.1];rfl
theorem Zie (Tx:ZO K mg t):ZF P w K mg base ZE 1 t.ZdV t.ZdW ["self"] (Zp9 t):=by
 refine Tx.Zoi.ok ZmN (fun vs H Q E h=>?_) (fun cdv A outer s H vs Q E hr h=>?_)
 ·obtain ⟨n,N,rfl,_⟩:=h
  rfl
 obtain ⟨n,N,rfl,⟨a,hN⟩,q⟩:=h
 obtain ⟨dx,fs,e1,e2⟩:=hN.ob
 obtain ⟨rows,h1,h2⟩:=hN.tp
 refine Za _ (Zp (ZT (WO (ZlI rfl) rfl Tx.Vi Vh (Zb (Ya (pv 0) rfl) Ze)))) ?_
 refine Za _ rfl (Z5 n _ dx _ _ rfl e1 Tx.Z6 Tx.Uq e2.fp (Zj a.dp rows rfl h1 fun l hl=>?_))
 rw [Zqa h2]
 exact q l hl
def Zqb (t:Z9):Sp:=fun vs H Q _=>∃ (n:Addr) (N:YN) (z:Str) (x:Tp),vs=[.ref n,.str z]∧X0 t H n N∧fnd Tp.nm N.tp z=some x∧∀ l vs H',Zk H H'→H l=none→H' l=some (.lst vs)→Al (Ye H') vs x.cs→Q (.ref l) H'
theorem Zqc (Tx:ZO K mg t):ZF P w K mg base ZE 3 t.Zd1 t.Zd2 ["self","trip"] (Zqb t):=by
 refine Tx.Zon.ok ZmQ (fun vs H Q E h=>?_) (fun cdv A outer s H vs Q E hr h=>?_)
 ·obtain ⟨n,N,z,x,rfl,_⟩:=h
  rfl
 obtain ⟨n,N,z,x,rfl,hA,ex,q⟩:=h
 have hA':=hA
 obtain ⟨a,hN⟩:=hA'
 obtain ⟨dx,fs,e1,e2⟩:=hN.ob
 obtain ⟨rows,h1,h2⟩:=hN.tp
 obtain ⟨kv,ev,_,r,qa,vs,er,hr1,hq1,hcs⟩:=(X8 (fun kv x (h:Xn H kv x)=>h.1) h2 z).2 x ex
 refine Za _ (Zm (Z0 (YR (pv 0) Tx.Z6 Tx.ZhQ (Zid Tx) (hr.mono (by omega)) Tx.ZhG .nil Zr (Zb (pv 1) Ze)))
  (Zp (ZT (WO Qb rfl Tx.Vi Vh (Zb (Zw ZQ (Xa (Z8 hr) (Ya (pv 0) rfl) (pv 1) (fun _ _=>rfl)) Zc (fun _ _=>rfl)) Ze))))) ?_
 refine Za _ rfl (ZI n dx _ rfl e1 e2.n_check_trip (Za _ rfl (ZI n N z rfl hA (by rw [ex];rfl) ?_)))
 refine Za _ rfl (Z5 n _ dx _ _ rfl e1 Tx.Z6 Tx.Uq e2.fp (Za _ rfl (Zj a.dp (.ref r) rfl ?_ (Zz r _ 1 _ rfl rfl (Zu.of hr1) rfl (Zj qa _ rfl (.inr (Zu.of hq1)) fun l hl=>?_)))))
 ·rw [← er,← ev];exact Yd.k (k:=Sum.inr z) h1
 ·exact q l vs _ (Zn hl _) hl Zh (hcs.imp fun _ _=>Ye.same (Zn hl _))
def Zqd (t:Z9):Sp:=fun vs H Q _=>∃ (n:Addr) (N:YN) (z:Str) (x:Tp),vs=[.ref n,.str z]∧X0 t H n N∧fnd Tp.nm N.tp z=some x∧Q (.str x.ru) H
theorem Zqe (Tx:ZO K mg t):ZF P w K mg base ZE 3 t.ZdZ t.Zd0 ["self","trip"] (Zqd t):=by
 refine Tx.Zol.ok ZmP (fun vs H Q E h=>?_) (fun cdv A outer s H vs Q E hr h=>?_)
 ·obtain ⟨n,N,z,x,rfl,_⟩:=h
  rfl
 obtain ⟨n,N,z,x,rfl,hA,ex,q⟩:=h
 have hA':=hA
 obtain ⟨a,hN⟩:=hA'
 obtain ⟨dx,fs,e1,e2⟩:=hN.ob
 obtain ⟨rows,h1,h2⟩:=hN.tp
 obtain ⟨kv,ev,_,r,qa,vs,er,hr1,hq1,hcs⟩:=(X8 (fun kv x (h:Xn H kv x)=>h.1) h2 z).2 x ex
 refine Za _ (Zm (Z0 (YR (pv 0) Tx.Z6 Tx.ZhQ (Zid Tx) (hr.mono (by omega)) Tx.ZhG .nil Zr (Zb (pv 1) Ze)))
  (Zp (ZT (Zw ZQ (Xa (Z8 hr) (Ya (pv 0) rfl) (pv 1) (fun _ _=>rfl)) Zc (fun _ _=>rfl))))) ?_
 refine Za _ rfl (ZI n dx _ rfl e1 e2.n_check_trip (Za _ rfl (ZI n N z rfl hA (by rw [ex];rfl) ?_)))
 refine Za _ rfl (Z5 n _ dx _ _ rfl e1 Tx.Z6 Tx.Uq e2.fp (Za _ rfl (Zj a.dp (.ref r) rfl ?_ (Zz r _ 0 _ rfl rfl (Zu.of hr1) rfl q))))
 rw [← er,← ev];exact Yd.k (k:=Sum.inr z) h1
def Zqf (t:Z9):Sp:=fun vs H Q _=>∃ (n:Addr) (N:YN) (z:Str) (x:Xk),vs=[.ref n,.str z]∧X0 t H n N∧fnd Xk.nm N.ru z=some x∧x.r.Ok∧∀ v' H',Zk H H'→Xg t H' v' x.r→Q v' H'
theorem Zqg (Tx:ZO K mg t):ZF P w K mg base ZE 8 t.ZdX t.ZdY ["self","name"] (Zqf t):=by
 refine Tx.Zoj.ok ZmO (fun vs H Q E h=>?_) (fun cdv A outer s H vs Q E hr h=>?_)
 ·obtain ⟨n,N,z,x,rfl,_⟩:=h
  rfl
 obtain ⟨n,N,z,x,rfl,⟨a,hN⟩,ex,ok,q⟩:=h
 obtain ⟨dx,fs,e1,e2⟩:=hN.ob
 obtain ⟨rows,h1,h2⟩:=hN.ru
 obtain ⟨kv,ev,_,hro⟩:=(X8 (fun kv x (h:XJ t H kv x)=>h.1) h2 z).2 x ex
 refine Za _ (Zm (ZX (Yq (Ym (ZB (ZaZ Tx) (hr.mono (by omega)) rfl Tx.ZaO Tx.Zaj.kp Tx.ZaP .nil Zr (Zb (pv 1) (Zb (Ya (pv 0) rfl) Ze)))))
  (Zp YT)
  ZY)
  (Zp (ZT (ZB (Zib Tx) (hr.mono (by omega)) rfl Tx.Zhj Tx.Zep.kp Tx.Zhk .nil Zr (Zb (Xa (Z8 hr) (Ya (pv 0) rfl) (pv 1) (fun _ _=>rfl)) Ze))))) ?_
 refine Za _ rfl (Za _ rfl (Z5 n _ dx _ _ rfl e1 Tx.Z6 Tx.UW e2.fr (XX z a.dr rows rfl h1 (Za _ rfl (ZH (by rw [ev];exact Bool.false_ne_true) ?_)))))
 refine Za _ rfl (Z5 n _ dx _ _ rfl e1 Tx.Z6 Tx.UW e2.fr (Za _ rfl (Zj a.dr kv.2 rfl ?_ (Xm kv.2 x.r rfl hro ok trivial q))))
 rw [← ev];exact Yd.k (k:=Sum.inr z) h1
theorem WY {z:Str} (h:Yw z):(PyData.str z).canLay0=true:=by
 simp only [PyData.canLay0]
 show z.cps.all (fun c=>decide (c < 0x110000))=true
 rw [← Array.all_toList,List.all_eq_true]
 intro c hc
 have:=h.2.2.1 c hc
 exact decide_eq_true (by omega)
def Za0 (WS:List Wl) (a b:Str):Bool:=WS.any fun x=>(a == x.o && b == x.t) || (b == x.o && a == x.t)
def Zqh (K:W.Frag):Sp:=fun vs H Q _=>∃ (l:Addr) (xs:List V) (n:Int),vs=[.ref l,.int n]∧Zg K H l xs∧(xs.length:Int) < n∧Q .non H
theorem Zqi (Tx:ZO K mg t):ZF P w K mg base ZE 1 t.Zbw t.Zbx ["kept","most"] (Zqh K):=by
 refine Tx.UV.ok ZgY (fun vs H Q E h=>?_) (fun cdv A outer s H vs Q E hr h=>?_)
 ·obtain ⟨d,kvs,n,rfl,_⟩:=h
  rfl
 obtain ⟨d,kvs,n,rfl,hd,hl,q⟩:=h
 refine Za _ (Zp (ZX (Xd Zfc (ZV Xh rfl Tx.YZ YX (Zb (pv 0) Ze)) (pv 1) (YJ _))
  (Zp YT)
  ZY)) ?_
 exact Za _ rfl (Zj d kvs rfl (.inl hd) (Za _ rfl (Zj _ _ rfl rfl (Za _ rfl (ZH (by rw [decide_eq_false (by omega)];decide) q)))))
def Zqj (t:Z9):Sp:=fun vs H Q _=>∃ (n:Addr) (N:YN) (a b:Str),vs=[.ref n,.str a,.str b]∧X0 t H n N∧Yw a∧Yw b∧(∀ x∈N.wk,Yw x.o∧Yw x.t)∧N.wk.length≤12∧∀ H',Zk H H'→Q (.bl (Za0 N.wk a b)) H'
theorem Zqk (Tx:ZO K mg t):ZF P w K mg base ZE 1 t.ZdT t.ZdU ["self","one","other"] (Zqj t):=by
 refine Tx.Zog.ok ZmM (fun vs H Q E h=>?_) (fun cdv A outer s H vs Q E hr h=>?_)
 ·obtain ⟨n,N,a,b,rfl,_⟩:=h
  rfl
 obtain ⟨n,N,a,b,rfl,⟨na,hN⟩,oka,okb,okW,w12,q⟩:=h
 obtain ⟨dx,fs,e1,e2⟩:=hN.ob
 obtain ⟨vw,h1,h2⟩:=hN.wk
 refine Za _ (Zp (ZT (ZV (Zgx rfl) rfl Tx.Zha Zg6 (Zb (Vr (cl:=[(Str.ofString "other",s.heap.objs.size+2),(Str.ofString "one",s.heap.objs.size+1)]) (N:=["walk","one","other"]) (fr:=[none,some 1,some 2]) rfl (XT (Ya (pv 0) rfl)) rfl (by decide +kernel) rfl (by decide +kernel) ⟨⟨rfl,Or.inl rfl,Or.inl rfl,Za _ rfl rfl⟩,⟨⟨rfl,Or.inl rfl,Or.inl rfl,Za _ rfl rfl⟩,trivial⟩⟩ ⟨rfl,⟨rfl,trivial⟩⟩ rfl (fun _ _ _ _ _=>(ZU (i:=0) (show List.Nodup (["walk","one","other"]:List Str) by decide +kernel) rfl (Or.inl rfl))) (fun _ _ _ _ _=>Ug) (fun _ _ _ _ _=>(VP (show Ys _ (compareOp .In) (Zcw K false) from ZlJ hr.units) (Yf (Zb (Zw (show Y7 _ (XA K) from ZQ) (pv 0) Zc (fun _ _=>rfl)) (Zb (Zw (show Y7 _ (XA K) from ZQ) (pv 0) Zc (fun _ _=>rfl)) Ze))) (Yf (Zb (Yf (Zb (pv 1) (Zb (pv 2) Ze))) (Zb (Yf (Zb (pv 2) (Zb (pv 1) Ze))) Ze))) rfl))) Ze)))) ?_
 refine Za _ rfl (Z5 n _ dx _ _ rfl e1 Tx.Z6 Tx.ZbR e2.fw (Zx na.lw rfl ⟨_,Zg.of h1⟩ (Qf (K:=K) (a:=na.lw) (xs:=vw) (fun i acc σ H'=>Zk H H'∧(∃ v,σ=[v,some (.str a),some (.str b)])∧acc=((N.wk.take i).map fun x=>(a == x.o && b == x.t) || (b == x.o && a == x.t)).map V.bl) ⟨Zk.refl H,⟨_,rfl⟩,rfl⟩
  (Nat.le_trans (show _≤12 by rw [h2.length];exact w12) (by decide)) (fun i acc σ H' _ ⟨s',_⟩=>Zg.of (s' _ _ h1)) ?_ ?_)))
 ·rintro i v acc σ H1 hl hv ⟨s1,⟨v0,rfl⟩,rfl⟩
  obtain ⟨x,ex,px,rfl,hpx⟩:=h2.get hv
  have okx:=okW x (List.mem_of_getElem? ex)
  have hpx1:=s1 _ _ hpx
  dsimp only [W2,VT]
  rw [if_pos rfl]
  refine Za _ rfl (Zz px _ 0 _ rfl rfl (Zu.of hpx1) rfl (Za _ rfl (Z7 px _ 1 _ rfl rfl (Zu.of hpx1) rfl (by show 2≤sizeLine;decide) fun p1 g1=>?_)))
  have u1:=Zn g1 (.tup [.str x.o,.str x.t])
  refine Za _ rfl (Zx _ rfl (by show 2≤sizeLine;decide) fun p2 g2=>?_)
  have u2:=Zn g2 (.tup [.str a,.str b])
  refine Za _ rfl (Zx _ rfl (by show 2≤sizeLine;decide) fun p3 g3=>?_)
  have u3:=Zn g3 (.tup [.str b,.str a])
  refine ⟨by show 2≤sizeLine;decide,fun p4 g4=>?_⟩
  have u4:=Zn g4 (.tup [.ref p2,.ref p3])
  have k1:=((u2.trans u3).trans u4) p1 _ Zh
  have k2:=(u3.trans u4) p2 _ Zh
  have k3:=u4 p3 _ Zh
  have S4:=(((s1.trans u1).trans u2).trans u3).trans u4
  refine Z7 p4 _ (.tuple [.str x.o,.str x.t]) [.tuple [.str a,.str b],.tuple [.str b,.str a]] rfl (.inr (Zu.of Zh)) (.tup (Zu.of k1) (.cons (.str _ (WY okx.1)) (.cons (.str _ (WY okx.2)) .nil))) (.cons (.tup (Zu.of k2) (.cons (.str _ (WY oka)) (.cons (.str _ (WY okb)) .nil))) (.cons (.tup (Zu.of k3) (.cons (.str _ (WY okb)) (.cons (.str _ (WY oka)) .nil))) .nil)) ?_ ?_
  ·simp [PyData.depth,PyData.depthAll]
  refine ⟨by rw [List.length_append,List.length_singleton];omega,S4,⟨_,rfl⟩,?_⟩
  rw [List.take_add_one,ex,List.map_append,List.map_append]
  congr 1
  simp [PyData.eqv,PyData.eqvAll]
 ·rintro acc σ H1 ha ⟨s1,⟨v0,rfl⟩,rfl⟩ l hl
  rw [h2.length,List.take_length]
  refine Zj l _ rfl (Zg.of Zh) ?_
  rw [List.any_map]
  exact q _ (s1.trans (Zn hl _))
def Zql (t:Z9):Sp:=fun vs H Q _=>∃ (n:Addr) (a:NA) (N:YN) (x:Wl) (H0:Hp),vs=[.ref n,.str x.o,.str x.t,.int (x.m:Nat)]∧Yi t H n a N∧Zan H0 a∧Zk H0 H∧(∀ y∈N.wk,Yw y.o∧Yw y.t)∧Yw x.o∧Yw x.t∧(fnd Z3.nm N.st x.o).isSome=true∧(fnd Z3.nm N.st x.t).isSome=true∧x.o≠x.t∧Za0 N.wk x.o x.t=false∧1≤x.m∧x.m≤60∧N.wk.length < 12 ∧
 ∀ H',Zk H0 H'→Yi t H' n a { N with wk:=N.wk++[x] }→Q .non H'
theorem Zqm (Tx:ZO K mg t):ZF P w K mg base ZE 4 t.ZdF t.ZdG ["self","one","other","minutes"] (Zql t):=by
 refine Tx.Zn4.ok ZmH (fun vs H Q E h=>?_) (fun cdv A outer s H vs Q E hr h=>?_)
 ·obtain ⟨n,a,N,x,H0,rfl,_⟩:=h
  rfl
 obtain ⟨n,a,N,x,H0,rfl,hN,hW,s0,okW,oko,okt,ho,ht,ne,nh,m1,m60,w12,q⟩:=h
 obtain ⟨dx,fs,e1,e2⟩:=hN.ob
 refine Za _ (Zm (Z0 (YR (pv 0) Tx.Z6 Tx.ZeB (ZeF Tx) (hr.mono (by omega)) Tx.Zew .nil Zr (Zb (pv 1) Ze)))
  (Zm (Z0 (YR (pv 0) Tx.Z6 Tx.ZeB (ZeF Tx) (hr.mono (by omega)) Tx.Zew .nil Zr (Zb (pv 2) Ze)))
  (Zm (ZX (PW.pt (VM (Xd Wc (pv 1) (pv 2) (YJ _)) (VL (Ym (YR (pv 0) Tx.Z6 Tx.ZoO (Zqk Tx) (hr.mono (by omega)) Tx.Zoh .nil Zr (Zb (pv 1) (Zb (pv 2) Ze)))))))
  (Zp YT)
  ZY)
  (Zm (Z0 (ZB (V7 Tx) (hr.mono (by omega)) rfl Tx.V4 Tx.VA.kp Tx.V5 .nil Zr (Zb (pv 3) (Zb Zc (Zb (YH rfl Tx.Zne) Ze)))))
  (Zm (Z0 (ZB (Zqi Tx) (hr.mono (by omega)) rfl Tx.ZaR Tx.UV.kp Tx.ZaS .nil Zr (Zb (Ya (pv 0) rfl) (Zb (YH rfl Tx.Zm9) Ze))))
  (Zp (Z0 (Vc PySem.F.plainAttrs_list PySem.F.slot_list_append PySem.F.type_list_append Vq (Ya (pv 0) rfl) (Zb (Yf (Zb (pv 1) (Zb (pv 2) (Zb (pv 3) Ze)))) Ze))))))))) ?_
 refine Za _ rfl (ZI n dx _ rfl e1 e2.n_check_stop (Za _ rfl (ZI n N x.o rfl ⟨a,hN⟩ ho ?_)))
 refine Za _ rfl (ZI n dx _ rfl e1 e2.n_check_stop (Za _ rfl (ZI n N x.t rfl ⟨a,hN⟩ ht ?_)))
 refine Za _ rfl (Zx _ rfl rfl (Za _ rfl (ZH (by show ¬ decide (V.str x.o=V.str x.t)=true;simp [ne]) ?_)))
 refine Za _ rfl (ZI n dx _ rfl e1 e2.n_has_walk (Za _ rfl (Za _ rfl ⟨n,N,x.o,x.t,rfl,⟨a,hN⟩,oko,okt,okW,by omega,fun H1 s1=>?_⟩)))
 rw [nh]
 refine Za _ rfl (ZH Bool.false_ne_true ?_)
 obtain ⟨vw,c1,c2⟩:=(hN.same s1).wk
 refine Za _ rfl (ZI x.m 1 60 rfl (by omega) (by omega) ?_)
 refine Za _ rfl (Z5 n _ dx _ _ rfl (s1 _ _ e1) Tx.Z6 Tx.ZbR e2.fw (ZI a.lw vw 12 rfl (Zg.of c1) (by rw [c2.length];omega) ?_))
 refine Za _ rfl ⟨n,_,dx,_,_,rfl,s1 _ _ e1,Tx.Z6,Tx.ZbR,e2.fw,.inl ⟨rfl,_,Zg.of c1⟩,Za _ rfl (Za _ rfl (Zx _ rfl (by show 3≤sizeLine;decide) fun r hr'=>?_))⟩
 have s2:=Zn hr' (.tup [.str x.o,.str x.t,.int (x.m:Nat)])
 have S2:=s1.trans s2
 have hlw:=s2 _ _ c1
 refine Yn a.lw _ _ rfl rfl hlw (Nat.lt_of_le_of_lt (show _≤12 by rw [c2.length];omega) (by decide)) ?_
 exact q _ (Yb (s0.trans S2) hW.w _) ((hN.same S2).addWk hlw (c2.imp fun _ _=>YC.same s2) (Za r rfl Zh))
def Zqn (K:W.Frag):Sp:=fun vs H Q _=>∃ (l:Addr) (vs':List V) (cs:List Cl),vs=[.ref l]∧H l=some (.lst vs')∧Al (Ye H) vs' cs∧2≤cs.length∧cs.length≤6∧∀ H',Zk H H'→Q (.bl true) H'
theorem Zqo (Tx:ZO K mg t):ZF P w K mg base ZE 1 t.ZcV t.ZcW ["calls"] (Zqn K):=by
 refine Tx.Zhl.ok Zmr (fun vs H Q E h=>?_) (fun cdv A outer s H vs Q E hr h=>?_)
 ·obtain ⟨l,vs',cs,rfl,_⟩:=h
  rfl
 obtain ⟨l,vs',cs,rfl,hl,al,c2,c6,q⟩:=h
 have lv:=al.length
 refine Za _ (Zm (ZX (PW.pt (VM (Yq (Ym (ZV WP rfl Tx.Wh Wf (Zb (pv 0) (Zb (WQ rfl Tx.Vi Vh) Ze))))) (VL (Yq (Zbe Wv Wv (YH rfl Tx.Znh) (ZV Xh rfl Tx.YZ YX (Zb (pv 0) Ze)) (YH rfl Tx.Zni))))))
  (Zp (ZT Wm))
  ZY)
  (Zp (ZT (ZV (ZfJ rfl) rfl Tx.Zg9 Zg5 (Zb (Vr (cl:=[]) (N:=["call"]) (fr:=[none]) rfl (XT (pv 0)) rfl (by decide +kernel) rfl (by decide +kernel) trivial trivial rfl (fun _ _ _ _ _=>(ZU (i:=0) (show List.Nodup (["call"]:List Str) by decide +kernel) rfl (Or.inl rfl))) (fun _ _ _ _ _=>Ug) (fun _ _ _ _ _=>(U6 (ZV (show Xq _ (.builtin "isinstance") (fun xs H Q=>∃ x T t b,xs=[x,V.ty T]∧XN K H x t∧W.kitOne K t (Value.type T)=some b∧Q (V.bl b) H) from WP) rfl Tx.Wh Wf (Zb (pv 0) (Zb (WQ rfl Tx.UU UT) Ze))) (UC (VP Wc (ZV (show Xq _ (.builtin "len") (fun xs H Q=>∃ p ys,xs=[V.ref p]∧(Zg K H p ys∨Zu K H p ys)∧Q (V.int ↑ys.length) H) from Xh) rfl Tx.YZ YX (Zb (pv 0) Ze)) Zc (YJ _)))))) Ze))))) ?_
 refine Za _ rfl (Xu (.ref l) ("list") _ _ rfl (.lst hl) rfl (Za _ rfl (ZH (by decide) ?_)))
 refine Za _ rfl (Zj l _ rfl (.inl (Zg.of hl)) (Zj _ _ rfl rfl (Za _ rfl (YS (decide_eq_true (by omega)) ?_))))
 refine Zj _ _ rfl rfl (Za _ rfl (ZH (by rw [decide_eq_true (show ((vs'.length:Nat):Int)≤6 by omega)];decide) ?_))
 refine Za _ rfl (Zx l rfl ⟨_,Zg.of hl⟩ (Qf (K:=K) (a:=l) (xs:=vs') (fun i acc σ H'=>H'=H∧acc=(List.replicate i true).map V.bl∧∃ v,σ=[v]) ⟨rfl,rfl,_,rfl⟩ (Nat.le_trans (show _≤6 by omega) (by decide)) (fun i acc σ H' _ ⟨e,_⟩=>by rw [e];exact Zg.of hl) ?_ ?_))
 ·rintro i y acc σ H' hi hy ⟨rfl,rfl,v,rfl⟩
  obtain ⟨c,ec,p,rfl,hp⟩:=al.get hy
  dsimp only [W2,VT]
  rw [if_pos rfl]
  refine Za _ rfl (Xu (.ref p) ("tuple") _ _ rfl (.tup hp) rfl (Za _ rfl (YS (by decide) (Za _ rfl (Zo p _ rfl (.inr (Zu.of hp)) rfl ?_)))))
  refine ⟨by rw [List.length_append,List.length_singleton];omega,rfl,?_,_,rfl⟩
  rw [List.replicate_succ',List.map_append]
  rfl
 ·rintro acc σ H' ha ⟨rfl,rfl,v,rfl⟩ p hp
  refine Zj p (List.replicate vs'.length true) rfl (Zg.of Zh) ?_
  have q2:=q _ (Zn hp (.lst ((List.replicate vs'.length true).map V.bl)))
  rw [show (List.replicate vs'.length true).all id=true by rw [List.all_eq_true];intro x hx;rw [(List.mem_replicate.mp hx).2];rfl]
  exact q2
theorem Zif {H:Hp} {v:V} {c:Cl} (h:Ye H v c):YI H v (c.st,((c.ar:Nat):Int),((c.lv:Nat):Int)):=h
theorem Zqp {c k:Cl} (h:c.st≠k.st∧k.lv < c.ar):Ut (c.st,((c.ar:Nat):Int),((c.lv:Nat):Int)) (k.st,((k.ar:Nat):Int),((k.lv:Nat):Int))=true:=by
 unfold Ut
 rw [Bool.and_eq_true]
 refine ⟨?_,decide_eq_true (show ((k.lv:Nat):Int) < ((c.ar:Nat):Int) by omega)⟩
 show (!decide (V.str c.st=V.str k.st))=true
 simpa using h.1
theorem ZeG {α:Type} {nm:α→Str} {xs:List α} {z:Str} (h:z∈xs.map nm):(fnd nm xs z).isSome=true:=by
 obtain ⟨x,hx,rfl⟩:=List.mem_map.mp h
 obtain ⟨y,e⟩:=Zic (nm:=nm) hx
 rw [e];rfl
def Zqq (t:Z9):Sp:=fun vs H Q _=>∃ (n:Addr) (N:YN) (v:V) (c:Cl),vs=[.ref n,v]∧X0 t H n N∧Ye H v c∧(fnd Z3.nm N.st c.st).isSome=true∧c.ar≤c.lv∧c.lv≤2879∧Q .non H
theorem Zqr (Tx:ZO K mg t):ZF P w K mg base ZE 4 t.ZdR t.ZdS ["self","call"] (Zqq t):=by
 refine Tx.Zoe.ok ZmL (fun vs H Q E h=>?_) (fun cdv A outer s H vs Q E hr h=>?_)
 ·obtain ⟨n,N,v,c,rfl,_⟩:=h
  rfl
 obtain ⟨n,N,v,c,rfl,hA,⟨p,rfl,hp⟩,hs,h1,h2,q⟩:=h
 have hA':=hA
 obtain ⟨a,hN⟩:=hA'
 obtain ⟨dx,fs,e1,e2⟩:=hN.ob
 refine Za _ (Zm (Z0 (YR (pv 0) Tx.Z6 Tx.ZeB (ZeF Tx) (hr.mono (by omega)) Tx.Zew .nil Zr (Zb (Zw ZQ (pv 1) Zc (fun _ _=>rfl)) Ze)))
  (Zm (Z0 (ZB (V7 Tx) (hr.mono (by omega)) rfl Tx.V4 Tx.VA.kp Tx.V5 .nil Zr (Zb (Zw ZQ (pv 1) Zc (fun _ _=>rfl)) (Zb Zc (Zb (YH rfl Tx.Zem) Ze)))))
  (Zm (Z0 (ZB (V7 Tx) (hr.mono (by omega)) rfl Tx.V4 Tx.VA.kp Tx.V5 .nil Zr (Zb (Zw ZQ (pv 1) Zc (fun _ _=>rfl)) (Zb Zc (Zb (YH rfl Tx.Zem) Ze)))))
  (Zp (ZX (Xd Zfb (Zw ZQ (pv 1) Zc (fun _ _=>rfl)) (Zw ZQ (pv 1) Zc (fun _ _=>rfl)) (YJ _))
  (Zp YT)
  ZY))))) ?_
 refine Za _ rfl (ZI n dx _ rfl e1 e2.n_check_stop (Za _ rfl (Zz p _ 0 _ rfl rfl (Zu.of hp) rfl (ZI n N c.st rfl hA hs ?_))))
 refine Za _ rfl (Zz p _ 1 _ rfl rfl (Zu.of hp) rfl (ZI c.ar 0 2879 rfl (by omega) (by omega) ?_))
 refine Za _ rfl (Zz p _ 2 _ rfl rfl (Zu.of hp) rfl (ZI c.lv 0 2879 rfl (by omega) (by omega) ?_))
 exact Za _ rfl (Zz p _ 2 _ rfl rfl (Zu.of hp) rfl (Za _ rfl (Zz p _ 1 _ rfl rfl (Zu.of hp) rfl (Zj _ _ rfl rfl (Za _ rfl (ZH (by rw [decide_eq_false (by omega)];decide) q))))))
def Zqs (t:Z9) (K:W.Frag):Sp:=fun vs H Q _=>∃ (n:Addr) (a:NA) (N:YN) (x:Tp) (l:Addr) (vs':List V) (H0:Hp),vs=[.ref n,.str x.nm,.str x.ru,.ref l]∧Yi t H n a N∧Zan H0 a∧Zk H0 H∧H l=some (.lst vs')∧Al (Ye H) vs' x.cs∧Vk (N.st.map Z3.nm) x.cs∧2≤x.cs.length∧x.cs.length≤6∧Yw x.nm∧(fnd Xk.nm N.ru x.ru).isSome=true∧fnd Tp.nm N.tp x.nm=none∧N.tp.length < 10 ∧
 ∀ H',Zk H0 H'→Zk (wo H a.dp) H'→Yi t H' n a { N with tp:=N.tp++[x] }→Q .non H'
theorem Zqt (Tx:ZO K mg t):ZF P w K mg base ZE 6 t.ZdL t.ZdM ["self","name","rule","calls"] (Zqs t K):=by
 refine Tx.Zoa.ok ZcC (fun vs H Q E h=>?_) (fun cdv A outer s H vs Q E hr h=>?_)
 ·obtain ⟨n,a,N,x,l,vs',H0,rfl,_⟩:=h
  rfl
 obtain ⟨n,a,N,x,l,vs',H0,rfl,hN,hW,s0,hl,al,ok,c2,c6,okn,hru,hf,hlen,q⟩:=h
 obtain ⟨dx,fs,e1,e2⟩:=hN.ob
 obtain ⟨rows,h1,h2⟩:=hN.tp
 obtain ⟨rrows,hr1,hr2⟩:=hN.ru
 obtain ⟨ry,ery⟩:=Option.isSome_iff_exists.mp hru
 obtain ⟨rkv,erv,_⟩:=(X8 (fun kv x (h:XJ t H kv x)=>h.1) hr2 x.ru).2 ry ery
 have hv:=(X8 (fun kv x (h:Xn H kv x)=>h.1) h2 x.nm).1 hf
 have hrl:rows.length < 10:=by rw [h2.length];exact hlen
 have lv:=al.length
 have lv6:vs'.length≤sizeLine:=Nat.le_trans (show vs'.length≤6 by omega) (by decide)
 refine Za _ (Zm (Z0 (ZB (ZbX Tx) (hr.mono (by omega)) rfl Tx.ZbM Tx.ZaQ.kp Tx.ZbN .nil Zr (Zb (pv 1) (Zb (Ya (pv 0) rfl) Ze))))
  (Zm (ZX (Yq (Ym (ZB (ZaZ Tx) (hr.mono (by omega)) rfl Tx.ZaO Tx.Zaj.kp Tx.ZaP .nil Zr (Zb (pv 2) (Zb (Ya (pv 0) rfl) Ze)))))
  (Zp YT)
  ZY)
  (Zm (ZX (Yq (Ym (ZB (Zqo Tx) (hr.mono (by omega)) rfl Tx.Znn Tx.Zhl.kp Tx.Zno .nil Zr (Zb (pv 3) Ze))))
  (Zp YT)
  ZY)
  (Zm (YU PassesOwn.never rfl (Zli rfl Tx.Zm0 (Zb (pv 3) Ze)) (W7 rfl (YD (ZU (i:=4) ZcC.nd rfl (Or.inl rfl)) (YD (ZU (i:=5) ZcC.nd rfl (Or.inl rfl)) W3)))
  (Zm (Z0 (YR (pv 0) Tx.Z6 Tx.ZoN (Zqr Tx) (hr.mono (by omega)) Tx.Zof .nil Zr (Zb (pv 5) Ze)))
  (Zp (ZX (PW.pt (U5 (Xd Zcb (pv 4) Zc (YJ _)) (Zap (Yq (Ym (ZB (Zh7 Tx) (hr.mono (by omega)) rfl Tx.Zhm Tx.Zeq.kp Tx.Zhn .nil Zr (Zb (pv 5) (Zb (Zw YA (pv 3) (Zi XL (pv 4) Zc) (fun _ _=>rfl)) Ze))))))))
  (Zp YT)
  ZY))))
  (Zm (Z0 (ZB (ZbY Tx) (hr.mono (by omega)) rfl Tx.ZaR Tx.UV.kp Tx.ZaS .nil Zr (Zb (Ya (pv 0) rfl) (Zb (YH rfl Tx.Znc) Ze))))
  (Zp (Vv (Z8 hr) (Ya (pv 0) rfl) (pv 1) (Yf (Zb (pv 2) (Zb (WO Zbk rfl Tx.UU UT (Zb (Vr (cl:=[]) (N:=["call"]) (fr:=[none]) rfl (XT (pv 3)) rfl (by decide +kernel) rfl (by decide +kernel) trivial trivial rfl (fun _ _ _ _ _=>(ZU (i:=0) (show List.Nodup (["call"]:List Str) by decide +kernel) rfl (Or.inl rfl))) (fun _ _ _ _ _=>Ug) (fun _ _ _ _ _=>(WO (show Xq _ (.type "tuple") (fun xs H Q=>∃ p ys,xs=[.ref p]∧((Zg K H p ys∧∀ l,H l=none→Q (.ref l) (Zd H l (.tup ys)))∨(Zu K H p ys∧Q (.ref p) H))) from Zbk) rfl Tx.UU UT (Zb (pv 0) Ze)))) Ze)) Ze))) rfl))))))) ?_
 refine Za _ rfl (Za _ rfl (Z5 n _ dx _ _ rfl e1 Tx.Z6 Tx.Uq e2.fp (Yn x.nm a.dp rows rfl h1 okn hv fun H1 s1=>?_)))
 refine Za _ rfl (Za _ rfl (Z5 n _ dx _ _ rfl (s1 _ _ e1) Tx.Z6 Tx.UW e2.fr (XX x.ru a.dr rrows rfl (s1 _ _ hr1) (Za _ rfl (ZH (by rw [erv];exact Bool.false_ne_true) ?_)))))
 refine Za _ rfl ⟨l,vs',x.cs,rfl,s1 _ _ hl,al.imp fun _ _=>Ye.same s1,c2,c6,fun H2 s2=>(Za _ rfl (ZH (by decide) ?_))⟩
 have S2:=s1.trans s2
 refine Za _ rfl (Zx l rfl ⟨_,Zg.of (S2 _ _ hl)⟩ (Zlj (xs:=vs') (fun i σ H'=>Zk H H'∧∃ v4 v5:Option V,σ=[some (.ref n),some (.str x.nm),some (.str x.ru),some (.ref l),v4,v5]) ⟨S2,_,_,rfl⟩ (fun i σ H' _ ⟨s',_⟩=>Zg.of (s' _ _ hl)) ?_ ?_))
 ·rintro i v pp σ H3 hx hpp ⟨s3,v4,v5,rfl⟩
  have s4:=s3.trans (Zn hpp (.tup [.int (i:Nat),v]))
  obtain ⟨c,ec,hc⟩:=al.get hx
  have mc:=List.mem_of_getElem? ec
  refine Zo pp _ rfl (Zu.of Zh) rfl (ZK _ _ rfl (Zj _ _ rfl rfl ?_))
  refine Za _ rfl (ZI n dx _ rfl (s4 _ _ e1) e2.n_check_call (Za _ rfl ⟨n,N,v,c,rfl,⟨a,hN.same s4⟩,hc.same s4,ZeG (ok.st c mc),(ok.rng c mc).1,(ok.rng c mc).2,?_⟩))
  refine Za _ rfl (Zj _ _ rfl rfl (Za _ rfl ?_))
  by_cases ci:0 < i
  ·refine YS (decide_eq_true (by omega)) ?_
   obtain ⟨j,rfl⟩:∃ j,i=j+1:=⟨i - 1,by omega⟩
   have hj:j < vs'.length:=by have:=(List.getElem?_eq_some_iff.mp hx).1;omega
   obtain ⟨k,ea,ha⟩:=al.get (List.getElem?_eq_getElem hj)
   have fo:=ok.fol j k c ea ec
   have eat:Yu vs' (((j+1:Nat):Int) - 1)=some vs'[j]:=by
    have:Yu vs' ((j:Nat):Int)=some vs'[j]:=Xz (List.getElem?_eq_getElem hj)
    rw [show (((j+1:Nat):Int) - 1)=((j:Nat):Int) by omega]
    exact this
   exact Za _ rfl (Za _ rfl (Za _ rfl (Zj _ _ rfl rfl (Zz l _ _ _ rfl rfl (Zg.of (s4 _ _ hl)) eat (Xu v _ _ _ rfl (Zif (hc.same s4)) (Zif (ha.same s4)) (Za _ rfl (ZH (by rw [Zqp fo];decide) ⟨s4,_,_,rfl⟩)))))))
  ·exact ZH (by rw [decide_eq_false (by omega)];decide) (ZH (by decide) ⟨s4,_,_,rfl⟩)
 ·rintro σ H3 ⟨s3,v4,v5,rfl⟩
  refine Za _ rfl (Z5 n _ dx _ _ rfl (s3 _ _ e1) Tx.Z6 Tx.Uq e2.fp (ZI a.dp rows 10 rfl (s3 _ _ h1) (by omega) ?_))
  refine Za _ rfl (Za _ rfl (Zx l rfl ⟨_,Zg.of (s3 _ _ hl)⟩ (Qf (K:=K) (a:=l) (xs:=vs') (fun i acc σ H'=>H'=H3∧acc=vs'.take i∧∃ v,σ=[v]) ⟨rfl,rfl,_,rfl⟩ lv6 (fun i acc σ H' _ ⟨e,_⟩=>by rw [e];exact Zg.of (s3 _ _ hl)) ?_ ?_)))
  ·rintro i y acc σ H' hi hy ⟨rfl,rfl,v,rfl⟩
   obtain ⟨c,ec,p,rfl,hp⟩:=al.get hy
   dsimp only [W2,VT]
   rw [if_pos rfl]
   refine Za _ rfl (ZK p _ rfl (.inr ⟨Zu.of (s3 _ _ hp),?_⟩))
   refine ⟨by rw [List.length_append,List.length_singleton];omega,rfl,?_,_,rfl⟩
   rw [List.take_add_one,hy];rfl
  ·rintro acc σ H' ha ⟨rfl,rfl,v,rfl⟩ p hp
   rw [List.take_length]
   have s5:=Zn hp (.lst vs')
   refine ZK p _ rfl (.inl ⟨Zg.of Zh,fun p2 hp2=>?_⟩)
   have s6:=Zn hp2 (.tup vs')
   refine ⟨by show 2≤sizeLine;decide,fun r hr'=>?_⟩
   have s7:=Zn hr' (.tup [.str x.ru,.ref p2])
   have S7:=((s3.trans s5).trans s6).trans s7
   refine Za _ rfl (Z5 n _ dx _ _ rfl (S7 _ _ e1) Tx.Z6 Tx.Uq e2.fp (Za _ rfl (Zj a.dp _ rfl (XW.k (k:=Sum.inr x.nm) (S7 _ _ h1) (Nat.lt_trans hrl (by decide))) ?_)))
   exact q _ (Yb (s0.trans S7) hW.p _) (fun b ob e=>by obtain ⟨nb,e⟩:=XQ e;rw [Zl nb];exact S7 _ _ e) ((hN.same S7).addTp (S7 _ _ h1) (h2.imp fun _ _=>Xn.same S7) hv ⟨rfl,ZI r p2 vs' rfl Zh (s7 _ _ Zh) (al.imp fun _ _=>Ye.same S7)⟩)
def Wa (KF:ZW) (z:Str) (day:Nat) (o:Option (List Nat)):ZW:=fun z' d'=>if z'=z∧d'=day then some o else KF z' d'
def Y0 (x:Zs):Option (Option (List Nat))→List Nat
 | some (some ls)=>ls
 | _=>List.replicate x.cs.length 0
def Wt (x:Zs) (o:Option (Option (List Nat))) (day:Nat):Option (List (Str×Int×Int)):=if x.r.runs day=true then (if o=some none then none else some (Yo (1440 * (day:Nat)) x.cs (Y0 x o))) else none
theorem Zqu {TS:List Zs} (nd:(TS.map Zs.nm).Nodup) {x:Zs} (hx:x∈TS) (KF:ZW) (day:Nat):Uu TS KF x.nm day=Wt x (KF x.nm day) day:=by
 unfold Uu Wt
 by_cases hr:x.r.runs day=true
 ·have e:TS.find? (fun y=>decide (y.nm=x.nm) && y.r.runs day)=some x:=by
   obtain ⟨i,hi,ei⟩:=List.mem_iff_getElem.mp hx
   rw [List.find?_eq_some_iff_getElem]
   refine ⟨by rw [decide_eq_true rfl,hr];rfl,i,⟨hi,ei,fun j hj=>?_⟩⟩
   have:=List.pairwise_iff_getElem.mp nd j i (by rw [List.length_map];omega) (by rw [List.length_map];exact hi) hj
   rw [List.getElem_map,List.getElem_map,ei] at this
   rw [decide_eq_false this];rfl
  rw [e,if_pos hr]
  cases KF x.nm day with
  | none=>rw [if_neg (fun z=>(nomatch z))];rfl
  | some o=>cases o with
   | none=>rw [if_pos rfl]
   | some ls=>rw [if_neg (fun z=>(nomatch z))];rfl
 ·have e:TS.find? (fun y=>decide (y.nm=x.nm) && y.r.runs day)=none:=by
   rw [List.find?_eq_none]
   intro y hy hyx
   rw [Bool.and_eq_true] at hyx
   have hyn:=of_decide_eq_true hyx.1
   obtain ⟨i,hi,ei⟩:=List.mem_iff_getElem.mp hx
   obtain ⟨j,hj,ej⟩:=List.mem_iff_getElem.mp hy
   have hij:i=j:=by
    refine Ub nd (x:=x.nm) ?_ ?_
    ·rw [List.getElem?_map,List.getElem?_eq_getElem hi,ei];rfl
    ·rw [List.getElem?_map,List.getElem?_eq_getElem hj,ej];exact congrArg some hyn
   subst hij
   rw [ei] at ej
   subst ej
   exact hr hyx.2
  rw [e,if_neg hr]
def Yx (t:Z9) (H:Hp) (kv:Zt×V) (x:Zs):Prop:=kv.1=Sum.inr x.nm∧∃ r rv l vs,kv.2=.ref r∧H r=some (.tup [rv,.ref l])∧Xg t H rv x.r∧H l=some (.lst vs)∧Al (Ye H) vs x.cs
theorem Yx.same {H H':Hp} {kv:Zt×V} {x:Zs} (s:Zk H H') (h:Yx t H kv x):Yx t H' kv x:=let ⟨e,r,rv,l,vs,e1,e2,e3,e4,e5⟩:=h;⟨e,Zz r rv l vs e1 (s _ _ e2) (e3.same s) (s _ _ e4) (e5.imp fun _ _=>Ye.same s)⟩
theorem Yx.put {H:Hp} {d:Addr} {u o:HO} {kv:Zt×V} {x:Zs} (hd:H d=some u) (lo:Z2 u) (nl:∀ xs,u≠.lst xs) (h:Yx t H kv x):Yx t (Zd H d o) kv x :=
 let ⟨e,r,rv,l,vs,e1,e2,e3,e4,e5⟩:=h;⟨e,Zz r rv l vs e1 (V8 hd lo e2) (e3.put hd lo) (by rw [Zl (YL e4 hd (fun z=>nl _ z.symm))];exact e4) (e5.imp fun _ _=>Ye.put hd lo)⟩
theorem Xg.wx {H:Hp} {x c dx:Addr} {f:List (Str×V)} {v:V} {r:R3} (hx:H x=some (.ins c dx f)) (hf:f.lookup ("timetable" : Str)≠none) (h:Xg t H v r):Xg t (wo H x) v r:=by
 have ne:∀ {p c' dx':Addr} {g:List (Str×V)},H p=some (.ins c' dx' g)→g.lookup ("timetable" : Str)=none→p≠x:=fun hp hg z=>by
  rw [z,hx] at hp
  injection hp with hp
  injection hp with _ _ hp
  rw [hp] at hf
  exact hf hg
 cases r with
 | all=>obtain ⟨p,dx,e,h⟩:=h;exact ZK p dx e (Z4 h (ne h rfl))
 | week b=>obtain ⟨p,dx,e,h⟩:=h;exact ZK p dx e (Z4 h (ne h rfl))
 | each n ss=>obtain ⟨p,dx,q,e,h,h2⟩:=h;exact XX p dx q e (Z4 h (ne h rfl)) (Z4 h2 fun z=>by rw [z,hx] at h2;cases h2)
theorem Yx.wx {H:Hp} {x c dx:Addr} {f:List (Str×V)} {kv:Zt×V} {k:Zs} (hx:H x=some (.ins c dx f)) (hf:f.lookup ("timetable" : Str)≠none) (h:Yx t H kv k):Yx t (wo H x) kv k:=by
 obtain ⟨e,r,rv,l,vs,e1,e2,e3,e4,e5⟩:=h
 exact ⟨e,Zz r rv l vs e1 (Z4 e2 fun z=>(by rw [z,hx] at e2;cases e2)) (e3.wx hx hf) (Z4 e4 fun z=>(by rw [z,hx] at e4;cases e4)) (e5.imp fun _ _ ⟨p,ep,hp⟩=>(Za p ep (Z4 hp fun z=>by rw [z,hx] at hp;cases hp)))⟩
def V9 (H H':Hp):Prop:=∀ a o,H a=some o→(∀ kvs,o≠.dT kvs)→(∀ ps,o≠.tbl ps)→H' a=some o
section Kp
variable {H H':Hp} (s:V9 H H')
include s
theorem V9.tup {a:Addr} {xs:List V} (h:H a=some (.tup xs)):H' a=some (.tup xs):=s _ _ h (fun _ z=>(nomatch z)) (fun _ z=>(nomatch z))
theorem V9.lst {a:Addr} {xs:List V} (h:H a=some (.lst xs)):H' a=some (.lst xs):=s _ _ h (fun _ z=>(nomatch z)) (fun _ z=>(nomatch z))
theorem V9.ins {a c x:Addr} {fs:List (Str×V)} (h:H a=some (.ins c x fs)):H' a=some (.ins c x fs):=s _ _ h (fun _ z=>(nomatch z)) (fun _ z=>(nomatch z))
theorem V9.dk {a:Addr} {kvs:List (Zt×V)} (h:H a=some (.dK kvs)):H' a=some (.dK kvs):=s _ _ h (fun _ z=>(nomatch z)) (fun _ z=>(nomatch z))
theorem Ye.keep {v:V} {c:Cl} (h:Ye H v c):Ye H' v c:=let ⟨p,e,h⟩:=h;(Za p e (s.tup h))
theorem YI.keep {v:V} {c:Str×Int×Int} (h:YI H v c):YI H' v c:=let ⟨p,e,h⟩:=h;(Za p e (s.tup h))
theorem Xg.keep {v:V} {r:R3} (h:Xg t H v r):Xg t H' v r:=by
 cases r with
 | all=>obtain ⟨p,dx,e,h⟩:=h;exact ZK p dx e (s.ins h)
 | week b=>obtain ⟨p,dx,e,h⟩:=h;exact ZK p dx e (s.ins h)
 | each n ss=>obtain ⟨p,dx,q,e,h,h2⟩:=h;exact XX p dx q e (s.ins h) (s.tup h2)
theorem Yx.keep {kv:Zt×V} {x:Zs} (h:Yx t H kv x):Yx t H' kv x:=let ⟨e,r,rv,l,vs,e1,e2,e3,e4,e5⟩:=h;⟨e,Zz r rv l vs e1 (s.tup e2) (e3.keep s) (s.lst e4) (e5.imp fun _ _=>Ye.keep s)⟩
theorem VE.keep {v:V} {r:R3} (h:VE H v r):VE H' v r:=by
 cases r with
 | all=>obtain ⟨p,e,h⟩:=h;exact Za p e (s.tup h)
 | week b=>obtain ⟨p,e,h⟩:=h;exact Za p e (s.tup h)
 | each n ss=>obtain ⟨p,q,e,h,h2⟩:=h;exact Zj p q e (s.tup h) (s.lst h2)
theorem XG.keep {v:V} {x:Zs} (h:XG H v x):XG H' v x:=let ⟨p,rv,l,cvs,e,h1,h2,h3,h4⟩:=h;(Zz p rv l cvs e (s.tup h1) (h2.keep s) (s.lst h3) (h4.imp fun _ _=>Ye.keep s))
theorem WX.keep {d:Addr} {TS:List Zs} (h:WX H d TS):WX H' d TS:=let ⟨k,l,vs,h1,h2,h3,h4⟩:=h;(ZI k l vs (s.dk h1) h2 (s.lst h3) (h4.imp fun _ _=>XG.keep s))
theorem Yi.keep {n:Addr} {a:NA} {N:YN} (h:Yi t H n a N):Yi t H' n a N:=by
 obtain ⟨⟨dx,fs,e1,e2⟩,ap,⟨r1,a1,b1⟩,⟨r5,a5,b5⟩,⟨r2,a2,b2⟩,⟨r3,a3,b3⟩,⟨r4,a4,b4⟩⟩:=h
 exact ⟨ZK dx fs (s.ins e1) e2,ap,Za r1 (s.dk a1) (b1.imp fun _ _ ⟨e,r,e1,e2⟩=>⟨e,Za r e1 (s.tup e2)⟩),Za r5 (s.lst a5) (b5.imp fun _ _ ⟨p,e,h⟩=>(Za p e (s.tup h))),Za r2 (s.dk a2) (b2.imp fun _ _ h=>⟨h.1,h.2.keep s⟩),Za r3 (s.dk a3) (b3.imp fun _ _ ⟨e,r,z,e1,e2,e3⟩=>⟨e,Zj r z e1 (s.tup e2) (s.tup e3)⟩),(Za r4 (s.dk a4) (b4.imp fun _ _ ⟨e,r,q,vs,e1,e2,e3,e4⟩=>⟨e,ZI r q vs e1 (s.tup e2) (s.tup e3) (e4.imp fun _ _=>Ye.keep s)⟩))⟩
end Kp
structure NB where
 dt:Addr
 dk:Addr
 dl:Addr
structure Zqv (fs:List (Str×V)) (b:NB):Prop where
 ft:fs.lookup ("timetable" : Str)=some (V.ref b.dt)
 fk:fs.lookup ("taken" : Str)=some (V.ref b.dk)
 fl:fs.lookup ("lateness" : Str)=some (V.ref b.dl)
 n_late:fs.lookup ("late" : Str)=none
 n_out:fs.lookup ("out" : Str)=none
 n_back:fs.lookup ("back" : Str)=none
 n_moments:fs.lookup ("moments" : Str)=none
 n_told:fs.lookup ("told" : Str)=none
 n_late_minutes:fs.lookup ("late_minutes" : Str)=none
 n_check_day:fs.lookup ("check_day" : Str)=none
 n_check_runs:fs.lookup ("check_runs" : Str)=none
 n_check_goes:fs.lookup ("check_goes" : Str)=none
def Xc (day:Nat) (z:Str):List Zt:=[Sum.inl ((day:Nat):Int),Sum.inr z]
theorem ZeH {d d':Nat} {z z':Str} (e:Xc d' z'=Xc d z):z'=z∧d'=d:=by
 unfold Xc at e
 injection e with e1 e2
 injection e2 with e2 _
 have e1:=Sum.inl.inj e1
 exact ⟨Sum.inr.inj e2,by omega⟩
def ZbZ (H:Hp) (kvs:List (List Zt×V)) (KF:ZW):Prop:=∀ (z:Str) (day:Nat),match KF z day with
 | some (some ls)=>∃ l,ZA kvs (Xc day z)=some (.ref l)∧H l=some (.lst (ls.map fun n=>V.int (n:Nat)))
 | _=>ZA kvs (Xc day z)=none
theorem ZbZ.same {H H':Hp} {kvs:List (List Zt×V)} {KF:ZW} (s:Zk H H') (h:ZbZ H kvs KF):ZbZ H' kvs KF:=fun z day=>by
 have:=h z day
 revert this
 cases KF z day with
 | none=>exact id
 | some o=>cases o with
  | none=>exact id
  | some ls=>exact fun ⟨l,e,h⟩=>Za l e (s _ _ h)
structure Yt (t:Z9) (H:Hp) (n:Addr) (b:NB) (TS:List Zs) (KF:ZW) (m:Nat):Prop where
 ob:∃ dx fs,H n=some (.ins t.YB dx fs)∧Zqv fs b
 ap:b.dk≠b.dl
 tt:∃ rows,H b.dt=some (.dK rows)∧Al (Yx t H) rows TS
 tk:∃ kvs,H b.dk=some (.dT kvs)∧kvs.length≤m∧∀ z day,(ZA kvs (Xc day z)).isSome=decide (KF z day=some none)
 lt:∃ kvs,H b.dl=some (.dT kvs)∧kvs.length≤m∧ZbZ H kvs KF
theorem Yt.same {H H':Hp} {n:Addr} {b:NB} {TS:List Zs} {KF:ZW} {m:Nat} (s:Zk H H') (h:Yt t H n b TS KF m):Yt t H' n b TS KF m:=by
 obtain ⟨⟨dx,fs,e1,e2⟩,ap,⟨rows,h1,h2⟩,⟨k1,a1,a2,a3⟩,⟨k2,b1,b2,b3⟩⟩:=h
 exact ⟨ZK dx fs (s _ _ e1) e2,ap,Za rows (s _ _ h1) (h2.imp fun _ _=>Yx.same s),Zx k1 (s _ _ a1) a2 a3,(Zx k2 (s _ _ b1) b2 (b3.same s))⟩
def K0:ZW:=fun _ _=>none
def Zb0 (N:YN) (y:Tp) (x:Zs):Prop:=y.nm=x.nm∧y.cs=x.cs∧∃ u,fnd Xk.nm N.ru y.ru=some u∧u.r=x.r
def Zqw (t:Z9):Sp:=fun vs H Q _=>∃ (x n:Addr) (H0:Hp) (N:YN) (TS:List Zs),vs=[.ref x,.ref n]∧H0 x=none∧Zk H0 H∧(∃ dx,H x=some (.ins t.YB dx []))∧X0 t H0 n N∧Al (Zb0 N) N.tp TS∧(TS.map Zs.nm).Nodup∧(∀ x∈TS,x.r.Ok)∧TS.length≤10 ∧
 ∀ H' b,Zk H0 H'→Yt t H' x b TS K0 0→H0 b.dk=none→H0 b.dl=none→Q .non H'
theorem ZeI {N:YN} {tp:List Tp} {TS:List Zs} (h:Al (Zb0 N) tp TS):tp.map Tp.nm=TS.map Zs.nm:=by
 induction h with
 | nil=>rfl
 | cons a _ ih=>rw [List.map_cons,List.map_cons,ih,a.1]
theorem Zig (Tx:ZO K mg t):ZF P w K mg base ZE 9 t.Zd3 t.Zd4 ["self","net"] (Zqw t):=by
 refine Tx.Zop.ok Zg3 (fun vs H Q E h=>?_) (fun cdv A outer s H vs Q E hr h=>?_)
 ·obtain ⟨x,n,H0,N,TS,rfl,_⟩:=h
  rfl
 obtain ⟨x,n,H0,N,TS,rfl,n0,s0,⟨dx,hx⟩,hA0,al,nd,okr,l10,q⟩:=h
 have hA:=hA0.same s0
 obtain ⟨a,hN⟩:=hA0
 obtain ⟨ndx,nfs,ne1,ne2⟩:=hN.ob
 refine Za _ (Zm (Va (pv 0) Zau rfl)
  (Zm (YU PassesOwn.never rfl (XT (Zfk (pv 1) Tx.Z6 Tx.ZhR (Zie Tx) (hr.mono (by omega)) Tx.ZhH .nil Zr)) (ZU (i:=2) Zg3.nd rfl (Or.inl rfl))
  (Zp (Vv (Z8 hr) (Ya (pv 0) rfl) (pv 2) (Yf (Zb (YR (pv 1) Tx.Z6 Tx.ZoP (Zqg Tx) (hr.mono (by omega)) Tx.Zok .nil Zr (Zb (YR (pv 1) Tx.Z6 Tx.ZoQ (Zqe Tx) (hr.mono (by omega)) Tx.Zom .nil Zr (Zb (pv 2) Ze)) Ze)) (Zb (YR (pv 1) Tx.Z6 Tx.ZoM (Zqc Tx) (hr.mono (by omega)) Tx.Zoo .nil Zr (Zb (pv 2) Ze)) Ze))) rfl)))
  (Zm (Va (pv 0) Zay rfl)
  (Zp (Va (pv 0) Zay rfl))))) ?_
 intro p1 g1
 have x1:p1≠x:=fun z=>by rw [z,hx] at g1;cases g1
 have d1:=s0.free g1
 refine Za _ rfl (Z7 x _ dx _ rfl (by rw [Zl x1.symm];exact hx) Tx.YK Tx.Ur (by decide) ?_)
 generalize hf1:YQ "timetable" (.ref p1) []=f1
 have lf1:f1.length≤1:=by rw [← hf1];exact U0 (Nat.zero_le 0)
 have ff1:f1.lookup ("timetable" : Str)=some (.ref p1):=by rw [← hf1];rfl
 have u1:=Yb (s0.trans (Zn g1 (.dK []))) n0 (.ins t.YB dx f1)
 have y1:(Zd (Zd H p1 (.dK [])) x (.ins t.YB dx f1)) x=some (.ins t.YB dx f1):=Zh
 have k1:(Zd (Zd H p1 (.dK [])) x (.ins t.YB dx f1)) p1=some (.dK []):=by rw [Zl x1];exact Zh
 generalize Zd (Zd H p1 (.dK [])) x (.ins t.YB dx f1)=H1 at u1 y1 k1 ⊢
 refine Za _ rfl (ZI n ndx _ rfl (u1 _ _ ne1) ne2.n_trips (Zj n N rfl ⟨a,hN.same u1⟩ fun l gl=>?_))
 rw [ZeI al]
 have nlp:l≠p1:=(Yp k1 gl).symm
 have nlx:l≠x:=(Yp y1 gl).symm
 have t2:=Zn gl (.lst ((TS.map Zs.nm).map V.str))
 have u2:=u1.trans t2
 have cl:=@Zh H1 l (.lst ((TS.map Zs.nm).map V.str))
 have y2:=t2 _ _ y1
 have k2:=t2 _ _ k1
 generalize Zd H1 l (.lst ((TS.map Zs.nm).map V.str))=H2 at u2 cl y2 k2 ⊢
 refine Zx l rfl ⟨_,Zg.of cl⟩ (W8 (K:=K) (a:=l) (xs:=(TS.map Zs.nm).map V.str) (fun i σ H'=>Zk H0 H'∧H' l=some (.lst ((TS.map Zs.nm).map V.str))∧H' x=some (.ins t.YB dx f1)∧∃ (rows:List (Zt×V)) (v2:Option V),H' p1=some (.dK rows)∧Al (Yx t H') rows (TS.take i)∧σ=[some (.ref x),some (.ref n),v2]) ⟨u2,cl,y2,Zj [] none k2 .nil rfl⟩ (fun i σ H' _ ⟨_,h,_⟩=>Zg.of h) ?_ ?_)
 ·rintro i v σ H3 hv ⟨u3,cl3,y3,rows,v2,k3,alr,rfl⟩
  rw [List.map_map,List.getElem?_map] at hv
  obtain ⟨tx,etx,rfl⟩:=Option.map_eq_some_iff.mp hv
  have hi:=(List.getElem?_eq_some_iff.mp etx).1
  have lal:=al.length
  obtain ⟨ty,ety⟩:∃ ty,N.tp[i]? = some ty:=⟨_,List.getElem?_eq_getElem (show i < N.tp.length by omega)⟩
  obtain ⟨tx',etx',en,ec,ru,eru,er⟩:=al.get ety
  have e0:tx'=tx:=Option.some.inj (etx'.symm.trans etx)
  subst e0
  have mem:=List.mem_of_getElem? etx
  have ndp:(N.tp.map Tp.nm).Nodup:=by rw [ZeI al];exact nd
  have efnd:fnd Tp.nm N.tp tx'.nm=some ty:=by rw [← en];exact Uv ndp (List.mem_of_getElem? ety)
  have okr':ru.r.Ok:=by rw [er];exact okr _ mem
  refine Za _ rfl (ZI n ndx _ rfl (u3 _ _ ne1) ne2.n_rule (Za _ rfl (ZI n ndx _ rfl (u3 _ _ ne1) ne2.n_rule_name (Za _ rfl (Xu n N tx'.nm ty rfl ⟨a,hN.same u3⟩ efnd ?_)))))
  refine Zz n N ty.ru ru rfl ⟨a,hN.same u3⟩ eru okr' fun rv H4 s4 hrv=>?_
  have u4:=u3.trans s4
  refine Za _ rfl (ZI n ndx _ rfl (u4 _ _ ne1) ne2.n_calls (Za _ rfl (Xu n N tx'.nm ty rfl ⟨a,hN.same u4⟩ efnd fun lc cvs H5 s5 gc hc alc=>?_)))
  refine ⟨by show 2≤sizeLine;decide,fun p6 g6=>?_⟩
  have t6:=Zn g6 (.tup [rv,.ref lc])
  have s6:=(s4.trans s5).trans t6
  have e1:=@Zh H5 p6 (.tup [rv,.ref lc])
  have hrow:Yx t (Zd H5 p6 (.tup [rv,.ref lc])) (Sum.inr tx'.nm,.ref p6) tx':=⟨rfl,Zz p6 rv lc cvs rfl e1 (by rw [← er];exact (hrv.same s5).same t6) (t6 _ _ hc) (by rw [← ec];exact alc.imp fun _ _=>Ye.same t6)⟩
  dsimp only [YM,YV,List.append_nil]
  generalize Zd H5 p6 (.tup [rv,.ref lc])=H6 at s6 hrow ⊢
  have k6:=s6 _ _ k3
  have lrows:rows.length≤10:=by rw [alr.length,List.length_take];omega
  refine Za _ rfl (Z5 x _ dx _ _ rfl (s6 _ _ y3) Tx.YK Tx.Ur ff1 (Za _ rfl (Zj p1 _ rfl (XW.k (k:=Sum.inr tx'.nm) k6 (Nat.lt_of_le_of_lt lrows (by decide))) ?_)))
  have hno:ZA rows (Sum.inr tx'.nm)=none:=(X8 (fun kv x (h:Yx t H3 kv x)=>h.1) alr tx'.nm).1 (ZeE nd etx)
  refine ⟨Yb (u3.trans s6) d1 _,by rw [Zl nlp];exact s6 _ _ cl3,by rw [Zl x1.symm];exact s6 _ _ y3,Zj _ _ Zh ?_ rfl⟩
  rw [Zax _ hno,List.take_add_one,etx]
  exact ((alr.imp fun _ _=>Yx.same s6).snoc hrow).imp fun _ _=>Yx.put k6 Z2.k (fun _ z=>(nomatch z))
 ·rintro σ H3 ⟨u3,cl3,y3,rows,v2,k3,alr,rfl⟩
  rw [List.take_of_length_le (by rw [List.length_map,List.length_map];exact Nat.le_refl _)] at alr
  intro p4 g4
  have x4:p4≠x:=fun z=>by rw [z,y3] at g4;cases g4
  have d4:=u3.free g4
  refine Za _ rfl (Z7 x _ dx _ rfl (by rw [Zl x4.symm];exact y3) Tx.YK Tx.ZaU (Nat.lt_of_le_of_lt lf1 (by decide)) ?_)
  generalize hf4:YQ "taken" (.ref p4) f1=f4
  have lf4:f4.length≤2:=by rw [← hf4];exact U0 lf1
  have n14:p1≠p4:=Yp k3 g4
  have t4:=Zn g4 (.dT [])
  have u4:=Yb (u3.trans t4) n0 (.ins t.YB dx f4)
  have y4:(Zd (Zd H3 p4 (.dT [])) x (.ins t.YB dx f4)) x=some (.ins t.YB dx f4):=Zh
  have k4:(Zd (Zd H3 p4 (.dT [])) x (.ins t.YB dx f4)) p1=some (.dK rows):=by rw [Zl x1,Zl n14];exact k3
  have k5:(Zd (Zd H3 p4 (.dT [])) x (.ins t.YB dx f4)) p4=some (.dT []):=by rw [Zl x4];exact Zh
  have w4:Zk (wo H3 x) (Zd (Zd H3 p4 (.dT [])) x (.ins t.YB dx f4)):=fun c o e=>by
   obtain ⟨nc,e⟩:=XQ e
   rw [Zl nc];exact t4 _ _ e
  generalize Zd (Zd H3 p4 (.dT [])) x (.ins t.YB dx f4)=H4 at u4 y4 k4 k5 w4 ⊢
  intro p5 g5
  have x5:p5≠x:=fun z=>by rw [z,y4] at g5;cases g5
  have d5:=u4.free g5
  refine Za _ rfl (Z7 x _ dx _ rfl (by rw [Zl x5.symm];exact y4) Tx.YK Tx.ZbT (Nat.lt_of_le_of_lt lf4 (by decide)) ?_)
  have n15:p1≠p5:=Yp k4 g5
  have n45:p4≠p5:=Yp k5 g5
  have t5:=Zn g5 (.dT [])
  refine q _ ⟨p1,p4,p5⟩ (Yb (u4.trans t5) n0 _) ⟨ZK dx _ Zh ?_,n45,Za rows (by rw [Zl x1,Zl n15];exact k4) ?_,Zx [] (by rw [Zl x4,Zl n45];exact k5) (Nat.le_refl _) fun z day=>rfl,(Zx [] (by rw [Zl x5];exact Zh) (Nat.le_refl _) fun z day=>rfl)⟩ d4 d5
  ·subst hf1 hf4
   exact ⟨rfl,rfl,rfl,rfl,rfl,rfl,rfl,rfl,rfl,rfl,rfl,rfl⟩
  ·-- rows keep: nothing of them lies at x
   have sw:Zk (wo H3 x) (Zd (Zd H4 p5 (.dT [])) x (.ins t.YB dx (YQ "lateness" (.ref p5) f4))):=fun c o e=>by
    obtain ⟨nc,e'⟩:=XQ e
    rw [Zl nc];exact t5 _ _ (w4 _ _ e)
   exact (alr.imp fun _ _ h=>Yx.wx y3 (by rw [ff1];exact fun z=>(nomatch z)) h).imp fun _ _=>Yx.same sw
theorem Zih {X:Cx} {σ:St} {H:Hp} {v:V} {r:R3} {day:Nat} {Q:VK} {ta:TA} (Tx:ZO X.K X.mg t) (hr:Yh 1 X.A) (hv:Xg t H v r) (ok:r.Ok) (ht:∀ Z:List V→Hp→Prop,Z [.int (day:Nat)] H→ta σ H Z) (q:Q (.bl (r.runs day)) H) :
  ∃ (a C dx:Addr) (fs:List (Str×V)) (f:Addr) (fd:FuncData) (k:Nat) (ps:List Str) (sp:Sp) (CX:Wx) (E:XK),
   v=.ref a∧H a=some (.ins C dx fs)∧fs.lookup ("runs" : Str)=none∧XM X.K C∧Yz X.K C "runs" f∧ZF X.prog X.w X.K X.mg X.base CX k f fd ps sp∧Yh k X.A∧ZG X.K fd ps []∧Vm CX X E∧ta σ H fun vs H2=>sp (.ref a::vs) H2 Q E:=by
 cases r with
 | all =>
  obtain ⟨p,dx,rfl,hp⟩:=hv
  exact ⟨p,t.XF,dx,_,t.ZbC,t.ZbD,1,["self","day"],Zal t ZbU,ZE,E0,rfl,hp,rfl,Tx.Zex,Tx.ZoB,ZpJ Tx,hr,Tx.ZnP,Zr,ht _ (Yn _ .all day rfl (ZK p dx rfl hp) ok trivial q)⟩
 | week b =>
  obtain ⟨p,dx,rfl,hp⟩:=hv
  exact ⟨p,t.Wg,dx,_,t.ZbG,t.ZbH,1,["self","day"],Zal t ZbV,ZE,E0,rfl,hp,rfl,Tx.Zak,Tx.ZoD,ZpK Tx,hr,Tx.ZnU,Zr,ht _ (Yn _ (.week b) day rfl (ZK p dx rfl hp) ok trivial q)⟩
 | each n ss =>
  obtain ⟨p,dx,s0,rfl,hp,hs⟩:=hv
  exact ⟨p,t.XY,dx,_,t.ZbK,t.ZbL,1,["self","day"],Zal t ZbW,ZE,E0,rfl,hp,rfl,Tx.V6,Tx.ZoF,ZpL Tx,hr,Tx.ZnZ,Zr,ht _ (Yn _ (.each n ss) day rfl (XX p dx s0 rfl hp hs) ok trivial q)⟩
def VG (t:Z9) (H:Hp) (n:Addr) (TS:List Zs) (KF:ZW) (m:Nat):Prop:=∃ b,Yt t H n b TS KF m
theorem VG.same {H H':Hp} {n:Addr} {TS:List Zs} {KF:ZW} {m:Nat} (s:Zk H H') (h:VG t H n TS KF m):VG t H' n TS KF m:=let ⟨b,h⟩:=h;⟨b,h.same s⟩
def Zqx (t:Z9):Sp:=fun vs H Q _=>∃ (n:Addr) (TS:List Zs) (KF:ZW) (m:Nat) (z:Str) (day:Nat),vs=[.ref n,.str z,.int (day:Nat)]∧VG t H n TS KF m∧(fnd Zs.nm TS z).isSome=true∧day≤9999∧Q .non H
theorem Zii (Tx:ZO K mg t):ZF P w K mg base ZE 3 t.Zed t.Zee ["self","trip","day"] (Zqx t):=by
 refine Tx.Zow.ok ZmT (fun vs H Q E h=>?_) (fun cdv A outer s H vs Q E hr h=>?_)
 ·obtain ⟨n,TS,KF,m,z,day,rfl,_⟩:=h
  rfl
 obtain ⟨n,TS,KF,m,z,day,rfl,⟨b,hN⟩,hf,d9,q⟩:=h
 obtain ⟨dx,fs,e1,e2⟩:=hN.ob
 obtain ⟨rows,h1,h2⟩:=hN.tt
 obtain ⟨x,ex⟩:=Option.isSome_iff_exists.mp hf
 obtain ⟨kv,ev,_⟩:=(X8 (fun kv x (h:Yx t H kv x)=>h.1) h2 z).2 x ex
 refine Za _ (Zm (ZX (Yq (Ym (ZB (ZaZ Tx) (hr.mono (by omega)) rfl Tx.ZaO Tx.Zaj.kp Tx.ZaP .nil Zr (Zb (pv 1) (Zb (Ya (pv 0) rfl) Ze)))))
  (Zp YT)
  ZY)
  (Zp (ZX (Yq (Ym (ZB (ZaW Tx) (hr.mono (by omega)) rfl Tx.ZaM Tx.Zai.kp Tx.ZaN .nil Zr (Zb (pv 2) (Zb Zc (Zb (YH rfl Tx.Zhd) Ze))))))
  (Zp YT)
  ZY))) ?_
 refine Za _ rfl (Za _ rfl (Z5 n _ dx _ _ rfl e1 Tx.YK Tx.Ur e2.ft (XX z b.dt rows rfl h1 (Za _ rfl (ZH (by rw [ev];exact Bool.false_ne_true) ?_)))))
 exact Za _ rfl (UR (.int (day:Nat)) 0 9999 ("int") rfl (.int (day:Nat)) (Za _ rfl (ZH (by rw [Zbp (show (0:Int)≤((day:Nat):Int) by omega) (show ((day:Nat):Int)≤9999 by omega)];decide) q)))
def Zqy (t:Z9):Sp:=fun vs H Q _=>∃ (n:Addr) (TS:List Zs) (KF:ZW) (m:Nat) (z:Str) (day:Nat) (x:Zs),vs=[.ref n,.str z,.int (day:Nat)]∧VG t H n TS KF m∧fnd Zs.nm TS z=some x∧day≤9999∧x.r.Ok∧x.r.runs day=true∧Q .non H
theorem Zqz (Tx:ZO K mg t):ZF P w K mg base ZE 4 t.Zef t.Zeg ["self","trip","day"] (Zqy t):=by
 refine Tx.Zox.ok ZmU (fun vs H Q E h=>?_) (fun cdv A outer s H vs Q E hr h=>?_)
 ·obtain ⟨n,TS,KF,m,z,day,x,rfl,_⟩:=h
  rfl
 obtain ⟨n,TS,KF,m,z,day,x,rfl,hA,ex,d9,ok,hru,q⟩:=h
 have hA':=hA
 obtain ⟨b,hN⟩:=hA'
 obtain ⟨dx,fs,e1,e2⟩:=hN.ob
 obtain ⟨rows,h1,h2⟩:=hN.tt
 obtain ⟨kv,ev,_,r,rv,l,cvs,er,hr1,hro,hl,hcs⟩:=(X8 (fun kv x (h:Yx t H kv x)=>h.1) h2 z).2 x ex
 refine Za _ (Zm (Z0 (YR (pv 0) Tx.YK Tx.ZhT (Zii Tx) (hr.mono (by omega)) Tx.ZhL .nil Zr (Zb (pv 1) (Zb (pv 2) Ze))))
  (Zp (ZX (Yq (Ym (ZfX (Zw ZQ (Xa (Z8 hr) (Ya (pv 0) rfl) (pv 1) (fun _ _=>rfl)) Zc (fun _ _=>rfl)) (Zb (pv 2) Ze))))
  (Zp YT)
  ZY))) ?_
 refine Za _ rfl (ZI n dx _ rfl e1 e2.n_check_day (Za _ rfl (Za _ rfl ⟨n,TS,KF,m,z,day,rfl,hA,by rw [ex];rfl,d9,?_⟩)))
 refine Za _ rfl (Z5 n _ dx _ _ rfl e1 Tx.YK Tx.Ur e2.ft (Za _ rfl (Zj b.dt (.ref r) rfl (by rw [← er,← ev];exact Yd.k (k:=Sum.inr z) h1) (Zz r _ 0 _ rfl rfl (Zu.of hr1) rfl ?_))))
 refine Zih (r:=x.r) (day:=day) Tx (hr.mono (by omega)) hro ok (fun Z h=>Za _ rfl h) (Za _ rfl (ZH (by rw [hru];decide) q))
def ZqA (t:Z9):Sp:=fun vs H Q _=>∃ (n:Addr) (TS:List Zs) (KF:ZW) (m:Nat) (z:Str) (day:Nat) (x:Zs),vs=[.ref n,.str z,.int (day:Nat)]∧VG t H n TS KF m∧fnd Zs.nm TS z=some x∧day≤9999∧x.r.Ok∧x.r.runs day=true∧KF z day≠some none∧∀ H',Zk H H'→Q .non H'
theorem Zij (Tx:ZO K mg t):ZF P w K mg base ZE 5 t.Zeh t.Zei ["self","trip","day"] (ZqA t):=by
 refine Tx.Zoz.ok ZmV (fun vs H Q E h=>?_) (fun cdv A outer s H vs Q E hr h=>?_)
 ·obtain ⟨n,TS,KF,m,z,day,x,rfl,_⟩:=h
  rfl
 obtain ⟨n,TS,KF,m,z,day,x,rfl,hA,ex,d9,ok,hru,nk,q⟩:=h
 have hA':=hA
 obtain ⟨b,hN⟩:=hA'
 obtain ⟨dx,fs,e1,e2⟩:=hN.ob
 obtain ⟨kvs,k1,k2,k3⟩:=hN.tk
 refine Za _ (Zm (Z0 (YR (pv 0) Tx.YK Tx.ZoR (Zqz Tx) (hr.mono (by omega)) Tx.Zoy .nil Zr (Zb (pv 1) (Zb (pv 2) Ze))))
  (Zp (ZX (VJ (Zbr (Z8 hr) (Yf (Zb (pv 2) (Zb (pv 1) Ze))) (Ya (pv 0) rfl)))
  (Zp YT)
  ZY))) ?_
 refine Za _ rfl (ZI n dx _ rfl e1 e2.n_check_runs (Za _ rfl (Za _ rfl ⟨n,TS,KF,m,z,day,x,rfl,hA,ex,d9,ok,hru,?_⟩)))
 refine Za _ rfl (Zx _ rfl (by show 2≤sizeLine;decide) fun p g=>?_)
 have t1:=Zn g (.tup [.int (day:Nat),.str z])
 refine Za _ rfl (Z5 n _ dx _ _ rfl (t1 _ _ e1) Tx.YK Tx.ZaU e2.fk (Zj b.dk _ rfl (Yd.t (k:=Xc day z) (t1 _ _ k1) Zh) (Za _ rfl (ZH (by rw [k3,decide_eq_false nk];decide) (q _ t1)))))
def ZqB (t:Z9):Sp:=fun vs H Q _=>∃ (n:Addr) (TS:List Zs) (KF:ZW) (m:Nat) (z:Str) (day:Nat) (x:Zs),vs=[.ref n,.str z,.int (day:Nat)]∧VG t H n TS KF m∧fnd Zs.nm TS z=some x∧x.cs.length≤6∧∀ l H',Zk H H'→H l=none→H' l=some (.lst ((Y0 x (KF z day)).map fun n=>V.int (n:Nat)))→Q (.ref l) H'
theorem Za1 (m:Nat) (k:Nat):(List.replicate m [V.int (k:Nat)]).flatten=(List.replicate m k).map fun n:Nat=>V.int (n:Nat):=by
 rw [List.map_replicate]
 induction m with
 | zero=>rfl
 | succ m ih=>rw [List.replicate_succ,List.replicate_succ,List.flatten_cons,ih];rfl
theorem Zik (Tx:ZO K mg t):ZF P w K mg base ZE 1 t.Zeb t.Zec ["self","trip","day"] (ZqB t):=by
 refine Tx.Zov.ok Zg4 (fun vs H Q E h=>?_) (fun cdv A outer s H vs Q E hr h=>?_)
 ·obtain ⟨n,TS,KF,m,z,day,x,rfl,_⟩:=h
  rfl
 obtain ⟨n,TS,KF,m,z,day,x,rfl,⟨b,hN⟩,ex,l6,q⟩:=h
 obtain ⟨dx,fs,e1,e2⟩:=hN.ob
 obtain ⟨rows,h1,h2⟩:=hN.tt
 obtain ⟨kvs,k1,k2,k3⟩:=hN.lt
 obtain ⟨kv,ev,_,r,rv,lc,cvs,er,hr1,hro,hl,hcs⟩:=(X8 (fun kv x (h:Yx t H kv x)=>h.1) h2 z).2 x ex
 have lcv:=hcs.length
 refine Za _ (Zm (ZJ (i:=3) Zg4.nd rfl (Or.inl rfl) (Zi Qc (Yj (Zb Zc Ze)) (ZV Xh rfl Tx.YZ YX (Zb (Zw ZQ (Xa (Z8 hr) (Ya (pv 0) rfl) (pv 1) (fun _ _=>rfl)) Zc (fun _ _=>rfl)) Ze))))
  (Zp (ZT (WO Qb rfl Tx.Vi Vh (Zb (Zcv (Z8 hr) (Ya (pv 0) rfl) (Yf (Zb (pv 2) (Zb (pv 1) Ze))) (pv 3) ⟨rfl,rfl,rfl,rfl⟩) Ze))))) ?_
 refine ⟨by show 1≤sizeLine;decide,fun p0 g0=>?_⟩
 have t1:=Zn g0 (.lst [.int 0])
 have c0:=@Zh H p0 (.lst [.int 0])
 generalize Zd H p0 (.lst [.int 0])=H1 at t1 c0 ⊢
 refine Za _ rfl (Z5 n _ dx _ _ rfl (t1 _ _ e1) Tx.YK Tx.Ur e2.ft (Za _ rfl (Zj b.dt (.ref r) rfl (by rw [← er,← ev];exact Yd.k (k:=Sum.inr z) (t1 _ _ h1)) (Zz r _ 1 _ rfl rfl (Zu.of (t1 _ _ hr1)) rfl (Zj lc _ rfl (.inl (Zg.of (t1 _ _ hl))) (UQ p0 ((cvs.length:Nat):Int) _ rfl rfl c0 (by omega) (by omega) (by show 1 * _≤sizeLine;exact Nat.le_trans (show _≤6 by omega) (by decide)) fun pr gr=>?_))))))
 have er0:(List.replicate ((cvs.length:Nat):Int).toNat [V.int 0]).flatten=(List.replicate x.cs.length 0).map fun n:Nat=>V.int (n:Nat):=by
  rw [show ((cvs.length:Nat):Int).toNat=x.cs.length by omega]
  exact Za1 _ 0
 rw [er0]
 have t2:=Zn gr (.lst ((List.replicate x.cs.length 0).map fun n:Nat=>V.int (n:Nat)))
 have cr:=@Zh H1 pr (.lst ((List.replicate x.cs.length 0).map fun n:Nat=>V.int (n:Nat)))
 have S2:=t1.trans t2
 generalize Zd H1 pr (.lst ((List.replicate x.cs.length 0).map fun n:Nat=>V.int (n:Nat)))=H2 at S2 cr ⊢
 refine Za _ rfl (Z5 n _ dx _ _ rfl (S2 _ _ e1) Tx.YK Tx.ZbT e2.fl (Zx b.dl rfl (.inr ⟨kvs,.inl (S2 _ _ k1)⟩) (Za _ rfl (Zx _ rfl (by show 2≤sizeLine;decide) fun p g=>?_))))
 have t3:=Zn g (.tup [.int (day:Nat),.str z])
 have S3:=S2.trans t3
 have c3:=@Zh H2 p (.tup [.int (day:Nat),.str z])
 have cr3:=t3 _ _ cr
 generalize Zd H2 p (.tup [.int (day:Nat),.str z])=H3 at S3 c3 cr3 ⊢
 refine Za _ rfl (Za _ (Yd.t (k:=Xc day z) (S3 _ _ k1) c3) ?_)
 have hk:=k3.same S3 z day
 have hcase:∃ ll,(ZA kvs (Xc day z)).getD (.ref pr)=.ref ll∧H3 ll=some (.lst ((Y0 x (KF z day)).map fun n=>V.int (n:Nat))):=by
  revert hk
  cases KF z day with
  | none=>exact fun hk=>Za pr (by rw [hk];rfl) cr3
  | some o=>cases o with
   | none=>exact fun hk=>Za pr (by rw [hk];rfl) cr3
   | some ls=>exact fun ⟨ll,e,h⟩=>Za ll (by rw [e];rfl) h
 obtain ⟨ll,e0,hll⟩:=hcase
 rw [e0]
 refine Zj ll _ rfl (.inl (Zg.of hll)) fun l gl=>?_
 exact q l _ (S3.trans (Zn gl _)) (S3.free gl) Zh
def ZqC (t:Z9):Sp:=fun vs H Q _=>∃ (n:Addr) (TS:List Zs) (KF:ZW) (m:Nat) (z:Str) (day:Nat) (x:Zs),vs=[.ref n,.str z,.int (day:Nat)]∧VG t H n TS KF m∧fnd Zs.nm TS z=some x∧day≤9999∧x.r.Ok∧x.cs.length≤6∧(∀ ls,KF z day=some (some ls)→ls.length=x.cs.length) ∧
 (Wt x (KF z day) day=none→∀ H',Zk H H'→Q .non H')∧∀ ms,Wt x (KF z day) day=some ms→∀ l vs H',Zk H H'→H l=none→H' l=some (.lst vs)→Al (YI H') vs ms→Q (.ref l) H'
theorem Za2 {x:Zs} {o:Option (Option (List Nat))} (h:∀ ls,o=some (some ls)→ls.length=x.cs.length):(Y0 x o).length=x.cs.length:=by
 cases o with
 | none=>exact List.length_replicate
 | some o=>cases o with
  | none=>exact List.length_replicate
  | some ls=>exact h ls rfl
theorem ZqD (Tx:ZO K mg t):ZF P w K mg base ZE 4 t.Zd9 t.Zea ["self","trip","day"] (ZqC t):=by
 refine Tx.Zot.ok ZmS (fun vs H Q E h=>?_) (fun cdv A outer s H vs Q E hr h=>?_)
 ·obtain ⟨n,TS,KF,m,z,day,x,rfl,_⟩:=h
  rfl
 obtain ⟨n,TS,KF,m,z,day,x,rfl,hA,ex,d9,ok,l6,hls,q1,q2⟩:=h
 have hA':=hA
 obtain ⟨b,hN⟩:=hA'
 obtain ⟨dx,fs,e1,e2⟩:=hN.ob
 obtain ⟨rows,h1,h2⟩:=hN.tt
 obtain ⟨kvs,k1,k2,k3⟩:=hN.tk
 obtain ⟨kv,ev,_,r,rv,lc,cvs,er,hr1,hro,hl,hcs⟩:=(X8 (fun kv x (h:Yx t H kv x)=>h.1) h2 z).2 x ex
 refine Za _ (Zm (Z0 (YR (pv 0) Tx.YK Tx.ZhT (Zii Tx) (hr.mono (by omega)) Tx.ZhL .nil Zr (Zb (pv 1) (Zb (pv 2) Ze))))
  (Zm (ZX (PW.pt (VM (Yq (Ym (ZfX (Zw ZQ (Xa (Z8 hr) (Ya (pv 0) rfl) (pv 1) (fun _ _=>rfl)) Zc (fun _ _=>rfl)) (Zb (pv 2) Ze)))) (VL (VJ (Zbr (Z8 hr) (Yf (Zb (pv 2) (Zb (pv 1) Ze))) (Ya (pv 0) rfl))))))
  (Zp (ZT UB))
  ZY)
  (Zp (ZT (ZB (Zh5 Tx) (hr.mono (by omega)) rfl Tx.Zho Tx.Zer.kp Tx.Zhp .nil Zr (Zb (Zw ZQ (Xa (Z8 hr) (Ya (pv 0) rfl) (pv 1) (fun _ _=>rfl)) Zc (fun _ _=>rfl)) (Zb (Zi UG (pv 2) (YH rfl Tx.Zel)) (Zb (YR (pv 0) Tx.YK Tx.ZhW (Zik Tx) (hr.mono (by omega)) Tx.ZhK .nil Zr (Zb (pv 1) (Zb (pv 2) Ze))) Ze)))))))) ?_
 refine Za _ rfl (ZI n dx _ rfl e1 e2.n_check_day (Za _ rfl (Za _ rfl ⟨n,TS,KF,m,z,day,rfl,hA,by rw [ex];rfl,d9,?_⟩)))
 refine Za _ rfl (Z5 n _ dx _ _ rfl e1 Tx.YK Tx.Ur e2.ft (Za _ rfl (Zj b.dt (.ref r) rfl (by rw [← er,← ev];exact Yd.k (k:=Sum.inr z) h1) (Zz r _ 0 _ rfl rfl (Zu.of hr1) rfl ?_))))
 refine Zih (r:=x.r) (day:=day) Tx (hr.mono (by omega)) hro ok (fun Z h=>Za _ rfl h) (Za _ rfl ?_)
 cases hru:x.r.runs day with
 | false=>exact YS (by decide) (q1 (by unfold Wt;rw [hru,if_neg Bool.false_ne_true]) _ (Zk.refl H))
 | true =>
  refine ZH (by decide) (Za _ rfl (Zx _ rfl (by show 2≤sizeLine;decide) fun p g=>?_))
  have t1:=Zn g (.tup [.int (day:Nat),.str z])
  have c1:=@Zh H p (.tup [.int (day:Nat),.str z])
  generalize Zd H p (.tup [.int (day:Nat),.str z])=H1 at t1 c1 ⊢
  refine Za _ rfl (Z5 n _ dx _ _ rfl (t1 _ _ e1) Tx.YK Tx.ZaU e2.fk (Zj b.dk _ rfl (Yd.t (k:=Xc day z) (t1 _ _ k1) c1) (Za _ rfl ?_)))
  rw [k3]
  by_cases hk:KF z day=some none
  ·exact YS (decide_eq_true hk) (q1 (by unfold Wt;rw [hru,if_pos rfl,if_pos hk]) _ t1)
  ·refine ZH (by rw [decide_eq_false hk];decide) ?_
   refine Za _ rfl (Z5 n _ dx _ _ rfl (t1 _ _ e1) Tx.YK Tx.Ur e2.ft (Za _ rfl (Zj b.dt (.ref r) rfl (by rw [← er,← ev];exact Yd.k (k:=Sum.inr z) (t1 _ _ h1)) (Zz r _ 1 _ rfl rfl (Zu.of (t1 _ _ hr1)) rfl ?_))))
   refine Za _ rfl (Zo _ _ rfl rfl (.inr ⟨by decide,by decide⟩) ?_)
   refine Za _ rfl (ZI n dx _ rfl (t1 _ _ e1) e2.n_late_minutes (Za _ rfl (Za _ rfl ⟨n,TS,KF,m,z,day,x,rfl,hA.same t1,ex,l6,fun l2 H2 t2 g2 c2=>?_⟩)))
   have S2:=t1.trans t2
   refine ⟨lc,l2,_,cvs,x.cs,Y0 x (KF z day),rfl,Zg.of (S2 _ _ hl),hcs.imp fun _ _=>Ye.same S2,Zg.of c2,l6,Za2 hls,fun l3 mvv H3 t3 g3 c3 al3=>?_⟩
   rw [Int.mul_comm] at al3
   exact q2 _ (by unfold Wt;rw [hru,if_pos rfl,if_neg hk]) l3 mvv H3 (S2.trans t3) (S2.free g3) c3 al3
theorem ZqE {κ:Type} [DecidableEq κ] (kvs:List (κ×V)) (k j:κ):ZA (Vu kvs k) j=if j=k then none else ZA kvs j:=by
 induction kvs with
 | nil =>
  by_cases e:j=k
  ·rw [if_pos e];rfl
  ·rw [if_neg e];rfl
 | cons a r ih =>
  unfold Vu at ih ⊢
  by_cases ea:a.1=k
  ·rw [List.filter_cons,if_neg (by rw [decide_eq_true_eq];exact fun z=>z ea),ih]
   by_cases e:j=k
   ·rw [if_pos e,if_pos e]
   ·rw [if_neg e,if_neg e,Wd (fun z=>e (z.symm.trans ea))]
  ·rw [List.filter_cons,if_pos (decide_eq_true ea)]
   by_cases e:j=k
   ·rw [if_pos e] at ih ⊢
    rw [Wd (fun z=>ea (z.trans e)),ih]
   ·rw [if_neg e] at ih ⊢
    by_cases ej:a.1=j
    ·rw [Wp ej,Wp ej]
    ·rw [Wd ej,Wd ej,ih]
def Xo (x:Zs) (o:Option (Option (List Nat))) (c k:Nat):List Nat:=(Y0 x o).take c++List.replicate (x.cs.length - c) k
theorem Zil {x:Zs} {o:Option (Option (List Nat))} (h:∀ ls,o=some (some ls)→ls.length=x.cs.length) {c:Nat} (k:Nat) (hc:c≤x.cs.length):(Xo x o c k).length=x.cs.length:=by
 unfold Xo
 rw [List.length_append,List.length_take,Za2 h,List.length_replicate]
 omega
def ZqF (t:Z9):Sp:=fun vs H Q _=>∃ (n:Addr) (b:NB) (TS:List Zs) (KF:ZW) (m:Nat) (z:Str) (day c k:Nat) (x:Zs),vs=[.ref n,.str z,.int (day:Nat),.int (c:Nat),.int (k:Nat)]∧Yt t H n b TS KF m∧m < 1000∧fnd Zs.nm TS z=some x∧day≤9999∧x.r.Ok∧x.cs.length≤6∧x.r.runs day=true∧KF z day≠some none∧(∀ ls,KF z day=some (some ls)→ls.length=x.cs.length)∧c < x.cs.length∧k≤300 ∧
 (∀ i y y',(Yo 0 x.cs (Xo x (KF z day) c k))[i]? = some y→(Yo 0 x.cs (Xo x (KF z day) c k))[i+1]? = some y'→Ut y' y=true)∧∀ H',Zk (wo (wo H b.dk) b.dl) H'→Yt t H' n b TS (Wa KF z day (some (Xo x (KF z day) c k))) (m+1)→Q .non H'
theorem ZeJ (xs:List V) (c:Nat):X4 xs none (some ((c:Nat):Int))=xs.take c:=by
 unfold X4 HT.sIx
 dsimp only
 rw [if_neg (by omega),List.drop_zero]
 by_cases h:c≤xs.length
 ·congr 1;omega
 ·rw [List.take_of_length_le (by omega),List.take_of_length_le (by omega)]
theorem Yt.late {H:Hp} {n:Addr} {b:NB} {TS:List Zs} {KF:ZW} {m:Nat} {z:Str} {day:Nat} {l:Addr} {ls:List Nat} {kvs:List (List Zt×V)} (h:Yt t H n b TS KF m) (nk:KF z day≠some none) (hk:H b.dl=some (.dT kvs)) (hl:H l=some (.lst (ls.map fun n=>V.int (n:Nat)))) :
  Yt t (Zd H b.dl (.dT (Yv kvs (Xc day z) (.ref l)))) n b TS (Wa KF z day (some ls)) (m+1):=by
 obtain ⟨⟨dx,fs,e1,e2⟩,ap,⟨rows,h1,h2⟩,⟨k1,a1,a2,a3⟩,⟨k2,b1,b2,b3⟩⟩:=h
 obtain rfl:kvs=k2:=by rw [hk] at b1;injection b1 with b1;injection b1
 have keep:∀ {p xs},H p=some (.lst xs)→∀ o,Zd H b.dl o p=some (.lst xs):=fun hp o=>by rw [Zl (YL hp hk (by intro z;cases z))];exact hp
 refine ⟨ZK dx fs (VF hk Z2.dt e1) e2,ap,Za rows (by rw [Zl (YL h1 hk (by intro z;cases z))];exact h1) (h2.imp fun _ _=>Yx.put hk Z2.dt (fun _ z=>(nomatch z))),Zx k1 (by rw [Zl ap];exact a1) (by omega) fun z' d'=>?_,(Zx _ Zh (Nat.le_trans (UK _ _ _) (by omega)) fun z' d'=>?_)⟩
 ·rw [a3]
  unfold Wa
  by_cases e:z'=z∧d'=day
  ·rw [if_pos e,e.1,e.2,decide_eq_false nk];rfl
  ·rw [if_neg e]
 ·rw [WC]
  have hb:=b3 z' d'
  unfold Wa
  by_cases e:z'=z∧d'=day
  ·rw [if_pos e]
   show ∃ _,_
   rw [e.1,e.2,if_pos rfl]
   exact Za l rfl (keep hl _)
  ·rw [if_neg e,if_neg fun z=>e (ZeH z)]
   revert hb
   cases KF z' d' with
   | none=>exact id
   | some o=>cases o with
    | none=>exact id
    | some ls=>exact fun ⟨l,e,h⟩=>Za l e (keep h _)
theorem Zim (Tx:ZO K mg t):ZF P w K mg base ZE 6 t.Zd5 t.Zd6 ["self","trip","day","call","minutes"] (ZqF t):=by
 refine Tx.Zoq.ok ZcD (fun vs H Q E h=>?_) (fun cdv A outer s H vs Q E hr h=>?_)
 ·obtain ⟨n,b,TS,KF,m,z,day,c,k,x,rfl,_⟩:=h
  rfl
 obtain ⟨n,b,TS,KF,m,z,day,c,k,x,rfl,hN,m1,ex,d9,ok,l6,hru,nk,hls,hc,hk,fol,q⟩:=h
 obtain ⟨dx,fs,e1,e2⟩:=hN.ob
 obtain ⟨rows,h1,h2⟩:=hN.tt
 obtain ⟨kvs,k1,k2,k3⟩:=hN.lt
 obtain ⟨kv,ev,_,r,rv,lc,cvs,er,hr1,hro,hl,hcs⟩:=(X8 (fun kv x (h:Yx t H kv x)=>h.1) h2 z).2 x ex
 have lcv:=hcs.length
 have lm:=Za2 hls
 refine Za _ (Zm (Z0 (YR (pv 0) Tx.YK Tx.ZhU (Zij Tx) (hr.mono (by omega)) Tx.ZhM .nil Zr (Zb (pv 1) (Zb (pv 2) Ze))))
  (Zm (ZJ (i:=5) ZcD.nd rfl (Or.inl rfl) (Zw ZQ (Xa (Z8 hr) (Ya (pv 0) rfl) (pv 1) (fun _ _=>rfl)) Zc (fun _ _=>rfl)))
  (Zm (Z0 (ZB (V7 Tx) (hr.mono (by omega)) rfl Tx.V4 Tx.VA.kp Tx.V5 .nil Zr (Zb (pv 3) (Zb Zc (Zb (Zi XL (ZV Xh rfl Tx.YZ YX (Zb (pv 5) Ze)) Zc) Ze)))))
  (Zm (Z0 (ZB (V7 Tx) (hr.mono (by omega)) rfl Tx.V4 Tx.VA.kp Tx.V5 .nil Zr (Zb (pv 4) (Zb Zc (Zb (YH rfl Tx.Zhe) Ze)))))
  (Zm (ZJ (i:=6) ZcD.nd rfl (Or.inl rfl) (Zi Zci (Vp Zat (YR (pv 0) Tx.YK Tx.ZhW (Zik Tx) (hr.mono (by omega)) Tx.ZhK .nil Zr (Zb (pv 1) (Zb (pv 2) Ze))) Vn (Vo (pv 3))) (Zi Qc (Yj (Zb (pv 4) Ze)) (Zi XL (ZV Xh rfl Tx.YZ YX (Zb (pv 5) Ze)) (pv 3)))))
  (Zm (Z0 (ZB (ZpA Tx) (hr.mono (by omega)) rfl Tx.Znp Tx.Zhq.kp Tx.Znq .nil Zr (Zb (ZB (Zh5 Tx) (hr.mono (by omega)) rfl Tx.Zho Tx.Zer.kp Tx.Zhp .nil Zr (Zb (pv 5) (Zb Zc (Zb (pv 6) Ze)))) Ze)))
  (Zp (Vv (Z8 hr) (Ya (pv 0) rfl) (Yf (Zb (pv 2) (Zb (pv 1) Ze))) (pv 6) rfl)))))))) ?_
 refine Za _ rfl (ZI n dx _ rfl e1 e2.n_check_goes (Za _ rfl (Za _ rfl ⟨n,TS,KF,m,z,day,x,rfl,⟨b,hN⟩,ex,d9,ok,hru,nk,fun H1 s1=>?_⟩)))
 refine Za _ rfl (Z5 n _ dx _ _ rfl (s1 _ _ e1) Tx.YK Tx.Ur e2.ft (Za _ rfl (Zj b.dt (.ref r) rfl (by rw [← er,← ev];exact Yd.k (k:=Sum.inr z) (s1 _ _ h1)) (Zz r _ 1 _ rfl rfl (Zu.of (s1 _ _ hr1)) rfl ?_))))
 refine Za _ rfl (Za _ rfl (Zj lc _ rfl (.inl (Zg.of (s1 _ _ hl))) (Zj _ _ rfl rfl (ZI c 0 _ rfl (by omega) (by omega) ?_))))
 refine Za _ rfl (ZI k 0 300 rfl (by omega) (by omega) ?_)
 refine Za _ rfl (ZI n dx _ rfl (s1 _ _ e1) e2.n_late_minutes (Za _ rfl (Za _ rfl ⟨n,TS,KF,m,z,day,x,rfl,⟨b,hN.same s1⟩,ex,l6,fun l2 H2 s2 g2 c2=>?_⟩)))
 have S2:=s1.trans s2
 refine Za _ rfl (Za _ rfl (Zj l2 _ rfl (Zg.of c2) fun l3 g3=>?_))
 rw [show X4 ((Y0 x (KF z day)).map fun n:Nat=>V.int (n:Nat)) none (some ((c:Nat):Int))=((Y0 x (KF z day)).take c).map fun n:Nat=>V.int (n:Nat) by rw [ZeJ,List.map_take]]
 have t3:=Zn g3 (.lst (((Y0 x (KF z day)).take c).map fun n:Nat=>V.int (n:Nat)))
 have S3:=S2.trans t3
 have c3:=@Zh H2 l3 (.lst (((Y0 x (KF z day)).take c).map fun n:Nat=>V.int (n:Nat)))
 generalize Zd H2 l3 (.lst (((Y0 x (KF z day)).take c).map fun n:Nat=>V.int (n:Nat)))=H3 at S3 c3 ⊢
 refine Zx _ rfl (by show 1≤sizeLine;decide) fun p4 g4=>?_
 have t4:=Zn g4 (.lst [.int (k:Nat)])
 have S4:=S3.trans t4
 have c4:=@Zh H3 p4 (.lst [.int (k:Nat)])
 have c34:=t4 _ _ c3
 generalize Zd H3 p4 (.lst [.int (k:Nat)])=H4 at S4 c4 c34 ⊢
 refine Za _ rfl (Zj lc _ rfl (.inl (Zg.of (S4 _ _ hl))) (Za _ rfl (Zj _ _ rfl rfl (UQ p4 (((cvs.length:Nat):Int) - ((c:Nat):Int)) _ rfl rfl c4 (by omega) (by omega) (by show 1 * _≤sizeLine;exact Nat.le_trans (show _≤6 by omega) (by decide)) fun p5 g5=>?_))))
 rw [show (((cvs.length:Nat):Int) - ((c:Nat):Int)).toNat=x.cs.length - c by omega,Za1]
 have t5:=Zn g5 (.lst ((List.replicate (x.cs.length - c) k).map fun n:Nat=>V.int (n:Nat)))
 have S5:=S4.trans t5
 have c5:=@Zh H4 p5 (.lst ((List.replicate (x.cs.length - c) k).map fun n:Nat=>V.int (n:Nat)))
 have c35:=t5 _ _ c34
 generalize Zd H4 p5 (.lst ((List.replicate (x.cs.length - c) k).map fun n:Nat=>V.int (n:Nat)))=H5 at S5 c5 c35 ⊢
 refine Z7 l3 p5 _ _ rfl rfl c35 c5 (by rw [List.length_map,List.length_map,List.length_take,List.length_replicate,lm];exact Nat.le_trans (show _≤6 by omega) (by decide)) fun p6 g6=>?_
 rw [← List.map_append,show (Y0 x (KF z day)).take c++List.replicate (x.cs.length - c) k=Xo x (KF z day) c k from rfl]
 have ll:=Zil hls k (show c≤x.cs.length by omega)
 generalize Xo x (KF z day) c k=ls at ll fol q ⊢
 have t6:=Zn g6 (.lst (ls.map fun n:Nat=>V.int (n:Nat)))
 have S6:=S5.trans t6
 have c6:=@Zh H5 p6 (.lst (ls.map fun n:Nat=>V.int (n:Nat)))
 generalize Zd H5 p6 (.lst (ls.map fun n:Nat=>V.int (n:Nat)))=H6 at S6 c6 ⊢
 refine Za _ rfl (Za _ rfl ⟨lc,p6,0,cvs,x.cs,ls,rfl,Zg.of (S6 _ _ hl),hcs.imp fun _ _=>Ye.same S6,Zg.of c6,l6,ll,fun l7 mvv H7 s7 g7 c7 al7=>?_⟩)
 have S7:=S6.trans s7
 have c67:=s7 _ _ c6
 have lmv:(Yo 0 x.cs ls).length≤6:=by unfold Yo;rw [List.length_zipWith,ll,Nat.min_self];exact l6
 refine ⟨l7,mvv,_,rfl,Zg.of c7,al7,lmv,fol,fun H8 s8=>?_⟩
 have S8:=S7.trans s8
 have c68:=s8 _ _ c67
 refine Za _ rfl (Za _ rfl (Z5 n _ dx _ _ rfl (S8 _ _ e1) Tx.YK Tx.ZbT e2.fl (Za _ rfl (Zx _ rfl (by show 2≤sizeLine;decide) fun p9 g9=>?_))))
 have t9:=Zn g9 (.tup [.int (day:Nat),.str z])
 have S9:=S8.trans t9
 refine Zj b.dl _ rfl (XW.t (k:=Xc day z) (S9 _ _ k1) Zh (Nat.lt_of_le_of_lt (show kvs.length≤1000 by omega) (by decide))) ?_
 refine q _ (fun a o e=>?_) ((hN.same S9).late nk (S9 _ _ k1) (t9 _ _ c68))
 obtain ⟨na,e⟩:=XQ e
 obtain ⟨_,e⟩:=XQ e
 rw [Zl na]
 exact S9 _ _ e
def ZqG (t:Z9):Sp:=fun vs H Q _=>∃ (n:Addr) (b:NB) (TS:List Zs) (KF:ZW) (m:Nat) (z:Str) (day:Nat) (x:Zs),vs=[.ref n,.str z,.int (day:Nat)]∧Yt t H n b TS KF m∧m < 1000∧fnd Zs.nm TS z=some x∧day≤9999∧x.r.Ok∧x.r.runs day=true∧KF z day≠some none ∧
 ∀ H',Zk (wo (wo H b.dk) b.dl) H'→Yt t H' n b TS (Wa KF z day none) (m+1)→Q .non H'
theorem Yt.outs {H:Hp} {n:Addr} {b:NB} {TS:List Zs} {KF:ZW} {m:Nat} {z:Str} {day:Nat} {kl kk:List (List Zt×V)} (h:Yt t H n b TS KF m) (hl:H b.dl=some (.dT kl)) (hk:H b.dk=some (.dT kk)) {kl':List (List Zt×V)} (ll:kl'.length≤kl.length) (vl:∀ j,ZA kl' j=if j=Xc day z then none else ZA kl j) {H':Hp} (s:Zk (wo H b.dl) H') (hl':H' b.dl=some (.dT kl')) (hk':H' b.dk=some (.dT kk)) (v:V) :
  Yt t (Zd H' b.dk (.dT (Yv kk (Xc day z) v))) n b TS (Wa KF z day none) (m+1):=by
 obtain ⟨⟨dx,fs,e1,e2⟩,ap,⟨rows,h1,h2⟩,⟨k1,a1,a2,a3⟩,⟨k2,b1,b2,b3⟩⟩:=h
 obtain rfl:kl=k2:=by rw [hl] at b1;injection b1 with b1;injection b1
 obtain rfl:kk=k1:=by rw [hk] at a1;injection a1 with a1;injection a1
 have S:Zk (wo (wo H b.dl) b.dk) (Zd H' b.dk (.dT (Yv kk (Xc day z) v))):=fun a o e=>by
  obtain ⟨na,e⟩:=XQ e
  rw [Zl na]
  exact s _ _ e
 have up:∀ {a o},H a=some o→(∀ kvs,o≠.dT kvs)→wo (wo H b.dl) b.dk a=some o:=fun e n=>Z4 (Z4 e (YL e hl (n _))) (YL e hk (n _))
 have r2:Al (Yx t (wo (wo H b.dl) b.dk)) rows TS:=h2.imp fun _ _ hx=>by
  obtain ⟨e,r,rv,l,vs,e1,e2,e3,e4,e5⟩:=hx
  exact Yx.keep (fun a o e nd _=>up e nd) ⟨e,Zz r rv l vs e1 e2 e3 e4 e5⟩
 refine ⟨ZK dx fs (S _ _ (up e1 (fun _ z=>(nomatch z)))) e2,ap,Za rows (S _ _ (up h1 (fun _ z=>(nomatch z)))) (r2.imp fun _ _=>Yx.same S),Zx _ Zh (Nat.le_trans (UK _ _ _) (by omega)) fun z' d'=>?_,(Zx kl' (by rw [Zl ap.symm];exact hl') (by omega) fun z' d'=>?_)⟩
 ·rw [WC]
  unfold Wa
  by_cases e:z'=z∧d'=day
  ·rw [e.1,e.2,if_pos rfl,if_pos ⟨rfl,rfl⟩];rfl
  ·rw [if_neg e,if_neg fun z=>e (ZeH z),a3]
 ·rw [vl]
  have hb:=b3 z' d'
  unfold Wa
  by_cases e:z'=z∧d'=day
  ·rw [if_pos e]
   show _=none
   rw [e.1,e.2,if_pos rfl]
  ·rw [if_neg e,if_neg fun z=>e (ZeH z)]
   revert hb
   cases KF z' d' with
   | none=>exact id
   | some o=>cases o with
    | none=>exact id
    | some ls=>exact fun ⟨l,e,h⟩=>Za l e (S _ _ (up h (fun _ z=>(nomatch z))))
theorem ZqH (Tx:ZO K mg t):ZF P w K mg base ZE 6 t.Zd7 t.Zd8 ["self","trip","day"] (ZqG t):=by
 refine Tx.Zor.ok ZmR (fun vs H Q E h=>?_) (fun cdv A outer s H vs Q E hr h=>?_)
 ·obtain ⟨n,b,TS,KF,m,z,day,x,rfl,_⟩:=h
  rfl
 obtain ⟨n,b,TS,KF,m,z,day,x,rfl,hN,m1,ex,d9,ok,hru,nk,q⟩:=h
 obtain ⟨dx,fs,e1,e2⟩:=hN.ob
 obtain ⟨kl,l1,l2,l3⟩:=hN.lt
 obtain ⟨kk,k1,k2,k3⟩:=hN.tk
 refine Za _ (Zm (Z0 (YR (pv 0) Tx.YK Tx.ZhU (Zij Tx) (hr.mono (by omega)) Tx.ZhM .nil Zr (Zb (pv 1) (Zb (pv 2) Ze))))
  (Zm (Z0 (Zmi (Z8 hr) (Ya (pv 0) rfl) (Yf (Zb (pv 2) (Zb (pv 1) Ze))) UB ⟨rfl,rfl,rfl,rfl⟩))
  (Zp (Vv (Z8 hr) (Ya (pv 0) rfl) (Yf (Zb (pv 2) (Zb (pv 1) Ze))) Wm rfl)))) ?_
 refine Za _ rfl (ZI n dx _ rfl e1 e2.n_check_goes (Za _ rfl (Za _ rfl ⟨n,TS,KF,m,z,day,x,rfl,⟨b,hN⟩,ex,d9,ok,hru,nk,fun H1 s1=>?_⟩)))
 refine Za _ rfl (Z5 n _ dx _ _ rfl (s1 _ _ e1) Tx.YK Tx.ZbT e2.fl (Zx b.dl rfl (.inr ⟨kl,.inl (s1 _ _ l1)⟩) (Za _ rfl (Zx _ rfl (by show 2≤sizeLine;decide) fun p2 g2=>?_))))
 have t2:=Zn g2 (.tup [.int (day:Nat),.str z])
 have S2:=s1.trans t2
 have c2:=@Zh H1 p2 (.tup [.int (day:Nat),.str z])
 generalize Zd H1 p2 (.tup [.int (day:Nat),.str z])=H2 at S2 c2 ⊢
 have key:∀ (H3:Hp) (kl':List (List Zt×V)),kl'.length≤kl.length→(∀ j,ZA kl' j=if j=Xc day z then none else ZA kl j)→Zk (wo H2 b.dl) H3→H3 b.dl=some (.dT kl')→H3 b.dk=some (.dT kk)→H3 n=some (.ins t.YB dx fs)→∀ p g,H3 p=none→Q .non (Zd (Zd H3 p g) b.dk (.dT (Yv kk (Xc day z) (.bl true)))):=fun H3 kl' ll vl s3 hl3 hk3 hn3 p g gp=>by
  have t4:=Zn gp g
  refine q _ (fun a o e=>?_) ((hN.same S2).outs (S2 _ _ l1) (S2 _ _ k1) ll vl (s3.trans t4) (t4 _ _ hl3) (t4 _ _ hk3) _)
  obtain ⟨n1,e⟩:=XQ e
  obtain ⟨n2,e⟩:=XQ e
  rw [Zl n2]
  exact t4 _ _ (s3 _ _ (Z4 (S2 _ _ e) n1))
 refine Yn kl (Xc day z) p2 (S2 _ _ l1) rfl c2 (fun v ev=>?_) fun ev=>?_
 ·have w3:Zk (wo H2 b.dl) (Zd H2 b.dl (.dT (Vu kl (Xc day z)))):=fun a o e=>by
   obtain ⟨na,e⟩:=XQ e
   rw [Zl na];exact e
  have n3:=w3 _ _ (Z4 (S2 _ _ e1) (YL (S2 _ _ e1) (S2 _ _ l1) (by intro z;cases z)))
  have k3':=w3 _ _ (Z4 (S2 _ _ k1) hN.ap)
  have l3':=@Zh H2 b.dl (.dT (Vu kl (Xc day z)))
  generalize Zd H2 b.dl (.dT (Vu kl (Xc day z)))=H3 at w3 n3 k3' l3' ⊢
  refine Za _ rfl (Z5 n _ dx _ _ rfl n3 Tx.YK Tx.ZaU e2.fk (Za _ rfl (Zx _ rfl (by show 2≤sizeLine;decide) fun p4 g4=>?_)))
  have t4:=Zn g4 (.tup [.int (day:Nat),.str z])
  exact Zj b.dk _ rfl (XW.t (k:=Xc day z) (t4 _ _ k3') Zh (Nat.lt_of_le_of_lt (show kk.length≤1000 by omega) (by decide))) (key H3 _ (Zgk _ _) (fun j=>ZqE _ _ _) w3 l3' k3' n3 p4 _ g4)
 ·refine Za _ rfl (Z5 n _ dx _ _ rfl (S2 _ _ e1) Tx.YK Tx.ZaU e2.fk (Za _ rfl (Zx _ rfl (by show 2≤sizeLine;decide) fun p4 g4=>?_)))
  have t4:=Zn g4 (.tup [.int (day:Nat),.str z])
  refine Zj b.dk _ rfl (XW.t (k:=Xc day z) (t4 _ _ (S2 _ _ k1)) Zh (Nat.lt_of_le_of_lt (show kk.length≤1000 by omega) (by decide))) (key H2 kl (Nat.le_refl _) (fun j=>?_) Xr (S2 _ _ l1) (S2 _ _ k1) (S2 _ _ e1) p4 _ g4)
  by_cases e:j=Xc day z
  ·rw [if_pos e,e,ev]
  ·rw [if_neg e]
structure Rn where
 nm:Str
 day:Nat
 ms:List (Str×Int×Int)
def lv0:List (Str×Int×Int)→Int
 | []=>0
 | m::_=>m.2.2
def WZ (r:Rn):List (Sum Int (List Nat)):=[.inl (lv0 r.ms),.inr r.nm.cps.toList,.inl ((r.day:Nat):Int)]
def Yr (b e:Int) (KF:ZW) (x:Zs) (d:Nat):Option Rn:=match Wt x (KF x.nm d) d with
 | none=>none
 | some ms=>if WW b e ms=true then some ⟨x.nm,d,ms⟩ else none
theorem WM {b e:Int} {KF:ZW} {x:Zs} {d:Nat} {r:Rn} (h:Yr b e KF x d=some r):r.nm=x.nm∧r.day=d∧Wt x (KF x.nm d) d=some r.ms∧WW b e r.ms=true:=by
 unfold Yr at h
 cases hm:Wt x (KF x.nm d) d with
 | none=>rw [hm] at h;cases h
 | some ms =>
  rw [hm] at h
  by_cases hl:WW b e ms=true
  ·rw [show (match some ms with | none=>none | some ms=>if WW b e ms=true then some (Rn.mk x.nm d ms) else none)=some (Rn.mk x.nm d ms) from if_pos hl] at h
   obtain rfl:=Option.some.inj h
   exact ⟨rfl,rfl,rfl,hl⟩
  ·rw [show (match some ms with | none=>none | some ms=>if WW b e ms=true then some (Rn.mk x.nm d ms) else none)=none from if_neg hl] at h
   cases h
def Wu (b e:Int) (KF:ZW) (TS:List Zs) (f n:Nat):List Rn:=TS.flatMap fun x=>(List.range n).filterMap fun j=>Yr b e KF x (f+j)
def WN (b e:Int) (KF:ZW) (TS:List Zs) (f n:Nat):List Rn:=(List.range n).flatMap fun j=>TS.filterMap fun x=>Yr b e KF x (f+j)
def Ua (b e:Int) (KF:ZW) (TS:List Zs):List Rn:=Wu b e KF TS 0 10000
structure Uw (TS:List Zs):Prop where
 nd:(TS.map Zs.nm).Nodup
 ok:∀ x∈TS,x.Ok
 rng:∀ x∈TS,∀ c∈x.cs,c.lv≤2879
 len:TS.length≤4
def Xw (TS:List Zs) (KF:ZW):Prop:=∀ x∈TS,∀ d ls,KF x.nm d=some (some ls)→ls.length=x.cs.length∧∀ l∈ls,l≤300
theorem Xw.k0 {TS:List Zs}:Xw TS K0:=fun x hx d ls h=>(nomatch h)
theorem U1 {b e:Int} {KF:ZW} {TS:List Zs} {f n:Nat} {r:Rn}:r∈Wu b e KF TS f n↔∃ x∈TS,∃ j,j < n∧Yr b e KF x (f+j)=some r:=by
 unfold Wu
 rw [List.mem_flatMap]
 constructor
 ·rintro ⟨x,hx,h⟩
  obtain ⟨j,hj,h⟩:=List.mem_filterMap.mp h
  exact Za x hx (Za j (List.mem_range.mp hj) h)
 ·rintro ⟨x,hx,j,hj,h⟩
  exact Za x hx (List.mem_filterMap.mpr (Za j (List.mem_range.mpr hj) h))
theorem Zin {b e:Int} {KF:ZW} {TS:List Zs} {f n:Nat} {r:Rn}:r∈WN b e KF TS f n↔∃ x∈TS,∃ j,j < n∧Yr b e KF x (f+j)=some r:=by
 unfold WN
 rw [List.mem_flatMap]
 constructor
 ·rintro ⟨j,hj,h⟩
  obtain ⟨x,hx,h⟩:=List.mem_filterMap.mp h
  exact Za x hx (Za j (List.mem_range.mp hj) h)
 ·rintro ⟨x,hx,j,hj,h⟩
  exact Za j (List.mem_range.mpr hj) (List.mem_filterMap.mpr (Za x hx h))
theorem Zio {TS:List Zs} (nd:(TS.map Zs.nm).Nodup):TS.Pairwise fun x y=>x.nm≠y.nm:=List.pairwise_map.mp nd
theorem Zip {b e:Int} {KF:ZW} {TS:List Zs} (nd:(TS.map Zs.nm).Nodup) (f n:Nat):(Wu b e KF TS f n).Nodup:=by
 unfold Wu
 show List.Pairwise _ _
 rw [List.pairwise_flatMap]
 refine ⟨fun x _=>?_,(Zio nd).imp fun hne r hr r' hr' z=>?_⟩
 ·rw [List.pairwise_filterMap]
  refine (List.pairwise_lt_range (n:=n)).imp fun hlt r hr r' hr' z=>?_
  have h1:=(WM hr).2.1
  have h2:=(WM hr').2.1
  rw [z] at h1
  omega
 ·obtain ⟨_,_,h⟩:=List.mem_filterMap.mp hr
  obtain ⟨_,_,h'⟩:=List.mem_filterMap.mp hr'
  have h1:=(WM h).1
  have h2:=(WM h').1
  rw [z] at h1
  exact hne (h1.symm.trans h2)
theorem ZqI {b e:Int} {KF:ZW} {TS:List Zs} (nd:(TS.map Zs.nm).Nodup) (f n:Nat):(WN b e KF TS f n).Nodup:=by
 unfold WN
 show List.Pairwise _ _
 rw [List.pairwise_flatMap]
 refine ⟨fun j _=>?_,(List.pairwise_lt_range (n:=n)).imp fun hlt r hr r' hr' z=>?_⟩
 ·rw [List.pairwise_filterMap]
  refine (Zio nd).imp fun hne r hr r' hr' z=>?_
  have h1:=(WM hr).1
  have h2:=(WM hr').1
  rw [z] at h1
  exact hne (h1.symm.trans h2)
 ·obtain ⟨_,_,h⟩:=List.mem_filterMap.mp hr
  obtain ⟨_,_,h'⟩:=List.mem_filterMap.mp hr'
  have h1:=(WM h).2.1
  have h2:=(WM h').2.1
  rw [z] at h1
  omega
theorem ZeK {α β γ:Type} {f:α→β→γ} {z:γ}:∀ {xs:List α} {ys:List β},z∈List.zipWith f xs ys→∃ x∈xs,∃ y∈ys,f x y=z
 | [],_,h=>by simp at h
 | _::_,[],h=>by simp at h
 | x::xs,y::ys,h=>by
  rw [List.zipWith_cons_cons] at h
  rcases List.mem_cons.mp h with e | h
  ·exact Za x List.mem_cons_self (Za y List.mem_cons_self e.symm)
  ·obtain ⟨a,ha,b,hb,e⟩:=ZeK h
   exact Za a (List.mem_cons_of_mem _ ha) (Za b (List.mem_cons_of_mem _ hb) e)
theorem ZqJ {b e:Int} {KF:ZW} {TS:List Zs} (T:Uw TS) (kf:Xw TS KF) {x:Zs} (hx:x∈TS) {d:Nat} {r:Rn} (h:Yr b e KF x d=some r):b≤1440 * (d:Nat)+3179∧1440 * ((d:Nat):Int)≤e:=by
 obtain ⟨_,_,hm,hl⟩:=WM h
 unfold WW at hl
 obtain ⟨m,mm,hm2⟩:=List.any_eq_true.mp hl
 rw [Bool.and_eq_true] at hm2
 have h1:=of_decide_eq_true hm2.1
 have h2:=of_decide_eq_true hm2.2
 have mem:=(List.dropLast_sublist _).subset mm
 unfold Wt at hm
 split at hm
 ·split at hm
  ·cases hm
  ·obtain e0:=Option.some.inj hm
   rw [← e0] at mem
   unfold Yo at mem
   obtain ⟨c,hc,l,hl',rfl⟩:=ZeK mem
   have c1:=T.rng x hx c hc
   have l1:l≤300:=by
    cases ho:KF x.nm d with
    | none=>rw [ho] at hl';rw [List.eq_of_mem_replicate hl'];omega
    | some o=>cases o with
     | none=>rw [ho] at hl';rw [List.eq_of_mem_replicate hl'];omega
     | some ls=>rw [ho] at hl';exact (kf x hx d ls ho).2 l hl'
   have e1:(mvC (1440 * ((d:Nat):Int)) c l).2.2=1440 * ((d:Nat):Int)+((l:Nat):Int)+((c.lv:Nat):Int):=rfl
   rw [e1] at h1 h2
   omega
 ·cases hm
theorem Ziq {b e:Int} {KF:ZW} {TS:List Zs} (T:Uw TS) (kf:Xw TS KF) {F:List Rn} {f n:Nat} (nd:F.Nodup) (hF:∀ r,r∈F↔∃ x∈TS,∃ j,j < n∧Yr b e KF x (f+j)=some r) (hlo:∀ d:Nat,b≤1440 * ((d:Nat):Int)+3179→1440 * ((d:Nat):Int)≤e→d < 10000→f≤d∧d < f+n) (hhi:n=0∨f+n≤10000):F.Perm (Ua b e KF TS):=by
 refine (List.perm_ext_iff_of_nodup nd (Zip T.nd 0 10000)).mpr fun r=>?_
 rw [hF,U1]
 constructor
 ·rintro ⟨x,hx,j,hj,h⟩
  exact Za x hx (Za (f+j) (by omega) (by rw [Nat.zero_add];exact h))
 ·rintro ⟨x,hx,j,hj,h⟩
  rw [Nat.zero_add] at h
  obtain ⟨w1,w2⟩:=ZqJ T kf hx h
  obtain ⟨h1,h2⟩:=hlo j w1 w2 hj
  exact Za x hx (Za (j - f) (by omega) (by rw [show f+(j - f)=j by omega];exact h))
theorem ZqK {b e:Int} {KF:ZW} {TS:List Zs} (T:Uw TS) {r r':Rn} (hr:r∈Ua b e KF TS) (hr':r'∈Ua b e KF TS) (h:WZ r=WZ r'):r=r':=by
 obtain ⟨x,hx,j,_,h1⟩:=U1.mp hr
 obtain ⟨y,hy,k,_,h2⟩:=U1.mp hr'
 obtain ⟨a1,a2,a3,_⟩:=WM h1
 obtain ⟨b1,b2,b3,_⟩:=WM h2
 unfold WZ at h
 injection h with _ h
 injection h with h3 h
 injection h with h4 _
 have h3:=Sum.inr.inj h3
 have h4:=Sum.inl.inj h4
 have en:r.nm=r'.nm:=by
  have:r.nm.cps=r'.nm.cps:=Array.toList_inj.mp h3
  cases hr0:r.nm;cases hr1:r'.nm
  rw [hr0,hr1] at this
  exact congrArg Str.mk this
 have exy:x=y:=by
  have e1:=Uv T.nd hx
  have e2:=Uv T.nd hy
  rw [← b1,← en,a1] at e2
  exact Option.some.inj (e1.symm.trans e2)
 subst exy
 have ed:r.day=r'.day:=by omega
 have ejk:0+j=0+k:=by rw [← a2,← b2,ed]
 rw [ejk,b3] at a3
 have em:=Option.some.inj a3
 cases r;cases r'
 simp only at en ed em
 rw [en,ed,em]
def U2 (F S:List Rn):Prop:=S.Perm F∧S.Pairwise fun a b=>YW WE (WZ b) (WZ a)=false
theorem Zir {α:Type} {le:α→α→Prop}:∀ {S S':List α},S.Perm S'→S.Pairwise le→S'.Pairwise le→(∀ a∈S,∀ b∈S,le a b→le b a→a=b)→S=S'
 | [],S',hp,_,_,_=>(List.nil_perm.mp hp).symm
 | a::S,[],hp,_,_,_=>absurd (List.perm_nil.mp hp) (by simp)
 | a::S,b::S',hp,h1,h2,an=>by
  have hab:a=b:=by
   have ha:a∈b::S':=hp.mem_iff.mp List.mem_cons_self
   have hb:b∈a::S:=hp.mem_iff.mpr List.mem_cons_self
   rcases List.mem_cons.mp ha with e | ha
   ·exact e
   ·rcases List.mem_cons.mp hb with e | hb
    ·exact e.symm
    ·exact an a List.mem_cons_self b (List.mem_cons_of_mem _ hb) ((List.pairwise_cons.mp h1).1 b hb) ((List.pairwise_cons.mp h2).1 a ha)
  subst hab
  rw [Zir (List.Perm.cons_inv hp) (List.pairwise_cons.mp h1).2 (List.pairwise_cons.mp h2).2 fun x hx y hy=>an x (List.mem_cons_of_mem _ hx) y (List.mem_cons_of_mem _ hy)]
theorem U2.uniq {b e:Int} {KF:ZW} {TS:List Zs} (T:Uw TS) {S S':List Rn} (h:U2 (Ua b e KF TS) S) (h':U2 (Ua b e KF TS) S'):S=S':=by
 refine Zir (h.1.trans h'.1.symm) h.2 h'.2 fun x hx y hy l1 l2=>?_
 refine ZqK T (h.1.mem_iff.mp hx) (h.1.mem_iff.mp hy) ?_
 exact (ZgK WE).total _ _ l2 l1
theorem Zis {F G:List Rn} (hp:F.Perm G) {kf:Nat→List (Sum Int (List Nat))} {is:List Nat} (hk:∀ i r,F[i]? = some r→kf i=WZ r) (h:Qi kf F.length is):U2 G (is.map fun i=>F.getD i ⟨Str.empty,0,[]⟩):=by
 have hm:∀ i∈is,i < F.length:=fun i hi=>List.mem_range.mp (h.1.mem_iff.mp hi)
 refine ⟨List.Perm.trans ?_ hp,?_⟩
 ·have:=h.1.map fun i=>F.getD i ⟨Str.empty,0,[]⟩
  refine this.trans (List.Perm.of_eq ?_)
  refine List.ext_getElem (by rw [List.length_map,List.length_range]) fun i h1 h2=>?_
  rw [List.getElem_map,List.getElem_range,List.getD_eq_getElem?_getD,List.getElem?_eq_getElem h2]
  rfl
 ·rw [List.pairwise_map]
  refine h.2.imp_of_mem fun {i j} hi hj hl=>?_
  have gi:=List.getElem?_eq_getElem (hm i hi)
  have gj:=List.getElem?_eq_getElem (hm j hj)
  rw [hk i _ gi,hk j _ gj] at hl
  rw [List.getD_eq_getElem?_getD,List.getD_eq_getElem?_getD,gi,gj]
  exact hl
theorem ZeL {R:V→Rn→Prop} {xs:List V} {F:List Rn} (al:Al R xs F):∀ {is:List Nat},(∀ i∈is,i < F.length)→Al R (is.map fun i=>xs.getD i .non) (is.map fun i=>F.getD i ⟨Str.empty,0,[]⟩)
 | [],_=>.nil
 | i::is,h=>by
  have hi:=h i List.mem_cons_self
  have hx:i < xs.length:=by rw [al.length];exact hi
  obtain ⟨r,er,hr⟩:=al.get (List.getElem?_eq_getElem hx)
  rw [List.map_cons,List.map_cons]
  refine .cons ?_ (ZeL al fun j hj=>h j (List.mem_cons_of_mem _ hj))
  rw [List.getD_eq_getElem?_getD,List.getD_eq_getElem?_getD,List.getElem?_eq_getElem hx,er]
  exact hr
theorem ZeM {α β:Type} {f:α→List β} {n:Nat}:∀ {xs:List α},(∀ x∈xs,(f x).length≤n)→(xs.flatMap f).length≤xs.length * n
 | [],_=>Nat.zero_le _
 | x::xs,h=>by
  rw [List.flatMap_cons,List.length_append,List.length_cons,Nat.succ_mul]
  have:=ZeM (xs:=xs) fun y hy=>h y (List.mem_cons_of_mem _ hy)
  have:=h x List.mem_cons_self
  omega
theorem Zit {b e:Int} {KF:ZW} {TS:List Zs} (f n:Nat):(Wu b e KF TS f n).length≤TS.length * n:=ZeM fun x _=>Nat.le_trans (List.length_filterMap_le _ _) (by rw [List.length_range];exact Nat.le_refl _)
theorem Ziu {b e:Int} {KF:ZW} {TS:List Zs} (f n:Nat):(WN b e KF TS f n).length≤n * TS.length:=by
 have:=ZeM (n:=TS.length) (xs:=List.range n) (f:=fun j=>TS.filterMap fun x=>Yr b e KF x (f+j)) fun x _=>List.length_filterMap_le _ _
 rw [List.length_range] at this
 exact this
def Yg (G H:Hp) (v:V) (r:Rn):Prop:=∃ p l vs,v=.ref p∧H p=some (.tup [.str r.nm,.int (r.day:Nat),.ref l])∧H l=some (.lst vs)∧Al (YI H) vs r.ms∧G l=none
theorem Yg.same {G H H':Hp} {v:V} {r:Rn} (s:Zk H H') (h:Yg G H v r):Yg G H' v r:=let ⟨p,l,vs,e,h1,h2,h3,h4⟩:=h;(Yn p l vs e (s _ _ h1) (s _ _ h2) (h3.imp fun _ _=>YI.same s) h4)
theorem Yg.tab {G H:Hp} {lt:Addr} {ps:Array Value} {v:V} {r:Rn} (eT:H lt=some (.tbl ps)) (h:Yg G H v r):Yg G (wo H lt) v r :=
 let ⟨p,l,vs,e,h1,h2,h3,h4⟩:=h;(Yn p l vs e (UO eT h1 fun _ z=>(nomatch z)) (UO eT h2 fun _ z=>(nomatch z)) (h3.imp fun _ _ ⟨q,eq,hq⟩=>Za q eq (UO eT hq fun _ z=>(nomatch z))) h4)
def Za3:Pos:=(Um (ZD XB) 5).2.2.2
def Za4:Str:=(("runs_between" : Str) ++ ".<locals>.") ++ "<lambda>"
def Za5:Pos:=(Um (ZD Vz) 2).2.2.2
def Za6:Str:=(("_law_runs" : Str) ++ ".<locals>.") ++ "<lambda>"
theorem ZqL {x qual:Str} {st:Stmt} {f D:Addr} {fd:FuncData} {ds:List Value} {N ps:List Str} {k:Nat} {sp:Sp} (F:Zcn K x qual st f fd D ds) (S:ZM N ps (Zq st)) (len:∀ vs H Q E,sp vs H Q E→vs.length=ps.length)
  (hbody:∀ (cdv:Value) (A:Around) (outer:List Env) (s:Shared) (H:Hp) (vs:List V) (Q:VK) (E:XK),fd.code=cdv→Yh k (A.deeper (PyProof.Rows.envOfC qual (Zq st) s.heap.objs.size f cdv))→sp vs H Q E →
   ∃ t,X2 (Vb ZE P w K mg base N qual (Zq st) f cdv A outer s H E).nox (ZD st) t∧t { nx:=fun _ H'=>Q .non H',rt:=Q } (Wn N vs) H):ZF P w K mg base ZE (k+1) f fd ps sp:=by
 obtain ⟨oc,od,kV,doc,pm,an,cdv,ct,osl,rfl,lk,hcd⟩:=F.ex
 refine Zcd lk hcd S len fun A outer s H vs Q E hr hsp=>?_
 obtain ⟨t,h,q⟩:=hbody cdv A outer s H vs Q E rfl hr hsp
 exact Za t h.nox q
theorem ZeN {b e:Int} {KF:ZW} {x:Zs} {d:Nat} {r:Rn} (h:Yr b e KF x d=some r):∃ m ms,r.ms=m::ms:=by
 obtain ⟨_,_,_,hl⟩:=WM h
 cases hm:r.ms with
 | nil=>rw [hm] at hl;cases hl
 | cons m ms=>exact ⟨m,ms,rfl⟩
theorem Ziv {b e:Int} {KF:ZW} {TS:List Zs} (T:Uw TS) (kf:Xw TS KF) {x:Zs} (hx:x∈TS) {d:Nat} {ms:List (Str×Int×Int)} (h:Wt x (KF x.nm d) d=some ms):ms.length≤6:=by
 unfold Wt at h
 split at h
 ·split at h
  ·cases h
  ·obtain rfl:=Option.some.inj h
   unfold Yo
   rw [List.length_zipWith]
   have:=(T.ok x hx).len
   omega
 ·cases h
theorem ZeO {G H:Hp} {K:W.Frag} {v:V} {r:Rn} {m:Str×Int×Int} {ms:List (Str×Int×Int)} (h:Yg G H v r) (e:r.ms=m::ms):∃ p l c cs vs,v=.ref p∧Zu K H p [.str r.nm,.int (r.day:Nat),.ref l]∧Zg K H l vs∧vs=.ref c::cs∧Zu K H c [.str m.1,.int m.2.1,.int m.2.2]∧lv0 r.ms=m.2.2:=by
 obtain ⟨p,l,vs,rfl,h1,h2,h3,_⟩:=h
 rw [e] at h3
 cases h3 with
 | cons a _ =>
  obtain ⟨c,rfl,hc⟩:=a
  exact Z5 p l c _ _ rfl (Zu.of h1) (Zg.of h2) rfl (Zu.of hc) (by rw [e];rfl)
def ZqM (t:Z9):Sp:=fun vs H Q _=>∃ (n:Addr) (nv:V) (b e:Int) (N:YN) (TS:List Zs) (KF:ZW) (G:Hp),vs=[.ref n,.int b,.int e,nv]∧Zk G H∧G t.YY=none∧Xs t.YY Za3 Za4 H∧X0 t G n N∧Al (Zb0 N) N.tp TS∧Uw TS∧Xw TS KF∧((nv=.non∧KF=K0)∨∃ no m,nv=.ref no∧VG t G no TS KF m)∧0≤b∧b≤e∧e≤b+4320∧b≤15000000 ∧
 ∀ (S:List Rn) l vs H',U2 (Ua b e KF TS) S→Zk G H'→Zk (wo H t.YY) H'→G l=none→Xs t.YY Za3 Za4 H'→H' l=some (.lst vs)→vs.length < 64→Al (Yg G (wo H' l)) vs S→Q (.ref l) H'
theorem ZeP (Tx:ZO K mg t) (hC_runs_between:W.CodeHd base t.ZaI t.YY) (hBM:BM mg base):ZF P w K mg base ZE 12 t.Zc3 t.ZaH ["net","begin","end","notices"] (ZqM t):=by
 refine ZqL Tx.ZbO Uo (fun vs H Q E h=>?_) (fun cdv A outer s H vs Q E hcv hr h=>?_)
 ·obtain ⟨n,nv,b,e,N,TS,KF,G,rfl,_⟩:=h
  rfl
 obtain ⟨n,nv,b,e,N,TS,KF,G,rfl,sG,gl,hT,hA,al,T,kf,hnv,b0,be,e4,b15,q⟩:=h
 refine Za _ (Vt (ZJ (i:=4) Uo.nd rfl (Or.inl rfl) (Zi5 (VJ (Za9 (pv 3))) (Qa Tx.ZhS (Zig Tx) (hr.mono (by omega)) rfl Tx.ZhZ Tx.ZhI .nil Zr (Zb (pv 0) Ze)) (pv 3)))
  (Zm (ZJ (i:=5) Uo.nd rfl (Or.inl rfl) (ZV (Zaq rfl) rfl Tx.ZaK ZaF (Zb Zc (Zb (Zi Yl (Zi XL (Zi XL (pv 1) (YH rfl Tx.Zem)) (YH rfl Tx.Zhe)) (YH rfl Tx.Zel)) Ze))))
  (Zm (ZJ (i:=6) Uo.nd rfl (Or.inl rfl) (ZV (Zar rfl) rfl Tx.ZaL ZaG (Zb (YH rfl Tx.Zhd) (Zb (Zi Yl (pv 2) (YH rfl Tx.Zel)) Ze))))
  (Zm (ZJ (i:=7) Uo.nd rfl (Or.inl rfl) (Yj Ze))
  (Zm (YU PassesOwn.never rfl (XT (Zfk (pv 0) Tx.Z6 Tx.ZhR (Zie Tx) (hr.mono (by omega)) Tx.ZhH .nil Zr)) (ZU (i:=8) Uo.nd rfl (Or.inl rfl))
  (Zp (YU PassesOwn.never rfl (Zb6 rfl Tx.WU (Zb (pv 5) (Zb (Zi ZZ (pv 6) Zc) Ze))) (ZU (i:=9) Uo.nd rfl (Or.inl rfl))
  (Zm (ZJ (i:=10) Uo.nd rfl (Or.inl rfl) (YR (pv 4) Tx.YK Tx.ZoS (ZqD Tx) (hr.mono (by omega)) Tx.Zou .nil Zr (Zb (pv 8) (Zb (pv 9) Ze))))
  (Zp (ZX (PW.pt (U5 (VJ (ZiW (pv 10))) (Zap (Ym (ZB (Zpv Tx) (hr.mono (by omega)) rfl Tx.Znt Tx.Zhs.kp Tx.Znu .nil Zr (Zb (pv 10) (Zb (pv 1) (Zb (pv 2) Ze))))))))
  (Zp (Z0 (Vc PySem.F.plainAttrs_list PySem.F.slot_list_append PySem.F.type_list_append Vq (pv 7) (Zb (Yf (Zb (pv 8) (Zb (pv 9) (Zb (pv 10) Ze)))) Ze))))
  ZY))))))
  (Zp (ZT (ZgV (k:=0) (N:=["run"]) (x := "run") (qual:=(("runs_between" : Str) ++ ".<locals>.") ++ "<lambda>") (params:=(Um (ZD XB) 5).1) (body:=(Um (ZD XB) 5).2.1) (scope:=(Um (ZD XB) 5).2.2.1) rfl Tx.Zej ZcE (hr.mono (by omega)) ⟨rfl,rfl,rfl,by decide +kernel,rfl,by decide +kernel,by decide +kernel⟩ (fun _ _ _ _=>rfl) (fun _ _ _ _ _ _ _=>(Yf (Zb (Zw (show Y7 _ (XA K) from ZQ) (Zw (show Y7 _ (Zcf K) from YA) (Zw (show Y7 _ (XA K) from ZQ) (pv 0) Zc (fun _ _=>rfl)) Zc (fun _ _=>rfl)) Zc (fun _ _=>rfl)) (Zb (Zw (show Y7 _ (XA K) from ZQ) (pv 0) Zc (fun _ _=>rfl)) (Zb (Zw (show Y7 _ (XA K) from ZQ) (pv 0) Zc (fun _ _=>rfl)) Ze))))) (Zb (pv 7) Ze) (Zfn (ZgA (hcv.symm.trans Tx.Zo1) hC_runs_between hBM rfl rfl) Zfm))))))))) ?_
 have hA':=hA
 obtain ⟨na,hN⟩:=hA'
 obtain ⟨ndx,nfs,ne1,ne2⟩:=hN.ob
 refine Za (fun σ H'=>∃ kn m,σ=[some (.ref n),some (.int b),some (.int e),some nv,some (.ref kn),none,none,none,none,none,none]∧Zk H H'∧VG t H' kn TS KF m) ?_ ?_
 ·rcases hnv with ⟨rfl,rfl⟩ | ⟨no,m,rfl,hno⟩
  ·refine Za _ rfl (Za _ rfl (YS (decide_eq_true rfl) (Za _ rfl fun x dx nx ndx' nex=>?_)))
   refine ⟨x,n,H,N,TS,rfl,nx,Yb (Zn ndx' _) nx _,⟨dx,Zh⟩,hA.same sG,al,T.nd,fun y hy=>(T.ok y hy).r,by have:=T.len;omega,fun H' bb s' hO _ _=>⟨rfl,Zj x 0 rfl s' ⟨bb,hO⟩⟩⟩
  ·exact Za _ rfl (Za _ rfl (ZH (by rw [decide_eq_false (fun z=>(nomatch z))];decide) (Za _ rfl (Zj no m rfl (Zk.refl H) (hno.same sG)))))
 ·rintro σ H1 ⟨kn,m,rfl,s1,hK⟩
  obtain ⟨kb,hKO⟩:=hK
  obtain ⟨kdx,kfs,ke1,ke2⟩:=hKO.ob
  have hT1:=hT.same s1
  have sG1:=sG.trans s1
  refine Za _ rfl (Zj _ _ rfl rfl (Zj _ _ rfl rfl (Zo _ _ rfl rfl ⟨by decide,by decide⟩ (ZK _ _ rfl ?_))))
  refine Za _ rfl (Zo _ _ rfl rfl ⟨by decide,by decide⟩ (ZK _ _ rfl ?_))
  obtain ⟨fi,efi⟩:∃ fi:Nat,(if (b - 2879 - 300) / 1440 > 0 then (b - 2879 - 300) / 1440 else 0)=((fi:Nat):Int):=⟨(if (b - 2879 - 300) / 1440 > 0 then (b - 2879 - 300) / 1440 else 0).toNat,by split <;> omega⟩
  obtain ⟨la,ela⟩:∃ la:Nat,(if e / 1440 < 9999 then e / 1440 else 9999)=((la:Nat):Int):=⟨(if e / 1440 < 9999 then e / 1440 else 9999).toNat,by split <;> omega⟩
  dsimp only
  rw [efi,ela]
  obtain ⟨n7,en7⟩:∃ n7:Nat,n7=(((la:Nat):Int)+1 - ((fi:Nat):Int)).toNat:=⟨_,rfl⟩
  have hn7:n7≤7:=by
   split at efi <;> split at ela <;> omega
  have hlast:n7=0∨fi+n7≤10000:=by
   split at ela <;> omega
  have hwin:∀ d:Nat,b≤1440 * ((d:Nat):Int)+3179→1440 * ((d:Nat):Int)≤e→d < 10000→fi≤d∧d < fi+n7:=fun d h1 h2 h3=>by
   split at efi <;> split at ela <;> omega
  have hperm:=Ziq T kf (Zip T.nd fi n7) (fun r=>U1) hwin hlast
  refine ⟨by show 0≤sizeLine;decide,fun lf gf=>?_⟩
  have t2:=Zn gf (.lst [])
  have cf:=@Zh H1 lf (.lst [])
  have gf0:G lf=none:=sG1.free gf
  generalize Zd H1 lf (.lst [])=H2 at t2 cf ⊢
  have sG2:=sG1.trans t2
  refine Za _ rfl (ZI n ndx _ rfl (sG2 _ _ ne1) ne2.n_trips (Zj n N rfl (hA.same sG2) fun lt gt=>?_))
  rw [ZeI al]
  have t3:=Zn gt (.lst ((TS.map Zs.nm).map V.str))
  have ct:=@Zh H2 lt (.lst ((TS.map Zs.nm).map V.str))
  have cf3:=t3 _ _ cf
  have ntf:lt≠lf:=fun z=>by rw [z,cf] at gt;cases gt
  have t13:=t2.trans t3
  generalize Zd H2 lt (.lst ((TS.map Zs.nm).map V.str))=H3 at t13 ct cf3 ⊢
  refine Zx lt rfl ⟨_,Zg.of ct⟩ (W8 (K:=K) (a:=lt) (xs:=(TS.map Zs.nm).map V.str) (fun i σ H'=>Zk H1 H'∧H' lt=some (.lst ((TS.map Zs.nm).map V.str))∧∃ (fv:List V) (v8 v9 v10:Option V),H' lf=some (.lst fv)∧Al (Yg G (wo H' lf)) fv (Wu b e KF (TS.take i) fi n7)∧σ=[some (.ref n),some (.int b),some (.int e),some nv,some (.ref kn),some (.int (fi:Nat)),some (.int (la:Nat)),some (.ref lf),v8,v9,v10]) ⟨t13,ct,UR [] none none none cf3 .nil rfl⟩ (fun i σ H' _ ⟨_,h,_⟩=>Zg.of h) ?_ ?_)
  ·rintro i v σ H4 hv ⟨s4,ct4,fv,v8,v9,v10,cf4,al4,rfl⟩
   rw [List.map_map,List.getElem?_map] at hv
   obtain ⟨x,ex,rfl⟩:=Option.map_eq_some_iff.mp hv
   have hx:=List.mem_of_getElem? ex
   have hi:=(List.getElem?_eq_some_iff.mp ex).1
   have efnd:=Uv T.nd hx
   refine Za _ rfl (Za _ rfl (Zj _ _ rfl rfl (Zj _ _ rfl ⟨by omega,by omega,by omega,by omega⟩ ?_)))
   rw [← en7]
   refine W9 (lo:=((fi:Nat):Int)) (n:=n7) (fun j σ H'=>Zk H1 H'∧H' lt=some (.lst ((TS.map Zs.nm).map V.str))∧∃ (fv:List V) (v9 v10:Option V),H' lf=some (.lst fv)∧Al (Yg G (wo H' lf)) fv (Wu b e KF (TS.take i) fi n7++(List.range j).filterMap fun j=>Yr b e KF x (fi+j))∧σ=[some (.ref n),some (.int b),some (.int e),some nv,some (.ref kn),some (.int (fi:Nat)),some (.int (la:Nat)),some (.ref lf),some (.str x.nm),v9,v10]) ⟨s4,ct4,XX fv v9 v10 cf4 (by rw [List.range_zero,List.filterMap_nil,List.append_nil];exact al4) rfl⟩ ?_ ?_
   ·rintro j σ H5 hj ⟨s5,ct5,fv,v9,v10,cf5,al5,rfl⟩
    have hday:fi+j≤9999:=by omega
    have e0:((fi:Nat):Int)+((j:Nat):Int)=((fi+j:Nat):Int):=by omega
    rw [e0]
    have hkn:H5 kn=some (.ins t.YB kdx kfs):=s5 _ _ ke1
    have nxt:∀ r,Yr b e KF x (fi+j)=r→(List.range (j+1)).filterMap (fun j=>Yr b e KF x (fi+j))=(List.range j).filterMap (fun j=>Yr b e KF x (fi+j))++r.toList:=fun r hr=>by
     rw [List.range_succ,List.filterMap_append]
     cases r with
     | none=>simp [hr]
     | some r=>simp [hr]
    have hlen:fv.length≤40:=by
     rw [al5.length,List.length_append]
     have h1:=Zit (b:=b) (e:=e) (KF:=KF) (TS:=TS.take i) fi n7
     rw [List.length_take] at h1
     have h2:((List.range j).filterMap fun j=>Yr b e KF x (fi+j)).length≤j:=Nat.le_trans (List.length_filterMap_le _ _) (by rw [List.length_range];exact Nat.le_refl _)
     have h4:=T.len
     have h5:min i TS.length * n7≤4 * 7:=Nat.mul_le_mul (by omega) hn7
     omega
    refine Za _ rfl (ZI kn kdx _ rfl hkn ke2.n_moments (Za _ rfl (Za _ rfl ⟨kn,TS,KF,m,x.nm,fi+j,x,rfl,⟨kb,hKO.same s5⟩,efnd,hday,(T.ok x hx).r,(T.ok x hx).len,fun ls h=>(kf x hx _ ls h).1,fun hm H6 s6=>?_,fun ms hm l mv H6 s6 gl6 hl6 alm=>?_⟩)))
    ·have er:Yr b e KF x (fi+j)=none:=by unfold Yr;rw [hm]
     refine Za _ rfl (Za _ rfl (ZH (by decide) ⟨s5.trans s6,s6 _ _ ct5,XX fv _ _ (s6 _ _ cf5) ?_ rfl⟩))
     rw [nxt none er]
     show Al _ fv (_++(_++[]))
     rw [List.append_nil]
     exact al5.imp fun _ _=>Yg.same (YG s6)
    ·have l6:=Ziv (b:=b) (e:=e) T kf hx hm
     refine Za _ rfl (Za _ rfl (YS (by rw [decide_eq_false (fun z=>(nomatch z))];rfl) (Za _ rfl (Za _ rfl (Za _ rfl (Ql l b e mv ms rfl (Zg.of hl6) alm l6 fun H7 s7=>(Za _ rfl ?_)))))))
     have S7:=s6.trans s7
     have cf7:=S7 _ _ cf5
     have hl7:=s7 _ _ hl6
     have nlf:l≠lf:=fun z=>by rw [z,cf5] at gl6;cases gl6
     have al7:=al5.imp fun _ _=>Yg.same (YG (l:=lf) S7)
     have gl0:G l=none:=(sG1.trans s5).free gl6
     cases hw:WW b e ms with
     | false =>
      have er:Yr b e KF x (fi+j)=none:=by unfold Yr;rw [hm];exact if_neg (by rw [hw];decide)
      refine ZH (by decide) ⟨s5.trans S7,S7 _ _ ct5,XX fv _ _ cf7 ?_ rfl⟩
      rw [nxt none er]
      show Al _ fv (_++(_++[]))
      rw [List.append_nil]
      exact al7
     | true =>
      have er:Yr b e KF x (fi+j)=some ⟨x.nm,fi+j,ms⟩:=by unfold Yr;rw [hm];exact if_pos hw
      refine YS rfl (Zx _ rfl (.inl ⟨rfl,_,Zg.of cf7⟩) (Za _ rfl (Za _ rfl (Zx _ rfl (by show 3≤sizeLine;decide) fun p8 g8=>?_))))
      have t8:=Zn g8 (.tup [.str x.nm,.int ((fi+j:Nat):Int),.ref l])
      have n8:p8≠lf:=fun z=>by rw [z,cf7] at g8;cases g8
      refine Yn lf _ _ rfl rfl (t8 _ _ cf7) (Nat.lt_of_le_of_lt hlen (by decide)) ?_
      refine ⟨Yb (s5.trans (S7.trans t8)) gf _,by rw [Zl ntf];exact t8 _ _ (S7 _ _ ct5),XX (fv++[.ref p8]) _ _ Zh ?_ rfl⟩
      rw [nxt _ er,Vw]
      show Al _ _ (_++(_++[_]))
      rw [← List.append_assoc]
      refine (al7.imp fun _ _=>Yg.same (YG (l:=lf) t8)).snoc (Yn p8 l mv rfl (Z4 Zh n8) (Z4 (t8 _ _ hl7) nlf) ?_ gl0)
      exact alm.imp fun _ _ ⟨pm,epm,hpm⟩=>Za pm epm (Z4 (t8 _ _ (s7 _ _ hpm)) fun z=>by rw [z,s6 _ _ cf5] at hpm;cases hpm)
   ·rintro σ H5 ⟨s5,ct5,fv,v9,v10,cf5,al5,rfl⟩
    refine ⟨s5,ct5,UR fv _ _ _ cf5 ?_ rfl⟩
    have:Wu b e KF (TS.take (i+1)) fi n7=Wu b e KF (TS.take i) fi n7++(List.range n7).filterMap fun j=>Yr b e KF x (fi+j):=by
     unfold Wu
     rw [List.take_add_one,ex,List.flatMap_append]
     show _++List.flatMap _ [x]=_
     rw [List.flatMap_singleton]
    rw [this]
    exact al5
  ·rintro σ H4 ⟨s4,ct4,fv,v8,v9,v10,cf4,al4,rfl⟩
   rw [List.take_of_length_le (by rw [List.length_map,List.length_map];exact Nat.le_refl _)] at al4
   replace al4:=al4.imp fun _ _=>Yg.same (Xr (l:=lf))
   refine Za _ rfl ?_
   dsimp only [YM,YV]
   have hT4:=hT1.same s4
   refine ZgB (q:=Za4) (pos:=Za3) hT4 fun f c' ctv H5 s5 hT5 hf hc'=>?_
   obtain ⟨ps,eT⟩:=hT4.at
   have al5:=al4.imp fun _ _ h=>(Yg.tab eT h).same s5
   have cf5:=s5 _ _ (UO eT cf4 fun _ z=>(nomatch z))
   have lF:(Wu b e KF TS fi n7).length < 64:=by
    have h1:=Zit (b:=b) (e:=e) (KF:=KF) (TS:=TS) fi n7
    have h4:=T.len
    have h5:TS.length * n7≤4 * 7:=Nat.mul_le_mul h4 hn7
    omega
   have memF:∀ (i:Nat) (r:Rn),(Wu b e KF TS fi n7)[i]? = some r→∃ m ms,r.ms=m::ms:=fun i r hr=>by
    obtain ⟨x,_,j,_,h⟩:=U1.mp (List.mem_of_getElem? hr)
    exact ZeN h
   generalize Wu b e KF TS fi n7=F at hperm al5 al4 lF memF ⊢
   have lfv:=al5.length
   refine ⟨lf,f,c',_,ctv,fv,fun i=>WZ (F.getD i ⟨Str.empty,0,[]⟩),[Xt (.inl 0),Xt (.inr []),Xt (.inl 0)],rfl,rfl,Zg.of cf5,by omega,fun i _=>rfl,fun z=>(by cases z),hf,hc',fun i v ev H6 s6=>?_,fun is l H6 io s6 gl6 gl5=>?_⟩
   ·obtain ⟨r,er,hr1⟩:=al5.get ev
    obtain ⟨m0,ms0,em0⟩:=memF i r er
    obtain ⟨p,l,c,cs,vs,rfl,g1,g2,rfl,g3,e3⟩:=ZeO (K:=K) (hr1.same s6) em0
    refine Za _ rfl (Zz p _ 2 _ rfl rfl g1 rfl (Zz l _ 0 _ rfl rfl g2 (Xz (j:=0) rfl) (Zz c _ 2 _ rfl rfl g3 rfl (Za _ rfl (Zz p _ 0 _ rfl rfl g1 rfl (Za _ rfl (Z7 p _ 1 _ rfl rfl g1 rfl (by show 3≤sizeLine;decide) fun pt gt=>⟨Zn gt _,Zj pt _ rfl Zh ?_⟩)))))))
    have eg:F.getD i ⟨Str.empty,0,[]⟩=r:=by rw [List.getD_eq_getElem?_getD,er];rfl
    dsimp only
    rw [eg]
    unfold WZ
    rw [e3]
    exact .int _ (.str _ (.int _ .nil))
   ·have gl0:G l=none:=by
     have s45:Zk G H5:=(We (sG1.trans s4) gl).trans s5
     exact s45.free gl5
    have hS:=Zis hperm (kf:=fun i=>WZ (F.getD i ⟨Str.empty,0,[]⟩)) (fun i r hr=>by rw [List.getD_eq_getElem?_getD,hr];rfl) (by rw [← lfv];exact io)
    have t7:=Zn gl6 (.lst (is.map fun i=>fv.getD i .non))
    have sw:Zk (wo H t.YY) H6:=fun a o e=>s6 _ _ (s5 _ _ (by
     obtain ⟨na,e⟩:=XQ e
     exact Z4 (s4 _ _ (s1 _ _ e)) na))
    refine q _ l _ _ hS (Yb (((We (sG1.trans s4) gl).trans s5).trans s6) gl0 _) (sw.trans t7) gl0 ((hT5.same s6).same t7) Zh (by rw [List.length_map,io.1.length_eq,List.length_range];omega) ?_
    rw [Vw]
    refine (ZeL (al5.imp fun _ _=>Yg.same (s6.trans (We (Zk.refl H6) gl6))) fun i hi=>?_)
    rw [← lfv]
    exact List.mem_range.mp (io.1.mem_iff.mp hi)
def ZqN (t:Z9):Sp:=fun vs H Q _=>∃ (d k:Addr) (b e:Int) (kvs:List (List Zt×V)) (TS:List Zs) (KF:ZW) (G:Hp),vs=[.ref d,.ref k,.int b,.int e]∧Zk G H∧G t.Xb=none∧Xs t.Xb Za5 Za6 H∧WX G d TS∧H k=some (.dT kvs)∧XH H kvs KF∧Uw TS∧Xw TS KF∧0≤b∧b≤e∧e≤b+4320∧b≤15000000 ∧
 ∀ (S:List Rn) l vs H',U2 (Ua b e KF TS) S→Zk G H'→Zk (wo H t.Xb) H'→G l=none→Xs t.Xb Za5 Za6 H'→H' l=some (.lst vs)→Al (Yg G (wo H' l)) vs S→Q (.ref l) H'
theorem ZeQ (Tx:ZO K mg t) (hC_law_runs:W.CodeHd base t.ZaJ t.Xb) (hBM:BM mg base):ZF P w K mg base ZE 5 t.Zdt t.Zby ["_law_data","_law_kept","_law_begin","_law_end"] (ZqN t):=by
 refine Tx.ZbP.okC US (fun vs H Q E h=>?_) (fun cdv A outer s H vs Q E hcv hr h=>?_)
 ·obtain ⟨d,k,b,e,kvs,TS,KF,G,rfl,_⟩:=h
  rfl
 obtain ⟨d,k,b,e,kvs,TS,KF,G,rfl,sG,gl,hT,hD,hk,kp,T,kf,b0,be,e4,b15,q⟩:=h
 have hD':=hD
 obtain ⟨dkv,lt,tvs,hd,hdt,hlt,alt⟩:=hD'
 have get:∀ {H':Hp},Zk G H'→Yd H' d (.str (Str.ofString "trips")) (some (.ref lt)):=fun s'=>by rw [← hdt];exact Yd.k (k:=Sum.inr (Str.ofString "trips")) (s' _ _ hd)
 have ltv:=alt.length
 refine Za _ (Zm (ZJ (i:=4) US.nd rfl (Or.inl rfl) (Yj Ze))
  (Zm (YU PassesOwn.never rfl (Zb6 rfl Tx.WU (Zb (ZV (Zaq rfl) rfl Tx.ZaK ZaF (Zb Zc (Zb (Zi XL (Zi Yl (pv 2) Zc) Zc) Ze))) (Zb (Zi ZZ (ZV (Zar rfl) rfl Tx.ZaL ZaG (Zb Zc (Zb (Zi ZZ (Zi Yl (pv 3) Zc) Zc) Ze))) Zc) Ze))) (ZU (i:=5) US.nd rfl (Or.inl rfl))
  (Zp (YU PassesOwn.never rfl (XT (Xa (Z8 hr) (pv 0) Yk (fun _ _=>rfl))) (W7 rfl (YD (ZU (i:=6) US.nd rfl (Or.inl rfl)) (YD (ZU (i:=7) US.nd rfl (Or.inl rfl)) (YD (ZU (i:=8) US.nd rfl (Or.inl rfl)) W3))))
  (Zm (ZJ (i:=9) US.nd rfl (Or.inl rfl) (ZB (ZpN Tx) (hr.mono (by omega)) rfl Tx.ZnJ Tx.ZhC.kp Tx.ZnK .nil Zr (Zb (pv 0) (Zb (pv 1) (Zb (pv 6) (Zb (pv 5) Ze))))))
  (Zm (ZX (VJ (Za9 (pv 9)))
  (Zp Ze1)
  ZY)
  (Zp (ZX (Xd (Zcz hr.units0) (Vr (cl:=[(Str.ofString "_law_end",s.heap.objs.size+2),(Str.ofString "_law_begin",s.heap.objs.size+1)]) (N:=["_law_call","_law_begin","_law_end"]) (fr:=[none,some 2,some 3]) rfl (XT (Vp Zat (pv 9) Vn (Vo (Zb8 Zca Zc)))) rfl (by decide +kernel) rfl (by decide +kernel) ⟨⟨rfl,Or.inl rfl,Or.inl rfl,Za _ rfl rfl⟩,⟨⟨rfl,Or.inl rfl,Or.inl rfl,Za _ rfl rfl⟩,trivial⟩⟩ ⟨rfl,⟨rfl,trivial⟩⟩ rfl (fun _ _ _ _ _=>(ZU (i:=0) (show List.Nodup (["_law_call","_law_begin","_law_end"]:List Str) by decide +kernel) rfl (Or.inl rfl))) (fun _ _ _ _ _=>(ZfO (Zbe Wv Wv (pv 1) (Zw (show Y7 _ (XA K) from ZQ) (pv 0) Zc (fun _ _=>rfl)) (pv 2)))) (fun _ _ _ _ _=>(pv 0))) (Yj Ze) (YJ _))
  (Zp (Z0 (Vc PySem.F.plainAttrs_list PySem.F.slot_list_append PySem.F.type_list_append Vq (pv 4) (Zb (Yf (Zb (pv 6) (Zb (pv 5) (Zb (pv 9) Ze)))) Ze))))
  ZY)))))))
  (Zp (ZT (ZgV (k:=0) (N:=["_law_run"]) (x := "_law_run") (qual:=(("_law_runs" : Str) ++ ".<locals>.") ++ "<lambda>") (params:=(Um (ZD Vz) 2).1) (body:=(Um (ZD Vz) 2).2.1) (scope:=(Um (ZD Vz) 2).2.2.1) rfl Tx.Zej ZcE (hr.mono (by omega)) ⟨rfl,rfl,rfl,by decide +kernel,rfl,by decide +kernel,by decide +kernel⟩ (fun _ _ _ _=>rfl) (fun _ _ _ _ _ _ _=>(Yf (Zb (Zw (show Y7 _ (XA K) from ZQ) (Zw (show Y7 _ (Zcf K) from YA) (Zw (show Y7 _ (XA K) from ZQ) (pv 0) Zc (fun _ _=>rfl)) Zc (fun _ _=>rfl)) Zc (fun _ _=>rfl)) (Zb (Zw (show Y7 _ (XA K) from ZQ) (pv 0) Zc (fun _ _=>rfl)) (Zb (Zw (show Y7 _ (XA K) from ZQ) (pv 0) Zc (fun _ _=>rfl)) Ze))))) (Zb (pv 4) Ze) (Zfn (ZgA (hcv.symm.trans Tx.Zo4) hC_law_runs hBM rfl rfl) Zfm)))))) ?_
 refine ⟨by show 0≤sizeLine;decide,fun lf gf=>?_⟩
 have t2:=Zn gf (.lst [])
 have cf:=@Zh H lf (.lst [])
 have gf0:G lf=none:=sG.free gf
 generalize Zd H lf (.lst [])=H2 at t2 cf ⊢
 obtain ⟨fi,efi⟩:∃ fi:Nat,(if b / 1440 - 3 > 0 then b / 1440 - 3 else 0)=((fi:Nat):Int):=⟨(if b / 1440 - 3 > 0 then b / 1440 - 3 else 0).toNat,by split <;> omega⟩
 obtain ⟨la,ela⟩:∃ la:Nat,(if e / 1440+1 < 9999 then e / 1440+1 else 9999)=((la:Nat):Int):=⟨(if e / 1440+1 < 9999 then e / 1440+1 else 9999).toNat,by split <;> omega⟩
 obtain ⟨n9,en9⟩:∃ n9:Nat,n9=(((la:Nat):Int)+1 - ((fi:Nat):Int)).toNat:=⟨_,rfl⟩
 have hn9:n9≤9:=by split at efi <;> split at ela <;> omega
 have hlast:n9=0∨fi+n9≤10000:=by split at ela <;> omega
 have hwin:∀ d:Nat,b≤1440 * ((d:Nat):Int)+3179→1440 * ((d:Nat):Int)≤e→d < 10000→fi≤d∧d < fi+n9:=fun d h1 h2 h3=>by split at efi <;> split at ela <;> omega
 have hperm:=Ziq T kf (ZqI T.nd fi n9) (fun r=>Zin) hwin hlast
 refine Za _ rfl (Zo _ _ rfl rfl ⟨by decide,by decide⟩ (Zj _ _ rfl rfl (ZK _ _ rfl (Za _ rfl (Zo _ _ rfl rfl ⟨by decide,by decide⟩ (Zj _ _ rfl rfl (ZK _ _ rfl (Zj _ _ rfl rfl (Zj ((fi:Nat):Int) (((la:Nat):Int)+1) (by rw [← efi,← ela]) ⟨by omega,by omega,by omega,by omega⟩ (W9 (lo:=((fi:Nat):Int)) (fun j σ H'=>Zk H H'∧∃ (fv:List V) (v5 v6 v7 v8 v9:Option V),H' lf=some (.lst fv)∧Al (Yg G (wo H' lf)) fv (WN b e KF TS fi j)∧σ=[some (.ref d),some (.ref k),some (.int b),some (.int e),some (.ref lf),v5,v6,v7,v8,v9]) ⟨t2,[],none,none,none,none,none,cf,.nil,rfl⟩ ?_ ?_))))))))))
 ·rintro j σ H4 hj ⟨s4,fv,v5,v6,v7,v8,v9,cf4,al4,rfl⟩
  rw [← en9] at hj
  have hday:fi+j≤9999:=by omega
  have e0:((fi:Nat):Int)+((j:Nat):Int)=((fi+j:Nat):Int):=by omega
  rw [e0]
  have sG4:=sG.trans s4
  refine Za _ rfl (Zj d _ rfl (get sG4) (Zx lt rfl ⟨_,Zg.of (sG4 _ _ hlt)⟩ (W8 (K:=K) (a:=lt) (xs:=tvs) (fun i σ H'=>Zk H H'∧∃ (fv:List V) (v6 v7 v8 v9:Option V),H' lf=some (.lst fv)∧Al (Yg G (wo H' lf)) fv (WN b e KF TS fi j++(TS.take i).filterMap fun x=>Yr b e KF x (fi+j))∧σ=[some (.ref d),some (.ref k),some (.int b),some (.int e),some (.ref lf),some (.int ((fi+j:Nat):Int)),v6,v7,v8,v9]) ⟨s4,fv,v6,v7,v8,v9,cf4,by rw [List.take_zero,List.filterMap_nil,List.append_nil];exact al4,rfl⟩ (fun i σ H' _ ⟨s',_⟩=>Zg.of ((sG.trans s') _ _ hlt)) ?_ ?_)))
  ·rintro i v σ H5 hv ⟨s5,fv,v6,v7,v8,v9,cf5,al5,rfl⟩
   obtain ⟨x,ex,p,rv,lc,cvs,rfl,hp,hrv,hlc,alc⟩:=alt.get hv
   have hx:=List.mem_of_getElem? ex
   have hi:=(List.getElem?_eq_some_iff.mp ex).1
   have sG5:=sG.trans s5
   have nxt:∀ r,Yr b e KF x (fi+j)=r→(TS.take (i+1)).filterMap (fun x=>Yr b e KF x (fi+j))=(TS.take i).filterMap (fun x=>Yr b e KF x (fi+j))++r.toList:=fun r hr=>by
    rw [List.take_add_one,ex,List.filterMap_append]
    cases r with
    | none=>simp [hr]
    | some r=>simp [hr]
   have hlen:fv.length≤40:=by
    rw [al5.length,List.length_append]
    have h1:=Ziu (b:=b) (e:=e) (KF:=KF) (TS:=TS) fi j
    have h2:((TS.take i).filterMap fun x=>Yr b e KF x (fi+j)).length≤4:=Nat.le_trans (List.length_filterMap_le _ _) (by rw [List.length_take];have:=T.len;omega)
    have h5:j * TS.length≤9 * 4:=Nat.mul_le_mul (by omega) T.len
    omega
   refine Zo p _ rfl (Zu.of (sG5 _ _ hp)) rfl (ZK _ _ rfl (ZK _ _ rfl (Zj _ _ rfl rfl ?_)))
   have emm:=Zqu T.nd hx KF (fi+j)
   refine Za _ rfl (Za _ rfl (Za _ rfl (Za _ rfl ⟨d,k,x.nm,fi+j,TS,kvs,KF,rfl,hD.same sG5,T.ok,s5 _ _ hk,kp.same s5,fun y hy ls h1 h2=>by rw [← h2] at h1;exact (kf y hy _ ls h1).1,fun hm H6 s6=>?_,fun ms hm l mv H6 s6 gl6 hl6 alm=>?_⟩)))
   ·rw [emm] at hm
    have er:Yr b e KF x (fi+j)=none:=by unfold Yr;rw [hm]
    refine Za _ rfl (Za _ rfl (YS (by decide) ⟨s5.trans s6,fv,_,_,_,_,s6 _ _ cf5,?_,rfl⟩))
    rw [nxt none er]
    show Al _ fv (_++(_++[]))
    rw [List.append_nil]
    exact al5.imp fun _ _=>Yg.same (YG s6)
   ·rw [emm] at hm
    have l6:=Ziv (b:=b) (e:=e) T kf hx hm
    refine Za _ rfl (Za _ rfl (ZH (by rw [decide_eq_false (fun z=>(nomatch z))];decide) ?_))
    have lm:=alm.length
    refine Za _ rfl (Za _ rfl (Za _ rfl (Zj l _ rfl (Zg.of hl6) fun p7 g7=>?_)))
    rw [show X4 mv none (some (-1))=mv.take (mv.length - 1) from Zh6 mv,lm]
    have t7:=Zn g7 (.lst (mv.take (ms.length - 1)))
    have c7:=@Zh H6 p7 (.lst (mv.take (ms.length - 1)))
    have al1:=(alm.take (ms.length - 1)).imp fun _ _=>YI.same t7
    rw [← List.dropLast_eq_take] at al1
    have hl7:=t7 _ _ hl6
    have alm7:=alm.imp fun _ _=>YI.same t7
    generalize hmd:ms.dropLast=md at al1
    have lmd:md.length≤6:=by rw [← hmd,List.length_dropLast];omega
    have hw:WW b e ms=md.any fun m=>decide (b≤m.2.2) && decide (m.2.2≤e):=by unfold WW;rw [hmd]
    have lv:=al1.length
    generalize mv.take (ms.length - 1)=mv1 at t7 c7 al1 lv hl7 alm7 ⊢
    have S7:=s6.trans t7
    generalize Zd H6 p7 (.lst mv1)=H7 at t7 c7 al1 S7 hl7 alm7 ⊢
    refine Zx p7 rfl ⟨_,Zg.of c7⟩ (Qf (K:=K) (a:=p7) (xs:=mv1) (fun i acc σ H'=>H'=H7∧acc.isEmpty = !((md.take i).any fun m=>decide (b≤m.2.2) && decide (m.2.2≤e))∧∃ v,σ=[v,some (.int b),some (.int e)]) ⟨rfl,rfl,none,rfl⟩ (Nat.le_trans (show _≤6 by omega) (by decide)) (fun i acc σ H' _ ⟨z,_⟩=>by rw [z];exact Zg.of c7) ?_ ?_)
    ·rintro i v acc σ H8 ha hv ⟨rfl,hacc,vv,rfl⟩
     obtain ⟨m,em,pm,rfl,hpm⟩:=al1.get hv
     have nx:((md.take (i+1)).any fun m=>decide (b≤m.2.2) && decide (m.2.2≤e))=(((md.take i).any fun m=>decide (b≤m.2.2) && decide (m.2.2≤e)) || (decide (b≤m.2.2) && decide (m.2.2≤e))):=by
      rw [List.take_add_one,em,List.any_append]
      simp
     dsimp only [W2]
     refine Za _ rfl (Za _ rfl (Zz pm _ 2 _ rfl rfl (Zu.of hpm) rfl (Zj _ _ rfl rfl (Za _ rfl (XO (fun c1=>?_) (fun c1=>?_))))))
     ·refine Za _ rfl (Zj _ _ rfl rfl (Za _ rfl (XO (fun c2=>?_) (fun c2=>?_))))
      ·refine ⟨_,rfl,by rw [List.length_append,List.length_singleton];omega,rfl,?_,_,rfl⟩
       rw [nx,show decide (b≤m.2.2)=true from c1,show decide (m.2.2≤e)=true from c2]
       simp
      ·refine ⟨by omega,rfl,?_,_,rfl⟩
       rw [nx,show decide (m.2.2≤e)=false by simpa using c2,hacc]
       simp
     ·refine Za _ rfl (ZH (by simpa using c1) ⟨by omega,rfl,?_,_,rfl⟩)
      rw [nx,show decide (b≤m.2.2)=false by simpa using c1,hacc]
      simp
    ·rintro acc σ H8 _ ⟨rfl,hacc,v,rfl⟩ l8 gl8
     rw [List.take_of_length_le (by omega),← hw] at hacc
     have t8:=Zn gl8 (.lst acc)
     have c8:=@Zh H8 l8 (.lst acc)
     generalize Zd H8 l8 (.lst acc)=H9 at t8 c8 ⊢
     refine ⟨by show 0≤sizeLine;decide,fun p9 g9=>?_⟩
     have t9:=Zn g9 (.lst [])
     have S9:=(S7.trans t8).trans t9
     have hl9:=t9 _ _ (t8 _ _ hl7)
     have alm9:=alm7.imp fun _ _=>YI.same (t8.trans t9)
     have c9:=@Zh H9 p9 (.lst [])
     have c89:=t9 _ _ c8
     generalize Zd H9 p9 (.lst [])=H10 at S9 hl9 alm9 c9 c89 ⊢
     refine Yn l8 p9 acc rfl rfl (Zg.of c89) (Zg.of c9) (Za _ rfl ?_)
     have cf10:=S9 _ _ cf5
     have nlf:l≠lf:=fun z=>by rw [z,cf5] at gl6;cases gl6
     have al10:=al5.imp fun _ _=>Yg.same (YG (l:=lf) S9)
     have gl0:G l=none:=sG5.free gl6
     show (if (!acc.isEmpty)=true then _ else _)
     rw [hacc,Bool.not_not]
     cases hwv:WW b e ms with
     | false =>
      have er:Yr b e KF x (fi+j)=none:=by unfold Yr;rw [hm];exact if_neg (by rw [hwv];decide)
      refine ZH (by decide) ⟨s5.trans S9,fv,_,_,_,_,cf10,?_,rfl⟩
      rw [nxt none er]
      show Al _ fv (_++(_++[]))
      rw [List.append_nil]
      exact al10
     | true =>
      have er:Yr b e KF x (fi+j)=some ⟨x.nm,fi+j,ms⟩:=by unfold Yr;rw [hm];exact if_pos hwv
      refine YS rfl (Zx _ rfl (.inl ⟨rfl,_,Zg.of cf10⟩) (Za _ rfl (Za _ rfl (Zx _ rfl (by show 3≤sizeLine;decide) fun p11 g11=>?_))))
      have t11:=Zn g11 (.tup [.str x.nm,.int ((fi+j:Nat):Int),.ref l])
      have n11:p11≠lf:=fun z=>by rw [z,cf10] at g11;cases g11
      refine Yn lf _ _ rfl rfl (t11 _ _ cf10) (Nat.lt_of_le_of_lt hlen (by decide)) ?_
      refine ⟨Yb (s5.trans (S9.trans t11)) gf _,fv++[.ref p11],_,_,_,_,Zh,?_,rfl⟩
      rw [nxt _ er,Vw]
      show Al _ _ (_++(_++[_]))
      rw [← List.append_assoc]
      refine (al10.imp fun _ _=>Yg.same (YG (l:=lf) t11)).snoc (Yn p11 l mv rfl (Z4 Zh n11) (Z4 (t11 _ _ hl9) nlf) ?_ gl0)
      exact alm9.imp fun _ _ ⟨pm,epm,hpm⟩=>Za pm epm (Z4 (t11 _ _ hpm) fun z=>by rw [z,cf10] at hpm;cases hpm)
  ·rintro σ H5 ⟨s5,fv,v6,v7,v8,v9,cf5,al5,rfl⟩
   refine ⟨s5,fv,_,_,_,_,_,cf5,?_,rfl⟩
   have:WN b e KF TS fi (j+1)=WN b e KF TS fi j++TS.filterMap fun x=>Yr b e KF x (fi+j):=by
    unfold WN
    rw [List.range_succ,List.flatMap_append]
    show _++List.flatMap _ [j]=_
    rw [List.flatMap_singleton]
   rw [this]
   rw [List.take_of_length_le (by rw [ltv];exact Nat.le_refl _)] at al5
   exact al5
 ·rintro σ H4 ⟨s4,fv,v5,v6,v7,v8,v9,cf4,al4,rfl⟩
  rw [← en9] at al4
  replace al4:=al4.imp fun _ _=>Yg.same (Xr (l:=lf))
  refine Za _ rfl ?_
  dsimp only [YM,YV]
  have hT4:=hT.same s4
  refine ZgB (q:=Za6) (pos:=Za5) hT4 fun f c' ctv H5 s5 hT5 hf hc'=>?_
  obtain ⟨ps,eT⟩:=hT4.at
  have al5:=al4.imp fun _ _ h=>(Yg.tab eT h).same s5
  have cf5:=s5 _ _ (UO eT cf4 fun _ z=>(nomatch z))
  have lF:(WN b e KF TS fi n9).length < 64:=by
   have h1:=Ziu (b:=b) (e:=e) (KF:=KF) (TS:=TS) fi n9
   have h4:=T.len
   have h5:n9 * TS.length≤9 * 4:=Nat.mul_le_mul hn9 h4
   omega
  have memF:∀ (i:Nat) (r:Rn),(WN b e KF TS fi n9)[i]? = some r→∃ m ms,r.ms=m::ms:=fun i r hr=>by
   obtain ⟨x,_,j,_,h⟩:=Zin.mp (List.mem_of_getElem? hr)
   exact ZeN h
  generalize WN b e KF TS fi n9=F at hperm al5 al4 lF memF ⊢
  have lfv:=al5.length
  refine ⟨lf,f,c',_,ctv,fv,fun i=>WZ (F.getD i ⟨Str.empty,0,[]⟩),[Xt (.inl 0),Xt (.inr []),Xt (.inl 0)],rfl,rfl,Zg.of cf5,by omega,fun i _=>rfl,fun z=>(by cases z),hf,hc',fun i v ev H6 s6=>?_,fun is l H6 io s6 gl6 gl5=>?_⟩
  ·obtain ⟨r,er,hr1⟩:=al5.get ev
   obtain ⟨m0,ms0,em0⟩:=memF i r er
   obtain ⟨p,l,c,cs,vs,rfl,g1,g2,rfl,g3,e3⟩:=ZeO (K:=K) (hr1.same s6) em0
   refine Za _ rfl (Zz p _ 2 _ rfl rfl g1 rfl (Zz l _ 0 _ rfl rfl g2 (Xz (j:=0) rfl) (Zz c _ 2 _ rfl rfl g3 rfl (Za _ rfl (Zz p _ 0 _ rfl rfl g1 rfl (Za _ rfl (Z7 p _ 1 _ rfl rfl g1 rfl (by show 3≤sizeLine;decide) fun pt gt=>⟨Zn gt _,Zj pt _ rfl Zh ?_⟩)))))))
   have eg:F.getD i ⟨Str.empty,0,[]⟩=r:=by rw [List.getD_eq_getElem?_getD,er];rfl
   dsimp only
   rw [eg]
   unfold WZ
   rw [e3]
   exact .int _ (.str _ (.int _ .nil))
  ·have gl0:G l=none:=by
    have s45:Zk G H5:=(We (sG.trans s4) gl).trans s5
    exact s45.free gl5
   have hS:=Zis hperm (kf:=fun i=>WZ (F.getD i ⟨Str.empty,0,[]⟩)) (fun i r hr=>by rw [List.getD_eq_getElem?_getD,hr];rfl) (by rw [← lfv];exact io)
   have t7:=Zn gl6 (.lst (is.map fun i=>fv.getD i .non))
   have sw:Zk (wo H t.Xb) H6:=fun a o e=>s6 _ _ (s5 _ _ (by
    obtain ⟨na,e⟩:=XQ e
    exact Z4 (s4 _ _ e) na))
   refine q _ l _ _ hS (Yb (((We (sG.trans s4) gl).trans s5).trans s6) gl0 _) (sw.trans t7) gl0 ((hT5.same s6).same t7) Zh ?_
   rw [Vw]
   refine (ZeL (al5.imp fun _ _=>Yg.same (s6.trans (We (Zk.refl H6) gl6))) fun i hi=>?_)
   rw [← lfv]
   exact List.mem_range.mp (io.1.mem_iff.mp hi)
structure Ux where
 ss:List Z3
 ws:List Wl
 ks:List XI
 ts:List Zs
def Xl (H:Hp) (v:V) (k:XI):Prop:=∃ p z,v=.ref p∧H p=some (.tup [.str k.nm,.int (k.pr:Nat),.int (k.la:Nat),.ref z])∧H z=some (.lst (Xj k.zs))
theorem Xl.same {H H':Hp} {v:V} {k:XI} (s:Zk H H') (h:Xl H v k):Xl H' v k:=let ⟨p,z,e,h1,h2⟩:=h;(Zj p z e (s _ _ h1) (s _ _ h2))
structure DA where
 ls:Addr
 lw:Addr
 lk:Addr
 lt:Addr
structure Uy (H:Hp) (d:Addr) (a:DA) (D:Ux):Prop where
 ob:∃ kvs,H d=some (.dK kvs)∧ZA kvs (Sum.inr (Str.ofString "stops"))=some (.ref a.ls)∧ZA kvs (Sum.inr (Str.ofString "walks"))=some (.ref a.lw)∧ZA kvs (Sum.inr (Str.ofString "tickets"))=some (.ref a.lk)∧ZA kvs (Sum.inr (Str.ofString "trips"))=some (.ref a.lt)
 st:∃ vs,H a.ls=some (.lst vs)∧Al (Xv H) vs D.ss
 wk:∃ vs,H a.lw=some (.lst vs)∧Al (YC H) vs D.ws
 tk:∃ vs,H a.lk=some (.lst vs)∧Al (Xl H) vs D.ks
 tp:∃ vs,H a.lt=some (.lst vs)∧Al (XG H) vs D.ts
theorem Uy.same {H H':Hp} {d:Addr} {a:DA} {D:Ux} (s:Zk H H') (h:Uy H d a D):Uy H' d a D:=by
 obtain ⟨⟨kvs,h0,e1,e2,e3,e4⟩,⟨r1,a1,b1⟩,⟨r2,a2,b2⟩,⟨r3,a3,b3⟩,⟨r4,a4,b4⟩⟩:=h
 exact ⟨⟨kvs,s _ _ h0,e1,e2,e3,e4⟩,Za r1 (s _ _ a1) (b1.imp fun _ _=>Xv.same s),Za r2 (s _ _ a2) (b2.imp fun _ _=>YC.same s),Za r3 (s _ _ a3) (b3.imp fun _ _=>Xl.same s),(Za r4 (s _ _ a4) (b4.imp fun _ _=>XG.same s))⟩
theorem Uy.trips {H:Hp} {d:Addr} {a:DA} {D:Ux} (h:Uy H d a D):WX H d D.ts:=by
 obtain ⟨⟨kvs,h0,_,_,_,e4⟩,_,_,_,⟨vs,h1,h2⟩⟩:=h
 exact ZI kvs a.lt vs h0 e4 h1 h2
structure ZeR (H:Hp) (d:Addr) (a:DA) (D:Ux):Prop where
 ob:∃ kvs,wo H a.lt d=some (.dK kvs)∧ZA kvs (Sum.inr (Str.ofString "stops"))=some (.ref a.ls)∧ZA kvs (Sum.inr (Str.ofString "walks"))=some (.ref a.lw)∧ZA kvs (Sum.inr (Str.ofString "tickets"))=some (.ref a.lk)∧ZA kvs (Sum.inr (Str.ofString "trips"))=some (.ref a.lt)
 st:∃ vs,wo H a.lt a.ls=some (.lst vs)∧Al (Xv (wo H a.lt)) vs D.ss
 wk:∃ vs,wo H a.lt a.lw=some (.lst vs)∧Al (YC (wo H a.lt)) vs D.ws
 tk:∃ vs,wo H a.lt a.lk=some (.lst vs)∧Al (Xl (wo H a.lt)) vs D.ks
 tp:∃ vs,H a.lt=some (.lst vs)∧Al (XG (wo H a.lt)) vs D.ts
theorem ZeR.o {H:Hp} {d:Addr} {a:DA} {D:Ux} (h:ZeR H d a D):Uy H d a D:=by
 obtain ⟨⟨kvs,h0,e1,e2,e3,e4⟩,⟨r1,a1,b1⟩,⟨r2,a2,b2⟩,⟨r3,a3,b3⟩,⟨r4,a4,b4⟩⟩:=h
 have s:Zk (wo H a.lt) H:=Xr
 exact ⟨⟨kvs,s _ _ h0,e1,e2,e3,e4⟩,Za r1 (s _ _ a1) (b1.imp fun _ _=>Xv.same s),Za r2 (s _ _ a2) (b2.imp fun _ _=>YC.same s),Za r3 (s _ _ a3) (b3.imp fun _ _=>Xl.same s),(Za r4 a4 (b4.imp fun _ _=>XG.same s))⟩
structure Za7 (SS:List Z3):Prop where
 nd:(SS.map Z3.nm).Nodup
 ok:∀ s∈SS,Yw s.nm∧1≤s.z∧s.z≤6∧s.ch≤30
structure U3 (SS:List Z3) (WS:List Wl):Prop where
 ok:∀ w∈WS,∃ (i j:Nat) (s r:Z3),i < j∧SS[i]? = some s∧SS[j]? = some r∧w.o=s.nm∧w.t=r.nm
 m:∀ w∈WS,1≤w.m∧w.m≤60
 nd:∀ i w,WS[i]? = some w→Za0 (WS.take i) w.o w.t=false
structure Uz (KS:List XI):Prop where
 ok:∀ k∈KS,k.Ok
 nm:∀ i k,KS[i]? = some k→k.nm=tx [97+i]
structure W0 (SS:List Z3) (TS:List Zs):Prop where
 nm:∀ i x,TS[i]? = some x→x.nm=tx [116+i]
 ok:∀ x∈TS,x.r.Ok∧Vk (SS.map Z3.nm) x.cs∧2≤x.cs.length∧x.cs.length≤4
structure DOk (D:Ux):Prop where
 s3:3≤D.ss.length
 s5:D.ss.length≤5
 s:Za7 D.ss
 w4:D.ws.length≤3
 w:U3 D.ss D.ws
 k2:D.ks.length≤2
 k:Uz D.ks
 t2:2≤D.ts.length
 t4:D.ts.length≤4
 t:W0 D.ss D.ts
theorem ZqO {SS:List Z3} {WS:List Wl} (nd:(SS.map Z3.nm).Nodup) (h:U3 SS WS) {i j:Nat} {s r:Z3} (hij:i < j) (es:SS[i]? = some s) (er:SS[j]? = some r) (hn:∀ w∈WS,¬ (w.o=s.nm∧w.t=r.nm)):Za0 WS s.nm r.nm=false:=by
 unfold Za0
 rw [List.any_eq_false]
 intro w hw z
 rw [Bool.or_eq_true,Bool.and_eq_true,Bool.and_eq_true] at z
 rcases z with ⟨z1,z2⟩ | ⟨z1,z2⟩
 ·exact hn w hw ⟨(eq_of_beq z1).symm,(eq_of_beq z2).symm⟩
 ·obtain ⟨i',j',s',r',hlt,es',er',eo,et⟩:=h.ok w hw
  have e1:j=i':=Ub nd (x:=r.nm) (by rw [List.getElem?_map,er];rfl) (by rw [List.getElem?_map,es'];exact congrArg some (eo.symm.trans (eq_of_beq z1).symm))
  have e2:i=j':=Ub nd (x:=s.nm) (by rw [List.getElem?_map,es];rfl) (by rw [List.getElem?_map,er'];exact congrArg some (et.symm.trans (eq_of_beq z2).symm))
  omega
theorem U3.snoc {SS:List Z3} {WS:List Wl} (nd:(SS.map Z3.nm).Nodup) (h:U3 SS WS) {i j m:Nat} {s r:Z3} (hij:i < j) (es:SS[i]? = some s) (er:SS[j]? = some r) (hn:∀ w∈WS,¬ (w.o=s.nm∧w.t=r.nm)) (m1:1≤m) (m60:m≤60):U3 SS (WS++[⟨s.nm,r.nm,m⟩]):=by
 refine ⟨fun w hw=>?_,fun w hw=>?_,fun k w hk=>?_⟩
 ·rcases List.mem_append.mp hw with hw | hw
  ·exact h.ok w hw
  ·rw [List.mem_singleton.mp hw];exact Zz i j s r hij es er rfl rfl
 ·rcases List.mem_append.mp hw with hw | hw
  ·exact h.m w hw
  ·rw [List.mem_singleton.mp hw];exact ⟨m1,m60⟩
 ·by_cases hlt:k < WS.length
  ·rw [List.getElem?_append_left hlt] at hk
   rw [List.take_append_of_le_length (by omega)]
   exact h.nd k w hk
  ·have hk':=(List.getElem?_eq_some_iff.mp hk).1
   rw [List.length_append,List.length_singleton] at hk'
   have ek:k=WS.length:=by omega
   rw [ek,List.getElem?_append_right (Nat.le_refl _),Nat.sub_self] at hk
   obtain rfl:(⟨s.nm,r.nm,m⟩:Wl)=w:=Option.some.inj hk
   rw [ek,List.take_left]
   exact ZqO nd h hij es er hn
theorem Uz.snoc {KS:List XI} (h:Uz KS) {k:XI} (hk:k.Ok) (hn:k.nm=tx [97+KS.length]):Uz (KS++[k]):=by
 refine ⟨fun w hw=>?_,fun i w hw=>?_⟩
 ·rcases List.mem_append.mp hw with hw | hw
  ·exact h.ok w hw
  ·rw [List.mem_singleton.mp hw];exact hk
 ·by_cases hlt:i < KS.length
  ·rw [List.getElem?_append_left hlt] at hw;exact h.nm i w hw
  ·have hk':=(List.getElem?_eq_some_iff.mp hw).1
   rw [List.length_append,List.length_singleton] at hk'
   have ek:i=KS.length:=by omega
   rw [ek,List.getElem?_append_right (Nat.le_refl _),Nat.sub_self] at hw
   obtain rfl:k=w:=Option.some.inj hw
   rw [ek];exact hn
theorem W0.snoc {SS:List Z3} {TS:List Zs} (h:W0 SS TS) {x:Zs} (hx:x.r.Ok∧Vk (SS.map Z3.nm) x.cs∧2≤x.cs.length∧x.cs.length≤4) (hn:x.nm=tx [116+TS.length]):W0 SS (TS++[x]):=by
 refine ⟨fun i w hw=>?_,fun w hw=>?_⟩
 ·by_cases hlt:i < TS.length
  ·rw [List.getElem?_append_left hlt] at hw;exact h.nm i w hw
  ·have hk':=(List.getElem?_eq_some_iff.mp hw).1
   rw [List.length_append,List.length_singleton] at hk'
   have ek:i=TS.length:=by omega
   rw [ek,List.getElem?_append_right (Nat.le_refl _),Nat.sub_self] at hw
   obtain rfl:x=w:=Option.some.inj hw
   rw [ek];exact hn
 ·rcases List.mem_append.mp hw with hw | hw
  ·exact h.ok w hw
  ·rw [List.mem_singleton.mp hw];exact hx
theorem Zb1 {l:List Nat} (h1:1≤l.length) (h8:l.length≤8) (h:∀ c∈l,97≤c∧c≤122):Yw (tx l):=⟨by rw [Wi];exact h1,by rw [Wi];exact h8,by rw [UX];exact h,trivial⟩
theorem ZqP:∀ i:Nat,i < 4→Yu (Str.ofString "tuvw").cps.toList (i:Int)=some (116+i):=by decide +kernel
theorem ZqQ:∀ i:Nat,i < 2→Yu (Str.ofString "ab").cps.toList (i:Int)=some (97+i):=by decide +kernel
theorem Xi.pairs {H:Hp} {K:W.Frag}:∀ {acc:List V} {WS:List Wl},Al (fun v (w:Wl)=>∃ p,v=.ref p∧H p=some (.tup [.str w.o,.str w.t])) acc WS→(∀ w∈WS,Yw w.o∧Yw w.t)→Xi K H acc (WS.map fun w=>PyData.tuple [.str w.o,.str w.t])
 | _,_,.nil,_=>.nil
 | _,_,.cons ⟨p,e,h⟩ r,ok=>by
  subst e
  have:=ok _ List.mem_cons_self
  exact .cons (.tup (Zu.of h) (.cons (.str _ (WY this.1)) (.cons (.str _ (WY this.2)) .nil))) (Xi.pairs r fun w hw=>ok w (List.mem_cons_of_mem _ hw))
theorem kv4 (v1 v2 v3 v4:V):ZA (WD [] [(Sum.inr (Str.ofString "stops"),v1),(Sum.inr (Str.ofString "walks"),v2),(Sum.inr (Str.ofString "tickets"),v3),(Sum.inr (Str.ofString "trips"),v4)]) (Sum.inr (Str.ofString "stops"))=some v1 ∧
  ZA (WD [] [(Sum.inr (Str.ofString "stops"),v1),(Sum.inr (Str.ofString "walks"),v2),(Sum.inr (Str.ofString "tickets"),v3),(Sum.inr (Str.ofString "trips"),v4)]) (Sum.inr (Str.ofString "walks"))=some v2 ∧
  ZA (WD [] [(Sum.inr (Str.ofString "stops"),v1),(Sum.inr (Str.ofString "walks"),v2),(Sum.inr (Str.ofString "tickets"),v3),(Sum.inr (Str.ofString "trips"),v4)]) (Sum.inr (Str.ofString "tickets"))=some v3 ∧
  ZA (WD [] [(Sum.inr (Str.ofString "stops"),v1),(Sum.inr (Str.ofString "walks"),v2),(Sum.inr (Str.ofString "tickets"),v3),(Sum.inr (Str.ofString "trips"),v4)]) (Sum.inr (Str.ofString "trips"))=some v4:=by
 have ne:∀ {a b:Str},a≠b→(Sum.inr a:Zt)≠Sum.inr b:=fun h z=>h (Sum.inr.inj z)
 simp only [WD,List.foldl_cons,List.foldl_nil]
 refine ⟨?_,?_,?_,?_⟩
 ·rw [WC,if_neg (ne (by decide +kernel)),WC,if_neg (ne (by decide +kernel)),WC,if_neg (ne (by decide +kernel)),WC,if_pos rfl]
 ·rw [WC,if_neg (ne (by decide +kernel)),WC,if_neg (ne (by decide +kernel)),WC,if_pos rfl]
 ·rw [WC,if_neg (ne (by decide +kernel)),WC,if_pos rfl]
 ·rw [WC,if_pos rfl]
def ZqR (K:W.Frag):Sp:=fun vs H Q _=>∃ (a:Addr) (ns:List Int) (f:Nat),vs=[.ref a,.int (f:Nat)]∧Zg K H a (ns.map V.int)∧f≤100 ∧
 ∀ d (da:DA) D H',Zk H H'→H da.lt=none→ZeR H' d da D→DOk D→Q (.ref d) H'
theorem ZqS (Tx:ZO K mg t):ZF P w K mg base ZE 4 t.Zdh t.Zdi ["_law_script","_law_first"] (ZqR K):=by
 refine Tx.Zhw.ok XC (fun vs H Q E h=>?_) (fun cdv A outer s H vs Q E hr h=>?_)
 ·obtain ⟨a,ns,f,rfl,_⟩:=h
  rfl
 obtain ⟨a,ns,f,rfl,hS,hf,q⟩:=h
 refine Za _ (Zm (ZJ (i:=2) XC.nd rfl (Or.inl rfl) (ZB (WK Tx) (hr.mono (by omega)) rfl Tx.WI Tx.Wr.kp Tx.WJ .nil Zr (Zb (pv 0) (Zb (pv 1) Ze))))
  (Zm (ZJ (i:=3) XC.nd rfl (Or.inl rfl) (ZB (Zpn Tx) (hr.mono (by omega)) rfl Tx.Znv Tx.Zht.kp Tx.Znw .nil Zr (Zb (pv 2) (Zb Zc Ze))))
  (Zm (ZJ (i:=4) XC.nd rfl (Or.inl rfl) (Yj Ze))
  (Vt (YU PassesOwn.never rfl (VN rfl Tx.WU (Zb (Zi ZZ Zc (Zi ZP (Zi Yl (pv 2) Zc) Zc)) Ze)) (ZU (i:=5) XC.nd rfl (Or.inl rfl))
  (Zm (ZJ (i:=6) XC.nd rfl (Or.inl rfl) (ZB (VD Tx) (hr.mono (by omega)) rfl Tx.VB Tx.Vj.kp Tx.VC .nil Zr (Zb (pv 2) (Zb (Zi ZZ Zc (pv 5)) Ze))))
  (Zp (Z0 (Vc PySem.F.plainAttrs_list PySem.F.slot_list_append PySem.F.type_list_append Vq (pv 4) (Zb (Yf (Zb (Zw YA (pv 3) (pv 5) (fun _ _=>rfl)) (Zb (Zw YA (Yj (Zb Zc (Zb Zc (Zb Zc (Zb Zc Ze))))) (Zi ZP (pv 6) Zc) (fun _ _=>rfl)) (Zb (Zw YA (Yj (Zb Zc (Zb Zc (Zb Zc (Zb Zc Ze))))) (Zi ZP (Zi Yl (pv 6) Zc) Zc) (fun _ _=>rfl)) Ze)))) Ze))))))
  (Zm (ZJ (i:=7) XC.nd rfl (Or.inl rfl) (Yj Ze))
  (Vt (YU PassesOwn.never rfl (VN rfl Tx.WU (Zb (Zi ZP (ZB (WK Tx) (hr.mono (by omega)) rfl Tx.WI Tx.Wr.kp Tx.WJ .nil Zr (Zb (pv 0) (Zb (Zi ZZ (pv 1) Zc) Ze))) Zc) Ze)) (ZU (i:=5) XC.nd rfl (Or.inl rfl))
  (Zm (ZJ (i:=6) XC.nd rfl (Or.inl rfl) (ZB (VD Tx) (hr.mono (by omega)) rfl Tx.VB Tx.Vj.kp Tx.VC .nil Zr (Zb (ZB (WK Tx) (hr.mono (by omega)) rfl Tx.WI Tx.Wr.kp Tx.WJ .nil Zr (Zb (pv 0) (Zb (Zi ZZ (pv 1) Zc) Ze))) (Zb (pv 5) Ze))))
  (Zm (ZJ (i:=8) XC.nd rfl (Or.inl rfl) (Zi ZP (pv 6) (ZV Xh rfl Tx.YZ YX (Zb (pv 4) Ze))))
  (Zm (ZJ (i:=9) XC.nd rfl (Or.inl rfl) (Zi ZP (Zi ZZ (Zi ZZ (pv 8) Zc) (Zi ZP (Zi Yl (pv 6) Zc) (Zi XL (ZV Xh rfl Tx.YZ YX (Zb (pv 4) Ze)) Zc))) (ZV Xh rfl Tx.YZ YX (Zb (pv 4) Ze))))
  (Zm (ZJ (i:=10) XC.nd rfl (Or.inl rfl) (Yf (Zb (Zw ZQ (Zw YA (pv 4) (ZV (Zar rfl) rfl Tx.ZaL ZaG (Zb (pv 8) (Zb (pv 9) Ze))) (fun _ _=>rfl)) Zc (fun _ _=>rfl)) (Zb (Zw ZQ (Zw YA (pv 4) (ZV (Zaq rfl) rfl Tx.ZaK ZaF (Zb (pv 8) (Zb (pv 9) Ze))) (fun _ _=>rfl)) Zc (fun _ _=>rfl)) Ze))))
  (Zp (ZX (Xd (ZlK hr.units) (pv 10) (Vr (cl:=[]) (N:=["_law_walk"]) (fr:=[none]) rfl (XT (pv 7)) rfl (by decide +kernel) rfl (by decide +kernel) trivial trivial rfl (fun _ _ _ _ _=>(ZU (i:=0) (show List.Nodup (["_law_walk"]:List Str) by decide +kernel) rfl (Or.inl rfl))) (fun _ _ _ _ _=>Ug) (fun _ _ _ _ _=>(Vp (show SlR _ (Zfx K) from Zfy) (pv 0) Vn (Vo Zc)))) rfl)
  (Zp (Z0 (Vc PySem.F.plainAttrs_list PySem.F.slot_list_append PySem.F.type_list_append Vq (pv 7) (Zb (Zi ZjY (pv 10) (Yf (Zb (Zi ZZ Zc (Zi ZP (Zi Yl (pv 6) Zc) Zc)) Ze))) Ze))))
  ZY)))))))
  (Zm (ZJ (i:=11) XC.nd rfl (Or.inl rfl) (Yj Ze))
  (Vt (YU PassesOwn.never rfl (VN rfl Tx.WU (Zb (Zi ZZ Zc (Zi ZP (ZB (WK Tx) (hr.mono (by omega)) rfl Tx.WI Tx.Wr.kp Tx.WJ .nil Zr (Zb (pv 0) (Zb (Zi ZZ (pv 1) Zc) Ze))) Zc)) Ze)) (ZU (i:=5) XC.nd rfl (Or.inl rfl))
  (Zm (ZJ (i:=6) XC.nd rfl (Or.inl rfl) (ZB (VD Tx) (hr.mono (by omega)) rfl Tx.VB Tx.Vj.kp Tx.VC .nil Zr (Zb (ZB (WK Tx) (hr.mono (by omega)) rfl Tx.WI Tx.Wr.kp Tx.WJ .nil Zr (Zb (pv 0) (Zb (Zi ZZ (pv 1) Zc) Ze))) (Zb (pv 5) Ze))))
  (Zm (ZJ (i:=12) XC.nd rfl (Or.inl rfl) (Zw YA (Yj (Zb (Yj (Zb Zc (Zb Zc (Zb Zc Ze)))) (Zb (Yj (Zb Zc (Zb Zc (Zb Zc Ze)))) (Zb (Yj (Zb Zc Ze)) (Zb (Yj (Zb Zc (Zb Zc Ze))) (Zb (Yj (Zb Zc (Zb Zc Ze))) (Zb (Yj (Zb Zc (Zb Zc Ze))) Ze))))))) (Zi ZP (pv 6) Zc) (fun _ _=>rfl)))
  (Zp (Z0 (Vc PySem.F.plainAttrs_list PySem.F.slot_list_append PySem.F.type_list_append Vq (pv 11) (Zb (Yf (Zb (Zw UI Yk (pv 5) (fun _ _=>rfl)) (Zb (Zi ZP (Zi Yl (pv 6) Zc) Zc) (Zb (Zw YA (Yj (Zb Zc (Zb Zc (Zb Zc (Zb Zc (Zb Zc Ze)))))) (Zi ZP (Zi Yl (pv 6) Zc) Zc) (fun _ _=>rfl)) (Zb (pv 12) Ze))))) Ze)))))))
  (Zm (ZJ (i:=13) XC.nd rfl (Or.inl rfl) (Yj Ze))
  (Zm (YU PassesOwn.never rfl (VN rfl Tx.WU (Zb (Zi ZZ Zc (Zi ZP (ZB (WK Tx) (hr.mono (by omega)) rfl Tx.WI Tx.Wr.kp Tx.WJ .nil Zr (Zb (pv 0) (Zb (Zi ZZ (pv 1) Zc) Ze))) Zc)) Ze)) (ZU (i:=5) XC.nd rfl (Or.inl rfl))
  (Zm (ZJ (i:=6) XC.nd rfl (Or.inl rfl) (Zi ZZ (ZB (VD Tx) (hr.mono (by omega)) rfl Tx.VB Tx.Vj.kp Tx.VC .nil Zr (Zb (ZB (WK Tx) (hr.mono (by omega)) rfl Tx.WI Tx.Wr.kp Tx.WJ .nil Zr (Zb (pv 0) (Zb (Zi ZZ (pv 1) Zc) Ze))) (Zb (pv 5) Ze))) (Zi ZP (ZB (WK Tx) (hr.mono (by omega)) rfl Tx.WI Tx.Wr.kp Tx.WJ .nil Zr (Zb (pv 0) (Zb (Zi ZZ (Zi ZZ (pv 1) Zc) (pv 5)) Ze))) Zc)))
  (Zp (Z0 (Vc PySem.F.plainAttrs_list PySem.F.slot_list_append PySem.F.type_list_append Vq (pv 13) (Zb (Yf (Zb (Zw UI Yk (pv 5) (fun _ _=>rfl)) (Zb (ZB (Zpp Tx) (hr.mono (by omega)) rfl Tx.Znz Tx.Zhv.kp Tx.ZnA .nil Zr (Zb (Zi Yl (pv 6) Zc) Ze)) (Zb (ZB (Zpr Tx) (hr.mono (by omega)) rfl Tx.Znx Tx.Zhu.kp Tx.Zny .nil Zr (Zb (pv 6) (Zb (pv 4) Ze))) Ze)))) Ze))))))
  (Zp (ZT (ZlB (Zbs Yk (pv 4) (Zbs Yk (pv 7) (Zbs Yk (pv 11) (Zbs Yk (pv 13) Zlz)))) rfl rfl (fun h=>nomatch h) (by decide)))))))))))))) ?_
 refine Za _ rfl (Za _ rfl (ZI a ns f rfl hS (by omega) ?_))
 generalize Wk ns f=c
 refine Za _ rfl (Zj c 5 rfl (by decide) fun ln H1 s1 gn hn=>?_)
 refine ⟨by show 0≤sizeLine;decide,fun ls gs=>?_⟩
 have fs:=s1.free gs
 have u2:=Zn gs (.lst [])
 have c2:=@Zh H1 ls (.lst [])
 have hn2:=u2 _ _ hn
 generalize Zd H1 ls (.lst [])=H2 at u2 c2 hn2 ⊢
 have S2:=s1.trans u2
 have nls:ln≠ls:=Yp hn gs
 generalize hm:3+c / 64 % 3=m
 have m3:3≤m:=by omega
 have m5:m≤5:=by omega
 have l4:∀ {v:V} {xs:List Nat} {hi:Nat},v∈xs.map (fun n=>V.int (n:Nat))→(∀ x∈xs,x≤hi)→∃ b:Nat,v=.int (b:Nat)∧b∈xs:=fun hv _=>by
  obtain ⟨b,hb,rfl⟩:=List.mem_map.mp hv
  exact Za b rfl hb
 refine Za (fun σ H'=>∃ (vs:List V) (SS:List Z3) (v5 v6:Option V),Zk H1 H'∧H' ls=some (.lst vs)∧Al (Xv (wo H' ls)) vs SS∧SS.map Z3.nm=(WV c 5).take (3+((c:Nat):Int) / 64 % 3).toNat∧(∀ s∈SS,1≤s.z∧s.z≤6∧s.ch≤30)∧σ=[some (.ref a),some (.int (f:Nat)),some (.int (c:Nat)),some (.ref ln),some (.ref ls),v5,v6,none,none,none,none,none,none,none]) ?_ ?_
 ·refine Za _ rfl (Zo _ _ rfl rfl ⟨by decide,by decide⟩ (Zo _ _ rfl rfl (by show (0:Int) < 3;decide) (Zj _ _ rfl rfl (V3 _ rfl (by omega) (by omega) (W9 (fun i σ H'=>∃ (vs:List V) (SS:List Z3) (v5 v6:Option V),Zk H1 H'∧H' ls=some (.lst vs)∧Al (Xv (wo H' ls)) vs SS∧SS.map Z3.nm=(WV c 5).take i∧(∀ s∈SS,1≤s.z∧s.z≤6∧s.ch≤30)∧σ=[some (.ref a),some (.int (f:Nat)),some (.int (c:Nat)),some (.ref ln),some (.ref ls),v5,v6,none,none,none,none,none,none,none]) (Z7 [] [] none none u2 c2 .nil rfl (fun s hs=>(nomatch hs)) rfl) ?_ ?_)))))
  ·rintro i σ H3 hi ⟨vs,SS,v5,v6,s3,hs3,al3,en,ok3,rfl⟩
   have hi5:i < 5:=by omega
   have lSS:SS.length≤i:=by
    have:=congrArg List.length en
    rw [List.length_map,List.length_take] at this
    omega
   refine Za _ rfl (Za _ rfl (Zj _ _ rfl rfl (Zo _ _ rfl (by omega) (by omega) ?_)))
   generalize Wj ((c:Nat):Int) (20+(0+((i:Nat):Int)))=g
   have hl5:(WV c 5).length=5:=Zh3 (by decide)
   obtain ⟨z,ez⟩:∃ z,(WV c 5)[i]? = some z:=⟨_,List.getElem?_eq_getElem (by omega)⟩
   have eat:Yu ((WV c 5).map V.str) (0+((i:Nat):Int))=some (.str z):=by
    rw [Int.zero_add]
    exact Xz (by rw [List.getElem?_map,ez];rfl)
   refine Zx _ rfl (.inl ⟨rfl,_,Zg.of hs3⟩) (Za _ rfl (Za _ rfl (Z7 ln _ _ _ rfl rfl (Zg.of (s3 _ _ hn)) eat (by show 4≤sizeLine;decide) fun p4 g4=>?_)))
   have t4:=Zn g4 (.lst [.int 1,.int 1,.int 2,.int 3])
   have c4:=@Zh H3 p4 (.lst [.int 1,.int 1,.int 2,.int 3])
   have S4:=s3.trans t4
   have hs4:=t4 _ _ hs3
   have al4:=al3.imp fun _ _=>Xv.same (YG (l:=ls) t4)
   generalize Zd H3 p4 (.lst [.int 1,.int 1,.int 2,.int 3])=H4 at c4 S4 hs4 al4 ⊢
   obtain ⟨vz,evz,zz,rfl,hz1,hz6⟩:=Vs (p:=fun v=>∃ b:Nat,v=.int (b:Nat)∧1≤b∧b≤6) (xs:=[.int 1,.int 1,.int 2,.int 3]) (d:=((g:Nat):Int) % 4) (fun v hv=>by
    simp only [List.mem_cons,List.not_mem_nil,or_false] at hv
    rcases hv with rfl | rfl | rfl | rfl
    ·exact Zx 1 rfl (by decide) (by decide)
    ·exact Zx 1 rfl (by decide) (by decide)
    ·exact Zx 2 rfl (by decide) (by decide)
    ·exact Zx 3 rfl (by decide) (by decide)) (by omega) (by show ((g:Nat):Int) % 4 < 4;omega)
   refine Za _ rfl (Zo _ _ rfl rfl (by show (0:Int) < 4;decide) (Z7 p4 _ _ _ rfl rfl (Zg.of c4) evz (by show 4≤sizeLine;decide) fun p5 g5=>?_))
   have t5:=Zn g5 (.lst [.int 0,.int 2,.int 5,.int 30])
   have c5:=@Zh H4 p5 (.lst [.int 0,.int 2,.int 5,.int 30])
   have S5:=S4.trans t5
   have hs5:=t5 _ _ hs4
   have al5:=al4.imp fun _ _=>Xv.same (YG (l:=ls) t5)
   generalize Zd H4 p5 (.lst [.int 0,.int 2,.int 5,.int 30])=H5 at c5 S5 hs5 al5 ⊢
   obtain ⟨vc,evc,ch,rfl,hch⟩:=Vs (p:=fun v=>∃ b:Nat,v=.int (b:Nat)∧b≤30) (xs:=[.int 0,.int 2,.int 5,.int 30]) (d:=((g:Nat):Int) / 4 % 4) (fun v hv=>by
    simp only [List.mem_cons,List.not_mem_nil,or_false] at hv
    rcases hv with rfl | rfl | rfl | rfl
    ·exact Za 0 rfl (by decide)
    ·exact Za 2 rfl (by decide)
    ·exact Za 5 rfl (by decide)
    ·exact Za 30 rfl (by decide)) (by omega) (by show ((g:Nat):Int) / 4 % 4 < 4;omega)
   refine Za _ rfl (Zo _ _ rfl rfl ⟨by decide,by decide⟩ (Zo _ _ rfl rfl (by show (0:Int) < 4;decide) (Z7 p5 _ _ _ rfl rfl (Zg.of c5) evc (by show 3≤sizeLine;decide) fun p6 g6=>?_)))
   have t6:=Zn g6 (.tup [.str z,.int (zz:Nat),.int (ch:Nat)])
   have n6:p6≠ls:=fun e=>by rw [e,hs5] at g6;cases g6
   refine Yn ls _ _ rfl rfl (t6 _ _ hs5) (Nat.lt_of_le_of_lt (show vs.length≤5 by rw [al3.length];omega) (by decide)) ?_
   refine Z7 (vs++[.ref p6]) (SS++[⟨z,zz,ch⟩]) _ _ (Yb (S5.trans t6) gs _) Zh ?_ ?_ (fun s' hs'=>?_) rfl
   ·rw [Vw]
    exact (al5.imp fun _ _=>Xv.same (YG (l:=ls) t6)).snoc (Za p6 rfl (Z4 Zh n6))
   ·rw [List.map_append,en,List.take_add_one,ez];rfl
   ·rcases List.mem_append.mp hs' with hs' | hs'
    ·exact ok3 s' hs'
    ·rw [List.mem_singleton.mp hs'];exact ⟨hz1,hz6,hch⟩
  ·exact fun σ H h=>h
 rintro σ H3 ⟨vs1,SS,v5,v6,s3,hs3,al3,en,ok3,rfl⟩
 replace al3:Al (Xv H3) vs1 SS:=al3.imp fun _ _=>Xv.same Xr
 have lSS:SS.length=m:=by
  have:=congrArg List.length en
  rw [List.length_map,List.length_take,Zh3 (by decide)] at this
  omega
 have okS:Za7 SS:=⟨by rw [en];exact (Zpl c 5).sublist (List.take_sublist _ _),fun s hs=>⟨Zpk c 5 s.nm (List.mem_of_mem_take (by rw [← en];exact List.mem_map.mpr (Za s hs rfl))),ok3 s hs⟩⟩
 clear en ok3
 replace s3:=s1.trans s3
 have f0:∀ j:Nat,(((f:Nat):Int)+((j:Nat):Int))=((f+j:Nat):Int):=fun j=>by omega
 -- walks
 refine ⟨by show 0≤sizeLine;decide,fun lw gw=>?_⟩
 have t4:=Zn gw (.lst [])
 have c4:=@Zh H3 lw (.lst [])
 have fw:=s3.free gw
 generalize Zd H3 lw (.lst [])=H4 at t4 c4 ⊢
 have S4:=s3.trans t4
 refine Za (fun σ H'=>∃ (vs:List V) (WS:List Wl) (v5 v6 v8 v9 v10:Option V),Zk H3 H'∧H' lw=some (.lst vs)∧Al (YC (wo H' lw)) vs WS∧WS.length≤(((Wk ns (f+1):Nat):Int) % 4).toNat∧U3 SS WS∧σ=[some (.ref a),some (.int (f:Nat)),some (.int (c:Nat)),some (.ref ln),some (.ref ls),v5,v6,some (.ref lw),v8,v9,v10,none,none,none]) ?_ ?_
 ·refine Za _ rfl (Za _ rfl (Zj _ _ rfl rfl (ZI a ns (f+1) rfl (S4.seq hS) (by omega) (Zo _ _ rfl rfl (by show (0:Int) < 4;decide) (V3 _ rfl (by omega) (by omega) ?_)))))
  refine W9 (fun i σ H'=>∃ (vs:List V) (WS:List Wl) (v5 v6 v8 v9 v10:Option V),Zk H3 H'∧H' lw=some (.lst vs)∧Al (YC (wo H' lw)) vs WS∧WS.length≤i∧U3 SS WS∧σ=[some (.ref a),some (.int (f:Nat)),some (.int (c:Nat)),some (.ref ln),some (.ref ls),v5,v6,some (.ref lw),v8,v9,v10,none,none,none]) ⟨[],[],_,_,none,none,none,t4,c4,.nil,Nat.le_refl _,⟨fun w hw=>(nomatch hw),fun w hw=>(nomatch hw),fun i w hw=>(nomatch hw)⟩,rfl⟩ ?_ ?_
  ·rintro i σ H5 hi ⟨vs,WS,v5,v6,v8,v9,v10,s5,hw5,al5,lW,okW,rfl⟩
   have hi4:i < 4:=by omega
   have S5:=s3.trans s5
   have hs5:=s5 _ _ hs3
   have lv1:=al3.length
   refine Za _ rfl (Za _ rfl (Zj _ _ rfl rfl (ZI a ns (f+1) rfl (S5.seq hS) (by omega) (Za _ rfl (Zo _ _ rfl (by omega) (by omega) ?_)))))
   generalize Wj _ _=g
   refine Za _ rfl (Za _ rfl (Zj ls _ rfl (.inl (Zg.of hs5)) (Zo _ _ rfl rfl (by show (0:Int) < ((vs1.length:Nat):Int);omega) ?_)))
   have eo:((g:Nat):Int) % ((vs1.length:Nat):Int)=((g % SS.length:Nat):Int):=by rw [lv1];rfl
   dsimp only
   rw [eo]
   have ho:g % SS.length < SS.length:=Nat.mod_lt _ (by omega)
   generalize g % SS.length=o1 at ho ⊢
   refine Za _ rfl (Zj _ _ rfl rfl (Za _ rfl (Zo _ _ rfl rfl ⟨by decide,by decide⟩ (Za _ rfl (Zj ls _ rfl (.inl (Zg.of hs5)) (Zj _ _ rfl rfl (Zo _ _ rfl rfl (by show (0:Int) < ((vs1.length:Nat):Int) - 1;omega) (Zj _ _ rfl rfl (Za _ rfl (Zj ls _ rfl (.inl (Zg.of hs5)) (Zo _ _ rfl rfl (by show (0:Int) < ((vs1.length:Nat):Int);omega) ?_)))))))))))
   have e1:((g:Nat):Int) / 8 % (((vs1.length:Nat):Int) - 1)=((g / 8 % (SS.length - 1):Nat):Int):=by
    rw [lv1,Int.natCast_emod,Int.natCast_ediv,show ((SS.length - 1:Nat):Int)=((SS.length:Nat):Int) - 1 by omega];rfl
   have hy:g / 8 % (SS.length - 1) < SS.length - 1:=Nat.mod_lt _ (by omega)
   dsimp only
   rw [e1]
   generalize g / 8 % (SS.length - 1)=y at hy ⊢
   have e2:(((o1:Nat):Int)+1+((y:Nat):Int)) % ((vs1.length:Nat):Int)=(((o1+1+y) % SS.length:Nat):Int):=by rw [lv1,Int.natCast_emod];rfl
   rw [e2]
   have ho2:(o1+1+y) % SS.length < SS.length:=Nat.mod_lt _ (by omega)
   have hne:(o1+1+y) % SS.length≠o1:=by
    by_cases hlt:o1+1+y < SS.length
    ·rw [Nat.mod_eq_of_lt hlt];omega
    ·rw [Nat.mod_eq_sub_mod (by omega),Nat.mod_eq_of_lt (by omega)];omega
   generalize (o1+1+y) % SS.length=o2 at ho2 hne ⊢
   obtain ⟨i1,i2,h12,hl2,ei1,ei2⟩:∃ i1 i2:Nat,i1 < i2∧i2 < SS.length∧(if ((o2:Nat):Int) < ((o1:Nat):Int) then ((o2:Nat):Int) else ((o1:Nat):Int))=((i1:Nat):Int)∧(if ((o2:Nat):Int) > ((o1:Nat):Int) then ((o2:Nat):Int) else ((o1:Nat):Int))=((i2:Nat):Int):=by
    by_cases h:o2 < o1
    ·exact Zo o2 o1 h ho (if_pos (by omega)) (if_neg (by omega))
    ·exact Zo o1 o2 (by omega) ho2 (if_neg (by omega)) (if_pos (by omega))
   obtain ⟨sa,esa,pa1,epa,hpa⟩:=al3.get (List.getElem?_eq_getElem (show i1 < vs1.length by omega))
   obtain ⟨sb,esb,pb1,epb,hpb⟩:=al3.get (List.getElem?_eq_getElem (show i2 < vs1.length by omega))
   have eat1:Yu vs1 ((i1:Nat):Int)=some (.ref pa1):=by rw [← epa];exact Xz (List.getElem?_eq_getElem (by omega))
   have eat2:Yu vs1 ((i2:Nat):Int)=some (.ref pb1):=by rw [← epb];exact Xz (List.getElem?_eq_getElem (by omega))
   rw [← ei1] at eat1
   rw [← ei2] at eat2
   refine Za _ rfl (Za _ rfl (Za _ rfl (ZK _ _ rfl (Zz ls _ _ _ rfl rfl (Zg.of hs5) eat1 (Zz pa1 _ 0 _ rfl rfl (Zu.of (s5 _ _ hpa)) rfl (Za _ rfl (Za _ rfl (Za _ rfl (ZK _ _ rfl (Zz ls _ _ _ rfl rfl (Zg.of hs5) eat2 (Z7 pb1 _ 0 _ rfl rfl (Zu.of (s5 _ _ hpb)) rfl (by show 2≤sizeLine;decide) fun pp gp=>?_)))))))))))
   have t6:=Zn gp (.tup [.str sa.nm,.str sb.nm])
   have c6:=@Zh H5 pp (.tup [.str sa.nm,.str sb.nm])
   have s6:=s5.trans t6
   have hw6:=t6 _ _ hw5
   have al6:=al5.imp fun _ _=>YC.same (YG (l:=lw) t6)
   generalize Zd H5 pp (.tup [.str sa.nm,.str sb.nm])=H6 at c6 s6 hw6 al6 ⊢
   have okn1:=(okS.ok sa (List.mem_of_getElem? esa)).1
   have okn2:=(okS.ok sb (List.mem_of_getElem? esb)).1
   have nmw:∀ w∈WS,Yw w.o∧Yw w.t:=fun w hw=>by
    obtain ⟨_,_,s',r',_,es',er',eo,et⟩:=okW.ok w hw
    rw [eo,et]
    exact ⟨(okS.ok s' (List.mem_of_getElem? es')).1,(okS.ok r' (List.mem_of_getElem? er')).1⟩
   have lvw:=al6.length
   refine Za _ rfl (Za _ rfl (Zx lw rfl ⟨_,Zg.of hw6⟩ (Qf (K:=K) (a:=lw) (xs:=vs) (fun i acc σ H'=>Zk H6 H'∧Al (fun v (w:Wl)=>∃ p,v=.ref p∧H' p=some (.tup [.str w.o,.str w.t])) acc (WS.take i)∧∃ v,σ=[v]) ⟨Zk.refl H6,.nil,none,rfl⟩ (Nat.le_trans (show _≤6 by omega) (by decide)) (fun i acc σ H' _ ⟨z,_⟩=>Zg.of (z _ _ hw6)) ?_ ?_)))
   ·rintro i' v acc σ H7 ha hv ⟨s7,al7,vv,rfl⟩
    obtain ⟨w',ew,pw,rfl,hpw⟩:=al6.get hv
    have hpw7:=s7 _ _ (Xr _ _ hpw)
    dsimp only [W2,VT]
    rw [if_pos rfl]
    refine Za _ rfl (Za _ rfl (Zo pw _ rfl (Zu.of hpw7) (fun h=>absurd h.2 (by show ¬ HT.sIx 3 3 (some 2)=3;decide)) fun p8 g8=>?_))
    have t8:=Zn g8 (.tup [.str w'.o,.str w'.t])
    refine ⟨by rw [List.length_append,List.length_singleton];omega,s7.trans t8,?_,_,rfl⟩
    rw [List.take_add_one,ew]
    exact (al7.imp fun _ _ ⟨p,e,h⟩=>Za p e (t8 _ _ h)).snoc (Za p8 rfl Zh)
   ·rintro acc σ H7 _ ⟨s7,al7,vv,rfl⟩ lp glp
    rw [List.take_of_length_le (by omega)] at al7
    have t8:=Zn glp (.lst acc)
    have al8:Al (fun v (w:Wl)=>∃ p,v=.ref p∧(Zd H7 lp (.lst acc)) p=some (.tup [.str w.o,.str w.t])) acc WS:=al7.imp fun _ _ ⟨p,e,h⟩=>Za p e (t8 _ _ h)
    have c8:=@Zh H7 lp (.lst acc)
    have S8:=s7.trans t8
    generalize Zd H7 lp (.lst acc)=H8 at t8 al8 c8 S8 ⊢
    have c68:=S8 _ _ c6
    have hw8:=S8 _ _ hw6
    have al9:=al6.imp fun _ _=>YC.same (YG (l:=lw) S8)
    have U8:=s6.trans S8
    refine Z7 lp acc (.tuple [.str sa.nm,.str sb.nm]) (WS.map (fun w=>PyData.tuple [.str w.o,.str w.t])) rfl (.inl (Zg.of c8)) (.tup (Zu.of c68) (.cons (.str _ (WY okn1)) (.cons (.str _ (WY okn2)) .nil))) (Xi.pairs al8 nmw) (by simp [PyData.depth,PyData.depthAll]) (Za _ rfl ?_)
    have eany:((WS.map (fun w=>PyData.tuple [.str w.o,.str w.t])).any fun d=>PyData.eqv d (.tuple [.str sa.nm,.str sb.nm]))=WS.any fun w=>w.o == sa.nm && w.t == sb.nm:=by
     rw [List.any_map]
     congr 1
     funext w
     simp [PyData.eqv,PyData.eqvAll]
    show (if (!_)=true then _ else _)
    rw [eany]
    cases han:(WS.any fun w=>w.o == sa.nm && w.t == sb.nm) with
    | true=>exact ZH (by decide) ⟨vs,WS,_,_,_,_,_,U8,hw8,al9,by omega,okW,rfl⟩
    | false =>
     have hn:∀ w∈WS,¬ (w.o=sa.nm∧w.t=sb.nm):=fun w hw z=>by
      have:=List.any_eq_false.mp han w hw
      rw [z.1,z.2] at this
      simp at this
     refine YS rfl (Zx _ rfl (.inl ⟨rfl,_,Zg.of hw8⟩) (Za _ rfl (Za _ rfl (Zo _ _ rfl rfl ⟨by decide,by decide⟩ (Zo _ _ rfl rfl (by show (0:Int) < 25;decide) (Zo _ _ rfl rfl (by show 1≤sizeLine;decide) fun p9 g9=>?_))))))
     have e25:(1:Int)+((g:Nat):Int) / 64 % 25=((1+g / 64 % 25:Nat):Int):=by omega
     dsimp only
     rw [e25]
     have t9:=Zn g9 (.tup [.int ((1+g / 64 % 25:Nat):Int)])
     have c9:=@Zh H8 p9 (.tup [.int ((1+g / 64 % 25:Nat):Int)])
     have U9:=U8.trans t9
     have hw9:=t9 _ _ hw8
     have c69:=t9 _ _ c68
     have al10:=al9.imp fun _ _=>YC.same (YG (l:=lw) t9)
     generalize Zd H8 p9 (.tup [.int ((1+g / 64 % 25:Nat):Int)])=H9 at c9 U9 hw9 c69 al10 ⊢
     refine ⟨pp,p9,_,_,rfl,rfl,Zu.of c69,Zu.of c9,(fun z=>(nomatch z)),by show 3≤sizeLine;decide,(fun z=>(nomatch z)),fun _ p10 g10=>?_⟩
     have t10:=Zn g10 (.tup [.str sa.nm,.str sb.nm,.int ((1+g / 64 % 25:Nat):Int)])
     have n10:p10≠lw:=fun z=>by rw [z,hw9] at g10;cases g10
     refine Yn lw _ _ rfl rfl (t10 _ _ hw9) (Nat.lt_of_le_of_lt (show vs.length≤6 by omega) (by decide)) ?_
     refine ⟨vs++[.ref p10],WS++[⟨sa.nm,sb.nm,1+g / 64 % 25⟩],_,_,_,_,_,Yb (U9.trans t10) gw _,Zh,?_,by rw [List.length_append,List.length_singleton];omega,okW.snoc okS.nd h12 esa esb hn (by omega) (by omega),rfl⟩
     rw [Vw]
     exact (al10.imp fun _ _=>YC.same (YG (l:=lw) t10)).snoc (Za p10 rfl (Z4 Zh n10))
  ·exact fun σ H h=>h
 rintro σ H5 ⟨vsw,WS,v5,v6,v8,v9,v10,s5,hw5,alw,lW,okW,rfl⟩
 replace alw:Al (YC H5) vsw WS:=alw.imp fun _ _=>YC.same Xr
 have hs5:=s5 _ _ hs3
 have als5:=al3.imp fun _ _=>Xv.same s5
 replace s5:=s3.trans s5
 -- tickets
 refine ⟨by show 0≤sizeLine;decide,fun lk gk=>?_⟩
 have t6:=Zn gk (.lst [])
 have c6:=@Zh H5 lk (.lst [])
 generalize Zd H5 lk (.lst [])=H6 at t6 c6 ⊢
 refine Za (fun σ H'=>∃ (vs:List V) (KS:List XI) (v5 v6 v12:Option V),Zk H5 H'∧H' lk=some (.lst vs)∧Al (Xl (wo H' lk)) vs KS∧KS.length=(1+((Wk ns (f+2):Nat):Int) % 2).toNat∧Uz KS∧σ=[some (.ref a),some (.int (f:Nat)),some (.int (c:Nat)),some (.ref ln),some (.ref ls),v5,v6,some (.ref lw),v8,v9,v10,some (.ref lk),v12,none]) ?_ ?_
 ·refine Za _ rfl (Za _ rfl (Zj _ _ rfl rfl (ZI a ns (f+2) rfl ((s5.trans t6).seq hS) (by omega) (Zo _ _ rfl rfl (by show (0:Int) < 2;decide) (Zj _ _ rfl rfl (V3 _ rfl (by omega) (by omega) ?_))))))
  refine W9 (fun i σ H'=>∃ (vs:List V) (KS:List XI) (v5 v6 v12:Option V),Zk H5 H'∧H' lk=some (.lst vs)∧Al (Xl (wo H' lk)) vs KS∧KS.length=i∧Uz KS∧σ=[some (.ref a),some (.int (f:Nat)),some (.int (c:Nat)),some (.ref ln),some (.ref ls),v5,v6,some (.ref lw),v8,v9,v10,some (.ref lk),v12,none]) (Z5 [] [] _ _ none t6 c6 .nil rfl ⟨fun w hw=>(nomatch hw),fun i w hw=>(nomatch hw)⟩ rfl) ?_ ?_
  ·rintro i σ H7 hi ⟨vs,KS,v5,v6,v12,s7,hk7,al7,lK,okK,rfl⟩
   have hi2:i < 2:=by omega
   have S7:=s5.trans s7
   refine Za _ rfl (Za _ rfl (Zj _ _ rfl rfl (ZI a ns (f+2) rfl (S7.seq hS) (by omega) (Za _ rfl (Zo _ _ rfl (by omega) (by omega) ?_)))))
   generalize Wj _ _=g
   refine ⟨by show 3≤sizeLine;decide,fun q1 h1=>?_⟩
   have nq1:q1≠lk:=fun z=>by rw [z,hk7] at h1;cases h1
   have w1:=Zn h1 (.lst [.int 1,.int 2,.int 3])
   have k1:Zd H7 q1 (.lst [.int 1,.int 2,.int 3]) q1=some (.lst (Xj [1,2,3])):=Zh
   replace S7:=S7.trans w1
   replace s7:=s7.trans w1
   replace hk7:=w1 _ _ hk7
   replace al7:=al7.imp fun _ _=>Xl.same (YG (l:=lk) w1)
   generalize Zd H7 q1 (.lst [.int 1,.int 2,.int 3])=J1 at w1 S7 s7 hk7 al7 k1 ⊢
   refine ⟨by show 3≤sizeLine;decide,fun q2 h2=>?_⟩
   have nq2:q2≠lk:=fun z=>by rw [z,hk7] at h2;cases h2
   have w2:=Zn h2 (.lst [.int 1,.int 2,.int 3])
   have k2:Zd J1 q2 (.lst [.int 1,.int 2,.int 3]) q2=some (.lst (Xj [1,2,3])):=Zh
   replace k1:=w2 _ _ k1
   replace S7:=S7.trans w2
   replace s7:=s7.trans w2
   replace hk7:=w2 _ _ hk7
   replace al7:=al7.imp fun _ _=>Xl.same (YG (l:=lk) w2)
   generalize Zd J1 q2 (.lst [.int 1,.int 2,.int 3])=J2 at w2 S7 s7 hk7 al7 k1 k2 ⊢
   refine ⟨by show 1≤sizeLine;decide,fun q3 h3=>?_⟩
   have nq3:q3≠lk:=fun z=>by rw [z,hk7] at h3;cases h3
   have w3:=Zn h3 (.lst [.int 1])
   have k3:Zd J2 q3 (.lst [.int 1]) q3=some (.lst (Xj [1])):=Zh
   replace k1:=w3 _ _ k1
   replace k2:=w3 _ _ k2
   replace S7:=S7.trans w3
   replace s7:=s7.trans w3
   replace hk7:=w3 _ _ hk7
   replace al7:=al7.imp fun _ _=>Xl.same (YG (l:=lk) w3)
   generalize Zd J2 q3 (.lst [.int 1])=J3 at w3 S7 s7 hk7 al7 k1 k2 k3 ⊢
   refine ⟨by show 2≤sizeLine;decide,fun q4 h4=>?_⟩
   have nq4:q4≠lk:=fun z=>by rw [z,hk7] at h4;cases h4
   have w4:=Zn h4 (.lst [.int 1,.int 2])
   have k4:Zd J3 q4 (.lst [.int 1,.int 2]) q4=some (.lst (Xj [1,2])):=Zh
   replace k1:=w4 _ _ k1
   replace k2:=w4 _ _ k2
   replace k3:=w4 _ _ k3
   replace S7:=S7.trans w4
   replace s7:=s7.trans w4
   replace hk7:=w4 _ _ hk7
   replace al7:=al7.imp fun _ _=>Xl.same (YG (l:=lk) w4)
   generalize Zd J3 q4 (.lst [.int 1,.int 2])=J4 at w4 S7 s7 hk7 al7 k1 k2 k3 k4 ⊢
   refine ⟨by show 2≤sizeLine;decide,fun q5 h5=>?_⟩
   have nq5:q5≠lk:=fun z=>by rw [z,hk7] at h5;cases h5
   have w5:=Zn h5 (.lst [.int 2,.int 3])
   have k5:Zd J4 q5 (.lst [.int 2,.int 3]) q5=some (.lst (Xj [2,3])):=Zh
   replace k1:=w5 _ _ k1
   replace k2:=w5 _ _ k2
   replace k3:=w5 _ _ k3
   replace k4:=w5 _ _ k4
   replace S7:=S7.trans w5
   replace s7:=s7.trans w5
   replace hk7:=w5 _ _ hk7
   replace al7:=al7.imp fun _ _=>Xl.same (YG (l:=lk) w5)
   generalize Zd J4 q5 (.lst [.int 2,.int 3])=J5 at w5 S7 s7 hk7 al7 k1 k2 k3 k4 k5 ⊢
   refine ⟨by show 2≤sizeLine;decide,fun q6 h6=>?_⟩
   have nq6:q6≠lk:=fun z=>by rw [z,hk7] at h6;cases h6
   have w6:=Zn h6 (.lst [.int 1,.int 3])
   have k6:Zd J5 q6 (.lst [.int 1,.int 3]) q6=some (.lst (Xj [1,3])):=Zh
   replace k1:=w6 _ _ k1
   replace k2:=w6 _ _ k2
   replace k3:=w6 _ _ k3
   replace k4:=w6 _ _ k4
   replace k5:=w6 _ _ k5
   replace S7:=S7.trans w6
   replace s7:=s7.trans w6
   replace hk7:=w6 _ _ hk7
   replace al7:=al7.imp fun _ _=>Xl.same (YG (l:=lk) w6)
   generalize Zd J5 q6 (.lst [.int 1,.int 3])=J6 at w6 S7 s7 hk7 al7 k1 k2 k3 k4 k5 k6 ⊢
   refine ⟨by show 6≤sizeLine;decide,fun q7 h7=>?_⟩
   have w7:=Zn h7 (.lst [.ref q1,.ref q2,.ref q3,.ref q4,.ref q5,.ref q6])
   have k7:=@Zh J6 q7 (.lst [.ref q1,.ref q2,.ref q3,.ref q4,.ref q5,.ref q6])
   replace S7:=S7.trans w7
   replace s7:=s7.trans w7
   replace hk7:=w7 _ _ hk7
   replace al7:=al7.imp fun _ _=>Xl.same (YG (l:=lk) w7)
   obtain ⟨vz,evz,q,zs,rfl,hq,nq,z1,z6,zup,zrng⟩:=Vs (p:=fun v=>∃ q zs,v=.ref q∧(Zd J6 q7 (.lst [.ref q1,.ref q2,.ref q3,.ref q4,.ref q5,.ref q6])) q=some (.lst (Xj zs))∧q≠lk∧1≤zs.length∧zs.length≤6∧zs.Pairwise (· < ·)∧∀ z∈zs,1≤z∧z≤6) (xs:=[.ref q1,.ref q2,.ref q3,.ref q4,.ref q5,.ref q6]) (d:=((g:Nat):Int) % 6) (fun v hv=>by
    simp only [List.mem_cons,List.not_mem_nil,or_false] at hv
    rcases hv with rfl | rfl | rfl | rfl | rfl | rfl
    ·exact Qk _ _ rfl (w7 _ _ k1) nq1 (by decide) (by decide) (by decide) (by decide)
    ·exact Qk _ _ rfl (w7 _ _ k2) nq2 (by decide) (by decide) (by decide) (by decide)
    ·exact Qk _ _ rfl (w7 _ _ k3) nq3 (by decide) (by decide) (by decide) (by decide)
    ·exact Qk _ _ rfl (w7 _ _ k4) nq4 (by decide) (by decide) (by decide) (by decide)
    ·exact Qk _ _ rfl (w7 _ _ k5) nq5 (by decide) (by decide) (by decide) (by decide)
    ·exact Qk _ _ rfl (w7 _ _ k6) nq6 (by decide) (by decide) (by decide) (by decide)) (by omega) (by show ((g:Nat):Int) % 6 < 6;omega)
   generalize Zd J6 q7 (.lst [.ref q1,.ref q2,.ref q3,.ref q4,.ref q5,.ref q6])=J7 at S7 s7 hk7 al7 k7 hq ⊢
   refine Za _ rfl (Zo _ _ rfl rfl (by show (0:Int) < 6;decide) (Zz q7 _ _ _ rfl rfl (Zg.of k7) evz ?_))
   have eat:Yu (Str.ofString "ab").cps.toList (0+((i:Nat):Int))=some (97+i):=by rw [Int.zero_add];exact ZqQ i hi2
   refine Zx _ rfl (.inl ⟨rfl,_,Zg.of hk7⟩) (Za _ rfl (Yn _ _ _ rfl rfl (by decide) eat (Za _ rfl (Zo _ _ rfl rfl ⟨by decide,by decide⟩ (Xm _ _ rfl rfl (by show (0:Int) < 9;decide) (by show 5≤sizeLine;decide) fun q8 h8=>?_)))))
   have w8:=Zn h8 (.lst [.int 30,.int 60,.int 5,.int 1440,.int 15])
   have k8:=@Zh J7 q8 (.lst [.int 30,.int 60,.int 5,.int 1440,.int 15])
   replace S7:=S7.trans w8
   replace s7:=s7.trans w8
   replace hk7:=w8 _ _ hk7
   replace hq:=w8 _ _ hq
   replace al7:=al7.imp fun _ _=>Xl.same (YG (l:=lk) w8)
   generalize Zd J7 q8 (.lst [.int 30,.int 60,.int 5,.int 1440,.int 15])=J8 at S7 s7 hk7 al7 k8 hq ⊢
   obtain ⟨vl,evl,la,rfl,la1,la2⟩:=Vs (p:=fun v=>∃ b:Nat,v=.int (b:Nat)∧1≤b∧b≤1440) (xs:=[.int 30,.int 60,.int 5,.int 1440,.int 15]) (d:=((g:Nat):Int) / 54 % 5) (fun v hv=>by
    simp only [List.mem_cons,List.not_mem_nil,or_false] at hv
    rcases hv with rfl | rfl | rfl | rfl | rfl
    ·exact Zx 30 rfl (by decide) (by decide)
    ·exact Zx 60 rfl (by decide) (by decide)
    ·exact Zx 5 rfl (by decide) (by decide)
    ·exact Zx 1440 rfl (by decide) (by decide)
    ·exact Zx 15 rfl (by decide) (by decide)) (by omega) (by show ((g:Nat):Int) / 54 % 5 < 5;omega)
   refine Za _ rfl (Zo _ _ rfl rfl ⟨by decide,by decide⟩ (Zo _ _ rfl rfl (by show (0:Int) < 5;decide) (Zz q8 _ _ _ rfl rfl (Zg.of k8) evl (Zx _ rfl (by show 4≤sizeLine;decide) fun q9 h9=>?_))))
   have e9:((g:Nat):Int) / 6 % 9=((g / 6 % 9:Nat):Int):=by omega
   dsimp only
   rw [e9]
   have w9:=Zn h9 (.tup [.str ⟨#[97+i]⟩,.int ((g / 6 % 9:Nat):Int),.int (la:Nat),.ref q])
   have n9:q9≠lk:=fun z=>by rw [z,hk7] at h9;cases h9
   refine Yn lk _ _ rfl rfl (w9 _ _ hk7) (Nat.lt_of_le_of_lt (show vs.length≤6 by rw [al7.length];omega) (by decide)) ?_
   refine Z5 (vs++[.ref q9]) (KS++[⟨tx [97+i],g / 6 % 9,la,zs⟩]) _ _ _ (Yb (s7.trans w9) gk _) Zh ?_ (by rw [List.length_append,List.length_singleton,lK]) (okK.snoc ⟨Zb1 (l:=[97+i]) (by show 1≤1;decide) (by show 1≤8;decide) (fun c hc=>?_),(by show g / 6 % 9≤10000;omega),la1,la2,z1,z6,zup,zrng⟩ (by rw [lK])) rfl
   ·rw [Vw]
    exact (al7.imp fun _ _=>Xl.same (YG (l:=lk) w9)).snoc (Zj q9 q rfl (Z4 Zh n9) (Z4 (w9 _ _ hq) nq))
   ·rw [List.mem_singleton.mp hc];omega
  ·exact fun σ H h=>h
 rintro σ H7 ⟨vsk,KS,v5,v6,v12,s7,hk7,alk,lK,okK,rfl⟩
 replace alk:Al (Xl H7) vsk KS:=alk.imp fun _ _=>Xl.same Xr
 have hs7:=s7 _ _ hs5
 have hw7:=s7 _ _ hw5
 have als7:=als5.imp fun _ _=>Xv.same s7
 have alw7:=alw.imp fun _ _=>YC.same s7
 replace s7:=s5.trans s7
 -- trips
 refine ⟨by show 0≤sizeLine;decide,fun lt gt=>?_⟩
 have t8:=Zn gt (.lst [])
 have c8:=@Zh H7 lt (.lst [])
 generalize Zd H7 lt (.lst [])=H8 at t8 c8 ⊢
 have gt0:=s7.free gt
 refine Za _ rfl (Za _ rfl (Zj _ _ rfl rfl (ZI a ns (f+3) rfl ((s7.trans t8).seq hS) (by omega) (Zo _ _ rfl rfl (by show (0:Int) < 3;decide) (Zj _ _ rfl rfl (V3 _ rfl (by omega) (by omega) ?_))))))
 generalize hc3:Wk ns (f+3)=ct
 refine W9 (fun i σ H'=>∃ (vs:List V) (TS:List Zs) (v5 v6:Option V),Zk H7 H'∧H' lt=some (.lst vs)∧Al (XG (wo H' lt)) vs TS∧TS.length=i∧W0 SS TS∧σ=[some (.ref a),some (.int (f:Nat)),some (.int (c:Nat)),some (.ref ln),some (.ref ls),v5,v6,some (.ref lw),v8,v9,v10,some (.ref lk),v12,some (.ref lt)]) (Z7 [] [] _ _ t8 c8 .nil rfl ⟨fun i w hw=>(nomatch hw),fun w hw=>(nomatch hw)⟩ rfl) ?_ ?_
 ·rintro i σ H9 hi ⟨vs,TS,v5,v6,s9,ht9,al9,lT,okT,rfl⟩
  have hi4:i < 4:=by omega
  have S9:=s7.trans s9
  have e4:((f:Nat):Int)+4+(0+((i:Nat):Int))=((f+4+i:Nat):Int):=by omega
  refine Za _ rfl (Za _ rfl (Zj _ _ rfl rfl (ZI a ns (f+3) rfl (S9.seq hS) (by omega) (Za _ rfl (Zo _ _ rfl (by omega) (by omega) (Za _ rfl (Za _ rfl (Zj _ _ rfl rfl (Za _ rfl (Zj _ _ rfl rfl (ZI a ns (f+4+i) (by rw [← e4];rfl) (S9.seq hS) (by omega) (Zo _ _ rfl rfl (by show (0:Int) < 1000003;decide) (Zj _ _ rfl rfl ?_)))))))))))))
  generalize Wj _ _=g1
  generalize Wk _ _=g2
  have eg:((g1:Nat):Int)+((g2:Nat):Int) % 1000003=((g1+g2 % 1000003:Nat):Int):=by omega
  dsimp only
  rw [eg]
  generalize g1+g2 % 1000003=g
  have eat:Yu (Str.ofString "tuvw").cps.toList (0+((i:Nat):Int))=some (116+i):=by rw [Int.zero_add];exact ZqP i hi4
  refine Zx _ rfl (.inl ⟨rfl,_,Zg.of ht9⟩) (Za _ rfl (Yn _ _ _ rfl rfl (by decide) eat (Za _ rfl (Zo _ _ rfl rfl ⟨by decide,by decide⟩ (Za (g / 7) rfl fun r rv H10 s10 okr _ hrv=>?_)))))
  have ht10:=s10 _ _ ht9
  refine Za _ rfl (Za _ rfl ⟨g,ls,vs1,SS,rfl,s10 _ _ (s9 _ _ hs7),als7.imp fun _ _=>Xv.same (s9.trans s10),okS.nd,by omega,by omega,fun cs lc cvs H11 s11 gc hc alc okc c2 c4=>?_⟩)
  refine ⟨by show 3≤sizeLine;decide,fun p12 g12=>?_⟩
  have t12:=Zn g12 (.tup [.str ⟨#[116+i]⟩,rv,.ref lc])
  have ht11:=s11 _ _ ht10
  have n12:p12≠lt:=fun z=>by rw [z,ht11] at g12;cases g12
  have nc:lc≠lt:=fun z=>by rw [z,ht10] at gc;cases gc
  refine Yn lt _ _ rfl rfl (t12 _ _ ht11) (Nat.lt_of_le_of_lt (show vs.length≤6 by rw [al9.length];omega) (by decide)) ?_
  refine Z7 (vs++[.ref p12]) (TS++[⟨tx [116+i],r,cs⟩]) _ _ (Yb (s9.trans ((s10.trans s11).trans t12)) gt _) Zh ?_ (by rw [List.length_append,List.length_singleton,lT]) (okT.snoc ⟨okr,okc,c2,c4⟩ (by rw [lT])) rfl
  rw [Vw]
  have S12:=(s10.trans s11).trans t12
  refine (al9.imp fun _ _=>XG.same (YG (l:=lt) S12)).snoc (Zz p12 rv lc cvs rfl (Z4 Zh n12) ?_ (Z4 (t12 _ _ hc) nc) (alc.imp fun _ _ ⟨pc,epc,hpc⟩=>(Za pc epc (Z4 (t12 _ _ hpc) fun z=>by rw [z,ht11] at hpc;cases hpc))))
  exact (hrv lt (by rw [ht9];exact fun z=>(nomatch z))).same (YG (s11.trans t12))
 rintro σ H9 ⟨vst,TS,v5,v6,s9,ht9,al9,lT,okT,rfl⟩
 have sw:Zk H7 (wo H9 lt):=We s9 gt
 refine fun d gd=>?_
 have e0:=Yb (Zn gd (.dK [])) gd (.dK (WD [] [(Sum.inr (Str.ofString "stops"),.ref ls),(Sum.inr (Str.ofString "walks"),.ref lw),(Sum.inr (Str.ofString "tickets"),.ref lk),(Sum.inr (Str.ofString "trips"),.ref lt)]))
 refine Za _ rfl (Za _ rfl (Za _ rfl (Zx _ rfl Zh (Zx [(Sum.inr (Str.ofString "stops"),.ref ls),(Sum.inr (Str.ofString "walks"),.ref lw),(Sum.inr (Str.ofString "tickets"),.ref lk),(Sum.inr (Str.ofString "trips"),.ref lt)] rfl (by show 4≤15;decide) ?_))))
 have hdl:d≠lt:=fun z=>by rw [z,ht9] at gd;cases gd
 have cd:=@Zh (Zd H9 d (.dK [])) d (.dK (WD [] [(Sum.inr (Str.ofString "stops"),.ref ls),(Sum.inr (Str.ofString "walks"),.ref lw),(Sum.inr (Str.ofString "tickets"),.ref lk),(Sum.inr (Str.ofString "trips"),.ref lt)]))
 show Q _ _
 generalize Zd (Zd H9 d (.dK [])) d (.dK (WD [] [(Sum.inr (Str.ofString "stops"),.ref ls),(Sum.inr (Str.ofString "walks"),.ref lw),(Sum.inr (Str.ofString "tickets"),.ref lk),(Sum.inr (Str.ofString "trips"),.ref lt)]))=HF at e0 cd ⊢
 have sF:Zk H7 (wo HF lt):=sw.trans (YG e0)
 obtain ⟨e1,e2,e3,e4⟩:=kv4 (.ref ls) (.ref lw) (.ref lk) (.ref lt)
 exact q d ⟨ls,lw,lk,lt⟩ ⟨SS,WS,KS,TS⟩ HF ((s7.trans s9).trans e0) gt0 ⟨⟨_,Z4 cd hdl,e1,e2,e3,e4⟩,Za vs1 (sF _ _ hs7) (als7.imp fun _ _=>Xv.same sF),Za vsw (sF _ _ hw7) (alw7.imp fun _ _=>YC.same sF),Za vsk (sF _ _ hk7) (alk.imp fun _ _=>Xl.same sF),(Za vst (e0 _ _ ht9) (al9.imp fun _ _=>XG.same (YG e0)))⟩ ⟨by show 3≤SS.length;omega,by show SS.length≤5;omega,okS,by show WS.length≤3;omega,okW,by show KS.length≤2;omega,okK,by show 2≤TS.length;omega,by show TS.length≤4;omega,okT⟩
theorem ZeS:∀ {cs:List Cl} {ls:List Nat} {last:Int},Ws last cs ls=true→(∀ i a b,cs[i]? = some a→cs[i+1]? = some b→b.st≠a.st)→∀ i y y',(Yo 0 cs ls)[i]? = some y→(Yo 0 cs ls)[i+1]? = some y'→Ut y' y=true
 | [],_,_,_,_,i,y,y',h,_=>by unfold Yo at h;rw [List.zipWith_nil_left] at h;cases h
 | _::_,[],_,_,_,i,y,y',h,_=>by unfold Yo at h;rw [List.zipWith_nil_right] at h;cases h
 | c::cs,l::ls,last,hr,hf,i,y,y',h,h'=>by
  rw [ZeC] at hr
  split at hr
  ·cases hr
  ·have em:Yo 0 (c::cs) (l::ls)=mvC 0 c l::Yo 0 cs ls:=rfl
   rw [em] at h h'
   cases i with
   | succ i =>
    rw [List.getElem?_cons_succ] at h h'
    exact ZeS hr (fun i a b ha hb=>hf (i+1) a b (by rw [List.getElem?_cons_succ];exact ha) (by rw [List.getElem?_cons_succ];exact hb)) i y y' h h'
   | zero =>
    rw [List.getElem?_cons_zero] at h
    obtain rfl:=Option.some.inj h
    rw [List.getElem?_cons_succ] at h'
    cases cs with
    | nil=>unfold Yo at h';rw [List.zipWith_nil_left] at h';cases h'
    | cons c2 cs =>
     cases ls with
     | nil=>unfold Yo at h';rw [List.zipWith_nil_right] at h';cases h'
     | cons l2 ls =>
      have em2:Yo 0 (c2::cs) (l2::ls)=mvC 0 c2 l2::Yo 0 cs ls:=rfl
      rw [em2,List.getElem?_cons_zero] at h'
      obtain rfl:=Option.some.inj h'
      rw [ZeC] at hr
      split at hr
      ·cases hr
      ·rename_i hlt
       unfold Ut
       rw [Bool.and_eq_true]
       have ne:=hf 0 c c2 rfl rfl
       refine ⟨?_,decide_eq_true ?_⟩
       ·show (!decide (V.str c2.st=V.str c.st))=true
        simpa using ne
       ·show (0:Int)+((l2:Nat):Int)+((c2.ar:Nat):Int) > 0+((l:Nat):Int)+((c.lv:Nat):Int)
        omega
theorem W0.nd {SS:List Z3} {TS:List Zs} (h:W0 SS TS):(TS.map Zs.nm).Nodup:=by
 show List.Pairwise _ _
 rw [List.pairwise_map,List.pairwise_iff_getElem]
 intro i j hi hj hij e
 have e1:=h.nm i _ (List.getElem?_eq_getElem hi)
 have e2:=h.nm j _ (List.getElem?_eq_getElem hj)
 rw [e1,e2] at e
 have:=ZaY e
 injection this with this _
 omega
theorem W0.ts {SS:List Z3} {TS:List Zs} (h:W0 SS TS) (h4:TS.length≤4):Uw TS:=⟨h.nd,fun x hx=>⟨(h.ok x hx).1,Nat.le_trans (h.ok x hx).2.2.2 (by decide)⟩,fun x hx c hc=>((h.ok x hx).2.1.rng c hc).2,h4⟩
theorem Uz.nd {KS:List XI} (h:Uz KS):(KS.map XI.nm).Nodup:=by
 show List.Pairwise _ _
 rw [List.pairwise_map,List.pairwise_iff_getElem]
 intro i j hi hj hij e
 have e1:=h.nm i _ (List.getElem?_eq_getElem hi)
 have e2:=h.nm j _ (List.getElem?_eq_getElem hj)
 rw [e1,e2] at e
 have:=ZaY e
 injection this with this _
 omega
theorem Za7.fnd {SS:List Z3} (h:Za7 SS) {i:Nat} {s:Z3} (e:SS[i]? = some s):fnd Z3.nm (SS.take i) s.nm=none:=ZeE h.nd e
theorem ZqT {α:Type} {nm:α→Str} {xs ys:List α} {z:Str} {x:α} (h:fnd nm xs z=some x):fnd nm (xs++ys) z=some x:=by
 unfold fnd at h ⊢
 rw [List.find?_append,h];rfl
theorem Ziw {α:Type} {nm:α→Str} {xs:List α} {x:α} (h:fnd nm xs (nm x)=none):fnd nm (xs++[x]) (nm x)=some x:=by
 unfold fnd at h ⊢
 rw [List.find?_append,h,List.find?_cons,decide_eq_true rfl];rfl
def XS (k:Nat):Str:=tx [114+k % 3,117+k]
theorem ZqU {i j:Nat} (e:XS i=XS j):i=j:=by
 have:=ZaY e
 injection this with _ this
 injection this with this _
 omega
theorem Zix:∀ i:Nat,i < 3→Yu (Str.ofString "rst").cps.toList (i:Int)=some (114+i):=by decide +kernel
theorem Ziy:∀ i:Nat,i < 4→Yu (Str.ofString "uvwx").cps.toList (i:Int)=some (117+i):=by decide +kernel
structure UA (TS:List Zs) (ru:List Xk) (tp:List Tp) (k:Nat):Prop where
 len:ru.length=k
 nm:∀ i u,ru[i]? = some u→u.nm=XS i
 al:Al (fun (y:Tp) (x:Zs)=>y.nm=x.nm∧y.cs=x.cs∧∃ u,fnd Xk.nm ru y.ru=some u∧u.r=x.r) tp (TS.take k)
theorem UA.new {TS:List Zs} {ru:List Xk} {tp:List Tp} {k:Nat} (h:UA TS ru tp k):fnd Xk.nm ru (XS k)=none:=by
 unfold fnd
 rw [List.find?_eq_none]
 intro u hu
 obtain ⟨i,hi,ei⟩:=List.mem_iff_getElem.mp hu
 rw [decide_eq_true_eq]
 intro e
 have:=h.nm i u (by rw [List.getElem?_eq_getElem hi,ei])
 have:=ZqU (this.symm.trans e)
 have:=h.len
 omega
theorem UA.newT {SS:List Z3} {TS:List Zs} (tok:W0 SS TS) {ru:List Xk} {tp:List Tp} {k:Nat} (h:UA TS ru tp k) {x:Zs} (hx:TS[k]? = some x):fnd Tp.nm tp x.nm=none:=by
 unfold fnd
 rw [List.find?_eq_none]
 intro y hy
 obtain ⟨i,hi,ei⟩:=List.mem_iff_getElem.mp hy
 obtain ⟨z,ez,en,_⟩:=h.al.get (List.getElem?_eq_getElem hi)
 rw [decide_eq_true_eq]
 intro e
 rw [← ei] at e
 have hik:i < k:=by
  have:=(List.getElem?_eq_some_iff.mp ez).1
  rw [List.length_take] at this
  omega
 rw [List.getElem?_take_of_lt hik] at ez
 have e1:=tok.nm i z ez
 have e2:=tok.nm k x hx
 rw [en,e1,e2] at e
 have:=ZaY e
 injection this with this _
 omega
theorem UA.snoc {TS:List Zs} {ru:List Xk} {tp:List Tp} {k:Nat} (h:UA TS ru tp k) {x:Zs} (hx:TS[k]? = some x):UA TS (ru++[⟨XS k,x.r⟩]) (tp++[⟨x.nm,XS k,x.cs⟩]) (k+1):=by
 refine ⟨by rw [List.length_append,List.length_singleton,h.len],fun i u hu=>?_,?_⟩
 ·by_cases hlt:i < ru.length
  ·rw [List.getElem?_append_left hlt] at hu;exact h.nm i u hu
  ·have hk':=(List.getElem?_eq_some_iff.mp hu).1
   rw [List.length_append,List.length_singleton] at hk'
   have ek:i=ru.length:=by omega
   rw [ek,List.getElem?_append_right (Nat.le_refl _),Nat.sub_self] at hu
   obtain rfl:(⟨XS k,x.r⟩:Xk)=u:=Option.some.inj hu
   rw [ek,h.len]
 ·rw [List.take_add_one,hx]
  exact (h.al.imp fun y z ⟨e1,e2,u,e3,e4⟩=>⟨e1,e2,Za u (ZqT e3) e4⟩).snoc ⟨rfl,rfl,Za ⟨XS k,x.r⟩ (Ziw h.new) rfl⟩
def ZqV (t:Z9):Sp:=fun vs H Q _=>∃ (d:Addr) (da:DA) (D:Ux),vs=[.ref d]∧Uy H d da D∧DOk D ∧
 ∀ n ru tp H',Zk H H'→X0 t H' n ⟨D.ss,D.ws,ru,D.ks,tp⟩→Al (Zb0 ⟨D.ss,D.ws,ru,D.ks,tp⟩) tp D.ts→Q (.ref n) H'
theorem ZqW (Tx:ZO K mg t):ZF P w K mg base ZE 9 t.Zdj t.Zdk ["_law_data"] (ZqV t):=by
 refine Tx.Zhx.ok XD (fun vs H Q E h=>?_) (fun cdv A outer s H vs Q E hr h=>?_)
 ·obtain ⟨d,da,D,rfl,_⟩:=h
  rfl
 obtain ⟨d,da,D,rfl,hD,ok,q⟩:=h
 obtain ⟨kvs,hd,ds,dw,dk,dt⟩:=hD.ob
 obtain ⟨vss,hls,als⟩:=hD.st
 obtain ⟨vsw,hlw,alw⟩:=hD.wk
 obtain ⟨vsk,hlk,alk⟩:=hD.tk
 obtain ⟨vst,hlt,alt⟩:=hD.tp
 have get:∀ {H':Hp} {z:Str} {l:Addr},Zk H H'→ZA kvs (Sum.inr z)=some (.ref l)→Yd H' d (.str z) (some (.ref l)):=fun s' e=>by rw [← e];exact Yd.k (k:=Sum.inr _) (s' _ _ hd)
 refine Za _ (Zm (ZJ (i:=1) XD.nd rfl (Or.inl rfl) (ZjP Tx.ZoG (Zp0 Tx) (hr.mono (by omega)) rfl Tx.Zo0 Tx.Zn1 .nil Zr))
  (Zm (YU PassesOwn.never rfl (XT (Xa (Z8 hr) (pv 0) Yk (fun _ _=>rfl))) (W7 rfl (YD (ZU (i:=2) XD.nd rfl (Or.inl rfl)) (YD (ZU (i:=3) XD.nd rfl (Or.inl rfl)) (YD (ZU (i:=4) XD.nd rfl (Or.inl rfl)) W3))))
  (Zp (Z0 (YR (pv 1) Tx.Z6 Tx.ZoI (Zp2 Tx) (hr.mono (by omega)) Tx.Zn3 .nil Zr (Zb (pv 2) (Zb (pv 3) (Zb (pv 4) Ze)))))))
  (Zm (YU PassesOwn.never rfl (XT (Xa (Z8 hr) (pv 0) Yk (fun _ _=>rfl))) (W7 rfl (YD (ZU (i:=5) XD.nd rfl (Or.inl rfl)) (YD (ZU (i:=6) XD.nd rfl (Or.inl rfl)) (YD (ZU (i:=7) XD.nd rfl (Or.inl rfl)) W3))))
  (Zp (Z0 (YR (pv 1) Tx.Z6 Tx.ZoL (Zqm Tx) (hr.mono (by omega)) Tx.Zn5 .nil Zr (Zb (pv 5) (Zb (pv 6) (Zb (pv 7) Ze)))))))
  (Zm (YU PassesOwn.never rfl (XT (Xa (Z8 hr) (pv 0) Yk (fun _ _=>rfl))) (W7 rfl (YD (ZU (i:=2) XD.nd rfl (Or.inl rfl)) (YD (ZU (i:=8) XD.nd rfl (Or.inl rfl)) (YD (ZU (i:=9) XD.nd rfl (Or.inl rfl)) (YD (ZU (i:=10) XD.nd rfl (Or.inl rfl)) W3)))))
  (Zp (Z0 (YR (pv 1) Tx.Z6 Tx.ZoJ (Zp6 Tx) (hr.mono (by omega)) Tx.Zn9 .nil Zr (Zb (pv 2) (Zb (pv 8) (Zb (pv 9) (Zb (WO Qb rfl Tx.Vi Vh (Zb (pv 10) Ze)) Ze))))))))
  (Zm (YU PassesOwn.never rfl (VN rfl Tx.WU (Zb (ZV Xh rfl Tx.YZ YX (Zb (Xa (Z8 hr) (pv 0) Yk (fun _ _=>rfl)) Ze)) Ze)) (ZU (i:=11) XD.nd rfl (Or.inl rfl))
  (Zm (Zb5 (Zw YA (Xa (Z8 hr) (pv 0) Yk (fun _ _=>rfl)) (pv 11) (fun _ _=>rfl)) (W7 rfl (YD (ZU (i:=2) XD.nd rfl (Or.inl rfl)) (YD (ZU (i:=12) XD.nd rfl (Or.inl rfl)) (YD (ZU (i:=13) XD.nd rfl (Or.inl rfl)) W3)))))
  (Zm (ZJ (i:=14) XD.nd rfl (Or.inl rfl) (ZfY Tx.ZhN rfl Tx.ZaV))
  (Vt (ZX (Xd Wc (Zw ZQ (pv 12) Zc (fun _ _=>rfl)) Yk (YJ _))
  (Zp (ZJ (i:=14) XD.nd rfl (Or.inl rfl) (Qa Tx.ZhO (Zh9 Tx) (hr.mono (by omega)) rfl Tx.ZhX Tx.ZhE .nil Zr (Zb (Zw ZQ (pv 12) Zc (fun _ _=>rfl)) Ze))))
  ZY)
  (Vt (ZX (Xd Wc (Zw ZQ (pv 12) Zc (fun _ _=>rfl)) Yk (YJ _))
  (Zp (ZJ (i:=14) XD.nd rfl (Or.inl rfl) (Qa Tx.ZhP (Zia Tx) (hr.mono (by omega)) rfl Tx.ZhY Tx.ZhF .nil Zr (Zb (Zw ZQ (pv 12) Zc (fun _ _=>rfl)) (Zb (WO Qb rfl Tx.Vi Vh (Zb (Zw ZQ (pv 12) Zc (fun _ _=>rfl)) Ze)) Ze)))))
  ZY)
  (Zm (Z0 (YR (pv 1) Tx.Z6 Tx.ZoH (Zp4 Tx) (hr.mono (by omega)) Tx.Zn7 .nil Zr (Zb (Zi Zbf (Zw UI Yk (Zi ZP (pv 11) Zc) (fun _ _=>rfl)) (Zw UI Yk (pv 11) (fun _ _=>rfl))) (Zb (pv 14) Ze))))
  (Zp (Z0 (YR (pv 1) Tx.Z6 Tx.ZoK (Zqt Tx) (hr.mono (by omega)) Tx.Zob .nil Zr (Zb (pv 2) (Zb (Zi Zbf (Zw UI Yk (Zi ZP (pv 11) Zc) (fun _ _=>rfl)) (Zw UI Yk (pv 11) (fun _ _=>rfl))) (Zb (WO Qb rfl Tx.Vi Vh (Zb (pv 13) Ze)) Ze))))))))))))
  (Zp (ZT (pv 1)))))))) ?_
 intro x dx nx ndx nex
 refine Xm x H rfl nx (Yb (Zn ndx _) nx _) ⟨dx,Zh⟩ fun H1 a s1 hN1 hW=>⟨rfl,?_⟩
 refine Za _ rfl (Zj d _ rfl (get s1 ds) (Zx da.ls rfl ⟨_,Zg.of (s1 _ _ hls)⟩ (W8 (K:=K) (a:=da.ls) (xs:=vss) (fun i σ H'=>Zk H H'∧Yi t H' x a ⟨D.ss.take i,[],[],[],[]⟩∧∃ v2 v3 v4:Option V,σ=[some (.ref d),some (.ref x),v2,v3,v4,none,none,none,none,none,none,none,none,none,none]) ⟨s1,hN1,none,none,none,rfl⟩ (fun i σ H' _ ⟨s',_⟩=>Zg.of (s' _ _ hls)) ?_ ?_)))
 ·rintro i v σ H2 hv ⟨s2,hN2,v2,v3,v4,rfl⟩
  obtain ⟨y,ey,p,rfl,hp⟩:=als.get hv
  have hy:=ok.s.ok y (List.mem_of_getElem? ey)
  obtain ⟨ndx2,nfs,ne1,ne2⟩:=hN2.ob
  refine Zo p _ rfl (Zu.of (s2 _ _ hp)) rfl (ZK _ _ rfl (ZK _ _ rfl (Zj _ _ rfl rfl ?_)))
  refine Za _ rfl (ZI x ndx2 _ rfl ne1 ne2.n_add_stop (Za _ rfl (Za _ rfl (Za _ rfl ⟨x,a,_,y,H,rfl,hN2,hW,s2,hy.1,hy.2.1,hy.2.2.1,hy.2.2.2,ok.s.fnd ey,?_,fun H3 s3 hN3=>⟨s3,?_,_,_,_,rfl⟩⟩))))
  ·show (D.ss.take i).length < 8
   rw [List.length_take];have:=ok.s5;omega
  ·rw [List.take_add_one,ey];exact hN3
 rintro σ H2 ⟨s2,hN2,v2,v3,v4,rfl⟩
 rw [List.take_of_length_le (by rw [als.length];exact Nat.le_refl _)] at hN2
 refine Za _ rfl (Zj d _ rfl (get s2 dw) (Zx da.lw rfl ⟨_,Zg.of (s2 _ _ hlw)⟩ (W8 (K:=K) (a:=da.lw) (xs:=vsw) (fun i σ H'=>Zk H H'∧Yi t H' x a ⟨D.ss,D.ws.take i,[],[],[]⟩∧∃ v2 v3 v4 v5 v6 v7:Option V,σ=[some (.ref d),some (.ref x),v2,v3,v4,v5,v6,v7,none,none,none,none,none,none,none]) ⟨s2,hN2,_,_,_,_,_,_,rfl⟩ (fun i σ H' _ ⟨s',_⟩=>Zg.of (s' _ _ hlw)) ?_ ?_)))
 ·rintro i v σ H3 hv ⟨s3,hN3,v2,v3,v4,v5,v6,v7,rfl⟩
  obtain ⟨y,ey,p,rfl,hp⟩:=alw.get hv
  have nmw:∀ w∈D.ws,Yw w.o∧Yw w.t:=fun w hw=>by
   obtain ⟨_,_,s',r',_,es',er',eo,et⟩:=ok.w.ok w hw
   rw [eo,et]
   exact ⟨(ok.s.ok s' (List.mem_of_getElem? es')).1,(ok.s.ok r' (List.mem_of_getElem? er')).1⟩
  have hym:=List.mem_of_getElem? ey
  obtain ⟨i1,j1,s',r',hij,es',er',eo,et⟩:=ok.w.ok y hym
  obtain ⟨ndx2,nfs,ne1,ne2⟩:=hN3.ob
  refine Zo p _ rfl (Zu.of (s3 _ _ hp)) rfl (ZK _ _ rfl (ZK _ _ rfl (Zj _ _ rfl rfl ?_)))
  refine Za _ rfl (ZI x ndx2 _ rfl ne1 ne2.n_add_walk (Za _ rfl (Za _ rfl (Za _ rfl ⟨x,a,_,y,H,rfl,hN3,hW,s3,fun w hw=>nmw w (List.mem_of_mem_take hw),(nmw y hym).1,(nmw y hym).2,?_,?_,fun e=>?_,ok.w.nd i y ey,(ok.w.m y hym).1,(ok.w.m y hym).2,?_,fun H4 s4 hN4=>⟨s4,?_,_,_,_,_,_,_,rfl⟩⟩))))
  ·rw [eo];exact ZeG (List.mem_map.mpr (Za s' (List.mem_of_getElem? es') rfl))
  ·rw [et];exact ZeG (List.mem_map.mpr (Za r' (List.mem_of_getElem? er') rfl))
  ·have:i1=j1:=Ub ok.s.nd (x:=y.o) (by rw [List.getElem?_map,es'];exact congrArg some eo.symm) (by rw [List.getElem?_map,er'];exact congrArg some (et.symm.trans e.symm))
   omega
  ·show (D.ws.take i).length < 12
   rw [List.length_take];have:=ok.w4;omega
  ·rw [List.take_add_one,ey];exact hN4
 rintro σ H3 ⟨s3,hN3,v2,v3,v4,v5,v6,v7,rfl⟩
 rw [List.take_of_length_le (by rw [alw.length];exact Nat.le_refl _)] at hN3
 refine Za _ rfl (Zj d _ rfl (get s3 dk) (Zx da.lk rfl ⟨_,Zg.of (s3 _ _ hlk)⟩ (W8 (K:=K) (a:=da.lk) (xs:=vsk) (fun i σ H'=>Zk H H'∧Yi t H' x a ⟨D.ss,D.ws,[],D.ks.take i,[]⟩∧∃ v2 v3 v4 v5 v6 v7 v8 v9 v10:Option V,σ=[some (.ref d),some (.ref x),v2,v3,v4,v5,v6,v7,v8,v9,v10,none,none,none,none]) ⟨s3,hN3,_,_,_,_,_,_,_,_,_,rfl⟩ (fun i σ H' _ ⟨s',_⟩=>Zg.of (s' _ _ hlk)) ?_ ?_)))
 ·rintro i v σ H4 hv ⟨s4,hN4,v2,v3,v4,v5,v6,v7,v8,v9,v10,rfl⟩
  obtain ⟨y,ey,p,z,rfl,hp,hz⟩:=alk.get hv
  have hym:=List.mem_of_getElem? ey
  obtain ⟨ndx2,nfs,ne1,ne2⟩:=hN4.ob
  refine Zo p _ rfl (Zu.of (s4 _ _ hp)) rfl (ZK _ _ rfl (ZK _ _ rfl (ZK _ _ rfl (Zj _ _ rfl rfl ?_))))
  refine Za _ rfl (ZI x ndx2 _ rfl ne1 ne2.n_add_ticket (Za _ rfl (Za _ rfl (Za _ rfl (Za _ rfl (Zj z _ rfl (.inl (Zg.of (s4 _ _ hz))) fun zl gl=>?_))))))
  have t5:=Zn gl (.lst (Xj y.zs))
  refine ⟨x,a,_,y,zl,H,rfl,hN4.same t5,hW,s4.trans t5,Zh,ok.k.ok y hym,ZeE ok.k.nd ey,?_,fun H5 s5 hN5=>⟨s5,?_,_,_,_,_,_,_,_,_,_,rfl⟩⟩
  ·show (D.ks.take i).length < 3
   rw [List.length_take];have:=ok.k2;omega
  ·rw [List.take_add_one,ey];exact hN5
 rintro σ H4 ⟨s4,hN4,v2,v3,v4,v5,v6,v7,v8,v9,v10,rfl⟩
 rw [List.take_of_length_le (by rw [alk.length];exact Nat.le_refl _)] at hN4
 have lvt:=alt.length
 have t4:=ok.t4
 refine Za _ rfl (Zj d _ rfl (get s4 dt) (Zj da.lt _ rfl (.inl (Zg.of (s4 _ _ hlt))) (V3 _ rfl (by omega) (by omega) (W9 (fun i σ H'=>Zk H H'∧(∃ ru tp,UA D.ts ru tp i∧Yi t H' x a ⟨D.ss,D.ws,ru,D.ks,tp⟩)∧∃ v2 v3 v4 v5 v6 v7 v8 v9 v10 v11 v12 v13 v14:Option V,σ=[some (.ref d),some (.ref x),v2,v3,v4,v5,v6,v7,v8,v9,v10,v11,v12,v13,v14]) ⟨s4,ZK [] [] ⟨rfl,(fun i u h=>(nomatch h)),.nil⟩ hN4,_,_,_,_,_,_,_,_,_,_,_,_,_,rfl⟩ ?_ ?_))))
 ·rintro i σ H5 hi ⟨s5,⟨ru,tp,okR,hN5⟩,v2,v3,v4,v5,v6,v7,v8,v9,v10,v11,v12,v13,v14,rfl⟩
  have hi':i < vst.length:=by omega
  obtain ⟨y,ey,p,rv,lc,cvs,ep,hp,hrv,hlc,alc⟩:=alt.get (List.getElem?_eq_getElem hi')
  have eat:Yu vst (0+((i:Nat):Int))=some (.ref p):=by rw [Int.zero_add,← ep];exact Xz (List.getElem?_eq_getElem hi')
  have hym:=List.mem_of_getElem? ey
  have oky:=ok.t.ok y hym
  refine Za _ rfl (Zj d _ rfl (get s5 dt) (Za _ rfl (Zz da.lt _ _ _ rfl rfl (Zg.of (s5 _ _ hlt)) eat (Zo p _ rfl (Zu.of (s5 _ _ hp)) rfl (ZK _ _ rfl (ZK _ _ rfl (Zj _ _ rfl rfl ?_)))))))
  intro xo dxo nxo ndxo nexo
  have t6:=Yb (Zn ndxo (.own xo)) nxo (.ins t.XF dxo [])
  have hro:Xg t (Zd (Zd H5 dxo (.own xo)) xo (.ins t.XF dxo [])) (.ref xo) .all:=ZK xo dxo rfl Zh
  have s6:=s5.trans t6
  have hN6:=hN5.same t6
  generalize Zd (Zd H5 dxo (.own xo)) xo (.ins t.XF dxo [])=H6 at s6 hN6 hro ⊢
  refine Za (fun σ H'=>Zk H H'∧Yi t H' x a ⟨D.ss,D.ws,ru,D.ks,tp⟩∧∃ mv,((∃ n ss,y.r=.each n ss)∨Xg t H' mv y.r)∧σ=[some (.ref d),some (.ref x),some (.str y.nm),v3,v4,v5,v6,v7,v8,v9,v10,some (.int (0+((i:Nat):Int))),some rv,some (.ref lc),some mv]) ?_ ?_
  ·have hrv6:=hrv.same s6
   revert hrv6
   have okr:=oky.1
   revert okr
   cases hyr:y.r with
   | all =>
    rintro okr ⟨pr,rfl,hpr⟩
    exact Za _ rfl (Z7 pr _ 0 _ rfl rfl (Zu.of hpr) rfl rfl (Za _ rfl (ZH (by decide +kernel) ⟨s6,hN6,Za (.ref xo) (.inr hro) rfl⟩)))
   | week b =>
    rintro okr ⟨pr,rfl,hpr⟩
    refine Za _ rfl (Z7 pr _ 0 _ rfl rfl (Zu.of hpr) rfl rfl (Za _ rfl (YS (by decide +kernel) (Za _ rfl (Zz pr _ 1 _ rfl rfl (Zu.of hpr) rfl fun x' dx' nx' ndx' nex'=>?_)))))
    have t7:=Yb (Yb (Zn ndx' (.own x')) nx' (.ins t.Wg dx' [])) nx' (.ins t.Wg dx' [("bits",.int (b:Nat))])
    exact UQ x' dx' b rfl okr Zh rfl (s6.trans t7) (hN6.same t7) (Za (.ref x') (.inr (ZK x' dx' rfl Zh)) rfl)
   | each n ss =>
    rintro okr ⟨pr,lz,rfl,hpr,hlz⟩
    exact Za _ rfl (Z7 pr _ 0 _ rfl rfl (Zu.of hpr) rfl rfl (Za _ rfl (ZH (by decide +kernel) ⟨s6,hN6,Za (.ref xo) (.inl ⟨n,ss,rfl⟩) rfl⟩)))
  rintro σ H7 ⟨s7,hN7,mv,hmv,rfl⟩
  refine Za (fun σ H'=>Zk H H'∧Yi t H' x a ⟨D.ss,D.ws,ru,D.ks,tp⟩∧∃ mv,Xg t H' mv y.r∧σ=[some (.ref d),some (.ref x),some (.str y.nm),v3,v4,v5,v6,v7,v8,v9,v10,some (.int (0+((i:Nat):Int))),some rv,some (.ref lc),some mv]) ?_ ?_
  ·have hrv7:=hrv.same s7
   revert hrv7
   have okr:=oky.1
   revert okr
   revert hmv
   cases hyr:y.r with
   | all =>
    rintro hmv okr ⟨pr,rfl,hpr⟩
    rcases hmv with ⟨_,_,e⟩ | hmv
    ·cases e
    ·exact Za _ rfl (Z7 pr _ 0 _ rfl rfl (Zu.of hpr) rfl rfl (Za _ rfl (ZH (by decide +kernel) ⟨s7,hN7,Za mv hmv rfl⟩)))
   | week b =>
    rintro hmv okr ⟨pr,rfl,hpr⟩
    rcases hmv with ⟨_,_,e⟩ | hmv
    ·cases e
    ·exact Za _ rfl (Z7 pr _ 0 _ rfl rfl (Zu.of hpr) rfl rfl (Za _ rfl (ZH (by decide +kernel) ⟨s7,hN7,Za mv hmv rfl⟩)))
   | each n ss =>
    rintro hmv okr ⟨pr,lz,rfl,hpr,hlz⟩
    refine Za _ rfl (Z7 pr _ 0 _ rfl rfl (Zu.of hpr) rfl rfl (Za _ rfl (YS (by decide +kernel) (Za _ rfl (Zz pr _ 1 _ rfl rfl (Zu.of hpr) rfl (Za _ rfl (Zz pr _ 2 _ rfl rfl (Zu.of hpr) rfl (Zj lz _ rfl (.inl (Zg.of hlz)) fun l8 g8=>?_))))))))
    have t8:=Zn g8 (.lst (ss.map V.int))
    have c8:=@Zh H7 l8 (.lst (ss.map V.int))
    dsimp only [YM,YV,List.append_nil]
    have s8:=s7.trans t8
    have hN8:=hN7.same t8
    generalize Zd H7 l8 (.lst (ss.map V.int))=H8 at s8 hN8 c8 ⊢
    intro x' dx' nx' ndx' nex'
    have t9:=Yb (Zn ndx' (.own x')) nx' (.ins t.XY dx' [])
    refine Ql x' dx' l8 n ss rfl okr (t9 _ _ c8) Zh fun q0 H9 s9 hx9 hq9=>⟨rfl,?_⟩
    have u9:Zk H8 H9:=(We t9 nx').trans s9
    exact ⟨s8.trans u9,hN8.same u9,Za (.ref x') (XX x' dx' q0 rfl hx9 hq9) rfl⟩
  rintro σ H8 ⟨s8,hN8,mv,hmv,rfl⟩
  have hi4:i < 4:=by omega
  have er3:((0:Int)+((i:Nat):Int)) % 3=((i % 3:Nat):Int):=by omega
  have enm:(⟨#[114+i % 3]⟩:Str)++⟨#[117+i]⟩=XS i:=ZaX [114+i % 3] [117+i]
  have e0i:(0:Int)+((i:Nat):Int)=((i:Nat):Int):=by omega
  have nmR:Yw (XS i):=Zb1 (by show 1≤2;decide) (by show 2≤8;decide) (fun c hc=>by
   simp only [List.mem_cons,List.not_mem_nil,or_false] at hc
   rcases hc with rfl | rfl <;> omega)
  obtain ⟨ndx8,nfs8,ne1,ne2⟩:=hN8.ob
  refine Za _ rfl (ZI x ndx8 _ rfl ne1 ne2.n_add_rule (Za _ rfl (Zo _ _ rfl rfl (by show (0:Int) < 3;decide) (Yn _ _ _ rfl rfl (by decide) (by rw [er3];exact Zix _ (by omega)) (Za _ rfl (Yn _ _ _ rfl rfl (by decide) (by rw [e0i];exact Ziy _ hi4) (Zo _ _ rfl rfl (by show 1+1≤sizeLine;decide) (Za _ rfl ⟨x,a,_,⟨XS i,y.r⟩,mv,H,by rw [← enm];rfl,hN8,hW,s8,nmR,hmv,oky.1,okR.new,by show ru.length < 6;have:=okR.len;omega,fun H9 s9 hN9=>?_⟩))))))))
  obtain ⟨ndx9,nfs9,nf1,nf2⟩:=hN9.ob
  refine Za _ rfl (ZI x ndx9 _ rfl nf1 nf2.n_add_trip (Za _ rfl (Za _ rfl (Zo _ _ rfl rfl (by show (0:Int) < 3;decide) (Yn _ _ _ rfl rfl (by decide) (by rw [er3];exact Zix _ (by omega)) (Za _ rfl (Yn _ _ _ rfl rfl (by decide) (by rw [e0i];exact Ziy _ hi4) (Zo _ _ rfl rfl (by show 1+1≤sizeLine;decide) (Za _ rfl (Zj lc _ rfl (.inl (Zg.of (s9 _ _ hlc))) fun l10 g10=>?_))))))))))
  have t10:=Zn g10 (.lst cvs)
  have alt10:Al (Ye (Zd H9 l10 (.lst cvs))) cvs y.cs:=alc.imp fun _ _=>Ye.same (s9.trans t10)
  have ey2:=ok.t.nm i y ey
  refine ⟨x,a,_,⟨y.nm,XS i,y.cs⟩,l10,cvs,H,by rw [← enm];rfl,hN9.same t10,hW,s9.trans t10,Zh,alt10,oky.2.1,oky.2.2.1,by have:=oky.2.2.2;show y.cs.length≤6;omega,?_,?_,okR.newT ok.t ey,?_,fun H11 s11 _ hN11=>?_⟩
  ·show Yw y.nm
   rw [ey2]
   exact Zb1 (by show 1≤1;decide) (by show 1≤8;decide) (fun c hc=>by rw [List.mem_singleton.mp hc];omega)
  ·show (fnd Xk.nm (ru++[⟨XS i,y.r⟩]) (XS i)).isSome=true
   have e:=Ziw (nm:=Xk.nm) (xs:=ru) (x:=(⟨XS i,y.r⟩:Xk)) okR.new
   rw [show fnd Xk.nm (ru++[⟨XS i,y.r⟩]) (XS i)=some ⟨XS i,y.r⟩ from e];rfl
  ·show tp.length < 10
   have:=okR.al.length
   rw [List.length_take] at this
   omega
  ·exact ⟨s11,ZK _ _ (okR.snoc ey) hN11,_,_,_,_,_,_,_,_,_,_,_,_,_,rfl⟩
 ·rintro σ H5 ⟨s5,⟨ru,tp,okR,hN5⟩,v2,v3,v4,v5,v6,v7,v8,v9,v10,v11,v12,v13,v14,rfl⟩
  have al5:=okR.al
  rw [List.take_of_length_le (by omega)] at al5
  exact Za _ rfl (q x ru tp H5 s5 ⟨a,hN5⟩ al5)
theorem Yt.mono {H:Hp} {n:Addr} {b:NB} {TS:List Zs} {KF:ZW} {m m':Nat} (h:Yt t H n b TS KF m) (hm:m≤m'):Yt t H n b TS KF m':=by
 obtain ⟨h1,h2,h3,⟨k1,a1,a2,a3⟩,⟨k2,b1,b2,b3⟩⟩:=h
 exact ⟨h1,h2,h3,Zx k1 a1 (by omega) a3,(Zx k2 b1 (by omega) b3)⟩
theorem Yt.beside {H:Hp} {n k:Addr} {b:NB} {TS:List Zs} {KF:ZW} {m:Nat} {kvs:List (List Zt×V)} {o:HO} (h:Yt t H n b TS KF m) (hk:H k=some (.dT kvs)) (n1:k≠b.dk) (n2:k≠b.dl):Yt t (Zd H k o) n b TS KF m:=by
 obtain ⟨⟨dx,fs,e1,e2⟩,ap,⟨rows,h1,h2⟩,⟨k1,a1,a2,a3⟩,⟨k2,b1,b2,b3⟩⟩:=h
 refine ⟨ZK dx fs (VF hk Z2.dt e1) e2,ap,Za rows (by rw [Zl (YL h1 hk (by intro z;cases z))];exact h1) (h2.imp fun _ _=>Yx.put hk Z2.dt (fun _ z=>(nomatch z))),Zx k1 (by rw [Zl n1.symm];exact a1) a2 a3,(Zx k2 (by rw [Zl n2.symm];exact b1) b2 fun z day=>?_)⟩
 have:=b3 z day
 revert this
 cases KF z day with
 | none=>exact id
 | some o=>cases o with
  | none=>exact id
  | some ls=>exact fun ⟨l,e,h⟩=>Za l e (by rw [Zl (YL h hk (by intro z;cases z))];exact h)
def Y1 (z:Str) (day:Nat):List Zt:=[Sum.inr z,Sum.inl ((day:Nat):Int)]
theorem ZqX {d d':Nat} {z z':Str} (e:Y1 z' d'=Y1 z d):z'=z∧d'=d:=by
 unfold Y1 at e
 injection e with e1 e2
 injection e2 with e2 _
 have e2:=Sum.inl.inj e2
 exact ⟨Sum.inr.inj e1,by omega⟩
theorem XH.set {H:Hp} {k:Addr} {kvs:List (List Zt×V)} {KF:ZW} {z:Str} {day:Nat} {o:Option (List Nat)} {v:V} (h:XH H kvs KF) (hk:H k=some (.dT kvs)) (hv:match o with | none=>v=.non | some ls=>∃ l,v=.ref l∧H l=some (.lst (ls.map fun n=>V.int (n:Nat)))) {u:HO}:XH (Zd H k u) (Yv kvs (Y1 z day) v) (Wa KF z day o):=fun z' d'=>by
 have keep:∀ {p xs},H p=some (.lst xs)→Zd H k u p=some (.lst xs):=fun hp=>by rw [Zl (YL hp hk (by intro z;cases z))];exact hp
 have hb:=h z' d'
 show match Wa KF z day o z' d' with
  | none=>ZA (Yv kvs (Y1 z day) v) (Y1 z' d')=none
  | some none=>ZA (Yv kvs (Y1 z day) v) (Y1 z' d')=some .non
  | some (some ls)=>∃ l,ZA (Yv kvs (Y1 z day) v) (Y1 z' d')=some (.ref l)∧Zd H k u l=some (.lst (ls.map fun n=>V.int (n:Nat)))
 rw [WC]
 unfold Wa
 by_cases e:z'=z∧d'=day
 ·rw [if_pos e,e.1,e.2,if_pos rfl]
  cases o with
  | none=>rw [hv]
  | some ls=>obtain ⟨l,rfl,hl⟩:=hv;exact Za l rfl (keep hl)
 ·rw [if_neg e,if_neg fun z=>e (ZqX z)]
  have hb:match KF z' d' with
   | none=>ZA kvs (Y1 z' d')=none
   | some none=>ZA kvs (Y1 z' d')=some .non
   | some (some ls)=>∃ l,ZA kvs (Y1 z' d')=some (.ref l)∧H l=some (.lst (ls.map fun n=>V.int (n:Nat))):=hb
  revert hb
  cases KF z' d' with
  | none=>exact id
  | some o=>cases o with
   | none=>exact id
   | some ls=>exact fun ⟨l,e,h⟩=>Za l e (keep h)
theorem XH.keep {H H':Hp} {kvs:List (List Zt×V)} {KF:ZW} (s:V9 H H') (h:XH H kvs KF):XH H' kvs KF:=fun z day=>by
 have:=h z day
 revert this
 cases KF z day with
 | none=>exact id
 | some o=>cases o with
  | none=>exact id
  | some ls=>exact fun ⟨l,e,h⟩=>Za l e (s.lst h)
theorem Yt.keepD {H H':Hp} {n:Addr} {b:NB} {TS:List Zs} {KF:ZW} {m:Nat} (h:Yt t H n b TS KF m) (s:Zk (wo (wo H b.dk) b.dl) H'):V9 H H':=by
 obtain ⟨k1,a1,_⟩:=h.tk
 obtain ⟨k2,b1,_⟩:=h.lt
 exact fun a o e nd _=>s _ _ (Z4 (Z4 e (YL e a1 (nd _))) (YL e b1 (nd _)))
theorem Xw.set {TS:List Zs} {KF:ZW} (nd:(TS.map Zs.nm).Nodup) (h:Xw TS KF) {x:Zs} (hx:x∈TS) {day:Nat} {o:Option (List Nat)} (ho:∀ ls,o=some ls→ls.length=x.cs.length∧∀ l∈ls,l≤300):Xw TS (Wa KF x.nm day o):=fun y hy d ls hl=>by
 unfold Wa at hl
 by_cases e:y.nm=x.nm∧d=day
 ·rw [if_pos e] at hl
  have e1:=Uv nd hx
  have e2:=Uv nd hy
  rw [e.1,e1] at e2
  obtain rfl:=Option.some.inj e2
  exact ho ls (Option.some.inj hl)
 ·rw [if_neg e] at hl
  exact h y hy d ls hl
theorem ZqY {TS:List Zs} {KF:ZW} (kf:Xw TS KF) {x:Zs} (hx:x∈TS) {d c k:Nat} (hk:k≤300):∀ l∈Xo x (KF x.nm d) c k,l≤300:=fun l hl=>by
 unfold Xo at hl
 rcases List.mem_append.mp hl with hl | hl
 ·have hl:=List.mem_of_mem_take hl
  revert hl
  cases ho:KF x.nm d with
  | none=>exact fun hl=>by rw [List.eq_of_mem_replicate hl];omega
  | some o=>cases o with
   | none=>exact fun hl=>by rw [List.eq_of_mem_replicate hl];omega
   | some ls=>exact fun hl=>(kf x hx d ls ho).2 l hl
 ·rw [List.eq_of_mem_replicate hl];exact hk
def ZqZ (t:Z9) (K:W.Frag):Sp:=fun vs H Q _=>∃ (d a n:Addr) (b:NB) (ns:List Int) (f day:Nat) (SS:List Z3) (TS:List Zs) (G:Hp),vs=[.ref d,.ref a,.int (f:Nat),.int (day:Nat),.ref n]∧Zk G H∧G b.dk=none∧G b.dl=none∧WX G d TS∧Zg K G a (ns.map V.int)∧f≤100∧Yt t H n b TS K0 0∧W0 SS TS∧2≤TS.length∧TS.length≤4∧day≤10000 ∧
 ∀ KF k kvs H',Zk G H'→G k=none→k≠b.dk→k≠b.dl→Yt t H' n b TS KF 3→H' k=some (.dT kvs)→XH H' kvs KF→kvs.length≤3→Xw TS KF→Q (.ref k) H'
theorem Zq0 (Tx:ZO K mg t):ZF P w K mg base ZE 7 t.Zdp t.Zdq ["_law_data","_law_script","_law_first","_law_day","_law_notices"] (ZqZ t K):=by
 refine Tx.ZhB.ok Vg (fun vs H Q E h=>?_) (fun cdv A outer s H vs Q E hr h=>?_)
 ·obtain ⟨d,a,n,b,ns,f,day,SS,TS,G,rfl,_⟩:=h
  rfl
 obtain ⟨d,a,n,b,ns,f,day,SS,TS,G,rfl,sG,gk,gl,hD,hS,f100,hN,okT,t2,t4,d4,q⟩:=h
 have TO:=okT.ts t4
 obtain ⟨dkv,lt,tvs,hd,hdt,hlt,alt⟩:=hD
 have get:∀ {H':Hp},Zk G H'→Yd H' d (.str (Str.ofString "trips")) (some (.ref lt)):=fun s'=>by rw [← hdt];exact Yd.k (k:=Sum.inr (Str.ofString "trips")) (s' _ _ hd)
 have ltv:=alt.length
 refine Za _ (Zm (ZJ (i:=5) Vg.nd rfl (Or.inl rfl) Zay)
  (Zm (YU PassesOwn.never rfl (VN rfl Tx.WU (Zb (Zi ZP (ZB (WK Tx) (hr.mono (by omega)) rfl Tx.WI Tx.Wr.kp Tx.WJ .nil Zr (Zb (pv 1) (Zb (pv 2) Ze))) Zc) Ze)) (ZU (i:=6) Vg.nd rfl (Or.inl rfl))
  (Zm (ZJ (i:=7) Vg.nd rfl (Or.inl rfl) (ZB (VD Tx) (hr.mono (by omega)) rfl Tx.VB Tx.Vj.kp Tx.VC .nil Zr (Zb (ZB (WK Tx) (hr.mono (by omega)) rfl Tx.WI Tx.Wr.kp Tx.WJ .nil Zr (Zb (pv 1) (Zb (pv 2) Ze))) (Zb (pv 6) Ze))))
  (Zm (Zb5 (Zw YA (Xa (Z8 hr) (pv 0) Yk (fun _ _=>rfl)) (Zi ZP (pv 7) (ZV Xh rfl Tx.YZ YX (Zb (Xa (Z8 hr) (pv 0) Yk (fun _ _=>rfl)) Ze))) (fun _ _=>rfl)) (W7 rfl (YD (ZU (i:=8) Vg.nd rfl (Or.inl rfl)) (YD (ZU (i:=9) Vg.nd rfl (Or.inl rfl)) (YD (ZU (i:=10) Vg.nd rfl (Or.inl rfl)) W3)))))
  (Zm (ZJ (i:=11) Vg.nd rfl (Or.inl rfl) (ZV (Zar rfl) rfl Tx.ZaL ZaG (Zb Zc (Zb (ZV (Zaq rfl) rfl Tx.ZaK ZaF (Zb Zc (Zb (Zi ZZ (Zi XL (Zi ZZ (pv 3) (Zi ZP (Zi Yl (pv 7) Zc) Zc)) Zc) (Zi ZP (Zi Yl (pv 7) Zc) Zc)) Ze))) Ze))))
  (Zm (ZJ (i:=12) Vg.nd rfl (Or.inl rfl) (Zi ZP (Zi Yl (pv 7) Zc) (ZV Xh rfl Tx.YZ YX (Zb (pv 10) Ze))))
  (Zm (ZJ (i:=13) Vg.nd rfl (Or.inl rfl) (Zw YA (Yj (Zb (Zi ZP (Zi Yl (pv 7) Zc) Zc) (Zb Zc (Zb Zc (Zb Zc Ze))))) (Zi ZP (Zi Yl (pv 7) Zc) Zc) (fun _ _=>rfl)))
  (Zm (ZJ (i:=14) Vg.nd rfl (Or.inl rfl) (Zcv (Z8 hr) (pv 5) (Yf (Zb (pv 8) (Zb (pv 11) Ze))) (Zi Qc (Yj (Zb Zc Ze)) (ZV Xh rfl Tx.YZ YX (Zb (pv 10) Ze))) ⟨rfl,rfl,rfl,rfl⟩))
  (Zm (ZX (PW.pt (VM (Yq (Ym (ZB (Zh4 Tx) (hr.mono (by omega)) rfl Tx.Zhy Tx.Zes.kp Tx.Zhz .nil Zr (Zb (pv 9) (Zb (pv 11) Ze))))) (VL (VJ (Za9 (pv 14))))))
  (Zp Ze1)
  ZY)
  (Zp (ZX (Xd Wc (Zi ZP (Zi Yl (pv 7) Zc) Zc) Zc (YJ _))
  (Zm (Z0 (YR (pv 4) Tx.YK Tx.ZoT (ZqH Tx) (hr.mono (by omega)) Tx.Zos .nil Zr (Zb (pv 8) (Zb (pv 11) Ze))))
  (Zp (Vv (Z8 hr) (pv 5) (Yf (Zb (pv 8) (Zb (pv 11) Ze))) UB rfl)))
  (Zp (ZX (Ym (ZB (Zpx Tx) (hr.mono (by omega)) rfl Tx.ZnF Tx.ZhA.kp Tx.ZnG .nil Zr (Zb (pv 10) (Zb (Zi Zci (Vp Zat (pv 14) Vn (Vo (pv 12))) (Zi Qc (Yj (Zb (pv 13) Ze)) (Zi XL (ZV Xh rfl Tx.YZ YX (Zb (pv 10) Ze)) (pv 12)))) Ze))))
  (Zm (Z0 (YR (pv 4) Tx.YK Tx.ZhV (Zim Tx) (hr.mono (by omega)) Tx.ZhJ .nil Zr (Zb (pv 8) (Zb (pv 11) (Zb (pv 12) (Zb (pv 13) Ze))))))
  (Zp (Vv (Z8 hr) (pv 5) (Yf (Zb (pv 8) (Zb (pv 11) Ze))) (Zi Zci (Vp Zat (pv 14) Vn (Vo (pv 12))) (Zi Qc (Yj (Zb (pv 13) Ze)) (Zi XL (ZV Xh rfl Tx.YZ YX (Zb (pv 10) Ze)) (pv 12)))) rfl)))
  ZY))))))))))))
  (Zp (ZT (pv 5))))) ?_
 intro k hk0
 have t1:=Zn hk0 (.dT [])
 have s1:=sG.trans t1
 have gkk:=sG.free hk0
 have nk1:k≠b.dk:=fun e=>by obtain ⟨kv,h1,_⟩:=hN.tk;rw [e,h1] at hk0;cases hk0
 have nk2:k≠b.dl:=fun e=>by obtain ⟨kv,h1,_⟩:=hN.lt;rw [e,h1] at hk0;cases hk0
 have hN1:=hN.same t1
 have c1:=@Zh H k (.dT [])
 generalize Zd H k (.dT [])=H1 at s1 hN1 c1 ⊢
 refine Za _ rfl (Za _ rfl (ZI a ns f rfl (s1.seq hS) (by omega) (Zo _ _ rfl rfl (by show (0:Int) < 3;decide) (V3 _ rfl (by omega) (by omega) ?_))))
 generalize Wk ns f=c
 refine W9 (fun i σ H'=>∃ (KF:ZW) (kvs:List (List Zt×V)) (v6 v7 v8 v9 v10 v11 v12 v13 v14:Option V),Zk G H'∧Yt t H' n b TS KF i∧H' k=some (.dT kvs)∧kvs.length≤i∧XH H' kvs KF∧Xw TS KF∧σ=[some (.ref d),some (.ref a),some (.int (f:Nat)),some (.int (day:Nat)),some (.ref n),some (.ref k),v6,v7,v8,v9,v10,v11,v12,v13,v14]) ⟨K0,[],none,none,none,none,none,none,none,none,none,s1,hN1,c1,Nat.le_refl _,fun z d=>rfl,Xw.k0,rfl⟩ ?_ ?_
 ·rintro i σ H2 hi ⟨KF,kvs,v6,v7,v8,v9,v10,v11,v12,v13,v14,s2,hN2,hk2,lk2,kp2,kf2,rfl⟩
  refine Za _ rfl (Za _ rfl (ZI a ns f rfl (s2.seq hS) (by omega) (Za _ rfl (Zo _ _ rfl (by omega) (by omega) ?_))))
  generalize Wj _ _=g
  have pT:0 < TS.length:=by omega
  have eg:((g:Nat):Int) % ((tvs.length:Nat):Int)=((g % TS.length:Nat):Int):=by rw [ltv];rfl
  have hjl:g % TS.length < TS.length:=Nat.mod_lt _ pT
  obtain ⟨x,ex,p,rv,lc,cvs,ep,hp,hrv,hlc,alc⟩:=alt.get (List.getElem?_eq_getElem (show g % TS.length < tvs.length by omega))
  have eat:Yu tvs (((g:Nat):Int) % ((tvs.length:Nat):Int))=some (.ref p):=by rw [eg,← ep];exact Xz (List.getElem?_eq_getElem (by omega))
  have hx:=List.mem_of_getElem? ex
  have efnd:=Uv TO.nd hx
  have okx:=okT.ok x hx
  have lcs:=alc.length
  refine Za _ rfl (Zj d _ rfl (get s2) (Za _ rfl (Za _ rfl (Zj d _ rfl (get s2) (Zj lt _ rfl (.inl (Zg.of (s2 _ _ hlt))) (Zo _ _ rfl rfl (by show (0:Int) < ((tvs.length:Nat):Int);omega) (Zz lt _ _ _ rfl rfl (Zg.of (s2 _ _ hlt)) eat (Zo p _ rfl (Zu.of (s2 _ _ hp)) rfl (ZK _ _ rfl (ZK _ _ rfl (Zj _ _ rfl rfl ?_)))))))))))
  refine Za _ rfl (Za _ rfl (Zo _ _ rfl rfl ⟨by decide,by decide⟩ (Zo _ _ rfl rfl (by show (0:Int) < 2;decide) (Zj _ _ rfl rfl (Zj _ _ rfl rfl (Za _ rfl (Zo _ _ rfl rfl ⟨by decide,by decide⟩ (Zo _ _ rfl rfl (by show (0:Int) < 2;decide) (Zj _ _ rfl rfl (ZK _ _ rfl (ZK _ _ rfl ?_)))))))))))
  obtain ⟨th,eth,hth⟩:∃ th:Nat,(if (if ((day:Nat):Int)+((g:Nat):Int) / 8 % 2 - 1+((g:Nat):Int) / 16 % 2 > 0 then ((day:Nat):Int)+((g:Nat):Int) / 8 % 2 - 1+((g:Nat):Int) / 16 % 2 else 0) < 9999 then (if ((day:Nat):Int)+((g:Nat):Int) / 8 % 2 - 1+((g:Nat):Int) / 16 % 2 > 0 then ((day:Nat):Int)+((g:Nat):Int) / 8 % 2 - 1+((g:Nat):Int) / 16 % 2 else 0) else 9999)=((th:Nat):Int)∧th≤9999:=by
   generalize ((day:Nat):Int)+((g:Nat):Int) / 8 % 2 - 1+((g:Nat):Int) / 16 % 2=X
   refine (Za ((if (if X > 0 then X else 0) < 9999 then (if X > 0 then X else 0) else 9999).toNat) ?_ ?_) <;> split <;> split <;> omega
  dsimp only
  rw [eth]
  have c4:=okx.2.2.2
  have c2:=okx.2.2.1
  refine Za _ rfl (Zo _ _ rfl rfl ⟨by decide,by decide⟩ (Za _ rfl (Zj lc _ rfl (.inl (Zg.of (s2 _ _ hlc))) (Zo _ _ rfl rfl (by show (0:Int) < ((cvs.length:Nat):Int);omega) ?_))))
  have ecl:((g:Nat):Int) / 32 % ((cvs.length:Nat):Int)=((g / 32 % x.cs.length:Nat):Int):=by rw [lcs,Int.natCast_emod,Int.natCast_ediv];rfl
  dsimp only
  rw [ecl]
  have hcl:g / 32 % x.cs.length < x.cs.length:=Nat.mod_lt _ (by omega)
  generalize g / 32 % x.cs.length=cl at hcl ⊢
  refine Za _ rfl (Zo _ _ rfl rfl ⟨by decide,by decide⟩ (Xm _ _ rfl rfl (by show (0:Int) < 30;decide) (by show 4≤sizeLine;decide) fun q1 h1=>?_))
  obtain ⟨vl,evl,lm,rfl,hlm⟩:=Vs (p:=fun v=>∃ b:Nat,v=.int (b:Nat)∧b≤300) (xs:=[.int (((g:Nat):Int) / 128 % 30),.int 300,.int 5,.int 60]) (d:=((g:Nat):Int) / 4096 % 4) (fun v hv=>by
   simp only [List.mem_cons,List.not_mem_nil,or_false] at hv
   rcases hv with rfl | rfl | rfl | rfl
   ·exact Za (g / 128 % 30) rfl (by omega)
   ·exact Za 300 rfl (by decide)
   ·exact Za 5 rfl (by decide)
   ·exact Za 60 rfl (by decide)) (by omega) (by show ((g:Nat):Int) / 4096 % 4 < 4;omega)
  have w1:=Zn h1 (.lst [.int (((g:Nat):Int) / 128 % 30),.int 300,.int 5,.int 60])
  have k1:=@Zh H2 q1 (.lst [.int (((g:Nat):Int) / 128 % 30),.int 300,.int 5,.int 60])
  dsimp only [YM,YV,List.append_nil]
  generalize Zd H2 q1 (.lst [.int (((g:Nat):Int) / 128 % 30),.int 300,.int 5,.int 60])=H3 at w1 k1 ⊢
  have s3:=s2.trans w1
  refine Za _ rfl (Zo _ _ rfl rfl ⟨by decide,by decide⟩ (Zo _ _ rfl rfl (by show (0:Int) < 4;decide) (Zz q1 _ _ _ rfl rfl (Zg.of k1) evl ?_)))
  refine Za _ rfl (Zx k rfl (.inr ⟨kvs,.inl (w1 _ _ hk2)⟩) (Za _ rfl (Zx _ rfl (by show 2≤sizeLine;decide) fun pk gpk=>?_)))
  have w4:=Zn gpk (.tup [.str x.nm,.int (th:Nat)])
  have ck:=@Zh H3 pk (.tup [.str x.nm,.int (th:Nat)])
  dsimp only [YM,YV,List.append_nil]
  generalize Zd H3 pk (.tup [.str x.nm,.int (th:Nat)])=H4 at w4 ck ⊢
  have W4:=w1.trans w4
  refine ⟨by show 1≤sizeLine;decide,fun p0 g0=>?_⟩
  have w5:=Zn g0 (.lst [.int 0])
  have c0:=@Zh H4 p0 (.lst [.int 0])
  have ck5:=w5 _ _ ck
  have W5:=W4.trans w5
  generalize Zd H4 p0 (.lst [.int 0])=H5 at c0 ck5 W5 ⊢
  refine Za _ rfl (Zj lc _ rfl (.inl (Zg.of ((s2.trans W5) _ _ hlc))) (UQ p0 ((cvs.length:Nat):Int) _ rfl rfl c0 (by omega) (by omega) (by show 1 * _≤sizeLine;exact Nat.le_trans (show _≤6 by omega) (by decide)) fun pr gr=>?_))
  have er0:(List.replicate ((cvs.length:Nat):Int).toNat [V.int 0]).flatten=(List.replicate x.cs.length 0).map fun n:Nat=>V.int (n:Nat):=by
   rw [show ((cvs.length:Nat):Int).toNat=x.cs.length by omega]
   exact Za1 _ 0
  rw [er0]
  have w6:=Zn gr (.lst ((List.replicate x.cs.length 0).map fun n:Nat=>V.int (n:Nat)))
  have cr:=@Zh H5 pr (.lst ((List.replicate x.cs.length 0).map fun n:Nat=>V.int (n:Nat)))
  have ck6:=w6 _ _ ck5
  have W6:=W5.trans w6
  generalize Zd H5 pr (.lst ((List.replicate x.cs.length 0).map fun n:Nat=>V.int (n:Nat)))=H6 at W6 cr ck6 ⊢
  refine Za _ (Yd.t (k:=Y1 x.nm th) (W6 _ _ hk2) ck6) ?_
  have s6:=s2.trans W6
  have hN6:=hN2.same W6
  have hk6:=W6 _ _ hk2
  have kp6:=kp2.same W6
  have hkv:=kp6 x.nm th
  have stay:∀ (H':Hp),Zk H6 H'→Zk G H'∧Yt t H' n b TS KF (i+1)∧H' k=some (.dT kvs)∧kvs.length≤i+1∧XH H' kvs KF∧Xw TS KF:=fun H' s'=>⟨s6.trans s',(hN6.same s').mono (by omega),s' _ _ hk6,by omega,kp6.same s',kf2⟩
  have hls:∀ ls,KF x.nm th=some (some ls)→ls.length=x.cs.length:=fun ls h=>(kf2 x hx th ls h).1
  have hcase:(KF x.nm th=some none∧ZA kvs (Y1 x.nm th)=some .non)∨∃ ll,KF x.nm th≠some none∧(ZA kvs (Y1 x.nm th)).getD (.ref pr)=.ref ll∧H6 ll=some (.lst ((Y0 x (KF x.nm th)).map fun n=>V.int (n:Nat))):=by
   revert hkv
   cases KF x.nm th with
   | none=>exact fun hkv=>.inr (Zx pr (fun z=>(nomatch z)) (by rw [show ZA kvs (Y1 x.nm th)=none from hkv];rfl) cr)
   | some o=>cases o with
    | none=>exact fun hkv=>.inl ⟨rfl,hkv⟩
    | some ls=>exact fun ⟨ll,e,h⟩=>.inr (Zx ll (fun z=>(nomatch z)) (by rw [show ZA kvs (Y1 x.nm th)=some (.ref ll) from e];rfl) h)
  refine Za _ rfl (Za _ rfl (ZI rv x.r th rfl (hrv.same s6) okx.1 fun H7 s7=>(Za _ rfl ?_)))
  cases hru:x.r.runs th with
  | false =>
   obtain ⟨a1,a2,a3,a4,a5,a6⟩:=stay H7 s7
   exact YS (by decide) ⟨KF,kvs,_,_,_,_,_,_,_,_,_,a1,a2,a3,a4,a5,a6,rfl⟩
  | true =>
   refine ZH (by decide) ?_
   rcases hcase with ⟨hnn,hv0⟩ | ⟨ll,nk,hv0,hll⟩
   ·rw [hv0]
    obtain ⟨a1,a2,a3,a4,a5,a6⟩:=stay H7 s7
    exact Za _ rfl (Za _ rfl (YS (decide_eq_true rfl) ⟨KF,kvs,_,_,_,_,_,_,_,_,_,a1,a2,a3,a4,a5,a6,rfl⟩))
   ·rw [hv0]
    refine Za _ rfl (Za _ rfl (ZH (by rw [decide_eq_false (fun z=>(nomatch z))];decide) ?_))
    have hN7:=hN6.same s7
    have hk7:=s7 _ _ hk6
    have kp7:=kp6.same s7
    have hll7:=s7 _ _ hll
    have sG7:=s6.trans s7
    obtain ⟨ndx,nfs,ne1,ne2⟩:=hN7.ob
    refine Za _ rfl (Zo _ _ rfl rfl ⟨by decide,by decide⟩ (Xm _ _ rfl rfl (by show (0:Int) < 3;decide) rfl (Za _ rfl (XO (fun _=>?_) (fun _=>?_)))))
    ·refine Za _ rfl (ZI n ndx _ rfl ne1 ne2.n_out (Za _ rfl (Za _ rfl ⟨n,b,TS,KF,i,x.nm,th,x,rfl,hN7,by omega,efnd,hth,okx.1,hru,nk,fun H8 s8 hN8=>?_⟩)))
     have sG8:=(We (We sG7 gk) gl).trans s8
     have kd:=hN7.keepD s8
     have hk8:=s8 _ _ (Z4 (Z4 hk7 nk1) nk2)
     have kp8:=kp7.keep kd
     refine Za _ rfl (Za _ rfl (Zx _ rfl (by show 2≤sizeLine;decide) fun p9 g9=>?_))
     have t9:=Zn g9 (.tup [.str x.nm,.int (th:Nat)])
     have hk9:=t9 _ _ hk8
     refine Zj k _ rfl (XW.t (k:=Y1 x.nm th) hk9 Zh (Nat.lt_of_le_of_lt (show kvs.length≤10 by omega) (by decide))) ?_
     exact ⟨Wa KF x.nm th none,_,_,_,_,_,_,_,_,_,_,Yb (sG8.trans t9) gkk _,(hN8.same t9).beside hk9 nk1 nk2,Zh,Nat.le_trans (UK _ _ _) (by omega),XH.set (o:=none) (kp8.same t9) hk9 rfl,kf2.set TO.nd hx (fun ls h=>(nomatch h)),rfl⟩
    ·skip
     refine Za _ rfl (Za _ rfl (Za _ rfl (Za _ rfl (Zj ll _ rfl (Zg.of hll7) fun q3 g3=>?_))))
     rw [show X4 ((Y0 x (KF x.nm th)).map fun n:Nat=>V.int (n:Nat)) none (some ((cl:Nat):Int))=((Y0 x (KF x.nm th)).take cl).map fun n:Nat=>V.int (n:Nat) by rw [ZeJ,List.map_take]]
     have y3:=Zn g3 (.lst (((Y0 x (KF x.nm th)).take cl).map fun n:Nat=>V.int (n:Nat)))
     have d3:=@Zh H7 q3 (.lst (((Y0 x (KF x.nm th)).take cl).map fun n:Nat=>V.int (n:Nat)))
     generalize Zd H7 q3 (.lst (((Y0 x (KF x.nm th)).take cl).map fun n:Nat=>V.int (n:Nat)))=J3 at y3 d3 ⊢
     refine Zx _ rfl (by show 1≤sizeLine;decide) fun q4 g4=>?_
     have y4:=Zn g4 (.lst [.int (lm:Nat)])
     have d4:=@Zh J3 q4 (.lst [.int (lm:Nat)])
     have d34:=y4 _ _ d3
     have Y4:=y3.trans y4
     dsimp only [YM,YV,List.append_nil]
     generalize Zd J3 q4 (.lst [.int (lm:Nat)])=J4 at Y4 d4 d34 ⊢
     refine Za _ rfl (Zj lc _ rfl (.inl (Zg.of ((sG7.trans Y4) _ _ hlc))) (Za _ rfl (Zj _ _ rfl rfl (UQ q4 (((cvs.length:Nat):Int) - ((cl:Nat):Int)) _ rfl rfl d4 (by omega) (by omega) (by show 1 * _≤sizeLine;exact Nat.le_trans (show _≤6 by omega) (by decide)) fun q5 g5=>?_))))
     rw [show (((cvs.length:Nat):Int) - ((cl:Nat):Int)).toNat=x.cs.length - cl by omega,Za1]
     have y5:=Zn g5 (.lst ((List.replicate (x.cs.length - cl) lm).map fun n:Nat=>V.int (n:Nat)))
     have Y5:=Y4.trans y5
     have d5:=@Zh J4 q5 (.lst ((List.replicate (x.cs.length - cl) lm).map fun n:Nat=>V.int (n:Nat)))
     have d35:=y5 _ _ d34
     generalize Zd J4 q5 (.lst ((List.replicate (x.cs.length - cl) lm).map fun n:Nat=>V.int (n:Nat)))=J5 at Y5 d5 d35 ⊢
     refine Z7 q3 q5 _ _ rfl rfl d35 d5 (by rw [List.length_map,List.length_map,List.length_take,List.length_replicate,Za2 hls];exact Nat.le_trans (show _≤6 by omega) (by decide)) fun q6 g6=>?_
     rw [← List.map_append,show (Y0 x (KF x.nm th)).take cl++List.replicate (x.cs.length - cl) lm=Xo x (KF x.nm th) cl lm from rfl]
     have y6:=Zn g6 (.lst ((Xo x (KF x.nm th) cl lm).map fun n:Nat=>V.int (n:Nat)))
     have Y6:=Y5.trans y6
     have d6:=@Zh J5 q6 (.lst ((Xo x (KF x.nm th) cl lm).map fun n:Nat=>V.int (n:Nat)))
     generalize Zd J5 q6 (.lst ((Xo x (KF x.nm th) cl lm).map fun n:Nat=>V.int (n:Nat)))=J6 at Y6 d6 ⊢
     have ll6:=Zil hls lm (show cl≤x.cs.length by omega)
     refine Z5 lc q6 cvs x.cs _ rfl (Zg.of ((sG7.trans Y6) _ _ hlc)) (alc.imp fun _ _=>Ye.same (sG7.trans Y6)) (Zg.of d6) ll6 fun K1 z1=>(Za _ rfl ?_)
     have Z1:=Y6.trans z1
     have hNz:=hN7.same Z1
     have hkz:=Z1 _ _ hk7
     have kpz:=kp7.same Z1
     have hllz:=Z1 _ _ hll7
     have sGz:=sG7.trans Z1
     cases hri:Ws (-1) x.cs (Xo x (KF x.nm th) cl lm) with
     | false =>
      exact ZH (by decide) ⟨KF,kvs,_,_,_,_,_,_,_,_,_,sGz,hNz.mono (by omega),hkz,by omega,kpz,kf2,rfl⟩
     | true =>
     refine YS rfl ?_
     refine Za _ rfl (ZI n ndx _ rfl (Z1 _ _ ne1) ne2.n_late (Za _ rfl (Za _ rfl (Za _ rfl (Za _ rfl ⟨n,b,TS,KF,i,x.nm,th,cl,lm,x,rfl,hNz,by omega,efnd,hth,okx.1,by omega,hru,nk,hls,hcl,hlm,ZeS hri (fun i a b ha hb=>(okx.2.1.fol i a b ha hb).1),fun H8 s8 hN8=>?_⟩)))))
     have sG8:=(We (We sGz gk) gl).trans s8
     have kd:=hNz.keepD s8
     have hk8:=s8 _ _ (Z4 (Z4 hkz nk1) nk2)
     have kp8:=kpz.keep kd
     have hll8:=kd.lst hllz
     refine Za _ rfl (Za _ rfl (Za _ rfl (Zj ll _ rfl (Zg.of hll8) fun q3 g3=>?_)))
     rw [show X4 ((Y0 x (KF x.nm th)).map fun n:Nat=>V.int (n:Nat)) none (some ((cl:Nat):Int))=((Y0 x (KF x.nm th)).take cl).map fun n:Nat=>V.int (n:Nat) by rw [ZeJ,List.map_take]]
     have y3:=Zn g3 (.lst (((Y0 x (KF x.nm th)).take cl).map fun n:Nat=>V.int (n:Nat)))
     have d3:=@Zh H8 q3 (.lst (((Y0 x (KF x.nm th)).take cl).map fun n:Nat=>V.int (n:Nat)))
     generalize Zd H8 q3 (.lst (((Y0 x (KF x.nm th)).take cl).map fun n:Nat=>V.int (n:Nat)))=J3 at y3 d3 ⊢
     refine Zx _ rfl (by show 1≤sizeLine;decide) fun q4 g4=>?_
     have y4:=Zn g4 (.lst [.int (lm:Nat)])
     have d4:=@Zh J3 q4 (.lst [.int (lm:Nat)])
     have d34:=y4 _ _ d3
     have Y4:=y3.trans y4
     dsimp only [YM,YV,List.append_nil]
     generalize Zd J3 q4 (.lst [.int (lm:Nat)])=J4 at Y4 d4 d34 ⊢
     refine Za _ rfl (Zj lc _ rfl (.inl (Zg.of ((sG8.trans Y4) _ _ hlc))) (Za _ rfl (Zj _ _ rfl rfl (UQ q4 (((cvs.length:Nat):Int) - ((cl:Nat):Int)) _ rfl rfl d4 (by omega) (by omega) (by show 1 * _≤sizeLine;exact Nat.le_trans (show _≤6 by omega) (by decide)) fun q5 g5=>?_))))
     rw [show (((cvs.length:Nat):Int) - ((cl:Nat):Int)).toNat=x.cs.length - cl by omega,Za1]
     have y5:=Zn g5 (.lst ((List.replicate (x.cs.length - cl) lm).map fun n:Nat=>V.int (n:Nat)))
     have Y5:=Y4.trans y5
     have d5:=@Zh J4 q5 (.lst ((List.replicate (x.cs.length - cl) lm).map fun n:Nat=>V.int (n:Nat)))
     have d35:=y5 _ _ d34
     generalize Zd J4 q5 (.lst ((List.replicate (x.cs.length - cl) lm).map fun n:Nat=>V.int (n:Nat)))=J5 at Y5 d5 d35 ⊢
     refine Z7 q3 q5 _ _ rfl rfl d35 d5 (by rw [List.length_map,List.length_map,List.length_take,List.length_replicate,Za2 hls];exact Nat.le_trans (show _≤6 by omega) (by decide)) fun q6 g6=>?_
     rw [← List.map_append,show (Y0 x (KF x.nm th)).take cl++List.replicate (x.cs.length - cl) lm=Xo x (KF x.nm th) cl lm from rfl]
     have y6:=Zn g6 (.lst ((Xo x (KF x.nm th) cl lm).map fun n:Nat=>V.int (n:Nat)))
     have Y6:=Y5.trans y6
     have d6:=@Zh J5 q6 (.lst ((Xo x (KF x.nm th) cl lm).map fun n:Nat=>V.int (n:Nat)))
     generalize Zd J5 q6 (.lst ((Xo x (KF x.nm th) cl lm).map fun n:Nat=>V.int (n:Nat)))=J6 at Y6 d6 ⊢
     refine Za _ rfl (Za _ rfl (Zx _ rfl (by show 2≤sizeLine;decide) fun p9 g9=>?_))
     have t9:=Zn g9 (.tup [.str x.nm,.int (th:Nat)])
     have Y9:=Y6.trans t9
     have hk9:=Y9 _ _ hk8
     refine Zj k _ rfl (XW.t (k:=Y1 x.nm th) hk9 Zh (Nat.lt_of_le_of_lt (show kvs.length≤10 by omega) (by decide))) ?_
     exact ⟨Wa KF x.nm th (some (Xo x (KF x.nm th) cl lm)),_,_,_,_,_,_,_,_,_,_,Yb (sG8.trans Y9) gkk _,(hN8.same Y9).beside hk9 nk1 nk2,Zh,Nat.le_trans (UK _ _ _) (by omega),XH.set (o:=some _) (kp8.same Y9) hk9 (Za q6 rfl (t9 _ _ d6)),kf2.set TO.nd hx (fun ls h=>by obtain rfl:=Option.some.inj h;exact ⟨ll6,ZqY kf2 hx hlm⟩),rfl⟩
 ·rintro σ H2 ⟨KF,kvs,v6,v7,v8,v9,v10,v11,v12,v13,v14,s2,hN2,hk2,lk2,kp2,kf2,rfl⟩
  exact Za _ rfl (q KF k kvs H2 s2 gkk nk1 nk2 (hN2.mono (by omega)) hk2 kp2 (by omega) kf2)
def dM (m:Str×Int×Int):PyData:=.tuple [.str m.1,.int m.2.1,.int m.2.2]
def dR (r:Rn):PyData:=.tuple [.str r.nm,.int ((r.day:Nat):Int),.list (r.ms.map dM)]
def Zb2 (r:Rn):Prop:=Yw r.nm∧∀ m∈r.ms,Yw m.1
theorem Ziz {H:Hp} {K:W.Frag}:∀ {vs:List V} {ms:List (Str×Int×Int)},Al (YI H) vs ms→(∀ m∈ms,Yw m.1)→Xi K H vs (ms.map dM)
 | _,_,.nil,_=>.nil
 | _,_,.cons ⟨p,e,h⟩ r,ok=>by
  subst e
  exact .cons (.tup (Zu.of h) (.cons (.str _ (WY (ok _ List.mem_cons_self))) (.cons (.int _) (.cons (.int _) .nil)))) (Ziz r fun m hm=>ok m (List.mem_cons_of_mem _ hm))
theorem ZeT {G H:Hp} {K:W.Frag}:∀ {vs:List V} {S:List Rn},Al (Yg G H) vs S→(∀ r∈S,Zb2 r)→Xi K H vs (S.map dR)
 | _,_,.nil,_=>.nil
 | _,_,.cons ⟨p,l,ws,e,h1,h2,h3,_⟩ r,ok=>by
  subst e
  have:=ok _ List.mem_cons_self
  exact .cons (.tup (Zu.of h1) (.cons (.str _ (WY this.1)) (.cons (.int _) (.cons (.lst (Zg.of h2) (Ziz h3 this.2)) .nil)))) (ZeT r fun m hm=>ok m (List.mem_cons_of_mem _ hm))
theorem ZiA:∀ ms:List (Str×Int×Int),PyData.depthAll (ms.map dM)≤1
 | []=>by simp [PyData.depthAll]
 | m::ms=>by
  have:=ZiA ms
  simp [dM,PyData.depth,PyData.depthAll]
  omega
theorem ZiB:∀ S:List Rn,PyData.depthAll (S.map dR)≤3
 | []=>by simp [PyData.depthAll]
 | r::S=>by
  have:=ZiB S
  have:=ZiA r.ms
  simp [dR,PyData.depth,PyData.depthAll]
  omega
def Zq1 (K:W.Frag):Sp:=fun vs H Q _=>∃ (l l':Addr) (xs ys:List V) (S:List Rn) (G G':Hp),vs=[.ref l,.ref l']∧H l=some (.lst xs)∧Al (Yg G H) xs S∧H l'=some (.lst ys)∧Al (Yg G' H) ys S∧(∀ r∈S,Zb2 r)∧∀ H',Zk H H'→Q (.bl true) H'
theorem ZeU (Tx:ZO K mg t):ZF P w K mg base ZE 1 t.Zdu t.Zdv ["_law_found","_law_due"] (Zq1 K):=by
 refine Tx.ZbQ.ok ZcB (fun vs H Q E h=>?_) (fun cdv A outer s H vs Q E hr h=>?_)
 ·obtain ⟨l,l',xs,ys,S,G,G',rfl,_⟩:=h
  rfl
 obtain ⟨l,l',xs,ys,S,G,G',rfl,hl,al,hl',al',ok,q⟩:=h
 refine Za _ (Zm (ZX (PW.pt (VM (Yq (Ym (ZV WP rfl Tx.Wh Wf (Zb (pv 0) (Zb (WQ rfl Tx.Vi Vh) Ze))))) (VL (Xd (Zkt hr.units) (pv 0) (pv 1) (YJ _)))))
  (Zp (ZT Wm))
  ZY)
  (Zm (YU PassesOwn.never rfl (XT (pv 0)) (ZU (i:=2) ZcB.nd rfl (Or.inl rfl))
  (Zm (ZX (PW.pt (VM (Yq (Ym (ZV WP rfl Tx.Wh Wf (Zb (pv 2) (Zb (WQ rfl Tx.UU UT) Ze))))) (VL (Yq (Ym (ZV WP rfl Tx.Wh Wf (Zb (Zw (show Y7 _ (XA K) from ZQ) (pv 2) Zc (fun _ _=>rfl)) (Zb (WQ rfl Tx.Vi Vh) Ze))))))))
  (Zp (ZT Wm))
  ZY)
  (Zp (YU PassesOwn.never rfl (XT (Zw (show Y7 _ (XA K) from ZQ) (pv 2) Zc (fun _ _=>rfl))) (ZU (i:=3) ZcB.nd rfl (Or.inl rfl))
  (Zp (ZX (PW.pt (VM (Yq (Ym (ZV WP rfl Tx.Wh Wf (Zb (pv 3) (Zb (WQ rfl Tx.UU UT) Ze))))) (VL (Xd (Zcz hr.units0) (Vr (cl:=[]) (N:=["_law_one"]) (fr:=[none]) rfl (Zjn (Vp Zfy (pv 3) (Vo Zc) Vn)) rfl (by decide +kernel) rfl (by decide +kernel) trivial trivial rfl (fun _ _ _ _ _=>(ZU (i:=0) (show List.Nodup (["_law_one"]:List Str) by decide +kernel) rfl (Or.inl rfl))) (fun _ _ _ _ _=>(ZfO (Yq (Ym (ZV (show Xq _ (.builtin "isinstance") (fun xs H Q=>∃ x T t b,xs=[x,V.ty T]∧XN K H x t∧W.kitOne K t (Value.type T)=some b∧Q (V.bl b) H) from WP) rfl Tx.Wh Wf (Zb (pv 0) (Zb (WQ rfl Tx.Zhb Zg7) Ze))))))) (fun _ _ _ _ _=>(pv 0))) (Yj Ze) (YJ _)))))
  (Zp (ZT Wm))
  ZY))))))
  (Zp (ZT Wm)))) ?_
 have d1:DV K H (.ref l) (.list (S.map dR)):=.lst (Zg.of hl) (ZeT al ok)
 have d2:DV K H (.ref l') (.list (S.map dR)):=.lst (Zg.of hl') (ZeT al' ok)
 refine Za _ rfl (Xu (.ref l) ("list") _ _ rfl (.lst hl) rfl (Za _ rfl (ZH (by decide) ?_)))
 refine Za _ rfl (Za _ rfl (Zo _ _ d1 d2 (by have:=ZiB S;simp [PyData.depth];omega) (Za _ rfl (ZH (by rw [SeqAt.eqv_refl _ d1.can];decide) ?_))))
 refine Za _ rfl (Zx l rfl ⟨_,Zg.of hl⟩ (W8 (K:=K) (a:=l) (xs:=xs) (fun i σ H'=>Zk H H'∧∃ v2 v3:Option V,σ=[some (.ref l),some (.ref l'),v2,v3]) ⟨Zk.refl H,none,none,rfl⟩ (fun i σ H' _ ⟨s',_⟩=>Zg.of (s' _ _ hl)) ?_ ?_))
 ·rintro i v σ H1 hv ⟨s1,v2,v3,rfl⟩
  obtain ⟨r,er,p,lm,mv,rfl,hp,hm,alm,_⟩:=al.get hv
  refine Za _ rfl (Xu (.ref p) ("tuple") _ _ rfl (.tup (s1 _ _ hp)) rfl (Za _ rfl (ZH (by decide) ?_)))
  refine Za _ rfl (Zz p _ 2 _ rfl rfl (Zu.of (s1 _ _ hp)) rfl (Xu (.ref lm) ("list") _ _ rfl (.lst (s1 _ _ hm)) rfl (Za _ rfl (ZH (by decide) ?_))))
  refine Za _ rfl (Zz p _ 2 _ rfl rfl (Zu.of (s1 _ _ hp)) rfl (Zx lm rfl ⟨_,Zg.of (s1 _ _ hm)⟩ (W8 (K:=K) (a:=lm) (xs:=mv) (fun i σ H'=>Zk H H'∧∃ v3:Option V,σ=[some (.ref l),some (.ref l'),some (.ref p),v3]) ⟨s1,_,rfl⟩ (fun i σ H' _ ⟨s',_⟩=>Zg.of (s' _ _ hm)) ?_ ?_)))
  ·rintro j u σ H2 hu ⟨s2,v3,rfl⟩
   obtain ⟨m,em,pm,rfl,hpm⟩:=alm.get hu
   have hpm2:=s2 _ _ hpm
   refine Za _ rfl (Xu (.ref pm) ("tuple") _ _ rfl (.tup hpm2) rfl (Za _ rfl (ZH (by decide) ?_)))
   refine Za _ rfl (Za _ rfl (Zo pm _ rfl (Zu.of hpm2) (fun h=>absurd h.1 (by show ¬ HT.sIx 3 0 (some 1)=0;decide)) fun p4 g4=>?_))
   rw [show X4 [V.str m.1,.int m.2.1,.int m.2.2] (some 1) none=[V.int m.2.1,.int m.2.2] from rfl]
   have t4:=Zn g4 (.tup [.int m.2.1,.int m.2.2])
   have c4:=@Zh H2 p4 (.tup [.int m.2.1,.int m.2.2])
   generalize Zd H2 p4 (.tup [.int m.2.1,.int m.2.2])=H3 at t4 c4 ⊢
   refine Zx p4 rfl ⟨_,Zu.of c4⟩ (Zkq (K:=K) (a:=p4) (xs:=[.int m.2.1,.int m.2.2]) (fun i acc σ H'=>H'=H3∧acc=[]∧∃ v,σ=[v]) ⟨rfl,rfl,none,rfl⟩ (by show 2≤sizeLine;decide) (fun i acc σ H' _ ⟨z,_⟩=>by rw [z];exact Zu.of c4) ?_ ?_)
   ·rintro i' y acc σ H4 ha hy ⟨rfl,rfl,vv,rfl⟩
    obtain ⟨z,rfl⟩:∃ z:Int,y=.int z:=by
     have:=List.mem_of_getElem? hy
     simp only [List.mem_cons,List.not_mem_nil,or_false] at this
     rcases this with rfl | rfl
     ·exact ⟨_,rfl⟩
     ·exact ⟨_,rfl⟩
    dsimp only [W2]
    exact Za _ rfl (Xu (.int z) ("int") _ _ rfl ((Kd.int z).ty (H:=H4)) (ZfQ (H:=H4) (.int z)) (Za _ rfl (ZH (by decide) ⟨by show 0≤_;omega,rfl,rfl,_,rfl⟩)))
   ·rintro acc σ H4 _ ⟨rfl,rfl,vv,rfl⟩ l5 g5
    have t5:=Zn g5 (.lst [])
    have c5:=@Zh H4 l5 (.lst [])
    generalize Zd H4 l5 (.lst [])=H5 at t5 c5 ⊢
    refine ⟨by show 0≤sizeLine;decide,fun l6 g6=>?_⟩
    have t6:=Zn g6 (.lst [])
    refine Yn l5 l6 [] rfl rfl (Zg.of (t6 _ _ c5)) (Zg.of Zh) (Za _ rfl (ZH (by decide) ⟨((s2.trans t4).trans t5).trans t6,_,rfl⟩))
  ·rintro σ H2 ⟨s2,v3,rfl⟩
   exact ⟨s2,_,_,rfl⟩
 ·rintro σ H1 ⟨s1,v2,v3,rfl⟩
  exact q H1 s1
def noT (t:Z9) (H:Hp):Hp:=wo (wo H t.YY) t.Xb
structure Xx (t:Z9) (H:Hp):Prop where
 b:Xs t.YY Za3 Za4 H
 l:Xs t.Xb Za5 Za6 H
theorem Xx.same {H H':Hp} (s:Zk H H') (h:Xx t H):Xx t H':=⟨h.b.same s,h.l.same s⟩
theorem Xx.put {H:Hp} {a:Addr} {xs:List V} {o:HO} (h:Xx t H) (e:H a=some (.lst xs)):Xx t (Zd H a o):=⟨h.b.put e,h.l.put e⟩
theorem ZiC {lt lt':Addr} {pos:Pos} {q:Str} {H H':Hp} {ps:Array Value} (h:Xs lt' pos q H) (ht:H lt=some (.tbl ps)) (ne:lt'≠lt) (s:Zk (wo H lt) H'):Xs lt' pos q H':=by
 rcases h with h | ⟨c',h,hc⟩
 ·exact .inl (s _ _ (Z4 h ne))
 ·exact .inr (Za c' (s _ _ (Z4 h ne)) (s _ _ (UO ht hc fun _ z=>(nomatch z))))
theorem Xx.afterB {H H':Hp} (ne:t.YY≠t.Xb) (h:Xx t H) (hb:Xs t.YY Za3 Za4 H') (s:Zk (wo H t.YY) H'):Xx t H':=by
 obtain ⟨ps,e⟩:=h.b.at
 exact ⟨hb,ZiC h.l e ne.symm s⟩
theorem Xx.afterL {H H':Hp} (ne:t.YY≠t.Xb) (h:Xx t H) (hl:Xs t.Xb Za5 Za6 H') (s:Zk (wo H t.Xb) H'):Xx t H':=by
 obtain ⟨ps,e⟩:=h.l.at
 exact ⟨ZiC h.b e ne s,hl⟩
theorem ZeV {H:Hp}:Zk (noT t H) H:=Xr.trans Xr
theorem ZeW {H:Hp}:noT t H t.YY=none:=by
 unfold noT
 by_cases e:t.YY=t.Xb
 ·rw [e];exact if_pos rfl
 ·rw [Uk e];exact if_pos rfl
theorem ZiD {H:Hp}:noT t H t.Xb=none:=if_pos rfl
theorem Za8 {H:Hp} (h:Xx t H) {a:Addr} {o:HO} (e:H a=some o) (n:∀ ps,o≠.tbl ps):noT t H a=some o:=by
 obtain ⟨p1,e1⟩:=h.b.at
 obtain ⟨p2,e2⟩:=h.l.at
 exact Z4 (UO e1 e n) fun z=>by rw [z,e2] at e;exact n p2 (Option.some.inj e).symm
theorem Zb3 {H:Hp} (h:Xx t H):V9 H (noT t H):=fun _ _ e _ n=>Za8 h e n
theorem Yt.noT {H:Hp} (hT:Xx t H) {n:Addr} {b:NB} {TS:List Zs} {KF:ZW} {m:Nat} (h:Yt t H n b TS KF m):Yt t (noT t H) n b TS KF m:=by
 have s:=Zb3 hT
 obtain ⟨⟨dx,fs,e1,e2⟩,ap,⟨rows,h1,h2⟩,⟨k1,a1,a2,a3⟩,⟨k2,b1,b2,b3⟩⟩:=h
 refine ⟨ZK dx fs (s.ins e1) e2,ap,Za rows (s.dk h1) (h2.imp fun _ _=>Yx.keep s),Zx k1 (Za8 hT a1 (fun _ z=>(nomatch z))) a2 a3,(Zx k2 (Za8 hT b1 (fun _ z=>(nomatch z))) b2 fun z day=>?_)⟩
 have:=b3 z day
 revert this
 cases KF z day with
 | none=>exact id
 | some o=>cases o with
  | none=>exact id
  | some ls=>exact fun ⟨l,e,h⟩=>Za l e (s.lst h)
theorem Yg.keep {G H H':Hp} (s:V9 H H') {v:V} {r:Rn} (h:Yg G H v r):Yg G H' v r:=let ⟨p,l,vs,e,h1,h2,h3,h4⟩:=h;(Yn p l vs e (s.tup h1) (s.lst h2) (h3.imp fun _ _=>YI.keep s) h4)
theorem Zq2 {SS:List Z3} {TS:List Zs} (okS:Za7 SS) (okT:W0 SS TS) (h4:TS.length≤4) {b e:Int} {KF:ZW} {r:Rn} (h:r∈Ua b e KF TS):Zb2 r:=by
 obtain ⟨x,hx,j,_,h1⟩:=U1.mp h
 obtain ⟨a1,_,a3,_⟩:=WM h1
 obtain ⟨i,hi,ei⟩:=List.mem_iff_getElem.mp hx
 have en:=okT.nm i x (by rw [List.getElem?_eq_getElem hi,ei])
 refine ⟨?_,fun m hm=>?_⟩
 ·rw [a1,en]
  exact Zb1 (by show 1≤1;decide) (by show 1≤8;decide) (fun c hc=>by rw [List.mem_singleton.mp hc];omega)
 ·unfold Wt at a3
  split at a3
  ·split at a3
   ·cases a3
   ·have e0:=Option.some.inj a3
    rw [← e0] at hm
    unfold Yo at hm
    obtain ⟨c,hc,l,_,rfl⟩:=ZeK hm
    have:=(okT.ok x hx).2.1.st c hc
    obtain ⟨s,hs,es⟩:=List.mem_map.mp this
    show Yw c.st
    rw [← es]
    exact (okS.ok s hs).1
  ·cases a3
def sp_law (K:W.Frag) (Ts:List Addr):Sp:=fun vs H Q _=>∃ (a:Addr) (ns:List Int),vs=[.ref a]∧(∀ T∈Ts,H T=some (.tbl #[]))∧Zg K H a (ns.map V.int)∧ns.length≤63∧∀ H',Q (.bl true) H'
theorem Zq3 (Tx:ZO K mg t) (hC_runs_between:W.CodeHd base t.ZaI t.YY) (hC_law_runs:W.CodeHd base t.ZaJ t.Xb) (hBM:BM mg base):ZF P w K mg base ZE 30 t.Zdw t.Zbz ["_law_script"] (sp_law K [t.YY,t.Xb]):=by
 refine Tx.ZhD.ok XE (fun vs H Q E h=>?_) (fun cdv A outer s H vs Q E hr h=>?_)
 ·obtain ⟨a,ns,rfl,_⟩:=h
  rfl
 obtain ⟨a,ns,rfl,hTs,hS,_,q⟩:=h
 have hB0:=hTs _ (.head _)
 have hL0:=hTs _ (.tail _ (.head _))
 have hT:Xx t H:=⟨.inl hB0,.inl hL0⟩
 have neT:=Tx.Zo7
 refine Za _ (Zm (ZJ (i:=1) XE.nd rfl (Or.inl rfl) (ZB (ZqS Tx) (hr.mono (by omega)) rfl Tx.ZnB Tx.Zhw.kp Tx.ZnC .nil Zr (Zb (pv 0) (Zb Zc Ze))))
  (Vt (ZX (Xd Wc (Zi ZP (ZB (WK Tx) (hr.mono (by omega)) rfl Tx.WI Tx.Wr.kp Tx.WJ .nil Zr (Zb (pv 0) (Zb Zc Ze))) Zc) Zc (YJ _))
  (Zm (ZJ (i:=2) XE.nd rfl (Or.inl rfl) (Yj (Zb (Yf (Zb (Zw ZQ (Zw YA (Xa (Z8 hr) (pv 1) Yk (fun _ _=>rfl)) Zc (fun _ _=>rfl)) Zc (fun _ _=>rfl)) (Zb Zc (Zb Zc Ze)))) (Zb (Yf (Zb (Zw ZQ (Zw YA (Xa (Z8 hr) (pv 1) Yk (fun _ _=>rfl)) Zc (fun _ _=>rfl)) Zc (fun _ _=>rfl)) (Zb Zc (Zb Zc Ze)))) Ze))))
  (Zp (Zb5 (Yf (Zb (Zw ZQ (Zw YA (Xa (Z8 hr) (pv 1) Yk (fun _ _=>rfl)) Zc (fun _ _=>rfl)) Zc (fun _ _=>rfl)) (Zb (Yf (Zb Yk Ze)) (Zb (pv 2) Ze)))) (Zjh (Xa (Z8 hr) (pv 1) Yk (fun _ _=>rfl)) Zc Zj3))))
  ZY)
  (Zm (ZJ (i:=3) XE.nd rfl (Or.inl rfl) (ZB (ZqW Tx) (hr.mono (by omega)) rfl Tx.ZnD Tx.Zhx.kp Tx.ZnE .nil Zr (Zb (pv 1) Ze)))
  (Zm (ZJ (i:=4) XE.nd rfl (Or.inl rfl) (ZB (WK Tx) (hr.mono (by omega)) rfl Tx.WI Tx.Wr.kp Tx.WJ .nil Zr (Zb (pv 0) (Zb Zc Ze))))
  (Zm (ZJ (i:=5) XE.nd rfl (Or.inl rfl) (Zw YA (Yj (Zb (Zi ZP (Zi Yl (pv 4) Zc) Zc) (Zb (Zi ZP (Zi Yl (pv 4) Zc) Zc) (Zb (Zi ZZ Zc (Zi ZP (Zi Yl (pv 4) Zc) Zc)) (Zb Zc Ze))))) (Zi ZP (pv 4) Zc) (fun _ _=>rfl)))
  (Zm (ZJ (i:=6) XE.nd rfl (Or.inl rfl) (Qa Tx.ZhS (Zig Tx) (hr.mono (by omega)) rfl Tx.ZhZ Tx.ZhI .nil Zr (Zb (pv 3) Ze)))
  (Zm (ZJ (i:=7) XE.nd rfl (Or.inl rfl) (ZB (Zq0 Tx) (hr.mono (by omega)) rfl Tx.ZnH Tx.ZhB.kp Tx.ZnI .nil Zr (Zb (pv 1) (Zb (pv 0) (Zb Zc (Zb (pv 5) (Zb (pv 6) Ze)))))))
  (Vt (ZX (PW.pt (U5 (Xd Wc (Zi ZP (ZB (WK Tx) (hr.mono (by omega)) rfl Tx.WI Tx.Wr.kp Tx.WJ .nil Zr (Zb (pv 0) (Zb Zc Ze))) Zc) Zc (YJ _)) (U5 (Xd Zcb (pv 5) Zc (YJ _)) (Zap (VJ (Zlv (Z8 hr) (Yf (Zb (Zw ZQ (Zw YA (Xa (Z8 hr) (pv 1) Yk (fun _ _=>rfl)) Zc (fun _ _=>rfl)) Zc (fun _ _=>rfl)) (Zb (Zi XL (pv 5) Zc) Ze))) (pv 7)))))))
  (Zm (Z0 (YR (pv 6) Tx.YK Tx.ZhV (Zim Tx) (hr.mono (by omega)) Tx.ZhJ .nil Zr (Zb (Zw ZQ (Zw YA (Xa (Z8 hr) (pv 1) Yk (fun _ _=>rfl)) Zc (fun _ _=>rfl)) Zc (fun _ _=>rfl)) (Zb (Zi XL (pv 5) Zc) (Zb Zc (Zb Zc Ze))))))
  (Zp (Vv (Z8 hr) (pv 7) (Yf (Zb (Zw ZQ (Zw YA (Xa (Z8 hr) (pv 1) Yk (fun _ _=>rfl)) Zc (fun _ _=>rfl)) Zc (fun _ _=>rfl)) (Zb (Zi XL (pv 5) Zc) Ze))) (Yj (Zb Zc (Zb Zc Ze))) rfl)))
  ZY)
  (Zm (ZJ (i:=8) XE.nd rfl (Or.inl rfl) (ZB (VD Tx) (hr.mono (by omega)) rfl Tx.VB Tx.Vj.kp Tx.VC .nil Zr (Zb (pv 4) (Zb Zc Ze))))
  (Zm (ZJ (i:=9) XE.nd rfl (Or.inl rfl) (Zi ZZ (Zi UG Zc (pv 5)) (Zw YA (Yj (Zb Zc (Zb (Zi ZP (pv 8) Zc) (Zb (Zi ZZ Zc (Zi ZP (pv 8) Zc)) (Zb Zc Ze))))) (Zi ZP (Zi Yl (pv 8) Zc) Zc) (fun _ _=>rfl))))
  (Zm (ZJ (i:=10) XE.nd rfl (Or.inl rfl) (ZB (ZeQ Tx hC_law_runs hBM) (hr.mono (by omega)) rfl Tx.m_law_runs Tx.ZbP.kp Tx.Zet .nil Zr (Zb (pv 1) (Zb Zay (Zb (pv 9) (Zb (Zi ZZ (pv 9) Zc) Ze))))))
  (Vt (ZX (PW.pt (U5 (Xd Wc (Zi ZP (Zi Yl (pv 8) Zc) Zc) Zc (YJ _)) (Zap (Xd (Zcz hr.units0) (pv 10) (Yj Ze) (YJ _)))))
  (Zp (ZJ (i:=9) XE.nd rfl (Or.inl rfl) (Zi XL (Zi ZZ (Zw ZQ (Zw YA (Zw ZQ (Zw YA (pv 10) Zc (fun _ _=>rfl)) Zc (fun _ _=>rfl)) Zc (fun _ _=>rfl)) Zc (fun _ _=>rfl)) (Zi ZP (Zi Yl (pv 8) Zc) Zc)) Zc)))
  ZY)
  (Zm (ZJ (i:=9) XE.nd rfl (Or.inl rfl) (ZV (Zaq rfl) rfl Tx.ZaK ZaF (Zb Zc (Zb (ZV (Zar rfl) rfl Tx.ZaL ZaG (Zb (pv 9) (Zb Zc Ze))) Ze))))
  (Zm (ZJ (i:=11) XE.nd rfl (Or.inl rfl) (Zi ZZ (pv 9) (Zw YA (Yj (Zb Zc (Zb (Zi ZP (Zi Yl (pv 8) Zc) Zc) (Zb Zc (Zb Zc Ze))))) (Zi ZP (Zi Yl (pv 8) Zc) Zc) (fun _ _=>rfl))))
  (Zm (ZJ (i:=12) XE.nd rfl (Or.inl rfl) (ZB (ZeQ Tx hC_law_runs hBM) (hr.mono (by omega)) rfl Tx.m_law_runs Tx.ZbP.kp Tx.Zet .nil Zr (Zb (pv 1) (Zb (pv 7) (Zb (pv 9) (Zb (pv 11) Ze))))))
  (Vt (YU PassesOwn.never rfl (VN rfl Tx.WU (Zb Zc Ze)) (ZU (i:=13) XE.nd rfl (Or.inl rfl))
  (Zm (ZJ (i:=14) XE.nd rfl (Or.inl rfl) (ZB (ZeP Tx hC_runs_between hBM) (hr.mono (by omega)) rfl Tx.m_runs_between Tx.ZbO.kp Tx.Zhr .nil Zr (Zb (pv 3) (Zb (pv 9) (Zb (pv 11) (Zb (pv 6) Ze))))))
  (Zm (ZX (Yq (Ym (ZB (ZeU Tx) (hr.mono (by omega)) rfl Tx.Zeu Tx.ZbQ.kp Tx.Zev .nil Zr (Zb (pv 14) (Zb (pv 12) Ze)))))
  (Zp (ZT Wm))
  ZY)
  (Zm (YU PassesOwn.never rfl (XT (pv 14)) (ZU (i:=15) XE.nd rfl (Or.inl rfl))
  (Zp (Z0 (Zj9 PySem.F.plainAttrs_list PySem.F.slot_list_clear PySem.F.type_list_clear Zkd (Zw (show Y7 _ (XA K) from ZQ) (pv 15) Zc (fun _ _=>rfl))))))
  (Zp (Z0 (Vc PySem.F.plainAttrs_list PySem.F.slot_list_append PySem.F.type_list_append Vq (pv 14) (Zb UB Ze))))))))
  (Zm (ZJ (i:=16) XE.nd rfl (Or.inl rfl) (ZB (ZeQ Tx hC_law_runs hBM) (hr.mono (by omega)) rfl Tx.m_law_runs Tx.ZbP.kp Tx.Zet .nil Zr (Zb (pv 1) (Zb Zay (Zb (pv 9) (Zb (pv 11) Ze))))))
  (Zp (ZT (U6 (ZB (ZeU Tx) (hr.mono (by omega)) rfl Tx.Zeu Tx.ZbQ.kp Tx.Zev .nil Zr (Zb (ZB (ZeP Tx hC_runs_between hBM) (hr.mono (by omega)) rfl Tx.m_runs_between Tx.ZbO.kp Tx.Zns Tx.Znr Zr (Zb (pv 3) (Zb (pv 9) (Zb (pv 11) Ze)))) (Zb (pv 16) Ze))) (UC (ZB (ZeU Tx) (hr.mono (by omega)) rfl Tx.Zeu Tx.ZbQ.kp Tx.Zev .nil Zr (Zb (ZB (ZeP Tx hC_runs_between hBM) (hr.mono (by omega)) rfl Tx.m_runs_between Tx.ZbO.kp Tx.Zhr .nil Zr (Zb (pv 3) (Zb (pv 9) (Zb (pv 11) (Zb UB Ze))))) (Zb (pv 16) Ze)))))))))))))))))))))))) ?_
 refine Za _ rfl (ZI a ns 0 rfl hS (by omega) fun d da D H1 s1 gt hW ok1=>?_)
 refine Za (fun σ H'=>∃ (D':Ux) (v2:Option V),Zk H H'∧Uy H' d da D'∧DOk D'∧(Wk ns 11 % 4=1→∃ (x0:Zs) (s0 r0:Str),D'.ts[0]? = some x0∧x0.r=.all∧x0.cs=[⟨s0,2830,2830⟩,⟨r0,2850,2850⟩]∧r0≠s0)∧σ=[some (.ref a),some (.ref d),v2,none,none,none,none,none,none,none,none,none,none,none,none,none,none]) ?_ ?_
 ·refine Za _ rfl (ZI a ns 11 rfl (s1.seq hS) (by omega) (Xm _ _ rfl rfl (by show (0:Int) < 4;decide) rfl (Za _ rfl (XO (fun c1=>?_) (fun c1=>?_)))))
  ·obtain ⟨kvs,hd,ds,dw,dk,dt⟩:=hW.ob
   obtain ⟨vss,hls,als⟩:=hW.st
   obtain ⟨vst,hlt,alt⟩:=hW.tp
   have get:∀ {H':Hp} {z:Str} {l:Addr},Zk (wo H1 da.lt) H'→ZA kvs (Sum.inr z)=some (.ref l)→Yd H' d (.str z) (some (.ref l)):=fun s' e=>by rw [← e];exact Yd.k (k:=Sum.inr _) (s' _ _ hd)
   have w1:Zk (wo H1 da.lt) H1:=Xr
   have l3:=ok1.s3
   have lvs:=als.length
   have lvt:=alt.length
   have t2:=ok1.t2
   obtain ⟨sa,esa,pa1,epa,hpa⟩:=als.get (List.getElem?_eq_getElem (show 0 < vss.length by omega))
   obtain ⟨sb,esb,pb1,epb,hpb⟩:=als.get (List.getElem?_eq_getElem (show 1 < vss.length by omega))
   have eat0:Yu vss 0=some (.ref pa1):=by rw [← epa];exact Xz (j:=0) (List.getElem?_eq_getElem (by omega))
   have eat1:Yu vss 1=some (.ref pb1):=by rw [← epb];exact Xz (j:=1) (List.getElem?_eq_getElem (by omega))
   obtain ⟨y,ey,p,rv,lc,cvs,ep,hp,hrv,hlc,alc⟩:=alt.get (List.getElem?_eq_getElem (show 0 < vst.length by omega))
   have eatt:Yu vst 0=some (.ref p):=by rw [← ep];exact Xz (j:=0) (List.getElem?_eq_getElem (by omega))
   refine Za _ rfl (Zj d _ rfl (get w1 ds) (Zz da.ls _ 0 _ rfl rfl (Zg.of (w1 _ _ hls)) eat0 (Z7 pa1 _ 0 _ rfl rfl (Zu.of (w1 _ _ hpa)) rfl (by show 3≤sizeLine;decide) fun q1 g1=>?_)))
   have x1:=Zn g1 (.tup [.str sa.nm,.int 2830,.int 2830])
   have k1:=@Zh H1 q1 (.tup [.str sa.nm,.int 2830,.int 2830])
   dsimp only [YM,YV,List.append_nil]
   generalize Zd H1 q1 (.tup [.str sa.nm,.int 2830,.int 2830])=J1 at x1 k1 ⊢
   have X1:=w1.trans x1
   refine Za _ rfl (Zj d _ rfl (get X1 ds) (Zz da.ls _ 1 _ rfl rfl (Zg.of (X1 _ _ hls)) eat1 (Z7 pb1 _ 0 _ rfl rfl (Zu.of (X1 _ _ hpb)) rfl (by show 3≤sizeLine;decide) fun q2 g2=>?_)))
   have x2:=Zn g2 (.tup [.str sb.nm,.int 2850,.int 2850])
   have k2:=@Zh J1 q2 (.tup [.str sb.nm,.int 2850,.int 2850])
   have k12:=x2 _ _ k1
   have Y2:=x1.trans x2
   dsimp only [YM,YV,List.append_nil]
   generalize Zd J1 q2 (.tup [.str sb.nm,.int 2850,.int 2850])=J2 at Y2 k2 k12 ⊢
   refine ⟨by show 2≤sizeLine;decide,fun q3 g3=>?_⟩
   have x3:=Zn g3 (.lst [.ref q1,.ref q2])
   have k3:=@Zh J2 q3 (.lst [.ref q1,.ref q2])
   have k13:=x3 _ _ k12
   have k23:=x3 _ _ k2
   have Y3:=Y2.trans x3
   have n3:q3≠da.lt:=fun z=>by rw [z,Y2 _ _ hlt] at g3;cases g3
   generalize Zd J2 q3 (.lst [.ref q1,.ref q2])=J3 at Y3 k3 k13 k23 ⊢
   have X3:=w1.trans Y3
   refine Za _ rfl (Zj d _ rfl (get X3 dt) (Zz da.lt _ 0 _ rfl rfl (Zg.of (Y3 _ _ hlt)) eatt (Z7 p _ 0 _ rfl rfl (Zu.of (X3 _ _ hp)) rfl (by show 1≤sizeLine;decide) fun q4 g4=>?_)))
   have x4:=Zn g4 (.tup [.str (Str.ofString "always")])
   have k4:=@Zh J3 q4 (.tup [.str (Str.ofString "always")])
   have Y4:=Y3.trans x4
   have n4:q4≠da.lt:=fun z=>by rw [z,Y3 _ _ hlt] at g4;cases g4
   dsimp only [YM,YV,List.append_nil]
   generalize Zd J3 q4 (.tup [.str (Str.ofString "always")])=J4 at x4 Y4 k4 ⊢
   refine Zx _ rfl (by show 3≤sizeLine;decide) fun q5 g5=>?_
   have x5:=Zn g5 (.tup [.str y.nm,.ref q4,.ref q3])
   have k5:=@Zh J4 q5 (.tup [.str y.nm,.ref q4,.ref q3])
   have Y5:=Y4.trans x5
   have n5:q5≠da.lt:=fun z=>by rw [z,Y4 _ _ hlt] at g5;cases g5
   have k45:=x5 _ _ k4
   have k35:=x5 _ _ (x4 _ _ k3)
   have k15:=x5 _ _ (x4 _ _ k13)
   have k25:=x5 _ _ (x4 _ _ k23)
   generalize Zd J4 q5 (.tup [.str y.nm,.ref q4,.ref q3])=J5 at Y5 k5 k45 k35 k15 k25 ⊢
   have X5:=w1.trans Y5
   have hlt5:=Y5 _ _ hlt
   have n1:q1≠da.lt:=fun z=>by rw [z,hlt5] at k15;cases k15
   have n2:q2≠da.lt:=fun z=>by rw [z,hlt5] at k25;cases k25
   refine Za _ rfl (Zj d _ rfl (get X5 dt) (Zz da.lt vst 0 0 rfl rfl hlt5 (by unfold Ue;rw [if_pos (by decide),if_pos (by omega)];rfl) ?_))
   have sF:Zk (wo H1 da.lt) (Zd J5 da.lt (.lst (vst.set 0 (.ref q5)))):=fun c o e=>by
    obtain ⟨nc,e'⟩:=XQ e
    rw [Zl nc];exact X5 _ _ e
   have up:∀ {c o},c≠da.lt→J5 c=some o→Zd J5 da.lt (.lst (vst.set 0 (.ref q5))) c=some o:=fun nc e=>by rw [Zl nc];exact e
   have cF:=@Zh J5 da.lt (.lst (vst.set 0 (.ref q5)))
   have s0F:Zk H (Zd J5 da.lt (.lst (vst.set 0 (.ref q5)))):=Yb (s1.trans Y5) gt _
   have k1F:=up n1 k15
   have k2F:=up n2 k25
   have k3F:=up n3 k35
   have k4F:=up n4 k45
   have k5F:=up n5 k5
   generalize Zd J5 da.lt (.lst (vst.set 0 (.ref q5)))=JF at sF cF s0F k1F k2F k3F k4F k5F ⊢
   obtain ⟨vsw,hlw,alw⟩:=hW.wk
   obtain ⟨vsk,hlk,alk⟩:=hW.tk
   have nab:sb.nm≠sa.nm:=fun z=>by
    have:(1:Nat)=0:=Ub ok1.s.nd (x:=sb.nm) (by rw [List.getElem?_map,esb];rfl) (by rw [List.getElem?_map,esa];exact congrArg some z.symm)
    omega
   have altF:Al (XG JF) (vst.set 0 (.ref q5)) (D.ts.set 0 ⟨y.nm,.all,[⟨sa.nm,2830,2830⟩,⟨sb.nm,2850,2850⟩]⟩):=by
    have hnew:XG JF (.ref q5) ⟨y.nm,.all,[⟨sa.nm,2830,2830⟩,⟨sb.nm,2850,2850⟩]⟩:=Zz q5 (.ref q4) q3 [.ref q1,.ref q2] rfl k5F (Za q4 rfl k4F) k3F (.cons (Za q1 rfl k1F) (.cons (Za q2 rfl k2F) .nil))
    have al0:=alt.imp fun _ _=>XG.same sF
    generalize D.ts=ts0 at al0
    cases al0 with
    | nil=>exact .nil
    | cons _ r=>exact .cons hnew r
   have mts:∀ z∈D.ts.set 0 (⟨y.nm,.all,[⟨sa.nm,2830,2830⟩,⟨sb.nm,2850,2850⟩]⟩:Zs),z=⟨y.nm,.all,[⟨sa.nm,2830,2830⟩,⟨sb.nm,2850,2850⟩]⟩∨z∈D.ts:=fun z hz=>(List.mem_or_eq_of_mem_set hz).symm
   refine Xm ⟨D.ss,D.ws,D.ks,D.ts.set 0 ⟨y.nm,.all,[⟨sa.nm,2830,2830⟩,⟨sb.nm,2850,2850⟩]⟩⟩ _ s0F ⟨⟨kvs,sF _ _ hd,ds,dw,dk,dt⟩,Za vss (sF _ _ hls) (als.imp fun _ _=>Xv.same sF),Za vsw (sF _ _ hlw) (alw.imp fun _ _=>YC.same sF),Za vsk (sF _ _ hlk) (alk.imp fun _ _=>Xl.same sF),(Za _ cF altF)⟩ ⟨ok1.s3,ok1.s5,ok1.s,ok1.w4,ok1.w,ok1.k2,ok1.k,by show 2≤(D.ts.set 0 _).length;rw [List.length_set];exact ok1.t2,by show (D.ts.set 0 _).length≤4;rw [List.length_set];exact ok1.t4,⟨fun i z hz=>?_,fun z hz=>?_⟩⟩ (fun _=>ZI _ sa.nm sb.nm (by show (D.ts.set 0 _)[0]? = _;rw [List.getElem?_set_self (by omega)]) rfl rfl nab) rfl
   ·by_cases ei:i=0
    ·subst ei
     rw [List.getElem?_set_self (by omega)] at hz
     obtain rfl:=Option.some.inj hz
     exact ok1.t.nm 0 y ey
    ·rw [List.getElem?_set_ne (by omega)] at hz
     exact ok1.t.nm i z hz
   ·rcases mts z hz with rfl | hz
    ·refine ⟨trivial,⟨fun c hc=>?_,fun c hc=>?_,fun i a b ha hb=>?_⟩,by show 2≤2;decide,by show 2≤4;decide⟩
     ·simp only [List.mem_cons,List.not_mem_nil,or_false] at hc
      rcases hc with rfl | rfl
      ·exact List.mem_map.mpr (Za sa (List.mem_of_getElem? esa) rfl)
      ·exact List.mem_map.mpr (Za sb (List.mem_of_getElem? esb) rfl)
     ·simp only [List.mem_cons,List.not_mem_nil,or_false] at hc
      rcases hc with rfl | rfl
      ·exact ⟨Nat.le_refl _,by show 2830≤2879;decide⟩
      ·exact ⟨Nat.le_refl _,by show 2850≤2879;decide⟩
     ·cases i with
      | zero =>
       obtain rfl:=Option.some.inj ha
       obtain rfl:=Option.some.inj hb
       exact ⟨nab,by show 2830 < 2850;decide⟩
      | succ i=>cases i <;> cases hb
    ·exact ok1.t.ok z hz
  ·exact Xm D none s1 hW.o ok1 (fun z=>absurd (decide_eq_true (by show V.int (((Wk ns 11:Nat):Int) % 4)=V.int 1;rw [show ((Wk ns 11:Nat):Int) % 4=((Wk ns 11 % 4:Nat):Int) by omega,z];rfl)) c1) rfl
 rintro σ H2 ⟨D',v2,s2,hD,ok2,hfl,rfl⟩
 refine Za _ rfl (ZI d da D' rfl hD ok2 fun n ru tp H3 s3 hN3 alN=>?_)
 have S3:=s2.trans s3
 refine Za _ rfl (ZI a ns 9 rfl (S3.seq hS) (by omega) ?_)
 generalize Wk ns 9=c
 refine Za _ rfl (Zo _ _ rfl rfl ⟨by decide,by decide⟩ (Zo _ _ rfl rfl (by show (0:Int) < 3;decide) (Za _ rfl (Zo _ _ rfl rfl ⟨by decide,by decide⟩ (Zo _ _ rfl rfl (by show (0:Int) < 9000;decide) (Za _ rfl (Zo _ _ rfl rfl ⟨by decide,by decide⟩ (Zo _ _ rfl rfl (by show (0:Int) < 3;decide) (Zo _ _ rfl rfl (by show 4≤sizeLine;decide) fun q1 g1=>?_)))))))))
 obtain ⟨vd,evd,day,rfl,hday⟩:=Vs (p:=fun v=>∃ b:Nat,v=.int (b:Nat)∧b≤9999) (xs:=[.int (((c:Nat):Int) / 4 % 3),.int (((c:Nat):Int) / 4 % 9000),.int (9997+((c:Nat):Int) / 4 % 3),.int 7]) (d:=((c:Nat):Int) % 4) (fun v hv=>by
  simp only [List.mem_cons,List.not_mem_nil,or_false] at hv
  rcases hv with rfl | rfl | rfl | rfl
  ·exact Za (c / 4 % 3) rfl (by omega)
  ·exact Za (c / 4 % 9000) rfl (by omega)
  ·exact Za (9997+c / 4 % 3) (by rw [show ((9997+c / 4 % 3:Nat):Int)=9997+((c:Nat):Int) / 4 % 3 by omega]) (by omega)
  ·exact Za 7 rfl (by decide)) (by omega) (by show ((c:Nat):Int) % 4 < 4;omega)
 have x1:=Zn g1 (.lst [.int (((c:Nat):Int) / 4 % 3),.int (((c:Nat):Int) / 4 % 9000),.int (9997+((c:Nat):Int) / 4 % 3),.int 7])
 have k1:=@Zh H3 q1 (.lst [.int (((c:Nat):Int) / 4 % 3),.int (((c:Nat):Int) / 4 % 9000),.int (9997+((c:Nat):Int) / 4 % 3),.int 7])
 dsimp only [YM,YV,List.append_nil]
 generalize Zd H3 q1 (.lst [.int (((c:Nat):Int) / 4 % 3),.int (((c:Nat):Int) / 4 % 9000),.int (9997+((c:Nat):Int) / 4 % 3),.int 7])=H4 at x1 k1 ⊢
 refine Za _ rfl (Zo _ _ rfl rfl (by show (0:Int) < 4;decide) (Zz q1 _ _ _ rfl rfl (Zg.of k1) evd ?_))
 have S4:=S3.trans x1
 have hN4:=hN3.same x1
 have hD4:=(hD.same s3).same x1
 have okT:=ok2.t
 have TO:=okT.ts ok2.t4
 have okS:=ok2.s
 have l4:=ok2.t4
 have l2:=ok2.t2
 refine Za _ rfl fun nx dx gnx gdx nex=>?_
 refine ⟨nx,n,H4,_,D'.ts,rfl,gnx,Yb (Zn gdx _) gnx _,⟨dx,Zh⟩,hN4,alN,okT.nd,fun y hy=>(okT.ok y hy).1,by omega,fun H5 b s5 hO gk gl=>⟨rfl,?_⟩⟩
 refine Za _ rfl (Za _ rfl (Za _ rfl (Za _ rfl ⟨d,a,nx,b,ns,10,day,D'.ss,D'.ts,H4,rfl,s5,gk,gl,hD4.trips,S4.seq hS,by omega,hO,okT,l2,l4,by omega,fun KF k kvs H6 s6 gk6 nk1 nk2 hN6 hk6 kp6 lk6 kf6=>?_⟩)))
 refine Za (fun σ H'=>∃ (KF:ZW) (kvs:List (List Zt×V)),Zk H4 H'∧Yt t H' nx b D'.ts KF 4∧H' k=some (.dT kvs)∧XH H' kvs KF∧Xw D'.ts KF∧σ=[some (.ref a),some (.ref d),v2,some (.ref n),some (.int (c:Nat)),some (.int (day:Nat)),some (.ref nx),some (.ref k),none,none,none,none,none,none,none,none,none]) ?_ ?_
 ·obtain ⟨dkv,hdd,_,_,_,dt⟩:=hD4.ob
  obtain ⟨vst,hlt,alt⟩:=hD4.tp
  have get:∀ {H':Hp},Zk H4 H'→Yd H' d (.str (Str.ofString "trips")) (some (.ref da.lt)):=fun s'=>by rw [← dt];exact Yd.k (k:=Sum.inr (Str.ofString "trips")) (s' _ _ hdd)
  have lvt:=alt.length
  refine Za _ rfl (ZI a ns 11 rfl ((S4.trans s6).seq hS) (by omega) (Xm _ _ rfl rfl (by show (0:Int) < 4;decide) rfl (Za _ rfl (XO (fun c1=>?_) (fun c1=>?_)))))
  ·refine Za _ rfl (Zj _ _ rfl rfl (Za _ rfl (XO (fun c2=>?_) (fun c2=>?_))))
   ·have c1:=of_decide_eq_true (show decide (V.int (((Wk ns 11:Nat):Int) % 4)=V.int 1)=true from c1)
    injection c1 with c1
    obtain ⟨x0,s0,r0,ex0,er0,ecs,hne⟩:=hfl (by omega)
    have hd2:(1:Int) < ((day:Nat):Int):=of_decide_eq_true c2
    obtain ⟨y,ey,p,rv,lc,cvs,ep,hp,hrv,hlc,alc⟩:=alt.get (List.getElem?_eq_getElem (show 0 < vst.length by omega))
    obtain rfl:x0=y:=Option.some.inj (ex0.symm.trans ey)
    have eatt:Yu vst 0=some (.ref p):=by rw [← ep];exact Xz (j:=0) (List.getElem?_eq_getElem (by omega))
    have hx:=List.mem_of_getElem? ex0
    have efnd:=Uv TO.nd hx
    obtain ⟨dd,edd,hdd9⟩:∃ dd:Nat,((day:Nat):Int) - 2=((dd:Nat):Int)∧dd≤9999:=Za (day - 2) (by omega) (by omega)
    refine Za _ rfl (Zj d _ rfl (get s6) (Zz da.lt _ 0 _ rfl rfl (Zg.of (s6 _ _ hlt)) eatt (Zz p _ 0 _ rfl rfl (Zu.of (s6 _ _ hp)) rfl (Za _ rfl (Zo _ _ rfl rfl (by show 2≤sizeLine;decide) fun q2 g2=>?_)))))
    dsimp only [YM,YV,List.append_nil]
    rw [edd]
    have x2:=Zn g2 (.tup [.str x0.nm,.int (dd:Nat)])
    have k2:=@Zh H6 q2 (.tup [.str x0.nm,.int (dd:Nat)])
    generalize Zd H6 q2 (.tup [.str x0.nm,.int (dd:Nat)])=H7 at x2 k2 ⊢
    have hN7:=hN6.same x2
    have hk7:=x2 _ _ hk6
    have kp7:=kp6.same x2
    have s7:=s6.trans x2
    refine Za _ rfl (Zj k _ rfl (Yd.t (k:=Y1 x0.nm dd) hk7 k2) (Za _ rfl (XO (fun c3=>?_) (fun c3=>?_))))
    ·have hkn:KF x0.nm dd=none:=by
      have hkv:match KF x0.nm dd with
       | none=>ZA kvs (Y1 x0.nm dd)=none
       | some none=>ZA kvs (Y1 x0.nm dd)=some .non
       | some (some ls)=>∃ l,ZA kvs (Y1 x0.nm dd)=some (.ref l)∧H7 l=some (.lst (ls.map fun n=>V.int (n:Nat))):=kp7 x0.nm dd
      revert hkv
      cases KF x0.nm dd with
      | none=>exact fun _=>rfl
      | some o=>cases o with
       | none=>exact fun hkv=>by rw [hkv] at c3;cases c3
       | some ls=>exact fun ⟨l,e,_⟩=>by rw [e] at c3;cases c3
     have elat:Xo x0 (KF x0.nm dd) 0 300=[300,300]:=by
      unfold Xo
      rw [ecs,hkn]
      rfl
     obtain ⟨ndx,nfs,ne1,ne2⟩:=hN7.ob
     refine Za _ rfl (ZI nx ndx _ rfl ne1 ne2.n_late (Za _ rfl (Zj d _ rfl (get s7) (Zz da.lt _ 0 _ rfl rfl (Zg.of (s7 _ _ hlt)) eatt (Zz p _ 0 _ rfl rfl (Zu.of (s7 _ _ hp)) rfl (Za _ rfl (Zj _ _ rfl rfl ⟨nx,b,D'.ts,KF,3,x0.nm,dd,0,300,x0,by rw [← edd];rfl,hN7,by omega,efnd,hdd9,by rw [er0];exact trivial,by rw [ecs];show 2≤6;decide,by rw [er0];rfl,by rw [hkn];exact fun z=>(nomatch z),by rw [hkn];exact fun ls z=>(nomatch z),by rw [ecs];show 0 < 2;decide,by decide,?_,fun H8 s8 hN8=>?_⟩)))))))
     ·rw [elat,ecs]
      refine ZeS (last:=-1) ?_ ?_
      ·unfold Ws
       rw [if_neg (by show ¬ ((2830:Nat):Int)+((300:Nat):Int)≤-1;omega)]
       unfold Ws
       rw [if_neg (by show ¬ ((2850:Nat):Int)+((300:Nat):Int)≤((2830:Nat):Int)+((300:Nat):Int);omega)]
       unfold Ws
       rfl
      ·intro i u v hu hv
       cases i with
       | zero =>
        obtain rfl:=Option.some.inj hu
        obtain rfl:=Option.some.inj hv
        exact hne
       | succ i=>cases i <;> cases hv
     rw [elat] at hN8
     have sG8:=(We (We s7 gk) gl).trans s8
     have kd:=hN7.keepD s8
     have hk8:=s8 _ _ (Z4 (Z4 hk7 nk1) nk2)
     have kp8:=kp7.keep kd
     refine ⟨by show 2≤sizeLine;decide,fun q3 g3=>?_⟩
     have x3:=Zn g3 (.lst [.int 300,.int 300])
     have k3:=@Zh H8 q3 (.lst [.int 300,.int 300])
     generalize Zd H8 q3 (.lst [.int 300,.int 300])=H9 at x3 k3 ⊢
     have s9:=sG8.trans x3
     refine Za _ rfl (Za _ rfl (Zj d _ rfl (get s9) (Zz da.lt _ 0 _ rfl rfl (Zg.of (s9 _ _ hlt)) eatt (Zz p _ 0 _ rfl rfl (Zu.of (s9 _ _ hp)) rfl (Za _ rfl (Zo _ _ rfl rfl (by show 2≤sizeLine;decide) fun q4 g4=>?_))))))
     dsimp only [YM,YV,List.append_nil]
     rw [edd]
     have x4:=Zn g4 (.tup [.str x0.nm,.int (dd:Nat)])
     have hk10:=x4 _ _ (x3 _ _ hk8)
     refine Zj k _ rfl (XW.t (k:=Y1 x0.nm dd) hk10 Zh (Nat.lt_of_le_of_lt (show kvs.length≤10 by omega) (by decide))) ?_
     exact ⟨Wa KF x0.nm dd (some [300,300]),_,Yb (s9.trans x4) gk6 _,((hN8.same x3).same x4).beside hk10 nk1 nk2,Zh,XH.set (o:=some [300,300]) ((kp8.same x3).same x4) hk10 (Za q3 rfl (x4 _ _ k3)),kf6.set TO.nd hx (fun ls h=>by obtain rfl:=Option.some.inj h;exact ⟨by rw [ecs];rfl,fun l hl=>by simp at hl;omega⟩),rfl⟩
    ·exact ⟨KF,kvs,s7,hN7.mono (by omega),hk7,kp7,kf6,rfl⟩
   ·exact ⟨KF,kvs,s6,hN6.mono (by omega),hk6,kp6,kf6,rfl⟩
  ·exact ⟨KF,kvs,s6,hN6.mono (by omega),hk6,kp6,kf6,rfl⟩
 clear hk6 kp6 kf6 hN6 s6 lk6
 rintro σ H7 ⟨KF,kvs,s7,hN7,hk7,kp7,kf7,rfl⟩
 have hT7:Xx t H7:=hT.same (S4.trans s7)
 have hD7:=hD4.trips.same s7
 have hA7:=hN4.same s7
 refine Za _ rfl (Zo _ _ rfl (by omega) (by omega) ?_)
 generalize Wj ((c:Nat):Int) 1=g
 refine Za _ rfl (Zo _ _ rfl rfl (.inl ⟨by decide,by decide⟩) (Za _ rfl (Zo _ _ rfl rfl (by show (0:Int) < 1440;decide) (Za _ rfl (Zo _ _ rfl rfl (by show (0:Int) < 60;decide) (Zo _ _ rfl rfl (by show 4≤sizeLine;decide) fun q8 g8=>?_))))))
 obtain ⟨vb,evb,b8,rfl,hb8⟩:=Vs (p:=fun v=>∃ b:Nat,v=.int (b:Nat)∧b≤1439) (xs:=[.int 0,.int (((g:Nat):Int) % 1440),.int (200+((g:Nat):Int) % 60),.int 1430]) (d:=((g:Nat):Int) / 1440 % 4) (fun v hv=>by
  simp only [List.mem_cons,List.not_mem_nil,or_false] at hv
  rcases hv with rfl | rfl | rfl | rfl
  ·exact Za 0 rfl (by decide)
  ·exact Za (g % 1440) rfl (by omega)
  ·exact Za (200+g % 60) (by rw [show ((200+g % 60:Nat):Int)=200+((g:Nat):Int) % 60 by omega]) (by omega)
  ·exact Za 1430 rfl (by decide)) (by omega) (by show ((g:Nat):Int) / 1440 % 4 < 4;omega)
 have x8:=Zn g8 (.lst [.int 0,.int (((g:Nat):Int) % 1440),.int (200+((g:Nat):Int) % 60),.int 1430])
 have k8:=@Zh H7 q8 (.lst [.int 0,.int (((g:Nat):Int) % 1440),.int (200+((g:Nat):Int) % 60),.int 1430])
 dsimp only [YM,YV,List.append_nil]
 generalize Zd H7 q8 (.lst [.int 0,.int (((g:Nat):Int) % 1440),.int (200+((g:Nat):Int) % 60),.int 1430])=H8 at x8 k8 ⊢
 refine Za _ rfl (Zo _ _ rfl rfl ⟨by decide,by decide⟩ (Zo _ _ rfl rfl (by show (0:Int) < 4;decide) (Zz q8 _ _ _ rfl rfl (Zg.of k8) evb (Zj _ _ rfl rfl ?_))))
 obtain ⟨B,eB,hB⟩:∃ B:Nat,(1440:Int) * ((day:Nat):Int)+((b8:Nat):Int)=((B:Nat):Int)∧B≤14399999:=Za (1440 * day+b8) (by omega) (by omega)
 dsimp only
 rw [eB]
 -- the runs as the timetable has them
 refine Za _ rfl fun ke ge=>?_
 have x9:=Zn ge (.dT [])
 have k9:=@Zh H8 ke (.dT [])
 dsimp only [YM,YV,List.append_nil]
 generalize Zd H8 ke (.dT [])=H9 at x9 k9 ⊢
 have X9:=x8.trans x9
 have hT9:=hT7.same X9
 have kd9:=Zb3 hT9
 have hD9:WX (noT t H9) d D'.ts:=(hD7.same X9).keep kd9
 have hA9:X0 t (noT t H9) n ⟨D'.ss,D'.ws,ru,D'.ks,tp⟩:=by
  obtain ⟨na,h⟩:=hA7.same X9
  exact ⟨na,h.keep kd9⟩
 have hN9:Yt t (noT t H9) nx b D'.ts KF 4:=(hN7.same X9).noT hT9
 have hk9:noT t H9 k=some (.dT kvs):=Za8 hT9 (X9 _ _ hk7) (fun _ z=>(nomatch z))
 have kp9:XH (noT t H9) kvs KF:=(kp7.same X9).keep kd9
 have hk0:noT t H9 ke=some (.dT []):=Za8 hT9 k9 (fun _ z=>(nomatch z))
 have gb9:noT t H9 t.YY=none:=ZeW
 have gl9:noT t H9 t.Xb=none:=ZiD
 have sn9:Zk (noT t H9) H9:=ZeV
 generalize noT t H9=G at hD9 hA9 hN9 hk9 kp9 hk0 gb9 gl9 sn9
 refine Za _ rfl (Za _ rfl (Zj _ _ rfl rfl ⟨d,ke,((B:Nat):Int),((B:Nat):Int)+1440,[],D'.ts,K0,G,rfl,sn9,gl9,hT9.l,hD9,k9,(fun z d=>rfl),TO,Xw.k0,by omega,by omega,by omega,by omega,fun S0 l10 vs10 H10 hS0 s10 sw10 gl10 tl10 hl10 al10=>?_⟩))
 have hT10:=hT9.afterL neT tl10 sw10
 refine Za (fun σ H'=>∃ bi:Int,Zk H10 H'∧σ=[some (.ref a),some (.ref d),v2,some (.ref n),some (.int (c:Nat)),some (.int (day:Nat)),some (.ref nx),some (.ref k),some (.int (g:Nat)),some (.int bi),some (.ref l10),none,none,none,none,none,none]) ?_ ?_
 ·refine Za _ rfl (Zo _ _ rfl rfl ⟨by decide,by decide⟩ (Xm _ _ rfl rfl (by show (0:Int) < 3;decide) rfl (Za _ rfl (XO (fun c1=>?_) (fun c1=>?_)))))
  ·refine Zx _ rfl (by show 0≤sizeLine;decide) fun q11 g11=>?_
   have x11:=Zn g11 (.lst [])
   refine Yn l10 q11 vs10 rfl rfl (Zg.of (x11 _ _ hl10)) (Zg.of Zh) (Za _ rfl (XO (fun c2=>?_) (fun c2=>?_)))
   ·have alx:=al10.imp fun _ _=>Yg.same ((Xr (l:=l10)).trans x11)
    cases hv0:vs10 with
    | nil=>rw [hv0] at c2;cases c2
    | cons v0 vr =>
     obtain ⟨r,er,hr1⟩:=alx.get (show vs10[0]? = some v0 by rw [hv0];rfl)
     obtain ⟨m0,ms0,em0⟩:∃ m ms,r.ms=m::ms:=by
      obtain ⟨x,_,j,_,h⟩:=U1.mp (hS0.1.mem_iff.mp (List.mem_of_getElem? er))
      exact ZeN h
     obtain ⟨p,l,cc,cs,vs,rfl,u1,u2,rfl,u3,e3⟩:=ZeO (K:=K) hr1 em0
     have hl11:=x11 _ _ hl10
     rw [hv0] at hl11
     exact Za _ rfl (Zz l10 _ 0 _ rfl rfl (Zg.of hl11) (Xz (j:=0) rfl) (Zz p _ 2 _ rfl rfl u1 rfl (Zz l _ 0 _ rfl rfl u2 (Xz (j:=0) rfl) (Zz cc _ 2 _ rfl rfl u3 rfl (Za _ rfl (Zo _ _ rfl rfl ⟨by decide,by decide⟩ (Zo _ _ rfl rfl (by show (0:Int) < 3;decide) (Zj _ _ rfl rfl (Zj _ _ rfl rfl (Za _ x11 rfl))))))))))
   ·exact Za _ x11 rfl
  ·exact Za _ (Zk.refl H10) rfl
 rintro σ H11 ⟨bi,s11,rfl⟩
 have hT11:=hT10.same s11
 have sG11:=s10.trans s11
 refine Za _ rfl (ZK _ _ rfl (ZK _ _ rfl ?_))
 obtain ⟨be,ebe,hbe⟩:∃ be:Nat,(if (if (14399999:Int) < bi then 14399999 else bi) > 0 then (if (14399999:Int) < bi then 14399999 else bi) else 0)=((be:Nat):Int)∧be≤14399999:=Za ((if (if (14399999:Int) < bi then 14399999 else bi) > 0 then (if (14399999:Int) < bi then 14399999 else bi) else 0).toNat) (by split <;> split <;> omega) (by split <;> split <;> omega)
 dsimp only
 rw [ebe]
 refine Za _ rfl (Za _ rfl (Zo _ _ rfl rfl ⟨by decide,by decide⟩ (Xm _ _ rfl rfl (by show (0:Int) < 200;decide) (by show 4≤sizeLine;decide) fun q12 g12=>?_)))
 obtain ⟨ve,eve,w8,rfl,hw8⟩:=Vs (p:=fun v=>∃ b:Nat,v=.int (b:Nat)∧b≤4320) (xs:=[.int 0,.int (((g:Nat):Int) / 51840 % 200),.int 1440,.int 4320]) (d:=((g:Nat):Int) / 7 % 4) (fun v hv=>by
  simp only [List.mem_cons,List.not_mem_nil,or_false] at hv
  rcases hv with rfl | rfl | rfl | rfl
  ·exact Za 0 rfl (by decide)
  ·exact Za (g / 51840 % 200) rfl (by omega)
  ·exact Za 1440 rfl (by decide)
  ·exact Za 4320 rfl (by decide)) (by omega) (by show ((g:Nat):Int) / 7 % 4 < 4;omega)
 have x12:=Zn g12 (.lst [.int 0,.int (((g:Nat):Int) / 51840 % 200),.int 1440,.int 4320])
 have k12:=@Zh H11 q12 (.lst [.int 0,.int (((g:Nat):Int) / 51840 % 200),.int 1440,.int 4320])
 dsimp only [YM,YV,List.append_nil]
 generalize Zd H11 q12 (.lst [.int 0,.int (((g:Nat):Int) / 51840 % 200),.int 1440,.int 4320])=H12 at x12 k12 ⊢
 have hT12:=hT11.same x12
 have sG12:=sG11.trans x12
 refine Za _ rfl (Zo _ _ rfl rfl ⟨by decide,by decide⟩ (Zo _ _ rfl rfl (by show (0:Int) < 4;decide) (Zz q12 _ _ _ rfl rfl (Zg.of k12) eve (Zj _ _ rfl rfl ?_))))
 generalize hen:((be:Nat):Int)+((w8:Nat):Int)=en
 dsimp only
 rw [hen]
 refine Za _ rfl (Za _ rfl (Za _ rfl (Za _ rfl ⟨d,k,((be:Nat):Int),en,kvs,D'.ts,KF,G,rfl,sG12,gl9,hT12.l,hD9,sG12 _ _ hk9,kp9.same sG12,TO,kf7,by omega,by omega,by omega,by omega,fun S l13 vs13 H13 hS13 s13 sw13 gl13 tl13 hl13 al13=>?_⟩)))
 have hT13:=hT12.afterL neT tl13 sw13
 have rok:∀ {b e:Int} {KF:ZW} {S:List Rn},U2 (Ua b e KF D'.ts) S→∀ r∈S,Zb2 r:=fun h r hr=>Zq2 okS okT l4 (h.1.mem_iff.mp hr)
 have kd13:=Zb3 hT13
 have hA13:X0 t (noT t H13) n ⟨D'.ss,D'.ws,ru,D'.ks,tp⟩:=by
  obtain ⟨na,h⟩:=hA9.same s13
  exact ⟨na,h.keep kd13⟩
 have hN13:Yt t (noT t H13) nx b D'.ts KF 4:=(hN9.same s13).noT hT13
 have hD13:WX (noT t H13) d D'.ts:=(hD9.same s13).keep kd13
 have hl13':noT t H13 l13=some (.lst vs13):=kd13.lst hl13
 have al13':Al (Yg G (noT t H13)) vs13 S:=al13.imp fun _ _ h=>(h.same Xr).keep kd13
 have gb13:noT t H13 t.YY=none:=ZeW
 have gl13:noT t H13 t.Xb=none:=ZiD
 have sn13:Zk (noT t H13) H13:=ZeV
 generalize noT t H13=G2 at hA13 hN13 hD13 hl13' al13' gb13 gl13 sn13
 refine Za (fun σ H'=>Zk G2 H'∧Xx t H'∧∃ v13 v14 v15:Option V,σ=[some (.ref a),some (.ref d),v2,some (.ref n),some (.int (c:Nat)),some (.int (day:Nat)),some (.ref nx),some (.ref k),some (.int (g:Nat)),some (.int (be:Nat)),some (.ref l10),some (.int en),some (.ref l13),v13,v14,v15,none]) ?_ ?_
 ·refine V3 _ rfl (by decide) (by decide) (W9 (fun i σ H'=>Zk G2 H'∧Xx t H'∧∃ v13 v14 v15:Option V,σ=[some (.ref a),some (.ref d),v2,some (.ref n),some (.int (c:Nat)),some (.int (day:Nat)),some (.ref nx),some (.ref k),some (.int (g:Nat)),some (.int (be:Nat)),some (.ref l10),some (.int en),some (.ref l13),v13,v14,v15,none]) ⟨sn13,hT13,none,none,none,rfl⟩ ?_ ?_)
  ·rintro i σ H14 hi ⟨s14,hT14,v13,v14,v15,rfl⟩
   refine Za _ rfl (Za _ rfl (Za _ rfl (Za _ rfl ⟨n,.ref nx,((be:Nat):Int),en,_,D'.ts,KF,G2,rfl,s14,gb13,hT14.b,hA13,alN,TO,kf7,.inr (ZK nx 4 rfl ⟨b,hN13⟩),by omega,by omega,by omega,by omega,fun S' l15 vs15 H15 hS15 s15 sw15 gl15 tb15 hl15 len15 al15=>?_⟩)))
   have hT15:=hT14.afterB neT tb15 sw15
   obtain rfl:=hS15.uniq TO hS13
   refine Za _ rfl (Za _ rfl ⟨l15,l13,vs15,vs13,_,G2,G,rfl,hl15,al15.imp fun _ _=>Yg.same Xr,s15 _ _ hl13',al13'.imp fun _ _=>Yg.same s15,rok hS15,fun H16 s16=>(Za _ rfl (ZH (by decide) ?_))⟩)
   have hl16:=s16 _ _ hl15
   have weak:∀ v∈vs15,∃ (p l:Addr) (u1 u2:V) (ws:List V),v=.ref p∧H16 p=some (.tup [u1,u2,.ref l])∧H16 l=some (.lst ws)∧G2 l=none∧l≠l15:=fun v hv=>by
    obtain ⟨j,hj,ej⟩:=List.mem_iff_getElem.mp hv
    obtain ⟨r,_,p,l,ws,e1,h1,h2,_,h4⟩:=al15.get (List.getElem?_eq_getElem hj)
    exact Ql p l _ _ ws (ej.symm.trans e1) (s16 _ _ (XQ h1).2) (s16 _ _ (XQ h2).2) h4 ((XQ h2).1)
   refine Za _ rfl (Zx l15 rfl ⟨_,Zg.of hl16⟩ (W8 (K:=K) (a:=l15) (xs:=vs15) (fun j σ H'=>Zk G2 H'∧Xx t H'∧H' l15=some (.lst vs15)∧(∀ v∈vs15,∃ (p l:Addr) (u1 u2:V) (ws:List V),v=.ref p∧H' p=some (.tup [u1,u2,.ref l])∧H' l=some (.lst ws)∧G2 l=none∧l≠l15)∧∃ v15:Option V,σ=[some (.ref a),some (.ref d),v2,some (.ref n),some (.int (c:Nat)),some (.int (day:Nat)),some (.ref nx),some (.ref k),some (.int (g:Nat)),some (.int (be:Nat)),some (.ref l10),some (.int en),some (.ref l13),some (.int (0+((i:Nat):Int))),some (.ref l15),v15,none]) ⟨s15.trans s16,hT15.same s16,hl16,weak,_,rfl⟩ (fun i σ H' _ ⟨_,_,h,_⟩=>Zg.of h) ?_ ?_))
   ·rintro j v σ H17 hv ⟨s17,hT17,hl17,wk17,vv,rfl⟩
    obtain ⟨p,l,u1,u2,ws,rfl,hp,hl,gl,nl⟩:=wk17 v (List.mem_of_getElem? hv)
    refine Za _ rfl (Z7 p _ 2 _ rfl rfl (Zu.of hp) rfl (.inl ⟨rfl,_,Zg.of hl⟩) (Zo l ws rfl rfl hl ?_))
    refine ⟨Yb s17 gl _,hT17.put hl,by rw [Zl nl.symm];exact hl17,fun v' hv'=>?_,_,rfl⟩
    obtain ⟨p',l',u1',u2',ws',e',hp',hl',gl',nl'⟩:=wk17 v' hv'
    by_cases el:l'=l
    ·exact Ql p' l' u1' u2' [] e' (by rw [Zl (YL hp' hl (fun z=>(nomatch z)))];exact hp') (by rw [el];exact Zh) gl' nl'
    ·exact Ql p' l' u1' u2' ws' e' (by rw [Zl (YL hp' hl (fun z=>(nomatch z)))];exact hp') (by rw [Zl el];exact hl') gl' nl'
   ·rintro σ H17 ⟨s17,hT17,hl17,wk17,vv,rfl⟩
    refine Zx _ rfl (.inl ⟨rfl,_,Zg.of hl17⟩) (Yn l15 vs15 .non rfl rfl hl17 (Nat.lt_of_lt_of_le len15 (by decide)) ?_)
    exact ⟨Yb s17 gl15 _,hT17.put hl17,_,_,_,rfl⟩
  ·exact fun σ H h=>h
 rintro σ H14 ⟨s14,hT14,v13,v14,v15,rfl⟩
 refine Za _ rfl fun kf gf=>?_
 have x15:=Zn gf (.dT [])
 have k15:=@Zh H14 kf (.dT [])
 dsimp only [YM,YV,List.append_nil]
 generalize Zd H14 kf (.dT [])=H15 at x15 k15 ⊢
 have s15:=s14.trans x15
 have hT15:=hT14.same x15
 refine Za _ rfl (Za _ rfl ⟨d,kf,((be:Nat):Int),en,[],D'.ts,K0,G2,rfl,s15,gl13,hT15.l,hD13,k15,(fun z d=>rfl),TO,Xw.k0,by omega,by omega,by omega,by omega,fun S3 l16 vs16 H16 hS16 s16 sw16 gl16 tl16 hl16 al16=>?_⟩)
 have hT16:=hT15.afterL neT tl16 sw16
 have kd16:=Zb3 hT16
 have hA16:X0 t (noT t H16) n ⟨D'.ss,D'.ws,ru,D'.ks,tp⟩:=by
  obtain ⟨na,h⟩:=hA13.same s16
  exact ⟨na,h.keep kd16⟩
 have hl16':noT t H16 l16=some (.lst vs16):=kd16.lst hl16
 have al16':Al (Yg G2 (noT t H16)) vs16 S3:=al16.imp fun _ _ h=>(h.same Xr).keep kd16
 have gb16:noT t H16 t.YY=none:=ZeW
 have sn16:Zk (noT t H16) H16:=ZeV
 generalize noT t H16=G3 at hA16 hl16' al16' gb16 sn16
 refine Za _ rfl (Za _ rfl (Za _ rfl ⟨n,.non,((be:Nat):Int),en,_,D'.ts,K0,G3,rfl,sn16,gb16,hT16.b,hA16,alN,TO,Xw.k0,.inl ⟨rfl,rfl⟩,by omega,by omega,by omega,by omega,fun S4 l17 vs17 H17 hS17 s17 sw17 gl17 tb17 hl17 _ al17=>?_⟩))
 have hT17:=hT16.afterB neT tb17 sw17
 obtain rfl:=hS17.uniq TO hS16
 refine Za _ rfl ⟨l17,l16,vs17,vs16,_,G3,G2,rfl,hl17,al17.imp fun _ _=>Yg.same Xr,s17 _ _ hl16',al16'.imp fun _ _=>Yg.same s17,rok hS17,fun H18 s18=>(Za true rfl (YS rfl ?_))⟩
 have hT18:=hT17.same s18
 have s18':=s17.trans s18
 refine Za _ rfl (Za _ rfl (Za _ rfl ⟨n,.non,((be:Nat):Int),en,_,D'.ts,K0,G3,rfl,s18',gb16,hT18.b,hA16,alN,TO,Xw.k0,.inl ⟨rfl,rfl⟩,by omega,by omega,by omega,by omega,fun S5 l19 vs19 H19 hS19 s19 sw19 gl19 tb19 hl19 _ al19=>?_⟩))
 obtain rfl:=hS19.uniq TO hS17
 exact Za _ rfl ⟨l19,l16,vs19,vs16,_,G3,G2,rfl,hl19,al19.imp fun _ _=>Yg.same Xr,s19 _ _ hl16',al16'.imp fun _ _=>Yg.same s19,rok hS19,fun H20 s20=>q H20⟩
end
theorem all_mk {K:W.Frag} {h:Heap} {mg:Str→Option Value} (X:K.In h) (G:h.Ns mainGlobals mg)
  {aa:Addr} {ab ac ad ae af ag:Value} {ah ai:Option Addr} {aj:Array (Option Value)}
  {ak:Addr} {al am ao ap aq ar:Value} {as au:Option Addr} {av:Array (Option Value)}
  {aw:Addr} {ax ay az aA aB aC:Value} {aD aE:Option Addr} {aF:Array (Option Value)}
  {aG:Addr} {aH aI aJ aK aL aM:Value} {aN aO:Option Addr} {aP:Array (Option Value)}
  {aQ:Addr} {aR aS aT aU aV aW:Value} {aX aY:Option Addr} {aZ:Array (Option Value)}
  {a0:Addr} {a1 a2 a3 a4 a5 a6:Value} {a7 a8:Option Addr} {a9:Array (Option Value)}
  {ba:Addr} {bb bc bd be bf bg:Value} {bh bi:Option Addr} {bj:Array (Option Value)}
  {bk:Addr} {bl bm bn bo bp bq:Value} {br bs:Option Addr} {bt:Array (Option Value)}
  {bu:Addr} {bv bw bx bz bA bB:Value} {bC bD:Option Addr} {bE:Array (Option Value)}
  {bF:Addr} {bG bH bI bJ bK bL:Value} {bM bN:Option Addr} {bO:Array (Option Value)}
  {bP:Addr} {bQ bR bS bT bU bV:Value} {bW bX:Option Addr} {bY:Array (Option Value)}
  {bZ:Addr} {b0 b1 b2 b3 b4 b5:Value} {b6 b7:Option Addr} {b8:Array (Option Value)}
  {b9:Addr} {ca cb cc cd ce cf:Value} {cg ch:Option Addr} {ci:Array (Option Value)}
  {cj:Addr} {ck cl cm cn co cp:Value} {cq cr:Option Addr} {cs:Array (Option Value)}
  {cu:Addr} {cv:Value} {cw:Option Addr} {cx:Nat} {cy:Array (Option Value)}
  {cz:Addr} {cA cB cC cD cE cF:Value} {cG cH:Option Addr} {cI:Array (Option Value)}
  {cJ:Addr} {cK cL cM cN cO cP:Value} {cQ cR:Option Addr} {cS:Array (Option Value)}
  {cT:Addr} {cU cV cW cX cY cZ:Value} {c0 c1:Option Addr} {c2:Array (Option Value)}
  {c3:Addr} {c4 c5 c6 c7 c8 c9:Value} {da db:Option Addr} {dc:Array (Option Value)}
  {dd:Addr} {de df dg dh di dj:Value} {dk dl:Option Addr} {dm:Array (Option Value)}
  {dn:Addr} {dp dq dr ds dt du:Value} {dv dw:Option Addr} {dx:Array (Option Value)}
  {dy:Addr} {dz dA dB dC dD dE:Value} {dF dG:Option Addr} {dH:Array (Option Value)}
  {dI:Addr} {dJ dK dL dM dN dO:Value} {dP dQ:Option Addr} {dR:Array (Option Value)}
  {dS:Addr} {dT dU dV dW dX dY:Value} {dZ d0:Option Addr} {d1:Array (Option Value)}
  {d2:Addr} {d3 d4 d5 d6 d7 d8:Value} {d9 ea:Option Addr} {eb:Array (Option Value)}
  {ec:Addr} {ed ee ef eg eh ei:Value} {ej ek:Option Addr} {el:Array (Option Value)}
  {em:Addr} {en eo ep eq er es:Value} {et ev:Option Addr} {ew:Array (Option Value)}
  {ey:Addr} {ez eA eB eC eD eE:Value} {eF eG:Option Addr} {eH:Array (Option Value)}
  {eI:Addr} {eJ eK eL eM eN eO:Value} {eP eQ:Option Addr} {eR:Array (Option Value)}
  {eS:Addr} {eT eU eV eW eX eY:Value} {eZ e1:Option Addr} {e2:Array (Option Value)}
  {e3:Addr} {e4 e5 e6 e7 e8 e9:Value} {fb fc:Option Addr} {fd:Array (Option Value)}
  {fe:Addr} {ff fg fh fi fj fk:Value} {fl fm:Option Addr} {fn:Array (Option Value)}
  {fo:Addr} {fp fq fr fs ft fu:Value} {fv fw:Option Addr} {fx:Array (Option Value)}
  {fy:Addr} {fz fA fB fC fD fE:Value} {fF fG:Option Addr} {fH:Array (Option Value)}
  {fI:Addr} {fJ fK fL fM fN fO:Value} {fP fQ:Option Addr} {fR:Array (Option Value)}
  {fS:Addr} {fT fU fV fW fX fY:Value} {fZ f0:Option Addr} {f1:Array (Option Value)}
  {f2:Addr} {f3 f4 f5 f6 f7 f8:Value} {f9 ga:Option Addr} {gb:Array (Option Value)}
  {gc:Addr} {gd gf gg gh gi gj:Value} {gk gl:Option Addr} {gm:Array (Option Value)}
  {gn:Addr} {go gp gq gr gs gu:Value} {gv gw:Option Addr} {gx:Array (Option Value)}
  {gy:Addr} {gz gA gB gC gD gE:Value} {gF gG:Option Addr} {gH:Array (Option Value)}
  {gI:Addr} {gJ gK gL gM gN gO:Value} {gP gQ:Option Addr} {gR:Array (Option Value)}
  {gS:Addr} {gT gU gV gW gX gY:Value} {gZ g0:Option Addr} {g1:Array (Option Value)}
  {g2:Addr} {g3 g4 g5 g6 g7 g8:Value} {g9 hb:Option Addr} {hc:Array (Option Value)}
  {hd:Addr} {he hf hg hh hi hj:Value} {hk hm:Option Addr} {hn:Array (Option Value)}
  {ho:Addr} {hp hq hr hs ht hu:Value} {hv hx:Option Addr} {hy:Array (Option Value)}
  {hz:Addr} {hA hD hE hF hG hH:Value} {hI hJ:Option Addr} {hK:Array (Option Value)}
  {hL:Addr} {hM hN hO hP hQ hR:Value} {hU hV:Option Addr} {hW:Array (Option Value)}
  {hX:Addr} {hY hZ h0 h1 h2 h3:Value} {h4 h5:Option Addr} {h6:Array (Option Value)}
  {h7:Addr} {h8 h9 ia ib ic ie:Value} {ig ih:Option Addr} {ii:Array (Option Value)}
  {ij:Addr} {ik il im io ip iq:Value} {ir it:Option Addr} {iu:Array (Option Value)}
  {iv:Addr} {iw ix iy iz iA iB:Value} {iC iD:Option Addr} {iE:Array (Option Value)}
  {iF:Addr} {iG iH iI iJ iK iL:Value} {iM iN:Option Addr} {iO:Array (Option Value)}
  {iP:Addr} {iQ iR iS iT iU iV:Value} {iW iX:Option Addr} {iY:Array (Option Value)}
  {iZ:Addr} {i0 i1 i2 i3 i4 i5:Value} {i6 i7:Option Addr} {i8:Array (Option Value)}
  {i9:Addr} {ja jb jc jd je jf:Value} {jg jh:Option Addr} {ji:Array (Option Value)}
  {jj:Addr} {jk jl jm jn jo jp:Value} {jq jr:Option Addr} {js:Array (Option Value)}
  {jt:Addr} {ju jv jw jx jy jz:Value} {jA jB:Option Addr} {jC:Array (Option Value)}
  {jD:Addr} {jE jF jG jH jI jJ:Value} {jK jL:Option Addr} {jM:Array (Option Value)}
  {jN:Addr} {jO jP jQ jR jS jT:Value} {jU jV:Option Addr} {jW:Array (Option Value)}
  {jX:Addr} {jY jZ j0 j1 j2 j3:Value} {j4 j5:Option Addr} {j6:Array (Option Value)}
  {j7:Addr}
  {j8:Addr}
  {j9:Addr}
  {ka:Addr}
  {kc:Addr}
  {kd ke:Addr} {kf:Value} {kg:Option Addr} {kh:Array Value} {ki:Array (Option Value)}
  {kj kk:Addr} {kl:Value} {km:Option Addr} {kn:Array Value} {ko:Array (Option Value)}
  {kq:Tok}
  {kr:Tok}
  {ks:Tok}
  {kt:Tok}
  {ku:Tok}
  {kv:Tok}
  {kw:Tok}
  {kx:Tok}
  {ky:Tok}
  {kz:Tok}
  {kA:Tok}
  {kB:Tok}
  {kC:Tok}
  {kD:Tok}
  {kE:Tok}
  {kF:Tok}
  {kG:Tok}
  {kH:Tok}
  {kI:Tok}
  {kJ:Tok}
  {kK:Tok}
  {kL:Tok}
  (kM:List Addr)
  (kN:W.nsIn K mainGlobals "is_any_number" = some (some (.ref aa)))
  (kO:K.lookup aa=some ⟨ab,ah,.func (W.fnOf "is_any_number" "is_any_number" (ZL Qm) (ZD Qm) (Zq Qm) .none ac ad ae ai af ag),aj⟩)
  (kP:W.codeIn K af "is_any_number" = true)
  (kQ:W.keepIn K (.ref aa)=true)
  (kR:W.nsIn K mainGlobals "is_number" = some (some (.ref ak)))
  (kS:K.lookup ak=some ⟨al,as,.func (W.fnOf "is_number" "is_number" (ZL Qn) (ZD Qn) (Zq Qn) .none am ao ap au aq ar),av⟩)
  (kT:W.codeIn K aq "is_number" = true)
  (kU:W.keepIn K (.ref ak)=true)
  (kW:W.nsIn K mainGlobals "check_number" = some (some (.ref aw)))
  (kX:K.lookup aw=some ⟨ax,aD,.func (W.fnOf "check_number" "check_number" (ZL Qo) (ZD Qo) (Zq Qo) .none ay az aA aE aB aC),aF⟩)
  (kY:W.codeIn K aB "check_number" = true)
  (kZ:W.keepIn K (.ref aw)=true)
  (k0:W.nsIn K mainGlobals "are_rising" = some (some (.ref aG)))
  (k1:K.lookup aG=some ⟨aH,aN,.func (W.fnOf "are_rising" "are_rising" (ZL Qp) (ZD Qp) (Zq Qp) .none aI aJ aK aO aL aM),aP⟩)
  (k2:W.codeIn K aL "are_rising" = true)
  (k3:W.keepIn K (.ref aG)=true)
  (k4:W.nsIn K mainGlobals "is_name" = some (some (.ref aQ)))
  (k5:K.lookup aQ=some ⟨aR,aX,.func (W.fnOf "is_name" "is_name" (ZL Qq) (ZD Qq) (Zq Qq) .none aS aT aU aY aV aW),aZ⟩)
  (k6:W.codeIn K aV "is_name" = true)
  (k7:W.keepIn K (.ref aQ)=true)
  (k8:W.nsIn K mainGlobals "is_known" = some (some (.ref a0)))
  (k9:K.lookup a0=some ⟨a1,a7,.func (W.fnOf "is_known" "is_known" (ZL Qr) (ZD Qr) (Zq Qr) .none a2 a3 a4 a8 a5 a6),a9⟩)
  (la:W.codeIn K a5 "is_known" = true)
  (lb:W.keepIn K (.ref a0)=true)
  (lc:W.nsIn K mainGlobals "copy_of" = some (some (.ref ba)))
  (ld:K.lookup ba=some ⟨bb,bh,.func (W.fnOf "copy_of" "copy_of" (ZL Qs) (ZD Qs) (Zq Qs) .none bc bd be bi bf bg),bj⟩)
  (lf:W.codeIn K bf "copy_of" = true)
  (lg:W.keepIn K (.ref ba)=true)
  (lh:W.nsIn K mainGlobals "check_new" = some (some (.ref bk)))
  (li:K.lookup bk=some ⟨bl,br,.func (W.fnOf "check_new" "check_new" (ZL Qt) (ZD Qt) (Zq Qt) .none bm bn bo bs bp bq),bt⟩)
  (lj:W.codeIn K bp "check_new" = true)
  (lk:W.keepIn K (.ref bk)=true)
  (ll:W.nsIn K mainGlobals "check_room" = some (some (.ref bu)))
  (lm:K.lookup bu=some ⟨bv,bC,.func (W.fnOf "check_room" "check_room" (ZL Qu) (ZD Qu) (Zq Qu) .none bw bx bz bD bA bB),bE⟩)
  (ln:W.codeIn K bA "check_room" = true)
  (lo:W.keepIn K (.ref bu)=true)
  (lp:W.nsIn K mainGlobals "have_calls_form" = some (some (.ref bF)))
  (lq:K.lookup bF=some ⟨bG,bM,.func (W.fnOf "have_calls_form" "have_calls_form" (ZL Qv) (ZD Qv) (Zq Qv) .none bH bI bJ bN bK bL),bO⟩)
  (lr:W.codeIn K bK "have_calls_form" = true)
  (ls:W.keepIn K (.ref bF)=true)
  (lu:W.nsIn K mainGlobals "can_follow" = some (some (.ref bP)))
  (lv:K.lookup bP=some ⟨bQ,bW,.func (W.fnOf "can_follow" "can_follow" (ZL Qw) (ZD Qw) (Zq Qw) .none bR bS bT bX bU bV),bY⟩)
  (lw:W.codeIn K bU "can_follow" = true)
  (lx:W.keepIn K (.ref bP)=true)
  (ly:W.nsIn K mainGlobals "moved" = some (some (.ref bZ)))
  (lz:K.lookup bZ=some ⟨b0,b6,.func (W.fnOf "moved" "moved" (ZL Qx) (ZD Qx) (Zq Qx) .none b1 b2 b3 b7 b4 b5),b8⟩)
  (lA:W.codeIn K b4 "moved" = true)
  (lB:W.keepIn K (.ref bZ)=true)
  (lC:W.nsIn K mainGlobals "check_rising" = some (some (.ref b9)))
  (lD:K.lookup b9=some ⟨ca,cg,.func (W.fnOf "check_rising" "check_rising" (ZL Qy) (ZD Qy) (Zq Qy) .none cb cc cd ch ce cf),ci⟩)
  (lE:W.codeIn K ce "check_rising" = true)
  (lF:W.keepIn K (.ref b9)=true)
  (lG:W.nsIn K mainGlobals "runs_between" = some (some (.ref cj)))
  (lH:K.lookup cj=some ⟨ck,cq,.func (W.fnOf "runs_between" "runs_between" (ZL XB) (ZD XB) (Zq XB) (.ref cu) cl cm cn cr co cp),cs⟩)
  (lI:W.codeIn K co "runs_between" = true)
  (lJ:W.keepIn K (.ref cj)=true)
  (lK:K.lookup cu=some ⟨cv,cw,.seq (List.toArray [.none]) cx,cy⟩)
  (lL:W.nsIn K mainGlobals "leaves_within" = some (some (.ref cz)))
  (lM:K.lookup cz=some ⟨cA,cG,.func (W.fnOf "leaves_within" "leaves_within" (ZL Qz) (ZD Qz) (Zq Qz) .none cB cC cD cH cE cF),cI⟩)
  (lN:W.codeIn K cE "leaves_within" = true)
  (lO:W.keepIn K (.ref cz)=true)
  (lP:W.nsIn K mainGlobals "_law_cell_at" = some (some (.ref cJ)))
  (lQ:K.lookup cJ=some ⟨cK,cQ,.func (W.fnOf "_law_cell_at" "_law_cell_at" (ZL QA) (ZD QA) (Zq QA) .none cL cM cN cR cO cP),cS⟩)
  (lR:W.codeIn K cO "_law_cell_at" = true)
  (lS:W.keepIn K (.ref cJ)=true)
  (lT:W.nsIn K mainGlobals "_law_mixed" = some (some (.ref cT)))
  (lU:K.lookup cT=some ⟨cU,c0,.func (W.fnOf "_law_mixed" "_law_mixed" (ZL QB) (ZD QB) (Zq QB) .none cV cW cX c1 cY cZ),c2⟩)
  (lV:W.codeIn K cY "_law_mixed" = true)
  (lW:W.keepIn K (.ref cT)=true)
  (lX:W.nsIn K mainGlobals "_law_names" = some (some (.ref c3)))
  (lY:K.lookup c3=some ⟨c4,da,.func (W.fnOf "_law_names" "_law_names" (ZL QC) (ZD QC) (Zq QC) .none c5 c6 c7 db c8 c9),dc⟩)
  (lZ:W.codeIn K c8 "_law_names" = true)
  (l0:W.keepIn K (.ref c3)=true)
  (l1:W.nsIn K mainGlobals "_law_calls" = some (some (.ref dd)))
  (l2:K.lookup dd=some ⟨de,dk,.func (W.fnOf "_law_calls" "_law_calls" (ZL QD) (ZD QD) (Zq QD) .none df dg dh dl di dj),dm⟩)
  (l3:W.codeIn K di "_law_calls" = true)
  (l4:W.keepIn K (.ref dd)=true)
  (l5:W.nsIn K mainGlobals "_law_rule" = some (some (.ref dn)))
  (l6:K.lookup dn=some ⟨dp,dv,.func (W.fnOf "_law_rule" "_law_rule" (ZL QE) (ZD QE) (Zq QE) .none dq dr ds dw dt du),dx⟩)
  (l7:W.codeIn K dt "_law_rule" = true)
  (l8:W.keepIn K (.ref dn)=true)
  (l9:W.nsIn K mainGlobals "_law_net" = some (some (.ref dy)))
  (ma:K.lookup dy=some ⟨dz,dF,.func (W.fnOf "_law_net" "_law_net" (ZL QF) (ZD QF) (Zq QF) .none dA dB dC dG dD dE),dH⟩)
  (mb:W.codeIn K dD "_law_net" = true)
  (mc:W.keepIn K (.ref dy)=true)
  (md:W.nsIn K mainGlobals "_law_built" = some (some (.ref dI)))
  (me:K.lookup dI=some ⟨dJ,dP,.func (W.fnOf "_law_built" "_law_built" (ZL QG) (ZD QG) (Zq QG) .none dK dL dM dQ dN dO),dR⟩)
  (mf:W.codeIn K dN "_law_built" = true)
  (mh:W.keepIn K (.ref dI)=true)
  (mi:W.nsIn K mainGlobals "_law_runs_on" = some (some (.ref dS)))
  (mj:K.lookup dS=some ⟨dT,dZ,.func (W.fnOf "_law_runs_on" "_law_runs_on" (ZL QH) (ZD QH) (Zq QH) .none dU dV dW d0 dX dY),d1⟩)
  (mk:W.codeIn K dX "_law_runs_on" = true)
  (ml:W.keepIn K (.ref dS)=true)
  (mm:W.nsIn K mainGlobals "_law_rises" = some (some (.ref d2)))
  (mn:K.lookup d2=some ⟨d3,d9,.func (W.fnOf "_law_rises" "_law_rises" (ZL QI) (ZD QI) (Zq QI) .none d4 d5 d6 ea d7 d8),eb⟩)
  (mo:W.codeIn K d7 "_law_rises" = true)
  (mp:W.keepIn K (.ref d2)=true)
  (mq:W.nsIn K mainGlobals "_law_told" = some (some (.ref ec)))
  (mr:K.lookup ec=some ⟨ed,ej,.func (W.fnOf "_law_told" "_law_told" (ZL QJ) (ZD QJ) (Zq QJ) .none ee ef eg ek eh ei),el⟩)
  (ms:W.codeIn K eh "_law_told" = true)
  (mt:W.keepIn K (.ref ec)=true)
  (mu:W.nsIn K mainGlobals "_law_moments" = some (some (.ref em)))
  (mv:K.lookup em=some ⟨en,et,.func (W.fnOf "_law_moments" "_law_moments" (ZL QK) (ZD QK) (Zq QK) .none eo ep eq ev er es),ew⟩)
  (mw:W.codeIn K er "_law_moments" = true)
  (mx:W.keepIn K (.ref em)=true)
  (my:W.nsIn K mainGlobals "_law_runs" = some (some (.ref ey)))
  (mz:K.lookup ey=some ⟨ez,eF,.func (W.fnOf "_law_runs" "_law_runs" (ZL Vz) (ZD Vz) (Zq Vz) .none eA eB eC eG eD eE),eH⟩)
  (mA:W.codeIn K eD "_law_runs" = true)
  (mB:W.keepIn K (.ref ey)=true)
  (mC:W.nsIn K mainGlobals "_law_is" = some (some (.ref eI)))
  (mD:K.lookup eI=some ⟨eJ,eP,.func (W.fnOf "_law_is" "_law_is" (ZL QL) (ZD QL) (Zq QL) .none eK eL eM eQ eN eO),eR⟩)
  (mE:W.codeIn K eN "_law_is" = true)
  (mF:W.keepIn K (.ref eI)=true)
  (mG:W.nsIn K mainGlobals "law" = some (some (.ref eS)))
  (mH:K.lookup eS=some ⟨eT,eZ,.func (W.fnOf "law" "law" (ZL QM) (ZD QM) (Zq QM) .none eU eV eW e1 eX eY),e2⟩)
  (mI:W.codeIn K eX "law" = true)
  (mJ:W.keepIn K (.ref eS)=true)
  (mK:W.nsIn K mainGlobals "Rule" = some (some (.ref j7)))
  (mL:W.nsIn K mainGlobals "Week" = some (some (.ref j8)))
  (mM:W.nsIn K mainGlobals "Each" = some (some (.ref j9)))
  (mN:W.nsIn K mainGlobals "Net" = some (some (.ref ka)))
  (mO:W.nsIn K mainGlobals "Notices" = some (some (.ref kc)))
  (mP:W.findIn K (.ref j7) "copied" = some (some (.ref e3)))
  (mQ:W.isFn K (.ref e3)=true)
  (mR:K.lookup e3=some ⟨e4,fb,.func (W.fnOf "copied" "Rule.copied" (ZL QN) (ZD QN) (Zq QN) .none e5 e6 e7 fc e8 e9),fd⟩)
  (mS:W.codeIn K e8 "Rule.copied" = true)
  (mT:W.keepIn K (.ref e3)=true)
  (mU:W.findIn K (.ref j7) "runs" = some (some (.ref fe)))
  (mV:W.isFn K (.ref fe)=true)
  (mW:K.lookup fe=some ⟨ff,fl,.func (W.fnOf "runs" "Rule.runs" (ZL QO) (ZD QO) (Zq QO) .none fg fh fi fm fj fk),fn⟩)
  (mX:W.codeIn K fj "Rule.runs" = true)
  (mY:W.keepIn K (.ref fe)=true)
  (mZ:W.findIn K (.ref j8) "__init__" = some (some (.ref fo)))
  (m0:W.isFn K (.ref fo)=true)
  (m1:K.lookup fo=some ⟨fp,fv,.func (W.fnOf "__init__" "Week.__init__" (ZL QP) (ZD QP) (Zq QP) .none fq fr fs fw ft fu),fx⟩)
  (m2:W.codeIn K ft "Week.__init__" = true)
  (m3:W.keepIn K (.ref fo)=true)
  (m4:W.findIn K (.ref j8) "copied" = some (some (.ref fy)))
  (m5:W.isFn K (.ref fy)=true)
  (m6:K.lookup fy=some ⟨fz,fF,.func (W.fnOf "copied" "Week.copied" (ZL QQ) (ZD QQ) (Zq QQ) .none fA fB fC fG fD fE),fH⟩)
  (m7:W.codeIn K fD "Week.copied" = true)
  (m8:W.keepIn K (.ref fy)=true)
  (m9:W.findIn K (.ref j8) "runs" = some (some (.ref fI)))
  (na:W.isFn K (.ref fI)=true)
  (nc:K.lookup fI=some ⟨fJ,fP,.func (W.fnOf "runs" "Week.runs" (ZL QR) (ZD QR) (Zq QR) .none fK fL fM fQ fN fO),fR⟩)
  (nd:W.codeIn K fN "Week.runs" = true)
  (nf:W.keepIn K (.ref fI)=true)
  (ng:W.findIn K (.ref j9) "__init__" = some (some (.ref fS)))
  (nh:W.isFn K (.ref fS)=true)
  (ni:K.lookup fS=some ⟨fT,fZ,.func (W.fnOf "__init__" "Each.__init__" (ZL QS) (ZD QS) (Zq QS) .none fU fV fW f0 fX fY),f1⟩)
  (nj:W.codeIn K fX "Each.__init__" = true)
  (nk:W.keepIn K (.ref fS)=true)
  (nl:W.findIn K (.ref j9) "copied" = some (some (.ref f2)))
  (nm:W.isFn K (.ref f2)=true)
  (nn:K.lookup f2=some ⟨f3,f9,.func (W.fnOf "copied" "Each.copied" (ZL QT) (ZD QT) (Zq QT) .none f4 f5 f6 ga f7 f8),gb⟩)
  (no:W.codeIn K f7 "Each.copied" = true)
  (np:W.keepIn K (.ref f2)=true)
  (nq:W.findIn K (.ref j9) "runs" = some (some (.ref gc)))
  (nr:W.isFn K (.ref gc)=true)
  (nt:K.lookup gc=some ⟨gd,gk,.func (W.fnOf "runs" "Each.runs" (ZL QU) (ZD QU) (Zq QU) .none gf gg gh gl gi gj),gm⟩)
  (nu:W.codeIn K gi "Each.runs" = true)
  (nv:W.keepIn K (.ref gc)=true)
  (nw:W.findIn K (.ref ka) "__init__" = some (some (.ref gn)))
  (nx:W.isFn K (.ref gn)=true)
  (ny:K.lookup gn=some ⟨go,gv,.func (W.fnOf "__init__" "Net.__init__" (ZL QV) (ZD QV) (Zq QV) .none gp gq gr gw gs gu),gx⟩)
  (nz:W.codeIn K gs "Net.__init__" = true)
  (nA:W.keepIn K (.ref gn)=true)
  (nB:W.findIn K (.ref ka) "add_stop" = some (some (.ref gy)))
  (nC:W.isFn K (.ref gy)=true)
  (nD:K.lookup gy=some ⟨gz,gF,.func (W.fnOf "add_stop" "Net.add_stop" (ZL QW) (ZD QW) (Zq QW) .none gA gB gC gG gD gE),gH⟩)
  (nE:W.codeIn K gD "Net.add_stop" = true)
  (nF:W.keepIn K (.ref gy)=true)
  (nG:W.findIn K (.ref ka) "add_walk" = some (some (.ref gI)))
  (nH:W.isFn K (.ref gI)=true)
  (nI:K.lookup gI=some ⟨gJ,gP,.func (W.fnOf "add_walk" "Net.add_walk" (ZL QX) (ZD QX) (Zq QX) .none gK gL gM gQ gN gO),gR⟩)
  (nJ:W.codeIn K gN "Net.add_walk" = true)
  (nK:W.keepIn K (.ref gI)=true)
  (nL:W.findIn K (.ref ka) "add_rule" = some (some (.ref gS)))
  (nM:W.isFn K (.ref gS)=true)
  (nN:K.lookup gS=some ⟨gT,gZ,.func (W.fnOf "add_rule" "Net.add_rule" (ZL QY) (ZD QY) (Zq QY) .none gU gV gW g0 gX gY),g1⟩)
  (nO:W.codeIn K gX "Net.add_rule" = true)
  (nP:W.keepIn K (.ref gS)=true)
  (nQ:W.findIn K (.ref ka) "add_ticket" = some (some (.ref g2)))
  (nR:W.isFn K (.ref g2)=true)
  (nS:K.lookup g2=some ⟨g3,g9,.func (W.fnOf "add_ticket" "Net.add_ticket" (ZL QZ) (ZD QZ) (Zq QZ) .none g4 g5 g6 hb g7 g8),hc⟩)
  (nT:W.codeIn K g7 "Net.add_ticket" = true)
  (nU:W.keepIn K (.ref g2)=true)
  (nV:W.findIn K (.ref ka) "add_trip" = some (some (.ref hd)))
  (nW:W.isFn K (.ref hd)=true)
  (nX:K.lookup hd=some ⟨he,hk,.func (W.fnOf "add_trip" "Net.add_trip" (ZL Q0) (ZD Q0) (Zq Q0) .none hf hg hh hm hi hj),hn⟩)
  (nY:W.codeIn K hi "Net.add_trip" = true)
  (nZ:W.keepIn K (.ref hd)=true)
  (n0:W.findIn K (.ref ka) "check_stop" = some (some (.ref ho)))
  (n1:W.isFn K (.ref ho)=true)
  (n2:K.lookup ho=some ⟨hp,hv,.func (W.fnOf "check_stop" "Net.check_stop" (ZL Q1) (ZD Q1) (Zq Q1) .none hq hr hs hx ht hu),hy⟩)
  (n3:W.codeIn K ht "Net.check_stop" = true)
  (n4:W.keepIn K (.ref ho)=true)
  (n5:W.findIn K (.ref ka) "check_trip" = some (some (.ref hz)))
  (n6:W.isFn K (.ref hz)=true)
  (n7:K.lookup hz=some ⟨hA,hI,.func (W.fnOf "check_trip" "Net.check_trip" (ZL Q3) (ZD Q3) (Zq Q3) .none hD hE hF hJ hG hH),hK⟩)
  (n8:W.codeIn K hG "Net.check_trip" = true)
  (n9:W.keepIn K (.ref hz)=true)
  (oa:W.findIn K (.ref ka) "check_call" = some (some (.ref hL)))
  (ob:W.isFn K (.ref hL)=true)
  (oe:K.lookup hL=some ⟨hM,hU,.func (W.fnOf "check_call" "Net.check_call" (ZL Q4) (ZD Q4) (Zq Q4) .none hN hO hP hV hQ hR),hW⟩)
  (og:W.codeIn K hQ "Net.check_call" = true)
  (oh:W.keepIn K (.ref hL)=true)
  (oi:W.findIn K (.ref ka) "has_walk" = some (some (.ref hX)))
  (oj:W.isFn K (.ref hX)=true)
  (ok:K.lookup hX=some ⟨hY,h4,.func (W.fnOf "has_walk" "Net.has_walk" (ZL Q5) (ZD Q5) (Zq Q5) .none hZ h0 h1 h5 h2 h3),h6⟩)
  (ol:W.codeIn K h2 "Net.has_walk" = true)
  (om:W.keepIn K (.ref hX)=true)
  (on:W.findIn K (.ref ka) "trips" = some (some (.ref h7)))
  (oo:W.isFn K (.ref h7)=true)
  (op:K.lookup h7=some ⟨h8,ig,.func (W.fnOf "trips" "Net.trips" (ZL Q6) (ZD Q6) (Zq Q6) .none h9 ia ib ih ic ie),ii⟩)
  (oq:W.codeIn K ic "Net.trips" = true)
  (os:W.keepIn K (.ref h7)=true)
  (ot:W.findIn K (.ref ka) "rule" = some (some (.ref ij)))
  (ou:W.isFn K (.ref ij)=true)
  (ov:K.lookup ij=some ⟨ik,ir,.func (W.fnOf "rule" "Net.rule" (ZL Q7) (ZD Q7) (Zq Q7) .none il im io it ip iq),iu⟩)
  (ow:W.codeIn K ip "Net.rule" = true)
  (ox:W.keepIn K (.ref ij)=true)
  (oy:W.findIn K (.ref ka) "rule_name" = some (some (.ref iv)))
  (oz:W.isFn K (.ref iv)=true)
  (oA:K.lookup iv=some ⟨iw,iC,.func (W.fnOf "rule_name" "Net.rule_name" (ZL Q8) (ZD Q8) (Zq Q8) .none ix iy iz iD iA iB),iE⟩)
  (oB:W.codeIn K iA "Net.rule_name" = true)
  (oC:W.keepIn K (.ref iv)=true)
  (oD:W.findIn K (.ref ka) "calls" = some (some (.ref iF)))
  (oE:W.isFn K (.ref iF)=true)
  (oF:K.lookup iF=some ⟨iG,iM,.func (W.fnOf "calls" "Net.calls" (ZL Q9) (ZD Q9) (Zq Q9) .none iH iI iJ iN iK iL),iO⟩)
  (oG:W.codeIn K iK "Net.calls" = true)
  (oH:W.keepIn K (.ref iF)=true)
  (oI:W.findIn K (.ref kc) "__init__" = some (some (.ref iP)))
  (oJ:W.isFn K (.ref iP)=true)
  (oK:K.lookup iP=some ⟨iQ,iW,.func (W.fnOf "__init__" "Notices.__init__" (ZL Zaa) (ZD Zaa) (Zq Zaa) .none iR iS iT iX iU iV),iY⟩)
  (oL:W.codeIn K iU "Notices.__init__" = true)
  (oM:W.keepIn K (.ref iP)=true)
  (oN:W.findIn K (.ref kc) "late" = some (some (.ref iZ)))
  (oO:W.isFn K (.ref iZ)=true)
  (oP:K.lookup iZ=some ⟨i0,i6,.func (W.fnOf "late" "Notices.late" (ZL Zab) (ZD Zab) (Zq Zab) .none i1 i2 i3 i7 i4 i5),i8⟩)
  (oQ:W.codeIn K i4 "Notices.late" = true)
  (oR:W.keepIn K (.ref iZ)=true)
  (oS:W.findIn K (.ref kc) "out" = some (some (.ref i9)))
  (oT:W.isFn K (.ref i9)=true)
  (oU:K.lookup i9=some ⟨ja,jg,.func (W.fnOf "out" "Notices.out" (ZL Zac) (ZD Zac) (Zq Zac) .none jb jc jd jh je jf),ji⟩)
  (oV:W.codeIn K je "Notices.out" = true)
  (oW:W.keepIn K (.ref i9)=true)
  (oX:W.findIn K (.ref kc) "moments" = some (some (.ref jj)))
  (oY:W.isFn K (.ref jj)=true)
  (oZ:K.lookup jj=some ⟨jk,jq,.func (W.fnOf "moments" "Notices.moments" (ZL Zad) (ZD Zad) (Zq Zad) .none jl jm jn jr jo jp),js⟩)
  (o0:W.codeIn K jo "Notices.moments" = true)
  (o1:W.keepIn K (.ref jj)=true)
  (o2:W.findIn K (.ref kc) "late_minutes" = some (some (.ref jt)))
  (o3:W.isFn K (.ref jt)=true)
  (o4:K.lookup jt=some ⟨ju,jA,.func (W.fnOf "late_minutes" "Notices.late_minutes" (ZL Zae) (ZD Zae) (Zq Zae) .none jv jw jx jB jy jz),jC⟩)
  (o5:W.codeIn K jy "Notices.late_minutes" = true)
  (o6:W.keepIn K (.ref jt)=true)
  (o7:W.findIn K (.ref kc) "check_day" = some (some (.ref jD)))
  (o8:W.isFn K (.ref jD)=true)
  (o9:K.lookup jD=some ⟨jE,jK,.func (W.fnOf "check_day" "Notices.check_day" (ZL Zaf) (ZD Zaf) (Zq Zaf) .none jF jG jH jL jI jJ),jM⟩)
  (pa:W.codeIn K jI "Notices.check_day" = true)
  (pb:W.keepIn K (.ref jD)=true)
  (pc:W.findIn K (.ref kc) "check_runs" = some (some (.ref jN)))
  (pd:W.isFn K (.ref jN)=true)
  (pe:K.lookup jN=some ⟨jO,jU,.func (W.fnOf "check_runs" "Notices.check_runs" (ZL Zag) (ZD Zag) (Zq Zag) .none jP jQ jR jV jS jT),jW⟩)
  (pf:W.codeIn K jS "Notices.check_runs" = true)
  (pg:W.keepIn K (.ref jN)=true)
  (ph:W.findIn K (.ref kc) "check_goes" = some (some (.ref jX)))
  (pi:W.isFn K (.ref jX)=true)
  (pj:K.lookup jX=some ⟨jY,j4,.func (W.fnOf "check_goes" "Notices.check_goes" (ZL Zah) (ZD Zah) (Zq Zah) .none jZ j0 j1 j5 j2 j3),j6⟩)
  (pk:W.codeIn K j2 "Notices.check_goes" = true)
  (pl:W.keepIn K (.ref jX)=true)
  (pn:W.plainGet K j7 Str.empty=true)
  (po:W.hasDictIn K j7=true)
  (pp:W.plainOver K j7=true)
  (pq:W.findIn K (.ref j7) "__setattr__" = some (some (.builtin "object.__setattr__")))
  (pr:W.makesIn K j7=true)
  (pt:W.keepIn K (.ref j7)=true)
  (pu:W.findIn K (.ref j7) "__init__" = some (some (.builtin "object.__init__")))
  (pv:W.plainGet K j8 Str.empty=true)
  (pw:W.hasDictIn K j8=true)
  (px:W.plainOver K j8=true)
  (py:W.findIn K (.ref j8) "__setattr__" = some (some (.builtin "object.__setattr__")))
  (pz:W.makesIn K j8=true)
  (pA:W.keepIn K (.ref j8)=true)
  (pB:W.findIn K (.ref j8) "bits" = some none)
  (pC:W.plainGet K j9 Str.empty=true)
  (pD:W.hasDictIn K j9=true)
  (pE:W.plainOver K j9=true)
  (pF:W.findIn K (.ref j9) "__setattr__" = some (some (.builtin "object.__setattr__")))
  (pG:W.makesIn K j9=true)
  (pH:W.keepIn K (.ref j9)=true)
  (pI:W.findIn K (.ref j9) "length" = some none)
  (pJ:W.findIn K (.ref j9) "starts" = some none)
  (pK:W.plainGet K ka Str.empty=true)
  (pL:W.hasDictIn K ka=true)
  (pM:W.plainOver K ka=true)
  (pN:W.findIn K (.ref ka) "__setattr__" = some (some (.builtin "object.__setattr__")))
  (pO:W.makesIn K ka=true)
  (pP:W.keepIn K (.ref ka)=true)
  (pQ:W.findIn K (.ref ka) "stop_rows" = some none)
  (pR:W.findIn K (.ref ka) "walk_rows" = some none)
  (pS:W.findIn K (.ref ka) "rule_rows" = some none)
  (pT:W.findIn K (.ref ka) "ticket_rows" = some none)
  (pU:W.findIn K (.ref ka) "trip_rows" = some none)
  (pV:W.plainGet K kc Str.empty=true)
  (pW:W.hasDictIn K kc=true)
  (pX:W.plainOver K kc=true)
  (pY:W.findIn K (.ref kc) "__setattr__" = some (some (.builtin "object.__setattr__")))
  (pZ:W.makesIn K kc=true)
  (p0:W.keepIn K (.ref kc)=true)
  (p1:W.findIn K (.ref kc) "timetable" = some none)
  (p2:W.findIn K (.ref kc) "taken" = some none)
  (p3:W.findIn K (.ref kc) "lateness" = some none)
  (p4:co=.ref kd)
  (p5:K.lookup kd=some ⟨kf,kg,.fields kh,ki⟩)
  (p6:(kh[11]?:Option Value)=some (.ref ke))
  (p7:K.lookup ke=none)
  (p8:W.codeHdIn K kd ke=true)
  (p9:ke∈kM)
  (qa:eD=.ref kj)
  (qb:K.lookup kj=some ⟨kl,km,.fields kn,ko⟩)
  (qc:(kn[11]?:Option Value)=some (.ref kk))
  (qd:K.lookup kk=none)
  (qe:W.codeHdIn K kj kk=true)
  (qf:kk∈kM)
  (qg:ke≠kk)
  (qh:W.findIn K (.ref j7) "__class__" = some (some (.builtin "object.__class__")))
  (qi:W.specialIn K (.builtin "object.__class__") "__get__" = some (some (.builtin "getset_descriptor.__get__")))
  (qj:W.takesIn K (.builtin "object.__class__")=some true)
  (qk:W.mroIn K j7 (.type "object")=some true)
  (ql:W.kitOne K (.ref j7) (.ref j7)=some true)
  (qm:W.findIn K (.ref j8) "__class__" = some (some (.builtin "object.__class__")))
  (qn:W.specialIn K (.builtin "object.__class__") "__get__" = some (some (.builtin "getset_descriptor.__get__")))
  (qo:W.takesIn K (.builtin "object.__class__")=some true)
  (qp:W.mroIn K j8 (.type "object")=some true)
  (qq:W.kitOne K (.ref j8) (.ref j7)=some true)
  (qr:W.findIn K (.ref j9) "__class__" = some (some (.builtin "object.__class__")))
  (qs:W.specialIn K (.builtin "object.__class__") "__get__" = some (some (.builtin "getset_descriptor.__get__")))
  (qt:W.takesIn K (.builtin "object.__class__")=some true)
  (qu:W.mroIn K j9 (.type "object")=some true)
  (qv:W.kitOne K (.ref j9) (.ref j7)=some true)
  (qw:W.nsIn K mainGlobals "all" = some none)
  (qx:W.nsIn K mainGlobals "any" = some none)
  (qy:W.nsIn K mainGlobals "bool" = some none)
  (qz:W.nsIn K mainGlobals "enumerate" = some none)
  (qA:W.nsIn K mainGlobals "int" = some none)
  (qB:W.nsIn K mainGlobals "isinstance" = some none)
  (qC:W.nsIn K mainGlobals "len" = some none)
  (qD:W.nsIn K mainGlobals "list" = some none)
  (qE:W.nsIn K mainGlobals "max" = some none)
  (qF:W.nsIn K mainGlobals "min" = some none)
  (qG:W.nsIn K mainGlobals "range" = some none)
  (qH:W.nsIn K mainGlobals "set" = some none)
  (qI:W.nsIn K mainGlobals "sorted" = some none)
  (qJ:W.nsIn K mainGlobals "str" = some none)
  (qK:W.nsIn K mainGlobals "tuple" = some none)
  (qL:W.nsIn K mainGlobals "zip" = some none)
  (qM:W.nsIn K mainGlobals "LETTERS" = some (some (.str (Str.ofString "abcdefghijklmnopqrstuvwxyz") kq)))
  (qN:W.nsIn K mainGlobals "MOST_LETTERS" = some (some (.int 8 kr)))
  (qO:W.nsIn K mainGlobals "LAST_DAY" = some (some (.int 9999 ks)))
  (qP:W.nsIn K mainGlobals "DAY_MINUTES" = some (some (.int 1440 kt)))
  (qQ:W.nsIn K mainGlobals "LAST_MINUTE" = some (some (.int 2879 ku)))
  (qR:W.nsIn K mainGlobals "WEEK_DAYS" = some (some (.int 7 kv)))
  (qS:W.nsIn K mainGlobals "ALL_WEEK" = some (some (.int 127 kw)))
  (qT:W.nsIn K mainGlobals "MOST_LENGTH" = some (some (.int 28 kx)))
  (qU:W.nsIn K mainGlobals "MOST_LISTED" = some (some (.int 12 ky)))
  (qV:W.nsIn K mainGlobals "MOST_STOPS" = some (some (.int 8 kz)))
  (qW:W.nsIn K mainGlobals "MOST_WALKS" = some (some (.int 12 kA)))
  (qX:W.nsIn K mainGlobals "MOST_RULES" = some (some (.int 6 kB)))
  (qY:W.nsIn K mainGlobals "MOST_TICKETS" = some (some (.int 3 kC)))
  (qZ:W.nsIn K mainGlobals "MOST_TRIPS" = some (some (.int 10 kD)))
  (q0:W.nsIn K mainGlobals "LAST_ZONE" = some (some (.int 6 kE)))
  (q1:W.nsIn K mainGlobals "MOST_CHANGE" = some (some (.int 30 kF)))
  (q2:W.nsIn K mainGlobals "MOST_WALKED" = some (some (.int 60 kG)))
  (q3:W.nsIn K mainGlobals "MOST_PRICE" = some (some (.int 10000 kH)))
  (q4:W.nsIn K mainGlobals "MOST_LASTING" = some (some (.int 1440 kI)))
  (q5:W.nsIn K mainGlobals "LEAST_CALLS" = some (some (.int 2 kJ)))
  (q6:W.nsIn K mainGlobals "MOST_CALLS" = some (some (.int 6 kK)))
  (q7:W.nsIn K mainGlobals "MOST_LATE" = some (some (.int 300 kL)))
  : ∃ t:Z9,ZO K mg t∧t.YY∈kM∧t.Xb∈kM:=by
 have q8:=ZR (st:=Qm) kO kP kQ
 have q9:=q8.binds (ps:=["value"]) fun _ _ _ _ _ _=>L2.WG fun _=>rfl
 have ra:=ZR (st:=Qn) kS kT kU
 have rb:=ra.binds (ps:=["value","least","most"]) fun _ _ _ _ _ _=>L2.WH fun _ _ _=>rfl
 have rc:=ZR (st:=Qo) kX kY kZ
 have rd:=rc.binds (ps:=["value","least","most"]) fun _ _ _ _ _ _=>L2.WH fun _ _ _=>rfl
 have re:=ZR (st:=Qp) k1 k2 k3
 have rf:=re.binds (ps:=["values","longest","least","most"]) fun _ _ _ _ _ _=>L2.Qj fun _ _ _ _=>rfl
 have rg:=ZR (st:=Qq) k5 k6 k7
 have rh:=rg.binds (ps:=["value"]) fun _ _ _ _ _ _=>L2.WG fun _=>rfl
 have ri:=ZR (st:=Qr) k9 la lb
 have rj:=ri.binds (ps:=["value","named"]) fun _ _ _ _ _ _=>L2.Xe fun _ _=>rfl
 have rk:=ZR (st:=Qs) ld lf lg
 have rl:=rk.binds (ps:=["rule"]) fun _ _ _ _ _ _=>L2.WG fun _=>rfl
 have rm:=ZR (st:=Qt) li lj lk
 have rn:=rm.binds (ps:=["name","named"]) fun _ _ _ _ _ _=>L2.Xe fun _ _=>rfl
 have ro:=ZR (st:=Qu) lm ln lo
 have rp:=ro.binds (ps:=["kept","most"]) fun _ _ _ _ _ _=>L2.Xe fun _ _=>rfl
 have rq:=ZR (st:=Qv) lq lr ls
 have rr:=rq.binds (ps:=["calls"]) fun _ _ _ _ _ _=>L2.WG fun _=>rfl
 have rs:=ZR (st:=Qw) lv lw lx
 have rt:=rs.binds (ps:=["call","ahead"]) fun _ _ _ _ _ _=>L2.Xe fun _ _=>rfl
 have ru:=ZR (st:=Qx) lz lA lB
 have rv:=ru.binds (ps:=["calls","begin","late"]) fun _ _ _ _ _ _=>L2.WH fun _ _ _=>rfl
 have rx:=ZR (st:=Qy) lD lE lF
 have ry:=rx.binds (ps:=["calls"]) fun _ _ _ _ _ _=>L2.WG fun _=>rfl
 have Fruns_between:Zcn K "runs_between" "runs_between" XB cj (W.fnOf "runs_between" "runs_between" (ZL XB) (ZD XB) (Zq XB) (.ref cu) cl cm cn cr co cp) cu [Value.none]:=⟨⟨_,_,_,_,_,_,_,_,_,rfl,lH,lI⟩,⟨_,_,lK,rfl⟩,lJ⟩
 have Bruns_between:ZG K (W.fnOf "runs_between" "runs_between" (ZL XB) (ZD XB) (Zq XB) (.ref cu) cl cm cn cr co cp) ["net","begin","end","notices"] []:=fun s us kin hl=>match us,hl with | [_,_,_,_],_=>.of_defaults rfl (kin _ _ lK) rfl rfl rfl
 have BDruns_between:ZG K (W.fnOf "runs_between" "runs_between" (ZL XB) (ZD XB) (Zq XB) (.ref cu) cl cm cn cr co cp) ["net","begin","end","notices"] [Value.none]:=fun s us kin hl=>by
  have hl2:us.length=3:=by simpa using hl
  match us,hl2 with
  | [_,_,_],_=>exact .of_defaults rfl (kin _ _ lK) rfl rfl rfl
 have rz:=ZR (st:=Qz) lM lN lO
 have rA:=rz.binds (ps:=["calls","begin","end"]) fun _ _ _ _ _ _=>L2.WH fun _ _ _=>rfl
 have rB:=ZR (st:=QA) lQ lR lS
 have rC:=rB.binds (ps:=["_law_script","_law_k"]) fun _ _ _ _ _ _=>L2.Xe fun _ _=>rfl
 have rD:=ZR (st:=QB) lU lV lW
 have rE:=rD.binds (ps:=["_law_cell","_law_k"]) fun _ _ _ _ _ _=>L2.Xe fun _ _=>rfl
 have rF:=ZR (st:=QC) lY lZ l0
 have rG:=rF.binds (ps:=["_law_cell","_law_many"]) fun _ _ _ _ _ _=>L2.Xe fun _ _=>rfl
 have rH:=ZR (st:=QD) l2 l3 l4
 have rI:=rH.binds (ps:=["_law_cell","_law_stops"]) fun _ _ _ _ _ _=>L2.Xe fun _ _=>rfl
 have rJ:=ZR (st:=QE) l6 l7 l8
 have rK:=rJ.binds (ps:=["_law_cell"]) fun _ _ _ _ _ _=>L2.WG fun _=>rfl
 have rL:=ZR (st:=QF) ma mb mc
 have rM:=rL.binds (ps:=["_law_script","_law_first"]) fun _ _ _ _ _ _=>L2.Xe fun _ _=>rfl
 have rN:=ZR (st:=QG) me mf mh
 have rO:=rN.binds (ps:=["_law_data"]) fun _ _ _ _ _ _=>L2.WG fun _=>rfl
 have rP:=ZR (st:=QH) mj mk ml
 have rQ:=rP.binds (ps:=["_law_rule_here","_law_day"]) fun _ _ _ _ _ _=>L2.Xe fun _ _=>rfl
 have rR:=ZR (st:=QI) mn mo mp
 have rS:=rR.binds (ps:=["_law_calls_here","_law_lates"]) fun _ _ _ _ _ _=>L2.Xe fun _ _=>rfl
 have rT:=ZR (st:=QJ) mr ms mt
 have rU:=rT.binds (ps:=["_law_data","_law_script","_law_first","_law_day","_law_notices"]) fun _ _ _ _ _ _=>L2.on5 fun _ _ _ _ _=>rfl
 have rV:=ZR (st:=QK) mv mw mx
 have rW:=rV.binds (ps:=["_law_data","_law_kept","_law_name","_law_day"]) fun _ _ _ _ _ _=>L2.Qj fun _ _ _ _=>rfl
 have rX:=ZR (st:=Vz) mz mA mB
 have rY:=rX.binds (ps:=["_law_data","_law_kept","_law_begin","_law_end"]) fun _ _ _ _ _ _=>L2.Qj fun _ _ _ _=>rfl
 have rZ:=ZR (st:=QL) mD mE mF
 have r0:=rZ.binds (ps:=["_law_found","_law_due"]) fun _ _ _ _ _ _=>L2.Xe fun _ _=>rfl
 have r1:=ZR (st:=QM) mH mI mJ
 have r2:=r1.binds (ps:=["_law_script"]) fun _ _ _ _ _ _=>L2.WG fun _=>rfl
 have r3:=ZR (st:=QN) mR mS mT
 have r4:=r3.binds (ps:=["self"]) fun _ _ _ _ _ _=>L2.WG fun _=>rfl
 have r5:=ZR (st:=QO) mW mX mY
 have r6:=r5.binds (ps:=["self","day"]) fun _ _ _ _ _ _=>L2.Xe fun _ _=>rfl
 have r7:=ZR (st:=QP) m1 m2 m3
 have r8:=r7.binds (ps:=["self","bits"]) fun _ _ _ _ _ _=>L2.Xe fun _ _=>rfl
 have r9:=ZR (st:=QQ) m6 m7 m8
 have sa:=r9.binds (ps:=["self"]) fun _ _ _ _ _ _=>L2.WG fun _=>rfl
 have sb:=ZR (st:=QR) nc nd nf
 have sc:=sb.binds (ps:=["self","day"]) fun _ _ _ _ _ _=>L2.Xe fun _ _=>rfl
 have sd:=ZR (st:=QS) ni nj nk
 have se:=sd.binds (ps:=["self","length","starts"]) fun _ _ _ _ _ _=>L2.WH fun _ _ _=>rfl
 have sf:=ZR (st:=QT) nn no np
 have sg:=sf.binds (ps:=["self"]) fun _ _ _ _ _ _=>L2.WG fun _=>rfl
 have sh:=ZR (st:=QU) nt nu nv
 have si:=sh.binds (ps:=["self","day"]) fun _ _ _ _ _ _=>L2.Xe fun _ _=>rfl
 have sj:=ZR (st:=QV) ny nz nA
 have sk:=sj.binds (ps:=["self"]) fun _ _ _ _ _ _=>L2.WG fun _=>rfl
 have sl:=ZR (st:=QW) nD nE nF
 have sm:=sl.binds (ps:=["self","name","zone","change"]) fun _ _ _ _ _ _=>L2.Qj fun _ _ _ _=>rfl
 have sn:=ZR (st:=QX) nI nJ nK
 have so:=sn.binds (ps:=["self","one","other","minutes"]) fun _ _ _ _ _ _=>L2.Qj fun _ _ _ _=>rfl
 have sq:=ZR (st:=QY) nN nO nP
 have sr:=sq.binds (ps:=["self","name","rule"]) fun _ _ _ _ _ _=>L2.WH fun _ _ _=>rfl
 have ss:=ZR (st:=QZ) nS nT nU
 have su:=ss.binds (ps:=["self","name","price","lasts","zones"]) fun _ _ _ _ _ _=>L2.on5 fun _ _ _ _ _=>rfl
 have sv:=ZR (st:=Q0) nX nY nZ
 have sw:=sv.binds (ps:=["self","name","rule","calls"]) fun _ _ _ _ _ _=>L2.Qj fun _ _ _ _=>rfl
 have sx:=ZR (st:=Q1) n2 n3 n4
 have sy:=sx.binds (ps:=["self","name"]) fun _ _ _ _ _ _=>L2.Xe fun _ _=>rfl
 have sz:=ZR (st:=Q3) n7 n8 n9
 have sA:=sz.binds (ps:=["self","name"]) fun _ _ _ _ _ _=>L2.Xe fun _ _=>rfl
 have sB:=ZR (st:=Q4) oe og oh
 have sC:=sB.binds (ps:=["self","call"]) fun _ _ _ _ _ _=>L2.Xe fun _ _=>rfl
 have sD:=ZR (st:=Q5) ok ol om
 have sE:=sD.binds (ps:=["self","one","other"]) fun _ _ _ _ _ _=>L2.WH fun _ _ _=>rfl
 have sF:=ZR (st:=Q6) op oq os
 have sG:=sF.binds (ps:=["self"]) fun _ _ _ _ _ _=>L2.WG fun _=>rfl
 have sH:=ZR (st:=Q7) ov ow ox
 have sI:=sH.binds (ps:=["self","name"]) fun _ _ _ _ _ _=>L2.Xe fun _ _=>rfl
 have sJ:=ZR (st:=Q8) oA oB oC
 have sK:=sJ.binds (ps:=["self","trip"]) fun _ _ _ _ _ _=>L2.Xe fun _ _=>rfl
 have sL:=ZR (st:=Q9) oF oG oH
 have sM:=sL.binds (ps:=["self","trip"]) fun _ _ _ _ _ _=>L2.Xe fun _ _=>rfl
 have sN:=ZR (st:=Zaa) oK oL oM
 have sO:=sN.binds (ps:=["self","net"]) fun _ _ _ _ _ _=>L2.Xe fun _ _=>rfl
 have sP:=ZR (st:=Zab) oP oQ oR
 have sQ:=sP.binds (ps:=["self","trip","day","call","minutes"]) fun _ _ _ _ _ _=>L2.on5 fun _ _ _ _ _=>rfl
 have sR:=ZR (st:=Zac) oU oV oW
 have sS:=sR.binds (ps:=["self","trip","day"]) fun _ _ _ _ _ _=>L2.WH fun _ _ _=>rfl
 have sT:=ZR (st:=Zad) oZ o0 o1
 have sU:=sT.binds (ps:=["self","trip","day"]) fun _ _ _ _ _ _=>L2.WH fun _ _ _=>rfl
 have sV:=ZR (st:=Zae) o4 o5 o6
 have sW:=sV.binds (ps:=["self","trip","day"]) fun _ _ _ _ _ _=>L2.WH fun _ _ _=>rfl
 have sX:=ZR (st:=Zaf) o9 pa pb
 have sY:=sX.binds (ps:=["self","trip","day"]) fun _ _ _ _ _ _=>L2.WH fun _ _ _=>rfl
 have sZ:=ZR (st:=Zag) pe pf pg
 have s0:=sZ.binds (ps:=["self","trip","day"]) fun _ _ _ _ _ _=>L2.WH fun _ _ _=>rfl
 have s1:=ZR (st:=Zah) pj pk pl
 have s2:=s1.binds (ps:=["self","trip","day"]) fun _ _ _ _ _ _=>L2.WH fun _ _ _=>rfl
 exact ⟨⟨aa,_,ak,_,aw,_,aG,_,aQ,_,a0,_,ba,_,bk,_,bu,_,bF,_,bP,_,bZ,_,b9,_,cj,_,cu,[.none],cz,_,cJ,_,cT,_,c3,_,dd,_,dn,_,dy,_,dI,_,dS,_,d2,_,ec,_,em,_,ey,_,eI,_,eS,_,e3,_,fe,_,fo,_,fy,_,fI,_,fS,_,f2,_,gc,_,gn,_,gy,_,gI,_,gS,_,g2,_,hd,_,ho,_,hz,_,hL,_,hX,_,h7,_,ij,_,iv,_,iF,_,iP,_,iZ,_,i9,_,jj,_,jt,_,jD,_,jN,_,jX,_,j7,j8,j9,ka,kc,kd,ke,kj,kk⟩,⟨W.mg_none_of X G qw,
  W.mg_none_of X G qx,
  W.mg_none_of X G qy,
  W.mg_none_of X G qz,
  W.mg_none_of X G qA,
  W.mg_none_of X G qB,
  W.mg_none_of X G qC,
  W.mg_none_of X G qD,
  W.mg_none_of X G qE,
  W.mg_none_of X G qF,
  W.mg_none_of X G qG,
  W.mg_none_of X G qH,
  W.mg_none_of X G qI,
  W.mg_none_of X G qJ,
  W.mg_none_of X G qK,
  W.mg_none_of X G qL,
  ⟨_,W.mg_of X G qM⟩,
  ⟨_,W.mg_of X G qN⟩,
  ⟨_,W.mg_of X G qO⟩,
  ⟨_,W.mg_of X G qP⟩,
  ⟨_,W.mg_of X G qQ⟩,
  ⟨_,W.mg_of X G qR⟩,
  ⟨_,W.mg_of X G qS⟩,
  ⟨_,W.mg_of X G qT⟩,
  ⟨_,W.mg_of X G qU⟩,
  ⟨_,W.mg_of X G qV⟩,
  ⟨_,W.mg_of X G qW⟩,
  ⟨_,W.mg_of X G qX⟩,
  ⟨_,W.mg_of X G qY⟩,
  ⟨_,W.mg_of X G qZ⟩,
  ⟨_,W.mg_of X G q0⟩,
  ⟨_,W.mg_of X G q1⟩,
  ⟨_,W.mg_of X G q2⟩,
  ⟨_,W.mg_of X G q3⟩,
  ⟨_,W.mg_of X G q4⟩,
  ⟨_,W.mg_of X G q5⟩,
  ⟨_,W.mg_of X G q6⟩,
  ⟨_,W.mg_of X G q7⟩,
  q8,
  W.mg_of X G kN,
  q9,
  ra,
  W.mg_of X G kR,
  rb,
  rc,
  W.mg_of X G kW,
  rd,
  re,
  W.mg_of X G k0,
  rf,
  rg,
  W.mg_of X G k4,
  rh,
  ri,
  W.mg_of X G k8,
  rj,
  rk,
  W.mg_of X G lc,
  rl,
  rm,
  W.mg_of X G lh,
  rn,
  ro,
  W.mg_of X G ll,
  rp,
  rq,
  W.mg_of X G lp,
  rr,
  rs,
  W.mg_of X G lu,
  rt,
  ru,
  W.mg_of X G ly,
  rv,
  rx,
  W.mg_of X G lC,
  ry,
  Fruns_between,
  .cons rfl (.nil),
  BDruns_between,
  W.mg_of X G lG,
  Bruns_between,
  rz,
  W.mg_of X G lL,
  rA,
  rB,
  W.mg_of X G lP,
  rC,
  rD,
  W.mg_of X G lT,
  rE,
  rF,
  W.mg_of X G lX,
  rG,
  rH,
  W.mg_of X G l1,
  rI,
  rJ,
  W.mg_of X G l5,
  rK,
  rL,
  W.mg_of X G l9,
  rM,
  rN,
  W.mg_of X G md,
  rO,
  rP,
  W.mg_of X G mi,
  rQ,
  rR,
  W.mg_of X G mm,
  rS,
  rT,
  W.mg_of X G mq,
  rU,
  rV,
  W.mg_of X G mu,
  rW,
  rX,
  W.mg_of X G my,
  rY,
  rZ,
  W.mg_of X G mC,
  r0,
  r1,
  W.mg_of X G mG,
  r2,
  r3,
  r4,
  r5,
  r6,
  r7,
  r8,
  r9,
  sa,
  sb,
  sc,
  sd,
  se,
  sf,
  sg,
  sh,
  si,
  sj,
  sk,
  sl,
  sm,
  sn,
  so,
  sq,
  sr,
  ss,
  su,
  sv,
  sw,
  sx,
  sy,
  sz,
  sA,
  sB,
  sC,
  sD,
  sE,
  sF,
  sG,
  sH,
  sI,
  sJ,
  sK,
  sL,
  sM,
  sN,
  sO,
  sP,
  sQ,
  sR,
  sS,
  sT,
  sU,
  sV,
  sW,
  sX,
  sY,
  sZ,
  s0,
  s1,
  s2,
  ⟨pn,po,pp,pq⟩,
  ⟨pr,pu,pt⟩,
  ⟨mP,mQ,mT⟩,
  ⟨mU,mV,mY⟩,
  ⟨pv,pw,px,py⟩,
  ⟨pz,mZ,m0,pA⟩,
  ⟨m4,m5,m8⟩,
  ⟨m9,na,nf⟩,
  pB,
  ⟨pC,pD,pE,pF⟩,
  ⟨pG,ng,nh,pH⟩,
  ⟨nl,nm,np⟩,
  ⟨nq,nr,nv⟩,
  pI,
  pJ,
  ⟨pK,pL,pM,pN⟩,
  ⟨pO,nw,nx,pP⟩,
  ⟨nL,nM,nP⟩,
  ⟨nB,nC,nF⟩,
  ⟨nQ,nR,nU⟩,
  ⟨nV,nW,nZ⟩,
  ⟨nG,nH,nK⟩,
  ⟨oD,oE,oH⟩,
  ⟨oa,ob,oh⟩,
  ⟨n0,n1,n4⟩,
  ⟨n5,n6,n9⟩,
  ⟨oi,oj,om⟩,
  ⟨ot,ou,ox⟩,
  ⟨oy,oz,oC⟩,
  ⟨on,oo,os⟩,
  pQ,
  pR,
  pS,
  pT,
  pU,
  ⟨pV,pW,pX,pY⟩,
  ⟨pZ,oI,oJ,p0⟩,
  ⟨o7,o8,pb⟩,
  ⟨ph,pi,pl⟩,
  ⟨pc,pd,pg⟩,
  ⟨oN,oO,oR⟩,
  ⟨o2,o3,o6⟩,
  ⟨oX,oY,o1⟩,
  ⟨oS,oT,oW⟩,
  p1,
  p2,
  p3,
  ⟨qh,qi,qj,qk⟩,
  ql,
  ⟨qm,qn,qo,qp⟩,
  qq,
  ⟨qr,qs,qt,qu⟩,
  qv,
  W.mg_of X G mK,
  W.mg_of X G mL,
  W.mg_of X G mM,
  W.mg_of X G mN,
  W.mg_of X G mO,
  p4,
  p8,
  p7,
  qa,
  qe,
  qd,
  qg⟩,p9,qf⟩
end K13
namespace PySem.W.Fast
def tw3914741870940216426:=0
def tw4175309904884375688:=0
def tw6728843543324578951:=0
def tw17080387761638285791:=0
def tw8545936869074280007:=0
def tw10946151058396716836:=0
def tw4394483657842173692:=0
def tw16320883406112914381:=0
def tw15452130636084089043:=0
def tw2890608853597909949:=0
def tw990499666485233122:=0
def tw8188553612315269193:=0
def tw3830044122796504927:=0
def tw5139828442937822985:=0
def tw14516006036805416501:=0
def tw14658035379206843114:=0
def tw9728092156963504957:=0
def tw10607059562423974814:=0
def tw7612061729116730425:=0
def tw10102518769132201928:=0
def tw351028977637442691:=0
def tw1065502561301382380:=0
def tw8528870348797197692:=0
def tw757954117218981679:=0
def tw3432824093842972292:=0
def tw4198080055108742654:=0
def tw15187641298738884763:=0
def tw6548837433464770740:=0
def tw2306827937745985706:=0
def tw10771856639445416061:=0
def tw14504539239605446965:=0
def tw13214822263436103007:=0
def tw10971375124362821895:=0
def tw17993262903275179692:=0
def tw11644303534859764161:=0
def tw2127157443820836573:=0
def tw15826582231447027295:=0
def tw13222050595777820769:=0
def tw5140987661144683666:=0
def tw9115251050711581024:=0
def tw1710881018833763930:=0
def tw14994941428681192344:=0
def tw6056219965279888662:=0
def tw135708889679986443:=0
def tw17697681554699206478:=0
def tw926085014856207812:=0
def tw8008382508139985403:=0
def tw17422879880230334129:=0
def tw16754659469297178719:=0
def tw9377641359310613401:=0
def tw2627160393997192257:=0
def tw5992723858535550734:=0
def tw8809729060033714798:=0
def tw17444994379835284921:=0
def tw4086246158475219183:=0
def tw17461862161699746731:=0
def tw16697441643923414105:=0
def tw10676565164938629090:=0
def tw14884821930278019498:=0
def tw486154758841227950:=0
def tw11508857993600651589:=0
def tw16940470714140701206:=0
def tw6875741072865363560:=0
def tw9515994653448534274:=0
def tw13578381454151269414:=0
def tw10205671393952287374:=0
def tw3194041946183615080:=0
def tw10292298248200232909:=0
def tw17329196208636770231:=0
def tw3690899689738034626:=0
def tw2087689836062947085:=0
def tw10766008290488760012:=0
def tw18301879045297118339:=0
def tw1226615112684592343:=0
def tw8179079393267576787:=0
def tw830738868682690018:=0
def tw5519752538137091752:=0
def tw12294896821734196402:=0
def tw13495966851454518609:=0
def tw17419946365412381112:=0
def tw7563180569349583912:=0
def tw10874145378521576196:=0
def tw8997007974363044509:=0
def tw5872697165765116407:=0
def tw4694013364260322718:=0
def tw9865490388381236678:=0
def tw3661639216361405468:=0
def tw15621117829708550035:=0
def tw14984284046059822103:=0
def tw13320162732175492330:=0
def tw4404371765608602497:=0
def tw8760894078438196955:=0
def tw3353843935798795802:=0
def tw11530369287113865362:=0
def tw2301422335334865012:=0
def tw9960757036321889314:=0
def tw17752754766913628058:=0
def tw1433398484414996017:=0
def tw15546724673807999532:=0
def tw2622850081641608520:=0
def tw16612530439682754314:=0
def tw17030145352794162496:=0
def tw6775961496364583532:=0
def tw7013745346840532782:=0
def tw1424488390180453430:=0
def tw13387697605060155901:=0
def tw15074469491890192770:=0
def tw4003414861148291007:=0
def tw5191437322328874557:=0
def tw9318771169514957049:=0
def tw5342772058287493405:=0
def tw17751471635870973455:=0
def tw5141330299741836064:=0
def tw15588740195100260108:=0
def tw12432469339513737820:=0
def tw17305876916266382231:=0
def tw3823722854265125909:=0
def tw3435646925239635345:=0
def tw14466798702104873885:=0
def tw4825268413099721455:=0
def tw12151793100872073103:=0
def tw12979394517848191369:=0
def tw15345163467744400670:=0
def tw10918369631776367513:=0
def tw2710236624945851029:=0
def tw4133317803712404455:=0
def tw4061564333019069770:=0
def tw5096625468123101797:=0
def tw13133423373340836756:=0
def tw54645651190058926:=0
def tw3078948857005266554:=0
def tw831097047802061342:=0
def tw15194609258852076315:=0
def tw13620099704193398969:=0
def tw1229638470179463210:=0
def tw10214267333017258938:=0
def tw5151731544015276564:=0
def tw17893592414745252994:=0
def tw14060235453481894079:=0
def tw14171710897195036069:=0
def tw2093668692225862809:=0
def tw10478984210365912521:=0
def tw13268213161679919644:=0
def tw355639925993769991:=0
def tw5976337040160872202:=0
def tw14942559113510465717:=0
def tw6827058356644187769:=0
def tw7772473805405989192:=0
def tw15623675778497748148:=0
def tw11574193994332405032:=0
def tw10134241127460014877:=0
def tw9089779172602636933:=0
def tw11937298637097802177:=0
def tw17357077485215830126:=0
def tw7041515691567318490:=0
def tw11364075734291357479:=0
def tw5593197459109011936:=0
def tw13082964300852128443:=0
def tw11869344446157910172:=0
def tw7414107338708507491:=0
def tw5722063365943179723:=0
def tw10376189475440786348:=0
def tw5695208083960167819:=0
def tw17526900244255453049:=0
def tw13352527138537266496:=0
def tw5181693250684201419:=0
def tw16932365481914778013:=0
def tw12882764715390650818:=0
def tw16512033347306992385:=0
def tw7983698660617212122:=0
def tw7002925999540955371:=0
def tw10292401069856750908:=0
def tw2379847369828769268:=0
def tw6918534247962662000:=0
def tw1867877073932974875:=0
def tw15366400510854308844:=0
def tw10324572064599646375:=0
def tw14643959564966995752:=0
def tw474914663419935552:=0
def tw7235910013821259409:=0
def tw11442921543625617635:=0
def tw2733985259918954250:=0
def tw12128508519698262147:=0
def tw13056721802282889102:=0
def tw3813547420601147485:=0
def tw6108495490239414483:=0
def tw213340111403171477:=0
def tw5437494470605772617:=0
def tw3640915974366777250:=0
def tw13318612509397682136:=0
def tw10252569273607731580:=0
def tw3703759647195556717:=0
def tw9538965401532864689:=0
def tw16788359991427400411:=0
def tw9946429740403559215:=0
def tw8546155587557595879:=0
def tw10063963321285630251:=0
def tw5616490888184721021:=0
def tw11616697593567464559:=0
def tw18221250666760213008:=0
def tw9609571021764765359:=0
def tw4561639491692024925:=0
def tw145570593938578984:=0
def tw9351532378486230599:=0
def tw12362399128544515843:=0
def tw7808544446592692538:=0
def tw2774282135575119016:=0
def tw7572862240833309988:=0
def tw5591353304386211510:=0
def tw5990656045690421960:=0
def tw1180742422672750377:=0
def tw9355817059546635896:=0
def tw5669449313227935720:=0
def tw8394806393143794426:=0
def tw9032228756213422269:=0
def tw3604759658758130362:=0
def tw16578214821481704510:=0
def tw3570458745551368980:=0
def tw1376056450963190213:=0
def tw4137726391289251241:=0
def tw12423954711016784202:=0
def tw2600527017679177473:=0
def tw5737103027148205762:=0
def tw13651237543477755136:=0
def tw9615936102568465603:=0
def tw2551013059362095003:=0
def tw2425312132170236600:=0
def tw5538916606940940837:=0
def tw16555616087913304113:=0
def tw5008175761920319189:=0
def tw762354277267184996:=0
def tw10383404381844441457:=0
def tw3650524919695472988:=0
def tw6554427928773159417:=0
def tw2908820455763833917:=0
def tw2697340507957592226:=0
def tw7013219790233662317:=0
def tw11393086898812586331:=0
def tw2004826311690268411:=0
def tw8240174732426569048:=0
def tw387705118553973953:=0
def tw17853934226736293150:=0
def tw8872258475144576982:=0
def tw17854231041767972813:=0
def tw11191311491848036724:=0
def tw14871612546530224616:=0
def tw1517976786730467709:=0
def tw1686844708263102198:=0
def tw7948365501303004685:=0
def tw13897717005560327729:=0
def tw4803880182532036925:=0
def tw3126650171556054208:=0
def tw14544237867274337765:=0
def tw14180147082653548145:=0
def tw2605739074772678822:=0
def tw13130991361921430400:=0
def tw9818164450815986787:=0
def tw4164722049537610498:=0
def tw15413311177963235475:=0
def tw10898359284125253405:=0
def tw16888395878738380723:=0
def tw15013451051187391365:=0
def tw4577538059266758651:=0
def tw12593696238069014956:=0
def tw11142840781147515123:=0
def tw5275718742711937297:=0
def tw9546153748800873009:=0
def tw12037626865767879392:=0
def tw16220767679124070709:=0
def tw187968096425169715:=0
def tw2553782941975922270:=0
def tw6890242283009827017:=0
def tw6471245948830742051:=0
def tw13031398205055610774:=0
def tw3221251202259066244:=0
def tw17274305151079850078:=0
def tw7295455080546344352:=0
def tw2355122165073243751:=0
def tw9840757753729944131:=0
def tw15727228393982735606:=0
def tw4286946207934247901:=0
def tw9044417293529426428:=0
def tw5909175229754236685:=0
def tw8828331631983005386:=0
def tw3553123908999163946:=0
def tw7448635252851897564:=0
def tw12901874601124550036:=0
def tw9668924107399648323:=0
def tw2956160192707820758:=0
def tw8524059137586806396:=0
def tw14552965783291200727:=0
def tw4134256821238079799:=0
def tw12411751813207923532:=0
def tw17846812578015291037:=0
def tw13385247639023117436:=0
def tw6007780127021154274:=0
def tw3469680185644255716:=0
def tw10905485169204610454:=0
def tw16648443385368971946:=0
def tw4485495169279059203:=0
def tw3609919605663951986:=0
def tw17849478074589044669:=0
def tw9383956509283722245:=0
def tw8676168516080958387:=0
def tw4418506550290477762:=0
def tw4800639100831031419:=0
def tw2591612761002252964:=0
def tw9897583580005394589:=0
def tw6718593338056308800:=0
def tw777397549236827409:=0
def tw2266230472523606661:=0
def tw14720672476957408016:=0
def tw10174632263874717036:=0
def tw603321219032478724:=0
def tw2519053855392092082:=0
def tw17913362362196587879:=0
def tw2910361856329146794:=0
def tw10891460104743987214:=0
def tw11895222851259594218:=0
def tw3476426893148192321:=0
def tw13950030698177795827:=0
def tw2189324830924650891:=0
def tw4235596489250898568:=0
def tw11188979843332365004:=0
def tw4497189746007426685:=0
def tw11347619116131248572:=0
def tw14481630357126723781:=0
def tw14766735071849840089:=0
def tw16982581839054217213:=0
def tw1365983432969459387:=0
def tw5222709032395350917:=0
def tw6777642774164373092:=0
def tw1793905272159110222:=0
def tw15563571877702251706:=0
def tw14629465466352331979:=0
def tw13500137956687267423:=0
def tw1414719857617538088:=0
def tw598284556337769535:=0
def tw15097309159601692344:=0
def tw5803844908413418340:=0
def tw7616262414084940476:=0
def tw5272894870112089699:=0
def tw12898260690824297667:=0
def tw16020466395528462860:=0
def tw12884270372200440143:=0
def tw114109574927804056:=0
def tw4429521097275519275:=0
def tw9189856531976118543:=0
def tw6150352951817510997:=0
def tw704324810354951686:=0
def tw3625977457898416048:=0
def tw2084569990770104986:=0
def tw10219779163300600974:=0
def tw105370423720526596:=0
def tw541477964980527726:=0
def tw17419650946771465272:=0
def tw4673778534850075951:=0
def tw3099393813680065796:=0
def tw12299565519900149764:=0
def tw13619136141543886557:=0
def tw18200668050712705814:=0
def tw5260705562373320026:=0
def tw10722792141982930412:=0
def tw3760294048097918786:=0
def tw4011144535433971781:=0
def tw14635027706531441303:=0
def tw2197922564617622570:=0
def tw14410782354424243044:=0
def tw15566562970807023475:=0
def tw3994771888655458653:=0
def tw13340587698065048078:=0
def tw10296818873684173262:=0
def tw4274262887311417725:=0
def tw5570475635321511965:=0
def tw9486422624743956753:=0
def tw1805403758683123443:=0
def tw7308289433971716145:=0
def tw8776462002676070847:=0
def tw10566195466548922505:=0
def tw4794909145103222671:=0
def tw16618780651438347037:=0
def tw9833326264131920984:=0
def tw9463919211759838067:=0
def tw1897426141462634066:=0
def tw3699380546598235784:=0
def tw5399397766519238247:=0
def tw15047831327567609835:=0
def tw6941818441708099827:=0
def tw1347566553557535723:=0
def tw3079646699617702853:=0
def tw12767317927707177487:=0
def tw2669483118694725437:=0
def tw6328092114228154357:=0
def tw16147320106430926901:=0
def tw14555988847998140879:=0
def tw6689255260905393551:=0
def tw6721103108938530873:=0
def tw926374646019131138:=0
def tw13753798194066841344:=0
def tw11620564531786538334:=0
def tw667795049488522766:=0
def tw17637140911819487256:=0
def tw17664339561324075074:=0
def tw3608056816042965419:=0
def tw7770033406879892943:=0
def tw2030032000044700091:=0
def tw9294669653206868213:=0
def tw16095982068162093575:=0
def tw14862988229706770885:=0
def tw11301327410750164209:=0
def tw1795605791318996207:=0
def tw17009446360114145903:=0
def tw7147904365533848216:=0
def tw1149678536043158730:=0
def tw1237264091286638378:=0
def tw2646406345325459499:=0
def tw3713750221316830787:=0
def tw951734541196147068:=0
def tw12629538390688336579:=0
def tw10883078751643190181:=0
def tw10998650661552287910:=0
def tw17364966716668959566:=0
def tw15149618177963376795:=0
def tw6730102729571654176:=0
def tw434659474686515508:=0
def tw11890353772996331489:=0
def tw13140986745439654472:=0
def tw2490034083700762282:=0
def tw13017366846627623618:=0
def tw17276005704977447840:=0
def tw12304607551792573129:=0
def tw2303011279631283359:=0
def tw12830365319625863600:=0
def tw4469381281013752268:=0
def tw17769342019084054005:=0
def tw6769410731813154396:=0
def tw5623859835479967943:=0
def tw4481097678427270830:=0
def tw4515241787147900228:=0
def tw14078273360035087773:=0
def tw10266663687136265117:=0
def tw2183837483796297200:=0
def tw88021815824203033:=0
def tw17251319903580449771:=0
def tw11276583231922020300:=0
def tw9695551018330541272:=0
def tw5677973282226248997:=0
def tw15319651891116923581:=0
def tw819352794207378276:=0
def tw9029192441899084451:=0
def tw1844326212724741067:=0
def tw14901215859567529628:=0
def tw4609668304193023739:=0
def tw15988358857518164672:=0
def tw13128425233490667254:=0
def tw5165845306153302094:=0
end PySem.W.Fast
open PySem PySem.W PyProof.Rows
set_option maxRecDepth 100000 in
set_option maxHeartbeats 0 in
theorem PySem.Challenge.cw_roadbook_k13_runs_between_holds : PySem.Challenge.rw_roadbook_k13_runs_between.Holds := by
 w_on;o_law;k_head;(case hw=>w_witness2)
 k_fill
 refine L2.Zmd (l:=PySem.Challenge.rw_roadbook_k13_runs_between) (n:=63) (k:=30) (x := "_law_script") (CX:=L2.ZE) (sp:=K13.sp_law) rfl (by decide) rfl ⟨rfl,by decide,by decide⟩ (fun w h Y=>⟨PySem.W.km_in_of Y,PySem.W.km_tabs_of Y⟩) ?F (fun _ _ _ a ns hl hT hS=>⟨a,ns,rfl,hT,hS,hl,fun _=>rfl⟩) fun _ _ _ _ z=>z
 case F =>
  intro kM eu w mg fa h KX G hmg
  have T:∃ t,K13.ZO (L2.KOf KX) mg t∧t.YY∈kM∧t.Xb∈kM:=by
   dsimp only [L2.KOf]
   refine' K13.all_mk (kM:=kM) KX G ?kN ?kO ?kP ?kQ ?kR ?kS ?kT ?kU ?kW ?kX ?kY ?kZ ?k0 ?k1 ?k2 ?k3 ?k4 ?k5 ?k6 ?k7 ?k8 ?k9 ?la ?lb ?lc ?ld ?lf ?lg ?lh ?li ?lj ?lk ?ll ?lm ?ln ?lo ?lp ?lq ?lr ?ls ?lu ?lv ?lw ?lx ?ly ?lz ?lA ?lB ?lC ?lD ?lE ?lF ?lG ?lH ?lI ?lJ ?lK ?lL ?lM ?lN ?lO ?lP ?lQ ?lR ?lS ?lT ?lU ?lV ?lW ?lX ?lY ?lZ ?l0 ?l1 ?l2 ?l3 ?l4 ?l5 ?l6 ?l7 ?l8 ?l9 ?ma ?mb ?mc ?md ?me ?mf ?mh ?mi ?mj ?mk ?ml ?mm ?mn ?mo ?mp ?mq ?mr ?ms ?mt ?mu ?mv ?mw ?mx ?my ?mz ?mA ?mB ?mC ?mD ?mE ?mF ?mG ?mH ?mI ?mJ ?mK ?mL ?mM ?mN ?mO ?mP ?mQ ?mR ?mS ?mT ?mU ?mV ?mW ?mX ?mY ?mZ ?m0 ?m1 ?m2 ?m3 ?m4 ?m5 ?m6 ?m7 ?m8 ?m9 ?na ?nc ?nd ?nf ?ng ?nh ?ni ?nj ?nk ?nl ?nm ?nn ?no ?np ?nq ?nr ?nt ?nu ?nv ?nw ?nx ?ny ?nz ?nA ?nB ?nC ?nD ?nE ?nF ?nG ?nH ?nI ?nJ ?nK ?nL ?nM ?nN ?nO ?nP ?nQ ?nR ?nS ?nT ?nU ?nV ?nW ?nX ?nY ?nZ ?n0 ?n1 ?n2 ?n3 ?n4 ?n5 ?n6 ?n7 ?n8 ?n9 ?oa ?ob ?oe ?og ?oh ?oi ?oj ?ok ?ol ?om ?on ?oo ?op ?oq ?os ?ot ?ou ?ov ?ow ?ox ?oy ?oz ?oA ?oB ?oC ?oD ?oE ?oF ?oG ?oH ?oI ?oJ ?oK ?oL ?oM ?oN ?oO ?oP ?oQ ?oR ?oS ?oT ?oU ?oV ?oW ?oX ?oY ?oZ ?o0 ?o1 ?o2 ?o3 ?o4 ?o5 ?o6 ?o7 ?o8 ?o9 ?pa ?pb ?pc ?pd ?pe ?pf ?pg ?ph ?pi ?pj ?pk ?pl ?pn ?po ?pp ?pq ?pr ?pt ?pu ?pv ?pw ?px ?py ?pz ?pA ?pB ?pC ?pD ?pE ?pF ?pG ?pH ?pI ?pJ ?pK ?pL ?pM ?pN ?pO ?pP ?pQ ?pR ?pS ?pT ?pU ?pV ?pW ?pX ?pY ?pZ ?p0 ?p1 ?p2 ?p3 ?p4 ?p5 ?p6 ?p7 ?p8 ?p9 ?qa ?qb ?qc ?qd ?qe ?qf ?qg ?qh ?qi ?qj ?qk ?ql ?qm ?qn ?qo ?qp ?qq ?qr ?qs ?qt ?qu ?qv ?qw ?qx ?qy ?qz ?qA ?qB ?qC ?qD ?qE ?qF ?qG ?qH ?qI ?qJ ?qK ?qL ?qM ?qN ?qO ?qP ?qQ ?qR ?qS ?qT ?qU ?qV ?qW ?qX ?qY ?qZ ?q0 ?q1 ?q2 ?q3 ?q4 ?q5 ?q6 ?q7
   (case kN=>k_is)
   (case kO=>k_is)
   (case kP=>k_is)
   (case kQ=>k_is)
   (case kR=>k_is)
   (case kS=>k_is)
   (case kT=>k_is)
   (case kU=>k_is)
   (case kW=>k_is)
   (case kX=>k_is)
   (case kY=>k_is)
   (case kZ=>k_is)
   (case k0=>k_is)
   (case k1=>k_is)
   (case k2=>k_is)
   (case k3=>k_is)
   (case k4=>k_is)
   (case k5=>k_is)
   (case k6=>k_is)
   (case k7=>k_is)
   (case k8=>k_is)
   (case k9=>k_is)
   (case la=>k_is)
   (case lb=>k_is)
   (case lc=>k_is)
   (case ld=>k_is)
   (case lf=>k_is)
   (case lg=>k_is)
   (case lh=>k_is)
   (case li=>k_is)
   (case lj=>k_is)
   (case lk=>k_is)
   (case ll=>k_is)
   (case lm=>k_is)
   (case ln=>k_is)
   (case lo=>k_is)
   (case lp=>k_is)
   (case lq=>k_is)
   (case lr=>k_is)
   (case ls=>k_is)
   (case lu=>k_is)
   (case lv=>k_is)
   (case lw=>k_is)
   (case lx=>k_is)
   (case ly=>k_is)
   (case lz=>k_is)
   (case lA=>k_is)
   (case lB=>k_is)
   (case lC=>k_is)
   (case lD=>k_is)
   (case lE=>k_is)
   (case lF=>k_is)
   (case lG=>k_is)
   (case lH=>k_is)
   (case lI=>k_is)
   (case lJ=>k_is)
   (case lK=>k_is)
   (case lL=>k_is)
   (case lM=>k_is)
   (case lN=>k_is)
   (case lO=>k_is)
   (case lP=>k_is)
   (case lQ=>k_is)
   (case lR=>k_is)
   (case lS=>k_is)
   (case lT=>k_is)
   (case lU=>k_is)
   (case lV=>k_is)
   (case lW=>k_is)
   (case lX=>k_is)
   (case lY=>k_is)
   (case lZ=>k_is)
   (case l0=>k_is)
   (case l1=>k_is)
   (case l2=>k_is)
   (case l3=>k_is)
   (case l4=>k_is)
   (case l5=>k_is)
   (case l6=>k_is)
   (case l7=>k_is)
   (case l8=>k_is)
   (case l9=>k_is)
   (case ma=>k_is)
   (case mb=>k_is)
   (case mc=>k_is)
   (case md=>k_is)
   (case me=>k_is)
   (case mf=>k_is)
   (case mh=>k_is)
   (case mi=>k_is)
   (case mj=>k_is)
   (case mk=>k_is)
   (case ml=>k_is)
   (case mm=>k_is)
   (case mn=>k_is)
   (case mo=>k_is)
   (case mp=>k_is)
   (case mq=>k_is)
   (case mr=>k_is)
   (case ms=>k_is)
   (case mt=>k_is)
   (case mu=>k_is)
   (case mv=>k_is)
   (case mw=>k_is)
   (case mx=>k_is)
   (case my=>k_is)
   (case mz=>k_is)
   (case mA=>k_is)
   (case mB=>k_is)
   (case mC=>k_is)
   (case mD=>k_is)
   (case mE=>k_is)
   (case mF=>k_is)
   (case mG=>k_is)
   (case mH=>k_is)
   (case mI=>k_is)
   (case mJ=>k_is)
   (case mK=>k_is)
   (case mL=>k_is)
   (case mM=>k_is)
   (case mN=>k_is)
   (case mO=>k_is)
   (case mP=>k_is)
   (case mQ=>k_is)
   (case mR=>k_is)
   (case mS=>k_is)
   (case mT=>k_is)
   (case mU=>k_is)
   (case mV=>k_is)
   (case mW=>k_is)
   (case mX=>k_is)
   (case mY=>k_is)
   (case mZ=>k_is)
   (case m0=>k_is)
   (case m1=>k_is)
   (case m2=>k_is)
   (case m3=>k_is)
   (case m4=>k_is)
   (case m5=>k_is)
   (case m6=>k_is)
   (case m7=>k_is)
   (case m8=>k_is)
   (case m9=>k_is)
   (case na=>k_is)
   (case nc=>k_is)
   (case nd=>k_is)
   (case nf=>k_is)
   (case ng=>k_is)
   (case nh=>k_is)
   (case ni=>k_is)
   (case nj=>k_is)
   (case nk=>k_is)
   (case nl=>k_is)
   (case nm=>k_is)
   (case nn=>k_is)
   (case no=>k_is)
   (case np=>k_is)
   (case nq=>k_is)
   (case nr=>k_is)
   (case nt=>k_is)
   (case nu=>k_is)
   (case nv=>k_is)
   (case nw=>k_is)
   (case nx=>k_is)
   (case ny=>k_is)
   (case nz=>k_is)
   (case nA=>k_is)
   (case nB=>k_is)
   (case nC=>k_is)
   (case nD=>k_is)
   (case nE=>k_is)
   (case nF=>k_is)
   (case nG=>k_is)
   (case nH=>k_is)
   (case nI=>k_is)
   (case nJ=>k_is)
   (case nK=>k_is)
   (case nL=>k_is)
   (case nM=>k_is)
   (case nN=>k_is)
   (case nO=>k_is)
   (case nP=>k_is)
   (case nQ=>k_is)
   (case nR=>k_is)
   (case nS=>k_is)
   (case nT=>k_is)
   (case nU=>k_is)
   (case nV=>k_is)
   (case nW=>k_is)
   (case nX=>k_is)
   (case nY=>k_is)
   (case nZ=>k_is)
   (case n0=>k_is)
   (case n1=>k_is)
   (case n2=>k_is)
   (case n3=>k_is)
   (case n4=>k_is)
   (case n5=>k_is)
   (case n6=>k_is)
   (case n7=>k_is)
   (case n8=>k_is)
   (case n9=>k_is)
   (case oa=>k_is)
   (case ob=>k_is)
   (case oe=>k_is)
   (case og=>k_is)
   (case oh=>k_is)
   (case oi=>k_is)
   (case oj=>k_is)
   (case ok=>k_is)
   (case ol=>k_is)
   (case om=>k_is)
   (case on=>k_is)
   (case oo=>k_is)
   (case op=>k_is)
   (case oq=>k_is)
   (case os=>k_is)
   (case ot=>k_is)
   (case ou=>k_is)
   (case ov=>k_is)
   (case ow=>k_is)
   (case ox=>k_is)
   (case oy=>k_is)
   (case oz=>k_is)
   (case oA=>k_is)
   (case oB=>k_is)
   (case oC=>k_is)
   (case oD=>k_is)
   (case oE=>k_is)
   (case oF=>k_is)
   (case oG=>k_is)
   (case oH=>k_is)
   (case oI=>k_is)
   (case oJ=>k_is)
   (case oK=>k_is)
   (case oL=>k_is)
   (case oM=>k_is)
   (case oN=>k_is)
   (case oO=>k_is)
   (case oP=>k_is)
   (case oQ=>k_is)
   (case oR=>k_is)
   (case oS=>k_is)
   (case oT=>k_is)
   (case oU=>k_is)
   (case oV=>k_is)
   (case oW=>k_is)
   (case oX=>k_is)
   (case oY=>k_is)
   (case oZ=>k_is)
   (case o0=>k_is)
   (case o1=>k_is)
   (case o2=>k_is)
   (case o3=>k_is)
   (case o4=>k_is)
   (case o5=>k_is)
   (case o6=>k_is)
   (case o7=>k_is)
   (case o8=>k_is)
   (case o9=>k_is)
   (case pa=>k_is)
   (case pb=>k_is)
   (case pc=>k_is)
   (case pd=>k_is)
   (case pe=>k_is)
   (case pf=>k_is)
   (case pg=>k_is)
   (case ph=>k_is)
   (case pi=>k_is)
   (case pj=>k_is)
   (case pk=>k_is)
   (case pl=>k_is)
   (case pn=>k_is)
   (case po=>k_is)
   (case pp=>k_is)
   (case pq=>k_is)
   (case pr=>k_is)
   (case pt=>k_is)
   (case pu=>k_is)
   (case pv=>k_is)
   (case pw=>k_is)
   (case px=>k_is)
   (case py=>k_is)
   (case pz=>k_is)
   (case pA=>k_is)
   (case pB=>k_is)
   (case pC=>k_is)
   (case pD=>k_is)
   (case pE=>k_is)
   (case pF=>k_is)
   (case pG=>k_is)
   (case pH=>k_is)
   (case pI=>k_is)
   (case pJ=>k_is)
   (case pK=>k_is)
   (case pL=>k_is)
   (case pM=>k_is)
   (case pN=>k_is)
   (case pO=>k_is)
   (case pP=>k_is)
   (case pQ=>k_is)
   (case pR=>k_is)
   (case pS=>k_is)
   (case pT=>k_is)
   (case pU=>k_is)
   (case pV=>k_is)
   (case pW=>k_is)
   (case pX=>k_is)
   (case pY=>k_is)
   (case pZ=>k_is)
   (case p0=>k_is)
   (case p1=>k_is)
   (case p2=>k_is)
   (case p3=>k_is)
   (case p4=>exact rfl)
   (case p5=>k_is)
   (case p6=>exact rfl)
   (case p7=>first | k_is | exact rfl | decide +kernel)
   (case p8=>first | kernel_rfl | k_is | exact rfl | decide +kernel)
   (case p9=>rw [eu];decide)
   (case qa=>exact rfl)
   (case qb=>k_is)
   (case qc=>exact rfl)
   (case qd=>first | k_is | exact rfl | decide +kernel)
   (case qe=>first | kernel_rfl | k_is | exact rfl | decide +kernel)
   (case qf=>rw [eu];decide)
   (case qg=>decide)
   (case qh=>k_is)
   (case qi=>k_is)
   (case qj=>k_is)
   (case qk=>k_is)
   (case ql=>kit_is)
   (case qm=>k_is)
   (case qn=>k_is)
   (case qo=>k_is)
   (case qp=>k_is)
   (case qq=>kit_is)
   (case qr=>k_is)
   (case qs=>k_is)
   (case qt=>k_is)
   (case qu=>k_is)
   (case qv=>kit_is)
   (case qw=>k_is)
   (case qx=>k_is)
   (case qy=>k_is)
   (case qz=>k_is)
   (case qA=>k_is)
   (case qB=>k_is)
   (case qC=>k_is)
   (case qD=>k_is)
   (case qE=>k_is)
   (case qF=>k_is)
   (case qG=>k_is)
   (case qH=>k_is)
   (case qI=>k_is)
   (case qJ=>k_is)
   (case qK=>k_is)
   (case qL=>k_is)
   (case qM=>k_is)
   (case qN=>k_is)
   (case qO=>k_is)
   (case qP=>k_is)
   (case qQ=>k_is)
   (case qR=>k_is)
   (case qS=>k_is)
   (case qT=>k_is)
   (case qU=>k_is)
   (case qV=>k_is)
   (case qW=>k_is)
   (case qX=>k_is)
   (case qY=>k_is)
   (case qZ=>k_is)
   (case q0=>k_is)
   (case q1=>k_is)
   (case q2=>k_is)
   (case q3=>k_is)
   (case q4=>k_is)
   (case q5=>k_is)
   (case q6=>k_is)
   (case q7=>k_is)
  obtain ⟨t,T,m_runs_between,m_law_runs⟩:=T
  have e0:=hmg.symm.trans T.ZnL
  cases e0
  refine' ⟨[(t.ZaI,t.YY),(t.ZaJ,t.Xb)],L2.ZgR ⟨⟨⟨T.Zo2,m_runs_between⟩,T.Zo3⟩,⟨⟨T.Zo5,m_law_runs⟩,T.Zo6⟩,trivial⟩,t.Zbz,?b,fun base kb nb hC hB=>K13.Zq3 T (hC _ (.head _)) (hC _ (.tail _ (.head _))) hB⟩
  obtain ⟨oc,od,kV,doc,pm,an,cdv,ct,osl,e,_,_⟩:=T.ZhD.ex
  rw [e]
  exact fun s kM=>.of_eq rfl
