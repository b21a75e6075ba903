import PyProof.Rows.All
import Wide.All
import OpenK.AllK
import Wide.FinOn
import Lean
import PyProof.EqAt
import PyProof.EqKinds
import PyProof.TupleCall
import KE.KIntText
import PyProof.CompFree
import PyProof.P3Eq
import PyProof.NeData
import PyProof.StrLawsTight
import PyProof.StrLawsReplace
import PyProof.StrCalls2
import KE.IntTextLaws
import KE.KMinBuiltin
import PyProof.WalkInts
import PyProof.Rows.CallKwBuiltin
import PyProof.Rows.CallKw2
import PyProof.SetScanFacts
import PyProof.SetKind
import PyProof.DictStraight
import PyProof.DictIter
import PyProof.Walks
import PyProof.FactsAll.set_1
import PyProof.Rows.TupIn
import PyProof.CollectWalk
import PyProof.FactsAll.set_2
import PyProof.Rows.SetFrom
import PyProof.Rows.SortWalk
import PyProof.MeetsStr
import PyProof.StrLaws
import PyProof.StrBlockL
import PyProof.ListRange
import PyProof.ZipIter
import PyProof.EnumMake
import PyProof.Rows.EnumRows
import PyProof.Rows.FactsT2
import PyProof.DictWalks
import PyProof.Conv_int_bool
import KE.KRevSl
import KE.KDictOf
import PyProof.AttrMissSeq
import KE.KLam
import KE.KMinKey
import KE.KDictList
import KE.KRevIter
import PyProof.FactsAll.range_2
import PySem.Challenge.RW_roadbook_k20_whole_from_rides_to_tickets
set_option maxRecDepth 100000
set_option maxHeartbeats 4000000
set_option Elab.async false
set_option linter.all false
namespace L2
open PySem PySem.Spec PyProof.Rows
abbrev Key:=Sum Int Str
def keyIs:Key→Value→Bool
  | .inl k,v=>Value.isInt k v
  | .inr x,v=>Value.isStrOf x v
def keyH (w:World):Key→Int
  | .inl k=>hashInt k
  | .inr x=>hashStr w x
theorem keyIs_shape:∀ {k:Key} {v:Value},keyIs k v = true→(∃ i t,k = Sum.inl i∧v = Value.int i t)∨(∃ x t,k = Sum.inr x∧v = Value.str x t)
  | .inl i,v,h=>by
    obtain ⟨t,e⟩:=Value.isInt_shape (k:=i) (v:=v) h
    exact .inl ⟨i,t,rfl,e⟩
  | .inr x,v,h=>by
    obtain ⟨t,e⟩:=Value.isStrOf_shape (x:=x) (v:=v) h
    exact .inr ⟨x,t,rfl,e⟩
theorem keyIs_int (i:Int) (t:Tok):keyIs (.inl i) (.int i t) = true:=by simp [keyIs,Value.isInt]
theorem keyIs_str (x:Str) (t:Tok):keyIs (.inr x) (.str x t) = true:=by simp [keyIs,Value.isStrOf]
theorem key_ll (a b:Int):decide ((Sum.inl a:Key) = Sum.inl b) = (a == b):=by
  by_cases e:a = b
  · subst e; simp
  · have h:¬ (Sum.inl a:Key) = Sum.inl b:=fun q=>e (Sum.inl.inj q)
    rw [decide_eq_false h]
    exact (beq_eq_false_iff_ne.mpr e).symm
theorem key_rr (a b:Str):decide ((Sum.inr a:Key) = Sum.inr b) = decide (a = b):=by
  by_cases e:a = b
  · subst e; simp
  · have h:¬ (Sum.inr a:Key) = Sum.inr b:=fun q=>e (Sum.inr.inj q)
    rw [decide_eq_false h,decide_eq_false e]
theorem key_lr (a:Int) (b:Str):decide ((Sum.inl a:Key) = Sum.inr b) = false:=decide_eq_false (fun q=>nomatch q)
theorem key_rl (a:Str) (b:Int):decide ((Sum.inr a:Key) = Sum.inl b) = false:=decide_eq_false (fun q=>nomatch q)
def mixKind (prog:Program) (w:World):PySem.KeyKind prog w Key where
  is:=keyIs
  hash:=keyH w
  inj:=fun v a b ha hb=>by
    rcases keyIs_shape ha with ⟨i,t,rfl,rfl⟩ | ⟨x,t,rfl,rfl⟩
    · rcases keyIs_shape hb with ⟨j,u,rfl,e⟩ | ⟨y,u,rfl,e⟩
      · injection e with e1 _; rw [e1]
      · exact nomatch e
    · rcases keyIs_shape hb with ⟨j,u,rfl,e⟩ | ⟨y,u,rfl,e⟩
      · exact nomatch e
      · injection e with e1 _; rw [e1]
  byValue:=fun k v h=>by
    rcases keyIs_shape h with ⟨i,t,rfl,rfl⟩ | ⟨x,t,rfl,rfl⟩ <;> rfl
  pyHash:=fun hv h=>by
    rcases keyIs_shape hv with ⟨i,t,rfl,rfl⟩ | ⟨x,t,rfl,rfl⟩
    · exact wpAny_pyHash_int h
    · exact wpAny_pyHash_str h
  eqBool:=fun hu hv h=>by
    rcases keyIs_shape hu with ⟨i,t,rfl,rfl⟩ | ⟨x,t,rfl,rfl⟩
    · rcases keyIs_shape hv with ⟨j,u,rfl,rfl⟩ | ⟨y,u,rfl,rfl⟩
      · rw [key_ll] at h; exact wpAny_eqBool_int h
      · rw [key_lr] at h; exact SeqAt.EqAt.int_str i t y u _ _ _ _ h
    · rcases keyIs_shape hv with ⟨j,u,rfl,rfl⟩ | ⟨y,u,rfl,rfl⟩
      · rw [key_rl] at h; exact SeqAt.EqAt.str_int x t j u _ _ _ _ h
      · rw [key_rr] at h; exact wpAny_eqBool_str h
  «strs»:=fun k x t v h=>by
    rcases keyIs_shape h with ⟨i,u,rfl,e⟩ | ⟨y,u,rfl,e⟩
    · exact nomatch e
    · injection e with e1 _
      subst e1
      cases v <;> rfl
theorem mixKind_int (prog:Program) (w:World) (i:Int) (t:Tok):(mixKind prog w).is (.inl i) (.int i t) = true:=keyIs_int i t
theorem mixKind_str (prog:Program) (w:World) (x:Str) (t:Tok):(mixKind prog w).is (.inr x) (.str x t) = true:=keyIs_str x t
end L2
namespace L2
open PySem PySem.Spec PyProof.Rows
inductive V where
  | non | bl (b:Bool) | int (i:Int) | str (x:Str) | byt (b:Array UInt8) | flt (b:UInt64) | ref (a:Addr) | ty (n:String)
  deriving DecidableEq
def RelV:V→Value→Prop
  | .non,u=>u = Value.none
  | .bl b,u=>u = Value.bool b
  | .int i,u=>∃ t,u = Value.int i t
  | .str x,u=>∃ t,u = Value.str x t
  | .byt b,u=>∃ t,u = Value.bytes b t
  | .flt b,u=>∃ t,u = Value.float b t
  | .ref a,u=>u = Value.ref a
  | .ty n,u=>u = Value.type n
abbrev Vals:List V→List Value→Prop:=Paired RelV
theorem Vals.length {xs:List V} {us:List Value} (r:Vals xs us):xs.length = us.length:=Paired.length r
theorem Vals.get:∀ {xs:List V} {us:List Value} {i:Nat} {x:V},Vals xs us→xs[i]? = some x→∃ u,us[i]? = some u∧RelV x u
  | _,_,_,_,.nil,e=>by simp at e
  | _,_,0,_,.cons r _,e=>by simp at e; subst e; exact ⟨_,rfl,r⟩
  | _,_,i + 1,x,.cons _ t,e=>by
    obtain ⟨u,h1,h2⟩:=Vals.get (i:=i) (x:=x) t (by simpa using e)
    exact ⟨u,by simpa using h1,h2⟩
theorem Vals.append:∀ {xs ys:List V} {us ws:List Value},Vals xs us→Vals ys ws→Vals (xs ++ ys) (us ++ ws)
  | _,_,_,_,.nil,s=>s
  | _,_,_,_,.cons r t,s=>.cons r (Vals.append t s)
theorem Vals.take:∀ {xs:List V} {us:List Value} (n:Nat),Vals xs us→Vals (xs.take n) (us.take n)
  | _,_,0,_=>.nil
  | _,_,_ + 1,.nil=>.nil
  | _,_,n + 1,.cons r t=>.cons r (Vals.take n t)
theorem Vals.drop:∀ {xs:List V} {us:List Value} (n:Nat),Vals xs us→Vals (xs.drop n) (us.drop n)
  | _,_,0,r=>r
  | _,_,_ + 1,.nil=>.nil
  | _,_,n + 1,.cons _ t=>Vals.drop n t
def RelO:Option V→Option Value→Prop
  | some v,some u=>RelV v u
  | none,none=>True
  | _,_=>False
def KV {κ:Type}:List (κ×V)→List (κ×Value)→Prop:=Paired fun (p:κ×V) (q:κ×Value)=>p.1 = q.1∧RelV p.2 q.2
def kV:Key→V
  | .inl i=>.int i
  | .inr x=>.str x
inductive HO where
    | lst (xs:List V)
    | tup (xs:List V)
    | dK (kvs:List (Key×V)) | dT (kvs:List (List Key×V))
    | set (S:Int→Bool) (n:Nat)
    | ins (C dx:Addr) (fs:List (Str×V))
    | own (x:Addr)
    | xd (fs:List (Str×V))
    | met (f x:Addr)
    | rng (lo hi:Int)
    | frz (o:Obj) (u:HO)
    | tbl (ps:Array Value)
    | ext (φ:Heap→Prop)
abbrev Hp:=Addr→Option HO
def upd (H:Hp) (a:Addr) (o:HO):Hp:=fun b=>if b = a then some o else H b
theorem upd_same {H:Hp} {a:Addr} {o:HO}:upd H a o a = some o:=by unfold upd; rw [if_pos rfl]
theorem upd_ne {H:Hp} {a b:Addr} {o:HO} (h:b≠a):upd H a o b = H b:=by unfold upd; rw [if_neg h]
theorem ne_of {H:Hp} {a b:Addr} {o u:HO} (h:H a = some o) (h':H b = some u) (d:o≠u):a≠b:=by
  intro e; subst e; rw [h] at h'; exact d (Option.some.inj h')
theorem ne_of_none {H:Hp} {a b:Addr} {o:HO} (h:H a = some o) (h':H b = none):a≠b:=by
  intro e; subst e; rw [h] at h'; cases h'
section
variable (P:Program) (w:World)
def ObjOk (H:Hp) (h:Heap) (a:Addr):HO→Prop
  | .lst xs=>xs.length≤sizeLine∧∃ (its:List Value) (n:Nat),Vals xs its∧h.get? a = some { cls:=.type "list",data:=.seq its.toArray n }
  | .tup xs=>xs.length≤sizeLine∧∃ its:List Value,Vals xs its∧IsTup h a its.toArray
  | .dK kvs=>kvs.length≤sizeLine∧(a == sysModules) = false∧∃ vs,KV kvs vs∧h.DictOf (mixKind P w) a vs
  | .dT kvs=>kvs.length≤sizeLine∧(a == sysModules) = false∧∃ xs:List (List Key×Addr×Value),
      Paired (fun (p:List Key×V) (q:List Key×Addr×Value)=>p.1 = q.1∧H q.2.1 = some (.tup (p.1.map kV))∧RelV p.2 q.2.2) kvs xs ∧
      ∃ o es ep,h.get? a = some o∧o.ExactDict∧o.data = .dict es ep∧es.toList = xs.map (entryOfKey (tupleKind (mixKind P w)))∧(xs.map (·.1)).Nodup
  | .set S n=>h.SetOf (intKind P w) a S n
  | .ins C dx fs=>H dx = some (.own a)∧fs.length≤1000∧dx≠a∧h.get? a = some (PySem.W.instObj C dx) ∧
      ∃ mA,h.Ns1 dx mA∧(∀ f,RelO (fs.lookup f) (mA f))∧PySem.Within mA (fs.map (·.1))
  | .own _=>∃ o,h.get? a = some o
  | .xd fs=>∃ mA,h.Ns1 a mA∧∀ f,RelO (fs.lookup f) (mA f)
  | .rng lo hi=>∃ t u v,h.get? a = some { cls:=.type "range",data:=.fields #[.int lo t,.int hi u,.int 1 v] }
  | .frz o u=>h.get? a = some o∧ObjOk H h a u
  | .tbl ps=>h.get? a = some { cls:=.none,data:=.fields ps }
  | .met f x=>h.get? a = some (PySem.W.methodObj (.ref f) (.ref x))
  | .ext φ=>φ h∧(∃ o,h.get? a = some o)∧∀ h1 h2:Heap,φ h1→(∀ o,h1.get? a = some o→h2.get? a = some o)→φ h2
def HOk (H:Hp) (h:Heap):Prop:=∀ a o,H a = some o→ObjOk P w H h a o
end
section
variable {P:Program} {w:World} {H H':Hp} {h h':Heap} {a:Addr} {o:HO}
theorem ObjOk.lt (x:ObjOk P w H h a o):a < h.objs.size:=by
  cases o with
  | lst xs=>obtain ⟨_,_,_,_,e⟩:=x; exact Heap.lt_size e
  | tup xs=>obtain ⟨_,_,_,p⟩:=x; exact p.lt
  | dK kvs=>obtain ⟨_,_,_,_,o,_,_,e,_⟩:=x; exact Heap.lt_size e
  | dT kvs=>obtain ⟨_,_,_,_,o,_,_,e,_⟩:=x; exact Heap.lt_size e
  | set S n=>obtain ⟨o,_,_,_,e,_⟩:=x; exact Heap.lt_size e
  | ins C dx fs=>obtain ⟨_,_,_,e,_⟩:=x; exact Heap.lt_size e
  | own y=>obtain ⟨_,e⟩:=x; exact Heap.lt_size e
  | xd fs=>obtain ⟨_,⟨_,_,_,e,_⟩,_⟩:=x; exact Heap.lt_size e
  | rng lo hi=>obtain ⟨_,_,_,e⟩:=x; exact Heap.lt_size e
  | frz ob u=>obtain ⟨e,_⟩:=x; exact Heap.lt_size e
  | tbl ps=>exact Heap.lt_size (show h.get? a = some _ from x)
  | met f y=>exact Heap.lt_size (show h.get? a = some _ from x)
  | ext φ=>obtain ⟨_,⟨_,e⟩,_⟩:=x; exact Heap.lt_size e
theorem Paired.mapP {α β:Type} {F G:α→β→Prop}:∀ {l₁:List α} {l₂:List β},Paired F l₁ l₂→(∀ a b,F a b→G a b)→Paired G l₁ l₂
  | _,_,.nil,_=>.nil
  | _,_,.cons r t,f=>.cons (f _ _ r) (Paired.mapP t f)
theorem ObjOk.stay (x:ObjOk P w H h a o) (k:∀ b u,(b = a∨H b = some (.own a))→h.get? b = some u→h'.get? b = some u)
    (ho:∀ b,H b = some (.own a)→H' b = some (.own a)) (ht:∀ b xs,H b = some (.tup xs)→H' b = some (.tup xs)):ObjOk P w H' h' a o:=by
  induction o with
  | lst xs=>obtain ⟨z,its,n,r,e⟩:=x; exact ⟨z,its,n,r,k _ _ (.inl rfl) e⟩
  | tup xs=>obtain ⟨z,its,r,ob,e,c⟩:=x; exact ⟨z,its,r,ob,k _ _ (.inl rfl) e,c⟩
  | dK kvs=>obtain ⟨z,y,vs,r,ob,es,ep,e,c⟩:=x; exact ⟨z,y,vs,r,ob,es,ep,k _ _ (.inl rfl) e,c⟩
  | dT kvs =>
    obtain ⟨z,y,xs,r,ob,es,ep,e,c⟩:=x
    exact ⟨z,y,xs,Paired.mapP r fun p q z=>⟨z.1,ht _ _ z.2.1,z.2.2⟩,ob,es,ep,k _ _ (.inl rfl) e,c⟩
  | set S n=>obtain ⟨ob,es,ep,t,e,c⟩:=x; exact ⟨ob,es,ep,t,k _ _ (.inl rfl) e,c⟩
  | ins C dx fs =>
    obtain ⟨d,z,ne,e,mA,⟨od,es,ep,e2,c⟩,r⟩:=x
    exact ⟨ho _ d,z,ne,k _ _ (.inl rfl) e,mA,⟨od,es,ep,k _ _ (.inr d) e2,c⟩,r⟩
  | own y=>obtain ⟨ob,e⟩:=x; exact ⟨ob,k _ _ (.inl rfl) e⟩
  | xd fs=>obtain ⟨mA,⟨od,es,ep,e,c⟩,r⟩:=x; exact ⟨mA,⟨od,es,ep,k _ _ (.inl rfl) e,c⟩,r⟩
  | rng lo hi=>obtain ⟨t,u,v,e⟩:=x; exact ⟨t,u,v,k _ _ (.inl rfl) e⟩
  | frz ob u ih=>obtain ⟨e,q⟩:=x; exact ⟨k _ _ (.inl rfl) e,ih q⟩
  | tbl ps =>
    have e:h.get? a = some { cls:=.none,data:=.fields ps }:=x
    show h'.get? a = some { cls:=.none,data:=.fields ps }
    exact k a _ (.inl rfl) e
  | met f y =>
    have e:h.get? a = some (PySem.W.methodObj (.ref f) (.ref y)):=x
    show h'.get? a = some (PySem.W.methodObj (.ref f) (.ref y))
    exact k a _ (.inl rfl) e
  | ext φ=>obtain ⟨p,⟨o,e⟩,st⟩:=x; exact ⟨st _ _ p fun o q=>k _ _ (.inl rfl) q,⟨o,k _ _ (.inl rfl) e⟩,st⟩
theorem HOk.lt (x:HOk P w H h) (e:H a = some o):a < h.objs.size:=(x a o e).lt
theorem HOk.fresh (x:HOk P w H h) (e:h.objs.size≤a):H a = none:=by
  cases q:H a with
  | none=>rfl
  | some u=>exact absurd (Nat.lt_of_lt_of_le (x.lt q) e) (Nat.lt_irrefl _)
theorem HOk.kept (x:HOk P w H h) (k:∀ b u,h.get? b = some u→h'.get? b = some u):HOk P w H h':=fun a o e =>
  (x a o e).stay (fun b u _ q=>k b u q) (fun _ q=>q) fun _ _ q=>q
theorem HOk.laid (x:HOk P w H h) (k:∀ b u,h.get? b = some u→h'.get? b = some u) (hp:h.objs.size≤a) (new:ObjOk P w (upd H a o) h' a o):HOk P w (upd H a o) h':=fun b u e=>by
  have hn:=x.fresh hp
  by_cases hb:b = a
  · subst hb; rw [upd_same] at e; cases e; exact new
  · rw [upd_ne hb] at e
    exact (x b u e).stay (fun c v _ q=>k c v q) (fun c q=>by rw [upd_ne (ne_of_none q hn)]; exact q) fun c xs q=>by rw [upd_ne (ne_of_none q hn)]; exact q
end
def Rd (H:Hp) (a:Addr) (u:HO):Prop:=H a = some u∨∃ o,H a = some (.frz o u)
theorem Rd.ok {P:Program} {w:World} {H:Hp} {h:Heap} {a:Addr} {u:HO} (r:Rd H a u) (x:HOk P w H h):ObjOk P w H h a u:=by
  rcases r with r | ⟨o,r⟩
  · exact x a u r
  · obtain ⟨_,q⟩:=x a _ r
    exact q
def Mut:Option HO→Prop
  | some (.lst _)=>True
  | some (.dK _)=>True
  | some (.dT _)=>True
  | some (.set _ _)=>True
  | some (.ins _ _ _)=>True
  | some (.ext _)=>True
  | _=>False
section
variable {P:Program} {w:World} {H:Hp} {h h':Heap} {x e:Addr} {o':HO}
theorem HOk.write (ok:HOk P w H h) (mu:Mut (H x)) (he:e = x∨H e = some (.own x)) (k:∀ b u,b≠e→h.get? b = some u→h'.get? b = some u) (heo:∃ u,h'.get? e = some u)
    (new:ObjOk P w (upd H x o') h' x o'):HOk P w (upd H x o') h':=fun b u q=>by
  have nown:∀ c y,H c = some (.own y)→c≠x:=fun c y r z=>by subst z; rw [r] at mu; exact mu
  have ntup:∀ c xs,H c = some (.tup xs)→c≠x:=fun c xs r z=>by subst z; rw [r] at mu; exact mu
  by_cases hb:b = x
  · subst hb; rw [upd_same] at q; cases q; exact new
  · rw [upd_ne hb] at q
    by_cases hbe:b = e
    · have q':H b = some (.own x):=by
        rcases he with z | z
        · exact absurd (hbe.trans z) hb
        · rw [hbe]; exact z
      rw [q] at q'; cases q'
      obtain ⟨v,hv⟩:=heo
      exact ⟨v,by rw [hbe]; exact hv⟩
    · refine (ok b u q).stay (fun c v hc r=>k c v ?_ r) (fun c r=>by rw [upd_ne (nown c b r)]; exact r) fun c xs r=>by rw [upd_ne (ntup c xs r)]; exact r
      rcases hc with rfl | hc
      · exact hbe
      · rintro rfl
        rcases he with z | z
        · exact nown c b hc z
        · rw [hc] at z; cases z; exact hb rfl
end
structure Un (fs ex:List Addr) (H H':Hp) (h h':Heap):Prop where
  keep:∀ b o,h.get? b = some o→H b = none→b∉fs→b∉ex→h'.get? b = some o
  slot:∀ b o,h.get? b = some o→H b = none→b∈fs→b∉ex→∃ sl,h'.get? b = some { o with slots:=sl }
  free:∀ b o,h.get? b = some o→H b = none→b∉ex→H' b = none
  there:∀ b o,h.get? b = some o→b∉ex→∃ o',h'.get? b = some o'
  tups:∀ b xs,H b = some (.tup xs)→H' b = some (.tup xs)
  frzs:∀ b o u,H b = some (.frz o u)→H' b = some (.frz o u)
  tbls:∀ b ps,H b = some (.tbl ps)→∃ more,H' b = some (.tbl (ps ++ more))
section
variable {fs fs' ex ex':List Addr} {H H1 H2:Hp} {h h1 h2 h':Heap} {a x e:Addr} {o:HO}
theorem Un.any (u:Un fs ex H H1 h h1) {b:Addr} {ob:Obj} (q:h.get? b = some ob) (n:H b = none) (hx:b∉ex):∃ sl,h1.get? b = some { ob with slots:=sl }:=by
  by_cases hb:b∈fs
  · exact u.slot b ob q n hb hx
  · exact ⟨ob.slots,u.keep b ob q n hb hx⟩
theorem Un.kept (k:∀ b u,h.get? b = some u→h'.get? b = some u):Un fs ex H H h h' :=
  ⟨fun b ob q _ _ _=>k b ob q,fun b ob q _ _ _=>⟨ob.slots,k b ob q⟩,fun _ _ _ n _=>n,fun b ob q _=>⟨ob,k b ob q⟩,fun _ _ q=>q,fun _ _ _ q=>q,fun _ ps q=>⟨#[],by rw [q]; simp⟩⟩
theorem Un.refl:Un fs ex H H h h:=Un.kept fun _ _ q=>q
theorem Un.laid (k:∀ b u,h.get? b = some u→h'.get? b = some u) (hp:h.objs.size≤a) (hn:H a = none):Un fs ex H (upd H a o) h h' where
  keep:=fun b u q _ _ _=>k b u q
  slot:=fun b u q _ _ _=>⟨u.slots,k b u q⟩
  free:=fun b u q n _=>by rw [upd_ne (Nat.ne_of_lt (Nat.lt_of_lt_of_le (Heap.lt_size q) hp))]; exact n
  there:=fun b u q _=>⟨u,k b u q⟩
  tups:=fun b xs q=>by rw [upd_ne (ne_of_none q hn)]; exact q
  frzs:=fun b u xs q=>by rw [upd_ne (ne_of_none q hn)]; exact q
  tbls:=fun b ps q=>⟨#[],by rw [upd_ne (ne_of_none q hn),q]; simp⟩
theorem Un.write (mu:Mut (H x)) (he:e = x∨H e = some (.own x)) (k:∀ b u,b≠e→h.get? b = some u→h'.get? b = some u) (heo:∃ u,h'.get? e = some u):Un fs ex H (upd H x o) h h':=by
  have hx:∀ b,H b = none→b≠x:=fun b n z=>by subst z; rw [n] at mu; exact mu
  have hb:∀ b,H b = none→b≠e:=fun b n z=>by
    subst z
    rcases he with r | r
    · exact hx b n r
    · rw [n] at r; cases r
  have hm:∀ b u,H b = some u→¬ Mut (some u)→b≠x:=fun b u q nm z=>by subst z; rw [q] at mu; exact nm mu
  refine ⟨fun b u q n _ _=>k b u (hb b n) q,fun b u q n _ _=>⟨u.slots,k b u (hb b n) q⟩,fun b u q n _=>by rw [upd_ne (hx b n)]; exact n,fun b u q _=>?_,
    fun b xs q=>by rw [upd_ne (hm b _ q fun z=>z)]; exact q,fun b u xs q=>by rw [upd_ne (hm b _ q fun z=>z)]; exact q,fun b ps q=>⟨#[],by rw [upd_ne (hm b _ q fun z=>z),q]; simp⟩⟩
  by_cases hbe:b = e
  · subst hbe; exact heo
  · exact ⟨u,k b u hbe q⟩
end
def trk (h:Heap) (H:Hp):List Addr:=(List.range h.objs.size).filter fun a=>(H a).isSome
def hidT (h:Heap) (H:Hp):Heap:=PySem.W.hideAll h (trk h H)
theorem hidT_size (h:Heap) (H:Hp):(hidT h H).objs.size = h.objs.size:=PySem.W.hideAll_size _ _
theorem hidT_get {h:Heap} {H:Hp} {b:Addr} {o:Obj} (e:h.get? b = some o) (n:H b = none):(hidT h H).get? b = some o :=
  PySem.W.hideAll_get _ e fun hm=>by
    have q:(H b).isSome = true:=(List.mem_filter.mp hm).2
    rw [n] at q; simp at q
theorem of_hidT {h:Heap} {H:Hp} {b:Addr} {o:Obj} (e:(hidT h H).get? b = some o):h.get? b = some o∧H b = none:=by
  have e':h.get? b = some o:=PySem.W.of_hideAll (trk h H) e
  refine ⟨e',?_⟩
  cases q:H b with
  | none=>rfl
  | some x =>
    have hm:b∈trk h H:=List.mem_filter.mpr ⟨List.mem_range.mpr (Heap.lt_size e'),by simp [q]⟩
    have z:(hidT h H).get? b = none:=PySem.W.hideAll_none (trk h H) hm
    rw [z] at e; cases e
end L2
namespace L2
open PySem PySem.Spec PyProof.Rows
structure Mod (K:PySem.W.Frag) (mg:Str→Option Value) (base:Heap):Prop where
  kin:K.In base
  glob:base.Ns mainGlobals mg
  blt:∃ mb,base.Ns builtinsNs mb∧∀ x:Str,x ≠ "__name__" → mb x = bootBuiltins x
  nolimit:base.NoLimit
structure Cx where
  prog:Program
  w:World
  K:PySem.W.Frag
  mg:Str→Option Value
  base:Heap
  A:Around
  N:List Str
  s₀:Shared
  H₀:Hp
  env:Env
  outer:List Env
  stack:List Env
  ex:List Addr
  fn:Str→Bool
  calm:Bool
  pn:List (Addr×Obj)
  xe:Value→Shared→Prop
def frs (l:List Env):List Addr:=l.filterMap (·.frame)
abbrev Cx.fs (X:Cx):List Addr:=frs X.outer
def Vis (sc:Scope) (x:Str):Prop:=sc.names.lookup x = some .local∨sc.names.lookup x = some .cell∨sc.names.lookup x = some .free
def Loc (sc:Scope) (x:Str):Prop:=sc.names.lookup x = some .local∨sc.names.lookup x = some .cell
def Look (env:Env) (h:Heap) (m:Str→Option Value) (x:Str) (u:Value):Prop :=
  (env.kindOf x = some .local∧m x = some u)∨((env.kindOf x = some .cell∨env.kindOf x = some .free)∧∃ c,env.cells.lookup x = some c∧h.IsCell c (some u))
structure Cx.Ok (X:Cx):Prop where
  mod:Mod X.K X.mg X.base
  kind:X.env.scope.kind = .function
  glob:X.env.globals = mainGlobals
  blt:X.env.builtins = builtinsNs
  above:X.s₀.heap.objs.size≤X.env.locals
  inj:∀ x y c,X.env.cells.lookup x = some c→X.env.cells.lookup y = some c→x = y
  has:∀ x,(X.env.kindOf x = some .cell∨X.env.kindOf x = some .free)→∃ c,X.env.cells.lookup x = some c
  cab:∀ x c,X.fn x = true→X.env.cells.lookup x = some c→X.s₀.heap.objs.size≤c
  hd:X.calm = true→X.A.handled = none
  frames:X.A.frames = some X.stack
  stk:X.stack = X.outer∨(X.stack = X.env :: X.outer∧X.env.frame = some X.env.locals)
  exf:∀ b∈X.ex,b≠X.env.locals∧∀ x c,X.env.cells.lookup x = some c→c≠b
  bs:∀ b o,X.base.get? b = some o→X.s₀.heap.get? b = some o∧X.H₀ b = none
  bsz:X.base.objs.size≤X.s₀.heap.objs.size
  noex:∀ b o,X.base.get? b = some o→b∉X.ex
  exfs:∀ b∈X.ex,b∉X.fs
  funs:X.s₀.heap.FunFrames X.base X.outer
  frf:∀ b∈X.fs,X.H₀ b = none
structure Inv (X:Cx) (pins:List (Addr×Obj)) (σ:List (Option V)) (H:Hp) (s:Shared):Prop where
  ok:X.Ok
  os:s.os = X.s₀.os
  bare:AllBare s.gens
  base:Un X.fs X.ex X.H₀ H X.s₀.heap s.heap
  loc:∃ m,s.heap.Ns X.env.locals m∧∀ (i:Nat) (x:Str) (v:V),X.N[i]? = some x→σ[i]? = some (some v)→Vis X.env.scope x→∃ u,RelV v u∧Look X.env s.heap m x u
  cell:∀ x c,X.env.cells.lookup x = some c→∃ v,s.heap.IsCell c v
  free:H X.env.locals = none
  freeC:∀ x c,X.env.cells.lookup x = some c→H c = none
  pin:∀ p∈X.pn ++ pins,s.heap.get? p.1 = some p.2∧H p.1 = none∧p.1≠X.env.locals∧p.1∉X.fs∧∀ v,p.2.data≠.cell v
  hok:HOk X.prog X.w H s.heap
  len:σ.length = X.N.length
section
variable {X:Cx} {pins:List (Addr×Obj)} {σ:List (Option V)} {H H':Hp} {s:Shared} {h':Heap}
theorem Cx.Ok.nofr (ok:X.Ok) {b:Addr} {o:Obj} (e:X.base.get? b = some o):b∉X.fs:=fun hb=>by
  have:=(ok.funs.mem hb).1
  rw [e] at this; cases this
theorem Inv.bs (I:Inv X pins σ H s):∀ b o,X.base.get? b = some o→s.heap.get? b = some o∧H b = none:=fun b o e =>
  ⟨I.base.keep b o (I.ok.bs b o e).1 (I.ok.bs b o e).2 (I.ok.nofr e) (I.ok.noex b o e),I.base.free b o (I.ok.bs b o e).1 (I.ok.bs b o e).2 (I.ok.noex b o e)⟩
theorem Inv.bk (I:Inv X pins σ H s):∀ b o,X.base.get? b = some o→s.heap.get? b = some o:=fun b o e=>(I.bs b o e).1
theorem Inv.mod (I:Inv X pins σ H s):Mod X.K X.mg X.base:=I.ok.mod
theorem Inv.kIn (I:Inv X pins σ H s):X.K.In s.heap:=I.ok.mod.kin.keeps I.bk
theorem Inv.lt (I:Inv X pins σ H s):X.env.locals < s.heap.objs.size:=let ⟨_,hn,_⟩:=I.loc; hn.lt
theorem Inv.sz (I:Inv X pins σ H s):X.s₀.heap.objs.size≤s.heap.objs.size:=Nat.le_trans I.ok.above (Nat.le_of_lt I.lt)
theorem Inv.nofs (I:Inv X pins σ H s) {a:Addr} (h:s.heap.objs.size≤a):a∉X.fs:=fun hb=>by
  obtain ⟨_,o,ho,_⟩:=I.ok.funs.mem hb
  exact absurd (Nat.lt_of_lt_of_le (Heap.lt_size ho) (Nat.le_trans I.sz h)) (Nat.lt_irrefl _)
theorem Inv.cne (I:Inv X pins σ H s):∀ x c,X.env.cells.lookup x = some c→c≠X.env.locals:=fun x c e z=>by
  obtain ⟨v,o,ho,hd⟩:=I.cell x c e
  obtain ⟨m,⟨o',es,ep,ho',hd',_⟩,_⟩:=I.loc
  rw [z,ho'] at ho; cases ho; rw [hd'] at hd; cases hd
theorem Inv.funs (I:Inv X pins σ H s):s.heap.FunFrames X.base X.outer:=by
  have all:∀ (l:List Env),(∀ b∈frs l,b∈X.fs)→X.s₀.heap.FunFrames X.base l→s.heap.FunFrames X.base l:=by
    intro l
    induction l with
    | nil=>intro _ _; trivial
    | cons env r ih =>
      intro hs hl
      obtain ⟨hk,⟨L,o,hf,hn,ho,hd⟩,hr⟩:=hl
      have hL:L∈X.fs:=hs L (by unfold frs; rw [List.filterMap_cons,hf]; exact List.mem_cons_self)
      obtain ⟨sl,e⟩:=I.base.slot L o ho (I.ok.frf L hL) hL fun z=>I.ok.exfs L z hL
      exact ⟨hk,⟨L,_,hf,hn,e,hd⟩,ih (fun b hb=>hs b (by unfold frs; rw [List.filterMap_cons,hf]; exact List.mem_cons_of_mem _ hb)) hr⟩
  exact all X.outer (fun _ hb=>hb) I.ok.funs
theorem Inv.stack (I:Inv X pins σ H s):s.heap.FunFrames X.base X.stack:=by
  rcases I.ok.stk with e | ⟨e,hf⟩
  · rw [e]; exact I.funs
  · rw [e]
    obtain ⟨m,hn,_⟩:=I.loc
    refine .cons (by rw [I.ok.kind]; decide) hf hn ?_ I.funs
    exact Heap.get?_none_of_le (Nat.le_trans I.ok.bsz I.ok.above)
theorem Inv.stkSub (I:Inv X pins σ H s):∀ b∈frs X.stack,b∈X.env.locals :: X.fs:=fun b hb=>by
  rcases I.ok.stk with e | ⟨e,hf⟩
  · rw [e] at hb; exact List.mem_cons_of_mem _ hb
  · rw [e] at hb
    unfold frs at hb
    rw [List.filterMap_cons,hf] at hb
    exact hb
theorem Inv.stkFree (I:Inv X pins σ H s):∀ b∈frs X.stack,H b = none:=fun b hb=>by
  rcases List.mem_cons.mp (I.stkSub b hb) with e | hb
  · rw [e]; exact I.free
  · obtain ⟨_,o,ho,_⟩:=I.ok.funs.mem hb
    exact I.base.free b o ho (I.ok.frf b hb) fun z=>I.ok.exfs b z hb
theorem Inv.step {g':Array GenState} {t':Nat} {d':Drawn} {ch:List Addr} (I:Inv X pins σ H s)
    (hch:∀ b∈ch,(b∈X.ex∨X.s₀.heap.objs.size≤b)∧b≠X.env.locals∧(∀ x c,X.env.cells.lookup x = some c→c≠b)∧∀ p∈X.pn ++ pins,p.1≠b)
    (keep:∀ b o,b≠X.env.locals→b∉X.fs→b∉ch→s.heap.get? b = some o→H b = none→h'.get? b = some o)
    (slot:∀ b o,b≠X.env.locals→b∈X.fs→b∉ch→s.heap.get? b = some o→H b = none→∃ sl,h'.get? b = some { o with slots:=sl }) (free:∀ b o,b∉ch→s.heap.get? b = some o→H b = none→H' b = none)
    (there:∀ b o,b∉ch→s.heap.get? b = some o→∃ o',h'.get? b = some o')
    (tups:∀ b xs,H b = some (.tup xs)→H' b = some (.tup xs)) (frzs:∀ b o u,H b = some (.frz o u)→H' b = some (.frz o u)) (tbls:∀ b ps,H b = some (.tbl ps)→∃ more,H' b = some (.tbl (ps ++ more)))
    (ns:∀ m,s.heap.Ns X.env.locals m→h'.Ns X.env.locals m) (hok:HOk X.prog X.w H' h') (hg:AllBare g') :
    Inv X pins σ H' { s with heap:=h',gens:=g',drawn:=d',toks:=t' }:=by
  have neL:∀ b o,X.s₀.heap.get? b = some o→b≠X.env.locals:=fun b o e=>Nat.ne_of_lt (Nat.lt_of_lt_of_le (Heap.lt_size e) I.ok.above)
  have neC:∀ b o,X.s₀.heap.get? b = some o→b∉X.ex→b∉ch:=fun b o e hx hb=>by
    rcases (hch b hb).1 with z | z
    · exact hx z
    · exact absurd (Nat.lt_of_lt_of_le (Heap.lt_size e) z) (Nat.lt_irrefl _)
  have cellK:∀ x c,X.env.cells.lookup x = some c→∀ v,s.heap.IsCell c v→h'.IsCell c v:=fun x c e v ⟨o,ho,hd⟩=>by
    have nch:c∉ch:=fun z=>(hch c z).2.2.1 x c e rfl
    by_cases hc:c∈X.fs
    · obtain ⟨sl,q⟩:=slot c o (I.cne x c e) hc nch ho (I.freeC x c e)
      exact ⟨_,q,hd⟩
    · exact ⟨o,keep c o (I.cne x c e) hc nch ho (I.freeC x c e),hd⟩
  refine ⟨I.ok,I.os,hg,⟨fun b o e n hb hx=>?_,fun b o e n hb hx=>?_,fun b o e n hx=>?_,fun b o e hx=>?_,fun b xs e=>tups b xs (I.base.tups b xs e),fun b o xs e=>frzs b o xs (I.base.frzs b o xs e),fun b ps e=>?_⟩,?_,fun x c e=>?_,?_,fun x c e=>?_,fun p hp=>?_,hok,I.len⟩
  · exact keep b o (neL b o e) hb (neC b o e hx) (I.base.keep b o e n hb hx) (I.base.free b o e n hx)
  · obtain ⟨sl,e1⟩:=I.base.slot b o e n hb hx
    obtain ⟨sl',e2⟩:=slot b _ (neL b o e) hb (neC b o e hx) e1 (I.base.free b o e n hx)
    exact ⟨sl',e2⟩
  · obtain ⟨o',e1⟩:=I.base.there b o e hx
    exact free b o' (neC b o e hx) e1 (I.base.free b o e n hx)
  · obtain ⟨o',e1⟩:=I.base.there b o e hx
    exact there b o' (neC b o e hx) e1
  · obtain ⟨m1,e1⟩:=I.base.tbls b ps e
    obtain ⟨m2,e2⟩:=tbls b _ e1
    exact ⟨m1 ++ m2,by rw [e2,Array.append_assoc]⟩
  · obtain ⟨m,hn,hl⟩:=I.loc
    refine ⟨m,ns m hn,fun i x v e1 e2 e3=>?_⟩
    obtain ⟨u,r,l⟩:=hl i x v e1 e2 e3
    refine ⟨u,r,?_⟩
    rcases l with l | ⟨k,c,e,z⟩
    · exact .inl l
    · exact .inr ⟨k,c,e,cellK x c e _ z⟩
  · obtain ⟨v,z⟩:=I.cell x c e
    exact ⟨v,cellK x c e v z⟩
  · obtain ⟨m,⟨o,_,_,ho,_⟩,_⟩:=I.loc
    exact free _ o (fun z=>(hch _ z).2.1 rfl) ho I.free
  · obtain ⟨v,o,ho,hd⟩:=I.cell x c e
    exact free c o (fun z=>(hch c z).2.2.1 x c e rfl) ho (I.freeC x c e)
  · obtain ⟨e,n,ne,nf,d⟩:=I.pin p hp
    have nch:p.1∉ch:=fun z=>(hch p.1 z).2.2.2 p hp rfl
    exact ⟨keep p.1 p.2 ne nf nch e n,free p.1 p.2 nch e n,ne,nf,d⟩
theorem Inv.un {t':Nat} (I:Inv X pins σ H s) (u:Un X.fs [] H H' s.heap h') (hok:HOk X.prog X.w H' h'):Inv X pins σ H' { s with heap:=h',toks:=t' }:=by
  obtain ⟨m,⟨o,es,ep,ho,r⟩,_⟩:=id I.loc
  obtain ⟨sl,hL⟩:=u.any ho I.free (by simp)
  exact I.step (g':=s.gens) (d':=s.drawn) (ch:=[]) (fun _ z=>nomatch z) (fun b o _ hb _ e n=>u.keep b o e n hb (by simp)) (fun b o _ hb _ e n=>u.slot b o e n hb (by simp)) (fun b o _ e n=>u.free b o e n (by simp)) (fun b o _ e=>u.there b o e (by simp)) u.tups u.frzs u.tbls (fun m' hm=>by
    obtain ⟨o',es',ep',ho',r'⟩:=hm
    rw [ho] at ho'; cases ho'
    exact ⟨_,es',ep',hL,r'⟩) hok I.bare
theorem Inv.call {g':Array GenState} {t':Nat} {d':Drawn} {ch:List Addr} (I:Inv X pins σ H s) (u:Un (frs X.stack) ch H H' s.heap h') (hok:HOk X.prog X.w H' h') (hg:AllBare g')
    (hch:∀ b∈ch,(b∈X.ex∨X.s₀.heap.objs.size≤b)∧b≠X.env.locals∧(∀ x c,X.env.cells.lookup x = some c→c≠b)∧∀ p∈X.pn ++ pins,p.1≠b) :
    Inv X pins σ H' { s with heap:=h',gens:=g',drawn:=d',toks:=t' }:=by
  obtain ⟨m,⟨o,es,ep,ho,r⟩,_⟩:=id I.loc
  obtain ⟨sl,hL⟩:=u.any ho I.free fun z=>(hch _ z).2.1 rfl
  exact I.step (ch:=ch) hch (fun b o hL hb hc e n=>u.keep b o e n (fun z=>(List.mem_cons.mp (I.stkSub b z)).elim hL hb) hc) (fun b o _ _ hc e n=>u.any e n hc) (fun b o hc e n=>u.free b o e n hc) (fun b o hc e=>u.there b o e hc) u.tups u.frzs u.tbls (fun m' hm=>by
    obtain ⟨o',es',ep',ho',r'⟩:=hm
    rw [ho] at ho'; cases ho'
    exact ⟨_,es',ep',hL,r'⟩) hok hg
theorem Inv.turned {t':Nat} {it:Addr} (I:Inv X pins σ H s) (k:∀ b o,b≠it→s.heap.get? b = some o→h'.get? b = some o) (hn:H it = none) (hL:it≠X.env.locals)
    (h1:it∈X.ex∨X.s₀.heap.objs.size≤it) (h2:∀ x c,X.env.cells.lookup x = some c→c≠it) (h3:∀ p∈X.pn ++ pins,p.1≠it):Inv X pins σ H { s with heap:=h',toks:=t' }:=by
  have nit:∀ b u,H b = some u→b≠it:=fun b u e z=>by rw [z,hn] at e; cases e
  refine I.step (g':=s.gens) (d':=s.drawn) (ch:=[it]) (fun b hb=>?_) (fun b o _ _ hc e _=>k b o (fun z=>hc (by simp [z])) e) (fun b o _ _ hc e _=>⟨o.slots,k b o (fun z=>hc (by simp [z])) e⟩) (fun _ _ _ _ n=>n)
    (fun b o hc e=>⟨o,k b o (fun z=>hc (by simp [z])) e⟩) (fun _ _ e=>e) (fun _ _ _ e=>e) (fun b ps e=>⟨#[],by rw [e]; simp⟩) (fun m hm=>?_) (fun b u e=>?_) I.bare
  · have e:b = it:=by simpa using hb
    subst e
    exact ⟨h1,hL,h2,h3⟩
  · obtain ⟨o,es,ep,ho,r⟩:=hm
    exact ⟨o,es,ep,k _ o (Ne.symm hL) ho,r⟩
  · refine (I.hok b u e).stay (fun c v hc q=>k c v ?_ q) (fun _ q=>q) fun _ _ q=>q
    rcases hc with z | z
    · rw [z]; exact nit b u e
    · exact nit c _ z
theorem Inv.tok (I:Inv X pins σ H s) (t:Nat):Inv X pins σ H { s with toks:=t }:=I.un (h':=s.heap) (t':=t) Un.refl I.hok
theorem Inv.kept {t':Nat} (I:Inv X pins σ H s) (k:∀ b u,s.heap.get? b = some u→h'.get? b = some u):Inv X pins σ H { s with heap:=h',toks:=t' }:=I.un (Un.kept k) (I.hok.kept k)
theorem Inv.laid {a:Addr} {o:HO} {t':Nat} (I:Inv X pins σ H s) (k:∀ b u,s.heap.get? b = some u→h'.get? b = some u) (hp:s.heap.objs.size≤a) (new:ObjOk X.prog X.w (upd H a o) h' a o) :
    Inv X pins σ (upd H a o) { s with heap:=h',toks:=t' }:=I.un (Un.laid k hp (I.hok.fresh hp)) (I.hok.laid k hp new)
theorem Inv.write {x e:Addr} {o:HO} {t':Nat} (I:Inv X pins σ H s) (mu:Mut (H x)) (he:e = x∨H e = some (.own x)) (k:∀ b u,b≠e→s.heap.get? b = some u→h'.get? b = some u) (heo:∃ u,h'.get? e = some u)
    (new:ObjOk X.prog X.w (upd H x o) h' x o):Inv X pins σ (upd H x o) { s with heap:=h',toks:=t' }:=I.un (Un.write mu he k heo) (I.hok.write mu he k heo new)
theorem Inv.pins_of {pins':List (Addr×Obj)} (I:Inv X pins σ H s) (h:∀ p∈pins',s.heap.get? p.1 = some p.2∧H p.1 = none∧p.1≠X.env.locals∧p.1∉X.fs∧∀ v,p.2.data≠.cell v):Inv X pins' σ H s :=
  ⟨I.ok,I.os,I.bare,I.base,I.loc,I.cell,I.free,I.freeC,fun p hp=>(List.mem_append.mp hp).elim (fun z=>I.pin p (List.mem_append_left _ z)) (h p),I.hok,I.len⟩
theorem nodup_ix {N:List Str} (hN:N.Nodup) {i j:Nat} {x:Str} (a:N[i]? = some x) (b:N[j]? = some x):i = j:=by
  obtain ⟨h1,e1⟩:=List.getElem?_eq_some_iff.mp a
  obtain ⟨h2,e2⟩:=List.getElem?_eq_some_iff.mp b
  exact (List.getElem_inj hN).mp (e1.trans e2.symm)
theorem store_ok2 {M:Model} {A:Around} {E:Value→Shared→Prop} {i:Nat} {x:Str} {v:V} {u:Value} {Q:Unit→Shared→Prop} (I:Inv X pins σ H s) (hN:X.N.Nodup) (hi:X.N[i]? = some x) (hx:Loc X.env.scope x) (r:RelV v u)
    (h:∀ s',Inv X pins (σ.set i (some v)) H s'→(∃ a,Heap.SameBut a s.heap s'.heap∧(a = X.env.locals∨X.env.cells.lookup x = some a))→Q () s') (hf:X.fn x = true∨X.env.scope.names.lookup x = some .local:=by first | exact .inl rfl | exact .inr rfl | assumption):wpAny M A (storeName X.env x u) Q E s:=by
  obtain ⟨m,hn,hl⟩:=id I.loc
  have hcls:(X.env.scope.kind == .class || (X.env.scope.kind == .module && X.env.locals != X.env.globals)) = false:=by rw [I.ok.kind]; rfl
  have hiσ:i < σ.length:=by rw [I.len]; exact (List.getElem?_eq_some_iff.mp hi).1
  have cne:=I.cne
  have tracked:∀ {a:Addr} {h':Heap},(∃ o,s.heap.get? a = some o∧H a = none)→Heap.SameBut a s.heap h'→HOk X.prog X.w H h':=fun {a h'} ha hs b ob e=>by
    obtain ⟨_,_,hfree⟩:=ha
    refine (I.hok b ob e).stay (fun c w' hc q=>(hs.2 c ?_).trans q) (fun _ q=>q) fun _ _ q=>q
    rintro rfl
    rcases hc with rfl | hc
    · rw [hfree] at e; cases e
    · rw [hfree] at hc; cases hc
  rcases hx with hk | hk
  · refine wpAny_storeName_local hk hn (fun h' hn' hs=>?_) hcls
    obtain ⟨oL,_,_,hoL,_⟩:=id hn
    refine h _ ⟨I.ok,I.os,I.bare,⟨fun b o e n hb hx=>?_,fun b o e n hb hx=>?_,I.base.free,fun b o e hx=>?_,I.base.tups,I.base.frzs,I.base.tbls⟩,⟨_,hn',fun j y v' e1 e2 e3=>?_⟩,fun y c e=>?_,I.free,I.freeC,fun p hp=>?_,tracked ⟨oL,hoL,I.free⟩ hs,by simpa using I.len⟩ ⟨_,hs,.inl rfl⟩
    · exact (hs.2 b (Nat.ne_of_lt (Nat.lt_of_lt_of_le (Heap.lt_size e) I.ok.above))).trans (I.base.keep b o e n hb hx)
    · obtain ⟨sl,e1⟩:=I.base.slot b o e n hb hx
      exact ⟨sl,(hs.2 b (Nat.ne_of_lt (Nat.lt_of_lt_of_le (Heap.lt_size e) I.ok.above))).trans e1⟩
    · obtain ⟨o',e1⟩:=I.base.there b o e hx
      exact ⟨o',(hs.2 b (Nat.ne_of_lt (Nat.lt_of_lt_of_le (Heap.lt_size e) I.ok.above))).trans e1⟩
    · by_cases hj:j = i
      · subst hj
        rw [hi] at e1; cases e1
        rw [List.getElem?_set_self hiσ] at e2
        cases e2
        exact ⟨u,r,.inl ⟨hk,by simp⟩⟩
      · rw [List.getElem?_set_ne (Ne.symm hj)] at e2
        obtain ⟨u',r',q⟩:=hl j y v' e1 e2 e3
        refine ⟨u',r',?_⟩
        rcases q with ⟨k,e⟩ | ⟨k,c,e,z⟩
        · refine .inl ⟨k,?_⟩
          have:y≠x:=fun e=>hj (nodup_ix hN e1 (e ▸ hi))
          simp [this,e]
        · exact .inr ⟨k,c,e,z.sameBut hs (cne y c e)⟩
    · obtain ⟨w',z⟩:=I.cell y c e
      exact ⟨w',z.sameBut hs (cne y c e)⟩
    · obtain ⟨e,n,ne,nf,d⟩:=I.pin p hp
      exact ⟨(hs.2 p.1 ne).trans e,n,ne,nf,d⟩
  · have hfn:X.fn x = true:=by
      rcases hf with z | z
      · exact z
      · rw [z] at hk; cases hk
    obtain ⟨c,hc⟩:=I.ok.has x (.inl hk)
    obtain ⟨w',z⟩:=I.cell x c hc
    refine wpAny_storeName_cell I.ok.kind hk hc z (fun h' hc' hs=>?_)
    obtain ⟨oc,hoc,hocd⟩:=id z
    refine h { s with heap:=h' } ⟨I.ok,I.os,I.bare,⟨fun b o e n hb hx=>?_,fun b o e n hb hx=>?_,I.base.free,fun b o e hx=>?_,I.base.tups,I.base.frzs,I.base.tbls⟩,⟨m,hn.sameBut hs (Ne.symm (cne x c hc)),fun j y v' e1 e2 e3=>?_⟩,fun y c' e=>?_,I.free,I.freeC,fun p hp=>?_,tracked ⟨oc,hoc,I.freeC x c hc⟩ hs,by simpa using I.len⟩ ⟨c,hs,.inr hc⟩
    · exact (hs.2 b (Nat.ne_of_lt (Nat.lt_of_lt_of_le (Heap.lt_size e) (I.ok.cab x c hfn hc)))).trans (I.base.keep b o e n hb hx)
    · obtain ⟨sl,e1⟩:=I.base.slot b o e n hb hx
      exact ⟨sl,(hs.2 b (Nat.ne_of_lt (Nat.lt_of_lt_of_le (Heap.lt_size e) (I.ok.cab x c hfn hc)))).trans e1⟩
    · obtain ⟨o',e1⟩:=I.base.there b o e hx
      exact ⟨o',(hs.2 b (Nat.ne_of_lt (Nat.lt_of_lt_of_le (Heap.lt_size e) (I.ok.cab x c hfn hc)))).trans e1⟩
    · by_cases hj:j = i
      · subst hj
        rw [hi] at e1; cases e1
        rw [List.getElem?_set_self hiσ] at e2
        cases e2
        exact ⟨u,r,.inr ⟨.inl hk,c,hc,hc'⟩⟩
      · rw [List.getElem?_set_ne (Ne.symm hj)] at e2
        obtain ⟨u',r',q⟩:=hl j y v' e1 e2 e3
        refine ⟨u',r',?_⟩
        rcases q with q | ⟨k,c',e,z'⟩
        · exact .inl q
        · refine .inr ⟨k,c',e,z'.sameBut hs ?_⟩
          rintro rfl
          exact hj (nodup_ix hN e1 (I.ok.inj _ _ _ e hc ▸ hi))
    · by_cases hcc:c' = c
      · subst hcc; exact ⟨_,hc'⟩
      · obtain ⟨w2,z2⟩:=I.cell y c' e
        exact ⟨w2,z2.sameBut hs hcc⟩
    · obtain ⟨e,n,ne,nf,d⟩:=I.pin p hp
      refine ⟨(hs.2 p.1 ?_).trans e,n,ne,nf,d⟩
      intro q
      rw [q,hoc] at e
      have q':oc = p.2:=Option.some.inj e
      exact d w' (by rw [← q']; exact hocd)
theorem store_ok {M:Model} {A:Around} {E:Value→Shared→Prop} {i:Nat} {x:Str} {v:V} {u:Value} {Q:Unit→Shared→Prop} (I:Inv X pins σ H s) (hN:X.N.Nodup) (hi:X.N[i]? = some x) (hx:Loc X.env.scope x) (r:RelV v u)
    (h:∀ s',Inv X pins (σ.set i (some v)) H s'→Q () s') (hf:X.fn x = true∨X.env.scope.names.lookup x = some .local:=by first | exact .inl rfl | exact .inr rfl | assumption):wpAny M A (storeName X.env x u) Q E s :=
  store_ok2 I hN hi hx r (fun s' I' _=>h s' I') hf
theorem Inv.call' {s':Shared} {ch:List Addr} (I:Inv X pins σ H s) (ho:s'.os = s.os) (u:Un (frs X.stack) ch H H' s.heap s'.heap) (hok:HOk X.prog X.w H' s'.heap) (hg:AllBare s'.gens)
    (hch:∀ b∈ch,(b∈X.ex∨X.s₀.heap.objs.size≤b)∧b≠X.env.locals∧(∀ x c,X.env.cells.lookup x = some c→c≠b)∧∀ p∈X.pn ++ pins,p.1≠b):Inv X pins σ H' s':=by
  obtain ⟨h',g',d',t',o'⟩:=s'
  have e:o' = s.os:=ho
  subst e
  exact I.call (g':=g') (t':=t') (d':=d') u hok hg hch
end
abbrev XK:=Value→Option Addr→Hp→Prop
abbrev St:=List (Option V)
abbrev VK:=V→Hp→Prop
abbrev TE:=St→Hp→VK→Prop
abbrev TT:=St→Hp→(Bool→Hp→Prop)→Prop
abbrev TA:=St→Hp→(List V→Hp→Prop)→Prop
structure Ends where
  nx:St→Hp→Prop
  rt:VK
  bk:St→Hp→Prop:=fun _ _=>False
  ct:St→Hp→Prop:=fun _ _=>False
abbrev TS:=Ends→St→Hp→Prop
def EP (X:Cx) (pins:List (Addr×Obj)) (σ:St) (Q:VK) (u:Value) (s':Shared):Prop:=∃ v H',Inv X pins σ H' s'∧RelV v u∧Q v H'
def TP (X:Cx) (pins:List (Addr×Obj)) (σ:St) (Q:Bool→Hp→Prop) (b:Bool) (s':Shared):Prop:=∃ H',Inv X pins σ H' s'∧Q b H'
def AP (X:Cx) (pins:List (Addr×Obj)) (σ:St) (Q:List V→Hp→Prop) (us:List Value) (s':Shared):Prop:=∃ vs H',Inv X pins σ H' s'∧Vals vs us∧Q vs H'
def SP (X:Cx) (pins:List (Addr×Obj)) (D:Ends) (f:Flow) (s':Shared):Prop :=
  match f with
  | .next=>∃ σ' H',Inv X pins σ' H' s'∧D.nx σ' H'
  | .brk=>∃ σ' H',Inv X pins σ' H' s'∧D.bk σ' H'
  | .cont=>∃ σ' H',Inv X pins σ' H' s'∧D.ct σ' H'
  | .ret u=>∃ v σ' H',Inv X pins σ' H' s'∧RelV v u∧D.rt v H'
def PE (X:Cx) (e:Expr) (t:TE):Prop :=
  ∀ (pins:List (Addr×Obj)) (s:Shared) (σ:St) (H:Hp) (Q:VK),Inv X pins σ H s→t σ H Q→wpAny (model X.prog X.w) X.A (eval e X.env) (EP X pins σ Q) X.xe s
def PT (X:Cx) (e:Expr) (t:TT):Prop :=
  ∀ (pins:List (Addr×Obj)) (s:Shared) (σ:St) (H:Hp) (Q:Bool→Hp→Prop),Inv X pins σ H s→t σ H Q→wpAny (model X.prog X.w) X.A (isTrue e X.env (eval e X.env)) (TP X pins σ Q) X.xe s
def PW (X:Cx) (e:Expr) (t:TT):Prop :=
  ∀ (whole:Sem Value) (pins:List (Addr×Obj)) (s:Shared) (σ:St) (H:Hp) (Q:Bool→Hp→Prop),Inv X pins σ H s→t σ H Q→wpAny (model X.prog X.w) X.A (isTrue e X.env whole) (TP X pins σ Q) X.xe s
theorem PW.pt {X:Cx} {e:Expr} {t:TT} (h:PW X e t):PT X e t:=h _
def PA (X:Cx) (es:List Expr) (t:TA):Prop :=
  ∀ (pos:Pos) (pins:List (Addr×Obj)) (s:Shared) (σ:St) (H:Hp) (Q:List V→Hp→Prop),Inv X pins σ H s→t σ H Q→wpAny (model X.prog X.w) X.A (spliced (backTo pos (starEach es X.env))) (AP X pins σ Q) X.xe s
def PS (X:Cx) (st:Stmt) (t:TS):Prop :=
  ∀ (pins:List (Addr×Obj)) (s:Shared) (σ:St) (H:Hp) (D:Ends),Inv X pins σ H s→t D σ H→wpAny (model X.prog X.w) X.A (exec st X.env) (SP X pins D) X.xe s
def PSs (X:Cx) (st:List Stmt) (t:TS):Prop :=
  ∀ (pins:List (Addr×Obj)) (s:Shared) (σ:St) (H:Hp) (D:Ends),Inv X pins σ H s→t D σ H→wpAny (model X.prog X.w) X.A (execs st X.env) (SP X pins D) X.xe s
theorem thn {α:Type} {t:Sem α} {Q Q':α→Shared→Prop} {M:Model} {A:Around} {E:Value→Shared→Prop} {s:Shared} (h:wpAny M A t Q E s) (hQ:∀ a s,Q a s→Q' a s):wpAny M A t Q' E s:=wpAny_mono h hQ fun _ _ x=>x
end L2
namespace L2
open PySem PySem.Spec PyProof.Rows
section
variable {X:Cx}
def tVar (i:Nat):TE:=fun σ H Q=>∃ v,σ[i]? = some (some v)∧Q v H
def tC (v:V):TE:=fun _ H Q=>Q v H
theorem pe_var {i:Nat} {x:Str} {pos:Pos} (hN:X.N[i]? = some x) (hv:Vis X.env.scope x) (hd:(x == ("__debug__" : Str)) = false:=by decide) (hcd:(x == ("__classdict__" : Str)) = false:=by decide):PE X (.Name x pos) (tVar i):=by
  intro pins s σ H Q I h
  obtain ⟨v,e,h⟩:=h
  obtain ⟨m,hn,hl⟩:=I.loc
  obtain ⟨u,r,l⟩:=hl i x v hN e hv
  have fin:EP X pins σ Q u s:=⟨v,H,I,r,h⟩
  rcases l with ⟨hk,hm⟩ | ⟨hk,c,hc,hcell⟩
  · exact wpAny_Name (wpAny_loadName_local I.ok.kind hk hn hm fin) hd
  · rcases hk with hk | hk
    · exact wpAny_Name (wpAny_loadName_cell I.ok.kind hk hc hcell fin) hd
    · exact wpAny_Name (wpAny_loadName_free I.ok.kind hk hc hcell fin hcd) hd
theorem pe_int {i j pos}:PE X (.Constant (.int i) j pos) (tC (.int i)):=fun _ _ _ H _ I h=>wpAny_Constant_int ⟨.int i,H,I.tok _,⟨_,rfl⟩,h⟩
theorem pe_bl {b j pos}:PE X (.Constant (.bool b) j pos) (tC (.bl b)):=fun _ _ _ H _ I h=>Constant_bool ⟨.bl b,H,I,rfl,h⟩
theorem pe_non {j pos}:PE X (.Constant .none j pos) (tC .non):=fun _ _ _ H _ I h=>Constant_none ⟨.non,H,I,rfl,h⟩
theorem pe_str {x j pos}:PE X (.Constant (.str x) j pos) (tC (.str x)):=fun _ _ _ H _ I h=>Calls.Constant_str ⟨.str x,H,I.tok _,⟨_,rfl⟩,h⟩
def Gl (X:Cx) (x:Str):Prop:=X.env.kindOf x = some .globalImplicit
theorem ld_glob {E:Value→Shared→Prop} {pins:List (Addr×Obj)} {s:Shared} {σ:St} {H:Hp} {x:Str} {u:Value} {pos:Pos} {Q:Value→Shared→Prop} (I:Inv X pins σ H s) (hg:Gl X x) (hm:X.mg x = some u) (h:Q u s)
    (hd:(x == ("__debug__" : Str)) = false:=by decide):wpAny (model X.prog X.w) X.A (eval (.Name x pos) X.env) Q E s :=
  Calls.Name_function_global I.ok.kind hg (Calls.loadGlobal_global (by rw [I.ok.glob]; exact I.mod.glob.keeps I.bk) hm h) hd
theorem ld_blt {E:Value→Shared→Prop} {pins:List (Addr×Obj)} {s:Shared} {σ:St} {H:Hp} {x:Str} {u:Value} {pos:Pos} {Q:Value→Shared→Prop} (I:Inv X pins σ H s) (hg:Gl X x) (hm:X.mg x = none) (hv:bootBuiltins x = some u) (h:Q u s)
    (hn:x ≠ "__name__" := by decide) (hd:(x == ("__debug__" : Str)) = false:=by decide):wpAny (model X.prog X.w) X.A (eval (.Name x pos) X.env) Q E s:=by
  obtain ⟨mb,h1,h2⟩:=I.mod.blt
  exact Calls.Name_function_global I.ok.kind hg (Calls.loadGlobal_builtin (by rw [I.ok.glob]; exact I.mod.glob.keeps I.bk) hm (by rw [I.ok.blt]; exact h1.keeps I.bk) ((h2 x hn).trans hv) h) hd
theorem pe_glob {x:Str} {v:V} {u:Value} {pos:Pos} (hg:Gl X x) (hm:X.mg x = some u) (r:RelV v u) (hd:(x == ("__debug__" : Str)) = false:=by decide):PE X (.Name x pos) (tC v) :=
  fun _ _ _ H _ I h=>ld_glob I hg hm ⟨v,H,I,r,h⟩ hd
theorem pe_bltn {x:Str} {v:V} {u:Value} {pos:Pos} (hg:Gl X x) (hm:X.mg x = none) (hv:bootBuiltins x = some u) (r:RelV v u) (hn:x ≠ "__name__" := by decide) (hd:(x == ("__debug__" : Str)) = false:=by decide):PE X (.Name x pos) (tC v) :=
  fun _ _ _ H _ I h=>ld_blt I hg hm hv ⟨v,H,I,r,h⟩ hn hd
variable {a b:Expr} {ta tb:TE} {pos:Pos}
def PC (X:Cx) (op:CmpOp) (a b:Expr) (t:TE):Prop :=
  ∀ (pins:List (Addr×Obj)) (s:Shared) (σ:St) (H:Hp) (Q:VK),Inv X pins σ H s→t σ H Q →
    wpAny (model X.prog X.w) X.A (eval a X.env) (fun v s₁=>wpAny (model X.prog X.w) X.A (eval b X.env) (fun u s₂=>wpAny (model X.prog X.w) X.A (compareOp op v u) (EP X pins σ Q) X.xe s₂) X.xe s₁) X.xe s
theorem nobehind (b:Expr) {op:CmpOp} (h:op≠.In) (h2:op≠.NotIn):behindInMarks op b = false:=by
  have e1:(op == CmpOp.In) = false:=by cases op <;> first | rfl | exact absurd rfl h
  have e2:(op == CmpOp.NotIn) = false:=by cases op <;> first | rfl | exact absurd rfl h2
  cases b <;> simp [behindInMarks,e1,e2]
def tIsN (ta:TE):TE:=fun σ H Q=>ta σ H fun x H1=>Q (.bl (decide (x = .non))) H1
def tNotN (ta:TE):TE:=fun σ H Q=>ta σ H fun x H1=>Q (.bl (!decide (x = .non))) H1
theorem RelV.none_iff {x:V} {v:Value} (r:RelV x v):(v == Value.none) = decide (x = .non):=by
  cases x with
  | non=>cases r; rfl
  | bl _=>cases r; rfl
  | int _=>obtain ⟨t,rfl⟩:=r; rfl
  | str _=>obtain ⟨t,rfl⟩:=r; rfl
  | byt _=>obtain ⟨t,rfl⟩:=r; rfl
  | flt _=>obtain ⟨t,rfl⟩:=r; rfl
  | ref _=>cases r; rfl
  | ty _=>cases r; rfl
theorem pc_isN {j pos'} (ha:PE X a ta):PC X .Is a (.Constant .none j pos') (tIsN ta):=by
  intro pins s σ H Q I h
  refine thn (ha pins s σ H _ I h) fun v s1 ⟨x,H1,I1,r1,q1⟩=>?_
  exact Constant_none (is_none_gen ⟨.bl _,H1,I1,by rw [r1.none_iff]; rfl,q1⟩)
theorem pc_notN {j pos'} (ha:PE X a ta):PC X .IsNot a (.Constant .none j pos') (tNotN ta):=by
  intro pins s σ H Q I h
  refine thn (ha pins s σ H _ I h) fun v s1 ⟨x,H1,I1,r1,q1⟩=>?_
  exact Constant_none (isnot_none_gen ⟨.bl _,H1,I1,by rw [r1.none_iff]; rfl,q1⟩)
def tB (t:TE):TT:=fun σ H Q=>t σ H fun x H1=>∃ c,x = .bl c∧Q c H1
theorem pe_cmp {op:CmpOp} {t:TE} (h:PC X op a b t) (h1:behindInMarks op b = false:=by first | exact nobehind _ (by decide) (by decide) | rfl):PE X (.Compare a [op] [b] pos) t:=fun pins s σ H Q I hw=>wpAny_Compare1 (h pins s σ H Q I hw) h1
theorem pt_cmp {op:CmpOp} {t:TE} (h:PC X op a b t) (h1:behindInMarks op b = false:=by first | exact nobehind _ (by decide) (by decide) | rfl):PT X (.Compare a [op] [b] pos) (tB t):=by
  intro pins s σ H Q I hw
  refine wpAny_isTrue_Compare1 (thn (h pins s σ H _ I hw) fun v s1 h1=>thn h1 fun u s2 h2=>thn h2 fun c s3 ⟨x,H1,I1,r1,q1⟩=>?_) h1
  obtain ⟨d,rfl,q⟩:=q1
  cases r1
  exact wpAny_truthy_bool ⟨H1,I1,q⟩
theorem pt_val {e:Expr} {t:TE} (h:PE X e t) (he:∀ whole,isTrue e X.env whole = (do let v ← whole; standAt e.pos; holding [v] (truthy v)):=by intro _; rfl):PT X e (tB t):=by
  intro pins s σ H Q I hw
  refine isTrue_plain (thn (h pins s σ H _ I hw) fun v s1 ⟨x,H1,I1,r1,q1⟩=>?_) (he _)
  obtain ⟨d,rfl,q⟩:=q1
  cases r1
  exact wpAny_truthy_bool ⟨H1,I1,q⟩
variable {tA tB':TT} {rest:List Expr}
def tAnd (t u:TT):TT:=fun σ H Q=>t σ H fun c H1=>if c = true then u σ H1 Q else Q false H1
def tOr (t u:TT):TT:=fun σ H Q=>t σ H fun c H1=>if c = true then Q true H1 else u σ H1 Q
def tNot (t:TT):TT:=fun σ H Q=>t σ H fun c H1=>Q (!c) H1
theorem pw_and1 (ha:PT X a tA):PW X (.BoolOp .And [a] pos) tA:=by
  intro wh pins s σ H Q I h
  refine isTrue_and (thn (ha pins s σ H Q I h) fun c s1 e=>?_)
  cases c with
  | true=>exact isTrue_and_nil e
  | false=>exact e
theorem pw_or1 (ha:PT X a tA):PW X (.BoolOp .Or [a] pos) tA:=by
  intro wh pins s σ H Q I h
  refine isTrue_or (thn (ha pins s σ H Q I h) fun c s1 e=>?_)
  cases c with
  | false=>exact isTrue_or_nil e
  | true=>exact e
theorem pw_and (ha:PT X a tA) (hb:PW X (.BoolOp .And (b :: rest) pos) tB'):PW X (.BoolOp .And (a :: b :: rest) pos) (tAnd tA tB'):=by
  intro wh pins s σ H Q I h
  refine isTrue_and (thn (ha pins s σ H _ I h) fun c s1 ⟨H1,I1,q1⟩=>?_)
  cases c with
  | true=>exact hb wh pins s1 σ H1 Q I1 q1
  | false=>exact ⟨H1,I1,q1⟩
theorem pw_or (ha:PT X a tA) (hb:PW X (.BoolOp .Or (b :: rest) pos) tB'):PW X (.BoolOp .Or (a :: b :: rest) pos) (tOr tA tB'):=by
  intro wh pins s σ H Q I h
  refine isTrue_or (thn (ha pins s σ H _ I h) fun c s1 ⟨H1,I1,q1⟩=>?_)
  cases c with
  | true=>exact ⟨H1,I1,q1⟩
  | false=>exact hb wh pins s1 σ H1 Q I1 q1
theorem pt_not (ha:PT X a tA):PT X (.UnaryOp .Not a pos) (tNot tA):=by
  intro pins s σ H Q I h
  exact isTrue_not (ha pins s σ H (fun c H1=>Q (!c) H1) I h)
def tAndV (ta tb:TE):TE:=fun σ H Q=>ta σ H fun x H1=>∃ c,x = .bl c∧if c = true then tb σ H1 Q else Q (.bl false) H1
def tOrV (ta tb:TE):TE:=fun σ H Q=>ta σ H fun x H1=>∃ c,x = .bl c∧if c = true then Q (.bl true) H1 else tb σ H1 Q
def tNotV (ta:TE):TE:=fun σ H Q=>ta σ H fun x H1=>∃ c,x = .bl c∧Q (.bl (!c)) H1
theorem pe_one {op} {t:TE} (h:PE X a t):PE X (.BoolOp op [a] pos) t:=fun pins s σ H Q I hw=>BoolOp_one (h pins s σ H Q I hw)
theorem pe_and (ha:PE X a ta) (hb:PE X (.BoolOp .And (b :: rest) pos) tb):PE X (.BoolOp .And (a :: b :: rest) pos) (tAndV ta tb):=by
  intro pins s σ H Q I h
  refine BoolOp_and (thn (ha pins s σ H _ I h) fun v s1 ⟨x,H1,I1,r1,q1⟩=>?_)
  obtain ⟨c,rfl,q1⟩:=q1
  cases r1
  refine wpAny_truthy_bool ?_
  cases c with
  | true=>exact hb pins s1 σ H1 Q I1 q1
  | false=>exact ⟨.bl false,H1,I1,rfl,q1⟩
theorem pe_or (ha:PE X a ta) (hb:PE X (.BoolOp .Or (b :: rest) pos) tb):PE X (.BoolOp .Or (a :: b :: rest) pos) (tOrV ta tb):=by
  intro pins s σ H Q I h
  refine BoolOp_or (thn (ha pins s σ H _ I h) fun v s1 ⟨x,H1,I1,r1,q1⟩=>?_)
  obtain ⟨c,rfl,q1⟩:=q1
  cases r1
  refine wpAny_truthy_bool ?_
  cases c with
  | false=>exact hb pins s1 σ H1 Q I1 q1
  | true=>exact ⟨.bl true,H1,I1,rfl,q1⟩
theorem pe_not (ha:PE X a ta):PE X (.UnaryOp .Not a pos) (tNotV ta):=by
  intro pins s σ H Q I h
  refine UnaryOp_ (thn (ha pins s σ H _ I h) fun v s1 ⟨x,H1,I1,r1,q1⟩=>?_)
  obtain ⟨c,rfl,q1⟩:=q1
  cases r1
  exact not_of (wpAny_truthy_bool ⟨.bl (!c),H1,I1,rfl,q1⟩)
def tIf (t:TT) (ta tb:TE):TE:=fun σ H Q=>t σ H fun c H1=>if c = true then ta σ H1 Q else tb σ H1 Q
theorem pe_ifExp {c:Expr} (hc:PT X c tA) (ha:PE X a ta) (hb:PE X b tb):PE X (.IfExp c a b pos) (tIf tA ta tb):=by
  intro pins s σ H Q I h
  refine wpAny_IfExp (thn (hc pins s σ H _ I h) fun d s1 ⟨H1,I1,q1⟩=>?_)
  cases d with
  | true=>exact ha pins s1 σ H1 Q I1 q1
  | false=>exact hb pins s1 σ H1 Q I1 q1
end
end L2
namespace L2
open PySem PySem.Spec PyProof.Rows
def SqL (K:PySem.W.Frag) (H:Hp) (a:Addr) (xs:List V):Prop :=
  Rd H a (.lst xs) ∨
    ∃ (o:Obj) (its:Array Value) (n:Nat),K.lookup a = some o∧o.cls = .type "list" ∧ o.dict = none∧o.data = .seq its n∧its.size≤sizeLine∧Vals xs its.toList
def SqT (K:PySem.W.Frag) (H:Hp) (a:Addr) (xs:List V):Prop :=
  Rd H a (.tup xs) ∨
    ∃ (o:Obj) (its:Array Value) (n:Nat),K.lookup a = some o∧o.cls = .type "tuple" ∧ o.data = .seq its n∧its.size≤sizeLine∧Vals xs its.toList
def absV:Value→Option V
  | .none=>some .non
  | .bool b=>some (.bl b)
  | .int i _=>some (.int i)
  | .str x _=>some (.str x)
  | .bytes b _=>some (.byt b)
  | .float b _=>some (.flt b)
  | .ref a=>some (.ref a)
  | .type n=>some (.ty n)
  | _=>none
theorem RelV.abs {x:V} {u:Value} (r:RelV x u):absV u = some x:=by
  cases x with
  | non=>cases r; rfl
  | bl _=>cases r; rfl
  | int _=>obtain ⟨t,rfl⟩:=r; rfl
  | str _=>obtain ⟨t,rfl⟩:=r; rfl
  | byt _=>obtain ⟨t,rfl⟩:=r; rfl
  | flt _=>obtain ⟨t,rfl⟩:=r; rfl
  | ref _=>cases r; rfl
  | ty _=>cases r; rfl
theorem RelV.inj {x y:V} {u:Value} (r:RelV x u) (q:RelV y u):x = y:=Option.some.inj (r.abs.symm.trans q.abs)
theorem Vals.inj:∀ {xs ys:List V} {us:List Value},Vals xs us→Vals ys us→xs = ys
  | _,_,_,.nil,.nil=>rfl
  | _,_,_,.cons r t,.cons r' t'=>by rw [r.inj r',Vals.inj t t']
section
variable {X:Cx} {pins:List (Addr×Obj)} {σ:St} {H:Hp} {s:Shared} {a:Addr} {xs ys:List V}
theorem SqL.of {K:PySem.W.Frag} (h:H a = some (.lst xs)):SqL K H a xs:=.inl (.inl h)
theorem SqT.of {K:PySem.W.Frag} (h:H a = some (.tup xs)):SqT K H a xs:=.inl (.inl h)
theorem Inv.list (I:Inv X pins σ H s) (h:SqL X.K H a xs):∃ its:List Value,Vals xs its∧PlainL s.heap a its.toArray∧xs.length≤sizeLine:=by
  rcases h with h | ⟨o,its,n,hk,hc,hd,hs,hz,r⟩
  · obtain ⟨z,its,n,r,e⟩:=h.ok I.hok
    exact ⟨its,r,⟨_,n,e,rfl,rfl,rfl⟩,z⟩
  · refine ⟨its.toList,r,⟨o,n,I.kIn a o hk,hc,hd,by simpa using hs⟩,?_⟩
    have e:=r.length
    simp only [Array.length_toList] at e
    omega
theorem Inv.tuple (I:Inv X pins σ H s) (h:SqT X.K H a xs):∃ its:List Value,Vals xs its∧IsTup s.heap a its.toArray∧xs.length≤sizeLine:=by
  rcases h with h | ⟨o,its,n,hk,hc,hs,hz,r⟩
  · obtain ⟨z,its,r,p⟩:=h.ok I.hok
    exact ⟨its,r,p,z⟩
  · refine ⟨its.toList,r,⟨o,I.kIn a o hk,hc,n,by simpa using hs⟩,?_⟩
    have e:=r.length
    simp only [Array.length_toList] at e
    omega
theorem Inv.list_inj (I:Inv X pins σ H s) (h:SqL X.K H a xs) (h':SqL X.K H a ys):xs = ys:=by
  obtain ⟨its,r,⟨o,n,e,_,_,d⟩,_⟩:=I.list h
  obtain ⟨its',r',⟨o',n',e',_,_,d'⟩,_⟩:=I.list h'
  rw [e] at e'; cases e'
  rw [d] at d'
  injection d' with d1 _
  have:its = its':=by simpa using congrArg Array.toList d1
  subst this
  exact r.inj r'
end
abbrev Cx.wish (X:Cx) (E:Value→Shared→Prop):Cx:={ X with xe:=E }
abbrev Cx.nox (X:Cx):Cx:=X.wish fun _ _=>False
theorem Cx.Ok.wish {X:Cx} (ok:X.Ok) (E:Value→Shared→Prop):(X.wish E).Ok :=
  ⟨ok.mod,ok.kind,ok.glob,ok.blt,ok.above,ok.inj,ok.has,ok.cab,ok.hd,ok.frames,ok.stk,ok.exf,ok.bs,ok.bsz,ok.noex,ok.exfs,ok.funs,ok.frf⟩
theorem Cx.Ok.unwish {X:Cx} {E:Value→Shared→Prop} (ok:(X.wish E).Ok):X.Ok :=
  ⟨ok.mod,ok.kind,ok.glob,ok.blt,ok.above,ok.inj,ok.has,ok.cab,ok.hd,ok.frames,ok.stk,ok.exf,ok.bs,ok.bsz,ok.noex,ok.exfs,ok.funs,ok.frf⟩
section
variable {X:Cx} {pins:List (Addr×Obj)} {σ:St} {H:Hp} {s:Shared} {E:Value→Shared→Prop}
theorem Inv.wish (I:Inv X pins σ H s) (E:Value→Shared→Prop):Inv (X.wish E) pins σ H s:=⟨I.ok.wish E,I.os,I.bare,I.base,I.loc,I.cell,I.free,I.freeC,I.pin,I.hok,I.len⟩
theorem Inv.unwish (I:Inv (X.wish E) pins σ H s):Inv X pins σ H s:=⟨I.ok.unwish,I.os,I.bare,I.base,I.loc,I.cell,I.free,I.freeC,I.pin,I.hok,I.len⟩
theorem SP.unwish {D:Ends} {f:Flow} {s':Shared} (h:SP (X.wish E) pins D f s'):SP X pins D f s':=by
  cases f with
  | next=>obtain ⟨σ',H',I,q⟩:=h; exact ⟨σ',H',I.unwish,q⟩
  | brk=>obtain ⟨σ',H',I,q⟩:=h; exact ⟨σ',H',I.unwish,q⟩
  | cont=>obtain ⟨σ',H',I,q⟩:=h; exact ⟨σ',H',I.unwish,q⟩
  | ret u=>obtain ⟨v,σ',H',I,r,q⟩:=h; exact ⟨v,σ',H',I.unwish,r,q⟩
theorem PSs.nox {st:List Stmt} {t:TS} (h:PSs X.nox st t):PSs X st t:=fun pins s σ H D I hw =>
  wpAny_mono (h pins s σ H D (I.wish _) hw) (fun _ _ q=>q.unwish) fun _ _ z=>False.elim z
end
section
variable {X:Cx} {st:Stmt} {rest:List Stmt} {t u:TS} {e:Expr} {te:TE} {pos:Pos}
def tNext:TS:=fun D σ H=>D.nx σ H
def tSeq (t u:TS):TS:=fun D σ H=>t { D with nx:=u D } σ H
theorem pss_nil:PSs X [] tNext:=fun _ _ σ H _ I h=>wpAny_execs_nil ⟨σ,H,I,h⟩
theorem pss_cons (h1:PS X st t) (h2:PSs X rest u):PSs X (st :: rest) (tSeq t u):=by
  intro pins s σ H D I h
  refine wpAny_execs_cons (thn (h1 pins s σ H { D with nx:=u D } I h) fun f s1 q=>?_)
  cases f with
  | next =>
    obtain ⟨σ',H',I',q⟩:=q
    exact h2 pins s1 σ' H' D I' q
  | ret v=>exact q
  | brk=>exact q
  | cont=>exact q
theorem pss_one (h1:PS X st t):PSs X [st] t:=by
  intro pins s σ H D I h
  refine wpAny_execs_cons (thn (h1 pins s σ H D I h) fun f s1 q=>?_)
  cases f with
  | next=>exact wpAny_execs_nil q
  | ret v=>exact q
  | brk=>exact q
  | cont=>exact q
def tCont:TS:=fun D σ H=>D.ct σ H
theorem ps_continue:PS X (.Continue pos) tCont:=fun _ _ σ H _ I h=>wpAny_Continue ⟨σ,H,I,h⟩
theorem Inv.quiet {pins:List (Addr×Obj)} {σ:St} {H:Hp} {s:Shared} (I:Inv X pins σ H s):interactive X.env = false:=by simp [interactive,I.ok.kind]
def tDrop (te:TE):TS:=fun D σ H=>te σ H fun _ H1=>D.nx σ H1
theorem ps_expr (he:PE X e te) (hs:swapsWith e none pos.line X.env = pure false:=by rfl):PS X (.Expr e pos) (tDrop te):=by
  intro pins s σ H D I h
  exact wpAny_Expr_any (thn (he pins s σ H _ I h) fun v s1 ⟨x,H1,I1,r1,q1⟩=>⟨σ,H1,I1,q1⟩) I.quiet hs
def tRet (te:TE):TS:=fun D σ H=>te σ H D.rt
theorem ps_ret (he:PE X e te):PS X (.Return (some e) pos) (tRet te):=by
  intro pins s σ H D I h
  exact wpAny_Return_some (thn (he pins s σ H _ I h) fun v s1 ⟨x,H1,I1,r1,q1⟩=>⟨x,σ,H1,I1,r1,q1⟩)
def tIfS (c:TT) (t u:TS):TS:=fun D σ H=>c σ H fun b H1=>if b = true then t D σ H1 else u D σ H1
theorem ps_if {c:Expr} {a b:List Stmt} {tc:TT} (hc:PT X c tc) (ha:PSs X a t) (hb:PSs X b u):PS X (.If c a b pos) (tIfS tc t u):=by
  intro pins s σ H D I h
  refine wpAny_If (thn (hc pins s σ H _ I h) fun d s1 ⟨H1,I1,q1⟩=>?_)
  cases d with
  | true=>exact ha pins s1 σ H1 D I1 q1
  | false=>exact hb pins s1 σ H1 D I1 q1
def tNever:TS:=fun _ _ _=>False
theorem ps_never:PS X st tNever:=fun _ _ _ _ _ _ h=>h.elim
end
abbrev TG:=V→St→Hp→(St→Hp→Prop)→Prop
abbrev TGs:=List V→St→Hp→(St→Hp→Prop)→Prop
def PG (X:Cx) (target:Expr) (t:TG):Prop :=
  ∀ (pins:List (Addr×Obj)) (s:Shared) (σ:St) (H:Hp) (v:V) (u:Value) (Q:St→Hp→Prop),Inv X pins σ H s→RelV v u→t v σ H Q →
    wpAny (model X.prog X.w) X.A (assign target X.env u) (fun _ s'=>∃ σ' H',Inv X pins σ' H' s'∧Q σ' H') X.xe s
def PGs (X:Cx) (ts:List Expr) (t:TGs):Prop :=
  ∀ (pins:List (Addr×Obj)) (s:Shared) (σ:St) (H:Hp) (vs:List V) (us:List Value) (Q:St→Hp→Prop),Inv X pins σ H s→Vals vs us→t vs σ H Q →
    wpAny (model X.prog X.w) X.A (assignInOrder ((assignEach ts X.env).map (·.2)) us) (fun _ s'=>∃ σ' H',Inv X pins σ' H' s'∧Q σ' H') X.xe s
section
variable {X:Cx} {pos:Pos}
def gName (i:Nat):TG:=fun v σ H Q=>Q (σ.set i (some v)) H
theorem pg_name {i:Nat} {x:Str} (hN:X.N.Nodup) (hi:X.N[i]? = some x) (hx:Loc X.env.scope x) (hf:X.fn x = true∨X.env.scope.names.lookup x = some .local:=by first | exact .inl rfl | exact .inr rfl | assumption):PG X (.Name x pos) (gName i):=by
  intro pins s σ H v u Q I r h
  exact wpAny_assign_Name (store_ok I hN hi hx r (fun s' I'=>⟨_,H,I',h⟩) hf)
def gNil:TGs:=fun vs σ H Q=>vs = []∧Q σ H
def gCons (t:TG) (u:TGs):TGs:=fun vs σ H Q=>∃ v r,vs = v :: r∧t v σ H fun σ' H'=>u r σ' H' Q
theorem pgs_nil:PGs X [] gNil:=by
  intro pins s σ H vs us Q I r h
  obtain ⟨e,h⟩:=h
  subst e
  cases r
  exact assignInOrder_nil ⟨σ,H,I,h⟩
theorem pgs_cons {e:Expr} {es:List Expr} {t:TG} {u:TGs} (h1:PG X e t) (h2:PGs X es u)
    (hs:(assignEach (e :: es) X.env).map (·.2) = assign e X.env :: (assignEach es X.env).map (·.2):=by rfl):PGs X (e :: es) (gCons t u):=by
  intro pins s σ H vs us Q I r h
  obtain ⟨v,vr,e1,h⟩:=h
  subst e1
  cases r with
  | cons r rr =>
    rw [hs]
    refine assignInOrder_cons (thn (h1 pins s σ H _ _ _ I r h) fun _ s1 ⟨σ1,H1,I1,q1⟩=>?_)
    exact h2 pins s1 σ1 H1 _ _ Q I1 rr q1
def gTup (K:PySem.W.Frag) (n:Nat) (t:TGs):TG:=fun v σ H Q=>∃ a xs,v = .ref a∧SqT K H a xs∧xs.length = n∧t xs σ H Q
theorem pg_tup {es:List Expr} {k:Nat} {t:TGs} {n:Nat} (hc:X.calm = true) (h:PGs X es t)
    (hn:(assignEach es X.env).length = n:=by rfl) (hst:(assignEach es X.env).findIdx? (·.1) = none:=by rfl):PG X (.Tuple es k pos) (gTup X.K n t):=by
  intro pins s σ H v u Q I r hw
  obtain ⟨a,xs,e1,hq,hl,hw⟩:=hw
  subst e1
  cases r
  obtain ⟨its,rv,ht,hz⟩:=I.tuple hq
  refine assign_Tuple_tuple (I.ok.hd hc) ht (by simp [hn,← hl,rv.length]) hst fun h' hx=>?_
  have I1:Inv X pins σ H { s with heap:=h' }:=I.kept (t':=s.toks) fun b o e=>hx b o (Nat.ne_of_lt (Heap.lt_size e)) e
  exact h pins _ σ H xs _ Q I1 (by simpa using rv) hw
def tAsg (te:TE) (g:TG):TS:=fun D σ H=>te σ H fun x H1=>g x σ H1 D.nx
theorem ps_asg {tg e:Expr} {te:TE} {g:TG} (he:PE X e te) (hg:PG X tg g) (hs:swapsWithSole [tg] e pos.line X.env = pure false:=by rfl) (hw:swappedStores [tg] e X.env = pure none:=by rfl)
    (h1:(assignEach [tg] X.env).map (·.2) = [assign tg X.env]:=by rfl):PS X (.Assign [tg] e pos) (tAsg te g):=by
  intro pins s σ H D I h
  refine wpAny_Assign_stores (thn (he pins s σ H _ I h) fun v s1 ⟨x,H1,I1,r1,q1⟩=>?_) hs hw
  rw [h1]
  exact thn (hg pins s1 σ H1 x v _ I1 r1 q1) fun _ s2 q=>q
theorem ps_set {i:Nat} {x:Str} {e:Expr} {te:TE} {pos':Pos} (hN:X.N.Nodup) (hi:X.N[i]? = some x) (hx:Loc X.env.scope x) (he:PE X e te) (hs:swapsWith e (some (.Name x pos')) pos.line X.env = pure false:=by rfl) (hf:X.fn x = true∨X.env.scope.names.lookup x = some .local:=by first | exact .inl rfl | exact .inr rfl | assumption) :
    PS X (.Assign [.Name x pos'] e pos) (tAsg te (gName i)):=by
  intro pins s σ H D I h
  refine wpAny_Assign_Name (thn (he pins s σ H _ I h) fun v s1 ⟨y,H1,I1,r1,q1⟩=>?_) hs
  exact store_ok I1 hN hi hx r1 (fun s2 I2=>⟨_,H1,I2,q1⟩) hf
end
section
variable {X:Cx} {pos:Pos}
end
structure It where
  go:Nat→Hp→Prop
  yld:Nat→Hp→V→Hp→Prop
  stop:Nat→Hp→Prop
def FpOk (X:Cx) (pins:List (Addr×Obj)) (H:Hp) (b:Addr):Prop :=
  H b = none∧b≠X.env.locals∧b∉X.fs∧(b∈X.ex∨X.s₀.heap.objs.size≤b)∧(∀ x c,X.env.cells.lookup x = some c→c≠b)∧∀ p∈X.pn ++ pins,p.1≠b
theorem Inv.fpOk {X:Cx} {pins:List (Addr×Obj)} {σ:St} {H H':Hp} {s:Shared} {b:Addr} (I:Inv X pins σ H s) (hb:s.heap.objs.size≤b) (hn:H' b = none):FpOk X pins H' b:=by
  refine ⟨hn,Nat.ne_of_gt (Nat.lt_of_lt_of_le I.lt hb),I.nofs hb,.inr (Nat.le_trans I.sz hb),fun x c e z=>?_,fun p hp z=>?_⟩
  · obtain ⟨v,q⟩:=I.cell x c e
    exact absurd (Nat.lt_of_lt_of_le q.lt (by rw [z]; exact hb)) (Nat.lt_irrefl _)
  · exact absurd (Nat.lt_of_lt_of_le (Heap.lt_size (I.pin p hp).1) (by rw [z]; exact hb)) (Nat.lt_irrefl _)
structure Turn (P:Program) (w:World) (K:PySem.W.Frag) (tg:Expr) (J:It) (fp:List Addr) (it:Addr) (tn:Nat→Heap→Prop):Prop where
  mem:it∈fp
  obj:∀ i h,tn i h→∀ b∈fp,∃ o,h.get? b = some o∧∀ v,o.data≠.cell v
  keep:∀ i h h',tn i h→(∀ b∈fp,∀ o,h.get? b = some o→h'.get? b = some o)→tn i h'
  item:∀ (X:Cx),X.prog = P→X.w = w→X.K = K→X.calm = true→∀ (i:Nat) (pins:List (Addr×Obj)) (s:Shared) (σ:St) (H:Hp) (E:Value→Shared→Prop),Inv X pins σ H s→(∀ b∈fp,FpOk X pins H b)→tn i s.heap→J.go i H →
    wpAny (model P w) X.A (pyNext (.ref it)) (fun r s1=>∃ u,r = some u ∧
      wpAny (model P w) X.A (letOwnedTupleGo tg (.ref it) u) (fun _ s2=>∃ x H',Inv X pins σ H' s2∧RelV x u∧J.yld i H x H'∧tn (i + 1) s2.heap∧∀ b∈fp,H' b = none) E s1) E s
  done:∀ (X:Cx),X.prog = P→X.w = w→X.K = K→X.calm = true→∀ (i:Nat) (pins:List (Addr×Obj)) (s:Shared) (σ:St) (H:Hp) (E:Value→Shared→Prop),Inv X pins σ H s→(∀ b∈fp,FpOk X pins H b)→tn i s.heap→J.stop i H →
    wpAny (model P w) X.A (pyNext (.ref it)) (fun r s1=>r = none∧Inv X pins σ H s1) E s
  self:∀ (A:Around) (i:Nat) (s:Shared) (Q:Value→Shared→Prop) (E:Value→Shared→Prop),tn i s.heap→Q (.ref it) s→wpAny (model P w) A (pyIter (.ref it)) Q E s
abbrev TI:=St→Hp→(It→Hp→Prop)→Prop
def PIE (X:Cx) (pins:List (Addr×Obj)) (σ:St) (tg:Expr) (R:It→Hp→Prop) (itv:Value) (s2:Shared):Prop :=
  ∃ (it:Addr) (fp:List Addr) (tn:Nat→Heap→Prop) (J:It) (H':Hp),itv = .ref it∧Inv X pins σ H' s2∧Turn X.prog X.w X.K tg J fp it tn∧tn 0 s2.heap∧(∀ b∈fp,FpOk X pins H' b)∧R J H'
def PI (X:Cx) (tg iter:Expr) (wi:TI):Prop :=
  ∀ (pins:List (Addr×Obj)) (s:Shared) (σ:St) (H:Hp) (R:It→Hp→Prop),Inv X pins σ H s→wi σ H R →
    wpAny (model X.prog X.w) X.A (eval iter X.env) (fun v s1=>wpAny (model X.prog X.w) X.A (pyIter v) (PIE X pins σ tg R) X.xe s1) X.xe s
theorem go_of {M:Model} {A:Around} {E:Value→Shared→Prop} {s:Shared} {tg:Expr} {it:Addr} {u:Value} {o:Obj} {n:String} {vs:Array Value} {Q:Unit→Shared→Prop} (ho:s.heap.get? it = some o) (hc:o.cls = .type n) (hd:o.data = .fields vs)
    (hn:["enumerate","zip","dict_itemiterator","dict_reverseitemiterator","odict_iterator","itertools.zip_longest","itertools.pairwise"].contains n = false) (hQ:Q () s):wpAny M A (letOwnedTupleGo tg (.ref it) u) Q E s:=by
  unfold letOwnedTupleGo
  cases tg <;> first
    | exact wpAny_pure hQ
    | (cases u <;> first
        | exact wpAny_pure hQ
        | (refine wpAny_bind (wpAny_load ho ?_)
           rw [hc,hd]
           show wpAny M A (if (["enumerate","zip","dict_itemiterator","dict_reverseitemiterator","odict_iterator","itertools.zip_longest","itertools.pairwise"].contains n && vs[0]? == some (rawInt _)) = true then _ else _) Q E s
           rw [if_neg (by intro h; rw [hn,Bool.false_and] at h; cases h)]
           exact wpAny_pure hQ))
def Itl (K:PySem.W.Frag) (a:Addr):It :=
  ⟨fun i H=>∃ xs x,SqL K H a xs∧xs[i]? = some x,fun i H x H'=>H' = H∧∀ xs,SqL K H a xs→xs[i]? = some x,fun i H=>∃ xs,SqL K H a xs∧xs.length≤i⟩
def Itr (lo:Int) (n:Nat):It:=⟨fun i _=>i < n,fun i H x H'=>H' = H∧x = .int (lo + i),fun i _=>n≤i⟩
theorem turn_list {P:Program} {w:World} {K:PySem.W.Frag} {tg:Expr} (a it:Addr):Turn P w K tg (Itl K a) [it] it (fun i h=>h.IsListIter it a i) where
  mem:=by simp
  obj:=fun i h st b hb=>by
    have e:b = it:=by simpa using hb
    subst e
    obtain ⟨o,e,c,d⟩:=st
    exact ⟨o,e,fun v z=>by rw [d] at z; cases z⟩
  keep:=fun i h h' st k=>st.at fun o e=>k it (by simp) o e
  item:=by
    intro X hP hw hK hc i pins s σ H E I hf st hg
    subst hP hw hK
    obtain ⟨xs,x,hq,hx⟩:=hg
    obtain ⟨its,rv,p,hz⟩:=I.list hq
    obtain ⟨u,hu,ru⟩:=rv.get hx
    obtain ⟨f0,f1,f2,f3,f4,f5⟩:=hf it (by simp)
    refine wpAny_pyNext_list_item st p.isList (x:=u) (by simpa using hu) fun h' st' sb=>?_
    have I1:Inv X pins σ H { s with heap:=h' }:=I.turned (t':=s.toks) (fun b o hb e=>(sb.2 b hb).trans e) f0 f1 f3 f4 f5
    obtain ⟨o,e,c,d⟩:=id st'
    exact ⟨u,rfl,go_of (s:={ s with heap:=h' }) e c d (by decide) ⟨x,H,I1,ru,⟨rfl,fun ys hy=>by rw [I.list_inj hy hq]; exact hx⟩,st',fun b hb=>(hf b hb).1⟩⟩
  done:=by
    intro X hP hw hK hc i pins s σ H E I hf st hg
    subst hP hw hK
    obtain ⟨xs,hq,hx⟩:=hg
    obtain ⟨its,rv,p,hz⟩:=I.list hq
    obtain ⟨f0,f1,f2,f3,f4,f5⟩:=hf it (by simp)
    have hl:=rv.length
    exact wpAny_pyNext_list_end (I.ok.hd hc) st p.isList (by simp; omega) fun h' eb=>⟨rfl,I.turned (t':=s.toks) (fun b o hb e=>eb b o hb e) f0 f1 f3 f4 f5⟩
  self:=fun _ _ _ _ _ st h=>wpAny_pyIter_listiter st h
theorem turn_range {P:Program} {w:World} {K:PySem.W.Frag} {tg:Expr} (it:Addr) (lo:Int) (n:Nat):Turn P w K tg (Itr lo n) [it] it (fun i h=>IsRangeIter h it (lo + (i:Nat) * 1) ((n:Int) - (i:Nat)) 1) where
  mem:=by simp
  obj:=fun i h st b hb=>by
    have e:b = it:=by simpa using hb
    subst e
    exact ⟨_,st,fun v z=>by
      have z':Data.fields _ = Data.cell v:=z
      cases z'⟩
  keep:=fun i h h' st k=>k it (by simp) _ st
  item:=by
    intro X hP hw hK hc i pins s σ H E I hf st hg
    subst hP hw hK
    obtain ⟨f0,f1,f2,f3,f4,f5⟩:=hf it (by simp)
    have W:=Walks.range (prog:=X.prog) (w:=X.w) (I.ok.hd hc) it lo 1 n
    refine W.item i s _ _ hg st fun v h' tk hv st' kk=>?_
    obtain ⟨t,rfl⟩:=hv
    have I1:Inv X pins σ H { s with heap:=h',toks:=tk }:=I.turned (fun b o hb e=>kk b o (by simpa using hb) e) f0 f1 f3 f4 f5
    refine ⟨_,rfl,go_of (s:={ s with heap:=h',toks:=tk }) (n := "range_iterator") st' rfl rfl (by decide) ⟨.int (lo + i),H,I1,⟨t,?_⟩,⟨rfl,rfl⟩,st',fun b hb=>(hf b hb).1⟩⟩
    rw [Int.mul_one]
  done:=by
    intro X hP hw hK hc i pins s σ H E I hf st hg
    subst hP hw hK
    obtain ⟨f0,f1,f2,f3,f4,f5⟩:=hf it (by simp)
    exact wpAny_pyNext_range_end (I.ok.hd hc) st (by have:n≤i:=hg; omega) fun h' eb=>⟨rfl,I.turned (t':=s.toks) (fun b o hb e=>eb b o hb e) f0 f1 f3 f4 f5⟩
  self:=fun _ _ _ _ _ st h=>wpAny_pyIter_rangeiter st h
end L2
namespace L2
open PySem PySem.Spec PyProof.Rows
section
variable {X:Cx} {tg:Expr}
def iList (K:PySem.W.Frag) (tl:TE):TI:=fun σ H R=>tl σ H fun x H1=>∃ a,x = .ref a∧(∃ xs,SqL K H1 a xs)∧R (Itl K a) H1
theorem pi_list {l:Expr} {tl:TE} (hl:PE X l tl):PI X tg l (iList X.K tl):=by
  intro pins s σ H R I h
  refine thn (hl pins s σ H _ I h) fun v s1 ⟨x,H1,I1,r1,q1⟩=>?_
  obtain ⟨a,e,⟨xs,hq⟩,q⟩:=q1
  subst e
  cases r1
  obtain ⟨its,rv,p,hz⟩:=I1.list hq
  refine wpAny_pyIter_list p.isList ?_
  refine ⟨s1.heap.objs.size,[s1.heap.objs.size],_,_,H1,rfl,I1.kept (t':=s1.toks) fun b o e=>Heap.get?_push_of_some _ e,turn_list a _,⟨_,Heap.get?_push_size _ rfl,rfl,rfl⟩,fun b hb=>?_,q⟩
  have e:b = s1.heap.objs.size:=by simpa using hb
  subst e
  exact I1.fpOk (Nat.le_refl _) (I1.hok.fresh (Nat.le_refl _))
theorem range_it {pins:List (Addr×Obj)} {σ:St} {H:Hp} {s:Shared} {R:It→Hp→Prop} {E:Value→Shared→Prop} {lo hi:Int} {t u v:Tok} {tk:Nat} (I:Inv X pins σ H s) (h1:-(2 ^ 62)≤lo) (h2:lo < 2 ^ 62) (h3:-(2 ^ 62)≤hi) (h4:hi < 2 ^ 62)
    (q:R (Itr lo (hi - lo).toNat) H):wpAny (model X.prog X.w) X.A (pyIter (.ref s.heap.objs.size)) (PIE X pins σ tg R) E { s with heap:=s.heap.push { cls:=.type "range",data:=.fields #[.int lo t,.int hi u,.int 1 v] },toks:=tk }:=by
  refine wpAny_pyIter_range (IsRange.new ..) (small_one h1 h2 h3 h4) ?_
  have I1:Inv X pins σ H { s with heap:=s.heap.push { cls:=.type "range",data:=.fields #[.int lo t,.int hi u,.int 1 v] },toks:=tk }:=I.kept fun b o e=>Heap.get?_push_of_some _ e
  refine ⟨(s.heap.push { cls:=.type "range",data:=.fields #[.int lo t,.int hi u,.int 1 v] }).objs.size,[(s.heap.push { cls:=.type "range",data:=.fields #[.int lo t,.int hi u,.int 1 v] }).objs.size],_,_,H,rfl,
    I1.kept (t':=tk) fun b o e=>Heap.get?_push_of_some _ e,turn_range _ lo (hi - lo).toNat,?_,fun b hb=>?_,q⟩
  · have e1:lo + ((0:Nat):Int) * 1 = lo:=by simp
    have e2:(((hi - lo).toNat:Nat):Int) - ((0:Nat):Int) = Builtin.Range.rangeSize lo hi 1:=by rw [rangeSize_one]; split <;> omega
    show IsRangeIter _ _ (lo + ((0:Nat):Int) * 1) ((((hi - lo).toNat:Nat):Int) - ((0:Nat):Int)) 1
    rw [e1,e2]
    exact Heap.get?_push_size _ rfl
  · have e:b = (s.heap.push { cls:=.type "range",data:=.fields #[.int lo t,.int hi u,.int 1 v] }).objs.size:=by simpa using hb
    subst e
    exact I1.fpOk (Nat.le_refl _) (I1.hok.fresh (Nat.le_refl _))
def iRng1 (ta:TA):TI:=fun σ H R=>ta σ H fun vs H1=>∃ j:Int,vs = [.int j]∧-(2 ^ 62)≤j∧j < 2 ^ 62∧R (Itr 0 j.toNat) H1
def iRng2 (ta:TA):TI:=fun σ H R=>ta σ H fun vs H1=>∃ i j:Int,vs = [.int i,.int j]∧(-(2 ^ 62)≤i∧i < 2 ^ 62∧-(2 ^ 62)≤j∧j < 2 ^ 62)∧R (Itr i (j - i).toNat) H1
theorem pi_range1 {a:Expr} {ta:TA} {p pos:Pos} (hg:Gl X "range") (hm:X.mg "range" = none) (ha:PA X [a] ta) (hs:starEach [a] X.env = [(false,eval a X.env)]:=by rfl):PI X tg (.Call (.Name "range" p) [a] [] pos) (iRng1 ta):=by
  intro pins s σ H R I h
  refine Call_ (ld_blt I hg hm boot_range (PyProof.Rows.callWith_type1 (thn (ha pos pins s σ H _ I h) fun us s1 ⟨vs,H1,I1,r1,q1⟩=>?_) hs rfl))
  obtain ⟨j,e,q1,q2,q⟩:=q1
  subst e
  cases r1 with
  | cons r rr =>
    cases rr
    obtain ⟨t,rfl⟩:=r
    exact call_range_1 (range_it I1 (by omega) (by omega) q1 q2 (by simpa using q))
theorem pi_range2 {a b:Expr} {ta:TA} {p pos:Pos} (hg:Gl X "range") (hm:X.mg "range" = none) (ha:PA X [a,b] ta) (hs:starEach [a,b] X.env = [(false,eval a X.env),(false,eval b X.env)]:=by rfl) (hs2:starEach [b] X.env = [(false,eval b X.env)]:=by rfl) :
    PI X tg (.Call (.Name "range" p) [a,b] [] pos) (iRng2 ta):=by
  intro pins s σ H R I h
  refine Call_ (ld_blt I hg hm boot_range (PyProof.Rows.callWith_type1 (thn (ha pos pins s σ H _ I h) fun us s1 ⟨vs,H1,I1,r1,q1⟩=>?_) (by rw [hs,hs2]) (by rw [hs2]; rfl)))
  obtain ⟨i,j,e,⟨q1,q2,q3,q4⟩,q⟩:=q1
  subst e
  cases r1 with
  | cons r rr =>
    cases rr with
    | cons r' rr =>
      cases rr
      obtain ⟨t,rfl⟩:=r
      obtain ⟨t',rfl⟩:=r'
      exact call_range_2 (range_it I1 q1 q2 q3 q4 q)
def tFor (wi:TI) (g:TG) (tb:TS):TS:=fun D σ H=>wi σ H fun J H1=>∃ W:Nat→Nat→St→Hp→Prop,(∃ m,W 0 m σ H1)∧∀ i m σ H,W i m σ H →
  (J.stop i H∧D.nx σ H)∨(J.go i H∧∃ N:St→Hp→Prop,(∀ σ' H',N σ' H'→∃ m',m' < m∧W (i + 1) m' σ' H')∧∀ x H',J.yld i H x H'→g x σ H' fun σ2 H2=>tb { D with nx:=N,ct:=N,bk:=D.nx } σ2 H2)
def pinsAt (fp:List Addr) (h:Heap):List (Addr×Obj):=fp.filterMap fun b=>(h.get? b).map fun o=>(b,o)
theorem mem_pinsAt {fp:List Addr} {h:Heap} {b:Addr} {o:Obj} (hb:b∈fp) (e:h.get? b = some o):(b,o)∈pinsAt fp h:=List.mem_filterMap.mpr ⟨b,hb,by rw [e]; rfl⟩
theorem of_pinsAt {fp:List Addr} {h:Heap} {p:Addr×Obj} (hp:p∈pinsAt fp h):p.1∈fp∧h.get? p.1 = some p.2:=by
  obtain ⟨b,hb,e⟩:=List.mem_filterMap.mp hp
  cases q:h.get? b with
  | none=>rw [q] at e; cases e
  | some o =>
    rw [q] at e
    have e':(b,o) = p:=Option.some.inj e
    subst e'
    exact ⟨hb,q⟩
theorem Inv.pinned {pins:List (Addr×Obj)} {σ:St} {H:Hp} {s:Shared} {fp:List Addr} (I:Inv X pins σ H s) (hf:∀ b∈fp,FpOk X pins H b) (ho:∀ b∈fp,∃ o,s.heap.get? b = some o∧∀ v,o.data≠.cell v):Inv X (pins ++ pinsAt fp s.heap) σ H s :=
  I.pins_of fun p hp=>(List.mem_append.mp hp).elim (fun z=>I.pin p (List.mem_append_right _ z)) fun z=>by
    obtain ⟨hb,e⟩:=of_pinsAt z
    obtain ⟨f0,f1,f2,_⟩:=hf p.1 hb
    obtain ⟨o,e',d⟩:=ho p.1 hb
    rw [e] at e'; cases e'
    exact ⟨e,f0,f1,f2,d⟩
theorem Inv.unpinned {pins pl:List (Addr×Obj)} {σ:St} {H:Hp} {s:Shared} (I:Inv X (pins ++ pl) σ H s):Inv X pins σ H s:=I.pins_of fun p hp=>I.pin p (List.mem_append_right _ (List.mem_append_left _ hp))
theorem ps_for {iter:Expr} {body:List Stmt} {wi:TI} {g:TG} {tb:TS} {pos:Pos} (hp:PassesOwn (model X.prog X.w) X.A X.env X.xe) (hc:X.calm = true) (hi:PI X tg iter wi) (hg:PG X tg g) (hb:PSs X body tb)
    (hs:∀ x,foldedSetIterable iter X.env x = pure x:=by intro _; rfl):PS X (.For tg iter body [] pos) (tFor wi g tb):=by
  intro pins s σ H D I h
  refine wpAny_For (thn (hi pins s σ H _ I h) fun v s1 h1=>thn h1 fun itv s2 h2=>?_) hs
  obtain ⟨it,fp,tn,J,H2,e,I2,T,st2,f2,W,⟨m0,w0⟩,turn⟩:=h2
  subst e
  -- what stays true of the iterator's objects through the loop
  have stat:∀ {H':Hp},(∀ b∈fp,H' b = none)→∀ b∈fp,FpOk X pins H' b:=fun hn b hb=>⟨hn b hb,(f2 b hb).2⟩
  refine codeAny_forLoop_any (fun n s'=>∃ i σ' H',Inv X pins σ' H' s'∧tn i s'.heap∧(∀ b∈fp,H' b = none)∧W i n σ' H') ?_ m0 ⟨0,σ,H2,I2,st2,fun b hb=>(f2 b hb).1,w0⟩
  rintro n s3 ⟨i,σ3,H3,I3,st3,fr3,w3⟩
  rcases turn i n σ3 H3 w3 with ⟨stop,qn⟩ | ⟨go,N,hN,step⟩
  · refine wpAny_passesOwn hp (thn (T.done X rfl rfl rfl hc i pins s3 σ3 H3 X.xe I3 (stat fr3) st3 stop) fun r s4 ⟨hr,I4⟩=>?_)
    subst hr
    exact wpAny_execs_nil ⟨σ3,H3,I4,qn⟩
  · refine wpAny_passesOwn hp (thn (T.item X rfl rfl rfl hc i pins s3 σ3 H3 X.xe I3 (stat fr3) st3 go) fun r s4 ⟨u,hr,h4⟩=>?_)
    subst hr
    refine wpAny_passesOwn hp (thn h4 fun _ s5 ⟨x,H5,I5,r5,y5,st5,fr5⟩=>?_)
    have I5':=I5.pinned (stat fr5) (T.obj _ _ st5)
    refine wpAny_passesOwn hp (thn (hg _ s5 σ3 H5 x u _ I5' r5 (step x H5 y5)) fun _ s6 ⟨σ6,H6,I6,q6⟩=>?_)
    refine wpAny_passesOwn hp (thn (hb _ s6 σ6 H6 _ I6 q6) fun f s7 q7=>?_)
    have again:∀ {σ7:St} {H7:Hp},Inv X (pins ++ pinsAt fp s5.heap) σ7 H7 s7→N σ7 H7→∃ m,m < n∧∃ i σ' H',Inv X pins σ' H' s7∧tn i s7.heap∧(∀ b∈fp,H' b = none)∧W i m σ' H':=fun {σ7 H7} I7 n7=>by
      obtain ⟨m',hm,w7⟩:=hN σ7 H7 n7
      refine ⟨m',hm,i + 1,σ7,H7,I7.unpinned,T.keep _ _ _ st5 fun b hb o e=>(I7.pin (b,o) (List.mem_append_right _ (List.mem_append_right _ (mem_pinsAt hb e)))).1,fun b hb=>?_,w7⟩
      obtain ⟨o,e,d⟩:=T.obj _ _ st5 b hb
      exact (I7.pin (b,o) (List.mem_append_right _ (List.mem_append_right _ (mem_pinsAt hb e)))).2.1
    cases f with
    | next=>obtain ⟨σ7,H7,I7,n7⟩:=q7; exact again I7 n7
    | cont=>obtain ⟨σ7,H7,I7,n7⟩:=q7; exact again I7 n7
    | brk=>obtain ⟨σ7,H7,I7,q7⟩:=q7; exact ⟨σ7,H7,I7.unpinned,q7⟩
    | ret v=>obtain ⟨x7,σ7,H7,I7,r7,q7⟩:=q7; exact ⟨x7,σ7,H7,I7.unpinned,r7,q7⟩
end
theorem for_list {K:PySem.W.Frag} {a:Addr} {xs:List V} {g:TG} {tb:TS} {D:Ends} {σ:St} {H:Hp} (Pv:Nat→St→Hp→Prop) (h0:Pv 0 σ H) (hl:∀ i σ H,i≤xs.length→Pv i σ H→SqL K H a xs)
    (hs:∀ i x σ H,xs[i]? = some x→Pv i σ H→g x σ H fun σ2 H2=>tb { D with nx:=Pv (i + 1),ct:=Pv (i + 1),bk:=D.nx } σ2 H2) (hd:∀ σ H,Pv xs.length σ H→D.nx σ H) :
    ∃ W:Nat→Nat→St→Hp→Prop,(∃ m,W 0 m σ H)∧∀ i m σ H,W i m σ H →
      ((Itl K a).stop i H∧D.nx σ H)∨((Itl K a).go i H∧∃ N:St→Hp→Prop,(∀ σ' H',N σ' H'→∃ m',m' < m∧W (i + 1) m' σ' H')∧∀ x H',(Itl K a).yld i H x H'→g x σ H' fun σ2 H2=>tb { D with nx:=N,ct:=N,bk:=D.nx } σ2 H2):=by
  refine ⟨fun i m σ H=>m = xs.length - i∧i≤xs.length∧Pv i σ H,⟨xs.length,by simp,Nat.zero_le _,h0⟩,?_⟩
  rintro i m σ H ⟨rfl,hi,p⟩
  have q:=hl i σ H hi p
  by_cases hlt:i < xs.length
  · refine .inr ⟨⟨xs,xs[i],q,by simp [hlt]⟩,Pv (i + 1),fun σ' H' p'=>⟨xs.length - (i + 1),by omega,rfl,hlt,p'⟩,fun x H' y=>?_⟩
    obtain ⟨e,y⟩:=y
    subst e
    exact hs i x σ _ (y xs q) p
  · have e:i = xs.length:=by omega
    subst e
    exact .inl ⟨⟨xs,q,Nat.le_refl _⟩,hd σ H p⟩
theorem for_range {lo:Int} {n:Nat} {g:TG} {tb:TS} {D:Ends} {σ:St} {H:Hp} (Pv:Nat→St→Hp→Prop) (h0:Pv 0 σ H)
    (hs:∀ i σ H,i < n→Pv i σ H→g (.int (lo + i)) σ H fun σ2 H2=>tb { D with nx:=Pv (i + 1),ct:=Pv (i + 1),bk:=D.nx } σ2 H2) (hd:∀ σ H,Pv n σ H→D.nx σ H) :
    ∃ W:Nat→Nat→St→Hp→Prop,(∃ m,W 0 m σ H)∧∀ i m σ H,W i m σ H →
      ((Itr lo n).stop i H∧D.nx σ H)∨((Itr lo n).go i H∧∃ N:St→Hp→Prop,(∀ σ' H',N σ' H'→∃ m',m' < m∧W (i + 1) m' σ' H')∧∀ x H',(Itr lo n).yld i H x H'→g x σ H' fun σ2 H2=>tb { D with nx:=N,ct:=N,bk:=D.nx } σ2 H2):=by
  refine ⟨fun i m σ H=>m = n - i∧i≤n∧Pv i σ H,⟨n,by simp,Nat.zero_le _,h0⟩,?_⟩
  rintro i m σ H ⟨rfl,hi,p⟩
  by_cases hlt:i < n
  · refine .inr ⟨hlt,Pv (i + 1),fun σ' H' p'=>⟨n - (i + 1),by omega,rfl,hlt,p'⟩,fun x H' y=>?_⟩
    obtain ⟨e,y⟩:=y
    subst e y
    exact hs i σ _ hlt p
  · have e:i = n:=by omega
    subst e
    exact .inl ⟨Nat.le_refl _,hd σ H p⟩
end L2
namespace L2
open PySem PySem.Spec PyProof.Rows
abbrev R2:=V→V→Hp→VK→Prop
def OpR (X:Cx) (f:Value→Value→Sem Value) (r:R2):Prop :=
  ∀ (pins:List (Addr×Obj)) (s:Shared) (σ:St) (H:Hp) (x y:V) (v u:Value) (Q:VK),Inv X pins σ H s→RelV x v→RelV y u→r x y H Q →
    wpAny (model X.prog X.w) X.A (f v u) (EP X pins σ Q) X.xe s
def CallR (X:Cx) (f:Value) (r:List V→Hp→VK→Prop):Prop :=
  ∀ (pins:List (Addr×Obj)) (s:Shared) (σ:St) (H:Hp) (xs:List V) (us:List Value) (Q:VK),Inv X pins σ H s→Vals xs us→r xs H Q →
    wpAny (model X.prog X.w) X.A (call f us) (EP X pins σ Q) X.xe s
def tOp (r:R2) (ta tb:TE):TE:=fun σ H Q=>ta σ H fun x H1=>tb σ H1 fun y H2=>r x y H2 Q
def rI (C:Int→Int→Prop) (g:Int→Int→V):R2:=fun x y H Q=>∃ i j,x = .int i∧y = .int j∧C i j∧Q (g i j) H
def rI0 (g:Int→Int→V):R2:=fun x y H Q=>∃ i j,x = .int i∧y = .int j∧Q (g i j) H
section
variable {X:Cx} {a b c:Expr} {ta tb tc:TE} {pos:Pos}
theorem binT (ha:PE X a ta) (hb:PE X b tb) {pins:List (Addr×Obj)} {s:Shared} {σ:St} {H:Hp} {R:V→V→Hp→Prop} (I:Inv X pins σ H s)
    (h:ta σ H fun x H1=>tb σ H1 fun y H2=>R x y H2) {Q:Value→Shared→Prop} {f:Value→Value→Sem Value}
    (hf:∀ v u s2 x y H2,Inv X pins σ H2 s2→RelV x v→RelV y u→R x y H2→wpAny (model X.prog X.w) X.A (f v u) Q X.xe s2) :
    wpAny (model X.prog X.w) X.A (eval a X.env) (fun v s₁=>wpAny (model X.prog X.w) X.A (eval b X.env) (fun u s₂=>wpAny (model X.prog X.w) X.A (f v u) Q X.xe s₂) X.xe s₁) X.xe s:=by
  refine thn (ha pins s σ H _ I h) fun v s1 ⟨x,H1,I1,r1,q1⟩=>?_
  refine thn (hb pins s1 σ H1 _ I1 q1) fun u s2 ⟨y,H2,I2,r2,q2⟩=>?_
  exact hf v u s2 x y H2 I2 r1 r2 q2
theorem pe_op {op:Operator} {r:R2} (ho:OpR X (binaryOp op) r) (ha:PE X a ta) (hb:PE X b tb):PE X (.BinOp a op b pos) (tOp r ta tb):=by
  intro pins s σ H Q I h
  exact wpAny_BinOp (binT ha hb I h fun v u s2 x y H2 I2 rx ry q=>ho pins s2 σ H2 x y v u Q I2 rx ry q)
theorem opI {f:Value→Value→Sem Value} {C:Int→Int→Prop} {g:Int→Int→Int}
    (rule:∀ (i j:Int) (t u:Tok) (s:Shared) (Q:Value→Shared→Prop) (E:Value→Shared→Prop),C i j→Q (.int (g i j) s.toks) { s with toks:=s.toks + 1 }→wpAny (model X.prog X.w) X.A (f (.int i t) (.int j u)) Q E s) :
    OpR X f (rI C fun i j=>.int (g i j)):=by
  intro pins s σ H x y v u Q I rx ry h
  obtain ⟨i,j,rfl,rfl,hc,q⟩:=h
  obtain ⟨t,rfl⟩:=rx
  obtain ⟨t',rfl⟩:=ry
  exact rule i j t t' s _ _ hc ⟨.int (g i j),H,I.tok _,⟨_,rfl⟩,q⟩
theorem opI0 {f:Value→Value→Sem Value} {g:Int→Int→Int}
    (rule:∀ (i j:Int) (t u:Tok) (s:Shared) (Q:Value→Shared→Prop) (E:Value→Shared→Prop),Q (.int (g i j) s.toks) { s with toks:=s.toks + 1 }→wpAny (model X.prog X.w) X.A (f (.int i t) (.int j u)) Q E s) :
    OpR X f (rI0 fun i j=>.int (g i j)):=by
  intro pins s σ H x y v u Q I rx ry h
  obtain ⟨i,j,rfl,rfl,q⟩:=h
  obtain ⟨t,rfl⟩:=rx
  obtain ⟨t',rfl⟩:=ry
  exact rule i j t t' s _ _ ⟨.int (g i j),H,I.tok _,⟨_,rfl⟩,q⟩
theorem opB0 {f:Value→Value→Sem Value} {g:Int→Int→Bool}
    (rule:∀ (i j:Int) (t u:Tok) (s:Shared) (Q:Value→Shared→Prop) (E:Value→Shared→Prop),Q (.bool (g i j)) s→wpAny (model X.prog X.w) X.A (f (.int i t) (.int j u)) Q E s) :
    OpR X f (rI0 fun i j=>.bl (g i j)):=by
  intro pins s σ H x y v u Q I rx ry h
  obtain ⟨i,j,rfl,rfl,q⟩:=h
  obtain ⟨t,rfl⟩:=rx
  obtain ⟨t',rfl⟩:=ry
  exact rule i j t t' s _ _ ⟨.bl (g i j),H,I,rfl,q⟩
def CDiv (i j:Int):Prop:=0 < j∧j < 1073741824
def CPow (i j:Int):Prop:=0≤j∧j≤1000000∧i.natAbs < 2 ^ 64
def CMul (i j:Int):Prop:=(-(2 ^ 64) < i∧i < 2 ^ 64)∨(-(2 ^ 64) < j∧j < 2 ^ 64)
theorem CMul.ok {i j:Int} (h:CMul i j):IntMulOk i j:=by
  rcases h with ⟨h1,h2⟩ | ⟨h1,h2⟩
  · exact .of_left (intBits_le_64 h1 h2)
  · exact .of_right (intBits_le_64 h1 h2)
theorem op_add:OpR X (binaryOp .Add) (rI0 fun i j=>.int (i + j)):=opI0 fun _ _ _ _ _ _ _ q=>add_int q
theorem op_sub:OpR X (binaryOp .Sub) (rI0 fun i j=>.int (i - j)):=opI0 fun _ _ _ _ _ _ _ q=>sub_int q
theorem op_mul:OpR X (binaryOp .Mult) (rI CMul fun i j=>.int (i * j)):=opI fun _ _ _ _ _ _ _ hc q=>mul_int q hc.ok
theorem op_fdiv:OpR X (binaryOp .FloorDiv) (rI CDiv fun i j=>.int (i / j)):=opI fun i j _ _ _ _ _ hc q=>by
  have h1:(0:Int) < j:=hc.1
  have h2:j < 1073741824:=hc.2
  exact floordiv_int (by omega) (by rw [Int.fdiv_eq_ediv_of_nonneg i (by omega)]; exact q) (.inl (PyProof.noPylong_small (by omega)))
theorem op_mod:OpR X (binaryOp .Mod) (rI (fun _ j=>0 < j) fun i j=>.int (i % j)):=opI fun i j _ _ _ _ _ hc q=>by
  have h1:(0:Int) < j:=hc
  exact mod_int' (by omega) (by rw [Int.fmod_eq_emod_of_nonneg i (by omega)]; exact q)
theorem op_shl:OpR X (binaryOp .LShift) (rI CPow fun i j=>.int (i * 2 ^ j.toNat)):=opI fun _ _ _ _ _ _ _ hc q=>lshift_int_small hc.1 hc.2.1 hc.2.2 q
theorem op_and:OpR X (binaryOp .BitAnd) (rI0 fun i j=>.int (Builtin.bitAnd i j)):=opI0 fun _ _ _ _ _ _ _ q=>and_int q
theorem op_or:OpR X (binaryOp .BitOr) (rI0 fun i j=>.int (Builtin.bitOr i j)):=opI0 fun _ _ _ _ _ _ _ q=>or_int q
end
def scal:V→V→Bool
  | .non,.non=>true | .non,.int _=>true | .int _,.non=>true | .non,.bl _=>true | .bl _,.non=>true | .non,.str _=>true | .str _,.non=>true
  | .int _,.int _=>true | .bl _,.bl _=>true | .str _,.str _=>true | .byt _,.byt _=>true
  | .int _,.str _=>true | .str _,.int _=>true | .bl _,.str _=>true | .str _,.bl _=>true
  | _,_=>false
def rEq:R2:=fun x y H Q=>scal x y = true∧Q (.bl (decide (x = y))) H
def rNe:R2:=fun x y H Q=>scal x y = true∧Q (.bl (!decide (x = y))) H
theorem dec_int {i j:Int}:decide (V.int i = V.int j) = (i == j):=by
  rw [Bool.eq_iff_iff]
  simp
theorem dec_bl {i j:Bool}:decide (V.bl i = V.bl j) = (i == j):=by
  rw [Bool.eq_iff_iff]
  simp
theorem dec_str {i j:Str}:decide (V.str i = V.str j) = (i == j):=by
  rw [Bool.eq_iff_iff]
  simp
theorem dec_byt {i j:Array UInt8}:decide (V.byt i = V.byt j) = (i.toList == j.toList):=by
  rw [Bool.eq_iff_iff]
  cases i
  cases j
  simp
section
variable {X:Cx} {a b c:Expr} {ta tb tc:TE} {pos:Pos}
theorem fin_bl {pins:List (Addr×Obj)} {σ:St} {H:Hp} {s:Shared} {Q:VK} {k k':Bool} (I:Inv X pins σ H s) (q:Q (.bl k) H) (e:k = k'):EP X pins σ Q (.bool k') s:=by
  subst e
  exact ⟨.bl k,H,I,rfl,q⟩
theorem op_eq:OpR X (compareOp .Eq) rEq:=by
  intro pins s σ H x y v u Q I rx ry h
  obtain ⟨hs,q⟩:=h
  cases x with
  | non =>
    cases rx
    cases y with
    | non=>cases ry; exact PySem.EqNone.eq_none_none (fin_bl I q (by simp))
    | bl j=>cases ry; exact PySem.EqNone.eq_none_bool (fin_bl I q (by simp))
    | int j=>obtain ⟨t',rfl⟩:=ry; exact PySem.EqNone.eq_none_int (fin_bl I q (by simp))
    | str j=>obtain ⟨t',rfl⟩:=ry; exact PySem.EqNone.eq_none_str (fin_bl I q (by simp))
    | _=>exact absurd (show false = true from hs) Bool.false_ne_true
  | bl i =>
    cases rx
    cases y with
    | non=>cases ry; exact PySem.EqNone.eq_bool_none (fin_bl I q (by simp))
    | bl j=>cases ry; exact eq_bool (fin_bl I q dec_bl)
    | str j=>obtain ⟨t',rfl⟩:=ry; exact PySem.EqMixed.eq_bool_str (fin_bl I q (by simp))
    | _=>exact absurd (show false = true from hs) Bool.false_ne_true
  | int i =>
    obtain ⟨t,rfl⟩:=rx
    cases y with
    | non=>cases ry; exact PySem.EqNone.eq_int_none (fin_bl I q (by simp))
    | int j=>obtain ⟨t',rfl⟩:=ry; exact eq_int (fin_bl I q dec_int)
    | str j=>obtain ⟨t',rfl⟩:=ry; exact PySem.EqMixed.eq_int_str (fin_bl I q (by simp))
    | _=>exact absurd (show false = true from hs) Bool.false_ne_true
  | str i =>
    obtain ⟨t,rfl⟩:=rx
    cases y with
    | non=>cases ry; exact PySem.EqNone.eq_str_none (fin_bl I q (by simp))
    | bl j=>cases ry; exact PySem.EqMixed.eq_str_bool (fin_bl I q (by simp))
    | int j=>obtain ⟨t',rfl⟩:=ry; exact PySem.EqMixed.eq_str_int (fin_bl I q (by simp))
    | str j=>obtain ⟨t',rfl⟩:=ry; exact eq_str (fin_bl I q dec_str)
    | _=>exact absurd (show false = true from hs) Bool.false_ne_true
  | byt i =>
    obtain ⟨t,rfl⟩:=rx
    cases y with
    | byt j=>obtain ⟨t',rfl⟩:=ry; exact PySem.W.eq_bytes (fin_bl I q dec_byt)
    | _=>exact absurd (show false = true from hs) Bool.false_ne_true
  | _=>cases y <;> exact absurd (show false = true from hs) Bool.false_ne_true
theorem op_ne:OpR X (compareOp .NotEq) rNe:=by
  intro pins s σ H x y v u Q I rx ry h
  obtain ⟨hs,q⟩:=h
  cases x with
  | non =>
    cases rx
    cases y with
    | non=>cases ry; exact PySem.EqNone.ne_none_none (fin_bl I q (by simp))
    | bl j=>cases ry; exact PySem.EqNone.ne_none_bool (fin_bl I q (by simp))
    | int j=>obtain ⟨t',rfl⟩:=ry; exact PySem.EqNone.ne_none_int (fin_bl I q (by simp))
    | str j=>obtain ⟨t',rfl⟩:=ry; exact PySem.EqNone.ne_none_str (fin_bl I q (by simp))
    | _=>exact absurd (show false = true from hs) Bool.false_ne_true
  | bl i =>
    cases rx
    cases y with
    | non=>cases ry; exact PySem.EqNone.ne_bool_none (fin_bl I q (by simp))
    | bl j=>cases ry; exact ne_bool (fin_bl I q (congrArg not dec_bl))
    | str j=>obtain ⟨t',rfl⟩:=ry; exact PySem.EqMixed.ne_bool_str (fin_bl I q (by simp))
    | _=>exact absurd (show false = true from hs) Bool.false_ne_true
  | int i =>
    obtain ⟨t,rfl⟩:=rx
    cases y with
    | non=>cases ry; exact PySem.EqNone.ne_int_none (fin_bl I q (by simp))
    | int j=>obtain ⟨t',rfl⟩:=ry; exact ne_int (fin_bl I q (congrArg not dec_int))
    | str j=>obtain ⟨t',rfl⟩:=ry; exact PySem.EqMixed.ne_int_str (fin_bl I q (by simp))
    | _=>exact absurd (show false = true from hs) Bool.false_ne_true
  | str i =>
    obtain ⟨t,rfl⟩:=rx
    cases y with
    | non=>cases ry; exact PySem.EqNone.ne_str_none (fin_bl I q (by simp))
    | bl j=>cases ry; exact PySem.EqMixed.ne_str_bool (fin_bl I q (by simp))
    | int j=>obtain ⟨t',rfl⟩:=ry; exact PySem.EqMixed.ne_str_int (fin_bl I q (by simp))
    | str j=>obtain ⟨t',rfl⟩:=ry; exact ne_str (fin_bl I q (congrArg not dec_str))
    | _=>exact absurd (show false = true from hs) Bool.false_ne_true
  | byt i =>
    obtain ⟨t,rfl⟩:=rx
    cases y with
    | byt j=>obtain ⟨t',rfl⟩:=ry; exact PySem.W.ne_bytes (fin_bl I q (congrArg not dec_byt))
    | _=>exact absurd (show false = true from hs) Bool.false_ne_true
  | _=>cases y <;> exact absurd (show false = true from hs) Bool.false_ne_true
theorem op_lt:OpR X (compareOp .Lt) (rI0 fun i j=>.bl (decide (i < j))):=opB0 fun _ _ _ _ _ _ _ q=>lt_int q
theorem op_le:OpR X (compareOp .LtE) (rI0 fun i j=>.bl (decide (i≤j))):=opB0 fun _ _ _ _ _ _ _ q=>le_int q
theorem op_gt:OpR X (compareOp .Gt) (rI0 fun i j=>.bl (decide (j < i))):=opB0 fun _ _ _ _ _ _ _ q=>gt_int q
theorem op_ge:OpR X (compareOp .GtE) (rI0 fun i j=>.bl (decide (j≤i))):=opB0 fun _ _ _ _ _ _ _ q=>ge_int q
theorem nomark (b:Expr) {op:CmpOp} (h:op≠.In:=by decide) (h2:op≠.NotIn:=by decide):behindInMarks op b = false:=by
  have e1:(op == CmpOp.In) = false:=by cases op <;> first | rfl | exact absurd rfl h
  have e2:(op == CmpOp.NotIn) = false:=by cases op <;> first | rfl | exact absurd rfl h2
  cases b <;> simp [behindInMarks,e1,e2]
theorem pe_cmpR {op:CmpOp} {r:R2} (ho:OpR X (compareOp op) r) (ha:PE X a ta) (hb:PE X b tb) (hm:behindInMarks op b = false):PE X (.Compare a [op] [b] pos) (tOp r ta tb):=by
  intro pins s σ H Q I h
  exact wpAny_Compare1 (binT ha hb I h fun v u s2 x y H2 I2 rx ry q=>ho pins s2 σ H2 x y v u Q I2 rx ry q) hm
def tTest (t:TE):TT:=fun σ H Q=>t σ H fun x H'=>∃ k,x = .bl k∧Q k H'
theorem pt_cmpR {op:CmpOp} {r:R2} (ho:OpR X (compareOp op) r) (ha:PE X a ta) (hb:PE X b tb) (hm:behindInMarks op b = false):PT X (.Compare a [op] [b] pos) (tTest (tOp r ta tb)):=by
  intro pins s σ H Q I h
  refine wpAny_isTrue_Compare1 (thn (ha pins s σ H _ I h) fun v s1 ⟨x,H1,I1,r1,q1⟩=>thn (hb pins s1 σ H1 _ I1 q1) fun u s2 ⟨y,H2,I2,r2,q2⟩ =>
    thn (ho pins s2 σ H2 x y v u _ I2 r1 r2 q2) fun c s3 ⟨z,H3,I3,r3,k,e,q3⟩=>?_) hm
  subst e
  cases r3
  exact wpAny_truthy_bool ⟨H3,I3,q3⟩
def tChain (r r':R2) (ta tb tc:TE):TE:=fun σ H Q=>ta σ H fun x H1=>tb σ H1 fun y H2=>r x y H2 fun z H3=>∃ k,z = .bl k ∧
  (if k = true then tc σ H3 fun w' H4=>r' y w' H4 Q else Q (.bl false) H3)
theorem pe_chain {op op':CmpOp} {r r':R2} (ho:OpR X (compareOp op) r) (ho':OpR X (compareOp op') r') (ha:PE X a ta) (hb:PE X b tb) (hc:PE X c tc)
    (hm:lastMarks [op,op'] [b,c] = false:=by with_unfolding_all rfl):PE X (.Compare a [op,op'] [b,c] pos) (tChain r r' ta tb tc):=by
  intro pins s σ H Q I h
  refine Compare_chain (thn (ha pins s σ H _ I h) fun v s1 ⟨x,H1,I1,r1,q1⟩=>chain_link (thn (hb pins s1 σ H1 _ I1 q1) fun u s2 ⟨y,H2,I2,r2,q2⟩ =>
    thn (ho pins s2 σ H2 x y v u _ I2 r1 r2 q2) fun d s3 ⟨z,H3,I3,r3,k,e,q3⟩=>?_)) hm
  subst e
  cases r3
  refine wpAny_truthy_bool ?_
  cases k with
  | false=>exact ite_ff ⟨.bl false,H3,I3,rfl,q3⟩
  | true=>exact ite_tt (chain_last (thn (hc pins s3 σ H3 _ I3 q3) fun w' s4 ⟨z',H4,I4,r4,q4⟩=>ho' pins s4 σ H4 y z' u w' Q I4 r2 r4 q4))
theorem pt_chain {op op':CmpOp} {r r':R2} (ho:OpR X (compareOp op) r) (ho':OpR X (compareOp op') r') (ha:PE X a ta) (hb:PE X b tb) (hc:PE X c tc)
    (hm:lastMarks [op,op'] [b,c] = false:=by with_unfolding_all rfl):PT X (.Compare a [op,op'] [b,c] pos) (tTest (tChain r r' ta tb tc)):=by
  intro pins s σ H Q I h
  refine isTrue_chain (thn (ha pins s σ H _ I h) fun v s1 ⟨x,H1,I1,r1,q1⟩=>test_link (thn (hb pins s1 σ H1 _ I1 q1) fun u s2 ⟨y,H2,I2,r2,q2⟩ =>
    thn (ho pins s2 σ H2 x y v u _ I2 r1 r2 q2) fun d s3 ⟨z,H3,I3,r3,k,e,q3⟩=>?_)) hm
  subst e
  cases r3
  refine wpAny_truthy_bool ?_
  cases k with
  | false =>
    obtain ⟨k',e',q'⟩:=q3
    cases e'
    exact ite_ff ⟨H3,I3,q'⟩
  | true =>
    refine ite_tt (test_last (thn (hc pins s3 σ H3 _ I3 q3) fun w' s4 ⟨z',H4,I4,r4,q4⟩=>thn (ho' pins s4 σ H4 y z' u w' _ I4 r2 r4 q4) fun d' s5 ⟨z2,H5,I5,r5,k2,e2,q5⟩=>?_))
    subst e2
    cases r5
    exact wpAny_truthy_bool ⟨H5,I5,q5⟩
theorem line63:(sizeLine:Nat) < 2 ^ 63:=by rw [sizeLine_eq]; decide
theorem op_add_str:OpR X (binaryOp .Add) (fun x y H Q=>∃ i j,x = .str i∧y = .str j∧i.length + j.length≤sizeLine∧Q (.str (i ++ j)) H):=by
  intro pins s σ H x y v u Q I rx ry h
  obtain ⟨i,j,rfl,rfl,hz,q⟩:=h
  obtain ⟨t,rfl⟩:=rx
  obtain ⟨t',rfl⟩:=ry
  exact add_str (fun t' tk=>⟨.str (i ++ j),H,I.tok _,⟨_,rfl⟩,q⟩) hz
theorem vals1 {x:V} {us:List Value} (r:Vals [x] us):∃ u,us = [u]∧RelV x u:=by
  cases r with
  | cons r1 r2=>cases r2; exact ⟨_,rfl,r1⟩
theorem vals2 {x y:V} {us:List Value} (r:Vals [x,y] us):∃ u w',us = [u,w']∧RelV x u∧RelV y w':=by
  cases r with
  | cons r1 r2 =>
    cases r2 with
    | cons r3 r4=>cases r4; exact ⟨_,_,rfl,r1,r3⟩
end
end L2
namespace L2
open PySem PySem.Spec PyProof.Rows
structure ObjM (h:Heap) (x dx C:Addr) (mA:Str→Option Value):Prop where
  obj:h.get? x = some (PySem.W.instObj C dx)
  ns:h.Ns1 dx mA
  ne:dx≠x
theorem lookIn_ns {h:Heap} {dx:Addr} {mA:Str→Option Value} (n:h.Ns1 dx mA):∃ od,h.get? dx = some od∧∀ name,PySem.W.lookIn name od = some (mA name):=by
  obtain ⟨o,es,ep,ho,hd,hk,_,hm⟩:=n
  refine ⟨o,ho,fun name=>?_⟩
  have e:=hm name
  unfold nsFind findBy at e
  rw [← Array.find?_toList] at e
  unfold PySem.W.lookIn
  rw [hd]
  dsimp only
  split
  · rename_i y q
    rw [q] at e
    exact congrArg some e
  · rename_i q
    rw [q] at e
    have a:es.toList.any (·.refKey) = false:=by
      rw [List.any_eq_false]
      intro y hy
      obtain ⟨z,t,hkey⟩:=hk y (Array.mem_toList_iff.mp hy)
      simp [DictEntry.refKey,hkey]
    have a':¬ es.toList.any (·.refKey) = true:=by rw [a]; exact Bool.false_ne_true
    rw [if_neg a']
    exact congrArg some e
theorem ObjM.look {h:Heap} {x dx C:Addr} {mA:Str→Option Value} (I:ObjM h x dx C mA):∃ od,PySem.W.InstAt h x (PySem.W.instObj C dx) C (some od)∧∀ name,PySem.W.lookIn name od = some (mA name) :=
  let ⟨od,ho,hl⟩:=lookIn_ns I.ns
  ⟨od,⟨I.obj,rfl,rfl,ho⟩,hl⟩
section
variable {prog:Program} {w:World} {A:Around} {E:Value→Shared→Prop} {s:Shared} {K:PySem.W.Frag} {x dx C f:Addr} {mA:Str→Option Value} {name:Str} {v:Value}
theorem get_map {expr:Bool} {Q:Value→Shared→Prop} (X:K.In s.heap) (I:ObjM s.heap x dx C mA) (hg:PySem.W.plainGet K C name = true) (hh:PySem.W.hasDictIn K C = true)
    (ha:PySem.W.findIn K (.ref C) name = some none) (hv:mA name = some v) (hv':PySem.W.handedIn v = true) (h:Q v { s with toks:=s.toks + 1 }) :
    wpAny (model prog w) A (getAttr (.ref x) name expr) Q E s:=by
  obtain ⟨od,J,hl⟩:=I.look
  exact PySem.W.get_value X J (PySem.W.plainGet_of hg).1 (PySem.W.findObj_own hh ha rfl (by rw [hl,hv])) hv' h
theorem get_meth {pl:Sem Bool} {Q:Value×List Value→Shared→Prop} (X:K.In s.heap) (I:ObjM s.heap x dx C mA) (hg:PySem.W.plainGet K C name = true)
    (hf:PySem.W.findIn K (.ref C) name = some (some (.ref f))) (ht:PySem.W.isFn K (.ref f) = true) (hv:mA name = none) (h:Q (.ref f,[.ref x]) s) :
    wpAny (model prog w) A (getMethod (.ref x) name pl) Q E s:=by
  obtain ⟨od,J,hl⟩:=I.look
  exact PySem.W.method_fn X J (PySem.W.plainGet_of hg).1 (PySem.W.plainGet_of hg).2 hf (beq_iff_eq.mp ht) (by show (PySem.W.lookIn name od).map (·.isSome) = some false; rw [hl,hv]; rfl) h
theorem set_map {ns:List Str} {Q:Unit→Shared→Prop} (X:K.In s.heap) (I:ObjM s.heap x dx C mA)
    (hs:PySem.W.findIn K (.ref C) "__setattr__" = some (some (.builtin "object.__setattr__"))) (hp:PySem.W.plainOver K C = true) (ht:PySem.W.takerIn K C name = some none) (hh:PySem.W.hasDictIn K C = true)
    (hw:PySem.Within mA ns) (hsz:ns.length≤sizeLine)
    (h:∀ h',ObjM h' x dx C (fun y=>if y = name then some v else mA y)→Heap.SameBut dx s.heap h'→Q () { s with heap:=h',toks:=s.toks + 2 }) :
    wpAny (model prog w) A (setAttr (.ref x) name v) Q E s:=by
  obtain ⟨od,J,hl⟩:=I.look
  refine PySem.W.set_plain X J hs (PySem.W.osa_open (s:={ s with toks:=s.toks + 1 }) (r:=none) X J hp ht fun b=>?_)
  obtain ⟨cd,hc,hd'⟩:=PySem.W.any_some hh
  have hx:s.heap.get? x = some ⟨.ref C,some dx,.plain,#[]⟩:=I.obj
  refine wpAny_bind (wpAny_pure (wpAny_bind (wpAny_bind (wpAny_loadPart hx (wpAny_bind (PySem.W.Looks.here (s:={ s with toks:=s.toks + 1 }) (PySem.W.looks_clsIn X hc) ?_))))))
  rw [hd']
  refine wpAny_pure (a:=some dx) (wpAny_bind (wpAny_pure (wpAny_bind ?_)))
  refine wpAny_nsSet1 (s:={ s with toks:=s.toks + 1 }) I.ns fun h' hn2 hs2=>?_
  obtain ⟨oD,esD,epD,hoD,hdD,hcD⟩:=hn2.count (PySem.Within.cons name v hw)
  refine wpAny_bind (wpAny_lookBehind hoD (by rw [hdD]; exact pastItsLine_dict (Nat.le_trans hcD (by rw [List.length_cons]; omega))) ?_)
  exact wpAny_pure (h _ ⟨(hs2.2 _ (Ne.symm I.ne)).trans I.obj,hn2,I.ne⟩ hs2)
theorem make_map {R:Result→Shared→Prop} {vs:List Value} {kw:List (Str×Value)} (X:K.In s.heap) (hm:PySem.W.makesIn K C = true)
    (hi:PySem.W.findIn K (.ref C) "__init__" = some (some (.ref f))) (hf:PySem.W.typeIn K (.ref f) = some (.type "function"))
    (h:codeAny (model prog w) (A.under (.builtin "type.__call__" ⟨.ref C :: vs,kw⟩)) (.call (.ref f) ⟨.ref (s.heap.objs.size + 1) :: vs,kw⟩) (PySem.W.InitBack (s.heap.objs.size + 1) R)
      { s with heap:=(s.heap.push PySem.W.emptyDict).push (PySem.W.instObj C s.heap.objs.size) }) :
    codeAny (model prog w) A (.call (.ref C) ⟨vs,kw⟩) R s:=by
  obtain ⟨hh,g,d,t,os⟩:=s
  exact PySem.W.make_core (PySem.W.makes_of X hm) (PySem.W.looks_findIn X hi) (fun self=>PySem.W.bind_fn X self hf) (.inl rfl) h
theorem make_map0 {R:Result→Shared→Prop} (X:K.In s.heap) (hm:PySem.W.makesIn K C = true)
    (hi:PySem.W.findIn K (.ref C) "__init__" = some (some (.builtin "object.__init__")))
    (hb:∀ self,PySem.W.Looks (model prog w) s.heap (bindSpecial (.builtin "object.__init__") self) (.builtin "object.__init__",[self]))
    (h:codeAny (model prog w) (A.under (.builtin "type.__call__" ⟨[.ref C],[]⟩)) (.call (.builtin "object.__init__") ⟨[.ref (s.heap.objs.size + 1)],[]⟩) (PySem.W.InitBack (s.heap.objs.size + 1) R)
      { s with heap:=(s.heap.push PySem.W.emptyDict).push (PySem.W.instObj C s.heap.objs.size) }) :
    codeAny (model prog w) A (.call (.ref C) ⟨[],[]⟩) R s:=by
  obtain ⟨hh,g,d,t,os⟩:=s
  exact PySem.W.make_core (PySem.W.makes_of X hm) (PySem.W.looks_findIn X hi) hb (.inr ⟨rfl,rfl⟩) h
end
def putF (f:Str) (v:V):List (Str×V)→List (Str×V)
  | []=>[(f,v)]
  | (g,x) :: r=>if g = f then (g,v) :: r else (g,x) :: putF f v r
theorem lookup_putF (f g:Str) (v:V):∀ fs:List (Str×V),(putF f v fs).lookup g = if g = f then some v else fs.lookup g
  | []=>by
    show List.lookup g [(f,v)] = _
    by_cases h:g = f
    · have hb:(g == f) = true:=beq_iff_eq.mpr h
      simp only [List.lookup,hb,if_pos h]
    · have hb:(g == f) = false:=beq_eq_false_iff_ne.mpr h
      simp only [List.lookup,hb,if_neg h]
  | (k,x) :: r=>by
    have ih:=lookup_putF f g v r
    rw [show putF f v ((k,x) :: r) = (if k = f then (k,v) :: r else (k,x) :: putF f v r) from rfl]
    by_cases hk:k = f
    · rw [if_pos hk]
      by_cases h:g = k
      · have hb:(g == k) = true:=beq_iff_eq.mpr h
        simp only [List.lookup,hb,if_pos (h.trans hk)]
      · have hb:(g == k) = false:=beq_eq_false_iff_ne.mpr h
        simp only [List.lookup,hb,if_neg (fun e:g = f=>h (e.trans hk.symm))]
    · rw [if_neg hk]
      by_cases h:g = k
      · have hb:(g == k) = true:=beq_iff_eq.mpr h
        simp only [List.lookup,hb,if_neg (fun e:g = f=>hk (h.symm.trans e))]
      · have hb:(g == k) = false:=beq_eq_false_iff_ne.mpr h
        simp only [List.lookup,hb]
        exact ih
theorem keys_putF (f:Str) (v:V):∀ fs:List (Str×V),f∈(putF f v fs).map (·.1)∧∀ g,g∈fs.map (·.1)→g∈(putF f v fs).map (·.1)
  | []=>⟨by simp [putF],fun g h=>by simp at h⟩
  | (k,x) :: r=>by
    obtain ⟨i1,i2⟩:=keys_putF f v r
    rw [show putF f v ((k,x) :: r) = (if k = f then (k,v) :: r else (k,x) :: putF f v r) from rfl]
    by_cases hk:k = f
    · rw [if_pos hk]
      subst hk
      exact ⟨by simp,fun g h=>by simpa using h⟩
    · rw [if_neg hk]
      refine ⟨?_,fun g h=>?_⟩
      · rw [List.map_cons]
        exact List.mem_cons_of_mem _ i1
      · rw [List.map_cons] at h ⊢
        rcases List.mem_cons.mp h with e | e
        · exact List.mem_cons.mpr (.inl e)
        · exact List.mem_cons_of_mem _ (i2 g e)
theorem length_putF (f:Str) (v:V):∀ fs:List (Str×V),(putF f v fs).length≤fs.length + 1
  | []=>by simp [putF]
  | (k,x) :: r=>by
    have ih:=length_putF f v r
    rw [show putF f v ((k,x) :: r) = (if k = f then (k,v) :: r else (k,x) :: putF f v r) from rfl]
    by_cases hk:k = f
    · rw [if_pos hk,List.length_cons,List.length_cons]; omega
    · rw [if_neg hk,List.length_cons,List.length_cons]; omega
theorem RelO.some_of {v:V} {o:Option Value} (r:RelO (some v) o):∃ u,o = some u∧RelV v u:=by
  cases o with
  | none=>exact (show False from r).elim
  | some u=>exact ⟨u,rfl,r⟩
theorem RelO.none_of {o:Option Value} (r:RelO none o):o = none:=by
  cases o with
  | none=>rfl
  | some u=>exact (show False from r).elim
theorem handed_of {v:V} {u:Value} (r:RelV v u):PySem.W.handedIn u = true:=by
  cases v with
  | non=>cases (show u = Value.none from r); rfl
  | bl b=>cases (show u = Value.bool b from r); rfl
  | int i=>obtain ⟨t,e⟩:=(show ∃ t,u = Value.int i t from r); cases e; rfl
  | str x=>obtain ⟨t,e⟩:=(show ∃ t,u = Value.str x t from r); cases e; rfl
  | byt b=>obtain ⟨t,e⟩:=(show ∃ t,u = Value.bytes b t from r); cases e; rfl
  | flt b=>obtain ⟨t,e⟩:=(show ∃ t,u = Value.float b t from r); cases e; rfl
  | ref a=>cases (show u = Value.ref a from r); rfl
  | ty n=>cases (show u = Value.type n from r); rfl
section
variable {P:Program} {w:World} {H H':Hp} {h h':Heap} {a C dx:Addr} {fs fs':List (Str×V)}
theorem ins_get (hok:HOk P w H h) (e:H a = some (.ins C dx fs)):∃ mA,ObjM h a dx C mA∧(∀ f,RelO (fs.lookup f) (mA f))∧PySem.Within mA (fs.map (·.1))∧fs.length≤1000∧H dx = some (.own a):=by
  obtain ⟨d,z,ne,ob,mA,n,r,q⟩:=(show ObjOk P w H h a (.ins C dx fs) from hok a _ e)
  exact ⟨mA,⟨ob,n,ne⟩,r,q,z,d⟩
end
structure Cls (K:PySem.W.Frag) (C:Addr):Prop where
  pg:PySem.W.plainGet K C Str.empty = true
  hd:PySem.W.hasDictIn K C = true
  po:PySem.W.plainOver K C = true
  sa:PySem.W.findIn K (.ref C) "__setattr__" = some (some (.builtin "object.__setattr__"))
theorem Cls.get {K:PySem.W.Frag} {C:Addr} (c:Cls K C) (f:Str):PySem.W.plainGet K C f = true:=c.pg
def NoAttr (K:PySem.W.Frag) (C:Addr) (f:Str):Prop:=PySem.W.findIn K (.ref C) f = some none
theorem NoAttr.taker {K:PySem.W.Frag} {C:Addr} {f:Str} (n:NoAttr K C f):PySem.W.takerIn K C f = some none:=by
  unfold PySem.W.takerIn
  rw [show PySem.W.findIn K (.ref C) f = some none from n]
  rfl
structure Con (K:PySem.W.Frag) (C:Addr) (f:Str) (v:V) (u:Value):Prop where
  at_:PySem.W.findIn K (.ref C) f = some (some u)
  rel:RelV v u
  get:PySem.W.specialIn K u "__get__" = some none
  cp:PySem.W.copiedNames.contains f = false
structure Meth (K:PySem.W.Frag) (C:Addr) (m:Str) (f:Addr):Prop where
  at_:PySem.W.findIn K (.ref C) m = some (some (.ref f))
  fn:PySem.W.isFn K (.ref f) = true
  kp:PySem.W.keepIn K (.ref f) = true
section
variable {X:Cx} {pins:List (Addr×Obj)} {σ:St} {H:Hp} {s:Shared} {a C dx:Addr} {fs:List (Str×V)} {f:Str} {v:V} {A:Around} {E:Value→Shared→Prop}
theorem getattr_ok {b:Bool} {Q:Value→Shared→Prop} (I:Inv X pins σ H s) (e:H a = some (.ins C dx fs)) (c:Cls X.K C) (n:NoAttr X.K C f) (l:fs.lookup f = some v)
    (h:∀ u s',Inv X pins σ H s'→RelV v u→Q u s'):wpAny (model X.prog X.w) A (getAttr (.ref a) f b) Q E s:=by
  obtain ⟨mA,O,r,_,_,_⟩:=ins_get I.hok e
  obtain ⟨u,hu,ru⟩:=RelO.some_of (v:=v) (o:=mA f) (by rw [← l]; exact r f)
  exact get_map I.kIn O (c.get f) c.hd n hu (handed_of ru) (h u _ (I.tok _) ru)
theorem getmeth_ok {m:Str} {g:Addr} {pl:Sem Bool} {Q:Value×List Value→Shared→Prop} (I:Inv X pins σ H s) (e:H a = some (.ins C dx fs)) (c:Cls X.K C) (k:Meth X.K C m g) (l:fs.lookup m = none)
    (h:Q (.ref g,[.ref a]) s):wpAny (model X.prog X.w) A (getMethod (.ref a) m pl) Q E s:=by
  obtain ⟨mA,O,r,_,_,_⟩:=ins_get I.hok e
  have hn:mA m = none:=RelO.none_of (by rw [← l]; exact r m)
  exact get_meth I.kIn O (c.get m) k.at_ k.fn hn h
theorem setattr_ok {y:V} {u:Value} {Q:Unit→Shared→Prop} (I:Inv X pins σ H s) (e:H a = some (.ins C dx fs)) (c:Cls X.K C) (n:NoAttr X.K C f) (hl:fs.length < 1000) (ry:RelV y u)
    (h:∀ s',Inv X pins σ (upd H a (.ins C dx (putF f y fs))) s'→Q () s'):wpAny (model X.prog X.w) A (setAttr (.ref a) f u) Q E s:=by
  obtain ⟨mA,O,r,wi,_,ho⟩:=ins_get I.hok e
  have hz:(fs.map (·.1)).length≤sizeLine:=by rw [List.length_map,sizeLine_eq]; omega
  refine set_map I.kIn O c.sa c.po n.taker c.hd wi hz fun h' O' sb=>h _ ?_
  have hd:∃ o,h'.get? dx = some o:=let ⟨o,_,_,e',_⟩:=O'.ns; ⟨o,e'⟩
  refine I.write (x:=a) (e:=dx) (by rw [e]; exact True.intro) (.inr ho) (fun b q hb z=>(sb.2 b hb).trans z) hd ?_
  refine ⟨by rw [upd_ne O.ne]; exact ho,?_,O.ne,O'.obj,_,O'.ns,fun g=>?_,fun g hg=>?_⟩
  · have:=length_putF f y fs; omega
  · show RelO ((putF f y fs).lookup g) (if g = f then some u else mA g)
    rw [lookup_putF]
    by_cases q:g = f
    · rw [if_pos q,if_pos q]; exact ry
    · rw [if_neg q,if_neg q]; exact r g
  · by_cases q:g = f
    · rw [q]; exact (keys_putF f y fs).1
    · refine (keys_putF f y fs).2 g (wi g fun z=>hg ?_)
      show (if g = f then some u else mA g) = none
      rw [if_neg q]; exact z
theorem Inv.made (I:Inv X pins σ H s):Inv X pins σ (upd (upd H s.heap.objs.size (.own (s.heap.objs.size + 1))) (s.heap.objs.size + 1) (.ins C s.heap.objs.size []))
    { s with heap:=(s.heap.push PySem.W.emptyDict).push (PySem.W.instObj C s.heap.objs.size) }:=by
  have e1:(s.heap.push PySem.W.emptyDict).get? s.heap.objs.size = some PySem.W.emptyDict:=Heap.get?_push_size s.heap rfl
  have e2:((s.heap.push PySem.W.emptyDict).push (PySem.W.instObj C s.heap.objs.size)).get? (s.heap.objs.size + 1) = some (PySem.W.instObj C s.heap.objs.size):=by
    have:=Heap.get?_push_size (s.heap.push PySem.W.emptyDict) (o:=PySem.W.instObj C s.heap.objs.size) rfl
    rwa [Heap.size_push] at this
  have e3:(s.heap.push PySem.W.emptyDict).Ns s.heap.objs.size (fun _=>none):=⟨PySem.W.emptyDict,#[],_,e1,rfl,(fun e he=>absurd he (by simp)),fun _=>rfl⟩
  have I1:=I.laid (a:=s.heap.objs.size) (o:=.own (s.heap.objs.size + 1)) (h':=s.heap.push PySem.W.emptyDict) (t':=s.toks) (fun b u q=>Heap.get?_push_of_some _ q) (Nat.le_refl _) ⟨_,e1⟩
  refine I1.laid (a:=s.heap.objs.size + 1) (o:=.ins C s.heap.objs.size []) (t':=s.toks) (fun b u q=>Heap.get?_push_of_some _ q) (Nat.le_of_eq (Heap.size_push _ _)) ?_
  have ne:s.heap.objs.size≠s.heap.objs.size + 1:=Nat.ne_of_lt (Nat.lt_succ_self _)
  refine ⟨by rw [upd_ne ne,upd_same],Nat.zero_le _,ne,e2,fun _=>none,(Heap.Ns1.of_empty e3).at fun o q=>Heap.get?_push_of_some _ q,fun _=>True.intro,fun y hy=>absurd rfl hy⟩
theorem attr_of {prog:Program} {w:World} {env:Env} {e:Expr} {f:Str} {pos:Pos} {s:Shared} {Q:Value→Shared→Prop} (hb:attributeBase e f env (eval e env) = eval e env)
    (h:wpAny (model prog w) A (eval e env) (fun o s₁=>wpAny (model prog w) A (getAttr o f true) Q E s₁) E s):wpAny (model prog w) A (eval (.Attribute e f pos) env) Q E s :=
  Attribute_any_ h (by rw [arm_eval_Attribute,hb])
end
def tFld (K:PySem.W.Frag) (ta:TE) (f:Str):TE:=fun σ H Q=>ta σ H fun x H1=>∃ a C dx fs v,x = .ref a∧H1 a = some (.ins C dx fs)∧Cls K C∧NoAttr K C f∧fs.lookup f = some v∧Q v H1
def sFld (K:PySem.W.Frag) (ta tv:TE) (f:Str):TS:=fun D σ H=>tv σ H fun y H1=>ta σ H1 fun x H2=>∃ a C dx fs,x = .ref a∧H2 a = some (.ins C dx fs)∧Cls K C∧NoAttr K C f∧fs.length < 1000 ∧
  D.nx σ (upd H2 a (.ins C dx (putF f y fs)))
section
variable {X:Cx} {o e value:Expr} {f:Str} {pos pos' tpos:Pos} {ta tv:TE}
theorem pe_fld (he:PE X e ta) (hb:attributeBase e f X.env (eval e X.env) = eval e X.env):PE X (.Attribute e f pos) (tFld X.K ta f):=by
  intro pins s σ H Q I h
  refine attr_of hb (thn (he pins s σ H _ I h) fun u s1 ⟨x,H1,I1,rx,a,C,dx,fs,v,ex,ea,c,n,l,q⟩=>?_)
  subst ex
  obtain rfl:u = Value.ref a:=rx
  exact getattr_ok I1 ea c n l fun u' s2 I2 ru=>⟨v,H1,I2,ru,q⟩
theorem ps_fld (ha:PE X o ta) (hv:PE X value tv) (hs:swapsWith value (some (.Attribute o f pos')) pos.line X.env = pure false):PS X (.Assign [.Attribute o f pos'] value pos) (sFld X.K ta tv f):=by
  intro pins s σ H D I h
  refine plainObj_wpAny_Assign_Attribute (thn (hv pins s σ H _ I h) fun u s1 ⟨y,H1,I1,ry,q⟩=>thn (ha pins s1 σ H1 _ I1 q) fun ov s2 ⟨x,H2,I2,rx,a,C,dx,fs,ex,ea,c,n,l,q2⟩=>?_) hs
  subst ex
  obtain rfl:ov = Value.ref a:=rx
  exact setattr_ok I2 ea c n l ry fun s3 I3=>⟨σ,_,I3,q2⟩
end
section
variable {X:Cx} {pins:List (Addr×Obj)} {σ:St} {H:Hp} {s:Shared} {A:Around} {E:Value→Shared→Prop} {Q:Value→Shared→Prop} {c:Value} {b:Bool}
inductive TyOf (K:PySem.W.Frag) (H:Hp):V→Value→Prop where
  | non:TyOf K H .non (.type "NoneType")
  | bl (x:Bool):TyOf K H (.bl x) (.type "bool")
  | int (i:Int):TyOf K H (.int i) (.type "int")
  | str (x:Str):TyOf K H (.str x) (.type "str")
  | flt (x:UInt64):TyOf K H (.flt x) (.type "float")
  | lst {a:Addr} {xs:List V} (e:H a = some (.lst xs)):TyOf K H (.ref a) (.type "list")
  | frz {a:Addr} {o:Obj} {xs:List V} (e:H a = some (.frz o (.lst xs))):TyOf K H (.ref a) (.type "list")
  | tup {a:Addr} {xs:List V} (e:H a = some (.tup xs)):TyOf K H (.ref a) (.type "tuple")
  | dK {a:Addr} {kvs:List (Key×V)} (e:H a = some (.dK kvs)):TyOf K H (.ref a) (.type "dict")
  | dT {a:Addr} {kvs:List (List Key×V)} (e:H a = some (.dT kvs)):TyOf K H (.ref a) (.type "dict")
  | ins {a C dx:Addr} {fs:List (Str×V)} (e:H a = some (.ins C dx fs)) (cl:Cls K C) (ha:PySem.W.findIn K (.ref C) "__class__" = some (some (.builtin "object.__class__")))
      (hn:PySem.W.specialIn K (.builtin "object.__class__") "__get__" = some (some (.builtin "getset_descriptor.__get__"))) (htk:PySem.W.takesIn K (.builtin "object.__class__") = some true)
      (hm:PySem.W.mroIn K C (.type "object") = some true):TyOf K H (.ref a) (.ref C)
theorem isinst_ok {x:V} {u t:Value} (I:Inv X pins σ H s) (rx:RelV x u) (ty:TyOf X.K H x t) (e:PySem.W.kitOne X.K t c = some b) (h:∀ tk,Q (.bool b) { s with toks:=tk }) :
    wpAny (model X.prog X.w) A (call (.builtin "isinstance") [u,c]) Q E s:=by
  cases ty with
  | non=>cases (show u = Value.none from rx); exact PySem.W.kia_one PySem.W.kitx_none I.kIn True.intro e (fun z=>nomatch z) h
  | bl y=>cases (show u = Value.bool y from rx); exact PySem.W.kia_one PySem.W.kitx_bool I.kIn True.intro e (fun z=>nomatch z) h
  | int i=>obtain ⟨t,q⟩:=(show ∃ t,u = Value.int i t from rx); cases q; exact PySem.W.kia_one PySem.W.kitx_int I.kIn True.intro e (fun z=>nomatch z) h
  | str y=>obtain ⟨t,q⟩:=(show ∃ t,u = Value.str y t from rx); cases q; exact PySem.W.kia_one PySem.W.kitx_str I.kIn True.intro e (fun z=>nomatch z) h
  | flt y=>obtain ⟨t,q⟩:=(show ∃ t,u = Value.float y t from rx); cases q; exact PySem.W.kia_one PySem.W.kitx_float I.kIn True.intro e (fun z=>nomatch z) h
  | @lst a xs ea =>
    cases (show u = Value.ref a from rx)
    obtain ⟨_,_,n,_,h1⟩:=(show ObjOk X.prog X.w H s.heap a (.lst xs) from I.hok a _ ea)
    exact PySem.W.kia_one PySem.W.kitx_list I.kIn ⟨_,h1,rfl⟩ e (fun z=>nomatch z) h
  | @frz a ob xs ea =>
    cases (show u = Value.ref a from rx)
    obtain ⟨_,_,_,n,_,h1⟩:=(show ObjOk X.prog X.w H s.heap a (.frz ob (.lst xs)) from I.hok a _ ea)
    exact PySem.W.kia_one PySem.W.kitx_list I.kIn ⟨_,h1,rfl⟩ e (fun z=>nomatch z) h
  | @tup a xs ea =>
    cases (show u = Value.ref a from rx)
    obtain ⟨_,_,_,p⟩:=(show ObjOk X.prog X.w H s.heap a (.tup xs) from I.hok a _ ea)
    obtain ⟨o,h1,h2,_⟩:=p
    exact PySem.W.kia_one PySem.W.kitx_tuple I.kIn ⟨o,h1,h2⟩ e (fun z=>nomatch z) h
  | @dK a kvs ea =>
    cases (show u = Value.ref a from rx)
    obtain ⟨_,_,vs,_,p⟩:=(show ObjOk X.prog X.w H s.heap a (.dK kvs) from I.hok a _ ea)
    obtain ⟨o,es,ep,h1,h2,_⟩:=p
    exact PySem.W.kia_one PySem.W.kitx_dict I.kIn ⟨o,h1,h2.1⟩ e (fun z=>nomatch z) h
  | @dT a kvs ea =>
    cases (show u = Value.ref a from rx)
    obtain ⟨_,_,xs,_,o,es,ep,h1,h2,_⟩:=(show ObjOk X.prog X.w H s.heap a (.dT kvs) from I.hok a _ ea)
    exact PySem.W.kia_one PySem.W.kitx_dict I.kIn ⟨o,h1,h2.1⟩ e (fun z=>nomatch z) h
  | @ins a C dx fs ea cl ha hn htk hm =>
    cases (show u = Value.ref a from rx)
    obtain ⟨mA,O,_⟩:=ins_get I.hok ea
    obtain ⟨od,J,_⟩:=O.look
    exact PySem.W.kia_one (PySem.W.kitx_own (cl.get _) cl.hd ha hn htk hm) I.kIn J e (fun z=>nomatch z) h
end
end L2
namespace L2
open PySem PySem.Spec PyProof.Rows
structure Room (k:Nat) (A:Around):Prop where
  hd:A.handled = none
  dp:A.depth + 3 * k + 5 < recursionLimit
  un:A.units + 16 * k + 200 < cLine
theorem Room.mono {j k:Nat} {A:Around} (r:Room k A) (h:j≤k):Room j A:=⟨r.hd,by have:=r.dp; omega,by have:=r.un; omega⟩
theorem Room.deeper {k:Nat} {A:Around} (r:Room (k + 1) A) (env:Env):Room k (A.deeper env) :=
  ⟨r.hd,by have:=r.dp; show A.depth + 1 + 3 * k + 5 < _; omega,by have:=r.un; show A.units + 3 + 16 * k + 200 < _; omega⟩
theorem Room.in1 {k:Nat} {A:Around} (r:Room (k + 1) A):Room k A.in1 :=
  ⟨r.hd,by have:=r.dp; show A.depth + 3 * k + 5 < _; omega,by have:=r.un; show A.units + 1 + 16 * k + 200 < _; omega⟩
theorem make_depth {A:Around} {C:Addr} {us:List Value} {kw:List (Str×Value)}:(A.under (.builtin "type.__call__" ⟨.ref C :: us,kw⟩)).depth = A.depth + 1:=by
  first | rfl | simp [Around.under,Code.weight,Code.isCreation,Code.isGuard,Code.isCaller,Code.frames,Code.isFrame,guardIds]
theorem make_units {A:Around} {C:Addr} {us:List Value} {kw:List (Str×Value)}:(A.under (.builtin "type.__call__" ⟨.ref C :: us,kw⟩)).units = A.units + 1:=by
  first | rfl | simp [Around.under,Code.cUnits,Code.frames,Code.isFrame]
theorem Room.make {k:Nat} {A:Around} (r:Room (k + 1) A) (C:Addr) (us:List Value) (kw:List (Str×Value)):Room k (A.under (.builtin "type.__call__" ⟨.ref C :: us,kw⟩)) :=
  ⟨r.hd,by have:=r.dp; rw [make_depth]; omega,by have:=r.un; rw [make_units]; omega⟩
theorem Room.depth {k:Nat} {A:Around} (r:Room k A):A.depth < recursionLimit:=by have:=r.dp; omega
theorem Room.units {k:Nat} {A:Around} (r:Room k A):A.units + 64 < cLine:=by have:=r.un; omega
theorem Room.units0 {k:Nat} {A:Around} (r:Room k A):A.units < cLine:=by have:=r.un; omega
def tNil:TA:=fun _ H Q=>Q [] H
def tCons (ta:TE) (tr:TA):TA:=fun σ H Q=>ta σ H fun x H1=>tr σ H1 fun xs H2=>Q (x :: xs) H2
section
variable {X:Cx} {e:Expr} {es:List Expr} {te:TE} {t:TA} {pos:Pos}
theorem pa_nil:PA X [] tNil:=fun _ _ _ _ H Q I h=>Calls.spliced_nil ⟨[],H,I,.nil,h⟩
theorem pa_cons (ha:PE X e te) (hr:PA X es t) (hs:starEach (e :: es) X.env = (false,eval e X.env) :: starEach es X.env:=by rfl):PA X (e :: es) (tCons te t):=by
  intro pos pins s σ H Q I h
  rw [hs]
  show wpAny _ _ (spliced ((false,eval e X.env) :: backTo pos (starEach es X.env))) _ _ s
  refine Calls.spliced_cons (thn (ha pins s σ H _ I h) fun u s1 ⟨x,H1,I1,r1,q1⟩=>?_)
  exact thn (hr pos pins s1 σ H1 _ I1 q1) fun us s2 ⟨xs,H2,I2,r2,q2⟩=>⟨x :: xs,H2,I2,.cons r1 r2,q2⟩
def tTup (t:TA):TE:=fun σ H Q=>t σ H fun xs H1=>xs.length≤sizeLine∧∀ p,H1 p = none→Q (.ref p) (upd H1 p (.tup xs))
def tLst (t:TA):TE:=fun σ H Q=>t σ H fun xs H1=>xs.length≤sizeLine∧∀ p,H1 p = none→Q (.ref p) (upd H1 p (.lst xs))
theorem pe_tup {x1} (h:PA X es t):PE X (.Tuple es x1 pos) (tTup t):=by
  intro pins s σ H Q I hq
  refine wpAny_Tuple_spliced (thn (h pos pins s σ H _ I hq) fun us s1 ⟨xs,H1,I1,r,z,q⟩=>⟨by rw [← r.length]; exact z,?_⟩)
  have hf:H1 s1.heap.objs.size = none:=I1.hok.fresh (Nat.le_refl _)
  refine ⟨.ref s1.heap.objs.size,upd H1 s1.heap.objs.size (.tup xs),I1.laid (t':=s1.toks) (fun b u e=>Heap.get?_push_of_some _ e) (Nat.le_refl _) ?_,rfl,q _ hf⟩
  exact ⟨z,us,r,⟨_,Heap.get?_push_size _ rfl,rfl,_,rfl⟩⟩
theorem pe_lst (h:PA X es t):PE X (.List es pos) (tLst t):=by
  intro pins s σ H Q I hq
  refine wpAny_List_spliced (thn (h pos pins s σ H _ I hq) fun us s1 ⟨xs,H1,I1,r,z,q⟩=>⟨by rw [← r.length]; exact z,?_⟩)
  have hf:H1 s1.heap.objs.size = none:=I1.hok.fresh (Nat.le_refl _)
  refine ⟨.ref s1.heap.objs.size,upd H1 s1.heap.objs.size (.lst xs),I1.laid (t':=s1.toks) (fun b u e=>Heap.get?_push_of_some _ e) (Nat.le_refl _) ?_,rfl,q _ hf⟩
  exact ⟨z,us,0,r,Heap.get?_push_size _ rfl⟩
end
abbrev Sp:=List V→Hp→VK→XK→Prop
abbrev CXT:=List Env→Hp→Shared→XK→Value→Shared→Prop
structure Env0 (P:Program) (w:World) (K:PySem.W.Frag) (mg:Str→Option Value) (base:Heap) (A:Around) (outer:List Env) (s:Shared) (H:Hp):Prop where
  frames:A.frames = some outer
  mod:Mod K mg base
  bs:∀ b o,base.get? b = some o→s.heap.get? b = some o∧H b = none
  bsz:base.objs.size≤s.heap.objs.size
  funs:s.heap.FunFrames base outer
  frf:∀ b∈frs outer,H b = none
  hok:HOk P w H s.heap
  bare:AllBare s.gens
def CE (outer:List Env) (P:Program) (w:World) (H:Hp) (s:Shared) (Q:VK) (u:Value) (s':Shared):Prop :=
  ∃ v H',s'.os = s.os∧AllBare s'.gens∧Un (frs outer) [] H H' s.heap s'.heap∧HOk P w H' s'.heap∧RelV v u∧Q v H'
def CR (CX:CXT) (outer:List Env) (P:Program) (w:World) (H:Hp) (s:Shared) (Q:VK) (E:XK) (r:Result) (s':Shared):Prop :=
  match r with
  | .ok (.ret u)=>CE outer P w H s Q u s'
  | .ok _=>False
  | .error e=>CX outer H s E e s'
structure FnOk (P:Program) (w:World) (K:PySem.W.Frag) (mg:Str→Option Value) (base:Heap) (CX:CXT) (k:Nat) (f:Addr) (fd:FuncData) (ps:List Str) (sp:Sp):Prop where
  len:∀ vs H Q E,sp vs H Q E→vs.length = ps.length
  run:∀ (A:Around) (outer:List Env) (s:Shared) (H:Hp) (args:Args) (us:List Value) (vs:List V) (Q:VK) (E:XK),Room k A→Env0 P w K mg base A outer s H→BindsTo s fd args (ps.zip us)→Vals vs us→sp vs H Q E →
    codeAny (model P w) A (.call (.ref f) args) (CR CX outer P w H s Q E) s
theorem Env0.make {P:Program} {w:World} {K:PySem.W.Frag} {mg:Str→Option Value} {base:Heap} {A:Around} {outer:List Env} {s:Shared} {H:Hp} (e:Env0 P w K mg base A outer s H) (C:Addr) (us:List Value) (kw:List (Str×Value)) :
    Env0 P w K mg base (A.under (.builtin "type.__call__" ⟨.ref C :: us,kw⟩)) outer s H:=⟨by first | exact e.frames | (simpa [Around.under,Code.envs,Code.isFrame,pushEnvs] using e.frames),e.mod,e.bs,e.bsz,e.funs,e.frf,e.hok,e.bare⟩
section
variable {X:Cx} {pins:List (Addr×Obj)} {σ:St} {H:Hp} {s s':Shared}
theorem Inv.env0 (I:Inv X pins σ H s):Env0 X.prog X.w X.K X.mg X.base X.A X.stack s H :=
  ⟨I.ok.frames,I.ok.mod,I.bs,Nat.le_trans I.ok.bsz I.sz,I.stack,I.stkFree,I.hok,I.bare⟩
theorem Inv.after {Q:VK} {u:Value} (I:Inv X pins σ H s) (h:CE X.stack X.prog X.w H s Q u s'):EP X pins σ Q u s':=by
  obtain ⟨v,H',os,bare,un,hok,r,q⟩:=h
  obtain ⟨hh,g,d,t,os'⟩:=s'
  obtain rfl:os' = s.os:=os
  exact ⟨v,H',I.call (h':=hh) (g':=g) (d':=d) (t':=t) (ch:=[]) un hok bare (fun b z=>absurd z (by simp)),r,q⟩
end
def tCall (sp:Sp) (dvs:List V) (E:XK) (t:TA):TE:=fun σ H Q=>t σ H fun vs H1=>sp (vs ++ dvs) H1 Q E
def tMeth (C:Addr) (m:Str) (sp:Sp) (dvs:List V) (E:XK) (ta:TE) (t:TA):TE:=fun σ H Q=>ta σ H fun x H1=>∃ a dx fs,x = .ref a∧H1 a = some (.ins C dx fs)∧fs.lookup m = none ∧
  t σ H1 fun vs H2=>sp (x :: (vs ++ dvs)) H2 Q E
def tMake (C:Addr) (sp:Sp) (dvs:List V) (E:XK) (t:TA):TE:=fun σ H Q=>t σ H fun vs H1=>∀ x dx,H1 x = none→H1 dx = none→dx≠x →
  sp (.ref x :: (vs ++ dvs)) (upd (upd H1 dx (.own x)) x (.ins C dx [])) (fun v H2=>v = .non∧Q (.ref x) H2) E
def Binds (K:PySem.W.Frag) (fd:FuncData) (ps:List Str) (ds:List Value):Prop :=
  ∀ (s:Shared) (us:List Value),K.In s.heap→(us ++ ds).length = ps.length→BindsTo s fd ⟨us,[]⟩ (ps.zip (us ++ ds))
theorem Binds.all {K:PySem.W.Frag} {fd:FuncData} {ps:List Str} (h:∀ us:List Value,us.length = ps.length→bindArgs fd ⟨us,[]⟩ = pure (ps.zip us)):Binds K fd ps []:=fun s us _ hl=>by
  rw [List.append_nil] at hl ⊢
  exact .of_eq (h us hl)
def Passes (CX:CXT) (X:Cx) (E:XK):Prop:=∀ (pins:List (Addr×Obj)) (σ:St) (H:Hp) (s:Shared) (e:Value) (s':Shared),Inv X pins σ H s→CX X.stack H s E e s'→X.xe e s'
section
variable {X:Cx} {CX:CXT} {k:Nat} {f C:Addr} {fd:FuncData} {ps:List Str} {sp:Sp} {dvs:List V} {ds:List Value} {E:XK} {x m:Str} {p pos apos:Pos} {e o:Expr} {es:List Expr} {ta:TE} {t:TA}
theorem run_fn {pins:List (Addr×Obj)} {σ:St} {H:Hp} {s:Shared} {Q:VK} {us:List Value} {vs:List V} (F:FnOk X.prog X.w X.K X.mg X.base CX k f fd ps sp) (hr:Room k X.A) (hb:Binds X.K fd ps ds) (hd:Vals dvs ds) (hx:Passes CX X E)
    (I:Inv X pins σ H s) (r:Vals vs us) (h:sp (vs ++ dvs) H Q E):wpAny (model X.prog X.w) X.A (call (.ref f) us) (EP X pins σ Q) X.xe s:=by
  have r2:Vals (vs ++ dvs) (us ++ ds):=r.append hd
  have hl:(us ++ ds).length = ps.length:=by rw [← r2.length]; exact F.len _ _ _ _ h
  refine wpAny_call (codeAny_mono (F.run X.A X.stack s H ⟨us,[]⟩ (us ++ ds) (vs ++ dvs) Q E hr I.env0 (hb s us I.kIn hl) r2 h) fun r s' hq=>?_)
  cases r with
  | error e=>exact hx pins σ H s e s' I hq
  | ok fl =>
    cases fl with
    | ret u=>exact I.after hq
    | next=>exact False.elim hq
    | brk=>exact False.elim hq
    | cont=>exact False.elim hq
theorem pe_call (F:FnOk X.prog X.w X.K X.mg X.base CX k f fd ps sp) (hr:Room k X.A) (hg:Gl X x) (hm:X.mg x = some (.ref f)) (hk:PySem.W.keepIn X.K (.ref f) = true) (hb:Binds X.K fd ps ds) (hd:Vals dvs ds) (hx:Passes CX X E)
    (ha:PA X (e :: es) t) (hdb:(x == ("__debug__" : Str)) = false:=by decide) (he:starEach (e :: es) X.env = (false,eval e X.env) :: starEach es X.env:=by rfl) (hpl:(backTo pos (starEach es X.env)).any (·.1) = false:=by rfl) :
    PE X (.Call (.Name x p) (e :: es) [] pos) (tCall sp dvs E t):=by
  intro pins s σ H Q I h
  refine wpAny_Call_Name_kw (ld_glob I hg hm ?_ hdb)
  refine PySem.W.callWith_K (h₀:=X.base) I.ok.mod.kin hk (thn (ha pos pins s σ H _ I h) fun us s1 ⟨vs,H1,I1,r,q⟩=>⟨I1.kIn,?_⟩) he hpl
  exact run_fn F hr hb hd hx I1 r q
theorem pe_meth {pl:Sem Bool} (he:PE X o ta) (c:Cls X.K C) (hm:Meth X.K C m f) (F:FnOk X.prog X.w X.K X.mg X.base CX k f fd ps sp) (hr:Room k X.A) (hb:Binds X.K fd ps ds) (hd:Vals dvs ds) (hx:Passes CX X E) (ha:PA X (e :: es) t)
    (hst:starEach (e :: es) X.env = (false,eval e X.env) :: starEach es X.env:=by rfl) (hpl:(backTo pos (starEach es X.env)).any (·.1) = false:=by rfl)
    (ht:eval (.Call (.Attribute o m apos) (e :: es) [] pos) X.env = (do
      let ov ← eval o X.env
      standAt apos.atName
      let (f,first) ← holding [ov] (getMethod ov m pl)
      callWith pos f first (backTo pos (starEach (e :: es) X.env)) (backToKw pos (keywordEach [] X.env))):=by rfl) :
    PE X (.Call (.Attribute o m apos) (e :: es) [] pos) (tMeth C m sp dvs E ta t):=by
  intro pins s σ H Q I h
  refine PySem.W.methodCall_KW (pl:=pl) (thn (he pins s σ H _ I h) fun u s1 ⟨x,H1,I1,rx,a,dx,fs,ex,ea,l,q⟩=>?_) ht
  subst ex
  obtain rfl:u = Value.ref a:=rx
  refine getmeth_ok I1 ea c hm l ?_
  refine PySem.W.callWith_K (first:=[.ref a]) (h₀:=X.base) I.ok.mod.kin hm.kp (thn (ha pos pins s1 σ H1 _ I1 q) fun us s2 ⟨vs,H2,I2,r,q2⟩=>⟨I2.kIn,?_⟩) hst hpl
  exact run_fn (us:=.ref a :: us) (vs:=.ref a :: vs) F hr hb hd hx I2 (.cons rfl r) q2
theorem pe_meth0 {pl:Sem Bool} (he:PE X o ta) (c:Cls X.K C) (hm:Meth X.K C m f) (F:FnOk X.prog X.w X.K X.mg X.base CX k f fd ps sp) (hr:Room k X.A) (hb:Binds X.K fd ps ds) (hd:Vals dvs ds) (hx:Passes CX X E)
    (ht:eval (.Call (.Attribute o m apos) [] [] pos) X.env = (do
      let ov ← eval o X.env
      standAt apos.atName
      let (f,first) ← holding [ov] (getMethod ov m pl)
      callWith pos f first (backTo pos (starEach [] X.env)) (backToKw pos (keywordEach [] X.env))):=by rfl) :
    PE X (.Call (.Attribute o m apos) [] [] pos) (tMeth C m sp dvs E ta tNil):=by
  intro pins s σ H Q I h
  refine PySem.W.methodCall_KW (pl:=pl) (thn (he pins s σ H _ I h) fun u s1 ⟨x,H1,I1,rx,a,dx,fs,ex,ea,l,q⟩=>?_) ht
  subst ex
  obtain rfl:u = Value.ref a:=rx
  refine getmeth_ok I1 ea c hm l ?_
  exact PySem.W.callWith_K0 (first:=[.ref a]) I1.kIn hm.kp (run_fn (us:=[.ref a]) (vs:=[.ref a]) F hr hb hd hx I1 (.cons rfl .nil) q)
structure Mk (K:PySem.W.Frag) (C f:Addr):Prop where
  makes:PySem.W.makesIn K C = true
  init:PySem.W.findIn K (.ref C) "__init__" = some (some (.ref f))
  fn:PySem.W.isFn K (.ref f) = true
  kp:PySem.W.keepIn K (.ref C) = true
theorem run_make {pins:List (Addr×Obj)} {σ:St} {H:Hp} {s:Shared} {Q:VK} {us:List Value} {vs:List V} (M:Mk X.K C f) (F:FnOk X.prog X.w X.K X.mg X.base CX k f fd ps sp) (hr:Room (k + 1) X.A) (hb:Binds X.K fd ps ds) (hd:Vals dvs ds)
    (hx:Passes CX X E) (I:Inv X pins σ H s) (r:Vals vs us)
    (h:∀ x dx,H x = none→H dx = none→dx≠x→sp (.ref x :: (vs ++ dvs)) (upd (upd H dx (.own x)) x (.ins C dx [])) (fun v H2=>v = .non∧Q (.ref x) H2) E) :
    wpAny (model X.prog X.w) X.A (call (.ref C) us) (EP X pins σ Q) X.xe s:=by
  have hq:=h (s.heap.objs.size + 1) s.heap.objs.size (I.hok.fresh (Nat.le_succ _)) (I.hok.fresh (Nat.le_refl _)) (Nat.ne_of_lt (Nat.lt_succ_self _))
  have I2:=Inv.made (C:=C) I
  have r2:Vals (V.ref (s.heap.objs.size + 1) :: (vs ++ dvs)) (Value.ref (s.heap.objs.size + 1) :: (us ++ ds)):=.cons rfl (r.append hd)
  have hl:(Value.ref (s.heap.objs.size + 1) :: us ++ ds).length = ps.length:=by
    have e:=r2.length
    rw [F.len _ _ _ _ hq] at e
    exact e.symm
  refine wpAny_call (make_map (f:=f) I.kIn M.makes M.init (beq_iff_eq.mp M.fn) (codeAny_mono (F.run _ X.stack _ _ ⟨Value.ref (s.heap.objs.size + 1) :: us,[]⟩ (Value.ref (s.heap.objs.size + 1) :: (us ++ ds)) _ _ E (hr.make C us [])
    (I2.env0.make C us []) (hb _ (Value.ref (s.heap.objs.size + 1) :: us) I2.kIn hl) r2 hq) fun r s' hq'=>?_))
  cases r with
  | error e=>exact hx pins σ _ _ e s' I2 hq'
  | ok fl =>
    cases fl with
    | ret u =>
      obtain ⟨v,H',I3,rv,ev,q3⟩:=I2.after hq'
      subst ev
      exact ⟨rv,⟨V.ref (s.heap.objs.size + 1),H',I3,rfl,q3⟩⟩
    | next=>exact False.elim hq'
    | brk=>exact False.elim hq'
    | cont=>exact False.elim hq'
theorem pe_make0 (M:Mk X.K C f) (F:FnOk X.prog X.w X.K X.mg X.base CX k f fd ps sp) (hr:Room (k + 1) X.A) (hg:Gl X x) (hm:X.mg x = some (.ref C)) (hb:Binds X.K fd ps ds) (hd:Vals dvs ds) (hx:Passes CX X E)
    (hdb:(x == ("__debug__" : Str)) = false:=by decide):PE X (.Call (.Name x p) [] [] pos) (tMake C sp dvs E tNil):=by
  intro pins s σ H Q I h
  refine wpAny_Call_Name_kw (ld_glob I hg hm ?_ hdb)
  exact PySem.W.callWith_K0 I.kIn M.kp (run_make (us:=[]) M F hr hb hd hx I .nil h)
end
def PK (X:Cx) (kws:List Keyword) (t:TA):Prop :=
  ∀ (pos:Pos) (pins:List (Addr×Obj)) (s:Shared) (σ:St) (H:Hp) (Q:List V→Hp→Prop),Inv X pins σ H s→t σ H Q→wpAny (model X.prog X.w) X.A (evalAll ((backToKw pos (keywordEach kws X.env)).map (·.2))) (AP X pins σ Q) X.xe s
section
variable {X:Cx} {CX:CXT} {k:Nat} {f C:Addr} {fd:FuncData} {ps ks:List Str} {sp:Sp} {E:XK} {x m:Str} {p pos apos kpos:Pos} {e o:Expr} {es:List Expr} {kws:List Keyword} {te ta:TE} {t tk:TA} {nm:Option Str}
theorem pk_nil:PK X [] tNil:=fun _ _ _ _ H Q I h=>wpAny_evalAll_nil ⟨[],H,I,.nil,h⟩
theorem pk_cons (ha:PE X e te) (hr:PK X kws t):PK X (⟨nm,e,kpos⟩ :: kws) (tCons te t):=by
  intro pos pins s σ H Q I h
  show wpAny _ _ (evalAll ((do let v ← eval e X.env; standAt pos; pure v) :: (backToKw pos (keywordEach kws X.env)).map (·.2))) _ _ s
  refine wpAny_evalAll_cons (wpAny_bind (thn (ha pins s σ H _ I h) fun u s1 ⟨x,H1,I1,r1,q1⟩=>wpAny_bind (wpAny_standAt (wpAny_pure ?_))))
  exact thn (hr pos pins s1 σ H1 _ I1 q1) fun us s2 ⟨xs,H2,I2,r2,q2⟩=>⟨x :: xs,H2,I2,.cons r1 r2,q2⟩
structure KBinds (K:PySem.W.Frag) (fd:FuncData) (ps ks:List Str) (g:List Value→List Value→List Value) (gV:List V→List V→List V):Prop where
  to:∀ (s:Shared) (us ws:List Value),K.In s.heap→(g us ws).length = ps.length→BindsTo s fd ⟨us,ks.zip ws⟩ (ps.zip (g us ws))
  rel:∀ {vs:List V} {us:List Value} {zs:List V} {ws:List Value},Vals vs us→Vals zs ws→Vals (gV vs zs) (g us ws)
variable {g:List Value→List Value→List Value} {gV:List V→List V→List V}
end
structure FnScope (N P:List Str) (sc:Scope):Prop where
  kind:sc.kind = .function
  co:sc.isCoroutine = false
  gen:sc.isGenerator = false
  nd:N.Nodup
  pre:N.take P.length = P
  par:∀ x∈P,sc.names.lookup x = some .local∨sc.names.lookup x = some .cell
  nofree:∀ y∈sc.names,y.2≠.free
theorem bindL_out {kindOf:Str→Option NameKind} {x:Str}:∀ {binds:List (Str×Value)} {m:Str→Option Value},(∀ v,(x,v)∉binds)→bindL kindOf binds m x = m x
  | [],_,_=>rfl
  | (n,v) :: r,m,h=>by
    unfold bindL
    rw [bindL_out fun w hw=>h w (List.mem_cons_of_mem _ hw)]
    split
    · have:x≠n:=by rintro rfl; exact h v List.mem_cons_self
      simp [this]
    · rfl
theorem bindC_out {kindOf:Str→Option NameKind} {x:Str}:∀ {binds:List (Str×Value)} {m:Str→Option Value},(∀ v,(x,v)∉binds)→bindC kindOf binds m x = m x
  | [],_,_=>rfl
  | (n,v) :: r,m,h=>by
    unfold bindC
    rw [bindC_out fun w hw=>h w (List.mem_cons_of_mem _ hw)]
    split
    · rfl
    · have:x≠n:=by rintro rfl; exact h v List.mem_cons_self
      simp [this]
theorem bindL_get {kindOf:Str→Option NameKind} {x:Str} {v:Value}:∀ {P:List Str} {vs:List Value} {i:Nat} {m:Str→Option Value},P.Nodup→P[i]? = some x→vs[i]? = some v→kindOf x = some .local →
    bindL kindOf (P.zip vs) m x = some v
  | [],_,_,_,_,h,_,_=>by simp at h
  | _ :: _,[],_,_,_,_,h,_=>by simp at h
  | p :: P,w :: vs,0,m,nd,h1,h2,hk=>by
    simp at h1 h2; subst h1; subst h2
    show bindL kindOf ((p,w) :: P.zip vs) m p = _
    unfold bindL
    rw [bindL_out fun v hv=>(List.nodup_cons.mp nd).1 (List.of_mem_zip hv).1,if_pos hk]
    simp
  | p :: P,w :: vs,i + 1,m,nd,h1,h2,hk=>by
    show bindL kindOf ((p,w) :: P.zip vs) m x = _
    unfold bindL
    exact bindL_get (i:=i) (List.nodup_cons.mp nd).2 (by simpa using h1) (by simpa using h2) hk
theorem bindC_get {kindOf:Str→Option NameKind} {x:Str} {v:Value}:∀ {P:List Str} {vs:List Value} {i:Nat} {m:Str→Option Value},P.Nodup→P[i]? = some x→vs[i]? = some v→kindOf x≠some .local →
    bindC kindOf (P.zip vs) m x = some v
  | [],_,_,_,_,h,_,_=>by simp at h
  | _ :: _,[],_,_,_,_,h,_=>by simp at h
  | p :: P,w :: vs,0,m,nd,h1,h2,hk=>by
    simp at h1 h2; subst h1; subst h2
    show bindC kindOf ((p,w) :: P.zip vs) m p = _
    unfold bindC
    rw [bindC_out fun v hv=>(List.nodup_cons.mp nd).1 (List.of_mem_zip hv).1,if_neg hk]
    simp
  | p :: P,w :: vs,i + 1,m,nd,h1,h2,hk=>by
    show bindC kindOf ((p,w) :: P.zip vs) m x = _
    unfold bindC
    exact bindC_get (i:=i) (List.nodup_cons.mp nd).2 (by simpa using h1) (by simpa using h2) hk
def start (N:List Str) (vs:List V):St:=vs.map some ++ List.replicate (N.length - vs.length) none
def cxOf (CX:CXT) (P:Program) (w:World) (K:PySem.W.Frag) (mg:Str→Option Value) (base:Heap) (N:List Str) (qual:Str) (scope:Scope) (f:Addr) (cd:Value) (A:Around) (outer:List Env) (s:Shared) (H:Hp) (E:XK):Cx where
  prog:=P
  w:=w
  K:=K
  mg:=mg
  base:=base
  A:=A.deeper (envOfC qual scope s.heap.objs.size f cd)
  N:=N
  s₀:=s
  H₀:=H
  env:=envOfC qual scope s.heap.objs.size f cd
  outer:=outer
  stack:=envOfC qual scope s.heap.objs.size f cd :: outer
  ex:=[]
  calm:=true
  fn:=fun _=>true
  pn:=[]
  xe:=fun e s'=>wpAny (model P w) (A.deeper (envOfC qual scope s.heap.objs.size f cd)) (leaving (envOfC qual scope s.heap.objs.size f cd) e) (fun _ s''=>CX outer H s E e s'') (fun e' s''=>CX outer H s E e' s'') s'
theorem cell_has {sc:Scope} {n:Nat} {x:Str} (h:sc.names.lookup x = some .cell):∃ c,(cellsFrom n sc.names []).lookup x = some c:=by
  have q:=PySem.W.cellsFrom_some sc.names n [] (.inl h)
  exact Option.isSome_iff_exists.mp q
theorem inv_start {CX:CXT} {P:Program} {w:World} {K:PySem.W.Frag} {mg:Str→Option Value} {base:Heap} {N ps:List Str} {qual:Str} {scope:Scope} {f:Addr} {cd:Value} {A:Around} {outer:List Env} {s s1:Shared} {H:Hp} {E:XK} {us:List Value} {vs:List V}
    (S:FnScope N ps scope) (hd:A.handled = none) (e0:Env0 P w K mg base A outer s H) (hl:vs.length = ps.length) (r:Vals vs us)
    (x:InCallC s s.heap.objs.size (bindL (envOfC qual scope s.heap.objs.size f cd).kindOf (ps.zip us) fun _=>none) (cellsFrom (s.heap.objs.size + 1) scope.names []) (bindC (envOfC qual scope s.heap.objs.size f cd).kindOf (ps.zip us) fun _=>none) s1) :
    Inv (cxOf CX P w K mg base N qual scope f cd A outer s H E) [] (start N vs) H s1:=by
  have hpl:ps.length≤N.length:=by have:=congrArg List.length S.pre; rw [List.length_take] at this; omega
  obtain ⟨h1,tk,rfl,hk⟩:=x.done
  have noA:∀ b:Addr,b∉(cxOf CX P w K mg base N qual scope f cd A outer s H E).ex:=fun b z=>absurd (show b∈([]:List Addr) from z) (by simp)
  refine ⟨⟨e0.mod,S.kind,rfl,rfl,Nat.le_refl _,fun y z c h1 h2=>?_,fun y hy=>?_,fun y c _ h=>?_,fun _=>hd,Around.frames_deeper e0.frames,.inr ⟨rfl,rfl⟩,fun b z=>absurd z (noA b),e0.bs,e0.bsz,fun b _ _=>noA b,fun b z=>absurd z (noA b),e0.funs,e0.frf⟩,
    rfl,e0.bare,Un.kept hk,⟨_,x.toInCall.ns,fun i y v h1 h2 h3=>?_⟩,fun y c h=>⟨_,x.cell y c h⟩,e0.hok.fresh (Nat.le_refl _),fun y c h=>?_,fun p hp=>absurd (show p∈([]:List (Addr×Obj)) from hp) (by simp),e0.hok.kept hk,?_⟩
  · exact name_of_addr x.apart (PySem.mem_of_lookup h1) (PySem.mem_of_lookup h2)
  · have hy:scope.names.lookup y = some .cell∨scope.names.lookup y = some .free:=hy
    rcases hy with hy | hy
    · exact cell_has hy
    · exact absurd rfl (S.nofree _ (PySem.mem_of_lookup hy))
  · exact Nat.le_of_lt (x.above y c (PySem.mem_of_lookup h))
  · have hi:i < vs.length:=by
      unfold start at h2
      by_cases hi:i < vs.length
      · exact hi
      · rw [List.getElem?_append_right (by simpa using hi)] at h2
        rw [List.getElem?_replicate] at h2
        split at h2 <;> cases h2
    have ha:vs[i]? = some v:=by
      unfold start at h2
      rw [List.getElem?_append_left (by simpa using hi),List.getElem?_map] at h2
      cases e:vs[i]? with
      | none=>rw [e] at h2; cases h2
      | some a=>rw [e] at h2; cases h2; rfl
    obtain ⟨u,hu,rv⟩:=r.get ha
    have hp:ps[i]? = some y:=by
      rw [← S.pre,List.getElem?_take_of_lt (by omega)]; exact h1
    have ndP:ps.Nodup:=by rw [← S.pre]; exact S.nd.sublist (List.take_sublist _ _)
    refine ⟨u,rv,?_⟩
    rcases S.par y (List.mem_of_getElem? hp) with k | k
    · exact .inl ⟨k,bindL_get ndP hp hu k⟩
    · obtain ⟨c,e⟩:=cell_has (n:=s.heap.objs.size + 1) k
      refine .inr ⟨.inl k,c,e,?_⟩
      have q:=x.cell y c e
      rw [bindC_get ndP hp hu (by show scope.names.lookup y≠_; rw [k]; decide)] at q
      exact q
  · exact e0.hok.fresh (Nat.le_of_lt (x.above y c (PySem.mem_of_lookup h)))
  · unfold start
    show _ = N.length
    rw [List.length_append,List.length_map,List.length_replicate]
    omega
theorem fn_of {CX:CXT} {P:Program} {w:World} {K:PySem.W.Frag} {mg:Str→Option Value} {base:Heap} {k:Nat} {f:Addr} {name qual:Str} {params:Arguments} {body:List Stmt} {scope:Scope} {dV kV doc pm cdv ct oc:Value} {an od:Option Addr}
    {osl:Array (Option Value)} {N ps:List Str} {sp:Sp} (lk:K.lookup f = some ⟨oc,od,.func (PySem.W.fnOf name qual params body scope dV kV doc pm an cdv ct),osl⟩) (hcd:PySem.W.codeIn K cdv qual = true) (S:FnScope N ps scope)
    (len:∀ vs H Q E,sp vs H Q E→vs.length = ps.length)
    (hbody:∀ (A:Around) (outer:List Env) (s:Shared) (H:Hp) (vs:List V) (Q:VK) (E:XK),Room k (A.deeper (envOfC qual scope s.heap.objs.size f cdv))→sp vs H Q E →
      ∃ t,PSs (cxOf CX P w K mg base N qual scope f cdv A outer s H E) body t∧t { nx:=fun _ H'=>Q .non H',rt:=Q } (start N vs) H) :
    FnOk P w K mg base CX (k + 1) f (PySem.W.fnOf name qual params body scope dV kV doc pm an cdv ct) ps sp:=by
  refine ⟨len,fun A outer s H args us vs Q E hr e0 hb r hsp=>?_⟩
  have hl:=len _ _ _ _ hsp
  have KX:K.In s.heap:=e0.mod.kin.keeps fun b o e=>(e0.bs b o e).1
  have lim:s.heap.NoLimit:=e0.mod.nolimit.keeps fun b o e=>(e0.bs b o e).1
  have hkind:∀ y∈ps.zip us,scope.names.lookup y.1 = some .local∨(scope.names.lookup y.1 = some .cell∧((cellsFrom (s.heap.objs.size + 1) scope.names []).lookup y.1).isSome = true):=fun ⟨n,v⟩ hy=>by
    rcases S.par n (List.of_mem_zip hy).1 with q | q
    · exact .inl q
    · exact .inr ⟨q,PySem.W.cellsFrom_some _ _ _ (.inl q)⟩
  refine codeAny_call_function hr.depth (KX _ _ lk) rfl S.co S.gen rfl (PySem.W.codeRec_of KX hcd) (hb _ _ _ _ ?_)
  refine wpAny_newFunctionEnv_cells S.kind hkind fun env he s1 x=>?_
  subst he
  refine ⟨lim.keeps x.toInCall.keep,codeAny_func ?_⟩
  obtain ⟨t,ht,hq⟩:=hbody A outer s H vs Q E (hr.deeper _) hsp
  have I:Inv (cxOf CX P w K mg base N qual scope f cdv A outer s H E) [] (start N vs) H s1:=inv_start S hr.hd e0 hl r x
  refine wpAny_mono (ht [] s1 (start N vs) H _ I hq) (fun fl s' hs=>?_) fun e s' hs=>hs
  have fin:∀ {σ':St} {H':Hp} {v:V} {u:Value},Inv (cxOf CX P w K mg base N qual scope f cdv A outer s H E) [] σ' H' s'→RelV v u→Q v H'→CE outer P w H s Q u s' :=
    fun {σ' H' v u} J rv q=>⟨v,H',J.os,J.bare,J.base,J.hok,rv,q⟩
  cases fl with
  | ret u =>
    obtain ⟨v,σ',H',J,rv,q⟩:=hs
    exact fin J rv q
  | next =>
    obtain ⟨σ',H',J,q⟩:=hs
    exact fin (v:=V.non) (u:=Value.none) J rfl q
  | brk =>
    obtain ⟨_,_,_,q⟩:=hs
    exact False.elim q
  | cont =>
    obtain ⟨_,_,_,q⟩:=hs
    exact False.elim q
end L2
namespace L2
open PySem PySem.Spec PyProof.Rows
section
variable {X:Cx} {x:Str} {p pos:Pos} {e:Expr} {es:List Expr} {t:TA} {id T:String} {r:List V→Hp→VK→Prop}
def tCB (r:List V→Hp→VK→Prop) (t:TA):TE:=fun σ H Q=>t σ H fun vs H1=>r vs H1 Q
theorem pe_callB (hc:CallR X (.builtin id) r) (hg:Gl X x) (hm:X.mg x = none) (hv:bootBuiltins x = some (.builtin id)) (ha:PA X (e :: es) t) (hn:x ≠ "__name__" := by decide) (hdb:(x == ("__debug__" : Str)) = false:=by decide)
    (he:starEach (e :: es) X.env = (false,eval e X.env) :: starEach es X.env:=by rfl) (hpl:(backTo pos (starEach es X.env)).any (·.1) = false:=by rfl):PE X (.Call (.Name x p) (e :: es) [] pos) (tCB r t):=by
  intro pins s σ H Q I h
  refine wpAny_Call_Name_kw (ld_blt I hg hm hv ?_ hn hdb)
  exact PyProof.Rows.callWith_builtin1 (thn (ha pos pins s σ H _ I h) fun us s1 ⟨vs,H1,I1,r1,q1⟩=>hc pins s1 σ H1 vs us Q I1 r1 q1) he hpl
theorem pe_callTy (hc:CallR X (.type T) r) (hg:Gl X x) (hm:X.mg x = none) (hv:bootBuiltins x = some (.type T)) (ha:PA X (e :: es) t) (hn:x ≠ "__name__" := by decide) (hdb:(x == ("__debug__" : Str)) = false:=by decide)
    (he:starEach (e :: es) X.env = (false,eval e X.env) :: starEach es X.env:=by rfl) (hpl:(backTo pos (starEach es X.env)).any (·.1) = false:=by rfl):PE X (.Call (.Name x p) (e :: es) [] pos) (tCB r t):=by
  intro pins s σ H Q I h
  refine wpAny_Call_Name_kw (ld_blt I hg hm hv ?_ hn hdb)
  exact PyProof.Rows.callWith_type1 (thn (ha pos pins s σ H _ I h) fun us s1 ⟨vs,H1,I1,r1,q1⟩=>hc pins s1 σ H1 vs us Q I1 r1 q1) he hpl
end
end L2
namespace HT
open PySem PyProof.Rows
section
open PySem.SeqAt
open PySem.AutoSeq1 (wpAny_loadPart')
open PySem.MeetsSeq PySem.MeetsSeq2 PySem.MeetsSeq3
end
section
variable {prog:Program} {w:World} {A:Around} {E:Value→Shared→Prop} {s:Shared}
def sIx (n d:Nat):Option Int→Nat
  | none=>d
  | some v=>if v < 0 then (v + (n:Int)).toNat else min v.toNat n
theorem sIx_none (n d:Nat):sIx n d none = d:=rfl
theorem sIx_nat (n d k:Nat):sIx n d (some (k:Int)) = min k n:=by
  show (if (k:Int) < 0 then ((k:Int) + (n:Int)).toNat else min (k:Int).toNat n) = min k n
  rw [if_neg (by omega),Int.toNat_natCast]
end
end HT
namespace L2
open PySem PySem.Spec PyProof.Rows
abbrev TO:=St→Hp→(Option Int→Hp→Prop)→Prop
def PO (X:Cx) (e:Option Expr) (t:TO):Prop :=
  ∀ (pins:List (Addr×Obj)) (s:Shared) (σ:St) (H:Hp) (Q:Option Int→Hp→Prop),Inv X pins σ H s→t σ H Q →
    wpAny (model X.prog X.w) X.A (evalPart e X.env) (fun u s'=>∃ o H',Inv X pins σ H' s'∧IsPart u o∧Q o H') X.xe s
def tNoPart:TO:=fun _ H Q=>Q none H
def tPart (t:TE):TO:=fun σ H Q=>t σ H fun x H1=>∃ i,x = .int i∧Q (some i) H1
section
variable {X:Cx} {e:Expr} {te:TE} {lo hi:Option Expr} {tl th:TO} {pos p2:Pos}
theorem po_none:PO X none tNoPart:=by
  intro pins s σ H Q I h
  rw [evalPart_none]
  exact wpAny_pure ⟨none,H,I,.none,h⟩
theorem po_some (h:PE X e te):PO X (some e) (tPart te):=by
  intro pins s σ H Q I hw
  rw [evalPart_some]
  refine thn (h pins s σ H _ I hw) fun u s1 ⟨x,H1,I1,r1,q1⟩=>?_
  obtain ⟨i,rfl,q⟩:=q1
  obtain ⟨t,rfl⟩:=r1
  exact ⟨some i,H1,I1,.int i t,q⟩
def SlR (X:Cx) (r:V→Option Int→Option Int→Hp→VK→Prop):Prop :=
  ∀ (pins:List (Addr×Obj)) (s:Shared) (σ:St) (H:Hp) (x:V) (v vl vu:Value) (lo hi:Option Int) (sl:Addr) (Q:VK),Inv X pins σ H s→RelV x v→s.heap.IsSliceOf sl vl vu .none→IsPart vl lo→IsPart vu hi→r x lo hi H Q →
    ∃ T id,typeLookup (.type T) "__getitem__" = pure (some (.builtin id))∧s.TypeIs v T∧wpAny (model X.prog X.w) X.A (getItem v (.ref sl)) (EP X pins σ Q) X.xe s
def tSl (r:V→Option Int→Option Int→Hp→VK→Prop) (te:TE) (tl th:TO):TE:=fun σ H Q=>te σ H fun x H1=>tl σ H1 fun l H2=>th σ H2 fun u H3=>r x l u H3 Q
theorem pe_slice {r:V→Option Int→Option Int→Hp→VK→Prop} (hr:SlR X r) (he:PE X e te) (hl:PO X lo tl) (hu:PO X hi th):PE X (.Subscript e (.Slice lo hi none p2) pos) (tSl r te tl th):=by
  intro pins s σ H Q I h
  refine Subscript_ (thn (he pins s σ H _ I h) fun v s1 ⟨x,H1,I1,r1,q1⟩=>?_)
  refine wpAny_Slice (thn (hl pins s1 σ H1 _ I1 q1) fun vl s2 ⟨l,H2,I2,pl,q2⟩=>thn (hu pins s2 σ H2 _ I2 q2) fun vu s3 ⟨u,H3,I3,pu,q3⟩=>?_)
  rw [evalPart_none]
  refine wpAny_pure ?_
  have I4:Inv X pins σ H3 { s3 with heap:=s3.heap.push { cls:=.type "slice",data:=.fields #[vl,vu,.none] } }:=I3.kept (t':=s3.toks) fun b ob q=>Heap.get?_push_of_some _ q
  obtain ⟨T,id,hT,ht,hg⟩:=hr pins { s3 with heap:=s3.heap.push { cls:=.type "slice",data:=.fields #[vl,vu,.none] } } σ H3 x v vl vu l u s3.heap.objs.size Q I4 r1 (Heap.IsSliceOf.new ..) pl pu q3
  show wpAny (model X.prog X.w) X.A (subscriptTail e (.Slice lo hi none p2) v (.ref s3.heap.objs.size)) (EP X pins σ Q) X.xe { s3 with heap:=s3.heap.push { cls:=.type "slice",data:=.fields #[vl,vu,.none] } }
  exact tail_any (ops:=[.ref s3.heap.objs.size,v]) ht hT hg (by with_unfolding_all rfl)
def cutV (xs:List V) (lo hi:Option Int):List V:=(xs.drop (HT.sIx xs.length 0 lo)).take (HT.sIx xs.length xs.length hi - HT.sIx xs.length 0 lo)
theorem cutV_length (xs:List V) (lo hi:Option Int):(cutV xs lo hi).length≤xs.length:=by
  unfold cutV
  rw [List.length_take,List.length_drop]
  omega
end
end L2
namespace L2
open PySem PySem.Spec PyProof.Rows
def ixN (n:Nat) (i:Int):Option Nat:=if 0≤i then (if i < n then some i.toNat else none) else if -(n:Int)≤i then some (i + n).toNat else none
def atI {α:Type} (xs:List α) (i:Int):Option α:=(ixN xs.length i).bind fun j=>xs[j]?
theorem ixN_seq {n:Nat} {i:Int} {j:Nat} (h:ixN n i = some j):seqIndex? i n = some j∧j < n∧-(n:Int)≤i∧i < n:=by
  unfold ixN at h
  by_cases h0:0≤i
  · rw [if_pos h0] at h
    by_cases h1:i < n
    · rw [if_pos h1] at h
      have e:i.toNat = j:=Option.some.inj h
      exact ⟨by rw [seqIndex_of h0 h1,e],by omega,by omega,h1⟩
    · rw [if_neg h1] at h; cases h
  · rw [if_neg h0] at h
    by_cases h1:-(n:Int)≤i
    · rw [if_pos h1] at h
      have e:(i + n).toNat = j:=Option.some.inj h
      exact ⟨by rw [seqIndex_neg (by omega) h1,e],by omega,h1,by omega⟩
    · rw [if_neg h1] at h; cases h
theorem atI_get {α:Type} {xs:List α} {i:Int} {v:α} (h:atI xs i = some v):∃ j,seqIndex? i xs.length = some j∧xs[j]? = some v∧j < xs.length∧-(xs.length:Int)≤i∧i < xs.length:=by
  unfold atI at h
  cases e:ixN xs.length i with
  | none=>rw [e] at h; cases h
  | some j =>
    rw [e] at h
    obtain ⟨h1,h2,h3,h4⟩:=ixN_seq e
    exact ⟨j,h1,h,h2,h3,h4⟩
theorem atI_nat {α:Type} {xs:List α} {j:Nat} {v:α} (h:xs[j]? = some v):atI xs (j:Int) = some v:=by
  have hj:j < xs.length:=(List.getElem?_eq_some_iff.mp h).1
  have e:ixN xs.length (j:Int) = some j:=by
    unfold ixN
    rw [if_pos (by omega),if_pos (by omega)]; simp
  unfold atI; rw [e]; exact h
def PlainIx (b:Expr):Prop:=∀ o i,subscripted b false o i = operate [o,i] (getItem o i)
def IxR (X:Cx) (r:R2):Prop :=
  ∀ (value slice:Expr) (pins:List (Addr×Obj)) (s:Shared) (σ:St) (H:Hp) (x y:V) (v u:Value) (Q:VK),Inv X pins σ H s→RelV x v→RelV y u→r x y H Q →
    subscripted slice false v u = operate [v,u] (getItem v u)→wpAny (model X.prog X.w) X.A (subscriptTail value slice v u) (EP X pins σ Q) X.xe s
def MtR (X:Cx) (id:String) (r:V→List V→Hp→VK→Prop):Prop :=
  ∀ (pins:List (Addr×Obj)) (s:Shared) (σ:St) (H:Hp) (x:V) (xs:List V) (v:Value) (us:List Value) (Q:VK),Inv X pins σ H s→RelV x v→Vals xs us→r x xs H Q →
    wpAny (model X.prog X.w) X.A (call (.builtin id) (v :: us)) (EP X pins σ Q) X.xe s
section
variable {X:Cx} {a b:Expr} {ta tb:TE} {pos:Pos}
theorem pe_ix {r:R2} (hr:IxR X r) (ha:PE X a ta) (hb:PE X b tb) (hs:PlainIx b):PE X (.Subscript a b pos) (tOp r ta tb):=by
  intro pins s σ H Q I h
  exact Subscript_ (binT ha hb I h fun v u s2 x y H2 I2 rx ry q=>hr a b pins s2 σ H2 x y v u Q I2 rx ry q (hs _ _))
def rIxL (K:PySem.W.Frag):R2:=fun x y H Q=>∃ p xs i v,x = .ref p∧y = .int i∧SqL K H p xs∧atI xs i = some v∧Q v H
def rIxT (K:PySem.W.Frag):R2:=fun x y H Q=>∃ p xs i v,x = .ref p∧y = .int i∧SqT K H p xs∧atI xs i = some v∧Q v H
def rIxS:R2:=fun x y H Q=>∃ z i c,x = .str z∧y = .int i∧z.length≤sizeLine∧atI z.cps.toList i = some c∧Q (.str ⟨#[c]⟩) H
theorem ix_list:IxR X (rIxL X.K):=by
  intro value slice pins s σ H x y v u Q I rx ry h hs
  obtain ⟨p,xs,i,z,rfl,rfl,hq,he,q⟩:=h
  cases rx
  obtain ⟨t,rfl⟩:=ry
  obtain ⟨its,r,pl,hz⟩:=I.list hq
  obtain ⟨j,h1,h2,h3,h4,h5⟩:=atI_get he
  obtain ⟨w,ew,rw'⟩:=r.get h2
  have hl:=r.length
  have hn:=line63
  have fin:EP X pins σ Q w s:=⟨z,H,I,rw',q⟩
  by_cases h0:0≤i
  · have hj:i.toNat = j:=by
      rw [seqIndex_of h0 h5] at h1
      exact Option.some.inj h1
    exact item_listR pl.isList h0 (by omega) (by rw [hj]; simpa using ew) fin hs
  · have hj:(i + (its.toArray.size:Int)).toNat = j:=by
      rw [seqIndex_neg (by omega) h4] at h1
      rw [List.size_toArray,← hl]
      exact Option.some.inj h1
    exact subscriptTail_builtinR (x:=w) pl.isList.typeIs slot_list_getitem.lookup
      (wpAny_getItem_list_neg (Q:=fun r s'=>r = w∧EP X pins σ Q r s') pl.isList (by omega) (by rw [List.size_toArray] <;> omega) (by omega) (by rw [hj]; simpa using ew) ⟨rfl,fin⟩) hs
theorem ix_tup:IxR X (rIxT X.K):=by
  intro value slice pins s σ H x y v u Q I rx ry h hs
  obtain ⟨p,xs,i,z,rfl,rfl,hq,he,q⟩:=h
  cases rx
  obtain ⟨t,rfl⟩:=ry
  obtain ⟨its,r,pl,hz⟩:=I.tuple hq
  obtain ⟨j,h1,h2,h3,h4,h5⟩:=atI_get he
  obtain ⟨w,ew,rw'⟩:=r.get h2
  have hl:=r.length
  have hn:=line63
  have fin:EP X pins σ Q w s:=⟨z,H,I,rw',q⟩
  exact subscriptTail_builtinR (x:=w) pl.typeIs slot_tuple_getitem.lookup
    (getItem_tuple (j:=j) (Q:=fun r s'=>r = w∧EP X pins σ Q r s') pl (by omega) (by omega) (by rw [List.size_toArray,← hl]; exact h1) (by simpa using ew) ⟨rfl,fin⟩) hs
theorem ix_str:IxR X rIxS:=by
  intro value slice pins s σ H x y v u Q I rx ry h hs
  obtain ⟨z,i,c,rfl,rfl,hz,he,q⟩:=h
  obtain ⟨t,rfl⟩:=rx
  obtain ⟨t',rfl⟩:=ry
  obtain ⟨j,h1,h2,h3,h4,h5⟩:=atI_get he
  have hl:z.cps.toList.length = z.length:=by simp [Str.length]
  rw [hl] at h1 h4 h5
  have hn:=line63
  exact tail_any (typeIs_str s z t) slot_str_getitem.lookup (getItem_str (c:=c) (by
    have e1:decide (i < -(2 ^ 63:Int)) = false:=decide_eq_false (by omega)
    have e2:decide (i ≥ 2 ^ 63) = false:=decide_eq_false (by omega)
    rw [e1,e2,Bool.or_false]) (by rw [h1]; simpa using h2) ⟨.str ⟨#[c]⟩,H,I.tok _,⟨_,rfl⟩,q⟩) hs
theorem slice_bounds (lo hi:Option Int) (n:Nat):(sliceBounds lo hi none n).1 = ((HT.sIx n 0 lo:Nat):Int)∧(sliceBounds lo hi none n).2.1 = ((HT.sIx n n hi:Nat):Int)∧(sliceBounds lo hi none n).2.2 = 1:=by
  refine ⟨?_,?_,rfl⟩
  · cases lo with
    | none=>simp [sliceBounds,HT.sIx]
    | some i =>
      simp only [sliceBounds,HT.sIx,Option.getD_none,show (1:Int) > 0 by decide,if_true]
      by_cases h:i < 0
      · simp only [h,if_true] <;> omega
      · simp only [h,if_false] <;> omega
  · cases hi with
    | none=>simp [sliceBounds,HT.sIx]
    | some i =>
      simp only [sliceBounds,HT.sIx,Option.getD_none,show (1:Int) > 0 by decide,if_true]
      by_cases h:i < 0
      · simp only [h,if_true] <;> omega
      · simp only [h,if_false] <;> omega
theorem slicePick_cut (its:List Value) (lo hi:Option Int):slicePick its.toArray lo hi none = ((its.drop (HT.sIx its.length 0 lo)).take (HT.sIx its.length its.length hi - HT.sIx its.length 0 lo)).toArray:=by
  obtain ⟨h1,h2,h3⟩:=slice_bounds lo hi its.toArray.size
  unfold slicePick
  rw [h1,h2,h3]
  simp only [sliceRange_one,pick_run,List.size_toArray] <;> rfl
def rSlL (K:PySem.W.Frag):V→Option Int→Option Int→Hp→VK→Prop:=fun x lo hi H Q=>∃ a xs,x = .ref a∧SqL K H a xs∧∀ p,H p = none→Q (.ref p) (upd H p (.lst (cutV xs lo hi)))
theorem sl_list:SlR X (rSlL X.K):=by
  intro pins s σ H x v vl vu lo hi sl Q I rx hs pl pu h
  obtain ⟨a,xs,rfl,hx,q⟩:=h
  cases rx
  obtain ⟨its,r,ht,hz⟩:=I.list hx
  have hlen:=r.length
  refine ⟨"list",_,slot_list_getitem.lookup,ht.isList.typeIs,?_⟩
  refine wpAny_getItem_list_slice ht.isList hs pl pu .none (by simp) ?_ (by rw [List.size_toArray] <;> omega)
  rw [slicePick_cut,← hlen]
  refine ⟨.ref s.heap.objs.size,_,I.laid (t':=s.toks) (o:=.lst (cutV xs lo hi)) (fun b ob q=>Heap.get?_push_of_some _ q) (Nat.le_refl _) ?_,rfl,q _ (I.hok.fresh (Nat.le_refl _))⟩
  exact ⟨Nat.le_trans (cutV_length xs lo hi) hz,_,0,(r.drop (HT.sIx xs.length 0 lo)).take (HT.sIx xs.length xs.length hi - HT.sIx xs.length 0 lo),Heap.get?_push_size _ rfl⟩
def flatV:V→Bool
  | .non=>true
  | .bl _=>true
  | .int _=>true
  | .str _=>true
  | _=>false
def eqV:V→V→Bool
  | .non,.non=>true
  | .bl a,.bl b=>a == b
  | .bl a,.int b=>(if a then 1 else 0) == b
  | .int a,.bl b=>a == (if b then 1 else 0)
  | .int a,.int b=>a == b
  | .str a,.str b=>a == b
  | _,_=>false
theorem eqAt_V {A:Around} {s:Shared} {y x:V} {u v:Value} (ry:RelV y u) (rx:RelV x v) (fy:flatV y = true) (fx:flatV x = true):SeqAt.EqAt A s u v (eqV y x):=by
  cases y with
  | non =>
    cases ry
    cases x with
    | non=>cases rx; exact SeqAt.EqAt.same _
    | bl b=>cases rx; exact SeqAt.EqAt.none_bool b
    | int b=>obtain ⟨t,rfl⟩:=rx; exact SeqAt.EqAt.none_int b t
    | str b=>obtain ⟨t,rfl⟩:=rx; exact SeqAt.EqAt.none_str b t
    | _=>exact absurd (show false = true from fx) Bool.false_ne_true
  | bl a =>
    cases ry
    cases x with
    | non=>cases rx; exact SeqAt.EqAt.bool_none a
    | bl b=>cases rx; exact SeqAt.EqAt.bool_bool a b
    | int b=>obtain ⟨t,rfl⟩:=rx; exact SeqAt.EqAt.bool_int a b t
    | str b=>obtain ⟨t,rfl⟩:=rx; exact SeqAt.EqAt.bool_str a b t
    | _=>exact absurd (show false = true from fx) Bool.false_ne_true
  | int a =>
    obtain ⟨t',rfl⟩:=ry
    cases x with
    | non=>cases rx; exact SeqAt.EqAt.int_none a t'
    | bl b=>cases rx; exact SeqAt.EqAt.int_bool a t' b
    | int b=>obtain ⟨t,rfl⟩:=rx; exact SeqAt.EqAt.int_int a t' b t
    | str b=>obtain ⟨t,rfl⟩:=rx; exact SeqAt.EqAt.int_str a t' b t
    | _=>exact absurd (show false = true from fx) Bool.false_ne_true
  | str a =>
    obtain ⟨t',rfl⟩:=ry
    cases x with
    | non=>cases rx; exact SeqAt.EqAt.str_none a t'
    | bl b=>cases rx; exact SeqAt.EqAt.str_bool a t' b
    | int b=>obtain ⟨t,rfl⟩:=rx; exact SeqAt.EqAt.str_int a t' b t
    | str b=>obtain ⟨t,rfl⟩:=rx; exact SeqAt.EqAt.str_str a t' b t
    | _=>exact absurd (show false = true from fx) Bool.false_ne_true
  | _=>exact absurd (show false = true from fy) Bool.false_ne_true
def eqU (x:V) (u:Value):Bool:=match u with
  | .none=>eqV .non x
  | .bool b=>eqV (.bl b) x
  | .int i _=>eqV (.int i) x
  | .str z _=>eqV (.str z) x
  | _=>false
theorem eqU_of {x y:V} {u:Value} (r:RelV y u) (f:flatV y = true):eqU x u = eqV y x:=by
  cases y with
  | non=>cases r; rfl
  | bl b=>cases r; rfl
  | int i=>obtain ⟨t,rfl⟩:=r; rfl
  | str z=>obtain ⟨t,rfl⟩:=r; rfl
  | _=>exact absurd (show false = true from f) Bool.false_ne_true
theorem any_eqU {x:V}:∀ {xs:List V} {us:List Value},Vals xs us→xs.all flatV = true→us.any (eqU x) = xs.any fun y=>eqV y x
  | _,_,.nil,_=>rfl
  | y :: xs,u :: us,.cons r t,f=>by
    rw [List.all_cons,Bool.and_eq_true] at f
    rw [List.any_cons,List.any_cons,eqU_of r f.1,any_eqU t f.2]
theorem mem_eqAt {A:Around} {s:Shared} {x:V} {v:Value} (rx:RelV x v) (fx:flatV x = true):∀ {xs:List V} {us:List Value},Vals xs us→xs.all flatV = true→∀ u∈us,SeqAt.EqAt A s u v (eqU x u)
  | _,_,.nil,_=>fun u hu=>by cases hu
  | y :: xs,u :: us,.cons r t,f=>fun u' hu=>by
    rw [List.all_cons,Bool.and_eq_true] at f
    rcases List.mem_cons.mp hu with rfl | hu
    · rw [eqU_of r f.1]; exact eqAt_V r rx f.1 fx
    · exact mem_eqAt rx fx t f.2 u' hu
def inV (x:V) (xs:List V):Bool:=xs.any fun y=>eqV y x
def rIn (K:PySem.W.Frag) (neg:Bool):R2:=fun x y H Q=>∃ p xs,y = .ref p∧(SqL K H p xs∨SqT K H p xs)∧flatV x = true∧xs.all flatV = true∧Q (.bl (if neg then !inV x xs else inV x xs)) H
theorem op_notIn_seq:OpR X (compareOp .NotIn) (rIn X.K true):=by
  intro pins s σ H x y v u Q I rx ry h
  obtain ⟨p,xs,rfl,hq,fx,fs,q⟩:=h
  cases ry
  rcases hq with hq | hq
  · obtain ⟨its,r,pl,hz⟩:=I.list hq
    refine SeqAt.notIn_listAt (eqU x) pl.isList (fun w hw=>mem_eqAt rx fx r fs w (by simpa using hw)) ⟨.bl _,H,I,rfl,?_⟩
    rw [show its.toArray.any (eqU x) = its.any (eqU x) by simp,any_eqU r fs]
    exact q
  · obtain ⟨its,r,pl,hz⟩:=I.tuple hq
    refine SeqAt.notIn_tupleAt (eqU x) pl (fun w hw=>mem_eqAt rx fx r fs w (by simpa using hw)) ⟨.bl _,H,I,rfl,?_⟩
    rw [show its.toArray.any (eqU x) = its.any (eqU x) by simp,any_eqU r fs]
    exact q
theorem call_len_seq:CallR X (.builtin "len") (fun xs H Q=>∃ p ys,xs = [.ref p]∧(SqL X.K H p ys∨SqT X.K H p ys)∧Q (.int ys.length) H):=by
  intro pins s σ H xs us Q I r h
  obtain ⟨p,ys,rfl,hq,q⟩:=h
  obtain ⟨u,rfl,rx⟩:=vals1 r
  cases rx
  have hn:=line63
  rcases hq with hq | hq
  · obtain ⟨its,r',pl,hz⟩:=I.list hq
    have hlen:=r'.length
    exact Calls.call_len_list pl.isList (by simp only [List.size_toArray] <;> omega) ⟨.int ys.length,H,I.tok _,⟨s.toks + 1,by rw [List.size_toArray,hlen]⟩,q⟩
  · obtain ⟨its,r',pl,hz⟩:=I.tuple hq
    have hlen:=r'.length
    exact len_tuple pl (by simp only [List.size_toArray] <;> omega) ⟨.int ys.length,H,I.tok _,⟨s.toks + 1,by rw [List.size_toArray,hlen]⟩,q⟩
theorem call_len_str:CallR X (.builtin "len") (fun xs H Q=>∃ z,xs = [.str z]∧z.length≤sizeLine∧Q (.int z.length) H):=by
  intro pins s σ H xs us Q I r h
  obtain ⟨z,rfl,hz,q⟩:=h
  obtain ⟨u,rfl,t,rfl⟩:=vals1 r
  have hn:=line63
  exact len_str (by omega) ⟨.int z.length,H,I.tok _,⟨_,rfl⟩,q⟩
theorem call_list_of:CallR X (.type "list") (fun xs H Q=>∃ p ys,xs = [.ref p]∧(SqL X.K H p ys∨SqT X.K H p ys)∧∀ l,H l = none→Q (.ref l) (upd H l (.lst ys))):=by
  intro pins s σ H xs us Q I r h
  obtain ⟨p,ys,rfl,hq,q⟩:=h
  obtain ⟨u,rfl,rx⟩:=vals1 r
  cases rx
  have fin:∀ (its:List Value),Vals ys its→ys.length≤sizeLine→∀ (h':Heap) (c':Nat),(∀ b o',s.heap.get? b = some o'→h'.get? b = some o') →
      h'.get? s.heap.objs.size = some { cls:=.type "list",dict:=none,data:=.seq its.toArray c',slots:=#[] }→EP X pins σ Q (.ref s.heap.objs.size) { s with heap:=h' }:=fun its r' hz h' c' kp e =>
    ⟨.ref s.heap.objs.size,_,I.laid (t':=s.toks) kp (Nat.le_refl _) (show ObjOk X.prog X.w _ h' _ (.lst ys) from ⟨hz,its,c',r',e⟩),rfl,q _ (I.hok.fresh (Nat.le_refl _))⟩
  rcases hq with hq | hq
  · obtain ⟨its,r',pl,hz⟩:=I.list hq
    have hlen:=r'.length
    obtain ⟨o,ho,hc,n,hd⟩:=pl.isList
    exact call_list_seq p (.inl rfl) ho hc hd (fun h' c' kp e=>fin its r' hz h' c' kp e) (by simp only [List.size_toArray] <;> omega)
  · obtain ⟨its,r',pl,hz⟩:=I.tuple hq
    have hlen:=r'.length
    obtain ⟨o,ho,hc,n,hd⟩:=pl
    exact call_list_seq p (.inr rfl) ho hc hd (fun h' c' kp e=>fin its r' hz h' c' kp e) (by simp only [List.size_toArray] <;> omega)
theorem call_tuple_of:CallR X (.type "tuple") (fun xs H Q=>∃ p ys,xs = [.ref p]∧((SqL X.K H p ys∧∀ l,H l = none→Q (.ref l) (upd H l (.tup ys)))∨(SqT X.K H p ys∧Q (.ref p) H))):=by
  intro pins s σ H xs us Q I r h
  obtain ⟨p,ys,rfl,h⟩:=h
  obtain ⟨u,rfl,rx⟩:=vals1 r
  cases rx
  rcases h with ⟨hq,q⟩ | ⟨hq,q⟩
  · obtain ⟨its,r',pl,hz⟩:=I.list hq
    have hlen:=r'.length
    refine call_tuple_list pl.isList (fun h' kp=>?_) (by simp only [List.size_toArray] <;> omega)
    have I1:Inv X pins σ H { s with heap:=h' }:=I.kept (t':=s.toks) kp
    have I2:Inv X pins σ (upd H h'.objs.size (.tup ys)) { s with heap:=h'.push { cls:=.type "tuple",data:=.seq its.toArray } } :=
      I1.laid (t':=s.toks) (fun b o e=>Heap.get?_push_of_some _ e) (Nat.le_refl _) (show ObjOk X.prog X.w _ _ _ (.tup ys) from ⟨hz,its,r',IsTup.new _ _⟩)
    exact ⟨.ref h'.objs.size,_,I2,rfl,q _ (I1.hok.fresh (Nat.le_refl _))⟩
  · obtain ⟨its,r',pl,hz⟩:=I.tuple hq
    exact call_tuple_same pl ⟨.ref p,H,I,rfl,q⟩
def tyV (K:PySem.W.Frag) (T:String) (x:V) (H:Hp):Prop:=match x with
  | .str _=>T = "str"
  | .int _=>T = "int"
  | .ref p=>(T = "list" ∧ ∃ xs,SqL K H p xs)∨(T = "tuple" ∧ ∃ o,K.lookup p = some o∧o.cls = .type "tuple" ∧ o.dict = none) ∨
      (T = "dict" ∧ ((∃ kvs,H p = some (.dK kvs))∨∃ kvs,H p = some (.dT kvs)))∨(T = "set" ∧ ∃ S n,H p = some (.set S n))
  | _=>False
theorem tyV_is {pins:List (Addr×Obj)} {σ:St} {H:Hp} {s:Shared} {T:String} {x:V} {v:Value} (I:Inv X pins σ H s) (r:RelV x v) (ty:tyV X.K T x H) :
    s.TypeIs v T∧∀ a,v = .ref a→∃ ob,s.heap.get? a = some ob∧ob.dict = none:=by
  cases x with
  | str z =>
    obtain ⟨t,rfl⟩:=r
    cases (show T = "str" from ty)
    exact ⟨typeIs_str s z t,fun _ e=>nomatch e⟩
  | int i =>
    obtain ⟨t,rfl⟩:=r
    cases (show T = "int" from ty)
    exact ⟨typeIs_int s i t,fun _ e=>nomatch e⟩
  | ref p =>
    cases r
    rcases ty with ⟨rfl,xs,hq⟩ | ⟨rfl,o,hk,hc,hd⟩ | ⟨rfl,hk⟩ | ⟨rfl,S,n,hk⟩
    · obtain ⟨its,_,pl,_⟩:=I.list hq
      refine ⟨pl.isList.typeIs,fun a e=>?_⟩
      cases e
      obtain ⟨o,n,e,c,hd,_⟩:=pl
      exact ⟨o,e,hd⟩
    · refine ⟨⟨o,I.kIn p o hk,hc⟩,fun a e=>?_⟩
      cases e
      exact ⟨o,I.kIn _ o hk,hd⟩
    · have z:∃ o,s.heap.get? p = some o∧o.ExactDict:=by
        rcases hk with ⟨kvs,hk⟩ | ⟨kvs,hk⟩
        · obtain ⟨_,_,_,_,o,_,_,e,ex,_⟩:=I.hok p _ hk
          exact ⟨o,e,ex⟩
        · obtain ⟨_,_,_,_,o,_,_,e,ex,_⟩:=I.hok p _ hk
          exact ⟨o,e,ex⟩
      obtain ⟨o,e,ex⟩:=z
      refine ⟨⟨o,e,ex.1⟩,fun a e2=>?_⟩
      cases e2
      exact ⟨o,e,ex.2.1⟩
    · obtain ⟨o,_,_,_,e,ex,_⟩:=I.hok p _ hk
      refine ⟨⟨o,e,ex.1⟩,fun a e2=>?_⟩
      cases e2
      exact ⟨o,e,ex.2.1⟩
  | _=>exact False.elim ty
def tBM0 (K:PySem.W.Frag) (T:String) (r:V→List V→Hp→VK→Prop) (to:TE):TE:=fun σ H Q=>to σ H fun x H1=>tyV K T x H1∧r x [] H1 Q
def tBM (K:PySem.W.Frag) (T:String) (r:V→List V→Hp→VK→Prop) (to:TE) (t:TA):TE:=fun σ H Q=>to σ H fun x H1=>tyV K T x H1∧t σ H1 fun xs H2=>r x xs H2 Q
variable {o e:Expr} {es:List Expr} {to:TE} {t:TA} {name:Str} {apos cpos:Pos} {T id:String} {r:V→List V→Hp→VK→Prop}
theorem pe_bm0 (pa:PlainAttrs T) (slot:Slot T name id) (hty:typeOf (.builtin id) = pure (.type "method_descriptor")) (hm:MtR X id r) (ho:PE X o to)
    (hbase:attributeBase o name X.env (eval o X.env) = eval o X.env:=by rfl) (hline:(apos.endLine == cpos.line) = true:=by rfl):PE X (.Call (.Attribute o name apos) [] [] cpos) (tBM0 X.K T r to):=by
  intro pins s σ H Q I h
  refine wpAny_Call_method0_late hbase hline (thn (ho pins s σ H _ I h) fun v s1 ⟨x,H1,I1,r1,ty,q1⟩=>?_)
  obtain ⟨h1,h2⟩:=tyV_is I1 r1 ty
  exact ⟨T,id,pa,slot,hty,h1,h2,Calls.callWith_builtin rfl (PySem.evalArgs_none (hm pins s1 σ H1 x [] v [] Q I1 r1 .nil q1))⟩
theorem pe_bm (pa:PlainAttrs T) (slot:Slot T name id) (hty:typeOf (.builtin id) = pure (.type "method_descriptor")) (hm:MtR X id r) (ho:PE X o to) (ha:PA X (e :: es) t)
    (hbase:attributeBase o name X.env (eval o X.env) = eval o X.env:=by rfl)
    (hfew:((backTo cpos (starEach (e :: es) X.env)).all (fun x=>!x.1) && (backToKw cpos (keywordEach [] X.env)).all (fun x=>x.1.isSome)
      && decide ((e :: es).length + ([]:List Keyword).length + (if ([]:List Keyword).isEmpty then 0 else 1) < 30)) = true:=by rfl)
    (hline:(apos.endLine == cpos.line) = true:=by rfl) (hs:starEach (e :: es) X.env = (false,eval e X.env) :: starEach es X.env:=by rfl) (hplain:(backTo cpos (starEach es X.env)).any (·.1) = false:=by rfl) :
    PE X (.Call (.Attribute o name apos) (e :: es) [] cpos) (tBM X.K T r to t):=by
  intro pins s σ H Q I h
  refine wpAny_Call_method_late hbase hfew hline rfl (thn (ho pins s σ H _ I h) fun v s1 ⟨x,H1,I1,r1,ty,q1⟩=>?_)
  obtain ⟨h1,h2⟩:=tyV_is I1 r1 ty
  refine ⟨T,id,pa,slot,hty,h1,h2,?_⟩
  have hA:=ha cpos pins s1 σ H1 _ I1 q1
  rw [hs] at hA ⊢
  refine Calls.callWith_builtin (by show (false || (backTo cpos (starEach es X.env)).any (·.1)) = false; rw [hplain] <;> rfl) (Calls.evalArgs_plain ?_)
  exact thn hA fun us s2 ⟨vs,H2,I2,r2,q2⟩=>hm pins s2 σ H2 x vs v us Q I2 r1 r2 q2
end
end L2
namespace L2
open PySem PySem.Spec PyProof.Rows
def MtM (X:Cx) (id:String) (r:V→List V→Hp→VK→Prop):Prop :=
  ∀ (pins:List (Addr×Obj)) (s:Shared) (σ:St) (H:Hp) (x:V) (xs:List V) (v:Value) (us:List Value) (Q:VK),Inv X pins σ H s→RelV x v→Vals xs us→r x xs H Q →
    wpAny (model X.prog X.w) X.A (call (.builtin id) (v :: us)) (EP X pins σ Q) X.xe s
theorem Vals.one:∀ {x:V} {us:List Value},Vals [x] us→∃ u,us = [u]∧RelV x u
  | _,_,.cons r .nil=>⟨_,rfl,r⟩
section
variable {X:Cx} {pins:List (Addr×Obj)} {σ:St} {H:Hp} {s:Shared} {l b:Addr} {xs ys zs:List V}
theorem Inv.lset {its its':List Value} {n:Nat} {f:Array Value→Array Value} {t':Nat} (I:Inv X pins σ H s) (hH:H l = some (.lst xs))
    (e:s.heap.get? l = some { cls:=.type "list",data:=.seq its.toArray n }) (hf:f its.toArray = its'.toArray) (hv:Vals ys its') (hz:ys.length≤sizeLine) :
    Inv X pins σ (upd H l (.lst ys)) { s with heap:=s.heap.update l (Obj.mapSeq f),toks:=t' }:=by
  have q:=PySem.IsL.update e f
  rw [hf] at q
  refine I.write (x:=l) (e:=l) (by rw [hH]; exact trivial) (.inl rfl) (fun b' u hb hu=>(Heap.get?_update_other s.heap (Obj.mapSeq f) (Ne.symm hb)).trans hu) ⟨_,q⟩ ?_
  exact ⟨hz,its',_,hv,q⟩
theorem Inv.lnew {its:List Value} {t':Nat} (I:Inv X pins σ H s) (hv:Vals ys its) (hz:ys.length≤sizeLine) :
    Inv X pins σ (upd H s.heap.objs.size (.lst ys)) { s with heap:=s.heap.push { cls:=.type "list",data:=.seq its.toArray },toks:=t' } :=
  I.laid (fun _ _ q=>Heap.get?_push_of_some _ q) (Nat.le_refl _) ⟨hz,its,0,hv,Heap.get?_push_size _ rfl⟩
theorem Inv.fresh (I:Inv X pins σ H s):H s.heap.objs.size = none:=I.hok.fresh (Nat.le_refl _)
theorem Inv.lstM (I:Inv X pins σ H s) (hH:H l = some (.lst xs)):xs.length≤sizeLine∧∃ (its:List Value) (n:Nat),Vals xs its∧xs.length = its.length∧s.heap.get? l = some { cls:=.type "list",data:=.seq its.toArray n }:=by
  obtain ⟨z,its,n,r,e⟩:=I.hok l _ hH
  exact ⟨z,its,n,r,r.length,e⟩
end
section
variable {X:Cx}
def rAppend:V→List V→Hp→VK→Prop:=fun x vs H Q=>∃ l xs y,x = .ref l∧vs = [y]∧H l = some (.lst xs)∧xs.length < sizeLine∧Q .non (upd H l (.lst (xs ++ [y])))
theorem mt_append:MtM X "list.append" rAppend:=by
  intro pins s σ H x vs v us Q I rx rv h
  obtain ⟨l,xs,y,rfl,rfl,hH,hz,q⟩:=h
  cases rx
  obtain ⟨u,rfl,ru⟩:=rv.one
  obtain ⟨z,its,n,r,hl,e⟩:=I.lstM hH
  refine call_meets F.slot_list_append ⟨_,e,rfl⟩ F.entry_list_append (F.args_list_append_2 _ _) (PySem.list_append l its.toArray n u (by rw [List.size_toArray]; omega)) ⟨e,?_⟩
  refine ⟨.non,_,I.lset (its':=its ++ [u]) hH e (by simp) (r.append (.cons ru .nil)) ?_,rfl,q⟩
  rw [List.length_append,List.length_singleton]
  omega
def rCat:R2:=fun x y H Q=>∃ l b xs zs,x = .ref l∧y = .ref b∧H l = some (.lst xs)∧H b = some (.lst zs)∧xs.length + zs.length≤sizeLine∧∀ p,H p = none→Q (.ref p) (upd H p (.lst (xs ++ zs)))
theorem op_cat:OpR X (binaryOp .Add) rCat:=by
  intro pins s σ H x y v u Q I rx ry h
  obtain ⟨l,b,xs,zs,rfl,rfl,hH,hB,hz,q⟩:=h
  cases rx
  cases ry
  obtain ⟨z,its,n,r,hl,e⟩:=I.lstM hH
  obtain ⟨z2,its2,n2,r2,hl2,e2⟩:=I.lstM hB
  refine PySem.P.add_list e e2 ?_ (by rw [List.size_toArray,List.size_toArray]; omega)
  have ea:its.toArray ++ its2.toArray = (its ++ its2).toArray:=by simp
  rw [ea]
  exact ⟨.ref _,_,I.lnew (t':=s.toks) (r.append r2) (by rw [List.length_append]; omega),rfl,q _ I.fresh⟩
end
section
variable {prog:Program} {w:World} {A:Around} {E:Value→Shared→Prop} {s:Shared}
set_option maxRecDepth 100000 in
end
section
variable {X:Cx}
end
end L2
namespace Att
open PySem PySem.W PySem.Calls PyProof.Rows
theorem ints_of_wellAll {P:Params} {h:Heap}:∀ (ns:List Int) (vs:List Value),WellAll P h vs (ns.map WData.int)→IntsAre vs ns:=by
  intro ns
  induction ns with
  | nil =>
    intro vs w
    rw [List.map_nil] at w
    cases w
    exact .nil
  | cons n ns ih =>
    intro vs w
    rw [List.map_cons] at w
    cases w with
    | cons a b =>
      cases a
      exact .cons _ _ (ih _ b)
theorem script_of {l:OpenLaw} {n:Nat} (hn:l.most = some n) {P:Params} {h:Heap} {args:List WData} {vals:List Value}
    (hpre:l.row.toRowW.claim.pre args = true) (hwl:WellAll P h vals args) :
    ∃ a vs ns,vals = [Value.ref a]∧args = [WData.list (ns.map WData.int)]∧h.get? a = some { cls:=.type "list",data:=.seq vs.toArray }∧IntsAre vs ns∧ns.length≤n:=by
  have hsh:WShape.hasAll [] args [.list .int] = true:=(pre_splitW hpre).1
  have hc:l.pre.holds [] { args:=args } = true:=(pre_splitW hpre).2
  obtain ⟨d,r,rfl,h1,h2⟩:=hasAllW_cons hsh
  obtain rfl:=hasAllW_nil h2
  obtain ⟨xs,rfl,h3⟩:=hasW_list h1
  obtain ⟨ns,rfl⟩:=items_int h3
  have hlen:ns.length≤n:=by
    unfold OpenLaw.pre at hc
    have h4:(WTm.not (.lt (.lit (.int (n:Int))) (.len (.arg 0)))).holds [] { args:=[.list (ns.map .int)] } = true:=by
      have h4:=(holds_andW hc).1
      rw [hn] at h4
      exact h4
    have h5:=condW_of h4 (w_not (w_lt w_lit (w_len_list (w_arg rfl))))
    rw [List.length_map] at h5
    refine Nat.le_of_not_lt fun q=>?_
    have q':(n:Int) < ((ns.length:Nat):Int):=by omega
    first
      | (rw [decide_eq_true q'] at h5; exact absurd h5 (by decide))
      | (simp at h5; omega)
  cases hwl with
  | cons w1 w2 =>
    cases w2
    cases w1 with
    | list ho hall=>exact ⟨_,_,ns,rfl,rfl,ho,ints_of_wellAll ns _ hall,hlen⟩
theorem post_true (l:OpenLaw) (args:List WData):l.row.toRowW.claim.post args (.bool true) args = true :=
  postW_of (r:=l.row.toRowW) (X:=(true == true))
    (show WShape.has [] (.bool true) .bool = true by first | rfl | decide | simp [WShape.has,WShape.arms,WShape.armsAll])
    (show (WTm.eq .res (.lit (.bool true))).value [] { args:=args,res:=some (.bool true),after:=args } = some (.bool (true == true)) from w_eq_bool (w_res rfl) w_lit) rfl
theorem attach_call {l:OpenLaw} {n:Nat} {q:Program} {loose:List Str} {XP:(Str→Option Value)→Heap→Prop} {YP:World→Heap→Prop} {d:DefRec}
    (hn:l.most = some n) (hdf:d.params.defaults = [])
    (call:∀ (w:World) (s₀ s₁:Shared) (mg mb:Str→Option Value) (fa:Addr) (o:Obj) (pm cd doc:Value) (a:Addr) (vs:List Value) (ns:List Int),
      Ground q loose [] XP w s₀ mg mb s₁.heap→YP w s₁.heap →
      s₁.heap.get? fa = some o→o.data = .func (docDef d.name d.params d.body d.scope pm cd doc)→s₁.heap.CodeRec cd d.name→mg d.name = some (.ref fa) →
      s₁.heap.get? a = some { cls:=.type "list",data:=.seq vs.toArray }→IntsAre vs ns→ns.length≤n→s₁.gens = #[] →
      codeAny (model l.prog w) callerA (.call (.ref fa) ⟨[.ref a],[]⟩) (fun r s'=>r = .ok (.ret (.bool true))∧OldK s₁.heap s'.heap∧s'.os = s₁.os∧AllBare s'.gens) s₁) :
    WalkO q loose XP YP l.row.toRowW d [] (fun f vs=>PySem.call f vs):=by
  intro w s₀ s₁ mg mb G Y fa o pm cd doc dV kV ho hd hcd hD hmg hg args vals as hpre hlay hrd hwl hlo
  obtain rfl:dV = .none:=Dflts.none hD hdf
  obtain rfl:kV = .none:=Dflts.noKw hD
  obtain ⟨a,vs,ns,rfl,rfl,hobj,hints,hlen⟩:=script_of hn hpre hwl
  refine enter_call (codeAny_mono (call w s₀ s₁ mg mb fa o pm cd doc a vs ns G Y ho (fd_plain hd) hcd hmg hobj hints hlen hg) fun r s' hq=>?_)
  obtain ⟨rfl,h2,h3,h4⟩:=hq
  exact ⟨.inl ⟨.bool true,.bool true,[],rfl,fun _=>rfl,.bool true,post_true l _,fun _=>⟨List.Pairwise.nil,fun _ hm=>(nomatch hm)⟩⟩,h2,h3,h4⟩
section
variable {prog:Program} {w:World} {A:Around} {E:Value→Shared→Prop} {s:Shared} {K:Frag}
end
end Att
namespace L2
open PySem PySem.Spec PyProof.Rows
theorem vals_ints:∀ {vs:List Value} {ns:List Int},IntsAre vs ns→Vals (ns.map V.int) vs
  | _,_,.nil=>.nil
  | _,_,.cons n t h=>.cons ⟨t,rfl⟩ (vals_ints h)
end L2
namespace L2
open PySem PySem.Spec PyProof.Rows
abbrev KOf {K:PySem.W.Frag} {h:Heap} (_:K.In h):PySem.W.Frag:=K
end L2
namespace L2
open PySem PySem.Spec PyProof.Rows
def inClass (s:Stmt) (j:Nat):Stmt:=match s with
  | .ClassDef _ _ _ body _ _ _ _ _ _ _=>body.getD j (.Pass ⟨0,0,0,0⟩)
  | _=>.Pass ⟨0,0,0,0⟩
def defArgs (s:Stmt):Arguments:=match s with
  | .FunctionDef _ a _ _ _ _ _ _ _ _=>a
  | _=>{ posonlyargs:=[],args:=[],vararg:=none,kwonlyargs:=[],kw_defaults:=[],kwarg:=none,defaults:=[] }
def defBody (s:Stmt):List Stmt:=match s with
  | .FunctionDef _ _ b _ _ _ _ _ _ _=>b
  | _=>[]
def defScope (s:Stmt):Scope:=match s with
  | .FunctionDef _ _ _ _ _ _ sc _ _ _=>sc
  | _=>{ kind:=.function,names:=[],isGenerator:=false,isCoroutine:=false }
abbrev CX0:CXT:=fun _ _ _ _ _ _=>False
abbrev E0:XK:=fun _ _ _=>False
theorem pass0 {X:Cx}:Passes CX0 X E0:=fun _ _ _ _ _ _ _ h=>h.elim
structure Fun (K:PySem.W.Frag) (x qual:Str) (st:Stmt) (f:Addr) (fd:FuncData):Prop where
  ex:∃ (oc:Value) (od:Option Addr) (kV doc pm:Value) (an:Option Addr) (cdv ct:Value) (osl:Array (Option Value)),
    fd = PySem.W.fnOf x qual (defArgs st) (defBody st) (defScope st) .none kV doc pm an cdv ct∧K.lookup f = some ⟨oc,od,.func fd,osl⟩∧PySem.W.codeIn K cdv qual = true
  kp:PySem.W.keepIn K (.ref f) = true
section
variable {P:Program} {w:World} {K:PySem.W.Frag} {mg:Str→Option Value} {base:Heap}
theorem Fun.ok {x qual:Str} {st:Stmt} {f:Addr} {fd:FuncData} {N ps:List Str} {k:Nat} {sp:Sp} (F:Fun K x qual st f fd) (S:FnScope N ps (defScope st)) (len:∀ vs H Q E,sp vs H Q E→vs.length = ps.length)
    (hbody:∀ (cdv:Value) (A:Around) (outer:List Env) (s:Shared) (H:Hp) (vs:List V) (Q:VK) (E:XK),Room k (A.deeper (envOfC qual (defScope st) s.heap.objs.size f cdv))→sp vs H Q E →
      ∃ t,PSs (cxOf CX0 P w K mg base N qual (defScope st) f cdv A outer s H E).nox (defBody st) t∧t { nx:=fun _ H'=>Q .non H',rt:=Q } (start N vs) H):FnOk P w K mg base CX0 (k + 1) f fd ps sp:=by
  obtain ⟨oc,od,kV,doc,pm,an,cdv,ct,osl,rfl,lk,hcd⟩:=F.ex
  refine fn_of lk hcd S len fun A outer s H vs Q E hr hsp=>?_
  obtain ⟨t,h,q⟩:=hbody cdv A outer s H vs Q E hr hsp
  exact ⟨t,h.nox,q⟩
theorem Fun.binds {x qual:Str} {st:Stmt} {f:Addr} {fd:FuncData} {ps:List Str} (F:Fun K x qual st f fd)
    (h:∀ (kV doc pm:Value) (an:Option Addr) (cdv ct:Value) (us:List Value),us.length = ps.length→bindArgs (PySem.W.fnOf x qual (defArgs st) (defBody st) (defScope st) .none kV doc pm an cdv ct) ⟨us,[]⟩ = pure (ps.zip us)):Binds K fd ps []:=by
  obtain ⟨oc,od,kV,doc,pm,an,cdv,ct,osl,rfl,lk,hcd⟩:=F.ex
  exact .all (h kV doc pm an cdv ct)
theorem fun_mk {x qual:Str} {st:Stmt} {f:Addr} {oc:Value} {od an:Option Addr} {osl:Array (Option Value)} {kV doc pm cdv ct:Value} (l:K.lookup f = some ⟨oc,od,.func (PySem.W.fnOf x qual (defArgs st) (defBody st) (defScope st) .none kV doc pm an cdv ct),osl⟩)
    (c:PySem.W.codeIn K cdv qual = true) (k:PySem.W.keepIn K (.ref f) = true):Fun K x qual st f (PySem.W.fnOf x qual (defArgs st) (defBody st) (defScope st) .none kV doc pm an cdv ct):=⟨⟨oc,od,kV,doc,pm,an,cdv,ct,osl,rfl,l,c⟩,k⟩
end
theorem hu_of {A:Around} {k:Nat} (hr:Room k A):A.units + 1 < cLine:=Nat.lt_of_le_of_lt (Nat.add_le_add_left (by decide:1≤64) _) hr.units
section
variable {X:Cx}
theorem pv (i:Nat) {x:Str} {pos:Pos} (hN:X.N[i]? = some x:=by rfl) (hv:Vis X.env.scope x:=by first | exact Or.inl rfl | exact Or.inr (Or.inl rfl) | exact Or.inr (Or.inr rfl)) (hd:(x == ("__debug__" : Str)) = false:=by decide)
    (hcd:(x == ("__classdict__" : Str)) = false:=by decide):PE X (.Name x pos) (tVar i):=pe_var hN hv hd hcd
end
theorem ite2 {c A B:Prop} [Decidable c] (h1:c→A) (h2:¬ c→B):if c then A else B:=by
  by_cases h:c
  · rw [if_pos h]
    exact h1 h
  · rw [if_neg h]
    exact h2 h
def Same (H H':Hp):Prop:=∀ b o,H b = some o→H' b = some o
theorem Same.refl (H:Hp):Same H H:=fun _ _ h=>h
theorem Same.trans {H H1 H2:Hp} (a:Same H H1) (b:Same H1 H2):Same H H2:=fun c o h=>b c o (a c o h)
theorem Same.free {H H':Hp} (e:Same H H') {l:Addr} (h:H' l = Option.none):H l = Option.none:=by
  cases q:H l with
  | none=>rfl
  | some o =>
    rw [e l o q] at h
    cases h
theorem Same.seq {K:PySem.W.Frag} {H H':Hp} {a:Addr} {xs:List V} (e:Same H H') (h:SqL K H a xs):SqL K H' a xs:=by
  rcases h with (h | ⟨o,h⟩) | h
  · exact .inl (.inl (e _ _ h))
  · exact .inl (.inr ⟨o,e _ _ h⟩)
  · exact .inr h
end L2
namespace L2
open PySem PySem.Spec PyProof.Rows
theorem ObjOk.has {P:Program} {w:World} {H:Hp} {h:Heap} {a:Addr} {o:HO} (x:ObjOk P w H h a o):∃ u,h.get? a = some u:=by
  cases o with
  | lst xs=>obtain ⟨_,_,_,_,q⟩:=x; exact ⟨_,q⟩
  | tup xs=>obtain ⟨_,_,_,ob,q,_⟩:=x; exact ⟨ob,q⟩
  | dK kvs=>obtain ⟨_,_,_,_,ob,_,_,q,_⟩:=x; exact ⟨ob,q⟩
  | dT kvs=>obtain ⟨_,_,_,_,ob,_,_,q,_⟩:=x; exact ⟨ob,q⟩
  | set S n=>obtain ⟨ob,_,_,_,q,_⟩:=x; exact ⟨ob,q⟩
  | ins C dx fs=>obtain ⟨_,_,_,q,_⟩:=x; exact ⟨_,q⟩
  | own y=>obtain ⟨ob,q⟩:=x; exact ⟨ob,q⟩
  | xd fs=>obtain ⟨_,⟨ob,_,_,q,_⟩,_⟩:=x; exact ⟨ob,q⟩
  | rng lo hi=>obtain ⟨_,_,_,q⟩:=x; exact ⟨_,q⟩
  | frz ob u=>obtain ⟨q,_⟩:=x; exact ⟨_,q⟩
  | tbl ps=>exact ⟨_,(show h.get? a = some _ from x)⟩
  | met f y=>exact ⟨_,(show h.get? a = some _ from x)⟩
  | ext φ=>obtain ⟨_,⟨ob,q⟩,_⟩:=x; exact ⟨ob,q⟩
section
variable {P:Program} {w:World} {K:PySem.W.Frag} {mg:Str→Option Value} {base:Heap} {N:List Str} {qual:Str} {scope:Scope} {f:Addr} {cd:Value} {A:Around} {outer:List Env} {s:Shared} {H:Hp} {E:XK}
theorem Inv.hasNo {X:Cx} {pins:List (Addr×Obj)} {σ:St} {H:Hp} {s:Shared} {a:Addr} (I:Inv X pins σ H s) (e:s.heap.get? a = none):H a = none:=by
  cases q:H a with
  | none=>rfl
  | some u =>
    obtain ⟨o,z⟩:=(I.hok a u q).has
    rw [e] at z; cases z
end
structure ExC (K:PySem.W.Frag) (C:Addr):Prop where
  ex:PySem.W.excIn K C [.type "ValueError",.type "Exception",.type "BaseException",.type "object"] "ValueError.__new__" = true
section
variable {X:Cx} {E:XK} {x:Str} {C:Addr} {e:Expr} {es:List Expr} {t:TA} {np cpos pos:Pos}
end
section
variable {X:Cx} {pins pins':List (Addr×Obj)} {σ:St} {H:Hp} {s:Shared} {Kx:Value→Hp→Prop} {a:Addr}
end
section
variable {X:Cx} {body suite:List Stmt} {b₀:Stmt} {n x:Str} {i:Nat} {R:Addr} {np hpos pos:Pos} {tb:(Value→Hp→Prop)→TS} {th:TS}
end
end L2
namespace L2
open PySem PySem.Spec PyProof.Rows
section
variable {X:Cx}
def rSlS:V→Option Int→Option Int→Hp→VK→Prop:=fun x lo hi H Q=>∃ z,x = .str z∧z.length≤sizeLine∧Q (.str (Txt.slice z lo hi)) H
theorem part_of {v:Value} {o:Option Int} (p:IsPart v o):∃ l:Option (Int×Tok),v = partValue l∧l.map (·.1) = o:=by
  cases p with
  | none=>exact ⟨none,rfl,rfl⟩
  | int i t=>exact ⟨some (i,t),rfl,rfl⟩
theorem sl_str:SlR X rSlS:=by
  intro pins s σ H x v vl vu lo hi sl Q I rx hs pl pu h
  obtain ⟨z,rfl,hz,q⟩:=h
  obtain ⟨t,rfl⟩:=rx
  obtain ⟨l,rfl,rfl⟩:=part_of pl
  obtain ⟨u,rfl,rfl⟩:=part_of pu
  refine ⟨"str",_,PySem.F.slot_str_getitem.lookup,typeIs_str s z t,wpAny_getItem_str_slice (l:=l) (u:=u) (st:=none) hs rfl ?_⟩
  exact post_val_or_str ⟨Nat.le_trans (Txt.slice_le z _ _) hz,fun t' k=>⟨.str _,H,I.tok _,⟨_,rfl⟩,q⟩⟩
theorem mt_index:MtR X "list.index" (fun x vs H Q=>∃ l xs y j z,x = .ref l∧vs = [y]∧H l = some (.lst xs)∧flatV y = true∧xs.all flatV = true∧xs[j]? = some z∧eqV z y = true∧(∀ m z',m < j→xs[m]? = some z'→eqV z' y = false)∧Q (.int (j:Nat)) H):=by
  intro pins s σ H x vs v us Q I rx rv h
  obtain ⟨l,xs,y,j,z,rfl,rfl,hH,fy,fx,hj,hz,hno,q⟩:=h
  cases rx
  obtain ⟨u,rfl,ru⟩:=rv.one
  obtain ⟨zz,its,n,r,hl,e⟩:=I.lstM hH
  have hjl:j < its.length:=by rw [← hl]; exact (List.getElem?_eq_some_iff.mp hj).1
  have ans:∀ (m:Nat) (hm:m < its.length) (w:V),xs[m]? = some w→eqU y its[m] = eqV w y:=fun m hm w hw=>by
    obtain ⟨uu,e1,e2⟩:=r.get hw
    have e3:its[m] = uu:=by rw [List.getElem?_eq_getElem hm] at e1; exact Option.some.inj e1
    rw [e3]
    exact eqU_of e2 (List.all_eq_true.mp fx w (List.mem_of_getElem? hw))
  have hline:=line63
  have hsm:(j:Int) < 2 ^ 63 - 1:=by
    have:j < sizeLine:=by omega
    have h2:sizeLine = 16777216:=sizeLine_eq
    omega
  refine call_meets PySem.F.slot_list_index ⟨_,e,rfl⟩ PySem.F.entry_list_index (PySem.F.args_list_index_2 _ _) (SeqAt.list_indexAt l its.toArray n none #[] u (eqU y) j (by simpa using hjl) hsm ?_ ?_) ⟨e,fun w hw=>mem_eqAt ru fy r fx w (by simpa using hw),?_⟩
  · show eqU y its.toArray[j] = true
    rw [List.getElem_toArray,ans j hjl z hj]; exact hz
  · intro m hm hmj
    have hm':m < its.length:=by simpa using hm
    have hx:m < xs.length:=by omega
    show eqU y its.toArray[m] = false
    rw [List.getElem_toArray,ans m hm' xs[m] (List.getElem?_eq_getElem hx)]
    exact hno m _ hmj (List.getElem?_eq_getElem hx)
  · exact ⟨.int _,H,I.tok _,⟨_,rfl⟩,q⟩
def eqL:List V→List V→Bool
  | [],[]=>true
  | x :: xs,y :: ys=>eqV x y && eqL xs ys
  | _,_=>false
theorem eqL_len:∀ {xs ys:List V},xs.length≠ys.length→eqL xs ys = false
  | [],[],h=>absurd rfl h
  | [],_ :: _,_=>rfl
  | _ :: _,[],_=>rfl
  | x :: xs,y :: ys,h=>by
    have:eqL xs ys = false:=eqL_len fun z=>h (by rw [List.length_cons,List.length_cons,z])
    show (eqV x y && eqL xs ys) = false
    rw [this,Bool.and_false]
theorem eqL_all:∀ (xs ys:List V),xs.length = ys.length→(List.range xs.length).all (fun j=>eqV (xs.getD j .non) (ys.getD j .non)) = eqL xs ys
  | [],[],_=>rfl
  | [],_ :: _,h=>nomatch h
  | _ :: _,[],h=>nomatch h
  | x :: xs,y :: ys,h=>by
    have ih:=eqL_all xs ys (by simpa using h)
    rw [List.length_cons,List.range_succ_eq_map,List.all_cons,List.all_map]
    show (eqV x y && _) = (eqV x y && eqL xs ys)
    rw [← ih]
    rfl
def rEqL (K:PySem.W.Frag) (neg:Bool):R2:=fun x y H Q=>∃ l b xs ys,x = .ref l∧y = .ref b∧SqL K H l xs∧SqL K H b ys∧xs.all flatV = true∧ys.all flatV = true∧Q (.bl (if neg then !eqL xs ys else eqL xs ys)) H
theorem flat_at {xs ys:List V} {its its2:List Value} {A:Around} {s:Shared} (r:Vals xs its) (r2:Vals ys its2) (fx:xs.all flatV = true) (fy:ys.all flatV = true) :
    ∀ (j:Nat) (h1:j < its.toArray.size) (h2:j < its2.toArray.size),SeqAt.EqAt A s its.toArray[j] its2.toArray[j] (eqV (xs.getD j .non) (ys.getD j .non)):=by
  intro j h1 h2
  have l1:=r.length
  have l2:=r2.length
  have hx:j < xs.length:=by rw [l1]; simpa using h1
  have hy:j < ys.length:=by rw [l2]; simpa using h2
  obtain ⟨u,e1,q1⟩:=r.get (List.getElem?_eq_getElem hx)
  obtain ⟨w,e2,q2⟩:=r2.get (List.getElem?_eq_getElem hy)
  have e3:its.toArray[j] = u:=by
    rw [List.getElem_toArray]; rw [List.getElem?_eq_getElem (by simpa using h1)] at e1; exact Option.some.inj e1
  have e4:its2.toArray[j] = w:=by
    rw [List.getElem_toArray]; rw [List.getElem?_eq_getElem (by simpa using h2)] at e2; exact Option.some.inj e2
  have g1:xs.getD j .non = xs[j]:=by rw [List.getD_eq_getElem?_getD,List.getElem?_eq_getElem hx]; rfl
  have g2:ys.getD j .non = ys[j]:=by rw [List.getD_eq_getElem?_getD,List.getElem?_eq_getElem hy]; rfl
  rw [e3,e4,g1,g2]
  exact eqAt_V q1 q2 (List.all_eq_true.mp fx _ (List.getElem_mem hx)) (List.all_eq_true.mp fy _ (List.getElem_mem hy))
theorem op_eq_lst (hu:X.A.units < cLine):OpR X (compareOp .Eq) (rEqL X.K false):=by
  intro pins s σ H x y v u Q I rx ry h
  obtain ⟨l,b,xs,ys,rfl,rfl,hx,hy,fx,fy,q⟩:=h
  cases rx; cases ry
  obtain ⟨its,r,pl,_⟩:=I.list hx
  obtain ⟨its2,r2,pl2,_⟩:=I.list hy
  have l1:=r.length
  have l2:=r2.length
  by_cases hl:xs.length = ys.length
  · refine SeqAt.eq_listAt pl.isList pl2.isList (by simp; omega) hu (flat_at r r2 fx fy) ?_
    rw [List.size_toArray,← l1,eqL_all xs ys hl]
    exact ⟨.bl _,H,I,rfl,q⟩
  · refine SeqAt.eq_list_lengthsAt pl.isList pl2.isList (by simp; omega) hu ?_
    rw [show (if false = true then !eqL xs ys else eqL xs ys) = false from eqL_len hl] at q
    exact ⟨.bl _,H,I,rfl,q⟩
theorem op_ne_lst (hu:X.A.units < cLine):OpR X (compareOp .NotEq) (rEqL X.K true):=by
  intro pins s σ H x y v u Q I rx ry h
  obtain ⟨l,b,xs,ys,rfl,rfl,hx,hy,fx,fy,q⟩:=h
  cases rx; cases ry
  obtain ⟨its,r,pl,_⟩:=I.list hx
  obtain ⟨its2,r2,pl2,_⟩:=I.list hy
  have l1:=r.length
  have l2:=r2.length
  by_cases hl:xs.length = ys.length
  · refine SeqAt.RcNeAt.lists pl.isList pl2.isList (by simp; omega) hu (flat_at r r2 fx fy) _ _ _ _ ?_
    rw [List.size_toArray,← l1,eqL_all xs ys hl]
    exact ⟨.bl _,H,I,rfl,q⟩
  · refine SeqAt.RcNeAt.lists_lengths pl.isList pl2.isList (by simp; omega) hu _ _ _ _ ?_
    rw [show (if true = true then !eqL xs ys else eqL xs ys) = true by rw [eqL_len hl]; rfl] at q
    exact ⟨.bl _,H,I,rfl,q⟩
theorem all_range:∀ bs:List Bool,(List.range bs.length).all (fun i=>bs.getD i false) = bs.all id
  | []=>rfl
  | b :: bs=>by
    rw [List.length_cons,List.range_succ_eq_map,List.all_cons,List.all_map,List.all_cons]
    show (b && _) = (b && _)
    rw [← all_range bs]
    rfl
theorem call_all_list (hc:X.calm = true):CallR X (.builtin "all") (fun xs H Q=>∃ (p:Addr) (bs:List Bool),xs = [.ref p]∧SqL X.K H p (bs.map V.bl)∧Q (.bl (bs.all id)) H):=by
  intro pins s σ H xs us Q I r h
  obtain ⟨p,bs,rfl,hq,q⟩:=h
  obtain ⟨u,rfl,rx⟩:=vals1 r
  cases rx
  obtain ⟨its,r',pl,hz⟩:=I.list hq
  have hlen:=r'.length
  obtain ⟨o,n,ho,_⟩:=id pl
  have hne:p≠s.heap.objs.size:=Nat.ne_of_lt (Heap.lt_size ho)
  have tr:TruthOf X.prog X.w X.A.in1 (fun i v=>its.toArray[i]? = some v) (fun i=>bs.getD i false):=by
    intro i v s2 Q2 E2 hv hq2
    have hv':its[i]? = some v:=by simpa using hv
    have hi:i < bs.length:=by
      have:=(List.getElem?_eq_some_iff.mp hv').1
      rw [← hlen,List.length_map] at this; exact this
    obtain ⟨w,e1,e2⟩:=r'.get (i:=i) (x:=.bl bs[i]) (by rw [List.getElem?_map,List.getElem?_eq_getElem hi]; rfl)
    rw [hv'] at e1
    cases e1
    cases e2
    refine wpAny_truthy_bool ?_
    have e3:bs.getD i false = bs[i]:=by rw [List.getD_eq_getElem?_getD,List.getElem?_eq_getElem hi]; rfl
    have q3:Q2 (bs.getD i false) s2:=hq2
    rw [e3] at q3
    exact q3
  refine call_all_walk (wpAny_pyIter_list pl.isList ?_)
  refine ⟨s.heap.objs.size,[s.heap.objs.size,p],[s.heap.objs.size],its.toArray.size,_,_,_,rfl,Walks.list (A:=X.A.in1) (I.ok.hd hc) _ _ hne its.toArray,⟨⟨_,Heap.get?_push_size _ rfl,rfl,rfl⟩,?_⟩,tr,fun h' tk hk=>?_⟩
  · obtain ⟨o2,e2,r2⟩:=pl.isList
    exact ⟨o2,Heap.get?_push_of_some _ e2,r2⟩
  · have hk2:∀ b o,s.heap.get? b = some o→h'.get? b = some o:=fun b o e=>hk b o (fun z=>by
      have e1:=Heap.lt_size e
      rw [List.mem_singleton.mp z] at e1
      exact absurd e1 (Nat.lt_irrefl _)) (Heap.get?_push_of_some _ e)
    have e:(List.range its.toArray.size).all (fun i=>bs.getD i false) = bs.all id:=by
      rw [List.size_toArray,← hlen,List.length_map]; exact all_range bs
    rw [e]
    exact ⟨.bl _,H,I.kept (t':=tk) hk2,rfl,q⟩
end
theorem Inv.laidN {X:Cx} {pins:List (Addr×Obj)} {σ:St} {H:Hp} {s:Shared} {h':Heap} {a:Addr} {o:HO} {t':Nat} (I:Inv X pins σ H s) (k:∀ b u,s.heap.get? b = some u→h'.get? b = some u) (hn:s.heap.get? a = none)
    (new:ObjOk X.prog X.w (upd H a o) h' a o):Inv X pins σ (upd H a o) { s with heap:=h',toks:=t' }:=by
  have ha:H a = none:=I.hasNo hn
  have nt:∀ b u,H b = some u→b≠a:=fun b u q=>ne_of_none q ha
  refine I.un ⟨fun b u q _ _ _=>k b u q,fun b u q _ _ _=>⟨u.slots,k b u q⟩,fun b u q n _=>?_,fun b u q _=>⟨u,k b u q⟩,fun b xs q=>?_,fun b u xs q=>?_,fun b ps q=>⟨#[],?_⟩⟩ fun b u q=>?_
  · have ne:b≠a:=fun z=>by rw [z,hn] at q; cases q
    rw [upd_ne ne]; exact n
  · rw [upd_ne (nt _ _ q)]; exact q
  · rw [upd_ne (nt _ _ q)]; exact q
  · rw [upd_ne (nt _ _ q),q]; simp
  · by_cases hb:b = a
    · subst hb; rw [upd_same] at q; cases q; exact new
    · rw [upd_ne hb] at q
      exact (I.hok b u q).stay (fun c v _ z=>k c v z) (fun c z=>by rw [upd_ne (nt _ _ z)]; exact z) fun c xs z=>by rw [upd_ne (nt _ _ z)]; exact z
def inS (z:Str) (c:Nat):Bool:=!(Builtin.Str.occurrences z ⟨#[c]⟩ 0 z.length 1).isEmpty
theorem vals_signs {g:Nat→Bool}:∀ (cs:List Nat) (vs rs:List Value),vs.length = cs.length→(∀ (j:Nat) (v:Value),vs[j]? = some v→∃ c u,cs[j]? = some c∧v = .str ⟨#[c]⟩ u) →
    Paired (fun v r=>∀ c u,v = .str ⟨#[c]⟩ u→r = .bool (g c)) vs rs→Vals (cs.map fun c=>V.bl (g c)) rs
  | [],[],_,_,_,.nil=>.nil
  | [],_ :: _,_,h,_,_=>nomatch h
  | _ :: _,[],_,h,_,_=>nomatch h
  | c :: cs,v :: vs,_,h,hg,.cons r t=>by
    obtain ⟨c',u,e1,e2⟩:=hg 0 v rfl
    have e3:c = c':=by simpa using e1
    subst e3
    exact .cons (r c u e2) (vals_signs cs vs _ (by simpa using h) (fun j w hw=>by simpa using hg (j + 1) w (by simpa using hw)) t)
section
variable {X:Cx} {x z:Str} {p1 p2 p3 px pos:Pos} {iter:Expr} {ti:TE} {scope:Scope} {cl:List (Str×Addr)} {zs:Str}
def ZRead (X:Cx) (scope:Scope) (cl:List (Str×Addr)) (z:Str) (p2:Pos) (zs:Str) (σ:St):Prop :=
  ∀ (pins:List (Addr×Obj)) (H:Hp) (s1 s3:Shared) (C:Addr) (Q:Value→Shared→Prop) (E:Value→Shared→Prop),Inv X pins σ H s1→(∀ b o,s1.heap.get? b = some o→s3.heap.get? b = some o)→(∀ t,Q (.str zs t) s3) →
    wpAny (model X.prog X.w) X.A (eval (.Name z p2) (compEnvC scope cl C X.env)) Q E s3
def tCompIn (X:Cx) (scope:Scope) (cl:List (Str×Addr)) (z:Str) (p2:Pos) (ti:TE):TE:=fun σ H Q=>∃ zs,ZRead X scope cl z p2 zs σ∧ti σ H fun v H1=>∃ y,v = .str y∧y.length≤sizeLine ∧
  ∀ p,H1 p = none→Q (.ref p) (upd H1 p (.lst (y.cps.toList.map fun c=>V.bl (inS zs c))))
theorem pe_compIn (hc:X.calm = true) (hi:PE X iter ti) (hclos:closureFor scope X.env = pure cl) (hcell:∀ y∈scope.names,y.2≠.cell) (hkind:scope.kind = .function)
    (hnames:∀ y∈scope.names,y.2 = .local→scope.names.lookup y.1 = some .local) (hx:scope.names.lookup x = some .local) (hs:∀ v,foldedSetIterable iter X.env v = pure v:=by intro _; rfl) (hd:(x == ("__debug__" : Str)) = false:=by decide) :
    PE X (.ListComp (.Compare (.Name x p1) [.In] [.Name z p2] p3) [⟨.Name x px,iter,[],0⟩] scope pos) (tCompIn X scope cl z p2 ti):=by
  intro pins s σ H Q I h
  obtain ⟨zs,zr,h⟩:=h
  refine wpAny_ListComp_free (cl:=cl) (fun _=>true) (fun v r=>∀ c u,v = .str ⟨#[c]⟩ u→r = .bool (inS zs c)) hclos hcell hkind hnames hx (thn (hi pins s σ H _ I h) fun xv s1 ⟨v,H1,I1,r1,y,ev,hy,q⟩=>?_) hs
  subst ev
  obtain ⟨t,rfl⟩:=r1
  refine wpAny_pyIter_str fun o St W hst=>?_
  have old:∀ (h':Heap),(∀ b o',b∉[s1.heap.objs.size]→(s1.heap.push o).get? b = some o'→h'.get? b = some o')→∀ b o',s1.heap.get? b = some o'→h'.get? b = some o':=fun h' hk b o' e =>
    hk b o' (fun z=>by
      have e1:=Heap.lt_size e
      rw [List.mem_singleton.mp z] at e1
      exact absurd e1 (Nat.lt_irrefl _)) (Heap.get?_push_of_some _ e)
  refine ⟨s1.heap.objs.size,[s1.heap.objs.size],[s1.heap.objs.size],y.cps.size,SignAt y,St,rfl,W X.A (I1.ok.hd hc),hy,hst,fun b hb=>?_,⟨?_,?_⟩,?_⟩
  · rw [List.mem_singleton.mp hb]
    show s1.heap.objs.size < (s1.heap.push o).objs.size
    rw [Heap.size_push]; exact Nat.lt_succ_self _
  · intro C i v s3 m3 E' _ hP hn hm hk _
    exact wpAny_pure ⟨rfl,s3.heap,s3.toks,rfl,fun _ _ e=>e⟩
  · intro C i v s3 m3 E' _ hP _ hn hm hk _
    obtain ⟨c,u,_,rfl⟩:=hP
    refine wpAny_Compare1 (wpAny_Name (wpAny_loadName_local (env:=compEnvC scope cl C X.env) (m:=m3) hkind (lookup_relabel_local hx) hn hm ?_) hd)
    refine zr pins H1 s1 s3 C _ _ I1 (old _ hk) fun t3=>?_
    refine in_str ⟨fun c' u' e=>?_,s3.heap,s3.toks,rfl,fun _ _ e=>e⟩
    injection e with e1 _
    injection e1 with e2
    have e3:c = c':=by simpa using e2
    subst e3
    rfl
  · intro D h' tk ys vs hnew hl hpl hlen hP hF hk
    have hn1:s1.heap.get? D = none:=by
      cases e:s1.heap.get? D with
      | none=>rfl
      | some u =>
        have:=Heap.get?_push_of_some o e
        rw [show (s1.heap.push o).get? D = none from hnew] at this
        cases this
    obtain ⟨n,hD⟩:=hpl
    have hfil:vs.filter (fun _=>true) = vs:=List.filter_eq_self.mpr fun _ _=>rfl
    rw [hfil] at hF
    have V1:Vals (y.cps.toList.map fun c=>V.bl (inS zs c)) ys.toList:=vals_signs y.cps.toList vs ys.toList (by rw [hlen]; simp) (fun j v hv=>by
      obtain ⟨c,u,e1,e2⟩:=hP j v hv
      exact ⟨c,u,by simpa using e1,e2⟩) hF
    have new:ObjOk X.prog X.w (upd H1 D (.lst (y.cps.toList.map fun c=>V.bl (inS zs c)))) h' D (.lst (y.cps.toList.map fun c=>V.bl (inS zs c))):=by
      refine ⟨?_,ys.toList,n,V1,?_⟩
      · rw [List.length_map]
        have:y.cps.toList.length = y.length:=by simp [Str.length]
        omega
      · rw [Array.toArray_toList]; exact hD
    exact ⟨.ref D,_,I1.laidN (t':=tk) (old h' hk) hn1 new,rfl,q D (I1.hasNo hn1)⟩
theorem zread_glob {σ:St} {t:Tok} (hg:(relabel scope X.env).names.lookup z = some .globalImplicit) (hkind:scope.kind = .function) (hm:X.mg z = some (.str zs t)) (hd:(z == ("__debug__" : Str)) = false:=by decide):ZRead X scope cl z p2 zs σ:=by
  intro pins H s1 s3 C Q E I k q
  exact Calls.Name_function_global (env:=compEnvC scope cl C X.env) hkind hg (Calls.loadGlobal_global (env:=compEnvC scope cl C X.env) (by
    show s3.heap.Ns X.env.globals X.mg
    rw [I.ok.glob]; exact (I.mod.glob.keeps I.bk).keeps k) hm (q t)) hd
end
section
variable {X:Cx}
theorem call_isi_ty:CallR X (.builtin "isinstance") (fun xs H Q=>∃ x T t b,xs = [x,.ty T]∧TyOf X.K H x t∧PySem.W.kitOne X.K t (.type T) = some b∧Q (.bl b) H):=by
  intro pins s σ H xs us Q I r h
  obtain ⟨x,T,t,b,rfl,ty,e,q⟩:=h
  obtain ⟨u,w',rfl,rx,ry⟩:=vals2 r
  cases (show w' = Value.type T from ry)
  exact isinst_ok I rx ty e fun tk=>⟨.bl b,H,I.tok _,rfl,q⟩
theorem call_isi_own:CallR X (.builtin "isinstance") (fun xs H Q=>∃ x C t b,xs = [x,.ref C]∧TyOf X.K H x t∧PySem.W.kitOne X.K t (.ref C) = some b∧Q (.bl b) H):=by
  intro pins s σ H xs us Q I r h
  obtain ⟨x,C,t,b,rfl,ty,e,q⟩:=h
  obtain ⟨u,w',rfl,rx,ry⟩:=vals2 r
  cases (show w' = Value.ref C from ry)
  exact isinst_ok I rx ty e fun tk=>⟨.bl b,H,I.tok _,rfl,q⟩
end
section
variable {X:Cx} {x:Str} {pos:Pos}
theorem pe_gref {a:Addr} (hg:Gl X x) (hm:X.mg x = some (.ref a)) (hd:(x == ("__debug__" : Str)) = false:=by decide):PE X (.Name x pos) (tC (.ref a)):=pe_glob hg hm rfl hd
theorem pe_gty {T:String} (hg:Gl X x) (hm:X.mg x = none) (hv:bootBuiltins x = some (.type T)) (hn:x ≠ "__name__" := by decide) (hd:(x == ("__debug__" : Str)) = false:=by decide):PE X (.Name x pos) (tC (.ty T)):=pe_bltn hg hm hv rfl hn hd
end
end L2
namespace L2
open PySem PySem.Spec PyProof.Rows PySem.W PySem.Calls Builtin Builtin.ObjectAttr Builtin.Getset_descriptor
section
variable {prog:Program} {w:World} {A:Around} {E:Value→Shared→Prop} {s:Shared} {K:PySem.W.Frag} {a C:Addr} {o:Obj} {R:Result→Shared→Prop}
structure ExI (K:PySem.W.Frag) (C:Addr):Prop where
  cl:(PySem.W.clsIn K C).isSome = true
  g1:PySem.W.findIn K (.ref C) "__getattribute__" = some (some (.builtin "BaseException.__getattribute__"))
  g2:PySem.W.findIn K (.ref C) "__getattr__" = some none
  g3:PySem.W.findIn K (.ref C) "__class__" = some (some (.builtin "object.__class__"))
  g4:PySem.W.mroIn K C (.type "object") = some true
  g5:PySem.W.mroIn K C (.type "BaseException") = some true
  g6:PySem.W.specialIn K (.builtin "object.__class__") "__get__" = some (some (.builtin "getset_descriptor.__get__"))
  g7:PySem.W.takesIn K (.builtin "object.__class__") = some true
end
end L2
namespace L2
open PySem PySem.Spec PyProof.Rows
theorem thnF {α:Type} {t:Sem α} {Q Q':α→Shared→Prop} {M:Model} {A:Around} {E:Value→Shared→Prop} {s:Shared} (h:wpAny M A t Q (fun _ _=>False) s) (hQ:∀ a s,Q a s→Q' a s):wpAny M A t Q' E s:=wpAny_mono h hQ fun _ _ z=>z.elim
abbrev testsOf (ifs:List Expr) (env:Env):Sem Bool:=forIn ifs true fun c r=>if r = true then do let ok ← isTrue c env (eval c env); pure (ForInStep.yield ok) else pure (ForInStep.yield r)
theorem comp_turns {prog:Program} {w:World} {A:Around} {R:Result→Shared→Prop} {s:Shared} {elt tg iter:Expr} {ifs:List Expr} {scope:Scope} {pos:Pos} {it acc:Value} {env:Env} (J:Nat→Shared→Prop)
    (turn:∀ k s1,J k s1→wpAny (model prog w) A (pyNext it) (fun r s2=>match r with
      | none=>R (.ok .next) s2
      | some v=>wpAny (model prog w) A (letOwnedTupleGo tg it v) (fun _ s3=>wpAny (model prog w) A (assign tg env v) (fun _ s4=>wpAny (model prog w) A (testsOf ifs env) (fun ok s5 =>
          if ok = true then wpAny (model prog w) A (eval elt env) (fun x s6=>wpAny (model prog w) A (call (.builtin "list.append") [acc,x]) (fun _ s7=>∃ m,m < k∧J m s7) (fun _ _=>False) s6) (fun _ _=>False) s5
          else ∃ m,m < k∧J m s5) (fun _ _=>False) s4) (fun _ _=>False) s3) (fun _ _=>False) s2) (fun _ _=>False) s1)
    (k:Nat) (h:J k s):codeAny (model prog w) A (.compLoop (.ListComp elt [⟨tg,iter,ifs,0⟩] scope pos) 0 it acc env) R s:=by
  refine codeAny_loop rfl J (fun k s1 hJ=>?_) k h
  refine wpAny_noted ?_
  rw [compTurn_list]
  refine wpAny_bind (wpAny_standAt (wpAny_bind (thnF (turn k s1 hJ) fun r s2 h2=>?_)))
  cases r with
  | none=>exact wpAny_pure h2
  | some v =>
    refine wpAny_bind (thnF h2 fun _ s3 h3=>wpAny_bind (thnF h3 fun _ s4 h4=>wpAny_bind (thnF h4 fun ok s5 h5=>?_)))
    cases ok with
    | false=>exact wpAny_pure ⟨rfl,h5⟩
    | true=>exact wpAny_bind (wpAny_bind (thnF h5 fun x s6 h6=>wpAny_bind (thnF h6 fun _ s7 h7=>wpAny_pure (wpAny_pure ⟨rfl,h7⟩))))
abbrev compCx (X:Cx) (N:List Str) (scope:Scope) (cl:List (Str×Addr)) (C:Addr) (s0:Shared) (H0:Hp) (ex:List Addr) (pins:List (Addr×Obj)):Cx :=
  { X with N:=N,s₀:=s0,H₀:=H0,env:=compEnvC scope cl C X.env,outer:=X.stack,stack:=X.stack,ex:=ex,fn:=fun _=>false,pn:=X.pn ++ pins,xe:=fun _ _=>False }
def FreeOk (X:Cx) (scope:Scope) (cl:List (Str×Addr)):List Str→List (Option Nat)→Prop
  | [],[]=>True
  | _ :: N,none :: fr=>FreeOk X scope cl N fr
  | y :: N,some i :: fr=>(X.N[i]? = some y∧(X.env.kindOf y = some .cell∨X.env.kindOf y = some .free)∧((relabel scope X.env).names.lookup y = some .cell∨(relabel scope X.env).names.lookup y = some .free) ∧
      ∃ c,X.env.cells.lookup y = some c∧cl.lookup y = some c)∧FreeOk X scope cl N fr
  | _,_=>False
def compSt (fr:List (Option Nat)) (σ:St):St:=fr.map fun o=>match o with | none=>none | some i=>(σ[i]?).getD none
theorem FreeOk.len {X:Cx} {scope:Scope} {cl:List (Str×Addr)}:∀ {N:List Str} {fr:List (Option Nat)},FreeOk X scope cl N fr→fr.length = N.length
  | [],[],_=>rfl
  | _ :: N,none :: fr,h=>by rw [List.length_cons,List.length_cons,FreeOk.len (N:=N) h]
  | _ :: N,some i :: fr,h=>by rw [List.length_cons,List.length_cons,FreeOk.len (N:=N) h.2]
  | [],_ :: _,h=>h.elim
  | _ :: _,[],h=>h.elim
theorem FreeOk.at {X:Cx} {scope:Scope} {cl:List (Str×Addr)} {σ:St} {v:V} {y:Str}:∀ {N:List Str} {fr:List (Option Nat)} {j:Nat},FreeOk X scope cl N fr→N[j]? = some y→(compSt fr σ)[j]? = some (some v) →
    ∃ i:Nat,σ[i]? = some (some v)∧X.N[i]? = some y∧(X.env.kindOf y = some .cell∨X.env.kindOf y = some .free)∧((relabel scope X.env).names.lookup y = some .cell∨(relabel scope X.env).names.lookup y = some .free) ∧
      ∃ c,X.env.cells.lookup y = some c∧cl.lookup y = some c
  | [],[],j,_,e,_=>by simp at e
  | [],_ :: _,_,h,_,_=>h.elim
  | _ :: _,[],_,h,_,_=>h.elim
  | _ :: N,none :: fr,0,_,_,q=>by cases q
  | _ :: N,none :: fr,j + 1,h,e,q=>FreeOk.at (N:=N) (fr:=fr) (j:=j) h e q
  | x :: N,some i :: fr,0,h,e,q=>by
    have e':x = y:=Option.some.inj e
    subst e'
    have q':some ((σ[i]?).getD none) = some (some v):=q
    refine ⟨i,?_,h.1⟩
    cases z:σ[i]? with
    | none=>rw [z] at q'; cases q'
    | some o=>rw [z] at q'; exact congrArg some (Option.some.inj q')
  | _ :: N,some i :: fr,j + 1,h,e,q=>FreeOk.at (N:=N) (fr:=fr) (j:=j) h.2 e q
def ClOk (X:Cx):List (Str×Addr)→Prop
  | []=>True
  | (y,c) :: r=>X.env.cells.lookup y = some c∧ClOk X r
theorem ClOk.at {X:Cx} {y:Str} {c:Addr}:∀ {cl:List (Str×Addr)},ClOk X cl→cl.lookup y = some c→X.env.cells.lookup y = some c
  | [],_,e=>by cases e
  | (z,d) :: r,h,e=>by
    rw [List.lookup_cons] at e
    cases q:y == z with
    | true =>
      rw [q] at e
      have e1:y = z:=by simpa using q
      have e2:d = c:=Option.some.inj e
      subst e1 e2
      exact h.1
    | false =>
      rw [q] at e
      exact ClOk.at h.2 e
theorem lookup_all {α:Type} {p:Str×α→Bool} {y:Str} {k:α}:∀ {l:List (Str×α)},l.all p = true→l.lookup y = some k→p (y,k) = true
  | [],_,e=>by cases e
  | (z,d) :: r,h,e=>by
    rw [List.all_cons,Bool.and_eq_true] at h
    rw [List.lookup_cons] at e
    cases q:y == z with
    | true =>
      rw [q] at e
      have e1:y = z:=by simpa using q
      have e2:d = k:=Option.some.inj e
      subst e1 e2
      exact h.1
    | false =>
      rw [q] at e
      exact lookup_all h.2 e
section
variable {X:Cx} {pins:List (Addr×Obj)} {σ:St} {H:Hp} {s:Shared} {N:List Str} {fr:List (Option Nat)} {scope:Scope} {cl:List (Str×Addr)}
theorem Inv.block {ex:List Addr} {h':Heap} {C:Addr} {m:Str→Option Value} {tk:Nat} (I:Inv X pins σ H s) (hkind:scope.kind = .function) (hfr:FreeOk X scope cl N fr) (hcl:ClOk X cl)
    (hhas:((relabel scope X.env).names.all fun p=>!(p.2 == .cell || p.2 == .free) || (cl.lookup p.1).isSome) = true) (hex:∀ b∈ex,FpOk X pins H b) (hlt:∀ b∈ex,b < s.heap.objs.size)
    (old:∀ b o,s.heap.get? b = some o→h'.get? b = some o) (hC:s.heap.objs.size≤C) (hns:h'.Ns C m):Inv (compCx X N scope cl C s H ex pins) [] (compSt fr σ) H { s with heap:=h',toks:=tk }:=by
  have nst:∀ b,b≠X.env.locals→b∉X.fs→b∉frs X.stack:=fun b h1 h2 z=>(List.mem_cons.mp (I.stkSub b z)).elim h1 h2
  have ltC:∀ b o,s.heap.get? b = some o→b≠C:=fun b o e=>Nat.ne_of_lt (Nat.lt_of_lt_of_le (Heap.lt_size e) hC)
  refine ⟨⟨I.ok.mod,hkind,I.ok.glob,I.ok.blt,hC,fun x y c e1 e2=>I.ok.inj x y c (hcl.at e1) (hcl.at e2),fun x hx=>?_,(fun _ _ z=>nomatch z),I.ok.hd,I.ok.frames,.inl rfl,fun b hb=>⟨Nat.ne_of_lt (Nat.lt_of_lt_of_le (hlt b hb) hC),fun x c e=>(hex b hb).2.2.2.2.1 x c (hcl.at e)⟩,
      I.bs,Nat.le_trans I.ok.bsz I.sz,fun b o e hb=>?_,fun b hb=>nst b (hex b hb).2.1 (hex b hb).2.2.1,I.stack,I.stkFree⟩,rfl,I.bare,Un.kept old,⟨m,hns,fun i x v e1 e2 e3=>?_⟩,fun x c e=>?_,?_,fun x c e=>I.freeC x c (hcl.at e),fun p hp=>?_,I.hok.kept old,?_⟩
  · have q:∃ k,(relabel scope X.env).names.lookup x = some k∧(k = .cell∨k = .free):=hx.elim (fun z=>⟨_,z,.inl rfl⟩) fun z=>⟨_,z,.inr rfl⟩
    obtain ⟨k,q1,q2⟩:=q
    have z:=lookup_all hhas q1
    have z2:(cl.lookup x).isSome = true:=by
      rcases q2 with rfl | rfl
      · simpa using z
      · simpa using z
    exact Option.isSome_iff_exists.mp z2
  · rcases (hex b hb).2.2.2.1 with z | z
    · exact I.ok.noex b o e z
    · exact absurd (Nat.lt_of_lt_of_le (Nat.lt_of_lt_of_le (Heap.lt_size e) I.ok.bsz) z) (Nat.lt_irrefl _)
  · obtain ⟨j,q1,q2,q3,q4,c,q5,q6⟩:=hfr.at e1 e2
    obtain ⟨m0,hn0,hl0⟩:=I.loc
    obtain ⟨u,r,l⟩:=hl0 j x v q2 q1 (q3.elim (fun z=>.inr (.inl z)) fun z=>.inr (.inr z))
    refine ⟨u,r,.inr ⟨q4,c,q6,?_⟩⟩
    rcases l with ⟨k,_⟩ | ⟨_,c',e',o,ho,hd⟩
    · rcases q3 with z | z
      · rw [z] at k; cases k
      · rw [z] at k; cases k
    · rw [q5] at e'; cases e'
      exact ⟨o,old _ _ ho,hd⟩
  · obtain ⟨v,o,ho,hd⟩:=I.cell x c (hcl.at e)
    exact ⟨v,o,old _ _ ho,hd⟩
  · exact I.hok.fresh hC
  · have hp':p∈X.pn ++ pins:=by simpa using hp
    obtain ⟨e,n,ne,nf,d⟩:=I.pin p hp'
    exact ⟨old _ _ e,n,ltC _ _ e,nst _ ne nf,d⟩
  · show (compSt fr σ).length = N.length
    unfold compSt
    rw [List.length_map,hfr.len]
theorem Inv.trackS {a:Addr} {ob:Obj} {vs:Array Value} {n:Nat} {o:HO} (I:Inv X pins σ H s) (ha:H a = none) (hob:s.heap.get? a = some ob) (hd:ob.data = .seq vs n)
    (h0:X.s₀.heap.get? a = none) (hp:∀ p∈X.pn ++ pins,p.1≠a) (new:ObjOk X.prog X.w (upd H a o) s.heap a o):Inv X pins σ (upd H a o) s:=by
  have nt:∀ b u,H b = some u→b≠a:=fun b u q=>ne_of_none q ha
  refine ⟨I.ok,I.os,I.bare,⟨I.base.keep,I.base.slot,fun b u e n hx=>?_,I.base.there,fun b xs q=>?_,fun b u xs q=>?_,fun b ps q=>?_⟩,I.loc,I.cell,?_,fun y c e=>?_,fun p q=>?_,fun b u q=>?_,I.len⟩
  · have ne:b≠a:=fun z=>by rw [z,h0] at e; cases e
    rw [upd_ne ne]; exact I.base.free b u e n hx
  · have z:=I.base.tups b xs q
    rw [upd_ne (nt _ _ z)]; exact z
  · have z:=I.base.frzs b u xs q
    rw [upd_ne (nt _ _ z)]; exact z
  · obtain ⟨m,z⟩:=I.base.tbls b ps q
    exact ⟨m,by rw [upd_ne (nt _ _ z)]; exact z⟩
  · have ne:X.env.locals≠a:=fun z=>by
      obtain ⟨m,⟨oL,es,ep,e1,e2,_⟩,_⟩:=I.loc
      rw [z,hob] at e1; cases e1
      rw [hd] at e2; cases e2
    rw [upd_ne ne]; exact I.free
  · have ne:c≠a:=fun z=>by
      obtain ⟨v,oc,e1,e2⟩:=I.cell y c e
      rw [z,hob] at e1; cases e1
      rw [hd] at e2; cases e2
    rw [upd_ne ne]; exact I.freeC y c e
  · obtain ⟨e,n,r⟩:=I.pin p q
    exact ⟨e,by rw [upd_ne (hp p q)]; exact n,r⟩
  · by_cases hb:b = a
    · subst hb; rw [upd_same] at q; cases q; exact new
    · rw [upd_ne hb] at q
      exact (I.hok b u q).stay (fun c v _ z=>z) (fun c z=>by rw [upd_ne (nt _ _ z)]; exact z) fun c xs z=>by rw [upd_ne (nt _ _ z)]; exact z
end
def PTs (X:Cx) (ifs:List Expr) (t:TT):Prop :=
  ∀ (pins:List (Addr×Obj)) (s:Shared) (σ:St) (H:Hp) (Q:Bool→Hp→Prop),Inv X pins σ H s→t σ H Q→wpAny (model X.prog X.w) X.A (testsOf ifs X.env) (TP X pins σ Q) X.xe s
def tTrue:TT:=fun _ H Q=>Q true H
theorem pts_nil {X:Cx}:PTs X [] tTrue:=fun _ _ _ H _ I h=>wpAny_tests_nil ⟨H,I,h⟩
theorem pts_one {X:Cx} {c:Expr} {t:TT} (h:PT X c t):PTs X [c] t:=fun pins s σ H Q I q=>wpAny_tests_one (h pins s σ H Q I q)
def endC (Q:VK) (acc:List V) (H:Hp):Prop:=∀ p,H p = none→Q (.ref p) (upd H p (.lst acc))
def tComp (fr:List (Option Nat)) (wi:TI) (g:TG) (tt:TT) (te:TE):TE:=fun σ H Q=>wi σ H fun J H1=>∃ W:Nat→Nat→List V→St→Hp→Prop,(∃ m,W 0 m [] (compSt fr σ) H1)∧∀ i m acc σ1 H,W i m acc σ1 H →
  (J.stop i H∧endC Q acc H) ∨
  (J.go i H∧acc.length < sizeLine∧∃ N:List V→St→Hp→Prop,(∀ acc' σ' H',N acc' σ' H'→∃ m',m' < m∧W (i + 1) m' acc' σ' H')∧∀ x H',J.yld i H x H'→g x σ1 H' fun σ2 H2=>tt σ2 H2 fun b H3=>if b = true then te σ2 H3 fun y H4=>N (acc ++ [y]) σ2 H4 else N acc σ2 H3)
theorem pe_comp {X:Cx} {elt tg iter:Expr} {ifs:List Expr} {scope:Scope} {cl:List (Str×Addr)} {pos:Pos} {N:List Str} {fr:List (Option Nat)} {wi:TI} {g:TG} {tt:TT} {te:TE}
    (hc:X.calm = true) (hi:PI X tg iter wi) (hclos:closureFor scope X.env = pure cl) (hcell:∀ y∈scope.names,y.2≠.cell) (hkind:scope.kind = .function)
    (hnames:∀ y∈scope.names,y.2 = .local→scope.names.lookup y.1 = some .local) (hfr:FreeOk X scope cl N fr) (hcl:ClOk X cl)
    (hhas:((relabel scope X.env).names.all fun p=>!(p.2 == .cell || p.2 == .free) || (cl.lookup p.1).isSome) = true)
    (hg:∀ C s0 H0 ex pins,PG (compCx X N scope cl C s0 H0 ex pins) tg g) (ht:∀ C s0 H0 ex pins,PTs (compCx X N scope cl C s0 H0 ex pins) ifs tt) (he:∀ C s0 H0 ex pins,PE (compCx X N scope cl C s0 H0 ex pins) elt te)
    (hs:∀ v,foldedSetIterable iter X.env v = pure v:=by intro _; rfl):PE X (.ListComp elt [⟨tg,iter,ifs,0⟩] scope pos) (tComp fr wi g tt te):=by
  intro pins s σ H Q I h
  rw [eval_ListComp]
  refine wpAny_comprehension_free (use:=none) rfl hs hclos hkind hnames (thn (hi pins s σ H _ I h) fun xv s1 h1=>thn h1 fun itv s2 h2=>?_)
  obtain ⟨it,fp,tn,J,H2,e,I2,T,st2,f2,W,⟨m0,w0⟩,turn⟩:=h2
  subst e
  refine wpAny_newObj_type (wpAny_newFunctionEnv hcell (fun y hy=>nomatch hy) (fun h4 hns hsb=>?_) hkind)
  dsimp only at hns hsb ⊢
  generalize hD:s2.heap.objs.size = D at *
  generalize hG:s2.heap.push { cls:=.type "list",dict:=none,data:=.seq ([]:List Value).toArray } = G at hns hsb ⊢
  have hC:G.objs.size = D + 1:=by rw [← hG,Heap.size_push,hD]
  generalize hCC:G.objs.size = C at hns hsb hC ⊢
  subst hC
  have old:∀ b o,s2.heap.get? b = some o→h4.get? b = some o:=fun b o e=>by
    have lt:=Heap.lt_size e
    rw [hD] at lt
    exact hsb.extBut b o (Nat.ne_of_lt (Nat.lt_succ_of_lt lt)) (Heap.get?_push_of_some _ (hG ▸ Heap.get?_push_of_some _ e))
  have hDl:h4.get? D = some { cls:=.type "list",dict:=none,data:=.seq ([]:List Value).toArray 0 } :=
    hsb.extBut _ _ (Nat.ne_of_lt (Nat.lt_succ_self _)) (Heap.get?_push_of_some _ (hG ▸ hD ▸ Heap.get?_push_size _ rfl))
  have flt:∀ b∈fp,b < D:=fun b hb=>by
    obtain ⟨o,e,_⟩:=T.obj 0 _ st2 b hb
    have lt:=Heap.lt_size e
    rw [hD] at lt
    exact lt
  have nst:∀ b,b≠X.env.locals→b∉X.fs→b∉frs X.stack:=fun b h1 h2 z=>(List.mem_cons.mp (I2.stkSub b z)).elim h1 h2
  have pl:∀ p∈X.pn ++ pins,p.1 < D:=fun p hp=>by
    have lt:=Heap.lt_size (I2.pin p hp).1
    rw [hD] at lt
    exact lt
  have I4:∀ tk,Inv (compCx X N scope cl (D + 1) s2 H2 fp pins) [] (compSt fr σ) H2 { s2 with heap:=h4,toks:=tk }:=fun tk =>
    I2.block hkind hfr hcl hhas f2 (fun b hb=>by rw [hD]; exact flt b hb) old (by rw [hD]; exact Nat.le_succ _) hns
  have stat:∀ {H':Hp} {o:Obj},(∀ b∈fp,H' b = none)→∀ b∈fp,FpOk (compCx X N scope cl (D + 1) s2 H2 fp pins) [(D,o)] H' b:=fun {H' o} hn b hb=>by
    obtain ⟨_,k1,k2,_,k4,k5⟩:=f2 b hb
    refine ⟨hn b hb,Nat.ne_of_lt (Nat.lt_succ_of_lt (flt b hb)),nst b k1 k2,.inl hb,fun x c e=>k4 x c (hcl.at e),fun p hp=>?_⟩
    rcases List.mem_append.mp hp with hp | hp
    · exact k5 p hp
    · rw [List.mem_singleton.mp hp]
      exact (Nat.ne_of_lt (flt b hb)).symm
  have dnf:D∉frs X.stack:=fun z=>by
    obtain ⟨_,o,e,_⟩:=I2.stack.mem z
    have lt:=Heap.lt_size e
    rw [hD] at lt
    exact absurd lt (Nat.lt_irrefl _)
  have loop:∀ tk,codeAny (model X.prog X.w) X.A (.compLoop (.ListComp elt [⟨tg,iter,ifs,0⟩] scope pos) 0 (.ref it) (.ref D) (compEnvC scope cl (D + 1) X.env)) (compPost (model X.prog X.w) X.A X.xe none (EP X pins σ Q) (.ref D) (D + 1)) { s2 with heap:=h4,toks:=tk }:=fun tk=>by
    refine comp_turns (fun k s'=>∃ i σ' H' its nD acc,Inv (compCx X N scope cl (D + 1) s2 H2 fp pins) [] σ' H' s' ∧
        s'.heap.get? D = some { cls:=.type "list",dict:=none,data:=.seq (List.toArray its) nD }∧H' D = none∧Vals acc its∧acc.length≤sizeLine∧tn i s'.heap∧(∀ b∈fp,H' b = none)∧W i k acc σ' H') ?_ m0
      ⟨0,_,H2,[],0,[],I4 tk,hDl,I2.hok.fresh (by rw [hD]; exact Nat.le_refl _),.nil,Nat.zero_le _,T.keep 0 _ _ st2 fun b _ o e=>old b o e,fun b hb=>(f2 b hb).1,w0⟩
    rintro k s5 ⟨i,σ5,H5,its,nD,acc,I5,hL,hn5,va,hacc,st5,fr5,w5⟩
    have dcell:∀ x c,cl.lookup x = some c→c≠D:=fun x c e z=>by
      obtain ⟨v,q⟩:=I2.cell x c (hcl.at e)
      have lt:=q.lt
      rw [hD,z] at lt
      exact absurd lt (Nat.lt_irrefl _)
    have I5':Inv (compCx X N scope cl (D + 1) s2 H2 fp pins) [(D,{ cls:=.type "list",dict:=none,data:=.seq (List.toArray its) nD })] σ5 H5 s5:=I5.pins_of fun p hp=>by
      rw [List.mem_singleton.mp hp]
      exact ⟨hL,hn5,Nat.ne_of_lt (Nat.lt_succ_self _),dnf,fun v z=>by cases z⟩
    rcases turn i k acc σ5 H5 w5 with ⟨stop,qn⟩ | ⟨go,hlt,N1,hN1,step⟩
    · refine thnF (T.done (compCx X N scope cl (D + 1) s2 H2 fp pins) rfl rfl rfl hc i _ s5 _ H5 _ I5' (stat fr5) st5 stop) fun r s6 ⟨hr,I6⟩=>?_
      subst hr
      obtain ⟨m6,hn6,_⟩:=I6.loc
      refine ⟨m6,hn6,fun h7 hs7=>?_⟩
      have hL7:h7.get? D = some { cls:=.type "list",dict:=none,data:=.seq (List.toArray its) nD }:=hs7.extBut _ _ (Nat.ne_of_lt (Nat.lt_succ_self _)) (I6.pin (D,_) (List.mem_append_right _ (List.mem_singleton.mpr rfl))).1
      have neC:∀ b o,s2.heap.get? b = some o→b≠D + 1:=fun b o e=>by
        have lt:=Heap.lt_size e
        rw [hD] at lt
        exact Nat.ne_of_lt (Nat.lt_succ_of_lt lt)
      have nt:∀ b u,H5 b = some u→b≠D + 1:=fun b u q z=>by
        have f:=I6.free
        rw [z] at q
        rw [show H5 (D + 1) = none from f] at q
        cases q
      have un:Un (frs X.stack) fp H2 H5 s2.heap h7:=⟨fun b o e n hb hx=>hs7.extBut b o (neC b o e) (I6.base.keep b o e n hb hx),
        fun b o e n hb hx=>let ⟨sl,q⟩:=I6.base.slot b o e n hb hx; ⟨sl,hs7.extBut b _ (neC b o e) q⟩,I6.base.free,fun b o e hx=>let ⟨o',q⟩:=I6.base.there b o e hx; ⟨o',hs7.extBut b _ (neC b o e) q⟩,I6.base.tups,I6.base.frzs,I6.base.tbls⟩
      have hok:HOk X.prog X.w H5 h7:=fun b u q=>(I6.hok b u q).stay (fun c v hc e=>hs7.extBut c v (by
        rcases hc with rfl | hc
        · exact nt _ _ q
        · exact nt _ _ hc) e) (fun _ z=>z) fun _ _ z=>z
      have I8:Inv X pins σ H5 { s6 with heap:=h7 }:=I2.call' (s':={ s6 with heap:=h7 }) I6.os un hok I6.bare fun b hb=>let ⟨_,k1,_,k3,k4,k5⟩:=f2 b hb; ⟨k3,k1,k4,k5⟩
      have I9:Inv X pins σ (upd H5 D (.lst acc)) { s6 with heap:=h7 }:=I8.trackS hn5 hL7 rfl (by
          cases z:X.s₀.heap.get? D with
          | none=>rfl
          | some o =>
            have lt:=Nat.lt_of_lt_of_le (Heap.lt_size z) I2.sz
            rw [hD] at lt
            exact absurd lt (Nat.lt_irrefl _)) (fun p hp=>Nat.ne_of_lt (pl p hp)) ⟨hacc,its,nD,va,hL7⟩
      exact ⟨.ref D,_,I9,rfl,qn D hn5⟩
    · refine thnF (T.item (compCx X N scope cl (D + 1) s2 H2 fp pins) rfl rfl rfl hc i _ s5 _ H5 _ I5' (stat fr5) st5 go) fun r s6 ⟨u,hr,h6⟩=>?_
      subst hr
      refine thnF h6 fun _ s7 ⟨x,H7,I7,r7,y7,st7,fr7⟩=>?_
      have I7':Inv (compCx X N scope cl (D + 1) s2 H2 fp pins) ([(D,{ cls:=.type "list",dict:=none,data:=.seq (List.toArray its) nD })] ++ pinsAt fp s7.heap) σ5 H7 s7:=I7.pinned (stat fr7) (T.obj _ _ st7)
      refine thnF (hg _ _ _ _ _ _ s7 _ H7 x u _ I7' r7 (step x H7 y7)) fun _ s8 ⟨σ8,H8,I8,q8⟩=>?_
      refine thnF (ht _ _ _ _ _ _ s8 σ8 H8 _ I8 q8) fun ok s9 ⟨H9,I9,q9⟩=>?_
      have wk:∀ {σ':St} {H':Hp} {s':Shared},Inv (compCx X N scope cl (D + 1) s2 H2 fp pins) ([(D,{ cls:=.type "list",dict:=none,data:=.seq (List.toArray its) nD })] ++ pinsAt fp s7.heap) σ' H' s' →
          tn (i + 1) s'.heap∧(∀ b∈fp,H' b = none)∧s'.heap.get? D = some { cls:=.type "list",dict:=none,data:=.seq (List.toArray its) nD }∧H' D = none:=fun {σ' H' s'} J'=>by
        have pin:∀ p∈([(D,{ cls:=.type "list",dict:=none,data:=.seq (List.toArray its) nD })]:List (Addr×Obj)) ++ pinsAt fp s7.heap,s'.heap.get? p.1 = some p.2∧H' p.1 = none:=fun p hp=>let ⟨e,n,_⟩:=J'.pin p (List.mem_append_right _ hp); ⟨e,n⟩
        refine ⟨T.keep _ _ _ st7 fun b hb o e=>(pin (b,o) (List.mem_append_right _ (mem_pinsAt hb e))).1,fun b hb=>?_,(pin (D,_) (List.mem_append_left _ (List.mem_singleton.mpr rfl))).1,(pin (D,_) (List.mem_append_left _ (List.mem_singleton.mpr rfl))).2⟩
        obtain ⟨o,e,_⟩:=T.obj _ _ st7 b hb
        exact (pin (b,o) (List.mem_append_right _ (mem_pinsAt hb e))).2
      cases ok with
      | false =>
        obtain ⟨m',hm,w9⟩:=hN1 _ _ _ q9
        obtain ⟨k1,k2,k3,k4⟩:=wk I9
        exact ⟨m',hm,i + 1,σ8,H9,its,nD,acc,I9.pins_of (fun _ z=>nomatch z),k3,k4,va,hacc,k1,k2,w9⟩
      | true =>
        refine thnF (he _ _ _ _ _ _ s9 σ8 H9 _ I9 q9) fun y s10 ⟨v,H10,I10,r10,q10⟩=>?_
        obtain ⟨m',hm,w10⟩:=hN1 _ _ _ q10
        obtain ⟨k1,k2,k3,k4⟩:=wk I10
        refine call_meets F.slot_list_append ⟨_,k3,rfl⟩ F.entry_list_append (F.args_list_append_2 _ _) (PySem.list_append D its.toArray nD y (by rw [List.size_toArray,← va.length]; omega)) ⟨k3,?_⟩
        have up:∀ b o,b≠D→s10.heap.get? b = some o→(s10.heap.update D (Obj.mapSeq fun z=>z.push y)).get? b = some o:=fun b o hb e=>(Heap.get?_update_other s10.heap _ (Ne.symm hb)).trans e
        have I11:Inv (compCx X N scope cl (D + 1) s2 H2 fp pins) [] σ8 H10 { s10 with heap:=s10.heap.update D (Obj.mapSeq fun z=>z.push y),toks:=s10.toks } :=
          (I10.pins_of (pins':=[]) fun _ z=>nomatch z).turned up k4 (Nat.ne_of_lt (Nat.lt_succ_self _)) (.inr (by rw [hD]; exact Nat.le_refl _)) dcell fun p hp=>by
            have hp':p∈X.pn ++ pins:=by simpa using hp
            exact Nat.ne_of_lt (pl p hp')
        have q:=PySem.IsL.update k3 (fun z=>z.push y)
        rw [show (List.toArray its).push y = (its ++ [y]).toArray by simp] at q
        refine ⟨m',hm,i + 1,σ8,H10,its ++ [y],_,acc ++ [v],I11,q,k4,va.append (.cons r10 .nil),?_,T.keep _ _ _ k1 fun b hb o e=>up b o (Nat.ne_of_lt (flt b hb)) e,k2,w10⟩
        rw [List.length_append,List.length_singleton]
        omega
  exact codeAny_compStart_list (loop _) (T.self _ 0 _ _ _ (T.keep 0 _ _ st2 fun b _ o e=>old b o e) (loop _))
theorem comp_list {K:PySem.W.Frag} {a:Addr} {xs:List V} {g:TG} {tt:TT} {te:TE} {σ0:St} {H:Hp} {Q:VK} (Pv:Nat→List V→St→Hp→Prop) (h0:Pv 0 [] σ0 H) (hz:xs.length≤sizeLine) (hl:∀ i acc σ H,i≤xs.length→Pv i acc σ H→SqL K H a xs)
    (hs:∀ i x acc σ H,acc.length≤i→xs[i]? = some x→Pv i acc σ H→g x σ H fun σ2 H2=>tt σ2 H2 fun b H3=>if b = true then te σ2 H3 fun y H4=>(acc ++ [y]).length≤i + 1∧Pv (i + 1) (acc ++ [y]) σ2 H4 else acc.length≤i + 1∧Pv (i + 1) acc σ2 H3)
    (hd:∀ acc σ H,acc.length≤xs.length→Pv xs.length acc σ H→endC Q acc H) :
    ∃ W:Nat→Nat→List V→St→Hp→Prop,(∃ m,W 0 m [] σ0 H)∧∀ i m acc σ1 H,W i m acc σ1 H →
      ((Itl K a).stop i H∧endC Q acc H) ∨
      ((Itl K a).go i H∧acc.length < sizeLine∧∃ N:List V→St→Hp→Prop,(∀ acc' σ' H',N acc' σ' H'→∃ m',m' < m∧W (i + 1) m' acc' σ' H')∧∀ x H',(Itl K a).yld i H x H'→g x σ1 H' fun σ2 H2=>tt σ2 H2 fun b H3=>if b = true then te σ2 H3 fun y H4=>N (acc ++ [y]) σ2 H4 else N acc σ2 H3):=by
  refine ⟨fun i m acc σ H=>m = xs.length - i∧i≤xs.length∧acc.length≤i∧Pv i acc σ H,⟨xs.length,by simp,Nat.zero_le _,Nat.zero_le _,h0⟩,?_⟩
  rintro i m acc σ1 H ⟨rfl,hi,ha,p⟩
  have q:=hl i acc σ1 H hi p
  by_cases hlt:i < xs.length
  · refine .inr ⟨⟨xs,xs[i],q,by simp [hlt]⟩,by omega,fun acc' σ' H'=>acc'.length≤i + 1∧Pv (i + 1) acc' σ' H',fun acc' σ' H' z=>⟨xs.length - (i + 1),by omega,rfl,hlt,z.1,z.2⟩,fun x H' y=>?_⟩
    obtain ⟨e,y⟩:=y
    subst e
    exact hs i x acc σ1 _ ha (y xs q) p
  · have e:i = xs.length:=by omega
    subst e
    exact .inl ⟨⟨xs,q,Nat.le_refl _⟩,hd acc σ1 H ha p⟩
theorem comp_range {lo:Int} {n:Nat} {g:TG} {tt:TT} {te:TE} {σ0:St} {H:Hp} {Q:VK} (Pv:Nat→List V→St→Hp→Prop) (h0:Pv 0 [] σ0 H) (hz:n≤sizeLine)
    (hs:∀ i acc σ H,i < n→acc.length≤i→Pv i acc σ H→g (.int (lo + i)) σ H fun σ2 H2=>tt σ2 H2 fun b H3=>if b = true then te σ2 H3 fun y H4=>(acc ++ [y]).length≤i + 1∧Pv (i + 1) (acc ++ [y]) σ2 H4 else acc.length≤i + 1∧Pv (i + 1) acc σ2 H3)
    (hd:∀ acc σ H,acc.length≤n→Pv n acc σ H→endC Q acc H) :
    ∃ W:Nat→Nat→List V→St→Hp→Prop,(∃ m,W 0 m [] σ0 H)∧∀ i m acc σ1 H,W i m acc σ1 H →
      ((Itr lo n).stop i H∧endC Q acc H) ∨
      ((Itr lo n).go i H∧acc.length < sizeLine∧∃ N:List V→St→Hp→Prop,(∀ acc' σ' H',N acc' σ' H'→∃ m',m' < m∧W (i + 1) m' acc' σ' H')∧∀ x H',(Itr lo n).yld i H x H'→g x σ1 H' fun σ2 H2=>tt σ2 H2 fun b H3=>if b = true then te σ2 H3 fun y H4=>N (acc ++ [y]) σ2 H4 else N acc σ2 H3):=by
  refine ⟨fun i m acc σ H=>m = n - i∧i≤n∧acc.length≤i∧Pv i acc σ H,⟨n,by simp,Nat.zero_le _,Nat.zero_le _,h0⟩,?_⟩
  rintro i m acc σ1 H ⟨rfl,hi,ha,p⟩
  by_cases hlt:i < n
  · refine .inr ⟨hlt,by omega,fun acc' σ' H'=>acc'.length≤i + 1∧Pv (i + 1) acc' σ' H',fun acc' σ' H' z=>⟨n - (i + 1),by omega,rfl,hlt,z.1,z.2⟩,fun x H' y=>?_⟩
    obtain ⟨e,y⟩:=y
    subst e y
    exact hs i acc σ1 _ hlt ha p
  · have e:i = n:=by omega
    subst e
    exact .inl ⟨Nat.le_refl _,hd acc σ1 H ha p⟩
end L2
namespace L2
open PySem PySem.Spec PyProof.Rows
mutual
inductive DV (K:PySem.W.Frag) (H:Hp):V→PyData→Prop
  | non:DV K H .non .none
  | bl (b:Bool):DV K H (.bl b) (.bool b)
  | int (i:Int):DV K H (.int i) (.int i)
  | str (x:Str) (h:(PyData.str x).canLay0 = true):DV K H (.str x) (.str x)
  | lst {a:Addr} {xs:List V} {ds:List PyData} (h:SqL K H a xs) (r:DVs K H xs ds):DV K H (.ref a) (.list ds)
  | tup {a:Addr} {xs:List V} {ds:List PyData} (h:SqT K H a xs) (r:DVs K H xs ds):DV K H (.ref a) (.tuple ds)
inductive DVs (K:PySem.W.Frag) (H:Hp):List V→List PyData→Prop
  | nil:DVs K H [] []
  | cons {x:V} {xs:List V} {d:PyData} {ds:List PyData} (h:DV K H x d) (r:DVs K H xs ds):DVs K H (x :: xs) (d :: ds)
end
section
variable {X:Cx} {pins:List (Addr×Obj)} {σ:St} {H:Hp} {s:Shared}
end
end L2
namespace L2
open PySem PySem.Spec PyProof.Rows
section
variable {X:Cx}
end
end L2
namespace L2
open PySem PySem.Spec PyProof.Rows
section
variable {X:Cx} {x:Str} {pos:Pos}
theorem pe_gintE {k:Int} (hg:Gl X x) (hm:∃ t,X.mg x = some (.int k t)) (hd:(x == ("__debug__" : Str)) = false:=by decide):PE X (.Name x pos) (tC (.int k)):=by
  obtain ⟨t,hm⟩:=hm
  exact pe_glob hg hm ⟨t,rfl⟩ hd
def tDNew:TE:=fun _ H Q=>∀ p,H p = none→Q (.ref p) (upd H p (.dK []))
theorem pe_dnew {X:Cx} {pos:Pos}:PE X (.Dict [] [] pos) tDNew:=by
  intro pins s σ H Q I h
  have lt:sysModules < s.heap.objs.size:=Nat.lt_trans (show sysModules < mainGlobals by decide) (I.mod.glob.keeps I.bk).lt
  have new:ObjOk X.prog X.w (upd H s.heap.objs.size (.dK [])) (s.heap.push { cls:=.type "dict",data:=.dict #[] }) s.heap.objs.size (.dK []) :=
    ⟨Nat.zero_le _,beq_eq_false_iff_ne.mpr (Ne.symm (Nat.ne_of_lt lt)),[],.nil,Heap.DictOf.new s.heap⟩
  exact wpAny_Dict_empty ⟨.ref s.heap.objs.size,_,I.laid (t':=s.toks) (fun _ _ q=>Heap.get?_push_of_some _ q) (Nat.le_refl _) new,rfl,h _ (I.hok.fresh (Nat.le_refl _))⟩
def notStar:Expr→Bool
  | .Starred _ _=>false
  | _=>true
theorem star_cons {e:Expr} {es:List Expr} {env:Env} (h:notStar e = true):starEach (e :: es) env = (false,eval e env) :: starEach es env:=by
  cases e <;> first | rfl | cases h
theorem pac {e:Expr} {es:List Expr} {te:TE} {t:TA} (ha:PE X e te) (hr:PA X es t) (h:notStar e = true:=by rfl):PA X (e :: es) (tCons te t):=pa_cons ha hr (star_cons h)
end
end L2
namespace K1
open PySem L2
def numV:V→Int→Int→Bool
  | .int i,lo,hi=>decide (lo≤i∧i≤hi)
  | _,_,_=>false
inductive Kd (H:Hp):V→String→Prop where
  | non:Kd H .non "NoneType"
  | bl (b:Bool):Kd H (.bl b) "bool"
  | int (i:Int):Kd H (.int i) "int"
  | str (x:Str):Kd H (.str x) "str"
  | lst {a:Addr} {xs:List V} (e:H a = some (.lst xs)):Kd H (.ref a) "list"
  | tup {a:Addr} {xs:List V} (e:H a = some (.tup xs)):Kd H (.ref a) "tuple"
  | dK {a:Addr} {kvs:List (Key×V)} (e:H a = some (.dK kvs)):Kd H (.ref a) "dict"
theorem Kd.ty {K:PySem.W.Frag} {H:Hp} {v:V} {T:String} (k:Kd H v T):TyOf K H v (.type T):=by
  cases k with
  | non=>exact .non
  | bl b=>exact .bl b
  | int i=>exact .int i
  | str x=>exact .str x
  | lst e=>exact .lst e
  | tup e=>exact .tup e
  | dK e=>exact .dK e
theorem kit_int {K:PySem.W.Frag} {H:Hp} {v:V} {T:String} (k:Kd H v T):PySem.W.kitOne K (.type T) (.type "int") = some (decide (T = "int" ∨ T = "bool")):=by
  cases k <;> rfl
theorem kit_bool {K:PySem.W.Frag} {H:Hp} {v:V} {T:String} (k:Kd H v T):PySem.W.kitOne K (.type T) (.type "bool") = some (decide (T = "bool")):=by
  cases k <;> rfl
theorem kit_str {K:PySem.W.Frag} {H:Hp} {v:V} {T:String} (k:Kd H v T):PySem.W.kitOne K (.type T) (.type "str") = some (decide (T = "str")):=by
  cases k <;> rfl
theorem itT {c A B:Prop} [Decidable c] (h:c) (a:A):if c then A else B:=by rw [if_pos h]; exact a
theorem itF {c A B:Prop} [Decidable c] (h:¬ c) (b:B):if c then A else B:=by rw [if_neg h]; exact b
theorem same_new {H:Hp} {p:Addr} (h:H p = none) (o:HO):Same H (upd H p o):=fun b u q=>by rw [upd_ne (ne_of_none q h)]; exact q
theorem map_bl {α:Type} (g:α→Bool) (l:List α):(l.map fun c=>V.bl (g c)) = (l.map g).map V.bl:=by rw [List.map_map]; rfl
def wholeV:V→Bool
  | .int _=>true
  | _=>false
theorem flat_ints (ns:List Int):(ns.map V.int).all flatV = true:=by
  rw [List.all_map]; exact List.all_eq_true.mpr fun _ _=>rfl
structure Bump (tp:Addr) (k:Int) (H H':Hp):Prop where
  keep:∀ b o,b≠tp→H b = some o→H' b = some o
  tape:H' tp = some (.lst [.int k])
theorem mulM {x y:Int} (h0:0≤y) (h1:y < 18446744073709551616):CMul x y:=.inr ⟨by omega,by omega⟩
theorem at_all {p:V→Prop} {xs:List V} {d:Int} (h:∀ v∈xs,p v) (h0:0≤d) (h1:d < xs.length):∃ v,atI xs d = some v∧p v:=by
  have hl:d.toNat < xs.length:=by omega
  refine ⟨xs[d.toNat],?_,h _ (List.getElem_mem hl)⟩
  have q:atI xs ((d.toNat:Nat):Int) = some xs[d.toNat]:=atI_nat (List.getElem?_eq_getElem hl)
  rw [show ((d.toNat:Nat):Int) = d by omega] at q
  exact q
end K1
namespace L2
open PySem PySem.Spec PyProof.Rows
section
variable {X:Cx} {m:Str} {o e:Expr} {es:List Expr} {ta:TE} {t:TA} {pos apos:Pos}
structure MkN (K:PySem.W.Frag) (C:Addr):Prop where
  makes:PySem.W.makesIn K C = true
  init:PySem.W.findIn K (.ref C) "__init__" = some (some (.builtin "object.__init__"))
  kp:PySem.W.keepIn K (.ref C) = true
def tMakeN (C:Addr):TE:=fun _ H Q=>∀ x dx,H x = none→H dx = none→dx≠x→Q (.ref x) (upd (upd H dx (.own x)) x (.ins C dx []))
theorem pe_makeN {C:Addr} {x:Str} {p:Pos} (M:MkN X.K C) (hg:Gl X x) (hm:X.mg x = some (.ref C)) (hdb:(x == ("__debug__" : Str)) = false:=by decide):PE X (.Call (.Name x p) [] [] pos) (tMakeN C):=by
  intro pins s σ H Q I h
  refine wpAny_Call_Name_kw (ld_glob I hg hm ?_ hdb)
  refine PySem.W.callWith_K0 I.kIn M.kp ?_
  have q:=h (s.heap.objs.size + 1) s.heap.objs.size (I.hok.fresh (Nat.le_succ _)) (I.hok.fresh (Nat.le_refl _)) (Nat.ne_of_lt (Nat.lt_succ_self _))
  have I2:=Inv.made (C:=C) I
  have Y:=PySem.W.makes_of (M:=model X.prog X.w) I.kIn M.makes
  refine wpAny_call (make_map0 (C:=C) I.kIn M.makes M.init (fun self=>PySem.W.Looks.of_pure (PySem.W.oi_bind self)) ?_)
  have g1:((s.heap.push PySem.W.emptyDict).push (PySem.W.instObj C s.heap.objs.size)).get? (s.heap.objs.size + 1) = some (PySem.W.instObj C s.heap.objs.size):=by
    have:=Heap.get?_push_size (s.heap.push PySem.W.emptyDict) (o:=PySem.W.instObj C s.heap.objs.size) rfl
    rw [Heap.size_push] at this
    exact this
  have t1:PySem.W.Looks (model X.prog X.w) ((s.heap.push PySem.W.emptyDict).push (PySem.W.instObj C s.heap.objs.size)) (typeOf (.ref (s.heap.objs.size + 1))) (.ref C):=(PySem.W.Looks.ld g1).andThen .now
  have t2:PySem.W.Looks (model X.prog X.w) ((s.heap.push PySem.W.emptyDict).push (PySem.W.instObj C s.heap.objs.size)) (isInstance (.ref (s.heap.objs.size + 1)) (.type "object")) true :=
    t1.andThen (Y.top.keeps fun b o e=>Heap.get?_push_of_some _ (Heap.get?_push_of_some _ e))
  refine codeAny_call_builtin PySem.W.oi_plain PySem.W.entry_oi ?_
  refine @PySem.W.check_slot (model X.prog X.w) _ _ _ "object.__init__" "object" "__init__" (.ref (s.heap.objs.size + 1)) [] [] _ PySem.W.oi_kind PySem.W.oi_split t2 (PySem.W.oi_args _) ?_
  rw [PySem.W.oi_run]
  exact wpAny_pure (And.intro rfl ⟨.ref _,_,I2,rfl,q⟩)
end
theorem preSum_take (ns:List Int):∀ k,k≤ns.length→preSum (fun i=>ns.getD i 0) k = (ns.take k).sum
  | 0,_=>by simp [preSum]
  | k + 1,h=>by
    have ih:=preSum_take ns k (by omega)
    show preSum (fun i=>ns.getD i 0) k + ns.getD k 0 = _
    rw [ih,List.take_add_one,List.sum_append]
    have hk:k < ns.length:=by omega
    rw [List.getD_eq_getElem?_getD,List.getElem?_eq_getElem hk]
    simp
theorem call_sum_list {X:Cx} (hc:X.calm = true):CallR X (.builtin "sum") (fun xs H Q=>∃ (p:Addr) (ns:List Int),xs = [.ref p]∧SqL X.K H p (ns.map V.int)∧(∀ n∈ns,0≤n∧n≤1000000)∧ns.length≤1000∧Q (.int ns.sum) H):=by
  intro pins s σ H xs us Q I r h
  obtain ⟨p,ns,rfl,hq,hb,hl,q⟩:=h
  obtain ⟨u,rfl,rx⟩:=vals1 r
  cases rx
  obtain ⟨its,r',pl,hz⟩:=I.list hq
  have hlen:=r'.length
  obtain ⟨o,n,ho,_⟩:=id pl
  have hne:p≠s.heap.objs.size:=Nat.ne_of_lt (Heap.lt_size ho)
  have bound:∀ k,k≤ns.length→0≤(ns.take k).sum∧(ns.take k).sum≤1000000 * k:=by
    intro k
    induction k with
    | zero=>intro _; simp
    | succ k ih =>
      intro hk
      have hk':k < ns.length:=by omega
      have:=ih (by omega)
      have b:=hb ns[k] (List.getElem_mem hk')
      rw [List.take_add_one,List.sum_append,List.getElem?_eq_getElem hk']
      simp only [Option.toList_some,List.sum_cons,List.sum_nil]
      omega
  refine call_sum_walk (wpAny_pyIter_list pl.isList ?_)
  refine ⟨s.heap.objs.size,[s.heap.objs.size,p],[s.heap.objs.size],its.toArray.size,_,_,fun i=>ns.getD i 0,rfl,Walks.list (A:=X.A.in1) (I.ok.hd hc) _ _ hne its.toArray,⟨⟨_,Heap.get?_push_size _ rfl,rfl,rfl⟩,?_⟩,?_,?_,?_,fun h' tk t' hk=>?_⟩
  · obtain ⟨o2,e2,r2⟩:=pl.isList
    exact ⟨o2,Heap.get?_push_of_some _ e2,r2⟩
  · intro b hb'
    show b < (s.heap.push _).objs.size
    rw [Heap.size_push]
    rcases List.mem_cons.mp hb' with rfl | hb'
    · exact Nat.lt_succ_self _
    · rw [List.mem_singleton.mp hb']
      exact Nat.lt_succ_of_lt (Heap.lt_size ho)
  · intro i v hv
    have hv':its[i]? = some v:=by simpa using hv
    have hi:i < ns.length:=by
      have:=(List.getElem?_eq_some_iff.mp hv').1
      rw [← hlen,List.length_map] at this; exact this
    obtain ⟨w,e1,e2⟩:=r'.get (i:=i) (x:=.int ns[i]) (by rw [List.getElem?_map,List.getElem?_eq_getElem hi]; rfl)
    rw [hv'] at e1
    cases e1
    obtain ⟨t,rfl⟩:=e2
    exact ⟨t,by dsimp only; rw [List.getD_eq_getElem?_getD,List.getElem?_eq_getElem hi]; rfl⟩
  · intro j hj
    have hj':j < ns.length:=by
      rw [List.size_toArray,← hlen,List.length_map] at hj; exact hj
    have b1:=hb ns[j] (List.getElem_mem hj')
    have b2:=bound (j + 1) (by omega)
    have e1:ns.getD j 0 = ns[j]:=by rw [List.getD_eq_getElem?_getD,List.getElem?_eq_getElem hj']; rfl
    rw [preSum_take ns (j + 1) (by omega)]
    dsimp only
    rw [e1]
    have b3:(1000000:Int) * ((j + 1:Nat):Int)≤1000000000:=by omega
    unfold InLong
    omega
  · have hk2:∀ b o,s.heap.get? b = some o→h'.get? b = some o:=fun b o e=>hk b o (fun z=>by
      have e1:=Heap.lt_size e
      rw [List.mem_singleton.mp z] at e1
      exact absurd e1 (Nat.lt_irrefl _)) (Heap.get?_push_of_some _ e)
    have e:preSum (fun i=>ns.getD i 0) its.toArray.size = ns.sum:=by
      rw [List.size_toArray,← hlen,List.length_map,preSum_take ns _ (Nat.le_refl _),List.take_length]
    rw [e]
    exact ⟨.int _,H,I.kept (t':=tk) hk2,⟨_,rfl⟩,q⟩
structure FunD (K:PySem.W.Frag) (x qual:Str) (st:Stmt) (f:Addr) (fd:FuncData) (D:Addr) (ds:List Value):Prop where
  ex:∃ (oc:Value) (od:Option Addr) (kV doc pm:Value) (an:Option Addr) (cdv ct:Value) (osl:Array (Option Value)),
    fd = PySem.W.fnOf x qual (defArgs st) (defBody st) (defScope st) (.ref D) kV doc pm an cdv ct∧K.lookup f = some ⟨oc,od,.func fd,osl⟩∧PySem.W.codeIn K cdv qual = true
  dt:∃ (o:Obj) (n:Nat),K.lookup D = some o∧o.data = .seq ds.toArray n
  kp:PySem.W.keepIn K (.ref f) = true
section
variable {P:Program} {w:World} {K:PySem.W.Frag} {mg:Str→Option Value} {base:Heap} {x qual:Str} {st:Stmt} {f D:Addr} {fd:FuncData} {ds:List Value}
end
end L2
namespace K1
open PySem L2
inductive RT where
  | always
  | week (b:Nat)
  | span (a b:Nat) (r:RT)
  | each (n:Nat) (ss:List Nat)
  | either (r s:RT)
  | both (r s:RT)
  | but (ds:List Nat) (r:RT)
structure RC where
  rule:Addr
  week:Addr
  span:Addr
  each:Addr
  either:Addr
  both:Addr
  but:Addr
abbrev natV (l:List Nat):List V:=l.map fun n=>V.int (n:Nat)
inductive RAt (c:RC) (K:PySem.W.Frag) (H:Hp):Addr→RT→Prop
  | always {a dx:Addr} (h:H a = some (.ins c.rule dx [])):RAt c K H a .always
  | week {a dx:Addr} {b:Nat} (h:H a = some (.ins c.week dx [("bits",.int (b:Nat))])) (hb:b≤127):RAt c K H a (.week b)
  | span {a dx i:Addr} {x y:Nat} {r:RT} (h:H a = some (.ins c.span dx [("first",.int (x:Nat)),("last",.int (y:Nat)),("inner",.ref i)])) (hx:x≤y) (hy:y≤9999) (hi:RAt c K H i r):RAt c K H a (.span x y r)
  | each {a dx p:Addr} {n:Nat} {ss:List Nat} (h:H a = some (.ins c.each dx [("length",.int (n:Nat)),("starts",.ref p)])) (hn:1≤n) (hn2:n≤28) (hp:SqT K H p (natV ss)):RAt c K H a (.each n ss)
  | either {a dx i j:Addr} {r s:RT} (h:H a = some (.ins c.either dx [("one",.ref i),("other",.ref j)])) (hi:RAt c K H i r) (hj:RAt c K H j s):RAt c K H a (.either r s)
  | both {a dx i j:Addr} {r s:RT} (h:H a = some (.ins c.both dx [("one",.ref i),("other",.ref j)])) (hi:RAt c K H i r) (hj:RAt c K H j s):RAt c K H a (.both r s)
  | but {a dx p i:Addr} {ds:List Nat} {r:RT} (h:H a = some (.ins c.but dx [("days",.ref p),("inner",.ref i)])) (hp:SqT K H p (natV ds)) (hi:RAt c K H i r):RAt c K H a (.but ds r)
end K1
namespace L2
open PySem PySem.Spec PyProof.Rows
end L2
namespace L2
open PySem
abbrev Ris (xs:Array Nat):Prop:=xs.toList.Pairwise (· < ·)
theorem ris_lt {xs:Array Nat} (h:Ris xs) {i k d:Nat} (hik:i < k) (hk:k < xs.size):xs.getD i d < xs.getD k d:=by
  have q:=List.pairwise_iff_getElem.mp h i k (by simpa using Nat.lt_trans hik hk) (by simpa using hk) hik
  simpa [Array.getD,Nat.lt_trans hik hk,hk] using q
theorem below_go {xs:Array Nat} {j:Nat} (h:Ris xs):∀ (n lo hi:Nat),hi - lo≤n→lo≤hi→hi≤xs.size→(∀ i,i < lo→xs.getD i j < j)→(∀ i,hi≤i→i < xs.size→j≤xs.getD i j) →
    SetTable.below.go xs j n lo hi≤xs.size∧(∀ i,i < SetTable.below.go xs j n lo hi→xs.getD i j < j)∧∀ i,SetTable.below.go xs j n lo hi≤i→i < xs.size→j≤xs.getD i j
  | 0,lo,hi,hn,hl,hs,h1,h2=>by
    have e:lo = hi:=by omega
    subst e
    exact ⟨hs,h1,h2⟩
  | n + 1,lo,hi,hn,hl,hs,h1,h2=>by
    unfold SetTable.below.go
    by_cases c:lo < hi
    · rw [if_pos c]
      dsimp only
      by_cases d:xs.getD ((lo + hi) / 2) j < j
      · rw [if_pos d]
        refine below_go h n _ hi (by omega) (by omega) hs (fun i hi'=>?_) h2
        by_cases e:i = (lo + hi) / 2
        · rw [e]; exact d
        · exact Nat.lt_trans (ris_lt h (show i < (lo + hi) / 2 by omega) (by omega)) d
      · rw [if_neg d]
        refine below_go h n lo _ (by omega) (by omega) (by omega) h1 (fun i hi' hz=>?_)
        by_cases e:i = (lo + hi) / 2
        · rw [e]; omega
        · have:=ris_lt (d:=j) h (show (lo + hi) / 2 < i by omega) hz
          omega
    · rw [if_neg c]
      have e:lo = hi:=by omega
      subst e
      exact ⟨hs,h1,h2⟩
theorem below_is {xs:Array Nat} {j:Nat} (h:Ris xs):SetTable.below xs j≤xs.size∧(∀ i,i < SetTable.below xs j→xs.getD i j < j)∧∀ i,SetTable.below xs j≤i→i < xs.size→j≤xs.getD i j :=
  below_go h _ 0 _ (by omega) (Nat.zero_le _) (Nat.le_refl _) (fun i z=>absurd z (Nat.not_lt_zero _)) (fun i a b=>by omega)
theorem ris_insert {xs:Array Nat} {j:Nat} (h:Ris xs) (hn:xs[SetTable.below xs j]?≠some j):Ris (SetTable.insertAt xs (SetTable.below xs j) j):=by
  obtain ⟨hb,h1,h2⟩:=below_is (j:=j) h
  show List.Pairwise _ _
  rw [SetTable.toList_insertAt]
  have get:∀ i (hi:i < xs.size),xs.getD i j = xs.toList[i]'(by simpa using hi):=fun i hi=>by simp [Array.getD,hi]
  have far:∀ b∈xs.toList.drop (SetTable.below xs j),j < b:=fun b hb'=>by
    obtain ⟨i,hi,rfl⟩:=List.getElem_of_mem hb'
    rw [List.length_drop] at hi
    have hz:SetTable.below xs j + i < xs.size:=by simpa using (show SetTable.below xs j + i < xs.toList.length by omega)
    rw [List.getElem_drop,← get _ hz]
    have g:=h2 _ (Nat.le_add_right (SetTable.below xs j) i) hz
    refine Nat.lt_of_le_of_ne g fun e=>?_
    by_cases i0:i = 0
    · subst i0
      refine hn ?_
      rw [Nat.add_zero] at e hz
      rw [Array.getElem?_eq_getElem hz]
      have:=get _ hz
      rw [← e] at this
      simpa using this.symm
    · have l:=ris_lt (d:=j) h (show SetTable.below xs j < SetTable.below xs j + i by omega) hz
      have g0:=h2 _ (Nat.le_refl _) (show SetTable.below xs j < xs.size by omega)
      omega
  refine List.pairwise_append.mpr ⟨h.sublist (List.take_sublist _ _),List.pairwise_cons.mpr ⟨far,h.sublist (List.drop_sublist _ _)⟩,fun a ha b hb'=>?_⟩
  have ha':a < j:=by
    obtain ⟨i,hi,rfl⟩:=List.getElem_of_mem ha
    rw [List.length_take] at hi
    have hz : i < xs.size := by have : xs.toList.length = xs.size := by simp
                                omega
    rw [List.getElem_take,← get _ hz]
    exact h1 i (by omega)
  rcases List.mem_cons.mp hb' with rfl | hb'
  · exact ha'
  · exact Nat.lt_trans ha' (far b hb')
structure TabOk (t:SetTable):Prop where
  du:t.dummies = #[]
  ri:t.plain = true→Ris t.place
theorem has_none (j:Nat):SetTable.has #[] j = false:=rfl
theorem slot_empty {t:SetTable} {j:Nat} (h:t.slot j = .empty):t.place[SetTable.below t.place j]?≠some j:=by
  intro e
  unfold SetTable.slot at h
  dsimp only at h
  rw [e] at h
  simp at h
theorem slot_dummy {t:SetTable} (ht:TabOk t) {j:Nat}:t.slot j≠.dummy:=by
  unfold SetTable.slot
  rw [ht.du]
  dsimp only
  split
  · intro z; cases z
  · rw [has_none]
    intro z; cases z
theorem probe_go {t:SetTable} (ht:TabOk t) {g:Nat→Int} {h:Int}:∀ (n:Nat) (p:SetTable.Probe) (j:Nat) (d:Option Nat),p.dummy = none→SetTable.probe.go t g h n p = some (.empty j d)→t.slot j = .empty∧d = none
  | 0,p,j,d,_,e=>by cases e
  | n + 1,p,j,d,hp,e=>by
    unfold SetTable.probe.go at e
    cases c:t.slot p.j with
    | empty =>
      rw [c] at e
      injection e with e
      injection e with e1 e2
      subst e1
      exact ⟨c,e2.symm.trans hp⟩
    | dummy=>exact absurd c (slot_dummy ht)
    | live i =>
      rw [c] at e
      dsimp only at e
      split at e
      · injection e with e; cases e
      · refine probe_go ht n _ j d ?_ e
        unfold SetTable.advance
        split
        · exact hp
        · exact hp
theorem lay_ok {t:SetTable} (ht:TabOk t) (es:Array (Int×Value)) (h:Int) (x:Value):TabOk (layNew t es h x).2.1∧(layNew t es h x).2.1.led = t.led:=by
  unfold layNew
  cases c:t.freeSlot h with
  | none=>exact ⟨⟨rfl,fun z=>by cases z⟩,rfl⟩
  | some q =>
    obtain ⟨j,wd⟩:=q
    have hj:t.slot j = .empty:=by
      unfold SetTable.freeSlot at c
      split at c
      · rename_i j' d' e'
        obtain ⟨e1,rfl⟩:=probe_go ht _ _ _ _ rfl e'
        injection c with c
        injection c with c1 c2
        rw [← c1]
        exact e1
      · cases c
    dsimp only
    unfold SetTable.orStandIn
    split
    · refine ⟨⟨?_,fun z=>?_⟩,rfl⟩
      · show (if SetTable.has t.dummies j = true then _ else t.dummies) = #[]
        rw [ht.du,has_none]
        rfl
      · exact ris_insert (ht.ri z) (slot_empty hj)
    · exact ⟨⟨rfl,fun z=>by cases z⟩,rfl⟩
theorem relay_ok {t:SetTable} (ht:TabOk t) (es:Array (Int×Value)) (n:Nat):TabOk (relayAll t es n).2.1∧(relayAll t es n).2.1.led = t.led:=by
  unfold relayAll
  cases c:t.relaid (es.map (·.1)) n with
  | none=>exact ⟨⟨rfl,fun z=>by cases z⟩,rfl⟩
  | some q =>
    obtain ⟨t',ord⟩:=q
    dsimp only
    split
    · unfold SetTable.relaid SetTable.laid at c
      cases c2:SetTable.layClean (SetTable.sizeAbove n - 1) (es.map (·.1)) with
      | none=>rw [c2] at c; cases c
      | some ow =>
        rw [c2] at c
        injection c with c
        injection c with c1 c3
        subst c1
        refine ⟨⟨rfl,fun _=>?_⟩,rfl⟩
        show List.Pairwise _ _
        rw [List.toList_toArray]
        rw [List.map_filterMap]
        refine List.Pairwise.sublist (l₂:=List.range (SetTable.sizeAbove n - 1 + 1)) ?_ List.pairwise_lt_range
        have key:∀ l:List Nat,List.Sublist (l.filterMap fun j=>Option.map (fun p:Nat×Nat=>p.1) ((ow.getD j none).map fun y=>(j,y))) l:=by
          intro l
          induction l with
          | nil=>exact .slnil
          | cons a r ih =>
            rw [List.filterMap_cons]
            cases ow.getD a none with
            | none=>exact ih.cons _
            | some y=>exact ih.cons_cons _
        exact key _
    · exact ⟨⟨rfl,fun z=>by cases z⟩,rfl⟩
end L2
namespace L2
open PySem
def keyOf (e:Int×Value):Int:=match e.2 with
  | .int k _=>k
  | _=>0
section
variable {prog:Program} {w:World}
theorem elem_int {l:List (Int×Value)} (h:ElemsOf (intKind prog w) l) {e:Int×Value} (he:e∈l):∃ t,e.2 = .int (keyOf e) t:=by
  obtain ⟨⟨k,hk,_⟩,_⟩:=h e he
  obtain ⟨t,q⟩:=Value.isInt_shape (k:=k) (v:=e.2) hk
  refine ⟨t,?_⟩
  unfold keyOf
  rw [q]
theorem elem_is {l:List (Int×Value)} (h:ElemsOf (intKind prog w) l) {e:Int×Value} (he:e∈l) {k:Int} (q:(intKind prog w).is k e.2 = true):keyOf e = k:=by
  obtain ⟨t,q⟩:=Value.isInt_shape (k:=k) (v:=e.2) q
  unfold keyOf
  rw [q]
def ISet (prog:Program) (w:World) (h:Heap) (a:Addr) (ks:List Int):Prop:=∃ (o:Obj) (es:Array (Int×Value)) (ep:Nat) (t:SetTable),
  h.get? a = some o∧o.ExactSet∧o.data = .set es ep t∧ElemsOf (intKind prog w) es.toList∧t.fits es.size = true∧TabOk t∧(w.params.followText "set-order" = false→t.led = true) ∧
  (es.toList.map keyOf).Nodup∧(∀ k,k∈es.toList.map keyOf↔k∈ks)∧es.size≤ks.length
theorem ISet.keep {h h':Heap} {a:Addr} {ks:List Int} (x:ISet prog w h a ks) (k:∀ o,h.get? a = some o→h'.get? a = some o):ISet prog w h' a ks :=
  let ⟨o,es,ep,t,ho,r⟩:=x
  ⟨o,es,ep,t,k _ ho,r⟩
theorem iset_store {h:Heap} {a:Addr} {o:Obj} {es es':Array (Int×Value)} {ep:Nat} {t t':SetTable} {ks:List Int} (ho:h.get? a = some o) (hex:o.ExactSet) (hd:o.data = .set es ep t)
    (hel:ElemsOf (intKind prog w) es'.toList) (hf:t'.fits es'.size = true) (ht:TabOk t') (hl:w.params.followText "set-order" = false→t'.led = true) (nd:(es'.toList.map keyOf).Nodup)
    (mem:∀ k,k∈es'.toList.map keyOf↔k∈ks) (sz:es'.size≤ks.length) :
    (h.update a (Obj.putSet es' t')).get? a = some { o with data:=.set es' (ep + 1) t' }∧ISet prog w (h.update a (Obj.putSet es' t')) a ks:=by
  have g:(h.update a (Obj.putSet es' t')).get? a = some { o with data:=.set es' (ep + 1) t' }:=by
    have q:=Heap.get?_update_self (Obj.putSet es' t') ho (by rw [putSet_of es' t' hd]; rfl)
    rw [putSet_of es' t' hd] at q; exact q
  exact ⟨g,_,es',ep + 1,t',g,hex,rfl,hel,hf,ht,hl,nd,mem,sz⟩
theorem perm_size {es es':Array (Int×Value)} (p:List.Perm es'.toList es.toList):es'.size = es.size:=by
  have:=p.length_eq
  simpa using this
theorem iset_add {A:Around} {E:Value→Shared→Prop} {s:Shared} {a:Addr} {ks:List Int} {k:Int} {tk:Tok} {Q:Bool→Shared→Prop} (hS:ISet prog w s.heap a ks) (hr:ks.length + 1 < scanBound)
    (h:∀ b h',Heap.SameBut a s.heap h'→ISet prog w h' a (ks ++ [k])→Q b { s with heap:=h' }):wpAny (model prog w) A (setAddHashed a (.int k tk) ((intKind prog w).hash k)) Q E s:=by
  obtain ⟨o,es,ep,t,ho,hex,hd,hel,hf,ht,hl,nd,mem,sz⟩:=hS
  have hz:es.size < scanBound:=by omega
  have hkey:(intKind prog w).is k (.int k tk) = true:=intKind_is _ _ _ _
  unfold setAddHashed setAddHashedIn
  refine wpAny_holding (wpAny_bind (wpAny_setState_of ho hd hf ?_))
  dsimp only; rw [byScan_of (knd:=intKind prog w) (x:=.int k tk) rfl hz hel]
  simp only [↓reduceIte]; unfold setAddByScan
  refine wpAny_bind (wpAny_bind (wpAny_rule (wpAny_bind (wpAny_setScan_of hkey ho hd hf hel ?_))))
  cases hc:List.findIdx? (fun e=>(intKind prog w).is k e.2) es.toList with
  | some j =>
    dsimp only
    obtain ⟨hj,hp,_⟩:=List.findIdx?_eq_some_iff_getElem.mp hc
    have hk:k∈es.toList.map keyOf:=List.mem_map.mpr ⟨es.toList[j],List.getElem_mem hj,elem_is hel (List.getElem_mem hj) hp⟩
    have q:=h false s.heap (Heap.SameBut.refl a s.heap) ⟨o,es,ep,t,ho,hex,hd,hel,hf,ht,hl,nd,fun k'=>by
      rw [List.mem_append,List.mem_singleton,mem k']
      exact ⟨.inl,fun z=>z.elim id fun e=>by rw [e]; exact (mem k).mp hk⟩,by rw [List.length_append]; omega⟩
    exact wpAny_pure (wpAny_pure q)
  | none =>
    dsimp only
    have hk:k∉es.toList.map keyOf:=fun z=>by
      obtain ⟨e,he,ek⟩:=List.mem_map.mp z
      have q:=List.findIdx?_eq_none_iff.mp hc e he
      obtain ⟨te,ee⟩:=elem_int hel he
      rw [ee,ek,intKind_is] at q
      cases q
    have gw:∀ (b:Bool) {s1:Shared} {Q':Unit→Shared→Prop},Q' () s1→wpAny (model prog w) A (match b with | true=>rule "set.scan.the-table-gave-way" | false=>pure ()) Q' E s1 :=
      fun b s1 Q' q=>by
        cases b
        · exact wpAny_pure q
        · exact wpAny_rule q
    have pm:=layNew_perm t es ((intKind prog w).hash k) (.int k tk); have fm:=layNew_fits t es ((intKind prog w).hash k) (.int k tk)
    obtain ⟨tm,lm⟩:=lay_ok ht es ((intKind prog w).hash k) (.int k tk)
    generalize layNew t es ((intKind prog w).hash k) (.int k tk) = L at pm fm tm lm ⊢
    obtain ⟨es1,t1,wd,gv⟩:=L
    dsimp only at pm fm tm lm ⊢; rw [Array.toList_push] at pm
    have hel1:ElemsOf (intKind prog w) es1.toList:=(hel.push hkey rfl).perm pm
    have km:List.Perm (es1.toList.map keyOf) (es.toList.map keyOf ++ [k]):=by
      have:=pm.map keyOf
      rw [List.map_append] at this
      exact this
    have nd1:(es1.toList.map keyOf).Nodup:=km.nodup_iff.mpr (List.nodup_append.mpr ⟨nd,by simp,fun a ha b hb=>by
      rw [List.mem_singleton] at hb
      subst hb
      intro e
      subst e
      exact hk ha⟩)
    have mem1:∀ k',k'∈es1.toList.map keyOf↔k'∈ks ++ [k]:=fun k'=>by
      rw [km.mem_iff,List.mem_append,List.mem_append,mem k']
    have sz1:es1.size = es.size + 1:=by
      have:=pm.length_eq
      simpa using this
    have z1:es1.size≤(ks ++ [k]).length:=by rw [List.length_append,List.length_singleton]; omega
    have l1:w.params.followText "set-order" = false→t1.led = true:=fun z=>lm.trans (hl z)
    refine wpAny_bind (gw _ ?_)
    have tail:∀ {R:Option Bool→Shared→Prop},(∀ h',Heap.SameBut a s.heap h'→ISet prog w h' a (ks ++ [k])→R (some true) { s with heap:=h' }) →
        wpAny (model prog w) A (do
          storeSet a es1 t1
          if (!wd && t1.tooFull) = true then do
            (match (relayAll t1 es1 (SetTable.grown es1.size)).2.2 with | true=>rule "set.scan.the-table-gave-way" | false=>pure ())
            storeSet a (relayAll t1 es1 (SetTable.grown es1.size)).1 (relayAll t1 es1 (SetTable.grown es1.size)).2.1
            pure (some true)
          else pure (some true)) R E s:=by
      intro R hR
      refine wpAny_bind (wpAny_storeSet_of ho hd ?_ (fits_of_scanBound (by omega)))
      obtain ⟨g1,i1⟩:=iset_store (prog:=prog) (w:=w) ho hex hd hel1 fm tm l1 nd1 mem1 z1
      have b1:=Heap.SameBut.update s.heap a (Obj.putSet es1 t1)
      split
      · have p2:=relayAll_perm t1 es1 (SetTable.grown es1.size); have f2:=relayAll_fits t1 es1 (SetTable.grown es1.size)
        obtain ⟨t2,l2⟩:=relay_ok tm es1 (SetTable.grown es1.size)
        generalize relayAll t1 es1 (SetTable.grown es1.size) = Y at p2 f2 t2 l2 ⊢
        obtain ⟨es2,t3,gv2⟩:=Y
        dsimp only at p2 f2 t2 l2 ⊢
        have s2:=perm_size p2
        refine wpAny_bind (gw _ (wpAny_bind (wpAny_storeSet_of g1 rfl ?_ (fits_of_scanBound (by omega)))))
        obtain ⟨_,i2⟩:=iset_store (prog:=prog) (w:=w) (ks:=ks ++ [k]) g1 hex rfl (hel1.perm p2) f2 t2 (fun z=>l2.trans (l1 z)) ((p2.map keyOf).nodup_iff.mpr nd1) (fun k'=>by rw [(p2.map keyOf).mem_iff]; exact mem1 k') (by omega)
        exact wpAny_pure (hR _ (b1.trans (Heap.SameBut.update _ a _)) i2)
      · exact wpAny_pure (hR _ b1 i1)
    split
    · refine wpAny_bind ?_
      rw [hashByValue_scannable 8 (show Value.scannable (.int k tk) = true from rfl)]
      refine wpAny_pure ?_
      show wpAny _ _ _ _ _ _
      exact tail fun h' hb hi=>wpAny_pure (h true h' hb hi)
    · refine wpAny_bind (wpAny_pure ?_)
      exact tail fun h' hb hi=>wpAny_pure (h true h' hb hi)
end
end L2
namespace L2
open PySem
theorem erase_perm {α:Type}:∀ (l:List α) (i:Nat) (x:α),l[i]? = some x→List.Perm (x :: l.eraseIdx i) l
  | [],i,x,h=>by cases h
  | a :: r,0,x,h=>by cases h; exact .refl _
  | a :: r,i + 1,x,h=>(List.Perm.swap a x _).trans ((erase_perm r i x h).cons a)
theorem pick_go {α:Type} (f:Nat→Nat):∀ (n k:Nat) (l:List α) (out:Array α),l.length = n→List.Perm (pickOrder.go f n k l out).toList (out.toList ++ l)
  | 0,k,l,out,h=>by
    cases l with
    | nil=>unfold pickOrder.go; rw [List.append_nil]
    | cons a r=>cases h
  | n + 1,k,l,out,h=>by
    unfold pickOrder.go
    have hl:f k % l.length < l.length:=Nat.mod_lt _ (by omega)
    rw [List.getElem?_eq_getElem hl]
    dsimp only
    have p:=erase_perm l _ _ (List.getElem?_eq_getElem hl)
    refine (pick_go f n (k + 1) _ _ ?_).trans ?_
    · have:=p.length_eq
      rw [List.length_cons] at this
      omega
    · rw [Array.toList_push,List.append_assoc]
      exact List.Perm.append_left _ p
theorem pick_perm {α:Type} (f:Nat→Nat) (xs:Array α):List.Perm (pickOrder f xs).toList xs.toList:=by
  have:=pick_go f xs.size 0 xs.toList #[] (by simp)
  rw [show (#[]:Array α).toList ++ xs.toList = xs.toList from rfl] at this
  exact this
section
variable {prog:Program} {w:World} {A:Around} {E:Value→Shared→Prop} {s:Shared}
theorem wp_choose {M:Model} {src:Source} {n:Nat} {Q:Nat→Shared→Prop} (hn:n≠0) (h:∀ i d,i < n→Q i { s with drawn:=d }):wpAny M A (choose src n) Q E s:=fun Γ p hΓ=>by
  show Sem.wp M Γ (Sem.choose src n Sem.pure) _ _ p s
  unfold Sem.wp
  refine ⟨hn,?_⟩
  unfold Sem.wp
  exact h _ _ (Nat.mod_lt _ (Nat.pos_of_ne_zero hn))
theorem wp_order {M:Model} {α:Type}:∀ (n:Nat) (xs:List α) (s:Shared) {Q:List α→Shared→Prop},xs.length = n→(∀ ys d,List.Perm ys xs→Q ys { s with drawn:=d })→wpAny M A (drawOrder n xs) Q E s
  | 0,xs,s,Q,hl,h=>by
    cases xs with
    | nil=>exact wpAny_pure (h [] s.drawn .nil)
    | cons a r=>cases hl
  | n + 1,xs,s,Q,hl,h=>by
    cases xs with
    | nil=>cases hl
    | cons a r =>
      unfold drawOrder
      refine wpAny_bind (wp_choose (by simp) fun i d hi=>?_)
      rw [List.getElem?_eq_getElem hi]
      dsimp only
      have p:=erase_perm (a :: r) _ _ (List.getElem?_eq_getElem hi)
      refine wpAny_bind (wp_order n _ _ (by have:=p.length_eq; rw [List.length_cons] at this; omega) fun ys d' hp=>?_)
      exact wpAny_pure (h _ d' ((hp.cons _).trans p))
def SIt (h:Heap) (I:Addr) (f:Value) (i:Nat) (p n ep:Nat):Prop:=∃ o,h.get? I = some o∧o.cls = .type "set_iterator" ∧ o.data = .fields #[f,.int i 0,.ref p,.int n 0,.int ep 0]
theorem SIt.ty {I p n ep i:Nat} {f:Value} (x:SIt s.heap I f i p n ep):s.TypeIs (.ref I) "set_iterator" := let ⟨o,ho,hc,_⟩:=x; ⟨o,ho,hc⟩
def SAt (h:Heap) (p ep:Nat) (es:Array (Int×Value)) (t:SetTable):Prop:=∃ o,h.get? p = some o∧o.ExactSet∧o.data = .set es ep t∧t.fits es.size = true
theorem slot_sit_next:Slot "set_iterator" "__next__" "set_iterator.__next__" := .of (owner := "set_iterator") (n := "__next__") (by rw [typeLookup_type,builtinLookup_eq_fast]; kernel_rfl) (by decide +kernel) (by decide +kernel) (by decide +kernel) (by first | exact .inl (by decide +kernel) | exact .inr (by decide +kernel)) (by rw [isSubtype_type]; kernel_rfl)
theorem entry_sit_next:entryFor table "set_iterator.__next__" = some Builtin.«set_iterator.__next__»:=entryFor_of_tree (by kernel_rfl)
theorem args_sit_next (a:Value):argsOk "set_iterator.__next__" ⟨[a],[]⟩:=by unfold argsOk; kernel_rfl
theorem entry_s_iter:entryFor table "set.__iter__" = some Builtin.«frozenset.__iter__»:=entryFor_alias (id' := "frozenset.__iter__") (by kernel_rfl) rfl (by decide +kernel) (by kernel_rfl)
theorem look_sit:typeLookup (.type "set_iterator") "__next__" = pure (some (.builtin "set_iterator.__next__")):=slot_sit_next.lookup
theorem iter_set {p ep:Nat} {es:Array (Int×Value)} {t:SetTable} {Q:Value→Shared→Prop} (hS:SAt s.heap p ep es t)
    (hq:(w.params.followText "set-order" = true∨(t.plain = true∨es.size≤1))→Q (.ref s.heap.objs.size) { s with heap:=s.heap.push { cls:=.type "set_iterator",data:=.fields #[.int 0 0,.int 0 0,.ref p,.int es.size 0,.int ep 0] } })
    (hd:∀ (ys:List Nat) (d:Drawn),List.Perm ys (List.range es.size)→Q (.ref (s.heap.objs.size + 1)) { s with heap:=(s.heap.push { cls:=.type "tuple",data:=.seq (ys.map fun i=>rawInt (i:Nat)).toArray }).push { cls:=.type "set_iterator",data:=.fields #[.ref s.heap.objs.size,.int 0 0,.ref p,.int es.size 0,.int ep 0] },drawn:=d })
    (hz:es.size≤sizeLine):wpAny (model prog w) A (pyIter (.ref p)) Q E s:=by
  obtain ⟨o,ho,hex,hdt,hf⟩:=hS
  have hT:s.TypeIs (.ref p) "set" := ⟨o,ho,hex.1⟩
  refine wpAny_pyIter_slot hT F.slot_set_iter (wpAny_call_entry F.slot_set_iter hT entry_s_iter ?_ (F.args_set_iter_1 _))
  unfold Builtin.«frozenset.__iter__»
  refine wpAny_bind (m:=Builtin.Frozenset.slot0 "__iter__" _) (wpAny_pure ?_)
  refine wpAny_bind (m:=Builtin.Frozenset.sizeOf p) ?_
  unfold Builtin.Frozenset.sizeOf setEntries
  refine wpAny_bind (wpAny_bind (wpAny_setState_of ho hdt hf (wpAny_pure (wpAny_pure ?_))))
  unfold setDrawn setsByText
  refine wpAny_bind (wpAny_bind (wpAny_setState_of ho hdt hf (wpAny_bind (wpAny_bind (wpAny_askSetting (wpAny_pure (wpAny_pure ?_)))))))
  have low:∀ {f:Value} {h2:Heap} {d:Drawn},h2.get? p = some o→Q (.ref h2.objs.size) { s with heap:=h2.push { cls:=.type "set_iterator",data:=.fields #[f,.int 0 0,.ref p,.int es.size 0,.int ep 0] },drawn:=d } →
      wpAny (model prog w) A.in1 (do
        let ep' ← setEpoch p
        let it ← newFields "set_iterator" [f,rawInt 0,Value.ref p,rawInt (es.size:Nat),rawInt (ep':Nat)]
        ret it) (fun fin s'=>∃ v,fin = Fin.done (Flow.ret v)∧∃ T' r,s'.TypeIs v T'∧typeLookup (Value.type T') (Str.ofString "__next__") = pure (some r)∧Q v s') E { s with heap:=h2,drawn:=d }:=fun {f h2 d} g q=>by
    refine wpAny_bind (wpAny_setEpoch_of (s:={ s with heap:=h2,drawn:=d }) g hdt hf ?_)
    exact wpAny_bind (wpAny_newObj_type (wpAny_pure ⟨_,rfl,"set_iterator",_,⟨_,Heap.get?_push_size _ rfl,rfl⟩,look_sit,q⟩))
  refine wpAny_ite_split (fun c=>?_) (fun c=>?_)
  · refine wpAny_bind (wp_order es.size _ _ (by simp) fun ys d hp=>?_)
    have hy:ys.length = es.size:=by have:=hp.length_eq; simpa using this
    refine wpAny_bind (m:=newTuple _) (wpAny_newObj_type ?_ (by show (ys.map fun i=>rawInt (i:Nat)).toArray.size≤sizeLine; rw [List.size_toArray,List.length_map,hy]; exact hz))
    have q:=hd ys d hp
    have e:s.heap.objs.size + 1 = (s.heap.push { cls:=.type "tuple",data:=.seq (ys.map fun i=>rawInt (i:Nat)).toArray }).objs.size:=(Heap.size_push _ _).symm
    rw [e] at q
    exact low (Heap.get?_push_of_some _ ho) q
  · refine wpAny_bind (wpAny_pure (low (d:=s.drawn) ho (hq ?_)))
    have c':¬ (!w.params.followText "set-order" && (!t.plain && decide (es.size > 1))) = true:=c
    cases h1:w.params.followText "set-order" with
    | true=>exact .inl rfl
    | false =>
      right
      cases h2:t.plain with
      | true=>exact .inl rfl
      | false =>
        right
        rw [h1,h2] at c'
        simp at c'
        exact c'
end
end L2
namespace L2
open PySem
section
variable {prog:Program} {w:World} {A:Around} {E:Value→Shared→Prop} {s:Shared}
theorem sit_upd {h:Heap} {I p n ep i:Nat} {f g:Value} (x:SIt h I f i p n ep) :
    SIt ((h.update I (Obj.mapFields (·.setIfInBounds 0 g))).update I (Obj.mapFields (·.setIfInBounds 1 (rawInt ((i:Int) + 1))))) I g (i + 1) p n ep:=by
  obtain ⟨o,ho,hc,hd⟩:=x
  have d1:=Obj.data_mapFields hd (·.setIfInBounds 0 g)
  have g1:=Heap.get?_update_self (Obj.mapFields (·.setIfInBounds 0 g)) ho (Obj.isFreed_of_fields d1)
  have d2:=Obj.data_mapFields d1 (·.setIfInBounds 1 (rawInt ((i:Int) + 1)))
  refine ⟨_,Heap.get?_update_self _ g1 (Obj.isFreed_of_fields d2),(Obj.cls_mapFields ..).trans ((Obj.cls_mapFields ..).trans hc),?_⟩
  rw [d2]
  simp [rawInt]
theorem next_some {I p ep i slot nx:Nat} {es:Array (Int×Value)} {t:SetTable} {x:Value} {Q:Option Value→Shared→Prop} (hI:SIt s.heap I (.int slot 0) i p es.size ep) (hS:SAt s.heap p ep es t)
    (hN:∀ (A':Around) (E':Value→Shared→Prop) (Q':Option (Value×Nat)→Shared→Prop),Q' (some (x,nx)) s→wpAny (model prog w) A' (setNext p slot i ep) Q' E' s)
    (hQ:∀ h',SIt h' I (.int nx 0) (i + 1) p es.size ep→Heap.SameBut I s.heap h'→Q (some x) { s with heap:=h' }):wpAny (model prog w) A (pyNext (.ref I)) Q E s:=by
  obtain ⟨o,ho,hc,hd⟩:=id hI
  obtain ⟨op,hop,hex,hdp,hf⟩:=hS
  unfold pyNext
  refine wpAny_bind (wpAny_attempt (wpAny_callSpecial?_slot (name:=Str.ofString "__next__") hI.ty slot_sit_next (wpAny_call_entry slot_sit_next hI.ty entry_sit_next ?_ (args_sit_next _))))
  unfold Builtin.«set_iterator.__next__»
  refine wpAny_bind (m:=slotArgs "__next__" 0 _) (wpAny_pure ?_)
  refine wpAny_bind (wpAny_fieldsOf ho hd ?_)
  dsimp only
  unfold setEntries
  refine wpAny_bind (wpAny_bind (wpAny_setState_of hop hdp hf (wpAny_pure ?_)))
  rw [if_neg (by simp)]
  simp only [Int.toNat_natCast]
  refine wpAny_bind (hN _ _ _ ?_)
  dsimp only
  refine wpAny_bind (wpAny_setField ho hd (by simp) ?_)
  have d1:=Obj.data_mapFields hd (·.setIfInBounds 0 (rawInt ((nx:Nat):Int)))
  have g1:=Heap.get?_update_self (Obj.mapFields (·.setIfInBounds 0 (rawInt ((nx:Nat):Int)))) ho (Obj.isFreed_of_fields d1)
  refine wpAny_bind (wpAny_setField (s:={ s with heap:=s.heap.update I (Obj.mapFields (·.setIfInBounds 0 (rawInt ((nx:Nat):Int)))) }) g1 d1 (by simp) ?_)
  exact wpAny_pure ⟨_,rfl,wpAny_pure (hQ _ (sit_upd hI) ((Heap.SameBut.update ..).trans (Heap.SameBut.update ..)))⟩
theorem next_none {I p ep i slot:Nat} {es:Array (Int×Value)} {t:SetTable} {Q:Option Value→Shared→Prop} (hh:A.handled = none) (hI:SIt s.heap I (.int slot 0) i p es.size ep) (hS:SAt s.heap p ep es t)
    (hN:∀ (A':Around) (E':Value→Shared→Prop) (Q':Option (Value×Nat)→Shared→Prop),Q' none s→wpAny (model prog w) A' (setNext p slot i ep) Q' E' s)
    (hQ:∀ h',Heap.ExtBut I s.heap h'→Q none { s with heap:=h' }):wpAny (model prog w) A (pyNext (.ref I)) Q E s:=by
  obtain ⟨o,ho,hc,hd⟩:=id hI
  obtain ⟨op,hop,hex,hdp,hf⟩:=id hS
  unfold pyNext
  refine wpAny_bind (wpAny_attempt (wpAny_callSpecial?_slot (name:=Str.ofString "__next__") hI.ty slot_sit_next (wpAny_call_entry slot_sit_next hI.ty entry_sit_next ?_ (args_sit_next _))))
  unfold Builtin.«set_iterator.__next__»
  refine wpAny_bind (m:=slotArgs "__next__" 0 _) (wpAny_pure ?_)
  refine wpAny_bind (wpAny_fieldsOf ho hd ?_)
  dsimp only
  unfold setEntries
  refine wpAny_bind (wpAny_bind (wpAny_setState_of hop hdp hf (wpAny_pure ?_)))
  rw [if_neg (by simp)]
  simp only [Int.toNat_natCast]
  refine wpAny_bind (hN _ _ _ ?_)
  dsimp only
  refine wpAny_bind (wpAny_setField ho hd (by simp) ?_)
  have s1:=Heap.SameBut.update s.heap I (Obj.mapFields (·.setIfInBounds 2 Value.none))
  simp only [newExc,newTuple]
  refine wpAny_bind (wpAny_bind (wpAny_newObj_type (wpAny_bind (m:=firstArgMember _ _) (wpAny_of_eq (a:=Value.none) (by simp only [firstArgMember]; rfl) (wpAny_newObj_type ?_ (by size_fits)))) (by size_fits)))
  simp only [raiseNew]
  refine wpAny_bind (wpAny_handled ?_)
  rw [show A.in1.handled = none from hh]
  refine wpAny_bind (wpAny_pure (wpAny_throw ?_)); refine wpAny_bind (wpAny_isInstance (T := "StopIteration") (b:=true) ⟨_,Heap.get?_push_size _ rfl,rfl⟩ isSubtype_stop ?_)
  exact wpAny_pure (hQ _ ((s1.extBut.push _).push _))
def TAt (h:Heap) (T:Nat) (ys:List Nat):Prop:=∃ o,h.get? T = some o∧o.cls = .type "tuple" ∧ ∃ n,o.data = .seq (ys.map fun i=>rawInt (i:Nat)).toArray n
theorem tup_some {I p ep i T j:Nat} {es:Array (Int×Value)} {t:SetTable} {ys:List Nat} {e:Int×Value} {Q:Option Value→Shared→Prop} (hI:SIt s.heap I (.ref T) i p es.size ep) (hS:SAt s.heap p ep es t) (hT:TAt s.heap T ys)
    (hj:ys[i]? = some j) (he:es[j]? = some e) (hQ:∀ h',SIt h' I (.ref T) (i + 1) p es.size ep→Heap.SameBut I s.heap h'→Q (some e.2) { s with heap:=h' }):wpAny (model prog w) A (pyNext (.ref I)) Q E s:=by
  obtain ⟨o,ho,hc,hd⟩:=id hI
  obtain ⟨op,hop,hex,hdp,hf⟩:=id hS
  unfold pyNext
  refine wpAny_bind (wpAny_attempt (wpAny_callSpecial?_slot (name:=Str.ofString "__next__") hI.ty slot_sit_next (wpAny_call_entry slot_sit_next hI.ty entry_sit_next ?_ (args_sit_next _))))
  unfold Builtin.«set_iterator.__next__»
  refine wpAny_bind (m:=slotArgs "__next__" 0 _) (wpAny_pure ?_)
  refine wpAny_bind (wpAny_fieldsOf ho hd ?_)
  dsimp only
  unfold setEntries
  refine wpAny_bind (wpAny_bind (wpAny_setState_of hop hdp hf (wpAny_pure ?_)))
  rw [if_neg (by simp)]
  obtain ⟨oT,hoT,hcT,nT,hdT⟩:=hT
  refine wpAny_bind (wpAny_seqItems hoT hdT ?_)
  dsimp only
  rw [Int.toNat_natCast,List.getElem?_toArray,List.getElem?_map,hj]
  show wpAny _ _ (setNextDrawn p j ep >>= _) _ _ s
  unfold setNextDrawn
  refine wpAny_bind (wpAny_bind (wpAny_setState_of hop hdp hf ?_))
  dsimp only
  rw [if_neg (by simp)]
  rw [he]
  refine wpAny_pure (wpAny_bind (wpAny_setField ho hd (by simp) ?_))
  have d1:=Obj.data_mapFields hd (·.setIfInBounds 1 (rawInt ((i:Int) + 1)))
  refine wpAny_pure ⟨_,rfl,wpAny_pure (hQ _ ⟨_,Heap.get?_update_self _ ho (Obj.isFreed_of_fields d1),(Obj.cls_mapFields ..).trans hc,?_⟩ (Heap.SameBut.update ..))⟩
  rw [d1]
  simp [rawInt]
theorem tup_none {I p ep i T:Nat} {es:Array (Int×Value)} {t:SetTable} {ys:List Nat} {Q:Option Value→Shared→Prop} (hh:A.handled = none) (hI:SIt s.heap I (.ref T) i p es.size ep) (hS:SAt s.heap p ep es t) (hT:TAt s.heap T ys)
    (hj:ys[i]? = none) (hQ:∀ h',Heap.ExtBut I s.heap h'→Q none { s with heap:=h' }):wpAny (model prog w) A (pyNext (.ref I)) Q E s:=by
  obtain ⟨o,ho,hc,hd⟩:=id hI
  obtain ⟨op,hop,hex,hdp,hf⟩:=id hS
  unfold pyNext
  refine wpAny_bind (wpAny_attempt (wpAny_callSpecial?_slot (name:=Str.ofString "__next__") hI.ty slot_sit_next (wpAny_call_entry slot_sit_next hI.ty entry_sit_next ?_ (args_sit_next _))))
  unfold Builtin.«set_iterator.__next__»
  refine wpAny_bind (m:=slotArgs "__next__" 0 _) (wpAny_pure ?_)
  refine wpAny_bind (wpAny_fieldsOf ho hd ?_)
  dsimp only
  unfold setEntries
  refine wpAny_bind (wpAny_bind (wpAny_setState_of hop hdp hf (wpAny_pure ?_)))
  rw [if_neg (by simp)]
  obtain ⟨oT,hoT,hcT,nT,hdT⟩:=hT
  refine wpAny_bind (wpAny_seqItems hoT hdT ?_)
  dsimp only
  rw [Int.toNat_natCast,List.getElem?_toArray,List.getElem?_map,hj]
  dsimp only [Option.map_none]
  refine wpAny_bind (wpAny_setField ho hd (by simp) ?_)
  have d1:=Obj.data_mapFields hd (·.setIfInBounds 0 (rawInt 0))
  have g1:=Heap.get?_update_self (Obj.mapFields (·.setIfInBounds 0 (rawInt 0))) ho (Obj.isFreed_of_fields d1)
  refine wpAny_bind (wpAny_setField (s:={ s with heap:=s.heap.update I (Obj.mapFields (·.setIfInBounds 0 (rawInt 0))) }) g1 d1 (by simp) ?_)
  have s1:=(Heap.SameBut.update s.heap I (Obj.mapFields (·.setIfInBounds 0 (rawInt 0)))).trans (Heap.SameBut.update (s.heap.update I (Obj.mapFields (·.setIfInBounds 0 (rawInt 0)))) I (Obj.mapFields (·.setIfInBounds 2 Value.none)))
  simp only [newExc,newTuple]
  refine wpAny_bind (wpAny_bind (wpAny_newObj_type (wpAny_bind (m:=firstArgMember _ _) (wpAny_of_eq (a:=Value.none) (by simp only [firstArgMember]; rfl) (wpAny_newObj_type ?_ (by size_fits)))) (by size_fits)))
  simp only [raiseNew]
  refine wpAny_bind (wpAny_handled ?_)
  rw [show A.in1.handled = none from hh]
  refine wpAny_bind (wpAny_pure (wpAny_throw ?_)); refine wpAny_bind (wpAny_isInstance (T := "StopIteration") (b:=true) ⟨_,Heap.get?_push_size _ rfl,rfl⟩ isSubtype_stop ?_)
  exact wpAny_pure (hQ _ ((s1.extBut.push _).push _))
theorem setNext_text {p ep slot i:Nat} {es:Array (Int×Value)} {t:SetTable} {Q:Option (Value×Nat)→Shared→Prop} (hx:w.params.followText "set-order" = true) (hS:SAt s.heap p ep es t)
    (h:Q (((pickOrder (w.params.setOrder p ep) es)[i]?).map fun e=>(e.2,slot)) s):wpAny (model prog w) A (setNext p slot i ep) Q E s:=by
  obtain ⟨op,hop,hex,hdp,hf⟩:=hS
  unfold setNext setsByText
  refine wpAny_bind (wpAny_setState_of hop hdp hf (wpAny_bind (wpAny_bind (wpAny_askSetting (wpAny_pure ?_)))))
  dsimp only
  rw [if_pos (show (model prog w).w.params.followText "set-order" = true from hx),if_neg (by simp)]
  unfold setWalk setsByText
  refine wpAny_bind (wpAny_bind (wpAny_setState_of hop hdp hf (wpAny_bind (wpAny_bind (wpAny_askSetting (wpAny_pure ?_))))))
  dsimp only
  rw [if_pos (show (model prog w).w.params.followText "set-order" = true from hx)]
  exact wpAny_bind (wpAny_askSetting (wpAny_pure (wpAny_pure h)))
theorem setNext_place {p ep slot i:Nat} {es:Array (Int×Value)} {t:SetTable} {Q:Option (Value×Nat)→Shared→Prop} (hx:w.params.followText "set-order" = false) (hp:t.plain = true∨es.size≤1) (hl:t.led = true) (hS:SAt s.heap p ep es t)
    (h:Q (match es[SetTable.below t.place slot]?,t.place[SetTable.below t.place slot]? with | some (_,x),some j=>some (x,j + 1) | _,_=>none) s):wpAny (model prog w) A (setNext p slot i ep) Q E s:=by
  obtain ⟨op,hop,hex,hdp,hf⟩:=hS
  unfold setNext setsByText
  refine wpAny_bind (wpAny_setState_of hop hdp hf (wpAny_bind (wpAny_bind (wpAny_askSetting (wpAny_pure ?_)))))
  dsimp only
  rw [if_neg (show ¬ (model prog w).w.params.followText "set-order" = true by intro z; rw [show (model prog w).w.params.followText "set-order" = w.params.followText "set-order" from rfl,hx] at z; cases z)]
  refine wpAny_ite_split (fun c=>?_) (fun c=>?_)
  · exfalso
    have c':(!t.plain && decide (es.size > 1)) = true:=c
    rw [Bool.and_eq_true,decide_eq_true_eq] at c'
    rcases hp with hp | hp
    · rw [hp] at c'; cases c'.1
    · omega
  · refine wpAny_bind ?_
    show wpAny _ _ (if (!t.led && !es.isEmpty) = true then unsupported _ else pure ()) _ _ _
    rw [if_neg (by rw [hl]; simp)]
    exact wpAny_pure (wpAny_pure h)
end
end L2
namespace L2
open PySem PyProof.Rows
section
variable {prog:Program} {w:World} {A:Around} {E:Value→Shared→Prop} {s:Shared}
theorem slot_sit_iter:Slot "set_iterator" "__iter__" "set_iterator.__iter__" := .of (owner := "set_iterator") (n := "__iter__") (by rw [typeLookup_type,builtinLookup_eq_fast]; kernel_rfl) (by decide +kernel) (by decide +kernel) (by decide +kernel) (by first | exact .inl (by decide +kernel) | exact .inr (by decide +kernel)) (by rw [isSubtype_type]; kernel_rfl)
theorem entry_sit_iter:entryFor table "set_iterator.__iter__" = some Builtin.«dict_keyiterator.__iter__»:=entryFor_alias (id' := "dict_keyiterator.__iter__") (by kernel_rfl) rfl (by decide +kernel) (by kernel_rfl)
theorem args_sit_iter (a:Value):argsOk "set_iterator.__iter__" ⟨[a],[]⟩:=by unfold argsOk; kernel_rfl
theorem iter_sit {I p n ep i:Nat} {f:Value} {Q:Value→Shared→Prop} (x:SIt s.heap I f i p n ep) (h:Q (.ref I) s):wpAny (model prog w) A (pyIter (.ref I)) Q E s:=by
  refine wpAny_pyIter_slot x.ty slot_sit_iter (wpAny_call_entry slot_sit_iter x.ty entry_sit_iter (show wpAny _ _ (ret (.ref I)) _ _ s from ?_) (args_sit_iter _))
  exact wpAny_pure ⟨_,rfl,"set_iterator",_,x.ty,look_sit,h⟩
theorem SIt.keep {h h':Heap} {I p n ep i:Nat} {f:Value} (x:SIt h I f i p n ep) (k:∀ o,h.get? I = some o→h'.get? I = some o):SIt h' I f i p n ep:=let ⟨o,ho,r⟩:=x; ⟨o,k _ ho,r⟩
theorem SAt.keep {h h':Heap} {p ep:Nat} {es:Array (Int×Value)} {t:SetTable} (x:SAt h p ep es t) (k:∀ o,h.get? p = some o→h'.get? p = some o):SAt h' p ep es t:=let ⟨o,ho,r⟩:=x; ⟨o,k _ ho,r⟩
theorem TAt.keep {h h':Heap} {T:Nat} {ys:List Nat} (x:TAt h T ys) (k:∀ o,h.get? T = some o→h'.get? T = some o):TAt h' T ys:=let ⟨o,ho,r⟩:=x; ⟨o,k _ ho,r⟩
theorem walk_text (hh:A.handled = none) (I p ep:Nat) (hne:p≠I) (es:Array (Int×Value)) (t:SetTable) (hx:w.params.followText "set-order" = true) :
    Walks prog w A I [I,p] [I] es.size (fun i v=>((pickOrder (w.params.setOrder p ep) es).toList.map (·.2))[i]? = some v) (fun i h=>SIt h I (.int 0 0) i p es.size ep∧SAt h p ep es t) where
  sub:=fun b hb=>by rw [List.mem_singleton] at hb; rw [hb]; exact List.mem_cons_self
  frame:=fun _ _ _ st k=>⟨st.1.keep (k I List.mem_cons_self),st.2.keep (k p (List.mem_cons_of_mem _ List.mem_cons_self))⟩
  item:=fun i s Q E hi st hQ=>by
    have hl:i < (pickOrder (w.params.setOrder p ep) es).size:=by
      have:=(pick_perm (w.params.setOrder p ep) es).length_eq
      rw [Array.length_toList,Array.length_toList] at this
      omega
    have g:=Array.getElem?_eq_getElem hl
    refine next_some (nx:=0) (x:=((pickOrder (w.params.setOrder p ep) es)[i]).2) (slot:=0) st.1 st.2 (fun A' E' Q' q=>setNext_text hx st.2 (by rw [g]; exact q)) fun h' hI hb=>?_
    refine hQ _ h' s.toks ?_ ⟨hI,st.2.keep fun o e=>hb.extBut p o hne e⟩ fun b o hn e=>hb.extBut b o (fun z=>hn (by rw [z]; exact List.mem_singleton.mpr rfl)) e
    rw [List.getElem?_map,Array.getElem?_toList,g]; rfl
  done:=fun s Q E st hQ=>by
    have g:(pickOrder (w.params.setOrder p ep) es)[es.size]? = none:=by
      have:=(pick_perm (w.params.setOrder p ep) es).length_eq
      rw [Array.length_toList,Array.length_toList] at this
      exact Array.getElem?_eq_none (by omega)
    exact next_none (slot:=0) hh st.1 st.2 (fun A' E' Q' q=>setNext_text hx st.2 (by rw [g]; exact q)) fun h' hb=>hQ h' s.toks fun b o hn e=>hb b o (fun z=>hn (by rw [z]; exact List.mem_singleton.mpr rfl)) e
  self:=fun _ _ _ _ st hQ=>iter_sit st.1 hQ
def slotAt (t:SetTable):Nat→Nat
  | 0=>0
  | i + 1=>t.place.getD i 0 + 1
theorem below_at {t:SetTable} (h:Ris t.place):∀ i,i≤t.place.size→SetTable.below t.place (slotAt t i) = i
  | 0,_=>by
    obtain ⟨b0,b1,b2⟩:=below_is (j:=slotAt t 0) h
    by_cases c:SetTable.below t.place (slotAt t 0) = 0
    · exact c
    · exact absurd (b1 0 (by omega)) (Nat.not_lt_zero _)
  | i + 1,hi=>by
    obtain ⟨b0,b1,b2⟩:=below_is (j:=slotAt t (i + 1)) h
    have e:∀ k d,k < t.place.size→t.place.getD k d = t.place.getD k 0:=fun k d hk=>by simp [Array.getD,hk]
    have c1:i < SetTable.below t.place (slotAt t (i + 1)):=by
      by_cases c:SetTable.below t.place (slotAt t (i + 1))≤i
      · have:=b2 i c hi
        rw [e i _ hi] at this
        exact absurd this (Nat.not_succ_le_self _)
      · omega
    by_cases c2:SetTable.below t.place (slotAt t (i + 1)) = i + 1
    · exact c2
    · have l:=b1 (i + 1) (by omega)
      have hk:i + 1 < t.place.size:=by omega
      rw [e _ _ hk] at l
      have r:t.place.getD i 0 < t.place.getD (i + 1) 0:=ris_lt (d:=0) h (Nat.lt_succ_self i) hk
      have l':t.place.getD (i + 1) 0 < t.place.getD i 0 + 1:=l
      omega
theorem walk_place (hh:A.handled = none) (I p ep:Nat) (hne:p≠I) (es:Array (Int×Value)) (t:SetTable) (hx:w.params.followText "set-order" = false) (hp:t.plain = true∨es.size≤1) (hl:t.led = true) (hz:t.place.size = es.size) (hr:Ris t.place) :
    Walks prog w A I [I,p] [I] es.size (fun i v=>(es.toList.map (·.2))[i]? = some v) (fun i h=>SIt h I (.int (slotAt t i) 0) i p es.size ep∧SAt h p ep es t) where
  sub:=fun b hb=>by rw [List.mem_singleton] at hb; rw [hb]; exact List.mem_cons_self
  frame:=fun _ _ _ st k=>⟨st.1.keep (k I List.mem_cons_self),st.2.keep (k p (List.mem_cons_of_mem _ List.mem_cons_self))⟩
  item:=fun i s Q E hi st hQ=>by
    have g:=Array.getElem?_eq_getElem hi
    have hi2:i < t.place.size:=by omega
    have g2:=Array.getElem?_eq_getElem hi2
    have e2:slotAt t (i + 1) = t.place[i] + 1:=by
      show t.place.getD i 0 + 1 = _
      simp [Array.getD,hi2]
    refine next_some (nx:=t.place[i] + 1) (x:=(es[i]).2) (slot:=slotAt t i) st.1 st.2 (fun A' E' Q' q=>setNext_place hx hp hl st.2 (by rw [below_at hr i (by omega),g,g2]; exact q)) fun h' hI hb=>?_
    refine hQ _ h' s.toks ?_ ⟨by rw [e2]; exact hI,st.2.keep fun o e=>hb.extBut p o hne e⟩ fun b o hn e=>hb.extBut b o (fun z=>hn (by rw [z]; exact List.mem_singleton.mpr rfl)) e
    rw [List.getElem?_map,Array.getElem?_toList,g]; rfl
  done:=fun s Q E st hQ=>by
    have g:es[es.size]? = none:=Array.getElem?_eq_none (Nat.le_refl _)
    exact next_none (slot:=slotAt t es.size) hh st.1 st.2 (fun A' E' Q' q=>setNext_place hx hp hl st.2 (by rw [below_at hr _ (by omega),g]; exact q)) fun h' hb=>hQ h' s.toks fun b o hn e=>hb b o (fun z=>hn (by rw [z]; exact List.mem_singleton.mpr rfl)) e
  self:=fun _ _ _ _ st hQ=>iter_sit st.1 hQ
theorem walk_drawn (hh:A.handled = none) (I p T ep:Nat) (hne:p≠I) (hnT:T≠I) (es:Array (Int×Value)) (t:SetTable) (ys:List Nat) (hy:List.Perm ys (List.range es.size)) :
    Walks prog w A I [I,p,T] [I] es.size (fun i v=>(ys.map fun j=>(es.getD j (0,.none)).2)[i]? = some v) (fun i h=>SIt h I (.ref T) i p es.size ep∧SAt h p ep es t∧TAt h T ys) where
  sub:=fun b hb=>by rw [List.mem_singleton] at hb; rw [hb]; exact List.mem_cons_self
  frame:=fun _ _ _ st k=>⟨st.1.keep (k I (by simp)),st.2.1.keep (k p (by simp)),st.2.2.keep (k T (by simp))⟩
  item:=fun i s Q E hi st hQ=>by
    have hl:i < ys.length:=by have:=hy.length_eq; rw [List.length_range] at this; omega
    have g:=List.getElem?_eq_getElem hl
    have hj:ys[i] < es.size:=List.mem_range.mp (hy.mem_iff.mp (List.getElem_mem hl))
    refine tup_some st.1 st.2.1 st.2.2 g (Array.getElem?_eq_getElem hj) fun h' hI hb=>?_
    refine hQ _ h' s.toks ?_ ⟨hI,st.2.1.keep fun o e=>hb.extBut p o hne e,st.2.2.keep fun o e=>hb.extBut T o hnT e⟩ fun b o hn e=>hb.extBut b o (fun z=>hn (by rw [z]; exact List.mem_singleton.mpr rfl)) e
    rw [List.getElem?_map,g]
    simp [Array.getD,hj]
  done:=fun s Q E st hQ=>by
    have g:ys[es.size]? = none:=List.getElem?_eq_none (by have:=hy.length_eq; rw [List.length_range] at this; omega)
    exact tup_none hh st.1 st.2.1 st.2.2 g fun h' hb=>hQ h' s.toks fun b o hn e=>hb b o (fun z=>hn (by rw [z]; exact List.mem_singleton.mpr rfl)) e
  self:=fun _ _ _ _ st hQ=>iter_sit st.1 hQ
theorem ints_of {l:List (Int×Value)} (h:∀ e∈l,∃ t,e.2 = .int (keyOf e) t):IntsAre (l.map (·.2)) (l.map keyOf):=by
  induction l with
  | nil=>exact .nil
  | cons e r ih =>
    obtain ⟨t,q⟩:=h e List.mem_cons_self
    rw [List.map_cons,List.map_cons,q]
    exact .cons _ t (ih fun x hx=>h x (List.mem_cons_of_mem _ hx))
theorem range_getD {α:Type} (es:Array α) (d:α):(List.range es.size).map (fun j=>es.getD j d) = es.toList:=by
  refine List.ext_getElem (by simp) fun i h1 h2=>?_
  have hi:i < es.size:=by simpa using h2
  simp [Array.getD,hi]
theorem iter_iset {p:Addr} {ks:List Int} {Q:Value→Shared→Prop} (hh:A.handled = none) (hS:ISet prog w s.heap p ks) (hk:ks.length≤1000)
    (h:∀ (I:Addr) (fp:List Addr) (St:Nat→Heap→Prop) (h':Heap) (d:Drawn) (its:List Value) (ns:List Int),Walks prog w A I fp [I] its.length (fun i v=>its[i]? = some v) St→St 0 h' →
      (∀ b o,s.heap.get? b = some o→h'.get? b = some o)→(∀ b∈fp,b = p∨s.heap.objs.size≤b)→s.heap.objs.size≤I→IntsAre its ns→ns.Nodup→(∀ k,k∈ns↔k∈ks)→its.length≤ks.length→Q (.ref I) { s with heap:=h',drawn:=d }) :
    wpAny (model prog w) A (pyIter (.ref p)) Q E s:=by
  obtain ⟨o,es,ep,t,ho,hex,hd,hel,hf,ht,hl,nd,mem,sz⟩:=hS
  have hS:SAt s.heap p ep es t:=⟨o,ho,hex,hd,hf⟩
  have hp:p < s.heap.objs.size:=Heap.lt_size ho
  have hz:t.place.size = es.size:=by
    unfold SetTable.fits at hf
    rw [Bool.and_eq_true] at hf
    exact beq_iff_eq.mp hf.1
  have fin:∀ (l:List (Int×Value)),List.Perm l es.toList→IntsAre (l.map (·.2)) (l.map keyOf)∧(l.map keyOf).Nodup∧(∀ k,k∈l.map keyOf↔k∈ks)∧(l.map (·.2)).length = es.size:=fun l pl =>
    ⟨ints_of fun e he=>elem_int hel (pl.mem_iff.mp he),(pl.map keyOf).nodup_iff.mpr nd,fun k=>((pl.map keyOf).mem_iff).trans (mem k),by rw [List.length_map,pl.length_eq,Array.length_toList]⟩
  have lf:∀ b∈[s.heap.objs.size,p],b = p∨s.heap.objs.size≤b:=fun b hb=>by
    simp only [List.mem_cons,List.not_mem_nil,or_false] at hb
    rcases hb with rfl | rfl
    · exact .inr (Nat.le_refl _)
    · exact .inl rfl
  refine iter_set hS (fun c=>?_) (fun ys d hy=>?_) (Nat.le_trans (Nat.le_trans sz hk) (by decide))
  · cases hx:w.params.followText "set-order" with
    | true =>
      obtain ⟨f1,f2,f3,f4⟩:=fin _ (pick_perm (w.params.setOrder p ep) es)
      have W:=walk_text (prog:=prog) hh s.heap.objs.size p ep (Nat.ne_of_lt hp) es t hx
      rw [← f4] at W
      exact h _ _ _ _ s.drawn _ _ W ⟨⟨_,Heap.get?_push_size _ rfl,rfl,by rw [f4]; rfl⟩,hS.keep fun o e=>Heap.get?_push_of_some _ e⟩ (fun b o e=>Heap.get?_push_of_some _ e) lf (Nat.le_refl _) f1 f2 f3 (by omega)
    | false =>
      have c':t.plain = true∨es.size≤1:=by
        rcases c with c | c
        · rw [hx] at c; cases c
        · exact c
      have hr:Ris t.place:=by
        rcases c' with c' | c'
        · exact ht.ri c'
        · have hl1:t.place.toList.length≤1:=by rw [Array.length_toList]; omega
          show List.Pairwise _ _
          match t.place.toList,hl1 with
          | [],_=>exact .nil
          | [a],_=>exact List.pairwise_singleton _ _
      obtain ⟨f1,f2,f3,f4⟩:=fin _ (.refl _)
      have W:=walk_place (prog:=prog) hh s.heap.objs.size p ep (Nat.ne_of_lt hp) es t hx c' (hl hx) hz hr
      rw [← f4] at W
      exact h _ _ _ _ s.drawn _ _ W ⟨⟨_,Heap.get?_push_size _ rfl,rfl,by rw [f4]; rfl⟩,hS.keep fun o e=>Heap.get?_push_of_some _ e⟩ (fun b o e=>Heap.get?_push_of_some _ e) lf (Nat.le_refl _) f1 f2 f3 (by omega)
  · have pl:List.Perm (ys.map fun j=>es.getD j (0,.none)) es.toList:=by
      have:=hy.map fun j=>es.getD j (0,Value.none)
      rw [range_getD] at this
      exact this
    obtain ⟨f1,f2,f3,f4⟩:=fin _ pl
    have W:=walk_drawn (prog:=prog) (w:=w) (A:=A) hh (s.heap.objs.size + 1) p s.heap.objs.size ep (Nat.ne_of_lt (Nat.lt_succ_of_lt hp)) (Nat.ne_of_lt (Nat.lt_succ_self _)) es t ys hy
    rw [List.map_map] at f1 f4
    have f4':(ys.map fun j=>(es.getD j (0,.none)).2).length = es.size:=f4
    rw [← f4'] at W
    have gI:((s.heap.push { cls:=.type "tuple",data:=.seq (ys.map fun i=>rawInt (i:Nat)).toArray }).push { cls:=.type "set_iterator",data:=.fields #[.ref s.heap.objs.size,.int 0 0,.ref p,.int es.size 0,.int ep 0] }).get? (s.heap.objs.size + 1) = some { cls:=.type "set_iterator",data:=.fields #[.ref s.heap.objs.size,.int 0 0,.ref p,.int es.size 0,.int ep 0] }:=by
      have:=Heap.get?_push_size (s.heap.push { cls:=.type "tuple",data:=.seq (ys.map fun i=>rawInt (i:Nat)).toArray }) (o:={ cls:=.type "set_iterator",data:=.fields #[.ref s.heap.objs.size,.int 0 0,.ref p,.int es.size 0,.int ep 0] }) rfl
      rw [Heap.size_push] at this
      exact this
    refine h _ _ _ _ d _ _ W ⟨⟨_,gI,rfl,by rw [f4']; rfl⟩,hS.keep fun o e=>Heap.get?_push_of_some _ (Heap.get?_push_of_some _ e),⟨_,Heap.get?_push_of_some _ (Heap.get?_push_size _ rfl),rfl,_,rfl⟩⟩ (fun b o e=>Heap.get?_push_of_some _ (Heap.get?_push_of_some _ e)) (fun b hb=>?_) (Nat.le_succ _) f1 f2 f3 (by omega)
    · simp only [List.mem_cons,List.not_mem_nil,or_false] at hb
      rcases hb with rfl | rfl | rfl
      · exact .inr (Nat.le_succ _)
      · exact .inl rfl
      · exact .inr (Nat.le_refl _)
end
end L2
namespace L2
open PySem PyProof.Rows
section
variable {prog:Program} {w:World} {A:Around} {E:Value→Shared→Prop} {s:Shared}
theorem hint_set {r:Addr} {Q:Bool→Shared→Prop} (hT:s.TypeIs (.ref r) "set") (h:Q false s):wpAny (model prog w) A (Builtin.List.listLengthHint (.ref r)) Q E s:=by
  unfold Builtin.List.listLengthHint
  refine wpAny_bind (wpAny_specialOf hT F.slot_set_len.lookup ?_)
  generalize hi:("set.__len__" : String) = idx
  wp_delta; rw [show splitId idx = some ("set","__len__") from by subst hi; decide +kernel]
  subst hi; refine wpAny_bind (wpAny_isInstance (T := "set") (b:=true) hT (by rw [isSubtype_type]; kernel_rfl) ?_)
  refine wpAny_ite_split (fun z=>absurd z (by decide)) (fun _=>wpAny_ite_split (fun _=>?_) (fun z=>absurd (by decide +kernel) z))
  exact wpAny_bind (wpAny_typeOf hT (wpAny_pure h))
def Met (ks:List Int) (its:List Value):Prop:=∃ ns,IntsAre its ns∧ns.Nodup∧(∀ k,k∈ns↔k∈ks)∧its.length≤ks.length
theorem ISet.ty {p:Addr} {ks:List Int} (x:ISet prog w s.heap p ks):s.TypeIs (.ref p) "set" := let ⟨o,_,_,_,ho,hex,_⟩:=x; ⟨o,ho,hex.1⟩
theorem ISet.lt {h:Heap} {p:Addr} {ks:List Int} (x:ISet prog w h p ks):p < h.objs.size:=let ⟨_,_,_,_,ho,_⟩:=x; Heap.lt_size ho
theorem items_eq {its:List Value} {acc:Array Value} (h:ItemsOf (fun i v=>its[i]? = some v) acc its.length):acc.toList = its:=by
  refine List.ext_getElem? fun i=>?_
  by_cases hi:i < its.length
  · have ha:i < acc.size:=by rw [h.1]; exact hi
    have:=h.2 i acc[i] (Array.getElem?_eq_getElem ha)
    rw [Array.getElem?_toList,Array.getElem?_eq_getElem ha,this]
  · have e:acc.toList.length = its.length:=by rw [Array.length_toList,h.1]
    rw [List.getElem?_eq_none (l:=its) (by omega),List.getElem?_eq_none (l:=acc.toList) (by omega)]
theorem extend_iset {R:Result→Shared→Prop} {p S:Addr} {ks:List Int} {res:Value} {c₀:Nat} (hh:A.handled = none) (hS:ISet prog w s.heap p ks) (hk:ks.length≤1000) (hne:S≠p)
    (hl:s.heap.get? S = some { cls:=.type "list",data:=.seq #[] c₀ })
    (hR:∀ h' d tk acc c,(∀ b o,b≠S→s.heap.get? b = some o→h'.get? b = some o)→h'.get? S = some { cls:=.type "list",dict:=none,data:=.seq acc c,slots:=#[] }→Met ks acc.toList→R (.ok (.ret res)) { s with heap:=h',drawn:=d,toks:=tk }) :
    wpAny (model prog w) A.in1 (Builtin.List.listExtendWith (.ref S) (.ref p) res) (fun fin s'=>match fin with | .done f=>R (.ok f) s' | .again c'=>c'.quiet = true∧codeAny (model prog w) A c' R s') (fun e s'=>R (.error e) s') s:=by
  unfold Builtin.List.listExtendWith
  refine wpAny_bind (wpAny_typeOf (T := "set") hS.ty ?_)
  have e1:Builtin.List.listSameRef (.ref S) (.ref p) = false:=by simp [Builtin.List.listSameRef,hne]
  have e2:(Value.type "set" == Value.type "list") = false:=by decide
  have e3:(Value.type "set" == Value.type "tuple") = false:=by decide
  simp only [e1,e2,e3,Bool.or_false,Bool.false_eq_true,if_false]
  refine wpAny_bind (iter_iset (A:=A.in1) hh hS hk fun I fp St h1 d its ns W st keep hfp hI i1 i2 i3 i4=>?_)
  have hSlt:=Heap.lt_size hl
  have hSf:S∉fp:=fun z=>by
    rcases hfp S z with e | e
    · exact hne e
    · exact absurd hSlt (Nat.not_lt.mpr e)
  have hIS:I≠S:=fun z=>absurd hSlt (Nat.not_lt.mpr (by rw [← z]; exact hI))
  have g1:=keep _ _ hl
  have fin:∀ (h:Heap) (c:Nat) (tk:Nat),St 0 h→(∀ b o,b≠S→s.heap.get? b = some o→h.get? b = some o)→h.get? S = some { cls:=.type "list",data:=.seq #[] c } →
      codeAny (model prog w) A (.builtin "list.extend.loop" ⟨[.ref S,.ref I,res],[]⟩) R { s with heap:=h,drawn:=d,toks:=tk }:=fun h c tk st' k g=>by
    refine codeAny_extend_loopS W.toS (Nat.le_trans (Nat.le_trans i4 hk) (by decide)) S hSf res its.length 0 _ #[] c rfl (Nat.zero_le _) st' g (ItemsOf.nil _) fun s' acc c' hm g' hacc=>?_
    have e:=items_eq hacc
    have es:s' = { s with heap:=s'.heap,drawn:=d,toks:=s'.toks }:=by
      obtain ⟨a1,a2,a3,a4,a5⟩:=s'
      have b1:a2 = s.gens:=hm.gens
      have b2:a3 = d:=hm.drawn
      have b3:a5 = s.os:=hm.os
      subst b1 b2 b3
      rfl
    rw [es]
    refine hR s'.heap d s'.toks acc c' (fun b o hb q=>hm.heap b o (fun z=>?_) (k b o hb q)) g' (by rw [e]; exact ⟨ns,i1,i2,i3,i4⟩)
    rcases List.mem_cons.mp z with z | z
    · exact hb z
    · exact absurd (Heap.lt_size q) (Nat.not_lt.mpr (by rw [List.mem_singleton.mp z]; exact hI))
  refine wpAny_bind (wpAny_holding (hint_set (s:={ s with heap:=h1,drawn:=d }) (hS.keep (keep p)).ty ?_))
  refine wpAny_ite_split (fun _=>?_) (fun _=>wpAny_pure ⟨plainId_quiet F.plain_extend_loop _,fin _ c₀ _ st (fun b o _ e=>keep b o e) g1⟩)
  refine wpAny_bind (wpAny_rule (wpAny_bind ?_))
  show wpAny _ _ (updateSeq S (fun xs=>xs.push .none) >>= fun _=>updateSeq S (fun xs=>xs.pop)) _ _ _
  refine wpAny_bind (wpAny_updateSeq (s:={ s with heap:=h1,drawn:=d }) g1 rfl ?_)
  have g2:=Heap.get?_update_self (Obj.mapSeq (fun xs=>xs.push Value.none)) g1 rfl
  refine wpAny_updateSeq (s:={ s with heap:=h1.update S (Obj.mapSeq (fun xs=>xs.push Value.none)),drawn:=d }) (hz:=by seq_fits) g2 rfl ?_
  have g3:=Heap.get?_update_self (Obj.mapSeq (fun xs=>xs.pop)) g2 rfl
  refine wpAny_pure ⟨plainId_quiet F.plain_extend_loop _,fin _ _ _ (W.frame 0 _ _ st fun b hb o e=>?_) (fun b o hb e=>?_) g3⟩
  · have hb':b≠S:=fun z=>hSf (z ▸ hb)
    exact (Heap.get?_update_other _ _ (Ne.symm hb')).trans ((Heap.get?_update_other _ _ (Ne.symm hb')).trans e)
  · exact (Heap.get?_update_other _ _ (Ne.symm hb)).trans ((Heap.get?_update_other _ _ (Ne.symm hb)).trans (keep b o e))
theorem collect_iset {R:List Value→Shared→Prop} {p:Addr} {ks:List Int} (hh:A.handled = none) (hS:ISet prog w s.heap p ks) (hk:ks.length≤1000)
    (h:∀ h' d tk its,(∀ b o,s.heap.get? b = some o→h'.get? b = some o)→Met ks its→R its { s with heap:=h',drawn:=d,toks:=tk }):wpAny (model prog w) A (collect (.ref p)) R E s:=by
  have lt:=hS.lt
  unfold collect
  refine wpAny_bind (wpAny_runValue (codeAny_builtin F.entry_proto_collect ?_))
  rw [Around.under_plainId F.plain_proto_collect _]
  show wpAny _ A.in1 (newList [] >>= fun l0=>again (.builtin "list.__iadd__" ⟨[l0,.ref p],[]⟩)) _ _ s
  refine wpAny_bind (wpAny_newObj_type (wpAny_pure ⟨plainId_quiet F.plain_list_iadd _,codeAny_builtin F.entry_list_iadd ?_⟩))
  rw [Around.under_plainId F.plain_list_iadd _]
  have g0:(s.heap.push { cls:=.type "list",data:=.seq ([]:List Value).toArray }).get? s.heap.objs.size = some { cls:=.type "list",data:=.seq #[] }:=Heap.get?_push_size _ rfl
  have key:=extend_iset (A:=A) (s:={ s with heap:=s.heap.push { cls:=.type "list",data:=.seq ([]:List Value).toArray } }) (res:=.ref s.heap.objs.size)
    (R:=fun (q:Result) (s':Shared)=>∃ (h':Heap) (d:Drawn) (tk:Nat) (acc:Array Value) (c:Nat),q = .ok (.ret (.ref s.heap.objs.size))∧s' = { s with heap:=h',drawn:=d,toks:=tk }∧(∀ b o,s.heap.get? b = some o→h'.get? b = some o) ∧
      h'.get? s.heap.objs.size = some { cls:=.type "list",dict:=none,data:=.seq acc c,slots:=#[] }∧Met ks acc.toList) hh (hS.keep fun o e=>Heap.get?_push_of_some _ e) hk (Nat.ne_of_gt lt) g0
    (fun h' d tk acc c k g m=>⟨h',d,tk,acc,c,rfl,rfl,fun b o e=>k b o (Nat.ne_of_lt (Heap.lt_size e)) (Heap.get?_push_of_some _ e),g,m⟩)
  show wpAny _ A.in1 (Builtin.List.listExtendWith (.ref s.heap.objs.size) (.ref p) (.ref s.heap.objs.size)) _ _ _
  refine wpAny_mono key (fun fi s' x=>?_) fun e s' x=>?_
  · cases fi with
    | done f =>
      obtain ⟨h',d,tk,acc,c,e,rfl,k,g,m⟩:=x
      cases e
      exact wpAny_bind (m:=load s.heap.objs.size) (wpAny_load g (wpAny_pure (h h' d tk _ k m)))
    | again c1 =>
      refine ⟨x.1,codeAny_mono x.2 fun q s2 y=>?_⟩
      obtain ⟨h',d,tk,acc,c,rfl,rfl,k,g,m⟩:=y
      exact wpAny_bind (m:=load s.heap.objs.size) (wpAny_load g (wpAny_pure (h h' d tk _ k m)))
  · obtain ⟨_,_,_,_,_,e',_⟩:=x
    cases e'
end
end L2
namespace L2
open PySem PySem.Spec PyProof.Rows
section
variable {prog:Program} {w:World} {A:Around} {R:Result→Shared→Prop} {I:Addr} {fp wr:List Addr} {G:Array GenState→Array GenState→Prop} {n:Nat} {P:Nat→Value→Prop} {St:Nat→Shared→Prop}
theorem iset_loop (W:WalksS prog w A.in1 I fp wr G n P St) (S:Addr) (hSf:S∉fp) (val:Nat→Int) (hval:∀ i v,P i v→∃ t,v = .int (val i) t) (hb:n + 1 < scanBound) :
    ∀ (k i:Nat) (s:Shared),n - i = k→i≤n→St i s→ISet prog w s.heap S ((List.range i).map val)→(∀ s',Moved (S :: wr) G s s'→ISet prog w s'.heap S ((List.range n).map val)→R (.ok (.ret .none)) s') →
      codeAny (model prog w) A (.builtin "set.update.loop" ⟨[.ref S,.ref I],[]⟩) R s:=by
  have nw:S∉wr:=fun z=>hSf (W.sub _ z)
  have sb:∀ b∈wr,b∈S :: wr:=fun b z=>List.mem_cons_of_mem _ z
  intro k
  induction k with
  | zero =>
    intro i s hk hi st hS hR
    obtain rfl:i = n:=by omega
    refine codeAny_builtin PyProof.Rows.F.entry_set_update_loop ?_
    rw [Around.under_plainId PyProof.Rows.F.plain_set_update_loop _]
    refine wpAny_bind (m:=pyNext (.ref I)) (W.done s _ _ st fun s' hm=>?_)
    exact wpAny_pure (hR s' (hm.mono sb) (hS.keep fun o e=>hm.heap S o nw e))
  | succ k ih =>
    intro i s hk hi st hS hR
    have lt:i < n:=by omega
    refine codeAny_builtin PyProof.Rows.F.entry_set_update_loop ?_
    rw [Around.under_plainId PyProof.Rows.F.plain_set_update_loop _]
    refine wpAny_bind (m:=pyNext (.ref I)) (W.item i s _ _ lt st fun v s' hP st' hm=>?_)
    obtain ⟨tk,rfl⟩:=hval i v hP
    have hS':=hS.keep fun o e=>hm.heap S o nw e
    refine wpAny_bind (m:=holding [Value.int (val i) tk] (setAdd S (.int (val i) tk))) (wpAny_holding ?_)
    unfold setAdd
    refine wpAny_holding (wpAny_bind ((intKind prog w).pyHash (k:=val i) (intKind_is _ _ _ _) ?_))
    refine iset_add (s:={ s' with toks:=s'.toks + 1 }) hS' (by rw [List.length_map,List.length_range]; omega) fun b h' hsb hi=>?_
    have e:((List.range i).map val) ++ [val i] = (List.range (i + 1)).map val:=by rw [List.range_succ,List.map_append]; rfl
    rw [e] at hi
    refine wpAny_pure ⟨plainId_quiet PyProof.Rows.F.plain_set_update_loop _,ih (i + 1) _ (by omega) lt (W.frame _ s' _ _ st' (Nat.le_succ _) fun b hb o e=>?_) hi fun s'' hm'' hS''=>?_⟩
    · rw [hsb.2 b (fun z:b = S=>hSf (by rw [← z]; exact hb))]; exact e
    · refine hR s'' (Moved.trans W.gtrans ((hm.mono sb).then_heap (Nat.le_succ _) fun b o hb e=>?_) hm'') hS''
      rw [hsb.2 b (fun z:b = S=>hb (by rw [z]; exact List.mem_cons_self))]; exact e
end
end L2
namespace L2
open PySem PySem.Spec PyProof.Rows
section
variable {prog:Program} {w:World} {A:Around} {E:Value→Shared→Prop} {s:Shared}
theorem IntsAre.len {vs:List Value} {ns:List Int} (h:IntsAre vs ns):vs.length = ns.length:=by
  induction h with
  | nil=>rfl
  | cons n t _ ih=>rw [List.length_cons,List.length_cons,ih]
theorem lt_of_le_nodup {zs:List Int} (h:zs.Pairwise (·≤·)) (n:zs.Nodup):zs.Pairwise (· < ·) :=
  (List.Pairwise.and h n).imp fun ⟨a,b⟩=>by omega
theorem sorted_iset {p:Addr} {ks:List Int} {Q:Value→Shared→Prop} (hh:A.handled = none) (hS:ISet prog w s.heap p ks) (hk:ks.length < 64)
    (h:∀ (D:Addr) (h':Heap) (d:Drawn) (tk:Nat) (out:Array Value) (e:Nat) (zs:List Int),(∀ b o,s.heap.get? b = some o→h'.get? b = some o)→s.heap.get? D = none→h'.get? D = some (seqObj "list" out e)→IntsAre out.toList zs→zs.Pairwise (· < ·) →
      (∀ k,k∈zs↔k∈ks)→zs.length≤ks.length→Q (.ref D) { s with heap:=h',drawn:=d,toks:=tk }):wpAny (model prog w) A (call (.builtin "sorted") [.ref p]) Q E s:=by
  refine Calls.call_function_entry kind_sorted plain_sorted entry_sorted (args_sorted1 _) ?_
  unfold Builtin.«sorted»
  refine wpAny_bind (m:=checkCount "sorted" 1 1 _) (wpAny_pure (wpAny_bind (collect_iset (A:=A.in1) hh hS (by omega) fun h1 d tk its keep mt=>?_)))
  obtain ⟨ns,i1,i2,i3,i4⟩:=mt
  have hz:its.length≤sizeLine:=Nat.le_trans (Nat.le_trans i4 (Nat.le_of_lt hk)) (by decide)
  refine wpAny_bind (wpAny_newList ?_ hz)
  have g:(h1.push (seqObj "list" its.toArray 0)).get? h1.objs.size = some (seqObj "list" its.toArray 0):=Heap.get?_push_size _ rfl
  have no:s.heap.get? h1.objs.size = none:=by
    cases c:s.heap.get? h1.objs.size with
    | none=>rfl
    | some o=>exact absurd (Heap.lt_size (keep _ _ c)) (Nat.lt_irrefl _)
  refine wpAny_bind (wpAny_holding (wpAny_call_entry (s:={ s with heap:=h1.push (seqObj "list" its.toArray 0),drawn:=d,toks:=tk }) slot_list_sort ⟨_,g,rfl⟩ entry_list_sort (list_sort_tree g i1 (by omega) fun out ns' a1 a2 a3=>⟨_,rfl,?_⟩) (args_list_sort _)))
  obtain ⟨e,ge⟩:=sortedHeap_at (out:=out) g
  have nz:ns'.Nodup:=a2.nodup_iff.mpr i2
  refine wpAny_pure ⟨_,rfl,h h1.objs.size _ d tk out e ns' (fun b o q=>?_) no ge a1 (lt_of_le_nodup a3 nz) (fun k=>(a2.mem_iff).trans (i3 k)) (by have:=a2.length_eq; have:=IntsAre.len i1; omega)⟩
  have lb:=Heap.lt_size (keep b o q)
  exact (sortedHeap_old (Nat.ne_of_lt lb) (by rw [Heap.size_push]; exact Nat.lt_succ_of_lt lb)).trans (Heap.get?_push_of_some _ (keep b o q))
def freshS (w:World):Obj:={ cls:=.type "set",dict:=none,data:=.set #[] 0 (.fresh 0 0 (!w.params.followText "set-order")) }
theorem iset_fresh {h:Heap} {a:Addr} (g:h.get? a = some (freshS w)):ISet prog w h a [] :=
  ⟨_,#[],0,_,g,⟨rfl,rfl,rfl⟩,rfl,(fun e he=>by cases he),rfl,⟨rfl,fun _=>List.Pairwise.nil⟩,(fun z=>by show (!w.params.followText "set-order") = true; rw [z]; rfl),List.Pairwise.nil,(fun k=>by simp),Nat.zero_le _⟩
theorem set_new1 (x:Value) {Q:Value→Shared→Prop} (h:Q (.ref s.heap.objs.size) { s with heap:=s.heap.push (freshS w) }) :
    codeAny (model prog w) A (.call (.builtin "set.__new__") ⟨[.type "set",x],[]⟩) (wants Q E) s:=by
  refine codeAny_of_tree (show wpAny _ A.in1 (do checkBuiltinCall "set.__new__" ⟨[.type "set",x],[]⟩; again (.builtin "set.__new__" ⟨[.type "set",x],[]⟩)) _ _ s from ?_)
  refine wpAny_bind (wpAny_of_eq (PySem.F.newCall_set_1 x) (wpAny_pure ⟨plainId_quiet PySem.F.plain_set_new _,codeAny_builtin PySem.F.entry_set_new ?_⟩))
  rw [Around.under_plainId PySem.F.plain_set_new _]; unfold Builtin.«set.__new__» Builtin.Frozenset.newClass
  have sb:=sub_set_self
  obtain ⟨hp,g,d,tk,os⟩:=s
  dsimp only; wp_walk
  refine wpAny_askSetting (wpAny_pure ?_); dsimp only; simp only [newObj]
  exact wpAny_bind (wpAny_alloc (wpAny_pure (wpAny_pure h)))
theorem call_iset {l:Addr} {items:Array Value} {ns:List Int} {Q:Value→Shared→Prop} (hh:A.handled = none) (hl:s.heap.IsList l items) (hi:IntsAre items.toList ns) (hb:items.size + 1 < scanBound)
    (h:∀ (h':Heap) (tk:Nat),ISet prog w h' s.heap.objs.size ((List.range items.size).map fun i=>ns.getD i 0)→(∀ b o,s.heap.get? b = some o→h'.get? b = some o)→Q (.ref s.heap.objs.size) { s with heap:=h',toks:=tk }) :
    wpAny (model prog w) A (call (.type "set") [.ref l]) Q E s:=by
  obtain ⟨c,tl,mr⟩:=PySem.F.called_set.mro
  have md:=PySem.F.called_set.made
  have sb:=PySem.F.called_set.sub
  refine wpAny_call (codeAny_of_tree (show wpAny _ _ (callAny (.type "set") _) _ _ _ from wpAny_pure ⟨Code.quiet_builtin _ (by decide +kernel),codeAny_builtin PySem.F.entry_type_call ?_⟩))
  rw [Around.under_plain (weight_type_call_type "set" [.ref l] []) rfl]
  have k1:=PySem.F.called_set.notType
  have k2:=PySem.F.called_set.canCreate
  have k3:=PySem.F.typeCall_set_1 (.ref l)
  repeat (any_goals (first | assumption | wp_step))
  refine codeAny_mono (set_new1 (.ref l) (E:=E) (Q:=fun ob s1=>ob = .ref s.heap.objs.size∧s1 = { s with heap:=s.heap.push (freshS w) }) ⟨rfl,rfl⟩) fun r s1 hr=>?_
  cases r with
  | error e=>exact hr
  | ok fl =>
    cases fl with
    | ret ob =>
      obtain ⟨rfl,rfl⟩:=hr
      have g0:(s.heap.push (freshS w)).get? s.heap.objs.size = some (freshS w):=Heap.get?_push_size _ rfl
      have hT:Shared.TypeIs { s with heap:=s.heap.push (freshS w) } (.ref s.heap.objs.size) "set" := ⟨_,g0,rfl⟩
      have u1:=PySem.F.called_set.init.lookup
      have u2:=PySem.F.called_set.init.bind (.ref s.heap.objs.size)
      repeat (any_goals (first | assumption | wp_step))
      refine codeAny_mono (codeAny_call_builtin (R:=wants (fun r s2=>r = .none∧∃ h' tk,s2 = { s with heap:=h',toks:=tk }∧ISet prog w h' s.heap.objs.size ((List.range items.size).map fun i=>ns.getD i 0)∧(∀ b o,s.heap.get? b = some o→h'.get? b = some o)) E)
        PySem.F.called_set.init.plain PySem.F.entry_set_init (check_set_init_1 hT ?_)) fun r2 s2 hr2=>?_
      · obtain ⟨ol,hol,hcl,nl,hdl⟩:=id hl
        obtain ⟨oc,od,oda,os⟩:=ol
        simp only at hcl hdl
        subst hcl; subst hdl
        have v1:(s.heap.push (freshS w)).get? l = some { cls:=.type "list",dict:=od,data:=.seq items nl,slots:=os }:=Heap.get?_push_of_some _ hol
        have v2:=PySem.F.sub_list_set
        have v3:=PySem.F.sub_list_frozenset
        have v4:(Value.type "list" == Value.type "dict") = false:=by decide
        have hl1:(s.heap.push (freshS w)).IsList l items:=⟨_,v1,rfl,nl,rfl⟩
        have fd:(freshS w).data = .set #[] 0 (.fresh 0 0 (!w.params.followText "set-order")):=rfl
        unfold Builtin.«set.__init__» noKeywords Builtin.Frozenset.updateFrom
        generalize hPI:pyIter = PI
        wp_walk
        subst hPI
        refine wpAny_pyIter_list hl1 (wpAny_bind (wpAny_runValue ?_))
        have lS:l < s.heap.objs.size:=Heap.lt_size hol
        have h3:A.in1.in1.in1.handled = none:=by simp [hh]
        have nI:l≠(s.heap.push (freshS w)).objs.size:=by rw [Heap.size_push]; exact Nat.ne_of_lt (Nat.lt_succ_of_lt lS)
        have nS:s.heap.objs.size∉[(s.heap.push (freshS w)).objs.size,l]:=by
          rw [Heap.size_push]; intro z
          simp only [List.mem_cons,List.not_mem_nil,or_false] at z
          rcases z with z | z
          · exact absurd z (Nat.ne_of_lt (Nat.lt_succ_self _))
          · exact absurd z (Nat.ne_of_gt lS)
        refine iset_loop ((Walks.list h3 _ l nI items).toS) s.heap.objs.size nS (fun i=>ns.getD i 0) (fun i v hv=>IntsAre.int_at hi i v (by rw [Array.getElem?_toList]; exact hv)) hb (items.size - 0) 0 _ (by omega) (Nat.zero_le _)
          ⟨⟨_,Heap.get?_push_size _ rfl,rfl,rfl⟩,(hl1.push _)⟩ (iset_fresh (Heap.get?_push_of_some _ g0)) fun s' hm hS'=>?_
        obtain ⟨h',g',d',tk',os'⟩:=s'
        have eg:g' = s.gens:=hm.gens
        have ed:d' = s.drawn:=hm.drawn
        have eo:os' = s.os:=hm.os
        subst eg ed eo
        refine wpAny_pure (wpAny_pure ⟨rfl,h',tk',rfl,hS',fun b o e=>?_⟩)
        have lb:=Heap.lt_size e
        refine hm.heap b o (fun z=>?_) (Heap.get?_push_of_some _ (Heap.get?_push_of_some _ e))
        simp only [List.mem_cons,List.not_mem_nil,or_false] at z
        rcases z with z | z
        · exact absurd z (Nat.ne_of_lt lb)
        · rw [Heap.size_push] at z
          exact absurd z (Nat.ne_of_lt (Nat.lt_succ_of_lt lb))
      · cases r2 with
        | error e=>exact hr2
        | ok f2 =>
          cases f2 with
          | ret r =>
            obtain ⟨rfl,h',tk,rfl,hS',hk'⟩:=hr2
            repeat (any_goals (first | assumption | wp_step))
            exact h _ _ hS' hk'
          | _=>exact hr2.elim
    | _=>exact hr.elim
end
end L2
namespace L2
open PySem PySem.Spec PyProof.Rows
theorem Inv.drawnTo {X:Cx} {pins:List (Addr×Obj)} {σ:St} {H:Hp} {s:Shared} (I:Inv X pins σ H s) (d:Drawn):Inv X pins σ H { s with drawn:=d }:=⟨I.ok,I.os,I.bare,I.base,I.loc,I.cell,I.free,I.freeC,I.pin,I.hok,I.len⟩
def setO (P:Program) (w:World) (a:Addr) (ks:List Int):HO:=.ext fun h=>ISet P w h a ks
theorem setO_ok {P:Program} {w:World} {H:Hp} {h:Heap} {a:Addr} {ks:List Int} (x:ISet P w h a ks):ObjOk P w H h a (setO P w a ks) :=
  ⟨x,let ⟨o,_,_,_,ho,_⟩:=id x; ⟨o,ho⟩,fun h1 h2 y k=>ISet.keep (h:=h1) y k⟩
theorem ints_vals:∀ {ns:List Int} {us:List Value},Vals (ns.map V.int) us→IntsAre us ns
  | [],_,.nil=>.nil
  | n :: r,_,.cons (b:=u) h t=>by
    obtain ⟨tk,rfl⟩:=h
    exact .cons n tk (ints_vals t)
theorem vals_of_ints:∀ {ns:List Int} {us:List Value},IntsAre us ns→Vals (ns.map V.int) us
  | _,_,.nil=>.nil
  | _,_,.cons n t h=>.cons ⟨t,rfl⟩ (vals_of_ints h)
theorem call_setI {X:Cx} (hc:X.calm = true):CallR X (.type "set") (fun xs H Q=>∃ (p:Addr) (ns:List Int),xs = [.ref p]∧SqL X.K H p (ns.map V.int)∧ns.length≤1000∧∀ l,H l = none→Q (.ref l) (upd H l (setO X.prog X.w l ns))):=by
  intro pins s σ H xs us Q I r h
  obtain ⟨p,ns,rfl,hq,hl,q⟩:=h
  obtain ⟨u,rfl,rx⟩:=vals1 r
  cases rx
  obtain ⟨its,r',pl,hz⟩:=I.list hq
  have ia:IntsAre its ns:=ints_vals r'
  have ln:its.length = ns.length:=IntsAre.len ia
  refine call_iset (I.ok.hd hc) pl.isList (by simpa using ia) (by rw [List.size_toArray,ln]; show _ < 4096; omega) fun h' tk hS keep=>?_
  have e:(List.range its.toArray.size).map (fun i=>ns.getD i 0) = ns:=by
    rw [List.size_toArray,ln]
    refine List.ext_getElem (by simp) fun i h1 h2=>?_
    simp [List.getD_eq_getElem?_getD,h2]
  rw [e] at hS
  exact ⟨.ref _,_,I.laid (t':=tk) keep (Nat.le_refl _) (setO_ok hS),rfl,q _ (I.hok.fresh (Nat.le_refl _))⟩
theorem call_sortedI {X:Cx} (hc:X.calm = true):CallR X (.builtin "sorted") (fun xs H Q=>∃ (p:Addr) (ks:List Int),xs = [.ref p]∧H p = some (setO X.prog X.w p ks)∧ks.length < 64 ∧
    ∀ (l:Addr) (zs:List Int),H l = none→zs.Pairwise (· < ·)→(∀ k,k∈zs↔k∈ks)→zs.length≤ks.length→Q (.ref l) (upd H l (.lst (zs.map V.int)))):=by
  intro pins s σ H xs us Q I r h
  obtain ⟨p,ks,rfl,hp,hl,q⟩:=h
  obtain ⟨u,rfl,rx⟩:=vals1 r
  cases rx
  have hS:ISet X.prog X.w s.heap p ks:=(I.hok p _ hp).1
  refine sorted_iset (I.ok.hd hc) hS hl fun D h' d tk out e zs keep no g ia pw mem le=>?_
  have hz:(zs.map V.int).length≤sizeLine:=by
    rw [List.length_map]
    exact Nat.le_trans (Nat.le_trans le (Nat.le_of_lt hl)) (by decide)
  have new:ObjOk X.prog X.w (upd H D (.lst (zs.map V.int))) h' D (.lst (zs.map V.int)):=⟨hz,out.toList,e,vals_of_ints ia,by rw [Array.toArray_toList]; exact g⟩
  exact ⟨.ref D,_,(I.laidN (t':=tk) keep no new).drawnTo d,rfl,q D zs (I.hasNo no) pw mem le⟩
end L2
namespace L2
open PySem PySem.Spec PyProof.Rows
theorem ps_setc {X:Cx} {i0:Nat} {x0:Str} {pos' spos:Pos} {elt tg iter:Expr} {ifs:List Expr} {scope:Scope} {cl:List (Str×Addr)} {pos:Pos} {N:List Str} {fr:List (Option Nat)} {wi:TI} {g:TG} {tt:TT} {te:TE}
    (hN0:X.N.Nodup) (hi0:X.N[i0]? = some x0) (hx0:Loc X.env.scope x0) (hc:X.calm = true) (hi:PI X tg iter wi) (hclos:closureFor scope X.env = pure cl) (hcell:∀ y∈scope.names,y.2≠.cell) (hkind:scope.kind = .function)
    (hnames:∀ y∈scope.names,y.2 = .local→scope.names.lookup y.1 = some .local) (hfr:FreeOk X scope cl N fr) (hcl:ClOk X cl)
    (hhas:((relabel scope X.env).names.all fun p=>!(p.2 == .cell || p.2 == .free) || (cl.lookup p.1).isSome) = true)
    (hg:∀ C s0 H0 ex pins,PG (compCx X N scope cl C s0 H0 ex pins) tg g) (ht:∀ C s0 H0 ex pins,PTs (compCx X N scope cl C s0 H0 ex pins) ifs tt) (he:∀ C s0 H0 ex pins,PE (compCx X N scope cl C s0 H0 ex pins) elt te)
    (hsw:swapsWith (.ListComp elt [⟨tg,iter,ifs,0⟩] scope pos) (some (.Name x0 pos')) spos.line X.env = pure true:=by rfl) (hf0:X.fn x0 = true∨X.env.scope.names.lookup x0 = some .local:=by first | exact .inl rfl | exact .inr rfl)
    (hs:∀ v,foldedSetIterable iter X.env v = pure v:=by intro _; rfl):PS X (.Assign [.Name x0 pos'] (.ListComp elt [⟨tg,iter,ifs,0⟩] scope pos) spos) (tAsg (tComp fr wi g tt te) (gName i0)):=by
  intro pins s σ H D0 I h
  rw [exec_Assign_Name_used _ _ _ _ hsw]
  refine wpAny_bind (wpAny_standAt (wpAny_bind ?_))
  show wpAny _ _ (do let _ ← comprehension (.ListComp elt [⟨tg,iter,ifs,0⟩] scope pos) scope X.env _ (newList []) false (eval iter X.env) (some (assign (.Name x0 pos') X.env))) _ _ s
  refine wpAny_bind (thn (wpAny_comprehension_free (use:=some (assign (.Name x0 pos') X.env)) (Q:=fun _ s'=>SP X pins D0 .next s') rfl hs hclos hkind hnames (thn (hi pins s σ H _ I h) fun xv s1 h1=>thn h1 fun itv s2 h2=>?_)) fun _ s' hq=>wpAny_pure (wpAny_pure hq))
  obtain ⟨it,fp,tn,J,H2,e,I2,T,st2,f2,W,⟨m0,w0⟩,turn⟩:=h2
  subst e
  refine wpAny_newObj_type (wpAny_newFunctionEnv hcell (fun y hy=>nomatch hy) (fun h4 hns hsb=>?_) hkind)
  dsimp only at hns hsb ⊢
  generalize hD:s2.heap.objs.size = D at *
  generalize hG:s2.heap.push { cls:=.type "list",dict:=none,data:=.seq ([]:List Value).toArray } = G at hns hsb ⊢
  have hC:G.objs.size = D + 1:=by rw [← hG,Heap.size_push,hD]
  generalize hCC:G.objs.size = C at hns hsb hC ⊢
  subst hC
  have old:∀ b o,s2.heap.get? b = some o→h4.get? b = some o:=fun b o e=>by
    have lt:=Heap.lt_size e
    rw [hD] at lt
    exact hsb.extBut b o (Nat.ne_of_lt (Nat.lt_succ_of_lt lt)) (Heap.get?_push_of_some _ (hG ▸ Heap.get?_push_of_some _ e))
  have hDl:h4.get? D = some { cls:=.type "list",dict:=none,data:=.seq ([]:List Value).toArray 0 } :=
    hsb.extBut _ _ (Nat.ne_of_lt (Nat.lt_succ_self _)) (Heap.get?_push_of_some _ (hG ▸ hD ▸ Heap.get?_push_size _ rfl))
  have flt:∀ b∈fp,b < D:=fun b hb=>by
    obtain ⟨o,e,_⟩:=T.obj 0 _ st2 b hb
    have lt:=Heap.lt_size e
    rw [hD] at lt
    exact lt
  have nst:∀ b,b≠X.env.locals→b∉X.fs→b∉frs X.stack:=fun b h1 h2 z=>(List.mem_cons.mp (I2.stkSub b z)).elim h1 h2
  have pl:∀ p∈X.pn ++ pins,p.1 < D:=fun p hp=>by
    have lt:=Heap.lt_size (I2.pin p hp).1
    rw [hD] at lt
    exact lt
  have I4:∀ tk,Inv (compCx X N scope cl (D + 1) s2 H2 fp pins) [] (compSt fr σ) H2 { s2 with heap:=h4,toks:=tk }:=fun tk =>
    I2.block hkind hfr hcl hhas f2 (fun b hb=>by rw [hD]; exact flt b hb) old (by rw [hD]; exact Nat.le_succ _) hns
  have stat:∀ {H':Hp} {o:Obj},(∀ b∈fp,H' b = none)→∀ b∈fp,FpOk (compCx X N scope cl (D + 1) s2 H2 fp pins) [(D,o)] H' b:=fun {H' o} hn b hb=>by
    obtain ⟨_,k1,k2,_,k4,k5⟩:=f2 b hb
    refine ⟨hn b hb,Nat.ne_of_lt (Nat.lt_succ_of_lt (flt b hb)),nst b k1 k2,.inl hb,fun x c e=>k4 x c (hcl.at e),fun p hp=>?_⟩
    rcases List.mem_append.mp hp with hp | hp
    · exact k5 p hp
    · rw [List.mem_singleton.mp hp]
      exact (Nat.ne_of_lt (flt b hb)).symm
  have dnf:D∉frs X.stack:=fun z=>by
    obtain ⟨_,o,e,_⟩:=I2.stack.mem z
    have lt:=Heap.lt_size e
    rw [hD] at lt
    exact absurd lt (Nat.lt_irrefl _)
  have loop:∀ tk,codeAny (model X.prog X.w) X.A (.compLoop (.ListComp elt [⟨tg,iter,ifs,0⟩] scope pos) 0 (.ref it) (.ref D) (compEnvC scope cl (D + 1) X.env)) (compPost (model X.prog X.w) X.A X.xe (some (assign (.Name x0 pos') X.env)) (fun _ s'=>SP X pins D0 .next s') (.ref D) (D + 1)) { s2 with heap:=h4,toks:=tk }:=fun tk=>by
    refine comp_turns (fun k s'=>∃ i σ' H' its nD acc,Inv (compCx X N scope cl (D + 1) s2 H2 fp pins) [] σ' H' s' ∧
        s'.heap.get? D = some { cls:=.type "list",dict:=none,data:=.seq (List.toArray its) nD }∧H' D = none∧Vals acc its∧acc.length≤sizeLine∧tn i s'.heap∧(∀ b∈fp,H' b = none)∧W i k acc σ' H') ?_ m0
      ⟨0,_,H2,[],0,[],I4 tk,hDl,I2.hok.fresh (by rw [hD]; exact Nat.le_refl _),.nil,Nat.zero_le _,T.keep 0 _ _ st2 fun b _ o e=>old b o e,fun b hb=>(f2 b hb).1,w0⟩
    rintro k s5 ⟨i,σ5,H5,its,nD,acc,I5,hL,hn5,va,hacc,st5,fr5,w5⟩
    have dcell:∀ x c,cl.lookup x = some c→c≠D:=fun x c e z=>by
      obtain ⟨v,q⟩:=I2.cell x c (hcl.at e)
      have lt:=q.lt
      rw [hD,z] at lt
      exact absurd lt (Nat.lt_irrefl _)
    have I5':Inv (compCx X N scope cl (D + 1) s2 H2 fp pins) [(D,{ cls:=.type "list",dict:=none,data:=.seq (List.toArray its) nD })] σ5 H5 s5:=I5.pins_of fun p hp=>by
      rw [List.mem_singleton.mp hp]
      exact ⟨hL,hn5,Nat.ne_of_lt (Nat.lt_succ_self _),dnf,fun v z=>by cases z⟩
    rcases turn i k acc σ5 H5 w5 with ⟨stop,qn⟩ | ⟨go,hlt,N1,hN1,step⟩
    · refine thnF (T.done (compCx X N scope cl (D + 1) s2 H2 fp pins) rfl rfl rfl hc i _ s5 _ H5 _ I5' (stat fr5) st5 stop) fun r s6 ⟨hr,I6⟩=>?_
      subst hr
      obtain ⟨m6,hn6,_⟩:=I6.loc
      have hL6:=(I6.pin (D,{ cls:=.type "list",dict:=none,data:=.seq (List.toArray its) nD }) (List.mem_append_right _ (List.mem_singleton.mpr rfl))).1
      have I8:Inv X pins σ H5 s6:=I2.call' (s':=s6) I6.os I6.base I6.hok I6.bare fun b hb=>let ⟨_,k1,_,k3,k4,k5⟩:=f2 b hb; ⟨k3,k1,k4,k5⟩
      have I9:Inv X pins σ (upd H5 D (.lst acc)) s6:=I8.trackS hn5 hL6 rfl (by
          cases z:X.s₀.heap.get? D with
          | none=>rfl
          | some o =>
            have lt:=Nat.lt_of_lt_of_le (Heap.lt_size z) I2.sz
            rw [hD] at lt
            exact absurd lt (Nat.lt_irrefl _)) (fun p hp=>Nat.ne_of_lt (pl p hp)) ⟨hacc,its,nD,va,hL6⟩
      have ltL:X.env.locals < D + 1:=by
        have:=I2.lt
        rw [hD] at this
        exact Nat.lt_succ_of_lt this
      have ltC:∀ x c,X.env.cells.lookup x = some c→c < D + 1:=fun x c e=>by
        obtain ⟨v,q⟩:=I2.cell x c e
        have lt:=q.lt
        rw [hD] at lt
        exact Nat.lt_succ_of_lt lt
      refine wpAny_assign_Name (store_ok2 (v:=.ref D) I9 hN0 hi0 hx0 rfl (fun s7 I10 hz=>?_) hf0)
      obtain ⟨aa,sb,ha⟩:=hz
      have nC:D + 1≠aa:=by
        rcases ha with rfl | ha
        · exact Nat.ne_of_gt ltL
        · exact Nat.ne_of_gt (ltC _ _ ha)
      refine ⟨m6,hn6.sameBut sb nC,fun h8 hs8=>⟨_,_,I10.turned (h':=h8) (t':=s7.toks) (fun b o hb e=>hs8.extBut b o hb e) ?_ (Nat.ne_of_gt ltL) (.inr ?_) (fun x c e=>Nat.ne_of_lt (ltC x c e)) (fun p hp=>Nat.ne_of_lt (Nat.lt_succ_of_lt (pl p hp))),qn D hn5⟩⟩
      · rw [upd_ne (Nat.ne_of_gt (Nat.lt_succ_self D))]
        exact I6.free
      · have:=I2.sz
        rw [hD] at this
        exact Nat.le_succ_of_le this
    · refine thnF (T.item (compCx X N scope cl (D + 1) s2 H2 fp pins) rfl rfl rfl hc i _ s5 _ H5 _ I5' (stat fr5) st5 go) fun r s6 ⟨u,hr,h6⟩=>?_
      subst hr
      refine thnF h6 fun _ s7 ⟨x,H7,I7,r7,y7,st7,fr7⟩=>?_
      have I7':Inv (compCx X N scope cl (D + 1) s2 H2 fp pins) ([(D,{ cls:=.type "list",dict:=none,data:=.seq (List.toArray its) nD })] ++ pinsAt fp s7.heap) σ5 H7 s7:=I7.pinned (stat fr7) (T.obj _ _ st7)
      refine thnF (hg _ _ _ _ _ _ s7 _ H7 x u _ I7' r7 (step x H7 y7)) fun _ s8 ⟨σ8,H8,I8,q8⟩=>?_
      refine thnF (ht _ _ _ _ _ _ s8 σ8 H8 _ I8 q8) fun ok s9 ⟨H9,I9,q9⟩=>?_
      have wk:∀ {σ':St} {H':Hp} {s':Shared},Inv (compCx X N scope cl (D + 1) s2 H2 fp pins) ([(D,{ cls:=.type "list",dict:=none,data:=.seq (List.toArray its) nD })] ++ pinsAt fp s7.heap) σ' H' s' →
          tn (i + 1) s'.heap∧(∀ b∈fp,H' b = none)∧s'.heap.get? D = some { cls:=.type "list",dict:=none,data:=.seq (List.toArray its) nD }∧H' D = none:=fun {σ' H' s'} J'=>by
        have pin:∀ p∈([(D,{ cls:=.type "list",dict:=none,data:=.seq (List.toArray its) nD })]:List (Addr×Obj)) ++ pinsAt fp s7.heap,s'.heap.get? p.1 = some p.2∧H' p.1 = none:=fun p hp=>let ⟨e,n,_⟩:=J'.pin p (List.mem_append_right _ hp); ⟨e,n⟩
        refine ⟨T.keep _ _ _ st7 fun b hb o e=>(pin (b,o) (List.mem_append_right _ (mem_pinsAt hb e))).1,fun b hb=>?_,(pin (D,_) (List.mem_append_left _ (List.mem_singleton.mpr rfl))).1,(pin (D,_) (List.mem_append_left _ (List.mem_singleton.mpr rfl))).2⟩
        obtain ⟨o,e,_⟩:=T.obj _ _ st7 b hb
        exact (pin (b,o) (List.mem_append_right _ (mem_pinsAt hb e))).2
      cases ok with
      | false =>
        obtain ⟨m',hm,w9⟩:=hN1 _ _ _ q9
        obtain ⟨k1,k2,k3,k4⟩:=wk I9
        exact ⟨m',hm,i + 1,σ8,H9,its,nD,acc,I9.pins_of (fun _ z=>nomatch z),k3,k4,va,hacc,k1,k2,w9⟩
      | true =>
        refine thnF (he _ _ _ _ _ _ s9 σ8 H9 _ I9 q9) fun y s10 ⟨v,H10,I10,r10,q10⟩=>?_
        obtain ⟨m',hm,w10⟩:=hN1 _ _ _ q10
        obtain ⟨k1,k2,k3,k4⟩:=wk I10
        refine call_meets F.slot_list_append ⟨_,k3,rfl⟩ F.entry_list_append (F.args_list_append_2 _ _) (PySem.list_append D its.toArray nD y (by rw [List.size_toArray,← va.length]; omega)) ⟨k3,?_⟩
        have up:∀ b o,b≠D→s10.heap.get? b = some o→(s10.heap.update D (Obj.mapSeq fun z=>z.push y)).get? b = some o:=fun b o hb e=>(Heap.get?_update_other s10.heap _ (Ne.symm hb)).trans e
        have I11:Inv (compCx X N scope cl (D + 1) s2 H2 fp pins) [] σ8 H10 { s10 with heap:=s10.heap.update D (Obj.mapSeq fun z=>z.push y),toks:=s10.toks } :=
          (I10.pins_of (pins':=[]) fun _ z=>nomatch z).turned up k4 (Nat.ne_of_lt (Nat.lt_succ_self _)) (.inr (by rw [hD]; exact Nat.le_refl _)) dcell fun p hp=>by
            have hp':p∈X.pn ++ pins:=by simpa using hp
            exact Nat.ne_of_lt (pl p hp')
        have q:=PySem.IsL.update k3 (fun z=>z.push y)
        rw [show (List.toArray its).push y = (its ++ [y]).toArray by simp] at q
        refine ⟨m',hm,i + 1,σ8,H10,its ++ [y],_,acc ++ [v],I11,q,k4,va.append (.cons r10 .nil),?_,T.keep _ _ _ k1 fun b hb o e=>up b o (Nat.ne_of_lt (flt b hb)) e,k2,w10⟩
        rw [List.length_append,List.length_singleton]
        omega
  exact codeAny_compStart_list (loop _) (T.self _ 0 _ _ _ (T.keep 0 _ _ st2 fun b _ o e=>old b o e) (loop _))
end L2
namespace K1
open PySem L2
structure Rsg (l:List Nat) (lo hi:Nat):Prop where
  one:1≤l.length
  few:l.length≤12
  up:l.Pairwise (· < ·)
  all:∀ x∈l,lo≤x∧x≤hi
structure OwnC (K:PySem.W.Frag) (C:Addr):Prop where
  ha:PySem.W.findIn K (.ref C) "__class__" = some (some (.builtin "object.__class__"))
  hn:PySem.W.specialIn K (.builtin "object.__class__") "__get__" = some (some (.builtin "getset_descriptor.__get__"))
  tk:PySem.W.takesIn K (.builtin "object.__class__") = some true
  hm:PySem.W.mroIn K C (.type "object") = some true
theorem OwnC.ty {K:PySem.W.Frag} {C:Addr} (o:OwnC K C) (c:Cls K C) {H:Hp} {a dx:Addr} {fs:List (Str×V)} (e:H a = some (.ins C dx fs)):TyOf K H (.ref a) (.ref C):=.ins e c o.ha o.hn o.tk o.hm
inductive TAtr (tp:Addr) (H:Hp):V→RT→Prop
  | always {a:Addr} (h:H a = some (.tup [.str (Str.ofString "always")])):TAtr tp H (.ref a) .always
  | week {a:Addr} {b:Nat} (h:H a = some (.tup [.str (Str.ofString "week"),.int (b:Nat)])):TAtr tp H (.ref a) (.week b)
  | span {a:Addr} {x y:Nat} {v:V} {r:RT} (h:H a = some (.tup [.str (Str.ofString "span"),.int (x:Nat),.int (y:Nat),v])) (hv:TAtr tp H v r):TAtr tp H (.ref a) (.span x y r)
  | each {a l:Addr} {n:Nat} {ss:List Nat} (h:H a = some (.tup [.str (Str.ofString "each"),.int (n:Nat),.ref l])) (hl:H l = some (.lst (natV ss))) (ne:l≠tp):TAtr tp H (.ref a) (.each n ss)
  | either {a:Addr} {v u:V} {r s:RT} (h:H a = some (.tup [.str (Str.ofString "either"),v,u])) (hv:TAtr tp H v r) (hu:TAtr tp H u s):TAtr tp H (.ref a) (.either r s)
  | both {a:Addr} {v u:V} {r s:RT} (h:H a = some (.tup [.str (Str.ofString "both"),v,u])) (hv:TAtr tp H v r) (hu:TAtr tp H u s):TAtr tp H (.ref a) (.both r s)
  | but {a l:Addr} {ds:List Nat} {v:V} {r:RT} (h:H a = some (.tup [.str (Str.ofString "but"),.ref l,v])) (hl:H l = some (.lst (natV ds))) (ne:l≠tp) (hv:TAtr tp H v r):TAtr tp H (.ref a) (.but ds r)
end K1
namespace L2
open PySem PySem.Spec PyProof.Rows
end L2
namespace K1
open PySem L2
end K1
namespace L2
open PySem PySem.Spec PyProof.Rows
theorem strs_of:∀ {ts:List Str} {us:List Value},Vals (ts.map V.str) us→∃ l:List (Str×Tok),us = strValues l∧l.map (·.1) = ts
  | [],_,.nil=>⟨[],rfl,rfl⟩
  | t :: r,_,.cons (b:=u) h q=>by
    obtain ⟨tk,rfl⟩:=h
    obtain ⟨l,rfl,e⟩:=strs_of q
    exact ⟨(t,tk) :: l,rfl,by rw [List.map_cons,e]⟩
theorem fold_le (n:Nat):∀ (ts:List Str) (k:Nat),ts.foldl (fun a x=>a + x.length + n) k = k + (ts.map fun x=>x.length + n).sum
  | [],k=>by simp
  | t :: r,k=>by
    rw [List.foldl_cons,fold_le n r,List.map_cons,List.sum_cons]
    omega
theorem sum_len (n:Nat):∀ ts:List Str,(ts.map fun x=>x.length + n).sum = (ts.map (·.length)).sum + ts.length * n
  | []=>by simp
  | y :: r=>by
    have ih:=sum_len n r
    simp only [List.map_cons,List.sum_cons,List.length_cons,Nat.succ_mul]
    omega
def rJoin (K:PySem.W.Frag):V→List V→Hp→VK→Prop:=fun x xs H Q=>∃ (z:Str) (p:Addr) (ts:List Str),x = .str z∧xs = [.ref p]∧SqL K H p (ts.map V.str)∧(ts.map fun x=>x.length + z.length).sum≤sizeLine∧Q (.str (Str.join z ts)) H
theorem mt_join {X:Cx}:MtR X "str.join" (rJoin X.K):=by
  intro pins s σ H x xs v us Q I rx r h
  obtain ⟨z,p,ts,rfl,rfl,hq,hz,q⟩:=h
  obtain ⟨t,rfl⟩:=rx
  obtain ⟨u,rfl,e⟩:=vals1 r
  cases e
  obtain ⟨its,r',pl,_⟩:=I.list hq
  obtain ⟨l,rfl,el⟩:=strs_of r'
  have hl:Builtin.Str.tooLong ((l.map (·.1)).toArray.foldl (· + ·.length + z.length) 0) = false:=by
    rw [el,List.foldl_toArray,fold_le]
    unfold Builtin.Str.tooLong
    exact decide_eq_false (by omega)
  refine call_meets F.slot_str_join (typeIs_str _ _ _) F.entry_str_join (F.args_str_join_2 _ _) (meets_str_join_list z t p l hl) ⟨pl.isList,?_⟩
  have ej:Builtin.Str.glued z (l.map (·.1)) = Str.join z ts:=by rw [el]; exact StrLaws.glued_eq_join z ts
  have le:(Str.join z ts).length≤sizeLine:=by
    have h1:=StrLaws.join_length_le z ts
    have h2:=sum_len z.length ts
    omega
  have many:∀ (m:Made),m = .str (Builtin.Str.glued z (l.map (·.1)))→m.post (fun v s'=>wants (EP X pins σ Q) X.xe (.ok (.ret v)) s') s:=fun m e=>by
    subst e
    refine ⟨by rw [ej]; exact le,?_⟩
    rw [ej]
    exact ⟨.str _,H,I.tok _,⟨_,rfl⟩,q⟩
  match l,el,many with
  | [],el,many=>exact many _ rfl
  | [y],el,many =>
    obtain ⟨yz,yt⟩:=y
    have e2:Str.join z ts = yz:=by rw [← el]; rfl
    rw [e2] at q
    exact ⟨.str yz,H,I,⟨yt,rfl⟩,q⟩
  | y :: y2 :: r2,el,many=>exact many _ rfl
end L2
namespace K1
open PySem L2
theorem str_len (z:Str):z.cps.toList.length = z.length:=by simp [Str.length]
theorem sl_to (z:Str) (j:Nat) (h:j≤z.length):Txt.slice z none (some (j:Int)) = ⟨(z.cps.toList.take j).toArray⟩:=by
  have e:=StrLaws.sliceText_to (x:=z) (j:=(j:Int)) ⟨by omega,by rw [str_len]; omega⟩
  rw [List.drop_zero,show ((j:Int) - 0).toNat = j by omega] at e
  exact e
theorem sl_from (z:Str) (j:Nat) (h:j≤z.length):Txt.slice z (some (j:Int)) none = ⟨(z.cps.toList.drop j).toArray⟩:=by
  have e:=StrLaws.sliceText_from (x:=z) (i:=(j:Int)) ⟨by omega,by rw [str_len]; omega⟩
  rw [show ((j:Int)).toNat = j by omega,List.take_of_length_le (by rw [List.length_drop]; omega)] at e
  exact e
end K1
namespace K1
open PySem L2
theorem join_room {z:Str} {ts:List Str} {m:Nat} (hz:z.length≤1) (hm:ts.length≤20) (h:∀ x∈ts,x.length≤10):(ts.map fun x=>x.length + z.length).sum≤sizeLine:=by
  have key:∀ l:List Str,(∀ x∈l,x.length≤10)→(l.map fun x=>x.length + z.length).sum≤11 * l.length:=by
    intro l
    induction l with
    | nil=>intro _; simp
    | cons y r ih =>
      intro h
      have h1:=h y List.mem_cons_self
      have h2:=ih fun x hx=>h x (List.mem_cons_of_mem _ hx)
      simp only [List.map_cons,List.sum_cons,List.length_cons]
      omega
  have:=key ts h
  exact Nat.le_trans (show _≤1000 by omega) (by decide)
end K1
namespace L2
open PySem PySem.Spec PyProof.Rows
end L2
namespace L2
open PySem PySem.Spec PyProof.Rows
theorem call_range1 {X:Cx}:CallR X (.type "range") (fun xs H Q=>∃ j:Nat,xs = [.int (j:Nat)]∧j≤1000∧∀ p,H p = none→Q (.ref p) (upd H p (.rng 0 (j:Nat)))):=by
  intro pins s σ H xs us Q I r h
  obtain ⟨j,rfl,hj,q⟩:=h
  obtain ⟨u,rfl,t,rfl⟩:=vals1 r
  refine call_range_1 ⟨.ref s.heap.objs.size,_,I.laid (t':=s.toks + 1 + 1) (fun _ _ e=>Heap.get?_push_of_some _ e) (Nat.le_refl _) (show ObjOk X.prog X.w _ _ _ (.rng 0 (j:Nat)) from ⟨_,_,_,Heap.get?_push_size _ rfl⟩),rfl,q _ (I.hok.fresh (Nat.le_refl _))⟩
end L2
namespace L2
open PySem PySem.Spec PyProof.Rows
def tJoin (t u:TS):TS:=fun D σ H=>∃ J:St→Hp→Prop,t { D with nx:=J } σ H∧∀ σ' H',J σ' H'→u D σ' H'
theorem pss_join {X:Cx} {st:Stmt} {rest:List Stmt} {t u:TS} (h1:PS X st t) (h2:PSs X rest u):PSs X (st :: rest) (tJoin t u):=by
  intro pins s σ H D I h
  obtain ⟨J,h,hJ⟩:=h
  refine wpAny_execs_cons (thn (h1 pins s σ H { D with nx:=J } I h) fun f s1 q=>?_)
  cases f with
  | next =>
    obtain ⟨σ',H',I',q⟩:=q
    exact h2 pins s1 σ' H' D I' (hJ _ _ q)
  | ret v=>exact q
  | brk=>exact q
  | cont=>exact q
end L2
namespace L2
open PySem PySem.Spec PyProof.Rows
section
variable {X:Cx} {pins:List (Addr×Obj)} {σ:St} {H:Hp} {s:Shared} {h':Heap}
theorem Inv.turnedL {t':Nat} {fp:List Addr} (I:Inv X pins σ H s) (k:∀ b o,b∉fp→s.heap.get? b = some o→h'.get? b = some o) (hf:∀ b∈fp,FpOk X pins H b):Inv X pins σ H { s with heap:=h',toks:=t' }:=by
  have nit:∀ b u,H b = some u→b∉fp:=fun b u e z=>by rw [(hf b z).1] at e; cases e
  refine I.step (g':=s.gens) (d':=s.drawn) (ch:=fp) (fun b hb=>⟨(hf b hb).2.2.2.1,(hf b hb).2.1,(hf b hb).2.2.2.2.1,(hf b hb).2.2.2.2.2⟩) (fun b o _ _ hc e _=>k b o hc e) (fun b o _ _ hc e _=>⟨o.slots,k b o hc e⟩) (fun _ _ _ _ n=>n)
    (fun b o hc e=>⟨o,k b o hc e⟩) (fun _ _ e=>e) (fun _ _ _ e=>e) (fun b ps e=>⟨#[],by rw [e]; simp⟩) (fun m hm=>?_) (fun b u e=>?_) I.bare
  · obtain ⟨o,es,ep,ho,r⟩:=hm
    exact ⟨o,es,ep,k _ o (fun z=>(hf _ z).2.1 rfl) ho,r⟩
  · refine (I.hok b u e).stay (fun c v hc q=>k c v ?_ q) (fun _ q=>q) fun _ _ q=>q
    rcases hc with z | z
    · rw [z]; exact nit b u e
    · exact nit c _ z
theorem Inv.paired {t':Nat} {fp:List Addr} {x y:V} {u v:Value} (I:Inv X pins σ H s) (hf:∀ b∈fp,FpOk X pins H b) (ht:∀ b∈fp,∃ o,s.heap.get? b = some o)
    (k:∀ b o,b∉fp→s.heap.get? b = some o→h'.get? b = some o) (hT:h'.get? s.heap.objs.size = some { cls:=.type "tuple",data:=.seq #[u,v] }) (rx:RelV x u) (ry:RelV y v) :
    Inv X pins σ (upd H s.heap.objs.size (.tup [x,y])) { s with heap:=h',toks:=t' }∧∀ b∈fp,upd H s.heap.objs.size (.tup [x,y]) b = none:=by
  have I1:Inv X pins σ (upd H s.heap.objs.size (.tup [x,y])) { s with heap:=s.heap.push { cls:=.type "tuple",data:=.seq #[u,v] },toks:=t' } :=
    I.laid (fun b ob q=>Heap.get?_push_of_some _ q) (Nat.le_refl _) ⟨show 2≤sizeLine by decide,[u,v],.cons rx (.cons ry .nil),IsTup.new _ _⟩
  have ne:∀ b∈fp,b≠s.heap.objs.size:=fun b hb e=>by
    obtain ⟨o,q⟩:=ht b hb
    exact absurd (Heap.lt_size q) (by rw [e]; exact Nat.lt_irrefl _)
  have nn:∀ b∈fp,upd H s.heap.objs.size (.tup [x,y]) b = none:=fun b hb=>by rw [upd_ne (ne b hb)]; exact (hf b hb).1
  refine ⟨Inv.turnedL (s:={ s with heap:=s.heap.push { cls:=.type "tuple",data:=.seq #[u,v] },toks:=t' }) (t':=t') (fp:=fp) I1 (fun b o hb e=>?_) (fun b hb=>⟨nn b hb,(hf b hb).2⟩),nn⟩
  have e':(s.heap.push { cls:=.type "tuple",data:=.seq #[u,v] }).get? b = some o:=e
  by_cases hb2:b = s.heap.objs.size
  · subst hb2
    rw [Heap.get?_push_size _ rfl] at e'
    cases e'
    exact hT
  · rw [Heap.get?_push_ne _ _ _ hb2] at e'
    exact k b o hb e'
end
def Ite (K:PySem.W.Frag) (l:Addr):It :=
  ⟨fun i H=>∃ xs x,SqL K H l xs∧xs[i]? = some x,fun i H v H'=>∃ p x,H p = none∧(∀ xs,SqL K H l xs→xs[i]? = some x)∧v = .ref p∧H' = upd H p (.tup [.int i,x]),fun i H=>∃ xs,SqL K H l xs∧xs.length≤i⟩
def Itz (K:PySem.W.Frag) (l m:Addr):It :=
  ⟨fun i H=>∃ xs ys x y,SqL K H l xs∧SqL K H m ys∧xs[i]? = some x∧ys[i]? = some y,fun i H v H'=>∃ p x y,H p = none∧(∀ xs,SqL K H l xs→xs[i]? = some x)∧(∀ ys,SqL K H m ys→ys[i]? = some y)∧v = .ref p∧H' = upd H p (.tup [x,y]),
    fun i H=>∃ xs ys,SqL K H l xs∧SqL K H m ys∧(xs.length≤i∨ys.length≤i)⟩
theorem turn_enum {P:Program} {w:World} {K:PySem.W.Frag} {es:List Expr} {k:Nat} {pos:Pos} (l e it:Addr) (hei:e≠it):Turn P w K (.Tuple es k pos) (Ite K l) [e,it] e (fun i h=>(∃ old,IsEnum h e it i old)∧h.IsListIter it l i) where
  mem:=by simp
  obj:=fun i h st b hb=>by
    obtain ⟨⟨old,he⟩,o,ho,hc,hd⟩:=st
    have e':b = e∨b = it:=by simpa using hb
    rcases e' with rfl | rfl
    · exact ⟨_,he,fun v z=>by cases z⟩
    · exact ⟨o,ho,fun v z=>by rw [hd] at z; cases z⟩
  keep:=fun i h h' st kk=>⟨let ⟨old,he⟩:=st.1; ⟨old,kk e (by simp) _ he⟩,st.2.at fun o q=>kk it (by simp) o q⟩
  item:=by
    intro X hP hw hK hc i pins s σ H E I hf st hg
    subst hP hw hK
    obtain ⟨xs,x,hq,hx⟩:=hg
    obtain ⟨its,rv,p,hz⟩:=I.list hq
    obtain ⟨u,hu,ru⟩:=rv.get hx
    obtain ⟨⟨old,he⟩,hit⟩:=st
    have hit0:=hit
    refine wpAny_pyNext_enum_item he hit p.isList (x:=u) (by simpa using hu) hei fun h1 ho hit' hT hsz hk=>⟨_,rfl,?_⟩
    refine wpAny_letOwnedTupleGo_enum (s:={ s with heap:=h1,toks:=s.toks + 1 }) ho fun h2 he2 hs2=>?_
    have hlt:e < s.heap.objs.size:=Heap.lt_size he
    have hilt:it < s.heap.objs.size:=by obtain ⟨_,q,_⟩:=hit; exact Heap.lt_size q
    have hT2:h2.get? s.heap.objs.size = some { cls:=.type "tuple",data:=.seq #[.int i s.toks,u] }:=(hs2.2 _ (Nat.ne_of_gt hlt)).trans hT
    obtain ⟨I2,n2⟩:=I.paired (t':=s.toks + 1) (fp:=[e,it]) (x:=.int i) (y:=x) (h':=h2) hf (fun b hb=>by
      have e':b = e∨b = it:=by simpa using hb
      rcases e' with rfl | rfl
      · exact ⟨_,he⟩
      · obtain ⟨o,q,_⟩:=hit0; exact ⟨o,q⟩) (fun b o hb q=>by
      have hb1:b≠e:=fun z=>hb (by simp [z])
      have hb2:b≠it:=fun z=>hb (by simp [z])
      exact (hs2.2 b hb1).trans (hk b o hb1 hb2 q)) hT2 ⟨s.toks,rfl⟩ ru
    refine ⟨.ref s.heap.objs.size,_,I2,rfl,⟨_,x,I.hok.fresh (Nat.le_refl _),fun ys hy=>by rw [I.list_inj hy hq]; exact hx,rfl,rfl⟩,⟨⟨_,by simpa using he2⟩,hit'.at fun o q=>(hs2.2 it hei.symm).trans q⟩,n2⟩
  done:=by
    intro X hP hw hK hc i pins s σ H E I hf st hg
    subst hP hw hK
    obtain ⟨xs,hq,hx⟩:=hg
    obtain ⟨its,rv,p,hz⟩:=I.list hq
    obtain ⟨⟨old,he⟩,hit⟩:=st
    have hl:=rv.length
    exact wpAny_pyNext_enum_end (I.ok.hd hc) he hit p.isList (by simp; omega) fun h' eb=>⟨rfl,I.turnedL (t':=s.toks) (fp:=[e,it]) (fun b o hb q=>eb b o (fun z=>hb (by simp [z])) q) hf⟩
  self:=fun _ _ _ _ _ st h=>by
    obtain ⟨⟨old,he⟩,_⟩:=st
    exact wpAny_pyIter_enum he h
theorem turn_zip {P:Program} {w:World} {K:PySem.W.Frag} {es:List Expr} {k:Nat} {pos:Pos} (l m z TI TO i1 i2:Addr) (D:ZipApart z TI TO i1 i2 l m):Turn P w K (.Tuple es k pos) (Itz K l m) [z,TI,TO,i1,i2] z (fun i h=>IsZip h z TI TO .none∧IsPair h TI (.ref i1) (.ref i2)∧(∃ a b,IsPair h TO a b)∧h.IsListIter i1 l i∧h.IsListIter i2 m i) where
  mem:=by simp
  obj:=fun i h st b hb=>by
    obtain ⟨hz,hTI,⟨a,c,hTO⟩,⟨o1,g1,_,d1⟩,⟨o2,g2,_,d2⟩⟩:=st
    have e':b = z∨b = TI∨b = TO∨b = i1∨b = i2:=by simpa using hb
    rcases e' with rfl | rfl | rfl | rfl | rfl
    · exact ⟨_,hz,fun v z=>by cases z⟩
    · exact ⟨_,hTI,fun v z=>by cases z⟩
    · exact ⟨_,hTO,fun v z=>by cases z⟩
    · exact ⟨o1,g1,fun v z=>by rw [d1] at z; cases z⟩
    · exact ⟨o2,g2,fun v z=>by rw [d2] at z; cases z⟩
  keep:=fun i h h' st kk=>⟨kk z (by simp) _ st.1,kk TI (by simp) _ st.2.1,let ⟨a,b,q⟩:=st.2.2.1; ⟨a,b,kk TO (by simp) _ q⟩,st.2.2.2.1.at fun o q=>kk i1 (by simp) o q,st.2.2.2.2.at fun o q=>kk i2 (by simp) o q⟩
  item:=by
    intro X hP hw hK hc i pins s σ H E I hf st hg
    subst hP hw hK
    obtain ⟨xs,ys,x,y,hq1,hq2,hx,hy⟩:=hg
    obtain ⟨its1,rv1,p1,hz1⟩:=I.list hq1
    obtain ⟨its2,rv2,p2,hz2⟩:=I.list hq2
    obtain ⟨u,hu,ru⟩:=rv1.get hx
    obtain ⟨v,hv,rv⟩:=rv2.get hy
    obtain ⟨hz,hTI,⟨a,b,hTO⟩,h1,h2⟩:=st
    have h10:=h1
    have h20:=h2
    refine wpAny_pyNext_zip_item D hz hTI hTO h1 h2 p1.isList p2.isList (x:=u) (y:=v) (by simpa using hu) (by simpa using hv) fun g1 a1 a2 a3 a4 a5 a6 hk=>⟨_,rfl,?_⟩
    refine wpAny_letOwnedTupleGo_zip (s:={ s with heap:=g1 }) a1 fun g2 b1 bs=>?_
    have hlt:z < s.heap.objs.size:=Heap.lt_size hz
    have hT2:g2.get? s.heap.objs.size = some { cls:=.type "tuple",data:=.seq #[u,v] }:=(bs.2 _ (Nat.ne_of_gt hlt)).trans a5
    obtain ⟨I2,n2⟩:=I.paired (t':=s.toks) (fp:=[z,TI,TO,i1,i2]) (x:=x) (y:=y) (h':=g2) hf (fun b hb=>by
      have e':b = z∨b = TI∨b = TO∨b = i1∨b = i2:=by simpa using hb
      rcases e' with rfl | rfl | rfl | rfl | rfl
      · exact ⟨_,hz⟩
      · exact ⟨_,hTI⟩
      · exact ⟨_,hTO⟩
      · obtain ⟨o,q,_⟩:=h10; exact ⟨o,q⟩
      · obtain ⟨o,q,_⟩:=h20; exact ⟨o,q⟩) (fun b o hb q=>by
      have c1:b≠z:=fun w=>hb (by simp [w])
      have c2:b≠TO:=fun w=>hb (by simp [w])
      have c3:b≠i1:=fun w=>hb (by simp [w])
      have c4:b≠i2:=fun w=>hb (by simp [w])
      exact (bs.2 b c1).trans (hk b o c1 c2 c3 c4 q)) hT2 ru rv
    exact ⟨.ref s.heap.objs.size,_,I2,rfl,⟨_,x,y,I.hok.fresh (Nat.le_refl _),fun zs hy=>by rw [I.list_inj hy hq1]; exact hx,fun zs hy'=>by rw [I.list_inj hy' hq2]; exact hy,rfl,rfl⟩,
      ⟨b1,(bs.2 _ D.TIz).trans (hk _ _ D.TIz D.TITO D.TIi1 D.TIi2 hTI),⟨_,_,(bs.2 _ D.TOz).trans a2⟩,a3.at fun o q=>(bs.2 _ D.i1z).trans q,a4.at fun o q=>(bs.2 _ D.i2z).trans q⟩,n2⟩
  done:=by
    intro X hP hw hK hc i pins s σ H E I hf st hg
    subst hP hw hK
    obtain ⟨xs,ys,hq1,hq2,hx⟩:=hg
    obtain ⟨its1,rv1,p1,hz1⟩:=I.list hq1
    obtain ⟨its2,rv2,p2,hz2⟩:=I.list hq2
    have l1:=rv1.length
    have l2:=rv2.length
    obtain ⟨hz,hTI,⟨a,b,hTO⟩,h1,h2⟩:=st
    exact wpAny_pyNext_zip_end (I.ok.hd hc) D hz hTI hTO h1 h2 p1.isList p2.isList (by rcases hx with hx | hx; exact .inl (by simp; omega); exact .inr (by simp; omega)) fun h' eb =>
      ⟨rfl,I.turnedL (t':=s.toks) (fp:=[z,TI,TO,i1,i2]) (fun b o hb q=>eb b o (fun w=>hb (by simp [w])) (fun w=>hb (by simp [w])) (fun w=>hb (by simp [w])) (fun w=>hb (by simp [w])) q) hf⟩
  self:=fun _ _ _ _ _ st h=>wpAny_pyIter_zip st.1 h
section
variable {X:Cx}
def iEnum (K:PySem.W.Frag) (ta:TA):TI:=fun σ H R=>ta σ H fun vs H1=>∃ a,vs = [.ref a]∧(∃ xs,SqL K H1 a xs)∧R (Ite K a) H1
def iZip (K:PySem.W.Frag) (ta:TA):TI:=fun σ H R=>ta σ H fun vs H1=>∃ a b,vs = [.ref a,.ref b]∧(∃ xs,SqL K H1 a xs)∧(∃ ys,SqL K H1 b ys)∧R (Itz K a b) H1
theorem pi_enum {es:List Expr} {k:Nat} {tp:Pos} {a:Expr} {ta:TA} {p pos:Pos} (hg:Gl X "enumerate") (hm:X.mg "enumerate" = none) (ha:PA X [a] ta) (hs:starEach [a] X.env = [(false,eval a X.env)]:=by rfl):PI X (.Tuple es k tp) (.Call (.Name "enumerate" p) [a] [] pos) (iEnum X.K ta):=by
  intro pins s σ H R I h
  refine Call_ (ld_blt I hg hm boot_enumerate (PyProof.Rows.callWith_type1 (thn (ha pos pins s σ H _ I h) fun us s1 ⟨vs,H1,I1,r1,q1⟩=>?_) hs rfl))
  obtain ⟨l,e,⟨xs,hq⟩,q⟩:=q1
  subst e
  cases r1 with
  | cons r rr =>
    cases rr
    cases r
    obtain ⟨its,rv,pl,hz⟩:=I1.list hq
    refine call_enumerate_list pl.isList fun h' he hit hsz hk=>?_
    refine wpAny_pyIter_enum (s:={ s1 with heap:=h' }) he ?_
    refine ⟨s1.heap.objs.size + 1,[s1.heap.objs.size + 1,s1.heap.objs.size],_,_,H1,rfl,I1.kept (t':=s1.toks) hk,turn_enum l _ _ (Nat.succ_ne_self _),⟨⟨_,he⟩,hit⟩,fun b hb=>?_,q⟩
    have e':b = s1.heap.objs.size + 1∨b = s1.heap.objs.size:=by simpa using hb
    have hb':s1.heap.objs.size≤b:=by rcases e' with rfl | rfl; exact Nat.le_succ _; exact Nat.le_refl _
    exact I1.fpOk hb' (I1.hok.fresh hb')
theorem pi_zip {es:List Expr} {k:Nat} {tp:Pos} {a b:Expr} {ta:TA} {p pos:Pos} (hg:Gl X "zip") (hm:X.mg "zip" = none) (ha:PA X [a,b] ta) (hs:starEach [a,b] X.env = [(false,eval a X.env),(false,eval b X.env)]:=by rfl) (hs2:starEach [b] X.env = [(false,eval b X.env)]:=by rfl) :
    PI X (.Tuple es k tp) (.Call (.Name "zip" p) [a,b] [] pos) (iZip X.K ta):=by
  intro pins s σ H R I h
  refine Call_ (ld_blt I hg hm boot_zip (PyProof.Rows.callWith_type1 (thn (ha pos pins s σ H _ I h) fun us s1 ⟨vs,H1,I1,r1,q1⟩=>?_) (by rw [hs,hs2]) (by rw [hs2]; rfl)))
  obtain ⟨l,m,e,⟨xs,hq1⟩,⟨ys,hq2⟩,q⟩:=q1
  subst e
  cases r1 with
  | cons r rr =>
    cases rr with
    | cons r' rr =>
      cases rr
      cases r
      cases r'
      obtain ⟨its1,rv1,p1,hz1⟩:=I1.list hq1
      obtain ⟨its2,rv2,p2,hz2⟩:=I1.list hq2
      have lt1:l < s1.heap.objs.size:=by obtain ⟨o,e,_⟩:=p1.isList; exact Heap.lt_size e
      have lt2:m < s1.heap.objs.size:=by obtain ⟨o,e,_⟩:=p2.isList; exact Heap.lt_size e
      refine call_zip_2 p1.isList p2.isList fun h' hz hTI hTO hi1 hi2 hsz hk=>?_
      refine wpAny_pyIter_zip (s:={ s1 with heap:=h' }) hz ?_
      refine ⟨s1.heap.objs.size + 4,[s1.heap.objs.size + 4,s1.heap.objs.size + 2,s1.heap.objs.size + 3,s1.heap.objs.size,s1.heap.objs.size + 1],_,_,H1,rfl,I1.kept (t':=s1.toks) hk,turn_zip l m _ _ _ _ _ (zipApart_new lt1 lt2),⟨hz,hTI,⟨_,_,hTO⟩,hi1,hi2⟩,fun b hb=>?_,q⟩
      have hb':s1.heap.objs.size≤b:=by
        simp only [List.mem_cons,List.not_mem_nil,or_false] at hb
        rcases hb with rfl | rfl | rfl | rfl | rfl
        · exact Nat.le_add_right _ _
        · exact Nat.le_add_right _ _
        · exact Nat.le_add_right _ _
        · exact Nat.le_refl _
        · exact Nat.le_add_right _ _
      exact I1.fpOk hb' (I1.hok.fresh hb')
end
theorem for_enum {K:PySem.W.Frag} {a:Addr} {xs:List V} {g:TG} {tb:TS} {D:Ends} {σ:St} {H:Hp} (Pv:Nat→St→Hp→Prop) (h0:Pv 0 σ H) (hl:∀ i σ H,i≤xs.length→Pv i σ H→SqL K H a xs)
    (hs:∀ i x p σ H,xs[i]? = some x→H p = none→Pv i σ H→g (.ref p) σ (upd H p (.tup [.int i,x])) fun σ2 H2=>tb { D with nx:=Pv (i + 1),ct:=Pv (i + 1),bk:=D.nx } σ2 H2) (hd:∀ σ H,Pv xs.length σ H→D.nx σ H) :
    ∃ W:Nat→Nat→St→Hp→Prop,(∃ m,W 0 m σ H)∧∀ i m σ H,W i m σ H →
      ((Ite K a).stop i H∧D.nx σ H)∨((Ite K a).go i H∧∃ N:St→Hp→Prop,(∀ σ' H',N σ' H'→∃ m',m' < m∧W (i + 1) m' σ' H')∧∀ x H',(Ite K a).yld i H x H'→g x σ H' fun σ2 H2=>tb { D with nx:=N,ct:=N,bk:=D.nx } σ2 H2):=by
  refine ⟨fun i m σ H=>m = xs.length - i∧i≤xs.length∧Pv i σ H,⟨xs.length,by simp,Nat.zero_le _,h0⟩,?_⟩
  rintro i m σ H ⟨rfl,hi,p⟩
  have q:=hl i σ H hi p
  by_cases hlt:i < xs.length
  · refine .inr ⟨⟨xs,xs[i],q,by simp [hlt]⟩,Pv (i + 1),fun σ' H' p'=>⟨xs.length - (i + 1),by omega,rfl,hlt,p'⟩,fun v H' y=>?_⟩
    obtain ⟨r,x,hr,y,rfl,rfl⟩:=y
    exact hs i x r σ _ (y xs q) hr p
  · have e:i = xs.length:=by omega
    subst e
    exact .inl ⟨⟨xs,q,Nat.le_refl _⟩,hd σ H p⟩
theorem for_zip {K:PySem.W.Frag} {a b:Addr} {xs ys:List V} {g:TG} {tb:TS} {D:Ends} {σ:St} {H:Hp} (Pv:Nat→St→Hp→Prop) (h0:Pv 0 σ H) (hl:∀ i σ H,i≤xs.length→i≤ys.length→Pv i σ H→SqL K H a xs∧SqL K H b ys)
    (hs:∀ i x y p σ H,xs[i]? = some x→ys[i]? = some y→H p = none→Pv i σ H→g (.ref p) σ (upd H p (.tup [x,y])) fun σ2 H2=>tb { D with nx:=Pv (i + 1),ct:=Pv (i + 1),bk:=D.nx } σ2 H2) (hd:∀ i σ H,i = min xs.length ys.length→Pv i σ H→D.nx σ H) :
    ∃ W:Nat→Nat→St→Hp→Prop,(∃ m,W 0 m σ H)∧∀ i m σ H,W i m σ H →
      ((Itz K a b).stop i H∧D.nx σ H)∨((Itz K a b).go i H∧∃ N:St→Hp→Prop,(∀ σ' H',N σ' H'→∃ m',m' < m∧W (i + 1) m' σ' H')∧∀ x H',(Itz K a b).yld i H x H'→g x σ H' fun σ2 H2=>tb { D with nx:=N,ct:=N,bk:=D.nx } σ2 H2):=by
  refine ⟨fun i m σ H=>m = xs.length - i∧(i≤xs.length∧i≤ys.length)∧Pv i σ H,⟨xs.length,by simp,⟨Nat.zero_le _,Nat.zero_le _⟩,h0⟩,?_⟩
  rintro i m σ H ⟨rfl,⟨hi,hj⟩,p⟩
  obtain ⟨q1,q2⟩:=hl i σ H hi hj p
  by_cases hlt:i < xs.length∧i < ys.length
  · obtain ⟨h1,h2⟩:=hlt
    refine .inr ⟨⟨xs,ys,xs[i],ys[i],q1,q2,by simp [h1],by simp [h2]⟩,Pv (i + 1),fun σ' H' p'=>⟨xs.length - (i + 1),by omega,rfl,⟨h1,h2⟩,p'⟩,fun v H' y=>?_⟩
    obtain ⟨r,x,y,hr,y1,y2,rfl,rfl⟩:=y
    exact hs i x y r σ _ (y1 xs q1) (y2 ys q2) hr p
  · exact .inl ⟨⟨xs,ys,q1,q2,by omega⟩,hd i σ H (by omega) p⟩
end L2
namespace L2
open PySem PySem.Spec PyProof.Rows
section
variable {κ:Type} [DecidableEq κ]
def valV (kvs:List (κ×V)) (k:κ):Option V:=(kvs.find? fun kv=>decide (kv.1 = k)).map (·.2)
def putK (kvs:List (κ×V)) (k:κ) (v:V):List (κ×V) :=
  if (kvs.any fun kv=>decide (kv.1 = k)) = true then kvs.map (fun kv=>if kv.1 = k then (kv.1,v) else kv) else kvs ++ [(k,v)]
theorem valV_pos {p:κ×V} {r:List (κ×V)} {k:κ} (e:p.1 = k):valV (p :: r) k = some p.2:=by simp [valV,List.find?_cons,e]
theorem valV_neg {p:κ×V} {r:List (κ×V)} {k:κ} (e:¬ p.1 = k):valV (p :: r) k = valV r k:=by simp [valV,List.find?_cons,e]
theorem valV_any (k:κ):∀ kvs:List (κ×V),(kvs.any fun kv=>decide (kv.1 = k)) = (valV kvs k).isSome
  | []=>rfl
  | p :: r=>by
    rw [List.any_cons]
    by_cases e:p.1 = k
    · simp only [valV_pos e,decide_eq_true e,Bool.true_or,Option.isSome_some]
    · rw [valV_neg e,decide_eq_false e,Bool.false_or]; exact valV_any k r
theorem valV_map (k j:κ) (y:V):∀ kvs:List (κ×V),valV (kvs.map fun kv=>if kv.1 = k then (kv.1,y) else kv) j = (valV kvs j).map fun x=>if j = k then y else x
  | []=>rfl
  | p :: r=>by
    have ih:=valV_map k j y r
    rw [List.map_cons]
    by_cases h:p.1 = k
    · rw [if_pos h]
      by_cases e:p.1 = j
      · rw [valV_pos (p:=(p.1,y)) e,valV_pos e,Option.map_some,if_pos (e.symm.trans h)]
      · rw [valV_neg (p:=(p.1,y)) e,valV_neg e,ih]
    · rw [if_neg h]
      by_cases e:p.1 = j
      · rw [valV_pos (p:=p) e,valV_pos e,Option.map_some,if_neg (fun z=>h (e.trans z))]
      · rw [valV_neg (p:=p) e,valV_neg e,ih]
theorem valV_snoc (k j:κ) (y:V):∀ kvs:List (κ×V),valV kvs k = none→valV (kvs ++ [(k,y)]) j = if j = k then some y else valV kvs j
  | [],_=>by
    by_cases e:k = j
    · rw [if_pos e.symm]; exact valV_pos (p:=(k,y)) e
    · rw [if_neg (fun z=>e z.symm)]; exact valV_neg (p:=(k,y)) e
  | p :: r,hn=>by
    rw [List.cons_append]
    have hk:¬ p.1 = k:=fun z=>by rw [valV_pos z] at hn; cases hn
    rw [valV_neg hk] at hn
    have ih:=valV_snoc k j y r hn
    by_cases e:p.1 = j
    · rw [valV_pos e,valV_pos e,if_neg (fun z=>hk (e.trans z))]
    · rw [valV_neg e,valV_neg e,ih]
theorem valV_put (kvs:List (κ×V)) (k j:κ) (y:V):valV (putK kvs k y) j = if j = k then some y else valV kvs j:=by
  unfold putK
  by_cases a:(kvs.any fun kv=>decide (kv.1 = k)) = true
  · rw [if_pos a,valV_map]
    rw [valV_any] at a
    by_cases e:j = k
    · obtain ⟨x,hx⟩:=Option.isSome_iff_exists.mp a
      rw [if_pos e,e,hx,Option.map_some,if_pos rfl]
    · rw [if_neg e]
      cases valV kvs j with
      | none=>rfl
      | some x=>rw [Option.map_some,if_neg e]
  · rw [if_neg a]
    refine valV_snoc k j y kvs ?_
    rw [valV_any] at a
    cases q:valV kvs k with
    | none=>rfl
    | some x=>rw [q] at a; exact (a rfl).elim
theorem length_putK (kvs:List (κ×V)) (k:κ) (v:V):(putK kvs k v).length≤kvs.length + 1:=by
  unfold putK
  split
  · rw [List.length_map]; omega
  · rw [List.length_append,List.length_cons,List.length_nil]; omega
theorem RelO.isSome_eq {o:Option V} {u:Option Value} (r:RelO o u):o.isSome = u.isSome:=by
  cases o with
  | none=>cases u with
    | none=>rfl
    | some _=>exact (show False from r).elim
  | some _=>cases u with
    | none=>exact (show False from r).elim
    | some _=>rfl
theorem KV.val {kvs:List (κ×V)} {vs:List (κ×Value)} (r:KV kvs vs) (k:κ):RelO (valV kvs k) (valueAt vs k):=by
  unfold KV at r
  induction r with
  | nil=>exact True.intro
  | @cons p q ps qs h t ih =>
    obtain ⟨h1,h2⟩:=h
    by_cases e:p.1 = k
    · have e':q.1 = k:=h1.symm.trans e
      have b:valueAt (q :: qs) k = some q.2:=by simp [valueAt,List.find?_cons,e']
      rw [valV_pos e,b]; exact h2
    · have e':¬ q.1 = k:=fun z=>e (h1.trans z)
      have b:valueAt (q :: qs) k = valueAt qs k:=by simp [valueAt,List.find?_cons,e']
      rw [valV_neg e,b]; exact ih
theorem KV.any {kvs:List (κ×V)} {vs:List (κ×Value)} (r:KV kvs vs) (k:κ):(kvs.any fun kv=>decide (kv.1 = k)) = vs.any fun kv=>decide (kv.1 = k):=by
  unfold KV at r
  induction r with
  | nil=>rfl
  | cons h t ih=>rw [List.any_cons,List.any_cons,ih,h.1]
theorem KV.repl {kvs:List (κ×V)} {vs:List (κ×Value)} (r:KV kvs vs) (k:κ) {y:V} {u:Value} (ry:RelV y u) :
    KV (kvs.map fun kv=>if kv.1 = k then (kv.1,y) else kv) (vs.map fun kv=>if kv.1 = k then (kv.1,u) else kv):=by
  unfold KV at r ⊢
  induction r with
  | nil=>exact .nil
  | @cons p q ps qs h t ih =>
    rw [List.map_cons,List.map_cons]
    refine .cons ?_ ih
    obtain ⟨h1,h2⟩:=h
    by_cases e:p.1 = k
    · rw [if_pos e,if_pos (h1.symm.trans e)]; exact ⟨h1,ry⟩
    · rw [if_neg e,if_neg (fun z=>e (h1.trans z))]; exact ⟨h1,h2⟩
theorem KV.put {kvs:List (κ×V)} {vs:List (κ×Value)} (r:KV kvs vs) (k:κ) {y:V} {u:Value} (ry:RelV y u):KV (putK kvs k y) (stored vs k u):=by
  unfold putK stored
  rw [r.any k]
  by_cases e:(vs.any fun kv=>decide (kv.1 = k)) = true
  · rw [if_pos e,if_pos e]; exact r.repl k ry
  · rw [if_neg e,if_neg e]; exact Paired.snoc r ⟨rfl,ry⟩
theorem KV.length {kvs:List (κ×V)} {vs:List (κ×Value)} (r:KV kvs vs):kvs.length = vs.length:=Paired.length r
end
theorem kV_is {P:Program} {w:World} {k:Key} {u:Value} (r:RelV (kV k) u):(mixKind P w).is k u = true:=by
  cases k with
  | inl i=>obtain ⟨t,e⟩:=(show ∃ t,u = Value.int i t from r); subst e; exact mixKind_int P w i t
  | inr x=>obtain ⟨t,e⟩:=(show ∃ t,u = Value.str x t from r); subst e; exact mixKind_str P w x t
theorem items_are {P:Program} {w:World}:∀ {ks:List Key} {us:List Value},Vals (ks.map kV) us→ItemsAre (mixKind P w) ks us
  | [],_,r=>by rw [List.map_nil] at r; cases r; exact .nil
  | k :: ks,_,r=>by
    rw [List.map_cons] at r
    cases r with
    | cons h t=>exact .cons (kV_is h) (items_are t)
abbrev KT (H:Hp):List (List Key×V)→List (List Key×Addr×Value)→Prop:=Paired fun p q=>p.1 = q.1∧H q.2.1 = some (.tup (p.1.map kV))∧RelV p.2 q.2.2
theorem KT.val {H:Hp} {kvs:List (List Key×V)} {xs:List (List Key×Addr×Value)} (r:KT H kvs xs) (k:List Key):RelO (valV kvs k) ((atKey xs k).map (·.2)):=by
  induction r with
  | nil=>exact True.intro
  | @cons p q ps qs h t ih =>
    obtain ⟨h1,_,h2⟩:=h
    by_cases e:p.1 = k
    · have e':q.1 = k:=h1.symm.trans e
      have b:atKey (q :: qs) k = some q.2:=by simp [atKey,List.find?_cons,e']
      rw [valV_pos e,b]; exact h2
    · have e':¬ q.1 = k:=fun z=>e (h1.trans z)
      have b:atKey (q :: qs) k = atKey qs k:=by simp [atKey,List.find?_cons,e']
      rw [valV_neg e,b]; exact ih
theorem KT.repl {H:Hp} {kvs:List (List Key×V)} {xs:List (List Key×Addr×Value)} (r:KT H kvs xs) (k:List Key) {y:V} {u:Value} (ry:RelV y u) :
    KT H (kvs.map fun kv=>if kv.1 = k then (kv.1,y) else kv) (xs.map (putAt k u)):=by
  induction r with
  | nil=>exact .nil
  | @cons p q ps qs h t ih =>
    rw [List.map_cons,List.map_cons]
    refine .cons ?_ ih
    obtain ⟨h1,h2,h3⟩:=h
    unfold putAt
    by_cases e:p.1 = k
    · rw [if_pos e,if_pos (h1.symm.trans e)]; exact ⟨h1,h2,ry⟩
    · rw [if_neg e,if_neg (fun z=>e (h1.trans z))]; exact ⟨h1,h2,h3⟩
theorem KT.put {H:Hp} {kvs:List (List Key×V)} {xs:List (List Key×Addr×Value)} (r:KT H kvs xs) (k:List Key) {b:Addr} {y:V} {u:Value} (hb:H b = some (.tup (k.map kV))) (ry:RelV y u) :
    KT H (putK kvs k y) (storedH xs k b u):=by
  have e:(kvs.any fun kv=>decide (kv.1 = k)) = (atKey xs k).isSome:=by
    rw [valV_any,(r.val k).isSome_eq,Option.isSome_map]
  unfold putK storedH
  rw [e]
  by_cases q:(atKey xs k).isSome = true
  · rw [if_pos q,if_pos q]; exact r.repl k ry
  · rw [if_neg q,if_neg q]; exact Paired.snoc r ⟨rfl,hb,ry⟩
theorem KT.keeps {H H':Hp} {kvs:List (List Key×V)} {xs:List (List Key×Addr×Value)} (r:KT H kvs xs) (ht:∀ b ys,H b = some (.tup ys)→H' b = some (.tup ys)):KT H' kvs xs :=
  Paired.mapP r fun _ _ z=>⟨z.1,ht _ _ z.2.1,z.2.2⟩
section
variable {P:Program} {w:World} {H:Hp} {h:Heap} {a:Addr}
theorem rd_of {u:HO} (ok:HOk P w H h) (e:Rd H a u):ObjOk P w H h a u:=e.ok ok
theorem dk_rd {kvs:List (Key×V)} (ok:HOk P w H h) (e:Rd H a (.dK kvs)):kvs.length≤sizeLine∧(a == sysModules) = false∧∃ vs,KV kvs vs∧h.DictOf (mixKind P w) a vs :=
  show ObjOk P w H h a (.dK kvs) from rd_of ok e
theorem dk_of {kvs:List (Key×V)} (ok:HOk P w H h) (e:H a = some (.dK kvs)):kvs.length≤sizeLine∧(a == sysModules) = false∧∃ vs,KV kvs vs∧h.DictOf (mixKind P w) a vs:=dk_rd ok (.inl e)
theorem key_of {ks:List Key} (ok:HOk P w H h) (e:H a = some (.tup (ks.map kV))):(tupleKind (mixKind P w)).is h ks a:=by
  obtain ⟨_,its,r,o,h1,h2,n,h3⟩:=(show ObjOk P w H h a (.tup (ks.map kV)) from ok a _ e)
  exact ⟨o,its.toArray,n,h1,h2,h3,by simpa using items_are r⟩
theorem dt_rd {kvs:List (List Key×V)} (ok:HOk P w H h) (e:Rd H a (.dT kvs)):kvs.length≤sizeLine∧(a == sysModules) = false ∧
    ∃ xs,KT H kvs xs∧h.DictOfH (tupleKind (mixKind P w)) a xs:=by
  obtain ⟨z,y,xs,r,o,es,ep,h1,h2,h3,h4,h5⟩:=(show ObjOk P w H h a (.dT kvs) from rd_of ok e)
  refine ⟨z,y,xs,r,o,es,ep,h1,h2,h3,h4,fun x hx=>?_,h5⟩
  have all:∀ {l:List (List Key×V)} {m:List (List Key×Addr×Value)},KT H l m→∀ x∈m,(tupleKind (mixKind P w)).is h x.1 x.2.1:=by
    intro l m q
    induction q with
    | nil=>intro x hx; exact nomatch hx
    | @cons p q ps qs hq t ih =>
      intro x hx
      rcases List.mem_cons.mp hx with e | hx
      · subst e
        exact key_of ok (by rw [← hq.1]; exact hq.2.1)
      · exact ih x hx
  exact all r x hx
theorem dt_of {kvs:List (List Key×V)} (ok:HOk P w H h) (e:H a = some (.dT kvs)):kvs.length≤sizeLine∧(a == sysModules) = false ∧
    ∃ xs,KT H kvs xs∧h.DictOfH (tupleKind (mixKind P w)) a xs:=dt_rd ok (.inl e)
end
def DGet (H:Hp) (a:Addr) (y:V) (r:Option V):Prop :=
  (∃ kvs k,Rd H a (.dK kvs)∧y = kV k∧r = valV kvs k)∨∃ kvs k b,Rd H a (.dT kvs)∧y = .ref b∧H b = some (.tup (k.map kV))∧r = valV kvs k
def DPut (H:Hp) (a:Addr) (y v:V) (H':Hp):Prop :=
  (∃ kvs k,H a = some (.dK kvs)∧y = kV k∧kvs.length < sizeLine∧H' = upd H a (.dK (putK kvs k v))) ∨
  ∃ kvs k b,H a = some (.dT kvs)∧y = .ref b∧H b = some (.tup (k.map kV))∧kvs.length < sizeLine∧H' = upd H a (.dT (putK kvs k v))
theorem DGet.k {H:Hp} {a:Addr} {kvs:List (Key×V)} {k:Key} (e:H a = some (.dK kvs)):DGet H a (kV k) (valV kvs k):=.inl ⟨kvs,k,.inl e,rfl,rfl⟩
theorem DGet.t {H:Hp} {a b:Addr} {kvs:List (List Key×V)} {k:List Key} (e:H a = some (.dT kvs)) (eb:H b = some (.tup (k.map kV))):DGet H a (.ref b) (valV kvs k):=.inr ⟨kvs,k,b,.inl e,rfl,eb,rfl⟩
theorem DPut.k {H:Hp} {a:Addr} {kvs:List (Key×V)} {k:Key} {v:V} (e:H a = some (.dK kvs)) (hl:kvs.length < sizeLine):DPut H a (kV k) v (upd H a (.dK (putK kvs k v))):=.inl ⟨kvs,k,e,rfl,hl,rfl⟩
theorem DPut.t {H:Hp} {a b:Addr} {kvs:List (List Key×V)} {k:List Key} {v:V} (e:H a = some (.dT kvs)) (eb:H b = some (.tup (k.map kV))) (hl:kvs.length < sizeLine) :
    DPut H a (.ref b) v (upd H a (.dT (putK kvs k v))):=.inr ⟨kvs,k,b,e,rfl,eb,hl,rfl⟩
section
variable {X:Cx} {pins:List (Addr×Obj)} {σ:St} {H:Hp} {s:Shared} {a:Addr} {y v:V} {u r:Value} {o:Option V} {A:Around} {E:Value→Shared→Prop}
theorem Inv.big (I:Inv X pins σ H s):sysModules < s.heap.objs.size:=by
  have h:mainGlobals < s.heap.objs.size:=(I.mod.glob.keeps I.bk).lt
  exact Nat.lt_trans (by decide) h
theorem d_getItem {Q:Value→Shared→Prop} (hu:A.units + 1 < cLine) (I:Inv X pins σ H s) (g:DGet H a y (some v)) (ry:RelV y u) (h:∀ w' s',Inv X pins σ H s'→RelV v w'→Q w' s') :
    wpAny (model X.prog X.w) A (getItem (.ref a) u) Q E s:=by
  rcases g with ⟨kvs,k,e,ey,l⟩ | ⟨kvs,k,b,e,ey,eb,l⟩
  · subst ey
    obtain ⟨z,hd,vs,rel,dd⟩:=dk_rd I.hok e
    obtain ⟨w',hw,rw'⟩:=RelO.some_of (v:=v) (o:=valueAt vs k) (by rw [l]; exact rel.val k)
    exact wpAny_getItem_of (kV_is ry) dd.mapOf hw (h w' _ (I.tok _) rw')
  · subst ey
    cases (show u = Value.ref b from ry)
    obtain ⟨z,hd,xs,rel,dd⟩:=dt_rd I.hok e
    obtain ⟨w',hw,rw'⟩:=RelO.some_of (v:=v) (o:=(atKey xs k).map (·.2)) (by rw [l]; exact rel.val k)
    obtain ⟨p,hp,hp2⟩:=Option.map_eq_some_iff.mp hw
    refine wpAny_getItem_heap (tupleKind_room_in1 hu) (key_of I.hok eb) dd hp ?_
    rw [hp2]
    exact h w' _ (I.tok _) rw'
theorem d_in {Q:Value→Shared→Prop} (hu:A.units + 1 < cLine) (I:Inv X pins σ H s) (g:DGet H a y o) (ry:RelV y u) (h:∀ s',Inv X pins σ H s'→Q (.bool o.isSome) s') :
    wpAny (model X.prog X.w) A (compareOp .In u (.ref a)) Q E s:=by
  rcases g with ⟨kvs,k,e,ey,l⟩ | ⟨kvs,k,b,e,ey,eb,l⟩
  · subst ey
    obtain ⟨z,hd,vs,rel,dd⟩:=dk_rd I.hok e
    refine wpAny_in_of (kV_is ry) hd dd.mapOf ?_
    rw [← (rel.val k).isSome_eq,← l]
    exact h _ (I.tok _)
  · subst ey
    cases (show u = Value.ref b from ry)
    obtain ⟨z,hd,xs,rel,dd⟩:=dt_rd I.hok e
    refine wpAny_in_heap (tupleKind_room_in1 hu) (key_of I.hok eb) hd dd ?_
    have q:=(rel.val k).isSome_eq
    rw [Option.isSome_map] at q
    rw [← q,← l]
    exact h _ (I.tok _)
theorem d_notIn {Q:Value→Shared→Prop} (hu:A.units + 1 < cLine) (I:Inv X pins σ H s) (g:DGet H a y o) (ry:RelV y u) (h:∀ s',Inv X pins σ H s'→Q (.bool (!o.isSome)) s') :
    wpAny (model X.prog X.w) A (compareOp .NotIn u (.ref a)) Q E s:=by
  rcases g with ⟨kvs,k,e,ey,l⟩ | ⟨kvs,k,b,e,ey,eb,l⟩
  · subst ey
    obtain ⟨z,hd,vs,rel,dd⟩:=dk_rd I.hok e
    refine wpAny_notIn_of (kV_is ry) hd dd.mapOf ?_
    rw [← (rel.val k).isSome_eq,← l]
    exact h _ (I.tok _)
  · subst ey
    cases (show u = Value.ref b from ry)
    obtain ⟨z,hd,xs,rel,dd⟩:=dt_rd I.hok e
    refine wpAny_notIn_heap (tupleKind_room_in1 hu) (key_of I.hok eb) hd dd ?_
    have q:=(rel.val k).isSome_eq
    rw [Option.isSome_map] at q
    rw [← q,← l]
    exact h _ (I.tok _)
theorem d_write {h':Heap} {t':Nat} {ob:HO} (I:Inv X pins σ H s) (mu:Mut (H a)) (hs:Heap.SameBut a s.heap h') (he:∃ q,h'.get? a = some q) (new:ObjOk X.prog X.w (upd H a ob) h' a ob) :
    Inv X pins σ (upd H a ob) { s with heap:=h',toks:=t' } :=
  I.write (x:=a) (e:=a) mu (.inl rfl) (fun b q hb z=>(hs.2 b hb).trans z) he new
theorem dk_new {P:Program} {w:World} {H':Hp} {h':Heap} {kvs:List (Key×V)} {vs:List (Key×Value)} (z:kvs.length≤sizeLine) (hd:(a == sysModules) = false) (rel:KV kvs vs) (dd:h'.DictOf (mixKind P w) a vs) :
    ObjOk P w H' h' a (.dK kvs):=⟨z,hd,vs,rel,dd⟩
theorem d_setItem {H':Hp} {Q:Unit→Shared→Prop} (hu:A.units + 1 < cLine) (I:Inv X pins σ H s) (g:DPut H a y v H') (ry:RelV y u) (rv:RelV v r) (h:∀ s',Inv X pins σ H' s'→Q () s') :
    wpAny (model X.prog X.w) A (setItem (.ref a) u r) Q E s:=by
  rcases g with ⟨kvs,k,e,ey,l,eH⟩ | ⟨kvs,k,b,e,ey,eb,l,eH⟩
  · subst ey eH
    obtain ⟨z,hd,vs,rel,dd⟩:=dk_of I.hok e
    have hz:vs.length≤sizeLine:=by rw [← rel.length]; exact z
    have hl:(putK kvs k v).length≤sizeLine:=by have:=length_putK kvs k v; omega
    refine wpAny_setItem_pairs (hsz:=hz) (kV_is ry) dd fun h' dd' hs=>h _ ?_
    have he:∃ q,h'.get? a = some q:=let ⟨q,_,_,hq,_⟩:=dd'; ⟨q,hq⟩
    exact d_write I (by rw [e]; exact True.intro) hs he (dk_new hl hd (rel.put k rv) dd')
  · subst ey eH
    cases (show u = Value.ref b from ry)
    obtain ⟨z,hd,xs,rel,dd⟩:=dt_of I.hok e
    have hz:xs.length≤sizeLine:=by rw [← Paired.length rel]; exact z
    have hl:(putK kvs k v).length≤sizeLine:=by have:=length_putK kvs k v; omega
    refine wpAny_setItem_heap (hsz:=hz) (tupleKind_room_in1 hu) (key_of I.hok eb) dd fun h' dd' hs=>h _ ?_
    obtain ⟨q,es,ep,hq,h2,h3,h4,_,h5⟩:=dd'
    refine d_write I (by rw [e]; exact True.intro) hs ⟨q,hq⟩ ⟨hl,hd,_,(rel.put k eb rv).keeps fun c ys ec=>?_,q,es,ep,hq,h2,h3,h4,h5⟩
    rw [upd_ne (ne_of ec e (fun z=>nomatch z))]
    exact ec
end
section
variable {X:Cx} {pins:List (Addr×Obj)} {σ:St} {H:Hp} {s:Shared} {a:Addr} {kvs:List (Key×V)} {k:Key} {u:Value} {A:Around} {E:Value→Shared→Prop}
theorem d_len {Q:Value→Shared→Prop} (I:Inv X pins σ H s) (e:Rd H a (.dK kvs)) (h:∀ t s',Inv X pins σ H s'→Q (.int kvs.length t) s'):wpAny (model X.prog X.w) A (call (.builtin "len") [.ref a]) Q E s:=by
  obtain ⟨z,hd,vs,rel,dd⟩:=dk_rd I.hok e
  refine call_len_dict hd dd (by rw [← rel.length]; rw [sizeLine_eq] at z; omega) ?_
  rw [← rel.length]
  exact h _ _ (I.tok _)
end
def NoSl (i:Expr):Prop:=∀ ov iv,subscripted i false ov iv = operate [ov,iv] (getItem ov iv)
theorem subD_of {prog:Program} {w:World} {A:Around} {E:Value→Shared→Prop} {s:Shared} {env:Env} {value slice:Expr} {pos:Pos} {T id:String} {Q:Value→Shared→Prop}
    (hl:typeLookup (.type T) "__getitem__" = pure (some (.builtin id))) (hs:NoSl slice)
    (h:wpAny (model prog w) A (eval value env) (fun o s₁=>wpAny (model prog w) A (eval slice env) (fun i s₂=>s₂.TypeIs o T∧wpAny (model prog w) A (getItem o i) Q E s₂) E s₁) E s) :
    wpAny (model prog w) A (eval (.Subscript value slice pos) env) Q E s:=by
  refine Subscript_ (wpAny_mono h (fun o s₁ h₁=>wpAny_mono h₁ (fun i s₂ h₂=>?_) fun _ _ x=>x) fun _ _ x=>x)
  obtain ⟨hT,h₂⟩:=h₂
  unfold subscriptTail
  refine wpAny_bind ?_
  rw [getitemInPython_of_ne hT.not_modules]
  refine wpAny_bind (wpAny_specialOf hT hl ?_)
  have fin:wpAny (model prog w) A (subscripted slice false o i) (fun r s₃=>wpAny (model prog w) A (letTemporaryGo value o r >>= fun _=>pure r) Q E s₃) E s₂:=by
    rw [hs o i]
    exact wpAny_operating (wpAny_mono h₂ (fun r s₃ h₃=>wpAny_bind (wpAny_letTemporaryGo (wpAny_pure h₃))) fun _ _ x=>x)
  first
    | exact wpAny_pure (wpAny_bind fin)
    | exact wpAny_bind (wpAny_pure (wpAny_bind fin))
    | exact wpAny_bind fin
theorem dict_typeIs {X:Cx} {pins:List (Addr×Obj)} {σ:St} {H:Hp} {s:Shared} {a:Addr} {y:V} {o:Option V} (I:Inv X pins σ H s) (g:DGet H a y o):s.TypeIs (.ref a) "dict" := by
  rcases g with ⟨kvs,k,e,_,_⟩ | ⟨kvs,k,b,e,_,_,_⟩
  · obtain ⟨_,_,vs,_,dd⟩:=dk_rd I.hok e
    exact dd.typeIs
  · obtain ⟨_,_,xs,_,dd⟩:=dt_rd I.hok e
    exact dd.typeIs
def tDGet (td ty:TE):TE:=fun σ H Q=>td σ H fun x H1=>ty σ H1 fun y H2=>∃ a v,x = .ref a∧DGet H2 a y (some v)∧Q v H2
def tDIn (ty td:TE):TE:=fun σ H Q=>ty σ H fun y H1=>td σ H1 fun x H2=>∃ a o,x = .ref a∧DGet H2 a y o∧Q (.bl o.isSome) H2
def tDNotIn (ty td:TE):TE:=fun σ H Q=>ty σ H fun y H1=>td σ H1 fun x H2=>∃ a o,x = .ref a∧DGet H2 a y o∧Q (.bl (!o.isSome)) H2
def sDPut (td ty tv:TE):TS:=fun D σ H=>tv σ H fun v H1=>td σ H1 fun x H2=>ty σ H2 fun y H3=>∃ a H4,x = .ref a∧DPut H3 a y v H4∧D.nx σ H4
section
variable {X:Cx} {o i e value:Expr} {pos pos' tpos:Pos} {td ty tv:TE}
theorem pe_dget (hu:X.A.units + 1 < cLine) (ho:PE X o td) (hi:PE X i ty) (hs:NoSl i):PE X (.Subscript o i pos) (tDGet td ty):=by
  intro pins s σ H Q I h
  refine subD_of PySem.F.slot_dict_getitem.lookup hs (thn (ho pins s σ H _ I h) fun u s1 ⟨x,H1,I1,rx,q1⟩=>thn (hi pins s1 σ H1 _ I1 q1) fun iv s2 ⟨y,H2,I2,ry,a,v,ex,g,q2⟩=>?_)
  subst ex
  obtain rfl:u = Value.ref a:=rx
  exact ⟨dict_typeIs I2 g,d_getItem hu I2 g ry fun w' s3 I3 rw'=>⟨v,H2,I3,rw',q2⟩⟩
theorem pc_din (hu:X.A.units + 1 < cLine) (hi:PE X i ty) (ho:PE X o td):PC X .In i o (tDIn ty td):=by
  intro pins s σ H Q I h
  refine thn (hi pins s σ H _ I h) fun iv s1 ⟨y,H1,I1,ry,q1⟩=>thn (ho pins s1 σ H1 _ I1 q1) fun u s2 ⟨x,H2,I2,rx,a,ov,ex,g,q2⟩=>?_
  subst ex
  obtain rfl:u = Value.ref a:=rx
  exact d_in hu I2 g ry fun s3 I3=>⟨.bl ov.isSome,H2,I3,rfl,q2⟩
theorem pc_dnotin (hu:X.A.units + 1 < cLine) (hi:PE X i ty) (ho:PE X o td):PC X .NotIn i o (tDNotIn ty td):=by
  intro pins s σ H Q I h
  refine thn (hi pins s σ H _ I h) fun iv s1 ⟨y,H1,I1,ry,q1⟩=>thn (ho pins s1 σ H1 _ I1 q1) fun u s2 ⟨x,H2,I2,rx,a,ov,ex,g,q2⟩=>?_
  subst ex
  obtain rfl:u = Value.ref a:=rx
  exact d_notIn hu I2 g ry fun s3 I3=>⟨.bl (!ov.isSome),H2,I3,rfl,q2⟩
theorem ps_dput (hu:X.A.units + 1 < cLine) (ho:PE X o td) (hi:PE X i ty) (hv:PE X value tv) (hs:swapsWith value (some (.Subscript o i pos')) pos.line X.env = pure false) :
    PS X (.Assign [.Subscript o i pos'] value pos) (sDPut td ty tv):=by
  intro pins s σ H D I h
  refine wpAny_Assign_Subscript (thn (hv pins s σ H _ I h) fun r s1 ⟨v,H1,I1,rv,q1⟩=>thn (ho pins s1 σ H1 _ I1 q1) fun u s2 ⟨x,H2,I2,rx,q2⟩=>thn (hi pins s2 σ H2 _ I2 q2) fun iv s3 ⟨y,H3,I3,ry,a,H4,ex,g,q3⟩=>?_) hs
  subst ex
  obtain rfl:u = Value.ref a:=rx
  exact d_setItem hu I3 g ry rv fun s4 I4=>⟨σ,H4,I4,q3⟩
end
theorem dt_empty {P:Program} {w:World} {H:Hp} (h:Heap) (hb:sysModules < h.objs.size):ObjOk P w H (h.push { cls:=.type "dict",data:=.dict #[] }) h.objs.size (.dT []) :=
  ⟨Nat.zero_le _,beq_eq_false_iff_ne.mpr (Ne.symm (Nat.ne_of_lt hb)),[],.nil,_,#[],0,Heap.get?_push_size _ rfl,⟨rfl,rfl,rfl⟩,rfl,rfl,List.nodup_nil⟩
def tDNewT:TE:=fun _ H Q=>∀ p,H p = none→Q (.ref p) (upd H p (.dT []))
section
variable {X:Cx} {pos:Pos}
theorem pe_dnewT:PE X (.Dict [] [] pos) tDNewT:=fun pins s σ H Q I h =>
  wpAny_Dict_empty ⟨.ref s.heap.objs.size,_,I.laid (a:=s.heap.objs.size) (o:=.dT []) (t':=s.toks) (fun _ _ q=>Heap.get?_push_of_some _ q) (Nat.le_refl _) (dt_empty s.heap I.big),rfl,h _ (I.hok.fresh (Nat.le_refl _))⟩
end
structure M1 (X:Cx) (o:Expr) (m:Str) (apos:Pos) (e:Expr) (cpos:Pos):Prop where
  base:attributeBase o m X.env (eval o X.env) = eval o X.env
  few:((backTo cpos (starEach [e] X.env)).all (fun x=>!x.1) && (backToKw cpos (keywordEach [] X.env)).all (fun x=>x.1.isSome)
    && decide (([e]:List Expr).length + ([]:List Keyword).length + (if ([]:List Keyword).isEmpty then 0 else 1) < 30)) = true
  line:(apos.endLine == cpos.line) = true
  trees:backTo cpos (starEach [e] X.env) = [(false,eval e X.env)]
structure M2 (X:Cx) (o:Expr) (m:Str) (apos:Pos) (e f:Expr) (cpos:Pos):Prop where
  base:attributeBase o m X.env (eval o X.env) = eval o X.env
  few:((backTo cpos (starEach [e,f] X.env)).all (fun x=>!x.1) && (backToKw cpos (keywordEach [] X.env)).all (fun x=>x.1.isSome)
    && decide (([e,f]:List Expr).length + ([]:List Keyword).length + (if ([]:List Keyword).isEmpty then 0 else 1) < 30)) = true
  line:(apos.endLine == cpos.line) = true
  trees:backTo cpos (starEach [e,f] X.env) = [(false,eval e X.env),(false,eval f X.env)]
section
variable {X:Cx} {pins:List (Addr×Obj)} {σ:St} {H:Hp} {s:Shared} {a:Addr} {y d:V} {u r:Value} {o:Option V} {A:Around} {E:Value→Shared→Prop}
end
section
variable {X:Cx} {o e f:Expr} {apos cpos:Pos} {td ty tx:TE}
end
section
variable {X:Cx} {pins:List (Addr×Obj)} {σ:St} {H:Hp} {s:Shared} {a:Addr} {kvs:List (Key×V)} {A:Around} {E:Value→Shared→Prop}
end
section
variable {X:Cx} {pins:List (Addr×Obj)} {σ:St} {H:Hp} {s:Shared} {a:Addr} {y:V} {u:Value} {A:Around} {E:Value→Shared→Prop}
end
end L2
namespace L2
open PySem PySem.Spec PyProof.Rows
section
variable {X:Cx}
theorem call_lenD:CallR X (.builtin "len") (fun xs H Q=>∃ a kvs,xs = [V.ref a]∧H a = some (.dK kvs)∧Q (.int kvs.length) H):=by
  intro pins s σ H xs us Q I r h
  obtain ⟨a,kvs,rfl,ha,q⟩:=h
  obtain ⟨u,rfl,ru⟩:=vals1 r
  cases ru
  exact d_len I (.inl ha) fun t s' I'=>⟨.int kvs.length,H,I',⟨t,rfl⟩,q⟩
end
section
variable {κ:Type} [DecidableEq κ]
end
end L2
namespace L2
open PySem PySem.Spec PyProof.Rows
section
variable {prog:Program} {w:World} {A:Around} {E:Value→Shared→Prop} {s:Shared} {κ:Type} [DecidableEq κ] {knd:KeyKind prog w κ}
theorem extend_dict {R:Result→Shared→Prop} {d:Addr} {kvs:List (κ×Value)} {ep:Nat} (hh:A.handled = none) (hd:(d == sysModules) = false) (hm:s.heap.DictAt knd d kvs ep) (hlen:kvs.length≤sizeLine)
    (S:Addr) (hSd:S≠d) (res:Value) (c₀:Nat) (hS:s.heap.get? S = some { cls:=.type "list",data:=.seq #[] c₀ })
    (hR:∀ h' tk acc' c',(∀ b o,b≠S→s.heap.get? b = some o→h'.get? b = some o)→h'.get? S = some { cls:=.type "list",dict:=none,data:=.seq acc' c',slots:=#[] } →
      ItemsOf (fun i v=>∃ k x,kvs[i]? = some (k,x)∧knd.is k v = true) acc' kvs.length→R (.ok (.ret res)) { s with heap:=h',toks:=tk }) :
    wpAny (model prog w) A.in1 (Builtin.List.listExtendWith (.ref S) (.ref d) res)
      (fun fin s'=>match fin with | .done f=>R (.ok f) s' | .again c'=>c'.quiet = true∧codeAny (model prog w) A c' R s') (fun e s'=>R (.error e) s') s:=by
  have hSlt:S < s.heap.objs.size:=Heap.lt_size hS
  have hdlt:d < s.heap.objs.size:=hm.lt_size
  have hSI:S≠s.heap.objs.size:=Nat.ne_of_lt hSlt
  have hSf:S∉[s.heap.objs.size,d]:=fun hmm=>by
    rcases List.mem_cons.mp hmm with e | e
    · exact hSI e
    · exact hSd (List.mem_singleton.mp e)
  have W:=(Walks.dictKeys (prog:=prog) (w:=w) (A:=A.in1) (knd:=knd) hh s.heap.objs.size d (Nat.ne_of_lt hdlt) kvs ep).toS
  have hT:s.TypeIs (.ref d) "dict" := hm.dictOf.typeIs
  unfold Builtin.List.listExtendWith
  refine wpAny_bind (wpAny_typeOf (T := "dict") hT ?_)
  have h1:Builtin.List.listSameRef (.ref S) (.ref d) = false:=by simp [Builtin.List.listSameRef,hSd]
  have h2:(Value.type "dict" == Value.type "list") = false:=by decide
  have h3:(Value.type "dict" == Value.type "tuple") = false:=by decide
  simp only [h1,h2,h3,Bool.or_false,Bool.false_eq_true,if_false]
  refine wpAny_bind (wpAny_pyIter_dict hd hm ?_)
  refine wpAny_bind (wpAny_holding ?_)
  have hm1:=hm.push { cls:=.type "dict_keyiterator",data:=.fields #[.ref d,.int 0 0,.int kvs.length 0,.int ep 0] }
  have hT1:Shared.TypeIs { s with heap:=s.heap.push { cls:=.type "dict_keyiterator",data:=.fields #[.ref d,.int 0 0,.int kvs.length 0,.int ep 0] } } (.ref d) "dict" := Heap.DictOf.typeIs (s:={ s with heap:=s.heap.push { cls:=.type "dict_keyiterator",data:=.fields #[.ref d,.int 0 0,.int kvs.length 0,.int ep 0] } }) hm1.dictOf
  unfold Builtin.List.listLengthHint
  refine wpAny_bind (wpAny_specialOf (T := "dict") hT1 F.slot_dict_len.lookup ?_)
  generalize hid:("dict.__len__" : String) = id0
  wp_delta
  rw [show splitId id0 = some ("dict","__len__") from by subst hid; decide +kernel]
  subst hid
  refine wpAny_bind (wpAny_isInstance (T := "dict") (b:=true) hT1 (by rw [isSubtype_type]; kernel_rfl) ?_)
  refine wpAny_ite_split (fun hab=>absurd hab (by decide)) (fun _=>?_)
  refine wpAny_ite_split (fun _=>?_) (fun hab=>absurd (by decide +kernel) hab)
  refine wpAny_bind (wpAny_typeOf (T := "dict") hT1 ?_)
  refine wpAny_pure ?_
  rw [if_pos (by decide +kernel)]
  have hS₁:=Heap.get?_push_of_some { cls:=.type "dict_keyiterator",data:=.fields #[.ref d,.int 0 0,.int kvs.length 0,.int ep 0] } hS
  have it₁:(s.heap.push { cls:=.type "dict_keyiterator",data:=.fields #[.ref d,.int 0 0,.int kvs.length 0,.int ep 0] }).get? s.heap.objs.size = some _:=Heap.get?_push_size _ rfl
  refine wpAny_bind (wpAny_rule ?_)
  refine wpAny_bind ?_
  show wpAny _ _ (updateSeq S (·.push .none) >>= fun _=>updateSeq S (·.pop)) _ _ _
  refine wpAny_bind (wpAny_updateSeq hS₁ rfl ?_)
  have hS₂:=Heap.get?_update_self (Obj.mapSeq (·.push Value.none)) hS₁ rfl
  refine wpAny_updateSeq (hz:=by seq_fits) hS₂ rfl ?_
  have hS₃:=Heap.get?_update_self (Obj.mapSeq (·.pop)) hS₂ rfl
  have up:∀ b o,b≠S→(s.heap.push { cls:=.type "dict_keyiterator",data:=.fields #[.ref d,.int 0 0,.int kvs.length 0,.int ep 0] }).get? b = some o→(((s.heap.push { cls:=.type "dict_keyiterator",data:=.fields #[.ref d,.int 0 0,.int kvs.length 0,.int ep 0] }).update S (Obj.mapSeq (·.push Value.none))).update S (Obj.mapSeq (·.pop))).get? b = some o :=
    fun b o hb e=>(Heap.get?_update_other _ _ (Ne.symm hb)).trans ((Heap.get?_update_other _ _ (Ne.symm hb)).trans e)
  refine wpAny_pure ⟨plainId_quiet F.plain_extend_loop _,codeAny_extend_loopS W hlen _ hSf _ kvs.length 0 _ _ _ rfl (Nat.zero_le _) ⟨⟨_,up _ _ (Ne.symm hSI) it₁,rfl,rfl⟩,hm1.at' fun o e=>up d o (Ne.symm hSd) e⟩ hS₃ (ItemsOf.nil _) fun s' acc' c' hmv hS' hacc=>?_⟩
  rw [Moved.eq_with hmv]
  refine hR s'.heap s'.toks acc' c' (fun b ob hb e=>hmv.heap b ob (fun hmem=>?_) (up b ob hb (Heap.get?_push_of_some _ e))) hS' hacc
  rcases List.mem_cons.mp hmem with e' | hmem
  · exact hb e'
  · exact absurd (Heap.lt_size e) (by rw [List.mem_singleton.mp hmem]; exact Nat.lt_irrefl _)
theorem init_dict {R:Result→Shared→Prop} {d:Addr} {kvs:List (κ×Value)} {ep:Nat} (hh:A.handled = none) (hd:(d == sysModules) = false) (hm:s.heap.DictAt knd d kvs ep) (hlen:kvs.length≤sizeLine)
    (S:Addr) (hSd:S≠d) (hS:s.heap.get? S = some { cls:=.type "list",data:=.seq #[] })
    (hR:∀ h' tk acc' c',(∀ b o,b≠S→s.heap.get? b = some o→h'.get? b = some o)→h'.get? S = some { cls:=.type "list",dict:=none,data:=.seq acc' c',slots:=#[] } →
      ItemsOf (fun i v=>∃ k x,kvs[i]? = some (k,x)∧knd.is k v = true) acc' kvs.length→R (.ok (.ret .none)) { s with heap:=h',toks:=tk }) :
    wpAny (model prog w) A.in1 (Builtin.«list.__init__» ⟨[.ref S,.ref d],[]⟩)
      (fun fin s'=>match fin with | .done f=>R (.ok f) s' | .again c'=>c'.quiet = true∧codeAny (model prog w) A c' R s') (fun e s'=>R (.error e) s') s:=by
  show wpAny _ _ (do let old ← Builtin.List.listItems (.ref S); Builtin.List.listUpdate (.ref S) (fun _=>#[]); letGo old.toList.reverse; Builtin.List.listExtendWith (.ref S) (.ref d) .none) _ _ s
  refine wpAny_bind ?_
  unfold Builtin.List.listItems
  refine wpAny_bind (wpAny_seqItems hS rfl (wpAny_pure ?_))
  show wpAny _ _ (updateSeq S (fun _=>#[]) >>= fun _=>letGo (#[]:Array Value).toList.reverse >>= fun _=>Builtin.List.listExtendWith (.ref S) (.ref d) .none) _ _ s
  refine wpAny_bind (wpAny_updateSeq hS rfl ?_)
  have hS₂:=Heap.get?_update_self (Obj.mapSeq (fun _=>(#[]:Array Value))) hS rfl
  have oth:∀ b o,b≠S→s.heap.get? b = some o→(s.heap.update S (Obj.mapSeq (fun _=>(#[]:Array Value)))).get? b = some o :=
    fun b o hb e=>(Heap.get?_update_other _ _ (Ne.symm hb)).trans e
  refine wpAny_bind (wpAny_letGo ?_)
  refine extend_dict (s:={ s with heap:=s.heap.update S (Obj.mapSeq (fun _=>(#[]:Array Value))) }) hh hd (hm.at' fun o e=>oth d o (Ne.symm hSd) e) hlen S hSd .none _ hS₂ fun h' tk acc' c' hk hS' hacc=>?_
  exact hR h' tk acc' c' (fun b o hb e=>hk b o hb (oth b o hb e)) hS' hacc
theorem callLD {d:Addr} {kvs:List (κ×Value)} {ep:Nat} {Q:Value→Shared→Prop} (hh:A.handled = none) (hd:(d == sysModules) = false) (hm:s.heap.DictAt knd d kvs ep) (hlen:kvs.length≤sizeLine)
    (hQ:∀ h' tk acc' c',(∀ b o,s.heap.get? b = some o→h'.get? b = some o) →
      h'.get? s.heap.objs.size = some { cls:=.type "list",dict:=none,data:=.seq acc' c',slots:=#[] }→ItemsOf (fun i v=>∃ k x,kvs[i]? = some (k,x)∧knd.is k v = true) acc' kvs.length→Q (.ref s.heap.objs.size) { s with heap:=h',toks:=tk }) :
    wpAny (model prog w) A (call (.type "list") [.ref d]) Q E s:=by
  refine callType_codes (Q₁:=fun obj s₁=>obj = .ref s.heap.objs.size∧s₁ = { s with heap:=s.heap.push { cls:=.type "list",data:=.seq #[] } }) F.called_list (F.typeCall_list_1 _) F.entry_list_init
    (code_list_new _ ⟨rfl,rfl⟩) fun obj s₁ h₁=>?_
  obtain ⟨rfl,rfl⟩:=h₁
  have hS:(s.heap.push { cls:=.type "list",data:=.seq #[] }).get? s.heap.objs.size = some { cls:=.type "list",data:=.seq #[] }:=Heap.get?_push_size _ rfl
  refine ⟨⟨_,hS,rfl⟩,F.args_list_init_2 _ _,init_dict (s:={ s with heap:=s.heap.push { cls:=.type "list",data:=.seq #[] } }) (A:=A.in1) hh hd (hm.push _) hlen _ (Nat.ne_of_gt hm.lt_size) hS fun h' tk acc' c' hk hS' hacc=>?_⟩
  exact ⟨rfl,hQ h' tk acc' c' (fun b o e=>hk b o (Nat.ne_of_lt (Heap.lt_size e)) (Heap.get?_push_of_some _ e)) hS' hacc⟩
end
section
variable {X:Cx}
theorem keys_vals:∀ {kvs:List (Key×V)} {vs:List (Key×Value)} {acc:List Value},KV kvs vs→acc.length = vs.length→(∀ (j:Nat) (v:Value),acc[j]? = some v→∃ (k:Key) (x:Value),vs[j]? = some (k,x)∧(mixKind X.prog X.w).is k v = true)→Vals (kvs.map fun kv=>kV kv.1) acc
  | _,_,[],.nil,_,_=>.nil
  | _,_,[],.cons _ _,e,_=>by cases e
  | _,_,_ :: _,.nil,e,_=>by cases e
  | (k0,_) :: _,(k1,_) :: _,u :: us,.cons r t,e,h=>by
    obtain ⟨rk,_⟩:=r
    obtain ⟨k,x,e0,i0⟩:=h 0 u rfl
    cases e0
    refine .cons ?_ (keys_vals t (Nat.succ.inj e) fun j v q=>h (j + 1) v q)
    have rk':k0 = k1:=rk
    subst rk'
    cases k0 with
    | inl i=>exact Value.isInt_shape i0
    | inr z=>exact Value.isStrOf_shape i0
theorem call_list_dict (hc:X.calm = true):CallR X (.type "list") (fun xs H Q=>∃ d kvs,xs = [.ref d]∧H d = some (.dK kvs)∧∀ l,H l = none→Q (.ref l) (upd H l (.lst (kvs.map fun kv=>kV kv.1)))):=by
  intro pins s σ H xs us Q I r h
  obtain ⟨d,kvs,rfl,hd,q⟩:=h
  obtain ⟨u,rfl,rx⟩:=vals1 r
  cases rx
  obtain ⟨hl,hs,vs,kv,hD⟩:=I.hok d _ hd
  obtain ⟨ep,hA⟩:=hD.dictAt
  have hlen:vs.length = kvs.length:=(Paired.length kv).symm
  refine callLD (I.ok.hd hc) hs hA (by omega) fun h' tk acc' c' kp e hacc=>?_
  obtain ⟨acc⟩:=acc'
  refine ⟨.ref s.heap.objs.size,_,I.laid (t':=tk) kp (Nat.le_refl _) (show ObjOk X.prog X.w _ h' _ (.lst (kvs.map fun kv=>kV kv.1)) from ⟨by rw [List.length_map]; exact hl,acc,c',keys_vals (X:=X) kv (by simpa using hacc.1) (fun j v q=>hacc.2 j v (by simpa using q)),e⟩),rfl,q _ (I.hok.fresh (Nat.le_refl _))⟩
end
end L2
namespace K1
open PySem L2
def wo (H:Hp) (l:Addr):Hp:=fun a=>if a = l then none else H a
theorem wo_ne {H:Hp} {l a:Addr} (h:a≠l):wo H l a = H a:=if_neg h
theorem wo_same {H:Hp} {l:Addr}:Same (wo H l) H:=fun a o e=>by
  by_cases h:a = l
  · rw [wo,if_pos h] at e; cases e
  · rw [wo_ne h] at e; exact e
theorem wo_of {H:Hp} {l a:Addr} {o:HO} (e:wo H l a = some o):a≠l∧H a = some o:=by
  by_cases h:a = l
  · rw [wo,if_pos h] at e; cases e
  · rw [wo_ne h] at e; exact ⟨h,e⟩
theorem wo_mono {H H':Hp} {l:Addr} (s:Same H H'):Same (wo H l) (wo H' l):=fun a o e=>by
  obtain ⟨h,e⟩:=wo_of e
  rw [wo_ne h]; exact s _ _ e
theorem wo_upd {H:Hp} {l:Addr} {o:HO}:wo (upd H l o) l = wo H l:=by
  funext a
  by_cases h:a = l
  · rw [wo,wo,if_pos h,if_pos h]
  · rw [wo_ne h,wo_ne h,upd_ne h]
theorem wo_at {H:Hp} {l a:Addr} {o:HO} (e:H a = some o) (h:a≠l):wo H l a = some o:=by rw [wo_ne h]; exact e
theorem same_put {H0 H:Hp} {l:Addr} (s:Same H0 H) (n:H0 l = none) (o:HO):Same H0 (upd H l o):=fun a u e=>by
  rw [upd_ne (ne_of_none e n)]; exact s _ _ e
theorem same_wo {H0 H:Hp} {l:Addr} (s:Same H0 H) (n:H0 l = none):Same H0 (wo H l):=fun a u e=>by
  rw [wo_ne (ne_of_none e n)]; exact s _ _ e
inductive Al {β α:Type} (R:β→α→Prop):List β→List α→Prop where
  | nil:Al R [] []
  | cons {v:β} {x:α} {vs:List β} {xs:List α}:R v x→Al R vs xs→Al R (v :: vs) (x :: xs)
section
variable {β α:Type} {R R':β→α→Prop}
theorem Al.length {vs:List β} {xs:List α} (h:Al R vs xs):vs.length = xs.length:=by
  induction h with
  | nil=>rfl
  | cons _ _ ih=>rw [List.length_cons,List.length_cons,ih]
theorem Al.imp {vs:List β} {xs:List α} (h:Al R vs xs) (f:∀ v x,R v x→R' v x):Al R' vs xs:=by
  induction h with
  | nil=>exact .nil
  | cons a _ ih=>exact .cons (f _ _ a) ih
theorem Al.app {vs us:List β} {xs ys:List α} (h:Al R vs xs) (g:Al R us ys):Al R (vs ++ us) (xs ++ ys):=by
  induction h with
  | nil=>exact g
  | cons a _ ih=>exact .cons a ih
theorem Al.snoc {vs:List β} {xs:List α} {v:β} {x:α} (h:Al R vs xs) (g:R v x):Al R (vs ++ [v]) (xs ++ [x]):=h.app (.cons g .nil)
theorem Al.get {vs:List β} {xs:List α} (h:Al R vs xs):∀ {i:Nat} {v:β},vs[i]? = some v→∃ x,xs[i]? = some x∧R v x:=by
  induction h with
  | nil=>intro i v e; cases e
  | cons a _ ih =>
    intro i v e
    cases i with
    | zero=>cases e; exact ⟨_,rfl,a⟩
    | succ i=>exact ih e
theorem Al.take {vs:List β} {xs:List α} (h:Al R vs xs):∀ n,Al R (vs.take n) (xs.take n):=by
  induction h with
  | nil=>intro n; rw [List.take_nil,List.take_nil]; exact .nil
  | cons a _ ih =>
    intro n
    cases n with
    | zero=>exact .nil
    | succ n=>exact .cons a (ih n)
theorem Al.drop {vs:List β} {xs:List α} (h:Al R vs xs):∀ n,Al R (vs.drop n) (xs.drop n):=by
  induction h with
  | nil=>intro n; rw [List.drop_nil,List.drop_nil]; exact .nil
  | cons a b ih =>
    intro n
    cases n with
    | zero=>exact .cons a b
    | succ n=>exact ih n
theorem Al.nil_iff {vs:List β} {xs:List α} (h:Al R vs xs):vs = []↔xs = []:=by
  have:=h.length
  constructor
  · intro e; rw [e] at this; exact List.eq_nil_of_length_eq_zero this.symm
  · intro e; rw [e] at this; exact List.eq_nil_of_length_eq_zero this
end
def NameOk (z:Str):Prop:=1≤z.length∧z.length≤8∧(∀ c∈z.cps.toList,97≤c∧c≤122)∧z≠Str.ofString "nowhere"
theorem _root_.L2.Same.seqT {K:PySem.W.Frag} {H H':Hp} {a:Addr} {xs:List V} (e:Same H H') (h:SqT K H a xs):SqT K H' a xs:=by
  rcases h with (h | ⟨o,h⟩) | h
  · exact .inl (.inl (e _ _ h))
  · exact .inl (.inr ⟨o,e _ _ h⟩)
  · exact .inr h
theorem bitAnd_nat (a b:Nat):Builtin.bitAnd (a:Int) (b:Int) = ((a &&& b:Nat):Int):=by
  unfold Builtin.bitAnd
  rw [decide_eq_true (show (0:Int)≤(a:Int) by omega),decide_eq_true (show (0:Int)≤(b:Int) by omega)]
  rfl
theorem bitNot_bitNot (x:Int):Builtin.bitNot (Builtin.bitNot x) = x:=by
  unfold Builtin.bitNot; omega
theorem bitOr_nat (a b:Nat):Builtin.bitOr (a:Int) (b:Int) = ((a ||| b:Nat):Int):=by
  unfold Builtin.bitOr Builtin.bitAnd
  rw [decide_eq_false (show ¬ (0:Int)≤Builtin.bitNot (a:Int) by unfold Builtin.bitNot; omega),decide_eq_false (show ¬ (0:Int)≤Builtin.bitNot (b:Int) by unfold Builtin.bitNot; omega)]
  show Builtin.bitNot (Builtin.bitNot _) = _
  rw [bitNot_bitNot,bitNot_bitNot,bitNot_bitNot]
  rfl
end K1
namespace L2
open PySem PySem.Spec PyProof.Rows
section
variable {X:Cx} {a b:Expr} {rest:List Expr} {ta tb:TE} {pos:Pos}
end
end L2
namespace L2
open PySem PySem.Spec PyProof.Rows K1
section
variable {prog:Program} {w:World} {A:Around} {E:Value→Shared→Prop} {s:Shared}
namespace F
end F
variable {κ:Type} [DecidableEq κ] {knd:KeyKind prog w κ}
end
section
variable {X:Cx}
end
end L2
namespace L2
open PySem PySem.Spec PyProof.Rows
theorem lam_run {P:Program} {w:World} {K:PySem.W.Frag} {mg:Str→Option Value} {base:Heap} {k:Nat} {f c':Addr} {name qual:Str} {params:Arguments} {body:Expr} {scope:Scope} {pm ctv:Value} {N ps:List Str} (S:FnScope N ps scope)
    {A:Around} {outer:List Env} {s:Shared} {H:Hp} {us:List Value} {vs:List V} {Q:VK} {E:XK} {te:TE}
    (hr:Room (k + 1) A) (e0:Env0 P w K mg base A outer s H) (ho:s.heap.get? f = some (PySem.W.kla_obj name qual params body scope [] pm c' ctv)) (hc:s.heap.CodeRec (.ref c') qual)
    (hb:bindArgs (PySem.W.kla_fn name qual params body scope [] pm (.ref c') ctv) ⟨us,[]⟩ = pure (ps.zip us)) (r:Vals vs us) (hl:vs.length = ps.length)
    (he:PE (cxOf CX0 P w K mg base N qual scope f (.ref c') A outer s H E) body te) (hq:te (start N vs) H Q) :
    codeAny (model P w) A (.call (.ref f) ⟨us,[]⟩) (CR CX0 outer P w H s Q E) s:=by
  have lim:s.heap.NoLimit:=e0.mod.nolimit.keeps fun b o e=>(e0.bs b o e).1
  have hkind:∀ y∈ps.zip us,scope.names.lookup y.1 = some .local∨(scope.names.lookup y.1 = some .cell∧((cellsFrom (s.heap.objs.size + 1) scope.names []).lookup y.1).isSome = true):=fun ⟨n,v⟩ hy=>by
    rcases S.par n (List.of_mem_zip hy).1 with q | q
    · exact .inl q
    · exact .inr ⟨q,PySem.W.cellsFrom_some _ _ _ (.inl q)⟩
  refine PySem.W.kla_callFunE hr.depth ho rfl S.co S.gen rfl hc ?_
  rw [hb]
  refine wpAny_pure ?_
  refine wpAny_newFunctionEnv_cells S.kind hkind fun env he' s1 x=>?_
  subst he'
  refine ⟨lim.keeps x.toInCall.keep,PySem.W.kla_codeExpr ?_⟩
  have I:Inv (cxOf CX0 P w K mg base N qual scope f (.ref c') A outer s H E) [] (start N vs) H s1:=inv_start S hr.hd e0 hl r x
  refine wpAny_mono (he [] s1 (start N vs) H _ I hq) (fun u s' hs=>?_) fun e s' hs=>hs
  obtain ⟨v,H',J,rv,q⟩:=hs
  exact ⟨v,H',J.os,J.bare,J.base,J.hok,rv,q⟩
theorem Inv.one {X:Cx} {pins:List (Addr×Obj)} {σ:St} {H:Hp} {s:Shared} {h':Heap} {t':Nat} {b:Addr} (I:Inv X pins σ H s) (hf:FpOk X pins H b) (k:∀ c o,c≠b→s.heap.get? c = some o→h'.get? c = some o):Inv X pins σ H { s with heap:=h',toks:=t' } :=
  I.turned (t':=t') k hf.1 hf.2.1 hf.2.2.2.1 hf.2.2.2.2.1 hf.2.2.2.2.2
theorem minkey_loop {X:Cx} {pins:List (Addr×Obj)} {σ:St} {H:Hp} {xs:List V} {p f:Addr} (kf:Nat→Int) (hc:X.calm = true) (hq:SqL X.K H p xs) {I S:Addr} (hSI:S≠I) (hpI:p≠I) (fI:FpOk X pins H I) (fS:FpOk X pins H S)
    (turn:∀ (i:Nat) (v:V),xs[i]? = some v→∀ (u:Value) (pins':List (Addr×Obj)) (s':Shared),RelV v u→Inv X pins' σ H s'→wpAny (model X.prog X.w) X.A.in1 (call (.ref f) [u]) (EP X pins' σ fun r H'=>r = .int (kf i)∧H' = H) (fun _ _=>False) s')
    {R:Result→Shared→Prop} (hR:∀ (i:Nat) (v:V) (u:Value) (s':Shared),xs[i]? = some v→RelV v u→(∀ j,j < xs.length→kf i≤kf j∧(j < i→kf i < kf j))→Inv X pins σ H s'→R (.ok (.ret u)) s') :
    ∀ (r j i:Nat) (s:Shared) (vb:V) (ub:Value) (tb:Tok) (c:Nat),xs.length - (j + 1) = r→j + 1≤xs.length→Inv X pins σ H s→s.heap.get? S = some (seqObj "list" #[ub,.int (kf i) tb] c)→s.heap.IsListIter I p (j + 1)→xs[i]? = some vb→RelV vb ub→i≤j →
      (∀ j',j'≤j→kf i≤kf j'∧(j' < i→kf i < kf j'))→codeAny (model X.prog X.w) X.A (.builtin "min.loop" ⟨[.ref I,.ref f,.ref S],[]⟩) R s:=by
  have hname:(toString "min" ++ toString ".loop" : String) = "min.loop" := by decide
  intro r
  induction r with
  | zero =>
    intro j i s vb ub tb c hr hj Iv hS hit hvb rvb hij hbest
    obtain ⟨its,rv,pl,hz⟩:=Iv.list hq
    have hlen:=rv.length
    have hsz:its.toArray.size = xs.length:=by rw [List.size_toArray,hlen]
    have W:=Walks.list (prog:=X.prog) (w:=X.w) (A:=X.A.in1) (Iv.ok.hd hc) I p hpI its.toArray
    refine codeAny_builtin PySem.F.entry_min_loop ?_
    rw [Around.under_plainId PySem.F.plain_min_loop _]
    show wpAny _ _ (seqItems? (.ref S) >>= _) _ _ _
    refine wpAny_bind (wpAny_seqItems hS rfl ?_)
    show wpAny _ _ (tryCatch (pyNext (.ref I)) _ >>= _) _ _ _
    refine wpAny_bind (wpAny_tryCatch (W.done _ _ _ ⟨by rw [hsz,show xs.length = j + 1 by omega]; exact hit,pl.isList⟩ fun h' tk' hk'=>?_))
    have I1:Inv X pins σ H { s with heap:=h',toks:=tk' }:=Iv.one fI fun c o hc e=>hk' c o (by simpa using hc) e
    have hS':=hk' S _ (by simpa using hSI) hS
    have s1:=Heap.SameBut.update h' S (Obj.mapSeq fun _=>(#[]:Array Value))
    show wpAny _ _ (updateSeq S (fun _=>#[]) >>= _) _ _ _
    refine wpAny_bind ?_
    refine wpAny_updateSeq hS' rfl (wpAny_bind (wpAny_letGo (wpAny_pure ?_)))
    exact hR i vb ub _ hvb rvb (fun j' hj'=>hbest j' (by omega)) (I1.one fS fun c o hc e=>(s1.2 c hc).trans e)
  | succ r ih =>
    intro j i s vb ub tb c hr hj Iv hS hit hvb rvb hij hbest
    have hlt:j + 1 < xs.length:=by omega
    obtain ⟨its,rv,pl,hz⟩:=Iv.list hq
    have hlen:=rv.length
    have hsz:its.toArray.size = xs.length:=by rw [List.size_toArray,hlen]
    have W:=Walks.list (prog:=X.prog) (w:=X.w) (A:=X.A.in1) (Iv.ok.hd hc) I p hpI its.toArray
    refine codeAny_builtin PySem.F.entry_min_loop ?_
    rw [Around.under_plainId PySem.F.plain_min_loop _]
    show wpAny _ _ (seqItems? (.ref S) >>= _) _ _ _
    refine wpAny_bind (wpAny_seqItems hS rfl ?_)
    show wpAny _ _ (tryCatch (pyNext (.ref I)) _ >>= _) _ _ _
    refine wpAny_bind (wpAny_tryCatch (W.item (j + 1) _ _ _ (by rw [hsz]; exact hlt) ⟨hit,pl.isList⟩ fun u h' tk' hP hst' hk'=>?_))
    have hu:its[j + 1]? = some u:=by simpa using hP
    obtain ⟨x,ex⟩:∃ x,xs[j + 1]? = some x:=⟨_,List.getElem?_eq_getElem hlt⟩
    obtain ⟨u',eu',ru⟩:=rv.get ex
    rw [hu] at eu'
    obtain rfl:=Option.some.inj eu'
    obtain ⟨oI',hoI',hoc,hod⟩:=id hst'.1
    have I1:Inv X pins σ H { s with heap:=h',toks:=tk' }:=Iv.one fI fun c o hc e=>hk' c o (by simpa using hc) e
    have hS':=hk' S _ (by simpa using hSI) hS
    have I2:Inv X (pins ++ [(S,seqObj "list" #[ub,.int (kf i) tb] c),(I,oI')]) σ H { s with heap:=h',toks:=tk' }:=I1.pins_of fun q hq=>by
      rcases List.mem_append.mp hq with hq | hq
      · exact I1.pin q (List.mem_append_right _ hq)
      · rcases List.mem_cons.mp hq with rfl | hq
        · exact ⟨hS',fS.1,fS.2.1,fS.2.2.1,fun v z=>by cases z⟩
        · rw [List.mem_singleton.mp hq]
          exact ⟨hoI',fI.1,fI.2.1,fI.2.2.1,fun v z=>by rw [hod] at z; cases z⟩
    show wpAny _ _ (tryCatch (holding [u] (call (.ref f) [u])) _ >>= _) _ _ _
    refine wpAny_bind (wpAny_tryCatch (wpAny_holding (wpAny_mono (turn (j + 1) x ex u _ _ ru I2) (fun y s2 he=>?_) fun _ _ hF=>hF.elim)))
    obtain ⟨vy,H',J,ry,rfl,rfl⟩:=he
    obtain ⟨t2,rfl⟩:=ry
    have J1:=J.unpinned
    have hS2:=(J.pin (S,seqObj "list" #[ub,.int (kf i) tb] c) (List.mem_append_right _ (List.mem_append_right _ (.head _)))).1
    have hI2:=(J.pin (I,oI') (List.mem_append_right _ (List.mem_append_right _ (.tail _ (.head _))))).1
    have hit2:s2.heap.IsListIter I p (j + 1 + 1):=⟨oI',hI2,hoc,hod⟩
    show wpAny _ _ (tryCatch (holding [u,.int (kf (j + 1)) t2] (richCompare .Lt (.int (kf (j + 1)) t2) (.int (kf i) tb) >>= _)) _ >>= _) _ _ _
    refine wpAny_bind (wpAny_tryCatch (wpAny_holding (wpAny_bind (CmpOf.ints_lt (prog:=X.prog) (w:=X.w) (A:=X.A.in1) (P:=fun i v=>∃ t,v = .int (kf i) t) kf (fun i v h=>h) (j + 1) i _ _ _ _ _ ⟨t2,rfl⟩ ⟨tb,rfl⟩ ?_))))
    refine wpAny_bind (wpAny_holding (wpAny_truthy_bool ?_))
    refine wpAny_bind (wpAny_letGo (wpAny_pure ?_))
    by_cases hb':kf (j + 1) < kf i
    · have s1:=Heap.SameBut.update s2.heap S (Obj.mapSeq fun _=>#[u,.int (kf (j + 1)) t2])
      obtain ⟨c2,hc2⟩:∃ c2,(s2.heap.update S (Obj.mapSeq fun _=>#[u,.int (kf (j + 1)) t2])).get? S = some (seqObj "list" #[u,.int (kf (j + 1)) t2] c2):=⟨_,get?_update_seq hS2 fun _=>#[u,.int (kf (j + 1)) t2]⟩
      simp only [hb',decide_true,if_true]
      refine wpAny_bind ?_
      refine wpAny_updateSeq hS2 rfl (wpAny_bind (wpAny_letGo ?_))
      rw [hname]
      refine wpAny_pure ⟨plainId_quiet PySem.F.plain_min_loop _,ih (j + 1) (j + 1) _ x u t2 c2 (by omega) hlt (J1.one fS fun c o hc e=>(s1.2 c hc).trans e) hc2 ⟨oI',(s1.2 I hSI.symm).trans hI2,hoc,hod⟩ ex ru (Nat.le_refl _) fun j' hj'=>?_⟩
      by_cases e:j' = j + 1
      · subst e
        exact ⟨by omega,fun _=>by omega⟩
      · have:=hbest j' (by omega)
        exact ⟨by omega,fun _=>by omega⟩
    · simp only [hb',decide_false,Bool.false_eq_true,if_false]
      refine wpAny_bind (wpAny_letGo ?_)
      rw [hname]
      refine wpAny_pure ⟨plainId_quiet PySem.F.plain_min_loop _,ih (j + 1) i _ vb ub tb c (by omega) hlt (J1.tok _) hS2 hit2 hvb rvb (by omega) fun j' hj'=>?_⟩
      by_cases e:j' = j + 1
      · subst e
        exact ⟨by omega,fun h=>by omega⟩
      · exact hbest j' (by omega)
theorem call_minkey {X:Cx} {pins:List (Addr×Obj)} {s:Shared} {σ:St} {H:Hp} {Q:VK} {xs:List V} {p f:Addr} (kf:Nat→Int) (hc:X.calm = true) (Iv:Inv X pins σ H s) (hq:SqL X.K H p xs) (hne:0 < xs.length)
    (turn:∀ (i:Nat) (v:V),xs[i]? = some v→∀ (u:Value) (pins':List (Addr×Obj)) (s':Shared),RelV v u→Inv X pins' σ H s'→wpAny (model X.prog X.w) X.A.in1 (call (.ref f) [u]) (EP X pins' σ fun r H'=>r = .int (kf i)∧H' = H) (fun _ _=>False) s')
    (q:∀ (i:Nat) (v:V),xs[i]? = some v→(∀ j,j < xs.length→kf i≤kf j∧(j < i→kf i < kf j))→Q v H) :
    wpAny (model X.prog X.w) X.A (call (.builtin "min") [.ref p] [(Str.ofString "key",.ref f)]) (EP X pins σ Q) X.xe s:=by
  have hname:(toString "min" ++ toString ".loop" : String) = "min.loop" := by decide
  obtain ⟨its,rv,pl,hz⟩:=Iv.list hq
  have hlen:=rv.length
  have hsz:its.toArray.size = xs.length:=by rw [List.size_toArray,hlen]
  obtain ⟨o,n,ho,_⟩:=id pl
  have hpl:p < s.heap.objs.size:=Heap.lt_size ho
  refine kmk_tree PySem.F.kind_min PySem.F.plain_min PySem.F.entry_min (kmk_min_key _ _) ?_
  show wpAny _ X.A.in1 (Builtin.Builtins.bindParams "min" ["key","default"] 0 ⟨[],[(Str.ofString "key",.ref f)]⟩ >>= _) _ _ s
  refine wpAny_bind (wpAny_of_eq (show Builtin.Builtins.bindParams "min" ["key","default"] 0 ⟨[],[(Str.ofString "key",.ref f)]⟩ = pure [some (.ref f),none] from rfl) ?_)
  refine wpAny_bind (wpAny_pure ?_)
  refine wpAny_bind (wpAny_pyIter_list pl.isList ?_)
  refine wpAny_bind (wpAny_newList ?_ (Nat.zero_le _))
  rw [hname]
  have hS:(s.heap.push { cls:=.type "list_iterator",data:=.fields #[.ref p,.int 0 0] }).objs.size = s.heap.objs.size + 1:=size_push' ..
  generalize hSn:(s.heap.push { cls:=.type "list_iterator",data:=.fields #[.ref p,.int 0 0] }).objs.size = S at hS
  have hpI:p≠s.heap.objs.size:=Nat.ne_of_lt hpl
  have hSI:S≠s.heap.objs.size:=by omega
  have kp:∀ b o,s.heap.get? b = some o→((s.heap.push { cls:=.type "list_iterator",data:=.fields #[.ref p,.int 0 0] }).push (seqObj "list" #[] 0)).get? b = some o:=fun b o e=>Heap.get?_push_of_some _ (Heap.get?_push_of_some _ e)
  have gI:((s.heap.push { cls:=.type "list_iterator",data:=.fields #[.ref p,.int 0 0] }).push (seqObj "list" #[] 0)).get? s.heap.objs.size = some { cls:=.type "list_iterator",data:=.fields #[.ref p,.int 0 0] } :=
    Heap.get?_push_of_some _ (Heap.get?_push_size _ rfl)
  have gS:((s.heap.push { cls:=.type "list_iterator",data:=.fields #[.ref p,.int 0 0] }).push (seqObj "list" #[] 0)).get? S = some (seqObj "list" #[] 0):=by rw [← hSn]; exact Heap.get?_push_size _ rfl
  have nI:H s.heap.objs.size = none:=Iv.hok.fresh (Nat.le_refl _)
  have nS:H S = none:=Iv.hok.fresh (by omega)
  have fI:FpOk X pins H s.heap.objs.size:=Iv.fpOk (Nat.le_refl _) nI
  have fS:FpOk X pins H S:=Iv.fpOk (by omega) nS
  have I0:Inv X pins σ H { s with heap:=(s.heap.push { cls:=.type "list_iterator",data:=.fields #[.ref p,.int 0 0] }).push (seqObj "list" #[] 0) }:=Iv.kept (t':=s.toks) kp
  generalize (s.heap.push { cls:=.type "list_iterator",data:=.fields #[.ref p,.int 0 0] }).push (seqObj "list" #[] 0) = h0 at gI gS I0 kp ⊢
  refine wpAny_pure ⟨plainId_quiet PySem.F.plain_min_loop _,?_⟩
  obtain ⟨its,rv,pl,hz⟩:=I0.list hq
  have hlen:=rv.length
  have hsz:its.toArray.size = xs.length:=by rw [List.size_toArray,hlen]
  have W:=Walks.list (prog:=X.prog) (w:=X.w) (A:=X.A.in1) (Iv.ok.hd hc) s.heap.objs.size p hpI its.toArray
  refine codeAny_builtin PySem.F.entry_min_loop ?_
  rw [Around.under_plainId PySem.F.plain_min_loop _]
  show wpAny _ X.A.in1 (seqItems? (.ref _) >>= _) _ _ _
  refine wpAny_bind (wpAny_seqItems gS rfl ?_)
  show wpAny _ X.A.in1 (tryCatch (pyNext (.ref s.heap.objs.size)) _ >>= _) _ _ _
  refine wpAny_bind (wpAny_tryCatch (W.item 0 _ _ _ (by rw [hsz]; exact hne) ⟨⟨_,gI,rfl,rfl⟩,pl.isList⟩ fun u h' tk' hP hst' hk'=>?_))
  have hu:its[0]? = some u:=by simpa using hP
  obtain ⟨x,ex⟩:∃ x,xs[0]? = some x:=⟨_,List.getElem?_eq_getElem hne⟩
  obtain ⟨u',eu',ru⟩:=rv.get ex
  rw [hu] at eu'
  obtain rfl:=Option.some.inj eu'
  obtain ⟨oI',hoI',hoc,hod⟩:=id hst'.1
  have I1:Inv X pins σ H { s with heap:=h',toks:=tk' }:=I0.one fI fun c o hc e=>hk' c o (by simpa using hc) e
  have hS':=hk' S _ (by simpa using hSI) gS
  have I2:Inv X (pins ++ [(S,seqObj "list" #[] 0),(s.heap.objs.size,oI')]) σ H { s with heap:=h',toks:=tk' }:=I1.pins_of fun q hq=>by
    rcases List.mem_append.mp hq with hq | hq
    · exact I1.pin q (List.mem_append_right _ hq)
    · rcases List.mem_cons.mp hq with rfl | hq
      · exact ⟨hS',fS.1,fS.2.1,fS.2.2.1,fun v z=>by cases z⟩
      · rw [List.mem_singleton.mp hq]
        exact ⟨hoI',fI.1,fI.2.1,fI.2.2.1,fun v z=>by rw [hod] at z; cases z⟩
  show wpAny _ X.A.in1 (tryCatch (holding [u] (call (.ref f) [u])) _ >>= _) _ _ _
  refine wpAny_bind (wpAny_tryCatch (wpAny_holding (wpAny_mono (turn 0 x ex u _ _ ru I2) (fun y s2 he=>?_) fun _ _ hF=>hF.elim)))
  obtain ⟨vy,H',J,ry,rfl,rfl⟩:=he
  obtain ⟨t2,rfl⟩:=ry
  have J1:=J.unpinned
  have hS2:=(J.pin (S,seqObj "list" #[] 0) (List.mem_append_right _ (List.mem_append_right _ (.head _)))).1
  have hI2:=(J.pin (s.heap.objs.size,oI') (List.mem_append_right _ (List.mem_append_right _ (.tail _ (.head _))))).1
  have s1:=Heap.SameBut.update s2.heap S (Obj.mapSeq fun _=>#[u,.int (kf 0) t2])
  obtain ⟨c2,hc2⟩:∃ c2,(s2.heap.update S (Obj.mapSeq fun _=>#[u,.int (kf 0) t2])).get? S = some (seqObj "list" #[u,.int (kf 0) t2] c2):=⟨_,get?_update_seq hS2 fun _=>#[u,.int (kf 0) t2]⟩
  show wpAny _ X.A.in1 (updateSeq S (fun _=>#[u,.int (kf 0) t2]) >>= _) _ _ _
  refine wpAny_bind ?_
  refine wpAny_updateSeq hS2 rfl ?_
  rw [hname]
  refine wpAny_pure ⟨plainId_quiet PySem.F.plain_min_loop _,minkey_loop kf hc hq hSI hpI fI fS turn (fun i v u s' e r b I'=>⟨v,H',I',r,q i v e b⟩) _ 0 0 _ x u t2 c2 rfl hne (J1.one fS fun c o hc e=>(s1.2 c hc).trans e) hc2 ⟨oI',(s1.2 _ hSI.symm).trans hI2,hoc,hod⟩ ex ru (Nat.le_refl _) fun j' hj'=>?_⟩
  obtain rfl:j' = 0:=by omega
  exact ⟨by omega,fun h=>absurd h (Nat.lt_irrefl _)⟩
end L2
namespace L2
open PySem PySem.Spec PyProof.Rows
def codeO (c':Addr) (qual:Str):HO:=.ext fun h=>h.CodeRec (.ref c') qual
def lamO (f:Addr) (qual:Str) (params:Arguments) (body:Expr) (scope:Scope) (pm:Value) (c':Addr) (ctv:Value):HO:=.ext fun h=>h.get? f = some (PySem.W.kla_obj "<lambda>" qual params body scope [] pm c' ctv)
def BM (mg:Str→Option Value) (base:Heap):Prop:=∃ bm ob,mg "__builtins__" = some (.ref bm)∧bm≠builtinsNs∧bm≠mainGlobals∧base.get? bm = some ob∧ob.cls = .type "module" ∧ ob.dict = some builtinsNs∧ob.data = .plain
theorem code_ok {P:Program} {w:World} {H:Hp} {h:Heap} {c':Addr} {qual:Str} (hr:h.CodeRec (.ref c') qual):ObjOk P w H h c' (codeO c' qual):=by
  refine ⟨hr,?_,fun h1 h2 q k=>?_⟩
  · obtain ⟨c2,oc,vs,t,e,hoc,_⟩:=hr
    cases e
    exact ⟨oc,hoc⟩
  · obtain ⟨c2,oc,vs,t,e,hoc,hd,hq⟩:=q
    cases e
    exact ⟨_,oc,vs,t,rfl,k _ hoc,hd,hq⟩
theorem lam_ok {P:Program} {w:World} {H:Hp} {h:Heap} {f c':Addr} {qual:Str} {params:Arguments} {body:Expr} {scope:Scope} {pm ctv:Value} (e:h.get? f = some (PySem.W.kla_obj "<lambda>" qual params body scope [] pm c' ctv)):ObjOk P w H h f (lamO f qual params body scope pm c' ctv) :=
  ⟨e,⟨_,e⟩,fun _ _ q k=>k _ q⟩
def tLam (P:Addr) (mg:Str→Option Value) (qual:Str) (params:Arguments) (body:Expr) (scope:Scope) (pos:Pos):TE:=fun _ H Q=>∃ ps:Array Value,H P = some (.tbl ps)∧TriplesOk ps.toList ∧
  ((codeAmong pos ps.toList = none∧∀ f c' ctv,H f = none→H c' = none→f≠c'→Q (.ref f) (upd (upd (upd H P (.tbl (ps ++ #[rawInt pos.line,rawInt pos.col,.ref c']))) c' (codeO c' qual)) f (lamO f qual params body scope ((mg "__name__").getD .none) c' ctv))) ∨
   ∃ c',codeAmong pos ps.toList = some (.ref c')∧∀ f ctv,H f = none→Q (.ref f) (upd H f (lamO f qual params body scope ((mg "__name__").getD .none) c' ctv)))
theorem pe_lam {X:Cx} {params:Arguments} {body:Expr} {scope:Scope} {pos:Pos} {c P:Addr} (hcode:X.env.code = .ref c) (C:PySem.W.CodeHd X.base c P) (hbm:BM X.mg X.base) (hcl:closureFor scope X.env = pure []) (hdef:defaultsOf params X.env = ([],[])) :
    PE X (.Lambda params body scope pos) (tLam P X.mg (X.env.qual ++ "<lambda>") params body scope pos):=by
  intro pins s σ H Q I h
  obtain ⟨ps,hP,ht,h⟩:=h
  have gP:s.heap.get? P = some (PySem.W.tabObj ps):=I.hok P _ hP
  have base_ne:∀ {b o},X.base.get? b = some o→b≠P:=fun e z=>by
    have:=(I.bs _ _ e).2
    rw [z,hP] at this
    cases this
  have hgP:mainGlobals≠P:=by
    obtain ⟨o,es,ep,e,_⟩:=I.mod.glob
    exact base_ne e
  obtain ⟨bm,ob,b1,b2,b3,b4,b5,b6,b7⟩:=hbm
  have hb:s.heap.BuiltinsAt X.mg P:=⟨bm,ob,b1,b2,b3,base_ne b4,I.bk _ _ b4,b5,b6,b7⟩
  refine PySem.W.kla_eval hdef ?_
  rcases h with ⟨hn,q⟩ | ⟨c',hf,q⟩
  · refine PySem.W.kla_makeFunction (mg:=X.mg) hcl I.ok.glob (I.mod.glob.keeps I.bk) hcode (C.keeps I.bk) gP ht hn hgP hb fun c' ctv h' tk hx hge hlt hrec htb=>?_
    have nc:H c' = none:=I.hok.fresh hge
    have hPs:P < s.heap.objs.size:=Heap.lt_size gP
    have cP:c'≠P:=Nat.ne_of_gt (Nat.lt_of_lt_of_le hPs hge)
    have at1:∀ {b o},H b = some o→(∀ qs,o≠.tbl qs)→upd (upd H P (.tbl (ps ++ #[rawInt pos.line,rawInt pos.col,.ref c']))) c' (codeO c' (X.env.qual ++ "<lambda>")) b = some o:=fun e n=>by
      rw [upd_ne (ne_of_none e nc),upd_ne (ne_of e hP (n _))]; exact e
    have I1:Inv X pins σ (upd (upd H P (.tbl (ps ++ #[rawInt pos.line,rawInt pos.col,.ref c']))) c' (codeO c' (X.env.qual ++ "<lambda>"))) { s with heap:=h',gens:=s.gens,drawn:=s.drawn,toks:=tk }:=by
      refine I.step (ch:=[]) (fun _ z=>nomatch z) (fun b o _ _ _ e n=>hx b o (fun z=>by rw [z,hP] at n; cases n) e) (fun b o _ _ _ e n=>⟨o.slots,hx b o (fun z=>by rw [z,hP] at n; cases n) e⟩) (fun b o _ e n=>?_) (fun b o _ e=>?_) (fun b xs e=>at1 e fun _ z=>by cases z) (fun b o u e=>at1 e fun _ z=>by cases z) (fun b qs e=>?_) (fun m hn=>hn.extBut hx fun z=>?_) (fun b u e=>?_) I.bare
      · rw [upd_ne (Nat.ne_of_lt (Nat.lt_of_lt_of_le (Heap.lt_size e) hge)),upd_ne fun z=>by rw [z,hP] at n; cases n]
        exact n
      · by_cases z:b = P
        · exact ⟨_,by rw [z]; exact htb⟩
        · exact ⟨o,hx b o z e⟩
      · by_cases z:b = P
        · subst z
          rw [hP] at e
          obtain rfl:ps = qs:=by injection e with e; injection e
          exact ⟨#[rawInt pos.line,rawInt pos.col,.ref c'],by rw [upd_ne cP.symm,upd_same]⟩
        · exact ⟨#[],by rw [upd_ne (ne_of_none e nc),upd_ne z,e]; simp⟩
      · have:=I.free
        rw [z,hP] at this
        cases this
      · by_cases z:b = c'
        · subst z
          rw [upd_same] at e
          obtain rfl:=Option.some.inj e
          exact code_ok hrec
        · rw [upd_ne z] at e
          by_cases z2:b = P
          · subst z2
            rw [upd_same] at e
            obtain rfl:=Option.some.inj e
            exact htb
          · rw [upd_ne z2] at e
            refine (I.hok b u e).stay (fun b' u' hb' e'=>hx b' u' (fun zz=>?_) e') (fun b' e'=>at1 e' fun _ z=>by cases z) (fun b' xs e'=>at1 e' fun _ z=>by cases z)
            rcases hb' with rfl | hb'
            · exact z2 zz
            · rw [zz,hP] at hb'; cases hb'
    have I2:=I1.laid (a:=h'.objs.size) (o:=lamO h'.objs.size (X.env.qual ++ "<lambda>") params body scope ((X.mg "__name__").getD .none) c' ctv) (t':=tk) (h':=h'.push (PySem.W.kla_obj "<lambda>" (X.env.qual ++ "<lambda>") params body scope [] ((X.mg "__name__").getD .none) c' ctv)) (fun b u e=>Heap.get?_push_of_some _ e) (Nat.le_refl _) (lam_ok (Heap.get?_push_size _ rfl))
    have nf:H h'.objs.size = none:=I.hok.fresh (Nat.le_trans hge (Nat.le_of_lt hlt))
    exact ⟨.ref _,_,I2,rfl,q _ c' ctv nf nc (Nat.ne_of_gt hlt)⟩
  · refine PySem.W.kla_makeFunctionHit (mg:=X.mg) hcl I.ok.glob (I.mod.glob.keeps I.bk) hcode (C.keeps I.bk) gP ht hf hb fun ctv h' tk hk hsz=>?_
    have I2:=I.laid (a:=h'.objs.size) (o:=lamO h'.objs.size (X.env.qual ++ "<lambda>") params body scope ((X.mg "__name__").getD .none) c' ctv) (t':=tk) (h':=h'.push (PySem.W.kla_obj "<lambda>" (X.env.qual ++ "<lambda>") params body scope [] ((X.mg "__name__").getD .none) c' ctv)) (fun b u e=>Heap.get?_push_of_some _ (hk b u e)) hsz (lam_ok (Heap.get?_push_size _ rfl))
    exact ⟨.ref _,_,I2,rfl,q _ ctv (I.hok.fresh hsz)⟩
def tMinKey (K:PySem.W.Frag) (N:List Str) (qual:Str) (params:Arguments) (body:Expr) (scope:Scope) (te:TE) (t tk:TA):TE:=fun σ H Q=>t σ H fun vs H1=>tk σ H1 fun zs H2=>∃ (p f c':Addr) (pm ctv:Value) (xs:List V) (kf:Nat→Int),vs = [.ref p]∧zs = [.ref f]∧SqL K H2 p xs∧0 < xs.length ∧
  H2 f = some (lamO f qual params body scope pm c' ctv)∧H2 c' = some (codeO c' qual)∧(∀ (i:Nat) (v:V),xs[i]? = some v→te (start N [v]) H2 fun r H'=>r = .int (kf i)∧H' = H2)∧∀ (i:Nat) (v:V),xs[i]? = some v→(∀ j,j < xs.length→kf i≤kf j∧(j < i→kf i < kf j))→Q v H2
theorem pe_minkey {X:Cx} {e:Expr} {es:List Expr} {kws:List Keyword} {t tk:TA} {p pos:Pos} {k:Nat} {x:Str} {N:List Str} {qual:Str} {params:Arguments} {body:Expr} {scope:Scope} {te:TE} (hc:X.calm = true) (hg:Gl X "min") (hm:X.mg "min" = none) (hv:bootBuiltins "min" = some (.builtin "min"))
    (hr:Room (k + 2) X.A) (S:FnScope N [x] scope) (hb:∀ (pm:Value) (c':Addr) (ctv u:Value),bindArgs (PySem.W.kla_fn "<lambda>" qual params body scope [] pm (.ref c') ctv) ⟨[u],[]⟩ = pure [(x,u)])
    (hbody:∀ (f c':Addr) (A:Around) (outer:List Env) (s:Shared) (H:Hp),Room k (A.deeper (envOfC qual scope s.heap.objs.size f (.ref c')))→PE (cxOf CX0 X.prog X.w X.K X.mg X.base N qual scope f (.ref c') A outer s H E0) body te)
    (ha:PA X (e :: es) t) (hkw:PK X kws tk) (hall:(backToKw pos (keywordEach kws X.env)).all (·.1.isSome) = true:=by rfl) (hks:(backToKw pos (keywordEach kws X.env)).filterMap (·.1) = [Str.ofString "key"]:=by rfl)
    (he:starEach (e :: es) X.env = (false,eval e X.env) :: starEach es X.env:=by rfl)
    (hpl:(backTo pos (starEach (e :: es) X.env)).any (·.1) = false:=by rfl) (hpk:(backToKw pos (keywordEach kws X.env)).any (·.1.isNone) = false:=by rfl) :
    PE X (.Call (.Name "min" p) (e :: es) kws pos) (tMinKey X.K N qual params body scope te t tk):=by
  intro pins s σ H Q I h
  refine wpAny_Call_Name_kw (ld_blt I hg hm hv ?_ (by decide) (by decide))
  refine callWith_builtin_kwB hpl hpk (evalArgs_kw2 hall (thn (ha pos pins s σ H _ I h) fun us s1 ⟨vs,H1,I1,r,q⟩=>?_) he)
  refine thn (hkw pos pins s1 σ H1 _ I1 q) fun ws s2 ⟨zs,H2,I2,rz,q2⟩=>?_
  rw [hks]
  obtain ⟨l,f,c',pm,ctv,xs,kf,rfl,rfl,hq,hne,hf,hcd,turn,q3⟩:=q2
  obtain ⟨u,rfl,rx⟩:=vals1 r
  cases rx
  obtain ⟨u,rfl,rx⟩:=vals1 rz
  cases rx
  refine call_minkey kf hc I2 hq hne (fun i v ev u pins' s' ru I'=>?_) q3
  have ho:=(I'.hok f _ hf).1
  have hcr:=(I'.hok c' _ hcd).1
  have e0:Env0 X.prog X.w X.K X.mg X.base X.A.in1 X.stack s' H2:={ I'.env0 with frames:=I'.env0.frames }
  refine wpAny_call (codeAny_mono (lam_run (E:=E0) S hr.in1 e0 ho hcr (hb _ _ _ _) (.cons ru .nil) rfl (hbody f c' X.A.in1 X.stack s' H2 (hr.in1.deeper _)) (turn i v ev)) fun r s3 hq3=>?_)
  cases r with
  | error e=>exact False.elim hq3
  | ok fl =>
    cases fl with
    | ret u=>exact I'.after hq3
    | next=>exact False.elim hq3
    | brk=>exact False.elim hq3
    | cont=>exact False.elim hq3
def lamAt (b:List Stmt) (i:Nat):Arguments×Expr×Scope×Pos:=match b[i]? with
  | some (.Assign _ (.Call _ _ (kw :: _) _) _)=>match kw.value with
    | .Lambda a e sc p=>(a,e,sc,p)
    | _=>(⟨[],[],none,[],[],none,[]⟩,.Name "" ⟨0,0,0,0⟩,⟨.function,[],false,false,[]⟩,⟨0,0,0,0⟩)
  | _=>(⟨[],[],none,[],[],none,[]⟩,.Name "" ⟨0,0,0,0⟩,⟨.function,[],false,false,[]⟩,⟨0,0,0,0⟩)
end L2
namespace L2
open PySem PySem.Spec PyProof.Rows
theorem law_callT {P:Program} {w:World} {K:PySem.W.Frag} {mg mb:Str→Option Value} {CX:CXT} {k:Nat} {fa a c T:Addr} {fd:FuncData} {x:Str} {sp:Sp} {s₁:Shared} {vs:List Value} {ns:List Int}
    (KX:K.In s₁.heap) (hns:s₁.heap.Ns mainGlobals mg) (hb:s₁.heap.Ns builtinsNs mb) (hbb:∀ x:Str,x ≠ "__name__" → mb x = bootBuiltins x) (hlim:s₁.heap.NoLimit) (hg:s₁.gens = #[])
    (ha:s₁.heap.get? a = some { cls:=.type "list",data:=.seq vs.toArray }) (hi:IntsAre vs ns) (hl:ns.length≤sizeLine) (hr:Room k callerA)
    (C:PySem.W.CodeHd s₁.heap c T) (hT:s₁.heap.get? T = some (PySem.W.tabObj #[])) (hKT:K.lookup T = none) (hbm:BM mg s₁.heap)
    (F:∀ base:Heap,K.In base→base.Ns mainGlobals mg→PySem.W.CodeHd base c T→BM mg base→FnOk P w K mg base CX k fa fd [x] sp) (hbind:∀ (s:Shared) (u:Value),BindsTo s fd ⟨[u],[]⟩ [(x,u)])
    (hsp:∀ H:Hp,H T = some (.tbl #[])→SqL K H a (ns.map V.int)→sp [.ref a] H (fun v _=>v = .bl true) fun _ _ _=>False)
    (hCX:∀ H e s',CX [] H s₁ (fun _ _ _=>False) e s'→False) :
    codeAny (model P w) callerA (.call (.ref fa) ⟨[.ref a],[]⟩) (fun r s'=>r = .ok (.ret (.bool true))∧OldK s₁.heap s'.heap∧s'.os = s₁.os∧AllBare s'.gens) s₁:=by
  have rv:=vals_ints hi
  have lenV:=hi.length
  have aT:a≠T:=fun z=>by rw [z,hT] at ha; cases ha
  have core:∀ H:Hp,(∀ b,H b = none∨(b = T∧H b = some (.tbl #[]))∨∃ o xs,H b = some (.frz o (.lst xs)))→H T = some (.tbl #[])→SqL K H a (ns.map V.int)→HOk P w H s₁.heap→(∀ b,H b≠none→b = a∨b = T)→(H a≠none→K.lookup a = none) →
      codeAny (model P w) callerA (.call (.ref fa) ⟨[.ref a],[]⟩) (fun r s'=>r = .ok (.ret (.bool true))∧OldK s₁.heap s'.heap∧s'.os = s₁.os∧AllBare s'.gens) s₁:=by
    intro H hO hHT hS hok hA hK
    have base_of:∀ {b:Addr} {o:Obj},s₁.heap.get? b = some o→H b = none→(hidT s₁.heap H).get? b = some o:=fun e n=>hidT_get e n
    have noC:∀ {b:Addr} {o:Obj},s₁.heap.get? b = some o→o.cls≠.type "list" → o.cls≠.none→H b = none:=fun {b o} e n1 n2=>by
      cases q:H b with
      | none=>rfl
      | some u =>
        rcases hA b (by rw [q]; simp) with rfl | rfl
        · rw [ha] at e; cases e; exact absurd rfl n1
        · rw [hT] at e; cases e; exact absurd rfl n2
    have noA:∀ {b:Addr} {o:Obj} {es:Array DictEntry} {ep:Nat},s₁.heap.get? b = some o→o.data = .dict es ep→H b = none:=fun {b o es ep} e d=>by
      cases q:H b with
      | none=>rfl
      | some u =>
        rcases hA b (by rw [q]; simp) with rfl | rfl
        · rw [ha] at e; cases e
          have d':Data.seq vs.toArray _ = Data.dict es ep:=d
          cases d'
        · rw [hT] at e; cases e; cases d
    have nsK:∀ {b:Addr} {m:Str→Option Value},s₁.heap.Ns b m→(hidT s₁.heap H).Ns b m:=fun {b m} ⟨o,es,ep,e,d,r⟩=>⟨o,es,ep,base_of e (noA e d),d,r⟩
    have hKb:K.In (hidT s₁.heap H):=fun b o e=>base_of (KX b o e) (by
      cases q:H b with
      | none=>rfl
      | some u =>
        rcases hA b (by rw [q]; simp) with rfl | rfl
        · rw [hK (by rw [q]; simp)] at e; cases e
        · rw [hKT] at e; cases e)
    have hCb:PySem.W.CodeHd (hidT s₁.heap H) c T:=by
      obtain ⟨o,ws,file,tf,flags,tg,inF,text,tt,e,hc,r⟩:=C
      exact ⟨o,ws,file,tf,flags,tg,inF,text,tt,base_of e (noC e (by rw [hc]; exact fun z=>absurd (Value.type.inj z) (by decide)) (by rw [hc]; intro z; cases z)),hc,r⟩
    have hBb:BM mg (hidT s₁.heap H):=by
      obtain ⟨bm,ob,b1,b2,b3,b4,b5,b6⟩:=hbm
      exact ⟨bm,ob,b1,b2,b3,base_of b4 (noC b4 (by rw [b5]; exact fun z=>absurd (Value.type.inj z) (by decide)) (by rw [b5]; intro z; cases z)),b5,b6⟩
    have hM:Mod K mg (hidT s₁.heap H):=⟨hKb,nsK hns,⟨mb,nsK hb,hbb⟩,let ⟨mc,h1,h2⟩:=hlim; ⟨mc,nsK h1,h2⟩⟩
    have e0:Env0 P w K mg (hidT s₁.heap H) callerA [] s₁ H:=⟨rfl,hM,fun b o e=>of_hidT e,Nat.le_of_eq (hidT_size _ _),trivial,fun b hb=>absurd (show b∈([]:List Addr) from hb) (by simp),hok,.of_eq hg⟩
    refine codeAny_mono ((F _ hKb (nsK hns) hCb hBb).run callerA [] s₁ H ⟨[.ref a],[]⟩ [.ref a] [.ref a] _ _ hr e0 (hbind s₁ (.ref a)) (.cons rfl .nil) (hsp H hHT hS)) fun r s' h=>?_
    cases r with
    | error e=>exact (hCX H e s' h).elim
    | ok fl =>
      cases fl with
      | next=>exact False.elim h
      | brk=>exact False.elim h
      | cont=>exact False.elim h
      | ret u =>
        obtain ⟨v,H',os,bare,un,hok',r',q⟩:=h
        have q':v = .bl true:=q
        subst q'
        obtain rfl:u = Value.bool true:=r'
        have keep:∀ b o,b≠T→s₁.heap.get? b = some o→s'.heap.get? b = some o:=fun b o nT e=>by
          cases q:H b with
          | none=>exact un.keep b o e q (by intro z; exact absurd (show b∈([]:List Addr) from z) (by simp)) (by simp)
          | some u =>
            rcases hO b with z | ⟨z,_⟩ | ⟨ob,xs,z⟩
            · rw [q] at z; cases z
            · exact absurd z nT
            · have z2:=un.frzs b ob _ z
              obtain ⟨e1,_⟩:=hok b _ z
              obtain ⟨e2,_⟩:=hok' b _ z2
              rw [e] at e1; cases e1
              exact e2
        obtain ⟨more,hm⟩:=un.tbls T _ hHT
        have gT:s'.heap.get? T = some { cls:=.none,data:=.fields (#[] ++ more) }:=hok' T _ hm
        refine ⟨rfl,⟨fun b o e=>?_,fun b o e=>?_⟩,os,bare⟩
        · by_cases z:b = T
          · subst z
            rw [hT] at e
            obtain rfl:=Option.some.inj e
            exact .inr (.inl ⟨(C.tab hT).isCodeTable,rfl,#[],more,rfl,gT⟩)
          · exact .inl (keep b o z e)
        · by_cases z:b = T
          · subst z; exact ⟨_,gT⟩
          · exact ⟨o,keep b o z e⟩
  cases hk:K.lookup a with
  | some o =>
    have e:=KX a o hk
    rw [ha] at e
    cases e
    refine core (fun b=>if b = T then some (.tbl #[]) else none) (fun b=>?_) (if_pos rfl) (.inr ⟨_,vs.toArray,_,hk,rfl,rfl,rfl,by rw [List.size_toArray,lenV]; exact hl,by simpa using rv⟩) (fun b u z=>?_) (fun b z=>?_) fun z=>absurd (if_neg aT) z
    · by_cases hb:b = T
      · exact .inr (.inl ⟨hb,if_pos hb⟩)
      · exact .inl (if_neg hb)
    · by_cases hb:b = T
      · have z':=(if_pos hb).symm.trans z
        cases z'
        subst hb
        exact hT
      · have z':=(if_neg hb).symm.trans z
        cases z'
    · by_cases hb:b = T
      · exact .inr hb
      · exact absurd (if_neg hb) z
  | none =>
    have at1:∀ b,b≠T→b≠a→(fun b=>if b = T then some (HO.tbl #[]) else if b = a then some (.frz { cls:=.type "list",data:=.seq vs.toArray } (.lst (ns.map V.int))) else none) b = none:=fun b h1 h2=>by
      show (if b = T then _ else if b = a then _ else _) = none
      rw [if_neg h1,if_neg h2]
    have at2:(fun b=>if b = T then some (HO.tbl #[]) else if b = a then some (.frz { cls:=.type "list",data:=.seq vs.toArray } (.lst (ns.map V.int))) else none) a = some (.frz { cls:=.type "list",data:=.seq vs.toArray } (.lst (ns.map V.int))):=by
      show (if a = T then _ else if a = a then _ else _) = _
      rw [if_neg aT,if_pos rfl]
    refine core (fun b=>if b = T then some (.tbl #[]) else if b = a then some (.frz { cls:=.type "list",data:=.seq vs.toArray } (.lst (ns.map V.int))) else none) (fun b=>?_) (if_pos rfl) (.inl (.inr ⟨{ cls:=.type "list",data:=.seq vs.toArray },at2⟩)) (fun b u z=>?_) (fun b z=>?_) fun _=>hk
    · by_cases h1:b = T
      · exact .inr (.inl ⟨h1,if_pos h1⟩)
      · by_cases h2:b = a
        · subst h2; exact .inr (.inr ⟨_,_,at2⟩)
        · exact .inl (at1 b h1 h2)
    · by_cases h1:b = T
      · have z':=(if_pos h1).symm.trans z
        cases z'
        subst h1
        exact hT
      · by_cases h2:b = a
        · subst h2
          have z':=at2.symm.trans z
          cases z'
          exact ⟨ha,by rw [List.length_map]; exact hl,vs,_,rv,ha⟩
        · have z':=(at1 b h1 h2).symm.trans z
          cases z'
    · by_cases h1:b = T
      · exact .inr h1
      · by_cases h2:b = a
        · exact .inl h2
        · exact absurd (at1 b h1 h2) z
theorem walk_ofT {l:PySem.W.OpenLaw} {n k:Nat} {q:Program} {loose:List Str} {XP:(Str→Option Value)→Heap→Prop} {YP:World→Heap→Prop} {d:DefRec} {K:Params→PySem.W.Frag} {CX:CXT} {sp:PySem.W.Frag→Addr→Sp} {x x2:Str}
    (hn:l.most = some n) (hn2:n≤sizeLine) (hdf:d.params.defaults = []) (hr:Room k callerA)
    (hY:∀ (w:World) (h:Heap),YP w h→(K w.params).In h) (hr2:((recsOf q).find? (fun e=>e.name == x2)).isSome = true)
    (F:∀ (w:World) (mg:Str→Option Value) (fa:Addr) (h:Heap),(K w.params).In h→h.Ns mainGlobals mg→mg d.name = some (.ref fa) →
      ∃ c T:Addr,PySem.W.tabIn (K w.params) x2 = some (c,T)∧(K w.params).lookup T = none∧∃ fd:FuncData,(∀ (s:Shared) (u:Value),BindsTo s fd ⟨[u],[]⟩ [(x,u)]) ∧
        ∀ base:Heap,(K w.params).In base→base.Ns mainGlobals mg→PySem.W.CodeHd base c T→BM mg base→FnOk l.prog w (K w.params) mg base CX k fa fd [x] (sp (K w.params) T))
    (hsp:∀ (K:PySem.W.Frag) (T:Addr) (H:Hp) (a:Addr) (ns:List Int),ns.length≤n→H T = some (.tbl #[])→SqL K H a (ns.map V.int)→sp K T [.ref a] H (fun v _=>v = .bl true) fun _ _ _=>False)
    (hCX:∀ (H:Hp) (s:Shared) (e:Value) (s':Shared),CX [] H s (fun _ _ _=>False) e s'→False) :
    PySem.W.WalkO q loose XP YP l.row.toRowW d [] (fun f vs=>PySem.call f vs):=by
  refine Att.attach_call hn hdf fun w s₀ s₁ mg mb fa o pm cd doc a vs ns G Y ho hd hcd hmg hobj hints hlen hg=>?_
  have KX:=hY w _ Y
  obtain ⟨c,T,ht,hT,fd,hb,hF⟩:=F w mg fa _ KX G.T.g hmg
  obtain ⟨d2,hr2⟩:=Option.isSome_iff_exists.mp hr2
  obtain ⟨C,hT0⟩:=PySem.W.tab_of G.T KX hr2 ht
  obtain ⟨bm,ob,b1,b2,b3,b4,b5,b6⟩:=G.T.bmain
  have hbG:bm≠mainGlobals:=fun z=>by
    obtain ⟨o',es,ep,e,hd',_⟩:=G.T.g
    rw [z,e] at b3; cases b3; rw [hd'] at b6; cases b6
  exact law_callT KX G.T.g G.T.b G.T.builtins G.T.nolimit hg hobj hints (Nat.le_trans hlen hn2) hr C hT0 hT ⟨bm,ob,b1,b2,hbG,b3,b4,b5,b6⟩ hF hb (fun H hH hS=>hsp _ T H a ns hlen hH hS) fun H e s'=>hCX H s₁ e s'
theorem Fun.okC {P:Program} {w:World} {K:PySem.W.Frag} {mg:Str→Option Value} {base:Heap} {x qual:Str} {st:Stmt} {f:Addr} {fd:FuncData} {N ps:List Str} {k:Nat} {sp:Sp} (F:Fun K x qual st f fd) (S:FnScope N ps (defScope st)) (len:∀ vs H Q E,sp vs H Q E→vs.length = ps.length)
    (hbody:∀ (cdv:Value) (A:Around) (outer:List Env) (s:Shared) (H:Hp) (vs:List V) (Q:VK) (E:XK),fd.code = cdv→Room k (A.deeper (envOfC qual (defScope st) s.heap.objs.size f cdv))→sp vs H Q E →
      ∃ t,PSs (cxOf CX0 P w K mg base N qual (defScope st) f cdv A outer s H E).nox (defBody st) t∧t { nx:=fun _ H'=>Q .non H',rt:=Q } (start N vs) H):FnOk P w K mg base CX0 (k + 1) f fd ps sp:=by
  obtain ⟨oc,od,kV,doc,pm,an,cdv,ct,osl,rfl,lk,hcd⟩:=F.ex
  refine fn_of lk hcd S len fun A outer s H vs Q E hr hsp=>?_
  obtain ⟨t,h,q⟩:=hbody cdv A outer s H vs Q E rfl hr hsp
  exact ⟨t,h.nox,q⟩
theorem tabIn_of {K:PySem.W.Frag} {x:Str} {f c T:Addr} {oc lo:Value} {od lod:Option Addr} {fd:FuncData} {sl lsl:Array (Option Value)} {lvs:Array Value} (ea:PySem.W.nsIn K mainGlobals x = some (some (.ref f))) (el:K.lookup f = some ⟨oc,od,.func fd,sl⟩) (ec:fd.code = .ref c) (eo:K.lookup c = some ⟨lo,lod,.fields lvs,lsl⟩) (ev:lvs[11]? = some (.ref T)):PySem.W.tabIn K x = some (c,T):=by
  unfold PySem.W.tabIn
  rw [ea]
  dsimp only
  rw [el]
  dsimp only
  rw [ec]
  dsimp only
  rw [eo]
  dsimp only
  rw [ev]
end L2
namespace K1
open PySem L2
def TabLam (lt:Addr) (pos:Pos) (q:Str) (H:Hp):Prop:=H lt = some (.tbl #[])∨∃ c',H lt = some (.tbl #[rawInt pos.line,rawInt pos.col,.ref c'])∧H c' = some (codeO c' q)
theorem TabLam.same {lt:Addr} {pos:Pos} {q:Str} {H H':Hp} (s:Same H H') (h:TabLam lt pos q H):TabLam lt pos q H':=by
  rcases h with h | ⟨c',h,hc⟩
  · exact .inl (s _ _ h)
  · exact .inr ⟨c',s _ _ h,s _ _ hc⟩
theorem TabLam.at {lt:Addr} {pos:Pos} {q:Str} {H:Hp} (h:TabLam lt pos q H):∃ ps,H lt = some (.tbl ps):=by
  rcases h with h | ⟨c',h,hc⟩
  · exact ⟨_,h⟩
  · exact ⟨_,h⟩
theorem tlam_of {lt:Addr} {mg:Str→Option Value} {q:Str} {params:Arguments} {body:Expr} {scope:Scope} {pos:Pos} {σ:St} {H:Hp} {Q:VK} (h:TabLam lt pos q H)
    (k:∀ (f c':Addr) (ctv:Value) (H':Hp),Same (wo H lt) H'→TabLam lt pos q H'→H' f = some (lamO f q params body scope ((mg "__name__").getD .none) c' ctv)→H' c' = some (codeO c' q)→Q (.ref f) H'):tLam lt mg q params body scope pos σ H Q:=by
  rcases h with h | ⟨c',h,hc⟩
  · refine ⟨#[],h,trivial,.inl ⟨rfl,fun f c' ctv hf hc' ne=>?_⟩⟩
    have nf:lt≠f:=ne_of_none h hf
    have nc:lt≠c':=ne_of_none h hc'
    have ec:(upd (upd (upd H lt (.tbl (#[] ++ #[rawInt pos.line,rawInt pos.col,.ref c']))) c' (codeO c' q)) f (lamO f q params body scope ((mg "__name__").getD .none) c' ctv)) c' = some (codeO c' q):=by
      rw [upd_ne (Ne.symm ne),upd_same]
    refine k f c' ctv _ (fun a o e=>?_) (.inr ⟨c',?_,ec⟩) upd_same ec
    · obtain ⟨n,e⟩:=wo_of e
      rw [upd_ne (ne_of_none e hf),upd_ne (ne_of_none e hc'),upd_ne n]; exact e
    · rw [upd_ne nf,upd_ne nc,upd_same]; rfl
  · refine ⟨_,h,trivial,.inr ⟨c',?_,fun f ctv hf=>?_⟩⟩
    · show codeAmong pos [rawInt pos.line,rawInt pos.col,.ref c'] = some (.ref c')
      simp [codeAmong,rawInt]
    · have s:=same_new hf (lamO f q params body scope ((mg "__name__").getD .none) c' ctv)
      exact k f c' ctv _ (wo_same.trans s) (.inr ⟨c',s _ _ h,s _ _ hc⟩) upd_same (s _ _ hc)
theorem wo_tab {H:Hp} {lt a:Addr} {o:HO} {ps:Array Value} (h:H lt = some (.tbl ps)) (e:H a = some o) (n:∀ ps,o≠.tbl ps):wo H lt a = some o :=
  wo_at e fun z=>by rw [z,h] at e; exact n ps (Option.some.inj e).symm
theorem sqT_wo {K:PySem.W.Frag} {H:Hp} {lt a:Addr} {xs:List V} {ps:Array Value} (h:H lt = some (.tbl ps)) (e:SqT K H a xs):SqT K (wo H lt) a xs:=by
  rcases e with (e | ⟨o,e⟩) | e
  · exact .inl (.inl (wo_tab h e fun _ z=>by cases z))
  · exact .inl (.inr ⟨o,wo_tab h e fun _ z=>by cases z⟩)
  · exact .inr e
theorem sqL_wo {K:PySem.W.Frag} {H:Hp} {lt a:Addr} {xs:List V} {ps:Array Value} (h:H lt = some (.tbl ps)) (e:SqL K H a xs):SqL K (wo H lt) a xs:=by
  rcases e with (e | ⟨o,e⟩) | e
  · exact .inl (.inl (wo_tab h e fun _ z=>by cases z))
  · exact .inl (.inr ⟨o,wo_tab h e fun _ z=>by cases z⟩)
  · exact .inr e
end K1
namespace L2
open PySem PySem.Spec PyProof.Rows PySem.W
def EntAt (h:Heap) (d:Addr) (es:Array DictEntry) (ep:Nat):Prop:=∃ o,h.get? d = some o∧o.ExactDict∧o.data = .dict es ep
theorem EntAt.typeIs {s:Shared} {d:Addr} {es:Array DictEntry} {ep:Nat} (x:EntAt s.heap d es ep):s.TypeIs (.ref d) "dict" := let ⟨o,ho,hc,_⟩:=x; ⟨o,ho,hc.1⟩
theorem EntAt.at {h h':Heap} {d:Addr} {es:Array DictEntry} {ep:Nat} (x:EntAt h d es ep) (k:∀ o,h.get? d = some o→h'.get? d = some o):EntAt h' d es ep:=let ⟨o,ho,r⟩:=x; ⟨o,k o ho,r⟩
theorem EntAt.lt {h:Heap} {d:Addr} {es:Array DictEntry} {ep:Nat} (x:EntAt h d es ep):d < h.objs.size:=let ⟨_,ho,_⟩:=x; Heap.lt_size ho
section
variable {prog:Program} {w:World} {A:Around} {E:Value→Shared→Prop} {s:Shared}
theorem ent_iter {v d:Addr} {es:Array DictEntry} {ep:Nat} {Q:Value→Shared→Prop} (hv:s.heap.IsValuesView v d) (hm:EntAt s.heap d es ep)
    (hQ:Q (.ref s.heap.objs.size) { s with heap:=s.heap.push { cls:=.type "dict_valueiterator",data:=.fields #[.ref d,.int 0 0,.int es.size 0,.int ep 0] } }):wpAny (model prog w) A (pyIter (.ref v)) Q E s:=by
  obtain ⟨ov,a1,a2,a3⟩:=id hv
  obtain ⟨o,b1,b2,b3⟩:=id hm
  apply wpAny_pyIter_slot hv.typeIs F.slot_dict_values_iter
  refine wpAny_call_entry F.slot_dict_values_iter hv.typeIs F.entry_dict_values_iter ?_ (F.args_dict_values_iter_1 _)
  unfold Builtin.«dict_values.__iter__»
  apply wpAny_bind
  apply wpAny_pure
  apply wpAny_bind
  unfold Builtin.Dict_items.dictOf
  apply wpAny_bind
  refine wpAny_field a1 a3 (x:=.ref d) rfl ?_
  apply wpAny_pure
  apply wpAny_bind
  unfold Builtin.Dict_items.newIterator
  apply wpAny_bind
  refine wpAny_dictEntries b1 b3 ?_
  apply wpAny_bind
  refine wpAny_dictEpoch b1 b3 ?_
  simp only [show Builtin.Dict_items.ownsTuple "dict_valueiterator" = false by decide,Bool.false_eq_true,if_false]
  refine wpAny_newObj_type ?_
  apply wpAny_pure
  refine ⟨_,rfl,"dict_valueiterator",_,⟨_,Heap.get?_push_size _ rfl,rfl⟩,F.slot_dict_valueiterator_next.lookup,?_⟩
  simpa [rawInt] using hQ
theorem ent_item {it d:Addr} {i ep:Nat} {es:Array DictEntry} {Q:Option Value→Shared→Prop} (hit:s.heap.IsValIter it d i es.size ep) (hm:EntAt s.heap d es ep) (hi:i < es.size)
    (hQ:∀ h',h'.IsValIter it d (i + 1) es.size ep→Heap.SameBut it s.heap h'→Q (some es[i].val) { s with heap:=h' }):wpAny (model prog w) A (pyNext (.ref it)) Q E s:=by
  obtain ⟨oi,a1,a2,a3⟩:=id hit
  obtain ⟨o,b1,b2,b3⟩:=id hm
  unfold pyNext
  apply wpAny_bind
  apply wpAny_attempt
  refine wpAny_callSpecial?_slot (name:=Str.ofString "__next__") hit.typeIs F.slot_dict_valueiterator_next ?_
  refine wpAny_call_entry F.slot_dict_valueiterator_next hit.typeIs F.entry_dict_valueiterator_next ?_ (F.args_dict_valueiterator_next_1 _)
  apply wpAny_bind
  apply wpAny_pure
  apply wpAny_bind
  apply wpAny_bind
  apply wpAny_bind
  first | refine wpAny_typeNameOfWhole_valiter hit.typeIs ?_ | refine wpAny_typeNameOf_valiter hit.typeIs ?_
  apply wpAny_pure
  apply wpAny_bind
  refine wpAny_fieldsOf a1 a3 ?_
  simp only [show Builtin.Dict_items.ownsTuple "dict_valueiterator" = false by decide,Bool.false_eq_true,if_false]
  show wpAny _ _ (if (Value.ref d == Value.none) = true then _ else _) _ _ s
  rw [if_neg (by intro z; cases z)]
  apply wpAny_bind
  apply wpAny_pure
  apply wpAny_bind
  refine wpAny_dictEntries b1 b3 ?_
  rw [if_neg (by simp)]
  apply wpAny_bind
  apply wpAny_pure
  apply wpAny_bind
  refine wpAny_dictEpoch b1 b3 ?_
  rw [if_neg (by simp)]
  apply wpAny_pure
  simp only [show ¬ ((i:Int) < 0) by omega,if_false,Int.toNat_natCast,Array.getElem?_eq_getElem hi]
  apply wpAny_bind
  apply wpAny_bind
  first | refine wpAny_typeNameOfWhole_valiter hit.typeIs ?_ | refine wpAny_typeNameOf_valiter hit.typeIs ?_
  apply wpAny_pure
  apply wpAny_bind
  refine wpAny_isOneOf_valiter hit.typeIs ?_
  show wpAny _ _ (setField (.ref it) 1 (rawInt ((i:Int) + 1)) >>= _) _ _ s
  apply wpAny_bind
  refine wpAny_setField a1 a3 (by simp) ?_
  have hit':(s.heap.update it (Obj.mapFields (·.setIfInBounds 1 (rawInt ((i:Int) + 1))))).IsValIter it d (i + 1) es.size ep :=
    ⟨_,Heap.get?_update_self _ a1 (Obj.isFreed_of_fields (Obj.data_mapFields a3 _)),(Obj.cls_mapFields ..).trans a2,by rw [Obj.data_mapFields a3]; simp [rawInt]⟩
  apply wpAny_bind
  apply wpAny_holding
  apply wpAny_bind
  refine wpAny_isOneOf_valiter (s:={ s with heap:=s.heap.update it (Obj.mapFields (·.setIfInBounds 1 (rawInt ((i:Int) + 1)))) }) hit'.typeIs ?_
  apply wpAny_bind
  refine wpAny_isOneOf_valiter (s:={ s with heap:=s.heap.update it (Obj.mapFields (·.setIfInBounds 1 (rawInt ((i:Int) + 1)))) }) hit'.typeIs ?_
  show wpAny _ _ (pure es[i].val) _ _ _
  apply wpAny_pure
  apply wpAny_pure
  refine ⟨_,rfl,?_⟩
  apply wpAny_pure
  exact hQ _ hit' (Heap.SameBut.update ..)
theorem ent_end {it d:Addr} {ep:Nat} {es:Array DictEntry} {Q:Option Value→Shared→Prop} (hh:A.handled = none) (hit:s.heap.IsValIter it d es.size es.size ep) (hm:EntAt s.heap d es ep)
    (hQ:∀ h',Heap.ExtBut it s.heap h'→Q none { s with heap:=h' }):wpAny (model prog w) A (pyNext (.ref it)) Q E s:=by
  obtain ⟨oi,a1,a2,a3⟩:=id hit
  obtain ⟨o,b1,b2,b3⟩:=id hm
  unfold pyNext
  apply wpAny_bind
  apply wpAny_attempt
  refine wpAny_callSpecial?_slot (name:=Str.ofString "__next__") hit.typeIs F.slot_dict_valueiterator_next ?_
  refine wpAny_call_entry F.slot_dict_valueiterator_next hit.typeIs F.entry_dict_valueiterator_next ?_ (F.args_dict_valueiterator_next_1 _)
  apply wpAny_bind
  apply wpAny_pure
  apply wpAny_bind
  apply wpAny_bind
  apply wpAny_bind
  first | refine wpAny_typeNameOfWhole_valiter hit.typeIs ?_ | refine wpAny_typeNameOf_valiter hit.typeIs ?_
  apply wpAny_pure
  apply wpAny_bind
  refine wpAny_fieldsOf a1 a3 ?_
  simp only [show Builtin.Dict_items.ownsTuple "dict_valueiterator" = false by decide,Bool.false_eq_true,if_false]
  show wpAny _ _ (if (Value.ref d == Value.none) = true then _ else _) _ _ s
  rw [if_neg (by intro z; cases z)]
  apply wpAny_bind
  apply wpAny_pure
  apply wpAny_bind
  refine wpAny_dictEntries b1 b3 ?_
  rw [if_neg (by simp)]
  apply wpAny_bind
  apply wpAny_pure
  apply wpAny_bind
  refine wpAny_dictEpoch b1 b3 ?_
  rw [if_neg (by simp)]
  apply wpAny_pure
  simp only [show ¬ ((es.size:Int) < 0) by omega,if_false,Int.toNat_natCast,Array.getElem?_eq_none (Nat.le_refl _)]
  apply wpAny_bind
  apply wpAny_bind
  first | refine wpAny_typeNameOfWhole_valiter hit.typeIs ?_ | refine wpAny_typeNameOf_valiter hit.typeIs ?_
  apply wpAny_pure
  show wpAny _ _ (setField (.ref it) 0 .none >>= _) _ _ s
  apply wpAny_bind
  refine wpAny_setField a1 a3 (by simp) ?_
  show wpAny _ _ (newExc (.type "StopIteration") [] >>= _) _ _ _
  apply wpAny_bind
  simp only [newExc,newTuple]
  apply wpAny_bind
  refine wpAny_newObj_type ?_ (by size_fits)
  apply wpAny_bind (m:=firstArgMember _ _)
  refine wpAny_of_eq (a:=Value.none) (by first | rfl | (simp only [firstArgMember]; rfl)) ?_
  refine wpAny_newObj_type ?_ (by size_fits)
  simp only [raiseNew]
  apply wpAny_bind
  apply wpAny_handled
  rw [show A.in1.handled = none from hh]
  refine wpAny_bind (wpAny_pure ?_)
  apply wpAny_throw
  apply wpAny_bind
  refine wpAny_isInstance (T := "StopIteration") (b:=true) ⟨_,Heap.get?_push_size _ rfl,rfl⟩ isSubtype_stop ?_
  apply wpAny_pure
  exact hQ _ (((Heap.SameBut.update ..).extBut.push _).push _)
theorem ent_walks (hh:A.handled = none) (I d:Addr) (hne:d≠I) (es:Array DictEntry) (ep:Nat) :
    Walks prog w A I [I,d] [I] es.size (fun i v=>∃ e,es[i]? = some e∧e.val = v) (fun i h=>h.IsValIter I d i es.size ep∧EntAt h d es ep) where
  sub:=fun b hb=>by simp at hb; simp [hb]
  frame:=fun _ _ _ st hk=>⟨st.1.at fun o e=>hk I (by simp) o e,st.2.at fun o e=>hk d (by simp) o e⟩
  item:=fun i s Q E hi st hQ=>ent_item st.1 st.2 hi fun h' i' sb=>hQ _ h' s.toks ⟨_,Array.getElem?_eq_getElem hi,rfl⟩ ⟨i',st.2.at fun o e=>sb.extBut d o hne e⟩ fun b o hb e=>sb.extBut b o (fun h=>hb (by simp [h])) e
  done:=fun s Q E st hQ=>ent_end hh st.1 st.2 fun h' he=>hQ h' s.toks fun b o hb e=>he b o (fun h=>hb (by simp [h])) e
  self:=fun _ _ _ _ st hQ=>wpAny_pyIter_valiter st.1 hQ
theorem ent_src {r d:Addr} {es:Array DictEntry} {ep:Nat}:KdlSrc prog w "dict_values" r d es.size (fun i v=>∃ e,es[i]? = some e∧e.val = v) (fun h=>h.IsValuesView r d∧EntAt h d es ep) where
  type:=fun _ hm=>hm.1.typeIs
  there:=fun _ hm=>⟨let ⟨_,ho,_⟩:=hm.1; Heap.lt_size ho,hm.2.lt⟩
  keep:=fun _ _ hm hk=>⟨let ⟨o,ho,x⟩:=hm.1; ⟨o,hk r (.inl rfl) o ho,x⟩,hm.2.at fun o e=>hk d (.inr rfl) o e⟩
  notList:=by decide
  notTuple:=by decide
  hint:=fun _ _ _ _ hm hq=>kdl_hint_values hm.1.typeIs hq
  iter:=fun _ _ hh hm=>⟨_,_,(fun _ _ hq=>ent_iter hm.1 hm.2 hq),ent_walks hh _ d (Nat.ne_of_lt hm.2.lt) es ep,⟨⟨_,Heap.get?_push_size _ rfl,rfl,rfl⟩,hm.2.at fun o e=>Heap.get?_push_of_some _ e⟩⟩
end
def viewO (v d:Addr):HO:=.ext fun h=>h.IsValuesView v d
theorem view_ok {P:Program} {w:World} {H:Hp} {h:Heap} {v d:Addr} (x:h.IsValuesView v d):ObjOk P w H h v (viewO v d) :=
  ⟨x,let ⟨o,ho,_⟩:=x; ⟨o,ho⟩,fun _ _ ⟨o,ho,r⟩ k=>⟨o,k _ ho,r⟩⟩
theorem dT_ent {P:Program} {w:World} {H:Hp} {h:Heap} {d:Addr} {kvs:List (List Key×V)} (x:ObjOk P w H h d (.dT kvs)):kvs.length≤sizeLine∧(d == sysModules) = false∧∃ es ep,EntAt h d es ep∧Vals (kvs.map (·.2)) (es.toList.map (·.val)):=by
  obtain ⟨hl,hs,xs,pr,o,es,ep,e,ex,ed,el,nd⟩:=x
  refine ⟨hl,hs,es,ep,⟨o,e,ex,ed⟩,?_⟩
  rw [el,List.map_map]
  clear el ed ex e hl nd
  induction pr with
  | nil=>exact .nil
  | cons a _ ih=>exact .cons a.2.2 ih
section
variable {X:Cx}
theorem mt_dvalues:MtR X "dict.values" (fun x vs H Q=>∃ d kvs,x = .ref d∧vs = []∧H d = some (.dT kvs)∧∀ v,H v = none→Q (.ref v) (upd H v (viewO v d))):=by
  intro pins s σ H x vs v us Q I rx rv h
  obtain ⟨d,kvs,rfl,rfl,hd,q⟩:=h
  cases rx
  cases rv
  obtain ⟨hl,hs,es,ep,he,_⟩:=dT_ent (I.hok d _ hd)
  have fin:EP X pins σ Q (.ref s.heap.objs.size) { s with heap:=s.heap.push { cls:=.type "dict_values",data:=.fields #[.ref d] } }:=by
    have I2:=I.laid (a:=s.heap.objs.size) (o:=viewO s.heap.objs.size d) (t':=s.toks) (h':=s.heap.push { cls:=.type "dict_values",data:=.fields #[.ref d] }) (fun b u e=>Heap.get?_push_of_some _ e) (Nat.le_refl _) (view_ok ⟨_,Heap.get?_push_size _ rfl,rfl,rfl⟩)
    exact ⟨.ref _,_,I2,rfl,q _ (I.hok.fresh (Nat.le_refl _))⟩
  refine wpAny_call_entry F.slot_dict_values he.typeIs F.entry_dict_values ?_ (F.args_dict_values_1 _)
  unfold Builtin.«dict.values»
  apply wpAny_bind
  unfold Builtin.Dict.noArgs
  apply wpAny_bind
  refine wpAny_notOrdered_dict he.typeIs ?_
  show wpAny _ _ (pure d) _ _ s
  apply wpAny_pure
  show wpAny _ _ (Builtin.Dict.showsAll d >>= _) _ _ s
  unfold Builtin.Dict.showsAll
  rw [if_neg (by rw [hs]; exact Bool.false_ne_true)]
  apply wpAny_bind
  apply wpAny_pure
  apply wpAny_bind
  refine wpAny_newObj_type ?_
  apply wpAny_pure
  exact ⟨_,rfl,fin⟩
theorem call_list_values (hc:X.calm = true):CallR X (.type "list") (fun xs H Q=>∃ v d kvs,xs = [.ref v]∧H v = some (viewO v d)∧H d = some (.dT kvs)∧∀ l,H l = none→Q (.ref l) (upd H l (.lst (kvs.map (·.2))))):=by
  intro pins s σ H xs us Q I r h
  obtain ⟨v,d,kvs,rfl,hv,hd,q⟩:=h
  obtain ⟨u,rfl,rx⟩:=vals1 r
  cases rx
  have hV:s.heap.IsValuesView v d:=(I.hok v _ hv).1
  obtain ⟨hl,hs,es,ep,he,vals⟩:=dT_ent (I.hok d _ hd)
  have hn:es.size = kvs.length:=by have:=vals.length; rw [List.length_map,List.length_map,Array.length_toList] at this; exact this.symm
  refine kdl_call ent_src (I.ok.hd hc) ⟨hV,he⟩ (by omega) fun h' tk acc' c' kp e hacc=>?_
  obtain ⟨acc⟩:=acc'
  have eq:acc = es.toList.map (·.val):=by
    apply List.ext_getElem
    · have:=hacc.1
      rw [List.length_map,Array.length_toList]
      simpa using this
    · intro j h1 h2
      obtain ⟨en,e1,e2⟩:=hacc.2 j acc[j] (by simp [h1])
      rw [List.getElem_map,← e2]
      have:es.toList[j]? = some en:=by rw [Array.getElem?_toList]; exact e1
      rw [List.getElem?_eq_getElem (by rw [List.length_map] at h2; exact h2)] at this
      rw [Option.some.inj this]
  subst eq
  exact ⟨.ref s.heap.objs.size,_,I.laid (t':=tk) kp (Nat.le_refl _) (show ObjOk X.prog X.w _ h' _ (.lst (kvs.map (·.2))) from ⟨by rw [List.length_map]; exact hl,_,c',vals,e⟩),rfl,q _ (I.hok.fresh (Nat.le_refl _))⟩
end
end L2
namespace L2
open PySem PySem.Spec PyProof.Rows PySem.W
section
variable {prog:Program} {w:World} {A:Around} {E:Value→Shared→Prop} {s:Shared}
theorem ent_forEmpty {id:String} {d:Addr} {o:Obj} {es:Array DictEntry} {ep:Nat} {Q:Array DictEntry→Shared→Prop} (ho:s.heap.get? d = some o) (hd:o.data = .dict es ep)
    (hk:∀ e∈es.toList,∃ a,e.key = .ref a∧s.TypeIs (.ref a) "tuple") (hu:∀ e∈es.toList,(es.filter (·.hash == e.hash)).size≤1) (h:Q es s):wpAny (model prog w) A (Builtin.Dict.entriesForEmpty id d) Q E s:=by
  unfold Builtin.Dict.entriesForEmpty
  refine wpAny_bind (wpAny_dictEntries ho hd ?_)
  refine wpAny_bind ?_
  rw [← Array.forIn_toList]
  refine wpAny_forIn_list _ (fun rest _ s'=>s' = s∧∀ e∈rest,e∈es.toList) _ ?_ ?_ _ _ ⟨rfl,fun e h=>h⟩
  · rintro x rest b s' ⟨rfl,hr⟩
    obtain ⟨a,ek,ht⟩:=hk x (hr x (List.mem_cons_self ..))
    rw [ek]
    unfold Builtin.Dict.quietEq
    refine wpAny_bind (wpAny_bind (wpAny_specialOf ht F.slot_tuple_eq.lookup (wpAny_pure ?_)))
    rw [if_pos (by decide),if_neg (Nat.not_lt.mpr (hu x (hr x (List.mem_cons_self ..))))]
    exact wpAny_pure ⟨rfl,fun e he=>hr e (List.mem_cons_of_mem _ he)⟩
  · rintro b s' ⟨rfl,_⟩
    exact wpAny_pure h
theorem ent_merge {nm:String} {d o:Addr} {od oo:Obj} {es:Array DictEntry} {epd epo:Nat} {Q:Unit→Shared→Prop} (hdo:d≠o) (hoS:(o == sysModules) = false) (hod:s.heap.get? d = some od) (hdd:od.data = .dict #[] epd) (hoo:s.heap.get? o = some oo) (hdo':oo.data = .dict es epo)
    (hk:∀ e∈es.toList,∃ a,e.key = .ref a∧s.TypeIs (.ref a) "tuple") (hu:∀ e∈es.toList,(es.filter (·.hash == e.hash)).size≤1) (hz:es.size≤sizeLine)
    (h0:es = #[]→Q () s) (h1:es≠#[]→Q () { s with heap:=s.heap.update d (Obj.mapDictKeys fun _=>es) }):wpAny (model prog w) A (Builtin.Dict.mergeDict nm d o) Q E s:=by
  unfold Builtin.Dict.mergeDict
  rw [if_neg (by simpa using hdo)]
  unfold Builtin.Dict.showsAll
  rw [if_neg (by rw [hoS]; exact Bool.false_ne_true)]
  refine wpAny_bind (wpAny_pure ?_)
  refine wpAny_bind (wpAny_dictEntries hoo hdo' ?_)
  dsimp only
  by_cases em:es = #[]
  · subst em
    rw [show (decide ((#[]:Array DictEntry).size≤8) && (#[]:Array DictEntry).all fun e=>(keyPart e.key).isSome) = true by simp,if_neg (by decide)]
    refine wpAny_bind (wpAny_dictEpoch hoo hdo' ?_)
    refine wpAny_bind (wpAny_dictEntries hoo hdo' ?_)
    refine wpAny_bind ?_
    rw [Std.Legacy.Range.forIn_eq_forIn_range']
    simp only [Std.Legacy.Range.size,Nat.sub_zero,Nat.add_sub_cancel,Nat.div_one]
    show wpAny _ _ (forIn (List.range' 0 0) PUnit.unit _) _ _ _
    exact wpAny_pure (wpAny_pure (h0 rfl))
  · have few:(decide (es.size≤8) && es.all fun e=>(keyPart e.key).isSome) = false:=by
      rw [Bool.and_eq_false_iff]
      refine .inr ?_
      rw [← Array.all_toList]
      cases hl:es.toList with
      | nil=>exact absurd (Array.toList_eq_nil_iff.mp hl) em
      | cons e r =>
        obtain ⟨a,ek,_⟩:=hk e (by rw [hl]; exact List.mem_cons_self ..)
        rw [List.all_cons,ek]
        rfl
    rw [few,if_pos (by decide)]
    refine wpAny_bind (wpAny_dictEntries hod hdd ?_)
    rw [if_pos (by decide)]
    refine wpAny_bind (ent_forEmpty hoo hdo' hk hu ?_)
    rw [if_pos (by simpa using em)]
    exact wpAny_bind (wpAny_updateDictKeysTo hod hdd (wpAny_pure (h1 em)) (by omega))
end
theorem paired_key {H:Hp} {kvs:List (List Key×V)} {ys:List (List Key×Addr×Value)} (pr:Paired (fun (p:List Key×V) (q:List Key×Addr×Value)=>p.1 = q.1∧H q.2.1 = some (.tup (p.1.map kV))∧RelV p.2 q.2.2) kvs ys) :
    ∀ y∈ys,y.1∈kvs.map (·.1)∧∃ k:List Key,H y.2.1 = some (.tup (k.map kV)):=by
  induction pr with
  | nil=>intro y hy; cases hy
  | @cons p q _ _ a _ ih =>
    intro y hy
    rcases List.mem_cons.mp hy with rfl | hy
    · exact ⟨by rw [← a.1]; exact List.mem_cons_self ..,_,a.2.1⟩
    · obtain ⟨h1,h2⟩:=ih y hy
      exact ⟨List.mem_cons_of_mem _ h1,h2⟩
theorem one_of_nodup {α β:Type} {g:α→β} {l:List α} (nd:(l.map g).Nodup) (h:∀ a∈l,∀ b∈l,g a = g b):l.length≤1:=by
  match l,nd,h with
  | [],_,_=>exact Nat.zero_le _
  | [_],_,_=>exact Nat.le_refl _
  | a :: b :: l,nd,h =>
    have e:=h a (List.mem_cons_self ..) b (List.mem_cons_of_mem _ (List.mem_cons_self ..))
    rw [List.map_cons,List.map_cons,e] at nd
    exact absurd (List.mem_cons_self ..) (List.nodup_cons.mp nd).1
section
variable {X:Cx}
theorem call_dict_dT:CallR X (.type "dict") (fun xs H Q=>∃ d kvs,xs = [.ref d]∧H d = some (.dT kvs)∧(∀ k∈kvs.map (·.1),∀ k'∈kvs.map (·.1),tupleKeyHash (mixKind X.prog X.w) k = tupleKeyHash (mixKind X.prog X.w) k'→k = k')∧∀ l,H l = none→Q (.ref l) (upd H l (.dT kvs))):=by
  intro pins s σ H xs us Q I r h
  obtain ⟨d,kvs,rfl,hd,hin,q⟩:=h
  obtain ⟨u,rfl,rx⟩:=vals1 r
  cases rx
  obtain ⟨hl,hs,ys,pr,o,es,ep,e,ex,ed,el,nd⟩:=I.hok d _ hd
  have hdT:s.TypeIs (.ref d) "dict" := ⟨o,e,ex.1⟩
  have hne:s.heap.objs.size≠d:=Nat.ne_of_gt (Heap.lt_size e)
  have lys:=Paired.length pr
  have les:es.size = kvs.length:=by
    have:=congrArg List.length el
    rw [List.length_map,Array.length_toList] at this
    omega
  have keyA:=paired_key pr
  refine callType_codes (Q₁:=fun obj s₁=>obj = .ref s.heap.objs.size∧s₁ = { s with heap:=s.heap.push { cls:=.type "dict",data:=.dict #[] } }) F.kt_called_dict (F.kt_typeCall_dict_1 _) F.entry_dict_init (kt_code_dict_new _ ⟨rfl,rfl⟩) ?_
  rintro obj s₁ ⟨rfl,rfl⟩
  have e':(s.heap.push { cls:=.type "dict",data:=.dict #[] }).get? d = some o:=Heap.get?_push_of_some _ e
  have hod:(s.heap.push { cls:=.type "dict",data:=.dict #[] }).get? s.heap.objs.size = some { cls:=.type "dict",data:=.dict #[] }:=Heap.get?_push_size _ rfl
  have hT':Shared.TypeIs { s with heap:=s.heap.push { cls:=.type "dict",data:=.dict #[] } } (.ref d) "dict" := ⟨o,e',ex.1⟩
  have hNT:Shared.TypeIs { s with heap:=s.heap.push { cls:=.type "dict",data:=.dict #[] } } (.ref s.heap.objs.size) "dict" := ⟨_,hod,rfl⟩
  refine ⟨hNT,F.args_dict_init_2 _ _,?_⟩
  unfold Builtin.«dict.__init__»
  refine wpAny_bind ?_
  unfold Builtin.Dict.selfAndRest
  refine wpAny_bind (wpAny_notOrdered_dict hNT ?_)
  show wpAny _ _ (pure (s.heap.objs.size,[Value.ref d])) _ _ _
  refine wpAny_pure ?_
  show wpAny _ _ (Builtin.Dict.updateFrom "dict.__init__" s.heap.objs.size (.ref d) [] .none) _ _ _
  unfold Builtin.Dict.updateFrom
  refine wpAny_bind (wpAny_typeOf hT' ?_)
  rw [if_neg (by decide)]
  refine wpAny_bind ?_
  unfold Builtin.Dict.merge
  refine wpAny_bind ?_
  unfold Builtin.Dict.readDirectly
  refine wpAny_bind (wpAny_isInstance hT' isSubtype_dict_dict ?_)
  simp only [Bool.not_true,Bool.false_eq_true,if_false]
  refine wpAny_bind (wpAny_specialOf hT' F.slot_dict_iter.lookup (wpAny_pure ?_))
  simp only [beq_self_eq_true,if_true]
  refine wpAny_bind (wpAny_pure ?_)
  have fin:∀ h':Heap,(∃ o' ep',h'.get? s.heap.objs.size = some o'∧o'.ExactDict∧o'.data = .dict es ep')→Heap.SameBut s.heap.objs.size (s.heap.push { cls:=.type "dict",data:=.dict #[] }) h'→EP X pins σ Q (.ref s.heap.objs.size) { s with heap:=h' }:=by
    rintro h' ⟨o',ep',g1,g2,g3⟩ sb
    have kp:∀ b u,s.heap.get? b = some u→h'.get? b = some u:=fun b u eb=>sb.extBut b u (Nat.ne_of_lt (Heap.lt_size eb)) (Heap.get?_push_of_some _ eb)
    have fr:=I.hok.fresh (Nat.le_refl s.heap.objs.size)
    have old:∀ y:Addr,∀ u,H y = some u→upd H s.heap.objs.size (.dT kvs) y = some u:=fun y u ey=>by rw [upd_ne (ne_of_none ey fr)]; exact ey
    have pr':Paired (fun (p:List Key×V) (q:List Key×Addr×Value)=>p.1 = q.1∧upd H s.heap.objs.size (.dT kvs) q.2.1 = some (.tup (p.1.map kV))∧RelV p.2 q.2.2) kvs ys:=Paired.mono (fun _ _ a=>⟨a.1,old _ _ a.2.1,a.2.2⟩) pr
    refine ⟨.ref _,_,I.laid (t':=s.toks) kp (Nat.le_refl _) (show ObjOk X.prog X.w _ h' _ (.dT kvs) from ⟨hl,?_,ys,pr',o',es,ep',g1,g2,g3,el,nd⟩),rfl,q _ fr⟩
    exact beq_eq_false_iff_ne.mpr fun z=>absurd I.big (by rw [← z]; exact Nat.lt_irrefl _)
  refine ent_merge (epd:=0) hne hs hod rfl e' ed (fun x hx=>?_) (fun x hx=>?_) (by omega) (fun em=>?_) fun em=>?_
  · rw [el] at hx
    obtain ⟨y,hy,rfl⟩:=List.mem_map.mp hx
    obtain ⟨_,k,hk⟩:=keyA y hy
    obtain ⟨_,its,_,ht⟩:=I.hok y.2.1 _ hk
    obtain ⟨ot,ho,hc,_⟩:=ht
    exact ⟨y.2.1,rfl,ot,Heap.get?_push_of_some _ ho,hc⟩
  · rw [el] at hx
    obtain ⟨y,hy,rfl⟩:=List.mem_map.mp hx
    rw [← Array.length_toList,Array.toList_filter,el,List.filter_map,List.length_map]
    refine one_of_nodup (g:=(·.1)) (nd.sublist ((List.filter_sublist ..).map _)) fun a ha b hb=>?_
    obtain ⟨ha,pa⟩:=List.mem_filter.mp ha
    obtain ⟨hb,pb⟩:=List.mem_filter.mp hb
    have pa:tupleKeyHash (mixKind X.prog X.w) a.1 = tupleKeyHash (mixKind X.prog X.w) y.1:=beq_iff_eq.mp pa
    have pb:tupleKeyHash (mixKind X.prog X.w) b.1 = tupleKeyHash (mixKind X.prog X.w) y.1:=beq_iff_eq.mp pb
    exact hin _ (keyA a ha).1 _ (keyA b hb).1 (pa.trans pb.symm)
  · show wpAny _ _ (Builtin.Dict.addKeywords s.heap.objs.size [] >>= _) _ _ _
    refine wpAny_bind (wpAny_pure (wpAny_pure ⟨rfl,fin _ ⟨_,0,hod,⟨rfl,rfl,rfl⟩,by rw [em]⟩ (Heap.SameBut.refl _ _)⟩))
  · show wpAny _ _ (Builtin.Dict.addKeywords s.heap.objs.size [] >>= _) _ _ _
    refine wpAny_bind (wpAny_pure (wpAny_pure ⟨rfl,fin _ ⟨_,0 + 1,Heap.get?_update_self _ hod (Obj.isFreed_of_dict (Obj.data_mapDictKeys rfl _)),Obj.ExactDict.mapDictKeys ⟨rfl,rfl,rfl⟩ _,Obj.data_mapDictKeys rfl _⟩ (Heap.SameBut.update ..)⟩))
end
end L2
namespace L2
open PySem PySem.Spec PyProof.Rows
end L2
namespace PySem
open PySem.Spec PySem.Calls PyProof.Rows
theorem F.sub_ri_reversed:isSubtype (.type "range_iterator") (.type "reversed") = pure false:=by rw [isSubtype_type]; kernel_rfl
section
variable {prog:Program} {w:World} {A:Around} {E:Value→Shared→Prop} {s:Shared}
theorem rng_fields {r:Addr} {a b c:Int} {t u v:Tok} {Q:Int×Int×Int→Shared→Prop} (hr:s.heap.get? r = some { cls:=.type "range",data:=.fields #[.int a t,.int b u,.int c v] }) (h:Q (a,b,c) s):wpAny (model prog w) A (Builtin.Range.rangeFields (.ref r)) Q E s:=by
  unfold Builtin.Range.rangeFields
  refine wpAny_bind (wpAny_field hr rfl (x:=.int a t) rfl ?_)
  refine wpAny_bind (wpAny_of_eq (a:=some a) rfl ?_)
  refine wpAny_bind (wpAny_field hr rfl (x:=.int b u) rfl ?_)
  refine wpAny_bind (wpAny_of_eq (a:=some b) rfl ?_)
  refine wpAny_bind (wpAny_field hr rfl (x:=.int c v) rfl ?_)
  refine wpAny_bind (wpAny_of_eq (a:=some c) rfl ?_)
  exact wpAny_pure h
def revRng (n:Nat):Obj:={ cls:=.type "range_iterator",dict:=none,data:=.fields #[rawInt ((n:Int) - 1),rawInt n,rawInt (-1)],slots:=#[] }
theorem call_range_reversed {r:Addr} {n:Nat} {t u v:Tok} {Q:Value→Shared→Prop} (hn:n≤1000) (hr:s.heap.get? r = some { cls:=.type "range",data:=.fields #[.int 0 t,.int n u,.int 1 v] })
    (h:Q (.ref s.heap.objs.size) { s with heap:=s.heap.push (revRng n) }):wpAny (model prog w) A (call (.builtin "range.__reversed__") [.ref r]) Q E s:=by
  have hT:s.TypeIs (.ref r) "range" := ⟨_,hr,rfl⟩
  refine wpAny_call_entry F.slot_range_reversed hT F.entry_range_reversed ?_ (F.args_range_reversed_1 _)
  unfold Builtin.«range.__reversed__»
  refine wpAny_bind (wpAny_of_eq (a:=Value.ref r) rfl ?_)
  refine wpAny_bind (rng_fields hr ?_)
  have e1:Builtin.Range.rangeSize 0 (n:Int) 1 = n:=by
    unfold Builtin.Range.rangeSize
    rw [if_pos (by decide)]
    by_cases z:(0:Int) < n
    · rw [if_pos z]; omega
    · rw [if_neg z]; omega
  have f:∀ i:Int,-2000≤i→i≤2000→Builtin.Range.rangeFitsLong i = true:=fun i h1 h2=>by
    unfold Builtin.Range.rangeFitsLong
    rw [decide_eq_true (show -(2 ^ 63)≤i by omega),decide_eq_true (show i < 2 ^ 63 by omega)]
    rfl
  dsimp only
  rw [e1,f 0 (by omega) (by omega),f n (by omega) (by omega),f 1 (by omega) (by omega),f (-1) (by omega) (by omega),f (0 - 1) (by omega) (by omega)]
  simp only [Bool.and_self,Bool.not_true,Bool.false_eq_true,if_false,if_true]
  rw [show (0:Int) + ((n:Int) - 1) * 1 = (n:Int) - 1 by omega]
  unfold newFields
  refine wpAny_bind (wpAny_newObj_type ?_)
  exact wpAny_pure ⟨_,rfl,h⟩
theorem code_reversed_rng {r:Addr} {n:Nat} {t u v:Tok} {Q₁:Value→Shared→Prop} (hn:n≤1000) (hr:s.heap.get? r = some { cls:=.type "range",data:=.fields #[.int 0 t,.int n u,.int 1 v] })
    (h:Q₁ (.ref s.heap.objs.size) { s with heap:=s.heap.push (revRng n) }) :
    codeAny (model prog w) A (.call (.builtin "reversed.__new__") ⟨[.type "reversed",.ref r],[]⟩) (wants Q₁ E) s:=by
  have hT:s.TypeIs (.ref r) "range" := ⟨_,hr,rfl⟩
  refine codeAny_of_tree ?_
  show wpAny _ A.in1 (do checkBuiltinCall "reversed.__new__" ⟨[.type "reversed",.ref r],[]⟩; again (.builtin "reversed.__new__" ⟨[.type "reversed",.ref r],[]⟩)) _ _ s
  refine wpAny_bind (wpAny_of_eq (F.newCall_reversed_1 _) (wpAny_pure ⟨plainId_quiet F.plain_reversed_new _,codeAny_builtin F.entry_reversed_new ?_⟩))
  rw [Around.under_plainId F.plain_reversed_new _]
  unfold Builtin.«reversed.__new__»
  refine wpAny_bind (wpAny_of_eq (newClass_reversed _) ?_)
  try dsimp only
  refine wpAny_bind (wpAny_of_eq (a:=()) (by first | rfl | kernel_rfl) ?_)
  refine wpAny_bind (wpAny_of_eq (a:=()) (by first | rfl | kernel_rfl) ?_)
  try dsimp only
  refine wpAny_bind (wpAny_specialOf hT F.slot_range_reversed.lookup ?_)
  try dsimp only
  refine wpAny_bind (wpAny_of_eq (F.slot_range_reversed.bind _) ?_)
  try dsimp only
  first
  | rw [if_neg (show ¬ ((Value.builtin "range.__reversed__" == Value.none) = true) from Bool.false_ne_true)]
  | (show wpAny _ _ (if (Value.builtin "range.__reversed__" == Value.none) = true then _ else _) _ _ _; rw [if_neg (show ¬ ((Value.builtin "range.__reversed__" == Value.none) = true) from Bool.false_ne_true)])
  refine wpAny_bind (wpAny_rule ?_)
  refine wpAny_bind (m:=runValue (.call (.builtin "range.__reversed__") ⟨[.ref r],[]⟩)) (show wpAny _ _ (call (.builtin "range.__reversed__") [.ref r]) _ _ _ from call_range_reversed hn hr ?_)
  first
  | exact wpAny_pure h
  | exact wpAny_bind (wpAny_pure (wpAny_pure h))
theorem call_reversed_rng {r:Addr} {n:Nat} {t u v:Tok} {Q:Value→Shared→Prop} (hn:n≤1000) (hr:s.heap.get? r = some { cls:=.type "range",data:=.fields #[.int 0 t,.int n u,.int 1 v] })
    (h:Q (.ref s.heap.objs.size) { s with heap:=s.heap.push (revRng n) }):wpAny (model prog w) A (call (.type "reversed") [.ref r]) Q E s:=by
  refine callType_other (U := "range_iterator") (Q₁:=fun obj s₁=>obj = .ref s.heap.objs.size∧s₁ = { s with heap:=s.heap.push (revRng n) }) (by decide +kernel) F.create_reversed ⟨_,_,F.mro_reversed⟩ F.made_reversed F.sub_ri_reversed (F.typeCall_reversed_1 _) (code_reversed_rng hn hr ⟨rfl,rfl⟩) ?_
  rintro obj s₁ ⟨rfl,rfl⟩
  exact ⟨⟨_,Heap.get?_push_size _ rfl,rfl⟩,h⟩
end
end PySem
namespace L2
open PySem PySem.Spec PyProof.Rows
def Itv (n:Nat):It:=⟨fun i _=>i < n,fun i H x H'=>H' = H∧x = .int ((n:Int) - 1 + (i:Nat) * (-1)),fun i _=>n≤i⟩
theorem turn_rev {P:Program} {w:World} {K:PySem.W.Frag} {tg:Expr} (it:Addr) (n:Nat):Turn P w K tg (Itv n) [it] it (fun i h=>IsRangeIter h it ((n:Int) - 1 + (i:Nat) * (-1)) ((n:Int) - (i:Nat)) (-1)) where
  mem:=by simp
  obj:=fun i h st b hb=>by
    have e:b = it:=by simpa using hb
    subst e
    exact ⟨_,st,fun v z=>by
      have z':Data.fields _ = Data.cell v:=z
      cases z'⟩
  keep:=fun i h h' st k=>k it (by simp) _ st
  item:=by
    intro X hP hw hK hc i pins s σ H E I hf st hg
    subst hP hw hK
    obtain ⟨f0,f1,f2,f3,f4,f5⟩:=hf it (by simp)
    have W:=Walks.range (prog:=X.prog) (w:=X.w) (I.ok.hd hc) it ((n:Int) - 1) (-1) n
    refine W.item i s _ _ hg st fun v h' tk hv st' kk=>?_
    obtain ⟨t,rfl⟩:=hv
    have I1:Inv X pins σ H { s with heap:=h',toks:=tk }:=I.turned (fun b o hb e=>kk b o (by simpa using hb) e) f0 f1 f3 f4 f5
    exact ⟨_,rfl,go_of (s:={ s with heap:=h',toks:=tk }) (n := "range_iterator") st' rfl rfl (by decide) ⟨.int _,H,I1,⟨t,rfl⟩,⟨rfl,rfl⟩,st',fun b hb=>(hf b hb).1⟩⟩
  done:=by
    intro X hP hw hK hc i pins s σ H E I hf st hg
    subst hP hw hK
    obtain ⟨f0,f1,f2,f3,f4,f5⟩:=hf it (by simp)
    exact wpAny_pyNext_range_end (I.ok.hd hc) st (by have:n≤i:=hg; omega) fun h' eb=>⟨rfl,I.turned (t':=s.toks) (fun b o hb e=>eb b o hb e) f0 f1 f3 f4 f5⟩
  self:=fun _ _ _ _ _ st h=>wpAny_pyIter_rangeiter st h
def iRev (ta:TA):TI:=fun σ H R=>ta σ H fun vs H1=>∃ (p:Addr) (n:Nat),vs = [.ref p]∧H1 p = some (.rng 0 (n:Nat))∧n≤1000∧R (Itv n) H1
section
variable {X:Cx} {tg:Expr}
theorem pi_rev {a:Expr} {ta:TA} {p pos:Pos} (hg:Gl X "reversed") (hm:X.mg "reversed" = none) (ha:PA X [a] ta) (hs:starEach [a] X.env = [(false,eval a X.env)]:=by rfl):PI X tg (.Call (.Name "reversed" p) [a] [] pos) (iRev ta):=by
  intro pins s σ H R I h
  refine Call_ (ld_blt I hg hm boot_reversed (PyProof.Rows.callWith_type1 (thn (ha pos pins s σ H _ I h) fun us s1 ⟨vs,H1,I1,r1,q1⟩=>?_) hs rfl))
  obtain ⟨l,n,e,hp,hn,q⟩:=q1
  subst e
  obtain ⟨u,rfl,rx⟩:=vals1 r1
  cases rx
  obtain ⟨t,u,v,hr⟩:=I1.hok l _ hp
  refine call_reversed_rng hn hr ?_
  have I2:Inv X pins σ H1 { s1 with heap:=s1.heap.push (revRng n) }:=I1.kept (t':=s1.toks) fun b o e=>Heap.get?_push_of_some _ e
  have st:IsRangeIter (s1.heap.push (revRng n)) s1.heap.objs.size ((n:Int) - 1 + ((0:Nat):Int) * (-1)) ((n:Int) - ((0:Nat):Int)) (-1):=by
    rw [show (n:Int) - 1 + ((0:Nat):Int) * (-1) = (n:Int) - 1 by omega,show (n:Int) - ((0:Nat):Int) = (n:Int) by omega]
    exact Heap.get?_push_size _ rfl
  refine wpAny_pyIter_rangeiter (s:={ s1 with heap:=s1.heap.push (revRng n) }) st ?_
  refine ⟨s1.heap.objs.size,[s1.heap.objs.size],_,_,H1,rfl,I2,turn_rev _ n,st,fun b hb=>?_,q⟩
  have e:b = s1.heap.objs.size:=by simpa using hb
  subst e
  exact I1.fpOk (Nat.le_refl _) (I1.hok.fresh (Nat.le_refl _))
end
theorem for_rev {n:Nat} {g:TG} {tb:TS} {D:Ends} {σ:St} {H:Hp} (Pv:Nat→St→Hp→Prop) (h0:Pv 0 σ H)
    (hs:∀ i σ H,i < n→Pv i σ H→g (.int ((n - 1 - i:Nat):Int)) σ H fun σ2 H2=>tb { D with nx:=Pv (i + 1),ct:=Pv (i + 1),bk:=D.nx } σ2 H2) (hd:∀ σ H,Pv n σ H→D.nx σ H) :
    ∃ W:Nat→Nat→St→Hp→Prop,(∃ m,W 0 m σ H)∧∀ i m σ H,W i m σ H →
      ((Itv n).stop i H∧D.nx σ H)∨((Itv n).go i H∧∃ N:St→Hp→Prop,(∀ σ' H',N σ' H'→∃ m',m' < m∧W (i + 1) m' σ' H')∧∀ x H',(Itv n).yld i H x H'→g x σ H' fun σ2 H2=>tb { D with nx:=N,ct:=N,bk:=D.nx } σ2 H2):=by
  refine ⟨fun i m σ H=>m = n - i∧i≤n∧Pv i σ H,⟨n,by simp,Nat.zero_le _,h0⟩,?_⟩
  rintro i m σ H ⟨rfl,hi,p⟩
  by_cases hlt:i < n
  · refine .inr ⟨hlt,Pv (i + 1),fun σ' H' p'=>⟨n - (i + 1),by omega,rfl,hlt,p'⟩,fun x H' y=>?_⟩
    obtain ⟨e,y⟩:=y
    subst e y
    have:=hs i σ H' hlt p
    rw [show (n:Int) - 1 + ((i:Nat):Int) * (-1) = ((n - 1 - i:Nat):Int) by omega]
    exact this
  · have e:i = n:=by omega
    subst e
    exact .inl ⟨Nat.le_refl _,hd σ H p⟩
end L2
namespace L2
open PySem PySem.Spec PyProof.Rows
def mnB:Option Int→Int→Int
  | none,y=>y
  | some x,y=>if y < x then y else x
def mnL:Option Int→List Int→Option Int
  | b,[]=>b
  | b,y :: r=>mnL (some (mnB b y)) r
def MnAt (S:Addr) (h:Heap) (b:Option Int):Prop:=∃ (vs:Array Value) (c:Nat),h.get? S = some { cls:=.type "list",dict:=none,data:=.seq vs c,slots:=#[] }∧match b with
  | none=>vs = #[]
  | some x=>∃ t,vs = #[.int x t,.int x t]
def MnRes (d:Value) (b:Option Int) (v:Value):Prop:=match b with
  | none=>v = d
  | some x=>∃ t,v = .int x t
theorem mind_loop {prog:Program} {w:World} {A:Around} {R:Result→Shared→Prop} {I:Addr} {fp wr:List Addr} {n:Nat} {P:Nat→Value→Prop} {St:Nat→Heap→Prop} {nm:Str} {d:Value} {g:Nat→Int}
    (W:Walks prog w A.in1 I fp wr n P St) (hg:∀ i v,P i v→∃ t,v = .int (g i) t) {S:Addr} (out:S∉fp) :
    ∀ (l:List Int) (j:Nat) (s:Shared) (b:Option Int),j + l.length = n→(∀ i y,l[i]? = some y→y = g (j + i))→St j s.heap→MnAt S s.heap b →
    (∀ v h' tk,MnRes d (mnL b l) v→(∀ a o,a∉wr→a≠S→s.heap.get? a = some o→h'.get? a = some o)→R (.ok (.ret v)) { s with heap:=h',toks:=tk }) →
    codeAny (model prog w) A (.builtin "min.loop" ⟨[.ref I,.none,.ref S],[(nm,d)]⟩) R s:=by
  have out2:S∉wr:=fun z=>out (W.sub _ z)
  have nme:(toString "min" ++ toString ".loop" : String) = "min.loop" := by decide
  intro l
  induction l with
  | nil =>
    intro j s b hj hl st m q
    obtain rfl:j = n:=hj
    obtain ⟨vs,c,e,z⟩:=id m
    apply codeAny_builtin PySem.F.entry_min_loop
    rw [Around.under_plainId PySem.F.plain_min_loop]
    apply wpAny_bind
    apply wpAny_seqItems e rfl
    apply wpAny_bind
    apply wpAny_tryCatch
    apply W.done s _ _ st
    intro h' tk k
    cases b with
    | none =>
      subst z
      apply wpAny_bind
      apply wpAny_rule
      apply wpAny_pure
      exact q d h' tk rfl fun a o h1 _ h3=>k a o h1 h3
    | some x =>
      obtain ⟨t,rfl⟩:=z
      apply wpAny_bind
      refine wpAny_updateSeq (k S _ out2 e) rfl ?_
      apply wpAny_bind
      apply wpAny_letGo
      apply wpAny_pure
      exact q _ _ tk ⟨t,rfl⟩ fun a o h1 h2 h3=>(Heap.get?_update_other _ _ (Ne.symm h2)).trans (k a o h1 h3)
  | cons y l ih =>
    intro j s b hj hl st m q
    obtain ⟨vs,c,e,z⟩:=id m
    have hj2:j < n:=by rw [← hj,List.length_cons]; omega
    have ey:y = g j:=hl 0 y rfl
    apply codeAny_builtin PySem.F.entry_min_loop
    rw [Around.under_plainId PySem.F.plain_min_loop]
    apply wpAny_bind
    apply wpAny_seqItems e rfl
    apply wpAny_bind
    apply wpAny_tryCatch
    apply W.item j s _ _ hj2 st
    intro v h' tk pv st' k
    obtain ⟨tv,rfl⟩:=hg j v pv
    have e':=k S _ out2 e
    have next:∀ (h2:Heap),MnAt S h2 (some (mnB b y))→(∀ a o,a≠S→h'.get? a = some o→h2.get? a = some o)→codeAny (model prog w) A (.builtin "min.loop" ⟨[.ref I,.none,.ref S],[(nm,d)]⟩) R { s with heap:=h2,toks:=tk }:=fun h2 m2 k2 =>
      ih (j + 1) { s with heap:=h2,toks:=tk } _ (by rw [← hj,List.length_cons]; omega) (fun i y' hy=>(hl (i + 1) y' hy).trans (by congr 1; omega))
        (W.frame _ _ _ st' fun a ha o ho=>k2 a o (fun z=>out (z ▸ ha)) ho) m2 fun v2 h3 tk2 r k3=>q v2 h3 tk2 r fun a o h1 h2' h3'=>k3 a o h1 h2' (k2 a o h2' (k a o h1 h3'))
    cases b with
    | none =>
      subst z
      show wpAny _ _ (updateSeq S (fun _=>#[.int (g j) tv,.int (g j) tv]) >>= _) _ _ _
      apply wpAny_bind
      refine wpAny_updateSeq e' rfl ?_
      rw [nme]
      apply wpAny_pure
      refine ⟨plainId_quiet PySem.F.plain_min_loop _,next _ ⟨_,_,Heap.get?_update_self _ e' rfl,tv,?_⟩ fun a o h1 h2=>(Heap.get?_update_other _ _ (Ne.symm h1)).trans h2⟩
      rw [ey]; rfl
    | some x =>
      obtain ⟨t,rfl⟩:=z
      show wpAny _ _ (tryCatch (holding [.int (g j) tv,.int (g j) tv] (richCompare .Lt (.int (g j) tv) (.int x t) >>= _)) _ >>= _) _ _ _
      apply wpAny_bind
      apply wpAny_tryCatch
      apply wpAny_holding
      apply wpAny_bind
      refine CmpOf.ints_lt (P:=fun i v=>∃ t,v = .int (if i = 0 then g j else x) t) (fun i=>if i = 0 then g j else x) (fun _ _ z=>z) 0 1 _ _ _ _ _ ⟨_,rfl⟩ ⟨_,rfl⟩ ?_
      apply wpAny_bind
      apply wpAny_holding
      apply wpAny_truthy_bool
      apply wpAny_bind
      apply wpAny_letGo
      apply wpAny_pure
      by_cases gt:g j < x
      · rw [if_pos (show (fun i j_1:Nat=>decide ((if i = 0 then g j else x) < if j_1 = 0 then g j else x)) 0 1 = true from decide_eq_true gt)]
        apply wpAny_bind
        refine wpAny_updateSeq e' rfl ?_
        apply wpAny_bind
        apply wpAny_letGo
        rw [nme]
        apply wpAny_pure
        refine ⟨plainId_quiet PySem.F.plain_min_loop _,next _ ⟨_,_,Heap.get?_update_self _ e' rfl,tv,?_⟩ fun a o h1 h2=>(Heap.get?_update_other _ _ (Ne.symm h1)).trans h2⟩
        rw [show mnB (some x) y = g j by rw [ey]; exact if_pos gt]
      · rw [if_neg (show ¬(fun i j_1:Nat=>decide ((if i = 0 then g j else x) < if j_1 = 0 then g j else x)) 0 1 = true from fun z=>gt (of_decide_eq_true z))]
        apply wpAny_bind
        apply wpAny_letGo
        rw [nme]
        apply wpAny_pure
        refine ⟨plainId_quiet PySem.F.plain_min_loop _,next _ ⟨_,_,e',t,?_⟩ fun a o _ h2=>h2⟩
        rw [show mnB (some x) y = x by rw [ey]; exact if_neg gt]
theorem args_mind (a v:Value):argsOk "min" ⟨[a],[(Str.ofString "default",v)]⟩:=by unfold argsOk; kernel_rfl
def mnV:Option Int→V→V
  | some x,_=>.int x
  | none,d=>d
theorem call_mind {X:Cx} {pins:List (Addr×Obj)} {s:Shared} {σ:St} {H:Hp} {Q:VK} {p:Addr} {ns:List Int} {d:V} {ud:Value} (hc:X.calm = true) (I:Inv X pins σ H s) (hq:SqL X.K H p (ns.map V.int)) (rd:RelV d ud) (q:Q (mnV (mnL none ns) d) H) :
    wpAny (model X.prog X.w) X.A (call (.builtin "min") [.ref p] [(Str.ofString "default",ud)]) (EP X pins σ Q) X.xe s:=by
  obtain ⟨its,r',pl,hz⟩:=I.list hq
  have hlen:=r'.length
  obtain ⟨o,n,ho,_⟩:=id pl
  have hne:p≠s.heap.objs.size:=Nat.ne_of_lt (Heap.lt_size ho)
  have nme:(toString "min" ++ toString ".loop" : String) = "min.loop" := by decide
  refine kmb_tree PySem.F.kind_min PySem.F.plain_min PySem.F.entry_min (args_mind _ _) ?_
  show wpAny _ _ (Builtin.Builtins.bindParams "min" ["key","default"] 0 ⟨[],[(Str.ofString "default",ud)]⟩ >>= _) _ _ s
  apply wpAny_bind
  refine wpAny_of_eq (show Builtin.Builtins.bindParams "min" ["key","default"] 0 ⟨[],[(Str.ofString "default",ud)]⟩ = pure [none,some ud] from rfl) ?_
  apply wpAny_bind
  apply wpAny_pure
  apply wpAny_bind
  refine wpAny_pyIter_list pl.isList ?_
  apply wpAny_bind
  refine wpAny_newObj_type ?_
  rw [nme]
  refine wpAny_pure ⟨plainId_quiet PySem.F.plain_min_loop _,?_⟩
  refine mind_loop (fp:=[s.heap.objs.size,p]) (wr:=[s.heap.objs.size]) (g:=fun i=>ns.getD i 0) (Walks.list (A:=X.A.in1) (I.ok.hd hc) _ _ hne its.toArray) ?_ ?_ ns 0 _ none ?_ ?_ ?_ ?_ ?_
  · intro i v hv
    have hv':its[i]? = some v:=by simpa using hv
    have hi:i < ns.length:=by
      have:=(List.getElem?_eq_some_iff.mp hv').1
      rw [← hlen,List.length_map] at this; exact this
    obtain ⟨w,e1,e2⟩:=r'.get (i:=i) (x:=.int ns[i]) (by rw [List.getElem?_map,List.getElem?_eq_getElem hi]; rfl)
    rw [hv'] at e1
    cases e1
    obtain ⟨t,rfl⟩:=e2
    exact ⟨t,by rw [List.getD_eq_getElem?_getD,List.getElem?_eq_getElem hi]; rfl⟩
  · intro hm
    have e1:(s.heap.push { cls:=.type "list_iterator",data:=.fields #[.ref p,.int 0 0] }).objs.size = s.heap.objs.size + 1:=Heap.size_push ..
    have lt:=Heap.lt_size ho
    rcases List.mem_cons.mp hm with z | z
    · have:s.heap.objs.size + 1 = s.heap.objs.size:=e1.symm.trans z
      omega
    · have:s.heap.objs.size + 1 = p:=e1.symm.trans (List.mem_singleton.mp z)
      rw [← this] at lt
      exact absurd lt (Nat.not_lt.mpr (Nat.le_succ _))
  · rw [List.size_toArray,← hlen,List.length_map,Nat.zero_add]
  · intro i y hy
    rw [Nat.zero_add,List.getD_eq_getElem?_getD,hy]
    rfl
  · refine ⟨⟨_,Heap.get?_push_of_some _ (Heap.get?_push_size _ rfl),rfl,rfl⟩,?_⟩
    obtain ⟨o2,e2,r2⟩:=pl.isList
    exact ⟨o2,Heap.get?_push_of_some _ (Heap.get?_push_of_some _ e2),r2⟩
  · exact ⟨_,_,Heap.get?_push_size _ rfl,rfl⟩
  · intro v h' tk r k
    have k2:∀ b o,s.heap.get? b = some o→h'.get? b = some o:=fun b o e=>k b o (fun z=>by
        have e1:=Heap.lt_size e
        rw [List.mem_singleton.mp z] at e1
        exact absurd e1 (Nat.lt_irrefl _)) (fun z=>by
        have e1:=Heap.lt_size (Heap.get?_push_of_some { cls:=.type "list_iterator",data:=.fields #[.ref p,.int 0 0] } e)
        rw [z] at e1
        exact absurd e1 (Nat.lt_irrefl _)) (Heap.get?_push_of_some _ (Heap.get?_push_of_some _ e))
    cases e:mnL none ns with
    | none =>
      rw [e] at r q
      obtain rfl:v = ud:=r
      exact ⟨d,H,I.kept (t':=tk) k2,rd,q⟩
    | some x =>
      rw [e] at r q
      obtain ⟨tv,rfl⟩:∃ tv,v = .int x tv:=r
      exact ⟨.int x,H,I.kept (t':=tk) k2,⟨_,rfl⟩,q⟩
def tMind (K:PySem.W.Frag) (t tk:TA):TE:=fun σ H Q=>t σ H fun vs H1=>tk σ H1 fun zs H2=>∃ (p:Addr) (ns:List Int) (d:V),vs = [.ref p]∧zs = [d]∧SqL K H2 p (ns.map V.int)∧Q (mnV (mnL none ns) d) H2
theorem pe_mind {X:Cx} {e:Expr} {es:List Expr} {kws:List Keyword} {t tk:TA} {p pos:Pos} (hc:X.calm = true) (hg:Gl X "min") (hm:X.mg "min" = none) (hv:bootBuiltins "min" = some (.builtin "min"))
    (ha:PA X (e :: es) t) (hkw:PK X kws tk) (hall:(backToKw pos (keywordEach kws X.env)).all (·.1.isSome) = true:=by rfl) (hks:(backToKw pos (keywordEach kws X.env)).filterMap (·.1) = [Str.ofString "default"]:=by rfl)
    (he:starEach (e :: es) X.env = (false,eval e X.env) :: starEach es X.env:=by rfl)
    (hpl:(backTo pos (starEach (e :: es) X.env)).any (·.1) = false:=by rfl) (hpk:(backToKw pos (keywordEach kws X.env)).any (·.1.isNone) = false:=by rfl) :
    PE X (.Call (.Name "min" p) (e :: es) kws pos) (tMind X.K t tk):=by
  intro pins s σ H Q I h
  refine wpAny_Call_Name_kw (ld_blt I hg hm hv ?_ (by decide) (by decide))
  refine callWith_builtin_kwB hpl hpk (evalArgs_kw2 hall (thn (ha pos pins s σ H _ I h) fun us s1 ⟨vs,H1,I1,r,q⟩=>?_) he)
  refine thn (hkw pos pins s1 σ H1 _ I1 q) fun ws s2 ⟨zs,H2,I2,rz,q2⟩=>?_
  rw [hks]
  obtain ⟨l,ns,d,rfl,rfl,hq,q3⟩:=q2
  obtain ⟨u,rfl,rx⟩:=vals1 r
  cases rx
  obtain ⟨u,rfl,rd⟩:=vals1 rz
  exact call_mind hc I2 hq rd q3
end L2
namespace Dy
variable {S R N:Type}
structure Way (S N:Type) where
  p:Nat
  B:List N
  h:S
def run (step:S→R→N→Option S) (price:N→Nat):S→Nat→List R→List N→Option (Nat×S)
  | h,p,[],[]=>some (p,h)
  | h,p,r :: rs,n :: ns=>match step h r n with
    | some h'=>run step price h' (p + price n) rs ns
    | none=>none
  | _,_,[],_ :: _=>none
  | _,_,_ :: _,[]=>none
variable {step:S→R→N→Option S} {price:N→Nat}
theorem run_len:∀ {rs:List R} {ns:List N} {h:S} {p:Nat} {x:Nat×S},run step price h p rs ns = some x→ns.length = rs.length
  | [],[],_,_,_,_=>rfl
  | r :: rs,n :: ns,h,p,x,e=>by
    unfold run at e
    cases es:step h r n with
    | none=>rw [es] at e; cases e
    | some h' =>
      rw [es] at e
      rw [List.length_cons,List.length_cons,run_len (rs:=rs) (ns:=ns) e]
  | [],_ :: _,_,_,_,e=>by unfold run at e; cases e
  | _ :: _,[],_,_,_,e=>by unfold run at e; cases e
theorem run_snoc {r:R} {n:N}:∀ {rs:List R} {ns:List N} {h:S} {p:Nat} {p1:Nat} {h1 h2:S},run step price h p rs ns = some (p1,h1)→step h1 r n = some h2→run step price h p (rs ++ [r]) (ns ++ [n]) = some (p1 + price n,h2)
  | [],[],h,p,p1,h1,h2,e,es=>by
    unfold run at e
    cases e
    show run step price h p (r :: []) (n :: []) = _
    unfold run
    rw [es]
    rfl
  | r' :: rs,n' :: ns,h,p,p1,h1,h2,e,es=>by
    unfold run at e
    show run step price h p (r' :: (rs ++ [r])) (n' :: (ns ++ [n])) = _
    unfold run
    cases e':step h r' n' with
    | none=>rw [e'] at e; cases e
    | some h' =>
      rw [e'] at e
      exact run_snoc (rs:=rs) (ns:=ns) e es
  | [],_ :: _,_,_,_,_,_,e,_=>by unfold run at e; cases e
  | _ :: _,[],_,_,_,_,_,e,_=>by unfold run at e; cases e
theorem run_unsnoc {r:R}:∀ {rs:List R} {ns:List N} {h:S} {p:Nat} {x:Nat×S},run step price h p (rs ++ [r]) ns = some x→∃ ms n p1 h1,ns = ms ++ [n]∧run step price h p rs ms = some (p1,h1)∧step h1 r n = some x.2∧x.1 = p1 + price n
  | [],[],h,p,x,e=>by
    have e:run step price h p (r :: []) [] = some x:=e
    unfold run at e; cases e
  | [],n :: ns,h,p,x,e=>by
    have e:run step price h p (r :: []) (n :: ns) = some x:=e
    unfold run at e
    cases es:step h r n with
    | none=>rw [es] at e; cases e
    | some h' =>
      rw [es] at e
      cases ns with
      | nil =>
        have e:run step price h' (p + price n) [] [] = some x:=e
        unfold run at e
        cases e
        exact ⟨[],n,p,h,rfl,by unfold run; rfl,es,rfl⟩
      | cons m ns =>
        have e:run step price h' (p + price n) [] (m :: ns) = some x:=e
        unfold run at e; cases e
  | r' :: rs,[],h,p,x,e=>by
    have e:run step price h p (r' :: (rs ++ [r])) [] = some x:=e
    unfold run at e; cases e
  | r' :: rs,n' :: ns,h,p,x,e=>by
    have e:run step price h p (r' :: (rs ++ [r])) (n' :: ns) = some x:=e
    unfold run at e
    cases es:step h r' n' with
    | none=>rw [es] at e; cases e
    | some h' =>
      rw [es] at e
      obtain ⟨ms,n,p1,h1,e1,e2,e3,e4⟩:=run_unsnoc (rs:=rs) (ns:=ns) e
      refine ⟨n' :: ms,n,p1,h1,by rw [e1]; rfl,?_,e3,e4⟩
      unfold run
      rw [es]
      exact e2
structure Ok (step:S→R→N→Option S) (price:N→Nat) (h0:S) (NS:List N) (rs:List R) (W:List (Way S N)):Prop where
  snd:∀ w∈W,run step price h0 0 rs w.B = some (w.p,w.h)
  inN:∀ w∈W,∀ n∈w.B,n∈NS
  ful:∀ B p h,(∀ n∈B,n∈NS)→run step price h0 0 rs B = some (p,h)→∃ w∈W,w.h = h∧w.p≤p
theorem Ok.nil (h0:S) (NS:List N):Ok step price h0 NS [] [⟨0,[],h0⟩]:=by
  refine ⟨fun w hw=>?_,fun w hw n hn=>?_,fun B p h hB e=>?_⟩
  · rw [List.mem_singleton] at hw; subst hw; unfold run; rfl
  · rw [List.mem_singleton] at hw; subst hw; cases hn
  · cases B with
    | nil=>unfold run at e; cases e; exact ⟨_,List.mem_singleton.mpr rfl,rfl,Nat.le_refl _⟩
    | cons=>unfold run at e; cases e
structure Tb (step:S→R→N→Option S) (price:N→Nat) (h0:S) (NS:List N) (rs:List R) (r:R) (D:Way S N→N→Prop) (T:List (Way S N)):Prop where
  snd:∀ w∈T,run step price h0 0 (rs ++ [r]) w.B = some (w.p,w.h)
  inN:∀ w∈T,∀ n∈w.B,n∈NS
  ful:∀ w n h,D w n→step w.h r n = some h→∃ v∈T,v.h = h∧v.p≤w.p + price n
theorem Tb.end {h0:S} {NS:List N} {rs:List R} {r:R} {W T:List (Way S N)} {D:Way S N→N→Prop} (o:Ok step price h0 NS rs W) (t:Tb step price h0 NS rs r D T) (hD:∀ w∈W,∀ n∈NS,D w n):Ok step price h0 NS (rs ++ [r]) T:=by
  refine ⟨t.snd,t.inN,fun B p h hB e=>?_⟩
  obtain ⟨ms,n,p1,h1,rfl,e2,e3,e4⟩:=run_unsnoc e
  obtain ⟨w,hw,e5,l5⟩:=o.ful ms p1 h1 (fun n hn=>hB n (List.mem_append_left _ hn)) e2
  have e4:p = p1 + price n:=e4
  have e3:step h1 r n = some h:=e3
  rw [← e5] at e3
  obtain ⟨v,hv,e6,l6⟩:=t.ful w n h (hD w hw n (hB n (List.mem_append_right _ (List.mem_singleton.mpr rfl)))) e3
  exact ⟨v,hv,e6,by omega⟩
def put (c:Way S N→Bool) (T:List (Way S N)) (x:Way S N):List (Way S N):=if T.any c = true then T.map (fun w=>if c w = true then x else w) else T ++ [x]
theorem mem_put {c:Way S N→Bool} {T:List (Way S N)} {x w:Way S N} (h:w∈put c T x):w = x∨(w∈T∧c w = false):=by
  unfold put at h
  by_cases a:T.any c = true
  · rw [if_pos a] at h
    obtain ⟨v,hv,e⟩:=List.mem_map.mp h
    by_cases b:c v = true
    · rw [if_pos b] at e; exact .inl e.symm
    · rw [if_neg b] at e; subst e; exact .inr ⟨hv,Bool.eq_false_iff.mpr b⟩
  · rw [if_neg a] at h
    rcases List.mem_append.mp h with h | h
    · exact .inr ⟨h,Bool.eq_false_iff.mpr fun b=>a (List.any_eq_true.mpr ⟨w,h,b⟩)⟩
    · exact .inl (List.mem_singleton.mp h)
theorem put_new {c:Way S N→Bool} {T:List (Way S N)} {x:Way S N}:x∈put c T x:=by
  unfold put
  by_cases a:T.any c = true
  · obtain ⟨w,hw,b⟩:=List.any_eq_true.mp a
    rw [if_pos a]
    exact List.mem_map.mpr ⟨w,hw,if_pos b⟩
  · rw [if_neg a]
    exact List.mem_append_right _ (List.mem_singleton.mpr rfl)
theorem put_old {c:Way S N→Bool} {T:List (Way S N)} {x w:Way S N} (h:w∈T) (b:c w = false):w∈put c T x:=by
  unfold put
  by_cases a:T.any c = true
  · rw [if_pos a]
    exact List.mem_map.mpr ⟨w,h,if_neg (by rw [b]; decide)⟩
  · rw [if_neg a]
    exact List.mem_append_left _ h
theorem put_len {c:Way S N→Bool} {T:List (Way S N)} {x:Way S N}:(put c T x).length≤T.length + 1:=by
  unfold put
  split
  · rw [List.length_map]; omega
  · rw [List.length_append,List.length_singleton]; omega
def Un (T:List (Way S N)):Prop:=∀ v∈T,∀ w∈T,v.h = w.h→v.p = w.p
theorem Tb.put {c:Way S N→Bool} {h0 h:S} {NS:List N} {rs:List R} {r:R} {D:Way S N→N→Prop} {T:List (Way S N)} {w:Way S N} {n:N} (t:Tb step price h0 NS rs r D T) (u:Un T) (hw:run step price h0 0 rs w.B = some (w.p,w.h)) (hB:∀ m∈w.B,m∈NS) (hn:n∈NS) (hs:step w.h r n = some h)
    (hc:∀ v∈T,c v = true↔v.h = h) (less:∀ v∈T,v.h = h→w.p + price n≤v.p):Tb step price h0 NS rs r (fun w' n'=>D w' n'∨(w' = w∧n' = n)) (Dy.put c T ⟨w.p + price n,w.B ++ [n],h⟩)∧Un (Dy.put c T ⟨w.p + price n,w.B ++ [n],h⟩):=by
  refine ⟨⟨fun v hv=>?_,fun v hv m hm=>?_,fun v m h' hd hs'=>?_⟩,fun v hv v' hv' e=>?_⟩
  · rcases mem_put hv with rfl | ⟨hv,_⟩
    · exact run_snoc hw hs
    · exact t.snd v hv
  · rcases mem_put hv with rfl | ⟨hv,_⟩
    · rcases List.mem_append.mp hm with hm | hm
      · exact hB m hm
      · rw [List.mem_singleton.mp hm]; exact hn
    · exact t.inN v hv m hm
  · rcases hd with hd | ⟨rfl,rfl⟩
    · obtain ⟨x,hx,e1,l1⟩:=t.ful v m h' hd hs'
      by_cases b:c x = true
      · have e2:=(hc x hx).mp b
        exact ⟨_,put_new,e2.symm.trans e1,Nat.le_trans (less x hx e2) l1⟩
      · exact ⟨x,put_old hx (Bool.eq_false_iff.mpr b),e1,l1⟩
    · rw [hs] at hs'
      cases hs'
      exact ⟨_,put_new,rfl,Nat.le_refl _⟩
  · rcases mem_put hv with rfl | ⟨hv,b⟩
    · rcases mem_put hv' with rfl | ⟨hv',b'⟩
      · rfl
      · have:=(hc v' hv').mpr e.symm
        rw [b'] at this; cases this
    · rcases mem_put hv' with rfl | ⟨hv',b'⟩
      · have:=(hc v hv).mpr e
        rw [b] at this; cases this
      · exact u v hv v' hv' e
theorem Tb.skip {h0:S} {NS:List N} {rs:List R} {r:R} {D:Way S N→N→Prop} {T:List (Way S N)} {w:Way S N} {n:N} (t:Tb step price h0 NS rs r D T) (hs:step w.h r n = none):Tb step price h0 NS rs r (fun w' n'=>D w' n'∨(w' = w∧n' = n)) T :=
  ⟨t.snd,t.inN,fun v m h hd e=>by
    rcases hd with hd | ⟨rfl,rfl⟩
    · exact t.ful v m h hd e
    · rw [hs] at e; cases e⟩
theorem Tb.kept {h0 h:S} {NS:List N} {rs:List R} {r:R} {D:Way S N→N→Prop} {T:List (Way S N)} {w v:Way S N} {n:N} (t:Tb step price h0 NS rs r D T) (hs:step w.h r n = some h) (hv:v∈T) (e:v.h = h) (l:v.p≤w.p + price n):Tb step price h0 NS rs r (fun w' n'=>D w' n'∨(w' = w∧n' = n)) T :=
  ⟨t.snd,t.inN,fun x m h' hd e'=>by
    rcases hd with hd | ⟨rfl,rfl⟩
    · exact t.ful x m h' hd e'
    · rw [hs] at e'; cases e'; exact ⟨v,hv,e,l⟩⟩
theorem Tb.mono {h0:S} {NS:List N} {rs:List R} {r:R} {D D':Way S N→N→Prop} {T:List (Way S N)} (t:Tb step price h0 NS rs r D T) (i:∀ w n,D' w n→D w n):Tb step price h0 NS rs r D' T:=⟨t.snd,t.inN,fun w n h d=>t.ful w n h (i w n d)⟩
def Done (W:List (Way S N)) (NS:List N) (i j:Nat) (w:Way S N) (n:N):Prop:=(∃ i',i' < i∧W[i']? = some w∧n∈NS)∨(W[i]? = some w∧∃ j',j' < j∧NS[j']? = some n)
theorem Done.zero {W:List (Way S N)} {NS:List N} {w:Way S N} {n:N} (h:Done W NS 0 0 w n):False:=by
  rcases h with ⟨i',h,_⟩ | ⟨_,j',h,_⟩ <;> omega
theorem Done.more {W:List (Way S N)} {NS:List N} {i j:Nat} {w w0:Way S N} {n n0:N} (hw:W[i]? = some w0) (hn:NS[j]? = some n0) (h:Done W NS i (j + 1) w n):Done W NS i j w n∨(w = w0∧n = n0):=by
  rcases h with h | ⟨h1,j',h2,h3⟩
  · exact .inl (.inl h)
  · by_cases e:j' = j
    · subst e
      rw [hw] at h1; rw [hn] at h3
      exact .inr ⟨(Option.some.inj h1).symm,(Option.some.inj h3).symm⟩
    · exact .inl (.inr ⟨h1,j',by omega,h3⟩)
theorem Done.next {W:List (Way S N)} {NS:List N} {i:Nat} {w:Way S N} {n:N} (h:Done W NS (i + 1) 0 w n):Done W NS i NS.length w n:=by
  rcases h with ⟨i',h1,h2,h3⟩ | ⟨_,j',h,_⟩
  · by_cases e:i' = i
    · subst e
      obtain ⟨j,hj⟩:=List.getElem?_of_mem h3
      exact .inr ⟨h2,j,(List.getElem?_eq_some_iff.mp hj).1,hj⟩
    · exact .inl ⟨i',by omega,h2,h3⟩
  · omega
theorem Done.all {W:List (Way S N)} {NS:List N} {w:Way S N} {n:N} (hw:w∈W) (hn:n∈NS):Done W NS W.length 0 w n:=by
  obtain ⟨i,hi⟩:=List.getElem?_of_mem hw
  exact .inl ⟨i,(List.getElem?_eq_some_iff.mp hi).1,hi,hn⟩
theorem Tb.start {h0:S} {NS:List N} {rs:List R} {r:R} {W:List (Way S N)}:Tb step price h0 NS rs r (Done W NS 0 0) []:=⟨fun w hw=>by (cases hw),fun w hw=>by (cases hw),fun w n h d=>d.zero.elim⟩
end Dy
namespace Dz
open Dy
section
variable {S R N:Type} {step:S→R→N→Option S} {price:N→Nat}
theorem run_add:∀ {rs:List R} {ns:List N} {h:S} {p q:Nat},run step price h (p + q) rs ns = (run step price h q rs ns).map fun x=>(p + x.1,x.2)
  | [],[],h,p,q=>by unfold run; rfl
  | r :: rs,n :: ns,h,p,q=>by
    unfold run
    cases step h r n with
    | none=>rfl
    | some h'=>dsimp only; rw [Nat.add_assoc]; exact run_add
  | [],_ :: _,_,_,_=>by unfold run; rfl
  | _ :: _,[],_,_,_=>by unfold run; rfl
theorem run_app {rs2:List R} {ns2:List N}:∀ {rs:List R} {ns:List N} {h h1:S} {p p1:Nat},run step price h p rs ns = some (p1,h1)→run step price h p (rs ++ rs2) (ns ++ ns2) = run step price h1 p1 rs2 ns2
  | [],[],h,h1,p,p1,e=>by unfold run at e; cases e; rfl
  | r :: rs,n :: ns,h,h1,p,p1,e=>by
    unfold run at e
    show run step price h p (r :: (rs ++ rs2)) (n :: (ns ++ ns2)) = _
    rw [run]
    cases es:step h r n with
    | none=>rw [es] at e; cases e
    | some h'=>rw [es] at e; exact run_app e
  | [],_ :: _,_,_,_,_,e=>by unfold run at e; cases e
  | _ :: _,[],_,_,_,_,e=>by unfold run at e; cases e
theorem run_split {rs2:List R}:∀ {rs:List R} {ns:List N} {h:S} {p:Nat} {x:Nat×S},run step price h p (rs ++ rs2) ns = some x→∃ B1 B2 p1 h1,ns = B1 ++ B2∧run step price h p rs B1 = some (p1,h1)∧run step price h1 p1 rs2 B2 = some x
  | [],ns,h,p,x,e=>⟨[],ns,p,h,rfl,by unfold run; rfl,e⟩
  | r :: rs,[],h,p,x,e=>by
    have e:run step price h p (r :: (rs ++ rs2)) [] = some x:=e
    rw [run] at e; cases e
  | r :: rs,n :: ns,h,p,x,e=>by
    have e:run step price h p (r :: (rs ++ rs2)) (n :: ns) = some x:=e
    rw [run] at e
    cases es:step h r n with
    | none=>rw [es] at e; cases e
    | some h' =>
      rw [es] at e
      obtain ⟨B1,B2,p1,h1,e1,e2,e3⟩:=run_split (rs:=rs) e
      refine ⟨n :: B1,B2,p1,h1,by rw [e1]; rfl,?_,e3⟩
      rw [run,es]
      exact e2
end
structure Par (Z A R:Type) where
  f:Z→Option A
  cov:A→R→Bool
  la:A→Int
  pr:A→Nat
  mo:R→Int
variable {Z A R:Type} {c:Par Z A R}
def stp (c:Par Z A R) (h:Option (A×Int)) (r:R):Option Z→Option (Option (A×Int))
  | some z=>match c.f z with
    | some a=>if c.cov a r = true then some (some (a,c.mo r + c.la a)) else none
    | none=>none
  | none=>match h with
    | some (a,u)=>if c.cov a r = true∧c.mo r < u then some (some (a,u)) else none
    | none=>none
def prc (c:Par Z A R):Option Z→Nat
  | none=>0
  | some z=>match c.f z with
    | some a=>c.pr a
    | none=>0
abbrev rn (c:Par Z A R):=Dy.run (stp c) (prc c)
theorem stp_buy {h:Option (A×Int)} {r:R} {z:Z} {a:A} (ef:c.f z = some a):stp c h r (some z) = if c.cov a r = true then some (some (a,c.mo r + c.la a)) else none:=by
  show (match c.f z with | some a=>if c.cov a r = true then some (some (a,c.mo r + c.la a)) else none | none=>none) = _
  rw [ef]
theorem stp_no {h:Option (A×Int)} {r:R} {z:Z} (ef:c.f z = none):stp c h r (some z) = none:=by
  show (match c.f z with | some a=>if c.cov a r = true then some (some (a,c.mo r + c.la a)) else none | none=>none) = _
  rw [ef]
theorem prc_buy {z:Z} {a:A} (ef:c.f z = some a):prc c (some z) = c.pr a:=by
  show (match c.f z with | some a=>c.pr a | none=>0) = _
  rw [ef]
theorem prc_no {z:Z} (ef:c.f z = none):prc c (some z) = 0:=by
  show (match c.f z with | some a=>c.pr a | none=>0) = _
  rw [ef]
theorem stp_none {r:R} {g:Option (A×Int)} {n:Option Z} (e:stp c none r n = some g) (h:Option (A×Int)):stp c h r n = some g:=by
  cases n with
  | none=>cases e
  | some z=>exact e
theorem none_any {rs:List R} {B:List (Option Z)} {p q:Nat} {g:Option (A×Int)} (h:Option (A×Int)) (e:rn c none p rs B = some (q,g)):∃ g',rn c h p rs B = some (q,g'):=by
  match rs,B,e with
  | [],[],e=>unfold rn run at e; cases e; exact ⟨h,by unfold rn run; rfl⟩
  | r :: rs,n :: B,e =>
    unfold rn run at e
    cases es:stp c none r n with
    | none=>rw [es] at e; cases e
    | some g1 =>
      rw [es] at e
      refine ⟨g,?_⟩
      unfold rn run
      rw [stp_none es h]
      exact e
  | [],_ :: _,e=>unfold rn run at e; cases e
  | _ :: _,[],e=>unfold rn run at e; cases e
def Dom (g h:Option (A×Int)):Prop:=∀ a u,g = some (a,u)→∃ u',h = some (a,u')∧u≤u'
theorem run_dom:∀ {rs:List R} {B:List (Option Z)} {p q:Nat} {g h g':Option (A×Int)},Dom g h→rn c g p rs B = some (q,g')→∃ h',rn c h p rs B = some (q,h')
  | [],[],p,q,g,h,g',d,e=>by unfold rn run at e; cases e; exact ⟨h,by unfold rn run; rfl⟩
  | r :: rs,n :: B,p,q,g,h,g',d,e=>by
    unfold rn run at e ⊢
    cases n with
    | some z =>
      cases es:stp c g r (some z) with
      | none=>rw [es] at e; cases e
      | some g1 =>
        rw [es] at e
        rw [show stp c h r (some z) = some g1 from es]
        exact ⟨g',e⟩
    | none =>
      cases g with
      | none=>cases e
      | some au =>
        obtain ⟨a,u⟩:=au
        obtain ⟨u',eh,lu⟩:=d a u rfl
        subst eh
        by_cases k:c.cov a r = true∧c.mo r < u
        · have e1:stp c (some (a,u)) r none = some (some (a,u)):=if_pos k
          have e2:stp c (some (a,u')) r none = some (some (a,u')):=if_pos ⟨k.1,by omega⟩
          rw [e1] at e
          rw [e2]
          exact run_dom (fun a1 u1 z=>by cases z; exact ⟨u',rfl,lu⟩) e
        · have e1:stp c (some (a,u)) r none = none:=if_neg k
          rw [e1] at e; cases e
  | [],_ :: _,_,_,_,_,_,_,e=>by unfold rn run at e; cases e
  | _ :: _,[],_,_,_,_,_,_,e=>by unfold rn run at e; cases e
def Bought (c:Par Z A R) (NS:List (Option Z)) (M:Int) (h:Option (A×Int)) (p:Nat):Prop:=∀ a u,h = some (a,u)→∃ z,some z∈NS∧c.f z = some a∧c.pr a≤p∧u≤M + c.la a
theorem run_bought {NS:List (Option Z)} {M:Int}:∀ {rs:List R} {B:List (Option Z)} {p q:Nat} {h g:Option (A×Int)},(∀ n∈B,n∈NS)→(∀ r∈rs,c.mo r≤M)→Bought c NS M h p→rn c h p rs B = some (q,g)→Bought c NS M g q
  | [],[],p,q,h,g,_,_,b,e=>by unfold rn run at e; cases e; exact b
  | r :: rs,n :: B,p,q,h,g,hB,hm,b,e=>by
    unfold rn run at e
    cases n with
    | some z =>
      cases ef:c.f z with
      | none =>
        have es:stp c h r (some z) = none:=stp_no ef
        rw [es] at e; cases e
      | some a =>
        by_cases k:c.cov a r = true
        · have es:stp c h r (some z) = some (some (a,c.mo r + c.la a)):=by rw [stp_buy ef]; exact if_pos k
          rw [es] at e
          refine run_bought (fun n hn=>hB n (List.mem_cons_of_mem _ hn)) (fun r' hr=>hm r' (List.mem_cons_of_mem _ hr)) (fun a1 u1 x=>?_) e
          cases x
          refine ⟨z,hB _ (List.mem_cons_self ..),ef,?_,?_⟩
          · have:prc c (some z) = c.pr a:=prc_buy ef
            omega
          · have:=hm r (List.mem_cons_self ..)
            omega
        · have es:stp c h r (some z) = none:=by rw [stp_buy ef]; exact if_neg k
          rw [es] at e; cases e
    | none =>
      cases h with
      | none=>cases e
      | some au =>
        obtain ⟨a,u⟩:=au
        by_cases k:c.cov a r = true∧c.mo r < u
        · have e1:stp c (some (a,u)) r none = some (some (a,u)):=if_pos k
          rw [e1] at e
          exact run_bought (fun n hn=>hB n (List.mem_cons_of_mem _ hn)) (fun r' hr=>hm r' (List.mem_cons_of_mem _ hr)) b e
        · have e1:stp c (some (a,u)) r none = none:=if_neg k
          rw [e1] at e; cases e
  | [],_ :: _,_,_,_,_,_,_,_,e=>by unfold rn run at e; cases e
  | _ :: _,[],_,_,_,_,_,_,_,e=>by unfold rn run at e; cases e
theorem suffix {NS:List (Option Z)} {M:Int} {rs:List R} {B:List (Option Z)} {p q:Nat} {h g:Option (A×Int)} (hB:∀ n∈B,n∈NS) (hm:∀ r∈rs,M≤c.mo r) (b:Bought c NS M h p) (e:rn c h p rs B = some (q,g)) :
    ∃ B' q' g',(∀ n∈B',n∈NS)∧rn c none 0 rs B' = some (q',g')∧q'≤q:=by
  match rs,B,e with
  | [],[],e=>exact ⟨[],0,none,fun n hn=>by (cases hn),by unfold rn run; rfl,Nat.zero_le _⟩
  | r :: rs,n :: B,e =>
    have e0:rn c h (p + 0) (r :: rs) (n :: B) = some (q,g):=e
    cases n with
    | some z =>
      rw [show rn c h (p + 0) (r :: rs) (some z :: B) = _ from run_add] at e0
      have en:run (stp c) (prc c) none 0 (r :: rs) (some z :: B) = run (stp c) (prc c) h 0 (r :: rs) (some z :: B):=by rw [run,run]; rfl
      rw [← en] at e0
      cases ex:run (stp c) (prc c) none 0 (r :: rs) (some z :: B) with
      | none=>rw [ex] at e0; cases e0
      | some x =>
        rw [ex] at e0
        obtain ⟨q0,g0⟩:=x
        have e1:some (p + q0,g0) = some (q,g):=e0
        injection e1 with e1
        injection e1 with e1 e5
        exact ⟨_,q0,g0,hB,ex,by omega⟩
    | none =>
      unfold rn run at e
      cases h with
      | none=>cases e
      | some au =>
        obtain ⟨a,u⟩:=au
        by_cases k:c.cov a r = true∧c.mo r < u
        · have e1:stp c (some (a,u)) r none = some (some (a,u)):=if_pos k
          rw [e1] at e
          have e:rn c (some (a,u)) p rs B = some (q,g):=e
          obtain ⟨z,hz,ef,lp,lu⟩:=b a u rfl
          have lm:=hm r (List.mem_cons_self ..)
          obtain ⟨g2,e2⟩:=run_dom (h:=some (a,c.mo r + c.la a)) (fun a1 u1 x=>by cases x; exact ⟨_,rfl,by omega⟩) e
          have e3:rn c (some (a,c.mo r + c.la a)) (p + 0) rs B = some (q,g2):=e2
          rw [show rn c (some (a,c.mo r + c.la a)) (p + 0) rs B = _ from run_add] at e3
          cases ex:rn c (some (a,c.mo r + c.la a)) 0 rs B with
          | none=>rw [show run (stp c) (prc c) (some (a,c.mo r + c.la a)) 0 rs B = _ from ex] at e3; cases e3
          | some x =>
            rw [show run (stp c) (prc c) (some (a,c.mo r + c.la a)) 0 rs B = _ from ex] at e3
            obtain ⟨q0,g0⟩:=x
            have e4:some (p + q0,g0) = some (q,g2):=e3
            injection e4 with e4
            injection e4 with e4 e5
            refine ⟨some z :: B,c.pr a + q0,g0,fun n hn=>?_,?_,by omega⟩
            · rcases List.mem_cons.mp hn with rfl | hn
              · exact hz
              · exact hB n (List.mem_cons_of_mem _ hn)
            · have es:stp c none r (some z) = some (some (a,c.mo r + c.la a)):=by rw [stp_buy ef]; exact if_pos k.1
              unfold rn run
              rw [es]
              show rn c (some (a,c.mo r + c.la a)) (0 + prc c (some z)) rs B = _
              rw [show 0 + prc c (some z) = c.pr a + 0 by rw [prc_buy ef]; omega,show rn c (some (a,c.mo r + c.la a)) (c.pr a + 0) rs B = _ from run_add,show run (stp c) (prc c) (some (a,c.mo r + c.la a)) 0 rs B = _ from ex]
              rfl
        · have e1:stp c (some (a,u)) r none = none:=if_neg k
          rw [e1] at e; cases e
  | [],_ :: _,e=>unfold rn run at e; cases e
  | _ :: _,[],e=>unfold rn run at e; cases e
theorem run_later {sh:R→R} {d:Int} (h1:∀ r,c.mo (sh r) = c.mo r + d) (h2:∀ a r,c.cov a (sh r) = c.cov a r):∀ {rs:List R} {B:List (Option Z)} {p:Nat} {h:Option (A×Int)},rn c (h.map fun x=>(x.1,x.2 + d)) p (rs.map sh) B = (rn c h p rs B).map fun x=>(x.1,x.2.map fun x=>(x.1,x.2 + d))
  | [],[],p,h=>by unfold rn run; rfl
  | r :: rs,n :: B,p,h=>by
    rw [List.map_cons]
    unfold rn run
    have es:stp c (h.map fun x=>(x.1,x.2 + d)) (sh r) n = (stp c h r n).map fun g=>g.map fun x=>(x.1,x.2 + d):=by
      cases n with
      | some z =>
        cases ef:c.f z with
        | none=>rw [stp_no ef,stp_no ef]; rfl
        | some a =>
          rw [stp_buy ef,stp_buy ef,h1,h2]
          by_cases k:c.cov a r = true
          · rw [if_pos k,if_pos k]
            show some (some (a,c.mo r + d + c.la a)) = some (some (a,c.mo r + c.la a + d))
            rw [Int.add_right_comm]
          · rw [if_neg k,if_neg k]; rfl
      | none =>
        cases h with
        | none=>rfl
        | some au =>
          obtain ⟨a,u⟩:=au
          show (if c.cov a (sh r) = true∧c.mo (sh r) < u + d then some (some (a,u + d)) else none) = (if c.cov a r = true∧c.mo r < u then some (some (a,u)) else none).map _
          rw [h1,h2]
          by_cases k:c.cov a r = true∧c.mo r < u
          · rw [if_pos k,if_pos ⟨k.1,by omega⟩]; rfl
          · rw [if_neg k,if_neg fun z=>k ⟨z.1,by omega⟩]; rfl
    rw [es]
    cases stp c h r n with
    | none=>rfl
    | some g=>exact run_later h1 h2
  | [],_ :: _,p,h=>by unfold rn run; rfl
  | _ :: _,[],p,h=>by rw [List.map_cons]; unfold rn run; rfl
theorem run_fewer {c':Par Z A R} (h1:∀ z a,c'.f z = some a→c.f z = some a) (h2:c'.cov = c.cov) (h3:c'.la = c.la) (h4:c'.pr = c.pr) (h5:c'.mo = c.mo):∀ {rs:List R} {B:List (Option Z)} {p:Nat} {h:Option (A×Int)} {x:Nat×Option (A×Int)},rn c' h p rs B = some x→rn c h p rs B = some x
  | [],[],p,h,x,e=>by unfold rn run at e ⊢; exact e
  | r :: rs,n :: B,p,h,x,e=>by
    unfold rn run at e ⊢
    cases es:stp c' h r n with
    | none=>rw [es] at e; cases e
    | some g =>
      rw [es] at e
      have e2:stp c h r n = some g∧prc c' n = prc c n:=by
        cases n with
        | none =>
          refine ⟨?_,rfl⟩
          cases h with
          | none=>cases es
          | some au =>
            obtain ⟨a,u⟩:=au
            have es:(if c'.cov a r = true∧c'.mo r < u then some (some (a,u)) else none) = some g:=es
            rw [h2,h5] at es
            exact es
        | some z =>
          cases ef:c'.f z with
          | none=>rw [show stp c' h r (some z) = none from stp_no ef] at es; cases es
          | some a =>
            have ef2:=h1 z a ef
            constructor
            · rw [stp_buy ef,h2,h3,h5] at es
              rw [stp_buy ef2]
              exact es
            · rw [prc_buy ef,prc_buy ef2,h4]
      rw [e2.1]
      rw [e2.2] at e
      exact run_fewer h1 h2 h3 h4 h5 e
  | [],_ :: _,_,_,_,e=>by unfold rn run at e; cases e
  | _ :: _,[],_,_,_,e=>by unfold rn run at e; cases e
def mnL:List Nat→Option Nat
  | []=>none
  | x :: xs=>match mnL xs with
    | none=>some x
    | some y=>some (min x y)
theorem mnL_mem:∀ {xs:List Nat} {m:Nat},mnL xs = some m→m∈xs
  | x :: xs,m,e=>by
    unfold mnL at e
    cases h:mnL xs with
    | none=>rw [h] at e; cases e; exact List.mem_cons_self ..
    | some y =>
      rw [h] at e
      have e:some (min x y) = some m:=e
      cases e
      rcases Nat.le_total x y with l | l
      · rw [Nat.min_eq_left l]; exact List.mem_cons_self ..
      · rw [Nat.min_eq_right l]; exact List.mem_cons_of_mem _ (mnL_mem h)
theorem mnL_le:∀ {xs:List Nat} {x:Nat},x∈xs→∃ m,mnL xs = some m∧m≤x
  | y :: xs,x,hx=>by
    unfold mnL
    rcases List.mem_cons.mp hx with rfl | hx
    · cases h:mnL xs with
      | none=>exact ⟨_,rfl,Nat.le_refl _⟩
      | some z=>exact ⟨_,rfl,Nat.min_le_left ..⟩
    · obtain ⟨m,e,l⟩:=mnL_le hx
      rw [e]
      exact ⟨_,rfl,Nat.le_trans (Nat.min_le_right ..) l⟩
def bst (c:Par Z A R) (TK:List A):Option (A×Int)→List R→Option Nat
  | _,[]=>some 0
  | h,r :: rs=>mnL ((TK.filterMap fun a=>if c.cov a r = true then (bst c TK (some (a,c.mo r + c.la a)) rs).map (c.pr a + ·) else none) ++ (match h with
    | some (a,u)=>if c.cov a r = true∧c.mo r < u then (bst c TK (some (a,u)) rs).toList else []
    | none=>[]))
theorem bst_sound {TK:List A} {NS:List (Option Z)} (h0:none∈NS) (hN:∀ a∈TK,∃ z,some z∈NS∧c.f z = some a):∀ {rs:List R} {h:Option (A×Int)} {m:Nat},bst c TK h rs = some m→∃ B g,(∀ n∈B,n∈NS)∧rn c h 0 rs B = some (m,g)
  | [],h,m,e=>by unfold bst at e; cases e; exact ⟨[],h,fun n hn=>by (cases hn),by unfold rn run; rfl⟩
  | r :: rs,h,m,e=>by
    unfold bst at e
    rcases List.mem_append.mp (mnL_mem e) with hm | hm
    · obtain ⟨a,ha,ea⟩:=List.mem_filterMap.mp hm
      by_cases k:c.cov a r = true
      · rw [if_pos k] at ea
        cases eb:bst c TK (some (a,c.mo r + c.la a)) rs with
        | none=>rw [eb] at ea; cases ea
        | some m0 =>
          rw [eb] at ea
          have ea:some (c.pr a + m0) = some m:=ea
          cases ea
          obtain ⟨B,g,hB,er⟩:=bst_sound h0 hN eb
          obtain ⟨z,hz,ef⟩:=hN a ha
          refine ⟨some z :: B,g,fun n hn=>?_,?_⟩
          · rcases List.mem_cons.mp hn with rfl | hn
            · exact hz
            · exact hB n hn
          · have es:stp c h r (some z) = some (some (a,c.mo r + c.la a)):=by rw [stp_buy ef]; exact if_pos k
            unfold rn run
            rw [es]
            show rn c (some (a,c.mo r + c.la a)) (0 + prc c (some z)) rs B = _
            rw [show 0 + prc c (some z) = c.pr a + 0 by rw [prc_buy ef]; omega,show rn c (some (a,c.mo r + c.la a)) (c.pr a + 0) rs B = _ from run_add,show run (stp c) (prc c) (some (a,c.mo r + c.la a)) 0 rs B = _ from er]
            rfl
      · rw [if_neg k] at ea; cases ea
    · cases h with
      | none=>cases hm
      | some au =>
        obtain ⟨a,u⟩:=au
        dsimp only at hm
        by_cases k:c.cov a r = true∧c.mo r < u
        · rw [if_pos k] at hm
          cases eb:bst c TK (some (a,u)) rs with
          | none=>rw [eb] at hm; cases hm
          | some m0 =>
            rw [eb] at hm
            have hm:m∈[m0]:=hm
            rw [List.mem_singleton] at hm
            subst hm
            obtain ⟨B,g,hB,er⟩:=bst_sound h0 hN eb
            refine ⟨none :: B,g,fun n hn=>?_,?_⟩
            · rcases List.mem_cons.mp hn with rfl | hn
              · exact h0
              · exact hB n hn
            · have es:stp c (some (a,u)) r none = some (some (a,u)):=if_pos k
              unfold rn run
              rw [es]
              exact er
        · rw [if_neg k] at hm; cases hm
theorem bst_full {TK:List A} {NS:List (Option Z)} (hN:∀ z a,some z∈NS→c.f z = some a→a∈TK):∀ {rs:List R} {B:List (Option Z)} {h g:Option (A×Int)} {p:Nat},(∀ n∈B,n∈NS)→rn c h 0 rs B = some (p,g)→∃ m,bst c TK h rs = some m∧m≤p
  | [],[],h,g,p,_,e=>by unfold bst; exact ⟨0,rfl,Nat.zero_le _⟩
  | r :: rs,n :: B,h,g,p,hB,e=>by
    unfold rn run at e
    unfold bst
    cases n with
    | some z =>
      cases ef:c.f z with
      | none=>rw [show stp c h r (some z) = none from stp_no ef] at e; cases e
      | some a =>
        by_cases k:c.cov a r = true
        · rw [show stp c h r (some z) = some (some (a,c.mo r + c.la a)) by rw [stp_buy ef]; exact if_pos k] at e
          have e:rn c (some (a,c.mo r + c.la a)) (0 + prc c (some z)) rs B = some (p,g):=e
          rw [show 0 + prc c (some z) = c.pr a + 0 by rw [prc_buy ef]; omega,show rn c (some (a,c.mo r + c.la a)) (c.pr a + 0) rs B = _ from run_add] at e
          cases ex:rn c (some (a,c.mo r + c.la a)) 0 rs B with
          | none=>rw [show run (stp c) (prc c) (some (a,c.mo r + c.la a)) 0 rs B = _ from ex] at e; cases e
          | some x =>
            rw [show run (stp c) (prc c) (some (a,c.mo r + c.la a)) 0 rs B = _ from ex] at e
            obtain ⟨q0,g0⟩:=x
            have e:some (c.pr a + q0,g0) = some (p,g):=e
            cases e
            obtain ⟨m0,em,lm⟩:=bst_full hN (fun n hn=>hB n (List.mem_cons_of_mem _ hn)) ex
            obtain ⟨m,e2,l2⟩:=mnL_le (xs:=(TK.filterMap fun a=>if c.cov a r = true then (bst c TK (some (a,c.mo r + c.la a)) rs).map (c.pr a + ·) else none) ++ (match h with
              | some (a,u)=>if c.cov a r = true∧c.mo r < u then (bst c TK (some (a,u)) rs).toList else []
              | none=>[])) (x:=c.pr a + m0) (List.mem_append_left _ (List.mem_filterMap.mpr ⟨a,hN z a (hB _ (List.mem_cons_self ..)) ef,by rw [if_pos k,em]; rfl⟩))
            exact ⟨m,e2,by omega⟩
        · rw [show stp c h r (some z) = none by rw [stp_buy ef]; exact if_neg k] at e; cases e
    | none =>
      cases h with
      | none=>cases e
      | some au =>
        obtain ⟨a,u⟩:=au
        by_cases k:c.cov a r = true∧c.mo r < u
        · rw [show stp c (some (a,u)) r none = some (some (a,u)) from if_pos k] at e
          have e:rn c (some (a,u)) 0 rs B = some (p,g):=e
          obtain ⟨m0,em,lm⟩:=bst_full hN (fun n hn=>hB n (List.mem_cons_of_mem _ hn)) e
          obtain ⟨m,e2,l2⟩:=mnL_le (xs:=(TK.filterMap fun a=>if c.cov a r = true then (bst c TK (some (a,c.mo r + c.la a)) rs).map (c.pr a + ·) else none) ++ (if c.cov a r = true∧c.mo r < u then (bst c TK (some (a,u)) rs).toList else [])) (x:=m0) (List.mem_append_right _ (by rw [if_pos k,em]; exact List.mem_singleton.mpr rfl))
          exact ⟨m,e2,by omega⟩
        · rw [show stp c (some (a,u)) r none = none from if_neg k] at e; cases e
  | [],_ :: _,_,_,_,_,e=>by unfold rn run at e; cases e
  | _ :: _,[],_,_,_,_,e=>by unfold rn run at e; cases e
end Dz
namespace L2
open PySem PySem.Spec PyProof.Rows
theorem comp_enum {K:PySem.W.Frag} {a:Addr} {xs:List V} {g:TG} {tt:TT} {te:TE} {σ0:St} {H:Hp} {Q:VK} (Pv:Nat→List V→St→Hp→Prop) (h0:Pv 0 [] σ0 H) (hz:xs.length≤sizeLine) (hl:∀ i acc σ H,i≤xs.length→Pv i acc σ H→SqL K H a xs)
    (hs:∀ i x p acc σ H,acc.length≤i→xs[i]? = some x→H p = none→Pv i acc σ H→g (.ref p) σ (upd H p (.tup [.int i,x])) fun σ2 H2=>tt σ2 H2 fun b H3=>if b = true then te σ2 H3 fun y H4=>(acc ++ [y]).length≤i + 1∧Pv (i + 1) (acc ++ [y]) σ2 H4 else acc.length≤i + 1∧Pv (i + 1) acc σ2 H3)
    (hd:∀ acc σ H,acc.length≤xs.length→Pv xs.length acc σ H→endC Q acc H) :
    ∃ W:Nat→Nat→List V→St→Hp→Prop,(∃ m,W 0 m [] σ0 H)∧∀ i m acc σ1 H,W i m acc σ1 H →
      ((Ite K a).stop i H∧endC Q acc H) ∨
      ((Ite K a).go i H∧acc.length < sizeLine∧∃ N:List V→St→Hp→Prop,(∀ acc' σ' H',N acc' σ' H'→∃ m',m' < m∧W (i + 1) m' acc' σ' H')∧∀ x H',(Ite K a).yld i H x H'→g x σ1 H' fun σ2 H2=>tt σ2 H2 fun b H3=>if b = true then te σ2 H3 fun y H4=>N (acc ++ [y]) σ2 H4 else N acc σ2 H3):=by
  refine ⟨fun i m acc σ H=>m = xs.length - i∧i≤xs.length∧acc.length≤i∧Pv i acc σ H,⟨xs.length,by simp,Nat.zero_le _,Nat.zero_le _,h0⟩,?_⟩
  rintro i m acc σ1 H ⟨rfl,hi,ha,p⟩
  have q:=hl i acc σ1 H hi p
  by_cases hlt:i < xs.length
  · refine .inr ⟨⟨xs,xs[i],q,by simp [hlt]⟩,by omega,fun acc' σ' H'=>acc'.length≤i + 1∧Pv (i + 1) acc' σ' H',fun acc' σ' H' z=>⟨xs.length - (i + 1),by omega,rfl,hlt,z.1,z.2⟩,fun v H' y=>?_⟩
    obtain ⟨r,x,hr,y,rfl,rfl⟩:=y
    exact hs i x r acc σ1 _ ha (y xs q) hr p
  · have e:i = xs.length:=by omega
    subst e
    exact .inl ⟨⟨xs,q,Nat.le_refl _⟩,hd acc σ1 H ha p⟩
end L2
namespace K20
open PySem L2 K1
seal PySem.wpAny
def top (i:Nat):Stmt:=PySem.Challenge.pw_roadbook_k20_whole_from_rides_to_tickets.main.body.getD i (.Pass ⟨0,0,0,0⟩)
abbrev s_wall:Stmt:=top 0
abbrev s_is_any_number:Stmt:=top 16
theorem sc_is_any_number:FnScope ["value"] ["value"] (defScope s_is_any_number):=⟨rfl,rfl,rfl,by decide +kernel,rfl,by decide +kernel,by decide +kernel⟩
abbrev s_is_number:Stmt:=top 17
theorem sc_is_number:FnScope ["value","least","most"] ["value","least","most"] (defScope s_is_number):=⟨rfl,rfl,rfl,by decide +kernel,rfl,by decide +kernel,by decide +kernel⟩
abbrev s_check_number:Stmt:=top 18
theorem sc_check_number:FnScope ["value","least","most"] ["value","least","most"] (defScope s_check_number):=⟨rfl,rfl,rfl,by decide +kernel,rfl,by decide +kernel,by decide +kernel⟩
abbrev s_are_rising:Stmt:=top 19
theorem sc_are_rising:FnScope ["values","longest","least","most","floor","value"] ["values","longest","least","most"] (defScope s_are_rising):=⟨rfl,rfl,rfl,by decide +kernel,rfl,by decide +kernel,by decide +kernel⟩
abbrev s_is_name:Stmt:=top 20
theorem sc_is_name:FnScope ["value"] ["value"] (defScope s_is_name):=⟨rfl,rfl,rfl,by decide +kernel,rfl,by decide +kernel,by decide +kernel⟩
abbrev s_is_known:Stmt:=top 21
theorem sc_is_known:FnScope ["value","named"] ["value","named"] (defScope s_is_known):=⟨rfl,rfl,rfl,by decide +kernel,rfl,by decide +kernel,by decide +kernel⟩
abbrev s_zone_bits:Stmt:=top 23
theorem sc_zone_bits:FnScope ["zones","bits","zone"] ["zones"] (defScope s_zone_bits):=⟨rfl,rfl,rfl,by decide +kernel,rfl,by decide +kernel,by decide +kernel⟩
abbrev s_zones_of:Stmt:=top 24
theorem sc_zones_of:FnScope ["net","trip","board","off","calls"] ["net","trip","board","off"] (defScope s_zones_of):=⟨rfl,rfl,rfl,by decide +kernel,rfl,by decide +kernel,by decide +kernel⟩
abbrev s_fits:Stmt:=top 25
theorem sc_fits:FnScope ["net","ticket","bits"] ["net","ticket","bits"] (defScope s_fits):=⟨rfl,rfl,rfl,by decide +kernel,rfl,by decide +kernel,by decide +kernel⟩
abbrev s_price_of:Stmt:=top 28
theorem sc_price_of:FnScope ["net","rides","bought","price","held","ride","name"] ["net","rides","bought"] (defScope s_price_of):=⟨rfl,rfl,rfl,by decide +kernel,rfl,by decide +kernel,by decide +kernel⟩
abbrev s_least_tickets:Stmt:=top 29
theorem sc_least_tickets:FnScope ["net","rides","ways","ride","best"] ["net","rides"] (defScope s_least_tickets):=⟨rfl,rfl,rfl,by decide +kernel,rfl,by decide +kernel,by decide +kernel⟩
abbrev s_held_behind:Stmt:=top 30
theorem sc_held_behind:FnScope ["net","held","ride","name","ticket"] ["net","held","ride","name"] (defScope s_held_behind):=⟨rfl,rfl,rfl,by decide +kernel,rfl,by decide +kernel,by decide +kernel⟩
abbrev s_price_for:Stmt:=top 31
theorem sc_price_for:FnScope ["net","name"] ["net","name"] (defScope s_price_for):=⟨rfl,rfl,rfl,by decide +kernel,rfl,by decide +kernel,by decide +kernel⟩
abbrev s_ways_behind:Stmt:=top 32
theorem sc_ways_behind:FnScope ["net","ways","ride","cheapest","price","bought","held","name","kept","way"] ["net","ways","ride"] (defScope s_ways_behind):=⟨rfl,rfl,rfl,by decide +kernel,rfl,by decide +kernel,by decide +kernel⟩
abbrev s_copy_of:Stmt:=top 35
theorem sc_copy_of:FnScope ["rule"] ["rule"] (defScope s_copy_of):=⟨rfl,rfl,rfl,by decide +kernel,rfl,by decide +kernel,by decide +kernel⟩
abbrev s_check_new:Stmt:=top 48
theorem sc_check_new:FnScope ["name","named"] ["name","named"] (defScope s_check_new):=⟨rfl,rfl,rfl,by decide +kernel,rfl,by decide +kernel,by decide +kernel⟩
abbrev s_check_room:Stmt:=top 49
theorem sc_check_room:FnScope ["kept","most"] ["kept","most"] (defScope s_check_room):=⟨rfl,rfl,rfl,by decide +kernel,rfl,by decide +kernel,by decide +kernel⟩
abbrev s_have_calls_form:Stmt:=top 50
theorem sc_have_calls_form:FnScope ["calls"] ["calls"] (defScope s_have_calls_form):=⟨rfl,rfl,rfl,by decide +kernel,rfl,by decide +kernel,by decide +kernel⟩
abbrev s_can_follow:Stmt:=top 51
theorem sc_can_follow:FnScope ["call","ahead"] ["call","ahead"] (defScope s_can_follow):=⟨rfl,rfl,rfl,by decide +kernel,rfl,by decide +kernel,by decide +kernel⟩
abbrev s_law_draw:Stmt:=top 54
theorem sc_law_draw:FnScope ["_law_script","_law_k","_law_cell","_law_number"] ["_law_script","_law_k"] (defScope s_law_draw):=⟨rfl,rfl,rfl,by decide +kernel,rfl,by decide +kernel,by decide +kernel⟩
abbrev s_law_whole:Stmt:=top 55
theorem sc_law_whole:FnScope ["_law_found"] ["_law_found"] (defScope s_law_whole):=⟨rfl,rfl,rfl,by decide +kernel,rfl,by decide +kernel,by decide +kernel⟩
abbrev s_law_names:Stmt:=top 56
theorem sc_law_names:FnScope ["_law_script","_law_k","_law_many","_law_letters","_law_number","_law_row","_law_size","_law_at","_law_rest"] ["_law_script","_law_k","_law_many"] (defScope s_law_names):=⟨rfl,rfl,rfl,by decide +kernel,rfl,by decide +kernel,by decide +kernel⟩
abbrev s_law_calls:Stmt:=top 57
theorem sc_law_calls:FnScope ["_law_script","_law_k","_law_names_here","_law_calls_here","_law_stop","_law_minute","_law_j","_law_number","_law_arrive"] ["_law_script","_law_k","_law_names_here"] (defScope s_law_calls):=⟨rfl,rfl,rfl,by decide +kernel,rfl,by decide +kernel,by decide +kernel⟩
abbrev s_law_zones:Stmt:=top 58
theorem sc_law_zones:FnScope ["_law_bits_here"] ["_law_bits_here"] (defScope s_law_zones):=⟨rfl,rfl,rfl,by decide +kernel,rfl,by decide +kernel,by decide +kernel⟩
abbrev s_law_tickets:Stmt:=top 59
theorem sc_law_tickets:FnScope ["_law_script","_law_k","_law_many","_law_found","_law_j","_law_name","_law_number","_law_price_here","_law_lasts","_law_bits_here"] ["_law_script","_law_k","_law_many"] (defScope s_law_tickets):=⟨rfl,rfl,rfl,by decide +kernel,rfl,by decide +kernel,by decide +kernel⟩
abbrev s_law_bits:Stmt:=top 60
theorem sc_law_bits:FnScope ["_law_zones_here"] ["_law_zones_here"] (defScope s_law_bits):=⟨rfl,rfl,rfl,by decide +kernel,rfl,by decide +kernel,by decide +kernel⟩
abbrev s_law_spent:Stmt:=top 61
theorem sc_law_spent:FnScope ["_law_tickets_here","_law_rides_here","_law_bought","_law_spent_here","_law_held","_law_ride","_law_name"] ["_law_tickets_here","_law_rides_here","_law_bought"] (defScope s_law_spent):=⟨rfl,rfl,rfl,by decide +kernel,rfl,by decide +kernel,by decide +kernel⟩
abbrev s_law_net:Stmt:=top 62
theorem sc_law_net:FnScope ["_law_names_here","_law_zones_here","_law_tickets_here","_law_trips","_law_net_here","_law_k","_law_name","_law_price_here","_law_lasts","_law_its","_law_calls_here"] ["_law_names_here","_law_zones_here","_law_tickets_here","_law_trips"] (defScope s_law_net):=⟨rfl,rfl,rfl,by decide +kernel,rfl,by decide +kernel,by decide +kernel⟩
abbrev s_law_rides:Stmt:=top 63
theorem sc_law_rides:FnScope ["_law_script","_law_net_here","_law_names_here","_law_zones_here","_law_trips","_law_found","_law_moment","_law_k","_law_number","_law_name","_law_calls_here","_law_board","_law_off","_law_due"] ["_law_script","_law_net_here","_law_names_here","_law_zones_here","_law_trips"] (defScope s_law_rides):=⟨rfl,rfl,rfl,by decide +kernel,rfl,by decide +kernel,by decide +kernel⟩
abbrev s_law_has:Stmt:=top 64
theorem sc_law_has:FnScope ["_law_ticket","_law_ride"] ["_law_ticket","_law_ride"] (defScope s_law_has):=⟨rfl,rfl,rfl,by decide +kernel,rfl,by decide +kernel,by decide +kernel⟩
abbrev s_law_least:Stmt:=top 65
theorem sc_law_least:FnScope ["_law_tickets_here","_law_rides_here","_law_table","_law_k","_law_j","_law_none","_law_at","_law_buys","_law_ticket","_law_fresh","_law_some","_law_is_held"] ["_law_tickets_here","_law_rides_here"] (defScope s_law_least):=⟨rfl,rfl,rfl,by decide +kernel,rfl,by decide +kernel,by decide +kernel⟩
abbrev s_law_price:Stmt:=top 66
theorem sc_law_price:FnScope ["_law_found"] ["_law_found"] (defScope s_law_price):=⟨rfl,rfl,rfl,by decide +kernel,rfl,by decide +kernel,by decide +kernel⟩
abbrev s_law_no_more:Stmt:=top 67
theorem sc_law_no_more:FnScope ["_law_found","_law_other"] ["_law_found","_law_other"] (defScope s_law_no_more):=⟨rfl,rfl,rfl,by decide +kernel,rfl,by decide +kernel,by decide +kernel⟩
abbrev s_law:Stmt:=top 68
theorem sc_law:FnScope ["_law_script","_law_names_here","_law_zones_here","_law_tickets_here","_law_called","_law_trips","_law_net_here","_law_rides_here","_law_due","_law_told","_law_later","_law_cut","_law_ahead","_law_behind","_law_fewer"] ["_law_script"] (defScope s_law):=⟨rfl,rfl,rfl,by decide +kernel,rfl,by decide +kernel,by decide +kernel⟩
abbrev s_Rule_copied:Stmt:=inClass (top 36) 0
theorem sc_Rule_copied:FnScope ["self"] ["self"] (defScope s_Rule_copied):=⟨rfl,rfl,rfl,by decide +kernel,rfl,by decide +kernel,by decide +kernel⟩
abbrev s_Rule_parts:Stmt:=inClass (top 36) 1
abbrev s_Rule_runs:Stmt:=inClass (top 36) 2
abbrev s_Rule_words:Stmt:=inClass (top 36) 3
abbrev s_Rule_weight:Stmt:=inClass (top 36) 4
abbrev s_Rule_depth:Stmt:=inClass (top 36) 5
abbrev s_Net_init:Stmt:=inClass (top 52) 0
theorem sc_Net_init:FnScope ["self"] ["self"] (defScope s_Net_init):=⟨rfl,rfl,rfl,by decide +kernel,rfl,by decide +kernel,by decide +kernel⟩
abbrev s_Net_copied:Stmt:=inClass (top 52) 1
abbrev s_Net_add_stop:Stmt:=inClass (top 52) 2
theorem sc_Net_add_stop:FnScope ["self","name","zone","change"] ["self","name","zone","change"] (defScope s_Net_add_stop):=⟨rfl,rfl,rfl,by decide +kernel,rfl,by decide +kernel,by decide +kernel⟩
abbrev s_Net_add_walk:Stmt:=inClass (top 52) 3
abbrev s_Net_add_rule:Stmt:=inClass (top 52) 4
theorem sc_Net_add_rule:FnScope ["self","name","rule","kept"] ["self","name","rule"] (defScope s_Net_add_rule):=⟨rfl,rfl,rfl,by decide +kernel,rfl,by decide +kernel,by decide +kernel⟩
abbrev s_Net_add_ticket:Stmt:=inClass (top 52) 5
theorem sc_Net_add_ticket:FnScope ["self","name","price","lasts","zones"] ["self","name","price","lasts","zones"] (defScope s_Net_add_ticket):=⟨rfl,rfl,rfl,by decide +kernel,rfl,by decide +kernel,by decide +kernel⟩
abbrev s_Net_add_trip:Stmt:=inClass (top 52) 6
theorem sc_Net_add_trip:FnScope ["self","name","rule","calls","number","call"] ["self","name","rule","calls"] (defScope s_Net_add_trip):=⟨rfl,rfl,rfl,by decide +kernel,rfl,by decide +kernel,by decide +kernel⟩
abbrev s_Net_check_stop:Stmt:=inClass (top 52) 7
theorem sc_Net_check_stop:FnScope ["self","name"] ["self","name"] (defScope s_Net_check_stop):=⟨rfl,rfl,rfl,by decide +kernel,rfl,by decide +kernel,by decide +kernel⟩
abbrev s_Net_check_trip:Stmt:=inClass (top 52) 8
theorem sc_Net_check_trip:FnScope ["self","name"] ["self","name"] (defScope s_Net_check_trip):=⟨rfl,rfl,rfl,by decide +kernel,rfl,by decide +kernel,by decide +kernel⟩
abbrev s_Net_check_call:Stmt:=inClass (top 52) 9
theorem sc_Net_check_call:FnScope ["self","call"] ["self","call"] (defScope s_Net_check_call):=⟨rfl,rfl,rfl,by decide +kernel,rfl,by decide +kernel,by decide +kernel⟩
abbrev s_Net_has_walk:Stmt:=inClass (top 52) 10
abbrev s_Net_stops:Stmt:=inClass (top 52) 11
abbrev s_Net_walks:Stmt:=inClass (top 52) 12
abbrev s_Net_rules:Stmt:=inClass (top 52) 13
abbrev s_Net_tickets:Stmt:=inClass (top 52) 14
theorem sc_Net_tickets:FnScope ["self"] ["self"] (defScope s_Net_tickets):=⟨rfl,rfl,rfl,by decide +kernel,rfl,by decide +kernel,by decide +kernel⟩
abbrev s_Net_trips:Stmt:=inClass (top 52) 15
abbrev s_Net_zone:Stmt:=inClass (top 52) 16
theorem sc_Net_zone:FnScope ["self","stop"] ["self","stop"] (defScope s_Net_zone):=⟨rfl,rfl,rfl,by decide +kernel,rfl,by decide +kernel,by decide +kernel⟩
abbrev s_Net_change:Stmt:=inClass (top 52) 17
abbrev s_Net_rule:Stmt:=inClass (top 52) 18
abbrev s_Net_ticket:Stmt:=inClass (top 52) 19
theorem sc_Net_ticket:FnScope ["self","name","row"] ["self","name"] (defScope s_Net_ticket):=⟨rfl,rfl,rfl,by decide +kernel,rfl,by decide +kernel,by decide +kernel⟩
abbrev s_Net_rule_name:Stmt:=inClass (top 52) 20
abbrev s_Net_calls:Stmt:=inClass (top 52) 21
theorem sc_Net_calls:FnScope ["self","trip"] ["self","trip"] (defScope s_Net_calls):=⟨rfl,rfl,rfl,by decide +kernel,rfl,by decide +kernel,by decide +kernel⟩
theorem b_all:bootBuiltins "all" = some (.builtin "all"):=by decide +kernel
theorem b_bool:bootBuiltins "bool" = some (.type "bool"):=by decide +kernel
theorem b_dict:bootBuiltins "dict" = some (.type "dict"):=by decide +kernel
theorem b_int:bootBuiltins "int" = some (.type "int"):=by decide +kernel
theorem b_isinstance:bootBuiltins "isinstance" = some (.builtin "isinstance"):=by decide +kernel
theorem b_len:bootBuiltins "len" = some (.builtin "len"):=by decide +kernel
theorem b_list:bootBuiltins "list" = some (.type "list"):=by decide +kernel
theorem b_min:bootBuiltins "min" = some (.builtin "min"):=by decide +kernel
theorem b_range:bootBuiltins "range" = some (.type "range"):=by decide +kernel
theorem b_set:bootBuiltins "set" = some (.type "set"):=by decide +kernel
theorem b_sorted:bootBuiltins "sorted" = some (.builtin "sorted"):=by decide +kernel
theorem b_str:bootBuiltins "str" = some (.type "str"):=by decide +kernel
theorem b_sum:bootBuiltins "sum" = some (.builtin "sum"):=by decide +kernel
theorem b_tuple:bootBuiltins "tuple" = some (.type "tuple"):=by decide +kernel
set_option genInjectivity false in
structure Adr where
  f_wall:Addr
  d_wall:FuncData
  f_is_any_number:Addr
  d_is_any_number:FuncData
  f_is_number:Addr
  d_is_number:FuncData
  f_check_number:Addr
  d_check_number:FuncData
  f_are_rising:Addr
  d_are_rising:FuncData
  f_is_name:Addr
  d_is_name:FuncData
  f_is_known:Addr
  d_is_known:FuncData
  f_zone_bits:Addr
  d_zone_bits:FuncData
  f_zones_of:Addr
  d_zones_of:FuncData
  f_fits:Addr
  d_fits:FuncData
  f_price_of:Addr
  d_price_of:FuncData
  f_least_tickets:Addr
  d_least_tickets:FuncData
  f_held_behind:Addr
  d_held_behind:FuncData
  f_price_for:Addr
  d_price_for:FuncData
  f_ways_behind:Addr
  d_ways_behind:FuncData
  f_copy_of:Addr
  d_copy_of:FuncData
  f_check_new:Addr
  d_check_new:FuncData
  f_check_room:Addr
  d_check_room:FuncData
  f_have_calls_form:Addr
  d_have_calls_form:FuncData
  f_can_follow:Addr
  d_can_follow:FuncData
  f_law_draw:Addr
  d_law_draw:FuncData
  f_law_whole:Addr
  d_law_whole:FuncData
  f_law_names:Addr
  d_law_names:FuncData
  f_law_calls:Addr
  d_law_calls:FuncData
  f_law_zones:Addr
  d_law_zones:FuncData
  f_law_tickets:Addr
  d_law_tickets:FuncData
  f_law_bits:Addr
  d_law_bits:FuncData
  f_law_spent:Addr
  d_law_spent:FuncData
  f_law_net:Addr
  d_law_net:FuncData
  f_law_rides:Addr
  d_law_rides:FuncData
  f_law_has:Addr
  d_law_has:FuncData
  f_law_least:Addr
  d_law_least:FuncData
  f_law_price:Addr
  d_law_price:FuncData
  f_law_no_more:Addr
  d_law_no_more:FuncData
  f_law:Addr
  d_law:FuncData
  f_Rule_copied:Addr
  d_Rule_copied:FuncData
  f_Rule_parts:Addr
  d_Rule_parts:FuncData
  f_Rule_runs:Addr
  d_Rule_runs:FuncData
  f_Rule_words:Addr
  d_Rule_words:FuncData
  f_Rule_weight:Addr
  d_Rule_weight:FuncData
  f_Rule_depth:Addr
  d_Rule_depth:FuncData
  f_Net_init:Addr
  d_Net_init:FuncData
  f_Net_copied:Addr
  d_Net_copied:FuncData
  f_Net_add_stop:Addr
  d_Net_add_stop:FuncData
  f_Net_add_walk:Addr
  d_Net_add_walk:FuncData
  f_Net_add_rule:Addr
  d_Net_add_rule:FuncData
  f_Net_add_ticket:Addr
  d_Net_add_ticket:FuncData
  f_Net_add_trip:Addr
  d_Net_add_trip:FuncData
  f_Net_check_stop:Addr
  d_Net_check_stop:FuncData
  f_Net_check_trip:Addr
  d_Net_check_trip:FuncData
  f_Net_check_call:Addr
  d_Net_check_call:FuncData
  f_Net_has_walk:Addr
  d_Net_has_walk:FuncData
  f_Net_stops:Addr
  d_Net_stops:FuncData
  f_Net_walks:Addr
  d_Net_walks:FuncData
  f_Net_rules:Addr
  d_Net_rules:FuncData
  f_Net_tickets:Addr
  d_Net_tickets:FuncData
  f_Net_trips:Addr
  d_Net_trips:FuncData
  f_Net_zone:Addr
  d_Net_zone:FuncData
  f_Net_change:Addr
  d_Net_change:FuncData
  f_Net_rule:Addr
  d_Net_rule:FuncData
  f_Net_ticket:Addr
  d_Net_ticket:FuncData
  f_Net_rule_name:Addr
  d_Net_rule_name:FuncData
  f_Net_calls:Addr
  d_Net_calls:FuncData
  c_RoadError:Addr
  c_BadRule:Addr
  c_TooMany:Addr
  c_BadName:Addr
  c_Twice:Addr
  c_NoStop:Addr
  c_NoRule:Addr
  c_NoTicket:Addr
  c_NoTrip:Addr
  c_BadNumber:Addr
  c_BadCalls:Addr
  c_Rule:Addr
  c_Net:Addr
  g_NOTHING_HELD:Addr
  lc:Addr
  lt:Addr
structure Tab (K:W.Frag) (mg:Str→Option Value) (t:Adr):Prop where
  z_all:mg "all" = none
  z_bool:mg "bool" = none
  z_dict:mg "dict" = none
  z_enumerate:mg "enumerate" = none
  z_int:mg "int" = none
  z_isinstance:mg "isinstance" = none
  z_len:mg "len" = none
  z_list:mg "list" = none
  z_min:mg "min" = none
  z_range:mg "range" = none
  z_reversed:mg "reversed" = none
  z_set:mg "set" = none
  z_sorted:mg "sorted" = none
  z_str:mg "str" = none
  z_sum:mg "sum" = none
  z_tuple:mg "tuple" = none
  z_zip:mg "zip" = none
  m_LETTERS:∃ tk,mg "LETTERS" = some (.str (Str.ofString "abcdefghijklmnopqrstuvwxyz") tk)
  m_MOST_LETTERS:∃ tk,mg "MOST_LETTERS" = some (.int 8 tk)
  m_NOTHING_HELD:mg "NOTHING_HELD" = some (.ref t.g_NOTHING_HELD)
  o_NOTHING_HELD:∀ H,SqT K H t.g_NOTHING_HELD [.non,.int (-1)]
  m_LAST_MINUTE:∃ tk,mg "LAST_MINUTE" = some (.int 2879 tk)
  m_MOST_STOPS:∃ tk,mg "MOST_STOPS" = some (.int 8 tk)
  m_MOST_RULES:∃ tk,mg "MOST_RULES" = some (.int 6 tk)
  m_MOST_TICKETS:∃ tk,mg "MOST_TICKETS" = some (.int 3 tk)
  m_MOST_TRIPS:∃ tk,mg "MOST_TRIPS" = some (.int 10 tk)
  m_LAST_ZONE:∃ tk,mg "LAST_ZONE" = some (.int 6 tk)
  m_MOST_CHANGE:∃ tk,mg "MOST_CHANGE" = some (.int 30 tk)
  m_MOST_PRICE:∃ tk,mg "MOST_PRICE" = some (.int 10000 tk)
  m_MOST_LASTING:∃ tk,mg "MOST_LASTING" = some (.int 1440 tk)
  m_LEAST_CALLS:∃ tk,mg "LEAST_CALLS" = some (.int 2 tk)
  m_MOST_CALLS:∃ tk,mg "MOST_CALLS" = some (.int 6 tk)
  F_wall:Fun K "_wall" "_wall" s_wall t.f_wall t.d_wall
  m_wall:mg "_wall" = some (.ref t.f_wall)
  b_wall:Binds K t.d_wall ["k"] []
  F_is_any_number:Fun K "is_any_number" "is_any_number" s_is_any_number t.f_is_any_number t.d_is_any_number
  m_is_any_number:mg "is_any_number" = some (.ref t.f_is_any_number)
  b_is_any_number:Binds K t.d_is_any_number ["value"] []
  F_is_number:Fun K "is_number" "is_number" s_is_number t.f_is_number t.d_is_number
  m_is_number:mg "is_number" = some (.ref t.f_is_number)
  b_is_number:Binds K t.d_is_number ["value","least","most"] []
  F_check_number:Fun K "check_number" "check_number" s_check_number t.f_check_number t.d_check_number
  m_check_number:mg "check_number" = some (.ref t.f_check_number)
  b_check_number:Binds K t.d_check_number ["value","least","most"] []
  F_are_rising:Fun K "are_rising" "are_rising" s_are_rising t.f_are_rising t.d_are_rising
  m_are_rising:mg "are_rising" = some (.ref t.f_are_rising)
  b_are_rising:Binds K t.d_are_rising ["values","longest","least","most"] []
  F_is_name:Fun K "is_name" "is_name" s_is_name t.f_is_name t.d_is_name
  m_is_name:mg "is_name" = some (.ref t.f_is_name)
  b_is_name:Binds K t.d_is_name ["value"] []
  F_is_known:Fun K "is_known" "is_known" s_is_known t.f_is_known t.d_is_known
  m_is_known:mg "is_known" = some (.ref t.f_is_known)
  b_is_known:Binds K t.d_is_known ["value","named"] []
  F_zone_bits:Fun K "zone_bits" "zone_bits" s_zone_bits t.f_zone_bits t.d_zone_bits
  m_zone_bits:mg "zone_bits" = some (.ref t.f_zone_bits)
  b_zone_bits:Binds K t.d_zone_bits ["zones"] []
  F_zones_of:Fun K "zones_of" "zones_of" s_zones_of t.f_zones_of t.d_zones_of
  m_zones_of:mg "zones_of" = some (.ref t.f_zones_of)
  b_zones_of:Binds K t.d_zones_of ["net","trip","board","off"] []
  F_fits:Fun K "fits" "fits" s_fits t.f_fits t.d_fits
  m_fits:mg "fits" = some (.ref t.f_fits)
  b_fits:Binds K t.d_fits ["net","ticket","bits"] []
  F_price_of:Fun K "price_of" "price_of" s_price_of t.f_price_of t.d_price_of
  m_price_of:mg "price_of" = some (.ref t.f_price_of)
  b_price_of:Binds K t.d_price_of ["net","rides","bought"] []
  F_least_tickets:Fun K "least_tickets" "least_tickets" s_least_tickets t.f_least_tickets t.d_least_tickets
  m_least_tickets:mg "least_tickets" = some (.ref t.f_least_tickets)
  b_least_tickets:Binds K t.d_least_tickets ["net","rides"] []
  F_held_behind:Fun K "held_behind" "held_behind" s_held_behind t.f_held_behind t.d_held_behind
  m_held_behind:mg "held_behind" = some (.ref t.f_held_behind)
  b_held_behind:Binds K t.d_held_behind ["net","held","ride","name"] []
  F_price_for:Fun K "price_for" "price_for" s_price_for t.f_price_for t.d_price_for
  m_price_for:mg "price_for" = some (.ref t.f_price_for)
  b_price_for:Binds K t.d_price_for ["net","name"] []
  F_ways_behind:Fun K "ways_behind" "ways_behind" s_ways_behind t.f_ways_behind t.d_ways_behind
  m_ways_behind:mg "ways_behind" = some (.ref t.f_ways_behind)
  b_ways_behind:Binds K t.d_ways_behind ["net","ways","ride"] []
  F_copy_of:Fun K "copy_of" "copy_of" s_copy_of t.f_copy_of t.d_copy_of
  m_copy_of:mg "copy_of" = some (.ref t.f_copy_of)
  b_copy_of:Binds K t.d_copy_of ["rule"] []
  F_check_new:Fun K "check_new" "check_new" s_check_new t.f_check_new t.d_check_new
  m_check_new:mg "check_new" = some (.ref t.f_check_new)
  b_check_new:Binds K t.d_check_new ["name","named"] []
  F_check_room:Fun K "check_room" "check_room" s_check_room t.f_check_room t.d_check_room
  m_check_room:mg "check_room" = some (.ref t.f_check_room)
  b_check_room:Binds K t.d_check_room ["kept","most"] []
  F_have_calls_form:Fun K "have_calls_form" "have_calls_form" s_have_calls_form t.f_have_calls_form t.d_have_calls_form
  m_have_calls_form:mg "have_calls_form" = some (.ref t.f_have_calls_form)
  b_have_calls_form:Binds K t.d_have_calls_form ["calls"] []
  F_can_follow:Fun K "can_follow" "can_follow" s_can_follow t.f_can_follow t.d_can_follow
  m_can_follow:mg "can_follow" = some (.ref t.f_can_follow)
  b_can_follow:Binds K t.d_can_follow ["call","ahead"] []
  F_law_draw:Fun K "_law_draw" "_law_draw" s_law_draw t.f_law_draw t.d_law_draw
  m_law_draw:mg "_law_draw" = some (.ref t.f_law_draw)
  b_law_draw:Binds K t.d_law_draw ["_law_script","_law_k"] []
  F_law_whole:Fun K "_law_whole" "_law_whole" s_law_whole t.f_law_whole t.d_law_whole
  m_law_whole:mg "_law_whole" = some (.ref t.f_law_whole)
  b_law_whole:Binds K t.d_law_whole ["_law_found"] []
  F_law_names:Fun K "_law_names" "_law_names" s_law_names t.f_law_names t.d_law_names
  m_law_names:mg "_law_names" = some (.ref t.f_law_names)
  b_law_names:Binds K t.d_law_names ["_law_script","_law_k","_law_many"] []
  F_law_calls:Fun K "_law_calls" "_law_calls" s_law_calls t.f_law_calls t.d_law_calls
  m_law_calls:mg "_law_calls" = some (.ref t.f_law_calls)
  b_law_calls:Binds K t.d_law_calls ["_law_script","_law_k","_law_names_here"] []
  F_law_zones:Fun K "_law_zones" "_law_zones" s_law_zones t.f_law_zones t.d_law_zones
  m_law_zones:mg "_law_zones" = some (.ref t.f_law_zones)
  b_law_zones:Binds K t.d_law_zones ["_law_bits_here"] []
  F_law_tickets:Fun K "_law_tickets" "_law_tickets" s_law_tickets t.f_law_tickets t.d_law_tickets
  m_law_tickets:mg "_law_tickets" = some (.ref t.f_law_tickets)
  b_law_tickets:Binds K t.d_law_tickets ["_law_script","_law_k","_law_many"] []
  F_law_bits:Fun K "_law_bits" "_law_bits" s_law_bits t.f_law_bits t.d_law_bits
  m_law_bits:mg "_law_bits" = some (.ref t.f_law_bits)
  b_law_bits:Binds K t.d_law_bits ["_law_zones_here"] []
  F_law_spent:Fun K "_law_spent" "_law_spent" s_law_spent t.f_law_spent t.d_law_spent
  m_law_spent:mg "_law_spent" = some (.ref t.f_law_spent)
  b_law_spent:Binds K t.d_law_spent ["_law_tickets_here","_law_rides_here","_law_bought"] []
  F_law_net:Fun K "_law_net" "_law_net" s_law_net t.f_law_net t.d_law_net
  m_law_net:mg "_law_net" = some (.ref t.f_law_net)
  b_law_net:Binds K t.d_law_net ["_law_names_here","_law_zones_here","_law_tickets_here","_law_trips"] []
  F_law_rides:Fun K "_law_rides" "_law_rides" s_law_rides t.f_law_rides t.d_law_rides
  m_law_rides:mg "_law_rides" = some (.ref t.f_law_rides)
  b_law_rides:Binds K t.d_law_rides ["_law_script","_law_net_here","_law_names_here","_law_zones_here","_law_trips"] []
  F_law_has:Fun K "_law_has" "_law_has" s_law_has t.f_law_has t.d_law_has
  m_law_has:mg "_law_has" = some (.ref t.f_law_has)
  b_law_has:Binds K t.d_law_has ["_law_ticket","_law_ride"] []
  F_law_least:Fun K "_law_least" "_law_least" s_law_least t.f_law_least t.d_law_least
  m_law_least:mg "_law_least" = some (.ref t.f_law_least)
  b_law_least:Binds K t.d_law_least ["_law_tickets_here","_law_rides_here"] []
  F_law_price:Fun K "_law_price" "_law_price" s_law_price t.f_law_price t.d_law_price
  m_law_price:mg "_law_price" = some (.ref t.f_law_price)
  b_law_price:Binds K t.d_law_price ["_law_found"] []
  F_law_no_more:Fun K "_law_no_more" "_law_no_more" s_law_no_more t.f_law_no_more t.d_law_no_more
  m_law_no_more:mg "_law_no_more" = some (.ref t.f_law_no_more)
  b_law_no_more:Binds K t.d_law_no_more ["_law_found","_law_other"] []
  F_law:Fun K "law" "law" s_law t.f_law t.d_law
  m_law:mg "law" = some (.ref t.f_law)
  b_law:Binds K t.d_law ["_law_script"] []
  F_Rule_copied:Fun K "copied" "Rule.copied" s_Rule_copied t.f_Rule_copied t.d_Rule_copied
  b_Rule_copied:Binds K t.d_Rule_copied ["self"] []
  F_Rule_parts:Fun K "parts" "Rule.parts" s_Rule_parts t.f_Rule_parts t.d_Rule_parts
  b_Rule_parts:Binds K t.d_Rule_parts ["self"] []
  F_Rule_runs:Fun K "runs" "Rule.runs" s_Rule_runs t.f_Rule_runs t.d_Rule_runs
  b_Rule_runs:Binds K t.d_Rule_runs ["self","day"] []
  F_Rule_words:Fun K "words" "Rule.words" s_Rule_words t.f_Rule_words t.d_Rule_words
  b_Rule_words:Binds K t.d_Rule_words ["self"] []
  F_Rule_weight:Fun K "weight" "Rule.weight" s_Rule_weight t.f_Rule_weight t.d_Rule_weight
  b_Rule_weight:Binds K t.d_Rule_weight ["self"] []
  F_Rule_depth:Fun K "depth" "Rule.depth" s_Rule_depth t.f_Rule_depth t.d_Rule_depth
  b_Rule_depth:Binds K t.d_Rule_depth ["self"] []
  F_Net_init:Fun K "__init__" "Net.__init__" s_Net_init t.f_Net_init t.d_Net_init
  b_Net_init:Binds K t.d_Net_init ["self"] []
  F_Net_copied:Fun K "copied" "Net.copied" s_Net_copied t.f_Net_copied t.d_Net_copied
  b_Net_copied:Binds K t.d_Net_copied ["self"] []
  F_Net_add_stop:Fun K "add_stop" "Net.add_stop" s_Net_add_stop t.f_Net_add_stop t.d_Net_add_stop
  b_Net_add_stop:Binds K t.d_Net_add_stop ["self","name","zone","change"] []
  F_Net_add_walk:Fun K "add_walk" "Net.add_walk" s_Net_add_walk t.f_Net_add_walk t.d_Net_add_walk
  b_Net_add_walk:Binds K t.d_Net_add_walk ["self","one","other","minutes"] []
  F_Net_add_rule:Fun K "add_rule" "Net.add_rule" s_Net_add_rule t.f_Net_add_rule t.d_Net_add_rule
  b_Net_add_rule:Binds K t.d_Net_add_rule ["self","name","rule"] []
  F_Net_add_ticket:Fun K "add_ticket" "Net.add_ticket" s_Net_add_ticket t.f_Net_add_ticket t.d_Net_add_ticket
  b_Net_add_ticket:Binds K t.d_Net_add_ticket ["self","name","price","lasts","zones"] []
  F_Net_add_trip:Fun K "add_trip" "Net.add_trip" s_Net_add_trip t.f_Net_add_trip t.d_Net_add_trip
  b_Net_add_trip:Binds K t.d_Net_add_trip ["self","name","rule","calls"] []
  F_Net_check_stop:Fun K "check_stop" "Net.check_stop" s_Net_check_stop t.f_Net_check_stop t.d_Net_check_stop
  b_Net_check_stop:Binds K t.d_Net_check_stop ["self","name"] []
  F_Net_check_trip:Fun K "check_trip" "Net.check_trip" s_Net_check_trip t.f_Net_check_trip t.d_Net_check_trip
  b_Net_check_trip:Binds K t.d_Net_check_trip ["self","name"] []
  F_Net_check_call:Fun K "check_call" "Net.check_call" s_Net_check_call t.f_Net_check_call t.d_Net_check_call
  b_Net_check_call:Binds K t.d_Net_check_call ["self","call"] []
  F_Net_has_walk:Fun K "has_walk" "Net.has_walk" s_Net_has_walk t.f_Net_has_walk t.d_Net_has_walk
  b_Net_has_walk:Binds K t.d_Net_has_walk ["self","one","other"] []
  F_Net_stops:Fun K "stops" "Net.stops" s_Net_stops t.f_Net_stops t.d_Net_stops
  b_Net_stops:Binds K t.d_Net_stops ["self"] []
  F_Net_walks:Fun K "walks" "Net.walks" s_Net_walks t.f_Net_walks t.d_Net_walks
  b_Net_walks:Binds K t.d_Net_walks ["self"] []
  F_Net_rules:Fun K "rules" "Net.rules" s_Net_rules t.f_Net_rules t.d_Net_rules
  b_Net_rules:Binds K t.d_Net_rules ["self"] []
  F_Net_tickets:Fun K "tickets" "Net.tickets" s_Net_tickets t.f_Net_tickets t.d_Net_tickets
  b_Net_tickets:Binds K t.d_Net_tickets ["self"] []
  F_Net_trips:Fun K "trips" "Net.trips" s_Net_trips t.f_Net_trips t.d_Net_trips
  b_Net_trips:Binds K t.d_Net_trips ["self"] []
  F_Net_zone:Fun K "zone" "Net.zone" s_Net_zone t.f_Net_zone t.d_Net_zone
  b_Net_zone:Binds K t.d_Net_zone ["self","stop"] []
  F_Net_change:Fun K "change" "Net.change" s_Net_change t.f_Net_change t.d_Net_change
  b_Net_change:Binds K t.d_Net_change ["self","stop"] []
  F_Net_rule:Fun K "rule" "Net.rule" s_Net_rule t.f_Net_rule t.d_Net_rule
  b_Net_rule:Binds K t.d_Net_rule ["self","name"] []
  F_Net_ticket:Fun K "ticket" "Net.ticket" s_Net_ticket t.f_Net_ticket t.d_Net_ticket
  b_Net_ticket:Binds K t.d_Net_ticket ["self","name"] []
  F_Net_rule_name:Fun K "rule_name" "Net.rule_name" s_Net_rule_name t.f_Net_rule_name t.d_Net_rule_name
  b_Net_rule_name:Binds K t.d_Net_rule_name ["self","trip"] []
  F_Net_calls:Fun K "calls" "Net.calls" s_Net_calls t.f_Net_calls t.d_Net_calls
  b_Net_calls:Binds K t.d_Net_calls ["self","trip"] []
  cl_Rule:Cls K t.c_Rule
  mkn_Rule:MkN K t.c_Rule
  me_Rule_copied:Meth K t.c_Rule "copied" t.f_Rule_copied
  me_Rule_depth:Meth K t.c_Rule "depth" t.f_Rule_depth
  me_Rule_parts:Meth K t.c_Rule "parts" t.f_Rule_parts
  me_Rule_runs:Meth K t.c_Rule "runs" t.f_Rule_runs
  me_Rule_weight:Meth K t.c_Rule "weight" t.f_Rule_weight
  me_Rule_words:Meth K t.c_Rule "words" t.f_Rule_words
  cl_Net:Cls K t.c_Net
  mk_Net:Mk K t.c_Net t.f_Net_init
  me_Net_add_rule:Meth K t.c_Net "add_rule" t.f_Net_add_rule
  me_Net_add_stop:Meth K t.c_Net "add_stop" t.f_Net_add_stop
  me_Net_add_ticket:Meth K t.c_Net "add_ticket" t.f_Net_add_ticket
  me_Net_add_trip:Meth K t.c_Net "add_trip" t.f_Net_add_trip
  me_Net_add_walk:Meth K t.c_Net "add_walk" t.f_Net_add_walk
  me_Net_calls:Meth K t.c_Net "calls" t.f_Net_calls
  me_Net_change:Meth K t.c_Net "change" t.f_Net_change
  me_Net_check_call:Meth K t.c_Net "check_call" t.f_Net_check_call
  me_Net_check_stop:Meth K t.c_Net "check_stop" t.f_Net_check_stop
  me_Net_check_trip:Meth K t.c_Net "check_trip" t.f_Net_check_trip
  me_Net_copied:Meth K t.c_Net "copied" t.f_Net_copied
  me_Net_has_walk:Meth K t.c_Net "has_walk" t.f_Net_has_walk
  me_Net_rule:Meth K t.c_Net "rule" t.f_Net_rule
  me_Net_rule_name:Meth K t.c_Net "rule_name" t.f_Net_rule_name
  me_Net_rules:Meth K t.c_Net "rules" t.f_Net_rules
  me_Net_stops:Meth K t.c_Net "stops" t.f_Net_stops
  me_Net_ticket:Meth K t.c_Net "ticket" t.f_Net_ticket
  me_Net_tickets:Meth K t.c_Net "tickets" t.f_Net_tickets
  me_Net_trips:Meth K t.c_Net "trips" t.f_Net_trips
  me_Net_walks:Meth K t.c_Net "walks" t.f_Net_walks
  me_Net_zone:Meth K t.c_Net "zone" t.f_Net_zone
  na_Net_stop_rows:NoAttr K t.c_Net "stop_rows"
  na_Net_walk_rows:NoAttr K t.c_Net "walk_rows"
  na_Net_rule_rows:NoAttr K t.c_Net "rule_rows"
  na_Net_ticket_rows:NoAttr K t.c_Net "ticket_rows"
  na_Net_trip_rows:NoAttr K t.c_Net "trip_rows"
  ow_Rule:OwnC K t.c_Rule
  ki_Rule_Rule:W.kitOne K (.ref t.c_Rule) (.ref t.c_Rule) = some true
  m_RoadError:mg "RoadError" = some (.ref t.c_RoadError)
  m_BadRule:mg "BadRule" = some (.ref t.c_BadRule)
  m_TooMany:mg "TooMany" = some (.ref t.c_TooMany)
  m_BadName:mg "BadName" = some (.ref t.c_BadName)
  m_Twice:mg "Twice" = some (.ref t.c_Twice)
  m_NoStop:mg "NoStop" = some (.ref t.c_NoStop)
  m_NoRule:mg "NoRule" = some (.ref t.c_NoRule)
  m_NoTicket:mg "NoTicket" = some (.ref t.c_NoTicket)
  m_NoTrip:mg "NoTrip" = some (.ref t.c_NoTrip)
  m_BadNumber:mg "BadNumber" = some (.ref t.c_BadNumber)
  m_BadCalls:mg "BadCalls" = some (.ref t.c_BadCalls)
  m_Rule:mg "Rule" = some (.ref t.c_Rule)
  m_Net:mg "Net" = some (.ref t.c_Net)
  lam_c:t.d_least_tickets.code = .ref t.lc
  lam_t:W.tabIn K "least_tickets" = some (t.lc,t.lt)
  lam_n:K.lookup t.lt = none
section
variable {P:Program} {w:World} {K:W.Frag} {mg:Str→Option Value} {base:Heap} {t:Adr}
def spAnyN:Sp:=fun vs H Q _=>∃ (v:V) (T:String),vs = [v]∧Kd H v T∧Q (.bl (wholeV v)) H
theorem ok_is_any_number (Tx:Tab K mg t):FnOk P w K mg base CX0 1 t.f_is_any_number t.d_is_any_number ["value"] spAnyN:=by
  refine Tx.F_is_any_number.ok sc_is_any_number (fun vs H Q E h=>?_) (fun cdv A outer s H vs Q E hr h=>?_)
  · obtain ⟨v,T,rfl,_⟩:=h
    rfl
  obtain ⟨v,T,rfl,kd,q⟩:=h
  refine ⟨_,(pss_one (ps_ret (pe_and (pe_callB call_isi_ty rfl Tx.z_isinstance b_isinstance (pac (pv 0) (pac (pe_gty rfl Tx.z_int b_int) pa_nil))) (pe_one (pe_not (pe_callB call_isi_ty rfl Tx.z_isinstance b_isinstance (pac (pv 0) (pac (pe_gty rfl Tx.z_bool b_bool) pa_nil)))))))),?_⟩
  refine ⟨_,rfl,v,"int",_,_,rfl,kd.ty,kit_int kd,_,rfl,?_⟩
  cases kd with
  | non=>exact itF (by decide) q
  | str x=>exact itF (by decide) q
  | lst e=>exact itF (by decide) q
  | tup e=>exact itF (by decide) q
  | dK e=>exact itF (by decide) q
  | bl b=>exact itT (by decide) ⟨_,rfl,_,"bool",_,_,rfl,(Kd.bl b).ty (H:=H),kit_bool (H:=H) (.bl b),_,rfl,q⟩
  | int i=>exact itT (by decide) ⟨_,rfl,_,"bool",_,_,rfl,(Kd.int i).ty (H:=H),kit_bool (H:=H) (.int i),_,rfl,q⟩
def spNum:Sp:=fun vs H Q _=>∃ (v:V) (lo hi:Int) (T:String),vs = [v,.int lo,.int hi]∧Kd H v T∧Q (.bl (numV v lo hi)) H
theorem ok_is_number (Tx:Tab K mg t):FnOk P w K mg base CX0 2 t.f_is_number t.d_is_number ["value","least","most"] spNum:=by
  refine Tx.F_is_number.ok sc_is_number (fun vs H Q E h=>?_) (fun cdv A outer s H vs Q E hr h=>?_)
  · obtain ⟨v,lo,hi,T,rfl,_⟩:=h
    rfl
  obtain ⟨v,lo,hi,T,rfl,kd,q⟩:=h
  refine ⟨_,(pss_one (ps_ret (pe_and (pe_call (ok_is_any_number Tx) (hr.mono (by omega)) rfl Tx.m_is_any_number Tx.F_is_any_number.kp Tx.b_is_any_number .nil pass0 (pac (pv 0) pa_nil)) (pe_one (pe_chain op_le op_le (pv 1) (pv 0) (pv 2)))))),?_⟩
  refine ⟨_,rfl,v,T,rfl,kd,_,rfl,?_⟩
  cases kd with
  | non=>exact itF Bool.false_ne_true q
  | str x=>exact itF Bool.false_ne_true q
  | lst e=>exact itF Bool.false_ne_true q
  | tup e=>exact itF Bool.false_ne_true q
  | dK e=>exact itF Bool.false_ne_true q
  | bl b=>exact itF Bool.false_ne_true q
  | int i =>
    refine itT rfl ?_
    refine ⟨_,rfl,_,rfl,_,_,rfl,rfl,_,rfl,?_⟩
    refine ite2 (fun c=>?_) (fun c=>?_)
    · refine ⟨_,rfl,_,_,rfl,rfl,?_⟩
      have c':lo≤i:=of_decide_eq_true c
      have e:decide (i≤hi) = numV (.int i) lo hi:=by
        show decide (i≤hi) = decide (lo≤i∧i≤hi)
        exact decide_eq_decide.mpr ⟨fun z=>⟨c',z⟩,fun z=>z.2⟩
      rw [← e] at q; exact q
    · have c':¬ lo≤i:=of_decide_eq_false (Bool.eq_false_iff.mpr c)
      have e:false = numV (.int i) lo hi:=by
        show false = decide (lo≤i∧i≤hi)
        exact (decide_eq_false fun z=>c' z.1).symm
      rw [← e] at q; exact q
theorem num_ok {b:Nat} {lo hi:Int} (h1:lo≤b) (h2:(b:Int)≤hi):numV (.int (b:Nat)) lo hi = true:=decide_eq_true ⟨h1,h2⟩
def letters:Str:=⟨#[97,98,99,100,101,102,103,104,105,106,107,108,109,110,111,112,113,114,115,116,117,118,119,120,121,122]⟩
theorem letters_eq:Str.ofString "abcdefghijklmnopqrstuvwxyz" = letters:=by decide +kernel
theorem inS_letters:∀ i:Nat,i < 26→inS letters (97 + i) = true:=by decide +kernel
theorem name_all {z:Str} (h:NameOk z):((z.cps.toList.map fun c=>inS letters c).all id) = true:=by
  rw [List.all_eq_true]
  intro b hb
  obtain ⟨c,hc,rfl⟩:=List.mem_map.mp hb
  have:=h.2.2.1 c hc
  have e:=inS_letters (c - 97) (by omega)
  rw [show 97 + (c - 97) = c by omega] at e
  exact e
def spChk:Sp:=fun vs H Q _=>∃ (b:Nat) (lo hi:Int),vs = [.int (b:Nat),.int lo,.int hi]∧lo≤b∧(b:Int)≤hi∧Q .non H
theorem ok_check_number (Tx:Tab K mg t):FnOk P w K mg base CX0 3 t.f_check_number t.d_check_number ["value","least","most"] spChk:=by
  refine Tx.F_check_number.ok sc_check_number (fun vs H Q E h=>?_) (fun cdv A outer s H vs Q E hr h=>?_)
  · obtain ⟨b,lo,hi,rfl,_⟩:=h
    rfl
  obtain ⟨b,lo,hi,rfl,h1,h2,q⟩:=h
  refine ⟨_,(pss_one (ps_if (pt_not (pt_val (pe_call (ok_is_number Tx) (hr.mono (by omega)) rfl Tx.m_is_number Tx.F_is_number.kp Tx.b_is_number .nil pass0 (pac (pv 0) (pac (pv 1) (pac (pv 2) pa_nil))))))
    (pss_one ps_never)
    pss_nil)),?_⟩
  exact ⟨_,rfl,_,rfl,_,rfl,.int (b:Nat),lo,hi,"int",rfl,.int _,_,rfl,itF (by rw [num_ok h1 h2]; decide) q⟩
def spIsName:Sp:=fun vs H Q _=>∃ z:Str,vs = [.str z]∧NameOk z∧∀ H',Same H H'→Q (.bl true) H'
theorem ok_is_name (Tx:Tab K mg t):FnOk P w K mg base CX0 1 t.f_is_name t.d_is_name ["value"] spIsName:=by
  refine Tx.F_is_name.ok sc_is_name (fun vs H Q E h=>?_) (fun cdv A outer s H vs Q E hr h=>?_)
  · obtain ⟨z,rfl,_⟩:=h
    rfl
  obtain ⟨z,rfl,hn,q⟩:=h
  obtain ⟨tk,mf⟩:=Tx.m_LETTERS
  rw [letters_eq] at mf
  have hz:z.length≤sizeLine:=Nat.le_trans hn.2.1 (by decide)
  refine ⟨_,(pss_cons (ps_if (PW.pt (pw_or (pt_not (pt_val (pe_callB call_isi_ty rfl Tx.z_isinstance b_isinstance (pac (pv 0) (pac (pe_gty rfl Tx.z_str b_str) pa_nil))))) (pw_or1 (pt_not (pt_chain op_le op_le pe_int (pe_callB call_len_str rfl Tx.z_len b_len (pac (pv 0) pa_nil)) (pe_gintE rfl Tx.m_MOST_LETTERS))))))
    (pss_one (ps_ret pe_bl))
    pss_nil)
    (pss_one (ps_ret (pe_callB (call_all_list rfl) rfl Tx.z_all b_all (pac (pe_compIn (cl:=[]) rfl (pv 0) rfl (by decide +kernel) rfl (by decide +kernel) rfl) pa_nil))))),?_⟩
  refine ⟨_,rfl,.str z,"str",_,_,rfl,(Kd.str z).ty (H:=H),kit_str (H:=H) (.str z),_,rfl,itF (by decide) ?_⟩
  refine ⟨_,rfl,z,rfl,hz,_,_,rfl,rfl,_,rfl,itT (decide_eq_true (by have:=hn.1; omega)) ?_⟩
  refine ⟨_,_,rfl,rfl,_,rfl,itF (by rw [decide_eq_true (show ((z.length:Nat):Int)≤8 by have:=hn.2.1; omega)]; decide) ?_⟩
  refine ⟨letters,zread_glob (t:=tk) rfl rfl mf,_,rfl,z,rfl,hz,fun p hp=>?_⟩
  refine ⟨p,z.cps.toList.map (fun c=>inS letters c),rfl,SqL.of (by rw [upd_same,map_bl]),?_⟩
  have q2:=q _ (same_new hp (HO.lst (z.cps.toList.map fun c=>V.bl (inS letters c))))
  rw [← name_all hn] at q2; exact q2
def spKnown:Sp:=fun vs H Q _=>∃ (z:Str) (d:Addr) (kvs:List (Key×V)),vs = [.str z,.ref d]∧H d = some (.dK kvs)∧Q (.bl (valV kvs (Sum.inr z)).isSome) H
theorem ok_is_known (Tx:Tab K mg t):FnOk P w K mg base CX0 1 t.f_is_known t.d_is_known ["value","named"] spKnown:=by
  refine Tx.F_is_known.ok sc_is_known (fun vs H Q E h=>?_) (fun cdv A outer s H vs Q E hr h=>?_)
  · obtain ⟨z,d,kvs,rfl,_⟩:=h
    rfl
  obtain ⟨z,d,kvs,rfl,hd,q⟩:=h
  refine ⟨_,(pss_one (ps_ret (pe_and (pe_callB call_isi_ty rfl Tx.z_isinstance b_isinstance (pac (pv 0) (pac (pe_gty rfl Tx.z_str b_str) pa_nil))) (pe_one (pe_cmp (pc_din (hu_of hr) (pv 0) (pv 1))))))),?_⟩
  exact ⟨_,rfl,.str z,"str",_,_,rfl,(Kd.str z).ty (H:=H),kit_str (H:=H) (.str z),_,rfl,itT (by decide) ⟨_,rfl,_,rfl,d,_,rfl,DGet.k (k:=Sum.inr z) hd,q⟩⟩
def spNewN:Sp:=fun vs H Q _=>∃ (z:Str) (d:Addr) (kvs:List (Key×V)),vs = [.str z,.ref d]∧H d = some (.dK kvs)∧NameOk z∧valV kvs (Sum.inr z) = none∧∀ H',Same H H'→Q .non H'
theorem ok_check_new (Tx:Tab K mg t):FnOk P w K mg base CX0 2 t.f_check_new t.d_check_new ["name","named"] spNewN:=by
  refine Tx.F_check_new.ok sc_check_new (fun vs H Q E h=>?_) (fun cdv A outer s H vs Q E hr h=>?_)
  · obtain ⟨z,d,kvs,rfl,_⟩:=h
    rfl
  obtain ⟨z,d,kvs,rfl,hd,hn,he,q⟩:=h
  refine ⟨_,(pss_cons (ps_if (pt_not (pt_val (pe_call (ok_is_name Tx) (hr.mono (by omega)) rfl Tx.m_is_name Tx.F_is_name.kp Tx.b_is_name .nil pass0 (pac (pv 0) pa_nil))))
    (pss_one ps_never)
    pss_nil)
    (pss_one (ps_if (pt_cmp (pc_din (hu_of hr) (pv 0) (pv 1)))
    (pss_one ps_never)
    pss_nil))),?_⟩
  refine ⟨_,rfl,z,rfl,hn,fun H1 s1=>⟨_,rfl,itF (by decide) ?_⟩⟩
  exact ⟨_,rfl,_,rfl,d,_,rfl,DGet.k (k:=Sum.inr z) (s1 _ _ hd),_,rfl,itF (by rw [he]; decide) (q H1 s1)⟩
def spRoom:Sp:=fun vs H Q _=>∃ (d:Addr) (kvs:List (Key×V)) (n:Int),vs = [.ref d,.int n]∧H d = some (.dK kvs)∧(kvs.length:Int) < n∧Q .non H
theorem ok_check_room (Tx:Tab K mg t):FnOk P w K mg base CX0 1 t.f_check_room t.d_check_room ["kept","most"] spRoom:=by
  refine Tx.F_check_room.ok sc_check_room (fun vs H Q E h=>?_) (fun cdv A outer s H vs Q E hr h=>?_)
  · obtain ⟨d,kvs,n,rfl,_⟩:=h
    rfl
  obtain ⟨d,kvs,n,rfl,hd,hl,q⟩:=h
  refine ⟨_,(pss_one (ps_if (pt_cmpR op_ge (pe_callB call_lenD rfl Tx.z_len b_len (pac (pv 0) pa_nil)) (pv 1) (nomark _))
    (pss_one ps_never)
    pss_nil)),?_⟩
  exact ⟨_,rfl,d,kvs,rfl,hd,_,rfl,_,_,rfl,rfl,_,rfl,itF (by rw [decide_eq_false (by omega)]; decide) q⟩
def zonesOf (b:Nat):List Nat:=[1,2,3,4,5,6].filter fun z=>decide (b / 2 ^ (z - 1) % 2 = 1)
def zb (zs:List Nat):Nat:=zs.foldl (fun b z=>b ||| 2 ^ (z - 1)) 0
theorem zb_zones:∀ b:Nat,b < 64→zb (zonesOf b) = b:=by decide +kernel
theorem zones_rng (b:Nat):∀ z∈zonesOf b,1≤z∧z≤6:=fun z h=>by
  have:=(List.mem_filter.mp h).1
  simp only [List.mem_cons,List.not_mem_nil,or_false] at this
  omega
theorem zones_up (b:Nat):(zonesOf b).Pairwise (· < ·):=List.Pairwise.filter _ (by decide)
theorem zones_len (b:Nat):(zonesOf b).length≤6:=List.length_filter_le _ _
theorem zones_one:∀ b:Nat,b < 64→1≤b→1≤(zonesOf b).length:=by decide +kernel
def spZb (K:W.Frag):Sp:=fun vs H Q _=>∃ (l:Addr) (b:Nat),vs = [.ref l]∧SqL K H l (natV (zonesOf b))∧b < 64∧Q (.int (b:Nat)) H
theorem ok_zone_bits (Tx:Tab K mg t):FnOk P w K mg base CX0 1 t.f_zone_bits t.d_zone_bits ["zones"] (spZb K):=by
  refine Tx.F_zone_bits.ok sc_zone_bits (fun vs H Q E h=>?_) (fun cdv A outer s H vs Q E hr h=>?_)
  · obtain ⟨l,b,rfl,_⟩:=h
    rfl
  obtain ⟨l,b,rfl,hl,hb,q⟩:=h
  refine ⟨_,(pss_cons (ps_set (i:=1) sc_zone_bits.nd rfl (Or.inl rfl) pe_int)
    (pss_cons (ps_for PassesOwn.never rfl (pi_list (pv 0)) (pg_name (i:=2) sc_zone_bits.nd rfl (Or.inl rfl))
    (pss_one (ps_set (i:=1) sc_zone_bits.nd rfl (Or.inl rfl) (pe_op op_or (pv 1) (pe_op op_shl pe_int (pe_op op_sub (pv 2) pe_int))))))
    (pss_one (ps_ret (pv 1))))),?_⟩
  refine ⟨_,rfl,l,rfl,⟨_,hl⟩,for_list (xs:=natV (zonesOf b)) (fun i σ H'=>H' = H∧∃ v,σ = [some (.ref l),some (.int ((zb ((zonesOf b).take i):Nat))),v]) ⟨rfl,_,rfl⟩ (fun i σ H' _ ⟨e,_⟩=>by rw [e]; exact hl) ?_ ?_⟩
  · rintro i x σ H' hx ⟨rfl,v,rfl⟩
    unfold natV at hx
    rw [List.getElem?_map] at hx
    cases hs:(zonesOf b)[i]? with
    | none=>rw [hs] at hx; cases hx
    | some m =>
      rw [hs] at hx
      obtain rfl:V.int ((m:Nat):Int) = x:=Option.some.inj hx
      have hm:=zones_rng b m (List.mem_of_getElem? hs)
      refine ⟨_,rfl,_,rfl,_,_,rfl,rfl,_,_,rfl,rfl,⟨by omega,by omega,by decide⟩,_,_,rfl,rfl,rfl,some (.int ((m:Nat):Int)),?_⟩
      have e1:(1 * 2 ^ (((m:Nat):Int) - 1).toNat:Int) = ((2 ^ (m - 1):Nat):Int):=by
        rw [Int.one_mul,show (((m:Nat):Int) - 1).toNat = m - 1 by omega]
        exact PyProof.Rows.two_pow_cast _
      have e2:zb ((zonesOf b).take (i + 1)) = zb ((zonesOf b).take i) ||| 2 ^ (m - 1):=by
        rw [List.take_add_one,hs]
        unfold zb
        rw [List.foldl_append]
        rfl
      have e3:Builtin.bitOr ((zb ((zonesOf b).take i):Nat):Int) (1 * 2 ^ (((m:Nat):Int) - 1).toNat) = ((zb ((zonesOf b).take (i + 1)):Nat):Int):=by
        rw [e1,e2]; exact bitOr_nat _ _
      show List.set _ _ _ = _
      rw [← e3]
      rfl
  · rintro σ H' ⟨rfl,v,rfl⟩
    refine ⟨_,rfl,?_⟩
    have e:(natV (zonesOf b)).length = (zonesOf b).length:=List.length_map ..
    rw [e,List.take_length,zb_zones b hb]
    exact q
def spRis:Sp:=fun vs H Q _=>∃ (a:Addr) (ss:List Nat) (n lo:Nat) (hi:Int),vs = [.ref a,.int (n:Nat),.int (lo:Nat),.int hi]∧H a = some (.lst (natV ss))∧1≤ss.length∧ss.length≤n∧ss.Pairwise (· < ·)∧(∀ x∈ss,lo≤x∧((x:Nat):Int)≤hi)∧Q (.bl true) H
theorem ok_are_rising (Tx:Tab K mg t):FnOk P w K mg base CX0 3 t.f_are_rising t.d_are_rising ["values","longest","least","most"] spRis:=by
  refine Tx.F_are_rising.ok sc_are_rising (fun vs H Q E h=>?_) (fun cdv A outer s H vs Q E hr h=>?_)
  · obtain ⟨a,ss,n,lo,hi,rfl,_⟩:=h
    rfl
  obtain ⟨a,ss,n,lo,hi,rfl,ha,l1,l2,up,al,q⟩:=h
  refine ⟨_,(pss_cons (ps_if (PW.pt (pw_or (pt_not (pt_val (pe_callB call_isi_ty rfl Tx.z_isinstance b_isinstance (pac (pv 0) (pac (pe_gty rfl Tx.z_list b_list) pa_nil))))) (pw_or1 (pt_not (pt_chain op_le op_le pe_int (pe_callB call_len_seq rfl Tx.z_len b_len (pac (pv 0) pa_nil)) (pv 1))))))
    (pss_one (ps_ret pe_bl))
    pss_nil)
    (pss_cons (ps_set (i:=4) sc_are_rising.nd rfl (Or.inl rfl) (pv 2))
    (pss_cons (ps_for PassesOwn.never rfl (pi_list (pv 0)) (pg_name (i:=5) sc_are_rising.nd rfl (Or.inl rfl))
    (pss_cons (ps_if (pt_not (pt_val (pe_call (ok_is_number Tx) (hr.mono (by omega)) rfl Tx.m_is_number Tx.F_is_number.kp Tx.b_is_number .nil pass0 (pac (pv 5) (pac (pv 4) (pac (pv 3) pa_nil))))))
    (pss_one (ps_ret pe_bl))
    pss_nil)
    (pss_one (ps_set (i:=4) sc_are_rising.nd rfl (Or.inl rfl) (pe_op op_add (pv 5) pe_int)))))
    (pss_one (ps_ret pe_bl))))),?_⟩
  have hlen:(natV ss).length = ss.length:=List.length_map ..
  refine ⟨_,rfl,.ref a,"list",_,_,rfl,.lst ha,rfl,_,rfl,itF (by decide) ?_⟩
  refine ⟨_,rfl,a,_,rfl,.inl (SqL.of ha),_,_,rfl,rfl,_,rfl,itT (decide_eq_true (by rw [hlen]; omega)) ?_⟩
  refine ⟨_,rfl,_,_,rfl,rfl,_,rfl,itF (by rw [decide_eq_true (show (((natV ss).length:Nat):Int)≤((n:Nat):Int) by rw [hlen]; omega)]; decide) ?_⟩
  refine ⟨_,rfl,_,rfl,a,rfl,⟨_,SqL.of ha⟩,for_list (xs:=natV ss) (fun i σ H'=>H' = H∧∃ (f:Nat) (v:Option V),σ = [some (.ref a),some (.int (n:Nat)),some (.int (lo:Nat)),some (.int hi),some (.int (f:Nat)),v]∧∀ j x,i≤j→ss[j]? = some x→f≤x)
    ⟨rfl,lo,_,rfl,fun j x _ e=>(al x (List.mem_of_getElem? e)).1⟩ (fun i σ H' _ ⟨e,_⟩=>by rw [e]; exact SqL.of ha) ?_ ?_⟩
  · rintro i x σ H' hx ⟨rfl,f,v,rfl,hf⟩
    rw [List.getElem?_map] at hx
    cases hs:ss[i]? with
    | none=>rw [hs] at hx; cases hx
    | some m =>
      rw [hs] at hx
      obtain rfl:V.int ((m:Nat):Int) = x:=Option.some.inj hx
      have hm:=al m (List.mem_of_getElem? hs)
      have fm:=hf i m (Nat.le_refl _) hs
      refine ⟨_,rfl,_,rfl,_,rfl,.int (m:Nat),_,_,"int",rfl,.int _,_,rfl,itF (by rw [num_ok (by omega) hm.2]; decide) ?_⟩
      refine ⟨_,rfl,_,_,rfl,rfl,rfl,m + 1,_,rfl,fun j y hj e=>?_⟩
      have:=List.pairwise_iff_getElem.mp up i j (List.getElem?_eq_some_iff.mp hs).1 (List.getElem?_eq_some_iff.mp e).1 (by omega)
      rw [(List.getElem?_eq_some_iff.mp hs).2,(List.getElem?_eq_some_iff.mp e).2] at this
      exact this
  · rintro σ H' ⟨rfl,f,v,rfl,_⟩
    exact q
def spWhole:Sp:=fun vs H Q _=>∃ (v:V) (T:String),vs = [v]∧Kd H v T∧Q (.bl (wholeV v)) H
theorem ok_law_whole (Tx:Tab K mg t):FnOk P w K mg base CX0 1 t.f_law_whole t.d_law_whole ["_law_found"] spWhole:=by
  refine Tx.F_law_whole.ok sc_law_whole (fun vs H Q E h=>?_) (fun cdv A outer s H vs Q E hr h=>?_)
  · obtain ⟨v,T,rfl,_⟩:=h
    rfl
  obtain ⟨v,T,rfl,kd,q⟩:=h
  refine ⟨_,(pss_one (ps_ret (pe_and (pe_callB call_isi_ty rfl Tx.z_isinstance b_isinstance (pac (pv 0) (pac (pe_gty rfl Tx.z_int b_int) pa_nil))) (pe_one (pe_not (pe_callB call_isi_ty rfl Tx.z_isinstance b_isinstance (pac (pv 0) (pac (pe_gty rfl Tx.z_bool b_bool) pa_nil)))))))),?_⟩
  refine ⟨_,rfl,v,"int",_,_,rfl,kd.ty,kit_int kd,_,rfl,?_⟩
  cases kd with
  | non=>exact itF (by decide) q
  | str x=>exact itF (by decide) q
  | lst e=>exact itF (by decide) q
  | tup e=>exact itF (by decide) q
  | dK e=>exact itF (by decide) q
  | bl b=>exact itT (by decide) ⟨_,rfl,_,"bool",_,_,rfl,(Kd.bl b).ty (H:=H),kit_bool (H:=H) (.bl b),_,rfl,q⟩
  | int i=>exact itT (by decide) ⟨_,rfl,_,"bool",_,_,rfl,(Kd.int i).ty (H:=H),kit_bool (H:=H) (.int i),_,rfl,q⟩
def spDraw (K:W.Frag):Sp:=fun vs H Q _=>∃ (a:Addr) (ns:List Int) (k:Int),vs = [.ref a,.int k]∧SqL K H a (ns.map V.int)∧0≤k∧k≤100000∧∀ (d:Nat) H',d < 998244353→Same H H'→Q (.int (d:Nat)) H'
theorem ok_law_draw (Tx:Tab K mg t):FnOk P w K mg base CX0 1 t.f_law_draw t.d_law_draw ["_law_script","_law_k"] (spDraw K):=by
  refine Tx.F_law_draw.ok sc_law_draw (fun vs H Q E h=>?_) (fun cdv A outer s H vs Q E hr h=>?_)
  · obtain ⟨a,ns,k,rfl,_⟩:=h
    rfl
  obtain ⟨a,ns,k,rfl,hS,k0,k1,q⟩:=h
  refine ⟨_,(pss_cons (ps_set (i:=2) sc_law_draw.nd rfl (Or.inl rfl) pe_int)
    (pss_join (ps_if (pt_cmpR (op_ne_lst hr.units0) (pv 0) (pe_lst pa_nil) (nomark _))
    (pss_one (ps_set (i:=2) sc_law_draw.nd rfl (Or.inl rfl) (pe_ix ix_list (pv 0) (pe_op op_mod (pv 1) (pe_callB call_len_seq rfl Tx.z_len b_len (pac (pv 0) pa_nil))) (fun _ _=>rfl))))
    pss_nil)
    (pss_cons (ps_set (i:=3) sc_law_draw.nd rfl (Or.inl rfl) (pe_op op_add (pe_op op_add (pe_op op_mod (pv 2) pe_int) (pe_op op_mul pe_int (pv 1))) pe_int))
    (pss_one (ps_ret (pe_op op_fdiv (pe_op op_mod (pe_op op_mul (pe_op op_mod (pe_op op_mul (pv 3) (pv 3)) pe_int) (pv 3)) pe_int) pe_int)))))),?_⟩
  refine ⟨fun σ H'=>Same H H'∧∃ c:Int,σ = [some (.ref a),some (.int k),some (.int c),none],?_,?_⟩
  · refine ⟨_,rfl,(by show 0≤sizeLine; decide),fun p hp=>?_⟩
    have sm:=same_new hp (.lst [])
    refine ⟨a,p,_,_,rfl,rfl,sm.seq hS,SqL.of upd_same,flat_ints ns,rfl,_,rfl,?_⟩
    cases ns with
    | nil=>exact itF (by decide) ⟨sm,0,rfl⟩
    | cons n r =>
      refine itT rfl ?_
      have hpos:(0:Int) < (((n :: r).map V.int).length:Nat):=by rw [List.length_map,List.length_cons]; omega
      have h1:=Int.emod_nonneg k (show ((((n :: r).map V.int).length:Nat):Int)≠0 by omega)
      have h2:=Int.emod_lt_of_pos k hpos
      have hlt:(k % (((n :: r).map V.int).length:Nat)).toNat < (n :: r).length:=by
        rw [List.length_map] at h1 h2 ⊢
        omega
      refine ⟨_,rfl,_,rfl,_,rfl,a,_,rfl,.inl (sm.seq hS),_,_,rfl,rfl,hpos,a,_,_,.int ((n :: r)[(k % (((n :: r).map V.int).length:Nat)).toNat]),rfl,rfl,sm.seq hS,?_,sm,_,rfl⟩
      have e:k % (((n :: r).map V.int).length:Nat) = (((k % (((n :: r).map V.int).length:Nat)).toNat:Nat):Int):=by omega
      have q2:atI ((n :: r).map V.int) (((k % (((n :: r).map V.int).length:Nat)).toNat:Nat):Int) = some (.int ((n :: r)[(k % (((n :: r).map V.int).length:Nat)).toNat])):=atI_nat (by rw [List.getElem?_map,List.getElem?_eq_getElem hlt]; rfl)
      rw [← e] at q2
      exact q2
  · rintro σ H' ⟨sm,c,rfl⟩
    have g1:0≤c % 1000000007:=Int.emod_nonneg _ (by decide)
    have g2:c % 1000000007 < 1000000007:=Int.emod_lt_of_pos _ (by decide)
    refine ⟨_,rfl,_,_,rfl,rfl,(by show (0:Int) < 1000000007; decide),_,rfl,_,_,rfl,rfl,.inl ⟨by decide,by decide⟩,_,_,rfl,rfl,_,_,rfl,rfl,?_⟩
    refine ⟨_,rfl,_,rfl,_,_,rfl,rfl,mulM (by show 0≤c % 1000000007 + 7919 * k + 13; omega) (by show c % 1000000007 + 7919 * k + 13 < _; omega),_,_,rfl,rfl,(by show (0:Int) < 1000000007; decide),_,rfl,_,_,rfl,rfl,
      mulM (by show 0≤c % 1000000007 + 7919 * k + 13; omega) (by show c % 1000000007 + 7919 * k + 13 < _; omega),_,_,rfl,rfl,(by show (0:Int) < 998244353; decide),_,_,rfl,rfl,⟨by decide,by decide⟩,?_⟩
    have e:∀ z:Int,∃ d:Nat,d < 998244353∧z % 998244353 / 11 = ((d:Nat):Int):=fun z=>⟨(z % 998244353 / 11).toNat,by omega,by omega⟩
    obtain ⟨d,hd,ed⟩:=e ((c % 1000000007 + 7919 * k + 13) * (c % 1000000007 + 7919 * k + 13) % 1000000007 * (c % 1000000007 + 7919 * k + 13))
    have q2:=q d H' hd sm
    rw [← ed] at q2
    exact q2
def tx (l:List Nat):Str:=⟨l.toArray⟩
theorem tx_len (l:List Nat):(tx l).length = l.length:=by show l.toArray.size = _; rw [List.size_toArray]
theorem tx_app (a b:List Nat):tx a ++ tx b = tx (a ++ b):=by
  show Str.mk (a.toArray ++ b.toArray) = _
  rw [List.append_toArray]; rfl
theorem tx_list (l:List Nat):(tx l).cps.toList = l:=by show l.toArray.toList = l; rfl
theorem tx_inj {a b:List Nat} (h:tx a = tx b):a = b:=by
  have:=congrArg (fun z:Str=>z.cps.toList) h
  rwa [tx_list,tx_list] at this
theorem join_signs:∀ l:List Nat,Str.join (Str.ofString "") (l.map fun c=>tx [c]) = tx l
  | []=>rfl
  | c :: l=>by
    rw [List.map_cons,show Str.ofString "" = (⟨#[]⟩:Str) from rfl,PyProof.Rows.join_nil_cons]
    have ih:=join_signs l
    rw [show Str.ofString "" = (⟨#[]⟩:Str) from rfl] at ih
    rw [ih,tx_app]
    rfl
theorem lt_at:∀ i:Nat,i < 26→atI (Str.ofString "abcdefghijklmnopqrstuvwxyz").cps.toList (i:Int) = some (97 + i):=by decide +kernel
theorem nodup_range_map {f:Nat→Str} {n:Nat} (h:∀ i j,i < j→j < n→f i≠f j):((List.range n).map f).Nodup:=by
  unfold List.Nodup
  rw [List.pairwise_map]
  exact List.Pairwise.imp_of_mem (fun {a b} ha hb hab=>h a b hab (List.mem_range.mp hb)) List.pairwise_lt_range
theorem signs_room (l:List Nat) (h:l.length≤20):((l.map fun c=>tx [c]).map fun x=>x.length + (Str.ofString "").length).sum≤sizeLine :=
  join_room (m:=0) (by decide) (by rw [List.length_map]; exact h) fun x hx=>by
    obtain ⟨c,_,rfl⟩:=List.mem_map.mp hx
    rw [tx_len,List.length_singleton]; decide
theorem nowh:Str.ofString "nowhere" = tx [110,111,119,104,101,114,101]:=by decide +kernel
def rowC (d q m:Nat) (n:Nat):List Nat:=(List.range n).map fun j=>97 + (d / q + m * j) % 26
theorem row_nth {d q m n j:Nat} (h:j < n):(rowC d q m n)[j]? = some (97 + (d / q + m * j) % 26):=by
  unfold rowC
  rw [List.getElem?_map,List.getElem?_range h]; rfl
theorem rowC_len (d q m n:Nat):(rowC d q m n).length = n:=by unfold rowC; rw [List.length_map,List.length_range]
theorem rowC_ok (d q m n:Nat):∀ c∈rowC d q m n,97≤c∧c≤122:=fun c h=>by
  obtain ⟨j,_,rfl⟩:=List.mem_map.mp h
  omega
theorem signs_comp {H:Hp} {Q:VK} {te:TE} {σ0:St} {d q m n:Nat} {g:TG} (hn:n≤8) (h0:σ0 = [none,some (.str (Str.ofString "abcdefghijklmnopqrstuvwxyz")),some (.int (d:Nat))]) (hg:g = gName 0)
    (ht:∀ (i:Nat) (Q':VK),i < n→Q' (.str (tx [97 + (d / q + m * i) % 26])) H→te [some (.int ((i:Nat):Int)),some (.str (Str.ofString "abcdefghijklmnopqrstuvwxyz")),some (.int (d:Nat))] H Q')
    (hq:endC Q (((rowC d q m n).map fun c=>tx [c]).map V.str) H) :
    ∃ W:Nat→Nat→List V→St→Hp→Prop,(∃ m,W 0 m [] σ0 H)∧∀ i m acc σ1 H,W i m acc σ1 H →
      ((Itr 0 n).stop i H∧endC Q acc H) ∨
      ((Itr 0 n).go i H∧acc.length < sizeLine∧∃ N:List V→St→Hp→Prop,(∀ acc' σ' H',N acc' σ' H'→∃ m',m' < m∧W (i + 1) m' acc' σ' H')∧∀ x H',(Itr 0 n).yld i H x H'→g x σ1 H' fun σ2 H2=>tTrue σ2 H2 fun b H3=>if b = true then te σ2 H3 fun y H4=>N (acc ++ [y]) σ2 H4 else N acc σ2 H3):=by
  subst hg
  refine comp_range (fun i acc σ H'=>H' = H∧acc = ((rowC d q m i).map fun c=>tx [c]).map V.str∧∃ v,σ = [v,some (.str (Str.ofString "abcdefghijklmnopqrstuvwxyz")),some (.int (d:Nat))]) ⟨rfl,rfl,none,h0⟩ (Nat.le_trans hn (by decide)) ?_ ?_
  · rintro i acc σ H' hi ha ⟨rfl,rfl,v,rfl⟩
    dsimp only [gName,tTrue]
    rw [if_pos rfl]
    have e0:(0:Int) + ((i:Nat):Int) = ((i:Nat):Int):=by omega
    rw [e0]
    refine ht i _ hi ⟨?_,rfl,?_,_,rfl⟩
    · rw [List.length_append,List.length_singleton]; omega
    · unfold rowC
      rw [List.range_succ,List.map_append,List.map_append,List.map_append]
      rfl
  · rintro acc σ H' ha ⟨rfl,rfl,v,rfl⟩
    exact hq
def spNames (K:W.Frag):Sp:=fun vs H Q _=>∃ (a:Addr) (ns:List Int) (k:Int) (many:Nat),vs = [.ref a,.int k,.int (many:Nat)]∧SqL K H a (ns.map V.int)∧0≤k∧k≤100000∧many≤8 ∧
  ∀ (NS:List Str) l H',Same H H'→H l = none→H' l = some (.lst (NS.map V.str))→NS.length = many→NS.Nodup→(∀ z∈NS,NameOk z)→Q (.ref l) H'
theorem ok_law_names (Tx:Tab K mg t):FnOk P w K mg base CX0 2 t.f_law_names t.d_law_names ["_law_script","_law_k","_law_many"] (spNames K):=by
  refine Tx.F_law_names.ok sc_law_names (fun vs H Q E h=>?_) (fun cdv A outer s H vs Q E hr h=>?_)
  · obtain ⟨a,ns,k,many,rfl,_⟩:=h
    rfl
  obtain ⟨a,ns,k,many,rfl,hS,k0,k1,hm,q⟩:=h
  refine ⟨_,(pss_cons (ps_set (i:=3) sc_law_names.nd rfl (Or.inr rfl) pe_str)
    (pss_cons (ps_set (i:=4) sc_law_names.nd rfl (Or.inr rfl) (pe_call (ok_law_draw Tx) (hr.mono (by omega)) rfl Tx.m_law_draw Tx.F_law_draw.kp Tx.b_law_draw .nil pass0 (pac (pv 0) (pac (pv 1) pa_nil))))
    (pss_cons (ps_if (pt_cmpR op_eq (pe_op op_mod (pv 4) pe_int) pe_int (nomark _))
    (pss_cons (ps_set (i:=5) sc_law_names.nd rfl (Or.inr rfl) (pe_bm PySem.F.plainAttrs_str PySem.F.slot_str_join PySem.F.type_str_join mt_join pe_str (pac (pe_comp (cl:=[(Str.ofString "_law_number",s.heap.objs.size + 2),(Str.ofString "_law_letters",s.heap.objs.size + 1)]) (N:=["_law_j","_law_letters","_law_number"]) (fr:=[none,some 3,some 4]) rfl (pi_range1 rfl Tx.z_range (pac pe_int pa_nil)) rfl (by decide +kernel) rfl (by decide +kernel) ⟨⟨rfl,Or.inl rfl,Or.inl rfl,_,rfl,rfl⟩,⟨⟨rfl,Or.inl rfl,Or.inl rfl,_,rfl,rfl⟩,trivial⟩⟩ ⟨rfl,⟨rfl,trivial⟩⟩ rfl (fun _ _ _ _ _=>(pg_name (i:=0) (show List.Nodup (["_law_j","_law_letters","_law_number"]:List Str) by decide +kernel) rfl (Or.inl rfl))) (fun _ _ _ _ _=>pts_nil) (fun _ _ _ _ _=>(pe_ix ix_str (pv 1) (pe_op op_mod (pe_op op_add (pe_op op_fdiv (pv 2) pe_int) (pe_op op_mul pe_int (pv 0))) pe_int) (fun _ _=>rfl)))) pa_nil)))
    (pss_one (ps_ret (pe_comp (cl:=[(Str.ofString "_law_row",s.heap.objs.size + 3)]) (N:=["_law_j","_law_row"]) (fr:=[none,some 5]) rfl (pi_range1 rfl Tx.z_range (pac (pv 2) pa_nil)) rfl (by decide +kernel) rfl (by decide +kernel) ⟨⟨rfl,Or.inl rfl,Or.inl rfl,_,rfl,rfl⟩,trivial⟩ ⟨rfl,trivial⟩ rfl (fun _ _ _ _ _=>(pg_name (i:=0) (show List.Nodup (["_law_j","_law_row"]:List Str) by decide +kernel) rfl (Or.inl rfl))) (fun _ _ _ _ _=>pts_nil) (fun _ _ _ _ _=>(pe_slice sl_str (pv 1) po_none (po_some (pe_op op_add pe_int (pv 0)))))))))
    pss_nil)
    (pss_cons (ps_set (i:=6) sc_law_names.nd rfl (Or.inl rfl) (pe_op op_mod (pe_op op_fdiv (pv 4) pe_int) pe_int))
    (pss_cons (ps_set (i:=7) sc_law_names.nd rfl (Or.inr rfl) (pe_op op_mod (pe_op op_fdiv (pv 4) pe_int) (pe_op op_add (pv 6) pe_int)))
    (pss_cons (ps_set (i:=8) sc_law_names.nd rfl (Or.inr rfl) (pe_bm PySem.F.plainAttrs_str PySem.F.slot_str_join PySem.F.type_str_join mt_join pe_str (pac (pe_comp (cl:=[(Str.ofString "_law_number",s.heap.objs.size + 2),(Str.ofString "_law_letters",s.heap.objs.size + 1)]) (N:=["_law_j","_law_letters","_law_number"]) (fr:=[none,some 3,some 4]) rfl (pi_range1 rfl Tx.z_range (pac (pv 6) pa_nil)) rfl (by decide +kernel) rfl (by decide +kernel) ⟨⟨rfl,Or.inl rfl,Or.inl rfl,_,rfl,rfl⟩,⟨⟨rfl,Or.inl rfl,Or.inl rfl,_,rfl,rfl⟩,trivial⟩⟩ ⟨rfl,⟨rfl,trivial⟩⟩ rfl (fun _ _ _ _ _=>(pg_name (i:=0) (show List.Nodup (["_law_j","_law_letters","_law_number"]:List Str) by decide +kernel) rfl (Or.inl rfl))) (fun _ _ _ _ _=>pts_nil) (fun _ _ _ _ _=>(pe_ix ix_str (pv 1) (pe_op op_mod (pe_op op_add (pe_op op_fdiv (pv 2) pe_int) (pe_op op_mul pe_int (pv 0))) pe_int) (fun _ _=>rfl)))) pa_nil)))
    (pss_one (ps_ret (pe_comp (cl:=[(Str.ofString "_law_rest",s.heap.objs.size + 5),(Str.ofString "_law_number",s.heap.objs.size + 2),(Str.ofString "_law_letters",s.heap.objs.size + 1),(Str.ofString "_law_at",s.heap.objs.size + 4)]) (N:=["_law_j","_law_rest","_law_letters","_law_at","_law_number"]) (fr:=[none,some 8,some 3,some 7,some 4]) rfl (pi_range1 rfl Tx.z_range (pac (pv 2) pa_nil)) rfl (by decide +kernel) rfl (by decide +kernel) ⟨⟨rfl,Or.inl rfl,Or.inl rfl,_,rfl,rfl⟩,⟨⟨rfl,Or.inl rfl,Or.inl rfl,_,rfl,rfl⟩,⟨⟨rfl,Or.inl rfl,Or.inl rfl,_,rfl,rfl⟩,⟨⟨rfl,Or.inl rfl,Or.inl rfl,_,rfl,rfl⟩,trivial⟩⟩⟩⟩ ⟨rfl,⟨rfl,⟨rfl,⟨rfl,trivial⟩⟩⟩⟩ rfl (fun _ _ _ _ _=>(pg_name (i:=0) (show List.Nodup (["_law_j","_law_rest","_law_letters","_law_at","_law_number"]:List Str) by decide +kernel) rfl (Or.inl rfl))) (fun _ _ _ _ _=>pts_nil) (fun _ _ _ _ _=>(pe_op op_add_str (pe_op op_add_str (pe_slice sl_str (pv 1) po_none (po_some (pv 3))) (pe_ix ix_str (pv 2) (pe_op op_mod (pe_op op_add (pe_op op_fdiv (pv 4) pe_int) (pv 0)) pe_int) (fun _ _=>rfl))) (pe_slice sl_str (pv 1) (po_some (pv 3)) po_none)))))))))))),?_⟩
  refine ⟨_,rfl,_,rfl,a,ns,k,rfl,hS,k0,k1,fun d H1 hd s1=>?_⟩
  refine ⟨_,rfl,_,_,rfl,rfl,(by show (0:Int) < 3; decide),rfl,_,rfl,?_⟩
  refine ite2 (fun c=>?_) (fun c=>?_)
  · refine ⟨rfl,8,rfl,by decide,by decide,signs_comp (d:=d) (q:=3) (m:=5) (n:=8) (by decide) rfl rfl (fun i Q' hi hq=>?_) fun p hp=>?_⟩
    · refine ⟨_,rfl,_,rfl,_,_,rfl,rfl,⟨by decide,by decide⟩,_,rfl,_,_,rfl,rfl,.inl ⟨by decide,by decide⟩,_,_,rfl,rfl,_,_,rfl,rfl,(by show (0:Int) < 26; decide),_,_,97 + (d / 3 + 5 * i) % 26,rfl,rfl,by decide,?_,hq⟩
      have:=lt_at ((d / 3 + 5 * i) % 26) (by omega)
      rw [show (((d / 3 + 5 * i) % 26:Nat):Int) = (((d:Nat):Int) / 3 + 5 * ((i:Nat):Int)) % 26 by omega] at this
      exact this
    · have s2:=same_new hp (.lst (((rowC d 3 5 8).map fun c=>tx [c]).map V.str))
      refine ⟨_,p,(rowC d 3 5 8).map fun c=>tx [c],rfl,rfl,SqL.of upd_same,signs_room _ (by rw [rowC_len]; decide),?_⟩
      rw [join_signs]
      refine ⟨_,rfl,_,rfl,by omega,by omega,?_⟩
      refine comp_range (fun i acc σ H'=>H' = upd H1 p (.lst (((rowC d 3 5 8).map fun c=>tx [c]).map V.str))∧acc = ((List.range i).map fun j=>tx ((rowC d 3 5 8).take (1 + j))).map V.str∧∃ v,σ = [v,some (.str (tx (rowC d 3 5 8)))]) ⟨rfl,rfl,none,rfl⟩ (Nat.le_trans (show _≤8 by omega) (by decide)) ?_ ?_
      · rintro i acc σ H' hi ha ⟨rfl,rfl,v,rfl⟩
        dsimp only [gName,tTrue]
        rw [if_pos rfl]
        refine ⟨_,rfl,_,rfl,_,_,rfl,rfl,_,rfl,_,rfl,(by rw [tx_len,rowC_len]; decide),?_⟩
        have e0:(1:Int) + (0 + ((i:Nat):Int)) = ((1 + i:Nat):Int):=by omega
        rw [e0,sl_to _ _ (by rw [tx_len,rowC_len]; omega),tx_list]
        refine ⟨by rw [List.length_append,List.length_singleton]; omega,rfl,?_,_,rfl⟩
        rw [List.range_succ,List.map_append,List.map_append]
        rfl
      · rintro acc σ H' ha ⟨rfl,rfl,v,rfl⟩ l hl
        have s3:=same_new hl (.lst (((List.range ((many:Nat):Int).toNat).map fun j=>tx ((rowC d 3 5 8).take (1 + j))).map V.str))
        refine q ((List.range ((many:Nat):Int).toNat).map fun j=>tx ((rowC d 3 5 8).take (1 + j))) l _ ((s1.trans s2).trans s3) ((s1.trans s2).free hl) upd_same (by rw [List.length_map,List.length_range]; omega) (nodup_range_map fun i j hij hj e=>?_) fun z hz=>?_
        · have:=congrArg List.length (tx_inj e)
          rw [List.length_take,List.length_take,rowC_len] at this
          omega
        · obtain ⟨j,hj,rfl⟩:=List.mem_map.mp hz
          have hj:=List.mem_range.mp hj
          refine ⟨by rw [tx_len,List.length_take,rowC_len]; omega,by rw [tx_len,List.length_take,rowC_len]; omega,fun c hc=>?_,fun e=>?_⟩
          · rw [tx_list] at hc
            exact rowC_ok d 3 5 8 c (List.mem_of_mem_take hc)
          · rw [nowh] at e
            have e:=tx_inj e
            have l:=congrArg List.length e
            rw [List.length_take,rowC_len] at l
            have l7:min (1 + j) 8 = 7:=l
            have e0:=congrArg (fun l=>l[0]?) e
            have e1:=congrArg (fun l=>l[1]?) e
            rw [List.getElem?_take_of_lt (by omega),row_nth (by decide)] at e0 e1
            have e0:=Option.some.inj e0
            have e1:=Option.some.inj e1
            omega
  · obtain ⟨S,hS8,eS⟩:∃ S:Nat,S < 8∧((d:Nat):Int) / 3 % 8 = ((S:Nat):Int):=⟨(((d:Nat):Int) / 3 % 8).toNat,by omega,by omega⟩
    obtain ⟨A',hA,eA⟩:∃ A':Nat,A'≤S∧((d:Nat):Int) / 24 % (((S:Nat):Int) + 1) = ((A':Nat):Int):=by
      have h1:=Int.emod_nonneg (((d:Nat):Int) / 24) (show (((S:Nat):Int) + 1)≠0 by omega)
      have h2:=Int.emod_lt_of_pos (((d:Nat):Int) / 24) (show 0 < (((S:Nat):Int) + 1) by omega)
      exact ⟨(((d:Nat):Int) / 24 % (((S:Nat):Int) + 1)).toNat,by omega,by omega⟩
    refine ⟨_,rfl,_,_,rfl,rfl,⟨by decide,by decide⟩,_,_,rfl,rfl,(by show (0:Int) < 8; decide),?_⟩
    dsimp only
    rw [eS]
    refine ⟨_,rfl,_,_,rfl,rfl,⟨by decide,by decide⟩,_,rfl,_,_,rfl,rfl,_,_,rfl,rfl,(by show (0:Int) < ((S:Nat):Int) + 1; omega),?_⟩
    dsimp only
    rw [eA]
    refine ⟨rfl,_,rfl,_,rfl,by omega,by omega,signs_comp (d:=d) (q:=216) (m:=7) (n:=((S:Nat):Int).toNat) (by omega) rfl rfl (fun i Q' hi hq=>?_) fun p hp=>?_⟩
    · refine ⟨_,rfl,_,rfl,_,_,rfl,rfl,⟨by decide,by decide⟩,_,rfl,_,_,rfl,rfl,.inl ⟨by decide,by decide⟩,_,_,rfl,rfl,_,_,rfl,rfl,(by show (0:Int) < 26; decide),_,_,97 + (d / 216 + 7 * i) % 26,rfl,rfl,by decide,?_,hq⟩
      have:=lt_at ((d / 216 + 7 * i) % 26) (by omega)
      rw [show (((d / 216 + 7 * i) % 26:Nat):Int) = (((d:Nat):Int) / 216 + 7 * ((i:Nat):Int)) % 26 by omega] at this
      exact this
    · have eS2:((S:Nat):Int).toNat = S:=by omega
      rw [eS2]
      have s2:=same_new hp (.lst (((rowC d 216 7 S).map fun c=>tx [c]).map V.str))
      refine ⟨_,p,(rowC d 216 7 S).map fun c=>tx [c],rfl,rfl,SqL.of upd_same,signs_room _ (by rw [rowC_len]; omega),?_⟩
      rw [join_signs]
      refine ⟨_,rfl,_,rfl,by omega,by omega,?_⟩
      refine comp_range (fun i acc σ H'=>H' = upd H1 p (.lst (((rowC d 216 7 S).map fun c=>tx [c]).map V.str))∧acc = ((List.range i).map fun j=>tx ((rowC d 216 7 S).take A' ++ [97 + (d / 5616 + j) % 26] ++ (rowC d 216 7 S).drop A')).map V.str∧∃ v,σ = [v,some (.str (tx (rowC d 216 7 S))),some (.str (Str.ofString "abcdefghijklmnopqrstuvwxyz")),some (.int ((A':Nat):Int)),some (.int (d:Nat))]) ⟨rfl,rfl,none,rfl⟩ (Nat.le_trans (show _≤8 by omega) (by decide)) ?_ ?_
      · rintro i acc σ H' hi ha ⟨rfl,rfl,v,rfl⟩
        dsimp only [gName,tTrue]
        rw [if_pos rfl]
        have lz:(tx (rowC d 216 7 S)).length≤sizeLine:=by rw [tx_len,rowC_len]; exact Nat.le_trans (show S≤8 by omega) (by decide)
        refine ⟨_,rfl,_,rfl,_,rfl,_,rfl,lz,?_⟩
        rw [sl_to _ _ (by rw [tx_len,rowC_len]; exact hA),tx_list]
        refine ⟨_,rfl,_,rfl,_,_,rfl,rfl,⟨by decide,by decide⟩,_,rfl,_,_,rfl,rfl,_,_,rfl,rfl,(by show (0:Int) < 26; decide),_,_,97 + (d / 5616 + i) % 26,rfl,rfl,by decide,?_,?_⟩
        · have:=lt_at ((d / 5616 + i) % 26) (by omega)
          rw [show (((d / 5616 + i) % 26:Nat):Int) = (((d:Nat):Int) / 5616 + (0 + ((i:Nat):Int))) % 26 by omega] at this
          exact this
        have l1:((rowC d 216 7 S).take A').length≤8:=by rw [List.length_take,rowC_len]; omega
        have l2:((rowC d 216 7 S).drop A').length≤8:=by rw [List.length_drop,rowC_len]; omega
        refine ⟨_,_,rfl,rfl,?_,?_⟩
        · show (tx ((rowC d 216 7 S).take A')).length + (tx [97 + (d / 5616 + i) % 26]).length≤sizeLine
          rw [tx_len,tx_len,List.length_singleton]
          exact Nat.le_trans (show _≤9 by omega) (by decide)
        refine ⟨_,rfl,_,rfl,_,rfl,_,rfl,lz,?_⟩
        rw [sl_from _ _ (by rw [tx_len,rowC_len]; exact hA),tx_list]
        refine ⟨_,_,rfl,rfl,?_,?_⟩
        · show (tx ((rowC d 216 7 S).take A') ++ tx [97 + (d / 5616 + i) % 26]).length + (tx ((rowC d 216 7 S).drop A')).length≤sizeLine
          rw [tx_app,tx_len,tx_len,List.length_append,List.length_singleton]
          exact Nat.le_trans (show _≤17 by omega) (by decide)
        refine ⟨by rw [List.length_append,List.length_singleton]; omega,rfl,?_,_,rfl⟩
        show _ ++ [V.str (tx ((rowC d 216 7 S).take A') ++ tx [97 + (d / 5616 + i) % 26] ++ tx ((rowC d 216 7 S).drop A'))] = _
        rw [tx_app,tx_app,List.range_succ,List.map_append,List.map_append]
        rfl
      · rintro acc σ H' ha ⟨rfl,rfl,v,rfl⟩ l hl
        have s3:=same_new hl (.lst (((List.range ((many:Nat):Int).toNat).map fun j=>tx ((rowC d 216 7 S).take A' ++ [97 + (d / 5616 + j) % 26] ++ (rowC d 216 7 S).drop A')).map V.str))
        refine q ((List.range ((many:Nat):Int).toNat).map fun j=>tx ((rowC d 216 7 S).take A' ++ [97 + (d / 5616 + j) % 26] ++ (rowC d 216 7 S).drop A')) l _ ((s1.trans s2).trans s3) ((s1.trans s2).free hl) upd_same (by rw [List.length_map,List.length_range]; omega) (nodup_range_map fun i j hij hj e=>?_) fun z hz=>?_
        · have e:=tx_inj e
          rw [List.append_assoc,List.append_assoc] at e
          have e:=List.append_cancel_left e
          injection e with e _
          omega
        · obtain ⟨j,hj,rfl⟩:=List.mem_map.mp hz
          refine ⟨?_,?_,fun c hc=>?_,fun e=>?_⟩
          · rw [tx_len,List.length_append,List.length_append,List.length_singleton]; omega
          · rw [tx_len,List.length_append,List.length_append,List.length_singleton,List.length_take,List.length_drop,rowC_len]; omega
          · rw [tx_list] at hc
            rcases List.mem_append.mp hc with hc | hc
            · rcases List.mem_append.mp hc with hc | hc
              · exact rowC_ok d 216 7 S c (List.mem_of_mem_take hc)
              · rw [List.mem_singleton] at hc; omega
            · exact rowC_ok d 216 7 S c (List.mem_of_mem_drop hc)
          · rw [nowh] at e
            have e:=tx_inj e
            have l:=congrArg List.length e
            rw [List.length_append,List.length_append,List.length_singleton,List.length_take,List.length_drop,rowC_len] at l
            have l7:min A' S + 1 + (S - A') = 7:=l
            have lt:((rowC d 216 7 S).take A' ++ [97 + (d / 5616 + j) % 26]).length = A' + 1:=by rw [List.length_append,List.length_singleton,List.length_take,rowC_len]; omega
            by_cases hA2:2≤A'
            · have e0:=congrArg (fun l=>l[0]?) e
              have e1:=congrArg (fun l=>l[1]?) e
              rw [List.getElem?_append_left (by rw [lt]; omega),List.getElem?_append_left (by rw [List.length_take,rowC_len]; omega),List.getElem?_take_of_lt (by omega),row_nth (by omega)] at e0 e1
              have e0:=Option.some.inj e0
              have e1:=Option.some.inj e1
              omega
            · have e0:=congrArg (fun l=>l[5]?) e
              have e1:=congrArg (fun l=>l[6]?) e
              rw [List.getElem?_append_right (by rw [lt]; omega),lt,List.getElem?_drop,row_nth (by omega)] at e0 e1
              have e0:=Option.some.inj e0
              have e1:=Option.some.inj e1
              rw [show A' + (5 - (A' + 1)) = 4 by omega] at e0
              rw [show A' + (6 - (A' + 1)) = 5 by omega] at e1
              omega
def fnd {α:Type} (nm:α→Str) (xs:List α) (z:Str):Option α:=xs.find? fun x=>decide (nm x = z)
theorem fnd_mem {α:Type} {nm:α→Str} {xs:List α} {z:Str} {x:α} (h:fnd nm xs z = some x):x∈xs∧nm x = z:=⟨List.mem_of_find?_eq_some h,of_decide_eq_true (List.find?_some (p:=fun x=>decide (nm x = z)) h)⟩
theorem fnd_rows {α:Type} {nm:α→Str} {R:Key×V→α→Prop} (hR:∀ kv x,R kv x→kv.1 = Sum.inr (nm x)) {rows:List (Key×V)} {xs:List α} (h:Al R rows xs) (z:Str) :
    (fnd nm xs z = none→valV rows (Sum.inr z) = none)∧∀ x,fnd nm xs z = some x→∃ kv,valV rows (Sum.inr z) = some kv.2∧R kv x:=by
  induction h with
  | nil=>exact ⟨fun _=>rfl,fun k e=>by cases e⟩
  | @cons kv k rows xs hr _ ih =>
    by_cases e:nm k = z
    · have ek:kv.1 = Sum.inr z:=by rw [hR _ _ hr,e]
      have ef:fnd nm (k :: xs) z = some k:=by unfold fnd; rw [List.find?_cons,decide_eq_true e]
      refine ⟨fun n=>(by rw [ef] at n; cases n),fun k' e'=>?_⟩
      rw [ef] at e'
      cases e'
      exact ⟨kv,valV_pos ek,hr⟩
    · have ek:kv.1≠Sum.inr z:=fun x=>e (by rw [hR _ _ hr] at x; exact Sum.inr.inj x)
      have ef:fnd nm (k :: xs) z = fnd nm xs z:=by unfold fnd; rw [List.find?_cons,decide_eq_false e]
      have ev:valV (kv :: rows) (Sum.inr z) = valV rows (Sum.inr z):=by unfold valV; rw [List.find?_cons,decide_eq_false ek]
      rw [ef,ev]
      exact ih
theorem fnd_nodup {α:Type} {nm:α→Str} {xs:List α} (nd:(xs.map nm).Nodup) {i:Nat} {x:α} (e:xs[i]? = some x):fnd nm (xs.take i) (nm x) = none:=by
  unfold fnd
  rw [List.find?_eq_none]
  intro y hy
  rw [decide_eq_true_eq]
  intro ex
  obtain ⟨j,hj,ej⟩:=List.mem_iff_getElem.mp hy
  rw [List.length_take] at hj
  obtain ⟨hi,ei⟩:=List.getElem?_eq_some_iff.mp e
  rw [List.getElem_take] at ej
  have:=List.pairwise_iff_getElem.mp nd j i (by rw [List.length_map]; omega) (by rw [List.length_map]; exact hi) (by omega)
  rw [List.getElem_map,List.getElem_map,ej,ei] at this
  exact this ex
theorem fnd_some {α:Type} {nm:α→Str} {xs:List α} {x:α} (h:x∈xs):∃ y,fnd nm xs (nm x) = some y:=by
  cases e:fnd nm xs (nm x) with
  | some y=>exact ⟨y,rfl⟩
  | none =>
    unfold fnd at e
    rw [List.find?_eq_none] at e
    exact absurd (decide_eq_true rfl) (e x h)
theorem fnd_uniq {α:Type} {nm:α→Str} {xs:List α} (nd:(xs.map nm).Nodup) {x:α} (h:x∈xs):fnd nm xs (nm x) = some x:=by
  obtain ⟨y,hy⟩:=fnd_some (nm:=nm) h
  have:=fnd_mem hy
  obtain ⟨i,hi,ei⟩:=List.mem_iff_getElem.mp h
  obtain ⟨j,hj,ej⟩:=List.mem_iff_getElem.mp this.1
  by_cases e:i = j
  · subst e; rw [hy,← ei,ej]
  · exfalso
    rcases Nat.lt_or_gt_of_ne e with hlt | hlt
    · have:=List.pairwise_iff_getElem.mp nd i j (by rw [List.length_map]; exact hi) (by rw [List.length_map]; exact hj) hlt
      rw [List.getElem_map,List.getElem_map,ej,ei] at this
      exact this (by rw [(fnd_mem hy).2])
    · have:=List.pairwise_iff_getElem.mp nd j i (by rw [List.length_map]; exact hj) (by rw [List.length_map]; exact hi) hlt
      rw [List.getElem_map,List.getElem_map,ej,ei] at this
      exact this (by rw [(fnd_mem hy).2])
structure Tk where
  nm:Str
  pr:Nat
  la:Nat
  b:Nat
structure Tk.Ok (k:Tk):Prop where
  nm:NameOk k.nm
  pr:k.pr≤10000
  la1:1≤k.la
  la:k.la≤1440
  b1:1≤k.b
  b:k.b < 64
structure Stp where
  nm:Str
  z:Nat
  ch:Nat
structure Cl where
  st:Str
  ar:Nat
  lv:Nat
structure Tp where
  nm:Str
  ru:Str
  cs:List Cl
def RowIs (H:Hp) (kv:Key×V) (k:Tk):Prop:=kv.1 = Sum.inr k.nm∧∃ r z,kv.2 = .ref r∧H r = some (.tup [.int (k.pr:Nat),.int (k.la:Nat),.ref z])∧H z = some (.tup (natV (zonesOf k.b)))
theorem RowIs.same {H H':Hp} {kv:Key×V} {k:Tk} (s:Same H H') (h:RowIs H kv k):RowIs H' kv k:=by
  obtain ⟨e,r,z,e1,e2,e3⟩:=h
  exact ⟨e,r,z,e1,s _ _ e2,s _ _ e3⟩
def SRow (H:Hp) (kv:Key×V) (k:Stp):Prop:=kv.1 = Sum.inr k.nm∧∃ r,kv.2 = .ref r∧H r = some (.tup [.int (k.z:Nat),.int (k.ch:Nat)])
theorem SRow.same {H H':Hp} {kv:Key×V} {k:Stp} (s:Same H H') (h:SRow H kv k):SRow H' kv k:=let ⟨e,r,e1,e2⟩:=h; ⟨e,r,e1,s _ _ e2⟩
def ClAt (H:Hp) (v:V) (c:Cl):Prop:=∃ p,v = .ref p∧H p = some (.tup [.str c.st,.int (c.ar:Nat),.int (c.lv:Nat)])
theorem ClAt.same {H H':Hp} {v:V} {c:Cl} (s:Same H H') (h:ClAt H v c):ClAt H' v c:=let ⟨p,e,h⟩:=h; ⟨p,e,s _ _ h⟩
def TRow (H:Hp) (kv:Key×V) (k:Tp):Prop:=kv.1 = Sum.inr k.nm∧∃ r q vs,kv.2 = .ref r∧H r = some (.tup [.str k.ru,.ref q])∧H q = some (.tup vs)∧Al (ClAt H) vs k.cs
theorem TRow.same {H H':Hp} {kv:Key×V} {k:Tp} (s:Same H H') (h:TRow H kv k):TRow H' kv k:=let ⟨e,r,q,vs,e1,e2,e3,e4⟩:=h; ⟨e,r,q,vs,e1,s _ _ e2,s _ _ e3,e4.imp fun _ _=>ClAt.same s⟩
def URow (kv:Key×V) (z:Str):Prop:=kv.1 = Sum.inr z
structure NetM where
  st:List Stp
  ru:List Str
  tk:List Tk
  tp:List Tp
structure NetF (fs:List (Str×V)) (ds dr dt dp:Addr):Prop where
  fs1:fs.lookup ("stop_rows" : Str) = some (V.ref ds)
  fr:fs.lookup ("rule_rows" : Str) = some (V.ref dr)
  ft:fs.lookup ("ticket_rows" : Str) = some (V.ref dt)
  fp:fs.lookup ("trip_rows" : Str) = some (V.ref dp)
  n1:fs.lookup ("ticket" : Str) = none
  n2:fs.lookup ("calls" : Str) = none
  n3:fs.lookup ("zone" : Str) = none
  n4:fs.lookup ("check_stop" : Str) = none
  n5:fs.lookup ("check_trip" : Str) = none
  n6:fs.lookup ("check_call" : Str) = none
  n7:fs.lookup ("add_stop" : Str) = none
  n8:fs.lookup ("add_rule" : Str) = none
  n9:fs.lookup ("add_ticket" : Str) = none
  n0:fs.lookup ("add_trip" : Str) = none
  nt:fs.lookup ("tickets" : Str) = none
structure Apart (ds dr dt dp:Addr):Prop where
  sr:ds≠dr
  st:ds≠dt
  sp:ds≠dp
  rt:dr≠dt
  rp:dr≠dp
  tp:dt≠dp
structure NetO (t:Adr) (H:Hp) (n ds dr dt dp:Addr) (N:NetM):Prop where
  ob:∃ dx fs,H n = some (.ins t.c_Net dx fs)∧NetF fs ds dr dt dp
  ap:Apart ds dr dt dp
  st:∃ rows,H ds = some (.dK rows)∧Al (SRow H) rows N.st
  ru:∃ rows,H dr = some (.dK rows)∧Al URow rows N.ru
  tk:∃ rows,H dt = some (.dK rows)∧Al (RowIs H) rows N.tk
  tp:∃ rows,H dp = some (.dK rows)∧Al (TRow H) rows N.tp
theorem NetO.same {H H':Hp} {n ds dr dt dp:Addr} {N:NetM} (s:Same H H') (h:NetO t H n ds dr dt dp N):NetO t H' n ds dr dt dp N:=by
  obtain ⟨⟨dx,fs,e1,e2⟩,ap,⟨r1,a1,b1⟩,⟨r2,a2,b2⟩,⟨r3,a3,b3⟩,⟨r4,a4,b4⟩⟩:=h
  exact ⟨⟨dx,fs,s _ _ e1,e2⟩,ap,⟨r1,s _ _ a1,b1.imp fun _ _=>SRow.same s⟩,⟨r2,s _ _ a2,b2⟩,⟨r3,s _ _ a3,b3.imp fun _ _=>RowIs.same s⟩,⟨r4,s _ _ a4,b4.imp fun _ _=>TRow.same s⟩⟩
def NetNew (H0:Hp) (ds dr dt dp:Addr):Prop:=H0 ds = none∧H0 dr = none∧H0 dt = none∧H0 dp = none
theorem fewS {f:Str} {v:V} {fs:List (Str×V)} {n:Nat} (h:fs.length≤n):(putF f v fs).length≤n + 1:=Nat.le_trans (length_putF _ _ _) (Nat.succ_le_succ h)
def spInit (t:Adr):Sp:=fun vs H Q _=>∃ (x:Addr) (H0:Hp),vs = [.ref x]∧H0 x = none∧Same H0 H∧(∃ dx,H x = some (.ins t.c_Net dx []))∧∀ H' ds dr dt dp,Same H0 H'→NetO t H' x ds dr dt dp ⟨[],[],[],[]⟩→NetNew H0 ds dr dt dp→Q .non H'
theorem ok_Net_init (Tx:Tab K mg t):FnOk P w K mg base CX0 1 t.f_Net_init t.d_Net_init ["self"] (spInit t):=by
  refine Tx.F_Net_init.ok sc_Net_init (fun vs H Q E h=>?_) (fun cdv A outer s H vs Q E hr h=>?_)
  · obtain ⟨x,H0,rfl,_⟩:=h
    rfl
  obtain ⟨x,H0,rfl,n0,s0,⟨dx,hx⟩,q⟩:=h
  refine ⟨_,(pss_cons (ps_fld (pv 0) pe_dnew rfl)
    (pss_cons (ps_fld (pv 0) (pe_lst pa_nil) rfl)
    (pss_cons (ps_fld (pv 0) pe_dnew rfl)
    (pss_cons (ps_fld (pv 0) pe_dnew rfl)
    (pss_one (ps_fld (pv 0) pe_dnew rfl)))))),?_⟩
  intro p1 g1
  have x1:p1≠x:=fun z=>by rw [z,hx] at g1; cases g1
  have d1:=s0.free g1
  refine ⟨_,rfl,x,_,dx,_,rfl,(by rw [upd_ne x1.symm]; exact hx),Tx.cl_Net,Tx.na_Net_stop_rows,by decide,?_⟩
  have u1:=same_put (s0.trans (same_new g1 (.dK []))) n0 (.ins t.c_Net dx (putF "stop_rows" (.ref p1) []))
  have y1:(upd (upd H p1 (.dK [])) x (.ins t.c_Net dx (putF "stop_rows" (.ref p1) []))) x = some (.ins t.c_Net dx (putF "stop_rows" (.ref p1) [])):=upd_same
  have k1:(upd (upd H p1 (.dK [])) x (.ins t.c_Net dx (putF "stop_rows" (.ref p1) []))) p1 = some (.dK []):=by rw [upd_ne x1]; exact upd_same
  generalize upd (upd H p1 (.dK [])) x (.ins t.c_Net dx (putF "stop_rows" (.ref p1) [])) = H1 at u1 y1 k1 ⊢
  refine ⟨by show 0≤sizeLine; decide,fun p2 g2=>?_⟩
  have x2:p2≠x:=fun z=>by rw [z,y1] at g2; cases g2
  have n12:p1≠p2:=ne_of_none k1 g2
  have d2:=u1.free g2
  refine ⟨_,rfl,x,_,dx,_,rfl,(by rw [upd_ne x2.symm]; exact y1),Tx.cl_Net,Tx.na_Net_walk_rows,Nat.lt_of_le_of_lt (fewS (Nat.zero_le 0)) (by decide),?_⟩
  have u2:=same_put (u1.trans (same_new g2 (.lst []))) n0 (.ins t.c_Net dx (putF "walk_rows" (.ref p2) (putF "stop_rows" (.ref p1) [])))
  have y2:(upd (upd H1 p2 (.lst [])) x (.ins t.c_Net dx (putF "walk_rows" (.ref p2) (putF "stop_rows" (.ref p1) [])))) x = some (.ins t.c_Net dx (putF "walk_rows" (.ref p2) (putF "stop_rows" (.ref p1) []))):=upd_same
  have k1:(upd (upd H1 p2 (.lst [])) x (.ins t.c_Net dx (putF "walk_rows" (.ref p2) (putF "stop_rows" (.ref p1) [])))) p1 = some (.dK []):=by rw [upd_ne x1,upd_ne n12]; exact k1
  generalize upd (upd H1 p2 (.lst [])) x (.ins t.c_Net dx (putF "walk_rows" (.ref p2) (putF "stop_rows" (.ref p1) []))) = H2 at u2 y2 k1 ⊢
  intro p3 g3
  have x3:p3≠x:=fun z=>by rw [z,y2] at g3; cases g3
  have n13:p1≠p3:=ne_of_none k1 g3
  have d3:=u2.free g3
  refine ⟨_,rfl,x,_,dx,_,rfl,(by rw [upd_ne x3.symm]; exact y2),Tx.cl_Net,Tx.na_Net_rule_rows,Nat.lt_of_le_of_lt (fewS (fewS (Nat.zero_le 0))) (by decide),?_⟩
  have u3:=same_put (u2.trans (same_new g3 (.dK []))) n0 (.ins t.c_Net dx (putF "rule_rows" (.ref p3) (putF "walk_rows" (.ref p2) (putF "stop_rows" (.ref p1) []))))
  have y3:(upd (upd H2 p3 (.dK [])) x (.ins t.c_Net dx (putF "rule_rows" (.ref p3) (putF "walk_rows" (.ref p2) (putF "stop_rows" (.ref p1) []))))) x = some (.ins t.c_Net dx (putF "rule_rows" (.ref p3) (putF "walk_rows" (.ref p2) (putF "stop_rows" (.ref p1) [])))):=upd_same
  have k1:(upd (upd H2 p3 (.dK [])) x (.ins t.c_Net dx (putF "rule_rows" (.ref p3) (putF "walk_rows" (.ref p2) (putF "stop_rows" (.ref p1) []))))) p1 = some (.dK []):=by rw [upd_ne x1,upd_ne n13]; exact k1
  have k3:(upd (upd H2 p3 (.dK [])) x (.ins t.c_Net dx (putF "rule_rows" (.ref p3) (putF "walk_rows" (.ref p2) (putF "stop_rows" (.ref p1) []))))) p3 = some (.dK []):=by rw [upd_ne x3]; exact upd_same
  generalize upd (upd H2 p3 (.dK [])) x (.ins t.c_Net dx (putF "rule_rows" (.ref p3) (putF "walk_rows" (.ref p2) (putF "stop_rows" (.ref p1) [])))) = H3 at u3 y3 k1 k3 ⊢
  intro p4 g4
  have x4:p4≠x:=fun z=>by rw [z,y3] at g4; cases g4
  have n14:p1≠p4:=ne_of_none k1 g4
  have n34:p3≠p4:=ne_of_none k3 g4
  have d4:=u3.free g4
  refine ⟨_,rfl,x,_,dx,_,rfl,(by rw [upd_ne x4.symm]; exact y3),Tx.cl_Net,Tx.na_Net_ticket_rows,Nat.lt_of_le_of_lt (fewS (fewS (fewS (Nat.zero_le 0)))) (by decide),?_⟩
  have u4:=same_put (u3.trans (same_new g4 (.dK []))) n0 (.ins t.c_Net dx (putF "ticket_rows" (.ref p4) (putF "rule_rows" (.ref p3) (putF "walk_rows" (.ref p2) (putF "stop_rows" (.ref p1) [])))))
  have y4:(upd (upd H3 p4 (.dK [])) x (.ins t.c_Net dx (putF "ticket_rows" (.ref p4) (putF "rule_rows" (.ref p3) (putF "walk_rows" (.ref p2) (putF "stop_rows" (.ref p1) [])))))) x = some (.ins t.c_Net dx (putF "ticket_rows" (.ref p4) (putF "rule_rows" (.ref p3) (putF "walk_rows" (.ref p2) (putF "stop_rows" (.ref p1) []))))):=upd_same
  have k1:(upd (upd H3 p4 (.dK [])) x (.ins t.c_Net dx (putF "ticket_rows" (.ref p4) (putF "rule_rows" (.ref p3) (putF "walk_rows" (.ref p2) (putF "stop_rows" (.ref p1) [])))))) p1 = some (.dK []):=by rw [upd_ne x1,upd_ne n14]; exact k1
  have k3:(upd (upd H3 p4 (.dK [])) x (.ins t.c_Net dx (putF "ticket_rows" (.ref p4) (putF "rule_rows" (.ref p3) (putF "walk_rows" (.ref p2) (putF "stop_rows" (.ref p1) [])))))) p3 = some (.dK []):=by rw [upd_ne x3,upd_ne n34]; exact k3
  have k4:(upd (upd H3 p4 (.dK [])) x (.ins t.c_Net dx (putF "ticket_rows" (.ref p4) (putF "rule_rows" (.ref p3) (putF "walk_rows" (.ref p2) (putF "stop_rows" (.ref p1) [])))))) p4 = some (.dK []):=by rw [upd_ne x4]; exact upd_same
  generalize upd (upd H3 p4 (.dK [])) x (.ins t.c_Net dx (putF "ticket_rows" (.ref p4) (putF "rule_rows" (.ref p3) (putF "walk_rows" (.ref p2) (putF "stop_rows" (.ref p1) []))))) = H4 at u4 y4 k1 k3 k4 ⊢
  intro p5 g5
  have x5:p5≠x:=fun z=>by rw [z,y4] at g5; cases g5
  have n15:p1≠p5:=ne_of_none k1 g5
  have n35:p3≠p5:=ne_of_none k3 g5
  have n45:p4≠p5:=ne_of_none k4 g5
  have d5:=u4.free g5
  refine ⟨_,rfl,x,_,dx,_,rfl,(by rw [upd_ne x5.symm]; exact y4),Tx.cl_Net,Tx.na_Net_trip_rows,Nat.lt_of_le_of_lt (fewS (fewS (fewS (fewS (Nat.zero_le 0))))) (by decide),?_⟩
  have u5:=same_put (u4.trans (same_new g5 (.dK []))) n0 (.ins t.c_Net dx (putF "trip_rows" (.ref p5) (putF "ticket_rows" (.ref p4) (putF "rule_rows" (.ref p3) (putF "walk_rows" (.ref p2) (putF "stop_rows" (.ref p1) []))))))
  have y5:(upd (upd H4 p5 (.dK [])) x (.ins t.c_Net dx (putF "trip_rows" (.ref p5) (putF "ticket_rows" (.ref p4) (putF "rule_rows" (.ref p3) (putF "walk_rows" (.ref p2) (putF "stop_rows" (.ref p1) []))))))) x = some (.ins t.c_Net dx (putF "trip_rows" (.ref p5) (putF "ticket_rows" (.ref p4) (putF "rule_rows" (.ref p3) (putF "walk_rows" (.ref p2) (putF "stop_rows" (.ref p1) [])))))):=upd_same
  have k1:(upd (upd H4 p5 (.dK [])) x (.ins t.c_Net dx (putF "trip_rows" (.ref p5) (putF "ticket_rows" (.ref p4) (putF "rule_rows" (.ref p3) (putF "walk_rows" (.ref p2) (putF "stop_rows" (.ref p1) []))))))) p1 = some (.dK []):=by rw [upd_ne x1,upd_ne n15]; exact k1
  have k3:(upd (upd H4 p5 (.dK [])) x (.ins t.c_Net dx (putF "trip_rows" (.ref p5) (putF "ticket_rows" (.ref p4) (putF "rule_rows" (.ref p3) (putF "walk_rows" (.ref p2) (putF "stop_rows" (.ref p1) []))))))) p3 = some (.dK []):=by rw [upd_ne x3,upd_ne n35]; exact k3
  have k4:(upd (upd H4 p5 (.dK [])) x (.ins t.c_Net dx (putF "trip_rows" (.ref p5) (putF "ticket_rows" (.ref p4) (putF "rule_rows" (.ref p3) (putF "walk_rows" (.ref p2) (putF "stop_rows" (.ref p1) []))))))) p4 = some (.dK []):=by rw [upd_ne x4,upd_ne n45]; exact k4
  have k5:(upd (upd H4 p5 (.dK [])) x (.ins t.c_Net dx (putF "trip_rows" (.ref p5) (putF "ticket_rows" (.ref p4) (putF "rule_rows" (.ref p3) (putF "walk_rows" (.ref p2) (putF "stop_rows" (.ref p1) []))))))) p5 = some (.dK []):=by rw [upd_ne x5]; exact upd_same
  generalize upd (upd H4 p5 (.dK [])) x (.ins t.c_Net dx (putF "trip_rows" (.ref p5) (putF "ticket_rows" (.ref p4) (putF "rule_rows" (.ref p3) (putF "walk_rows" (.ref p2) (putF "stop_rows" (.ref p1) [])))))) = H5 at u5 y5 k1 k3 k4 k5 ⊢
  exact q _ p1 p3 p4 p5 u5 ⟨⟨dx,_,y5,⟨rfl,rfl,rfl,rfl,rfl,rfl,rfl,rfl,rfl,rfl,rfl,rfl,rfl,rfl,rfl⟩⟩,⟨n13,n14,n15,n34,n35,n45⟩,⟨[],k1,.nil⟩,⟨[],k3,.nil⟩,⟨[],k4,.nil⟩,⟨[],k5,.nil⟩⟩ ⟨d1,d3,d4,d5⟩
def NetAt (t:Adr) (H:Hp) (n:Addr) (N:NetM):Prop:=∃ ds dr dt dp,NetO t H n ds dr dt dp N
theorem NetAt.same {H H':Hp} {n:Addr} {N:NetM} (s:Same H H') (h:NetAt t H n N):NetAt t H' n N:=let ⟨ds,dr,dt,dp,h⟩:=h; ⟨ds,dr,dt,dp,h.same s⟩
def spCheckStop (t:Adr):Sp:=fun vs H Q _=>∃ (n:Addr) (N:NetM) (z:Str),vs = [.ref n,.str z]∧NetAt t H n N∧(fnd Stp.nm N.st z).isSome = true∧Q .non H
theorem ok_Net_check_stop (Tx:Tab K mg t):FnOk P w K mg base CX0 2 t.f_Net_check_stop t.d_Net_check_stop ["self","name"] (spCheckStop t):=by
  refine Tx.F_Net_check_stop.ok sc_Net_check_stop (fun vs H Q E h=>?_) (fun cdv A outer s H vs Q E hr h=>?_)
  · obtain ⟨n,N,z,rfl,_⟩:=h
    rfl
  obtain ⟨n,N,z,rfl,⟨ds,dr,dt,dp,hN⟩,hf,q⟩:=h
  obtain ⟨dx,fs,e1,e2⟩:=hN.ob
  obtain ⟨rows,h1,h2⟩:=hN.st
  obtain ⟨x,ex⟩:=Option.isSome_iff_exists.mp hf
  obtain ⟨kv,ev,_⟩:=(fnd_rows (fun kv x (h:SRow H kv x)=>h.1) h2 z).2 x ex
  refine ⟨_,(pss_one (ps_if (pt_not (pt_val (pe_call (ok_is_known Tx) (hr.mono (by omega)) rfl Tx.m_is_known Tx.F_is_known.kp Tx.b_is_known .nil pass0 (pac (pv 1) (pac (pe_fld (pv 0) rfl) pa_nil)))))
    (pss_one ps_never)
    pss_nil)),?_⟩
  exact ⟨_,rfl,_,rfl,n,_,dx,_,_,rfl,e1,Tx.cl_Net,Tx.na_Net_stop_rows,e2.fs1,z,ds,rows,rfl,h1,_,rfl,itF (by rw [ev]; exact Bool.false_ne_true) q⟩
def spZone (t:Adr):Sp:=fun vs H Q _=>∃ (n:Addr) (N:NetM) (z:Str) (x:Stp),vs = [.ref n,.str z]∧NetAt t H n N∧fnd Stp.nm N.st z = some x∧Q (.int (x.z:Nat)) H
theorem ok_Net_zone (Tx:Tab K mg t):FnOk P w K mg base CX0 3 t.f_Net_zone t.d_Net_zone ["self","stop"] (spZone t):=by
  refine Tx.F_Net_zone.ok sc_Net_zone (fun vs H Q E h=>?_) (fun cdv A outer s H vs Q E hr h=>?_)
  · obtain ⟨n,N,z,x,rfl,_⟩:=h
    rfl
  obtain ⟨n,N,z,x,rfl,hA,ex,q⟩:=h
  have hA':=hA
  obtain ⟨ds,dr,dt,dp,hN⟩:=hA'
  obtain ⟨dx,fs,e1,e2⟩:=hN.ob
  obtain ⟨rows,h1,h2⟩:=hN.st
  obtain ⟨kv,ev,_,r,er,hr1⟩:=(fnd_rows (fun kv x (h:SRow H kv x)=>h.1) h2 z).2 x ex
  refine ⟨_,(pss_cons (ps_expr (pe_meth (pv 0) Tx.cl_Net Tx.me_Net_check_stop (ok_Net_check_stop Tx) (hr.mono (by omega)) Tx.b_Net_check_stop .nil pass0 (pac (pv 1) pa_nil)))
    (pss_one (ps_ret (pe_ix ix_tup (pe_dget (hu_of hr) (pe_fld (pv 0) rfl) (pv 1) (fun _ _=>rfl)) pe_int (fun _ _=>rfl))))),?_⟩
  refine ⟨_,rfl,n,dx,_,rfl,e1,e2.n4,_,rfl,n,N,z,rfl,hA,by rw [ex]; rfl,?_⟩
  refine ⟨_,rfl,n,_,dx,_,_,rfl,e1,Tx.cl_Net,Tx.na_Net_stop_rows,e2.fs1,_,rfl,ds,.ref r,rfl,?_,r,_,0,_,rfl,rfl,SqT.of hr1,rfl,q⟩
  rw [← er,← ev]; exact DGet.k (k:=Sum.inr z) h1
def spCheckTrip (t:Adr):Sp:=fun vs H Q _=>∃ (n:Addr) (N:NetM) (z:Str),vs = [.ref n,.str z]∧NetAt t H n N∧(fnd Tp.nm N.tp z).isSome = true∧Q .non H
theorem ok_Net_check_trip (Tx:Tab K mg t):FnOk P w K mg base CX0 2 t.f_Net_check_trip t.d_Net_check_trip ["self","name"] (spCheckTrip t):=by
  refine Tx.F_Net_check_trip.ok sc_Net_check_trip (fun vs H Q E h=>?_) (fun cdv A outer s H vs Q E hr h=>?_)
  · obtain ⟨n,N,z,rfl,_⟩:=h
    rfl
  obtain ⟨n,N,z,rfl,⟨ds,dr,dt,dp,hN⟩,hf,q⟩:=h
  obtain ⟨dx,fs,e1,e2⟩:=hN.ob
  obtain ⟨rows,h1,h2⟩:=hN.tp
  obtain ⟨x,ex⟩:=Option.isSome_iff_exists.mp hf
  obtain ⟨kv,ev,_⟩:=(fnd_rows (fun kv x (h:TRow H kv x)=>h.1) h2 z).2 x ex
  refine ⟨_,(pss_one (ps_if (pt_not (pt_val (pe_call (ok_is_known Tx) (hr.mono (by omega)) rfl Tx.m_is_known Tx.F_is_known.kp Tx.b_is_known .nil pass0 (pac (pv 1) (pac (pe_fld (pv 0) rfl) pa_nil)))))
    (pss_one ps_never)
    pss_nil)),?_⟩
  exact ⟨_,rfl,_,rfl,n,_,dx,_,_,rfl,e1,Tx.cl_Net,Tx.na_Net_trip_rows,e2.fp,z,dp,rows,rfl,h1,_,rfl,itF (by rw [ev]; exact Bool.false_ne_true) q⟩
def spCalls (t:Adr):Sp:=fun vs H Q _=>∃ (n:Addr) (N:NetM) (z:Str) (x:Tp),vs = [.ref n,.str z]∧NetAt t H n N∧fnd Tp.nm N.tp z = some x∧∀ l vs H',Same H H'→H l = none→H' l = some (.lst vs)→Al (ClAt H') vs x.cs→Q (.ref l) H'
theorem ok_Net_calls (Tx:Tab K mg t):FnOk P w K mg base CX0 3 t.f_Net_calls t.d_Net_calls ["self","trip"] (spCalls t):=by
  refine Tx.F_Net_calls.ok sc_Net_calls (fun vs H Q E h=>?_) (fun cdv A outer s H vs Q E hr h=>?_)
  · obtain ⟨n,N,z,x,rfl,_⟩:=h
    rfl
  obtain ⟨n,N,z,x,rfl,hA,ex,q⟩:=h
  have hA':=hA
  obtain ⟨ds,dr,dt,dp,hN⟩:=hA'
  obtain ⟨dx,fs,e1,e2⟩:=hN.ob
  obtain ⟨rows,h1,h2⟩:=hN.tp
  obtain ⟨kv,ev,_,r,qa,vs,er,hr1,hq1,hcs⟩:=(fnd_rows (fun kv x (h:TRow H kv x)=>h.1) h2 z).2 x ex
  refine ⟨_,(pss_cons (ps_expr (pe_meth (pv 0) Tx.cl_Net Tx.me_Net_check_trip (ok_Net_check_trip Tx) (hr.mono (by omega)) Tx.b_Net_check_trip .nil pass0 (pac (pv 1) pa_nil)))
    (pss_one (ps_ret (pe_callTy call_list_of rfl Tx.z_list b_list (pac (pe_ix ix_tup (pe_dget (hu_of hr) (pe_fld (pv 0) rfl) (pv 1) (fun _ _=>rfl)) pe_int (fun _ _=>rfl)) pa_nil))))),?_⟩
  refine ⟨_,rfl,n,dx,_,rfl,e1,e2.n5,_,rfl,n,N,z,rfl,hA,by rw [ex]; rfl,?_⟩
  refine ⟨_,rfl,n,_,dx,_,_,rfl,e1,Tx.cl_Net,Tx.na_Net_trip_rows,e2.fp,_,rfl,dp,.ref r,rfl,?_,r,_,1,_,rfl,rfl,SqT.of hr1,rfl,qa,_,rfl,.inr (SqT.of hq1),fun l hl=>?_⟩
  · rw [← er,← ev]; exact DGet.k (k:=Sum.inr z) h1
  · exact q l vs _ (same_new hl _) hl upd_same (hcs.imp fun _ _=>ClAt.same (same_new hl _))
def spZbG (K:W.Frag):Sp:=fun vs H Q _=>∃ (l:Addr) (zs:List Nat),vs = [.ref l]∧SqL K H l (natV zs)∧(∀ z∈zs,1≤z∧z≤6)∧Q (.int (zb zs:Nat)) H
theorem ok_zone_bits_g (Tx:Tab K mg t):FnOk P w K mg base CX0 1 t.f_zone_bits t.d_zone_bits ["zones"] (spZbG K):=by
  refine Tx.F_zone_bits.ok sc_zone_bits (fun vs H Q E h=>?_) (fun cdv A outer s H vs Q E hr h=>?_)
  · obtain ⟨l,zs,rfl,_⟩:=h
    rfl
  obtain ⟨l,zs,rfl,hl,hz,q⟩:=h
  refine ⟨_,(pss_cons (ps_set (i:=1) sc_zone_bits.nd rfl (Or.inl rfl) pe_int)
    (pss_cons (ps_for PassesOwn.never rfl (pi_list (pv 0)) (pg_name (i:=2) sc_zone_bits.nd rfl (Or.inl rfl))
    (pss_one (ps_set (i:=1) sc_zone_bits.nd rfl (Or.inl rfl) (pe_op op_or (pv 1) (pe_op op_shl pe_int (pe_op op_sub (pv 2) pe_int))))))
    (pss_one (ps_ret (pv 1))))),?_⟩
  refine ⟨_,rfl,l,rfl,⟨_,hl⟩,for_list (xs:=natV zs) (fun i σ H'=>H' = H∧∃ v,σ = [some (.ref l),some (.int ((zb (zs.take i):Nat))),v]) ⟨rfl,_,rfl⟩ (fun i σ H' _ ⟨e,_⟩=>by rw [e]; exact hl) ?_ ?_⟩
  · rintro i x σ H' hx ⟨rfl,v,rfl⟩
    unfold natV at hx
    rw [List.getElem?_map] at hx
    cases hs:zs[i]? with
    | none=>rw [hs] at hx; cases hx
    | some m =>
      rw [hs] at hx
      obtain rfl:V.int ((m:Nat):Int) = x:=Option.some.inj hx
      have hm:=hz m (List.mem_of_getElem? hs)
      refine ⟨_,rfl,_,rfl,_,_,rfl,rfl,_,_,rfl,rfl,⟨by omega,by omega,by decide⟩,_,_,rfl,rfl,rfl,some (.int ((m:Nat):Int)),?_⟩
      have e1:(1 * 2 ^ (((m:Nat):Int) - 1).toNat:Int) = ((2 ^ (m - 1):Nat):Int):=by
        rw [Int.one_mul,show (((m:Nat):Int) - 1).toNat = m - 1 by omega]
        exact PyProof.Rows.two_pow_cast _
      have e2:zb (zs.take (i + 1)) = zb (zs.take i) ||| 2 ^ (m - 1):=by
        rw [List.take_add_one,hs]
        unfold zb
        rw [List.foldl_append]
        rfl
      have e3:Builtin.bitOr ((zb (zs.take i):Nat):Int) (1 * 2 ^ (((m:Nat):Int) - 1).toNat) = ((zb (zs.take (i + 1)):Nat):Int):=by
        rw [e1,e2]; exact bitOr_nat _ _
      show List.set _ _ _ = _
      rw [← e3]
      rfl
  · rintro σ H' ⟨rfl,v,rfl⟩
    refine ⟨_,rfl,?_⟩
    have e:(natV zs).length = zs.length:=List.length_map ..
    rw [e,List.take_length]
    exact q
def zoneM (N:NetM) (z:Str):Nat:=match fnd Stp.nm N.st z with | some x=>x.z | none=>0
theorem cut_mid (xs:List V) (a b:Nat) (h:a≤b) (hb:b≤xs.length):cutV xs (some (a:Int)) (some (b:Int)) = (xs.drop a).take (b - a):=by
  unfold cutV
  rw [HT.sIx_nat,HT.sIx_nat,Nat.min_eq_left (Nat.le_trans h hb),Nat.min_eq_left hb]
def NetGood (N:NetM):Prop:=(∀ x∈N.st,1≤x.z∧x.z≤6)
def spZonesOf (t:Adr):Sp:=fun vs H Q _=>∃ (n:Addr) (N:NetM) (z:Str) (x:Tp) (b o:Nat),vs = [.ref n,.str z,.int (b:Nat),.int (o:Nat)]∧NetAt t H n N∧NetGood N∧fnd Tp.nm N.tp z = some x∧b < o∧o < x.cs.length∧x.cs.length≤6∧(∀ c∈x.cs,(fnd Stp.nm N.st c.st).isSome = true) ∧
  ∀ H',Same H H'→Q (.int (zb (((x.cs.drop b).take (o + 1 - b)).map fun c=>zoneM N c.st):Nat)) H'
theorem ok_zones_of (Tx:Tab K mg t):FnOk P w K mg base CX0 5 t.f_zones_of t.d_zones_of ["net","trip","board","off"] (spZonesOf t):=by
  refine Tx.F_zones_of.ok sc_zones_of (fun vs H Q E h=>?_) (fun cdv A outer s H vs Q E hr h=>?_)
  · obtain ⟨n,N,z,x,b,o,rfl,_⟩:=h
    rfl
  obtain ⟨n,N,z,x,b,o,rfl,hA,hG,ex,hbo,hoc,h6,hst,q⟩:=h
  have hA':=hA
  obtain ⟨ds,dr,dt,dp,hN⟩:=hA'
  obtain ⟨dx,fs,e1,e2⟩:=hN.ob
  refine ⟨_,(pss_cons (ps_set (i:=4) sc_zones_of.nd rfl (Or.inl rfl) (pe_meth (pv 0) Tx.cl_Net Tx.me_Net_calls (ok_Net_calls Tx) (hr.mono (by omega)) Tx.b_Net_calls .nil pass0 (pac (pv 1) pa_nil)))
    (pss_cons (ps_expr (pe_call (ok_check_number Tx) (hr.mono (by omega)) rfl Tx.m_check_number Tx.F_check_number.kp Tx.b_check_number .nil pass0 (pac (pv 2) (pac pe_int (pac (pe_op op_sub (pe_callB call_len_seq rfl Tx.z_len b_len (pac (pv 4) pa_nil)) pe_int) pa_nil)))))
    (pss_cons (ps_expr (pe_call (ok_check_number Tx) (hr.mono (by omega)) rfl Tx.m_check_number Tx.F_check_number.kp Tx.b_check_number .nil pass0 (pac (pv 3) (pac (pe_op op_add (pv 2) pe_int) (pac (pe_op op_sub (pe_callB call_len_seq rfl Tx.z_len b_len (pac (pv 4) pa_nil)) pe_int) pa_nil)))))
    (pss_one (ps_ret (pe_call (ok_zone_bits_g Tx) (hr.mono (by omega)) rfl Tx.m_zone_bits Tx.F_zone_bits.kp Tx.b_zone_bits .nil pass0 (pac (pe_comp (cl:=[(Str.ofString "net",s.heap.objs.size + 1)]) (N:=["call","net"]) (fr:=[none,some 0]) rfl (pi_list (pe_slice sl_list (pv 4) (po_some (pv 2)) (po_some (pe_op op_add (pv 3) pe_int)))) rfl (by decide +kernel) rfl (by decide +kernel) ⟨⟨rfl,Or.inl rfl,Or.inl rfl,_,rfl,rfl⟩,trivial⟩ ⟨rfl,trivial⟩ rfl (fun _ _ _ _ _=>(pg_name (i:=0) (show List.Nodup (["call","net"]:List Str) by decide +kernel) rfl (Or.inl rfl))) (fun _ _ _ _ _=>pts_nil) (fun _ _ _ _ _=>(pe_meth (pv 1) Tx.cl_Net Tx.me_Net_zone (ok_Net_zone Tx) (hr.mono (by omega)) Tx.b_Net_zone .nil pass0 (pac (pe_ix (show IxR _ (rIxT K) from ix_tup) (pv 0) pe_int (fun _ _=>rfl)) pa_nil)))) pa_nil))))))),?_⟩
  refine ⟨_,rfl,n,dx,_,rfl,e1,e2.n2,_,rfl,n,N,z,x,rfl,hA,ex,fun l vs H1 s1 _ hl al=>?_⟩
  have lv:=al.length
  refine ⟨_,rfl,_,rfl,l,_,rfl,.inl (SqL.of hl),_,_,rfl,rfl,b,0,_,rfl,by omega,by omega,?_⟩
  refine ⟨_,rfl,_,rfl,_,_,rfl,rfl,_,rfl,l,_,rfl,.inl (SqL.of hl),_,_,rfl,rfl,o,_,_,rfl,by omega,by omega,?_⟩
  refine ⟨_,rfl,_,rfl,_,rfl,_,rfl,_,_,rfl,rfl,_,rfl,l,_,rfl,SqL.of hl,fun l2 hl2=>?_⟩
  rw [show cutV vs (some ((b:Nat):Int)) (some (((o:Nat):Int) + 1)) = (vs.drop b).take (o + 1 - b) from cut_mid vs b (o + 1) (by omega) (by omega)]
  have s2:=same_new hl2 (.lst ((vs.drop b).take (o + 1 - b)))
  have al2:=((al.drop b).take (o + 1 - b)).imp fun _ _=>ClAt.same s2
  have S2:=s1.trans s2
  refine ⟨l2,rfl,⟨_,SqL.of upd_same⟩,comp_list (K:=K) (a:=l2) (xs:=(vs.drop b).take (o + 1 - b)) (fun i acc σ H'=>H' = upd H1 l2 (.lst ((vs.drop b).take (o + 1 - b)))∧(∃ v,σ = [v,some (.ref n)])∧acc = natV ((((x.cs.drop b).take (o + 1 - b)).take i).map fun c=>zoneM N c.st)) ⟨rfl,⟨_,rfl⟩,rfl⟩
    (by rw [al2.length,List.length_take,List.length_drop]; exact Nat.le_trans (show _≤6 by omega) (by decide)) (fun i acc σ H' _ ⟨e,_⟩=>by rw [e]; exact SqL.of upd_same) ?_ ?_⟩
  · rintro i y acc σ H' hi hy ⟨rfl,⟨v,rfl⟩,rfl⟩
    obtain ⟨c,ec,pc,rfl,hpc⟩:=al2.get hy
    have hc:c∈x.cs:=List.mem_of_mem_drop (List.mem_of_mem_take (List.mem_of_getElem? ec))
    obtain ⟨st,est⟩:=Option.isSome_iff_exists.mp (hst c hc)
    dsimp only [gName,tTrue]
    rw [if_pos rfl]
    refine ⟨_,rfl,n,dx,_,rfl,S2 _ _ e1,e2.n3,_,rfl,pc,_,0,_,rfl,rfl,SqT.of hpc,rfl,n,N,c.st,st,rfl,hA.same S2,est,?_⟩
    refine ⟨by rw [List.length_append,List.length_singleton]; omega,rfl,⟨_,rfl⟩,?_⟩
    rw [List.take_add_one,ec,List.map_append]
    unfold natV
    rw [List.map_append]
    show _ ++ [V.int ((st.z:Nat):Int)] = _ ++ [V.int ((zoneM N c.st:Nat):Int)]
    unfold zoneM
    rw [est]
  · rintro acc σ H' ha ⟨rfl,⟨v,rfl⟩,rfl⟩ p2 g2
    rw [al2.length,List.take_length]
    refine ⟨p2,((x.cs.drop b).take (o + 1 - b)).map (fun c=>zoneM N c.st),rfl,SqL.of upd_same,fun zz hz=>?_,q _ (S2.trans (same_new g2 _))⟩
    obtain ⟨c,hc,rfl⟩:=List.mem_map.mp hz
    have hc:c∈x.cs:=List.mem_of_mem_drop (List.mem_of_mem_take hc)
    obtain ⟨st,est⟩:=Option.isSome_iff_exists.mp (hst c hc)
    unfold zoneM
    rw [est]
    exact hG st (fnd_mem est).1
def findT (TK:List Tk) (z:Str):Option Tk:=TK.find? fun k=>decide (k.nm = z)
theorem findT_mem {TK:List Tk} {z:Str} {k:Tk} (h:findT TK z = some k):k∈TK∧k.nm = z:=⟨List.mem_of_find?_eq_some h,of_decide_eq_true (List.find?_some (p:=fun k:Tk=>decide (k.nm = z)) h)⟩
theorem rows_find {H:Hp} {rows:List (Key×V)} {TK:List Tk} (h:Al (RowIs H) rows TK) (z:Str) :
    (findT TK z = none→valV rows (Sum.inr z) = none)∧∀ k,findT TK z = some k→∃ v,valV rows (Sum.inr z) = some v∧RowIs H (Sum.inr z,v) k:=by
  induction h with
  | nil=>exact ⟨fun _=>rfl,fun k e=>by cases e⟩
  | @cons kv k rows TK hr _ ih =>
    by_cases e:k.nm = z
    · have ek:kv.1 = Sum.inr z:=by rw [hr.1,e]
      have ef:findT (k :: TK) z = some k:=by unfold findT; rw [List.find?_cons,decide_eq_true e]
      refine ⟨fun n=>(by rw [ef] at n; cases n),fun k' e'=>?_⟩
      rw [ef] at e'
      cases e'
      refine ⟨kv.2,valV_pos ek,?_⟩
      obtain ⟨q1,q2⟩:=hr
      exact ⟨by show Sum.inr z = _; rw [e],q2⟩
    · have ek:kv.1≠Sum.inr z:=fun x=>e (by rw [hr.1] at x; exact Sum.inr.inj x)
      have ef:findT (k :: TK) z = findT TK z:=by unfold findT; rw [List.find?_cons,decide_eq_false e]
      have ev:valV (kv :: rows) (Sum.inr z) = valV rows (Sum.inr z):=by unfold valV; rw [List.find?_cons,decide_eq_false ek]
      rw [ef,ev]
      exact ih
structure TNF (fs:List (Str×V)) (d:Addr):Prop where
  tr:fs.lookup ("ticket_rows" : Str) = some (V.ref d)
  n1:fs.lookup ("ticket" : Str) = none
  n2:fs.lookup ("tickets" : Str) = none
  n3:fs.lookup ("add_ticket" : Str) = none
def TNet (t:Adr) (H:Hp) (n:Addr) (TK:List Tk):Prop:=∃ dx fs d rows,H n = some (.ins t.c_Net dx fs)∧TNF fs d∧H d = some (.dK rows)∧Al (RowIs H) rows TK
theorem TNet.same {H H':Hp} {n:Addr} {TK:List Tk} (s:Same H H') (h:TNet t H n TK):TNet t H' n TK:=by
  obtain ⟨dx,fs,d,rows,e1,e2,e3,e4⟩:=h
  exact ⟨dx,fs,d,rows,s _ _ e1,e2,s _ _ e3,e4.imp fun _ _=>RowIs.same s⟩
theorem NetAt.tk {H:Hp} {n:Addr} {N:NetM} (h:NetAt t H n N):TNet t H n N.tk:=by
  obtain ⟨ds,dr,dt,dp,h⟩:=h
  obtain ⟨dx,fs,e1,e2⟩:=h.ob
  obtain ⟨rows,e3,e4⟩:=h.tk
  exact ⟨dx,fs,dt,rows,e1,⟨e2.ft,e2.n1,e2.nt,e2.n9⟩,e3,e4⟩
def spTickets (t:Adr):Sp:=fun vs H Q _=>∃ (n:Addr) (TK:List Tk),vs = [.ref n]∧TNet t H n TK∧∀ l H',Same H H'→H' l = some (.lst (TK.map fun k=>V.str k.nm))→Q (.ref l) H'
theorem rows_keys {H:Hp} {rows:List (Key×V)} {TK:List Tk} (h:Al (RowIs H) rows TK):(rows.map fun kv=>kV kv.1) = TK.map fun k=>V.str k.nm:=by
  induction h with
  | nil=>rfl
  | cons a _ ih=>rw [List.map_cons,List.map_cons,ih,a.1]; rfl
theorem ok_Net_tickets (Tx:Tab K mg t):FnOk P w K mg base CX0 1 t.f_Net_tickets t.d_Net_tickets ["self"] (spTickets t):=by
  refine Tx.F_Net_tickets.ok sc_Net_tickets (fun vs H Q E h=>?_) (fun cdv A outer s H vs Q E hr h=>?_)
  · obtain ⟨n,TK,rfl,_⟩:=h
    rfl
  obtain ⟨n,TK,rfl,⟨dx,fs,d,rows,e1,e2,e3,e4⟩,q⟩:=h
  refine ⟨_,(pss_one (ps_ret (pe_callTy (call_list_dict rfl) rfl Tx.z_list b_list (pac (pe_fld (pv 0) rfl) pa_nil)))),?_⟩
  refine ⟨_,rfl,n,_,dx,_,_,rfl,e1,Tx.cl_Net,Tx.na_Net_ticket_rows,e2.tr,d,rows,rfl,e3,fun l hl=>?_⟩
  refine q l _ (same_new hl _) ?_
  rw [rows_keys e4]
  exact upd_same
def spTicket (t:Adr):Sp:=fun vs H Q _=>∃ (n:Addr) (TK:List Tk) (k:Tk),vs = [.ref n,.str k.nm]∧TNet t H n TK∧findT TK k.nm = some k∧∀ p l H',Same H H'→H' p = some (.tup [.int (k.pr:Nat),.int (k.la:Nat),.ref l])→H' l = some (.lst (natV (zonesOf k.b)))→Q (.ref p) H'
theorem ok_Net_ticket (Tx:Tab K mg t):FnOk P w K mg base CX0 2 t.f_Net_ticket t.d_Net_ticket ["self","name"] (spTicket t):=by
  refine Tx.F_Net_ticket.ok sc_Net_ticket (fun vs H Q E h=>?_) (fun cdv A outer s H vs Q E hr h=>?_)
  · obtain ⟨n,TK,k,rfl,_⟩:=h
    rfl
  obtain ⟨n,TK,k,rfl,⟨dx,fs,d,rows,e1,e2,e3,e4⟩,ek,q⟩:=h
  obtain ⟨v,ev,_,r,z,rfl,er,ez⟩:=(rows_find e4 k.nm).2 k ek
  refine ⟨_,(pss_cons (ps_if (pt_not (pt_val (pe_call (ok_is_known Tx) (hr.mono (by omega)) rfl Tx.m_is_known Tx.F_is_known.kp Tx.b_is_known .nil pass0 (pac (pv 1) (pac (pe_fld (pv 0) rfl) pa_nil)))))
    (pss_one ps_never)
    pss_nil)
    (pss_cons (ps_set (i:=2) sc_Net_ticket.nd rfl (Or.inl rfl) (pe_dget (hu_of hr) (pe_fld (pv 0) rfl) (pv 1) (fun _ _=>rfl)))
    (pss_one (ps_ret (pe_tup (pac (pe_ix ix_tup (pv 2) pe_int (fun _ _=>rfl)) (pac (pe_ix ix_tup (pv 2) pe_int (fun _ _=>rfl)) (pac (pe_callTy call_list_of rfl Tx.z_list b_list (pac (pe_ix ix_tup (pv 2) pe_int (fun _ _=>rfl)) pa_nil)) pa_nil)))))))),?_⟩
  refine ⟨_,rfl,_,rfl,n,_,dx,_,_,rfl,e1,Tx.cl_Net,Tx.na_Net_ticket_rows,e2.tr,k.nm,d,rows,rfl,e3,_,rfl,itF (by rw [ev]; exact Bool.false_ne_true) ?_⟩
  refine ⟨_,rfl,n,_,dx,_,_,rfl,e1,Tx.cl_Net,Tx.na_Net_ticket_rows,e2.tr,_,rfl,d,.ref r,rfl,?_,?_⟩
  · rw [← ev]; exact DGet.k (k:=Sum.inr k.nm) e3
  refine ⟨_,rfl,r,_,0,_,rfl,rfl,SqT.of er,rfl,_,rfl,r,_,1,_,rfl,rfl,SqT.of er,rfl,_,rfl,r,_,2,_,rfl,rfl,SqT.of er,rfl,z,_,rfl,.inr (SqT.of ez),fun l hl=>?_⟩
  have s1:=same_new hl (.lst (natV (zonesOf k.b)))
  refine ⟨by show 3≤sizeLine; decide,fun p hp=>?_⟩
  exact q p l _ (s1.trans (same_new hp _)) upd_same ((same_new hp _) _ _ upd_same)
def spFits (t:Adr):Sp:=fun vs H Q _=>∃ (n:Addr) (TK:List Tk) (k:Tk) (b:Nat),vs = [.ref n,.str k.nm,.int (b:Nat)]∧TNet t H n TK∧findT TK k.nm = some k∧k.b < 64∧∀ H',Same H H'→Q (.bl (decide (k.b &&& b = b))) H'
theorem ok_fits (Tx:Tab K mg t):FnOk P w K mg base CX0 3 t.f_fits t.d_fits ["net","ticket","bits"] (spFits t):=by
  refine Tx.F_fits.ok sc_fits (fun vs H Q E h=>?_) (fun cdv A outer s H vs Q E hr h=>?_)
  · obtain ⟨n,TK,k,b,rfl,_⟩:=h
    rfl
  obtain ⟨n,TK,k,b,rfl,hN,ek,kb,q⟩:=h
  have hN':=hN
  obtain ⟨dx,fs,d,rows,e1,e2,e3,e4⟩:=hN'
  refine ⟨_,(pss_one (ps_ret (pe_cmpR op_eq (pe_op op_and (pe_call (ok_zone_bits Tx) (hr.mono (by omega)) rfl Tx.m_zone_bits Tx.F_zone_bits.kp Tx.b_zone_bits .nil pass0 (pac (pe_ix ix_tup (pe_meth (pv 0) Tx.cl_Net Tx.me_Net_ticket (ok_Net_ticket Tx) (hr.mono (by omega)) Tx.b_Net_ticket .nil pass0 (pac (pv 1) pa_nil)) pe_int (fun _ _=>rfl)) pa_nil)) (pv 2)) (pv 2) (nomark _)))),?_⟩
  refine ⟨_,rfl,n,dx,_,rfl,e1,e2.n1,_,rfl,n,TK,k,rfl,hN,ek,fun p l H1 s1 hp hl=>?_⟩
  refine ⟨p,_,2,_,rfl,rfl,SqT.of hp,rfl,l,k.b,rfl,SqL.of hl,kb,_,rfl,_,_,rfl,rfl,_,rfl,rfl,?_⟩
  have e:decide (V.int (Builtin.bitAnd ((k.b:Nat):Int) ((b:Nat):Int)) = V.int ((b:Nat):Int)) = decide (k.b &&& b = b):=by
    rw [bitAnd_nat]
    exact decide_eq_decide.mpr ⟨fun x=>by injection x with x; omega,fun x=>by rw [x]⟩
  have q2:=q H1 s1
  rw [← e] at q2
  exact q2
theorem upd_tup {H:Hp} {d p:Addr} {kvs:List (Key×V)} {o:HO} {xs:List V} (hd:H d = some (.dK kvs)) (h:H p = some (.tup xs)):upd H d o p = some (.tup xs):=by
  rw [upd_ne (ne_of h hd (by intro z; cases z))]; exact h
theorem RowIs.put {H:Hp} {d:Addr} {kvs:List (Key×V)} {o:HO} {kv:Key×V} {k:Tk} (hd:H d = some (.dK kvs)) (h:RowIs H kv k):RowIs (upd H d o) kv k :=
  let ⟨e,r,z,e1,e2,e3⟩:=h; ⟨e,r,z,e1,upd_tup hd e2,upd_tup hd e3⟩
theorem SRow.put {H:Hp} {d:Addr} {kvs:List (Key×V)} {o:HO} {kv:Key×V} {k:Stp} (hd:H d = some (.dK kvs)) (h:SRow H kv k):SRow (upd H d o) kv k :=
  let ⟨e,r,e1,e2⟩:=h; ⟨e,r,e1,upd_tup hd e2⟩
theorem TRow.put {H:Hp} {d:Addr} {kvs:List (Key×V)} {o:HO} {kv:Key×V} {k:Tp} (hd:H d = some (.dK kvs)) (h:TRow H kv k):TRow (upd H d o) kv k :=
  let ⟨e,r,q,vs,e1,e2,e3,e4⟩:=h; ⟨e,r,q,vs,e1,upd_tup hd e2,upd_tup hd e3,e4.imp fun _ _ ⟨p,ep,hp⟩=>⟨p,ep,upd_tup hd hp⟩⟩
theorem putK_new {kvs:List (Key×V)} {k:Key} {v:V} (h:valV kvs k = none):putK kvs k v = kvs ++ [(k,v)]:=by
  unfold putK
  rw [valV_any,h]
  rfl
theorem ins_put {H:Hp} {d n C dx:Addr} {fs:List (Str×V)} {kvs:List (Key×V)} {o:HO} (hd:H d = some (.dK kvs)) (h:H n = some (.ins C dx fs)):upd H d o n = some (.ins C dx fs):=by
  rw [upd_ne (ne_of h hd (by intro z; cases z))]; exact h
theorem NetO.addSt {H:Hp} {n ds dr dt dp:Addr} {N:NetM} {rows:List (Key×V)} {x:Stp} {v:V} (h:NetO t H n ds dr dt dp N) (hr:H ds = some (.dK rows)) (al:Al (SRow H) rows N.st) (hv:valV rows (Sum.inr x.nm) = none) (hx:SRow H (Sum.inr x.nm,v) x) :
    NetO t (upd H ds (.dK (putK rows (Sum.inr x.nm) v))) n ds dr dt dp { N with st:=N.st ++ [x] }:=by
  obtain ⟨⟨dx,fs,e1,e2⟩,ap,_,⟨r2,a2,b2⟩,⟨r3,a3,b3⟩,⟨r4,a4,b4⟩⟩:=h
  refine ⟨⟨dx,fs,ins_put hr e1,e2⟩,ap,⟨_,upd_same,?_⟩,⟨r2,by rw [upd_ne ap.sr.symm]; exact a2,b2⟩,⟨r3,by rw [upd_ne ap.st.symm]; exact a3,b3.imp fun _ _=>RowIs.put hr⟩,⟨r4,by rw [upd_ne ap.sp.symm]; exact a4,b4.imp fun _ _=>TRow.put hr⟩⟩
  rw [putK_new hv]
  exact (al.imp fun _ _=>SRow.put hr).snoc (hx.put hr)
theorem NetO.addRu {H:Hp} {n ds dr dt dp:Addr} {N:NetM} {rows:List (Key×V)} {z:Str} {v:V} (h:NetO t H n ds dr dt dp N) (hr:H dr = some (.dK rows)) (al:Al URow rows N.ru) (hv:valV rows (Sum.inr z) = none) :
    NetO t (upd H dr (.dK (putK rows (Sum.inr z) v))) n ds dr dt dp { N with ru:=N.ru ++ [z] }:=by
  obtain ⟨⟨dx,fs,e1,e2⟩,ap,⟨r1,a1,b1⟩,_,⟨r3,a3,b3⟩,⟨r4,a4,b4⟩⟩:=h
  refine ⟨⟨dx,fs,ins_put hr e1,e2⟩,ap,⟨r1,by rw [upd_ne ap.sr]; exact a1,b1.imp fun _ _=>SRow.put hr⟩,⟨_,upd_same,?_⟩,⟨r3,by rw [upd_ne ap.rt.symm]; exact a3,b3.imp fun _ _=>RowIs.put hr⟩,⟨r4,by rw [upd_ne ap.rp.symm]; exact a4,b4.imp fun _ _=>TRow.put hr⟩⟩
  rw [putK_new hv]
  exact al.snoc rfl
theorem NetO.addTk {H:Hp} {n ds dr dt dp:Addr} {N:NetM} {rows:List (Key×V)} {x:Tk} {v:V} (h:NetO t H n ds dr dt dp N) (hr:H dt = some (.dK rows)) (al:Al (RowIs H) rows N.tk) (hv:valV rows (Sum.inr x.nm) = none) (hx:RowIs H (Sum.inr x.nm,v) x) :
    NetO t (upd H dt (.dK (putK rows (Sum.inr x.nm) v))) n ds dr dt dp { N with tk:=N.tk ++ [x] }:=by
  obtain ⟨⟨dx,fs,e1,e2⟩,ap,⟨r1,a1,b1⟩,⟨r2,a2,b2⟩,_,⟨r4,a4,b4⟩⟩:=h
  refine ⟨⟨dx,fs,ins_put hr e1,e2⟩,ap,⟨r1,by rw [upd_ne ap.st]; exact a1,b1.imp fun _ _=>SRow.put hr⟩,⟨r2,by rw [upd_ne ap.rt]; exact a2,b2⟩,⟨_,upd_same,?_⟩,⟨r4,by rw [upd_ne ap.tp.symm]; exact a4,b4.imp fun _ _=>TRow.put hr⟩⟩
  rw [putK_new hv]
  exact (al.imp fun _ _=>RowIs.put hr).snoc (hx.put hr)
theorem NetO.addTp {H:Hp} {n ds dr dt dp:Addr} {N:NetM} {rows:List (Key×V)} {x:Tp} {v:V} (h:NetO t H n ds dr dt dp N) (hr:H dp = some (.dK rows)) (al:Al (TRow H) rows N.tp) (hv:valV rows (Sum.inr x.nm) = none) (hx:TRow H (Sum.inr x.nm,v) x) :
    NetO t (upd H dp (.dK (putK rows (Sum.inr x.nm) v))) n ds dr dt dp { N with tp:=N.tp ++ [x] }:=by
  obtain ⟨⟨dx,fs,e1,e2⟩,ap,⟨r1,a1,b1⟩,⟨r2,a2,b2⟩,⟨r3,a3,b3⟩,_⟩:=h
  refine ⟨⟨dx,fs,ins_put hr e1,e2⟩,ap,⟨r1,by rw [upd_ne ap.sp]; exact a1,b1.imp fun _ _=>SRow.put hr⟩,⟨r2,by rw [upd_ne ap.rp]; exact a2,b2⟩,⟨r3,by rw [upd_ne ap.tp]; exact a3,b3.imp fun _ _=>RowIs.put hr⟩,⟨_,upd_same,?_⟩⟩
  rw [putK_new hv]
  exact (al.imp fun _ _=>TRow.put hr).snoc (hx.put hr)
def spAddStop (t:Adr):Sp:=fun vs H Q _=>∃ (n ds dr dt dp:Addr) (N:NetM) (x:Stp) (H0:Hp),vs = [.ref n,.str x.nm,.int (x.z:Nat),.int (x.ch:Nat)]∧NetO t H n ds dr dt dp N∧NetNew H0 ds dr dt dp∧Same H0 H∧NameOk x.nm∧1≤x.z∧x.z≤6∧x.ch≤30∧fnd Stp.nm N.st x.nm = none∧N.st.length < 8 ∧
  ∀ H',Same H0 H'→NetO t H' n ds dr dt dp { N with st:=N.st ++ [x] }→Q .non H'
theorem ok_Net_add_stop (Tx:Tab K mg t):FnOk P w K mg base CX0 4 t.f_Net_add_stop t.d_Net_add_stop ["self","name","zone","change"] (spAddStop t):=by
  refine Tx.F_Net_add_stop.ok sc_Net_add_stop (fun vs H Q E h=>?_) (fun cdv A outer s H vs Q E hr h=>?_)
  · obtain ⟨n,ds,dr,dt,dp,N,x,H0,rfl,_⟩:=h
    rfl
  obtain ⟨n,ds,dr,dt,dp,N,x,H0,rfl,hN,hW,s0,okn,z1,z6,c30,hf,hlen,q⟩:=h
  obtain ⟨dx,fs,e1,e2⟩:=hN.ob
  obtain ⟨rows,h1,h2⟩:=hN.st
  have hv:=(fnd_rows (fun kv x (h:SRow H kv x)=>h.1) h2 x.nm).1 hf
  have hrl:rows.length < 8:=by rw [h2.length]; exact hlen
  refine ⟨_,(pss_cons (ps_expr (pe_call (ok_check_new Tx) (hr.mono (by omega)) rfl Tx.m_check_new Tx.F_check_new.kp Tx.b_check_new .nil pass0 (pac (pv 1) (pac (pe_fld (pv 0) rfl) pa_nil))))
    (pss_cons (ps_expr (pe_call (ok_check_number Tx) (hr.mono (by omega)) rfl Tx.m_check_number Tx.F_check_number.kp Tx.b_check_number .nil pass0 (pac (pv 2) (pac pe_int (pac (pe_gintE rfl Tx.m_LAST_ZONE) pa_nil)))))
    (pss_cons (ps_expr (pe_call (ok_check_number Tx) (hr.mono (by omega)) rfl Tx.m_check_number Tx.F_check_number.kp Tx.b_check_number .nil pass0 (pac (pv 3) (pac pe_int (pac (pe_gintE rfl Tx.m_MOST_CHANGE) pa_nil)))))
    (pss_cons (ps_expr (pe_call (ok_check_room Tx) (hr.mono (by omega)) rfl Tx.m_check_room Tx.F_check_room.kp Tx.b_check_room .nil pass0 (pac (pe_fld (pv 0) rfl) (pac (pe_gintE rfl Tx.m_MOST_STOPS) pa_nil))))
    (pss_one (ps_dput (hu_of hr) (pe_fld (pv 0) rfl) (pv 1) (pe_tup (pac (pv 2) (pac (pv 3) pa_nil))) rfl)))))),?_⟩
  refine ⟨_,rfl,_,rfl,n,_,dx,_,_,rfl,e1,Tx.cl_Net,Tx.na_Net_stop_rows,e2.fs1,x.nm,ds,rows,rfl,h1,okn,hv,fun H1 s1=>?_⟩
  refine ⟨_,rfl,x.z,1,6,rfl,by omega,by omega,?_⟩
  refine ⟨_,rfl,x.ch,0,30,rfl,by omega,by omega,?_⟩
  refine ⟨_,rfl,n,_,dx,_,_,rfl,s1 _ _ e1,Tx.cl_Net,Tx.na_Net_stop_rows,e2.fs1,ds,rows,8,rfl,s1 _ _ h1,by omega,?_⟩
  refine ⟨_,rfl,_,rfl,by show 2≤sizeLine; decide,fun r hr'=>?_⟩
  have s3:=same_new hr' (.tup [.int (x.z:Nat),.int (x.ch:Nat)])
  have S3:=s1.trans s3
  refine ⟨_,rfl,n,_,dx,_,_,rfl,S3 _ _ e1,Tx.cl_Net,Tx.na_Net_stop_rows,e2.fs1,_,rfl,ds,_,rfl,DPut.k (k:=Sum.inr x.nm) (S3 _ _ h1) (Nat.lt_trans hrl (by decide)),?_⟩
  exact q _ (same_put (s0.trans S3) hW.1 _) ((hN.same S3).addSt (S3 _ _ h1) (h2.imp fun _ _=>SRow.same S3) hv ⟨rfl,r,rfl,upd_same⟩)
def RuAt (t:Adr) (H:Hp) (v:V):Prop:=∃ p dx,v = .ref p∧H p = some (.ins t.c_Rule dx [])
def spCopied (t:Adr):Sp:=fun vs H Q _=>∃ (v:V),vs = [v]∧RuAt t H v∧∀ v' H',Same H H'→RuAt t H' v'→Q v' H'
theorem ok_Rule_copied (Tx:Tab K mg t):FnOk P w K mg base CX0 1 t.f_Rule_copied t.d_Rule_copied ["self"] (spCopied t):=by
  refine Tx.F_Rule_copied.ok sc_Rule_copied (fun vs H Q E h=>?_) (fun cdv A outer s H vs Q E hr h=>?_)
  · obtain ⟨v,rfl,_⟩:=h
    rfl
  obtain ⟨v,rfl,h,q⟩:=h
  refine ⟨_,(pss_one (ps_ret (pe_makeN Tx.mkn_Rule rfl Tx.m_Rule))),?_⟩
  intro x dx nx ndx nex
  exact q _ _ (same_put (same_new ndx _) nx _) ⟨x,dx,rfl,upd_same⟩
theorem ok_copy_of (Tx:Tab K mg t):FnOk P w K mg base CX0 2 t.f_copy_of t.d_copy_of ["rule"] (spCopied t):=by
  refine Tx.F_copy_of.ok sc_copy_of (fun vs H Q E h=>?_) (fun cdv A outer s H vs Q E hr h=>?_)
  · obtain ⟨v,rfl,_⟩:=h
    rfl
  obtain ⟨v,rfl,⟨p,dx,rfl,hp⟩,q⟩:=h
  refine ⟨_,(pss_cons (ps_if (pt_not (pt_val (pe_callB call_isi_own rfl Tx.z_isinstance b_isinstance (pac (pv 0) (pac (pe_gref rfl Tx.m_Rule) pa_nil)))))
    (pss_one ps_never)
    pss_nil)
    (pss_one (ps_ret (pe_meth0 (pv 0) Tx.cl_Rule Tx.me_Rule_copied (ok_Rule_copied Tx) (hr.mono (by omega)) Tx.b_Rule_copied .nil pass0)))),?_⟩
  refine ⟨_,rfl,.ref p,t.c_Rule,_,_,rfl,Tx.ow_Rule.ty Tx.cl_Rule hp,Tx.ki_Rule_Rule,_,rfl,itF (by decide) ?_⟩
  exact ⟨_,rfl,p,dx,_,rfl,hp,rfl,_,rfl,⟨p,dx,rfl,hp⟩,q⟩
def spAddRule (t:Adr):Sp:=fun vs H Q _=>∃ (n ds dr dt dp:Addr) (N:NetM) (z:Str) (v:V) (H0:Hp),vs = [.ref n,.str z,v]∧NetO t H n ds dr dt dp N∧NetNew H0 ds dr dt dp∧Same H0 H∧NameOk z∧RuAt t H v∧N.ru = [] ∧
  ∀ H',Same H0 H'→NetO t H' n ds dr dt dp { N with ru:=[z] }→Q .non H'
theorem ok_Net_add_rule (Tx:Tab K mg t):FnOk P w K mg base CX0 4 t.f_Net_add_rule t.d_Net_add_rule ["self","name","rule"] (spAddRule t):=by
  refine Tx.F_Net_add_rule.ok sc_Net_add_rule (fun vs H Q E h=>?_) (fun cdv A outer s H vs Q E hr h=>?_)
  · obtain ⟨n,ds,dr,dt,dp,N,z,v,H0,rfl,_⟩:=h
    rfl
  obtain ⟨n,ds,dr,dt,dp,N,z,v,H0,rfl,hN,hW,s0,okn,hru,eru,q⟩:=h
  obtain ⟨dx,fs,e1,e2⟩:=hN.ob
  obtain ⟨rows,h1,h2⟩:=hN.ru
  obtain rfl:rows = []:=h2.nil_iff.mpr eru
  refine ⟨_,(pss_cons (ps_expr (pe_call (ok_check_new Tx) (hr.mono (by omega)) rfl Tx.m_check_new Tx.F_check_new.kp Tx.b_check_new .nil pass0 (pac (pv 1) (pac (pe_fld (pv 0) rfl) pa_nil))))
    (pss_cons (ps_set (i:=3) sc_Net_add_rule.nd rfl (Or.inl rfl) (pe_call (ok_copy_of Tx) (hr.mono (by omega)) rfl Tx.m_copy_of Tx.F_copy_of.kp Tx.b_copy_of .nil pass0 (pac (pv 2) pa_nil)))
    (pss_cons (ps_expr (pe_call (ok_check_room Tx) (hr.mono (by omega)) rfl Tx.m_check_room Tx.F_check_room.kp Tx.b_check_room .nil pass0 (pac (pe_fld (pv 0) rfl) (pac (pe_gintE rfl Tx.m_MOST_RULES) pa_nil))))
    (pss_one (ps_dput (hu_of hr) (pe_fld (pv 0) rfl) (pv 1) (pv 3) rfl))))),?_⟩
  refine ⟨_,rfl,_,rfl,n,_,dx,_,_,rfl,e1,Tx.cl_Net,Tx.na_Net_rule_rows,e2.fr,z,dr,[],rfl,h1,okn,rfl,fun H1 s1=>?_⟩
  obtain ⟨pv0,dxv,rfl,hv0⟩:=hru
  refine ⟨_,rfl,.ref pv0,rfl,⟨pv0,dxv,rfl,s1 _ _ hv0⟩,fun v' H2 s2 _=>?_⟩
  have S2:=s1.trans s2
  refine ⟨_,rfl,n,_,dx,_,_,rfl,S2 _ _ e1,Tx.cl_Net,Tx.na_Net_rule_rows,e2.fr,dr,[],6,rfl,S2 _ _ h1,by decide,?_⟩
  refine ⟨_,rfl,_,rfl,n,_,dx,_,_,rfl,S2 _ _ e1,Tx.cl_Net,Tx.na_Net_rule_rows,e2.fr,_,rfl,dr,_,rfl,DPut.k (k:=Sum.inr z) (S2 _ _ h1) (by decide),?_⟩
  have:=(hN.same S2).addRu (S2 _ _ h1) h2 (z:=z) (v:=v') rfl
  rw [eru] at this
  exact q _ (same_put (s0.trans S2) hW.2.1 _) this
def spAddTk (t:Adr):Sp:=fun vs H Q _=>∃ (n ds dr dt dp:Addr) (N:NetM) (k:Tk) (zl:Addr) (H0:Hp),vs = [.ref n,.str k.nm,.int (k.pr:Nat),.int (k.la:Nat),.ref zl]∧NetO t H n ds dr dt dp N∧NetNew H0 ds dr dt dp∧Same H0 H∧H zl = some (.lst (natV (zonesOf k.b)))∧k.Ok∧fnd Tk.nm N.tk k.nm = none∧N.tk.length < 3 ∧
  ∀ H',Same H0 H'→NetO t H' n ds dr dt dp { N with tk:=N.tk ++ [k] }→Q .non H'
theorem ok_Net_add_ticket (Tx:Tab K mg t):FnOk P w K mg base CX0 4 t.f_Net_add_ticket t.d_Net_add_ticket ["self","name","price","lasts","zones"] (spAddTk t):=by
  refine Tx.F_Net_add_ticket.ok sc_Net_add_ticket (fun vs H Q E h=>?_) (fun cdv A outer s H vs Q E hr h=>?_)
  · obtain ⟨n,ds,dr,dt,dp,N,k,zl,H0,rfl,_⟩:=h
    rfl
  obtain ⟨n,ds,dr,dt,dp,N,k,zl,H0,rfl,hN,hW,s0,hz,ok,hf,hlen,q⟩:=h
  obtain ⟨dx,fs,e1,e2⟩:=hN.ob
  obtain ⟨rows,h1,h2⟩:=hN.tk
  have hv:=(fnd_rows (fun kv x (h:RowIs H kv x)=>h.1) h2 k.nm).1 hf
  have hrl:rows.length < 3:=by rw [h2.length]; exact hlen
  refine ⟨_,(pss_cons (ps_expr (pe_call (ok_check_new Tx) (hr.mono (by omega)) rfl Tx.m_check_new Tx.F_check_new.kp Tx.b_check_new .nil pass0 (pac (pv 1) (pac (pe_fld (pv 0) rfl) pa_nil))))
    (pss_cons (ps_expr (pe_call (ok_check_number Tx) (hr.mono (by omega)) rfl Tx.m_check_number Tx.F_check_number.kp Tx.b_check_number .nil pass0 (pac (pv 2) (pac pe_int (pac (pe_gintE rfl Tx.m_MOST_PRICE) pa_nil)))))
    (pss_cons (ps_expr (pe_call (ok_check_number Tx) (hr.mono (by omega)) rfl Tx.m_check_number Tx.F_check_number.kp Tx.b_check_number .nil pass0 (pac (pv 3) (pac pe_int (pac (pe_gintE rfl Tx.m_MOST_LASTING) pa_nil)))))
    (pss_cons (ps_if (pt_not (pt_val (pe_call (ok_are_rising Tx) (hr.mono (by omega)) rfl Tx.m_are_rising Tx.F_are_rising.kp Tx.b_are_rising .nil pass0 (pac (pv 4) (pac (pe_gintE rfl Tx.m_LAST_ZONE) (pac pe_int (pac (pe_gintE rfl Tx.m_LAST_ZONE) pa_nil)))))))
    (pss_one ps_never)
    pss_nil)
    (pss_cons (ps_expr (pe_call (ok_check_room Tx) (hr.mono (by omega)) rfl Tx.m_check_room Tx.F_check_room.kp Tx.b_check_room .nil pass0 (pac (pe_fld (pv 0) rfl) (pac (pe_gintE rfl Tx.m_MOST_TICKETS) pa_nil))))
    (pss_one (ps_dput (hu_of hr) (pe_fld (pv 0) rfl) (pv 1) (pe_tup (pac (pv 2) (pac (pv 3) (pac (pe_callTy call_tuple_of rfl Tx.z_tuple b_tuple (pac (pv 4) pa_nil)) pa_nil)))) rfl))))))),?_⟩
  refine ⟨_,rfl,_,rfl,n,_,dx,_,_,rfl,e1,Tx.cl_Net,Tx.na_Net_ticket_rows,e2.ft,k.nm,dt,rows,rfl,h1,ok.nm,hv,fun H1 s1=>?_⟩
  refine ⟨_,rfl,k.pr,0,10000,rfl,by omega,by have:=ok.pr; omega,?_⟩
  refine ⟨_,rfl,k.la,1,1440,rfl,by have:=ok.la1; omega,by have:=ok.la; omega,?_⟩
  refine ⟨_,rfl,zl,zonesOf k.b,6,1,6,rfl,s1 _ _ hz,zones_one k.b ok.b ok.b1,zones_len k.b,zones_up k.b,fun x hx=>⟨(zones_rng k.b x hx).1,by have:=(zones_rng k.b x hx).2; omega⟩,_,rfl,itF (by decide) ?_⟩
  refine ⟨_,rfl,n,_,dx,_,_,rfl,s1 _ _ e1,Tx.cl_Net,Tx.na_Net_ticket_rows,e2.ft,dt,rows,3,rfl,s1 _ _ h1,by omega,?_⟩
  refine ⟨_,rfl,_,rfl,_,rfl,zl,_,rfl,.inl ⟨SqL.of (s1 _ _ hz),fun p hp=>?_⟩⟩
  have s2:=same_new hp (.tup (natV (zonesOf k.b)))
  refine ⟨by show 3≤sizeLine; decide,fun r hr'=>?_⟩
  have s3:=same_new hr' (.tup [.int (k.pr:Nat),.int (k.la:Nat),.ref p])
  have S3:=(s1.trans s2).trans s3
  refine ⟨_,rfl,n,_,dx,_,_,rfl,S3 _ _ e1,Tx.cl_Net,Tx.na_Net_ticket_rows,e2.ft,_,rfl,dt,_,rfl,DPut.k (k:=Sum.inr k.nm) (S3 _ _ h1) (Nat.lt_trans hrl (by decide)),?_⟩
  exact q _ (same_put (s0.trans S3) hW.2.2.1 _) ((hN.same S3).addTk (S3 _ _ h1) (h2.imp fun _ _=>RowIs.same S3) hv ⟨rfl,r,p,rfl,upd_same,s3 _ _ upd_same⟩)
structure ClsOk (N:NetM) (cs:List Cl):Prop where
  two:2≤cs.length
  six:cs.length≤6
  st:∀ c∈cs,(fnd Stp.nm N.st c.st).isSome = true
  rng:∀ c∈cs,c.ar≤c.lv∧c.lv≤2879
  fol:∀ i a b,cs[i]? = some a→cs[i + 1]? = some b→b.st≠a.st∧a.lv < b.ar
def spForm (K:W.Frag):Sp:=fun vs H Q _=>∃ (l:Addr) (vs':List V) (cs:List Cl),vs = [.ref l]∧H l = some (.lst vs')∧Al (ClAt H) vs' cs∧2≤cs.length∧cs.length≤6∧∀ H',Same H H'→Q (.bl true) H'
theorem ok_have_calls_form (Tx:Tab K mg t):FnOk P w K mg base CX0 1 t.f_have_calls_form t.d_have_calls_form ["calls"] (spForm K):=by
  refine Tx.F_have_calls_form.ok sc_have_calls_form (fun vs H Q E h=>?_) (fun cdv A outer s H vs Q E hr h=>?_)
  · obtain ⟨l,vs',cs,rfl,_⟩:=h
    rfl
  obtain ⟨l,vs',cs,rfl,hl,al,c2,c6,q⟩:=h
  have lv:=al.length
  refine ⟨_,(pss_cons (ps_if (PW.pt (pw_or (pt_not (pt_val (pe_callB call_isi_ty rfl Tx.z_isinstance b_isinstance (pac (pv 0) (pac (pe_gty rfl Tx.z_list b_list) pa_nil))))) (pw_or1 (pt_not (pt_chain op_le op_le (pe_gintE rfl Tx.m_LEAST_CALLS) (pe_callB call_len_seq rfl Tx.z_len b_len (pac (pv 0) pa_nil)) (pe_gintE rfl Tx.m_MOST_CALLS))))))
    (pss_one (ps_ret pe_bl))
    pss_nil)
    (pss_one (ps_ret (pe_callB (call_all_list rfl) rfl Tx.z_all b_all (pac (pe_comp (cl:=[]) (N:=["call"]) (fr:=[none]) rfl (pi_list (pv 0)) rfl (by decide +kernel) rfl (by decide +kernel) trivial trivial rfl (fun _ _ _ _ _=>(pg_name (i:=0) (show List.Nodup (["call"]:List Str) by decide +kernel) rfl (Or.inl rfl))) (fun _ _ _ _ _=>pts_nil) (fun _ _ _ _ _=>(pe_and (pe_callB (show CallR _ (.builtin "isinstance") (fun xs H Q=>∃ x T t b,xs = [x,V.ty T]∧TyOf K H x t∧W.kitOne K t (Value.type T) = some b∧Q (V.bl b) H) from call_isi_ty) rfl Tx.z_isinstance b_isinstance (pac (pv 0) (pac (pe_gty rfl Tx.z_tuple b_tuple) pa_nil))) (pe_one (pe_cmpR op_eq (pe_callB (show CallR _ (.builtin "len") (fun xs H Q=>∃ p ys,xs = [V.ref p]∧(SqL K H p ys∨SqT K H p ys)∧Q (V.int ↑ys.length) H) from call_len_seq) rfl Tx.z_len b_len (pac (pv 0) pa_nil)) pe_int (nomark _)))))) pa_nil))))),?_⟩
  refine ⟨_,rfl,.ref l,"list",_,_,rfl,.lst hl,rfl,_,rfl,itF (by decide) ?_⟩
  refine ⟨_,rfl,l,_,rfl,.inl (SqL.of hl),_,_,rfl,rfl,_,rfl,itT (decide_eq_true (by omega)) ?_⟩
  refine ⟨_,_,rfl,rfl,_,rfl,itF (by rw [decide_eq_true (show ((vs'.length:Nat):Int)≤6 by omega)]; decide) ?_⟩
  refine ⟨_,rfl,l,rfl,⟨_,SqL.of hl⟩,comp_list (K:=K) (a:=l) (xs:=vs') (fun i acc σ H'=>H' = H∧acc = (List.replicate i true).map V.bl∧∃ v,σ = [v]) ⟨rfl,rfl,_,rfl⟩ (Nat.le_trans (show _≤6 by omega) (by decide)) (fun i acc σ H' _ ⟨e,_⟩=>by rw [e]; exact SqL.of hl) ?_ ?_⟩
  · rintro i y acc σ H' hi hy ⟨rfl,rfl,v,rfl⟩
    obtain ⟨c,ec,p,rfl,hp⟩:=al.get hy
    dsimp only [gName,tTrue]
    rw [if_pos rfl]
    refine ⟨_,rfl,.ref p,"tuple",_,_,rfl,.tup hp,rfl,_,rfl,itT (by decide) ⟨_,rfl,p,_,rfl,.inr (SqT.of hp),rfl,?_⟩⟩
    refine ⟨by rw [List.length_append,List.length_singleton]; omega,rfl,?_,_,rfl⟩
    rw [List.replicate_succ',List.map_append]
    rfl
  · rintro acc σ H' ha ⟨rfl,rfl,v,rfl⟩ p hp
    refine ⟨p,List.replicate vs'.length true,rfl,SqL.of upd_same,?_⟩
    have q2:=q _ (same_new hp (.lst ((List.replicate vs'.length true).map V.bl)))
    rw [show (List.replicate vs'.length true).all id = true by rw [List.all_eq_true]; intro x hx; rw [(List.mem_replicate.mp hx).2]; rfl]
    exact q2
def spFollow:Sp:=fun vs H Q _=>∃ (v u:V) (c a:Cl),vs = [v,u]∧ClAt H v c∧ClAt H u a∧c.st≠a.st∧a.lv < c.ar∧Q (.bl true) H
theorem ok_can_follow (Tx:Tab K mg t):FnOk P w K mg base CX0 1 t.f_can_follow t.d_can_follow ["call","ahead"] spFollow:=by
  refine Tx.F_can_follow.ok sc_can_follow (fun vs H Q E h=>?_) (fun cdv A outer s H vs Q E hr h=>?_)
  · obtain ⟨v,u,c,a,rfl,_⟩:=h
    rfl
  obtain ⟨v,u,c,a,rfl,⟨p,rfl,hp⟩,⟨r,rfl,hr'⟩,h1,h2,q⟩:=h
  refine ⟨_,(pss_one (ps_ret (pe_and (pe_cmpR op_ne (pe_ix ix_tup (pv 0) pe_int (fun _ _=>rfl)) (pe_ix ix_tup (pv 1) pe_int (fun _ _=>rfl)) (nomark _)) (pe_one (pe_cmpR op_gt (pe_ix ix_tup (pv 0) pe_int (fun _ _=>rfl)) (pe_ix ix_tup (pv 1) pe_int (fun _ _=>rfl)) (nomark _)))))),?_⟩
  refine ⟨_,rfl,p,_,0,_,rfl,rfl,SqT.of hp,rfl,_,rfl,r,_,0,_,rfl,rfl,SqT.of hr',rfl,rfl,_,rfl,itT (by show (!decide (V.str c.st = V.str a.st)) = true; simpa using h1) ?_⟩
  refine ⟨_,rfl,p,_,1,_,rfl,rfl,SqT.of hp,rfl,_,rfl,r,_,2,_,rfl,rfl,SqT.of hr',rfl,_,_,rfl,rfl,?_⟩
  show Q (.bl (decide (((a.lv:Nat):Int) < ((c.ar:Nat):Int)))) H
  rw [decide_eq_true (show ((a.lv:Nat):Int) < ((c.ar:Nat):Int) by omega)]
  exact q
def spCheckCall (t:Adr):Sp:=fun vs H Q _=>∃ (n:Addr) (N:NetM) (v:V) (c:Cl),vs = [.ref n,v]∧NetAt t H n N∧ClAt H v c∧(fnd Stp.nm N.st c.st).isSome = true∧c.ar≤c.lv∧c.lv≤2879∧Q .non H
theorem ok_Net_check_call (Tx:Tab K mg t):FnOk P w K mg base CX0 4 t.f_Net_check_call t.d_Net_check_call ["self","call"] (spCheckCall t):=by
  refine Tx.F_Net_check_call.ok sc_Net_check_call (fun vs H Q E h=>?_) (fun cdv A outer s H vs Q E hr h=>?_)
  · obtain ⟨n,N,v,c,rfl,_⟩:=h
    rfl
  obtain ⟨n,N,v,c,rfl,hA,⟨p,rfl,hp⟩,hs,h1,h2,q⟩:=h
  have hA':=hA
  obtain ⟨ds,dr,dt,dp,hN⟩:=hA'
  obtain ⟨dx,fs,e1,e2⟩:=hN.ob
  refine ⟨_,(pss_cons (ps_expr (pe_meth (pv 0) Tx.cl_Net Tx.me_Net_check_stop (ok_Net_check_stop Tx) (hr.mono (by omega)) Tx.b_Net_check_stop .nil pass0 (pac (pe_ix ix_tup (pv 1) pe_int (fun _ _=>rfl)) pa_nil)))
    (pss_cons (ps_expr (pe_call (ok_check_number Tx) (hr.mono (by omega)) rfl Tx.m_check_number Tx.F_check_number.kp Tx.b_check_number .nil pass0 (pac (pe_ix ix_tup (pv 1) pe_int (fun _ _=>rfl)) (pac pe_int (pac (pe_gintE rfl Tx.m_LAST_MINUTE) pa_nil)))))
    (pss_cons (ps_expr (pe_call (ok_check_number Tx) (hr.mono (by omega)) rfl Tx.m_check_number Tx.F_check_number.kp Tx.b_check_number .nil pass0 (pac (pe_ix ix_tup (pv 1) pe_int (fun _ _=>rfl)) (pac pe_int (pac (pe_gintE rfl Tx.m_LAST_MINUTE) pa_nil)))))
    (pss_one (ps_if (pt_cmpR op_lt (pe_ix ix_tup (pv 1) pe_int (fun _ _=>rfl)) (pe_ix ix_tup (pv 1) pe_int (fun _ _=>rfl)) (nomark _))
    (pss_one ps_never)
    pss_nil))))),?_⟩
  refine ⟨_,rfl,n,dx,_,rfl,e1,e2.n4,_,rfl,p,_,0,_,rfl,rfl,SqT.of hp,rfl,n,N,c.st,rfl,hA,hs,?_⟩
  refine ⟨_,rfl,p,_,1,_,rfl,rfl,SqT.of hp,rfl,c.ar,0,2879,rfl,by omega,by omega,?_⟩
  refine ⟨_,rfl,p,_,2,_,rfl,rfl,SqT.of hp,rfl,c.lv,0,2879,rfl,by omega,by omega,?_⟩
  exact ⟨_,rfl,p,_,2,_,rfl,rfl,SqT.of hp,rfl,_,rfl,p,_,1,_,rfl,rfl,SqT.of hp,rfl,_,_,rfl,rfl,_,rfl,itF (by rw [decide_eq_false (by omega)]; decide) q⟩
def spAddTrip (t:Adr) (K:W.Frag):Sp:=fun vs H Q _=>∃ (n ds dr dt dp:Addr) (N:NetM) (x:Tp) (l:Addr) (vs':List V) (H0:Hp),vs = [.ref n,.str x.nm,.str x.ru,.ref l]∧NetO t H n ds dr dt dp N∧NetNew H0 ds dr dt dp∧Same H0 H∧H l = some (.lst vs')∧Al (ClAt H) vs' x.cs∧ClsOk N x.cs∧NameOk x.nm∧x.ru∈N.ru∧fnd Tp.nm N.tp x.nm = none∧N.tp.length < 10 ∧
  ∀ H',Same H0 H'→Same (wo H dp) H'→NetO t H' n ds dr dt dp { N with tp:=N.tp ++ [x] }→Q .non H'
theorem ru_val {rows:List (Key×V)} {ru:List Str} (h:Al URow rows ru) {z:Str} (hz:z∈ru):∃ v,valV rows (Sum.inr z) = some v:=by
  cases e:fnd (fun z:Str=>z) ru z with
  | some x=>obtain ⟨kv,ev,_⟩:=(fnd_rows (nm:=fun z:Str=>z) (fun kv x (h:URow kv x)=>h) h z).2 x e; exact ⟨_,ev⟩
  | none =>
    unfold fnd at e
    rw [List.find?_eq_none] at e
    exact absurd (decide_eq_true rfl) (e z hz)
theorem ok_Net_add_trip (Tx:Tab K mg t):FnOk P w K mg base CX0 6 t.f_Net_add_trip t.d_Net_add_trip ["self","name","rule","calls"] (spAddTrip t K):=by
  refine Tx.F_Net_add_trip.ok sc_Net_add_trip (fun vs H Q E h=>?_) (fun cdv A outer s H vs Q E hr h=>?_)
  · obtain ⟨n,ds,dr,dt,dp,N,x,l,vs',H0,rfl,_⟩:=h
    rfl
  obtain ⟨n,ds,dr,dt,dp,N,x,l,vs',H0,rfl,hN,hW,s0,hl,al,ok,okn,hru,hf,hlen,q⟩:=h
  obtain ⟨dx,fs,e1,e2⟩:=hN.ob
  obtain ⟨rows,h1,h2⟩:=hN.tp
  obtain ⟨rrows,hr1,hr2⟩:=hN.ru
  obtain ⟨rv,erv⟩:=ru_val hr2 hru
  have hv:=(fnd_rows (fun kv x (h:TRow H kv x)=>h.1) h2 x.nm).1 hf
  have hrl:rows.length < 10:=by rw [h2.length]; exact hlen
  have lv:=al.length
  have lv6:vs'.length≤sizeLine:=Nat.le_trans (show vs'.length≤6 by have:=ok.six; omega) (by decide)
  refine ⟨_,(pss_cons (ps_expr (pe_call (ok_check_new Tx) (hr.mono (by omega)) rfl Tx.m_check_new Tx.F_check_new.kp Tx.b_check_new .nil pass0 (pac (pv 1) (pac (pe_fld (pv 0) rfl) pa_nil))))
    (pss_cons (ps_if (pt_not (pt_val (pe_call (ok_is_known Tx) (hr.mono (by omega)) rfl Tx.m_is_known Tx.F_is_known.kp Tx.b_is_known .nil pass0 (pac (pv 2) (pac (pe_fld (pv 0) rfl) pa_nil)))))
    (pss_one ps_never)
    pss_nil)
    (pss_cons (ps_if (pt_not (pt_val (pe_call (ok_have_calls_form Tx) (hr.mono (by omega)) rfl Tx.m_have_calls_form Tx.F_have_calls_form.kp Tx.b_have_calls_form .nil pass0 (pac (pv 3) pa_nil))))
    (pss_one ps_never)
    pss_nil)
    (pss_cons (ps_for PassesOwn.never rfl (pi_enum rfl Tx.z_enumerate (pac (pv 3) pa_nil)) (pg_tup rfl (pgs_cons (pg_name (i:=4) sc_Net_add_trip.nd rfl (Or.inl rfl)) (pgs_cons (pg_name (i:=5) sc_Net_add_trip.nd rfl (Or.inl rfl)) pgs_nil)))
    (pss_cons (ps_expr (pe_meth (pv 0) Tx.cl_Net Tx.me_Net_check_call (ok_Net_check_call Tx) (hr.mono (by omega)) Tx.b_Net_check_call .nil pass0 (pac (pv 5) pa_nil)))
    (pss_one (ps_if (PW.pt (pw_and (pt_cmpR op_gt (pv 4) pe_int (nomark _)) (pw_and1 (pt_not (pt_val (pe_call (ok_can_follow Tx) (hr.mono (by omega)) rfl Tx.m_can_follow Tx.F_can_follow.kp Tx.b_can_follow .nil pass0 (pac (pv 5) (pac (pe_ix ix_list (pv 3) (pe_op op_sub (pv 4) pe_int) (fun _ _=>rfl)) pa_nil))))))))
    (pss_one ps_never)
    pss_nil))))
    (pss_cons (ps_expr (pe_call (ok_check_room Tx) (hr.mono (by omega)) rfl Tx.m_check_room Tx.F_check_room.kp Tx.b_check_room .nil pass0 (pac (pe_fld (pv 0) rfl) (pac (pe_gintE rfl Tx.m_MOST_TRIPS) pa_nil))))
    (pss_one (ps_dput (hu_of hr) (pe_fld (pv 0) rfl) (pv 1) (pe_tup (pac (pv 2) (pac (pe_callTy call_tuple_of rfl Tx.z_tuple b_tuple (pac (pe_comp (cl:=[]) (N:=["call"]) (fr:=[none]) rfl (pi_list (pv 3)) rfl (by decide +kernel) rfl (by decide +kernel) trivial trivial rfl (fun _ _ _ _ _=>(pg_name (i:=0) (show List.Nodup (["call"]:List Str) by decide +kernel) rfl (Or.inl rfl))) (fun _ _ _ _ _=>pts_nil) (fun _ _ _ _ _=>(pe_callTy (show CallR _ (.type "tuple") (fun xs H Q=>∃ p ys,xs = [.ref p]∧((SqL K H p ys∧∀ l,H l = none→Q (.ref l) (upd H l (.tup ys)))∨(SqT K H p ys∧Q (.ref p) H))) from call_tuple_of) rfl Tx.z_tuple b_tuple (pac (pv 0) pa_nil)))) pa_nil)) pa_nil))) rfl))))))),?_⟩
  refine ⟨_,rfl,_,rfl,n,_,dx,_,_,rfl,e1,Tx.cl_Net,Tx.na_Net_trip_rows,e2.fp,x.nm,dp,rows,rfl,h1,okn,hv,fun H1 s1=>?_⟩
  refine ⟨_,rfl,_,rfl,n,_,dx,_,_,rfl,s1 _ _ e1,Tx.cl_Net,Tx.na_Net_rule_rows,e2.fr,x.ru,dr,rrows,rfl,s1 _ _ hr1,_,rfl,itF (by rw [erv]; exact Bool.false_ne_true) ?_⟩
  refine ⟨_,rfl,l,vs',x.cs,rfl,s1 _ _ hl,al.imp fun _ _=>ClAt.same s1,ok.two,ok.six,fun H2 s2=>⟨_,rfl,itF (by decide) ?_⟩⟩
  have S2:=s1.trans s2
  refine ⟨_,rfl,l,rfl,⟨_,SqL.of (S2 _ _ hl)⟩,for_enum (xs:=vs') (fun i σ H'=>Same H H'∧∃ v4 v5:Option V,σ = [some (.ref n),some (.str x.nm),some (.str x.ru),some (.ref l),v4,v5]) ⟨S2,_,_,rfl⟩ (fun i σ H' _ ⟨s',_⟩=>SqL.of (s' _ _ hl)) ?_ ?_⟩
  · rintro i v pp σ H3 hx hpp ⟨s3,v4,v5,rfl⟩
    have s4:=s3.trans (same_new hpp (.tup [.int (i:Nat),v]))
    obtain ⟨c,ec,hc⟩:=al.get hx
    have mc:=List.mem_of_getElem? ec
    refine ⟨pp,_,rfl,SqT.of upd_same,rfl,_,_,rfl,_,_,rfl,rfl,?_⟩
    refine ⟨_,rfl,n,dx,_,rfl,s4 _ _ e1,e2.n6,_,rfl,n,N,v,c,rfl,⟨ds,dr,dt,dp,hN.same s4⟩,hc.same s4,ok.st c mc,(ok.rng c mc).1,(ok.rng c mc).2,?_⟩
    refine ⟨_,rfl,_,_,rfl,rfl,_,rfl,?_⟩
    by_cases ci:0 < i
    · refine itT (decide_eq_true (by omega)) ?_
      obtain ⟨j,rfl⟩:∃ j,i = j + 1:=⟨i - 1,by omega⟩
      have hj:j < vs'.length:=by have:=(List.getElem?_eq_some_iff.mp hx).1; omega
      obtain ⟨a,ea,ha⟩:=al.get (List.getElem?_eq_getElem hj)
      have fo:=ok.fol j a c ea ec
      have eat:atI vs' (((j + 1:Nat):Int) - 1) = some vs'[j]:=by
        have:atI vs' ((j:Nat):Int) = some vs'[j]:=atI_nat (List.getElem?_eq_getElem hj)
        rw [show (((j + 1:Nat):Int) - 1) = ((j:Nat):Int) by omega]
        exact this
      exact ⟨_,rfl,_,rfl,_,rfl,_,_,rfl,rfl,l,_,_,_,rfl,rfl,SqL.of (s4 _ _ hl),eat,v,_,c,a,rfl,hc.same s4,ha.same s4,fo.1,fo.2,_,rfl,itF (by decide) ⟨s4,_,_,rfl⟩⟩
    · exact itF (by rw [decide_eq_false (by omega)]; decide) (itF (by decide) ⟨s4,_,_,rfl⟩)
  · rintro σ H3 ⟨s3,v4,v5,rfl⟩
    refine ⟨_,rfl,n,_,dx,_,_,rfl,s3 _ _ e1,Tx.cl_Net,Tx.na_Net_trip_rows,e2.fp,dp,rows,10,rfl,s3 _ _ h1,by omega,?_⟩
    refine ⟨_,rfl,_,rfl,l,rfl,⟨_,SqL.of (s3 _ _ hl)⟩,comp_list (K:=K) (a:=l) (xs:=vs') (fun i acc σ H'=>H' = H3∧acc = vs'.take i∧∃ v,σ = [v]) ⟨rfl,rfl,_,rfl⟩ lv6 (fun i acc σ H' _ ⟨e,_⟩=>by rw [e]; exact SqL.of (s3 _ _ hl)) ?_ ?_⟩
    · rintro i y acc σ H' hi hy ⟨rfl,rfl,v,rfl⟩
      obtain ⟨c,ec,p,rfl,hp⟩:=al.get hy
      dsimp only [gName,tTrue]
      rw [if_pos rfl]
      refine ⟨_,rfl,p,_,rfl,.inr ⟨SqT.of (s3 _ _ hp),?_⟩⟩
      refine ⟨by rw [List.length_append,List.length_singleton]; omega,rfl,?_,_,rfl⟩
      rw [List.take_add_one,hy]; rfl
    · rintro acc σ H' ha ⟨rfl,rfl,v,rfl⟩ p hp
      rw [List.take_length]
      have s5:=same_new hp (.lst vs')
      refine ⟨p,_,rfl,.inl ⟨SqL.of upd_same,fun p2 hp2=>?_⟩⟩
      have s6:=same_new hp2 (.tup vs')
      refine ⟨by show 2≤sizeLine; decide,fun r hr'=>?_⟩
      have s7:=same_new hr' (.tup [.str x.ru,.ref p2])
      have S7:=((s3.trans s5).trans s6).trans s7
      refine ⟨_,rfl,n,_,dx,_,_,rfl,S7 _ _ e1,Tx.cl_Net,Tx.na_Net_trip_rows,e2.fp,_,rfl,dp,_,rfl,DPut.k (k:=Sum.inr x.nm) (S7 _ _ h1) (Nat.lt_trans hrl (by decide)),?_⟩
      exact q _ (same_put (s0.trans S7) hW.2.2.2 _) (fun b ob e=>by obtain ⟨nb,e⟩:=wo_of e; rw [upd_ne nb]; exact S7 _ _ e) ((hN.same S7).addTp (S7 _ _ h1) (h2.imp fun _ _=>TRow.same S7) hv ⟨rfl,r,p2,vs',rfl,upd_same,s7 _ _ upd_same,al.imp fun _ _=>ClAt.same S7⟩)
def spZones:Sp:=fun vs H Q _=>∃ b:Nat,vs = [.int (b:Nat)]∧∀ l H',Same H H'→H l = none→H' l = some (.lst (natV (zonesOf b)))→Q (.ref l) H'
theorem zones_take (b:Nat) (i:Nat) (hi:i < 6):([1,2,3,4,5,6].take (i + 1)).filter (fun z=>decide (b / 2 ^ (z - 1) % 2 = 1)) = (([1,2,3,4,5,6]:List Nat).take i).filter (fun z=>decide (b / 2 ^ (z - 1) % 2 = 1)) ++ if b / 2 ^ i % 2 = 1 then [i + 1] else []:=by
  rw [List.take_add_one,List.filter_append]
  congr 1
  have:([1,2,3,4,5,6]:List Nat)[i]? = some (i + 1):=by
    match i,hi with
    | 0,_=>rfl
    | 1,_=>rfl
    | 2,_=>rfl
    | 3,_=>rfl
    | 4,_=>rfl
    | 5,_=>rfl
  rw [this]
  show List.filter _ [i + 1] = _
  rw [List.filter_cons,List.filter_nil,show i + 1 - 1 = i by omega]
  by_cases h:b / 2 ^ i % 2 = 1
  · rw [if_pos h,decide_eq_true h]; rfl
  · rw [if_neg h,decide_eq_false h]; rfl
theorem two_at:∀ i:Nat,i < 6→atI [V.int 1,V.int 2,V.int 4,V.int 8,V.int 16,V.int 32] (1 + (i:Int) - 1) = some (.int ((2 ^ i:Nat):Int)):=fun i hi=>by
  match i,hi with
  | 0,_=>rfl
  | 1,_=>rfl
  | 2,_=>rfl
  | 3,_=>rfl
  | 4,_=>rfl
  | 5,_=>rfl
theorem ok_law_zones (Tx:Tab K mg t):FnOk P w K mg base CX0 1 t.f_law_zones t.d_law_zones ["_law_bits_here"] spZones:=by
  refine Tx.F_law_zones.ok sc_law_zones (fun vs H Q E h=>?_) (fun cdv A outer s H vs Q E hr h=>?_)
  · obtain ⟨b,rfl,_⟩:=h
    rfl
  obtain ⟨b,rfl,q⟩:=h
  refine ⟨_,(pss_one (ps_ret (pe_comp (cl:=[(Str.ofString "_law_bits_here",s.heap.objs.size + 1)]) (N:=["_law_zone","_law_bits_here"]) (fr:=[none,some 0]) rfl (pi_range2 rfl Tx.z_range (pac pe_int (pac pe_int pa_nil))) rfl (by decide +kernel) rfl (by decide +kernel) ⟨⟨rfl,Or.inl rfl,Or.inl rfl,_,rfl,rfl⟩,trivial⟩ ⟨rfl,trivial⟩ rfl (fun _ _ _ _ _=>(pg_name (i:=0) (show List.Nodup (["_law_zone","_law_bits_here"]:List Str) by decide +kernel) rfl (Or.inl rfl))) (fun _ _ _ _ _=>(pts_one (pt_cmpR op_eq (pe_op op_mod (pe_op op_fdiv (pv 1) (pe_ix (show IxR _ (rIxL K) from ix_list) (pe_lst (pac pe_int (pac pe_int (pac pe_int (pac pe_int (pac pe_int (pac pe_int pa_nil))))))) (pe_op op_sub (pv 0) pe_int) (fun _ _=>rfl))) pe_int) pe_int (nomark _)))) (fun _ _ _ _ _=>(pv 0))))),?_⟩
  refine ⟨_,_,rfl,⟨by decide,by decide,by decide,by decide⟩,?_⟩
  refine comp_range (n:=6) (fun i acc σ H'=>Same H H'∧acc = natV (([1,2,3,4,5,6].take i).filter fun z=>decide (b / 2 ^ (z - 1) % 2 = 1))∧∃ v,σ = [v,some (.int (b:Nat))]) ⟨Same.refl H,rfl,_,rfl⟩ (by decide) ?_ ?_
  · rintro i acc σ H' hi ha ⟨s1,rfl,v,rfl⟩
    refine ⟨_,rfl,by show 6≤sizeLine; decide,fun p hp=>?_⟩
    have s2:=s1.trans (same_new hp (.lst [.int 1,.int 2,.int 4,.int 8,.int 16,.int 32]))
    have hp2:(2:Nat) ^ i≤32:=by
      match i,hi with
      | 0,_=>decide
      | 1,_=>decide
      | 2,_=>decide
      | 3,_=>decide
      | 4,_=>decide
      | 5,_=>decide
    have hp1:0 < (2:Nat) ^ i:=Nat.pow_pos (by decide)
    refine ⟨_,rfl,_,_,rfl,rfl,p,_,_,_,rfl,rfl,SqL.of upd_same,two_at i hi,_,_,rfl,rfl,⟨by omega,by omega⟩,_,_,rfl,rfl,(by show (0:Int) < 2; decide),rfl,_,rfl,?_⟩
    have ed:decide (V.int (((b:Nat):Int) / ((2 ^ i:Nat):Int) % 2) = V.int 1) = decide (b / 2 ^ i % 2 = 1):=by
      rw [show ((b:Nat):Int) / ((2 ^ i:Nat):Int) % 2 = ((b / 2 ^ i % 2:Nat):Int) by rw [← Int.natCast_ediv]; omega]
      exact decide_eq_decide.mpr ⟨fun x=>by injection x with x; omega,fun x=>by rw [x]; rfl⟩
    have zt:=zones_take b i hi
    by_cases c:b / 2 ^ i % 2 = 1
    · refine itT (by show decide (V.int (((b:Nat):Int) / ((2 ^ i:Nat):Int) % 2) = V.int 1) = true; rw [ed,decide_eq_true c]) ?_
      refine ⟨_,rfl,by rw [List.length_append,List.length_singleton]; omega,s2,?_,_,rfl⟩
      rw [zt,if_pos c]
      unfold natV
      rw [List.map_append]
      show _ ++ [V.int (1 + ((i:Nat):Int))] = _ ++ [V.int (((i + 1:Nat)):Int)]
      rw [show (1 + ((i:Nat):Int)) = ((i + 1:Nat):Int) by omega]
    · refine itF (by show ¬ decide (V.int (((b:Nat):Int) / ((2 ^ i:Nat):Int) % 2) = V.int 1) = true; rw [ed,decide_eq_false c]; decide) ?_
      refine ⟨by omega,s2,?_,_,rfl⟩
      rw [zt,if_neg c,List.append_nil]
  · rintro acc σ H' ha ⟨s1,rfl,v,rfl⟩ l hl
    exact q l _ (s1.trans (same_new hl _)) (s1.free hl) upd_same
def TkAt (H:Hp) (v:V) (k:Tk):Prop:=∃ p l,v = .ref p∧H p = some (.tup [.str k.nm,.int (k.pr:Nat),.int (k.la:Nat),.ref l])∧H l = some (.lst (natV (zonesOf k.b)))
theorem TkAt.same {H H':Hp} {v:V} {k:Tk} (s:Same H H') (h:TkAt H v k):TkAt H' v k:=let ⟨p,l,e,h1,h2⟩:=h; ⟨p,l,e,s _ _ h1,s _ _ h2⟩
def spTks (K:W.Frag):Sp:=fun vs H Q _=>∃ (a:Addr) (ns:List Int) (k:Int) (many:Nat),vs = [.ref a,.int k,.int (many:Nat)]∧SqL K H a (ns.map V.int)∧0≤k∧k≤90000∧many≤8 ∧
  ∀ (TK:List Tk) (vs:List V) l H',Same H H'→H l = none→H' l = some (.lst vs)→Al (TkAt H') vs TK→TK.length = many→(TK.map (·.nm)).Nodup→(∀ k∈TK,k.Ok)→Q (.ref l) H'
theorem ok_law_tickets (Tx:Tab K mg t):FnOk P w K mg base CX0 3 t.f_law_tickets t.d_law_tickets ["_law_script","_law_k","_law_many"] (spTks K):=by
  refine Tx.F_law_tickets.ok sc_law_tickets (fun vs H Q E h=>?_) (fun cdv A outer s H vs Q E hr h=>?_)
  · obtain ⟨a,ns,k,many,rfl,_⟩:=h
    rfl
  obtain ⟨a,ns,k,many,rfl,hS,k0,k1,hm,q⟩:=h
  refine ⟨_,(pss_cons (ps_set (i:=3) sc_law_tickets.nd rfl (Or.inl rfl) (pe_lst pa_nil))
    (pss_cons (ps_for PassesOwn.never rfl (pi_enum rfl Tx.z_enumerate (pac (pe_call (ok_law_names Tx) (hr.mono (by omega)) rfl Tx.m_law_names Tx.F_law_names.kp Tx.b_law_names .nil pass0 (pac (pv 0) (pac (pv 1) (pac (pv 2) pa_nil)))) pa_nil)) (pg_tup rfl (pgs_cons (pg_name (i:=4) sc_law_tickets.nd rfl (Or.inl rfl)) (pgs_cons (pg_name (i:=5) sc_law_tickets.nd rfl (Or.inl rfl)) pgs_nil)))
    (pss_cons (ps_set (i:=6) sc_law_tickets.nd rfl (Or.inl rfl) (pe_call (ok_law_draw Tx) (hr.mono (by omega)) rfl Tx.m_law_draw Tx.F_law_draw.kp Tx.b_law_draw .nil pass0 (pac (pv 0) (pac (pe_op op_add (pe_op op_add (pv 1) pe_int) (pv 4)) pa_nil))))
    (pss_cons (ps_set (i:=7) sc_law_tickets.nd rfl (Or.inl rfl) (pe_op op_mod (pv 6) (pe_ix ix_list (pe_lst (pac pe_int (pac pe_int (pac pe_int (pac pe_int pa_nil))))) (pe_op op_mod (pe_op op_fdiv (pv 6) pe_int) pe_int) (fun _ _=>rfl))))
    (pss_cons (ps_set (i:=8) sc_law_tickets.nd rfl (Or.inl rfl) (pe_op op_add pe_int (pe_op op_mod (pe_op op_fdiv (pv 6) pe_int) (pe_ix ix_list (pe_lst (pac pe_int (pac pe_int (pac pe_int pa_nil)))) (pe_op op_mod (pe_op op_fdiv (pv 6) pe_int) pe_int) (fun _ _=>rfl)))))
    (pss_cons (ps_set (i:=9) sc_law_tickets.nd rfl (Or.inl rfl) (pe_ix ix_list (pe_lst (pac pe_int (pac (pe_op op_add pe_int (pe_op op_mod (pe_op op_fdiv (pv 6) pe_int) pe_int)) pa_nil))) (pe_op op_mod (pe_op op_fdiv (pv 6) pe_int) pe_int) (fun _ _=>rfl)))
    (pss_one (ps_expr (pe_bm PySem.F.plainAttrs_list PySem.F.slot_list_append PySem.F.type_list_append mt_append (pv 3) (pac (pe_tup (pac (pv 5) (pac (pv 7) (pac (pv 8) (pac (pe_call (ok_law_zones Tx) (hr.mono (by omega)) rfl Tx.m_law_zones Tx.F_law_zones.kp Tx.b_law_zones .nil pass0 (pac (pv 9) pa_nil)) pa_nil))))) pa_nil)))))))))
    (pss_one (ps_ret (pv 3))))),?_⟩
  refine ⟨by show 0≤sizeLine; decide,fun l hl=>?_⟩
  have s1:=same_new hl (.lst [])
  refine ⟨_,rfl,_,rfl,_,rfl,a,ns,k,many,rfl,s1.seq hS,k0,by omega,hm,fun NS ln H1 s2 hln0 hln eN nN okN=>?_⟩
  have S2:=s1.trans s2
  have nl:ln≠l:=fun e=>by rw [e,upd_same] at hln0; cases hln0
  refine ⟨ln,rfl,⟨_,SqL.of hln⟩,for_enum (xs:=NS.map V.str) (fun i σ H'=>Same H H'∧H' ln = some (.lst (NS.map V.str))∧∃ (TK:List Tk) (vs:List V) (v4 v5 v6 v7 v8 v9:Option V),σ = [some (.ref a),some (.int k),some (.int (many:Nat)),some (.ref l),v4,v5,v6,v7,v8,v9]∧H' l = some (.lst vs)∧Al (TkAt (wo H' l)) vs TK∧TK.map (·.nm) = NS.take i∧∀ k∈TK,k.Ok)
    ⟨S2,hln,[],[],_,_,_,_,_,_,rfl,s2 _ _ upd_same,.nil,rfl,fun k hk=>by cases hk⟩ (fun i σ H' _ ⟨_,e,_⟩=>SqL.of e) ?_ ?_⟩
  · rintro i x pp σ H2 hx hpp ⟨s3,hln2,TK,vs,v4,v5,v6,v7,v8,v9,rfl,hl2,al,en,okT⟩
    rw [List.getElem?_map] at hx
    cases ez:NS[i]? with
    | none=>rw [ez] at hx; cases hx
    | some z =>
      rw [ez] at hx
      obtain rfl:V.str z = x:=Option.some.inj hx
      have hi:i < 8:=by have:=(List.getElem?_eq_some_iff.mp ez).1; omega
      have s4:=s3.trans (same_new hpp (.tup [.int (i:Nat),.str z]))
      have nlp:l≠pp:=ne_of_none hl2 hpp
      refine ⟨pp,_,rfl,SqT.of upd_same,rfl,_,_,rfl,_,_,rfl,rfl,?_⟩
      refine ⟨_,rfl,_,rfl,_,_,rfl,rfl,_,rfl,_,_,rfl,rfl,a,ns,_,rfl,s4.seq hS,by omega,by omega,fun d H3 hd s5=>?_⟩
      obtain ⟨vm,em,m1,rfl,hm1,hm1'⟩:=at_all (p:=fun v=>∃ m:Nat,v = .int (m:Nat)∧1≤m∧m≤10001) (xs:=[.int 4,.int 101,.int 101,.int 10001]) (d:=((d:Nat):Int) / 16 % 4) (fun v hv=>by
        simp only [List.mem_cons,List.not_mem_nil,or_false] at hv
        rcases hv with rfl | rfl | rfl | rfl
        · exact ⟨4,rfl,by decide,by decide⟩
        · exact ⟨101,rfl,by decide,by decide⟩
        · exact ⟨101,rfl,by decide,by decide⟩
        · exact ⟨10001,rfl,by decide,by decide⟩) (by omega) (by show ((d:Nat):Int) / 16 % 4 < 4; omega)
      obtain ⟨vm2,em2,m2,rfl,hm2,hm2'⟩:=at_all (p:=fun v=>∃ m:Nat,v = .int (m:Nat)∧1≤m∧m≤1440) (xs:=[.int 60,.int 240,.int 1440]) (d:=((d:Nat):Int) / 4096 % 3) (fun v hv=>by
        simp only [List.mem_cons,List.not_mem_nil,or_false] at hv
        rcases hv with rfl | rfl | rfl
        · exact ⟨60,rfl,by decide,by decide⟩
        · exact ⟨240,rfl,by decide,by decide⟩
        · exact ⟨1440,rfl,by decide,by decide⟩) (by omega) (by show ((d:Nat):Int) / 4096 % 3 < 3; omega)
      obtain ⟨vb,eb,B,rfl,hB,hB'⟩:=at_all (p:=fun v=>∃ m:Nat,v = .int (m:Nat)∧1≤m∧m < 64) (xs:=[.int 63,.int (1 + ((d:Nat):Int) / 1024 % 63)]) (d:=((d:Nat):Int) / 512 % 2) (fun v hv=>by
        simp only [List.mem_cons,List.not_mem_nil,or_false] at hv
        rcases hv with rfl | rfl
        · exact ⟨63,rfl,by decide,by decide⟩
        · exact ⟨1 + d / 1024 % 63,congrArg V.int (by omega),by omega,by omega⟩) (by omega) (by show ((d:Nat):Int) / 512 % 2 < 2; omega)
      refine ⟨_,rfl,by show 4≤sizeLine; decide,fun p1 g1=>?_⟩
      refine ⟨_,rfl,_,_,rfl,rfl,⟨by decide,by decide⟩,_,_,rfl,rfl,(by show (0:Int) < 4; decide),p1,_,_,_,rfl,rfl,SqL.of upd_same,em,_,_,rfl,rfl,(by omega),?_⟩
      have s6:=s5.trans (same_new g1 (.lst [.int 4,.int 101,.int 101,.int 10001]))
      refine ⟨_,rfl,_,_,rfl,rfl,⟨by decide,by decide⟩,by show 3≤sizeLine; decide,fun p2 g2=>?_⟩
      have s7:=s6.trans (same_new g2 (.lst [.int 60,.int 240,.int 1440]))
      refine ⟨_,rfl,_,_,rfl,rfl,⟨by decide,by decide⟩,_,_,rfl,rfl,(by show (0:Int) < 3; decide),p2,_,_,_,rfl,rfl,SqL.of upd_same,em2,_,_,rfl,rfl,(by omega),_,_,rfl,rfl,?_⟩
      refine ⟨_,rfl,_,_,rfl,rfl,⟨by decide,by decide⟩,_,_,rfl,rfl,(by show (0:Int) < 63; decide),_,_,rfl,rfl,by show 2≤sizeLine; decide,fun p3 g3=>?_⟩
      have s8:=s7.trans (same_new g3 (.lst [.int 63,.int (1 + ((d:Nat):Int) / 1024 % 63)]))
      refine ⟨_,rfl,_,_,rfl,rfl,⟨by decide,by decide⟩,_,_,rfl,rfl,(by show (0:Int) < 2; decide),p3,_,_,_,rfl,rfl,SqL.of upd_same,eb,?_⟩
      have S8:=(same_new hpp (.tup [.int (i:Nat),.str z])).trans s8
      have hl8:=S8 _ _ hl2
      generalize upd (upd (upd H3 p1 (.lst [.int 4,.int 101,.int 101,.int 10001])) p2 (.lst [.int 60,.int 240,.int 1440])) p3 (.lst [.int 63,.int (1 + ((d:Nat):Int) / 1024 % 63)]) = H4 at S8 hl8 ⊢
      refine ⟨_,rfl,.inl ⟨rfl,_,SqL.of hl8⟩,_,rfl,_,rfl,_,rfl,_,rfl,B,rfl,fun lz H5 s9 hz0 hz=>⟨by show 4≤sizeLine; decide,fun pt gt=>?_⟩⟩
      have S9:=S8.trans s9
      have hl9:=s9 _ _ hl8
      have nlz:lz≠l:=fun e=>by rw [e,hl8] at hz0; cases hz0
      have npt:pt≠l:=fun e=>by rw [e,hl9] at gt; cases gt
      have e1:((d:Nat):Int) % ((m1:Nat):Int) = ((d % m1:Nat):Int):=(Int.natCast_emod d m1).symm
      have e2:(1:Int) + ((d:Nat):Int) / 64 % ((m2:Nat):Int) = ((1 + d / 64 % m2:Nat):Int):=by
        rw [Int.natCast_add,Int.natCast_emod,Int.natCast_ediv]; rfl
      have hpt:upd H5 pt (.tup [.str z,.int (((d:Nat):Int) % ((m1:Nat):Int)),.int (1 + ((d:Nat):Int) / 64 % ((m2:Nat):Int)),.ref lz]) pt = some (.tup [.str z,.int ((d % m1:Nat):Int),.int ((1 + d / 64 % m2:Nat):Int),.ref lz]):=by
        rw [upd_same,e1,e2]
      have s10:=same_new gt (.tup [.str z,.int (((d:Nat):Int) % ((m1:Nat):Int)),.int (1 + ((d:Nat):Int) / 64 % ((m2:Nat):Int)),.ref lz])
      have S10:=S9.trans s10
      have hl10:=S10 _ _ hl2
      have lv:vs.length≤8:=by
        have:=al.length
        have h2:=congrArg List.length en
        rw [List.length_map,List.length_take] at h2
        omega
      refine ⟨l,_,_,rfl,rfl,hl10,Nat.lt_of_le_of_lt lv (by decide),?_⟩
      refine ⟨same_put (s3.trans S10) hl _,(by rw [upd_ne nl]; exact S10 _ _ hln2),TK ++ [⟨z,d % m1,1 + d / 64 % m2,B⟩],vs ++ [.ref pt],_,_,_,_,_,_,rfl,upd_same,?_,?_,?_⟩
      · rw [wo_upd]
        exact (al.imp fun _ _=>TkAt.same (wo_mono S10)).snoc ⟨pt,lz,rfl,wo_at hpt npt,wo_at (s10 _ _ hz) nlz⟩
      · rw [List.map_append,en,List.take_add_one,ez]; rfl
      · intro k' hk'
        rcases List.mem_append.mp hk' with hk' | hk'
        · exact okT k' hk'
        · rw [List.mem_singleton] at hk'
          subst hk'
          refine ⟨okN z (List.mem_of_getElem? ez),?_,?_,?_,hB,hB'⟩
          · show d % m1≤10000
            have:=Nat.mod_lt d (show 0 < m1 by omega)
            omega
          · show 1≤1 + d / 64 % m2
            omega
          · show 1 + d / 64 % m2≤1440
            have:=Nat.mod_lt (d / 64) (show 0 < m2 by omega)
            omega
  · rintro σ H2 ⟨s3,hln2,TK,vs,v4,v5,v6,v7,v8,v9,rfl,hl2,al,en,okT⟩
    rw [List.length_map,List.take_length] at en
    refine ⟨_,rfl,q TK vs l H2 s3 hl hl2 (al.imp fun _ _=>TkAt.same wo_same) ?_ (by rw [en]; exact nN) okT⟩
    have:=congrArg List.length en
    rw [List.length_map] at this
    omega
structure Rd where
  b:Nat
  mo:Int
def RdAt (H:Hp) (v:V) (r:Rd):Prop:=∃ p,v = .ref p∧H p = some (.tup [.int (r.b:Nat),.int r.mo])
theorem RdAt.same {H H':Hp} {v:V} {r:Rd} (s:Same H H') (h:RdAt H v r):RdAt H' v r:=let ⟨p,e,h⟩:=h; ⟨p,e,s _ _ h⟩
def nmV:Option Str→V
  | none=>.non
  | some z=>.str z
def heldV:Option (Tk×Int)→List V
  | none=>[.non,.int (-1)]
  | some (k,u)=>[.str k.nm,.int u]
def buyM (r:Rd):Option Tk→Option (Tk×Int)
  | some k=>if k.b &&& r.b = r.b then some (k,r.mo + k.la) else none
  | none=>none
def keepM (r:Rd):Option (Tk×Int)→Option (Tk×Int)
  | some (k,u)=>if k.b &&& r.b = r.b∧r.mo < u then some (k,u) else none
  | none=>none
def stepM (TK:List Tk) (held:Option (Tk×Int)) (r:Rd):Option Str→Option (Tk×Int)
  | some z=>buyM r (findT TK z)
  | none=>keepM r held
def priceM (TK:List Tk):Option Str→Nat
  | none=>0
  | some z=>match findT TK z with
    | some k=>k.pr
    | none=>0
def spentM (TK:List Tk):Option (Tk×Int)→Nat→List Rd→List (Option Str)→Option Nat
  | h,p,r :: rs,n :: ns=>match stepM TK h r n with
    | some h'=>spentM TK (some h') (p + priceM TK n) rs ns
    | none=>none
  | _,p,[],_=>some p
  | _,p,_ :: _,[]=>some p
def optV:Option Nat→V
  | none=>.non
  | some n=>.int (n:Nat)
def HeldOk (TK:List Tk):Option (Tk×Int)→Prop
  | none=>True
  | some (k,_)=>findT TK k.nm = some k
theorem findT_nm {TK:List Tk} {z:Str} {k:Tk} (h:findT TK z = some k):findT TK k.nm = some k:=by rw [(findT_mem h).2]; exact h
theorem step_ok {TK:List Tk} {h:Option (Tk×Int)} {r:Rd} {n:Option Str} {h':Tk×Int} (ho:HeldOk TK h) (e:stepM TK h r n = some h'):HeldOk TK (some h'):=by
  cases n with
  | some z =>
    have e:buyM r (findT TK z) = some h':=e
    cases ef:findT TK z with
    | none=>rw [ef] at e; cases e
    | some k =>
      rw [ef] at e
      have e:(if k.b &&& r.b = r.b then some (k,r.mo + k.la) else none) = some h':=e
      by_cases c:k.b &&& r.b = r.b
      · rw [if_pos c] at e; cases e; exact findT_nm ef
      · rw [if_neg c] at e; cases e
  | none =>
    match h,ho,e with
    | none,_,e=>cases e
    | some (k,u),ho,e =>
      by_cases c:k.b &&& r.b = r.b∧r.mo < u
      · have e':(if k.b &&& r.b = r.b∧r.mo < u then some (k,u) else none) = some h':=e
        rw [if_pos c] at e'; cases e'; exact ho
      · have e':(if k.b &&& r.b = r.b∧r.mo < u then some (k,u) else none) = some h':=e
        rw [if_neg c] at e'; cases e'
theorem inV_names (TK:List Tk) (z:Str):inV (.str z) (TK.map fun k=>V.str k.nm) = (findT TK z).isSome:=by
  induction TK with
  | nil=>rfl
  | cons k TK ih =>
    unfold inV at ih ⊢
    rw [List.map_cons,List.any_cons,ih]
    unfold findT
    rw [List.find?_cons]
    by_cases e:k.nm = z
    · rw [decide_eq_true e,e]
      show ((z == z) || _) = _
      rw [beq_self_eq_true]; rfl
    · rw [decide_eq_false e]
      show ((k.nm == z) || _) = _
      rw [show (k.nm == z) = false from beq_eq_false_iff_ne.mpr e]; rfl
theorem inV_non (TK:List Tk):inV .non (TK.map fun k=>V.str k.nm) = false:=by
  induction TK with
  | nil=>rfl
  | cons k TK ih=>exact ih
theorem flat_names (TK:List Tk):(TK.map fun k=>V.str k.nm).all flatV = true:=by
  rw [List.all_eq_true]
  intro v hv
  obtain ⟨k,_,rfl⟩:=List.mem_map.mp hv
  rfl
def spHeldT (t:Adr) (K:W.Frag):Sp:=fun vs H Q _=>∃ (n h:Addr) (TK:List Tk) (held:Option (Tk×Int)) (vr:V) (r:Rd) (nm:Option Str),vs = [.ref n,.ref h,vr,nmV nm]∧TNet t H n TK∧(∀ k∈TK,k.Ok)∧SqT K H h (heldV held)∧(∀ x,held = some x→H h = some (.tup (heldV (some x))))∧HeldOk TK held∧RdAt H vr r ∧
  (stepM TK held r nm = none→∀ H',Same H H'→Q .non H')∧∀ x,stepM TK held r nm = some x→∀ h' H',Same H H'→H' h' = some (.tup (heldV (some x)))→Q (.ref h') H'
theorem ok_held_behind_t (Tx:Tab K mg t):FnOk P w K mg base CX0 4 t.f_held_behind t.d_held_behind ["net","held","ride","name"] (spHeldT t K):=by
  refine Tx.F_held_behind.ok sc_held_behind (fun vs H Q E h=>?_) (fun cdv A outer s H vs Q E hr h=>?_)
  · obtain ⟨n,h,TK,held,vr,r,nm,rfl,_⟩:=h
    rfl
  obtain ⟨n,h,TK,held,vr,r,nm,rfl,hN,hK,hh,ht,ho,⟨p,rfl,hr'⟩,qn,qs⟩:=h
  have hN':=hN
  obtain ⟨dx,fs,d,rows,e1,e2,e3,e4⟩:=hN'
  refine ⟨_,(pss_cons (ps_set (i:=4) sc_held_behind.nd rfl (Or.inl rfl) (pe_ifExp (pt_cmp (pc_isN (pv 3))) (pe_ix ix_tup (pv 1) pe_int (fun _ _=>rfl)) (pv 3)))
    (pss_cons (ps_if (PW.pt (pw_or (pt_cmpR op_notIn_seq (pv 4) (pe_meth0 (pv 0) Tx.cl_Net Tx.me_Net_tickets (ok_Net_tickets Tx) (hr.mono (by omega)) Tx.b_Net_tickets .nil pass0) rfl) (pw_or1 (pt_not (pt_val (pe_call (ok_fits Tx) (hr.mono (by omega)) rfl Tx.m_fits Tx.F_fits.kp Tx.b_fits .nil pass0 (pac (pv 0) (pac (pv 4) (pac (pe_ix ix_tup (pv 2) pe_int (fun _ _=>rfl)) pa_nil)))))))))
    (pss_one (ps_ret pe_non))
    pss_nil)
    (pss_cons (ps_if (pt_cmp (pc_notN (pv 3)))
    (pss_one (ps_ret (pe_tup (pac (pv 3) (pac (pe_op op_add (pe_ix ix_tup (pv 2) pe_int (fun _ _=>rfl)) (pe_ix ix_tup (pe_meth (pv 0) Tx.cl_Net Tx.me_Net_ticket (ok_Net_ticket Tx) (hr.mono (by omega)) Tx.b_Net_ticket .nil pass0 (pac (pv 3) pa_nil)) pe_int (fun _ _=>rfl))) pa_nil)))))
    pss_nil)
    (pss_one (ps_ret (pe_ifExp (pt_cmpR op_lt (pe_ix ix_tup (pv 2) pe_int (fun _ _=>rfl)) (pe_ix ix_tup (pv 1) pe_int (fun _ _=>rfl)) (nomark _)) (pv 1) pe_non)))))),?_⟩
  cases nm with
  | none =>
    refine ⟨_,rfl,_,rfl,itT rfl ?_⟩
    cases held with
    | none =>
      refine ⟨_,rfl,h,_,0,_,rfl,rfl,hh,rfl,?_⟩
      refine ⟨_,rfl,_,rfl,n,dx,_,rfl,e1,e2.n2,n,TK,rfl,hN,fun l H1 s1 hl=>?_⟩
      refine ⟨l,_,rfl,.inl (SqL.of hl),rfl,flat_names TK,_,rfl,itT (by rw [inV_non]; decide) ?_⟩
      exact qn rfl H1 s1
    | some ku =>
      obtain ⟨k,u⟩:=ku
      have hk:findT TK k.nm = some k:=ho
      have kok:=hK k (findT_mem hk).1
      refine ⟨_,rfl,h,_,0,_,rfl,rfl,hh,rfl,?_⟩
      refine ⟨_,rfl,_,rfl,n,dx,_,rfl,e1,e2.n2,n,TK,rfl,hN,fun l H1 s1 hl=>?_⟩
      refine ⟨l,_,rfl,.inl (SqL.of hl),rfl,flat_names TK,_,rfl,itF (by rw [inV_names,hk]; exact Bool.false_ne_true) ?_⟩
      refine ⟨_,rfl,_,rfl,_,rfl,p,_,0,_,rfl,rfl,SqT.of (s1 _ _ hr'),rfl,n,TK,k,r.b,rfl,hN.same s1,hk,kok.b,fun H2 s2=>?_⟩
      have S2:=s1.trans s2
      have hh2:SqT K H2 h (heldV (some (k,u))):=S2.seqT hh
      by_cases c:k.b &&& r.b = r.b
      · refine ⟨_,rfl,itF (by rw [decide_eq_true c]; decide) ?_⟩
        refine ⟨_,rfl,_,rfl,itF (by decide) ?_⟩
        refine ⟨_,rfl,p,_,1,_,rfl,rfl,SqT.of (S2 _ _ hr'),rfl,_,rfl,h,_,1,_,rfl,rfl,hh2,rfl,_,_,rfl,rfl,_,rfl,?_⟩
        by_cases c2:r.mo < u
        · refine itT (decide_eq_true c2) ⟨_,rfl,?_⟩
          exact qs (k,u) (by show (if k.b &&& r.b = r.b∧r.mo < u then some (k,u) else none) = _; rw [if_pos ⟨c,c2⟩]) h H2 S2 (S2 _ _ (ht _ rfl))
        · refine itF (by rw [decide_eq_false c2]; decide) ?_
          exact qn (by show (if k.b &&& r.b = r.b∧r.mo < u then some (k,u) else none) = _; rw [if_neg fun z=>c2 z.2]) H2 S2
      · refine ⟨_,rfl,itT (by rw [decide_eq_false c]; decide) ?_⟩
        exact qn (by show (if k.b &&& r.b = r.b∧r.mo < u then some (k,u) else none) = _; rw [if_neg fun z=>c z.1]) H2 S2
  | some z =>
    refine ⟨_,rfl,_,rfl,itF (by intro y; cases y) ?_⟩
    refine ⟨_,rfl,?_⟩
    refine ⟨_,rfl,_,rfl,n,dx,_,rfl,e1,e2.n2,n,TK,rfl,hN,fun l H1 s1 hl=>?_⟩
    cases ef:findT TK z with
    | none =>
      refine ⟨l,_,rfl,.inl (SqL.of hl),rfl,flat_names TK,_,rfl,itT (by rw [show inV (nmV (some z)) (TK.map fun k=>V.str k.nm) = (findT TK z).isSome from inV_names TK z,ef]; decide) ?_⟩
      exact qn (by show buyM r (findT TK z) = none; rw [ef]; rfl) H1 s1
    | some k =>
      have hk:=findT_nm ef
      have kok:=hK k (findT_mem hk).1
      have ez:z = k.nm:=(findT_mem ef).2.symm
      subst ez
      have es:stepM TK held r (some k.nm) = if k.b &&& r.b = r.b then some (k,r.mo + k.la) else none:=by
        show buyM r (findT TK k.nm) = _
        rw [ef]; rfl
      refine ⟨l,_,rfl,.inl (SqL.of hl),rfl,flat_names TK,_,rfl,itF (by rw [show inV (nmV (some k.nm)) (TK.map fun k=>V.str k.nm) = (findT TK k.nm).isSome from inV_names TK k.nm,ef]; exact Bool.false_ne_true) ?_⟩
      refine ⟨_,rfl,_,rfl,_,rfl,p,_,0,_,rfl,rfl,SqT.of (s1 _ _ hr'),rfl,n,TK,k,r.b,rfl,hN.same s1,hk,kok.b,fun H2 s2=>?_⟩
      have S2:=s1.trans s2
      by_cases c:k.b &&& r.b = r.b
      · refine ⟨_,rfl,itF (by rw [decide_eq_true c]; decide) ?_⟩
        refine ⟨_,rfl,_,rfl,itT (by show (!decide (V.str k.nm = V.non)) = true; simp) ?_⟩
        refine ⟨_,rfl,_,rfl,p,_,1,_,rfl,rfl,SqT.of (S2 _ _ hr'),rfl,_,rfl,n,dx,_,rfl,S2 _ _ e1,e2.n1,_,rfl,n,TK,k,rfl,hN.same S2,hk,fun p3 l3 H3 s3 hp3 hl3=>?_⟩
        refine ⟨p3,_,1,_,rfl,rfl,SqT.of hp3,rfl,_,_,rfl,rfl,by show 2≤sizeLine; decide,fun p4 hp4=>?_⟩
        exact qs (k,r.mo + k.la) (by rw [es,if_pos c]) p4 _ ((S2.trans s3).trans (same_new hp4 _)) upd_same
      · refine ⟨_,rfl,itT (by rw [decide_eq_false c]; decide) ?_⟩
        exact qn (by rw [es,if_neg c]) H2 S2
def spPriceFor (t:Adr):Sp:=fun vs H Q _=>∃ (n:Addr) (TK:List Tk) (nm:Option Str),vs = [.ref n,nmV nm]∧TNet t H n TK∧(∀ z,nm = some z→∃ k,findT TK z = some k)∧∀ H',Same H H'→Q (.int (priceM TK nm:Nat)) H'
theorem ok_price_for (Tx:Tab K mg t):FnOk P w K mg base CX0 3 t.f_price_for t.d_price_for ["net","name"] (spPriceFor t):=by
  refine Tx.F_price_for.ok sc_price_for (fun vs H Q E h=>?_) (fun cdv A outer s H vs Q E hr h=>?_)
  · obtain ⟨n,TK,nm,rfl,_⟩:=h
    rfl
  obtain ⟨n,TK,nm,rfl,hN,hf,q⟩:=h
  have hN':=hN
  obtain ⟨dx,fs,d,rows,e1,e2,e3,e4⟩:=hN'
  refine ⟨_,(pss_one (ps_ret (pe_ifExp (pt_cmp (pc_isN (pv 1))) pe_int (pe_ix ix_tup (pe_meth (pv 0) Tx.cl_Net Tx.me_Net_ticket (ok_Net_ticket Tx) (hr.mono (by omega)) Tx.b_Net_ticket .nil pass0 (pac (pv 1) pa_nil)) pe_int (fun _ _=>rfl))))),?_⟩
  cases nm with
  | none=>exact ⟨_,rfl,_,rfl,itT rfl (q H (Same.refl H))⟩
  | some z =>
    obtain ⟨k,ek⟩:=hf z rfl
    have ez:z = k.nm:=(findT_mem ek).2.symm
    subst ez
    refine ⟨_,rfl,_,rfl,itF (by intro y; cases y) ?_⟩
    refine ⟨_,rfl,n,dx,_,rfl,e1,e2.n1,_,rfl,n,TK,k,rfl,hN,ek,fun p l H1 s1 hp hl=>?_⟩
    refine ⟨p,_,0,_,rfl,rfl,SqT.of hp,rfl,?_⟩
    have q2:=q H1 s1
    rw [show priceM TK (some k.nm) = k.pr by show (match findT TK k.nm with | some k=>k.pr | none=>0) = k.pr; rw [ek]] at q2
    exact q2
theorem spent_step {TK:List Tk} {R:List Rd} {B:List (Option Str)} {i:Nat} {r:Rd} {n:Option Str} (h:Option (Tk×Int)) (p:Nat) (hr:R[i]? = some r) (hn:B[i]? = some n) :
    spentM TK h p (R.drop i) (B.drop i) = match stepM TK h r n with | some h'=>spentM TK (some h') (p + priceM TK n) (R.drop (i + 1)) (B.drop (i + 1)) | none=>none:=by
  have e1:R.drop i = r :: R.drop (i + 1):=by
    obtain ⟨h1,h2⟩:=List.getElem?_eq_some_iff.mp hr
    rw [List.drop_eq_getElem_cons h1,h2]
  have e2:B.drop i = n :: B.drop (i + 1):=by
    obtain ⟨h1,h2⟩:=List.getElem?_eq_some_iff.mp hn
    rw [List.drop_eq_getElem_cons h1,h2]
  rw [e1,e2]
  rfl
theorem spent_end {TK:List Tk} {R:List Rd} {B:List (Option Str)} {i:Nat} (h:Option (Tk×Int)) (p:Nat) (hi:i = min R.length B.length):spentM TK h p (R.drop i) (B.drop i) = some p:=by
  rcases Nat.le_total R.length B.length with hl | hl
  · rw [List.drop_eq_nil_of_le (show R.length≤i by omega)]
    unfold spentM
    rfl
  · rw [List.drop_eq_nil_of_le (show B.length≤i by omega)]
    cases R.drop i <;> rfl
theorem stepM_price {TK:List Tk} {h:Option (Tk×Int)} {r:Rd} {n:Option Str} {x:Tk×Int} (e:stepM TK h r n = some x):∀ z,n = some z→∃ k,findT TK z = some k:=by
  intro z ez
  subst ez
  have e:buyM r (findT TK z) = some x:=e
  cases ef:findT TK z with
  | none=>rw [ef] at e; cases e
  | some k=>exact ⟨k,rfl⟩
def spPriceOf (t:Adr) (K:W.Frag):Sp:=fun vs H Q _=>∃ (n lr lb:Addr) (TK:List Tk) (vr:List V) (R:List Rd) (B:List (Option Str)),vs = [.ref n,.ref lr,.ref lb]∧TNet t H n TK∧(∀ k∈TK,k.Ok)∧H lr = some (.lst vr)∧Al (RdAt H) vr R∧H lb = some (.lst (B.map nmV))∧∀ H',Same H H'→Q (optV (spentM TK none 0 R B)) H'
theorem ok_price_of (Tx:Tab K mg t):FnOk P w K mg base CX0 5 t.f_price_of t.d_price_of ["net","rides","bought"] (spPriceOf t K):=by
  refine Tx.F_price_of.ok sc_price_of (fun vs H Q E h=>?_) (fun cdv A outer s H vs Q E hr h=>?_)
  · obtain ⟨n,lr,lb,TK,vr,R,B,rfl,_⟩:=h
    rfl
  obtain ⟨n,lr,lb,TK,vr,R,B,rfl,hN,hK,hr1,hR,hb,q⟩:=h
  refine ⟨_,(pss_cons (ps_set (i:=3) sc_price_of.nd rfl (Or.inl rfl) pe_int)
    (pss_cons (ps_set (i:=4) sc_price_of.nd rfl (Or.inl rfl) (pe_gref rfl Tx.m_NOTHING_HELD))
    (pss_cons (ps_for PassesOwn.never rfl (pi_zip rfl Tx.z_zip (pac (pv 1) (pac (pv 2) pa_nil))) (pg_tup rfl (pgs_cons (pg_name (i:=5) sc_price_of.nd rfl (Or.inl rfl)) (pgs_cons (pg_name (i:=6) sc_price_of.nd rfl (Or.inl rfl)) pgs_nil)))
    (pss_cons (ps_set (i:=4) sc_price_of.nd rfl (Or.inl rfl) (pe_call (ok_held_behind_t Tx) (hr.mono (by omega)) rfl Tx.m_held_behind Tx.F_held_behind.kp Tx.b_held_behind .nil pass0 (pac (pv 0) (pac (pv 4) (pac (pv 5) (pac (pv 6) pa_nil))))))
    (pss_cons (ps_if (pt_cmp (pc_isN (pv 4)))
    (pss_one (ps_ret pe_non))
    pss_nil)
    (pss_one (ps_set (i:=3) sc_price_of.nd rfl (Or.inl rfl) (pe_op op_add (pv 3) (pe_call (ok_price_for Tx) (hr.mono (by omega)) rfl Tx.m_price_for Tx.F_price_for.kp Tx.b_price_for .nil pass0 (pac (pv 0) (pac (pv 6) pa_nil)))))))))
    (pss_one (ps_ret (pv 3)))))),?_⟩
  refine ⟨_,rfl,_,rfl,lr,lb,rfl,⟨_,SqL.of hr1⟩,⟨_,SqL.of hb⟩,for_zip (xs:=vr) (ys:=B.map nmV) (fun i σ H'=>Same H H'∧∃ (hd:Option (Tk×Int)) (h:Addr) (p:Nat) (v5 v6:Option V),σ = [some (.ref n),some (.ref lr),some (.ref lb),some (.int (p:Nat)),some (.ref h),v5,v6]∧SqT K H' h (heldV hd)∧(∀ z,hd = some z→H' h = some (.tup (heldV (some z))))∧HeldOk TK hd∧spentM TK none 0 R B = spentM TK hd p (R.drop i) (B.drop i))
    ⟨Same.refl H,none,t.g_NOTHING_HELD,0,_,_,rfl,Tx.o_NOTHING_HELD H,fun z e=>by (cases e),trivial,rfl⟩ (fun i σ H' _ _ ⟨s1,_⟩=>⟨SqL.of (s1 _ _ hr1),SqL.of (s1 _ _ hb)⟩) ?_ ?_⟩
  · rintro i x y pp σ H1 hx hy hpp ⟨s1,hd,h,p,v5,v6,rfl,hh,ht,ho,es⟩
    obtain ⟨r,er,hr2⟩:=hR.get hx
    rw [List.getElem?_map] at hy
    cases eb:B[i]? with
    | none=>rw [eb] at hy; cases hy
    | some nm =>
      rw [eb] at hy
      obtain rfl:nmV nm = y:=Option.some.inj hy
      have s2:=s1.trans (same_new hpp (.tup [x,nmV nm]))
      rw [spent_step hd p er eb] at es
      refine ⟨pp,_,rfl,SqT.of upd_same,rfl,_,_,rfl,_,_,rfl,rfl,?_⟩
      refine ⟨_,rfl,_,rfl,_,rfl,_,rfl,n,h,TK,hd,x,r,nm,rfl,hN.same s2,hK,(same_new hpp _).seqT hh,fun z e=>(same_new hpp _) _ _ (ht z e),ho,hr2.same s2,fun e H3 s3=>?_,fun ku e h' H3 s3 hh'=>?_⟩
      · rw [e] at es
        refine ⟨_,rfl,_,rfl,itT rfl ?_⟩
        have q2:=q H3 (s2.trans s3)
        rw [es] at q2
        exact q2
      · rw [e] at es
        refine ⟨_,rfl,_,rfl,itF (by intro y; cases y) ?_⟩
        refine ⟨_,rfl,_,rfl,_,rfl,n,TK,nm,rfl,hN.same (s2.trans s3),stepM_price e,fun H4 s4=>?_⟩
        exact ⟨_,_,rfl,rfl,(s2.trans s3).trans s4,some ku,h',p + priceM TK nm,_,_,rfl,SqT.of (s4 _ _ hh'),fun z e=>by (cases e; exact s4 _ _ hh'),step_ok ho e,es⟩
  · rintro i σ H1 hi ⟨s1,hd,h,p,v5,v6,rfl,hh,ht,ho,es⟩
    rw [spent_end hd p (by rw [List.length_map] at hi; rw [← hR.length]; exact hi)] at es
    have q2:=q H1 s1
    rw [es] at q2
    exact ⟨_,rfl,q2⟩
def HeldAt (H:Hp):Option (Tk×Int)→V→Prop
  | none,v=>v = .non
  | some (k,u),v=>∃ p vt,v = .ref p∧H p = some (.tup [vt,.int u])∧TkAt H vt k
theorem HeldAt.same {H H':Hp} {o:Option (Tk×Int)} {v:V} (s:Same H H') (h:HeldAt H o v):HeldAt H' o v:=by
  match o,h with
  | none,h=>exact h
  | some (k,u),⟨p,vt,e,h1,h2⟩=>exact ⟨p,vt,e,s _ _ h1,h2.same s⟩
def bought1 (TK:List Tk) (r:Rd) (hd:Option (Tk×Int)):Option Str→Option (Tk×Int)
  | none=>hd
  | some z=>(findT TK z).map fun k=>(k,r.mo + k.la)
theorem missing:∀ a:Nat,a < 64→∀ b:Nat,b < 64→(((zonesOf b).filter fun z=>!(zonesOf a).contains z) = []↔a &&& b = b):=by decide +kernel
theorem inV_nat (zs:List Nat) (z:Nat):inV (.int (z:Nat)) (natV zs) = zs.contains z:=by
  induction zs with
  | nil=>rfl
  | cons y zs ih =>
    unfold inV natV at ih ⊢
    rw [List.map_cons,List.any_cons,ih,List.contains_cons]
    congr 1
    show ((((y:Nat):Int)) == ((z:Nat):Int)) = (z == y)
    by_cases h:z = y
    · subst h; simp
    · rw [beq_eq_false_iff_ne.mpr h,beq_eq_false_iff_ne.mpr (by omega)]
theorem flat_nat (zs:List Nat):(natV zs).all flatV = true:=by
  rw [List.all_eq_true]
  intro v hv
  obtain ⟨k,_,rfl⟩:=List.mem_map.mp hv
  rfl
theorem findT_snoc {TK:List Tk} {k:Tk} {z:Str}:findT (TK ++ [k]) z = match findT TK z with | some x=>some x | none=>if k.nm = z then some k else none:=by
  unfold findT
  rw [List.find?_append]
  cases (TK.find? fun k=>decide (k.nm = z)) with
  | some x=>rfl
  | none =>
    rw [List.find?_cons,List.find?_nil]
    by_cases h:k.nm = z
    · rw [if_pos h,decide_eq_true h]; rfl
    · rw [if_neg h,decide_eq_false h]; rfl
def spSpent (K:W.Frag):Sp:=fun vs H Q _=>∃ (lt lr lb:Addr) (vt:List V) (TK:List Tk) (vr:List V) (R:List Rd) (B:List (Option Str)),vs = [.ref lt,.ref lr,.ref lb]∧H lt = some (.lst vt)∧Al (TkAt H) vt TK∧(∀ k∈TK,k.Ok)∧TK.length≤8∧H lr = some (.lst vr)∧Al (RdAt H) vr R∧(∀ r∈R,r.b < 64) ∧
  H lb = some (.lst (B.map nmV))∧(∀ n∈B,∀ z,n = some z→∃ k,findT TK z = some k)∧∀ H',Same H H'→Q (optV (spentM TK none 0 R B)) H'
theorem ok_law_spent (Tx:Tab K mg t):FnOk P w K mg base CX0 2 t.f_law_spent t.d_law_spent ["_law_tickets_here","_law_rides_here","_law_bought"] (spSpent K):=by
  refine Tx.F_law_spent.ok sc_law_spent (fun vs H Q E h=>?_) (fun cdv A outer s H vs Q E hr h=>?_)
  · obtain ⟨lt,lr,lb,vt,TK,vr,R,B,rfl,_⟩:=h
    rfl
  obtain ⟨lt,lr,lb,vt,TK,vr,R,B,rfl,hlt,alT,okT,lenT,hr1,hR,okR,hb,okB,q⟩:=h
  refine ⟨_,(pss_cons (ps_set (i:=3) sc_law_spent.nd rfl (Or.inl rfl) pe_int)
    (pss_cons (ps_set (i:=4) sc_law_spent.nd rfl (Or.inr rfl) pe_non)
    (pss_cons (ps_for PassesOwn.never rfl (pi_zip rfl Tx.z_zip (pac (pv 1) (pac (pv 2) pa_nil))) (pg_tup rfl (pgs_cons (pg_name (i:=5) sc_law_spent.nd rfl (Or.inr rfl)) (pgs_cons (pg_name (i:=6) sc_law_spent.nd rfl (Or.inr rfl)) pgs_nil)))
    (pss_join (ps_if (pt_cmp (pc_notN (pv 6)))
    (pss_cons (ps_set (i:=4) sc_law_spent.nd rfl (Or.inr rfl) (pe_ix ix_list (pe_comp (cl:=[(Str.ofString "_law_ride",s.heap.objs.size + 2),(Str.ofString "_law_name",s.heap.objs.size + 3)]) (N:=["_law_ticket","_law_ride","_law_name"]) (fr:=[none,some 5,some 6]) rfl (pi_list (pv 0)) rfl (by decide +kernel) rfl (by decide +kernel) ⟨⟨rfl,Or.inl rfl,Or.inl rfl,_,rfl,rfl⟩,⟨⟨rfl,Or.inl rfl,Or.inl rfl,_,rfl,rfl⟩,trivial⟩⟩ ⟨rfl,⟨rfl,trivial⟩⟩ rfl (fun _ _ _ _ _=>(pg_name (i:=0) (show List.Nodup (["_law_ticket","_law_ride","_law_name"]:List Str) by decide +kernel) rfl (Or.inl rfl))) (fun _ _ _ _ _=>(pts_one (pt_cmpR op_eq (pe_ix (show IxR _ (rIxT K) from ix_tup) (pv 0) pe_int (fun _ _=>rfl)) (pv 2) (nomark _)))) (fun _ _ _ _ _=>(pe_tup (pac (pv 0) (pac (pe_op op_add (pe_ix (show IxR _ (rIxT K) from ix_tup) (pv 1) pe_int (fun _ _=>rfl)) (pe_ix (show IxR _ (rIxT K) from ix_tup) (pv 0) pe_int (fun _ _=>rfl))) pa_nil))))) pe_int (fun _ _=>rfl)))
    (pss_one (ps_set (i:=3) sc_law_spent.nd rfl (Or.inl rfl) (pe_op op_add (pv 3) (pe_ix ix_tup (pe_ix (show IxR _ (rIxT K) from ix_tup) (pv 4) pe_int (fun _ _=>rfl)) pe_int (fun _ _=>rfl))))))
    pss_nil)
    (pss_join (ps_if (PW.pt (pw_or (pt_cmp (pc_isN (pv 4))) (pw_or1 (PW.pt (pw_and (pt_cmp (pc_isN (pv 6))) (pw_and1 (pt_cmpR op_ge (pe_ix (show IxR _ (rIxT K) from ix_tup) (pv 5) pe_int (fun _ _=>rfl)) (pe_ix ix_tup (pv 4) pe_int (fun _ _=>rfl)) (nomark _))))))))
    (pss_one (ps_ret pe_non))
    pss_nil)
    (pss_one (ps_if (pt_cmpR (op_ne_lst hr.units0) (pe_comp (cl:=[(Str.ofString "_law_held",s.heap.objs.size + 1)]) (N:=["_law_zone","_law_held"]) (fr:=[none,some 4]) rfl (pi_list (pe_call (ok_law_zones Tx) (hr.mono (by omega)) rfl Tx.m_law_zones Tx.F_law_zones.kp Tx.b_law_zones .nil pass0 (pac (pe_ix ix_tup (pv 5) pe_int (fun _ _=>rfl)) pa_nil))) rfl (by decide +kernel) rfl (by decide +kernel) ⟨⟨rfl,Or.inl rfl,Or.inl rfl,_,rfl,rfl⟩,trivial⟩ ⟨rfl,trivial⟩ rfl (fun _ _ _ _ _=>(pg_name (i:=0) (show List.Nodup (["_law_zone","_law_held"]:List Str) by decide +kernel) rfl (Or.inl rfl))) (fun _ _ _ _ _=>(pts_one (pt_cmpR (show OpR _ (compareOp .NotIn) (rIn K true) from op_notIn_seq) (pv 0) (pe_ix (show IxR _ (rIxT K) from ix_tup) (pe_ix (show IxR _ (rIxT K) from ix_tup) (pv 1) pe_int (fun _ _=>rfl)) pe_int (fun _ _=>rfl)) rfl))) (fun _ _ _ _ _=>(pv 0))) (pe_lst pa_nil) (nomark _))
    (pss_one (ps_ret pe_non))
    pss_nil)))))
    (pss_one (ps_ret (pv 3)))))),?_⟩
  refine ⟨_,rfl,_,rfl,lr,lb,rfl,⟨_,SqL.of hr1⟩,⟨_,SqL.of hb⟩,for_zip (xs:=vr) (ys:=B.map nmV) (fun i σ H'=>Same H H'∧∃ (hd:Option (Tk×Int)) (vh:V) (p:Nat) (v5 v6:Option V),σ = [some (.ref lt),some (.ref lr),some (.ref lb),some (.int (p:Nat)),some vh,v5,v6]∧HeldAt H' hd vh∧HeldOk TK hd∧spentM TK none 0 R B = spentM TK hd p (R.drop i) (B.drop i))
    ⟨Same.refl H,none,.non,0,_,_,rfl,rfl,trivial,rfl⟩ (fun i σ H' _ _ ⟨s1,_⟩=>⟨SqL.of (s1 _ _ hr1),SqL.of (s1 _ _ hb)⟩) ?_ ?_⟩
  · rintro i x y pp σ H1 hx hy hpp ⟨s1,hd,vh,p,v5,v6,rfl,hh,ho,es⟩
    obtain ⟨r,er,hr2⟩:=hR.get hx
    have rb:=okR r (List.mem_of_getElem? er)
    rw [List.getElem?_map] at hy
    cases eb:B[i]? with
    | none=>rw [eb] at hy; cases hy
    | some nm =>
      rw [eb] at hy
      obtain rfl:nmV nm = y:=Option.some.inj hy
      have okn:=okB nm (List.mem_of_getElem? eb)
      have s2:=s1.trans (same_new hpp (.tup [x,nmV nm]))
      have hh2:=hh.same (same_new hpp (.tup [x,nmV nm]))
      rw [spent_step hd p er eb] at es
      refine ⟨pp,_,rfl,SqT.of upd_same,rfl,_,_,rfl,_,_,rfl,rfl,?_⟩
      obtain ⟨pr,rfl,hpr⟩:=hr2
      generalize upd H1 pp (.tup [.ref pr,nmV nm]) = H2 at s2 hh2 ⊢
      refine ⟨fun σ H3=>Same H H3∧∃ vh',σ = [some (.ref lt),some (.ref lr),some (.ref lb),some (.int ((p + priceM TK nm:Nat):Int)),some vh',some (.ref pr),some (nmV nm)]∧HeldAt H3 (bought1 TK r hd nm) vh'∧HeldOk TK (bought1 TK r hd nm),?_,?_⟩
      · cases nm with
        | none =>
          refine ⟨_,rfl,_,rfl,itF (by decide) ⟨s2,vh,rfl,hh2,ho⟩⟩
        | some z =>
          refine ⟨_,rfl,_,rfl,itT (by show (!decide (V.str z = V.non)) = true; simp) ?_⟩
          obtain ⟨k,ek⟩:=okn z rfl
          refine ⟨_,rfl,lt,rfl,⟨_,SqL.of (s2 _ _ hlt)⟩,comp_list (K:=K) (a:=lt) (xs:=vt) (fun i acc σ H'=>Same H2 H'∧(∃ v,σ = [v,some (.ref pr),some (.str z)])∧(findT (TK.take i) z = none→acc = [])∧∀ k,findT (TK.take i) z = some k→∃ p vt rest,acc = .ref p :: rest∧H' p = some (.tup [vt,.int (r.mo + k.la)])∧TkAt H' vt k)
            ⟨Same.refl H2,⟨_,rfl⟩,fun _=>rfl,fun k e=>by cases e⟩ (by rw [alT.length]; exact Nat.le_trans lenT (by decide)) (fun i acc σ H' _ ⟨s3,_⟩=>SqL.of (s3 _ _ (s2 _ _ hlt))) ?_ ?_⟩
          · rintro j x acc σ H3 hl hx ⟨s3,⟨v,rfl⟩,i1,i2⟩
            obtain ⟨k',ek',hk'⟩:=alT.get hx
            have tk:TK.take (j + 1) = TK.take j ++ [k']:=by rw [List.take_add_one,ek']; rfl
            have S3:=s2.trans s3
            have hk3:=hk'.same S3
            obtain ⟨pt,lz,rfl,g1,g2⟩:=hk3
            refine ⟨_,rfl,pt,_,0,_,rfl,rfl,SqT.of g1,rfl,_,rfl,rfl,_,rfl,?_⟩
            by_cases c:k'.nm = z
            · refine itT (by show decide (V.str k'.nm = V.str z) = true; rw [c]; simp) ?_
              refine ⟨_,rfl,_,rfl,pr,_,1,_,rfl,rfl,SqT.of (S3 _ _ hpr),rfl,_,rfl,pt,_,2,_,rfl,rfl,SqT.of g1,rfl,_,_,rfl,rfl,by show 2≤sizeLine; decide,fun p4 g4=>?_⟩
              have s4:=same_new g4 (.tup [.ref pt,.int (r.mo + ((k'.la:Nat):Int))])
              refine ⟨by rw [List.length_append,List.length_singleton]; omega,s3.trans s4,⟨_,rfl⟩,fun e=>?_,fun k e=>?_⟩
              · rw [tk,findT_snoc] at e
                cases ef:findT (TK.take j) z with
                | some x=>rw [ef] at e; cases e
                | none=>rw [ef] at e; dsimp only at e; rw [if_pos c] at e; cases e
              · rw [tk,findT_snoc] at e
                cases ef:findT (TK.take j) z with
                | some x =>
                  rw [ef] at e
                  have ex:x = k:=Option.some.inj e
                  rw [ex] at ef
                  obtain ⟨p5,vt5,rest,rfl,h5,h6⟩:=i2 k ef
                  exact ⟨p5,vt5,rest ++ [.ref p4],rfl,s4 _ _ h5,h6.same s4⟩
                | none =>
                  rw [ef] at e
                  dsimp only at e
                  rw [if_pos c] at e
                  cases e
                  rw [i1 ef]
                  exact ⟨p4,.ref pt,[],rfl,upd_same,pt,lz,rfl,s4 _ _ g1,s4 _ _ g2⟩
            · refine itF (by show ¬ decide (V.str k'.nm = V.str z) = true; simpa using c) ?_
              have e0:findT (TK.take (j + 1)) z = findT (TK.take j) z:=by
                rw [tk,findT_snoc]
                cases findT (TK.take j) z with
                | some x=>rfl
                | none=>dsimp only; rw [if_neg c]
              rw [e0]
              exact ⟨by omega,s3,⟨_,rfl⟩,i1,i2⟩
          · rintro acc σ H3 ha ⟨s3,⟨v,rfl⟩,i1,i2⟩ p5 g5
            rw [alT.length,List.take_length] at i2
            obtain ⟨ph,vt',rest,rfl,h5,h6⟩:=i2 k ek
            have s4:=same_new g5 (.lst (.ref ph :: rest))
            refine ⟨p5,_,0,_,rfl,rfl,SqL.of upd_same,(show atI (V.ref ph :: rest) ((0:Nat):Int) = some (V.ref ph) from atI_nat rfl),?_⟩
            obtain ⟨pt,lz,rfl,g1,g2⟩:=h6
            refine ⟨_,rfl,_,rfl,ph,_,0,_,rfl,rfl,SqT.of (s4 _ _ h5),rfl,pt,_,1,_,rfl,rfl,SqT.of (s4 _ _ g1),rfl,_,_,rfl,rfl,?_⟩
            have eB:bought1 TK r hd (some z) = some (k,r.mo + k.la):=by show (findT TK z).map _ = _; rw [ek]; rfl
            have eP:priceM TK (some z) = k.pr:=by show (match findT TK z with | some k=>k.pr | none=>0) = k.pr; rw [ek]
            refine ⟨(s2.trans s3).trans s4,.ref ph,?_,?_,?_⟩
            · rw [eP]; rfl
            · rw [eB]; exact ⟨ph,.ref pt,rfl,s4 _ _ h5,pt,lz,rfl,s4 _ _ g1,s4 _ _ g2⟩
            · rw [eB]; exact findT_nm ek
      · rintro σ H3 ⟨s3,vh',rfl,hh3,ho3⟩
        cases eh:bought1 TK r hd nm with
        | none =>
          rw [eh] at hh3
          obtain rfl:vh' = .non:=hh3
          have est:stepM TK hd r nm = none:=by
            cases nm with
            | none =>
              have eh:hd = none:=eh
              rw [eh]; rfl
            | some z =>
              obtain ⟨k,ek⟩:=okn z rfl
              have eh:(findT TK z).map (fun k=>(k,r.mo + ((k.la:Nat):Int))) = none:=eh
              rw [ek] at eh
              cases eh
          rw [est] at es
          refine ⟨fun _ _=>False,⟨_,rfl,_,rfl,itT rfl ?_⟩,fun _ _ f=>f.elim⟩
          have q2:=q H3 s3
          rw [es] at q2
          exact q2
        | some ku =>
          obtain ⟨k,u⟩:=ku
          rw [eh] at hh3 ho3
          obtain ⟨ph,vt',rfl,hph,pt,lz,rfl,g1,g2⟩:=hh3
          have kb:=(okT k (findT_mem ho3).1).b
          have est:stepM TK hd r nm = if k.b &&& r.b = r.b∧(nm = none→r.mo < u) then some (k,u) else none:=by
            cases nm with
            | none =>
              have eh:hd = some (k,u):=eh
              rw [eh]
              show (if k.b &&& r.b = r.b∧r.mo < u then some (k,u) else none) = _
              by_cases c:k.b &&& r.b = r.b∧r.mo < u
              · rw [if_pos c,if_pos ⟨c.1,fun _=>c.2⟩]
              · rw [if_neg c,if_neg fun z=>c ⟨z.1,z.2 rfl⟩]
            | some z =>
              obtain ⟨k0,ek⟩:=okn z rfl
              have eh:(findT TK z).map (fun k=>(k,r.mo + ((k.la:Nat):Int))) = some (k,u):=eh
              rw [ek] at eh
              have eh:=Option.some.inj eh
              injection eh with ea eb2
              subst ea
              show buyM r (findT TK z) = _
              rw [ek,← eb2]
              show (if k0.b &&& r.b = r.b then some (k0,r.mo + ((k0.la:Nat):Int)) else none) = _
              by_cases c:k0.b &&& r.b = r.b
              · rw [if_pos c,if_pos ⟨c,fun x=>by cases x⟩]
              · rw [if_neg c,if_neg fun x=>c x.1]
          refine ⟨fun σ' H'=>H' = H3∧σ' = [some (.ref lt),some (.ref lr),some (.ref lb),some (.int ((p + priceM TK nm:Nat):Int)),some (.ref ph),some (.ref pr),some (nmV nm)]∧(nm = none→r.mo < u),?_,?_⟩
          · refine ⟨_,rfl,_,rfl,itF (by intro y; cases y) ?_⟩
            cases nm with
            | some z=>exact ⟨_,rfl,_,rfl,itF (by intro y; cases y) (itF (by decide) ⟨rfl,rfl,fun x=>by cases x⟩)⟩
            | none =>
              refine ⟨_,rfl,_,rfl,itT rfl ?_⟩
              refine ⟨_,rfl,pr,_,1,_,rfl,rfl,SqT.of (s3 _ _ (hpr)),rfl,_,rfl,ph,_,1,_,rfl,rfl,SqT.of hph,rfl,_,_,rfl,rfl,_,rfl,?_⟩
              by_cases cu:r.mo < u
              · exact itF (by rw [decide_eq_false (by omega)]; decide) ⟨rfl,rfl,fun _=>cu⟩
              · refine itT (decide_eq_true (by omega)) ?_
                rw [est,if_neg fun z=>cu (z.2 rfl)] at es
                have q2:=q H3 s3
                rw [es] at q2
                exact q2
          · rintro σ' H' ⟨rfl,rfl,cu⟩
            refine ⟨_,rfl,pr,_,0,_,rfl,rfl,SqT.of (s3 _ _ hpr),rfl,r.b,rfl,fun l4 H4 s4 _ h4=>?_⟩
            have S4:=s3.trans s4
            refine ⟨l4,rfl,⟨_,SqL.of h4⟩,comp_list (K:=K) (a:=l4) (xs:=natV (zonesOf r.b)) (fun i acc σ H'=>H' = H4∧(∃ v,σ = [v,some (.ref ph)])∧acc = natV (((zonesOf r.b).take i).filter fun z=>!(zonesOf k.b).contains z))
              ⟨rfl,⟨_,rfl⟩,rfl⟩ (by unfold natV; rw [List.length_map]; exact Nat.le_trans (zones_len r.b) (by decide)) (fun i acc σ H' _ ⟨e,_⟩=>by rw [e]; exact SqL.of h4) ?_ ?_⟩
            · rintro j x acc σ H5 hl hx ⟨rfl,⟨v,rfl⟩,rfl⟩
              unfold natV at hx
              rw [List.getElem?_map] at hx
              cases ez:(zonesOf r.b)[j]? with
              | none=>rw [ez] at hx; cases hx
              | some z =>
                rw [ez] at hx
                obtain rfl:V.int ((z:Nat):Int) = x:=Option.some.inj hx
                have tk:(zonesOf r.b).take (j + 1) = (zonesOf r.b).take j ++ [z]:=by rw [List.take_add_one,ez]; rfl
                refine ⟨_,rfl,_,rfl,ph,_,0,_,rfl,rfl,SqT.of (s4 _ _ hph),rfl,pt,_,3,_,rfl,rfl,SqT.of (s4 _ _ g1),rfl,lz,_,rfl,.inl (SqL.of (s4 _ _ g2)),rfl,flat_nat _,_,rfl,?_⟩
                rw [inV_nat]
                rw [tk,List.filter_append]
                by_cases c:(zonesOf k.b).contains z = true
                · refine itF (by rw [c]; decide) ?_
                  refine ⟨by omega,rfl,⟨_,rfl⟩,?_⟩
                  rw [List.filter_cons,List.filter_nil,c]
                  show _ = natV (_ ++ [])
                  rw [List.append_nil]
                · have c:=Bool.eq_false_iff.mpr c
                  refine itT (by rw [c]; decide) ?_
                  refine ⟨_,rfl,by rw [List.length_append,List.length_singleton]; omega,rfl,⟨_,rfl⟩,?_⟩
                  rw [List.filter_cons,List.filter_nil,c]
                  show _ = natV (_ ++ [z])
                  unfold natV
                  rw [List.map_append]
                  rfl
            · rintro acc σ H5 ha ⟨rfl,⟨v,rfl⟩,rfl⟩ p6 g6
              have e6:(natV (zonesOf r.b)).length = (zonesOf r.b).length:=List.length_map ..
              rw [e6,List.take_length]
              have s6:=same_new g6 (.lst (natV ((zonesOf r.b).filter fun z=>!(zonesOf k.b).contains z)))
              refine ⟨by show 0≤sizeLine; decide,fun p7 g7=>?_⟩
              have s7:=same_new g7 (.lst [])
              have S7:=(S4.trans s6).trans s7
              refine ⟨p6,p7,_,_,rfl,rfl,SqL.of (s7 _ _ upd_same),SqL.of upd_same,flat_nat _,rfl,_,rfl,?_⟩
              have mis:=missing k.b kb r.b rb
              by_cases c:k.b &&& r.b = r.b
              · refine itF (by rw [mis.mpr c]; decide) ?_
                rw [est,if_pos ⟨c,cu⟩] at es
                exact ⟨S7,some (k,u),.ref ph,p + priceM TK nm,_,_,rfl,⟨ph,.ref pt,rfl,s7 _ _ (s6 _ _ (s4 _ _ hph)),pt,lz,rfl,s7 _ _ (s6 _ _ (s4 _ _ g1)),s7 _ _ (s6 _ _ (s4 _ _ g2))⟩,ho3,es⟩
              · have nz:((zonesOf r.b).filter fun z=>!(zonesOf k.b).contains z)≠[]:=fun e=>c (mis.mp e)
                rw [est,if_neg fun z=>c z.1] at es
                have q2:=q _ S7
                rw [es] at q2
                cases ef:((zonesOf r.b).filter fun z=>!(zonesOf k.b).contains z) with
                | nil=>exact absurd ef nz
                | cons y ys=>exact itT rfl (by rw [ef] at q2; exact q2)
  · rintro i σ H1 hi ⟨s1,hd,vh,p,v5,v6,rfl,hh,ho,es⟩
    rw [spent_end hd p (by rw [List.length_map] at hi; rw [← hR.length]; exact hi)] at es
    have q2:=q H1 s1
    rw [es] at q2
    exact ⟨_,rfl,q2⟩
abbrev Wy:=Dy.Way (Option (Tk×Int)) (Option Str)
def keyH (x:Tk×Int):List Key:=[Sum.inr x.1.nm,Sum.inl x.2]
def keyW (v:Wy):List Key:=match v.h with
  | some x=>keyH x
  | none=>[]
def stepS (TK:List Tk) (h:Option (Tk×Int)) (r:Rd) (n:Option Str):Option (Option (Tk×Int)):=(stepM TK h r n).map some
def NSof (TK:List Tk):List (Option Str):=none :: TK.map fun k=>some k.nm
theorem NS_map (TK:List Tk):[V.non] ++ (TK.map fun k=>V.str k.nm) = (NSof TK).map nmV:=by
  unfold NSof
  rw [List.map_cons,List.map_map]
  rfl
theorem NS_len (TK:List Tk):(NSof TK).length = TK.length + 1:=by
  unfold NSof
  rw [List.length_cons,List.length_map]
theorem NS_find {TK:List Tk} {n:Option Str} {z:Str} (h:n∈NSof TK) (e:n = some z):∃ k,findT TK z = some k:=by
  subst e
  unfold NSof at h
  rcases List.mem_cons.mp h with h | h
  · cases h
  · obtain ⟨k,hk,e⟩:=List.mem_map.mp h
    cases e
    cases ef:findT TK k.nm with
    | some k'=>exact ⟨k',rfl⟩
    | none =>
      unfold findT at ef
      have:=List.find?_eq_none.mp ef k hk
      simp at this
theorem keyH_inj {TK:List Tk} {x y:Tk×Int} (hx:HeldOk TK (some x)) (hy:HeldOk TK (some y)) (e:keyH x = keyH y):x = y:=by
  obtain ⟨k,u⟩:=x
  obtain ⟨k',u'⟩:=y
  have hx:findT TK k.nm = some k:=hx
  have hy:findT TK k'.nm = some k':=hy
  have e:[Sum.inr k.nm,Sum.inl u] = ([Sum.inr k'.nm,Sum.inl u']:List Key):=e
  injection e with e1 e2
  injection e2 with e2 _
  have e1:=Sum.inr.inj e1
  have e2:=Sum.inl.inj e2
  rw [e1,hy] at hx
  rw [Option.some.inj hx,e2]
def WyAt (K:W.Frag) (TK:List Tk) (H0 H:Hp) (v:V) (x:Wy):Prop:=∃ p lb h,v = .ref p∧H p = some (.tup [.int (x.p:Nat),.ref lb,.ref h])∧H lb = some (.lst (x.B.map nmV))∧H0 lb = none∧SqT K H h (heldV x.h)∧(∀ z,x.h = some z→H h = some (.tup (heldV (some z))))∧HeldOk TK x.h
theorem WyAt.same {TK:List Tk} {H0 H H':Hp} {v:V} {x:Wy} (s:Same H H') (h:WyAt K TK H0 H v x):WyAt K TK H0 H' v x :=
  let ⟨p,lb,h,e,h1,h2,h3,h4,h5,h6⟩:=h; ⟨p,lb,h,e,s _ _ h1,s _ _ h2,h3,s.seqT h4,fun z e=>s _ _ (h5 z e),h6⟩
def KwAt (K:W.Frag) (TK:List Tk) (H0 H:Hp) (kv:List Key×V) (x:Wy):Prop:=(∃ z,x.h = some z∧kv.1 = keyH z)∧WyAt K TK H0 H kv.2 x
theorem KwAt.same {TK:List Tk} {H0 H H':Hp} {kv:List Key×V} {x:Wy} (s:Same H H') (h:KwAt K TK H0 H kv x):KwAt K TK H0 H' kv x:=⟨h.1,h.2.same s⟩
theorem KwAt.ok {TK:List Tk} {H0 H:Hp} {kv:List Key×V} {x:Wy} (h:KwAt K TK H0 H kv x):∃ z,x.h = some z∧kv.1 = keyH z∧HeldOk TK (some z):=by
  obtain ⟨⟨z,e,ek⟩,p,lb,h,_,_,_,_,_,_,ho⟩:=h
  rw [e] at ho
  exact ⟨z,e,ek,ho⟩
theorem KwAt.key {TK:List Tk} {H0 H:Hp} {kv:List Key×V} {x:Wy} (h:KwAt K TK H0 H kv x):kv.1 = keyW x:=by
  obtain ⟨⟨z,e,ek⟩,_⟩:=h
  unfold keyW
  rw [e]
  exact ek
theorem al_vals {R:List Key×V→Wy→Prop} {R':V→Wy→Prop} (hR:∀ kv x,R kv x→R' kv.2 x) {kvs:List (List Key×V)} {T:List Wy} (h:Al R kvs T):Al R' (kvs.map (·.2)) T:=by
  induction h with
  | nil=>exact .nil
  | cons a _ ih=>exact .cons (hR _ _ a) ih
theorem al_mem {R:List Key×V→Wy→Prop} {kvs:List (List Key×V)} {T:List Wy} (h:Al R kvs T) {x:Wy} (hx:x∈T):∃ kv,R kv x:=by
  induction h with
  | nil=>cases hx
  | cons a _ ih =>
    rcases List.mem_cons.mp hx with rfl | hx
    · exact ⟨_,a⟩
    · exact ih hx
theorem kw_val {TK:List Tk} {H0 H:Hp} {kvs:List (List Key×V)} {T:List Wy} {z:Tk×Int} (al:Al (KwAt K TK H0 H) kvs T) (hz:HeldOk TK (some z)) :
    (valV kvs (keyH z) = none→∀ x∈T,x.h≠some z)∧∀ v,valV kvs (keyH z) = some v→∃ x∈T,x.h = some z∧WyAt K TK H0 H v x:=by
  induction al with
  | nil=>exact ⟨fun _ x hx=>by (cases hx),fun v e=>by cases e⟩
  | @cons kv x kvs T a _ ih =>
    obtain ⟨y,ey,ek,oy⟩:=a.ok
    by_cases e:kv.1 = keyH z
    · have zy:z = y:=keyH_inj hz oy (e.symm.trans ek)
      rw [valV_pos e]
      refine ⟨fun n=>by (cases n),fun v n=>?_⟩
      cases n
      exact ⟨x,List.mem_cons_self ..,by rw [ey,zy],a.2⟩
    · rw [valV_neg e]
      refine ⟨fun n v hv=>?_,fun v n=>?_⟩
      · rcases List.mem_cons.mp hv with rfl | hv
        · intro z2
          rw [ey] at z2
          rw [Option.some.inj z2] at ek
          exact e ek
        · exact ih.1 n v hv
      · obtain ⟨x',h1,h2,h3⟩:=ih.2 v n
        exact ⟨x',List.mem_cons_of_mem _ h1,h2,h3⟩
theorem al_any {R:List Key×V→Wy→Prop} {kvs:List (List Key×V)} {T:List Wy} (al:Al R kvs T) (hk:∀ kv x,R kv x→kv.1 = keyW x) (k:List Key):(kvs.any fun kv=>decide (kv.1 = k)) = T.any fun x=>decide (keyW x = k):=by
  induction al with
  | nil=>rfl
  | cons a _ ih=>rw [List.any_cons,List.any_cons,ih,hk _ _ a]
theorem al_put {R:List Key×V→Wy→Prop} {kvs:List (List Key×V)} {T:List Wy} (al:Al R kvs T) (hk:∀ kv x,R kv x→kv.1 = keyW x) {k:List Key} {v:V} {x:Wy} (hn:R (k,v) x):Al R (putK kvs k v) (Dy.put (fun x=>decide (keyW x = k)) T x):=by
  unfold putK Dy.put
  rw [al_any al hk k]
  split
  · rename_i h
    clear h
    induction al with
    | nil=>exact .nil
    | @cons kv y kvs T a _ ih =>
      rw [List.map_cons,List.map_cons]
      refine .cons ?_ ih
      have e:=hk _ _ a
      by_cases c:kv.1 = k
      · rw [if_pos c,if_pos (decide_eq_true (e.symm.trans c)),c]
        exact hn
      · rw [if_neg c,if_neg (fun z=>c (e.trans (of_decide_eq_true z)))]
        exact a
  · exact al.snoc hn
def spWays (t:Adr) (K:W.Frag):Sp:=fun vs H Q _=>∃ (n lw:Addr) (TK:List Tk) (vw:List V) (W:List Wy) (vr:V) (r:Rd) (rs:List Rd) (H0:Hp),vs = [.ref n,.ref lw,vr]∧TNet t H n TK∧(∀ k∈TK,k.Ok)∧Same H0 H∧H lw = some (.lst vw)∧Al (WyAt K TK H0 H) vw W∧RdAt H vr r∧Dy.Ok (stepS TK) (priceM TK) none (NSof TK) rs W∧rs.length≤100∧TK.length≤8∧W.length * (TK.length + 1)≤100000 ∧
  ∀ l vs' T H',Same H H'→H' l = some (.lst vs')→Al (WyAt K TK H0 H') vs' T→Dy.Ok (stepS TK) (priceM TK) none (NSof TK) (rs ++ [r]) T→T.length≤W.length * (TK.length + 1)→Q (.ref l) H'
theorem ok_ways_behind (Tx:Tab K mg t):FnOk P w K mg base CX0 5 t.f_ways_behind t.d_ways_behind ["net","ways","ride"] (spWays t K):=by
  refine Tx.F_ways_behind.ok sc_ways_behind (fun vs H Q E h=>?_) (fun cdv A outer s H vs Q E hr h=>?_)
  · obtain ⟨n,lw,TK,vw,W,vr,r,rs,H0,rfl,_⟩:=h
    rfl
  obtain ⟨n,lw,TK,vw,W,vr,r,rs,H0,rfl,hN,hK,s0,hw,alW,hR,okW,lenR,lenT,lenW,q⟩:=h
  refine ⟨_,(pss_cons (ps_set (i:=3) sc_ways_behind.nd rfl (Or.inl rfl) pe_dnewT)
    (pss_cons (ps_for PassesOwn.never rfl (pi_list (pv 1)) (pg_tup rfl (pgs_cons (pg_name (i:=4) sc_ways_behind.nd rfl (Or.inl rfl)) (pgs_cons (pg_name (i:=5) sc_ways_behind.nd rfl (Or.inl rfl)) (pgs_cons (pg_name (i:=6) sc_ways_behind.nd rfl (Or.inl rfl)) pgs_nil))))
    (pss_one (ps_for PassesOwn.never rfl (pi_list (pe_op op_cat (pe_lst (pac pe_non pa_nil)) (pe_meth0 (pv 0) Tx.cl_Net Tx.me_Net_tickets (ok_Net_tickets Tx) (hr.mono (by omega)) Tx.b_Net_tickets .nil pass0))) (pg_name (i:=7) sc_ways_behind.nd rfl (Or.inl rfl))
    (pss_cons (ps_set (i:=8) sc_ways_behind.nd rfl (Or.inl rfl) (pe_call (ok_held_behind_t Tx) (hr.mono (by omega)) rfl Tx.m_held_behind Tx.F_held_behind.kp Tx.b_held_behind .nil pass0 (pac (pv 0) (pac (pv 6) (pac (pv 2) (pac (pv 7) pa_nil))))))
    (pss_join (ps_if (pt_cmp (pc_isN (pv 8)))
    (pss_one ps_continue)
    pss_nil)
    (pss_cons (ps_set (i:=9) sc_ways_behind.nd rfl (Or.inl rfl) (pe_tup (pac (pe_op op_add (pv 4) (pe_call (ok_price_for Tx) (hr.mono (by omega)) rfl Tx.m_price_for Tx.F_price_for.kp Tx.b_price_for .nil pass0 (pac (pv 0) (pac (pv 7) pa_nil)))) (pac (pe_op op_cat (pv 5) (pe_lst (pac (pv 7) pa_nil))) (pac (pv 8) pa_nil)))))
    (pss_one (ps_if (PW.pt (pw_or (pt_cmp (pc_dnotin (hu_of hr) (pv 8) (pv 3))) (pw_or1 (pt_cmpR op_lt (pe_ix ix_tup (pv 9) pe_int (fun _ _=>rfl)) (pe_ix ix_tup (pe_dget (hu_of hr) (pv 3) (pv 8) (fun _ _=>rfl)) pe_int (fun _ _=>rfl)) (nomark _)))))
    (pss_one (ps_dput (hu_of hr) (pv 3) (pv 8) (pv 9) rfl))
    pss_nil))))))))
    (pss_one (ps_ret (pe_callTy (call_list_values rfl) rfl Tx.z_list b_list (pac (pe_bm0 PySem.F.plainAttrs_dict PySem.F.slot_dict_values PySem.F.type_dict_values mt_dvalues (pv 3)) pa_nil)))))),?_⟩
  intro d hd
  have s1:=same_new hd (.dT [])
  refine ⟨_,rfl,lw,rfl,⟨_,SqL.of (s1 _ _ hw)⟩,for_list (xs:=vw) (fun i σ H'=>Same H H'∧∃ (kvs:List (List Key×V)) (T:List Wy) (v4 v5 v6 v7 v8 v9:Option V),σ = [some (.ref n),some (.ref lw),some vr,some (.ref d),v4,v5,v6,v7,v8,v9]∧H' d = some (.dT kvs)∧Al (KwAt K TK H0 (wo H' d)) kvs T∧Dy.Tb (stepS TK) (priceM TK) none (NSof TK) rs r (Dy.Done W (NSof TK) i 0) T∧Dy.Un T∧i≤W.length∧T.length≤i * (TK.length + 1))
    ⟨s1,[],[],_,_,_,_,_,_,rfl,upd_same,.nil,Dy.Tb.start,fun v hv=>by (cases hv),Nat.zero_le _,Nat.zero_le _⟩ (fun i σ H' _ ⟨s',_⟩=>SqL.of (s' _ _ hw)) ?_ ?_⟩
  · rintro i x σ H1 hx ⟨s2,kvs,T,v4,v5,v6,v7,v8,v9,rfl,hd1,alT,tb,un,li,lenT1⟩
    obtain ⟨w0,ew,hw0⟩:=alW.get hx
    have li2:i + 1≤W.length:=(List.getElem?_eq_some_iff.mp ew).1
    obtain ⟨p0,lb0,h0,rfl,g1,g2,g3,g4,g5,g6⟩:=hw0
    refine ⟨p0,_,rfl,SqT.of (s2 _ _ g1),rfl,_,_,rfl,_,_,rfl,_,_,rfl,rfl,?_⟩
    refine ⟨by show 1≤sizeLine; decide,fun p1 j1=>?_⟩
    have t1:=same_new j1 (.lst [.non])
    have hN1:=hN.same (s2.trans t1)
    have hN1':=hN1
    obtain ⟨dx,fs,dd,rows,e1,e2,e3,e4⟩:=hN1'
    refine ⟨_,rfl,n,dx,_,rfl,e1,e2.n2,n,TK,rfl,hN1,fun l2 H2 t2 hl2=>?_⟩
    refine ⟨p1,l2,_,_,rfl,rfl,t2 _ _ upd_same,hl2,(by rw [List.length_map]; exact Nat.le_trans (show 1 + TK.length≤9 by omega) (by decide)),fun p3 j3=>?_⟩
    have t3:=same_new j3 (.lst ([V.non] ++ TK.map fun k=>V.str k.nm))
    have U3:=(t1.trans t2).trans t3
    have n3:p3≠d:=(ne_of_none ((t1.trans t2) _ _ hd1) j3).symm
    refine ⟨p3,rfl,⟨_,SqL.of upd_same⟩,for_list (xs:=[V.non] ++ TK.map fun k=>V.str k.nm) (fun j σ H'=>Same H H'∧H' p3 = some (.lst ([V.non] ++ TK.map fun k=>V.str k.nm))∧∃ (kvs:List (List Key×V)) (T:List Wy) (v7 v8 v9:Option V),σ = [some (.ref n),some (.ref lw),some vr,some (.ref d),some (.int (w0.p:Nat)),some (.ref lb0),some (.ref h0),v7,v8,v9]∧H' d = some (.dT kvs)∧Al (KwAt K TK H0 (wo H' d)) kvs T∧Dy.Tb (stepS TK) (priceM TK) none (NSof TK) rs r (Dy.Done W (NSof TK) i j) T∧Dy.Un T∧j≤TK.length + 1∧T.length≤i * (TK.length + 1) + j)
      ⟨s2.trans U3,upd_same,kvs,T,_,_,_,rfl,U3 _ _ hd1,alT.imp fun _ _=>KwAt.same (wo_mono U3),tb,un,Nat.zero_le _,lenT1⟩ (fun i σ H' _ ⟨_,e,_⟩=>SqL.of e) ?_ ?_⟩
    · clear alT tb un lenT1 hd1
      rintro j y σ H3 hy ⟨s3,hp3,kvs,T,v7,v8,v9,rfl,hd3,alT,tb,un,lj,lenT3⟩
      rw [NS_map,List.getElem?_map] at hy
      cases en:(NSof TK)[j]? with
      | none=>rw [en] at hy; cases hy
      | some nm =>
      rw [en] at hy
      obtain rfl:nmV nm = y:=Option.some.inj hy
      have lj2:j + 1≤TK.length + 1:=by have:=(List.getElem?_eq_some_iff.mp en).1; rw [NS_len] at this; exact this
      have nmIn:=List.mem_of_getElem? en
      have fnd:∀ z,nm = some z→∃ k,findT TK z = some k:=fun z e=>NS_find nmIn e
      have hw3:=okW.snd w0 (List.mem_of_getElem? ew)
      have lw3:=Dy.run_len hw3
      have hwN:=okW.inN w0 (List.mem_of_getElem? ew)
      refine ⟨_,rfl,_,rfl,_,rfl,_,rfl,n,h0,TK,w0.h,vr,r,nm,rfl,hN.same s3,hK,s3.seqT g4,fun z e=>s3 _ _ (g5 z e),g6,hR.same s3,fun est H4 s4=>?_,fun z est h4 H4 s4 hh4=>?_⟩
      · refine ⟨fun _ _=>False,⟨_,rfl,_,rfl,itT rfl ?_⟩,fun _ _ f=>f.elim⟩
        exact ⟨s3.trans s4,s4 _ _ hp3,kvs,T,_,_,_,rfl,s4 _ _ hd3,alT.imp fun _ _=>KwAt.same (wo_mono s4),(tb.skip (show stepS TK w0.h r nm = none by unfold stepS; rw [est]; rfl)).mono fun _ _ d=>d.more ew en,un,lj2,by omega⟩
      · obtain ⟨zk,zu⟩:=z
        refine ⟨fun σ' H'=>H' = H4∧σ' = [some (.ref n),some (.ref lw),some vr,some (.ref d),some (.int (w0.p:Nat)),some (.ref lb0),some (.ref h0),some (nmV nm),some (.ref h4),v9],⟨_,rfl,_,rfl,itF (by intro y; cases y) ⟨rfl,rfl⟩⟩,?_⟩
        rintro σ' H5 ⟨rfl,rfl⟩
        have S5:=s3.trans s4
        refine ⟨_,rfl,_,rfl,_,rfl,n,TK,nm,rfl,hN.same S5,fnd,fun H6 s6=>?_⟩
        have S6:=S5.trans s6
        refine ⟨_,_,rfl,rfl,_,rfl,_,rfl,by show 1≤sizeLine; decide,fun p7 j7=>?_⟩
        have t7:=same_new j7 (.lst [nmV nm])
        refine ⟨lb0,p7,_,_,rfl,rfl,t7 _ _ (S6 _ _ g2),upd_same,(by rw [List.length_map]; exact Nat.le_trans (show w0.B.length + 1≤101 by omega) (by decide)),fun p8 j8=>?_⟩
        have t8:=same_new j8 (.lst (w0.B.map nmV ++ [nmV nm]))
        refine ⟨_,rfl,by show 3≤sizeLine; decide,fun p9 j9=>?_⟩
        have t9:=same_new j9 (.tup [.int (((w0.p:Nat):Int) + ((priceM TK nm:Nat):Int)),.ref p8,.ref h4])
        have U9:=((s6.trans t7).trans t8).trans t9
        have fr8:H0 p8 = none:=((s0.trans S6).trans t7).free j8
        have hp8:=t9 _ _ (@upd_same (upd H6 p7 (.lst [nmV nm])) p8 (.lst (w0.B.map nmV ++ [nmV nm])))
        have hp9:=@upd_same (upd (upd H6 p7 (.lst [nmV nm])) p8 (.lst (w0.B.map nmV ++ [nmV nm]))) p9 (.tup [.int (((w0.p:Nat):Int) + ((priceM TK nm:Nat):Int)),.ref p8,.ref h4])
        generalize upd (upd (upd H6 p7 (.lst [nmV nm])) p8 (.lst (w0.B.map nmV ++ [nmV nm]))) p9 (.tup [.int (((w0.p:Nat):Int) + ((priceM TK nm:Nat):Int)),.ref p8,.ref h4]) = H9 at U9 hp8 hp9 ⊢
        have U39:=s4.trans U9
        have S9:=s3.trans U39
        have hd9:=U39 _ _ hd3
        have hh9:=U9 _ _ hh4
        have n8:p8≠d:=fun z=>by rw [z,hd9] at hp8; cases hp8
        have n9:p9≠d:=fun z=>by rw [z,hd9] at hp9; cases hp9
        have n4:h4≠d:=fun z=>by rw [z,hd9] at hh9; cases hh9
        have hz:HeldOk TK (some (zk,zu)):=step_ok g6 est
        have hkey:H9 h4 = some (.tup ((keyH (zk,zu)).map kV)):=hh9
        have est':stepS TK w0.h r nm = some (some (zk,zu)):=by unfold stepS; rw [est]; rfl
        have al9:=alT.imp fun _ _=>KwAt.same (wo_mono (l:=d) U39)
        have wyN:WyAt K TK H0 (wo H9 d) (.ref p9) ⟨w0.p + priceM TK nm,w0.B ++ [nm],some (zk,zu)⟩:=by
          refine ⟨p9,p8,h4,rfl,wo_at hp9 n9,?_,fr8,SqT.of (wo_at hh9 n4),fun y e=>?_,hz⟩
          · show wo H9 d p8 = some (.lst ((w0.B ++ [nm]).map nmV))
            rw [List.map_append]
            exact wo_at hp8 n8
          · cases e
            exact wo_at hh9 n4
        have lk:kvs.length = T.length:=alT.length
        have bd:(i + 1) * (TK.length + 1)≤W.length * (TK.length + 1):=Nat.mul_le_mul_right _ li2
        rw [Nat.add_mul,Nat.one_mul] at bd
        have fin:(∀ v∈T,v.h = some (zk,zu)→w0.p + priceM TK nm≤v.p)→∃ T',Al (KwAt K TK H0 (wo H9 d)) (putK kvs (keyH (zk,zu)) (.ref p9)) T'∧Dy.Tb (stepS TK) (priceM TK) none (NSof TK) rs r (Dy.Done W (NSof TK) i (j + 1)) T'∧Dy.Un T'∧T'.length≤T.length + 1:=fun less=>by
          obtain ⟨a1,a2⟩:=tb.put (c:=fun x=>decide (keyW x = keyH (zk,zu))) un hw3 hwN nmIn est' (fun v hv=>by
            obtain ⟨kv,hkv⟩:=al_mem al9 hv
            obtain ⟨y,ey,_,oy⟩:=hkv.ok
            have ekw:keyW v = keyH y:=by unfold keyW; rw [ey]
            rw [ekw,ey]
            exact ⟨fun e=>by rw [keyH_inj oy hz (of_decide_eq_true e)],fun e=>by rw [Option.some.inj e]; exact decide_eq_true rfl⟩) less
          exact ⟨_,al_put al9 (fun _ _ h=>h.key) ⟨⟨_,rfl,rfl⟩,wyN⟩,a1.mono fun _ _ d=>d.more ew en,a2,Dy.put_len⟩
        obtain ⟨kn,ks⟩:=kw_val al9 hz
        have hp39:=U39 _ _ hp3
        have lsz:kvs.length < sizeLine:=Nat.lt_of_le_of_lt (show kvs.length≤100000 by omega) (by decide)
        cases ev:valV kvs (keyH (zk,zu)) with
        | none =>
          have dg:=DGet.t hd9 hkey
          rw [ev] at dg
          refine ⟨_,rfl,_,rfl,d,_,rfl,dg,_,rfl,itT rfl ?_⟩
          obtain ⟨T',a1,a2,a3,a4⟩:=fin fun v hv e=>absurd e (kn ev v hv)
          exact ⟨_,rfl,_,rfl,_,rfl,d,_,rfl,DPut.t hd9 hkey lsz,same_put S9 hd _,(by rw [upd_ne n3]; exact hp39),_,T',_,_,_,rfl,upd_same,(by rw [wo_upd]; exact a1),a2,a3,lj2,by omega⟩
        | some v =>
          have dg:=DGet.t hd9 hkey
          rw [ev] at dg
          obtain ⟨wv,hv1,hv2,pv,lv,hvh,rfl,f1,_⟩:=ks v ev
          refine ⟨_,rfl,_,rfl,d,_,rfl,dg,_,rfl,itF Bool.false_ne_true ?_⟩
          refine ⟨_,rfl,p9,_,0,_,rfl,rfl,SqT.of hp9,rfl,_,rfl,_,rfl,d,_,rfl,dg,pv,_,0,_,rfl,rfl,SqT.of (wo_same _ _ f1),rfl,_,_,rfl,rfl,_,rfl,?_⟩
          by_cases c:w0.p + priceM TK nm < wv.p
          · refine itT (decide_eq_true (by omega)) ?_
            obtain ⟨T',a1,a2,a3,a4⟩:=fin fun v hv e=>by rw [un v hv wv hv1 (e.trans hv2.symm)]; omega
            exact ⟨_,rfl,_,rfl,_,rfl,d,_,rfl,DPut.t hd9 hkey lsz,same_put S9 hd _,(by rw [upd_ne n3]; exact hp39),_,T',_,_,_,rfl,upd_same,(by rw [wo_upd]; exact a1),a2,a3,lj2,by omega⟩
          · refine itF (by rw [decide_eq_false (by omega)]; decide) ?_
            exact ⟨S9,hp39,kvs,T,_,_,_,rfl,hd9,al9,(tb.kept est' hv1 hv2 (by omega)).mono fun _ _ d=>d.more ew en,un,lj2,by omega⟩
    · clear alT tb un lenT1 hd1
      rintro σ H3 ⟨s3,hp3,kvs,T,v7,v8,v9,rfl,hd3,alT,tb,un,lj,lenT3⟩
      have el:([V.non] ++ TK.map fun k=>V.str k.nm).length = (NSof TK).length:=by rw [NS_map,List.length_map]
      rw [el] at tb lenT3
      rw [NS_len] at lenT3
      exact ⟨s3,kvs,T,_,_,_,_,_,_,rfl,hd3,alT,tb.mono fun _ _ d=>d.next,un,li2,by rw [Nat.add_mul,Nat.one_mul]; exact lenT3⟩
  · rintro σ H1 ⟨s2,kvs,T,v4,v5,v6,v7,v8,v9,rfl,hd1,alT,tb,un,li,lenT1⟩
    rw [alW.length] at tb lenT1
    refine ⟨_,rfl,.inr (.inr (.inl ⟨rfl,.inr ⟨kvs,hd1⟩⟩)),d,kvs,rfl,rfl,hd1,fun v hv=>?_⟩
    have t1:=same_new hv (viewO v d)
    refine ⟨v,d,kvs,rfl,upd_same,t1 _ _ hd1,fun l hl=>?_⟩
    have t2:=same_new hl (.lst (kvs.map (·.2)))
    exact q l _ T _ ((s2.trans t1).trans t2) upd_same (al_vals (fun _ _ h=>h.2) (alT.imp fun _ _=>KwAt.same ((wo_same.trans t1).trans t2))) (Dy.Tb.end okW tb fun _ hw _ hn=>Dy.Done.all hw hn) lenT1
theorem WyAt.wo {TK:List Tk} {H0 H:Hp} {v:V} {x:Wy} {lt:Addr} {ps:Array Value} (e:H lt = some (.tbl ps)) (h:WyAt K TK H0 H v x):WyAt K TK H0 (wo H lt) v x :=
  let ⟨p,lb,h,e0,h1,h2,h3,h4,h5,h6⟩:=h; ⟨p,lb,h,e0,wo_tab e h1 (fun _ z=>by cases z),wo_tab e h2 (fun _ z=>by cases z),h3,sqT_wo e h4,fun z ez=>wo_tab e (h5 z ez) (fun _ z=>by cases z),h6⟩
def lamPos:Pos:=(lamAt (defBody s_least_tickets) 3).2.2.2
def lamQ:Str:=(("least_tickets" : Str) ++ ".<locals>.") ++ "<lambda>"
def spLeast (t:Adr) (K:W.Frag):Sp:=fun vs H Q _=>∃ (n lr:Addr) (TK:List Tk) (vr:List V) (R:List Rd) (G:Hp),vs = [.ref n,.ref lr]∧Same G H∧G t.lt = none∧TNet t G n TK∧(∀ k∈TK,k.Ok)∧TK.length≤3∧G lr = some (.lst vr)∧Al (RdAt G) vr R∧R.length≤5∧TabLam t.lt lamPos lamQ H ∧
  ((∀ B p h,(∀ n∈B,n∈NSof TK)→Dy.run (stepS TK) (priceM TK) none 0 R B≠some (p,h))→∀ H',Same G H'→TabLam t.lt lamPos lamQ H'→Q .non H') ∧
  ∀ B p h,(∀ n∈B,n∈NSof TK)→Dy.run (stepS TK) (priceM TK) none 0 R B = some (p,h)→(∀ B' p' h',(∀ n∈B',n∈NSof TK)→Dy.run (stepS TK) (priceM TK) none 0 R B' = some (p',h')→p≤p')→∀ pt lb H',Same G H'→TabLam t.lt lamPos lamQ H'→H' pt = some (.tup [.int (p:Nat),.ref lb])→H' lb = some (.lst (B.map nmV))→G lb = none→Q (.ref pt) H'
theorem ok_least_tickets (Tx:Tab K mg t) (hC:W.CodeHd base t.lc t.lt) (hBM:BM mg base):FnOk P w K mg base CX0 7 t.f_least_tickets t.d_least_tickets ["net","rides"] (spLeast t K):=by
  refine Tx.F_least_tickets.okC sc_least_tickets (fun vs H Q E h=>?_) (fun cdv A outer s H vs Q E hcv hr h=>?_)
  · obtain ⟨n,lr,TK,vr,R,G,rfl,_⟩:=h
    rfl
  obtain ⟨n,lr,TK,vr,R,G,rfl,sG,gl,hN,hK,lenT,hlr,alR,lenR,hT,qn,qs⟩:=h
  refine ⟨_,(pss_cons (ps_set (i:=2) sc_least_tickets.nd rfl (Or.inl rfl) (pe_lst (pac (pe_tup (pac pe_int (pac (pe_lst pa_nil) (pac (pe_gref rfl Tx.m_NOTHING_HELD) pa_nil)))) pa_nil)))
    (pss_cons (ps_for PassesOwn.never rfl (pi_list (pv 1)) (pg_name (i:=3) sc_least_tickets.nd rfl (Or.inl rfl))
    (pss_one (ps_set (i:=2) sc_least_tickets.nd rfl (Or.inl rfl) (pe_call (ok_ways_behind Tx) (hr.mono (by omega)) rfl Tx.m_ways_behind Tx.F_ways_behind.kp Tx.b_ways_behind .nil pass0 (pac (pv 0) (pac (pv 2) (pac (pv 3) pa_nil)))))))
    (pss_cons (ps_if (pt_cmpR op_eq (pe_callB call_len_seq rfl Tx.z_len b_len (pac (pv 2) pa_nil)) pe_int (nomark _))
    (pss_one (ps_ret pe_non))
    pss_nil)
    (pss_cons (ps_set (i:=4) sc_least_tickets.nd rfl (Or.inl rfl) (pe_minkey (k:=0) (N:=["way"]) (x := "way") (qual:=(("least_tickets" : Str) ++ ".<locals>.") ++ "<lambda>") (params:=(lamAt (defBody s_least_tickets) 3).1) (body:=(lamAt (defBody s_least_tickets) 3).2.1) (scope:=(lamAt (defBody s_least_tickets) 3).2.2.1) rfl rfl Tx.z_min b_min (hr.mono (by omega)) ⟨rfl,rfl,rfl,by decide +kernel,rfl,by decide +kernel,by decide +kernel⟩ (fun _ _ _ _=>rfl) (fun _ _ _ _ _ _ _=>(pe_ix (show IxR _ (rIxT K) from ix_tup) (pv 0) pe_int (fun _ _=>rfl))) (pac (pv 2) pa_nil) (pk_cons (pe_lam (hcv.symm.trans Tx.lam_c) hC hBM rfl rfl) pk_nil)))
    (pss_one (ps_ret (pe_tup (pac (pe_ix ix_tup (pv 4) pe_int (fun _ _=>rfl)) (pac (pe_ix ix_tup (pv 4) pe_int (fun _ _=>rfl)) pa_nil))))))))),?_⟩
  refine ⟨by show 0≤sizeLine; decide,fun p1 j1=>⟨by show 3≤sizeLine; decide,fun p2 j2=>⟨by show 1≤sizeLine; decide,fun p3 j3=>?_⟩⟩⟩
  have t1:=same_new j1 (.lst [])
  have t2:=same_new j2 (.tup [.int 0,.ref p1,.ref t.g_NOTHING_HELD])
  have t3:=same_new j3 (.lst [.ref p2])
  have U3:=(t1.trans t2).trans t3
  have f1:G p1 = none:=sG.free j1
  have S3:=sG.trans U3
  refine ⟨_,rfl,lr,rfl,⟨_,SqL.of (S3 _ _ hlr)⟩,for_list (xs:=vr) (fun i σ H'=>Same G H'∧TabLam t.lt lamPos lamQ H'∧∃ (lw:Addr) (vw:List V) (W:List Wy) (v3 v4:Option V),σ = [some (.ref n),some (.ref lr),some (.ref lw),v3,v4]∧H' lw = some (.lst vw)∧Al (WyAt K TK G H') vw W∧Dy.Ok (stepS TK) (priceM TK) none (NSof TK) (R.take i) W∧W.length≤4 ^ i)
    ⟨S3,hT.same U3,p3,[.ref p2],[⟨0,[],none⟩],_,_,rfl,upd_same,.cons ⟨p2,p1,t.g_NOTHING_HELD,rfl,t3 _ _ upd_same,t3 _ _ (t2 _ _ upd_same),f1,Tx.o_NOTHING_HELD _,fun z e=>by (cases e),trivial⟩ .nil,Dy.Ok.nil _ _,Nat.le_refl _⟩ (fun i σ H' _ ⟨s',_⟩=>SqL.of (s' _ _ hlr)) ?_ ?_⟩
  · rintro i x σ H1 hx ⟨s1,hT1,lw,vw,W,v3,v4,rfl,hlw,alW,okW,lenW⟩
    obtain ⟨r,er,hr1⟩:=alR.get hx
    have hi:=(List.getElem?_eq_some_iff.mp er).1
    have tk:R.take (i + 1) = R.take i ++ [r]:=by rw [List.take_add_one,er]; rfl
    have b1:4 ^ i≤4 ^ 5:=Nat.pow_le_pow_right (by decide) (by omega)
    have b2:W.length * (TK.length + 1)≤4 ^ i * 4:=Nat.mul_le_mul lenW (by omega)
    have b3:(4:Nat) ^ 5 = 1024:=by decide
    refine ⟨_,rfl,_,rfl,_,rfl,n,lw,TK,vw,W,x,r,R.take i,G,rfl,hN.same s1,hK,s1,hlw,alW,hr1.same s1,okW,by rw [List.length_take]; omega,by omega,by omega,fun l vs' T H2 s2 hl2 al2 ok2 len2=>?_⟩
    exact ⟨s1.trans s2,hT1.same s2,l,vs',T,_,_,rfl,hl2,al2,by rw [tk]; exact ok2,by rw [Nat.pow_succ]; exact Nat.le_trans len2 b2⟩
  · rintro σ H1 ⟨s1,hT1,lw,vw,W,v3,v4,rfl,hlw,alW,okW,lenW⟩
    rw [alR.length,List.take_length] at okW
    cases vw with
    | nil =>
      refine ⟨_,rfl,lw,_,rfl,.inl (SqL.of hlw),rfl,_,rfl,itT rfl ?_⟩
      refine qn (fun B p h hB e=>?_) H1 s1 hT1
      obtain ⟨x,hx,_⟩:=okW.ful B p h hB e
      rw [alW.nil_iff.mp rfl] at hx
      cases hx
    | cons v0 vw =>
      refine ⟨_,rfl,lw,_,rfl,.inl (SqL.of hlw),rfl,_,rfl,itF (fun z=>by
        have z:=of_decide_eq_true z
        injection z with z
        rw [List.length_cons] at z
        omega) ?_⟩
      refine ⟨_,rfl,?_⟩
      dsimp only [tNil,tCons]
      refine tlam_of (q:=lamQ) (pos:=lamPos) hT1 fun f c' ctv H3 s3 hT3 hf hc'=>?_
      obtain ⟨ps,eT⟩:=hT1.at
      have gw:Same G (wo H1 t.lt):=same_wo s1 gl
      have S3:=gw.trans s3
      have al3:=alW.imp fun _ _ h=>(WyAt.wo eT h).same s3
      have hlw3:=s3 _ _ (wo_tab eT hlw fun _ z=>by cases z)
      refine ⟨lw,f,c',_,ctv,v0 :: vw,fun i=>((((W[i]?).map (·.p)).getD 0:Nat):Int),rfl,rfl,SqL.of hlw3,Nat.succ_pos _,hf,hc',fun i v ev=>?_,fun i v ev least=>?_⟩
      · obtain ⟨x,ex,p,lb,h,rfl,g1,_⟩:=al3.get ev
        refine ⟨_,rfl,p,_,0,_,rfl,rfl,SqT.of g1,rfl,?_,rfl⟩
        dsimp only
        rw [ex]
        rfl
      · obtain ⟨x,ex,p,lb,h,rfl,g1,g2,g3,_⟩:=al3.get ev
        have mx:=List.mem_of_getElem? ex
        refine ⟨_,rfl,p,_,0,_,rfl,rfl,SqT.of g1,rfl,_,rfl,p,_,1,_,rfl,rfl,SqT.of g1,rfl,by show 2≤sizeLine; decide,fun pt jt=>?_⟩
        have t4:=same_new jt (.tup [.int (x.p:Nat),.ref lb])
        refine qs x.B x.p x.h (okW.inN x mx) (okW.snd x mx) (fun B' p' h' hB' e'=>?_) pt lb _ (S3.trans t4) (hT3.same t4) upd_same (t4 _ _ g2) g3
        obtain ⟨y,hy,_,ly⟩:=okW.ful B' p' h' hB' e'
        obtain ⟨j,hj⟩:=List.getElem?_of_mem hy
        have lj:j < (v0 :: vw).length:=by rw [alW.length]; exact (List.getElem?_eq_some_iff.mp hj).1
        have:=(least j lj).1
        dsimp only at this
        rw [ex,hj] at this
        have this:((x.p:Nat):Int)≤((y.p:Nat):Int):=this
        omega
def spHas:Sp:=fun vs H Q _=>∃ (vk vr:V) (k:Tk) (r:Rd),vs = [vk,vr]∧TkAt H vk k∧RdAt H vr r∧k.b < 64∧r.b < 64∧∀ H',Same H H'→Q (.bl (decide (k.b &&& r.b = r.b))) H'
theorem ok_law_has (Tx:Tab K mg t):FnOk P w K mg base CX0 2 t.f_law_has t.d_law_has ["_law_ticket","_law_ride"] spHas:=by
  refine Tx.F_law_has.ok sc_law_has (fun vs H Q E h=>?_) (fun cdv A outer s H vs Q E hr h=>?_)
  · obtain ⟨vk,vr,k,r,rfl,_⟩:=h
    rfl
  obtain ⟨vk,vr,k,r,rfl,⟨pt,lz,rfl,g1,g2⟩,⟨pr,rfl,hpr⟩,kb,rb,q⟩:=h
  refine ⟨_,(pss_one (ps_ret (pe_cmpR (op_eq_lst hr.units0) (pe_comp (cl:=[(Str.ofString "_law_ticket",s.heap.objs.size + 1)]) (N:=["_law_zone","_law_ticket"]) (fr:=[none,some 0]) rfl (pi_list (pe_call (ok_law_zones Tx) (hr.mono (by omega)) rfl Tx.m_law_zones Tx.F_law_zones.kp Tx.b_law_zones .nil pass0 (pac (pe_ix ix_tup (pv 1) pe_int (fun _ _=>rfl)) pa_nil))) rfl (by decide +kernel) rfl (by decide +kernel) ⟨⟨rfl,Or.inl rfl,Or.inl rfl,_,rfl,rfl⟩,trivial⟩ ⟨rfl,trivial⟩ rfl (fun _ _ _ _ _=>(pg_name (i:=0) (show List.Nodup (["_law_zone","_law_ticket"]:List Str) by decide +kernel) rfl (Or.inl rfl))) (fun _ _ _ _ _=>(pts_one (pt_cmpR (show OpR _ (compareOp .NotIn) (rIn K true) from op_notIn_seq) (pv 0) (pe_ix (show IxR _ (rIxT K) from ix_tup) (pv 1) pe_int (fun _ _=>rfl)) rfl))) (fun _ _ _ _ _=>(pv 0))) (pe_lst pa_nil) (nomark _)))),?_⟩
  refine ⟨_,rfl,pr,_,0,_,rfl,rfl,SqT.of hpr,rfl,r.b,rfl,fun l4 H4 s4 _ h4=>?_⟩
  refine ⟨l4,rfl,⟨_,SqL.of h4⟩,comp_list (K:=K) (a:=l4) (xs:=natV (zonesOf r.b)) (fun i acc σ H'=>H' = H4∧(∃ v,σ = [v,some (.ref pt)])∧acc = natV (((zonesOf r.b).take i).filter fun z=>!(zonesOf k.b).contains z))
    ⟨rfl,⟨_,rfl⟩,rfl⟩ (by unfold natV; rw [List.length_map]; exact Nat.le_trans (zones_len r.b) (by decide)) (fun i acc σ H' _ ⟨e,_⟩=>by rw [e]; exact SqL.of h4) ?_ ?_⟩
  · rintro j x acc σ H5 hl hx ⟨rfl,⟨v,rfl⟩,rfl⟩
    unfold natV at hx
    rw [List.getElem?_map] at hx
    cases ez:(zonesOf r.b)[j]? with
    | none=>rw [ez] at hx; cases hx
    | some z =>
      rw [ez] at hx
      obtain rfl:V.int ((z:Nat):Int) = x:=Option.some.inj hx
      have tk:(zonesOf r.b).take (j + 1) = (zonesOf r.b).take j ++ [z]:=by rw [List.take_add_one,ez]; rfl
      refine ⟨_,rfl,_,rfl,pt,_,3,_,rfl,rfl,SqT.of (s4 _ _ g1),rfl,lz,_,rfl,.inl (SqL.of (s4 _ _ g2)),rfl,flat_nat _,_,rfl,?_⟩
      rw [inV_nat]
      rw [tk,List.filter_append]
      by_cases c:(zonesOf k.b).contains z = true
      · refine itF (by rw [c]; decide) ?_
        refine ⟨by omega,rfl,⟨_,rfl⟩,?_⟩
        rw [List.filter_cons,List.filter_nil,c]
        show _ = natV (_ ++ [])
        rw [List.append_nil]
      · have c:=Bool.eq_false_iff.mpr c
        refine itT (by rw [c]; decide) ?_
        refine ⟨_,rfl,by rw [List.length_append,List.length_singleton]; omega,rfl,⟨_,rfl⟩,?_⟩
        rw [List.filter_cons,List.filter_nil,c]
        show _ = natV (_ ++ [z])
        unfold natV
        rw [List.map_append]
        rfl
  · rintro acc σ H5 ha ⟨rfl,⟨v,rfl⟩,rfl⟩ p6 g6
    have e6:(natV (zonesOf r.b)).length = (zonesOf r.b).length:=List.length_map ..
    rw [e6,List.take_length]
    have s6:=same_new g6 (.lst (natV ((zonesOf r.b).filter fun z=>!(zonesOf k.b).contains z)))
    refine ⟨by show 0≤sizeLine; decide,fun p7 g7=>?_⟩
    have s7:=same_new g7 (.lst [])
    refine ⟨p6,p7,_,_,rfl,rfl,SqL.of (s7 _ _ upd_same),SqL.of upd_same,flat_nat _,rfl,?_⟩
    have mis:=missing k.b kb r.b rb
    have q2:=q _ ((s4.trans s6).trans s7)
    by_cases c:k.b &&& r.b = r.b
    · rw [decide_eq_true c] at q2
      rw [mis.mpr c] at q2 ⊢
      exact q2
    · rw [decide_eq_false c] at q2
      have nz:((zonesOf r.b).filter fun z=>!(zonesOf k.b).contains z)≠[]:=fun e=>c (mis.mp e)
      cases ef:((zonesOf r.b).filter fun z=>!(zonesOf k.b).contains z) with
      | nil=>exact absurd ef nz
      | cons y ys=>rw [ef] at q2; exact q2
def spPrice (K:W.Frag):Sp:=fun vs H Q _=>∃ v:V,vs = [v]∧((v = .non∧Q .non H)∨∃ pt p lb,v = .ref pt∧H pt = some (.tup [.int ((p:Nat):Int),.ref lb])∧Q (.int (p:Nat)) H)
theorem ok_law_price (Tx:Tab K mg t):FnOk P w K mg base CX0 1 t.f_law_price t.d_law_price ["_law_found"] (spPrice K):=by
  refine Tx.F_law_price.ok sc_law_price (fun vs H Q E h=>?_) (fun cdv A outer s H vs Q E hr h=>?_)
  · obtain ⟨v,rfl,_⟩:=h
    rfl
  obtain ⟨v,rfl,h⟩:=h
  refine ⟨_,(pss_one (ps_ret (pe_ifExp (pt_cmp (pc_isN (pv 0))) pe_non (pe_ix ix_tup (pv 0) pe_int (fun _ _=>rfl))))),?_⟩
  rcases h with ⟨rfl,q⟩ | ⟨pt,p,lb,rfl,hp,q⟩
  · exact ⟨_,rfl,_,rfl,itT rfl q⟩
  · exact ⟨_,rfl,_,rfl,itF (by intro y; cases y) ⟨_,rfl,pt,_,0,_,rfl,rfl,SqT.of hp,rfl,q⟩⟩
def noMore:Option Nat→Option Nat→Bool
  | _,none=>true
  | none,some _=>false
  | some a,some b=>decide (a≤b)
def spNoMore:Sp:=fun vs H Q _=>∃ a b:Option Nat,vs = [optV a,optV b]∧Q (.bl (noMore a b)) H
theorem ok_law_no_more (Tx:Tab K mg t):FnOk P w K mg base CX0 1 t.f_law_no_more t.d_law_no_more ["_law_found","_law_other"] spNoMore:=by
  refine Tx.F_law_no_more.ok sc_law_no_more (fun vs H Q E h=>?_) (fun cdv A outer s H vs Q E hr h=>?_)
  · obtain ⟨a,b,rfl,_⟩:=h
    rfl
  obtain ⟨a,b,rfl,q⟩:=h
  refine ⟨_,(pss_one (ps_ret (pe_or (pe_cmp (pc_isN (pv 1))) (pe_one (pe_and (pe_cmp (pc_notN (pv 0))) (pe_one (pe_cmpR op_le (pv 0) (pv 1) (nomark _)))))))),?_⟩
  cases b with
  | none=>exact ⟨_,rfl,_,rfl,itT rfl (by cases a <;> exact q)⟩
  | some b =>
    refine ⟨_,rfl,_,rfl,itF (by intro y; cases y) ?_⟩
    cases a with
    | none=>exact ⟨_,rfl,_,rfl,itF (by decide) q⟩
    | some a =>
      refine ⟨_,rfl,_,rfl,itT (by show (!decide (V.int ((a:Nat):Int) = V.non)) = true; simp) ⟨_,rfl,_,rfl,_,_,rfl,rfl,?_⟩⟩
      have e:decide (((a:Nat):Int)≤((b:Nat):Int)) = noMore (some a) (some b):=decide_eq_decide.mpr (by omega)
      rw [← e] at q
      exact q
def kk (a b:Nat):List Key:=[Sum.inl ((a:Nat):Int),Sum.inl ((b:Nat):Int)]
theorem kk_inj {a b a' b':Nat} (e:kk a b = kk a' b'):a = a'∧b = b':=by
  unfold kk at e
  injection e with e1 e2
  injection e2 with e2 _
  have e1:=Sum.inl.inj e1
  have e2:=Sum.inl.inj e2
  omega
def hkk (a b:Nat):Int:=reduceHash (Builtin.Tuple.tupleHashOf [hashInt ((a:Nat):Int),hashInt ((b:Nat):Int)])
theorem hkk_all:((List.range 4).all fun a=>(List.range 3).all fun b=>(List.range 4).all fun a'=>(List.range 3).all fun b'=>!decide (hkk a b = hkk a' b') || (decide (a = a') && decide (b = b'))) = true:=by decide +kernel
theorem hkk_inj {a b a' b':Nat} (ha:a < 4) (hb:b < 3) (ha':a' < 4) (hb':b' < 3) (e:hkk a b = hkk a' b'):a = a'∧b = b':=by
  have h:=List.all_eq_true.mp (List.all_eq_true.mp (List.all_eq_true.mp (List.all_eq_true.mp hkk_all a (List.mem_range.mpr ha)) b (List.mem_range.mpr hb)) a' (List.mem_range.mpr ha')) b' (List.mem_range.mpr hb')
  rw [decide_eq_true e] at h
  simpa using h
structure T2 (D:Nat→Nat→Prop) (n m:Nat) (f:Nat→Nat→Option Nat) (kvs:List (List Key×V)):Prop where
  val:∀ k j,D k j→valV kvs (kk k j) = some (optV (f k j))
  key:∀ x∈kvs.map (·.1),∃ a b,a < n∧b < m∧x = kk a b
theorem mem_putK {kvs:List (List Key×V)} {k x:List Key} {v:V} (h:x∈(putK kvs k v).map (·.1)):x = k∨x∈kvs.map (·.1):=by
  unfold putK at h
  split at h
  · rw [List.map_map] at h
    obtain ⟨p,hp,e⟩:=List.mem_map.mp h
    refine .inr (List.mem_map.mpr ⟨p,hp,?_⟩)
    rw [← e]
    show p.1 = (if p.1 = k then (p.1,v) else p).1
    split <;> rfl
  · rw [List.map_append] at h
    rcases List.mem_append.mp h with h | h
    · exact .inr h
    · exact .inl (List.mem_singleton.mp h)
theorem len_putK {kvs:List (List Key×V)} {k:List Key} {v u:V} (h:valV kvs k = some u):(putK kvs k v).length = kvs.length:=by
  unfold putK
  rw [valV_any,h,if_pos (show (some u).isSome = true from rfl),List.length_map]
theorem T2.put {D:Nat→Nat→Prop} {n m:Nat} {f:Nat→Nat→Option Nat} {kvs:List (List Key×V)} {k j:Nat} (o:Option Nat) (h:T2 D n m f kvs) (hk:k < n) (hj:j < m):T2 (fun a b=>D a b∨(a = k∧b = j)) n m (fun a b=>if a = k∧b = j then o else f a b) (putK kvs (kk k j) (optV o)):=by
  refine ⟨fun a b hd=>?_,fun x hx=>?_⟩
  · rw [valV_put]
    by_cases e:a = k∧b = j
    · rw [if_pos (by rw [e.1,e.2]),if_pos e]
    · rw [if_neg fun z=>e (kk_inj z),if_neg e]
      rcases hd with hd | hd
      · exact h.val a b hd
      · exact absurd hd e
  · rcases mem_putK hx with rfl | hx
    · exact ⟨k,j,hk,hj,rfl⟩
    · exact h.key x hx
theorem T2.mono {D D':Nat→Nat→Prop} {n m:Nat} {f f':Nat→Nat→Option Nat} {kvs:List (List Key×V)} (h:T2 D n m f kvs) (hd:∀ a b,D' a b→D a b∧f a b = f' a b):T2 D' n m f' kvs:=⟨fun a b d=>by rw [← (hd a b d).2]; exact h.val a b (hd a b d).1,h.key⟩
theorem T2.inj {D:Nat→Nat→Prop} {n m:Nat} {f:Nat→Nat→Option Nat} {kvs:List (List Key×V)} (h:T2 D n m f kvs) (hn:n≤4) (hm:m≤3) (P:Program) (w:World):∀ k∈kvs.map (·.1),∀ k'∈kvs.map (·.1),tupleKeyHash (mixKind P w) k = tupleKeyHash (mixKind P w) k'→k = k':=by
  intro k hk k' hk' e
  obtain ⟨a,b,ha,hb,rfl⟩:=h.key k hk
  obtain ⟨a',b',ha',hb',rfl⟩:=h.key k' hk'
  obtain ⟨e1,e2⟩:=hkk_inj (a:=a) (b:=b) (a':=a') (b':=b') (by omega) (by omega) (by omega) (by omega) e
  rw [e1,e2]
def cp (TK:List Tk):Dz.Par Str Tk Rd:=⟨findT TK,fun k r=>decide (k.b &&& r.b = r.b),fun k=>((k.la:Nat):Int),fun k=>k.pr,fun r=>r.mo⟩
theorem cp_step (TK:List Tk):stepS TK = Dz.stp (cp TK):=by
  funext h r n
  cases n with
  | some z =>
    show (buyM r (findT TK z)).map some = _
    cases ef:findT TK z with
    | none=>rw [Dz.stp_no (c:=cp TK) ef]; rfl
    | some k =>
      rw [Dz.stp_buy (c:=cp TK) ef]
      show (if k.b &&& r.b = r.b then some (k,r.mo + ((k.la:Nat):Int)) else none).map some = (if decide (k.b &&& r.b = r.b) = true then some (some (k,r.mo + ((k.la:Nat):Int))) else none)
      by_cases c:k.b &&& r.b = r.b
      · rw [if_pos c,if_pos (decide_eq_true c)]; rfl
      · rw [if_neg c,if_neg (fun z=>c (of_decide_eq_true z))]; rfl
  | none =>
    cases h with
    | none=>rfl
    | some ku =>
      obtain ⟨k,u⟩:=ku
      show (if k.b &&& r.b = r.b∧r.mo < u then some (k,u) else none).map some = (if decide (k.b &&& r.b = r.b) = true∧r.mo < u then some (some (k,u)) else none)
      by_cases c:k.b &&& r.b = r.b∧r.mo < u
      · rw [if_pos c,if_pos ⟨decide_eq_true c.1,c.2⟩]; rfl
      · rw [if_neg c,if_neg (fun z=>c ⟨of_decide_eq_true z.1,z.2⟩)]; rfl
theorem cp_price (TK:List Tk):priceM TK = Dz.prc (cp TK):=by
  funext n
  cases n with
  | none=>rfl
  | some z =>
    cases ef:findT TK z with
    | none =>
      have e1:priceM TK (some z) = 0:=by show (match findT TK z with | some k=>k.pr | none=>0) = 0; rw [ef]
      rw [e1,Dz.prc_no (c:=cp TK) ef]
    | some k =>
      have e1:priceM TK (some z) = k.pr:=by show (match findT TK z with | some k=>k.pr | none=>0) = k.pr; rw [ef]
      rw [e1,Dz.prc_buy (c:=cp TK) ef]
      rfl
theorem mn_int:∀ (xs:List Nat) (b:Option Nat),L2.mnL (b.map fun n=>((n:Nat):Int)) (xs.map fun n=>((n:Nat):Int)) = (match b,Dz.mnL xs with | none,o=>o | some x,none=>some x | some x,some y=>some (min x y)).map fun n=>((n:Nat):Int)
  | [],none=>rfl
  | [],some x=>rfl
  | y :: ys,none=>by
    show L2.mnL (some ((y:Nat):Int)) (ys.map fun n=>((n:Nat):Int)) = _
    have:=mn_int ys (some y)
    rw [show L2.mnL (some ((y:Nat):Int)) (ys.map fun n=>((n:Nat):Int)) = _ from this]
    rw [show Dz.mnL (y :: ys) = (match Dz.mnL ys with | none=>some y | some z=>some (min y z)) from rfl]
    cases Dz.mnL ys <;> rfl
  | y :: ys,some x=>by
    have e:L2.mnB (some ((x:Nat):Int)) ((y:Nat):Int) = ((min x y:Nat):Int):=by
      show (if ((y:Nat):Int) < ((x:Nat):Int) then ((y:Nat):Int) else ((x:Nat):Int)) = _
      split <;> omega
    show L2.mnL (some (L2.mnB (some ((x:Nat):Int)) ((y:Nat):Int))) (ys.map fun n=>((n:Nat):Int)) = _
    rw [e]
    have:=mn_int ys (some (min x y))
    rw [show L2.mnL (some ((min x y:Nat):Int)) (ys.map fun n=>((n:Nat):Int)) = _ from this]
    rw [show Dz.mnL (y :: ys) = (match Dz.mnL ys with | none=>some y | some z=>some (min y z)) from rfl]
    cases Dz.mnL ys with
    | none=>rfl
    | some z=>show some (((min (min x y) z:Nat):Int)) = some (((min x (min y z):Nat):Int)); congr 1; omega
theorem mn_opt (xs:List Nat):L2.mnV (L2.mnL none (xs.map fun n=>((n:Nat):Int))) .non = optV (Dz.mnL xs):=by
  have:=mn_int xs none
  rw [show L2.mnL none (xs.map fun n=>((n:Nat):Int)) = _ from this]
  cases Dz.mnL xs <;> rfl
theorem natV_ints (xs:List Nat):natV xs = (xs.map fun n=>((n:Nat):Int)).map V.int:=by
  unfold natV
  rw [List.map_map]
  rfl
def buysL (TK:List Tk) (r:Rd) (rs:List Rd) (T:List Tk):List Nat:=T.filterMap fun a=>if (cp TK).cov a r = true then (Dz.bst (cp TK) TK (some (a,(cp TK).mo r + (cp TK).la a)) rs).map ((cp TK).pr a + ·) else none
def keepL (TK:List Tk) (r:Rd) (rs:List Rd) (k:Tk) (u:Int):List Nat:=if (cp TK).cov k r = true∧(cp TK).mo r < u then (Dz.bst (cp TK) TK (some (k,u)) rs).toList else []
theorem bst_none (TK:List Tk) (r:Rd) (rs:List Rd):Dz.bst (cp TK) TK none (r :: rs) = Dz.mnL (buysL TK r rs TK):=by
  show Dz.mnL (buysL TK r rs TK ++ []) = _
  rw [List.append_nil]
theorem bst_some (TK:List Tk) (r:Rd) (rs:List Rd) (k:Tk) (u:Int):Dz.bst (cp TK) TK (some (k,u)) (r :: rs) = Dz.mnL (buysL TK r rs TK ++ keepL TK r rs k u):=rfl
theorem buysL_len (TK:List Tk) (r:Rd) (rs:List Rd) (T:List Tk):(buysL TK r rs T).length≤T.length:=List.length_filterMap_le ..
theorem buysL_snoc (TK:List Tk) (r:Rd) (rs:List Rd) (T:List Tk) (k:Tk):buysL TK r rs (T ++ [k]) = buysL TK r rs T ++ (if k.b &&& r.b = r.b then ((Dz.bst (cp TK) TK (some (k,r.mo + ((k.la:Nat):Int))) rs).map (k.pr + ·)).toList else []):=by
  unfold buysL
  rw [List.filterMap_append]
  congr 1
  rw [List.filterMap_cons,List.filterMap_nil]
  by_cases c:k.b &&& r.b = r.b
  · rw [if_pos c,if_pos (show (cp TK).cov k r = true from decide_eq_true c)]
    cases eb:Dz.bst (cp TK) TK (some (k,r.mo + ((k.la:Nat):Int))) rs with
    | none=>rw [show Dz.bst (cp TK) TK (some (k,(cp TK).mo r + (cp TK).la k)) rs = none from eb]; rfl
    | some m=>rw [show Dz.bst (cp TK) TK (some (k,(cp TK).mo r + (cp TK).la k)) rs = some m from eb]; rfl
  · rw [if_neg c,if_neg (show ¬ (cp TK).cov k r = true from fun z=>c (of_decide_eq_true z))]
def fAt (TK:List Tk) (R rs:List Rd) (k j:Nat):Option Nat:=match R[k]?,TK[j]? with
  | some r,some a=>Dz.bst (cp TK) TK (some (a,r.mo + ((a.la:Nat):Int))) rs
  | _,_=>none
theorem fAt_eq {TK:List Tk} {R rs:List Rd} {k j:Nat} {r:Rd} {a:Tk} (h1:R[k]? = some r) (h2:TK[j]? = some a):fAt TK R rs k j = Dz.bst (cp TK) TK (some (a,r.mo + ((a.la:Nat):Int))) rs:=by
  unfold fAt
  rw [h1,h2]
theorem ix_get {xs:List V} {i:Nat} {v:V} (h:xs[i]? = some v):atI xs ((i:Nat):Int) = some v:=atI_nat h
theorem if_and {c1:Bool} {T:VK→Prop} {Q:VK} {H:Hp} (c2:Bool) (hA:c1 = true→Q (.bl c2) H→T Q) (h:Q (.bl (c1 && c2)) H):if c1 = true then T Q else Q (.bl false) H:=by
  cases c1 with
  | true=>rw [if_pos rfl]; exact hA rfl h
  | false=>rw [if_neg Bool.false_ne_true]; exact h
def spLeastL (K:W.Frag):Sp:=fun vs H Q _=>∃ (lt lr:Addr) (vt:List V) (TK:List Tk) (vr:List V) (R:List Rd),vs = [.ref lt,.ref lr]∧H lt = some (.lst vt)∧Al (TkAt H) vt TK∧(∀ k∈TK,k.Ok)∧TK.length≤3∧H lr = some (.lst vr)∧Al (RdAt H) vr R∧(∀ r∈R,r.b < 64)∧R.length≤4 ∧
  ∀ H',Same H H'→Q (optV (Dz.bst (cp TK) TK none R)) H'
theorem ok_law_least (Tx:Tab K mg t):FnOk P w K mg base CX0 3 t.f_law_least t.d_law_least ["_law_tickets_here","_law_rides_here"] (spLeastL K):=by
  refine Tx.F_law_least.ok sc_law_least (fun vs H Q E h=>?_) (fun cdv A outer s H vs Q E hr h=>?_)
  · obtain ⟨lt,lr,vt,TK,vr,R,rfl,_⟩:=h
    rfl
  obtain ⟨lt,lr,vt,TK,vr,R,rfl,hlt,alT,okT,lenT,hlr,alR,okR,lenR,q⟩:=h
  refine ⟨_,(pss_cons (ps_set (i:=2) sc_law_least.nd rfl (Or.inl rfl) pe_dnewT)
    (pss_cons (ps_for PassesOwn.never rfl (pi_range1 rfl Tx.z_range (pac (pe_callB call_len_seq rfl Tx.z_len b_len (pac (pv 1) pa_nil)) pa_nil)) (pg_name (i:=3) sc_law_least.nd rfl (Or.inl rfl))
    (pss_one (ps_for PassesOwn.never rfl (pi_range1 rfl Tx.z_range (pac (pe_callB call_len_seq rfl Tx.z_len b_len (pac (pv 0) pa_nil)) pa_nil)) (pg_name (i:=4) sc_law_least.nd rfl (Or.inl rfl))
    (pss_one (ps_dput (hu_of hr) (pv 2) (pe_tup (pac (pv 3) (pac (pv 4) pa_nil))) pe_int rfl)))))
    (pss_cons (ps_set (i:=5) sc_law_least.nd rfl (Or.inl rfl) pe_int)
    (pss_cons (ps_for PassesOwn.never rfl (pi_rev rfl Tx.z_reversed (pac (pe_callTy call_range1 rfl Tx.z_range b_range (pac (pe_callB call_len_seq rfl Tx.z_len b_len (pac (pv 1) pa_nil)) pa_nil)) pa_nil)) (pg_name (i:=6) sc_law_least.nd rfl (Or.inl rfl))
    (pss_cons (ps_set (i:=7) sc_law_least.nd rfl (Or.inl rfl) (pe_lst pa_nil))
    (pss_cons (ps_for PassesOwn.never rfl (pi_enum rfl Tx.z_enumerate (pac (pv 0) pa_nil)) (pg_tup rfl (pgs_cons (pg_name (i:=4) sc_law_least.nd rfl (Or.inl rfl)) (pgs_cons (pg_name (i:=8) sc_law_least.nd rfl (Or.inl rfl)) pgs_nil)))
    (pss_one (ps_if (PW.pt (pw_and (pt_val (pe_call (ok_law_has Tx) (hr.mono (by omega)) rfl Tx.m_law_has Tx.F_law_has.kp Tx.b_law_has .nil pass0 (pac (pv 8) (pac (pe_ix ix_list (pv 1) (pv 6) (fun _ _=>rfl)) pa_nil)))) (pw_and1 (pt_cmp (pc_notN (pe_dget (hu_of hr) (pv 2) (pe_tup (pac (pv 6) (pac (pv 4) pa_nil))) (fun _ _=>rfl)))))))
    (pss_one (ps_expr (pe_bm PySem.F.plainAttrs_list PySem.F.slot_list_append PySem.F.type_list_append mt_append (pv 7) (pac (pe_op op_add (pe_ix ix_tup (pv 8) pe_int (fun _ _=>rfl)) (pe_dget (hu_of hr) (pv 2) (pe_tup (pac (pv 6) (pac (pv 4) pa_nil))) (fun _ _=>rfl))) pa_nil))))
    pss_nil)))
    (pss_cons (ps_set (i:=5) sc_law_least.nd rfl (Or.inl rfl) (pe_mind rfl rfl Tx.z_min b_min (pac (pv 7) pa_nil) (pk_cons pe_non pk_nil)))
    (pss_cons (ps_set (i:=9) sc_law_least.nd rfl (Or.inl rfl) (pe_callTy call_dict_dT rfl Tx.z_dict b_dict (pac (pv 2) pa_nil)))
    (pss_cons (ps_for PassesOwn.never rfl (pi_range1 rfl Tx.z_range (pac (pv 6) pa_nil)) (pg_name (i:=3) sc_law_least.nd rfl (Or.inl rfl))
    (pss_one (ps_for PassesOwn.never rfl (pi_enum rfl Tx.z_enumerate (pac (pv 0) pa_nil)) (pg_tup rfl (pgs_cons (pg_name (i:=4) sc_law_least.nd rfl (Or.inl rfl)) (pgs_cons (pg_name (i:=8) sc_law_least.nd rfl (Or.inl rfl)) pgs_nil)))
    (pss_cons (ps_set (i:=10) sc_law_least.nd rfl (Or.inl rfl) (pe_callTy call_list_of rfl Tx.z_list b_list (pac (pv 7) pa_nil)))
    (pss_cons (ps_set (i:=11) sc_law_least.nd rfl (Or.inl rfl) (pe_and (pe_call (ok_law_has Tx) (hr.mono (by omega)) rfl Tx.m_law_has Tx.F_law_has.kp Tx.b_law_has .nil pass0 (pac (pv 8) (pac (pe_ix ix_list (pv 1) (pv 6) (fun _ _=>rfl)) pa_nil))) (pe_one (pe_cmpR op_lt (pe_ix ix_tup (pe_ix ix_list (pv 1) (pv 6) (fun _ _=>rfl)) pe_int (fun _ _=>rfl)) (pe_op op_add (pe_ix ix_tup (pe_ix ix_list (pv 1) (pv 3) (fun _ _=>rfl)) pe_int (fun _ _=>rfl)) (pe_ix ix_tup (pv 8) pe_int (fun _ _=>rfl))) (nomark _)))))
    (pss_join (ps_if (PW.pt (pw_and (pt_val (pv 11)) (pw_and1 (pt_cmp (pc_notN (pe_dget (hu_of hr) (pv 2) (pe_tup (pac (pv 3) (pac (pv 4) pa_nil))) (fun _ _=>rfl)))))))
    (pss_one (ps_expr (pe_bm PySem.F.plainAttrs_list PySem.F.slot_list_append PySem.F.type_list_append mt_append (pv 10) (pac (pe_dget (hu_of hr) (pv 2) (pe_tup (pac (pv 3) (pac (pv 4) pa_nil))) (fun _ _=>rfl)) pa_nil))))
    pss_nil)
    (pss_one (ps_dput (hu_of hr) (pv 9) (pe_tup (pac (pv 3) (pac (pv 4) pa_nil))) (pe_mind rfl rfl Tx.z_min b_min (pac (pv 10) pa_nil) (pk_cons pe_non pk_nil)) rfl))))))))
    (pss_one (ps_set (i:=2) sc_law_least.nd rfl (Or.inl rfl) (pv 9)))))))))
    (pss_one (ps_ret (pv 5))))))),?_⟩
  have eR:=alR.length
  have eT:=alT.length
  intro d0 j0
  have s0:=same_new j0 (.dT [])
  refine ⟨_,rfl,lr,_,rfl,.inl (SqL.of (s0 _ _ hlr)),_,rfl,by omega,by omega,for_range (n:=vr.length) (fun i σ H'=>Same H H'∧∃ (kvs:List (List Key×V)) (v3 v4:Option V),σ = [some (.ref lt),some (.ref lr),some (.ref d0),v3,v4,none,none,none,none,none,none,none]∧H' d0 = some (.dT kvs)∧T2 (fun a b=>a < i∧b < TK.length) R.length TK.length (fun _ _=>some 0) kvs∧i≤R.length∧kvs.length≤i * 3)
    ⟨s0,[],_,_,rfl,upd_same,⟨fun a b h=>absurd h.1 (Nat.not_lt_zero _),fun x hx=>by (cases hx)⟩,Nat.zero_le _,Nat.zero_le _⟩ ?_ ?_⟩
  · rintro i σ H1 hi ⟨s1,kvs,v3,v4,rfl,hd1,T1,li,len1⟩
    refine ⟨_,rfl,lt,_,rfl,.inl (SqL.of (s1 _ _ hlt)),_,rfl,by omega,by omega,for_range (n:=vt.length) (fun j σ H'=>Same H H'∧∃ (kvs:List (List Key×V)) (v4:Option V),σ = [some (.ref lt),some (.ref lr),some (.ref d0),some (.int (0 + (i:Nat))),v4,none,none,none,none,none,none,none]∧H' d0 = some (.dT kvs)∧T2 (fun a b=>(a < i∧b < TK.length)∨(a = i∧b < j)) R.length TK.length (fun _ _=>some 0) kvs∧j≤TK.length∧kvs.length≤i * 3 + j)
      ⟨s1,kvs,_,rfl,hd1,T1.mono fun a b h=>⟨h.resolve_right (fun z=>absurd z.2 (Nat.not_lt_zero _)),rfl⟩,Nat.zero_le _,by omega⟩ ?_ ?_⟩
    · clear T1 hd1 len1
      rintro j σ H2 hj ⟨s2,kvs,v4,rfl,hd2,T2',lj,len2⟩
      refine ⟨_,rfl,_,rfl,_,rfl,by show 2≤sizeLine; decide,fun pk jk=>?_⟩
      have t3:=same_new jk (.tup [.int (0 + (i:Nat)),.int (0 + (j:Nat))])
      have hkey:(upd H2 pk (.tup [.int (0 + (i:Nat)),.int (0 + (j:Nat))])) pk = some (.tup ((kk i j).map kV)):=by
        rw [upd_same,Int.zero_add,Int.zero_add]
        rfl
      have tp:=T2'.put (k:=i) (j:=j) (some 0) (by omega) (by omega)
      refine ⟨d0,_,rfl,DPut.t (t3 _ _ hd2) hkey (Nat.lt_of_le_of_lt (show _≤100 by omega) (by decide)),?_⟩
      have lp:=length_putK kvs (kk i j) (.int 0)
      refine ⟨same_put (s2.trans t3) j0 _,_,_,rfl,upd_same,tp.mono fun a b h=>⟨?_,by split <;> rfl⟩,by omega,by omega⟩
      rcases h with h | ⟨h1,h2⟩
      · exact .inl (.inl h)
      · by_cases z:b = j
        · exact .inr ⟨h1,z⟩
        · exact .inl (.inr ⟨h1,by omega⟩)
    · clear T1 hd1 len1
      rintro σ H2 ⟨s2,kvs,v4,rfl,hd2,T2',lj,len2⟩
      refine ⟨s2,kvs,_,_,rfl,hd2,T2'.mono fun a b h=>⟨?_,rfl⟩,by omega,by omega⟩
      by_cases z:a = i
      · exact .inr ⟨z,by omega⟩
      · exact .inl ⟨by omega,h.2⟩
  · rintro σ H1 ⟨s1,kvs,v3,v4,rfl,hd1,T1,li,len1⟩
    refine ⟨_,rfl,lr,_,rfl,.inl (SqL.of (s1 _ _ hlr)),vr.length,rfl,by omega,fun pg jg=>?_⟩
    have tg:=same_new jg (.rng 0 ((vr.length:Nat):Int))
    refine ⟨pg,vr.length,rfl,upd_same,by omega,for_rev (n:=vr.length) (fun i σ H'=>Same H H'∧∃ (d:Addr) (kvs:List (List Key×V)) (f:Nat→Nat→Option Nat) (v3 v4 v6 v7 v8 v9 v10 v11:Option V),σ = [some (.ref lt),some (.ref lr),some (.ref d),v3,v4,some (optV (Dz.bst (cp TK) TK none (R.drop (R.length - i)))),v6,v7,v8,v9,v10,v11]∧H d = none∧H' d = some (.dT kvs)∧T2 (fun a b=>a < R.length∧b < TK.length) R.length TK.length f kvs∧(∀ a b,a < R.length - i→b < TK.length→f a b = fAt TK R (R.drop (R.length - i)) a b)∧kvs.length≤100)
      ⟨s1.trans tg,d0,kvs,fun _ _=>some 0,v3,v4,none,none,none,none,none,none,?_,j0,tg _ _ hd1,T1.mono fun a b h=>⟨⟨by omega,h.2⟩,rfl⟩,?_,by omega⟩ ?_ ?_⟩
    · rw [Nat.sub_zero,List.drop_length]
      rfl
    · intro a b ha hb
      rw [Nat.sub_zero,List.drop_length,fAt_eq (List.getElem?_eq_getElem (show a < R.length by omega)) (List.getElem?_eq_getElem hb)]
      rfl
    · clear T1 hd1 len1 tg jg
      rintro i σ H2 hi ⟨s2,d,kvs,f,v3,v4,v6,v7,v8,v9,v10,v11,rfl,fd,hd2,T2',hf,len2⟩
      generalize eat:vr.length - 1 - i = a0
      have ha0:a0 < R.length:=by omega
      have e0:R.length - i = a0 + 1:=by omega
      have e1:R.length - (i + 1) = a0:=by omega
      rw [e0] at hf
      rw [e1]
      obtain ⟨r,er⟩:∃ r,R[a0]? = some r:=⟨R[a0],List.getElem?_eq_getElem ha0⟩
      have eD:R.drop a0 = r :: R.drop (a0 + 1):=by
        obtain ⟨h1,h2⟩:=List.getElem?_eq_some_iff.mp er
        rw [List.drop_eq_getElem_cons h1,h2]
      obtain ⟨vv,ev,hv⟩:∃ v,vr[a0]? = some v∧RdAt H v r:=by
        have hlt:a0 < vr.length:=by omega
        obtain ⟨x,ex,hx⟩:=alR.get (List.getElem?_eq_getElem hlt)
        rw [er] at ex
        cases ex
        exact ⟨_,List.getElem?_eq_getElem hlt,hx⟩
      have rb:=okR r (List.mem_of_getElem? er)
      refine ⟨by show 0≤sizeLine; decide,fun lb jb=>?_⟩
      have tb:=same_new jb (.lst [])
      have nbd:d≠lb:=ne_of_none hd2 jb
      refine ⟨_,rfl,lt,rfl,⟨_,SqL.of (tb _ _ (s2 _ _ hlt))⟩,for_enum (xs:=vt) (fun j σ H'=>Same H H'∧∃ (v4 v8:Option V),σ = [some (.ref lt),some (.ref lr),some (.ref d),v3,v4,some (optV (Dz.bst (cp TK) TK none (R.drop (R.length - i)))),some (.int (a0:Nat)),some (.ref lb),v8,v9,v10,v11]∧H' d = some (.dT kvs)∧H' lb = some (.lst (natV (buysL TK r (R.drop (a0 + 1)) (TK.take j)))))
        ⟨s2.trans tb,_,_,rfl,tb _ _ hd2,upd_same⟩ (fun j σ H' _ ⟨s',_⟩=>SqL.of (s' _ _ hlt)) ?_ ?_⟩
      · rintro j x pp σ H3 hx hpp ⟨s3,w4,w8,rfl,hd3,hlb3⟩
        obtain ⟨k,ek,hk⟩:=alT.get hx
        have hj:=(List.getElem?_eq_some_iff.mp ek).1
        have kok:=okT k (List.mem_of_getElem? ek)
        have tp:=same_new hpp (.tup [.int (j:Nat),x])
        have s4:=s3.trans tp
        have hd4:=tp _ _ hd3
        have hlb4:=tp _ _ hlb3
        refine ⟨pp,_,rfl,SqT.of upd_same,rfl,_,_,rfl,_,_,rfl,rfl,?_⟩
        generalize upd H3 pp (.tup [.int (j:Nat),x]) = H4 at s4 hd4 hlb4 ⊢
        clear tp
        refine ⟨_,rfl,_,rfl,_,rfl,lr,_,_,_,rfl,rfl,SqL.of (s4 _ _ hlr),ix_get ev,x,vv,k,r,rfl,hk.same s4,hv.same s4,kok.b,rb,fun H5 s5=>?_⟩
        have s5':=s4.trans s5
        have hd5:=s5 _ _ hd4
        have hlb5:=s5 _ _ hlb4
        have tk:TK.take (j + 1) = TK.take j ++ [k]:=by rw [List.take_add_one,ek]; rfl
        have fv:f a0 j = Dz.bst (cp TK) TK (some (k,r.mo + ((k.la:Nat):Int))) (R.drop (a0 + 1)):=by rw [hf a0 j (by omega) hj,fAt_eq er ek]
        have hval:=T2'.val a0 j ⟨ha0,hj⟩
        refine ⟨_,rfl,?_⟩
        by_cases c:k.b &&& r.b = r.b
        · refine itT (decide_eq_true c) ?_
          refine ⟨_,rfl,_,rfl,_,rfl,by show 2≤sizeLine; decide,fun pk jk=>?_⟩
          have t6:=same_new jk (.tup [.int (a0:Nat),.int (j:Nat)])
          have hkey:(upd H5 pk (.tup [.int (a0:Nat),.int (j:Nat)])) pk = some (.tup ((kk a0 j).map kV)):=upd_same
          have dg:=DGet.t (t6 _ _ hd5) hkey
          rw [hval] at dg
          have s6:=s5'.trans t6
          have hd6:=t6 _ _ hd5
          have hlb6:=t6 _ _ hlb5
          refine ⟨d,_,rfl,dg,_,rfl,?_⟩
          generalize upd H5 pk (.tup [.int (a0:Nat),.int (j:Nat)]) = H6 at s6 hd6 hlb6 ⊢
          clear t6 dg
          cases ef:f a0 j with
          | none =>
            refine itF (by decide) ⟨s6,_,_,rfl,hd6,?_⟩
            rw [hlb6,tk,buysL_snoc,if_pos c,← fv,ef]
            show _ = some (HO.lst (natV (_ ++ [])))
            rw [List.append_nil]
          | some m =>
            refine itT (by show (!decide (V.int ((m:Nat):Int) = V.non)) = true; simp) ?_
            obtain ⟨pt,lz,rfl,g1,g2⟩:=hk
            refine ⟨_,rfl,.inl ⟨rfl,_,SqL.of hlb6⟩,_,rfl,pt,_,1,_,rfl,rfl,SqT.of (s6 _ _ g1),rfl,_,rfl,_,rfl,_,rfl,by show 2≤sizeLine; decide,fun pk2 jk2=>?_⟩
            have t7:=same_new jk2 (.tup [.int (a0:Nat),.int (j:Nat)])
            have dg2:=DGet.t (t7 _ _ hd6) (show (upd H6 pk2 (.tup [.int (a0:Nat),.int (j:Nat)])) pk2 = some (.tup ((kk a0 j).map kV)) from upd_same)
            rw [hval,ef] at dg2
            refine ⟨d,_,rfl,dg2,_,_,rfl,rfl,lb,_,_,rfl,rfl,t7 _ _ hlb6,Nat.lt_of_le_of_lt (show _≤3 by unfold natV; rw [List.length_map]; exact Nat.le_trans (buysL_len ..) (by rw [List.length_take]; omega)) (by decide),?_⟩
            have nlb:H lb = none:=s2.free jb
            refine ⟨same_put (s6.trans t7) nlb _,_,_,rfl,(by rw [upd_ne nbd]; exact t7 _ _ hd6),?_⟩
            rw [upd_same,tk,buysL_snoc,if_pos c,← fv,ef]
            show _ = some (HO.lst (natV (_ ++ [k.pr + m])))
            unfold natV
            rw [List.map_append]
            rfl
        · refine itF (by rw [decide_eq_false c]; decide) ⟨s5',_,_,rfl,hd5,?_⟩
          rw [hlb5,tk,buysL_snoc,if_neg c,List.append_nil]
      · rintro σ H3 ⟨s3,w4,w8,rfl,hd3,hlb3⟩
        rw [eT,List.take_length] at hlb3
        generalize hby:buysL TK r (R.drop (a0 + 1)) TK = by_ at hlb3
        have lby:by_.length≤3:=by rw [← hby]; exact Nat.le_trans (buysL_len ..) lenT
        refine ⟨_,rfl,lb,_,.non,rfl,rfl,SqL.of (by rw [hlb3,natV_ints]),?_⟩
        rw [mn_opt]
        refine ⟨_,rfl,d,kvs,rfl,hd3,T2'.inj lenR lenT _ _,fun d2 j2=>?_⟩
        have t4:=same_new j2 (.dT kvs)
        have n2:H d2 = none:=s3.free j2
        have nbd2:lb≠d2:=ne_of_none hlb3 j2
        have ndd2:d≠d2:=ne_of_none hd3 j2
        have en:Dz.bst (cp TK) TK none (R.drop a0) = Dz.mnL by_:=by rw [eD,bst_none,hby]
        refine ⟨_,rfl,_,rfl,by omega,by omega,for_range (n:=a0) (fun k σ H'=>Same H H'∧H' d = some (.dT kvs)∧H' lb = some (.lst (natV by_))∧∃ (kv2:List (List Key×V)) (f2:Nat→Nat→Option Nat) (v3 v4 v8 v10 v11:Option V),σ = [some (.ref lt),some (.ref lr),some (.ref d),v3,v4,some (optV (Dz.mnL by_)),some (.int (a0:Nat)),some (.ref lb),v8,some (.ref d2),v10,v11]∧H' d2 = some (.dT kv2)∧T2 (fun a b=>a < R.length∧b < TK.length) R.length TK.length f2 kv2∧(∀ a b,a < k→b < TK.length→f2 a b = fAt TK R (R.drop a0) a b)∧kv2.length≤100)
          ⟨s3.trans t4,t4 _ _ hd3,t4 _ _ hlb3,kvs,f,_,_,_,_,_,rfl,upd_same,T2',fun a b ha=>absurd ha (Nat.not_lt_zero _),len2⟩ ?_ ?_⟩
        · clear t4
          rintro k σ H4 hk ⟨s4,hd4,hlb4,kv2,f2,w3,w4,w8,w10,w11,rfl,hd24,T24,hf2,len4⟩
          obtain ⟨rk,erk⟩:∃ r,R[k]? = some r:=⟨R[k]'(by omega),List.getElem?_eq_getElem (by omega)⟩
          obtain ⟨vk,evk,hvk⟩:∃ v,vr[k]? = some v∧RdAt H v rk:=by
            have hlt:k < vr.length:=by omega
            obtain ⟨x,ex,hx⟩:=alR.get (List.getElem?_eq_getElem hlt)
            rw [erk] at ex
            cases ex
            exact ⟨_,List.getElem?_eq_getElem hlt,hx⟩
          refine ⟨_,rfl,lt,rfl,⟨_,SqL.of (s4 _ _ hlt)⟩,for_enum (xs:=vt) (fun j σ H'=>Same H H'∧H' d = some (.dT kvs)∧H' lb = some (.lst (natV by_))∧∃ (kv2:List (List Key×V)) (f2:Nat→Nat→Option Nat) (v4 v8 v10 v11:Option V),σ = [some (.ref lt),some (.ref lr),some (.ref d),some (.int (0 + (k:Nat))),v4,some (optV (Dz.mnL by_)),some (.int (a0:Nat)),some (.ref lb),v8,some (.ref d2),v10,v11]∧H' d2 = some (.dT kv2)∧T2 (fun a b=>a < R.length∧b < TK.length) R.length TK.length f2 kv2∧(∀ a b,(a < k∧b < TK.length)∨(a = k∧b < j)→f2 a b = fAt TK R (R.drop a0) a b)∧kv2.length≤100)
            ⟨s4,hd4,hlb4,kv2,f2,_,_,_,_,rfl,hd24,T24,fun a b h=>hf2 a b (h.resolve_right fun z=>absurd z.2 (Nat.not_lt_zero _)).1 (h.resolve_right fun z=>absurd z.2 (Nat.not_lt_zero _)).2,len4⟩ (fun j σ H' _ ⟨s',_⟩=>SqL.of (s' _ _ hlt)) ?_ ?_⟩
          · clear hd24 T24 hf2 len4 hd4 hlb4
            rintro j x pp σ H5 hx hpp ⟨s5,hd5,hlb5,kv2,f2,w4,w8,w10,w11,rfl,hd25,T25,hf2,len5⟩
            obtain ⟨tk,ek,hkk⟩:=alT.get hx
            have hj:=(List.getElem?_eq_some_iff.mp ek).1
            have kok:=okT tk (List.mem_of_getElem? ek)
            have tp:=same_new hpp (.tup [.int (j:Nat),x])
            have s6:=s5.trans tp
            have hd6:=tp _ _ hd5
            have hlb6:=tp _ _ hlb5
            have hd26:=tp _ _ hd25
            refine ⟨pp,_,rfl,SqT.of upd_same,rfl,_,_,rfl,_,_,rfl,rfl,?_⟩
            generalize upd H5 pp (.tup [.int (j:Nat),x]) = H6 at s6 hd6 hlb6 hd26 ⊢
            clear tp hpp
            refine ⟨_,rfl,lb,_,rfl,.inl (SqL.of hlb6),fun ls js=>?_⟩
            have t7:=same_new js (.lst (natV by_))
            have hls:=@upd_same H6 ls (.lst (natV by_))
            have s7:=s6.trans t7
            generalize upd H6 ls (.lst (natV by_)) = H7 at t7 hls s7 ⊢
            obtain ⟨pt,lz,rfl,g1,g2⟩:=hkk
            obtain ⟨pr,rfl,hpr⟩:=hv
            obtain ⟨prk,rfl,hprk⟩:=hvk
            have hTk:TkAt H7 (.ref pt) tk:=⟨pt,lz,rfl,s7 _ _ g1,s7 _ _ g2⟩
            have hRd:RdAt H7 (.ref pr) r:=⟨pr,rfl,s7 _ _ hpr⟩
            refine ⟨_,rfl,_,rfl,_,rfl,lr,_,_,_,rfl,rfl,SqL.of (s7 _ _ hlr),ix_get ev,.ref pt,.ref pr,tk,r,rfl,hTk,hRd,kok.b,rb,fun H8 t8=>?_⟩
            have s8:=s7.trans t8
            have T68:=t7.trans t8
            have hls8:=t8 _ _ hls
            have nls:H6 ls = none:=js
            have hval:=T2'.val k j ⟨by omega,hj⟩
            have fv:f k j = Dz.bst (cp TK) TK (some (tk,rk.mo + ((tk.la:Nat):Int))) (R.drop (a0 + 1)):=by rw [hf k j (by omega) hj,fAt_eq erk ek]
            have e9:keepL TK r (R.drop (a0 + 1)) tk (rk.mo + ((tk.la:Nat):Int)) = if tk.b &&& r.b = r.b∧r.mo < rk.mo + ((tk.la:Nat):Int) then (f k j).toList else []:=by
              rw [fv]
              unfold keepL
              by_cases c:tk.b &&& r.b = r.b∧r.mo < rk.mo + ((tk.la:Nat):Int)
              · rw [if_pos c,if_pos (show (cp TK).cov tk r = true∧(cp TK).mo r < _ from ⟨decide_eq_true c.1,c.2⟩)]
              · rw [if_neg c,if_neg (show ¬ ((cp TK).cov tk r = true∧(cp TK).mo r < _) from fun z=>c ⟨of_decide_eq_true z.1,z.2⟩)]
            refine ⟨_,rfl,if_and (decide (r.mo < rk.mo + ((tk.la:Nat):Int))) (fun _ hq=>?_) ?_⟩
            · exact ⟨_,rfl,_,rfl,lr,_,_,_,rfl,rfl,SqL.of (s8 _ _ hlr),ix_get ev,pr,_,1,_,rfl,rfl,SqT.of (s8 _ _ hpr),rfl,_,rfl,_,rfl,lr,_,_,_,rfl,rfl,SqL.of (s8 _ _ hlr),(by rw [Int.zero_add]; exact ix_get evk),prk,_,1,_,rfl,rfl,SqT.of (s8 _ _ hprk),rfl,_,rfl,pt,_,2,_,rfl,rfl,SqT.of (s8 _ _ g1),rfl,_,_,rfl,rfl,_,_,rfl,rfl,hq⟩
            refine ⟨fun σ H'=>Same H6 H'∧(∃ v11,σ = [some (.ref lt),some (.ref lr),some (.ref d),some (.int (0 + (k:Nat))),some (.int (j:Nat)),some (optV (Dz.mnL by_)),some (.int (a0:Nat)),some (.ref lb),some (.ref pt),some (.ref d2),some (.ref ls),v11])∧H' ls = some (.lst (natV (by_ ++ keepL TK r (R.drop (a0 + 1)) tk (rk.mo + ((tk.la:Nat):Int))))),?_,?_⟩
            · refine ⟨_,rfl,_,rfl,?_⟩
              by_cases c:tk.b &&& r.b = r.b∧r.mo < rk.mo + ((tk.la:Nat):Int)
              · refine itT (by rw [decide_eq_true c.1,decide_eq_true c.2]; rfl) ?_
                refine ⟨_,rfl,_,rfl,_,rfl,by show 2≤sizeLine; decide,fun pk jk=>?_⟩
                have t9:=same_new jk (.tup [.int (0 + (k:Nat)),.int (j:Nat)])
                have dg:=DGet.t (t9 _ _ (T68 _ _ hd6)) (show (upd H8 pk (.tup [.int (0 + (k:Nat)),.int (j:Nat)])) pk = some (.tup ((kk k j).map kV)) by rw [upd_same,Int.zero_add]; rfl)
                rw [hval] at dg
                refine ⟨d,_,rfl,dg,_,rfl,?_⟩
                have hls9:=t9 _ _ hls8
                have T69:=T68.trans t9
                generalize upd H8 pk (.tup [.int (0 + (k:Nat)),.int (j:Nat)]) = H9 at hls9 T69 ⊢
                clear t9 dg
                cases ef:f k j with
                | none =>
                  refine itF (by decide) ⟨T69,⟨_,rfl⟩,?_⟩
                  rw [hls9,e9,if_pos c,ef]
                  show _ = some (HO.lst (natV (_ ++ [])))
                  rw [List.append_nil]
                | some m =>
                  refine itT (by show (!decide (V.int ((m:Nat):Int) = V.non)) = true; simp) ?_
                  refine ⟨_,rfl,.inl ⟨rfl,_,SqL.of hls9⟩,_,rfl,_,rfl,_,rfl,by show 2≤sizeLine; decide,fun pk2 jk2=>?_⟩
                  have t10:=same_new jk2 (.tup [.int (0 + (k:Nat)),.int (j:Nat)])
                  have dg2:=DGet.t (t10 _ _ (T69 _ _ hd6)) (show (upd H9 pk2 (.tup [.int (0 + (k:Nat)),.int (j:Nat)])) pk2 = some (.tup ((kk k j).map kV)) by rw [upd_same,Int.zero_add]; rfl)
                  rw [hval,ef] at dg2
                  refine ⟨d,_,rfl,dg2,ls,_,_,rfl,rfl,t10 _ _ hls9,Nat.lt_of_le_of_lt (show _≤3 by unfold natV; rw [List.length_map]; exact lby) (by decide),?_⟩
                  refine ⟨same_put (T69.trans t10) nls _,⟨_,rfl⟩,?_⟩
                  rw [upd_same,e9,if_pos c,ef]
                  show _ = some (HO.lst (natV (_ ++ [m])))
                  unfold natV
                  rw [List.map_append]
                  rfl
              · refine itF (fun z=>c ?_) ⟨T68,⟨_,rfl⟩,?_⟩
                · have z:=Bool.and_eq_true_iff.mp z
                  exact ⟨of_decide_eq_true z.1,of_decide_eq_true z.2⟩
                · rw [hls8,e9,if_neg c,List.append_nil]
            · rintro σ H9 ⟨s9,⟨v11,rfl⟩,hls9⟩
              refine ⟨_,rfl,ls,_,.non,rfl,rfl,SqL.of (by rw [hls9,natV_ints]),?_⟩
              rw [mn_opt]
              refine ⟨_,rfl,_,rfl,_,rfl,by show 2≤sizeLine; decide,fun pk jk=>?_⟩
              have t10:=same_new jk (.tup [.int (0 + (k:Nat)),.int (j:Nat)])
              have hkey:(upd H9 pk (.tup [.int (0 + (k:Nat)),.int (j:Nat)])) pk = some (.tup ((kk k j).map kV)):=by
                rw [upd_same,Int.zero_add]
                rfl
              have T610:=s9.trans t10
              have hd210:=T610 _ _ hd26
              have old:=T25.val k j ⟨by omega,hj⟩
              have tp:=T25.put (k:=k) (j:=j) (Dz.mnL (by_ ++ keepL TK r (R.drop (a0 + 1)) tk (rk.mo + ((tk.la:Nat):Int)))) (by omega) hj
              refine ⟨d2,_,rfl,DPut.t hd210 hkey (Nat.lt_of_le_of_lt len5 (by decide)),?_⟩
              refine ⟨same_put (s6.trans T610) n2 _,(by rw [upd_ne ndd2]; exact T610 _ _ hd6),(by rw [upd_ne nbd2]; exact T610 _ _ hlb6),_,_,_,_,_,_,rfl,upd_same,tp.mono fun a b h=>⟨.inl h,rfl⟩,?_,by rw [len_putK old]; exact len5⟩
              intro a b h
              by_cases z:a = k∧b = j
              · rw [if_pos z,z.1,z.2,fAt_eq erk ek,eD,bst_some,hby]
              · rw [if_neg z]
                refine hf2 a b ?_
                rcases h with h | ⟨h1,h2⟩
                · exact .inl h
                · exact .inr ⟨h1,by omega⟩
          · clear hd24 T24 hf2 len4 hd4 hlb4
            rintro σ H5 ⟨s5,hd5,hlb5,kv2,f2,w4,w8,w10,w11,rfl,hd25,T25,hf2,len5⟩
            refine ⟨s5,hd5,hlb5,kv2,f2,_,_,_,_,_,rfl,hd25,T25,fun a b ha hb=>hf2 a b ?_,len5⟩
            by_cases z:a = k
            · exact .inr ⟨z,by omega⟩
            · exact .inl ⟨by omega,hb⟩
        · rintro σ H4 ⟨s4,hd4,hlb4,kv2,f2,w3,w4,w8,w10,w11,rfl,hd24,T24,hf2,len4⟩
          refine ⟨_,rfl,s4,d2,kv2,f2,w3,w4,some (.int (a0:Nat)),some (.ref lb),w8,some (.ref d2),w10,w11,?_,n2,hd24,T24,hf2,len4⟩
          rw [en]
          rfl
    · rintro σ H2 ⟨s2,d,kvs,f,v3,v4,v6,v7,v8,v9,v10,v11,rfl,fd,hd2,T2',hf,len2⟩
      refine ⟨_,rfl,?_⟩
      have q2:=q H2 s2
      rw [eR,Nat.sub_self,List.drop_zero]
      exact q2
def cellF (ns:List Int) (k:Int):Int:=(ns[(k % (ns.length:Nat)).toNat]?).getD 0
def mixF (v:Int):Nat:=(v * v % 1000000007 * v % 998244353 / 11).toNat
def drawF (ns:List Int) (k:Int):Nat:=mixF (cellF ns k % 1000000007 + 7919 * k + 13)
def spDrawD (K:W.Frag):Sp:=fun vs H Q _=>∃ (a:Addr) (ns:List Int) (k:Int),vs = [.ref a,.int k]∧SqL K H a (ns.map V.int)∧0≤k∧k≤100000∧∀ H',Same H H'→Q (.int (drawF ns k:Nat)) H'
theorem ok_law_draw_d (Tx:Tab K mg t):FnOk P w K mg base CX0 1 t.f_law_draw t.d_law_draw ["_law_script","_law_k"] (spDrawD K):=by
  refine Tx.F_law_draw.ok sc_law_draw (fun vs H Q E h=>?_) (fun cdv A outer s H vs Q E hr h=>?_)
  · obtain ⟨a,ns,k,rfl,_⟩:=h
    rfl
  obtain ⟨a,ns,k,rfl,hS,k0,k1,q⟩:=h
  refine ⟨_,(pss_cons (ps_set (i:=2) sc_law_draw.nd rfl (Or.inl rfl) pe_int)
    (pss_join (ps_if (pt_cmpR (op_ne_lst hr.units0) (pv 0) (pe_lst pa_nil) (nomark _))
    (pss_one (ps_set (i:=2) sc_law_draw.nd rfl (Or.inl rfl) (pe_ix ix_list (pv 0) (pe_op op_mod (pv 1) (pe_callB call_len_seq rfl Tx.z_len b_len (pac (pv 0) pa_nil))) (fun _ _=>rfl))))
    pss_nil)
    (pss_cons (ps_set (i:=3) sc_law_draw.nd rfl (Or.inl rfl) (pe_op op_add (pe_op op_add (pe_op op_mod (pv 2) pe_int) (pe_op op_mul pe_int (pv 1))) pe_int))
    (pss_one (ps_ret (pe_op op_fdiv (pe_op op_mod (pe_op op_mul (pe_op op_mod (pe_op op_mul (pv 3) (pv 3)) pe_int) (pv 3)) pe_int) pe_int)))))),?_⟩
  refine ⟨fun σ H'=>Same H H'∧σ = [some (.ref a),some (.int k),some (.int (cellF ns k)),none],?_,?_⟩
  · refine ⟨_,rfl,(by show 0≤sizeLine; decide),fun p hp=>?_⟩
    have sm:=same_new hp (.lst [])
    refine ⟨a,p,_,_,rfl,rfl,sm.seq hS,SqL.of upd_same,flat_ints ns,rfl,_,rfl,?_⟩
    cases ns with
    | nil=>exact itF (by decide) ⟨sm,rfl⟩
    | cons n r =>
      refine itT rfl ?_
      have hpos:(0:Int) < (((n :: r).map V.int).length:Nat):=by rw [List.length_map,List.length_cons]; omega
      have h1:=Int.emod_nonneg k (show ((((n :: r).map V.int).length:Nat):Int)≠0 by omega)
      have h2:=Int.emod_lt_of_pos k hpos
      have hlt:(k % (((n :: r).map V.int).length:Nat)).toNat < (n :: r).length:=by
        rw [List.length_map] at h1 h2 ⊢
        omega
      refine ⟨_,rfl,_,rfl,_,rfl,a,_,rfl,.inl (sm.seq hS),_,_,rfl,rfl,hpos,a,_,_,.int ((n :: r)[(k % (((n :: r).map V.int).length:Nat)).toNat]),rfl,rfl,sm.seq hS,?_,sm,?_⟩
      · have e:k % (((n :: r).map V.int).length:Nat) = (((k % (((n :: r).map V.int).length:Nat)).toNat:Nat):Int):=by omega
        have q2:atI ((n :: r).map V.int) (((k % (((n :: r).map V.int).length:Nat)).toNat:Nat):Int) = some (.int ((n :: r)[(k % (((n :: r).map V.int).length:Nat)).toNat])):=atI_nat (by rw [List.getElem?_map,List.getElem?_eq_getElem hlt]; rfl)
        rw [← e] at q2
        exact q2
      · have ec:cellF (n :: r) k = (n :: r)[(k % (((n :: r).map V.int).length:Nat)).toNat]:=by
          unfold cellF
          have el:((n :: r).map V.int).length = (n :: r).length:=List.length_map ..
          rw [show (n :: r)[(k % ((n :: r).length:Nat)).toNat]? = some ((n :: r)[(k % (((n :: r).map V.int).length:Nat)).toNat]) by rw [← el]; exact List.getElem?_eq_getElem hlt]
          rfl
        rw [ec]
        rfl
  · rintro σ H' ⟨sm,rfl⟩
    generalize hc:cellF ns k = c
    have g1:0≤c % 1000000007:=Int.emod_nonneg _ (by decide)
    have g2:c % 1000000007 < 1000000007:=Int.emod_lt_of_pos _ (by decide)
    refine ⟨_,rfl,_,_,rfl,rfl,(by show (0:Int) < 1000000007; decide),_,rfl,_,_,rfl,rfl,.inl ⟨by decide,by decide⟩,_,_,rfl,rfl,_,_,rfl,rfl,?_⟩
    refine ⟨_,rfl,_,rfl,_,_,rfl,rfl,mulM (by show 0≤c % 1000000007 + 7919 * k + 13; omega) (by show c % 1000000007 + 7919 * k + 13 < _; omega),_,_,rfl,rfl,(by show (0:Int) < 1000000007; decide),_,rfl,_,_,rfl,rfl,
      mulM (by show 0≤c % 1000000007 + 7919 * k + 13; omega) (by show c % 1000000007 + 7919 * k + 13 < _; omega),_,_,rfl,rfl,(by show (0:Int) < 998244353; decide),_,_,rfl,rfl,⟨by decide,by decide⟩,?_⟩
    have q2:=q H' sm
    have e:∀ z:Int,((((z % 998244353 / 11).toNat:Nat)):Int) = z % 998244353 / 11:=fun z=>by omega
    unfold drawF mixF at q2
    rw [hc,e] at q2
    exact q2
theorem drawF_lt (ns:List Int) (k:Int):drawF ns k < 998244353:=by
  unfold drawF mixF
  have e:∀ z:Int,(z % 998244353 / 11).toNat < 998244353:=fun z=>by omega
  exact e _
def nC (ns:List Int) (k:Int) (j:Nat):Nat:=drawF ns (k + 1 + j)
def sC (ns:List Int) (k:Int) (m:Nat):Nat→Nat
  | 0=>drawF ns k % m
  | j + 1=>(sC ns k m j + 1 + nC ns k j % (m - 1)) % m
def mC (ns:List Int) (k:Int):Nat→Nat
  | 0=>drawF ns k / 8 % 600
  | j + 1=>mC ns k j + 1 + nC ns k j / 8 % 40 + nC ns k j / 512 % 6 * (nC ns k j / 4096 % 2)
def callC (ns:List Int) (k:Int) (NS:List Str) (j:Nat):Cl:=⟨NS.getD (sC ns k NS.length (j + 1)) Str.empty,mC ns k j + 1 + nC ns k j / 8 % 40,mC ns k (j + 1)⟩
def callsF (ns:List Int) (k:Int) (NS:List Str):List Cl:=(List.range (2 + drawF ns k / 8192 % 5)).map (callC ns k NS)
theorem sC_lt (ns:List Int) (k:Int) (m:Nat) (h:0 < m) (j:Nat):sC ns k m j < m:=by
  cases j with
  | zero=>exact Nat.mod_lt _ h
  | succ j=>exact Nat.mod_lt _ h
theorem sC_ne (ns:List Int) (k:Int) (m:Nat) (h:2≤m) (j:Nat):sC ns k m (j + 1)≠sC ns k m j:=by
  have h1:=sC_lt ns k m (by omega) j
  have h2:nC ns k j % (m - 1) < m - 1:=Nat.mod_lt _ (by omega)
  show (sC ns k m j + 1 + nC ns k j % (m - 1)) % m≠sC ns k m j
  generalize nC ns k j % (m - 1) = r at h2
  generalize sC ns k m j = x at h1
  by_cases c:x + 1 + r < m
  · rw [Nat.mod_eq_of_lt c]; omega
  · rw [Nat.mod_eq_sub_mod (by omega),Nat.mod_eq_of_lt (by omega)]; omega
theorem mul65 (n:Nat):n / 512 % 6 * (n / 4096 % 2)≤5:=by
  rcases (show n / 4096 % 2 = 0∨n / 4096 % 2 = 1 by omega) with h | h
  · rw [h]; omega
  · rw [h]; omega
theorem mC_le (ns:List Int) (k:Int):∀ j,mC ns k j≤599 + 45 * j
  | 0=>by show drawF ns k / 8 % 600≤_; omega
  | j + 1=>by
    have:=mC_le ns k j
    have:=mul65 (nC ns k j)
    show mC ns k j + 1 + nC ns k j / 8 % 40 + nC ns k j / 512 % 6 * (nC ns k j / 4096 % 2)≤_
    omega
theorem nodup_getD {NS:List Str} (nd:NS.Nodup) {i j:Nat} (hi:i < NS.length) (hj:j < NS.length) (h:i≠j):NS.getD i Str.empty≠NS.getD j Str.empty:=by
  rw [List.getD_eq_getElem?_getD,List.getD_eq_getElem?_getD,List.getElem?_eq_getElem hi,List.getElem?_eq_getElem hj]
  exact fun e=>h ((List.getElem_inj nd).mp e)
theorem calls_ok {ns:List Int} {k:Int} {NS:List Str} {N:NetM} (nd:NS.Nodup) (h2:2≤NS.length) (e:N.st.map (·.nm) = NS):ClsOk N (callsF ns k NS):=by
  have len:(callsF ns k NS).length = 2 + drawF ns k / 8192 % 5:=by unfold callsF; rw [List.length_map,List.length_range]
  have mem:∀ c∈callsF ns k NS,∃ j,j < 6∧c = callC ns k NS j:=fun c hc=>by
    obtain ⟨j,hj,rfl⟩:=List.mem_map.mp hc
    exact ⟨j,by have:=List.mem_range.mp hj; omega,rfl⟩
  refine ⟨by omega,by omega,fun c hc=>?_,fun c hc=>?_,fun i a b ea eb=>?_⟩
  · obtain ⟨j,_,rfl⟩:=mem c hc
    have hl:=sC_lt ns k NS.length (by omega) (j + 1)
    have:(callC ns k NS j).st∈N.st.map (·.nm):=by
      rw [e]
      show NS.getD _ _∈NS
      rw [List.getD_eq_getElem?_getD,List.getElem?_eq_getElem hl]
      exact List.getElem_mem hl
    obtain ⟨x,hx,ex⟩:=List.mem_map.mp this
    obtain ⟨y,hy⟩:=fnd_some (nm:=Stp.nm) hx
    rw [← ex,hy]
    rfl
  · obtain ⟨j,hj,rfl⟩:=mem c hc
    have:=mC_le ns k (j + 1)
    show mC ns k j + 1 + nC ns k j / 8 % 40≤mC ns k j + 1 + nC ns k j / 8 % 40 + nC ns k j / 512 % 6 * (nC ns k j / 4096 % 2)∧mC ns k (j + 1)≤2879
    omega
  · unfold callsF at ea eb
    rw [List.getElem?_map] at ea eb
    cases e1:(List.range (2 + drawF ns k / 8192 % 5))[i]? with
    | none=>rw [e1] at ea; cases ea
    | some i1 =>
      cases e2:(List.range (2 + drawF ns k / 8192 % 5))[i + 1]? with
      | none=>rw [e2] at eb; cases eb
      | some i2 =>
        rw [e1] at ea
        rw [e2] at eb
        have q1:i1 = i:=by have:=List.getElem?_eq_some_iff.mp e1; obtain ⟨h,e⟩:=this; rw [List.getElem_range] at e; exact e.symm
        have q2:i2 = i + 1:=by have:=List.getElem?_eq_some_iff.mp e2; obtain ⟨h,e⟩:=this; rw [List.getElem_range] at e; exact e.symm
        subst q1 q2
        cases ea
        cases eb
        refine ⟨nodup_getD nd (sC_lt _ _ _ (by omega) _) (sC_lt _ _ _ (by omega) _) (sC_ne ns k NS.length h2 (i1 + 1)),?_⟩
        show mC ns k (i1 + 1) < mC ns k (i1 + 1) + 1 + nC ns k (i1 + 1) / 8 % 40
        omega
def spLCalls (K:W.Frag):Sp:=fun vs H Q _=>∃ (a ln:Addr) (ns:List Int) (k:Nat) (NS:List Str),vs = [.ref a,.int (k:Nat),.ref ln]∧SqL K H a (ns.map V.int)∧k≤90000∧H ln = some (.lst (NS.map V.str))∧2≤NS.length∧NS.length≤8 ∧
  ∀ l vs H',Same H H'→H l = none→H' l = some (.lst vs)→Al (ClAt H') vs (callsF ns k NS)→Q (.ref l) H'
theorem ok_law_calls (Tx:Tab K mg t):FnOk P w K mg base CX0 2 t.f_law_calls t.d_law_calls ["_law_script","_law_k","_law_names_here"] (spLCalls K):=by
  refine Tx.F_law_calls.ok sc_law_calls (fun vs H Q E h=>?_) (fun cdv A outer s H vs Q E hr h=>?_)
  · obtain ⟨a,ln,ns,k,NS,rfl,_⟩:=h
    rfl
  obtain ⟨a,ln,ns,k,NS,rfl,hS,k1,hln,n2,n8,q⟩:=h
  have len:(NS.map V.str).length = NS.length:=List.length_map ..
  refine ⟨_,(pss_cons (ps_set (i:=3) sc_law_calls.nd rfl (Or.inl rfl) (pe_lst pa_nil))
    (pss_cons (ps_set (i:=4) sc_law_calls.nd rfl (Or.inl rfl) (pe_op op_mod (pe_call (ok_law_draw_d Tx) (hr.mono (by omega)) rfl Tx.m_law_draw Tx.F_law_draw.kp Tx.b_law_draw .nil pass0 (pac (pv 0) (pac (pv 1) pa_nil))) (pe_callB call_len_seq rfl Tx.z_len b_len (pac (pv 2) pa_nil))))
    (pss_cons (ps_set (i:=5) sc_law_calls.nd rfl (Or.inl rfl) (pe_op op_mod (pe_op op_fdiv (pe_call (ok_law_draw_d Tx) (hr.mono (by omega)) rfl Tx.m_law_draw Tx.F_law_draw.kp Tx.b_law_draw .nil pass0 (pac (pv 0) (pac (pv 1) pa_nil))) pe_int) pe_int))
    (pss_cons (ps_for PassesOwn.never rfl (pi_range1 rfl Tx.z_range (pac (pe_op op_add pe_int (pe_op op_mod (pe_op op_fdiv (pe_call (ok_law_draw_d Tx) (hr.mono (by omega)) rfl Tx.m_law_draw Tx.F_law_draw.kp Tx.b_law_draw .nil pass0 (pac (pv 0) (pac (pv 1) pa_nil))) pe_int) pe_int)) pa_nil)) (pg_name (i:=6) sc_law_calls.nd rfl (Or.inl rfl))
    (pss_cons (ps_set (i:=7) sc_law_calls.nd rfl (Or.inl rfl) (pe_call (ok_law_draw_d Tx) (hr.mono (by omega)) rfl Tx.m_law_draw Tx.F_law_draw.kp Tx.b_law_draw .nil pass0 (pac (pv 0) (pac (pe_op op_add (pe_op op_add (pv 1) pe_int) (pv 6)) pa_nil))))
    (pss_cons (ps_set (i:=4) sc_law_calls.nd rfl (Or.inl rfl) (pe_op op_mod (pe_op op_add (pe_op op_add (pv 4) pe_int) (pe_op op_mod (pv 7) (pe_op op_sub (pe_callB call_len_seq rfl Tx.z_len b_len (pac (pv 2) pa_nil)) pe_int))) (pe_callB call_len_seq rfl Tx.z_len b_len (pac (pv 2) pa_nil))))
    (pss_cons (ps_set (i:=8) sc_law_calls.nd rfl (Or.inl rfl) (pe_op op_add (pe_op op_add (pv 5) pe_int) (pe_op op_mod (pe_op op_fdiv (pv 7) pe_int) pe_int)))
    (pss_cons (ps_set (i:=5) sc_law_calls.nd rfl (Or.inl rfl) (pe_op op_add (pv 8) (pe_op op_mul (pe_op op_mod (pe_op op_fdiv (pv 7) pe_int) pe_int) (pe_op op_mod (pe_op op_fdiv (pv 7) pe_int) pe_int))))
    (pss_one (ps_expr (pe_bm PySem.F.plainAttrs_list PySem.F.slot_list_append PySem.F.type_list_append mt_append (pv 3) (pac (pe_tup (pac (pe_ix ix_list (pv 2) (pv 4) (fun _ _=>rfl)) (pac (pv 8) (pac (pv 5) pa_nil)))) pa_nil)))))))))
    (pss_one (ps_ret (pv 3))))))),?_⟩
  refine ⟨by show 0≤sizeLine; decide,fun l hl=>?_⟩
  have s1:=same_new hl (.lst [])
  refine ⟨_,rfl,_,rfl,a,ns,_,rfl,s1.seq hS,by omega,by omega,fun H1 s2=>?_⟩
  have S2:=s1.trans s2
  refine ⟨_,rfl,ln,_,rfl,.inl (SqL.of (S2 _ _ hln)),_,_,rfl,rfl,by omega,?_⟩
  refine ⟨_,rfl,_,rfl,a,ns,_,rfl,S2.seq hS,by omega,by omega,fun H2 s3=>?_⟩
  have S3:=S2.trans s3
  refine ⟨_,_,rfl,rfl,⟨by decide,by decide⟩,_,_,rfl,rfl,(by show (0:Int) < 600; decide),?_⟩
  refine ⟨_,rfl,_,rfl,a,ns,_,rfl,S3.seq hS,by omega,by omega,fun H3 s4=>?_⟩
  have S4:=S3.trans s4
  have dl:=drawF_lt ns (k:Nat)
  refine ⟨_,_,rfl,rfl,⟨by decide,by decide⟩,_,_,rfl,rfl,(by show (0:Int) < 5; decide),_,_,rfl,rfl,_,rfl,by omega,by omega,?_⟩
  have ecnt:((2:Int) + ((drawF ns (k:Nat):Nat):Int) / 8192 % 5).toNat = 2 + drawF ns (k:Nat) / 8192 % 5:=by omega
  have e0:((drawF ns (k:Nat):Nat):Int) % (((NS.map V.str).length:Nat):Int) = ((sC ns (k:Nat) NS.length 0:Nat):Int):=by rw [len]; exact (Int.natCast_emod _ _).symm
  have e1:((drawF ns (k:Nat):Nat):Int) / 8 % 600 = ((mC ns (k:Nat) 0:Nat):Int):=by show _ = ((drawF ns (k:Nat) / 8 % 600:Nat):Int); omega
  refine for_range (fun i σ H'=>Same H H'∧∃ (vs:List V) (v5 v6 v7:Option V),σ = [some (.ref a),some (.int (k:Nat)),some (.ref ln),some (.ref l),some (.int ((sC ns (k:Nat) NS.length i:Nat):Int)),some (.int ((mC ns (k:Nat) i:Nat):Int)),v5,v6,v7]∧H' l = some (.lst vs)∧Al (ClAt (wo H' l)) vs ((List.range i).map (callC ns (k:Nat) NS)))
    ⟨S4,[],none,none,none,?_,s4 _ _ (s3 _ _ (s2 _ _ upd_same)),.nil⟩ ?_ ?_
  · show [some (V.ref a),some (V.int (k:Nat)),some (V.ref ln),some (V.ref l),some (V.int (((drawF ns (k:Nat):Nat):Int) % (((NS.map V.str).length:Nat):Int))),some (V.int (((drawF ns (k:Nat):Nat):Int) / 8 % 600)),none,none,none] = _
    rw [e0,e1]
  · rintro i σ H4 hi ⟨s5,vs,v5,v6,v7,rfl,hl5,al⟩
    have hi6:i < 6:=by omega
    have hs1:=sC_lt ns (k:Nat) NS.length (by omega) i
    have hs2:=sC_lt ns (k:Nat) NS.length (by omega) (i + 1)
    have mle:=mC_le ns (k:Nat) i
    rw [show (0:Int) + ((i:Nat):Int) = ((i:Nat):Int) by omega]
    refine ⟨_,rfl,_,rfl,_,_,rfl,rfl,_,rfl,_,_,rfl,rfl,a,ns,_,rfl,s5.seq hS,by omega,by omega,fun H5 s6=>?_⟩
    have S6:=s5.trans s6
    have hln6:=S6 _ _ hln
    have hl6:=s6 _ _ hl5
    have al6:=al.imp (fun _ _=>ClAt.same (wo_mono (l:=l) s6))
    have ed:drawF ns (((k:Nat):Int) + 1 + ((i:Nat):Int)) = nC ns (k:Nat) i:=rfl
    rw [ed]
    generalize hd:nC ns (k:Nat) i = d at *
    have e2:(((sC ns (k:Nat) NS.length i:Nat):Int) + 1 + ((d:Nat):Int) % ((((NS.map V.str).length:Nat):Int) - 1)) % (((NS.map V.str).length:Nat):Int) = ((sC ns (k:Nat) NS.length (i + 1):Nat):Int):=by
      rw [len,show (((NS.length:Nat):Int) - 1) = ((NS.length - 1:Nat):Int) by omega,← Int.natCast_emod]
      show _ = (((sC ns (k:Nat) NS.length i + 1 + nC ns (k:Nat) i % (NS.length - 1)) % NS.length:Nat):Int)
      rw [hd,Int.natCast_emod]
      rfl
    refine ⟨_,rfl,_,_,rfl,rfl,_,rfl,_,rfl,ln,_,rfl,.inl (SqL.of hln6),_,_,rfl,rfl,_,_,rfl,rfl,(by rw [len]; omega),_,_,rfl,rfl,_,rfl,ln,_,rfl,.inl (SqL.of hln6),_,_,rfl,rfl,(by rw [len]; omega),?_⟩
    dsimp only
    rw [e2]
    refine ⟨_,rfl,_,_,rfl,rfl,_,rfl,_,_,rfl,rfl,⟨by decide,by decide⟩,_,_,rfl,rfl,(by show (0:Int) < 40; decide),_,_,rfl,rfl,?_⟩
    dsimp only
    have e3:((mC ns (k:Nat) i:Nat):Int) + 1 + ((d:Nat):Int) / 8 % 40 = ((mC ns (k:Nat) i + 1 + d / 8 % 40:Nat):Int):=by omega
    rw [e3]
    refine ⟨_,rfl,_,rfl,_,_,rfl,rfl,⟨by decide,by decide⟩,_,_,rfl,rfl,(by show (0:Int) < 6; decide),_,rfl,_,_,rfl,rfl,⟨by decide,by decide⟩,_,_,rfl,rfl,(by show (0:Int) < 2; decide),_,_,rfl,rfl,.inl ⟨by omega,by omega⟩,_,_,rfl,rfl,?_⟩
    dsimp only
    have e4:((mC ns (k:Nat) i + 1 + d / 8 % 40:Nat):Int) + ((d:Nat):Int) / 512 % 6 * (((d:Nat):Int) / 4096 % 2) = ((mC ns (k:Nat) (i + 1):Nat):Int):=by
      show _ = ((mC ns (k:Nat) i + 1 + nC ns (k:Nat) i / 8 % 40 + nC ns (k:Nat) i / 512 % 6 * (nC ns (k:Nat) i / 4096 % 2):Nat):Int)
      rw [hd,Int.natCast_add (mC ns (k:Nat) i + 1 + d / 8 % 40),Int.natCast_mul,Int.natCast_emod,Int.natCast_ediv,Int.natCast_emod,Int.natCast_ediv]
      rfl
    rw [e4]
    have eat:atI (NS.map V.str) ((sC ns (k:Nat) NS.length (i + 1):Nat):Int) = some (.str (NS.getD (sC ns (k:Nat) NS.length (i + 1)) Str.empty)):=atI_nat (by
      rw [List.getElem?_map,List.getElem?_eq_getElem hs2,List.getD_eq_getElem?_getD,List.getElem?_eq_getElem hs2]; rfl)
    refine ⟨_,rfl,.inl ⟨rfl,_,SqL.of hl6⟩,_,rfl,_,rfl,ln,_,_,_,rfl,rfl,SqL.of hln6,eat,_,rfl,_,rfl,by show 3≤sizeLine; decide,fun pt gt=>?_⟩
    have npt:pt≠l:=fun e=>by rw [e,hl6] at gt; cases gt
    have s7:=same_new gt (.tup [.str (NS.getD (sC ns (k:Nat) NS.length (i + 1)) Str.empty),.int ((mC ns (k:Nat) i + 1 + d / 8 % 40:Nat):Int),.int ((mC ns (k:Nat) (i + 1):Nat):Int)])
    have lv:vs.length≤6:=by rw [al.length,List.length_map,List.length_range]; omega
    refine ⟨l,_,_,rfl,rfl,s7 _ _ hl6,Nat.lt_of_le_of_lt lv (by decide),?_⟩
    refine ⟨same_put (S6.trans s7) hl _,vs ++ [.ref pt],_,_,_,rfl,upd_same,?_⟩
    rw [wo_upd,List.range_succ,List.map_append]
    refine (al6.imp fun _ _=>ClAt.same (wo_mono s7)).app (.cons ⟨pt,rfl,?_⟩ .nil)
    show wo _ l pt = some (.tup [.str (NS.getD (sC ns (k:Nat) NS.length (i + 1)) Str.empty),.int ((mC ns (k:Nat) i + 1 + nC ns (k:Nat) i / 8 % 40:Nat):Int),.int ((mC ns (k:Nat) (i + 1):Nat):Int)])
    rw [hd]
    exact wo_at upd_same npt
  · rintro σ H4 ⟨s5,vs,v5,v6,v7,rfl,hl5,al⟩
    rw [ecnt] at al
    exact ⟨_,rfl,q l vs H4 s5 hl hl5 (al.imp fun _ _=>ClAt.same wo_same)⟩
def sumB (zs:List Nat):Nat:=(zs.map fun z=>2 ^ (z - 1)).sum
theorem sum_cast (zs:List Nat):(zs.map fun z=>((2 ^ (z - 1):Nat):Int)).sum = ((sumB zs:Nat):Int):=by
  unfold sumB
  induction zs with
  | nil=>rfl
  | cons z zs ih=>rw [List.map_cons,List.map_cons,List.sum_cons,List.sum_cons,ih]; omega
def spBits (K:W.Frag):Sp:=fun vs H Q _=>∃ (l:Addr) (zs:List Nat),vs = [.ref l]∧SqL K H l (natV zs)∧(∀ z∈zs,1≤z∧z≤6)∧zs.length≤8∧∀ H',Same H H'→Q (.int (sumB zs:Nat)) H'
theorem ok_law_bits (Tx:Tab K mg t):FnOk P w K mg base CX0 1 t.f_law_bits t.d_law_bits ["_law_zones_here"] (spBits K):=by
  refine Tx.F_law_bits.ok sc_law_bits (fun vs H Q E h=>?_) (fun cdv A outer s H vs Q E hr h=>?_)
  · obtain ⟨l,zs,rfl,_⟩:=h
    rfl
  obtain ⟨l,zs,rfl,hl,hz,h8,q⟩:=h
  have len:(natV zs).length = zs.length:=List.length_map ..
  refine ⟨_,(pss_one (ps_ret (pe_callB (call_sum_list rfl) rfl Tx.z_sum b_sum (pac (pe_comp (cl:=[]) (N:=["_law_zone"]) (fr:=[none]) rfl (pi_list (pv 0)) rfl (by decide +kernel) rfl (by decide +kernel) trivial trivial rfl (fun _ _ _ _ _=>(pg_name (i:=0) (show List.Nodup (["_law_zone"]:List Str) by decide +kernel) rfl (Or.inl rfl))) (fun _ _ _ _ _=>pts_nil) (fun _ _ _ _ _=>(pe_ix (show IxR _ (rIxL K) from ix_list) (pe_lst (pac pe_int (pac pe_int (pac pe_int (pac pe_int (pac pe_int (pac pe_int pa_nil))))))) (pe_op op_sub (pv 0) pe_int) (fun _ _=>rfl)))) pa_nil)))),?_⟩
  refine ⟨_,rfl,l,rfl,⟨_,hl⟩,comp_list (K:=K) (a:=l) (xs:=natV zs) (fun i acc σ H'=>Same H H'∧acc = ((zs.take i).map fun z=>((2 ^ (z - 1):Nat):Int)).map V.int∧∃ v,σ = [v]) ⟨Same.refl H,rfl,_,rfl⟩ (by rw [len]; exact Nat.le_trans h8 (by decide)) (fun i acc σ H' _ ⟨s',_⟩=>s'.seq hl) ?_ ?_⟩
  · rintro i y acc σ H' hi hy ⟨s1,rfl,v,rfl⟩
    unfold natV at hy
    rw [List.getElem?_map] at hy
    cases ez:zs[i]? with
    | none=>rw [ez] at hy; cases hy
    | some z =>
      rw [ez] at hy
      obtain rfl:V.int ((z:Nat):Int) = y:=Option.some.inj hy
      have hz':=hz z (List.mem_of_getElem? ez)
      dsimp only [gName,tTrue]
      rw [if_pos rfl]
      refine ⟨by show 6≤sizeLine; decide,fun p hp=>?_⟩
      have s2:=s1.trans (same_new hp (.lst [.int 1,.int 2,.int 4,.int 8,.int 16,.int 32]))
      have eat:=two_at (z - 1) (by omega)
      rw [show (1:Int) + ((z - 1:Nat):Int) - 1 = ((z:Nat):Int) - 1 by omega] at eat
      refine ⟨_,rfl,_,_,rfl,rfl,p,_,_,_,rfl,rfl,SqL.of upd_same,eat,by rw [List.length_append,List.length_singleton]; omega,s2,?_,_,rfl⟩
      rw [List.take_add_one,ez,List.map_append,List.map_append]
      rfl
  · rintro acc σ H' ha ⟨s1,rfl,v,rfl⟩ p hp
    rw [len,List.take_length]
    refine ⟨p,_,rfl,SqL.of upd_same,fun n hn=>?_,by rw [List.length_map]; omega,?_⟩
    · obtain ⟨z,hz',rfl⟩:=List.mem_map.mp hn
      have h6:=(hz z hz').2
      have hp5:(2:Nat) ^ (z - 1)≤2 ^ 5:=Nat.pow_le_pow_right (by decide) (by omega)
      exact ⟨Int.natCast_nonneg _,Int.le_trans (Int.ofNat_le.mpr hp5) (by decide)⟩
    · rw [sum_cast]
      exact q _ (s1.trans (same_new hp _))
def stL (NS:List Str) (ZS:List Nat) (m:Nat):List Stp:=(List.range m).map fun i=>⟨NS.getD i Str.empty,ZS.getD i 0,2⟩
def allS:Str:=Str.ofString "all"
def tpL (ns:List Int) (NS TN:List Str) (m:Nat):List Tp:=(List.range m).map fun i=>⟨TN.getD i Str.empty,allS,callsF ns ((50 + 8 * i:Nat):Int) NS⟩
theorem stL_nm (NS:List Str) (ZS:List Nat):(stL NS ZS NS.length).map (·.nm) = NS:=by
  unfold stL
  rw [List.map_map]
  apply List.ext_getElem
  · rw [List.length_map,List.length_range]
  · intro i h1 h2
    rw [List.getElem_map,List.getElem_range]
    show NS.getD i Str.empty = _
    rw [List.getD_eq_getElem?_getD,List.getElem?_eq_getElem h2]
    rfl
theorem stL_take (NS:List Str) (ZS:List Nat) (m:Nat):stL NS ZS (m + 1) = stL NS ZS m ++ [⟨NS.getD m Str.empty,ZS.getD m 0,2⟩]:=by
  unfold stL
  rw [List.range_succ,List.map_append]
  rfl
theorem tpL_take (ns:List Int) (NS TN:List Str) (m:Nat):tpL ns NS TN (m + 1) = tpL ns NS TN m ++ [⟨TN.getD m Str.empty,allS,callsF ns ((50 + 8 * m:Nat):Int) NS⟩]:=by
  unfold tpL
  rw [List.range_succ,List.map_append]
  rfl
theorem fresh_nm {α:Type} {nm:α→Str} {NS:List Str} (nd:NS.Nodup) {f:Nat→α} (hf:∀ i,nm (f i) = NS.getD i Str.empty) {m:Nat} (hm:m < NS.length):fnd nm ((List.range m).map f) (NS.getD m Str.empty) = none:=by
  unfold fnd
  rw [List.find?_eq_none]
  intro x hx
  obtain ⟨i,hi,rfl⟩:=List.mem_map.mp hx
  have hi:=List.mem_range.mp hi
  rw [decide_eq_true_eq,hf]
  exact nodup_getD nd (by omega) hm (by omega)
theorem all_name:NameOk (Str.ofString "all"):=by
  refine ⟨by decide,by decide,fun c hc=>?_,by decide +kernel⟩
  have:(Str.ofString "all").cps.toList = [97,108,108]:=by decide +kernel
  rw [this] at hc
  simp only [List.mem_cons,List.not_mem_nil,or_false] at hc
  omega
def netL (ns:List Int) (NS TN:List Str) (ZS:List Nat) (TK:List Tk):NetM:=⟨stL NS ZS NS.length,[allS],TK,tpL ns NS TN TN.length⟩
theorem bit_step:∀ b:Nat,b < 64→∀ z:Nat,z < 7→1≤z→(b ||| 2 ^ (z - 1) < 64∧∀ y:Nat,y < 7→decide (y∈zonesOf (b ||| 2 ^ (z - 1))) = (decide (y∈zonesOf b) || decide (y = z))):=by decide +kernel
theorem zb_all (zs:List Nat) (h:∀ z∈zs,1≤z∧z≤6):∀ b:Nat,b < 64→(zs.foldl (fun b z=>b ||| 2 ^ (z - 1)) b < 64∧∀ y,y∈zonesOf (zs.foldl (fun b z=>b ||| 2 ^ (z - 1)) b)↔(y∈zonesOf b∨y∈zs)):=by
  induction zs with
  | nil=>intro b hb; exact ⟨hb,fun y=>⟨fun h=>.inl h,fun h=>h.elim id fun x=>by cases x⟩⟩
  | cons z zs ih =>
    intro b hb
    have hz:=h z (List.mem_cons_self ..)
    have st:=bit_step b hb z (by omega) hz.1
    have:=ih (fun y hy=>h y (List.mem_cons_of_mem _ hy)) _ st.1
    refine ⟨this.1,fun y=>?_⟩
    rw [List.foldl_cons,this.2 y,List.mem_cons]
    by_cases hy:y < 7
    · have e:=st.2 y hy
      have e':(y∈zonesOf (b ||| 2 ^ (z - 1)))↔(y∈zonesOf b∨y = z):=by
        constructor
        · intro m; rw [decide_eq_true m] at e; simpa using e.symm
        · intro m
          have:(decide (y∈zonesOf b) || decide (y = z)) = true:=by simpa using m
          rw [this] at e
          exact of_decide_eq_true e
      rw [e']
      constructor
      · rintro ((a | a) | a)
        · exact .inl a
        · exact .inr (.inl a)
        · exact .inr (.inr a)
      · rintro (a | a | a)
        · exact .inl (.inl a)
        · exact .inl (.inr a)
        · exact .inr a
    · constructor
      · rintro (a | a)
        · exact absurd (zones_rng _ y a).2 (by omega)
        · exact absurd (h y (List.mem_cons_of_mem _ a)).2 (by omega)
      · rintro (a | a | a)
        · exact absurd (zones_rng _ y a).2 (by omega)
        · omega
        · exact absurd (h y (List.mem_cons_of_mem _ a)).2 (by omega)
theorem zb_lt {zs:List Nat} (h:∀ z∈zs,1≤z∧z≤6):zb zs < 64:=(zb_all zs h 0 (by decide)).1
theorem zb_mem {zs:List Nat} (h:∀ z∈zs,1≤z∧z≤6) (y:Nat):y∈zonesOf (zb zs)↔y∈zs:=by
  have:=(zb_all zs h 0 (by decide)).2 y
  rw [show zonesOf 0 = [] by decide] at this
  constructor
  · intro m; rcases this.mp m with a | a; cases a; exact a
  · intro m; exact this.mpr (.inr m)
theorem sorted_ext:∀ {xs ys:List Nat},xs.Pairwise (· < ·)→ys.Pairwise (· < ·)→(∀ z,z∈xs↔z∈ys)→xs = ys
  | [],[],_,_,_=>rfl
  | [],y :: ys,_,_,h=>by have:=(h y).mpr (List.mem_cons_self ..); cases this
  | x :: xs,[],_,_,h=>by have:=(h x).mp (List.mem_cons_self ..); cases this
  | x :: xs,y :: ys,hx,hy,h=>by
    rw [List.pairwise_cons] at hx hy
    have e:x = y:=by
      rcases List.mem_cons.mp ((h x).mp (List.mem_cons_self ..)) with e | e
      · exact e
      · rcases List.mem_cons.mp ((h y).mpr (List.mem_cons_self ..)) with e2 | e2
        · exact e2.symm
        · have:=hy.1 x e
          have:=hx.1 y e2
          omega
    subst e
    rw [sorted_ext hx.2 hy.2 fun z=>?_]
    constructor
    · intro m
      rcases List.mem_cons.mp ((h z).mp (List.mem_cons_of_mem _ m)) with e | e
      · have:=hx.1 z m; omega
      · exact e
    · intro m
      rcases List.mem_cons.mp ((h z).mpr (List.mem_cons_of_mem _ m)) with e | e
      · have:=hy.1 z m; omega
      · exact e
theorem sum_zones:∀ b:Nat,b < 64→sumB (zonesOf b) = b:=by decide +kernel
theorem sorted_zb {ys zs:List Nat} (h:∀ z∈zs,1≤z∧z≤6) (up:ys.Pairwise (· < ·)) (m:∀ z,z∈ys↔z∈zs):ys = zonesOf (zb zs):=sorted_ext up (zones_up _) fun z=>by rw [m,zb_mem h]
theorem sum_zb {ys zs:List Nat} (h:∀ z∈zs,1≤z∧z≤6) (up:ys.Pairwise (· < ·)) (m:∀ z,z∈ys↔z∈zs):sumB ys = zb zs:=by
  rw [sorted_zb h up m]; exact sum_zones _ (zb_lt h)
theorem nat_ints (zs:List Nat):natV zs = (zs.map fun n=>((n:Nat):Int)).map V.int:=by
  rw [List.map_map]; rfl
theorem nat_of {zs:List Int} {ks:List Nat} (pw:zs.Pairwise (· < ·)) (mem:∀ k,k∈zs↔k∈ks.map fun n=>((n:Nat):Int)):zs.map V.int = natV (zs.map Int.toNat)∧(zs.map Int.toNat).Pairwise (· < ·)∧∀ z,z∈zs.map Int.toNat↔z∈ks:=by
  have nn:∀ z∈zs,∃ n:Nat,z = ((n:Nat):Int)∧n∈ks:=fun z hz=>by
    obtain ⟨n,hn,rfl⟩:=List.mem_map.mp ((mem z).mp hz)
    exact ⟨n,rfl,hn⟩
  refine ⟨?_,?_,fun z=>⟨fun hz=>?_,fun hz=>?_⟩⟩
  · show zs.map V.int = (zs.map Int.toNat).map _
    rw [List.map_map]
    refine List.map_congr_left fun z hz=>?_
    obtain ⟨n,rfl,_⟩:=nn z hz
    rfl
  · rw [List.pairwise_map]
    refine List.Pairwise.imp_of_mem (fun {x y} hx hy h=>?_) pw
    obtain ⟨n,rfl,_⟩:=nn x hx
    obtain ⟨m,rfl,_⟩:=nn y hy
    simp only [Int.toNat_natCast]
    omega
  · obtain ⟨y,hy,rfl⟩:=List.mem_map.mp hz
    obtain ⟨n,rfl,q⟩:=nn y hy
    simpa using q
  · exact List.mem_map.mpr ⟨((z:Nat):Int),(mem _).mpr (List.mem_map.mpr ⟨z,hz,rfl⟩),by simp⟩
theorem zone_at {NS:List Str} {ZS:List Nat} {ru:List Str} {tk:List Tk} {tp:List Tp} (nd:NS.Nodup) {i:Nat} (hi:i < NS.length):fnd Stp.nm (stL NS ZS NS.length) (NS.getD i Str.empty) = some ⟨NS.getD i Str.empty,ZS.getD i 0,2⟩:=by
  have m:(⟨NS.getD i Str.empty,ZS.getD i 0,2⟩:Stp)∈stL NS ZS NS.length:=List.mem_map.mpr ⟨i,List.mem_range.mpr hi,rfl⟩
  exact fnd_uniq (nm:=Stp.nm) (by rw [show (stL NS ZS NS.length).map Stp.nm = NS from stL_nm NS ZS]; exact nd) m
theorem net_good {ns:List Int} {NS TN:List Str} {ZS:List Nat} {TK:List Tk} (hz:∀ z∈ZS,1≤z∧z≤6) (hl:ZS.length = NS.length):NetGood (netL ns NS TN ZS TK):=by
  intro x hx
  obtain ⟨i,hi,rfl⟩:=List.mem_map.mp hx
  have hi:=List.mem_range.mp hi
  show 1≤ZS.getD i 0∧ZS.getD i 0≤6
  rw [List.getD_eq_getElem?_getD,List.getElem?_eq_getElem (show i < ZS.length by omega)]
  exact hz _ (List.getElem_mem _)
def TrAt (H:Hp) (v:V) (x:Tp):Prop:=∃ p lc vs,v = .ref p∧H p = some (.tup [.str x.nm,.ref lc])∧H lc = some (.lst vs)∧Al (ClAt H) vs x.cs
theorem TrAt.same {H H':Hp} {v:V} {x:Tp} (s:Same H H') (h:TrAt H v x):TrAt H' v x:=let ⟨p,lc,vs,e,h1,h2,h3⟩:=h; ⟨p,lc,vs,e,s _ _ h1,s _ _ h2,h3.imp fun _ _=>ClAt.same s⟩
theorem tpL_get {ns:List Int} {NS TN:List Str} {m i:Nat} {x:Tp} (h:(tpL ns NS TN m)[i]? = some x):i < m∧x = ⟨TN.getD i Str.empty,allS,callsF ns ((50 + 8 * i:Nat):Int) NS⟩:=by
  unfold tpL at h
  rw [List.getElem?_map] at h
  cases e:(List.range m)[i]? with
  | none=>rw [e] at h; cases h
  | some i' =>
    rw [e] at h
    obtain ⟨h1,h2⟩:=List.getElem?_eq_some_iff.mp e
    rw [List.getElem_range] at h2
    rw [List.length_range] at h1
    subst h2
    exact ⟨h1,(Option.some.inj h).symm⟩
theorem tpL_len {ns:List Int} {NS TN:List Str} {m:Nat}:(tpL ns NS TN m).length = m:=by unfold tpL; rw [List.length_map,List.length_range]
theorem tpL_nm {ns:List Int} {NS TN:List Str}:(tpL ns NS TN TN.length).map Tp.nm = TN:=by
  unfold tpL
  rw [List.map_map]
  apply List.ext_getElem
  · rw [List.length_map,List.length_range]
  · intro i h1 h2
    rw [List.getElem_map,List.getElem_range]
    show TN.getD i Str.empty = _
    rw [List.getD_eq_getElem?_getD,List.getElem?_eq_getElem h2]
    rfl
def spMkNet (t:Adr) (K:W.Frag):Sp:=fun vs H Q _=>∃ (ln lz lt lp:Addr) (ns:List Int) (NS TN:List Str) (ZS:List Nat) (vt:List V) (TK:List Tk) (vp:List V),vs = [.ref ln,.ref lz,.ref lt,.ref lp]∧H ln = some (.lst (NS.map V.str))∧2≤NS.length∧NS.length≤8∧NS.Nodup∧(∀ z∈NS,NameOk z) ∧
  H lz = some (.lst (natV ZS))∧ZS.length = NS.length∧(∀ z∈ZS,1≤z∧z≤6)∧H lt = some (.lst vt)∧Al (TkAt H) vt TK∧(TK.map (·.nm)).Nodup∧(∀ k∈TK,k.Ok)∧TK.length≤3∧H lp = some (.lst vp)∧Al (TrAt H) vp (tpL ns NS TN TN.length)∧TN.Nodup∧(∀ z∈TN,NameOk z)∧TN.length≤8 ∧
  ∀ n H',Same H H'→NetAt t H' n (netL ns NS TN ZS TK)→Q (.ref n) H'
theorem ok_law_net (Tx:Tab K mg t):FnOk P w K mg base CX0 8 t.f_law_net t.d_law_net ["_law_names_here","_law_zones_here","_law_tickets_here","_law_trips"] (spMkNet t K):=by
  refine Tx.F_law_net.ok sc_law_net (fun vs H Q E h=>?_) (fun cdv A outer s H vs Q E hr h=>?_)
  · obtain ⟨ln,lz,lt,lp,ns,NS,TN,ZS,vt,TK,vp,rfl,_⟩:=h
    rfl
  obtain ⟨ln,lz,lt,lp,ns,NS,TN,ZS,vt,TK,vp,rfl,hln,n2,n8,ndN,okN,hlz,lenZ,okZ,hlt,alT,ndT,okT,lenT,hlp,alP,ndP,okP,lenP,q⟩:=h
  refine ⟨_,(pss_cons (ps_set (i:=4) sc_law_net.nd rfl (Or.inl rfl) (pe_make0 Tx.mk_Net (ok_Net_init Tx) (hr.mono (by omega)) rfl Tx.m_Net Tx.b_Net_init .nil pass0))
    (pss_cons (ps_for PassesOwn.never rfl (pi_enum rfl Tx.z_enumerate (pac (pv 0) pa_nil)) (pg_tup rfl (pgs_cons (pg_name (i:=5) sc_law_net.nd rfl (Or.inl rfl)) (pgs_cons (pg_name (i:=6) sc_law_net.nd rfl (Or.inl rfl)) pgs_nil)))
    (pss_one (ps_expr (pe_meth (pv 4) Tx.cl_Net Tx.me_Net_add_stop (ok_Net_add_stop Tx) (hr.mono (by omega)) Tx.b_Net_add_stop .nil pass0 (pac (pv 6) (pac (pe_ix ix_list (pv 1) (pv 5) (fun _ _=>rfl)) (pac pe_int pa_nil)))))))
    (pss_cons (ps_expr (pe_meth (pv 4) Tx.cl_Net Tx.me_Net_add_rule (ok_Net_add_rule Tx) (hr.mono (by omega)) Tx.b_Net_add_rule .nil pass0 (pac pe_str (pac (pe_makeN Tx.mkn_Rule rfl Tx.m_Rule) pa_nil))))
    (pss_cons (ps_for PassesOwn.never rfl (pi_list (pv 2)) (pg_tup rfl (pgs_cons (pg_name (i:=6) sc_law_net.nd rfl (Or.inl rfl)) (pgs_cons (pg_name (i:=7) sc_law_net.nd rfl (Or.inl rfl)) (pgs_cons (pg_name (i:=8) sc_law_net.nd rfl (Or.inl rfl)) (pgs_cons (pg_name (i:=9) sc_law_net.nd rfl (Or.inl rfl)) pgs_nil)))))
    (pss_one (ps_expr (pe_meth (pv 4) Tx.cl_Net Tx.me_Net_add_ticket (ok_Net_add_ticket Tx) (hr.mono (by omega)) Tx.b_Net_add_ticket .nil pass0 (pac (pv 6) (pac (pv 7) (pac (pv 8) (pac (pe_callTy call_list_of rfl Tx.z_list b_list (pac (pv 9) pa_nil)) pa_nil))))))))
    (pss_cons (ps_for PassesOwn.never rfl (pi_list (pv 3)) (pg_tup rfl (pgs_cons (pg_name (i:=6) sc_law_net.nd rfl (Or.inl rfl)) (pgs_cons (pg_name (i:=10) sc_law_net.nd rfl (Or.inl rfl)) pgs_nil)))
    (pss_one (ps_expr (pe_meth (pv 4) Tx.cl_Net Tx.me_Net_add_trip (ok_Net_add_trip Tx) (hr.mono (by omega)) Tx.b_Net_add_trip .nil pass0 (pac (pv 6) (pac pe_str (pac (pe_callTy call_list_of rfl Tx.z_list b_list (pac (pv 10) pa_nil)) pa_nil)))))))
    (pss_one (ps_ret (pv 4)))))))),?_⟩
  intro x dx nx ndx nex
  refine ⟨x,H,rfl,nx,same_put (same_new ndx _) nx _,⟨dx,upd_same⟩,fun H1 ds dr dt dp s1 hN hW=>⟨rfl,?_⟩⟩
  refine ⟨_,rfl,ln,rfl,⟨_,SqL.of (s1 _ _ hln)⟩,for_enum (xs:=NS.map V.str) (fun i σ H'=>Same H H'∧NetO t H' x ds dr dt dp ⟨stL NS ZS i,[],[],[]⟩∧∃ v5 v6 v7 v8 v9 v10:Option V,σ = [some (.ref ln),some (.ref lz),some (.ref lt),some (.ref lp),some (.ref x),v5,v6,v7,v8,v9,v10]) ⟨s1,hN,_,_,_,_,_,_,rfl⟩ (fun i σ H' _ ⟨s',_⟩=>SqL.of (s' _ _ hln)) ?_ ?_⟩
  · rintro i v pp σ H2 hv hpp ⟨s2,hN2,v5,v6,v7,v8,v9,v10,rfl⟩
    rw [List.getElem?_map] at hv
    cases ez:NS[i]? with
    | none=>rw [ez] at hv; cases hv
    | some z =>
      rw [ez] at hv
      obtain rfl:V.str z = v:=Option.some.inj hv
      have hi:=(List.getElem?_eq_some_iff.mp ez).1
      have egd:NS.getD i Str.empty = z:=by rw [List.getD_eq_getElem?_getD,ez]; rfl
      have hzi:i < ZS.length:=by omega
      have ezd:ZS.getD i 0 = ZS[i]:=by rw [List.getD_eq_getElem?_getD,List.getElem?_eq_getElem hzi]; rfl
      have mz:=okZ _ (List.getElem_mem hzi)
      have s3:=s2.trans (same_new hpp (.tup [.int (i:Nat),.str z]))
      have hN3:=hN2.same (same_new hpp (.tup [.int (i:Nat),.str z]))
      obtain ⟨dx3,fs3,f1,f2⟩:=hN3.ob
      have eat:atI (natV ZS) ((i:Nat):Int) = some (.int ((ZS[i]:Nat):Int)):=atI_nat (by unfold natV; rw [List.getElem?_map,List.getElem?_eq_getElem hzi]; rfl)
      refine ⟨pp,_,rfl,SqT.of upd_same,rfl,_,_,rfl,_,_,rfl,rfl,?_⟩
      refine ⟨_,rfl,x,dx3,_,rfl,f1,f2.n7,_,rfl,_,rfl,_,rfl,lz,_,_,_,rfl,rfl,SqL.of (s3 _ _ hlz),eat,?_⟩
      refine ⟨x,ds,dr,dt,dp,_,⟨z,ZS[i],2⟩,H,rfl,hN3,hW,s3,okN z (List.mem_of_getElem? ez),mz.1,mz.2,(by show (2:Nat)≤30; decide),?_,?_,fun H4 s4 hN4=>?_⟩
      · have:=fresh_nm (nm:=Stp.nm) ndN (f:=fun i=>(⟨NS.getD i Str.empty,ZS.getD i 0,2⟩:Stp)) (fun i=>rfl) hi
        rw [egd] at this
        exact this
      · show (stL NS ZS i).length < 8
        unfold stL
        rw [List.length_map,List.length_range]; omega
      · refine ⟨s4,?_,_,_,_,_,_,_,rfl⟩
        rw [stL_take,egd,ezd]
        exact hN4
  · rintro σ H2 ⟨s2,hN2,v5,v6,v7,v8,v9,v10,rfl⟩
    have lenN:(NS.map V.str).length = NS.length:=List.length_map ..
    rw [lenN] at hN2
    obtain ⟨dx2,fs2,f1,f2⟩:=hN2.ob
    refine ⟨_,rfl,x,dx2,_,rfl,f1,f2.n8,?_⟩
    intro x3 dx3 nx3 ndx3 nex3
    have s3:=same_put (same_new ndx3 (.own x3)) nx3 (.ins t.c_Rule dx3 [])
    refine ⟨x,ds,dr,dt,dp,_,_,_,H,rfl,hN2.same s3,hW,s2.trans s3,all_name,⟨x3,dx3,rfl,upd_same⟩,rfl,fun H3 s4 hN3=>?_⟩
    refine ⟨_,rfl,lt,rfl,⟨_,SqL.of (s4 _ _ hlt)⟩,for_list (xs:=vt) (fun i σ H'=>Same H H'∧NetO t H' x ds dr dt dp ⟨stL NS ZS NS.length,[allS],TK.take i,[]⟩∧∃ v5 v6 v7 v8 v9 v10:Option V,σ = [some (.ref ln),some (.ref lz),some (.ref lt),some (.ref lp),some (.ref x),v5,v6,v7,v8,v9,v10]) ⟨s4,hN3,_,_,_,_,_,_,rfl⟩ (fun i σ H' _ ⟨s',_⟩=>SqL.of (s' _ _ hlt)) ?_ ?_⟩
    · rintro i v σ H4 hv ⟨s5,hN5,w5,w6,w7,w8,w9,w10,rfl⟩
      obtain ⟨k,ek,p,l5,rfl,hp,hz5⟩:=alT.get hv
      have hi:=(List.getElem?_eq_some_iff.mp ek).1
      obtain ⟨dx5,fs5,f1,f2⟩:=hN5.ob
      refine ⟨p,_,rfl,SqT.of (s5 _ _ hp),rfl,_,_,rfl,_,_,rfl,_,_,rfl,_,_,rfl,rfl,?_⟩
      refine ⟨_,rfl,x,dx5,_,rfl,f1,f2.n9,_,rfl,_,rfl,_,rfl,_,rfl,l5,_,rfl,.inl (SqL.of (s5 _ _ hz5)),fun l' hl'=>?_⟩
      have s6:=same_new hl' (.lst (natV (zonesOf k.b)))
      refine ⟨x,ds,dr,dt,dp,_,k,l',H,rfl,hN5.same s6,hW,s5.trans s6,upd_same,okT k (List.mem_of_getElem? ek),fnd_nodup ndT ek,by show (TK.take i).length < 3; rw [List.length_take]; omega,fun H6 s7 hN6=>?_⟩
      refine ⟨s7,?_,_,_,_,_,_,_,rfl⟩
      rw [show TK.take (i + 1) = TK.take i ++ [k] by rw [List.take_add_one,ek]; rfl]
      exact hN6
    · rintro σ H4 ⟨s5,hN5,w5,w6,w7,w8,w9,w10,rfl⟩
      rw [alT.length,List.take_length] at hN5
      refine ⟨_,rfl,lp,rfl,⟨_,SqL.of (s5 _ _ hlp)⟩,for_list (xs:=vp) (fun i σ H'=>Same H H'∧NetO t H' x ds dr dt dp ⟨stL NS ZS NS.length,[allS],TK,tpL ns NS TN i⟩∧i≤TN.length∧∃ v5 v6 v7 v8 v9 v10:Option V,σ = [some (.ref ln),some (.ref lz),some (.ref lt),some (.ref lp),some (.ref x),v5,v6,v7,v8,v9,v10]) ⟨s5,hN5,Nat.zero_le _,_,_,_,_,_,_,rfl⟩ (fun i σ H' _ ⟨s',_⟩=>SqL.of (s' _ _ hlp)) ?_ ?_⟩
      · rintro i v σ H7 hv ⟨s8,hN8,li,u5,u6,u7,u8,u9,u10,rfl⟩
        obtain ⟨tr,etr,p,lc,vc,rfl,hp,hlc,alc⟩:=alP.get hv
        obtain ⟨hi,rfl⟩:=tpL_get etr
        obtain ⟨dx8,fs8,f1,f2⟩:=hN8.ob
        have egd:TN.getD i Str.empty = TN[i]:=by rw [List.getD_eq_getElem?_getD,List.getElem?_eq_getElem hi]; rfl
        refine ⟨p,_,rfl,SqT.of (s8 _ _ hp),rfl,_,_,rfl,_,_,rfl,rfl,?_⟩
        refine ⟨_,rfl,x,dx8,_,rfl,f1,f2.n0,_,rfl,_,rfl,lc,_,rfl,.inl (SqL.of (s8 _ _ hlc)),fun l' hl'=>?_⟩
        have s9:=same_new hl' (.lst vc)
        have S9:=s8.trans s9
        have ok9:ClsOk ⟨stL NS ZS NS.length,[allS],TK,tpL ns NS TN i⟩ (callsF ns ((50 + 8 * i:Nat):Int) NS):=calls_ok ndN n2 (stL_nm NS ZS)
        refine ⟨x,ds,dr,dt,dp,_,⟨TN.getD i Str.empty,allS,callsF ns ((50 + 8 * i:Nat):Int) NS⟩,l',vc,H,rfl,hN8.same s9,hW,S9,upd_same,alc.imp fun _ _=>ClAt.same S9,ok9,by rw [egd]; exact okP _ (List.getElem_mem hi),List.mem_singleton.mpr rfl,?_,?_,fun H9 s11 w11 hN11=>?_⟩
        · exact fresh_nm (nm:=Tp.nm) ndP (f:=fun i=>(⟨TN.getD i Str.empty,allS,callsF ns ((50 + 8 * i:Nat):Int) NS⟩:Tp)) (fun i=>rfl) hi
        · show (tpL ns NS TN i).length < 10
          rw [tpL_len]
          omega
        · refine ⟨s11,?_,by omega,_,_,_,_,_,_,rfl⟩
          rw [tpL_take]
          exact hN11
      · rintro σ H7 ⟨s8,hN8,li,u5,u6,u7,u8,u9,u10,rfl⟩
        rw [alP.length,tpL_len] at hN8
        exact ⟨_,rfl,q x H7 s8 ⟨ds,dr,dt,dp,hN8⟩⟩
theorem cut_to (xs:List V) (n:Nat):cutV xs none (some (n:Int)) = xs.take n:=by
  unfold cutV
  rw [HT.sIx_none,HT.sIx_nat,List.drop_zero,Nat.sub_zero]
  rcases Nat.le_total n xs.length with h | h
  · rw [Nat.min_eq_left h]
  · rw [Nat.min_eq_right h,List.take_length,List.take_of_length_le h]
theorem cut_from (xs:List V) (n:Nat):cutV xs (some (n:Int)) none = xs.drop n:=by
  unfold cutV
  rw [HT.sIx_none,HT.sIx_nat]
  rcases Nat.le_total n xs.length with h | h
  · rw [Nat.min_eq_left h,List.take_of_length_le (by rw [List.length_drop]; exact Nat.le_refl _)]
  · rw [Nat.min_eq_right h,Nat.sub_self,List.take_zero,List.drop_eq_nil_of_le h]
theorem at_mod {α:Type} {R:V→α→Prop} {vs:List V} {xs:List α} (h:Al R vs xs) (hn:xs≠[]) (d:Nat):(0:Int) < (vs.length:Nat)∧∃ v x,atI vs ((d:Int) % (vs.length:Nat)) = some v∧R v x∧x∈xs:=by
  have hl:=h.length
  have pos:0 < vs.length:=by
    rw [hl]
    exact List.length_pos_iff.mpr hn
  refine ⟨by omega,?_⟩
  have hlt:d % vs.length < vs.length:=Nat.mod_lt _ pos
  obtain ⟨x,ex,hx⟩:=h.get (List.getElem?_eq_getElem hlt)
  refine ⟨vs[d % vs.length],x,?_,hx,List.mem_of_getElem? ex⟩
  have:atI vs ((d % vs.length:Nat):Int) = some vs[d % vs.length]:=atI_nat (List.getElem?_eq_getElem hlt)
  rw [Int.natCast_emod] at this
  exact this
def spRides (t:Adr) (K:W.Frag):Sp:=fun vs H Q _=>∃ (a n ln lz lp:Addr) (ns:List Int) (NS TN:List Str) (ZS:List Nat) (TK:List Tk) (vp:List V),vs = [.ref a,.ref n,.ref ln,.ref lz,.ref lp]∧SqL K H a (ns.map V.int)∧NetAt t H n (netL ns NS TN ZS TK) ∧
  H ln = some (.lst (NS.map V.str))∧2≤NS.length∧NS.length≤8∧NS.Nodup∧H lz = some (.lst (natV ZS))∧ZS.length = NS.length∧(∀ z∈ZS,1≤z∧z≤6)∧TN.Nodup∧1≤TN.length∧H lp = some (.lst vp)∧Al (TrAt H) vp (tpL ns NS TN TN.length) ∧
  ∀ (R:List Rd) (vs:List V) l H',Same H H'→H l = none→H' l = some (.lst vs)→Al (RdAt H') vs R→R.length≤4→(∀ r∈R,r.b < 64)→R.Pairwise (fun x y=>x.mo≤y.mo)→Q (.ref l) H'
theorem ok_law_rides (Tx:Tab K mg t):FnOk P w K mg base CX0 7 t.f_law_rides t.d_law_rides ["_law_script","_law_net_here","_law_names_here","_law_zones_here","_law_trips"] (spRides t K):=by
  refine Tx.F_law_rides.ok sc_law_rides (fun vs H Q E h=>?_) (fun cdv A outer s H vs Q E hr h=>?_)
  · obtain ⟨a,n,ln,lz,lp,ns,NS,TN,ZS,TK,vp,rfl,_⟩:=h
    rfl
  obtain ⟨a,n,ln,lz,lp,ns,NS,TN,ZS,TK,vp,rfl,hS,hA,hln,n2,n8,ndN,hlz,lenZ,okZ,ndP,n1,hlp,alP,q⟩:=h
  have hG:=net_good (ns:=ns) (NS:=NS) (TN:=TN) (TK:=TK) okZ lenZ
  have neP:tpL ns NS TN TN.length≠[]:=fun e=>by
    have:=congrArg List.length e
    rw [tpL_len] at this
    have:TN.length = 0:=this
    omega
  refine ⟨_,(pss_cons (ps_set (i:=5) sc_law_rides.nd rfl (Or.inl rfl) (pe_lst pa_nil))
    (pss_cons (ps_set (i:=6) sc_law_rides.nd rfl (Or.inl rfl) (pe_op op_mul pe_int (pe_op op_mod (pe_call (ok_law_draw Tx) (hr.mono (by omega)) rfl Tx.m_law_draw Tx.F_law_draw.kp Tx.b_law_draw .nil pass0 (pac (pv 0) (pac pe_int pa_nil))) pe_int)))
    (pss_cons (ps_for PassesOwn.never rfl (pi_range1 rfl Tx.z_range (pac (pe_op op_add pe_int (pe_op op_mod (pe_call (ok_law_draw Tx) (hr.mono (by omega)) rfl Tx.m_law_draw Tx.F_law_draw.kp Tx.b_law_draw .nil pass0 (pac (pv 0) (pac pe_int pa_nil))) pe_int)) pa_nil)) (pg_name (i:=7) sc_law_rides.nd rfl (Or.inl rfl))
    (pss_cons (ps_set (i:=8) sc_law_rides.nd rfl (Or.inl rfl) (pe_call (ok_law_draw Tx) (hr.mono (by omega)) rfl Tx.m_law_draw Tx.F_law_draw.kp Tx.b_law_draw .nil pass0 (pac (pv 0) (pac (pe_op op_add pe_int (pv 7)) pa_nil))))
    (pss_cons (ps_asg (pe_ix ix_list (pv 4) (pe_op op_mod (pv 8) (pe_callB call_len_seq rfl Tx.z_len b_len (pac (pv 4) pa_nil))) (fun _ _=>rfl)) (pg_tup rfl (pgs_cons (pg_name (i:=9) sc_law_rides.nd rfl (Or.inl rfl)) (pgs_cons (pg_name (i:=10) sc_law_rides.nd rfl (Or.inl rfl)) pgs_nil))))
    (pss_cons (ps_set (i:=11) sc_law_rides.nd rfl (Or.inl rfl) (pe_op op_mod (pe_op op_fdiv (pv 8) pe_int) (pe_op op_sub (pe_callB call_len_seq rfl Tx.z_len b_len (pac (pv 10) pa_nil)) pe_int)))
    (pss_cons (ps_set (i:=12) sc_law_rides.nd rfl (Or.inl rfl) (pe_op op_add (pe_op op_add (pv 11) pe_int) (pe_op op_mod (pe_op op_fdiv (pv 8) pe_int) (pe_op op_sub (pe_op op_sub (pe_callB call_len_seq rfl Tx.z_len b_len (pac (pv 10) pa_nil)) pe_int) (pv 11)))))
    (pss_cons (ps_set (i:=13) sc_law_rides.nd rfl (Or.inl rfl) (pe_call (ok_law_bits Tx) (hr.mono (by omega)) rfl Tx.m_law_bits Tx.F_law_bits.kp Tx.b_law_bits .nil pass0 (pac (pe_callB (call_sortedI rfl) rfl Tx.z_sorted b_sorted (pac (pe_callTy (call_setI rfl) rfl Tx.z_set b_set (pac (pe_comp (cl:=[(Str.ofString "_law_zones_here",s.heap.objs.size + 2),(Str.ofString "_law_names_here",s.heap.objs.size + 1)]) (N:=["_law_call","_law_zones_here","_law_names_here"]) (fr:=[none,some 3,some 2]) rfl (pi_list (pe_slice sl_list (pv 10) (po_some (pv 11)) (po_some (pe_op op_add (pv 12) pe_int)))) rfl (by decide +kernel) rfl (by decide +kernel) ⟨⟨rfl,Or.inl rfl,Or.inl rfl,_,rfl,rfl⟩,⟨⟨rfl,Or.inl rfl,Or.inl rfl,_,rfl,rfl⟩,trivial⟩⟩ ⟨rfl,⟨rfl,trivial⟩⟩ rfl (fun _ _ _ _ _=>(pg_name (i:=0) (show List.Nodup (["_law_call","_law_zones_here","_law_names_here"]:List Str) by decide +kernel) rfl (Or.inl rfl))) (fun _ _ _ _ _=>pts_nil) (fun _ _ _ _ _=>(pe_ix (show IxR _ (rIxL K) from ix_list) (pv 1) (show PE _ _ (tBM K "list" _ _ _) from (pe_bm PySem.F.plainAttrs_list PySem.F.slot_list_index PySem.F.type_list_index mt_index (pv 2) (pac (pe_ix (show IxR _ (rIxT K) from ix_tup) (pv 0) pe_int (fun _ _=>rfl)) pa_nil))) (fun _ _=>rfl)))) pa_nil)) pa_nil)) pa_nil)))
    (pss_cons (ps_if (pt_cmpR op_ne (pe_call (ok_zones_of Tx) (hr.mono (by omega)) rfl Tx.m_zones_of Tx.F_zones_of.kp Tx.b_zones_of .nil pass0 (pac (pv 1) (pac (pv 9) (pac (pv 11) (pac (pv 12) pa_nil))))) (pv 13) (nomark _))
    (pss_one (ps_ret pe_non))
    pss_nil)
    (pss_cons (ps_set (i:=6) sc_law_rides.nd rfl (Or.inl rfl) (pe_op op_add (pe_op op_add (pv 6) (pe_ix ix_list (pe_lst (pac pe_int (pac pe_int (pac pe_int (pac pe_int pa_nil))))) (pe_op op_mod (pe_op op_fdiv (pv 8) pe_int) pe_int) (fun _ _=>rfl))) (pe_op op_mod (pe_op op_fdiv (pv 8) pe_int) pe_int)))
    (pss_one (ps_expr (pe_bm PySem.F.plainAttrs_list PySem.F.slot_list_append PySem.F.type_list_append mt_append (pv 5) (pac (pe_tup (pac (pv 13) (pac (pv 6) pa_nil))) pa_nil))))))))))))
    (pss_one (ps_ret (pv 5)))))),?_⟩
  refine ⟨by show 0≤sizeLine; decide,fun lf jf=>?_⟩
  have tf:=same_new jf (.lst [])
  refine ⟨_,rfl,a,ns,100,rfl,tf.seq hS,by decide,by decide,fun d0 H1 hd0 s1=>?_⟩
  refine ⟨_,_,rfl,rfl,(by show (0:Int) < 9000; decide),_,_,rfl,rfl,.inl ⟨by decide,by decide⟩,?_⟩
  have S1:=tf.trans s1
  refine ⟨_,rfl,a,ns,101,rfl,S1.seq hS,by decide,by decide,fun d1 H2 hd1 s2=>?_⟩
  refine ⟨_,_,rfl,rfl,(by show (0:Int) < 4; decide),_,_,rfl,rfl,_,rfl,by omega,by omega,for_range (n:=((1:Int) + ((d1:Nat):Int) % 4).toNat) (fun i σ H'=>Same H H'∧∃ (R:List Rd) (vs:List V) (mo:Int) (v7 v8 v9 v10 v11 v12 v13:Option V),σ = [some (.ref a),some (.ref n),some (.ref ln),some (.ref lz),some (.ref lp),some (.ref lf),some (.int mo),v7,v8,v9,v10,v11,v12,v13]∧H' lf = some (.lst vs)∧Al (RdAt (wo H' lf)) vs R∧R.length = i∧(∀ r∈R,r.b < 64)∧R.Pairwise (fun x y=>x.mo≤y.mo)∧∀ r∈R,r.mo≤mo)
    ⟨S1.trans s2,[],[],_,_,_,_,_,_,_,_,rfl,(s1.trans s2) _ _ upd_same,.nil,rfl,fun r hr=>by (cases hr),.nil,fun r hr=>by (cases hr)⟩ ?_ ?_⟩
  · rintro i σ H3 hi ⟨s3,R,vs,mo,v7,v8,v9,v10,v11,v12,v13,rfl,hlf3,al3,lenR,okR,srt,ub⟩
    have i4:i < 4:=by omega
    refine ⟨_,rfl,_,rfl,_,_,rfl,rfl,a,ns,_,rfl,s3.seq hS,by omega,by omega,fun d H4 hd s4=>?_⟩
    have S4:=s3.trans s4
    obtain ⟨hpos,vx,tr,eat,hTr,mTr⟩:=at_mod (alP.imp fun _ _=>TrAt.same S4) neP d
    obtain ⟨k,ek⟩:=List.getElem?_of_mem mTr
    obtain ⟨hk,rfl⟩:=tpL_get ek
    obtain ⟨p,lc,vc,rfl,hp,hlc,alc⟩:=hTr
    refine ⟨_,rfl,_,rfl,_,rfl,lp,_,rfl,.inl (SqL.of (S4 _ _ hlp)),_,_,rfl,rfl,hpos,lp,_,_,_,rfl,rfl,SqL.of (S4 _ _ hlp),eat,p,_,rfl,SqT.of hp,rfl,_,_,rfl,_,_,rfl,rfl,?_⟩
    have etp:fnd Tp.nm (netL ns NS TN ZS TK).tp (TN.getD k Str.empty) = some ⟨TN.getD k Str.empty,allS,callsF ns ((50 + 8 * k:Nat):Int) NS⟩:=fnd_uniq (nm:=Tp.nm) (by show ((tpL ns NS TN TN.length).map Tp.nm).Nodup; rw [tpL_nm]; exact ndP) (List.mem_of_getElem? ek)
    have alc:Al (ClAt H4) vc (callsF ns ((50 + 8 * k:Nat):Int) NS):=alc
    generalize hcs:callsF ns ((50 + 8 * k:Nat):Int) NS = cs at etp alc
    have okc:ClsOk (netL ns NS TN ZS TK) cs:=by rw [← hcs]; exact calls_ok ndN n2 (stL_nm NS ZS)
    have idx:∀ c∈cs,∃ j,j < NS.length∧c.st = NS.getD j Str.empty:=fun c hc=>by
      rw [← hcs] at hc
      obtain ⟨j,_,rfl⟩:=List.mem_map.mp hc
      exact ⟨_,sC_lt _ _ _ (by omega) _,rfl⟩
    have lc2:=alc.length
    have c2:=okc.two
    have c6:=okc.six
    refine ⟨_,rfl,_,_,rfl,rfl,⟨by decide,by decide⟩,_,rfl,lc,_,rfl,.inl (SqL.of hlc),_,_,rfl,rfl,_,_,rfl,rfl,(by show (0:Int) < (vc.length:Nat) - 1; omega),?_⟩
    obtain ⟨b,eb,lb⟩:∃ b:Nat,((d:Nat):Int) / 8 % (((vc.length:Nat):Int) - 1) = ((b:Nat):Int)∧b + 1 < cs.length:=by
      refine ⟨d / 8 % (vc.length - 1),?_,?_⟩
      · rw [show ((vc.length:Nat):Int) - 1 = ((vc.length - 1:Nat):Int) by omega]
        rfl
      · have:=Nat.mod_lt (d / 8) (show 0 < vc.length - 1 by omega)
        omega
    dsimp only
    rw [eb]
    refine ⟨_,rfl,_,_,rfl,rfl,_,rfl,_,_,rfl,rfl,⟨by decide,by decide⟩,_,rfl,lc,_,rfl,.inl (SqL.of hlc),_,_,rfl,rfl,_,rfl,_,_,rfl,rfl,_,_,rfl,rfl,(by show (0:Int) < (vc.length:Nat) - 1 - (b:Nat); omega),_,_,rfl,rfl,?_⟩
    obtain ⟨o,eo,lo,ho⟩:∃ o:Nat,((b:Nat):Int) + 1 + ((d:Nat):Int) / 64 % (((vc.length:Nat):Int) - 1 - ((b:Nat):Int)) = ((o:Nat):Int)∧b < o∧o < cs.length:=by
      refine ⟨b + 1 + d / 64 % (vc.length - 1 - b),?_,by omega,?_⟩
      · rw [show ((vc.length:Nat):Int) - 1 - ((b:Nat):Int) = ((vc.length - 1 - b:Nat):Int) by omega]
        rfl
      · have:=Nat.mod_lt (d / 64) (show 0 < vc.length - 1 - b by omega)
        omega
    dsimp only
    rw [eo]
    refine ⟨_,rfl,_,rfl,_,rfl,_,rfl,_,_,rfl,rfl,_,rfl,lc,_,rfl,SqL.of hlc,fun l2 hl2=>?_⟩
    rw [show cutV vc (some ((b:Nat):Int)) (some (((o:Nat):Int) + 1)) = (vc.drop b).take (o + 1 - b) from cut_mid vc b (o + 1) (by omega) (by omega)]
    have s5:=same_new hl2 (.lst ((vc.drop b).take (o + 1 - b)))
    have S5:=S4.trans s5
    have al2:=((alc.drop b).take (o + 1 - b)).imp fun _ _=>ClAt.same s5
    have len2:((cs.drop b).take (o + 1 - b)).length≤6:=by rw [List.length_take,List.length_drop]; omega
    have rngZ:∀ z∈((cs.drop b).take (o + 1 - b)).map (fun c=>zoneM (netL ns NS TN ZS TK) c.st),1≤z∧z≤6:=fun z hz=>by
      obtain ⟨c,hc,rfl⟩:=List.mem_map.mp hz
      obtain ⟨j0,hj0,ej⟩:=idx c (List.mem_of_mem_drop (List.mem_of_mem_take hc))
      unfold zoneM
      have:=zone_at (ZS:=ZS) (ru:=[]) (tk:=[]) (tp:=[]) ndN hj0
      rw [ej,show fnd Stp.nm (netL ns NS TN ZS TK).st (NS.getD j0 Str.empty) = _ from this]
      exact hG _ (fnd_mem this).1
    refine ⟨l2,rfl,⟨_,SqL.of upd_same⟩,comp_list (K:=K) (a:=l2) (xs:=(vc.drop b).take (o + 1 - b)) (fun m acc σ H'=>H' = upd H4 l2 (.lst ((vc.drop b).take (o + 1 - b)))∧(∃ v,σ = [v,some (.ref lz),some (.ref ln)])∧acc = natV ((((cs.drop b).take (o + 1 - b)).take m).map fun c=>zoneM (netL ns NS TN ZS TK) c.st)) ⟨rfl,⟨_,rfl⟩,rfl⟩
      (by rw [al2.length]; exact Nat.le_trans len2 (by decide)) (fun m acc σ H' _ ⟨e,_⟩=>by rw [e]; exact SqL.of upd_same) ?_ ?_⟩
    · rintro m y acc σ H' hm hy ⟨rfl,⟨v,rfl⟩,rfl⟩
      obtain ⟨c,ec,pc,rfl,hpc⟩:=al2.get hy
      obtain ⟨j0,hj0,ej⟩:=idx c (List.mem_of_mem_drop (List.mem_of_mem_take (List.mem_of_getElem? ec)))
      have hj0z:j0 < ZS.length:=by omega
      have zat:=zone_at (ZS:=ZS) (ru:=[]) (tk:=[]) (tp:=[]) ndN hj0
      have ezm:zoneM (netL ns NS TN ZS TK) c.st = ZS[j0]:=by
        unfold zoneM
        rw [ej,show fnd Stp.nm (netL ns NS TN ZS TK).st (NS.getD j0 Str.empty) = _ from zat]
        show ZS.getD j0 0 = _
        rw [List.getD_eq_getElem?_getD,List.getElem?_eq_getElem hj0z]; rfl
      have eat:atI (natV ZS) ((j0:Nat):Int) = some (.int ((ZS[j0]:Nat):Int)):=atI_nat (by unfold natV; rw [List.getElem?_map,List.getElem?_eq_getElem hj0z]; rfl)
      have egd:NS.getD j0 Str.empty = NS[j0]:=by rw [List.getD_eq_getElem?_getD,List.getElem?_eq_getElem hj0]; rfl
      dsimp only [gName,tTrue]
      rw [if_pos rfl]
      refine ⟨_,rfl,_,rfl,.inl ⟨rfl,_,SqL.of (S5 _ _ hln)⟩,_,rfl,pc,_,0,_,rfl,rfl,SqT.of hpc,rfl,ln,_,_,j0,.str NS[j0],rfl,rfl,S5 _ _ hln,rfl,?_,?_,?_,?_,lz,_,_,_,rfl,rfl,SqL.of (S5 _ _ hlz),eat,?_⟩
      · rw [List.all_eq_true]
        intro v hv
        obtain ⟨z,_,rfl⟩:=List.mem_map.mp hv
        rfl
      · rw [List.getElem?_map,List.getElem?_eq_getElem hj0]; rfl
      · show (NS[j0] == c.st) = true
        rw [ej,egd]; exact beq_self_eq_true _
      · intro m' z' hm' ez'
        rw [List.getElem?_map] at ez'
        cases en:NS[m']? with
        | none=>rw [en] at ez'; cases ez'
        | some w =>
          rw [en] at ez'
          obtain rfl:V.str w = z':=Option.some.inj ez'
          show (w == c.st) = false
          rw [beq_eq_false_iff_ne,ej,egd]
          intro e
          obtain ⟨h1,h2⟩:=List.getElem?_eq_some_iff.mp en
          rw [← h2] at e
          have:=(List.getElem_inj ndN).mp e
          omega
      · refine ⟨by rw [List.length_append,List.length_singleton]; omega,rfl,⟨_,rfl⟩,?_⟩
        rw [List.take_add_one,ec,List.map_append]
        unfold natV
        rw [List.map_append]
        show _ ++ [V.int ((ZS[j0]:Nat):Int)] = _ ++ [V.int ((zoneM (netL ns NS TN ZS TK) c.st:Nat):Int)]
        rw [ezm]
    · rintro acc σ H' ha ⟨rfl,⟨v,rfl⟩,rfl⟩ p2 g2
      rw [al2.length,List.take_length]
      generalize hzs:((cs.drop b).take (o + 1 - b)).map (fun c=>zoneM (netL ns NS TN ZS TK) c.st) = zs at rngZ
      have lzs:zs.length≤6:=by rw [← hzs,List.length_map]; exact len2
      have s6:=same_new g2 (.lst (natV zs))
      refine ⟨p2,_,rfl,SqL.of (by rw [upd_same,nat_ints zs]),by rw [List.length_map]; omega,fun ls hls=>?_⟩
      refine ⟨ls,_,rfl,upd_same,by rw [List.length_map]; omega,fun lm ys hlm pw mem le=>?_⟩
      have s7:=same_new hls (setO P w ls (zs.map fun n=>((n:Nat):Int)))
      have s8:=same_new hlm (.lst (ys.map V.int))
      obtain ⟨ey,up,my⟩:=nat_of pw mem
      have T8:=((s5.trans s6).trans s7).trans s8
      have hlm8:∀ {H:Hp},upd H lm (.lst (ys.map V.int)) lm = some (.lst (natV (ys.map Int.toNat))):=by rw [ey]; exact upd_same
      refine ⟨lm,ys.map Int.toNat,rfl,SqL.of hlm8,fun z hz=>rngZ z ((my z).mp hz),?_,fun H9 s9=>?_⟩
      · rw [List.length_map]
        have:=le
        rw [List.length_map] at this
        omega
      rw [sum_zb rngZ up my]
      have T9:=T8.trans s9
      clear hlm8 s5 S5 s6 s7 s8 T8 al2 g2 hls hlm hl2
      have S9:=S4.trans T9
      refine ⟨_,rfl,_,rfl,_,rfl,_,rfl,n,_,_,_,b,o,rfl,hA.same S9,hG,etp,lo,ho,c6,okc.st,fun H10 s10=>?_⟩
      have ezs:((((⟨TN.getD k Str.empty,allS,cs⟩:Tp).cs.drop b).take (o + 1 - b)).map fun c=>zoneM (netL ns NS TN ZS TK) c.st) = zs:=hzs
      rw [ezs]
      refine ⟨_,rfl,rfl,_,rfl,itF (by show ¬ (!decide (V.int ((zb zs:Nat):Int) = V.int ((zb zs:Nat):Int))) = true; simp) ?_⟩
      have S10:=S9.trans s10
      have hlf10:=((s4.trans T9).trans s10) _ _ hlf3
      have al10:=al3.imp fun _ _=>RdAt.same (wo_mono (l:=lf) ((s4.trans T9).trans s10))
      obtain ⟨vm,em,m1,rfl⟩:=at_all (p:=fun v=>∃ m:Nat,v = .int (m:Nat)) (xs:=[.int 0,.int 5,.int 40,.int 300]) (d:=((d:Nat):Int) / 1024 % 4) (fun v hv=>by
        simp only [List.mem_cons,List.not_mem_nil,or_false] at hv
        rcases hv with rfl | rfl | rfl | rfl
        · exact ⟨0,rfl⟩
        · exact ⟨5,rfl⟩
        · exact ⟨40,rfl⟩
        · exact ⟨300,rfl⟩) (by omega) (by show ((d:Nat):Int) / 1024 % 4 < 4; omega)
      refine ⟨_,rfl,by show 4≤sizeLine; decide,fun p11 j11=>?_⟩
      have t11:=same_new j11 (.lst [.int 0,.int 5,.int 40,.int 300])
      refine ⟨_,rfl,_,_,rfl,rfl,⟨by decide,by decide⟩,_,_,rfl,rfl,(by show (0:Int) < 4; decide),p11,_,_,_,rfl,rfl,SqL.of upd_same,em,_,_,rfl,rfl,_,rfl,_,_,rfl,rfl,⟨by decide,by decide⟩,_,_,rfl,rfl,(by show (0:Int) < 30; decide),_,_,rfl,rfl,?_⟩
      have S11:=S10.trans t11
      have hlf11:=t11 _ _ hlf10
      have al11:=al10.imp fun _ _=>RdAt.same (wo_mono (l:=lf) t11)
      generalize upd H10 p11 (.lst [.int 0,.int 5,.int 40,.int 300]) = H11 at S11 hlf11 al11 ⊢
      refine ⟨_,rfl,.inl ⟨rfl,_,SqL.of hlf11⟩,_,rfl,_,rfl,by show 2≤sizeLine; decide,fun pn gn=>?_⟩
      have npn:pn≠lf:=fun e=>by rw [e,hlf11] at gn; cases gn
      have t12:=same_new gn (.tup [.int ((zb zs:Nat):Int),.int (mo + ((m1:Nat):Int) + ((d:Nat):Int) / 8192 % 30)])
      refine ⟨lf,_,_,rfl,rfl,t12 _ _ hlf11,Nat.lt_of_le_of_lt (show vs.length≤4 by rw [al3.length]; omega) (by decide),?_⟩
      refine ⟨same_put (S11.trans t12) jf _,R ++ [⟨zb zs,mo + ((m1:Nat):Int) + ((d:Nat):Int) / 8192 % 30⟩],vs ++ [.ref pn],_,_,_,_,_,_,_,_,rfl,upd_same,?_,by rw [List.length_append,List.length_singleton,lenR],?_,?_,?_⟩
      · rw [wo_upd]
        exact (al11.imp fun _ _=>RdAt.same (wo_mono t12)).snoc ⟨pn,rfl,wo_at upd_same npn⟩
      · intro r hr'
        rcases List.mem_append.mp hr' with h | h
        · exact okR r h
        · rw [List.mem_singleton] at h; subst h; exact zb_lt rngZ
      · rw [List.pairwise_append]
        refine ⟨srt,List.pairwise_singleton ..,fun x hx y hy=>?_⟩
        rw [List.mem_singleton] at hy
        subst hy
        have:=ub x hx
        show x.mo≤mo + ((m1:Nat):Int) + ((d:Nat):Int) / 8192 % 30
        omega
      · intro r hr'
        rcases List.mem_append.mp hr' with h | h
        · have:=ub r h
          omega
        · rw [List.mem_singleton] at h; subst h; exact Int.le_refl _
  · rintro σ H3 ⟨s3,R,vs,mo,v7,v8,v9,v10,v11,v12,v13,rfl,hlf3,al3,lenR,okR,srt,ub⟩
    exact ⟨_,rfl,q R vs lf H3 s3 jf hlf3 (al3.imp fun _ _=>RdAt.same wo_same) (by omega) okR srt⟩
def IsL (TK:List Tk) (R:List Rd) (o:Option Nat):Prop:=(o = none→∀ B p h,(∀ n∈B,n∈NSof TK)→Dz.rn (cp TK) none 0 R B≠some (p,h))∧∀ m,o = some m→(∃ B h,(∀ n∈B,n∈NSof TK)∧Dz.rn (cp TK) none 0 R B = some (m,h))∧∀ B p h,(∀ n∈B,n∈NSof TK)→Dz.rn (cp TK) none 0 R B = some (p,h)→m≤p
theorem rn_eq (TK:List Tk):Dy.run (stepS TK) (priceM TK) = Dz.rn (cp TK):=by rw [cp_step,cp_price]
theorem IsL.has {TK:List Tk} {R:List Rd} {o:Option Nat} {B:List (Option Str)} {p:Nat} {h:Option (Tk×Int)} (l:IsL TK R o) (hB:∀ n∈B,n∈NSof TK) (e:Dz.rn (cp TK) none 0 R B = some (p,h)):∃ m,o = some m∧m≤p:=by
  cases o with
  | none=>exact absurd e (l.1 rfl B p h hB)
  | some m=>exact ⟨m,rfl,(l.2 m rfl).2 B p h hB e⟩
theorem IsL.uniq {TK:List Tk} {R:List Rd} {o o':Option Nat} (l:IsL TK R o) (l':IsL TK R o'):o = o':=by
  cases o with
  | none =>
    cases o' with
    | none=>rfl
    | some m =>
      obtain ⟨B,h,hB,e⟩:=(l'.2 m rfl).1
      exact absurd e (l.1 rfl B m h hB)
  | some m =>
    obtain ⟨B,h,hB,e⟩:=(l.2 m rfl).1
    obtain ⟨m',rfl,l1⟩:=l'.has hB e
    obtain ⟨B',h',hB',e'⟩:=(l'.2 m' rfl).1
    have l2:=(l.2 m rfl).2 B' m' h' hB' e'
    rw [show m = m' by omega]
theorem findT_own {TK:List Tk} (nd:(TK.map (·.nm)).Nodup) {k:Tk} (h:k∈TK):findT TK k.nm = some k:=fnd_uniq (nm:=Tk.nm) nd h
theorem NS_mem {TK:List Tk} {z:Str} (h:some z∈NSof TK):∃ k∈TK,k.nm = z:=by
  unfold NSof at h
  rcases List.mem_cons.mp h with h | h
  · cases h
  · obtain ⟨k,hk,e⟩:=List.mem_map.mp h
    cases e
    exact ⟨k,hk,rfl⟩
theorem bst_isL {TK:List Tk} (nd:(TK.map (·.nm)).Nodup) (R:List Rd):IsL TK R (Dz.bst (cp TK) TK none R):=by
  have full:∀ B p h,(∀ n∈B,n∈NSof TK)→Dz.rn (cp TK) none 0 R B = some (p,h)→∃ m,Dz.bst (cp TK) TK none R = some m∧m≤p:=fun B p h hB e=>Dz.bst_full (c:=cp TK) (NS:=NSof TK) (fun z a hz ef=>(findT_mem ef).1) hB e
  refine ⟨fun n B p h hB e=>?_,fun m em=>⟨?_,fun B p h hB e=>?_⟩⟩
  · obtain ⟨m,em,_⟩:=full B p h hB e
    rw [n] at em; cases em
  · obtain ⟨B,g,hB,e⟩:=Dz.bst_sound (c:=cp TK) (NS:=NSof TK) (List.mem_cons_self ..) (fun a ha=>⟨a.nm,List.mem_cons_of_mem _ (List.mem_map.mpr ⟨a,ha,rfl⟩),findT_own nd ha⟩) em
    exact ⟨B,g,hB,e⟩
  · obtain ⟨m',em',l⟩:=full B p h hB e
    rw [em] at em'; cases em'; exact l
theorem isL_ahead {TK:List Tk} {R1 R2:List Rd} {o oa:Option Nat} (l:IsL TK (R1 ++ R2) o) (la:IsL TK R1 oa):noMore oa o = true:=by
  cases o with
  | none=>cases oa <;> rfl
  | some m =>
    obtain ⟨B,h,hB,e⟩:=(l.2 m rfl).1
    obtain ⟨B1,B2,p1,h1,rfl,e1,e2⟩:=Dz.run_split e
    obtain ⟨a,rfl,l1⟩:=la.has (fun n hn=>hB n (List.mem_append_left _ hn)) e1
    have e3:Dz.rn (cp TK) h1 (p1 + 0) R2 B2 = some (m,h):=e2
    rw [show Dz.rn (cp TK) h1 (p1 + 0) R2 B2 = _ from Dz.run_add] at e3
    cases ex:Dy.run (Dz.stp (cp TK)) (Dz.prc (cp TK)) h1 0 R2 B2 with
    | none=>rw [ex] at e3; cases e3
    | some x =>
      rw [ex] at e3
      obtain ⟨q0,g0⟩:=x
      have e4:some (p1 + q0,g0) = some (m,h):=e3
      injection e4 with e4
      injection e4 with e4 _
      exact decide_eq_true (by omega)
theorem isL_behind {TK:List Tk} {R1 R2:List Rd} {o ob:Option Nat} (srt:(R1 ++ R2).Pairwise fun x y=>x.mo≤y.mo) (l:IsL TK (R1 ++ R2) o) (lb:IsL TK R2 ob):noMore ob o = true:=by
  cases o with
  | none=>cases ob <;> rfl
  | some m =>
    obtain ⟨B,h,hB,e⟩:=(l.2 m rfl).1
    obtain ⟨B1,B2,p1,h1,rfl,e1,e2⟩:=Dz.run_split e
    obtain ⟨M,hM1,hM2⟩:∃ M:Int,(∀ r∈R1,r.mo≤M)∧∀ r∈R2,M≤r.mo:=by
      rw [List.pairwise_append] at srt
      obtain ⟨s1,s2,s3⟩:=srt
      cases R2 with
      | nil =>
        clear s2 s3 l lb e e2 hB
        have:∀ R:List Rd,∃ M:Int,∀ r∈R,r.mo≤M:=fun R=>by
          induction R with
          | nil=>exact ⟨0,fun r hr=>by (cases hr)⟩
          | cons r R ih =>
            obtain ⟨M,hM⟩:=ih
            refine ⟨if r.mo≤M then M else r.mo,fun x hx=>?_⟩
            rcases List.mem_cons.mp hx with rfl | hx
            · split <;> omega
            · have:=hM x hx
              split <;> omega
        obtain ⟨M,hM⟩:=this R1
        exact ⟨M,hM,fun r hr=>by (cases hr)⟩
      | cons r R2 =>
        refine ⟨r.mo,fun x hx=>s3 x hx r (List.mem_cons_self ..),fun x hx=>?_⟩
        rcases List.mem_cons.mp hx with rfl | hx
        · exact Int.le_refl _
        · exact (List.pairwise_cons.mp s2).1 x hx
    have b1:=Dz.run_bought (c:=cp TK) (NS:=NSof TK) (M:=M) (fun n hn=>hB n (List.mem_append_left _ hn)) hM1 (fun a u z=>by cases z) e1
    obtain ⟨B',q',g',hB',e',lq⟩:=Dz.suffix (c:=cp TK) (NS:=NSof TK) (M:=M) (fun n hn=>hB n (List.mem_append_right _ hn)) hM2 b1 e2
    obtain ⟨b,rfl,l1⟩:=lb.has hB' e'
    exact decide_eq_true (by omega)
theorem isL_both {TK:List Tk} {R1 R2:List Rd} {o:Option Nat} {a b:Nat} (l:IsL TK (R1 ++ R2) o) (la:IsL TK R1 (some a)) (lb:IsL TK R2 (some b)):noMore o (some (a + b)) = true:=by
  obtain ⟨B1,h1,hB1,e1⟩:=(la.2 a rfl).1
  obtain ⟨B2,h2,hB2,e2⟩:=(lb.2 b rfl).1
  obtain ⟨g,e3⟩:=Dz.none_any h1 e2
  have e4:Dz.rn (cp TK) none 0 (R1 ++ R2) (B1 ++ B2) = some (a + b,g):=by
    rw [show Dz.rn (cp TK) none 0 (R1 ++ R2) (B1 ++ B2) = _ from Dz.run_app e1]
    have:Dz.rn (cp TK) h1 (a + 0) R2 B2 = some (a + b,g):=by
      rw [show Dz.rn (cp TK) h1 (a + 0) R2 B2 = _ from Dz.run_add,show Dy.run (Dz.stp (cp TK)) (Dz.prc (cp TK)) h1 0 R2 B2 = _ from e3]
      rfl
    exact this
  obtain ⟨m,rfl,lm⟩:=l.has (fun n hn=>(List.mem_append.mp hn).elim (hB1 n) (hB2 n)) e4
  exact decide_eq_true lm
def shR (d:Int) (r:Rd):Rd:=⟨r.b,r.mo + d⟩
theorem isL_later {TK:List Tk} {R:List Rd} {o o':Option Nat} {d:Int} (l:IsL TK R o) (l':IsL TK (R.map (shR d)) o'):o' = o:=by
  have tr:∀ (B:List (Option Str)) (p:Nat),Dz.rn (cp TK) none p (R.map (shR d)) B = (Dz.rn (cp TK) none p R B).map fun x=>(x.1,x.2.map fun x=>(x.1,x.2 + d)):=fun B p=>Dz.run_later (c:=cp TK) (sh:=shR d) (d:=d) (h:=none) (fun _=>rfl) (fun _ _=>rfl)
  refine l'.uniq ⟨fun n B p h hB e=>?_,fun m em=>⟨?_,fun B p h hB e=>?_⟩⟩
  · rw [tr B 0] at e
    cases ex:Dz.rn (cp TK) none 0 R B with
    | none=>rw [ex] at e; cases e
    | some x=>exact l.1 n B x.1 x.2 hB ex
  · obtain ⟨B,h,hB,e⟩:=(l.2 m em).1
    refine ⟨B,h.map fun x=>(x.1,x.2 + d),hB,?_⟩
    rw [tr B 0,e]
    rfl
  · rw [tr B 0] at e
    cases ex:Dz.rn (cp TK) none 0 R B with
    | none=>rw [ex] at e; cases e
    | some x =>
      rw [ex] at e
      have e:some (x.1,x.2.map fun x=>(x.1,x.2 + d)) = some (p,h):=e
      injection e with e
      injection e with e _
      have:=(l.2 m em).2 B x.1 x.2 hB ex
      omega
theorem isL_fewer {TK:List Tk} (nd:(TK.map (·.nm)).Nodup) {R:List Rd} {o of_:Option Nat} (l:IsL TK R o) (l':IsL (TK.drop 1) R of_):noMore o of_ = true:=by
  cases of_ with
  | none=>cases o <;> rfl
  | some f =>
    obtain ⟨B,h,hB,e⟩:=(l'.2 f rfl).1
    have e2:Dz.rn (cp TK) none 0 R B = some (f,h):=Dz.run_fewer (c:=cp TK) (c':=cp (TK.drop 1)) (fun z a ef=>by
      obtain ⟨m1,m2⟩:=findT_mem ef
      have:=findT_own nd (List.mem_of_mem_drop m1)
      rw [m2] at this
      exact this) rfl rfl rfl rfl e
    obtain ⟨m,rfl,lm⟩:=l.has (fun n hn=>by
      have:=hB n hn
      cases n with
      | none=>exact List.mem_cons_self ..
      | some z =>
        obtain ⟨k,hk,rfl⟩:=NS_mem this
        exact List.mem_cons_of_mem _ (List.mem_map.mpr ⟨k,List.mem_of_mem_drop hk,rfl⟩)) e2
    exact decide_eq_true lm
def PrAt (TK:List Tk) (R:List Rd) (H:Hp) (o:Option Nat) (v:V):Prop:=(o = none∧v = .non)∨∃ p B h pt lb,o = some p∧v = .ref pt∧H pt = some (.tup [.int ((p:Nat):Int),.ref lb])∧H lb = some (.lst (B.map nmV))∧(∀ n∈B,n∈NSof TK)∧Dz.rn (cp TK) none 0 R B = some (p,h)
theorem use_least {W H:Hp} {n lr:Addr} {TK:List Tk} {vr:List V} {R:List Rd} {Q:VK} {E:XK} (sW:Same W H) (gW:W t.lt = none) (hT:TabLam t.lt lamPos lamQ H) (hN:TNet t W n TK) (okT:∀ k∈TK,k.Ok) (lenT:TK.length≤3) (hlr:H lr = some (.lst vr)) (alR:Al (RdAt H) vr R) (lenR:R.length≤5)
    (q:∀ o v H',IsL TK R o→Same (wo H t.lt) H'→TabLam t.lt lamPos lamQ H'→PrAt TK R H' o v→Q v H'):spLeast t K [.ref n,.ref lr] H Q E:=by
  obtain ⟨ps,eT⟩:=hT.at
  have gG:=same_wo sW gW
  refine ⟨n,lr,TK,vr,R,wo H t.lt,rfl,wo_same,if_pos rfl,hN.same gG,okT,lenT,wo_tab eT hlr (fun _ z=>by cases z),alR.imp fun _ _ ⟨p,e,h1⟩=>⟨p,e,wo_tab eT h1 (fun _ z=>by cases z)⟩,lenR,hT,fun no H' s' hT'=>?_,fun B p h hB e least pt lb H' s' hT' hpt hlb _=>?_⟩
  · rw [rn_eq] at no
    exact q none .non H' ⟨fun _=>no,fun m e=>by cases e⟩ s' hT' (.inl ⟨rfl,rfl⟩)
  · rw [rn_eq] at e least
    exact q (some p) (.ref pt) H' ⟨fun e=>by (cases e),fun m em=>by cases em; exact ⟨⟨B,h,hB,e⟩,least⟩⟩ s' hT' (.inr ⟨p,B,h,pt,lb,rfl,rfl,hpt,hlb,hB,e⟩)
theorem use_price {TK:List Tk} {R:List Rd} {H:Hp} {o:Option Nat} {v:V} {Q:VK} {E:XK} (h:PrAt TK R H o v) (q:Q (optV o) H):spPrice K [v] H Q E:=by
  rcases h with ⟨rfl,rfl⟩ | ⟨p,B,h,pt,lb,rfl,rfl,h1,h2,_⟩
  · exact ⟨.non,rfl,.inl ⟨rfl,q⟩⟩
  · exact ⟨.ref pt,rfl,.inr ⟨pt,p,lb,rfl,h1,q⟩⟩
theorem spent_of {TK:List Tk}:∀ {R:List Rd} {B:List (Option Str)} {h:Option (Tk×Int)} {p:Nat},B.length = R.length→spentM TK h p R B = (Dy.run (stepS TK) (priceM TK) h p R B).map (·.1)
  | [],[],h,p,_=>by unfold spentM Dy.run; rfl
  | r :: R,n :: B,h,p,e=>by
    show (match stepM TK h r n with | some h'=>spentM TK (some h') (p + priceM TK n) R B | none=>none) = _
    unfold Dy.run stepS
    cases es:stepM TK h r n with
    | none=>rfl
    | some h'=>exact spent_of (Nat.succ.inj e)
  | [],_ :: _,_,_,e=>by cases e
  | _ :: _,[],_,_,e=>by cases e
theorem TNet.wo {H:Hp} {n lt:Addr} {TK:List Tk} {ps:Array Value} (eT:H lt = some (.tbl ps)) (h:TNet t H n TK):TNet t (wo H lt) n TK:=by
  obtain ⟨dx,fs,d,rows,e1,e2,e3,e4⟩:=h
  exact ⟨dx,fs,d,rows,wo_tab eT e1 (fun _ z=>by cases z),e2,wo_tab eT e3 (fun _ z=>by cases z),e4.imp fun _ _ ⟨e,r,z,q1,q2,q3⟩=>⟨e,r,z,q1,wo_tab eT q2 (fun _ z=>by cases z),wo_tab eT q3 (fun _ z=>by cases z)⟩⟩
theorem opt_ne (o:Option Nat):¬ (!decide (optV o = optV o)) = true:=by simp
def sp_law (K:W.Frag) (T:Addr):Sp:=fun vs H Q _=>∃ (a:Addr) (ns:List Int),vs = [.ref a]∧H T = some (.tbl #[])∧SqL K H a (ns.map V.int)∧ns.length≤63∧∀ H',Q (.bl true) H'
theorem ok_law (Tx:Tab K mg t) (hC:W.CodeHd base t.lc t.lt) (hBM:BM mg base):FnOk P w K mg base CX0 20 t.f_law t.d_law ["_law_script"] (sp_law K t.lt):=by
  refine Tx.F_law.ok sc_law (fun vs H Q E h=>?_) (fun cdv A outer s H vs Q E hr h=>?_)
  · obtain ⟨a,ns,rfl,_⟩:=h
    rfl
  obtain ⟨a,ns,rfl,hT0,hS0,hlen,q⟩:=h
  refine ⟨_,(pss_cons (ps_set (i:=1) sc_law.nd rfl (Or.inr rfl) (pe_call (ok_law_names Tx) (hr.mono (by omega)) rfl Tx.m_law_names Tx.F_law_names.kp Tx.b_law_names .nil pass0 (pac (pv 0) (pac pe_int (pac (pe_op op_add pe_int (pe_op op_mod (pe_call (ok_law_draw_d Tx) (hr.mono (by omega)) rfl Tx.m_law_draw Tx.F_law_draw.kp Tx.b_law_draw .nil pass0 (pac (pv 0) (pac pe_int pa_nil))) pe_int)) pa_nil)))))
    (pss_cons (ps_setc (i0:=2) (cl:=[(Str.ofString "_law_script",s.heap.objs.size + 1)]) (N:=["_law_k","_law_script"]) (fr:=[none,some 0]) sc_law.nd rfl (Or.inl rfl) rfl (pi_range1 rfl Tx.z_range (pac (pe_callB call_len_seq rfl Tx.z_len b_len (pac (pv 1) pa_nil)) pa_nil)) rfl (by decide +kernel) rfl (by decide +kernel) ⟨⟨rfl,Or.inl rfl,Or.inl rfl,_,rfl,rfl⟩,trivial⟩ ⟨rfl,trivial⟩ rfl (fun _ _ _ _ _=>(pg_name (i:=0) (show List.Nodup (["_law_k","_law_script"]:List Str) by decide +kernel) rfl (Or.inl rfl))) (fun _ _ _ _ _=>pts_nil) (fun _ _ _ _ _=>(pe_op op_add pe_int (pe_op op_mod (pe_call (ok_law_draw_d Tx) (hr.mono (by omega)) rfl Tx.m_law_draw Tx.F_law_draw.kp Tx.b_law_draw .nil pass0 (pac (pv 1) (pac (pe_op op_add pe_int (pv 0)) pa_nil))) (pe_ix (show IxR _ (rIxL K) from ix_list) (pe_lst (pac pe_int (pac pe_int pa_nil))) (pe_op op_mod (pe_op op_fdiv (pe_call (ok_law_draw_d Tx) (hr.mono (by omega)) rfl Tx.m_law_draw Tx.F_law_draw.kp Tx.b_law_draw .nil pass0 (pac (pv 1) (pac pe_int pa_nil))) pe_int) pe_int) (fun _ _=>rfl))))))
    (pss_cons (ps_set (i:=3) sc_law.nd rfl (Or.inl rfl) (pe_call (ok_law_tickets Tx) (hr.mono (by omega)) rfl Tx.m_law_tickets Tx.F_law_tickets.kp Tx.b_law_tickets .nil pass0 (pac (pv 0) (pac pe_int (pac (pe_op op_add pe_int (pe_op op_mod (pe_call (ok_law_draw_d Tx) (hr.mono (by omega)) rfl Tx.m_law_draw Tx.F_law_draw.kp Tx.b_law_draw .nil pass0 (pac (pv 0) (pac pe_int pa_nil))) pe_int)) pa_nil)))))
    (pss_cons (ps_set (i:=4) sc_law.nd rfl (Or.inl rfl) (pe_call (ok_law_names Tx) (hr.mono (by omega)) rfl Tx.m_law_names Tx.F_law_names.kp Tx.b_law_names .nil pass0 (pac (pv 0) (pac pe_int (pac (pe_op op_add pe_int (pe_op op_mod (pe_call (ok_law_draw_d Tx) (hr.mono (by omega)) rfl Tx.m_law_draw Tx.F_law_draw.kp Tx.b_law_draw .nil pass0 (pac (pv 0) (pac pe_int pa_nil))) pe_int)) pa_nil)))))
    (pss_cons (ps_setc (i0:=5) (cl:=[(Str.ofString "_law_script",s.heap.objs.size + 1),(Str.ofString "_law_names_here",s.heap.objs.size + 2)]) (N:=["_law_k","_law_name","_law_script","_law_names_here"]) (fr:=[none,none,some 0,some 1]) sc_law.nd rfl (Or.inl rfl) rfl (pi_enum rfl Tx.z_enumerate (pac (pv 4) pa_nil)) rfl (by decide +kernel) rfl (by decide +kernel) ⟨⟨rfl,Or.inl rfl,Or.inl rfl,_,rfl,rfl⟩,⟨⟨rfl,Or.inl rfl,Or.inl rfl,_,rfl,rfl⟩,trivial⟩⟩ ⟨rfl,⟨rfl,trivial⟩⟩ rfl (fun _ _ _ _ _=>(show PG _ _ (gTup K 2 _) from pg_tup rfl (pgs_cons (pg_name (i:=0) (show List.Nodup (["_law_k","_law_name","_law_script","_law_names_here"]:List Str) by decide +kernel) rfl (Or.inl rfl)) (pgs_cons (pg_name (i:=1) (show List.Nodup (["_law_k","_law_name","_law_script","_law_names_here"]:List Str) by decide +kernel) rfl (Or.inl rfl)) pgs_nil)))) (fun _ _ _ _ _=>pts_nil) (fun _ _ _ _ _=>(pe_tup (pac (pv 1) (pac (pe_call (ok_law_calls Tx) (hr.mono (by omega)) rfl Tx.m_law_calls Tx.F_law_calls.kp Tx.b_law_calls .nil pass0 (pac (pv 2) (pac (pe_op op_add pe_int (pe_op op_mul pe_int (pv 0))) (pac (pv 3) pa_nil)))) pa_nil)))))
    (pss_cons (ps_set (i:=6) sc_law.nd rfl (Or.inl rfl) (pe_call (ok_law_net Tx) (hr.mono (by omega)) rfl Tx.m_law_net Tx.F_law_net.kp Tx.b_law_net .nil pass0 (pac (pv 1) (pac (pv 2) (pac (pv 3) (pac (pv 5) pa_nil))))))
    (pss_cons (ps_set (i:=7) sc_law.nd rfl (Or.inl rfl) (pe_call (ok_law_rides Tx) (hr.mono (by omega)) rfl Tx.m_law_rides Tx.F_law_rides.kp Tx.b_law_rides .nil pass0 (pac (pv 0) (pac (pv 6) (pac (pv 1) (pac (pv 2) (pac (pv 5) pa_nil)))))))
    (pss_cons (ps_if (pt_cmp (pc_isN (pv 7)))
    (pss_one (ps_ret pe_bl))
    pss_nil)
    (pss_cons (ps_set (i:=8) sc_law.nd rfl (Or.inl rfl) (pe_call (ok_law_least Tx) (hr.mono (by omega)) rfl Tx.m_law_least Tx.F_law_least.kp Tx.b_law_least .nil pass0 (pac (pv 3) (pac (pv 7) pa_nil))))
    (pss_cons (ps_set (i:=9) sc_law.nd rfl (Or.inl rfl) (pe_call (ok_least_tickets Tx hC hBM) (hr.mono (by omega)) rfl Tx.m_least_tickets Tx.F_least_tickets.kp Tx.b_least_tickets .nil pass0 (pac (pv 6) (pac (pv 7) pa_nil))))
    (pss_join (ps_if (PW.pt (pw_or (pt_cmpR op_ne (pe_call (ok_law_price Tx) (hr.mono (by omega)) rfl Tx.m_law_price Tx.F_law_price.kp Tx.b_law_price .nil pass0 (pac (pv 9) pa_nil)) (pv 8) (nomark _)) (pw_or1 (PW.pt (pw_and (pt_cmp (pc_notN (pv 8))) (pw_and1 (pt_not (pt_val (pe_call (ok_law_whole Tx) (hr.mono (by omega)) rfl Tx.m_law_whole Tx.F_law_whole.kp Tx.b_law_whole .nil pass0 (pac (pe_ix ix_tup (pv 9) pe_int (fun _ _=>rfl)) pa_nil))))))))))
    (pss_one (ps_ret pe_bl))
    pss_nil)
    (pss_join (ps_if (pt_cmp (pc_notN (pv 9)))
    (pss_one (ps_if (PW.pt (pw_or (pt_cmpR op_ne (pe_call (ok_price_of Tx) (hr.mono (by omega)) rfl Tx.m_price_of Tx.F_price_of.kp Tx.b_price_of .nil pass0 (pac (pv 6) (pac (pv 7) (pac (pe_ix ix_tup (pv 9) pe_int (fun _ _=>rfl)) pa_nil)))) (pv 8) (nomark _)) (pw_or1 (pt_cmpR op_ne (pe_call (ok_law_spent Tx) (hr.mono (by omega)) rfl Tx.m_law_spent Tx.F_law_spent.kp Tx.b_law_spent .nil pass0 (pac (pv 3) (pac (pv 7) (pac (pe_ix ix_tup (pv 9) pe_int (fun _ _=>rfl)) pa_nil)))) (pv 8) (nomark _)))))
    (pss_one (ps_ret pe_bl))
    pss_nil))
    pss_nil)
    (pss_cons (ps_setc (i0:=10) (cl:=[(Str.ofString "_law_script",s.heap.objs.size + 1)]) (N:=["_law_bits_here","_law_moment","_law_script"]) (fr:=[none,none,some 0]) sc_law.nd rfl (Or.inl rfl) rfl (pi_list (pv 7)) rfl (by decide +kernel) rfl (by decide +kernel) ⟨⟨rfl,Or.inl rfl,Or.inl rfl,_,rfl,rfl⟩,trivial⟩ ⟨rfl,trivial⟩ rfl (fun _ _ _ _ _=>(show PG _ _ (gTup K 2 _) from pg_tup rfl (pgs_cons (pg_name (i:=0) (show List.Nodup (["_law_bits_here","_law_moment","_law_script"]:List Str) by decide +kernel) rfl (Or.inl rfl)) (pgs_cons (pg_name (i:=1) (show List.Nodup (["_law_bits_here","_law_moment","_law_script"]:List Str) by decide +kernel) rfl (Or.inl rfl)) pgs_nil)))) (fun _ _ _ _ _=>pts_nil) (fun _ _ _ _ _=>(pe_tup (pac (pv 0) (pac (pe_op op_add (pv 1) (pe_op op_mul pe_int (pe_op op_add pe_int (pe_op op_mod (pe_call (ok_law_draw_d Tx) (hr.mono (by omega)) rfl Tx.m_law_draw Tx.F_law_draw.kp Tx.b_law_draw .nil pass0 (pac (pv 2) (pac pe_int pa_nil))) pe_int)))) pa_nil)))))
    (pss_cons (ps_if (pt_cmpR op_ne (pe_call (ok_law_price Tx) (hr.mono (by omega)) rfl Tx.m_law_price Tx.F_law_price.kp Tx.b_law_price .nil pass0 (pac (pe_call (ok_least_tickets Tx hC hBM) (hr.mono (by omega)) rfl Tx.m_least_tickets Tx.F_least_tickets.kp Tx.b_least_tickets .nil pass0 (pac (pv 6) (pac (pv 10) pa_nil))) pa_nil)) (pv 8) (nomark _))
    (pss_one (ps_ret pe_bl))
    pss_nil)
    (pss_cons (ps_set (i:=11) sc_law.nd rfl (Or.inl rfl) (pe_op op_mod (pe_call (ok_law_draw_d Tx) (hr.mono (by omega)) rfl Tx.m_law_draw Tx.F_law_draw.kp Tx.b_law_draw .nil pass0 (pac (pv 0) (pac pe_int pa_nil))) (pe_op op_add (pe_callB call_len_seq rfl Tx.z_len b_len (pac (pv 7) pa_nil)) pe_int)))
    (pss_cons (ps_set (i:=12) sc_law.nd rfl (Or.inl rfl) (pe_call (ok_law_price Tx) (hr.mono (by omega)) rfl Tx.m_law_price Tx.F_law_price.kp Tx.b_law_price .nil pass0 (pac (pe_call (ok_least_tickets Tx hC hBM) (hr.mono (by omega)) rfl Tx.m_least_tickets Tx.F_least_tickets.kp Tx.b_least_tickets .nil pass0 (pac (pv 6) (pac (pe_slice sl_list (pv 7) po_none (po_some (pv 11))) pa_nil))) pa_nil)))
    (pss_cons (ps_set (i:=13) sc_law.nd rfl (Or.inl rfl) (pe_call (ok_law_price Tx) (hr.mono (by omega)) rfl Tx.m_law_price Tx.F_law_price.kp Tx.b_law_price .nil pass0 (pac (pe_call (ok_least_tickets Tx hC hBM) (hr.mono (by omega)) rfl Tx.m_least_tickets Tx.F_least_tickets.kp Tx.b_least_tickets .nil pass0 (pac (pv 6) (pac (pe_slice sl_list (pv 7) (po_some (pv 11)) po_none) pa_nil))) pa_nil)))
    (pss_cons (ps_if (PW.pt (pw_or (pt_not (pt_val (pe_call (ok_law_no_more Tx) (hr.mono (by omega)) rfl Tx.m_law_no_more Tx.F_law_no_more.kp Tx.b_law_no_more .nil pass0 (pac (pv 12) (pac (pv 8) pa_nil))))) (pw_or1 (pt_not (pt_val (pe_call (ok_law_no_more Tx) (hr.mono (by omega)) rfl Tx.m_law_no_more Tx.F_law_no_more.kp Tx.b_law_no_more .nil pass0 (pac (pv 13) (pac (pv 8) pa_nil))))))))
    (pss_one (ps_ret pe_bl))
    pss_nil)
    (pss_join (ps_if (PW.pt (pw_and (pt_cmp (pc_notN (pv 12))) (pw_and (pt_cmp (pc_notN (pv 13))) (pw_and1 (pt_not (pt_val (pe_call (ok_law_no_more Tx) (hr.mono (by omega)) rfl Tx.m_law_no_more Tx.F_law_no_more.kp Tx.b_law_no_more .nil pass0 (pac (pv 8) (pac (pe_op op_add (pv 12) (pv 13)) pa_nil)))))))))
    (pss_one (ps_ret pe_bl))
    pss_nil)
    (pss_cons (ps_set (i:=14) sc_law.nd rfl (Or.inl rfl) (pe_call (ok_law_net Tx) (hr.mono (by omega)) rfl Tx.m_law_net Tx.F_law_net.kp Tx.b_law_net .nil pass0 (pac (pv 1) (pac (pv 2) (pac (pe_slice sl_list (pv 3) (po_some pe_int) po_none) (pac (pv 5) pa_nil))))))
    (pss_one (ps_ret (pe_call (ok_law_no_more Tx) (hr.mono (by omega)) rfl Tx.m_law_no_more Tx.F_law_no_more.kp Tx.b_law_no_more .nil pass0 (pac (pv 8) (pac (pe_call (ok_law_price Tx) (hr.mono (by omega)) rfl Tx.m_law_price Tx.F_law_price.kp Tx.b_law_price .nil pass0 (pac (pe_call (ok_least_tickets Tx hC hBM) (hr.mono (by omega)) rfl Tx.m_least_tickets Tx.F_least_tickets.kp Tx.b_least_tickets .nil pass0 (pac (pv 14) (pac (pv 7) pa_nil))) pa_nil)) pa_nil))))))))))))))))))))))))),?_⟩
  have hS:SqL K (wo H t.lt) a (ns.map V.int):=sqL_wo hT0 hS0
  have hT:TabLam t.lt lamPos lamQ H:=.inl hT0
  have gl:wo H t.lt t.lt = none:=if_pos rfl
  have s0:Same (wo H t.lt) H:=wo_same
  generalize wo H t.lt = G at hS gl s0
  refine ⟨_,rfl,_,rfl,a,ns,1,rfl,s0.seq hS,by decide,by decide,fun H1 s1=>?_⟩
  have S1:=s0.trans s1
  refine ⟨_,_,rfl,rfl,(by show (0:Int) < 3; decide),_,_,rfl,rfl,a,ns,0,3 + drawF ns 1 % 3,?_,S1.seq hS,by decide,by decide,by omega,fun NS ln H2 s2 _ hln lenN ndN okN=>?_⟩
  · show [V.ref a,V.int 0,V.int (3 + ((drawF ns 1:Nat):Int) % 3)] = _
    rw [show (3:Int) + ((drawF ns 1:Nat):Int) % 3 = ((3 + drawF ns 1 % 3:Nat):Int) by omega]
  have S2:=S1.trans s2
  have hnn:(((NS.map V.str).length:Nat):Int).toNat = NS.length:=by rw [List.length_map,Int.toNat_natCast]
  have hnl:(NS.map V.str).length = NS.length:=List.length_map ..
  refine ⟨_,rfl,ln,_,rfl,.inl (SqL.of hln),_,rfl,by omega,by omega,comp_range (lo:=0) (n:=(((NS.map V.str).length:Nat):Int).toNat) (fun i acc σ H'=>Same H2 H'∧(∃ v,σ = [v,some (.ref a)])∧∃ ZS:List Nat,acc = natV ZS∧ZS.length = i∧∀ z∈ZS,1≤z∧z≤6) ⟨Same.refl H2,⟨_,rfl⟩,[],rfl,rfl,fun z hz=>by cases hz⟩ (Nat.le_trans (show _≤8 by omega) (by decide)) ?_ ?_⟩
  · rintro i acc σ H' hi ha ⟨s',⟨v,rfl⟩,ZS,rfl,lenZ,okZ⟩
    rw [show (0:Int) + ((i:Nat):Int) = ((i:Nat):Int) by omega]
    dsimp only [gName,tTrue]
    rw [if_pos rfl]
    refine ⟨_,rfl,_,rfl,_,_,rfl,rfl,a,ns,_,rfl,(S2.trans s').seq hS,by omega,by omega,fun H3 s3=>?_⟩
    generalize drawF ns (2 + ((i:Nat):Int)) = d
    refine ⟨by show 2≤sizeLine; decide,fun p5 j5=>?_⟩
    have t5:=same_new j5 (.lst [.int 6,.int 3])
    have T5:=(s'.trans s3).trans t5
    refine ⟨_,rfl,a,ns,1,rfl,(S2.trans T5).seq hS,by decide,by decide,fun H6 s6=>?_⟩
    obtain ⟨vm,em,m,rfl,m1,m2⟩:=at_all (p:=fun v=>∃ m:Nat,v = .int (m:Nat)∧1≤m∧m≤6) (xs:=[.int 6,.int 3]) (d:=((drawF ns 1:Nat):Int) / 8 % 2) (fun v hv=>by
      simp only [List.mem_cons,List.not_mem_nil,or_false] at hv
      rcases hv with rfl | rfl
      · exact ⟨6,rfl,by decide,by decide⟩
      · exact ⟨3,rfl,by decide,by decide⟩) (by omega) (by show ((drawF ns 1:Nat):Int) / 8 % 2 < 2; omega)
    refine ⟨_,_,rfl,rfl,⟨by decide,by decide⟩,_,_,rfl,rfl,(by show (0:Int) < 2; decide),p5,_,_,_,rfl,rfl,SqL.of (s6 _ _ upd_same),em,_,_,rfl,rfl,(by show (0:Int) < (m:Nat); omega),_,_,rfl,rfl,by rw [List.length_append,List.length_singleton]; omega,T5.trans s6,⟨_,rfl⟩,ZS ++ [1 + d % m],?_,by rw [List.length_append,List.length_singleton,lenZ],?_⟩
    · unfold natV
      rw [List.map_append]
      rfl
    · intro z hz
      rcases List.mem_append.mp hz with hz | hz
      · exact okZ z hz
      · rw [List.mem_singleton] at hz
        have:=Nat.mod_lt d (show 0 < m by omega)
        omega
  rintro acc σ H3 ha ⟨s3,⟨v,rfl⟩,ZS,rfl,lenZ,okZ⟩ lz hlz0
  rw [hnn] at lenZ
  have s4:=same_new hlz0 (.lst (natV ZS))
  have hlz:=@upd_same H3 lz (.lst (natV ZS))
  have T4:=s3.trans s4
  have S4:=S2.trans T4
  have hln4:=T4 _ _ hln
  have hT4:TabLam t.lt lamPos lamQ (upd H3 lz (.lst (natV ZS))):=hT.same ((s1.trans s2).trans T4)
  generalize upd H3 lz (.lst (natV ZS)) = H4 at s4 hlz S4 hln4 hT4 T4 ⊢
  clear hln s4 T4 S2 S1 hlz0
  refine ⟨_,rfl,_,rfl,a,ns,10,rfl,S4.seq hS,by decide,by decide,fun H5 s5=>?_⟩
  refine ⟨_,_,rfl,rfl,(by show (0:Int) < 3; decide),_,_,rfl,rfl,a,ns,20,1 + drawF ns 10 % 3,?_,(S4.trans s5).seq hS,by decide,by decide,by omega,fun TK vt lk H6 s6 _ hlk alT lenT ndT okT=>?_⟩
  · show [V.ref a,V.int 20,V.int (1 + ((drawF ns 10:Nat):Int) % 3)] = _
    rw [show (1:Int) + ((drawF ns 10:Nat):Int) % 3 = ((1 + drawF ns 10 % 3:Nat):Int) by omega]
  have T6:=s5.trans s6
  have S6:=S4.trans T6
  refine ⟨_,rfl,_,rfl,a,ns,41,rfl,S6.seq hS,by decide,by decide,fun H7 s7=>?_⟩
  refine ⟨_,_,rfl,rfl,(by show (0:Int) < 3; decide),_,_,rfl,rfl,a,ns,40,2 + drawF ns 41 % 3,?_,(S6.trans s7).seq hS,by decide,by decide,by omega,fun TN lc H8 s8 _ hlc lenP ndP okP=>?_⟩
  · show [V.ref a,V.int 40,V.int (2 + ((drawF ns 41:Nat):Int) % 3)] = _
    rw [show (2:Int) + ((drawF ns 41:Nat):Int) % 3 = ((2 + drawF ns 41 % 3:Nat):Int) by omega]
  have T8:=s7.trans s8
  have S8:=S6.trans T8
  have U8:=T6.trans T8
  have hln8:=U8 _ _ hln4
  have hlz8:=U8 _ _ hlz
  have hlk8:=T8 _ _ hlk
  have alT8:=alT.imp fun _ _=>TkAt.same T8
  have hT8:=hT4.same U8
  clear hln4 hlz hlk alT hT4 U8 T8 T6 s5 s6 s7 s8 S6 S4
  refine ⟨_,rfl,lc,rfl,⟨_,SqL.of hlc⟩,comp_enum (K:=K) (a:=lc) (xs:=TN.map V.str) (fun i acc σ H'=>Same H8 H'∧(∃ v0 v1,σ = [v0,v1,some (.ref a),some (.ref ln)])∧Al (TrAt H') acc (tpL ns NS TN i)∧i≤TN.length)
    ⟨Same.refl _,⟨_,_,rfl⟩,.nil,Nat.zero_le _⟩ (by rw [List.length_map]; exact Nat.le_trans (show _≤8 by omega) (by decide)) (fun i acc σ H' _ ⟨s',_⟩=>SqL.of (s' _ _ hlc)) ?_ ?_⟩
  · rintro i x pp acc σ H9 ha hx hpp ⟨s9,⟨v0,v1,rfl⟩,alP,li⟩
    rw [List.getElem?_map] at hx
    cases ez:TN[i]? with
    | none=>rw [ez] at hx; cases hx
    | some z =>
      rw [ez] at hx
      obtain rfl:V.str z = x:=Option.some.inj hx
      have hi:=(List.getElem?_eq_some_iff.mp ez).1
      have egd:TN.getD i Str.empty = z:=by rw [List.getD_eq_getElem?_getD,ez]; rfl
      have tp:=same_new hpp (.tup [.int (i:Nat),.str z])
      have S9:=s9.trans tp
      refine ⟨pp,_,rfl,SqT.of upd_same,rfl,_,_,rfl,_,_,rfl,rfl,?_⟩
      dsimp only [tTrue]
      rw [if_pos rfl]
      refine ⟨_,rfl,_,rfl,_,rfl,_,_,rfl,rfl,.inl ⟨by decide,by decide⟩,_,_,rfl,rfl,_,rfl,a,ln,ns,50 + 8 * i,NS,?_,(S8.trans S9).seq hS,by omega,S9 _ _ hln8,by omega,by omega,fun l vc H10 s10 _ hl10 alc=>?_⟩
      · show [V.ref a,V.int (50 + 8 * ((i:Nat):Int)),V.ref ln] = _
        rw [show (50:Int) + 8 * ((i:Nat):Int) = ((50 + 8 * i:Nat):Int) by omega]
      refine ⟨by show 2≤sizeLine; decide,fun pt jt=>?_⟩
      have t11:=same_new jt (.tup [.str z,.ref l])
      have T11:=(tp.trans s10).trans t11
      refine ⟨by rw [List.length_append,List.length_singleton]; omega,s9.trans T11,⟨_,_,rfl⟩,?_,by omega⟩
      rw [tpL_take]
      refine (alP.imp fun _ _=>TrAt.same T11).snoc ⟨pt,l,vc,rfl,?_,t11 _ _ hl10,alc.imp fun _ _=>ClAt.same t11⟩
      rw [egd]
      exact upd_same
  rintro acc σ H9 ha ⟨s9,⟨v0,v1,rfl⟩,alP,li⟩ lp jp
  rw [List.length_map] at alP
  have t10:=same_new jp (.lst acc)
  have hlp:=@upd_same H9 lp (.lst acc)
  have T10:=s9.trans t10
  have alP10:=alP.imp fun _ _=>TrAt.same t10
  generalize upd H9 lp (.lst acc) = H10 at t10 hlp T10 alP10 ⊢
  have S10:=S8.trans T10
  have hln10:=T10 _ _ hln8
  have hlz10:=T10 _ _ hlz8
  have hlk10:=T10 _ _ hlk8
  have alT10:=alT8.imp fun _ _=>TkAt.same T10
  have hT10:=hT8.same T10
  clear hln8 hlz8 hlk8 alT8 hT8 alP t10 s9 T10 jp hlc
  refine ⟨_,rfl,_,rfl,_,rfl,_,rfl,ln,lz,lk,lp,ns,NS,TN,ZS,vt,TK,acc,rfl,hln10,by omega,by omega,ndN,okN,hlz10,lenZ,okZ,hlk10,alT10,ndT,okT,by omega,hlp,alP10,ndP,okP,by omega,fun n H11 s11 hA=>?_⟩
  have S11:=S10.trans s11
  refine ⟨_,rfl,_,rfl,_,rfl,_,rfl,_,rfl,a,n,ln,lz,lp,ns,NS,TN,ZS,TK,acc,rfl,S11.seq hS,hA,s11 _ _ hln10,by omega,by omega,ndN,s11 _ _ hlz10,lenZ,okZ,ndP,by omega,s11 _ _ hlp,alP10.imp fun _ _=>TrAt.same s11,fun R vr lr H12 s12 _ hlr alR lenR okR srt=>?_⟩
  have T12:=s11.trans s12
  have S12:=S10.trans T12
  refine ⟨_,rfl,_,rfl,itF (by intro y; cases y) ?_⟩
  have hlk12:=T12 _ _ hlk10
  have alT12:=alT10.imp fun _ _=>TkAt.same T12
  refine ⟨_,rfl,_,rfl,lk,lr,vt,TK,vr,R,rfl,hlk12,alT12,okT,by omega,hlr,alR,okR,lenR,fun H13 s13=>?_⟩
  have hL:=bst_isL ndT R
  generalize Dz.bst (cp TK) TK none R = o at hL
  have T13:=T12.trans s13
  have S13:=S10.trans T13
  have hT13:=hT10.same T13
  have hN13:=hA.tk.same (s12.trans s13)
  have hlr13:=s13 _ _ hlr
  have alR13:=alR.imp fun _ _=>RdAt.same s13
  have hlk13:=T13 _ _ hlk10
  have alT13:=alT10.imp fun _ _=>TkAt.same T13
  have hln13:=T13 _ _ hln10
  have hlz13:=T13 _ _ hlz10
  have hlp13:=T13 _ _ hlp
  have alP13:=alP10.imp fun _ _=>TrAt.same T13
  clear hlk12 alT12 hlr alR T12 s12 s13 S12 s11 S11 S10 hln10 hlz10 hlk10 alT10 hlp alP10 hT10 T13
  obtain ⟨ps,eT⟩:=hT13.at
  have gk:∀ {x:Addr} {u:HO},H13 x = some u→(∀ ps,u≠.tbl ps)→wo H13 t.lt x = some u:=fun e n=>wo_tab eT e n
  have hlkW:wo H13 t.lt lk = some (.lst vt):=gk hlk13 fun _ z=>by cases z
  have hlrW:wo H13 t.lt lr = some (.lst vr):=gk hlr13 fun _ z=>by cases z
  have hlnW:wo H13 t.lt ln = some (.lst (NS.map V.str)):=gk hln13 fun _ z=>by cases z
  have hlzW:wo H13 t.lt lz = some (.lst (natV ZS)):=gk hlz13 fun _ z=>by cases z
  have hlpW:wo H13 t.lt lp = some (.lst acc):=gk hlp13 fun _ z=>by cases z
  have alTW:Al (TkAt (wo H13 t.lt)) vt TK:=alT13.imp fun _ _ ⟨p,l,e,h1,h2⟩=>⟨p,l,e,gk h1 (fun _ z=>by cases z),gk h2 (fun _ z=>by cases z)⟩
  have alRW:Al (RdAt (wo H13 t.lt)) vr R:=alR13.imp fun _ _ ⟨p,e,h1⟩=>⟨p,e,gk h1 (fun _ z=>by cases z)⟩
  have alPW:Al (TrAt (wo H13 t.lt)) acc (tpL ns NS TN TN.length):=alP13.imp fun _ _ ⟨p,l,vs,e,h1,h2,h3⟩=>⟨p,l,vs,e,gk h1 (fun _ z=>by cases z),gk h2 (fun _ z=>by cases z),h3.imp fun _ _ ⟨p,e,h1⟩=>⟨p,e,gk h1 (fun _ z=>by cases z)⟩⟩
  have hNW:TNet t (wo H13 t.lt) n TK:=by
    obtain ⟨dx,fs,d,rows,e1,e2,e3,e4⟩:=hN13
    exact ⟨dx,fs,d,rows,gk e1 (fun _ z=>by cases z),e2,gk e3 (fun _ z=>by cases z),e4.imp fun _ _ ⟨e,r,z,q1,q2,q3⟩=>⟨e,r,z,q1,gk q2 (fun _ z=>by cases z),gk q3 (fun _ z=>by cases z)⟩⟩
  have hSW:SqL K (wo H13 t.lt) a (ns.map V.int):=(same_wo S13 gl).seq hS
  have gW:wo H13 t.lt t.lt = none:=if_pos rfl
  have sW:Same (wo H13 t.lt) H13:=wo_same
  clear hlk13 alT13 hlr13 alR13 hN13 hln13 hlz13 hlp13 alP13 gk hS S13 gl s0
  generalize wo H13 t.lt = W at hlkW hlrW hlnW hlzW hlpW alTW alRW alPW hNW hSW gW sW
  have W_of:∀ {H H':Hp},Same W H→Same (wo H t.lt) H'→Same W H':=fun s s'=>(same_wo s gW).trans s'
  refine ⟨_,rfl,_,rfl,?_⟩
  try dsimp only [tNil,tCons,List.append_nil]
  refine use_least sW gW hT13 hNW okT (by omega) (sW _ _ hlrW) (alRW.imp fun _ _=>RdAt.same sW) (by omega) fun o1 v H14 hL1 s14 hT14 hv=>?_
  obtain rfl:=hL1.uniq hL
  have S14:=W_of sW s14
  refine ⟨fun σ H'=>Same H14 H'∧σ = [some (.ref a),some (.ref ln),some (.ref lz),some (.ref lk),some (.ref lc),some (.ref lp),some (.ref n),some (.ref lr),some (optV o1),some v,none,none,none,none,none],?_,?_⟩
  · refine ⟨_,rfl,?_⟩
    try dsimp only [tNil,tCons,List.append_nil]
    refine use_price hv ⟨_,rfl,(by cases o1 <;> rfl),_,rfl,itF (opt_ne o1) ?_⟩
    rcases hv with ⟨rfl,rfl⟩ | ⟨p,B,h,pt,lb,rfl,rfl,h1,h2,_⟩
    · exact ⟨_,rfl,_,rfl,itF (by decide) ⟨Same.refl _,rfl⟩⟩
    · exact ⟨_,rfl,_,rfl,itT (by show (!decide (V.int ((p:Nat):Int) = V.non)) = true; simp) ⟨_,rfl,pt,_,0,_,rfl,rfl,SqT.of h1,rfl,.int (p:Nat),"int",rfl,.int _,_,rfl,itF Bool.false_ne_true ⟨Same.refl _,rfl⟩⟩⟩
  rintro σ H15 ⟨s15,rfl⟩
  have S15:=S14.trans s15
  have hT15:=hT14.same s15
  refine ⟨fun σ H'=>Same H15 H'∧σ = [some (.ref a),some (.ref ln),some (.ref lz),some (.ref lk),some (.ref lc),some (.ref lp),some (.ref n),some (.ref lr),some (optV o1),some v,none,none,none,none,none],?_,?_⟩
  · rcases hv with ⟨rfl,rfl⟩ | ⟨p,B,h,pt,lb,rfl,rfl,h1,h2,hB,er⟩
    · exact ⟨_,rfl,_,rfl,itF (by decide) ⟨Same.refl _,rfl⟩⟩
    · have lB:=Dy.run_len er
      have esp:spentM TK none 0 R B = some p:=by rw [spent_of lB,rn_eq,er]; rfl
      have h1:=s15 _ _ h1
      have h2:=s15 _ _ h2
      refine ⟨_,rfl,_,rfl,itT (by show (!decide (V.ref pt = V.non)) = true; simp) ?_⟩
      refine ⟨_,rfl,_,rfl,_,rfl,pt,_,1,_,rfl,rfl,SqT.of h1,rfl,n,lr,lb,TK,vr,R,B,rfl,hNW.same S15,okT,S15 _ _ hlrW,alRW.imp fun _ _=>RdAt.same S15,h2,fun H16 s16=>?_⟩
      rw [esp]
      have S16:=S15.trans s16
      refine ⟨_,rfl,rfl,_,rfl,itF (opt_ne (some p)) ?_⟩
      refine ⟨_,rfl,_,rfl,_,rfl,pt,_,1,_,rfl,rfl,SqT.of (s16 _ _ h1),rfl,lk,lr,lb,vt,TK,vr,R,B,rfl,S16 _ _ hlkW,alTW.imp fun _ _=>TkAt.same S16,okT,by omega,S16 _ _ hlrW,alRW.imp fun _ _=>RdAt.same S16,okR,s16 _ _ h2,fun m hm z ez=>NS_find (hB m hm) ez,fun H17 s17=>?_⟩
      rw [esp]
      exact ⟨_,rfl,rfl,_,rfl,itF (opt_ne (some p)) ⟨s16.trans s17,rfl⟩⟩
  rintro σ H16 ⟨s16,rfl⟩
  have S16:=S15.trans s16
  have hT16:=hT15.same s16
  clear s15 s16 S14 S15 hT14 hT15 s14 hT13
  generalize hD:(1440:Int) * (1 + ((drawF ns 11:Nat):Int) % 500) = D
  refine ⟨_,rfl,lr,rfl,⟨_,SqL.of (S16 _ _ hlrW)⟩,comp_list (K:=K) (a:=lr) (xs:=vr) (fun i acc σ H'=>Same H16 H'∧(∃ v0 v1,σ = [v0,v1,some (.ref a)])∧Al (RdAt H') acc ((R.take i).map (shR D)))
    ⟨Same.refl _,⟨_,_,rfl⟩,.nil⟩ (by rw [alRW.length]; exact Nat.le_trans lenR (by decide)) (fun i acc σ H' _ ⟨s',_⟩=>SqL.of (s' _ _ (S16 _ _ hlrW))) ?_ ?_⟩
  · rintro i x acc σ H17 ha hx ⟨s17,⟨v0,v1,rfl⟩,alL⟩
    obtain ⟨r,er,p,rfl,hp⟩:=alRW.get hx
    have S17:=S16.trans s17
    refine ⟨p,_,rfl,SqT.of (S17 _ _ hp),rfl,_,_,rfl,_,_,rfl,rfl,?_⟩
    dsimp only [tTrue]
    rw [if_pos rfl]
    refine ⟨_,rfl,_,rfl,_,rfl,a,ns,11,rfl,S17.seq hSW,by decide,by decide,fun H18 s18=>⟨_,_,rfl,rfl,(by show (0:Int) < 500; decide),_,_,rfl,rfl,_,_,rfl,rfl,.inl ⟨by decide,by decide⟩,_,_,rfl,rfl,by show 2≤sizeLine; decide,fun pn jn=>?_⟩⟩
    have t19:=same_new jn (.tup [.int ((r.b:Nat):Int),.int (r.mo + 1440 * (1 + ((drawF ns 11:Nat):Int) % 500))])
    have T19:=s18.trans t19
    refine ⟨by rw [List.length_append,List.length_singleton]; omega,s17.trans T19,⟨_,_,rfl⟩,?_⟩
    rw [List.take_add_one,er,List.map_append]
    refine (alL.imp fun _ _=>RdAt.same T19).snoc ⟨pn,rfl,?_⟩
    rw [← hD]
    exact upd_same
  rintro acc2 σ H17 ha ⟨s17,⟨v0,v1,rfl⟩,alL⟩ ll jl
  rw [alRW.length,List.take_length] at alL
  have t18:=same_new jl (.lst acc2)
  have hll:=@upd_same H17 ll (.lst acc2)
  have T18:=s17.trans t18
  have alL18:=alL.imp fun _ _=>RdAt.same t18
  generalize upd H17 ll (.lst acc2) = H18 at t18 hll T18 alL18 ⊢
  have S18:=S16.trans T18
  have hT18:=hT16.same T18
  clear t18 jl alL s17 T18 hT16 S16
  refine ⟨_,rfl,_,rfl,?_⟩
  try dsimp only [tNil,tCons,List.append_nil]
  refine use_least S18 gW hT18 hNW okT (by omega) hll alL18 (by rw [List.length_map]; omega) fun o2 v2 H19 hL2 s19 hT19 hv2=>?_
  try dsimp only [tNil,tCons,List.append_nil]
  refine use_price hv2 ?_
  rw [isL_later hL hL2]
  have S19:=W_of S18 s19
  clear hv2 hL2 hT18 S18 s19 alL18 hll
  refine ⟨_,rfl,(by cases o1 <;> rfl),_,rfl,itF (opt_ne o1) ?_⟩
  refine ⟨_,rfl,a,ns,12,rfl,S19.seq hSW,by decide,by decide,fun H20 s20=>⟨_,rfl,lr,_,rfl,.inl (SqL.of ((S19.trans s20) _ _ hlrW)),_,_,rfl,rfl,_,_,rfl,rfl,(by show (0:Int) < (vr.length:Nat) + 1; omega),?_⟩⟩
  obtain ⟨c,ec⟩:∃ c:Nat,((drawF ns 12:Nat):Int) % (((vr.length:Nat):Int) + 1) = ((c:Nat):Int):=⟨drawF ns 12 % (vr.length + 1),rfl⟩
  dsimp only
  rw [ec]
  have S20:=S19.trans s20
  have hT20:=hT19.same s20
  clear hT19 S19 s20
  have hLc:IsL TK (R.take c ++ R.drop c) o1:=by rw [List.take_append_drop]; exact hL
  refine ⟨_,rfl,_,rfl,_,rfl,_,rfl,lr,_,rfl,SqL.of (S20 _ _ hlrW),fun l1 j1=>?_⟩
  rw [show cutV vr none (some ((c:Nat):Int)) = vr.take c from cut_to vr c]
  have t21:=same_new j1 (.lst (vr.take c))
  have hl1:=@upd_same H20 l1 (.lst (vr.take c))
  have S21:=S20.trans t21
  have hT21:=hT20.same t21
  have al21:=(alRW.take c).imp fun _ _=>RdAt.same S21
  generalize upd H20 l1 (.lst (vr.take c)) = H21 at t21 hl1 S21 hT21 al21 ⊢
  clear t21 j1 S20 hT20
  try dsimp only [tNil,tCons,List.append_nil]
  refine use_least S21 gW hT21 hNW okT (by omega) hl1 al21 (by rw [List.length_take]; omega) fun oa va H22 hLa s22 hT22 hva=>?_
  try dsimp only [tNil,tCons,List.append_nil]
  refine use_price hva ?_
  have S22:=W_of S21 s22
  clear hva hT21 S21 s22 al21 hl1
  refine ⟨_,rfl,_,rfl,_,rfl,_,rfl,lr,_,rfl,SqL.of (S22 _ _ hlrW),fun l2 j2=>?_⟩
  rw [show cutV vr (some ((c:Nat):Int)) none = vr.drop c from cut_from vr c]
  have t23:=same_new j2 (.lst (vr.drop c))
  have hl2:=@upd_same H22 l2 (.lst (vr.drop c))
  have S23:=S22.trans t23
  have hT23:=hT22.same t23
  have al23:=(alRW.drop c).imp fun _ _=>RdAt.same S23
  generalize upd H22 l2 (.lst (vr.drop c)) = H23 at t23 hl2 S23 hT23 al23 ⊢
  clear t23 j2 S22 hT22
  try dsimp only [tNil,tCons,List.append_nil]
  refine use_least S23 gW hT23 hNW okT (by omega) hl2 al23 (by rw [List.length_drop]; omega) fun ob vb H24 hLb s24 hT24 hvb=>?_
  try dsimp only [tNil,tCons,List.append_nil]
  refine use_price hvb ?_
  have S24:=W_of S23 s24
  clear hvb hT23 S23 s24 al23 hl2
  refine ⟨_,rfl,_,rfl,oa,o1,rfl,?_⟩
  rw [isL_ahead hLc hLa]
  refine ⟨true,rfl,itF (by decide) ?_⟩
  refine ⟨_,rfl,_,rfl,ob,o1,rfl,?_⟩
  rw [isL_behind (by rw [List.take_append_drop]; exact srt) hLc hLb]
  refine ⟨true,rfl,itF (by decide) ?_⟩
  refine ⟨fun σ H'=>H' = H24∧σ = [some (.ref a),some (.ref ln),some (.ref lz),some (.ref lk),some (.ref lc),some (.ref lp),some (.ref n),some (.ref lr),some (optV o1),some v,some (.ref ll),some (.int (c:Nat)),some (optV oa),some (optV ob),none],?_,?_⟩
  · cases oa with
    | none=>exact ⟨_,rfl,_,rfl,itF (by decide) ⟨rfl,rfl⟩⟩
    | some x =>
      refine ⟨_,rfl,_,rfl,itT (by show (!decide (V.int ((x:Nat):Int) = V.non)) = true; simp) ?_⟩
      cases ob with
      | none=>exact ⟨_,rfl,_,rfl,itF (by decide) ⟨rfl,rfl⟩⟩
      | some y =>
        refine ⟨_,rfl,_,rfl,itT (by show (!decide (V.int ((y:Nat):Int) = V.non)) = true; simp) ?_⟩
        refine ⟨_,rfl,_,rfl,_,rfl,_,_,rfl,rfl,o1,some (x + y),rfl,?_⟩
        rw [isL_both hLc hLa hLb]
        exact ⟨true,rfl,itF (by decide) ⟨rfl,rfl⟩⟩
  rintro σ H25 ⟨rfl,rfl⟩
  refine ⟨_,rfl,_,rfl,_,rfl,_,rfl,lk,_,rfl,SqL.of (S24 _ _ hlkW),fun l5 j5=>?_⟩
  rw [show cutV vt (some 1) none = vt.drop 1 from cut_from vt 1]
  have t26:=same_new j5 (.lst (vt.drop 1))
  have hl5:=@upd_same H25 l5 (.lst (vt.drop 1))
  have S26:=S24.trans t26
  have hT26:=hT24.same t26
  generalize upd H25 l5 (.lst (vt.drop 1)) = H26 at t26 hl5 S26 hT26 ⊢
  have okT1:∀ k∈TK.drop 1,k.Ok:=fun k hk=>okT k (List.mem_of_mem_drop hk)
  have ndT1:((TK.drop 1).map (·.nm)).Nodup:=ndT.sublist ((List.drop_sublist ..).map _)
  refine ⟨_,rfl,ln,lz,l5,lp,ns,NS,TN,ZS,vt.drop 1,TK.drop 1,acc,rfl,S26 _ _ hlnW,by omega,by omega,ndN,okN,S26 _ _ hlzW,lenZ,okZ,hl5,(alTW.drop 1).imp fun _ _=>TkAt.same S26,ndT1,okT1,by rw [List.length_drop]; omega,S26 _ _ hlpW,alPW.imp fun _ _=>TrAt.same S26,ndP,okP,by omega,fun n2 H27 s27 hA2=>?_⟩
  have S27:=S26.trans s27
  have hT27:=hT26.same s27
  obtain ⟨ps2,eT2⟩:=hT27.at
  refine ⟨_,rfl,_,rfl,_,rfl,?_⟩
  try dsimp only [tNil,tCons,List.append_nil]
  refine use_least (W:=wo H27 t.lt) (TK:=TK.drop 1) wo_same (if_pos rfl) hT27 (TNet.wo eT2 hA2.tk) okT1 (by rw [List.length_drop]; omega) (S27 _ _ hlrW) (alRW.imp fun _ _=>RdAt.same S27) (by omega) fun of_ vf H28 hLf s28 hT28 hvf=>?_
  try dsimp only [tNil,tCons,List.append_nil]
  refine use_price hvf ?_
  try dsimp only [tNil,tCons,List.append_nil]
  refine ⟨o1,of_,rfl,?_⟩
  rw [isL_fewer ndT hL hLf]
  exact q H28
end
theorem all_mk {K:W.Frag} {h:Heap} {mg:Str→Option Value} (X:K.In h) (G:h.Ns mainGlobals mg)
    {aa:Addr} {ab ac ad ae af ag:Value} {ah ai:Option Addr} {aj:Array (Option Value)}
    {ak:Addr} {al am ao ap aq ar:Value} {as au:Option Addr} {av:Array (Option Value)}
    {aw:Addr} {ax ay az aA aB aC:Value} {aD aE:Option Addr} {aF:Array (Option Value)}
    {aG:Addr} {aH aI aJ aK aL aM:Value} {aN aO:Option Addr} {aP:Array (Option Value)}
    {aQ:Addr} {aR aS aT aU aV aW:Value} {aX aY:Option Addr} {aZ:Array (Option Value)}
    {a0:Addr} {a1 a2 a3 a4 a5 a6:Value} {a7 a8:Option Addr} {a9:Array (Option Value)}
    {ba:Addr} {bb bc bd be bf bg:Value} {bh bi:Option Addr} {bj:Array (Option Value)}
    {bk:Addr} {bl bm bn bo bp bq:Value} {br bs:Option Addr} {bt:Array (Option Value)}
    {bu:Addr} {bv bw bx bz bA bB:Value} {bC bD:Option Addr} {bE:Array (Option Value)}
    {bF:Addr} {bG bH bI bJ bK bL:Value} {bM bN:Option Addr} {bO:Array (Option Value)}
    {bP:Addr} {bQ bR bS bT bU bV:Value} {bW bX:Option Addr} {bY:Array (Option Value)}
    {bZ:Addr} {b0 b1 b2 b3 b4 b5:Value} {b6 b7:Option Addr} {b8:Array (Option Value)}
    {b9:Addr} {ca cb cc cd ce cf:Value} {cg ch:Option Addr} {ci:Array (Option Value)}
    {cj:Addr} {ck cl cm cn co cp:Value} {cq cr:Option Addr} {cs:Array (Option Value)}
    {cu:Addr} {cv cw cx cy cz cA:Value} {cB cC:Option Addr} {cD:Array (Option Value)}
    {cE:Addr} {cF cG cH cI cJ cK:Value} {cL cM:Option Addr} {cN:Array (Option Value)}
    {cO:Addr} {cP cQ cR cS cT cU:Value} {cV cW:Option Addr} {cX:Array (Option Value)}
    {cY:Addr} {cZ c0 c1 c2 c3 c4:Value} {c5 c6:Option Addr} {c7:Array (Option Value)}
    {c8:Addr} {c9 da db dc dd de:Value} {df dg:Option Addr} {dh:Array (Option Value)}
    {di:Addr} {dj dk dl dm dn dp:Value} {dq dr:Option Addr} {ds:Array (Option Value)}
    {dt:Addr} {du dv dw dx dy dz:Value} {dA dB:Option Addr} {dC:Array (Option Value)}
    {dD:Addr} {dE dF dG dH dI dJ:Value} {dK dL:Option Addr} {dM:Array (Option Value)}
    {dN:Addr} {dO dP dQ dR dS dT:Value} {dU dV:Option Addr} {dW:Array (Option Value)}
    {dX:Addr} {dY dZ d0 d1 d2 d3:Value} {d4 d5:Option Addr} {d6:Array (Option Value)}
    {d7:Addr} {d8 d9 ea eb ec ed:Value} {ee ef:Option Addr} {eg:Array (Option Value)}
    {eh:Addr} {ei ej ek el em en:Value} {eo ep:Option Addr} {eq:Array (Option Value)}
    {er:Addr} {es et eu ev ew ey:Value} {ez eA:Option Addr} {eB:Array (Option Value)}
    {eC:Addr} {eD eE eF eG eH eI:Value} {eJ eK:Option Addr} {eL:Array (Option Value)}
    {eM:Addr} {eN eO eP eQ eR eS:Value} {eT eU:Option Addr} {eV:Array (Option Value)}
    {eW:Addr} {eX eY eZ e1 e2 e3:Value} {e4 e5:Option Addr} {e6:Array (Option Value)}
    {e7:Addr} {e8 e9 fb fc fd fe:Value} {ff fg:Option Addr} {fh:Array (Option Value)}
    {fi:Addr} {fj fk fl fm fn fo:Value} {fp fq:Option Addr} {fr:Array (Option Value)}
    {fs:Addr} {ft fu fv fw fx fy:Value} {fz fA:Option Addr} {fB:Array (Option Value)}
    {fC:Addr} {fD fE fF fG fH fI:Value} {fJ fK:Option Addr} {fL:Array (Option Value)}
    {fM:Addr} {fN fO fP fQ fR fS:Value} {fT fU:Option Addr} {fV:Array (Option Value)}
    {fW:Addr} {fX fY fZ f0 f1 f2:Value} {f3 f4:Option Addr} {f5:Array (Option Value)}
    {f6:Addr} {f7 f8 f9 ga gb gc:Value} {gd gf:Option Addr} {gg:Array (Option Value)}
    {gh:Addr} {gi gj gk gl gm gn:Value} {go gp:Option Addr} {gq:Array (Option Value)}
    {gr:Addr} {gs gu gv gw gx gy:Value} {gz gA:Option Addr} {gB:Array (Option Value)}
    {gC:Addr} {gD gE gF gG gH gI:Value} {gJ gK:Option Addr} {gL:Array (Option Value)}
    {gM:Addr} {gN gO gP gQ gR gS:Value} {gT gU:Option Addr} {gV:Array (Option Value)}
    {gW:Addr} {gX gY gZ g0 g1 g2:Value} {g3 g4:Option Addr} {g5:Array (Option Value)}
    {g6:Addr} {g7 g8 g9 hb hc hd:Value} {he hf:Option Addr} {hg:Array (Option Value)}
    {hh:Addr} {hi hj hk hm hn ho:Value} {hp hq:Option Addr} {hr:Array (Option Value)}
    {hs:Addr} {ht hu hv hx hy hz:Value} {hA hD:Option Addr} {hE:Array (Option Value)}
    {hF:Addr} {hG hH hI hJ hK hL:Value} {hM hN:Option Addr} {hO:Array (Option Value)}
    {hP:Addr} {hQ hR hU hV hW hX:Value} {hY hZ:Option Addr} {h0:Array (Option Value)}
    {h1:Addr} {h2 h3 h4 h5 h6 h7:Value} {h8 h9:Option Addr} {ia:Array (Option Value)}
    {ib:Addr} {ic ie ig ih ii ij:Value} {ik il:Option Addr} {im:Array (Option Value)}
    {io:Addr} {ip iq ir it iu iv:Value} {iw ix:Option Addr} {iy:Array (Option Value)}
    {iz:Addr} {iA iB iC iD iE iF:Value} {iG iH:Option Addr} {iI:Array (Option Value)}
    {iJ:Addr} {iK iL iM iN iO iP:Value} {iQ iR:Option Addr} {iS:Array (Option Value)}
    {iT:Addr} {iU iV iW iX iY iZ:Value} {i0 i1:Option Addr} {i2:Array (Option Value)}
    {i3:Addr} {i4 i5 i6 i7 i8 i9:Value} {ja jb:Option Addr} {jc:Array (Option Value)}
    {jd:Addr} {je jf jg jh ji jj:Value} {jk jl:Option Addr} {jm:Array (Option Value)}
    {jn:Addr} {jo jp jq jr js jt:Value} {ju jv:Option Addr} {jw:Array (Option Value)}
    {jx:Addr} {jy jz jA jB jC jD:Value} {jE jF:Option Addr} {jG:Array (Option Value)}
    {jH:Addr} {jI jJ jK jL jM jN:Value} {jO jP:Option Addr} {jQ:Array (Option Value)}
    {jR:Addr} {jS jT jU jV jW jX:Value} {jY jZ:Option Addr} {j0:Array (Option Value)}
    {j1:Addr} {j2 j3 j4 j5 j6 j7:Value} {j8 j9:Option Addr} {ka:Array (Option Value)}
    {kc:Addr} {kd ke kf kg kh ki:Value} {kj kk:Option Addr} {kl:Array (Option Value)}
    {km:Addr} {kn ko kq kr ks kt:Value} {ku kv:Option Addr} {kw:Array (Option Value)}
    {kx:Addr} {ky kz kA kB kC kD:Value} {kE kF:Option Addr} {kG:Array (Option Value)}
    {kH:Addr}
    {kI:Addr}
    {kJ:Addr}
    {kK:Addr}
    {kL:Addr}
    {kM:Addr}
    {kN:Addr}
    {kO:Addr}
    {kP:Addr}
    {kQ:Addr}
    {kR:Addr}
    {kS:Addr}
    {kT:Addr}
    {kU kW:Addr} {kX:Value} {kY:Option Addr} {kZ:Array Value} {k0:Array (Option Value)}
    {k1:Tok}
    {k2:Tok}
    {k3:Addr} {k4:Option Addr} {k5:Nat} {k6:Array (Option Value)} {k7:Tok}
    {k8:Tok}
    {k9:Tok}
    {la:Tok}
    {lb:Tok}
    {ld:Tok}
    {lf:Tok}
    {lg:Tok}
    {lh:Tok}
    {li:Tok}
    {lj:Tok}
    {lk:Tok}
    (ll:W.nsIn K mainGlobals "_wall" = some (some (.ref aa)))
    (lm:K.lookup aa = some ⟨ab,ah,.func (W.fnOf "_wall" "_wall" (defArgs s_wall) (defBody s_wall) (defScope s_wall) .none ac ad ae ai af ag),aj⟩)
    (ln:W.codeIn K af "_wall" = true)
    (lp:W.keepIn K (.ref aa) = true)
    (lq:W.nsIn K mainGlobals "is_any_number" = some (some (.ref ak)))
    (lr:K.lookup ak = some ⟨al,as,.func (W.fnOf "is_any_number" "is_any_number" (defArgs s_is_any_number) (defBody s_is_any_number) (defScope s_is_any_number) .none am ao ap au aq ar),av⟩)
    (ls:W.codeIn K aq "is_any_number" = true)
    (lu:W.keepIn K (.ref ak) = true)
    (lv:W.nsIn K mainGlobals "is_number" = some (some (.ref aw)))
    (lw:K.lookup aw = some ⟨ax,aD,.func (W.fnOf "is_number" "is_number" (defArgs s_is_number) (defBody s_is_number) (defScope s_is_number) .none ay az aA aE aB aC),aF⟩)
    (lx:W.codeIn K aB "is_number" = true)
    (ly:W.keepIn K (.ref aw) = true)
    (lz:W.nsIn K mainGlobals "check_number" = some (some (.ref aG)))
    (lA:K.lookup aG = some ⟨aH,aN,.func (W.fnOf "check_number" "check_number" (defArgs s_check_number) (defBody s_check_number) (defScope s_check_number) .none aI aJ aK aO aL aM),aP⟩)
    (lB:W.codeIn K aL "check_number" = true)
    (lC:W.keepIn K (.ref aG) = true)
    (lD:W.nsIn K mainGlobals "are_rising" = some (some (.ref aQ)))
    (lE:K.lookup aQ = some ⟨aR,aX,.func (W.fnOf "are_rising" "are_rising" (defArgs s_are_rising) (defBody s_are_rising) (defScope s_are_rising) .none aS aT aU aY aV aW),aZ⟩)
    (lF:W.codeIn K aV "are_rising" = true)
    (lG:W.keepIn K (.ref aQ) = true)
    (lH:W.nsIn K mainGlobals "is_name" = some (some (.ref a0)))
    (lI:K.lookup a0 = some ⟨a1,a7,.func (W.fnOf "is_name" "is_name" (defArgs s_is_name) (defBody s_is_name) (defScope s_is_name) .none a2 a3 a4 a8 a5 a6),a9⟩)
    (lJ:W.codeIn K a5 "is_name" = true)
    (lK:W.keepIn K (.ref a0) = true)
    (lL:W.nsIn K mainGlobals "is_known" = some (some (.ref ba)))
    (lM:K.lookup ba = some ⟨bb,bh,.func (W.fnOf "is_known" "is_known" (defArgs s_is_known) (defBody s_is_known) (defScope s_is_known) .none bc bd be bi bf bg),bj⟩)
    (lN:W.codeIn K bf "is_known" = true)
    (lO:W.keepIn K (.ref ba) = true)
    (lP:W.nsIn K mainGlobals "zone_bits" = some (some (.ref bk)))
    (lQ:K.lookup bk = some ⟨bl,br,.func (W.fnOf "zone_bits" "zone_bits" (defArgs s_zone_bits) (defBody s_zone_bits) (defScope s_zone_bits) .none bm bn bo bs bp bq),bt⟩)
    (lR:W.codeIn K bp "zone_bits" = true)
    (lS:W.keepIn K (.ref bk) = true)
    (lT:W.nsIn K mainGlobals "zones_of" = some (some (.ref bu)))
    (lU:K.lookup bu = some ⟨bv,bC,.func (W.fnOf "zones_of" "zones_of" (defArgs s_zones_of) (defBody s_zones_of) (defScope s_zones_of) .none bw bx bz bD bA bB),bE⟩)
    (lV:W.codeIn K bA "zones_of" = true)
    (lW:W.keepIn K (.ref bu) = true)
    (lX:W.nsIn K mainGlobals "fits" = some (some (.ref bF)))
    (lY:K.lookup bF = some ⟨bG,bM,.func (W.fnOf "fits" "fits" (defArgs s_fits) (defBody s_fits) (defScope s_fits) .none bH bI bJ bN bK bL),bO⟩)
    (lZ:W.codeIn K bK "fits" = true)
    (l0:W.keepIn K (.ref bF) = true)
    (l1:W.nsIn K mainGlobals "price_of" = some (some (.ref bP)))
    (l2:K.lookup bP = some ⟨bQ,bW,.func (W.fnOf "price_of" "price_of" (defArgs s_price_of) (defBody s_price_of) (defScope s_price_of) .none bR bS bT bX bU bV),bY⟩)
    (l3:W.codeIn K bU "price_of" = true)
    (l4:W.keepIn K (.ref bP) = true)
    (l5:W.nsIn K mainGlobals "least_tickets" = some (some (.ref bZ)))
    (l6:K.lookup bZ = some ⟨b0,b6,.func (W.fnOf "least_tickets" "least_tickets" (defArgs s_least_tickets) (defBody s_least_tickets) (defScope s_least_tickets) .none b1 b2 b3 b7 b4 b5),b8⟩)
    (l7:W.codeIn K b4 "least_tickets" = true)
    (l8:W.keepIn K (.ref bZ) = true)
    (l9:W.nsIn K mainGlobals "held_behind" = some (some (.ref b9)))
    (ma:K.lookup b9 = some ⟨ca,cg,.func (W.fnOf "held_behind" "held_behind" (defArgs s_held_behind) (defBody s_held_behind) (defScope s_held_behind) .none cb cc cd ch ce cf),ci⟩)
    (mb:W.codeIn K ce "held_behind" = true)
    (mc:W.keepIn K (.ref b9) = true)
    (md:W.nsIn K mainGlobals "price_for" = some (some (.ref cj)))
    (me:K.lookup cj = some ⟨ck,cq,.func (W.fnOf "price_for" "price_for" (defArgs s_price_for) (defBody s_price_for) (defScope s_price_for) .none cl cm cn cr co cp),cs⟩)
    (mf:W.codeIn K co "price_for" = true)
    (mh:W.keepIn K (.ref cj) = true)
    (mi:W.nsIn K mainGlobals "ways_behind" = some (some (.ref cu)))
    (mj:K.lookup cu = some ⟨cv,cB,.func (W.fnOf "ways_behind" "ways_behind" (defArgs s_ways_behind) (defBody s_ways_behind) (defScope s_ways_behind) .none cw cx cy cC cz cA),cD⟩)
    (mk:W.codeIn K cz "ways_behind" = true)
    (ml:W.keepIn K (.ref cu) = true)
    (mm:W.nsIn K mainGlobals "copy_of" = some (some (.ref cE)))
    (mn:K.lookup cE = some ⟨cF,cL,.func (W.fnOf "copy_of" "copy_of" (defArgs s_copy_of) (defBody s_copy_of) (defScope s_copy_of) .none cG cH cI cM cJ cK),cN⟩)
    (mo:W.codeIn K cJ "copy_of" = true)
    (mp:W.keepIn K (.ref cE) = true)
    (mq:W.nsIn K mainGlobals "check_new" = some (some (.ref cO)))
    (mr:K.lookup cO = some ⟨cP,cV,.func (W.fnOf "check_new" "check_new" (defArgs s_check_new) (defBody s_check_new) (defScope s_check_new) .none cQ cR cS cW cT cU),cX⟩)
    (ms:W.codeIn K cT "check_new" = true)
    (mt:W.keepIn K (.ref cO) = true)
    (mu:W.nsIn K mainGlobals "check_room" = some (some (.ref cY)))
    (mv:K.lookup cY = some ⟨cZ,c5,.func (W.fnOf "check_room" "check_room" (defArgs s_check_room) (defBody s_check_room) (defScope s_check_room) .none c0 c1 c2 c6 c3 c4),c7⟩)
    (mw:W.codeIn K c3 "check_room" = true)
    (mx:W.keepIn K (.ref cY) = true)
    (my:W.nsIn K mainGlobals "have_calls_form" = some (some (.ref c8)))
    (mz:K.lookup c8 = some ⟨c9,df,.func (W.fnOf "have_calls_form" "have_calls_form" (defArgs s_have_calls_form) (defBody s_have_calls_form) (defScope s_have_calls_form) .none da db dc dg dd de),dh⟩)
    (mA:W.codeIn K dd "have_calls_form" = true)
    (mB:W.keepIn K (.ref c8) = true)
    (mC:W.nsIn K mainGlobals "can_follow" = some (some (.ref di)))
    (mD:K.lookup di = some ⟨dj,dq,.func (W.fnOf "can_follow" "can_follow" (defArgs s_can_follow) (defBody s_can_follow) (defScope s_can_follow) .none dk dl dm dr dn dp),ds⟩)
    (mE:W.codeIn K dn "can_follow" = true)
    (mF:W.keepIn K (.ref di) = true)
    (mG:W.nsIn K mainGlobals "_law_draw" = some (some (.ref dt)))
    (mH:K.lookup dt = some ⟨du,dA,.func (W.fnOf "_law_draw" "_law_draw" (defArgs s_law_draw) (defBody s_law_draw) (defScope s_law_draw) .none dv dw dx dB dy dz),dC⟩)
    (mI:W.codeIn K dy "_law_draw" = true)
    (mJ:W.keepIn K (.ref dt) = true)
    (mK:W.nsIn K mainGlobals "_law_whole" = some (some (.ref dD)))
    (mL:K.lookup dD = some ⟨dE,dK,.func (W.fnOf "_law_whole" "_law_whole" (defArgs s_law_whole) (defBody s_law_whole) (defScope s_law_whole) .none dF dG dH dL dI dJ),dM⟩)
    (mM:W.codeIn K dI "_law_whole" = true)
    (mN:W.keepIn K (.ref dD) = true)
    (mO:W.nsIn K mainGlobals "_law_names" = some (some (.ref dN)))
    (mP:K.lookup dN = some ⟨dO,dU,.func (W.fnOf "_law_names" "_law_names" (defArgs s_law_names) (defBody s_law_names) (defScope s_law_names) .none dP dQ dR dV dS dT),dW⟩)
    (mQ:W.codeIn K dS "_law_names" = true)
    (mR:W.keepIn K (.ref dN) = true)
    (mS:W.nsIn K mainGlobals "_law_calls" = some (some (.ref dX)))
    (mT:K.lookup dX = some ⟨dY,d4,.func (W.fnOf "_law_calls" "_law_calls" (defArgs s_law_calls) (defBody s_law_calls) (defScope s_law_calls) .none dZ d0 d1 d5 d2 d3),d6⟩)
    (mU:W.codeIn K d2 "_law_calls" = true)
    (mV:W.keepIn K (.ref dX) = true)
    (mW:W.nsIn K mainGlobals "_law_zones" = some (some (.ref d7)))
    (mX:K.lookup d7 = some ⟨d8,ee,.func (W.fnOf "_law_zones" "_law_zones" (defArgs s_law_zones) (defBody s_law_zones) (defScope s_law_zones) .none d9 ea eb ef ec ed),eg⟩)
    (mY:W.codeIn K ec "_law_zones" = true)
    (mZ:W.keepIn K (.ref d7) = true)
    (m0:W.nsIn K mainGlobals "_law_tickets" = some (some (.ref eh)))
    (m1:K.lookup eh = some ⟨ei,eo,.func (W.fnOf "_law_tickets" "_law_tickets" (defArgs s_law_tickets) (defBody s_law_tickets) (defScope s_law_tickets) .none ej ek el ep em en),eq⟩)
    (m2:W.codeIn K em "_law_tickets" = true)
    (m3:W.keepIn K (.ref eh) = true)
    (m4:W.nsIn K mainGlobals "_law_bits" = some (some (.ref er)))
    (m5:K.lookup er = some ⟨es,ez,.func (W.fnOf "_law_bits" "_law_bits" (defArgs s_law_bits) (defBody s_law_bits) (defScope s_law_bits) .none et eu ev eA ew ey),eB⟩)
    (m6:W.codeIn K ew "_law_bits" = true)
    (m7:W.keepIn K (.ref er) = true)
    (m8:W.nsIn K mainGlobals "_law_spent" = some (some (.ref eC)))
    (m9:K.lookup eC = some ⟨eD,eJ,.func (W.fnOf "_law_spent" "_law_spent" (defArgs s_law_spent) (defBody s_law_spent) (defScope s_law_spent) .none eE eF eG eK eH eI),eL⟩)
    (na:W.codeIn K eH "_law_spent" = true)
    (nc:W.keepIn K (.ref eC) = true)
    (nd:W.nsIn K mainGlobals "_law_net" = some (some (.ref eM)))
    (nf:K.lookup eM = some ⟨eN,eT,.func (W.fnOf "_law_net" "_law_net" (defArgs s_law_net) (defBody s_law_net) (defScope s_law_net) .none eO eP eQ eU eR eS),eV⟩)
    (ng:W.codeIn K eR "_law_net" = true)
    (nh:W.keepIn K (.ref eM) = true)
    (ni:W.nsIn K mainGlobals "_law_rides" = some (some (.ref eW)))
    (nj:K.lookup eW = some ⟨eX,e4,.func (W.fnOf "_law_rides" "_law_rides" (defArgs s_law_rides) (defBody s_law_rides) (defScope s_law_rides) .none eY eZ e1 e5 e2 e3),e6⟩)
    (nk:W.codeIn K e2 "_law_rides" = true)
    (nl:W.keepIn K (.ref eW) = true)
    (nm:W.nsIn K mainGlobals "_law_has" = some (some (.ref e7)))
    (nn:K.lookup e7 = some ⟨e8,ff,.func (W.fnOf "_law_has" "_law_has" (defArgs s_law_has) (defBody s_law_has) (defScope s_law_has) .none e9 fb fc fg fd fe),fh⟩)
    (no:W.codeIn K fd "_law_has" = true)
    (np:W.keepIn K (.ref e7) = true)
    (nq:W.nsIn K mainGlobals "_law_least" = some (some (.ref fi)))
    (nr:K.lookup fi = some ⟨fj,fp,.func (W.fnOf "_law_least" "_law_least" (defArgs s_law_least) (defBody s_law_least) (defScope s_law_least) .none fk fl fm fq fn fo),fr⟩)
    (nt:W.codeIn K fn "_law_least" = true)
    (nu:W.keepIn K (.ref fi) = true)
    (nv:W.nsIn K mainGlobals "_law_price" = some (some (.ref fs)))
    (nw:K.lookup fs = some ⟨ft,fz,.func (W.fnOf "_law_price" "_law_price" (defArgs s_law_price) (defBody s_law_price) (defScope s_law_price) .none fu fv fw fA fx fy),fB⟩)
    (nx:W.codeIn K fx "_law_price" = true)
    (ny:W.keepIn K (.ref fs) = true)
    (nz:W.nsIn K mainGlobals "_law_no_more" = some (some (.ref fC)))
    (nA:K.lookup fC = some ⟨fD,fJ,.func (W.fnOf "_law_no_more" "_law_no_more" (defArgs s_law_no_more) (defBody s_law_no_more) (defScope s_law_no_more) .none fE fF fG fK fH fI),fL⟩)
    (nB:W.codeIn K fH "_law_no_more" = true)
    (nC:W.keepIn K (.ref fC) = true)
    (nD:W.nsIn K mainGlobals "law" = some (some (.ref fM)))
    (nE:K.lookup fM = some ⟨fN,fT,.func (W.fnOf "law" "law" (defArgs s_law) (defBody s_law) (defScope s_law) .none fO fP fQ fU fR fS),fV⟩)
    (nF:W.codeIn K fR "law" = true)
    (nG:W.keepIn K (.ref fM) = true)
    (nH:W.nsIn K mainGlobals "RoadError" = some (some (.ref kH)))
    (nI:W.nsIn K mainGlobals "BadRule" = some (some (.ref kI)))
    (nJ:W.nsIn K mainGlobals "TooMany" = some (some (.ref kJ)))
    (nK:W.nsIn K mainGlobals "BadName" = some (some (.ref kK)))
    (nL:W.nsIn K mainGlobals "Twice" = some (some (.ref kL)))
    (nM:W.nsIn K mainGlobals "NoStop" = some (some (.ref kM)))
    (nN:W.nsIn K mainGlobals "NoRule" = some (some (.ref kN)))
    (nO:W.nsIn K mainGlobals "NoTicket" = some (some (.ref kO)))
    (nP:W.nsIn K mainGlobals "NoTrip" = some (some (.ref kP)))
    (nQ:W.nsIn K mainGlobals "BadNumber" = some (some (.ref kQ)))
    (nR:W.nsIn K mainGlobals "BadCalls" = some (some (.ref kR)))
    (nS:W.nsIn K mainGlobals "Rule" = some (some (.ref kS)))
    (nT:W.nsIn K mainGlobals "Net" = some (some (.ref kT)))
    (nU:W.findIn K (.ref kS) "copied" = some (some (.ref fW)))
    (nV:W.isFn K (.ref fW) = true)
    (nW:K.lookup fW = some ⟨fX,f3,.func (W.fnOf "copied" "Rule.copied" (defArgs s_Rule_copied) (defBody s_Rule_copied) (defScope s_Rule_copied) .none fY fZ f0 f4 f1 f2),f5⟩)
    (nX:W.codeIn K f1 "Rule.copied" = true)
    (nY:W.keepIn K (.ref fW) = true)
    (nZ:W.findIn K (.ref kS) "parts" = some (some (.ref f6)))
    (n0:W.isFn K (.ref f6) = true)
    (n1:K.lookup f6 = some ⟨f7,gd,.func (W.fnOf "parts" "Rule.parts" (defArgs s_Rule_parts) (defBody s_Rule_parts) (defScope s_Rule_parts) .none f8 f9 ga gf gb gc),gg⟩)
    (n2:W.codeIn K gb "Rule.parts" = true)
    (n3:W.keepIn K (.ref f6) = true)
    (n4:W.findIn K (.ref kS) "runs" = some (some (.ref gh)))
    (n5:W.isFn K (.ref gh) = true)
    (n6:K.lookup gh = some ⟨gi,go,.func (W.fnOf "runs" "Rule.runs" (defArgs s_Rule_runs) (defBody s_Rule_runs) (defScope s_Rule_runs) .none gj gk gl gp gm gn),gq⟩)
    (n7:W.codeIn K gm "Rule.runs" = true)
    (n8:W.keepIn K (.ref gh) = true)
    (n9:W.findIn K (.ref kS) "words" = some (some (.ref gr)))
    (oa:W.isFn K (.ref gr) = true)
    (ob:K.lookup gr = some ⟨gs,gz,.func (W.fnOf "words" "Rule.words" (defArgs s_Rule_words) (defBody s_Rule_words) (defScope s_Rule_words) .none gu gv gw gA gx gy),gB⟩)
    (oe:W.codeIn K gx "Rule.words" = true)
    (og:W.keepIn K (.ref gr) = true)
    (oh:W.findIn K (.ref kS) "weight" = some (some (.ref gC)))
    (oi:W.isFn K (.ref gC) = true)
    (oj:K.lookup gC = some ⟨gD,gJ,.func (W.fnOf "weight" "Rule.weight" (defArgs s_Rule_weight) (defBody s_Rule_weight) (defScope s_Rule_weight) .none gE gF gG gK gH gI),gL⟩)
    (ok:W.codeIn K gH "Rule.weight" = true)
    (ol:W.keepIn K (.ref gC) = true)
    (om:W.findIn K (.ref kS) "depth" = some (some (.ref gM)))
    (on:W.isFn K (.ref gM) = true)
    (oo:K.lookup gM = some ⟨gN,gT,.func (W.fnOf "depth" "Rule.depth" (defArgs s_Rule_depth) (defBody s_Rule_depth) (defScope s_Rule_depth) .none gO gP gQ gU gR gS),gV⟩)
    (op:W.codeIn K gR "Rule.depth" = true)
    (oq:W.keepIn K (.ref gM) = true)
    (os:W.findIn K (.ref kT) "__init__" = some (some (.ref gW)))
    (ot:W.isFn K (.ref gW) = true)
    (ou:K.lookup gW = some ⟨gX,g3,.func (W.fnOf "__init__" "Net.__init__" (defArgs s_Net_init) (defBody s_Net_init) (defScope s_Net_init) .none gY gZ g0 g4 g1 g2),g5⟩)
    (ov:W.codeIn K g1 "Net.__init__" = true)
    (ow:W.keepIn K (.ref gW) = true)
    (ox:W.findIn K (.ref kT) "copied" = some (some (.ref g6)))
    (oy:W.isFn K (.ref g6) = true)
    (oz:K.lookup g6 = some ⟨g7,he,.func (W.fnOf "copied" "Net.copied" (defArgs s_Net_copied) (defBody s_Net_copied) (defScope s_Net_copied) .none g8 g9 hb hf hc hd),hg⟩)
    (oA:W.codeIn K hc "Net.copied" = true)
    (oB:W.keepIn K (.ref g6) = true)
    (oC:W.findIn K (.ref kT) "add_stop" = some (some (.ref hh)))
    (oD:W.isFn K (.ref hh) = true)
    (oE:K.lookup hh = some ⟨hi,hp,.func (W.fnOf "add_stop" "Net.add_stop" (defArgs s_Net_add_stop) (defBody s_Net_add_stop) (defScope s_Net_add_stop) .none hj hk hm hq hn ho),hr⟩)
    (oF:W.codeIn K hn "Net.add_stop" = true)
    (oG:W.keepIn K (.ref hh) = true)
    (oH:W.findIn K (.ref kT) "add_walk" = some (some (.ref hs)))
    (oI:W.isFn K (.ref hs) = true)
    (oJ:K.lookup hs = some ⟨ht,hA,.func (W.fnOf "add_walk" "Net.add_walk" (defArgs s_Net_add_walk) (defBody s_Net_add_walk) (defScope s_Net_add_walk) .none hu hv hx hD hy hz),hE⟩)
    (oK:W.codeIn K hy "Net.add_walk" = true)
    (oL:W.keepIn K (.ref hs) = true)
    (oM:W.findIn K (.ref kT) "add_rule" = some (some (.ref hF)))
    (oN:W.isFn K (.ref hF) = true)
    (oO:K.lookup hF = some ⟨hG,hM,.func (W.fnOf "add_rule" "Net.add_rule" (defArgs s_Net_add_rule) (defBody s_Net_add_rule) (defScope s_Net_add_rule) .none hH hI hJ hN hK hL),hO⟩)
    (oP:W.codeIn K hK "Net.add_rule" = true)
    (oQ:W.keepIn K (.ref hF) = true)
    (oR:W.findIn K (.ref kT) "add_ticket" = some (some (.ref hP)))
    (oS:W.isFn K (.ref hP) = true)
    (oT:K.lookup hP = some ⟨hQ,hY,.func (W.fnOf "add_ticket" "Net.add_ticket" (defArgs s_Net_add_ticket) (defBody s_Net_add_ticket) (defScope s_Net_add_ticket) .none hR hU hV hZ hW hX),h0⟩)
    (oU:W.codeIn K hW "Net.add_ticket" = true)
    (oV:W.keepIn K (.ref hP) = true)
    (oW:W.findIn K (.ref kT) "add_trip" = some (some (.ref h1)))
    (oX:W.isFn K (.ref h1) = true)
    (oY:K.lookup h1 = some ⟨h2,h8,.func (W.fnOf "add_trip" "Net.add_trip" (defArgs s_Net_add_trip) (defBody s_Net_add_trip) (defScope s_Net_add_trip) .none h3 h4 h5 h9 h6 h7),ia⟩)
    (oZ:W.codeIn K h6 "Net.add_trip" = true)
    (o0:W.keepIn K (.ref h1) = true)
    (o1:W.findIn K (.ref kT) "check_stop" = some (some (.ref ib)))
    (o2:W.isFn K (.ref ib) = true)
    (o3:K.lookup ib = some ⟨ic,ik,.func (W.fnOf "check_stop" "Net.check_stop" (defArgs s_Net_check_stop) (defBody s_Net_check_stop) (defScope s_Net_check_stop) .none ie ig ih il ii ij),im⟩)
    (o4:W.codeIn K ii "Net.check_stop" = true)
    (o5:W.keepIn K (.ref ib) = true)
    (o6:W.findIn K (.ref kT) "check_trip" = some (some (.ref io)))
    (o7:W.isFn K (.ref io) = true)
    (o8:K.lookup io = some ⟨ip,iw,.func (W.fnOf "check_trip" "Net.check_trip" (defArgs s_Net_check_trip) (defBody s_Net_check_trip) (defScope s_Net_check_trip) .none iq ir it ix iu iv),iy⟩)
    (o9:W.codeIn K iu "Net.check_trip" = true)
    (pa:W.keepIn K (.ref io) = true)
    (pb:W.findIn K (.ref kT) "check_call" = some (some (.ref iz)))
    (pc:W.isFn K (.ref iz) = true)
    (pd:K.lookup iz = some ⟨iA,iG,.func (W.fnOf "check_call" "Net.check_call" (defArgs s_Net_check_call) (defBody s_Net_check_call) (defScope s_Net_check_call) .none iB iC iD iH iE iF),iI⟩)
    (pe:W.codeIn K iE "Net.check_call" = true)
    (pf:W.keepIn K (.ref iz) = true)
    (pg:W.findIn K (.ref kT) "has_walk" = some (some (.ref iJ)))
    (ph:W.isFn K (.ref iJ) = true)
    (pi:K.lookup iJ = some ⟨iK,iQ,.func (W.fnOf "has_walk" "Net.has_walk" (defArgs s_Net_has_walk) (defBody s_Net_has_walk) (defScope s_Net_has_walk) .none iL iM iN iR iO iP),iS⟩)
    (pj:W.codeIn K iO "Net.has_walk" = true)
    (pk:W.keepIn K (.ref iJ) = true)
    (pl:W.findIn K (.ref kT) "stops" = some (some (.ref iT)))
    (pn:W.isFn K (.ref iT) = true)
    (po:K.lookup iT = some ⟨iU,i0,.func (W.fnOf "stops" "Net.stops" (defArgs s_Net_stops) (defBody s_Net_stops) (defScope s_Net_stops) .none iV iW iX i1 iY iZ),i2⟩)
    (pp:W.codeIn K iY "Net.stops" = true)
    (pq:W.keepIn K (.ref iT) = true)
    (pr:W.findIn K (.ref kT) "walks" = some (some (.ref i3)))
    (pt:W.isFn K (.ref i3) = true)
    (pu:K.lookup i3 = some ⟨i4,ja,.func (W.fnOf "walks" "Net.walks" (defArgs s_Net_walks) (defBody s_Net_walks) (defScope s_Net_walks) .none i5 i6 i7 jb i8 i9),jc⟩)
    (pv:W.codeIn K i8 "Net.walks" = true)
    (pw:W.keepIn K (.ref i3) = true)
    (px:W.findIn K (.ref kT) "rules" = some (some (.ref jd)))
    (py:W.isFn K (.ref jd) = true)
    (pz:K.lookup jd = some ⟨je,jk,.func (W.fnOf "rules" "Net.rules" (defArgs s_Net_rules) (defBody s_Net_rules) (defScope s_Net_rules) .none jf jg jh jl ji jj),jm⟩)
    (pA:W.codeIn K ji "Net.rules" = true)
    (pB:W.keepIn K (.ref jd) = true)
    (pC:W.findIn K (.ref kT) "tickets" = some (some (.ref jn)))
    (pD:W.isFn K (.ref jn) = true)
    (pE:K.lookup jn = some ⟨jo,ju,.func (W.fnOf "tickets" "Net.tickets" (defArgs s_Net_tickets) (defBody s_Net_tickets) (defScope s_Net_tickets) .none jp jq jr jv js jt),jw⟩)
    (pF:W.codeIn K js "Net.tickets" = true)
    (pG:W.keepIn K (.ref jn) = true)
    (pH:W.findIn K (.ref kT) "trips" = some (some (.ref jx)))
    (pI:W.isFn K (.ref jx) = true)
    (pJ:K.lookup jx = some ⟨jy,jE,.func (W.fnOf "trips" "Net.trips" (defArgs s_Net_trips) (defBody s_Net_trips) (defScope s_Net_trips) .none jz jA jB jF jC jD),jG⟩)
    (pK:W.codeIn K jC "Net.trips" = true)
    (pL:W.keepIn K (.ref jx) = true)
    (pM:W.findIn K (.ref kT) "zone" = some (some (.ref jH)))
    (pN:W.isFn K (.ref jH) = true)
    (pO:K.lookup jH = some ⟨jI,jO,.func (W.fnOf "zone" "Net.zone" (defArgs s_Net_zone) (defBody s_Net_zone) (defScope s_Net_zone) .none jJ jK jL jP jM jN),jQ⟩)
    (pP:W.codeIn K jM "Net.zone" = true)
    (pQ:W.keepIn K (.ref jH) = true)
    (pR:W.findIn K (.ref kT) "change" = some (some (.ref jR)))
    (pS:W.isFn K (.ref jR) = true)
    (pT:K.lookup jR = some ⟨jS,jY,.func (W.fnOf "change" "Net.change" (defArgs s_Net_change) (defBody s_Net_change) (defScope s_Net_change) .none jT jU jV jZ jW jX),j0⟩)
    (pU:W.codeIn K jW "Net.change" = true)
    (pV:W.keepIn K (.ref jR) = true)
    (pW:W.findIn K (.ref kT) "rule" = some (some (.ref j1)))
    (pX:W.isFn K (.ref j1) = true)
    (pY:K.lookup j1 = some ⟨j2,j8,.func (W.fnOf "rule" "Net.rule" (defArgs s_Net_rule) (defBody s_Net_rule) (defScope s_Net_rule) .none j3 j4 j5 j9 j6 j7),ka⟩)
    (pZ:W.codeIn K j6 "Net.rule" = true)
    (p0:W.keepIn K (.ref j1) = true)
    (p1:W.findIn K (.ref kT) "ticket" = some (some (.ref kc)))
    (p2:W.isFn K (.ref kc) = true)
    (p3:K.lookup kc = some ⟨kd,kj,.func (W.fnOf "ticket" "Net.ticket" (defArgs s_Net_ticket) (defBody s_Net_ticket) (defScope s_Net_ticket) .none ke kf kg kk kh ki),kl⟩)
    (p4:W.codeIn K kh "Net.ticket" = true)
    (p5:W.keepIn K (.ref kc) = true)
    (p6:W.findIn K (.ref kT) "rule_name" = some (some (.ref km)))
    (p7:W.isFn K (.ref km) = true)
    (p8:K.lookup km = some ⟨kn,ku,.func (W.fnOf "rule_name" "Net.rule_name" (defArgs s_Net_rule_name) (defBody s_Net_rule_name) (defScope s_Net_rule_name) .none ko kq kr kv ks kt),kw⟩)
    (p9:W.codeIn K ks "Net.rule_name" = true)
    (qa:W.keepIn K (.ref km) = true)
    (qb:W.findIn K (.ref kT) "calls" = some (some (.ref kx)))
    (qc:W.isFn K (.ref kx) = true)
    (qd:K.lookup kx = some ⟨ky,kE,.func (W.fnOf "calls" "Net.calls" (defArgs s_Net_calls) (defBody s_Net_calls) (defScope s_Net_calls) .none kz kA kB kF kC kD),kG⟩)
    (qe:W.codeIn K kC "Net.calls" = true)
    (qf:W.keepIn K (.ref kx) = true)
    (qg:W.plainGet K kS Str.empty = true)
    (qh:W.hasDictIn K kS = true)
    (qi:W.plainOver K kS = true)
    (qj:W.findIn K (.ref kS) "__setattr__" = some (some (.builtin "object.__setattr__")))
    (qk:W.makesIn K kS = true)
    (ql:W.keepIn K (.ref kS) = true)
    (qm:W.findIn K (.ref kS) "__init__" = some (some (.builtin "object.__init__")))
    (qn:W.plainGet K kT Str.empty = true)
    (qo:W.hasDictIn K kT = true)
    (qp:W.plainOver K kT = true)
    (qq:W.findIn K (.ref kT) "__setattr__" = some (some (.builtin "object.__setattr__")))
    (qr:W.makesIn K kT = true)
    (qs:W.keepIn K (.ref kT) = true)
    (qt:W.findIn K (.ref kT) "stop_rows" = some none)
    (qu:W.findIn K (.ref kT) "walk_rows" = some none)
    (qv:W.findIn K (.ref kT) "rule_rows" = some none)
    (qw:W.findIn K (.ref kT) "ticket_rows" = some none)
    (qx:W.findIn K (.ref kT) "trip_rows" = some none)
    (qy:b4 = .ref kU)
    (qz:K.lookup kU = some ⟨kX,kY,.fields kZ,k0⟩)
    (qA:(kZ[11]?:Option Value) = some (.ref kW))
    (qB:K.lookup kW = none)
    (qC:W.findIn K (.ref kS) "__class__" = some (some (.builtin "object.__class__")))
    (qD:W.specialIn K (.builtin "object.__class__") "__get__" = some (some (.builtin "getset_descriptor.__get__")))
    (qE:W.takesIn K (.builtin "object.__class__") = some true)
    (qF:W.mroIn K kS (.type "object") = some true)
    (qG:W.kitOne K (.ref kS) (.ref kS) = some true)
    (qH:W.nsIn K mainGlobals "all" = some none)
    (qI:W.nsIn K mainGlobals "bool" = some none)
    (qJ:W.nsIn K mainGlobals "dict" = some none)
    (qK:W.nsIn K mainGlobals "enumerate" = some none)
    (qL:W.nsIn K mainGlobals "int" = some none)
    (qM:W.nsIn K mainGlobals "isinstance" = some none)
    (qN:W.nsIn K mainGlobals "len" = some none)
    (qO:W.nsIn K mainGlobals "list" = some none)
    (qP:W.nsIn K mainGlobals "min" = some none)
    (qQ:W.nsIn K mainGlobals "range" = some none)
    (qR:W.nsIn K mainGlobals "reversed" = some none)
    (qS:W.nsIn K mainGlobals "set" = some none)
    (qT:W.nsIn K mainGlobals "sorted" = some none)
    (qU:W.nsIn K mainGlobals "str" = some none)
    (qV:W.nsIn K mainGlobals "sum" = some none)
    (qW:W.nsIn K mainGlobals "tuple" = some none)
    (qX:W.nsIn K mainGlobals "zip" = some none)
    (qY:W.nsIn K mainGlobals "LETTERS" = some (some (.str (Str.ofString "abcdefghijklmnopqrstuvwxyz") k1)))
    (qZ:W.nsIn K mainGlobals "MOST_LETTERS" = some (some (.int 8 k2)))
    (q0:W.nsIn K mainGlobals "NOTHING_HELD" = some (some (.ref k3)))
    (q1:K.lookup k3 = some ⟨.type "tuple",k4,.seq (List.toArray [.none,.int (-1) k7]) k5,k6⟩)
    (q2:W.nsIn K mainGlobals "LAST_MINUTE" = some (some (.int 2879 k8)))
    (q3:W.nsIn K mainGlobals "MOST_STOPS" = some (some (.int 8 k9)))
    (q4:W.nsIn K mainGlobals "MOST_RULES" = some (some (.int 6 la)))
    (q5:W.nsIn K mainGlobals "MOST_TICKETS" = some (some (.int 3 lb)))
    (q6:W.nsIn K mainGlobals "MOST_TRIPS" = some (some (.int 10 ld)))
    (q7:W.nsIn K mainGlobals "LAST_ZONE" = some (some (.int 6 lf)))
    (q8:W.nsIn K mainGlobals "MOST_CHANGE" = some (some (.int 30 lg)))
    (q9:W.nsIn K mainGlobals "MOST_PRICE" = some (some (.int 10000 lh)))
    (ra:W.nsIn K mainGlobals "MOST_LASTING" = some (some (.int 1440 li)))
    (rb:W.nsIn K mainGlobals "LEAST_CALLS" = some (some (.int 2 lj)))
    (rc:W.nsIn K mainGlobals "MOST_CALLS" = some (some (.int 6 lk)))
    : ∃ t:Adr,Tab K mg t:=by
  have rd:=fun_mk (st:=s_wall) lm ln lp
  have re:=rd.binds (ps:=["k"]) fun _ _ _ _ _ _ us hl=>match us,hl with | [_],_=>rfl
  have rf:=fun_mk (st:=s_is_any_number) lr ls lu
  have rg:=rf.binds (ps:=["value"]) fun _ _ _ _ _ _ us hl=>match us,hl with | [_],_=>rfl
  have rh:=fun_mk (st:=s_is_number) lw lx ly
  have ri:=rh.binds (ps:=["value","least","most"]) fun _ _ _ _ _ _ us hl=>match us,hl with | [_,_,_],_=>rfl
  have rj:=fun_mk (st:=s_check_number) lA lB lC
  have rk:=rj.binds (ps:=["value","least","most"]) fun _ _ _ _ _ _ us hl=>match us,hl with | [_,_,_],_=>rfl
  have rl:=fun_mk (st:=s_are_rising) lE lF lG
  have rm:=rl.binds (ps:=["values","longest","least","most"]) fun _ _ _ _ _ _ us hl=>match us,hl with | [_,_,_,_],_=>rfl
  have rn:=fun_mk (st:=s_is_name) lI lJ lK
  have ro:=rn.binds (ps:=["value"]) fun _ _ _ _ _ _ us hl=>match us,hl with | [_],_=>rfl
  have rp:=fun_mk (st:=s_is_known) lM lN lO
  have rq:=rp.binds (ps:=["value","named"]) fun _ _ _ _ _ _ us hl=>match us,hl with | [_,_],_=>rfl
  have rr:=fun_mk (st:=s_zone_bits) lQ lR lS
  have rs:=rr.binds (ps:=["zones"]) fun _ _ _ _ _ _ us hl=>match us,hl with | [_],_=>rfl
  have rt:=fun_mk (st:=s_zones_of) lU lV lW
  have ru:=rt.binds (ps:=["net","trip","board","off"]) fun _ _ _ _ _ _ us hl=>match us,hl with | [_,_,_,_],_=>rfl
  have rv:=fun_mk (st:=s_fits) lY lZ l0
  have rx:=rv.binds (ps:=["net","ticket","bits"]) fun _ _ _ _ _ _ us hl=>match us,hl with | [_,_,_],_=>rfl
  have ry:=fun_mk (st:=s_price_of) l2 l3 l4
  have rz:=ry.binds (ps:=["net","rides","bought"]) fun _ _ _ _ _ _ us hl=>match us,hl with | [_,_,_],_=>rfl
  have rA:=fun_mk (st:=s_least_tickets) l6 l7 l8
  have rB:=rA.binds (ps:=["net","rides"]) fun _ _ _ _ _ _ us hl=>match us,hl with | [_,_],_=>rfl
  have rC:=fun_mk (st:=s_held_behind) ma mb mc
  have rD:=rC.binds (ps:=["net","held","ride","name"]) fun _ _ _ _ _ _ us hl=>match us,hl with | [_,_,_,_],_=>rfl
  have rE:=fun_mk (st:=s_price_for) me mf mh
  have rF:=rE.binds (ps:=["net","name"]) fun _ _ _ _ _ _ us hl=>match us,hl with | [_,_],_=>rfl
  have rG:=fun_mk (st:=s_ways_behind) mj mk ml
  have rH:=rG.binds (ps:=["net","ways","ride"]) fun _ _ _ _ _ _ us hl=>match us,hl with | [_,_,_],_=>rfl
  have rI:=fun_mk (st:=s_copy_of) mn mo mp
  have rJ:=rI.binds (ps:=["rule"]) fun _ _ _ _ _ _ us hl=>match us,hl with | [_],_=>rfl
  have rK:=fun_mk (st:=s_check_new) mr ms mt
  have rL:=rK.binds (ps:=["name","named"]) fun _ _ _ _ _ _ us hl=>match us,hl with | [_,_],_=>rfl
  have rM:=fun_mk (st:=s_check_room) mv mw mx
  have rN:=rM.binds (ps:=["kept","most"]) fun _ _ _ _ _ _ us hl=>match us,hl with | [_,_],_=>rfl
  have rO:=fun_mk (st:=s_have_calls_form) mz mA mB
  have rP:=rO.binds (ps:=["calls"]) fun _ _ _ _ _ _ us hl=>match us,hl with | [_],_=>rfl
  have rQ:=fun_mk (st:=s_can_follow) mD mE mF
  have rR:=rQ.binds (ps:=["call","ahead"]) fun _ _ _ _ _ _ us hl=>match us,hl with | [_,_],_=>rfl
  have rS:=fun_mk (st:=s_law_draw) mH mI mJ
  have rT:=rS.binds (ps:=["_law_script","_law_k"]) fun _ _ _ _ _ _ us hl=>match us,hl with | [_,_],_=>rfl
  have rU:=fun_mk (st:=s_law_whole) mL mM mN
  have rV:=rU.binds (ps:=["_law_found"]) fun _ _ _ _ _ _ us hl=>match us,hl with | [_],_=>rfl
  have rW:=fun_mk (st:=s_law_names) mP mQ mR
  have rX:=rW.binds (ps:=["_law_script","_law_k","_law_many"]) fun _ _ _ _ _ _ us hl=>match us,hl with | [_,_,_],_=>rfl
  have rY:=fun_mk (st:=s_law_calls) mT mU mV
  have rZ:=rY.binds (ps:=["_law_script","_law_k","_law_names_here"]) fun _ _ _ _ _ _ us hl=>match us,hl with | [_,_,_],_=>rfl
  have r0:=fun_mk (st:=s_law_zones) mX mY mZ
  have r1:=r0.binds (ps:=["_law_bits_here"]) fun _ _ _ _ _ _ us hl=>match us,hl with | [_],_=>rfl
  have r2:=fun_mk (st:=s_law_tickets) m1 m2 m3
  have r3:=r2.binds (ps:=["_law_script","_law_k","_law_many"]) fun _ _ _ _ _ _ us hl=>match us,hl with | [_,_,_],_=>rfl
  have r4:=fun_mk (st:=s_law_bits) m5 m6 m7
  have r5:=r4.binds (ps:=["_law_zones_here"]) fun _ _ _ _ _ _ us hl=>match us,hl with | [_],_=>rfl
  have r6:=fun_mk (st:=s_law_spent) m9 na nc
  have r7:=r6.binds (ps:=["_law_tickets_here","_law_rides_here","_law_bought"]) fun _ _ _ _ _ _ us hl=>match us,hl with | [_,_,_],_=>rfl
  have r8:=fun_mk (st:=s_law_net) nf ng nh
  have r9:=r8.binds (ps:=["_law_names_here","_law_zones_here","_law_tickets_here","_law_trips"]) fun _ _ _ _ _ _ us hl=>match us,hl with | [_,_,_,_],_=>rfl
  have sa:=fun_mk (st:=s_law_rides) nj nk nl
  have sb:=sa.binds (ps:=["_law_script","_law_net_here","_law_names_here","_law_zones_here","_law_trips"]) fun _ _ _ _ _ _ us hl=>match us,hl with | [_,_,_,_,_],_=>rfl
  have sc:=fun_mk (st:=s_law_has) nn no np
  have sd:=sc.binds (ps:=["_law_ticket","_law_ride"]) fun _ _ _ _ _ _ us hl=>match us,hl with | [_,_],_=>rfl
  have se:=fun_mk (st:=s_law_least) nr nt nu
  have sf:=se.binds (ps:=["_law_tickets_here","_law_rides_here"]) fun _ _ _ _ _ _ us hl=>match us,hl with | [_,_],_=>rfl
  have sg:=fun_mk (st:=s_law_price) nw nx ny
  have sh:=sg.binds (ps:=["_law_found"]) fun _ _ _ _ _ _ us hl=>match us,hl with | [_],_=>rfl
  have si:=fun_mk (st:=s_law_no_more) nA nB nC
  have sj:=si.binds (ps:=["_law_found","_law_other"]) fun _ _ _ _ _ _ us hl=>match us,hl with | [_,_],_=>rfl
  have sk:=fun_mk (st:=s_law) nE nF nG
  have sl:=sk.binds (ps:=["_law_script"]) fun _ _ _ _ _ _ us hl=>match us,hl with | [_],_=>rfl
  have sm:=fun_mk (st:=s_Rule_copied) nW nX nY
  have sn:=sm.binds (ps:=["self"]) fun _ _ _ _ _ _ us hl=>match us,hl with | [_],_=>rfl
  have so:=fun_mk (st:=s_Rule_parts) n1 n2 n3
  have sq:=so.binds (ps:=["self"]) fun _ _ _ _ _ _ us hl=>match us,hl with | [_],_=>rfl
  have sr:=fun_mk (st:=s_Rule_runs) n6 n7 n8
  have ss:=sr.binds (ps:=["self","day"]) fun _ _ _ _ _ _ us hl=>match us,hl with | [_,_],_=>rfl
  have su:=fun_mk (st:=s_Rule_words) ob oe og
  have sv:=su.binds (ps:=["self"]) fun _ _ _ _ _ _ us hl=>match us,hl with | [_],_=>rfl
  have sw:=fun_mk (st:=s_Rule_weight) oj ok ol
  have sx:=sw.binds (ps:=["self"]) fun _ _ _ _ _ _ us hl=>match us,hl with | [_],_=>rfl
  have sy:=fun_mk (st:=s_Rule_depth) oo op oq
  have sz:=sy.binds (ps:=["self"]) fun _ _ _ _ _ _ us hl=>match us,hl with | [_],_=>rfl
  have sA:=fun_mk (st:=s_Net_init) ou ov ow
  have sB:=sA.binds (ps:=["self"]) fun _ _ _ _ _ _ us hl=>match us,hl with | [_],_=>rfl
  have sC:=fun_mk (st:=s_Net_copied) oz oA oB
  have sD:=sC.binds (ps:=["self"]) fun _ _ _ _ _ _ us hl=>match us,hl with | [_],_=>rfl
  have sE:=fun_mk (st:=s_Net_add_stop) oE oF oG
  have sF:=sE.binds (ps:=["self","name","zone","change"]) fun _ _ _ _ _ _ us hl=>match us,hl with | [_,_,_,_],_=>rfl
  have sG:=fun_mk (st:=s_Net_add_walk) oJ oK oL
  have sH:=sG.binds (ps:=["self","one","other","minutes"]) fun _ _ _ _ _ _ us hl=>match us,hl with | [_,_,_,_],_=>rfl
  have sI:=fun_mk (st:=s_Net_add_rule) oO oP oQ
  have sJ:=sI.binds (ps:=["self","name","rule"]) fun _ _ _ _ _ _ us hl=>match us,hl with | [_,_,_],_=>rfl
  have sK:=fun_mk (st:=s_Net_add_ticket) oT oU oV
  have sL:=sK.binds (ps:=["self","name","price","lasts","zones"]) fun _ _ _ _ _ _ us hl=>match us,hl with | [_,_,_,_,_],_=>rfl
  have sM:=fun_mk (st:=s_Net_add_trip) oY oZ o0
  have sN:=sM.binds (ps:=["self","name","rule","calls"]) fun _ _ _ _ _ _ us hl=>match us,hl with | [_,_,_,_],_=>rfl
  have sO:=fun_mk (st:=s_Net_check_stop) o3 o4 o5
  have sP:=sO.binds (ps:=["self","name"]) fun _ _ _ _ _ _ us hl=>match us,hl with | [_,_],_=>rfl
  have sQ:=fun_mk (st:=s_Net_check_trip) o8 o9 pa
  have sR:=sQ.binds (ps:=["self","name"]) fun _ _ _ _ _ _ us hl=>match us,hl with | [_,_],_=>rfl
  have sS:=fun_mk (st:=s_Net_check_call) pd pe pf
  have sT:=sS.binds (ps:=["self","call"]) fun _ _ _ _ _ _ us hl=>match us,hl with | [_,_],_=>rfl
  have sU:=fun_mk (st:=s_Net_has_walk) pi pj pk
  have sV:=sU.binds (ps:=["self","one","other"]) fun _ _ _ _ _ _ us hl=>match us,hl with | [_,_,_],_=>rfl
  have sW:=fun_mk (st:=s_Net_stops) po pp pq
  have sX:=sW.binds (ps:=["self"]) fun _ _ _ _ _ _ us hl=>match us,hl with | [_],_=>rfl
  have sY:=fun_mk (st:=s_Net_walks) pu pv pw
  have sZ:=sY.binds (ps:=["self"]) fun _ _ _ _ _ _ us hl=>match us,hl with | [_],_=>rfl
  have s0:=fun_mk (st:=s_Net_rules) pz pA pB
  have s1:=s0.binds (ps:=["self"]) fun _ _ _ _ _ _ us hl=>match us,hl with | [_],_=>rfl
  have s2:=fun_mk (st:=s_Net_tickets) pE pF pG
  have s3:=s2.binds (ps:=["self"]) fun _ _ _ _ _ _ us hl=>match us,hl with | [_],_=>rfl
  have s4:=fun_mk (st:=s_Net_trips) pJ pK pL
  have s5:=s4.binds (ps:=["self"]) fun _ _ _ _ _ _ us hl=>match us,hl with | [_],_=>rfl
  have s6:=fun_mk (st:=s_Net_zone) pO pP pQ
  have s7:=s6.binds (ps:=["self","stop"]) fun _ _ _ _ _ _ us hl=>match us,hl with | [_,_],_=>rfl
  have s8:=fun_mk (st:=s_Net_change) pT pU pV
  have s9:=s8.binds (ps:=["self","stop"]) fun _ _ _ _ _ _ us hl=>match us,hl with | [_,_],_=>rfl
  have ta:=fun_mk (st:=s_Net_rule) pY pZ p0
  have tb:=ta.binds (ps:=["self","name"]) fun _ _ _ _ _ _ us hl=>match us,hl with | [_,_],_=>rfl
  have tc:=fun_mk (st:=s_Net_ticket) p3 p4 p5
  have td:=tc.binds (ps:=["self","name"]) fun _ _ _ _ _ _ us hl=>match us,hl with | [_,_],_=>rfl
  have te:=fun_mk (st:=s_Net_rule_name) p8 p9 qa
  have tf:=te.binds (ps:=["self","trip"]) fun _ _ _ _ _ _ us hl=>match us,hl with | [_,_],_=>rfl
  have tg:=fun_mk (st:=s_Net_calls) qd qe qf
  have th:=tg.binds (ps:=["self","trip"]) fun _ _ _ _ _ _ us hl=>match us,hl with | [_,_],_=>rfl
  exact ⟨⟨aa,W.fnOf "_wall" "_wall" (defArgs s_wall) (defBody s_wall) (defScope s_wall) .none ac ad ae ai af ag,ak,W.fnOf "is_any_number" "is_any_number" (defArgs s_is_any_number) (defBody s_is_any_number) (defScope s_is_any_number) .none am ao ap au aq ar,aw,W.fnOf "is_number" "is_number" (defArgs s_is_number) (defBody s_is_number) (defScope s_is_number) .none ay az aA aE aB aC,aG,W.fnOf "check_number" "check_number" (defArgs s_check_number) (defBody s_check_number) (defScope s_check_number) .none aI aJ aK aO aL aM,aQ,W.fnOf "are_rising" "are_rising" (defArgs s_are_rising) (defBody s_are_rising) (defScope s_are_rising) .none aS aT aU aY aV aW,a0,W.fnOf "is_name" "is_name" (defArgs s_is_name) (defBody s_is_name) (defScope s_is_name) .none a2 a3 a4 a8 a5 a6,ba,W.fnOf "is_known" "is_known" (defArgs s_is_known) (defBody s_is_known) (defScope s_is_known) .none bc bd be bi bf bg,bk,W.fnOf "zone_bits" "zone_bits" (defArgs s_zone_bits) (defBody s_zone_bits) (defScope s_zone_bits) .none bm bn bo bs bp bq,bu,W.fnOf "zones_of" "zones_of" (defArgs s_zones_of) (defBody s_zones_of) (defScope s_zones_of) .none bw bx bz bD bA bB,bF,W.fnOf "fits" "fits" (defArgs s_fits) (defBody s_fits) (defScope s_fits) .none bH bI bJ bN bK bL,bP,W.fnOf "price_of" "price_of" (defArgs s_price_of) (defBody s_price_of) (defScope s_price_of) .none bR bS bT bX bU bV,bZ,W.fnOf "least_tickets" "least_tickets" (defArgs s_least_tickets) (defBody s_least_tickets) (defScope s_least_tickets) .none b1 b2 b3 b7 b4 b5,b9,W.fnOf "held_behind" "held_behind" (defArgs s_held_behind) (defBody s_held_behind) (defScope s_held_behind) .none cb cc cd ch ce cf,cj,W.fnOf "price_for" "price_for" (defArgs s_price_for) (defBody s_price_for) (defScope s_price_for) .none cl cm cn cr co cp,cu,W.fnOf "ways_behind" "ways_behind" (defArgs s_ways_behind) (defBody s_ways_behind) (defScope s_ways_behind) .none cw cx cy cC cz cA,cE,W.fnOf "copy_of" "copy_of" (defArgs s_copy_of) (defBody s_copy_of) (defScope s_copy_of) .none cG cH cI cM cJ cK,cO,W.fnOf "check_new" "check_new" (defArgs s_check_new) (defBody s_check_new) (defScope s_check_new) .none cQ cR cS cW cT cU,cY,W.fnOf "check_room" "check_room" (defArgs s_check_room) (defBody s_check_room) (defScope s_check_room) .none c0 c1 c2 c6 c3 c4,c8,W.fnOf "have_calls_form" "have_calls_form" (defArgs s_have_calls_form) (defBody s_have_calls_form) (defScope s_have_calls_form) .none da db dc dg dd de,di,W.fnOf "can_follow" "can_follow" (defArgs s_can_follow) (defBody s_can_follow) (defScope s_can_follow) .none dk dl dm dr dn dp,dt,W.fnOf "_law_draw" "_law_draw" (defArgs s_law_draw) (defBody s_law_draw) (defScope s_law_draw) .none dv dw dx dB dy dz,dD,W.fnOf "_law_whole" "_law_whole" (defArgs s_law_whole) (defBody s_law_whole) (defScope s_law_whole) .none dF dG dH dL dI dJ,dN,W.fnOf "_law_names" "_law_names" (defArgs s_law_names) (defBody s_law_names) (defScope s_law_names) .none dP dQ dR dV dS dT,dX,W.fnOf "_law_calls" "_law_calls" (defArgs s_law_calls) (defBody s_law_calls) (defScope s_law_calls) .none dZ d0 d1 d5 d2 d3,d7,W.fnOf "_law_zones" "_law_zones" (defArgs s_law_zones) (defBody s_law_zones) (defScope s_law_zones) .none d9 ea eb ef ec ed,eh,W.fnOf "_law_tickets" "_law_tickets" (defArgs s_law_tickets) (defBody s_law_tickets) (defScope s_law_tickets) .none ej ek el ep em en,er,W.fnOf "_law_bits" "_law_bits" (defArgs s_law_bits) (defBody s_law_bits) (defScope s_law_bits) .none et eu ev eA ew ey,eC,W.fnOf "_law_spent" "_law_spent" (defArgs s_law_spent) (defBody s_law_spent) (defScope s_law_spent) .none eE eF eG eK eH eI,eM,W.fnOf "_law_net" "_law_net" (defArgs s_law_net) (defBody s_law_net) (defScope s_law_net) .none eO eP eQ eU eR eS,eW,W.fnOf "_law_rides" "_law_rides" (defArgs s_law_rides) (defBody s_law_rides) (defScope s_law_rides) .none eY eZ e1 e5 e2 e3,e7,W.fnOf "_law_has" "_law_has" (defArgs s_law_has) (defBody s_law_has) (defScope s_law_has) .none e9 fb fc fg fd fe,fi,W.fnOf "_law_least" "_law_least" (defArgs s_law_least) (defBody s_law_least) (defScope s_law_least) .none fk fl fm fq fn fo,fs,W.fnOf "_law_price" "_law_price" (defArgs s_law_price) (defBody s_law_price) (defScope s_law_price) .none fu fv fw fA fx fy,fC,W.fnOf "_law_no_more" "_law_no_more" (defArgs s_law_no_more) (defBody s_law_no_more) (defScope s_law_no_more) .none fE fF fG fK fH fI,fM,W.fnOf "law" "law" (defArgs s_law) (defBody s_law) (defScope s_law) .none fO fP fQ fU fR fS,fW,W.fnOf "copied" "Rule.copied" (defArgs s_Rule_copied) (defBody s_Rule_copied) (defScope s_Rule_copied) .none fY fZ f0 f4 f1 f2,f6,W.fnOf "parts" "Rule.parts" (defArgs s_Rule_parts) (defBody s_Rule_parts) (defScope s_Rule_parts) .none f8 f9 ga gf gb gc,gh,W.fnOf "runs" "Rule.runs" (defArgs s_Rule_runs) (defBody s_Rule_runs) (defScope s_Rule_runs) .none gj gk gl gp gm gn,gr,W.fnOf "words" "Rule.words" (defArgs s_Rule_words) (defBody s_Rule_words) (defScope s_Rule_words) .none gu gv gw gA gx gy,gC,W.fnOf "weight" "Rule.weight" (defArgs s_Rule_weight) (defBody s_Rule_weight) (defScope s_Rule_weight) .none gE gF gG gK gH gI,gM,W.fnOf "depth" "Rule.depth" (defArgs s_Rule_depth) (defBody s_Rule_depth) (defScope s_Rule_depth) .none gO gP gQ gU gR gS,gW,W.fnOf "__init__" "Net.__init__" (defArgs s_Net_init) (defBody s_Net_init) (defScope s_Net_init) .none gY gZ g0 g4 g1 g2,g6,W.fnOf "copied" "Net.copied" (defArgs s_Net_copied) (defBody s_Net_copied) (defScope s_Net_copied) .none g8 g9 hb hf hc hd,hh,W.fnOf "add_stop" "Net.add_stop" (defArgs s_Net_add_stop) (defBody s_Net_add_stop) (defScope s_Net_add_stop) .none hj hk hm hq hn ho,hs,W.fnOf "add_walk" "Net.add_walk" (defArgs s_Net_add_walk) (defBody s_Net_add_walk) (defScope s_Net_add_walk) .none hu hv hx hD hy hz,hF,W.fnOf "add_rule" "Net.add_rule" (defArgs s_Net_add_rule) (defBody s_Net_add_rule) (defScope s_Net_add_rule) .none hH hI hJ hN hK hL,hP,W.fnOf "add_ticket" "Net.add_ticket" (defArgs s_Net_add_ticket) (defBody s_Net_add_ticket) (defScope s_Net_add_ticket) .none hR hU hV hZ hW hX,h1,W.fnOf "add_trip" "Net.add_trip" (defArgs s_Net_add_trip) (defBody s_Net_add_trip) (defScope s_Net_add_trip) .none h3 h4 h5 h9 h6 h7,ib,W.fnOf "check_stop" "Net.check_stop" (defArgs s_Net_check_stop) (defBody s_Net_check_stop) (defScope s_Net_check_stop) .none ie ig ih il ii ij,io,W.fnOf "check_trip" "Net.check_trip" (defArgs s_Net_check_trip) (defBody s_Net_check_trip) (defScope s_Net_check_trip) .none iq ir it ix iu iv,iz,W.fnOf "check_call" "Net.check_call" (defArgs s_Net_check_call) (defBody s_Net_check_call) (defScope s_Net_check_call) .none iB iC iD iH iE iF,iJ,W.fnOf "has_walk" "Net.has_walk" (defArgs s_Net_has_walk) (defBody s_Net_has_walk) (defScope s_Net_has_walk) .none iL iM iN iR iO iP,iT,W.fnOf "stops" "Net.stops" (defArgs s_Net_stops) (defBody s_Net_stops) (defScope s_Net_stops) .none iV iW iX i1 iY iZ,i3,W.fnOf "walks" "Net.walks" (defArgs s_Net_walks) (defBody s_Net_walks) (defScope s_Net_walks) .none i5 i6 i7 jb i8 i9,jd,W.fnOf "rules" "Net.rules" (defArgs s_Net_rules) (defBody s_Net_rules) (defScope s_Net_rules) .none jf jg jh jl ji jj,jn,W.fnOf "tickets" "Net.tickets" (defArgs s_Net_tickets) (defBody s_Net_tickets) (defScope s_Net_tickets) .none jp jq jr jv js jt,jx,W.fnOf "trips" "Net.trips" (defArgs s_Net_trips) (defBody s_Net_trips) (defScope s_Net_trips) .none jz jA jB jF jC jD,jH,W.fnOf "zone" "Net.zone" (defArgs s_Net_zone) (defBody s_Net_zone) (defScope s_Net_zone) .none jJ jK jL jP jM jN,jR,W.fnOf "change" "Net.change" (defArgs s_Net_change) (defBody s_Net_change) (defScope s_Net_change) .none jT jU jV jZ jW jX,j1,W.fnOf "rule" "Net.rule" (defArgs s_Net_rule) (defBody s_Net_rule) (defScope s_Net_rule) .none j3 j4 j5 j9 j6 j7,kc,W.fnOf "ticket" "Net.ticket" (defArgs s_Net_ticket) (defBody s_Net_ticket) (defScope s_Net_ticket) .none ke kf kg kk kh ki,km,W.fnOf "rule_name" "Net.rule_name" (defArgs s_Net_rule_name) (defBody s_Net_rule_name) (defScope s_Net_rule_name) .none ko kq kr kv ks kt,kx,W.fnOf "calls" "Net.calls" (defArgs s_Net_calls) (defBody s_Net_calls) (defScope s_Net_calls) .none kz kA kB kF kC kD,kH,kI,kJ,kK,kL,kM,kN,kO,kP,kQ,kR,kS,kT,k3,kU,kW⟩,⟨W.mg_none_of X G qH,
    W.mg_none_of X G qI,
    W.mg_none_of X G qJ,
    W.mg_none_of X G qK,
    W.mg_none_of X G qL,
    W.mg_none_of X G qM,
    W.mg_none_of X G qN,
    W.mg_none_of X G qO,
    W.mg_none_of X G qP,
    W.mg_none_of X G qQ,
    W.mg_none_of X G qR,
    W.mg_none_of X G qS,
    W.mg_none_of X G qT,
    W.mg_none_of X G qU,
    W.mg_none_of X G qV,
    W.mg_none_of X G qW,
    W.mg_none_of X G qX,
    ⟨_,W.mg_of X G qY⟩,
    ⟨_,W.mg_of X G qZ⟩,
    W.mg_of X G q0,
    fun H=>.inr ⟨_,_,_,q1,rfl,rfl,(by show 2≤sizeLine; decide),.cons rfl (.cons ⟨_,rfl⟩ (.nil))⟩,
    ⟨_,W.mg_of X G q2⟩,
    ⟨_,W.mg_of X G q3⟩,
    ⟨_,W.mg_of X G q4⟩,
    ⟨_,W.mg_of X G q5⟩,
    ⟨_,W.mg_of X G q6⟩,
    ⟨_,W.mg_of X G q7⟩,
    ⟨_,W.mg_of X G q8⟩,
    ⟨_,W.mg_of X G q9⟩,
    ⟨_,W.mg_of X G ra⟩,
    ⟨_,W.mg_of X G rb⟩,
    ⟨_,W.mg_of X G rc⟩,
    rd,
    W.mg_of X G ll,
    re,
    rf,
    W.mg_of X G lq,
    rg,
    rh,
    W.mg_of X G lv,
    ri,
    rj,
    W.mg_of X G lz,
    rk,
    rl,
    W.mg_of X G lD,
    rm,
    rn,
    W.mg_of X G lH,
    ro,
    rp,
    W.mg_of X G lL,
    rq,
    rr,
    W.mg_of X G lP,
    rs,
    rt,
    W.mg_of X G lT,
    ru,
    rv,
    W.mg_of X G lX,
    rx,
    ry,
    W.mg_of X G l1,
    rz,
    rA,
    W.mg_of X G l5,
    rB,
    rC,
    W.mg_of X G l9,
    rD,
    rE,
    W.mg_of X G md,
    rF,
    rG,
    W.mg_of X G mi,
    rH,
    rI,
    W.mg_of X G mm,
    rJ,
    rK,
    W.mg_of X G mq,
    rL,
    rM,
    W.mg_of X G mu,
    rN,
    rO,
    W.mg_of X G my,
    rP,
    rQ,
    W.mg_of X G mC,
    rR,
    rS,
    W.mg_of X G mG,
    rT,
    rU,
    W.mg_of X G mK,
    rV,
    rW,
    W.mg_of X G mO,
    rX,
    rY,
    W.mg_of X G mS,
    rZ,
    r0,
    W.mg_of X G mW,
    r1,
    r2,
    W.mg_of X G m0,
    r3,
    r4,
    W.mg_of X G m4,
    r5,
    r6,
    W.mg_of X G m8,
    r7,
    r8,
    W.mg_of X G nd,
    r9,
    sa,
    W.mg_of X G ni,
    sb,
    sc,
    W.mg_of X G nm,
    sd,
    se,
    W.mg_of X G nq,
    sf,
    sg,
    W.mg_of X G nv,
    sh,
    si,
    W.mg_of X G nz,
    sj,
    sk,
    W.mg_of X G nD,
    sl,
    sm,
    sn,
    so,
    sq,
    sr,
    ss,
    su,
    sv,
    sw,
    sx,
    sy,
    sz,
    sA,
    sB,
    sC,
    sD,
    sE,
    sF,
    sG,
    sH,
    sI,
    sJ,
    sK,
    sL,
    sM,
    sN,
    sO,
    sP,
    sQ,
    sR,
    sS,
    sT,
    sU,
    sV,
    sW,
    sX,
    sY,
    sZ,
    s0,
    s1,
    s2,
    s3,
    s4,
    s5,
    s6,
    s7,
    s8,
    s9,
    ta,
    tb,
    tc,
    td,
    te,
    tf,
    tg,
    th,
    ⟨qg,qh,qi,qj⟩,
    ⟨qk,qm,ql⟩,
    ⟨nU,nV,nY⟩,
    ⟨om,on,oq⟩,
    ⟨nZ,n0,n3⟩,
    ⟨n4,n5,n8⟩,
    ⟨oh,oi,ol⟩,
    ⟨n9,oa,og⟩,
    ⟨qn,qo,qp,qq⟩,
    ⟨qr,os,ot,qs⟩,
    ⟨oM,oN,oQ⟩,
    ⟨oC,oD,oG⟩,
    ⟨oR,oS,oV⟩,
    ⟨oW,oX,o0⟩,
    ⟨oH,oI,oL⟩,
    ⟨qb,qc,qf⟩,
    ⟨pR,pS,pV⟩,
    ⟨pb,pc,pf⟩,
    ⟨o1,o2,o5⟩,
    ⟨o6,o7,pa⟩,
    ⟨ox,oy,oB⟩,
    ⟨pg,ph,pk⟩,
    ⟨pW,pX,p0⟩,
    ⟨p6,p7,qa⟩,
    ⟨px,py,pB⟩,
    ⟨pl,pn,pq⟩,
    ⟨p1,p2,p5⟩,
    ⟨pC,pD,pG⟩,
    ⟨pH,pI,pL⟩,
    ⟨pr,pt,pw⟩,
    ⟨pM,pN,pQ⟩,
    qt,
    qu,
    qv,
    qw,
    qx,
    ⟨qC,qD,qE,qF⟩,
    qG,
    W.mg_of X G nH,
    W.mg_of X G nI,
    W.mg_of X G nJ,
    W.mg_of X G nK,
    W.mg_of X G nL,
    W.mg_of X G nM,
    W.mg_of X G nN,
    W.mg_of X G nO,
    W.mg_of X G nP,
    W.mg_of X G nQ,
    W.mg_of X G nR,
    W.mg_of X G nS,
    W.mg_of X G nT,
    qy,
    tabIn_of l5 l6 qy qz qA,
    qB⟩⟩
end K20
def PySem.W.Fast.tw13762536488174623273:Nat:=0
def PySem.W.Fast.tw7062673385954331932:Nat:=0
def PySem.W.Fast.tw10733694018519087567:Nat:=0
def PySem.W.Fast.tw2669332223826533509:Nat:=0
def PySem.W.Fast.tw12102645900594735359:Nat:=0
def PySem.W.Fast.tw7881813965193012833:Nat:=0
def PySem.W.Fast.tw6417468910346739762:Nat:=0
def PySem.W.Fast.tw15525406885052819464:Nat:=0
def PySem.W.Fast.tw13683109203425564369:Nat:=0
def PySem.W.Fast.tw12149672969664987777:Nat:=0
def PySem.W.Fast.tw14303749952519566781:Nat:=0
def PySem.W.Fast.tw7025530696952941595:Nat:=0
def PySem.W.Fast.tw4943015855455516782:Nat:=0
def PySem.W.Fast.tw18209023192495760779:Nat:=0
def PySem.W.Fast.tw5739066187612401496:Nat:=0
def PySem.W.Fast.tw18103801324301785418:Nat:=0
def PySem.W.Fast.tw10753527520733346928:Nat:=0
def PySem.W.Fast.tw5460445962573881051:Nat:=0
def PySem.W.Fast.tw13182690997226092075:Nat:=0
def PySem.W.Fast.tw4027011632240441658:Nat:=0
def PySem.W.Fast.tw13663218908257922530:Nat:=0
def PySem.W.Fast.tw359703419630021482:Nat:=0
def PySem.W.Fast.tw5237150414075493065:Nat:=0
def PySem.W.Fast.tw18338760553555737458:Nat:=0
def PySem.W.Fast.tw14120103217420886445:Nat:=0
def PySem.W.Fast.tw4728625660060727860:Nat:=0
def PySem.W.Fast.tw4706946070767209969:Nat:=0
def PySem.W.Fast.tw10047878532879339222:Nat:=0
def PySem.W.Fast.tw13133128413120309497:Nat:=0
def PySem.W.Fast.tw15239455018212540243:Nat:=0
def PySem.W.Fast.tw117531582595771835:Nat:=0
def PySem.W.Fast.tw17951845635527816664:Nat:=0
def PySem.W.Fast.tw10903258960959783084:Nat:=0
def PySem.W.Fast.tw18220701961060509652:Nat:=0
def PySem.W.Fast.tw16015959571522855383:Nat:=0
def PySem.W.Fast.tw16696697415100763715:Nat:=0
def PySem.W.Fast.tw18209307424902779010:Nat:=0
def PySem.W.Fast.tw18322471771369950122:Nat:=0
def PySem.W.Fast.tw3728844435602022124:Nat:=0
def PySem.W.Fast.tw2445967239028207122:Nat:=0
def PySem.W.Fast.tw14432074053382817804:Nat:=0
def PySem.W.Fast.tw10803138592151318981:Nat:=0
def PySem.W.Fast.tw6866585733537548925:Nat:=0
def PySem.W.Fast.tw13057235336176559751:Nat:=0
def PySem.W.Fast.tw10263864738078822666:Nat:=0
def PySem.W.Fast.tw1541194862516172249:Nat:=0
def PySem.W.Fast.tw2515760526662741466:Nat:=0
def PySem.W.Fast.tw10372423042558824974:Nat:=0
def PySem.W.Fast.tw3351126443553711970:Nat:=0
def PySem.W.Fast.tw8090041465228199919:Nat:=0
def PySem.W.Fast.tw13719051796061632580:Nat:=0
def PySem.W.Fast.tw16781887428771371052:Nat:=0
def PySem.W.Fast.tw9810919236569234084:Nat:=0
def PySem.W.Fast.tw13247769368572344670:Nat:=0
def PySem.W.Fast.tw11843547415236700124:Nat:=0
def PySem.W.Fast.tw8409614854088079052:Nat:=0
def PySem.W.Fast.tw15158994971723678230:Nat:=0
def PySem.W.Fast.tw12913820918410381440:Nat:=0
def PySem.W.Fast.tw11421708063468895446:Nat:=0
def PySem.W.Fast.tw9323054234761439493:Nat:=0
def PySem.W.Fast.tw208808415257823439:Nat:=0
def PySem.W.Fast.tw13872809124383728195:Nat:=0
def PySem.W.Fast.tw7956664958717556870:Nat:=0
def PySem.W.Fast.tw18034549956549010994:Nat:=0
def PySem.W.Fast.tw15898262721096683349:Nat:=0
def PySem.W.Fast.tw5600129132429529157:Nat:=0
def PySem.W.Fast.tw929557791925580092:Nat:=0
def PySem.W.Fast.tw9933742854292668387:Nat:=0
def PySem.W.Fast.tw7642470536506579949:Nat:=0
def PySem.W.Fast.tw7015849240411307535:Nat:=0
def PySem.W.Fast.tw2357837923496656305:Nat:=0
def PySem.W.Fast.tw17728531861883834888:Nat:=0
def PySem.W.Fast.tw13930174949111409632:Nat:=0
def PySem.W.Fast.tw3761288545769373173:Nat:=0
def PySem.W.Fast.tw13951917834859419586:Nat:=0
def PySem.W.Fast.tw196122426076120733:Nat:=0
def PySem.W.Fast.tw13733991760142602926:Nat:=0
def PySem.W.Fast.tw16487457654266818397:Nat:=0
def PySem.W.Fast.tw17482821317722625437:Nat:=0
def PySem.W.Fast.tw7906482510045141460:Nat:=0
def PySem.W.Fast.tw7449168692974714705:Nat:=0
def PySem.W.Fast.tw13366591914298968030:Nat:=0
def PySem.W.Fast.tw14391890815338759665:Nat:=0
def PySem.W.Fast.tw13959975675816257856:Nat:=0
def PySem.W.Fast.tw11015498015201952434:Nat:=0
def PySem.W.Fast.tw8477332375309913299:Nat:=0
def PySem.W.Fast.tw7717889124558741963:Nat:=0
def PySem.W.Fast.tw17639370882969925138:Nat:=0
def PySem.W.Fast.tw4291301537931199763:Nat:=0
def PySem.W.Fast.tw16509683905925302404:Nat:=0
def PySem.W.Fast.tw11813934387415288902:Nat:=0
def PySem.W.Fast.tw2990827054375526307:Nat:=0
def PySem.W.Fast.tw17204878110078126841:Nat:=0
def PySem.W.Fast.tw14109992974325772880:Nat:=0
def PySem.W.Fast.tw2564189857786306178:Nat:=0
def PySem.W.Fast.tw2649689188423959633:Nat:=0
def PySem.W.Fast.tw1958674370170670218:Nat:=0
def PySem.W.Fast.tw4817593963820786618:Nat:=0
def PySem.W.Fast.tw6194692271571844194:Nat:=0
def PySem.W.Fast.tw10001523939037692981:Nat:=0
def PySem.W.Fast.tw17308582523991188762:Nat:=0
def PySem.W.Fast.tw3301885133596310021:Nat:=0
def PySem.W.Fast.tw1528845808001124625:Nat:=0
def PySem.W.Fast.tw15629590835229382536:Nat:=0
def PySem.W.Fast.tw9491855485898381922:Nat:=0
def PySem.W.Fast.tw18249075894524358926:Nat:=0
def PySem.W.Fast.tw17515652147913111521:Nat:=0
def PySem.W.Fast.tw6681314021879100849:Nat:=0
def PySem.W.Fast.tw17362159614887378852:Nat:=0
def PySem.W.Fast.tw10797929535804010490:Nat:=0
def PySem.W.Fast.tw10234700714557425065:Nat:=0
def PySem.W.Fast.tw7897071537179575448:Nat:=0
def PySem.W.Fast.tw6727712238850780752:Nat:=0
def PySem.W.Fast.tw4541404178571186595:Nat:=0
def PySem.W.Fast.tw555598882849366910:Nat:=0
def PySem.W.Fast.tw2697006560384542885:Nat:=0
def PySem.W.Fast.tw5069922539515352913:Nat:=0
def PySem.W.Fast.tw2171331424420123492:Nat:=0
def PySem.W.Fast.tw279683792789313749:Nat:=0
def PySem.W.Fast.tw7635784591658359428:Nat:=0
def PySem.W.Fast.tw4129742389645587490:Nat:=0
def PySem.W.Fast.tw10620491889225819762:Nat:=0
def PySem.W.Fast.tw6946166089423051560:Nat:=0
def PySem.W.Fast.tw12101266076740579514:Nat:=0
def PySem.W.Fast.tw5772422104501229398:Nat:=0
def PySem.W.Fast.tw9659254494419047279:Nat:=0
def PySem.W.Fast.tw15379694775323688023:Nat:=0
def PySem.W.Fast.tw18346613976057633364:Nat:=0
def PySem.W.Fast.tw10235903325157236506:Nat:=0
def PySem.W.Fast.tw6777126792773316945:Nat:=0
def PySem.W.Fast.tw7940048357077163439:Nat:=0
def PySem.W.Fast.tw15358279255477417245:Nat:=0
def PySem.W.Fast.tw11570982420940426316:Nat:=0
def PySem.W.Fast.tw13015345853436327401:Nat:=0
def PySem.W.Fast.tw10861254233932488885:Nat:=0
def PySem.W.Fast.tw14491554361133010429:Nat:=0
def PySem.W.Fast.tw7542289871952728044:Nat:=0
def PySem.W.Fast.tw1941011221290688455:Nat:=0
def PySem.W.Fast.tw11280008895666324384:Nat:=0
def PySem.W.Fast.tw12872469443508403800:Nat:=0
def PySem.W.Fast.tw15105254762680238616:Nat:=0
def PySem.W.Fast.tw9063822904017811452:Nat:=0
def PySem.W.Fast.tw8486004136636903105:Nat:=0
def PySem.W.Fast.tw9998962183809607914:Nat:=0
def PySem.W.Fast.tw14988973842676254301:Nat:=0
def PySem.W.Fast.tw7863813352095192087:Nat:=0
def PySem.W.Fast.tw17057149030443801209:Nat:=0
def PySem.W.Fast.tw3647006453717342955:Nat:=0
def PySem.W.Fast.tw7547596154842728517:Nat:=0
def PySem.W.Fast.tw3089305664354339386:Nat:=0
def PySem.W.Fast.tw4894525419914719784:Nat:=0
def PySem.W.Fast.tw8738961342403862207:Nat:=0
def PySem.W.Fast.tw11656428802048854764:Nat:=0
def PySem.W.Fast.tw22268886252731722:Nat:=0
def PySem.W.Fast.tw3441883523130240513:Nat:=0
def PySem.W.Fast.tw12624613513586765627:Nat:=0
def PySem.W.Fast.tw14926485656598411568:Nat:=0
def PySem.W.Fast.tw8471187794469777527:Nat:=0
def PySem.W.Fast.tw15260061816229944622:Nat:=0
def PySem.W.Fast.tw13609185263320478088:Nat:=0
def PySem.W.Fast.tw1582722078302334129:Nat:=0
def PySem.W.Fast.tw9910860197123884295:Nat:=0
def PySem.W.Fast.tw15782456518978596388:Nat:=0
def PySem.W.Fast.tw13961773254914635286:Nat:=0
def PySem.W.Fast.tw17603975829701706392:Nat:=0
def PySem.W.Fast.tw17752762928732853101:Nat:=0
def PySem.W.Fast.tw15375138172720598822:Nat:=0
open PySem PySem.W PyProof.Rows
set_option maxRecDepth 100000 in
set_option maxHeartbeats 0 in
theorem PySem.Challenge.cw_roadbook_k20_whole_from_rides_to_tickets_holds : PySem.Challenge.rw_roadbook_k20_whole_from_rides_to_tickets.Holds := by
  w_on; o_law; k_head; (case hw=>w_witness2)
  k_fill
  refine L2.walk_ofT (l:=PySem.Challenge.rw_roadbook_k20_whole_from_rides_to_tickets) (n:=63) (k:=20) (x := "_law_script") (x2 := "least_tickets") (CX:=L2.CX0) (sp:=K20.sp_law) rfl (by decide) rfl ⟨rfl,by decide,by decide⟩ (fun w h Y=>PySem.W.km_in_of Y) ?R2 ?F (fun _ _ _ a ns hl hT hS=>⟨a,ns,rfl,hT,hS,hl,fun _=>rfl⟩) fun _ _ _ _ z=>z
  case R2=>first | exact rfl | decide +kernel
  case F =>
    intro w mg fa h KX G hmg
    have T:∃ t,K20.Tab (L2.KOf KX) mg t:=by
      dsimp only [L2.KOf]
      refine' K20.all_mk KX G ?ll ?lm ?ln ?lp ?lq ?lr ?ls ?lu ?lv ?lw ?lx ?ly ?lz ?lA ?lB ?lC ?lD ?lE ?lF ?lG ?lH ?lI ?lJ ?lK ?lL ?lM ?lN ?lO ?lP ?lQ ?lR ?lS ?lT ?lU ?lV ?lW ?lX ?lY ?lZ ?l0 ?l1 ?l2 ?l3 ?l4 ?l5 ?l6 ?l7 ?l8 ?l9 ?ma ?mb ?mc ?md ?me ?mf ?mh ?mi ?mj ?mk ?ml ?mm ?mn ?mo ?mp ?mq ?mr ?ms ?mt ?mu ?mv ?mw ?mx ?my ?mz ?mA ?mB ?mC ?mD ?mE ?mF ?mG ?mH ?mI ?mJ ?mK ?mL ?mM ?mN ?mO ?mP ?mQ ?mR ?mS ?mT ?mU ?mV ?mW ?mX ?mY ?mZ ?m0 ?m1 ?m2 ?m3 ?m4 ?m5 ?m6 ?m7 ?m8 ?m9 ?na ?nc ?nd ?nf ?ng ?nh ?ni ?nj ?nk ?nl ?nm ?nn ?no ?np ?nq ?nr ?nt ?nu ?nv ?nw ?nx ?ny ?nz ?nA ?nB ?nC ?nD ?nE ?nF ?nG ?nH ?nI ?nJ ?nK ?nL ?nM ?nN ?nO ?nP ?nQ ?nR ?nS ?nT ?nU ?nV ?nW ?nX ?nY ?nZ ?n0 ?n1 ?n2 ?n3 ?n4 ?n5 ?n6 ?n7 ?n8 ?n9 ?oa ?ob ?oe ?og ?oh ?oi ?oj ?ok ?ol ?om ?on ?oo ?op ?oq ?os ?ot ?ou ?ov ?ow ?ox ?oy ?oz ?oA ?oB ?oC ?oD ?oE ?oF ?oG ?oH ?oI ?oJ ?oK ?oL ?oM ?oN ?oO ?oP ?oQ ?oR ?oS ?oT ?oU ?oV ?oW ?oX ?oY ?oZ ?o0 ?o1 ?o2 ?o3 ?o4 ?o5 ?o6 ?o7 ?o8 ?o9 ?pa ?pb ?pc ?pd ?pe ?pf ?pg ?ph ?pi ?pj ?pk ?pl ?pn ?po ?pp ?pq ?pr ?pt ?pu ?pv ?pw ?px ?py ?pz ?pA ?pB ?pC ?pD ?pE ?pF ?pG ?pH ?pI ?pJ ?pK ?pL ?pM ?pN ?pO ?pP ?pQ ?pR ?pS ?pT ?pU ?pV ?pW ?pX ?pY ?pZ ?p0 ?p1 ?p2 ?p3 ?p4 ?p5 ?p6 ?p7 ?p8 ?p9 ?qa ?qb ?qc ?qd ?qe ?qf ?qg ?qh ?qi ?qj ?qk ?ql ?qm ?qn ?qo ?qp ?qq ?qr ?qs ?qt ?qu ?qv ?qw ?qx ?qy ?qz ?qA ?qB ?qC ?qD ?qE ?qF ?qG ?qH ?qI ?qJ ?qK ?qL ?qM ?qN ?qO ?qP ?qQ ?qR ?qS ?qT ?qU ?qV ?qW ?qX ?qY ?qZ ?q0 ?q1 ?q2 ?q3 ?q4 ?q5 ?q6 ?q7 ?q8 ?q9 ?ra ?rb ?rc
      (case ll=>k_is)
      (case lm=>k_is)
      (case ln=>k_is)
      (case lp=>k_is)
      (case lq=>k_is)
      (case lr=>k_is)
      (case ls=>k_is)
      (case lu=>k_is)
      (case lv=>k_is)
      (case lw=>k_is)
      (case lx=>k_is)
      (case ly=>k_is)
      (case lz=>k_is)
      (case lA=>k_is)
      (case lB=>k_is)
      (case lC=>k_is)
      (case lD=>k_is)
      (case lE=>k_is)
      (case lF=>k_is)
      (case lG=>k_is)
      (case lH=>k_is)
      (case lI=>k_is)
      (case lJ=>k_is)
      (case lK=>k_is)
      (case lL=>k_is)
      (case lM=>k_is)
      (case lN=>k_is)
      (case lO=>k_is)
      (case lP=>k_is)
      (case lQ=>k_is)
      (case lR=>k_is)
      (case lS=>k_is)
      (case lT=>k_is)
      (case lU=>k_is)
      (case lV=>k_is)
      (case lW=>k_is)
      (case lX=>k_is)
      (case lY=>k_is)
      (case lZ=>k_is)
      (case l0=>k_is)
      (case l1=>k_is)
      (case l2=>k_is)
      (case l3=>k_is)
      (case l4=>k_is)
      (case l5=>k_is)
      (case l6=>k_is)
      (case l7=>k_is)
      (case l8=>k_is)
      (case l9=>k_is)
      (case ma=>k_is)
      (case mb=>k_is)
      (case mc=>k_is)
      (case md=>k_is)
      (case me=>k_is)
      (case mf=>k_is)
      (case mh=>k_is)
      (case mi=>k_is)
      (case mj=>k_is)
      (case mk=>k_is)
      (case ml=>k_is)
      (case mm=>k_is)
      (case mn=>k_is)
      (case mo=>k_is)
      (case mp=>k_is)
      (case mq=>k_is)
      (case mr=>k_is)
      (case ms=>k_is)
      (case mt=>k_is)
      (case mu=>k_is)
      (case mv=>k_is)
      (case mw=>k_is)
      (case mx=>k_is)
      (case my=>k_is)
      (case mz=>k_is)
      (case mA=>k_is)
      (case mB=>k_is)
      (case mC=>k_is)
      (case mD=>k_is)
      (case mE=>k_is)
      (case mF=>k_is)
      (case mG=>k_is)
      (case mH=>k_is)
      (case mI=>k_is)
      (case mJ=>k_is)
      (case mK=>k_is)
      (case mL=>k_is)
      (case mM=>k_is)
      (case mN=>k_is)
      (case mO=>k_is)
      (case mP=>k_is)
      (case mQ=>k_is)
      (case mR=>k_is)
      (case mS=>k_is)
      (case mT=>k_is)
      (case mU=>k_is)
      (case mV=>k_is)
      (case mW=>k_is)
      (case mX=>k_is)
      (case mY=>k_is)
      (case mZ=>k_is)
      (case m0=>k_is)
      (case m1=>k_is)
      (case m2=>k_is)
      (case m3=>k_is)
      (case m4=>k_is)
      (case m5=>k_is)
      (case m6=>k_is)
      (case m7=>k_is)
      (case m8=>k_is)
      (case m9=>k_is)
      (case na=>k_is)
      (case nc=>k_is)
      (case nd=>k_is)
      (case nf=>k_is)
      (case ng=>k_is)
      (case nh=>k_is)
      (case ni=>k_is)
      (case nj=>k_is)
      (case nk=>k_is)
      (case nl=>k_is)
      (case nm=>k_is)
      (case nn=>k_is)
      (case no=>k_is)
      (case np=>k_is)
      (case nq=>k_is)
      (case nr=>k_is)
      (case nt=>k_is)
      (case nu=>k_is)
      (case nv=>k_is)
      (case nw=>k_is)
      (case nx=>k_is)
      (case ny=>k_is)
      (case nz=>k_is)
      (case nA=>k_is)
      (case nB=>k_is)
      (case nC=>k_is)
      (case nD=>k_is)
      (case nE=>k_is)
      (case nF=>k_is)
      (case nG=>k_is)
      (case nH=>k_is)
      (case nI=>k_is)
      (case nJ=>k_is)
      (case nK=>k_is)
      (case nL=>k_is)
      (case nM=>k_is)
      (case nN=>k_is)
      (case nO=>k_is)
      (case nP=>k_is)
      (case nQ=>k_is)
      (case nR=>k_is)
      (case nS=>k_is)
      (case nT=>k_is)
      (case nU=>k_is)
      (case nV=>k_is)
      (case nW=>k_is)
      (case nX=>k_is)
      (case nY=>k_is)
      (case nZ=>k_is)
      (case n0=>k_is)
      (case n1=>k_is)
      (case n2=>k_is)
      (case n3=>k_is)
      (case n4=>k_is)
      (case n5=>k_is)
      (case n6=>k_is)
      (case n7=>k_is)
      (case n8=>k_is)
      (case n9=>k_is)
      (case oa=>k_is)
      (case ob=>k_is)
      (case oe=>k_is)
      (case og=>k_is)
      (case oh=>k_is)
      (case oi=>k_is)
      (case oj=>k_is)
      (case ok=>k_is)
      (case ol=>k_is)
      (case om=>k_is)
      (case on=>k_is)
      (case oo=>k_is)
      (case op=>k_is)
      (case oq=>k_is)
      (case os=>k_is)
      (case ot=>k_is)
      (case ou=>k_is)
      (case ov=>k_is)
      (case ow=>k_is)
      (case ox=>k_is)
      (case oy=>k_is)
      (case oz=>k_is)
      (case oA=>k_is)
      (case oB=>k_is)
      (case oC=>k_is)
      (case oD=>k_is)
      (case oE=>k_is)
      (case oF=>k_is)
      (case oG=>k_is)
      (case oH=>k_is)
      (case oI=>k_is)
      (case oJ=>k_is)
      (case oK=>k_is)
      (case oL=>k_is)
      (case oM=>k_is)
      (case oN=>k_is)
      (case oO=>k_is)
      (case oP=>k_is)
      (case oQ=>k_is)
      (case oR=>k_is)
      (case oS=>k_is)
      (case oT=>k_is)
      (case oU=>k_is)
      (case oV=>k_is)
      (case oW=>k_is)
      (case oX=>k_is)
      (case oY=>k_is)
      (case oZ=>k_is)
      (case o0=>k_is)
      (case o1=>k_is)
      (case o2=>k_is)
      (case o3=>k_is)
      (case o4=>k_is)
      (case o5=>k_is)
      (case o6=>k_is)
      (case o7=>k_is)
      (case o8=>k_is)
      (case o9=>k_is)
      (case pa=>k_is)
      (case pb=>k_is)
      (case pc=>k_is)
      (case pd=>k_is)
      (case pe=>k_is)
      (case pf=>k_is)
      (case pg=>k_is)
      (case ph=>k_is)
      (case pi=>k_is)
      (case pj=>k_is)
      (case pk=>k_is)
      (case pl=>k_is)
      (case pn=>k_is)
      (case po=>k_is)
      (case pp=>k_is)
      (case pq=>k_is)
      (case pr=>k_is)
      (case pt=>k_is)
      (case pu=>k_is)
      (case pv=>k_is)
      (case pw=>k_is)
      (case px=>k_is)
      (case py=>k_is)
      (case pz=>k_is)
      (case pA=>k_is)
      (case pB=>k_is)
      (case pC=>k_is)
      (case pD=>k_is)
      (case pE=>k_is)
      (case pF=>k_is)
      (case pG=>k_is)
      (case pH=>k_is)
      (case pI=>k_is)
      (case pJ=>k_is)
      (case pK=>k_is)
      (case pL=>k_is)
      (case pM=>k_is)
      (case pN=>k_is)
      (case pO=>k_is)
      (case pP=>k_is)
      (case pQ=>k_is)
      (case pR=>k_is)
      (case pS=>k_is)
      (case pT=>k_is)
      (case pU=>k_is)
      (case pV=>k_is)
      (case pW=>k_is)
      (case pX=>k_is)
      (case pY=>k_is)
      (case pZ=>k_is)
      (case p0=>k_is)
      (case p1=>k_is)
      (case p2=>k_is)
      (case p3=>k_is)
      (case p4=>k_is)
      (case p5=>k_is)
      (case p6=>k_is)
      (case p7=>k_is)
      (case p8=>k_is)
      (case p9=>k_is)
      (case qa=>k_is)
      (case qb=>k_is)
      (case qc=>k_is)
      (case qd=>k_is)
      (case qe=>k_is)
      (case qf=>k_is)
      (case qg=>k_is)
      (case qh=>k_is)
      (case qi=>k_is)
      (case qj=>k_is)
      (case qk=>k_is)
      (case ql=>k_is)
      (case qm=>k_is)
      (case qn=>k_is)
      (case qo=>k_is)
      (case qp=>k_is)
      (case qq=>k_is)
      (case qr=>k_is)
      (case qs=>k_is)
      (case qt=>k_is)
      (case qu=>k_is)
      (case qv=>k_is)
      (case qw=>k_is)
      (case qx=>k_is)
      (case qy=>exact rfl)
      (case qz=>k_is)
      (case qA=>exact rfl)
      (case qB=>first | k_is | exact rfl | decide +kernel)
      (case qC=>k_is)
      (case qD=>k_is)
      (case qE=>k_is)
      (case qF=>k_is)
      (case qG=>kit_is)
      (case qH=>k_is)
      (case qI=>k_is)
      (case qJ=>k_is)
      (case qK=>k_is)
      (case qL=>k_is)
      (case qM=>k_is)
      (case qN=>k_is)
      (case qO=>k_is)
      (case qP=>k_is)
      (case qQ=>k_is)
      (case qR=>k_is)
      (case qS=>k_is)
      (case qT=>k_is)
      (case qU=>k_is)
      (case qV=>k_is)
      (case qW=>k_is)
      (case qX=>k_is)
      (case qY=>k_is)
      (case qZ=>k_is)
      (case q0=>k_is)
      (case q1=>k_is)
      (case q2=>k_is)
      (case q3=>k_is)
      (case q4=>k_is)
      (case q5=>k_is)
      (case q6=>k_is)
      (case q7=>k_is)
      (case q8=>k_is)
      (case q9=>k_is)
      (case ra=>k_is)
      (case rb=>k_is)
      (case rc=>k_is)
    obtain ⟨t,T⟩:=T
    have e0:=hmg.symm.trans T.m_law
    cases e0
    refine' ⟨t.lc,t.lt,T.lam_t,T.lam_n,t.d_law,?b,fun base kb nb hC hB=>K20.ok_law T hC hB⟩
    obtain ⟨oc,od,kV,doc,pm,an,cdv,ct,osl,e,_,_⟩:=T.F_law.ex
    rw [e]
    exact fun s u=>.of_eq rfl
