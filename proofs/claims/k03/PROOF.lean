
import PyProof.Rows.All
import Wide.All
import OpenK.AllK
import Wide.FinOn
import Lean
import PyProof.EqAt
import PyProof.EqKinds
import PyProof.TupleCall
import KE.KIntText
import PyProof.CompFree
import PyProof.P3Eq
import PyProof.NeData
import PyProof.StrLawsTight
import PyProof.StrLawsReplace
import PyProof.StrCalls2
import KE.IntTextLaws
import KE.KMinBuiltin
import PyProof.WalkInts
import PyProof.Rows.CallKwBuiltin
import PyProof.Rows.CallKw2
import PyProof.SetScanFacts
import PyProof.SetKind
import PyProof.DictStraight
import PyProof.Rows.SetFrom
import PyProof.DictIter
import PyProof.Walks
import PyProof.FactsAll.set_1
import PyProof.Rows.TupIn
import PyProof.CollectWalk
import PyProof.FactsAll.set_2
import PyProof.Rows.SortWalk
import PyProof.MeetsStr
import PyProof.StrLaws
import PyProof.StrBlockL
import PyProof.ListRange
import PySem.Challenge.RW_roadbook_k03_rules_of_days
set_option Elab.async false
set_option linter.all false
set_option maxRecDepth 100000
namespace L2
open PySem PySem.Spec PyProof.Rows

abbrev Key := Sum Int Str
def keyIs : Key → Value → Bool
  | .inl k, v => Value.isInt k v
  | .inr x, v => Value.isStrOf x v
def keyH (w : World) : Key → Int
  | .inl k => hashInt k
  | .inr x => hashStr w x
theorem keyIs_shape : ∀ {k : Key} {v : Value}, keyIs k v = true → (∃ i t, k = Sum.inl i ∧ v = Value.int i t) ∨ (∃ x t, k = Sum.inr x ∧ v = Value.str x t)
  | .inl i, v, h => by
    obtain ⟨t, e⟩ := Value.isInt_shape (k := i) (v := v) h
    exact .inl ⟨i, t, rfl, e⟩
  | .inr x, v, h => by
    obtain ⟨t, e⟩ := Value.isStrOf_shape (x := x) (v := v) h
    exact .inr ⟨x, t, rfl, e⟩
theorem key_ll (a b : Int) : decide ((Sum.inl a : Key) = Sum.inl b) = (a == b) := by
  by_cases e : a = b
  · subst e; simp
  · have h : ¬ (Sum.inl a : Key) = Sum.inl b := fun q => e (Sum.inl.inj q)
    rw [decide_eq_false h]
    exact (beq_eq_false_iff_ne.mpr e).symm
theorem key_rr (a b : Str) : decide ((Sum.inr a : Key) = Sum.inr b) = decide (a = b) := by
  by_cases e : a = b
  · subst e; simp
  · have h : ¬ (Sum.inr a : Key) = Sum.inr b := fun q => e (Sum.inr.inj q)
    rw [decide_eq_false h, decide_eq_false e]
theorem key_lr (a : Int) (b : Str) : decide ((Sum.inl a : Key) = Sum.inr b) = false := decide_eq_false (fun q => nomatch q)
theorem key_rl (a : Str) (b : Int) : decide ((Sum.inr a : Key) = Sum.inl b) = false := decide_eq_false (fun q => nomatch q)

def mixKind (prog : Program) (w : World) : PySem.KeyKind prog w Key where
  is := keyIs
  hash := keyH w
  inj := fun v a b ha hb => by
    rcases keyIs_shape ha with ⟨i, t, rfl, rfl⟩ | ⟨x, t, rfl, rfl⟩
    · rcases keyIs_shape hb with ⟨j, u, rfl, e⟩ | ⟨y, u, rfl, e⟩
      · injection e with e1 _; rw [e1]
      · exact nomatch e
    · rcases keyIs_shape hb with ⟨j, u, rfl, e⟩ | ⟨y, u, rfl, e⟩
      · exact nomatch e
      · injection e with e1 _; rw [e1]
  byValue := fun k v h => by
    rcases keyIs_shape h with ⟨i, t, rfl, rfl⟩ | ⟨x, t, rfl, rfl⟩ <;> rfl
  pyHash := fun hv h => by
    rcases keyIs_shape hv with ⟨i, t, rfl, rfl⟩ | ⟨x, t, rfl, rfl⟩
    · exact wpAny_pyHash_int h
    · exact wpAny_pyHash_str h
  eqBool := fun hu hv h => by
    rcases keyIs_shape hu with ⟨i, t, rfl, rfl⟩ | ⟨x, t, rfl, rfl⟩
    · rcases keyIs_shape hv with ⟨j, u, rfl, rfl⟩ | ⟨y, u, rfl, rfl⟩
      · rw [key_ll] at h; exact wpAny_eqBool_int h
      · rw [key_lr] at h; exact SeqAt.EqAt.int_str i t y u _ _ _ _ h
    · rcases keyIs_shape hv with ⟨j, u, rfl, rfl⟩ | ⟨y, u, rfl, rfl⟩
      · rw [key_rl] at h; exact SeqAt.EqAt.str_int x t j u _ _ _ _ h
      · rw [key_rr] at h; exact wpAny_eqBool_str h
  «strs» := fun k x t v h => by
    rcases keyIs_shape h with ⟨i, u, rfl, e⟩ | ⟨y, u, rfl, e⟩
    · exact nomatch e
    · injection e with e1 _
      subst e1
      cases v <;> rfl

end L2

namespace L2
open PySem PySem.Spec PyProof.Rows

inductive V where
  | non | bl (b : Bool) | int (i : Int) | str (x : Str) | byt (b : Array UInt8) | flt (b : UInt64) | ref (a : Addr) | ty (n : String)
  deriving DecidableEq

def RelV : V → Value → Prop
  | .non, u => u = Value.none
  | .bl b, u => u = Value.bool b
  | .int i, u => ∃ t, u = Value.int i t
  | .str x, u => ∃ t, u = Value.str x t
  | .byt b, u => ∃ t, u = Value.bytes b t
  | .flt b, u => ∃ t, u = Value.float b t
  | .ref a, u => u = Value.ref a
  | .ty n, u => u = Value.type n

abbrev Vals : List V → List Value → Prop := Paired RelV
theorem Vals.length {xs : List V} {us : List Value} (r : Vals xs us) : xs.length = us.length := Paired.length r
theorem Vals.get : ∀ {xs : List V} {us : List Value} {i : Nat} {x : V}, Vals xs us → xs[i]? = some x → ∃ u, us[i]? = some u ∧ RelV x u
  | _, _, _, _, .nil, e => by simp at e
  | _, _, 0, _, .cons r _, e => by simp at e; subst e; exact ⟨_, rfl, r⟩
  | _, _, i + 1, x, .cons _ t, e => by
    obtain ⟨u, h1, h2⟩ := Vals.get (i := i) (x := x) t (by simpa using e)
    exact ⟨u, by simpa using h1, h2⟩
theorem Vals.set {x : V} {u : Value} (r : RelV x u) : ∀ {xs : List V} {us : List Value} (i : Nat), Vals xs us → Vals (xs.set i x) (us.set i u)
  | _, _, _, .nil => .nil
  | _, _, 0, .cons _ t => .cons r t
  | _, _, i + 1, .cons q t => .cons q (Vals.set r i t)
theorem Vals.append : ∀ {xs ys : List V} {us ws : List Value}, Vals xs us → Vals ys ws → Vals (xs ++ ys) (us ++ ws)
  | _, _, _, _, .nil, s => s
  | _, _, _, _, .cons r t, s => .cons r (Vals.append t s)
theorem Vals.take : ∀ {xs : List V} {us : List Value} (n : Nat), Vals xs us → Vals (xs.take n) (us.take n)
  | _, _, 0, _ => .nil
  | _, _, _ + 1, .nil => .nil
  | _, _, n + 1, .cons r t => .cons r (Vals.take n t)
theorem Vals.drop : ∀ {xs : List V} {us : List Value} (n : Nat), Vals xs us → Vals (xs.drop n) (us.drop n)
  | _, _, 0, r => r
  | _, _, _ + 1, .nil => .nil
  | _, _, n + 1, .cons _ t => Vals.drop n t
theorem Vals.none_of : ∀ {xs : List V} {us : List Value} {i : Nat}, Vals xs us → xs[i]? = none → us[i]? = none := fun {xs us i} r e => by
  have h1 := r.length
  have h2 : xs.length ≤ i := List.getElem?_eq_none_iff.mp e
  exact List.getElem?_eq_none_iff.mpr (by omega)

def RelO : Option V → Option Value → Prop
  | some v, some u => RelV v u
  | none, none => True
  | _, _ => False
def KV {κ : Type} : List (κ × V) → List (κ × Value) → Prop := Paired fun (p : κ × V) (q : κ × Value) => p.1 = q.1 ∧ RelV p.2 q.2

def kV : Key → V
  | .inl i => .int i
  | .inr x => .str x

inductive HO where
  /-- a list -/
  | lst (xs : List V)
  /-- a tuple (never changes) -/
  | tup (xs : List V)
  /-- a dict whose keys are ints and texts; one whose keys are tuples of ints and texts (the empty one is both) -/
  | dK (kvs : List (Key × V)) | dT (kvs : List (List Key × V))
  /-- a set of ints: its members, its size -/
  | set (S : Int → Bool) (n : Nat)
  /-- an instance of the class at C, its dict at dx, its attributes -/
  | ins (C dx : Addr) (fs : List (Str × V))
  /-- the dict of the instance at x -/
  | own (x : Addr)
  /-- the dict of an exception -/
  | xd (fs : List (Str × V))
  /-- a bound method, f of x -/
  | met (f x : Addr)
  /-- a range object lo, lo + 1, .. below hi -/
  | rng (lo hi : Int)
  /-- a thing that is known to the object (the script; a dict while a loop walks it): read, never written while it is so -/
  | frz (o : Obj) (u : HO)
  /-- a code object's table -/
  | tbl (ps : Array Value)
  /-- any other thing, by what is true of its one object (a def of one's own: SetO a S n := HO.ext fun h => ..) -/
  | ext (φ : Heap → Prop)

abbrev Hp := Addr → Option HO
def upd (H : Hp) (a : Addr) (o : HO) : Hp := fun b => if b = a then some o else H b
theorem upd_same {H : Hp} {a : Addr} {o : HO} : upd H a o a = some o := by unfold upd; rw [if_pos rfl]
theorem upd_ne {H : Hp} {a b : Addr} {o : HO} (h : b ≠ a) : upd H a o b = H b := by unfold upd; rw [if_neg h]
theorem ne_of_none {H : Hp} {a b : Addr} {o : HO} (h : H a = some o) (h' : H b = none) : a ≠ b := by
  intro e; subst e; rw [h] at h'; cases h'

section
variable (P : Program) (w : World)
def ObjOk (H : Hp) (h : Heap) (a : Addr) : HO → Prop
  | .lst xs => xs.length ≤ sizeLine ∧ ∃ (its : List Value) (n : Nat), Vals xs its ∧ h.get? a = some { cls := .type "list", data := .seq its.toArray n }
  | .tup xs => xs.length ≤ sizeLine ∧ ∃ its : List Value, Vals xs its ∧ IsTup h a its.toArray
  | .dK kvs => kvs.length ≤ sizeLine ∧ (a == sysModules) = false ∧ ∃ vs, KV kvs vs ∧ h.DictOf (mixKind P w) a vs
  | .dT kvs => kvs.length ≤ sizeLine ∧ (a == sysModules) = false ∧ ∃ xs : List (List Key × Addr × Value),
      Paired (fun (p : List Key × V) (q : List Key × Addr × Value) => p.1 = q.1 ∧ H q.2.1 = some (.tup (p.1.map kV)) ∧ RelV p.2 q.2.2) kvs xs ∧
      ∃ o es ep, h.get? a = some o ∧ o.ExactDict ∧ o.data = .dict es ep ∧ es.toList = xs.map (entryOfKey (tupleKind (mixKind P w))) ∧ (xs.map (·.1)).Nodup
  | .set S n => h.SetOf (intKind P w) a S n
  | .ins C dx fs => H dx = some (.own a) ∧ fs.length ≤ 1000 ∧ dx ≠ a ∧ h.get? a = some (PySem.W.instObj C dx) ∧
      ∃ mA, h.Ns1 dx mA ∧ (∀ f, RelO (fs.lookup f) (mA f)) ∧ PySem.Within mA (fs.map (·.1))
  | .own _ => ∃ o, h.get? a = some o
  | .xd fs => ∃ mA, h.Ns1 a mA ∧ ∀ f, RelO (fs.lookup f) (mA f)
  | .rng lo hi => ∃ t u v, h.get? a = some { cls := .type "range", data := .fields #[.int lo t, .int hi u, .int 1 v] }
  | .frz o u => h.get? a = some o ∧ ObjOk H h a u
  | .tbl ps => h.get? a = some { cls := .none, data := .fields ps }
  | .met f x => h.get? a = some (PySem.W.methodObj (.ref f) (.ref x))
  | .ext φ => φ h ∧ (∃ o, h.get? a = some o) ∧ ∀ h1 h2 : Heap, φ h1 → (∀ o, h1.get? a = some o → h2.get? a = some o) → φ h2
def HOk (H : Hp) (h : Heap) : Prop := ∀ a o, H a = some o → ObjOk P w H h a o
end

section
variable {P : Program} {w : World} {H H' : Hp} {h h' : Heap} {a : Addr} {o : HO}
theorem ObjOk.lt (x : ObjOk P w H h a o) : a < h.objs.size := by
  cases o with
  | lst xs => obtain ⟨_, _, _, _, e⟩ := x; exact Heap.lt_size e
  | tup xs => obtain ⟨_, _, _, p⟩ := x; exact p.lt
  | dK kvs => obtain ⟨_, _, _, _, o, _, _, e, _⟩ := x; exact Heap.lt_size e
  | dT kvs => obtain ⟨_, _, _, _, o, _, _, e, _⟩ := x; exact Heap.lt_size e
  | set S n => obtain ⟨o, _, _, _, e, _⟩ := x; exact Heap.lt_size e
  | ins C dx fs => obtain ⟨_, _, _, e, _⟩ := x; exact Heap.lt_size e
  | own y => obtain ⟨_, e⟩ := x; exact Heap.lt_size e
  | xd fs => obtain ⟨_, ⟨_, _, _, e, _⟩, _⟩ := x; exact Heap.lt_size e
  | rng lo hi => obtain ⟨_, _, _, e⟩ := x; exact Heap.lt_size e
  | frz ob u => obtain ⟨e, _⟩ := x; exact Heap.lt_size e
  | tbl ps => exact Heap.lt_size (show h.get? a = some _ from x)
  | met f y => exact Heap.lt_size (show h.get? a = some _ from x)
  | ext φ => obtain ⟨_, ⟨_, e⟩, _⟩ := x; exact Heap.lt_size e
theorem Paired.mapP {α β : Type} {F G : α → β → Prop} : ∀ {l₁ : List α} {l₂ : List β}, Paired F l₁ l₂ → (∀ a b, F a b → G a b) → Paired G l₁ l₂
  | _, _, .nil, _ => .nil
  | _, _, .cons r t, f => .cons (f _ _ r) (Paired.mapP t f)
theorem ObjOk.stay (x : ObjOk P w H h a o) (k : ∀ b u, (b = a ∨ H b = some (.own a)) → h.get? b = some u → h'.get? b = some u)
    (ho : ∀ b, H b = some (.own a) → H' b = some (.own a)) (ht : ∀ b xs, H b = some (.tup xs) → H' b = some (.tup xs)) : ObjOk P w H' h' a o := by
  induction o with
  | lst xs => obtain ⟨z, its, n, r, e⟩ := x; exact ⟨z, its, n, r, k _ _ (.inl rfl) e⟩
  | tup xs => obtain ⟨z, its, r, ob, e, c⟩ := x; exact ⟨z, its, r, ob, k _ _ (.inl rfl) e, c⟩
  | dK kvs => obtain ⟨z, y, vs, r, ob, es, ep, e, c⟩ := x; exact ⟨z, y, vs, r, ob, es, ep, k _ _ (.inl rfl) e, c⟩
  | dT kvs =>
    obtain ⟨z, y, xs, r, ob, es, ep, e, c⟩ := x
    exact ⟨z, y, xs, Paired.mapP r fun p q z => ⟨z.1, ht _ _ z.2.1, z.2.2⟩, ob, es, ep, k _ _ (.inl rfl) e, c⟩
  | set S n => obtain ⟨ob, es, ep, t, e, c⟩ := x; exact ⟨ob, es, ep, t, k _ _ (.inl rfl) e, c⟩
  | ins C dx fs =>
    obtain ⟨d, z, ne, e, mA, ⟨od, es, ep, e2, c⟩, r⟩ := x
    exact ⟨ho _ d, z, ne, k _ _ (.inl rfl) e, mA, ⟨od, es, ep, k _ _ (.inr d) e2, c⟩, r⟩
  | own y => obtain ⟨ob, e⟩ := x; exact ⟨ob, k _ _ (.inl rfl) e⟩
  | xd fs => obtain ⟨mA, ⟨od, es, ep, e, c⟩, r⟩ := x; exact ⟨mA, ⟨od, es, ep, k _ _ (.inl rfl) e, c⟩, r⟩
  | rng lo hi => obtain ⟨t, u, v, e⟩ := x; exact ⟨t, u, v, k _ _ (.inl rfl) e⟩
  | frz ob u ih => obtain ⟨e, q⟩ := x; exact ⟨k _ _ (.inl rfl) e, ih q⟩
  | tbl ps =>
    have e : h.get? a = some { cls := .none, data := .fields ps } := x
    show h'.get? a = some { cls := .none, data := .fields ps }
    exact k a _ (.inl rfl) e
  | met f y =>
    have e : h.get? a = some (PySem.W.methodObj (.ref f) (.ref y)) := x
    show h'.get? a = some (PySem.W.methodObj (.ref f) (.ref y))
    exact k a _ (.inl rfl) e
  | ext φ => obtain ⟨p, ⟨o, e⟩, st⟩ := x; exact ⟨st _ _ p fun o q => k _ _ (.inl rfl) q, ⟨o, k _ _ (.inl rfl) e⟩, st⟩
theorem HOk.lt (x : HOk P w H h) (e : H a = some o) : a < h.objs.size := (x a o e).lt
theorem HOk.fresh (x : HOk P w H h) (e : h.objs.size ≤ a) : H a = none := by
  cases q : H a with
  | none => rfl
  | some u => exact absurd (Nat.lt_of_lt_of_le (x.lt q) e) (Nat.lt_irrefl _)
theorem HOk.kept (x : HOk P w H h) (k : ∀ b u, h.get? b = some u → h'.get? b = some u) : HOk P w H h' := fun a o e =>
  (x a o e).stay (fun b u _ q => k b u q) (fun _ q => q) fun _ _ q => q
theorem HOk.laid (x : HOk P w H h) (k : ∀ b u, h.get? b = some u → h'.get? b = some u) (hp : h.objs.size ≤ a) (new : ObjOk P w (upd H a o) h' a o) : HOk P w (upd H a o) h' := fun b u e => by
  have hn := x.fresh hp
  by_cases hb : b = a
  · subst hb; rw [upd_same] at e; cases e; exact new
  · rw [upd_ne hb] at e
    exact (x b u e).stay (fun c v _ q => k c v q) (fun c q => by rw [upd_ne (ne_of_none q hn)]; exact q) fun c xs q => by rw [upd_ne (ne_of_none q hn)]; exact q
end

def Rd (H : Hp) (a : Addr) (u : HO) : Prop := H a = some u ∨ ∃ o, H a = some (.frz o u)
theorem Rd.of {H : Hp} {a : Addr} {u : HO} (h : H a = some u) : Rd H a u := .inl h
theorem Rd.ok {P : Program} {w : World} {H : Hp} {h : Heap} {a : Addr} {u : HO} (r : Rd H a u) (x : HOk P w H h) : ObjOk P w H h a u := by
  rcases r with r | ⟨o, r⟩
  · exact x a u r
  · obtain ⟨_, q⟩ := x a _ r
    exact q
def Mut : Option HO → Prop
  | some (.lst _) => True
  | some (.dK _) => True
  | some (.dT _) => True
  | some (.set _ _) => True
  | some (.ins _ _ _) => True
  | some (.ext _) => True
  | _ => False
section
variable {P : Program} {w : World} {H : Hp} {h h' : Heap} {x e : Addr} {o' : HO}
theorem HOk.write (ok : HOk P w H h) (mu : Mut (H x)) (he : e = x ∨ H e = some (.own x)) (k : ∀ b u, b ≠ e → h.get? b = some u → h'.get? b = some u) (heo : ∃ u, h'.get? e = some u)
    (new : ObjOk P w (upd H x o') h' x o') : HOk P w (upd H x o') h' := fun b u q => by
  have nown : ∀ c y, H c = some (.own y) → c ≠ x := fun c y r z => by subst z; rw [r] at mu; exact mu
  have ntup : ∀ c xs, H c = some (.tup xs) → c ≠ x := fun c xs r z => by subst z; rw [r] at mu; exact mu
  by_cases hb : b = x
  · subst hb; rw [upd_same] at q; cases q; exact new
  · rw [upd_ne hb] at q
    by_cases hbe : b = e
    · have q' : H b = some (.own x) := by
        rcases he with z | z
        · exact absurd (hbe.trans z) hb
        · rw [hbe]; exact z
      rw [q] at q'; cases q'
      obtain ⟨v, hv⟩ := heo
      exact ⟨v, by rw [hbe]; exact hv⟩
    · refine (ok b u q).stay (fun c v hc r => k c v ?_ r) (fun c r => by rw [upd_ne (nown c b r)]; exact r) fun c xs r => by rw [upd_ne (ntup c xs r)]; exact r
      rcases hc with rfl | hc
      · exact hbe
      · rintro rfl
        rcases he with z | z
        · exact nown c b hc z
        · rw [hc] at z; cases z; exact hb rfl
end

structure Un (fs ex : List Addr) (H H' : Hp) (h h' : Heap) : Prop where
  keep : ∀ b o, h.get? b = some o → H b = none → b ∉ fs → b ∉ ex → h'.get? b = some o
  slot : ∀ b o, h.get? b = some o → H b = none → b ∈ fs → b ∉ ex → ∃ sl, h'.get? b = some { o with slots := sl }
  free : ∀ b o, h.get? b = some o → H b = none → b ∉ ex → H' b = none
  there : ∀ b o, h.get? b = some o → b ∉ ex → ∃ o', h'.get? b = some o'
  tups : ∀ b xs, H b = some (.tup xs) → H' b = some (.tup xs)
  frzs : ∀ b o u, H b = some (.frz o u) → H' b = some (.frz o u)
  tbls : ∀ b ps, H b = some (.tbl ps) → ∃ more, H' b = some (.tbl (ps ++ more))
section
variable {fs fs' ex ex' : List Addr} {H H1 H2 : Hp} {h h1 h2 h' : Heap} {a x e : Addr} {o : HO}
theorem Un.any (u : Un fs ex H H1 h h1) {b : Addr} {ob : Obj} (q : h.get? b = some ob) (n : H b = none) (hx : b ∉ ex) : ∃ sl, h1.get? b = some { ob with slots := sl } := by
  by_cases hb : b ∈ fs
  · exact u.slot b ob q n hb hx
  · exact ⟨ob.slots, u.keep b ob q n hb hx⟩
theorem Un.trans (a : Un fs ex H H1 h h1) (b : Un fs ex H1 H2 h1 h2) : Un fs ex H H2 h h2 where
  keep := fun c ob q n hc hx => b.keep c ob (a.keep c ob q n hc hx) (a.free c ob q n hx) hc hx
  slot := fun c ob q n hc hx => by
    obtain ⟨sl, e1⟩ := a.slot c ob q n hc hx
    obtain ⟨sl', e2⟩ := b.slot c _ e1 (a.free c ob q n hx) hc hx
    exact ⟨sl', e2⟩
  free := fun c ob q n hx => by
    obtain ⟨o', e1⟩ := a.there c ob q hx
    exact b.free c o' e1 (a.free c ob q n hx) hx
  there := fun c ob q hx => by
    obtain ⟨o', e1⟩ := a.there c ob q hx
    exact b.there c o' e1 hx
  tups := fun c xs q => b.tups c xs (a.tups c xs q)
  frzs := fun c ob xs q => b.frzs c ob xs (a.frzs c ob xs q)
  tbls := fun c ps q => by
    obtain ⟨m1, e1⟩ := a.tbls c ps q
    obtain ⟨m2, e2⟩ := b.tbls c _ e1
    exact ⟨m1 ++ m2, by rw [e2, Array.append_assoc]⟩
theorem Un.kept (k : ∀ b u, h.get? b = some u → h'.get? b = some u) : Un fs ex H H h h' :=
  ⟨fun b ob q _ _ _ => k b ob q, fun b ob q _ _ _ => ⟨ob.slots, k b ob q⟩, fun _ _ _ n _ => n, fun b ob q _ => ⟨ob, k b ob q⟩, fun _ _ q => q, fun _ _ _ q => q, fun _ ps q => ⟨#[], by rw [q]; simp⟩⟩
theorem Un.refl : Un fs ex H H h h := Un.kept fun _ _ q => q
theorem Un.laid (k : ∀ b u, h.get? b = some u → h'.get? b = some u) (hp : h.objs.size ≤ a) (hn : H a = none) : Un fs ex H (upd H a o) h h' where
  keep := fun b u q _ _ _ => k b u q
  slot := fun b u q _ _ _ => ⟨u.slots, k b u q⟩
  free := fun b u q n _ => by rw [upd_ne (Nat.ne_of_lt (Nat.lt_of_lt_of_le (Heap.lt_size q) hp))]; exact n
  there := fun b u q _ => ⟨u, k b u q⟩
  tups := fun b xs q => by rw [upd_ne (ne_of_none q hn)]; exact q
  frzs := fun b u xs q => by rw [upd_ne (ne_of_none q hn)]; exact q
  tbls := fun b ps q => ⟨#[], by rw [upd_ne (ne_of_none q hn), q]; simp⟩
theorem Un.write (mu : Mut (H x)) (he : e = x ∨ H e = some (.own x)) (k : ∀ b u, b ≠ e → h.get? b = some u → h'.get? b = some u) (heo : ∃ u, h'.get? e = some u) : Un fs ex H (upd H x o) h h' := by
  have hx : ∀ b, H b = none → b ≠ x := fun b n z => by subst z; rw [n] at mu; exact mu
  have hb : ∀ b, H b = none → b ≠ e := fun b n z => by
    subst z
    rcases he with r | r
    · exact hx b n r
    · rw [n] at r; cases r
  have hm : ∀ b u, H b = some u → ¬ Mut (some u) → b ≠ x := fun b u q nm z => by subst z; rw [q] at mu; exact nm mu
  refine ⟨fun b u q n _ _ => k b u (hb b n) q, fun b u q n _ _ => ⟨u.slots, k b u (hb b n) q⟩, fun b u q n _ => by rw [upd_ne (hx b n)]; exact n, fun b u q _ => ?_,
    fun b xs q => by rw [upd_ne (hm b _ q fun z => z)]; exact q, fun b u xs q => by rw [upd_ne (hm b _ q fun z => z)]; exact q, fun b ps q => ⟨#[], by rw [upd_ne (hm b _ q fun z => z), q]; simp⟩⟩
  by_cases hbe : b = e
  · subst hbe; exact heo
  · exact ⟨u, k b u hbe q⟩
theorem Un.mono (u : Un fs ex H H1 h h1) (hs : ∀ b ∈ fs, b ∈ fs') (hx : ∀ b ∈ ex, b ∈ ex') : Un fs' ex' H H1 h h1 :=
  ⟨fun b ob q n hb he => u.keep b ob q n (fun z => hb (hs b z)) fun z => he (hx b z), fun _ _ q n _ he => u.any q n fun z => he (hx _ z), fun b ob q n he => u.free b ob q n fun z => he (hx b z), fun b ob q he => u.there b ob q fun z => he (hx b z), u.tups, u.frzs, u.tbls⟩
end

def trk (h : Heap) (H : Hp) : List Addr := (List.range h.objs.size).filter fun a => (H a).isSome
def hidT (h : Heap) (H : Hp) : Heap := PySem.W.hideAll h (trk h H)
theorem hidT_size (h : Heap) (H : Hp) : (hidT h H).objs.size = h.objs.size := PySem.W.hideAll_size _ _
theorem hidT_get {h : Heap} {H : Hp} {b : Addr} {o : Obj} (e : h.get? b = some o) (n : H b = none) : (hidT h H).get? b = some o :=
  PySem.W.hideAll_get _ e fun hm => by
    have q : (H b).isSome = true := (List.mem_filter.mp hm).2
    rw [n] at q; simp at q
theorem of_hidT {h : Heap} {H : Hp} {b : Addr} {o : Obj} (e : (hidT h H).get? b = some o) : h.get? b = some o ∧ H b = none := by
  have e' : h.get? b = some o := PySem.W.of_hideAll (trk h H) e
  refine ⟨e', ?_⟩
  cases q : H b with
  | none => rfl
  | some x =>
    have hm : b ∈ trk h H := List.mem_filter.mpr ⟨List.mem_range.mpr (Heap.lt_size e'), by simp [q]⟩
    have z : (hidT h H).get? b = none := PySem.W.hideAll_none (trk h H) hm
    rw [z] at e; cases e

def allNews (g h : Heap) (L : Addr) : List (Addr × Obj) := (List.range h.objs.size).filterMap fun a => if a = L ∨ (g.get? a).isSome = true then none else (h.get? a).map fun o => (a, o)
def rest (g h : Heap) (L d : Addr) : List (Addr × Obj) := (allNews g h L).filter fun p => decide (p.1 ≠ d)
end L2

namespace L2
open PySem PySem.Spec PyProof.Rows

structure Mod (K : PySem.W.Frag) (mg : Str → Option Value) (base : Heap) : Prop where
  kin : K.In base
  glob : base.Ns mainGlobals mg
  blt : ∃ mb, base.Ns builtinsNs mb ∧ ∀ x : Str, x ≠ "__name__" → mb x = bootBuiltins x
  nolimit : base.NoLimit

/- the context: a def's body (or a comprehension's block) running. base: fixed through the whole law; s₀, H₀: the entry; outer: the frames whose slots others may change (a def's callers); stack: all frames that run;
   ex: iterators that were made ahead of the entry and are walked here (a comprehension's); fn: the names whose cells were made at the entry (a def: all; a comprehension's block: its own); calm: not within an except suite; pn: pins that every state bears; xe: what is wanted of an exception that leaves the code -/
structure Cx where
  prog : Program
  w : World
  K : PySem.W.Frag
  mg : Str → Option Value
  base : Heap
  A : Around
  N : List Str
  s₀ : Shared
  H₀ : Hp
  env : Env
  outer : List Env
  stack : List Env
  ex : List Addr
  fn : Str → Bool
  calm : Bool
  pn : List (Addr × Obj)
  xe : Value → Shared → Prop
def frs (l : List Env) : List Addr := l.filterMap (·.frame)
abbrev Cx.fs (X : Cx) : List Addr := frs X.outer

def Vis (sc : Scope) (x : Str) : Prop := sc.names.lookup x = some .local ∨ sc.names.lookup x = some .cell ∨ sc.names.lookup x = some .free
def Loc (sc : Scope) (x : Str) : Prop := sc.names.lookup x = some .local ∨ sc.names.lookup x = some .cell
def Look (env : Env) (h : Heap) (m : Str → Option Value) (x : Str) (u : Value) : Prop :=
  (env.kindOf x = some .local ∧ m x = some u) ∨ ((env.kindOf x = some .cell ∨ env.kindOf x = some .free) ∧ ∃ c, env.cells.lookup x = some c ∧ h.IsCell c (some u))

structure Cx.Ok (X : Cx) : Prop where
  mod : Mod X.K X.mg X.base
  kind : X.env.scope.kind = .function
  glob : X.env.globals = mainGlobals
  blt : X.env.builtins = builtinsNs
  above : X.s₀.heap.objs.size ≤ X.env.locals
  inj : ∀ x y c, X.env.cells.lookup x = some c → X.env.cells.lookup y = some c → x = y
  has : ∀ x, (X.env.kindOf x = some .cell ∨ X.env.kindOf x = some .free) → ∃ c, X.env.cells.lookup x = some c
  cab : ∀ x c, X.fn x = true → X.env.cells.lookup x = some c → X.s₀.heap.objs.size ≤ c
  hd : X.calm = true → X.A.handled = none
  frames : X.A.frames = some X.stack
  stk : X.stack = X.outer ∨ (X.stack = X.env :: X.outer ∧ X.env.frame = some X.env.locals)
  exf : ∀ b ∈ X.ex, b ≠ X.env.locals ∧ ∀ x c, X.env.cells.lookup x = some c → c ≠ b
  bs : ∀ b o, X.base.get? b = some o → X.s₀.heap.get? b = some o ∧ X.H₀ b = none
  bsz : X.base.objs.size ≤ X.s₀.heap.objs.size
  noex : ∀ b o, X.base.get? b = some o → b ∉ X.ex
  exfs : ∀ b ∈ X.ex, b ∉ X.fs
  funs : X.s₀.heap.FunFrames X.base X.outer
  frf : ∀ b ∈ X.fs, X.H₀ b = none

structure Inv (X : Cx) (pins : List (Addr × Obj)) (σ : List (Option V)) (H : Hp) (s : Shared) : Prop where
  ok : X.Ok
  os : s.os = X.s₀.os
  bare : AllBare s.gens
  base : Un X.fs X.ex X.H₀ H X.s₀.heap s.heap
  loc : ∃ m, s.heap.Ns X.env.locals m ∧ ∀ (i : Nat) (x : Str) (v : V), X.N[i]? = some x → σ[i]? = some (some v) → Vis X.env.scope x → ∃ u, RelV v u ∧ Look X.env s.heap m x u
  cell : ∀ x c, X.env.cells.lookup x = some c → ∃ v, s.heap.IsCell c v
  free : H X.env.locals = none
  freeC : ∀ x c, X.env.cells.lookup x = some c → H c = none
  pin : ∀ p ∈ X.pn ++ pins, s.heap.get? p.1 = some p.2 ∧ H p.1 = none ∧ p.1 ≠ X.env.locals ∧ p.1 ∉ X.fs ∧ ∀ v, p.2.data ≠ .cell v
  hok : HOk X.prog X.w H s.heap
  len : σ.length = X.N.length

section
variable {X : Cx} {pins : List (Addr × Obj)} {σ : List (Option V)} {H H' : Hp} {s : Shared} {h' : Heap}

theorem Cx.Ok.nofr (ok : X.Ok) {b : Addr} {o : Obj} (e : X.base.get? b = some o) : b ∉ X.fs := fun hb => by
  have := (ok.funs.mem hb).1
  rw [e] at this; cases this
theorem Inv.bs (I : Inv X pins σ H s) : ∀ b o, X.base.get? b = some o → s.heap.get? b = some o ∧ H b = none := fun b o e =>
  ⟨I.base.keep b o (I.ok.bs b o e).1 (I.ok.bs b o e).2 (I.ok.nofr e) (I.ok.noex b o e), I.base.free b o (I.ok.bs b o e).1 (I.ok.bs b o e).2 (I.ok.noex b o e)⟩
theorem Inv.bk (I : Inv X pins σ H s) : ∀ b o, X.base.get? b = some o → s.heap.get? b = some o := fun b o e => (I.bs b o e).1
theorem Inv.mod (I : Inv X pins σ H s) : Mod X.K X.mg X.base := I.ok.mod
theorem Inv.kIn (I : Inv X pins σ H s) : X.K.In s.heap := I.ok.mod.kin.keeps I.bk
theorem Inv.nolimit (I : Inv X pins σ H s) : s.heap.NoLimit := I.ok.mod.nolimit.keeps I.bk
theorem Inv.fr (I : Inv X pins σ H s) : ∃ m, Fr X.base X.env.locals s.heap m :=
  let ⟨m, hn, _⟩ := I.loc
  ⟨m, hn, I.bk, Nat.le_trans I.ok.bsz I.ok.above⟩
theorem Inv.lt (I : Inv X pins σ H s) : X.env.locals < s.heap.objs.size := let ⟨_, hn, _⟩ := I.loc; hn.lt
theorem Inv.sz (I : Inv X pins σ H s) : X.s₀.heap.objs.size ≤ s.heap.objs.size := Nat.le_trans I.ok.above (Nat.le_of_lt I.lt)
theorem Inv.nofs (I : Inv X pins σ H s) {a : Addr} (h : s.heap.objs.size ≤ a) : a ∉ X.fs := fun hb => by
  obtain ⟨_, o, ho, _⟩ := I.ok.funs.mem hb
  exact absurd (Nat.lt_of_lt_of_le (Heap.lt_size ho) (Nat.le_trans I.sz h)) (Nat.lt_irrefl _)
theorem Inv.cne (I : Inv X pins σ H s) : ∀ x c, X.env.cells.lookup x = some c → c ≠ X.env.locals := fun x c e z => by
  obtain ⟨v, o, ho, hd⟩ := I.cell x c e
  obtain ⟨m, ⟨o', es, ep, ho', hd', _⟩, _⟩ := I.loc
  rw [z, ho'] at ho; cases ho; rw [hd'] at hd; cases hd
theorem Inv.funs (I : Inv X pins σ H s) : s.heap.FunFrames X.base X.outer := by
  have all : ∀ (l : List Env), (∀ b ∈ frs l, b ∈ X.fs) → X.s₀.heap.FunFrames X.base l → s.heap.FunFrames X.base l := by
    intro l
    induction l with
    | nil => intro _ _; trivial
    | cons env r ih =>
      intro hs hl
      obtain ⟨hk, ⟨L, o, hf, hn, ho, hd⟩, hr⟩ := hl
      have hL : L ∈ X.fs := hs L (by unfold frs; rw [List.filterMap_cons, hf]; exact List.mem_cons_self)
      obtain ⟨sl, e⟩ := I.base.slot L o ho (I.ok.frf L hL) hL fun z => I.ok.exfs L z hL
      exact ⟨hk, ⟨L, _, hf, hn, e, hd⟩, ih (fun b hb => hs b (by unfold frs; rw [List.filterMap_cons, hf]; exact List.mem_cons_of_mem _ hb)) hr⟩
  exact all X.outer (fun _ hb => hb) I.ok.funs

theorem Inv.stack (I : Inv X pins σ H s) : s.heap.FunFrames X.base X.stack := by
  rcases I.ok.stk with e | ⟨e, hf⟩
  · rw [e]; exact I.funs
  · rw [e]
    obtain ⟨m, hn, _⟩ := I.loc
    refine .cons (by rw [I.ok.kind]; decide) hf hn ?_ I.funs
    exact Heap.get?_none_of_le (Nat.le_trans I.ok.bsz I.ok.above)
theorem Inv.stkSub (I : Inv X pins σ H s) : ∀ b ∈ frs X.stack, b ∈ X.env.locals :: X.fs := fun b hb => by
  rcases I.ok.stk with e | ⟨e, hf⟩
  · rw [e] at hb; exact List.mem_cons_of_mem _ hb
  · rw [e] at hb
    unfold frs at hb
    rw [List.filterMap_cons, hf] at hb
    exact hb
theorem Inv.stkFree (I : Inv X pins σ H s) : ∀ b ∈ frs X.stack, H b = none := fun b hb => by
  rcases List.mem_cons.mp (I.stkSub b hb) with e | hb
  · rw [e]; exact I.free
  · obtain ⟨_, o, ho, _⟩ := I.ok.funs.mem hb
    exact I.base.free b o ho (I.ok.frf b hb) fun z => I.ok.exfs b z hb

theorem Inv.step {g' : Array GenState} {t' : Nat} {d' : Drawn} {ch : List Addr} (I : Inv X pins σ H s)
    (hch : ∀ b ∈ ch, (b ∈ X.ex ∨ X.s₀.heap.objs.size ≤ b) ∧ b ≠ X.env.locals ∧ (∀ x c, X.env.cells.lookup x = some c → c ≠ b) ∧ ∀ p ∈ X.pn ++ pins, p.1 ≠ b)
    (keep : ∀ b o, b ≠ X.env.locals → b ∉ X.fs → b ∉ ch → s.heap.get? b = some o → H b = none → h'.get? b = some o)
    (slot : ∀ b o, b ≠ X.env.locals → b ∈ X.fs → b ∉ ch → s.heap.get? b = some o → H b = none → ∃ sl, h'.get? b = some { o with slots := sl }) (free : ∀ b o, b ∉ ch → s.heap.get? b = some o → H b = none → H' b = none)
    (there : ∀ b o, b ∉ ch → s.heap.get? b = some o → ∃ o', h'.get? b = some o')
    (tups : ∀ b xs, H b = some (.tup xs) → H' b = some (.tup xs)) (frzs : ∀ b o u, H b = some (.frz o u) → H' b = some (.frz o u)) (tbls : ∀ b ps, H b = some (.tbl ps) → ∃ more, H' b = some (.tbl (ps ++ more)))
    (ns : ∀ m, s.heap.Ns X.env.locals m → h'.Ns X.env.locals m) (hok : HOk X.prog X.w H' h') (hg : AllBare g') :
    Inv X pins σ H' { s with heap := h', gens := g', drawn := d', toks := t' } := by
  have neL : ∀ b o, X.s₀.heap.get? b = some o → b ≠ X.env.locals := fun b o e => Nat.ne_of_lt (Nat.lt_of_lt_of_le (Heap.lt_size e) I.ok.above)
  have neC : ∀ b o, X.s₀.heap.get? b = some o → b ∉ X.ex → b ∉ ch := fun b o e hx hb => by
    rcases (hch b hb).1 with z | z
    · exact hx z
    · exact absurd (Nat.lt_of_lt_of_le (Heap.lt_size e) z) (Nat.lt_irrefl _)
  have cellK : ∀ x c, X.env.cells.lookup x = some c → ∀ v, s.heap.IsCell c v → h'.IsCell c v := fun x c e v ⟨o, ho, hd⟩ => by
    have nch : c ∉ ch := fun z => (hch c z).2.2.1 x c e rfl
    by_cases hc : c ∈ X.fs
    · obtain ⟨sl, q⟩ := slot c o (I.cne x c e) hc nch ho (I.freeC x c e)
      exact ⟨_, q, hd⟩
    · exact ⟨o, keep c o (I.cne x c e) hc nch ho (I.freeC x c e), hd⟩
  refine ⟨I.ok, I.os, hg, ⟨fun b o e n hb hx => ?_, fun b o e n hb hx => ?_, fun b o e n hx => ?_, fun b o e hx => ?_, fun b xs e => tups b xs (I.base.tups b xs e), fun b o xs e => frzs b o xs (I.base.frzs b o xs e), fun b ps e => ?_⟩, ?_, fun x c e => ?_, ?_, fun x c e => ?_, fun p hp => ?_, hok, I.len⟩
  · exact keep b o (neL b o e) hb (neC b o e hx) (I.base.keep b o e n hb hx) (I.base.free b o e n hx)
  · obtain ⟨sl, e1⟩ := I.base.slot b o e n hb hx
    obtain ⟨sl', e2⟩ := slot b _ (neL b o e) hb (neC b o e hx) e1 (I.base.free b o e n hx)
    exact ⟨sl', e2⟩
  · obtain ⟨o', e1⟩ := I.base.there b o e hx
    exact free b o' (neC b o e hx) e1 (I.base.free b o e n hx)
  · obtain ⟨o', e1⟩ := I.base.there b o e hx
    exact there b o' (neC b o e hx) e1
  · obtain ⟨m1, e1⟩ := I.base.tbls b ps e
    obtain ⟨m2, e2⟩ := tbls b _ e1
    exact ⟨m1 ++ m2, by rw [e2, Array.append_assoc]⟩
  · obtain ⟨m, hn, hl⟩ := I.loc
    refine ⟨m, ns m hn, fun i x v e1 e2 e3 => ?_⟩
    obtain ⟨u, r, l⟩ := hl i x v e1 e2 e3
    refine ⟨u, r, ?_⟩
    rcases l with l | ⟨k, c, e, z⟩
    · exact .inl l
    · exact .inr ⟨k, c, e, cellK x c e _ z⟩
  · obtain ⟨v, z⟩ := I.cell x c e
    exact ⟨v, cellK x c e v z⟩
  · obtain ⟨m, ⟨o, _, _, ho, _⟩, _⟩ := I.loc
    exact free _ o (fun z => (hch _ z).2.1 rfl) ho I.free
  · obtain ⟨v, o, ho, hd⟩ := I.cell x c e
    exact free c o (fun z => (hch c z).2.2.1 x c e rfl) ho (I.freeC x c e)
  · obtain ⟨e, n, ne, nf, d⟩ := I.pin p hp
    have nch : p.1 ∉ ch := fun z => (hch p.1 z).2.2.2 p hp rfl
    exact ⟨keep p.1 p.2 ne nf nch e n, free p.1 p.2 nch e n, ne, nf, d⟩
theorem Inv.un {t' : Nat} (I : Inv X pins σ H s) (u : Un X.fs [] H H' s.heap h') (hok : HOk X.prog X.w H' h') : Inv X pins σ H' { s with heap := h', toks := t' } := by
  obtain ⟨m, ⟨o, es, ep, ho, r⟩, _⟩ := id I.loc
  obtain ⟨sl, hL⟩ := u.any ho I.free (by simp)
  exact I.step (g' := s.gens) (d' := s.drawn) (ch := []) (fun _ z => nomatch z) (fun b o _ hb _ e n => u.keep b o e n hb (by simp)) (fun b o _ hb _ e n => u.slot b o e n hb (by simp)) (fun b o _ e n => u.free b o e n (by simp)) (fun b o _ e => u.there b o e (by simp)) u.tups u.frzs u.tbls (fun m' hm => by
    obtain ⟨o', es', ep', ho', r'⟩ := hm
    rw [ho] at ho'; cases ho'
    exact ⟨_, es', ep', hL, r'⟩) hok I.bare
theorem Inv.call {g' : Array GenState} {t' : Nat} {d' : Drawn} {ch : List Addr} (I : Inv X pins σ H s) (u : Un (frs X.stack) ch H H' s.heap h') (hok : HOk X.prog X.w H' h') (hg : AllBare g')
    (hch : ∀ b ∈ ch, (b ∈ X.ex ∨ X.s₀.heap.objs.size ≤ b) ∧ b ≠ X.env.locals ∧ (∀ x c, X.env.cells.lookup x = some c → c ≠ b) ∧ ∀ p ∈ X.pn ++ pins, p.1 ≠ b) :
    Inv X pins σ H' { s with heap := h', gens := g', drawn := d', toks := t' } := by
  obtain ⟨m, ⟨o, es, ep, ho, r⟩, _⟩ := id I.loc
  obtain ⟨sl, hL⟩ := u.any ho I.free fun z => (hch _ z).2.1 rfl
  exact I.step (ch := ch) hch (fun b o hL hb hc e n => u.keep b o e n (fun z => (List.mem_cons.mp (I.stkSub b z)).elim hL hb) hc) (fun b o _ _ hc e n => u.any e n hc) (fun b o hc e n => u.free b o e n hc) (fun b o hc e => u.there b o e hc) u.tups u.frzs u.tbls (fun m' hm => by
    obtain ⟨o', es', ep', ho', r'⟩ := hm
    rw [ho] at ho'; cases ho'
    exact ⟨_, es', ep', hL, r'⟩) hok hg
theorem Inv.turned {t' : Nat} {it : Addr} (I : Inv X pins σ H s) (k : ∀ b o, b ≠ it → s.heap.get? b = some o → h'.get? b = some o) (hn : H it = none) (hL : it ≠ X.env.locals)
    (h1 : it ∈ X.ex ∨ X.s₀.heap.objs.size ≤ it) (h2 : ∀ x c, X.env.cells.lookup x = some c → c ≠ it) (h3 : ∀ p ∈ X.pn ++ pins, p.1 ≠ it) : Inv X pins σ H { s with heap := h', toks := t' } := by
  have nit : ∀ b u, H b = some u → b ≠ it := fun b u e z => by rw [z, hn] at e; cases e
  refine I.step (g' := s.gens) (d' := s.drawn) (ch := [it]) (fun b hb => ?_) (fun b o _ _ hc e _ => k b o (fun z => hc (by simp [z])) e) (fun b o _ _ hc e _ => ⟨o.slots, k b o (fun z => hc (by simp [z])) e⟩) (fun _ _ _ _ n => n)
    (fun b o hc e => ⟨o, k b o (fun z => hc (by simp [z])) e⟩) (fun _ _ e => e) (fun _ _ _ e => e) (fun b ps e => ⟨#[], by rw [e]; simp⟩) (fun m hm => ?_) (fun b u e => ?_) I.bare
  · have e : b = it := by simpa using hb
    subst e
    exact ⟨h1, hL, h2, h3⟩
  · obtain ⟨o, es, ep, ho, r⟩ := hm
    exact ⟨o, es, ep, k _ o (Ne.symm hL) ho, r⟩
  · refine (I.hok b u e).stay (fun c v hc q => k c v ?_ q) (fun _ q => q) fun _ _ q => q
    rcases hc with z | z
    · rw [z]; exact nit b u e
    · exact nit c _ z
theorem Inv.tok (I : Inv X pins σ H s) (t : Nat) : Inv X pins σ H { s with toks := t } := I.un (h' := s.heap) (t' := t) Un.refl I.hok
theorem Inv.kept {t' : Nat} (I : Inv X pins σ H s) (k : ∀ b u, s.heap.get? b = some u → h'.get? b = some u) : Inv X pins σ H { s with heap := h', toks := t' } := I.un (Un.kept k) (I.hok.kept k)
theorem Inv.laid {a : Addr} {o : HO} {t' : Nat} (I : Inv X pins σ H s) (k : ∀ b u, s.heap.get? b = some u → h'.get? b = some u) (hp : s.heap.objs.size ≤ a) (new : ObjOk X.prog X.w (upd H a o) h' a o) :
    Inv X pins σ (upd H a o) { s with heap := h', toks := t' } := I.un (Un.laid k hp (I.hok.fresh hp)) (I.hok.laid k hp new)
theorem Inv.write {x e : Addr} {o : HO} {t' : Nat} (I : Inv X pins σ H s) (mu : Mut (H x)) (he : e = x ∨ H e = some (.own x)) (k : ∀ b u, b ≠ e → s.heap.get? b = some u → h'.get? b = some u) (heo : ∃ u, h'.get? e = some u)
    (new : ObjOk X.prog X.w (upd H x o) h' x o) : Inv X pins σ (upd H x o) { s with heap := h', toks := t' } := I.un (Un.write mu he k heo) (I.hok.write mu he k heo new)
theorem Inv.weak {σ' : List (Option V)} (I : Inv X pins σ H s) (hl : σ'.length = σ.length) (w : ∀ (i : Nat) v, σ'[i]? = some (some v) → σ[i]? = some (some v)) : Inv X pins σ' H s :=
  ⟨I.ok, I.os, I.bare, I.base, let ⟨m, hn, hl'⟩ := I.loc; ⟨m, hn, fun i x v e1 e2 e3 => hl' i x v e1 (w i v e2) e3⟩, I.cell, I.free, I.freeC, I.pin, I.hok, hl.trans I.len⟩
theorem Inv.pins_of {pins' : List (Addr × Obj)} (I : Inv X pins σ H s) (h : ∀ p ∈ pins', s.heap.get? p.1 = some p.2 ∧ H p.1 = none ∧ p.1 ≠ X.env.locals ∧ p.1 ∉ X.fs ∧ ∀ v, p.2.data ≠ .cell v) : Inv X pins' σ H s :=
  ⟨I.ok, I.os, I.bare, I.base, I.loc, I.cell, I.free, I.freeC, fun p hp => (List.mem_append.mp hp).elim (fun z => I.pin p (List.mem_append_left _ z)) (h p), I.hok, I.len⟩

theorem nodup_ix {N : List Str} (hN : N.Nodup) {i j : Nat} {x : Str} (a : N[i]? = some x) (b : N[j]? = some x) : i = j := by
  obtain ⟨h1, e1⟩ := List.getElem?_eq_some_iff.mp a
  obtain ⟨h2, e2⟩ := List.getElem?_eq_some_iff.mp b
  exact (List.getElem_inj hN).mp (e1.trans e2.symm)

theorem store_ok2 {M : Model} {A : Around} {E : Value → Shared → Prop} {i : Nat} {x : Str} {v : V} {u : Value} {Q : Unit → Shared → Prop} (I : Inv X pins σ H s) (hN : X.N.Nodup) (hi : X.N[i]? = some x) (hx : Loc X.env.scope x) (r : RelV v u)
    (h : ∀ s', Inv X pins (σ.set i (some v)) H s' → (∃ a, Heap.SameBut a s.heap s'.heap ∧ (a = X.env.locals ∨ X.env.cells.lookup x = some a)) → Q () s') (hf : X.fn x = true ∨ X.env.scope.names.lookup x = some .local := by first | exact .inl rfl | exact .inr rfl | assumption) : wpAny M A (storeName X.env x u) Q E s := by
  obtain ⟨m, hn, hl⟩ := id I.loc
  have hcls : (X.env.scope.kind == .class || (X.env.scope.kind == .module && X.env.locals != X.env.globals)) = false := by rw [I.ok.kind]; rfl
  have hiσ : i < σ.length := by rw [I.len]; exact (List.getElem?_eq_some_iff.mp hi).1
  have cne := I.cne
  have tracked : ∀ {a : Addr} {h' : Heap}, (∃ o, s.heap.get? a = some o ∧ H a = none) → Heap.SameBut a s.heap h' → HOk X.prog X.w H h' := fun {a h'} ha hs b ob e => by
    obtain ⟨_, _, hfree⟩ := ha
    refine (I.hok b ob e).stay (fun c w' hc q => (hs.2 c ?_).trans q) (fun _ q => q) fun _ _ q => q
    rintro rfl
    rcases hc with rfl | hc
    · rw [hfree] at e; cases e
    · rw [hfree] at hc; cases hc
  rcases hx with hk | hk
  · refine wpAny_storeName_local hk hn (fun h' hn' hs => ?_) hcls
    obtain ⟨oL, _, _, hoL, _⟩ := id hn
    refine h _ ⟨I.ok, I.os, I.bare, ⟨fun b o e n hb hx => ?_, fun b o e n hb hx => ?_, I.base.free, fun b o e hx => ?_, I.base.tups, I.base.frzs, I.base.tbls⟩, ⟨_, hn', fun j y v' e1 e2 e3 => ?_⟩, fun y c e => ?_, I.free, I.freeC, fun p hp => ?_, tracked ⟨oL, hoL, I.free⟩ hs, by simpa using I.len⟩ ⟨_, hs, .inl rfl⟩
    · exact (hs.2 b (Nat.ne_of_lt (Nat.lt_of_lt_of_le (Heap.lt_size e) I.ok.above))).trans (I.base.keep b o e n hb hx)
    · obtain ⟨sl, e1⟩ := I.base.slot b o e n hb hx
      exact ⟨sl, (hs.2 b (Nat.ne_of_lt (Nat.lt_of_lt_of_le (Heap.lt_size e) I.ok.above))).trans e1⟩
    · obtain ⟨o', e1⟩ := I.base.there b o e hx
      exact ⟨o', (hs.2 b (Nat.ne_of_lt (Nat.lt_of_lt_of_le (Heap.lt_size e) I.ok.above))).trans e1⟩
    · by_cases hj : j = i
      · subst hj
        rw [hi] at e1; cases e1
        rw [List.getElem?_set_self hiσ] at e2
        cases e2
        exact ⟨u, r, .inl ⟨hk, by simp⟩⟩
      · rw [List.getElem?_set_ne (Ne.symm hj)] at e2
        obtain ⟨u', r', q⟩ := hl j y v' e1 e2 e3
        refine ⟨u', r', ?_⟩
        rcases q with ⟨k, e⟩ | ⟨k, c, e, z⟩
        · refine .inl ⟨k, ?_⟩
          have : y ≠ x := fun e => hj (nodup_ix hN e1 (e ▸ hi))
          simp [this, e]
        · exact .inr ⟨k, c, e, z.sameBut hs (cne y c e)⟩
    · obtain ⟨w', z⟩ := I.cell y c e
      exact ⟨w', z.sameBut hs (cne y c e)⟩
    · obtain ⟨e, n, ne, nf, d⟩ := I.pin p hp
      exact ⟨(hs.2 p.1 ne).trans e, n, ne, nf, d⟩
  · have hfn : X.fn x = true := by
      rcases hf with z | z
      · exact z
      · rw [z] at hk; cases hk
    obtain ⟨c, hc⟩ := I.ok.has x (.inl hk)
    obtain ⟨w', z⟩ := I.cell x c hc
    refine wpAny_storeName_cell I.ok.kind hk hc z (fun h' hc' hs => ?_)
    obtain ⟨oc, hoc, hocd⟩ := id z
    refine h { s with heap := h' } ⟨I.ok, I.os, I.bare, ⟨fun b o e n hb hx => ?_, fun b o e n hb hx => ?_, I.base.free, fun b o e hx => ?_, I.base.tups, I.base.frzs, I.base.tbls⟩, ⟨m, hn.sameBut hs (Ne.symm (cne x c hc)), fun j y v' e1 e2 e3 => ?_⟩, fun y c' e => ?_, I.free, I.freeC, fun p hp => ?_, tracked ⟨oc, hoc, I.freeC x c hc⟩ hs, by simpa using I.len⟩ ⟨c, hs, .inr hc⟩
    · exact (hs.2 b (Nat.ne_of_lt (Nat.lt_of_lt_of_le (Heap.lt_size e) (I.ok.cab x c hfn hc)))).trans (I.base.keep b o e n hb hx)
    · obtain ⟨sl, e1⟩ := I.base.slot b o e n hb hx
      exact ⟨sl, (hs.2 b (Nat.ne_of_lt (Nat.lt_of_lt_of_le (Heap.lt_size e) (I.ok.cab x c hfn hc)))).trans e1⟩
    · obtain ⟨o', e1⟩ := I.base.there b o e hx
      exact ⟨o', (hs.2 b (Nat.ne_of_lt (Nat.lt_of_lt_of_le (Heap.lt_size e) (I.ok.cab x c hfn hc)))).trans e1⟩
    · by_cases hj : j = i
      · subst hj
        rw [hi] at e1; cases e1
        rw [List.getElem?_set_self hiσ] at e2
        cases e2
        exact ⟨u, r, .inr ⟨.inl hk, c, hc, hc'⟩⟩
      · rw [List.getElem?_set_ne (Ne.symm hj)] at e2
        obtain ⟨u', r', q⟩ := hl j y v' e1 e2 e3
        refine ⟨u', r', ?_⟩
        rcases q with q | ⟨k, c', e, z'⟩
        · exact .inl q
        · refine .inr ⟨k, c', e, z'.sameBut hs ?_⟩
          rintro rfl
          exact hj (nodup_ix hN e1 (I.ok.inj _ _ _ e hc ▸ hi))
    · by_cases hcc : c' = c
      · subst hcc; exact ⟨_, hc'⟩
      · obtain ⟨w2, z2⟩ := I.cell y c' e
        exact ⟨w2, z2.sameBut hs hcc⟩
    · obtain ⟨e, n, ne, nf, d⟩ := I.pin p hp
      refine ⟨(hs.2 p.1 ?_).trans e, n, ne, nf, d⟩
      intro q
      rw [q, hoc] at e
      have q' : oc = p.2 := Option.some.inj e
      exact d w' (by rw [← q']; exact hocd)
theorem store_ok {M : Model} {A : Around} {E : Value → Shared → Prop} {i : Nat} {x : Str} {v : V} {u : Value} {Q : Unit → Shared → Prop} (I : Inv X pins σ H s) (hN : X.N.Nodup) (hi : X.N[i]? = some x) (hx : Loc X.env.scope x) (r : RelV v u)
    (h : ∀ s', Inv X pins (σ.set i (some v)) H s' → Q () s') (hf : X.fn x = true ∨ X.env.scope.names.lookup x = some .local := by first | exact .inl rfl | exact .inr rfl | assumption) : wpAny M A (storeName X.env x u) Q E s :=
  store_ok2 I hN hi hx r (fun s' I' _ => h s' I') hf
theorem Inv.call' {s' : Shared} {ch : List Addr} (I : Inv X pins σ H s) (ho : s'.os = s.os) (u : Un (frs X.stack) ch H H' s.heap s'.heap) (hok : HOk X.prog X.w H' s'.heap) (hg : AllBare s'.gens)
    (hch : ∀ b ∈ ch, (b ∈ X.ex ∨ X.s₀.heap.objs.size ≤ b) ∧ b ≠ X.env.locals ∧ (∀ x c, X.env.cells.lookup x = some c → c ≠ b) ∧ ∀ p ∈ X.pn ++ pins, p.1 ≠ b) : Inv X pins σ H' s' := by
  obtain ⟨h', g', d', t', o'⟩ := s'
  have e : o' = s.os := ho
  subst e
  exact I.call (g' := g') (t' := t') (d' := d') u hok hg hch
end

abbrev XK := Value → Option Addr → Hp → Prop
abbrev St := List (Option V)
abbrev VK := V → Hp → Prop
abbrev TE := St → Hp → VK → Prop
abbrev TT := St → Hp → (Bool → Hp → Prop) → Prop
abbrev TA := St → Hp → (List V → Hp → Prop) → Prop
structure Ends where
  nx : St → Hp → Prop
  rt : VK
  bk : St → Hp → Prop := fun _ _ => False
  ct : St → Hp → Prop := fun _ _ => False
abbrev TS := Ends → St → Hp → Prop

def EP (X : Cx) (pins : List (Addr × Obj)) (σ : St) (Q : VK) (u : Value) (s' : Shared) : Prop := ∃ v H', Inv X pins σ H' s' ∧ RelV v u ∧ Q v H'
def TP (X : Cx) (pins : List (Addr × Obj)) (σ : St) (Q : Bool → Hp → Prop) (b : Bool) (s' : Shared) : Prop := ∃ H', Inv X pins σ H' s' ∧ Q b H'
def AP (X : Cx) (pins : List (Addr × Obj)) (σ : St) (Q : List V → Hp → Prop) (us : List Value) (s' : Shared) : Prop := ∃ vs H', Inv X pins σ H' s' ∧ Vals vs us ∧ Q vs H'
def SP (X : Cx) (pins : List (Addr × Obj)) (D : Ends) (f : Flow) (s' : Shared) : Prop :=
  match f with
  | .next => ∃ σ' H', Inv X pins σ' H' s' ∧ D.nx σ' H'
  | .brk => ∃ σ' H', Inv X pins σ' H' s' ∧ D.bk σ' H'
  | .cont => ∃ σ' H', Inv X pins σ' H' s' ∧ D.ct σ' H'
  | .ret u => ∃ v σ' H', Inv X pins σ' H' s' ∧ RelV v u ∧ D.rt v H'

def PE (X : Cx) (e : Expr) (t : TE) : Prop :=
  ∀ (pins : List (Addr × Obj)) (s : Shared) (σ : St) (H : Hp) (Q : VK), Inv X pins σ H s → t σ H Q → wpAny (model X.prog X.w) X.A (eval e X.env) (EP X pins σ Q) X.xe s
def PT (X : Cx) (e : Expr) (t : TT) : Prop :=
  ∀ (pins : List (Addr × Obj)) (s : Shared) (σ : St) (H : Hp) (Q : Bool → Hp → Prop), Inv X pins σ H s → t σ H Q → wpAny (model X.prog X.w) X.A (isTrue e X.env (eval e X.env)) (TP X pins σ Q) X.xe s
def PW (X : Cx) (e : Expr) (t : TT) : Prop :=
  ∀ (whole : Sem Value) (pins : List (Addr × Obj)) (s : Shared) (σ : St) (H : Hp) (Q : Bool → Hp → Prop), Inv X pins σ H s → t σ H Q → wpAny (model X.prog X.w) X.A (isTrue e X.env whole) (TP X pins σ Q) X.xe s
theorem PW.pt {X : Cx} {e : Expr} {t : TT} (h : PW X e t) : PT X e t := h _
def PA (X : Cx) (es : List Expr) (t : TA) : Prop :=
  ∀ (pos : Pos) (pins : List (Addr × Obj)) (s : Shared) (σ : St) (H : Hp) (Q : List V → Hp → Prop), Inv X pins σ H s → t σ H Q → wpAny (model X.prog X.w) X.A (spliced (backTo pos (starEach es X.env))) (AP X pins σ Q) X.xe s
def PS (X : Cx) (st : Stmt) (t : TS) : Prop :=
  ∀ (pins : List (Addr × Obj)) (s : Shared) (σ : St) (H : Hp) (D : Ends), Inv X pins σ H s → t D σ H → wpAny (model X.prog X.w) X.A (exec st X.env) (SP X pins D) X.xe s
def PSs (X : Cx) (st : List Stmt) (t : TS) : Prop :=
  ∀ (pins : List (Addr × Obj)) (s : Shared) (σ : St) (H : Hp) (D : Ends), Inv X pins σ H s → t D σ H → wpAny (model X.prog X.w) X.A (execs st X.env) (SP X pins D) X.xe s
theorem thn {α : Type} {t : Sem α} {Q Q' : α → Shared → Prop} {M : Model} {A : Around} {E : Value → Shared → Prop} {s : Shared} (h : wpAny M A t Q E s) (hQ : ∀ a s, Q a s → Q' a s) : wpAny M A t Q' E s := wpAny_mono h hQ fun _ _ x => x
end L2

namespace L2
open PySem PySem.Spec PyProof.Rows
section
variable {X : Cx}

def tVar (i : Nat) : TE := fun σ H Q => ∃ v, σ[i]? = some (some v) ∧ Q v H
def tC (v : V) : TE := fun _ H Q => Q v H
theorem pe_var {i : Nat} {x : Str} {pos : Pos} (hN : X.N[i]? = some x) (hv : Vis X.env.scope x) (hd : (x == ("__debug__" : Str)) = false := by decide) (hcd : (x == ("__classdict__" : Str)) = false := by decide) : PE X (.Name x pos) (tVar i) := by
  intro pins s σ H Q I h
  obtain ⟨v, e, h⟩ := h
  obtain ⟨m, hn, hl⟩ := I.loc
  obtain ⟨u, r, l⟩ := hl i x v hN e hv
  have fin : EP X pins σ Q u s := ⟨v, H, I, r, h⟩
  rcases l with ⟨hk, hm⟩ | ⟨hk, c, hc, hcell⟩
  · exact wpAny_Name (wpAny_loadName_local I.ok.kind hk hn hm fin) hd
  · rcases hk with hk | hk
    · exact wpAny_Name (wpAny_loadName_cell I.ok.kind hk hc hcell fin) hd
    · exact wpAny_Name (wpAny_loadName_free I.ok.kind hk hc hcell fin hcd) hd
theorem pe_int {i j pos} : PE X (.Constant (.int i) j pos) (tC (.int i)) := fun _ _ _ H _ I h => wpAny_Constant_int ⟨.int i, H, I.tok _, ⟨_, rfl⟩, h⟩
theorem pe_bl {b j pos} : PE X (.Constant (.bool b) j pos) (tC (.bl b)) := fun _ _ _ H _ I h => Constant_bool ⟨.bl b, H, I, rfl, h⟩
theorem pe_non {j pos} : PE X (.Constant .none j pos) (tC .non) := fun _ _ _ H _ I h => Constant_none ⟨.non, H, I, rfl, h⟩
theorem pe_str {x j pos} : PE X (.Constant (.str x) j pos) (tC (.str x)) := fun _ _ _ H _ I h => Calls.Constant_str ⟨.str x, H, I.tok _, ⟨_, rfl⟩, h⟩

def Gl (X : Cx) (x : Str) : Prop := X.env.kindOf x = some .globalImplicit
theorem ld_glob {E : Value → Shared → Prop} {pins : List (Addr × Obj)} {s : Shared} {σ : St} {H : Hp} {x : Str} {u : Value} {pos : Pos} {Q : Value → Shared → Prop} (I : Inv X pins σ H s) (hg : Gl X x) (hm : X.mg x = some u) (h : Q u s)
    (hd : (x == ("__debug__" : Str)) = false := by decide) : wpAny (model X.prog X.w) X.A (eval (.Name x pos) X.env) Q E s :=
  Calls.Name_function_global I.ok.kind hg (Calls.loadGlobal_global (by rw [I.ok.glob]; exact I.mod.glob.keeps I.bk) hm h) hd
theorem ld_blt {E : Value → Shared → Prop} {pins : List (Addr × Obj)} {s : Shared} {σ : St} {H : Hp} {x : Str} {u : Value} {pos : Pos} {Q : Value → Shared → Prop} (I : Inv X pins σ H s) (hg : Gl X x) (hm : X.mg x = none) (hv : bootBuiltins x = some u) (h : Q u s)
    (hn : x ≠ "__name__" := by decide) (hd : (x == ("__debug__" : Str)) = false := by decide) : wpAny (model X.prog X.w) X.A (eval (.Name x pos) X.env) Q E s := by
  obtain ⟨mb, h1, h2⟩ := I.mod.blt
  exact Calls.Name_function_global I.ok.kind hg (Calls.loadGlobal_builtin (by rw [I.ok.glob]; exact I.mod.glob.keeps I.bk) hm (by rw [I.ok.blt]; exact h1.keeps I.bk) ((h2 x hn).trans hv) h) hd
theorem pe_glob {x : Str} {v : V} {u : Value} {pos : Pos} (hg : Gl X x) (hm : X.mg x = some u) (r : RelV v u) (hd : (x == ("__debug__" : Str)) = false := by decide) : PE X (.Name x pos) (tC v) :=
  fun _ _ _ H _ I h => ld_glob I hg hm ⟨v, H, I, r, h⟩ hd
theorem pe_bltn {x : Str} {v : V} {u : Value} {pos : Pos} (hg : Gl X x) (hm : X.mg x = none) (hv : bootBuiltins x = some u) (r : RelV v u) (hn : x ≠ "__name__" := by decide) (hd : (x == ("__debug__" : Str)) = false := by decide) : PE X (.Name x pos) (tC v) :=
  fun _ _ _ H _ I h => ld_blt I hg hm hv ⟨v, H, I, r, h⟩ hn hd

def t2I (ta tb : TE) (k : Int → Int → Hp → Prop) : St → Hp → Prop := fun σ H => ta σ H fun x H1 => tb σ H1 fun y H2 => ∃ i j, x = .int i ∧ y = .int j ∧ k i j H2
variable {a b : Expr} {ta tb : TE} {pos : Pos}
def PC (X : Cx) (op : CmpOp) (a b : Expr) (t : TE) : Prop :=
  ∀ (pins : List (Addr × Obj)) (s : Shared) (σ : St) (H : Hp) (Q : VK), Inv X pins σ H s → t σ H Q →
    wpAny (model X.prog X.w) X.A (eval a X.env) (fun v s₁ => wpAny (model X.prog X.w) X.A (eval b X.env) (fun u s₂ => wpAny (model X.prog X.w) X.A (compareOp op v u) (EP X pins σ Q) X.xe s₂) X.xe s₁) X.xe s
theorem nobehind (b : Expr) {op : CmpOp} (h : op ≠ .In) (h2 : op ≠ .NotIn) : behindInMarks op b = false := by
  have e1 : (op == CmpOp.In) = false := by cases op <;> first | rfl | exact absurd rfl h
  have e2 : (op == CmpOp.NotIn) = false := by cases op <;> first | rfl | exact absurd rfl h2
  cases b <;> simp [behindInMarks, e1, e2]
def tCmp (p : Int → Int → Bool) (ta tb : TE) : TE := fun σ H Q => t2I ta tb (fun i j H2 => Q (.bl (p i j)) H2) σ H
abbrev tLt : TE → TE → TE := tCmp fun i j => decide (i < j)
abbrev tLe : TE → TE → TE := tCmp fun i j => decide (i ≤ j)
abbrev tGt : TE → TE → TE := tCmp fun i j => decide (j < i)
abbrev tGe : TE → TE → TE := tCmp fun i j => decide (j ≤ i)
abbrev tEqI : TE → TE → TE := tCmp fun i j => decide (i = j)
abbrev tNeI : TE → TE → TE := tCmp fun i j => !decide (i = j)
def tIsN (ta : TE) : TE := fun σ H Q => ta σ H fun x H1 => Q (.bl (decide (x = .non))) H1
theorem RelV.none_iff {x : V} {v : Value} (r : RelV x v) : (v == Value.none) = decide (x = .non) := by
  cases x with
  | non => cases r; rfl
  | bl _ => cases r; rfl
  | int _ => obtain ⟨t, rfl⟩ := r; rfl
  | str _ => obtain ⟨t, rfl⟩ := r; rfl
  | byt _ => obtain ⟨t, rfl⟩ := r; rfl
  | flt _ => obtain ⟨t, rfl⟩ := r; rfl
  | ref _ => cases r; rfl
  | ty _ => cases r; rfl
theorem pc_isN {j pos'} (ha : PE X a ta) : PC X .Is a (.Constant .none j pos') (tIsN ta) := by
  intro pins s σ H Q I h
  refine thn (ha pins s σ H _ I h) fun v s1 ⟨x, H1, I1, r1, q1⟩ => ?_
  exact Constant_none (is_none_gen ⟨.bl _, H1, I1, by rw [r1.none_iff]; rfl, q1⟩)
def tB (t : TE) : TT := fun σ H Q => t σ H fun x H1 => ∃ c, x = .bl c ∧ Q c H1
theorem pt_cmp {op : CmpOp} {t : TE} (h : PC X op a b t) (h1 : behindInMarks op b = false := by first | exact nobehind _ (by decide) (by decide) | rfl) : PT X (.Compare a [op] [b] pos) (tB t) := by
  intro pins s σ H Q I hw
  refine wpAny_isTrue_Compare1 (thn (h pins s σ H _ I hw) fun v s1 h1 => thn h1 fun u s2 h2 => thn h2 fun c s3 ⟨x, H1, I1, r1, q1⟩ => ?_) h1
  obtain ⟨d, rfl, q⟩ := q1
  cases r1
  exact wpAny_truthy_bool ⟨H1, I1, q⟩
theorem pt_val {e : Expr} {t : TE} (h : PE X e t) (he : ∀ whole, isTrue e X.env whole = (do let v ← whole; standAt e.pos; holding [v] (truthy v)) := by intro _; rfl) : PT X e (tB t) := by
  intro pins s σ H Q I hw
  refine isTrue_plain (thn (h pins s σ H _ I hw) fun v s1 ⟨x, H1, I1, r1, q1⟩ => ?_) (he _)
  obtain ⟨d, rfl, q⟩ := q1
  cases r1
  exact wpAny_truthy_bool ⟨H1, I1, q⟩

variable {tA tB' : TT} {rest : List Expr}
def tAnd (t u : TT) : TT := fun σ H Q => t σ H fun c H1 => if c = true then u σ H1 Q else Q false H1
def tOr (t u : TT) : TT := fun σ H Q => t σ H fun c H1 => if c = true then Q true H1 else u σ H1 Q
def tNot (t : TT) : TT := fun σ H Q => t σ H fun c H1 => Q (!c) H1
theorem pw_and1 (ha : PT X a tA) : PW X (.BoolOp .And [a] pos) tA := by
  intro wh pins s σ H Q I h
  refine isTrue_and (thn (ha pins s σ H Q I h) fun c s1 e => ?_)
  cases c with
  | true => exact isTrue_and_nil e
  | false => exact e
theorem pw_or1 (ha : PT X a tA) : PW X (.BoolOp .Or [a] pos) tA := by
  intro wh pins s σ H Q I h
  refine isTrue_or (thn (ha pins s σ H Q I h) fun c s1 e => ?_)
  cases c with
  | false => exact isTrue_or_nil e
  | true => exact e
theorem pw_and (ha : PT X a tA) (hb : PW X (.BoolOp .And (b :: rest) pos) tB') : PW X (.BoolOp .And (a :: b :: rest) pos) (tAnd tA tB') := by
  intro wh pins s σ H Q I h
  refine isTrue_and (thn (ha pins s σ H _ I h) fun c s1 ⟨H1, I1, q1⟩ => ?_)
  cases c with
  | true => exact hb wh pins s1 σ H1 Q I1 q1
  | false => exact ⟨H1, I1, q1⟩
theorem pw_or (ha : PT X a tA) (hb : PW X (.BoolOp .Or (b :: rest) pos) tB') : PW X (.BoolOp .Or (a :: b :: rest) pos) (tOr tA tB') := by
  intro wh pins s σ H Q I h
  refine isTrue_or (thn (ha pins s σ H _ I h) fun c s1 ⟨H1, I1, q1⟩ => ?_)
  cases c with
  | true => exact ⟨H1, I1, q1⟩
  | false => exact hb wh pins s1 σ H1 Q I1 q1
theorem pt_not (ha : PT X a tA) : PT X (.UnaryOp .Not a pos) (tNot tA) := by
  intro pins s σ H Q I h
  exact isTrue_not (ha pins s σ H (fun c H1 => Q (!c) H1) I h)
def tAndV (ta tb : TE) : TE := fun σ H Q => ta σ H fun x H1 => ∃ c, x = .bl c ∧ if c = true then tb σ H1 Q else Q (.bl false) H1
def tOrV (ta tb : TE) : TE := fun σ H Q => ta σ H fun x H1 => ∃ c, x = .bl c ∧ if c = true then Q (.bl true) H1 else tb σ H1 Q
def tNotV (ta : TE) : TE := fun σ H Q => ta σ H fun x H1 => ∃ c, x = .bl c ∧ Q (.bl (!c)) H1
theorem pe_one {op} {t : TE} (h : PE X a t) : PE X (.BoolOp op [a] pos) t := fun pins s σ H Q I hw => BoolOp_one (h pins s σ H Q I hw)
theorem pe_and (ha : PE X a ta) (hb : PE X (.BoolOp .And (b :: rest) pos) tb) : PE X (.BoolOp .And (a :: b :: rest) pos) (tAndV ta tb) := by
  intro pins s σ H Q I h
  refine BoolOp_and (thn (ha pins s σ H _ I h) fun v s1 ⟨x, H1, I1, r1, q1⟩ => ?_)
  obtain ⟨c, rfl, q1⟩ := q1
  cases r1
  refine wpAny_truthy_bool ?_
  cases c with
  | true => exact hb pins s1 σ H1 Q I1 q1
  | false => exact ⟨.bl false, H1, I1, rfl, q1⟩
theorem pe_or (ha : PE X a ta) (hb : PE X (.BoolOp .Or (b :: rest) pos) tb) : PE X (.BoolOp .Or (a :: b :: rest) pos) (tOrV ta tb) := by
  intro pins s σ H Q I h
  refine BoolOp_or (thn (ha pins s σ H _ I h) fun v s1 ⟨x, H1, I1, r1, q1⟩ => ?_)
  obtain ⟨c, rfl, q1⟩ := q1
  cases r1
  refine wpAny_truthy_bool ?_
  cases c with
  | false => exact hb pins s1 σ H1 Q I1 q1
  | true => exact ⟨.bl true, H1, I1, rfl, q1⟩
theorem pe_not (ha : PE X a ta) : PE X (.UnaryOp .Not a pos) (tNotV ta) := by
  intro pins s σ H Q I h
  refine UnaryOp_ (thn (ha pins s σ H _ I h) fun v s1 ⟨x, H1, I1, r1, q1⟩ => ?_)
  obtain ⟨c, rfl, q1⟩ := q1
  cases r1
  exact not_of (wpAny_truthy_bool ⟨.bl (!c), H1, I1, rfl, q1⟩)
def tIf (t : TT) (ta tb : TE) : TE := fun σ H Q => t σ H fun c H1 => if c = true then ta σ H1 Q else tb σ H1 Q
theorem pe_ifExp {c : Expr} (hc : PT X c tA) (ha : PE X a ta) (hb : PE X b tb) : PE X (.IfExp c a b pos) (tIf tA ta tb) := by
  intro pins s σ H Q I h
  refine wpAny_IfExp (thn (hc pins s σ H _ I h) fun d s1 ⟨H1, I1, q1⟩ => ?_)
  cases d with
  | true => exact ha pins s1 σ H1 Q I1 q1
  | false => exact hb pins s1 σ H1 Q I1 q1
end
end L2

namespace L2
open PySem PySem.Spec PyProof.Rows

def SqL (K : PySem.W.Frag) (H : Hp) (a : Addr) (xs : List V) : Prop :=
  Rd H a (.lst xs) ∨
    ∃ (o : Obj) (its : Array Value) (n : Nat), K.lookup a = some o ∧ o.cls = .type "list" ∧ o.dict = none ∧ o.data = .seq its n ∧ its.size ≤ sizeLine ∧ Vals xs its.toList
def SqT (K : PySem.W.Frag) (H : Hp) (a : Addr) (xs : List V) : Prop :=
  Rd H a (.tup xs) ∨
    ∃ (o : Obj) (its : Array Value) (n : Nat), K.lookup a = some o ∧ o.cls = .type "tuple" ∧ o.data = .seq its n ∧ its.size ≤ sizeLine ∧ Vals xs its.toList
def absV : Value → Option V
  | .none => some .non
  | .bool b => some (.bl b)
  | .int i _ => some (.int i)
  | .str x _ => some (.str x)
  | .bytes b _ => some (.byt b)
  | .float b _ => some (.flt b)
  | .ref a => some (.ref a)
  | .type n => some (.ty n)
  | _ => none
theorem RelV.abs {x : V} {u : Value} (r : RelV x u) : absV u = some x := by
  cases x with
  | non => cases r; rfl
  | bl _ => cases r; rfl
  | int _ => obtain ⟨t, rfl⟩ := r; rfl
  | str _ => obtain ⟨t, rfl⟩ := r; rfl
  | byt _ => obtain ⟨t, rfl⟩ := r; rfl
  | flt _ => obtain ⟨t, rfl⟩ := r; rfl
  | ref _ => cases r; rfl
  | ty _ => cases r; rfl
theorem RelV.inj {x y : V} {u : Value} (r : RelV x u) (q : RelV y u) : x = y := Option.some.inj (r.abs.symm.trans q.abs)
theorem Vals.inj : ∀ {xs ys : List V} {us : List Value}, Vals xs us → Vals ys us → xs = ys
  | _, _, _, .nil, .nil => rfl
  | _, _, _, .cons r t, .cons r' t' => by rw [r.inj r', Vals.inj t t']
section
variable {X : Cx} {pins : List (Addr × Obj)} {σ : St} {H : Hp} {s : Shared} {a : Addr} {xs ys : List V}
theorem SqL.of {K : PySem.W.Frag} (h : H a = some (.lst xs)) : SqL K H a xs := .inl (.inl h)
theorem SqT.of {K : PySem.W.Frag} (h : H a = some (.tup xs)) : SqT K H a xs := .inl (.inl h)
theorem Inv.list (I : Inv X pins σ H s) (h : SqL X.K H a xs) : ∃ its : List Value, Vals xs its ∧ PlainL s.heap a its.toArray ∧ xs.length ≤ sizeLine := by
  rcases h with h | ⟨o, its, n, hk, hc, hd, hs, hz, r⟩
  · obtain ⟨z, its, n, r, e⟩ := h.ok I.hok
    exact ⟨its, r, ⟨_, n, e, rfl, rfl, rfl⟩, z⟩
  · refine ⟨its.toList, r, ⟨o, n, I.kIn a o hk, hc, hd, by simpa using hs⟩, ?_⟩
    have e := r.length
    simp only [Array.length_toList] at e
    omega
theorem Inv.tuple (I : Inv X pins σ H s) (h : SqT X.K H a xs) : ∃ its : List Value, Vals xs its ∧ IsTup s.heap a its.toArray ∧ xs.length ≤ sizeLine := by
  rcases h with h | ⟨o, its, n, hk, hc, hs, hz, r⟩
  · obtain ⟨z, its, r, p⟩ := h.ok I.hok
    exact ⟨its, r, p, z⟩
  · refine ⟨its.toList, r, ⟨o, I.kIn a o hk, hc, n, by simpa using hs⟩, ?_⟩
    have e := r.length
    simp only [Array.length_toList] at e
    omega
theorem Inv.list_inj (I : Inv X pins σ H s) (h : SqL X.K H a xs) (h' : SqL X.K H a ys) : xs = ys := by
  obtain ⟨its, r, ⟨o, n, e, _, _, d⟩, _⟩ := I.list h
  obtain ⟨its', r', ⟨o', n', e', _, _, d'⟩, _⟩ := I.list h'
  rw [e] at e'; cases e'
  rw [d] at d'
  injection d' with d1 _
  have : its = its' := by simpa using congrArg Array.toList d1
  subst this
  exact r.inj r'
theorem Inv.tuple_inj (I : Inv X pins σ H s) (h : SqT X.K H a xs) (h' : SqT X.K H a ys) : xs = ys := by
  obtain ⟨its, r, ⟨o, e, _, n, d⟩, _⟩ := I.tuple h
  obtain ⟨its', r', ⟨o', e', _, n', d'⟩, _⟩ := I.tuple h'
  rw [e] at e'; cases e'
  rw [d] at d'
  injection d' with d1 _
  have : its = its' := by simpa using congrArg Array.toList d1
  subst this
  exact r.inj r'
end

abbrev Cx.wish (X : Cx) (E : Value → Shared → Prop) : Cx := { X with xe := E }
abbrev Cx.nox (X : Cx) : Cx := X.wish fun _ _ => False
theorem Cx.Ok.wish {X : Cx} (ok : X.Ok) (E : Value → Shared → Prop) : (X.wish E).Ok :=
  ⟨ok.mod, ok.kind, ok.glob, ok.blt, ok.above, ok.inj, ok.has, ok.cab, ok.hd, ok.frames, ok.stk, ok.exf, ok.bs, ok.bsz, ok.noex, ok.exfs, ok.funs, ok.frf⟩
theorem Cx.Ok.unwish {X : Cx} {E : Value → Shared → Prop} (ok : (X.wish E).Ok) : X.Ok :=
  ⟨ok.mod, ok.kind, ok.glob, ok.blt, ok.above, ok.inj, ok.has, ok.cab, ok.hd, ok.frames, ok.stk, ok.exf, ok.bs, ok.bsz, ok.noex, ok.exfs, ok.funs, ok.frf⟩
section
variable {X : Cx} {pins : List (Addr × Obj)} {σ : St} {H : Hp} {s : Shared} {E : Value → Shared → Prop}
theorem Inv.wish (I : Inv X pins σ H s) (E : Value → Shared → Prop) : Inv (X.wish E) pins σ H s := ⟨I.ok.wish E, I.os, I.bare, I.base, I.loc, I.cell, I.free, I.freeC, I.pin, I.hok, I.len⟩
theorem Inv.unwish (I : Inv (X.wish E) pins σ H s) : Inv X pins σ H s := ⟨I.ok.unwish, I.os, I.bare, I.base, I.loc, I.cell, I.free, I.freeC, I.pin, I.hok, I.len⟩
theorem SP.unwish {D : Ends} {f : Flow} {s' : Shared} (h : SP (X.wish E) pins D f s') : SP X pins D f s' := by
  cases f with
  | next => obtain ⟨σ', H', I, q⟩ := h; exact ⟨σ', H', I.unwish, q⟩
  | brk => obtain ⟨σ', H', I, q⟩ := h; exact ⟨σ', H', I.unwish, q⟩
  | cont => obtain ⟨σ', H', I, q⟩ := h; exact ⟨σ', H', I.unwish, q⟩
  | ret u => obtain ⟨v, σ', H', I, r, q⟩ := h; exact ⟨v, σ', H', I.unwish, r, q⟩
theorem PE.nox {e : Expr} {t : TE} (h : PE X.nox e t) : PE X e t := fun pins s σ H Q I hw =>
  wpAny_mono (h pins s σ H Q (I.wish _) hw) (fun _ _ ⟨v, H', I', r, q⟩ => ⟨v, H', I'.unwish, r, q⟩) fun _ _ z => False.elim z
theorem PT.nox {e : Expr} {t : TT} (h : PT X.nox e t) : PT X e t := fun pins s σ H Q I hw =>
  wpAny_mono (h pins s σ H Q (I.wish _) hw) (fun _ _ ⟨H', I', q⟩ => ⟨H', I'.unwish, q⟩) fun _ _ z => False.elim z
theorem PSs.nox {st : List Stmt} {t : TS} (h : PSs X.nox st t) : PSs X st t := fun pins s σ H D I hw =>
  wpAny_mono (h pins s σ H D (I.wish _) hw) (fun _ _ q => q.unwish) fun _ _ z => False.elim z
end

section
variable {X : Cx} {st : Stmt} {rest : List Stmt} {t u : TS} {e : Expr} {te : TE} {pos : Pos}
def tNext : TS := fun D σ H => D.nx σ H
def tSeq (t u : TS) : TS := fun D σ H => t { D with nx := u D } σ H
theorem pss_nil : PSs X [] tNext := fun _ _ σ H _ I h => wpAny_execs_nil ⟨σ, H, I, h⟩
theorem pss_cons (h1 : PS X st t) (h2 : PSs X rest u) : PSs X (st :: rest) (tSeq t u) := by
  intro pins s σ H D I h
  refine wpAny_execs_cons (thn (h1 pins s σ H { D with nx := u D } I h) fun f s1 q => ?_)
  cases f with
  | next =>
    obtain ⟨σ', H', I', q⟩ := q
    exact h2 pins s1 σ' H' D I' q
  | ret v => exact q
  | brk => exact q
  | cont => exact q
theorem pss_one (h1 : PS X st t) : PSs X [st] t := by
  intro pins s σ H D I h
  refine wpAny_execs_cons (thn (h1 pins s σ H D I h) fun f s1 q => ?_)
  cases f with
  | next => exact wpAny_execs_nil q
  | ret v => exact q
  | brk => exact q
  | cont => exact q
theorem Inv.quiet {pins : List (Addr × Obj)} {σ : St} {H : Hp} {s : Shared} (I : Inv X pins σ H s) : interactive X.env = false := by simp [interactive, I.ok.kind]
def tDrop (te : TE) : TS := fun D σ H => te σ H fun _ H1 => D.nx σ H1
theorem ps_expr (he : PE X e te) (hs : swapsWith e none pos.line X.env = pure false := by rfl) : PS X (.Expr e pos) (tDrop te) := by
  intro pins s σ H D I h
  exact wpAny_Expr_any (thn (he pins s σ H _ I h) fun v s1 ⟨x, H1, I1, r1, q1⟩ => ⟨σ, H1, I1, q1⟩) I.quiet hs
def tRet (te : TE) : TS := fun D σ H => te σ H D.rt
theorem ps_ret (he : PE X e te) : PS X (.Return (some e) pos) (tRet te) := by
  intro pins s σ H D I h
  exact wpAny_Return_some (thn (he pins s σ H _ I h) fun v s1 ⟨x, H1, I1, r1, q1⟩ => ⟨x, σ, H1, I1, r1, q1⟩)
def tIfS (c : TT) (t u : TS) : TS := fun D σ H => c σ H fun b H1 => if b = true then t D σ H1 else u D σ H1
theorem ps_if {c : Expr} {a b : List Stmt} {tc : TT} (hc : PT X c tc) (ha : PSs X a t) (hb : PSs X b u) : PS X (.If c a b pos) (tIfS tc t u) := by
  intro pins s σ H D I h
  refine wpAny_If (thn (hc pins s σ H _ I h) fun d s1 ⟨H1, I1, q1⟩ => ?_)
  cases d with
  | true => exact ha pins s1 σ H1 D I1 q1
  | false => exact hb pins s1 σ H1 D I1 q1
def tNever : TS := fun _ _ _ => False
theorem ps_never : PS X st tNever := fun _ _ _ _ _ _ h => h.elim
end

abbrev TG := V → St → Hp → (St → Hp → Prop) → Prop
abbrev TGs := List V → St → Hp → (St → Hp → Prop) → Prop
def PG (X : Cx) (target : Expr) (t : TG) : Prop :=
  ∀ (pins : List (Addr × Obj)) (s : Shared) (σ : St) (H : Hp) (v : V) (u : Value) (Q : St → Hp → Prop), Inv X pins σ H s → RelV v u → t v σ H Q →
    wpAny (model X.prog X.w) X.A (assign target X.env u) (fun _ s' => ∃ σ' H', Inv X pins σ' H' s' ∧ Q σ' H') X.xe s
def PGs (X : Cx) (ts : List Expr) (t : TGs) : Prop :=
  ∀ (pins : List (Addr × Obj)) (s : Shared) (σ : St) (H : Hp) (vs : List V) (us : List Value) (Q : St → Hp → Prop), Inv X pins σ H s → Vals vs us → t vs σ H Q →
    wpAny (model X.prog X.w) X.A (assignInOrder ((assignEach ts X.env).map (·.2)) us) (fun _ s' => ∃ σ' H', Inv X pins σ' H' s' ∧ Q σ' H') X.xe s
abbrev TSet := V → V → V → Hp → (Hp → Prop) → Prop
def PSet (X : Cx) (t : TSet) : Prop :=
  ∀ (pins : List (Addr × Obj)) (s : Shared) (σ : St) (H : Hp) (o i v : V) (ov iv u : Value) (Q : Hp → Prop), Inv X pins σ H s → RelV o ov → RelV i iv → RelV v u → t o i v H Q →
    wpAny (model X.prog X.w) X.A (setItem ov iv u) (fun _ s' => ∃ H', Inv X pins σ H' s' ∧ Q H') X.xe s
abbrev TIp := V → V → Hp → VK → Prop
section
variable {X : Cx} {pos : Pos}
def gName (i : Nat) : TG := fun v σ H Q => Q (σ.set i (some v)) H
theorem pg_name {i : Nat} {x : Str} (hN : X.N.Nodup) (hi : X.N[i]? = some x) (hx : Loc X.env.scope x) (hf : X.fn x = true ∨ X.env.scope.names.lookup x = some .local := by first | exact .inl rfl | exact .inr rfl | assumption) : PG X (.Name x pos) (gName i) := by
  intro pins s σ H v u Q I r h
  exact wpAny_assign_Name (store_ok I hN hi hx r (fun s' I' => ⟨_, H, I', h⟩) hf)
def gNil : TGs := fun vs σ H Q => vs = [] ∧ Q σ H
def gCons (t : TG) (u : TGs) : TGs := fun vs σ H Q => ∃ v r, vs = v :: r ∧ t v σ H fun σ' H' => u r σ' H' Q
theorem pgs_nil : PGs X [] gNil := by
  intro pins s σ H vs us Q I r h
  obtain ⟨e, h⟩ := h
  subst e
  cases r
  exact assignInOrder_nil ⟨σ, H, I, h⟩
theorem pgs_cons {e : Expr} {es : List Expr} {t : TG} {u : TGs} (h1 : PG X e t) (h2 : PGs X es u)
    (hs : (assignEach (e :: es) X.env).map (·.2) = assign e X.env :: (assignEach es X.env).map (·.2) := by rfl) : PGs X (e :: es) (gCons t u) := by
  intro pins s σ H vs us Q I r h
  obtain ⟨v, vr, e1, h⟩ := h
  subst e1
  cases r with
  | cons r rr =>
    rw [hs]
    refine assignInOrder_cons (thn (h1 pins s σ H _ _ _ I r h) fun _ s1 ⟨σ1, H1, I1, q1⟩ => ?_)
    exact h2 pins s1 σ1 H1 _ _ Q I1 rr q1
def gTup (K : PySem.W.Frag) (n : Nat) (t : TGs) : TG := fun v σ H Q => ∃ a xs, v = .ref a ∧ SqT K H a xs ∧ xs.length = n ∧ t xs σ H Q
theorem pg_tup {es : List Expr} {k : Nat} {t : TGs} {n : Nat} (hc : X.calm = true) (h : PGs X es t)
    (hn : (assignEach es X.env).length = n := by rfl) (hst : (assignEach es X.env).findIdx? (·.1) = none := by rfl) : PG X (.Tuple es k pos) (gTup X.K n t) := by
  intro pins s σ H v u Q I r hw
  obtain ⟨a, xs, e1, hq, hl, hw⟩ := hw
  subst e1
  cases r
  obtain ⟨its, rv, ht, hz⟩ := I.tuple hq
  refine assign_Tuple_tuple (I.ok.hd hc) ht (by simp [hn, ← hl, rv.length]) hst fun h' hx => ?_
  have I1 : Inv X pins σ H { s with heap := h' } := I.kept (t' := s.toks) fun b o e => hx b o (Nat.ne_of_lt (Heap.lt_size e)) e
  exact h pins _ σ H xs _ Q I1 (by simpa using rv) hw
def gSub (to ti : TE) (t : TSet) : TG := fun v σ H Q => to σ H fun o H1 => ti σ H1 fun i H2 => t o i v H2 fun H3 => Q σ H3
theorem pg_sub {o i : Expr} {to ti : TE} {t : TSet} (ho : PE X o to) (hi : PE X i ti) (hs : PSet X t)
    (ha : ∀ v, assign (.Subscript o i pos) X.env v = (do
      let ov ← holding [v] (eval o X.env)
      let iv ← holding [v, ov] (eval i X.env)
      standAt pos
      holding [v, ov, iv] (setItem ov iv v)
      release [v, ov, iv] []) := by intro _; rfl) : PG X (.Subscript o i pos) (gSub to ti t) := by
  intro pins s σ H v u Q I r h
  rw [ha]
  refine wpAny_bind (wpAny_holding (thn (ho pins s σ H _ I h) fun ov s1 ⟨x, H1, I1, r1, q1⟩ => ?_))
  refine wpAny_bind (wpAny_holding (thn (hi pins s1 σ H1 _ I1 q1) fun iv s2 ⟨y, H2, I2, r2, q2⟩ => ?_))
  refine wpAny_bind (wpAny_standAt (wpAny_bind (wpAny_holding (thn (hs pins s2 σ H2 x y v ov iv u _ I2 r1 r2 r q2) fun _ s3 ⟨H3, I3, q3⟩ => ?_))))
  exact wpAny_release ⟨σ, H3, I3, q3⟩
def tAsg (te : TE) (g : TG) : TS := fun D σ H => te σ H fun x H1 => g x σ H1 D.nx
theorem ps_asg {tg e : Expr} {te : TE} {g : TG} (he : PE X e te) (hg : PG X tg g) (hs : swapsWithSole [tg] e pos.line X.env = pure false := by rfl) (hw : swappedStores [tg] e X.env = pure none := by rfl)
    (h1 : (assignEach [tg] X.env).map (·.2) = [assign tg X.env] := by rfl) : PS X (.Assign [tg] e pos) (tAsg te g) := by
  intro pins s σ H D I h
  refine wpAny_Assign_stores (thn (he pins s σ H _ I h) fun v s1 ⟨x, H1, I1, r1, q1⟩ => ?_) hs hw
  rw [h1]
  exact thn (hg pins s1 σ H1 x v _ I1 r1 q1) fun _ s2 q => q
theorem ps_set {i : Nat} {x : Str} {e : Expr} {te : TE} {pos' : Pos} (hN : X.N.Nodup) (hi : X.N[i]? = some x) (hx : Loc X.env.scope x) (he : PE X e te) (hs : swapsWith e (some (.Name x pos')) pos.line X.env = pure false := by rfl) (hf : X.fn x = true ∨ X.env.scope.names.lookup x = some .local := by first | exact .inl rfl | exact .inr rfl | assumption) :
    PS X (.Assign [.Name x pos'] e pos) (tAsg te (gName i)) := by
  intro pins s σ H D I h
  refine wpAny_Assign_Name (thn (he pins s σ H _ I h) fun v s1 ⟨y, H1, I1, r1, q1⟩ => ?_) hs
  exact store_ok I1 hN hi hx r1 (fun s2 I2 => ⟨_, H1, I2, q1⟩) hf
end

section
variable {X : Cx} {pos : Pos}
end

structure It where
  go : Nat → Hp → Prop
  yld : Nat → Hp → V → Hp → Prop
  stop : Nat → Hp → Prop
def FpOk (X : Cx) (pins : List (Addr × Obj)) (H : Hp) (b : Addr) : Prop :=
  H b = none ∧ b ≠ X.env.locals ∧ b ∉ X.fs ∧ (b ∈ X.ex ∨ X.s₀.heap.objs.size ≤ b) ∧ (∀ x c, X.env.cells.lookup x = some c → c ≠ b) ∧ ∀ p ∈ X.pn ++ pins, p.1 ≠ b
theorem Inv.fpOk {X : Cx} {pins : List (Addr × Obj)} {σ : St} {H H' : Hp} {s : Shared} {b : Addr} (I : Inv X pins σ H s) (hb : s.heap.objs.size ≤ b) (hn : H' b = none) : FpOk X pins H' b := by
  refine ⟨hn, Nat.ne_of_gt (Nat.lt_of_lt_of_le I.lt hb), I.nofs hb, .inr (Nat.le_trans I.sz hb), fun x c e z => ?_, fun p hp z => ?_⟩
  · obtain ⟨v, q⟩ := I.cell x c e
    exact absurd (Nat.lt_of_lt_of_le q.lt (by rw [z]; exact hb)) (Nat.lt_irrefl _)
  · exact absurd (Nat.lt_of_lt_of_le (Heap.lt_size (I.pin p hp).1) (by rw [z]; exact hb)) (Nat.lt_irrefl _)
structure Turn (P : Program) (w : World) (K : PySem.W.Frag) (tg : Expr) (J : It) (fp : List Addr) (it : Addr) (tn : Nat → Heap → Prop) : Prop where
  mem : it ∈ fp
  obj : ∀ i h, tn i h → ∀ b ∈ fp, ∃ o, h.get? b = some o ∧ ∀ v, o.data ≠ .cell v
  keep : ∀ i h h', tn i h → (∀ b ∈ fp, ∀ o, h.get? b = some o → h'.get? b = some o) → tn i h'
  item : ∀ (X : Cx), X.prog = P → X.w = w → X.K = K → X.calm = true → ∀ (i : Nat) (pins : List (Addr × Obj)) (s : Shared) (σ : St) (H : Hp) (E : Value → Shared → Prop), Inv X pins σ H s → (∀ b ∈ fp, FpOk X pins H b) → tn i s.heap → J.go i H →
    wpAny (model P w) X.A (pyNext (.ref it)) (fun r s1 => ∃ u, r = some u ∧
      wpAny (model P w) X.A (letOwnedTupleGo tg (.ref it) u) (fun _ s2 => ∃ x H', Inv X pins σ H' s2 ∧ RelV x u ∧ J.yld i H x H' ∧ tn (i + 1) s2.heap ∧ ∀ b ∈ fp, H' b = none) E s1) E s
  done : ∀ (X : Cx), X.prog = P → X.w = w → X.K = K → X.calm = true → ∀ (i : Nat) (pins : List (Addr × Obj)) (s : Shared) (σ : St) (H : Hp) (E : Value → Shared → Prop), Inv X pins σ H s → (∀ b ∈ fp, FpOk X pins H b) → tn i s.heap → J.stop i H →
    wpAny (model P w) X.A (pyNext (.ref it)) (fun r s1 => r = none ∧ Inv X pins σ H s1) E s
  self : ∀ (A : Around) (i : Nat) (s : Shared) (Q : Value → Shared → Prop) (E : Value → Shared → Prop), tn i s.heap → Q (.ref it) s → wpAny (model P w) A (pyIter (.ref it)) Q E s
abbrev TI := St → Hp → (It → Hp → Prop) → Prop
def PIE (X : Cx) (pins : List (Addr × Obj)) (σ : St) (tg : Expr) (R : It → Hp → Prop) (itv : Value) (s2 : Shared) : Prop :=
  ∃ (it : Addr) (fp : List Addr) (tn : Nat → Heap → Prop) (J : It) (H' : Hp), itv = .ref it ∧ Inv X pins σ H' s2 ∧ Turn X.prog X.w X.K tg J fp it tn ∧ tn 0 s2.heap ∧ (∀ b ∈ fp, FpOk X pins H' b) ∧ R J H'
def PI (X : Cx) (tg iter : Expr) (wi : TI) : Prop :=
  ∀ (pins : List (Addr × Obj)) (s : Shared) (σ : St) (H : Hp) (R : It → Hp → Prop), Inv X pins σ H s → wi σ H R →
    wpAny (model X.prog X.w) X.A (eval iter X.env) (fun v s1 => wpAny (model X.prog X.w) X.A (pyIter v) (PIE X pins σ tg R) X.xe s1) X.xe s

theorem go_of {M : Model} {A : Around} {E : Value → Shared → Prop} {s : Shared} {tg : Expr} {it : Addr} {u : Value} {o : Obj} {n : String} {vs : Array Value} {Q : Unit → Shared → Prop} (ho : s.heap.get? it = some o) (hc : o.cls = .type n) (hd : o.data = .fields vs)
    (hn : ["enumerate", "zip", "dict_itemiterator", "dict_reverseitemiterator", "odict_iterator", "itertools.zip_longest", "itertools.pairwise"].contains n = false) (hQ : Q () s) : wpAny M A (letOwnedTupleGo tg (.ref it) u) Q E s := by
  unfold letOwnedTupleGo
  cases tg <;> first
    | exact wpAny_pure hQ
    | (cases u <;> first
        | exact wpAny_pure hQ
        | (refine wpAny_bind (wpAny_load ho ?_)
           rw [hc, hd]
           show wpAny M A (if (["enumerate", "zip", "dict_itemiterator", "dict_reverseitemiterator", "odict_iterator", "itertools.zip_longest", "itertools.pairwise"].contains n && vs[0]? == some (rawInt _)) = true then _ else _) Q E s
           rw [if_neg (by intro h; rw [hn, Bool.false_and] at h; cases h)]
           exact wpAny_pure hQ))

def Itl (K : PySem.W.Frag) (a : Addr) : It :=
  ⟨fun i H => ∃ xs x, SqL K H a xs ∧ xs[i]? = some x, fun i H x H' => H' = H ∧ ∀ xs, SqL K H a xs → xs[i]? = some x, fun i H => ∃ xs, SqL K H a xs ∧ xs.length ≤ i⟩
def Itt (K : PySem.W.Frag) (a : Addr) : It :=
  ⟨fun i H => ∃ xs x, SqT K H a xs ∧ xs[i]? = some x, fun i H x H' => H' = H ∧ ∀ xs, SqT K H a xs → xs[i]? = some x, fun i H => ∃ xs, SqT K H a xs ∧ xs.length ≤ i⟩
def Itr (lo : Int) (n : Nat) : It := ⟨fun i _ => i < n, fun i H x H' => H' = H ∧ x = .int (lo + i), fun i _ => n ≤ i⟩
theorem turn_list {P : Program} {w : World} {K : PySem.W.Frag} {tg : Expr} (a it : Addr) : Turn P w K tg (Itl K a) [it] it (fun i h => h.IsListIter it a i) where
  mem := by simp
  obj := fun i h st b hb => by
    have e : b = it := by simpa using hb
    subst e
    obtain ⟨o, e, c, d⟩ := st
    exact ⟨o, e, fun v z => by rw [d] at z; cases z⟩
  keep := fun i h h' st k => st.at fun o e => k it (by simp) o e
  item := by
    intro X hP hw hK hc i pins s σ H E I hf st hg
    subst hP hw hK
    obtain ⟨xs, x, hq, hx⟩ := hg
    obtain ⟨its, rv, p, hz⟩ := I.list hq
    obtain ⟨u, hu, ru⟩ := rv.get hx
    obtain ⟨f0, f1, f2, f3, f4, f5⟩ := hf it (by simp)
    refine wpAny_pyNext_list_item st p.isList (x := u) (by simpa using hu) fun h' st' sb => ?_
    have I1 : Inv X pins σ H { s with heap := h' } := I.turned (t' := s.toks) (fun b o hb e => (sb.2 b hb).trans e) f0 f1 f3 f4 f5
    obtain ⟨o, e, c, d⟩ := id st'
    exact ⟨u, rfl, go_of (s := { s with heap := h' }) e c d (by decide) ⟨x, H, I1, ru, ⟨rfl, fun ys hy => by rw [I.list_inj hy hq]; exact hx⟩, st', fun b hb => (hf b hb).1⟩⟩
  done := by
    intro X hP hw hK hc i pins s σ H E I hf st hg
    subst hP hw hK
    obtain ⟨xs, hq, hx⟩ := hg
    obtain ⟨its, rv, p, hz⟩ := I.list hq
    obtain ⟨f0, f1, f2, f3, f4, f5⟩ := hf it (by simp)
    have hl := rv.length
    exact wpAny_pyNext_list_end (I.ok.hd hc) st p.isList (by simp; omega) fun h' eb => ⟨rfl, I.turned (t' := s.toks) (fun b o hb e => eb b o hb e) f0 f1 f3 f4 f5⟩
  self := fun _ _ _ _ _ st h => wpAny_pyIter_listiter st h
theorem turn_tuple {P : Program} {w : World} {K : PySem.W.Frag} {tg : Expr} (a it : Addr) : Turn P w K tg (Itt K a) [it] it (fun i h => h.IsTupleIter it a i) where
  mem := by simp
  obj := fun i h st b hb => by
    have e : b = it := by simpa using hb
    subst e
    obtain ⟨o, e, c, d⟩ := st
    exact ⟨o, e, fun v z => by rw [d] at z; cases z⟩
  keep := fun i h h' st k => st.at fun o e => k it (by simp) o e
  item := by
    intro X hP hw hK hc i pins s σ H E I hf st hg
    subst hP hw hK
    obtain ⟨xs, x, hq, hx⟩ := hg
    obtain ⟨its, rv, p, hz⟩ := I.tuple hq
    obtain ⟨u, hu, ru⟩ := rv.get hx
    obtain ⟨f0, f1, f2, f3, f4, f5⟩ := hf it (by simp)
    refine wpAny_pyNext_tuple_item st (show s.heap.IsTuple a its.toArray from p) (x := u) (by simpa using hu) fun h' st' sb => ?_
    have I1 : Inv X pins σ H { s with heap := h' } := I.turned (t' := s.toks) (fun b o hb e => (sb.2 b hb).trans e) f0 f1 f3 f4 f5
    obtain ⟨o, e, c, d⟩ := id st'
    exact ⟨u, rfl, go_of (s := { s with heap := h' }) e c d (by decide) ⟨x, H, I1, ru, ⟨rfl, fun ys hy => by rw [I.tuple_inj hy hq]; exact hx⟩, st', fun b hb => (hf b hb).1⟩⟩
  done := by
    intro X hP hw hK hc i pins s σ H E I hf st hg
    subst hP hw hK
    obtain ⟨xs, hq, hx⟩ := hg
    obtain ⟨its, rv, p, hz⟩ := I.tuple hq
    obtain ⟨f0, f1, f2, f3, f4, f5⟩ := hf it (by simp)
    have hl := rv.length
    exact wpAny_pyNext_tuple_end (I.ok.hd hc) st (show s.heap.IsTuple a its.toArray from p) (by simp; omega) fun h' eb => ⟨rfl, I.turned (t' := s.toks) (fun b o hb e => eb b o hb e) f0 f1 f3 f4 f5⟩
  self := fun _ _ _ _ _ st h => wpAny_pyIter_tupleiter st h
theorem turn_range {P : Program} {w : World} {K : PySem.W.Frag} {tg : Expr} (it : Addr) (lo : Int) (n : Nat) : Turn P w K tg (Itr lo n) [it] it (fun i h => IsRangeIter h it (lo + (i : Nat) * 1) ((n : Int) - (i : Nat)) 1) where
  mem := by simp
  obj := fun i h st b hb => by
    have e : b = it := by simpa using hb
    subst e
    exact ⟨_, st, fun v z => by
      have z' : Data.fields _ = Data.cell v := z
      cases z'⟩
  keep := fun i h h' st k => k it (by simp) _ st
  item := by
    intro X hP hw hK hc i pins s σ H E I hf st hg
    subst hP hw hK
    obtain ⟨f0, f1, f2, f3, f4, f5⟩ := hf it (by simp)
    have W := Walks.range (prog := X.prog) (w := X.w) (I.ok.hd hc) it lo 1 n
    refine W.item i s _ _ hg st fun v h' tk hv st' kk => ?_
    obtain ⟨t, rfl⟩ := hv
    have I1 : Inv X pins σ H { s with heap := h', toks := tk } := I.turned (fun b o hb e => kk b o (by simpa using hb) e) f0 f1 f3 f4 f5
    refine ⟨_, rfl, go_of (s := { s with heap := h', toks := tk }) (n := "range_iterator") st' rfl rfl (by decide) ⟨.int (lo + i), H, I1, ⟨t, ?_⟩, ⟨rfl, rfl⟩, st', fun b hb => (hf b hb).1⟩⟩
    rw [Int.mul_one]
  done := by
    intro X hP hw hK hc i pins s σ H E I hf st hg
    subst hP hw hK
    obtain ⟨f0, f1, f2, f3, f4, f5⟩ := hf it (by simp)
    exact wpAny_pyNext_range_end (I.ok.hd hc) st (by have : n ≤ i := hg; omega) fun h' eb => ⟨rfl, I.turned (t' := s.toks) (fun b o hb e => eb b o hb e) f0 f1 f3 f4 f5⟩
  self := fun _ _ _ _ _ st h => wpAny_pyIter_rangeiter st h
end L2

namespace L2
open PySem PySem.Spec PyProof.Rows
section
variable {X : Cx} {tg : Expr}
def iList (K : PySem.W.Frag) (tl : TE) : TI := fun σ H R => tl σ H fun x H1 => ∃ a, x = .ref a ∧ (∃ xs, SqL K H1 a xs) ∧ R (Itl K a) H1
def iTup (K : PySem.W.Frag) (tl : TE) : TI := fun σ H R => tl σ H fun x H1 => ∃ a, x = .ref a ∧ (∃ xs, SqT K H1 a xs) ∧ R (Itt K a) H1
theorem pi_list {l : Expr} {tl : TE} (hl : PE X l tl) : PI X tg l (iList X.K tl) := by
  intro pins s σ H R I h
  refine thn (hl pins s σ H _ I h) fun v s1 ⟨x, H1, I1, r1, q1⟩ => ?_
  obtain ⟨a, e, ⟨xs, hq⟩, q⟩ := q1
  subst e
  cases r1
  obtain ⟨its, rv, p, hz⟩ := I1.list hq
  refine wpAny_pyIter_list p.isList ?_
  refine ⟨s1.heap.objs.size, [s1.heap.objs.size], _, _, H1, rfl, I1.kept (t' := s1.toks) fun b o e => Heap.get?_push_of_some _ e, turn_list a _, ⟨_, Heap.get?_push_size _ rfl, rfl, rfl⟩, fun b hb => ?_, q⟩
  have e : b = s1.heap.objs.size := by simpa using hb
  subst e
  exact I1.fpOk (Nat.le_refl _) (I1.hok.fresh (Nat.le_refl _))
theorem pi_tup {l : Expr} {tl : TE} (hl : PE X l tl) : PI X tg l (iTup X.K tl) := by
  intro pins s σ H R I h
  refine thn (hl pins s σ H _ I h) fun v s1 ⟨x, H1, I1, r1, q1⟩ => ?_
  obtain ⟨a, e, ⟨xs, hq⟩, q⟩ := q1
  subst e
  cases r1
  obtain ⟨its, rv, p, hz⟩ := I1.tuple hq
  refine wpAny_pyIter_tuple (show s1.heap.IsTuple a its.toArray from p) ?_
  refine ⟨s1.heap.objs.size, [s1.heap.objs.size], _, _, H1, rfl, I1.kept (t' := s1.toks) fun b o e => Heap.get?_push_of_some _ e, turn_tuple a _, ⟨_, Heap.get?_push_size _ rfl, rfl, rfl⟩, fun b hb => ?_, q⟩
  have e : b = s1.heap.objs.size := by simpa using hb
  subst e
  exact I1.fpOk (Nat.le_refl _) (I1.hok.fresh (Nat.le_refl _))
theorem range_it {pins : List (Addr × Obj)} {σ : St} {H : Hp} {s : Shared} {R : It → Hp → Prop} {E : Value → Shared → Prop} {lo hi : Int} {t u v : Tok} {tk : Nat} (I : Inv X pins σ H s) (h1 : -(2 ^ 62) ≤ lo) (h2 : lo < 2 ^ 62) (h3 : -(2 ^ 62) ≤ hi) (h4 : hi < 2 ^ 62)
    (q : R (Itr lo (hi - lo).toNat) H) : wpAny (model X.prog X.w) X.A (pyIter (.ref s.heap.objs.size)) (PIE X pins σ tg R) E { s with heap := s.heap.push { cls := .type "range", data := .fields #[.int lo t, .int hi u, .int 1 v] }, toks := tk } := by
  refine wpAny_pyIter_range (IsRange.new ..) (small_one h1 h2 h3 h4) ?_
  have I1 : Inv X pins σ H { s with heap := s.heap.push { cls := .type "range", data := .fields #[.int lo t, .int hi u, .int 1 v] }, toks := tk } := I.kept fun b o e => Heap.get?_push_of_some _ e
  refine ⟨(s.heap.push { cls := .type "range", data := .fields #[.int lo t, .int hi u, .int 1 v] }).objs.size, [(s.heap.push { cls := .type "range", data := .fields #[.int lo t, .int hi u, .int 1 v] }).objs.size], _, _, H, rfl,
    I1.kept (t' := tk) fun b o e => Heap.get?_push_of_some _ e, turn_range _ lo (hi - lo).toNat, ?_, fun b hb => ?_, q⟩
  · have e1 : lo + ((0 : Nat) : Int) * 1 = lo := by simp
    have e2 : (((hi - lo).toNat : Nat) : Int) - ((0 : Nat) : Int) = Builtin.Range.rangeSize lo hi 1 := by rw [rangeSize_one]; split <;> omega
    show IsRangeIter _ _ (lo + ((0 : Nat) : Int) * 1) ((((hi - lo).toNat : Nat) : Int) - ((0 : Nat) : Int)) 1
    rw [e1, e2]
    exact Heap.get?_push_size _ rfl
  · have e : b = (s.heap.push { cls := .type "range", data := .fields #[.int lo t, .int hi u, .int 1 v] }).objs.size := by simpa using hb
    subst e
    exact I1.fpOk (Nat.le_refl _) (I1.hok.fresh (Nat.le_refl _))
def iRng1 (ta : TA) : TI := fun σ H R => ta σ H fun vs H1 => ∃ j : Int, vs = [.int j] ∧ -(2 ^ 62) ≤ j ∧ j < 2 ^ 62 ∧ R (Itr 0 j.toNat) H1
theorem pi_range1 {a : Expr} {ta : TA} {p pos : Pos} (hg : Gl X "range") (hm : X.mg "range" = none) (ha : PA X [a] ta) (hs : starEach [a] X.env = [(false, eval a X.env)] := by rfl) : PI X tg (.Call (.Name "range" p) [a] [] pos) (iRng1 ta) := by
  intro pins s σ H R I h
  refine Call_ (ld_blt I hg hm boot_range (PyProof.Rows.callWith_type1 (thn (ha pos pins s σ H _ I h) fun us s1 ⟨vs, H1, I1, r1, q1⟩ => ?_) hs rfl))
  obtain ⟨j, e, q1, q2, q⟩ := q1
  subst e
  cases r1 with
  | cons r rr =>
    cases rr
    obtain ⟨t, rfl⟩ := r
    exact call_range_1 (range_it I1 (by omega) (by omega) q1 q2 (by simpa using q))
def tFor (wi : TI) (g : TG) (tb : TS) : TS := fun D σ H => wi σ H fun J H1 => ∃ W : Nat → Nat → St → Hp → Prop, (∃ m, W 0 m σ H1) ∧ ∀ i m σ H, W i m σ H →
  (J.stop i H ∧ D.nx σ H) ∨ (J.go i H ∧ ∃ N : St → Hp → Prop, (∀ σ' H', N σ' H' → ∃ m', m' < m ∧ W (i + 1) m' σ' H') ∧ ∀ x H', J.yld i H x H' → g x σ H' fun σ2 H2 => tb { D with nx := N, ct := N, bk := D.nx } σ2 H2)
def pinsAt (fp : List Addr) (h : Heap) : List (Addr × Obj) := fp.filterMap fun b => (h.get? b).map fun o => (b, o)
theorem mem_pinsAt {fp : List Addr} {h : Heap} {b : Addr} {o : Obj} (hb : b ∈ fp) (e : h.get? b = some o) : (b, o) ∈ pinsAt fp h := List.mem_filterMap.mpr ⟨b, hb, by rw [e]; rfl⟩
theorem of_pinsAt {fp : List Addr} {h : Heap} {p : Addr × Obj} (hp : p ∈ pinsAt fp h) : p.1 ∈ fp ∧ h.get? p.1 = some p.2 := by
  obtain ⟨b, hb, e⟩ := List.mem_filterMap.mp hp
  cases q : h.get? b with
  | none => rw [q] at e; cases e
  | some o =>
    rw [q] at e
    have e' : (b, o) = p := Option.some.inj e
    subst e'
    exact ⟨hb, q⟩
theorem Inv.pinned {pins : List (Addr × Obj)} {σ : St} {H : Hp} {s : Shared} {fp : List Addr} (I : Inv X pins σ H s) (hf : ∀ b ∈ fp, FpOk X pins H b) (ho : ∀ b ∈ fp, ∃ o, s.heap.get? b = some o ∧ ∀ v, o.data ≠ .cell v) : Inv X (pins ++ pinsAt fp s.heap) σ H s :=
  I.pins_of fun p hp => (List.mem_append.mp hp).elim (fun z => I.pin p (List.mem_append_right _ z)) fun z => by
    obtain ⟨hb, e⟩ := of_pinsAt z
    obtain ⟨f0, f1, f2, _⟩ := hf p.1 hb
    obtain ⟨o, e', d⟩ := ho p.1 hb
    rw [e] at e'; cases e'
    exact ⟨e, f0, f1, f2, d⟩
theorem Inv.unpinned {pins pl : List (Addr × Obj)} {σ : St} {H : Hp} {s : Shared} (I : Inv X (pins ++ pl) σ H s) : Inv X pins σ H s := I.pins_of fun p hp => I.pin p (List.mem_append_right _ (List.mem_append_left _ hp))
theorem ps_for {iter : Expr} {body : List Stmt} {wi : TI} {g : TG} {tb : TS} {pos : Pos} (hp : PassesOwn (model X.prog X.w) X.A X.env X.xe) (hc : X.calm = true) (hi : PI X tg iter wi) (hg : PG X tg g) (hb : PSs X body tb)
    (hs : ∀ x, foldedSetIterable iter X.env x = pure x := by intro _; rfl) : PS X (.For tg iter body [] pos) (tFor wi g tb) := by
  intro pins s σ H D I h
  refine wpAny_For (thn (hi pins s σ H _ I h) fun v s1 h1 => thn h1 fun itv s2 h2 => ?_) hs
  obtain ⟨it, fp, tn, J, H2, e, I2, T, st2, f2, W, ⟨m0, w0⟩, turn⟩ := h2
  subst e
  -- what stays true of the iterator's objects through the loop
  have stat : ∀ {H' : Hp}, (∀ b ∈ fp, H' b = none) → ∀ b ∈ fp, FpOk X pins H' b := fun hn b hb => ⟨hn b hb, (f2 b hb).2⟩
  refine codeAny_forLoop_any (fun n s' => ∃ i σ' H', Inv X pins σ' H' s' ∧ tn i s'.heap ∧ (∀ b ∈ fp, H' b = none) ∧ W i n σ' H') ?_ m0 ⟨0, σ, H2, I2, st2, fun b hb => (f2 b hb).1, w0⟩
  rintro n s3 ⟨i, σ3, H3, I3, st3, fr3, w3⟩
  rcases turn i n σ3 H3 w3 with ⟨stop, qn⟩ | ⟨go, N, hN, step⟩
  · refine wpAny_passesOwn hp (thn (T.done X rfl rfl rfl hc i pins s3 σ3 H3 X.xe I3 (stat fr3) st3 stop) fun r s4 ⟨hr, I4⟩ => ?_)
    subst hr
    exact wpAny_execs_nil ⟨σ3, H3, I4, qn⟩
  · refine wpAny_passesOwn hp (thn (T.item X rfl rfl rfl hc i pins s3 σ3 H3 X.xe I3 (stat fr3) st3 go) fun r s4 ⟨u, hr, h4⟩ => ?_)
    subst hr
    refine wpAny_passesOwn hp (thn h4 fun _ s5 ⟨x, H5, I5, r5, y5, st5, fr5⟩ => ?_)
    have I5' := I5.pinned (stat fr5) (T.obj _ _ st5)
    refine wpAny_passesOwn hp (thn (hg _ s5 σ3 H5 x u _ I5' r5 (step x H5 y5)) fun _ s6 ⟨σ6, H6, I6, q6⟩ => ?_)
    refine wpAny_passesOwn hp (thn (hb _ s6 σ6 H6 _ I6 q6) fun f s7 q7 => ?_)
    have again : ∀ {σ7 : St} {H7 : Hp}, Inv X (pins ++ pinsAt fp s5.heap) σ7 H7 s7 → N σ7 H7 → ∃ m, m < n ∧ ∃ i σ' H', Inv X pins σ' H' s7 ∧ tn i s7.heap ∧ (∀ b ∈ fp, H' b = none) ∧ W i m σ' H' := fun {σ7 H7} I7 n7 => by
      obtain ⟨m', hm, w7⟩ := hN σ7 H7 n7
      refine ⟨m', hm, i + 1, σ7, H7, I7.unpinned, T.keep _ _ _ st5 fun b hb o e => (I7.pin (b, o) (List.mem_append_right _ (List.mem_append_right _ (mem_pinsAt hb e)))).1, fun b hb => ?_, w7⟩
      obtain ⟨o, e, d⟩ := T.obj _ _ st5 b hb
      exact (I7.pin (b, o) (List.mem_append_right _ (List.mem_append_right _ (mem_pinsAt hb e)))).2.1
    cases f with
    | next => obtain ⟨σ7, H7, I7, n7⟩ := q7; exact again I7 n7
    | cont => obtain ⟨σ7, H7, I7, n7⟩ := q7; exact again I7 n7
    | brk => obtain ⟨σ7, H7, I7, q7⟩ := q7; exact ⟨σ7, H7, I7.unpinned, q7⟩
    | ret v => obtain ⟨x7, σ7, H7, I7, r7, q7⟩ := q7; exact ⟨x7, σ7, H7, I7.unpinned, r7, q7⟩
end

theorem for_list {K : PySem.W.Frag} {a : Addr} {xs : List V} {g : TG} {tb : TS} {D : Ends} {σ : St} {H : Hp} (Pv : Nat → St → Hp → Prop) (h0 : Pv 0 σ H) (hl : ∀ i σ H, i ≤ xs.length → Pv i σ H → SqL K H a xs)
    (hs : ∀ i x σ H, xs[i]? = some x → Pv i σ H → g x σ H fun σ2 H2 => tb { D with nx := Pv (i + 1), ct := Pv (i + 1), bk := D.nx } σ2 H2) (hd : ∀ σ H, Pv xs.length σ H → D.nx σ H) :
    ∃ W : Nat → Nat → St → Hp → Prop, (∃ m, W 0 m σ H) ∧ ∀ i m σ H, W i m σ H →
      ((Itl K a).stop i H ∧ D.nx σ H) ∨ ((Itl K a).go i H ∧ ∃ N : St → Hp → Prop, (∀ σ' H', N σ' H' → ∃ m', m' < m ∧ W (i + 1) m' σ' H') ∧ ∀ x H', (Itl K a).yld i H x H' → g x σ H' fun σ2 H2 => tb { D with nx := N, ct := N, bk := D.nx } σ2 H2) := by
  refine ⟨fun i m σ H => m = xs.length - i ∧ i ≤ xs.length ∧ Pv i σ H, ⟨xs.length, by simp, Nat.zero_le _, h0⟩, ?_⟩
  rintro i m σ H ⟨rfl, hi, p⟩
  have q := hl i σ H hi p
  by_cases hlt : i < xs.length
  · refine .inr ⟨⟨xs, xs[i], q, by simp [hlt]⟩, Pv (i + 1), fun σ' H' p' => ⟨xs.length - (i + 1), by omega, rfl, hlt, p'⟩, fun x H' y => ?_⟩
    obtain ⟨e, y⟩ := y
    subst e
    exact hs i x σ _ (y xs q) p
  · have e : i = xs.length := by omega
    subst e
    exact .inl ⟨⟨xs, q, Nat.le_refl _⟩, hd σ H p⟩
theorem for_range {lo : Int} {n : Nat} {g : TG} {tb : TS} {D : Ends} {σ : St} {H : Hp} (Pv : Nat → St → Hp → Prop) (h0 : Pv 0 σ H)
    (hs : ∀ i σ H, i < n → Pv i σ H → g (.int (lo + i)) σ H fun σ2 H2 => tb { D with nx := Pv (i + 1), ct := Pv (i + 1), bk := D.nx } σ2 H2) (hd : ∀ σ H, Pv n σ H → D.nx σ H) :
    ∃ W : Nat → Nat → St → Hp → Prop, (∃ m, W 0 m σ H) ∧ ∀ i m σ H, W i m σ H →
      ((Itr lo n).stop i H ∧ D.nx σ H) ∨ ((Itr lo n).go i H ∧ ∃ N : St → Hp → Prop, (∀ σ' H', N σ' H' → ∃ m', m' < m ∧ W (i + 1) m' σ' H') ∧ ∀ x H', (Itr lo n).yld i H x H' → g x σ H' fun σ2 H2 => tb { D with nx := N, ct := N, bk := D.nx } σ2 H2) := by
  refine ⟨fun i m σ H => m = n - i ∧ i ≤ n ∧ Pv i σ H, ⟨n, by simp, Nat.zero_le _, h0⟩, ?_⟩
  rintro i m σ H ⟨rfl, hi, p⟩
  by_cases hlt : i < n
  · refine .inr ⟨hlt, Pv (i + 1), fun σ' H' p' => ⟨n - (i + 1), by omega, rfl, hlt, p'⟩, fun x H' y => ?_⟩
    obtain ⟨e, y⟩ := y
    subst e y
    exact hs i σ _ hlt p
  · have e : i = n := by omega
    subst e
    exact .inl ⟨Nat.le_refl _, hd σ H p⟩
end L2

namespace L2
open PySem PySem.Spec PyProof.Rows

abbrev R2 := V → V → Hp → VK → Prop
def OpR (X : Cx) (f : Value → Value → Sem Value) (r : R2) : Prop :=
  ∀ (pins : List (Addr × Obj)) (s : Shared) (σ : St) (H : Hp) (x y : V) (v u : Value) (Q : VK), Inv X pins σ H s → RelV x v → RelV y u → r x y H Q →
    wpAny (model X.prog X.w) X.A (f v u) (EP X pins σ Q) X.xe s
def UnR (X : Cx) (f : Value → Sem Value) (r : V → Hp → VK → Prop) : Prop :=
  ∀ (pins : List (Addr × Obj)) (s : Shared) (σ : St) (H : Hp) (x : V) (v : Value) (Q : VK), Inv X pins σ H s → RelV x v → r x H Q →
    wpAny (model X.prog X.w) X.A (f v) (EP X pins σ Q) X.xe s
def CallR (X : Cx) (f : Value) (r : List V → Hp → VK → Prop) : Prop :=
  ∀ (pins : List (Addr × Obj)) (s : Shared) (σ : St) (H : Hp) (xs : List V) (us : List Value) (Q : VK), Inv X pins σ H s → Vals xs us → r xs H Q →
    wpAny (model X.prog X.w) X.A (call f us) (EP X pins σ Q) X.xe s
def tOp (r : R2) (ta tb : TE) : TE := fun σ H Q => ta σ H fun x H1 => tb σ H1 fun y H2 => r x y H2 Q
def tUn (r : V → Hp → VK → Prop) (ta : TE) : TE := fun σ H Q => ta σ H fun x H1 => r x H1 Q
def rI (C : Int → Int → Prop) (g : Int → Int → V) : R2 := fun x y H Q => ∃ i j, x = .int i ∧ y = .int j ∧ C i j ∧ Q (g i j) H
def rI0 (g : Int → Int → V) : R2 := fun x y H Q => ∃ i j, x = .int i ∧ y = .int j ∧ Q (g i j) H
def rU (g : Int → V) : V → Hp → VK → Prop := fun x H Q => ∃ i, x = .int i ∧ Q (g i) H

section
variable {X : Cx} {a b c : Expr} {ta tb tc : TE} {pos : Pos}

theorem binT (ha : PE X a ta) (hb : PE X b tb) {pins : List (Addr × Obj)} {s : Shared} {σ : St} {H : Hp} {R : V → V → Hp → Prop} (I : Inv X pins σ H s)
    (h : ta σ H fun x H1 => tb σ H1 fun y H2 => R x y H2) {Q : Value → Shared → Prop} {f : Value → Value → Sem Value}
    (hf : ∀ v u s2 x y H2, Inv X pins σ H2 s2 → RelV x v → RelV y u → R x y H2 → wpAny (model X.prog X.w) X.A (f v u) Q X.xe s2) :
    wpAny (model X.prog X.w) X.A (eval a X.env) (fun v s₁ => wpAny (model X.prog X.w) X.A (eval b X.env) (fun u s₂ => wpAny (model X.prog X.w) X.A (f v u) Q X.xe s₂) X.xe s₁) X.xe s := by
  refine thn (ha pins s σ H _ I h) fun v s1 ⟨x, H1, I1, r1, q1⟩ => ?_
  refine thn (hb pins s1 σ H1 _ I1 q1) fun u s2 ⟨y, H2, I2, r2, q2⟩ => ?_
  exact hf v u s2 x y H2 I2 r1 r2 q2

theorem pe_op {op : Operator} {r : R2} (ho : OpR X (binaryOp op) r) (ha : PE X a ta) (hb : PE X b tb) : PE X (.BinOp a op b pos) (tOp r ta tb) := by
  intro pins s σ H Q I h
  exact wpAny_BinOp (binT ha hb I h fun v u s2 x y H2 I2 rx ry q => ho pins s2 σ H2 x y v u Q I2 rx ry q)
theorem pe_un {op : UnaryOp} {r : V → Hp → VK → Prop} (ho : UnR X (unaryOp op) r) (ha : PE X a ta) : PE X (.UnaryOp op a pos) (tUn r ta) := by
  intro pins s σ H Q I h
  exact UnaryOp_ (thn (ha pins s σ H _ I h) fun v s1 ⟨x, H1, I1, r1, q1⟩ => ho pins s1 σ H1 x v Q I1 r1 q1)
theorem opI {f : Value → Value → Sem Value} {C : Int → Int → Prop} {g : Int → Int → Int}
    (rule : ∀ (i j : Int) (t u : Tok) (s : Shared) (Q : Value → Shared → Prop) (E : Value → Shared → Prop), C i j → Q (.int (g i j) s.toks) { s with toks := s.toks + 1 } → wpAny (model X.prog X.w) X.A (f (.int i t) (.int j u)) Q E s) :
    OpR X f (rI C fun i j => .int (g i j)) := by
  intro pins s σ H x y v u Q I rx ry h
  obtain ⟨i, j, rfl, rfl, hc, q⟩ := h
  obtain ⟨t, rfl⟩ := rx
  obtain ⟨t', rfl⟩ := ry
  exact rule i j t t' s _ _ hc ⟨.int (g i j), H, I.tok _, ⟨_, rfl⟩, q⟩
theorem opI0 {f : Value → Value → Sem Value} {g : Int → Int → Int}
    (rule : ∀ (i j : Int) (t u : Tok) (s : Shared) (Q : Value → Shared → Prop) (E : Value → Shared → Prop), Q (.int (g i j) s.toks) { s with toks := s.toks + 1 } → wpAny (model X.prog X.w) X.A (f (.int i t) (.int j u)) Q E s) :
    OpR X f (rI0 fun i j => .int (g i j)) := by
  intro pins s σ H x y v u Q I rx ry h
  obtain ⟨i, j, rfl, rfl, q⟩ := h
  obtain ⟨t, rfl⟩ := rx
  obtain ⟨t', rfl⟩ := ry
  exact rule i j t t' s _ _ ⟨.int (g i j), H, I.tok _, ⟨_, rfl⟩, q⟩
theorem opB0 {f : Value → Value → Sem Value} {g : Int → Int → Bool}
    (rule : ∀ (i j : Int) (t u : Tok) (s : Shared) (Q : Value → Shared → Prop) (E : Value → Shared → Prop), Q (.bool (g i j)) s → wpAny (model X.prog X.w) X.A (f (.int i t) (.int j u)) Q E s) :
    OpR X f (rI0 fun i j => .bl (g i j)) := by
  intro pins s σ H x y v u Q I rx ry h
  obtain ⟨i, j, rfl, rfl, q⟩ := h
  obtain ⟨t, rfl⟩ := rx
  obtain ⟨t', rfl⟩ := ry
  exact rule i j t t' s _ _ ⟨.bl (g i j), H, I, rfl, q⟩

def CDiv (i j : Int) : Prop := 0 < j ∧ j < 1073741824
def CPow (i j : Int) : Prop := 0 ≤ j ∧ j ≤ 1000000 ∧ i.natAbs < 2 ^ 64
def CMul (i j : Int) : Prop := (-(2 ^ 64) < i ∧ i < 2 ^ 64) ∨ (-(2 ^ 64) < j ∧ j < 2 ^ 64)
theorem CMul.ok {i j : Int} (h : CMul i j) : IntMulOk i j := by
  rcases h with ⟨h1, h2⟩ | ⟨h1, h2⟩
  · exact .of_left (intBits_le_64 h1 h2)
  · exact .of_right (intBits_le_64 h1 h2)
theorem two_pow_nn (k : Nat) : (0 : Int) ≤ 2 ^ k := by
  rw [two_pow_cast]
  exact Int.natCast_nonneg _

theorem op_add : OpR X (binaryOp .Add) (rI0 fun i j => .int (i + j)) := opI0 fun _ _ _ _ _ _ _ q => add_int q
theorem op_sub : OpR X (binaryOp .Sub) (rI0 fun i j => .int (i - j)) := opI0 fun _ _ _ _ _ _ _ q => sub_int q
theorem op_mul : OpR X (binaryOp .Mult) (rI CMul fun i j => .int (i * j)) := opI fun _ _ _ _ _ _ _ hc q => mul_int q hc.ok
theorem op_fdiv : OpR X (binaryOp .FloorDiv) (rI CDiv fun i j => .int (i / j)) := opI fun i j _ _ _ _ _ hc q => by
  have h1 : (0 : Int) < j := hc.1
  have h2 : j < 1073741824 := hc.2
  exact floordiv_int (by omega) (by rw [Int.fdiv_eq_ediv_of_nonneg i (by omega)]; exact q) (.inl (PyProof.noPylong_small (by omega)))
theorem op_mod : OpR X (binaryOp .Mod) (rI (fun _ j => 0 < j) fun i j => .int (i % j)) := opI fun i j _ _ _ _ _ hc q => by
  have h1 : (0 : Int) < j := hc
  exact mod_int' (by omega) (by rw [Int.fmod_eq_emod_of_nonneg i (by omega)]; exact q)
theorem op_pow : OpR X (binaryOp .Pow) (rI CPow fun i j => .int (i ^ j.toNat)) := opI fun _ _ _ _ _ _ _ hc q => pow_int_small hc.1 hc.2.1 hc.2.2 q
theorem op_shr : OpR X (binaryOp .RShift) (rI (fun _ j => 0 ≤ j) fun i j => .int (i / 2 ^ j.toNat)) := opI fun i j _ _ _ _ _ hc q =>
  rshift_int hc (by rw [Int.fdiv_eq_ediv_of_nonneg i (two_pow_nn _)]; exact q)
theorem op_and : OpR X (binaryOp .BitAnd) (rI0 fun i j => .int (Builtin.bitAnd i j)) := opI0 fun _ _ _ _ _ _ _ q => and_int q
theorem unI {f : Value → Sem Value} {g : Int → Int}
    (rule : ∀ (i : Int) (t : Tok) (s : Shared) (Q : Value → Shared → Prop) (E : Value → Shared → Prop), Q (.int (g i) s.toks) { s with toks := s.toks + 1 } → wpAny (model X.prog X.w) X.A (f (.int i t)) Q E s) :
    UnR X f (rU fun i => .int (g i)) := by
  intro pins s σ H x v Q I rx h
  obtain ⟨i, rfl, q⟩ := h
  obtain ⟨t, rfl⟩ := rx
  exact rule i t s _ _ ⟨.int (g i), H, I.tok _, ⟨_, rfl⟩, q⟩
theorem un_neg : UnR X (unaryOp .USub) (rU fun i => .int (-i)) := unI fun _ _ _ _ _ q => neg_int q
end

def scal : V → V → Bool
  | .non, .non => true | .non, .int _ => true | .int _, .non => true | .non, .bl _ => true | .bl _, .non => true | .non, .str _ => true | .str _, .non => true
  | .int _, .int _ => true | .bl _, .bl _ => true | .str _, .str _ => true | .byt _, .byt _ => true
  | .int _, .str _ => true | .str _, .int _ => true | .bl _, .str _ => true | .str _, .bl _ => true
  | _, _ => false
def rEq : R2 := fun x y H Q => scal x y = true ∧ Q (.bl (decide (x = y))) H
def rNe : R2 := fun x y H Q => scal x y = true ∧ Q (.bl (!decide (x = y))) H

theorem dec_int {i j : Int} : decide (V.int i = V.int j) = (i == j) := by
  rw [Bool.eq_iff_iff]
  simp
theorem dec_bl {i j : Bool} : decide (V.bl i = V.bl j) = (i == j) := by
  rw [Bool.eq_iff_iff]
  simp
theorem dec_str {i j : Str} : decide (V.str i = V.str j) = (i == j) := by
  rw [Bool.eq_iff_iff]
  simp
theorem dec_byt {i j : Array UInt8} : decide (V.byt i = V.byt j) = (i.toList == j.toList) := by
  rw [Bool.eq_iff_iff]
  cases i
  cases j
  simp

section
variable {X : Cx} {a b c : Expr} {ta tb tc : TE} {pos : Pos}
theorem fin_bl {pins : List (Addr × Obj)} {σ : St} {H : Hp} {s : Shared} {Q : VK} {k k' : Bool} (I : Inv X pins σ H s) (q : Q (.bl k) H) (e : k = k') : EP X pins σ Q (.bool k') s := by
  subst e
  exact ⟨.bl k, H, I, rfl, q⟩
theorem op_eq : OpR X (compareOp .Eq) rEq := by
  intro pins s σ H x y v u Q I rx ry h
  obtain ⟨hs, q⟩ := h
  cases x with
  | non =>
    cases rx
    cases y with
    | non => cases ry; exact PySem.EqNone.eq_none_none (fin_bl I q (by simp))
    | bl j => cases ry; exact PySem.EqNone.eq_none_bool (fin_bl I q (by simp))
    | int j => obtain ⟨t', rfl⟩ := ry; exact PySem.EqNone.eq_none_int (fin_bl I q (by simp))
    | str j => obtain ⟨t', rfl⟩ := ry; exact PySem.EqNone.eq_none_str (fin_bl I q (by simp))
    | _ => exact absurd (show false = true from hs) Bool.false_ne_true
  | bl i =>
    cases rx
    cases y with
    | non => cases ry; exact PySem.EqNone.eq_bool_none (fin_bl I q (by simp))
    | bl j => cases ry; exact eq_bool (fin_bl I q dec_bl)
    | str j => obtain ⟨t', rfl⟩ := ry; exact PySem.EqMixed.eq_bool_str (fin_bl I q (by simp))
    | _ => exact absurd (show false = true from hs) Bool.false_ne_true
  | int i =>
    obtain ⟨t, rfl⟩ := rx
    cases y with
    | non => cases ry; exact PySem.EqNone.eq_int_none (fin_bl I q (by simp))
    | int j => obtain ⟨t', rfl⟩ := ry; exact eq_int (fin_bl I q dec_int)
    | str j => obtain ⟨t', rfl⟩ := ry; exact PySem.EqMixed.eq_int_str (fin_bl I q (by simp))
    | _ => exact absurd (show false = true from hs) Bool.false_ne_true
  | str i =>
    obtain ⟨t, rfl⟩ := rx
    cases y with
    | non => cases ry; exact PySem.EqNone.eq_str_none (fin_bl I q (by simp))
    | bl j => cases ry; exact PySem.EqMixed.eq_str_bool (fin_bl I q (by simp))
    | int j => obtain ⟨t', rfl⟩ := ry; exact PySem.EqMixed.eq_str_int (fin_bl I q (by simp))
    | str j => obtain ⟨t', rfl⟩ := ry; exact eq_str (fin_bl I q dec_str)
    | _ => exact absurd (show false = true from hs) Bool.false_ne_true
  | byt i =>
    obtain ⟨t, rfl⟩ := rx
    cases y with
    | byt j => obtain ⟨t', rfl⟩ := ry; exact PySem.W.eq_bytes (fin_bl I q dec_byt)
    | _ => exact absurd (show false = true from hs) Bool.false_ne_true
  | _ => cases y <;> exact absurd (show false = true from hs) Bool.false_ne_true
theorem op_ne : OpR X (compareOp .NotEq) rNe := by
  intro pins s σ H x y v u Q I rx ry h
  obtain ⟨hs, q⟩ := h
  cases x with
  | non =>
    cases rx
    cases y with
    | non => cases ry; exact PySem.EqNone.ne_none_none (fin_bl I q (by simp))
    | bl j => cases ry; exact PySem.EqNone.ne_none_bool (fin_bl I q (by simp))
    | int j => obtain ⟨t', rfl⟩ := ry; exact PySem.EqNone.ne_none_int (fin_bl I q (by simp))
    | str j => obtain ⟨t', rfl⟩ := ry; exact PySem.EqNone.ne_none_str (fin_bl I q (by simp))
    | _ => exact absurd (show false = true from hs) Bool.false_ne_true
  | bl i =>
    cases rx
    cases y with
    | non => cases ry; exact PySem.EqNone.ne_bool_none (fin_bl I q (by simp))
    | bl j => cases ry; exact ne_bool (fin_bl I q (congrArg not dec_bl))
    | str j => obtain ⟨t', rfl⟩ := ry; exact PySem.EqMixed.ne_bool_str (fin_bl I q (by simp))
    | _ => exact absurd (show false = true from hs) Bool.false_ne_true
  | int i =>
    obtain ⟨t, rfl⟩ := rx
    cases y with
    | non => cases ry; exact PySem.EqNone.ne_int_none (fin_bl I q (by simp))
    | int j => obtain ⟨t', rfl⟩ := ry; exact ne_int (fin_bl I q (congrArg not dec_int))
    | str j => obtain ⟨t', rfl⟩ := ry; exact PySem.EqMixed.ne_int_str (fin_bl I q (by simp))
    | _ => exact absurd (show false = true from hs) Bool.false_ne_true
  | str i =>
    obtain ⟨t, rfl⟩ := rx
    cases y with
    | non => cases ry; exact PySem.EqNone.ne_str_none (fin_bl I q (by simp))
    | bl j => cases ry; exact PySem.EqMixed.ne_str_bool (fin_bl I q (by simp))
    | int j => obtain ⟨t', rfl⟩ := ry; exact PySem.EqMixed.ne_str_int (fin_bl I q (by simp))
    | str j => obtain ⟨t', rfl⟩ := ry; exact ne_str (fin_bl I q (congrArg not dec_str))
    | _ => exact absurd (show false = true from hs) Bool.false_ne_true
  | byt i =>
    obtain ⟨t, rfl⟩ := rx
    cases y with
    | byt j => obtain ⟨t', rfl⟩ := ry; exact PySem.W.ne_bytes (fin_bl I q (congrArg not dec_byt))
    | _ => exact absurd (show false = true from hs) Bool.false_ne_true
  | _ => cases y <;> exact absurd (show false = true from hs) Bool.false_ne_true

theorem op_lt : OpR X (compareOp .Lt) (rI0 fun i j => .bl (decide (i < j))) := opB0 fun _ _ _ _ _ _ _ q => lt_int q
theorem op_le : OpR X (compareOp .LtE) (rI0 fun i j => .bl (decide (i ≤ j))) := opB0 fun _ _ _ _ _ _ _ q => le_int q
theorem op_gt : OpR X (compareOp .Gt) (rI0 fun i j => .bl (decide (j < i))) := opB0 fun _ _ _ _ _ _ _ q => gt_int q
theorem op_ge : OpR X (compareOp .GtE) (rI0 fun i j => .bl (decide (j ≤ i))) := opB0 fun _ _ _ _ _ _ _ q => ge_int q
theorem OpR.or {f : Value → Value → Sem Value} {r r' : R2} (h : OpR X f r) (h' : OpR X f r') : OpR X f (fun x y H Q => r x y H Q ∨ r' x y H Q) := by
  intro pins s σ H x y v u Q I rx ry q
  rcases q with q | q
  · exact h pins s σ H x y v u Q I rx ry q
  · exact h' pins s σ H x y v u Q I rx ry q

theorem nomark (b : Expr) {op : CmpOp} (h : op ≠ .In := by decide) (h2 : op ≠ .NotIn := by decide) : behindInMarks op b = false := by
  have e1 : (op == CmpOp.In) = false := by cases op <;> first | rfl | exact absurd rfl h
  have e2 : (op == CmpOp.NotIn) = false := by cases op <;> first | rfl | exact absurd rfl h2
  cases b <;> simp [behindInMarks, e1, e2]
theorem pe_cmpR {op : CmpOp} {r : R2} (ho : OpR X (compareOp op) r) (ha : PE X a ta) (hb : PE X b tb) (hm : behindInMarks op b = false) : PE X (.Compare a [op] [b] pos) (tOp r ta tb) := by
  intro pins s σ H Q I h
  exact wpAny_Compare1 (binT ha hb I h fun v u s2 x y H2 I2 rx ry q => ho pins s2 σ H2 x y v u Q I2 rx ry q) hm
def tTest (t : TE) : TT := fun σ H Q => t σ H fun x H' => ∃ k, x = .bl k ∧ Q k H'
theorem pt_cmpR {op : CmpOp} {r : R2} (ho : OpR X (compareOp op) r) (ha : PE X a ta) (hb : PE X b tb) (hm : behindInMarks op b = false) : PT X (.Compare a [op] [b] pos) (tTest (tOp r ta tb)) := by
  intro pins s σ H Q I h
  refine wpAny_isTrue_Compare1 (thn (ha pins s σ H _ I h) fun v s1 ⟨x, H1, I1, r1, q1⟩ => thn (hb pins s1 σ H1 _ I1 q1) fun u s2 ⟨y, H2, I2, r2, q2⟩ =>
    thn (ho pins s2 σ H2 x y v u _ I2 r1 r2 q2) fun c s3 ⟨z, H3, I3, r3, k, e, q3⟩ => ?_) hm
  subst e
  cases r3
  exact wpAny_truthy_bool ⟨H3, I3, q3⟩
def tChain (r r' : R2) (ta tb tc : TE) : TE := fun σ H Q => ta σ H fun x H1 => tb σ H1 fun y H2 => r x y H2 fun z H3 => ∃ k, z = .bl k ∧
  (if k = true then tc σ H3 fun w' H4 => r' y w' H4 Q else Q (.bl false) H3)
theorem pe_chain {op op' : CmpOp} {r r' : R2} (ho : OpR X (compareOp op) r) (ho' : OpR X (compareOp op') r') (ha : PE X a ta) (hb : PE X b tb) (hc : PE X c tc)
    (hm : lastMarks [op, op'] [b, c] = false := by with_unfolding_all rfl) : PE X (.Compare a [op, op'] [b, c] pos) (tChain r r' ta tb tc) := by
  intro pins s σ H Q I h
  refine Compare_chain (thn (ha pins s σ H _ I h) fun v s1 ⟨x, H1, I1, r1, q1⟩ => chain_link (thn (hb pins s1 σ H1 _ I1 q1) fun u s2 ⟨y, H2, I2, r2, q2⟩ =>
    thn (ho pins s2 σ H2 x y v u _ I2 r1 r2 q2) fun d s3 ⟨z, H3, I3, r3, k, e, q3⟩ => ?_)) hm
  subst e
  cases r3
  refine wpAny_truthy_bool ?_
  cases k with
  | false => exact ite_ff ⟨.bl false, H3, I3, rfl, q3⟩
  | true => exact ite_tt (chain_last (thn (hc pins s3 σ H3 _ I3 q3) fun w' s4 ⟨z', H4, I4, r4, q4⟩ => ho' pins s4 σ H4 y z' u w' Q I4 r2 r4 q4))
theorem pt_chain {op op' : CmpOp} {r r' : R2} (ho : OpR X (compareOp op) r) (ho' : OpR X (compareOp op') r') (ha : PE X a ta) (hb : PE X b tb) (hc : PE X c tc)
    (hm : lastMarks [op, op'] [b, c] = false := by with_unfolding_all rfl) : PT X (.Compare a [op, op'] [b, c] pos) (tTest (tChain r r' ta tb tc)) := by
  intro pins s σ H Q I h
  refine isTrue_chain (thn (ha pins s σ H _ I h) fun v s1 ⟨x, H1, I1, r1, q1⟩ => test_link (thn (hb pins s1 σ H1 _ I1 q1) fun u s2 ⟨y, H2, I2, r2, q2⟩ =>
    thn (ho pins s2 σ H2 x y v u _ I2 r1 r2 q2) fun d s3 ⟨z, H3, I3, r3, k, e, q3⟩ => ?_)) hm
  subst e
  cases r3
  refine wpAny_truthy_bool ?_
  cases k with
  | false =>
    obtain ⟨k', e', q'⟩ := q3
    cases e'
    exact ite_ff ⟨H3, I3, q'⟩
  | true =>
    refine ite_tt (test_last (thn (hc pins s3 σ H3 _ I3 q3) fun w' s4 ⟨z', H4, I4, r4, q4⟩ => thn (ho' pins s4 σ H4 y z' u w' _ I4 r2 r4 q4) fun d' s5 ⟨z2, H5, I5, r5, k2, e2, q5⟩ => ?_))
    subst e2
    cases r5
    exact wpAny_truthy_bool ⟨H5, I5, q5⟩

theorem line63 : (sizeLine : Nat) < 2 ^ 63 := by rw [sizeLine_eq]; decide
theorem op_add_str : OpR X (binaryOp .Add) (fun x y H Q => ∃ i j, x = .str i ∧ y = .str j ∧ i.length + j.length ≤ sizeLine ∧ Q (.str (i ++ j)) H) := by
  intro pins s σ H x y v u Q I rx ry h
  obtain ⟨i, j, rfl, rfl, hz, q⟩ := h
  obtain ⟨t, rfl⟩ := rx
  obtain ⟨t', rfl⟩ := ry
  exact add_str (fun t' tk => ⟨.str (i ++ j), H, I.tok _, ⟨_, rfl⟩, q⟩) hz
theorem vals1 {x : V} {us : List Value} (r : Vals [x] us) : ∃ u, us = [u] ∧ RelV x u := by
  cases r with
  | cons r1 r2 => cases r2; exact ⟨_, rfl, r1⟩
theorem vals2 {x y : V} {us : List Value} (r : Vals [x, y] us) : ∃ u w', us = [u, w'] ∧ RelV x u ∧ RelV y w' := by
  cases r with
  | cons r1 r2 =>
    cases r2 with
    | cons r3 r4 => cases r4; exact ⟨_, _, rfl, r1, r3⟩
theorem call_max2 (hc : X.calm = true) : CallR X (.builtin "max") (fun xs H Q => ∃ i j, xs = [.int i, .int j] ∧ Q (.int (if j > i then j else i)) H) := by
  intro pins s σ H xs us Q I r h
  obtain ⟨i, j, rfl, q⟩ := h
  obtain ⟨u, w', rfl, ⟨t, rfl⟩, ⟨t', rfl⟩⟩ := vals2 r
  refine max_two_ints (I.ok.hd hc) fun h' tk k => ⟨_, H, I.kept k, ?_, q⟩
  by_cases hj : j > i
  · rw [if_pos hj, if_pos hj]; exact ⟨_, rfl⟩
  · rw [if_neg hj, if_neg hj]; exact ⟨_, rfl⟩
theorem call_min2 (hc : X.calm = true) : CallR X (.builtin "min") (fun xs H Q => ∃ i j, xs = [.int i, .int j] ∧ Q (.int (if j < i then j else i)) H) := by
  intro pins s σ H xs us Q I r h
  obtain ⟨i, j, rfl, q⟩ := h
  obtain ⟨u, w', rfl, ⟨t, rfl⟩, ⟨t', rfl⟩⟩ := vals2 r
  refine min_two_ints (I.ok.hd hc) fun h' tk k => ⟨_, H, I.kept k, ?_, q⟩
  by_cases hj : j < i
  · rw [if_pos hj, if_pos hj]; exact ⟨_, rfl⟩
  · rw [if_neg hj, if_neg hj]; exact ⟨_, rfl⟩
theorem call_str_int : CallR X (.type "str") (fun xs H Q => ∃ i, xs = [.int i] ∧ i.natAbs.log2 < 1920 ∧ Q (.str (toString i)) H) := by
  intro pins s σ H xs us Q I r h
  obtain ⟨i, rfl, hz, q⟩ := h
  obtain ⟨u, rfl, t, rfl⟩ := vals1 r
  exact PySem.P.str_of_int hz ⟨.str _, H, I.tok _, ⟨_, rfl⟩, q⟩
end
end L2

namespace L2
open PySem PySem.Spec PyProof.Rows

structure ObjM (h : Heap) (x dx C : Addr) (mA : Str → Option Value) : Prop where
  obj : h.get? x = some (PySem.W.instObj C dx)
  ns : h.Ns1 dx mA
  ne : dx ≠ x

theorem lookIn_ns {h : Heap} {dx : Addr} {mA : Str → Option Value} (n : h.Ns1 dx mA) : ∃ od, h.get? dx = some od ∧ ∀ name, PySem.W.lookIn name od = some (mA name) := by
  obtain ⟨o, es, ep, ho, hd, hk, _, hm⟩ := n
  refine ⟨o, ho, fun name => ?_⟩
  have e := hm name
  unfold nsFind findBy at e
  rw [← Array.find?_toList] at e
  unfold PySem.W.lookIn
  rw [hd]
  dsimp only
  split
  · rename_i y q
    rw [q] at e
    exact congrArg some e
  · rename_i q
    rw [q] at e
    have a : es.toList.any (·.refKey) = false := by
      rw [List.any_eq_false]
      intro y hy
      obtain ⟨z, t, hkey⟩ := hk y (Array.mem_toList_iff.mp hy)
      simp [DictEntry.refKey, hkey]
    have a' : ¬ es.toList.any (·.refKey) = true := by rw [a]; exact Bool.false_ne_true
    rw [if_neg a']
    exact congrArg some e

theorem ObjM.look {h : Heap} {x dx C : Addr} {mA : Str → Option Value} (I : ObjM h x dx C mA) : ∃ od, PySem.W.InstAt h x (PySem.W.instObj C dx) C (some od) ∧ ∀ name, PySem.W.lookIn name od = some (mA name) :=
  let ⟨od, ho, hl⟩ := lookIn_ns I.ns
  ⟨od, ⟨I.obj, rfl, rfl, ho⟩, hl⟩

section
variable {prog : Program} {w : World} {A : Around} {E : Value → Shared → Prop} {s : Shared} {K : PySem.W.Frag} {x dx C f : Addr} {mA : Str → Option Value} {name : Str} {v : Value}

theorem get_map {expr : Bool} {Q : Value → Shared → Prop} (X : K.In s.heap) (I : ObjM s.heap x dx C mA) (hg : PySem.W.plainGet K C name = true) (hh : PySem.W.hasDictIn K C = true)
    (ha : PySem.W.findIn K (.ref C) name = some none) (hv : mA name = some v) (hv' : PySem.W.handedIn v = true) (h : Q v { s with toks := s.toks + 1 }) :
    wpAny (model prog w) A (getAttr (.ref x) name expr) Q E s := by
  obtain ⟨od, J, hl⟩ := I.look
  exact PySem.W.get_value X J (PySem.W.plainGet_of hg).1 (PySem.W.findObj_own hh ha rfl (by rw [hl, hv])) hv' h

theorem get_meth {pl : Sem Bool} {Q : Value × List Value → Shared → Prop} (X : K.In s.heap) (I : ObjM s.heap x dx C mA) (hg : PySem.W.plainGet K C name = true)
    (hf : PySem.W.findIn K (.ref C) name = some (some (.ref f))) (ht : PySem.W.isFn K (.ref f) = true) (hv : mA name = none) (h : Q (.ref f, [.ref x]) s) :
    wpAny (model prog w) A (getMethod (.ref x) name pl) Q E s := by
  obtain ⟨od, J, hl⟩ := I.look
  exact PySem.W.method_fn X J (PySem.W.plainGet_of hg).1 (PySem.W.plainGet_of hg).2 hf (beq_iff_eq.mp ht) (by show (PySem.W.lookIn name od).map (·.isSome) = some false; rw [hl, hv]; rfl) h

theorem set_map {ns : List Str} {Q : Unit → Shared → Prop} (X : K.In s.heap) (I : ObjM s.heap x dx C mA)
    (hs : PySem.W.findIn K (.ref C) "__setattr__" = some (some (.builtin "object.__setattr__"))) (hp : PySem.W.plainOver K C = true) (ht : PySem.W.takerIn K C name = some none) (hh : PySem.W.hasDictIn K C = true)
    (hw : PySem.Within mA ns) (hsz : ns.length ≤ sizeLine)
    (h : ∀ h', ObjM h' x dx C (fun y => if y = name then some v else mA y) → Heap.SameBut dx s.heap h' → Q () { s with heap := h', toks := s.toks + 2 }) :
    wpAny (model prog w) A (setAttr (.ref x) name v) Q E s := by
  obtain ⟨od, J, hl⟩ := I.look
  refine PySem.W.set_plain X J hs (PySem.W.osa_open (s := { s with toks := s.toks + 1 }) (r := none) X J hp ht fun b => ?_)
  obtain ⟨cd, hc, hd'⟩ := PySem.W.any_some hh
  have hx : s.heap.get? x = some ⟨.ref C, some dx, .plain, #[]⟩ := I.obj
  refine wpAny_bind (wpAny_pure (wpAny_bind (wpAny_bind (wpAny_loadPart hx (wpAny_bind (PySem.W.Looks.here (s := { s with toks := s.toks + 1 }) (PySem.W.looks_clsIn X hc) ?_))))))
  rw [hd']
  refine wpAny_pure (a := some dx) (wpAny_bind (wpAny_pure (wpAny_bind ?_)))
  refine wpAny_nsSet1 (s := { s with toks := s.toks + 1 }) I.ns fun h' hn2 hs2 => ?_
  obtain ⟨oD, esD, epD, hoD, hdD, hcD⟩ := hn2.count (PySem.Within.cons name v hw)
  refine wpAny_bind (wpAny_lookBehind hoD (by rw [hdD]; exact pastItsLine_dict (Nat.le_trans hcD (by rw [List.length_cons]; omega))) ?_)
  exact wpAny_pure (h _ ⟨(hs2.2 _ (Ne.symm I.ne)).trans I.obj, hn2, I.ne⟩ hs2)

theorem make_map {R : Result → Shared → Prop} {vs : List Value} {kw : List (Str × Value)} (X : K.In s.heap) (hm : PySem.W.makesIn K C = true)
    (hi : PySem.W.findIn K (.ref C) "__init__" = some (some (.ref f))) (hf : PySem.W.typeIn K (.ref f) = some (.type "function"))
    (h : codeAny (model prog w) (A.under (.builtin "type.__call__" ⟨.ref C :: vs, kw⟩)) (.call (.ref f) ⟨.ref (s.heap.objs.size + 1) :: vs, kw⟩) (PySem.W.InitBack (s.heap.objs.size + 1) R)
      { s with heap := (s.heap.push PySem.W.emptyDict).push (PySem.W.instObj C s.heap.objs.size) }) :
    codeAny (model prog w) A (.call (.ref C) ⟨vs, kw⟩) R s := by
  obtain ⟨hh, g, d, t, os⟩ := s
  exact PySem.W.make_core (PySem.W.makes_of X hm) (PySem.W.looks_findIn X hi) (fun self => PySem.W.bind_fn X self hf) (.inl rfl) h
theorem make_map0 {R : Result → Shared → Prop} (X : K.In s.heap) (hm : PySem.W.makesIn K C = true)
    (hi : PySem.W.findIn K (.ref C) "__init__" = some (some (.builtin "object.__init__")))
    (hb : ∀ self, PySem.W.Looks (model prog w) s.heap (bindSpecial (.builtin "object.__init__") self) (.builtin "object.__init__", [self]))
    (h : codeAny (model prog w) (A.under (.builtin "type.__call__" ⟨[.ref C], []⟩)) (.call (.builtin "object.__init__") ⟨[.ref (s.heap.objs.size + 1)], []⟩) (PySem.W.InitBack (s.heap.objs.size + 1) R)
      { s with heap := (s.heap.push PySem.W.emptyDict).push (PySem.W.instObj C s.heap.objs.size) }) :
    codeAny (model prog w) A (.call (.ref C) ⟨[], []⟩) R s := by
  obtain ⟨hh, g, d, t, os⟩ := s
  exact PySem.W.make_core (PySem.W.makes_of X hm) (PySem.W.looks_findIn X hi) hb (.inr ⟨rfl, rfl⟩) h
end

def putF (f : Str) (v : V) : List (Str × V) → List (Str × V)
  | [] => [(f, v)]
  | (g, x) :: r => if g = f then (g, v) :: r else (g, x) :: putF f v r
theorem lookup_putF (f g : Str) (v : V) : ∀ fs : List (Str × V), (putF f v fs).lookup g = if g = f then some v else fs.lookup g
  | [] => by
    show List.lookup g [(f, v)] = _
    by_cases h : g = f
    · have hb : (g == f) = true := beq_iff_eq.mpr h
      simp only [List.lookup, hb, if_pos h]
    · have hb : (g == f) = false := beq_eq_false_iff_ne.mpr h
      simp only [List.lookup, hb, if_neg h]
  | (k, x) :: r => by
    have ih := lookup_putF f g v r
    rw [show putF f v ((k, x) :: r) = (if k = f then (k, v) :: r else (k, x) :: putF f v r) from rfl]
    by_cases hk : k = f
    · rw [if_pos hk]
      by_cases h : g = k
      · have hb : (g == k) = true := beq_iff_eq.mpr h
        simp only [List.lookup, hb, if_pos (h.trans hk)]
      · have hb : (g == k) = false := beq_eq_false_iff_ne.mpr h
        simp only [List.lookup, hb, if_neg (fun e : g = f => h (e.trans hk.symm))]
    · rw [if_neg hk]
      by_cases h : g = k
      · have hb : (g == k) = true := beq_iff_eq.mpr h
        simp only [List.lookup, hb, if_neg (fun e : g = f => hk (h.symm.trans e))]
      · have hb : (g == k) = false := beq_eq_false_iff_ne.mpr h
        simp only [List.lookup, hb]
        exact ih
theorem keys_putF (f : Str) (v : V) : ∀ fs : List (Str × V), f ∈ (putF f v fs).map (·.1) ∧ ∀ g, g ∈ fs.map (·.1) → g ∈ (putF f v fs).map (·.1)
  | [] => ⟨by simp [putF], fun g h => by simp at h⟩
  | (k, x) :: r => by
    obtain ⟨i1, i2⟩ := keys_putF f v r
    rw [show putF f v ((k, x) :: r) = (if k = f then (k, v) :: r else (k, x) :: putF f v r) from rfl]
    by_cases hk : k = f
    · rw [if_pos hk]
      subst hk
      exact ⟨by simp, fun g h => by simpa using h⟩
    · rw [if_neg hk]
      refine ⟨?_, fun g h => ?_⟩
      · rw [List.map_cons]
        exact List.mem_cons_of_mem _ i1
      · rw [List.map_cons] at h ⊢
        rcases List.mem_cons.mp h with e | e
        · exact List.mem_cons.mpr (.inl e)
        · exact List.mem_cons_of_mem _ (i2 g e)
theorem length_putF (f : Str) (v : V) : ∀ fs : List (Str × V), (putF f v fs).length ≤ fs.length + 1
  | [] => by simp [putF]
  | (k, x) :: r => by
    have ih := length_putF f v r
    rw [show putF f v ((k, x) :: r) = (if k = f then (k, v) :: r else (k, x) :: putF f v r) from rfl]
    by_cases hk : k = f
    · rw [if_pos hk, List.length_cons, List.length_cons]; omega
    · rw [if_neg hk, List.length_cons, List.length_cons]; omega

theorem RelO.some_of {v : V} {o : Option Value} (r : RelO (some v) o) : ∃ u, o = some u ∧ RelV v u := by
  cases o with
  | none => exact (show False from r).elim
  | some u => exact ⟨u, rfl, r⟩
theorem RelO.none_of {o : Option Value} (r : RelO none o) : o = none := by
  cases o with
  | none => rfl
  | some u => exact (show False from r).elim
theorem handed_of {v : V} {u : Value} (r : RelV v u) : PySem.W.handedIn u = true := by
  cases v with
  | non => cases (show u = Value.none from r); rfl
  | bl b => cases (show u = Value.bool b from r); rfl
  | int i => obtain ⟨t, e⟩ := (show ∃ t, u = Value.int i t from r); cases e; rfl
  | str x => obtain ⟨t, e⟩ := (show ∃ t, u = Value.str x t from r); cases e; rfl
  | byt b => obtain ⟨t, e⟩ := (show ∃ t, u = Value.bytes b t from r); cases e; rfl
  | flt b => obtain ⟨t, e⟩ := (show ∃ t, u = Value.float b t from r); cases e; rfl
  | ref a => cases (show u = Value.ref a from r); rfl
  | ty n => cases (show u = Value.type n from r); rfl

section
variable {P : Program} {w : World} {H H' : Hp} {h h' : Heap} {a C dx : Addr} {fs fs' : List (Str × V)}
theorem ins_get (hok : HOk P w H h) (e : H a = some (.ins C dx fs)) : ∃ mA, ObjM h a dx C mA ∧ (∀ f, RelO (fs.lookup f) (mA f)) ∧ PySem.Within mA (fs.map (·.1)) ∧ fs.length ≤ 1000 ∧ H dx = some (.own a) := by
  obtain ⟨d, z, ne, ob, mA, n, r, q⟩ := (show ObjOk P w H h a (.ins C dx fs) from hok a _ e)
  exact ⟨mA, ⟨ob, n, ne⟩, r, q, z, d⟩
end

structure Cls (K : PySem.W.Frag) (C : Addr) : Prop where
  pg : PySem.W.plainGet K C Str.empty = true
  hd : PySem.W.hasDictIn K C = true
  po : PySem.W.plainOver K C = true
  sa : PySem.W.findIn K (.ref C) "__setattr__" = some (some (.builtin "object.__setattr__"))
theorem Cls.get {K : PySem.W.Frag} {C : Addr} (c : Cls K C) (f : Str) : PySem.W.plainGet K C f = true := c.pg
def NoAttr (K : PySem.W.Frag) (C : Addr) (f : Str) : Prop := PySem.W.findIn K (.ref C) f = some none
theorem NoAttr.taker {K : PySem.W.Frag} {C : Addr} {f : Str} (n : NoAttr K C f) : PySem.W.takerIn K C f = some none := by
  unfold PySem.W.takerIn
  rw [show PySem.W.findIn K (.ref C) f = some none from n]
  rfl
structure Con (K : PySem.W.Frag) (C : Addr) (f : Str) (v : V) (u : Value) : Prop where
  at_ : PySem.W.findIn K (.ref C) f = some (some u)
  rel : RelV v u
  get : PySem.W.specialIn K u "__get__" = some none
  cp : PySem.W.copiedNames.contains f = false
structure Meth (K : PySem.W.Frag) (C : Addr) (m : Str) (f : Addr) : Prop where
  at_ : PySem.W.findIn K (.ref C) m = some (some (.ref f))
  fn : PySem.W.isFn K (.ref f) = true
  kp : PySem.W.keepIn K (.ref f) = true

section
variable {X : Cx} {pins : List (Addr × Obj)} {σ : St} {H : Hp} {s : Shared} {a C dx : Addr} {fs : List (Str × V)} {f : Str} {v : V} {A : Around} {E : Value → Shared → Prop}

theorem getattr_ok {b : Bool} {Q : Value → Shared → Prop} (I : Inv X pins σ H s) (e : H a = some (.ins C dx fs)) (c : Cls X.K C) (n : NoAttr X.K C f) (l : fs.lookup f = some v)
    (h : ∀ u s', Inv X pins σ H s' → RelV v u → Q u s') : wpAny (model X.prog X.w) A (getAttr (.ref a) f b) Q E s := by
  obtain ⟨mA, O, r, _, _, _⟩ := ins_get I.hok e
  obtain ⟨u, hu, ru⟩ := RelO.some_of (v := v) (o := mA f) (by rw [← l]; exact r f)
  exact get_map I.kIn O (c.get f) c.hd n hu (handed_of ru) (h u _ (I.tok _) ru)

theorem getmeth_ok {m : Str} {g : Addr} {pl : Sem Bool} {Q : Value × List Value → Shared → Prop} (I : Inv X pins σ H s) (e : H a = some (.ins C dx fs)) (c : Cls X.K C) (k : Meth X.K C m g) (l : fs.lookup m = none)
    (h : Q (.ref g, [.ref a]) s) : wpAny (model X.prog X.w) A (getMethod (.ref a) m pl) Q E s := by
  obtain ⟨mA, O, r, _, _, _⟩ := ins_get I.hok e
  have hn : mA m = none := RelO.none_of (by rw [← l]; exact r m)
  exact get_meth I.kIn O (c.get m) k.at_ k.fn hn h

theorem setattr_ok {y : V} {u : Value} {Q : Unit → Shared → Prop} (I : Inv X pins σ H s) (e : H a = some (.ins C dx fs)) (c : Cls X.K C) (n : NoAttr X.K C f) (hl : fs.length < 1000) (ry : RelV y u)
    (h : ∀ s', Inv X pins σ (upd H a (.ins C dx (putF f y fs))) s' → Q () s') : wpAny (model X.prog X.w) A (setAttr (.ref a) f u) Q E s := by
  obtain ⟨mA, O, r, wi, _, ho⟩ := ins_get I.hok e
  have hz : (fs.map (·.1)).length ≤ sizeLine := by rw [List.length_map, sizeLine_eq]; omega
  refine set_map I.kIn O c.sa c.po n.taker c.hd wi hz fun h' O' sb => h _ ?_
  have hd : ∃ o, h'.get? dx = some o := let ⟨o, _, _, e', _⟩ := O'.ns; ⟨o, e'⟩
  refine I.write (x := a) (e := dx) (by rw [e]; exact True.intro) (.inr ho) (fun b q hb z => (sb.2 b hb).trans z) hd ?_
  refine ⟨by rw [upd_ne O.ne]; exact ho, ?_, O.ne, O'.obj, _, O'.ns, fun g => ?_, fun g hg => ?_⟩
  · have := length_putF f y fs; omega
  · show RelO ((putF f y fs).lookup g) (if g = f then some u else mA g)
    rw [lookup_putF]
    by_cases q : g = f
    · rw [if_pos q, if_pos q]; exact ry
    · rw [if_neg q, if_neg q]; exact r g
  · by_cases q : g = f
    · rw [q]; exact (keys_putF f y fs).1
    · refine (keys_putF f y fs).2 g (wi g fun z => hg ?_)
      show (if g = f then some u else mA g) = none
      rw [if_neg q]; exact z

theorem Inv.made (I : Inv X pins σ H s) : Inv X pins σ (upd (upd H s.heap.objs.size (.own (s.heap.objs.size + 1))) (s.heap.objs.size + 1) (.ins C s.heap.objs.size []))
    { s with heap := (s.heap.push PySem.W.emptyDict).push (PySem.W.instObj C s.heap.objs.size) } := by
  have e1 : (s.heap.push PySem.W.emptyDict).get? s.heap.objs.size = some PySem.W.emptyDict := Heap.get?_push_size s.heap rfl
  have e2 : ((s.heap.push PySem.W.emptyDict).push (PySem.W.instObj C s.heap.objs.size)).get? (s.heap.objs.size + 1) = some (PySem.W.instObj C s.heap.objs.size) := by
    have := Heap.get?_push_size (s.heap.push PySem.W.emptyDict) (o := PySem.W.instObj C s.heap.objs.size) rfl
    rwa [Heap.size_push] at this
  have e3 : (s.heap.push PySem.W.emptyDict).Ns s.heap.objs.size (fun _ => none) := ⟨PySem.W.emptyDict, #[], _, e1, rfl, (fun e he => absurd he (by simp)), fun _ => rfl⟩
  have I1 := I.laid (a := s.heap.objs.size) (o := .own (s.heap.objs.size + 1)) (h' := s.heap.push PySem.W.emptyDict) (t' := s.toks) (fun b u q => Heap.get?_push_of_some _ q) (Nat.le_refl _) ⟨_, e1⟩
  refine I1.laid (a := s.heap.objs.size + 1) (o := .ins C s.heap.objs.size []) (t' := s.toks) (fun b u q => Heap.get?_push_of_some _ q) (Nat.le_of_eq (Heap.size_push _ _)) ?_
  have ne : s.heap.objs.size ≠ s.heap.objs.size + 1 := Nat.ne_of_lt (Nat.lt_succ_self _)
  refine ⟨by rw [upd_ne ne, upd_same], Nat.zero_le _, ne, e2, fun _ => none, (Heap.Ns1.of_empty e3).at fun o q => Heap.get?_push_of_some _ q, fun _ => True.intro, fun y hy => absurd rfl hy⟩

theorem attr_of {prog : Program} {w : World} {env : Env} {e : Expr} {f : Str} {pos : Pos} {s : Shared} {Q : Value → Shared → Prop} (hb : attributeBase e f env (eval e env) = eval e env)
    (h : wpAny (model prog w) A (eval e env) (fun o s₁ => wpAny (model prog w) A (getAttr o f true) Q E s₁) E s) : wpAny (model prog w) A (eval (.Attribute e f pos) env) Q E s :=
  Attribute_any_ h (by rw [arm_eval_Attribute, hb])
end

def tFld (K : PySem.W.Frag) (ta : TE) (f : Str) : TE := fun σ H Q => ta σ H fun x H1 => ∃ a C dx fs v, x = .ref a ∧ H1 a = some (.ins C dx fs) ∧ Cls K C ∧ NoAttr K C f ∧ fs.lookup f = some v ∧ Q v H1
def sFld (K : PySem.W.Frag) (ta tv : TE) (f : Str) : TS := fun D σ H => tv σ H fun y H1 => ta σ H1 fun x H2 => ∃ a C dx fs, x = .ref a ∧ H2 a = some (.ins C dx fs) ∧ Cls K C ∧ NoAttr K C f ∧ fs.length < 1000 ∧
  D.nx σ (upd H2 a (.ins C dx (putF f y fs)))
section
variable {X : Cx} {o e value : Expr} {f : Str} {pos pos' tpos : Pos} {ta tv : TE}
theorem pe_fld (he : PE X e ta) (hb : attributeBase e f X.env (eval e X.env) = eval e X.env) : PE X (.Attribute e f pos) (tFld X.K ta f) := by
  intro pins s σ H Q I h
  refine attr_of hb (thn (he pins s σ H _ I h) fun u s1 ⟨x, H1, I1, rx, a, C, dx, fs, v, ex, ea, c, n, l, q⟩ => ?_)
  subst ex
  obtain rfl : u = Value.ref a := rx
  exact getattr_ok I1 ea c n l fun u' s2 I2 ru => ⟨v, H1, I2, ru, q⟩
theorem ps_fld (ha : PE X o ta) (hv : PE X value tv) (hs : swapsWith value (some (.Attribute o f pos')) pos.line X.env = pure false) : PS X (.Assign [.Attribute o f pos'] value pos) (sFld X.K ta tv f) := by
  intro pins s σ H D I h
  refine plainObj_wpAny_Assign_Attribute (thn (hv pins s σ H _ I h) fun u s1 ⟨y, H1, I1, ry, q⟩ => thn (ha pins s1 σ H1 _ I1 q) fun ov s2 ⟨x, H2, I2, rx, a, C, dx, fs, ex, ea, c, n, l, q2⟩ => ?_) hs
  subst ex
  obtain rfl : ov = Value.ref a := rx
  exact setattr_ok I2 ea c n l ry fun s3 I3 => ⟨σ, _, I3, q2⟩
end

section
variable {X : Cx} {pins : List (Addr × Obj)} {σ : St} {H : Hp} {s : Shared} {A : Around} {E : Value → Shared → Prop} {Q : Value → Shared → Prop} {c : Value} {b : Bool}
inductive TyOf (K : PySem.W.Frag) (H : Hp) : V → Value → Prop where
  | non : TyOf K H .non (.type "NoneType")
  | bl (x : Bool) : TyOf K H (.bl x) (.type "bool")
  | int (i : Int) : TyOf K H (.int i) (.type "int")
  | str (x : Str) : TyOf K H (.str x) (.type "str")
  | flt (x : UInt64) : TyOf K H (.flt x) (.type "float")
  | lst {a : Addr} {xs : List V} (e : H a = some (.lst xs)) : TyOf K H (.ref a) (.type "list")
  | frz {a : Addr} {o : Obj} {xs : List V} (e : H a = some (.frz o (.lst xs))) : TyOf K H (.ref a) (.type "list")
  | tup {a : Addr} {xs : List V} (e : H a = some (.tup xs)) : TyOf K H (.ref a) (.type "tuple")
  | dK {a : Addr} {kvs : List (Key × V)} (e : H a = some (.dK kvs)) : TyOf K H (.ref a) (.type "dict")
  | dT {a : Addr} {kvs : List (List Key × V)} (e : H a = some (.dT kvs)) : TyOf K H (.ref a) (.type "dict")
  | ins {a C dx : Addr} {fs : List (Str × V)} (e : H a = some (.ins C dx fs)) (cl : Cls K C) (ha : PySem.W.findIn K (.ref C) "__class__" = some (some (.builtin "object.__class__")))
      (hn : PySem.W.specialIn K (.builtin "object.__class__") "__get__" = some (some (.builtin "getset_descriptor.__get__"))) (htk : PySem.W.takesIn K (.builtin "object.__class__") = some true)
      (hm : PySem.W.mroIn K C (.type "object") = some true) : TyOf K H (.ref a) (.ref C)
theorem isinst_ok {x : V} {u t : Value} (I : Inv X pins σ H s) (rx : RelV x u) (ty : TyOf X.K H x t) (e : PySem.W.kitOne X.K t c = some b) (h : ∀ tk, Q (.bool b) { s with toks := tk }) :
    wpAny (model X.prog X.w) A (call (.builtin "isinstance") [u, c]) Q E s := by
  cases ty with
  | non => cases (show u = Value.none from rx); exact PySem.W.kia_one PySem.W.kitx_none I.kIn True.intro e (fun z => nomatch z) h
  | bl y => cases (show u = Value.bool y from rx); exact PySem.W.kia_one PySem.W.kitx_bool I.kIn True.intro e (fun z => nomatch z) h
  | int i => obtain ⟨t, q⟩ := (show ∃ t, u = Value.int i t from rx); cases q; exact PySem.W.kia_one PySem.W.kitx_int I.kIn True.intro e (fun z => nomatch z) h
  | str y => obtain ⟨t, q⟩ := (show ∃ t, u = Value.str y t from rx); cases q; exact PySem.W.kia_one PySem.W.kitx_str I.kIn True.intro e (fun z => nomatch z) h
  | flt y => obtain ⟨t, q⟩ := (show ∃ t, u = Value.float y t from rx); cases q; exact PySem.W.kia_one PySem.W.kitx_float I.kIn True.intro e (fun z => nomatch z) h
  | @lst a xs ea =>
    cases (show u = Value.ref a from rx)
    obtain ⟨_, _, n, _, h1⟩ := (show ObjOk X.prog X.w H s.heap a (.lst xs) from I.hok a _ ea)
    exact PySem.W.kia_one PySem.W.kitx_list I.kIn ⟨_, h1, rfl⟩ e (fun z => nomatch z) h
  | @frz a ob xs ea =>
    cases (show u = Value.ref a from rx)
    obtain ⟨_, _, _, n, _, h1⟩ := (show ObjOk X.prog X.w H s.heap a (.frz ob (.lst xs)) from I.hok a _ ea)
    exact PySem.W.kia_one PySem.W.kitx_list I.kIn ⟨_, h1, rfl⟩ e (fun z => nomatch z) h
  | @tup a xs ea =>
    cases (show u = Value.ref a from rx)
    obtain ⟨_, _, _, p⟩ := (show ObjOk X.prog X.w H s.heap a (.tup xs) from I.hok a _ ea)
    obtain ⟨o, h1, h2, _⟩ := p
    exact PySem.W.kia_one PySem.W.kitx_tuple I.kIn ⟨o, h1, h2⟩ e (fun z => nomatch z) h
  | @dK a kvs ea =>
    cases (show u = Value.ref a from rx)
    obtain ⟨_, _, vs, _, p⟩ := (show ObjOk X.prog X.w H s.heap a (.dK kvs) from I.hok a _ ea)
    obtain ⟨o, es, ep, h1, h2, _⟩ := p
    exact PySem.W.kia_one PySem.W.kitx_dict I.kIn ⟨o, h1, h2.1⟩ e (fun z => nomatch z) h
  | @dT a kvs ea =>
    cases (show u = Value.ref a from rx)
    obtain ⟨_, _, xs, _, o, es, ep, h1, h2, _⟩ := (show ObjOk X.prog X.w H s.heap a (.dT kvs) from I.hok a _ ea)
    exact PySem.W.kia_one PySem.W.kitx_dict I.kIn ⟨o, h1, h2.1⟩ e (fun z => nomatch z) h
  | @ins a C dx fs ea cl ha hn htk hm =>
    cases (show u = Value.ref a from rx)
    obtain ⟨mA, O, _⟩ := ins_get I.hok ea
    obtain ⟨od, J, _⟩ := O.look
    exact PySem.W.kia_one (PySem.W.kitx_own (cl.get _) cl.hd ha hn htk hm) I.kIn J e (fun z => nomatch z) h
end
end L2

namespace L2
open PySem PySem.Spec PyProof.Rows

structure Room (k : Nat) (A : Around) : Prop where
  hd : A.handled = none
  dp : A.depth + 3 * k + 5 < recursionLimit
  un : A.units + 16 * k + 200 < cLine
theorem Room.mono {j k : Nat} {A : Around} (r : Room k A) (h : j ≤ k) : Room j A := ⟨r.hd, by have := r.dp; omega, by have := r.un; omega⟩
theorem Room.deeper {k : Nat} {A : Around} (r : Room (k + 1) A) (env : Env) : Room k (A.deeper env) :=
  ⟨r.hd, by have := r.dp; show A.depth + 1 + 3 * k + 5 < _; omega, by have := r.un; show A.units + 3 + 16 * k + 200 < _; omega⟩
theorem Room.in1 {k : Nat} {A : Around} (r : Room (k + 1) A) : Room k A.in1 :=
  ⟨r.hd, by have := r.dp; show A.depth + 3 * k + 5 < _; omega, by have := r.un; show A.units + 1 + 16 * k + 200 < _; omega⟩
theorem make_depth {A : Around} {C : Addr} {us : List Value} {kw : List (Str × Value)} : (A.under (.builtin "type.__call__" ⟨.ref C :: us, kw⟩)).depth = A.depth + 1 := by
  first | rfl | simp [Around.under, Code.weight, Code.isCreation, Code.isGuard, Code.isCaller, Code.frames, Code.isFrame, guardIds]
theorem make_units {A : Around} {C : Addr} {us : List Value} {kw : List (Str × Value)} : (A.under (.builtin "type.__call__" ⟨.ref C :: us, kw⟩)).units = A.units + 1 := by
  first | rfl | simp [Around.under, Code.cUnits, Code.frames, Code.isFrame]
theorem Room.make {k : Nat} {A : Around} (r : Room (k + 1) A) (C : Addr) (us : List Value) (kw : List (Str × Value)) : Room k (A.under (.builtin "type.__call__" ⟨.ref C :: us, kw⟩)) :=
  ⟨r.hd, by have := r.dp; rw [make_depth]; omega, by have := r.un; rw [make_units]; omega⟩
theorem Room.depth {k : Nat} {A : Around} (r : Room k A) : A.depth < recursionLimit := by have := r.dp; omega
theorem Room.units {k : Nat} {A : Around} (r : Room k A) : A.units + 64 < cLine := by have := r.un; omega
theorem Room.units0 {k : Nat} {A : Around} (r : Room k A) : A.units < cLine := by have := r.un; omega

def tNil : TA := fun _ H Q => Q [] H
def tCons (ta : TE) (tr : TA) : TA := fun σ H Q => ta σ H fun x H1 => tr σ H1 fun xs H2 => Q (x :: xs) H2
section
variable {X : Cx} {e : Expr} {es : List Expr} {te : TE} {t : TA} {pos : Pos}
theorem pa_nil : PA X [] tNil := fun _ _ _ _ H Q I h => Calls.spliced_nil ⟨[], H, I, .nil, h⟩
theorem pa_cons (ha : PE X e te) (hr : PA X es t) (hs : starEach (e :: es) X.env = (false, eval e X.env) :: starEach es X.env := by rfl) : PA X (e :: es) (tCons te t) := by
  intro pos pins s σ H Q I h
  rw [hs]
  show wpAny _ _ (spliced ((false, eval e X.env) :: backTo pos (starEach es X.env))) _ _ s
  refine Calls.spliced_cons (thn (ha pins s σ H _ I h) fun u s1 ⟨x, H1, I1, r1, q1⟩ => ?_)
  exact thn (hr pos pins s1 σ H1 _ I1 q1) fun us s2 ⟨xs, H2, I2, r2, q2⟩ => ⟨x :: xs, H2, I2, .cons r1 r2, q2⟩

def tTup (t : TA) : TE := fun σ H Q => t σ H fun xs H1 => xs.length ≤ sizeLine ∧ ∀ p, H1 p = none → Q (.ref p) (upd H1 p (.tup xs))
def tLst (t : TA) : TE := fun σ H Q => t σ H fun xs H1 => xs.length ≤ sizeLine ∧ ∀ p, H1 p = none → Q (.ref p) (upd H1 p (.lst xs))
theorem pe_tup {x1} (h : PA X es t) : PE X (.Tuple es x1 pos) (tTup t) := by
  intro pins s σ H Q I hq
  refine wpAny_Tuple_spliced (thn (h pos pins s σ H _ I hq) fun us s1 ⟨xs, H1, I1, r, z, q⟩ => ⟨by rw [← r.length]; exact z, ?_⟩)
  have hf : H1 s1.heap.objs.size = none := I1.hok.fresh (Nat.le_refl _)
  refine ⟨.ref s1.heap.objs.size, upd H1 s1.heap.objs.size (.tup xs), I1.laid (t' := s1.toks) (fun b u e => Heap.get?_push_of_some _ e) (Nat.le_refl _) ?_, rfl, q _ hf⟩
  exact ⟨z, us, r, ⟨_, Heap.get?_push_size _ rfl, rfl, _, rfl⟩⟩
theorem pe_lst (h : PA X es t) : PE X (.List es pos) (tLst t) := by
  intro pins s σ H Q I hq
  refine wpAny_List_spliced (thn (h pos pins s σ H _ I hq) fun us s1 ⟨xs, H1, I1, r, z, q⟩ => ⟨by rw [← r.length]; exact z, ?_⟩)
  have hf : H1 s1.heap.objs.size = none := I1.hok.fresh (Nat.le_refl _)
  refine ⟨.ref s1.heap.objs.size, upd H1 s1.heap.objs.size (.lst xs), I1.laid (t' := s1.toks) (fun b u e => Heap.get?_push_of_some _ e) (Nat.le_refl _) ?_, rfl, q _ hf⟩
  exact ⟨z, us, 0, r, Heap.get?_push_size _ rfl⟩
end

abbrev Sp := List V → Hp → VK → XK → Prop
abbrev CXT := List Env → Hp → Shared → XK → Value → Shared → Prop

structure Env0 (P : Program) (w : World) (K : PySem.W.Frag) (mg : Str → Option Value) (base : Heap) (A : Around) (outer : List Env) (s : Shared) (H : Hp) : Prop where
  frames : A.frames = some outer
  mod : Mod K mg base
  bs : ∀ b o, base.get? b = some o → s.heap.get? b = some o ∧ H b = none
  bsz : base.objs.size ≤ s.heap.objs.size
  funs : s.heap.FunFrames base outer
  frf : ∀ b ∈ frs outer, H b = none
  hok : HOk P w H s.heap
  bare : AllBare s.gens
def CE (outer : List Env) (P : Program) (w : World) (H : Hp) (s : Shared) (Q : VK) (u : Value) (s' : Shared) : Prop :=
  ∃ v H', s'.os = s.os ∧ AllBare s'.gens ∧ Un (frs outer) [] H H' s.heap s'.heap ∧ HOk P w H' s'.heap ∧ RelV v u ∧ Q v H'
def CR (CX : CXT) (outer : List Env) (P : Program) (w : World) (H : Hp) (s : Shared) (Q : VK) (E : XK) (r : Result) (s' : Shared) : Prop :=
  match r with
  | .ok (.ret u) => CE outer P w H s Q u s'
  | .ok _ => False
  | .error e => CX outer H s E e s'
structure FnOk (P : Program) (w : World) (K : PySem.W.Frag) (mg : Str → Option Value) (base : Heap) (CX : CXT) (k : Nat) (f : Addr) (fd : FuncData) (ps : List Str) (sp : Sp) : Prop where
  len : ∀ vs H Q E, sp vs H Q E → vs.length = ps.length
  run : ∀ (A : Around) (outer : List Env) (s : Shared) (H : Hp) (args : Args) (us : List Value) (vs : List V) (Q : VK) (E : XK), Room k A → Env0 P w K mg base A outer s H → BindsTo s fd args (ps.zip us) → Vals vs us → sp vs H Q E →
    codeAny (model P w) A (.call (.ref f) args) (CR CX outer P w H s Q E) s
theorem FnOk.mono {P : Program} {w : World} {K : PySem.W.Frag} {mg : Str → Option Value} {base : Heap} {CX : CXT} {j k : Nat} {f : Addr} {fd : FuncData} {ps : List Str} {sp : Sp} (F : FnOk P w K mg base CX j f fd ps sp) (h : j ≤ k) :
    FnOk P w K mg base CX k f fd ps sp := ⟨F.len, fun A outer s H args us vs Q E hr => F.run A outer s H args us vs Q E (hr.mono h)⟩
theorem FnOk.imp {P : Program} {w : World} {K : PySem.W.Frag} {mg : Str → Option Value} {base : Heap} {CX : CXT} {k : Nat} {f : Addr} {fd : FuncData} {ps : List Str} {sp sp' : Sp} (F : FnOk P w K mg base CX k f fd ps sp)
    (h : ∀ vs H Q E, sp' vs H Q E → sp vs H Q E) : FnOk P w K mg base CX k f fd ps sp' :=
  ⟨fun vs H Q E q => F.len vs H Q E (h _ _ _ _ q), fun A outer s H args us vs Q E hr he hb hv hs => F.run A outer s H args us vs Q E hr he hb hv (h _ _ _ _ hs)⟩

theorem Env0.make {P : Program} {w : World} {K : PySem.W.Frag} {mg : Str → Option Value} {base : Heap} {A : Around} {outer : List Env} {s : Shared} {H : Hp} (e : Env0 P w K mg base A outer s H) (C : Addr) (us : List Value) (kw : List (Str × Value)) :
    Env0 P w K mg base (A.under (.builtin "type.__call__" ⟨.ref C :: us, kw⟩)) outer s H := ⟨by first | exact e.frames | (simpa [Around.under, Code.envs, Code.isFrame, pushEnvs] using e.frames), e.mod, e.bs, e.bsz, e.funs, e.frf, e.hok, e.bare⟩
theorem Env0.in1 {P : Program} {w : World} {K : PySem.W.Frag} {mg : Str → Option Value} {base : Heap} {A : Around} {outer : List Env} {s : Shared} {H : Hp} (e : Env0 P w K mg base A outer s H) :
    Env0 P w K mg base A.in1 outer s H := ⟨e.frames, e.mod, e.bs, e.bsz, e.funs, e.frf, e.hok, e.bare⟩

section
variable {X : Cx} {pins : List (Addr × Obj)} {σ : St} {H : Hp} {s s' : Shared}
theorem Inv.env0 (I : Inv X pins σ H s) : Env0 X.prog X.w X.K X.mg X.base X.A X.stack s H :=
  ⟨I.ok.frames, I.ok.mod, I.bs, Nat.le_trans I.ok.bsz I.sz, I.stack, I.stkFree, I.hok, I.bare⟩
theorem Inv.after {Q : VK} {u : Value} (I : Inv X pins σ H s) (h : CE X.stack X.prog X.w H s Q u s') : EP X pins σ Q u s' := by
  obtain ⟨v, H', os, bare, un, hok, r, q⟩ := h
  obtain ⟨hh, g, d, t, os'⟩ := s'
  obtain rfl : os' = s.os := os
  exact ⟨v, H', I.call (h' := hh) (g' := g) (d' := d) (t' := t) (ch := []) un hok bare (fun b z => absurd z (by simp)), r, q⟩
end

def tCall (sp : Sp) (dvs : List V) (E : XK) (t : TA) : TE := fun σ H Q => t σ H fun vs H1 => sp (vs ++ dvs) H1 Q E
def tMeth (C : Addr) (m : Str) (sp : Sp) (dvs : List V) (E : XK) (ta : TE) (t : TA) : TE := fun σ H Q => ta σ H fun x H1 => ∃ a dx fs, x = .ref a ∧ H1 a = some (.ins C dx fs) ∧ fs.lookup m = none ∧
  t σ H1 fun vs H2 => sp (x :: (vs ++ dvs)) H2 Q E
def tMake (C : Addr) (sp : Sp) (dvs : List V) (E : XK) (t : TA) : TE := fun σ H Q => t σ H fun vs H1 => ∀ x dx, H1 x = none → H1 dx = none → dx ≠ x →
  sp (.ref x :: (vs ++ dvs)) (upd (upd H1 dx (.own x)) x (.ins C dx [])) (fun v H2 => v = .non ∧ Q (.ref x) H2) E

def Binds (K : PySem.W.Frag) (fd : FuncData) (ps : List Str) (ds : List Value) : Prop :=
  ∀ (s : Shared) (us : List Value), K.In s.heap → (us ++ ds).length = ps.length → BindsTo s fd ⟨us, []⟩ (ps.zip (us ++ ds))
theorem Binds.all {K : PySem.W.Frag} {fd : FuncData} {ps : List Str} (h : ∀ us : List Value, us.length = ps.length → bindArgs fd ⟨us, []⟩ = pure (ps.zip us)) : Binds K fd ps [] := fun s us _ hl => by
  rw [List.append_nil] at hl ⊢
  exact .of_eq (h us hl)

def Passes (CX : CXT) (X : Cx) (E : XK) : Prop := ∀ (pins : List (Addr × Obj)) (σ : St) (H : Hp) (s : Shared) (e : Value) (s' : Shared), Inv X pins σ H s → CX X.stack H s E e s' → X.xe e s'

section
variable {X : Cx} {CX : CXT} {k : Nat} {f C : Addr} {fd : FuncData} {ps : List Str} {sp : Sp} {dvs : List V} {ds : List Value} {E : XK} {x m : Str} {p pos apos : Pos} {e o : Expr} {es : List Expr} {ta : TE} {t : TA}

theorem run_fn {pins : List (Addr × Obj)} {σ : St} {H : Hp} {s : Shared} {Q : VK} {us : List Value} {vs : List V} (F : FnOk X.prog X.w X.K X.mg X.base CX k f fd ps sp) (hr : Room k X.A) (hb : Binds X.K fd ps ds) (hd : Vals dvs ds) (hx : Passes CX X E)
    (I : Inv X pins σ H s) (r : Vals vs us) (h : sp (vs ++ dvs) H Q E) : wpAny (model X.prog X.w) X.A (call (.ref f) us) (EP X pins σ Q) X.xe s := by
  have r2 : Vals (vs ++ dvs) (us ++ ds) := r.append hd
  have hl : (us ++ ds).length = ps.length := by rw [← r2.length]; exact F.len _ _ _ _ h
  refine wpAny_call (codeAny_mono (F.run X.A X.stack s H ⟨us, []⟩ (us ++ ds) (vs ++ dvs) Q E hr I.env0 (hb s us I.kIn hl) r2 h) fun r s' hq => ?_)
  cases r with
  | error e => exact hx pins σ H s e s' I hq
  | ok fl =>
    cases fl with
    | ret u => exact I.after hq
    | next => exact False.elim hq
    | brk => exact False.elim hq
    | cont => exact False.elim hq

theorem pe_call (F : FnOk X.prog X.w X.K X.mg X.base CX k f fd ps sp) (hr : Room k X.A) (hg : Gl X x) (hm : X.mg x = some (.ref f)) (hk : PySem.W.keepIn X.K (.ref f) = true) (hb : Binds X.K fd ps ds) (hd : Vals dvs ds) (hx : Passes CX X E)
    (ha : PA X (e :: es) t) (hdb : (x == ("__debug__" : Str)) = false := by decide) (he : starEach (e :: es) X.env = (false, eval e X.env) :: starEach es X.env := by rfl) (hpl : (backTo pos (starEach es X.env)).any (·.1) = false := by rfl) :
    PE X (.Call (.Name x p) (e :: es) [] pos) (tCall sp dvs E t) := by
  intro pins s σ H Q I h
  refine wpAny_Call_Name_kw (ld_glob I hg hm ?_ hdb)
  refine PySem.W.callWith_K (h₀ := X.base) I.ok.mod.kin hk (thn (ha pos pins s σ H _ I h) fun us s1 ⟨vs, H1, I1, r, q⟩ => ⟨I1.kIn, ?_⟩) he hpl
  exact run_fn F hr hb hd hx I1 r q
theorem pe_meth {pl : Sem Bool} (he : PE X o ta) (c : Cls X.K C) (hm : Meth X.K C m f) (F : FnOk X.prog X.w X.K X.mg X.base CX k f fd ps sp) (hr : Room k X.A) (hb : Binds X.K fd ps ds) (hd : Vals dvs ds) (hx : Passes CX X E) (ha : PA X (e :: es) t)
    (hst : starEach (e :: es) X.env = (false, eval e X.env) :: starEach es X.env := by rfl) (hpl : (backTo pos (starEach es X.env)).any (·.1) = false := by rfl)
    (ht : eval (.Call (.Attribute o m apos) (e :: es) [] pos) X.env = (do
      let ov ← eval o X.env
      standAt apos.atName
      let (f, first) ← holding [ov] (getMethod ov m pl)
      callWith pos f first (backTo pos (starEach (e :: es) X.env)) (backToKw pos (keywordEach [] X.env))) := by rfl) :
    PE X (.Call (.Attribute o m apos) (e :: es) [] pos) (tMeth C m sp dvs E ta t) := by
  intro pins s σ H Q I h
  refine PySem.W.methodCall_KW (pl := pl) (thn (he pins s σ H _ I h) fun u s1 ⟨x, H1, I1, rx, a, dx, fs, ex, ea, l, q⟩ => ?_) ht
  subst ex
  obtain rfl : u = Value.ref a := rx
  refine getmeth_ok I1 ea c hm l ?_
  refine PySem.W.callWith_K (first := [.ref a]) (h₀ := X.base) I.ok.mod.kin hm.kp (thn (ha pos pins s1 σ H1 _ I1 q) fun us s2 ⟨vs, H2, I2, r, q2⟩ => ⟨I2.kIn, ?_⟩) hst hpl
  exact run_fn (us := .ref a :: us) (vs := .ref a :: vs) F hr hb hd hx I2 (.cons rfl r) q2
structure Mk (K : PySem.W.Frag) (C f : Addr) : Prop where
  makes : PySem.W.makesIn K C = true
  init : PySem.W.findIn K (.ref C) "__init__" = some (some (.ref f))
  fn : PySem.W.isFn K (.ref f) = true
  kp : PySem.W.keepIn K (.ref C) = true

theorem run_make {pins : List (Addr × Obj)} {σ : St} {H : Hp} {s : Shared} {Q : VK} {us : List Value} {vs : List V} (M : Mk X.K C f) (F : FnOk X.prog X.w X.K X.mg X.base CX k f fd ps sp) (hr : Room (k + 1) X.A) (hb : Binds X.K fd ps ds) (hd : Vals dvs ds)
    (hx : Passes CX X E) (I : Inv X pins σ H s) (r : Vals vs us)
    (h : ∀ x dx, H x = none → H dx = none → dx ≠ x → sp (.ref x :: (vs ++ dvs)) (upd (upd H dx (.own x)) x (.ins C dx [])) (fun v H2 => v = .non ∧ Q (.ref x) H2) E) :
    wpAny (model X.prog X.w) X.A (call (.ref C) us) (EP X pins σ Q) X.xe s := by
  have hq := h (s.heap.objs.size + 1) s.heap.objs.size (I.hok.fresh (Nat.le_succ _)) (I.hok.fresh (Nat.le_refl _)) (Nat.ne_of_lt (Nat.lt_succ_self _))
  have I2 := Inv.made (C := C) I
  have r2 : Vals (V.ref (s.heap.objs.size + 1) :: (vs ++ dvs)) (Value.ref (s.heap.objs.size + 1) :: (us ++ ds)) := .cons rfl (r.append hd)
  have hl : (Value.ref (s.heap.objs.size + 1) :: us ++ ds).length = ps.length := by
    have e := r2.length
    rw [F.len _ _ _ _ hq] at e
    exact e.symm
  refine wpAny_call (make_map (f := f) I.kIn M.makes M.init (beq_iff_eq.mp M.fn) (codeAny_mono (F.run _ X.stack _ _ ⟨Value.ref (s.heap.objs.size + 1) :: us, []⟩ (Value.ref (s.heap.objs.size + 1) :: (us ++ ds)) _ _ E (hr.make C us [])
    (I2.env0.make C us []) (hb _ (Value.ref (s.heap.objs.size + 1) :: us) I2.kIn hl) r2 hq) fun r s' hq' => ?_))
  cases r with
  | error e => exact hx pins σ _ _ e s' I2 hq'
  | ok fl =>
    cases fl with
    | ret u =>
      obtain ⟨v, H', I3, rv, ev, q3⟩ := I2.after hq'
      subst ev
      exact ⟨rv, ⟨V.ref (s.heap.objs.size + 1), H', I3, rfl, q3⟩⟩
    | next => exact False.elim hq'
    | brk => exact False.elim hq'
    | cont => exact False.elim hq'
theorem pe_make (M : Mk X.K C f) (F : FnOk X.prog X.w X.K X.mg X.base CX k f fd ps sp) (hr : Room (k + 1) X.A) (hg : Gl X x) (hm : X.mg x = some (.ref C)) (hb : Binds X.K fd ps ds) (hd : Vals dvs ds) (hx : Passes CX X E)
    (ha : PA X (e :: es) t) (hdb : (x == ("__debug__" : Str)) = false := by decide) (he : starEach (e :: es) X.env = (false, eval e X.env) :: starEach es X.env := by rfl) (hpl : (backTo pos (starEach es X.env)).any (·.1) = false := by rfl) :
    PE X (.Call (.Name x p) (e :: es) [] pos) (tMake C sp dvs E t) := by
  intro pins s σ H Q I h
  refine wpAny_Call_Name_kw (ld_glob I hg hm ?_ hdb)
  refine PySem.W.callWith_K (h₀ := X.base) I.ok.mod.kin M.kp (thn (ha pos pins s σ H _ I h) fun us s1 ⟨vs, H1, I1, r, q⟩ => ⟨I1.kIn, ?_⟩) he hpl
  exact run_make M F hr hb hd hx I1 r q
end

def PK (X : Cx) (kws : List Keyword) (t : TA) : Prop :=
  ∀ (pos : Pos) (pins : List (Addr × Obj)) (s : Shared) (σ : St) (H : Hp) (Q : List V → Hp → Prop), Inv X pins σ H s → t σ H Q → wpAny (model X.prog X.w) X.A (evalAll ((backToKw pos (keywordEach kws X.env)).map (·.2))) (AP X pins σ Q) X.xe s
section
variable {X : Cx} {CX : CXT} {k : Nat} {f C : Addr} {fd : FuncData} {ps ks : List Str} {sp : Sp} {E : XK} {x m : Str} {p pos apos kpos : Pos} {e o : Expr} {es : List Expr} {kws : List Keyword} {te ta : TE} {t tk : TA} {nm : Option Str}
theorem pk_nil : PK X [] tNil := fun _ _ _ _ H Q I h => wpAny_evalAll_nil ⟨[], H, I, .nil, h⟩
theorem pk_cons (ha : PE X e te) (hr : PK X kws t) : PK X (⟨nm, e, kpos⟩ :: kws) (tCons te t) := by
  intro pos pins s σ H Q I h
  show wpAny _ _ (evalAll ((do let v ← eval e X.env; standAt pos; pure v) :: (backToKw pos (keywordEach kws X.env)).map (·.2))) _ _ s
  refine wpAny_evalAll_cons (wpAny_bind (thn (ha pins s σ H _ I h) fun u s1 ⟨x, H1, I1, r1, q1⟩ => wpAny_bind (wpAny_standAt (wpAny_pure ?_))))
  exact thn (hr pos pins s1 σ H1 _ I1 q1) fun us s2 ⟨xs, H2, I2, r2, q2⟩ => ⟨x :: xs, H2, I2, .cons r1 r2, q2⟩

structure KBinds (K : PySem.W.Frag) (fd : FuncData) (ps ks : List Str) (g : List Value → List Value → List Value) (gV : List V → List V → List V) : Prop where
  to : ∀ (s : Shared) (us ws : List Value), K.In s.heap → (g us ws).length = ps.length → BindsTo s fd ⟨us, ks.zip ws⟩ (ps.zip (g us ws))
  rel : ∀ {vs : List V} {us : List Value} {zs : List V} {ws : List Value}, Vals vs us → Vals zs ws → Vals (gV vs zs) (g us ws)
variable {g : List Value → List Value → List Value} {gV : List V → List V → List V}
end

structure FnScope (N P : List Str) (sc : Scope) : Prop where
  kind : sc.kind = .function
  co : sc.isCoroutine = false
  gen : sc.isGenerator = false
  nd : N.Nodup
  pre : N.take P.length = P
  par : ∀ x ∈ P, sc.names.lookup x = some .local ∨ sc.names.lookup x = some .cell
  nofree : ∀ y ∈ sc.names, y.2 ≠ .free

theorem bindL_out {kindOf : Str → Option NameKind} {x : Str} : ∀ {binds : List (Str × Value)} {m : Str → Option Value}, (∀ v, (x, v) ∉ binds) → bindL kindOf binds m x = m x
  | [], _, _ => rfl
  | (n, v) :: r, m, h => by
    unfold bindL
    rw [bindL_out fun w hw => h w (List.mem_cons_of_mem _ hw)]
    split
    · have : x ≠ n := by rintro rfl; exact h v List.mem_cons_self
      simp [this]
    · rfl
theorem bindC_out {kindOf : Str → Option NameKind} {x : Str} : ∀ {binds : List (Str × Value)} {m : Str → Option Value}, (∀ v, (x, v) ∉ binds) → bindC kindOf binds m x = m x
  | [], _, _ => rfl
  | (n, v) :: r, m, h => by
    unfold bindC
    rw [bindC_out fun w hw => h w (List.mem_cons_of_mem _ hw)]
    split
    · rfl
    · have : x ≠ n := by rintro rfl; exact h v List.mem_cons_self
      simp [this]
theorem bindL_get {kindOf : Str → Option NameKind} {x : Str} {v : Value} : ∀ {P : List Str} {vs : List Value} {i : Nat} {m : Str → Option Value}, P.Nodup → P[i]? = some x → vs[i]? = some v → kindOf x = some .local →
    bindL kindOf (P.zip vs) m x = some v
  | [], _, _, _, _, h, _, _ => by simp at h
  | _ :: _, [], _, _, _, _, h, _ => by simp at h
  | p :: P, w :: vs, 0, m, nd, h1, h2, hk => by
    simp at h1 h2; subst h1; subst h2
    show bindL kindOf ((p, w) :: P.zip vs) m p = _
    unfold bindL
    rw [bindL_out fun v hv => (List.nodup_cons.mp nd).1 (List.of_mem_zip hv).1, if_pos hk]
    simp
  | p :: P, w :: vs, i + 1, m, nd, h1, h2, hk => by
    show bindL kindOf ((p, w) :: P.zip vs) m x = _
    unfold bindL
    exact bindL_get (i := i) (List.nodup_cons.mp nd).2 (by simpa using h1) (by simpa using h2) hk
theorem bindC_get {kindOf : Str → Option NameKind} {x : Str} {v : Value} : ∀ {P : List Str} {vs : List Value} {i : Nat} {m : Str → Option Value}, P.Nodup → P[i]? = some x → vs[i]? = some v → kindOf x ≠ some .local →
    bindC kindOf (P.zip vs) m x = some v
  | [], _, _, _, _, h, _, _ => by simp at h
  | _ :: _, [], _, _, _, _, h, _ => by simp at h
  | p :: P, w :: vs, 0, m, nd, h1, h2, hk => by
    simp at h1 h2; subst h1; subst h2
    show bindC kindOf ((p, w) :: P.zip vs) m p = _
    unfold bindC
    rw [bindC_out fun v hv => (List.nodup_cons.mp nd).1 (List.of_mem_zip hv).1, if_neg hk]
    simp
  | p :: P, w :: vs, i + 1, m, nd, h1, h2, hk => by
    show bindC kindOf ((p, w) :: P.zip vs) m x = _
    unfold bindC
    exact bindC_get (i := i) (List.nodup_cons.mp nd).2 (by simpa using h1) (by simpa using h2) hk

def start (N : List Str) (vs : List V) : St := vs.map some ++ List.replicate (N.length - vs.length) none

def cxOf (CX : CXT) (P : Program) (w : World) (K : PySem.W.Frag) (mg : Str → Option Value) (base : Heap) (N : List Str) (qual : Str) (scope : Scope) (f : Addr) (cd : Value) (A : Around) (outer : List Env) (s : Shared) (H : Hp) (E : XK) : Cx where
  prog := P
  w := w
  K := K
  mg := mg
  base := base
  A := A.deeper (envOfC qual scope s.heap.objs.size f cd)
  N := N
  s₀ := s
  H₀ := H
  env := envOfC qual scope s.heap.objs.size f cd
  outer := outer
  stack := envOfC qual scope s.heap.objs.size f cd :: outer
  ex := []
  calm := true
  fn := fun _ => true
  pn := []
  xe := fun e s' => wpAny (model P w) (A.deeper (envOfC qual scope s.heap.objs.size f cd)) (leaving (envOfC qual scope s.heap.objs.size f cd) e) (fun _ s'' => CX outer H s E e s'') (fun e' s'' => CX outer H s E e' s'') s'

theorem cell_has {sc : Scope} {n : Nat} {x : Str} (h : sc.names.lookup x = some .cell) : ∃ c, (cellsFrom n sc.names []).lookup x = some c := by
  have q := PySem.W.cellsFrom_some sc.names n [] (.inl h)
  exact Option.isSome_iff_exists.mp q

theorem inv_start {CX : CXT} {P : Program} {w : World} {K : PySem.W.Frag} {mg : Str → Option Value} {base : Heap} {N ps : List Str} {qual : Str} {scope : Scope} {f : Addr} {cd : Value} {A : Around} {outer : List Env} {s s1 : Shared} {H : Hp} {E : XK} {us : List Value} {vs : List V}
    (S : FnScope N ps scope) (hd : A.handled = none) (e0 : Env0 P w K mg base A outer s H) (hl : vs.length = ps.length) (r : Vals vs us)
    (x : InCallC s s.heap.objs.size (bindL (envOfC qual scope s.heap.objs.size f cd).kindOf (ps.zip us) fun _ => none) (cellsFrom (s.heap.objs.size + 1) scope.names []) (bindC (envOfC qual scope s.heap.objs.size f cd).kindOf (ps.zip us) fun _ => none) s1) :
    Inv (cxOf CX P w K mg base N qual scope f cd A outer s H E) [] (start N vs) H s1 := by
  have hpl : ps.length ≤ N.length := by have := congrArg List.length S.pre; rw [List.length_take] at this; omega
  obtain ⟨h1, tk, rfl, hk⟩ := x.done
  have noA : ∀ b : Addr, b ∉ (cxOf CX P w K mg base N qual scope f cd A outer s H E).ex := fun b z => absurd (show b ∈ ([] : List Addr) from z) (by simp)
  refine ⟨⟨e0.mod, S.kind, rfl, rfl, Nat.le_refl _, fun y z c h1 h2 => ?_, fun y hy => ?_, fun y c _ h => ?_, fun _ => hd, Around.frames_deeper e0.frames, .inr ⟨rfl, rfl⟩, fun b z => absurd z (noA b), e0.bs, e0.bsz, fun b _ _ => noA b, fun b z => absurd z (noA b), e0.funs, e0.frf⟩,
    rfl, e0.bare, Un.kept hk, ⟨_, x.toInCall.ns, fun i y v h1 h2 h3 => ?_⟩, fun y c h => ⟨_, x.cell y c h⟩, e0.hok.fresh (Nat.le_refl _), fun y c h => ?_, fun p hp => absurd (show p ∈ ([] : List (Addr × Obj)) from hp) (by simp), e0.hok.kept hk, ?_⟩
  · exact name_of_addr x.apart (PySem.mem_of_lookup h1) (PySem.mem_of_lookup h2)
  · have hy : scope.names.lookup y = some .cell ∨ scope.names.lookup y = some .free := hy
    rcases hy with hy | hy
    · exact cell_has hy
    · exact absurd rfl (S.nofree _ (PySem.mem_of_lookup hy))
  · exact Nat.le_of_lt (x.above y c (PySem.mem_of_lookup h))
  · have hi : i < vs.length := by
      unfold start at h2
      by_cases hi : i < vs.length
      · exact hi
      · rw [List.getElem?_append_right (by simpa using hi)] at h2
        rw [List.getElem?_replicate] at h2
        split at h2 <;> cases h2
    have ha : vs[i]? = some v := by
      unfold start at h2
      rw [List.getElem?_append_left (by simpa using hi), List.getElem?_map] at h2
      cases e : vs[i]? with
      | none => rw [e] at h2; cases h2
      | some a => rw [e] at h2; cases h2; rfl
    obtain ⟨u, hu, rv⟩ := r.get ha
    have hp : ps[i]? = some y := by
      rw [← S.pre, List.getElem?_take_of_lt (by omega)]; exact h1
    have ndP : ps.Nodup := by rw [← S.pre]; exact S.nd.sublist (List.take_sublist _ _)
    refine ⟨u, rv, ?_⟩
    rcases S.par y (List.mem_of_getElem? hp) with k | k
    · exact .inl ⟨k, bindL_get ndP hp hu k⟩
    · obtain ⟨c, e⟩ := cell_has (n := s.heap.objs.size + 1) k
      refine .inr ⟨.inl k, c, e, ?_⟩
      have q := x.cell y c e
      rw [bindC_get ndP hp hu (by show scope.names.lookup y ≠ _; rw [k]; decide)] at q
      exact q
  · exact e0.hok.fresh (Nat.le_of_lt (x.above y c (PySem.mem_of_lookup h)))
  · unfold start
    show _ = N.length
    rw [List.length_append, List.length_map, List.length_replicate]
    omega

theorem fn_of {CX : CXT} {P : Program} {w : World} {K : PySem.W.Frag} {mg : Str → Option Value} {base : Heap} {k : Nat} {f : Addr} {name qual : Str} {params : Arguments} {body : List Stmt} {scope : Scope} {dV kV doc pm cdv ct oc : Value} {an od : Option Addr}
    {osl : Array (Option Value)} {N ps : List Str} {sp : Sp} (lk : K.lookup f = some ⟨oc, od, .func (PySem.W.fnOf name qual params body scope dV kV doc pm an cdv ct), osl⟩) (hcd : PySem.W.codeIn K cdv qual = true) (S : FnScope N ps scope)
    (len : ∀ vs H Q E, sp vs H Q E → vs.length = ps.length)
    (hbody : ∀ (A : Around) (outer : List Env) (s : Shared) (H : Hp) (vs : List V) (Q : VK) (E : XK), Room k (A.deeper (envOfC qual scope s.heap.objs.size f cdv)) → sp vs H Q E →
      ∃ t, PSs (cxOf CX P w K mg base N qual scope f cdv A outer s H E) body t ∧ t { nx := fun _ H' => Q .non H', rt := Q } (start N vs) H) :
    FnOk P w K mg base CX (k + 1) f (PySem.W.fnOf name qual params body scope dV kV doc pm an cdv ct) ps sp := by
  refine ⟨len, fun A outer s H args us vs Q E hr e0 hb r hsp => ?_⟩
  have hl := len _ _ _ _ hsp
  have KX : K.In s.heap := e0.mod.kin.keeps fun b o e => (e0.bs b o e).1
  have lim : s.heap.NoLimit := e0.mod.nolimit.keeps fun b o e => (e0.bs b o e).1
  have hkind : ∀ y ∈ ps.zip us, scope.names.lookup y.1 = some .local ∨ (scope.names.lookup y.1 = some .cell ∧ ((cellsFrom (s.heap.objs.size + 1) scope.names []).lookup y.1).isSome = true) := fun ⟨n, v⟩ hy => by
    rcases S.par n (List.of_mem_zip hy).1 with q | q
    · exact .inl q
    · exact .inr ⟨q, PySem.W.cellsFrom_some _ _ _ (.inl q)⟩
  refine codeAny_call_function hr.depth (KX _ _ lk) rfl S.co S.gen rfl (PySem.W.codeRec_of KX hcd) (hb _ _ _ _ ?_)
  refine wpAny_newFunctionEnv_cells S.kind hkind fun env he s1 x => ?_
  subst he
  refine ⟨lim.keeps x.toInCall.keep, codeAny_func ?_⟩
  obtain ⟨t, ht, hq⟩ := hbody A outer s H vs Q E (hr.deeper _) hsp
  have I : Inv (cxOf CX P w K mg base N qual scope f cdv A outer s H E) [] (start N vs) H s1 := inv_start S hr.hd e0 hl r x
  refine wpAny_mono (ht [] s1 (start N vs) H _ I hq) (fun fl s' hs => ?_) fun e s' hs => hs
  have fin : ∀ {σ' : St} {H' : Hp} {v : V} {u : Value}, Inv (cxOf CX P w K mg base N qual scope f cdv A outer s H E) [] σ' H' s' → RelV v u → Q v H' → CE outer P w H s Q u s' :=
    fun {σ' H' v u} J rv q => ⟨v, H', J.os, J.bare, J.base, J.hok, rv, q⟩
  cases fl with
  | ret u =>
    obtain ⟨v, σ', H', J, rv, q⟩ := hs
    exact fin J rv q
  | next =>
    obtain ⟨σ', H', J, q⟩ := hs
    exact fin (v := V.non) (u := Value.none) J rfl q
  | brk =>
    obtain ⟨_, _, _, q⟩ := hs
    exact False.elim q
  | cont =>
    obtain ⟨_, _, _, q⟩ := hs
    exact False.elim q
end L2

namespace L2
open PySem PySem.Spec PyProof.Rows
section
variable {X : Cx} {x : Str} {p pos : Pos} {e : Expr} {es : List Expr} {t : TA} {id T : String} {r : List V → Hp → VK → Prop}

def tCB (r : List V → Hp → VK → Prop) (t : TA) : TE := fun σ H Q => t σ H fun vs H1 => r vs H1 Q
theorem pe_callB (hc : CallR X (.builtin id) r) (hg : Gl X x) (hm : X.mg x = none) (hv : bootBuiltins x = some (.builtin id)) (ha : PA X (e :: es) t) (hn : x ≠ "__name__" := by decide) (hdb : (x == ("__debug__" : Str)) = false := by decide)
    (he : starEach (e :: es) X.env = (false, eval e X.env) :: starEach es X.env := by rfl) (hpl : (backTo pos (starEach es X.env)).any (·.1) = false := by rfl) : PE X (.Call (.Name x p) (e :: es) [] pos) (tCB r t) := by
  intro pins s σ H Q I h
  refine wpAny_Call_Name_kw (ld_blt I hg hm hv ?_ hn hdb)
  exact PyProof.Rows.callWith_builtin1 (thn (ha pos pins s σ H _ I h) fun us s1 ⟨vs, H1, I1, r1, q1⟩ => hc pins s1 σ H1 vs us Q I1 r1 q1) he hpl
theorem pe_callTy (hc : CallR X (.type T) r) (hg : Gl X x) (hm : X.mg x = none) (hv : bootBuiltins x = some (.type T)) (ha : PA X (e :: es) t) (hn : x ≠ "__name__" := by decide) (hdb : (x == ("__debug__" : Str)) = false := by decide)
    (he : starEach (e :: es) X.env = (false, eval e X.env) :: starEach es X.env := by rfl) (hpl : (backTo pos (starEach es X.env)).any (·.1) = false := by rfl) : PE X (.Call (.Name x p) (e :: es) [] pos) (tCB r t) := by
  intro pins s σ H Q I h
  refine wpAny_Call_Name_kw (ld_blt I hg hm hv ?_ hn hdb)
  exact PyProof.Rows.callWith_type1 (thn (ha pos pins s σ H _ I h) fun us s1 ⟨vs, H1, I1, r1, q1⟩ => hc pins s1 σ H1 vs us Q I1 r1 q1) he hpl
end
end L2

namespace HT
open PySem PyProof.Rows

section
open PySem.SeqAt
open PySem.AutoSeq1 (wpAny_loadPart')
open PySem.MeetsSeq PySem.MeetsSeq2 PySem.MeetsSeq3

end

section
variable {prog : Program} {w : World} {A : Around} {E : Value → Shared → Prop} {s : Shared}

end
end HT

namespace L2
open PySem PySem.Spec PyProof.Rows

abbrev TO := St → Hp → (Option Int → Hp → Prop) → Prop
section
variable {X : Cx} {e : Expr} {te : TE} {lo hi : Option Expr} {tl th : TO} {pos p2 : Pos}

def SlR (X : Cx) (r : V → Option Int → Option Int → Hp → VK → Prop) : Prop :=
  ∀ (pins : List (Addr × Obj)) (s : Shared) (σ : St) (H : Hp) (x : V) (v vl vu : Value) (lo hi : Option Int) (sl : Addr) (Q : VK), Inv X pins σ H s → RelV x v → s.heap.IsSliceOf sl vl vu .none → IsPart vl lo → IsPart vu hi → r x lo hi H Q →
    ∃ T id, typeLookup (.type T) "__getitem__" = pure (some (.builtin id)) ∧ s.TypeIs v T ∧ wpAny (model X.prog X.w) X.A (getItem v (.ref sl)) (EP X pins σ Q) X.xe s
theorem SlR.or {r r' : V → Option Int → Option Int → Hp → VK → Prop} (h : SlR X r) (h' : SlR X r') : SlR X (fun x lo hi H Q => r x lo hi H Q ∨ r' x lo hi H Q) := by
  intro pins s σ H x v vl vu lo hi sl Q I rx hs pl pu q
  rcases q with q | q
  · exact h pins s σ H x v vl vu lo hi sl Q I rx hs pl pu q
  · exact h' pins s σ H x v vl vu lo hi sl Q I rx hs pl pu q
end
end L2

namespace L2
open PySem PySem.Spec PyProof.Rows

def ixN (n : Nat) (i : Int) : Option Nat := if 0 ≤ i then (if i < n then some i.toNat else none) else if -(n : Int) ≤ i then some (i + n).toNat else none
def atI {α : Type} (xs : List α) (i : Int) : Option α := (ixN xs.length i).bind fun j => xs[j]?
theorem ixN_seq {n : Nat} {i : Int} {j : Nat} (h : ixN n i = some j) : seqIndex? i n = some j ∧ j < n ∧ -(n : Int) ≤ i ∧ i < n := by
  unfold ixN at h
  by_cases h0 : 0 ≤ i
  · rw [if_pos h0] at h
    by_cases h1 : i < n
    · rw [if_pos h1] at h
      have e : i.toNat = j := Option.some.inj h
      exact ⟨by rw [seqIndex_of h0 h1, e], by omega, by omega, h1⟩
    · rw [if_neg h1] at h; cases h
  · rw [if_neg h0] at h
    by_cases h1 : -(n : Int) ≤ i
    · rw [if_pos h1] at h
      have e : (i + n).toNat = j := Option.some.inj h
      exact ⟨by rw [seqIndex_neg (by omega) h1, e], by omega, h1, by omega⟩
    · rw [if_neg h1] at h; cases h
theorem atI_get {α : Type} {xs : List α} {i : Int} {v : α} (h : atI xs i = some v) : ∃ j, seqIndex? i xs.length = some j ∧ xs[j]? = some v ∧ j < xs.length ∧ -(xs.length : Int) ≤ i ∧ i < xs.length := by
  unfold atI at h
  cases e : ixN xs.length i with
  | none => rw [e] at h; cases h
  | some j =>
    rw [e] at h
    obtain ⟨h1, h2, h3, h4⟩ := ixN_seq e
    exact ⟨j, h1, h, h2, h3, h4⟩
theorem atI_nat {α : Type} {xs : List α} {j : Nat} {v : α} (h : xs[j]? = some v) : atI xs (j : Int) = some v := by
  have hj : j < xs.length := (List.getElem?_eq_some_iff.mp h).1
  have e : ixN xs.length (j : Int) = some j := by
    unfold ixN
    rw [if_pos (by omega), if_pos (by omega)]; simp
  unfold atI; rw [e]; exact h
def PlainIx (b : Expr) : Prop := ∀ o i, subscripted b false o i = operate [o, i] (getItem o i)
def IxR (X : Cx) (r : R2) : Prop :=
  ∀ (value slice : Expr) (pins : List (Addr × Obj)) (s : Shared) (σ : St) (H : Hp) (x y : V) (v u : Value) (Q : VK), Inv X pins σ H s → RelV x v → RelV y u → r x y H Q →
    subscripted slice false v u = operate [v, u] (getItem v u) → wpAny (model X.prog X.w) X.A (subscriptTail value slice v u) (EP X pins σ Q) X.xe s
def MtR (X : Cx) (id : String) (r : V → List V → Hp → VK → Prop) : Prop :=
  ∀ (pins : List (Addr × Obj)) (s : Shared) (σ : St) (H : Hp) (x : V) (xs : List V) (v : Value) (us : List Value) (Q : VK), Inv X pins σ H s → RelV x v → Vals xs us → r x xs H Q →
    wpAny (model X.prog X.w) X.A (call (.builtin id) (v :: us)) (EP X pins σ Q) X.xe s
section
variable {X : Cx} {a b : Expr} {ta tb : TE} {pos : Pos}
theorem IxR.or {r r' : R2} (h : IxR X r) (h' : IxR X r') : IxR X (fun x y H Q => r x y H Q ∨ r' x y H Q) := by
  intro value slice pins s σ H x y v u Q I rx ry q hs
  rcases q with q | q
  · exact h value slice pins s σ H x y v u Q I rx ry q hs
  · exact h' value slice pins s σ H x y v u Q I rx ry q hs
theorem MtR.or {id : String} {r r' : V → List V → Hp → VK → Prop} (h : MtR X id r) (h' : MtR X id r') : MtR X id (fun x xs H Q => r x xs H Q ∨ r' x xs H Q) := by
  intro pins s σ H x xs v us Q I rx rs q
  rcases q with q | q
  · exact h pins s σ H x xs v us Q I rx rs q
  · exact h' pins s σ H x xs v us Q I rx rs q
theorem pe_ix {r : R2} (hr : IxR X r) (ha : PE X a ta) (hb : PE X b tb) (hs : PlainIx b) : PE X (.Subscript a b pos) (tOp r ta tb) := by
  intro pins s σ H Q I h
  exact Subscript_ (binT ha hb I h fun v u s2 x y H2 I2 rx ry q => hr a b pins s2 σ H2 x y v u Q I2 rx ry q (hs _ _))

def rIxL (K : PySem.W.Frag) : R2 := fun x y H Q => ∃ p xs i v, x = .ref p ∧ y = .int i ∧ SqL K H p xs ∧ atI xs i = some v ∧ Q v H
def rIxT (K : PySem.W.Frag) : R2 := fun x y H Q => ∃ p xs i v, x = .ref p ∧ y = .int i ∧ SqT K H p xs ∧ atI xs i = some v ∧ Q v H
def rIxS : R2 := fun x y H Q => ∃ z i c, x = .str z ∧ y = .int i ∧ z.length ≤ sizeLine ∧ atI z.cps.toList i = some c ∧ Q (.str ⟨#[c]⟩) H
theorem ix_list : IxR X (rIxL X.K) := by
  intro value slice pins s σ H x y v u Q I rx ry h hs
  obtain ⟨p, xs, i, z, rfl, rfl, hq, he, q⟩ := h
  cases rx
  obtain ⟨t, rfl⟩ := ry
  obtain ⟨its, r, pl, hz⟩ := I.list hq
  obtain ⟨j, h1, h2, h3, h4, h5⟩ := atI_get he
  obtain ⟨w, ew, rw'⟩ := r.get h2
  have hl := r.length
  have hn := line63
  have fin : EP X pins σ Q w s := ⟨z, H, I, rw', q⟩
  by_cases h0 : 0 ≤ i
  · have hj : i.toNat = j := by
      rw [seqIndex_of h0 h5] at h1
      exact Option.some.inj h1
    exact item_listR pl.isList h0 (by omega) (by rw [hj]; simpa using ew) fin hs
  · have hj : (i + (its.toArray.size : Int)).toNat = j := by
      rw [seqIndex_neg (by omega) h4] at h1
      rw [List.size_toArray, ← hl]
      exact Option.some.inj h1
    exact subscriptTail_builtinR (x := w) pl.isList.typeIs slot_list_getitem.lookup
      (wpAny_getItem_list_neg (Q := fun r s' => r = w ∧ EP X pins σ Q r s') pl.isList (by omega) (by rw [List.size_toArray] <;> omega) (by omega) (by rw [hj]; simpa using ew) ⟨rfl, fin⟩) hs
theorem ix_tup : IxR X (rIxT X.K) := by
  intro value slice pins s σ H x y v u Q I rx ry h hs
  obtain ⟨p, xs, i, z, rfl, rfl, hq, he, q⟩ := h
  cases rx
  obtain ⟨t, rfl⟩ := ry
  obtain ⟨its, r, pl, hz⟩ := I.tuple hq
  obtain ⟨j, h1, h2, h3, h4, h5⟩ := atI_get he
  obtain ⟨w, ew, rw'⟩ := r.get h2
  have hl := r.length
  have hn := line63
  have fin : EP X pins σ Q w s := ⟨z, H, I, rw', q⟩
  exact subscriptTail_builtinR (x := w) pl.typeIs slot_tuple_getitem.lookup
    (getItem_tuple (j := j) (Q := fun r s' => r = w ∧ EP X pins σ Q r s') pl (by omega) (by omega) (by rw [List.size_toArray, ← hl]; exact h1) (by simpa using ew) ⟨rfl, fin⟩) hs
theorem ix_str : IxR X rIxS := by
  intro value slice pins s σ H x y v u Q I rx ry h hs
  obtain ⟨z, i, c, rfl, rfl, hz, he, q⟩ := h
  obtain ⟨t, rfl⟩ := rx
  obtain ⟨t', rfl⟩ := ry
  obtain ⟨j, h1, h2, h3, h4, h5⟩ := atI_get he
  have hl : z.cps.toList.length = z.length := by simp [Str.length]
  rw [hl] at h1 h4 h5
  have hn := line63
  exact tail_any (typeIs_str s z t) slot_str_getitem.lookup (getItem_str (c := c) (by
    have e1 : decide (i < -(2 ^ 63 : Int)) = false := decide_eq_false (by omega)
    have e2 : decide (i ≥ 2 ^ 63) = false := decide_eq_false (by omega)
    rw [e1, e2, Bool.or_false]) (by rw [h1]; simpa using h2) ⟨.str ⟨#[c]⟩, H, I.tok _, ⟨_, rfl⟩, q⟩) hs
theorem mapSeq_set (its : List Value) (n j : Nat) (u : Value) : Obj.mapSeq (·.setIfInBounds j u) { cls := .type "list", data := .seq its.toArray n } = { cls := .type "list", data := .seq (its.set j u).toArray n } := by
  simp [Obj.mapSeq]
theorem Inv.lst {pins : List (Addr × Obj)} {σ : St} {H : Hp} {s : Shared} {p : Addr} {xs : List V} (I : Inv X pins σ H s) (h : H p = some (.lst xs)) :
    ∃ (its : List Value) (n : Nat), Vals xs its ∧ s.heap.get? p = some { cls := .type "list", data := .seq its.toArray n } ∧ xs.length ≤ sizeLine := by
  obtain ⟨z, its, n, r, e⟩ := I.hok p _ h
  exact ⟨its, n, r, e, z⟩
theorem Inv.lstUpd {pins : List (Addr × Obj)} {σ : St} {H : Hp} {s : Shared} {p : Addr} {xs ys : List V} {its its' : List Value} {n n' : Nat} {f : Obj → Obj} (I : Inv X pins σ H s) (h : H p = some (.lst xs))
    (ho : s.heap.get? p = some { cls := .type "list", data := .seq its.toArray n }) (hf : f { cls := .type "list", data := .seq its.toArray n } = { cls := .type "list", data := .seq its'.toArray n' }) (r : Vals ys its') (hz : ys.length ≤ sizeLine) (t : Nat) :
    Inv X pins σ (upd H p (.lst ys)) { s with heap := s.heap.update p f, toks := t } := by
  have e : (s.heap.update p f).get? p = some { cls := .type "list", data := .seq its'.toArray n' } := by
    rw [Heap.get?_update_self f ho (by rw [hf] <;> rfl), hf]
  refine I.write (x := p) (e := p) (by rw [h]; trivial) (.inl rfl) (fun b u hb q => (Heap.get?_update_other _ _ (Ne.symm hb)).trans q) ⟨_, e⟩ ?_
  exact ⟨hz, its', n', r, e⟩
def rSetL : V → V → V → Hp → (Hp → Prop) → Prop := fun o i v H Q => ∃ p xs k j, o = .ref p ∧ i = .int k ∧ H p = some (.lst xs) ∧ ixN xs.length k = some j ∧ Q (upd H p (.lst (xs.set j v)))
theorem set_list : PSet X rSetL := by
  intro pins s σ H o i v ov iv u Q I ro ri rv h
  obtain ⟨p, xs, k, j, rfl, rfl, hp, hj, q⟩ := h
  cases ro
  obtain ⟨t, rfl⟩ := ri
  obtain ⟨its, n, r, ho, hz⟩ := I.lst hp
  obtain ⟨h1, h2, h3, h4⟩ := ixN_seq hj
  have hl := r.length
  have hn := line63
  have I' : Inv X pins σ (upd H p (.lst (xs.set j v))) { s with heap := s.heap.update p (Obj.mapSeq (·.setIfInBounds j u)) } :=
    I.lstUpd hp ho (mapSeq_set its n j u) (r.set rv j) (by rw [List.length_set]; exact hz) s.toks
  by_cases h0 : 0 ≤ k
  · have hk : k.toNat = j := by
      rw [seqIndex_of h0 h4] at h1
      exact Option.some.inj h1
    exact PySem.W.ki_setAt ho h0 (by omega) (by rw [List.size_toArray, ← hl]; exact h4) (by rw [hk]; exact ⟨_, I', q⟩)
  · have hk : (k + (its.toArray.size : Int)).toNat = j := by
      rw [seqIndex_neg (by omega) h3] at h1
      rw [List.size_toArray, ← hl]
      exact Option.some.inj h1
    exact PySem.W.ki_setBack ho (by omega) (by rw [List.size_toArray, ← hl]; exact h3) (by omega) (by rw [hk]; exact ⟨_, I', q⟩)

def flatV : V → Bool
  | .non => true
  | .bl _ => true
  | .int _ => true
  | .str _ => true
  | _ => false
def eqV : V → V → Bool
  | .non, .non => true
  | .bl a, .bl b => a == b
  | .bl a, .int b => (if a then 1 else 0) == b
  | .int a, .bl b => a == (if b then 1 else 0)
  | .int a, .int b => a == b
  | .str a, .str b => a == b
  | _, _ => false
theorem eqAt_V {A : Around} {s : Shared} {y x : V} {u v : Value} (ry : RelV y u) (rx : RelV x v) (fy : flatV y = true) (fx : flatV x = true) : SeqAt.EqAt A s u v (eqV y x) := by
  cases y with
  | non =>
    cases ry
    cases x with
    | non => cases rx; exact SeqAt.EqAt.same _
    | bl b => cases rx; exact SeqAt.EqAt.none_bool b
    | int b => obtain ⟨t, rfl⟩ := rx; exact SeqAt.EqAt.none_int b t
    | str b => obtain ⟨t, rfl⟩ := rx; exact SeqAt.EqAt.none_str b t
    | _ => exact absurd (show false = true from fx) Bool.false_ne_true
  | bl a =>
    cases ry
    cases x with
    | non => cases rx; exact SeqAt.EqAt.bool_none a
    | bl b => cases rx; exact SeqAt.EqAt.bool_bool a b
    | int b => obtain ⟨t, rfl⟩ := rx; exact SeqAt.EqAt.bool_int a b t
    | str b => obtain ⟨t, rfl⟩ := rx; exact SeqAt.EqAt.bool_str a b t
    | _ => exact absurd (show false = true from fx) Bool.false_ne_true
  | int a =>
    obtain ⟨t', rfl⟩ := ry
    cases x with
    | non => cases rx; exact SeqAt.EqAt.int_none a t'
    | bl b => cases rx; exact SeqAt.EqAt.int_bool a t' b
    | int b => obtain ⟨t, rfl⟩ := rx; exact SeqAt.EqAt.int_int a t' b t
    | str b => obtain ⟨t, rfl⟩ := rx; exact SeqAt.EqAt.int_str a t' b t
    | _ => exact absurd (show false = true from fx) Bool.false_ne_true
  | str a =>
    obtain ⟨t', rfl⟩ := ry
    cases x with
    | non => cases rx; exact SeqAt.EqAt.str_none a t'
    | bl b => cases rx; exact SeqAt.EqAt.str_bool a t' b
    | int b => obtain ⟨t, rfl⟩ := rx; exact SeqAt.EqAt.str_int a t' b t
    | str b => obtain ⟨t, rfl⟩ := rx; exact SeqAt.EqAt.str_str a t' b t
    | _ => exact absurd (show false = true from fx) Bool.false_ne_true
  | _ => exact absurd (show false = true from fy) Bool.false_ne_true
def eqU (x : V) (u : Value) : Bool := match u with
  | .none => eqV .non x
  | .bool b => eqV (.bl b) x
  | .int i _ => eqV (.int i) x
  | .str z _ => eqV (.str z) x
  | _ => false
theorem eqU_of {x y : V} {u : Value} (r : RelV y u) (f : flatV y = true) : eqU x u = eqV y x := by
  cases y with
  | non => cases r; rfl
  | bl b => cases r; rfl
  | int i => obtain ⟨t, rfl⟩ := r; rfl
  | str z => obtain ⟨t, rfl⟩ := r; rfl
  | _ => exact absurd (show false = true from f) Bool.false_ne_true
theorem any_eqU {x : V} : ∀ {xs : List V} {us : List Value}, Vals xs us → xs.all flatV = true → us.any (eqU x) = xs.any fun y => eqV y x
  | _, _, .nil, _ => rfl
  | y :: xs, u :: us, .cons r t, f => by
    rw [List.all_cons, Bool.and_eq_true] at f
    rw [List.any_cons, List.any_cons, eqU_of r f.1, any_eqU t f.2]
theorem mem_eqAt {A : Around} {s : Shared} {x : V} {v : Value} (rx : RelV x v) (fx : flatV x = true) : ∀ {xs : List V} {us : List Value}, Vals xs us → xs.all flatV = true → ∀ u ∈ us, SeqAt.EqAt A s u v (eqU x u)
  | _, _, .nil, _ => fun u hu => by cases hu
  | y :: xs, u :: us, .cons r t, f => fun u' hu => by
    rw [List.all_cons, Bool.and_eq_true] at f
    rcases List.mem_cons.mp hu with rfl | hu
    · rw [eqU_of r f.1]; exact eqAt_V r rx f.1 fx
    · exact mem_eqAt rx fx t f.2 u' hu
def inV (x : V) (xs : List V) : Bool := xs.any fun y => eqV y x
def rIn (K : PySem.W.Frag) (neg : Bool) : R2 := fun x y H Q => ∃ p xs, y = .ref p ∧ (SqL K H p xs ∨ SqT K H p xs) ∧ flatV x = true ∧ xs.all flatV = true ∧ Q (.bl (if neg then !inV x xs else inV x xs)) H
theorem op_in_seq : OpR X (compareOp .In) (rIn X.K false) := by
  intro pins s σ H x y v u Q I rx ry h
  obtain ⟨p, xs, rfl, hq, fx, fs, q⟩ := h
  cases ry
  rcases hq with hq | hq
  · obtain ⟨its, r, pl, hz⟩ := I.list hq
    refine SeqAt.in_listAt (eqU x) pl.isList (fun w hw => mem_eqAt rx fx r fs w (by simpa using hw)) ⟨.bl _, H, I, rfl, ?_⟩
    rw [show its.toArray.any (eqU x) = its.any (eqU x) by simp, any_eqU r fs]
    exact q
  · obtain ⟨its, r, pl, hz⟩ := I.tuple hq
    refine SeqAt.in_tupleAt (eqU x) pl (fun w hw => mem_eqAt rx fx r fs w (by simpa using hw)) ⟨.bl _, H, I, rfl, ?_⟩
    rw [show its.toArray.any (eqU x) = its.any (eqU x) by simp, any_eqU r fs]
    exact q
theorem op_notIn_seq : OpR X (compareOp .NotIn) (rIn X.K true) := by
  intro pins s σ H x y v u Q I rx ry h
  obtain ⟨p, xs, rfl, hq, fx, fs, q⟩ := h
  cases ry
  rcases hq with hq | hq
  · obtain ⟨its, r, pl, hz⟩ := I.list hq
    refine SeqAt.notIn_listAt (eqU x) pl.isList (fun w hw => mem_eqAt rx fx r fs w (by simpa using hw)) ⟨.bl _, H, I, rfl, ?_⟩
    rw [show its.toArray.any (eqU x) = its.any (eqU x) by simp, any_eqU r fs]
    exact q
  · obtain ⟨its, r, pl, hz⟩ := I.tuple hq
    refine SeqAt.notIn_tupleAt (eqU x) pl (fun w hw => mem_eqAt rx fx r fs w (by simpa using hw)) ⟨.bl _, H, I, rfl, ?_⟩
    rw [show its.toArray.any (eqU x) = its.any (eqU x) by simp, any_eqU r fs]
    exact q
theorem call_len_seq : CallR X (.builtin "len") (fun xs H Q => ∃ p ys, xs = [.ref p] ∧ (SqL X.K H p ys ∨ SqT X.K H p ys) ∧ Q (.int ys.length) H) := by
  intro pins s σ H xs us Q I r h
  obtain ⟨p, ys, rfl, hq, q⟩ := h
  obtain ⟨u, rfl, rx⟩ := vals1 r
  cases rx
  have hn := line63
  rcases hq with hq | hq
  · obtain ⟨its, r', pl, hz⟩ := I.list hq
    have hlen := r'.length
    exact Calls.call_len_list pl.isList (by simp only [List.size_toArray] <;> omega) ⟨.int ys.length, H, I.tok _, ⟨s.toks + 1, by rw [List.size_toArray, hlen]⟩, q⟩
  · obtain ⟨its, r', pl, hz⟩ := I.tuple hq
    have hlen := r'.length
    exact len_tuple pl (by simp only [List.size_toArray] <;> omega) ⟨.int ys.length, H, I.tok _, ⟨s.toks + 1, by rw [List.size_toArray, hlen]⟩, q⟩
theorem CallR.or {f : Value} {r r' : List V → Hp → VK → Prop} (h : CallR X f r) (h' : CallR X f r') : CallR X f (fun xs H Q => r xs H Q ∨ r' xs H Q) := by
  intro pins s σ H xs us Q I rs q
  rcases q with q | q
  · exact h pins s σ H xs us Q I rs q
  · exact h' pins s σ H xs us Q I rs q
theorem call_list_of : CallR X (.type "list") (fun xs H Q => ∃ p ys, xs = [.ref p] ∧ (SqL X.K H p ys ∨ SqT X.K H p ys) ∧ ∀ l, H l = none → Q (.ref l) (upd H l (.lst ys))) := by
  intro pins s σ H xs us Q I r h
  obtain ⟨p, ys, rfl, hq, q⟩ := h
  obtain ⟨u, rfl, rx⟩ := vals1 r
  cases rx
  have fin : ∀ (its : List Value), Vals ys its → ys.length ≤ sizeLine → ∀ (h' : Heap) (c' : Nat), (∀ b o', s.heap.get? b = some o' → h'.get? b = some o') →
      h'.get? s.heap.objs.size = some { cls := .type "list", dict := none, data := .seq its.toArray c', slots := #[] } → EP X pins σ Q (.ref s.heap.objs.size) { s with heap := h' } := fun its r' hz h' c' kp e =>
    ⟨.ref s.heap.objs.size, _, I.laid (t' := s.toks) kp (Nat.le_refl _) (show ObjOk X.prog X.w _ h' _ (.lst ys) from ⟨hz, its, c', r', e⟩), rfl, q _ (I.hok.fresh (Nat.le_refl _))⟩
  rcases hq with hq | hq
  · obtain ⟨its, r', pl, hz⟩ := I.list hq
    have hlen := r'.length
    obtain ⟨o, ho, hc, n, hd⟩ := pl.isList
    exact call_list_seq p (.inl rfl) ho hc hd (fun h' c' kp e => fin its r' hz h' c' kp e) (by simp only [List.size_toArray] <;> omega)
  · obtain ⟨its, r', pl, hz⟩ := I.tuple hq
    have hlen := r'.length
    obtain ⟨o, ho, hc, n, hd⟩ := pl
    exact call_list_seq p (.inr rfl) ho hc hd (fun h' c' kp e => fin its r' hz h' c' kp e) (by simp only [List.size_toArray] <;> omega)
theorem call_tuple_of : CallR X (.type "tuple") (fun xs H Q => ∃ p ys, xs = [.ref p] ∧ ((SqL X.K H p ys ∧ ∀ l, H l = none → Q (.ref l) (upd H l (.tup ys))) ∨ (SqT X.K H p ys ∧ Q (.ref p) H))) := by
  intro pins s σ H xs us Q I r h
  obtain ⟨p, ys, rfl, h⟩ := h
  obtain ⟨u, rfl, rx⟩ := vals1 r
  cases rx
  rcases h with ⟨hq, q⟩ | ⟨hq, q⟩
  · obtain ⟨its, r', pl, hz⟩ := I.list hq
    have hlen := r'.length
    refine call_tuple_list pl.isList (fun h' kp => ?_) (by simp only [List.size_toArray] <;> omega)
    have I1 : Inv X pins σ H { s with heap := h' } := I.kept (t' := s.toks) kp
    have I2 : Inv X pins σ (upd H h'.objs.size (.tup ys)) { s with heap := h'.push { cls := .type "tuple", data := .seq its.toArray } } :=
      I1.laid (t' := s.toks) (fun b o e => Heap.get?_push_of_some _ e) (Nat.le_refl _) (show ObjOk X.prog X.w _ _ _ (.tup ys) from ⟨hz, its, r', IsTup.new _ _⟩)
    exact ⟨.ref h'.objs.size, _, I2, rfl, q _ (I1.hok.fresh (Nat.le_refl _))⟩
  · obtain ⟨its, r', pl, hz⟩ := I.tuple hq
    exact call_tuple_same pl ⟨.ref p, H, I, rfl, q⟩

def tyV (K : PySem.W.Frag) (T : String) (x : V) (H : Hp) : Prop := match x with
  | .str _ => T = "str"
  | .int _ => T = "int"
  | .ref p => (T = "list" ∧ ∃ xs, SqL K H p xs) ∨ (T = "tuple" ∧ ∃ o, K.lookup p = some o ∧ o.cls = .type "tuple" ∧ o.dict = none) ∨
      (T = "dict" ∧ ((∃ kvs, H p = some (.dK kvs)) ∨ ∃ kvs, H p = some (.dT kvs))) ∨ (T = "set" ∧ ∃ S n, H p = some (.set S n))
  | _ => False
theorem tyV_is {pins : List (Addr × Obj)} {σ : St} {H : Hp} {s : Shared} {T : String} {x : V} {v : Value} (I : Inv X pins σ H s) (r : RelV x v) (ty : tyV X.K T x H) :
    s.TypeIs v T ∧ ∀ a, v = .ref a → ∃ ob, s.heap.get? a = some ob ∧ ob.dict = none := by
  cases x with
  | str z =>
    obtain ⟨t, rfl⟩ := r
    cases (show T = "str" from ty)
    exact ⟨typeIs_str s z t, fun _ e => nomatch e⟩
  | int i =>
    obtain ⟨t, rfl⟩ := r
    cases (show T = "int" from ty)
    exact ⟨typeIs_int s i t, fun _ e => nomatch e⟩
  | ref p =>
    cases r
    rcases ty with ⟨rfl, xs, hq⟩ | ⟨rfl, o, hk, hc, hd⟩ | ⟨rfl, hk⟩ | ⟨rfl, S, n, hk⟩
    · obtain ⟨its, _, pl, _⟩ := I.list hq
      refine ⟨pl.isList.typeIs, fun a e => ?_⟩
      cases e
      obtain ⟨o, n, e, c, hd, _⟩ := pl
      exact ⟨o, e, hd⟩
    · refine ⟨⟨o, I.kIn p o hk, hc⟩, fun a e => ?_⟩
      cases e
      exact ⟨o, I.kIn _ o hk, hd⟩
    · have z : ∃ o, s.heap.get? p = some o ∧ o.ExactDict := by
        rcases hk with ⟨kvs, hk⟩ | ⟨kvs, hk⟩
        · obtain ⟨_, _, _, _, o, _, _, e, ex, _⟩ := I.hok p _ hk
          exact ⟨o, e, ex⟩
        · obtain ⟨_, _, _, _, o, _, _, e, ex, _⟩ := I.hok p _ hk
          exact ⟨o, e, ex⟩
      obtain ⟨o, e, ex⟩ := z
      refine ⟨⟨o, e, ex.1⟩, fun a e2 => ?_⟩
      cases e2
      exact ⟨o, e, ex.2.1⟩
    · obtain ⟨o, _, _, _, e, ex, _⟩ := I.hok p _ hk
      refine ⟨⟨o, e, ex.1⟩, fun a e2 => ?_⟩
      cases e2
      exact ⟨o, e, ex.2.1⟩
  | _ => exact False.elim ty
def tBM0 (K : PySem.W.Frag) (T : String) (r : V → List V → Hp → VK → Prop) (to : TE) : TE := fun σ H Q => to σ H fun x H1 => tyV K T x H1 ∧ r x [] H1 Q
def tBM (K : PySem.W.Frag) (T : String) (r : V → List V → Hp → VK → Prop) (to : TE) (t : TA) : TE := fun σ H Q => to σ H fun x H1 => tyV K T x H1 ∧ t σ H1 fun xs H2 => r x xs H2 Q
variable {o e : Expr} {es : List Expr} {to : TE} {t : TA} {name : Str} {apos cpos : Pos} {T id : String} {r : V → List V → Hp → VK → Prop}
theorem pe_bm0 (pa : PlainAttrs T) (slot : Slot T name id) (hty : typeOf (.builtin id) = pure (.type "method_descriptor")) (hm : MtR X id r) (ho : PE X o to)
    (hbase : attributeBase o name X.env (eval o X.env) = eval o X.env := by rfl) (hline : (apos.endLine == cpos.line) = true := by rfl) : PE X (.Call (.Attribute o name apos) [] [] cpos) (tBM0 X.K T r to) := by
  intro pins s σ H Q I h
  refine wpAny_Call_method0_late hbase hline (thn (ho pins s σ H _ I h) fun v s1 ⟨x, H1, I1, r1, ty, q1⟩ => ?_)
  obtain ⟨h1, h2⟩ := tyV_is I1 r1 ty
  exact ⟨T, id, pa, slot, hty, h1, h2, Calls.callWith_builtin rfl (PySem.evalArgs_none (hm pins s1 σ H1 x [] v [] Q I1 r1 .nil q1))⟩
theorem pe_bm (pa : PlainAttrs T) (slot : Slot T name id) (hty : typeOf (.builtin id) = pure (.type "method_descriptor")) (hm : MtR X id r) (ho : PE X o to) (ha : PA X (e :: es) t)
    (hbase : attributeBase o name X.env (eval o X.env) = eval o X.env := by rfl)
    (hfew : ((backTo cpos (starEach (e :: es) X.env)).all (fun x => !x.1) && (backToKw cpos (keywordEach [] X.env)).all (fun x => x.1.isSome)
      && decide ((e :: es).length + ([] : List Keyword).length + (if ([] : List Keyword).isEmpty then 0 else 1) < 30)) = true := by rfl)
    (hline : (apos.endLine == cpos.line) = true := by rfl) (hs : starEach (e :: es) X.env = (false, eval e X.env) :: starEach es X.env := by rfl) (hplain : (backTo cpos (starEach es X.env)).any (·.1) = false := by rfl) :
    PE X (.Call (.Attribute o name apos) (e :: es) [] cpos) (tBM X.K T r to t) := by
  intro pins s σ H Q I h
  refine wpAny_Call_method_late hbase hfew hline rfl (thn (ho pins s σ H _ I h) fun v s1 ⟨x, H1, I1, r1, ty, q1⟩ => ?_)
  obtain ⟨h1, h2⟩ := tyV_is I1 r1 ty
  refine ⟨T, id, pa, slot, hty, h1, h2, ?_⟩
  have hA := ha cpos pins s1 σ H1 _ I1 q1
  rw [hs] at hA ⊢
  refine Calls.callWith_builtin (by show (false || (backTo cpos (starEach es X.env)).any (·.1)) = false; rw [hplain] <;> rfl) (Calls.evalArgs_plain ?_)
  exact thn hA fun us s2 ⟨vs, H2, I2, r2, q2⟩ => hm pins s2 σ H2 x vs v us Q I2 r1 r2 q2
end
end L2

namespace L2
open PySem PySem.Spec PyProof.Rows

def MtM (X : Cx) (id : String) (r : V → List V → Hp → VK → Prop) : Prop :=
  ∀ (pins : List (Addr × Obj)) (s : Shared) (σ : St) (H : Hp) (x : V) (xs : List V) (v : Value) (us : List Value) (Q : VK), Inv X pins σ H s → RelV x v → Vals xs us → r x xs H Q →
    wpAny (model X.prog X.w) X.A (call (.builtin id) (v :: us)) (EP X pins σ Q) X.xe s

theorem Vals.one : ∀ {x : V} {us : List Value}, Vals [x] us → ∃ u, us = [u] ∧ RelV x u
  | _, _, .cons r .nil => ⟨_, rfl, r⟩
theorem Vals.two : ∀ {x y : V} {us : List Value}, Vals [x, y] us → ∃ u v, us = [u, v] ∧ RelV x u ∧ RelV y v
  | _, _, _, .cons r (.cons q .nil) => ⟨_, _, rfl, r, q⟩
theorem Vals.zero : ∀ {us : List Value}, Vals [] us → us = []
  | _, .nil => rfl
theorem Vals.eraseIdx : ∀ {xs : List V} {us : List Value} (i : Nat), Vals xs us → Vals (xs.eraseIdx i) (us.eraseIdx i)
  | _, _, _, .nil => .nil
  | _, _, 0, .cons _ t => t
  | _, _, i + 1, .cons r t => .cons r (Vals.eraseIdx i t)
section
variable {X : Cx} {pins : List (Addr × Obj)} {σ : St} {H : Hp} {s : Shared} {l b : Addr} {xs ys zs : List V}

theorem Inv.lset {its its' : List Value} {n : Nat} {f : Array Value → Array Value} {t' : Nat} (I : Inv X pins σ H s) (hH : H l = some (.lst xs))
    (e : s.heap.get? l = some { cls := .type "list", data := .seq its.toArray n }) (hf : f its.toArray = its'.toArray) (hv : Vals ys its') (hz : ys.length ≤ sizeLine) :
    Inv X pins σ (upd H l (.lst ys)) { s with heap := s.heap.update l (Obj.mapSeq f), toks := t' } := by
  have q := PySem.IsL.update e f
  rw [hf] at q
  refine I.write (x := l) (e := l) (by rw [hH]; exact trivial) (.inl rfl) (fun b' u hb hu => (Heap.get?_update_other s.heap (Obj.mapSeq f) (Ne.symm hb)).trans hu) ⟨_, q⟩ ?_
  exact ⟨hz, its', _, hv, q⟩
theorem Inv.lnew {its : List Value} {t' : Nat} (I : Inv X pins σ H s) (hv : Vals ys its) (hz : ys.length ≤ sizeLine) :
    Inv X pins σ (upd H s.heap.objs.size (.lst ys)) { s with heap := s.heap.push { cls := .type "list", data := .seq its.toArray }, toks := t' } :=
  I.laid (fun _ _ q => Heap.get?_push_of_some _ q) (Nat.le_refl _) ⟨hz, its, 0, hv, Heap.get?_push_size _ rfl⟩
theorem Inv.fresh (I : Inv X pins σ H s) : H s.heap.objs.size = none := I.hok.fresh (Nat.le_refl _)
theorem Inv.lstM (I : Inv X pins σ H s) (hH : H l = some (.lst xs)) : xs.length ≤ sizeLine ∧ ∃ (its : List Value) (n : Nat), Vals xs its ∧ xs.length = its.length ∧ s.heap.get? l = some { cls := .type "list", data := .seq its.toArray n } := by
  obtain ⟨z, its, n, r, e⟩ := I.hok l _ hH
  exact ⟨z, its, n, r, r.length, e⟩

end

section
variable {X : Cx}

def rAppend : V → List V → Hp → VK → Prop := fun x vs H Q => ∃ l xs y, x = .ref l ∧ vs = [y] ∧ H l = some (.lst xs) ∧ xs.length < sizeLine ∧ Q .non (upd H l (.lst (xs ++ [y])))
theorem mt_append : MtM X "list.append" rAppend := by
  intro pins s σ H x vs v us Q I rx rv h
  obtain ⟨l, xs, y, rfl, rfl, hH, hz, q⟩ := h
  cases rx
  obtain ⟨u, rfl, ru⟩ := rv.one
  obtain ⟨z, its, n, r, hl, e⟩ := I.lstM hH
  refine call_meets F.slot_list_append ⟨_, e, rfl⟩ F.entry_list_append (F.args_list_append_2 _ _) (PySem.list_append l its.toArray n u (by rw [List.size_toArray]; omega)) ⟨e, ?_⟩
  refine ⟨.non, _, I.lset (its' := its ++ [u]) hH e (by simp) (r.append (.cons ru .nil)) ?_, rfl, q⟩
  rw [List.length_append, List.length_singleton]
  omega

def rClear : V → List V → Hp → VK → Prop := fun x vs H Q => ∃ l xs, x = .ref l ∧ vs = [] ∧ H l = some (.lst xs) ∧ Q .non (upd H l (.lst []))
theorem mt_clear : MtM X "list.clear" rClear := by
  intro pins s σ H x vs v us Q I rx rv h
  obtain ⟨l, xs, rfl, rfl, hH, q⟩ := h
  cases rx
  have hus := rv.zero
  subst hus
  obtain ⟨z, its, n, r, hl, e⟩ := I.lstM hH
  refine call_meets F.slot_list_clear ⟨_, e, rfl⟩ F.entry_list_clear (F.args_list_clear_1 _) (AutoSeq1.list_clear_list_0 l its.toArray n (by rw [List.size_toArray]; omega)) ⟨e, ?_⟩
  exact ⟨.non, _, I.lset (its' := []) (ys := []) hH e rfl .nil (Nat.zero_le _), rfl, q⟩

def rCat : R2 := fun x y H Q => ∃ l b xs zs, x = .ref l ∧ y = .ref b ∧ H l = some (.lst xs) ∧ H b = some (.lst zs) ∧ xs.length + zs.length ≤ sizeLine ∧ ∀ p, H p = none → Q (.ref p) (upd H p (.lst (xs ++ zs)))
theorem op_cat : OpR X (binaryOp .Add) rCat := by
  intro pins s σ H x y v u Q I rx ry h
  obtain ⟨l, b, xs, zs, rfl, rfl, hH, hB, hz, q⟩ := h
  cases rx
  cases ry
  obtain ⟨z, its, n, r, hl, e⟩ := I.lstM hH
  obtain ⟨z2, its2, n2, r2, hl2, e2⟩ := I.lstM hB
  refine PySem.P.add_list e e2 ?_ (by rw [List.size_toArray, List.size_toArray]; omega)
  have ea : its.toArray ++ its2.toArray = (its ++ its2).toArray := by simp
  rw [ea]
  exact ⟨.ref _, _, I.lnew (t' := s.toks) (r.append r2) (by rw [List.length_append]; omega), rfl, q _ I.fresh⟩
end

section
variable {prog : Program} {w : World} {A : Around} {E : Value → Shared → Prop} {s : Shared}
set_option maxRecDepth 100000 in
end

section
variable {X : Cx}
end
end L2

namespace Att
open PySem PySem.W PySem.Calls PyProof.Rows

theorem ints_of_wellAll {P : Params} {h : Heap} : ∀ (ns : List Int) (vs : List Value), WellAll P h vs (ns.map WData.int) → IntsAre vs ns := by
  intro ns
  induction ns with
  | nil =>
    intro vs w
    rw [List.map_nil] at w
    cases w
    exact .nil
  | cons n ns ih =>
    intro vs w
    rw [List.map_cons] at w
    cases w with
    | cons a b =>
      cases a
      exact .cons _ _ (ih _ b)

theorem script_of {l : OpenLaw} {n : Nat} (hn : l.most = some n) {P : Params} {h : Heap} {args : List WData} {vals : List Value}
    (hpre : l.row.toRowW.claim.pre args = true) (hwl : WellAll P h vals args) :
    ∃ a vs ns, vals = [Value.ref a] ∧ args = [WData.list (ns.map WData.int)] ∧ h.get? a = some { cls := .type "list", data := .seq vs.toArray } ∧ IntsAre vs ns ∧ ns.length ≤ n := by
  have hsh : WShape.hasAll [] args [.list .int] = true := (pre_splitW hpre).1
  have hc : l.pre.holds [] { args := args } = true := (pre_splitW hpre).2
  obtain ⟨d, r, rfl, h1, h2⟩ := hasAllW_cons hsh
  obtain rfl := hasAllW_nil h2
  obtain ⟨xs, rfl, h3⟩ := hasW_list h1
  obtain ⟨ns, rfl⟩ := items_int h3
  have hlen : ns.length ≤ n := by
    unfold OpenLaw.pre at hc
    have h4 : (WTm.not (.lt (.lit (.int (n : Int))) (.len (.arg 0)))).holds [] { args := [.list (ns.map .int)] } = true := by
      have h4 := (holds_andW hc).1
      rw [hn] at h4
      exact h4
    have h5 := condW_of h4 (w_not (w_lt w_lit (w_len_list (w_arg rfl))))
    rw [List.length_map] at h5
    refine Nat.le_of_not_lt fun q => ?_
    have q' : (n : Int) < ((ns.length : Nat) : Int) := by omega
    first
      | (rw [decide_eq_true q'] at h5; exact absurd h5 (by decide))
      | (simp at h5; omega)
  cases hwl with
  | cons w1 w2 =>
    cases w2
    cases w1 with
    | list ho hall => exact ⟨_, _, ns, rfl, rfl, ho, ints_of_wellAll ns _ hall, hlen⟩

theorem post_true (l : OpenLaw) (args : List WData) : l.row.toRowW.claim.post args (.bool true) args = true :=
  postW_of (r := l.row.toRowW) (X := (true == true))
    (show WShape.has [] (.bool true) .bool = true by first | rfl | decide | simp [WShape.has, WShape.arms, WShape.armsAll])
    (show (WTm.eq .res (.lit (.bool true))).value [] { args := args, res := some (.bool true), after := args } = some (.bool (true == true)) from w_eq_bool (w_res rfl) w_lit) rfl

theorem attach_call {l : OpenLaw} {n : Nat} {q : Program} {loose : List Str} {XP : (Str → Option Value) → Heap → Prop} {YP : World → Heap → Prop} {d : DefRec}
    (hn : l.most = some n) (hdf : d.params.defaults = [])
    (call : ∀ (w : World) (s₀ s₁ : Shared) (mg mb : Str → Option Value) (fa : Addr) (o : Obj) (pm cd doc : Value) (a : Addr) (vs : List Value) (ns : List Int),
      Ground q loose [] XP w s₀ mg mb s₁.heap → YP w s₁.heap →
      s₁.heap.get? fa = some o → o.data = .func (docDef d.name d.params d.body d.scope pm cd doc) → s₁.heap.CodeRec cd d.name → mg d.name = some (.ref fa) →
      s₁.heap.get? a = some { cls := .type "list", data := .seq vs.toArray } → IntsAre vs ns → ns.length ≤ n → s₁.gens = #[] →
      codeAny (model l.prog w) callerA (.call (.ref fa) ⟨[.ref a], []⟩) (fun r s' => r = .ok (.ret (.bool true)) ∧ OldK s₁.heap s'.heap ∧ s'.os = s₁.os ∧ AllBare s'.gens) s₁) :
    WalkO q loose XP YP l.row.toRowW d [] (fun f vs => PySem.call f vs) := by
  intro w s₀ s₁ mg mb G Y fa o pm cd doc dV kV ho hd hcd hD hmg hg args vals as hpre hlay hrd hwl hlo
  obtain rfl : dV = .none := Dflts.none hD hdf
  obtain rfl : kV = .none := Dflts.noKw hD
  obtain ⟨a, vs, ns, rfl, rfl, hobj, hints, hlen⟩ := script_of hn hpre hwl
  refine enter_call (codeAny_mono (call w s₀ s₁ mg mb fa o pm cd doc a vs ns G Y ho (fd_plain hd) hcd hmg hobj hints hlen hg) fun r s' hq => ?_)
  obtain ⟨rfl, h2, h3, h4⟩ := hq
  exact ⟨.inl ⟨.bool true, .bool true, [], rfl, fun _ => rfl, .bool true, post_true l _, fun _ => ⟨List.Pairwise.nil, fun _ hm => (nomatch hm)⟩⟩, h2, h3, h4⟩

section
variable {prog : Program} {w : World} {A : Around} {E : Value → Shared → Prop} {s : Shared} {K : Frag}

end
end Att

namespace L2
open PySem PySem.Spec PyProof.Rows

theorem vals_ints : ∀ {vs : List Value} {ns : List Int}, IntsAre vs ns → Vals (ns.map V.int) vs
  | _, _, .nil => .nil
  | _, _, .cons n t h => .cons ⟨t, rfl⟩ (vals_ints h)

def Only (H : Hp) : Prop := ∀ b, H b = none ∨ ∃ o xs, H b = some (.frz o (.lst xs))

theorem law_call {P : Program} {w : World} {K : PySem.W.Frag} {mg mb : Str → Option Value} {CX : CXT} {k : Nat} {fa a : Addr} {fd : FuncData} {x : Str} {sp : Sp} {s₁ : Shared} {vs : List Value} {ns : List Int}
    (KX : K.In s₁.heap) (hns : s₁.heap.Ns mainGlobals mg) (hb : s₁.heap.Ns builtinsNs mb) (hbb : ∀ x : Str, x ≠ "__name__" → mb x = bootBuiltins x) (hlim : s₁.heap.NoLimit) (hg : s₁.gens = #[])
    (ha : s₁.heap.get? a = some { cls := .type "list", data := .seq vs.toArray }) (hi : IntsAre vs ns) (hl : ns.length ≤ sizeLine) (hr : Room k callerA)
    (F : ∀ base : Heap, K.In base → base.Ns mainGlobals mg → FnOk P w K mg base CX k fa fd [x] sp) (hbind : ∀ (s : Shared) (u : Value), BindsTo s fd ⟨[u], []⟩ [(x, u)])
    (hsp : ∀ H : Hp, Only H → SqL K H a (ns.map V.int) → sp [.ref a] H (fun v _ => v = .bl true) fun _ _ _ => False)
    (hCX : ∀ H e s', CX [] H s₁ (fun _ _ _ => False) e s' → False) :
    codeAny (model P w) callerA (.call (.ref fa) ⟨[.ref a], []⟩) (fun r s' => r = .ok (.ret (.bool true)) ∧ OldK s₁.heap s'.heap ∧ s'.os = s₁.os ∧ AllBare s'.gens) s₁ := by
  have rv := vals_ints hi
  have lenV := hi.length
  -- from an abstract heap in which nothing but the script may be tracked
  have core : ∀ H : Hp, Only H → SqL K H a (ns.map V.int) → HOk P w H s₁.heap → (∀ b, H b ≠ none → b = a) → (H a ≠ none → K.lookup a = none) →
      codeAny (model P w) callerA (.call (.ref fa) ⟨[.ref a], []⟩) (fun r s' => r = .ok (.ret (.bool true)) ∧ OldK s₁.heap s'.heap ∧ s'.os = s₁.os ∧ AllBare s'.gens) s₁ := by
    intro H hO hS hok hA hK
    have base_of : ∀ {b : Addr} {o : Obj}, s₁.heap.get? b = some o → H b = none → (hidT s₁.heap H).get? b = some o := fun e n => hidT_get e n
    have noA : ∀ {b : Addr} {o : Obj} {es : Array DictEntry} {ep : Nat}, s₁.heap.get? b = some o → o.data = .dict es ep → H b = none := fun {b o es ep} e d => by
      cases q : H b with
      | none => rfl
      | some u =>
        have e' : b = a := hA b (by rw [q]; simp)
        subst e'
        rw [ha] at e; cases e
        have d' : Data.seq vs.toArray _ = Data.dict es ep := d
        cases d'
    have nsK : ∀ {b : Addr} {m : Str → Option Value}, s₁.heap.Ns b m → (hidT s₁.heap H).Ns b m := fun {b m} ⟨o, es, ep, e, d, r⟩ => ⟨o, es, ep, base_of e (noA e d), d, r⟩
    have hKb : K.In (hidT s₁.heap H) := fun b o e => base_of (KX b o e) (by
      cases q : H b with
      | none => rfl
      | some u =>
        have e' : b = a := hA b (by rw [q]; simp)
        subst e'
        rw [hK (by rw [q]; simp)] at e; cases e)
    have hM : Mod K mg (hidT s₁.heap H) := ⟨hKb, nsK hns, ⟨mb, nsK hb, hbb⟩, let ⟨mc, h1, h2⟩ := hlim; ⟨mc, nsK h1, h2⟩⟩
    have e0 : Env0 P w K mg (hidT s₁.heap H) callerA [] s₁ H := ⟨rfl, hM, fun b o e => of_hidT e, Nat.le_of_eq (hidT_size _ _), trivial, fun b hb => absurd (show b ∈ ([] : List Addr) from hb) (by simp), hok, .of_eq hg⟩
    refine codeAny_mono ((F _ hKb (nsK hns)).run callerA [] s₁ H ⟨[.ref a], []⟩ [.ref a] [.ref a] _ _ hr e0 (hbind s₁ (.ref a)) (.cons rfl .nil) (hsp H hO hS)) fun r s' h => ?_
    cases r with
    | error e => exact (hCX H e s' h).elim
    | ok fl =>
      cases fl with
      | next => exact False.elim h
      | brk => exact False.elim h
      | cont => exact False.elim h
      | ret u =>
        obtain ⟨v, H', os, bare, un, hok', r', q⟩ := h
        have q' : v = .bl true := q
        subst q'
        obtain rfl : u = Value.bool true := r'
        refine ⟨rfl, OldK.of_keep fun b o e => ?_, os, bare⟩
        cases q : H b with
        | none => exact un.keep b o e q (by intro z; exact absurd (show b ∈ ([] : List Addr) from z) (by simp)) (by simp)
        | some u =>
          rcases hO b with z | ⟨ob, xs, z⟩
          · rw [q] at z; cases z
          · have z2 := un.frzs b ob _ z
            obtain ⟨e1, _⟩ := hok b _ z
            obtain ⟨e2, _⟩ := hok' b _ z2
            rw [e] at e1; cases e1
            exact e2
  cases hk : K.lookup a with
  | some o =>
    -- the script is one of the module's own objects
    have e := KX a o hk
    rw [ha] at e
    cases e
    refine core (fun _ => none) (fun _ => .inl rfl) (.inr ⟨_, vs.toArray, _, hk, rfl, rfl, rfl, by rw [List.size_toArray, lenV]; exact hl, by simpa using rv⟩) (fun b u z => by have z' : (none : Option HO) = some u := z; cases z') (fun b z => absurd rfl z) fun z => absurd rfl z
  | none =>
    refine core (fun b => if b = a then some (.frz { cls := .type "list", data := .seq vs.toArray } (.lst (ns.map V.int))) else none) (fun b => ?_) (.inl (.inr ⟨{ cls := .type "list", data := .seq vs.toArray }, if_pos rfl⟩)) (fun b u z => ?_) (fun b z => ?_) fun _ => hk
    · by_cases hb : b = a
      · exact .inr ⟨_, _, if_pos hb⟩
      · exact .inl (if_neg hb)
    · by_cases hb : b = a
      · have z' := (if_pos hb).symm.trans z
        cases z'
        subst hb
        exact ⟨ha, by rw [List.length_map]; exact hl, vs, _, rv, ha⟩
      · have z' := (if_neg hb).symm.trans z
        cases z'
    · by_cases hb : b = a
      · exact hb
      · exact absurd (if_neg hb) z
end L2

namespace L2
open PySem PySem.Spec PyProof.Rows

abbrev KOf {K : PySem.W.Frag} {h : Heap} (_ : K.In h) : PySem.W.Frag := K

theorem walk_of {l : PySem.W.OpenLaw} {n k : Nat} {q : Program} {loose : List Str} {XP : (Str → Option Value) → Heap → Prop} {YP : World → Heap → Prop} {d : DefRec} {K : Params → PySem.W.Frag} {CX : World → CXT} {sp : World → Sp} {x : Str}
    (hn : l.most = some n) (hn2 : n ≤ sizeLine) (hdf : d.params.defaults = []) (hr : Room k callerA)
    (hY : ∀ (w : World) (h : Heap), YP w h → (K w.params).In h)
    (F : ∀ (w : World) (mg : Str → Option Value) (fa : Addr) (h : Heap), (K w.params).In h → h.Ns mainGlobals mg → mg d.name = some (.ref fa) →
      ∃ fd : FuncData, (∀ (s : Shared) (u : Value), BindsTo s fd ⟨[u], []⟩ [(x, u)]) ∧
        ∀ base : Heap, (K w.params).In base → base.Ns mainGlobals mg → FnOk l.prog w (K w.params) mg base (CX w) k fa fd [x] (sp w))
    (hsp : ∀ (w : World) (H : Hp) (a : Addr) (ns : List Int), ns.length ≤ n → Only H → SqL (K w.params) H a (ns.map V.int) → sp w [.ref a] H (fun v _ => v = .bl true) fun _ _ _ => False)
    (hCX : ∀ (w : World) (H : Hp) (s : Shared) (e : Value) (s' : Shared), CX w [] H s (fun _ _ _ => False) e s' → False) :
    PySem.W.WalkO q loose XP YP l.row.toRowW d [] (fun f vs => PySem.call f vs) := by
  refine Att.attach_call hn hdf fun w s₀ s₁ mg mb fa o pm cd doc a vs ns G Y ho hd hcd hmg hobj hints hlen hg => ?_
  have KX := hY w _ Y
  obtain ⟨fd, hb, hF⟩ := F w mg fa _ KX G.T.g hmg
  exact law_call KX G.T.g G.T.b G.T.builtins G.T.nolimit hg hobj hints (Nat.le_trans hlen hn2) hr hF hb (fun H hO hS => hsp w H a ns hlen hO hS) fun H e s' => hCX w H s₁ e s'
theorem walk_ofK {l : PySem.W.OpenLaw} {n k : Nat} {q : Program} {loose : List Str} {XP : (Str → Option Value) → Heap → Prop} {YP : World → Heap → Prop} {d : DefRec} {K : Params → PySem.W.Frag} {CX : CXT} {sp : PySem.W.Frag → Sp} {x : Str}
    (hn : l.most = some n) (hn2 : n ≤ sizeLine) (hdf : d.params.defaults = []) (hr : Room k callerA)
    (hY : ∀ (w : World) (h : Heap), YP w h → (K w.params).In h)
    (F : ∀ (w : World) (mg : Str → Option Value) (fa : Addr) (h : Heap), (K w.params).In h → h.Ns mainGlobals mg → mg d.name = some (.ref fa) →
      ∃ fd : FuncData, (∀ (s : Shared) (u : Value), BindsTo s fd ⟨[u], []⟩ [(x, u)]) ∧
        ∀ base : Heap, (K w.params).In base → base.Ns mainGlobals mg → FnOk l.prog w (K w.params) mg base CX k fa fd [x] (sp (K w.params)))
    (hsp : ∀ (K : PySem.W.Frag) (H : Hp) (a : Addr) (ns : List Int), ns.length ≤ n → Only H → SqL K H a (ns.map V.int) → sp K [.ref a] H (fun v _ => v = .bl true) fun _ _ _ => False)
    (hCX : ∀ (H : Hp) (s : Shared) (e : Value) (s' : Shared), CX [] H s (fun _ _ _ => False) e s' → False) :
    PySem.W.WalkO q loose XP YP l.row.toRowW d [] (fun f vs => PySem.call f vs) :=
  walk_of (K := K) (CX := fun _ => CX) (sp := fun w => sp (K w.params)) hn hn2 hdf hr hY F (fun w H a ns h1 h2 h3 => hsp (K w.params) H a ns h1 h2 h3) fun _ H s e s' => hCX H s e s'
end L2

/- THE LAST THEOREM (shape; LID, My.* are yours):
   My.Adr: a structure of the addresses that your layer names (classes, functions); My.Txt K t: a structure (Prop) of the equations over K;
   My.txt_mk : {K} {implicit addresses ..} (e1 : nsIn K mainGlobals "law" = some (some (.ref f))) (e2 : K.lookup f = some ⟨oc, od, .func (fnOf "law" "law" params body scope dV kV doc pm an cdv ct), sl⟩) (e3 : codeIn K cdv "law" = true) .. : ∃ t, My.Txt K t

set_option maxRecDepth 100000 in
set_option maxHeartbeats 0 in
theorem PySem.Challenge.cw_LID_holds : PySem.Challenge.rw_LID.Holds := by
  w_on; o_law; k_head; (case hw => w_witness2)
  k_fill
  refine L2.walk_of (l := PySem.Challenge.rw_LID) (n := 63) (k := 40) (x := "script") (CX := fun w => ..) (sp := fun _ => My.sp_law) rfl (by decide) rfl ⟨rfl, by decide, by decide⟩ (fun w h Y => PySem.W.kIn_of Y) ?F ?S ?C
  case F =>
    intro w mg fa h KX G hmg
    have T : ∃ t, My.Txt (L2.KOf KX) t := by
      dsimp only [L2.KOf]                          -- K must stand as «<heap const> w.params» for k_is
      refine' My.txt_mk ?e1 ?e2 ?e3 ..
      (case e1 => PySem.W.k_is)                    -- in the order: a name -> its address -> its object -> its parts
      (case e2 => PySem.W.k_is)
      ..
    obtain ⟨t, T⟩ := T
    have e0 := hmg.symm.trans (PySem.W.mg_of KX G T.law)
    cases e0                                       -- fa is the law's own address
    exact ⟨_, fun s u => .of_eq rfl, fun base kb nb => My.law_fn T kb nb⟩     -- if «.of_eq rfl» comes too early: refine' ⟨_, ?b, fun base kb nb => My.law_fn T kb nb⟩; exact fun s u => .of_eq rfl
  case S => exact fun w H a ns hl hO hS => ..
  case C => exact ..
(the tactic k_is has no namespace: write k_is) -/

namespace L2
open PySem PySem.Spec PyProof.Rows

def inClass (s : Stmt) (j : Nat) : Stmt := match s with
  | .ClassDef _ _ _ body _ _ _ _ _ _ _ => body.getD j (.Pass ⟨0, 0, 0, 0⟩)
  | _ => .Pass ⟨0, 0, 0, 0⟩
def defArgs (s : Stmt) : Arguments := match s with
  | .FunctionDef _ a _ _ _ _ _ _ _ _ => a
  | _ => { posonlyargs := [], args := [], vararg := none, kwonlyargs := [], kw_defaults := [], kwarg := none, defaults := [] }
def defBody (s : Stmt) : List Stmt := match s with
  | .FunctionDef _ _ b _ _ _ _ _ _ _ => b
  | _ => []
def defScope (s : Stmt) : Scope := match s with
  | .FunctionDef _ _ _ _ _ _ sc _ _ _ => sc
  | _ => { kind := .function, names := [], isGenerator := false, isCoroutine := false }

abbrev CX0 : CXT := fun _ _ _ _ _ _ => False
abbrev E0 : XK := fun _ _ _ => False
theorem pass0 {X : Cx} : Passes CX0 X E0 := fun _ _ _ _ _ _ _ h => h.elim

structure Fun (K : PySem.W.Frag) (x qual : Str) (st : Stmt) (f : Addr) (fd : FuncData) : Prop where
  ex : ∃ (oc : Value) (od : Option Addr) (kV doc pm : Value) (an : Option Addr) (cdv ct : Value) (osl : Array (Option Value)),
    fd = PySem.W.fnOf x qual (defArgs st) (defBody st) (defScope st) .none kV doc pm an cdv ct ∧ K.lookup f = some ⟨oc, od, .func fd, osl⟩ ∧ PySem.W.codeIn K cdv qual = true
  kp : PySem.W.keepIn K (.ref f) = true
section
variable {P : Program} {w : World} {K : PySem.W.Frag} {mg : Str → Option Value} {base : Heap}
theorem Fun.ok {x qual : Str} {st : Stmt} {f : Addr} {fd : FuncData} {N ps : List Str} {k : Nat} {sp : Sp} (F : Fun K x qual st f fd) (S : FnScope N ps (defScope st)) (len : ∀ vs H Q E, sp vs H Q E → vs.length = ps.length)
    (hbody : ∀ (cdv : Value) (A : Around) (outer : List Env) (s : Shared) (H : Hp) (vs : List V) (Q : VK) (E : XK), Room k (A.deeper (envOfC qual (defScope st) s.heap.objs.size f cdv)) → sp vs H Q E →
      ∃ t, PSs (cxOf CX0 P w K mg base N qual (defScope st) f cdv A outer s H E).nox (defBody st) t ∧ t { nx := fun _ H' => Q .non H', rt := Q } (start N vs) H) : FnOk P w K mg base CX0 (k + 1) f fd ps sp := by
  obtain ⟨oc, od, kV, doc, pm, an, cdv, ct, osl, rfl, lk, hcd⟩ := F.ex
  refine fn_of lk hcd S len fun A outer s H vs Q E hr hsp => ?_
  obtain ⟨t, h, q⟩ := hbody cdv A outer s H vs Q E hr hsp
  exact ⟨t, h.nox, q⟩
theorem Fun.binds {x qual : Str} {st : Stmt} {f : Addr} {fd : FuncData} {ps : List Str} (F : Fun K x qual st f fd)
    (h : ∀ (kV doc pm : Value) (an : Option Addr) (cdv ct : Value) (us : List Value), us.length = ps.length → bindArgs (PySem.W.fnOf x qual (defArgs st) (defBody st) (defScope st) .none kV doc pm an cdv ct) ⟨us, []⟩ = pure (ps.zip us)) : Binds K fd ps [] := by
  obtain ⟨oc, od, kV, doc, pm, an, cdv, ct, osl, rfl, lk, hcd⟩ := F.ex
  exact .all (h kV doc pm an cdv ct)
theorem fun_mk {x qual : Str} {st : Stmt} {f : Addr} {oc : Value} {od an : Option Addr} {osl : Array (Option Value)} {kV doc pm cdv ct : Value} (l : K.lookup f = some ⟨oc, od, .func (PySem.W.fnOf x qual (defArgs st) (defBody st) (defScope st) .none kV doc pm an cdv ct), osl⟩)
    (c : PySem.W.codeIn K cdv qual = true) (k : PySem.W.keepIn K (.ref f) = true) : Fun K x qual st f (PySem.W.fnOf x qual (defArgs st) (defBody st) (defScope st) .none kV doc pm an cdv ct) := ⟨⟨oc, od, kV, doc, pm, an, cdv, ct, osl, rfl, l, c⟩, k⟩
end
section
variable {X : Cx}
theorem pv (i : Nat) {x : Str} {pos : Pos} (hN : X.N[i]? = some x := by rfl) (hv : Vis X.env.scope x := by first | exact Or.inl rfl | exact Or.inr (Or.inl rfl) | exact Or.inr (Or.inr rfl)) (hd : (x == ("__debug__" : Str)) = false := by decide)
    (hcd : (x == ("__classdict__" : Str)) = false := by decide) : PE X (.Name x pos) (tVar i) := pe_var hN hv hd hcd
end

theorem ite2 {c A B : Prop} [Decidable c] (h1 : c → A) (h2 : ¬ c → B) : if c then A else B := by
  by_cases h : c
  · rw [if_pos h]
    exact h1 h
  · rw [if_neg h]
    exact h2 h
def Same (H H' : Hp) : Prop := ∀ b o, H b = some o → H' b = some o
theorem Same.refl (H : Hp) : Same H H := fun _ _ h => h
theorem Same.trans {H H1 H2 : Hp} (a : Same H H1) (b : Same H1 H2) : Same H H2 := fun c o h => b c o (a c o h)
theorem Same.free {H H' : Hp} (e : Same H H') {l : Addr} (h : H' l = Option.none) : H l = Option.none := by
  cases q : H l with
  | none => rfl
  | some o =>
    rw [e l o q] at h
    cases h
theorem Same.seq {K : PySem.W.Frag} {H H' : Hp} {a : Addr} {xs : List V} (e : Same H H') (h : SqL K H a xs) : SqL K H' a xs := by
  rcases h with (h | ⟨o, h⟩) | h
  · exact .inl (.inl (e _ _ h))
  · exact .inl (.inr ⟨o, e _ _ h⟩)
  · exact .inr h

end L2

set_option Elab.async false
set_option linter.all false
set_option maxRecDepth 100000
set_option maxHeartbeats 4000000
namespace L2
open PySem PySem.Spec PyProof.Rows


theorem ObjOk.has {P : Program} {w : World} {H : Hp} {h : Heap} {a : Addr} {o : HO} (x : ObjOk P w H h a o) : ∃ u, h.get? a = some u := by
  cases o with
  | lst xs => obtain ⟨_, _, _, _, q⟩ := x; exact ⟨_, q⟩
  | tup xs => obtain ⟨_, _, _, ob, q, _⟩ := x; exact ⟨ob, q⟩
  | dK kvs => obtain ⟨_, _, _, _, ob, _, _, q, _⟩ := x; exact ⟨ob, q⟩
  | dT kvs => obtain ⟨_, _, _, _, ob, _, _, q, _⟩ := x; exact ⟨ob, q⟩
  | set S n => obtain ⟨ob, _, _, _, q, _⟩ := x; exact ⟨ob, q⟩
  | ins C dx fs => obtain ⟨_, _, _, q, _⟩ := x; exact ⟨_, q⟩
  | own y => obtain ⟨ob, q⟩ := x; exact ⟨ob, q⟩
  | xd fs => obtain ⟨_, ⟨ob, _, _, q, _⟩, _⟩ := x; exact ⟨ob, q⟩
  | rng lo hi => obtain ⟨_, _, _, q⟩ := x; exact ⟨_, q⟩
  | frz ob u => obtain ⟨q, _⟩ := x; exact ⟨_, q⟩
  | tbl ps => exact ⟨_, (show h.get? a = some _ from x)⟩
  | met f y => exact ⟨_, (show h.get? a = some _ from x)⟩
  | ext φ => obtain ⟨_, ⟨ob, q⟩, _⟩ := x; exact ⟨ob, q⟩

def Fly (l : List Env) (g : Heap) (H : Hp) (a : Addr) (C : Value) (h : Heap) : Prop :=
  ∃ (B : Heap) (t : Addr), Heap.FlyingW B l a C (.ref t) h ∧ H a = none ∧
    ∀ b o, h.get? b = some o → ((∃ u, g.get? b = some u) ∨ ∃ u, H b = some u) → b ∉ frs l → B.get? b = some o
def CXO (P : Program) (w : World) : CXT := fun outer H s E e s' =>
  ∃ (a : Addr) (C : Value) (H' : Hp), e = .ref a ∧ s'.os = s.os ∧ AllBare s'.gens ∧ Un (frs outer) [] H H' s.heap s'.heap ∧ HOk P w H' s'.heap ∧ Fly outer s.heap H' a C s'.heap ∧ E C none H'

theorem mem_frs_cons {env : Env} {outer : List Env} {L b : Addr} (hf : env.frame = some L) (hb : b ∈ frs (env :: outer)) : b = L ∨ b ∈ frs outer := by
  obtain ⟨e, he, q⟩ := List.mem_filterMap.mp hb
  rcases List.mem_cons.mp he with rfl | he
  · rw [hf] at q; exact .inl (Option.some.inj q).symm
  · exact .inr (List.mem_filterMap.mpr ⟨e, he, q⟩)
theorem frs_cons_of {env : Env} {outer : List Env} {b : Addr} (hb : b ∈ frs outer) : b ∈ frs (env :: outer) := by
  obtain ⟨e, he, q⟩ := List.mem_filterMap.mp hb
  exact List.mem_filterMap.mpr ⟨e, List.mem_cons_of_mem _ he, q⟩

theorem fly_out {P : Program} {w : World} {env : Env} {outer : List Env} {L : Addr} {H H' : Hp} {g h1 h2 B : Heap} {a t : Addr} {C : Value}
    (hf : env.frame = some L) (hL : g.get? L = none) (U : Un (frs outer) [] H H' g h1) (ok : HOk P w H' h1) (frf : ∀ b ∈ frs (env :: outer), H' b = none)
    (frd : ∀ b ∈ frs outer, ∀ o, h1.get? b = some o → ∀ vs, o.data ≠ .fields vs)
    (inB : ∀ b o, h1.get? b = some o → ((∃ u, g.get? b = some u) ∨ ∃ u, H' b = some u) → b ∉ frs (env :: outer) → B.get? b = some o)
    (fl : Heap.FlyingW B outer a C (.ref t) h2) (ha : H' a = none) (up : h1.UpToSlots h2) : Un (frs outer) [] H H' g h2 ∧ HOk P w H' h2 ∧ Fly outer g H' a C h2 := by
  have stay : ∀ b o, h1.get? b = some o → ((∃ u, g.get? b = some u) ∨ ∃ u, H' b = some u) → b ∉ frs outer → h2.get? b = some o ∧ B.get? b = some o := fun b o e hb hn => by
    have nf : b ∉ frs (env :: outer) := fun z => by
      rcases mem_frs_cons hf z with rfl | z2
      · rcases hb with ⟨u, q⟩ | ⟨u, q⟩
        · rw [hL] at q; cases q
        · rw [frf _ z] at q; cases q
      · exact hn z2
    have q := inB b o e hb nf
    exact ⟨fl.1 b o q, q⟩
  have nx : ([] : List Addr) = [] := rfl
  have hx : ∀ b : Addr, b ∉ ([] : List Addr) := fun b z => nomatch z
  have track : ∀ b u, H' b = some u → b ∉ frs outer := fun b u q z => by
    rw [frf b (frs_cons_of z)] at q; cases q
  refine ⟨⟨fun b o e n hb hx => ?_, fun b o e n hb hx => ?_, U.free, fun b o e hx => ?_, U.tups, U.frzs, U.tbls⟩, fun b u q => ?_, B, t, fl, ha, fun b o e hb hn => ?_⟩
  · exact (stay b o (U.keep b o e n hb hx) (.inl ⟨o, e⟩) hb).1
  · obtain ⟨sl, e1⟩ := U.slot b o e n hb hx
    obtain ⟨sl2, e2⟩ := up b _ e1 (frd b hb _ e1)
    exact ⟨sl2, e2⟩
  · obtain ⟨o', e1⟩ := U.there b o e hx
    by_cases hb : b ∈ frs outer
    · obtain ⟨sl2, e2⟩ := up b _ e1 (frd b hb _ e1)
      exact ⟨_, e2⟩
    · exact ⟨o', (stay b o' e1 (.inl ⟨o, e⟩) hb).1⟩
  · refine (ok b u q).stay (fun c v hc e => ?_) (fun _ z => z) fun _ _ z => z
    have tc : ∃ u', H' c = some u' := by
      rcases hc with rfl | hc
      · exact ⟨u, q⟩
      · exact ⟨_, hc⟩
    obtain ⟨u', q'⟩ := tc
    exact (stay c v e (.inr ⟨u', q'⟩) (track c u' q')).1
  · have h1b : ∃ o', h1.get? b = some o' := by
      rcases hb with ⟨u, q⟩ | ⟨u, q⟩
      · exact U.there b u q (hx b)
      · exact (ok b u q).has
    obtain ⟨o', e1⟩ := h1b
    obtain ⟨e2, e3⟩ := stay b o' e1 hb hn
    rw [e] at e2; cases e2
    exact e3

def Raises (X : Cx) (E : XK) : Prop := ∀ (pins : List (Addr × Obj)) (σ : St) (H : Hp) (s : Shared) (a : Addr) (C : Value) (vs : List Value) (h' : Heap), Inv X pins σ H s → Heap.MadeExcOf s.heap h' a C vs → E C none H → X.xe (.ref a) { s with heap := h' }

section
variable {P : Program} {w : World} {K : PySem.W.Frag} {mg : Str → Option Value} {base : Heap} {N : List Str} {qual : Str} {scope : Scope} {f : Addr} {cd : Value} {A : Around} {outer : List Env} {s : Shared} {H : Hp} {E : XK}

theorem Inv.frd {X : Cx} {pins : List (Addr × Obj)} {σ : St} {H : Hp} {s : Shared} (I : Inv X pins σ H s) : ∀ b ∈ frs X.stack, ∀ o, s.heap.get? b = some o → ∀ vs, o.data ≠ .fields vs := fun b hb o e => by
  obtain ⟨_, o', e', d⟩ := I.stack.mem hb
  rw [e] at e'; cases e'
  exact d
theorem Inv.hasNo {X : Cx} {pins : List (Addr × Obj)} {σ : St} {H : Hp} {s : Shared} {a : Addr} (I : Inv X pins σ H s) (e : s.heap.get? a = none) : H a = none := by
  cases q : H a with
  | none => rfl
  | some u =>
    obtain ⟨o, z⟩ := (I.hok a u q).has
    rw [e] at z; cases z

theorem raises_fn : Raises (cxOf (CXO P w) P w K mg base N qual scope f cd A outer s H E) E := by
  intro pins σ H1 s1 a C vs h' I hx hE
  have hin : ∀ env ∈ (envOfC qual scope s.heap.objs.size f cd :: outer), ∀ b, env.frame = some b → b ∈ frs (envOfC qual scope s.heap.objs.size f cd :: outer) := fun env he b hb => List.mem_filterMap.mpr ⟨env, he, hb⟩
  have fr0 : (A.deeper (envOfC qual scope s.heap.objs.size f cd)).frames = some (envOfC qual scope s.heap.objs.size f cd :: outer) := I.ok.frames
  have sn : s.heap.get? s.heap.objs.size = none := Heap.get?_none_of_le (Nat.le_refl _)
  refine wpAny_leaves_madeW (L := s.heap.objs.size) (base := PySem.W.hideAll s1.heap (frs (envOfC qual scope s.heap.objs.size f cd :: outer))) (h := s1.heap) fr0 rfl (fun b o q => PySem.W.of_hideAll _ q) (PySem.W.funFrames_hide I.stack hin) hx fun h2 t fl _ _ up => ?_
  have frd := I.frd
  obtain ⟨u1, u2, u3⟩ := fly_out (P := P) (w := w) (L := s.heap.objs.size) (h1 := s1.heap) rfl sn I.base I.hok I.stkFree (fun b hb o e => frd b (frs_cons_of hb) o e) (fun b o e _ hn => PySem.W.hideAll_get _ e hn) fl (I.hasNo hx.new) ((Heap.UpToSlots.of_keeps hx.keeps).trans up)
  exact ⟨a, C, H1, rfl, I.os, I.bare, u1, u2, u3, hE⟩

theorem passes_fn : Passes (CXO P w) (cxOf (CXO P w) P w K mg base N qual scope f cd A outer s H E) E := by
  intro pins σ H1 s1 e s' I hc
  obtain ⟨a, C, H', rfl, os, bare, un, hok, ⟨B, t, fl, ha, inB⟩, hE⟩ := hc
  have I' : Inv (cxOf (CXO P w) P w K mg base N qual scope f cd A outer s H E) pins σ H' s' := I.call' os un hok bare fun b z => nomatch z
  have fr0 : (A.deeper (envOfC qual scope s.heap.objs.size f cd)).frames = some (envOfC qual scope s.heap.objs.size f cd :: outer) := I.ok.frames
  have sn : s.heap.get? s.heap.objs.size = none := Heap.get?_none_of_le (Nat.le_refl _)
  refine wpAny_leaves_onW (L := s.heap.objs.size) fr0 rfl fl fun h2 fl2 up => ?_
  have frd := I'.frd
  obtain ⟨u1, u2, u3⟩ := fly_out (P := P) (w := w) (L := s.heap.objs.size) (h1 := s'.heap) rfl sn I'.base I'.hok I'.stkFree (fun b hb o e => frd b (frs_cons_of hb) o e) (fun b o e hb hn => inB b o e (hb.imp (fun ⟨u, q⟩ => I.base.there b u q fun z => nomatch z) id) hn) fl2 ha up
  exact ⟨a, C, H', rfl, I'.os, I'.bare, u1, u2, u3, hE⟩
end

theorem Fun.okX {P : Program} {w : World} {K : PySem.W.Frag} {mg : Str → Option Value} {base : Heap} {x qual : Str} {st : Stmt} {f : Addr} {fd : FuncData} {N ps : List Str} {k : Nat} {sp : Sp} (F : Fun K x qual st f fd) (S : FnScope N ps (defScope st)) (len : ∀ vs H Q E, sp vs H Q E → vs.length = ps.length)
    (hbody : ∀ (cdv : Value) (A : Around) (outer : List Env) (s : Shared) (H : Hp) (vs : List V) (Q : VK) (E : XK), Room k (A.deeper (envOfC qual (defScope st) s.heap.objs.size f cdv)) → sp vs H Q E →
      ∃ t, PSs (cxOf (CXO P w) P w K mg base N qual (defScope st) f cdv A outer s H E) (defBody st) t ∧ t { nx := fun _ H' => Q .non H', rt := Q } (start N vs) H) : FnOk P w K mg base (CXO P w) (k + 1) f fd ps sp := by
  obtain ⟨oc, od, kV, doc, pm, an, cdv, ct, osl, rfl, lk, hcd⟩ := F.ex
  exact fn_of lk hcd S len fun A outer s H vs Q E hr hsp => hbody cdv A outer s H vs Q E hr hsp

structure ExC (K : PySem.W.Frag) (C : Addr) : Prop where
  ex : PySem.W.excIn K C [.type "ValueError", .type "Exception", .type "BaseException", .type "object"] "ValueError.__new__" = true

theorem exc_obj {K : PySem.W.Frag} {h : Heap} {C : Addr} {bmB : List Value} {nid : String} (Y : K.In h) (z : PySem.W.excIn K C bmB nid = true) :
    ∃ bm Nn nm qn bs hd sn sub ab col dd k0 k1 k2 k3 k5 mN, h.get? C = some (excClassObj nm qn C Nn bs bm hd sn sub ab col dd k0 k1 k2 k3 k5 nid) ∧ h.Ns Nn mN ∧ mN "__init__" = none ∧ OwnTail h bmB bm := by
  unfold PySem.W.excIn at z
  split at z
  · next d1 c1 s1 hlk =>
    split at z
    · next C1 b1 j0 j1 j2 j3 n1 j5 em es =>
      simp only [Bool.and_eq_true, beq_iff_eq, Bool.not_eq_true'] at z
      obtain ⟨⟨⟨⟨⟨z1, z2⟩, z3⟩, z4⟩, z5⟩, z6⟩ := z
      subst z1 z2
      obtain ⟨a1, a2, a3, a4, a5, a6, a7, a8, a9, a10, a11⟩ := c1
      dsimp only at em z3 z5 z6
      subst em z3
      obtain ⟨l1⟩ := s1
      have es' : l1 = [j0, j1, j2, j3, some (.builtin n1), j5] := es
      subst es'
      exact ⟨b1, a4, a1, a5, a2, a6, a7, a8, a9, a10, d1, j0, j1, j2, j3, j5, _, Y _ _ hlk, .of_isNs (PySem.W.isNs_of_in Y z5), PySem.W.nsMap_none_of_in Y z5 z6, PySem.W.tail_of_in Y z4⟩
    · exact absurd z (by decide)
  · exact absurd z (by decide)

section
variable {X : Cx} {E : XK} {x : Str} {C : Addr} {e : Expr} {es : List Expr} {t : TA} {np cpos pos : Pos}
def tRaise (E : XK) (C : Addr) (t : TA) : TS := fun _ σ H => t σ H fun vs H1 => vs.length ≤ sizeLine ∧ E (.ref C) none H1
theorem ps_raise (R : Raises X E) (c : ExC X.K C) (hc : X.calm = true) (hg : Gl X x) (hm : X.mg x = some (.ref C)) (ha : PA X (e :: es) t) (hdb : (x == ("__debug__" : Str)) = false := by decide)
    (he : starEach (e :: es) X.env = (false, eval e X.env) :: starEach es X.env := by rfl) (hpl : (backTo cpos (starEach es X.env)).any (·.1) = false := by rfl) :
    PS X (.Raise (some (.Call (.Name x np) (e :: es) [] cpos)) none pos) (tRaise E C t) := by
  intro pins s σ H D I h
  obtain ⟨bm, Nn, nm, qn, bs, hd, sn, sub, ab, col, dd, k0, k1, k2, k3, k5, mN, hC, hN, hni, TL⟩ := exc_obj I.ok.mod.kin c.ex
  refine wpAny_Raise_call_subT (C := C) (nm := nm) (q := qn) (N := Nn) (bs := bs) (bm := bm) (hdct := hd) (sn := sn) (sub := sub) (ab := ab) (col := col) (dd := dd) (k0 := k0) (k1 := k1) (k2 := k2) (k3 := k3) (k5 := k5)
    PySem.F.excBase_ValueError (mN := mN) (TL.hasType PySem.F.excBase_ValueError.hasBase) (I.ok.hd hc) ?_ hni (ld_glob I hg hm ⟨rfl, ?_⟩ hdb)
  · rw [he]
    show (false || (backTo cpos (starEach es X.env)).any (·.1)) = false
    rw [hpl]; rfl
  · have q := ha cpos pins s σ H _ I h
    rw [he] at q ⊢
    refine Calls.evalArgs_plain (thn q fun us s2 hs => ?_)
    obtain ⟨vs, H2, I2, r, hl, hE⟩ := hs
    exact ⟨rfl, by rw [← r.length]; exact hl, I2.bk _ _ hC, hN.keeps I2.bk, TL.keeps I2.bk, fun h' a hx => R pins σ H2 s2 a _ us h' I2 hx hE⟩
end

theorem Inv.moved {X : Cx} {pins : List (Addr × Obj)} {σ : St} {H : Hp} {s : Shared} {h' : Heap} (I : Inv X pins σ H s)
    (keep : ∀ b o, s.heap.get? b = some o → ((∃ u, X.s₀.heap.get? b = some u ∧ b ∉ X.ex) ∨ (∃ u, H b = some u) ∨ ∃ p ∈ X.pn ++ pins, p.1 = b) → b ∉ frs X.stack → h'.get? b = some o) (up : s.heap.UpToSlots h') : Inv X pins σ H { s with heap := h' } := by
  have neL : ∀ b o, X.s₀.heap.get? b = some o → b ≠ X.env.locals := fun b o e => Nat.ne_of_lt (Nat.lt_of_lt_of_le (Heap.lt_size e) I.ok.above)
  have nst : ∀ b, b ≠ X.env.locals → b ∉ X.fs → b ∉ frs X.stack := fun b h1 h2 z => (List.mem_cons.mp (I.stkSub b z)).elim h1 h2
  have fsd : ∀ b ∈ X.fs, ∀ o, X.s₀.heap.get? b = some o → ∀ vs, o.data ≠ .fields vs := fun b hb o e => by
    obtain ⟨_, o', e', d⟩ := I.ok.funs.mem hb
    rw [e] at e'; cases e'
    exact d
  have cellK : ∀ c v, s.heap.IsCell c v → h'.IsCell c v := fun c v ⟨o, ho, hd⟩ => by
    obtain ⟨sl, q⟩ := up c o ho fun vs z => by rw [hd] at z; cases z
    exact ⟨_, q, hd⟩
  refine ⟨I.ok, I.os, I.bare, ⟨fun b o e n hb hx => ?_, fun b o e n hb hx => ?_, I.base.free, fun b o e hx => ?_, I.base.tups, I.base.frzs, I.base.tbls⟩, ?_, fun y c e => ?_, I.free, I.freeC, fun p hp => ?_, fun b u q => ?_, I.len⟩
  · exact keep b o (I.base.keep b o e n hb hx) (.inl ⟨o, e, hx⟩) (nst b (neL b o e) hb)
  · obtain ⟨sl, e1⟩ := I.base.slot b o e n hb hx
    obtain ⟨sl2, e2⟩ := up b _ e1 (fsd b hb o e)
    exact ⟨sl2, e2⟩
  · obtain ⟨o', e1⟩ := I.base.there b o e hx
    by_cases hb : b ∈ X.fs
    · obtain ⟨sl, e2⟩ := I.base.slot b o e (I.ok.frf b hb) hb hx
      obtain ⟨sl2, e3⟩ := up b _ e2 (fsd b hb o e)
      exact ⟨_, e3⟩
    · exact ⟨o', keep b o' e1 (.inl ⟨o, e, hx⟩) (nst b (neL b o e) hb)⟩
  · obtain ⟨m, hn, hl⟩ := I.loc
    refine ⟨m, up.ns hn, fun i y v e1 e2 e3 => ?_⟩
    obtain ⟨u, r, l⟩ := hl i y v e1 e2 e3
    refine ⟨u, r, ?_⟩
    rcases l with l | ⟨k, c, e, z⟩
    · exact .inl l
    · exact .inr ⟨k, c, e, cellK c _ z⟩
  · obtain ⟨v, z⟩ := I.cell y c e
    exact ⟨v, cellK c v z⟩
  · obtain ⟨e, n, ne, nf, d⟩ := I.pin p hp
    exact ⟨keep p.1 p.2 e (.inr (.inr ⟨p, hp, rfl⟩)) (nst p.1 ne nf), n, ne, nf, d⟩
  · refine (I.hok b u q).stay (fun c v hc e => ?_) (fun _ z => z) fun _ _ z => z
    have tc : ∃ u', H c = some u' := by
      rcases hc with rfl | hc
      · exact ⟨u, q⟩
      · exact ⟨_, hc⟩
    obtain ⟨u', q'⟩ := tc
    refine keep c v e (.inr (.inl ⟨u', q'⟩)) fun z => ?_
    rw [I.stkFree c z] at q'; cases q'

theorem Inv.track {X : Cx} {pins : List (Addr × Obj)} {σ : St} {H : Hp} {s : Shared} {a : Addr} {ob : Obj} {vs : Array Value} {o : HO} (I : Inv X pins σ H s) (ha : H a = none) (hob : s.heap.get? a = some ob) (hd : ob.data = .fields vs)
    (h0 : X.s₀.heap.get? a = none) (hp : ∀ p ∈ X.pn ++ pins, p.1 ≠ a) (new : ObjOk X.prog X.w (upd H a o) s.heap a o) : Inv X pins σ (upd H a o) s := by
  have nt : ∀ b u, H b = some u → b ≠ a := fun b u q => ne_of_none q ha
  refine ⟨I.ok, I.os, I.bare, ⟨I.base.keep, I.base.slot, fun b u e n hx => ?_, I.base.there, fun b xs q => ?_, fun b u xs q => ?_, fun b ps q => ?_⟩, I.loc, I.cell, ?_, fun y c e => ?_, fun p q => ?_, fun b u q => ?_, I.len⟩
  · have ne : b ≠ a := fun z => by rw [z, h0] at e; cases e
    rw [upd_ne ne]; exact I.base.free b u e n hx
  · have z := I.base.tups b xs q
    rw [upd_ne (nt _ _ z)]; exact z
  · have z := I.base.frzs b u xs q
    rw [upd_ne (nt _ _ z)]; exact z
  · obtain ⟨m, z⟩ := I.base.tbls b ps q
    exact ⟨m, by rw [upd_ne (nt _ _ z)]; exact z⟩
  · have ne : X.env.locals ≠ a := fun z => by
      obtain ⟨m, ⟨oL, es, ep, e1, e2, _⟩, _⟩ := I.loc
      rw [z, hob] at e1; cases e1
      rw [hd] at e2; cases e2
    rw [upd_ne ne]; exact I.free
  · have ne : c ≠ a := fun z => by
      obtain ⟨v, oc, e1, e2⟩ := I.cell y c e
      rw [z, hob] at e1; cases e1
      rw [hd] at e2; cases e2
    rw [upd_ne ne]; exact I.freeC y c e
  · obtain ⟨e, n, r⟩ := I.pin p q
    exact ⟨e, by rw [upd_ne (hp p q)]; exact n, r⟩
  · by_cases hb : b = a
    · subst hb; rw [upd_same] at q; cases q; exact new
    · rw [upd_ne hb] at q
      exact (I.hok b u q).stay (fun c v _ z => z) (fun c z => by rw [upd_ne (nt _ _ z)]; exact z) fun c xs z => by rw [upd_ne (nt _ _ z)]; exact z

def exO (a : Addr) (C : Value) : HO := .ext fun h => ∃ ob vs, h.get? a = some ob ∧ ob.cls = C ∧ ob.data = .fields vs

def Landed (X : Cx) (pins : List (Addr × Obj)) (Kx : Value → Hp → Prop) (e : Value) (s' : Shared) : Prop :=
  ∃ (a : Addr) (C : Value) (σ : St) (H : Hp) (g : Heap), e = .ref a ∧ Inv X pins σ H s' ∧ Fly X.stack g H a C s'.heap ∧ (∀ p ∈ X.pn ++ pins, ∃ u, g.get? p.1 = some u) ∧
    (∀ b u, X.s₀.heap.get? b = some u → b ∉ X.ex → ∃ u', g.get? b = some u') ∧ Kx C H
abbrev tryCx (X : Cx) (pins : List (Addr × Obj)) (Kx : Value → Hp → Prop) : Cx := { X with pn := X.pn ++ pins, xe := Landed X pins Kx }
abbrev suiteCx (X : Cx) (a : Addr) : Cx := { X with A := X.A.mark (some (.ref a)), calm := false, xe := fun _ _ => False }
section
variable {X : Cx} {pins pins' : List (Addr × Obj)} {σ : St} {H : Hp} {s : Shared} {Kx : Value → Hp → Prop} {a : Addr}
theorem Inv.toTry (I : Inv X pins σ H s) : Inv (tryCx X pins Kx) [] σ H s :=
  ⟨⟨I.ok.mod, I.ok.kind, I.ok.glob, I.ok.blt, I.ok.above, I.ok.inj, I.ok.has, I.ok.cab, I.ok.hd, I.ok.frames, I.ok.stk, I.ok.exf, I.ok.bs, I.ok.bsz, I.ok.noex, I.ok.exfs, I.ok.funs, I.ok.frf⟩,
    I.os, I.bare, I.base, I.loc, I.cell, I.free, I.freeC, fun p hp => I.pin p (by simpa using hp), I.hok, I.len⟩
theorem Inv.ofTry (I : Inv (tryCx X pins Kx) pins' σ H s) : Inv X pins σ H s :=
  ⟨⟨I.ok.mod, I.ok.kind, I.ok.glob, I.ok.blt, I.ok.above, I.ok.inj, I.ok.has, I.ok.cab, I.ok.hd, I.ok.frames, I.ok.stk, I.ok.exf, I.ok.bs, I.ok.bsz, I.ok.noex, I.ok.exfs, I.ok.funs, I.ok.frf⟩,
    I.os, I.bare, I.base, I.loc, I.cell, I.free, I.freeC, fun p hp => I.pin p (List.mem_append_left _ hp), I.hok, I.len⟩
theorem Inv.toSuite (I : Inv X pins σ H s) : Inv (suiteCx X a) pins σ H s :=
  ⟨⟨I.ok.mod, I.ok.kind, I.ok.glob, I.ok.blt, I.ok.above, I.ok.inj, I.ok.has, I.ok.cab, (fun z => nomatch z), I.ok.frames, I.ok.stk, I.ok.exf, I.ok.bs, I.ok.bsz, I.ok.noex, I.ok.exfs, I.ok.funs, I.ok.frf⟩,
    I.os, I.bare, I.base, I.loc, I.cell, I.free, I.freeC, I.pin, I.hok, I.len⟩
theorem Inv.ofSuite (hd : X.calm = true → X.A.handled = none) (I : Inv (suiteCx X a) pins σ H s) : Inv X pins σ H s :=
  ⟨⟨I.ok.mod, I.ok.kind, I.ok.glob, I.ok.blt, I.ok.above, I.ok.inj, I.ok.has, I.ok.cab, hd, I.ok.frames, I.ok.stk, I.ok.exf, I.ok.bs, I.ok.bsz, I.ok.noex, I.ok.exfs, I.ok.funs, I.ok.frf⟩,
    I.os, I.bare, I.base, I.loc, I.cell, I.free, I.freeC, I.pin, I.hok, I.len⟩
theorem passes_try : Passes (CXO X.prog X.w) (tryCx X pins Kx) (fun C _ H => Kx C H) := by
  intro p2 σ1 H1 s1 e s' I hc
  obtain ⟨a, C, H', rfl, os, bare, un, hok, fly, hE⟩ := hc
  have I0 : Inv X pins σ1 H1 s1 := I.ofTry
  have I' : Inv X pins σ1 H' s' := I0.call' os un hok bare fun b z => nomatch z
  exact ⟨a, C, σ1, H', s1.heap, rfl, I', fly, fun p hp => ⟨p.2, (I0.pin p hp).1⟩, fun b u q hx => I0.base.there b u q hx, hE⟩

theorem Inv.frame {σ' : St} {h' : Heap} {m' : Str → Option Value} {t' : Nat} (I : Inv X pins σ H s) (hn : h'.Ns X.env.locals m') (hs : Heap.SameBut X.env.locals s.heap h')
    (hl : ∀ (i : Nat) (x : Str) (v : V), X.N[i]? = some x → σ'[i]? = some (some v) → Vis X.env.scope x → ∃ u, RelV v u ∧ Look X.env h' m' x u) (hlen : σ'.length = σ.length) : Inv X pins σ' H { s with heap := h', toks := t' } := by
  have neL : ∀ b o, X.s₀.heap.get? b = some o → b ≠ X.env.locals := fun b o e => Nat.ne_of_lt (Nat.lt_of_lt_of_le (Heap.lt_size e) I.ok.above)
  refine ⟨I.ok, I.os, I.bare, ⟨fun b o e n hb hx => (hs.2 b (neL b o e)).trans (I.base.keep b o e n hb hx), fun b o e n hb hx => ?_, I.base.free, fun b o e hx => ?_, I.base.tups, I.base.frzs, I.base.tbls⟩, ⟨m', hn, hl⟩, fun y c e => ?_, I.free, I.freeC, fun p hp => ?_, fun b u q => ?_, hlen.trans I.len⟩
  · obtain ⟨sl, e1⟩ := I.base.slot b o e n hb hx
    exact ⟨sl, (hs.2 b (neL b o e)).trans e1⟩
  · obtain ⟨o', e1⟩ := I.base.there b o e hx
    exact ⟨o', (hs.2 b (neL b o e)).trans e1⟩
  · obtain ⟨v, z⟩ := I.cell y c e
    exact ⟨v, z.sameBut hs (I.cne y c e)⟩
  · obtain ⟨e, n, ne, nf, d⟩ := I.pin p hp
    exact ⟨(hs.2 p.1 ne).trans e, n, ne, nf, d⟩
  · refine (I.hok b u q).stay (fun c v hc e => (hs.2 c ?_).trans e) (fun _ z => z) fun _ _ z => z
    intro z
    have fr := I.free
    rcases hc with rfl | hc
    · rw [z, fr] at q; cases q
    · rw [z, fr] at hc; cases hc
theorem unset_ok {M : Model} {A : Around} {E : Value → Shared → Prop} {i : Nat} {n : Str} {pos : Pos} {Q : Unit → Shared → Prop} (I : Inv X pins σ H s) (hi : X.N[i]? = some n) (hN : X.N.Nodup) (hk : X.env.scope.names.lookup n = some .local)
    (h : ∀ s', Inv X pins (σ.set i none) H s' → Q () s') : wpAny M A (do bindName X.env n .none; unbindBehindTheSuite X.env n pos) Q E s := by
  obtain ⟨m, hn, hl⟩ := id I.loc
  refine wpAny_nameGoes_keeps (m := m) hk hn (by rw [I.ok.kind]; rfl) fun h' v hn' hs => h _ (I.frame hn' hs (fun j y v' e1 e2 e3 => ?_) (by simp))
  have hij : j ≠ i := fun z => by
    rw [z] at e2
    have hiσ : i < σ.length := by rw [I.len]; exact (List.getElem?_eq_some_iff.mp hi).1
    rw [List.getElem?_set_self hiσ] at e2
    cases e2
  rw [List.getElem?_set_ne (Ne.symm hij)] at e2
  obtain ⟨u, r, q⟩ := hl j y v' e1 e2 e3
  refine ⟨u, r, ?_⟩
  rcases q with ⟨k, e⟩ | ⟨k, c, e, z⟩
  · have ne : y ≠ n := fun z => hij (nodup_ix hN e1 (z ▸ hi))
    exact .inl ⟨k, by simp [ne, e]⟩
  · exact .inr ⟨k, c, e, z.sameBut hs (I.cne y c e)⟩
end

section
variable {X : Cx} {body suite : List Stmt} {b₀ : Stmt} {n x : Str} {i : Nat} {R : Addr} {np hpos pos : Pos} {tb : (Value → Hp → Prop) → TS} {th : TS}
def tTry (K : PySem.W.Frag) (R : Addr) (i N : Nat) (tb : (Value → Hp → Prop) → TS) (th : TS) : TS := fun D σ H =>
  tb (fun C H' => PySem.W.exmOne K C (.ref R) = some true ∧ ∀ a, H' a = none →
    th { nx := fun σ' H2 => D.nx (σ'.set i none) H2, rt := D.rt, bk := fun σ' H2 => D.bk (σ'.set i none) H2, ct := fun σ' H2 => D.ct (σ'.set i none) H2 } ((List.replicate N none).set i (some (.ref a))) (upd H' a (exO a C))) D σ H
theorem ps_try (hst : X.stack = X.env :: X.outer ∧ X.env.frame = some X.env.locals) (hex : X.ex = []) (hN : X.N.Nodup) (hi : X.N[i]? = some n) (hk : X.env.scope.names.lookup n = some .local) (hg : Gl X x) (hm : X.mg x = some (.ref R))
    (hb : ∀ pins Kx, PSs (tryCx X pins Kx) body (tb Kx)) (hs : ∀ a, PSs (suiteCx X a) (b₀ :: suite) th) (hdb : (x == ("__debug__" : Str)) = false := by decide) :
    PS X (.Try body [.ExceptHandler (some (.Name x np)) (some n) (b₀ :: suite) hpos] [] [] pos) (tTry X.K R i X.N.length tb th) := by
  intro pins s σ H D I h
  refine wpAny_Try_except (wpAny_mono (hb pins _ [] s σ H D I.toTry h) (fun f s1 q => ?_) fun e s1 q => ?_)
  · cases f with
    | next => obtain ⟨σ', H', I', q⟩ := q; exact wpAny_execs_nil ⟨σ', H', I'.ofTry, q⟩
    | brk => obtain ⟨σ', H', I', q⟩ := q; exact ⟨σ', H', I'.ofTry, q⟩
    | cont => obtain ⟨σ', H', I', q⟩ := q; exact ⟨σ', H', I'.ofTry, q⟩
    | ret u => obtain ⟨v, σ', H', I', r, q⟩ := q; exact ⟨v, σ', H', I'.ofTry, r, q⟩
  · obtain ⟨a, C, σ1, H1, g, rfl, I1, ⟨B, t, fl, ha, inB⟩, hpn, hg0, hm1, hk1⟩ := q
    obtain ⟨es1, es2⟩ := hst
    have mv : ∀ h', Heap.FlyingW B X.stack a C (.ref t) h' → s1.heap.UpToSlots h' → Inv X pins σ1 H1 { s1 with heap := h' } := fun h' fl' up => I1.moved (fun b o e hb hn => fl'.1 b o (inB b o e (by
      rcases hb with ⟨u, q, hx⟩ | ⟨u, q⟩ | ⟨p, hp, rfl⟩
      · exact .inl (hg0 b u q hx)
      · exact .inr ⟨u, q⟩
      · exact .inl (hpn p hp)) hn)) up
    have frA : X.A.frames = some (X.env :: X.outer) := by rw [← es1]; exact I.ok.frames
    rw [es1] at fl
    refine wpAny_looks_onW frA es2 fl fun h4 hl4 up4 => ?_
    refine wpAny_landsW hl4 fun h5 fl5 up5 => ?_
    have I5 := mv h5 (by rw [es1]; exact fl5) (up4.trans up5)
    obtain ⟨ob5, hob5, hc5⟩ := fl5.there
    have LT : PySem.W.Looks (model X.prog X.w) h5 (typeOf (.ref a)) C := hc5 ▸ (PySem.W.Looks.ld hob5).andThen .now
    refine wpAny_handleBy_cons (codeAny_handlers_test (ld_glob (X := suiteCx X a) I5.toSuite hg hm ?_ hdb)) (by intro z; cases z)
    refine (PySem.W.exm_one (K := X.K) (I5.kIn : X.K.In h5) LT hm1) _ _ _ _ (fun _ _ z => z) ?_
    refine codeAny_handlers_suite_as ?_
    refine lands_againW fl5 fun h6 fl6 up6 => ?_
    have I6 := mv h6 (by rw [es1]; exact fl6) ((up4.trans up5).trans up6)
    obtain ⟨ob6, vs6, hob6, hc6, hd6, _⟩ := fl6.first
    have nfr : ∀ o, s1.heap.get? a = some o → a ∉ frs X.stack := fun o e z => by
      obtain ⟨ob, vs, q1, _, q2, _⟩ := fl.first
      exact I1.frd a z ob q1 vs q2
    have notin : ∀ u, g.get? a = some u → False := fun u q => by
      obtain ⟨ob, vs, q1, _, q2, _⟩ := fl.first
      have z := inB a ob q1 (.inl ⟨u, q⟩) (nfr ob q1)
      rw [fl.2.1] at z; cases z
    have h0 : X.s₀.heap.get? a = none := by
      cases q : X.s₀.heap.get? a with
      | none => rfl
      | some u =>
        obtain ⟨u', z⟩ := hg0 a u q (by rw [hex]; exact fun z => nomatch z)
        exact (notin u' z).elim
    have hp : ∀ p ∈ X.pn ++ pins, p.1 ≠ a := fun p hp z => by
      obtain ⟨u, q⟩ := hpn p hp
      rw [z] at q
      exact notin u q
    have I7 : Inv X pins σ1 (upd H1 a (exO a C)) { s1 with heap := h6 } := I6.track ha hob6 hd6 h0 hp
      ⟨⟨ob6, vs6, hob6, hc6, hd6⟩, ⟨ob6, hob6⟩, fun ha hb ⟨o, v, z1, z2⟩ k => ⟨o, v, k o z1, z2⟩⟩
    have I8 : Inv X pins (List.replicate X.N.length none) (upd H1 a (exO a C)) { s1 with heap := h6 } := I7.weak (by rw [List.length_replicate, I7.len]) fun j v q => by
      rw [List.getElem?_replicate] at q
      split at q <;> cases q
    refine store_ok (X := suiteCx X a) I8.toSuite hN hi (.inl hk) (v := .ref a) rfl (fun s9 I9 => ?_) (.inr hk)
    refine wpAny_mono (hs a pins s9 _ _ _ I9 (hk1 a ha)) (fun f s10 q => ?_) fun _ _ z => z.elim
    have out : ∀ {σ' : St} {H' : Hp}, Inv (suiteCx X a) pins σ' H' s10 → Inv X pins σ' H' s10 := fun J => J.ofSuite I.ok.hd
    cases f with
    | next => obtain ⟨σ', H', J, q⟩ := q; exact unset_ok (out J) hi hN hk fun s11 J2 => ⟨_, H', J2, q⟩
    | brk => obtain ⟨σ', H', J, q⟩ := q; exact unset_ok (out J) hi hN hk fun s11 J2 => ⟨_, H', J2, q⟩
    | cont => obtain ⟨σ', H', J, q⟩ := q; exact unset_ok (out J) hi hN hk fun s11 J2 => ⟨_, H', J2, q⟩
    | ret u => obtain ⟨v, σ', H', J, r, q⟩ := q; exact unset_ok (out J) hi hN hk fun s11 J2 => ⟨v, _, H', J2, r, q⟩
end
end L2

set_option Elab.async false
set_option linter.all false
set_option maxRecDepth 100000
set_option maxHeartbeats 4000000
namespace L2
open PySem PySem.Spec PyProof.Rows

section
variable {X : Cx}
theorem countP_eqU {x : V} : ∀ {xs : List V} {us : List Value}, Vals xs us → xs.all flatV = true → us.countP (eqU x) = xs.countP fun y => eqV y x
  | _, _, .nil, _ => rfl
  | y :: xs, u :: us, .cons r t, f => by
    rw [List.all_cons, Bool.and_eq_true] at f
    rw [List.countP_cons, List.countP_cons, eqU_of r f.1, countP_eqU t f.2]
theorem mt_count : MtR X "list.count" (fun x vs H Q => ∃ l xs y, x = .ref l ∧ vs = [y] ∧ H l = some (.lst xs) ∧ flatV y = true ∧ xs.all flatV = true ∧ Q (.int (xs.countP fun z => eqV z y : Nat)) H) := by
  intro pins s σ H x vs v us Q I rx rv h
  obtain ⟨l, xs, y, rfl, rfl, hH, fy, fx, q⟩ := h
  cases rx
  obtain ⟨u, rfl, ru⟩ := rv.one
  obtain ⟨z, its, n, r, hl, e⟩ := I.lstM hH
  refine call_meets PySem.F.slot_list_count ⟨_, e, rfl⟩ PySem.F.entry_list_count (PySem.F.args_list_count_2 _ _) (SeqAt.list_countAt l its.toArray n none #[] u (eqU y)) ⟨e, fun w hw => mem_eqAt ru fy r fx w (by simpa using hw), ?_⟩
  rw [← countP_eqU r fx] at q
  exact ⟨.int _, H, I.tok _, ⟨_, rfl⟩, q⟩
theorem mt_index : MtR X "list.index" (fun x vs H Q => ∃ l xs y j z, x = .ref l ∧ vs = [y] ∧ H l = some (.lst xs) ∧ flatV y = true ∧ xs.all flatV = true ∧ xs[j]? = some z ∧ eqV z y = true ∧ (∀ m z', m < j → xs[m]? = some z' → eqV z' y = false) ∧ Q (.int (j : Nat)) H) := by
  intro pins s σ H x vs v us Q I rx rv h
  obtain ⟨l, xs, y, j, z, rfl, rfl, hH, fy, fx, hj, hz, hno, q⟩ := h
  cases rx
  obtain ⟨u, rfl, ru⟩ := rv.one
  obtain ⟨zz, its, n, r, hl, e⟩ := I.lstM hH
  have hjl : j < its.length := by rw [← hl]; exact (List.getElem?_eq_some_iff.mp hj).1
  have ans : ∀ (m : Nat) (hm : m < its.length) (w : V), xs[m]? = some w → eqU y its[m] = eqV w y := fun m hm w hw => by
    obtain ⟨uu, e1, e2⟩ := r.get hw
    have e3 : its[m] = uu := by rw [List.getElem?_eq_getElem hm] at e1; exact Option.some.inj e1
    rw [e3]
    exact eqU_of e2 (List.all_eq_true.mp fx w (List.mem_of_getElem? hw))
  have hline := line63
  have hsm : (j : Int) < 2 ^ 63 - 1 := by
    have : j < sizeLine := by omega
    have h2 : sizeLine = 16777216 := sizeLine_eq
    omega
  refine call_meets PySem.F.slot_list_index ⟨_, e, rfl⟩ PySem.F.entry_list_index (PySem.F.args_list_index_2 _ _) (SeqAt.list_indexAt l its.toArray n none #[] u (eqU y) j (by simpa using hjl) hsm ?_ ?_) ⟨e, fun w hw => mem_eqAt ru fy r fx w (by simpa using hw), ?_⟩
  · show eqU y its.toArray[j] = true
    rw [List.getElem_toArray, ans j hjl z hj]; exact hz
  · intro m hm hmj
    have hm' : m < its.length := by simpa using hm
    have hx : m < xs.length := by omega
    show eqU y its.toArray[m] = false
    rw [List.getElem_toArray, ans m hm' xs[m] (List.getElem?_eq_getElem hx)]
    exact hno m _ hmj (List.getElem?_eq_getElem hx)
  · exact ⟨.int _, H, I.tok _, ⟨_, rfl⟩, q⟩

def eqL : List V → List V → Bool
  | [], [] => true
  | x :: xs, y :: ys => eqV x y && eqL xs ys
  | _, _ => false
theorem eqL_len : ∀ {xs ys : List V}, xs.length ≠ ys.length → eqL xs ys = false
  | [], [], h => absurd rfl h
  | [], _ :: _, _ => rfl
  | _ :: _, [], _ => rfl
  | x :: xs, y :: ys, h => by
    have : eqL xs ys = false := eqL_len fun z => h (by rw [List.length_cons, List.length_cons, z])
    show (eqV x y && eqL xs ys) = false
    rw [this, Bool.and_false]
theorem eqL_all : ∀ (xs ys : List V), xs.length = ys.length → (List.range xs.length).all (fun j => eqV (xs.getD j .non) (ys.getD j .non)) = eqL xs ys
  | [], [], _ => rfl
  | [], _ :: _, h => nomatch h
  | _ :: _, [], h => nomatch h
  | x :: xs, y :: ys, h => by
    have ih := eqL_all xs ys (by simpa using h)
    rw [List.length_cons, List.range_succ_eq_map, List.all_cons, List.all_map]
    show (eqV x y && _) = (eqV x y && eqL xs ys)
    rw [← ih]
    rfl
def rEqL (K : PySem.W.Frag) (neg : Bool) : R2 := fun x y H Q => ∃ l b xs ys, x = .ref l ∧ y = .ref b ∧ SqL K H l xs ∧ SqL K H b ys ∧ xs.all flatV = true ∧ ys.all flatV = true ∧ Q (.bl (if neg then !eqL xs ys else eqL xs ys)) H
theorem flat_at {xs ys : List V} {its its2 : List Value} {A : Around} {s : Shared} (r : Vals xs its) (r2 : Vals ys its2) (fx : xs.all flatV = true) (fy : ys.all flatV = true) :
    ∀ (j : Nat) (h1 : j < its.toArray.size) (h2 : j < its2.toArray.size), SeqAt.EqAt A s its.toArray[j] its2.toArray[j] (eqV (xs.getD j .non) (ys.getD j .non)) := by
  intro j h1 h2
  have l1 := r.length
  have l2 := r2.length
  have hx : j < xs.length := by rw [l1]; simpa using h1
  have hy : j < ys.length := by rw [l2]; simpa using h2
  obtain ⟨u, e1, q1⟩ := r.get (List.getElem?_eq_getElem hx)
  obtain ⟨w, e2, q2⟩ := r2.get (List.getElem?_eq_getElem hy)
  have e3 : its.toArray[j] = u := by
    rw [List.getElem_toArray]; rw [List.getElem?_eq_getElem (by simpa using h1)] at e1; exact Option.some.inj e1
  have e4 : its2.toArray[j] = w := by
    rw [List.getElem_toArray]; rw [List.getElem?_eq_getElem (by simpa using h2)] at e2; exact Option.some.inj e2
  have g1 : xs.getD j .non = xs[j] := by rw [List.getD_eq_getElem?_getD, List.getElem?_eq_getElem hx]; rfl
  have g2 : ys.getD j .non = ys[j] := by rw [List.getD_eq_getElem?_getD, List.getElem?_eq_getElem hy]; rfl
  rw [e3, e4, g1, g2]
  exact eqAt_V q1 q2 (List.all_eq_true.mp fx _ (List.getElem_mem hx)) (List.all_eq_true.mp fy _ (List.getElem_mem hy))
theorem op_eq_lst (hu : X.A.units < cLine) : OpR X (compareOp .Eq) (rEqL X.K false) := by
  intro pins s σ H x y v u Q I rx ry h
  obtain ⟨l, b, xs, ys, rfl, rfl, hx, hy, fx, fy, q⟩ := h
  cases rx; cases ry
  obtain ⟨its, r, pl, _⟩ := I.list hx
  obtain ⟨its2, r2, pl2, _⟩ := I.list hy
  have l1 := r.length
  have l2 := r2.length
  by_cases hl : xs.length = ys.length
  · refine SeqAt.eq_listAt pl.isList pl2.isList (by simp; omega) hu (flat_at r r2 fx fy) ?_
    rw [List.size_toArray, ← l1, eqL_all xs ys hl]
    exact ⟨.bl _, H, I, rfl, q⟩
  · refine SeqAt.eq_list_lengthsAt pl.isList pl2.isList (by simp; omega) hu ?_
    rw [show (if false = true then !eqL xs ys else eqL xs ys) = false from eqL_len hl] at q
    exact ⟨.bl _, H, I, rfl, q⟩
theorem op_ne_lst (hu : X.A.units < cLine) : OpR X (compareOp .NotEq) (rEqL X.K true) := by
  intro pins s σ H x y v u Q I rx ry h
  obtain ⟨l, b, xs, ys, rfl, rfl, hx, hy, fx, fy, q⟩ := h
  cases rx; cases ry
  obtain ⟨its, r, pl, _⟩ := I.list hx
  obtain ⟨its2, r2, pl2, _⟩ := I.list hy
  have l1 := r.length
  have l2 := r2.length
  by_cases hl : xs.length = ys.length
  · refine SeqAt.RcNeAt.lists pl.isList pl2.isList (by simp; omega) hu (flat_at r r2 fx fy) _ _ _ _ ?_
    rw [List.size_toArray, ← l1, eqL_all xs ys hl]
    exact ⟨.bl _, H, I, rfl, q⟩
  · refine SeqAt.RcNeAt.lists_lengths pl.isList pl2.isList (by simp; omega) hu _ _ _ _ ?_
    rw [show (if true = true then !eqL xs ys else eqL xs ys) = true by rw [eqL_len hl]; rfl] at q
    exact ⟨.bl _, H, I, rfl, q⟩

theorem all_range : ∀ bs : List Bool, (List.range bs.length).all (fun i => bs.getD i false) = bs.all id
  | [] => rfl
  | b :: bs => by
    rw [List.length_cons, List.range_succ_eq_map, List.all_cons, List.all_map, List.all_cons]
    show (b && _) = (b && _)
    rw [← all_range bs]
    rfl
theorem call_all_list (hc : X.calm = true) : CallR X (.builtin "all") (fun xs H Q => ∃ (p : Addr) (bs : List Bool), xs = [.ref p] ∧ SqL X.K H p (bs.map V.bl) ∧ Q (.bl (bs.all id)) H) := by
  intro pins s σ H xs us Q I r h
  obtain ⟨p, bs, rfl, hq, q⟩ := h
  obtain ⟨u, rfl, rx⟩ := vals1 r
  cases rx
  obtain ⟨its, r', pl, hz⟩ := I.list hq
  have hlen := r'.length
  obtain ⟨o, n, ho, _⟩ := id pl
  have hne : p ≠ s.heap.objs.size := Nat.ne_of_lt (Heap.lt_size ho)
  have tr : TruthOf X.prog X.w X.A.in1 (fun i v => its.toArray[i]? = some v) (fun i => bs.getD i false) := by
    intro i v s2 Q2 E2 hv hq2
    have hv' : its[i]? = some v := by simpa using hv
    have hi : i < bs.length := by
      have := (List.getElem?_eq_some_iff.mp hv').1
      rw [← hlen, List.length_map] at this; exact this
    obtain ⟨w, e1, e2⟩ := r'.get (i := i) (x := .bl bs[i]) (by rw [List.getElem?_map, List.getElem?_eq_getElem hi]; rfl)
    rw [hv'] at e1
    cases e1
    cases e2
    refine wpAny_truthy_bool ?_
    have e3 : bs.getD i false = bs[i] := by rw [List.getD_eq_getElem?_getD, List.getElem?_eq_getElem hi]; rfl
    have q3 : Q2 (bs.getD i false) s2 := hq2
    rw [e3] at q3
    exact q3
  refine call_all_walk (wpAny_pyIter_list pl.isList ?_)
  refine ⟨s.heap.objs.size, [s.heap.objs.size, p], [s.heap.objs.size], its.toArray.size, _, _, _, rfl, Walks.list (A := X.A.in1) (I.ok.hd hc) _ _ hne its.toArray, ⟨⟨_, Heap.get?_push_size _ rfl, rfl, rfl⟩, ?_⟩, tr, fun h' tk hk => ?_⟩
  · obtain ⟨o2, e2, r2⟩ := pl.isList
    exact ⟨o2, Heap.get?_push_of_some _ e2, r2⟩
  · have hk2 : ∀ b o, s.heap.get? b = some o → h'.get? b = some o := fun b o e => hk b o (fun z => by
      have e1 := Heap.lt_size e
      rw [List.mem_singleton.mp z] at e1
      exact absurd e1 (Nat.lt_irrefl _)) (Heap.get?_push_of_some _ e)
    have e : (List.range its.toArray.size).all (fun i => bs.getD i false) = bs.all id := by
      rw [List.size_toArray, ← hlen, List.length_map]; exact all_range bs
    rw [e]
    exact ⟨.bl _, H, I.kept (t' := tk) hk2, rfl, q⟩
end

theorem Inv.laidN {X : Cx} {pins : List (Addr × Obj)} {σ : St} {H : Hp} {s : Shared} {h' : Heap} {a : Addr} {o : HO} {t' : Nat} (I : Inv X pins σ H s) (k : ∀ b u, s.heap.get? b = some u → h'.get? b = some u) (hn : s.heap.get? a = none)
    (new : ObjOk X.prog X.w (upd H a o) h' a o) : Inv X pins σ (upd H a o) { s with heap := h', toks := t' } := by
  have ha : H a = none := I.hasNo hn
  have nt : ∀ b u, H b = some u → b ≠ a := fun b u q => ne_of_none q ha
  refine I.un ⟨fun b u q _ _ _ => k b u q, fun b u q _ _ _ => ⟨u.slots, k b u q⟩, fun b u q n _ => ?_, fun b u q _ => ⟨u, k b u q⟩, fun b xs q => ?_, fun b u xs q => ?_, fun b ps q => ⟨#[], ?_⟩⟩ fun b u q => ?_
  · have ne : b ≠ a := fun z => by rw [z, hn] at q; cases q
    rw [upd_ne ne]; exact n
  · rw [upd_ne (nt _ _ q)]; exact q
  · rw [upd_ne (nt _ _ q)]; exact q
  · rw [upd_ne (nt _ _ q), q]; simp
  · by_cases hb : b = a
    · subst hb; rw [upd_same] at q; cases q; exact new
    · rw [upd_ne hb] at q
      exact (I.hok b u q).stay (fun c v _ z => k c v z) (fun c z => by rw [upd_ne (nt _ _ z)]; exact z) fun c xs z => by rw [upd_ne (nt _ _ z)]; exact z

section
variable {X : Cx} {x z : Str} {p1 p2 p3 px pos : Pos} {iter : Expr} {ti : TE} {scope : Scope} {cl : List (Str × Addr)} {zs : Str}
end

section
variable {X : Cx}
theorem call_isi_ty : CallR X (.builtin "isinstance") (fun xs H Q => ∃ x T t b, xs = [x, .ty T] ∧ TyOf X.K H x t ∧ PySem.W.kitOne X.K t (.type T) = some b ∧ Q (.bl b) H) := by
  intro pins s σ H xs us Q I r h
  obtain ⟨x, T, t, b, rfl, ty, e, q⟩ := h
  obtain ⟨u, w', rfl, rx, ry⟩ := vals2 r
  cases (show w' = Value.type T from ry)
  exact isinst_ok I rx ty e fun tk => ⟨.bl b, H, I.tok _, rfl, q⟩
theorem call_isi_own : CallR X (.builtin "isinstance") (fun xs H Q => ∃ x C t b, xs = [x, .ref C] ∧ TyOf X.K H x t ∧ PySem.W.kitOne X.K t (.ref C) = some b ∧ Q (.bl b) H) := by
  intro pins s σ H xs us Q I r h
  obtain ⟨x, C, t, b, rfl, ty, e, q⟩ := h
  obtain ⟨u, w', rfl, rx, ry⟩ := vals2 r
  cases (show w' = Value.ref C from ry)
  exact isinst_ok I rx ty e fun tk => ⟨.bl b, H, I.tok _, rfl, q⟩
end

section
variable {X : Cx} {x : Str} {pos : Pos}
theorem pe_gref {a : Addr} (hg : Gl X x) (hm : X.mg x = some (.ref a)) (hd : (x == ("__debug__" : Str)) = false := by decide) : PE X (.Name x pos) (tC (.ref a)) := pe_glob hg hm rfl hd
theorem pe_gty {T : String} (hg : Gl X x) (hm : X.mg x = none) (hv : bootBuiltins x = some (.type T)) (hn : x ≠ "__name__" := by decide) (hd : (x == ("__debug__" : Str)) = false := by decide) : PE X (.Name x pos) (tC (.ty T)) := pe_bltn hg hm hv rfl hn hd
end
end L2

set_option Elab.async false
set_option linter.all false
set_option maxRecDepth 100000
set_option maxHeartbeats 4000000
namespace L2
open PySem PySem.Spec PyProof.Rows PySem.W PySem.Calls Builtin Builtin.ObjectAttr Builtin.Getset_descriptor

section
variable {prog : Program} {w : World} {A : Around} {E : Value → Shared → Prop} {s : Shared} {K : PySem.W.Frag} {a C : Addr} {o : Obj} {R : Result → Shared → Prop}
structure ExI (K : PySem.W.Frag) (C : Addr) : Prop where
  cl : (PySem.W.clsIn K C).isSome = true
  g1 : PySem.W.findIn K (.ref C) "__getattribute__" = some (some (.builtin "BaseException.__getattribute__"))
  g2 : PySem.W.findIn K (.ref C) "__getattr__" = some none
  g3 : PySem.W.findIn K (.ref C) "__class__" = some (some (.builtin "object.__class__"))
  g4 : PySem.W.mroIn K C (.type "object") = some true
  g5 : PySem.W.mroIn K C (.type "BaseException") = some true
  g6 : PySem.W.specialIn K (.builtin "object.__class__") "__get__" = some (some (.builtin "getset_descriptor.__get__"))
  g7 : PySem.W.takesIn K (.builtin "object.__class__") = some true
theorem exc_get {tp : Value} (Y : K.In s.heap) (c : ExI K C) (hx : s.heap.get? a = some o) (hc : o.cls = .ref C) (h : R (.ok (.ret (.ref C))) s) :
    codeAny (model prog w) A (.call (.builtin "getset_descriptor.__get__") ⟨[.builtin "object.__class__", .ref a, tp], []⟩) R s := by
  obtain ⟨hh, g, dr, t, os⟩ := s
  have L0 : Looks (model prog w) hh (typeOf (.ref a)) (.ref C) := hc ▸ (Looks.ld hx).andThen .now
  have L1 := looks_mroIn (M := model prog w) Y c.g4
  refine codeAny_call_builtin KF.slot_gs.plain KF.entry_gs (KF.slot_gs.check _ _ _ _ _ _ _ _ KF.type_class (KF.args_gs _ _ _) ?_)
  unfold Builtin.«getset_descriptor.__get__» descrGet
  rw [dga_obj]
  refine wpAny_bind (wpAny_pure ?_)
  unfold descrGetter descrCheckInstance descrNameAndClass isInstance
  simp only [KF.owner_class]
  repeat lk
  refine ⟨Code.quiet_builtin _ (by decide +kernel), codeAny_builtin KF.entry_class ?_⟩
  unfold Builtin.«object.__class__» shownTypeOf
  repeat lk
  exact h
theorem exc_entry {tk : Tok} {Q : Fin → Shared → Prop} (Y : K.In s.heap) (c : ExI K C) (hx : s.heap.get? a = some o) (hc : o.cls = .ref C) (h : Q (.done (.ret (.ref C))) s) :
    wpAny (model prog w) A (Builtin.«object.__getattribute__» ⟨[.ref a, .str "__class__" tk], []⟩) Q E s := by
  obtain ⟨hh, g, dr, t, os⟩ := s
  have L0 : Looks (model prog w) hh (typeOf (.ref a)) (.ref C) := hc ▸ (Looks.ld hx).andThen .now
  have L1 := looks_findIn (M := model prog w) Y c.g3
  have L2 := looks_specialIn (M := model prog w) Y c.g6
  have L3 := looks_takesIn (M := model prog w) Y c.g7
  unfold Builtin.«object.__getattribute__»
  repeat lk
  refine wpAny_run (c := .call (.builtin "getset_descriptor.__get__") ⟨[.builtin "object.__class__", .ref a, .ref C], []⟩) (h := none) (exc_get (R := _) Y c hx hc ?_)
  exact wpAny_pure (wpAny_pure h)
theorem exc_check {M : Model} {nameV : Value} {Q : Unit → Shared → Prop} (Y : K.In s.heap) (c : ExI K C) (hx : s.heap.get? a = some o) (hc : o.cls = .ref C) (h : Q () s) :
    wpAny M A (checkBuiltinCall "BaseException.__getattribute__" ⟨[.ref a, nameV], []⟩) Q E s := by
  obtain ⟨hh, g, dr, t, os⟩ := s
  have L0 : Looks M hh (typeOf (.ref a)) (.ref C) := hc ▸ (Looks.ld hx).andThen .now
  have L1 := looks_mroIn (M := M) Y c.g5
  have hk : builtinKind "BaseException.__getattribute__" = some .slot := by decide +kernel
  have hsplit : splitId "BaseException.__getattribute__" = some ("BaseException", "__getattribute__") := by decide +kernel
  have ha := PySem.F.args_bexc_ga (.ref a) nameV
  simp only [checkBuiltinCall, hk, hsplit]
  refine wpAny_bind ?_
  unfold isInstance
  refine wpAny_bind (L0.at ?_)
  refine L1.at ?_
  rw [if_neg (by decide)]
  exact wpAny_of_eq ha h
theorem exc_attr {Q : Option Value → Shared → Prop} (Y : K.In s.heap) (c : ExI K C) (hx : s.heap.get? a = some o) (hc : o.cls = .ref C) (h : Q (some (.ref C)) { s with toks := s.toks + 1 }) :
    wpAny (model prog w) A (getAttr? (.ref a) "__class__") Q E s := by
  obtain ⟨hh, g, dr, t, os⟩ := s
  have L0 : Looks (model prog w) hh (typeOf (.ref a)) (.ref C) := hc ▸ (Looks.ld hx).andThen .now
  have L1 := looks_findIn (M := model prog w) Y c.g1
  have L2 := looks_findIn (M := model prog w) Y c.g2
  have f3 := PySem.F.excAttr_ValueError.ga.bind (.ref a)
  unfold getAttr? getAttrBy? getAttrBy
  refine wpAny_bind (wpAny_mkText (wpAny_bind (wpAny_attempt (wpAny_holding (wpAny_bind (L0.at (wpAny_bind (L1.at ?_))))))))
  dsimp only
  rw [if_neg (show ¬ ((onTheHeap (Value.ref C) && Value.builtin "BaseException.__getattribute__" == Value.builtin "object.__getattribute__") = true) by
    rw [show (Value.builtin "BaseException.__getattribute__" == Value.builtin "object.__getattribute__") = false by decide +kernel, Bool.and_false]; decide)]
  unfold getAttrByItsOwn hookBefore
  rw [if_pos (show onTheHeap (Value.ref C) = true from rfl)]
  refine wpAny_bind (L2.at ?_)
  unfold callGetattribute
  rw [if_neg (by decide)]
  unfold boundAndCalled
  refine wpAny_bind (wpAny_attempt (wpAny_holding (wpAny_bind (wpAny_of_eq f3 ?_))))
  refine wpAny_call (codeAny_call_builtin PySem.F.excAttr_ValueError.ga.plain PySem.F.entry_bexc_ga (exc_check Y c hx hc (exc_entry Y c hx hc ?_)))
  exact wpAny_pure (wpAny_pure h)

theorem kitx_exc (c : ExI K C) : KitX K (.ref a) (.ref C) (fun h => ∃ ob vs, h.get? a = some ob ∧ ob.cls = .ref C ∧ ob.data = .fields vs) where
  ty := fun M h Y ⟨ob, vs, hx, hc, _⟩ => hc ▸ (Looks.ld hx).andThen .now
  it := fun M h Y _ => by
    obtain ⟨cd, hcd⟩ := Option.isSome_iff_exists.mp c.cl
    unfold clsIn at hcd
    split at hcd
    · next ho =>
      intro A' Q' E' s' k q
      unfold isType loadHead
      exact wpAny_bind (wpAny_loadPart (k _ _ (Y _ _ ho)) (wpAny_pure q))
    · cases hcd
  ne := fun h tp dd its n sl Y htp => by
    obtain ⟨cd, hcd⟩ := Option.isSome_iff_exists.mp c.cl
    refine Bool.eq_false_iff.mpr fun q => ?_
    have e : C = tp := Value.ref.inj (beq_iff_eq.mp q)
    subst e
    unfold clsIn at hcd
    split at hcd
    · next ho =>
      have z := (Y _ _ ho).symm.trans htp
      cases z
    · cases hcd
  ca := fun Y ⟨ob, vs, hx, hc, _⟩ k => exc_attr Y c hx hc k
end
theorem call_isi_exc {X : Cx} : CallR X (.builtin "isinstance") (fun xs H Q => ∃ (a C D : Addr) (b : Bool), xs = [.ref a, .ref D] ∧ H a = some (exO a (.ref C)) ∧ ExI X.K C ∧ PySem.W.kitOne X.K (.ref C) (.ref D) = some b ∧ Q (.bl b) H) := by
  intro pins s σ H xs us Q I r h
  obtain ⟨a, C, D, b, rfl, ha, c, e, q⟩ := h
  obtain ⟨u, w', rfl, rx, ry⟩ := vals2 r
  cases (show u = Value.ref a from rx)
  cases (show w' = Value.ref D from ry)
  obtain ⟨p, _⟩ := I.hok a _ ha
  exact kia_one (kitx_exc c) I.kIn p e (fun z => nomatch z) fun tk => ⟨.bl b, H, I.tok _, rfl, q⟩
theorem call_isi_excT {X : Cx} : CallR X (.builtin "isinstance") (fun xs H Q => ∃ (a C : Addr) (T : String) (b : Bool), xs = [.ref a, .ty T] ∧ H a = some (exO a (.ref C)) ∧ ExI X.K C ∧ PySem.W.kitOne X.K (.ref C) (.type T) = some b ∧ Q (.bl b) H) := by
  intro pins s σ H xs us Q I r h
  obtain ⟨a, C, T, b, rfl, ha, c, e, q⟩ := h
  obtain ⟨u, w', rfl, rx, ry⟩ := vals2 r
  cases (show u = Value.ref a from rx)
  cases (show w' = Value.type T from ry)
  obtain ⟨p, _⟩ := I.hok a _ ha
  exact kia_one (kitx_exc c) I.kIn p e (fun z => nomatch z) fun tk => ⟨.bl b, H, I.tok _, rfl, q⟩
end L2

set_option Elab.async false
set_option linter.all false
set_option maxRecDepth 100000
set_option maxHeartbeats 4000000
namespace L2
open PySem PySem.Spec PyProof.Rows

theorem thnF {α : Type} {t : Sem α} {Q Q' : α → Shared → Prop} {M : Model} {A : Around} {E : Value → Shared → Prop} {s : Shared} (h : wpAny M A t Q (fun _ _ => False) s) (hQ : ∀ a s, Q a s → Q' a s) : wpAny M A t Q' E s := wpAny_mono h hQ fun _ _ z => z.elim

abbrev testsOf (ifs : List Expr) (env : Env) : Sem Bool := forIn ifs true fun c r => if r = true then do let ok ← isTrue c env (eval c env); pure (ForInStep.yield ok) else pure (ForInStep.yield r)

theorem comp_turns {prog : Program} {w : World} {A : Around} {R : Result → Shared → Prop} {s : Shared} {elt tg iter : Expr} {ifs : List Expr} {scope : Scope} {pos : Pos} {it acc : Value} {env : Env} (J : Nat → Shared → Prop)
    (turn : ∀ k s1, J k s1 → wpAny (model prog w) A (pyNext it) (fun r s2 => match r with
      | none => R (.ok .next) s2
      | some v => wpAny (model prog w) A (letOwnedTupleGo tg it v) (fun _ s3 => wpAny (model prog w) A (assign tg env v) (fun _ s4 => wpAny (model prog w) A (testsOf ifs env) (fun ok s5 =>
          if ok = true then wpAny (model prog w) A (eval elt env) (fun x s6 => wpAny (model prog w) A (call (.builtin "list.append") [acc, x]) (fun _ s7 => ∃ m, m < k ∧ J m s7) (fun _ _ => False) s6) (fun _ _ => False) s5
          else ∃ m, m < k ∧ J m s5) (fun _ _ => False) s4) (fun _ _ => False) s3) (fun _ _ => False) s2) (fun _ _ => False) s1)
    (k : Nat) (h : J k s) : codeAny (model prog w) A (.compLoop (.ListComp elt [⟨tg, iter, ifs, 0⟩] scope pos) 0 it acc env) R s := by
  refine codeAny_loop rfl J (fun k s1 hJ => ?_) k h
  refine wpAny_noted ?_
  rw [compTurn_list]
  refine wpAny_bind (wpAny_standAt (wpAny_bind (thnF (turn k s1 hJ) fun r s2 h2 => ?_)))
  cases r with
  | none => exact wpAny_pure h2
  | some v =>
    refine wpAny_bind (thnF h2 fun _ s3 h3 => wpAny_bind (thnF h3 fun _ s4 h4 => wpAny_bind (thnF h4 fun ok s5 h5 => ?_)))
    cases ok with
    | false => exact wpAny_pure ⟨rfl, h5⟩
    | true => exact wpAny_bind (wpAny_bind (thnF h5 fun x s6 h6 => wpAny_bind (thnF h6 fun _ s7 h7 => wpAny_pure (wpAny_pure ⟨rfl, h7⟩))))

abbrev compCx (X : Cx) (N : List Str) (scope : Scope) (cl : List (Str × Addr)) (C : Addr) (s0 : Shared) (H0 : Hp) (ex : List Addr) (pins : List (Addr × Obj)) : Cx :=
  { X with N := N, s₀ := s0, H₀ := H0, env := compEnvC scope cl C X.env, outer := X.stack, stack := X.stack, ex := ex, fn := fun _ => false, pn := X.pn ++ pins, xe := fun _ _ => False }
def FreeOk (X : Cx) (scope : Scope) (cl : List (Str × Addr)) : List Str → List (Option Nat) → Prop
  | [], [] => True
  | _ :: N, none :: fr => FreeOk X scope cl N fr
  | y :: N, some i :: fr => (X.N[i]? = some y ∧ (X.env.kindOf y = some .cell ∨ X.env.kindOf y = some .free) ∧ ((relabel scope X.env).names.lookup y = some .cell ∨ (relabel scope X.env).names.lookup y = some .free) ∧
      ∃ c, X.env.cells.lookup y = some c ∧ cl.lookup y = some c) ∧ FreeOk X scope cl N fr
  | _, _ => False
def compSt (fr : List (Option Nat)) (σ : St) : St := fr.map fun o => match o with | none => none | some i => (σ[i]?).getD none
theorem FreeOk.len {X : Cx} {scope : Scope} {cl : List (Str × Addr)} : ∀ {N : List Str} {fr : List (Option Nat)}, FreeOk X scope cl N fr → fr.length = N.length
  | [], [], _ => rfl
  | _ :: N, none :: fr, h => by rw [List.length_cons, List.length_cons, FreeOk.len (N := N) h]
  | _ :: N, some i :: fr, h => by rw [List.length_cons, List.length_cons, FreeOk.len (N := N) h.2]
  | [], _ :: _, h => h.elim
  | _ :: _, [], h => h.elim
theorem FreeOk.at {X : Cx} {scope : Scope} {cl : List (Str × Addr)} {σ : St} {v : V} {y : Str} : ∀ {N : List Str} {fr : List (Option Nat)} {j : Nat}, FreeOk X scope cl N fr → N[j]? = some y → (compSt fr σ)[j]? = some (some v) →
    ∃ i : Nat, σ[i]? = some (some v) ∧ X.N[i]? = some y ∧ (X.env.kindOf y = some .cell ∨ X.env.kindOf y = some .free) ∧ ((relabel scope X.env).names.lookup y = some .cell ∨ (relabel scope X.env).names.lookup y = some .free) ∧
      ∃ c, X.env.cells.lookup y = some c ∧ cl.lookup y = some c
  | [], [], j, _, e, _ => by simp at e
  | [], _ :: _, _, h, _, _ => h.elim
  | _ :: _, [], _, h, _, _ => h.elim
  | _ :: N, none :: fr, 0, _, _, q => by cases q
  | _ :: N, none :: fr, j + 1, h, e, q => FreeOk.at (N := N) (fr := fr) (j := j) h e q
  | x :: N, some i :: fr, 0, h, e, q => by
    have e' : x = y := Option.some.inj e
    subst e'
    have q' : some ((σ[i]?).getD none) = some (some v) := q
    refine ⟨i, ?_, h.1⟩
    cases z : σ[i]? with
    | none => rw [z] at q'; cases q'
    | some o => rw [z] at q'; exact congrArg some (Option.some.inj q')
  | _ :: N, some i :: fr, j + 1, h, e, q => FreeOk.at (N := N) (fr := fr) (j := j) h.2 e q
def ClOk (X : Cx) : List (Str × Addr) → Prop
  | [] => True
  | (y, c) :: r => X.env.cells.lookup y = some c ∧ ClOk X r
theorem ClOk.at {X : Cx} {y : Str} {c : Addr} : ∀ {cl : List (Str × Addr)}, ClOk X cl → cl.lookup y = some c → X.env.cells.lookup y = some c
  | [], _, e => by cases e
  | (z, d) :: r, h, e => by
    rw [List.lookup_cons] at e
    cases q : y == z with
    | true =>
      rw [q] at e
      have e1 : y = z := by simpa using q
      have e2 : d = c := Option.some.inj e
      subst e1 e2
      exact h.1
    | false =>
      rw [q] at e
      exact ClOk.at h.2 e
theorem lookup_all {α : Type} {p : Str × α → Bool} {y : Str} {k : α} : ∀ {l : List (Str × α)}, l.all p = true → l.lookup y = some k → p (y, k) = true
  | [], _, e => by cases e
  | (z, d) :: r, h, e => by
    rw [List.all_cons, Bool.and_eq_true] at h
    rw [List.lookup_cons] at e
    cases q : y == z with
    | true =>
      rw [q] at e
      have e1 : y = z := by simpa using q
      have e2 : d = k := Option.some.inj e
      subst e1 e2
      exact h.1
    | false =>
      rw [q] at e
      exact lookup_all h.2 e

section
variable {X : Cx} {pins : List (Addr × Obj)} {σ : St} {H : Hp} {s : Shared} {N : List Str} {fr : List (Option Nat)} {scope : Scope} {cl : List (Str × Addr)}
theorem Inv.block {ex : List Addr} {h' : Heap} {C : Addr} {m : Str → Option Value} {tk : Nat} (I : Inv X pins σ H s) (hkind : scope.kind = .function) (hfr : FreeOk X scope cl N fr) (hcl : ClOk X cl)
    (hhas : ((relabel scope X.env).names.all fun p => !(p.2 == .cell || p.2 == .free) || (cl.lookup p.1).isSome) = true) (hex : ∀ b ∈ ex, FpOk X pins H b) (hlt : ∀ b ∈ ex, b < s.heap.objs.size)
    (old : ∀ b o, s.heap.get? b = some o → h'.get? b = some o) (hC : s.heap.objs.size ≤ C) (hns : h'.Ns C m) : Inv (compCx X N scope cl C s H ex pins) [] (compSt fr σ) H { s with heap := h', toks := tk } := by
  have nst : ∀ b, b ≠ X.env.locals → b ∉ X.fs → b ∉ frs X.stack := fun b h1 h2 z => (List.mem_cons.mp (I.stkSub b z)).elim h1 h2
  have ltC : ∀ b o, s.heap.get? b = some o → b ≠ C := fun b o e => Nat.ne_of_lt (Nat.lt_of_lt_of_le (Heap.lt_size e) hC)
  refine ⟨⟨I.ok.mod, hkind, I.ok.glob, I.ok.blt, hC, fun x y c e1 e2 => I.ok.inj x y c (hcl.at e1) (hcl.at e2), fun x hx => ?_, (fun _ _ z => nomatch z), I.ok.hd, I.ok.frames, .inl rfl, fun b hb => ⟨Nat.ne_of_lt (Nat.lt_of_lt_of_le (hlt b hb) hC), fun x c e => (hex b hb).2.2.2.2.1 x c (hcl.at e)⟩,
      I.bs, Nat.le_trans I.ok.bsz I.sz, fun b o e hb => ?_, fun b hb => nst b (hex b hb).2.1 (hex b hb).2.2.1, I.stack, I.stkFree⟩, rfl, I.bare, Un.kept old, ⟨m, hns, fun i x v e1 e2 e3 => ?_⟩, fun x c e => ?_, ?_, fun x c e => I.freeC x c (hcl.at e), fun p hp => ?_, I.hok.kept old, ?_⟩
  · have q : ∃ k, (relabel scope X.env).names.lookup x = some k ∧ (k = .cell ∨ k = .free) := hx.elim (fun z => ⟨_, z, .inl rfl⟩) fun z => ⟨_, z, .inr rfl⟩
    obtain ⟨k, q1, q2⟩ := q
    have z := lookup_all hhas q1
    have z2 : (cl.lookup x).isSome = true := by
      rcases q2 with rfl | rfl
      · simpa using z
      · simpa using z
    exact Option.isSome_iff_exists.mp z2
  · rcases (hex b hb).2.2.2.1 with z | z
    · exact I.ok.noex b o e z
    · exact absurd (Nat.lt_of_lt_of_le (Nat.lt_of_lt_of_le (Heap.lt_size e) I.ok.bsz) z) (Nat.lt_irrefl _)
  · obtain ⟨j, q1, q2, q3, q4, c, q5, q6⟩ := hfr.at e1 e2
    obtain ⟨m0, hn0, hl0⟩ := I.loc
    obtain ⟨u, r, l⟩ := hl0 j x v q2 q1 (q3.elim (fun z => .inr (.inl z)) fun z => .inr (.inr z))
    refine ⟨u, r, .inr ⟨q4, c, q6, ?_⟩⟩
    rcases l with ⟨k, _⟩ | ⟨_, c', e', o, ho, hd⟩
    · rcases q3 with z | z
      · rw [z] at k; cases k
      · rw [z] at k; cases k
    · rw [q5] at e'; cases e'
      exact ⟨o, old _ _ ho, hd⟩
  · obtain ⟨v, o, ho, hd⟩ := I.cell x c (hcl.at e)
    exact ⟨v, o, old _ _ ho, hd⟩
  · exact I.hok.fresh hC
  · have hp' : p ∈ X.pn ++ pins := by simpa using hp
    obtain ⟨e, n, ne, nf, d⟩ := I.pin p hp'
    exact ⟨old _ _ e, n, ltC _ _ e, nst _ ne nf, d⟩
  · show (compSt fr σ).length = N.length
    unfold compSt
    rw [List.length_map, hfr.len]

theorem Inv.trackS {a : Addr} {ob : Obj} {vs : Array Value} {n : Nat} {o : HO} (I : Inv X pins σ H s) (ha : H a = none) (hob : s.heap.get? a = some ob) (hd : ob.data = .seq vs n)
    (h0 : X.s₀.heap.get? a = none) (hp : ∀ p ∈ X.pn ++ pins, p.1 ≠ a) (new : ObjOk X.prog X.w (upd H a o) s.heap a o) : Inv X pins σ (upd H a o) s := by
  have nt : ∀ b u, H b = some u → b ≠ a := fun b u q => ne_of_none q ha
  refine ⟨I.ok, I.os, I.bare, ⟨I.base.keep, I.base.slot, fun b u e n hx => ?_, I.base.there, fun b xs q => ?_, fun b u xs q => ?_, fun b ps q => ?_⟩, I.loc, I.cell, ?_, fun y c e => ?_, fun p q => ?_, fun b u q => ?_, I.len⟩
  · have ne : b ≠ a := fun z => by rw [z, h0] at e; cases e
    rw [upd_ne ne]; exact I.base.free b u e n hx
  · have z := I.base.tups b xs q
    rw [upd_ne (nt _ _ z)]; exact z
  · have z := I.base.frzs b u xs q
    rw [upd_ne (nt _ _ z)]; exact z
  · obtain ⟨m, z⟩ := I.base.tbls b ps q
    exact ⟨m, by rw [upd_ne (nt _ _ z)]; exact z⟩
  · have ne : X.env.locals ≠ a := fun z => by
      obtain ⟨m, ⟨oL, es, ep, e1, e2, _⟩, _⟩ := I.loc
      rw [z, hob] at e1; cases e1
      rw [hd] at e2; cases e2
    rw [upd_ne ne]; exact I.free
  · have ne : c ≠ a := fun z => by
      obtain ⟨v, oc, e1, e2⟩ := I.cell y c e
      rw [z, hob] at e1; cases e1
      rw [hd] at e2; cases e2
    rw [upd_ne ne]; exact I.freeC y c e
  · obtain ⟨e, n, r⟩ := I.pin p q
    exact ⟨e, by rw [upd_ne (hp p q)]; exact n, r⟩
  · by_cases hb : b = a
    · subst hb; rw [upd_same] at q; cases q; exact new
    · rw [upd_ne hb] at q
      exact (I.hok b u q).stay (fun c v _ z => z) (fun c z => by rw [upd_ne (nt _ _ z)]; exact z) fun c xs z => by rw [upd_ne (nt _ _ z)]; exact z
end

def PTs (X : Cx) (ifs : List Expr) (t : TT) : Prop :=
  ∀ (pins : List (Addr × Obj)) (s : Shared) (σ : St) (H : Hp) (Q : Bool → Hp → Prop), Inv X pins σ H s → t σ H Q → wpAny (model X.prog X.w) X.A (testsOf ifs X.env) (TP X pins σ Q) X.xe s
def tTrue : TT := fun _ H Q => Q true H
theorem pts_nil {X : Cx} : PTs X [] tTrue := fun _ _ _ H _ I h => wpAny_tests_nil ⟨H, I, h⟩
def endC (Q : VK) (acc : List V) (H : Hp) : Prop := ∀ p, H p = none → Q (.ref p) (upd H p (.lst acc))
def tComp (fr : List (Option Nat)) (wi : TI) (g : TG) (tt : TT) (te : TE) : TE := fun σ H Q => wi σ H fun J H1 => ∃ W : Nat → Nat → List V → St → Hp → Prop, (∃ m, W 0 m [] (compSt fr σ) H1) ∧ ∀ i m acc σ1 H, W i m acc σ1 H →
  (J.stop i H ∧ endC Q acc H) ∨
  (J.go i H ∧ acc.length < sizeLine ∧ ∃ N : List V → St → Hp → Prop, (∀ acc' σ' H', N acc' σ' H' → ∃ m', m' < m ∧ W (i + 1) m' acc' σ' H') ∧ ∀ x H', J.yld i H x H' → g x σ1 H' fun σ2 H2 => tt σ2 H2 fun b H3 => if b = true then te σ2 H3 fun y H4 => N (acc ++ [y]) σ2 H4 else N acc σ2 H3)
theorem pe_comp {X : Cx} {elt tg iter : Expr} {ifs : List Expr} {scope : Scope} {cl : List (Str × Addr)} {pos : Pos} {N : List Str} {fr : List (Option Nat)} {wi : TI} {g : TG} {tt : TT} {te : TE}
    (hc : X.calm = true) (hi : PI X tg iter wi) (hclos : closureFor scope X.env = pure cl) (hcell : ∀ y ∈ scope.names, y.2 ≠ .cell) (hkind : scope.kind = .function)
    (hnames : ∀ y ∈ scope.names, y.2 = .local → scope.names.lookup y.1 = some .local) (hfr : FreeOk X scope cl N fr) (hcl : ClOk X cl)
    (hhas : ((relabel scope X.env).names.all fun p => !(p.2 == .cell || p.2 == .free) || (cl.lookup p.1).isSome) = true)
    (hg : ∀ C s0 H0 ex pins, PG (compCx X N scope cl C s0 H0 ex pins) tg g) (ht : ∀ C s0 H0 ex pins, PTs (compCx X N scope cl C s0 H0 ex pins) ifs tt) (he : ∀ C s0 H0 ex pins, PE (compCx X N scope cl C s0 H0 ex pins) elt te)
    (hs : ∀ v, foldedSetIterable iter X.env v = pure v := by intro _; rfl) : PE X (.ListComp elt [⟨tg, iter, ifs, 0⟩] scope pos) (tComp fr wi g tt te) := by
  intro pins s σ H Q I h
  rw [eval_ListComp]
  refine wpAny_comprehension_free (use := none) rfl hs hclos hkind hnames (thn (hi pins s σ H _ I h) fun xv s1 h1 => thn h1 fun itv s2 h2 => ?_)
  obtain ⟨it, fp, tn, J, H2, e, I2, T, st2, f2, W, ⟨m0, w0⟩, turn⟩ := h2
  subst e
  refine wpAny_newObj_type (wpAny_newFunctionEnv hcell (fun y hy => nomatch hy) (fun h4 hns hsb => ?_) hkind)
  dsimp only at hns hsb ⊢
  generalize hD : s2.heap.objs.size = D at *
  generalize hG : s2.heap.push { cls := .type "list", dict := none, data := .seq ([] : List Value).toArray } = G at hns hsb ⊢
  have hC : G.objs.size = D + 1 := by rw [← hG, Heap.size_push, hD]
  generalize hCC : G.objs.size = C at hns hsb hC ⊢
  subst hC
  have old : ∀ b o, s2.heap.get? b = some o → h4.get? b = some o := fun b o e => by
    have lt := Heap.lt_size e
    rw [hD] at lt
    exact hsb.extBut b o (Nat.ne_of_lt (Nat.lt_succ_of_lt lt)) (Heap.get?_push_of_some _ (hG ▸ Heap.get?_push_of_some _ e))
  have hDl : h4.get? D = some { cls := .type "list", dict := none, data := .seq ([] : List Value).toArray 0 } :=
    hsb.extBut _ _ (Nat.ne_of_lt (Nat.lt_succ_self _)) (Heap.get?_push_of_some _ (hG ▸ hD ▸ Heap.get?_push_size _ rfl))
  have flt : ∀ b ∈ fp, b < D := fun b hb => by
    obtain ⟨o, e, _⟩ := T.obj 0 _ st2 b hb
    have lt := Heap.lt_size e
    rw [hD] at lt
    exact lt
  have nst : ∀ b, b ≠ X.env.locals → b ∉ X.fs → b ∉ frs X.stack := fun b h1 h2 z => (List.mem_cons.mp (I2.stkSub b z)).elim h1 h2
  have pl : ∀ p ∈ X.pn ++ pins, p.1 < D := fun p hp => by
    have lt := Heap.lt_size (I2.pin p hp).1
    rw [hD] at lt
    exact lt
  have I4 : ∀ tk, Inv (compCx X N scope cl (D + 1) s2 H2 fp pins) [] (compSt fr σ) H2 { s2 with heap := h4, toks := tk } := fun tk =>
    I2.block hkind hfr hcl hhas f2 (fun b hb => by rw [hD]; exact flt b hb) old (by rw [hD]; exact Nat.le_succ _) hns
  have stat : ∀ {H' : Hp} {o : Obj}, (∀ b ∈ fp, H' b = none) → ∀ b ∈ fp, FpOk (compCx X N scope cl (D + 1) s2 H2 fp pins) [(D, o)] H' b := fun {H' o} hn b hb => by
    obtain ⟨_, k1, k2, _, k4, k5⟩ := f2 b hb
    refine ⟨hn b hb, Nat.ne_of_lt (Nat.lt_succ_of_lt (flt b hb)), nst b k1 k2, .inl hb, fun x c e => k4 x c (hcl.at e), fun p hp => ?_⟩
    rcases List.mem_append.mp hp with hp | hp
    · exact k5 p hp
    · rw [List.mem_singleton.mp hp]
      exact (Nat.ne_of_lt (flt b hb)).symm
  have dnf : D ∉ frs X.stack := fun z => by
    obtain ⟨_, o, e, _⟩ := I2.stack.mem z
    have lt := Heap.lt_size e
    rw [hD] at lt
    exact absurd lt (Nat.lt_irrefl _)
  have loop : ∀ tk, codeAny (model X.prog X.w) X.A (.compLoop (.ListComp elt [⟨tg, iter, ifs, 0⟩] scope pos) 0 (.ref it) (.ref D) (compEnvC scope cl (D + 1) X.env)) (compPost (model X.prog X.w) X.A X.xe none (EP X pins σ Q) (.ref D) (D + 1)) { s2 with heap := h4, toks := tk } := fun tk => by
    refine comp_turns (fun k s' => ∃ i σ' H' its nD acc, Inv (compCx X N scope cl (D + 1) s2 H2 fp pins) [] σ' H' s' ∧
        s'.heap.get? D = some { cls := .type "list", dict := none, data := .seq (List.toArray its) nD } ∧ H' D = none ∧ Vals acc its ∧ acc.length ≤ sizeLine ∧ tn i s'.heap ∧ (∀ b ∈ fp, H' b = none) ∧ W i k acc σ' H') ?_ m0
      ⟨0, _, H2, [], 0, [], I4 tk, hDl, I2.hok.fresh (by rw [hD]; exact Nat.le_refl _), .nil, Nat.zero_le _, T.keep 0 _ _ st2 fun b _ o e => old b o e, fun b hb => (f2 b hb).1, w0⟩
    rintro k s5 ⟨i, σ5, H5, its, nD, acc, I5, hL, hn5, va, hacc, st5, fr5, w5⟩
    have dcell : ∀ x c, cl.lookup x = some c → c ≠ D := fun x c e z => by
      obtain ⟨v, q⟩ := I2.cell x c (hcl.at e)
      have lt := q.lt
      rw [hD, z] at lt
      exact absurd lt (Nat.lt_irrefl _)
    have I5' : Inv (compCx X N scope cl (D + 1) s2 H2 fp pins) [(D, { cls := .type "list", dict := none, data := .seq (List.toArray its) nD })] σ5 H5 s5 := I5.pins_of fun p hp => by
      rw [List.mem_singleton.mp hp]
      exact ⟨hL, hn5, Nat.ne_of_lt (Nat.lt_succ_self _), dnf, fun v z => by cases z⟩
    rcases turn i k acc σ5 H5 w5 with ⟨stop, qn⟩ | ⟨go, hlt, N1, hN1, step⟩
    · refine thnF (T.done (compCx X N scope cl (D + 1) s2 H2 fp pins) rfl rfl rfl hc i _ s5 _ H5 _ I5' (stat fr5) st5 stop) fun r s6 ⟨hr, I6⟩ => ?_
      subst hr
      obtain ⟨m6, hn6, _⟩ := I6.loc
      refine ⟨m6, hn6, fun h7 hs7 => ?_⟩
      have hL7 : h7.get? D = some { cls := .type "list", dict := none, data := .seq (List.toArray its) nD } := hs7.extBut _ _ (Nat.ne_of_lt (Nat.lt_succ_self _)) (I6.pin (D, _) (List.mem_append_right _ (List.mem_singleton.mpr rfl))).1
      have neC : ∀ b o, s2.heap.get? b = some o → b ≠ D + 1 := fun b o e => by
        have lt := Heap.lt_size e
        rw [hD] at lt
        exact Nat.ne_of_lt (Nat.lt_succ_of_lt lt)
      have nt : ∀ b u, H5 b = some u → b ≠ D + 1 := fun b u q z => by
        have f := I6.free
        rw [z] at q
        rw [show H5 (D + 1) = none from f] at q
        cases q
      have un : Un (frs X.stack) fp H2 H5 s2.heap h7 := ⟨fun b o e n hb hx => hs7.extBut b o (neC b o e) (I6.base.keep b o e n hb hx),
        fun b o e n hb hx => let ⟨sl, q⟩ := I6.base.slot b o e n hb hx; ⟨sl, hs7.extBut b _ (neC b o e) q⟩, I6.base.free, fun b o e hx => let ⟨o', q⟩ := I6.base.there b o e hx; ⟨o', hs7.extBut b _ (neC b o e) q⟩, I6.base.tups, I6.base.frzs, I6.base.tbls⟩
      have hok : HOk X.prog X.w H5 h7 := fun b u q => (I6.hok b u q).stay (fun c v hc e => hs7.extBut c v (by
        rcases hc with rfl | hc
        · exact nt _ _ q
        · exact nt _ _ hc) e) (fun _ z => z) fun _ _ z => z
      have I8 : Inv X pins σ H5 { s6 with heap := h7 } := I2.call' (s' := { s6 with heap := h7 }) I6.os un hok I6.bare fun b hb => let ⟨_, k1, _, k3, k4, k5⟩ := f2 b hb; ⟨k3, k1, k4, k5⟩
      have I9 : Inv X pins σ (upd H5 D (.lst acc)) { s6 with heap := h7 } := I8.trackS hn5 hL7 rfl (by
          cases z : X.s₀.heap.get? D with
          | none => rfl
          | some o =>
            have lt := Nat.lt_of_lt_of_le (Heap.lt_size z) I2.sz
            rw [hD] at lt
            exact absurd lt (Nat.lt_irrefl _)) (fun p hp => Nat.ne_of_lt (pl p hp)) ⟨hacc, its, nD, va, hL7⟩
      exact ⟨.ref D, _, I9, rfl, qn D hn5⟩
    · refine thnF (T.item (compCx X N scope cl (D + 1) s2 H2 fp pins) rfl rfl rfl hc i _ s5 _ H5 _ I5' (stat fr5) st5 go) fun r s6 ⟨u, hr, h6⟩ => ?_
      subst hr
      refine thnF h6 fun _ s7 ⟨x, H7, I7, r7, y7, st7, fr7⟩ => ?_
      have I7' : Inv (compCx X N scope cl (D + 1) s2 H2 fp pins) ([(D, { cls := .type "list", dict := none, data := .seq (List.toArray its) nD })] ++ pinsAt fp s7.heap) σ5 H7 s7 := I7.pinned (stat fr7) (T.obj _ _ st7)
      refine thnF (hg _ _ _ _ _ _ s7 _ H7 x u _ I7' r7 (step x H7 y7)) fun _ s8 ⟨σ8, H8, I8, q8⟩ => ?_
      refine thnF (ht _ _ _ _ _ _ s8 σ8 H8 _ I8 q8) fun ok s9 ⟨H9, I9, q9⟩ => ?_
      have wk : ∀ {σ' : St} {H' : Hp} {s' : Shared}, Inv (compCx X N scope cl (D + 1) s2 H2 fp pins) ([(D, { cls := .type "list", dict := none, data := .seq (List.toArray its) nD })] ++ pinsAt fp s7.heap) σ' H' s' →
          tn (i + 1) s'.heap ∧ (∀ b ∈ fp, H' b = none) ∧ s'.heap.get? D = some { cls := .type "list", dict := none, data := .seq (List.toArray its) nD } ∧ H' D = none := fun {σ' H' s'} J' => by
        have pin : ∀ p ∈ ([(D, { cls := .type "list", dict := none, data := .seq (List.toArray its) nD })] : List (Addr × Obj)) ++ pinsAt fp s7.heap, s'.heap.get? p.1 = some p.2 ∧ H' p.1 = none := fun p hp => let ⟨e, n, _⟩ := J'.pin p (List.mem_append_right _ hp); ⟨e, n⟩
        refine ⟨T.keep _ _ _ st7 fun b hb o e => (pin (b, o) (List.mem_append_right _ (mem_pinsAt hb e))).1, fun b hb => ?_, (pin (D, _) (List.mem_append_left _ (List.mem_singleton.mpr rfl))).1, (pin (D, _) (List.mem_append_left _ (List.mem_singleton.mpr rfl))).2⟩
        obtain ⟨o, e, _⟩ := T.obj _ _ st7 b hb
        exact (pin (b, o) (List.mem_append_right _ (mem_pinsAt hb e))).2
      cases ok with
      | false =>
        obtain ⟨m', hm, w9⟩ := hN1 _ _ _ q9
        obtain ⟨k1, k2, k3, k4⟩ := wk I9
        exact ⟨m', hm, i + 1, σ8, H9, its, nD, acc, I9.pins_of (fun _ z => nomatch z), k3, k4, va, hacc, k1, k2, w9⟩
      | true =>
        refine thnF (he _ _ _ _ _ _ s9 σ8 H9 _ I9 q9) fun y s10 ⟨v, H10, I10, r10, q10⟩ => ?_
        obtain ⟨m', hm, w10⟩ := hN1 _ _ _ q10
        obtain ⟨k1, k2, k3, k4⟩ := wk I10
        refine call_meets F.slot_list_append ⟨_, k3, rfl⟩ F.entry_list_append (F.args_list_append_2 _ _) (PySem.list_append D its.toArray nD y (by rw [List.size_toArray, ← va.length]; omega)) ⟨k3, ?_⟩
        have up : ∀ b o, b ≠ D → s10.heap.get? b = some o → (s10.heap.update D (Obj.mapSeq fun z => z.push y)).get? b = some o := fun b o hb e => (Heap.get?_update_other s10.heap _ (Ne.symm hb)).trans e
        have I11 : Inv (compCx X N scope cl (D + 1) s2 H2 fp pins) [] σ8 H10 { s10 with heap := s10.heap.update D (Obj.mapSeq fun z => z.push y), toks := s10.toks } :=
          (I10.pins_of (pins' := []) fun _ z => nomatch z).turned up k4 (Nat.ne_of_lt (Nat.lt_succ_self _)) (.inr (by rw [hD]; exact Nat.le_refl _)) dcell fun p hp => by
            have hp' : p ∈ X.pn ++ pins := by simpa using hp
            exact Nat.ne_of_lt (pl p hp')
        have q := PySem.IsL.update k3 (fun z => z.push y)
        rw [show (List.toArray its).push y = (its ++ [y]).toArray by simp] at q
        refine ⟨m', hm, i + 1, σ8, H10, its ++ [y], _, acc ++ [v], I11, q, k4, va.append (.cons r10 .nil), ?_, T.keep _ _ _ k1 fun b hb o e => up b o (Nat.ne_of_lt (flt b hb)) e, k2, w10⟩
        rw [List.length_append, List.length_singleton]
        omega
  exact codeAny_compStart_list (loop _) (T.self _ 0 _ _ _ (T.keep 0 _ _ st2 fun b _ o e => old b o e) (loop _))
theorem comp_list {K : PySem.W.Frag} {a : Addr} {xs : List V} {g : TG} {tt : TT} {te : TE} {σ0 : St} {H : Hp} {Q : VK} (Pv : Nat → List V → St → Hp → Prop) (h0 : Pv 0 [] σ0 H) (hz : xs.length ≤ sizeLine) (hl : ∀ i acc σ H, i ≤ xs.length → Pv i acc σ H → SqL K H a xs)
    (hs : ∀ i x acc σ H, acc.length ≤ i → xs[i]? = some x → Pv i acc σ H → g x σ H fun σ2 H2 => tt σ2 H2 fun b H3 => if b = true then te σ2 H3 fun y H4 => (acc ++ [y]).length ≤ i + 1 ∧ Pv (i + 1) (acc ++ [y]) σ2 H4 else acc.length ≤ i + 1 ∧ Pv (i + 1) acc σ2 H3)
    (hd : ∀ acc σ H, acc.length ≤ xs.length → Pv xs.length acc σ H → endC Q acc H) :
    ∃ W : Nat → Nat → List V → St → Hp → Prop, (∃ m, W 0 m [] σ0 H) ∧ ∀ i m acc σ1 H, W i m acc σ1 H →
      ((Itl K a).stop i H ∧ endC Q acc H) ∨
      ((Itl K a).go i H ∧ acc.length < sizeLine ∧ ∃ N : List V → St → Hp → Prop, (∀ acc' σ' H', N acc' σ' H' → ∃ m', m' < m ∧ W (i + 1) m' acc' σ' H') ∧ ∀ x H', (Itl K a).yld i H x H' → g x σ1 H' fun σ2 H2 => tt σ2 H2 fun b H3 => if b = true then te σ2 H3 fun y H4 => N (acc ++ [y]) σ2 H4 else N acc σ2 H3) := by
  refine ⟨fun i m acc σ H => m = xs.length - i ∧ i ≤ xs.length ∧ acc.length ≤ i ∧ Pv i acc σ H, ⟨xs.length, by simp, Nat.zero_le _, Nat.zero_le _, h0⟩, ?_⟩
  rintro i m acc σ1 H ⟨rfl, hi, ha, p⟩
  have q := hl i acc σ1 H hi p
  by_cases hlt : i < xs.length
  · refine .inr ⟨⟨xs, xs[i], q, by simp [hlt]⟩, by omega, fun acc' σ' H' => acc'.length ≤ i + 1 ∧ Pv (i + 1) acc' σ' H', fun acc' σ' H' z => ⟨xs.length - (i + 1), by omega, rfl, hlt, z.1, z.2⟩, fun x H' y => ?_⟩
    obtain ⟨e, y⟩ := y
    subst e
    exact hs i x acc σ1 _ ha (y xs q) p
  · have e : i = xs.length := by omega
    subst e
    exact .inl ⟨⟨xs, q, Nat.le_refl _⟩, hd acc σ1 H ha p⟩
theorem comp_tup {K : PySem.W.Frag} {a : Addr} {xs : List V} {g : TG} {tt : TT} {te : TE} {σ0 : St} {H : Hp} {Q : VK} (Pv : Nat → List V → St → Hp → Prop) (h0 : Pv 0 [] σ0 H) (hz : xs.length ≤ sizeLine) (hl : ∀ i acc σ H, i ≤ xs.length → Pv i acc σ H → SqT K H a xs)
    (hs : ∀ i x acc σ H, acc.length ≤ i → xs[i]? = some x → Pv i acc σ H → g x σ H fun σ2 H2 => tt σ2 H2 fun b H3 => if b = true then te σ2 H3 fun y H4 => (acc ++ [y]).length ≤ i + 1 ∧ Pv (i + 1) (acc ++ [y]) σ2 H4 else acc.length ≤ i + 1 ∧ Pv (i + 1) acc σ2 H3)
    (hd : ∀ acc σ H, acc.length ≤ xs.length → Pv xs.length acc σ H → endC Q acc H) :
    ∃ W : Nat → Nat → List V → St → Hp → Prop, (∃ m, W 0 m [] σ0 H) ∧ ∀ i m acc σ1 H, W i m acc σ1 H →
      ((Itt K a).stop i H ∧ endC Q acc H) ∨
      ((Itt K a).go i H ∧ acc.length < sizeLine ∧ ∃ N : List V → St → Hp → Prop, (∀ acc' σ' H', N acc' σ' H' → ∃ m', m' < m ∧ W (i + 1) m' acc' σ' H') ∧ ∀ x H', (Itt K a).yld i H x H' → g x σ1 H' fun σ2 H2 => tt σ2 H2 fun b H3 => if b = true then te σ2 H3 fun y H4 => N (acc ++ [y]) σ2 H4 else N acc σ2 H3) := by
  refine ⟨fun i m acc σ H => m = xs.length - i ∧ i ≤ xs.length ∧ acc.length ≤ i ∧ Pv i acc σ H, ⟨xs.length, by simp, Nat.zero_le _, Nat.zero_le _, h0⟩, ?_⟩
  rintro i m acc σ1 H ⟨rfl, hi, ha, p⟩
  have q := hl i acc σ1 H hi p
  by_cases hlt : i < xs.length
  · refine .inr ⟨⟨xs, xs[i], q, by simp [hlt]⟩, by omega, fun acc' σ' H' => acc'.length ≤ i + 1 ∧ Pv (i + 1) acc' σ' H', fun acc' σ' H' z => ⟨xs.length - (i + 1), by omega, rfl, hlt, z.1, z.2⟩, fun x H' y => ?_⟩
    obtain ⟨e, y⟩ := y
    subst e
    exact hs i x acc σ1 _ ha (y xs q) p
  · have e : i = xs.length := by omega
    subst e
    exact .inl ⟨⟨xs, q, Nat.le_refl _⟩, hd acc σ1 H ha p⟩
theorem comp_range {lo : Int} {n : Nat} {g : TG} {tt : TT} {te : TE} {σ0 : St} {H : Hp} {Q : VK} (Pv : Nat → List V → St → Hp → Prop) (h0 : Pv 0 [] σ0 H) (hz : n ≤ sizeLine)
    (hs : ∀ i acc σ H, i < n → acc.length ≤ i → Pv i acc σ H → g (.int (lo + i)) σ H fun σ2 H2 => tt σ2 H2 fun b H3 => if b = true then te σ2 H3 fun y H4 => (acc ++ [y]).length ≤ i + 1 ∧ Pv (i + 1) (acc ++ [y]) σ2 H4 else acc.length ≤ i + 1 ∧ Pv (i + 1) acc σ2 H3)
    (hd : ∀ acc σ H, acc.length ≤ n → Pv n acc σ H → endC Q acc H) :
    ∃ W : Nat → Nat → List V → St → Hp → Prop, (∃ m, W 0 m [] σ0 H) ∧ ∀ i m acc σ1 H, W i m acc σ1 H →
      ((Itr lo n).stop i H ∧ endC Q acc H) ∨
      ((Itr lo n).go i H ∧ acc.length < sizeLine ∧ ∃ N : List V → St → Hp → Prop, (∀ acc' σ' H', N acc' σ' H' → ∃ m', m' < m ∧ W (i + 1) m' acc' σ' H') ∧ ∀ x H', (Itr lo n).yld i H x H' → g x σ1 H' fun σ2 H2 => tt σ2 H2 fun b H3 => if b = true then te σ2 H3 fun y H4 => N (acc ++ [y]) σ2 H4 else N acc σ2 H3) := by
  refine ⟨fun i m acc σ H => m = n - i ∧ i ≤ n ∧ acc.length ≤ i ∧ Pv i acc σ H, ⟨n, by simp, Nat.zero_le _, Nat.zero_le _, h0⟩, ?_⟩
  rintro i m acc σ1 H ⟨rfl, hi, ha, p⟩
  by_cases hlt : i < n
  · refine .inr ⟨hlt, by omega, fun acc' σ' H' => acc'.length ≤ i + 1 ∧ Pv (i + 1) acc' σ' H', fun acc' σ' H' z => ⟨n - (i + 1), by omega, rfl, hlt, z.1, z.2⟩, fun x H' y => ?_⟩
    obtain ⟨e, y⟩ := y
    subst e y
    exact hs i acc σ1 _ hlt ha p
  · have e : i = n := by omega
    subst e
    exact .inl ⟨Nat.le_refl _, hd acc σ1 H ha p⟩
end L2

set_option Elab.async false
set_option linter.all false
set_option maxRecDepth 100000
set_option maxHeartbeats 4000000
namespace L2
open PySem PySem.Spec PyProof.Rows

mutual
inductive DV (K : PySem.W.Frag) (H : Hp) : V → PyData → Prop
  | non : DV K H .non .none
  | bl (b : Bool) : DV K H (.bl b) (.bool b)
  | int (i : Int) : DV K H (.int i) (.int i)
  | str (x : Str) (h : (PyData.str x).canLay0 = true) : DV K H (.str x) (.str x)
  | lst {a : Addr} {xs : List V} {ds : List PyData} (h : SqL K H a xs) (r : DVs K H xs ds) : DV K H (.ref a) (.list ds)
  | tup {a : Addr} {xs : List V} {ds : List PyData} (h : SqT K H a xs) (r : DVs K H xs ds) : DV K H (.ref a) (.tuple ds)
inductive DVs (K : PySem.W.Frag) (H : Hp) : List V → List PyData → Prop
  | nil : DVs K H [] []
  | cons {x : V} {xs : List V} {d : PyData} {ds : List PyData} (h : DV K H x d) (r : DVs K H xs ds) : DVs K H (x :: xs) (d :: ds)
end
mutual
theorem DV.can {K : PySem.W.Frag} {H : Hp} : ∀ {x : V} {d : PyData}, DV K H x d → d.canLay0 = true
  | _, _, .non => by simp only [PyData.canLay0]
  | _, _, .bl _ => by simp only [PyData.canLay0]
  | _, _, .int _ => by simp only [PyData.canLay0]
  | _, _, .str _ h => h
  | _, _, .lst _ r => by simp only [PyData.canLay0]; exact DVs.can r
  | _, _, .tup _ r => by simp only [PyData.canLay0]; exact DVs.can r
theorem DVs.can {K : PySem.W.Frag} {H : Hp} : ∀ {xs : List V} {ds : List PyData}, DVs K H xs ds → PyData.canLayAll0 ds = true
  | _, _, .nil => by simp only [PyData.canLayAll0]
  | _, _, .cons h r => by simp only [PyData.canLayAll0, Bool.and_eq_true]; exact ⟨DV.can h, DVs.can r⟩
end
theorem SqT.sameT {K : PySem.W.Frag} {H H' : Hp} {a : Addr} {xs : List V} (e : Same H H') (h : SqT K H a xs) : SqT K H' a xs := by
  rcases h with (h | ⟨o, h⟩) | h
  · exact .inl (.inl (e _ _ h))
  · exact .inl (.inr ⟨o, e _ _ h⟩)
  · exact .inr h
mutual
theorem DV.same {K : PySem.W.Frag} {H H' : Hp} (s : Same H H') : ∀ {x : V} {d : PyData}, DV K H x d → DV K H' x d
  | _, _, .non => .non
  | _, _, .bl b => .bl b
  | _, _, .int i => .int i
  | _, _, .str x h => .str x h
  | _, _, .lst h r => .lst (s.seq h) (DVs.same s r)
  | _, _, .tup h r => .tup (SqT.sameT s h) (DVs.same s r)
theorem DVs.same {K : PySem.W.Frag} {H H' : Hp} (s : Same H H') : ∀ {xs : List V} {ds : List PyData}, DVs K H xs ds → DVs K H' xs ds
  | _, _, .nil => .nil
  | _, _, .cons h r => .cons (DV.same s h) (DVs.same s r)
end
section
variable {X : Cx} {pins : List (Addr × Obj)} {σ : St} {H : Hp} {s : Shared}
mutual
theorem DV.reads (I : Inv X pins σ H s) : ∀ {x : V} {d : PyData} {u : Value}, DV X.K H x d → RelV x u → ∃ as, Reads s.heap u d as
  | _, _, _, .non, r => by cases r; exact ⟨_, .none⟩
  | _, _, _, .bl b, r => by cases r; exact ⟨_, .bool b⟩
  | _, _, _, .int i, r => by obtain ⟨t, rfl⟩ := r; exact ⟨_, .int i t⟩
  | _, _, _, .str x _, r => by obtain ⟨t, rfl⟩ := r; exact ⟨_, .str x t⟩
  | _, _, _, .lst h rs, r => by
    cases r
    obtain ⟨its, v, pl, _⟩ := I.list h
    obtain ⟨o, n, ho, hc, _, hd⟩ := pl
    obtain ⟨as, q⟩ := DVs.reads I rs v
    exact ⟨_, .list ho hc hd (by simpa using q)⟩
  | _, _, _, .tup h rs, r => by
    cases r
    obtain ⟨its, v, pl, _⟩ := I.tuple h
    obtain ⟨o, ho, hc, n, hd⟩ := pl
    obtain ⟨as, q⟩ := DVs.reads I rs v
    exact ⟨_, .tuple ho hc hd (by simpa using q)⟩
theorem DVs.reads (I : Inv X pins σ H s) : ∀ {xs : List V} {ds : List PyData} {us : List Value}, DVs X.K H xs ds → Vals xs us → ∃ as, ReadsAll s.heap us ds as
  | _, _, _, .nil, .nil => ⟨_, .nil⟩
  | _, _, _, .cons h r, .cons v vs => by
    obtain ⟨as, q1⟩ := DV.reads I h v
    obtain ⟨bs, q2⟩ := DVs.reads I r vs
    exact ⟨_, .cons q1 q2⟩
end
end
end L2

set_option Elab.async false
set_option linter.all false
set_option maxRecDepth 100000
set_option maxHeartbeats 4000000
namespace L2
open PySem PySem.Spec PyProof.Rows

section
variable {X : Cx}
end
end L2

set_option Elab.async false
set_option linter.all false
set_option maxRecDepth 100000
set_option maxHeartbeats 4000000
namespace L2
open PySem PySem.Spec PyProof.Rows
section
variable {X : Cx} {x : Str} {pos : Pos}
theorem pe_gintE {k : Int} (hg : Gl X x) (hm : ∃ t, X.mg x = some (.int k t)) (hd : (x == ("__debug__" : Str)) = false := by decide) : PE X (.Name x pos) (tC (.int k)) := by
  obtain ⟨t, hm⟩ := hm
  exact pe_glob hg hm ⟨t, rfl⟩ hd
def tDNew : TE := fun _ H Q => ∀ p, H p = none → Q (.ref p) (upd H p (.dK []))
theorem pe_dnew {X : Cx} {pos : Pos} : PE X (.Dict [] [] pos) tDNew := by
  intro pins s σ H Q I h
  have lt : sysModules < s.heap.objs.size := Nat.lt_trans (show sysModules < mainGlobals by decide) (I.mod.glob.keeps I.bk).lt
  have new : ObjOk X.prog X.w (upd H s.heap.objs.size (.dK [])) (s.heap.push { cls := .type "dict", data := .dict #[] }) s.heap.objs.size (.dK []) :=
    ⟨Nat.zero_le _, beq_eq_false_iff_ne.mpr (Ne.symm (Nat.ne_of_lt lt)), [], .nil, Heap.DictOf.new s.heap⟩
  exact wpAny_Dict_empty ⟨.ref s.heap.objs.size, _, I.laid (t' := s.toks) (fun _ _ q => Heap.get?_push_of_some _ q) (Nat.le_refl _) new, rfl, h _ (I.hok.fresh (Nat.le_refl _))⟩
theorem nd1 (x : Str) : [x].Nodup := by simp
def notStar : Expr → Bool
  | .Starred _ _ => false
  | _ => true
theorem star_cons {e : Expr} {es : List Expr} {env : Env} (h : notStar e = true) : starEach (e :: es) env = (false, eval e env) :: starEach es env := by
  cases e <;> first | rfl | cases h
theorem pac {e : Expr} {es : List Expr} {te : TE} {t : TA} (ha : PE X e te) (hr : PA X es t) (h : notStar e = true := by rfl) : PA X (e :: es) (tCons te t) := pa_cons ha hr (star_cons h)
end
end L2
namespace K1
open PySem L2
def two (n : Nat) : Str := ⟨#[48 + n / 10, 48 + n % 10]⟩
theorem sl2 (a b c d e : Nat) : Txt.slice ⟨#[a, b, c, d, e]⟩ none (some 2) = ⟨#[a, b]⟩ := by rfl
def numV : V → Int → Int → Bool
  | .int i, lo, hi => decide (lo ≤ i ∧ i ≤ hi)
  | _, _, _ => false
inductive Kd (H : Hp) : V → String → Prop where
  | non : Kd H .non "NoneType"
  | bl (b : Bool) : Kd H (.bl b) "bool"
  | int (i : Int) : Kd H (.int i) "int"
  | str (x : Str) : Kd H (.str x) "str"
  | lst {a : Addr} {xs : List V} (e : H a = some (.lst xs)) : Kd H (.ref a) "list"
  | tup {a : Addr} {xs : List V} (e : H a = some (.tup xs)) : Kd H (.ref a) "tuple"
  | dK {a : Addr} {kvs : List (Key × V)} (e : H a = some (.dK kvs)) : Kd H (.ref a) "dict"
theorem Kd.ty {K : PySem.W.Frag} {H : Hp} {v : V} {T : String} (k : Kd H v T) : TyOf K H v (.type T) := by
  cases k with
  | non => exact .non
  | bl b => exact .bl b
  | int i => exact .int i
  | str x => exact .str x
  | lst e => exact .lst e
  | tup e => exact .tup e
  | dK e => exact .dK e
theorem Kd.same {H H' : Hp} {v : V} {T : String} (s : Same H H') (k : Kd H v T) : Kd H' v T := by
  cases k with
  | non => exact .non
  | bl b => exact .bl b
  | int i => exact .int i
  | str x => exact .str x
  | lst e => exact .lst (s _ _ e)
  | tup e => exact .tup (s _ _ e)
  | dK e => exact .dK (s _ _ e)
theorem kit_int {K : PySem.W.Frag} {H : Hp} {v : V} {T : String} (k : Kd H v T) : PySem.W.kitOne K (.type T) (.type "int") = some (decide (T = "int" ∨ T = "bool")) := by
  cases k <;> rfl
theorem kit_bool {K : PySem.W.Frag} {H : Hp} {v : V} {T : String} (k : Kd H v T) : PySem.W.kitOne K (.type T) (.type "bool") = some (decide (T = "bool")) := by
  cases k <;> rfl
theorem itT {c A B : Prop} [Decidable c] (h : c) (a : A) : if c then A else B := by rw [if_pos h]; exact a
theorem itF {c A B : Prop} [Decidable c] (h : ¬ c) (b : B) : if c then A else B := by rw [if_neg h]; exact b


def dg (c : Nat) : Bool := decide (48 ≤ c ∧ c ≤ 57)

theorem same_new {H : Hp} {p : Addr} (h : H p = none) (o : HO) : Same H (upd H p o) := fun b u q => by rw [upd_ne (ne_of_none q h)]; exact q

def wr (m : Nat) : Str := two (m / 60) ++ Str.ofString ":" ++ two (m % 60)

def wholeV : V → Bool
  | .int _ => true
  | _ => false

theorem flat_ints (ns : List Int) : (ns.map V.int).all flatV = true := by
  rw [List.all_map]; exact List.all_eq_true.mpr fun _ _ => rfl

structure Bump (tp : Addr) (k : Int) (H H' : Hp) : Prop where
  keep : ∀ b o, b ≠ tp → H b = some o → H' b = some o
  tape : H' tp = some (.lst [.int k])

theorem Bump.trans {tp : Addr} {k k' : Int} {H H1 H2 : Hp} (a : Bump tp k H H1) (b : Bump tp k' H1 H2) : Bump tp k' H H2 := ⟨fun c o n h => b.keep c o n (a.keep c o n h), b.tape⟩

theorem Bump.same {tp : Addr} {k : Int} {H H1 H2 : Hp} (a : Bump tp k H H1) (s : Same H1 H2) : Bump tp k H H2 := ⟨fun c o n h => s _ _ (a.keep c o n h), s _ _ a.tape⟩

def Own (K : PySem.W.Frag) (a : Addr) (xs : List V) : Prop := ∃ (o : Obj) (its : Array Value) (n : Nat), K.lookup a = some o ∧ o.cls = .type "list" ∧ o.dict = none ∧ o.data = .seq its n ∧ its.size ≤ sizeLine ∧ Vals xs its.toList
def Scr (K : PySem.W.Frag) (H : Hp) (a tp : Addr) (ns : List Int) : Prop := (a ≠ tp ∧ Rd H a (.lst (ns.map V.int))) ∨ Own K a (ns.map V.int)
theorem Scr.sq {K : PySem.W.Frag} {H : Hp} {a tp : Addr} {ns : List Int} (h : Scr K H a tp ns) : SqL K H a (ns.map V.int) := h.imp (·.2) id
theorem Scr.same {K : PySem.W.Frag} {H H' : Hp} {a tp : Addr} {ns : List Int} (h : Scr K H a tp ns) (s : Same H H') : Scr K H' a tp ns :=
  h.imp (fun ⟨n, r⟩ => ⟨n, r.imp (s _ _) fun ⟨o, q⟩ => ⟨o, s _ _ q⟩⟩) id
theorem Bump.scr {K : PySem.W.Frag} {tp a : Addr} {k : Int} {H H' : Hp} {ns : List Int} (b : Bump tp k H H') (h : Scr K H a tp ns) : Scr K H' a tp ns :=
  h.imp (fun ⟨n, r⟩ => ⟨n, r.imp (b.keep _ _ n) fun ⟨o, q⟩ => ⟨o, b.keep _ _ n q⟩⟩) id
theorem Scr.new {K : PySem.W.Frag} {H : Hp} {a tp : Addr} {ns : List Int} (h : SqL K H a (ns.map V.int)) (n : H tp = none) (o : HO) : Scr K (upd H tp o) a tp ns := by
  rcases h with (h | ⟨u, h⟩) | h
  · exact .inl ⟨ne_of_none h n, .inl (by rw [upd_ne (ne_of_none h n)]; exact h)⟩
  · exact .inl ⟨ne_of_none h n, .inr ⟨u, by rw [upd_ne (ne_of_none h n)]; exact h⟩⟩
  · exact .inr h
theorem mulM {x y : Int} (h0 : 0 ≤ y) (h1 : y < 18446744073709551616) : CMul x y := .inr ⟨by omega, by omega⟩

theorem at2 {x y : V} {d : Int} (h0 : 0 ≤ d) (h1 : d < 2) : atI [x, y] d = some x ∨ atI [x, y] d = some y := by
  rcases (show d = 0 ∨ d = 1 by omega) with rfl | rfl
  · exact .inl rfl
  · exact .inr rfl
theorem at_all {p : V → Prop} {xs : List V} {d : Int} (h : ∀ v ∈ xs, p v) (h0 : 0 ≤ d) (h1 : d < xs.length) : ∃ v, atI xs d = some v ∧ p v := by
  have hl : d.toNat < xs.length := by omega
  refine ⟨xs[d.toNat], ?_, h _ (List.getElem_mem hl)⟩
  have q : atI xs ((d.toNat : Nat) : Int) = some xs[d.toNat] := atI_nat (List.getElem?_eq_getElem hl)
  rw [show ((d.toNat : Nat) : Int) = d by omega] at q
  exact q
end K1

set_option Elab.async false
set_option linter.all false
set_option maxRecDepth 100000
set_option maxHeartbeats 4000000
namespace K1
open PySem L2
abbrev valL (l : List Nat) : Nat := PySem.NumText.digitsVal l
theorem str_len (z : Str) : z.cps.toList.length = z.length := by simp [Str.length]
theorem val_lt : ∀ {l : List Nat}, l.all dg = true → valL l < 10 ^ l.length := fun {l} h => by
  have key : ∀ (l : List Nat) (acc n : Nat), acc < 10 ^ n → l.all dg = true → l.foldl (fun acc c => acc * 10 + (c - 48)) acc < 10 ^ (n + l.length) := by
    intro l
    induction l with
    | nil => intro acc n h _; simpa using h
    | cons c r ih =>
      intro acc n h hd
      rw [List.all_cons, Bool.and_eq_true] at hd
      have hc : 48 ≤ c ∧ c ≤ 57 := of_decide_eq_true hd.1
      have := ih (acc * 10 + (c - 48)) (n + 1) (by rw [Nat.pow_succ]; omega) hd.2
      rw [List.foldl_cons, List.length_cons]
      rw [show n + (r.length + 1) = n + 1 + r.length by omega]
      exact this
  have := key l 0 0 (by decide) h
  rw [Nat.zero_add] at this
  exact this
theorem val_zero {r : List Nat} : valL (48 :: r) = valL r := rfl
theorem day_facts {d : Nat} (h : d < 10000) : ∀ l, l = (Str.ofString (toString ((d : Nat) : Int))).cps.toList → 1 ≤ l.length ∧ l.length ≤ 4 ∧ l.all dg = true ∧ ¬ (l.head? = some 48 ∧ l ≠ [48]) ∧ valL l = d ∧ 32 ∉ l := by
  intro l e
  rw [PySem.W.KIN.signs_num] at e
  have hl : l.length = (Nat.toDigits 10 d).length := by rw [e, List.length_map]
  have dig : ∀ c ∈ l, 48 ≤ c ∧ c ≤ 57 := fun c hc => by
    rw [e] at hc
    obtain ⟨ch, hch, e2⟩ := List.mem_map.mp hc
    have r := PyProof.Rows.digit_range (Nat.isDigit_of_mem_toDigits (by decide) (by decide) hch)
    rw [← e2]
    exact r
  have hall : l.all dg = true := List.all_eq_true.mpr fun c hc => decide_eq_true (dig c hc)
  have hv : valL l = d := by rw [e]; exact PySem.W.KIN.val_back d
  refine ⟨by rw [hl]; exact PyProof.Rows.tDigits_len_ge 10 d, by rw [hl]; exact PyProof.Rows.digits10_le (by decide) (show d < 10 ^ 4 from h), hall, fun ⟨z1, z2⟩ => ?_, hv, fun z => ?_⟩
  · match l, z1, z2, hl, hv, hall with
    | 48 :: r, _, z2, hl, hv, hall =>
      have hr : r ≠ [] := fun z => z2 (by rw [z])
      have hr1 : 1 ≤ r.length := by
        cases r with
        | nil => exact absurd rfl hr
        | cons _ _ => simp
      rw [List.all_cons, Bool.and_eq_true] at hall
      have lt := val_lt hall.2
      rw [val_zero] at hv
      rw [hv] at lt
      have le := PyProof.Rows.digits10_le hr1 lt
      rw [← hl, List.length_cons] at le
      omega
  · have := dig 32 z
    omega
end K1

set_option Elab.async false
set_option linter.all false
set_option maxRecDepth 100000
set_option maxHeartbeats 4000000
namespace L2
open PySem PySem.Spec PyProof.Rows

section
variable {X : Cx} {m : Str} {o e : Expr} {es : List Expr} {ta : TE} {t : TA} {pos apos : Pos}
def tMethD (X : Cx) (m : Str) (ta : TE) (t : TA) : TE := fun σ H Q => ta σ H fun x H1 => ∃ (a C dx : Addr) (fs : List (Str × V)) (f : Addr) (fd : FuncData) (k : Nat) (ps : List Str) (sp : Sp) (CX : CXT) (E : XK),
  x = .ref a ∧ H1 a = some (.ins C dx fs) ∧ fs.lookup m = none ∧ Cls X.K C ∧ Meth X.K C m f ∧ FnOk X.prog X.w X.K X.mg X.base CX k f fd ps sp ∧ Room k X.A ∧ Binds X.K fd ps [] ∧ Passes CX X E ∧ t σ H1 fun vs H2 => sp (.ref a :: vs) H2 Q E
theorem pe_methD {pl : Sem Bool} (he : PE X o ta) (ha : PA X (e :: es) t)
    (hst : starEach (e :: es) X.env = (false, eval e X.env) :: starEach es X.env := by rfl) (hpl : (backTo pos (starEach es X.env)).any (·.1) = false := by rfl)
    (ht : eval (.Call (.Attribute o m apos) (e :: es) [] pos) X.env = (do
      let ov ← eval o X.env
      standAt apos.atName
      let (f, first) ← holding [ov] (getMethod ov m pl)
      callWith pos f first (backTo pos (starEach (e :: es) X.env)) (backToKw pos (keywordEach [] X.env))) := by rfl) :
    PE X (.Call (.Attribute o m apos) (e :: es) [] pos) (tMethD X m ta t) := by
  intro pins s σ H Q I h
  refine PySem.W.methodCall_KW (pl := pl) (thn (he pins s σ H _ I h) fun u s1 ⟨x, H1, I1, rx, a, C, dx, fs, f, fd, k, ps, sp, CX, E, ex, ea, l, c, hm, F, hr, hb, hx, q⟩ => ?_) ht
  subst ex
  obtain rfl : u = Value.ref a := rx
  refine getmeth_ok I1 ea c hm l ?_
  refine PySem.W.callWith_K (first := [.ref a]) (h₀ := X.base) I.ok.mod.kin hm.kp (thn (ha pos pins s1 σ H1 _ I1 q) fun us s2 ⟨vs, H2, I2, r, q2⟩ => ⟨I2.kIn, ?_⟩) hst hpl
  exact run_fn (us := .ref a :: us) (vs := .ref a :: vs) (dvs := []) F hr hb .nil hx I2 (.cons rfl r) (by rw [List.append_nil]; exact q2)
theorem pe_meth0D {pl : Sem Bool} (he : PE X o ta)
    (ht : eval (.Call (.Attribute o m apos) [] [] pos) X.env = (do
      let ov ← eval o X.env
      standAt apos.atName
      let (f, first) ← holding [ov] (getMethod ov m pl)
      callWith pos f first (backTo pos (starEach [] X.env)) (backToKw pos (keywordEach [] X.env))) := by rfl) :
    PE X (.Call (.Attribute o m apos) [] [] pos) (tMethD X m ta tNil) := by
  intro pins s σ H Q I h
  refine PySem.W.methodCall_KW (pl := pl) (thn (he pins s σ H _ I h) fun u s1 ⟨x, H1, I1, rx, a, C, dx, fs, f, fd, k, ps, sp, CX, E, ex, ea, l, c, hm, F, hr, hb, hx, q⟩ => ?_) ht
  subst ex
  obtain rfl : u = Value.ref a := rx
  refine getmeth_ok I1 ea c hm l ?_
  exact PySem.W.callWith_K0 (first := [.ref a]) I1.kIn hm.kp (run_fn (us := [.ref a]) (vs := [.ref a]) (dvs := []) F hr hb .nil hx I1 (.cons rfl .nil) q)

structure MkN (K : PySem.W.Frag) (C : Addr) : Prop where
  makes : PySem.W.makesIn K C = true
  init : PySem.W.findIn K (.ref C) "__init__" = some (some (.builtin "object.__init__"))
  kp : PySem.W.keepIn K (.ref C) = true
def tMakeN (C : Addr) : TE := fun _ H Q => ∀ x dx, H x = none → H dx = none → dx ≠ x → Q (.ref x) (upd (upd H dx (.own x)) x (.ins C dx []))
theorem pe_makeN {C : Addr} {x : Str} {p : Pos} (M : MkN X.K C) (hg : Gl X x) (hm : X.mg x = some (.ref C)) (hdb : (x == ("__debug__" : Str)) = false := by decide) : PE X (.Call (.Name x p) [] [] pos) (tMakeN C) := by
  intro pins s σ H Q I h
  refine wpAny_Call_Name_kw (ld_glob I hg hm ?_ hdb)
  refine PySem.W.callWith_K0 I.kIn M.kp ?_
  have q := h (s.heap.objs.size + 1) s.heap.objs.size (I.hok.fresh (Nat.le_succ _)) (I.hok.fresh (Nat.le_refl _)) (Nat.ne_of_lt (Nat.lt_succ_self _))
  have I2 := Inv.made (C := C) I
  have Y := PySem.W.makes_of (M := model X.prog X.w) I.kIn M.makes
  refine wpAny_call (make_map0 (C := C) I.kIn M.makes M.init (fun self => PySem.W.Looks.of_pure (PySem.W.oi_bind self)) ?_)
  have g1 : ((s.heap.push PySem.W.emptyDict).push (PySem.W.instObj C s.heap.objs.size)).get? (s.heap.objs.size + 1) = some (PySem.W.instObj C s.heap.objs.size) := by
    have := Heap.get?_push_size (s.heap.push PySem.W.emptyDict) (o := PySem.W.instObj C s.heap.objs.size) rfl
    rw [Heap.size_push] at this
    exact this
  have t1 : PySem.W.Looks (model X.prog X.w) ((s.heap.push PySem.W.emptyDict).push (PySem.W.instObj C s.heap.objs.size)) (typeOf (.ref (s.heap.objs.size + 1))) (.ref C) := (PySem.W.Looks.ld g1).andThen .now
  have t2 : PySem.W.Looks (model X.prog X.w) ((s.heap.push PySem.W.emptyDict).push (PySem.W.instObj C s.heap.objs.size)) (isInstance (.ref (s.heap.objs.size + 1)) (.type "object")) true :=
    t1.andThen (Y.top.keeps fun b o e => Heap.get?_push_of_some _ (Heap.get?_push_of_some _ e))
  refine codeAny_call_builtin PySem.W.oi_plain PySem.W.entry_oi ?_
  refine @PySem.W.check_slot (model X.prog X.w) _ _ _ "object.__init__" "object" "__init__" (.ref (s.heap.objs.size + 1)) [] [] _ PySem.W.oi_kind PySem.W.oi_split t2 (PySem.W.oi_args _) ?_
  rw [PySem.W.oi_run]
  exact wpAny_pure (And.intro rfl ⟨.ref _, _, I2, rfl, q⟩)
end

theorem preSum_take (ns : List Int) : ∀ k, k ≤ ns.length → preSum (fun i => ns.getD i 0) k = (ns.take k).sum
  | 0, _ => by simp [preSum]
  | k + 1, h => by
    have ih := preSum_take ns k (by omega)
    show preSum (fun i => ns.getD i 0) k + ns.getD k 0 = _
    rw [ih, List.take_add_one, List.sum_append]
    have hk : k < ns.length := by omega
    rw [List.getD_eq_getElem?_getD, List.getElem?_eq_getElem hk]
    simp
theorem call_sum_list {X : Cx} (hc : X.calm = true) : CallR X (.builtin "sum") (fun xs H Q => ∃ (p : Addr) (ns : List Int), xs = [.ref p] ∧ SqL X.K H p (ns.map V.int) ∧ (∀ n ∈ ns, 0 ≤ n ∧ n ≤ 1000000) ∧ ns.length ≤ 1000 ∧ Q (.int ns.sum) H) := by
  intro pins s σ H xs us Q I r h
  obtain ⟨p, ns, rfl, hq, hb, hl, q⟩ := h
  obtain ⟨u, rfl, rx⟩ := vals1 r
  cases rx
  obtain ⟨its, r', pl, hz⟩ := I.list hq
  have hlen := r'.length
  obtain ⟨o, n, ho, _⟩ := id pl
  have hne : p ≠ s.heap.objs.size := Nat.ne_of_lt (Heap.lt_size ho)
  have bound : ∀ k, k ≤ ns.length → 0 ≤ (ns.take k).sum ∧ (ns.take k).sum ≤ 1000000 * k := by
    intro k
    induction k with
    | zero => intro _; simp
    | succ k ih =>
      intro hk
      have hk' : k < ns.length := by omega
      have := ih (by omega)
      have b := hb ns[k] (List.getElem_mem hk')
      rw [List.take_add_one, List.sum_append, List.getElem?_eq_getElem hk']
      simp only [Option.toList_some, List.sum_cons, List.sum_nil]
      omega
  refine call_sum_walk (wpAny_pyIter_list pl.isList ?_)
  refine ⟨s.heap.objs.size, [s.heap.objs.size, p], [s.heap.objs.size], its.toArray.size, _, _, fun i => ns.getD i 0, rfl, Walks.list (A := X.A.in1) (I.ok.hd hc) _ _ hne its.toArray, ⟨⟨_, Heap.get?_push_size _ rfl, rfl, rfl⟩, ?_⟩, ?_, ?_, ?_, fun h' tk t' hk => ?_⟩
  · obtain ⟨o2, e2, r2⟩ := pl.isList
    exact ⟨o2, Heap.get?_push_of_some _ e2, r2⟩
  · intro b hb'
    show b < (s.heap.push _).objs.size
    rw [Heap.size_push]
    rcases List.mem_cons.mp hb' with rfl | hb'
    · exact Nat.lt_succ_self _
    · rw [List.mem_singleton.mp hb']
      exact Nat.lt_succ_of_lt (Heap.lt_size ho)
  · intro i v hv
    have hv' : its[i]? = some v := by simpa using hv
    have hi : i < ns.length := by
      have := (List.getElem?_eq_some_iff.mp hv').1
      rw [← hlen, List.length_map] at this; exact this
    obtain ⟨w, e1, e2⟩ := r'.get (i := i) (x := .int ns[i]) (by rw [List.getElem?_map, List.getElem?_eq_getElem hi]; rfl)
    rw [hv'] at e1
    cases e1
    obtain ⟨t, rfl⟩ := e2
    exact ⟨t, by dsimp only; rw [List.getD_eq_getElem?_getD, List.getElem?_eq_getElem hi]; rfl⟩
  · intro j hj
    have hj' : j < ns.length := by
      rw [List.size_toArray, ← hlen, List.length_map] at hj; exact hj
    have b1 := hb ns[j] (List.getElem_mem hj')
    have b2 := bound (j + 1) (by omega)
    have e1 : ns.getD j 0 = ns[j] := by rw [List.getD_eq_getElem?_getD, List.getElem?_eq_getElem hj']; rfl
    rw [preSum_take ns (j + 1) (by omega)]
    dsimp only
    rw [e1]
    have b3 : (1000000 : Int) * ((j + 1 : Nat) : Int) ≤ 1000000000 := by omega
    unfold InLong
    omega
  · have hk2 : ∀ b o, s.heap.get? b = some o → h'.get? b = some o := fun b o e => hk b o (fun z => by
      have e1 := Heap.lt_size e
      rw [List.mem_singleton.mp z] at e1
      exact absurd e1 (Nat.lt_irrefl _)) (Heap.get?_push_of_some _ e)
    have e : preSum (fun i => ns.getD i 0) its.toArray.size = ns.sum := by
      rw [List.size_toArray, ← hlen, List.length_map, preSum_take ns _ (Nat.le_refl _), List.take_length]
    rw [e]
    exact ⟨.int _, H, I.kept (t' := tk) hk2, ⟨_, rfl⟩, q⟩

structure FunD (K : PySem.W.Frag) (x qual : Str) (st : Stmt) (f : Addr) (fd : FuncData) (D : Addr) (ds : List Value) : Prop where
  ex : ∃ (oc : Value) (od : Option Addr) (kV doc pm : Value) (an : Option Addr) (cdv ct : Value) (osl : Array (Option Value)),
    fd = PySem.W.fnOf x qual (defArgs st) (defBody st) (defScope st) (.ref D) kV doc pm an cdv ct ∧ K.lookup f = some ⟨oc, od, .func fd, osl⟩ ∧ PySem.W.codeIn K cdv qual = true
  dt : ∃ (o : Obj) (n : Nat), K.lookup D = some o ∧ o.data = .seq ds.toArray n
  kp : PySem.W.keepIn K (.ref f) = true
section
variable {P : Program} {w : World} {K : PySem.W.Frag} {mg : Str → Option Value} {base : Heap} {x qual : Str} {st : Stmt} {f D : Addr} {fd : FuncData} {ds : List Value}
theorem FunD.ok {N ps : List Str} {k : Nat} {sp : Sp} (F : FunD K x qual st f fd D ds) (S : FnScope N ps (defScope st)) (len : ∀ vs H Q E, sp vs H Q E → vs.length = ps.length)
    (hbody : ∀ (cdv : Value) (A : Around) (outer : List Env) (s : Shared) (H : Hp) (vs : List V) (Q : VK) (E : XK), Room k (A.deeper (envOfC qual (defScope st) s.heap.objs.size f cdv)) → sp vs H Q E →
      ∃ t, PSs (cxOf CX0 P w K mg base N qual (defScope st) f cdv A outer s H E).nox (defBody st) t ∧ t { nx := fun _ H' => Q .non H', rt := Q } (start N vs) H) : FnOk P w K mg base CX0 (k + 1) f fd ps sp := by
  obtain ⟨oc, od, kV, doc, pm, an, cdv, ct, osl, rfl, lk, hcd⟩ := F.ex
  refine fn_of lk hcd S len fun A outer s H vs Q E hr hsp => ?_
  obtain ⟨t, h, q⟩ := hbody cdv A outer s H vs Q E hr hsp
  exact ⟨t, h.nox, q⟩
theorem FunD.okX {N ps : List Str} {k : Nat} {sp : Sp} (F : FunD K x qual st f fd D ds) (S : FnScope N ps (defScope st)) (len : ∀ vs H Q E, sp vs H Q E → vs.length = ps.length)
    (hbody : ∀ (cdv : Value) (A : Around) (outer : List Env) (s : Shared) (H : Hp) (vs : List V) (Q : VK) (E : XK), Room k (A.deeper (envOfC qual (defScope st) s.heap.objs.size f cdv)) → sp vs H Q E →
      ∃ t, PSs (cxOf (CXO P w) P w K mg base N qual (defScope st) f cdv A outer s H E) (defBody st) t ∧ t { nx := fun _ H' => Q .non H', rt := Q } (start N vs) H) : FnOk P w K mg base (CXO P w) (k + 1) f fd ps sp := by
  obtain ⟨oc, od, kV, doc, pm, an, cdv, ct, osl, rfl, lk, hcd⟩ := F.ex
  exact fn_of lk hcd S len fun A outer s H vs Q E hr hsp => hbody cdv A outer s H vs Q E hr hsp
end
end L2

set_option Elab.async false
set_option linter.all false
set_option maxRecDepth 100000
set_option maxHeartbeats 4000000
namespace K1
open PySem L2
inductive RT where
  | always
  | week (b : Nat)
  | span (a b : Nat) (r : RT)
  | each (n : Nat) (ss : List Nat)
  | either (r s : RT)
  | both (r s : RT)
  | but (ds : List Nat) (r : RT)
def RT.weight : RT → Nat
  | .always | .week _ | .each _ _ => 1
  | .span _ _ r | .but _ r => 1 + r.weight
  | .either r s | .both r s => 1 + (r.weight + s.weight)
def RT.depth : RT → Nat
  | .always | .week _ | .each _ _ => 1
  | .span _ _ r | .but _ r => 1 + r.depth
  | .either r s | .both r s => 1 + max r.depth s.depth
def RT.runs : RT → Nat → Bool
  | .always, _ => true
  | .week b, d => b / 2 ^ (d % 7) % 2 == 1
  | .span a b r, d => decide (a ≤ d) && decide (d ≤ b) && r.runs d
  | .each n ss, d => ss.contains (d % n)
  | .either r s, d => r.runs d || s.runs d
  | .both r s, d => r.runs d && s.runs d
  | .but ds r, d => r.runs d != ds.contains d
theorem RT.depth_pos : ∀ r : RT, 1 ≤ r.depth
  | .always | .week _ | .each _ _ => Nat.le_refl 1
  | .span _ _ r | .but _ r => Nat.le_add_right 1 _
  | .either r s | .both r s => Nat.le_add_right 1 _
structure RC where
  rule : Addr
  week : Addr
  span : Addr
  each : Addr
  either : Addr
  both : Addr
  but : Addr
abbrev natV (l : List Nat) : List V := l.map fun n => V.int (n : Nat)
inductive RAt (c : RC) (K : PySem.W.Frag) (H : Hp) : Addr → RT → Prop
  | always {a dx : Addr} (h : H a = some (.ins c.rule dx [])) : RAt c K H a .always
  | week {a dx : Addr} {b : Nat} (h : H a = some (.ins c.week dx [("bits", .int (b : Nat))])) (hb : b ≤ 127) : RAt c K H a (.week b)
  | span {a dx i : Addr} {x y : Nat} {r : RT} (h : H a = some (.ins c.span dx [("first", .int (x : Nat)), ("last", .int (y : Nat)), ("inner", .ref i)])) (hx : x ≤ y) (hy : y ≤ 9999) (hi : RAt c K H i r) : RAt c K H a (.span x y r)
  | each {a dx p : Addr} {n : Nat} {ss : List Nat} (h : H a = some (.ins c.each dx [("length", .int (n : Nat)), ("starts", .ref p)])) (hn : 1 ≤ n) (hn2 : n ≤ 28) (hp : SqT K H p (natV ss)) : RAt c K H a (.each n ss)
  | either {a dx i j : Addr} {r s : RT} (h : H a = some (.ins c.either dx [("one", .ref i), ("other", .ref j)])) (hi : RAt c K H i r) (hj : RAt c K H j s) : RAt c K H a (.either r s)
  | both {a dx i j : Addr} {r s : RT} (h : H a = some (.ins c.both dx [("one", .ref i), ("other", .ref j)])) (hi : RAt c K H i r) (hj : RAt c K H j s) : RAt c K H a (.both r s)
  | but {a dx p i : Addr} {ds : List Nat} {r : RT} (h : H a = some (.ins c.but dx [("days", .ref p), ("inner", .ref i)])) (hp : SqT K H p (natV ds)) (hi : RAt c K H i r) : RAt c K H a (.but ds r)
theorem RAt.same {c : RC} {K : PySem.W.Frag} {H H' : Hp} (s : Same H H') {a : Addr} {r : RT} (h : RAt c K H a r) : RAt c K H' a r := by
  induction h with
  | always h => exact .always (s _ _ h)
  | week h hb => exact .week (s _ _ h) hb
  | span h hx hy _ ih => exact .span (s _ _ h) hx hy ih
  | each h hn hn2 hp => exact .each (s _ _ h) hn hn2 (SqT.sameT s hp)
  | either h _ _ i1 i2 => exact .either (s _ _ h) i1 i2
  | both h _ _ i1 i2 => exact .both (s _ _ h) i1 i2
  | but h hp _ ih => exact .but (s _ _ h) (SqT.sameT s hp) ih
theorem inV_nats (d : Nat) : ∀ l : List Nat, inV (.int (d : Nat)) (natV l) = l.contains d
  | [] => rfl
  | x :: r => by
    have ih := inV_nats d r
    show (eqV (.int ((x : Nat) : Int)) (.int ((d : Nat) : Int)) || inV (.int ((d : Nat) : Int)) (natV r)) = _
    rw [ih, List.contains_cons]
    congr 1
    show (((x : Nat) : Int) == ((d : Nat) : Int)) = (d == x)
    rw [Bool.eq_iff_iff, beq_iff_eq, beq_iff_eq]
    omega
theorem flat_nats (l : List Nat) : (natV l).all flatV = true := by
  rw [List.all_map]; exact List.all_eq_true.mpr fun _ _ => rfl
theorem bit_of (b k : Nat) : (Builtin.bitAnd (((b : Nat) : Int) / 2 ^ k) 1 == 1) = (b / 2 ^ k % 2 == 1) := by
  have e : ((b : Nat) : Int) / 2 ^ k = ((b / 2 ^ k : Nat) : Int) := by
    rw [Int.natCast_ediv, Int.natCast_pow]
    rfl
  rw [e, PyProof.Rows.bitAnd_pp (Int.natCast_nonneg _) (by decide)]
  have e2 : (((b / 2 ^ k : Nat) : Int).toNat &&& (1 : Int).toNat : Nat) = b / 2 ^ k % 2 := by
    rw [Int.toNat_natCast]
    exact Nat.and_one_is_mod _
  rw [e2, Bool.eq_iff_iff, beq_iff_eq, beq_iff_eq]
  omega
end K1

set_option Elab.async false
set_option linter.all false
set_option maxRecDepth 100000
set_option maxHeartbeats 600000
namespace L2
open PySem PySem.Spec PyProof.Rows
def mxB : Option Int → Int → Int
  | none, y => y
  | some x, y => if y > x then y else x
def mxL : Option Int → List Int → Option Int
  | b, [] => b
  | b, y :: r => mxL (some (mxB b y)) r
def MxAt (S : Addr) (h : Heap) (b : Option Int) : Prop := ∃ (vs : Array Value) (c : Nat), h.get? S = some { cls := .type "list", dict := none, data := .seq vs c, slots := #[] } ∧ match b with
  | none => vs = #[]
  | some x => ∃ t, vs = #[.int x t, .int x t]
def MxRes (d : Value) (b : Option Int) (v : Value) : Prop := match b with
  | none => v = d
  | some x => ∃ t, v = .int x t
theorem MxAt.keep {S : Addr} {h h' : Heap} {b : Option Int} (m : MxAt S h b) (k : ∀ o, h.get? S = some o → h'.get? S = some o) : MxAt S h' b :=
  let ⟨vs, c, e, z⟩ := m
  ⟨vs, c, k _ e, z⟩
theorem maxd_loop {prog : Program} {w : World} {A : Around} {R : Result → Shared → Prop} {I : Addr} {fp wr : List Addr} {n : Nat} {P : Nat → Value → Prop} {St : Nat → Heap → Prop} {nm : Str} {d : Value} {g : Nat → Int}
    (W : Walks prog w A.in1 I fp wr n P St) (hg : ∀ i v, P i v → ∃ t, v = .int (g i) t) {S : Addr} (out : S ∉ fp) :
    ∀ (l : List Int) (j : Nat) (s : Shared) (b : Option Int), j + l.length = n → (∀ i y, l[i]? = some y → y = g (j + i)) → St j s.heap → MxAt S s.heap b →
    (∀ v h' tk, MxRes d (mxL b l) v → (∀ a o, a ∉ wr → a ≠ S → s.heap.get? a = some o → h'.get? a = some o) → R (.ok (.ret v)) { s with heap := h', toks := tk }) →
    codeAny (model prog w) A (.builtin "max.loop" ⟨[.ref I, .none, .ref S], [(nm, d)]⟩) R s := by
  have out2 : S ∉ wr := fun z => out (W.sub _ z)
  have nme : (toString "max" ++ toString ".loop" : String) = "max.loop" := by decide
  intro l
  induction l with
  | nil =>
    intro j s b hj hl st m q
    obtain rfl : j = n := hj
    obtain ⟨vs, c, e, z⟩ := id m
    apply codeAny_builtin PySem.F.entry_max_loop
    rw [Around.under_plainId PySem.F.plain_max_loop]
    apply wpAny_bind
    apply wpAny_seqItems e rfl
    apply wpAny_bind
    apply wpAny_tryCatch
    apply W.done s _ _ st
    intro h' tk k
    cases b with
    | none =>
      subst z
      apply wpAny_bind
      apply wpAny_rule
      apply wpAny_pure
      exact q d h' tk rfl fun a o h1 _ h3 => k a o h1 h3
    | some x =>
      obtain ⟨t, rfl⟩ := z
      apply wpAny_bind
      refine wpAny_updateSeq (k S _ out2 e) rfl ?_
      apply wpAny_bind
      apply wpAny_letGo
      apply wpAny_pure
      exact q _ _ tk ⟨t, rfl⟩ fun a o h1 h2 h3 => (Heap.get?_update_other _ _ (Ne.symm h2)).trans (k a o h1 h3)
  | cons y l ih =>
    intro j s b hj hl st m q
    obtain ⟨vs, c, e, z⟩ := id m
    have hj2 : j < n := by rw [← hj, List.length_cons]; omega
    have ey : y = g j := hl 0 y rfl
    apply codeAny_builtin PySem.F.entry_max_loop
    rw [Around.under_plainId PySem.F.plain_max_loop]
    apply wpAny_bind
    apply wpAny_seqItems e rfl
    apply wpAny_bind
    apply wpAny_tryCatch
    apply W.item j s _ _ hj2 st
    intro v h' tk pv st' k
    obtain ⟨tv, rfl⟩ := hg j v pv
    have e' := k S _ out2 e
    have next : ∀ (h2 : Heap), MxAt S h2 (some (mxB b y)) → (∀ a o, a ≠ S → h'.get? a = some o → h2.get? a = some o) → codeAny (model prog w) A (.builtin "max.loop" ⟨[.ref I, .none, .ref S], [(nm, d)]⟩) R { s with heap := h2, toks := tk } := fun h2 m2 k2 =>
      ih (j + 1) { s with heap := h2, toks := tk } _ (by rw [← hj, List.length_cons]; omega) (fun i y' hy => (hl (i + 1) y' hy).trans (by congr 1; omega))
        (W.frame _ _ _ st' fun a ha o ho => k2 a o (fun z => out (z ▸ ha)) ho) m2 fun v2 h3 tk2 r k3 => q v2 h3 tk2 r fun a o h1 h2' h3' => k3 a o h1 h2' (k2 a o h2' (k a o h1 h3'))
    cases b with
    | none =>
      subst z
      show wpAny _ _ (updateSeq S (fun _ => #[.int (g j) tv, .int (g j) tv]) >>= _) _ _ _
      apply wpAny_bind
      refine wpAny_updateSeq e' rfl ?_
      rw [nme]
      apply wpAny_pure
      refine ⟨plainId_quiet PySem.F.plain_max_loop _, next _ ⟨_, _, Heap.get?_update_self _ e' rfl, tv, ?_⟩ fun a o h1 h2 => (Heap.get?_update_other _ _ (Ne.symm h1)).trans h2⟩
      rw [ey]; rfl
    | some x =>
      obtain ⟨t, rfl⟩ := z
      show wpAny _ _ (tryCatch (holding [.int (g j) tv, .int (g j) tv] (richCompare .Gt (.int (g j) tv) (.int x t) >>= _)) _ >>= _) _ _ _
      apply wpAny_bind
      apply wpAny_tryCatch
      apply wpAny_holding
      apply wpAny_bind
      refine CmpOf.ints_gt (P := fun i v => ∃ t, v = .int (if i = 0 then g j else x) t) (fun i => if i = 0 then g j else x) (fun _ _ z => z) 0 1 _ _ _ _ _ ⟨_, rfl⟩ ⟨_, rfl⟩ ?_
      apply wpAny_bind
      apply wpAny_holding
      apply wpAny_truthy_bool
      apply wpAny_bind
      apply wpAny_letGo
      apply wpAny_pure
      by_cases gt : g j > x
      · rw [if_pos (show (fun i j_1 : Nat => decide ((if i = 0 then g j else x) > if j_1 = 0 then g j else x)) 0 1 = true from decide_eq_true gt)]
        apply wpAny_bind
        refine wpAny_updateSeq e' rfl ?_
        apply wpAny_bind
        apply wpAny_letGo
        rw [nme]
        apply wpAny_pure
        refine ⟨plainId_quiet PySem.F.plain_max_loop _, next _ ⟨_, _, Heap.get?_update_self _ e' rfl, tv, ?_⟩ fun a o h1 h2 => (Heap.get?_update_other _ _ (Ne.symm h1)).trans h2⟩
        rw [show mxB (some x) y = g j by rw [ey]; exact if_pos gt]
      · rw [if_neg (show ¬(fun i j_1 : Nat => decide ((if i = 0 then g j else x) > if j_1 = 0 then g j else x)) 0 1 = true from fun z => gt (of_decide_eq_true z))]
        apply wpAny_bind
        apply wpAny_letGo
        rw [nme]
        apply wpAny_pure
        refine ⟨plainId_quiet PySem.F.plain_max_loop _, next _ ⟨_, _, e', t, ?_⟩ fun a o _ h2 => h2⟩
        rw [show mxB (some x) y = x by rw [ey]; exact if_neg gt]
theorem args_maxd (a v : Value) : argsOk "max" ⟨[a], [(Str.ofString "default", v)]⟩ := by unfold argsOk; kernel_rfl
theorem call_maxd {X : Cx} {pins : List (Addr × Obj)} {s : Shared} {σ : St} {H : Hp} {Q : VK} {p : Addr} {ns : List Int} {d : Int} {td : Tok} (hc : X.calm = true) (I : Inv X pins σ H s) (hq : SqL X.K H p (ns.map V.int)) (q : Q (.int ((mxL none ns).getD d)) H) :
    wpAny (model X.prog X.w) X.A (call (.builtin "max") [.ref p] [(Str.ofString "default", .int d td)]) (EP X pins σ Q) X.xe s := by
  obtain ⟨its, r', pl, hz⟩ := I.list hq
  have hlen := r'.length
  obtain ⟨o, n, ho, _⟩ := id pl
  have hne : p ≠ s.heap.objs.size := Nat.ne_of_lt (Heap.lt_size ho)
  have nme : (toString "max" ++ toString ".loop" : String) = "max.loop" := by decide
  refine kmb_tree PySem.F.kind_max PySem.F.plain_max PySem.F.entry_max (args_maxd _ _) ?_
  show wpAny _ _ (Builtin.Builtins.bindParams "max" ["key", "default"] 0 ⟨[], [(Str.ofString "default", .int d td)]⟩ >>= _) _ _ s
  apply wpAny_bind
  refine wpAny_of_eq (show Builtin.Builtins.bindParams "max" ["key", "default"] 0 ⟨[], [(Str.ofString "default", .int d td)]⟩ = pure [none, some (.int d td)] from rfl) ?_
  apply wpAny_bind
  apply wpAny_pure
  apply wpAny_bind
  refine wpAny_pyIter_list pl.isList ?_
  apply wpAny_bind
  refine wpAny_newObj_type ?_
  rw [nme]
  refine wpAny_pure ⟨plainId_quiet PySem.F.plain_max_loop _, ?_⟩
  refine maxd_loop (fp := [s.heap.objs.size, p]) (wr := [s.heap.objs.size]) (g := fun i => ns.getD i 0) (Walks.list (A := X.A.in1) (I.ok.hd hc) _ _ hne its.toArray) ?_ ?_ ns 0 _ none ?_ ?_ ?_ ?_ ?_
  · intro i v hv
    have hv' : its[i]? = some v := by simpa using hv
    have hi : i < ns.length := by
      have := (List.getElem?_eq_some_iff.mp hv').1
      rw [← hlen, List.length_map] at this; exact this
    obtain ⟨w, e1, e2⟩ := r'.get (i := i) (x := .int ns[i]) (by rw [List.getElem?_map, List.getElem?_eq_getElem hi]; rfl)
    rw [hv'] at e1
    cases e1
    obtain ⟨t, rfl⟩ := e2
    exact ⟨t, by rw [List.getD_eq_getElem?_getD, List.getElem?_eq_getElem hi]; rfl⟩
  · intro hm
    have e1 : (s.heap.push { cls := .type "list_iterator", data := .fields #[.ref p, .int 0 0] }).objs.size = s.heap.objs.size + 1 := Heap.size_push ..
    have lt := Heap.lt_size ho
    rcases List.mem_cons.mp hm with z | z
    · have : s.heap.objs.size + 1 = s.heap.objs.size := e1.symm.trans z
      omega
    · have : s.heap.objs.size + 1 = p := e1.symm.trans (List.mem_singleton.mp z)
      rw [← this] at lt
      exact absurd lt (Nat.not_lt.mpr (Nat.le_succ _))
  · rw [List.size_toArray, ← hlen, List.length_map, Nat.zero_add]
  · intro i y hy
    rw [Nat.zero_add, List.getD_eq_getElem?_getD, hy]
    rfl
  · refine ⟨⟨_, Heap.get?_push_of_some _ (Heap.get?_push_size _ rfl), rfl, rfl⟩, ?_⟩
    obtain ⟨o2, e2, r2⟩ := pl.isList
    exact ⟨o2, Heap.get?_push_of_some _ (Heap.get?_push_of_some _ e2), r2⟩
  · exact ⟨_, _, Heap.get?_push_size _ rfl, rfl⟩
  · intro v h' tk r k
    have k2 : ∀ b o, s.heap.get? b = some o → h'.get? b = some o := fun b o e => k b o (fun z => by
        have e1 := Heap.lt_size e
        rw [List.mem_singleton.mp z] at e1
        exact absurd e1 (Nat.lt_irrefl _)) (fun z => by
        have e1 := Heap.lt_size (Heap.get?_push_of_some { cls := .type "list_iterator", data := .fields #[.ref p, .int 0 0] } e)
        rw [z] at e1
        exact absurd e1 (Nat.lt_irrefl _)) (Heap.get?_push_of_some _ (Heap.get?_push_of_some _ e))
    have hv : ∃ tv, v = .int ((mxL none ns).getD d) tv := by
      cases e : mxL none ns with
      | none => rw [e] at r; exact ⟨td, r⟩
      | some x => rw [e] at r; exact r
    obtain ⟨tv, rfl⟩ := hv
    exact ⟨.int _, H, I.kept (t' := tk) k2, ⟨_, rfl⟩, q⟩
def tMaxd (K : PySem.W.Frag) (t tk : TA) : TE := fun σ H Q => t σ H fun vs H1 => tk σ H1 fun zs H2 => ∃ (p : Addr) (ns : List Int) (d : Int), vs = [.ref p] ∧ zs = [.int d] ∧ SqL K H2 p (ns.map V.int) ∧ Q (.int ((mxL none ns).getD d)) H2
theorem pe_maxd {X : Cx} {e : Expr} {es : List Expr} {kws : List Keyword} {t tk : TA} {p pos : Pos} (hc : X.calm = true) (hg : Gl X "max") (hm : X.mg "max" = none) (hv : bootBuiltins "max" = some (.builtin "max"))
    (ha : PA X (e :: es) t) (hkw : PK X kws tk) (hall : (backToKw pos (keywordEach kws X.env)).all (·.1.isSome) = true := by rfl) (hks : (backToKw pos (keywordEach kws X.env)).filterMap (·.1) = [Str.ofString "default"] := by rfl)
    (he : starEach (e :: es) X.env = (false, eval e X.env) :: starEach es X.env := by rfl)
    (hpl : (backTo pos (starEach (e :: es) X.env)).any (·.1) = false := by rfl) (hpk : (backToKw pos (keywordEach kws X.env)).any (·.1.isNone) = false := by rfl) :
    PE X (.Call (.Name "max" p) (e :: es) kws pos) (tMaxd X.K t tk) := by
  intro pins s σ H Q I h
  refine wpAny_Call_Name_kw (ld_blt I hg hm hv ?_ (by decide) (by decide))
  refine callWith_builtin_kwB hpl hpk (evalArgs_kw2 hall (thn (ha pos pins s σ H _ I h) fun us s1 ⟨vs, H1, I1, r, q⟩ => ?_) he)
  refine thn (hkw pos pins s1 σ H1 _ I1 q) fun ws s2 ⟨zs, H2, I2, rz, q2⟩ => ?_
  rw [hks]
  obtain ⟨l, ns, d, rfl, rfl, hq, q3⟩ := q2
  obtain ⟨u, rfl, rx⟩ := vals1 r
  cases rx
  obtain ⟨u, rfl, td, rfl⟩ := vals1 rz
  exact call_maxd hc I2 hq q3
end L2

set_option Elab.async false
set_option linter.all false
namespace L2
open PySem
abbrev Ris (xs : Array Nat) : Prop := xs.toList.Pairwise (· < ·)
theorem ris_lt {xs : Array Nat} (h : Ris xs) {i k d : Nat} (hik : i < k) (hk : k < xs.size) : xs.getD i d < xs.getD k d := by
  have q := List.pairwise_iff_getElem.mp h i k (by simpa using Nat.lt_trans hik hk) (by simpa using hk) hik
  simpa [Array.getD, Nat.lt_trans hik hk, hk] using q
theorem below_go {xs : Array Nat} {j : Nat} (h : Ris xs) : ∀ (n lo hi : Nat), hi - lo ≤ n → lo ≤ hi → hi ≤ xs.size → (∀ i, i < lo → xs.getD i j < j) → (∀ i, hi ≤ i → i < xs.size → j ≤ xs.getD i j) →
    SetTable.below.go xs j n lo hi ≤ xs.size ∧ (∀ i, i < SetTable.below.go xs j n lo hi → xs.getD i j < j) ∧ ∀ i, SetTable.below.go xs j n lo hi ≤ i → i < xs.size → j ≤ xs.getD i j
  | 0, lo, hi, hn, hl, hs, h1, h2 => by
    have e : lo = hi := by omega
    subst e
    exact ⟨hs, h1, h2⟩
  | n + 1, lo, hi, hn, hl, hs, h1, h2 => by
    unfold SetTable.below.go
    by_cases c : lo < hi
    · rw [if_pos c]
      dsimp only
      by_cases d : xs.getD ((lo + hi) / 2) j < j
      · rw [if_pos d]
        refine below_go h n _ hi (by omega) (by omega) hs (fun i hi' => ?_) h2
        by_cases e : i = (lo + hi) / 2
        · rw [e]; exact d
        · exact Nat.lt_trans (ris_lt h (show i < (lo + hi) / 2 by omega) (by omega)) d
      · rw [if_neg d]
        refine below_go h n lo _ (by omega) (by omega) (by omega) h1 (fun i hi' hz => ?_)
        by_cases e : i = (lo + hi) / 2
        · rw [e]; omega
        · have := ris_lt (d := j) h (show (lo + hi) / 2 < i by omega) hz
          omega
    · rw [if_neg c]
      have e : lo = hi := by omega
      subst e
      exact ⟨hs, h1, h2⟩
theorem below_is {xs : Array Nat} {j : Nat} (h : Ris xs) : SetTable.below xs j ≤ xs.size ∧ (∀ i, i < SetTable.below xs j → xs.getD i j < j) ∧ ∀ i, SetTable.below xs j ≤ i → i < xs.size → j ≤ xs.getD i j :=
  below_go h _ 0 _ (by omega) (Nat.zero_le _) (Nat.le_refl _) (fun i z => absurd z (Nat.not_lt_zero _)) (fun i a b => by omega)
theorem ris_insert {xs : Array Nat} {j : Nat} (h : Ris xs) (hn : xs[SetTable.below xs j]? ≠ some j) : Ris (SetTable.insertAt xs (SetTable.below xs j) j) := by
  obtain ⟨hb, h1, h2⟩ := below_is (j := j) h
  show List.Pairwise _ _
  rw [SetTable.toList_insertAt]
  have get : ∀ i (hi : i < xs.size), xs.getD i j = xs.toList[i]'(by simpa using hi) := fun i hi => by simp [Array.getD, hi]
  have far : ∀ b ∈ xs.toList.drop (SetTable.below xs j), j < b := fun b hb' => by
    obtain ⟨i, hi, rfl⟩ := List.getElem_of_mem hb'
    rw [List.length_drop] at hi
    have hz : SetTable.below xs j + i < xs.size := by simpa using (show SetTable.below xs j + i < xs.toList.length by omega)
    rw [List.getElem_drop, ← get _ hz]
    have g := h2 _ (Nat.le_add_right (SetTable.below xs j) i) hz
    refine Nat.lt_of_le_of_ne g fun e => ?_
    by_cases i0 : i = 0
    · subst i0
      refine hn ?_
      rw [Nat.add_zero] at e hz
      rw [Array.getElem?_eq_getElem hz]
      have := get _ hz
      rw [← e] at this
      simpa using this.symm
    · have l := ris_lt (d := j) h (show SetTable.below xs j < SetTable.below xs j + i by omega) hz
      have g0 := h2 _ (Nat.le_refl _) (show SetTable.below xs j < xs.size by omega)
      omega
  refine List.pairwise_append.mpr ⟨h.sublist (List.take_sublist _ _), List.pairwise_cons.mpr ⟨far, h.sublist (List.drop_sublist _ _)⟩, fun a ha b hb' => ?_⟩
  have ha' : a < j := by
    obtain ⟨i, hi, rfl⟩ := List.getElem_of_mem ha
    rw [List.length_take] at hi
    have hz : i < xs.size := by have : xs.toList.length = xs.size := by simp
                                omega
    rw [List.getElem_take, ← get _ hz]
    exact h1 i (by omega)
  rcases List.mem_cons.mp hb' with rfl | hb'
  · exact ha'
  · exact Nat.lt_trans ha' (far b hb')
structure TabOk (t : SetTable) : Prop where
  du : t.dummies = #[]
  ri : t.plain = true → Ris t.place
theorem has_none (j : Nat) : SetTable.has #[] j = false := rfl
theorem slot_empty {t : SetTable} {j : Nat} (h : t.slot j = .empty) : t.place[SetTable.below t.place j]? ≠ some j := by
  intro e
  unfold SetTable.slot at h
  dsimp only at h
  rw [e] at h
  simp at h
theorem slot_dummy {t : SetTable} (ht : TabOk t) {j : Nat} : t.slot j ≠ .dummy := by
  unfold SetTable.slot
  rw [ht.du]
  dsimp only
  split
  · intro z; cases z
  · rw [has_none]
    intro z; cases z
theorem probe_go {t : SetTable} (ht : TabOk t) {g : Nat → Int} {h : Int} : ∀ (n : Nat) (p : SetTable.Probe) (j : Nat) (d : Option Nat), p.dummy = none → SetTable.probe.go t g h n p = some (.empty j d) → t.slot j = .empty ∧ d = none
  | 0, p, j, d, _, e => by cases e
  | n + 1, p, j, d, hp, e => by
    unfold SetTable.probe.go at e
    cases c : t.slot p.j with
    | empty =>
      rw [c] at e
      injection e with e
      injection e with e1 e2
      subst e1
      exact ⟨c, e2.symm.trans hp⟩
    | dummy => exact absurd c (slot_dummy ht)
    | live i =>
      rw [c] at e
      dsimp only at e
      split at e
      · injection e with e; cases e
      · refine probe_go ht n _ j d ?_ e
        unfold SetTable.advance
        split
        · exact hp
        · exact hp
theorem lay_ok {t : SetTable} (ht : TabOk t) (es : Array (Int × Value)) (h : Int) (x : Value) : TabOk (layNew t es h x).2.1 ∧ (layNew t es h x).2.1.led = t.led := by
  unfold layNew
  cases c : t.freeSlot h with
  | none => exact ⟨⟨rfl, fun z => by cases z⟩, rfl⟩
  | some q =>
    obtain ⟨j, wd⟩ := q
    have hj : t.slot j = .empty := by
      unfold SetTable.freeSlot at c
      split at c
      · rename_i j' d' e'
        obtain ⟨e1, rfl⟩ := probe_go ht _ _ _ _ rfl e'
        injection c with c
        injection c with c1 c2
        rw [← c1]
        exact e1
      · cases c
    dsimp only
    unfold SetTable.orStandIn
    split
    · refine ⟨⟨?_, fun z => ?_⟩, rfl⟩
      · show (if SetTable.has t.dummies j = true then _ else t.dummies) = #[]
        rw [ht.du, has_none]
        rfl
      · exact ris_insert (ht.ri z) (slot_empty hj)
    · exact ⟨⟨rfl, fun z => by cases z⟩, rfl⟩
theorem relay_ok {t : SetTable} (ht : TabOk t) (es : Array (Int × Value)) (n : Nat) : TabOk (relayAll t es n).2.1 ∧ (relayAll t es n).2.1.led = t.led := by
  unfold relayAll
  cases c : t.relaid (es.map (·.1)) n with
  | none => exact ⟨⟨rfl, fun z => by cases z⟩, rfl⟩
  | some q =>
    obtain ⟨t', ord⟩ := q
    dsimp only
    split
    · unfold SetTable.relaid SetTable.laid at c
      cases c2 : SetTable.layClean (SetTable.sizeAbove n - 1) (es.map (·.1)) with
      | none => rw [c2] at c; cases c
      | some ow =>
        rw [c2] at c
        injection c with c
        injection c with c1 c3
        subst c1
        refine ⟨⟨rfl, fun _ => ?_⟩, rfl⟩
        show List.Pairwise _ _
        rw [List.toList_toArray]
        rw [List.map_filterMap]
        refine List.Pairwise.sublist (l₂ := List.range (SetTable.sizeAbove n - 1 + 1)) ?_ List.pairwise_lt_range
        have key : ∀ l : List Nat, List.Sublist (l.filterMap fun j => Option.map (fun p : Nat × Nat => p.1) ((ow.getD j none).map fun y => (j, y))) l := by
          intro l
          induction l with
          | nil => exact .slnil
          | cons a r ih =>
            rw [List.filterMap_cons]
            cases ow.getD a none with
            | none => exact ih.cons _
            | some y => exact ih.cons_cons _
        exact key _
    · exact ⟨⟨rfl, fun z => by cases z⟩, rfl⟩
end L2

set_option Elab.async false
set_option linter.all false
set_option maxRecDepth 100000
set_option maxHeartbeats 4000000
namespace L2
open PySem
def keyOf (e : Int × Value) : Int := match e.2 with
  | .int k _ => k
  | _ => 0
section
variable {prog : Program} {w : World}
theorem elem_int {l : List (Int × Value)} (h : ElemsOf (intKind prog w) l) {e : Int × Value} (he : e ∈ l) : ∃ t, e.2 = .int (keyOf e) t := by
  obtain ⟨⟨k, hk, _⟩, _⟩ := h e he
  obtain ⟨t, q⟩ := Value.isInt_shape (k := k) (v := e.2) hk
  refine ⟨t, ?_⟩
  unfold keyOf
  rw [q]
theorem elem_is {l : List (Int × Value)} (h : ElemsOf (intKind prog w) l) {e : Int × Value} (he : e ∈ l) {k : Int} (q : (intKind prog w).is k e.2 = true) : keyOf e = k := by
  obtain ⟨t, q⟩ := Value.isInt_shape (k := k) (v := e.2) q
  unfold keyOf
  rw [q]
def ISet (prog : Program) (w : World) (h : Heap) (a : Addr) (ks : List Int) : Prop := ∃ (o : Obj) (es : Array (Int × Value)) (ep : Nat) (t : SetTable),
  h.get? a = some o ∧ o.ExactSet ∧ o.data = .set es ep t ∧ ElemsOf (intKind prog w) es.toList ∧ t.fits es.size = true ∧ TabOk t ∧ (w.params.followText "set-order" = false → t.led = true) ∧
  (es.toList.map keyOf).Nodup ∧ (∀ k, k ∈ es.toList.map keyOf ↔ k ∈ ks) ∧ es.size ≤ ks.length
theorem ISet.keep {h h' : Heap} {a : Addr} {ks : List Int} (x : ISet prog w h a ks) (k : ∀ o, h.get? a = some o → h'.get? a = some o) : ISet prog w h' a ks :=
  let ⟨o, es, ep, t, ho, r⟩ := x
  ⟨o, es, ep, t, k _ ho, r⟩
theorem iset_store {h : Heap} {a : Addr} {o : Obj} {es es' : Array (Int × Value)} {ep : Nat} {t t' : SetTable} {ks : List Int} (ho : h.get? a = some o) (hex : o.ExactSet) (hd : o.data = .set es ep t)
    (hel : ElemsOf (intKind prog w) es'.toList) (hf : t'.fits es'.size = true) (ht : TabOk t') (hl : w.params.followText "set-order" = false → t'.led = true) (nd : (es'.toList.map keyOf).Nodup)
    (mem : ∀ k, k ∈ es'.toList.map keyOf ↔ k ∈ ks) (sz : es'.size ≤ ks.length) :
    (h.update a (Obj.putSet es' t')).get? a = some { o with data := .set es' (ep + 1) t' } ∧ ISet prog w (h.update a (Obj.putSet es' t')) a ks := by
  have g : (h.update a (Obj.putSet es' t')).get? a = some { o with data := .set es' (ep + 1) t' } := by
    have q := Heap.get?_update_self (Obj.putSet es' t') ho (by rw [putSet_of es' t' hd]; rfl)
    rw [putSet_of es' t' hd] at q; exact q
  exact ⟨g, _, es', ep + 1, t', g, hex, rfl, hel, hf, ht, hl, nd, mem, sz⟩
theorem perm_size {es es' : Array (Int × Value)} (p : List.Perm es'.toList es.toList) : es'.size = es.size := by
  have := p.length_eq
  simpa using this
theorem iset_add {A : Around} {E : Value → Shared → Prop} {s : Shared} {a : Addr} {ks : List Int} {k : Int} {tk : Tok} {Q : Bool → Shared → Prop} (hS : ISet prog w s.heap a ks) (hr : ks.length + 1 < scanBound)
    (h : ∀ b h', Heap.SameBut a s.heap h' → ISet prog w h' a (ks ++ [k]) → Q b { s with heap := h' }) : wpAny (model prog w) A (setAddHashed a (.int k tk) ((intKind prog w).hash k)) Q E s := by
  obtain ⟨o, es, ep, t, ho, hex, hd, hel, hf, ht, hl, nd, mem, sz⟩ := hS
  have hz : es.size < scanBound := by omega
  have hkey : (intKind prog w).is k (.int k tk) = true := intKind_is _ _ _ _
  unfold setAddHashed setAddHashedIn
  refine wpAny_holding (wpAny_bind (wpAny_setState_of ho hd hf ?_))
  dsimp only; rw [byScan_of (knd := intKind prog w) (x := .int k tk) rfl hz hel]
  simp only [↓reduceIte]; unfold setAddByScan
  refine wpAny_bind (wpAny_bind (wpAny_rule (wpAny_bind (wpAny_setScan_of hkey ho hd hf hel ?_))))
  cases hc : List.findIdx? (fun e => (intKind prog w).is k e.2) es.toList with
  | some j =>
    dsimp only
    obtain ⟨hj, hp, _⟩ := List.findIdx?_eq_some_iff_getElem.mp hc
    have hk : k ∈ es.toList.map keyOf := List.mem_map.mpr ⟨es.toList[j], List.getElem_mem hj, elem_is hel (List.getElem_mem hj) hp⟩
    have q := h false s.heap (Heap.SameBut.refl a s.heap) ⟨o, es, ep, t, ho, hex, hd, hel, hf, ht, hl, nd, fun k' => by
      rw [List.mem_append, List.mem_singleton, mem k']
      exact ⟨.inl, fun z => z.elim id fun e => by rw [e]; exact (mem k).mp hk⟩, by rw [List.length_append]; omega⟩
    exact wpAny_pure (wpAny_pure q)
  | none =>
    dsimp only
    have hk : k ∉ es.toList.map keyOf := fun z => by
      obtain ⟨e, he, ek⟩ := List.mem_map.mp z
      have q := List.findIdx?_eq_none_iff.mp hc e he
      obtain ⟨te, ee⟩ := elem_int hel he
      rw [ee, ek, intKind_is] at q
      cases q
    have gw : ∀ (b : Bool) {s1 : Shared} {Q' : Unit → Shared → Prop}, Q' () s1 → wpAny (model prog w) A (match b with | true => rule "set.scan.the-table-gave-way" | false => pure ()) Q' E s1 :=
      fun b s1 Q' q => by
        cases b
        · exact wpAny_pure q
        · exact wpAny_rule q
    have pm := layNew_perm t es ((intKind prog w).hash k) (.int k tk); have fm := layNew_fits t es ((intKind prog w).hash k) (.int k tk)
    obtain ⟨tm, lm⟩ := lay_ok ht es ((intKind prog w).hash k) (.int k tk)
    generalize layNew t es ((intKind prog w).hash k) (.int k tk) = L at pm fm tm lm ⊢
    obtain ⟨es1, t1, wd, gv⟩ := L
    dsimp only at pm fm tm lm ⊢; rw [Array.toList_push] at pm
    have hel1 : ElemsOf (intKind prog w) es1.toList := (hel.push hkey rfl).perm pm
    have km : List.Perm (es1.toList.map keyOf) (es.toList.map keyOf ++ [k]) := by
      have := pm.map keyOf
      rw [List.map_append] at this
      exact this
    have nd1 : (es1.toList.map keyOf).Nodup := km.nodup_iff.mpr (List.nodup_append.mpr ⟨nd, by simp, fun a ha b hb => by
      rw [List.mem_singleton] at hb
      subst hb
      intro e
      subst e
      exact hk ha⟩)
    have mem1 : ∀ k', k' ∈ es1.toList.map keyOf ↔ k' ∈ ks ++ [k] := fun k' => by
      rw [km.mem_iff, List.mem_append, List.mem_append, mem k']
    have sz1 : es1.size = es.size + 1 := by
      have := pm.length_eq
      simpa using this
    have z1 : es1.size ≤ (ks ++ [k]).length := by rw [List.length_append, List.length_singleton]; omega
    have l1 : w.params.followText "set-order" = false → t1.led = true := fun z => lm.trans (hl z)
    refine wpAny_bind (gw _ ?_)
    have tail : ∀ {R : Option Bool → Shared → Prop}, (∀ h', Heap.SameBut a s.heap h' → ISet prog w h' a (ks ++ [k]) → R (some true) { s with heap := h' }) →
        wpAny (model prog w) A (do
          storeSet a es1 t1
          if (!wd && t1.tooFull) = true then do
            (match (relayAll t1 es1 (SetTable.grown es1.size)).2.2 with | true => rule "set.scan.the-table-gave-way" | false => pure ())
            storeSet a (relayAll t1 es1 (SetTable.grown es1.size)).1 (relayAll t1 es1 (SetTable.grown es1.size)).2.1
            pure (some true)
          else pure (some true)) R E s := by
      intro R hR
      refine wpAny_bind (wpAny_storeSet_of ho hd ?_ (fits_of_scanBound (by omega)))
      obtain ⟨g1, i1⟩ := iset_store (prog := prog) (w := w) ho hex hd hel1 fm tm l1 nd1 mem1 z1
      have b1 := Heap.SameBut.update s.heap a (Obj.putSet es1 t1)
      split
      · have p2 := relayAll_perm t1 es1 (SetTable.grown es1.size); have f2 := relayAll_fits t1 es1 (SetTable.grown es1.size)
        obtain ⟨t2, l2⟩ := relay_ok tm es1 (SetTable.grown es1.size)
        generalize relayAll t1 es1 (SetTable.grown es1.size) = Y at p2 f2 t2 l2 ⊢
        obtain ⟨es2, t3, gv2⟩ := Y
        dsimp only at p2 f2 t2 l2 ⊢
        have s2 := perm_size p2
        refine wpAny_bind (gw _ (wpAny_bind (wpAny_storeSet_of g1 rfl ?_ (fits_of_scanBound (by omega)))))
        obtain ⟨_, i2⟩ := iset_store (prog := prog) (w := w) (ks := ks ++ [k]) g1 hex rfl (hel1.perm p2) f2 t2 (fun z => l2.trans (l1 z)) ((p2.map keyOf).nodup_iff.mpr nd1) (fun k' => by rw [(p2.map keyOf).mem_iff]; exact mem1 k') (by omega)
        exact wpAny_pure (hR _ (b1.trans (Heap.SameBut.update _ a _)) i2)
      · exact wpAny_pure (hR _ b1 i1)
    split
    · refine wpAny_bind ?_
      rw [hashByValue_scannable 8 (show Value.scannable (.int k tk) = true from rfl)]
      refine wpAny_pure ?_
      show wpAny _ _ _ _ _ _
      exact tail fun h' hb hi => wpAny_pure (h true h' hb hi)
    · refine wpAny_bind (wpAny_pure ?_)
      exact tail fun h' hb hi => wpAny_pure (h true h' hb hi)
end
end L2

set_option Elab.async false
set_option linter.all false
set_option maxRecDepth 100000
set_option maxHeartbeats 4000000
namespace L2
open PySem PySem.Spec PyProof.Rows
section
variable {prog : Program} {w : World} {A : Around} {R : Result → Shared → Prop} {I : Addr} {fp wr : List Addr} {G : Array GenState → Array GenState → Prop} {n : Nat} {P : Nat → Value → Prop} {St : Nat → Shared → Prop}
theorem iset_loop (W : WalksS prog w A.in1 I fp wr G n P St) (S : Addr) (hSf : S ∉ fp) (val : Nat → Int) (hval : ∀ i v, P i v → ∃ t, v = .int (val i) t) (hb : n + 1 < scanBound) :
    ∀ (k i : Nat) (s : Shared), n - i = k → i ≤ n → St i s → ISet prog w s.heap S ((List.range i).map val) → (∀ s', Moved (S :: wr) G s s' → ISet prog w s'.heap S ((List.range n).map val) → R (.ok (.ret .none)) s') →
      codeAny (model prog w) A (.builtin "set.update.loop" ⟨[.ref S, .ref I], []⟩) R s := by
  have nw : S ∉ wr := fun z => hSf (W.sub _ z)
  have sb : ∀ b ∈ wr, b ∈ S :: wr := fun b z => List.mem_cons_of_mem _ z
  intro k
  induction k with
  | zero =>
    intro i s hk hi st hS hR
    obtain rfl : i = n := by omega
    refine codeAny_builtin PyProof.Rows.F.entry_set_update_loop ?_
    rw [Around.under_plainId PyProof.Rows.F.plain_set_update_loop _]
    refine wpAny_bind (m := pyNext (.ref I)) (W.done s _ _ st fun s' hm => ?_)
    exact wpAny_pure (hR s' (hm.mono sb) (hS.keep fun o e => hm.heap S o nw e))
  | succ k ih =>
    intro i s hk hi st hS hR
    have lt : i < n := by omega
    refine codeAny_builtin PyProof.Rows.F.entry_set_update_loop ?_
    rw [Around.under_plainId PyProof.Rows.F.plain_set_update_loop _]
    refine wpAny_bind (m := pyNext (.ref I)) (W.item i s _ _ lt st fun v s' hP st' hm => ?_)
    obtain ⟨tk, rfl⟩ := hval i v hP
    have hS' := hS.keep fun o e => hm.heap S o nw e
    refine wpAny_bind (m := holding [Value.int (val i) tk] (setAdd S (.int (val i) tk))) (wpAny_holding ?_)
    unfold setAdd
    refine wpAny_holding (wpAny_bind ((intKind prog w).pyHash (k := val i) (intKind_is _ _ _ _) ?_))
    refine iset_add (s := { s' with toks := s'.toks + 1 }) hS' (by rw [List.length_map, List.length_range]; omega) fun b h' hsb hi => ?_
    have e : ((List.range i).map val) ++ [val i] = (List.range (i + 1)).map val := by rw [List.range_succ, List.map_append]; rfl
    rw [e] at hi
    refine wpAny_pure ⟨plainId_quiet PyProof.Rows.F.plain_set_update_loop _, ih (i + 1) _ (by omega) lt (W.frame _ s' _ _ st' (Nat.le_succ _) fun b hb o e => ?_) hi fun s'' hm'' hS'' => ?_⟩
    · rw [hsb.2 b (fun z : b = S => hSf (by rw [← z]; exact hb))]; exact e
    · refine hR s'' (Moved.trans W.gtrans ((hm.mono sb).then_heap (Nat.le_succ _) fun b o hb e => ?_) hm'') hS''
      rw [hsb.2 b (fun z : b = S => hb (by rw [z]; exact List.mem_cons_self))]; exact e
end
end L2

set_option Elab.async false
set_option linter.all false
set_option maxRecDepth 100000
set_option maxHeartbeats 4000000
namespace L2
open PySem
theorem erase_perm {α : Type} : ∀ (l : List α) (i : Nat) (x : α), l[i]? = some x → List.Perm (x :: l.eraseIdx i) l
  | [], i, x, h => by cases h
  | a :: r, 0, x, h => by cases h; exact .refl _
  | a :: r, i + 1, x, h => (List.Perm.swap a x _).trans ((erase_perm r i x h).cons a)
theorem pick_go {α : Type} (f : Nat → Nat) : ∀ (n k : Nat) (l : List α) (out : Array α), l.length = n → List.Perm (pickOrder.go f n k l out).toList (out.toList ++ l)
  | 0, k, l, out, h => by
    cases l with
    | nil => unfold pickOrder.go; rw [List.append_nil]
    | cons a r => cases h
  | n + 1, k, l, out, h => by
    unfold pickOrder.go
    have hl : f k % l.length < l.length := Nat.mod_lt _ (by omega)
    rw [List.getElem?_eq_getElem hl]
    dsimp only
    have p := erase_perm l _ _ (List.getElem?_eq_getElem hl)
    refine (pick_go f n (k + 1) _ _ ?_).trans ?_
    · have := p.length_eq
      rw [List.length_cons] at this
      omega
    · rw [Array.toList_push, List.append_assoc]
      exact List.Perm.append_left _ p
theorem pick_perm {α : Type} (f : Nat → Nat) (xs : Array α) : List.Perm (pickOrder f xs).toList xs.toList := by
  have := pick_go f xs.size 0 xs.toList #[] (by simp)
  rw [show (#[] : Array α).toList ++ xs.toList = xs.toList from rfl] at this
  exact this
section
variable {prog : Program} {w : World} {A : Around} {E : Value → Shared → Prop} {s : Shared}
theorem wp_choose {M : Model} {src : Source} {n : Nat} {Q : Nat → Shared → Prop} (hn : n ≠ 0) (h : ∀ i d, i < n → Q i { s with drawn := d }) : wpAny M A (choose src n) Q E s := fun Γ p hΓ => by
  show Sem.wp M Γ (Sem.choose src n Sem.pure) _ _ p s
  unfold Sem.wp
  refine ⟨hn, ?_⟩
  unfold Sem.wp
  exact h _ _ (Nat.mod_lt _ (Nat.pos_of_ne_zero hn))
theorem wp_order {M : Model} {α : Type} : ∀ (n : Nat) (xs : List α) (s : Shared) {Q : List α → Shared → Prop}, xs.length = n → (∀ ys d, List.Perm ys xs → Q ys { s with drawn := d }) → wpAny M A (drawOrder n xs) Q E s
  | 0, xs, s, Q, hl, h => by
    cases xs with
    | nil => exact wpAny_pure (h [] s.drawn .nil)
    | cons a r => cases hl
  | n + 1, xs, s, Q, hl, h => by
    cases xs with
    | nil => cases hl
    | cons a r =>
      unfold drawOrder
      refine wpAny_bind (wp_choose (by simp) fun i d hi => ?_)
      rw [List.getElem?_eq_getElem hi]
      dsimp only
      have p := erase_perm (a :: r) _ _ (List.getElem?_eq_getElem hi)
      refine wpAny_bind (wp_order n _ _ (by have := p.length_eq; rw [List.length_cons] at this; omega) fun ys d' hp => ?_)
      exact wpAny_pure (h _ d' ((hp.cons _).trans p))
def SIt (h : Heap) (I : Addr) (f : Value) (i : Nat) (p n ep : Nat) : Prop := ∃ o, h.get? I = some o ∧ o.cls = .type "set_iterator" ∧ o.data = .fields #[f, .int i 0, .ref p, .int n 0, .int ep 0]
theorem SIt.ty {I p n ep i : Nat} {f : Value} (x : SIt s.heap I f i p n ep) : s.TypeIs (.ref I) "set_iterator" := let ⟨o, ho, hc, _⟩ := x; ⟨o, ho, hc⟩
def SAt (h : Heap) (p ep : Nat) (es : Array (Int × Value)) (t : SetTable) : Prop := ∃ o, h.get? p = some o ∧ o.ExactSet ∧ o.data = .set es ep t ∧ t.fits es.size = true
theorem slot_sit_next : Slot "set_iterator" "__next__" "set_iterator.__next__" := .of (owner := "set_iterator") (n := "__next__") (by rw [typeLookup_type, builtinLookup_eq_fast]; kernel_rfl) (by decide +kernel) (by decide +kernel) (by decide +kernel) (by first | exact .inl (by decide +kernel) | exact .inr (by decide +kernel)) (by rw [isSubtype_type]; kernel_rfl)
theorem entry_sit_next : entryFor table "set_iterator.__next__" = some Builtin.«set_iterator.__next__» := entryFor_of_tree (by kernel_rfl)
theorem args_sit_next (a : Value) : argsOk "set_iterator.__next__" ⟨[a], []⟩ := by unfold argsOk; kernel_rfl
theorem entry_s_iter : entryFor table "set.__iter__" = some Builtin.«frozenset.__iter__» := entryFor_alias (id' := "frozenset.__iter__") (by kernel_rfl) rfl (by decide +kernel) (by kernel_rfl)
theorem look_sit : typeLookup (.type "set_iterator") "__next__" = pure (some (.builtin "set_iterator.__next__")) := slot_sit_next.lookup
theorem iter_set {p ep : Nat} {es : Array (Int × Value)} {t : SetTable} {Q : Value → Shared → Prop} (hS : SAt s.heap p ep es t)
    (hq : (w.params.followText "set-order" = true ∨ (t.plain = true ∨ es.size ≤ 1)) → Q (.ref s.heap.objs.size) { s with heap := s.heap.push { cls := .type "set_iterator", data := .fields #[.int 0 0, .int 0 0, .ref p, .int es.size 0, .int ep 0] } })
    (hd : ∀ (ys : List Nat) (d : Drawn), List.Perm ys (List.range es.size) → Q (.ref (s.heap.objs.size + 1)) { s with heap := (s.heap.push { cls := .type "tuple", data := .seq (ys.map fun i => rawInt (i : Nat)).toArray }).push { cls := .type "set_iterator", data := .fields #[.ref s.heap.objs.size, .int 0 0, .ref p, .int es.size 0, .int ep 0] }, drawn := d })
    (hz : es.size ≤ sizeLine) : wpAny (model prog w) A (pyIter (.ref p)) Q E s := by
  obtain ⟨o, ho, hex, hdt, hf⟩ := hS
  have hT : s.TypeIs (.ref p) "set" := ⟨o, ho, hex.1⟩
  refine wpAny_pyIter_slot hT F.slot_set_iter (wpAny_call_entry F.slot_set_iter hT entry_s_iter ?_ (F.args_set_iter_1 _))
  unfold Builtin.«frozenset.__iter__»
  refine wpAny_bind (m := Builtin.Frozenset.slot0 "__iter__" _) (wpAny_pure ?_)
  refine wpAny_bind (m := Builtin.Frozenset.sizeOf p) ?_
  unfold Builtin.Frozenset.sizeOf setEntries
  refine wpAny_bind (wpAny_bind (wpAny_setState_of ho hdt hf (wpAny_pure (wpAny_pure ?_))))
  unfold setDrawn setsByText
  refine wpAny_bind (wpAny_bind (wpAny_setState_of ho hdt hf (wpAny_bind (wpAny_bind (wpAny_askSetting (wpAny_pure (wpAny_pure ?_)))))))
  have low : ∀ {f : Value} {h2 : Heap} {d : Drawn}, h2.get? p = some o → Q (.ref h2.objs.size) { s with heap := h2.push { cls := .type "set_iterator", data := .fields #[f, .int 0 0, .ref p, .int es.size 0, .int ep 0] }, drawn := d } →
      wpAny (model prog w) A.in1 (do
        let ep' ← setEpoch p
        let it ← newFields "set_iterator" [f, rawInt 0, Value.ref p, rawInt (es.size : Nat), rawInt (ep' : Nat)]
        ret it) (fun fin s' => ∃ v, fin = Fin.done (Flow.ret v) ∧ ∃ T' r, s'.TypeIs v T' ∧ typeLookup (Value.type T') (Str.ofString "__next__") = pure (some r) ∧ Q v s') E { s with heap := h2, drawn := d } := fun {f h2 d} g q => by
    refine wpAny_bind (wpAny_setEpoch_of (s := { s with heap := h2, drawn := d }) g hdt hf ?_)
    exact wpAny_bind (wpAny_newObj_type (wpAny_pure ⟨_, rfl, "set_iterator", _, ⟨_, Heap.get?_push_size _ rfl, rfl⟩, look_sit, q⟩))
  refine wpAny_ite_split (fun c => ?_) (fun c => ?_)
  · refine wpAny_bind (wp_order es.size _ _ (by simp) fun ys d hp => ?_)
    have hy : ys.length = es.size := by have := hp.length_eq; simpa using this
    refine wpAny_bind (m := newTuple _) (wpAny_newObj_type ?_ (by show (ys.map fun i => rawInt (i : Nat)).toArray.size ≤ sizeLine; rw [List.size_toArray, List.length_map, hy]; exact hz))
    have q := hd ys d hp
    have e : s.heap.objs.size + 1 = (s.heap.push { cls := .type "tuple", data := .seq (ys.map fun i => rawInt (i : Nat)).toArray }).objs.size := (Heap.size_push _ _).symm
    rw [e] at q
    exact low (Heap.get?_push_of_some _ ho) q
  · refine wpAny_bind (wpAny_pure (low (d := s.drawn) ho (hq ?_)))
    have c' : ¬ (!w.params.followText "set-order" && (!t.plain && decide (es.size > 1))) = true := c
    cases h1 : w.params.followText "set-order" with
    | true => exact .inl rfl
    | false =>
      right
      cases h2 : t.plain with
      | true => exact .inl rfl
      | false =>
        right
        rw [h1, h2] at c'
        simp at c'
        exact c'
end
end L2

set_option Elab.async false
set_option linter.all false
set_option maxRecDepth 100000
set_option maxHeartbeats 4000000
namespace L2
open PySem
section
variable {prog : Program} {w : World} {A : Around} {E : Value → Shared → Prop} {s : Shared}
theorem sit_upd {h : Heap} {I p n ep i : Nat} {f g : Value} (x : SIt h I f i p n ep) :
    SIt ((h.update I (Obj.mapFields (·.setIfInBounds 0 g))).update I (Obj.mapFields (·.setIfInBounds 1 (rawInt ((i : Int) + 1))))) I g (i + 1) p n ep := by
  obtain ⟨o, ho, hc, hd⟩ := x
  have d1 := Obj.data_mapFields hd (·.setIfInBounds 0 g)
  have g1 := Heap.get?_update_self (Obj.mapFields (·.setIfInBounds 0 g)) ho (Obj.isFreed_of_fields d1)
  have d2 := Obj.data_mapFields d1 (·.setIfInBounds 1 (rawInt ((i : Int) + 1)))
  refine ⟨_, Heap.get?_update_self _ g1 (Obj.isFreed_of_fields d2), (Obj.cls_mapFields ..).trans ((Obj.cls_mapFields ..).trans hc), ?_⟩
  rw [d2]
  simp [rawInt]
theorem next_some {I p ep i slot nx : Nat} {es : Array (Int × Value)} {t : SetTable} {x : Value} {Q : Option Value → Shared → Prop} (hI : SIt s.heap I (.int slot 0) i p es.size ep) (hS : SAt s.heap p ep es t)
    (hN : ∀ (A' : Around) (E' : Value → Shared → Prop) (Q' : Option (Value × Nat) → Shared → Prop), Q' (some (x, nx)) s → wpAny (model prog w) A' (setNext p slot i ep) Q' E' s)
    (hQ : ∀ h', SIt h' I (.int nx 0) (i + 1) p es.size ep → Heap.SameBut I s.heap h' → Q (some x) { s with heap := h' }) : wpAny (model prog w) A (pyNext (.ref I)) Q E s := by
  obtain ⟨o, ho, hc, hd⟩ := id hI
  obtain ⟨op, hop, hex, hdp, hf⟩ := hS
  unfold pyNext
  refine wpAny_bind (wpAny_attempt (wpAny_callSpecial?_slot (name := Str.ofString "__next__") hI.ty slot_sit_next (wpAny_call_entry slot_sit_next hI.ty entry_sit_next ?_ (args_sit_next _))))
  unfold Builtin.«set_iterator.__next__»
  refine wpAny_bind (m := slotArgs "__next__" 0 _) (wpAny_pure ?_)
  refine wpAny_bind (wpAny_fieldsOf ho hd ?_)
  dsimp only
  unfold setEntries
  refine wpAny_bind (wpAny_bind (wpAny_setState_of hop hdp hf (wpAny_pure ?_)))
  rw [if_neg (by simp)]
  simp only [Int.toNat_natCast]
  refine wpAny_bind (hN _ _ _ ?_)
  dsimp only
  refine wpAny_bind (wpAny_setField ho hd (by simp) ?_)
  have d1 := Obj.data_mapFields hd (·.setIfInBounds 0 (rawInt ((nx : Nat) : Int)))
  have g1 := Heap.get?_update_self (Obj.mapFields (·.setIfInBounds 0 (rawInt ((nx : Nat) : Int)))) ho (Obj.isFreed_of_fields d1)
  refine wpAny_bind (wpAny_setField (s := { s with heap := s.heap.update I (Obj.mapFields (·.setIfInBounds 0 (rawInt ((nx : Nat) : Int)))) }) g1 d1 (by simp) ?_)
  exact wpAny_pure ⟨_, rfl, wpAny_pure (hQ _ (sit_upd hI) ((Heap.SameBut.update ..).trans (Heap.SameBut.update ..)))⟩
theorem next_none {I p ep i slot : Nat} {es : Array (Int × Value)} {t : SetTable} {Q : Option Value → Shared → Prop} (hh : A.handled = none) (hI : SIt s.heap I (.int slot 0) i p es.size ep) (hS : SAt s.heap p ep es t)
    (hN : ∀ (A' : Around) (E' : Value → Shared → Prop) (Q' : Option (Value × Nat) → Shared → Prop), Q' none s → wpAny (model prog w) A' (setNext p slot i ep) Q' E' s)
    (hQ : ∀ h', Heap.ExtBut I s.heap h' → Q none { s with heap := h' }) : wpAny (model prog w) A (pyNext (.ref I)) Q E s := by
  obtain ⟨o, ho, hc, hd⟩ := id hI
  obtain ⟨op, hop, hex, hdp, hf⟩ := id hS
  unfold pyNext
  refine wpAny_bind (wpAny_attempt (wpAny_callSpecial?_slot (name := Str.ofString "__next__") hI.ty slot_sit_next (wpAny_call_entry slot_sit_next hI.ty entry_sit_next ?_ (args_sit_next _))))
  unfold Builtin.«set_iterator.__next__»
  refine wpAny_bind (m := slotArgs "__next__" 0 _) (wpAny_pure ?_)
  refine wpAny_bind (wpAny_fieldsOf ho hd ?_)
  dsimp only
  unfold setEntries
  refine wpAny_bind (wpAny_bind (wpAny_setState_of hop hdp hf (wpAny_pure ?_)))
  rw [if_neg (by simp)]
  simp only [Int.toNat_natCast]
  refine wpAny_bind (hN _ _ _ ?_)
  dsimp only
  refine wpAny_bind (wpAny_setField ho hd (by simp) ?_)
  have s1 := Heap.SameBut.update s.heap I (Obj.mapFields (·.setIfInBounds 2 Value.none))
  simp only [newExc, newTuple]
  refine wpAny_bind (wpAny_bind (wpAny_newObj_type (wpAny_bind (m := firstArgMember _ _) (wpAny_of_eq (a := Value.none) (by simp only [firstArgMember]; rfl) (wpAny_newObj_type ?_ (by size_fits)))) (by size_fits)))
  simp only [raiseNew]
  refine wpAny_bind (wpAny_handled ?_)
  rw [show A.in1.handled = none from hh]
  refine wpAny_bind (wpAny_pure (wpAny_throw ?_)); refine wpAny_bind (wpAny_isInstance (T := "StopIteration") (b := true) ⟨_, Heap.get?_push_size _ rfl, rfl⟩ isSubtype_stop ?_)
  exact wpAny_pure (hQ _ ((s1.extBut.push _).push _))
def TAt (h : Heap) (T : Nat) (ys : List Nat) : Prop := ∃ o, h.get? T = some o ∧ o.cls = .type "tuple" ∧ ∃ n, o.data = .seq (ys.map fun i => rawInt (i : Nat)).toArray n
theorem tup_some {I p ep i T j : Nat} {es : Array (Int × Value)} {t : SetTable} {ys : List Nat} {e : Int × Value} {Q : Option Value → Shared → Prop} (hI : SIt s.heap I (.ref T) i p es.size ep) (hS : SAt s.heap p ep es t) (hT : TAt s.heap T ys)
    (hj : ys[i]? = some j) (he : es[j]? = some e) (hQ : ∀ h', SIt h' I (.ref T) (i + 1) p es.size ep → Heap.SameBut I s.heap h' → Q (some e.2) { s with heap := h' }) : wpAny (model prog w) A (pyNext (.ref I)) Q E s := by
  obtain ⟨o, ho, hc, hd⟩ := id hI
  obtain ⟨op, hop, hex, hdp, hf⟩ := id hS
  unfold pyNext
  refine wpAny_bind (wpAny_attempt (wpAny_callSpecial?_slot (name := Str.ofString "__next__") hI.ty slot_sit_next (wpAny_call_entry slot_sit_next hI.ty entry_sit_next ?_ (args_sit_next _))))
  unfold Builtin.«set_iterator.__next__»
  refine wpAny_bind (m := slotArgs "__next__" 0 _) (wpAny_pure ?_)
  refine wpAny_bind (wpAny_fieldsOf ho hd ?_)
  dsimp only
  unfold setEntries
  refine wpAny_bind (wpAny_bind (wpAny_setState_of hop hdp hf (wpAny_pure ?_)))
  rw [if_neg (by simp)]
  obtain ⟨oT, hoT, hcT, nT, hdT⟩ := hT
  refine wpAny_bind (wpAny_seqItems hoT hdT ?_)
  dsimp only
  rw [Int.toNat_natCast, List.getElem?_toArray, List.getElem?_map, hj]
  show wpAny _ _ (setNextDrawn p j ep >>= _) _ _ s
  unfold setNextDrawn
  refine wpAny_bind (wpAny_bind (wpAny_setState_of hop hdp hf ?_))
  dsimp only
  rw [if_neg (by simp)]
  rw [he]
  refine wpAny_pure (wpAny_bind (wpAny_setField ho hd (by simp) ?_))
  have d1 := Obj.data_mapFields hd (·.setIfInBounds 1 (rawInt ((i : Int) + 1)))
  refine wpAny_pure ⟨_, rfl, wpAny_pure (hQ _ ⟨_, Heap.get?_update_self _ ho (Obj.isFreed_of_fields d1), (Obj.cls_mapFields ..).trans hc, ?_⟩ (Heap.SameBut.update ..))⟩
  rw [d1]
  simp [rawInt]
theorem tup_none {I p ep i T : Nat} {es : Array (Int × Value)} {t : SetTable} {ys : List Nat} {Q : Option Value → Shared → Prop} (hh : A.handled = none) (hI : SIt s.heap I (.ref T) i p es.size ep) (hS : SAt s.heap p ep es t) (hT : TAt s.heap T ys)
    (hj : ys[i]? = none) (hQ : ∀ h', Heap.ExtBut I s.heap h' → Q none { s with heap := h' }) : wpAny (model prog w) A (pyNext (.ref I)) Q E s := by
  obtain ⟨o, ho, hc, hd⟩ := id hI
  obtain ⟨op, hop, hex, hdp, hf⟩ := id hS
  unfold pyNext
  refine wpAny_bind (wpAny_attempt (wpAny_callSpecial?_slot (name := Str.ofString "__next__") hI.ty slot_sit_next (wpAny_call_entry slot_sit_next hI.ty entry_sit_next ?_ (args_sit_next _))))
  unfold Builtin.«set_iterator.__next__»
  refine wpAny_bind (m := slotArgs "__next__" 0 _) (wpAny_pure ?_)
  refine wpAny_bind (wpAny_fieldsOf ho hd ?_)
  dsimp only
  unfold setEntries
  refine wpAny_bind (wpAny_bind (wpAny_setState_of hop hdp hf (wpAny_pure ?_)))
  rw [if_neg (by simp)]
  obtain ⟨oT, hoT, hcT, nT, hdT⟩ := hT
  refine wpAny_bind (wpAny_seqItems hoT hdT ?_)
  dsimp only
  rw [Int.toNat_natCast, List.getElem?_toArray, List.getElem?_map, hj]
  dsimp only [Option.map_none]
  refine wpAny_bind (wpAny_setField ho hd (by simp) ?_)
  have d1 := Obj.data_mapFields hd (·.setIfInBounds 0 (rawInt 0))
  have g1 := Heap.get?_update_self (Obj.mapFields (·.setIfInBounds 0 (rawInt 0))) ho (Obj.isFreed_of_fields d1)
  refine wpAny_bind (wpAny_setField (s := { s with heap := s.heap.update I (Obj.mapFields (·.setIfInBounds 0 (rawInt 0))) }) g1 d1 (by simp) ?_)
  have s1 := (Heap.SameBut.update s.heap I (Obj.mapFields (·.setIfInBounds 0 (rawInt 0)))).trans (Heap.SameBut.update (s.heap.update I (Obj.mapFields (·.setIfInBounds 0 (rawInt 0)))) I (Obj.mapFields (·.setIfInBounds 2 Value.none)))
  simp only [newExc, newTuple]
  refine wpAny_bind (wpAny_bind (wpAny_newObj_type (wpAny_bind (m := firstArgMember _ _) (wpAny_of_eq (a := Value.none) (by simp only [firstArgMember]; rfl) (wpAny_newObj_type ?_ (by size_fits)))) (by size_fits)))
  simp only [raiseNew]
  refine wpAny_bind (wpAny_handled ?_)
  rw [show A.in1.handled = none from hh]
  refine wpAny_bind (wpAny_pure (wpAny_throw ?_)); refine wpAny_bind (wpAny_isInstance (T := "StopIteration") (b := true) ⟨_, Heap.get?_push_size _ rfl, rfl⟩ isSubtype_stop ?_)
  exact wpAny_pure (hQ _ ((s1.extBut.push _).push _))
theorem setNext_text {p ep slot i : Nat} {es : Array (Int × Value)} {t : SetTable} {Q : Option (Value × Nat) → Shared → Prop} (hx : w.params.followText "set-order" = true) (hS : SAt s.heap p ep es t)
    (h : Q (((pickOrder (w.params.setOrder p ep) es)[i]?).map fun e => (e.2, slot)) s) : wpAny (model prog w) A (setNext p slot i ep) Q E s := by
  obtain ⟨op, hop, hex, hdp, hf⟩ := hS
  unfold setNext setsByText
  refine wpAny_bind (wpAny_setState_of hop hdp hf (wpAny_bind (wpAny_bind (wpAny_askSetting (wpAny_pure ?_)))))
  dsimp only
  rw [if_pos (show (model prog w).w.params.followText "set-order" = true from hx), if_neg (by simp)]
  unfold setWalk setsByText
  refine wpAny_bind (wpAny_bind (wpAny_setState_of hop hdp hf (wpAny_bind (wpAny_bind (wpAny_askSetting (wpAny_pure ?_))))))
  dsimp only
  rw [if_pos (show (model prog w).w.params.followText "set-order" = true from hx)]
  exact wpAny_bind (wpAny_askSetting (wpAny_pure (wpAny_pure h)))
theorem setNext_place {p ep slot i : Nat} {es : Array (Int × Value)} {t : SetTable} {Q : Option (Value × Nat) → Shared → Prop} (hx : w.params.followText "set-order" = false) (hp : t.plain = true ∨ es.size ≤ 1) (hl : t.led = true) (hS : SAt s.heap p ep es t)
    (h : Q (match es[SetTable.below t.place slot]?, t.place[SetTable.below t.place slot]? with | some (_, x), some j => some (x, j + 1) | _, _ => none) s) : wpAny (model prog w) A (setNext p slot i ep) Q E s := by
  obtain ⟨op, hop, hex, hdp, hf⟩ := hS
  unfold setNext setsByText
  refine wpAny_bind (wpAny_setState_of hop hdp hf (wpAny_bind (wpAny_bind (wpAny_askSetting (wpAny_pure ?_)))))
  dsimp only
  rw [if_neg (show ¬ (model prog w).w.params.followText "set-order" = true by intro z; rw [show (model prog w).w.params.followText "set-order" = w.params.followText "set-order" from rfl, hx] at z; cases z)]
  refine wpAny_ite_split (fun c => ?_) (fun c => ?_)
  · exfalso
    have c' : (!t.plain && decide (es.size > 1)) = true := c
    rw [Bool.and_eq_true, decide_eq_true_eq] at c'
    rcases hp with hp | hp
    · rw [hp] at c'; cases c'.1
    · omega
  · refine wpAny_bind ?_
    show wpAny _ _ (if (!t.led && !es.isEmpty) = true then unsupported _ else pure ()) _ _ _
    rw [if_neg (by rw [hl]; simp)]
    exact wpAny_pure (wpAny_pure h)
end
end L2

set_option Elab.async false
set_option linter.all false
set_option maxRecDepth 100000
set_option maxHeartbeats 4000000
namespace L2
open PySem PyProof.Rows
section
variable {prog : Program} {w : World} {A : Around} {E : Value → Shared → Prop} {s : Shared}
theorem slot_sit_iter : Slot "set_iterator" "__iter__" "set_iterator.__iter__" := .of (owner := "set_iterator") (n := "__iter__") (by rw [typeLookup_type, builtinLookup_eq_fast]; kernel_rfl) (by decide +kernel) (by decide +kernel) (by decide +kernel) (by first | exact .inl (by decide +kernel) | exact .inr (by decide +kernel)) (by rw [isSubtype_type]; kernel_rfl)
theorem entry_sit_iter : entryFor table "set_iterator.__iter__" = some Builtin.«dict_keyiterator.__iter__» := entryFor_alias (id' := "dict_keyiterator.__iter__") (by kernel_rfl) rfl (by decide +kernel) (by kernel_rfl)
theorem args_sit_iter (a : Value) : argsOk "set_iterator.__iter__" ⟨[a], []⟩ := by unfold argsOk; kernel_rfl
theorem iter_sit {I p n ep i : Nat} {f : Value} {Q : Value → Shared → Prop} (x : SIt s.heap I f i p n ep) (h : Q (.ref I) s) : wpAny (model prog w) A (pyIter (.ref I)) Q E s := by
  refine wpAny_pyIter_slot x.ty slot_sit_iter (wpAny_call_entry slot_sit_iter x.ty entry_sit_iter (show wpAny _ _ (ret (.ref I)) _ _ s from ?_) (args_sit_iter _))
  exact wpAny_pure ⟨_, rfl, "set_iterator", _, x.ty, look_sit, h⟩
theorem SIt.keep {h h' : Heap} {I p n ep i : Nat} {f : Value} (x : SIt h I f i p n ep) (k : ∀ o, h.get? I = some o → h'.get? I = some o) : SIt h' I f i p n ep := let ⟨o, ho, r⟩ := x; ⟨o, k _ ho, r⟩
theorem SAt.keep {h h' : Heap} {p ep : Nat} {es : Array (Int × Value)} {t : SetTable} (x : SAt h p ep es t) (k : ∀ o, h.get? p = some o → h'.get? p = some o) : SAt h' p ep es t := let ⟨o, ho, r⟩ := x; ⟨o, k _ ho, r⟩
theorem TAt.keep {h h' : Heap} {T : Nat} {ys : List Nat} (x : TAt h T ys) (k : ∀ o, h.get? T = some o → h'.get? T = some o) : TAt h' T ys := let ⟨o, ho, r⟩ := x; ⟨o, k _ ho, r⟩
theorem walk_text (hh : A.handled = none) (I p ep : Nat) (hne : p ≠ I) (es : Array (Int × Value)) (t : SetTable) (hx : w.params.followText "set-order" = true) :
    Walks prog w A I [I, p] [I] es.size (fun i v => ((pickOrder (w.params.setOrder p ep) es).toList.map (·.2))[i]? = some v) (fun i h => SIt h I (.int 0 0) i p es.size ep ∧ SAt h p ep es t) where
  sub := fun b hb => by rw [List.mem_singleton] at hb; rw [hb]; exact List.mem_cons_self
  frame := fun _ _ _ st k => ⟨st.1.keep (k I List.mem_cons_self), st.2.keep (k p (List.mem_cons_of_mem _ List.mem_cons_self))⟩
  item := fun i s Q E hi st hQ => by
    have hl : i < (pickOrder (w.params.setOrder p ep) es).size := by
      have := (pick_perm (w.params.setOrder p ep) es).length_eq
      rw [Array.length_toList, Array.length_toList] at this
      omega
    have g := Array.getElem?_eq_getElem hl
    refine next_some (nx := 0) (x := ((pickOrder (w.params.setOrder p ep) es)[i]).2) (slot := 0) st.1 st.2 (fun A' E' Q' q => setNext_text hx st.2 (by rw [g]; exact q)) fun h' hI hb => ?_
    refine hQ _ h' s.toks ?_ ⟨hI, st.2.keep fun o e => hb.extBut p o hne e⟩ fun b o hn e => hb.extBut b o (fun z => hn (by rw [z]; exact List.mem_singleton.mpr rfl)) e
    rw [List.getElem?_map, Array.getElem?_toList, g]; rfl
  done := fun s Q E st hQ => by
    have g : (pickOrder (w.params.setOrder p ep) es)[es.size]? = none := by
      have := (pick_perm (w.params.setOrder p ep) es).length_eq
      rw [Array.length_toList, Array.length_toList] at this
      exact Array.getElem?_eq_none (by omega)
    exact next_none (slot := 0) hh st.1 st.2 (fun A' E' Q' q => setNext_text hx st.2 (by rw [g]; exact q)) fun h' hb => hQ h' s.toks fun b o hn e => hb b o (fun z => hn (by rw [z]; exact List.mem_singleton.mpr rfl)) e
  self := fun _ _ _ _ st hQ => iter_sit st.1 hQ
def slotAt (t : SetTable) : Nat → Nat
  | 0 => 0
  | i + 1 => t.place.getD i 0 + 1
theorem below_at {t : SetTable} (h : Ris t.place) : ∀ i, i ≤ t.place.size → SetTable.below t.place (slotAt t i) = i
  | 0, _ => by
    obtain ⟨b0, b1, b2⟩ := below_is (j := slotAt t 0) h
    by_cases c : SetTable.below t.place (slotAt t 0) = 0
    · exact c
    · exact absurd (b1 0 (by omega)) (Nat.not_lt_zero _)
  | i + 1, hi => by
    obtain ⟨b0, b1, b2⟩ := below_is (j := slotAt t (i + 1)) h
    have e : ∀ k d, k < t.place.size → t.place.getD k d = t.place.getD k 0 := fun k d hk => by simp [Array.getD, hk]
    have c1 : i < SetTable.below t.place (slotAt t (i + 1)) := by
      by_cases c : SetTable.below t.place (slotAt t (i + 1)) ≤ i
      · have := b2 i c hi
        rw [e i _ hi] at this
        exact absurd this (Nat.not_succ_le_self _)
      · omega
    by_cases c2 : SetTable.below t.place (slotAt t (i + 1)) = i + 1
    · exact c2
    · have l := b1 (i + 1) (by omega)
      have hk : i + 1 < t.place.size := by omega
      rw [e _ _ hk] at l
      have r : t.place.getD i 0 < t.place.getD (i + 1) 0 := ris_lt (d := 0) h (Nat.lt_succ_self i) hk
      have l' : t.place.getD (i + 1) 0 < t.place.getD i 0 + 1 := l
      omega
theorem walk_place (hh : A.handled = none) (I p ep : Nat) (hne : p ≠ I) (es : Array (Int × Value)) (t : SetTable) (hx : w.params.followText "set-order" = false) (hp : t.plain = true ∨ es.size ≤ 1) (hl : t.led = true) (hz : t.place.size = es.size) (hr : Ris t.place) :
    Walks prog w A I [I, p] [I] es.size (fun i v => (es.toList.map (·.2))[i]? = some v) (fun i h => SIt h I (.int (slotAt t i) 0) i p es.size ep ∧ SAt h p ep es t) where
  sub := fun b hb => by rw [List.mem_singleton] at hb; rw [hb]; exact List.mem_cons_self
  frame := fun _ _ _ st k => ⟨st.1.keep (k I List.mem_cons_self), st.2.keep (k p (List.mem_cons_of_mem _ List.mem_cons_self))⟩
  item := fun i s Q E hi st hQ => by
    have g := Array.getElem?_eq_getElem hi
    have hi2 : i < t.place.size := by omega
    have g2 := Array.getElem?_eq_getElem hi2
    have e2 : slotAt t (i + 1) = t.place[i] + 1 := by
      show t.place.getD i 0 + 1 = _
      simp [Array.getD, hi2]
    refine next_some (nx := t.place[i] + 1) (x := (es[i]).2) (slot := slotAt t i) st.1 st.2 (fun A' E' Q' q => setNext_place hx hp hl st.2 (by rw [below_at hr i (by omega), g, g2]; exact q)) fun h' hI hb => ?_
    refine hQ _ h' s.toks ?_ ⟨by rw [e2]; exact hI, st.2.keep fun o e => hb.extBut p o hne e⟩ fun b o hn e => hb.extBut b o (fun z => hn (by rw [z]; exact List.mem_singleton.mpr rfl)) e
    rw [List.getElem?_map, Array.getElem?_toList, g]; rfl
  done := fun s Q E st hQ => by
    have g : es[es.size]? = none := Array.getElem?_eq_none (Nat.le_refl _)
    exact next_none (slot := slotAt t es.size) hh st.1 st.2 (fun A' E' Q' q => setNext_place hx hp hl st.2 (by rw [below_at hr _ (by omega), g]; exact q)) fun h' hb => hQ h' s.toks fun b o hn e => hb b o (fun z => hn (by rw [z]; exact List.mem_singleton.mpr rfl)) e
  self := fun _ _ _ _ st hQ => iter_sit st.1 hQ
theorem walk_drawn (hh : A.handled = none) (I p T ep : Nat) (hne : p ≠ I) (hnT : T ≠ I) (es : Array (Int × Value)) (t : SetTable) (ys : List Nat) (hy : List.Perm ys (List.range es.size)) :
    Walks prog w A I [I, p, T] [I] es.size (fun i v => (ys.map fun j => (es.getD j (0, .none)).2)[i]? = some v) (fun i h => SIt h I (.ref T) i p es.size ep ∧ SAt h p ep es t ∧ TAt h T ys) where
  sub := fun b hb => by rw [List.mem_singleton] at hb; rw [hb]; exact List.mem_cons_self
  frame := fun _ _ _ st k => ⟨st.1.keep (k I (by simp)), st.2.1.keep (k p (by simp)), st.2.2.keep (k T (by simp))⟩
  item := fun i s Q E hi st hQ => by
    have hl : i < ys.length := by have := hy.length_eq; rw [List.length_range] at this; omega
    have g := List.getElem?_eq_getElem hl
    have hj : ys[i] < es.size := List.mem_range.mp (hy.mem_iff.mp (List.getElem_mem hl))
    refine tup_some st.1 st.2.1 st.2.2 g (Array.getElem?_eq_getElem hj) fun h' hI hb => ?_
    refine hQ _ h' s.toks ?_ ⟨hI, st.2.1.keep fun o e => hb.extBut p o hne e, st.2.2.keep fun o e => hb.extBut T o hnT e⟩ fun b o hn e => hb.extBut b o (fun z => hn (by rw [z]; exact List.mem_singleton.mpr rfl)) e
    rw [List.getElem?_map, g]
    simp [Array.getD, hj]
  done := fun s Q E st hQ => by
    have g : ys[es.size]? = none := List.getElem?_eq_none (by have := hy.length_eq; rw [List.length_range] at this; omega)
    exact tup_none hh st.1 st.2.1 st.2.2 g fun h' hb => hQ h' s.toks fun b o hn e => hb b o (fun z => hn (by rw [z]; exact List.mem_singleton.mpr rfl)) e
  self := fun _ _ _ _ st hQ => iter_sit st.1 hQ
theorem ints_of {l : List (Int × Value)} (h : ∀ e ∈ l, ∃ t, e.2 = .int (keyOf e) t) : IntsAre (l.map (·.2)) (l.map keyOf) := by
  induction l with
  | nil => exact .nil
  | cons e r ih =>
    obtain ⟨t, q⟩ := h e List.mem_cons_self
    rw [List.map_cons, List.map_cons, q]
    exact .cons _ t (ih fun x hx => h x (List.mem_cons_of_mem _ hx))
theorem range_getD {α : Type} (es : Array α) (d : α) : (List.range es.size).map (fun j => es.getD j d) = es.toList := by
  refine List.ext_getElem (by simp) fun i h1 h2 => ?_
  have hi : i < es.size := by simpa using h2
  simp [Array.getD, hi]
theorem iter_iset {p : Addr} {ks : List Int} {Q : Value → Shared → Prop} (hh : A.handled = none) (hS : ISet prog w s.heap p ks) (hk : ks.length ≤ 1000)
    (h : ∀ (I : Addr) (fp : List Addr) (St : Nat → Heap → Prop) (h' : Heap) (d : Drawn) (its : List Value) (ns : List Int), Walks prog w A I fp [I] its.length (fun i v => its[i]? = some v) St → St 0 h' →
      (∀ b o, s.heap.get? b = some o → h'.get? b = some o) → (∀ b ∈ fp, b = p ∨ s.heap.objs.size ≤ b) → s.heap.objs.size ≤ I → IntsAre its ns → ns.Nodup → (∀ k, k ∈ ns ↔ k ∈ ks) → its.length ≤ ks.length → Q (.ref I) { s with heap := h', drawn := d }) :
    wpAny (model prog w) A (pyIter (.ref p)) Q E s := by
  obtain ⟨o, es, ep, t, ho, hex, hd, hel, hf, ht, hl, nd, mem, sz⟩ := hS
  have hS : SAt s.heap p ep es t := ⟨o, ho, hex, hd, hf⟩
  have hp : p < s.heap.objs.size := Heap.lt_size ho
  have hz : t.place.size = es.size := by
    unfold SetTable.fits at hf
    rw [Bool.and_eq_true] at hf
    exact beq_iff_eq.mp hf.1
  have fin : ∀ (l : List (Int × Value)), List.Perm l es.toList → IntsAre (l.map (·.2)) (l.map keyOf) ∧ (l.map keyOf).Nodup ∧ (∀ k, k ∈ l.map keyOf ↔ k ∈ ks) ∧ (l.map (·.2)).length = es.size := fun l pl =>
    ⟨ints_of fun e he => elem_int hel (pl.mem_iff.mp he), (pl.map keyOf).nodup_iff.mpr nd, fun k => ((pl.map keyOf).mem_iff).trans (mem k), by rw [List.length_map, pl.length_eq, Array.length_toList]⟩
  have lf : ∀ b ∈ [s.heap.objs.size, p], b = p ∨ s.heap.objs.size ≤ b := fun b hb => by
    simp only [List.mem_cons, List.not_mem_nil, or_false] at hb
    rcases hb with rfl | rfl
    · exact .inr (Nat.le_refl _)
    · exact .inl rfl
  refine iter_set hS (fun c => ?_) (fun ys d hy => ?_) (Nat.le_trans (Nat.le_trans sz hk) (by decide))
  · cases hx : w.params.followText "set-order" with
    | true =>
      obtain ⟨f1, f2, f3, f4⟩ := fin _ (pick_perm (w.params.setOrder p ep) es)
      have W := walk_text (prog := prog) hh s.heap.objs.size p ep (Nat.ne_of_lt hp) es t hx
      rw [← f4] at W
      exact h _ _ _ _ s.drawn _ _ W ⟨⟨_, Heap.get?_push_size _ rfl, rfl, by rw [f4]; rfl⟩, hS.keep fun o e => Heap.get?_push_of_some _ e⟩ (fun b o e => Heap.get?_push_of_some _ e) lf (Nat.le_refl _) f1 f2 f3 (by omega)
    | false =>
      have c' : t.plain = true ∨ es.size ≤ 1 := by
        rcases c with c | c
        · rw [hx] at c; cases c
        · exact c
      have hr : Ris t.place := by
        rcases c' with c' | c'
        · exact ht.ri c'
        · have hl1 : t.place.toList.length ≤ 1 := by rw [Array.length_toList]; omega
          show List.Pairwise _ _
          match t.place.toList, hl1 with
          | [], _ => exact .nil
          | [a], _ => exact List.pairwise_singleton _ _
      obtain ⟨f1, f2, f3, f4⟩ := fin _ (.refl _)
      have W := walk_place (prog := prog) hh s.heap.objs.size p ep (Nat.ne_of_lt hp) es t hx c' (hl hx) hz hr
      rw [← f4] at W
      exact h _ _ _ _ s.drawn _ _ W ⟨⟨_, Heap.get?_push_size _ rfl, rfl, by rw [f4]; rfl⟩, hS.keep fun o e => Heap.get?_push_of_some _ e⟩ (fun b o e => Heap.get?_push_of_some _ e) lf (Nat.le_refl _) f1 f2 f3 (by omega)
  · have pl : List.Perm (ys.map fun j => es.getD j (0, .none)) es.toList := by
      have := hy.map fun j => es.getD j (0, Value.none)
      rw [range_getD] at this
      exact this
    obtain ⟨f1, f2, f3, f4⟩ := fin _ pl
    have W := walk_drawn (prog := prog) (w := w) (A := A) hh (s.heap.objs.size + 1) p s.heap.objs.size ep (Nat.ne_of_lt (Nat.lt_succ_of_lt hp)) (Nat.ne_of_lt (Nat.lt_succ_self _)) es t ys hy
    rw [List.map_map] at f1 f4
    have f4' : (ys.map fun j => (es.getD j (0, .none)).2).length = es.size := f4
    rw [← f4'] at W
    have gI : ((s.heap.push { cls := .type "tuple", data := .seq (ys.map fun i => rawInt (i : Nat)).toArray }).push { cls := .type "set_iterator", data := .fields #[.ref s.heap.objs.size, .int 0 0, .ref p, .int es.size 0, .int ep 0] }).get? (s.heap.objs.size + 1) = some { cls := .type "set_iterator", data := .fields #[.ref s.heap.objs.size, .int 0 0, .ref p, .int es.size 0, .int ep 0] } := by
      have := Heap.get?_push_size (s.heap.push { cls := .type "tuple", data := .seq (ys.map fun i => rawInt (i : Nat)).toArray }) (o := { cls := .type "set_iterator", data := .fields #[.ref s.heap.objs.size, .int 0 0, .ref p, .int es.size 0, .int ep 0] }) rfl
      rw [Heap.size_push] at this
      exact this
    refine h _ _ _ _ d _ _ W ⟨⟨_, gI, rfl, by rw [f4']; rfl⟩, hS.keep fun o e => Heap.get?_push_of_some _ (Heap.get?_push_of_some _ e), ⟨_, Heap.get?_push_of_some _ (Heap.get?_push_size _ rfl), rfl, _, rfl⟩⟩ (fun b o e => Heap.get?_push_of_some _ (Heap.get?_push_of_some _ e)) (fun b hb => ?_) (Nat.le_succ _) f1 f2 f3 (by omega)
    · simp only [List.mem_cons, List.not_mem_nil, or_false] at hb
      rcases hb with rfl | rfl | rfl
      · exact .inr (Nat.le_succ _)
      · exact .inl rfl
      · exact .inr (Nat.le_refl _)
end
end L2

set_option Elab.async false
set_option linter.all false
set_option maxRecDepth 100000
set_option maxHeartbeats 4000000
namespace L2
open PySem PyProof.Rows
section
variable {prog : Program} {w : World} {A : Around} {E : Value → Shared → Prop} {s : Shared}
theorem hint_set {r : Addr} {Q : Bool → Shared → Prop} (hT : s.TypeIs (.ref r) "set") (h : Q false s) : wpAny (model prog w) A (Builtin.List.listLengthHint (.ref r)) Q E s := by
  unfold Builtin.List.listLengthHint
  refine wpAny_bind (wpAny_specialOf hT F.slot_set_len.lookup ?_)
  generalize hi : ("set.__len__" : String) = idx
  wp_delta; rw [show splitId idx = some ("set", "__len__") from by subst hi; decide +kernel]
  subst hi; refine wpAny_bind (wpAny_isInstance (T := "set") (b := true) hT (by rw [isSubtype_type]; kernel_rfl) ?_)
  refine wpAny_ite_split (fun z => absurd z (by decide)) (fun _ => wpAny_ite_split (fun _ => ?_) (fun z => absurd (by decide +kernel) z))
  exact wpAny_bind (wpAny_typeOf hT (wpAny_pure h))
def Met (ks : List Int) (its : List Value) : Prop := ∃ ns, IntsAre its ns ∧ ns.Nodup ∧ (∀ k, k ∈ ns ↔ k ∈ ks) ∧ its.length ≤ ks.length
theorem ISet.ty {p : Addr} {ks : List Int} (x : ISet prog w s.heap p ks) : s.TypeIs (.ref p) "set" := let ⟨o, _, _, _, ho, hex, _⟩ := x; ⟨o, ho, hex.1⟩
theorem ISet.lt {h : Heap} {p : Addr} {ks : List Int} (x : ISet prog w h p ks) : p < h.objs.size := let ⟨_, _, _, _, ho, _⟩ := x; Heap.lt_size ho
theorem items_eq {its : List Value} {acc : Array Value} (h : ItemsOf (fun i v => its[i]? = some v) acc its.length) : acc.toList = its := by
  refine List.ext_getElem? fun i => ?_
  by_cases hi : i < its.length
  · have ha : i < acc.size := by rw [h.1]; exact hi
    have := h.2 i acc[i] (Array.getElem?_eq_getElem ha)
    rw [Array.getElem?_toList, Array.getElem?_eq_getElem ha, this]
  · have e : acc.toList.length = its.length := by rw [Array.length_toList, h.1]
    rw [List.getElem?_eq_none (l := its) (by omega), List.getElem?_eq_none (l := acc.toList) (by omega)]
theorem extend_iset {R : Result → Shared → Prop} {p S : Addr} {ks : List Int} {res : Value} {c₀ : Nat} (hh : A.handled = none) (hS : ISet prog w s.heap p ks) (hk : ks.length ≤ 1000) (hne : S ≠ p)
    (hl : s.heap.get? S = some { cls := .type "list", data := .seq #[] c₀ })
    (hR : ∀ h' d tk acc c, (∀ b o, b ≠ S → s.heap.get? b = some o → h'.get? b = some o) → h'.get? S = some { cls := .type "list", dict := none, data := .seq acc c, slots := #[] } → Met ks acc.toList → R (.ok (.ret res)) { s with heap := h', drawn := d, toks := tk }) :
    wpAny (model prog w) A.in1 (Builtin.List.listExtendWith (.ref S) (.ref p) res) (fun fin s' => match fin with | .done f => R (.ok f) s' | .again c' => c'.quiet = true ∧ codeAny (model prog w) A c' R s') (fun e s' => R (.error e) s') s := by
  unfold Builtin.List.listExtendWith
  refine wpAny_bind (wpAny_typeOf (T := "set") hS.ty ?_)
  have e1 : Builtin.List.listSameRef (.ref S) (.ref p) = false := by simp [Builtin.List.listSameRef, hne]
  have e2 : (Value.type "set" == Value.type "list") = false := by decide
  have e3 : (Value.type "set" == Value.type "tuple") = false := by decide
  simp only [e1, e2, e3, Bool.or_false, Bool.false_eq_true, if_false]
  refine wpAny_bind (iter_iset (A := A.in1) hh hS hk fun I fp St h1 d its ns W st keep hfp hI i1 i2 i3 i4 => ?_)
  have hSlt := Heap.lt_size hl
  have hSf : S ∉ fp := fun z => by
    rcases hfp S z with e | e
    · exact hne e
    · exact absurd hSlt (Nat.not_lt.mpr e)
  have hIS : I ≠ S := fun z => absurd hSlt (Nat.not_lt.mpr (by rw [← z]; exact hI))
  have g1 := keep _ _ hl
  have fin : ∀ (h : Heap) (c : Nat) (tk : Nat), St 0 h → (∀ b o, b ≠ S → s.heap.get? b = some o → h.get? b = some o) → h.get? S = some { cls := .type "list", data := .seq #[] c } →
      codeAny (model prog w) A (.builtin "list.extend.loop" ⟨[.ref S, .ref I, res], []⟩) R { s with heap := h, drawn := d, toks := tk } := fun h c tk st' k g => by
    refine codeAny_extend_loopS W.toS (Nat.le_trans (Nat.le_trans i4 hk) (by decide)) S hSf res its.length 0 _ #[] c rfl (Nat.zero_le _) st' g (ItemsOf.nil _) fun s' acc c' hm g' hacc => ?_
    have e := items_eq hacc
    have es : s' = { s with heap := s'.heap, drawn := d, toks := s'.toks } := by
      obtain ⟨a1, a2, a3, a4, a5⟩ := s'
      have b1 : a2 = s.gens := hm.gens
      have b2 : a3 = d := hm.drawn
      have b3 : a5 = s.os := hm.os
      subst b1 b2 b3
      rfl
    rw [es]
    refine hR s'.heap d s'.toks acc c' (fun b o hb q => hm.heap b o (fun z => ?_) (k b o hb q)) g' (by rw [e]; exact ⟨ns, i1, i2, i3, i4⟩)
    rcases List.mem_cons.mp z with z | z
    · exact hb z
    · exact absurd (Heap.lt_size q) (Nat.not_lt.mpr (by rw [List.mem_singleton.mp z]; exact hI))
  refine wpAny_bind (wpAny_holding (hint_set (s := { s with heap := h1, drawn := d }) (hS.keep (keep p)).ty ?_))
  refine wpAny_ite_split (fun _ => ?_) (fun _ => wpAny_pure ⟨plainId_quiet F.plain_extend_loop _, fin _ c₀ _ st (fun b o _ e => keep b o e) g1⟩)
  refine wpAny_bind (wpAny_rule (wpAny_bind ?_))
  show wpAny _ _ (updateSeq S (fun xs => xs.push .none) >>= fun _ => updateSeq S (fun xs => xs.pop)) _ _ _
  refine wpAny_bind (wpAny_updateSeq (s := { s with heap := h1, drawn := d }) g1 rfl ?_)
  have g2 := Heap.get?_update_self (Obj.mapSeq (fun xs => xs.push Value.none)) g1 rfl
  refine wpAny_updateSeq (s := { s with heap := h1.update S (Obj.mapSeq (fun xs => xs.push Value.none)), drawn := d }) (hz := by seq_fits) g2 rfl ?_
  have g3 := Heap.get?_update_self (Obj.mapSeq (fun xs => xs.pop)) g2 rfl
  refine wpAny_pure ⟨plainId_quiet F.plain_extend_loop _, fin _ _ _ (W.frame 0 _ _ st fun b hb o e => ?_) (fun b o hb e => ?_) g3⟩
  · have hb' : b ≠ S := fun z => hSf (z ▸ hb)
    exact (Heap.get?_update_other _ _ (Ne.symm hb')).trans ((Heap.get?_update_other _ _ (Ne.symm hb')).trans e)
  · exact (Heap.get?_update_other _ _ (Ne.symm hb)).trans ((Heap.get?_update_other _ _ (Ne.symm hb)).trans (keep b o e))
theorem collect_iset {R : List Value → Shared → Prop} {p : Addr} {ks : List Int} (hh : A.handled = none) (hS : ISet prog w s.heap p ks) (hk : ks.length ≤ 1000)
    (h : ∀ h' d tk its, (∀ b o, s.heap.get? b = some o → h'.get? b = some o) → Met ks its → R its { s with heap := h', drawn := d, toks := tk }) : wpAny (model prog w) A (collect (.ref p)) R E s := by
  have lt := hS.lt
  unfold collect
  refine wpAny_bind (wpAny_runValue (codeAny_builtin F.entry_proto_collect ?_))
  rw [Around.under_plainId F.plain_proto_collect _]
  show wpAny _ A.in1 (newList [] >>= fun l0 => again (.builtin "list.__iadd__" ⟨[l0, .ref p], []⟩)) _ _ s
  refine wpAny_bind (wpAny_newObj_type (wpAny_pure ⟨plainId_quiet F.plain_list_iadd _, codeAny_builtin F.entry_list_iadd ?_⟩))
  rw [Around.under_plainId F.plain_list_iadd _]
  have g0 : (s.heap.push { cls := .type "list", data := .seq ([] : List Value).toArray }).get? s.heap.objs.size = some { cls := .type "list", data := .seq #[] } := Heap.get?_push_size _ rfl
  have key := extend_iset (A := A) (s := { s with heap := s.heap.push { cls := .type "list", data := .seq ([] : List Value).toArray } }) (res := .ref s.heap.objs.size)
    (R := fun (q : Result) (s' : Shared) => ∃ (h' : Heap) (d : Drawn) (tk : Nat) (acc : Array Value) (c : Nat), q = .ok (.ret (.ref s.heap.objs.size)) ∧ s' = { s with heap := h', drawn := d, toks := tk } ∧ (∀ b o, s.heap.get? b = some o → h'.get? b = some o) ∧
      h'.get? s.heap.objs.size = some { cls := .type "list", dict := none, data := .seq acc c, slots := #[] } ∧ Met ks acc.toList) hh (hS.keep fun o e => Heap.get?_push_of_some _ e) hk (Nat.ne_of_gt lt) g0
    (fun h' d tk acc c k g m => ⟨h', d, tk, acc, c, rfl, rfl, fun b o e => k b o (Nat.ne_of_lt (Heap.lt_size e)) (Heap.get?_push_of_some _ e), g, m⟩)
  show wpAny _ A.in1 (Builtin.List.listExtendWith (.ref s.heap.objs.size) (.ref p) (.ref s.heap.objs.size)) _ _ _
  refine wpAny_mono key (fun fi s' x => ?_) fun e s' x => ?_
  · cases fi with
    | done f =>
      obtain ⟨h', d, tk, acc, c, e, rfl, k, g, m⟩ := x
      cases e
      exact wpAny_bind (m := load s.heap.objs.size) (wpAny_load g (wpAny_pure (h h' d tk _ k m)))
    | again c1 =>
      refine ⟨x.1, codeAny_mono x.2 fun q s2 y => ?_⟩
      obtain ⟨h', d, tk, acc, c, rfl, rfl, k, g, m⟩ := y
      exact wpAny_bind (m := load s.heap.objs.size) (wpAny_load g (wpAny_pure (h h' d tk _ k m)))
  · obtain ⟨_, _, _, _, _, e', _⟩ := x
    cases e'
end
end L2

set_option Elab.async false
set_option linter.all false
set_option maxRecDepth 100000
set_option maxHeartbeats 4000000
namespace L2
open PySem PySem.Spec PyProof.Rows
section
variable {prog : Program} {w : World} {A : Around} {E : Value → Shared → Prop} {s : Shared}
theorem IntsAre.len {vs : List Value} {ns : List Int} (h : IntsAre vs ns) : vs.length = ns.length := by
  induction h with
  | nil => rfl
  | cons n t _ ih => rw [List.length_cons, List.length_cons, ih]
theorem lt_of_le_nodup {zs : List Int} (h : zs.Pairwise (· ≤ ·)) (n : zs.Nodup) : zs.Pairwise (· < ·) :=
  (List.Pairwise.and h n).imp fun ⟨a, b⟩ => by omega
theorem sorted_iset {p : Addr} {ks : List Int} {Q : Value → Shared → Prop} (hh : A.handled = none) (hS : ISet prog w s.heap p ks) (hk : ks.length < 64)
    (h : ∀ (D : Addr) (h' : Heap) (d : Drawn) (tk : Nat) (out : Array Value) (e : Nat) (zs : List Int), (∀ b o, s.heap.get? b = some o → h'.get? b = some o) → s.heap.get? D = none → h'.get? D = some (seqObj "list" out e) → IntsAre out.toList zs → zs.Pairwise (· < ·) →
      (∀ k, k ∈ zs ↔ k ∈ ks) → zs.length ≤ ks.length → Q (.ref D) { s with heap := h', drawn := d, toks := tk }) : wpAny (model prog w) A (call (.builtin "sorted") [.ref p]) Q E s := by
  refine Calls.call_function_entry kind_sorted plain_sorted entry_sorted (args_sorted1 _) ?_
  unfold Builtin.«sorted»
  refine wpAny_bind (m := checkCount "sorted" 1 1 _) (wpAny_pure (wpAny_bind (collect_iset (A := A.in1) hh hS (by omega) fun h1 d tk its keep mt => ?_)))
  obtain ⟨ns, i1, i2, i3, i4⟩ := mt
  have hz : its.length ≤ sizeLine := Nat.le_trans (Nat.le_trans i4 (Nat.le_of_lt hk)) (by decide)
  refine wpAny_bind (wpAny_newList ?_ hz)
  have g : (h1.push (seqObj "list" its.toArray 0)).get? h1.objs.size = some (seqObj "list" its.toArray 0) := Heap.get?_push_size _ rfl
  have no : s.heap.get? h1.objs.size = none := by
    cases c : s.heap.get? h1.objs.size with
    | none => rfl
    | some o => exact absurd (Heap.lt_size (keep _ _ c)) (Nat.lt_irrefl _)
  refine wpAny_bind (wpAny_holding (wpAny_call_entry (s := { s with heap := h1.push (seqObj "list" its.toArray 0), drawn := d, toks := tk }) slot_list_sort ⟨_, g, rfl⟩ entry_list_sort (list_sort_tree g i1 (by omega) fun out ns' a1 a2 a3 => ⟨_, rfl, ?_⟩) (args_list_sort _)))
  obtain ⟨e, ge⟩ := sortedHeap_at (out := out) g
  have nz : ns'.Nodup := a2.nodup_iff.mpr i2
  refine wpAny_pure ⟨_, rfl, h h1.objs.size _ d tk out e ns' (fun b o q => ?_) no ge a1 (lt_of_le_nodup a3 nz) (fun k => (a2.mem_iff).trans (i3 k)) (by have := a2.length_eq; have := IntsAre.len i1; omega)⟩
  have lb := Heap.lt_size (keep b o q)
  exact (sortedHeap_old (Nat.ne_of_lt lb) (by rw [Heap.size_push]; exact Nat.lt_succ_of_lt lb)).trans (Heap.get?_push_of_some _ (keep b o q))
def freshS (w : World) : Obj := { cls := .type "set", dict := none, data := .set #[] 0 (.fresh 0 0 (!w.params.followText "set-order")) }
theorem iset_fresh {h : Heap} {a : Addr} (g : h.get? a = some (freshS w)) : ISet prog w h a [] :=
  ⟨_, #[], 0, _, g, ⟨rfl, rfl, rfl⟩, rfl, (fun e he => by cases he), rfl, ⟨rfl, fun _ => List.Pairwise.nil⟩, (fun z => by show (!w.params.followText "set-order") = true; rw [z]; rfl), List.Pairwise.nil, (fun k => by simp), Nat.zero_le _⟩
theorem set_new1 (x : Value) {Q : Value → Shared → Prop} (h : Q (.ref s.heap.objs.size) { s with heap := s.heap.push (freshS w) }) :
    codeAny (model prog w) A (.call (.builtin "set.__new__") ⟨[.type "set", x], []⟩) (wants Q E) s := by
  refine codeAny_of_tree (show wpAny _ A.in1 (do checkBuiltinCall "set.__new__" ⟨[.type "set", x], []⟩; again (.builtin "set.__new__" ⟨[.type "set", x], []⟩)) _ _ s from ?_)
  refine wpAny_bind (wpAny_of_eq (PySem.F.newCall_set_1 x) (wpAny_pure ⟨plainId_quiet PySem.F.plain_set_new _, codeAny_builtin PySem.F.entry_set_new ?_⟩))
  rw [Around.under_plainId PySem.F.plain_set_new _]; unfold Builtin.«set.__new__» Builtin.Frozenset.newClass
  have sb := sub_set_self
  obtain ⟨hp, g, d, tk, os⟩ := s
  dsimp only; wp_walk
  refine wpAny_askSetting (wpAny_pure ?_); dsimp only; simp only [newObj]
  exact wpAny_bind (wpAny_alloc (wpAny_pure (wpAny_pure h)))
theorem call_iset {l : Addr} {items : Array Value} {ns : List Int} {Q : Value → Shared → Prop} (hh : A.handled = none) (hl : s.heap.IsList l items) (hi : IntsAre items.toList ns) (hb : items.size + 1 < scanBound)
    (h : ∀ (h' : Heap) (tk : Nat), ISet prog w h' s.heap.objs.size ((List.range items.size).map fun i => ns.getD i 0) → (∀ b o, s.heap.get? b = some o → h'.get? b = some o) → Q (.ref s.heap.objs.size) { s with heap := h', toks := tk }) :
    wpAny (model prog w) A (call (.type "set") [.ref l]) Q E s := by
  obtain ⟨c, tl, mr⟩ := PySem.F.called_set.mro
  have md := PySem.F.called_set.made
  have sb := PySem.F.called_set.sub
  refine wpAny_call (codeAny_of_tree (show wpAny _ _ (callAny (.type "set") _) _ _ _ from wpAny_pure ⟨Code.quiet_builtin _ (by decide +kernel), codeAny_builtin PySem.F.entry_type_call ?_⟩))
  rw [Around.under_plain (weight_type_call_type "set" [.ref l] []) rfl]
  have k1 := PySem.F.called_set.notType
  have k2 := PySem.F.called_set.canCreate
  have k3 := PySem.F.typeCall_set_1 (.ref l)
  repeat (any_goals (first | assumption | wp_step))
  refine codeAny_mono (set_new1 (.ref l) (E := E) (Q := fun ob s1 => ob = .ref s.heap.objs.size ∧ s1 = { s with heap := s.heap.push (freshS w) }) ⟨rfl, rfl⟩) fun r s1 hr => ?_
  cases r with
  | error e => exact hr
  | ok fl =>
    cases fl with
    | ret ob =>
      obtain ⟨rfl, rfl⟩ := hr
      have g0 : (s.heap.push (freshS w)).get? s.heap.objs.size = some (freshS w) := Heap.get?_push_size _ rfl
      have hT : Shared.TypeIs { s with heap := s.heap.push (freshS w) } (.ref s.heap.objs.size) "set" := ⟨_, g0, rfl⟩
      have u1 := PySem.F.called_set.init.lookup
      have u2 := PySem.F.called_set.init.bind (.ref s.heap.objs.size)
      repeat (any_goals (first | assumption | wp_step))
      refine codeAny_mono (codeAny_call_builtin (R := wants (fun r s2 => r = .none ∧ ∃ h' tk, s2 = { s with heap := h', toks := tk } ∧ ISet prog w h' s.heap.objs.size ((List.range items.size).map fun i => ns.getD i 0) ∧ (∀ b o, s.heap.get? b = some o → h'.get? b = some o)) E)
        PySem.F.called_set.init.plain PySem.F.entry_set_init (check_set_init_1 hT ?_)) fun r2 s2 hr2 => ?_
      · obtain ⟨ol, hol, hcl, nl, hdl⟩ := id hl
        obtain ⟨oc, od, oda, os⟩ := ol
        simp only at hcl hdl
        subst hcl; subst hdl
        have v1 : (s.heap.push (freshS w)).get? l = some { cls := .type "list", dict := od, data := .seq items nl, slots := os } := Heap.get?_push_of_some _ hol
        have v2 := PySem.F.sub_list_set
        have v3 := PySem.F.sub_list_frozenset
        have v4 : (Value.type "list" == Value.type "dict") = false := by decide
        have hl1 : (s.heap.push (freshS w)).IsList l items := ⟨_, v1, rfl, nl, rfl⟩
        have fd : (freshS w).data = .set #[] 0 (.fresh 0 0 (!w.params.followText "set-order")) := rfl
        unfold Builtin.«set.__init__» noKeywords Builtin.Frozenset.updateFrom
        generalize hPI : pyIter = PI
        wp_walk
        subst hPI
        refine wpAny_pyIter_list hl1 (wpAny_bind (wpAny_runValue ?_))
        have lS : l < s.heap.objs.size := Heap.lt_size hol
        have h3 : A.in1.in1.in1.handled = none := by simp [hh]
        have nI : l ≠ (s.heap.push (freshS w)).objs.size := by rw [Heap.size_push]; exact Nat.ne_of_lt (Nat.lt_succ_of_lt lS)
        have nS : s.heap.objs.size ∉ [(s.heap.push (freshS w)).objs.size, l] := by
          rw [Heap.size_push]; intro z
          simp only [List.mem_cons, List.not_mem_nil, or_false] at z
          rcases z with z | z
          · exact absurd z (Nat.ne_of_lt (Nat.lt_succ_self _))
          · exact absurd z (Nat.ne_of_gt lS)
        refine iset_loop ((Walks.list h3 _ l nI items).toS) s.heap.objs.size nS (fun i => ns.getD i 0) (fun i v hv => IntsAre.int_at hi i v (by rw [Array.getElem?_toList]; exact hv)) hb (items.size - 0) 0 _ (by omega) (Nat.zero_le _)
          ⟨⟨_, Heap.get?_push_size _ rfl, rfl, rfl⟩, (hl1.push _)⟩ (iset_fresh (Heap.get?_push_of_some _ g0)) fun s' hm hS' => ?_
        obtain ⟨h', g', d', tk', os'⟩ := s'
        have eg : g' = s.gens := hm.gens
        have ed : d' = s.drawn := hm.drawn
        have eo : os' = s.os := hm.os
        subst eg ed eo
        refine wpAny_pure (wpAny_pure ⟨rfl, h', tk', rfl, hS', fun b o e => ?_⟩)
        have lb := Heap.lt_size e
        refine hm.heap b o (fun z => ?_) (Heap.get?_push_of_some _ (Heap.get?_push_of_some _ e))
        simp only [List.mem_cons, List.not_mem_nil, or_false] at z
        rcases z with z | z
        · exact absurd z (Nat.ne_of_lt lb)
        · rw [Heap.size_push] at z
          exact absurd z (Nat.ne_of_lt (Nat.lt_succ_of_lt lb))
      · cases r2 with
        | error e => exact hr2
        | ok f2 =>
          cases f2 with
          | ret r =>
            obtain ⟨rfl, h', tk, rfl, hS', hk'⟩ := hr2
            repeat (any_goals (first | assumption | wp_step))
            exact h _ _ hS' hk'
          | _ => exact hr2.elim
    | _ => exact hr.elim
end
end L2

set_option Elab.async false
set_option linter.all false
set_option maxRecDepth 100000
set_option maxHeartbeats 4000000
namespace L2
open PySem PySem.Spec PyProof.Rows
theorem Inv.drawnTo {X : Cx} {pins : List (Addr × Obj)} {σ : St} {H : Hp} {s : Shared} (I : Inv X pins σ H s) (d : Drawn) : Inv X pins σ H { s with drawn := d } := ⟨I.ok, I.os, I.bare, I.base, I.loc, I.cell, I.free, I.freeC, I.pin, I.hok, I.len⟩
def setO (P : Program) (w : World) (a : Addr) (ks : List Int) : HO := .ext fun h => ISet P w h a ks
theorem setO_ok {P : Program} {w : World} {H : Hp} {h : Heap} {a : Addr} {ks : List Int} (x : ISet P w h a ks) : ObjOk P w H h a (setO P w a ks) :=
  ⟨x, let ⟨o, _, _, _, ho, _⟩ := id x; ⟨o, ho⟩, fun h1 h2 y k => ISet.keep (h := h1) y k⟩
theorem ints_vals : ∀ {ns : List Int} {us : List Value}, Vals (ns.map V.int) us → IntsAre us ns
  | [], _, .nil => .nil
  | n :: r, _, .cons (b := u) h t => by
    obtain ⟨tk, rfl⟩ := h
    exact .cons n tk (ints_vals t)
theorem vals_of_ints : ∀ {ns : List Int} {us : List Value}, IntsAre us ns → Vals (ns.map V.int) us
  | _, _, .nil => .nil
  | _, _, .cons n t h => .cons ⟨t, rfl⟩ (vals_of_ints h)
theorem call_setI {X : Cx} (hc : X.calm = true) : CallR X (.type "set") (fun xs H Q => ∃ (p : Addr) (ns : List Int), xs = [.ref p] ∧ SqL X.K H p (ns.map V.int) ∧ ns.length ≤ 1000 ∧ ∀ l, H l = none → Q (.ref l) (upd H l (setO X.prog X.w l ns))) := by
  intro pins s σ H xs us Q I r h
  obtain ⟨p, ns, rfl, hq, hl, q⟩ := h
  obtain ⟨u, rfl, rx⟩ := vals1 r
  cases rx
  obtain ⟨its, r', pl, hz⟩ := I.list hq
  have ia : IntsAre its ns := ints_vals r'
  have ln : its.length = ns.length := IntsAre.len ia
  refine call_iset (I.ok.hd hc) pl.isList (by simpa using ia) (by rw [List.size_toArray, ln]; show _ < 4096; omega) fun h' tk hS keep => ?_
  have e : (List.range its.toArray.size).map (fun i => ns.getD i 0) = ns := by
    rw [List.size_toArray, ln]
    refine List.ext_getElem (by simp) fun i h1 h2 => ?_
    simp [List.getD_eq_getElem?_getD, h2]
  rw [e] at hS
  exact ⟨.ref _, _, I.laid (t' := tk) keep (Nat.le_refl _) (setO_ok hS), rfl, q _ (I.hok.fresh (Nat.le_refl _))⟩
theorem call_sortedI {X : Cx} (hc : X.calm = true) : CallR X (.builtin "sorted") (fun xs H Q => ∃ (p : Addr) (ks : List Int), xs = [.ref p] ∧ H p = some (setO X.prog X.w p ks) ∧ ks.length < 64 ∧
    ∀ (l : Addr) (zs : List Int), H l = none → zs.Pairwise (· < ·) → (∀ k, k ∈ zs ↔ k ∈ ks) → zs.length ≤ ks.length → Q (.ref l) (upd H l (.lst (zs.map V.int)))) := by
  intro pins s σ H xs us Q I r h
  obtain ⟨p, ks, rfl, hp, hl, q⟩ := h
  obtain ⟨u, rfl, rx⟩ := vals1 r
  cases rx
  have hS : ISet X.prog X.w s.heap p ks := (I.hok p _ hp).1
  refine sorted_iset (I.ok.hd hc) hS hl fun D h' d tk out e zs keep no g ia pw mem le => ?_
  have hz : (zs.map V.int).length ≤ sizeLine := by
    rw [List.length_map]
    exact Nat.le_trans (Nat.le_trans le (Nat.le_of_lt hl)) (by decide)
  have new : ObjOk X.prog X.w (upd H D (.lst (zs.map V.int))) h' D (.lst (zs.map V.int)) := ⟨hz, out.toList, e, vals_of_ints ia, by rw [Array.toArray_toList]; exact g⟩
  exact ⟨.ref D, _, (I.laidN (t' := tk) keep no new).drawnTo d, rfl, q D zs (I.hasNo no) pw mem le⟩
end L2

set_option Elab.async false
set_option linter.all false
set_option maxRecDepth 100000
set_option maxHeartbeats 4000000
namespace L2
open PySem PySem.Spec PyProof.Rows
theorem ps_setc {X : Cx} {i0 : Nat} {x0 : Str} {pos' spos : Pos} {elt tg iter : Expr} {ifs : List Expr} {scope : Scope} {cl : List (Str × Addr)} {pos : Pos} {N : List Str} {fr : List (Option Nat)} {wi : TI} {g : TG} {tt : TT} {te : TE}
    (hN0 : X.N.Nodup) (hi0 : X.N[i0]? = some x0) (hx0 : Loc X.env.scope x0) (hc : X.calm = true) (hi : PI X tg iter wi) (hclos : closureFor scope X.env = pure cl) (hcell : ∀ y ∈ scope.names, y.2 ≠ .cell) (hkind : scope.kind = .function)
    (hnames : ∀ y ∈ scope.names, y.2 = .local → scope.names.lookup y.1 = some .local) (hfr : FreeOk X scope cl N fr) (hcl : ClOk X cl)
    (hhas : ((relabel scope X.env).names.all fun p => !(p.2 == .cell || p.2 == .free) || (cl.lookup p.1).isSome) = true)
    (hg : ∀ C s0 H0 ex pins, PG (compCx X N scope cl C s0 H0 ex pins) tg g) (ht : ∀ C s0 H0 ex pins, PTs (compCx X N scope cl C s0 H0 ex pins) ifs tt) (he : ∀ C s0 H0 ex pins, PE (compCx X N scope cl C s0 H0 ex pins) elt te)
    (hsw : swapsWith (.ListComp elt [⟨tg, iter, ifs, 0⟩] scope pos) (some (.Name x0 pos')) spos.line X.env = pure true := by rfl) (hf0 : X.fn x0 = true ∨ X.env.scope.names.lookup x0 = some .local := by first | exact .inl rfl | exact .inr rfl)
    (hs : ∀ v, foldedSetIterable iter X.env v = pure v := by intro _; rfl) : PS X (.Assign [.Name x0 pos'] (.ListComp elt [⟨tg, iter, ifs, 0⟩] scope pos) spos) (tAsg (tComp fr wi g tt te) (gName i0)) := by
  intro pins s σ H D0 I h
  rw [exec_Assign_Name_used _ _ _ _ hsw]
  refine wpAny_bind (wpAny_standAt (wpAny_bind ?_))
  show wpAny _ _ (do let _ ← comprehension (.ListComp elt [⟨tg, iter, ifs, 0⟩] scope pos) scope X.env _ (newList []) false (eval iter X.env) (some (assign (.Name x0 pos') X.env))) _ _ s
  refine wpAny_bind (thn (wpAny_comprehension_free (use := some (assign (.Name x0 pos') X.env)) (Q := fun _ s' => SP X pins D0 .next s') rfl hs hclos hkind hnames (thn (hi pins s σ H _ I h) fun xv s1 h1 => thn h1 fun itv s2 h2 => ?_)) fun _ s' hq => wpAny_pure (wpAny_pure hq))
  obtain ⟨it, fp, tn, J, H2, e, I2, T, st2, f2, W, ⟨m0, w0⟩, turn⟩ := h2
  subst e
  refine wpAny_newObj_type (wpAny_newFunctionEnv hcell (fun y hy => nomatch hy) (fun h4 hns hsb => ?_) hkind)
  dsimp only at hns hsb ⊢
  generalize hD : s2.heap.objs.size = D at *
  generalize hG : s2.heap.push { cls := .type "list", dict := none, data := .seq ([] : List Value).toArray } = G at hns hsb ⊢
  have hC : G.objs.size = D + 1 := by rw [← hG, Heap.size_push, hD]
  generalize hCC : G.objs.size = C at hns hsb hC ⊢
  subst hC
  have old : ∀ b o, s2.heap.get? b = some o → h4.get? b = some o := fun b o e => by
    have lt := Heap.lt_size e
    rw [hD] at lt
    exact hsb.extBut b o (Nat.ne_of_lt (Nat.lt_succ_of_lt lt)) (Heap.get?_push_of_some _ (hG ▸ Heap.get?_push_of_some _ e))
  have hDl : h4.get? D = some { cls := .type "list", dict := none, data := .seq ([] : List Value).toArray 0 } :=
    hsb.extBut _ _ (Nat.ne_of_lt (Nat.lt_succ_self _)) (Heap.get?_push_of_some _ (hG ▸ hD ▸ Heap.get?_push_size _ rfl))
  have flt : ∀ b ∈ fp, b < D := fun b hb => by
    obtain ⟨o, e, _⟩ := T.obj 0 _ st2 b hb
    have lt := Heap.lt_size e
    rw [hD] at lt
    exact lt
  have nst : ∀ b, b ≠ X.env.locals → b ∉ X.fs → b ∉ frs X.stack := fun b h1 h2 z => (List.mem_cons.mp (I2.stkSub b z)).elim h1 h2
  have pl : ∀ p ∈ X.pn ++ pins, p.1 < D := fun p hp => by
    have lt := Heap.lt_size (I2.pin p hp).1
    rw [hD] at lt
    exact lt
  have I4 : ∀ tk, Inv (compCx X N scope cl (D + 1) s2 H2 fp pins) [] (compSt fr σ) H2 { s2 with heap := h4, toks := tk } := fun tk =>
    I2.block hkind hfr hcl hhas f2 (fun b hb => by rw [hD]; exact flt b hb) old (by rw [hD]; exact Nat.le_succ _) hns
  have stat : ∀ {H' : Hp} {o : Obj}, (∀ b ∈ fp, H' b = none) → ∀ b ∈ fp, FpOk (compCx X N scope cl (D + 1) s2 H2 fp pins) [(D, o)] H' b := fun {H' o} hn b hb => by
    obtain ⟨_, k1, k2, _, k4, k5⟩ := f2 b hb
    refine ⟨hn b hb, Nat.ne_of_lt (Nat.lt_succ_of_lt (flt b hb)), nst b k1 k2, .inl hb, fun x c e => k4 x c (hcl.at e), fun p hp => ?_⟩
    rcases List.mem_append.mp hp with hp | hp
    · exact k5 p hp
    · rw [List.mem_singleton.mp hp]
      exact (Nat.ne_of_lt (flt b hb)).symm
  have dnf : D ∉ frs X.stack := fun z => by
    obtain ⟨_, o, e, _⟩ := I2.stack.mem z
    have lt := Heap.lt_size e
    rw [hD] at lt
    exact absurd lt (Nat.lt_irrefl _)
  have loop : ∀ tk, codeAny (model X.prog X.w) X.A (.compLoop (.ListComp elt [⟨tg, iter, ifs, 0⟩] scope pos) 0 (.ref it) (.ref D) (compEnvC scope cl (D + 1) X.env)) (compPost (model X.prog X.w) X.A X.xe (some (assign (.Name x0 pos') X.env)) (fun _ s' => SP X pins D0 .next s') (.ref D) (D + 1)) { s2 with heap := h4, toks := tk } := fun tk => by
    refine comp_turns (fun k s' => ∃ i σ' H' its nD acc, Inv (compCx X N scope cl (D + 1) s2 H2 fp pins) [] σ' H' s' ∧
        s'.heap.get? D = some { cls := .type "list", dict := none, data := .seq (List.toArray its) nD } ∧ H' D = none ∧ Vals acc its ∧ acc.length ≤ sizeLine ∧ tn i s'.heap ∧ (∀ b ∈ fp, H' b = none) ∧ W i k acc σ' H') ?_ m0
      ⟨0, _, H2, [], 0, [], I4 tk, hDl, I2.hok.fresh (by rw [hD]; exact Nat.le_refl _), .nil, Nat.zero_le _, T.keep 0 _ _ st2 fun b _ o e => old b o e, fun b hb => (f2 b hb).1, w0⟩
    rintro k s5 ⟨i, σ5, H5, its, nD, acc, I5, hL, hn5, va, hacc, st5, fr5, w5⟩
    have dcell : ∀ x c, cl.lookup x = some c → c ≠ D := fun x c e z => by
      obtain ⟨v, q⟩ := I2.cell x c (hcl.at e)
      have lt := q.lt
      rw [hD, z] at lt
      exact absurd lt (Nat.lt_irrefl _)
    have I5' : Inv (compCx X N scope cl (D + 1) s2 H2 fp pins) [(D, { cls := .type "list", dict := none, data := .seq (List.toArray its) nD })] σ5 H5 s5 := I5.pins_of fun p hp => by
      rw [List.mem_singleton.mp hp]
      exact ⟨hL, hn5, Nat.ne_of_lt (Nat.lt_succ_self _), dnf, fun v z => by cases z⟩
    rcases turn i k acc σ5 H5 w5 with ⟨stop, qn⟩ | ⟨go, hlt, N1, hN1, step⟩
    · refine thnF (T.done (compCx X N scope cl (D + 1) s2 H2 fp pins) rfl rfl rfl hc i _ s5 _ H5 _ I5' (stat fr5) st5 stop) fun r s6 ⟨hr, I6⟩ => ?_
      subst hr
      obtain ⟨m6, hn6, _⟩ := I6.loc
      have hL6 := (I6.pin (D, { cls := .type "list", dict := none, data := .seq (List.toArray its) nD }) (List.mem_append_right _ (List.mem_singleton.mpr rfl))).1
      have I8 : Inv X pins σ H5 s6 := I2.call' (s' := s6) I6.os I6.base I6.hok I6.bare fun b hb => let ⟨_, k1, _, k3, k4, k5⟩ := f2 b hb; ⟨k3, k1, k4, k5⟩
      have I9 : Inv X pins σ (upd H5 D (.lst acc)) s6 := I8.trackS hn5 hL6 rfl (by
          cases z : X.s₀.heap.get? D with
          | none => rfl
          | some o =>
            have lt := Nat.lt_of_lt_of_le (Heap.lt_size z) I2.sz
            rw [hD] at lt
            exact absurd lt (Nat.lt_irrefl _)) (fun p hp => Nat.ne_of_lt (pl p hp)) ⟨hacc, its, nD, va, hL6⟩
      have ltL : X.env.locals < D + 1 := by
        have := I2.lt
        rw [hD] at this
        exact Nat.lt_succ_of_lt this
      have ltC : ∀ x c, X.env.cells.lookup x = some c → c < D + 1 := fun x c e => by
        obtain ⟨v, q⟩ := I2.cell x c e
        have lt := q.lt
        rw [hD] at lt
        exact Nat.lt_succ_of_lt lt
      refine wpAny_assign_Name (store_ok2 (v := .ref D) I9 hN0 hi0 hx0 rfl (fun s7 I10 hz => ?_) hf0)
      obtain ⟨aa, sb, ha⟩ := hz
      have nC : D + 1 ≠ aa := by
        rcases ha with rfl | ha
        · exact Nat.ne_of_gt ltL
        · exact Nat.ne_of_gt (ltC _ _ ha)
      refine ⟨m6, hn6.sameBut sb nC, fun h8 hs8 => ⟨_, _, I10.turned (h' := h8) (t' := s7.toks) (fun b o hb e => hs8.extBut b o hb e) ?_ (Nat.ne_of_gt ltL) (.inr ?_) (fun x c e => Nat.ne_of_lt (ltC x c e)) (fun p hp => Nat.ne_of_lt (Nat.lt_succ_of_lt (pl p hp))), qn D hn5⟩⟩
      · rw [upd_ne (Nat.ne_of_gt (Nat.lt_succ_self D))]
        exact I6.free
      · have := I2.sz
        rw [hD] at this
        exact Nat.le_succ_of_le this
    · refine thnF (T.item (compCx X N scope cl (D + 1) s2 H2 fp pins) rfl rfl rfl hc i _ s5 _ H5 _ I5' (stat fr5) st5 go) fun r s6 ⟨u, hr, h6⟩ => ?_
      subst hr
      refine thnF h6 fun _ s7 ⟨x, H7, I7, r7, y7, st7, fr7⟩ => ?_
      have I7' : Inv (compCx X N scope cl (D + 1) s2 H2 fp pins) ([(D, { cls := .type "list", dict := none, data := .seq (List.toArray its) nD })] ++ pinsAt fp s7.heap) σ5 H7 s7 := I7.pinned (stat fr7) (T.obj _ _ st7)
      refine thnF (hg _ _ _ _ _ _ s7 _ H7 x u _ I7' r7 (step x H7 y7)) fun _ s8 ⟨σ8, H8, I8, q8⟩ => ?_
      refine thnF (ht _ _ _ _ _ _ s8 σ8 H8 _ I8 q8) fun ok s9 ⟨H9, I9, q9⟩ => ?_
      have wk : ∀ {σ' : St} {H' : Hp} {s' : Shared}, Inv (compCx X N scope cl (D + 1) s2 H2 fp pins) ([(D, { cls := .type "list", dict := none, data := .seq (List.toArray its) nD })] ++ pinsAt fp s7.heap) σ' H' s' →
          tn (i + 1) s'.heap ∧ (∀ b ∈ fp, H' b = none) ∧ s'.heap.get? D = some { cls := .type "list", dict := none, data := .seq (List.toArray its) nD } ∧ H' D = none := fun {σ' H' s'} J' => by
        have pin : ∀ p ∈ ([(D, { cls := .type "list", dict := none, data := .seq (List.toArray its) nD })] : List (Addr × Obj)) ++ pinsAt fp s7.heap, s'.heap.get? p.1 = some p.2 ∧ H' p.1 = none := fun p hp => let ⟨e, n, _⟩ := J'.pin p (List.mem_append_right _ hp); ⟨e, n⟩
        refine ⟨T.keep _ _ _ st7 fun b hb o e => (pin (b, o) (List.mem_append_right _ (mem_pinsAt hb e))).1, fun b hb => ?_, (pin (D, _) (List.mem_append_left _ (List.mem_singleton.mpr rfl))).1, (pin (D, _) (List.mem_append_left _ (List.mem_singleton.mpr rfl))).2⟩
        obtain ⟨o, e, _⟩ := T.obj _ _ st7 b hb
        exact (pin (b, o) (List.mem_append_right _ (mem_pinsAt hb e))).2
      cases ok with
      | false =>
        obtain ⟨m', hm, w9⟩ := hN1 _ _ _ q9
        obtain ⟨k1, k2, k3, k4⟩ := wk I9
        exact ⟨m', hm, i + 1, σ8, H9, its, nD, acc, I9.pins_of (fun _ z => nomatch z), k3, k4, va, hacc, k1, k2, w9⟩
      | true =>
        refine thnF (he _ _ _ _ _ _ s9 σ8 H9 _ I9 q9) fun y s10 ⟨v, H10, I10, r10, q10⟩ => ?_
        obtain ⟨m', hm, w10⟩ := hN1 _ _ _ q10
        obtain ⟨k1, k2, k3, k4⟩ := wk I10
        refine call_meets F.slot_list_append ⟨_, k3, rfl⟩ F.entry_list_append (F.args_list_append_2 _ _) (PySem.list_append D its.toArray nD y (by rw [List.size_toArray, ← va.length]; omega)) ⟨k3, ?_⟩
        have up : ∀ b o, b ≠ D → s10.heap.get? b = some o → (s10.heap.update D (Obj.mapSeq fun z => z.push y)).get? b = some o := fun b o hb e => (Heap.get?_update_other s10.heap _ (Ne.symm hb)).trans e
        have I11 : Inv (compCx X N scope cl (D + 1) s2 H2 fp pins) [] σ8 H10 { s10 with heap := s10.heap.update D (Obj.mapSeq fun z => z.push y), toks := s10.toks } :=
          (I10.pins_of (pins' := []) fun _ z => nomatch z).turned up k4 (Nat.ne_of_lt (Nat.lt_succ_self _)) (.inr (by rw [hD]; exact Nat.le_refl _)) dcell fun p hp => by
            have hp' : p ∈ X.pn ++ pins := by simpa using hp
            exact Nat.ne_of_lt (pl p hp')
        have q := PySem.IsL.update k3 (fun z => z.push y)
        rw [show (List.toArray its).push y = (its ++ [y]).toArray by simp] at q
        refine ⟨m', hm, i + 1, σ8, H10, its ++ [y], _, acc ++ [v], I11, q, k4, va.append (.cons r10 .nil), ?_, T.keep _ _ _ k1 fun b hb o e => up b o (Nat.ne_of_lt (flt b hb)) e, k2, w10⟩
        rw [List.length_append, List.length_singleton]
        omega
  exact codeAny_compStart_list (loop _) (T.self _ 0 _ _ _ (T.keep 0 _ _ st2 fun b _ o e => old b o e) (loop _))
end L2

set_option Elab.async false
set_option linter.all false
set_option maxRecDepth 100000
set_option maxHeartbeats 4000000
namespace K1
open PySem L2
structure Rsg (l : List Nat) (lo hi : Nat) : Prop where
  one : 1 ≤ l.length
  few : l.length ≤ 12
  up : l.Pairwise (· < ·)
  all : ∀ x ∈ l, lo ≤ x ∧ x ≤ hi
def RT.good : RT → Prop
  | .always => True
  | .week b => b ≤ 127
  | .span a b r => a ≤ b ∧ b ≤ 9999 ∧ r.good
  | .each n ss => 1 ≤ n ∧ n ≤ 28 ∧ Rsg ss 0 (n - 1)
  | .either r s | .both r s => r.good ∧ s.good
  | .but ds r => Rsg ds 0 9999 ∧ r.good
structure OwnC (K : PySem.W.Frag) (C : Addr) : Prop where
  ha : PySem.W.findIn K (.ref C) "__class__" = some (some (.builtin "object.__class__"))
  hn : PySem.W.specialIn K (.builtin "object.__class__") "__get__" = some (some (.builtin "getset_descriptor.__get__"))
  tk : PySem.W.takesIn K (.builtin "object.__class__") = some true
  hm : PySem.W.mroIn K C (.type "object") = some true
theorem OwnC.ty {K : PySem.W.Frag} {C : Addr} (o : OwnC K C) (c : Cls K C) {H : Hp} {a dx : Addr} {fs : List (Str × V)} (e : H a = some (.ins C dx fs)) : TyOf K H (.ref a) (.ref C) := .ins e c o.ha o.hn o.tk o.hm
def dif (H' H : Hp) : Hp := fun a => match H a with
  | none => H' a
  | some _ => none
theorem dif_at {H' H : Hp} {a : Addr} {o : HO} (n : H a = none) (e : H' a = some o) : dif H' H a = some o := by
  unfold dif; rw [n]; exact e
theorem dif_of {H' H : Hp} {a : Addr} {o : HO} (e : dif H' H a = some o) : H a = none ∧ H' a = some o := by
  unfold dif at e
  cases h : H a with
  | none => rw [h] at e; exact ⟨rfl, e⟩
  | some u => rw [h] at e; cases e
theorem dif_sub (H' H : Hp) : Same (dif H' H) H' := fun _ _ e => (dif_of e).2
theorem dif_mono {H0 H H' H2 : Hp} (s0 : Same H0 H) (s1 : ∀ a o, H a = none → H' a = some o → H2 a = some o) : Same (dif H' H) (dif H2 H0) := fun a o e =>
  dif_at (s0.free (dif_of e).1) (s1 a o (dif_of e).1 (dif_of e).2)
theorem same_upd {H0 H : Hp} {x : Addr} (n : H0 x = none) (s : Same H0 H) (o : HO) : Same H0 (upd H x o) := fun b u e => by
  rw [upd_ne (ne_of_none e n)]; exact s _ _ e
theorem num_ok {b : Nat} {lo hi : Int} (h1 : lo ≤ b) (h2 : (b : Int) ≤ hi) : numV (.int (b : Nat)) lo hi = true := decide_eq_true ⟨h1, h2⟩
inductive TAtr (tp : Addr) (H : Hp) : V → RT → Prop
  | always {a : Addr} (h : H a = some (.tup [.str (Str.ofString "always")])) : TAtr tp H (.ref a) .always
  | week {a : Addr} {b : Nat} (h : H a = some (.tup [.str (Str.ofString "week"), .int (b : Nat)])) : TAtr tp H (.ref a) (.week b)
  | span {a : Addr} {x y : Nat} {v : V} {r : RT} (h : H a = some (.tup [.str (Str.ofString "span"), .int (x : Nat), .int (y : Nat), v])) (hv : TAtr tp H v r) : TAtr tp H (.ref a) (.span x y r)
  | each {a l : Addr} {n : Nat} {ss : List Nat} (h : H a = some (.tup [.str (Str.ofString "each"), .int (n : Nat), .ref l])) (hl : H l = some (.lst (natV ss))) (ne : l ≠ tp) : TAtr tp H (.ref a) (.each n ss)
  | either {a : Addr} {v u : V} {r s : RT} (h : H a = some (.tup [.str (Str.ofString "either"), v, u])) (hv : TAtr tp H v r) (hu : TAtr tp H u s) : TAtr tp H (.ref a) (.either r s)
  | both {a : Addr} {v u : V} {r s : RT} (h : H a = some (.tup [.str (Str.ofString "both"), v, u])) (hv : TAtr tp H v r) (hu : TAtr tp H u s) : TAtr tp H (.ref a) (.both r s)
  | but {a l : Addr} {ds : List Nat} {v : V} {r : RT} (h : H a = some (.tup [.str (Str.ofString "but"), .ref l, v])) (hl : H l = some (.lst (natV ds))) (ne : l ≠ tp) (hv : TAtr tp H v r) : TAtr tp H (.ref a) (.but ds r)
theorem TAtr.keep {tp : Addr} {H H' : Hp} (k : ∀ b o, b ≠ tp → H b = some o → H' b = some o) (nt : ∀ xs, H tp ≠ some (.tup xs)) {v : V} {r : RT} (h : TAtr tp H v r) : TAtr tp H' v r := by
  have q : ∀ {a xs}, H a = some (.tup xs) → H' a = some (.tup xs) := fun {a xs} e => k _ _ (fun z => by rw [z] at e; exact nt _ e) e
  induction h with
  | always h => exact .always (q h)
  | week h => exact .week (q h)
  | span h _ ih => exact .span (q h) ih
  | each h hl ne => exact .each (q h) (k _ _ ne hl) ne
  | either h _ _ i1 i2 => exact .either (q h) i1 i2
  | both h _ _ i1 i2 => exact .both (q h) i1 i2
  | but h hl ne _ ih => exact .but (q h) (k _ _ ne hl) ne ih
theorem TAtr.same {tp : Addr} {H H' : Hp} (s : Same H H') {v : V} {r : RT} (h : TAtr tp H v r) : TAtr tp H' v r := by
  induction h with
  | always h => exact .always (s _ _ h)
  | week h => exact .week (s _ _ h)
  | span h _ ih => exact .span (s _ _ h) ih
  | each h hl ne => exact .each (s _ _ h) (s _ _ hl) ne
  | either h _ _ i1 i2 => exact .either (s _ _ h) i1 i2
  | both h _ _ i1 i2 => exact .both (s _ _ h) i1 i2
  | but h hl ne _ ih => exact .but (s _ _ h) (s _ _ hl) ne ih
theorem tape_tup {H : Hp} {tp : Addr} {ys : List V} (h : H tp = some (.lst ys)) (xs : List V) : H tp ≠ some (.tup xs) := fun e => by rw [h] at e; cases e
theorem TAtr.bump {tp : Addr} {k : Int} {ys : List V} {H H' : Hp} (ht : H tp = some (.lst ys)) (b : Bump tp k H H') {v : V} {r : RT} (h : TAtr tp H v r) : TAtr tp H' v r := h.keep b.keep (tape_tup ht)
theorem RAt.bump {c : RC} {K : PySem.W.Frag} {tp : Addr} {k : Int} {ys : List V} {H H' : Hp} (ht : H tp = some (.lst ys)) (b : Bump tp k H H') {a : Addr} {r : RT} (h : RAt c K H a r) : RAt c K H' a r := by
  have q : ∀ {x C dx fs}, H x = some (.ins C dx fs) → H' x = some (.ins C dx fs) := fun {x C dx fs} e => b.keep _ _ (fun z => by rw [z, ht] at e; cases e) e
  have qt : ∀ {p xs}, SqT K H p xs → SqT K H' p xs := fun {p xs} e => e.imp (fun r => r.imp (fun e => b.keep _ _ (fun z => by rw [z, ht] at e; cases e) e) (fun ⟨o, e⟩ => ⟨o, b.keep _ _ (fun z => by rw [z, ht] at e; cases e) e⟩)) id
  induction h with
  | always h => exact .always (q h)
  | week h hb => exact .week (q h) hb
  | span h hx hy _ ih => exact .span (q h) hx hy ih
  | each h hn hn2 hp => exact .each (q h) hn hn2 (qt hp)
  | either h _ _ i1 i2 => exact .either (q h) i1 i2
  | both h _ _ i1 i2 => exact .both (q h) i1 i2
  | but h hp _ ih => exact .but (q h) (qt hp) ih
end K1
namespace L2
open PySem PySem.Spec PyProof.Rows
end L2
namespace K1
open PySem L2
def Fst (f : Nat → Bool) (lo n : Nat) : Option Nat → Prop
  | none => ∀ j, j < n → f (lo + j) = false
  | some x => ∃ i, i < n ∧ x = lo + i ∧ f (lo + i) = true ∧ ∀ j, j < i → f (lo + j) = false
theorem Fst.one {f g : Nat → Bool} {lo n m : Nat} {x y : Option Nat} (h : Fst f lo n x) (h' : Fst g lo m y) (fg : ∀ j, j < n → j < m → f (lo + j) = g (lo + j)) (fn : ∀ j, m ≤ j → j < n → f (lo + j) = false) (gm : ∀ j, n ≤ j → j < m → g (lo + j) = false) : x = y := by
  cases x with
  | none =>
    cases y with
    | none => rfl
    | some y =>
      obtain ⟨i, hi, rfl, hy, _⟩ := h'
      by_cases c : i < n
      · have := h i c
        rw [fg i c hi, hy] at this
        cases this
      · rw [gm i (by omega) hi] at hy
        cases hy
  | some x =>
    obtain ⟨i, hi, rfl, hx, hb⟩ := h
    have im : i < m := by
      by_cases c : i < m
      · exact c
      · rw [fn i (by omega) hi] at hx
        cases hx
    rw [fg i hi im] at hx
    cases y with
    | none =>
      rw [h' i im] at hx
      cases hx
    | some y =>
      obtain ⟨j, hj, rfl, hy, hc⟩ := h'
      have e : i = j := by
        rcases Nat.lt_trichotomy i j with c | c | c
        · rw [hc i c] at hx; cases hx
        · exact c
        · have jn : j < n := by omega
          rw [← fg j jn hj, hb j c] at hy
          cases hy
      rw [e]
end K1

set_option Elab.async false
set_option linter.all false
set_option maxRecDepth 100000
set_option maxHeartbeats 4000000
namespace L2
open PySem PySem.Spec PyProof.Rows
theorem strs_of : ∀ {ts : List Str} {us : List Value}, Vals (ts.map V.str) us → ∃ l : List (Str × Tok), us = strValues l ∧ l.map (·.1) = ts
  | [], _, .nil => ⟨[], rfl, rfl⟩
  | t :: r, _, .cons (b := u) h q => by
    obtain ⟨tk, rfl⟩ := h
    obtain ⟨l, rfl, e⟩ := strs_of q
    exact ⟨(t, tk) :: l, rfl, by rw [List.map_cons, e]⟩
theorem fold_le (n : Nat) : ∀ (ts : List Str) (k : Nat), ts.foldl (fun a x => a + x.length + n) k = k + (ts.map fun x => x.length + n).sum
  | [], k => by simp
  | t :: r, k => by
    rw [List.foldl_cons, fold_le n r, List.map_cons, List.sum_cons]
    omega
theorem sum_len (n : Nat) : ∀ ts : List Str, (ts.map fun x => x.length + n).sum = (ts.map (·.length)).sum + ts.length * n
  | [] => by simp
  | y :: r => by
    have ih := sum_len n r
    simp only [List.map_cons, List.sum_cons, List.length_cons, Nat.succ_mul]
    omega
def rJoin (K : PySem.W.Frag) : V → List V → Hp → VK → Prop := fun x xs H Q => ∃ (z : Str) (p : Addr) (ts : List Str), x = .str z ∧ xs = [.ref p] ∧ SqL K H p (ts.map V.str) ∧ (ts.map fun x => x.length + z.length).sum ≤ sizeLine ∧ Q (.str (Str.join z ts)) H
theorem mt_join {X : Cx} : MtR X "str.join" (rJoin X.K) := by
  intro pins s σ H x xs v us Q I rx r h
  obtain ⟨z, p, ts, rfl, rfl, hq, hz, q⟩ := h
  obtain ⟨t, rfl⟩ := rx
  obtain ⟨u, rfl, e⟩ := vals1 r
  cases e
  obtain ⟨its, r', pl, _⟩ := I.list hq
  obtain ⟨l, rfl, el⟩ := strs_of r'
  have hl : Builtin.Str.tooLong ((l.map (·.1)).toArray.foldl (· + ·.length + z.length) 0) = false := by
    rw [el, List.foldl_toArray, fold_le]
    unfold Builtin.Str.tooLong
    exact decide_eq_false (by omega)
  refine call_meets F.slot_str_join (typeIs_str _ _ _) F.entry_str_join (F.args_str_join_2 _ _) (meets_str_join_list z t p l hl) ⟨pl.isList, ?_⟩
  have ej : Builtin.Str.glued z (l.map (·.1)) = Str.join z ts := by rw [el]; exact StrLaws.glued_eq_join z ts
  have le : (Str.join z ts).length ≤ sizeLine := by
    have h1 := StrLaws.join_length_le z ts
    have h2 := sum_len z.length ts
    omega
  have many : ∀ (m : Made), m = .str (Builtin.Str.glued z (l.map (·.1))) → m.post (fun v s' => wants (EP X pins σ Q) X.xe (.ok (.ret v)) s') s := fun m e => by
    subst e
    refine ⟨by rw [ej]; exact le, ?_⟩
    rw [ej]
    exact ⟨.str _, H, I.tok _, ⟨_, rfl⟩, q⟩
  match l, el, many with
  | [], el, many => exact many _ rfl
  | [y], el, many =>
    obtain ⟨yz, yt⟩ := y
    have e2 : Str.join z ts = yz := by rw [← el]; rfl
    rw [e2] at q
    exact ⟨.str yz, H, I, ⟨yt, rfl⟩, q⟩
  | y :: y2 :: r2, el, many => exact many _ rfl
end L2

set_option Elab.async false
set_option linter.all false
set_option maxRecDepth 100000
set_option maxHeartbeats 4000000
namespace K1
open PySem L2
def numT (n : Nat) : Str := Str.ofString (toString ((n : Nat) : Int))
def lstT (ss : List Nat) : Str := Str.join (Str.ofString ",") (ss.map numT)
def bitT (b d : Nat) : Str := if (RT.week b).runs d then Str.ofString "1" else Str.ofString "0"
def signT (b : Nat) : Str := Str.join (Str.ofString "") ((List.range 7).map (bitT b))
def RT.words : RT → List Str
  | .always => [Str.ofString "always"]
  | .week b => [Str.ofString "week", signT b]
  | .span a b r => [Str.ofString "span", numT a, numT b] ++ r.words
  | .each n ss => [Str.ofString "each", numT n, lstT ss]
  | .either r s => [Str.ofString "either"] ++ r.words ++ s.words
  | .both r s => [Str.ofString "both"] ++ r.words ++ s.words
  | .but ds r => [Str.ofString "but", lstT ds] ++ r.words
theorem RT.words_len : ∀ r : RT, r.words.length ≤ 3 * r.weight
  | .always | .week _ | .each _ _ => by simp [RT.words, RT.weight]
  | .span a b r => by
    have := RT.words_len r
    simp only [RT.words, RT.weight, List.length_append, List.length_cons, List.length_nil]
    omega
  | .but ds r => by
    have := RT.words_len r
    simp only [RT.words, RT.weight, List.length_append, List.length_cons, List.length_nil]
    omega
  | .either r s | .both r s => by
    have h1 := RT.words_len r
    have h2 := RT.words_len s
    simp only [RT.words, RT.weight, List.length_append, List.length_cons, List.length_nil]
    omega
theorem log_num {n : Nat} (h : n < 10000) : (((n : Nat) : Int).natAbs).log2 < 1920 := by
  rw [Int.natAbs_natCast]
  by_cases h0 : n = 0
  · subst h0; decide
  · exact Nat.lt_trans ((Nat.log2_lt h0 (k := 14)).mpr (Nat.lt_trans h (by decide))) (by decide)
theorem num_len {n : Nat} (h : n < 10000) : (numT n).length ≤ 4 := by
  have := (day_facts h _ rfl).2.1
  rw [str_len] at this
  exact this
theorem join_room {z : Str} {ts : List Str} {m : Nat} (hz : z.length ≤ 1) (hm : ts.length ≤ 20) (h : ∀ x ∈ ts, x.length ≤ 10) : (ts.map fun x => x.length + z.length).sum ≤ sizeLine := by
  have key : ∀ l : List Str, (∀ x ∈ l, x.length ≤ 10) → (l.map fun x => x.length + z.length).sum ≤ 11 * l.length := by
    intro l
    induction l with
    | nil => intro _; simp
    | cons y r ih =>
      intro h
      have h1 := h y List.mem_cons_self
      have h2 := ih fun x hx => h x (List.mem_cons_of_mem _ hx)
      simp only [List.map_cons, List.sum_cons, List.length_cons]
      omega
  have := key ts h
  exact Nat.le_trans (show _ ≤ 1000 by omega) (by decide)
end K1

set_option Elab.async false
set_option linter.all false
set_option maxRecDepth 100000
set_option maxHeartbeats 600000
namespace L2
open PySem PySem.Spec PyProof.Rows
theorem maxl_loop {prog : Program} {w : World} {A : Around} {R : Result → Shared → Prop} {I : Addr} {fp wr : List Addr} {n : Nat} {P : Nat → Value → Prop} {St : Nat → Heap → Prop} {g : Nat → Int}
    (W : Walks prog w A.in1 I fp wr n P St) (hg : ∀ i v, P i v → ∃ t, v = .int (g i) t) {S : Addr} (out : S ∉ fp) :
    ∀ (l : List Int) (j : Nat) (s : Shared) (b : Option Int), (b ≠ none ∨ l ≠ []) → j + l.length = n → (∀ i y, l[i]? = some y → y = g (j + i)) → St j s.heap → MxAt S s.heap b →
    (∀ v h' tk, MxRes .none (mxL b l) v → (∀ a o, a ∉ wr → a ≠ S → s.heap.get? a = some o → h'.get? a = some o) → R (.ok (.ret v)) { s with heap := h', toks := tk }) →
    codeAny (model prog w) A (.builtin "max.loop" ⟨[.ref I, .none, .ref S], []⟩) R s := by
  have out2 : S ∉ wr := fun z => out (W.sub _ z)
  have nme : (toString "max" ++ toString ".loop" : String) = "max.loop" := by decide
  intro l
  induction l with
  | nil =>
    intro j s b hb hj hl st m q
    obtain rfl : j = n := hj
    obtain ⟨vs, c, e, z⟩ := id m
    apply codeAny_builtin PySem.F.entry_max_loop
    rw [Around.under_plainId PySem.F.plain_max_loop]
    apply wpAny_bind
    apply wpAny_seqItems e rfl
    apply wpAny_bind
    apply wpAny_tryCatch
    apply W.done s _ _ st
    intro h' tk k
    cases b with
    | none => exact (hb.elim (fun z => z rfl) fun z => z rfl).elim
    | some x =>
      obtain ⟨t, rfl⟩ := z
      apply wpAny_bind
      refine wpAny_updateSeq (k S _ out2 e) rfl ?_
      apply wpAny_bind
      apply wpAny_letGo
      apply wpAny_pure
      exact q _ _ tk ⟨t, rfl⟩ fun a o h1 h2 h3 => (Heap.get?_update_other _ _ (Ne.symm h2)).trans (k a o h1 h3)
  | cons y l ih =>
    intro j s b hb hj hl st m q
    obtain ⟨vs, c, e, z⟩ := id m
    have hj2 : j < n := by rw [← hj, List.length_cons]; omega
    have ey : y = g j := hl 0 y rfl
    apply codeAny_builtin PySem.F.entry_max_loop
    rw [Around.under_plainId PySem.F.plain_max_loop]
    apply wpAny_bind
    apply wpAny_seqItems e rfl
    apply wpAny_bind
    apply wpAny_tryCatch
    apply W.item j s _ _ hj2 st
    intro v h' tk pv st' k
    obtain ⟨tv, rfl⟩ := hg j v pv
    have e' := k S _ out2 e
    have next : ∀ (h2 : Heap), MxAt S h2 (some (mxB b y)) → (∀ a o, a ≠ S → h'.get? a = some o → h2.get? a = some o) → codeAny (model prog w) A (.builtin "max.loop" ⟨[.ref I, .none, .ref S], []⟩) R { s with heap := h2, toks := tk } := fun h2 m2 k2 =>
      ih (j + 1) { s with heap := h2, toks := tk } _ (.inl (by intro z; cases z)) (by rw [← hj, List.length_cons]; omega) (fun i y' hy => (hl (i + 1) y' hy).trans (by congr 1; omega))
        (W.frame _ _ _ st' fun a ha o ho => k2 a o (fun z => out (z ▸ ha)) ho) m2 fun v2 h3 tk2 r k3 => q v2 h3 tk2 r fun a o h1 h2' h3' => k3 a o h1 h2' (k2 a o h2' (k a o h1 h3'))
    cases b with
    | none =>
      subst z
      show wpAny _ _ (updateSeq S (fun _ => #[.int (g j) tv, .int (g j) tv]) >>= _) _ _ _
      apply wpAny_bind
      refine wpAny_updateSeq e' rfl ?_
      rw [nme]
      apply wpAny_pure
      refine ⟨plainId_quiet PySem.F.plain_max_loop _, next _ ⟨_, _, Heap.get?_update_self _ e' rfl, tv, ?_⟩ fun a o h1 h2 => (Heap.get?_update_other _ _ (Ne.symm h1)).trans h2⟩
      rw [ey]; rfl
    | some x =>
      obtain ⟨t, rfl⟩ := z
      show wpAny _ _ (tryCatch (holding [.int (g j) tv, .int (g j) tv] (richCompare .Gt (.int (g j) tv) (.int x t) >>= _)) _ >>= _) _ _ _
      apply wpAny_bind
      apply wpAny_tryCatch
      apply wpAny_holding
      apply wpAny_bind
      refine CmpOf.ints_gt (P := fun i v => ∃ t, v = .int (if i = 0 then g j else x) t) (fun i => if i = 0 then g j else x) (fun _ _ z => z) 0 1 _ _ _ _ _ ⟨_, rfl⟩ ⟨_, rfl⟩ ?_
      apply wpAny_bind
      apply wpAny_holding
      apply wpAny_truthy_bool
      apply wpAny_bind
      apply wpAny_letGo
      apply wpAny_pure
      by_cases gt : g j > x
      · rw [if_pos (show (fun i j_1 : Nat => decide ((if i = 0 then g j else x) > if j_1 = 0 then g j else x)) 0 1 = true from decide_eq_true gt)]
        apply wpAny_bind
        refine wpAny_updateSeq e' rfl ?_
        apply wpAny_bind
        apply wpAny_letGo
        rw [nme]
        apply wpAny_pure
        refine ⟨plainId_quiet PySem.F.plain_max_loop _, next _ ⟨_, _, Heap.get?_update_self _ e' rfl, tv, ?_⟩ fun a o h1 h2 => (Heap.get?_update_other _ _ (Ne.symm h1)).trans h2⟩
        rw [show mxB (some x) y = g j by rw [ey]; exact if_pos gt]
      · rw [if_neg (show ¬(fun i j_1 : Nat => decide ((if i = 0 then g j else x) > if j_1 = 0 then g j else x)) 0 1 = true from fun z => gt (of_decide_eq_true z))]
        apply wpAny_bind
        apply wpAny_letGo
        rw [nme]
        apply wpAny_pure
        refine ⟨plainId_quiet PySem.F.plain_max_loop _, next _ ⟨_, _, e', t, ?_⟩ fun a o _ h2 => h2⟩
        rw [show mxB (some x) y = x by rw [ey]; exact if_neg gt]
theorem args_maxl (a : Value) : argsOk "max" ⟨[a], []⟩ := by unfold argsOk; kernel_rfl
theorem call_maxl {X : Cx} (hc : X.calm = true) : CallR X (.builtin "max") (fun xs H Q => ∃ (p : Addr) (ns : List Int) (x : Int), xs = [.ref p] ∧ SqL X.K H p (ns.map V.int) ∧ ns ≠ [] ∧ mxL none ns = some x ∧ Q (.int x) H) := by
  intro pins s σ H xs us Q I r h
  obtain ⟨p, ns, x, rfl, hq, hn, hx, q⟩ := h
  obtain ⟨u, rfl, rx⟩ := vals1 r
  cases rx
  obtain ⟨its, r', pl, hz⟩ := I.list hq
  have hlen := r'.length
  obtain ⟨o, n, ho, _⟩ := id pl
  have hne : p ≠ s.heap.objs.size := Nat.ne_of_lt (Heap.lt_size ho)
  have nme : (toString "max" ++ toString ".loop" : String) = "max.loop" := by decide
  refine kmb_tree PySem.F.kind_max PySem.F.plain_max PySem.F.entry_max (args_maxl _) ?_
  show wpAny _ _ (Builtin.Builtins.bindParams "max" ["key", "default"] 0 ⟨[], []⟩ >>= _) _ _ s
  apply wpAny_bind
  refine wpAny_of_eq (show Builtin.Builtins.bindParams "max" ["key", "default"] 0 ⟨[], []⟩ = pure [none, none] from rfl) ?_
  apply wpAny_bind
  apply wpAny_pure
  apply wpAny_bind
  refine wpAny_pyIter_list pl.isList ?_
  apply wpAny_bind
  refine wpAny_newObj_type ?_
  rw [nme]
  refine wpAny_pure ⟨plainId_quiet PySem.F.plain_max_loop _, ?_⟩
  refine maxl_loop (fp := [s.heap.objs.size, p]) (wr := [s.heap.objs.size]) (g := fun i => ns.getD i 0) (Walks.list (A := X.A.in1) (I.ok.hd hc) _ _ hne its.toArray) ?_ ?_ ns 0 _ none (.inr hn) ?_ ?_ ?_ ?_ ?_
  · intro i v hv
    have hv' : its[i]? = some v := by simpa using hv
    have hi : i < ns.length := by
      have := (List.getElem?_eq_some_iff.mp hv').1
      rw [← hlen, List.length_map] at this; exact this
    obtain ⟨w, e1, e2⟩ := r'.get (i := i) (x := .int ns[i]) (by rw [List.getElem?_map, List.getElem?_eq_getElem hi]; rfl)
    rw [hv'] at e1
    cases e1
    obtain ⟨t, rfl⟩ := e2
    exact ⟨t, by rw [List.getD_eq_getElem?_getD, List.getElem?_eq_getElem hi]; rfl⟩
  · intro hm
    have e1 : (s.heap.push { cls := .type "list_iterator", data := .fields #[.ref p, .int 0 0] }).objs.size = s.heap.objs.size + 1 := Heap.size_push ..
    have lt := Heap.lt_size ho
    rcases List.mem_cons.mp hm with z | z
    · have : s.heap.objs.size + 1 = s.heap.objs.size := e1.symm.trans z
      omega
    · have : s.heap.objs.size + 1 = p := e1.symm.trans (List.mem_singleton.mp z)
      rw [← this] at lt
      exact absurd lt (Nat.not_lt.mpr (Nat.le_succ _))
  · rw [List.size_toArray, ← hlen, List.length_map, Nat.zero_add]
  · intro i y hy
    rw [Nat.zero_add, List.getD_eq_getElem?_getD, hy]
    rfl
  · refine ⟨⟨_, Heap.get?_push_of_some _ (Heap.get?_push_size _ rfl), rfl, rfl⟩, ?_⟩
    obtain ⟨o2, e2, r2⟩ := pl.isList
    exact ⟨o2, Heap.get?_push_of_some _ (Heap.get?_push_of_some _ e2), r2⟩
  · exact ⟨_, _, Heap.get?_push_size _ rfl, rfl⟩
  · intro v h' tk r k
    have k2 : ∀ b o, s.heap.get? b = some o → h'.get? b = some o := fun b o e => k b o (fun z => by
        have e1 := Heap.lt_size e
        rw [List.mem_singleton.mp z] at e1
        exact absurd e1 (Nat.lt_irrefl _)) (fun z => by
        have e1 := Heap.lt_size (Heap.get?_push_of_some { cls := .type "list_iterator", data := .fields #[.ref p, .int 0 0] } e)
        rw [z] at e1
        exact absurd e1 (Nat.lt_irrefl _)) (Heap.get?_push_of_some _ (Heap.get?_push_of_some _ e))
    have hv : ∃ tv, v = .int x tv := by
      rw [hx] at r
      exact r
    obtain ⟨tv, rfl⟩ := hv
    exact ⟨.int _, H, I.kept (t' := tk) k2, ⟨_, rfl⟩, q⟩
end L2

set_option Elab.async false
set_option linter.all false
set_option maxRecDepth 100000
set_option maxHeartbeats 4000000
namespace L2
open PySem PySem.Spec PyProof.Rows
theorem dict_eq_declines_int (l : Addr) (ob : Obj) (hc : ob.cls = .type "dict") (b : Int) (u : Tok) :
    Meets (Builtin.«dict.__eq__» ⟨[.ref l, .int b u], []⟩) (fun _ R s => s.heap.get? l = some ob ∧ R (.ok (.ret .notImplemented)) s) :=
  .of_wp fun prog w A R s h => by
    obtain ⟨cls, dd, data, sl⟩ := ob
    simp only at hc
    subst hc
    obtain ⟨hp, g, d, tk, os⟩ := s; obtain ⟨hl, h⟩ := h; have f1 := F.sub_int_dict; have f2 := F.sub_dict_dict; wp_walk using wpAny_loadPart' hl, wpAny_load hl; exact ⟨_, rfl, h⟩
theorem int_eq_declines_dict (b : Int) (u : Tok) (l : Addr) (ob : Obj) (hd : ∃ es n, ob.data = .dict es n) :
    Meets (Builtin.«int.__eq__» ⟨[.int b u, .ref l], []⟩) (fun _ R s => s.heap.get? l = some ob ∧ R (.ok (.ret .notImplemented)) s) :=
  .of_wp fun prog w A R s h => by
    obtain ⟨es, n, hd⟩ := hd
    obtain ⟨cls, dd, data, sl⟩ := ob
    simp only at hd
    subst hd
    obtain ⟨hp, g, d, tk, os⟩ := s; obtain ⟨hl, h⟩ := h; wp_walk using wpAny_loadPart' hl, wpAny_load hl; exact ⟨_, rfl, h⟩
theorem rc_dict_int {A : Around} {s : Shared} {l : Addr} {ob : Obj} (b : Int) (u : Tok) (ho : s.heap.get? l = some ob) (hc : ob.cls = .type "dict") (hd : ∃ es n, ob.data = .dict es n) (hu : A.units < cLine) : SeqAt.RcAt A s (.ref l) (.int b u) false := fun prog w E Q h =>
  SeqAt.rc_eq_decline_or (k := false) ⟨_, ho, hc⟩ (typeIs_int s b u) (by decide) F.sub_int_dict F.slot_dict_eq F.slot_int_eq_refl
    (fun _ hq => call_meets F.slot_dict_eq ⟨_, ho, hc⟩ F.entry_dict_eq (F.args_dict_eq_2 _ _) (dict_eq_declines_int l ob hc b u) ⟨ho, hq⟩)
    (fun _ hq => call_meets F.slot_int_eq_refl (typeIs_int s b u) F.entry_int_eq (F.args_int_eq_2 _ _) (int_eq_declines_dict b u l ob hd) ⟨ho, hq⟩)
    (fun _ hq => wpAny_of_eq (rfl : isSame (.ref l) (.int b u) = pure false) hq) (.inr hu) h
theorem eq_dict_int {A : Around} {s : Shared} {l : Addr} {ob : Obj} (b : Int) (u : Tok) (ho : s.heap.get? l = some ob) (hc : ob.cls = .type "dict") (hd : ∃ es n, ob.data = .dict es n) (hu : A.units < cLine) : SeqAt.EqAt A s (.ref l) (.int b u) false := fun prog w E Q h => by
  unfold eqBool
  refine wpAny_holding ?_
  refine wpAny_ite_split (fun hab => absurd (eq_of_beq hab) nofun) (fun _ => ?_)
  exact wpAny_bind (rc_dict_int b u ho hc hd hu prog w E _ (wpAny_truthy_bool h))
def Odd1 (H : Hp) (v : V) : Prop := flatV v = true ∨ (∃ (a : Addr) (xs : List V), v = .ref a ∧ H a = some (.lst xs)) ∨ (∃ (a : Addr) (xs : List V), v = .ref a ∧ H a = some (.tup xs)) ∨ (∃ (a : Addr) (kvs : List (Key × V)), v = .ref a ∧ H a = some (.dK kvs))
theorem Odd1.same {H H' : Hp} {v : V} (s : Same H H') (h : Odd1 H v) : Odd1 H' v := by
  rcases h with h | ⟨a, xs, e, h⟩ | ⟨a, xs, e, h⟩ | ⟨a, xs, e, h⟩
  · exact .inl h
  · exact .inr (.inl ⟨a, xs, e, s _ _ h⟩)
  · exact .inr (.inr (.inl ⟨a, xs, e, s _ _ h⟩))
  · exact .inr (.inr (.inr ⟨a, xs, e, s _ _ h⟩))
theorem odd_int {X : Cx} {pins : List (Addr × Obj)} {σ : St} {H : Hp} {s : Shared} {A : Around} (I : Inv X pins σ H s) {v : V} {u : Value} {n : Int} {tk : Tok} (o : Odd1 H v) (r : RelV v u) (hu : A.units < cLine) : SeqAt.EqAt A s u (.int n tk) (eqV v (.int n)) := by
  rcases o with h | ⟨a, xs, rfl, h⟩ | ⟨a, xs, rfl, h⟩ | ⟨a, xs, rfl, h⟩
  · exact eqAt_V r (x := .int n) ⟨tk, rfl⟩ h rfl
  · cases r
    obtain ⟨its, _, pl, _⟩ := I.list (SqL.of h)
    exact SeqAt.EqAt.list_int n tk pl.isList hu
  · cases r
    obtain ⟨its, _, pl, _⟩ := I.tuple (SqT.of h)
    exact SeqAt.EqAt.tuple_int n tk pl hu
  · cases r
    obtain ⟨_, _, vs, _, p⟩ := (show ObjOk X.prog X.w H s.heap a (.dK xs) from I.hok a _ h)
    obtain ⟨o, es, ep, h1, h2, h3, _⟩ := p
    exact eq_dict_int n tk h1 h2.1 ⟨_, _, h3⟩ hu
def rRow (K : PySem.W.Frag) : R2 := fun x y H Q => ∃ (b : Addr) (ns : List Int), y = .ref b ∧ SqL K H b (ns.map V.int) ∧
  ((x = .non ∧ Q (.bl false) H) ∨ (∃ (l : Addr) (xs : List V), x = .ref l ∧ SqT K H l xs ∧ Q (.bl false) H) ∨ (∃ (l : Addr) (xs : List V), x = .ref l ∧ SqL K H l xs ∧ (∀ v ∈ xs, Odd1 H v) ∧ Q (.bl (eqL xs (ns.map V.int))) H))
theorem op_row {X : Cx} (hu : X.A.units + 64 < cLine) : OpR X (compareOp .Eq) (rRow X.K) := by
  intro pins s σ H x y v u Q I rx ry h
  obtain ⟨b, ns, rfl, hy, h⟩ := h
  cases ry
  obtain ⟨its2, r2, pl2, _⟩ := I.list hy
  rcases h with ⟨rfl, q⟩ | ⟨l, xs, rfl, hx, q⟩ | ⟨l, xs, rfl, hx, od, q⟩
  · cases rx
    exact SeqAt.RcAt.none_list pl2.isList (by omega) _ _ _ _ ⟨.bl _, H, I, rfl, q⟩
  · cases rx
    obtain ⟨its, r, pl, _⟩ := I.tuple hx
    exact SeqAt.RcAt.tuple_list pl pl2.isList (by omega) _ _ _ _ ⟨.bl _, H, I, rfl, q⟩
  · cases rx
    obtain ⟨its, r, pl, _⟩ := I.list hx
    have l1 := r.length
    have l2 := r2.length
    by_cases hl : xs.length = (ns.map V.int).length
    · refine SeqAt.eq_listAt (e := fun j => eqV (xs.getD j .non) ((ns.map V.int).getD j .non)) pl.isList pl2.isList (by simp; simp at l2 hl; omega) (by omega) (fun j h1 h2 => ?_) ?_
      · have hx1 : j < xs.length := by rw [l1]; simpa using h1
        have hy1 : j < ns.length := by simp at l2 h2; omega
        obtain ⟨u1, e1, q1⟩ := r.get (List.getElem?_eq_getElem hx1)
        obtain ⟨w1, e2, tk, rfl⟩ := r2.get (i := j) (x := .int ns[j]) (by rw [List.getElem?_map, List.getElem?_eq_getElem hy1]; rfl)
        have e3 : its.toArray[j] = u1 := by
          rw [List.getElem_toArray]; rw [List.getElem?_eq_getElem (by simpa using h1)] at e1; exact Option.some.inj e1
        have e4 : its2.toArray[j] = .int ns[j] tk := by
          rw [List.getElem_toArray]; rw [List.getElem?_eq_getElem (by simpa using h2)] at e2; exact Option.some.inj e2
        have g1 : xs.getD j .non = xs[j] := by rw [List.getD_eq_getElem?_getD, List.getElem?_eq_getElem hx1]; rfl
        have g2 : (ns.map V.int).getD j .non = .int ns[j] := by rw [List.getD_eq_getElem?_getD, List.getElem?_map, List.getElem?_eq_getElem hy1]; rfl
        rw [e3, e4, g1, g2]
        exact odd_int I (od _ (List.getElem_mem hx1)) q1 (by show X.A.units + 1 < cLine; omega)
      · rw [List.size_toArray, ← l1, eqL_all xs _ hl]
        exact ⟨.bl _, H, I, rfl, q⟩
    · refine SeqAt.eq_list_lengthsAt pl.isList pl2.isList (by simp; simp at l2 hl; omega) (by omega) ?_
      rw [eqL_len hl] at q
      exact ⟨.bl _, H, I, rfl, q⟩
theorem call_range1 {X : Cx} : CallR X (.type "range") (fun xs H Q => ∃ j : Nat, xs = [.int (j : Nat)] ∧ j ≤ 1000 ∧ ∀ p, H p = none → Q (.ref p) (upd H p (.rng 0 (j : Nat)))) := by
  intro pins s σ H xs us Q I r h
  obtain ⟨j, rfl, hj, q⟩ := h
  obtain ⟨u, rfl, t, rfl⟩ := vals1 r
  refine call_range_1 ⟨.ref s.heap.objs.size, _, I.laid (t' := s.toks + 1 + 1) (fun _ _ e => Heap.get?_push_of_some _ e) (Nat.le_refl _) (show ObjOk X.prog X.w _ _ _ (.rng 0 (j : Nat)) from ⟨_, _, _, Heap.get?_push_size _ rfl⟩), rfl, q _ (I.hok.fresh (Nat.le_refl _))⟩
theorem vals_rng0 : ∀ (its : List Value) (k : Nat), (∀ (j : Nat) (v : Value), its[j]? = some v → ∃ t, v = Value.int ((k + j : Nat) : Int) t) → Vals ((List.range' k its.length).map fun n => V.int ((n : Nat) : Int)) its
  | [], _, _ => .nil
  | u :: r, k, h => by
    rw [List.length_cons, List.range'_succ, List.map_cons]
    obtain ⟨t, e⟩ := h 0 u rfl
    exact .cons ⟨t, e⟩ (vals_rng0 r (k + 1) fun j v hv => by
      obtain ⟨t, e⟩ := h (j + 1) v hv
      exact ⟨t, by rw [e]; congr 1; omega⟩)
theorem vals_range (n : Nat) (its : List Value) (hl : its.length = n) (h : ∀ (j : Nat) (v : Value), its[j]? = some v → ∃ t, v = Value.int (0 + (j : Int) * 1) t) : Vals (K1.natV (List.range n)) its := by
  have := vals_rng0 its 0 fun j v hv => by
    obtain ⟨t, e⟩ := h j v hv
    exact ⟨t, by rw [e]; congr 1; omega⟩
  rw [hl] at this
  rw [List.range_eq_range']
  exact this
theorem call_list_rng {X : Cx} (hc : X.calm = true) : CallR X (.type "list") (fun xs H Q => ∃ (p : Addr) (j : Nat), xs = [.ref p] ∧ H p = some (.rng 0 (j : Nat)) ∧ j ≤ 1000 ∧ ∀ l, H l = none → Q (.ref l) (upd H l (.lst (K1.natV (List.range j))))) := by
  intro pins s σ H xs us Q I r h
  obtain ⟨p, j, rfl, hp, hj, q⟩ := h
  obtain ⟨u, rfl, rx⟩ := vals1 r
  cases rx
  obtain ⟨t, u, v, hr⟩ := (show ObjOk X.prog X.w H s.heap p (.rng 0 (j : Nat)) from I.hok p _ hp)
  refine call_list_range (n := j) (I.ok.hd hc) hr (small_one (by decide) (by decide) (by omega) (by omega)) (by rw [rangeSize_one]; split <;> omega) (by omega) fun h' tk acc' c' kp e it => ?_
  refine ⟨.ref s.heap.objs.size, _, I.laid (t' := tk) kp (Nat.le_refl _) (show ObjOk X.prog X.w _ h' _ (.lst (K1.natV (List.range j))) from ⟨?_, acc'.toList, c', ?_, by simpa using e⟩), rfl, q _ (I.hok.fresh (Nat.le_refl _))⟩
  · show (List.map _ _).length ≤ sizeLine
    rw [List.length_map, List.length_range]
    exact Nat.le_trans hj (by decide)
  · exact vals_range j acc'.toList (by simpa using it.1) (fun i w hw => it.2 i w (by simpa using hw))
end L2

set_option Elab.async false
set_option linter.all false
set_option maxRecDepth 100000
set_option maxHeartbeats 4000000
namespace K03
open PySem L2 K1
seal PySem.wpAny
def top (i : Nat) : Stmt := PySem.Challenge.pw_roadbook_k03_rules_of_days.main.body.getD i (.Pass ⟨0, 0, 0, 0⟩)
abbrev s_is_any_number : Stmt := top 15
theorem sc_is_any_number : FnScope ["value"] ["value"] (defScope s_is_any_number) := ⟨rfl, rfl, rfl, by decide +kernel, rfl, by decide +kernel, by decide +kernel⟩
abbrev s_is_number : Stmt := top 16
theorem sc_is_number : FnScope ["value", "least", "most"] ["value", "least", "most"] (defScope s_is_number) := ⟨rfl, rfl, rfl, by decide +kernel, rfl, by decide +kernel, by decide +kernel⟩
abbrev s_are_rising : Stmt := top 17
theorem sc_are_rising : FnScope ["values", "longest", "least", "most", "floor", "value"] ["values", "longest", "least", "most"] (defScope s_are_rising) := ⟨rfl, rfl, rfl, by decide +kernel, rfl, by decide +kernel, by decide +kernel⟩
abbrev s_copy_of : Stmt := top 26
theorem sc_copy_of : FnScope ["rule"] ["rule"] (defScope s_copy_of) := ⟨rfl, rfl, rfl, by decide +kernel, rfl, by decide +kernel, by decide +kernel⟩
abbrev s_check_size : Stmt := top 27
theorem sc_check_size : FnScope ["rule"] ["rule"] (defScope s_check_size) := ⟨rfl, rfl, rfl, by decide +kernel, rfl, by decide +kernel, by decide +kernel⟩
abbrev s_list_text : Stmt := top 28
theorem sc_list_text : FnScope ["numbers"] ["numbers"] (defScope s_list_text) := ⟨rfl, rfl, rfl, by decide +kernel, rfl, by decide +kernel, by decide +kernel⟩
abbrev s_law_cell : Stmt := top 37
theorem sc_law_cell : FnScope ["_law_script", "_law_k"] ["_law_script", "_law_k"] (defScope s_law_cell) := ⟨rfl, rfl, rfl, by decide +kernel, rfl, by decide +kernel, by decide +kernel⟩
abbrev s_law_draw : Stmt := top 38
theorem sc_law_draw : FnScope ["_law_script", "_law_tape", "_law_many", "_law_number"] ["_law_script", "_law_tape", "_law_many"] (defScope s_law_draw) := ⟨rfl, rfl, rfl, by decide +kernel, rfl, by decide +kernel, by decide +kernel⟩
abbrev s_law_whole : Stmt := top 39
theorem sc_law_whole : FnScope ["_law_found"] ["_law_found"] (defScope s_law_whole) := ⟨rfl, rfl, rfl, by decide +kernel, rfl, by decide +kernel, by decide +kernel⟩
abbrev s_law_rising : Stmt := top 40
theorem sc_law_rising : FnScope ["_law_script", "_law_tape", "_law_least", "_law_most", "_law_many", "_law_found"] ["_law_script", "_law_tape", "_law_least", "_law_most"] (defScope s_law_rising) := ⟨rfl, rfl, rfl, by decide +kernel, rfl, by decide +kernel, by decide +kernel⟩
abbrev s_law_leaf : Stmt := top 41
theorem sc_law_leaf : FnScope ["_law_script", "_law_tape", "_law_kind", "_law_length"] ["_law_script", "_law_tape"] (defScope s_law_leaf) := ⟨rfl, rfl, rfl, by decide +kernel, rfl, by decide +kernel, by decide +kernel⟩
abbrev s_law_tree : Stmt := top 42
theorem sc_law_tree : FnScope ["_law_script", "_law_tape", "_law_room", "_law_deep", "_law_kind", "_law_first", "_law_one", "_law_within_here"] ["_law_script", "_law_tape", "_law_room", "_law_deep"] (defScope s_law_tree) := ⟨rfl, rfl, rfl, by decide +kernel, rfl, by decide +kernel, by decide +kernel⟩
abbrev s_law_made : Stmt := top 43
theorem sc_law_made : FnScope ["_law_tree_here"] ["_law_tree_here"] (defScope s_law_made) := ⟨rfl, rfl, rfl, by decide +kernel, rfl, by decide +kernel, by decide +kernel⟩
abbrev s_law_runs : Stmt := top 44
theorem sc_law_runs : FnScope ["_law_tree_here", "_law_day", "_law_rest", "_law_k"] ["_law_tree_here", "_law_day"] (defScope s_law_runs) := ⟨rfl, rfl, rfl, by decide +kernel, rfl, by decide +kernel, by decide +kernel⟩
abbrev s_law_words : Stmt := top 45
theorem sc_law_words : FnScope ["_law_tree_here", "_law_signs", "_law_rest", "_law_k"] ["_law_tree_here"] (defScope s_law_words) := ⟨rfl, rfl, rfl, by decide +kernel, rfl, by decide +kernel, by decide +kernel⟩
abbrev s_law_within : Stmt := top 46
theorem sc_law_within : FnScope ["_law_tree_here"] ["_law_tree_here"] (defScope s_law_within) := ⟨rfl, rfl, rfl, by decide +kernel, rfl, by decide +kernel, by decide +kernel⟩
abbrev s_law_weight : Stmt := top 47
theorem sc_law_weight : FnScope ["_law_tree_here"] ["_law_tree_here"] (defScope s_law_weight) := ⟨rfl, rfl, rfl, by decide +kernel, rfl, by decide +kernel, by decide +kernel⟩
abbrev s_law_depth : Stmt := top 48
theorem sc_law_depth : FnScope ["_law_tree_here"] ["_law_tree_here"] (defScope s_law_depth) := ⟨rfl, rfl, rfl, by decide +kernel, rfl, by decide +kernel, by decide +kernel⟩
abbrev s_law_class : Stmt := top 49
theorem sc_law_class : FnScope ["_law_error", "_law_words_here", "_law_found"] ["_law_error"] (defScope s_law_class) := ⟨rfl, rfl, rfl, by decide +kernel, rfl, by decide +kernel, by decide +kernel⟩
abbrev s_law_days : Stmt := top 50
theorem sc_law_days : FnScope ["_law_tree_here", "_law_found", "_law_one"] ["_law_tree_here"] (defScope s_law_days) := ⟨rfl, rfl, rfl, by decide +kernel, rfl, by decide +kernel, by decide +kernel⟩
abbrev s_law_tried : Stmt := top 51
theorem sc_law_tried : FnScope ["_law_which", "_law_one", "_law_two", "_law_rule", "_law_caught", "_law_error"] ["_law_which", "_law_one", "_law_two", "_law_rule"] (defScope s_law_tried) := ⟨rfl, rfl, rfl, by decide +kernel, rfl, by decide +kernel, by decide +kernel⟩
abbrev s_law_refused : Stmt := top 52
theorem sc_law_refused : FnScope ["_law_number", "_law_rule", "_law_odd", "_law_no_rule", "_law_rows", "_law_asked", "_law_which", "_law_one", "_law_two", "_law_three"] ["_law_number", "_law_rule"] (defScope s_law_refused) := ⟨rfl, rfl, rfl, by decide +kernel, rfl, by decide +kernel, by decide +kernel⟩
abbrev s_law_heavy : Stmt := top 53
theorem sc_law_heavy : FnScope ["_law_script", "_law_tape", "_law_light", "_law_eight", "_law_k", "_law_ways", "_law_row"] ["_law_script", "_law_tape"] (defScope s_law_heavy) := ⟨rfl, rfl, rfl, by decide +kernel, rfl, by decide +kernel, by decide +kernel⟩
abbrev s_law_right : Stmt := top 54
theorem sc_law_right : FnScope ["_law_tree_here", "_law_rule", "_law_day", "_law_found"] ["_law_tree_here", "_law_rule", "_law_day"] (defScope s_law_right) := ⟨rfl, rfl, rfl, by decide +kernel, rfl, by decide +kernel, by decide +kernel⟩
abbrev s_law : Stmt := top 55
theorem sc_law : FnScope ["_law_script", "_law_tape", "_law_tree_here", "_law_rule", "_law_names", "_law_k", "_law_near", "_law_days_here", "_law_day", "_law_found", "_law_sizes", "_law_some", "_law_ones"] ["_law_script"] (defScope s_law) := ⟨rfl, rfl, rfl, by decide +kernel, rfl, by decide +kernel, by decide +kernel⟩
abbrev s_Rule_copied : Stmt := inClass (top 29) 0
theorem sc_Rule_copied : FnScope ["self"] ["self"] (defScope s_Rule_copied) := ⟨rfl, rfl, rfl, by decide +kernel, rfl, by decide +kernel, by decide +kernel⟩
abbrev s_Rule_parts : Stmt := inClass (top 29) 1
theorem sc_Rule_parts : FnScope ["self"] ["self"] (defScope s_Rule_parts) := ⟨rfl, rfl, rfl, by decide +kernel, rfl, by decide +kernel, by decide +kernel⟩
abbrev s_Rule_runs : Stmt := inClass (top 29) 2
theorem sc_Rule_runs : FnScope ["self", "day"] ["self", "day"] (defScope s_Rule_runs) := ⟨rfl, rfl, rfl, by decide +kernel, rfl, by decide +kernel, by decide +kernel⟩
abbrev s_Rule_words : Stmt := inClass (top 29) 3
theorem sc_Rule_words : FnScope ["self"] ["self"] (defScope s_Rule_words) := ⟨rfl, rfl, rfl, by decide +kernel, rfl, by decide +kernel, by decide +kernel⟩
abbrev s_Rule_weight : Stmt := inClass (top 29) 4
theorem sc_Rule_weight : FnScope ["self"] ["self"] (defScope s_Rule_weight) := ⟨rfl, rfl, rfl, by decide +kernel, rfl, by decide +kernel, by decide +kernel⟩
abbrev s_Rule_depth : Stmt := inClass (top 29) 5
theorem sc_Rule_depth : FnScope ["self"] ["self"] (defScope s_Rule_depth) := ⟨rfl, rfl, rfl, by decide +kernel, rfl, by decide +kernel, by decide +kernel⟩
abbrev s_Week_init : Stmt := inClass (top 30) 0
theorem sc_Week_init : FnScope ["self", "bits"] ["self", "bits"] (defScope s_Week_init) := ⟨rfl, rfl, rfl, by decide +kernel, rfl, by decide +kernel, by decide +kernel⟩
abbrev s_Week_copied : Stmt := inClass (top 30) 1
theorem sc_Week_copied : FnScope ["self"] ["self"] (defScope s_Week_copied) := ⟨rfl, rfl, rfl, by decide +kernel, rfl, by decide +kernel, by decide +kernel⟩
abbrev s_Week_runs : Stmt := inClass (top 30) 2
theorem sc_Week_runs : FnScope ["self", "day"] ["self", "day"] (defScope s_Week_runs) := ⟨rfl, rfl, rfl, by decide +kernel, rfl, by decide +kernel, by decide +kernel⟩
abbrev s_Week_words : Stmt := inClass (top 30) 3
theorem sc_Week_words : FnScope ["self"] ["self"] (defScope s_Week_words) := ⟨rfl, rfl, rfl, by decide +kernel, rfl, by decide +kernel, by decide +kernel⟩
abbrev s_Span_init : Stmt := inClass (top 31) 0
theorem sc_Span_init : FnScope ["self", "first", "last", "rule"] ["self", "first", "last", "rule"] (defScope s_Span_init) := ⟨rfl, rfl, rfl, by decide +kernel, rfl, by decide +kernel, by decide +kernel⟩
abbrev s_Span_copied : Stmt := inClass (top 31) 1
theorem sc_Span_copied : FnScope ["self"] ["self"] (defScope s_Span_copied) := ⟨rfl, rfl, rfl, by decide +kernel, rfl, by decide +kernel, by decide +kernel⟩
abbrev s_Span_parts : Stmt := inClass (top 31) 2
theorem sc_Span_parts : FnScope ["self"] ["self"] (defScope s_Span_parts) := ⟨rfl, rfl, rfl, by decide +kernel, rfl, by decide +kernel, by decide +kernel⟩
abbrev s_Span_runs : Stmt := inClass (top 31) 3
theorem sc_Span_runs : FnScope ["self", "day"] ["self", "day"] (defScope s_Span_runs) := ⟨rfl, rfl, rfl, by decide +kernel, rfl, by decide +kernel, by decide +kernel⟩
abbrev s_Span_words : Stmt := inClass (top 31) 4
theorem sc_Span_words : FnScope ["self"] ["self"] (defScope s_Span_words) := ⟨rfl, rfl, rfl, by decide +kernel, rfl, by decide +kernel, by decide +kernel⟩
abbrev s_Each_init : Stmt := inClass (top 32) 0
theorem sc_Each_init : FnScope ["self", "length", "starts"] ["self", "length", "starts"] (defScope s_Each_init) := ⟨rfl, rfl, rfl, by decide +kernel, rfl, by decide +kernel, by decide +kernel⟩
abbrev s_Each_copied : Stmt := inClass (top 32) 1
theorem sc_Each_copied : FnScope ["self"] ["self"] (defScope s_Each_copied) := ⟨rfl, rfl, rfl, by decide +kernel, rfl, by decide +kernel, by decide +kernel⟩
abbrev s_Each_runs : Stmt := inClass (top 32) 2
theorem sc_Each_runs : FnScope ["self", "day"] ["self", "day"] (defScope s_Each_runs) := ⟨rfl, rfl, rfl, by decide +kernel, rfl, by decide +kernel, by decide +kernel⟩
abbrev s_Each_words : Stmt := inClass (top 32) 3
theorem sc_Each_words : FnScope ["self"] ["self"] (defScope s_Each_words) := ⟨rfl, rfl, rfl, by decide +kernel, rfl, by decide +kernel, by decide +kernel⟩
abbrev s_Either_init : Stmt := inClass (top 33) 0
theorem sc_Either_init : FnScope ["self", "one", "other"] ["self", "one", "other"] (defScope s_Either_init) := ⟨rfl, rfl, rfl, by decide +kernel, rfl, by decide +kernel, by decide +kernel⟩
abbrev s_Either_copied : Stmt := inClass (top 33) 1
theorem sc_Either_copied : FnScope ["self"] ["self"] (defScope s_Either_copied) := ⟨rfl, rfl, rfl, by decide +kernel, rfl, by decide +kernel, by decide +kernel⟩
abbrev s_Either_parts : Stmt := inClass (top 33) 2
theorem sc_Either_parts : FnScope ["self"] ["self"] (defScope s_Either_parts) := ⟨rfl, rfl, rfl, by decide +kernel, rfl, by decide +kernel, by decide +kernel⟩
abbrev s_Either_runs : Stmt := inClass (top 33) 3
theorem sc_Either_runs : FnScope ["self", "day"] ["self", "day"] (defScope s_Either_runs) := ⟨rfl, rfl, rfl, by decide +kernel, rfl, by decide +kernel, by decide +kernel⟩
abbrev s_Either_words : Stmt := inClass (top 33) 4
theorem sc_Either_words : FnScope ["self"] ["self"] (defScope s_Either_words) := ⟨rfl, rfl, rfl, by decide +kernel, rfl, by decide +kernel, by decide +kernel⟩
abbrev s_Both_init : Stmt := inClass (top 34) 0
theorem sc_Both_init : FnScope ["self", "one", "other"] ["self", "one", "other"] (defScope s_Both_init) := ⟨rfl, rfl, rfl, by decide +kernel, rfl, by decide +kernel, by decide +kernel⟩
abbrev s_Both_copied : Stmt := inClass (top 34) 1
theorem sc_Both_copied : FnScope ["self"] ["self"] (defScope s_Both_copied) := ⟨rfl, rfl, rfl, by decide +kernel, rfl, by decide +kernel, by decide +kernel⟩
abbrev s_Both_parts : Stmt := inClass (top 34) 2
theorem sc_Both_parts : FnScope ["self"] ["self"] (defScope s_Both_parts) := ⟨rfl, rfl, rfl, by decide +kernel, rfl, by decide +kernel, by decide +kernel⟩
abbrev s_Both_runs : Stmt := inClass (top 34) 3
theorem sc_Both_runs : FnScope ["self", "day"] ["self", "day"] (defScope s_Both_runs) := ⟨rfl, rfl, rfl, by decide +kernel, rfl, by decide +kernel, by decide +kernel⟩
abbrev s_Both_words : Stmt := inClass (top 34) 4
theorem sc_Both_words : FnScope ["self"] ["self"] (defScope s_Both_words) := ⟨rfl, rfl, rfl, by decide +kernel, rfl, by decide +kernel, by decide +kernel⟩
abbrev s_But_init : Stmt := inClass (top 35) 0
theorem sc_But_init : FnScope ["self", "days", "rule"] ["self", "days", "rule"] (defScope s_But_init) := ⟨rfl, rfl, rfl, by decide +kernel, rfl, by decide +kernel, by decide +kernel⟩
abbrev s_But_copied : Stmt := inClass (top 35) 1
theorem sc_But_copied : FnScope ["self"] ["self"] (defScope s_But_copied) := ⟨rfl, rfl, rfl, by decide +kernel, rfl, by decide +kernel, by decide +kernel⟩
abbrev s_But_parts : Stmt := inClass (top 35) 2
theorem sc_But_parts : FnScope ["self"] ["self"] (defScope s_But_parts) := ⟨rfl, rfl, rfl, by decide +kernel, rfl, by decide +kernel, by decide +kernel⟩
abbrev s_But_runs : Stmt := inClass (top 35) 3
theorem sc_But_runs : FnScope ["self", "day"] ["self", "day"] (defScope s_But_runs) := ⟨rfl, rfl, rfl, by decide +kernel, rfl, by decide +kernel, by decide +kernel⟩
abbrev s_But_words : Stmt := inClass (top 35) 4
theorem sc_But_words : FnScope ["self"] ["self"] (defScope s_But_words) := ⟨rfl, rfl, rfl, by decide +kernel, rfl, by decide +kernel, by decide +kernel⟩
theorem b_ValueError : bootBuiltins "ValueError" = some (.type "ValueError") := by decide +kernel
theorem b_all : bootBuiltins "all" = some (.builtin "all") := by decide +kernel
theorem b_bool : bootBuiltins "bool" = some (.type "bool") := by decide +kernel
theorem b_int : bootBuiltins "int" = some (.type "int") := by decide +kernel
theorem b_isinstance : bootBuiltins "isinstance" = some (.builtin "isinstance") := by decide +kernel
theorem b_len : bootBuiltins "len" = some (.builtin "len") := by decide +kernel
theorem b_list : bootBuiltins "list" = some (.type "list") := by decide +kernel
theorem b_max : bootBuiltins "max" = some (.builtin "max") := by decide +kernel
theorem b_min : bootBuiltins "min" = some (.builtin "min") := by decide +kernel
theorem b_range : bootBuiltins "range" = some (.type "range") := by decide +kernel
theorem b_set : bootBuiltins "set" = some (.type "set") := by decide +kernel
theorem b_sorted : bootBuiltins "sorted" = some (.builtin "sorted") := by decide +kernel
theorem b_str : bootBuiltins "str" = some (.type "str") := by decide +kernel
theorem b_sum : bootBuiltins "sum" = some (.builtin "sum") := by decide +kernel
theorem b_tuple : bootBuiltins "tuple" = some (.type "tuple") := by decide +kernel
structure Adr where
  f_is_any_number : Addr
  d_is_any_number : FuncData
  f_is_number : Addr
  d_is_number : FuncData
  f_are_rising : Addr
  d_are_rising : FuncData
  f_copy_of : Addr
  d_copy_of : FuncData
  f_check_size : Addr
  d_check_size : FuncData
  f_list_text : Addr
  d_list_text : FuncData
  f_law_cell : Addr
  d_law_cell : FuncData
  f_law_draw : Addr
  d_law_draw : FuncData
  f_law_whole : Addr
  d_law_whole : FuncData
  f_law_rising : Addr
  d_law_rising : FuncData
  f_law_leaf : Addr
  d_law_leaf : FuncData
  f_law_tree : Addr
  d_law_tree : FuncData
  f_law_made : Addr
  d_law_made : FuncData
  f_law_runs : Addr
  d_law_runs : FuncData
  f_law_words : Addr
  d_law_words : FuncData
  f_law_within : Addr
  d_law_within : FuncData
  f_law_weight : Addr
  d_law_weight : FuncData
  f_law_depth : Addr
  d_law_depth : FuncData
  f_law_class : Addr
  d_law_class : FuncData
  f_law_days : Addr
  d_law_days : FuncData
  f_law_tried : Addr
  d_law_tried : FuncData
  f_law_refused : Addr
  d_law_refused : FuncData
  f_law_heavy : Addr
  d_law_heavy : FuncData
  f_law_right : Addr
  d_law_right : FuncData
  f_law : Addr
  d_law : FuncData
  f_Rule_copied : Addr
  d_Rule_copied : FuncData
  f_Rule_parts : Addr
  d_Rule_parts : FuncData
  f_Rule_runs : Addr
  d_Rule_runs : FuncData
  f_Rule_words : Addr
  d_Rule_words : FuncData
  f_Rule_weight : Addr
  d_Rule_weight : FuncData
  f_Rule_depth : Addr
  d_Rule_depth : FuncData
  f_Week_init : Addr
  d_Week_init : FuncData
  f_Week_copied : Addr
  d_Week_copied : FuncData
  f_Week_runs : Addr
  d_Week_runs : FuncData
  f_Week_words : Addr
  d_Week_words : FuncData
  f_Span_init : Addr
  d_Span_init : FuncData
  f_Span_copied : Addr
  d_Span_copied : FuncData
  f_Span_parts : Addr
  d_Span_parts : FuncData
  f_Span_runs : Addr
  d_Span_runs : FuncData
  f_Span_words : Addr
  d_Span_words : FuncData
  f_Each_init : Addr
  d_Each_init : FuncData
  f_Each_copied : Addr
  d_Each_copied : FuncData
  f_Each_runs : Addr
  d_Each_runs : FuncData
  f_Each_words : Addr
  d_Each_words : FuncData
  f_Either_init : Addr
  d_Either_init : FuncData
  f_Either_copied : Addr
  d_Either_copied : FuncData
  f_Either_parts : Addr
  d_Either_parts : FuncData
  f_Either_runs : Addr
  d_Either_runs : FuncData
  f_Either_words : Addr
  d_Either_words : FuncData
  f_Both_init : Addr
  d_Both_init : FuncData
  f_Both_copied : Addr
  d_Both_copied : FuncData
  f_Both_parts : Addr
  d_Both_parts : FuncData
  f_Both_runs : Addr
  d_Both_runs : FuncData
  f_Both_words : Addr
  d_Both_words : FuncData
  f_But_init : Addr
  d_But_init : FuncData
  f_But_copied : Addr
  d_But_copied : FuncData
  f_But_parts : Addr
  d_But_parts : FuncData
  f_But_runs : Addr
  d_But_runs : FuncData
  f_But_words : Addr
  d_But_words : FuncData
  c_RoadError : Addr
  c_BadClock : Addr
  c_BadRule : Addr
  c_TooMany : Addr
  c_BadName : Addr
  c_Twice : Addr
  c_NoStop : Addr
  c_BadNumber : Addr
  c_BadCalls : Addr
  c_NoRun : Addr
  c_TooLate : Addr
  c_NoTraveller : Addr
  c_BadLine : Addr
  c_Rule : Addr
  c_Week : Addr
  c_Span : Addr
  c_Each : Addr
  c_Either : Addr
  c_Both : Addr
  c_But : Addr
structure Tab (K : W.Frag) (mg : Str → Option Value) (t : Adr) : Prop where
  z_ValueError : mg "ValueError" = none
  z_all : mg "all" = none
  z_bool : mg "bool" = none
  z_int : mg "int" = none
  z_isinstance : mg "isinstance" = none
  z_len : mg "len" = none
  z_list : mg "list" = none
  z_max : mg "max" = none
  z_min : mg "min" = none
  z_range : mg "range" = none
  z_set : mg "set" = none
  z_sorted : mg "sorted" = none
  z_str : mg "str" = none
  z_sum : mg "sum" = none
  z_tuple : mg "tuple" = none
  m_LAST_DAY : ∃ tk, mg "LAST_DAY" = some (.int 9999 tk)
  m_WEEK_DAYS : ∃ tk, mg "WEEK_DAYS" = some (.int 7 tk)
  m_ALL_WEEK : ∃ tk, mg "ALL_WEEK" = some (.int 127 tk)
  m_MOST_LENGTH : ∃ tk, mg "MOST_LENGTH" = some (.int 28 tk)
  m_MOST_LISTED : ∃ tk, mg "MOST_LISTED" = some (.int 12 tk)
  m_MOST_WEIGHT : ∃ tk, mg "MOST_WEIGHT" = some (.int 15 tk)
  m_MOST_DEPTH : ∃ tk, mg "MOST_DEPTH" = some (.int 8 tk)
  F_is_any_number : Fun K "is_any_number" "is_any_number" s_is_any_number t.f_is_any_number t.d_is_any_number
  m_is_any_number : mg "is_any_number" = some (.ref t.f_is_any_number)
  b_is_any_number : Binds K t.d_is_any_number ["value"] []
  F_is_number : Fun K "is_number" "is_number" s_is_number t.f_is_number t.d_is_number
  m_is_number : mg "is_number" = some (.ref t.f_is_number)
  b_is_number : Binds K t.d_is_number ["value", "least", "most"] []
  F_are_rising : Fun K "are_rising" "are_rising" s_are_rising t.f_are_rising t.d_are_rising
  m_are_rising : mg "are_rising" = some (.ref t.f_are_rising)
  b_are_rising : Binds K t.d_are_rising ["values", "longest", "least", "most"] []
  F_copy_of : Fun K "copy_of" "copy_of" s_copy_of t.f_copy_of t.d_copy_of
  m_copy_of : mg "copy_of" = some (.ref t.f_copy_of)
  b_copy_of : Binds K t.d_copy_of ["rule"] []
  F_check_size : Fun K "check_size" "check_size" s_check_size t.f_check_size t.d_check_size
  m_check_size : mg "check_size" = some (.ref t.f_check_size)
  b_check_size : Binds K t.d_check_size ["rule"] []
  F_list_text : Fun K "list_text" "list_text" s_list_text t.f_list_text t.d_list_text
  m_list_text : mg "list_text" = some (.ref t.f_list_text)
  b_list_text : Binds K t.d_list_text ["numbers"] []
  F_law_cell : Fun K "_law_cell" "_law_cell" s_law_cell t.f_law_cell t.d_law_cell
  m_law_cell : mg "_law_cell" = some (.ref t.f_law_cell)
  b_law_cell : Binds K t.d_law_cell ["_law_script", "_law_k"] []
  F_law_draw : Fun K "_law_draw" "_law_draw" s_law_draw t.f_law_draw t.d_law_draw
  m_law_draw : mg "_law_draw" = some (.ref t.f_law_draw)
  b_law_draw : Binds K t.d_law_draw ["_law_script", "_law_tape", "_law_many"] []
  F_law_whole : Fun K "_law_whole" "_law_whole" s_law_whole t.f_law_whole t.d_law_whole
  m_law_whole : mg "_law_whole" = some (.ref t.f_law_whole)
  b_law_whole : Binds K t.d_law_whole ["_law_found"] []
  F_law_rising : Fun K "_law_rising" "_law_rising" s_law_rising t.f_law_rising t.d_law_rising
  m_law_rising : mg "_law_rising" = some (.ref t.f_law_rising)
  b_law_rising : Binds K t.d_law_rising ["_law_script", "_law_tape", "_law_least", "_law_most"] []
  F_law_leaf : Fun K "_law_leaf" "_law_leaf" s_law_leaf t.f_law_leaf t.d_law_leaf
  m_law_leaf : mg "_law_leaf" = some (.ref t.f_law_leaf)
  b_law_leaf : Binds K t.d_law_leaf ["_law_script", "_law_tape"] []
  F_law_tree : Fun K "_law_tree" "_law_tree" s_law_tree t.f_law_tree t.d_law_tree
  m_law_tree : mg "_law_tree" = some (.ref t.f_law_tree)
  b_law_tree : Binds K t.d_law_tree ["_law_script", "_law_tape", "_law_room", "_law_deep"] []
  F_law_made : Fun K "_law_made" "_law_made" s_law_made t.f_law_made t.d_law_made
  m_law_made : mg "_law_made" = some (.ref t.f_law_made)
  b_law_made : Binds K t.d_law_made ["_law_tree_here"] []
  F_law_runs : Fun K "_law_runs" "_law_runs" s_law_runs t.f_law_runs t.d_law_runs
  m_law_runs : mg "_law_runs" = some (.ref t.f_law_runs)
  b_law_runs : Binds K t.d_law_runs ["_law_tree_here", "_law_day"] []
  F_law_words : Fun K "_law_words" "_law_words" s_law_words t.f_law_words t.d_law_words
  m_law_words : mg "_law_words" = some (.ref t.f_law_words)
  b_law_words : Binds K t.d_law_words ["_law_tree_here"] []
  F_law_within : Fun K "_law_within" "_law_within" s_law_within t.f_law_within t.d_law_within
  m_law_within : mg "_law_within" = some (.ref t.f_law_within)
  b_law_within : Binds K t.d_law_within ["_law_tree_here"] []
  F_law_weight : Fun K "_law_weight" "_law_weight" s_law_weight t.f_law_weight t.d_law_weight
  m_law_weight : mg "_law_weight" = some (.ref t.f_law_weight)
  b_law_weight : Binds K t.d_law_weight ["_law_tree_here"] []
  F_law_depth : Fun K "_law_depth" "_law_depth" s_law_depth t.f_law_depth t.d_law_depth
  m_law_depth : mg "_law_depth" = some (.ref t.f_law_depth)
  b_law_depth : Binds K t.d_law_depth ["_law_tree_here"] []
  F_law_class : Fun K "_law_class" "_law_class" s_law_class t.f_law_class t.d_law_class
  m_law_class : mg "_law_class" = some (.ref t.f_law_class)
  b_law_class : Binds K t.d_law_class ["_law_error"] []
  F_law_days : Fun K "_law_days" "_law_days" s_law_days t.f_law_days t.d_law_days
  m_law_days : mg "_law_days" = some (.ref t.f_law_days)
  b_law_days : Binds K t.d_law_days ["_law_tree_here"] []
  F_law_tried : Fun K "_law_tried" "_law_tried" s_law_tried t.f_law_tried t.d_law_tried
  m_law_tried : mg "_law_tried" = some (.ref t.f_law_tried)
  b_law_tried : Binds K t.d_law_tried ["_law_which", "_law_one", "_law_two", "_law_rule"] []
  F_law_refused : Fun K "_law_refused" "_law_refused" s_law_refused t.f_law_refused t.d_law_refused
  m_law_refused : mg "_law_refused" = some (.ref t.f_law_refused)
  b_law_refused : Binds K t.d_law_refused ["_law_number", "_law_rule"] []
  F_law_heavy : Fun K "_law_heavy" "_law_heavy" s_law_heavy t.f_law_heavy t.d_law_heavy
  m_law_heavy : mg "_law_heavy" = some (.ref t.f_law_heavy)
  b_law_heavy : Binds K t.d_law_heavy ["_law_script", "_law_tape"] []
  F_law_right : Fun K "_law_right" "_law_right" s_law_right t.f_law_right t.d_law_right
  m_law_right : mg "_law_right" = some (.ref t.f_law_right)
  b_law_right : Binds K t.d_law_right ["_law_tree_here", "_law_rule", "_law_day"] []
  F_law : Fun K "law" "law" s_law t.f_law t.d_law
  m_law : mg "law" = some (.ref t.f_law)
  b_law : Binds K t.d_law ["_law_script"] []
  F_Rule_copied : Fun K "copied" "Rule.copied" s_Rule_copied t.f_Rule_copied t.d_Rule_copied
  b_Rule_copied : Binds K t.d_Rule_copied ["self"] []
  F_Rule_parts : Fun K "parts" "Rule.parts" s_Rule_parts t.f_Rule_parts t.d_Rule_parts
  b_Rule_parts : Binds K t.d_Rule_parts ["self"] []
  F_Rule_runs : Fun K "runs" "Rule.runs" s_Rule_runs t.f_Rule_runs t.d_Rule_runs
  b_Rule_runs : Binds K t.d_Rule_runs ["self", "day"] []
  F_Rule_words : Fun K "words" "Rule.words" s_Rule_words t.f_Rule_words t.d_Rule_words
  b_Rule_words : Binds K t.d_Rule_words ["self"] []
  F_Rule_weight : Fun K "weight" "Rule.weight" s_Rule_weight t.f_Rule_weight t.d_Rule_weight
  b_Rule_weight : Binds K t.d_Rule_weight ["self"] []
  F_Rule_depth : Fun K "depth" "Rule.depth" s_Rule_depth t.f_Rule_depth t.d_Rule_depth
  b_Rule_depth : Binds K t.d_Rule_depth ["self"] []
  F_Week_init : Fun K "__init__" "Week.__init__" s_Week_init t.f_Week_init t.d_Week_init
  b_Week_init : Binds K t.d_Week_init ["self", "bits"] []
  F_Week_copied : Fun K "copied" "Week.copied" s_Week_copied t.f_Week_copied t.d_Week_copied
  b_Week_copied : Binds K t.d_Week_copied ["self"] []
  F_Week_runs : Fun K "runs" "Week.runs" s_Week_runs t.f_Week_runs t.d_Week_runs
  b_Week_runs : Binds K t.d_Week_runs ["self", "day"] []
  F_Week_words : Fun K "words" "Week.words" s_Week_words t.f_Week_words t.d_Week_words
  b_Week_words : Binds K t.d_Week_words ["self"] []
  F_Span_init : Fun K "__init__" "Span.__init__" s_Span_init t.f_Span_init t.d_Span_init
  b_Span_init : Binds K t.d_Span_init ["self", "first", "last", "rule"] []
  F_Span_copied : Fun K "copied" "Span.copied" s_Span_copied t.f_Span_copied t.d_Span_copied
  b_Span_copied : Binds K t.d_Span_copied ["self"] []
  F_Span_parts : Fun K "parts" "Span.parts" s_Span_parts t.f_Span_parts t.d_Span_parts
  b_Span_parts : Binds K t.d_Span_parts ["self"] []
  F_Span_runs : Fun K "runs" "Span.runs" s_Span_runs t.f_Span_runs t.d_Span_runs
  b_Span_runs : Binds K t.d_Span_runs ["self", "day"] []
  F_Span_words : Fun K "words" "Span.words" s_Span_words t.f_Span_words t.d_Span_words
  b_Span_words : Binds K t.d_Span_words ["self"] []
  F_Each_init : Fun K "__init__" "Each.__init__" s_Each_init t.f_Each_init t.d_Each_init
  b_Each_init : Binds K t.d_Each_init ["self", "length", "starts"] []
  F_Each_copied : Fun K "copied" "Each.copied" s_Each_copied t.f_Each_copied t.d_Each_copied
  b_Each_copied : Binds K t.d_Each_copied ["self"] []
  F_Each_runs : Fun K "runs" "Each.runs" s_Each_runs t.f_Each_runs t.d_Each_runs
  b_Each_runs : Binds K t.d_Each_runs ["self", "day"] []
  F_Each_words : Fun K "words" "Each.words" s_Each_words t.f_Each_words t.d_Each_words
  b_Each_words : Binds K t.d_Each_words ["self"] []
  F_Either_init : Fun K "__init__" "Either.__init__" s_Either_init t.f_Either_init t.d_Either_init
  b_Either_init : Binds K t.d_Either_init ["self", "one", "other"] []
  F_Either_copied : Fun K "copied" "Either.copied" s_Either_copied t.f_Either_copied t.d_Either_copied
  b_Either_copied : Binds K t.d_Either_copied ["self"] []
  F_Either_parts : Fun K "parts" "Either.parts" s_Either_parts t.f_Either_parts t.d_Either_parts
  b_Either_parts : Binds K t.d_Either_parts ["self"] []
  F_Either_runs : Fun K "runs" "Either.runs" s_Either_runs t.f_Either_runs t.d_Either_runs
  b_Either_runs : Binds K t.d_Either_runs ["self", "day"] []
  F_Either_words : Fun K "words" "Either.words" s_Either_words t.f_Either_words t.d_Either_words
  b_Either_words : Binds K t.d_Either_words ["self"] []
  F_Both_init : Fun K "__init__" "Both.__init__" s_Both_init t.f_Both_init t.d_Both_init
  b_Both_init : Binds K t.d_Both_init ["self", "one", "other"] []
  F_Both_copied : Fun K "copied" "Both.copied" s_Both_copied t.f_Both_copied t.d_Both_copied
  b_Both_copied : Binds K t.d_Both_copied ["self"] []
  F_Both_parts : Fun K "parts" "Both.parts" s_Both_parts t.f_Both_parts t.d_Both_parts
  b_Both_parts : Binds K t.d_Both_parts ["self"] []
  F_Both_runs : Fun K "runs" "Both.runs" s_Both_runs t.f_Both_runs t.d_Both_runs
  b_Both_runs : Binds K t.d_Both_runs ["self", "day"] []
  F_Both_words : Fun K "words" "Both.words" s_Both_words t.f_Both_words t.d_Both_words
  b_Both_words : Binds K t.d_Both_words ["self"] []
  F_But_init : Fun K "__init__" "But.__init__" s_But_init t.f_But_init t.d_But_init
  b_But_init : Binds K t.d_But_init ["self", "days", "rule"] []
  F_But_copied : Fun K "copied" "But.copied" s_But_copied t.f_But_copied t.d_But_copied
  b_But_copied : Binds K t.d_But_copied ["self"] []
  F_But_parts : Fun K "parts" "But.parts" s_But_parts t.f_But_parts t.d_But_parts
  b_But_parts : Binds K t.d_But_parts ["self"] []
  F_But_runs : Fun K "runs" "But.runs" s_But_runs t.f_But_runs t.d_But_runs
  b_But_runs : Binds K t.d_But_runs ["self", "day"] []
  F_But_words : Fun K "words" "But.words" s_But_words t.f_But_words t.d_But_words
  b_But_words : Binds K t.d_But_words ["self"] []
  cl_Rule : Cls K t.c_Rule
  mkn_Rule : MkN K t.c_Rule
  me_Rule_copied : Meth K t.c_Rule "copied" t.f_Rule_copied
  me_Rule_depth : Meth K t.c_Rule "depth" t.f_Rule_depth
  me_Rule_parts : Meth K t.c_Rule "parts" t.f_Rule_parts
  me_Rule_runs : Meth K t.c_Rule "runs" t.f_Rule_runs
  me_Rule_weight : Meth K t.c_Rule "weight" t.f_Rule_weight
  me_Rule_words : Meth K t.c_Rule "words" t.f_Rule_words
  cl_Week : Cls K t.c_Week
  mk_Week : Mk K t.c_Week t.f_Week_init
  me_Week_copied : Meth K t.c_Week "copied" t.f_Week_copied
  me_Week_depth : Meth K t.c_Week "depth" t.f_Rule_depth
  me_Week_parts : Meth K t.c_Week "parts" t.f_Rule_parts
  me_Week_runs : Meth K t.c_Week "runs" t.f_Week_runs
  me_Week_weight : Meth K t.c_Week "weight" t.f_Rule_weight
  me_Week_words : Meth K t.c_Week "words" t.f_Week_words
  na_Week_bits : NoAttr K t.c_Week "bits"
  cl_Span : Cls K t.c_Span
  mk_Span : Mk K t.c_Span t.f_Span_init
  me_Span_copied : Meth K t.c_Span "copied" t.f_Span_copied
  me_Span_depth : Meth K t.c_Span "depth" t.f_Rule_depth
  me_Span_parts : Meth K t.c_Span "parts" t.f_Span_parts
  me_Span_runs : Meth K t.c_Span "runs" t.f_Span_runs
  me_Span_weight : Meth K t.c_Span "weight" t.f_Rule_weight
  me_Span_words : Meth K t.c_Span "words" t.f_Span_words
  na_Span_first : NoAttr K t.c_Span "first"
  na_Span_last : NoAttr K t.c_Span "last"
  na_Span_inner : NoAttr K t.c_Span "inner"
  cl_Each : Cls K t.c_Each
  mk_Each : Mk K t.c_Each t.f_Each_init
  me_Each_copied : Meth K t.c_Each "copied" t.f_Each_copied
  me_Each_depth : Meth K t.c_Each "depth" t.f_Rule_depth
  me_Each_parts : Meth K t.c_Each "parts" t.f_Rule_parts
  me_Each_runs : Meth K t.c_Each "runs" t.f_Each_runs
  me_Each_weight : Meth K t.c_Each "weight" t.f_Rule_weight
  me_Each_words : Meth K t.c_Each "words" t.f_Each_words
  na_Each_length : NoAttr K t.c_Each "length"
  na_Each_starts : NoAttr K t.c_Each "starts"
  cl_Either : Cls K t.c_Either
  mk_Either : Mk K t.c_Either t.f_Either_init
  me_Either_copied : Meth K t.c_Either "copied" t.f_Either_copied
  me_Either_depth : Meth K t.c_Either "depth" t.f_Rule_depth
  me_Either_parts : Meth K t.c_Either "parts" t.f_Either_parts
  me_Either_runs : Meth K t.c_Either "runs" t.f_Either_runs
  me_Either_weight : Meth K t.c_Either "weight" t.f_Rule_weight
  me_Either_words : Meth K t.c_Either "words" t.f_Either_words
  na_Either_one : NoAttr K t.c_Either "one"
  na_Either_other : NoAttr K t.c_Either "other"
  cl_Both : Cls K t.c_Both
  mk_Both : Mk K t.c_Both t.f_Both_init
  me_Both_copied : Meth K t.c_Both "copied" t.f_Both_copied
  me_Both_depth : Meth K t.c_Both "depth" t.f_Rule_depth
  me_Both_parts : Meth K t.c_Both "parts" t.f_Both_parts
  me_Both_runs : Meth K t.c_Both "runs" t.f_Both_runs
  me_Both_weight : Meth K t.c_Both "weight" t.f_Rule_weight
  me_Both_words : Meth K t.c_Both "words" t.f_Both_words
  na_Both_one : NoAttr K t.c_Both "one"
  na_Both_other : NoAttr K t.c_Both "other"
  cl_But : Cls K t.c_But
  mk_But : Mk K t.c_But t.f_But_init
  me_But_copied : Meth K t.c_But "copied" t.f_But_copied
  me_But_depth : Meth K t.c_But "depth" t.f_Rule_depth
  me_But_parts : Meth K t.c_But "parts" t.f_But_parts
  me_But_runs : Meth K t.c_But "runs" t.f_But_runs
  me_But_weight : Meth K t.c_But "weight" t.f_Rule_weight
  me_But_words : Meth K t.c_But "words" t.f_But_words
  na_But_days : NoAttr K t.c_But "days"
  na_But_inner : NoAttr K t.c_But "inner"
  ow_Rule : OwnC K t.c_Rule
  ki_Rule_Rule : W.kitOne K (.ref t.c_Rule) (.ref t.c_Rule) = some true
  ow_Week : OwnC K t.c_Week
  ki_Week_Rule : W.kitOne K (.ref t.c_Week) (.ref t.c_Rule) = some true
  ow_Span : OwnC K t.c_Span
  ki_Span_Rule : W.kitOne K (.ref t.c_Span) (.ref t.c_Rule) = some true
  ow_Each : OwnC K t.c_Each
  ki_Each_Rule : W.kitOne K (.ref t.c_Each) (.ref t.c_Rule) = some true
  ow_Either : OwnC K t.c_Either
  ki_Either_Rule : W.kitOne K (.ref t.c_Either) (.ref t.c_Rule) = some true
  ow_Both : OwnC K t.c_Both
  ki_Both_Rule : W.kitOne K (.ref t.c_Both) (.ref t.c_Rule) = some true
  ow_But : OwnC K t.c_But
  ki_But_Rule : W.kitOne K (.ref t.c_But) (.ref t.c_Rule) = some true
  kt_NoneType_Rule : W.kitOne K (.type "NoneType") (.ref t.c_Rule) = some false
  kt_str_Rule : W.kitOne K (.type "str") (.ref t.c_Rule) = some false
  kt_int_Rule : W.kitOne K (.type "int") (.ref t.c_Rule) = some false
  kt_list_Rule : W.kitOne K (.type "list") (.ref t.c_Rule) = some false
  kt_dict_Rule : W.kitOne K (.type "dict") (.ref t.c_Rule) = some false
  kt_bool_Rule : W.kitOne K (.type "bool") (.ref t.c_Rule) = some false
  m_RoadError : mg "RoadError" = some (.ref t.c_RoadError)
  m_BadClock : mg "BadClock" = some (.ref t.c_BadClock)
  m_BadRule : mg "BadRule" = some (.ref t.c_BadRule)
  m_TooMany : mg "TooMany" = some (.ref t.c_TooMany)
  m_BadName : mg "BadName" = some (.ref t.c_BadName)
  m_Twice : mg "Twice" = some (.ref t.c_Twice)
  m_NoStop : mg "NoStop" = some (.ref t.c_NoStop)
  m_BadNumber : mg "BadNumber" = some (.ref t.c_BadNumber)
  m_BadCalls : mg "BadCalls" = some (.ref t.c_BadCalls)
  m_NoRun : mg "NoRun" = some (.ref t.c_NoRun)
  m_TooLate : mg "TooLate" = some (.ref t.c_TooLate)
  m_NoTraveller : mg "NoTraveller" = some (.ref t.c_NoTraveller)
  m_BadLine : mg "BadLine" = some (.ref t.c_BadLine)
  m_Rule : mg "Rule" = some (.ref t.c_Rule)
  m_Week : mg "Week" = some (.ref t.c_Week)
  m_Span : mg "Span" = some (.ref t.c_Span)
  m_Each : mg "Each" = some (.ref t.c_Each)
  m_Either : mg "Either" = some (.ref t.c_Either)
  m_Both : mg "Both" = some (.ref t.c_Both)
  m_But : mg "But" = some (.ref t.c_But)
  e_BadRule : ExC K t.c_BadRule
  i_BadRule : ExI K t.c_BadRule
  k_BadRule_BadClock : W.kitOne K (.ref t.c_BadRule) (.ref t.c_BadClock) = some false
  k_BadRule_BadRule : W.kitOne K (.ref t.c_BadRule) (.ref t.c_BadRule) = some true
  k_BadRule_TooMany : W.kitOne K (.ref t.c_BadRule) (.ref t.c_TooMany) = some false
  k_BadRule_BadName : W.kitOne K (.ref t.c_BadRule) (.ref t.c_BadName) = some false
  k_BadRule_Twice : W.kitOne K (.ref t.c_BadRule) (.ref t.c_Twice) = some false
  k_BadRule_NoStop : W.kitOne K (.ref t.c_BadRule) (.ref t.c_NoStop) = some false
  k_BadRule_BadNumber : W.kitOne K (.ref t.c_BadRule) (.ref t.c_BadNumber) = some false
  k_BadRule_BadCalls : W.kitOne K (.ref t.c_BadRule) (.ref t.c_BadCalls) = some false
  k_BadRule_NoRun : W.kitOne K (.ref t.c_BadRule) (.ref t.c_NoRun) = some false
  k_BadRule_TooLate : W.kitOne K (.ref t.c_BadRule) (.ref t.c_TooLate) = some false
  k_BadRule_NoTraveller : W.kitOne K (.ref t.c_BadRule) (.ref t.c_NoTraveller) = some false
  k_BadRule_BadLine : W.kitOne K (.ref t.c_BadRule) (.ref t.c_BadLine) = some false
  v_BadRule : W.kitOne K (.ref t.c_BadRule) (.type "ValueError") = some true
  x_BadRule : W.exmOne K (.ref t.c_BadRule) (.ref t.c_RoadError) = some true
  e_TooMany : ExC K t.c_TooMany
  i_TooMany : ExI K t.c_TooMany
  k_TooMany_BadClock : W.kitOne K (.ref t.c_TooMany) (.ref t.c_BadClock) = some false
  k_TooMany_BadRule : W.kitOne K (.ref t.c_TooMany) (.ref t.c_BadRule) = some false
  k_TooMany_TooMany : W.kitOne K (.ref t.c_TooMany) (.ref t.c_TooMany) = some true
  k_TooMany_BadName : W.kitOne K (.ref t.c_TooMany) (.ref t.c_BadName) = some false
  k_TooMany_Twice : W.kitOne K (.ref t.c_TooMany) (.ref t.c_Twice) = some false
  k_TooMany_NoStop : W.kitOne K (.ref t.c_TooMany) (.ref t.c_NoStop) = some false
  k_TooMany_BadNumber : W.kitOne K (.ref t.c_TooMany) (.ref t.c_BadNumber) = some false
  k_TooMany_BadCalls : W.kitOne K (.ref t.c_TooMany) (.ref t.c_BadCalls) = some false
  k_TooMany_NoRun : W.kitOne K (.ref t.c_TooMany) (.ref t.c_NoRun) = some false
  k_TooMany_TooLate : W.kitOne K (.ref t.c_TooMany) (.ref t.c_TooLate) = some false
  k_TooMany_NoTraveller : W.kitOne K (.ref t.c_TooMany) (.ref t.c_NoTraveller) = some false
  k_TooMany_BadLine : W.kitOne K (.ref t.c_TooMany) (.ref t.c_BadLine) = some false
  v_TooMany : W.kitOne K (.ref t.c_TooMany) (.type "ValueError") = some true
  x_TooMany : W.exmOne K (.ref t.c_TooMany) (.ref t.c_RoadError) = some true
section
variable {P : Program} {w : World} {K : W.Frag} {mg : Str → Option Value} {base : Heap} {t : Adr}
def spAnyN : Sp := fun vs H Q _ => ∃ (v : V) (T : String), vs = [v] ∧ Kd H v T ∧ Q (.bl (wholeV v)) H
theorem ok_is_any_number (Tx : Tab K mg t) : FnOk P w K mg base CX0 1 t.f_is_any_number t.d_is_any_number ["value"] spAnyN := by
  refine Tx.F_is_any_number.ok sc_is_any_number (fun vs H Q E h => ?_) (fun cdv A outer s H vs Q E hr h => ?_)
  · obtain ⟨v, T, rfl, _⟩ := h
    rfl
  obtain ⟨v, T, rfl, kd, q⟩ := h
  refine ⟨_, (pss_one (ps_ret (pe_and (pe_callB call_isi_ty rfl Tx.z_isinstance b_isinstance (pac (pv 0) (pac (pe_gty rfl Tx.z_int b_int) pa_nil))) (pe_one (pe_not (pe_callB call_isi_ty rfl Tx.z_isinstance b_isinstance (pac (pv 0) (pac (pe_gty rfl Tx.z_bool b_bool) pa_nil)))))))), ?_⟩
  refine ⟨_, rfl, v, "int", _, _, rfl, kd.ty, kit_int kd, _, rfl, ?_⟩
  cases kd with
  | non => exact itF (by decide) q
  | str x => exact itF (by decide) q
  | lst e => exact itF (by decide) q
  | tup e => exact itF (by decide) q
  | dK e => exact itF (by decide) q
  | bl b => exact itT (by decide) ⟨_, rfl, _, "bool", _, _, rfl, (Kd.bl b).ty (H := H), kit_bool (H := H) (.bl b), _, rfl, q⟩
  | int i => exact itT (by decide) ⟨_, rfl, _, "bool", _, _, rfl, (Kd.int i).ty (H := H), kit_bool (H := H) (.int i), _, rfl, q⟩

def spNum : Sp := fun vs H Q _ => ∃ (v : V) (lo hi : Int) (T : String), vs = [v, .int lo, .int hi] ∧ Kd H v T ∧ Q (.bl (numV v lo hi)) H
theorem ok_is_number (Tx : Tab K mg t) : FnOk P w K mg base CX0 2 t.f_is_number t.d_is_number ["value", "least", "most"] spNum := by
  refine Tx.F_is_number.ok sc_is_number (fun vs H Q E h => ?_) (fun cdv A outer s H vs Q E hr h => ?_)
  · obtain ⟨v, lo, hi, T, rfl, _⟩ := h
    rfl
  obtain ⟨v, lo, hi, T, rfl, kd, q⟩ := h
  refine ⟨_, (pss_one (ps_ret (pe_and (pe_call (ok_is_any_number Tx) (hr.mono (by omega)) rfl Tx.m_is_any_number Tx.F_is_any_number.kp Tx.b_is_any_number .nil pass0 (pac (pv 0) pa_nil)) (pe_one (pe_chain op_le op_le (pv 1) (pv 0) (pv 2)))))), ?_⟩
  refine ⟨_, rfl, v, T, rfl, kd, _, rfl, ?_⟩
  cases kd with
  | non => exact itF Bool.false_ne_true q
  | str x => exact itF Bool.false_ne_true q
  | lst e => exact itF Bool.false_ne_true q
  | tup e => exact itF Bool.false_ne_true q
  | dK e => exact itF Bool.false_ne_true q
  | bl b => exact itF Bool.false_ne_true q
  | int i =>
    refine itT rfl ?_
    refine ⟨_, rfl, _, rfl, _, _, rfl, rfl, _, rfl, ?_⟩
    refine ite2 (fun c => ?_) (fun c => ?_)
    · refine ⟨_, rfl, _, _, rfl, rfl, ?_⟩
      have c' : lo ≤ i := of_decide_eq_true c
      have e : decide (i ≤ hi) = numV (.int i) lo hi := by
        show decide (i ≤ hi) = decide (lo ≤ i ∧ i ≤ hi)
        exact decide_eq_decide.mpr ⟨fun z => ⟨c', z⟩, fun z => z.2⟩
      rw [← e] at q; exact q
    · have c' : ¬ lo ≤ i := of_decide_eq_false (Bool.eq_false_iff.mpr c)
      have e : false = numV (.int i) lo hi := by
        show false = decide (lo ≤ i ∧ i ≤ hi)
        exact (decide_eq_false fun z => c' z.1).symm
      rw [← e] at q; exact q


def spRis : Sp := fun vs H Q _ => ∃ (a : Addr) (ss : List Nat) (n lo : Nat) (hi : Int), vs = [.ref a, .int (n : Nat), .int (lo : Nat), .int hi] ∧ H a = some (.lst (natV ss)) ∧ 1 ≤ ss.length ∧ ss.length ≤ n ∧ ss.Pairwise (· < ·) ∧ (∀ x ∈ ss, lo ≤ x ∧ ((x : Nat) : Int) ≤ hi) ∧ Q (.bl true) H
theorem ok_are_rising (Tx : Tab K mg t) : FnOk P w K mg base CX0 3 t.f_are_rising t.d_are_rising ["values", "longest", "least", "most"] spRis := by
  refine Tx.F_are_rising.ok sc_are_rising (fun vs H Q E h => ?_) (fun cdv A outer s H vs Q E hr h => ?_)
  · obtain ⟨a, ss, n, lo, hi, rfl, _⟩ := h
    rfl
  obtain ⟨a, ss, n, lo, hi, rfl, ha, l1, l2, up, al, q⟩ := h
  refine ⟨_, (pss_cons (ps_if (PW.pt (pw_or (pt_not (pt_val (pe_callB call_isi_ty rfl Tx.z_isinstance b_isinstance (pac (pv 0) (pac (pe_gty rfl Tx.z_list b_list) pa_nil))))) (pw_or1 (pt_not (pt_chain op_le op_le pe_int (pe_callB call_len_seq rfl Tx.z_len b_len (pac (pv 0) pa_nil)) (pv 1))))))
    (pss_one (ps_ret pe_bl))
    pss_nil)
    (pss_cons (ps_set (i := 4) sc_are_rising.nd rfl (Or.inl rfl) (pv 2))
    (pss_cons (ps_for PassesOwn.never rfl (pi_list (pv 0)) (pg_name (i := 5) sc_are_rising.nd rfl (Or.inl rfl))
    (pss_cons (ps_if (pt_not (pt_val (pe_call (ok_is_number Tx) (hr.mono (by omega)) rfl Tx.m_is_number Tx.F_is_number.kp Tx.b_is_number .nil pass0 (pac (pv 5) (pac (pv 4) (pac (pv 3) pa_nil))))))
    (pss_one (ps_ret pe_bl))
    pss_nil)
    (pss_one (ps_set (i := 4) sc_are_rising.nd rfl (Or.inl rfl) (pe_op op_add (pv 5) pe_int)))))
    (pss_one (ps_ret pe_bl))))), ?_⟩
  have hlen : (natV ss).length = ss.length := List.length_map ..
  refine ⟨_, rfl, .ref a, "list", _, _, rfl, .lst ha, rfl, _, rfl, itF (by decide) ?_⟩
  refine ⟨_, rfl, a, _, rfl, .inl (SqL.of ha), _, _, rfl, rfl, _, rfl, itT (decide_eq_true (by rw [hlen]; omega)) ?_⟩
  refine ⟨_, rfl, _, _, rfl, rfl, _, rfl, itF (by rw [decide_eq_true (show (((natV ss).length : Nat) : Int) ≤ ((n : Nat) : Int) by rw [hlen]; omega)]; decide) ?_⟩
  refine ⟨_, rfl, _, rfl, a, rfl, ⟨_, SqL.of ha⟩, for_list (xs := natV ss) (fun i σ H' => H' = H ∧ ∃ (f : Nat) (v : Option V), σ = [some (.ref a), some (.int (n : Nat)), some (.int (lo : Nat)), some (.int hi), some (.int (f : Nat)), v] ∧ ∀ j x, i ≤ j → ss[j]? = some x → f ≤ x)
    ⟨rfl, lo, _, rfl, fun j x _ e => (al x (List.mem_of_getElem? e)).1⟩ (fun i σ H' _ ⟨e, _⟩ => by rw [e]; exact SqL.of ha) ?_ ?_⟩
  · rintro i x σ H' hx ⟨rfl, f, v, rfl, hf⟩
    rw [List.getElem?_map] at hx
    cases hs : ss[i]? with
    | none => rw [hs] at hx; cases hx
    | some m =>
      rw [hs] at hx
      obtain rfl : V.int ((m : Nat) : Int) = x := Option.some.inj hx
      have hm := al m (List.mem_of_getElem? hs)
      have fm := hf i m (Nat.le_refl _) hs
      refine ⟨_, rfl, _, rfl, _, rfl, .int (m : Nat), _, _, "int", rfl, .int _, _, rfl, itF (by rw [num_ok (by omega) hm.2]; decide) ?_⟩
      refine ⟨_, rfl, _, _, rfl, rfl, rfl, m + 1, _, rfl, fun j y hj e => ?_⟩
      have := List.pairwise_iff_getElem.mp up i j (List.getElem?_eq_some_iff.mp hs).1 (List.getElem?_eq_some_iff.mp e).1 (by omega)
      rw [(List.getElem?_eq_some_iff.mp hs).2, (List.getElem?_eq_some_iff.mp e).2] at this
      exact this
  · rintro σ H' ⟨rfl, f, v, rfl, _⟩
    exact q

def intOf : V → Int
  | .int i => i
  | _ => 0
def risB (lo hi : Int) : List V → Bool
  | [] => true
  | x :: r => numV x lo hi && risB (intOf x + 1) hi r
theorem kit_list {K : W.Frag} {H : Hp} {v : V} {T : String} (k : Kd H v T) : W.kitOne K (.type T) (.type "list") = some (decide (T = "list")) := by
  cases k <;> rfl
def spRisG : Sp := fun vs H Q _ => ∃ (v : V) (n lo hi : Int), vs = [v, .int n, .int lo, .int hi] ∧
  ((∃ T, Kd H v T ∧ T ≠ "list" ∧ Q (.bl false) H) ∨ (∃ (a : Addr) (xs : List V), v = .ref a ∧ H a = some (.lst xs) ∧ (∀ x ∈ xs, ∃ T, Kd H x T) ∧ Q (.bl (decide (1 ≤ xs.length ∧ (xs.length : Int) ≤ n) && risB lo hi xs)) H))
theorem rising_any (Tx : Tab K mg t) : FnOk P w K mg base CX0 3 t.f_are_rising t.d_are_rising ["values", "longest", "least", "most"] spRisG := by
  refine Tx.F_are_rising.ok sc_are_rising (fun vs H Q E h => ?_) (fun cdv A outer s H vs Q E hr h => ?_)
  · obtain ⟨v, n, lo, hi, rfl, _⟩ := h
    rfl
  obtain ⟨v, n, lo, hi, rfl, h⟩ := h
  refine ⟨_, (pss_cons (ps_if (PW.pt (pw_or (pt_not (pt_val (pe_callB call_isi_ty rfl Tx.z_isinstance b_isinstance (pac (pv 0) (pac (pe_gty rfl Tx.z_list b_list) pa_nil))))) (pw_or1 (pt_not (pt_chain op_le op_le pe_int (pe_callB call_len_seq rfl Tx.z_len b_len (pac (pv 0) pa_nil)) (pv 1))))))
    (pss_one (ps_ret pe_bl))
    pss_nil)
    (pss_cons (ps_set (i := 4) sc_are_rising.nd rfl (Or.inl rfl) (pv 2))
    (pss_cons (ps_for PassesOwn.never rfl (pi_list (pv 0)) (pg_name (i := 5) sc_are_rising.nd rfl (Or.inl rfl))
    (pss_cons (ps_if (pt_not (pt_val (pe_call (ok_is_number Tx) (hr.mono (by omega)) rfl Tx.m_is_number Tx.F_is_number.kp Tx.b_is_number .nil pass0 (pac (pv 5) (pac (pv 4) (pac (pv 3) pa_nil))))))
    (pss_one (ps_ret pe_bl))
    pss_nil)
    (pss_one (ps_set (i := 4) sc_are_rising.nd rfl (Or.inl rfl) (pe_op op_add (pv 5) pe_int)))))
    (pss_one (ps_ret pe_bl))))), ?_⟩
  rcases h with ⟨T, kd, hT, q⟩ | ⟨a, xs, rfl, ha, hk, q⟩
  · exact ⟨_, rfl, v, "list", _, _, rfl, kd.ty, kit_list kd, _, rfl, itT (by rw [decide_eq_false hT]; rfl) q⟩
  refine ⟨_, rfl, .ref a, "list", _, _, rfl, .lst ha, rfl, _, rfl, itF (by decide) ?_⟩
  refine ⟨_, rfl, a, _, rfl, .inl (SqL.of ha), _, _, rfl, rfl, _, rfl, ?_⟩
  by_cases l1 : 1 ≤ xs.length
  rotate_left
  · refine itF (by rw [decide_eq_false (by omega)]; decide) ?_
    refine ⟨_, rfl, itT rfl ?_⟩
    rw [decide_eq_false (fun z => l1 z.1), Bool.false_and] at q
    exact q
  refine itT (decide_eq_true (by omega)) ⟨_, rfl, _, _, rfl, rfl, _, rfl, ?_⟩
  by_cases l2 : (xs.length : Int) ≤ n
  rotate_left
  · refine itT (by rw [decide_eq_false l2]; rfl) ?_
    rw [decide_eq_false (fun z => l2 z.2), Bool.false_and] at q
    exact q
  refine itF (by rw [decide_eq_true l2]; decide) ?_
  rw [decide_eq_true ⟨l1, l2⟩, Bool.true_and] at q
  refine ⟨_, rfl, _, rfl, a, rfl, ⟨_, SqL.of ha⟩, for_list (xs := xs) (fun i σ H' => H' = H ∧ ∃ (f : Int) (u : Option V), σ = [some (.ref a), some (.int n), some (.int lo), some (.int hi), some (.int f), u] ∧ risB lo hi xs = risB f hi (xs.drop i))
    ⟨rfl, lo, _, rfl, rfl⟩ (fun i σ H' _ ⟨e, _⟩ => by rw [e]; exact SqL.of ha) ?_ ?_⟩
  · rintro i x σ H' hx ⟨rfl, f, u, rfl, hf⟩
    have hi' : i < xs.length := (List.getElem?_eq_some_iff.mp hx).1
    have ed : xs.drop i = x :: xs.drop (i + 1) := by
      rw [List.drop_eq_getElem_cons hi', (List.getElem?_eq_some_iff.mp hx).2]
    rw [ed] at hf
    obtain ⟨T, kx⟩ := hk x (List.mem_of_getElem? hx)
    refine ⟨_, rfl, _, rfl, _, rfl, x, f, hi, T, rfl, kx, _, rfl, ?_⟩
    cases hn : numV x f hi with
    | false =>
      refine itT rfl ?_
      have e : risB lo hi xs = false := by
        rw [hf]
        show (numV x f hi && _) = false
        rw [hn]
        rfl
      rw [e] at q
      exact q
    | true =>
      refine itF (by decide) ?_
      cases x with
      | int m =>
        refine ⟨_, rfl, _, _, rfl, rfl, rfl, m + 1, _, rfl, ?_⟩
        rw [hf]
        show (numV (.int m) f hi && risB (m + 1) hi (xs.drop (i + 1))) = _
        rw [hn, Bool.true_and]
      | _ => cases hn
  · rintro σ H' ⟨rfl, f, u, rfl, hf⟩
    rw [List.drop_length] at hf
    have e : risB lo hi xs = true := hf
    rw [e] at q
    exact q

abbrev rc (t : Adr) : RC := ⟨t.c_Rule, t.c_Week, t.c_Span, t.c_Each, t.c_Either, t.c_Both, t.c_But⟩
def spRuns (c : RC) (K : W.Frag) (q : RT → Prop) (n : Nat) : Sp := fun vs H Q _ => ∃ (a : Addr) (r : RT) (d : Nat), vs = [.ref a, .int (d : Nat)] ∧ RAt c K H a r ∧ q r ∧ r.depth ≤ n ∧ Q (.bl (r.runs d)) H
def isAlways : RT → Prop | .always => True | _ => False
def isWeek : RT → Prop | .week _ => True | _ => False
def isSpan : RT → Prop | .span _ _ _ => True | _ => False
def isEach : RT → Prop | .each _ _ => True | _ => False
def isEither : RT → Prop | .either _ _ => True | _ => False
def isBoth : RT → Prop | .both _ _ => True | _ => False
def isBut : RT → Prop | .but _ _ => True | _ => False
structure RunsOk (P : Program) (w : World) (K : W.Frag) (mg : Str → Option Value) (base : Heap) (t : Adr) (n : Nat) : Prop where
  rule : FnOk P w K mg base CX0 (n + 1) t.f_Rule_runs t.d_Rule_runs ["self", "day"] (spRuns (rc t) K isAlways n)
  week : FnOk P w K mg base CX0 (n + 1) t.f_Week_runs t.d_Week_runs ["self", "day"] (spRuns (rc t) K isWeek n)
  span : FnOk P w K mg base CX0 (n + 1) t.f_Span_runs t.d_Span_runs ["self", "day"] (spRuns (rc t) K isSpan n)
  each : FnOk P w K mg base CX0 (n + 1) t.f_Each_runs t.d_Each_runs ["self", "day"] (spRuns (rc t) K isEach n)
  either : FnOk P w K mg base CX0 (n + 1) t.f_Either_runs t.d_Either_runs ["self", "day"] (spRuns (rc t) K isEither n)
  both : FnOk P w K mg base CX0 (n + 1) t.f_Both_runs t.d_Both_runs ["self", "day"] (spRuns (rc t) K isBoth n)
  but : FnOk P w K mg base CX0 (n + 1) t.f_But_runs t.d_But_runs ["self", "day"] (spRuns (rc t) K isBut n)
theorem RunsOk.at {n : Nat} (R : RunsOk P w K mg base t n) (Tx : Tab K mg t) {H : Hp} {a : Addr} {r : RT} (h : RAt (rc t) K H a r) (hn : r.depth ≤ n) :
    ∃ (C dx : Addr) (fs : List (Str × V)) (f : Addr) (fd : FuncData) (sp : Sp), H a = some (.ins C dx fs) ∧ fs.lookup ("runs" : Str) = none ∧ Cls K C ∧ Meth K C "runs" f ∧ FnOk P w K mg base CX0 (n + 1) f fd ["self", "day"] sp ∧ Binds K fd ["self", "day"] [] ∧
      ∀ (d : Nat) (Q : VK), Q (.bl (r.runs d)) H → sp [.ref a, .int (d : Nat)] H Q E0 := by
  cases h with
  | always h => exact ⟨_, _, _, _, _, _, h, rfl, Tx.cl_Rule, Tx.me_Rule_runs, R.rule, Tx.b_Rule_runs, fun d Q q => ⟨a, _, d, rfl, .always h, trivial, hn, q⟩⟩
  | week h hb => exact ⟨_, _, _, _, _, _, h, rfl, Tx.cl_Week, Tx.me_Week_runs, R.week, Tx.b_Week_runs, fun d Q q => ⟨a, _, d, rfl, .week h hb, trivial, hn, q⟩⟩
  | span h hx hy hi => exact ⟨_, _, _, _, _, _, h, rfl, Tx.cl_Span, Tx.me_Span_runs, R.span, Tx.b_Span_runs, fun d Q q => ⟨a, _, d, rfl, .span h hx hy hi, trivial, hn, q⟩⟩
  | each h h1 h2 hp => exact ⟨_, _, _, _, _, _, h, rfl, Tx.cl_Each, Tx.me_Each_runs, R.each, Tx.b_Each_runs, fun d Q q => ⟨a, _, d, rfl, .each h h1 h2 hp, trivial, hn, q⟩⟩
  | either h hi hj => exact ⟨_, _, _, _, _, _, h, rfl, Tx.cl_Either, Tx.me_Either_runs, R.either, Tx.b_Either_runs, fun d Q q => ⟨a, _, d, rfl, .either h hi hj, trivial, hn, q⟩⟩
  | both h hi hj => exact ⟨_, _, _, _, _, _, h, rfl, Tx.cl_Both, Tx.me_Both_runs, R.both, Tx.b_Both_runs, fun d Q q => ⟨a, _, d, rfl, .both h hi hj, trivial, hn, q⟩⟩
  | but h hp hi => exact ⟨_, _, _, _, _, _, h, rfl, Tx.cl_But, Tx.me_But_runs, R.but, Tx.b_But_runs, fun d Q q => ⟨a, _, d, rfl, .but h hp hi, trivial, hn, q⟩⟩
theorem runs_rule (Tx : Tab K mg t) (n : Nat) : FnOk P w K mg base CX0 (n + 1) t.f_Rule_runs t.d_Rule_runs ["self", "day"] (spRuns (rc t) K isAlways n) := by
  refine Tx.F_Rule_runs.ok sc_Rule_runs (fun vs H Q E h => ?_) (fun cdv A outer s H vs Q E hr h => ?_)
  · obtain ⟨a, r, d, rfl, _⟩ := h
    rfl
  obtain ⟨a, r, d, rfl, h, hq, hn, q⟩ := h
  refine ⟨_, (pss_one (ps_ret pe_bl)), ?_⟩
  cases r <;> first | exact q | exact hq.elim
theorem runs_week (Tx : Tab K mg t) (n : Nat) : FnOk P w K mg base CX0 (n + 1) t.f_Week_runs t.d_Week_runs ["self", "day"] (spRuns (rc t) K isWeek n) := by
  refine Tx.F_Week_runs.ok sc_Week_runs (fun vs H Q E h => ?_) (fun cdv A outer s H vs Q E hr h => ?_)
  · obtain ⟨a, r, d, rfl, _⟩ := h
    rfl
  obtain ⟨a, r, d, rfl, h, hq, hn, q⟩ := h
  refine ⟨_, (pss_one (ps_ret (pe_cmpR op_eq (pe_op op_and (pe_op op_shr (pe_fld (pv 0) rfl) (pe_op op_mod (pv 1) (pe_gintE rfl Tx.m_WEEK_DAYS))) pe_int) pe_int (nomark _)))), ?_⟩
  cases h with
  | week h hb =>
    rename_i dx b
    refine ⟨_, rfl, a, _, _, _, _, rfl, h, Tx.cl_Week, Tx.na_Week_bits, rfl, _, rfl, _, _, rfl, rfl, (by show (0 : Int) < 7; decide), _, _, rfl, rfl, Int.emod_nonneg _ (by decide), _, _, rfl, rfl, rfl, ?_⟩
    have e : (((d : Nat) : Int) % 7).toNat = d % 7 := by omega
    have e2 : decide (V.int (Builtin.bitAnd (((b : Nat) : Int) / 2 ^ (((d : Nat) : Int) % 7).toNat) 1) = V.int 1) = (RT.week b).runs d := by
      rw [e]
      have := bit_of b (d % 7)
      rw [dec_int]
      exact this
    rw [← e2] at q
    exact q
  | _ => exact hq.elim
theorem runs_each (Tx : Tab K mg t) (n : Nat) : FnOk P w K mg base CX0 (n + 1) t.f_Each_runs t.d_Each_runs ["self", "day"] (spRuns (rc t) K isEach n) := by
  refine Tx.F_Each_runs.ok sc_Each_runs (fun vs H Q E h => ?_) (fun cdv A outer s H vs Q E hr h => ?_)
  · obtain ⟨a, r, d, rfl, _⟩ := h
    rfl
  obtain ⟨a, r, d, rfl, h, hq, hn, q⟩ := h
  refine ⟨_, (pss_one (ps_ret (pe_cmpR op_in_seq (pe_op op_mod (pv 1) (pe_fld (pv 0) rfl)) (pe_fld (pv 0) rfl) rfl))), ?_⟩
  cases h with
  | each h h1 h2 hp =>
    rename_i dx p m ss
    refine ⟨_, rfl, _, rfl, a, _, _, _, _, rfl, h, Tx.cl_Each, Tx.na_Each_length, rfl, _, _, rfl, rfl, (by show (0 : Int) < _; omega), _, rfl, a, _, _, _, _, rfl, h, Tx.cl_Each, Tx.na_Each_starts, rfl, p, _, rfl, .inr hp, rfl, flat_nats ss, ?_⟩
    have e : ((d : Nat) : Int) % ((m : Nat) : Int) = ((d % m : Nat) : Int) := by omega
    have e2 : inV (.int (((d : Nat) : Int) % ((m : Nat) : Int))) (natV ss) = (RT.each m ss).runs d := by
      rw [e]
      exact inV_nats (d % m) ss
    rw [← e2] at q
    exact q
  | _ => exact hq.elim
theorem runs_span (Tx : Tab K mg t) (n : Nat) (R : RunsOk P w K mg base t n) : FnOk P w K mg base CX0 (n + 2) t.f_Span_runs t.d_Span_runs ["self", "day"] (spRuns (rc t) K isSpan (n + 1)) := by
  refine Tx.F_Span_runs.ok sc_Span_runs (fun vs H Q E h => ?_) (fun cdv A outer s H vs Q E hr h => ?_)
  · obtain ⟨a, r, d, rfl, _⟩ := h
    rfl
  obtain ⟨a, r, d, rfl, h, hq, hn, q⟩ := h
  refine ⟨_, (pss_one (ps_ret (pe_and (pe_chain op_le op_le (pe_fld (pv 0) rfl) (pv 1) (pe_fld (pv 0) rfl)) (pe_one (pe_methD (pe_fld (pv 0) rfl) (pac (pv 1) pa_nil)))))), ?_⟩
  cases h with
  | span h hx hy hi =>
    rename_i dx i x y r
    have hd : r.depth ≤ n := by
      have : (RT.span x y r).depth = 1 + r.depth := rfl
      omega
    obtain ⟨C, dx2, fs, f, fd, sp, g1, g2, g3, g4, g5, g6, g7⟩ := R.at Tx hi hd
    refine ⟨_, rfl, a, _, _, _, _, rfl, h, Tx.cl_Span, Tx.na_Span_first, rfl, ?_⟩
    have fin : ∀ b : Bool, b = (decide (x ≤ d) && decide (d ≤ y) && r.runs d) → Q (.bl b) H := fun b e => by rw [e]; exact q
    refine ⟨_, rfl, _, _, rfl, rfl, _, rfl, ?_⟩
    by_cases h1 : x ≤ d
    · refine itT (decide_eq_true (by omega)) ?_
      refine ⟨_, rfl, a, _, _, _, _, rfl, h, Tx.cl_Span, Tx.na_Span_last, rfl, _, _, rfl, rfl, _, rfl, ?_⟩
      by_cases h2 : d ≤ y
      · refine itT (decide_eq_true (by omega)) ?_
        refine ⟨_, rfl, a, _, _, _, _, rfl, h, Tx.cl_Span, Tx.na_Span_inner, rfl, i, C, dx2, fs, f, fd, _, _, sp, CX0, E0, rfl, g1, g2, g3, g4, g5, hr.mono (by omega), g6, pass0, _, rfl, ?_⟩
        exact g7 d Q (fin _ (by rw [decide_eq_true h1, decide_eq_true h2]; rfl))
      · refine itF (by rw [decide_eq_false (by omega)]; decide) ?_
        exact fin _ (by rw [decide_eq_false h2, Bool.and_false, Bool.false_and])
    · refine itF (by rw [decide_eq_false (by omega)]; decide) ?_
      exact ⟨_, rfl, itF (by decide) (fin _ (by rw [decide_eq_false h1, Bool.false_and, Bool.false_and]))⟩
  | _ => exact hq.elim
theorem runs_either (Tx : Tab K mg t) (n : Nat) (R : RunsOk P w K mg base t n) : FnOk P w K mg base CX0 (n + 2) t.f_Either_runs t.d_Either_runs ["self", "day"] (spRuns (rc t) K isEither (n + 1)) := by
  refine Tx.F_Either_runs.ok sc_Either_runs (fun vs H Q E h => ?_) (fun cdv A outer s H vs Q E hr h => ?_)
  · obtain ⟨a, r, d, rfl, _⟩ := h
    rfl
  obtain ⟨a, r, d, rfl, h, hq, hn, q⟩ := h
  refine ⟨_, (pss_one (ps_ret (pe_or (pe_methD (pe_fld (pv 0) rfl) (pac (pv 1) pa_nil)) (pe_one (pe_methD (pe_fld (pv 0) rfl) (pac (pv 1) pa_nil)))))), ?_⟩
  cases h with
  | either h hi hj =>
    rename_i dx i j r s'
    have hd : r.depth ≤ n ∧ s'.depth ≤ n := by
      have : (RT.either r s').depth = 1 + max r.depth s'.depth := rfl
      omega
    obtain ⟨C, dx2, fs, f, fd, sp, g1, g2, g3, g4, g5, g6, g7⟩ := R.at Tx hi hd.1
    refine ⟨_, rfl, a, _, _, _, _, rfl, h, Tx.cl_Either, Tx.na_Either_one, rfl, i, C, dx2, fs, f, fd, _, _, sp, CX0, E0, rfl, g1, g2, g3, g4, g5, hr.mono (by omega), g6, pass0, _, rfl, g7 d _ ⟨_, rfl, ?_⟩⟩
    have q' : Q (.bl (r.runs d || s'.runs d)) H := q
    cases e : r.runs d with
    | true => exact itT rfl (by rw [e] at q'; exact q')
    | false =>
      refine itF (by decide) ?_
      obtain ⟨C, dx2, fs, f, fd, sp, g1, g2, g3, g4, g5, g6, g7⟩ := R.at Tx hj hd.2
      refine ⟨_, rfl, a, _, _, _, _, rfl, h, Tx.cl_Either, Tx.na_Either_other, rfl, j, C, dx2, fs, f, fd, _, _, sp, CX0, E0, rfl, g1, g2, g3, g4, g5, hr.mono (by omega), g6, pass0, _, rfl, g7 d _ ?_⟩
      rw [e, Bool.false_or] at q'
      exact q'
  | _ => exact hq.elim
theorem runs_both (Tx : Tab K mg t) (n : Nat) (R : RunsOk P w K mg base t n) : FnOk P w K mg base CX0 (n + 2) t.f_Both_runs t.d_Both_runs ["self", "day"] (spRuns (rc t) K isBoth (n + 1)) := by
  refine Tx.F_Both_runs.ok sc_Both_runs (fun vs H Q E h => ?_) (fun cdv A outer s H vs Q E hr h => ?_)
  · obtain ⟨a, r, d, rfl, _⟩ := h
    rfl
  obtain ⟨a, r, d, rfl, h, hq, hn, q⟩ := h
  refine ⟨_, (pss_one (ps_ret (pe_and (pe_methD (pe_fld (pv 0) rfl) (pac (pv 1) pa_nil)) (pe_one (pe_methD (pe_fld (pv 0) rfl) (pac (pv 1) pa_nil)))))), ?_⟩
  cases h with
  | both h hi hj =>
    rename_i dx i j r s'
    have hd : r.depth ≤ n ∧ s'.depth ≤ n := by
      have : (RT.both r s').depth = 1 + max r.depth s'.depth := rfl
      omega
    obtain ⟨C, dx2, fs, f, fd, sp, g1, g2, g3, g4, g5, g6, g7⟩ := R.at Tx hi hd.1
    refine ⟨_, rfl, a, _, _, _, _, rfl, h, Tx.cl_Both, Tx.na_Both_one, rfl, i, C, dx2, fs, f, fd, _, _, sp, CX0, E0, rfl, g1, g2, g3, g4, g5, hr.mono (by omega), g6, pass0, _, rfl, g7 d _ ⟨_, rfl, ?_⟩⟩
    have q' : Q (.bl (r.runs d && s'.runs d)) H := q
    cases e : r.runs d with
    | false => exact itF (by decide) (by rw [e] at q'; exact q')
    | true =>
      refine itT rfl ?_
      obtain ⟨C, dx2, fs, f, fd, sp, g1, g2, g3, g4, g5, g6, g7⟩ := R.at Tx hj hd.2
      refine ⟨_, rfl, a, _, _, _, _, rfl, h, Tx.cl_Both, Tx.na_Both_other, rfl, j, C, dx2, fs, f, fd, _, _, sp, CX0, E0, rfl, g1, g2, g3, g4, g5, hr.mono (by omega), g6, pass0, _, rfl, g7 d _ ?_⟩
      rw [e, Bool.true_and] at q'
      exact q'
  | _ => exact hq.elim
theorem runs_but (Tx : Tab K mg t) (n : Nat) (R : RunsOk P w K mg base t n) : FnOk P w K mg base CX0 (n + 2) t.f_But_runs t.d_But_runs ["self", "day"] (spRuns (rc t) K isBut (n + 1)) := by
  refine Tx.F_But_runs.ok sc_But_runs (fun vs H Q E h => ?_) (fun cdv A outer s H vs Q E hr h => ?_)
  · obtain ⟨a, r, d, rfl, _⟩ := h
    rfl
  obtain ⟨a, r, d, rfl, h, hq, hn, q⟩ := h
  refine ⟨_, (pss_one (ps_ret (pe_cmpR op_ne (pe_methD (pe_fld (pv 0) rfl) (pac (pv 1) pa_nil)) (pe_cmpR op_in_seq (pv 1) (pe_fld (pv 0) rfl) rfl) (nomark _)))), ?_⟩
  cases h with
  | but h hp hi =>
    rename_i dx p i ds r
    have hd : r.depth ≤ n := by
      have : (RT.but ds r).depth = 1 + r.depth := rfl
      omega
    obtain ⟨C, dx2, fs, f, fd, sp, g1, g2, g3, g4, g5, g6, g7⟩ := R.at Tx hi hd
    refine ⟨_, rfl, a, _, _, _, _, rfl, h, Tx.cl_But, Tx.na_But_inner, rfl, i, C, dx2, fs, f, fd, _, _, sp, CX0, E0, rfl, g1, g2, g3, g4, g5, hr.mono (by omega), g6, pass0, _, rfl, g7 d _ ?_⟩
    refine ⟨_, rfl, _, rfl, a, _, _, _, _, rfl, h, Tx.cl_But, Tx.na_But_days, rfl, p, _, rfl, .inr hp, rfl, flat_nats ds, rfl, ?_⟩
    have q' : Q (.bl (r.runs d != ds.contains d)) H := q
    have e : (!decide (V.bl (r.runs d) = V.bl (inV (.int ((d : Nat) : Int)) (natV ds)))) = (r.runs d != ds.contains d) := by
      rw [inV_nats, dec_bl]
      rfl
    rw [← e] at q'
    exact q'
  | _ => exact hq.elim
theorem runs_ok (Tx : Tab K mg t) : ∀ n, RunsOk P w K mg base t n
  | 0 => by
    have no : ∀ {q : RT → Prop}, ∀ vs H Q E, spRuns (rc t) K q 0 vs H Q E → False := fun vs H Q E h => by
      obtain ⟨a, r, d, rfl, h, hq, hn, _⟩ := h
      have := r.depth_pos
      omega
    exact ⟨runs_rule Tx 0, runs_week Tx 0,
      Tx.F_Span_runs.ok sc_Span_runs (fun vs H Q E h => (no vs H Q E h).elim) (fun cdv A outer s H vs Q E hr h => (no vs H Q E h).elim), runs_each Tx 0,
      Tx.F_Either_runs.ok sc_Either_runs (fun vs H Q E h => (no vs H Q E h).elim) (fun cdv A outer s H vs Q E hr h => (no vs H Q E h).elim),
      Tx.F_Both_runs.ok sc_Both_runs (fun vs H Q E h => (no vs H Q E h).elim) (fun cdv A outer s H vs Q E hr h => (no vs H Q E h).elim),
      Tx.F_But_runs.ok sc_But_runs (fun vs H Q E h => (no vs H Q E h).elim) (fun cdv A outer s H vs Q E hr h => (no vs H Q E h).elim)⟩
  | n + 1 => have R := runs_ok Tx n
    ⟨runs_rule Tx (n + 1), runs_week Tx (n + 1), runs_span Tx n R, runs_each Tx (n + 1), runs_either Tx n R, runs_both Tx n R, runs_but Tx n R⟩

def PartsIs (c : RC) (K : W.Frag) (H : Hp) (r : RT) (xs : List V) : Prop := match r with
  | .always | .week _ | .each _ _ => xs = []
  | .span _ _ r1 | .but _ r1 => ∃ i, xs = [.ref i] ∧ RAt c K H i r1
  | .either r1 r2 | .both r1 r2 => ∃ i j, xs = [.ref i, .ref j] ∧ RAt c K H i r1 ∧ RAt c K H j r2
def spParts (c : RC) (K : W.Frag) (q : RT → Prop) : Sp := fun vs H Q _ => ∃ (a : Addr) (r : RT), vs = [.ref a] ∧ RAt c K H a r ∧ q r ∧ ∀ p xs, H p = none → PartsIs c K H r xs → Q (.ref p) (upd H p (.lst xs))
def isLeaf : RT → Prop | .always | .week _ | .each _ _ => True | _ => False
theorem parts_rule (Tx : Tab K mg t) : FnOk P w K mg base CX0 1 t.f_Rule_parts t.d_Rule_parts ["self"] (spParts (rc t) K isLeaf) := by
  refine Tx.F_Rule_parts.ok sc_Rule_parts (fun vs H Q E h => ?_) (fun cdv A outer s H vs Q E hr h => ?_)
  · obtain ⟨a, r, rfl, _⟩ := h
    rfl
  obtain ⟨a, r, rfl, h, hq, q⟩ := h
  refine ⟨_, (pss_one (ps_ret (pe_lst pa_nil))), ?_⟩
  refine ⟨by show 0 ≤ sizeLine; decide, fun p hp => q p _ hp ?_⟩
  cases r <;> first | rfl | exact hq.elim
theorem parts_span (Tx : Tab K mg t) : FnOk P w K mg base CX0 1 t.f_Span_parts t.d_Span_parts ["self"] (spParts (rc t) K isSpan) := by
  refine Tx.F_Span_parts.ok sc_Span_parts (fun vs H Q E h => ?_) (fun cdv A outer s H vs Q E hr h => ?_)
  · obtain ⟨a, r, rfl, _⟩ := h
    rfl
  obtain ⟨a, r, rfl, h, hq, q⟩ := h
  refine ⟨_, (pss_one (ps_ret (pe_lst (pac (pe_fld (pv 0) rfl) pa_nil)))), ?_⟩
  cases h with
  | span h hx hy hi => exact ⟨_, rfl, a, _, _, _, _, rfl, h, Tx.cl_Span, Tx.na_Span_inner, rfl, by show 1 ≤ sizeLine; decide, fun p hp => q p _ hp ⟨_, rfl, hi⟩⟩
  | _ => exact hq.elim
theorem parts_but (Tx : Tab K mg t) : FnOk P w K mg base CX0 1 t.f_But_parts t.d_But_parts ["self"] (spParts (rc t) K isBut) := by
  refine Tx.F_But_parts.ok sc_But_parts (fun vs H Q E h => ?_) (fun cdv A outer s H vs Q E hr h => ?_)
  · obtain ⟨a, r, rfl, _⟩ := h
    rfl
  obtain ⟨a, r, rfl, h, hq, q⟩ := h
  refine ⟨_, (pss_one (ps_ret (pe_lst (pac (pe_fld (pv 0) rfl) pa_nil)))), ?_⟩
  cases h with
  | but h hp hi => exact ⟨_, rfl, a, _, _, _, _, rfl, h, Tx.cl_But, Tx.na_But_inner, rfl, by show 1 ≤ sizeLine; decide, fun p hp => q p _ hp ⟨_, rfl, hi⟩⟩
  | _ => exact hq.elim
theorem parts_either (Tx : Tab K mg t) : FnOk P w K mg base CX0 1 t.f_Either_parts t.d_Either_parts ["self"] (spParts (rc t) K isEither) := by
  refine Tx.F_Either_parts.ok sc_Either_parts (fun vs H Q E h => ?_) (fun cdv A outer s H vs Q E hr h => ?_)
  · obtain ⟨a, r, rfl, _⟩ := h
    rfl
  obtain ⟨a, r, rfl, h, hq, q⟩ := h
  refine ⟨_, (pss_one (ps_ret (pe_lst (pac (pe_fld (pv 0) rfl) (pac (pe_fld (pv 0) rfl) pa_nil))))), ?_⟩
  cases h with
  | either h hi hj => exact ⟨_, rfl, a, _, _, _, _, rfl, h, Tx.cl_Either, Tx.na_Either_one, rfl, _, rfl, a, _, _, _, _, rfl, h, Tx.cl_Either, Tx.na_Either_other, rfl, by show 2 ≤ sizeLine; decide, fun p hp => q p _ hp ⟨_, _, rfl, hi, hj⟩⟩
  | _ => exact hq.elim
theorem parts_both (Tx : Tab K mg t) : FnOk P w K mg base CX0 1 t.f_Both_parts t.d_Both_parts ["self"] (spParts (rc t) K isBoth) := by
  refine Tx.F_Both_parts.ok sc_Both_parts (fun vs H Q E h => ?_) (fun cdv A outer s H vs Q E hr h => ?_)
  · obtain ⟨a, r, rfl, _⟩ := h
    rfl
  obtain ⟨a, r, rfl, h, hq, q⟩ := h
  refine ⟨_, (pss_one (ps_ret (pe_lst (pac (pe_fld (pv 0) rfl) (pac (pe_fld (pv 0) rfl) pa_nil))))), ?_⟩
  cases h with
  | both h hi hj => exact ⟨_, rfl, a, _, _, _, _, rfl, h, Tx.cl_Both, Tx.na_Both_one, rfl, _, rfl, a, _, _, _, _, rfl, h, Tx.cl_Both, Tx.na_Both_other, rfl, by show 2 ≤ sizeLine; decide, fun p hp => q p _ hp ⟨_, _, rfl, hi, hj⟩⟩
  | _ => exact hq.elim
theorem parts_at (Tx : Tab K mg t) {H : Hp} {a : Addr} {r : RT} (h : RAt (rc t) K H a r) :
    ∃ (C dx : Addr) (fs : List (Str × V)) (f : Addr) (fd : FuncData) (sp : Sp), H a = some (.ins C dx fs) ∧ fs.lookup ("parts" : Str) = none ∧ Cls K C ∧ Meth K C "parts" f ∧ FnOk P w K mg base CX0 1 f fd ["self"] sp ∧ Binds K fd ["self"] [] ∧
      ∀ (Q : VK), (∀ p xs, H p = none → PartsIs (rc t) K H r xs → Q (.ref p) (upd H p (.lst xs))) → sp [.ref a] H Q E0 := by
  cases h with
  | always h => exact ⟨_, _, _, _, _, _, h, rfl, Tx.cl_Rule, Tx.me_Rule_parts, parts_rule Tx, Tx.b_Rule_parts, fun Q q => ⟨a, _, rfl, .always h, trivial, q⟩⟩
  | week h hb => exact ⟨_, _, _, _, _, _, h, rfl, Tx.cl_Week, Tx.me_Week_parts, parts_rule Tx, Tx.b_Rule_parts, fun Q q => ⟨a, _, rfl, .week h hb, trivial, q⟩⟩
  | span h hx hy hi => exact ⟨_, _, _, _, _, _, h, rfl, Tx.cl_Span, Tx.me_Span_parts, parts_span Tx, Tx.b_Span_parts, fun Q q => ⟨a, _, rfl, .span h hx hy hi, trivial, q⟩⟩
  | each h h1 h2 hp => exact ⟨_, _, _, _, _, _, h, rfl, Tx.cl_Each, Tx.me_Each_parts, parts_rule Tx, Tx.b_Rule_parts, fun Q q => ⟨a, _, rfl, .each h h1 h2 hp, trivial, q⟩⟩
  | either h hi hj => exact ⟨_, _, _, _, _, _, h, rfl, Tx.cl_Either, Tx.me_Either_parts, parts_either Tx, Tx.b_Either_parts, fun Q q => ⟨a, _, rfl, .either h hi hj, trivial, q⟩⟩
  | both h hi hj => exact ⟨_, _, _, _, _, _, h, rfl, Tx.cl_Both, Tx.me_Both_parts, parts_both Tx, Tx.b_Both_parts, fun Q q => ⟨a, _, rfl, .both h hi hj, trivial, q⟩⟩
  | but h hp hi => exact ⟨_, _, _, _, _, _, h, rfl, Tx.cl_But, Tx.me_But_parts, parts_but Tx, Tx.b_But_parts, fun Q q => ⟨a, _, rfl, .but h hp hi, trivial, q⟩⟩
theorem meth_at (Tx : Tab K mg t) {H : Hp} {a : Addr} {r : RT} (h : RAt (rc t) K H a r) : ∃ (C dx : Addr) (fs : List (Str × V)), H a = some (.ins C dx fs) ∧ Cls K C ∧ (fs.lookup ("weight" : Str) = none ∧ Meth K C "weight" t.f_Rule_weight) ∧ (fs.lookup ("depth" : Str) = none ∧ Meth K C "depth" t.f_Rule_depth) := by
  cases h with
  | always h => exact ⟨_, _, _, h, Tx.cl_Rule, ⟨rfl, Tx.me_Rule_weight⟩, ⟨rfl, Tx.me_Rule_depth⟩⟩
  | week h hb => exact ⟨_, _, _, h, Tx.cl_Week, ⟨rfl, Tx.me_Week_weight⟩, ⟨rfl, Tx.me_Week_depth⟩⟩
  | span h hx hy hi => exact ⟨_, _, _, h, Tx.cl_Span, ⟨rfl, Tx.me_Span_weight⟩, ⟨rfl, Tx.me_Span_depth⟩⟩
  | each h h1 h2 hp => exact ⟨_, _, _, h, Tx.cl_Each, ⟨rfl, Tx.me_Each_weight⟩, ⟨rfl, Tx.me_Each_depth⟩⟩
  | either h hi hj => exact ⟨_, _, _, h, Tx.cl_Either, ⟨rfl, Tx.me_Either_weight⟩, ⟨rfl, Tx.me_Either_depth⟩⟩
  | both h hi hj => exact ⟨_, _, _, h, Tx.cl_Both, ⟨rfl, Tx.me_Both_weight⟩, ⟨rfl, Tx.me_Both_depth⟩⟩
  | but h hp hi => exact ⟨_, _, _, h, Tx.cl_But, ⟨rfl, Tx.me_But_weight⟩, ⟨rfl, Tx.me_But_depth⟩⟩

def tMethC (P : Program) (w : World) (K : W.Frag) (mg : Str → Option Value) (base : Heap) (k : Nat) (m : Str) (ta : TE) : TE := fun σ H Q => ta σ H fun x H1 => ∃ (a C dx : Addr) (fs : List (Str × V)) (f : Addr) (fd : FuncData) (ps : List Str) (sp : Sp),
  x = .ref a ∧ H1 a = some (.ins C dx fs) ∧ fs.lookup m = none ∧ Cls K C ∧ Meth K C m f ∧ FnOk P w K mg base CX0 k f fd ps sp ∧ Binds K fd ps [] ∧ sp [.ref a] H1 Q E0
theorem pe_methC {X : Cx} {m : Str} {o : Expr} {ta : TE} {pos apos : Pos} {pl : Sem Bool} (P : Program) (w : World) (K : W.Frag) (mg : Str → Option Value) (base : Heap) (k : Nat) (hr : Room k X.A) (he : PE X o ta)
    (hP : X.prog = P := by rfl) (hw : X.w = w := by rfl) (hK : X.K = K := by rfl) (hm : X.mg = mg := by rfl) (hb : X.base = base := by rfl)
    (ht : eval (.Call (.Attribute o m apos) [] [] pos) X.env = (do
      let ov ← eval o X.env
      standAt apos.atName
      let (f, first) ← holding [ov] (getMethod ov m pl)
      callWith pos f first (backTo pos (starEach [] X.env)) (backToKw pos (keywordEach [] X.env))) := by rfl) :
    PE X (.Call (.Attribute o m apos) [] [] pos) (tMethC P w K mg base k m ta) := by
  subst hP hw hK hm hb
  intro pins s σ H Q I h
  refine W.methodCall_KW (pl := pl) (thn (he pins s σ H _ I h) fun u s1 ⟨x, H1, I1, rx, a, C, dx, fs, f, fd, ps, sp, ex, ea, l, c, hm, F, hb, q⟩ => ?_) ht
  subst ex
  obtain rfl : u = Value.ref a := rx
  refine getmeth_ok I1 ea c hm l ?_
  exact W.callWith_K0 (first := [.ref a]) I1.kIn hm.kp (run_fn (us := [.ref a]) (vs := [.ref a]) (dvs := []) F hr hb .nil pass0 I1 (.cons rfl .nil) q)
def kids : RT → List RT
  | .always | .week _ | .each _ _ => []
  | .span _ _ r | .but _ r => [r]
  | .either r s | .both r s => [r, s]
theorem kids_weight (r : RT) : r.weight = 1 + ((kids r).map RT.weight).sum := by
  cases r <;> simp [kids, RT.weight]
theorem kids_deep {r k : RT} (h : k ∈ kids r) : k.depth < r.depth := by
  cases r <;> simp [kids] at h
  all_goals simp only [RT.depth]
  · subst h; omega
  · rcases h with rfl | rfl <;> omega
  · rcases h with rfl | rfl <;> omega
  · subst h; omega
theorem kids_len (r : RT) : (kids r).length ≤ 2 := by
  cases r <;> simp [kids]
theorem parts_kids {c : RC} {K : W.Frag} {H : Hp} {r : RT} {xs : List V} (h : PartsIs c K H r xs) : xs.length = (kids r).length ∧ ∀ (i : Nat) (x : V), xs[i]? = some x → ∃ (j : Addr) (k : RT), x = .ref j ∧ (kids r)[i]? = some k ∧ RAt c K H j k := by
  have none : ∀ (i : Nat) (x : V), ([] : List V)[i]? = some x → False := fun i x e => by cases e
  have one : ∀ {a : Addr} {r1 : RT}, RAt c K H a r1 → ∀ (i : Nat) (x : V), [V.ref a][i]? = some x → ∃ (j : Addr) (k : RT), x = .ref j ∧ [r1][i]? = some k ∧ RAt c K H j k := fun {a r1} q i x e => by
    match i, e with
    | 0, e => exact ⟨a, r1, (Option.some.inj e).symm, rfl, q⟩
    | _ + 1, e => cases e
  have two : ∀ {a b : Addr} {r1 r2 : RT}, RAt c K H a r1 → RAt c K H b r2 → ∀ (i : Nat) (x : V), [V.ref a, V.ref b][i]? = some x → ∃ (j : Addr) (k : RT), x = .ref j ∧ [r1, r2][i]? = some k ∧ RAt c K H j k := fun {a b r1 r2} q1 q2 i x e => by
    match i, e with
    | 0, e => exact ⟨a, r1, (Option.some.inj e).symm, rfl, q1⟩
    | 1, e => exact ⟨b, r2, (Option.some.inj e).symm, rfl, q2⟩
    | _ + 2, e => cases e
  cases r with
  | always => cases h; exact ⟨rfl, fun i x e => (none i x e).elim⟩
  | week b => cases h; exact ⟨rfl, fun i x e => (none i x e).elim⟩
  | each n ss => cases h; exact ⟨rfl, fun i x e => (none i x e).elim⟩
  | span a b r1 => obtain ⟨i, rfl, q⟩ := h; exact ⟨rfl, one q⟩
  | but ds r1 => obtain ⟨i, rfl, q⟩ := h; exact ⟨rfl, one q⟩
  | either r1 r2 => obtain ⟨i, j, rfl, q1, q2⟩ := h; exact ⟨rfl, two q1 q2⟩
  | both r1 r2 => obtain ⟨i, j, rfl, q1, q2⟩ := h; exact ⟨rfl, two q1 q2⟩
theorem sum_ints : ∀ l : List Nat, (l.map fun n => ((n : Nat) : Int)).sum = ((l.sum : Nat) : Int)
  | [] => rfl
  | x :: r => by
    rw [List.map_cons, List.sum_cons, List.sum_cons, sum_ints r]
    omega
theorem le_sum {x : Nat} : ∀ {l : List Nat}, x ∈ l → x ≤ l.sum
  | y :: r, h => by
    rw [List.sum_cons]
    rcases List.mem_cons.mp h with rfl | h
    · omega
    · have := le_sum h
      omega
def spWeight (c : RC) (K : W.Frag) (n : Nat) : Sp := fun vs H Q _ => ∃ (a : Addr) (r : RT), vs = [.ref a] ∧ RAt c K H a r ∧ r.depth ≤ n ∧ r.weight ≤ 1000000 ∧ ∀ H', Same H H' → Q (.int (r.weight : Nat)) H'
theorem weight_ok (Tx : Tab K mg t) : ∀ n : Nat, FnOk P w K mg base CX0 (n + 1) t.f_Rule_weight t.d_Rule_weight ["self"] (spWeight (rc t) K n) := by
  intro n
  induction n with
  | zero =>
    refine Tx.F_Rule_weight.ok sc_Rule_weight (fun vs H Q E h => ?_) (fun cdv A outer s H vs Q E hr h => ?_)
    · obtain ⟨a, r, rfl, _⟩ := h
      rfl
    · obtain ⟨a, r, rfl, h, hd, _⟩ := h
      have := r.depth_pos
      omega
  | succ n ih =>
  refine Tx.F_Rule_weight.ok sc_Rule_weight (fun vs H Q E h => ?_) (fun cdv A outer s H vs Q E hr h => ?_)
  · obtain ⟨a, r, rfl, _⟩ := h
    rfl
  obtain ⟨a, r, rfl, h, hd, hw, q⟩ := h
  refine ⟨_, (pss_one (ps_ret (pe_op op_add pe_int (pe_callB (call_sum_list rfl) rfl Tx.z_sum b_sum (pac (pe_comp (cl := []) (N := ["part"]) (fr := [none]) rfl (pi_list (pe_meth0D (pv 0))) rfl (by decide +kernel) rfl (by decide +kernel) trivial trivial rfl (fun _ _ _ _ _ => pg_name (i := 0) (nd1 _) rfl (Or.inl rfl)) (fun _ _ _ _ _ => pts_nil) (fun _ _ _ _ _ => pe_methC P w K mg base (n + 1) (hr.mono (by omega)) (pv 0))) pa_nil))))), ?_⟩
  obtain ⟨C, dx, fs, f, fd, sp, l, lk, cl, me, F, hb, pp⟩ := parts_at (P := P) (w := w) (mg := mg) (base := base) Tx h
  refine ⟨_, rfl, a, C, dx, fs, f, fd, _, _, sp, CX0, E0, rfl, l, lk, cl, me, F, hr.mono (by omega), hb, pass0, pp _ fun p xs hp hx => ?_⟩
  obtain ⟨hl, hk⟩ := parts_kids hx
  have kl := kids_len r
  have s0 : Same H (upd H p (.lst xs)) := same_new hp _
  refine ⟨p, rfl, ⟨xs, SqL.of upd_same⟩, comp_list (K := K) (a := p) (xs := xs) (fun i acc σ H' => Same (upd H p (.lst xs)) H' ∧ acc = (((kids r).take i).map fun k => V.int (k.weight : Nat)) ∧ ∃ v, σ = [v])
    ⟨Same.refl _, rfl, _, rfl⟩ (by show xs.length ≤ sizeLine; exact Nat.le_trans (by omega) (show 2 ≤ sizeLine by decide)) (fun i acc σ H' _ ⟨s', _⟩ => SqL.of (s' _ _ upd_same)) ?_ ?_⟩
  · rintro i x acc σ H' ha hx ⟨s', e, v, rfl⟩
    obtain ⟨j, k, rfl, hk1, hk2⟩ := hk i x hx
    have km : k ∈ kids r := List.mem_of_getElem? hk1
    have kd := kids_deep km
    have kw : k.weight ≤ r.weight := by
      rw [kids_weight r]
      have := le_sum (List.mem_map_of_mem (f := RT.weight) km)
      omega
    dsimp only [gName, tTrue]
    rw [if_pos rfl]
    have hj := hk2.same (s0.trans s')
    obtain ⟨C2, dx2, fs2, l2, cl2, ⟨lk2, me2⟩, _⟩ := meth_at Tx hj
    refine ⟨_, rfl, j, C2, dx2, fs2, _, _, _, _, rfl, l2, lk2, cl2, me2, ih, Tx.b_Rule_weight, j, k, rfl, hj, by omega, by omega, fun H3 s3 => ⟨?_, s'.trans s3, ?_, _, rfl⟩⟩
    · rw [List.length_append, List.length_singleton]; omega
    · rw [e, List.take_add_one, hk1]
      simp
  · rintro acc σ H' ha ⟨s', e, v, rfl⟩ p3 g3
    have e2 : acc = ((((kids r).map RT.weight).map fun n => ((n : Nat) : Int)).map V.int) := by
      rw [e, hl, List.take_length, List.map_map, List.map_map]
      rfl
    refine ⟨p3, _, rfl, SqL.of (by rw [upd_same, e2]), ?_, ?_, ?_⟩
    · intro n hn
      obtain ⟨m, hm, rfl⟩ := List.mem_map.mp hn
      have := le_sum hm
      have := kids_weight r
      omega
    · rw [List.length_map, List.length_map]; omega
    · have s4 := (s0.trans s').trans (same_new g3 (.lst acc))
      have q2 := q _ s4
      rw [kids_weight r] at q2
      refine ⟨_, _, rfl, rfl, ?_⟩
      rw [sum_ints]
      exact q2

theorem mxL_nat : ∀ (l : List Nat) (x : Nat), mxL (some ((x : Nat) : Int)) (l.map fun n => ((n : Nat) : Int)) = some (((l.foldl max x : Nat)) : Int)
  | [], x => rfl
  | y :: r, x => by
    show mxL (some (mxB (some ((x : Nat) : Int)) ((y : Nat) : Int))) _ = _
    have e : mxB (some ((x : Nat) : Int)) ((y : Nat) : Int) = ((max x y : Nat) : Int) := by
      show (if ((y : Nat) : Int) > ((x : Nat) : Int) then ((y : Nat) : Int) else ((x : Nat) : Int)) = _
      split <;> omega
    rw [e]
    exact mxL_nat r (max x y)
theorem kids_depth (r : RT) : (1 : Int) + (mxL none (((kids r).map RT.depth).map fun n => ((n : Nat) : Int))).getD 0 = ((r.depth : Nat) : Int) := by
  have one : ∀ k : Nat, (1 : Int) + (mxL none ([k].map fun n => ((n : Nat) : Int))).getD 0 = ((1 + k : Nat) : Int) := fun k => by
    show (1 : Int) + ((k : Nat) : Int) = _
    omega
  have two : ∀ k m : Nat, (1 : Int) + (mxL none ([k, m].map fun n => ((n : Nat) : Int))).getD 0 = ((1 + max k m : Nat) : Int) := fun k m => by
    show (1 : Int) + (mxL (some ((k : Nat) : Int)) ([m].map fun n => ((n : Nat) : Int))).getD 0 = _
    rw [mxL_nat]
    show (1 : Int) + ((max k m : Nat) : Int) = _
    omega
  cases r with
  | always => rfl
  | week b => rfl
  | each n ss => rfl
  | span a b r1 => exact one _
  | but ds r1 => exact one _
  | either r1 r2 => exact two _ _
  | both r1 r2 => exact two _ _
def spDepth (c : RC) (K : W.Frag) (n : Nat) : Sp := fun vs H Q _ => ∃ (a : Addr) (r : RT), vs = [.ref a] ∧ RAt c K H a r ∧ r.depth ≤ n ∧ ∀ H', Same H H' → Q (.int (r.depth : Nat)) H'
theorem depth_ok (Tx : Tab K mg t) : ∀ n : Nat, FnOk P w K mg base CX0 (n + 1) t.f_Rule_depth t.d_Rule_depth ["self"] (spDepth (rc t) K n) := by
  intro n
  induction n with
  | zero =>
    refine Tx.F_Rule_depth.ok sc_Rule_depth (fun vs H Q E h => ?_) (fun cdv A outer s H vs Q E hr h => ?_)
    · obtain ⟨a, r, rfl, _⟩ := h
      rfl
    · obtain ⟨a, r, rfl, h, hd, _⟩ := h
      have := r.depth_pos
      omega
  | succ n ih =>
  refine Tx.F_Rule_depth.ok sc_Rule_depth (fun vs H Q E h => ?_) (fun cdv A outer s H vs Q E hr h => ?_)
  · obtain ⟨a, r, rfl, _⟩ := h
    rfl
  obtain ⟨a, r, rfl, h, hd, q⟩ := h
  refine ⟨_, (pss_one (ps_ret (pe_op op_add pe_int (pe_maxd rfl rfl Tx.z_max b_max (pac (pe_comp (cl := []) (N := ["part"]) (fr := [none]) rfl (pi_list (pe_meth0D (pv 0))) rfl (by decide +kernel) rfl (by decide +kernel) trivial trivial rfl (fun _ _ _ _ _ => pg_name (i := 0) (nd1 _) rfl (Or.inl rfl)) (fun _ _ _ _ _ => pts_nil) (fun _ _ _ _ _ => pe_methC P w K mg base (n + 1) (hr.mono (by omega)) (pv 0))) pa_nil) (pk_cons pe_int pk_nil))))), ?_⟩
  obtain ⟨C, dx, fs, f, fd, sp, l, lk, cl, me, F, hb, pp⟩ := parts_at (P := P) (w := w) (mg := mg) (base := base) Tx h
  refine ⟨_, rfl, a, C, dx, fs, f, fd, _, _, sp, CX0, E0, rfl, l, lk, cl, me, F, hr.mono (by omega), hb, pass0, pp _ fun p xs hp hx => ?_⟩
  obtain ⟨hl, hk⟩ := parts_kids hx
  have kl := kids_len r
  have s0 : Same H (upd H p (.lst xs)) := same_new hp _
  refine ⟨p, rfl, ⟨xs, SqL.of upd_same⟩, comp_list (K := K) (a := p) (xs := xs) (fun i acc σ H' => Same (upd H p (.lst xs)) H' ∧ acc = (((kids r).take i).map fun k => V.int (k.depth : Nat)) ∧ ∃ v, σ = [v])
    ⟨Same.refl _, rfl, _, rfl⟩ (by show xs.length ≤ sizeLine; exact Nat.le_trans (by omega) (show 2 ≤ sizeLine by decide)) (fun i acc σ H' _ ⟨s', _⟩ => SqL.of (s' _ _ upd_same)) ?_ ?_⟩
  · rintro i x acc σ H' ha hx ⟨s', e, v, rfl⟩
    obtain ⟨j, k, rfl, hk1, hk2⟩ := hk i x hx
    have km : k ∈ kids r := List.mem_of_getElem? hk1
    have kd := kids_deep km
    dsimp only [gName, tTrue]
    rw [if_pos rfl]
    have hj := hk2.same (s0.trans s')
    obtain ⟨C2, dx2, fs2, l2, cl2, _, ⟨lk2, me2⟩⟩ := meth_at Tx hj
    refine ⟨_, rfl, j, C2, dx2, fs2, _, _, _, _, rfl, l2, lk2, cl2, me2, ih, Tx.b_Rule_depth, j, k, rfl, hj, by omega, fun H3 s3 => ⟨?_, s'.trans s3, ?_, _, rfl⟩⟩
    · rw [List.length_append, List.length_singleton]; omega
    · rw [e, List.take_add_one, hk1]
      simp
  · rintro acc σ H' ha ⟨s', e, v, rfl⟩ p3 g3
    have e2 : acc = ((((kids r).map RT.depth).map fun n => ((n : Nat) : Int)).map V.int) := by
      rw [e, hl, List.take_length, List.map_map, List.map_map]
      rfl
    have s4 := (s0.trans s').trans (same_new g3 (.lst acc))
    have q2 := q _ s4
    rw [← kids_depth r] at q2
    exact ⟨p3, _, 0, rfl, rfl, SqL.of (by rw [upd_same, e2]), _, _, rfl, rfl, q2⟩

def spSize (c : RC) (K : W.Frag) : Sp := fun vs H Q _ => ∃ (a : Addr) (r : RT), vs = [.ref a] ∧ RAt c K H a r ∧ r.weight ≤ 15 ∧ r.depth ≤ 8 ∧ ∀ H', Same H H' → Q .non H'
theorem ok_check_size (Tx : Tab K mg t) : FnOk P w K mg base CX0 10 t.f_check_size t.d_check_size ["rule"] (spSize (rc t) K) := by
  refine Tx.F_check_size.ok sc_check_size (fun vs H Q E h => ?_) (fun cdv A outer s H vs Q E hr h => ?_)
  · obtain ⟨a, r, rfl, _⟩ := h
    rfl
  obtain ⟨a, r, rfl, h, hw, hd, q⟩ := h
  refine ⟨_, (pss_cons (ps_if (pt_cmpR op_gt (pe_meth0D (pv 0)) (pe_gintE rfl Tx.m_MOST_WEIGHT) (nomark _))
    (pss_one ps_never)
    pss_nil)
    (pss_one (ps_if (pt_cmpR op_gt (pe_meth0D (pv 0)) (pe_gintE rfl Tx.m_MOST_DEPTH) (nomark _))
    (pss_one ps_never)
    pss_nil))), ?_⟩
  obtain ⟨C, dx, fs, l, cl, ⟨lk, me⟩, _⟩ := meth_at Tx h
  refine ⟨_, rfl, a, C, dx, fs, _, _, _, _, _, CX0, E0, rfl, l, lk, cl, me, weight_ok Tx 8, hr.mono (by omega), Tx.b_Rule_weight, pass0, a, r, rfl, h, hd, by omega, fun H1 s1 => ?_⟩
  refine ⟨_, _, rfl, rfl, _, rfl, itF (by rw [decide_eq_false (by omega)]; decide) ?_⟩
  have h1 := h.same s1
  obtain ⟨C, dx, fs, l, cl, _, ⟨lk, me⟩⟩ := meth_at Tx h1
  refine ⟨_, rfl, a, C, dx, fs, _, _, _, _, _, CX0, E0, rfl, l, lk, cl, me, depth_ok Tx 8, hr.mono (by omega), Tx.b_Rule_depth, pass0, a, r, rfl, h1, hd, fun H2 s2 => ?_⟩
  exact ⟨_, _, rfl, rfl, _, rfl, itF (by rw [decide_eq_false (by omega)]; decide) (q H2 (s1.trans s2))⟩
def spCopied (c : RC) (K : W.Frag) (q : RT → Prop) (n : Nat) : Sp := fun vs H Q _ => ∃ (a : Addr) (r : RT), vs = [.ref a] ∧ RAt c K H a r ∧ q r ∧ r.good ∧ r.weight ≤ 15 ∧ r.depth ≤ 8 ∧ r.depth ≤ n ∧ ∀ b H', Same H H' → RAt c K (dif H' H) b r → Q (.ref b) H'
structure CopOk (P : Program) (w : World) (K : W.Frag) (mg : Str → Option Value) (base : Heap) (t : Adr) (n : Nat) : Prop where
  rule : FnOk P w K mg base CX0 (4 * n + 10) t.f_Rule_copied t.d_Rule_copied ["self"] (spCopied (rc t) K isAlways n)
  week : FnOk P w K mg base CX0 (4 * n + 10) t.f_Week_copied t.d_Week_copied ["self"] (spCopied (rc t) K isWeek n)
  span : FnOk P w K mg base CX0 (4 * n + 10) t.f_Span_copied t.d_Span_copied ["self"] (spCopied (rc t) K isSpan n)
  each : FnOk P w K mg base CX0 (4 * n + 10) t.f_Each_copied t.d_Each_copied ["self"] (spCopied (rc t) K isEach n)
  either : FnOk P w K mg base CX0 (4 * n + 10) t.f_Either_copied t.d_Either_copied ["self"] (spCopied (rc t) K isEither n)
  both : FnOk P w K mg base CX0 (4 * n + 10) t.f_Both_copied t.d_Both_copied ["self"] (spCopied (rc t) K isBoth n)
  but : FnOk P w K mg base CX0 (4 * n + 10) t.f_But_copied t.d_But_copied ["self"] (spCopied (rc t) K isBut n)
theorem CopOk.at {n : Nat} (R : CopOk P w K mg base t n) (Tx : Tab K mg t) {H : Hp} {a : Addr} {r : RT} (h : RAt (rc t) K H a r) (g : r.good) (hw : r.weight ≤ 15) (hd : r.depth ≤ 8) (hn : r.depth ≤ n) :
    ∃ (C dx : Addr) (fs : List (Str × V)) (f : Addr) (fd : FuncData) (sp : Sp), H a = some (.ins C dx fs) ∧ fs.lookup ("copied" : Str) = none ∧ Cls K C ∧ Meth K C "copied" f ∧ FnOk P w K mg base CX0 (4 * n + 10) f fd ["self"] sp ∧ Binds K fd ["self"] [] ∧
      ∀ (Q : VK), (∀ b H', Same H H' → RAt (rc t) K (dif H' H) b r → Q (.ref b) H') → sp [.ref a] H Q E0 := by
  cases h with
  | always h => exact ⟨_, _, _, _, _, _, h, rfl, Tx.cl_Rule, Tx.me_Rule_copied, R.rule, Tx.b_Rule_copied, fun Q q => ⟨a, _, rfl, .always h, trivial, g, hw, hd, hn, q⟩⟩
  | week h hb => exact ⟨_, _, _, _, _, _, h, rfl, Tx.cl_Week, Tx.me_Week_copied, R.week, Tx.b_Week_copied, fun Q q => ⟨a, _, rfl, .week h hb, trivial, g, hw, hd, hn, q⟩⟩
  | span h hx hy hi => exact ⟨_, _, _, _, _, _, h, rfl, Tx.cl_Span, Tx.me_Span_copied, R.span, Tx.b_Span_copied, fun Q q => ⟨a, _, rfl, .span h hx hy hi, trivial, g, hw, hd, hn, q⟩⟩
  | each h h1 h2 hp => exact ⟨_, _, _, _, _, _, h, rfl, Tx.cl_Each, Tx.me_Each_copied, R.each, Tx.b_Each_copied, fun Q q => ⟨a, _, rfl, .each h h1 h2 hp, trivial, g, hw, hd, hn, q⟩⟩
  | either h hi hj => exact ⟨_, _, _, _, _, _, h, rfl, Tx.cl_Either, Tx.me_Either_copied, R.either, Tx.b_Either_copied, fun Q q => ⟨a, _, rfl, .either h hi hj, trivial, g, hw, hd, hn, q⟩⟩
  | both h hi hj => exact ⟨_, _, _, _, _, _, h, rfl, Tx.cl_Both, Tx.me_Both_copied, R.both, Tx.b_Both_copied, fun Q q => ⟨a, _, rfl, .both h hi hj, trivial, g, hw, hd, hn, q⟩⟩
  | but h hp hi => exact ⟨_, _, _, _, _, _, h, rfl, Tx.cl_But, Tx.me_But_copied, R.but, Tx.b_But_copied, fun Q q => ⟨a, _, rfl, .but h hp hi, trivial, g, hw, hd, hn, q⟩⟩
theorem is_rule (Tx : Tab K mg t) {H : Hp} {a : Addr} {r : RT} (h : RAt (rc t) K H a r) : ∃ C, TyOf K H (.ref a) (.ref C) ∧ W.kitOne K (.ref C) (.ref t.c_Rule) = some true := by
  cases h with
  | always h => exact ⟨_, Tx.ow_Rule.ty Tx.cl_Rule h, Tx.ki_Rule_Rule⟩
  | week h hb => exact ⟨_, Tx.ow_Week.ty Tx.cl_Week h, Tx.ki_Week_Rule⟩
  | span h hx hy hi => exact ⟨_, Tx.ow_Span.ty Tx.cl_Span h, Tx.ki_Span_Rule⟩
  | each h h1 h2 hp => exact ⟨_, Tx.ow_Each.ty Tx.cl_Each h, Tx.ki_Each_Rule⟩
  | either h hi hj => exact ⟨_, Tx.ow_Either.ty Tx.cl_Either h, Tx.ki_Either_Rule⟩
  | both h hi hj => exact ⟨_, Tx.ow_Both.ty Tx.cl_Both h, Tx.ki_Both_Rule⟩
  | but h hp hi => exact ⟨_, Tx.ow_But.ty Tx.cl_But h, Tx.ki_But_Rule⟩
def spCopy (c : RC) (K : W.Frag) (n : Nat) : Sp := fun vs H Q _ => ∃ (a : Addr) (r : RT), vs = [.ref a] ∧ RAt c K H a r ∧ r.good ∧ r.weight ≤ 15 ∧ r.depth ≤ 8 ∧ r.depth ≤ n ∧ ∀ b H', Same H H' → RAt c K (dif H' H) b r → Q (.ref b) H'
theorem copy_ok (Tx : Tab K mg t) (n : Nat) (R : CopOk P w K mg base t n) : FnOk P w K mg base CX0 (4 * n + 11) t.f_copy_of t.d_copy_of ["rule"] (spCopy (rc t) K n) := by
  refine Tx.F_copy_of.ok sc_copy_of (fun vs H Q E h => ?_) (fun cdv A outer s H vs Q E hr h => ?_)
  · obtain ⟨a, r, rfl, _⟩ := h
    rfl
  obtain ⟨a, r, rfl, h, g, hw, hd, hn, q⟩ := h
  refine ⟨_, (pss_cons (ps_if (pt_not (pt_val (pe_callB call_isi_own rfl Tx.z_isinstance b_isinstance (pac (pv 0) (pac (pe_gref rfl Tx.m_Rule) pa_nil)))))
    (pss_one ps_never)
    pss_nil)
    (pss_one (ps_ret (pe_meth0D (pv 0))))), ?_⟩
  obtain ⟨C0, ty, ki⟩ := is_rule Tx h
  refine ⟨_, rfl, .ref a, t.c_Rule, _, _, rfl, ty, ki, _, rfl, itF (by decide) ?_⟩
  obtain ⟨C, dx, fs, f, fd, sp, g1, g2, g3, g4, g5, g6, g7⟩ := R.at Tx h g hw hd hn
  exact ⟨_, rfl, a, C, dx, fs, f, fd, _, _, sp, CX0, E0, rfl, g1, g2, g3, g4, g5, hr.mono (by omega), g6, pass0, g7 _ q⟩
theorem few1 (f : Str) (v : V) : (putF f v []).length < 1000 := Nat.lt_of_le_of_lt (length_putF _ _ _) (by decide)
theorem few2 (f g : Str) (v u : V) : (putF f v (putF g u [])).length < 1000 := Nat.lt_of_le_of_lt (length_putF _ _ _) (Nat.lt_of_le_of_lt (Nat.succ_le_succ (length_putF _ _ _)) (by decide))
structure New (H0 H : Hp) (x C : Addr) : Prop where
  no : H0 x = none
  sm : Same H0 H
  at_ : ∃ dx, H x = some (.ins C dx [])
def spWeek (c : RC) (K : W.Frag) : Sp := fun vs H Q _ => ∃ (x : Addr) (H0 : Hp) (b : Nat), vs = [.ref x, .int (b : Nat)] ∧ New H0 H x c.week ∧ b ≤ 127 ∧ ∀ H', Same H0 H' → RAt c K (dif H' H0) x (.week b) → Q .non H'
def spEach (c : RC) (K : W.Frag) : Sp := fun vs H Q _ => ∃ (x l : Addr) (H0 : Hp) (n : Nat) (ss : List Nat), vs = [.ref x, .int (n : Nat), .ref l] ∧ New H0 H x c.each ∧ H0 l = some (.lst (natV ss)) ∧ (RT.each n ss).good ∧ ∀ H', Same H0 H' → RAt c K (dif H' H0) x (.each n ss) → Q .non H'
def spSpan (c : RC) (K : W.Frag) (n : Nat) : Sp := fun vs H Q _ => ∃ (x i : Addr) (H0 : Hp) (a b : Nat) (r : RT), vs = [.ref x, .int (a : Nat), .int (b : Nat), .ref i] ∧ New H0 H x c.span ∧ RAt c K H0 i r ∧ (RT.span a b r).good ∧ (RT.span a b r).weight ≤ 15 ∧ (RT.span a b r).depth ≤ 8 ∧ r.depth ≤ n ∧
  ∀ H', Same H0 H' → RAt c K (dif H' H0) x (.span a b r) → Q .non H'
def spBut (c : RC) (K : W.Frag) (n : Nat) : Sp := fun vs H Q _ => ∃ (x l i : Addr) (H0 : Hp) (ds : List Nat) (r : RT), vs = [.ref x, .ref l, .ref i] ∧ New H0 H x c.but ∧ H0 l = some (.lst (natV ds)) ∧ RAt c K H0 i r ∧ (RT.but ds r).good ∧ (RT.but ds r).weight ≤ 15 ∧ (RT.but ds r).depth ≤ 8 ∧ r.depth ≤ n ∧
  ∀ H', Same H0 H' → RAt c K (dif H' H0) x (.but ds r) → Q .non H'
def spPair (c : RC) (K : W.Frag) (n : Nat) (C : Addr) (mk : RT → RT → RT) : Sp := fun vs H Q _ => ∃ (x i j : Addr) (H0 : Hp) (r s : RT), vs = [.ref x, .ref i, .ref j] ∧ New H0 H x C ∧ RAt c K H0 i r ∧ RAt c K H0 j s ∧ (mk r s).good ∧ (mk r s).weight ≤ 15 ∧ (mk r s).depth ≤ 8 ∧ r.depth ≤ n ∧ s.depth ≤ n ∧
  ∀ H', Same H0 H' → RAt c K (dif H' H0) x (mk r s) → Q .non H'
theorem init_Week (Tx : Tab K mg t) : FnOk P w K mg base CX0 3 t.f_Week_init t.d_Week_init ["self", "bits"] (spWeek (rc t) K) := by
  refine Tx.F_Week_init.ok sc_Week_init (fun vs H Q E h => ?_) (fun cdv A outer s H vs Q E hr h => ?_)
  · obtain ⟨x, H0, b, rfl, _⟩ := h
    rfl
  obtain ⟨x, H0, b, rfl, ⟨n0, s0, dx, hx⟩, hb, q⟩ := h
  refine ⟨_, (pss_cons (ps_if (pt_not (pt_val (pe_call (ok_is_number Tx) (hr.mono (by omega)) rfl Tx.m_is_number Tx.F_is_number.kp Tx.b_is_number .nil pass0 (pac (pv 1) (pac pe_int (pac (pe_gintE rfl Tx.m_ALL_WEEK) pa_nil))))))
    (pss_one ps_never)
    pss_nil)
    (pss_one (ps_fld (pv 0) (pv 1) rfl))), ?_⟩
  refine ⟨_, rfl, .int (b : Nat), 0, 127, "int", rfl, .int _, _, rfl, itF (by rw [num_ok (by omega) (by omega)]; decide) ?_⟩
  exact ⟨_, rfl, _, rfl, x, _, dx, [], rfl, hx, Tx.cl_Week, Tx.na_Week_bits, by decide, q _ (same_upd n0 s0 _) (.week (dif_at n0 upd_same) hb)⟩
theorem init_Each (Tx : Tab K mg t) : FnOk P w K mg base CX0 4 t.f_Each_init t.d_Each_init ["self", "length", "starts"] (spEach (rc t) K) := by
  refine Tx.F_Each_init.ok sc_Each_init (fun vs H Q E h => ?_) (fun cdv A outer s H vs Q E hr h => ?_)
  · obtain ⟨x, l, H0, n, ss, rfl, _⟩ := h
    rfl
  obtain ⟨x, l, H0, n, ss, rfl, ⟨n0, s0, dx, hx⟩, hl, ⟨b1, b2, g⟩, q⟩ := h
  refine ⟨_, (pss_cons (ps_if (pt_not (pt_val (pe_call (ok_is_number Tx) (hr.mono (by omega)) rfl Tx.m_is_number Tx.F_is_number.kp Tx.b_is_number .nil pass0 (pac (pv 1) (pac pe_int (pac (pe_gintE rfl Tx.m_MOST_LENGTH) pa_nil))))))
    (pss_one ps_never)
    pss_nil)
    (pss_cons (ps_if (pt_not (pt_val (pe_call (ok_are_rising Tx) (hr.mono (by omega)) rfl Tx.m_are_rising Tx.F_are_rising.kp Tx.b_are_rising .nil pass0 (pac (pv 2) (pac (pe_gintE rfl Tx.m_MOST_LISTED) (pac pe_int (pac (pe_op op_sub (pv 1) pe_int) pa_nil)))))))
    (pss_one ps_never)
    pss_nil)
    (pss_cons (ps_fld (pv 0) (pv 1) rfl)
    (pss_one (ps_fld (pv 0) (pe_callTy call_tuple_of rfl Tx.z_tuple b_tuple (pac (pv 2) pa_nil)) rfl))))), ?_⟩
  refine ⟨_, rfl, .int (n : Nat), 1, 28, "int", rfl, .int _, _, rfl, itF (by rw [num_ok (by omega) (by omega)]; decide) ?_⟩
  refine ⟨_, rfl, _, rfl, _, _, rfl, rfl, l, ss, 12, 0, _, rfl, s0 _ _ hl, g.one, g.few, g.up, fun y hy => ⟨Nat.zero_le _, by have := (g.all y hy).2; omega⟩, _, rfl, itF (by decide) ?_⟩
  refine ⟨_, rfl, _, rfl, x, _, dx, [], rfl, hx, Tx.cl_Each, Tx.na_Each_length, by decide, ?_⟩
  have s1 := same_upd n0 s0 (.ins t.c_Each dx (putF "length" (.int (n : Nat)) []))
  refine ⟨_, rfl, l, _, rfl, .inl ⟨SqL.of (s1 _ _ hl), fun p hp => ?_⟩⟩
  have np : p ≠ x := fun z => by rw [z, upd_same] at hp; cases hp
  have p0 : H0 p = none := s1.free hp
  refine ⟨_, rfl, x, _, dx, _, rfl, (by rw [upd_ne np.symm]; exact upd_same), Tx.cl_Each, Tx.na_Each_starts, few1 _ _, ?_⟩
  refine q _ (same_upd n0 (same_upd p0 s1 _) _) (.each (dif_at n0 upd_same) b1 b2 (SqT.of (dif_at p0 (by rw [upd_ne np]; exact upd_same))))
theorem keep_new {H0 H1 H2 : Hp} {x : Addr} {o1 : HO} (s0 : Same H0 H1) (x1 : H1 x = some o1) (o : HO) : Same (dif H2 H1) (dif (upd H2 x o) H0) :=
  dif_mono s0 fun a u n e => by rw [upd_ne (fun z => by rw [z, x1] at n; cases n)]; exact e
theorem same_dif {H0 H1 H2 : Hp} (s : Same H1 H2) : Same (dif H1 H0) (dif H2 H0) := fun a o e => dif_at (dif_of e).1 (s _ _ (dif_of e).2)
theorem init_Span (Tx : Tab K mg t) (n : Nat) (R : CopOk P w K mg base t n) : FnOk P w K mg base CX0 (4 * n + 12) t.f_Span_init t.d_Span_init ["self", "first", "last", "rule"] (spSpan (rc t) K n) := by
  refine Tx.F_Span_init.ok sc_Span_init (fun vs H Q E h => ?_) (fun cdv A outer s H vs Q E hr h => ?_)
  · obtain ⟨x, i, H0, a, b, r, rfl, _⟩ := h
    rfl
  obtain ⟨x, i, H0, a, b, r, rfl, ⟨n0, s0, dx, hx⟩, hi, ⟨b1, b2, g⟩, hw, hd, hn, q⟩ := h
  have ew : (RT.span a b r).weight = 1 + r.weight := rfl
  have ed : (RT.span a b r).depth = 1 + r.depth := rfl
  refine ⟨_, (pss_cons (ps_if (pt_not (pt_val (pe_call (ok_is_number Tx) (hr.mono (by omega)) rfl Tx.m_is_number Tx.F_is_number.kp Tx.b_is_number .nil pass0 (pac (pv 1) (pac pe_int (pac (pe_gintE rfl Tx.m_LAST_DAY) pa_nil))))))
    (pss_one ps_never)
    pss_nil)
    (pss_cons (ps_if (pt_not (pt_val (pe_call (ok_is_number Tx) (hr.mono (by omega)) rfl Tx.m_is_number Tx.F_is_number.kp Tx.b_is_number .nil pass0 (pac (pv 2) (pac (pv 1) (pac (pe_gintE rfl Tx.m_LAST_DAY) pa_nil))))))
    (pss_one ps_never)
    pss_nil)
    (pss_cons (ps_fld (pv 0) (pv 1) rfl)
    (pss_cons (ps_fld (pv 0) (pv 2) rfl)
    (pss_cons (ps_fld (pv 0) (pe_call (copy_ok Tx n R) (hr.mono (by omega)) rfl Tx.m_copy_of Tx.F_copy_of.kp Tx.b_copy_of .nil pass0 (pac (pv 3) pa_nil)) rfl)
    (pss_one (ps_expr (pe_call (ok_check_size Tx) (hr.mono (by omega)) rfl Tx.m_check_size Tx.F_check_size.kp Tx.b_check_size .nil pass0 (pac (pv 0) pa_nil))))))))), ?_⟩
  refine ⟨_, rfl, .int (a : Nat), 0, 9999, "int", rfl, .int _, _, rfl, itF (by rw [num_ok (by omega) (by omega)]; decide) ?_⟩
  refine ⟨_, rfl, _, rfl, .int (b : Nat), (a : Nat), 9999, "int", rfl, .int _, _, rfl, itF (by rw [num_ok (by omega) (by omega)]; decide) ?_⟩
  refine ⟨_, rfl, _, rfl, x, _, dx, [], rfl, hx, Tx.cl_Span, Tx.na_Span_first, by decide, ?_⟩
  have s1 := same_upd n0 s0 (.ins t.c_Span dx (putF "first" (.int (a : Nat)) []))
  refine ⟨_, rfl, _, rfl, x, _, dx, _, rfl, upd_same, Tx.cl_Span, Tx.na_Span_last, few1 _ _, ?_⟩
  have s2 := same_upd n0 s1 (.ins t.c_Span dx (putF "last" (.int (b : Nat)) (putF "first" (.int (a : Nat)) [])))
  refine ⟨_, rfl, i, r, rfl, hi.same s2, g, by omega, by omega, hn, fun c H3 s3 h3 => ?_⟩
  refine ⟨_, rfl, x, _, dx, _, rfl, s3 _ _ upd_same, Tx.cl_Span, Tx.na_Span_inner, few2 _ _ _ _, ?_⟩
  have s4 := same_upd n0 (s2.trans s3) (.ins t.c_Span dx (putF "inner" (.ref c) (putF "last" (.int (b : Nat)) (putF "first" (.int (a : Nat)) []))))
  have fin : RAt (rc t) K (dif (upd H3 x (.ins t.c_Span dx (putF "inner" (.ref c) (putF "last" (.int (b : Nat)) (putF "first" (.int (a : Nat)) []))))) H0) x (.span a b r) :=
    .span (dif_at n0 upd_same) b1 b2 (h3.same (keep_new s2 upd_same _))
  exact ⟨_, rfl, x, _, rfl, fin.same (dif_sub _ _), hw, hd, fun H5 s5 => q H5 (s4.trans s5) (fin.same (same_dif s5))⟩
theorem init_But (Tx : Tab K mg t) (n : Nat) (R : CopOk P w K mg base t n) : FnOk P w K mg base CX0 (4 * n + 12) t.f_But_init t.d_But_init ["self", "days", "rule"] (spBut (rc t) K n) := by
  refine Tx.F_But_init.ok sc_But_init (fun vs H Q E h => ?_) (fun cdv A outer s H vs Q E hr h => ?_)
  · obtain ⟨x, l, i, H0, ds, r, rfl, _⟩ := h
    rfl
  obtain ⟨x, l, i, H0, ds, r, rfl, ⟨n0, s0, dx, hx⟩, hl, hi, ⟨b1, g⟩, hw, hd, hn, q⟩ := h
  have ew : (RT.but ds r).weight = 1 + r.weight := rfl
  have ed : (RT.but ds r).depth = 1 + r.depth := rfl
  refine ⟨_, (pss_cons (ps_if (pt_not (pt_val (pe_call (ok_are_rising Tx) (hr.mono (by omega)) rfl Tx.m_are_rising Tx.F_are_rising.kp Tx.b_are_rising .nil pass0 (pac (pv 1) (pac (pe_gintE rfl Tx.m_MOST_LISTED) (pac pe_int (pac (pe_gintE rfl Tx.m_LAST_DAY) pa_nil)))))))
    (pss_one ps_never)
    pss_nil)
    (pss_cons (ps_fld (pv 0) (pe_callTy call_tuple_of rfl Tx.z_tuple b_tuple (pac (pv 1) pa_nil)) rfl)
    (pss_cons (ps_fld (pv 0) (pe_call (copy_ok Tx n R) (hr.mono (by omega)) rfl Tx.m_copy_of Tx.F_copy_of.kp Tx.b_copy_of .nil pass0 (pac (pv 2) pa_nil)) rfl)
    (pss_one (ps_expr (pe_call (ok_check_size Tx) (hr.mono (by omega)) rfl Tx.m_check_size Tx.F_check_size.kp Tx.b_check_size .nil pass0 (pac (pv 0) pa_nil))))))), ?_⟩
  refine ⟨_, rfl, l, ds, 12, 0, _, rfl, s0 _ _ hl, b1.one, b1.few, b1.up, fun y hy => ⟨Nat.zero_le _, by have := (b1.all y hy).2; omega⟩, _, rfl, itF (by decide) ?_⟩
  refine ⟨_, rfl, l, _, rfl, .inl ⟨SqL.of (s0 _ _ hl), fun p hp => ?_⟩⟩
  have np : p ≠ x := fun z => by rw [z, hx] at hp; cases hp
  have p0 : H0 p = none := s0.free hp
  have s1 := same_upd p0 s0 (.tup (natV ds))
  refine ⟨_, rfl, x, _, dx, [], rfl, (by rw [upd_ne np.symm]; exact hx), Tx.cl_But, Tx.na_But_days, by decide, ?_⟩
  have s2 := same_upd n0 s1 (.ins t.c_But dx (putF "days" (.ref p) []))
  refine ⟨_, rfl, i, r, rfl, hi.same s2, g, by omega, by omega, hn, fun c H3 s3 h3 => ?_⟩
  refine ⟨_, rfl, x, _, dx, _, rfl, s3 _ _ upd_same, Tx.cl_But, Tx.na_But_inner, few1 _ _, ?_⟩
  have s4 := same_upd n0 (s2.trans s3) (.ins t.c_But dx (putF "inner" (.ref c) (putF "days" (.ref p) [])))
  have ep : H3 p = some (.tup (natV ds)) := s3 _ _ (by rw [upd_ne np]; exact upd_same)
  have fin : RAt (rc t) K (dif (upd H3 x (.ins t.c_But dx (putF "inner" (.ref c) (putF "days" (.ref p) [])))) H0) x (.but ds r) :=
    .but (dif_at n0 upd_same) (SqT.of (dif_at p0 (by rw [upd_ne np]; exact ep))) (h3.same (keep_new s2 upd_same _))
  exact ⟨_, rfl, x, _, rfl, fin.same (dif_sub _ _), hw, hd, fun H5 s5 => q H5 (s4.trans s5) (fin.same (same_dif s5))⟩
theorem init_Either (Tx : Tab K mg t) (n : Nat) (R : CopOk P w K mg base t n) : FnOk P w K mg base CX0 (4 * n + 12) t.f_Either_init t.d_Either_init ["self", "one", "other"] (spPair (rc t) K n t.c_Either .either) := by
  refine Tx.F_Either_init.ok sc_Either_init (fun vs H Q E h => ?_) (fun cdv A outer s H vs Q E hr h => ?_)
  · obtain ⟨x, i, j, H0, r, s', rfl, _⟩ := h
    rfl
  obtain ⟨x, i, j, H0, r, r2, rfl, ⟨n0, s0, dx, hx⟩, hi, hj, ⟨g1, g2⟩, hw, hd, hn1, hn2, q⟩ := h
  have ew : (RT.either r r2).weight = 1 + (r.weight + r2.weight) := rfl
  have ed : (RT.either r r2).depth = 1 + max r.depth r2.depth := rfl
  refine ⟨_, (pss_cons (ps_fld (pv 0) (pe_call (copy_ok Tx n R) (hr.mono (by omega)) rfl Tx.m_copy_of Tx.F_copy_of.kp Tx.b_copy_of .nil pass0 (pac (pv 1) pa_nil)) rfl)
    (pss_cons (ps_fld (pv 0) (pe_call (copy_ok Tx n R) (hr.mono (by omega)) rfl Tx.m_copy_of Tx.F_copy_of.kp Tx.b_copy_of .nil pass0 (pac (pv 2) pa_nil)) rfl)
    (pss_one (ps_expr (pe_call (ok_check_size Tx) (hr.mono (by omega)) rfl Tx.m_check_size Tx.F_check_size.kp Tx.b_check_size .nil pass0 (pac (pv 0) pa_nil)))))), ?_⟩
  refine ⟨_, rfl, i, r, rfl, hi.same s0, g1, by omega, by omega, hn1, fun c H1 s1 h1 => ?_⟩
  refine ⟨_, rfl, x, _, dx, _, rfl, s1 _ _ hx, Tx.cl_Either, Tx.na_Either_one, by decide, ?_⟩
  have s2 := same_upd n0 (s0.trans s1) (.ins t.c_Either dx (putF "one" (.ref c) []))
  refine ⟨_, rfl, j, r2, rfl, hj.same s2, g2, by omega, by omega, hn2, fun d H3 s3 h3 => ?_⟩
  refine ⟨_, rfl, x, _, dx, _, rfl, s3 _ _ upd_same, Tx.cl_Either, Tx.na_Either_other, few1 _ _, ?_⟩
  have s4 := same_upd n0 (s2.trans s3) (.ins t.c_Either dx (putF "other" (.ref d) (putF "one" (.ref c) [])))
  have c1 : Same (dif H1 H) (dif (upd H3 x (.ins t.c_Either dx (putF "other" (.ref d) (putF "one" (.ref c) [])))) H0) := dif_mono s0 fun a u nn e => by
    have ne : a ≠ x := fun z => by rw [z, hx] at nn; cases nn
    rw [upd_ne ne]
    exact s3 _ _ (by rw [upd_ne ne]; exact e)
  have fin : RAt (rc t) K (dif (upd H3 x (.ins t.c_Either dx (putF "other" (.ref d) (putF "one" (.ref c) [])))) H0) x (.either r r2) :=
    .either (dif_at n0 upd_same) (h1.same c1) (h3.same (keep_new s2 upd_same _))
  exact ⟨_, rfl, x, _, rfl, fin.same (dif_sub _ _), hw, hd, fun H5 s5 => q H5 (s4.trans s5) (fin.same (same_dif s5))⟩
theorem init_Both (Tx : Tab K mg t) (n : Nat) (R : CopOk P w K mg base t n) : FnOk P w K mg base CX0 (4 * n + 12) t.f_Both_init t.d_Both_init ["self", "one", "other"] (spPair (rc t) K n t.c_Both .both) := by
  refine Tx.F_Both_init.ok sc_Both_init (fun vs H Q E h => ?_) (fun cdv A outer s H vs Q E hr h => ?_)
  · obtain ⟨x, i, j, H0, r, s', rfl, _⟩ := h
    rfl
  obtain ⟨x, i, j, H0, r, r2, rfl, ⟨n0, s0, dx, hx⟩, hi, hj, ⟨g1, g2⟩, hw, hd, hn1, hn2, q⟩ := h
  have ew : (RT.both r r2).weight = 1 + (r.weight + r2.weight) := rfl
  have ed : (RT.both r r2).depth = 1 + max r.depth r2.depth := rfl
  refine ⟨_, (pss_cons (ps_fld (pv 0) (pe_call (copy_ok Tx n R) (hr.mono (by omega)) rfl Tx.m_copy_of Tx.F_copy_of.kp Tx.b_copy_of .nil pass0 (pac (pv 1) pa_nil)) rfl)
    (pss_cons (ps_fld (pv 0) (pe_call (copy_ok Tx n R) (hr.mono (by omega)) rfl Tx.m_copy_of Tx.F_copy_of.kp Tx.b_copy_of .nil pass0 (pac (pv 2) pa_nil)) rfl)
    (pss_one (ps_expr (pe_call (ok_check_size Tx) (hr.mono (by omega)) rfl Tx.m_check_size Tx.F_check_size.kp Tx.b_check_size .nil pass0 (pac (pv 0) pa_nil)))))), ?_⟩
  refine ⟨_, rfl, i, r, rfl, hi.same s0, g1, by omega, by omega, hn1, fun c H1 s1 h1 => ?_⟩
  refine ⟨_, rfl, x, _, dx, _, rfl, s1 _ _ hx, Tx.cl_Both, Tx.na_Both_one, by decide, ?_⟩
  have s2 := same_upd n0 (s0.trans s1) (.ins t.c_Both dx (putF "one" (.ref c) []))
  refine ⟨_, rfl, j, r2, rfl, hj.same s2, g2, by omega, by omega, hn2, fun d H3 s3 h3 => ?_⟩
  refine ⟨_, rfl, x, _, dx, _, rfl, s3 _ _ upd_same, Tx.cl_Both, Tx.na_Both_other, few1 _ _, ?_⟩
  have s4 := same_upd n0 (s2.trans s3) (.ins t.c_Both dx (putF "other" (.ref d) (putF "one" (.ref c) [])))
  have c1 : Same (dif H1 H) (dif (upd H3 x (.ins t.c_Both dx (putF "other" (.ref d) (putF "one" (.ref c) [])))) H0) := dif_mono s0 fun a u nn e => by
    have ne : a ≠ x := fun z => by rw [z, hx] at nn; cases nn
    rw [upd_ne ne]
    exact s3 _ _ (by rw [upd_ne ne]; exact e)
  have fin : RAt (rc t) K (dif (upd H3 x (.ins t.c_Both dx (putF "other" (.ref d) (putF "one" (.ref c) [])))) H0) x (.both r r2) :=
    .both (dif_at n0 upd_same) (h1.same c1) (h3.same (keep_new s2 upd_same _))
  exact ⟨_, rfl, x, _, rfl, fin.same (dif_sub _ _), hw, hd, fun H5 s5 => q H5 (s4.trans s5) (fin.same (same_dif s5))⟩
theorem made_new {H : Hp} {x dx C : Addr} (nx : H x = none) (nd : H dx = none) : New H (upd (upd H dx (.own x)) x (.ins C dx [])) x C :=
  ⟨nx, same_upd nx (same_upd nd (Same.refl _) _) _, dx, upd_same⟩
theorem copied_rule (Tx : Tab K mg t) (n : Nat) : FnOk P w K mg base CX0 (4 * n + 10) t.f_Rule_copied t.d_Rule_copied ["self"] (spCopied (rc t) K isAlways n) := by
  refine Tx.F_Rule_copied.ok sc_Rule_copied (fun vs H Q E h => ?_) (fun cdv A outer s H vs Q E hr h => ?_)
  · obtain ⟨a, r, rfl, _⟩ := h
    rfl
  obtain ⟨a, r, rfl, h, hq, g, hw, hd, hn, q⟩ := h
  refine ⟨_, (pss_one (ps_ret (pe_makeN Tx.mkn_Rule rfl Tx.m_Rule))), ?_⟩
  cases h with
  | always h => exact fun x dx nx nd nex => q x _ (same_upd nx (same_upd nd (Same.refl _) _) _) (.always (dif_at nx upd_same))
  | _ => exact hq.elim
theorem copied_week (Tx : Tab K mg t) (n : Nat) : FnOk P w K mg base CX0 (4 * n + 10) t.f_Week_copied t.d_Week_copied ["self"] (spCopied (rc t) K isWeek n) := by
  refine Tx.F_Week_copied.ok sc_Week_copied (fun vs H Q E h => ?_) (fun cdv A outer s H vs Q E hr h => ?_)
  · obtain ⟨a, r, rfl, _⟩ := h
    rfl
  obtain ⟨a, r, rfl, h, hq, g, hw, hd, hn, q⟩ := h
  refine ⟨_, (pss_one (ps_ret (pe_make Tx.mk_Week (init_Week Tx) (hr.mono (by omega)) rfl Tx.m_Week Tx.b_Week_init .nil pass0 (pac (pe_fld (pv 0) rfl) pa_nil)))), ?_⟩
  cases h with
  | week h hb => exact ⟨_, rfl, a, _, _, _, _, rfl, h, Tx.cl_Week, Tx.na_Week_bits, rfl, fun x dx nx nd nex => ⟨x, H, _, rfl, made_new nx nd, hb, fun H' s' h' => ⟨rfl, q x H' s' h'⟩⟩⟩
  | _ => exact hq.elim
theorem copied_each (Tx : Tab K mg t) (n : Nat) : FnOk P w K mg base CX0 (4 * n + 10) t.f_Each_copied t.d_Each_copied ["self"] (spCopied (rc t) K isEach n) := by
  refine Tx.F_Each_copied.ok sc_Each_copied (fun vs H Q E h => ?_) (fun cdv A outer s H vs Q E hr h => ?_)
  · obtain ⟨a, r, rfl, _⟩ := h
    rfl
  obtain ⟨a, r, rfl, h, hq, g, hw, hd, hn, q⟩ := h
  refine ⟨_, (pss_one (ps_ret (pe_make Tx.mk_Each (init_Each Tx) (hr.mono (by omega)) rfl Tx.m_Each Tx.b_Each_init .nil pass0 (pac (pe_fld (pv 0) rfl) (pac (pe_callTy call_list_of rfl Tx.z_list b_list (pac (pe_fld (pv 0) rfl) pa_nil)) pa_nil))))), ?_⟩
  cases h with
  | each h h1 h2 hp =>
    rename_i dx0 p0 m0 ss0
    refine ⟨_, rfl, a, _, _, _, _, rfl, h, Tx.cl_Each, Tx.na_Each_length, rfl, _, rfl, a, _, _, _, _, rfl, h, Tx.cl_Each, Tx.na_Each_starts, rfl, _, _, rfl, .inr hp, fun l hl x dx nx nd nex => ?_⟩
    have s1 := same_new hl (.lst (natV ss0))
    exact ⟨x, l, _, _, _, rfl, made_new nx nd, upd_same, g, fun H' s' h' => ⟨rfl, q x H' (s1.trans s') (h'.same (dif_mono s1 fun _ _ _ e => e))⟩⟩
  | _ => exact hq.elim
theorem copied_span (Tx : Tab K mg t) (n : Nat) (R : CopOk P w K mg base t n) : FnOk P w K mg base CX0 (4 * (n + 1) + 10) t.f_Span_copied t.d_Span_copied ["self"] (spCopied (rc t) K isSpan (n + 1)) := by
  refine Tx.F_Span_copied.ok sc_Span_copied (fun vs H Q E h => ?_) (fun cdv A outer s H vs Q E hr h => ?_)
  · obtain ⟨a, r, rfl, _⟩ := h
    rfl
  obtain ⟨a, r, rfl, h, hq, g, hw, hd, hn, q⟩ := h
  refine ⟨_, (pss_one (ps_ret (pe_make Tx.mk_Span (init_Span Tx n R) (hr.mono (by omega)) rfl Tx.m_Span Tx.b_Span_init .nil pass0 (pac (pe_fld (pv 0) rfl) (pac (pe_fld (pv 0) rfl) (pac (pe_fld (pv 0) rfl) pa_nil)))))), ?_⟩
  cases h with
  | span h hx hy hi =>
    rename_i dx0 i x0 y0 r0
    have ed : (RT.span x0 y0 r0).depth = 1 + r0.depth := rfl
    exact ⟨_, rfl, a, _, _, _, _, rfl, h, Tx.cl_Span, Tx.na_Span_first, rfl, _, rfl, a, _, _, _, _, rfl, h, Tx.cl_Span, Tx.na_Span_last, rfl, _, rfl, a, _, _, _, _, rfl, h, Tx.cl_Span, Tx.na_Span_inner, rfl,
      fun x dx nx nd nex => ⟨x, _, H, _, _, _, rfl, made_new nx nd, hi, g, hw, hd, by omega, fun H' s' h' => ⟨rfl, q x H' s' h'⟩⟩⟩
  | _ => exact hq.elim
theorem copied_but (Tx : Tab K mg t) (n : Nat) (R : CopOk P w K mg base t n) : FnOk P w K mg base CX0 (4 * (n + 1) + 10) t.f_But_copied t.d_But_copied ["self"] (spCopied (rc t) K isBut (n + 1)) := by
  refine Tx.F_But_copied.ok sc_But_copied (fun vs H Q E h => ?_) (fun cdv A outer s H vs Q E hr h => ?_)
  · obtain ⟨a, r, rfl, _⟩ := h
    rfl
  obtain ⟨a, r, rfl, h, hq, g, hw, hd, hn, q⟩ := h
  refine ⟨_, (pss_one (ps_ret (pe_make Tx.mk_But (init_But Tx n R) (hr.mono (by omega)) rfl Tx.m_But Tx.b_But_init .nil pass0 (pac (pe_callTy call_list_of rfl Tx.z_list b_list (pac (pe_fld (pv 0) rfl) pa_nil)) (pac (pe_fld (pv 0) rfl) pa_nil))))), ?_⟩
  cases h with
  | but h hp hi =>
    rename_i dx0 p0 i ds0 r0
    have ed : (RT.but ds0 r0).depth = 1 + r0.depth := rfl
    refine ⟨_, rfl, a, _, _, _, _, rfl, h, Tx.cl_But, Tx.na_But_days, rfl, _, _, rfl, .inr hp, fun l hl => ?_⟩
    have s1 := same_new hl (.lst (natV ds0))
    exact ⟨_, rfl, a, _, _, _, _, rfl, s1 _ _ h, Tx.cl_But, Tx.na_But_inner, rfl, fun x dx nx nd nex => ⟨x, l, _, _, _, _, rfl, made_new nx nd, upd_same, hi.same s1, g, hw, hd, by omega, fun H' s' h' => ⟨rfl, q x H' (s1.trans s') (h'.same (dif_mono s1 fun _ _ _ e => e))⟩⟩⟩
  | _ => exact hq.elim
theorem copied_either (Tx : Tab K mg t) (n : Nat) (R : CopOk P w K mg base t n) : FnOk P w K mg base CX0 (4 * (n + 1) + 10) t.f_Either_copied t.d_Either_copied ["self"] (spCopied (rc t) K isEither (n + 1)) := by
  refine Tx.F_Either_copied.ok sc_Either_copied (fun vs H Q E h => ?_) (fun cdv A outer s H vs Q E hr h => ?_)
  · obtain ⟨a, r, rfl, _⟩ := h
    rfl
  obtain ⟨a, r, rfl, h, hq, g, hw, hd, hn, q⟩ := h
  refine ⟨_, (pss_one (ps_ret (pe_make Tx.mk_Either (init_Either Tx n R) (hr.mono (by omega)) rfl Tx.m_Either Tx.b_Either_init .nil pass0 (pac (pe_fld (pv 0) rfl) (pac (pe_fld (pv 0) rfl) pa_nil))))), ?_⟩
  cases h with
  | either h hi hj =>
    rename_i dx0 i j r0 r1
    have ed : (RT.either r0 r1).depth = 1 + max r0.depth r1.depth := rfl
    exact ⟨_, rfl, a, _, _, _, _, rfl, h, Tx.cl_Either, Tx.na_Either_one, rfl, _, rfl, a, _, _, _, _, rfl, h, Tx.cl_Either, Tx.na_Either_other, rfl,
      fun x dx nx nd nex => ⟨x, _, _, H, _, _, rfl, made_new nx nd, hi, hj, g, hw, hd, by omega, by omega, fun H' s' h' => ⟨rfl, q x H' s' h'⟩⟩⟩
  | _ => exact hq.elim
theorem copied_both (Tx : Tab K mg t) (n : Nat) (R : CopOk P w K mg base t n) : FnOk P w K mg base CX0 (4 * (n + 1) + 10) t.f_Both_copied t.d_Both_copied ["self"] (spCopied (rc t) K isBoth (n + 1)) := by
  refine Tx.F_Both_copied.ok sc_Both_copied (fun vs H Q E h => ?_) (fun cdv A outer s H vs Q E hr h => ?_)
  · obtain ⟨a, r, rfl, _⟩ := h
    rfl
  obtain ⟨a, r, rfl, h, hq, g, hw, hd, hn, q⟩ := h
  refine ⟨_, (pss_one (ps_ret (pe_make Tx.mk_Both (init_Both Tx n R) (hr.mono (by omega)) rfl Tx.m_Both Tx.b_Both_init .nil pass0 (pac (pe_fld (pv 0) rfl) (pac (pe_fld (pv 0) rfl) pa_nil))))), ?_⟩
  cases h with
  | both h hi hj =>
    rename_i dx0 i j r0 r1
    have ed : (RT.both r0 r1).depth = 1 + max r0.depth r1.depth := rfl
    exact ⟨_, rfl, a, _, _, _, _, rfl, h, Tx.cl_Both, Tx.na_Both_one, rfl, _, rfl, a, _, _, _, _, rfl, h, Tx.cl_Both, Tx.na_Both_other, rfl,
      fun x dx nx nd nex => ⟨x, _, _, H, _, _, rfl, made_new nx nd, hi, hj, g, hw, hd, by omega, by omega, fun H' s' h' => ⟨rfl, q x H' s' h'⟩⟩⟩
  | _ => exact hq.elim
theorem cop_ok (Tx : Tab K mg t) : ∀ n, CopOk P w K mg base t n
  | 0 => by
    have no : ∀ {q : RT → Prop}, ∀ vs H Q E, spCopied (rc t) K q 0 vs H Q E → False := fun vs H Q E h => by
      obtain ⟨a, r, rfl, h, hq, g, hw, hd, hn, _⟩ := h
      have := r.depth_pos
      omega
    exact ⟨copied_rule Tx 0, copied_week Tx 0,
      Tx.F_Span_copied.ok sc_Span_copied (fun vs H Q E h => (no vs H Q E h).elim) (fun cdv A outer s H vs Q E hr h => (no vs H Q E h).elim), copied_each Tx 0,
      Tx.F_Either_copied.ok sc_Either_copied (fun vs H Q E h => (no vs H Q E h).elim) (fun cdv A outer s H vs Q E hr h => (no vs H Q E h).elim),
      Tx.F_Both_copied.ok sc_Both_copied (fun vs H Q E h => (no vs H Q E h).elim) (fun cdv A outer s H vs Q E hr h => (no vs H Q E h).elim),
      Tx.F_But_copied.ok sc_But_copied (fun vs H Q E h => (no vs H Q E h).elim) (fun cdv A outer s H vs Q E hr h => (no vs H Q E h).elim)⟩
  | n + 1 => have R := cop_ok Tx n
    ⟨copied_rule Tx (n + 1), copied_week Tx (n + 1), copied_span Tx n R, copied_each Tx (n + 1), copied_either Tx n R, copied_both Tx n R, copied_but Tx n R⟩
theorem ini_Span (Tx : Tab K mg t) : FnOk P w K mg base CX0 40 t.f_Span_init t.d_Span_init ["self", "first", "last", "rule"] (spSpan (rc t) K 7) := init_Span Tx 7 (cop_ok Tx 7)
theorem ini_But (Tx : Tab K mg t) : FnOk P w K mg base CX0 40 t.f_But_init t.d_But_init ["self", "days", "rule"] (spBut (rc t) K 7) := init_But Tx 7 (cop_ok Tx 7)
theorem ini_Either (Tx : Tab K mg t) : FnOk P w K mg base CX0 40 t.f_Either_init t.d_Either_init ["self", "one", "other"] (spPair (rc t) K 7 t.c_Either .either) := init_Either Tx 7 (cop_ok Tx 7)
theorem ini_Both (Tx : Tab K mg t) : FnOk P w K mg base CX0 40 t.f_Both_init t.d_Both_init ["self", "one", "other"] (spPair (rc t) K 7 t.c_Both .both) := init_Both Tx 7 (cop_ok Tx 7)
theorem ini_Week (Tx : Tab K mg t) : FnOk P w K mg base CX0 40 t.f_Week_init t.d_Week_init ["self", "bits"] (spWeek (rc t) K) := (init_Week Tx).mono (by omega)
theorem ini_Each (Tx : Tab K mg t) : FnOk P w K mg base CX0 40 t.f_Each_init t.d_Each_init ["self", "length", "starts"] (spEach (rc t) K) := (init_Each Tx).mono (by omega)

def NoRl (K : W.Frag) (c : Addr) (H : Hp) (v : V) : Prop := ∃ T, Kd H v T ∧ W.kitOne K (.type T) (.ref c) = some false
theorem NoRl.same {K : W.Frag} {c : Addr} {H H' : Hp} {v : V} (h : NoRl K c H v) (s : Same H H') : NoRl K c H' v := let ⟨T, k, e⟩ := h; ⟨T, k.same s, e⟩
theorem ris_nat : ∀ (xs : List V) (lo hi : Int), 0 ≤ lo → risB lo hi xs = true → ∃ ds : List Nat, xs = natV ds ∧ ds.Pairwise (· < ·) ∧ ∀ x ∈ ds, lo ≤ x ∧ ((x : Nat) : Int) ≤ hi
  | [], lo, hi, _, _ => ⟨[], rfl, .nil, fun x hx => by cases hx⟩
  | x :: r, lo, hi, h0, h => by
    have h' : (numV x lo hi && risB (intOf x + 1) hi r) = true := h
    rw [Bool.and_eq_true] at h'
    cases x with
    | int i =>
      have b : lo ≤ i ∧ i ≤ hi := of_decide_eq_true h'.1
      obtain ⟨ds, rfl, up, al⟩ := ris_nat r (i + 1) hi (by omega) h'.2
      obtain ⟨n, rfl⟩ : ∃ n : Nat, i = ((n : Nat) : Int) := ⟨i.toNat, by omega⟩
      refine ⟨n :: ds, rfl, List.pairwise_cons.mpr ⟨fun y hy => ?_, up⟩, fun y hy => ?_⟩
      · have := (al y hy).1
        omega
      · rcases List.mem_cons.mp hy with rfl | hy
        · exact b
        · have := al y hy
          omega
    | _ => cases h'.1
theorem ris_good : ∀ (ds : List Nat) (lo hi : Int), ds.Pairwise (· < ·) → (∀ x ∈ ds, lo ≤ ((x : Nat) : Int) ∧ ((x : Nat) : Int) ≤ hi) → risB lo hi (natV ds) = true
  | [], _, _, _, _ => rfl
  | d :: r, lo, hi, up, al => by
    have hd := al d List.mem_cons_self
    obtain ⟨u1, u2⟩ := List.pairwise_cons.mp up
    show (numV (.int ((d : Nat) : Int)) lo hi && risB (((d : Nat) : Int) + 1) hi (natV r)) = true
    rw [num_ok hd.1 hd.2, ris_good r _ hi u2 fun x hx => ⟨by have := u1 x hx; omega, (al x (List.mem_cons_of_mem _ hx)).2⟩]
    rfl
theorem natV_inj : ∀ {a b : List Nat}, natV a = natV b → a = b
  | [], [], _ => rfl
  | [], _ :: _, h => by cases h
  | _ :: _, [], h => by cases h
  | x :: r, y :: q, h => by
    have h1 := List.cons.inj h
    have h2 : ((x : Nat) : Int) = ((y : Nat) : Int) := V.int.inj h1.1
    rw [natV_inj h1.2, show x = y by omega]
def Lists (H : Hp) (v : V) : Prop := (∃ T, Kd H v T ∧ T ≠ "list") ∨ (∃ (a : Addr) (xs : List V), v = .ref a ∧ H a = some (.lst xs) ∧ ∀ x ∈ xs, ∃ T, Kd H x T)
def RisV (H : Hp) (v : V) (hi : Int) : Prop := ∃ (a : Addr) (ds : List Nat), v = .ref a ∧ H a = some (.lst (natV ds)) ∧ 1 ≤ ds.length ∧ ds.length ≤ 12 ∧ ds.Pairwise (· < ·) ∧ ∀ x ∈ ds, ((x : Nat) : Int) ≤ hi
theorem Lists.same {H H' : Hp} {v : V} (h : Lists H v) (s : Same H H') : Lists H' v := by
  rcases h with ⟨T, k, n⟩ | ⟨a, xs, e, ha, hk⟩
  · exact .inl ⟨T, k.same s, n⟩
  · exact .inr ⟨a, xs, e, s _ _ ha, fun x hx => let ⟨T, k⟩ := hk x hx; ⟨T, k.same s⟩⟩
theorem ris_no {H : Hp} {a : Addr} {xs : List V} {hi : Int} (ha : H a = some (.lst xs)) (h : ¬ RisV H (.ref a) hi) : (decide (1 ≤ xs.length ∧ (xs.length : Int) ≤ 12) && risB 0 hi xs) = false := by
  cases c : (decide (1 ≤ xs.length ∧ (xs.length : Int) ≤ 12) && risB 0 hi xs) with
  | false => rfl
  | true =>
    rw [Bool.and_eq_true, decide_eq_true_eq] at c
    obtain ⟨ds, rfl, up, al⟩ := ris_nat xs 0 hi (by decide) c.2
    rw [List.length_map] at c
    exact absurd ⟨a, ds, rfl, ha, c.1.1, by omega, up, fun x hx => (al x hx).2⟩ h
theorem ris_yes {ds : List Nat} {hi : Int} (l1 : 1 ≤ ds.length) (l2 : ds.length ≤ 12) (up : ds.Pairwise (· < ·)) (al : ∀ x ∈ ds, ((x : Nat) : Int) ≤ hi) : (decide (1 ≤ (natV ds).length ∧ ((natV ds).length : Int) ≤ 12) && risB 0 hi (natV ds)) = true := by
  rw [ris_good ds 0 hi up fun x hx => ⟨by omega, al x hx⟩, List.length_map, decide_eq_true ⟨l1, by omega⟩]
  rfl
theorem kinds_nat {H : Hp} (ds : List Nat) : ∀ x ∈ natV ds, ∃ T, Kd H x T := fun x hx => by
  obtain ⟨n, _, rfl⟩ := List.mem_map.mp hx
  exact ⟨_, .int _⟩
theorem RisV.back {H0 H : Hp} {v : V} {hi : Int} (l : Lists H0 v) (s : Same H0 H) (h : RisV H v hi) : RisV H0 v hi := by
  obtain ⟨a, ds, rfl, ha, r⟩ := h
  refine ⟨a, ds, rfl, ?_, r⟩
  rcases l with ⟨T', k, nT⟩ | ⟨a', xs, e', ha', _⟩
  · cases k with
    | lst e' => exact absurd rfl nT
    | tup e' => rw [s _ _ e'] at ha; cases ha
    | dK e' => rw [s _ _ e'] at ha; cases ha
  · cases e'
    rw [s _ _ ha'] at ha
    cases ha
    exact ha'
theorem RisV.same {H0 H : Hp} {v : V} {hi : Int} (s : Same H0 H) (h : RisV H0 v hi) : RisV H v hi := let ⟨a, ds, e, ha, r⟩ := h; ⟨a, ds, e, s _ _ ha, r⟩
def spSizeX (t : Adr) (K : W.Frag) : Sp := fun vs H Q E => ∃ (a : Addr) (r : RT), vs = [.ref a] ∧ RAt (rc t) K H a r ∧ r.weight ≤ 1000 ∧ r.depth ≤ 9 ∧ (r.weight ≤ 15 ∧ r.depth ≤ 8 → ∀ H', Same H H' → Q .non H') ∧ (¬ (r.weight ≤ 15 ∧ r.depth ≤ 8) → ∀ H', Same H H' → E (.ref t.c_TooMany) none H')
theorem sizeX_ok (Tx : Tab K mg t) : FnOk P w K mg base (CXO P w) 11 t.f_check_size t.d_check_size ["rule"] (spSizeX t K) := by
  refine Tx.F_check_size.okX sc_check_size (fun vs H Q E h => ?_) (fun cdv A outer s H vs Q E hr h => ?_)
  · obtain ⟨a, r, rfl, _⟩ := h
    rfl
  obtain ⟨a, r, rfl, h, hw, hd, q, e⟩ := h
  refine ⟨_, (pss_cons (ps_if (pt_cmpR op_gt (pe_meth0D (pv 0)) (pe_gintE rfl Tx.m_MOST_WEIGHT) (nomark _))
    (pss_one (ps_raise raises_fn Tx.e_TooMany rfl rfl Tx.m_TooMany (pac pe_str pa_nil)))
    pss_nil)
    (pss_one (ps_if (pt_cmpR op_gt (pe_meth0D (pv 0)) (pe_gintE rfl Tx.m_MOST_DEPTH) (nomark _))
    (pss_one (ps_raise raises_fn Tx.e_TooMany rfl rfl Tx.m_TooMany (pac pe_str pa_nil)))
    pss_nil))), ?_⟩
  obtain ⟨C, dx, fs, l, cl, ⟨lk, me⟩, _⟩ := meth_at Tx h
  refine ⟨_, rfl, a, C, dx, fs, _, _, _, _, _, CX0, E0, rfl, l, lk, cl, me, weight_ok Tx 9, hr.mono (by omega), Tx.b_Rule_weight, pass0, a, r, rfl, h, hd, by omega, fun H1 s1 => ?_⟩
  refine ⟨_, _, rfl, rfl, _, rfl, ?_⟩
  by_cases w15 : r.weight ≤ 15
  rotate_left
  · exact itT (decide_eq_true (by omega)) ⟨by show 1 ≤ sizeLine; decide, e (fun z => w15 z.1) H1 s1⟩
  refine itF (by rw [decide_eq_false (by omega)]; decide) ?_
  have h1 := h.same s1
  obtain ⟨C, dx, fs, l, cl, _, ⟨lk, me⟩⟩ := meth_at Tx h1
  refine ⟨_, rfl, a, C, dx, fs, _, _, _, _, _, CX0, E0, rfl, l, lk, cl, me, depth_ok Tx 9, hr.mono (by omega), Tx.b_Rule_depth, pass0, a, r, rfl, h1, hd, fun H2 s2 => ?_⟩
  refine ⟨_, _, rfl, rfl, _, rfl, ?_⟩
  by_cases d8 : r.depth ≤ 8
  · exact itF (by rw [decide_eq_false (by omega)]; decide) (q ⟨w15, d8⟩ H2 (s1.trans s2))
  · exact itT (decide_eq_true (by omega)) ⟨by show 1 ≤ sizeLine; decide, e (fun z => d8 z.2) H2 (s1.trans s2)⟩
def RArg (t : Adr) (K : W.Frag) (n : Nat) (H : Hp) (v : V) : Prop := (∃ (i : Addr) (r : RT), v = .ref i ∧ RAt (rc t) K H i r ∧ r.good ∧ r.weight ≤ 15 ∧ r.depth ≤ 8 ∧ r.depth ≤ n) ∨ NoRl K t.c_Rule H v
def spCopyX (t : Adr) (K : W.Frag) (n : Nat) : Sp := fun vs H Q E => ∃ v : V, vs = [v] ∧ ((NoRl K t.c_Rule H v ∧ E (.ref t.c_BadRule) none H) ∨
  (∃ (a : Addr) (r : RT), v = .ref a ∧ RAt (rc t) K H a r ∧ r.good ∧ r.weight ≤ 15 ∧ r.depth ≤ 8 ∧ r.depth ≤ n ∧ ∀ b H', Same H H' → RAt (rc t) K (dif H' H) b r → Q (.ref b) H'))
theorem copyX_ok (Tx : Tab K mg t) (n : Nat) (R : CopOk P w K mg base t n) : FnOk P w K mg base (CXO P w) (4 * n + 11) t.f_copy_of t.d_copy_of ["rule"] (spCopyX t K n) := by
  refine Tx.F_copy_of.okX sc_copy_of (fun vs H Q E h => ?_) (fun cdv A outer s H vs Q E hr h => ?_)
  · obtain ⟨v, rfl, _⟩ := h
    rfl
  obtain ⟨v, rfl, h⟩ := h
  refine ⟨_, (pss_cons (ps_if (pt_not (pt_val (pe_callB call_isi_own rfl Tx.z_isinstance b_isinstance (pac (pv 0) (pac (pe_gref rfl Tx.m_Rule) pa_nil)))))
    (pss_one (ps_raise raises_fn Tx.e_BadRule rfl rfl Tx.m_BadRule (pac pe_str pa_nil)))
    pss_nil)
    (pss_one (ps_ret (pe_meth0D (pv 0))))), ?_⟩
  rcases h with ⟨⟨T, kd, ki⟩, e⟩ | ⟨a, r, rfl, h, g, hw, hd, hn, q⟩
  · exact ⟨_, rfl, v, t.c_Rule, _, _, rfl, kd.ty, ki, _, rfl, itT (by decide) ⟨by show 1 ≤ sizeLine; decide, e⟩⟩
  obtain ⟨C0, ty, ki⟩ := is_rule Tx h
  refine ⟨_, rfl, .ref a, t.c_Rule, _, _, rfl, ty, ki, _, rfl, itF (by decide) ?_⟩
  obtain ⟨C, dx, fs, f, fd, sp, g1, g2, g3, g4, g5, g6, g7⟩ := R.at Tx h g hw hd hn
  exact ⟨_, rfl, a, C, dx, fs, f, fd, _, _, sp, CX0, E0, rfl, g1, g2, g3, g4, g5, hr.mono (by omega), g6, pass0, g7 _ q⟩
def spWeekX (t : Adr) (K : W.Frag) : Sp := fun vs H Q E => ∃ (x : Addr) (H0 : Hp) (v : V) (T : String), vs = [.ref x, v] ∧ New H0 H x t.c_Week ∧ Kd H0 v T ∧ (∀ b : Nat, v = .int (b : Nat) → b ≤ 127 → ∀ H', Same H0 H' → RAt (rc t) K (dif H' H0) x (.week b) → Q .non H') ∧
  (numV v 0 127 = false → ∀ H', Same H0 H' → E (.ref t.c_BadRule) none H')
theorem inX_Week (Tx : Tab K mg t) : FnOk P w K mg base (CXO P w) 3 t.f_Week_init t.d_Week_init ["self", "bits"] (spWeekX t K) := by
  refine Tx.F_Week_init.okX sc_Week_init (fun vs H Q E h => ?_) (fun cdv A outer s H vs Q E hr h => ?_)
  · obtain ⟨x, H0, v, T, rfl, _⟩ := h
    rfl
  obtain ⟨x, H0, v, T, rfl, ⟨n0, s0, dx, hx⟩, kd, q, e⟩ := h
  refine ⟨_, (pss_cons (ps_if (pt_not (pt_val (pe_call (ok_is_number Tx) (hr.mono (by omega)) rfl Tx.m_is_number Tx.F_is_number.kp Tx.b_is_number .nil pass0 (pac (pv 1) (pac pe_int (pac (pe_gintE rfl Tx.m_ALL_WEEK) pa_nil))))))
    (pss_one (ps_raise raises_fn Tx.e_BadRule rfl rfl Tx.m_BadRule (pac pe_str pa_nil)))
    pss_nil)
    (pss_one (ps_fld (pv 0) (pv 1) rfl))), ?_⟩
  refine ⟨_, rfl, v, 0, 127, T, rfl, kd.same s0, _, rfl, ?_⟩
  cases hn : numV v 0 127 with
  | false => exact itT rfl ⟨by show 1 ≤ sizeLine; decide, e hn _ s0⟩
  | true =>
    refine itF (by decide) ?_
    cases v with
    | int i =>
      have b : 0 ≤ i ∧ i ≤ 127 := of_decide_eq_true hn
      obtain ⟨b', rfl⟩ : ∃ n : Nat, i = ((n : Nat) : Int) := ⟨i.toNat, by omega⟩
      exact ⟨_, rfl, _, rfl, x, _, dx, [], rfl, hx, Tx.cl_Week, Tx.na_Week_bits, by decide, q b' rfl (by omega) _ (same_upd n0 s0 _) (.week (dif_at n0 upd_same) (by omega))⟩
    | _ => cases hn
def spEachX (t : Adr) (K : W.Frag) : Sp := fun vs H Q E => ∃ (x : Addr) (H0 : Hp) (v u : V) (T : String), vs = [.ref x, v, u] ∧ New H0 H x t.c_Each ∧ Kd H0 v T ∧ Lists H0 u ∧
  (∀ (n : Nat) (l : Addr) (ss : List Nat), v = .int (n : Nat) → u = .ref l → H0 l = some (.lst (natV ss)) → (RT.each n ss).good → ∀ H', Same H0 H' → RAt (rc t) K (dif H' H0) x (.each n ss) → Q .non H') ∧
  (numV v 1 28 = false ∨ ¬ RisV H0 u (intOf v - 1) → ∀ H', Same H0 H' → E (.ref t.c_BadRule) none H')
theorem inX_Each (Tx : Tab K mg t) : FnOk P w K mg base (CXO P w) 4 t.f_Each_init t.d_Each_init ["self", "length", "starts"] (spEachX t K) := by
  refine Tx.F_Each_init.okX sc_Each_init (fun vs H Q E h => ?_) (fun cdv A outer s H vs Q E hr h => ?_)
  · obtain ⟨x, H0, v, u, T, rfl, _⟩ := h
    rfl
  obtain ⟨x, H0, v, u, T, rfl, ⟨n0, s0, dx, hx⟩, kd, hl, q, e⟩ := h
  refine ⟨_, (pss_cons (ps_if (pt_not (pt_val (pe_call (ok_is_number Tx) (hr.mono (by omega)) rfl Tx.m_is_number Tx.F_is_number.kp Tx.b_is_number .nil pass0 (pac (pv 1) (pac pe_int (pac (pe_gintE rfl Tx.m_MOST_LENGTH) pa_nil))))))
    (pss_one (ps_raise raises_fn Tx.e_BadRule rfl rfl Tx.m_BadRule (pac pe_str pa_nil)))
    pss_nil)
    (pss_cons (ps_if (pt_not (pt_val (pe_call (rising_any Tx) (hr.mono (by omega)) rfl Tx.m_are_rising Tx.F_are_rising.kp Tx.b_are_rising .nil pass0 (pac (pv 2) (pac (pe_gintE rfl Tx.m_MOST_LISTED) (pac pe_int (pac (pe_op op_sub (pv 1) pe_int) pa_nil)))))))
    (pss_one (ps_raise raises_fn Tx.e_BadRule rfl rfl Tx.m_BadRule (pac pe_str pa_nil)))
    pss_nil)
    (pss_cons (ps_fld (pv 0) (pv 1) rfl)
    (pss_one (ps_fld (pv 0) (pe_callTy call_tuple_of rfl Tx.z_tuple b_tuple (pac (pv 2) pa_nil)) rfl))))), ?_⟩
  refine ⟨_, rfl, v, 1, 28, T, rfl, kd.same s0, _, rfl, ?_⟩
  cases hn : numV v 1 28 with
  | false => exact itT rfl ⟨by show 1 ≤ sizeLine; decide, e (.inl hn) _ s0⟩
  | true =>
    refine itF (by decide) ?_
    cases v with
    | int i =>
      have b : 1 ≤ i ∧ i ≤ 28 := of_decide_eq_true hn
      obtain ⟨n, rfl⟩ : ∃ n : Nat, i = ((n : Nat) : Int) := ⟨i.toNat, by omega⟩
      refine ⟨_, rfl, _, rfl, _, _, rfl, rfl, ?_⟩
      refine ⟨u, 12, 0, ((n : Nat) : Int) - 1, rfl, ?_⟩
      by_cases hR : RisV H u (((n : Nat) : Int) - 1)
      · obtain ⟨l, ss, rfl, hl0, _⟩ := RisV.back hl s0 hR
        obtain ⟨l', ss', e', hlH, l1, l2, up, al⟩ := hR
        cases e'
        rw [s0 _ _ hl0] at hlH
        cases natV_inj (HO.lst.inj (Option.some.inj hlH))
        refine .inr ⟨l, _, rfl, s0 _ _ hl0, kinds_nat _, ?_⟩
        rw [ris_yes l1 l2 up al]
        refine ⟨_, rfl, itF (by decide) ?_⟩
        have g : Rsg ss 0 (n - 1) := ⟨l1, l2, up, fun y hy => ⟨Nat.zero_le _, by have := al y hy; omega⟩⟩
        refine ⟨_, rfl, _, rfl, x, _, dx, [], rfl, hx, Tx.cl_Each, Tx.na_Each_length, by decide, ?_⟩
        have s1 := same_upd n0 s0 (.ins t.c_Each dx (putF "length" (.int (n : Nat)) []))
        refine ⟨_, rfl, l, _, rfl, .inl ⟨SqL.of (s1 _ _ hl0), fun p hp => ?_⟩⟩
        have np : p ≠ x := fun z => by rw [z, upd_same] at hp; cases hp
        have p0 : H0 p = none := s1.free hp
        refine ⟨_, rfl, x, _, dx, _, rfl, (by rw [upd_ne np.symm]; exact upd_same), Tx.cl_Each, Tx.na_Each_starts, few1 _ _, ?_⟩
        exact q n l ss rfl rfl hl0 ⟨by omega, by omega, g⟩ _ (same_upd n0 (same_upd p0 s1 _) _) (.each (dif_at n0 upd_same) (by omega) (by omega) (SqT.of (dif_at p0 (by rw [upd_ne np]; exact upd_same))))
      · have hl' := hl.same s0
        rcases hl' with ⟨T', k', nT⟩ | ⟨a', xs, rfl, ha, hk⟩
        · exact .inl ⟨T', k', nT, _, rfl, itT rfl ⟨by show 1 ≤ sizeLine; decide, e (.inr fun z => hR (z.same s0)) _ s0⟩⟩
        · refine .inr ⟨a', xs, rfl, ha, hk, ?_⟩
          rw [ris_no ha hR]
          exact ⟨_, rfl, itT rfl ⟨by show 1 ≤ sizeLine; decide, e (.inr fun z => hR (z.same s0)) _ s0⟩⟩
    | _ => cases hn
def spSpanX (t : Adr) (K : W.Frag) (n : Nat) : Sp := fun vs H Q E => ∃ (x : Addr) (H0 : Hp) (f l rv : V) (Tf Tl : String), vs = [.ref x, f, l, rv] ∧ New H0 H x t.c_Span ∧ Kd H0 f Tf ∧ Kd H0 l Tl ∧ RArg t K n H0 rv ∧
  (∀ (a b : Nat) (i : Addr) (r : RT), f = .int (a : Nat) → l = .int (b : Nat) → rv = .ref i → RAt (rc t) K H0 i r → (RT.span a b r).good →
    ((RT.span a b r).weight ≤ 15 ∧ (RT.span a b r).depth ≤ 8 → ∀ H', Same H0 H' → RAt (rc t) K (dif H' H0) x (.span a b r) → Q .non H') ∧ (¬ ((RT.span a b r).weight ≤ 15 ∧ (RT.span a b r).depth ≤ 8) → ∀ H', Same H0 H' → E (.ref t.c_TooMany) none H')) ∧
  (numV f 0 9999 = false ∨ numV l (intOf f) 9999 = false ∨ NoRl K t.c_Rule H0 rv → ∀ H', Same H0 H' → E (.ref t.c_BadRule) none H')
theorem inX_Span (Tx : Tab K mg t) (n : Nat) (R : CopOk P w K mg base t n) : FnOk P w K mg base (CXO P w) (4 * n + 12) t.f_Span_init t.d_Span_init ["self", "first", "last", "rule"] (spSpanX t K n) := by
  refine Tx.F_Span_init.okX sc_Span_init (fun vs H Q E h => ?_) (fun cdv A outer s H vs Q E hr h => ?_)
  · obtain ⟨x, H0, f, l, rv, Tf, Tl, rfl, _⟩ := h
    rfl
  obtain ⟨x, H0, f, l, rv, Tf, Tl, rfl, ⟨n0, s0, dx, hx⟩, kf, kl, ra, q, e⟩ := h
  refine ⟨_, (pss_cons (ps_if (pt_not (pt_val (pe_call (ok_is_number Tx) (hr.mono (by omega)) rfl Tx.m_is_number Tx.F_is_number.kp Tx.b_is_number .nil pass0 (pac (pv 1) (pac pe_int (pac (pe_gintE rfl Tx.m_LAST_DAY) pa_nil))))))
    (pss_one (ps_raise raises_fn Tx.e_BadRule rfl rfl Tx.m_BadRule (pac pe_str pa_nil)))
    pss_nil)
    (pss_cons (ps_if (pt_not (pt_val (pe_call (ok_is_number Tx) (hr.mono (by omega)) rfl Tx.m_is_number Tx.F_is_number.kp Tx.b_is_number .nil pass0 (pac (pv 2) (pac (pv 1) (pac (pe_gintE rfl Tx.m_LAST_DAY) pa_nil))))))
    (pss_one (ps_raise raises_fn Tx.e_BadRule rfl rfl Tx.m_BadRule (pac pe_str pa_nil)))
    pss_nil)
    (pss_cons (ps_fld (pv 0) (pv 1) rfl)
    (pss_cons (ps_fld (pv 0) (pv 2) rfl)
    (pss_cons (ps_fld (pv 0) (pe_call (copyX_ok Tx n R) (hr.mono (by omega)) rfl Tx.m_copy_of Tx.F_copy_of.kp Tx.b_copy_of .nil passes_fn (pac (pv 3) pa_nil)) rfl)
    (pss_one (ps_expr (pe_call (sizeX_ok Tx) (hr.mono (by omega)) rfl Tx.m_check_size Tx.F_check_size.kp Tx.b_check_size .nil passes_fn (pac (pv 0) pa_nil))))))))), ?_⟩
  refine ⟨_, rfl, f, 0, 9999, Tf, rfl, kf.same s0, _, rfl, ?_⟩
  cases hf : numV f 0 9999 with
  | false => exact itT rfl ⟨by show 1 ≤ sizeLine; decide, e (.inl hf) _ s0⟩
  | true =>
  refine itF (by decide) ?_
  cases f with
  | int fi =>
    have bf : 0 ≤ fi ∧ fi ≤ 9999 := of_decide_eq_true hf
    obtain ⟨a, rfl⟩ : ∃ n : Nat, fi = ((n : Nat) : Int) := ⟨fi.toNat, by omega⟩
    refine ⟨_, rfl, _, rfl, l, (a : Nat), 9999, Tl, rfl, kl.same s0, _, rfl, ?_⟩
    cases hl : numV l (a : Nat) 9999 with
    | false => exact itT rfl ⟨by show 1 ≤ sizeLine; decide, e (.inr (.inl hl)) _ s0⟩
    | true =>
    refine itF (by decide) ?_
    cases l with
    | int li =>
      have bl : ((a : Nat) : Int) ≤ li ∧ li ≤ 9999 := of_decide_eq_true hl
      obtain ⟨b, rfl⟩ : ∃ n : Nat, li = ((n : Nat) : Int) := ⟨li.toNat, by omega⟩
      refine ⟨_, rfl, _, rfl, x, _, dx, [], rfl, hx, Tx.cl_Span, Tx.na_Span_first, by decide, ?_⟩
      have s1 := same_upd n0 s0 (.ins t.c_Span dx (putF "first" (.int (a : Nat)) []))
      refine ⟨_, rfl, _, rfl, x, _, dx, _, rfl, upd_same, Tx.cl_Span, Tx.na_Span_last, few1 _ _, ?_⟩
      have s2 := same_upd n0 s1 (.ins t.c_Span dx (putF "last" (.int (b : Nat)) (putF "first" (.int (a : Nat)) [])))
      refine ⟨_, rfl, rv, rfl, ?_⟩
      rcases ra with ⟨i, r, rfl, hi, g, hw, hd, hn⟩ | hno
      rotate_left
      · exact .inl ⟨hno.same s2, e (.inr (.inr hno)) _ s2⟩
      obtain ⟨q1, q2⟩ := q a b i r rfl rfl rfl hi ⟨by omega, by omega, g⟩
      have ew : (RT.span a b r).weight = 1 + r.weight := rfl
      have ed : (RT.span a b r).depth = 1 + r.depth := rfl
      refine .inr ⟨i, r, rfl, hi.same s2, g, hw, hd, hn, fun c H3 s3 h3 => ?_⟩
      refine ⟨_, rfl, x, _, dx, _, rfl, s3 _ _ upd_same, Tx.cl_Span, Tx.na_Span_inner, few2 _ _ _ _, ?_⟩
      have s4 := same_upd n0 (s2.trans s3) (.ins t.c_Span dx (putF "inner" (.ref c) (putF "last" (.int (b : Nat)) (putF "first" (.int (a : Nat)) []))))
      have fin : RAt (rc t) K (dif (upd H3 x (.ins t.c_Span dx (putF "inner" (.ref c) (putF "last" (.int (b : Nat)) (putF "first" (.int (a : Nat)) []))))) H0) x (.span a b r) :=
        .span (dif_at n0 upd_same) (by omega) (by omega) (h3.same (keep_new s2 upd_same _))
      exact ⟨_, rfl, x, _, rfl, fin.same (dif_sub _ _), by omega, by omega, fun z H5 s5 => q1 z H5 (s4.trans s5) (fin.same (same_dif s5)), fun z H5 s5 => q2 z H5 (s4.trans s5)⟩
    | _ => cases hl
  | _ => cases hf
def spButX (t : Adr) (K : W.Frag) (n : Nat) : Sp := fun vs H Q E => ∃ (x : Addr) (H0 : Hp) (u rv : V), vs = [.ref x, u, rv] ∧ New H0 H x t.c_But ∧ Lists H0 u ∧ RArg t K n H0 rv ∧
  (∀ (l : Addr) (ds : List Nat) (i : Addr) (r : RT), u = .ref l → H0 l = some (.lst (natV ds)) → rv = .ref i → RAt (rc t) K H0 i r → (RT.but ds r).good →
    ((RT.but ds r).weight ≤ 15 ∧ (RT.but ds r).depth ≤ 8 → ∀ H', Same H0 H' → RAt (rc t) K (dif H' H0) x (.but ds r) → Q .non H') ∧ (¬ ((RT.but ds r).weight ≤ 15 ∧ (RT.but ds r).depth ≤ 8) → ∀ H', Same H0 H' → E (.ref t.c_TooMany) none H')) ∧
  (¬ RisV H0 u 9999 ∨ NoRl K t.c_Rule H0 rv → ∀ H', Same H0 H' → E (.ref t.c_BadRule) none H')
theorem inX_But (Tx : Tab K mg t) (n : Nat) (R : CopOk P w K mg base t n) : FnOk P w K mg base (CXO P w) (4 * n + 12) t.f_But_init t.d_But_init ["self", "days", "rule"] (spButX t K n) := by
  refine Tx.F_But_init.okX sc_But_init (fun vs H Q E h => ?_) (fun cdv A outer s H vs Q E hr h => ?_)
  · obtain ⟨x, H0, u, rv, rfl, _⟩ := h
    rfl
  obtain ⟨x, H0, u, rv, rfl, ⟨n0, s0, dx, hx⟩, hl, ra, q, e⟩ := h
  refine ⟨_, (pss_cons (ps_if (pt_not (pt_val (pe_call (rising_any Tx) (hr.mono (by omega)) rfl Tx.m_are_rising Tx.F_are_rising.kp Tx.b_are_rising .nil pass0 (pac (pv 1) (pac (pe_gintE rfl Tx.m_MOST_LISTED) (pac pe_int (pac (pe_gintE rfl Tx.m_LAST_DAY) pa_nil)))))))
    (pss_one (ps_raise raises_fn Tx.e_BadRule rfl rfl Tx.m_BadRule (pac pe_str pa_nil)))
    pss_nil)
    (pss_cons (ps_fld (pv 0) (pe_callTy call_tuple_of rfl Tx.z_tuple b_tuple (pac (pv 1) pa_nil)) rfl)
    (pss_cons (ps_fld (pv 0) (pe_call (copyX_ok Tx n R) (hr.mono (by omega)) rfl Tx.m_copy_of Tx.F_copy_of.kp Tx.b_copy_of .nil passes_fn (pac (pv 2) pa_nil)) rfl)
    (pss_one (ps_expr (pe_call (sizeX_ok Tx) (hr.mono (by omega)) rfl Tx.m_check_size Tx.F_check_size.kp Tx.b_check_size .nil passes_fn (pac (pv 0) pa_nil))))))), ?_⟩
  refine ⟨_, rfl, ?_⟩
  refine ⟨u, 12, 0, 9999, rfl, ?_⟩
  by_cases hR : RisV H u 9999
  rotate_left
  · have hl' := hl.same s0
    rcases hl' with ⟨T', k', nT⟩ | ⟨a', xs, rfl, ha, hk⟩
    · exact .inl ⟨T', k', nT, _, rfl, itT rfl ⟨by show 1 ≤ sizeLine; decide, e (.inl fun z => hR (z.same s0)) _ s0⟩⟩
    · refine .inr ⟨a', xs, rfl, ha, hk, ?_⟩
      rw [ris_no ha hR]
      exact ⟨_, rfl, itT rfl ⟨by show 1 ≤ sizeLine; decide, e (.inl fun z => hR (z.same s0)) _ s0⟩⟩
  obtain ⟨l, ds, rfl, hl0, _⟩ := RisV.back hl s0 hR
  obtain ⟨l', ds', e', hlH, l1, l2, up, al⟩ := hR
  cases e'
  rw [s0 _ _ hl0] at hlH
  cases natV_inj (HO.lst.inj (Option.some.inj hlH))
  have hlH := s0 _ _ hl0
  refine .inr ⟨l, _, rfl, hlH, kinds_nat _, ?_⟩
  rw [ris_yes l1 l2 up al]
  refine ⟨_, rfl, itF (by decide) ?_⟩
  have gd : Rsg ds 0 9999 := ⟨l1, l2, up, fun y hy => ⟨Nat.zero_le _, by have := al y hy; omega⟩⟩
  refine ⟨_, rfl, l, _, rfl, .inl ⟨SqL.of hlH, fun p hp => ?_⟩⟩
  have np : p ≠ x := fun z => by rw [z, hx] at hp; cases hp
  have p0 : H0 p = none := s0.free hp
  have s1 := same_upd p0 s0 (.tup (natV ds))
  refine ⟨_, rfl, x, _, dx, [], rfl, (by rw [upd_ne np.symm]; exact hx), Tx.cl_But, Tx.na_But_days, by decide, ?_⟩
  have s2 := same_upd n0 s1 (.ins t.c_But dx (putF "days" (.ref p) []))
  refine ⟨_, rfl, rv, rfl, ?_⟩
  rcases ra with ⟨i, r, rfl, hi, g, hw, hd, hn⟩ | hno
  rotate_left
  · exact .inl ⟨hno.same s2, e (.inr hno) _ s2⟩
  obtain ⟨q1, q2⟩ := q l ds i r rfl hl0 rfl hi ⟨gd, g⟩
  have ew : (RT.but ds r).weight = 1 + r.weight := rfl
  have ed : (RT.but ds r).depth = 1 + r.depth := rfl
  refine .inr ⟨i, r, rfl, hi.same s2, g, hw, hd, hn, fun c H3 s3 h3 => ?_⟩
  refine ⟨_, rfl, x, _, dx, _, rfl, s3 _ _ upd_same, Tx.cl_But, Tx.na_But_inner, few1 _ _, ?_⟩
  have s4 := same_upd n0 (s2.trans s3) (.ins t.c_But dx (putF "inner" (.ref c) (putF "days" (.ref p) [])))
  have ep : H3 p = some (.tup (natV ds)) := s3 _ _ (by rw [upd_ne np]; exact upd_same)
  have fin : RAt (rc t) K (dif (upd H3 x (.ins t.c_But dx (putF "inner" (.ref c) (putF "days" (.ref p) [])))) H0) x (.but ds r) :=
    .but (dif_at n0 upd_same) (SqT.of (dif_at p0 (by rw [upd_ne np]; exact ep))) (h3.same (keep_new s2 upd_same _))
  exact ⟨_, rfl, x, _, rfl, fin.same (dif_sub _ _), by omega, by omega, fun z H5 s5 => q1 z H5 (s4.trans s5) (fin.same (same_dif s5)), fun z H5 s5 => q2 z H5 (s4.trans s5)⟩
def spPairX (t : Adr) (K : W.Frag) (n : Nat) (C : Addr) (mk : RT → RT → RT) : Sp := fun vs H Q E => ∃ (x : Addr) (H0 : Hp) (u v : V), vs = [.ref x, u, v] ∧ New H0 H x C ∧ RArg t K n H0 u ∧ RArg t K n H0 v ∧
  (∀ (i j : Addr) (r s : RT), u = .ref i → v = .ref j → RAt (rc t) K H0 i r → RAt (rc t) K H0 j s → (mk r s).good →
    ((mk r s).weight ≤ 15 ∧ (mk r s).depth ≤ 8 → ∀ H', Same H0 H' → RAt (rc t) K (dif H' H0) x (mk r s) → Q .non H') ∧ (¬ ((mk r s).weight ≤ 15 ∧ (mk r s).depth ≤ 8) → ∀ H', Same H0 H' → E (.ref t.c_TooMany) none H')) ∧
  (NoRl K t.c_Rule H0 u ∨ NoRl K t.c_Rule H0 v → ∀ H', Same H0 H' → E (.ref t.c_BadRule) none H')
theorem inX_Either (Tx : Tab K mg t) (n : Nat) (R : CopOk P w K mg base t n) : FnOk P w K mg base (CXO P w) (4 * n + 12) t.f_Either_init t.d_Either_init ["self", "one", "other"] (spPairX t K n t.c_Either .either) := by
  refine Tx.F_Either_init.okX sc_Either_init (fun vs H Q E h => ?_) (fun cdv A outer s H vs Q E hr h => ?_)
  · obtain ⟨x, H0, u, v, rfl, _⟩ := h
    rfl
  obtain ⟨x, H0, u, v, rfl, ⟨n0, s0, dx, hx⟩, ra, rb, q, e⟩ := h
  refine ⟨_, (pss_cons (ps_fld (pv 0) (pe_call (copyX_ok Tx n R) (hr.mono (by omega)) rfl Tx.m_copy_of Tx.F_copy_of.kp Tx.b_copy_of .nil passes_fn (pac (pv 1) pa_nil)) rfl)
    (pss_cons (ps_fld (pv 0) (pe_call (copyX_ok Tx n R) (hr.mono (by omega)) rfl Tx.m_copy_of Tx.F_copy_of.kp Tx.b_copy_of .nil passes_fn (pac (pv 2) pa_nil)) rfl)
    (pss_one (ps_expr (pe_call (sizeX_ok Tx) (hr.mono (by omega)) rfl Tx.m_check_size Tx.F_check_size.kp Tx.b_check_size .nil passes_fn (pac (pv 0) pa_nil)))))), ?_⟩
  refine ⟨_, rfl, u, rfl, ?_⟩
  rcases ra with ⟨i, r, rfl, hi, g1, hw1, hd1, hn1⟩ | hno
  rotate_left
  · exact .inl ⟨hno.same s0, e (.inl hno) _ s0⟩
  refine .inr ⟨i, r, rfl, hi.same s0, g1, hw1, hd1, hn1, fun c H1 s1 h1 => ?_⟩
  refine ⟨_, rfl, x, _, dx, _, rfl, s1 _ _ hx, Tx.cl_Either, Tx.na_Either_one, by decide, ?_⟩
  have s2 := same_upd n0 (s0.trans s1) (.ins t.c_Either dx (putF "one" (.ref c) []))
  refine ⟨_, rfl, v, rfl, ?_⟩
  rcases rb with ⟨j, r2, rfl, hj, g2, hw2, hd2, hn2⟩ | hno
  rotate_left
  · exact .inl ⟨hno.same s2, e (.inr hno) _ s2⟩
  refine .inr ⟨j, r2, rfl, hj.same s2, g2, hw2, hd2, hn2, fun d H3 s3 h3 => ?_⟩
  refine ⟨_, rfl, x, _, dx, _, rfl, s3 _ _ upd_same, Tx.cl_Either, Tx.na_Either_other, few1 _ _, ?_⟩
  have s4 := same_upd n0 (s2.trans s3) (.ins t.c_Either dx (putF "other" (.ref d) (putF "one" (.ref c) [])))
  have c1 : Same (dif H1 H) (dif (upd H3 x (.ins t.c_Either dx (putF "other" (.ref d) (putF "one" (.ref c) [])))) H0) := dif_mono s0 fun a w nn e => by
    have ne : a ≠ x := fun z => by rw [z, hx] at nn; cases nn
    rw [upd_ne ne]
    exact s3 _ _ (by rw [upd_ne ne]; exact e)
  have fin : RAt (rc t) K (dif (upd H3 x (.ins t.c_Either dx (putF "other" (.ref d) (putF "one" (.ref c) [])))) H0) x (.either r r2) :=
    .either (dif_at n0 upd_same) (h1.same c1) (h3.same (keep_new s2 upd_same _))
  obtain ⟨q1, q2⟩ := q i j r r2 rfl rfl hi hj ⟨g1, g2⟩
  have ew : (RT.either r r2).weight = 1 + (r.weight + r2.weight) := rfl
  have ed : (RT.either r r2).depth = 1 + max r.depth r2.depth := rfl
  exact ⟨_, rfl, x, _, rfl, fin.same (dif_sub _ _), by omega, by omega, fun z H5 s5 => q1 z H5 (s4.trans s5) (fin.same (same_dif s5)), fun z H5 s5 => q2 z H5 (s4.trans s5)⟩
theorem inX_Both (Tx : Tab K mg t) (n : Nat) (R : CopOk P w K mg base t n) : FnOk P w K mg base (CXO P w) (4 * n + 12) t.f_Both_init t.d_Both_init ["self", "one", "other"] (spPairX t K n t.c_Both .both) := by
  refine Tx.F_Both_init.okX sc_Both_init (fun vs H Q E h => ?_) (fun cdv A outer s H vs Q E hr h => ?_)
  · obtain ⟨x, H0, u, v, rfl, _⟩ := h
    rfl
  obtain ⟨x, H0, u, v, rfl, ⟨n0, s0, dx, hx⟩, ra, rb, q, e⟩ := h
  refine ⟨_, (pss_cons (ps_fld (pv 0) (pe_call (copyX_ok Tx n R) (hr.mono (by omega)) rfl Tx.m_copy_of Tx.F_copy_of.kp Tx.b_copy_of .nil passes_fn (pac (pv 1) pa_nil)) rfl)
    (pss_cons (ps_fld (pv 0) (pe_call (copyX_ok Tx n R) (hr.mono (by omega)) rfl Tx.m_copy_of Tx.F_copy_of.kp Tx.b_copy_of .nil passes_fn (pac (pv 2) pa_nil)) rfl)
    (pss_one (ps_expr (pe_call (sizeX_ok Tx) (hr.mono (by omega)) rfl Tx.m_check_size Tx.F_check_size.kp Tx.b_check_size .nil passes_fn (pac (pv 0) pa_nil)))))), ?_⟩
  refine ⟨_, rfl, u, rfl, ?_⟩
  rcases ra with ⟨i, r, rfl, hi, g1, hw1, hd1, hn1⟩ | hno
  rotate_left
  · exact .inl ⟨hno.same s0, e (.inl hno) _ s0⟩
  refine .inr ⟨i, r, rfl, hi.same s0, g1, hw1, hd1, hn1, fun c H1 s1 h1 => ?_⟩
  refine ⟨_, rfl, x, _, dx, _, rfl, s1 _ _ hx, Tx.cl_Both, Tx.na_Both_one, by decide, ?_⟩
  have s2 := same_upd n0 (s0.trans s1) (.ins t.c_Both dx (putF "one" (.ref c) []))
  refine ⟨_, rfl, v, rfl, ?_⟩
  rcases rb with ⟨j, r2, rfl, hj, g2, hw2, hd2, hn2⟩ | hno
  rotate_left
  · exact .inl ⟨hno.same s2, e (.inr hno) _ s2⟩
  refine .inr ⟨j, r2, rfl, hj.same s2, g2, hw2, hd2, hn2, fun d H3 s3 h3 => ?_⟩
  refine ⟨_, rfl, x, _, dx, _, rfl, s3 _ _ upd_same, Tx.cl_Both, Tx.na_Both_other, few1 _ _, ?_⟩
  have s4 := same_upd n0 (s2.trans s3) (.ins t.c_Both dx (putF "other" (.ref d) (putF "one" (.ref c) [])))
  have c1 : Same (dif H1 H) (dif (upd H3 x (.ins t.c_Both dx (putF "other" (.ref d) (putF "one" (.ref c) [])))) H0) := dif_mono s0 fun a w nn e => by
    have ne : a ≠ x := fun z => by rw [z, hx] at nn; cases nn
    rw [upd_ne ne]
    exact s3 _ _ (by rw [upd_ne ne]; exact e)
  have fin : RAt (rc t) K (dif (upd H3 x (.ins t.c_Both dx (putF "other" (.ref d) (putF "one" (.ref c) [])))) H0) x (.both r r2) :=
    .both (dif_at n0 upd_same) (h1.same c1) (h3.same (keep_new s2 upd_same _))
  obtain ⟨q1, q2⟩ := q i j r r2 rfl rfl hi hj ⟨g1, g2⟩
  have ew : (RT.both r r2).weight = 1 + (r.weight + r2.weight) := rfl
  have ed : (RT.both r r2).depth = 1 + max r.depth r2.depth := rfl
  exact ⟨_, rfl, x, _, rfl, fin.same (dif_sub _ _), by omega, by omega, fun z H5 s5 => q1 z H5 (s4.trans s5) (fin.same (same_dif s5)), fun z H5 s5 => q2 z H5 (s4.trans s5)⟩
theorem tryX_Span (Tx : Tab K mg t) : FnOk P w K mg base (CXO P w) 44 t.f_Span_init t.d_Span_init ["self", "first", "last", "rule"] (spSpanX t K 8) := inX_Span Tx 8 (cop_ok Tx 8)
theorem tryX_But (Tx : Tab K mg t) : FnOk P w K mg base (CXO P w) 44 t.f_But_init t.d_But_init ["self", "days", "rule"] (spButX t K 8) := inX_But Tx 8 (cop_ok Tx 8)
theorem tryX_Either (Tx : Tab K mg t) : FnOk P w K mg base (CXO P w) 44 t.f_Either_init t.d_Either_init ["self", "one", "other"] (spPairX t K 8 t.c_Either .either) := inX_Either Tx 8 (cop_ok Tx 8)
theorem tryX_Both (Tx : Tab K mg t) : FnOk P w K mg base (CXO P w) 44 t.f_Both_init t.d_Both_init ["self", "one", "other"] (spPairX t K 8 t.c_Both .both) := inX_Both Tx 8 (cop_ok Tx 8)
theorem tryX_Week (Tx : Tab K mg t) : FnOk P w K mg base (CXO P w) 44 t.f_Week_init t.d_Week_init ["self", "bits"] (spWeekX t K) := (inX_Week Tx).mono (by omega)
theorem tryX_Each (Tx : Tab K mg t) : FnOk P w K mg base (CXO P w) 44 t.f_Each_init t.d_Each_init ["self", "length", "starts"] (spEachX t K) := (inX_Each Tx).mono (by omega)

def spListText (K : W.Frag) : Sp := fun vs H Q _ => ∃ (p : Addr) (ss : List Nat), vs = [.ref p] ∧ SqT K H p (natV ss) ∧ ss.length ≤ 12 ∧ (∀ x ∈ ss, x ≤ 9999) ∧ ∀ H', Same H H' → Q (.str (lstT ss)) H'
theorem ok_list_text (Tx : Tab K mg t) : FnOk P w K mg base CX0 1 t.f_list_text t.d_list_text ["numbers"] (spListText K) := by
  refine Tx.F_list_text.ok sc_list_text (fun vs H Q E h => ?_) (fun cdv A outer s H vs Q E hr h => ?_)
  · obtain ⟨p, ss, rfl, _⟩ := h
    rfl
  obtain ⟨p, ss, rfl, hp, l12, al, q⟩ := h
  refine ⟨_, (pss_one (ps_ret (pe_bm PySem.F.plainAttrs_str PySem.F.slot_str_join PySem.F.type_str_join mt_join pe_str (pac (pe_comp (cl := []) (N := ["number"]) (fr := [none]) rfl (pi_tup (pv 0)) rfl (by decide +kernel) rfl (by decide +kernel) trivial trivial rfl (fun _ _ _ _ _ => (pg_name (i := 0) (show List.Nodup (["number"] : List Str) by decide +kernel) rfl (Or.inl rfl))) (fun _ _ _ _ _ => pts_nil) (fun _ _ _ _ _ => (pe_callTy call_str_int rfl Tx.z_str b_str (pac (pv 0) pa_nil)))) pa_nil)))), ?_⟩
  have hln : (natV ss).length = ss.length := List.length_map ..
  refine ⟨rfl, _, rfl, p, rfl, ⟨_, hp⟩, comp_tup (K := K) (a := p) (xs := natV ss) (fun i acc σ H' => H' = H ∧ acc = ((ss.take i).map numT).map V.str ∧ ∃ v, σ = [v]) ⟨rfl, rfl, _, rfl⟩
    (by rw [hln]; exact Nat.le_trans l12 (by decide)) (fun i acc σ H' _ ⟨e, _⟩ => by rw [e]; exact hp) ?_ ?_⟩
  · rintro i x acc σ H' ha hx ⟨rfl, e, v, rfl⟩
    rw [List.getElem?_map] at hx
    cases hs : ss[i]? with
    | none => rw [hs] at hx; cases hx
    | some m =>
      rw [hs] at hx
      obtain rfl : V.int ((m : Nat) : Int) = x := Option.some.inj hx
      have hm := al m (List.mem_of_getElem? hs)
      dsimp only [gName, tTrue]
      rw [if_pos rfl]
      refine ⟨_, rfl, _, rfl, log_num (by omega), ?_, rfl, ?_, _, rfl⟩
      · rw [List.length_append, List.length_singleton]; omega
      · rw [e, List.take_add_one, hs]
        simp [numT]
  · rintro acc σ H' ha ⟨rfl, e, v, rfl⟩ p2 hp2
    rw [hln, List.take_length] at e
    refine ⟨_, p2, ss.map numT, rfl, rfl, SqL.of (by rw [upd_same, e]), join_room (m := 0) (by decide +kernel) (by rw [List.length_map]; omega) (fun x hx => ?_), q _ (same_new hp2 _)⟩
    obtain ⟨n, hn, rfl⟩ := List.mem_map.mp hx
    exact Nat.le_trans (num_len (by have := al n hn; omega)) (by decide)
def spWords (c : RC) (K : W.Frag) (q : RT → Prop) (n : Nat) : Sp := fun vs H Q _ => ∃ (a : Addr) (r : RT), vs = [.ref a] ∧ RAt c K H a r ∧ q r ∧ r.good ∧ r.weight ≤ 1000 ∧ r.depth ≤ n ∧ ∀ p H', Same H H' → H p = none → H' p = some (.lst (r.words.map V.str)) → Q (.ref p) H'
structure WordsOk (P : Program) (w : World) (K : W.Frag) (mg : Str → Option Value) (base : Heap) (t : Adr) (n : Nat) : Prop where
  rule : FnOk P w K mg base CX0 (n + 3) t.f_Rule_words t.d_Rule_words ["self"] (spWords (rc t) K isAlways n)
  week : FnOk P w K mg base CX0 (n + 3) t.f_Week_words t.d_Week_words ["self"] (spWords (rc t) K isWeek n)
  span : FnOk P w K mg base CX0 (n + 3) t.f_Span_words t.d_Span_words ["self"] (spWords (rc t) K isSpan n)
  each : FnOk P w K mg base CX0 (n + 3) t.f_Each_words t.d_Each_words ["self"] (spWords (rc t) K isEach n)
  either : FnOk P w K mg base CX0 (n + 3) t.f_Either_words t.d_Either_words ["self"] (spWords (rc t) K isEither n)
  both : FnOk P w K mg base CX0 (n + 3) t.f_Both_words t.d_Both_words ["self"] (spWords (rc t) K isBoth n)
  but : FnOk P w K mg base CX0 (n + 3) t.f_But_words t.d_But_words ["self"] (spWords (rc t) K isBut n)
theorem WordsOk.at {n : Nat} (R : WordsOk P w K mg base t n) (Tx : Tab K mg t) {H : Hp} {a : Addr} {r : RT} (h : RAt (rc t) K H a r) (g : r.good) (hw : r.weight ≤ 1000) (hn : r.depth ≤ n) :
    ∃ (C dx : Addr) (fs : List (Str × V)) (f : Addr) (fd : FuncData) (sp : Sp), H a = some (.ins C dx fs) ∧ fs.lookup ("words" : Str) = none ∧ Cls K C ∧ Meth K C "words" f ∧ FnOk P w K mg base CX0 (n + 3) f fd ["self"] sp ∧ Binds K fd ["self"] [] ∧
      ∀ (Q : VK), (∀ p H', Same H H' → H p = none → H' p = some (.lst (r.words.map V.str)) → Q (.ref p) H') → sp [.ref a] H Q E0 := by
  cases h with
  | always h => exact ⟨_, _, _, _, _, _, h, rfl, Tx.cl_Rule, Tx.me_Rule_words, R.rule, Tx.b_Rule_words, fun Q q => ⟨a, _, rfl, .always h, trivial, g, hw, hn, q⟩⟩
  | week h hb => exact ⟨_, _, _, _, _, _, h, rfl, Tx.cl_Week, Tx.me_Week_words, R.week, Tx.b_Week_words, fun Q q => ⟨a, _, rfl, .week h hb, trivial, g, hw, hn, q⟩⟩
  | span h hx hy hi => exact ⟨_, _, _, _, _, _, h, rfl, Tx.cl_Span, Tx.me_Span_words, R.span, Tx.b_Span_words, fun Q q => ⟨a, _, rfl, .span h hx hy hi, trivial, g, hw, hn, q⟩⟩
  | each h h1 h2 hp => exact ⟨_, _, _, _, _, _, h, rfl, Tx.cl_Each, Tx.me_Each_words, R.each, Tx.b_Each_words, fun Q q => ⟨a, _, rfl, .each h h1 h2 hp, trivial, g, hw, hn, q⟩⟩
  | either h hi hj => exact ⟨_, _, _, _, _, _, h, rfl, Tx.cl_Either, Tx.me_Either_words, R.either, Tx.b_Either_words, fun Q q => ⟨a, _, rfl, .either h hi hj, trivial, g, hw, hn, q⟩⟩
  | both h hi hj => exact ⟨_, _, _, _, _, _, h, rfl, Tx.cl_Both, Tx.me_Both_words, R.both, Tx.b_Both_words, fun Q q => ⟨a, _, rfl, .both h hi hj, trivial, g, hw, hn, q⟩⟩
  | but h hp hi => exact ⟨_, _, _, _, _, _, h, rfl, Tx.cl_But, Tx.me_But_words, R.but, Tx.b_But_words, fun Q q => ⟨a, _, rfl, .but h hp hi, trivial, g, hw, hn, q⟩⟩
theorem words_rule (Tx : Tab K mg t) (n : Nat) : FnOk P w K mg base CX0 (n + 3) t.f_Rule_words t.d_Rule_words ["self"] (spWords (rc t) K isAlways n) := by
  refine Tx.F_Rule_words.ok sc_Rule_words (fun vs H Q E h => ?_) (fun cdv A outer s H vs Q E hr h => ?_)
  · obtain ⟨a, r, rfl, _⟩ := h
    rfl
  obtain ⟨a, r, rfl, h, hq, g, hw, hn, q⟩ := h
  refine ⟨_, (pss_one (ps_ret (pe_lst (pac pe_str pa_nil)))), ?_⟩
  cases h with
  | always h => exact ⟨by show 1 ≤ sizeLine; decide, fun p hp => q p _ (same_new hp _) hp upd_same⟩
  | _ => exact hq.elim
theorem words_week (Tx : Tab K mg t) (n : Nat) : FnOk P w K mg base CX0 (n + 3) t.f_Week_words t.d_Week_words ["self"] (spWords (rc t) K isWeek n) := by
  refine Tx.F_Week_words.ok sc_Week_words (fun vs H Q E h => ?_) (fun cdv A outer s H vs Q E hr h => ?_)
  · obtain ⟨a, r, rfl, _⟩ := h
    rfl
  obtain ⟨a, r, rfl, h, hq, g, hw, hn, q⟩ := h
  refine ⟨_, (pss_one (ps_ret (pe_lst (pac pe_str (pac (pe_bm PySem.F.plainAttrs_str PySem.F.slot_str_join PySem.F.type_str_join mt_join pe_str (pac (pe_comp (cl := [(Str.ofString "self", s.heap.objs.size + 1)]) (N := ["day", "self"]) (fr := [none, some 0]) rfl (pi_range1 rfl Tx.z_range (pac (pe_gintE rfl Tx.m_WEEK_DAYS) pa_nil)) rfl (by decide +kernel) rfl (by decide +kernel) ⟨⟨rfl, Or.inl rfl, Or.inl rfl, _, rfl, rfl⟩, trivial⟩ ⟨rfl, trivial⟩ rfl (fun _ _ _ _ _ => (pg_name (i := 0) (show List.Nodup (["day", "self"] : List Str) by decide +kernel) rfl (Or.inl rfl))) (fun _ _ _ _ _ => pts_nil) (fun _ _ _ _ _ => (pe_ifExp (pt_val (pe_meth (pv 1) Tx.cl_Week Tx.me_Week_runs (runs_week Tx 1) (hr.mono (by omega)) Tx.b_Week_runs .nil pass0 (pac (pv 0) pa_nil))) pe_str pe_str))) pa_nil)) pa_nil))))), ?_⟩
  cases h with
  | week h hb =>
    rename_i dx b
    refine ⟨rfl, _, rfl, by decide, by decide, comp_range (n := 7) (fun i acc σ H' => H' = H ∧ acc = ((List.range i).map (bitT b)).map V.str ∧ ∃ v, σ = [v, some (.ref a)]) ⟨rfl, rfl, _, rfl⟩ (by decide) ?_ ?_⟩
    · rintro i acc σ H' hi ha ⟨rfl, e, v, rfl⟩
      have ed : V.int (0 + ((i : Nat) : Int)) = V.int ((i : Nat) : Int) := congrArg V.int (by omega)
      dsimp only [gName, tTrue]
      rw [if_pos rfl, ed]
      refine ⟨_, rfl, a, dx, _, rfl, h, rfl, _, rfl, a, .week b, i, rfl, .week h hb, trivial, by show 1 ≤ 1; decide, _, rfl, ?_⟩
      have le : (acc ++ [V.str (bitT b i)]).length ≤ i + 1 := by rw [List.length_append, List.length_singleton]; omega
      have ex : acc ++ [V.str (bitT b i)] = ((List.range (i + 1)).map (bitT b)).map V.str := by
        rw [e, List.range_succ]
        simp
      cases c : (RT.week b).runs i with
      | true =>
        have eb : bitT b i = Str.ofString "1" := by unfold bitT; rw [c]; rfl
        rw [eb] at le ex
        exact itT rfl ⟨le, rfl, ex, _, rfl⟩
      | false =>
        have eb : bitT b i = Str.ofString "0" := by unfold bitT; rw [c]; rfl
        rw [eb] at le ex
        exact itF (by decide) ⟨le, rfl, ex, _, rfl⟩
    · rintro acc σ H' ha ⟨rfl, e, v, rfl⟩ p2 hp2
      have s2 := same_new hp2 (.lst acc)
      refine ⟨_, p2, (List.range 7).map (bitT b), rfl, rfl, SqL.of (by rw [upd_same, e]), join_room (m := 0) (by decide +kernel) (by rw [List.length_map, List.length_range]; decide) (fun x hx => ?_), by show 2 ≤ sizeLine; decide, fun p hp => ?_⟩
      · obtain ⟨d, _, rfl⟩ := List.mem_map.mp hx
        unfold bitT
        split <;> decide +kernel
      · exact q p _ (s2.trans (same_new hp _)) (s2.free hp) upd_same
  | _ => exact hq.elim
theorem words_each (Tx : Tab K mg t) (n : Nat) : FnOk P w K mg base CX0 (n + 3) t.f_Each_words t.d_Each_words ["self"] (spWords (rc t) K isEach n) := by
  refine Tx.F_Each_words.ok sc_Each_words (fun vs H Q E h => ?_) (fun cdv A outer s H vs Q E hr h => ?_)
  · obtain ⟨a, r, rfl, _⟩ := h
    rfl
  obtain ⟨a, r, rfl, h, hq, g, hw, hn, q⟩ := h
  refine ⟨_, (pss_one (ps_ret (pe_lst (pac pe_str (pac (pe_callTy call_str_int rfl Tx.z_str b_str (pac (pe_fld (pv 0) rfl) pa_nil)) (pac (pe_call (ok_list_text Tx) (hr.mono (by omega)) rfl Tx.m_list_text Tx.F_list_text.kp Tx.b_list_text .nil pass0 (pac (pe_fld (pv 0) rfl) pa_nil)) pa_nil)))))), ?_⟩
  cases h with
  | each h h1 h2 hp =>
    rename_i dx p m ss
    refine ⟨_, rfl, a, _, _, _, _, rfl, h, Tx.cl_Each, Tx.na_Each_length, rfl, _, rfl, log_num (by omega), _, rfl, a, _, _, _, _, rfl, h, Tx.cl_Each, Tx.na_Each_starts, rfl, p, ss, rfl, hp, g.2.2.few, fun x hx => by have := (g.2.2.all x hx).2; omega, fun H1 s1 => ?_⟩
    exact ⟨by show 3 ≤ sizeLine; decide, fun p2 hp2 => q p2 _ (s1.trans (same_new hp2 _)) (s1.free hp2) upd_same⟩
  | _ => exact hq.elim
theorem words_span (Tx : Tab K mg t) (n : Nat) (R : WordsOk P w K mg base t n) : FnOk P w K mg base CX0 (n + 1 + 3) t.f_Span_words t.d_Span_words ["self"] (spWords (rc t) K isSpan (n + 1)) := by
  refine Tx.F_Span_words.ok sc_Span_words (fun vs H Q E h => ?_) (fun cdv A outer s H vs Q E hr h => ?_)
  · obtain ⟨a, r, rfl, _⟩ := h
    rfl
  obtain ⟨a, r, rfl, h, hq, g, hw, hn, q⟩ := h
  refine ⟨_, (pss_one (ps_ret (pe_op op_cat (pe_lst (pac pe_str (pac (pe_callTy call_str_int rfl Tx.z_str b_str (pac (pe_fld (pv 0) rfl) pa_nil)) (pac (pe_callTy call_str_int rfl Tx.z_str b_str (pac (pe_fld (pv 0) rfl) pa_nil)) pa_nil)))) (pe_meth0D (pe_fld (pv 0) rfl))))), ?_⟩
  cases h with
  | span h hx hy hi =>
    rename_i dx i x0 y0 r
    have ed : (RT.span x0 y0 r).depth = 1 + r.depth := rfl
    have ew : (RT.span x0 y0 r).weight = 1 + r.weight := rfl
    have wl := r.words_len
    refine ⟨_, rfl, a, _, _, _, _, rfl, h, Tx.cl_Span, Tx.na_Span_first, rfl, _, rfl, log_num (by omega), _, rfl, a, _, _, _, _, rfl, h, Tx.cl_Span, Tx.na_Span_last, rfl, _, rfl, log_num (by omega), by show 3 ≤ sizeLine; decide, fun p1 g1 => ?_⟩
    have s1 := same_new g1 (.lst [.str (Str.ofString "span"), .str (numT x0), .str (numT y0)])
    obtain ⟨C, dx2, fs, f, fd, sp, k1, k2, k3, k4, k5, k6, k7⟩ := R.at Tx (hi.same s1) g.2.2 (by omega) (by omega)
    refine ⟨_, rfl, a, _, _, _, _, rfl, s1 _ _ h, Tx.cl_Span, Tx.na_Span_inner, rfl, i, C, dx2, fs, f, fd, _, _, sp, CX0, E0, rfl, k1, k2, k3, k4, k5, hr.mono (by omega), k6, pass0, k7 _ fun p2 H2 s2 n2 e2 => ?_⟩
    refine ⟨p1, p2, _, _, rfl, rfl, s2 _ _ upd_same, e2, ?_, fun p3 g3 => q p3 _ ((s1.trans s2).trans (same_new g3 _)) ((s1.trans s2).free g3) (by rw [upd_same]; rfl)⟩
    rw [List.length_map]
    exact Nat.le_trans (show 3 + r.words.length ≤ 4000 by omega) (by decide)
  | _ => exact hq.elim
theorem words_but (Tx : Tab K mg t) (n : Nat) (R : WordsOk P w K mg base t n) : FnOk P w K mg base CX0 (n + 1 + 3) t.f_But_words t.d_But_words ["self"] (spWords (rc t) K isBut (n + 1)) := by
  refine Tx.F_But_words.ok sc_But_words (fun vs H Q E h => ?_) (fun cdv A outer s H vs Q E hr h => ?_)
  · obtain ⟨a, r, rfl, _⟩ := h
    rfl
  obtain ⟨a, r, rfl, h, hq, g, hw, hn, q⟩ := h
  refine ⟨_, (pss_one (ps_ret (pe_op op_cat (pe_lst (pac pe_str (pac (pe_call (ok_list_text Tx) (hr.mono (by omega)) rfl Tx.m_list_text Tx.F_list_text.kp Tx.b_list_text .nil pass0 (pac (pe_fld (pv 0) rfl) pa_nil)) pa_nil))) (pe_meth0D (pe_fld (pv 0) rfl))))), ?_⟩
  cases h with
  | but h hp hi =>
    rename_i dx p i ds r
    have ed : (RT.but ds r).depth = 1 + r.depth := rfl
    have ew : (RT.but ds r).weight = 1 + r.weight := rfl
    have wl := r.words_len
    refine ⟨_, rfl, a, _, _, _, _, rfl, h, Tx.cl_But, Tx.na_But_days, rfl, p, ds, rfl, hp, g.1.few, fun x hx => (g.1.all x hx).2, fun H0 s0 => ⟨by show 2 ≤ sizeLine; decide, fun p1 g1 => ?_⟩⟩
    have s1 := s0.trans (same_new g1 (.lst [.str (Str.ofString "but"), .str (lstT ds)]))
    obtain ⟨C, dx2, fs, f, fd, sp, k1, k2, k3, k4, k5, k6, k7⟩ := R.at Tx (hi.same s1) g.2 (by omega) (by omega)
    refine ⟨_, rfl, a, _, _, _, _, rfl, s1 _ _ h, Tx.cl_But, Tx.na_But_inner, rfl, i, C, dx2, fs, f, fd, _, _, sp, CX0, E0, rfl, k1, k2, k3, k4, k5, hr.mono (by omega), k6, pass0, k7 _ fun p2 H2 s2 n2 e2 => ?_⟩
    refine ⟨p1, p2, _, _, rfl, rfl, s2 _ _ upd_same, e2, ?_, fun p3 g3 => q p3 _ ((s1.trans s2).trans (same_new g3 _)) ((s1.trans s2).free g3) (by rw [upd_same]; rfl)⟩
    rw [List.length_map]
    exact Nat.le_trans (show 2 + r.words.length ≤ 4000 by omega) (by decide)
  | _ => exact hq.elim
theorem words_either (Tx : Tab K mg t) (n : Nat) (R : WordsOk P w K mg base t n) : FnOk P w K mg base CX0 (n + 1 + 3) t.f_Either_words t.d_Either_words ["self"] (spWords (rc t) K isEither (n + 1)) := by
  refine Tx.F_Either_words.ok sc_Either_words (fun vs H Q E h => ?_) (fun cdv A outer s H vs Q E hr h => ?_)
  · obtain ⟨a, r, rfl, _⟩ := h
    rfl
  obtain ⟨a, r, rfl, h, hq, g, hw, hn, q⟩ := h
  refine ⟨_, (pss_one (ps_ret (pe_op op_cat (pe_op op_cat (pe_lst (pac pe_str pa_nil)) (pe_meth0D (pe_fld (pv 0) rfl))) (pe_meth0D (pe_fld (pv 0) rfl))))), ?_⟩
  cases h with
  | either h hi hj =>
    rename_i dx i j r r2
    have ed : (RT.either r r2).depth = 1 + max r.depth r2.depth := rfl
    have ew : (RT.either r r2).weight = 1 + (r.weight + r2.weight) := rfl
    have wl := r.words_len
    have wl2 := r2.words_len
    refine ⟨by show 1 ≤ sizeLine; decide, fun p1 g1 => ?_⟩
    have s1 := same_new g1 (.lst [.str (Str.ofString "either")])
    obtain ⟨C, dx2, fs, f, fd, sp, k1, k2, k3, k4, k5, k6, k7⟩ := R.at Tx (hi.same s1) g.1 (by omega) (by omega)
    refine ⟨_, rfl, a, _, _, _, _, rfl, s1 _ _ h, Tx.cl_Either, Tx.na_Either_one, rfl, i, C, dx2, fs, f, fd, _, _, sp, CX0, E0, rfl, k1, k2, k3, k4, k5, hr.mono (by omega), k6, pass0, k7 _ fun p2 H2 s2 n2 e2 => ?_⟩
    refine ⟨p1, p2, _, _, rfl, rfl, s2 _ _ upd_same, e2, ?_, fun p3 g3 => ?_⟩
    · rw [List.length_map]
      exact Nat.le_trans (show 1 + r.words.length ≤ 4000 by omega) (by decide)
    have s3 := (s1.trans s2).trans (same_new g3 (.lst ([.str (Str.ofString "either")] ++ r.words.map V.str)))
    obtain ⟨C, dx2, fs, f, fd, sp, k1, k2, k3, k4, k5, k6, k7⟩ := R.at Tx (hj.same s3) g.2 (by omega) (by omega)
    refine ⟨_, rfl, a, _, _, _, _, rfl, s3 _ _ h, Tx.cl_Either, Tx.na_Either_other, rfl, j, C, dx2, fs, f, fd, _, _, sp, CX0, E0, rfl, k1, k2, k3, k4, k5, hr.mono (by omega), k6, pass0, k7 _ fun p4 H4 s4 n4 e4 => ?_⟩
    refine ⟨p3, p4, _, _, rfl, rfl, s4 _ _ upd_same, e4, ?_, fun p5 g5 => q p5 _ ((s3.trans s4).trans (same_new g5 _)) ((s3.trans s4).free g5) ?_⟩
    · rw [List.length_append, List.length_map, List.length_map]
      exact Nat.le_trans (show [V.str (Str.ofString "either")].length + r.words.length + r2.words.length ≤ 7000 by rw [List.length_singleton]; omega) (by decide)
    · rw [upd_same]
      show some (HO.lst ([V.str (Str.ofString "either")] ++ r.words.map V.str ++ r2.words.map V.str)) = some (.lst (([Str.ofString "either"] ++ r.words ++ r2.words).map V.str))
      rw [List.map_append, List.map_append]
      rfl
  | _ => exact hq.elim
theorem words_both (Tx : Tab K mg t) (n : Nat) (R : WordsOk P w K mg base t n) : FnOk P w K mg base CX0 (n + 1 + 3) t.f_Both_words t.d_Both_words ["self"] (spWords (rc t) K isBoth (n + 1)) := by
  refine Tx.F_Both_words.ok sc_Both_words (fun vs H Q E h => ?_) (fun cdv A outer s H vs Q E hr h => ?_)
  · obtain ⟨a, r, rfl, _⟩ := h
    rfl
  obtain ⟨a, r, rfl, h, hq, g, hw, hn, q⟩ := h
  refine ⟨_, (pss_one (ps_ret (pe_op op_cat (pe_op op_cat (pe_lst (pac pe_str pa_nil)) (pe_meth0D (pe_fld (pv 0) rfl))) (pe_meth0D (pe_fld (pv 0) rfl))))), ?_⟩
  cases h with
  | both h hi hj =>
    rename_i dx i j r r2
    have ed : (RT.both r r2).depth = 1 + max r.depth r2.depth := rfl
    have ew : (RT.both r r2).weight = 1 + (r.weight + r2.weight) := rfl
    have wl := r.words_len
    have wl2 := r2.words_len
    refine ⟨by show 1 ≤ sizeLine; decide, fun p1 g1 => ?_⟩
    have s1 := same_new g1 (.lst [.str (Str.ofString "both")])
    obtain ⟨C, dx2, fs, f, fd, sp, k1, k2, k3, k4, k5, k6, k7⟩ := R.at Tx (hi.same s1) g.1 (by omega) (by omega)
    refine ⟨_, rfl, a, _, _, _, _, rfl, s1 _ _ h, Tx.cl_Both, Tx.na_Both_one, rfl, i, C, dx2, fs, f, fd, _, _, sp, CX0, E0, rfl, k1, k2, k3, k4, k5, hr.mono (by omega), k6, pass0, k7 _ fun p2 H2 s2 n2 e2 => ?_⟩
    refine ⟨p1, p2, _, _, rfl, rfl, s2 _ _ upd_same, e2, ?_, fun p3 g3 => ?_⟩
    · rw [List.length_map]
      exact Nat.le_trans (show 1 + r.words.length ≤ 4000 by omega) (by decide)
    have s3 := (s1.trans s2).trans (same_new g3 (.lst ([.str (Str.ofString "both")] ++ r.words.map V.str)))
    obtain ⟨C, dx2, fs, f, fd, sp, k1, k2, k3, k4, k5, k6, k7⟩ := R.at Tx (hj.same s3) g.2 (by omega) (by omega)
    refine ⟨_, rfl, a, _, _, _, _, rfl, s3 _ _ h, Tx.cl_Both, Tx.na_Both_other, rfl, j, C, dx2, fs, f, fd, _, _, sp, CX0, E0, rfl, k1, k2, k3, k4, k5, hr.mono (by omega), k6, pass0, k7 _ fun p4 H4 s4 n4 e4 => ?_⟩
    refine ⟨p3, p4, _, _, rfl, rfl, s4 _ _ upd_same, e4, ?_, fun p5 g5 => q p5 _ ((s3.trans s4).trans (same_new g5 _)) ((s3.trans s4).free g5) ?_⟩
    · rw [List.length_append, List.length_map, List.length_map]
      exact Nat.le_trans (show [V.str (Str.ofString "both")].length + r.words.length + r2.words.length ≤ 7000 by rw [List.length_singleton]; omega) (by decide)
    · rw [upd_same]
      show some (HO.lst ([V.str (Str.ofString "both")] ++ r.words.map V.str ++ r2.words.map V.str)) = some (.lst (([Str.ofString "both"] ++ r.words ++ r2.words).map V.str))
      rw [List.map_append, List.map_append]
      rfl
  | _ => exact hq.elim
theorem words_ok (Tx : Tab K mg t) : ∀ n, WordsOk P w K mg base t n
  | 0 => by
    have no : ∀ {q : RT → Prop}, ∀ vs H Q E, spWords (rc t) K q 0 vs H Q E → False := fun vs H Q E h => by
      obtain ⟨a, r, rfl, h, hq, g, hw, hn, _⟩ := h
      have := r.depth_pos
      omega
    exact ⟨words_rule Tx 0, words_week Tx 0,
      Tx.F_Span_words.ok sc_Span_words (fun vs H Q E h => (no vs H Q E h).elim) (fun cdv A outer s H vs Q E hr h => (no vs H Q E h).elim), words_each Tx 0,
      Tx.F_Either_words.ok sc_Either_words (fun vs H Q E h => (no vs H Q E h).elim) (fun cdv A outer s H vs Q E hr h => (no vs H Q E h).elim),
      Tx.F_Both_words.ok sc_Both_words (fun vs H Q E h => (no vs H Q E h).elim) (fun cdv A outer s H vs Q E hr h => (no vs H Q E h).elim),
      Tx.F_But_words.ok sc_But_words (fun vs H Q E h => (no vs H Q E h).elim) (fun cdv A outer s H vs Q E hr h => (no vs H Q E h).elim)⟩
  | n + 1 => have R := words_ok Tx n
    ⟨words_rule Tx (n + 1), words_week Tx (n + 1), words_span Tx n R, words_each Tx (n + 1), words_either Tx n R, words_both Tx n R, words_but Tx n R⟩

def spCell (K : W.Frag) : Sp := fun vs H Q _ => ∃ (a : Addr) (ns : List Int) (k : Int), vs = [.ref a, .int k] ∧ SqL K H a (ns.map V.int) ∧ 0 ≤ k ∧ ∀ (i : Int) H', Same H H' → Q (.int i) H'
theorem ok_law_cell (Tx : Tab K mg t) : FnOk P w K mg base CX0 1 t.f_law_cell t.d_law_cell ["_law_script", "_law_k"] (spCell K) := by
  refine Tx.F_law_cell.ok sc_law_cell (fun vs H Q E h => ?_) (fun cdv A outer s H vs Q E hr h => ?_)
  · obtain ⟨a, ns, k, rfl, _⟩ := h
    rfl
  obtain ⟨a, ns, k, rfl, hS, h0, q⟩ := h
  refine ⟨_, (pss_cons (ps_if (pt_cmpR (op_eq_lst hr.units0) (pv 0) (pe_lst pa_nil) (nomark _))
    (pss_one (ps_ret pe_int))
    pss_nil)
    (pss_one (ps_ret (pe_ix ix_list (pv 0) (pe_op op_mod (pv 1) (pe_callB call_len_seq rfl Tx.z_len b_len (pac (pv 0) pa_nil))) (fun _ _ => rfl))))), ?_⟩
  refine ⟨_, rfl, (by show 0 ≤ sizeLine; decide), fun p hp => ?_⟩
  have sm := same_new hp (.lst [])
  refine ⟨a, p, _, _, rfl, rfl, sm.seq hS, SqL.of upd_same, flat_ints ns, rfl, _, rfl, ?_⟩
  cases ns with
  | nil => exact itT rfl (q 0 _ sm)
  | cons n r =>
    refine itF (by intro z; cases z) ?_
    have hl : (((n :: r).map V.int).length : Int) = ((n :: r).length : Int) := by rw [List.length_map]
    have hpos : (0 : Int) < (((n :: r).map V.int).length : Nat) := by rw [List.length_map, List.length_cons]; omega
    have hlt : (k % (((n :: r).map V.int).length : Nat)).toNat < (n :: r).length := by
      have h1 := Int.emod_nonneg k (show ((((n :: r).map V.int).length : Nat) : Int) ≠ 0 by omega)
      have h2 := Int.emod_lt_of_pos k hpos
      omega
    have h1 := Int.emod_nonneg k (show ((((n :: r).map V.int).length : Nat) : Int) ≠ 0 by omega)
    refine ⟨_, rfl, _, rfl, _, rfl, a, _, rfl, .inl (sm.seq hS), _, _, rfl, rfl, hpos, a, _, _, .int ((n :: r)[(k % (((n :: r).map V.int).length : Nat)).toNat]), rfl, rfl, sm.seq hS, ?_, q _ _ sm⟩
    · have e : k % (((n :: r).map V.int).length : Nat) = (((k % (((n :: r).map V.int).length : Nat)).toNat : Nat) : Int) := by omega
      have q2 : atI ((n :: r).map V.int) (((k % (((n :: r).map V.int).length : Nat)).toNat : Nat) : Int) = some (.int ((n :: r)[(k % (((n :: r).map V.int).length : Nat)).toNat])) := atI_nat (by rw [List.getElem?_map, List.getElem?_eq_getElem hlt]; rfl)
      rw [← e] at q2
      exact q2

def spDraw (K : W.Frag) : Sp := fun vs H Q _ => ∃ (a tp : Addr) (ns : List Int) (k n : Int), vs = [.ref a, .ref tp, .int n] ∧ Scr K H a tp ns ∧ H tp = some (.lst [.int k]) ∧ 0 ≤ k ∧ k ≤ 100000 ∧ 0 < n ∧ n < 1073741824 ∧
  ∀ (d : Int) H', 0 ≤ d → d < n → Bump tp (k + 1) H H' → Q (.int d) H'
theorem ok_law_draw (Tx : Tab K mg t) : FnOk P w K mg base CX0 2 t.f_law_draw t.d_law_draw ["_law_script", "_law_tape", "_law_many"] (spDraw K) := by
  refine Tx.F_law_draw.ok sc_law_draw (fun vs H Q E h => ?_) (fun cdv A outer s H vs Q E hr h => ?_)
  · obtain ⟨a, tp, ns, k, n, rfl, _⟩ := h
    rfl
  obtain ⟨a, tp, ns, k, n, rfl, hS, hT, h0, h1, hn0, hn1, q⟩ := h
  refine ⟨_, (pss_cons (ps_asg (pe_op op_add (pe_ix ix_list (pv 1) pe_int (fun _ _ => rfl)) pe_int) (pg_sub (pv 1) pe_int set_list))
    (pss_cons (ps_set (i := 3) sc_law_draw.nd rfl (Or.inl rfl) (pe_op op_add (pe_op op_add (pe_op op_mod (pe_call (ok_law_cell Tx) (hr.mono (by omega)) rfl Tx.m_law_cell Tx.F_law_cell.kp Tx.b_law_cell .nil pass0 (pac (pv 0) (pac (pe_op op_sub (pe_ix ix_list (pv 1) pe_int (fun _ _ => rfl)) pe_int) pa_nil))) pe_int) (pe_op op_mul pe_int (pe_ix ix_list (pv 1) pe_int (fun _ _ => rfl)))) pe_int))
    (pss_one (ps_ret (pe_op op_mod (pe_op op_fdiv (pe_op op_mod (pe_op op_mul (pe_op op_mod (pe_op op_mul (pv 3) (pv 3)) pe_int) (pv 3)) pe_int) pe_int) (pv 2)))))), ?_⟩
  refine ⟨_, rfl, tp, _, 0, _, rfl, rfl, SqL.of hT, rfl, _, _, rfl, rfl, _, rfl, tp, _, 0, 0, rfl, rfl, hT, rfl, ?_⟩
  have b1 : Bump tp (k + 1) H (upd H tp (.lst [.int (k + 1)])) := ⟨fun c o nn h => by rw [upd_ne nn]; exact h, upd_same⟩
  refine ⟨_, rfl, _, rfl, tp, _, 0, _, rfl, rfl, SqL.of b1.tape, rfl, _, _, rfl, rfl, a, ns, _, rfl, (b1.scr hS).sq, (by show 0 ≤ k + 1 - 1; omega), fun i H' sm => ?_⟩
  have b2 := b1.same sm
  refine ⟨_, _, rfl, rfl, (by show (0 : Int) < 1000000007; decide), _, rfl, tp, _, 0, _, rfl, rfl, SqL.of b2.tape, rfl, _, _, rfl, rfl, .inl ⟨by decide, by decide⟩, _, _, rfl, rfl, _, _, rfl, rfl, ?_⟩
  have g1 : 0 ≤ i % 1000000007 := Int.emod_nonneg _ (by decide)
  have g2 : i % 1000000007 < 1000000007 := Int.emod_lt_of_pos _ (by decide)
  generalize hv : i % 1000000007 + 7919 * (k + 1) + 13 = v
  have v0 : 0 ≤ v := by omega
  have v1 : v < 18446744073709551616 := by omega
  have e1 : (i % 1000000007 + 7919 * (k + 1) + 13 : Int) = v := hv
  refine ⟨_, rfl, _, rfl, _, _, rfl, rfl, mulM (by show 0 ≤ i % 1000000007 + 7919 * (k + 1) + 13; omega) (by show i % 1000000007 + 7919 * (k + 1) + 13 < _; omega), _, _, rfl, rfl, (by show (0 : Int) < 1000000007; decide), _, rfl, _, _, rfl, rfl,
    mulM (by show 0 ≤ i % 1000000007 + 7919 * (k + 1) + 13; omega) (by show i % 1000000007 + 7919 * (k + 1) + 13 < _; omega), _, _, rfl, rfl, (by show (0 : Int) < 998244353; decide), _, _, rfl, rfl, ⟨by decide, by decide⟩, _, rfl, _, _, rfl, rfl, hn0, ?_⟩
  exact q _ H' (Int.emod_nonneg _ (by omega)) (Int.emod_lt_of_pos _ hn0) b2


def spWhole : Sp := fun vs H Q _ => ∃ (v : V) (T : String), vs = [v] ∧ Kd H v T ∧ Q (.bl (wholeV v)) H
theorem ok_law_whole (Tx : Tab K mg t) : FnOk P w K mg base CX0 1 t.f_law_whole t.d_law_whole ["_law_found"] spWhole := by
  refine Tx.F_law_whole.ok sc_law_whole (fun vs H Q E h => ?_) (fun cdv A outer s H vs Q E hr h => ?_)
  · obtain ⟨v, T, rfl, _⟩ := h
    rfl
  obtain ⟨v, T, rfl, kd, q⟩ := h
  refine ⟨_, (pss_one (ps_ret (pe_and (pe_callB call_isi_ty rfl Tx.z_isinstance b_isinstance (pac (pv 0) (pac (pe_gty rfl Tx.z_int b_int) pa_nil))) (pe_one (pe_not (pe_callB call_isi_ty rfl Tx.z_isinstance b_isinstance (pac (pv 0) (pac (pe_gty rfl Tx.z_bool b_bool) pa_nil)))))))), ?_⟩
  refine ⟨_, rfl, v, "int", _, _, rfl, kd.ty, kit_int kd, _, rfl, ?_⟩
  cases kd with
  | non => exact itF (by decide) q
  | str x => exact itF (by decide) q
  | lst e => exact itF (by decide) q
  | tup e => exact itF (by decide) q
  | dK e => exact itF (by decide) q
  | bl b => exact itT (by decide) ⟨_, rfl, _, "bool", _, _, rfl, (Kd.bl b).ty (H := H), kit_bool (H := H) (.bl b), _, rfl, q⟩
  | int i => exact itT (by decide) ⟨_, rfl, _, "bool", _, _, rfl, (Kd.int i).ty (H := H), kit_bool (H := H) (.int i), _, rfl, q⟩


theorem eq4 {x y : V} {i i' j j' : Int} (h : i = i') (g : j = j') : [x, y, V.int i, V.int j] = [x, y, V.int i', V.int j'] := by rw [h, g]
theorem ne_tp {H' : Hp} {tp : Addr} {k : Int} {p : Addr} (z : H' tp = some (.lst [.int k])) (g : H' p = none) : p ≠ tp := fun e => by
  rw [e, z] at g
  cases g
def spRising (K : W.Frag) : Sp := fun vs H Q _ => ∃ (a tp : Addr) (ns : List Int) (k : Int) (lo hi : Nat), vs = [.ref a, .ref tp, .int (lo : Nat), .int (hi : Nat)] ∧ Scr K H a tp ns ∧ H tp = some (.lst [.int k]) ∧ 0 ≤ k ∧ k ≤ 90000 ∧ lo ≤ hi ∧ hi ≤ 9999 ∧
  ∀ (l : Addr) (zs : List Nat) (k' : Int) (H' : Hp), Bump tp k' H H' → k ≤ k' → k' ≤ k + 14 → H' l = some (.lst (natV zs)) → l ≠ tp → Rsg zs lo hi → Q (.ref l) H'
theorem nat_ints (zs : List Nat) : natV zs = (zs.map fun n => ((n : Nat) : Int)).map V.int := by
  rw [List.map_map]; rfl
theorem rsg_of {zs : List Int} {ks : List Nat} {lo hi : Nat} (pw : zs.Pairwise (· < ·)) (mem : ∀ k, k ∈ zs ↔ k ∈ ks.map fun n => ((n : Nat) : Int)) (le : zs.length ≤ ks.length) (hk : ∀ z ∈ ks, lo ≤ z ∧ z ≤ hi) (h1 : 1 ≤ ks.length) (h12 : ks.length ≤ 12) :
    zs.map V.int = natV (zs.map Int.toNat) ∧ Rsg (zs.map Int.toNat) lo hi := by
  have nn : ∀ z ∈ zs, ∃ n : Nat, z = ((n : Nat) : Int) ∧ lo ≤ n ∧ n ≤ hi := fun z hz => by
    obtain ⟨n, hn, rfl⟩ := List.mem_map.mp ((mem z).mp hz)
    exact ⟨n, rfl, hk n hn⟩
  refine ⟨?_, ?_, ?_, ?_, ?_⟩
  · show zs.map V.int = (zs.map Int.toNat).map _
    rw [List.map_map]
    refine List.map_congr_left fun z hz => ?_
    obtain ⟨n, rfl, _⟩ := nn z hz
    rfl
  · rw [List.length_map]
    match ks, h1 with
    | x :: r, _ =>
      have := (mem ((x : Nat) : Int)).mpr (List.mem_map.mpr ⟨x, List.mem_cons_self, rfl⟩)
      exact List.length_pos_of_mem this
  · rw [List.length_map]; omega
  · rw [List.pairwise_map]
    refine List.Pairwise.imp_of_mem (fun {x y} hx hy h => ?_) pw
    obtain ⟨n, rfl, _⟩ := nn x hx
    obtain ⟨m, rfl, _⟩ := nn y hy
    simp only [Int.toNat_natCast]
    omega
  · intro x hx
    obtain ⟨z, hz, rfl⟩ := List.mem_map.mp hx
    obtain ⟨n, rfl, q⟩ := nn z hz
    exact q
theorem ok_law_rising (Tx : Tab K mg t) : FnOk P w K mg base CX0 3 t.f_law_rising t.d_law_rising ["_law_script", "_law_tape", "_law_least", "_law_most"] (spRising K) := by
  refine Tx.F_law_rising.ok sc_law_rising (fun vs H Q E h => ?_) (fun cdv A outer s H vs Q E hr h => ?_)
  · obtain ⟨a, tp, ns, k, lo, hi, rfl, _⟩ := h
    rfl
  obtain ⟨a, tp, ns, k, lo, hi, rfl, S, hT, k0, k1, lh, hh, q⟩ := h
  refine ⟨_, (pss_cons (ps_set (i := 4) sc_law_rising.nd rfl (Or.inl rfl) (pe_op op_add pe_int (pe_call (ok_law_draw Tx) (hr.mono (by omega)) rfl Tx.m_law_draw Tx.F_law_draw.kp Tx.b_law_draw .nil pass0 (pac (pv 0) (pac (pv 1) (pac pe_int pa_nil))))))
    (pss_cons (ps_if (pt_cmpR op_eq (pe_call (ok_law_draw Tx) (hr.mono (by omega)) rfl Tx.m_law_draw Tx.F_law_draw.kp Tx.b_law_draw .nil pass0 (pac (pv 0) (pac (pv 1) (pac pe_int pa_nil)))) pe_int (nomark _))
    (pss_one (ps_set (i := 4) sc_law_rising.nd rfl (Or.inl rfl) pe_int))
    pss_nil)
    (pss_cons (ps_setc (i0 := 5) (cl := [(Str.ofString "_law_tape", s.heap.objs.size + 2), (Str.ofString "_law_script", s.heap.objs.size + 1), (Str.ofString "_law_most", s.heap.objs.size + 4), (Str.ofString "_law_least", s.heap.objs.size + 3)]) (N := ["_law_k", "_law_least", "_law_script", "_law_tape", "_law_most"]) (fr := [none, some 2, some 0, some 1, some 3]) sc_law_rising.nd rfl (Or.inl rfl) rfl (pi_range1 rfl Tx.z_range (pac (pv 4) pa_nil)) rfl (by decide +kernel) rfl (by decide +kernel) ⟨⟨rfl, Or.inl rfl, Or.inl rfl, _, rfl, rfl⟩, ⟨⟨rfl, Or.inl rfl, Or.inl rfl, _, rfl, rfl⟩, ⟨⟨rfl, Or.inl rfl, Or.inl rfl, _, rfl, rfl⟩, ⟨⟨rfl, Or.inl rfl, Or.inl rfl, _, rfl, rfl⟩, trivial⟩⟩⟩⟩ ⟨rfl, ⟨rfl, ⟨rfl, ⟨rfl, trivial⟩⟩⟩⟩ rfl (fun _ _ _ _ _ => (pg_name (i := 0) (show List.Nodup (["_law_k", "_law_least", "_law_script", "_law_tape", "_law_most"] : List Str) by decide +kernel) rfl (Or.inl rfl))) (fun _ _ _ _ _ => pts_nil) (fun _ _ _ _ _ => (pe_op op_add (pv 1) (pe_call (ok_law_draw Tx) (hr.mono (by omega)) rfl Tx.m_law_draw Tx.F_law_draw.kp Tx.b_law_draw .nil pass0 (pac (pv 2) (pac (pv 3) (pac (pe_op op_add (pe_op op_sub (pv 4) (pv 1)) pe_int) pa_nil)))))))
    (pss_one (ps_ret (pe_callB (call_sortedI rfl) rfl Tx.z_sorted b_sorted (pac (pe_callTy (call_setI rfl) rfl Tx.z_set b_set (pac (pv 5) pa_nil)) pa_nil))))))), ?_⟩
  refine ⟨_, rfl, _, rfl, a, tp, ns, k, 4, rfl, S, hT, k0, by omega, by decide, by decide, fun d1 H1 d10 d11 b1 => ⟨_, _, rfl, rfl, ?_⟩⟩
  refine ⟨_, rfl, _, rfl, a, tp, ns, k + 1, 8, rfl, b1.scr S, b1.tape, by omega, by omega, by decide, by decide, fun d2 H2 d20 d21 b2 => ⟨rfl, _, rfl, ite2 (fun _ => ?_) (fun _ => ?_)⟩⟩
  all_goals
    have B2 := b1.trans b2
    refine ⟨_, rfl, _, rfl, by omega, by omega, comp_range (fun i acc σ H' => ∃ (zs : List Nat) (vk : Option V), acc = natV zs ∧ zs.length = i ∧ (∀ z ∈ zs, lo ≤ z ∧ z ≤ hi) ∧ Bump tp (k + 1 + 1 + i) H H' ∧ σ = [vk, some (.int (lo : Nat)), some (.ref a), some (.ref tp), some (.int (hi : Nat))])
      ⟨[], _, rfl, rfl, (fun z hz => by cases hz), by simpa using B2, rfl⟩ (Nat.le_trans (show _ ≤ 12 by omega) (by decide)) ?_ ?_⟩
    · rintro i acc σ H' hi' ha ⟨zs, vk, rfl, hz, hb, B, rfl⟩
      dsimp only [gName, tTrue]
      rw [if_pos rfl]
      refine ⟨_, rfl, _, rfl, _, rfl, _, rfl, _, rfl, _, _, rfl, rfl, _, _, rfl, rfl, a, tp, ns, k + 1 + 1 + i, _, rfl, B.scr S, B.tape, by omega, by omega, by omega, by omega, fun d H4 d0 d1 b4 => ?_⟩
      refine ⟨_, _, rfl, rfl, by rw [List.length_append, List.length_singleton]; omega, zs ++ [lo + d.toNat], _, ?_, by rw [List.length_append, List.length_singleton]; omega, fun z hz' => ?_, ?_, rfl⟩
      · have e : ((lo : Nat) : Int) + d = ((lo + d.toNat : Nat) : Int) := by omega
        show natV zs ++ [V.int (((lo : Nat) : Int) + d)] = List.map _ (zs ++ [lo + d.toNat])
        rw [List.map_append, e]
        rfl
      · rcases List.mem_append.mp hz' with hz' | hz'
        · exact hb z hz'
        · rw [List.mem_singleton] at hz'
          omega
      · have := B.trans b4
        have e : k + 1 + 1 + ((i : Nat) : Int) + 1 = k + 1 + 1 + ((i + 1 : Nat) : Int) := by omega
        rw [e] at this
        exact this
    · rintro acc σ H' ha ⟨zs, vk, rfl, hz, hb, B, rfl⟩ p hp
      have s1 := same_new hp (.lst (natV zs))
      have z12 : zs.length ≤ 12 := by omega
      have z1 : 1 ≤ zs.length := by omega
      refine ⟨_, rfl, p, _, rfl, SqL.of (by rw [upd_same, nat_ints zs]), by rw [List.length_map]; omega, fun l hl => ?_⟩
      refine ⟨l, _, rfl, upd_same, by rw [List.length_map]; omega, fun l2 ys hl2 pw mem le => ?_⟩
      obtain ⟨e1, g⟩ := rsg_of pw mem (by rw [List.length_map] at le; exact le) hb z1 z12
      have s2 := same_new hl (setO P w l (zs.map fun n => ((n : Nat) : Int)))
      have s3 := same_new hl2 (.lst (ys.map V.int))
      have B3 := ((B.same s1).same s2).same s3
      refine q l2 _ _ _ B3 (by omega) (by omega) (by rw [upd_same, e1]) (fun z => ?_) g
      have h2 : upd (upd H' p (.lst (natV zs))) l (setO P w l (zs.map fun n => ((n : Nat) : Int))) l2 = none := hl2
      have := ((B.same s1).same s2).tape
      rw [← z, h2] at this
      cases this

def spLeaf (K : W.Frag) : Sp := fun vs H Q _ => ∃ (a tp : Addr) (ns : List Int) (k : Int), vs = [.ref a, .ref tp] ∧ Scr K H a tp ns ∧ H tp = some (.lst [.int k]) ∧ 0 ≤ k ∧ k ≤ 80000 ∧
  ∀ (v : V) (r : RT) (k' : Int) (H' : Hp), Bump tp k' H H' → k ≤ k' → k' ≤ k + 16 → TAtr tp H' v r → r.good → r.weight = 1 → r.depth = 1 → Q v H'
theorem ok_law_leaf (Tx : Tab K mg t) : FnOk P w K mg base CX0 4 t.f_law_leaf t.d_law_leaf ["_law_script", "_law_tape"] (spLeaf K) := by
  refine Tx.F_law_leaf.ok sc_law_leaf (fun vs H Q E h => ?_) (fun cdv A outer s H vs Q E hr h => ?_)
  · obtain ⟨a, tp, ns, k, rfl, _⟩ := h
    rfl
  obtain ⟨a, tp, ns, k, rfl, S, hT, k0, k1, q⟩ := h
  refine ⟨_, (pss_cons (ps_set (i := 2) sc_law_leaf.nd rfl (Or.inl rfl) (pe_call (ok_law_draw Tx) (hr.mono (by omega)) rfl Tx.m_law_draw Tx.F_law_draw.kp Tx.b_law_draw .nil pass0 (pac (pv 0) (pac (pv 1) (pac pe_int pa_nil)))))
    (pss_cons (ps_if (pt_cmpR op_eq (pv 2) pe_int (nomark _))
    (pss_one (ps_ret (pe_tup (pac pe_str pa_nil))))
    pss_nil)
    (pss_cons (ps_if (pt_cmpR op_lt (pv 2) pe_int (nomark _))
    (pss_one (ps_ret (pe_tup (pac pe_str (pac (pe_ix ix_list (pe_lst (pac (pe_call (ok_law_draw Tx) (hr.mono (by omega)) rfl Tx.m_law_draw Tx.F_law_draw.kp Tx.b_law_draw .nil pass0 (pac (pv 0) (pac (pv 1) (pac pe_int pa_nil)))) (pac (pe_op op_add pe_int (pe_call (ok_law_draw Tx) (hr.mono (by omega)) rfl Tx.m_law_draw Tx.F_law_draw.kp Tx.b_law_draw .nil pass0 (pac (pv 0) (pac (pv 1) (pac pe_int pa_nil))))) (pac pe_int pa_nil)))) (pe_op op_sub (pv 2) pe_int) (fun _ _ => rfl)) pa_nil)))))
    pss_nil)
    (pss_cons (ps_set (i := 3) sc_law_leaf.nd rfl (Or.inl rfl) (pe_op op_add pe_int (pe_call (ok_law_draw Tx) (hr.mono (by omega)) rfl Tx.m_law_draw Tx.F_law_draw.kp Tx.b_law_draw .nil pass0 (pac (pv 0) (pac (pv 1) (pac (pe_ix ix_list (pe_lst (pac pe_int (pac pe_int pa_nil))) (pe_op op_sub (pv 2) pe_int) (fun _ _ => rfl)) pa_nil))))))
    (pss_one (ps_ret (pe_tup (pac pe_str (pac (pv 3) (pac (pe_call (ok_law_rising Tx) (hr.mono (by omega)) rfl Tx.m_law_rising Tx.F_law_rising.kp Tx.b_law_rising .nil pass0 (pac (pv 0) (pac (pv 1) (pac pe_int (pac (pe_op op_sub (pv 3) pe_int) pa_nil))))) pa_nil)))))))))), ?_⟩
  refine ⟨_, rfl, _, rfl, a, tp, ns, k, 6, rfl, S, hT, k0, by omega, by decide, by decide, fun c H1 c0 c1 b1 => ?_⟩
  refine ⟨_, rfl, rfl, _, rfl, ?_⟩
  by_cases h0 : c = 0
  · refine itT (by subst h0; decide) ⟨by show 1 ≤ sizeLine; decide, fun p hp => ?_⟩
    exact q _ .always _ _ (b1.same (same_new hp _)) (by omega) (by omega) (.always upd_same) trivial rfl rfl
  · refine itF (by rw [dec_int]; simpa using h0) ?_
    refine ⟨_, rfl, _, _, rfl, rfl, _, rfl, ?_⟩
    by_cases h4 : c < 4
    · refine itT (decide_eq_true h4) ?_
      refine ⟨_, rfl, _, rfl, a, tp, ns, k + 1, 128, rfl, b1.scr S, b1.tape, by omega, by omega, by decide, by decide, fun d1 H2 d10 d11 b2 => ?_⟩
      have B2 := b1.trans b2
      refine ⟨_, rfl, _, rfl, a, tp, ns, k + 1 + 1, 4, rfl, B2.scr S, B2.tape, by omega, by omega, by decide, by decide, fun d2 H3 d20 d21 b3 => ⟨_, _, rfl, rfl, by show 3 ≤ sizeLine; decide, fun p hp => ?_⟩⟩
      have B3 := B2.trans b3
      obtain ⟨vb, eb, b, rfl, hb⟩ := at_all (p := fun v => ∃ n : Nat, v = V.int (n : Nat) ∧ n ≤ 127) (xs := [.int d1, .int (1 + d2), .int 31]) (d := c - 1) (fun v hv => by
        simp only [List.mem_cons, List.not_mem_nil, or_false] at hv
        rcases hv with rfl | rfl | rfl
        · exact ⟨d1.toNat, congrArg V.int (by omega), by omega⟩
        · exact ⟨(1 + d2).toNat, congrArg V.int (by omega), by omega⟩
        · exact ⟨31, rfl, by decide⟩) (by omega) (by show c - 1 < 3; omega)
      refine ⟨_, rfl, _, _, rfl, rfl, p, _, _, _, rfl, rfl, SqL.of upd_same, eb, by show 2 ≤ sizeLine; decide, fun p2 hp2 => ?_⟩
      exact q _ (.week b) _ _ ((B3.same (same_new hp _)).same (same_new hp2 _)) (by omega) (by omega) (.week upd_same) hb rfl rfl
    · refine itF (by rw [decide_eq_false h4]; decide) ?_
      refine ⟨_, rfl, _, rfl, by show 2 ≤ sizeLine; decide, fun p hp => ?_⟩
      have B1 := b1.same (same_new hp (.lst [.int 28, .int 7]))
      obtain ⟨vm, em, m, rfl, hm1, hm2⟩ := at_all (p := fun v => ∃ n : Nat, v = V.int (n : Nat) ∧ 1 ≤ n ∧ n ≤ 28) (xs := [.int 28, .int 7]) (d := c - 4) (fun v hv => by
        simp only [List.mem_cons, List.not_mem_nil, or_false] at hv
        rcases hv with rfl | rfl
        · exact ⟨28, rfl, by decide, by decide⟩
        · exact ⟨7, rfl, by decide, by decide⟩) (by omega) (by show c - 4 < 2; omega)
      refine ⟨_, rfl, _, _, rfl, rfl, p, _, _, _, rfl, rfl, SqL.of upd_same, em, a, tp, ns, k + 1, _, rfl, B1.scr S, B1.tape, by omega, by omega, by omega, by omega, fun d H2 d0 d1 b2 => ⟨_, _, rfl, rfl, ?_⟩⟩
      have B2 := B1.trans b2
      obtain ⟨n, en⟩ : ∃ n : Nat, 1 + d = ((n : Nat) : Int) := ⟨(1 + d).toNat, by omega⟩
      refine ⟨_, rfl, _, rfl, _, rfl, _, rfl, _, _, rfl, rfl, a, tp, ns, k + 1 + 1, 0, n - 1, eq4 rfl (by omega), B2.scr S, B2.tape, by omega, by omega, by omega, by omega, fun l zs k' H3 b3 u1 u2 hl hne g => ?_⟩
      refine ⟨by show 3 ≤ sizeLine; decide, fun p3 hp3 => ?_⟩
      have s3 := same_new hp3 (.tup [.str (Str.ofString "each"), .int (1 + d), .ref l])
      have hp3' : upd H3 p3 (.tup [.str (Str.ofString "each"), .int (1 + d), .ref l]) p3 = some (.tup [.str (Str.ofString "each"), .int ((n : Nat) : Int), .ref l]) := by rw [upd_same, en]
      exact q _ (.each n zs) _ _ ((B2.trans b3).same s3) (by omega) (by omega) (.each hp3' (s3 _ _ hl) hne) ⟨by omega, by omega, g⟩ rfl rfl

def spTree (K : W.Frag) (n : Nat) : Sp := fun vs H Q _ => ∃ (a tp : Addr) (ns : List Int) (k : Int) (room deep : Nat), vs = [.ref a, .ref tp, .int (room : Nat), .int (deep : Nat)] ∧ Scr K H a tp ns ∧ H tp = some (.lst [.int k]) ∧ 0 ≤ k ∧ k + 40 * room ≤ 70000 ∧ 1 ≤ room ∧ room ≤ 15 ∧ 1 ≤ deep ∧ deep ≤ n ∧
  ∀ (v : V) (r : RT) (k' : Int) (H' : Hp), Bump tp k' H H' → k ≤ k' → k' ≤ k + 40 * room → TAtr tp H' v r → r.good → r.weight ≤ room → r.depth ≤ deep → Q v H'
theorem tree_ok (Tx : Tab K mg t) : ∀ n : Nat, FnOk P w K mg base CX0 (n + 5) t.f_law_tree t.d_law_tree ["_law_script", "_law_tape", "_law_room", "_law_deep"] (spTree K n) := by
  intro n
  induction n with
  | zero =>
    refine Tx.F_law_tree.ok sc_law_tree (fun vs H Q E h => ?_) (fun cdv A outer s H vs Q E hr h => ?_)
    · obtain ⟨a, tp, ns, k, room, deep, rfl, _⟩ := h
      rfl
    · obtain ⟨a, tp, ns, k, room, deep, rfl, S, hT, k0, k1, r1, r15, d1, dn, _⟩ := h
      omega
  | succ n ih =>
  refine Tx.F_law_tree.ok sc_law_tree (fun vs H Q E h => ?_) (fun cdv A outer s H vs Q E hr h => ?_)
  · obtain ⟨a, tp, ns, k, room, deep, rfl, _⟩ := h
    rfl
  obtain ⟨a, tp, ns, k, room, deep, rfl, S, hT, k0, k1, r1, r15, dd1, dn, q⟩ := h
  refine ⟨_, (pss_cons (ps_set (i := 4) sc_law_tree.nd rfl (Or.inl rfl) (pe_call (ok_law_draw Tx) (hr.mono (by omega)) rfl Tx.m_law_draw Tx.F_law_draw.kp Tx.b_law_draw .nil pass0 (pac (pv 0) (pac (pv 1) (pac pe_int pa_nil)))))
    (pss_cons (ps_if (PW.pt (pw_or (pt_cmpR op_eq (pv 2) pe_int (nomark _)) (pw_or (pt_cmpR op_eq (pv 3) pe_int (nomark _)) (pw_or1 (PW.pt (pw_and (pt_cmpR op_eq (pv 4) pe_int (nomark _)) (pw_and1 (pt_cmpR op_lt (pv 2) pe_int (nomark _)))))))))
    (pss_one (ps_ret (pe_call (ok_law_leaf Tx) (hr.mono (by omega)) rfl Tx.m_law_leaf Tx.F_law_leaf.kp Tx.b_law_leaf .nil pass0 (pac (pv 0) (pac (pv 1) pa_nil)))))
    pss_nil)
    (pss_cons (ps_if (PW.pt (pw_and (pt_cmpR op_lt (pv 4) pe_int (nomark _)) (pw_and1 (pt_cmpR op_gt (pv 2) pe_int (nomark _)))))
    (pss_cons (ps_set (i := 5) sc_law_tree.nd rfl (Or.inl rfl) (pe_op op_add pe_int (pe_call (ok_law_draw Tx) (hr.mono (by omega)) rfl Tx.m_law_draw Tx.F_law_draw.kp Tx.b_law_draw .nil pass0 (pac (pv 0) (pac (pv 1) (pac (pe_op op_sub (pv 2) pe_int) pa_nil))))))
    (pss_cons (ps_set (i := 6) sc_law_tree.nd rfl (Or.inl rfl) (pe_call ih (hr.mono (by omega)) rfl Tx.m_law_tree Tx.F_law_tree.kp Tx.b_law_tree .nil pass0 (pac (pv 0) (pac (pv 1) (pac (pv 5) (pac (pe_op op_sub (pv 3) pe_int) pa_nil))))))
    (pss_one (ps_ret (pe_tup (pac (pe_ix ix_list (pe_lst (pac pe_str (pac pe_str pa_nil))) (pe_op op_mod (pv 4) pe_int) (fun _ _ => rfl)) (pac (pv 6) (pac (pe_call ih (hr.mono (by omega)) rfl Tx.m_law_tree Tx.F_law_tree.kp Tx.b_law_tree .nil pass0 (pac (pv 0) (pac (pv 1) (pac (pe_op op_sub (pe_op op_sub (pv 2) pe_int) (pv 5)) (pac (pe_op op_sub (pv 3) pe_int) pa_nil))))) pa_nil))))))))
    pss_nil)
    (pss_cons (ps_set (i := 7) sc_law_tree.nd rfl (Or.inl rfl) (pe_call ih (hr.mono (by omega)) rfl Tx.m_law_tree Tx.F_law_tree.kp Tx.b_law_tree .nil pass0 (pac (pv 0) (pac (pv 1) (pac (pe_op op_sub (pv 2) pe_int) (pac (pe_op op_sub (pv 3) pe_int) pa_nil))))))
    (pss_cons (ps_if (pt_cmpR op_eq (pe_op op_mod (pv 4) pe_int) pe_int (nomark _))
    (pss_cons (ps_set (i := 5) sc_law_tree.nd rfl (Or.inl rfl) (pe_ix ix_list (pe_lst (pac (pe_call (ok_law_draw Tx) (hr.mono (by omega)) rfl Tx.m_law_draw Tx.F_law_draw.kp Tx.b_law_draw .nil pass0 (pac (pv 0) (pac (pv 1) (pac pe_int pa_nil)))) (pac (pe_call (ok_law_draw Tx) (hr.mono (by omega)) rfl Tx.m_law_draw Tx.F_law_draw.kp Tx.b_law_draw .nil pass0 (pac (pv 0) (pac (pv 1) (pac pe_int pa_nil)))) pa_nil))) (pe_op op_fdiv (pe_call (ok_law_draw Tx) (hr.mono (by omega)) rfl Tx.m_law_draw Tx.F_law_draw.kp Tx.b_law_draw .nil pass0 (pac (pv 0) (pac (pv 1) (pac pe_int pa_nil)))) pe_int) (fun _ _ => rfl)))
    (pss_one (ps_ret (pe_tup (pac pe_str (pac (pv 5) (pac (pe_callB (call_min2 rfl) rfl Tx.z_min b_min (pac pe_int (pac (pe_op op_add (pv 5) (pe_ix ix_list (pe_lst (pac pe_int (pac pe_int (pac pe_int (pac pe_int pa_nil))))) (pe_call (ok_law_draw Tx) (hr.mono (by omega)) rfl Tx.m_law_draw Tx.F_law_draw.kp Tx.b_law_draw .nil pass0 (pac (pv 0) (pac (pv 1) (pac pe_int pa_nil)))) (fun _ _ => rfl))) pa_nil))) (pac (pv 7) pa_nil))))))))
    pss_nil)
    (pss_one (ps_ret (pe_tup (pac pe_str (pac (pe_call (ok_law_rising Tx) (hr.mono (by omega)) rfl Tx.m_law_rising Tx.F_law_rising.kp Tx.b_law_rising .nil pass0 (pac (pv 0) (pac (pv 1) (pac pe_int (pac (pe_ix ix_list (pe_lst (pac pe_int (pac pe_int pa_nil))) (pe_op op_fdiv (pe_call (ok_law_draw Tx) (hr.mono (by omega)) rfl Tx.m_law_draw Tx.F_law_draw.kp Tx.b_law_draw .nil pass0 (pac (pv 0) (pac (pv 1) (pac pe_int pa_nil)))) pe_int) (fun _ _ => rfl)) pa_nil))))) (pac (pv 7) pa_nil))))))))))), ?_⟩
  refine ⟨_, rfl, _, rfl, a, tp, ns, k, 6, rfl, S, hT, k0, by omega, by decide, by decide, fun c H1 c0 c1 b1 => ?_⟩
  have lf : ∀ (v : V) (r : RT) (k' : Int) (H' : Hp), Bump tp k' H1 H' → k + 1 ≤ k' → k' ≤ k + 1 + 16 → TAtr tp H' v r → r.good → r.weight = 1 → r.depth = 1 → Q v H' := fun v r k' H' b u1 u2 ht g w1 w2 => q v r k' H' (b1.trans b) (by omega) (by omega) ht g (by omega) (by omega)
  refine ⟨_, rfl, rfl, _, rfl, ?_⟩
  by_cases hr1 : room = 1
  · exact itT (decide_eq_true (congrArg V.int (by omega))) (itT rfl ⟨_, rfl, _, rfl, a, tp, ns, k + 1, rfl, b1.scr S, b1.tape, by omega, by omega, lf⟩)
  refine itF (by rw [dec_int]; simp only [beq_iff_eq]; omega) ?_
  refine ⟨_, rfl, rfl, _, rfl, ?_⟩
  by_cases hd1 : deep = 1
  · exact itT (decide_eq_true (congrArg V.int (by omega))) (itT rfl ⟨_, rfl, _, rfl, a, tp, ns, k + 1, rfl, b1.scr S, b1.tape, by omega, by omega, lf⟩)
  refine itF (by rw [dec_int]; simp only [beq_iff_eq]; omega) ?_
  refine ⟨_, rfl, rfl, _, rfl, ?_⟩
  rcases (show (c = 0 ∧ room < 6) ∨ (c = 0 ∧ ¬ room < 6) ∨ c ≠ 0 by omega) with ⟨h0, h6⟩ | ⟨h0, h6⟩ | h0
  · refine itT (decide_eq_true (congrArg V.int h0)) ⟨_, rfl, _, _, rfl, rfl, _, rfl, ?_⟩
    exact itT (decide_eq_true (by omega)) ⟨_, rfl, _, rfl, a, tp, ns, k + 1, rfl, b1.scr S, b1.tape, by omega, by omega, lf⟩
  all_goals first
    | refine itT (decide_eq_true (congrArg V.int h0)) ⟨_, rfl, _, _, rfl, rfl, _, rfl, itF (by rw [decide_eq_false (by omega)]; decide) ?_⟩
    | refine itF (by rw [dec_int]; simpa using h0) (itF (by decide) ?_)
  all_goals
    clear h0
    rcases (show (c < 3 ∧ 2 < room) ∨ (c < 3 ∧ ¬ 2 < room) ∨ ¬ c < 3 by omega) with ⟨h3, h2⟩ | ⟨h3, h2⟩ | h3
    · refine ⟨_, rfl, _, _, rfl, rfl, _, rfl, itT (decide_eq_true h3) ⟨_, rfl, _, _, rfl, rfl, _, rfl, itT (decide_eq_true (by omega)) ?_⟩⟩
      refine ⟨_, rfl, _, rfl, _, rfl, _, _, rfl, rfl, a, tp, ns, k + 1, _, rfl, b1.scr S, b1.tape, by omega, by omega, by omega, by omega, fun d H2 d0 d1 b2 => ⟨_, _, rfl, rfl, ?_⟩⟩
      have B2 := b1.trans b2
      obtain ⟨f, ef⟩ : ∃ f : Nat, 1 + d = ((f : Nat) : Int) := ⟨(1 + d).toNat, by omega⟩
      refine ⟨_, rfl, _, rfl, _, rfl, _, rfl, _, _, rfl, rfl, a, tp, ns, k + 1 + 1, f, deep - 1, eq4 ef (by omega), B2.scr S, B2.tape, by omega, by omega, by omega, by omega, by omega, by omega, fun v1 r1 k1' H3 b3 u1 u2 t1 g1 w1 e1 => ?_⟩
      have B3 := B2.trans b3
      refine ⟨by show 2 ≤ sizeLine; decide, fun p hp => ?_⟩
      have sp := same_new hp (.lst [.str (Str.ofString "either"), .str (Str.ofString "both")])
      have B3' := B3.same sp
      have hx := at2 (x := .str (Str.ofString "either")) (y := .str (Str.ofString "both")) (d := c % 2) (Int.emod_nonneg _ (by decide)) (Int.emod_lt_of_pos _ (by decide))
      obtain ⟨wv, ew, ww⟩ : ∃ (wv : V), atI [V.str (Str.ofString "either"), .str (Str.ofString "both")] (c % 2) = some wv ∧ (wv = .str (Str.ofString "either") ∨ wv = .str (Str.ofString "both")) := by
        rcases hx with hx | hx
        · exact ⟨_, hx, .inl rfl⟩
        · exact ⟨_, hx, .inr rfl⟩
      refine ⟨_, rfl, _, _, rfl, rfl, (by show (0 : Int) < 2; decide), p, _, _, wv, rfl, rfl, SqL.of upd_same, ew, _, rfl, ?_⟩
      refine ⟨_, rfl, _, rfl, _, rfl, _, _, rfl, rfl, _, rfl, _, _, rfl, rfl, _, rfl, _, _, rfl, rfl, a, tp, ns, k1', room - 1 - f, deep - 1, eq4 (by omega) (by omega), B3'.scr S, B3'.tape, by omega, by omega, by omega, by omega, by omega, by omega, fun v2 r2 k2' H4 b4 u3 u4 t2 g2 w2 e2 => ?_⟩
      refine ⟨by show 3 ≤ sizeLine; decide, fun p2 hp2 => ?_⟩
      have s2 := same_new hp2 (.tup [wv, v1, v2])
      have T1 := ((t1.same sp).bump B3'.tape b4).same s2
      have T2 := t2.same s2
      have B5 := (B3'.trans b4).same s2
      rcases ww with rfl | rfl
      · have ed : (RT.either r1 r2).depth = 1 + max r1.depth r2.depth := rfl
        have ew2 : (RT.either r1 r2).weight = 1 + (r1.weight + r2.weight) := rfl
        exact q _ (.either r1 r2) _ _ B5 (by omega) (by omega) (.either upd_same T1 T2) ⟨g1, g2⟩ (by omega) (by omega)
      · have ed : (RT.both r1 r2).depth = 1 + max r1.depth r2.depth := rfl
        have ew2 : (RT.both r1 r2).weight = 1 + (r1.weight + r2.weight) := rfl
        exact q _ (.both r1 r2) _ _ B5 (by omega) (by omega) (.both upd_same T1 T2) ⟨g1, g2⟩ (by omega) (by omega)
    all_goals first
      | refine ⟨_, rfl, _, _, rfl, rfl, _, rfl, itT (decide_eq_true h3) ⟨_, rfl, _, _, rfl, rfl, _, rfl, itF (by rw [decide_eq_false (by omega)]; decide) ?_⟩⟩
      | refine ⟨_, rfl, _, _, rfl, rfl, _, rfl, itF (by rw [decide_eq_false h3]; decide) (itF (by decide) ?_)⟩
    all_goals
      refine ⟨_, rfl, _, rfl, _, rfl, _, _, rfl, rfl, _, rfl, _, _, rfl, rfl, a, tp, ns, k + 1, room - 1, deep - 1, eq4 (by omega) (by omega), b1.scr S, b1.tape, by omega, by omega, by omega, by omega, by omega, by omega, fun v1 r1 k1' H2 b2 u1 u2 t1 g1 w1 e1 => ?_⟩
      have B2 := b1.trans b2
      refine ⟨_, rfl, _, _, rfl, rfl, (by show (0 : Int) < 2; decide), rfl, _, rfl, ite2 (fun _ => ?_) (fun _ => ?_)⟩
      · refine ⟨_, rfl, _, rfl, a, tp, ns, k1', 40, rfl, B2.scr S, B2.tape, by omega, by omega, by decide, by decide, fun x1 H3 x10 x11 b3 => ?_⟩
        have B3 := B2.trans b3
        refine ⟨_, rfl, _, rfl, a, tp, ns, k1' + 1, 10000, rfl, B3.scr S, B3.tape, by omega, by omega, by decide, by decide, fun x2 H4 x20 x21 b4 => ⟨by show 2 ≤ sizeLine; decide, fun p hp => ?_⟩⟩
        have B4 := B3.trans b4
        have sp := same_new hp (.lst [.int x1, .int x2])
        have B4' := B4.same sp
        have np : p ≠ tp := ne_tp B4.tape hp
        refine ⟨_, rfl, _, rfl, a, tp, ns, k1' + 1 + 1, 3, rfl, B4'.scr S, B4'.tape, by omega, by omega, by decide, by decide, fun x3 H5 x30 x31 b5 => ⟨_, _, rfl, rfl, ⟨by decide, by decide⟩, ?_⟩⟩
        have B5 := B4'.trans b5
        obtain ⟨vf, ef, f, rfl, hf⟩ := at_all (p := fun v => ∃ n : Nat, v = V.int (n : Nat) ∧ n ≤ 9999) (xs := [.int x1, .int x2]) (d := x3 / 2) (fun v hv => by
          simp only [List.mem_cons, List.not_mem_nil, or_false] at hv
          rcases hv with rfl | rfl
          · exact ⟨x1.toNat, congrArg V.int (by omega), by omega⟩
          · exact ⟨x2.toNat, congrArg V.int (by omega), by omega⟩) (by omega) (by show x3 / 2 < 2; omega)
        refine ⟨p, _, _, _, rfl, rfl, SqL.of (b5.keep _ _ np upd_same), ef, ?_⟩
        refine ⟨_, rfl, _, rfl, by show 4 ≤ sizeLine; decide, fun p2 hp2 => ?_⟩
        have sp2 := same_new hp2 (.lst [.int 0, .int 6, .int 30, .int 9999])
        have B5' := B5.same sp2
        have np2 : p2 ≠ tp := ne_tp B5.tape hp2
        refine ⟨_, rfl, _, rfl, a, tp, ns, k1' + 1 + 1 + 1, 4, rfl, B5'.scr S, B5'.tape, by omega, by omega, by decide, by decide, fun x4 H6 x40 x41 b6 => ?_⟩
        have B6 := B5'.trans b6
        obtain ⟨vg, eg, g, rfl, hg⟩ := at_all (p := fun v => ∃ n : Nat, v = V.int (n : Nat) ∧ n ≤ 9999) (xs := [.int 0, .int 6, .int 30, .int 9999]) (d := x4) (fun v hv => by
          simp only [List.mem_cons, List.not_mem_nil, or_false] at hv
          rcases hv with rfl | rfl | rfl | rfl
          · exact ⟨0, rfl, by decide⟩
          · exact ⟨6, rfl, by decide⟩
          · exact ⟨30, rfl, by decide⟩
          · exact ⟨9999, rfl, by decide⟩) x40 (by show x4 < 4; omega)
        refine ⟨p2, _, _, _, rfl, rfl, SqL.of (b6.keep _ _ np2 upd_same), eg, _, _, rfl, rfl, _, _, rfl, _, rfl, by show 4 ≤ sizeLine; decide, fun p3 hp3 => ?_⟩
        obtain ⟨y, ey, hy1, hy2⟩ : ∃ y : Nat, (if ((f : Nat) : Int) + ((g : Nat) : Int) < 9999 then ((f : Nat) : Int) + ((g : Nat) : Int) else (9999 : Int)) = ((y : Nat) : Int) ∧ f ≤ y ∧ y ≤ 9999 := by
          by_cases z : ((f : Nat) : Int) + ((g : Nat) : Int) < 9999
          · exact ⟨f + g, by rw [if_pos z]; omega, by omega, by omega⟩
          · exact ⟨9999, by rw [if_neg z]; rfl, by omega, by omega⟩
        have s3 := same_new hp3 (.tup [.str (Str.ofString "span"), .int (f : Nat), .int (if ((f : Nat) : Int) + ((g : Nat) : Int) < 9999 then ((f : Nat) : Int) + ((g : Nat) : Int) else (9999 : Int)), v1])
        have T1 := ((((((t1.bump B2.tape b3).bump B3.tape b4).same sp).bump B4'.tape b5).same sp2).bump B5'.tape b6).same s3
        have ed : (RT.span f y r1).depth = 1 + r1.depth := rfl
        have ew2 : (RT.span f y r1).weight = 1 + r1.weight := rfl
        have at3 : upd H6 p3 (.tup [.str (Str.ofString "span"), .int (f : Nat), .int (if ((f : Nat) : Int) + ((g : Nat) : Int) < 9999 then ((f : Nat) : Int) + ((g : Nat) : Int) else (9999 : Int)), v1]) p3 = some (.tup [.str (Str.ofString "span"), .int (f : Nat), .int (y : Nat), v1]) := by rw [upd_same, ey]
        exact q _ (.span f y r1) _ _ (B6.same s3) (by omega) (by omega) (.span at3 T1) ⟨hy1, hy2, g1⟩ (by omega) (by omega)
      · refine ⟨_, rfl, _, rfl, by show 2 ≤ sizeLine; decide, fun p hp => ?_⟩
        have sp := same_new hp (.lst [.int 40, .int 9999])
        have B2' := B2.same sp
        have np : p ≠ tp := ne_tp B2.tape hp
        refine ⟨_, rfl, _, rfl, a, tp, ns, k1', 3, rfl, B2'.scr S, B2'.tape, by omega, by omega, by decide, by decide, fun x3 H3 x30 x31 b3 => ⟨_, _, rfl, rfl, ⟨by decide, by decide⟩, ?_⟩⟩
        have B3 := B2'.trans b3
        obtain ⟨vf, ef, f, rfl, hf⟩ := at_all (p := fun v => ∃ n : Nat, v = V.int (n : Nat) ∧ n ≤ 9999) (xs := [.int 40, .int 9999]) (d := x3 / 2) (fun v hv => by
          simp only [List.mem_cons, List.not_mem_nil, or_false] at hv
          rcases hv with rfl | rfl
          · exact ⟨40, rfl, by decide⟩
          · exact ⟨9999, rfl, by decide⟩) (by omega) (by show x3 / 2 < 2; omega)
        refine ⟨p, _, _, _, rfl, rfl, SqL.of (b3.keep _ _ np upd_same), ef, a, tp, ns, k1' + 1, 0, f, rfl, B3.scr S, B3.tape, by omega, by omega, by omega, hf, fun l zs k2 H4 b4 u3 u4 hl hne g => ?_⟩
        refine ⟨_, rfl, by show 3 ≤ sizeLine; decide, fun p3 hp3 => ?_⟩
        have s3 := same_new hp3 (.tup [.str (Str.ofString "but"), .ref l, v1])
        have T1 := (((t1.same sp).bump B2'.tape b3).bump B3.tape b4).same s3
        have ed : (RT.but zs r1).depth = 1 + r1.depth := rfl
        have ew2 : (RT.but zs r1).weight = 1 + r1.weight := rfl
        exact q _ (.but zs r1) _ _ ((B3.trans b4).same s3) (by omega) (by omega) (.but upd_same (s3 _ _ hl) hne T1) ⟨⟨g.one, g.few, g.up, fun y hy => ⟨Nat.zero_le _, Nat.le_trans (g.all y hy).2 hf⟩⟩, g1⟩ (by omega) (by omega)

def spMade (c : RC) (K : W.Frag) (n : Nat) : Sp := fun vs H Q _ => ∃ (tp : Addr) (v : V) (r : RT), vs = [v] ∧ TAtr tp H v r ∧ r.good ∧ r.weight ≤ 15 ∧ r.depth ≤ 8 ∧ r.depth ≤ n ∧ ∀ b H', Same H H' → RAt c K H' b r → Q (.ref b) H'
theorem made_ok (Tx : Tab K mg t) : ∀ n : Nat, FnOk P w K mg base CX0 (n + 42) t.f_law_made t.d_law_made ["_law_tree_here"] (spMade (rc t) K n) := by
  intro n
  induction n with
  | zero =>
    refine Tx.F_law_made.ok sc_law_made (fun vs H Q E h => ?_) (fun cdv A outer s H vs Q E hr h => ?_)
    · obtain ⟨tp, v, r, rfl, _⟩ := h
      rfl
    · obtain ⟨tp, v, r, rfl, h, g, hw, h8, hd, _⟩ := h
      have := r.depth_pos
      omega
  | succ n ih =>
  refine Tx.F_law_made.ok sc_law_made (fun vs H Q E h => ?_) (fun cdv A outer s H vs Q E hr h => ?_)
  · obtain ⟨tp, v, r, rfl, _⟩ := h
    rfl
  obtain ⟨tp, v, r, rfl, h, g, hw, h8, hd, q⟩ := h
  refine ⟨_, (pss_cons (ps_if (pt_cmpR op_eq (pe_ix ix_tup (pv 0) pe_int (fun _ _ => rfl)) pe_str (nomark _))
    (pss_one (ps_ret (pe_makeN Tx.mkn_Rule rfl Tx.m_Rule)))
    pss_nil)
    (pss_cons (ps_if (pt_cmpR op_eq (pe_ix ix_tup (pv 0) pe_int (fun _ _ => rfl)) pe_str (nomark _))
    (pss_one (ps_ret (pe_make Tx.mk_Week (ini_Week Tx) (hr.mono (by omega)) rfl Tx.m_Week Tx.b_Week_init .nil pass0 (pac (pe_ix ix_tup (pv 0) pe_int (fun _ _ => rfl)) pa_nil))))
    pss_nil)
    (pss_cons (ps_if (pt_cmpR op_eq (pe_ix ix_tup (pv 0) pe_int (fun _ _ => rfl)) pe_str (nomark _))
    (pss_one (ps_ret (pe_make Tx.mk_Each (ini_Each Tx) (hr.mono (by omega)) rfl Tx.m_Each Tx.b_Each_init .nil pass0 (pac (pe_ix ix_tup (pv 0) pe_int (fun _ _ => rfl)) (pac (pe_callTy call_list_of rfl Tx.z_list b_list (pac (pe_ix ix_tup (pv 0) pe_int (fun _ _ => rfl)) pa_nil)) pa_nil)))))
    pss_nil)
    (pss_cons (ps_if (pt_cmpR op_eq (pe_ix ix_tup (pv 0) pe_int (fun _ _ => rfl)) pe_str (nomark _))
    (pss_one (ps_ret (pe_make Tx.mk_Span (ini_Span Tx) (hr.mono (by omega)) rfl Tx.m_Span Tx.b_Span_init .nil pass0 (pac (pe_ix ix_tup (pv 0) pe_int (fun _ _ => rfl)) (pac (pe_ix ix_tup (pv 0) pe_int (fun _ _ => rfl)) (pac (pe_call ih (hr.mono (by omega)) rfl Tx.m_law_made Tx.F_law_made.kp Tx.b_law_made .nil pass0 (pac (pe_ix ix_tup (pv 0) pe_int (fun _ _ => rfl)) pa_nil)) pa_nil))))))
    pss_nil)
    (pss_cons (ps_if (pt_cmpR op_eq (pe_ix ix_tup (pv 0) pe_int (fun _ _ => rfl)) pe_str (nomark _))
    (pss_one (ps_ret (pe_make Tx.mk_But (ini_But Tx) (hr.mono (by omega)) rfl Tx.m_But Tx.b_But_init .nil pass0 (pac (pe_callTy call_list_of rfl Tx.z_list b_list (pac (pe_ix ix_tup (pv 0) pe_int (fun _ _ => rfl)) pa_nil)) (pac (pe_call ih (hr.mono (by omega)) rfl Tx.m_law_made Tx.F_law_made.kp Tx.b_law_made .nil pass0 (pac (pe_ix ix_tup (pv 0) pe_int (fun _ _ => rfl)) pa_nil)) pa_nil)))))
    pss_nil)
    (pss_cons (ps_if (pt_cmpR op_eq (pe_ix ix_tup (pv 0) pe_int (fun _ _ => rfl)) pe_str (nomark _))
    (pss_one (ps_ret (pe_make Tx.mk_Either (ini_Either Tx) (hr.mono (by omega)) rfl Tx.m_Either Tx.b_Either_init .nil pass0 (pac (pe_call ih (hr.mono (by omega)) rfl Tx.m_law_made Tx.F_law_made.kp Tx.b_law_made .nil pass0 (pac (pe_ix ix_tup (pv 0) pe_int (fun _ _ => rfl)) pa_nil)) (pac (pe_call ih (hr.mono (by omega)) rfl Tx.m_law_made Tx.F_law_made.kp Tx.b_law_made .nil pass0 (pac (pe_ix ix_tup (pv 0) pe_int (fun _ _ => rfl)) pa_nil)) pa_nil)))))
    pss_nil)
    (pss_one (ps_ret (pe_make Tx.mk_Both (ini_Both Tx) (hr.mono (by omega)) rfl Tx.m_Both Tx.b_Both_init .nil pass0 (pac (pe_call ih (hr.mono (by omega)) rfl Tx.m_law_made Tx.F_law_made.kp Tx.b_law_made .nil pass0 (pac (pe_ix ix_tup (pv 0) pe_int (fun _ _ => rfl)) pa_nil)) (pac (pe_call ih (hr.mono (by omega)) rfl Tx.m_law_made Tx.F_law_made.kp Tx.b_law_made .nil pass0 (pac (pe_ix ix_tup (pv 0) pe_int (fun _ _ => rfl)) pa_nil)) pa_nil))))))))))), ?_⟩
  cases h with
  | always h =>
    refine ⟨_, rfl, _, _, 0, _, rfl, rfl, SqT.of h, rfl, rfl, _, rfl, itT (by decide +kernel) ?_⟩
    exact fun x dx nx nd nex => q x _ (same_upd nx (same_upd nd (Same.refl _) _) _) (.always upd_same)
  | week h =>
    refine ⟨_, rfl, _, _, 0, _, rfl, rfl, SqT.of h, rfl, rfl, _, rfl, itF (by decide +kernel) ?_⟩
    refine ⟨_, rfl, _, _, 0, _, rfl, rfl, SqT.of h, rfl, rfl, _, rfl, itT (by decide +kernel) ?_⟩
    exact ⟨_, rfl, _, _, 1, _, rfl, rfl, SqT.of h, rfl, fun x dx nx nd nex => ⟨x, H, _, rfl, made_new nx nd, g, fun H' s' h' => ⟨rfl, q x H' s' (h'.same (dif_sub _ _))⟩⟩⟩
  | each h hl ne =>
    rename_i a l m ss
    refine ⟨_, rfl, _, _, 0, _, rfl, rfl, SqT.of h, rfl, rfl, _, rfl, itF (by decide +kernel) ?_⟩
    refine ⟨_, rfl, _, _, 0, _, rfl, rfl, SqT.of h, rfl, rfl, _, rfl, itF (by decide +kernel) ?_⟩
    refine ⟨_, rfl, _, _, 0, _, rfl, rfl, SqT.of h, rfl, rfl, _, rfl, itT (by decide +kernel) ?_⟩
    refine ⟨_, rfl, _, _, 1, _, rfl, rfl, SqT.of h, rfl, _, rfl, _, _, 2, _, rfl, rfl, SqT.of h, rfl, l, _, rfl, .inl (SqL.of hl), fun p hp x dx nx nd nex => ?_⟩
    have s1 := same_new hp (.lst (natV ss))
    exact ⟨x, p, _, _, _, rfl, made_new nx nd, upd_same, g, fun H' s' h' => ⟨rfl, q x H' (s1.trans s') (h'.same (dif_sub _ _))⟩⟩
  | span h hv =>
    rename_i a x0 y0 v r
    have ed : (RT.span x0 y0 r).depth = 1 + r.depth := rfl
    have ew : (RT.span x0 y0 r).weight = 1 + r.weight := rfl
    refine ⟨_, rfl, _, _, 0, _, rfl, rfl, SqT.of h, rfl, rfl, _, rfl, itF (by decide +kernel) ?_⟩
    refine ⟨_, rfl, _, _, 0, _, rfl, rfl, SqT.of h, rfl, rfl, _, rfl, itF (by decide +kernel) ?_⟩
    refine ⟨_, rfl, _, _, 0, _, rfl, rfl, SqT.of h, rfl, rfl, _, rfl, itF (by decide +kernel) ?_⟩
    refine ⟨_, rfl, _, _, 0, _, rfl, rfl, SqT.of h, rfl, rfl, _, rfl, itT (by decide +kernel) ?_⟩
    refine ⟨_, rfl, _, _, 1, _, rfl, rfl, SqT.of h, rfl, _, rfl, _, _, 2, _, rfl, rfl, SqT.of h, rfl, _, rfl, _, _, 3, _, rfl, rfl, SqT.of h, rfl, tp, v, r, rfl, hv, g.2.2, by omega, by omega, by omega, fun b H1 s1 h1 => ?_⟩
    exact fun x dx nx nd nex => ⟨x, b, H1, x0, y0, r, rfl, made_new nx nd, h1, g, hw, h8, by omega, fun H' s' h' => ⟨rfl, q x H' (s1.trans s') (h'.same (dif_sub _ _))⟩⟩
  | but h hl ne hv =>
    rename_i a l ds v r
    have ed : (RT.but ds r).depth = 1 + r.depth := rfl
    have ew : (RT.but ds r).weight = 1 + r.weight := rfl
    refine ⟨_, rfl, _, _, 0, _, rfl, rfl, SqT.of h, rfl, rfl, _, rfl, itF (by decide +kernel) ?_⟩
    refine ⟨_, rfl, _, _, 0, _, rfl, rfl, SqT.of h, rfl, rfl, _, rfl, itF (by decide +kernel) ?_⟩
    refine ⟨_, rfl, _, _, 0, _, rfl, rfl, SqT.of h, rfl, rfl, _, rfl, itF (by decide +kernel) ?_⟩
    refine ⟨_, rfl, _, _, 0, _, rfl, rfl, SqT.of h, rfl, rfl, _, rfl, itF (by decide +kernel) ?_⟩
    refine ⟨_, rfl, _, _, 0, _, rfl, rfl, SqT.of h, rfl, rfl, _, rfl, itT (by decide +kernel) ?_⟩
    refine ⟨_, rfl, _, _, 1, _, rfl, rfl, SqT.of h, rfl, l, _, rfl, .inl (SqL.of hl), fun p hp => ?_⟩
    have s1 := same_new hp (.lst (natV ds))
    have h1 := s1 _ _ h
    refine ⟨_, rfl, _, _, 2, _, rfl, rfl, SqT.of h1, rfl, tp, v, r, rfl, hv.same s1, g.2, by omega, by omega, by omega, fun b H2 s2 h2 => ?_⟩
    exact fun x dx nx nd nex => ⟨x, p, b, H2, ds, r, rfl, made_new nx nd, s2 _ _ upd_same, h2, g, hw, h8, by omega, fun H' s' h' => ⟨rfl, q x H' ((s1.trans s2).trans s') (h'.same (dif_sub _ _))⟩⟩
  | either h hv hu =>
    rename_i a v u r r2
    have ed : (RT.either r r2).depth = 1 + max r.depth r2.depth := rfl
    have ew : (RT.either r r2).weight = 1 + (r.weight + r2.weight) := rfl
    refine ⟨_, rfl, _, _, 0, _, rfl, rfl, SqT.of h, rfl, rfl, _, rfl, itF (by decide +kernel) ?_⟩
    refine ⟨_, rfl, _, _, 0, _, rfl, rfl, SqT.of h, rfl, rfl, _, rfl, itF (by decide +kernel) ?_⟩
    refine ⟨_, rfl, _, _, 0, _, rfl, rfl, SqT.of h, rfl, rfl, _, rfl, itF (by decide +kernel) ?_⟩
    refine ⟨_, rfl, _, _, 0, _, rfl, rfl, SqT.of h, rfl, rfl, _, rfl, itF (by decide +kernel) ?_⟩
    refine ⟨_, rfl, _, _, 0, _, rfl, rfl, SqT.of h, rfl, rfl, _, rfl, itF (by decide +kernel) ?_⟩
    refine ⟨_, rfl, _, _, 0, _, rfl, rfl, SqT.of h, rfl, rfl, _, rfl, itT (by decide +kernel) ?_⟩
    refine ⟨_, rfl, _, _, 1, _, rfl, rfl, SqT.of h, rfl, tp, v, r, rfl, hv, g.1, by omega, by omega, by omega, fun b H1 s1 h1 => ?_⟩
    have h2 := s1 _ _ h
    refine ⟨_, rfl, _, _, 2, _, rfl, rfl, SqT.of h2, rfl, tp, u, r2, rfl, hu.same s1, g.2, by omega, by omega, by omega, fun c H2 s2 h3 => ?_⟩
    exact fun x dx nx nd nex => ⟨x, b, c, H2, r, r2, rfl, made_new nx nd, h1.same s2, h3, g, hw, h8, by omega, by omega, fun H' s' h' => ⟨rfl, q x H' ((s1.trans s2).trans s') (h'.same (dif_sub _ _))⟩⟩
  | both h hv hu =>
    rename_i a v u r r2
    have ed : (RT.both r r2).depth = 1 + max r.depth r2.depth := rfl
    have ew : (RT.both r r2).weight = 1 + (r.weight + r2.weight) := rfl
    refine ⟨_, rfl, _, _, 0, _, rfl, rfl, SqT.of h, rfl, rfl, _, rfl, itF (by decide +kernel) ?_⟩
    refine ⟨_, rfl, _, _, 0, _, rfl, rfl, SqT.of h, rfl, rfl, _, rfl, itF (by decide +kernel) ?_⟩
    refine ⟨_, rfl, _, _, 0, _, rfl, rfl, SqT.of h, rfl, rfl, _, rfl, itF (by decide +kernel) ?_⟩
    refine ⟨_, rfl, _, _, 0, _, rfl, rfl, SqT.of h, rfl, rfl, _, rfl, itF (by decide +kernel) ?_⟩
    refine ⟨_, rfl, _, _, 0, _, rfl, rfl, SqT.of h, rfl, rfl, _, rfl, itF (by decide +kernel) ?_⟩
    refine ⟨_, rfl, _, _, 0, _, rfl, rfl, SqT.of h, rfl, rfl, _, rfl, itF (by decide +kernel) ?_⟩
    refine ⟨_, rfl, _, _, 1, _, rfl, rfl, SqT.of h, rfl, tp, v, r, rfl, hv, g.1, by omega, by omega, by omega, fun b H1 s1 h1 => ?_⟩
    have h2 := s1 _ _ h
    refine ⟨_, rfl, _, _, 2, _, rfl, rfl, SqT.of h2, rfl, tp, u, r2, rfl, hu.same s1, g.2, by omega, by omega, by omega, fun c H2 s2 h3 => ?_⟩
    exact fun x dx nx nd nex => ⟨x, b, c, H2, r, r2, rfl, made_new nx nd, h1.same s2, h3, g, hw, h8, by omega, by omega, fun H' s' h' => ⟨rfl, q x H' ((s1.trans s2).trans s') (h'.same (dif_sub _ _))⟩⟩

def spLRuns (n : Nat) : Sp := fun vs H Q _ => ∃ (tp : Addr) (v : V) (r : RT) (d : Nat), vs = [v, .int (d : Nat)] ∧ TAtr tp H v r ∧ r.good ∧ r.depth ≤ n ∧ ∀ H', Same H H' → Q (.bl (r.runs d)) H'
theorem lruns_ok (Tx : Tab K mg t) : ∀ n : Nat, FnOk P w K mg base CX0 (n + 1) t.f_law_runs t.d_law_runs ["_law_tree_here", "_law_day"] (spLRuns n) := by
  intro n
  induction n with
  | zero =>
    refine Tx.F_law_runs.ok sc_law_runs (fun vs H Q E h => ?_) (fun cdv A outer s H vs Q E hr h => ?_)
    · obtain ⟨tp, v, r, d, rfl, _⟩ := h
      rfl
    · obtain ⟨tp, v, r, d, rfl, h, g, hd, _⟩ := h
      have := r.depth_pos
      omega
  | succ n ih =>
  refine Tx.F_law_runs.ok sc_law_runs (fun vs H Q E h => ?_) (fun cdv A outer s H vs Q E hr h => ?_)
  · obtain ⟨tp, v, r, d, rfl, _⟩ := h
    rfl
  obtain ⟨tp, v, r, d, rfl, h, g, hd, q⟩ := h
  refine ⟨_, (pss_cons (ps_if (pt_cmpR op_eq (pe_ix ix_tup (pv 0) pe_int (fun _ _ => rfl)) pe_str (nomark _))
    (pss_cons (ps_set (i := 2) sc_law_runs.nd rfl (Or.inl rfl) (pe_ix ix_tup (pv 0) pe_int (fun _ _ => rfl)))
    (pss_cons (ps_for PassesOwn.never rfl (pi_range1 rfl Tx.z_range (pac (pe_op op_mod (pv 1) pe_int) pa_nil)) (pg_name (i := 3) sc_law_runs.nd rfl (Or.inl rfl))
    (pss_one (ps_set (i := 2) sc_law_runs.nd rfl (Or.inl rfl) (pe_op op_fdiv (pv 2) pe_int))))
    (pss_one (ps_ret (pe_cmpR op_eq (pe_op op_mod (pv 2) pe_int) pe_int (nomark _))))))
    pss_nil)
    (pss_cons (ps_if (pt_cmpR op_eq (pe_ix ix_tup (pv 0) pe_int (fun _ _ => rfl)) pe_str (nomark _))
    (pss_one (ps_ret (pe_cmpR op_in_seq (pe_op op_sub (pv 1) (pe_op op_mul (pe_op op_fdiv (pv 1) (pe_ix ix_tup (pv 0) pe_int (fun _ _ => rfl))) (pe_ix ix_tup (pv 0) pe_int (fun _ _ => rfl)))) (pe_ix ix_tup (pv 0) pe_int (fun _ _ => rfl)) rfl)))
    pss_nil)
    (pss_cons (ps_if (pt_cmpR op_eq (pe_ix ix_tup (pv 0) pe_int (fun _ _ => rfl)) pe_str (nomark _))
    (pss_one (ps_ret (pe_and (pe_cmpR op_ge (pv 1) (pe_ix ix_tup (pv 0) pe_int (fun _ _ => rfl)) (nomark _)) (pe_and (pe_cmpR op_le (pv 1) (pe_ix ix_tup (pv 0) pe_int (fun _ _ => rfl)) (nomark _)) (pe_one (pe_call ih (hr.mono (by omega)) rfl Tx.m_law_runs Tx.F_law_runs.kp Tx.b_law_runs .nil pass0 (pac (pe_ix ix_tup (pv 0) pe_int (fun _ _ => rfl)) (pac (pv 1) pa_nil))))))))
    pss_nil)
    (pss_cons (ps_if (pt_cmpR op_eq (pe_ix ix_tup (pv 0) pe_int (fun _ _ => rfl)) pe_str (nomark _))
    (pss_one (ps_ret (pe_cmpR op_ne (pe_call ih (hr.mono (by omega)) rfl Tx.m_law_runs Tx.F_law_runs.kp Tx.b_law_runs .nil pass0 (pac (pe_ix ix_tup (pv 0) pe_int (fun _ _ => rfl)) (pac (pv 1) pa_nil))) (pe_cmpR op_in_seq (pv 1) (pe_ix ix_tup (pv 0) pe_int (fun _ _ => rfl)) rfl) (nomark _))))
    pss_nil)
    (pss_cons (ps_if (pt_cmpR op_eq (pe_ix ix_tup (pv 0) pe_int (fun _ _ => rfl)) pe_str (nomark _))
    (pss_one (ps_ret (pe_cmpR op_in_seq pe_bl (pe_lst (pac (pe_call ih (hr.mono (by omega)) rfl Tx.m_law_runs Tx.F_law_runs.kp Tx.b_law_runs .nil pass0 (pac (pe_ix ix_tup (pv 0) pe_int (fun _ _ => rfl)) (pac (pv 1) pa_nil))) (pac (pe_call ih (hr.mono (by omega)) rfl Tx.m_law_runs Tx.F_law_runs.kp Tx.b_law_runs .nil pass0 (pac (pe_ix ix_tup (pv 0) pe_int (fun _ _ => rfl)) (pac (pv 1) pa_nil))) pa_nil))) rfl)))
    pss_nil)
    (pss_cons (ps_if (pt_cmpR op_eq (pe_ix ix_tup (pv 0) pe_int (fun _ _ => rfl)) pe_str (nomark _))
    (pss_one (ps_ret (pe_cmpR op_notIn_seq pe_bl (pe_lst (pac (pe_call ih (hr.mono (by omega)) rfl Tx.m_law_runs Tx.F_law_runs.kp Tx.b_law_runs .nil pass0 (pac (pe_ix ix_tup (pv 0) pe_int (fun _ _ => rfl)) (pac (pv 1) pa_nil))) (pac (pe_call ih (hr.mono (by omega)) rfl Tx.m_law_runs Tx.F_law_runs.kp Tx.b_law_runs .nil pass0 (pac (pe_ix ix_tup (pv 0) pe_int (fun _ _ => rfl)) (pac (pv 1) pa_nil))) pa_nil))) rfl)))
    pss_nil)
    (pss_one (ps_ret pe_bl)))))))), ?_⟩
  cases h with
  | always h =>
    refine ⟨_, rfl, _, _, 0, _, rfl, rfl, SqT.of h, rfl, rfl, _, rfl, itF (by decide +kernel) ?_⟩
    refine ⟨_, rfl, _, _, 0, _, rfl, rfl, SqT.of h, rfl, rfl, _, rfl, itF (by decide +kernel) ?_⟩
    refine ⟨_, rfl, _, _, 0, _, rfl, rfl, SqT.of h, rfl, rfl, _, rfl, itF (by decide +kernel) ?_⟩
    refine ⟨_, rfl, _, _, 0, _, rfl, rfl, SqT.of h, rfl, rfl, _, rfl, itF (by decide +kernel) ?_⟩
    refine ⟨_, rfl, _, _, 0, _, rfl, rfl, SqT.of h, rfl, rfl, _, rfl, itF (by decide +kernel) ?_⟩
    refine ⟨_, rfl, _, _, 0, _, rfl, rfl, SqT.of h, rfl, rfl, _, rfl, itF (by decide +kernel) ?_⟩
    exact q _ (Same.refl _)
  | week h =>
    rename_i a b
    refine ⟨_, rfl, _, _, 0, _, rfl, rfl, SqT.of h, rfl, rfl, _, rfl, itT (by decide +kernel) ?_⟩
    refine ⟨_, rfl, _, _, 1, _, rfl, rfl, SqT.of h, rfl, ?_⟩
    have eN : (((d : Nat) : Int) % 7).toNat = d % 7 := by omega
    refine ⟨_, rfl, _, _, rfl, rfl, (by show (0 : Int) < 7; decide), _, rfl, (by omega), (by omega), for_range (fun i σ H' => H' = H ∧ ∃ vk, σ = [some (.ref a), some (.int (d : Nat)), some (.int ((b / 2 ^ i : Nat) : Nat)), vk]) ⟨rfl, _, by rw [Nat.pow_zero, Nat.div_one]; rfl⟩ ?_ ?_⟩
    · rintro i σ H' hi ⟨rfl, vk, rfl⟩
      refine ⟨_, rfl, _, _, rfl, rfl, ⟨by decide, by decide⟩, rfl, some (.int (0 + ((i : Nat) : Int))), ?_⟩
      have e : (((b / 2 ^ i : Nat) : Nat) : Int) / 2 = ((b / 2 ^ (i + 1) : Nat) : Int) := by
        rw [Nat.pow_succ, ← Nat.div_div_eq_div_mul]
        omega
      rw [← e]
      rfl
    · rintro σ H' ⟨rfl, vk, rfl⟩
      refine ⟨_, rfl, _, _, rfl, rfl, (by show (0 : Int) < 2; decide), rfl, ?_⟩
      have q1 := q H' (Same.refl _)
      have e : (RT.week b).runs d = decide (V.int ((((b / 2 ^ ((((d : Nat) : Int) % 7).toNat) : Nat) : Nat) : Int) % 2) = V.int 1) := by
        rw [eN, dec_int]
        show (b / 2 ^ (d % 7) % 2 == 1) = _
        rw [Bool.eq_iff_iff, beq_iff_eq, beq_iff_eq]
        omega
      rw [e] at q1
      exact q1
  | each h hl ne =>
    rename_i a l m ss
    obtain ⟨g1, g2, g3⟩ := g
    refine ⟨_, rfl, _, _, 0, _, rfl, rfl, SqT.of h, rfl, rfl, _, rfl, itF (by decide +kernel) ?_⟩
    refine ⟨_, rfl, _, _, 0, _, rfl, rfl, SqT.of h, rfl, rfl, _, rfl, itT (by decide +kernel) ?_⟩
    have e1 : ((d : Nat) : Int) - ((d : Nat) : Int) / ((m : Nat) : Int) * ((m : Nat) : Int) = ((d % m : Nat) : Int) := by
      have := Int.emod_def ((d : Nat) : Int) ((m : Nat) : Int)
      rw [Int.mul_comm] at this
      omega
    refine ⟨_, rfl, _, rfl, _, rfl, _, _, 1, _, rfl, rfl, SqT.of h, rfl, _, _, rfl, rfl, ⟨by omega, by omega⟩, _, rfl, _, _, 1, _, rfl, rfl, SqT.of h, rfl, _, _, rfl, rfl, .inr ⟨by omega, by omega⟩, _, _, rfl, rfl, _, rfl, _, _, 2, _, rfl, rfl, SqT.of h, rfl, l, _, rfl, .inl (SqL.of hl), rfl, flat_nats ss, ?_⟩
    have q1 := q H (Same.refl _)
    have e2 : inV (.int (((d : Nat) : Int) - ((d : Nat) : Int) / ((m : Nat) : Int) * ((m : Nat) : Int))) (natV ss) = (RT.each m ss).runs d := by
      rw [e1]
      exact inV_nats (d % m) ss
    rw [← e2] at q1
    exact q1
  | span h hv =>
    rename_i a x y v r
    have ed : (RT.span x y r).depth = 1 + r.depth := rfl
    have q' : ∀ b : Bool, b = (decide (x ≤ d) && decide (d ≤ y) && r.runs d) → ∀ H', Same H H' → Q (.bl b) H' := fun b e H' s' => by rw [e]; exact q H' s'
    refine ⟨_, rfl, _, _, 0, _, rfl, rfl, SqT.of h, rfl, rfl, _, rfl, itF (by decide +kernel) ?_⟩
    refine ⟨_, rfl, _, _, 0, _, rfl, rfl, SqT.of h, rfl, rfl, _, rfl, itF (by decide +kernel) ?_⟩
    refine ⟨_, rfl, _, _, 0, _, rfl, rfl, SqT.of h, rfl, rfl, _, rfl, itT (by decide +kernel) ?_⟩
    refine ⟨_, rfl, _, rfl, _, _, 1, _, rfl, rfl, SqT.of h, rfl, _, _, rfl, rfl, _, rfl, ?_⟩
    by_cases h1 : x ≤ d
    · refine itT (decide_eq_true (by omega)) ?_
      refine ⟨_, rfl, _, rfl, _, _, 2, _, rfl, rfl, SqT.of h, rfl, _, _, rfl, rfl, _, rfl, ?_⟩
      by_cases h2 : d ≤ y
      · refine itT (decide_eq_true (by omega)) ?_
        exact ⟨_, rfl, _, _, 3, _, rfl, rfl, SqT.of h, rfl, _, rfl, tp, v, r, d, rfl, hv, g.2.2, by omega, fun H' s' => q' _ (by rw [decide_eq_true h1, decide_eq_true h2]; rfl) H' s'⟩
      · refine itF (by rw [decide_eq_false (by omega)]; decide) ?_
        exact q' _ (by rw [decide_eq_false h2, Bool.and_false, Bool.false_and]) H (Same.refl _)
    · refine itF (by rw [decide_eq_false (by omega)]; decide) ?_
      exact q' _ (by rw [decide_eq_false h1, Bool.false_and, Bool.false_and]) H (Same.refl _)
  | but h hl ne hv =>
    rename_i a l ds v r
    have ed : (RT.but ds r).depth = 1 + r.depth := rfl
    refine ⟨_, rfl, _, _, 0, _, rfl, rfl, SqT.of h, rfl, rfl, _, rfl, itF (by decide +kernel) ?_⟩
    refine ⟨_, rfl, _, _, 0, _, rfl, rfl, SqT.of h, rfl, rfl, _, rfl, itF (by decide +kernel) ?_⟩
    refine ⟨_, rfl, _, _, 0, _, rfl, rfl, SqT.of h, rfl, rfl, _, rfl, itF (by decide +kernel) ?_⟩
    refine ⟨_, rfl, _, _, 0, _, rfl, rfl, SqT.of h, rfl, rfl, _, rfl, itT (by decide +kernel) ?_⟩
    refine ⟨_, rfl, _, _, 2, _, rfl, rfl, SqT.of h, rfl, _, rfl, tp, v, r, d, rfl, hv, g.2, by omega, fun H1 s1 => ?_⟩
    have h1 := s1 _ _ h
    refine ⟨_, rfl, _, rfl, _, _, 1, _, rfl, rfl, SqT.of h1, rfl, l, _, rfl, .inl (SqL.of (s1 _ _ hl)), rfl, flat_nats ds, rfl, ?_⟩
    have q1 := q H1 s1
    have e : (RT.but ds r).runs d = (!decide (V.bl (r.runs d) = V.bl (inV (.int ((d : Nat) : Int)) (natV ds)))) := by
      rw [inV_nats, dec_bl]
      rfl
    rw [e] at q1
    exact q1
  | either h hv hu =>
    rename_i a v u r r2
    have ed : (RT.either r r2).depth = 1 + max r.depth r2.depth := rfl
    refine ⟨_, rfl, _, _, 0, _, rfl, rfl, SqT.of h, rfl, rfl, _, rfl, itF (by decide +kernel) ?_⟩
    refine ⟨_, rfl, _, _, 0, _, rfl, rfl, SqT.of h, rfl, rfl, _, rfl, itF (by decide +kernel) ?_⟩
    refine ⟨_, rfl, _, _, 0, _, rfl, rfl, SqT.of h, rfl, rfl, _, rfl, itF (by decide +kernel) ?_⟩
    refine ⟨_, rfl, _, _, 0, _, rfl, rfl, SqT.of h, rfl, rfl, _, rfl, itF (by decide +kernel) ?_⟩
    refine ⟨_, rfl, _, _, 0, _, rfl, rfl, SqT.of h, rfl, rfl, _, rfl, itT (by decide +kernel) ?_⟩
    refine ⟨_, rfl, _, _, 1, _, rfl, rfl, SqT.of h, rfl, _, rfl, tp, v, r, d, rfl, hv, g.1, by omega, fun H1 s1 => ?_⟩
    have h1 := s1 _ _ h
    refine ⟨_, rfl, _, _, 2, _, rfl, rfl, SqT.of h1, rfl, _, rfl, tp, u, r2, d, rfl, hu.same s1, g.2, by omega, fun H2 s2 => ?_⟩
    refine ⟨by show 2 ≤ sizeLine; decide, fun p hp => ⟨p, _, rfl, .inl (SqL.of upd_same), rfl, rfl, ?_⟩⟩
    have q1 := q _ ((s1.trans s2).trans (same_new hp (.lst [.bl (r.runs d), .bl (r2.runs d)])))
    have e : (RT.either r r2).runs d = inV (.bl true) [.bl (r.runs d), .bl (r2.runs d)] := by
      show (r.runs d || r2.runs d) = _
      cases r.runs d <;> cases r2.runs d <;> rfl
    rw [e] at q1
    exact q1
  | both h hv hu =>
    rename_i a v u r r2
    have ed : (RT.both r r2).depth = 1 + max r.depth r2.depth := rfl
    refine ⟨_, rfl, _, _, 0, _, rfl, rfl, SqT.of h, rfl, rfl, _, rfl, itF (by decide +kernel) ?_⟩
    refine ⟨_, rfl, _, _, 0, _, rfl, rfl, SqT.of h, rfl, rfl, _, rfl, itF (by decide +kernel) ?_⟩
    refine ⟨_, rfl, _, _, 0, _, rfl, rfl, SqT.of h, rfl, rfl, _, rfl, itF (by decide +kernel) ?_⟩
    refine ⟨_, rfl, _, _, 0, _, rfl, rfl, SqT.of h, rfl, rfl, _, rfl, itF (by decide +kernel) ?_⟩
    refine ⟨_, rfl, _, _, 0, _, rfl, rfl, SqT.of h, rfl, rfl, _, rfl, itF (by decide +kernel) ?_⟩
    refine ⟨_, rfl, _, _, 0, _, rfl, rfl, SqT.of h, rfl, rfl, _, rfl, itT (by decide +kernel) ?_⟩
    refine ⟨_, rfl, _, _, 1, _, rfl, rfl, SqT.of h, rfl, _, rfl, tp, v, r, d, rfl, hv, g.1, by omega, fun H1 s1 => ?_⟩
    have h1 := s1 _ _ h
    refine ⟨_, rfl, _, _, 2, _, rfl, rfl, SqT.of h1, rfl, _, rfl, tp, u, r2, d, rfl, hu.same s1, g.2, by omega, fun H2 s2 => ?_⟩
    refine ⟨by show 2 ≤ sizeLine; decide, fun p hp => ⟨p, _, rfl, .inl (SqL.of upd_same), rfl, rfl, ?_⟩⟩
    have q1 := q _ ((s1.trans s2).trans (same_new hp (.lst [.bl (r.runs d), .bl (r2.runs d)])))
    have e : (RT.both r r2).runs d = !inV (.bl false) [.bl (r.runs d), .bl (r2.runs d)] := by
      show (r.runs d && r2.runs d) = _
      cases r.runs d <;> cases r2.runs d <;> rfl
    rw [e] at q1
    exact q1

def sgT (b : Nat) : Nat → Str
  | 0 => Str.ofString ""
  | i + 1 => sgT b i ++ bitT b i
theorem sg_all : ∀ b, b < 128 → signT b = sgT b 7 := by decide +kernel
theorem sg_len : ∀ b, b < 128 → ∀ i, i < 7 → (sgT b i).length + (bitT b i).length ≤ 1000 := by decide +kernel
theorem bit_at {b i : Nat} (hi : i < 7) : ∃ c, atI (Str.ofString "01").cps.toList (((b / 2 ^ i : Nat) : Int) % 2) = some c ∧ (⟨#[c]⟩ : Str) = bitT b i := by
  have er : (RT.week b).runs i = (b / 2 ^ i % 2 == 1) := by
    show (b / 2 ^ (i % 7) % 2 == 1) = _
    rw [Nat.mod_eq_of_lt hi]
  unfold bitT
  rw [er]
  rcases Nat.mod_two_eq_zero_or_one (b / 2 ^ i) with h | h
  · rw [h, show ((b / 2 ^ i : Nat) : Int) % 2 = 0 by omega]
    exact ⟨_, rfl, by decide +kernel⟩
  · rw [h, show ((b / 2 ^ i : Nat) : Int) % 2 = 1 by omega]
    exact ⟨_, rfl, by decide +kernel⟩
def spLWords (n : Nat) : Sp := fun vs H Q _ => ∃ (tp : Addr) (v : V) (r : RT), vs = [v] ∧ TAtr tp H v r ∧ r.good ∧ r.weight ≤ 1000 ∧ r.depth ≤ n ∧ ∀ p H', Same H H' → H p = none → H' p = some (.lst (r.words.map V.str)) → Q (.ref p) H'
theorem lwords_ok (Tx : Tab K mg t) : ∀ n : Nat, FnOk P w K mg base CX0 (n + 1) t.f_law_words t.d_law_words ["_law_tree_here"] (spLWords n) := by
  intro n
  induction n with
  | zero =>
    refine Tx.F_law_words.ok sc_law_words (fun vs H Q E h => ?_) (fun cdv A outer s H vs Q E hr h => ?_)
    · obtain ⟨tp, v, r, rfl, _⟩ := h
      rfl
    · obtain ⟨tp, v, r, rfl, h, g, hw, hd, _⟩ := h
      have := r.depth_pos
      omega
  | succ n ih =>
  refine Tx.F_law_words.ok sc_law_words (fun vs H Q E h => ?_) (fun cdv A outer s H vs Q E hr h => ?_)
  · obtain ⟨tp, v, r, rfl, _⟩ := h
    rfl
  obtain ⟨tp, v, r, rfl, h, g, hw, hd, q⟩ := h
  refine ⟨_, (pss_cons (ps_if (pt_cmpR op_eq (pe_ix ix_tup (pv 0) pe_int (fun _ _ => rfl)) pe_str (nomark _))
    (pss_cons (ps_set (i := 1) sc_law_words.nd rfl (Or.inl rfl) pe_str)
    (pss_cons (ps_set (i := 2) sc_law_words.nd rfl (Or.inl rfl) (pe_ix ix_tup (pv 0) pe_int (fun _ _ => rfl)))
    (pss_cons (ps_for PassesOwn.never rfl (pi_range1 rfl Tx.z_range (pac pe_int pa_nil)) (pg_name (i := 3) sc_law_words.nd rfl (Or.inl rfl))
    (pss_cons (ps_set (i := 1) sc_law_words.nd rfl (Or.inl rfl) (pe_op op_add_str (pv 1) (pe_ix ix_str pe_str (pe_op op_mod (pv 2) pe_int) (fun _ _ => rfl))))
    (pss_one (ps_set (i := 2) sc_law_words.nd rfl (Or.inl rfl) (pe_op op_fdiv (pv 2) pe_int)))))
    (pss_one (ps_ret (pe_lst (pac pe_str (pac (pv 1) pa_nil))))))))
    pss_nil)
    (pss_cons (ps_if (pt_cmpR op_eq (pe_ix ix_tup (pv 0) pe_int (fun _ _ => rfl)) pe_str (nomark _))
    (pss_one (ps_ret (pe_lst (pac pe_str (pac (pe_callTy call_str_int rfl Tx.z_str b_str (pac (pe_ix ix_tup (pv 0) pe_int (fun _ _ => rfl)) pa_nil)) (pac (pe_bm PySem.F.plainAttrs_str PySem.F.slot_str_join PySem.F.type_str_join mt_join pe_str (pac (pe_comp (cl := []) (N := ["_law_one"]) (fr := [none]) rfl (pi_list (pe_ix ix_tup (pv 0) pe_int (fun _ _ => rfl))) rfl (by decide +kernel) rfl (by decide +kernel) trivial trivial rfl (fun _ _ _ _ _ => (pg_name (i := 0) (show List.Nodup (["_law_one"] : List Str) by decide +kernel) rfl (Or.inl rfl))) (fun _ _ _ _ _ => pts_nil) (fun _ _ _ _ _ => (pe_callTy call_str_int rfl Tx.z_str b_str (pac (pv 0) pa_nil)))) pa_nil)) pa_nil))))))
    pss_nil)
    (pss_cons (ps_if (pt_cmpR op_eq (pe_ix ix_tup (pv 0) pe_int (fun _ _ => rfl)) pe_str (nomark _))
    (pss_one (ps_ret (pe_op op_cat (pe_lst (pac pe_str (pac (pe_callTy call_str_int rfl Tx.z_str b_str (pac (pe_ix ix_tup (pv 0) pe_int (fun _ _ => rfl)) pa_nil)) (pac (pe_callTy call_str_int rfl Tx.z_str b_str (pac (pe_ix ix_tup (pv 0) pe_int (fun _ _ => rfl)) pa_nil)) pa_nil)))) (pe_call ih (hr.mono (by omega)) rfl Tx.m_law_words Tx.F_law_words.kp Tx.b_law_words .nil pass0 (pac (pe_ix ix_tup (pv 0) pe_int (fun _ _ => rfl)) pa_nil)))))
    pss_nil)
    (pss_cons (ps_if (pt_cmpR op_eq (pe_ix ix_tup (pv 0) pe_int (fun _ _ => rfl)) pe_str (nomark _))
    (pss_one (ps_ret (pe_op op_cat (pe_lst (pac pe_str (pac (pe_bm PySem.F.plainAttrs_str PySem.F.slot_str_join PySem.F.type_str_join mt_join pe_str (pac (pe_comp (cl := []) (N := ["_law_one"]) (fr := [none]) rfl (pi_list (pe_ix ix_tup (pv 0) pe_int (fun _ _ => rfl))) rfl (by decide +kernel) rfl (by decide +kernel) trivial trivial rfl (fun _ _ _ _ _ => (pg_name (i := 0) (show List.Nodup (["_law_one"] : List Str) by decide +kernel) rfl (Or.inl rfl))) (fun _ _ _ _ _ => pts_nil) (fun _ _ _ _ _ => (pe_callTy call_str_int rfl Tx.z_str b_str (pac (pv 0) pa_nil)))) pa_nil)) pa_nil))) (pe_call ih (hr.mono (by omega)) rfl Tx.m_law_words Tx.F_law_words.kp Tx.b_law_words .nil pass0 (pac (pe_ix ix_tup (pv 0) pe_int (fun _ _ => rfl)) pa_nil)))))
    pss_nil)
    (pss_cons (ps_if (pt_cmpR op_eq (pe_ix ix_tup (pv 0) pe_int (fun _ _ => rfl)) pe_str (nomark _))
    (pss_one (ps_ret (pe_lst (pac pe_str pa_nil))))
    pss_nil)
    (pss_one (ps_ret (pe_op op_cat (pe_op op_cat (pe_lst (pac (pe_ix ix_tup (pv 0) pe_int (fun _ _ => rfl)) pa_nil)) (pe_call ih (hr.mono (by omega)) rfl Tx.m_law_words Tx.F_law_words.kp Tx.b_law_words .nil pass0 (pac (pe_ix ix_tup (pv 0) pe_int (fun _ _ => rfl)) pa_nil))) (pe_call ih (hr.mono (by omega)) rfl Tx.m_law_words Tx.F_law_words.kp Tx.b_law_words .nil pass0 (pac (pe_ix ix_tup (pv 0) pe_int (fun _ _ => rfl)) pa_nil)))))))))), ?_⟩
  cases h with
  | always h =>
    refine ⟨_, rfl, _, _, 0, _, rfl, rfl, SqT.of h, rfl, rfl, _, rfl, itF (by decide +kernel) ?_⟩
    refine ⟨_, rfl, _, _, 0, _, rfl, rfl, SqT.of h, rfl, rfl, _, rfl, itF (by decide +kernel) ?_⟩
    refine ⟨_, rfl, _, _, 0, _, rfl, rfl, SqT.of h, rfl, rfl, _, rfl, itF (by decide +kernel) ?_⟩
    refine ⟨_, rfl, _, _, 0, _, rfl, rfl, SqT.of h, rfl, rfl, _, rfl, itF (by decide +kernel) ?_⟩
    refine ⟨_, rfl, _, _, 0, _, rfl, rfl, SqT.of h, rfl, rfl, _, rfl, itT (by decide +kernel) ?_⟩
    exact ⟨by show 1 ≤ sizeLine; decide, fun p hp => q p _ (same_new hp _) hp upd_same⟩
  | week h =>
    rename_i a b
    have hb : b < 128 := Nat.lt_succ_of_le g
    refine ⟨_, rfl, _, _, 0, _, rfl, rfl, SqT.of h, rfl, rfl, _, rfl, itT (by decide +kernel) ?_⟩
    refine ⟨_, rfl, _, _, 1, _, rfl, rfl, SqT.of h, rfl, _, rfl, by decide, by decide, for_range (fun i σ H' => H' = H ∧ ∃ vk, σ = [some (.ref a), some (.str (sgT b i)), some (.int ((b / 2 ^ i : Nat) : Nat)), vk]) ⟨rfl, _, by rw [Nat.pow_zero, Nat.div_one]; rfl⟩ ?_ ?_⟩
    · rintro i σ H' hi ⟨rfl, vk, rfl⟩
      have hi7 : i < 7 := hi
      obtain ⟨c, hc, eb⟩ := bit_at (b := b) hi7
      refine ⟨_, rfl, _, rfl, _, _, rfl, rfl, (by show (0 : Int) < 2; decide), _, _, c, rfl, rfl, (by decide +kernel), hc, _, _, rfl, rfl, ?_, ?_⟩
      · rw [eb]; exact Nat.le_trans (sg_len b hb i hi7) (by decide)
      refine ⟨_, rfl, _, _, rfl, rfl, ⟨by decide, by decide⟩, rfl, some (.int (0 + ((i : Nat) : Int))), ?_⟩
      have e : (((b / 2 ^ i : Nat) : Nat) : Int) / 2 = ((b / 2 ^ (i + 1) : Nat) : Int) := by
        rw [Nat.pow_succ, ← Nat.div_div_eq_div_mul]
        omega
      rw [← e, eb]
      rfl
    · rintro σ H' ⟨rfl, vk, rfl⟩
      refine ⟨_, rfl, by show 2 ≤ sizeLine; decide, fun p hp => q p _ (same_new hp _) hp ?_⟩
      rw [upd_same]
      show some (HO.lst [.str (Str.ofString "week"), .str (sgT b 7)]) = some (.lst [.str (Str.ofString "week"), .str (signT b)])
      rw [sg_all b hb]
  | each h hl ne =>
    rename_i a l m ss
    obtain ⟨g1, g2, g3⟩ := g
    have hln : (natV ss).length = ss.length := List.length_map ..
    have l12 := g3.few
    refine ⟨_, rfl, _, _, 0, _, rfl, rfl, SqT.of h, rfl, rfl, _, rfl, itF (by decide +kernel) ?_⟩
    refine ⟨_, rfl, _, _, 0, _, rfl, rfl, SqT.of h, rfl, rfl, _, rfl, itT (by decide +kernel) ?_⟩
    refine ⟨_, rfl, _, _, 1, _, rfl, rfl, SqT.of h, rfl, _, rfl, log_num (by omega), rfl, _, rfl, _, _, 2, _, rfl, rfl, SqT.of h, rfl, l, rfl, ⟨_, SqL.of hl⟩, comp_list (K := K) (a := l) (xs := natV ss) (fun i acc σ H' => H' = H ∧ acc = ((ss.take i).map numT).map V.str ∧ ∃ v, σ = [v]) ⟨rfl, rfl, _, rfl⟩
      (by rw [hln]; exact Nat.le_trans l12 (by decide)) (fun i acc σ H' _ ⟨e, _⟩ => by rw [e]; exact SqL.of hl) ?_ ?_⟩
    · rintro i x acc σ H' ha hx ⟨rfl, e, v, rfl⟩
      rw [List.getElem?_map] at hx
      cases hs : ss[i]? with
      | none => rw [hs] at hx; cases hx
      | some m2 =>
        rw [hs] at hx
        obtain rfl : V.int ((m2 : Nat) : Int) = x := Option.some.inj hx
        have hm := (g3.all m2 (List.mem_of_getElem? hs)).2
        dsimp only [gName, tTrue]
        rw [if_pos rfl]
        refine ⟨_, rfl, _, rfl, log_num (by omega), ?_, rfl, ?_, _, rfl⟩
        · rw [List.length_append, List.length_singleton]; omega
        · rw [e, List.take_add_one, hs]
          simp [numT]
    · rintro acc σ H' ha ⟨rfl, e, v, rfl⟩ p2 hp2
      rw [hln, List.take_length] at e
      have s2 := same_new hp2 (.lst acc)
      refine ⟨_, p2, ss.map numT, rfl, rfl, SqL.of (by rw [upd_same, e]), join_room (m := 0) (by decide +kernel) (by rw [List.length_map]; omega) (fun x hx => ?_), by show 3 ≤ sizeLine; decide, fun p hp => q p _ (s2.trans (same_new hp _)) (s2.free hp) upd_same⟩
      obtain ⟨n, hn, rfl⟩ := List.mem_map.mp hx
      exact Nat.le_trans (num_len (by have := (g3.all n hn).2; omega)) (by decide)
  | span h hv =>
    rename_i a x0 y0 v r
    have ed : (RT.span x0 y0 r).depth = 1 + r.depth := rfl
    have ew : (RT.span x0 y0 r).weight = 1 + r.weight := rfl
    have wl := r.words_len
    obtain ⟨g1, g2, g3⟩ := g
    refine ⟨_, rfl, _, _, 0, _, rfl, rfl, SqT.of h, rfl, rfl, _, rfl, itF (by decide +kernel) ?_⟩
    refine ⟨_, rfl, _, _, 0, _, rfl, rfl, SqT.of h, rfl, rfl, _, rfl, itF (by decide +kernel) ?_⟩
    refine ⟨_, rfl, _, _, 0, _, rfl, rfl, SqT.of h, rfl, rfl, _, rfl, itT (by decide +kernel) ?_⟩
    refine ⟨_, rfl, _, _, 1, _, rfl, rfl, SqT.of h, rfl, _, rfl, log_num (by omega), _, rfl, _, _, 2, _, rfl, rfl, SqT.of h, rfl, _, rfl, log_num (by omega), by show 3 ≤ sizeLine; decide, fun p1 hp1 => ?_⟩
    have s1 := same_new hp1 (.lst [.str (Str.ofString "span"), .str (numT x0), .str (numT y0)])
    have h1 := s1 _ _ h
    refine ⟨_, rfl, _, _, 3, _, rfl, rfl, SqT.of h1, rfl, tp, v, r, rfl, hv.same s1, g3, by omega, by omega, fun p2 H2 s2 n2 e2 => ?_⟩
    refine ⟨p1, p2, _, _, rfl, rfl, s2 _ _ upd_same, e2, ?_, fun p3 g3 => q p3 _ ((s1.trans s2).trans (same_new g3 _)) ((s1.trans s2).free g3) (by rw [upd_same]; rfl)⟩
    rw [List.length_map]
    exact Nat.le_trans (show 3 + r.words.length ≤ 4000 by omega) (by decide)
  | but h hl ne hv =>
    rename_i a l ss v r
    have ed : (RT.but ss r).depth = 1 + r.depth := rfl
    have ew : (RT.but ss r).weight = 1 + r.weight := rfl
    have wl := r.words_len
    obtain ⟨g3, g4⟩ := g
    have hln : (natV ss).length = ss.length := List.length_map ..
    have l12 := g3.few
    refine ⟨_, rfl, _, _, 0, _, rfl, rfl, SqT.of h, rfl, rfl, _, rfl, itF (by decide +kernel) ?_⟩
    refine ⟨_, rfl, _, _, 0, _, rfl, rfl, SqT.of h, rfl, rfl, _, rfl, itF (by decide +kernel) ?_⟩
    refine ⟨_, rfl, _, _, 0, _, rfl, rfl, SqT.of h, rfl, rfl, _, rfl, itF (by decide +kernel) ?_⟩
    refine ⟨_, rfl, _, _, 0, _, rfl, rfl, SqT.of h, rfl, rfl, _, rfl, itT (by decide +kernel) ?_⟩
    refine ⟨rfl, _, rfl, _, _, 1, _, rfl, rfl, SqT.of h, rfl, l, rfl, ⟨_, SqL.of hl⟩, comp_list (K := K) (a := l) (xs := natV ss) (fun i acc σ H' => H' = H ∧ acc = ((ss.take i).map numT).map V.str ∧ ∃ v, σ = [v]) ⟨rfl, rfl, _, rfl⟩
      (by rw [hln]; exact Nat.le_trans l12 (by decide)) (fun i acc σ H' _ ⟨e, _⟩ => by rw [e]; exact SqL.of hl) ?_ ?_⟩
    · rintro i x acc σ H' ha hx ⟨rfl, e, v, rfl⟩
      rw [List.getElem?_map] at hx
      cases hs : ss[i]? with
      | none => rw [hs] at hx; cases hx
      | some m2 =>
        rw [hs] at hx
        obtain rfl : V.int ((m2 : Nat) : Int) = x := Option.some.inj hx
        have hm := (g3.all m2 (List.mem_of_getElem? hs)).2
        dsimp only [gName, tTrue]
        rw [if_pos rfl]
        refine ⟨_, rfl, _, rfl, log_num (by omega), ?_, rfl, ?_, _, rfl⟩
        · rw [List.length_append, List.length_singleton]; omega
        · rw [e, List.take_add_one, hs]
          simp [numT]
    · rintro acc σ H' ha ⟨rfl, e, v, rfl⟩ p2 hp2
      rw [hln, List.take_length] at e
      have s2 := same_new hp2 (.lst acc)
      refine ⟨_, p2, ss.map numT, rfl, rfl, SqL.of (by rw [upd_same, e]), join_room (m := 0) (by decide +kernel) (by rw [List.length_map]; omega) (fun x hx => ?_), by show 2 ≤ sizeLine; decide, fun p1 hp1 => ?_⟩
      · obtain ⟨n, hn, rfl⟩ := List.mem_map.mp hx
        exact Nat.le_trans (num_len (by have := (g3.all n hn).2; omega)) (by decide)
      have s1 := s2.trans (same_new hp1 (.lst [.str (Str.ofString "but"), .str (lstT ss)]))
      have h1 := s1 _ _ h
      refine ⟨_, rfl, _, _, 2, _, rfl, rfl, SqT.of h1, rfl, tp, _, r, rfl, hv.same s1, g4, by omega, by omega, fun p4 H2 s4 n2 e2 => ?_⟩
      refine ⟨p1, p4, _, _, rfl, rfl, s4 _ _ upd_same, e2, ?_, fun p3 g3 => q p3 _ ((s1.trans s4).trans (same_new g3 _)) ((s1.trans s4).free g3) (by rw [upd_same]; rfl)⟩
      rw [List.length_map]
      exact Nat.le_trans (show 2 + r.words.length ≤ 4000 by omega) (by decide)
  | either h hv hu =>
    rename_i a v u r r2
    have ed : (RT.either r r2).depth = 1 + max r.depth r2.depth := rfl
    have ew : (RT.either r r2).weight = 1 + (r.weight + r2.weight) := rfl
    have wl := r.words_len
    have wl2 := r2.words_len
    refine ⟨_, rfl, _, _, 0, _, rfl, rfl, SqT.of h, rfl, rfl, _, rfl, itF (by decide +kernel) ?_⟩
    refine ⟨_, rfl, _, _, 0, _, rfl, rfl, SqT.of h, rfl, rfl, _, rfl, itF (by decide +kernel) ?_⟩
    refine ⟨_, rfl, _, _, 0, _, rfl, rfl, SqT.of h, rfl, rfl, _, rfl, itF (by decide +kernel) ?_⟩
    refine ⟨_, rfl, _, _, 0, _, rfl, rfl, SqT.of h, rfl, rfl, _, rfl, itF (by decide +kernel) ?_⟩
    refine ⟨_, rfl, _, _, 0, _, rfl, rfl, SqT.of h, rfl, rfl, _, rfl, itF (by decide +kernel) ?_⟩
    refine ⟨_, rfl, _, _, 0, _, rfl, rfl, SqT.of h, rfl, by show 1 ≤ sizeLine; decide, fun p1 g1 => ?_⟩
    have s1 := same_new g1 (.lst [.str (Str.ofString "either")])
    have h1 := s1 _ _ h
    refine ⟨_, rfl, _, _, 1, _, rfl, rfl, SqT.of h1, rfl, tp, v, r, rfl, hv.same s1, g.1, by omega, by omega, fun p2 H2 s2 n2 e2 => ?_⟩
    refine ⟨p1, p2, _, _, rfl, rfl, s2 _ _ upd_same, e2, ?_, fun p3 g3 => ?_⟩
    · rw [List.length_map]
      exact Nat.le_trans (show 1 + r.words.length ≤ 4000 by omega) (by decide)
    have s3 := (s1.trans s2).trans (same_new g3 (.lst ([.str (Str.ofString "either")] ++ r.words.map V.str)))
    have h3 := s3 _ _ h
    refine ⟨_, rfl, _, _, 2, _, rfl, rfl, SqT.of h3, rfl, tp, u, r2, rfl, hu.same s3, g.2, by omega, by omega, fun p4 H4 s4 n4 e4 => ?_⟩
    refine ⟨p3, p4, _, _, rfl, rfl, s4 _ _ upd_same, e4, ?_, fun p5 g5 => q p5 _ ((s3.trans s4).trans (same_new g5 _)) ((s3.trans s4).free g5) ?_⟩
    · rw [List.length_append, List.length_map, List.length_map]
      exact Nat.le_trans (show [V.str (Str.ofString "either")].length + r.words.length + r2.words.length ≤ 7000 by rw [List.length_singleton]; omega) (by decide)
    · rw [upd_same]
      show some (HO.lst ([V.str (Str.ofString "either")] ++ r.words.map V.str ++ r2.words.map V.str)) = some (.lst (([Str.ofString "either"] ++ r.words ++ r2.words).map V.str))
      rw [List.map_append, List.map_append]
      rfl
  | both h hv hu =>
    rename_i a v u r r2
    have ed : (RT.both r r2).depth = 1 + max r.depth r2.depth := rfl
    have ew : (RT.both r r2).weight = 1 + (r.weight + r2.weight) := rfl
    have wl := r.words_len
    have wl2 := r2.words_len
    refine ⟨_, rfl, _, _, 0, _, rfl, rfl, SqT.of h, rfl, rfl, _, rfl, itF (by decide +kernel) ?_⟩
    refine ⟨_, rfl, _, _, 0, _, rfl, rfl, SqT.of h, rfl, rfl, _, rfl, itF (by decide +kernel) ?_⟩
    refine ⟨_, rfl, _, _, 0, _, rfl, rfl, SqT.of h, rfl, rfl, _, rfl, itF (by decide +kernel) ?_⟩
    refine ⟨_, rfl, _, _, 0, _, rfl, rfl, SqT.of h, rfl, rfl, _, rfl, itF (by decide +kernel) ?_⟩
    refine ⟨_, rfl, _, _, 0, _, rfl, rfl, SqT.of h, rfl, rfl, _, rfl, itF (by decide +kernel) ?_⟩
    refine ⟨_, rfl, _, _, 0, _, rfl, rfl, SqT.of h, rfl, by show 1 ≤ sizeLine; decide, fun p1 g1 => ?_⟩
    have s1 := same_new g1 (.lst [.str (Str.ofString "both")])
    have h1 := s1 _ _ h
    refine ⟨_, rfl, _, _, 1, _, rfl, rfl, SqT.of h1, rfl, tp, v, r, rfl, hv.same s1, g.1, by omega, by omega, fun p2 H2 s2 n2 e2 => ?_⟩
    refine ⟨p1, p2, _, _, rfl, rfl, s2 _ _ upd_same, e2, ?_, fun p3 g3 => ?_⟩
    · rw [List.length_map]
      exact Nat.le_trans (show 1 + r.words.length ≤ 4000 by omega) (by decide)
    have s3 := (s1.trans s2).trans (same_new g3 (.lst ([.str (Str.ofString "both")] ++ r.words.map V.str)))
    have h3 := s3 _ _ h
    refine ⟨_, rfl, _, _, 2, _, rfl, rfl, SqT.of h3, rfl, tp, u, r2, rfl, hu.same s3, g.2, by omega, by omega, fun p4 H4 s4 n4 e4 => ?_⟩
    refine ⟨p3, p4, _, _, rfl, rfl, s4 _ _ upd_same, e4, ?_, fun p5 g5 => q p5 _ ((s3.trans s4).trans (same_new g5 _)) ((s3.trans s4).free g5) ?_⟩
    · rw [List.length_append, List.length_map, List.length_map]
      exact Nat.le_trans (show [V.str (Str.ofString "both")].length + r.words.length + r2.words.length ≤ 7000 by rw [List.length_singleton]; omega) (by decide)
    · rw [upd_same]
      show some (HO.lst ([V.str (Str.ofString "both")] ++ r.words.map V.str ++ r2.words.map V.str)) = some (.lst (([Str.ofString "both"] ++ r.words ++ r2.words).map V.str))
      rw [List.map_append, List.map_append]
      rfl

structure KidT (tp : Addr) (H : Hp) (r : RT) (xs : List V) : Prop where
  len : xs.length = (kids r).length
  get : ∀ (i : Nat) (x : V), xs[i]? = some x → ∃ k : RT, (kids r)[i]? = some k ∧ TAtr tp H x k
theorem KidT.same {tp : Addr} {H H' : Hp} {r : RT} {xs : List V} (h : KidT tp H r xs) (s : Same H H') : KidT tp H' r xs := ⟨h.len, fun i x e => let ⟨k, e1, e2⟩ := h.get i x e; ⟨k, e1, e2.same s⟩⟩
def spWithin : Sp := fun vs H Q _ => ∃ (tp : Addr) (v : V) (r : RT), vs = [v] ∧ TAtr tp H v r ∧ ∀ p xs H', Same H H' → H p = none → H' p = some (.lst xs) → KidT tp H' r xs → Q (.ref p) H'
theorem ok_law_within (Tx : Tab K mg t) : FnOk P w K mg base CX0 1 t.f_law_within t.d_law_within ["_law_tree_here"] spWithin := by
  refine Tx.F_law_within.ok sc_law_within (fun vs H Q E h => ?_) (fun cdv A outer s H vs Q E hr h => ?_)
  · obtain ⟨tp, v, r, rfl, _⟩ := h
    rfl
  obtain ⟨tp, v, r, rfl, h, q⟩ := h
  refine ⟨_, (pss_cons (ps_if (pt_cmpR op_in_seq (pe_ix ix_tup (pv 0) pe_int (fun _ _ => rfl)) (pe_tup (pac pe_str (pac pe_str pa_nil))) rfl)
    (pss_one (ps_ret (pe_lst (pac (pe_ix ix_tup (pv 0) pe_int (fun _ _ => rfl)) (pac (pe_ix ix_tup (pv 0) pe_int (fun _ _ => rfl)) pa_nil)))))
    pss_nil)
    (pss_cons (ps_if (pt_cmpR op_in_seq (pe_ix ix_tup (pv 0) pe_int (fun _ _ => rfl)) (pe_tup (pac pe_str (pac pe_str pa_nil))) rfl)
    (pss_one (ps_ret (pe_lst (pac (pe_ix ix_tup (pv 0) (pe_un un_neg pe_int) (fun _ _ => rfl)) pa_nil))))
    pss_nil)
    (pss_one (ps_ret (pe_lst pa_nil))))), ?_⟩
  have none : ∀ {r : RT} {H : Hp}, kids r = [] → KidT tp H r [] := fun {r H} e => ⟨by rw [e]; rfl, fun i x e => by cases e⟩
  have one : ∀ {r k : RT} {H : Hp} {x : V}, kids r = [k] → TAtr tp H x k → KidT tp H r [x] := fun {r k H x} e hx => ⟨by rw [e]; rfl, fun i y ey => by
    match i, ey with
    | 0, ey => cases Option.some.inj ey; exact ⟨k, by rw [e]; rfl, hx⟩
    | _ + 1, ey => cases ey⟩
  have two : ∀ {r k k2 : RT} {H : Hp} {x x2 : V}, kids r = [k, k2] → TAtr tp H x k → TAtr tp H x2 k2 → KidT tp H r [x, x2] := fun {r k k2 H x x2} e hx hx2 => ⟨by rw [e]; rfl, fun i y ey => by
    match i, ey with
    | 0, ey => cases Option.some.inj ey; exact ⟨k, by rw [e]; rfl, hx⟩
    | 1, ey => cases Option.some.inj ey; exact ⟨k2, by rw [e]; rfl, hx2⟩
    | _ + 2, ey => cases ey⟩
  cases h with
  | always h =>
    refine ⟨_, rfl, _, _, 0, _, rfl, rfl, SqT.of h, rfl, by show 2 ≤ sizeLine; decide, fun p1 g1 => ⟨p1, _, rfl, .inr (SqT.of upd_same), rfl, rfl, _, rfl, itF (by decide +kernel) ?_⟩⟩
    have s1 := same_new g1 (.tup [.str (Str.ofString "either"), .str (Str.ofString "both")])
    have h1 := s1 _ _ h
    refine ⟨_, rfl, _, _, 0, _, rfl, rfl, SqT.of h1, rfl, by show 2 ≤ sizeLine; decide, fun p2 g2 => ⟨p2, _, rfl, .inr (SqT.of upd_same), rfl, rfl, _, rfl, itF (by decide +kernel) ?_⟩⟩
    have s2 := s1.trans (same_new g2 (.tup [.str (Str.ofString "span"), .str (Str.ofString "but")]))
    exact ⟨by show 0 ≤ sizeLine; decide, fun p3 g3 => q p3 _ _ (s2.trans (same_new g3 _)) (s2.free g3) upd_same (none rfl)⟩
  | week h =>
    refine ⟨_, rfl, _, _, 0, _, rfl, rfl, SqT.of h, rfl, by show 2 ≤ sizeLine; decide, fun p1 g1 => ⟨p1, _, rfl, .inr (SqT.of upd_same), rfl, rfl, _, rfl, itF (by decide +kernel) ?_⟩⟩
    have s1 := same_new g1 (.tup [.str (Str.ofString "either"), .str (Str.ofString "both")])
    have h1 := s1 _ _ h
    refine ⟨_, rfl, _, _, 0, _, rfl, rfl, SqT.of h1, rfl, by show 2 ≤ sizeLine; decide, fun p2 g2 => ⟨p2, _, rfl, .inr (SqT.of upd_same), rfl, rfl, _, rfl, itF (by decide +kernel) ?_⟩⟩
    have s2 := s1.trans (same_new g2 (.tup [.str (Str.ofString "span"), .str (Str.ofString "but")]))
    exact ⟨by show 0 ≤ sizeLine; decide, fun p3 g3 => q p3 _ _ (s2.trans (same_new g3 _)) (s2.free g3) upd_same (none rfl)⟩
  | each h hl ne =>
    refine ⟨_, rfl, _, _, 0, _, rfl, rfl, SqT.of h, rfl, by show 2 ≤ sizeLine; decide, fun p1 g1 => ⟨p1, _, rfl, .inr (SqT.of upd_same), rfl, rfl, _, rfl, itF (by decide +kernel) ?_⟩⟩
    have s1 := same_new g1 (.tup [.str (Str.ofString "either"), .str (Str.ofString "both")])
    have h1 := s1 _ _ h
    refine ⟨_, rfl, _, _, 0, _, rfl, rfl, SqT.of h1, rfl, by show 2 ≤ sizeLine; decide, fun p2 g2 => ⟨p2, _, rfl, .inr (SqT.of upd_same), rfl, rfl, _, rfl, itF (by decide +kernel) ?_⟩⟩
    have s2 := s1.trans (same_new g2 (.tup [.str (Str.ofString "span"), .str (Str.ofString "but")]))
    exact ⟨by show 0 ≤ sizeLine; decide, fun p3 g3 => q p3 _ _ (s2.trans (same_new g3 _)) (s2.free g3) upd_same (none rfl)⟩
  | span h hv =>
    refine ⟨_, rfl, _, _, 0, _, rfl, rfl, SqT.of h, rfl, by show 2 ≤ sizeLine; decide, fun p1 g1 => ⟨p1, _, rfl, .inr (SqT.of upd_same), rfl, rfl, _, rfl, itF (by decide +kernel) ?_⟩⟩
    have s1 := same_new g1 (.tup [.str (Str.ofString "either"), .str (Str.ofString "both")])
    have h1 := s1 _ _ h
    refine ⟨_, rfl, _, _, 0, _, rfl, rfl, SqT.of h1, rfl, by show 2 ≤ sizeLine; decide, fun p2 g2 => ⟨p2, _, rfl, .inr (SqT.of upd_same), rfl, rfl, _, rfl, itT (by decide +kernel) ?_⟩⟩
    have s2 := s1.trans (same_new g2 (.tup [.str (Str.ofString "span"), .str (Str.ofString "but")]))
    have h2 := s2 _ _ h
    exact ⟨_, rfl, _, rfl, _, _, _, _, rfl, rfl, SqT.of h2, rfl, by show 1 ≤ sizeLine; decide, fun p3 g3 => q p3 _ _ (s2.trans (same_new g3 _)) (s2.free g3) upd_same (one rfl (hv.same (s2.trans (same_new g3 _))))⟩
  | but h hl ne hv =>
    refine ⟨_, rfl, _, _, 0, _, rfl, rfl, SqT.of h, rfl, by show 2 ≤ sizeLine; decide, fun p1 g1 => ⟨p1, _, rfl, .inr (SqT.of upd_same), rfl, rfl, _, rfl, itF (by decide +kernel) ?_⟩⟩
    have s1 := same_new g1 (.tup [.str (Str.ofString "either"), .str (Str.ofString "both")])
    have h1 := s1 _ _ h
    refine ⟨_, rfl, _, _, 0, _, rfl, rfl, SqT.of h1, rfl, by show 2 ≤ sizeLine; decide, fun p2 g2 => ⟨p2, _, rfl, .inr (SqT.of upd_same), rfl, rfl, _, rfl, itT (by decide +kernel) ?_⟩⟩
    have s2 := s1.trans (same_new g2 (.tup [.str (Str.ofString "span"), .str (Str.ofString "but")]))
    have h2 := s2 _ _ h
    exact ⟨_, rfl, _, rfl, _, _, _, _, rfl, rfl, SqT.of h2, rfl, by show 1 ≤ sizeLine; decide, fun p3 g3 => q p3 _ _ (s2.trans (same_new g3 _)) (s2.free g3) upd_same (one rfl (hv.same (s2.trans (same_new g3 _))))⟩
  | either h hv hu =>
    refine ⟨_, rfl, _, _, 0, _, rfl, rfl, SqT.of h, rfl, by show 2 ≤ sizeLine; decide, fun p1 g1 => ⟨p1, _, rfl, .inr (SqT.of upd_same), rfl, rfl, _, rfl, itT (by decide +kernel) ?_⟩⟩
    have s1 := same_new g1 (.tup [.str (Str.ofString "either"), .str (Str.ofString "both")])
    have h1 := s1 _ _ h
    exact ⟨_, rfl, _, _, 1, _, rfl, rfl, SqT.of h1, rfl, _, rfl, _, _, 2, _, rfl, rfl, SqT.of h1, rfl, by show 2 ≤ sizeLine; decide, fun p3 g3 => q p3 _ _ (s1.trans (same_new g3 _)) (s1.free g3) upd_same (two rfl (hv.same (s1.trans (same_new g3 _))) (hu.same (s1.trans (same_new g3 _))))⟩
  | both h hv hu =>
    refine ⟨_, rfl, _, _, 0, _, rfl, rfl, SqT.of h, rfl, by show 2 ≤ sizeLine; decide, fun p1 g1 => ⟨p1, _, rfl, .inr (SqT.of upd_same), rfl, rfl, _, rfl, itT (by decide +kernel) ?_⟩⟩
    have s1 := same_new g1 (.tup [.str (Str.ofString "either"), .str (Str.ofString "both")])
    have h1 := s1 _ _ h
    exact ⟨_, rfl, _, _, 1, _, rfl, rfl, SqT.of h1, rfl, _, rfl, _, _, 2, _, rfl, rfl, SqT.of h1, rfl, by show 2 ≤ sizeLine; decide, fun p3 g3 => q p3 _ _ (s1.trans (same_new g3 _)) (s1.free g3) upd_same (two rfl (hv.same (s1.trans (same_new g3 _))) (hu.same (s1.trans (same_new g3 _))))⟩
def spLWeight (n : Nat) : Sp := fun vs H Q _ => ∃ (tp : Addr) (v : V) (r : RT), vs = [v] ∧ TAtr tp H v r ∧ r.depth ≤ n ∧ r.weight ≤ 1000000 ∧ ∀ H', Same H H' → Q (.int (r.weight : Nat)) H'
theorem lweight_ok (Tx : Tab K mg t) : ∀ n : Nat, FnOk P w K mg base CX0 (n + 1) t.f_law_weight t.d_law_weight ["_law_tree_here"] (spLWeight n) := by
  intro n
  induction n with
  | zero =>
    refine Tx.F_law_weight.ok sc_law_weight (fun vs H Q E h => ?_) (fun cdv A outer s H vs Q E hr h => ?_)
    · obtain ⟨tp, v, r, rfl, _⟩ := h
      rfl
    · obtain ⟨tp, v, r, rfl, h, hd, _⟩ := h
      have := r.depth_pos
      omega
  | succ n ih =>
  refine Tx.F_law_weight.ok sc_law_weight (fun vs H Q E h => ?_) (fun cdv A outer s H vs Q E hr h => ?_)
  · obtain ⟨tp, v, r, rfl, _⟩ := h
    rfl
  obtain ⟨tp, v, r, rfl, h, hd, hw, q⟩ := h
  refine ⟨_, (pss_one (ps_ret (pe_op op_add pe_int (pe_callB (call_sum_list rfl) rfl Tx.z_sum b_sum (pac (pe_comp (cl := []) (N := ["_law_one"]) (fr := [none]) rfl (pi_list (pe_call (ok_law_within Tx) (hr.mono (by omega)) rfl Tx.m_law_within Tx.F_law_within.kp Tx.b_law_within .nil pass0 (pac (pv 0) pa_nil))) rfl (by decide +kernel) rfl (by decide +kernel) trivial trivial rfl (fun _ _ _ _ _ => (pg_name (i := 0) (show List.Nodup (["_law_one"] : List Str) by decide +kernel) rfl (Or.inl rfl))) (fun _ _ _ _ _ => pts_nil) (fun _ _ _ _ _ => (pe_call ih (hr.mono (by omega)) rfl Tx.m_law_weight Tx.F_law_weight.kp Tx.b_law_weight .nil pass0 (pac (pv 0) pa_nil)))) pa_nil))))), ?_⟩
  refine ⟨_, rfl, tp, v, r, rfl, h, fun p xs H1 s0 hp ep hk => ?_⟩
  have hl := hk.len
  have kl := kids_len r
  refine ⟨p, rfl, ⟨xs, SqL.of ep⟩, comp_list (K := K) (a := p) (xs := xs) (fun i acc σ H' => Same H1 H' ∧ acc = (((kids r).take i).map fun k => V.int (k.weight : Nat)) ∧ ∃ v, σ = [v])
    ⟨Same.refl _, rfl, _, rfl⟩ (by show xs.length ≤ sizeLine; exact Nat.le_trans (by omega) (show 2 ≤ sizeLine by decide)) (fun i acc σ H' _ ⟨s', _⟩ => SqL.of (s' _ _ ep)) ?_ ?_⟩
  · rintro i x acc σ H' ha hx ⟨s', e, v, rfl⟩
    obtain ⟨k, hk1, hk2⟩ := hk.get i x hx
    have km : k ∈ kids r := List.mem_of_getElem? hk1
    have kd := kids_deep km
    have kw : k.weight ≤ r.weight := by
      rw [kids_weight r]
      have := le_sum (List.mem_map_of_mem (f := RT.weight) km)
      omega
    dsimp only [gName, tTrue]
    rw [if_pos rfl]
    refine ⟨_, rfl, tp, x, k, rfl, hk2.same s', by omega, by omega, fun H3 s3 => ⟨?_, s'.trans s3, ?_, _, rfl⟩⟩
    · rw [List.length_append, List.length_singleton]; omega
    · rw [e, List.take_add_one, hk1]
      simp
  · rintro acc σ H' ha ⟨s', e, v, rfl⟩ p3 g3
    have e2 : acc = ((((kids r).map RT.weight).map fun n => ((n : Nat) : Int)).map V.int) := by
      rw [e, hl, List.take_length, List.map_map, List.map_map]
      rfl
    refine ⟨p3, _, rfl, SqL.of (by rw [upd_same, e2]), ?_, ?_, ?_⟩
    · intro n hn
      obtain ⟨m, hm, rfl⟩ := List.mem_map.mp hn
      have := le_sum hm
      have := kids_weight r
      omega
    · rw [List.length_map, List.length_map]; omega
    · have s4 := (s0.trans s').trans (same_new g3 (.lst acc))
      have q2 := q _ s4
      rw [kids_weight r] at q2
      refine ⟨_, _, rfl, rfl, ?_⟩
      rw [sum_ints]
      exact q2
def spLDepth (n : Nat) : Sp := fun vs H Q _ => ∃ (tp : Addr) (v : V) (r : RT), vs = [v] ∧ TAtr tp H v r ∧ r.depth ≤ n ∧ ∀ H', Same H H' → Q (.int (r.depth : Nat)) H'
theorem kids_depth0 (r : RT) : ∃ x, mxL none ([(0 : Int)] ++ ((kids r).map RT.depth).map fun n => ((n : Nat) : Int)) = some x ∧ (1 : Int) + x = ((r.depth : Nat) : Int) := by
  have e : mxL none ([(0 : Int)] ++ ((kids r).map RT.depth).map fun n => ((n : Nat) : Int)) = some ((((kids r).map RT.depth).foldl max 0 : Nat) : Int) := mxL_nat ((kids r).map RT.depth) 0
  refine ⟨_, e, ?_⟩
  cases r <;> simp only [kids, List.map, List.foldl, RT.depth] <;> omega
theorem ldepth_ok (Tx : Tab K mg t) : ∀ n : Nat, FnOk P w K mg base CX0 (n + 1) t.f_law_depth t.d_law_depth ["_law_tree_here"] (spLDepth n) := by
  intro n
  induction n with
  | zero =>
    refine Tx.F_law_depth.ok sc_law_depth (fun vs H Q E h => ?_) (fun cdv A outer s H vs Q E hr h => ?_)
    · obtain ⟨tp, v, r, rfl, _⟩ := h
      rfl
    · obtain ⟨tp, v, r, rfl, h, hd, _⟩ := h
      have := r.depth_pos
      omega
  | succ n ih =>
  refine Tx.F_law_depth.ok sc_law_depth (fun vs H Q E h => ?_) (fun cdv A outer s H vs Q E hr h => ?_)
  · obtain ⟨tp, v, r, rfl, _⟩ := h
    rfl
  obtain ⟨tp, v, r, rfl, h, hd, q⟩ := h
  refine ⟨_, (pss_one (ps_ret (pe_op op_add pe_int (pe_callB (call_maxl rfl) rfl Tx.z_max b_max (pac (pe_op op_cat (pe_lst (pac pe_int pa_nil)) (pe_comp (cl := []) (N := ["_law_one"]) (fr := [none]) rfl (pi_list (pe_call (ok_law_within Tx) (hr.mono (by omega)) rfl Tx.m_law_within Tx.F_law_within.kp Tx.b_law_within .nil pass0 (pac (pv 0) pa_nil))) rfl (by decide +kernel) rfl (by decide +kernel) trivial trivial rfl (fun _ _ _ _ _ => (pg_name (i := 0) (show List.Nodup (["_law_one"] : List Str) by decide +kernel) rfl (Or.inl rfl))) (fun _ _ _ _ _ => pts_nil) (fun _ _ _ _ _ => (pe_call ih (hr.mono (by omega)) rfl Tx.m_law_depth Tx.F_law_depth.kp Tx.b_law_depth .nil pass0 (pac (pv 0) pa_nil))))) pa_nil))))), ?_⟩
  refine ⟨by show 1 ≤ sizeLine; decide, fun p0 g0 => ?_⟩
  have s00 := same_new g0 (.lst [.int 0])
  refine ⟨_, rfl, tp, v, r, rfl, h.same s00, fun p xs H1 s0 hp ep hk => ?_⟩
  have hl := hk.len
  have kl := kids_len r
  refine ⟨p, rfl, ⟨xs, SqL.of ep⟩, comp_list (K := K) (a := p) (xs := xs) (fun i acc σ H' => Same H1 H' ∧ acc = (((kids r).take i).map fun k => V.int (k.depth : Nat)) ∧ ∃ v, σ = [v])
    ⟨Same.refl _, rfl, _, rfl⟩ (by show xs.length ≤ sizeLine; exact Nat.le_trans (by omega) (show 2 ≤ sizeLine by decide)) (fun i acc σ H' _ ⟨s', _⟩ => SqL.of (s' _ _ ep)) ?_ ?_⟩
  · rintro i x acc σ H' ha hx ⟨s', e, v, rfl⟩
    obtain ⟨k, hk1, hk2⟩ := hk.get i x hx
    have km : k ∈ kids r := List.mem_of_getElem? hk1
    have kd := kids_deep km
    dsimp only [gName, tTrue]
    rw [if_pos rfl]
    refine ⟨_, rfl, tp, x, k, rfl, hk2.same s', by omega, fun H3 s3 => ⟨?_, s'.trans s3, ?_, _, rfl⟩⟩
    · rw [List.length_append, List.length_singleton]; omega
    · rw [e, List.take_add_one, hk1]
      simp
  · rintro acc σ H' ha ⟨s', e, v, rfl⟩ p3 g3
    have e2 : acc = ((((kids r).map RT.depth).map fun n => ((n : Nat) : Int)).map V.int) := by
      rw [e, hl, List.take_length, List.map_map, List.map_map]
      rfl
    have s5 := (s0.trans s').trans (same_new g3 (.lst acc))
    refine ⟨p0, p3, _, _, rfl, rfl, s5 _ _ upd_same, upd_same, ?_, fun p4 g4 => ?_⟩
    · exact Nat.le_trans (show 1 + acc.length ≤ 3 by omega) (by decide)
    have s4 := (s00.trans s5).trans (same_new g4 (.lst ([.int 0] ++ acc)))
    obtain ⟨x, ex, ed⟩ := kids_depth0 r
    refine ⟨p4, [(0 : Int)] ++ ((kids r).map RT.depth).map fun n => ((n : Nat) : Int), x, rfl, SqL.of (by rw [upd_same, e2]; rfl), (by intro z; cases z), ex, _, _, rfl, rfl, ?_⟩
    have q2 := q _ s4
    rw [← ed] at q2
    exact q2

def tJoin (t u : TS) : TS := fun D σ H => ∃ J : St → Hp → Prop, t { D with nx := J } σ H ∧ ∀ σ' H', J σ' H' → u D σ' H'
theorem pss_join {X : Cx} {st : Stmt} {rest : List Stmt} {t u : TS} (h1 : PS X st t) (h2 : PSs X rest u) : PSs X (st :: rest) (tJoin t u) := by
  intro pins s σ H D I h
  obtain ⟨J, h, hJ⟩ := h
  refine wpAny_execs_cons (thn (h1 pins s σ H { D with nx := J } I h) fun f s1 q => ?_)
  cases f with
  | next =>
    obtain ⟨σ', H', I', q⟩ := q
    exact h2 pins s1 σ' H' D I' (hJ _ _ q)
  | ret v => exact q
  | brk => exact q
  | cont => exact q
def own1 : RT → List Nat
  | .span a b _ => [a, b]
  | _ => []
def ownR : RT → List Nat
  | .span a b _ => [a, b]
  | .but ds _ => ds
  | _ => []
def dysR : RT → List Nat
  | .always | .week _ | .each _ _ => []
  | .span a b r => [a, b] ++ (dysR r)
  | .but ds r => ds ++ (dysR r)
  | .either r s | .both r s => (dysR r) ++ (dysR s)
theorem days_kids (r : RT) : (dysR r) = (ownR r) ++ ((kids r).map dysR).flatten := by
  cases r <;> simp [kids, dysR, ownR]
theorem own_len {r : RT} (g : r.good) : (ownR r).length ≤ 12 := by
  cases r with
  | but ds r => exact g.1.few
  | span a b r => show 2 ≤ 12; decide
  | _ => exact Nat.zero_le _
theorem days_len : ∀ {r : RT}, r.good → (dysR r).length ≤ 12 * r.weight
  | .always, _ | .week _, _ | .each _ _, _ => Nat.zero_le _
  | .span a b r, g => by
    have := days_len g.2.2
    simp only [dysR, RT.weight, List.length_append, List.length_cons, List.length_nil]
    omega
  | .but ds r, g => by
    have := days_len g.2
    have := g.1.few
    simp only [dysR, RT.weight, List.length_append]
    omega
  | .either r s, g | .both r s, g => by
    have h1 := days_len g.1
    have h2 := days_len g.2
    simp only [dysR, RT.weight, List.length_append]
    omega
theorem days_all : ∀ {r : RT}, r.good → ∀ x ∈ (dysR r), x ≤ 9999
  | .always, _, _, h | .week _, _, _, h | .each _ _, _, _, h => by cases h
  | .span a b r, g, x, h => by
    rcases List.mem_append.mp h with h | h
    · have g1 := g.1
      have g2 := g.2.1
      simp only [List.mem_cons, List.not_mem_nil, or_false] at h
      omega
    · exact days_all g.2.2 x h
  | .but ds r, g, x, h => by
    rcases List.mem_append.mp h with h | h
    · exact (g.1.all x h).2
    · exact days_all g.2 x h
  | .either r s, g, x, h | .both r s, g, x, h => by
    rcases List.mem_append.mp h with h | h
    · exact days_all g.1 x h
    · exact days_all g.2 x h
theorem kids_good {r k : RT} (g : r.good) (h : k ∈ kids r) : k.good := by
  cases r with
  | always => cases h
  | week b => cases h
  | each n ss => cases h
  | span a b r => cases List.mem_singleton.mp h; exact g.2.2
  | but ds r => cases List.mem_singleton.mp h; exact g.2
  | either r s =>
    rcases List.mem_cons.mp h with rfl | h
    · exact g.1
    · cases List.mem_singleton.mp h; exact g.2
  | both r s =>
    rcases List.mem_cons.mp h with rfl | h
    · exact g.1
    · cases List.mem_singleton.mp h; exact g.2
theorem natV_app (a b : List Nat) : natV a ++ natV b = natV (a ++ b) := (List.map_append ..).symm
def spLDays (n : Nat) : Sp := fun vs H Q _ => ∃ (tp : Addr) (v : V) (r : RT), vs = [v] ∧ TAtr tp H v r ∧ r.good ∧ r.depth ≤ n ∧ r.weight ≤ 1000 ∧ ∀ p H', Same H H' → H p = none → H' p = some (.lst (natV (dysR r))) → Q (.ref p) H'
theorem ldays_ok (Tx : Tab K mg t) : ∀ n : Nat, FnOk P w K mg base CX0 (n + 1) t.f_law_days t.d_law_days ["_law_tree_here"] (spLDays n) := by
  intro n
  induction n with
  | zero =>
    refine Tx.F_law_days.ok sc_law_days (fun vs H Q E h => ?_) (fun cdv A outer s H vs Q E hr h => ?_)
    · obtain ⟨tp, v, r, rfl, _⟩ := h
      rfl
    · obtain ⟨tp, v, r, rfl, h, g, hd, _⟩ := h
      have := r.depth_pos
      omega
  | succ n ih =>
  refine Tx.F_law_days.ok sc_law_days (fun vs H Q E h => ?_) (fun cdv A outer s H vs Q E hr h => ?_)
  · obtain ⟨tp, v, r, rfl, _⟩ := h
    rfl
  obtain ⟨tp, v, r, rfl, h, g, hd, hw, q⟩ := h
  refine ⟨_, (pss_cons (ps_set (i := 1) sc_law_days.nd rfl (Or.inl rfl) (pe_lst pa_nil))
    (pss_join (ps_if (pt_cmpR op_eq (pe_ix ix_tup (pv 0) pe_int (fun _ _ => rfl)) pe_str (nomark _))
    (pss_one (ps_set (i := 1) sc_law_days.nd rfl (Or.inl rfl) (pe_lst (pac (pe_ix ix_tup (pv 0) pe_int (fun _ _ => rfl)) (pac (pe_ix ix_tup (pv 0) pe_int (fun _ _ => rfl)) pa_nil)))))
    pss_nil)
    (pss_join (ps_if (pt_cmpR op_eq (pe_ix ix_tup (pv 0) pe_int (fun _ _ => rfl)) pe_str (nomark _))
    (pss_one (ps_set (i := 1) sc_law_days.nd rfl (Or.inl rfl) (pe_callTy call_list_of rfl Tx.z_list b_list (pac (pe_ix ix_tup (pv 0) pe_int (fun _ _ => rfl)) pa_nil))))
    pss_nil)
    (pss_cons (ps_for PassesOwn.never rfl (pi_list (pe_call (ok_law_within Tx) (hr.mono (by omega)) rfl Tx.m_law_within Tx.F_law_within.kp Tx.b_law_within .nil pass0 (pac (pv 0) pa_nil))) (pg_name (i := 2) sc_law_days.nd rfl (Or.inl rfl))
    (pss_one (ps_set (i := 1) sc_law_days.nd rfl (Or.inl rfl) (pe_op op_cat (pv 1) (pe_call ih (hr.mono (by omega)) rfl Tx.m_law_days Tx.F_law_days.kp Tx.b_law_days .nil pass0 (pac (pv 2) pa_nil))))))
    (pss_one (ps_ret (pv 1))))))), ?_⟩
  refine ⟨by show 0 ≤ sizeLine; decide, fun p0 g0 => ?_⟩
  have s0 := same_new g0 (.lst [])
  have T := h
  refine ⟨fun σ' H' => ∃ q0 : Addr, σ' = [some v, some (.ref q0), none] ∧ Same H H' ∧ H q0 = none ∧ H' q0 = some (.lst (natV (own1 r))), ?_, ?_⟩
  · cases h with
    | always h =>
      have h1 := s0 _ _ h
      refine ⟨_, rfl, _, _, 0, _, rfl, rfl, SqT.of h1, rfl, rfl, _, rfl, itF (by decide +kernel) ?_⟩
      exact ⟨p0, rfl, s0, g0, upd_same⟩
    | week h =>
      have h1 := s0 _ _ h
      refine ⟨_, rfl, _, _, 0, _, rfl, rfl, SqT.of h1, rfl, rfl, _, rfl, itF (by decide +kernel) ?_⟩
      exact ⟨p0, rfl, s0, g0, upd_same⟩
    | each h hl ne =>
      have h1 := s0 _ _ h
      refine ⟨_, rfl, _, _, 0, _, rfl, rfl, SqT.of h1, rfl, rfl, _, rfl, itF (by decide +kernel) ?_⟩
      exact ⟨p0, rfl, s0, g0, upd_same⟩
    | span h hv =>
      have h1 := s0 _ _ h
      refine ⟨_, rfl, _, _, 0, _, rfl, rfl, SqT.of h1, rfl, rfl, _, rfl, itT (by decide +kernel) ?_⟩
      exact ⟨_, rfl, _, _, 1, _, rfl, rfl, SqT.of h1, rfl, _, rfl, _, _, 2, _, rfl, rfl, SqT.of h1, rfl, by show 2 ≤ sizeLine; decide, fun p9 g9 => ⟨p9, rfl, s0.trans (same_new g9 _), s0.free g9, upd_same⟩⟩
    | but h hl ne hv =>
      have h1 := s0 _ _ h
      refine ⟨_, rfl, _, _, 0, _, rfl, rfl, SqT.of h1, rfl, rfl, _, rfl, itF (by decide +kernel) ?_⟩
      exact ⟨p0, rfl, s0, g0, upd_same⟩
    | either h hv hu =>
      have h1 := s0 _ _ h
      refine ⟨_, rfl, _, _, 0, _, rfl, rfl, SqT.of h1, rfl, rfl, _, rfl, itF (by decide +kernel) ?_⟩
      exact ⟨p0, rfl, s0, g0, upd_same⟩
    | both h hv hu =>
      have h1 := s0 _ _ h
      refine ⟨_, rfl, _, _, 0, _, rfl, rfl, SqT.of h1, rfl, rfl, _, rfl, itF (by decide +kernel) ?_⟩
      exact ⟨p0, rfl, s0, g0, upd_same⟩
  rintro σ1 H1 ⟨q0, rfl, S1, n0, e0⟩
  refine ⟨fun σ' H' => ∃ q0 : Addr, σ' = [some v, some (.ref q0), none] ∧ Same H H' ∧ H q0 = none ∧ H' q0 = some (.lst (natV (ownR r))), ?_, ?_⟩
  · cases h with
    | always h =>
      have h1 := S1 _ _ h
      refine ⟨_, rfl, _, _, 0, _, rfl, rfl, SqT.of h1, rfl, rfl, _, rfl, itF (by decide +kernel) ?_⟩
      exact ⟨q0, rfl, S1, n0, e0⟩
    | week h =>
      have h1 := S1 _ _ h
      refine ⟨_, rfl, _, _, 0, _, rfl, rfl, SqT.of h1, rfl, rfl, _, rfl, itF (by decide +kernel) ?_⟩
      exact ⟨q0, rfl, S1, n0, e0⟩
    | each h hl ne =>
      have h1 := S1 _ _ h
      refine ⟨_, rfl, _, _, 0, _, rfl, rfl, SqT.of h1, rfl, rfl, _, rfl, itF (by decide +kernel) ?_⟩
      exact ⟨q0, rfl, S1, n0, e0⟩
    | span h hv =>
      have h1 := S1 _ _ h
      refine ⟨_, rfl, _, _, 0, _, rfl, rfl, SqT.of h1, rfl, rfl, _, rfl, itF (by decide +kernel) ?_⟩
      exact ⟨q0, rfl, S1, n0, e0⟩
    | but h hl ne hv =>
      rename_i a l ds v r
      have h1 := S1 _ _ h
      refine ⟨_, rfl, _, _, 0, _, rfl, rfl, SqT.of h1, rfl, rfl, _, rfl, itT (by decide +kernel) ?_⟩
      exact ⟨_, rfl, _, _, 1, _, rfl, rfl, SqT.of h1, rfl, l, _, rfl, .inl (SqL.of (S1 _ _ hl)), fun p9 g9 => ⟨p9, rfl, S1.trans (same_new g9 _), S1.free g9, upd_same⟩⟩
    | either h hv hu =>
      have h1 := S1 _ _ h
      refine ⟨_, rfl, _, _, 0, _, rfl, rfl, SqT.of h1, rfl, rfl, _, rfl, itF (by decide +kernel) ?_⟩
      exact ⟨q0, rfl, S1, n0, e0⟩
    | both h hv hu =>
      have h1 := S1 _ _ h
      refine ⟨_, rfl, _, _, 0, _, rfl, rfl, SqT.of h1, rfl, rfl, _, rfl, itF (by decide +kernel) ?_⟩
      exact ⟨q0, rfl, S1, n0, e0⟩
  clear n0 e0 S1
  rintro σ1 H2 ⟨q0, rfl, S, n0, eq0⟩
  refine ⟨_, rfl, tp, _, _, rfl, T.same S, fun p xs H1 s1 hp ep hk => ?_⟩
  have hl := hk.len
  have kl := kids_len (r)
  refine ⟨p, rfl, ⟨xs, SqL.of ep⟩, for_list (K := K) (a := p) (xs := xs) (fun i σ H' => Same H1 H' ∧ ∃ (q1 : Addr) (vk : Option V) (L : List Nat), H' q1 = some (.lst (natV L)) ∧ H q1 = none ∧ L = ownR (r) ++ (((kids (r)).take i).map dysR).flatten ∧ L.length ≤ 12 + 12000 * i ∧ σ = [some v, some (.ref q1), vk])
    ⟨Same.refl _, q0, _, ownR (r), s1 _ _ eq0, n0, by simp, by have := own_len g; omega, rfl⟩ (fun i σ H' _ ⟨s', _⟩ => SqL.of (s' _ _ ep)) ?_ ?_⟩
  · rintro i x σ H' hx ⟨s', q1, vk, L, e1, n1, eL, lL, rfl⟩
    obtain ⟨k, hk1, hk2⟩ := hk.get i x hx
    have km : k ∈ kids (r) := List.mem_of_getElem? hk1
    have kd := kids_deep km
    have kg := kids_good g km
    have kn := days_len kg
    have i2 : i < (kids (r)).length := (List.getElem?_eq_some_iff.mp hk1).1
    have kw : k.weight ≤ 1000 := by
      have := le_sum (List.mem_map_of_mem (f := RT.weight) km)
      have := kids_weight (r)
      omega
    refine ⟨_, rfl, _, rfl, tp, x, k, rfl, hk2.same s', kg, by omega, kw, fun p2 H2 s2 n2 e2 => ?_⟩
    refine ⟨q1, p2, _, _, rfl, rfl, s2 _ _ e1, e2, ?_, fun p3 g3 => ⟨s'.trans (s2.trans (same_new g3 _)), p3, _, L ++ dysR k, by rw [upd_same, natV_app], (((S.trans s1).trans s').trans s2).free g3, ?_, ?_, rfl⟩⟩
    · have e3 : (natV L).length = L.length := List.length_map ..
      have e4 : (natV (dysR k)).length = (dysR k).length := List.length_map ..
      rw [e3, e4]
      exact Nat.le_trans (show _ ≤ 50000 by omega) (by decide)
    · rw [eL, List.take_add_one, hk1]
      simp
    · rw [List.length_append]; omega
  · rintro σ H' ⟨s', q1, vk, L, e1, n1, eL, lL, rfl⟩
    refine ⟨_, rfl, q q1 H' ((S.trans s1).trans s') n1 ?_⟩
    rw [e1, eL, hl, List.take_length, ← days_kids]

def spClass (t : Adr) : Sp := fun vs H Q _ => ∃ a : Addr, vs = [.ref a] ∧ ((H a = some (exO a (.ref t.c_BadRule)) ∧ ∀ H', Same H H' → Q (.str (Str.ofString "rule")) H') ∨ (H a = some (exO a (.ref t.c_TooMany)) ∧ ∀ H', Same H H' → Q (.str (Str.ofString "many")) H'))
theorem ok_law_class (Tx : Tab K mg t) : FnOk P w K mg base CX0 1 t.f_law_class t.d_law_class ["_law_error"] (spClass t) := by
  refine Tx.F_law_class.ok sc_law_class (fun vs H Q E h => ?_) (fun cdv A outer s H vs Q E hr h => ?_)
  · obtain ⟨a, rfl, _⟩ := h
    rfl
  obtain ⟨a, rfl, h⟩ := h
  refine ⟨_, (pss_cons (ps_set (i := 1) sc_law_class.nd rfl (Or.inl rfl) (pe_lst (pac pe_str (pac pe_str (pac pe_str (pac pe_str (pac pe_str (pac pe_str (pac pe_str pa_nil)))))))))
    (pss_cons (ps_set (i := 1) sc_law_class.nd rfl (Or.inl rfl) (pe_op op_cat (pv 1) (pe_lst (pac pe_str (pac pe_str (pac pe_str (pac pe_str (pac pe_str pa_nil))))))))
    (pss_cons (ps_set (i := 2) sc_law_class.nd rfl (Or.inl rfl) (pe_lst (pac (pe_callB call_isi_exc rfl Tx.z_isinstance b_isinstance (pac (pv 0) (pac (pe_gref rfl Tx.m_BadClock) pa_nil))) (pac (pe_callB call_isi_exc rfl Tx.z_isinstance b_isinstance (pac (pv 0) (pac (pe_gref rfl Tx.m_BadRule) pa_nil))) (pac (pe_callB call_isi_exc rfl Tx.z_isinstance b_isinstance (pac (pv 0) (pac (pe_gref rfl Tx.m_TooMany) pa_nil))) pa_nil)))))
    (pss_cons (ps_set (i := 2) sc_law_class.nd rfl (Or.inl rfl) (pe_op op_cat (pv 2) (pe_lst (pac (pe_callB call_isi_exc rfl Tx.z_isinstance b_isinstance (pac (pv 0) (pac (pe_gref rfl Tx.m_BadName) pa_nil))) (pac (pe_callB call_isi_exc rfl Tx.z_isinstance b_isinstance (pac (pv 0) (pac (pe_gref rfl Tx.m_Twice) pa_nil))) (pac (pe_callB call_isi_exc rfl Tx.z_isinstance b_isinstance (pac (pv 0) (pac (pe_gref rfl Tx.m_NoStop) pa_nil))) pa_nil))))))
    (pss_cons (ps_set (i := 2) sc_law_class.nd rfl (Or.inl rfl) (pe_op op_cat (pv 2) (pe_lst (pac (pe_callB call_isi_exc rfl Tx.z_isinstance b_isinstance (pac (pv 0) (pac (pe_gref rfl Tx.m_BadNumber) pa_nil))) (pac (pe_callB call_isi_exc rfl Tx.z_isinstance b_isinstance (pac (pv 0) (pac (pe_gref rfl Tx.m_BadCalls) pa_nil))) (pac (pe_callB call_isi_exc rfl Tx.z_isinstance b_isinstance (pac (pv 0) (pac (pe_gref rfl Tx.m_NoRun) pa_nil))) pa_nil))))))
    (pss_cons (ps_set (i := 2) sc_law_class.nd rfl (Or.inl rfl) (pe_op op_cat (pv 2) (pe_lst (pac (pe_callB call_isi_exc rfl Tx.z_isinstance b_isinstance (pac (pv 0) (pac (pe_gref rfl Tx.m_TooLate) pa_nil))) (pac (pe_callB call_isi_exc rfl Tx.z_isinstance b_isinstance (pac (pv 0) (pac (pe_gref rfl Tx.m_NoTraveller) pa_nil))) (pac (pe_callB call_isi_exc rfl Tx.z_isinstance b_isinstance (pac (pv 0) (pac (pe_gref rfl Tx.m_BadLine) pa_nil))) pa_nil))))))
    (pss_cons (ps_if (PW.pt (pw_or (pt_cmpR op_ne (pe_bm PySem.F.plainAttrs_list PySem.F.slot_list_count PySem.F.type_list_count mt_count (pv 2) (pac pe_bl pa_nil)) pe_int (nomark _)) (pw_or1 (pt_not (pt_val (pe_callB call_isi_excT rfl Tx.z_isinstance b_isinstance (pac (pv 0) (pac (pe_gty rfl Tx.z_ValueError b_ValueError) pa_nil))))))))
    (pss_one (ps_ret pe_str))
    pss_nil)
    (pss_one (ps_ret (pe_ix ix_list (pv 1) (pe_bm PySem.F.plainAttrs_list PySem.F.slot_list_index PySem.F.type_list_index mt_index (pv 2) (pac pe_bl pa_nil)) (fun _ _ => rfl))))))))))), ?_⟩
  rcases h with ⟨ha, q⟩ | ⟨ha, q⟩
  · refine ⟨by show 7 ≤ sizeLine; decide, fun p1 h1 => ?_⟩
    have s1 := same_new h1 (.lst [.str (Str.ofString "clock"), .str (Str.ofString "rule"), .str (Str.ofString "many"), .str (Str.ofString "name"), .str (Str.ofString "twice"), .str (Str.ofString "stop"), .str (Str.ofString "number")])
    refine ⟨_, rfl, by show 5 ≤ sizeLine; decide, fun p2 h2 => ?_⟩
    have s2 := same_new h2 (.lst [.str (Str.ofString "calls"), .str (Str.ofString "run"), .str (Str.ofString "late"), .str (Str.ofString "traveller"), .str (Str.ofString "line")])
    refine ⟨p1, p2, _, _, rfl, rfl, s2 _ _ upd_same, upd_same, by show 12 ≤ sizeLine; decide, fun p3 h3 => ?_⟩
    have s3 := s1.trans (s2.trans (same_new h3 (.lst ([.str (Str.ofString "clock"), .str (Str.ofString "rule"), .str (Str.ofString "many"), .str (Str.ofString "name"), .str (Str.ofString "twice"), .str (Str.ofString "stop"), .str (Str.ofString "number")] ++ [.str (Str.ofString "calls"), .str (Str.ofString "run"), .str (Str.ofString "late"), .str (Str.ofString "traveller"), .str (Str.ofString "line")]))))
    have a3 := s3 _ _ ha
    refine ⟨_, rfl, a, t.c_BadRule, t.c_BadClock, _, rfl, a3, Tx.i_BadRule, Tx.k_BadRule_BadClock, _, rfl, a, t.c_BadRule, t.c_BadRule, _, rfl, a3, Tx.i_BadRule, Tx.k_BadRule_BadRule, _, rfl, a, t.c_BadRule, t.c_TooMany, _, rfl, a3, Tx.i_BadRule, Tx.k_BadRule_TooMany, by show 3 ≤ sizeLine; decide, fun p4 h4 => ?_⟩
    have s4 := same_new h4 (.lst [.bl false, .bl true, .bl false])
    have a4 := s4 _ _ a3
    refine ⟨_, rfl, _, rfl, a, t.c_BadRule, t.c_BadName, _, rfl, a4, Tx.i_BadRule, Tx.k_BadRule_BadName, _, rfl, a, t.c_BadRule, t.c_Twice, _, rfl, a4, Tx.i_BadRule, Tx.k_BadRule_Twice, _, rfl, a, t.c_BadRule, t.c_NoStop, _, rfl, a4, Tx.i_BadRule, Tx.k_BadRule_NoStop, by show 3 ≤ sizeLine; decide, fun p5 h5 => ?_⟩
    have s5 := same_new h5 (.lst [.bl false, .bl false, .bl false])
    refine ⟨p4, p5, _, _, rfl, rfl, s5 _ _ upd_same, upd_same, by show 6 ≤ sizeLine; decide, fun p6 h6 => ?_⟩
    have s6 := s5.trans (same_new h6 (.lst [.bl false, .bl true, .bl false, .bl false, .bl false, .bl false]))
    have a6 := s6 _ _ a4
    refine ⟨_, rfl, _, rfl, a, t.c_BadRule, t.c_BadNumber, _, rfl, a6, Tx.i_BadRule, Tx.k_BadRule_BadNumber, _, rfl, a, t.c_BadRule, t.c_BadCalls, _, rfl, a6, Tx.i_BadRule, Tx.k_BadRule_BadCalls, _, rfl, a, t.c_BadRule, t.c_NoRun, _, rfl, a6, Tx.i_BadRule, Tx.k_BadRule_NoRun, by show 3 ≤ sizeLine; decide, fun p7 h7 => ?_⟩
    have s7 := same_new h7 (.lst [.bl false, .bl false, .bl false])
    refine ⟨p6, p7, _, _, rfl, rfl, s7 _ _ upd_same, upd_same, by show 9 ≤ sizeLine; decide, fun p8 h8 => ?_⟩
    have s8 := s7.trans (same_new h8 (.lst [.bl false, .bl true, .bl false, .bl false, .bl false, .bl false, .bl false, .bl false, .bl false]))
    have a8 := s8 _ _ a6
    refine ⟨_, rfl, _, rfl, a, t.c_BadRule, t.c_TooLate, _, rfl, a8, Tx.i_BadRule, Tx.k_BadRule_TooLate, _, rfl, a, t.c_BadRule, t.c_NoTraveller, _, rfl, a8, Tx.i_BadRule, Tx.k_BadRule_NoTraveller, _, rfl, a, t.c_BadRule, t.c_BadLine, _, rfl, a8, Tx.i_BadRule, Tx.k_BadRule_BadLine, by show 3 ≤ sizeLine; decide, fun p9 h9 => ?_⟩
    have s9 := same_new h9 (.lst [.bl false, .bl false, .bl false])
    refine ⟨p8, p9, _, _, rfl, rfl, s9 _ _ upd_same, upd_same, by show 12 ≤ sizeLine; decide, fun p10 h10 => ?_⟩
    have s10 := s9.trans (same_new h10 (.lst [.bl false, .bl true, .bl false, .bl false, .bl false, .bl false, .bl false, .bl false, .bl false, .bl false, .bl false, .bl false]))
    have a10 := s10 _ _ a8
    refine ⟨_, rfl, .inl ⟨rfl, _, SqL.of upd_same⟩, p10, _, _, rfl, rfl, upd_same, rfl, rfl, rfl, _, rfl, ?_⟩
    refine itF (by decide) ?_
    refine ⟨_, rfl, a, t.c_BadRule, "ValueError", _, rfl, a10, Tx.i_BadRule, Tx.v_BadRule, _, rfl, ?_⟩
    refine itF (by decide) ?_
    refine ⟨_, rfl, _, rfl, .inl ⟨rfl, _, SqL.of upd_same⟩, p10, _, _, 1, .bl true, rfl, rfl, upd_same, rfl, rfl, rfl, rfl, (fun m z' hm e => by
      have hm' : m = 0 := by omega
      rcases hm' with rfl <;> (cases e; rfl)), p3, _, 1, _, rfl, rfl, SqL.of (s10 _ _ (s8 _ _ (s6 _ _ (s4 _ _ upd_same)))), rfl, ?_⟩
    exact q _ (s3.trans (s4.trans (s6.trans (s8.trans s10))))
  · refine ⟨by show 7 ≤ sizeLine; decide, fun p1 h1 => ?_⟩
    have s1 := same_new h1 (.lst [.str (Str.ofString "clock"), .str (Str.ofString "rule"), .str (Str.ofString "many"), .str (Str.ofString "name"), .str (Str.ofString "twice"), .str (Str.ofString "stop"), .str (Str.ofString "number")])
    refine ⟨_, rfl, by show 5 ≤ sizeLine; decide, fun p2 h2 => ?_⟩
    have s2 := same_new h2 (.lst [.str (Str.ofString "calls"), .str (Str.ofString "run"), .str (Str.ofString "late"), .str (Str.ofString "traveller"), .str (Str.ofString "line")])
    refine ⟨p1, p2, _, _, rfl, rfl, s2 _ _ upd_same, upd_same, by show 12 ≤ sizeLine; decide, fun p3 h3 => ?_⟩
    have s3 := s1.trans (s2.trans (same_new h3 (.lst ([.str (Str.ofString "clock"), .str (Str.ofString "rule"), .str (Str.ofString "many"), .str (Str.ofString "name"), .str (Str.ofString "twice"), .str (Str.ofString "stop"), .str (Str.ofString "number")] ++ [.str (Str.ofString "calls"), .str (Str.ofString "run"), .str (Str.ofString "late"), .str (Str.ofString "traveller"), .str (Str.ofString "line")]))))
    have a3 := s3 _ _ ha
    refine ⟨_, rfl, a, t.c_TooMany, t.c_BadClock, _, rfl, a3, Tx.i_TooMany, Tx.k_TooMany_BadClock, _, rfl, a, t.c_TooMany, t.c_BadRule, _, rfl, a3, Tx.i_TooMany, Tx.k_TooMany_BadRule, _, rfl, a, t.c_TooMany, t.c_TooMany, _, rfl, a3, Tx.i_TooMany, Tx.k_TooMany_TooMany, by show 3 ≤ sizeLine; decide, fun p4 h4 => ?_⟩
    have s4 := same_new h4 (.lst [.bl false, .bl false, .bl true])
    have a4 := s4 _ _ a3
    refine ⟨_, rfl, _, rfl, a, t.c_TooMany, t.c_BadName, _, rfl, a4, Tx.i_TooMany, Tx.k_TooMany_BadName, _, rfl, a, t.c_TooMany, t.c_Twice, _, rfl, a4, Tx.i_TooMany, Tx.k_TooMany_Twice, _, rfl, a, t.c_TooMany, t.c_NoStop, _, rfl, a4, Tx.i_TooMany, Tx.k_TooMany_NoStop, by show 3 ≤ sizeLine; decide, fun p5 h5 => ?_⟩
    have s5 := same_new h5 (.lst [.bl false, .bl false, .bl false])
    refine ⟨p4, p5, _, _, rfl, rfl, s5 _ _ upd_same, upd_same, by show 6 ≤ sizeLine; decide, fun p6 h6 => ?_⟩
    have s6 := s5.trans (same_new h6 (.lst [.bl false, .bl false, .bl true, .bl false, .bl false, .bl false]))
    have a6 := s6 _ _ a4
    refine ⟨_, rfl, _, rfl, a, t.c_TooMany, t.c_BadNumber, _, rfl, a6, Tx.i_TooMany, Tx.k_TooMany_BadNumber, _, rfl, a, t.c_TooMany, t.c_BadCalls, _, rfl, a6, Tx.i_TooMany, Tx.k_TooMany_BadCalls, _, rfl, a, t.c_TooMany, t.c_NoRun, _, rfl, a6, Tx.i_TooMany, Tx.k_TooMany_NoRun, by show 3 ≤ sizeLine; decide, fun p7 h7 => ?_⟩
    have s7 := same_new h7 (.lst [.bl false, .bl false, .bl false])
    refine ⟨p6, p7, _, _, rfl, rfl, s7 _ _ upd_same, upd_same, by show 9 ≤ sizeLine; decide, fun p8 h8 => ?_⟩
    have s8 := s7.trans (same_new h8 (.lst [.bl false, .bl false, .bl true, .bl false, .bl false, .bl false, .bl false, .bl false, .bl false]))
    have a8 := s8 _ _ a6
    refine ⟨_, rfl, _, rfl, a, t.c_TooMany, t.c_TooLate, _, rfl, a8, Tx.i_TooMany, Tx.k_TooMany_TooLate, _, rfl, a, t.c_TooMany, t.c_NoTraveller, _, rfl, a8, Tx.i_TooMany, Tx.k_TooMany_NoTraveller, _, rfl, a, t.c_TooMany, t.c_BadLine, _, rfl, a8, Tx.i_TooMany, Tx.k_TooMany_BadLine, by show 3 ≤ sizeLine; decide, fun p9 h9 => ?_⟩
    have s9 := same_new h9 (.lst [.bl false, .bl false, .bl false])
    refine ⟨p8, p9, _, _, rfl, rfl, s9 _ _ upd_same, upd_same, by show 12 ≤ sizeLine; decide, fun p10 h10 => ?_⟩
    have s10 := s9.trans (same_new h10 (.lst [.bl false, .bl false, .bl true, .bl false, .bl false, .bl false, .bl false, .bl false, .bl false, .bl false, .bl false, .bl false]))
    have a10 := s10 _ _ a8
    refine ⟨_, rfl, .inl ⟨rfl, _, SqL.of upd_same⟩, p10, _, _, rfl, rfl, upd_same, rfl, rfl, rfl, _, rfl, ?_⟩
    refine itF (by decide) ?_
    refine ⟨_, rfl, a, t.c_TooMany, "ValueError", _, rfl, a10, Tx.i_TooMany, Tx.v_TooMany, _, rfl, ?_⟩
    refine itF (by decide) ?_
    refine ⟨_, rfl, _, rfl, .inl ⟨rfl, _, SqL.of upd_same⟩, p10, _, _, 2, .bl true, rfl, rfl, upd_same, rfl, rfl, rfl, rfl, (fun m z' hm e => by
      have hm' : m = 0 ∨ m = 1 := by omega
      rcases hm' with rfl | rfl <;> (cases e; rfl)), p3, _, 2, _, rfl, rfl, SqL.of (s10 _ _ (s8 _ _ (s6 _ _ (s4 _ _ upd_same)))), rfl, ?_⟩
    exact q _ (s3.trans (s4.trans (s6.trans (s8.trans s10))))

theorem rat_ins {c : RC} {K : W.Frag} {H : Hp} {a : Addr} {r : RT} (h : RAt c K H a r) : ∃ C dx fs, H a = some (.ins C dx fs) := by
  cases h with
  | always h => exact ⟨_, _, _, h⟩
  | week h hb => exact ⟨_, _, _, h⟩
  | span h hx hy hi => exact ⟨_, _, _, h⟩
  | each h hn hn2 hp => exact ⟨_, _, _, h⟩
  | either h hi hj => exact ⟨_, _, _, h⟩
  | both h hi hj => exact ⟨_, _, _, h⟩
  | but h hp hi => exact ⟨_, _, _, h⟩
theorem rat_no {c : RC} {K : W.Frag} {H : Hp} {a b : Addr} {r : RT} (h : RAt c K H a r) (n : NoRl K b H (.ref a)) : False := by
  obtain ⟨C, dx, fs, e⟩ := rat_ins h
  obtain ⟨T, k, _⟩ := n
  cases k with
  | lst e' => rw [e] at e'; cases e'
  | tup e' => rw [e] at e'; cases e'
  | dK e' => rw [e] at e'; cases e'
theorem ins_fs {H : Hp} {a C C' dx dx' : Addr} {fs fs' : List (Str × V)} (h : H a = some (.ins C dx fs)) (h' : H a = some (.ins C' dx' fs')) : fs = fs' := by
  rw [h] at h'
  cases h'
  rfl
theorem two_fs {x y x' y' : Str} {i j i2 j2 : Addr} (e : [(x, V.ref i), (y, V.ref j)] = [(x', V.ref i2), (y', V.ref j2)]) : i = i2 ∧ j = j2 := by
  cases e
  exact ⟨rfl, rfl⟩
theorem rat_one {c : RC} {K : W.Frag} {H : Hp} {a : Addr} {r s : RT} (h : RAt c K H a r) (h' : RAt c K H a s) : r.weight = s.weight ∧ r.depth = s.depth := by
  have nk : (Str.ofString "one") ≠ Str.ofString "days" := by decide +kernel
  induction h generalizing s with
  | always h =>
    cases h' with
    | always e => exact ⟨rfl, rfl⟩
    | week e => cases ins_fs h e
    | span e => cases ins_fs h e
    | each e => cases ins_fs h e
    | either e => cases ins_fs h e
    | both e => cases ins_fs h e
    | but e => cases ins_fs h e
  | week h hb =>
    cases h' with
    | always e => cases ins_fs h e
    | week e => exact ⟨rfl, rfl⟩
    | span e => exact absurd (congrArg List.length (ins_fs h e)) (by simp)
    | each e => exact absurd (congrArg List.length (ins_fs h e)) (by simp)
    | either e => exact absurd (congrArg List.length (ins_fs h e)) (by simp)
    | both e => exact absurd (congrArg List.length (ins_fs h e)) (by simp)
    | but e => exact absurd (congrArg List.length (ins_fs h e)) (by simp)
  | each h hn hn2 hp =>
    cases h' with
    | always e => cases ins_fs h e
    | week e => exact absurd (congrArg List.length (ins_fs h e)) (by simp)
    | span e => exact absurd (congrArg List.length (ins_fs h e)) (by simp)
    | each e => exact ⟨rfl, rfl⟩
    | either e => exact absurd (Prod.mk.inj (List.cons.inj (ins_fs h e)).1).2 (by intro z; cases z)
    | both e => exact absurd (Prod.mk.inj (List.cons.inj (ins_fs h e)).1).2 (by intro z; cases z)
    | but e => exact absurd (Prod.mk.inj (List.cons.inj (ins_fs h e)).1).2 (by intro z; cases z)
  | span h hx hy hi ih =>
    cases h' with
    | always e => cases ins_fs h e
    | week e => exact absurd (congrArg List.length (ins_fs h e)) (by simp)
    | each e => exact absurd (congrArg List.length (ins_fs h e)) (by simp)
    | either e => exact absurd (congrArg List.length (ins_fs h e)) (by simp)
    | both e => exact absurd (congrArg List.length (ins_fs h e)) (by simp)
    | but e => exact absurd (congrArg List.length (ins_fs h e)) (by simp)
    | span e ex ey ei =>
      have z := (Prod.mk.inj (List.cons.inj (List.cons.inj (List.cons.inj (ins_fs h e)).2).2).1).2
      cases z
      obtain ⟨e1, e2⟩ := ih ei
      exact ⟨congrArg (1 + ·) e1, congrArg (1 + ·) e2⟩
  | but h hp hi ih =>
    cases h' with
    | always e => cases ins_fs h e
    | week e => exact absurd (congrArg List.length (ins_fs h e)) (by simp)
    | span e => exact absurd (congrArg List.length (ins_fs h e)) (by simp)
    | each e => exact absurd (Prod.mk.inj (List.cons.inj (ins_fs h e)).1).2 (by intro z; cases z)
    | either e => exact absurd (Prod.mk.inj (List.cons.inj (ins_fs h e)).1).1.symm nk
    | both e => exact absurd (Prod.mk.inj (List.cons.inj (ins_fs h e)).1).1.symm nk
    | but e ep ei =>
      have z := (Prod.mk.inj (List.cons.inj (List.cons.inj (ins_fs h e)).2).1).2
      cases z
      obtain ⟨e1, e2⟩ := ih ei
      exact ⟨congrArg (1 + ·) e1, congrArg (1 + ·) e2⟩
  | either h hi hj ih jh =>
    cases h' with
    | always e => cases ins_fs h e
    | week e => exact absurd (congrArg List.length (ins_fs h e)) (by simp)
    | span e => exact absurd (congrArg List.length (ins_fs h e)) (by simp)
    | each e => exact absurd (Prod.mk.inj (List.cons.inj (ins_fs h e)).1).2 (by intro z; cases z)
    | but e => exact absurd (Prod.mk.inj (List.cons.inj (ins_fs h e)).1).1 nk
    | either e ei ej =>
      obtain ⟨rfl, rfl⟩ := two_fs (ins_fs h e)
      obtain ⟨e1, e2⟩ := ih ei
      obtain ⟨e3, e4⟩ := jh ej
      simp only [RT.weight, RT.depth]
      omega
    | both e ei ej =>
      obtain ⟨rfl, rfl⟩ := two_fs (ins_fs h e)
      obtain ⟨e1, e2⟩ := ih ei
      obtain ⟨e3, e4⟩ := jh ej
      simp only [RT.weight, RT.depth]
      omega
  | both h hi hj ih jh =>
    cases h' with
    | always e => cases ins_fs h e
    | week e => exact absurd (congrArg List.length (ins_fs h e)) (by simp)
    | span e => exact absurd (congrArg List.length (ins_fs h e)) (by simp)
    | each e => exact absurd (Prod.mk.inj (List.cons.inj (ins_fs h e)).1).2 (by intro z; cases z)
    | but e => exact absurd (Prod.mk.inj (List.cons.inj (ins_fs h e)).1).1 nk
    | either e ei ej =>
      obtain ⟨rfl, rfl⟩ := two_fs (ins_fs h e)
      obtain ⟨e1, e2⟩ := ih ei
      obtain ⟨e3, e4⟩ := jh ej
      simp only [RT.weight, RT.depth]
      omega
    | both e ei ej =>
      obtain ⟨rfl, rfl⟩ := two_fs (ins_fs h e)
      obtain ⟨e1, e2⟩ := ih ei
      obtain ⟨e3, e4⟩ := jh ej
      simp only [RT.weight, RT.depth]
      omega
inductive Tri (t : Adr) (K : W.Frag) (H : Hp) : Nat → V → V → V → String → Prop
  | week {u v rv : V} {T : String} (k : Kd H u T) (hn : numV u 0 127 = false) : Tri t K H 0 u v rv "rule"
  | span {f l rv : V} {Tf Tl : String} (kf : Kd H f Tf) (kl : Kd H l Tl) (ra : RArg t K 8 H rv) (hn : numV f 0 9999 = false ∨ numV l (intOf f) 9999 = false ∨ NoRl K t.c_Rule H rv) : Tri t K H 1 f l rv "rule"
  | spanM {a b : Nat} {i : Addr} {r : RT} (h : RAt (rc t) K H i r) (g : (RT.span a b r).good) (hw : r.weight ≤ 15) (hd : r.depth ≤ 8) (no : ¬ ((RT.span a b r).weight ≤ 15 ∧ (RT.span a b r).depth ≤ 8)) : Tri t K H 1 (.int (a : Nat)) (.int (b : Nat)) (.ref i) "many"
  | each {v u rv : V} {T : String} (k : Kd H v T) (hl : Lists H u) (hn : numV v 1 28 = false ∨ ¬ RisV H u (intOf v - 1)) : Tri t K H 2 v u rv "rule"
  | eitherA {u v rv : V} (hu : NoRl K t.c_Rule H u) (ra : RArg t K 8 H rv) : Tri t K H 3 u v rv "rule"
  | eitherM {i j : Addr} {v : V} {r s : RT} (h : RAt (rc t) K H i r) (h' : RAt (rc t) K H j s) (g : r.good) (g' : s.good) (hw : r.weight ≤ 15) (hd : r.depth ≤ 8) (hw' : s.weight ≤ 15) (hd' : s.depth ≤ 8) (no : ¬ ((RT.either r s).weight ≤ 15 ∧ (RT.either r s).depth ≤ 8)) : Tri t K H 3 (.ref i) v (.ref j) "many"
  | bothA {u v rv : V} (hu : NoRl K t.c_Rule H u) (ra : RArg t K 8 H rv) : Tri t K H 4 u v rv "rule"
  | bothM {i j : Addr} {v : V} {r s : RT} (h : RAt (rc t) K H i r) (h' : RAt (rc t) K H j s) (g : r.good) (g' : s.good) (hw : r.weight ≤ 15) (hd : r.depth ≤ 8) (hw' : s.weight ≤ 15) (hd' : s.depth ≤ 8) (no : ¬ ((RT.both r s).weight ≤ 15 ∧ (RT.both r s).depth ≤ 8)) : Tri t K H 4 (.ref j) v (.ref i) "many"
  | eitherB {u v rv : V} (hu : NoRl K t.c_Rule H u) (ra : RArg t K 8 H rv) : Tri t K H 5 u v rv "rule"
  | but {u v rv : V} (hl : Lists H u) (ra : RArg t K 8 H rv) (hn : ¬ RisV H u 9999 ∨ NoRl K t.c_Rule H rv) : Tri t K H 6 u v rv "rule"
  | butM {l i : Addr} {v : V} {ds : List Nat} {r : RT} (hl : H l = some (.lst (natV ds))) (h : RAt (rc t) K H i r) (g : (RT.but ds r).good) (hw : r.weight ≤ 15) (hd : r.depth ≤ 8) (no : ¬ ((RT.but ds r).weight ≤ 15 ∧ (RT.but ds r).depth ≤ 8)) : Tri t K H 6 (.ref l) v (.ref i) "many"
theorem ref_non (y : Addr) : ¬ (decide (V.ref y = V.non)) = true := by
  rw [decide_eq_false (by intro z; cases z)]
  decide
def spTried (t : Adr) (K : W.Frag) : Sp := fun vs H Q _ => ∃ (n : Nat) (u v rv : V) (x : String), vs = [.int (n : Nat), u, v, rv] ∧ Tri t K H n u v rv x ∧ ∀ H', Same H H' → Q (.str (Str.ofString x)) H'
theorem ok_law_tried (Tx : Tab K mg t) : FnOk P w K mg base CX0 46 t.f_law_tried t.d_law_tried ["_law_which", "_law_one", "_law_two", "_law_rule"] (spTried t K) := by
  refine Tx.F_law_tried.ok sc_law_tried (fun vs H Q E h => ?_) (fun cdv A outer s H vs Q E hr h => ?_)
  · obtain ⟨n, u, v, rv, x, rfl, _⟩ := h
    rfl
  obtain ⟨n, u, v, rv, x, rfl, h, q⟩ := h
  refine ⟨_, (pss_cons (ps_set (i := 4) sc_law_tried.nd rfl (Or.inl rfl) pe_non)
    (pss_cons (ps_try (i := 5) ⟨rfl, rfl⟩ rfl sc_law_tried.nd rfl rfl rfl Tx.m_RoadError
    (fun pins Kx => (pss_one (ps_if (pt_cmpR op_eq (pv 0) pe_int (nomark _))
    (pss_one (ps_expr (pe_make Tx.mk_Week (tryX_Week Tx) (hr.mono (by omega)) rfl Tx.m_Week Tx.b_Week_init .nil passes_try (pac (pv 1) pa_nil))))
    (pss_one (ps_if (pt_cmpR op_eq (pv 0) pe_int (nomark _))
    (pss_one (ps_expr (pe_make Tx.mk_Span (tryX_Span Tx) (hr.mono (by omega)) rfl Tx.m_Span Tx.b_Span_init .nil passes_try (pac (pv 1) (pac (pv 2) (pac (pv 3) pa_nil))))))
    (pss_one (ps_if (pt_cmpR op_eq (pv 0) pe_int (nomark _))
    (pss_one (ps_expr (pe_make Tx.mk_Each (tryX_Each Tx) (hr.mono (by omega)) rfl Tx.m_Each Tx.b_Each_init .nil passes_try (pac (pv 1) (pac (pv 2) pa_nil)))))
    (pss_one (ps_if (pt_cmpR op_eq (pv 0) pe_int (nomark _))
    (pss_one (ps_expr (pe_make Tx.mk_Either (tryX_Either Tx) (hr.mono (by omega)) rfl Tx.m_Either Tx.b_Either_init .nil passes_try (pac (pv 1) (pac (pv 3) pa_nil)))))
    (pss_one (ps_if (pt_cmpR op_eq (pv 0) pe_int (nomark _))
    (pss_one (ps_expr (pe_make Tx.mk_Both (tryX_Both Tx) (hr.mono (by omega)) rfl Tx.m_Both Tx.b_Both_init .nil passes_try (pac (pv 3) (pac (pv 1) pa_nil)))))
    (pss_one (ps_if (pt_cmpR op_eq (pv 0) pe_int (nomark _))
    (pss_one (ps_expr (pe_make Tx.mk_Either (tryX_Either Tx) (hr.mono (by omega)) rfl Tx.m_Either Tx.b_Either_init .nil passes_try (pac (pv 3) (pac (pv 1) pa_nil)))))
    (pss_one (ps_expr (pe_make Tx.mk_But (tryX_But Tx) (hr.mono (by omega)) rfl Tx.m_But Tx.b_But_init .nil passes_try (pac (pv 1) (pac (pv 3) pa_nil))))))))))))))))))
    (fun a => (pss_one (ps_set (i := 4) sc_law_tried.nd rfl (Or.inl rfl) (pv 5)))))
    (pss_one (ps_ret (pe_ifExp (pt_cmp (pc_isN (pv 4))) pe_str (pe_call (ok_law_class Tx) (hr.mono (by omega)) rfl Tx.m_law_class Tx.F_law_class.kp Tx.b_law_class .nil pass0 (pac (pv 4) pa_nil))))))), ?_⟩
  cases h with
  | week k hn =>
    refine ⟨_, rfl, rfl, _, rfl, itT (by decide +kernel) ?_⟩
    refine ⟨_, rfl, fun x dx nx nd nex => ⟨x, H, _, _, rfl, made_new nx nd, k, fun b eb hb => ?_, fun _ H' s' => ⟨Tx.x_BadRule, fun y hy => ⟨_, rfl, _, rfl, _, rfl, itF (ref_non y) ⟨_, rfl, y, rfl, .inl ⟨upd_same, fun H2 s2 => q H2 (s'.trans ((same_new hy _).trans s2))⟩⟩⟩⟩⟩⟩
    subst eb
    rw [num_ok (by omega) (by omega)] at hn
    cases hn
  | span kf kl ra hn =>
    refine ⟨_, rfl, rfl, _, rfl, itF (by decide +kernel) ?_⟩
    refine ⟨_, rfl, rfl, _, rfl, itT (by decide +kernel) ?_⟩
    refine ⟨_, rfl, _, rfl, _, rfl, fun x dx nx nd nex => ⟨x, H, _, _, _, _, _, rfl, made_new nx nd, kf, kl, ra, fun a b i r ef el er hi g => ?_, fun _ H' s' => ⟨Tx.x_BadRule, fun y hy => ⟨_, rfl, _, rfl, _, rfl, itF (ref_non y) ⟨_, rfl, y, rfl, .inl ⟨upd_same, fun H2 s2 => q H2 (s'.trans ((same_new hy _).trans s2))⟩⟩⟩⟩⟩⟩
    subst ef el er
    obtain ⟨g1, g2, g3⟩ := g
    rcases hn with hn | hn | hn
    · rw [num_ok (by omega) (by omega)] at hn
      cases hn
    · rw [num_ok (b := b) (lo := intOf (.int ((a : Nat) : Int))) (by show ((a : Nat) : Int) ≤ _; omega) (by omega)] at hn
      cases hn
    · exact (rat_no hi hn).elim
  | spanM h g hw hd no =>
    rename_i a b i r
    refine ⟨_, rfl, rfl, _, rfl, itF (by decide +kernel) ?_⟩
    refine ⟨_, rfl, rfl, _, rfl, itT (by decide +kernel) ?_⟩
    have ga := g
    obtain ⟨g1, g2, g3⟩ := g
    refine ⟨_, rfl, _, rfl, _, rfl, fun x dx nx nd nex => ⟨x, H, _, _, _, _, _, rfl, made_new nx nd, .int _, .int _, .inl ⟨i, r, rfl, h, g3, hw, hd, hd⟩, fun a2 b2 i2 r2 ef el er hi g => ⟨fun z => ?_, fun _ H' s' => ⟨Tx.x_TooMany, fun y hy => ⟨_, rfl, _, rfl, _, rfl, itF (ref_non y) ⟨_, rfl, y, rfl, .inr ⟨upd_same, fun H2 s2 => q H2 (s'.trans ((same_new hy _).trans s2))⟩⟩⟩⟩⟩, fun hn H' s' => ?_⟩⟩
    · cases er
      obtain ⟨e1, e2⟩ := rat_one h hi
      have f1 : (RT.span a b r).weight = 1 + r.weight := rfl
      have f2 : (RT.span a b r).depth = 1 + r.depth := rfl
      have f3 : (RT.span a2 b2 r2).weight = 1 + r2.weight := rfl
      have f4 : (RT.span a2 b2 r2).depth = 1 + r2.depth := rfl
      exact (no ⟨by omega, by omega⟩).elim
    · rcases hn with hn | hn | hn
      · rw [num_ok (by omega) (by omega)] at hn
        cases hn
      · rw [num_ok (b := b) (lo := intOf (.int ((a : Nat) : Int))) (by show ((a : Nat) : Int) ≤ _; omega) (by omega)] at hn
        cases hn
      · exact (rat_no h hn).elim
  | each k hl hn =>
    refine ⟨_, rfl, rfl, _, rfl, itF (by decide +kernel) ?_⟩
    refine ⟨_, rfl, rfl, _, rfl, itF (by decide +kernel) ?_⟩
    refine ⟨_, rfl, rfl, _, rfl, itT (by decide +kernel) ?_⟩
    refine ⟨_, rfl, _, rfl, fun x dx nx nd nex => ⟨x, H, _, _, _, rfl, made_new nx nd, k, hl, fun m l ss ev eu hls g => ?_, fun _ H' s' => ⟨Tx.x_BadRule, fun y hy => ⟨_, rfl, _, rfl, _, rfl, itF (ref_non y) ⟨_, rfl, y, rfl, .inl ⟨upd_same, fun H2 s2 => q H2 (s'.trans ((same_new hy _).trans s2))⟩⟩⟩⟩⟩⟩
    subst ev eu
    obtain ⟨g1, g2, g3⟩ := g
    rcases hn with hn | hn
    · rw [num_ok (by omega) (by omega)] at hn
      cases hn
    · exact (hn ⟨l, ss, rfl, hls, g3.one, g3.few, g3.up, fun y hy => by
        have := (g3.all y hy).2
        show _ ≤ ((m : Nat) : Int) - 1
        omega⟩).elim
  | eitherA hu ra =>
    refine ⟨_, rfl, rfl, _, rfl, itF (by decide +kernel) ?_⟩
    refine ⟨_, rfl, rfl, _, rfl, itF (by decide +kernel) ?_⟩
    refine ⟨_, rfl, rfl, _, rfl, itF (by decide +kernel) ?_⟩
    refine ⟨_, rfl, rfl, _, rfl, itT (by decide +kernel) ?_⟩
    refine ⟨_, rfl, _, rfl, fun x dx nx nd nex => ⟨x, H, _, _, rfl, made_new nx nd, (.inr hu), ra, fun i j r s eu ev hi hj g => ?_, fun _ H' s' => ⟨Tx.x_BadRule, fun y hy => ⟨_, rfl, _, rfl, _, rfl, itF (ref_non y) ⟨_, rfl, y, rfl, .inl ⟨upd_same, fun H2 s2 => q H2 (s'.trans ((same_new hy _).trans s2))⟩⟩⟩⟩⟩⟩
    cases eu
    exact (rat_no hi hu).elim
  | eitherM h h' g g' hw hd hw' hd' no =>
    rename_i i j r s
    refine ⟨_, rfl, rfl, _, rfl, itF (by decide +kernel) ?_⟩
    refine ⟨_, rfl, rfl, _, rfl, itF (by decide +kernel) ?_⟩
    refine ⟨_, rfl, rfl, _, rfl, itF (by decide +kernel) ?_⟩
    refine ⟨_, rfl, rfl, _, rfl, itT (by decide +kernel) ?_⟩
    refine ⟨_, rfl, _, rfl, fun x dx nx nd nex => ⟨x, H, _, _, rfl, made_new nx nd, .inl ⟨i, r, rfl, h, g, hw, hd, hd⟩, .inl ⟨j, s, rfl, h', g', hw', hd', hd'⟩, fun i2 j2 r2 s3 eu ev hi hj g2 => ⟨fun z => ?_, fun _ H' s' => ⟨Tx.x_TooMany, fun y hy => ⟨_, rfl, _, rfl, _, rfl, itF (ref_non y) ⟨_, rfl, y, rfl, .inr ⟨upd_same, fun H2 s2 => q H2 (s'.trans ((same_new hy _).trans s2))⟩⟩⟩⟩⟩, fun hn H' s' => ?_⟩⟩
    · cases eu
      cases ev
      obtain ⟨e1, e2⟩ := rat_one h hi
      obtain ⟨e3, e4⟩ := rat_one h' hj
      have f1 : (RT.either r s).weight = 1 + (r.weight + s.weight) := rfl
      have f2 : (RT.either r s).depth = 1 + max r.depth s.depth := rfl
      have f3 : (RT.either r2 s3).weight = 1 + (r2.weight + s3.weight) := rfl
      have f4 : (RT.either r2 s3).depth = 1 + max r2.depth s3.depth := rfl
      exact (no ⟨by omega, by omega⟩).elim
    · rcases hn with hn | hn
      · exact (rat_no h hn).elim
      · exact (rat_no h' hn).elim
  | bothA hu ra =>
    refine ⟨_, rfl, rfl, _, rfl, itF (by decide +kernel) ?_⟩
    refine ⟨_, rfl, rfl, _, rfl, itF (by decide +kernel) ?_⟩
    refine ⟨_, rfl, rfl, _, rfl, itF (by decide +kernel) ?_⟩
    refine ⟨_, rfl, rfl, _, rfl, itF (by decide +kernel) ?_⟩
    refine ⟨_, rfl, rfl, _, rfl, itT (by decide +kernel) ?_⟩
    refine ⟨_, rfl, _, rfl, fun x dx nx nd nex => ⟨x, H, _, _, rfl, made_new nx nd, ra, (.inr hu), fun i j r s eu ev hi hj g => ?_, fun _ H' s' => ⟨Tx.x_BadRule, fun y hy => ⟨_, rfl, _, rfl, _, rfl, itF (ref_non y) ⟨_, rfl, y, rfl, .inl ⟨upd_same, fun H2 s2 => q H2 (s'.trans ((same_new hy _).trans s2))⟩⟩⟩⟩⟩⟩
    cases ev
    exact (rat_no hj hu).elim
  | bothM h h' g g' hw hd hw' hd' no =>
    rename_i i j r s
    refine ⟨_, rfl, rfl, _, rfl, itF (by decide +kernel) ?_⟩
    refine ⟨_, rfl, rfl, _, rfl, itF (by decide +kernel) ?_⟩
    refine ⟨_, rfl, rfl, _, rfl, itF (by decide +kernel) ?_⟩
    refine ⟨_, rfl, rfl, _, rfl, itF (by decide +kernel) ?_⟩
    refine ⟨_, rfl, rfl, _, rfl, itT (by decide +kernel) ?_⟩
    refine ⟨_, rfl, _, rfl, fun x dx nx nd nex => ⟨x, H, _, _, rfl, made_new nx nd, .inl ⟨i, r, rfl, h, g, hw, hd, hd⟩, .inl ⟨j, s, rfl, h', g', hw', hd', hd'⟩, fun i2 j2 r2 s3 eu ev hi hj g2 => ⟨fun z => ?_, fun _ H' s' => ⟨Tx.x_TooMany, fun y hy => ⟨_, rfl, _, rfl, _, rfl, itF (ref_non y) ⟨_, rfl, y, rfl, .inr ⟨upd_same, fun H2 s2 => q H2 (s'.trans ((same_new hy _).trans s2))⟩⟩⟩⟩⟩, fun hn H' s' => ?_⟩⟩
    · cases eu
      cases ev
      obtain ⟨e1, e2⟩ := rat_one h hi
      obtain ⟨e3, e4⟩ := rat_one h' hj
      have f1 : (RT.both r s).weight = 1 + (r.weight + s.weight) := rfl
      have f2 : (RT.both r s).depth = 1 + max r.depth s.depth := rfl
      have f3 : (RT.both r2 s3).weight = 1 + (r2.weight + s3.weight) := rfl
      have f4 : (RT.both r2 s3).depth = 1 + max r2.depth s3.depth := rfl
      exact (no ⟨by omega, by omega⟩).elim
    · rcases hn with hn | hn
      · exact (rat_no h hn).elim
      · exact (rat_no h' hn).elim
  | eitherB hu ra =>
    refine ⟨_, rfl, rfl, _, rfl, itF (by decide +kernel) ?_⟩
    refine ⟨_, rfl, rfl, _, rfl, itF (by decide +kernel) ?_⟩
    refine ⟨_, rfl, rfl, _, rfl, itF (by decide +kernel) ?_⟩
    refine ⟨_, rfl, rfl, _, rfl, itF (by decide +kernel) ?_⟩
    refine ⟨_, rfl, rfl, _, rfl, itF (by decide +kernel) ?_⟩
    refine ⟨_, rfl, rfl, _, rfl, itT (by decide +kernel) ?_⟩
    refine ⟨_, rfl, _, rfl, fun x dx nx nd nex => ⟨x, H, _, _, rfl, made_new nx nd, ra, (.inr hu), fun i j r s eu ev hi hj g => ?_, fun _ H' s' => ⟨Tx.x_BadRule, fun y hy => ⟨_, rfl, _, rfl, _, rfl, itF (ref_non y) ⟨_, rfl, y, rfl, .inl ⟨upd_same, fun H2 s2 => q H2 (s'.trans ((same_new hy _).trans s2))⟩⟩⟩⟩⟩⟩
    cases ev
    exact (rat_no hj hu).elim
  | but hl ra hn =>
    refine ⟨_, rfl, rfl, _, rfl, itF (by decide +kernel) ?_⟩
    refine ⟨_, rfl, rfl, _, rfl, itF (by decide +kernel) ?_⟩
    refine ⟨_, rfl, rfl, _, rfl, itF (by decide +kernel) ?_⟩
    refine ⟨_, rfl, rfl, _, rfl, itF (by decide +kernel) ?_⟩
    refine ⟨_, rfl, rfl, _, rfl, itF (by decide +kernel) ?_⟩
    refine ⟨_, rfl, rfl, _, rfl, itF (by decide +kernel) ?_⟩
    refine ⟨_, rfl, _, rfl, fun x dx nx nd nex => ⟨x, H, _, _, rfl, made_new nx nd, hl, ra, fun l ds i r eu hls ev hi g => ?_, fun _ H' s' => ⟨Tx.x_BadRule, fun y hy => ⟨_, rfl, _, rfl, _, rfl, itF (ref_non y) ⟨_, rfl, y, rfl, .inl ⟨upd_same, fun H2 s2 => q H2 (s'.trans ((same_new hy _).trans s2))⟩⟩⟩⟩⟩⟩
    subst eu ev
    obtain ⟨g1, g2⟩ := g
    rcases hn with hn | hn
    · exact (hn ⟨l, ds, rfl, hls, g1.one, g1.few, g1.up, fun y hy => by
        have := (g1.all y hy).2
        omega⟩).elim
    · exact (rat_no hi hn).elim
  | butM hl h g hw hd no =>
    rename_i l i ds r
    refine ⟨_, rfl, rfl, _, rfl, itF (by decide +kernel) ?_⟩
    refine ⟨_, rfl, rfl, _, rfl, itF (by decide +kernel) ?_⟩
    refine ⟨_, rfl, rfl, _, rfl, itF (by decide +kernel) ?_⟩
    refine ⟨_, rfl, rfl, _, rfl, itF (by decide +kernel) ?_⟩
    refine ⟨_, rfl, rfl, _, rfl, itF (by decide +kernel) ?_⟩
    refine ⟨_, rfl, rfl, _, rfl, itF (by decide +kernel) ?_⟩
    have ga := g
    obtain ⟨g1, g2⟩ := g
    refine ⟨_, rfl, _, rfl, fun x dx nx nd nex => ⟨x, H, _, _, rfl, made_new nx nd, .inr ⟨l, _, rfl, hl, kinds_nat _⟩, .inl ⟨i, r, rfl, h, g2, hw, hd, hd⟩, fun l2 ds2 i2 r2 eu hls ev hi g => ⟨fun z => ?_, fun _ H' s' => ⟨Tx.x_TooMany, fun y hy => ⟨_, rfl, _, rfl, _, rfl, itF (ref_non y) ⟨_, rfl, y, rfl, .inr ⟨upd_same, fun H2 s2 => q H2 (s'.trans ((same_new hy _).trans s2))⟩⟩⟩⟩⟩, fun hn H' s' => ?_⟩⟩
    · cases ev
      obtain ⟨e1, e2⟩ := rat_one h hi
      have f1 : (RT.but ds r).weight = 1 + r.weight := rfl
      have f2 : (RT.but ds r).depth = 1 + r.depth := rfl
      have f3 : (RT.but ds2 r2).weight = 1 + r2.weight := rfl
      have f4 : (RT.but ds2 r2).depth = 1 + r2.depth := rfl
      exact (no ⟨by omega, by omega⟩).elim
    · rcases hn with hn | hn
      · exact (hn ⟨l, ds, rfl, hl, g1.one, g1.few, g1.up, fun y hy => by
          have := (g1.all y hy).2
          omega⟩).elim
      · exact (rat_no h hn).elim

def spRight (t : Adr) (K : W.Frag) : Sp := fun vs H Q _ => ∃ (tp : Addr) (v : V) (r : RT) (a : Addr) (d : Nat), vs = [v, .ref a, .int (d : Nat)] ∧ TAtr tp H v r ∧ r.good ∧ r.depth ≤ 8 ∧ RAt (rc t) K H a r ∧ ∀ H', Same H H' → Q (.bl true) H'
theorem ok_law_right (Tx : Tab K mg t) : FnOk P w K mg base CX0 10 t.f_law_right t.d_law_right ["_law_tree_here", "_law_rule", "_law_day"] (spRight t K) := by
  refine Tx.F_law_right.ok sc_law_right (fun vs H Q E h => ?_) (fun cdv A outer s H vs Q E hr h => ?_)
  · obtain ⟨tp, v, r, a, d, rfl, _⟩ := h
    rfl
  obtain ⟨tp, v, r, a, d, rfl, h, g, h8, ha, q⟩ := h
  refine ⟨_, (pss_cons (ps_set (i := 3) sc_law_right.nd rfl (Or.inl rfl) (pe_methD (pv 1) (pac (pv 2) pa_nil)))
    (pss_one (ps_ret (pe_and (pe_callB call_isi_ty rfl Tx.z_isinstance b_isinstance (pac (pv 3) (pac (pe_gty rfl Tx.z_bool b_bool) pa_nil))) (pe_one (pe_cmpR op_eq (pv 3) (pe_call (lruns_ok Tx 8) (hr.mono (by omega)) rfl Tx.m_law_runs Tx.F_law_runs.kp Tx.b_law_runs .nil pass0 (pac (pv 0) (pac (pv 2) pa_nil))) (nomark _))))))), ?_⟩
  obtain ⟨C, dx2, fs, f, fd, sp, g1, g2, g3, g4, g5, g6, g7⟩ := (runs_ok (P := P) (w := w) (mg := mg) (base := base) Tx 8).at Tx ha h8
  refine ⟨_, rfl, a, C, dx2, fs, f, fd, _, _, sp, CX0, E0, rfl, g1, g2, g3, g4, g5, hr.mono (by omega), g6, pass0, _, rfl, g7 d _ ?_⟩
  refine ⟨_, rfl, _, "bool", _, _, rfl, (Kd.bl (r.runs d)).ty (H := H), kit_bool (H := H) (.bl (r.runs d)), _, rfl, itT rfl ?_⟩
  refine ⟨_, rfl, _, rfl, _, rfl, tp, v, r, d, rfl, h, g, h8, fun H' s' => ⟨rfl, ?_⟩⟩
  have q1 := q H' s'
  have e : decide (V.bl (r.runs d) = V.bl (r.runs d)) = true := decide_eq_true rfl
  rw [← e] at q1
  exact q1
def spHeavy (K : W.Frag) : Sp := fun vs H Q _ => ∃ (a tp : Addr) (ns : List Int) (k : Int), vs = [.ref a, .ref tp] ∧ Scr K H a tp ns ∧ H tp = some (.lst [.int k]) ∧ 0 ≤ k ∧ k ≤ 90000 ∧
  ∀ (k' : Int) (H' : Hp), Bump tp k' H H' → k ≤ k' → k' ≤ k + 7 → Q (.bl true) H'
theorem ok_law_heavy (Tx : Tab K mg t) : FnOk P w K mg base CX0 48 t.f_law_heavy t.d_law_heavy ["_law_script", "_law_tape"] (spHeavy K) := by
  refine Tx.F_law_heavy.ok sc_law_heavy (fun vs H Q E h => ?_) (fun cdv A outer s H vs Q E hr h => ?_)
  · obtain ⟨a, tp, ns, k, rfl, _⟩ := h
    rfl
  obtain ⟨a, tp, ns, k, rfl, S, hT, k0, k1, q⟩ := h
  refine ⟨_, (pss_cons (ps_set (i := 2) sc_law_heavy.nd rfl (Or.inl rfl) (pe_make Tx.mk_Week (ini_Week Tx) (hr.mono (by omega)) rfl Tx.m_Week Tx.b_Week_init .nil pass0 (pac pe_int pa_nil)))
    (pss_cons (ps_set (i := 3) sc_law_heavy.nd rfl (Or.inl rfl) (pe_makeN Tx.mkn_Rule rfl Tx.m_Rule))
    (pss_cons (ps_for PassesOwn.never rfl (pi_range1 rfl Tx.z_range (pac pe_int pa_nil)) (pg_name (i := 4) sc_law_heavy.nd rfl (Or.inl rfl))
    (pss_cons (ps_set (i := 5) sc_law_heavy.nd rfl (Or.inl rfl) (pe_lst (pac (pe_make Tx.mk_Span (ini_Span Tx) (hr.mono (by omega)) rfl Tx.m_Span Tx.b_Span_init .nil pass0 (pac pe_int (pac pe_int (pac (pv 3) pa_nil)))) (pac (pe_make Tx.mk_But (ini_But Tx) (hr.mono (by omega)) rfl Tx.m_But Tx.b_But_init .nil pass0 (pac (pe_lst (pac pe_int pa_nil)) (pac (pv 3) pa_nil))) (pac (pe_make Tx.mk_Either (ini_Either Tx) (hr.mono (by omega)) rfl Tx.m_Either Tx.b_Either_init .nil pass0 (pac (pv 3) (pac (pv 2) pa_nil))) (pac (pe_make Tx.mk_Both (ini_Both Tx) (hr.mono (by omega)) rfl Tx.m_Both Tx.b_Both_init .nil pass0 (pac (pv 2) (pac (pv 3) pa_nil))) pa_nil))))))
    (pss_one (ps_set (i := 3) sc_law_heavy.nd rfl (Or.inl rfl) (pe_ix ix_list (pv 5) (pe_call (ok_law_draw Tx) (hr.mono (by omega)) rfl Tx.m_law_draw Tx.F_law_draw.kp Tx.b_law_draw .nil pass0 (pac (pv 0) (pac (pv 1) (pac pe_int pa_nil)))) (fun _ _ => rfl))))))
    (pss_cons (ps_set (i := 6) sc_law_heavy.nd rfl (Or.inl rfl) (pe_makeN Tx.mkn_Rule rfl Tx.m_Rule))
    (pss_cons (ps_for PassesOwn.never rfl (pi_range1 rfl Tx.z_range (pac pe_int pa_nil)) (pg_name (i := 4) sc_law_heavy.nd rfl (Or.inl rfl))
    (pss_one (ps_set (i := 6) sc_law_heavy.nd rfl (Or.inl rfl) (pe_make Tx.mk_Either (ini_Either Tx) (hr.mono (by omega)) rfl Tx.m_Either Tx.b_Either_init .nil pass0 (pac (pv 6) (pac (pv 6) pa_nil))))))
    (pss_cons (ps_set (i := 5) sc_law_heavy.nd rfl (Or.inl rfl) (pe_lst (pac (pe_call (ok_law_tried Tx) (hr.mono (by omega)) rfl Tx.m_law_tried Tx.F_law_tried.kp Tx.b_law_tried .nil pass0 (pac pe_int (pac pe_int (pac pe_int (pac (pv 3) pa_nil))))) (pac (pe_call (ok_law_tried Tx) (hr.mono (by omega)) rfl Tx.m_law_tried Tx.F_law_tried.kp Tx.b_law_tried .nil pass0 (pac pe_int (pac (pe_lst (pac pe_int pa_nil)) (pac pe_int (pac (pv 3) pa_nil))))) (pac (pe_call (ok_law_tried Tx) (hr.mono (by omega)) rfl Tx.m_law_tried Tx.F_law_tried.kp Tx.b_law_tried .nil pass0 (pac pe_int (pac (pv 3) (pac pe_int (pac (pv 2) pa_nil))))) pa_nil)))))
    (pss_cons (ps_set (i := 5) sc_law_heavy.nd rfl (Or.inl rfl) (pe_op op_cat (pv 5) (pe_lst (pac (pe_call (ok_law_tried Tx) (hr.mono (by omega)) rfl Tx.m_law_tried Tx.F_law_tried.kp Tx.b_law_tried .nil pass0 (pac pe_int (pac (pv 6) (pac pe_int (pac (pv 6) pa_nil))))) (pac (pe_call (ok_law_tried Tx) (hr.mono (by omega)) rfl Tx.m_law_tried Tx.F_law_tried.kp Tx.b_law_tried .nil pass0 (pac pe_int (pac pe_non (pac pe_int (pac (pv 3) pa_nil))))) (pac (pe_call (ok_law_tried Tx) (hr.mono (by omega)) rfl Tx.m_law_tried Tx.F_law_tried.kp Tx.b_law_tried .nil pass0 (pac pe_int (pac (pe_lst pa_nil) (pac pe_int (pac (pv 3) pa_nil))))) pa_nil))))))
    (pss_cons (ps_if (PW.pt (pw_or (pt_cmpR (op_ne_lst hr.units0) (pv 5) (pe_lst (pac pe_str (pac pe_str (pac pe_str (pac pe_str (pac pe_str (pac pe_str pa_nil))))))) (nomark _)) (pw_or (pt_cmpR op_ne (pe_meth0D (pv 6)) pe_int (nomark _)) (pw_or1 (pt_cmpR op_ne (pe_meth0D (pv 3)) pe_int (nomark _))))))
    (pss_one (ps_ret pe_bl))
    pss_nil)
    (pss_one (ps_ret pe_bl)))))))))), ?_⟩
  refine fun lt dx nx nd nex => ⟨lt, H, 5, rfl, made_new nx nd, by decide, fun H1 s1 h1 => ⟨rfl, ?_⟩⟩
  have L1 := h1.same (dif_sub _ _)
  refine fun e0 dx2 nx2 nd2 nex2 => ?_
  have s2 := same_upd nx2 (same_upd nd2 (Same.refl _) (.own e0)) (.ins t.c_Rule dx2 [])
  have s12 := s1.trans s2
  refine ⟨7, rfl, by decide, by decide, for_range (n := 7) (fun i σ H' => ∃ (e : Addr) (r : RT) (vk vw : Option V) (k' : Int), σ = [some (.ref a), some (.ref tp), some (.ref lt), some (.ref e), vk, vw, none] ∧ Bump tp k' H H' ∧ k ≤ k' ∧ k' ≤ k + i ∧ RAt (rc t) K H' lt (.week 5) ∧ RAt (rc t) K H' e r ∧ r.good ∧ r.weight ≤ 2 * i + 1 ∧ r.depth = i + 1)
    ⟨e0, .always, _, _, k, rfl, ⟨fun b o _ e => s12 _ _ e, s12 _ _ hT⟩, by omega, by omega, L1.same s2, .always upd_same, trivial, by show 1 ≤ _; omega, rfl⟩ ?_ ?_⟩
  · rintro i σ H3 hi ⟨e, r, vk, vw, k3, rfl, B3, c0, c1, L3, E3, g3, w3, d3⟩
    have hi7 : i < 7 := hi
    refine ⟨_, rfl, fun x1 y1 n1 m1 ne1 => ⟨x1, e, H3, 0, 9, r, rfl, made_new n1 m1, E3, ⟨by decide, by decide, g3⟩, by show 1 + r.weight ≤ 15; omega, by show 1 + r.depth ≤ 8; omega, by omega, fun H4 s4 h4 => ⟨rfl, ?_⟩⟩⟩
    refine ⟨by show 1 ≤ sizeLine; decide, fun p5 g5 => ?_⟩
    have s5 := same_new g5 (.lst [.int 3])
    refine ⟨_, rfl, fun x2 y2 n2 m2 ne2 => ⟨x2, p5, e, _, [3], r, rfl, made_new n2 m2, upd_same, (E3.same s4).same s5, ⟨⟨by decide, by decide, by decide, by decide⟩, g3⟩, by show 1 + r.weight ≤ 15; omega, by show 1 + r.depth ≤ 8; omega, by omega, fun H6 s6 h6 => ⟨rfl, ?_⟩⟩⟩
    have z6 := s4.trans (s5.trans s6)
    refine ⟨_, rfl, _, rfl, fun x3 y3 n3 m3 ne3 => ⟨x3, e, lt, H6, r, .week 5, rfl, made_new n3 m3, E3.same z6, L3.same z6, ⟨g3, by show 5 ≤ 127; decide⟩, by show 1 + (r.weight + 1) ≤ 15; omega, by show 1 + max r.depth 1 ≤ 8; omega, by omega, by show 1 ≤ 7; decide, fun H7 s7 h7 => ⟨rfl, ?_⟩⟩⟩
    have z7 := z6.trans s7
    refine ⟨_, rfl, _, rfl, fun x4 y4 n4 m4 ne4 => ⟨x4, lt, e, H7, .week 5, r, rfl, made_new n4 m4, L3.same z7, E3.same z7, ⟨by show 5 ≤ 127; decide, g3⟩, by show 1 + (1 + r.weight) ≤ 15; omega, by show 1 + max 1 r.depth ≤ 8; omega, by show 1 ≤ 7; decide, by omega, fun H8 s8 h8 => ⟨rfl, ?_⟩⟩⟩
    have z8 := z7.trans s8
    refine ⟨by show 4 ≤ sizeLine; decide, fun p9 g9 => ?_⟩
    have s9 := same_new g9 (.lst [.ref x1, .ref x2, .ref x3, .ref x4])
    have z9 := z8.trans s9
    have B9 := B3.same z9
    refine ⟨_, rfl, _, rfl, _, rfl, a, tp, ns, k3, 4, rfl, B9.scr S, B9.tape, by omega, by omega, by decide, by decide, fun c H10 c0 c1 b10 => ?_⟩
    have np9 : p9 ≠ tp := ne_tp (B3.same z8).tape g9
    have X1 : RAt (rc t) K H10 x1 (.span 0 9 r) := ((((((h4.same (dif_sub _ _)).same s5).same s6).same s7).same s8).same s9).bump B9.tape b10
    have X2 : RAt (rc t) K H10 x2 (.but [3] r) := ((((h6.same (dif_sub _ _)).same s7).same s8).same s9).bump B9.tape b10
    have X3 : RAt (rc t) K H10 x3 (.either r (.week 5)) := (((h7.same (dif_sub _ _)).same s8).same s9).bump B9.tape b10
    have X4 : RAt (rc t) K H10 x4 (.both (.week 5) r) := ((h8.same (dif_sub _ _)).same s9).bump B9.tape b10
    obtain ⟨v, ev, e2, r2, rfl, hE, hg, hw, hd⟩ := at_all (p := fun v => ∃ (e2 : Addr) (r2 : RT), v = V.ref e2 ∧ RAt (rc t) K H10 e2 r2 ∧ r2.good ∧ r2.weight ≤ 2 * (i + 1) + 1 ∧ r2.depth = i + 1 + 1) (xs := [.ref x1, .ref x2, .ref x3, .ref x4]) (d := c) (fun v hv => by
      simp only [List.mem_cons, List.not_mem_nil, or_false] at hv
      rcases hv with rfl | rfl | rfl | rfl
      · exact ⟨x1, _, rfl, X1, ⟨by decide, by decide, g3⟩, by show 1 + r.weight ≤ _; omega, by show 1 + r.depth = _; omega⟩
      · exact ⟨x2, _, rfl, X2, ⟨⟨by decide, by decide, by decide, by decide⟩, g3⟩, by show 1 + r.weight ≤ _; omega, by show 1 + r.depth = _; omega⟩
      · exact ⟨x3, _, rfl, X3, ⟨g3, by show 5 ≤ 127; decide⟩, by show 1 + (r.weight + 1) ≤ _; omega, by show 1 + max r.depth 1 = _; omega⟩
      · exact ⟨x4, _, rfl, X4, ⟨by show 5 ≤ 127; decide, g3⟩, by show 1 + (1 + r.weight) ≤ _; omega, by show 1 + max 1 r.depth = _; omega⟩) c0 (by show c < 4; omega)
    refine ⟨p9, _, _, _, rfl, rfl, SqL.of (b10.keep _ _ np9 upd_same), ev, ?_⟩
    exact ⟨e2, r2, _, _, k3 + 1, rfl, B9.trans b10, by omega, by omega, (L3.same z9).bump B9.tape b10, hE, hg, hw, hd⟩
  · rintro σ H3 ⟨e, r, vk, vw, k3, rfl, B3, c0, c1, L3, E3, g3, w3, d3⟩
    refine fun r0 dx4 nx4 nd4 nex4 => ?_
    have s4 := same_upd nx4 (same_upd nd4 (Same.refl H3) (.own r0)) (.ins t.c_Rule dx4 [])
    refine ⟨3, rfl, by decide, by decide, for_range (n := 3) (fun i σ H' => ∃ (o : Addr) (ro : RT) (vk : Option V), σ = [some (.ref a), some (.ref tp), some (.ref lt), some (.ref e), vk, vw, some (.ref o)] ∧ Same H3 H' ∧ RAt (rc t) K H' o ro ∧ ro.good ∧ ro.weight + 1 = 2 * 2 ^ i ∧ ro.depth = i + 1)
      ⟨r0, .always, _, rfl, s4, .always upd_same, trivial, rfl, rfl⟩ ?_ ?_⟩
    · rintro i σ H5 hi ⟨o, ro, vk, rfl, s5, O5, og, ow, od⟩
      have hi3 : i < 3 := hi
      have pw : 2 ^ i ≤ 4 := Nat.le_trans (Nat.pow_le_pow_right (by decide) (show i ≤ 2 by omega)) (by decide)
      have pe : 2 ^ (i + 1) = 2 * 2 ^ i := by rw [Nat.pow_succ, Nat.mul_comm]
      refine ⟨_, rfl, _, rfl, fun x1 y1 n1 m1 ne1 => ⟨x1, o, o, H5, ro, ro, rfl, made_new n1 m1, O5, O5, ⟨og, og⟩, by show 1 + (ro.weight + ro.weight) ≤ 15; omega, by show 1 + max ro.depth ro.depth ≤ 8; omega, by omega, by omega, fun H6 s6 h6 => ⟨rfl, ?_⟩⟩⟩
      exact ⟨x1, _, _, rfl, s5.trans s6, h6.same (dif_sub _ _), ⟨og, og⟩, by show 1 + (ro.weight + ro.weight) + 1 = _; omega, by show 1 + max ro.depth ro.depth = _; omega⟩
    · rintro σ H5 ⟨o, ro, vk, rfl, s5, O5, og, ow, od⟩
      have ow' : ro.weight = 15 := by
        have : ro.weight + 1 = 16 := ow
        omega
      have od' : ro.depth = 4 := od
      have d8 : r.depth = 8 := d3
      have w15 : r.weight ≤ 15 := w3
      have E5 := E3.same s5
      have L5 := L3.same s5
      have sd : ∀ x y : Nat, (RT.span x y r).depth = 1 + r.depth := fun _ _ => rfl
      have bd : ∀ x, (RT.but x r).depth = 1 + r.depth := fun _ => rfl
      have bo : (RT.both (.week 5) r).depth = 1 + max 1 r.depth := rfl
      have ew : (RT.either ro ro).weight = 1 + (ro.weight + ro.weight) := rfl
      refine ⟨_, rfl, 1, _, _, _, _, rfl, .spanM (a := 0) (b := 9) E5 ⟨by decide, by decide, g3⟩ w15 (by omega) (by rw [sd]; omega), fun H6 s6 => ?_⟩
      refine ⟨by show 1 ≤ sizeLine; decide, fun p7 g7 => ?_⟩
      have s7 := s6.trans (same_new g7 (.lst [.int 0]))
      refine ⟨_, rfl, 6, _, _, _, _, rfl, .butM (ds := [0]) upd_same (E5.same s7) ⟨⟨by decide, by decide, by decide, by decide⟩, g3⟩ w15 (by omega) (by rw [bd]; omega), fun H8 s8 => ?_⟩
      have t8 := s7.trans s8
      refine ⟨_, rfl, _, rfl, 4, _, _, _, _, rfl, .bothM (L5.same t8) (E5.same t8) (by show 5 ≤ 127; decide) g3 (by show 1 ≤ 15; decide) (by show 1 ≤ 8; decide) w15 (by omega) (by rw [bo]; omega), fun H9 s9 => ⟨by show 3 ≤ sizeLine; decide, fun p10 g10 => ?_⟩⟩
      have s10 := same_new g10 (.lst [.str (Str.ofString "many"), .str (Str.ofString "many"), .str (Str.ofString "many")])
      have t10 := t8.trans (s9.trans s10)
      refine ⟨_, rfl, _, rfl, _, rfl, 3, _, _, _, _, rfl, .eitherM (O5.same t10) (O5.same t10) og og (by omega) (by omega) (by omega) (by omega) (by rw [ew]; omega), fun H11 s11 => ?_⟩
      have t11 := t10.trans s11
      refine ⟨_, rfl, 5, _, _, _, _, rfl, .eitherB ⟨_, .non, Tx.kt_NoneType_Rule⟩ (.inl ⟨e, r, rfl, E5.same t11, g3, w15, by omega, by omega⟩), fun H12 s12 => ?_⟩
      have t12 := t11.trans s12
      refine ⟨by show 0 ≤ sizeLine; decide, fun p13 g13 => ?_⟩
      have s13 := same_new g13 (.lst [])
      have t13 := t12.trans s13
      refine ⟨_, rfl, 6, _, _, _, _, rfl, .but (.inr ⟨p13, [], rfl, upd_same, fun x hx => by cases hx⟩) (.inl ⟨e, r, rfl, E5.same t13, g3, w15, by omega, by omega⟩) (.inl fun ⟨l, ds, el, hl, one, _⟩ => ?_), fun H14 s14 => ⟨by show 3 ≤ sizeLine; decide, fun p15 g15 => ?_⟩⟩
      · cases el
        rw [upd_same] at hl
        have hn := HO.lst.inj (Option.some.inj hl)
        cases ds with
        | nil => exact absurd one (by decide)
        | cons x y => cases hn
      have s15 := same_new g15 (.lst [.str (Str.ofString "many"), .str (Str.ofString "rule"), .str (Str.ofString "rule")])
      have u15 := (s11.trans s12).trans (s13.trans (s14.trans s15))
      refine ⟨p10, p15, _, _, rfl, rfl, u15 _ _ upd_same, upd_same, by show 6 ≤ sizeLine; decide, fun p16 g16 => ?_⟩
      have s16 := same_new g16 (.lst [.str (Str.ofString "many"), .str (Str.ofString "many"), .str (Str.ofString "many"), .str (Str.ofString "many"), .str (Str.ofString "rule"), .str (Str.ofString "rule")])
      have t16 := (t10.trans u15).trans s16
      refine ⟨_, rfl, by show 6 ≤ sizeLine; decide, fun p17 g17 => ?_⟩
      have s17 := same_new g17 (.lst [.str (Str.ofString "many"), .str (Str.ofString "many"), .str (Str.ofString "many"), .str (Str.ofString "many"), .str (Str.ofString "rule"), .str (Str.ofString "rule")])
      have t17 := t16.trans s17
      refine ⟨p16, p17, _, _, rfl, rfl, SqL.of (s17 _ _ upd_same), SqL.of upd_same, rfl, rfl, _, rfl, itF (by decide +kernel) ?_⟩
      obtain ⟨C2, dx2, fs2, l2, cl2, ⟨lk2, me2⟩, _⟩ := meth_at Tx (O5.same t17)
      refine ⟨_, rfl, o, C2, dx2, fs2, _, _, _, _, _, CX0, E0, rfl, l2, lk2, cl2, me2, weight_ok Tx 8, hr.mono (by omega), Tx.b_Rule_weight, pass0, o, ro, rfl, O5.same t17, by omega, by omega, fun H18 s18 => ?_⟩
      rw [ow']
      refine ⟨rfl, _, rfl, itF (by decide) ?_⟩
      have t18 := t17.trans s18
      obtain ⟨C3, dx3, fs3, l3, cl3, _, ⟨lk3, me3⟩⟩ := meth_at Tx (E5.same t18)
      refine ⟨_, rfl, e, C3, dx3, fs3, _, _, _, _, _, CX0, E0, rfl, l3, lk3, cl3, me3, depth_ok Tx 8, hr.mono (by omega), Tx.b_Rule_depth, pass0, e, r, rfl, E5.same t18, by omega, fun H19 s19 => ?_⟩
      rw [d8]
      refine ⟨rfl, _, rfl, itF (by decide) ?_⟩
      have c7 : k3 ≤ k + 7 := c1
      exact q k3 _ (B3.same (s5.trans (t18.trans s19))) c0 c7

structure OddV (H : Hp) (v : V) : Prop where
  kd : ∃ T, Kd H v T
  num : ∀ lo hi : Int, 0 ≤ lo → hi ≤ 9999 → numV v lo hi = false
  od : Odd1 H v
  ne : eqV v (.int 28) = false
theorem OddV.same {H H' : Hp} {v : V} (h : OddV H v) (s : Same H H') : OddV H' v := ⟨let ⟨T, k⟩ := h.kd; ⟨T, k.same s⟩, h.num, h.od.same s, h.ne⟩
theorem odd_of {H : Hp} {p1 p2 : Addr} {v : V} (h1 : H p1 = some (.lst [.int 3])) (h2 : H p2 = some (.dK [])) (hv : v ∈ [V.non, .bl true, .int (-1), .str (Str.ofString "3"), .ref p1, .ref p2, .int (10 ^ 20), .bl false]) : OddV H v := by
  simp only [List.mem_cons, List.not_mem_nil, or_false] at hv
  rcases hv with rfl | rfl | rfl | rfl | rfl | rfl | rfl | rfl
  · exact ⟨⟨_, .non⟩, fun _ _ _ _ => rfl, .inl rfl, rfl⟩
  · exact ⟨⟨_, .bl _⟩, fun _ _ _ _ => rfl, .inl rfl, by decide⟩
  · exact ⟨⟨_, .int _⟩, fun lo hi h0 hh => show decide (lo ≤ -1 ∧ (-1 : Int) ≤ hi) = false from decide_eq_false (fun z => by have := z.1; omega), .inl rfl, by decide⟩
  · exact ⟨⟨_, .str _⟩, fun _ _ _ _ => rfl, .inl rfl, rfl⟩
  · exact ⟨⟨_, .lst h1⟩, fun _ _ _ _ => rfl, .inr (.inl ⟨_, _, rfl, h1⟩), rfl⟩
  · exact ⟨⟨_, .dK h2⟩, fun _ _ _ _ => rfl, .inr (.inr (.inr ⟨_, _, rfl, h2⟩)), rfl⟩
  · exact ⟨⟨_, .int _⟩, fun lo hi h0 hh => show decide (lo ≤ 10 ^ 20 ∧ (10 ^ 20 : Int) ≤ hi) = false from decide_eq_false (fun z => by have := z.2; omega), .inl rfl, by decide⟩
  · exact ⟨⟨_, .bl _⟩, fun _ _ _ _ => rfl, .inl rfl, by decide⟩
theorem norule_of (Tx : Tab K mg t) {H : Hp} {p4 p5 : Addr} {v : V} (h4 : H p4 = some (.lst [])) (h5 : H p5 = some (.dK [])) (hv : v ∈ [V.non, .str (Str.ofString "always"), .int 5, .ref p4, .ref p5, .bl true]) : NoRl K t.c_Rule H v := by
  simp only [List.mem_cons, List.not_mem_nil, or_false] at hv
  rcases hv with rfl | rfl | rfl | rfl | rfl | rfl
  · exact ⟨_, .non, Tx.kt_NoneType_Rule⟩
  · exact ⟨_, .str _, Tx.kt_str_Rule⟩
  · exact ⟨_, .int _, Tx.kt_int_Rule⟩
  · exact ⟨_, .lst h4, Tx.kt_list_Rule⟩
  · exact ⟨_, .dK h5, Tx.kt_dict_Rule⟩
  · exact ⟨_, .bl _, Tx.kt_bool_Rule⟩
theorem nr_of {H : Hp} {l : Addr} {xs : List V} {hi : Int} (h : H l = some (.lst xs)) (no : ∀ ds : List Nat, xs = natV ds → 1 ≤ ds.length → ds.length ≤ 12 → ds.Pairwise (· < ·) → (∀ x ∈ ds, ((x : Nat) : Int) ≤ hi) → False) : ¬ RisV H (.ref l) hi := by
  rintro ⟨a, ds, e, ha, h1, h2, h3, h4⟩
  cases e
  rw [h] at ha
  exact no ds (HO.lst.inj (Option.some.inj ha)) h1 h2 h3 h4
theorem ris_le {H : Hp} {v : V} {hi hi' : Int} (h : hi ≤ hi') (r : RisV H v hi) : RisV H v hi' := by
  obtain ⟨a, ds, e, ha, h1, h2, h3, h4⟩ := r
  exact ⟨a, ds, e, ha, h1, h2, h3, fun x hx => Int.le_trans (h4 x hx) h⟩
inductive RowV (H : Hp) : V → Prop
  | non : RowV H .non
  | tup {l : Addr} {xs : List V} (h : H l = some (.tup xs)) : RowV H (.ref l)
  | no {l : Addr} {xs : List V} (h : H l = some (.lst xs)) (od : ∀ x ∈ xs, Odd1 H x) (kd : ∀ x ∈ xs, ∃ T, Kd H x T) (ne : eqL xs [.int 0, .int 28] = false) (nr : ¬ RisV H (.ref l) 9999) : RowV H (.ref l)
  | own {l : Addr} (h : H l = some (.lst [.int 0, .int 28])) : RowV H (.ref l)
theorem kd_int (H : Hp) {x : V} {ns : List Int} (h : x ∈ ns.map V.int) : ∃ T, Kd H x T := by
  obtain ⟨n, _, rfl⟩ := List.mem_map.mp h
  exact ⟨_, .int n⟩
theorem RowV.lists {H : Hp} {v : V} (h : RowV H v) : Lists H v := by
  cases h with
  | non => exact .inl ⟨_, .non, by decide⟩
  | tup h => exact .inl ⟨_, .tup h, by decide⟩
  | no h od kd ne nr => exact .inr ⟨_, _, rfl, h, kd⟩
  | own h => exact .inr ⟨_, _, rfl, h, fun x hx => kd_int H (ns := [0, 28]) hx⟩
theorem RowV.nr {H : Hp} {v : V} (h : RowV H v) : ¬ RisV H v 27 := by
  cases h with
  | non =>
    rintro ⟨a, ds, e, _⟩
    cases e
  | tup h =>
    rintro ⟨a, ds, e, ha, _⟩
    cases e
    rw [h] at ha
    cases ha
  | no h od kd ne nr => exact fun z => nr (ris_le (by decide) z)
  | own h =>
    exact nr_of h fun ds e _ _ _ h4 => by
      have e2 := natV_inj (a := [0, 28]) e
      subst e2
      exact absurd (h4 28 (by simp)) (by decide)
theorem RowV.same {H H' : Hp} {v : V} (h : RowV H v) (s : Same H H') : RowV H' v := by
  cases h with
  | non => exact .non
  | tup h => exact .tup (s _ _ h)
  | no h od kd ne nr => exact .no (s _ _ h) (fun x hx => (od x hx).same s) (fun x hx => let ⟨T, k⟩ := kd x hx; ⟨T, k.same s⟩) ne (fun z => nr (RisV.back (.inr ⟨_, _, rfl, h, kd⟩) s z))
  | own h => exact .own (s _ _ h)
theorem rows_of {H : Hp} {q1 q2 q3 q4 q5 q6 q8 q9 : Addr} {ov v : V} (o : OddV H ov) (h1 : H q1 = some (.lst [])) (h2 : H q2 = some (.lst [.int 3, .int 3])) (h3 : H q3 = some (.lst [.int 5, .int 2])) (h4 : H q4 = some (.lst [.int 0, .int 28])) (h5 : H q5 = some (.tup [.int 1, .int 2]))
    (h6 : H q6 = some (.lst [ov])) (h8 : H q8 = some (.lst (natV (List.range 13)))) (h9 : H q9 = some (.lst [.int 0, ov])) (hv : v ∈ [V.ref q1, .ref q2, .ref q3, .ref q4, .ref q5, .ref q6, .ref q8, .ref q9, .non]) : RowV H v := by
  have oi : ∀ {ns : List Int} {x : V}, x ∈ ns.map V.int → Odd1 H x := fun {ns x} h => by
    obtain ⟨n, _, rfl⟩ := List.mem_map.mp h
    exact .inl rfl
  simp only [List.mem_cons, List.not_mem_nil, or_false] at hv
  rcases hv with rfl | rfl | rfl | rfl | rfl | rfl | rfl | rfl | rfl
  · exact .no h1 (fun x hx => by cases hx) (fun x hx => by cases hx) rfl (nr_of h1 fun ds e l1 _ _ _ => by
      have e2 := natV_inj (a := []) e
      subst e2
      exact absurd l1 (by decide))
  · exact .no h2 (fun x hx => oi (ns := [3, 3]) hx) (fun x hx => kd_int H (ns := [3, 3]) hx) (by decide) (nr_of h2 fun ds e _ _ l3 _ => by
      have e2 := natV_inj (a := [3, 3]) e
      subst e2
      exact absurd l3 (by decide))
  · exact .no h3 (fun x hx => oi (ns := [5, 2]) hx) (fun x hx => kd_int H (ns := [5, 2]) hx) (by decide) (nr_of h3 fun ds e _ _ l3 _ => by
      have e2 := natV_inj (a := [5, 2]) e
      subst e2
      exact absurd l3 (by decide))
  · exact .own h4
  · exact .tup h5
  · exact .no h6 (fun x hx => by cases List.mem_singleton.mp hx; exact o.od) (fun x hx => by cases List.mem_singleton.mp hx; exact o.kd) (eqL_len (by simp)) (nr_of h6 fun ds e _ _ _ l4 => by
      match ds, e, l4 with
      | [d], e, l4 =>
        have e2 := (List.cons.inj e).1
        have hd := l4 d (by simp)
        have := o.num 0 9999 (by decide) (by decide)
        rw [e2, num_ok (by omega) (by omega)] at this
        cases this
      | [], e, _ => cases e
      | _ :: _ :: _, e, _ => cases (List.cons.inj e).2)
  · exact .no h8 (fun x hx => by obtain ⟨n, _, rfl⟩ := List.mem_map.mp hx; exact .inl rfl) (fun x hx => kinds_nat _ x hx) (eqL_len (by decide)) (nr_of h8 fun ds e _ l2 _ _ => by
      have e2 := natV_inj e
      subst e2
      exact absurd l2 (by decide))
  · exact .no h9 (fun x hx => by
        rcases List.mem_cons.mp hx with rfl | hx
        · exact .inl rfl
        · cases List.mem_singleton.mp hx; exact o.od) (fun x hx => by
        rcases List.mem_cons.mp hx with rfl | hx
        · exact ⟨_, .int _⟩
        · cases List.mem_singleton.mp hx; exact o.kd) (by
        show (true && (eqV ov (.int 28) && true)) = false
        rw [o.ne]
        rfl) (nr_of h9 fun ds e _ _ _ l4 => by
      match ds, e, l4 with
      | [_, d], e, l4 =>
        have e2 := (List.cons.inj (List.cons.inj e).2).1
        have hd := l4 d (by simp)
        have := o.num 0 9999 (by decide) (by decide)
        rw [e2, num_ok (by omega) (by omega)] at this
        cases this
      | [], e, _ => cases e
      | [_], e, _ => cases (List.cons.inj e).2
      | _ :: _ :: _ :: _, e, _ => cases (List.cons.inj (List.cons.inj e).2).2)
  · exact .non
theorem RArg.same {n : Nat} {H H' : Hp} {v : V} (h : RArg t K n H v) (s : Same H H') : RArg t K n H' v := by
  rcases h with ⟨i, r, e, h, g⟩ | h
  · exact .inl ⟨i, r, e, h.same s, g⟩
  · exact .inr (h.same s)
theorem Tri.same {H H' : Hp} {n : Nat} {u v rv : V} {x : String} (h : Tri t K H n u v rv x) (s : Same H H') : Tri t K H' n u v rv x := by
  cases h with
  | week k hn => exact .week (k.same s) hn
  | span kf kl ra hn => exact .span (kf.same s) (kl.same s) (ra.same s) (hn.imp id (·.imp id (·.same s)))
  | spanM h g hw hd no => exact .spanM (h.same s) g hw hd no
  | each k hl hn => exact .each (k.same s) (hl.same s) (hn.imp id fun z y => z (RisV.back hl s y))
  | eitherA hu ra => exact .eitherA (hu.same s) (ra.same s)
  | eitherM h h' g g' a b c d no => exact .eitherM (h.same s) (h'.same s) g g' a b c d no
  | bothA hu ra => exact .bothA (hu.same s) (ra.same s)
  | bothM h h' g g' a b c d no => exact .bothM (h.same s) (h'.same s) g g' a b c d no
  | eitherB hu ra => exact .eitherB (hu.same s) (ra.same s)
  | but hl ra hn => exact .but (hl.same s) (ra.same s) (hn.imp (fun z y => z (RisV.back hl s y)) (·.same s))
  | butM hl h g hw hd no => exact .butM (s _ _ hl) (h.same s) g hw hd no
def Ask (t : Adr) (K : W.Frag) (H : Hp) (x : V) : Prop := ∃ (a : Addr) (n : Nat) (u v rv : V), x = .ref a ∧ H a = some (.tup [.int (n : Nat), u, v, rv]) ∧ Tri t K H n u v rv "rule"
theorem Ask.same {H H' : Hp} {x : V} (h : Ask t K H x) (s : Same H H') : Ask t K H' x := by
  obtain ⟨a, n, u, v, rv, e, h, g⟩ := h
  exact ⟨a, n, u, v, rv, e, s _ _ h, g.same s⟩

theorem ask11 {H : Hp} {x1 x2 x3 x4 x5 x6 x7 x8 x9 x10 x11 : V} (h1 : Ask t K H x1) (h2 : Ask t K H x2) (h3 : Ask t K H x3) (h4 : Ask t K H x4) (h5 : Ask t K H x5) (h6 : Ask t K H x6) (h7 : Ask t K H x7) (h8 : Ask t K H x8) (h9 : Ask t K H x9) (h10 : Ask t K H x10) (h11 : Ask t K H x11) : ∀ x ∈ [x1, x2, x3, x4, x5, x6, x7, x8, x9, x10, x11], Ask t K H x := by
  intro x hx
  simp only [List.mem_cons, List.not_mem_nil, or_false] at hx
  rcases hx with rfl | rfl | rfl | rfl | rfl | rfl | rfl | rfl | rfl | rfl | rfl <;> assumption
theorem ask_more {H : Hp} {l : List V} {x y z : V} (h : ∀ x ∈ l, Ask t K H x) (hx : Ask t K H x) (hy : Ask t K H y) (hz : Ask t K H z) : ∀ v ∈ l ++ [x, y, z], Ask t K H v := by
  intro v hv
  rcases List.mem_append.mp hv with hv | hv
  · exact h v hv
  · simp only [List.mem_cons, List.not_mem_nil, or_false] at hv
    rcases hv with rfl | rfl | rfl <;> assumption
def spRefused (t : Adr) (K : W.Frag) : Sp := fun vs H Q _ => ∃ (n : Nat) (a : Addr) (r : RT), vs = [.int (n : Nat), .ref a] ∧ RAt (rc t) K H a r ∧ r.good ∧ r.weight ≤ 15 ∧ r.depth ≤ 8 ∧ ∀ H', Same H H' → Q (.bl true) H'
theorem ok_law_refused (Tx : Tab K mg t) : FnOk P w K mg base CX0 48 t.f_law_refused t.d_law_refused ["_law_number", "_law_rule"] (spRefused t K) := by
  refine Tx.F_law_refused.ok sc_law_refused (fun vs H Q E h => ?_) (fun cdv A outer s H vs Q E hr h => ?_)
  · obtain ⟨n, a, r, rfl, _⟩ := h
    rfl
  obtain ⟨n, a, r, rfl, hR, gR, wR, dR, q⟩ := h
  refine ⟨_, (pss_cons (ps_set (i := 2) sc_law_refused.nd rfl (Or.inl rfl) (pe_ix ix_list (pe_lst (pac pe_non (pac pe_bl (pac (pe_un un_neg pe_int) (pac pe_str (pac (pe_lst (pac pe_int pa_nil)) (pac pe_dnew (pac (pe_op op_pow pe_int pe_int) (pac pe_bl pa_nil))))))))) (pe_op op_mod (pv 0) pe_int) (fun _ _ => rfl)))
    (pss_cons (ps_set (i := 3) sc_law_refused.nd rfl (Or.inl rfl) (pe_ix ix_list (pe_lst (pac pe_non (pac pe_str (pac pe_int (pac (pe_lst pa_nil) (pac pe_dnew (pac pe_bl pa_nil))))))) (pe_op op_mod (pe_op op_fdiv (pv 0) pe_int) pe_int) (fun _ _ => rfl)))
    (pss_cons (ps_set (i := 4) sc_law_refused.nd rfl (Or.inl rfl) (pe_ix ix_list (pe_lst (pac (pe_lst pa_nil) (pac (pe_lst (pac pe_int (pac pe_int pa_nil))) (pac (pe_lst (pac pe_int (pac pe_int pa_nil))) (pac (pe_lst (pac pe_int (pac pe_int pa_nil))) (pac (pe_tup (pac pe_int (pac pe_int pa_nil))) (pac (pe_lst (pac (pv 2) pa_nil)) (pac (pe_callTy (call_list_rng rfl) rfl Tx.z_list b_list (pac (pe_callTy call_range1 rfl Tx.z_range b_range (pac pe_int pa_nil)) pa_nil)) (pac (pe_lst (pac pe_int (pac (pv 2) pa_nil))) (pac pe_non pa_nil)))))))))) (pe_op op_mod (pe_op op_fdiv (pv 0) pe_int) pe_int) (fun _ _ => rfl)))
    (pss_cons (ps_set (i := 5) sc_law_refused.nd rfl (Or.inl rfl) (pe_lst (pac (pe_tup (pac pe_int (pac (pe_ix ix_list (pe_lst (pac (pv 2) (pac pe_int pa_nil))) (pe_op op_mod (pe_op op_fdiv (pv 0) pe_int) pe_int) (fun _ _ => rfl)) (pac pe_int (pac (pv 1) pa_nil))))) (pac (pe_tup (pac pe_int (pac (pv 2) (pac pe_int (pac (pv 1) pa_nil))))) (pac (pe_tup (pac pe_int (pac pe_int (pac (pv 2) (pac (pv 1) pa_nil))))) (pac (pe_tup (pac pe_int (pac pe_int (pac pe_int (pac (pv 1) pa_nil))))) pa_nil))))))
    (pss_cons (ps_set (i := 5) sc_law_refused.nd rfl (Or.inl rfl) (pe_op op_cat (pv 5) (pe_lst (pac (pe_tup (pac pe_int (pac pe_int (pac pe_int (pac (pv 1) pa_nil))))) (pac (pe_tup (pac pe_int (pac pe_int (pac pe_int (pac (pv 3) pa_nil))))) (pac (pe_tup (pac pe_int (pac (pe_ix ix_list (pe_lst (pac (pv 2) (pac pe_int (pac pe_int pa_nil)))) (pe_op op_mod (pe_op op_fdiv (pv 0) pe_int) pe_int) (fun _ _ => rfl)) (pac (pe_lst (pac pe_int pa_nil)) (pac (pv 1) pa_nil))))) pa_nil))))))
    (pss_cons (ps_set (i := 5) sc_law_refused.nd rfl (Or.inl rfl) (pe_op op_cat (pv 5) (pe_lst (pac (pe_tup (pac pe_int (pac pe_int (pac (pv 4) (pac (pv 1) pa_nil))))) (pac (pe_tup (pac pe_int (pac pe_int (pac (pe_lst (pac pe_int pa_nil)) (pac (pv 1) pa_nil))))) (pac (pe_tup (pac pe_int (pac (pv 3) (pac pe_int (pac (pv 1) pa_nil))))) (pac (pe_tup (pac pe_int (pac (pv 3) (pac pe_int (pac (pv 1) pa_nil))))) pa_nil)))))))
    (pss_join (ps_if (pt_cmpR (op_row hr.units) (pv 4) (pe_lst (pac pe_int (pac pe_int pa_nil))) (nomark _))
    (pss_one (ps_set (i := 4) sc_law_refused.nd rfl (Or.inl rfl) (pe_lst (pac pe_int (pac pe_int pa_nil)))))
    pss_nil)
    (pss_cons (ps_set (i := 5) sc_law_refused.nd rfl (Or.inl rfl) (pe_op op_cat (pv 5) (pe_lst (pac (pe_tup (pac pe_int (pac (pv 3) (pac pe_int (pac (pv 1) pa_nil))))) (pac (pe_tup (pac pe_int (pac (pv 4) (pac pe_int (pac (pv 1) pa_nil))))) (pac (pe_tup (pac pe_int (pac (pe_lst (pac pe_int pa_nil)) (pac pe_int (pac (pv 3) pa_nil))))) pa_nil))))))
    (pss_cons (ps_for PassesOwn.never rfl (pi_list (pv 5)) (pg_tup rfl (pgs_cons (pg_name (i := 6) sc_law_refused.nd rfl (Or.inl rfl)) (pgs_cons (pg_name (i := 7) sc_law_refused.nd rfl (Or.inl rfl)) (pgs_cons (pg_name (i := 8) sc_law_refused.nd rfl (Or.inl rfl)) (pgs_cons (pg_name (i := 9) sc_law_refused.nd rfl (Or.inl rfl)) pgs_nil)))))
    (pss_one (ps_if (pt_cmpR op_ne (pe_call (ok_law_tried Tx) (hr.mono (by omega)) rfl Tx.m_law_tried Tx.F_law_tried.kp Tx.b_law_tried .nil pass0 (pac (pv 6) (pac (pv 7) (pac (pv 8) (pac (pv 9) pa_nil))))) pe_str (nomark _))
    (pss_one (ps_ret pe_bl))
    pss_nil)))
    (pss_one (ps_ret pe_bl))))))))))), ?_⟩
  refine ⟨_, rfl, by show 1 ≤ sizeLine; decide, fun p1 g1 => ?_⟩
  intro p2 g2
  refine ⟨_, _, rfl, rfl, ⟨by decide, by decide, by decide⟩, by show 8 ≤ sizeLine; decide, fun p3 g3 => ?_⟩
  have s_p1 := same_new g1 (.lst [.int 3])
  have s_p2 := same_new g2 (.dK [])
  have s_p3 := same_new g3 (.lst [V.non, .bl true, .int (-1), .str (Str.ofString "3"), .ref p1, .ref p2, .int (10 ^ 20), .bl false])
  obtain ⟨ov, eo, oM⟩ := at_all (p := fun v => v ∈ ([V.non, .bl true, .int (-1), .str (Str.ofString "3"), .ref p1, .ref p2, .int (10 ^ 20), .bl false] : List V)) (xs := [V.non, .bl true, .int (-1), .str (Str.ofString "3"), .ref p1, .ref p2, .int (10 ^ 20), .bl false]) (d := ((n : Nat) : Int) % 8) (fun v hv => hv) (Int.emod_nonneg _ (by decide)) (by show ((n : Nat) : Int) % 8 < 8; exact Int.emod_lt_of_pos _ (by decide))
  refine ⟨_, rfl, _, _, rfl, rfl, (by show (0 : Int) < 8; decide), p3, _, _, _, rfl, rfl, SqL.of upd_same, eo, ?_⟩
  have O1 := odd_of (s_p3 _ _ (s_p2 _ _ upd_same)) (s_p3 _ _ upd_same) oM
  refine ⟨by show 0 ≤ sizeLine; decide, fun p4 g4 => ?_⟩
  intro p5 g5
  refine ⟨by show 6 ≤ sizeLine; decide, fun p6 g6 => ?_⟩
  have s_p4 := same_new g4 (.lst [])
  have s_p5 := same_new g5 (.dK [])
  have s_p6 := same_new g6 (.lst [V.non, .str (Str.ofString "always"), .int 5, .ref p4, .ref p5, .bl true])
  obtain ⟨nv, en, nM⟩ := at_all (p := fun v => v ∈ ([V.non, .str (Str.ofString "always"), .int 5, .ref p4, .ref p5, .bl true] : List V)) (xs := [V.non, .str (Str.ofString "always"), .int 5, .ref p4, .ref p5, .bl true]) (d := ((n : Nat) : Int) / 8 % 6) (fun v hv => hv) (Int.emod_nonneg _ (by decide)) (by show ((n : Nat) : Int) / 8 % 6 < 6; exact Int.emod_lt_of_pos _ (by decide))
  refine ⟨_, rfl, _, _, rfl, rfl, ⟨by decide, by decide⟩, _, _, rfl, rfl, (by show (0 : Int) < 6; decide), p6, _, _, _, rfl, rfl, SqL.of upd_same, en, ?_⟩
  have N1 := norule_of Tx (s_p6 _ _ (s_p5 _ _ upd_same)) (s_p6 _ _ upd_same) nM
  refine ⟨by show 0 ≤ sizeLine; decide, fun q1 k1 => ⟨by show 2 ≤ sizeLine; decide, fun q2 k2 => ⟨by show 2 ≤ sizeLine; decide, fun q3 k3 => ⟨by show 2 ≤ sizeLine; decide, fun q4 k4 => ⟨by show 2 ≤ sizeLine; decide, fun q5 k5 => ⟨_, rfl, by show 1 ≤ sizeLine; decide, fun q6 k6 => ⟨13, rfl, by decide, fun q7 k7 => ⟨q7, 13, rfl, upd_same, by decide, fun q8 k8 => ⟨_, rfl, by show 2 ≤ sizeLine; decide, fun q9 k9 => ⟨by show 9 ≤ sizeLine; decide, fun q10 k10 => ?_⟩⟩⟩⟩⟩⟩⟩⟩⟩⟩
  have s_q1 := same_new k1 (.lst [])
  have s_q2 := same_new k2 (.lst [.int 3, .int 3])
  have s_q3 := same_new k3 (.lst [.int 5, .int 2])
  have s_q4 := same_new k4 (.lst [.int 0, .int 28])
  have s_q5 := same_new k5 (.tup [.int 1, .int 2])
  have s_q6 := same_new k6 (.lst [ov])
  have s_q7 := same_new k7 (.rng 0 ((13 : Nat) : Int))
  have s_q8 := same_new k8 (.lst (natV (List.range 13)))
  have s_q9 := same_new k9 (.lst [.int 0, ov])
  have s_q10 := same_new k10 (.lst [V.ref q1, .ref q2, .ref q3, .ref q4, .ref q5, .ref q6, .ref q8, .ref q9, .non])
  obtain ⟨wv, ew, wM⟩ := at_all (p := fun v => v ∈ ([V.ref q1, .ref q2, .ref q3, .ref q4, .ref q5, .ref q6, .ref q8, .ref q9, .non] : List V)) (xs := [V.ref q1, .ref q2, .ref q3, .ref q4, .ref q5, .ref q6, .ref q8, .ref q9, .non]) (d := ((n : Nat) : Int) / 48 % 9) (fun v hv => hv) (Int.emod_nonneg _ (by decide)) (by show ((n : Nat) : Int) / 48 % 9 < 9; exact Int.emod_lt_of_pos _ (by decide))
  refine ⟨_, rfl, _, _, rfl, rfl, ⟨by decide, by decide⟩, _, _, rfl, rfl, (by show (0 : Int) < 9; decide), q10, _, _, _, rfl, rfl, SqL.of upd_same, ew, ?_⟩
  have O3 := O1.same ((((((((((((s_p4.trans s_p5).trans s_p6).trans s_q1).trans s_q2).trans s_q3).trans s_q4).trans s_q5).trans s_q6).trans s_q7).trans s_q8).trans s_q9).trans s_q10)
  have R3 := rows_of O3 (((((((((s_q2.trans s_q3).trans s_q4).trans s_q5).trans s_q6).trans s_q7).trans s_q8).trans s_q9).trans s_q10) _ _ upd_same) ((((((((s_q3.trans s_q4).trans s_q5).trans s_q6).trans s_q7).trans s_q8).trans s_q9).trans s_q10) _ _ upd_same) (((((((s_q4.trans s_q5).trans s_q6).trans s_q7).trans s_q8).trans s_q9).trans s_q10) _ _ upd_same) ((((((s_q5.trans s_q6).trans s_q7).trans s_q8).trans s_q9).trans s_q10) _ _ upd_same) (((((s_q6.trans s_q7).trans s_q8).trans s_q9).trans s_q10) _ _ upd_same) ((((s_q7.trans s_q8).trans s_q9).trans s_q10) _ _ upd_same) ((s_q9.trans s_q10) _ _ upd_same) (s_q10 _ _ upd_same) wM
  have N3 := N1.same (((((((((s_q1.trans s_q2).trans s_q3).trans s_q4).trans s_q5).trans s_q6).trans s_q7).trans s_q8).trans s_q9).trans s_q10)
  have S3 := (((((((((((((((s_p1.trans s_p2).trans s_p3).trans s_p4).trans s_p5).trans s_p6).trans s_q1).trans s_q2).trans s_q3).trans s_q4).trans s_q5).trans s_q6).trans s_q7).trans s_q8).trans s_q9).trans s_q10)
  have RR3 := hR.same S3
  refine ⟨_, rfl, by show 2 ≤ sizeLine; decide, fun m1 j1 => ?_⟩
  have s_m1 := same_new j1 (.lst [ov, .int 128])
  obtain ⟨bv, eb, bM⟩ := at_all (p := fun v => v ∈ ([ov, .int 128] : List V)) (xs := [ov, .int 128]) (d := ((n : Nat) : Int) / 432 % 2) (fun v hv => hv) (Int.emod_nonneg _ (by decide)) (by show ((n : Nat) : Int) / 432 % 2 < 2; exact Int.emod_lt_of_pos _ (by decide))
  refine ⟨_, rfl, _, _, rfl, rfl, ⟨by decide, by decide⟩, _, _, rfl, rfl, (by show (0 : Int) < 2; decide), m1, _, _, _, rfl, rfl, SqL.of upd_same, eb, _, rfl, by show 4 ≤ sizeLine; decide, fun t1 a1 => ⟨_, rfl, _, rfl, by show 4 ≤ sizeLine; decide, fun t2 a2 => ⟨_, rfl, _, rfl, by show 4 ≤ sizeLine; decide, fun t3 a3 => ⟨_, rfl, by show 4 ≤ sizeLine; decide, fun t4 a4 => ⟨by show 4 ≤ sizeLine; decide, fun l1 b1 => ?_⟩⟩⟩⟩⟩
  have s_t1 := same_new a1 (.tup [.int 0, bv, .int 0, .ref a])
  have s_t2 := same_new a2 (.tup [.int 1, ov, .int 9, .ref a])
  have s_t3 := same_new a3 (.tup [.int 1, .int 5, ov, .ref a])
  have s_t4 := same_new a4 (.tup [.int 1, .int 6, .int 5, .ref a])
  have s_l1 := same_new b1 (.lst [.ref t1, .ref t2, .ref t3, .ref t4])
  refine ⟨_, rfl, _, rfl, by show 4 ≤ sizeLine; decide, fun t5 a5 => ⟨_, rfl, by show 4 ≤ sizeLine; decide, fun t6 a6 => ⟨_, rfl, by show 3 ≤ sizeLine; decide, fun m2 j2 => ?_⟩⟩⟩
  have s_t5 := same_new a5 (.tup [.int 1, .int 0, .int 10000, .ref a])
  have s_t6 := same_new a6 (.tup [.int 1, .int 0, .int 9, nv])
  have s_m2 := same_new j2 (.lst [ov, .int 0, .int 29])
  obtain ⟨cv, ec, cM⟩ := at_all (p := fun v => v ∈ ([ov, .int 0, .int 29] : List V)) (xs := [ov, .int 0, .int 29]) (d := ((n : Nat) : Int) / 864 % 3) (fun v hv => hv) (Int.emod_nonneg _ (by decide)) (by show ((n : Nat) : Int) / 864 % 3 < 3; exact Int.emod_lt_of_pos _ (by decide))
  refine ⟨_, rfl, _, _, rfl, rfl, ⟨by decide, by decide⟩, _, _, rfl, rfl, (by show (0 : Int) < 3; decide), m2, _, _, _, rfl, rfl, SqL.of upd_same, ec, by show 1 ≤ sizeLine; decide, fun m3 j3 => ⟨_, rfl, by show 4 ≤ sizeLine; decide, fun t7 a7 => ⟨by show 3 ≤ sizeLine; decide, fun l2 b2 => ?_⟩⟩⟩
  have s_m3 := same_new j3 (.lst [.int 0])
  have s_t7 := same_new a7 (.tup [.int 2, cv, .ref m3, .ref a])
  have s_l2 := same_new b2 (.lst [.ref t5, .ref t6, .ref t7])
  refine ⟨l1, l2, _, _, rfl, rfl, ((((((s_t5.trans s_t6).trans s_m2).trans s_m3).trans s_t7).trans s_l2) _ _ upd_same), upd_same, by show 7 ≤ sizeLine; decide, fun l3 b3 => ?_⟩
  have s_l3 := same_new b3 (.lst ([.ref t1, .ref t2, .ref t3, .ref t4] ++ [.ref t5, .ref t6, .ref t7]))
  refine ⟨_, rfl, _, rfl, _, rfl, by show 4 ≤ sizeLine; decide, fun t8 a8 => ⟨by show 1 ≤ sizeLine; decide, fun m4 j4 => ⟨_, rfl, by show 4 ≤ sizeLine; decide, fun t9 a9 => ⟨_, rfl, _, rfl, by show 4 ≤ sizeLine; decide, fun t10 a10 => ⟨_, rfl, _, rfl, by show 4 ≤ sizeLine; decide, fun t11 a11 => ⟨by show 4 ≤ sizeLine; decide, fun l4 b4 => ?_⟩⟩⟩⟩⟩⟩
  have s_t8 := same_new a8 (.tup [.int 2, .int 28, wv, .ref a])
  have s_m4 := same_new j4 (.lst [.int 4])
  have s_t9 := same_new a9 (.tup [.int 2, .int 4, .ref m4, .ref a])
  have s_t10 := same_new a10 (.tup [.int 3, nv, .int 0, .ref a])
  have s_t11 := same_new a11 (.tup [.int 4, nv, .int 0, .ref a])
  have s_l4 := same_new b4 (.lst [.ref t8, .ref t9, .ref t10, .ref t11])
  refine ⟨l3, l4, _, _, rfl, rfl, ((((((s_t8.trans s_m4).trans s_t9).trans s_t10).trans s_t11).trans s_l4) _ _ upd_same), upd_same, by show 11 ≤ sizeLine; decide, fun l5 b5 => ?_⟩
  have s_l5 := same_new b5 (.lst ([.ref t1, .ref t2, .ref t3, .ref t4] ++ [.ref t5, .ref t6, .ref t7] ++ [.ref t8, .ref t9, .ref t10, .ref t11]))
  have S5 := (((((((((((((((((((s_m1.trans s_t1).trans s_t2).trans s_t3).trans s_t4).trans s_l1).trans s_t5).trans s_t6).trans s_m2).trans s_m3).trans s_t7).trans s_l2).trans s_l3).trans s_t8).trans s_m4).trans s_t9).trans s_t10).trans s_t11).trans s_l4).trans s_l5)
  have O5 := O3.same S5
  have N5 := N3.same S5
  have R5 := R3.same S5
  have RR5 := RR3.same S5
  obtain ⟨TO, KO⟩ := O5.kd
  have RA : RArg t K 8 _ (.ref a) := .inl ⟨a, r, rfl, RR5, gR, wR, dR, dR⟩
  have KB : ∀ {Hx : Hp}, OddV Hx ov → (∃ T, Kd Hx bv T) ∧ numV bv 0 127 = false := fun {Hx} o => by
    rcases List.mem_cons.mp bM with rfl | z
    · exact ⟨o.kd, o.num _ _ (by decide) (by decide)⟩
    · cases List.mem_singleton.mp z
      exact ⟨⟨_, .int _⟩, by decide⟩
  obtain ⟨⟨TB, KB⟩, NB⟩ := KB O5
  have KC : ∀ {Hx : Hp}, OddV Hx ov → (∃ T, Kd Hx cv T) ∧ numV cv 1 28 = false := fun {Hx} o => by
    rcases List.mem_cons.mp cM with rfl | z
    · exact ⟨o.kd, o.num _ _ (by decide) (by decide)⟩
    · rcases List.mem_cons.mp z with rfl | z
      · exact ⟨⟨_, .int _⟩, by decide⟩
      · cases List.mem_singleton.mp z
        exact ⟨⟨_, .int _⟩, by decide⟩
  obtain ⟨⟨TC, KC⟩, NC⟩ := KC O5
  have Tt1 : Ask t K _ (.ref t1) := ⟨t1, 0, bv, .int 0, .ref a, rfl, ((((((((((((((((((s_t2.trans s_t3).trans s_t4).trans s_l1).trans s_t5).trans s_t6).trans s_m2).trans s_m3).trans s_t7).trans s_l2).trans s_l3).trans s_t8).trans s_m4).trans s_t9).trans s_t10).trans s_t11).trans s_l4).trans s_l5) _ _ upd_same), .week KB NB⟩
  have Tt2 : Ask t K _ (.ref t2) := ⟨t2, 1, ov, .int 9, .ref a, rfl, (((((((((((((((((s_t3.trans s_t4).trans s_l1).trans s_t5).trans s_t6).trans s_m2).trans s_m3).trans s_t7).trans s_l2).trans s_l3).trans s_t8).trans s_m4).trans s_t9).trans s_t10).trans s_t11).trans s_l4).trans s_l5) _ _ upd_same), .span KO (.int _) RA (.inl (O5.num _ _ (by decide) (by decide)))⟩
  have Tt3 : Ask t K _ (.ref t3) := ⟨t3, 1, .int 5, ov, .ref a, rfl, ((((((((((((((((s_t4.trans s_l1).trans s_t5).trans s_t6).trans s_m2).trans s_m3).trans s_t7).trans s_l2).trans s_l3).trans s_t8).trans s_m4).trans s_t9).trans s_t10).trans s_t11).trans s_l4).trans s_l5) _ _ upd_same), .span (.int _) KO RA (.inr (.inl (O5.num _ _ (by decide) (by decide))))⟩
  have Tt4 : Ask t K _ (.ref t4) := ⟨t4, 1, .int 6, .int 5, .ref a, rfl, (((((((((((((((s_l1.trans s_t5).trans s_t6).trans s_m2).trans s_m3).trans s_t7).trans s_l2).trans s_l3).trans s_t8).trans s_m4).trans s_t9).trans s_t10).trans s_t11).trans s_l4).trans s_l5) _ _ upd_same), .span (.int _) (.int _) RA (.inr (.inl (by decide)))⟩
  have Tt5 : Ask t K _ (.ref t5) := ⟨t5, 1, .int 0, .int 10000, .ref a, rfl, (((((((((((((s_t6.trans s_m2).trans s_m3).trans s_t7).trans s_l2).trans s_l3).trans s_t8).trans s_m4).trans s_t9).trans s_t10).trans s_t11).trans s_l4).trans s_l5) _ _ upd_same), .span (.int _) (.int _) RA (.inr (.inl (by decide)))⟩
  have Tt6 : Ask t K _ (.ref t6) := ⟨t6, 1, .int 0, .int 9, nv, rfl, ((((((((((((s_m2.trans s_m3).trans s_t7).trans s_l2).trans s_l3).trans s_t8).trans s_m4).trans s_t9).trans s_t10).trans s_t11).trans s_l4).trans s_l5) _ _ upd_same), .span (.int _) (.int _) (.inr N5) (.inr (.inr N5))⟩
  have Lm3 : Lists _ (.ref m3) := .inr ⟨m3, _, rfl, ((((((((((s_t7.trans s_l2).trans s_l3).trans s_t8).trans s_m4).trans s_t9).trans s_t10).trans s_t11).trans s_l4).trans s_l5) _ _ upd_same), fun x hx => kd_int _ (ns := [0]) hx⟩
  have Tt7 : Ask t K _ (.ref t7) := ⟨t7, 2, cv, .ref m3, .ref a, rfl, (((((((((s_l2.trans s_l3).trans s_t8).trans s_m4).trans s_t9).trans s_t10).trans s_t11).trans s_l4).trans s_l5) _ _ upd_same), .each KC Lm3 (.inl NC)⟩
  have Tt8 : Ask t K _ (.ref t8) := ⟨t8, 2, .int 28, wv, .ref a, rfl, ((((((s_m4.trans s_t9).trans s_t10).trans s_t11).trans s_l4).trans s_l5) _ _ upd_same), .each (.int _) R5.lists (.inr R5.nr)⟩
  have hm4 := (((((s_t9.trans s_t10).trans s_t11).trans s_l4).trans s_l5) _ _ upd_same)
  have Lm4 : Lists _ (.ref m4) := .inr ⟨m4, _, rfl, hm4, fun x hx => kd_int _ (ns := [4]) hx⟩
  have Nm4 : ¬ RisV _ (.ref m4) 3 := nr_of hm4 fun ds e _ _ _ h4 => by
    have e2 := natV_inj (a := [4]) e
    subst e2
    exact absurd (h4 4 (by simp)) (by decide)
  have Tt9 : Ask t K _ (.ref t9) := ⟨t9, 2, .int 4, .ref m4, .ref a, rfl, ((((s_t10.trans s_t11).trans s_l4).trans s_l5) _ _ upd_same), .each (.int _) Lm4 (.inr Nm4)⟩
  have Tt10 : Ask t K _ (.ref t10) := ⟨t10, 3, nv, .int 0, .ref a, rfl, (((s_t11.trans s_l4).trans s_l5) _ _ upd_same), .eitherA N5 RA⟩
  have Tt11 : Ask t K _ (.ref t11) := ⟨t11, 4, nv, .int 0, .ref a, rfl, ((s_l4.trans s_l5) _ _ upd_same), .bothA N5 RA⟩
  have all5 := ask11 Tt1 Tt2 Tt3 Tt4 Tt5 Tt6 Tt7 Tt8 Tt9 Tt10 Tt11
  have S35 := S3.trans S5
  refine ⟨fun σ' H' => ∃ rv' : V, σ' = [some (.int (n : Nat)), some (.ref a), some ov, some nv, some rv', some (.ref l5), none, none, none, none] ∧ Same H H' ∧ NoRl K t.c_Rule H' nv ∧ RArg t K 8 H' (.ref a) ∧ (∀ x ∈ (([.ref t1, .ref t2, .ref t3, .ref t4] ++ [.ref t5, .ref t6, .ref t7] ++ [.ref t8, .ref t9, .ref t10, .ref t11]) : List V), Ask t K H' x) ∧ H' l5 = some (.lst ([.ref t1, .ref t2, .ref t3, .ref t4] ++ [.ref t5, .ref t6, .ref t7] ++ [.ref t8, .ref t9, .ref t10, .ref t11])) ∧ Lists H' rv' ∧ ¬ RisV H' rv' 9999, ?_, ?_⟩
  · refine ⟨_, rfl, by show 2 ≤ sizeLine; decide, fun l6 b6 => ⟨l6, [0, 28], rfl, SqL.of upd_same, ?_⟩⟩
    have s6 := same_new b6 (.lst [.int 0, .int 28])
    have R6 := R5.same s6
    have L6 := R6.lists
    cases R6 with
    | non => exact .inl ⟨rfl, _, rfl, itF (by decide) ⟨_, rfl, S35.trans s6, N5.same s6, RA.same s6, fun x hx => (all5 x hx).same s6, s6 _ _ upd_same, L6, fun z => by obtain ⟨_, _, e, _⟩ := z; cases e⟩⟩
    | tup h => exact .inr (.inl ⟨_, _, rfl, SqT.of h, _, rfl, itF (by decide) ⟨_, rfl, S35.trans s6, N5.same s6, RA.same s6, fun x hx => (all5 x hx).same s6, s6 _ _ upd_same, L6, fun z => by obtain ⟨_, _, e, hz, _⟩ := z; cases e; rw [h] at hz; cases hz⟩⟩)
    | no h od kd ne nr =>
      rename_i l xs
      exact .inr (.inr ⟨_, _, rfl, SqL.of h, od, _, rfl, itF (by show ¬ eqL xs [.int 0, .int 28] = true; rw [ne]; decide) ⟨_, rfl, S35.trans s6, N5.same s6, RA.same s6, fun x hx => (all5 x hx).same s6, s6 _ _ upd_same, L6, nr⟩⟩)
    | own h =>
      refine .inr (.inr ⟨_, _, rfl, SqL.of h, (fun x hx => by obtain ⟨k, _, rfl⟩ := List.mem_map.mp (show x ∈ [(0 : Int), 28].map V.int from hx); exact .inl rfl), _, rfl, itT (by decide) ⟨by show 2 ≤ sizeLine; decide, fun l7 b7 => ?_⟩⟩)
      have s7 := s6.trans (same_new b7 (.lst [.int 9, .int 10000]))
      exact ⟨_, rfl, S35.trans s7, N5.same s7, RA.same s7, fun x hx => (all5 x hx).same s7, s7 _ _ upd_same, .inr ⟨l7, _, rfl, upd_same, fun x hx => kd_int _ (ns := [9, 10000]) hx⟩, nr_of upd_same fun ds e _ _ _ h4 => by
        have e2 := natV_inj (a := [9, 10000]) e
        subst e2
        exact absurd (h4 10000 (by simp)) (by decide)⟩
  rintro σ' H6 ⟨rv', rfl, S6, N6, RA6, all6, e6, L6, NR6⟩
  refine ⟨_, rfl, _, rfl, _, rfl, by show 4 ≤ sizeLine; decide, fun t12 a12 => ⟨_, rfl, _, rfl, by show 4 ≤ sizeLine; decide, fun t13 a13 => ⟨by show 1 ≤ sizeLine; decide, fun m5 j5 => ⟨_, rfl, by show 4 ≤ sizeLine; decide, fun t14 a14 => ⟨by show 3 ≤ sizeLine; decide, fun l8 b8 => ?_⟩⟩⟩⟩⟩
  have s_t12 := same_new a12 (.tup [.int 5, nv, .int 0, .ref a])
  have s_t13 := same_new a13 (.tup [.int 6, rv', .int 0, .ref a])
  have s_m5 := same_new j5 (.lst [.int 0])
  have s_t14 := same_new a14 (.tup [.int 6, .ref m5, .int 0, nv])
  have s_l8 := same_new b8 (.lst [.ref t12, .ref t13, .ref t14])
  refine ⟨l5, l8, _, _, rfl, rfl, ((((s_t12.trans s_t13).trans s_m5).trans s_t14).trans s_l8) _ _ e6, upd_same, by show 14 ≤ sizeLine; decide, fun l9 b9 => ?_⟩
  have s_l9 := same_new b9 (.lst (([.ref t1, .ref t2, .ref t3, .ref t4] ++ [.ref t5, .ref t6, .ref t7] ++ [.ref t8, .ref t9, .ref t10, .ref t11]) ++ [.ref t12, .ref t13, .ref t14]))
  have S9 := ((((s_t12.trans s_t13).trans s_m5).trans s_t14).trans s_l8).trans s_l9
  have N9 := N6.same S9
  have RA9 := RA6.same S9
  have L9 := L6.same S9
  have T12 : Ask t K _ (.ref t12) := ⟨t12, 5, nv, .int 0, .ref a, rfl, (((((s_t13.trans s_m5).trans s_t14).trans s_l8).trans s_l9) _ _ upd_same), .eitherB N9 RA9⟩
  have T13 : Ask t K _ (.ref t13) := ⟨t13, 6, rv', .int 0, .ref a, rfl, ((((s_m5.trans s_t14).trans s_l8).trans s_l9) _ _ upd_same), .but L9 RA9 (.inl fun z => NR6 (RisV.back L6 S9 z))⟩
  have T14 : Ask t K _ (.ref t14) := ⟨t14, 6, .ref m5, .int 0, nv, rfl, ((s_l8.trans s_l9) _ _ upd_same), .but (.inr ⟨m5, _, rfl, (((s_t14.trans s_l8).trans s_l9) _ _ upd_same), fun x hx => kd_int _ (ns := [0]) hx⟩) (.inr N9) (.inr N9)⟩
  have all := ask_more (fun x hx => (all6 x hx).same S9) T12 T13 T14
  refine ⟨_, rfl, l9, rfl, ⟨_, SqL.of upd_same⟩, for_list (K := K) (a := l9) (xs := ([.ref t1, .ref t2, .ref t3, .ref t4] ++ [.ref t5, .ref t6, .ref t7] ++ [.ref t8, .ref t9, .ref t10, .ref t11]) ++ [.ref t12, .ref t13, .ref t14]) (fun i σ H' => Same _ H' ∧ ∃ (w6 w7 w8 w9 : Option V), σ = [some (.int (n : Nat)), some (.ref a), some ov, some nv, some rv', some (.ref l9), w6, w7, w8, w9]) ⟨Same.refl _, _, _, _, _, rfl⟩ (fun i σ H' _ ⟨s', _⟩ => SqL.of (s' _ _ upd_same)) ?_ ?_⟩
  · rintro i x σ H' hx ⟨s', w6, w7, w8, w9, rfl⟩
    obtain ⟨b, m, u, v, rv, rfl, hb, tri⟩ := (all x (List.mem_of_getElem? hx)).same s'
    exact ⟨b, _, rfl, SqT.of hb, rfl, _, _, rfl, _, _, rfl, _, _, rfl, _, _, rfl, rfl, _, rfl, _, rfl, _, rfl, _, rfl, m, u, v, rv, _, rfl, tri, fun H2 s2 => ⟨rfl, _, rfl, itF (by decide +kernel) ⟨s'.trans s2, _, _, _, _, rfl⟩⟩⟩
  · rintro σ H' ⟨s', w6, w7, w8, w9, rfl⟩
    exact q _ (S6.trans (S9.trans s'))

theorem bump_write {tp : Addr} {k : Int} {H0 H : Hp} {x : Addr} {o : HO} (b : Bump tp k H0 H) (n : H0 x = none) (ne : x ≠ tp) : Bump tp k H0 (upd H x o) :=
  ⟨fun c u nn h => by rw [upd_ne (ne_of_none h n)]; exact b.keep c u nn h, by rw [upd_ne (Ne.symm ne)]; exact b.tape⟩
theorem eqL_str : ∀ l : List Str, eqL (l.map V.str) (l.map V.str) = true
  | [] => rfl
  | x :: r => by
    show (eqV (.str x) (.str x) && eqL (r.map V.str) (r.map V.str)) = true
    rw [eqL_str r]
    simp [eqV]
theorem flat_str (l : List Str) : (l.map V.str).all flatV = true := by
  rw [List.all_map]
  exact List.all_eq_true.mpr fun _ _ => rfl
def sp_law (K : W.Frag) : Sp := fun vs H Q _ => ∃ (a : Addr) (ns : List Int), vs = [.ref a] ∧ SqL K H a (ns.map V.int) ∧ ns.length ≤ 63 ∧ ∀ H', Q (.bl true) H'
theorem ok_law (Tx : Tab K mg t) : FnOk P w K mg base CX0 80 t.f_law t.d_law ["_law_script"] (sp_law K) := by
  refine Tx.F_law.ok sc_law (fun vs H Q E h => ?_) (fun cdv A outer s H vs Q E hr h => ?_)
  · obtain ⟨a, ns, rfl, _⟩ := h
    rfl
  obtain ⟨a, ns, rfl, hS, hlen, q⟩ := h
  refine ⟨_, (pss_cons (ps_set (i := 1) sc_law.nd rfl (Or.inl rfl) (pe_lst (pac pe_int pa_nil)))
    (pss_cons (ps_set (i := 2) sc_law.nd rfl (Or.inl rfl) (pe_call (tree_ok Tx 8) (hr.mono (by omega)) rfl Tx.m_law_tree Tx.F_law_tree.kp Tx.b_law_tree .nil pass0 (pac (pv 0) (pac (pv 1) (pac (pe_ix ix_list (pe_lst (pac pe_int (pac pe_int (pac pe_int (pac pe_int pa_nil))))) (pe_call (ok_law_draw Tx) (hr.mono (by omega)) rfl Tx.m_law_draw Tx.F_law_draw.kp Tx.b_law_draw .nil pass0 (pac (pv 0) (pac (pv 1) (pac pe_int pa_nil)))) (fun _ _ => rfl)) (pac pe_int pa_nil))))))
    (pss_join (ps_if (PW.pt (pw_and (pt_cmpR op_lt (pe_call (lweight_ok Tx 8) (hr.mono (by omega)) rfl Tx.m_law_weight Tx.F_law_weight.kp Tx.b_law_weight .nil pass0 (pac (pv 2) pa_nil)) pe_int (nomark _)) (pw_and (pt_cmpR op_eq (pe_call (ok_law_draw Tx) (hr.mono (by omega)) rfl Tx.m_law_draw Tx.F_law_draw.kp Tx.b_law_draw .nil pass0 (pac (pv 0) (pac (pv 1) (pac pe_int pa_nil)))) pe_int (nomark _)) (pw_and1 (pt_cmpR op_lt (pe_call (ldepth_ok Tx 8) (hr.mono (by omega)) rfl Tx.m_law_depth Tx.F_law_depth.kp Tx.b_law_depth .nil pass0 (pac (pv 2) pa_nil)) pe_int (nomark _))))))
    (pss_one (ps_set (i := 2) sc_law.nd rfl (Or.inl rfl) (pe_tup (pac (pe_ix ix_list (pe_lst (pac pe_str (pac pe_str pa_nil))) (pe_call (ok_law_draw Tx) (hr.mono (by omega)) rfl Tx.m_law_draw Tx.F_law_draw.kp Tx.b_law_draw .nil pass0 (pac (pv 0) (pac (pv 1) (pac pe_int pa_nil)))) (fun _ _ => rfl)) (pac (pv 2) (pac (pv 2) pa_nil))))))
    pss_nil)
    (pss_cons (ps_set (i := 3) sc_law.nd rfl (Or.inl rfl) (pe_call (made_ok Tx 8) (hr.mono (by omega)) rfl Tx.m_law_made Tx.F_law_made.kp Tx.b_law_made .nil pass0 (pac (pv 2) pa_nil)))
    (pss_cons (ps_set (i := 4) sc_law.nd rfl (Or.inl rfl) (pe_op op_cat (pe_call (ldays_ok Tx 8) (hr.mono (by omega)) rfl Tx.m_law_days Tx.F_law_days.kp Tx.b_law_days .nil pass0 (pac (pv 2) pa_nil)) (pe_lst (pac pe_int (pac pe_int pa_nil)))))
    (pss_cons (ps_for PassesOwn.never rfl (pi_range1 rfl Tx.z_range (pac pe_int pa_nil)) (pg_name (i := 5) sc_law.nd rfl (Or.inl rfl))
    (pss_cons (ps_set (i := 6) sc_law.nd rfl (Or.inl rfl) (pe_op op_add (pe_op op_sub (pe_ix ix_list (pv 4) (pe_call (ok_law_draw Tx) (hr.mono (by omega)) rfl Tx.m_law_draw Tx.F_law_draw.kp Tx.b_law_draw .nil pass0 (pac (pv 0) (pac (pv 1) (pac (pe_callB call_len_seq rfl Tx.z_len b_len (pac (pv 4) pa_nil)) pa_nil)))) (fun _ _ => rfl)) pe_int) (pe_call (ok_law_draw Tx) (hr.mono (by omega)) rfl Tx.m_law_draw Tx.F_law_draw.kp Tx.b_law_draw .nil pass0 (pac (pv 0) (pac (pv 1) (pac pe_int pa_nil))))))
    (pss_cons (ps_set (i := 7) sc_law.nd rfl (Or.inl rfl) (pe_lst (pac (pe_callB (call_max2 rfl) rfl Tx.z_max b_max (pac pe_int (pac (pe_callB (call_min2 rfl) rfl Tx.z_min b_min (pac pe_int (pac (pv 6) pa_nil))) pa_nil))) (pac (pe_call (ok_law_draw Tx) (hr.mono (by omega)) rfl Tx.m_law_draw Tx.F_law_draw.kp Tx.b_law_draw .nil pass0 (pac (pv 0) (pac (pv 1) (pac pe_int pa_nil)))) (pac (pe_call (ok_law_draw Tx) (hr.mono (by omega)) rfl Tx.m_law_draw Tx.F_law_draw.kp Tx.b_law_draw .nil pass0 (pac (pv 0) (pac (pv 1) (pac pe_int pa_nil)))) pa_nil)))))
    (pss_cons (ps_set (i := 8) sc_law.nd rfl (Or.inl rfl) (pe_ix ix_list (pv 7) (pe_call (ok_law_draw Tx) (hr.mono (by omega)) rfl Tx.m_law_draw Tx.F_law_draw.kp Tx.b_law_draw .nil pass0 (pac (pv 0) (pac (pv 1) (pac pe_int pa_nil)))) (fun _ _ => rfl)))
    (pss_one (ps_if (pt_not (pt_val (pe_call (ok_law_right Tx) (hr.mono (by omega)) rfl Tx.m_law_right Tx.F_law_right.kp Tx.b_law_right .nil pass0 (pac (pv 2) (pac (pv 3) (pac (pv 8) pa_nil))))))
    (pss_one (ps_ret pe_bl))
    pss_nil))))))
    (pss_cons (ps_set (i := 9) sc_law.nd rfl (Or.inl rfl) (pe_meth0D (pv 3)))
    (pss_cons (ps_if (PW.pt (pw_or (pt_not (pt_val (pe_callB call_isi_ty rfl Tx.z_isinstance b_isinstance (pac (pv 9) (pac (pe_gty rfl Tx.z_list b_list) pa_nil))))) (pw_or1 (pt_cmpR (op_ne_lst hr.units0) (pv 9) (pe_call (lwords_ok Tx 8) (hr.mono (by omega)) rfl Tx.m_law_words Tx.F_law_words.kp Tx.b_law_words .nil pass0 (pac (pv 2) pa_nil)) (nomark _)))))
    (pss_one (ps_ret pe_bl))
    pss_nil)
    (pss_cons (ps_expr (pe_bm PySem.F.plainAttrs_list PySem.F.slot_list_append PySem.F.type_list_append mt_append (pv 9) (pac pe_str pa_nil)))
    (pss_cons (ps_set (i := 10) sc_law.nd rfl (Or.inl rfl) (pe_lst (pac (pe_meth0D (pv 3)) (pac (pe_meth0D (pv 3)) pa_nil))))
    (pss_cons (ps_if (PW.pt (pw_or (pt_cmpR (op_ne_lst hr.units0) (pv 10) (pe_lst (pac (pe_call (lweight_ok Tx 8) (hr.mono (by omega)) rfl Tx.m_law_weight Tx.F_law_weight.kp Tx.b_law_weight .nil pass0 (pac (pv 2) pa_nil)) (pac (pe_call (ldepth_ok Tx 8) (hr.mono (by omega)) rfl Tx.m_law_depth Tx.F_law_depth.kp Tx.b_law_depth .nil pass0 (pac (pv 2) pa_nil)) pa_nil))) (nomark _)) (pw_or1 (pt_not (pt_val (pe_callB (call_all_list rfl) rfl Tx.z_all b_all (pac (pe_comp (cl := []) (N := ["_law_one"]) (fr := [none]) rfl (pi_list (pv 10)) rfl (by decide +kernel) rfl (by decide +kernel) trivial trivial rfl (fun _ _ _ _ _ => (pg_name (i := 0) (show List.Nodup (["_law_one"] : List Str) by decide +kernel) rfl (Or.inl rfl))) (fun _ _ _ _ _ => pts_nil) (fun _ _ _ _ _ => (pe_call (ok_law_whole Tx) (hr.mono (by omega)) rfl Tx.m_law_whole Tx.F_law_whole.kp Tx.b_law_whole .nil pass0 (pac (pv 0) pa_nil)))) pa_nil)))))))
    (pss_one (ps_ret pe_bl))
    pss_nil)
    (pss_cons (ps_set (i := 11) sc_law.nd rfl (Or.inl rfl) (pe_lst (pac (pe_lst (pac pe_int (pac pe_int pa_nil))) (pac (pe_lst (pac pe_int pa_nil)) pa_nil))))
    (pss_cons (ps_set (i := 12) sc_law.nd rfl (Or.inl rfl) (pe_lst (pac (pe_make Tx.mk_Each (ini_Each Tx) (hr.mono (by omega)) rfl Tx.m_Each Tx.b_Each_init .nil pass0 (pac pe_int (pac (pe_ix ix_list (pv 11) pe_int (fun _ _ => rfl)) pa_nil))) (pac (pe_make Tx.mk_But (ini_But Tx) (hr.mono (by omega)) rfl Tx.m_But Tx.b_But_init .nil pass0 (pac (pe_ix ix_list (pv 11) pe_int (fun _ _ => rfl)) (pac (pe_makeN Tx.mkn_Rule rfl Tx.m_Rule) pa_nil))) pa_nil))))
    (pss_cons (ps_expr (pe_bm PySem.F.plainAttrs_list PySem.F.slot_list_append PySem.F.type_list_append mt_append (pe_ix ix_list (pv 11) pe_int (fun _ _ => rfl)) (pac pe_int pa_nil)))
    (pss_cons (ps_expr (pe_bm0 PySem.F.plainAttrs_list PySem.F.slot_list_clear PySem.F.type_list_clear mt_clear (pe_ix ix_list (pv 11) pe_int (fun _ _ => rfl))))
    (pss_cons (ps_if (pt_cmpR (op_ne_lst hr.units0) (pe_lst (pac (pe_methD (pe_ix ix_list (pv 12) pe_int (fun _ _ => rfl)) (pac pe_int pa_nil)) (pac (pe_methD (pe_ix ix_list (pv 12) pe_int (fun _ _ => rfl)) (pac pe_int pa_nil)) (pac (pe_methD (pe_ix ix_list (pv 12) pe_int (fun _ _ => rfl)) (pac pe_int pa_nil)) (pac (pe_methD (pe_ix ix_list (pv 12) pe_int (fun _ _ => rfl)) (pac pe_int pa_nil)) pa_nil))))) (pe_lst (pac pe_bl (pac pe_bl (pac pe_bl (pac pe_bl pa_nil))))) (nomark _))
    (pss_one (ps_ret pe_bl))
    pss_nil)
    (pss_cons (ps_if (PW.pt (pw_or (pt_cmpR (op_ne_lst hr.units0) (pe_meth0D (pv 3)) (pe_call (lwords_ok Tx 8) (hr.mono (by omega)) rfl Tx.m_law_words Tx.F_law_words.kp Tx.b_law_words .nil pass0 (pac (pv 2) pa_nil)) (nomark _)) (pw_or1 (pt_not (pt_val (pe_call (ok_law_heavy Tx) (hr.mono (by omega)) rfl Tx.m_law_heavy Tx.F_law_heavy.kp Tx.b_law_heavy .nil pass0 (pac (pv 0) (pac (pv 1) pa_nil))))))))
    (pss_one (ps_ret pe_bl))
    pss_nil)
    (pss_one (ps_ret (pe_call (ok_law_refused Tx) (hr.mono (by omega)) rfl Tx.m_law_refused Tx.F_law_refused.kp Tx.b_law_refused .nil pass0 (pac (pe_call (ok_law_draw Tx) (hr.mono (by omega)) rfl Tx.m_law_draw Tx.F_law_draw.kp Tx.b_law_draw .nil pass0 (pac (pv 0) (pac (pv 1) (pac (pe_op op_pow pe_int pe_int) pa_nil)))) (pac (pv 3) pa_nil)))))))))))))))))))))), ?_⟩
  refine ⟨by show 1 ≤ sizeLine; decide, fun tp htp => ?_⟩
  have S0 := Scr.new hS htp (.lst [.int 0])
  refine ⟨_, rfl, _, rfl, by show 4 ≤ sizeLine; decide, fun p hp => ?_⟩
  have s0 := same_new hp (.lst [.int 3, .int 7, .int 15, .int 15])
  have np : p ≠ tp := ne_tp upd_same hp
  refine ⟨_, rfl, _, rfl, a, tp, ns, 0, 4, rfl, S0.same s0, s0 _ _ upd_same, by decide, by decide, by decide, by decide, fun d H1 d0 d1 b1 => ?_⟩
  obtain ⟨vr, er, room, rfl, hr1, hr2⟩ := at_all (p := fun v => ∃ n : Nat, v = V.int (n : Nat) ∧ 1 ≤ n ∧ n ≤ 15) (xs := [.int 3, .int 7, .int 15, .int 15]) (d := d) (fun v hv => by
    simp only [List.mem_cons, List.not_mem_nil, or_false] at hv
    rcases hv with rfl | rfl | rfl | rfl
    · exact ⟨3, rfl, by decide, by decide⟩
    · exact ⟨7, rfl, by decide, by decide⟩
    · exact ⟨15, rfl, by decide, by decide⟩
    · exact ⟨15, rfl, by decide, by decide⟩) d0 (by show d < 4; omega)
  have S1 := b1.scr (S0.same s0)
  refine ⟨p, _, _, _, rfl, rfl, SqL.of (b1.keep _ _ np upd_same), er, a, tp, ns, 0 + 1, room, 8, rfl, S1, b1.tape, by omega, by omega, hr1, by omega, by decide, by decide, fun v r k' H2 b2 u1 u2 T2 g w2 e2 => ?_⟩
  have S2 := b2.scr S1
  refine ⟨fun σ' H' => ∃ (v : V) (r : RT) (k : Int), σ' = [some (.ref a), some (.ref tp), some v, none, none, none, none, none, none, none, none, none, none] ∧ Scr K H' a tp ns ∧ H' tp = some (.lst [.int k]) ∧ 0 ≤ k ∧ k ≤ 700 ∧ TAtr tp H' v r ∧ r.good ∧ r.weight ≤ 15 ∧ r.depth ≤ 8, ?_, ?_⟩
  · refine ⟨_, rfl, tp, v, r, rfl, T2, by omega, by omega, fun H3 s3 => ⟨_, _, rfl, rfl, _, rfl, ?_⟩⟩
    by_cases c1 : r.weight < 8
    · refine itT (decide_eq_true (by omega)) ?_
      have B3 := b2.same s3
      refine ⟨_, rfl, _, rfl, a, tp, ns, k', 3, rfl, S2.same s3, B3.tape, by omega, by omega, by decide, by decide, fun d2 H4 d20 d21 b4 => ⟨rfl, _, rfl, ?_⟩⟩
      have T4 := (T2.same s3).bump B3.tape b4
      have S4 := b4.scr (S2.same s3)
      by_cases c2 : d2 = 0
      · refine itT (by rw [dec_int]; simpa using c2) ?_
        refine ⟨_, rfl, tp, v, r, rfl, T4, by omega, fun H5 s5 => ⟨_, _, rfl, rfl, _, rfl, ?_⟩⟩
        have b5 := b4.same s5
        by_cases c3 : r.depth < 8
        · refine itT (decide_eq_true (by omega)) ?_
          refine ⟨by show 2 ≤ sizeLine; decide, fun p6 g6 => ?_⟩
          have s6 := same_new g6 (.lst [.str (Str.ofString "either"), .str (Str.ofString "both")])
          have np6 : p6 ≠ tp := ne_tp b5.tape g6
          have b6 := b5.same s6
          refine ⟨_, rfl, _, rfl, a, tp, ns, k' + 1, 2, rfl, (S4.same s5).same s6, b6.tape, by omega, by omega, by decide, by decide, fun d3 H7 d30 d31 b7 => ?_⟩
          obtain ⟨kv, ek, hk⟩ := at_all (p := fun v => v = V.str (Str.ofString "either") ∨ v = V.str (Str.ofString "both")) (xs := [.str (Str.ofString "either"), .str (Str.ofString "both")]) (d := d3) (fun v hv => by
            simp only [List.mem_cons, List.not_mem_nil, or_false] at hv
            exact hv) d30 (by show d3 < 2; omega)
          refine ⟨p6, _, _, _, rfl, rfl, SqL.of (b7.keep _ _ np6 upd_same), ek, _, rfl, _, rfl, by show 3 ≤ sizeLine; decide, fun p8 g8 => ?_⟩
          have s8 := same_new g8 (.tup [kv, v, v])
          have T7 := (((T4.same s5).same s6).bump b6.tape b7).same s8
          have S7 := (b7.scr ((S4.same s5).same s6)).same s8
          have h7 := s8 _ _ b7.tape
          rcases hk with rfl | rfl
          · exact ⟨_, .either r r, _, rfl, S7, h7, by omega, by omega, .either upd_same T7 T7, ⟨g, g⟩, by show 1 + (r.weight + r.weight) ≤ 15; omega, by show 1 + max r.depth r.depth ≤ 8; omega⟩
          · exact ⟨_, .both r r, _, rfl, S7, h7, by omega, by omega, .both upd_same T7 T7, ⟨g, g⟩, by show 1 + (r.weight + r.weight) ≤ 15; omega, by show 1 + max r.depth r.depth ≤ 8; omega⟩
        · refine itF (by rw [decide_eq_false (by omega)]; decide) ?_
          exact ⟨v, r, _, rfl, S4.same s5, b5.tape, by omega, by omega, T4.same s5, g, by omega, by omega⟩
      · refine itF (by rw [dec_int]; simpa using c2) ?_
        exact itF (by decide) ⟨v, r, _, rfl, S4, b4.tape, by omega, by omega, T4, g, by omega, by omega⟩
    · refine itF (by rw [decide_eq_false (by omega)]; decide) ?_
      exact itF (by decide) ⟨v, r, _, rfl, S2.same s3, (b2.same s3).tape, by omega, by omega, T2.same s3, g, by omega, by omega⟩
  clear S0 s0 np b1 S1 b2 S2 T2 g w2 e2 u1 u2 er
  rintro σ2 H2 ⟨v, r, k', rfl, S2, hT2, u0, u1, T2, g, w2, e2⟩
  refine ⟨_, rfl, tp, v, r, rfl, T2, g, w2, e2, e2, fun b H3 s3 R3 => ?_⟩
  refine ⟨_, rfl, tp, v, r, rfl, T2.same s3, g, e2, by omega, fun pd H4 s4 n4 e4 => ⟨by show 2 ≤ sizeLine; decide, fun pn gn => ?_⟩⟩
  have s5 := same_new gn (.lst [.int 0, .int 9999])
  have dl := days_len g
  have dl2 : (natV (dysR r)).length = (dysR r).length := List.length_map ..
  refine ⟨pd, pn, _, _, rfl, rfl, s5 _ _ e4, upd_same, Nat.le_trans (show _ + 2 ≤ 1000 by omega) (by decide), fun pm gm => ?_⟩
  have s6 := same_new gm (.lst (natV (dysR r) ++ [.int 0, .int 9999]))
  have S6 := s3.trans (s4.trans (s5.trans s6))
  have npm : pm ≠ tp := fun z => by
    have := (s3.trans (s4.trans s5)) _ _ hT2
    rw [← z, gm] at this
    cases this
  have nl : (natV (dysR r) ++ [V.int 0, V.int 9999]).length = (dysR r).length + 2 := by rw [List.length_append, dl2]; rfl
  have nall : ∀ x ∈ natV (dysR r) ++ [V.int 0, V.int 9999], ∃ m : Nat, x = V.int (m : Nat) ∧ m ≤ 9999 := fun x hx => by
    rcases List.mem_append.mp hx with hx | hx
    · obtain ⟨m, hm, rfl⟩ := List.mem_map.mp hx
      exact ⟨m, rfl, days_all g m hm⟩
    · simp only [List.mem_cons, List.not_mem_nil, or_false] at hx
      rcases hx with rfl | rfl
      · exact ⟨0, rfl, by decide⟩
      · exact ⟨9999, rfl, by decide⟩
  refine ⟨8, rfl, by decide, by decide, for_range (n := 8) (fun i σ H' => ∃ (vk v6 v7 v8 : Option V) (k : Int), σ = [some (.ref a), some (.ref tp), some v, some (.ref b), some (.ref pm), vk, v6, v7, v8, none, none, none, none] ∧ Scr K H' a tp ns ∧ H' tp = some (.lst [.int k]) ∧ 0 ≤ k ∧ k ≤ 700 + 6 * i ∧ TAtr tp H' v r ∧ RAt (rc t) K H' b r ∧ H' pm = some (.lst (natV (dysR r) ++ [.int 0, .int 9999])))
    ⟨_, _, _, _, k', rfl, S2.same S6, S6 _ _ hT2, u0, by omega, T2.same S6, R3.same (s4.trans (s5.trans s6)), upd_same⟩ ?_ ?_⟩
  · rintro i σ H7 hi ⟨vk, v6, v7, v8, k, rfl, S, hT, k0, k1, T7, R7, hm⟩
    refine ⟨_, rfl, _, rfl, _, rfl, _, rfl, pm, _, rfl, .inl (SqL.of hm), a, tp, ns, k, _, rfl, S, hT, k0, by omega, by rw [nl]; omega, by rw [nl]; omega, fun d1 H8 d10 d11 c1 => ?_⟩
    obtain ⟨x, ex, m, rfl, hm9⟩ := at_all (p := fun x => ∃ m : Nat, x = V.int (m : Nat) ∧ m ≤ 9999) (xs := natV (dysR r) ++ [.int 0, .int 9999]) (d := d1) nall d10 d11
    refine ⟨pm, _, _, _, rfl, rfl, SqL.of (c1.keep _ _ npm hm), ex, _, _, rfl, rfl, _, rfl, _, rfl, a, tp, ns, k + 1, 3, rfl, c1.scr S, c1.tape, by omega, by omega, by decide, by decide, fun d2 H9 d20 d21 c2 => ⟨_, _, rfl, rfl, ?_⟩⟩
    have C2 := c1.trans c2
    refine ⟨_, rfl, _, _, rfl, _, _, rfl, _, rfl, _, rfl, a, tp, ns, k + 1 + 1, 10000, rfl, C2.scr S, C2.tape, by omega, by omega, by decide, by decide, fun d3 H10 d30 d31 c3 => ?_⟩
    have C3 := C2.trans c3
    refine ⟨_, rfl, _, rfl, a, tp, ns, k + 1 + 1 + 1, 42, rfl, C3.scr S, C3.tape, by omega, by omega, by decide, by decide, fun d4 H11 d40 d41 c4 => ⟨by show 3 ≤ sizeLine; decide, fun p12 g12 => ?_⟩⟩
    have C4 := C3.trans c4
    have np12 : p12 ≠ tp := ne_tp C4.tape g12
    have s12 := same_new g12 (.lst [.int (if (if ((m : Nat) : Int) - 1 + d2 < 9999 then ((m : Nat) : Int) - 1 + d2 else 9999) > 0 then (if ((m : Nat) : Int) - 1 + d2 < 9999 then ((m : Nat) : Int) - 1 + d2 else 9999) else 0), .int d3, .int d4])
    have C12 := C4.same s12
    refine ⟨_, rfl, _, rfl, _, rfl, a, tp, ns, k + 1 + 1 + 1 + 1, 3, rfl, C12.scr S, C12.tape, by omega, by omega, by decide, by decide, fun d5 H13 d50 d51 c5 => ?_⟩
    have C5 := C12.trans c5
    obtain ⟨dv, ed, day, rfl, hday⟩ := at_all (p := fun v => ∃ n : Nat, v = V.int (n : Nat) ∧ n ≤ 9999) (xs := [.int (if (if ((m : Nat) : Int) - 1 + d2 < 9999 then ((m : Nat) : Int) - 1 + d2 else 9999) > 0 then (if ((m : Nat) : Int) - 1 + d2 < 9999 then ((m : Nat) : Int) - 1 + d2 else 9999) else 0), .int d3, .int d4]) (d := d5) (fun v hv => by
      simp only [List.mem_cons, List.not_mem_nil, or_false] at hv
      rcases hv with rfl | rfl | rfl
      · exact ⟨(if (if ((m : Nat) : Int) - 1 + d2 < 9999 then ((m : Nat) : Int) - 1 + d2 else 9999) > 0 then (if ((m : Nat) : Int) - 1 + d2 < 9999 then ((m : Nat) : Int) - 1 + d2 else 9999) else 0).toNat, congrArg V.int (by split <;> split <;> omega), by split <;> split <;> omega⟩
      · exact ⟨d3.toNat, congrArg V.int (by omega), by omega⟩
      · exact ⟨d4.toNat, congrArg V.int (by omega), by omega⟩) d50 (by show d5 < 3; omega)
    refine ⟨p12, _, _, _, rfl, rfl, SqL.of (c5.keep _ _ np12 upd_same), ed, ?_⟩
    refine ⟨_, rfl, _, rfl, _, rfl, tp, v, r, b, day, rfl, T7.bump hT C5, g, e2, R7.bump hT C5, fun H14 s14 => ⟨_, rfl, itF (by decide) ?_⟩⟩
    exact ⟨_, _, _, _, _, rfl, (C5.scr S).same s14, s14 _ _ C5.tape, by omega, by omega, (T7.bump hT C5).same s14, (R7.bump hT C5).same s14, s14 _ _ (C5.keep _ _ npm hm)⟩
  · rintro σ H7 ⟨vk, v6, v7, v8, k, rfl, S, hT, k0, k1, T7, R7, hm⟩
    have k1' : k ≤ 748 := k1
    clear hm nall nl npm
    obtain ⟨C, dx2, fs, f, fd, sp, x1, x2, x3, x4, x5, x6, x7⟩ := (words_ok (P := P) (w := w) (mg := mg) (base := base) Tx 8).at Tx R7 g (by omega) e2
    refine ⟨_, rfl, b, C, dx2, fs, f, fd, _, _, sp, CX0, E0, rfl, x1, x2, x3, x4, x5, hr.mono (by omega), x6, pass0, x7 _ fun pf H8 s8 n8 e8 => ?_⟩
    refine ⟨_, rfl, .ref pf, "list", _, _, rfl, .lst e8, rfl, _, rfl, itF (by decide) ?_⟩
    refine ⟨_, rfl, _, rfl, tp, v, r, rfl, T7.same s8, g, by omega, e2, fun pw H9 s9 n9 e9 => ?_⟩
    refine ⟨pf, pw, _, _, rfl, rfl, SqL.of (s9 _ _ e8), SqL.of e9, flat_str _, flat_str _, _, rfl, itF (by show ¬ (!eqL (r.words.map V.str) (r.words.map V.str)) = true; rw [eqL_str]; decide) ?_⟩
    have wl := r.words_len
    refine ⟨_, rfl, .inl ⟨rfl, _, SqL.of (s9 _ _ e8)⟩, pf, _, _, rfl, rfl, s9 _ _ e8, by rw [List.length_map]; exact Nat.lt_of_le_of_lt (show _ ≤ 100 by omega) (by decide), ?_⟩
    have npf : pf ≠ tp := fun z => by rw [z, hT] at n8; cases n8
    have B9 : Bump tp k H7 (upd H9 pf (.lst (r.words.map V.str ++ [.str (Str.ofString "more")]))) := bump_write ⟨fun c u _ h => (s8.trans s9) _ _ h, (s8.trans s9) _ _ hT⟩ n8 npf
    have R9 := R7.bump hT B9
    have T9 := T7.bump hT B9
    have S9 := B9.scr S
    have hT9 := B9.tape
    generalize upd H9 pf (.lst (r.words.map V.str ++ [.str (Str.ofString "more")])) = H10 at *
    clear s8 s9 e8 e9 n8 n9 x1 x2 x3 x4 x5 x6 x7 B9 R7 T7 S hT
    obtain ⟨C2, dx3, fs2, l2, cl2, ⟨lk2, me2⟩, ⟨lk3, me3⟩⟩ := meth_at Tx R9
    refine ⟨_, rfl, b, C2, dx3, fs2, _, _, _, _, _, CX0, E0, rfl, l2, lk2, cl2, me2, weight_ok Tx 8, hr.mono (by omega), Tx.b_Rule_weight, pass0, b, r, rfl, R9, e2, by omega, fun H11 s11 => ?_⟩
    refine ⟨_, rfl, b, C2, dx3, fs2, _, _, _, _, _, CX0, E0, rfl, s11 _ _ l2, lk3, cl2, me3, depth_ok Tx 8, hr.mono (by omega), Tx.b_Rule_depth, pass0, b, r, rfl, R9.same s11, e2, fun H12 s12 => ⟨by show 2 ≤ sizeLine; decide, fun p13 g13 => ?_⟩⟩
    have s13 := same_new g13 (.lst [.int (r.weight : Nat), .int (r.depth : Nat)])
    have z13 := s11.trans (s12.trans s13)
    refine ⟨_, rfl, _, rfl, tp, v, r, rfl, T9.same z13, e2, by omega, fun H14 s14 => ?_⟩
    refine ⟨_, rfl, tp, v, r, rfl, (T9.same z13).same s14, e2, fun H15 s15 => ⟨by show 2 ≤ sizeLine; decide, fun p16 g16 => ?_⟩⟩
    have s16 := same_new g16 (.lst [.int (r.weight : Nat), .int (r.depth : Nat)])
    have y13 := (s14.trans (s15.trans s16)) _ _ (upd_same (H := H12) (a := p13) (o := .lst [.int (r.weight : Nat), .int (r.depth : Nat)]))
    have z16 := z13.trans (s14.trans (s15.trans s16))
    refine ⟨p13, p16, _, _, rfl, rfl, SqL.of y13, SqL.of upd_same, rfl, rfl, _, rfl, itF (by show ¬ (!eqL [.int (r.weight : Nat), .int (r.depth : Nat)] [.int (r.weight : Nat), .int (r.depth : Nat)]) = true; simp [eqL, eqV]) ?_⟩
    refine ⟨_, rfl, p13, rfl, ⟨_, SqL.of y13⟩, comp_list (K := K) (a := p13) (xs := [.int (r.weight : Nat), .int (r.depth : Nat)]) (fun i acc σ H' => Same _ H' ∧ acc = List.replicate i (V.bl true) ∧ ∃ v, σ = [v]) ⟨Same.refl _, rfl, _, rfl⟩ (by show 2 ≤ sizeLine; decide) (fun i acc σ H' _ ⟨s', _⟩ => SqL.of (s' _ _ y13)) ?_ ?_⟩
    · rintro i x acc σ H' ha hx ⟨s', e, v, rfl⟩
      have hx' : ∃ n : Int, x = .int n := by
        have := List.mem_of_getElem? hx
        simp only [List.mem_cons, List.not_mem_nil, or_false] at this
        rcases this with rfl | rfl <;> exact ⟨_, rfl⟩
      obtain ⟨n, rfl⟩ := hx'
      dsimp only [gName, tTrue]
      rw [if_pos rfl]
      refine ⟨_, rfl, .int n, "int", rfl, .int _, ?_, s', ?_, _, rfl⟩
      · rw [List.length_append, List.length_singleton]; omega
      · rw [e, List.replicate_succ']
        rfl
    rintro acc σ H' ha ⟨s', e, v1, rfl⟩ p17 g17
    subst e
    refine ⟨p17, [true, true], rfl, SqL.of upd_same, _, rfl, itF (by decide) ?_⟩
    have z17 := (z16.trans s').trans (same_new g17 (.lst (List.replicate 2 (V.bl true))))
    have R17 := R9.same z17
    have T17 := T9.same z17
    have S17 := S9.same z17
    have hT17 := z17 _ _ hT9
    generalize upd H' p17 (.lst (List.replicate _ (V.bl true))) = H17 at *
    clear z17 z16 z13 s' y13 s16 s15 s14 s13 s12 s11 g13 g16 g17 l2 lk2 lk3 cl2 me2 me3 R9 T9 S9 hT9
    refine ⟨by show 2 ≤ sizeLine; decide, fun f1 h1 => ⟨by show 1 ≤ sizeLine; decide, fun f2 h2 => ⟨by show 2 ≤ sizeLine; decide, fun f3 h3 => ?_⟩⟩⟩
    have a1 := same_new h1 (.lst [.int 1, .int 3])
    have a2 := same_new h2 (.lst [.int 2])
    have a3 := same_new h3 (.lst [.ref f1, .ref f2])
    have o1 := (a2.trans a3) _ _ (upd_same (H := H17) (a := f1) (o := .lst [.int 1, .int 3]))
    have o2 := a3 _ _ (upd_same (H := upd H17 f1 (.lst [.int 1, .int 3])) (a := f2) (o := .lst [.int 2]))
    have o3 := upd_same (H := upd (upd H17 f1 (.lst [.int 1, .int 3])) f2 (.lst [.int 2])) (a := f3) (o := .lst [.ref f1, .ref f2])
    have n2 : H17 f2 = none := a1.free h2
    have f12 : f2 ≠ f1 := fun z => by rw [z, upd_same] at h2; cases h2
    have f31 : f3 ≠ f1 := fun z => by
      have y := a2 _ _ (upd_same (H := H17) (a := f1) (o := .lst [.int 1, .int 3]))
      rw [z, y] at h3
      cases h3
    have f32 : f3 ≠ f2 := fun z => by rw [z, upd_same] at h3; cases h3
    have t1 : f1 ≠ tp := fun z => by rw [z, hT17] at h1; cases h1
    have t2 : f2 ≠ tp := fun z => by rw [z, hT17] at n2; cases n2
    have a13 := a1.trans (a2.trans a3)
    generalize upd (upd (upd H17 f1 (.lst [.int 1, .int 3])) f2 (.lst [.int 2])) f3 (.lst [.ref f1, .ref f2]) = Hc at *
    refine ⟨_, rfl, f3, _, 0, _, rfl, rfl, SqL.of o3, rfl, fun x1 y1 nx1 ny1 ne1 => ⟨x1, f1, Hc, 5, [1, 3], rfl, made_new nx1 ny1, o1, ⟨by decide, by decide, ⟨by decide, by decide, by decide, by decide⟩⟩, fun H18 s18 h18 => ⟨rfl, ?_⟩⟩⟩
    refine ⟨_, rfl, f3, _, 1, _, rfl, rfl, SqL.of (s18 _ _ o3), rfl, fun y dy ny ndy ney => ?_⟩
    have s19 := same_upd ny (same_upd ndy (Same.refl H18) (.own y)) (.ins t.c_Rule dy [])
    have yA : RAt (rc t) K (upd (upd H18 dy (.own y)) y (.ins t.c_Rule dy [])) y .always := .always upd_same
    generalize upd (upd H18 dy (.own y)) y (.ins t.c_Rule dy []) = H19 at *
    refine fun x2 y2 nx2 ny2 ne2 => ⟨x2, f2, y, H19, [2], .always, rfl, made_new nx2 ny2, s19 _ _ (s18 _ _ o2), yA, ⟨⟨by decide, by decide, by decide, by decide⟩, trivial⟩, by decide, by decide, by decide, fun H20 s20 h20 => ⟨rfl, ⟨by show 2 ≤ sizeLine; decide, fun p21 g21 => ?_⟩⟩⟩
    have z20 := s18.trans (s19.trans s20)
    have s21 := same_new g21 (.lst [.ref x1, .ref x2])
    have z21 := z20.trans s21
    have l21 := upd_same (H := H20) (a := p21) (o := .lst [.ref x1, .ref x2])
    have p1n : p21 ≠ f1 := fun z => by rw [z, z20 _ _ o1] at g21; cases g21
    have p2n : p21 ≠ f2 := fun z => by rw [z, z20 _ _ o2] at g21; cases g21
    have s20' := s20.trans s21
    generalize upd H20 p21 (.lst [.ref x1, .ref x2]) = H21 at *
    refine ⟨_, rfl, f3, _, 0, _, rfl, rfl, SqL.of (z21 _ _ o3), rfl, .inl ⟨rfl, _, SqL.of (z21 _ _ o1)⟩, f1, _, _, rfl, rfl, z21 _ _ o1, by show 2 < sizeLine; decide, ?_⟩
    have k3 : (upd H21 f1 (.lst ([.int 1, .int 3] ++ [.int 4]))) f3 = some (.lst [.ref f1, .ref f2]) := by rw [upd_ne f31]; exact z21 _ _ o3
    have k2 : (upd H21 f1 (.lst ([.int 1, .int 3] ++ [.int 4]))) f2 = some (.lst [.int 2]) := by rw [upd_ne f12]; exact z21 _ _ o2
    refine ⟨_, rfl, f3, _, 1, _, rfl, rfl, SqL.of k3, rfl, .inl ⟨rfl, _, SqL.of k2⟩, f2, _, rfl, rfl, k2, ?_⟩
    have keep : ∀ {Hd He : Hp}, Same Hc Hd → Same He H21 → Same (dif He Hd) (upd (upd H21 f1 (.lst ([.int 1, .int 3] ++ [.int 4]))) f2 (.lst [])) := fun {Hd He} sd se c u e => by
      obtain ⟨nc, ec⟩ := dif_of e
      have c1 : c ≠ f1 := fun z => by rw [z, sd _ _ o1] at nc; cases nc
      have c2 : c ≠ f2 := fun z => by rw [z, sd _ _ o2] at nc; cases nc
      rw [upd_ne c2, upd_ne c1]
      exact se _ _ ec
    have X1 := h18.same (keep (Same.refl _) (s19.trans s20'))
    have X2 := h20.same (keep (s18.trans s19) s21)
    have B23 : Bump tp k H17 (upd (upd H21 f1 (.lst ([.int 1, .int 3] ++ [.int 4]))) f2 (.lst [])) := bump_write (bump_write ⟨fun c u _ h => z21 _ _ (a13 _ _ h), z21 _ _ (a13 _ _ hT17)⟩ h1 t1) n2 t2
    have l23 : (upd (upd H21 f1 (.lst ([.int 1, .int 3] ++ [.int 4]))) f2 (.lst [])) p21 = some (.lst [.ref x1, .ref x2]) := by rw [upd_ne p2n, upd_ne p1n]; exact l21
    clear keep
    generalize upd (upd H21 f1 (.lst ([.int 1, .int 3] ++ [.int 4]))) f2 (.lst []) = H23 at *
    have hT23 := B23.tape
    have R23 := R17.bump hT17 B23
    have T23 := T17.bump hT17 B23
    have S23 := B23.scr S17
    clear B23 s21 s20 s19 s18 z20 z21 s20' h18 h20 yA o1 o2 o3 a1 a2 a3 a13 g21 l21 R17 T17 S17 hT17 h1 h2 h3 n2
    obtain ⟨C3, dx3, fs3, f4, fd3, sp3, c1, c2, c3, c4, c5, c6, c7⟩ := (runs_ok (P := P) (w := w) (mg := mg) (base := base) Tx 8).at Tx X1 (by decide)
    obtain ⟨C4, dx4, fs4, f5, fd4, sp4, e1, e3, e4', e5, e6, e7, e8⟩ := (runs_ok (P := P) (w := w) (mg := mg) (base := base) Tx 8).at Tx X2 (by decide)
    refine ⟨_, rfl, p21, _, 0, _, rfl, rfl, SqL.of l23, rfl, x1, C3, dx3, fs3, f4, fd3, _, _, sp3, CX0, E0, rfl, c1, c2, c3, c4, c5, hr.mono (by omega), c6, pass0, c7 4 _ ?_⟩
    refine ⟨_, rfl, p21, _, 0, _, rfl, rfl, SqL.of l23, rfl, x1, C3, dx3, fs3, f4, fd3, _, _, sp3, CX0, E0, rfl, c1, c2, c3, c4, c5, hr.mono (by omega), c6, pass0, c7 3 _ ?_⟩
    refine ⟨_, rfl, p21, _, 1, _, rfl, rfl, SqL.of l23, rfl, x2, C4, dx4, fs4, f5, fd4, _, _, sp4, CX0, E0, rfl, e1, e3, e4', e5, e6, hr.mono (by omega), e7, pass0, e8 2 _ ?_⟩
    refine ⟨_, rfl, p21, _, 1, _, rfl, rfl, SqL.of l23, rfl, x2, C4, dx4, fs4, f5, fd4, _, _, sp4, CX0, E0, rfl, e1, e3, e4', e5, e6, hr.mono (by omega), e7, pass0, e8 3 _ ?_⟩
    refine ⟨by show 4 ≤ sizeLine; decide, fun p24 g24 => ⟨by show 4 ≤ sizeLine; decide, fun p25 g25 => ?_⟩⟩
    have s24 := same_new g24 (.lst [.bl ((RT.each 5 [1, 3]).runs 4), .bl ((RT.each 5 [1, 3]).runs 3), .bl ((RT.but [2] .always).runs 2), .bl ((RT.but [2] .always).runs 3)])
    have s25 := same_new g25 (.lst [.bl false, .bl true, .bl false, .bl true])
    have z25 := s24.trans s25
    refine ⟨p24, p25, _, _, rfl, rfl, SqL.of (s25 _ _ upd_same), SqL.of upd_same, rfl, rfl, _, rfl, itF (by decide) ?_⟩
    have R25 := R23.same z25
    have T25 := T23.same z25
    have S25 := S23.same z25
    have hT25 := z25 _ _ hT23
    obtain ⟨C, dx2, fs, f, fd, sp, x1', x2', x3, x4, x5, x6, x7⟩ := (words_ok (P := P) (w := w) (mg := mg) (base := base) Tx 8).at Tx R25 g (by omega) e2
    refine ⟨_, rfl, b, C, dx2, fs, f, fd, _, _, sp, CX0, E0, rfl, x1', x2', x3, x4, x5, hr.mono (by omega), x6, pass0, x7 _ fun pf2 H26 s26 n26 e26 => ?_⟩
    refine ⟨_, rfl, tp, v, r, rfl, T25.same s26, g, by omega, e2, fun pw2 H27 s27 n27 e27 => ?_⟩
    refine ⟨pf2, pw2, _, _, rfl, rfl, SqL.of (s27 _ _ e26), SqL.of e27, flat_str _, flat_str _, _, rfl, itF (by show ¬ (!eqL (r.words.map V.str) (r.words.map V.str)) = true; rw [eqL_str]; decide) ?_⟩
    have z27 := s26.trans s27
    refine ⟨_, rfl, _, rfl, a, tp, ns, k, rfl, S25.same z27, z27 _ _ hT25, k0, by omega, fun k2 H28 b28 v1' v2' => ⟨_, rfl, itF (by decide) ?_⟩⟩
    refine ⟨_, rfl, _, rfl, _, _, rfl, rfl, ⟨by decide, by decide, by decide⟩, a, tp, ns, k2, _, rfl, b28.scr (S25.same z27), b28.tape, by omega, by omega, by decide, by decide, fun dd H29 dd0 dd1 b29 => ?_⟩
    obtain ⟨m, rfl⟩ : ∃ m : Nat, dd = ((m : Nat) : Int) := ⟨dd.toNat, by omega⟩
    exact ⟨_, rfl, m, b, r, rfl, ((R25.same z27).bump (z27 _ _ hT25) b28).bump b28.tape b29, g, w2, e2, fun H' s' => q H'⟩

end
theorem all_mk {K : W.Frag} {h : Heap} {mg : Str → Option Value} (X : K.In h) (G : h.Ns mainGlobals mg)
    {aa : Addr} {ab ac ad ae af ag : Value} {ah ai : Option Addr} {aj : Array (Option Value)}
    {ak : Addr} {al am ao ap aq ar : Value} {as au : Option Addr} {av : Array (Option Value)}
    {aw : Addr} {ax ay az aA aB aC : Value} {aD aE : Option Addr} {aF : Array (Option Value)}
    {aG : Addr} {aH aI aJ aK aL aM : Value} {aN aO : Option Addr} {aP : Array (Option Value)}
    {aQ : Addr} {aR aS aT aU aV aW : Value} {aX aY : Option Addr} {aZ : Array (Option Value)}
    {a0 : Addr} {a1 a2 a3 a4 a5 a6 : Value} {a7 a8 : Option Addr} {a9 : Array (Option Value)}
    {ba : Addr} {bb bc bd be bf bg : Value} {bh bi : Option Addr} {bj : Array (Option Value)}
    {bk : Addr} {bl bm bn bo bp bq : Value} {br bs : Option Addr} {bt : Array (Option Value)}
    {bu : Addr} {bv bw bx bz bA bB : Value} {bC bD : Option Addr} {bE : Array (Option Value)}
    {bF : Addr} {bG bH bI bJ bK bL : Value} {bM bN : Option Addr} {bO : Array (Option Value)}
    {bP : Addr} {bQ bR bS bT bU bV : Value} {bW bX : Option Addr} {bY : Array (Option Value)}
    {bZ : Addr} {b0 b1 b2 b3 b4 b5 : Value} {b6 b7 : Option Addr} {b8 : Array (Option Value)}
    {b9 : Addr} {ca cb cc cd ce cf : Value} {cg ch : Option Addr} {ci : Array (Option Value)}
    {cj : Addr} {ck cl cm cn co cp : Value} {cq cr : Option Addr} {cs : Array (Option Value)}
    {cu : Addr} {cv cw cx cy cz cA : Value} {cB cC : Option Addr} {cD : Array (Option Value)}
    {cE : Addr} {cF cG cH cI cJ cK : Value} {cL cM : Option Addr} {cN : Array (Option Value)}
    {cO : Addr} {cP cQ cR cS cT cU : Value} {cV cW : Option Addr} {cX : Array (Option Value)}
    {cY : Addr} {cZ c0 c1 c2 c3 c4 : Value} {c5 c6 : Option Addr} {c7 : Array (Option Value)}
    {c8 : Addr} {c9 da db dc dd de : Value} {df dg : Option Addr} {dh : Array (Option Value)}
    {di : Addr} {dj dk dl dm dn dp : Value} {dq dr : Option Addr} {ds : Array (Option Value)}
    {dt : Addr} {du dv dw dx dy dz : Value} {dA dB : Option Addr} {dC : Array (Option Value)}
    {dD : Addr} {dE dF dG dH dI dJ : Value} {dK dL : Option Addr} {dM : Array (Option Value)}
    {dN : Addr} {dO dP dQ dR dS dT : Value} {dU dV : Option Addr} {dW : Array (Option Value)}
    {dX : Addr} {dY dZ d0 d1 d2 d3 : Value} {d4 d5 : Option Addr} {d6 : Array (Option Value)}
    {d7 : Addr} {d8 d9 ea eb ec ed : Value} {ee ef : Option Addr} {eg : Array (Option Value)}
    {eh : Addr} {ei ej ek el em en : Value} {eo ep : Option Addr} {eq : Array (Option Value)}
    {er : Addr} {es et eu ev ew ey : Value} {ez eA : Option Addr} {eB : Array (Option Value)}
    {eC : Addr} {eD eE eF eG eH eI : Value} {eJ eK : Option Addr} {eL : Array (Option Value)}
    {eM : Addr} {eN eO eP eQ eR eS : Value} {eT eU : Option Addr} {eV : Array (Option Value)}
    {eW : Addr} {eX eY eZ e1 e2 e3 : Value} {e4 e5 : Option Addr} {e6 : Array (Option Value)}
    {e7 : Addr} {e8 e9 fb fc fd fe : Value} {ff fg : Option Addr} {fh : Array (Option Value)}
    {fi : Addr} {fj fk fl fm fn fo : Value} {fp fq : Option Addr} {fr : Array (Option Value)}
    {fs : Addr} {ft fu fv fw fx fy : Value} {fz fA : Option Addr} {fB : Array (Option Value)}
    {fC : Addr} {fD fE fF fG fH fI : Value} {fJ fK : Option Addr} {fL : Array (Option Value)}
    {fM : Addr} {fN fO fP fQ fR fS : Value} {fT fU : Option Addr} {fV : Array (Option Value)}
    {fW : Addr} {fX fY fZ f0 f1 f2 : Value} {f3 f4 : Option Addr} {f5 : Array (Option Value)}
    {f6 : Addr} {f7 f8 f9 ga gb gc : Value} {gd gf : Option Addr} {gg : Array (Option Value)}
    {gh : Addr} {gi gj gk gl gm gn : Value} {go gp : Option Addr} {gq : Array (Option Value)}
    {gr : Addr} {gs gu gv gw gx gy : Value} {gz gA : Option Addr} {gB : Array (Option Value)}
    {gC : Addr} {gD gE gF gG gH gI : Value} {gJ gK : Option Addr} {gL : Array (Option Value)}
    {gM : Addr} {gN gO gP gQ gR gS : Value} {gT gU : Option Addr} {gV : Array (Option Value)}
    {gW : Addr} {gX gY gZ g0 g1 g2 : Value} {g3 g4 : Option Addr} {g5 : Array (Option Value)}
    {g6 : Addr} {g7 g8 g9 hb hc hd : Value} {he hf : Option Addr} {hg : Array (Option Value)}
    {hh : Addr} {hi hj hk hm hn ho : Value} {hp hq : Option Addr} {hr : Array (Option Value)}
    {hs : Addr} {ht hu hv hx hy hz : Value} {hA hB : Option Addr} {hC : Array (Option Value)}
    {hD : Addr} {hE hF hG hH hI hJ : Value} {hK hL : Option Addr} {hM : Array (Option Value)}
    {hN : Addr} {hO hP hQ hR hT hU : Value} {hV hW : Option Addr} {hX : Array (Option Value)}
    {hY : Addr} {hZ h0 h1 h2 h3 h4 : Value} {h5 h6 : Option Addr} {h7 : Array (Option Value)}
    {h8 : Addr} {h9 ia ib ic ie ig : Value} {ih ii : Option Addr} {ij : Array (Option Value)}
    {ik : Addr} {il im io ip iq ir : Value} {it iu : Option Addr} {iv : Array (Option Value)}
    {iw : Addr} {ix iy iz iA iB iC : Value} {iD iE : Option Addr} {iF : Array (Option Value)}
    {iG : Addr} {iH iI iJ iK iL iM : Value} {iN iO : Option Addr} {iP : Array (Option Value)}
    {iQ : Addr} {iR iS iT iU iV iW : Value} {iX iY : Option Addr} {iZ : Array (Option Value)}
    {i0 : Addr} {i1 i2 i3 i4 i5 i6 : Value} {i7 i8 : Option Addr} {i9 : Array (Option Value)}
    {ja : Addr} {jb jc jd je jf jg : Value} {jh ji : Option Addr} {jj : Array (Option Value)}
    {jk : Addr} {jl jm jn jo jp jq : Value} {jr js : Option Addr} {jt : Array (Option Value)}
    {ju : Addr} {jv jw jx jy jz jA : Value} {jB jC : Option Addr} {jD : Array (Option Value)}
    {jE : Addr} {jF jG jH jI jJ jK : Value} {jL jM : Option Addr} {jN : Array (Option Value)}
    {jO : Addr} {jP jQ jR jS jT jU : Value} {jV jW : Option Addr} {jX : Array (Option Value)}
    {jY : Addr}
    {jZ : Addr}
    {j0 : Addr}
    {j1 : Addr}
    {j2 : Addr}
    {j3 : Addr}
    {j4 : Addr}
    {j5 : Addr}
    {j6 : Addr}
    {j7 : Addr}
    {j8 : Addr}
    {j9 : Addr}
    {ka : Addr}
    {kc : Addr}
    {kd : Addr}
    {ke : Addr}
    {kf : Addr}
    {kg : Addr}
    {kh : Addr}
    {ki : Addr}
    {kj : PySem.ClassData}
    {kk : PySem.ClassData}
    {kl : Tok}
    {km : Tok}
    {kn : Tok}
    {ko : Tok}
    {kq : Tok}
    {kr : Tok}
    {ks : Tok}
    (kt : W.nsIn K mainGlobals "is_any_number" = some (some (.ref aa)))
    (ku : K.lookup aa = some ⟨ab, ah, .func (W.fnOf "is_any_number" "is_any_number" (defArgs s_is_any_number) (defBody s_is_any_number) (defScope s_is_any_number) .none ac ad ae ai af ag), aj⟩)
    (kv : W.codeIn K af "is_any_number" = true)
    (kw : W.keepIn K (.ref aa) = true)
    (kx : W.nsIn K mainGlobals "is_number" = some (some (.ref ak)))
    (ky : K.lookup ak = some ⟨al, as, .func (W.fnOf "is_number" "is_number" (defArgs s_is_number) (defBody s_is_number) (defScope s_is_number) .none am ao ap au aq ar), av⟩)
    (kz : W.codeIn K aq "is_number" = true)
    (kA : W.keepIn K (.ref ak) = true)
    (kB : W.nsIn K mainGlobals "are_rising" = some (some (.ref aw)))
    (kC : K.lookup aw = some ⟨ax, aD, .func (W.fnOf "are_rising" "are_rising" (defArgs s_are_rising) (defBody s_are_rising) (defScope s_are_rising) .none ay az aA aE aB aC), aF⟩)
    (kD : W.codeIn K aB "are_rising" = true)
    (kE : W.keepIn K (.ref aw) = true)
    (kF : W.nsIn K mainGlobals "copy_of" = some (some (.ref aG)))
    (kG : K.lookup aG = some ⟨aH, aN, .func (W.fnOf "copy_of" "copy_of" (defArgs s_copy_of) (defBody s_copy_of) (defScope s_copy_of) .none aI aJ aK aO aL aM), aP⟩)
    (kH : W.codeIn K aL "copy_of" = true)
    (kI : W.keepIn K (.ref aG) = true)
    (kJ : W.nsIn K mainGlobals "check_size" = some (some (.ref aQ)))
    (kK : K.lookup aQ = some ⟨aR, aX, .func (W.fnOf "check_size" "check_size" (defArgs s_check_size) (defBody s_check_size) (defScope s_check_size) .none aS aT aU aY aV aW), aZ⟩)
    (kL : W.codeIn K aV "check_size" = true)
    (kM : W.keepIn K (.ref aQ) = true)
    (kN : W.nsIn K mainGlobals "list_text" = some (some (.ref a0)))
    (kO : K.lookup a0 = some ⟨a1, a7, .func (W.fnOf "list_text" "list_text" (defArgs s_list_text) (defBody s_list_text) (defScope s_list_text) .none a2 a3 a4 a8 a5 a6), a9⟩)
    (kP : W.codeIn K a5 "list_text" = true)
    (kQ : W.keepIn K (.ref a0) = true)
    (kR : W.nsIn K mainGlobals "_law_cell" = some (some (.ref ba)))
    (kS : K.lookup ba = some ⟨bb, bh, .func (W.fnOf "_law_cell" "_law_cell" (defArgs s_law_cell) (defBody s_law_cell) (defScope s_law_cell) .none bc bd be bi bf bg), bj⟩)
    (kT : W.codeIn K bf "_law_cell" = true)
    (kU : W.keepIn K (.ref ba) = true)
    (kW : W.nsIn K mainGlobals "_law_draw" = some (some (.ref bk)))
    (kX : K.lookup bk = some ⟨bl, br, .func (W.fnOf "_law_draw" "_law_draw" (defArgs s_law_draw) (defBody s_law_draw) (defScope s_law_draw) .none bm bn bo bs bp bq), bt⟩)
    (kY : W.codeIn K bp "_law_draw" = true)
    (kZ : W.keepIn K (.ref bk) = true)
    (k0 : W.nsIn K mainGlobals "_law_whole" = some (some (.ref bu)))
    (k1 : K.lookup bu = some ⟨bv, bC, .func (W.fnOf "_law_whole" "_law_whole" (defArgs s_law_whole) (defBody s_law_whole) (defScope s_law_whole) .none bw bx bz bD bA bB), bE⟩)
    (k2 : W.codeIn K bA "_law_whole" = true)
    (k3 : W.keepIn K (.ref bu) = true)
    (k4 : W.nsIn K mainGlobals "_law_rising" = some (some (.ref bF)))
    (k5 : K.lookup bF = some ⟨bG, bM, .func (W.fnOf "_law_rising" "_law_rising" (defArgs s_law_rising) (defBody s_law_rising) (defScope s_law_rising) .none bH bI bJ bN bK bL), bO⟩)
    (k6 : W.codeIn K bK "_law_rising" = true)
    (k7 : W.keepIn K (.ref bF) = true)
    (k8 : W.nsIn K mainGlobals "_law_leaf" = some (some (.ref bP)))
    (k9 : K.lookup bP = some ⟨bQ, bW, .func (W.fnOf "_law_leaf" "_law_leaf" (defArgs s_law_leaf) (defBody s_law_leaf) (defScope s_law_leaf) .none bR bS bT bX bU bV), bY⟩)
    (la : W.codeIn K bU "_law_leaf" = true)
    (lb : W.keepIn K (.ref bP) = true)
    (lc : W.nsIn K mainGlobals "_law_tree" = some (some (.ref bZ)))
    (ld : K.lookup bZ = some ⟨b0, b6, .func (W.fnOf "_law_tree" "_law_tree" (defArgs s_law_tree) (defBody s_law_tree) (defScope s_law_tree) .none b1 b2 b3 b7 b4 b5), b8⟩)
    (lf : W.codeIn K b4 "_law_tree" = true)
    (lg : W.keepIn K (.ref bZ) = true)
    (lh : W.nsIn K mainGlobals "_law_made" = some (some (.ref b9)))
    (li : K.lookup b9 = some ⟨ca, cg, .func (W.fnOf "_law_made" "_law_made" (defArgs s_law_made) (defBody s_law_made) (defScope s_law_made) .none cb cc cd ch ce cf), ci⟩)
    (lj : W.codeIn K ce "_law_made" = true)
    (lk : W.keepIn K (.ref b9) = true)
    (ll : W.nsIn K mainGlobals "_law_runs" = some (some (.ref cj)))
    (lm : K.lookup cj = some ⟨ck, cq, .func (W.fnOf "_law_runs" "_law_runs" (defArgs s_law_runs) (defBody s_law_runs) (defScope s_law_runs) .none cl cm cn cr co cp), cs⟩)
    (ln : W.codeIn K co "_law_runs" = true)
    (lo : W.keepIn K (.ref cj) = true)
    (lp : W.nsIn K mainGlobals "_law_words" = some (some (.ref cu)))
    (lq : K.lookup cu = some ⟨cv, cB, .func (W.fnOf "_law_words" "_law_words" (defArgs s_law_words) (defBody s_law_words) (defScope s_law_words) .none cw cx cy cC cz cA), cD⟩)
    (lr : W.codeIn K cz "_law_words" = true)
    (ls : W.keepIn K (.ref cu) = true)
    (lu : W.nsIn K mainGlobals "_law_within" = some (some (.ref cE)))
    (lv : K.lookup cE = some ⟨cF, cL, .func (W.fnOf "_law_within" "_law_within" (defArgs s_law_within) (defBody s_law_within) (defScope s_law_within) .none cG cH cI cM cJ cK), cN⟩)
    (lw : W.codeIn K cJ "_law_within" = true)
    (lx : W.keepIn K (.ref cE) = true)
    (ly : W.nsIn K mainGlobals "_law_weight" = some (some (.ref cO)))
    (lz : K.lookup cO = some ⟨cP, cV, .func (W.fnOf "_law_weight" "_law_weight" (defArgs s_law_weight) (defBody s_law_weight) (defScope s_law_weight) .none cQ cR cS cW cT cU), cX⟩)
    (lA : W.codeIn K cT "_law_weight" = true)
    (lB : W.keepIn K (.ref cO) = true)
    (lC : W.nsIn K mainGlobals "_law_depth" = some (some (.ref cY)))
    (lD : K.lookup cY = some ⟨cZ, c5, .func (W.fnOf "_law_depth" "_law_depth" (defArgs s_law_depth) (defBody s_law_depth) (defScope s_law_depth) .none c0 c1 c2 c6 c3 c4), c7⟩)
    (lE : W.codeIn K c3 "_law_depth" = true)
    (lF : W.keepIn K (.ref cY) = true)
    (lG : W.nsIn K mainGlobals "_law_class" = some (some (.ref c8)))
    (lH : K.lookup c8 = some ⟨c9, df, .func (W.fnOf "_law_class" "_law_class" (defArgs s_law_class) (defBody s_law_class) (defScope s_law_class) .none da db dc dg dd de), dh⟩)
    (lI : W.codeIn K dd "_law_class" = true)
    (lJ : W.keepIn K (.ref c8) = true)
    (lK : W.nsIn K mainGlobals "_law_days" = some (some (.ref di)))
    (lL : K.lookup di = some ⟨dj, dq, .func (W.fnOf "_law_days" "_law_days" (defArgs s_law_days) (defBody s_law_days) (defScope s_law_days) .none dk dl dm dr dn dp), ds⟩)
    (lM : W.codeIn K dn "_law_days" = true)
    (lN : W.keepIn K (.ref di) = true)
    (lO : W.nsIn K mainGlobals "_law_tried" = some (some (.ref dt)))
    (lP : K.lookup dt = some ⟨du, dA, .func (W.fnOf "_law_tried" "_law_tried" (defArgs s_law_tried) (defBody s_law_tried) (defScope s_law_tried) .none dv dw dx dB dy dz), dC⟩)
    (lQ : W.codeIn K dy "_law_tried" = true)
    (lR : W.keepIn K (.ref dt) = true)
    (lS : W.nsIn K mainGlobals "_law_refused" = some (some (.ref dD)))
    (lT : K.lookup dD = some ⟨dE, dK, .func (W.fnOf "_law_refused" "_law_refused" (defArgs s_law_refused) (defBody s_law_refused) (defScope s_law_refused) .none dF dG dH dL dI dJ), dM⟩)
    (lU : W.codeIn K dI "_law_refused" = true)
    (lV : W.keepIn K (.ref dD) = true)
    (lW : W.nsIn K mainGlobals "_law_heavy" = some (some (.ref dN)))
    (lX : K.lookup dN = some ⟨dO, dU, .func (W.fnOf "_law_heavy" "_law_heavy" (defArgs s_law_heavy) (defBody s_law_heavy) (defScope s_law_heavy) .none dP dQ dR dV dS dT), dW⟩)
    (lY : W.codeIn K dS "_law_heavy" = true)
    (lZ : W.keepIn K (.ref dN) = true)
    (l0 : W.nsIn K mainGlobals "_law_right" = some (some (.ref dX)))
    (l1 : K.lookup dX = some ⟨dY, d4, .func (W.fnOf "_law_right" "_law_right" (defArgs s_law_right) (defBody s_law_right) (defScope s_law_right) .none dZ d0 d1 d5 d2 d3), d6⟩)
    (l2 : W.codeIn K d2 "_law_right" = true)
    (l3 : W.keepIn K (.ref dX) = true)
    (l4 : W.nsIn K mainGlobals "law" = some (some (.ref d7)))
    (l5 : K.lookup d7 = some ⟨d8, ee, .func (W.fnOf "law" "law" (defArgs s_law) (defBody s_law) (defScope s_law) .none d9 ea eb ef ec ed), eg⟩)
    (l6 : W.codeIn K ec "law" = true)
    (l7 : W.keepIn K (.ref d7) = true)
    (l8 : W.nsIn K mainGlobals "RoadError" = some (some (.ref jY)))
    (l9 : W.nsIn K mainGlobals "BadClock" = some (some (.ref jZ)))
    (ma : W.nsIn K mainGlobals "BadRule" = some (some (.ref j0)))
    (mb : W.nsIn K mainGlobals "TooMany" = some (some (.ref j1)))
    (mc : W.nsIn K mainGlobals "BadName" = some (some (.ref j2)))
    (md : W.nsIn K mainGlobals "Twice" = some (some (.ref j3)))
    (me : W.nsIn K mainGlobals "NoStop" = some (some (.ref j4)))
    (mf : W.nsIn K mainGlobals "BadNumber" = some (some (.ref j5)))
    (mh : W.nsIn K mainGlobals "BadCalls" = some (some (.ref j6)))
    (mi : W.nsIn K mainGlobals "NoRun" = some (some (.ref j7)))
    (mj : W.nsIn K mainGlobals "TooLate" = some (some (.ref j8)))
    (mk : W.nsIn K mainGlobals "NoTraveller" = some (some (.ref j9)))
    (ml : W.nsIn K mainGlobals "BadLine" = some (some (.ref ka)))
    (mm : W.nsIn K mainGlobals "Rule" = some (some (.ref kc)))
    (mn : W.nsIn K mainGlobals "Week" = some (some (.ref kd)))
    (mo : W.nsIn K mainGlobals "Span" = some (some (.ref ke)))
    (mp : W.nsIn K mainGlobals "Each" = some (some (.ref kf)))
    (mq : W.nsIn K mainGlobals "Either" = some (some (.ref kg)))
    (mr : W.nsIn K mainGlobals "Both" = some (some (.ref kh)))
    (ms : W.nsIn K mainGlobals "But" = some (some (.ref ki)))
    (mt : W.findIn K (.ref kc) "copied" = some (some (.ref eh)))
    (mu : W.isFn K (.ref eh) = true)
    (mv : K.lookup eh = some ⟨ei, eo, .func (W.fnOf "copied" "Rule.copied" (defArgs s_Rule_copied) (defBody s_Rule_copied) (defScope s_Rule_copied) .none ej ek el ep em en), eq⟩)
    (mw : W.codeIn K em "Rule.copied" = true)
    (mx : W.keepIn K (.ref eh) = true)
    (my : W.findIn K (.ref kc) "parts" = some (some (.ref er)))
    (mz : W.isFn K (.ref er) = true)
    (mA : K.lookup er = some ⟨es, ez, .func (W.fnOf "parts" "Rule.parts" (defArgs s_Rule_parts) (defBody s_Rule_parts) (defScope s_Rule_parts) .none et eu ev eA ew ey), eB⟩)
    (mB : W.codeIn K ew "Rule.parts" = true)
    (mC : W.keepIn K (.ref er) = true)
    (mD : W.findIn K (.ref kc) "runs" = some (some (.ref eC)))
    (mE : W.isFn K (.ref eC) = true)
    (mF : K.lookup eC = some ⟨eD, eJ, .func (W.fnOf "runs" "Rule.runs" (defArgs s_Rule_runs) (defBody s_Rule_runs) (defScope s_Rule_runs) .none eE eF eG eK eH eI), eL⟩)
    (mG : W.codeIn K eH "Rule.runs" = true)
    (mH : W.keepIn K (.ref eC) = true)
    (mI : W.findIn K (.ref kc) "words" = some (some (.ref eM)))
    (mJ : W.isFn K (.ref eM) = true)
    (mK : K.lookup eM = some ⟨eN, eT, .func (W.fnOf "words" "Rule.words" (defArgs s_Rule_words) (defBody s_Rule_words) (defScope s_Rule_words) .none eO eP eQ eU eR eS), eV⟩)
    (mL : W.codeIn K eR "Rule.words" = true)
    (mM : W.keepIn K (.ref eM) = true)
    (mN : W.findIn K (.ref kc) "weight" = some (some (.ref eW)))
    (mO : W.isFn K (.ref eW) = true)
    (mP : K.lookup eW = some ⟨eX, e4, .func (W.fnOf "weight" "Rule.weight" (defArgs s_Rule_weight) (defBody s_Rule_weight) (defScope s_Rule_weight) .none eY eZ e1 e5 e2 e3), e6⟩)
    (mQ : W.codeIn K e2 "Rule.weight" = true)
    (mR : W.keepIn K (.ref eW) = true)
    (mS : W.findIn K (.ref kc) "depth" = some (some (.ref e7)))
    (mT : W.isFn K (.ref e7) = true)
    (mU : K.lookup e7 = some ⟨e8, ff, .func (W.fnOf "depth" "Rule.depth" (defArgs s_Rule_depth) (defBody s_Rule_depth) (defScope s_Rule_depth) .none e9 fb fc fg fd fe), fh⟩)
    (mV : W.codeIn K fd "Rule.depth" = true)
    (mW : W.keepIn K (.ref e7) = true)
    (mX : W.findIn K (.ref kd) "__init__" = some (some (.ref fi)))
    (mY : W.isFn K (.ref fi) = true)
    (mZ : K.lookup fi = some ⟨fj, fp, .func (W.fnOf "__init__" "Week.__init__" (defArgs s_Week_init) (defBody s_Week_init) (defScope s_Week_init) .none fk fl fm fq fn fo), fr⟩)
    (m0 : W.codeIn K fn "Week.__init__" = true)
    (m1 : W.keepIn K (.ref fi) = true)
    (m2 : W.findIn K (.ref kd) "copied" = some (some (.ref fs)))
    (m3 : W.isFn K (.ref fs) = true)
    (m4 : K.lookup fs = some ⟨ft, fz, .func (W.fnOf "copied" "Week.copied" (defArgs s_Week_copied) (defBody s_Week_copied) (defScope s_Week_copied) .none fu fv fw fA fx fy), fB⟩)
    (m5 : W.codeIn K fx "Week.copied" = true)
    (m6 : W.keepIn K (.ref fs) = true)
    (m7 : W.findIn K (.ref kd) "runs" = some (some (.ref fC)))
    (m8 : W.isFn K (.ref fC) = true)
    (m9 : K.lookup fC = some ⟨fD, fJ, .func (W.fnOf "runs" "Week.runs" (defArgs s_Week_runs) (defBody s_Week_runs) (defScope s_Week_runs) .none fE fF fG fK fH fI), fL⟩)
    (na : W.codeIn K fH "Week.runs" = true)
    (nc : W.keepIn K (.ref fC) = true)
    (nd : W.findIn K (.ref kd) "words" = some (some (.ref fM)))
    (nf : W.isFn K (.ref fM) = true)
    (ng : K.lookup fM = some ⟨fN, fT, .func (W.fnOf "words" "Week.words" (defArgs s_Week_words) (defBody s_Week_words) (defScope s_Week_words) .none fO fP fQ fU fR fS), fV⟩)
    (nh : W.codeIn K fR "Week.words" = true)
    (ni : W.keepIn K (.ref fM) = true)
    (nj : W.findIn K (.ref ke) "__init__" = some (some (.ref fW)))
    (nk : W.isFn K (.ref fW) = true)
    (nl : K.lookup fW = some ⟨fX, f3, .func (W.fnOf "__init__" "Span.__init__" (defArgs s_Span_init) (defBody s_Span_init) (defScope s_Span_init) .none fY fZ f0 f4 f1 f2), f5⟩)
    (nm : W.codeIn K f1 "Span.__init__" = true)
    (nn : W.keepIn K (.ref fW) = true)
    (no : W.findIn K (.ref ke) "copied" = some (some (.ref f6)))
    (np : W.isFn K (.ref f6) = true)
    (nq : K.lookup f6 = some ⟨f7, gd, .func (W.fnOf "copied" "Span.copied" (defArgs s_Span_copied) (defBody s_Span_copied) (defScope s_Span_copied) .none f8 f9 ga gf gb gc), gg⟩)
    (nr : W.codeIn K gb "Span.copied" = true)
    (nt : W.keepIn K (.ref f6) = true)
    (nu : W.findIn K (.ref ke) "parts" = some (some (.ref gh)))
    (nv : W.isFn K (.ref gh) = true)
    (nw : K.lookup gh = some ⟨gi, go, .func (W.fnOf "parts" "Span.parts" (defArgs s_Span_parts) (defBody s_Span_parts) (defScope s_Span_parts) .none gj gk gl gp gm gn), gq⟩)
    (nx : W.codeIn K gm "Span.parts" = true)
    (ny : W.keepIn K (.ref gh) = true)
    (nz : W.findIn K (.ref ke) "runs" = some (some (.ref gr)))
    (nA : W.isFn K (.ref gr) = true)
    (nB : K.lookup gr = some ⟨gs, gz, .func (W.fnOf "runs" "Span.runs" (defArgs s_Span_runs) (defBody s_Span_runs) (defScope s_Span_runs) .none gu gv gw gA gx gy), gB⟩)
    (nC : W.codeIn K gx "Span.runs" = true)
    (nD : W.keepIn K (.ref gr) = true)
    (nE : W.findIn K (.ref ke) "words" = some (some (.ref gC)))
    (nF : W.isFn K (.ref gC) = true)
    (nG : K.lookup gC = some ⟨gD, gJ, .func (W.fnOf "words" "Span.words" (defArgs s_Span_words) (defBody s_Span_words) (defScope s_Span_words) .none gE gF gG gK gH gI), gL⟩)
    (nH : W.codeIn K gH "Span.words" = true)
    (nI : W.keepIn K (.ref gC) = true)
    (nJ : W.findIn K (.ref kf) "__init__" = some (some (.ref gM)))
    (nK : W.isFn K (.ref gM) = true)
    (nL : K.lookup gM = some ⟨gN, gT, .func (W.fnOf "__init__" "Each.__init__" (defArgs s_Each_init) (defBody s_Each_init) (defScope s_Each_init) .none gO gP gQ gU gR gS), gV⟩)
    (nM : W.codeIn K gR "Each.__init__" = true)
    (nN : W.keepIn K (.ref gM) = true)
    (nO : W.findIn K (.ref kf) "copied" = some (some (.ref gW)))
    (nP : W.isFn K (.ref gW) = true)
    (nQ : K.lookup gW = some ⟨gX, g3, .func (W.fnOf "copied" "Each.copied" (defArgs s_Each_copied) (defBody s_Each_copied) (defScope s_Each_copied) .none gY gZ g0 g4 g1 g2), g5⟩)
    (nR : W.codeIn K g1 "Each.copied" = true)
    (nS : W.keepIn K (.ref gW) = true)
    (nT : W.findIn K (.ref kf) "runs" = some (some (.ref g6)))
    (nU : W.isFn K (.ref g6) = true)
    (nV : K.lookup g6 = some ⟨g7, he, .func (W.fnOf "runs" "Each.runs" (defArgs s_Each_runs) (defBody s_Each_runs) (defScope s_Each_runs) .none g8 g9 hb hf hc hd), hg⟩)
    (nW : W.codeIn K hc "Each.runs" = true)
    (nX : W.keepIn K (.ref g6) = true)
    (nY : W.findIn K (.ref kf) "words" = some (some (.ref hh)))
    (nZ : W.isFn K (.ref hh) = true)
    (n0 : K.lookup hh = some ⟨hi, hp, .func (W.fnOf "words" "Each.words" (defArgs s_Each_words) (defBody s_Each_words) (defScope s_Each_words) .none hj hk hm hq hn ho), hr⟩)
    (n1 : W.codeIn K hn "Each.words" = true)
    (n2 : W.keepIn K (.ref hh) = true)
    (n3 : W.findIn K (.ref kg) "__init__" = some (some (.ref hs)))
    (n4 : W.isFn K (.ref hs) = true)
    (n5 : K.lookup hs = some ⟨ht, hA, .func (W.fnOf "__init__" "Either.__init__" (defArgs s_Either_init) (defBody s_Either_init) (defScope s_Either_init) .none hu hv hx hB hy hz), hC⟩)
    (n6 : W.codeIn K hy "Either.__init__" = true)
    (n7 : W.keepIn K (.ref hs) = true)
    (n8 : W.findIn K (.ref kg) "copied" = some (some (.ref hD)))
    (n9 : W.isFn K (.ref hD) = true)
    (oa : K.lookup hD = some ⟨hE, hK, .func (W.fnOf "copied" "Either.copied" (defArgs s_Either_copied) (defBody s_Either_copied) (defScope s_Either_copied) .none hF hG hH hL hI hJ), hM⟩)
    (ob : W.codeIn K hI "Either.copied" = true)
    (oe : W.keepIn K (.ref hD) = true)
    (og : W.findIn K (.ref kg) "parts" = some (some (.ref hN)))
    (oh : W.isFn K (.ref hN) = true)
    (oi : K.lookup hN = some ⟨hO, hV, .func (W.fnOf "parts" "Either.parts" (defArgs s_Either_parts) (defBody s_Either_parts) (defScope s_Either_parts) .none hP hQ hR hW hT hU), hX⟩)
    (oj : W.codeIn K hT "Either.parts" = true)
    (ok : W.keepIn K (.ref hN) = true)
    (ol : W.findIn K (.ref kg) "runs" = some (some (.ref hY)))
    (om : W.isFn K (.ref hY) = true)
    (on : K.lookup hY = some ⟨hZ, h5, .func (W.fnOf "runs" "Either.runs" (defArgs s_Either_runs) (defBody s_Either_runs) (defScope s_Either_runs) .none h0 h1 h2 h6 h3 h4), h7⟩)
    (oo : W.codeIn K h3 "Either.runs" = true)
    (op : W.keepIn K (.ref hY) = true)
    (oq : W.findIn K (.ref kg) "words" = some (some (.ref h8)))
    (os : W.isFn K (.ref h8) = true)
    (ot : K.lookup h8 = some ⟨h9, ih, .func (W.fnOf "words" "Either.words" (defArgs s_Either_words) (defBody s_Either_words) (defScope s_Either_words) .none ia ib ic ii ie ig), ij⟩)
    (ou : W.codeIn K ie "Either.words" = true)
    (ov : W.keepIn K (.ref h8) = true)
    (ow : W.findIn K (.ref kh) "__init__" = some (some (.ref ik)))
    (ox : W.isFn K (.ref ik) = true)
    (oy : K.lookup ik = some ⟨il, it, .func (W.fnOf "__init__" "Both.__init__" (defArgs s_Both_init) (defBody s_Both_init) (defScope s_Both_init) .none im io ip iu iq ir), iv⟩)
    (oz : W.codeIn K iq "Both.__init__" = true)
    (oA : W.keepIn K (.ref ik) = true)
    (oB : W.findIn K (.ref kh) "copied" = some (some (.ref iw)))
    (oC : W.isFn K (.ref iw) = true)
    (oD : K.lookup iw = some ⟨ix, iD, .func (W.fnOf "copied" "Both.copied" (defArgs s_Both_copied) (defBody s_Both_copied) (defScope s_Both_copied) .none iy iz iA iE iB iC), iF⟩)
    (oE : W.codeIn K iB "Both.copied" = true)
    (oF : W.keepIn K (.ref iw) = true)
    (oG : W.findIn K (.ref kh) "parts" = some (some (.ref iG)))
    (oH : W.isFn K (.ref iG) = true)
    (oI : K.lookup iG = some ⟨iH, iN, .func (W.fnOf "parts" "Both.parts" (defArgs s_Both_parts) (defBody s_Both_parts) (defScope s_Both_parts) .none iI iJ iK iO iL iM), iP⟩)
    (oJ : W.codeIn K iL "Both.parts" = true)
    (oK : W.keepIn K (.ref iG) = true)
    (oL : W.findIn K (.ref kh) "runs" = some (some (.ref iQ)))
    (oM : W.isFn K (.ref iQ) = true)
    (oN : K.lookup iQ = some ⟨iR, iX, .func (W.fnOf "runs" "Both.runs" (defArgs s_Both_runs) (defBody s_Both_runs) (defScope s_Both_runs) .none iS iT iU iY iV iW), iZ⟩)
    (oO : W.codeIn K iV "Both.runs" = true)
    (oP : W.keepIn K (.ref iQ) = true)
    (oQ : W.findIn K (.ref kh) "words" = some (some (.ref i0)))
    (oR : W.isFn K (.ref i0) = true)
    (oS : K.lookup i0 = some ⟨i1, i7, .func (W.fnOf "words" "Both.words" (defArgs s_Both_words) (defBody s_Both_words) (defScope s_Both_words) .none i2 i3 i4 i8 i5 i6), i9⟩)
    (oT : W.codeIn K i5 "Both.words" = true)
    (oU : W.keepIn K (.ref i0) = true)
    (oV : W.findIn K (.ref ki) "__init__" = some (some (.ref ja)))
    (oW : W.isFn K (.ref ja) = true)
    (oX : K.lookup ja = some ⟨jb, jh, .func (W.fnOf "__init__" "But.__init__" (defArgs s_But_init) (defBody s_But_init) (defScope s_But_init) .none jc jd je ji jf jg), jj⟩)
    (oY : W.codeIn K jf "But.__init__" = true)
    (oZ : W.keepIn K (.ref ja) = true)
    (o0 : W.findIn K (.ref ki) "copied" = some (some (.ref jk)))
    (o1 : W.isFn K (.ref jk) = true)
    (o2 : K.lookup jk = some ⟨jl, jr, .func (W.fnOf "copied" "But.copied" (defArgs s_But_copied) (defBody s_But_copied) (defScope s_But_copied) .none jm jn jo js jp jq), jt⟩)
    (o3 : W.codeIn K jp "But.copied" = true)
    (o4 : W.keepIn K (.ref jk) = true)
    (o5 : W.findIn K (.ref ki) "parts" = some (some (.ref ju)))
    (o6 : W.isFn K (.ref ju) = true)
    (o7 : K.lookup ju = some ⟨jv, jB, .func (W.fnOf "parts" "But.parts" (defArgs s_But_parts) (defBody s_But_parts) (defScope s_But_parts) .none jw jx jy jC jz jA), jD⟩)
    (o8 : W.codeIn K jz "But.parts" = true)
    (o9 : W.keepIn K (.ref ju) = true)
    (pa : W.findIn K (.ref ki) "runs" = some (some (.ref jE)))
    (pb : W.isFn K (.ref jE) = true)
    (pc : K.lookup jE = some ⟨jF, jL, .func (W.fnOf "runs" "But.runs" (defArgs s_But_runs) (defBody s_But_runs) (defScope s_But_runs) .none jG jH jI jM jJ jK), jN⟩)
    (pd : W.codeIn K jJ "But.runs" = true)
    (pe : W.keepIn K (.ref jE) = true)
    (pf : W.findIn K (.ref ki) "words" = some (some (.ref jO)))
    (pg : W.isFn K (.ref jO) = true)
    (ph : K.lookup jO = some ⟨jP, jV, .func (W.fnOf "words" "But.words" (defArgs s_But_words) (defBody s_But_words) (defScope s_But_words) .none jQ jR jS jW jT jU), jX⟩)
    (pi : W.codeIn K jT "But.words" = true)
    (pj : W.keepIn K (.ref jO) = true)
    (pk : W.plainGet K kc Str.empty = true)
    (pl : W.hasDictIn K kc = true)
    (pn : W.plainOver K kc = true)
    (po : W.findIn K (.ref kc) "__setattr__" = some (some (.builtin "object.__setattr__")))
    (pp : W.makesIn K kc = true)
    (pq : W.keepIn K (.ref kc) = true)
    (pr : W.findIn K (.ref kc) "__init__" = some (some (.builtin "object.__init__")))
    (pt : W.plainGet K kd Str.empty = true)
    (pu : W.hasDictIn K kd = true)
    (pv : W.plainOver K kd = true)
    (pw : W.findIn K (.ref kd) "__setattr__" = some (some (.builtin "object.__setattr__")))
    (px : W.makesIn K kd = true)
    (py : W.keepIn K (.ref kd) = true)
    (pz : W.findIn K (.ref kd) "depth" = some (some (.ref e7)))
    (pA : W.findIn K (.ref kd) "parts" = some (some (.ref er)))
    (pB : W.findIn K (.ref kd) "weight" = some (some (.ref eW)))
    (pC : W.findIn K (.ref kd) "bits" = some none)
    (pD : W.plainGet K ke Str.empty = true)
    (pE : W.hasDictIn K ke = true)
    (pF : W.plainOver K ke = true)
    (pG : W.findIn K (.ref ke) "__setattr__" = some (some (.builtin "object.__setattr__")))
    (pH : W.makesIn K ke = true)
    (pI : W.keepIn K (.ref ke) = true)
    (pJ : W.findIn K (.ref ke) "depth" = some (some (.ref e7)))
    (pK : W.findIn K (.ref ke) "weight" = some (some (.ref eW)))
    (pL : W.findIn K (.ref ke) "first" = some none)
    (pM : W.findIn K (.ref ke) "last" = some none)
    (pN : W.findIn K (.ref ke) "inner" = some none)
    (pO : W.plainGet K kf Str.empty = true)
    (pP : W.hasDictIn K kf = true)
    (pQ : W.plainOver K kf = true)
    (pR : W.findIn K (.ref kf) "__setattr__" = some (some (.builtin "object.__setattr__")))
    (pS : W.makesIn K kf = true)
    (pT : W.keepIn K (.ref kf) = true)
    (pU : W.findIn K (.ref kf) "depth" = some (some (.ref e7)))
    (pV : W.findIn K (.ref kf) "parts" = some (some (.ref er)))
    (pW : W.findIn K (.ref kf) "weight" = some (some (.ref eW)))
    (pX : W.findIn K (.ref kf) "length" = some none)
    (pY : W.findIn K (.ref kf) "starts" = some none)
    (pZ : W.plainGet K kg Str.empty = true)
    (p0 : W.hasDictIn K kg = true)
    (p1 : W.plainOver K kg = true)
    (p2 : W.findIn K (.ref kg) "__setattr__" = some (some (.builtin "object.__setattr__")))
    (p3 : W.makesIn K kg = true)
    (p4 : W.keepIn K (.ref kg) = true)
    (p5 : W.findIn K (.ref kg) "depth" = some (some (.ref e7)))
    (p6 : W.findIn K (.ref kg) "weight" = some (some (.ref eW)))
    (p7 : W.findIn K (.ref kg) "one" = some none)
    (p8 : W.findIn K (.ref kg) "other" = some none)
    (p9 : W.plainGet K kh Str.empty = true)
    (qa : W.hasDictIn K kh = true)
    (qb : W.plainOver K kh = true)
    (qc : W.findIn K (.ref kh) "__setattr__" = some (some (.builtin "object.__setattr__")))
    (qd : W.makesIn K kh = true)
    (qe : W.keepIn K (.ref kh) = true)
    (qf : W.findIn K (.ref kh) "depth" = some (some (.ref e7)))
    (qg : W.findIn K (.ref kh) "weight" = some (some (.ref eW)))
    (qh : W.findIn K (.ref kh) "one" = some none)
    (qi : W.findIn K (.ref kh) "other" = some none)
    (qj : W.plainGet K ki Str.empty = true)
    (qk : W.hasDictIn K ki = true)
    (ql : W.plainOver K ki = true)
    (qm : W.findIn K (.ref ki) "__setattr__" = some (some (.builtin "object.__setattr__")))
    (qn : W.makesIn K ki = true)
    (qo : W.keepIn K (.ref ki) = true)
    (qp : W.findIn K (.ref ki) "depth" = some (some (.ref e7)))
    (qq : W.findIn K (.ref ki) "weight" = some (some (.ref eW)))
    (qr : W.findIn K (.ref ki) "days" = some none)
    (qs : W.findIn K (.ref ki) "inner" = some none)
    (qt : W.findIn K (.ref kc) "__class__" = some (some (.builtin "object.__class__")))
    (qu : W.specialIn K (.builtin "object.__class__") "__get__" = some (some (.builtin "getset_descriptor.__get__")))
    (qv : W.takesIn K (.builtin "object.__class__") = some true)
    (qw : W.mroIn K kc (.type "object") = some true)
    (qx : W.kitOne K (.ref kc) (.ref kc) = some true)
    (qy : W.findIn K (.ref kd) "__class__" = some (some (.builtin "object.__class__")))
    (qz : W.specialIn K (.builtin "object.__class__") "__get__" = some (some (.builtin "getset_descriptor.__get__")))
    (qA : W.takesIn K (.builtin "object.__class__") = some true)
    (qB : W.mroIn K kd (.type "object") = some true)
    (qC : W.kitOne K (.ref kd) (.ref kc) = some true)
    (qD : W.findIn K (.ref ke) "__class__" = some (some (.builtin "object.__class__")))
    (qE : W.specialIn K (.builtin "object.__class__") "__get__" = some (some (.builtin "getset_descriptor.__get__")))
    (qF : W.takesIn K (.builtin "object.__class__") = some true)
    (qG : W.mroIn K ke (.type "object") = some true)
    (qH : W.kitOne K (.ref ke) (.ref kc) = some true)
    (qI : W.findIn K (.ref kf) "__class__" = some (some (.builtin "object.__class__")))
    (qJ : W.specialIn K (.builtin "object.__class__") "__get__" = some (some (.builtin "getset_descriptor.__get__")))
    (qK : W.takesIn K (.builtin "object.__class__") = some true)
    (qL : W.mroIn K kf (.type "object") = some true)
    (qM : W.kitOne K (.ref kf) (.ref kc) = some true)
    (qN : W.findIn K (.ref kg) "__class__" = some (some (.builtin "object.__class__")))
    (qO : W.specialIn K (.builtin "object.__class__") "__get__" = some (some (.builtin "getset_descriptor.__get__")))
    (qP : W.takesIn K (.builtin "object.__class__") = some true)
    (qQ : W.mroIn K kg (.type "object") = some true)
    (qR : W.kitOne K (.ref kg) (.ref kc) = some true)
    (qS : W.findIn K (.ref kh) "__class__" = some (some (.builtin "object.__class__")))
    (qT : W.specialIn K (.builtin "object.__class__") "__get__" = some (some (.builtin "getset_descriptor.__get__")))
    (qU : W.takesIn K (.builtin "object.__class__") = some true)
    (qV : W.mroIn K kh (.type "object") = some true)
    (qW : W.kitOne K (.ref kh) (.ref kc) = some true)
    (qX : W.findIn K (.ref ki) "__class__" = some (some (.builtin "object.__class__")))
    (qY : W.specialIn K (.builtin "object.__class__") "__get__" = some (some (.builtin "getset_descriptor.__get__")))
    (qZ : W.takesIn K (.builtin "object.__class__") = some true)
    (q0 : W.mroIn K ki (.type "object") = some true)
    (q1 : W.kitOne K (.ref ki) (.ref kc) = some true)
    (q2 : W.kitOne K (.type "NoneType") (.ref kc) = some false)
    (q3 : W.kitOne K (.type "str") (.ref kc) = some false)
    (q4 : W.kitOne K (.type "int") (.ref kc) = some false)
    (q5 : W.kitOne K (.type "list") (.ref kc) = some false)
    (q6 : W.kitOne K (.type "dict") (.ref kc) = some false)
    (q7 : W.kitOne K (.type "bool") (.ref kc) = some false)
    (q8 : W.excIn K j0 [.type "ValueError", .type "Exception", .type "BaseException", .type "object"] "ValueError.__new__" = true)
    (q9 : W.clsIn K j0 = some kj)
    (ra : W.findIn K (.ref j0) "__getattribute__" = some (some (.builtin "BaseException.__getattribute__")))
    (rb : W.findIn K (.ref j0) "__getattr__" = some none)
    (rc : W.findIn K (.ref j0) "__class__" = some (some (.builtin "object.__class__")))
    (rd : W.mroIn K j0 (.type "object") = some true)
    (re : W.mroIn K j0 (.type "BaseException") = some true)
    (rf : W.specialIn K (.builtin "object.__class__") "__get__" = some (some (.builtin "getset_descriptor.__get__")))
    (rg : W.takesIn K (.builtin "object.__class__") = some true)
    (rh : W.kitOne K (.ref j0) (.ref jZ) = some false)
    (ri : W.kitOne K (.ref j0) (.ref j0) = some true)
    (rj : W.kitOne K (.ref j0) (.ref j1) = some false)
    (rk : W.kitOne K (.ref j0) (.ref j2) = some false)
    (rl : W.kitOne K (.ref j0) (.ref j3) = some false)
    (rm : W.kitOne K (.ref j0) (.ref j4) = some false)
    (rn : W.kitOne K (.ref j0) (.ref j5) = some false)
    (ro : W.kitOne K (.ref j0) (.ref j6) = some false)
    (rp : W.kitOne K (.ref j0) (.ref j7) = some false)
    (rq : W.kitOne K (.ref j0) (.ref j8) = some false)
    (rr : W.kitOne K (.ref j0) (.ref j9) = some false)
    (rs : W.kitOne K (.ref j0) (.ref ka) = some false)
    (rt : W.kitOne K (.ref j0) (.type "ValueError") = some true)
    (ru : W.exmOne K (.ref j0) (.ref jY) = some true)
    (rv : W.excIn K j1 [.type "ValueError", .type "Exception", .type "BaseException", .type "object"] "ValueError.__new__" = true)
    (rx : W.clsIn K j1 = some kk)
    (ry : W.findIn K (.ref j1) "__getattribute__" = some (some (.builtin "BaseException.__getattribute__")))
    (rz : W.findIn K (.ref j1) "__getattr__" = some none)
    (rA : W.findIn K (.ref j1) "__class__" = some (some (.builtin "object.__class__")))
    (rB : W.mroIn K j1 (.type "object") = some true)
    (rC : W.mroIn K j1 (.type "BaseException") = some true)
    (rD : W.specialIn K (.builtin "object.__class__") "__get__" = some (some (.builtin "getset_descriptor.__get__")))
    (rE : W.takesIn K (.builtin "object.__class__") = some true)
    (rF : W.kitOne K (.ref j1) (.ref jZ) = some false)
    (rG : W.kitOne K (.ref j1) (.ref j0) = some false)
    (rH : W.kitOne K (.ref j1) (.ref j1) = some true)
    (rI : W.kitOne K (.ref j1) (.ref j2) = some false)
    (rJ : W.kitOne K (.ref j1) (.ref j3) = some false)
    (rK : W.kitOne K (.ref j1) (.ref j4) = some false)
    (rL : W.kitOne K (.ref j1) (.ref j5) = some false)
    (rM : W.kitOne K (.ref j1) (.ref j6) = some false)
    (rN : W.kitOne K (.ref j1) (.ref j7) = some false)
    (rO : W.kitOne K (.ref j1) (.ref j8) = some false)
    (rP : W.kitOne K (.ref j1) (.ref j9) = some false)
    (rQ : W.kitOne K (.ref j1) (.ref ka) = some false)
    (rR : W.kitOne K (.ref j1) (.type "ValueError") = some true)
    (rS : W.exmOne K (.ref j1) (.ref jY) = some true)
    (rT : W.nsIn K mainGlobals "ValueError" = some none)
    (rU : W.nsIn K mainGlobals "all" = some none)
    (rV : W.nsIn K mainGlobals "bool" = some none)
    (rW : W.nsIn K mainGlobals "int" = some none)
    (rX : W.nsIn K mainGlobals "isinstance" = some none)
    (rY : W.nsIn K mainGlobals "len" = some none)
    (rZ : W.nsIn K mainGlobals "list" = some none)
    (r0 : W.nsIn K mainGlobals "max" = some none)
    (r1 : W.nsIn K mainGlobals "min" = some none)
    (r2 : W.nsIn K mainGlobals "range" = some none)
    (r3 : W.nsIn K mainGlobals "set" = some none)
    (r4 : W.nsIn K mainGlobals "sorted" = some none)
    (r5 : W.nsIn K mainGlobals "str" = some none)
    (r6 : W.nsIn K mainGlobals "sum" = some none)
    (r7 : W.nsIn K mainGlobals "tuple" = some none)
    (r8 : W.nsIn K mainGlobals "LAST_DAY" = some (some (.int 9999 kl)))
    (r9 : W.nsIn K mainGlobals "WEEK_DAYS" = some (some (.int 7 km)))
    (sa : W.nsIn K mainGlobals "ALL_WEEK" = some (some (.int 127 kn)))
    (sb : W.nsIn K mainGlobals "MOST_LENGTH" = some (some (.int 28 ko)))
    (sc : W.nsIn K mainGlobals "MOST_LISTED" = some (some (.int 12 kq)))
    (sd : W.nsIn K mainGlobals "MOST_WEIGHT" = some (some (.int 15 kr)))
    (se : W.nsIn K mainGlobals "MOST_DEPTH" = some (some (.int 8 ks)))
    : ∃ t : Adr, Tab K mg t := by
  have sf := fun_mk (st := s_is_any_number) ku kv kw
  have sg := sf.binds (ps := ["value"]) fun _ _ _ _ _ _ us hl => match us, hl with | [_], _ => rfl
  have sh := fun_mk (st := s_is_number) ky kz kA
  have si := sh.binds (ps := ["value", "least", "most"]) fun _ _ _ _ _ _ us hl => match us, hl with | [_, _, _], _ => rfl
  have sj := fun_mk (st := s_are_rising) kC kD kE
  have sk := sj.binds (ps := ["values", "longest", "least", "most"]) fun _ _ _ _ _ _ us hl => match us, hl with | [_, _, _, _], _ => rfl
  have sl := fun_mk (st := s_copy_of) kG kH kI
  have sm := sl.binds (ps := ["rule"]) fun _ _ _ _ _ _ us hl => match us, hl with | [_], _ => rfl
  have sn := fun_mk (st := s_check_size) kK kL kM
  have so := sn.binds (ps := ["rule"]) fun _ _ _ _ _ _ us hl => match us, hl with | [_], _ => rfl
  have sq := fun_mk (st := s_list_text) kO kP kQ
  have sr := sq.binds (ps := ["numbers"]) fun _ _ _ _ _ _ us hl => match us, hl with | [_], _ => rfl
  have ss := fun_mk (st := s_law_cell) kS kT kU
  have su := ss.binds (ps := ["_law_script", "_law_k"]) fun _ _ _ _ _ _ us hl => match us, hl with | [_, _], _ => rfl
  have sv := fun_mk (st := s_law_draw) kX kY kZ
  have sw := sv.binds (ps := ["_law_script", "_law_tape", "_law_many"]) fun _ _ _ _ _ _ us hl => match us, hl with | [_, _, _], _ => rfl
  have sx := fun_mk (st := s_law_whole) k1 k2 k3
  have sy := sx.binds (ps := ["_law_found"]) fun _ _ _ _ _ _ us hl => match us, hl with | [_], _ => rfl
  have sz := fun_mk (st := s_law_rising) k5 k6 k7
  have sA := sz.binds (ps := ["_law_script", "_law_tape", "_law_least", "_law_most"]) fun _ _ _ _ _ _ us hl => match us, hl with | [_, _, _, _], _ => rfl
  have sB := fun_mk (st := s_law_leaf) k9 la lb
  have sC := sB.binds (ps := ["_law_script", "_law_tape"]) fun _ _ _ _ _ _ us hl => match us, hl with | [_, _], _ => rfl
  have sD := fun_mk (st := s_law_tree) ld lf lg
  have sE := sD.binds (ps := ["_law_script", "_law_tape", "_law_room", "_law_deep"]) fun _ _ _ _ _ _ us hl => match us, hl with | [_, _, _, _], _ => rfl
  have sF := fun_mk (st := s_law_made) li lj lk
  have sG := sF.binds (ps := ["_law_tree_here"]) fun _ _ _ _ _ _ us hl => match us, hl with | [_], _ => rfl
  have sH := fun_mk (st := s_law_runs) lm ln lo
  have sI := sH.binds (ps := ["_law_tree_here", "_law_day"]) fun _ _ _ _ _ _ us hl => match us, hl with | [_, _], _ => rfl
  have sJ := fun_mk (st := s_law_words) lq lr ls
  have sK := sJ.binds (ps := ["_law_tree_here"]) fun _ _ _ _ _ _ us hl => match us, hl with | [_], _ => rfl
  have sL := fun_mk (st := s_law_within) lv lw lx
  have sM := sL.binds (ps := ["_law_tree_here"]) fun _ _ _ _ _ _ us hl => match us, hl with | [_], _ => rfl
  have sN := fun_mk (st := s_law_weight) lz lA lB
  have sO := sN.binds (ps := ["_law_tree_here"]) fun _ _ _ _ _ _ us hl => match us, hl with | [_], _ => rfl
  have sP := fun_mk (st := s_law_depth) lD lE lF
  have sQ := sP.binds (ps := ["_law_tree_here"]) fun _ _ _ _ _ _ us hl => match us, hl with | [_], _ => rfl
  have sR := fun_mk (st := s_law_class) lH lI lJ
  have sS := sR.binds (ps := ["_law_error"]) fun _ _ _ _ _ _ us hl => match us, hl with | [_], _ => rfl
  have sT := fun_mk (st := s_law_days) lL lM lN
  have sU := sT.binds (ps := ["_law_tree_here"]) fun _ _ _ _ _ _ us hl => match us, hl with | [_], _ => rfl
  have sV := fun_mk (st := s_law_tried) lP lQ lR
  have sW := sV.binds (ps := ["_law_which", "_law_one", "_law_two", "_law_rule"]) fun _ _ _ _ _ _ us hl => match us, hl with | [_, _, _, _], _ => rfl
  have sX := fun_mk (st := s_law_refused) lT lU lV
  have sY := sX.binds (ps := ["_law_number", "_law_rule"]) fun _ _ _ _ _ _ us hl => match us, hl with | [_, _], _ => rfl
  have sZ := fun_mk (st := s_law_heavy) lX lY lZ
  have s0 := sZ.binds (ps := ["_law_script", "_law_tape"]) fun _ _ _ _ _ _ us hl => match us, hl with | [_, _], _ => rfl
  have s1 := fun_mk (st := s_law_right) l1 l2 l3
  have s2 := s1.binds (ps := ["_law_tree_here", "_law_rule", "_law_day"]) fun _ _ _ _ _ _ us hl => match us, hl with | [_, _, _], _ => rfl
  have s3 := fun_mk (st := s_law) l5 l6 l7
  have s4 := s3.binds (ps := ["_law_script"]) fun _ _ _ _ _ _ us hl => match us, hl with | [_], _ => rfl
  have s5 := fun_mk (st := s_Rule_copied) mv mw mx
  have s6 := s5.binds (ps := ["self"]) fun _ _ _ _ _ _ us hl => match us, hl with | [_], _ => rfl
  have s7 := fun_mk (st := s_Rule_parts) mA mB mC
  have s8 := s7.binds (ps := ["self"]) fun _ _ _ _ _ _ us hl => match us, hl with | [_], _ => rfl
  have s9 := fun_mk (st := s_Rule_runs) mF mG mH
  have ta := s9.binds (ps := ["self", "day"]) fun _ _ _ _ _ _ us hl => match us, hl with | [_, _], _ => rfl
  have tb := fun_mk (st := s_Rule_words) mK mL mM
  have tc := tb.binds (ps := ["self"]) fun _ _ _ _ _ _ us hl => match us, hl with | [_], _ => rfl
  have td := fun_mk (st := s_Rule_weight) mP mQ mR
  have te := td.binds (ps := ["self"]) fun _ _ _ _ _ _ us hl => match us, hl with | [_], _ => rfl
  have tf := fun_mk (st := s_Rule_depth) mU mV mW
  have tg := tf.binds (ps := ["self"]) fun _ _ _ _ _ _ us hl => match us, hl with | [_], _ => rfl
  have th := fun_mk (st := s_Week_init) mZ m0 m1
  have ti := th.binds (ps := ["self", "bits"]) fun _ _ _ _ _ _ us hl => match us, hl with | [_, _], _ => rfl
  have tj := fun_mk (st := s_Week_copied) m4 m5 m6
  have tk := tj.binds (ps := ["self"]) fun _ _ _ _ _ _ us hl => match us, hl with | [_], _ => rfl
  have tl := fun_mk (st := s_Week_runs) m9 na nc
  have tm := tl.binds (ps := ["self", "day"]) fun _ _ _ _ _ _ us hl => match us, hl with | [_, _], _ => rfl
  have tn := fun_mk (st := s_Week_words) ng nh ni
  have tp := tn.binds (ps := ["self"]) fun _ _ _ _ _ _ us hl => match us, hl with | [_], _ => rfl
  have tq := fun_mk (st := s_Span_init) nl nm nn
  have tr := tq.binds (ps := ["self", "first", "last", "rule"]) fun _ _ _ _ _ _ us hl => match us, hl with | [_, _, _, _], _ => rfl
  have ts := fun_mk (st := s_Span_copied) nq nr nt
  have tt := ts.binds (ps := ["self"]) fun _ _ _ _ _ _ us hl => match us, hl with | [_], _ => rfl
  have tu := fun_mk (st := s_Span_parts) nw nx ny
  have tv := tu.binds (ps := ["self"]) fun _ _ _ _ _ _ us hl => match us, hl with | [_], _ => rfl
  have tw := fun_mk (st := s_Span_runs) nB nC nD
  have tx := tw.binds (ps := ["self", "day"]) fun _ _ _ _ _ _ us hl => match us, hl with | [_, _], _ => rfl
  have ty := fun_mk (st := s_Span_words) nG nH nI
  have tz := ty.binds (ps := ["self"]) fun _ _ _ _ _ _ us hl => match us, hl with | [_], _ => rfl
  have tA := fun_mk (st := s_Each_init) nL nM nN
  have tB := tA.binds (ps := ["self", "length", "starts"]) fun _ _ _ _ _ _ us hl => match us, hl with | [_, _, _], _ => rfl
  have tC := fun_mk (st := s_Each_copied) nQ nR nS
  have tD := tC.binds (ps := ["self"]) fun _ _ _ _ _ _ us hl => match us, hl with | [_], _ => rfl
  have tE := fun_mk (st := s_Each_runs) nV nW nX
  have tF := tE.binds (ps := ["self", "day"]) fun _ _ _ _ _ _ us hl => match us, hl with | [_, _], _ => rfl
  have tG := fun_mk (st := s_Each_words) n0 n1 n2
  have tH := tG.binds (ps := ["self"]) fun _ _ _ _ _ _ us hl => match us, hl with | [_], _ => rfl
  have tI := fun_mk (st := s_Either_init) n5 n6 n7
  have tJ := tI.binds (ps := ["self", "one", "other"]) fun _ _ _ _ _ _ us hl => match us, hl with | [_, _, _], _ => rfl
  have tK := fun_mk (st := s_Either_copied) oa ob oe
  have tL := tK.binds (ps := ["self"]) fun _ _ _ _ _ _ us hl => match us, hl with | [_], _ => rfl
  have tM := fun_mk (st := s_Either_parts) oi oj ok
  have tN := tM.binds (ps := ["self"]) fun _ _ _ _ _ _ us hl => match us, hl with | [_], _ => rfl
  have tO := fun_mk (st := s_Either_runs) on oo op
  have tP := tO.binds (ps := ["self", "day"]) fun _ _ _ _ _ _ us hl => match us, hl with | [_, _], _ => rfl
  have tQ := fun_mk (st := s_Either_words) ot ou ov
  have tR := tQ.binds (ps := ["self"]) fun _ _ _ _ _ _ us hl => match us, hl with | [_], _ => rfl
  have tS := fun_mk (st := s_Both_init) oy oz oA
  have tT := tS.binds (ps := ["self", "one", "other"]) fun _ _ _ _ _ _ us hl => match us, hl with | [_, _, _], _ => rfl
  have tU := fun_mk (st := s_Both_copied) oD oE oF
  have tV := tU.binds (ps := ["self"]) fun _ _ _ _ _ _ us hl => match us, hl with | [_], _ => rfl
  have tW := fun_mk (st := s_Both_parts) oI oJ oK
  have tX := tW.binds (ps := ["self"]) fun _ _ _ _ _ _ us hl => match us, hl with | [_], _ => rfl
  have tY := fun_mk (st := s_Both_runs) oN oO oP
  have tZ := tY.binds (ps := ["self", "day"]) fun _ _ _ _ _ _ us hl => match us, hl with | [_, _], _ => rfl
  have t0 := fun_mk (st := s_Both_words) oS oT oU
  have t1 := t0.binds (ps := ["self"]) fun _ _ _ _ _ _ us hl => match us, hl with | [_], _ => rfl
  have t2 := fun_mk (st := s_But_init) oX oY oZ
  have t3 := t2.binds (ps := ["self", "days", "rule"]) fun _ _ _ _ _ _ us hl => match us, hl with | [_, _, _], _ => rfl
  have t4 := fun_mk (st := s_But_copied) o2 o3 o4
  have t5 := t4.binds (ps := ["self"]) fun _ _ _ _ _ _ us hl => match us, hl with | [_], _ => rfl
  have t6 := fun_mk (st := s_But_parts) o7 o8 o9
  have t7 := t6.binds (ps := ["self"]) fun _ _ _ _ _ _ us hl => match us, hl with | [_], _ => rfl
  have t8 := fun_mk (st := s_But_runs) pc pd pe
  have t9 := t8.binds (ps := ["self", "day"]) fun _ _ _ _ _ _ us hl => match us, hl with | [_, _], _ => rfl
  have ua := fun_mk (st := s_But_words) ph pi pj
  have ub := ua.binds (ps := ["self"]) fun _ _ _ _ _ _ us hl => match us, hl with | [_], _ => rfl
  exact ⟨⟨aa, W.fnOf "is_any_number" "is_any_number" (defArgs s_is_any_number) (defBody s_is_any_number) (defScope s_is_any_number) .none ac ad ae ai af ag, ak, W.fnOf "is_number" "is_number" (defArgs s_is_number) (defBody s_is_number) (defScope s_is_number) .none am ao ap au aq ar, aw, W.fnOf "are_rising" "are_rising" (defArgs s_are_rising) (defBody s_are_rising) (defScope s_are_rising) .none ay az aA aE aB aC, aG, W.fnOf "copy_of" "copy_of" (defArgs s_copy_of) (defBody s_copy_of) (defScope s_copy_of) .none aI aJ aK aO aL aM, aQ, W.fnOf "check_size" "check_size" (defArgs s_check_size) (defBody s_check_size) (defScope s_check_size) .none aS aT aU aY aV aW, a0, W.fnOf "list_text" "list_text" (defArgs s_list_text) (defBody s_list_text) (defScope s_list_text) .none a2 a3 a4 a8 a5 a6, ba, W.fnOf "_law_cell" "_law_cell" (defArgs s_law_cell) (defBody s_law_cell) (defScope s_law_cell) .none bc bd be bi bf bg, bk, W.fnOf "_law_draw" "_law_draw" (defArgs s_law_draw) (defBody s_law_draw) (defScope s_law_draw) .none bm bn bo bs bp bq, bu, W.fnOf "_law_whole" "_law_whole" (defArgs s_law_whole) (defBody s_law_whole) (defScope s_law_whole) .none bw bx bz bD bA bB, bF, W.fnOf "_law_rising" "_law_rising" (defArgs s_law_rising) (defBody s_law_rising) (defScope s_law_rising) .none bH bI bJ bN bK bL, bP, W.fnOf "_law_leaf" "_law_leaf" (defArgs s_law_leaf) (defBody s_law_leaf) (defScope s_law_leaf) .none bR bS bT bX bU bV, bZ, W.fnOf "_law_tree" "_law_tree" (defArgs s_law_tree) (defBody s_law_tree) (defScope s_law_tree) .none b1 b2 b3 b7 b4 b5, b9, W.fnOf "_law_made" "_law_made" (defArgs s_law_made) (defBody s_law_made) (defScope s_law_made) .none cb cc cd ch ce cf, cj, W.fnOf "_law_runs" "_law_runs" (defArgs s_law_runs) (defBody s_law_runs) (defScope s_law_runs) .none cl cm cn cr co cp, cu, W.fnOf "_law_words" "_law_words" (defArgs s_law_words) (defBody s_law_words) (defScope s_law_words) .none cw cx cy cC cz cA, cE, W.fnOf "_law_within" "_law_within" (defArgs s_law_within) (defBody s_law_within) (defScope s_law_within) .none cG cH cI cM cJ cK, cO, W.fnOf "_law_weight" "_law_weight" (defArgs s_law_weight) (defBody s_law_weight) (defScope s_law_weight) .none cQ cR cS cW cT cU, cY, W.fnOf "_law_depth" "_law_depth" (defArgs s_law_depth) (defBody s_law_depth) (defScope s_law_depth) .none c0 c1 c2 c6 c3 c4, c8, W.fnOf "_law_class" "_law_class" (defArgs s_law_class) (defBody s_law_class) (defScope s_law_class) .none da db dc dg dd de, di, W.fnOf "_law_days" "_law_days" (defArgs s_law_days) (defBody s_law_days) (defScope s_law_days) .none dk dl dm dr dn dp, dt, W.fnOf "_law_tried" "_law_tried" (defArgs s_law_tried) (defBody s_law_tried) (defScope s_law_tried) .none dv dw dx dB dy dz, dD, W.fnOf "_law_refused" "_law_refused" (defArgs s_law_refused) (defBody s_law_refused) (defScope s_law_refused) .none dF dG dH dL dI dJ, dN, W.fnOf "_law_heavy" "_law_heavy" (defArgs s_law_heavy) (defBody s_law_heavy) (defScope s_law_heavy) .none dP dQ dR dV dS dT, dX, W.fnOf "_law_right" "_law_right" (defArgs s_law_right) (defBody s_law_right) (defScope s_law_right) .none dZ d0 d1 d5 d2 d3, d7, W.fnOf "law" "law" (defArgs s_law) (defBody s_law) (defScope s_law) .none d9 ea eb ef ec ed, eh, W.fnOf "copied" "Rule.copied" (defArgs s_Rule_copied) (defBody s_Rule_copied) (defScope s_Rule_copied) .none ej ek el ep em en, er, W.fnOf "parts" "Rule.parts" (defArgs s_Rule_parts) (defBody s_Rule_parts) (defScope s_Rule_parts) .none et eu ev eA ew ey, eC, W.fnOf "runs" "Rule.runs" (defArgs s_Rule_runs) (defBody s_Rule_runs) (defScope s_Rule_runs) .none eE eF eG eK eH eI, eM, W.fnOf "words" "Rule.words" (defArgs s_Rule_words) (defBody s_Rule_words) (defScope s_Rule_words) .none eO eP eQ eU eR eS, eW, W.fnOf "weight" "Rule.weight" (defArgs s_Rule_weight) (defBody s_Rule_weight) (defScope s_Rule_weight) .none eY eZ e1 e5 e2 e3, e7, W.fnOf "depth" "Rule.depth" (defArgs s_Rule_depth) (defBody s_Rule_depth) (defScope s_Rule_depth) .none e9 fb fc fg fd fe, fi, W.fnOf "__init__" "Week.__init__" (defArgs s_Week_init) (defBody s_Week_init) (defScope s_Week_init) .none fk fl fm fq fn fo, fs, W.fnOf "copied" "Week.copied" (defArgs s_Week_copied) (defBody s_Week_copied) (defScope s_Week_copied) .none fu fv fw fA fx fy, fC, W.fnOf "runs" "Week.runs" (defArgs s_Week_runs) (defBody s_Week_runs) (defScope s_Week_runs) .none fE fF fG fK fH fI, fM, W.fnOf "words" "Week.words" (defArgs s_Week_words) (defBody s_Week_words) (defScope s_Week_words) .none fO fP fQ fU fR fS, fW, W.fnOf "__init__" "Span.__init__" (defArgs s_Span_init) (defBody s_Span_init) (defScope s_Span_init) .none fY fZ f0 f4 f1 f2, f6, W.fnOf "copied" "Span.copied" (defArgs s_Span_copied) (defBody s_Span_copied) (defScope s_Span_copied) .none f8 f9 ga gf gb gc, gh, W.fnOf "parts" "Span.parts" (defArgs s_Span_parts) (defBody s_Span_parts) (defScope s_Span_parts) .none gj gk gl gp gm gn, gr, W.fnOf "runs" "Span.runs" (defArgs s_Span_runs) (defBody s_Span_runs) (defScope s_Span_runs) .none gu gv gw gA gx gy, gC, W.fnOf "words" "Span.words" (defArgs s_Span_words) (defBody s_Span_words) (defScope s_Span_words) .none gE gF gG gK gH gI, gM, W.fnOf "__init__" "Each.__init__" (defArgs s_Each_init) (defBody s_Each_init) (defScope s_Each_init) .none gO gP gQ gU gR gS, gW, W.fnOf "copied" "Each.copied" (defArgs s_Each_copied) (defBody s_Each_copied) (defScope s_Each_copied) .none gY gZ g0 g4 g1 g2, g6, W.fnOf "runs" "Each.runs" (defArgs s_Each_runs) (defBody s_Each_runs) (defScope s_Each_runs) .none g8 g9 hb hf hc hd, hh, W.fnOf "words" "Each.words" (defArgs s_Each_words) (defBody s_Each_words) (defScope s_Each_words) .none hj hk hm hq hn ho, hs, W.fnOf "__init__" "Either.__init__" (defArgs s_Either_init) (defBody s_Either_init) (defScope s_Either_init) .none hu hv hx hB hy hz, hD, W.fnOf "copied" "Either.copied" (defArgs s_Either_copied) (defBody s_Either_copied) (defScope s_Either_copied) .none hF hG hH hL hI hJ, hN, W.fnOf "parts" "Either.parts" (defArgs s_Either_parts) (defBody s_Either_parts) (defScope s_Either_parts) .none hP hQ hR hW hT hU, hY, W.fnOf "runs" "Either.runs" (defArgs s_Either_runs) (defBody s_Either_runs) (defScope s_Either_runs) .none h0 h1 h2 h6 h3 h4, h8, W.fnOf "words" "Either.words" (defArgs s_Either_words) (defBody s_Either_words) (defScope s_Either_words) .none ia ib ic ii ie ig, ik, W.fnOf "__init__" "Both.__init__" (defArgs s_Both_init) (defBody s_Both_init) (defScope s_Both_init) .none im io ip iu iq ir, iw, W.fnOf "copied" "Both.copied" (defArgs s_Both_copied) (defBody s_Both_copied) (defScope s_Both_copied) .none iy iz iA iE iB iC, iG, W.fnOf "parts" "Both.parts" (defArgs s_Both_parts) (defBody s_Both_parts) (defScope s_Both_parts) .none iI iJ iK iO iL iM, iQ, W.fnOf "runs" "Both.runs" (defArgs s_Both_runs) (defBody s_Both_runs) (defScope s_Both_runs) .none iS iT iU iY iV iW, i0, W.fnOf "words" "Both.words" (defArgs s_Both_words) (defBody s_Both_words) (defScope s_Both_words) .none i2 i3 i4 i8 i5 i6, ja, W.fnOf "__init__" "But.__init__" (defArgs s_But_init) (defBody s_But_init) (defScope s_But_init) .none jc jd je ji jf jg, jk, W.fnOf "copied" "But.copied" (defArgs s_But_copied) (defBody s_But_copied) (defScope s_But_copied) .none jm jn jo js jp jq, ju, W.fnOf "parts" "But.parts" (defArgs s_But_parts) (defBody s_But_parts) (defScope s_But_parts) .none jw jx jy jC jz jA, jE, W.fnOf "runs" "But.runs" (defArgs s_But_runs) (defBody s_But_runs) (defScope s_But_runs) .none jG jH jI jM jJ jK, jO, W.fnOf "words" "But.words" (defArgs s_But_words) (defBody s_But_words) (defScope s_But_words) .none jQ jR jS jW jT jU, jY, jZ, j0, j1, j2, j3, j4, j5, j6, j7, j8, j9, ka, kc, kd, ke, kf, kg, kh, ki⟩, ⟨W.mg_none_of X G rT,
    W.mg_none_of X G rU,
    W.mg_none_of X G rV,
    W.mg_none_of X G rW,
    W.mg_none_of X G rX,
    W.mg_none_of X G rY,
    W.mg_none_of X G rZ,
    W.mg_none_of X G r0,
    W.mg_none_of X G r1,
    W.mg_none_of X G r2,
    W.mg_none_of X G r3,
    W.mg_none_of X G r4,
    W.mg_none_of X G r5,
    W.mg_none_of X G r6,
    W.mg_none_of X G r7,
    ⟨_, W.mg_of X G r8⟩,
    ⟨_, W.mg_of X G r9⟩,
    ⟨_, W.mg_of X G sa⟩,
    ⟨_, W.mg_of X G sb⟩,
    ⟨_, W.mg_of X G sc⟩,
    ⟨_, W.mg_of X G sd⟩,
    ⟨_, W.mg_of X G se⟩,
    sf,
    W.mg_of X G kt,
    sg,
    sh,
    W.mg_of X G kx,
    si,
    sj,
    W.mg_of X G kB,
    sk,
    sl,
    W.mg_of X G kF,
    sm,
    sn,
    W.mg_of X G kJ,
    so,
    sq,
    W.mg_of X G kN,
    sr,
    ss,
    W.mg_of X G kR,
    su,
    sv,
    W.mg_of X G kW,
    sw,
    sx,
    W.mg_of X G k0,
    sy,
    sz,
    W.mg_of X G k4,
    sA,
    sB,
    W.mg_of X G k8,
    sC,
    sD,
    W.mg_of X G lc,
    sE,
    sF,
    W.mg_of X G lh,
    sG,
    sH,
    W.mg_of X G ll,
    sI,
    sJ,
    W.mg_of X G lp,
    sK,
    sL,
    W.mg_of X G lu,
    sM,
    sN,
    W.mg_of X G ly,
    sO,
    sP,
    W.mg_of X G lC,
    sQ,
    sR,
    W.mg_of X G lG,
    sS,
    sT,
    W.mg_of X G lK,
    sU,
    sV,
    W.mg_of X G lO,
    sW,
    sX,
    W.mg_of X G lS,
    sY,
    sZ,
    W.mg_of X G lW,
    s0,
    s1,
    W.mg_of X G l0,
    s2,
    s3,
    W.mg_of X G l4,
    s4,
    s5,
    s6,
    s7,
    s8,
    s9,
    ta,
    tb,
    tc,
    td,
    te,
    tf,
    tg,
    th,
    ti,
    tj,
    tk,
    tl,
    tm,
    tn,
    tp,
    tq,
    tr,
    ts,
    tt,
    tu,
    tv,
    tw,
    tx,
    ty,
    tz,
    tA,
    tB,
    tC,
    tD,
    tE,
    tF,
    tG,
    tH,
    tI,
    tJ,
    tK,
    tL,
    tM,
    tN,
    tO,
    tP,
    tQ,
    tR,
    tS,
    tT,
    tU,
    tV,
    tW,
    tX,
    tY,
    tZ,
    t0,
    t1,
    t2,
    t3,
    t4,
    t5,
    t6,
    t7,
    t8,
    t9,
    ua,
    ub,
    ⟨pk, pl, pn, po⟩,
    ⟨pp, pr, pq⟩,
    ⟨mt, mu, mx⟩,
    ⟨mS, mT, mW⟩,
    ⟨my, mz, mC⟩,
    ⟨mD, mE, mH⟩,
    ⟨mN, mO, mR⟩,
    ⟨mI, mJ, mM⟩,
    ⟨pt, pu, pv, pw⟩,
    ⟨px, mX, mY, py⟩,
    ⟨m2, m3, m6⟩,
    ⟨pz, mT, mW⟩,
    ⟨pA, mz, mC⟩,
    ⟨m7, m8, nc⟩,
    ⟨pB, mO, mR⟩,
    ⟨nd, nf, ni⟩,
    pC,
    ⟨pD, pE, pF, pG⟩,
    ⟨pH, nj, nk, pI⟩,
    ⟨no, np, nt⟩,
    ⟨pJ, mT, mW⟩,
    ⟨nu, nv, ny⟩,
    ⟨nz, nA, nD⟩,
    ⟨pK, mO, mR⟩,
    ⟨nE, nF, nI⟩,
    pL,
    pM,
    pN,
    ⟨pO, pP, pQ, pR⟩,
    ⟨pS, nJ, nK, pT⟩,
    ⟨nO, nP, nS⟩,
    ⟨pU, mT, mW⟩,
    ⟨pV, mz, mC⟩,
    ⟨nT, nU, nX⟩,
    ⟨pW, mO, mR⟩,
    ⟨nY, nZ, n2⟩,
    pX,
    pY,
    ⟨pZ, p0, p1, p2⟩,
    ⟨p3, n3, n4, p4⟩,
    ⟨n8, n9, oe⟩,
    ⟨p5, mT, mW⟩,
    ⟨og, oh, ok⟩,
    ⟨ol, om, op⟩,
    ⟨p6, mO, mR⟩,
    ⟨oq, os, ov⟩,
    p7,
    p8,
    ⟨p9, qa, qb, qc⟩,
    ⟨qd, ow, ox, qe⟩,
    ⟨oB, oC, oF⟩,
    ⟨qf, mT, mW⟩,
    ⟨oG, oH, oK⟩,
    ⟨oL, oM, oP⟩,
    ⟨qg, mO, mR⟩,
    ⟨oQ, oR, oU⟩,
    qh,
    qi,
    ⟨qj, qk, ql, qm⟩,
    ⟨qn, oV, oW, qo⟩,
    ⟨o0, o1, o4⟩,
    ⟨qp, mT, mW⟩,
    ⟨o5, o6, o9⟩,
    ⟨pa, pb, pe⟩,
    ⟨qq, mO, mR⟩,
    ⟨pf, pg, pj⟩,
    qr,
    qs,
    ⟨qt, qu, qv, qw⟩,
    qx,
    ⟨qy, qz, qA, qB⟩,
    qC,
    ⟨qD, qE, qF, qG⟩,
    qH,
    ⟨qI, qJ, qK, qL⟩,
    qM,
    ⟨qN, qO, qP, qQ⟩,
    qR,
    ⟨qS, qT, qU, qV⟩,
    qW,
    ⟨qX, qY, qZ, q0⟩,
    q1,
    q2,
    q3,
    q4,
    q5,
    q6,
    q7,
    W.mg_of X G l8,
    W.mg_of X G l9,
    W.mg_of X G ma,
    W.mg_of X G mb,
    W.mg_of X G mc,
    W.mg_of X G md,
    W.mg_of X G me,
    W.mg_of X G mf,
    W.mg_of X G mh,
    W.mg_of X G mi,
    W.mg_of X G mj,
    W.mg_of X G mk,
    W.mg_of X G ml,
    W.mg_of X G mm,
    W.mg_of X G mn,
    W.mg_of X G mo,
    W.mg_of X G mp,
    W.mg_of X G mq,
    W.mg_of X G mr,
    W.mg_of X G ms,
    ⟨q8⟩,
    ⟨by rw [q9]; rfl, ra, rb, rc, rd, re, rf, rg⟩,
    rh,
    ri,
    rj,
    rk,
    rl,
    rm,
    rn,
    ro,
    rp,
    rq,
    rr,
    rs,
    rt,
    ru,
    ⟨rv⟩,
    ⟨by rw [rx]; rfl, ry, rz, rA, rB, rC, rD, rE⟩,
    rF,
    rG,
    rH,
    rI,
    rJ,
    rK,
    rL,
    rM,
    rN,
    rO,
    rP,
    rQ,
    rR,
    rS⟩⟩
end K03
def PySem.W.Fast.tw8766850401107572356 : Nat := 0
def PySem.W.Fast.tw5756520190355999402 : Nat := 0
def PySem.W.Fast.tw18050307523098222770 : Nat := 0
def PySem.W.Fast.tw13415509851989585616 : Nat := 0
def PySem.W.Fast.tw5853226033681818874 : Nat := 0
def PySem.W.Fast.tw15529589925893254447 : Nat := 0
def PySem.W.Fast.tw5090337958627128569 : Nat := 0
def PySem.W.Fast.tw8120716431866675941 : Nat := 0
def PySem.W.Fast.tw150229701681233589 : Nat := 0
def PySem.W.Fast.tw16066654779594651116 : Nat := 0
def PySem.W.Fast.tw8854549069373190028 : Nat := 0
def PySem.W.Fast.tw752650644882445780 : Nat := 0
def PySem.W.Fast.tw16438544045530888131 : Nat := 0
def PySem.W.Fast.tw10897621812415100291 : Nat := 0
def PySem.W.Fast.tw5610937043966447353 : Nat := 0
def PySem.W.Fast.tw13175211501346031643 : Nat := 0
def PySem.W.Fast.tw15074893286912886564 : Nat := 0
def PySem.W.Fast.tw9402033457787447394 : Nat := 0
def PySem.W.Fast.tw11831747447003832640 : Nat := 0
def PySem.W.Fast.tw8452093236831458730 : Nat := 0
def PySem.W.Fast.tw11933441087551865259 : Nat := 0
def PySem.W.Fast.tw14588738348891127930 : Nat := 0
def PySem.W.Fast.tw1933724180113340974 : Nat := 0
def PySem.W.Fast.tw7778453674509308894 : Nat := 0
def PySem.W.Fast.tw9418010641203909802 : Nat := 0
def PySem.W.Fast.tw3166986965449573237 : Nat := 0
def PySem.W.Fast.tw10968094937053513448 : Nat := 0
def PySem.W.Fast.tw8095507814494151305 : Nat := 0
def PySem.W.Fast.tw17785206616709353529 : Nat := 0
def PySem.W.Fast.tw7549003375255747119 : Nat := 0
def PySem.W.Fast.tw17193051615352056987 : Nat := 0
def PySem.W.Fast.tw18340787645679414325 : Nat := 0
def PySem.W.Fast.tw3045668371554143157 : Nat := 0
def PySem.W.Fast.tw10418807569187170536 : Nat := 0
def PySem.W.Fast.tw4580566702736250063 : Nat := 0
def PySem.W.Fast.tw13963703036923010069 : Nat := 0
def PySem.W.Fast.tw12759502295245833535 : Nat := 0
def PySem.W.Fast.tw10345645161573718428 : Nat := 0
def PySem.W.Fast.tw13478116815301072949 : Nat := 0
def PySem.W.Fast.tw10527183380866496311 : Nat := 0
def PySem.W.Fast.tw12973600731792059778 : Nat := 0
def PySem.W.Fast.tw111946392077654302 : Nat := 0
def PySem.W.Fast.tw8846383764852389349 : Nat := 0
def PySem.W.Fast.tw17276633774311634589 : Nat := 0
def PySem.W.Fast.tw8922323165990892747 : Nat := 0
def PySem.W.Fast.tw1955527520453961622 : Nat := 0
def PySem.W.Fast.tw4902589789318458291 : Nat := 0
def PySem.W.Fast.tw12930955306538652052 : Nat := 0
def PySem.W.Fast.tw161714968243312290 : Nat := 0
def PySem.W.Fast.tw10366982831508829376 : Nat := 0
def PySem.W.Fast.tw14729030220400873149 : Nat := 0
def PySem.W.Fast.tw4505620534426818795 : Nat := 0
def PySem.W.Fast.tw18090758331417840860 : Nat := 0
def PySem.W.Fast.tw4697955045668216232 : Nat := 0
def PySem.W.Fast.tw14763147911376333719 : Nat := 0
def PySem.W.Fast.tw3791861817203523185 : Nat := 0
def PySem.W.Fast.tw15165157481883457598 : Nat := 0
def PySem.W.Fast.tw13930339579114169948 : Nat := 0
def PySem.W.Fast.tw7870918447750763241 : Nat := 0
def PySem.W.Fast.tw1483732086085982495 : Nat := 0
def PySem.W.Fast.tw6459988651186546653 : Nat := 0
def PySem.W.Fast.tw4737575574185180448 : Nat := 0
def PySem.W.Fast.tw5303975137792652190 : Nat := 0
def PySem.W.Fast.tw4724035161745256270 : Nat := 0
def PySem.W.Fast.tw10102271577465160895 : Nat := 0
def PySem.W.Fast.tw6007885148538715666 : Nat := 0
def PySem.W.Fast.tw9243388657453434035 : Nat := 0
def PySem.W.Fast.tw8511071603424882634 : Nat := 0
def PySem.W.Fast.tw208418129636514755 : Nat := 0
def PySem.W.Fast.tw7110339029992998803 : Nat := 0
def PySem.W.Fast.tw11296169885290641496 : Nat := 0
def PySem.W.Fast.tw8796306208746225056 : Nat := 0
def PySem.W.Fast.tw9118261305482078676 : Nat := 0
def PySem.W.Fast.tw16772295835205163641 : Nat := 0
def PySem.W.Fast.tw2895514867336122937 : Nat := 0
def PySem.W.Fast.tw17526685742823557016 : Nat := 0
def PySem.W.Fast.tw2055907222429822954 : Nat := 0
def PySem.W.Fast.tw8504960256667203175 : Nat := 0
def PySem.W.Fast.tw6314574402001397138 : Nat := 0
def PySem.W.Fast.tw5720691101563624618 : Nat := 0
def PySem.W.Fast.tw11673940141211537127 : Nat := 0
def PySem.W.Fast.tw12941780753006768354 : Nat := 0
def PySem.W.Fast.tw4262634686592460934 : Nat := 0
def PySem.W.Fast.tw16104791339916061677 : Nat := 0
def PySem.W.Fast.tw14041585117536740994 : Nat := 0
def PySem.W.Fast.tw6134218571616848324 : Nat := 0
def PySem.W.Fast.tw14490157259317264573 : Nat := 0
def PySem.W.Fast.tw16134320866223385575 : Nat := 0
def PySem.W.Fast.tw5502616133769471008 : Nat := 0
def PySem.W.Fast.tw12073594009117221266 : Nat := 0
def PySem.W.Fast.tw14625706064945343993 : Nat := 0
def PySem.W.Fast.tw4919196178615227902 : Nat := 0
def PySem.W.Fast.tw2885062648419599436 : Nat := 0
def PySem.W.Fast.tw3607897900326816141 : Nat := 0
def PySem.W.Fast.tw4737921971786566611 : Nat := 0
def PySem.W.Fast.tw14456104558242692721 : Nat := 0
def PySem.W.Fast.tw13558512448745421623 : Nat := 0
def PySem.W.Fast.tw13797785794451894380 : Nat := 0
def PySem.W.Fast.tw4074501484423024821 : Nat := 0
def PySem.W.Fast.tw13840235870759685743 : Nat := 0
def PySem.W.Fast.tw6208569667526050449 : Nat := 0
def PySem.W.Fast.tw11777388195180530275 : Nat := 0
def PySem.W.Fast.tw14392508086649177683 : Nat := 0
def PySem.W.Fast.tw3823519102431662309 : Nat := 0
def PySem.W.Fast.tw11271487117968896242 : Nat := 0
def PySem.W.Fast.tw12955187786752380018 : Nat := 0
def PySem.W.Fast.tw17156155939450623054 : Nat := 0
def PySem.W.Fast.tw4724933301057013184 : Nat := 0
def PySem.W.Fast.tw1308037413418304951 : Nat := 0
open PySem PySem.W PyProof.Rows
set_option maxRecDepth 100000 in
set_option maxHeartbeats 0 in
theorem PySem.Challenge.cw_roadbook_k03_rules_of_days_holds : PySem.Challenge.rw_roadbook_k03_rules_of_days.Holds := by
  w_on; o_law; k_head; (case hw => w_witness2)
  k_fill
  refine L2.walk_ofK (l := PySem.Challenge.rw_roadbook_k03_rules_of_days) (n := 63) (k := 80) (x := "_law_script") (CX := L2.CX0) (sp := K03.sp_law) rfl (by decide) rfl ⟨rfl, by decide, by decide⟩ (fun w h Y => PySem.W.kIn_of Y) ?F (fun _ _ a ns hl _ hS => ⟨a, ns, rfl, hS, hl, fun _ => rfl⟩) fun _ _ _ _ z => z
  case F =>
    intro w mg fa h KX G hmg
    have T : ∃ t, K03.Tab (L2.KOf KX) mg t := by
      dsimp only [L2.KOf]
      refine' K03.all_mk KX G ?kt ?ku ?kv ?kw ?kx ?ky ?kz ?kA ?kB ?kC ?kD ?kE ?kF ?kG ?kH ?kI ?kJ ?kK ?kL ?kM ?kN ?kO ?kP ?kQ ?kR ?kS ?kT ?kU ?kW ?kX ?kY ?kZ ?k0 ?k1 ?k2 ?k3 ?k4 ?k5 ?k6 ?k7 ?k8 ?k9 ?la ?lb ?lc ?ld ?lf ?lg ?lh ?li ?lj ?lk ?ll ?lm ?ln ?lo ?lp ?lq ?lr ?ls ?lu ?lv ?lw ?lx ?ly ?lz ?lA ?lB ?lC ?lD ?lE ?lF ?lG ?lH ?lI ?lJ ?lK ?lL ?lM ?lN ?lO ?lP ?lQ ?lR ?lS ?lT ?lU ?lV ?lW ?lX ?lY ?lZ ?l0 ?l1 ?l2 ?l3 ?l4 ?l5 ?l6 ?l7 ?l8 ?l9 ?ma ?mb ?mc ?md ?me ?mf ?mh ?mi ?mj ?mk ?ml ?mm ?mn ?mo ?mp ?mq ?mr ?ms ?mt ?mu ?mv ?mw ?mx ?my ?mz ?mA ?mB ?mC ?mD ?mE ?mF ?mG ?mH ?mI ?mJ ?mK ?mL ?mM ?mN ?mO ?mP ?mQ ?mR ?mS ?mT ?mU ?mV ?mW ?mX ?mY ?mZ ?m0 ?m1 ?m2 ?m3 ?m4 ?m5 ?m6 ?m7 ?m8 ?m9 ?na ?nc ?nd ?nf ?ng ?nh ?ni ?nj ?nk ?nl ?nm ?nn ?no ?np ?nq ?nr ?nt ?nu ?nv ?nw ?nx ?ny ?nz ?nA ?nB ?nC ?nD ?nE ?nF ?nG ?nH ?nI ?nJ ?nK ?nL ?nM ?nN ?nO ?nP ?nQ ?nR ?nS ?nT ?nU ?nV ?nW ?nX ?nY ?nZ ?n0 ?n1 ?n2 ?n3 ?n4 ?n5 ?n6 ?n7 ?n8 ?n9 ?oa ?ob ?oe ?og ?oh ?oi ?oj ?ok ?ol ?om ?on ?oo ?op ?oq ?os ?ot ?ou ?ov ?ow ?ox ?oy ?oz ?oA ?oB ?oC ?oD ?oE ?oF ?oG ?oH ?oI ?oJ ?oK ?oL ?oM ?oN ?oO ?oP ?oQ ?oR ?oS ?oT ?oU ?oV ?oW ?oX ?oY ?oZ ?o0 ?o1 ?o2 ?o3 ?o4 ?o5 ?o6 ?o7 ?o8 ?o9 ?pa ?pb ?pc ?pd ?pe ?pf ?pg ?ph ?pi ?pj ?pk ?pl ?pn ?po ?pp ?pq ?pr ?pt ?pu ?pv ?pw ?px ?py ?pz ?pA ?pB ?pC ?pD ?pE ?pF ?pG ?pH ?pI ?pJ ?pK ?pL ?pM ?pN ?pO ?pP ?pQ ?pR ?pS ?pT ?pU ?pV ?pW ?pX ?pY ?pZ ?p0 ?p1 ?p2 ?p3 ?p4 ?p5 ?p6 ?p7 ?p8 ?p9 ?qa ?qb ?qc ?qd ?qe ?qf ?qg ?qh ?qi ?qj ?qk ?ql ?qm ?qn ?qo ?qp ?qq ?qr ?qs ?qt ?qu ?qv ?qw ?qx ?qy ?qz ?qA ?qB ?qC ?qD ?qE ?qF ?qG ?qH ?qI ?qJ ?qK ?qL ?qM ?qN ?qO ?qP ?qQ ?qR ?qS ?qT ?qU ?qV ?qW ?qX ?qY ?qZ ?q0 ?q1 ?q2 ?q3 ?q4 ?q5 ?q6 ?q7 ?q8 ?q9 ?ra ?rb ?rc ?rd ?re ?rf ?rg ?rh ?ri ?rj ?rk ?rl ?rm ?rn ?ro ?rp ?rq ?rr ?rs ?rt ?ru ?rv ?rx ?ry ?rz ?rA ?rB ?rC ?rD ?rE ?rF ?rG ?rH ?rI ?rJ ?rK ?rL ?rM ?rN ?rO ?rP ?rQ ?rR ?rS ?rT ?rU ?rV ?rW ?rX ?rY ?rZ ?r0 ?r1 ?r2 ?r3 ?r4 ?r5 ?r6 ?r7 ?r8 ?r9 ?sa ?sb ?sc ?sd ?se
      (case kt => k_is)
      (case ku => k_is)
      (case kv => k_is)
      (case kw => k_is)
      (case kx => k_is)
      (case ky => k_is)
      (case kz => k_is)
      (case kA => k_is)
      (case kB => k_is)
      (case kC => k_is)
      (case kD => k_is)
      (case kE => k_is)
      (case kF => k_is)
      (case kG => k_is)
      (case kH => k_is)
      (case kI => k_is)
      (case kJ => k_is)
      (case kK => k_is)
      (case kL => k_is)
      (case kM => k_is)
      (case kN => k_is)
      (case kO => k_is)
      (case kP => k_is)
      (case kQ => k_is)
      (case kR => k_is)
      (case kS => k_is)
      (case kT => k_is)
      (case kU => k_is)
      (case kW => k_is)
      (case kX => k_is)
      (case kY => k_is)
      (case kZ => k_is)
      (case k0 => k_is)
      (case k1 => k_is)
      (case k2 => k_is)
      (case k3 => k_is)
      (case k4 => k_is)
      (case k5 => k_is)
      (case k6 => k_is)
      (case k7 => k_is)
      (case k8 => k_is)
      (case k9 => k_is)
      (case la => k_is)
      (case lb => k_is)
      (case lc => k_is)
      (case ld => k_is)
      (case lf => k_is)
      (case lg => k_is)
      (case lh => k_is)
      (case li => k_is)
      (case lj => k_is)
      (case lk => k_is)
      (case ll => k_is)
      (case lm => k_is)
      (case ln => k_is)
      (case lo => k_is)
      (case lp => k_is)
      (case lq => k_is)
      (case lr => k_is)
      (case ls => k_is)
      (case lu => k_is)
      (case lv => k_is)
      (case lw => k_is)
      (case lx => k_is)
      (case ly => k_is)
      (case lz => k_is)
      (case lA => k_is)
      (case lB => k_is)
      (case lC => k_is)
      (case lD => k_is)
      (case lE => k_is)
      (case lF => k_is)
      (case lG => k_is)
      (case lH => k_is)
      (case lI => k_is)
      (case lJ => k_is)
      (case lK => k_is)
      (case lL => k_is)
      (case lM => k_is)
      (case lN => k_is)
      (case lO => k_is)
      (case lP => k_is)
      (case lQ => k_is)
      (case lR => k_is)
      (case lS => k_is)
      (case lT => k_is)
      (case lU => k_is)
      (case lV => k_is)
      (case lW => k_is)
      (case lX => k_is)
      (case lY => k_is)
      (case lZ => k_is)
      (case l0 => k_is)
      (case l1 => k_is)
      (case l2 => k_is)
      (case l3 => k_is)
      (case l4 => k_is)
      (case l5 => k_is)
      (case l6 => k_is)
      (case l7 => k_is)
      (case l8 => k_is)
      (case l9 => k_is)
      (case ma => k_is)
      (case mb => k_is)
      (case mc => k_is)
      (case md => k_is)
      (case me => k_is)
      (case mf => k_is)
      (case mh => k_is)
      (case mi => k_is)
      (case mj => k_is)
      (case mk => k_is)
      (case ml => k_is)
      (case mm => k_is)
      (case mn => k_is)
      (case mo => k_is)
      (case mp => k_is)
      (case mq => k_is)
      (case mr => k_is)
      (case ms => k_is)
      (case mt => k_is)
      (case mu => k_is)
      (case mv => k_is)
      (case mw => k_is)
      (case mx => k_is)
      (case my => k_is)
      (case mz => k_is)
      (case mA => k_is)
      (case mB => k_is)
      (case mC => k_is)
      (case mD => k_is)
      (case mE => k_is)
      (case mF => k_is)
      (case mG => k_is)
      (case mH => k_is)
      (case mI => k_is)
      (case mJ => k_is)
      (case mK => k_is)
      (case mL => k_is)
      (case mM => k_is)
      (case mN => k_is)
      (case mO => k_is)
      (case mP => k_is)
      (case mQ => k_is)
      (case mR => k_is)
      (case mS => k_is)
      (case mT => k_is)
      (case mU => k_is)
      (case mV => k_is)
      (case mW => k_is)
      (case mX => k_is)
      (case mY => k_is)
      (case mZ => k_is)
      (case m0 => k_is)
      (case m1 => k_is)
      (case m2 => k_is)
      (case m3 => k_is)
      (case m4 => k_is)
      (case m5 => k_is)
      (case m6 => k_is)
      (case m7 => k_is)
      (case m8 => k_is)
      (case m9 => k_is)
      (case na => k_is)
      (case nc => k_is)
      (case nd => k_is)
      (case nf => k_is)
      (case ng => k_is)
      (case nh => k_is)
      (case ni => k_is)
      (case nj => k_is)
      (case nk => k_is)
      (case nl => k_is)
      (case nm => k_is)
      (case nn => k_is)
      (case no => k_is)
      (case np => k_is)
      (case nq => k_is)
      (case nr => k_is)
      (case nt => k_is)
      (case nu => k_is)
      (case nv => k_is)
      (case nw => k_is)
      (case nx => k_is)
      (case ny => k_is)
      (case nz => k_is)
      (case nA => k_is)
      (case nB => k_is)
      (case nC => k_is)
      (case nD => k_is)
      (case nE => k_is)
      (case nF => k_is)
      (case nG => k_is)
      (case nH => k_is)
      (case nI => k_is)
      (case nJ => k_is)
      (case nK => k_is)
      (case nL => k_is)
      (case nM => k_is)
      (case nN => k_is)
      (case nO => k_is)
      (case nP => k_is)
      (case nQ => k_is)
      (case nR => k_is)
      (case nS => k_is)
      (case nT => k_is)
      (case nU => k_is)
      (case nV => k_is)
      (case nW => k_is)
      (case nX => k_is)
      (case nY => k_is)
      (case nZ => k_is)
      (case n0 => k_is)
      (case n1 => k_is)
      (case n2 => k_is)
      (case n3 => k_is)
      (case n4 => k_is)
      (case n5 => k_is)
      (case n6 => k_is)
      (case n7 => k_is)
      (case n8 => k_is)
      (case n9 => k_is)
      (case oa => k_is)
      (case ob => k_is)
      (case oe => k_is)
      (case og => k_is)
      (case oh => k_is)
      (case oi => k_is)
      (case oj => k_is)
      (case ok => k_is)
      (case ol => k_is)
      (case om => k_is)
      (case on => k_is)
      (case oo => k_is)
      (case op => k_is)
      (case oq => k_is)
      (case os => k_is)
      (case ot => k_is)
      (case ou => k_is)
      (case ov => k_is)
      (case ow => k_is)
      (case ox => k_is)
      (case oy => k_is)
      (case oz => k_is)
      (case oA => k_is)
      (case oB => k_is)
      (case oC => k_is)
      (case oD => k_is)
      (case oE => k_is)
      (case oF => k_is)
      (case oG => k_is)
      (case oH => k_is)
      (case oI => k_is)
      (case oJ => k_is)
      (case oK => k_is)
      (case oL => k_is)
      (case oM => k_is)
      (case oN => k_is)
      (case oO => k_is)
      (case oP => k_is)
      (case oQ => k_is)
      (case oR => k_is)
      (case oS => k_is)
      (case oT => k_is)
      (case oU => k_is)
      (case oV => k_is)
      (case oW => k_is)
      (case oX => k_is)
      (case oY => k_is)
      (case oZ => k_is)
      (case o0 => k_is)
      (case o1 => k_is)
      (case o2 => k_is)
      (case o3 => k_is)
      (case o4 => k_is)
      (case o5 => k_is)
      (case o6 => k_is)
      (case o7 => k_is)
      (case o8 => k_is)
      (case o9 => k_is)
      (case pa => k_is)
      (case pb => k_is)
      (case pc => k_is)
      (case pd => k_is)
      (case pe => k_is)
      (case pf => k_is)
      (case pg => k_is)
      (case ph => k_is)
      (case pi => k_is)
      (case pj => k_is)
      (case pk => k_is)
      (case pl => k_is)
      (case pn => k_is)
      (case po => k_is)
      (case pp => k_is)
      (case pq => k_is)
      (case pr => k_is)
      (case pt => k_is)
      (case pu => k_is)
      (case pv => k_is)
      (case pw => k_is)
      (case px => k_is)
      (case py => k_is)
      (case pz => k_is)
      (case pA => k_is)
      (case pB => k_is)
      (case pC => k_is)
      (case pD => k_is)
      (case pE => k_is)
      (case pF => k_is)
      (case pG => k_is)
      (case pH => k_is)
      (case pI => k_is)
      (case pJ => k_is)
      (case pK => k_is)
      (case pL => k_is)
      (case pM => k_is)
      (case pN => k_is)
      (case pO => k_is)
      (case pP => k_is)
      (case pQ => k_is)
      (case pR => k_is)
      (case pS => k_is)
      (case pT => k_is)
      (case pU => k_is)
      (case pV => k_is)
      (case pW => k_is)
      (case pX => k_is)
      (case pY => k_is)
      (case pZ => k_is)
      (case p0 => k_is)
      (case p1 => k_is)
      (case p2 => k_is)
      (case p3 => k_is)
      (case p4 => k_is)
      (case p5 => k_is)
      (case p6 => k_is)
      (case p7 => k_is)
      (case p8 => k_is)
      (case p9 => k_is)
      (case qa => k_is)
      (case qb => k_is)
      (case qc => k_is)
      (case qd => k_is)
      (case qe => k_is)
      (case qf => k_is)
      (case qg => k_is)
      (case qh => k_is)
      (case qi => k_is)
      (case qj => k_is)
      (case qk => k_is)
      (case ql => k_is)
      (case qm => k_is)
      (case qn => k_is)
      (case qo => k_is)
      (case qp => k_is)
      (case qq => k_is)
      (case qr => k_is)
      (case qs => k_is)
      (case qt => k_is)
      (case qu => k_is)
      (case qv => k_is)
      (case qw => k_is)
      (case qx => kit_is)
      (case qy => k_is)
      (case qz => k_is)
      (case qA => k_is)
      (case qB => k_is)
      (case qC => kit_is)
      (case qD => k_is)
      (case qE => k_is)
      (case qF => k_is)
      (case qG => k_is)
      (case qH => kit_is)
      (case qI => k_is)
      (case qJ => k_is)
      (case qK => k_is)
      (case qL => k_is)
      (case qM => kit_is)
      (case qN => k_is)
      (case qO => k_is)
      (case qP => k_is)
      (case qQ => k_is)
      (case qR => kit_is)
      (case qS => k_is)
      (case qT => k_is)
      (case qU => k_is)
      (case qV => k_is)
      (case qW => kit_is)
      (case qX => k_is)
      (case qY => k_is)
      (case qZ => k_is)
      (case q0 => k_is)
      (case q1 => kit_is)
      (case q2 => kit_is)
      (case q3 => kit_is)
      (case q4 => kit_is)
      (case q5 => kit_is)
      (case q6 => kit_is)
      (case q7 => kit_is)
      (case q8 => k_exc)
      (case q9 => k_is)
      (case ra => k_is)
      (case rb => k_is)
      (case rc => k_is)
      (case rd => k_is)
      (case re => k_is)
      (case rf => k_is)
      (case rg => k_is)
      (case rh => kit_is)
      (case ri => kit_is)
      (case rj => kit_is)
      (case rk => kit_is)
      (case rl => kit_is)
      (case rm => kit_is)
      (case rn => kit_is)
      (case ro => kit_is)
      (case rp => kit_is)
      (case rq => kit_is)
      (case rr => kit_is)
      (case rs => kit_is)
      (case rt => kit_is)
      (case ru => kts_exm)
      (case rv => k_exc)
      (case rx => k_is)
      (case ry => k_is)
      (case rz => k_is)
      (case rA => k_is)
      (case rB => k_is)
      (case rC => k_is)
      (case rD => k_is)
      (case rE => k_is)
      (case rF => kit_is)
      (case rG => kit_is)
      (case rH => kit_is)
      (case rI => kit_is)
      (case rJ => kit_is)
      (case rK => kit_is)
      (case rL => kit_is)
      (case rM => kit_is)
      (case rN => kit_is)
      (case rO => kit_is)
      (case rP => kit_is)
      (case rQ => kit_is)
      (case rR => kit_is)
      (case rS => kts_exm)
      (case rT => k_is)
      (case rU => k_is)
      (case rV => k_is)
      (case rW => k_is)
      (case rX => k_is)
      (case rY => k_is)
      (case rZ => k_is)
      (case r0 => k_is)
      (case r1 => k_is)
      (case r2 => k_is)
      (case r3 => k_is)
      (case r4 => k_is)
      (case r5 => k_is)
      (case r6 => k_is)
      (case r7 => k_is)
      (case r8 => k_is)
      (case r9 => k_is)
      (case sa => k_is)
      (case sb => k_is)
      (case sc => k_is)
      (case sd => k_is)
      (case se => k_is)
    obtain ⟨t, T⟩ := T
    have e0 := hmg.symm.trans T.m_law
    cases e0
    refine' ⟨t.d_law, ?b, fun base kb nb => K03.ok_law T⟩
    obtain ⟨oc, od, kV, doc, pm, an, cdv, ct, osl, e, _, _⟩ := T.F_law.ex
    rw [e]
    exact fun s u => .of_eq rfl
