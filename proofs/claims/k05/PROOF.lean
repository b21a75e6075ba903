
import PyProof.Rows.All
import Wide.All
import OpenK.AllK
import Wide.FinOn
import Lean
import PyProof.EqAt
import PyProof.EqKinds
import PyProof.TupleCall
import KE.KIntText
import PyProof.CompFree
import PyProof.P3Eq
import PyProof.NeData
import PyProof.StrLawsTight
import PyProof.StrLawsReplace
import PyProof.StrCalls2
import KE.IntTextLaws
import KE.KMinBuiltin
import PyProof.WalkInts
import PyProof.Rows.CallKwBuiltin
import PyProof.Rows.CallKw2
import PyProof.SetScanFacts
import PyProof.SetKind
import PyProof.DictStraight
import PyProof.Rows.SetFrom
import PyProof.DictIter
import PyProof.Walks
import PyProof.FactsAll.set_1
import PyProof.Rows.TupIn
import PyProof.CollectWalk
import PyProof.FactsAll.set_2
import PyProof.Rows.SortWalk
import PySem.Challenge.RW_roadbook_k05_next_days
set_option Elab.async false
set_option linter.all false
set_option maxRecDepth 100000
/-! THE HAND LAYER, for ints, bools, texts, own classes, LISTS and tuples (index, slices, in, append, pop ..), calls, loops. Paste it whole ahead of your own text; what your proof does not reach may be deleted. -/
namespace L2
open PySem PySem.Spec PyProof.Rows

/- a key: an int or a str -/
abbrev Key := Sum Int Str
def keyIs : Key → Value → Bool
  | .inl k, v => Value.isInt k v
  | .inr x, v => Value.isStrOf x v
def keyH (w : World) : Key → Int
  | .inl k => hashInt k
  | .inr x => hashStr w x
theorem keyIs_shape : ∀ {k : Key} {v : Value}, keyIs k v = true → (∃ i t, k = Sum.inl i ∧ v = Value.int i t) ∨ (∃ x t, k = Sum.inr x ∧ v = Value.str x t)
  | .inl i, v, h => by
    obtain ⟨t, e⟩ := Value.isInt_shape (k := i) (v := v) h
    exact .inl ⟨i, t, rfl, e⟩
  | .inr x, v, h => by
    obtain ⟨t, e⟩ := Value.isStrOf_shape (x := x) (v := v) h
    exact .inr ⟨x, t, rfl, e⟩
theorem key_ll (a b : Int) : decide ((Sum.inl a : Key) = Sum.inl b) = (a == b) := by
  by_cases e : a = b
  · subst e; simp
  · have h : ¬ (Sum.inl a : Key) = Sum.inl b := fun q => e (Sum.inl.inj q)
    rw [decide_eq_false h]
    exact (beq_eq_false_iff_ne.mpr e).symm
theorem key_rr (a b : Str) : decide ((Sum.inr a : Key) = Sum.inr b) = decide (a = b) := by
  by_cases e : a = b
  · subst e; simp
  · have h : ¬ (Sum.inr a : Key) = Sum.inr b := fun q => e (Sum.inr.inj q)
    rw [decide_eq_false h, decide_eq_false e]
theorem key_lr (a : Int) (b : Str) : decide ((Sum.inl a : Key) = Sum.inr b) = false := decide_eq_false (fun q => nomatch q)
theorem key_rl (a : Str) (b : Int) : decide ((Sum.inr a : Key) = Sum.inl b) = false := decide_eq_false (fun q => nomatch q)

def mixKind (prog : Program) (w : World) : PySem.KeyKind prog w Key where
  is := keyIs
  hash := keyH w
  inj := fun v a b ha hb => by
    rcases keyIs_shape ha with ⟨i, t, rfl, rfl⟩ | ⟨x, t, rfl, rfl⟩
    · rcases keyIs_shape hb with ⟨j, u, rfl, e⟩ | ⟨y, u, rfl, e⟩
      · injection e with e1 _; rw [e1]
      · exact nomatch e
    · rcases keyIs_shape hb with ⟨j, u, rfl, e⟩ | ⟨y, u, rfl, e⟩
      · exact nomatch e
      · injection e with e1 _; rw [e1]
  byValue := fun k v h => by
    rcases keyIs_shape h with ⟨i, t, rfl, rfl⟩ | ⟨x, t, rfl, rfl⟩ <;> rfl
  pyHash := fun hv h => by
    rcases keyIs_shape hv with ⟨i, t, rfl, rfl⟩ | ⟨x, t, rfl, rfl⟩
    · exact wpAny_pyHash_int h
    · exact wpAny_pyHash_str h
  eqBool := fun hu hv h => by
    rcases keyIs_shape hu with ⟨i, t, rfl, rfl⟩ | ⟨x, t, rfl, rfl⟩
    · rcases keyIs_shape hv with ⟨j, u, rfl, rfl⟩ | ⟨y, u, rfl, rfl⟩
      · rw [key_ll] at h; exact wpAny_eqBool_int h
      · rw [key_lr] at h; exact SeqAt.EqAt.int_str i t y u _ _ _ _ h
    · rcases keyIs_shape hv with ⟨j, u, rfl, rfl⟩ | ⟨y, u, rfl, rfl⟩
      · rw [key_rl] at h; exact SeqAt.EqAt.str_int x t j u _ _ _ _ h
      · rw [key_rr] at h; exact wpAny_eqBool_str h
  «strs» := fun k x t v h => by
    rcases keyIs_shape h with ⟨i, u, rfl, e⟩ | ⟨y, u, rfl, e⟩
    · exact nomatch e
    · injection e with e1 _
      subst e1
      cases v <;> rfl

end L2

namespace L2
open PySem PySem.Spec PyProof.Rows

/- a value, without the heap -/
inductive V where
  | non | bl (b : Bool) | int (i : Int) | str (x : Str) | byt (b : Array UInt8) | flt (b : UInt64) | ref (a : Addr) | ty (n : String)
  deriving DecidableEq

def RelV : V → Value → Prop
  | .non, u => u = Value.none
  | .bl b, u => u = Value.bool b
  | .int i, u => ∃ t, u = Value.int i t
  | .str x, u => ∃ t, u = Value.str x t
  | .byt b, u => ∃ t, u = Value.bytes b t
  | .flt b, u => ∃ t, u = Value.float b t
  | .ref a, u => u = Value.ref a
  | .ty n, u => u = Value.type n

abbrev Vals : List V → List Value → Prop := Paired RelV
theorem Vals.length {xs : List V} {us : List Value} (r : Vals xs us) : xs.length = us.length := Paired.length r
theorem Vals.get : ∀ {xs : List V} {us : List Value} {i : Nat} {x : V}, Vals xs us → xs[i]? = some x → ∃ u, us[i]? = some u ∧ RelV x u
  | _, _, _, _, .nil, e => by simp at e
  | _, _, 0, _, .cons r _, e => by simp at e; subst e; exact ⟨_, rfl, r⟩
  | _, _, i + 1, x, .cons _ t, e => by
    obtain ⟨u, h1, h2⟩ := Vals.get (i := i) (x := x) t (by simpa using e)
    exact ⟨u, by simpa using h1, h2⟩
theorem Vals.set {x : V} {u : Value} (r : RelV x u) : ∀ {xs : List V} {us : List Value} (i : Nat), Vals xs us → Vals (xs.set i x) (us.set i u)
  | _, _, _, .nil => .nil
  | _, _, 0, .cons _ t => .cons r t
  | _, _, i + 1, .cons q t => .cons q (Vals.set r i t)
theorem Vals.append : ∀ {xs ys : List V} {us ws : List Value}, Vals xs us → Vals ys ws → Vals (xs ++ ys) (us ++ ws)
  | _, _, _, _, .nil, s => s
  | _, _, _, _, .cons r t, s => .cons r (Vals.append t s)
theorem Vals.take : ∀ {xs : List V} {us : List Value} (n : Nat), Vals xs us → Vals (xs.take n) (us.take n)
  | _, _, 0, _ => .nil
  | _, _, _ + 1, .nil => .nil
  | _, _, n + 1, .cons r t => .cons r (Vals.take n t)
theorem Vals.drop : ∀ {xs : List V} {us : List Value} (n : Nat), Vals xs us → Vals (xs.drop n) (us.drop n)
  | _, _, 0, r => r
  | _, _, _ + 1, .nil => .nil
  | _, _, n + 1, .cons _ t => Vals.drop n t
theorem Vals.none_of : ∀ {xs : List V} {us : List Value} {i : Nat}, Vals xs us → xs[i]? = none → us[i]? = none := fun {xs us i} r e => by
  have h1 := r.length
  have h2 : xs.length ≤ i := List.getElem?_eq_none_iff.mp e
  exact List.getElem?_eq_none_iff.mpr (by omega)

def RelO : Option V → Option Value → Prop
  | some v, some u => RelV v u
  | none, none => True
  | _, _ => False
def KV {κ : Type} : List (κ × V) → List (κ × Value) → Prop := Paired fun (p : κ × V) (q : κ × Value) => p.1 = q.1 ∧ RelV p.2 q.2

/- a key of a dict (00_mix): an int or a text -/
def kV : Key → V
  | .inl i => .int i
  | .inr x => .str x

/- what stands at a tracked address -/
inductive HO where
  /-- a list -/
  | lst (xs : List V)
  /-- a tuple (never changes) -/
  | tup (xs : List V)
  /-- a dict whose keys are ints and texts; one whose keys are tuples of ints and texts (the empty one is both) -/
  | dK (kvs : List (Key × V)) | dT (kvs : List (List Key × V))
  /-- a set of ints: its members, its size -/
  | set (S : Int → Bool) (n : Nat)
  /-- an instance of the class at C, its dict at dx, its attributes -/
  | ins (C dx : Addr) (fs : List (Str × V))
  /-- the dict of the instance at x -/
  | own (x : Addr)
  /-- the dict of an exception -/
  | xd (fs : List (Str × V))
  /-- a bound method, f of x -/
  | met (f x : Addr)
  /-- a range object lo, lo + 1, .. below hi -/
  | rng (lo hi : Int)
  /-- a thing that is known to the object (the script; a dict while a loop walks it): read, never written while it is so -/
  | frz (o : Obj) (u : HO)
  /-- a code object's table -/
  | tbl (ps : Array Value)
  /-- any other thing, by what is true of its one object (a def of one's own: SetO a S n := HO.ext fun h => ..) -/
  | ext (φ : Heap → Prop)

abbrev Hp := Addr → Option HO
def upd (H : Hp) (a : Addr) (o : HO) : Hp := fun b => if b = a then some o else H b
theorem upd_same {H : Hp} {a : Addr} {o : HO} : upd H a o a = some o := by unfold upd; rw [if_pos rfl]
theorem upd_ne {H : Hp} {a b : Addr} {o : HO} (h : b ≠ a) : upd H a o b = H b := by unfold upd; rw [if_neg h]
/- two objects of different content stand apart -/
theorem ne_of_none {H : Hp} {a b : Addr} {o : HO} (h : H a = some o) (h' : H b = none) : a ≠ b := by
  intro e; subst e; rw [h] at h'; cases h'

section
variable (P : Program) (w : World)
def ObjOk (H : Hp) (h : Heap) (a : Addr) : HO → Prop
  | .lst xs => xs.length ≤ sizeLine ∧ ∃ (its : List Value) (n : Nat), Vals xs its ∧ h.get? a = some { cls := .type "list", data := .seq its.toArray n }
  | .tup xs => xs.length ≤ sizeLine ∧ ∃ its : List Value, Vals xs its ∧ IsTup h a its.toArray
  | .dK kvs => kvs.length ≤ sizeLine ∧ (a == sysModules) = false ∧ ∃ vs, KV kvs vs ∧ h.DictOf (mixKind P w) a vs
  | .dT kvs => kvs.length ≤ sizeLine ∧ (a == sysModules) = false ∧ ∃ xs : List (List Key × Addr × Value),
      Paired (fun (p : List Key × V) (q : List Key × Addr × Value) => p.1 = q.1 ∧ H q.2.1 = some (.tup (p.1.map kV)) ∧ RelV p.2 q.2.2) kvs xs ∧
      ∃ o es ep, h.get? a = some o ∧ o.ExactDict ∧ o.data = .dict es ep ∧ es.toList = xs.map (entryOfKey (tupleKind (mixKind P w))) ∧ (xs.map (·.1)).Nodup
  | .set S n => h.SetOf (intKind P w) a S n
  | .ins C dx fs => H dx = some (.own a) ∧ fs.length ≤ 1000 ∧ dx ≠ a ∧ h.get? a = some (PySem.W.instObj C dx) ∧
      ∃ mA, h.Ns1 dx mA ∧ (∀ f, RelO (fs.lookup f) (mA f)) ∧ PySem.Within mA (fs.map (·.1))
  | .own _ => ∃ o, h.get? a = some o
  | .xd fs => ∃ mA, h.Ns1 a mA ∧ ∀ f, RelO (fs.lookup f) (mA f)
  | .rng lo hi => ∃ t u v, h.get? a = some { cls := .type "range", data := .fields #[.int lo t, .int hi u, .int 1 v] }
  | .frz o u => h.get? a = some o ∧ ObjOk H h a u
  | .tbl ps => h.get? a = some { cls := .none, data := .fields ps }
  | .met f x => h.get? a = some (PySem.W.methodObj (.ref f) (.ref x))
  | .ext φ => φ h ∧ (∃ o, h.get? a = some o) ∧ ∀ h1 h2 : Heap, φ h1 → (∀ o, h1.get? a = some o → h2.get? a = some o) → φ h2
/- the abstract heap is held -/
def HOk (H : Hp) (h : Heap) : Prop := ∀ a o, H a = some o → ObjOk P w H h a o
end

section
variable {P : Program} {w : World} {H H' : Hp} {h h' : Heap} {a : Addr} {o : HO}
theorem ObjOk.lt (x : ObjOk P w H h a o) : a < h.objs.size := by
  cases o with
  | lst xs => obtain ⟨_, _, _, _, e⟩ := x; exact Heap.lt_size e
  | tup xs => obtain ⟨_, _, _, p⟩ := x; exact p.lt
  | dK kvs => obtain ⟨_, _, _, _, o, _, _, e, _⟩ := x; exact Heap.lt_size e
  | dT kvs => obtain ⟨_, _, _, _, o, _, _, e, _⟩ := x; exact Heap.lt_size e
  | set S n => obtain ⟨o, _, _, _, e, _⟩ := x; exact Heap.lt_size e
  | ins C dx fs => obtain ⟨_, _, _, e, _⟩ := x; exact Heap.lt_size e
  | own y => obtain ⟨_, e⟩ := x; exact Heap.lt_size e
  | xd fs => obtain ⟨_, ⟨_, _, _, e, _⟩, _⟩ := x; exact Heap.lt_size e
  | rng lo hi => obtain ⟨_, _, _, e⟩ := x; exact Heap.lt_size e
  | frz ob u => obtain ⟨e, _⟩ := x; exact Heap.lt_size e
  | tbl ps => exact Heap.lt_size (show h.get? a = some _ from x)
  | met f y => exact Heap.lt_size (show h.get? a = some _ from x)
  | ext φ => obtain ⟨_, ⟨_, e⟩, _⟩ := x; exact Heap.lt_size e
theorem Paired.mapP {α β : Type} {F G : α → β → Prop} : ∀ {l₁ : List α} {l₂ : List β}, Paired F l₁ l₂ → (∀ a b, F a b → G a b) → Paired G l₁ l₂
  | _, _, .nil, _ => .nil
  | _, _, .cons r t, f => .cons (f _ _ r) (Paired.mapP t f)
/- what an object's description leans on: its own object, its own dict, the tuples -/
theorem ObjOk.stay (x : ObjOk P w H h a o) (k : ∀ b u, (b = a ∨ H b = some (.own a)) → h.get? b = some u → h'.get? b = some u)
    (ho : ∀ b, H b = some (.own a) → H' b = some (.own a)) (ht : ∀ b xs, H b = some (.tup xs) → H' b = some (.tup xs)) : ObjOk P w H' h' a o := by
  induction o with
  | lst xs => obtain ⟨z, its, n, r, e⟩ := x; exact ⟨z, its, n, r, k _ _ (.inl rfl) e⟩
  | tup xs => obtain ⟨z, its, r, ob, e, c⟩ := x; exact ⟨z, its, r, ob, k _ _ (.inl rfl) e, c⟩
  | dK kvs => obtain ⟨z, y, vs, r, ob, es, ep, e, c⟩ := x; exact ⟨z, y, vs, r, ob, es, ep, k _ _ (.inl rfl) e, c⟩
  | dT kvs =>
    obtain ⟨z, y, xs, r, ob, es, ep, e, c⟩ := x
    exact ⟨z, y, xs, Paired.mapP r fun p q z => ⟨z.1, ht _ _ z.2.1, z.2.2⟩, ob, es, ep, k _ _ (.inl rfl) e, c⟩
  | set S n => obtain ⟨ob, es, ep, t, e, c⟩ := x; exact ⟨ob, es, ep, t, k _ _ (.inl rfl) e, c⟩
  | ins C dx fs =>
    obtain ⟨d, z, ne, e, mA, ⟨od, es, ep, e2, c⟩, r⟩ := x
    exact ⟨ho _ d, z, ne, k _ _ (.inl rfl) e, mA, ⟨od, es, ep, k _ _ (.inr d) e2, c⟩, r⟩
  | own y => obtain ⟨ob, e⟩ := x; exact ⟨ob, k _ _ (.inl rfl) e⟩
  | xd fs => obtain ⟨mA, ⟨od, es, ep, e, c⟩, r⟩ := x; exact ⟨mA, ⟨od, es, ep, k _ _ (.inl rfl) e, c⟩, r⟩
  | rng lo hi => obtain ⟨t, u, v, e⟩ := x; exact ⟨t, u, v, k _ _ (.inl rfl) e⟩
  | frz ob u ih => obtain ⟨e, q⟩ := x; exact ⟨k _ _ (.inl rfl) e, ih q⟩
  | tbl ps =>
    have e : h.get? a = some { cls := .none, data := .fields ps } := x
    show h'.get? a = some { cls := .none, data := .fields ps }
    exact k a _ (.inl rfl) e
  | met f y =>
    have e : h.get? a = some (PySem.W.methodObj (.ref f) (.ref y)) := x
    show h'.get? a = some (PySem.W.methodObj (.ref f) (.ref y))
    exact k a _ (.inl rfl) e
  | ext φ => obtain ⟨p, ⟨o, e⟩, st⟩ := x; exact ⟨st _ _ p fun o q => k _ _ (.inl rfl) q, ⟨o, k _ _ (.inl rfl) e⟩, st⟩
theorem HOk.lt (x : HOk P w H h) (e : H a = some o) : a < h.objs.size := (x a o e).lt
theorem HOk.fresh (x : HOk P w H h) (e : h.objs.size ≤ a) : H a = none := by
  cases q : H a with
  | none => rfl
  | some u => exact absurd (Nat.lt_of_lt_of_le (x.lt q) e) (Nat.lt_irrefl _)
/- every object of the heap is kept -/
theorem HOk.kept (x : HOk P w H h) (k : ∀ b u, h.get? b = some u → h'.get? b = some u) : HOk P w H h' := fun a o e =>
  (x a o e).stay (fun b u _ q => k b u q) (fun _ q => q) fun _ _ q => q
/- a new object is laid and tracked -/
theorem HOk.laid (x : HOk P w H h) (k : ∀ b u, h.get? b = some u → h'.get? b = some u) (hp : h.objs.size ≤ a) (new : ObjOk P w (upd H a o) h' a o) : HOk P w (upd H a o) h' := fun b u e => by
  have hn := x.fresh hp
  by_cases hb : b = a
  · subst hb; rw [upd_same] at e; cases e; exact new
  · rw [upd_ne hb] at e
    exact (x b u e).stay (fun c v _ q => k c v q) (fun c q => by rw [upd_ne (ne_of_none q hn)]; exact q) fun c xs q => by rw [upd_ne (ne_of_none q hn)]; exact q
end

/- what may be read as u: it is u, or a known u -/
def Rd (H : Hp) (a : Addr) (u : HO) : Prop := H a = some u ∨ ∃ o, H a = some (.frz o u)
theorem Rd.of {H : Hp} {a : Addr} {u : HO} (h : H a = some u) : Rd H a u := .inl h
theorem Rd.ok {P : Program} {w : World} {H : Hp} {h : Heap} {a : Addr} {u : HO} (r : Rd H a u) (x : HOk P w H h) : ObjOk P w H h a u := by
  rcases r with r | ⟨o, r⟩
  · exact x a u r
  · obtain ⟨_, q⟩ := x a _ r
    exact q
/- what may be written -/
def Mut : Option HO → Prop
  | some (.lst _) => True
  | some (.dK _) => True
  | some (.dT _) => True
  | some (.set _ _) => True
  | some (.ins _ _ _) => True
  | some (.ext _) => True
  | _ => False
section
variable {P : Program} {w : World} {H : Hp} {h h' : Heap} {x e : Addr} {o' : HO}
/- the object at e is changed: x itself, or the dict of the instance x -/
theorem HOk.write (ok : HOk P w H h) (mu : Mut (H x)) (he : e = x ∨ H e = some (.own x)) (k : ∀ b u, b ≠ e → h.get? b = some u → h'.get? b = some u) (heo : ∃ u, h'.get? e = some u)
    (new : ObjOk P w (upd H x o') h' x o') : HOk P w (upd H x o') h' := fun b u q => by
  have nown : ∀ c y, H c = some (.own y) → c ≠ x := fun c y r z => by subst z; rw [r] at mu; exact mu
  have ntup : ∀ c xs, H c = some (.tup xs) → c ≠ x := fun c xs r z => by subst z; rw [r] at mu; exact mu
  by_cases hb : b = x
  · subst hb; rw [upd_same] at q; cases q; exact new
  · rw [upd_ne hb] at q
    by_cases hbe : b = e
    · have q' : H b = some (.own x) := by
        rcases he with z | z
        · exact absurd (hbe.trans z) hb
        · rw [hbe]; exact z
      rw [q] at q'; cases q'
      obtain ⟨v, hv⟩ := heo
      exact ⟨v, by rw [hbe]; exact hv⟩
    · refine (ok b u q).stay (fun c v hc r => k c v ?_ r) (fun c r => by rw [upd_ne (nown c b r)]; exact r) fun c xs r => by rw [upd_ne (ntup c xs r)]; exact r
      rcases hc with rfl | hc
      · exact hbe
      · rintro rfl
        rcases he with z | z
        · exact nown c b hc z
        · rw [hc] at z; cases z; exact hb rfl
end

/-! ### kept unless tracked; of the frames at fs (the callers') the slots may change (an exception that passes writes there); of the records at ex (iterators) nothing is said -/
structure Un (fs ex : List Addr) (H H' : Hp) (h h' : Heap) : Prop where
  keep : ∀ b o, h.get? b = some o → H b = none → b ∉ fs → b ∉ ex → h'.get? b = some o
  slot : ∀ b o, h.get? b = some o → H b = none → b ∈ fs → b ∉ ex → ∃ sl, h'.get? b = some { o with slots := sl }
  free : ∀ b o, h.get? b = some o → H b = none → b ∉ ex → H' b = none
  there : ∀ b o, h.get? b = some o → b ∉ ex → ∃ o', h'.get? b = some o'
  tups : ∀ b xs, H b = some (.tup xs) → H' b = some (.tup xs)
  frzs : ∀ b o u, H b = some (.frz o u) → H' b = some (.frz o u)
  tbls : ∀ b ps, H b = some (.tbl ps) → ∃ more, H' b = some (.tbl (ps ++ more))
section
variable {fs fs' ex ex' : List Addr} {H H1 H2 : Hp} {h h1 h2 h' : Heap} {a x e : Addr} {o : HO}
theorem Un.any (u : Un fs ex H H1 h h1) {b : Addr} {ob : Obj} (q : h.get? b = some ob) (n : H b = none) (hx : b ∉ ex) : ∃ sl, h1.get? b = some { ob with slots := sl } := by
  by_cases hb : b ∈ fs
  · exact u.slot b ob q n hb hx
  · exact ⟨ob.slots, u.keep b ob q n hb hx⟩
theorem Un.trans (a : Un fs ex H H1 h h1) (b : Un fs ex H1 H2 h1 h2) : Un fs ex H H2 h h2 where
  keep := fun c ob q n hc hx => b.keep c ob (a.keep c ob q n hc hx) (a.free c ob q n hx) hc hx
  slot := fun c ob q n hc hx => by
    obtain ⟨sl, e1⟩ := a.slot c ob q n hc hx
    obtain ⟨sl', e2⟩ := b.slot c _ e1 (a.free c ob q n hx) hc hx
    exact ⟨sl', e2⟩
  free := fun c ob q n hx => by
    obtain ⟨o', e1⟩ := a.there c ob q hx
    exact b.free c o' e1 (a.free c ob q n hx) hx
  there := fun c ob q hx => by
    obtain ⟨o', e1⟩ := a.there c ob q hx
    exact b.there c o' e1 hx
  tups := fun c xs q => b.tups c xs (a.tups c xs q)
  frzs := fun c ob xs q => b.frzs c ob xs (a.frzs c ob xs q)
  tbls := fun c ps q => by
    obtain ⟨m1, e1⟩ := a.tbls c ps q
    obtain ⟨m2, e2⟩ := b.tbls c _ e1
    exact ⟨m1 ++ m2, by rw [e2, Array.append_assoc]⟩
theorem Un.kept (k : ∀ b u, h.get? b = some u → h'.get? b = some u) : Un fs ex H H h h' :=
  ⟨fun b ob q _ _ _ => k b ob q, fun b ob q _ _ _ => ⟨ob.slots, k b ob q⟩, fun _ _ _ n _ => n, fun b ob q _ => ⟨ob, k b ob q⟩, fun _ _ q => q, fun _ _ _ q => q, fun _ ps q => ⟨#[], by rw [q]; simp⟩⟩
theorem Un.refl : Un fs ex H H h h := Un.kept fun _ _ q => q
theorem Un.laid (k : ∀ b u, h.get? b = some u → h'.get? b = some u) (hp : h.objs.size ≤ a) (hn : H a = none) : Un fs ex H (upd H a o) h h' where
  keep := fun b u q _ _ _ => k b u q
  slot := fun b u q _ _ _ => ⟨u.slots, k b u q⟩
  free := fun b u q n _ => by rw [upd_ne (Nat.ne_of_lt (Nat.lt_of_lt_of_le (Heap.lt_size q) hp))]; exact n
  there := fun b u q _ => ⟨u, k b u q⟩
  tups := fun b xs q => by rw [upd_ne (ne_of_none q hn)]; exact q
  frzs := fun b u xs q => by rw [upd_ne (ne_of_none q hn)]; exact q
  tbls := fun b ps q => ⟨#[], by rw [upd_ne (ne_of_none q hn), q]; simp⟩
theorem Un.write (mu : Mut (H x)) (he : e = x ∨ H e = some (.own x)) (k : ∀ b u, b ≠ e → h.get? b = some u → h'.get? b = some u) (heo : ∃ u, h'.get? e = some u) : Un fs ex H (upd H x o) h h' := by
  have hx : ∀ b, H b = none → b ≠ x := fun b n z => by subst z; rw [n] at mu; exact mu
  have hb : ∀ b, H b = none → b ≠ e := fun b n z => by
    subst z
    rcases he with r | r
    · exact hx b n r
    · rw [n] at r; cases r
  have hm : ∀ b u, H b = some u → ¬ Mut (some u) → b ≠ x := fun b u q nm z => by subst z; rw [q] at mu; exact nm mu
  refine ⟨fun b u q n _ _ => k b u (hb b n) q, fun b u q n _ _ => ⟨u.slots, k b u (hb b n) q⟩, fun b u q n _ => by rw [upd_ne (hx b n)]; exact n, fun b u q _ => ?_,
    fun b xs q => by rw [upd_ne (hm b _ q fun z => z)]; exact q, fun b u xs q => by rw [upd_ne (hm b _ q fun z => z)]; exact q, fun b ps q => ⟨#[], by rw [upd_ne (hm b _ q fun z => z), q]; simp⟩⟩
  by_cases hbe : b = e
  · subst hbe; exact heo
  · exact ⟨u, k b u hbe q⟩
theorem Un.mono (u : Un fs ex H H1 h h1) (hs : ∀ b ∈ fs, b ∈ fs') (hx : ∀ b ∈ ex, b ∈ ex') : Un fs' ex' H H1 h h1 :=
  ⟨fun b ob q n hb he => u.keep b ob q n (fun z => hb (hs b z)) fun z => he (hx b z), fun _ _ q n _ he => u.any q n fun z => he (hx _ z), fun b ob q n he => u.free b ob q n fun z => he (hx b z), fun b ob q he => u.there b ob q fun z => he (hx b z), u.tups, u.frzs, u.tbls⟩
end

/-! ### the heap without what is tracked -/
def trk (h : Heap) (H : Hp) : List Addr := (List.range h.objs.size).filter fun a => (H a).isSome
def hidT (h : Heap) (H : Hp) : Heap := PySem.W.hideAll h (trk h H)
theorem hidT_size (h : Heap) (H : Hp) : (hidT h H).objs.size = h.objs.size := PySem.W.hideAll_size _ _
theorem hidT_get {h : Heap} {H : Hp} {b : Addr} {o : Obj} (e : h.get? b = some o) (n : H b = none) : (hidT h H).get? b = some o :=
  PySem.W.hideAll_get _ e fun hm => by
    have q : (H b).isSome = true := (List.mem_filter.mp hm).2
    rw [n] at q; simp at q
theorem of_hidT {h : Heap} {H : Hp} {b : Addr} {o : Obj} (e : (hidT h H).get? b = some o) : h.get? b = some o ∧ H b = none := by
  have e' : h.get? b = some o := PySem.W.of_hideAll (trk h H) e
  refine ⟨e', ?_⟩
  cases q : H b with
  | none => rfl
  | some x =>
    have hm : b ∈ trk h H := List.mem_filter.mpr ⟨List.mem_range.mpr (Heap.lt_size e'), by simp [q]⟩
    have z : (hidT h H).get? b = none := PySem.W.hideAll_none (trk h H) hm
    rw [z] at e; cases e

/-! ### OpenK's ledger, filled with every new object but one -/
def allNews (g h : Heap) (L : Addr) : List (Addr × Obj) := (List.range h.objs.size).filterMap fun a => if a = L ∨ (g.get? a).isSome = true then none else (h.get? a).map fun o => (a, o)
def rest (g h : Heap) (L d : Addr) : List (Addr × Obj) := (allNews g h L).filter fun p => decide (p.1 ≠ d)
/- behind a rule that changed d alone: all else but the frame is kept -/
end L2

namespace L2
open PySem PySem.Spec PyProof.Rows

/- the module's facts, over the base: the heap at the law's entry without what is tracked there -/
structure Mod (K : PySem.W.Frag) (mg : Str → Option Value) (base : Heap) : Prop where
  kin : K.In base
  glob : base.Ns mainGlobals mg
  blt : ∃ mb, base.Ns builtinsNs mb ∧ ∀ x : Str, x ≠ "__name__" → mb x = bootBuiltins x
  nolimit : base.NoLimit

/- the context: a def's body (or a comprehension's block) running. base: fixed through the whole law; s₀, H₀: the entry; outer: the frames whose slots others may change (a def's callers); stack: all frames that run;
   ex: iterators that were made ahead of the entry and are walked here (a comprehension's); fn: the names whose cells were made at the entry (a def: all; a comprehension's block: its own); calm: not within an except suite; pn: pins that every state bears; xe: what is wanted of an exception that leaves the code -/
structure Cx where
  prog : Program
  w : World
  K : PySem.W.Frag
  mg : Str → Option Value
  base : Heap
  A : Around
  N : List Str
  s₀ : Shared
  H₀ : Hp
  env : Env
  outer : List Env
  stack : List Env
  ex : List Addr
  fn : Str → Bool
  calm : Bool
  pn : List (Addr × Obj)
  xe : Value → Shared → Prop
/- the callers' frames -/
def frs (l : List Env) : List Addr := l.filterMap (·.frame)
abbrev Cx.fs (X : Cx) : List Addr := frs X.outer

def Vis (sc : Scope) (x : Str) : Prop := sc.names.lookup x = some .local ∨ sc.names.lookup x = some .cell ∨ sc.names.lookup x = some .free
def Loc (sc : Scope) (x : Str) : Prop := sc.names.lookup x = some .local ∨ sc.names.lookup x = some .cell
def Look (env : Env) (h : Heap) (m : Str → Option Value) (x : Str) (u : Value) : Prop :=
  (env.kindOf x = some .local ∧ m x = some u) ∨ ((env.kindOf x = some .cell ∨ env.kindOf x = some .free) ∧ ∃ c, env.cells.lookup x = some c ∧ h.IsCell c (some u))

structure Cx.Ok (X : Cx) : Prop where
  mod : Mod X.K X.mg X.base
  kind : X.env.scope.kind = .function
  glob : X.env.globals = mainGlobals
  blt : X.env.builtins = builtinsNs
  above : X.s₀.heap.objs.size ≤ X.env.locals
  inj : ∀ x y c, X.env.cells.lookup x = some c → X.env.cells.lookup y = some c → x = y
  has : ∀ x, (X.env.kindOf x = some .cell ∨ X.env.kindOf x = some .free) → ∃ c, X.env.cells.lookup x = some c
  cab : ∀ x c, X.fn x = true → X.env.cells.lookup x = some c → X.s₀.heap.objs.size ≤ c
  hd : X.calm = true → X.A.handled = none
  frames : X.A.frames = some X.stack
  stk : X.stack = X.outer ∨ (X.stack = X.env :: X.outer ∧ X.env.frame = some X.env.locals)
  exf : ∀ b ∈ X.ex, b ≠ X.env.locals ∧ ∀ x c, X.env.cells.lookup x = some c → c ≠ b
  bs : ∀ b o, X.base.get? b = some o → X.s₀.heap.get? b = some o ∧ X.H₀ b = none
  bsz : X.base.objs.size ≤ X.s₀.heap.objs.size
  noex : ∀ b o, X.base.get? b = some o → b ∉ X.ex
  exfs : ∀ b ∈ X.ex, b ∉ X.fs
  funs : X.s₀.heap.FunFrames X.base X.outer
  frf : ∀ b ∈ X.fs, X.H₀ b = none

structure Inv (X : Cx) (pins : List (Addr × Obj)) (σ : List (Option V)) (H : Hp) (s : Shared) : Prop where
  ok : X.Ok
  os : s.os = X.s₀.os
  bare : AllBare s.gens
  base : Un X.fs X.ex X.H₀ H X.s₀.heap s.heap
  loc : ∃ m, s.heap.Ns X.env.locals m ∧ ∀ (i : Nat) (x : Str) (v : V), X.N[i]? = some x → σ[i]? = some (some v) → Vis X.env.scope x → ∃ u, RelV v u ∧ Look X.env s.heap m x u
  cell : ∀ x c, X.env.cells.lookup x = some c → ∃ v, s.heap.IsCell c v
  free : H X.env.locals = none
  freeC : ∀ x c, X.env.cells.lookup x = some c → H c = none
  pin : ∀ p ∈ X.pn ++ pins, s.heap.get? p.1 = some p.2 ∧ H p.1 = none ∧ p.1 ≠ X.env.locals ∧ p.1 ∉ X.fs ∧ ∀ v, p.2.data ≠ .cell v
  hok : HOk X.prog X.w H s.heap
  len : σ.length = X.N.length

section
variable {X : Cx} {pins : List (Addr × Obj)} {σ : List (Option V)} {H H' : Hp} {s : Shared} {h' : Heap}

theorem Cx.Ok.nofr (ok : X.Ok) {b : Addr} {o : Obj} (e : X.base.get? b = some o) : b ∉ X.fs := fun hb => by
  have := (ok.funs.mem hb).1
  rw [e] at this; cases this
theorem Inv.bs (I : Inv X pins σ H s) : ∀ b o, X.base.get? b = some o → s.heap.get? b = some o ∧ H b = none := fun b o e =>
  ⟨I.base.keep b o (I.ok.bs b o e).1 (I.ok.bs b o e).2 (I.ok.nofr e) (I.ok.noex b o e), I.base.free b o (I.ok.bs b o e).1 (I.ok.bs b o e).2 (I.ok.noex b o e)⟩
theorem Inv.bk (I : Inv X pins σ H s) : ∀ b o, X.base.get? b = some o → s.heap.get? b = some o := fun b o e => (I.bs b o e).1
theorem Inv.mod (I : Inv X pins σ H s) : Mod X.K X.mg X.base := I.ok.mod
theorem Inv.kIn (I : Inv X pins σ H s) : X.K.In s.heap := I.ok.mod.kin.keeps I.bk
theorem Inv.nolimit (I : Inv X pins σ H s) : s.heap.NoLimit := I.ok.mod.nolimit.keeps I.bk
/- the frame over the base: for OpenK's rules (K.In X.base is I.mod.kin) -/
theorem Inv.fr (I : Inv X pins σ H s) : ∃ m, Fr X.base X.env.locals s.heap m :=
  let ⟨m, hn, _⟩ := I.loc
  ⟨m, hn, I.bk, Nat.le_trans I.ok.bsz I.ok.above⟩
theorem Inv.lt (I : Inv X pins σ H s) : X.env.locals < s.heap.objs.size := let ⟨_, hn, _⟩ := I.loc; hn.lt
theorem Inv.sz (I : Inv X pins σ H s) : X.s₀.heap.objs.size ≤ s.heap.objs.size := Nat.le_trans I.ok.above (Nat.le_of_lt I.lt)
theorem Inv.nofs (I : Inv X pins σ H s) {a : Addr} (h : s.heap.objs.size ≤ a) : a ∉ X.fs := fun hb => by
  obtain ⟨_, o, ho, _⟩ := I.ok.funs.mem hb
  exact absurd (Nat.lt_of_lt_of_le (Heap.lt_size ho) (Nat.le_trans I.sz h)) (Nat.lt_irrefl _)
theorem Inv.cne (I : Inv X pins σ H s) : ∀ x c, X.env.cells.lookup x = some c → c ≠ X.env.locals := fun x c e z => by
  obtain ⟨v, o, ho, hd⟩ := I.cell x c e
  obtain ⟨m, ⟨o', es, ep, ho', hd', _⟩, _⟩ := I.loc
  rw [z, ho'] at ho; cases ho; rw [hd'] at hd; cases hd
theorem Inv.funs (I : Inv X pins σ H s) : s.heap.FunFrames X.base X.outer := by
  have all : ∀ (l : List Env), (∀ b ∈ frs l, b ∈ X.fs) → X.s₀.heap.FunFrames X.base l → s.heap.FunFrames X.base l := by
    intro l
    induction l with
    | nil => intro _ _; trivial
    | cons env r ih =>
      intro hs hl
      obtain ⟨hk, ⟨L, o, hf, hn, ho, hd⟩, hr⟩ := hl
      have hL : L ∈ X.fs := hs L (by unfold frs; rw [List.filterMap_cons, hf]; exact List.mem_cons_self)
      obtain ⟨sl, e⟩ := I.base.slot L o ho (I.ok.frf L hL) hL fun z => I.ok.exfs L z hL
      exact ⟨hk, ⟨L, _, hf, hn, e, hd⟩, ih (fun b hb => hs b (by unfold frs; rw [List.filterMap_cons, hf]; exact List.mem_cons_of_mem _ hb)) hr⟩
  exact all X.outer (fun _ hb => hb) I.ok.funs

/- the frames that run, for a call -/
theorem Inv.stack (I : Inv X pins σ H s) : s.heap.FunFrames X.base X.stack := by
  rcases I.ok.stk with e | ⟨e, hf⟩
  · rw [e]; exact I.funs
  · rw [e]
    obtain ⟨m, hn, _⟩ := I.loc
    refine .cons (by rw [I.ok.kind]; decide) hf hn ?_ I.funs
    exact Heap.get?_none_of_le (Nat.le_trans I.ok.bsz I.ok.above)
theorem Inv.stkSub (I : Inv X pins σ H s) : ∀ b ∈ frs X.stack, b ∈ X.env.locals :: X.fs := fun b hb => by
  rcases I.ok.stk with e | ⟨e, hf⟩
  · rw [e] at hb; exact List.mem_cons_of_mem _ hb
  · rw [e] at hb
    unfold frs at hb
    rw [List.filterMap_cons, hf] at hb
    exact hb
theorem Inv.stkFree (I : Inv X pins σ H s) : ∀ b ∈ frs X.stack, H b = none := fun b hb => by
  rcases List.mem_cons.mp (I.stkSub b hb) with e | hb
  · rw [e]; exact I.free
  · obtain ⟨_, o, ho, _⟩ := I.ok.funs.mem hb
    exact I.base.free b o ho (I.ok.frf b hb) fun z => I.ok.exfs b z hb

/- THE STEP: the untracked objects but the frame and the records at ch are kept (the callers' frames up to slots), the frame's map is kept, the new abstract heap is held -/
theorem Inv.step {g' : Array GenState} {t' : Nat} {d' : Drawn} {ch : List Addr} (I : Inv X pins σ H s)
    (hch : ∀ b ∈ ch, (b ∈ X.ex ∨ X.s₀.heap.objs.size ≤ b) ∧ b ≠ X.env.locals ∧ (∀ x c, X.env.cells.lookup x = some c → c ≠ b) ∧ ∀ p ∈ X.pn ++ pins, p.1 ≠ b)
    (keep : ∀ b o, b ≠ X.env.locals → b ∉ X.fs → b ∉ ch → s.heap.get? b = some o → H b = none → h'.get? b = some o)
    (slot : ∀ b o, b ≠ X.env.locals → b ∈ X.fs → b ∉ ch → s.heap.get? b = some o → H b = none → ∃ sl, h'.get? b = some { o with slots := sl }) (free : ∀ b o, b ∉ ch → s.heap.get? b = some o → H b = none → H' b = none)
    (there : ∀ b o, b ∉ ch → s.heap.get? b = some o → ∃ o', h'.get? b = some o')
    (tups : ∀ b xs, H b = some (.tup xs) → H' b = some (.tup xs)) (frzs : ∀ b o u, H b = some (.frz o u) → H' b = some (.frz o u)) (tbls : ∀ b ps, H b = some (.tbl ps) → ∃ more, H' b = some (.tbl (ps ++ more)))
    (ns : ∀ m, s.heap.Ns X.env.locals m → h'.Ns X.env.locals m) (hok : HOk X.prog X.w H' h') (hg : AllBare g') :
    Inv X pins σ H' { s with heap := h', gens := g', drawn := d', toks := t' } := by
  have neL : ∀ b o, X.s₀.heap.get? b = some o → b ≠ X.env.locals := fun b o e => Nat.ne_of_lt (Nat.lt_of_lt_of_le (Heap.lt_size e) I.ok.above)
  have neC : ∀ b o, X.s₀.heap.get? b = some o → b ∉ X.ex → b ∉ ch := fun b o e hx hb => by
    rcases (hch b hb).1 with z | z
    · exact hx z
    · exact absurd (Nat.lt_of_lt_of_le (Heap.lt_size e) z) (Nat.lt_irrefl _)
  have cellK : ∀ x c, X.env.cells.lookup x = some c → ∀ v, s.heap.IsCell c v → h'.IsCell c v := fun x c e v ⟨o, ho, hd⟩ => by
    have nch : c ∉ ch := fun z => (hch c z).2.2.1 x c e rfl
    by_cases hc : c ∈ X.fs
    · obtain ⟨sl, q⟩ := slot c o (I.cne x c e) hc nch ho (I.freeC x c e)
      exact ⟨_, q, hd⟩
    · exact ⟨o, keep c o (I.cne x c e) hc nch ho (I.freeC x c e), hd⟩
  refine ⟨I.ok, I.os, hg, ⟨fun b o e n hb hx => ?_, fun b o e n hb hx => ?_, fun b o e n hx => ?_, fun b o e hx => ?_, fun b xs e => tups b xs (I.base.tups b xs e), fun b o xs e => frzs b o xs (I.base.frzs b o xs e), fun b ps e => ?_⟩, ?_, fun x c e => ?_, ?_, fun x c e => ?_, fun p hp => ?_, hok, I.len⟩
  · exact keep b o (neL b o e) hb (neC b o e hx) (I.base.keep b o e n hb hx) (I.base.free b o e n hx)
  · obtain ⟨sl, e1⟩ := I.base.slot b o e n hb hx
    obtain ⟨sl', e2⟩ := slot b _ (neL b o e) hb (neC b o e hx) e1 (I.base.free b o e n hx)
    exact ⟨sl', e2⟩
  · obtain ⟨o', e1⟩ := I.base.there b o e hx
    exact free b o' (neC b o e hx) e1 (I.base.free b o e n hx)
  · obtain ⟨o', e1⟩ := I.base.there b o e hx
    exact there b o' (neC b o e hx) e1
  · obtain ⟨m1, e1⟩ := I.base.tbls b ps e
    obtain ⟨m2, e2⟩ := tbls b _ e1
    exact ⟨m1 ++ m2, by rw [e2, Array.append_assoc]⟩
  · obtain ⟨m, hn, hl⟩ := I.loc
    refine ⟨m, ns m hn, fun i x v e1 e2 e3 => ?_⟩
    obtain ⟨u, r, l⟩ := hl i x v e1 e2 e3
    refine ⟨u, r, ?_⟩
    rcases l with l | ⟨k, c, e, z⟩
    · exact .inl l
    · exact .inr ⟨k, c, e, cellK x c e _ z⟩
  · obtain ⟨v, z⟩ := I.cell x c e
    exact ⟨v, cellK x c e v z⟩
  · obtain ⟨m, ⟨o, _, _, ho, _⟩, _⟩ := I.loc
    exact free _ o (fun z => (hch _ z).2.1 rfl) ho I.free
  · obtain ⟨v, o, ho, hd⟩ := I.cell x c e
    exact free c o (fun z => (hch c z).2.2.1 x c e rfl) ho (I.freeC x c e)
  · obtain ⟨e, n, ne, nf, d⟩ := I.pin p hp
    have nch : p.1 ∉ ch := fun z => (hch p.1 z).2.2.2 p hp rfl
    exact ⟨keep p.1 p.2 ne nf nch e n, free p.1 p.2 nch e n, ne, nf, d⟩
/- .. where the frame's own object is kept too -/
theorem Inv.un {t' : Nat} (I : Inv X pins σ H s) (u : Un X.fs [] H H' s.heap h') (hok : HOk X.prog X.w H' h') : Inv X pins σ H' { s with heap := h', toks := t' } := by
  obtain ⟨m, ⟨o, es, ep, ho, r⟩, _⟩ := id I.loc
  obtain ⟨sl, hL⟩ := u.any ho I.free (by simp)
  exact I.step (g' := s.gens) (d' := s.drawn) (ch := []) (fun _ z => nomatch z) (fun b o _ hb _ e n => u.keep b o e n hb (by simp)) (fun b o _ hb _ e n => u.slot b o e n hb (by simp)) (fun b o _ e n => u.free b o e n (by simp)) (fun b o _ e => u.there b o e (by simp)) u.tups u.frzs u.tbls (fun m' hm => by
    obtain ⟨o', es', ep', ho', r'⟩ := hm
    rw [ho] at ho'; cases ho'
    exact ⟨_, es', ep', hL, r'⟩) hok I.bare
/- behind a call (or a comprehension's block): the slots of this frame may have changed too, the records at ch may have turned -/
theorem Inv.call {g' : Array GenState} {t' : Nat} {d' : Drawn} {ch : List Addr} (I : Inv X pins σ H s) (u : Un (frs X.stack) ch H H' s.heap h') (hok : HOk X.prog X.w H' h') (hg : AllBare g')
    (hch : ∀ b ∈ ch, (b ∈ X.ex ∨ X.s₀.heap.objs.size ≤ b) ∧ b ≠ X.env.locals ∧ (∀ x c, X.env.cells.lookup x = some c → c ≠ b) ∧ ∀ p ∈ X.pn ++ pins, p.1 ≠ b) :
    Inv X pins σ H' { s with heap := h', gens := g', drawn := d', toks := t' } := by
  obtain ⟨m, ⟨o, es, ep, ho, r⟩, _⟩ := id I.loc
  obtain ⟨sl, hL⟩ := u.any ho I.free fun z => (hch _ z).2.1 rfl
  exact I.step (ch := ch) hch (fun b o hL hb hc e n => u.keep b o e n (fun z => (List.mem_cons.mp (I.stkSub b z)).elim hL hb) hc) (fun b o _ _ hc e n => u.any e n hc) (fun b o hc e n => u.free b o e n hc) (fun b o hc e => u.there b o e hc) u.tups u.frzs u.tbls (fun m' hm => by
    obtain ⟨o', es', ep', ho', r'⟩ := hm
    rw [ho] at ho'; cases ho'
    exact ⟨_, es', ep', hL, r'⟩) hok hg
/- an untracked record of ours (an iterator) has turned -/
theorem Inv.turned {t' : Nat} {it : Addr} (I : Inv X pins σ H s) (k : ∀ b o, b ≠ it → s.heap.get? b = some o → h'.get? b = some o) (hn : H it = none) (hL : it ≠ X.env.locals)
    (h1 : it ∈ X.ex ∨ X.s₀.heap.objs.size ≤ it) (h2 : ∀ x c, X.env.cells.lookup x = some c → c ≠ it) (h3 : ∀ p ∈ X.pn ++ pins, p.1 ≠ it) : Inv X pins σ H { s with heap := h', toks := t' } := by
  have nit : ∀ b u, H b = some u → b ≠ it := fun b u e z => by rw [z, hn] at e; cases e
  refine I.step (g' := s.gens) (d' := s.drawn) (ch := [it]) (fun b hb => ?_) (fun b o _ _ hc e _ => k b o (fun z => hc (by simp [z])) e) (fun b o _ _ hc e _ => ⟨o.slots, k b o (fun z => hc (by simp [z])) e⟩) (fun _ _ _ _ n => n)
    (fun b o hc e => ⟨o, k b o (fun z => hc (by simp [z])) e⟩) (fun _ _ e => e) (fun _ _ _ e => e) (fun b ps e => ⟨#[], by rw [e]; simp⟩) (fun m hm => ?_) (fun b u e => ?_) I.bare
  · have e : b = it := by simpa using hb
    subst e
    exact ⟨h1, hL, h2, h3⟩
  · obtain ⟨o, es, ep, ho, r⟩ := hm
    exact ⟨o, es, ep, k _ o (Ne.symm hL) ho, r⟩
  · refine (I.hok b u e).stay (fun c v hc q => k c v ?_ q) (fun _ q => q) fun _ _ q => q
    rcases hc with z | z
    · rw [z]; exact nit b u e
    · exact nit c _ z
theorem Inv.tok (I : Inv X pins σ H s) (t : Nat) : Inv X pins σ H { s with toks := t } := I.un (h' := s.heap) (t' := t) Un.refl I.hok
/- all objects kept -/
theorem Inv.kept {t' : Nat} (I : Inv X pins σ H s) (k : ∀ b u, s.heap.get? b = some u → h'.get? b = some u) : Inv X pins σ H { s with heap := h', toks := t' } := I.un (Un.kept k) (I.hok.kept k)
/- a new object laid and tracked -/
theorem Inv.laid {a : Addr} {o : HO} {t' : Nat} (I : Inv X pins σ H s) (k : ∀ b u, s.heap.get? b = some u → h'.get? b = some u) (hp : s.heap.objs.size ≤ a) (new : ObjOk X.prog X.w (upd H a o) h' a o) :
    Inv X pins σ (upd H a o) { s with heap := h', toks := t' } := I.un (Un.laid k hp (I.hok.fresh hp)) (I.hok.laid k hp new)
/- an object written -/
theorem Inv.write {x e : Addr} {o : HO} {t' : Nat} (I : Inv X pins σ H s) (mu : Mut (H x)) (he : e = x ∨ H e = some (.own x)) (k : ∀ b u, b ≠ e → s.heap.get? b = some u → h'.get? b = some u) (heo : ∃ u, h'.get? e = some u)
    (new : ObjOk X.prog X.w (upd H x o) h' x o) : Inv X pins σ (upd H x o) { s with heap := h', toks := t' } := I.un (Un.write mu he k heo) (I.hok.write mu he k heo new)
/- forgetting slots, pins -/
theorem Inv.weak {σ' : List (Option V)} (I : Inv X pins σ H s) (hl : σ'.length = σ.length) (w : ∀ (i : Nat) v, σ'[i]? = some (some v) → σ[i]? = some (some v)) : Inv X pins σ' H s :=
  ⟨I.ok, I.os, I.bare, I.base, let ⟨m, hn, hl'⟩ := I.loc; ⟨m, hn, fun i x v e1 e2 e3 => hl' i x v e1 (w i v e2) e3⟩, I.cell, I.free, I.freeC, I.pin, I.hok, hl.trans I.len⟩
theorem Inv.pins_of {pins' : List (Addr × Obj)} (I : Inv X pins σ H s) (h : ∀ p ∈ pins', s.heap.get? p.1 = some p.2 ∧ H p.1 = none ∧ p.1 ≠ X.env.locals ∧ p.1 ∉ X.fs ∧ ∀ v, p.2.data ≠ .cell v) : Inv X pins' σ H s :=
  ⟨I.ok, I.os, I.bare, I.base, I.loc, I.cell, I.free, I.freeC, fun p hp => (List.mem_append.mp hp).elim (fun z => I.pin p (List.mem_append_left _ z)) (h p), I.hok, I.len⟩

theorem nodup_ix {N : List Str} (hN : N.Nodup) {i j : Nat} {x : Str} (a : N[i]? = some x) (b : N[j]? = some x) : i = j := by
  obtain ⟨h1, e1⟩ := List.getElem?_eq_some_iff.mp a
  obtain ⟨h2, e2⟩ := List.getElem?_eq_some_iff.mp b
  exact (List.getElem_inj hN).mp (e1.trans e2.symm)

/- a name is stored; what changed -/
theorem store_ok2 {M : Model} {A : Around} {E : Value → Shared → Prop} {i : Nat} {x : Str} {v : V} {u : Value} {Q : Unit → Shared → Prop} (I : Inv X pins σ H s) (hN : X.N.Nodup) (hi : X.N[i]? = some x) (hx : Loc X.env.scope x) (r : RelV v u)
    (h : ∀ s', Inv X pins (σ.set i (some v)) H s' → (∃ a, Heap.SameBut a s.heap s'.heap ∧ (a = X.env.locals ∨ X.env.cells.lookup x = some a)) → Q () s') (hf : X.fn x = true ∨ X.env.scope.names.lookup x = some .local := by first | exact .inl rfl | exact .inr rfl | assumption) : wpAny M A (storeName X.env x u) Q E s := by
  obtain ⟨m, hn, hl⟩ := id I.loc
  have hcls : (X.env.scope.kind == .class || (X.env.scope.kind == .module && X.env.locals != X.env.globals)) = false := by rw [I.ok.kind]; rfl
  have hiσ : i < σ.length := by rw [I.len]; exact (List.getElem?_eq_some_iff.mp hi).1
  have cne := I.cne
  have tracked : ∀ {a : Addr} {h' : Heap}, (∃ o, s.heap.get? a = some o ∧ H a = none) → Heap.SameBut a s.heap h' → HOk X.prog X.w H h' := fun {a h'} ha hs b ob e => by
    obtain ⟨_, _, hfree⟩ := ha
    refine (I.hok b ob e).stay (fun c w' hc q => (hs.2 c ?_).trans q) (fun _ q => q) fun _ _ q => q
    rintro rfl
    rcases hc with rfl | hc
    · rw [hfree] at e; cases e
    · rw [hfree] at hc; cases hc
  rcases hx with hk | hk
  · refine wpAny_storeName_local hk hn (fun h' hn' hs => ?_) hcls
    obtain ⟨oL, _, _, hoL, _⟩ := id hn
    refine h _ ⟨I.ok, I.os, I.bare, ⟨fun b o e n hb hx => ?_, fun b o e n hb hx => ?_, I.base.free, fun b o e hx => ?_, I.base.tups, I.base.frzs, I.base.tbls⟩, ⟨_, hn', fun j y v' e1 e2 e3 => ?_⟩, fun y c e => ?_, I.free, I.freeC, fun p hp => ?_, tracked ⟨oL, hoL, I.free⟩ hs, by simpa using I.len⟩ ⟨_, hs, .inl rfl⟩
    · exact (hs.2 b (Nat.ne_of_lt (Nat.lt_of_lt_of_le (Heap.lt_size e) I.ok.above))).trans (I.base.keep b o e n hb hx)
    · obtain ⟨sl, e1⟩ := I.base.slot b o e n hb hx
      exact ⟨sl, (hs.2 b (Nat.ne_of_lt (Nat.lt_of_lt_of_le (Heap.lt_size e) I.ok.above))).trans e1⟩
    · obtain ⟨o', e1⟩ := I.base.there b o e hx
      exact ⟨o', (hs.2 b (Nat.ne_of_lt (Nat.lt_of_lt_of_le (Heap.lt_size e) I.ok.above))).trans e1⟩
    · by_cases hj : j = i
      · subst hj
        rw [hi] at e1; cases e1
        rw [List.getElem?_set_self hiσ] at e2
        cases e2
        exact ⟨u, r, .inl ⟨hk, by simp⟩⟩
      · rw [List.getElem?_set_ne (Ne.symm hj)] at e2
        obtain ⟨u', r', q⟩ := hl j y v' e1 e2 e3
        refine ⟨u', r', ?_⟩
        rcases q with ⟨k, e⟩ | ⟨k, c, e, z⟩
        · refine .inl ⟨k, ?_⟩
          have : y ≠ x := fun e => hj (nodup_ix hN e1 (e ▸ hi))
          simp [this, e]
        · exact .inr ⟨k, c, e, z.sameBut hs (cne y c e)⟩
    · obtain ⟨w', z⟩ := I.cell y c e
      exact ⟨w', z.sameBut hs (cne y c e)⟩
    · obtain ⟨e, n, ne, nf, d⟩ := I.pin p hp
      exact ⟨(hs.2 p.1 ne).trans e, n, ne, nf, d⟩
  · have hfn : X.fn x = true := by
      rcases hf with z | z
      · exact z
      · rw [z] at hk; cases hk
    obtain ⟨c, hc⟩ := I.ok.has x (.inl hk)
    obtain ⟨w', z⟩ := I.cell x c hc
    refine wpAny_storeName_cell I.ok.kind hk hc z (fun h' hc' hs => ?_)
    obtain ⟨oc, hoc, hocd⟩ := id z
    refine h { s with heap := h' } ⟨I.ok, I.os, I.bare, ⟨fun b o e n hb hx => ?_, fun b o e n hb hx => ?_, I.base.free, fun b o e hx => ?_, I.base.tups, I.base.frzs, I.base.tbls⟩, ⟨m, hn.sameBut hs (Ne.symm (cne x c hc)), fun j y v' e1 e2 e3 => ?_⟩, fun y c' e => ?_, I.free, I.freeC, fun p hp => ?_, tracked ⟨oc, hoc, I.freeC x c hc⟩ hs, by simpa using I.len⟩ ⟨c, hs, .inr hc⟩
    · exact (hs.2 b (Nat.ne_of_lt (Nat.lt_of_lt_of_le (Heap.lt_size e) (I.ok.cab x c hfn hc)))).trans (I.base.keep b o e n hb hx)
    · obtain ⟨sl, e1⟩ := I.base.slot b o e n hb hx
      exact ⟨sl, (hs.2 b (Nat.ne_of_lt (Nat.lt_of_lt_of_le (Heap.lt_size e) (I.ok.cab x c hfn hc)))).trans e1⟩
    · obtain ⟨o', e1⟩ := I.base.there b o e hx
      exact ⟨o', (hs.2 b (Nat.ne_of_lt (Nat.lt_of_lt_of_le (Heap.lt_size e) (I.ok.cab x c hfn hc)))).trans e1⟩
    · by_cases hj : j = i
      · subst hj
        rw [hi] at e1; cases e1
        rw [List.getElem?_set_self hiσ] at e2
        cases e2
        exact ⟨u, r, .inr ⟨.inl hk, c, hc, hc'⟩⟩
      · rw [List.getElem?_set_ne (Ne.symm hj)] at e2
        obtain ⟨u', r', q⟩ := hl j y v' e1 e2 e3
        refine ⟨u', r', ?_⟩
        rcases q with q | ⟨k, c', e, z'⟩
        · exact .inl q
        · refine .inr ⟨k, c', e, z'.sameBut hs ?_⟩
          rintro rfl
          exact hj (nodup_ix hN e1 (I.ok.inj _ _ _ e hc ▸ hi))
    · by_cases hcc : c' = c
      · subst hcc; exact ⟨_, hc'⟩
      · obtain ⟨w2, z2⟩ := I.cell y c' e
        exact ⟨w2, z2.sameBut hs hcc⟩
    · obtain ⟨e, n, ne, nf, d⟩ := I.pin p hp
      refine ⟨(hs.2 p.1 ?_).trans e, n, ne, nf, d⟩
      intro q
      rw [q, hoc] at e
      have q' : oc = p.2 := Option.some.inj e
      exact d w' (by rw [← q']; exact hocd)
theorem store_ok {M : Model} {A : Around} {E : Value → Shared → Prop} {i : Nat} {x : Str} {v : V} {u : Value} {Q : Unit → Shared → Prop} (I : Inv X pins σ H s) (hN : X.N.Nodup) (hi : X.N[i]? = some x) (hx : Loc X.env.scope x) (r : RelV v u)
    (h : ∀ s', Inv X pins (σ.set i (some v)) H s' → Q () s') (hf : X.fn x = true ∨ X.env.scope.names.lookup x = some .local := by first | exact .inl rfl | exact .inr rfl | assumption) : wpAny M A (storeName X.env x u) Q E s :=
  store_ok2 I hN hi hx r (fun s' I' _ => h s' I') hf
/- behind a call or a block, the state as it is -/
theorem Inv.call' {s' : Shared} {ch : List Addr} (I : Inv X pins σ H s) (ho : s'.os = s.os) (u : Un (frs X.stack) ch H H' s.heap s'.heap) (hok : HOk X.prog X.w H' s'.heap) (hg : AllBare s'.gens)
    (hch : ∀ b ∈ ch, (b ∈ X.ex ∨ X.s₀.heap.objs.size ≤ b) ∧ b ≠ X.env.locals ∧ (∀ x c, X.env.cells.lookup x = some c → c ≠ b) ∧ ∀ p ∈ X.pn ++ pins, p.1 ≠ b) : Inv X pins σ H' s' := by
  obtain ⟨h', g', d', t', o'⟩ := s'
  have e : o' = s.os := ho
  subst e
  exact I.call (g' := g') (t' := t') (d' := d') u hok hg hch
end

/-! ### the judgements -/
/- an exception: its class, its own dict's address (where it has one), the abstract heap behind it -/
abbrev XK := Value → Option Addr → Hp → Prop
abbrev St := List (Option V)
abbrev VK := V → Hp → Prop
/- an expression's reading; a test's; an argument list's -/
abbrev TE := St → Hp → VK → Prop
abbrev TT := St → Hp → (Bool → Hp → Prop) → Prop
abbrev TA := St → Hp → (List V → Hp → Prop) → Prop
/- what is wanted behind a statement -/
structure Ends where
  nx : St → Hp → Prop
  rt : VK
  bk : St → Hp → Prop := fun _ _ => False
  ct : St → Hp → Prop := fun _ _ => False
abbrev TS := Ends → St → Hp → Prop

def EP (X : Cx) (pins : List (Addr × Obj)) (σ : St) (Q : VK) (u : Value) (s' : Shared) : Prop := ∃ v H', Inv X pins σ H' s' ∧ RelV v u ∧ Q v H'
def TP (X : Cx) (pins : List (Addr × Obj)) (σ : St) (Q : Bool → Hp → Prop) (b : Bool) (s' : Shared) : Prop := ∃ H', Inv X pins σ H' s' ∧ Q b H'
def AP (X : Cx) (pins : List (Addr × Obj)) (σ : St) (Q : List V → Hp → Prop) (us : List Value) (s' : Shared) : Prop := ∃ vs H', Inv X pins σ H' s' ∧ Vals vs us ∧ Q vs H'
def SP (X : Cx) (pins : List (Addr × Obj)) (D : Ends) (f : Flow) (s' : Shared) : Prop :=
  match f with
  | .next => ∃ σ' H', Inv X pins σ' H' s' ∧ D.nx σ' H'
  | .brk => ∃ σ' H', Inv X pins σ' H' s' ∧ D.bk σ' H'
  | .cont => ∃ σ' H', Inv X pins σ' H' s' ∧ D.ct σ' H'
  | .ret u => ∃ v σ' H', Inv X pins σ' H' s' ∧ RelV v u ∧ D.rt v H'

def PE (X : Cx) (e : Expr) (t : TE) : Prop :=
  ∀ (pins : List (Addr × Obj)) (s : Shared) (σ : St) (H : Hp) (Q : VK), Inv X pins σ H s → t σ H Q → wpAny (model X.prog X.w) X.A (eval e X.env) (EP X pins σ Q) X.xe s
def PT (X : Cx) (e : Expr) (t : TT) : Prop :=
  ∀ (pins : List (Addr × Obj)) (s : Shared) (σ : St) (H : Hp) (Q : Bool → Hp → Prop), Inv X pins σ H s → t σ H Q → wpAny (model X.prog X.w) X.A (isTrue e X.env (eval e X.env)) (TP X pins σ Q) X.xe s
/- a test whatever its 'whole' is (and, or) -/
def PW (X : Cx) (e : Expr) (t : TT) : Prop :=
  ∀ (whole : Sem Value) (pins : List (Addr × Obj)) (s : Shared) (σ : St) (H : Hp) (Q : Bool → Hp → Prop), Inv X pins σ H s → t σ H Q → wpAny (model X.prog X.w) X.A (isTrue e X.env whole) (TP X pins σ Q) X.xe s
theorem PW.pt {X : Cx} {e : Expr} {t : TT} (h : PW X e t) : PT X e t := h _
/- an argument list (no star), from the left -/
def PA (X : Cx) (es : List Expr) (t : TA) : Prop :=
  ∀ (pos : Pos) (pins : List (Addr × Obj)) (s : Shared) (σ : St) (H : Hp) (Q : List V → Hp → Prop), Inv X pins σ H s → t σ H Q → wpAny (model X.prog X.w) X.A (spliced (backTo pos (starEach es X.env))) (AP X pins σ Q) X.xe s
def PS (X : Cx) (st : Stmt) (t : TS) : Prop :=
  ∀ (pins : List (Addr × Obj)) (s : Shared) (σ : St) (H : Hp) (D : Ends), Inv X pins σ H s → t D σ H → wpAny (model X.prog X.w) X.A (exec st X.env) (SP X pins D) X.xe s
def PSs (X : Cx) (st : List Stmt) (t : TS) : Prop :=
  ∀ (pins : List (Addr × Obj)) (s : Shared) (σ : St) (H : Hp) (D : Ends), Inv X pins σ H s → t D σ H → wpAny (model X.prog X.w) X.A (execs st X.env) (SP X pins D) X.xe s
/- weaken the end -/
theorem thn {α : Type} {t : Sem α} {Q Q' : α → Shared → Prop} {M : Model} {A : Around} {E : Value → Shared → Prop} {s : Shared} (h : wpAny M A t Q E s) (hQ : ∀ a s, Q a s → Q' a s) : wpAny M A t Q' E s := wpAny_mono h hQ fun _ _ x => x
end L2

namespace L2
open PySem PySem.Spec PyProof.Rows
section
variable {X : Cx}

/- two expressions in a row -/
def tVar (i : Nat) : TE := fun σ H Q => ∃ v, σ[i]? = some (some v) ∧ Q v H
def tC (v : V) : TE := fun _ H Q => Q v H
theorem pe_var {i : Nat} {x : Str} {pos : Pos} (hN : X.N[i]? = some x) (hv : Vis X.env.scope x) (hd : (x == ("__debug__" : Str)) = false := by decide) (hcd : (x == ("__classdict__" : Str)) = false := by decide) : PE X (.Name x pos) (tVar i) := by
  intro pins s σ H Q I h
  obtain ⟨v, e, h⟩ := h
  obtain ⟨m, hn, hl⟩ := I.loc
  obtain ⟨u, r, l⟩ := hl i x v hN e hv
  have fin : EP X pins σ Q u s := ⟨v, H, I, r, h⟩
  rcases l with ⟨hk, hm⟩ | ⟨hk, c, hc, hcell⟩
  · exact wpAny_Name (wpAny_loadName_local I.ok.kind hk hn hm fin) hd
  · rcases hk with hk | hk
    · exact wpAny_Name (wpAny_loadName_cell I.ok.kind hk hc hcell fin) hd
    · exact wpAny_Name (wpAny_loadName_free I.ok.kind hk hc hcell fin hcd) hd
theorem pe_int {i j pos} : PE X (.Constant (.int i) j pos) (tC (.int i)) := fun _ _ _ H _ I h => wpAny_Constant_int ⟨.int i, H, I.tok _, ⟨_, rfl⟩, h⟩
theorem pe_bl {b j pos} : PE X (.Constant (.bool b) j pos) (tC (.bl b)) := fun _ _ _ H _ I h => Constant_bool ⟨.bl b, H, I, rfl, h⟩
theorem pe_non {j pos} : PE X (.Constant .none j pos) (tC .non) := fun _ _ _ H _ I h => Constant_none ⟨.non, H, I, rfl, h⟩
theorem pe_str {x j pos} : PE X (.Constant (.str x) j pos) (tC (.str x)) := fun _ _ _ H _ I h => Calls.Constant_str ⟨.str x, H, I.tok _, ⟨_, rfl⟩, h⟩

/- a global name of the def -/
def Gl (X : Cx) (x : Str) : Prop := X.env.kindOf x = some .globalImplicit
theorem ld_glob {E : Value → Shared → Prop} {pins : List (Addr × Obj)} {s : Shared} {σ : St} {H : Hp} {x : Str} {u : Value} {pos : Pos} {Q : Value → Shared → Prop} (I : Inv X pins σ H s) (hg : Gl X x) (hm : X.mg x = some u) (h : Q u s)
    (hd : (x == ("__debug__" : Str)) = false := by decide) : wpAny (model X.prog X.w) X.A (eval (.Name x pos) X.env) Q E s :=
  Calls.Name_function_global I.ok.kind hg (Calls.loadGlobal_global (by rw [I.ok.glob]; exact I.mod.glob.keeps I.bk) hm h) hd
theorem ld_blt {E : Value → Shared → Prop} {pins : List (Addr × Obj)} {s : Shared} {σ : St} {H : Hp} {x : Str} {u : Value} {pos : Pos} {Q : Value → Shared → Prop} (I : Inv X pins σ H s) (hg : Gl X x) (hm : X.mg x = none) (hv : bootBuiltins x = some u) (h : Q u s)
    (hn : x ≠ "__name__" := by decide) (hd : (x == ("__debug__" : Str)) = false := by decide) : wpAny (model X.prog X.w) X.A (eval (.Name x pos) X.env) Q E s := by
  obtain ⟨mb, h1, h2⟩ := I.mod.blt
  exact Calls.Name_function_global I.ok.kind hg (Calls.loadGlobal_builtin (by rw [I.ok.glob]; exact I.mod.glob.keeps I.bk) hm (by rw [I.ok.blt]; exact h1.keeps I.bk) ((h2 x hn).trans hv) h) hd
/- a module's constant, a class, a function, as a value -/
theorem pe_glob {x : Str} {v : V} {u : Value} {pos : Pos} (hg : Gl X x) (hm : X.mg x = some u) (r : RelV v u) (hd : (x == ("__debug__" : Str)) = false := by decide) : PE X (.Name x pos) (tC v) :=
  fun _ _ _ H _ I h => ld_glob I hg hm ⟨v, H, I, r, h⟩ hd
theorem pe_bltn {x : Str} {v : V} {u : Value} {pos : Pos} (hg : Gl X x) (hm : X.mg x = none) (hv : bootBuiltins x = some u) (r : RelV v u) (hn : x ≠ "__name__" := by decide) (hd : (x == ("__debug__" : Str)) = false := by decide) : PE X (.Name x pos) (tC v) :=
  fun _ _ _ H _ I h => ld_blt I hg hm hv ⟨v, H, I, r, h⟩ hn hd

/-! ### arithmetic -/
/- two ints -/
def t2I (ta tb : TE) (k : Int → Int → Hp → Prop) : St → Hp → Prop := fun σ H => ta σ H fun x H1 => tb σ H1 fun y H2 => ∃ i j, x = .int i ∧ y = .int j ∧ k i j H2
def tAdd (ta tb : TE) : TE := fun σ H Q => t2I ta tb (fun i j H2 => Q (.int (i + j)) H2) σ H
def tSub (ta tb : TE) : TE := fun σ H Q => t2I ta tb (fun i j H2 => Q (.int (i - j)) H2) σ H
/- the left factor below 2^64 -/
def tMul (ta tb : TE) : TE := fun σ H Q => t2I ta tb (fun i j H2 => (-(2 ^ 64) < i ∧ i < 2 ^ 64) ∧ Q (.int (i * j)) H2) σ H
variable {a b : Expr} {ta tb : TE} {pos : Pos}
def PC (X : Cx) (op : CmpOp) (a b : Expr) (t : TE) : Prop :=
  ∀ (pins : List (Addr × Obj)) (s : Shared) (σ : St) (H : Hp) (Q : VK), Inv X pins σ H s → t σ H Q →
    wpAny (model X.prog X.w) X.A (eval a X.env) (fun v s₁ => wpAny (model X.prog X.w) X.A (eval b X.env) (fun u s₂ => wpAny (model X.prog X.w) X.A (compareOp op v u) (EP X pins σ Q) X.xe s₂) X.xe s₁) X.xe s
theorem nobehind (b : Expr) {op : CmpOp} (h : op ≠ .In) (h2 : op ≠ .NotIn) : behindInMarks op b = false := by
  have e1 : (op == CmpOp.In) = false := by cases op <;> first | rfl | exact absurd rfl h
  have e2 : (op == CmpOp.NotIn) = false := by cases op <;> first | rfl | exact absurd rfl h2
  cases b <;> simp [behindInMarks, e1, e2]
def tCmp (p : Int → Int → Bool) (ta tb : TE) : TE := fun σ H Q => t2I ta tb (fun i j H2 => Q (.bl (p i j)) H2) σ H
abbrev tLt : TE → TE → TE := tCmp fun i j => decide (i < j)
abbrev tLe : TE → TE → TE := tCmp fun i j => decide (i ≤ j)
abbrev tGt : TE → TE → TE := tCmp fun i j => decide (j < i)
abbrev tGe : TE → TE → TE := tCmp fun i j => decide (j ≤ i)
abbrev tEqI : TE → TE → TE := tCmp fun i j => decide (i = j)
abbrev tNeI : TE → TE → TE := tCmp fun i j => !decide (i = j)
/- a comparison of two ints, by its rule -/
/- is None -/
def tIsN (ta : TE) : TE := fun σ H Q => ta σ H fun x H1 => Q (.bl (decide (x = .non))) H1
def tNotN (ta : TE) : TE := fun σ H Q => ta σ H fun x H1 => Q (.bl (!decide (x = .non))) H1
theorem RelV.none_iff {x : V} {v : Value} (r : RelV x v) : (v == Value.none) = decide (x = .non) := by
  cases x with
  | non => cases r; rfl
  | bl _ => cases r; rfl
  | int _ => obtain ⟨t, rfl⟩ := r; rfl
  | str _ => obtain ⟨t, rfl⟩ := r; rfl
  | byt _ => obtain ⟨t, rfl⟩ := r; rfl
  | flt _ => obtain ⟨t, rfl⟩ := r; rfl
  | ref _ => cases r; rfl
  | ty _ => cases r; rfl
theorem pc_isN {j pos'} (ha : PE X a ta) : PC X .Is a (.Constant .none j pos') (tIsN ta) := by
  intro pins s σ H Q I h
  refine thn (ha pins s σ H _ I h) fun v s1 ⟨x, H1, I1, r1, q1⟩ => ?_
  exact Constant_none (is_none_gen ⟨.bl _, H1, I1, by rw [r1.none_iff]; rfl, q1⟩)
/- a comparison as a value, as a test -/
def tB (t : TE) : TT := fun σ H Q => t σ H fun x H1 => ∃ c, x = .bl c ∧ Q c H1
theorem pe_cmp {op : CmpOp} {t : TE} (h : PC X op a b t) (h1 : behindInMarks op b = false := by first | exact nobehind _ (by decide) (by decide) | rfl) : PE X (.Compare a [op] [b] pos) t := fun pins s σ H Q I hw => wpAny_Compare1 (h pins s σ H Q I hw) h1
theorem pt_cmp {op : CmpOp} {t : TE} (h : PC X op a b t) (h1 : behindInMarks op b = false := by first | exact nobehind _ (by decide) (by decide) | rfl) : PT X (.Compare a [op] [b] pos) (tB t) := by
  intro pins s σ H Q I hw
  refine wpAny_isTrue_Compare1 (thn (h pins s σ H _ I hw) fun v s1 h1 => thn h1 fun u s2 h2 => thn h2 fun c s3 ⟨x, H1, I1, r1, q1⟩ => ?_) h1
  obtain ⟨d, rfl, q⟩ := q1
  cases r1
  exact wpAny_truthy_bool ⟨H1, I1, q⟩
/- an expression whose value is a bool, as a test -/
theorem pt_val {e : Expr} {t : TE} (h : PE X e t) (he : ∀ whole, isTrue e X.env whole = (do let v ← whole; standAt e.pos; holding [v] (truthy v)) := by intro _; rfl) : PT X e (tB t) := by
  intro pins s σ H Q I hw
  refine isTrue_plain (thn (h pins s σ H _ I hw) fun v s1 ⟨x, H1, I1, r1, q1⟩ => ?_) (he _)
  obtain ⟨d, rfl, q⟩ := q1
  cases r1
  exact wpAny_truthy_bool ⟨H1, I1, q⟩

/-! ### and, or, not -/
variable {tA tB' : TT} {rest : List Expr}
def tAnd (t u : TT) : TT := fun σ H Q => t σ H fun c H1 => if c = true then u σ H1 Q else Q false H1
def tOr (t u : TT) : TT := fun σ H Q => t σ H fun c H1 => if c = true then Q true H1 else u σ H1 Q
def tNot (t : TT) : TT := fun σ H Q => t σ H fun c H1 => Q (!c) H1
theorem pw_and1 (ha : PT X a tA) : PW X (.BoolOp .And [a] pos) tA := by
  intro wh pins s σ H Q I h
  refine isTrue_and (thn (ha pins s σ H Q I h) fun c s1 e => ?_)
  cases c with
  | true => exact isTrue_and_nil e
  | false => exact e
theorem pw_or1 (ha : PT X a tA) : PW X (.BoolOp .Or [a] pos) tA := by
  intro wh pins s σ H Q I h
  refine isTrue_or (thn (ha pins s σ H Q I h) fun c s1 e => ?_)
  cases c with
  | false => exact isTrue_or_nil e
  | true => exact e
theorem pw_and (ha : PT X a tA) (hb : PW X (.BoolOp .And (b :: rest) pos) tB') : PW X (.BoolOp .And (a :: b :: rest) pos) (tAnd tA tB') := by
  intro wh pins s σ H Q I h
  refine isTrue_and (thn (ha pins s σ H _ I h) fun c s1 ⟨H1, I1, q1⟩ => ?_)
  cases c with
  | true => exact hb wh pins s1 σ H1 Q I1 q1
  | false => exact ⟨H1, I1, q1⟩
theorem pw_or (ha : PT X a tA) (hb : PW X (.BoolOp .Or (b :: rest) pos) tB') : PW X (.BoolOp .Or (a :: b :: rest) pos) (tOr tA tB') := by
  intro wh pins s σ H Q I h
  refine isTrue_or (thn (ha pins s σ H _ I h) fun c s1 ⟨H1, I1, q1⟩ => ?_)
  cases c with
  | true => exact ⟨H1, I1, q1⟩
  | false => exact hb wh pins s1 σ H1 Q I1 q1
theorem pt_not (ha : PT X a tA) : PT X (.UnaryOp .Not a pos) (tNot tA) := by
  intro pins s σ H Q I h
  exact isTrue_not (ha pins s σ H (fun c H1 => Q (!c) H1) I h)
/- .. as values (bools) -/
def tAndV (ta tb : TE) : TE := fun σ H Q => ta σ H fun x H1 => ∃ c, x = .bl c ∧ if c = true then tb σ H1 Q else Q (.bl false) H1
def tOrV (ta tb : TE) : TE := fun σ H Q => ta σ H fun x H1 => ∃ c, x = .bl c ∧ if c = true then Q (.bl true) H1 else tb σ H1 Q
def tNotV (ta : TE) : TE := fun σ H Q => ta σ H fun x H1 => ∃ c, x = .bl c ∧ Q (.bl (!c)) H1
theorem pe_one {op} {t : TE} (h : PE X a t) : PE X (.BoolOp op [a] pos) t := fun pins s σ H Q I hw => BoolOp_one (h pins s σ H Q I hw)
theorem pe_and (ha : PE X a ta) (hb : PE X (.BoolOp .And (b :: rest) pos) tb) : PE X (.BoolOp .And (a :: b :: rest) pos) (tAndV ta tb) := by
  intro pins s σ H Q I h
  refine BoolOp_and (thn (ha pins s σ H _ I h) fun v s1 ⟨x, H1, I1, r1, q1⟩ => ?_)
  obtain ⟨c, rfl, q1⟩ := q1
  cases r1
  refine wpAny_truthy_bool ?_
  cases c with
  | true => exact hb pins s1 σ H1 Q I1 q1
  | false => exact ⟨.bl false, H1, I1, rfl, q1⟩
theorem pe_or (ha : PE X a ta) (hb : PE X (.BoolOp .Or (b :: rest) pos) tb) : PE X (.BoolOp .Or (a :: b :: rest) pos) (tOrV ta tb) := by
  intro pins s σ H Q I h
  refine BoolOp_or (thn (ha pins s σ H _ I h) fun v s1 ⟨x, H1, I1, r1, q1⟩ => ?_)
  obtain ⟨c, rfl, q1⟩ := q1
  cases r1
  refine wpAny_truthy_bool ?_
  cases c with
  | false => exact hb pins s1 σ H1 Q I1 q1
  | true => exact ⟨.bl true, H1, I1, rfl, q1⟩
theorem pe_not (ha : PE X a ta) : PE X (.UnaryOp .Not a pos) (tNotV ta) := by
  intro pins s σ H Q I h
  refine UnaryOp_ (thn (ha pins s σ H _ I h) fun v s1 ⟨x, H1, I1, r1, q1⟩ => ?_)
  obtain ⟨c, rfl, q1⟩ := q1
  cases r1
  exact not_of (wpAny_truthy_bool ⟨.bl (!c), H1, I1, rfl, q1⟩)
/- a if t else b -/
def tIf (t : TT) (ta tb : TE) : TE := fun σ H Q => t σ H fun c H1 => if c = true then ta σ H1 Q else tb σ H1 Q
theorem pe_ifExp {c : Expr} (hc : PT X c tA) (ha : PE X a ta) (hb : PE X b tb) : PE X (.IfExp c a b pos) (tIf tA ta tb) := by
  intro pins s σ H Q I h
  refine wpAny_IfExp (thn (hc pins s σ H _ I h) fun d s1 ⟨H1, I1, q1⟩ => ?_)
  cases d with
  | true => exact ha pins s1 σ H1 Q I1 q1
  | false => exact hb pins s1 σ H1 Q I1 q1
end
end L2

namespace L2
open PySem PySem.Spec PyProof.Rows

/-! ### a list, a tuple that is read: tracked, frozen, or an object of the module -/
def SqL (K : PySem.W.Frag) (H : Hp) (a : Addr) (xs : List V) : Prop :=
  Rd H a (.lst xs) ∨
    ∃ (o : Obj) (its : Array Value) (n : Nat), K.lookup a = some o ∧ o.cls = .type "list" ∧ o.dict = none ∧ o.data = .seq its n ∧ its.size ≤ sizeLine ∧ Vals xs its.toList
def SqT (K : PySem.W.Frag) (H : Hp) (a : Addr) (xs : List V) : Prop :=
  Rd H a (.tup xs) ∨
    ∃ (o : Obj) (its : Array Value) (n : Nat), K.lookup a = some o ∧ o.cls = .type "tuple" ∧ o.data = .seq its n ∧ its.size ≤ sizeLine ∧ Vals xs its.toList
def absV : Value → Option V
  | .none => some .non
  | .bool b => some (.bl b)
  | .int i _ => some (.int i)
  | .str x _ => some (.str x)
  | .bytes b _ => some (.byt b)
  | .float b _ => some (.flt b)
  | .ref a => some (.ref a)
  | .type n => some (.ty n)
  | _ => none
theorem RelV.abs {x : V} {u : Value} (r : RelV x u) : absV u = some x := by
  cases x with
  | non => cases r; rfl
  | bl _ => cases r; rfl
  | int _ => obtain ⟨t, rfl⟩ := r; rfl
  | str _ => obtain ⟨t, rfl⟩ := r; rfl
  | byt _ => obtain ⟨t, rfl⟩ := r; rfl
  | flt _ => obtain ⟨t, rfl⟩ := r; rfl
  | ref _ => cases r; rfl
  | ty _ => cases r; rfl
theorem RelV.inj {x y : V} {u : Value} (r : RelV x u) (q : RelV y u) : x = y := Option.some.inj (r.abs.symm.trans q.abs)
theorem Vals.inj : ∀ {xs ys : List V} {us : List Value}, Vals xs us → Vals ys us → xs = ys
  | _, _, _, .nil, .nil => rfl
  | _, _, _, .cons r t, .cons r' t' => by rw [r.inj r', Vals.inj t t']
section
variable {X : Cx} {pins : List (Addr × Obj)} {σ : St} {H : Hp} {s : Shared} {a : Addr} {xs ys : List V}
theorem SqL.of {K : PySem.W.Frag} (h : H a = some (.lst xs)) : SqL K H a xs := .inl (.inl h)
theorem SqT.of {K : PySem.W.Frag} (h : H a = some (.tup xs)) : SqT K H a xs := .inl (.inl h)
theorem Inv.list (I : Inv X pins σ H s) (h : SqL X.K H a xs) : ∃ its : List Value, Vals xs its ∧ PlainL s.heap a its.toArray ∧ xs.length ≤ sizeLine := by
  rcases h with h | ⟨o, its, n, hk, hc, hd, hs, hz, r⟩
  · obtain ⟨z, its, n, r, e⟩ := h.ok I.hok
    exact ⟨its, r, ⟨_, n, e, rfl, rfl, rfl⟩, z⟩
  · refine ⟨its.toList, r, ⟨o, n, I.kIn a o hk, hc, hd, by simpa using hs⟩, ?_⟩
    have e := r.length
    simp only [Array.length_toList] at e
    omega
theorem Inv.tuple (I : Inv X pins σ H s) (h : SqT X.K H a xs) : ∃ its : List Value, Vals xs its ∧ IsTup s.heap a its.toArray ∧ xs.length ≤ sizeLine := by
  rcases h with h | ⟨o, its, n, hk, hc, hs, hz, r⟩
  · obtain ⟨z, its, r, p⟩ := h.ok I.hok
    exact ⟨its, r, p, z⟩
  · refine ⟨its.toList, r, ⟨o, I.kIn a o hk, hc, n, by simpa using hs⟩, ?_⟩
    have e := r.length
    simp only [Array.length_toList] at e
    omega
theorem Inv.list_inj (I : Inv X pins σ H s) (h : SqL X.K H a xs) (h' : SqL X.K H a ys) : xs = ys := by
  obtain ⟨its, r, ⟨o, n, e, _, _, d⟩, _⟩ := I.list h
  obtain ⟨its', r', ⟨o', n', e', _, _, d'⟩, _⟩ := I.list h'
  rw [e] at e'; cases e'
  rw [d] at d'
  injection d' with d1 _
  have : its = its' := by simpa using congrArg Array.toList d1
  subst this
  exact r.inj r'
end

/-! ### another wish about exceptions -/
abbrev Cx.wish (X : Cx) (E : Value → Shared → Prop) : Cx := { X with xe := E }
/- no exception leaves -/
abbrev Cx.nox (X : Cx) : Cx := X.wish fun _ _ => False
theorem Cx.Ok.wish {X : Cx} (ok : X.Ok) (E : Value → Shared → Prop) : (X.wish E).Ok :=
  ⟨ok.mod, ok.kind, ok.glob, ok.blt, ok.above, ok.inj, ok.has, ok.cab, ok.hd, ok.frames, ok.stk, ok.exf, ok.bs, ok.bsz, ok.noex, ok.exfs, ok.funs, ok.frf⟩
theorem Cx.Ok.unwish {X : Cx} {E : Value → Shared → Prop} (ok : (X.wish E).Ok) : X.Ok :=
  ⟨ok.mod, ok.kind, ok.glob, ok.blt, ok.above, ok.inj, ok.has, ok.cab, ok.hd, ok.frames, ok.stk, ok.exf, ok.bs, ok.bsz, ok.noex, ok.exfs, ok.funs, ok.frf⟩
section
variable {X : Cx} {pins : List (Addr × Obj)} {σ : St} {H : Hp} {s : Shared} {E : Value → Shared → Prop}
theorem Inv.wish (I : Inv X pins σ H s) (E : Value → Shared → Prop) : Inv (X.wish E) pins σ H s := ⟨I.ok.wish E, I.os, I.bare, I.base, I.loc, I.cell, I.free, I.freeC, I.pin, I.hok, I.len⟩
theorem Inv.unwish (I : Inv (X.wish E) pins σ H s) : Inv X pins σ H s := ⟨I.ok.unwish, I.os, I.bare, I.base, I.loc, I.cell, I.free, I.freeC, I.pin, I.hok, I.len⟩
theorem SP.unwish {D : Ends} {f : Flow} {s' : Shared} (h : SP (X.wish E) pins D f s') : SP X pins D f s' := by
  cases f with
  | next => obtain ⟨σ', H', I, q⟩ := h; exact ⟨σ', H', I.unwish, q⟩
  | brk => obtain ⟨σ', H', I, q⟩ := h; exact ⟨σ', H', I.unwish, q⟩
  | cont => obtain ⟨σ', H', I, q⟩ := h; exact ⟨σ', H', I.unwish, q⟩
  | ret u => obtain ⟨v, σ', H', I, r, q⟩ := h; exact ⟨v, σ', H', I.unwish, r, q⟩
theorem PE.nox {e : Expr} {t : TE} (h : PE X.nox e t) : PE X e t := fun pins s σ H Q I hw =>
  wpAny_mono (h pins s σ H Q (I.wish _) hw) (fun _ _ ⟨v, H', I', r, q⟩ => ⟨v, H', I'.unwish, r, q⟩) fun _ _ z => False.elim z
theorem PT.nox {e : Expr} {t : TT} (h : PT X.nox e t) : PT X e t := fun pins s σ H Q I hw =>
  wpAny_mono (h pins s σ H Q (I.wish _) hw) (fun _ _ ⟨H', I', q⟩ => ⟨H', I'.unwish, q⟩) fun _ _ z => False.elim z
theorem PSs.nox {st : List Stmt} {t : TS} (h : PSs X.nox st t) : PSs X st t := fun pins s σ H D I hw =>
  wpAny_mono (h pins s σ H D (I.wish _) hw) (fun _ _ q => q.unwish) fun _ _ z => False.elim z
end

/-! ### blocks and small statements -/
section
variable {X : Cx} {st : Stmt} {rest : List Stmt} {t u : TS} {e : Expr} {te : TE} {pos : Pos}
def tNext : TS := fun D σ H => D.nx σ H
def tSeq (t u : TS) : TS := fun D σ H => t { D with nx := u D } σ H
theorem pss_nil : PSs X [] tNext := fun _ _ σ H _ I h => wpAny_execs_nil ⟨σ, H, I, h⟩
theorem pss_cons (h1 : PS X st t) (h2 : PSs X rest u) : PSs X (st :: rest) (tSeq t u) := by
  intro pins s σ H D I h
  refine wpAny_execs_cons (thn (h1 pins s σ H { D with nx := u D } I h) fun f s1 q => ?_)
  cases f with
  | next =>
    obtain ⟨σ', H', I', q⟩ := q
    exact h2 pins s1 σ' H' D I' q
  | ret v => exact q
  | brk => exact q
  | cont => exact q
theorem pss_one (h1 : PS X st t) : PSs X [st] t := by
  intro pins s σ H D I h
  refine wpAny_execs_cons (thn (h1 pins s σ H D I h) fun f s1 q => ?_)
  cases f with
  | next => exact wpAny_execs_nil q
  | ret v => exact q
  | brk => exact q
  | cont => exact q
def tBreak : TS := fun D σ H => D.bk σ H
def tCont : TS := fun D σ H => D.ct σ H
/- in a def's body nothing is shown -/
theorem Inv.quiet {pins : List (Addr × Obj)} {σ : St} {H : Hp} {s : Shared} (I : Inv X pins σ H s) : interactive X.env = false := by simp [interactive, I.ok.kind]
/- a docstring -/
/- an expression whose value is dropped -/
def tDrop (te : TE) : TS := fun D σ H => te σ H fun _ H1 => D.nx σ H1
theorem ps_expr (he : PE X e te) (hs : swapsWith e none pos.line X.env = pure false := by rfl) : PS X (.Expr e pos) (tDrop te) := by
  intro pins s σ H D I h
  exact wpAny_Expr_any (thn (he pins s σ H _ I h) fun v s1 ⟨x, H1, I1, r1, q1⟩ => ⟨σ, H1, I1, q1⟩) I.quiet hs
def tRet (te : TE) : TS := fun D σ H => te σ H D.rt
theorem ps_ret (he : PE X e te) : PS X (.Return (some e) pos) (tRet te) := by
  intro pins s σ H D I h
  exact wpAny_Return_some (thn (he pins s σ H _ I h) fun v s1 ⟨x, H1, I1, r1, q1⟩ => ⟨x, σ, H1, I1, r1, q1⟩)
def tRetN : TS := fun D _ H => D.rt .non H
def tIfS (c : TT) (t u : TS) : TS := fun D σ H => c σ H fun b H1 => if b = true then t D σ H1 else u D σ H1
theorem ps_if {c : Expr} {a b : List Stmt} {tc : TT} (hc : PT X c tc) (ha : PSs X a t) (hb : PSs X b u) : PS X (.If c a b pos) (tIfS tc t u) := by
  intro pins s σ H D I h
  refine wpAny_If (thn (hc pins s σ H _ I h) fun d s1 ⟨H1, I1, q1⟩ => ?_)
  cases d with
  | true => exact ha pins s1 σ H1 D I1 q1
  | false => exact hb pins s1 σ H1 D I1 q1
/- code that the proof never comes to -/
def tNever : TS := fun _ _ _ => False
theorem ps_never : PS X st tNever := fun _ _ _ _ _ _ h => h.elim
end

/-! ### targets -/
abbrev TG := V → St → Hp → (St → Hp → Prop) → Prop
abbrev TGs := List V → St → Hp → (St → Hp → Prop) → Prop
def PG (X : Cx) (target : Expr) (t : TG) : Prop :=
  ∀ (pins : List (Addr × Obj)) (s : Shared) (σ : St) (H : Hp) (v : V) (u : Value) (Q : St → Hp → Prop), Inv X pins σ H s → RelV v u → t v σ H Q →
    wpAny (model X.prog X.w) X.A (assign target X.env u) (fun _ s' => ∃ σ' H', Inv X pins σ' H' s' ∧ Q σ' H') X.xe s
/- several targets, one after another -/
def PGs (X : Cx) (ts : List Expr) (t : TGs) : Prop :=
  ∀ (pins : List (Addr × Obj)) (s : Shared) (σ : St) (H : Hp) (vs : List V) (us : List Value) (Q : St → Hp → Prop), Inv X pins σ H s → Vals vs us → t vs σ H Q →
    wpAny (model X.prog X.w) X.A (assignInOrder ((assignEach ts X.env).map (·.2)) us) (fun _ s' => ∃ σ' H', Inv X pins σ' H' s' ∧ Q σ' H') X.xe s
/- o[i] = v, by values -/
abbrev TSet := V → V → V → Hp → (Hp → Prop) → Prop
def PSet (X : Cx) (t : TSet) : Prop :=
  ∀ (pins : List (Addr × Obj)) (s : Shared) (σ : St) (H : Hp) (o i v : V) (ov iv u : Value) (Q : Hp → Prop), Inv X pins σ H s → RelV o ov → RelV i iv → RelV v u → t o i v H Q →
    wpAny (model X.prog X.w) X.A (setItem ov iv u) (fun _ s' => ∃ H', Inv X pins σ H' s' ∧ Q H') X.xe s
/- a op= b, by values -/
abbrev TIp := V → V → Hp → VK → Prop
def PIp (X : Cx) (op : Operator) (t : TIp) : Prop :=
  ∀ (pins : List (Addr × Obj)) (s : Shared) (σ : St) (H : Hp) (x y : V) (v u : Value) (Q : VK), Inv X pins σ H s → RelV x v → RelV y u → t x y H Q →
    wpAny (model X.prog X.w) X.A (inplaceOp op v u) (EP X pins σ Q) X.xe s
section
variable {X : Cx} {pos : Pos}
def gName (i : Nat) : TG := fun v σ H Q => Q (σ.set i (some v)) H
theorem pg_name {i : Nat} {x : Str} (hN : X.N.Nodup) (hi : X.N[i]? = some x) (hx : Loc X.env.scope x) (hf : X.fn x = true ∨ X.env.scope.names.lookup x = some .local := by first | exact .inl rfl | exact .inr rfl | assumption) : PG X (.Name x pos) (gName i) := by
  intro pins s σ H v u Q I r h
  exact wpAny_assign_Name (store_ok I hN hi hx r (fun s' I' => ⟨_, H, I', h⟩) hf)
def gNil : TGs := fun vs σ H Q => vs = [] ∧ Q σ H
def gCons (t : TG) (u : TGs) : TGs := fun vs σ H Q => ∃ v r, vs = v :: r ∧ t v σ H fun σ' H' => u r σ' H' Q
/- (a, b, ..) = a tuple of that length -/
def gTup (K : PySem.W.Frag) (n : Nat) (t : TGs) : TG := fun v σ H Q => ∃ a xs, v = .ref a ∧ SqT K H a xs ∧ xs.length = n ∧ t xs σ H Q
/- o[i] = .. -/
def gSub (to ti : TE) (t : TSet) : TG := fun v σ H Q => to σ H fun o H1 => ti σ H1 fun i H2 => t o i v H2 fun H3 => Q σ H3
theorem pg_sub {o i : Expr} {to ti : TE} {t : TSet} (ho : PE X o to) (hi : PE X i ti) (hs : PSet X t)
    (ha : ∀ v, assign (.Subscript o i pos) X.env v = (do
      let ov ← holding [v] (eval o X.env)
      let iv ← holding [v, ov] (eval i X.env)
      standAt pos
      holding [v, ov, iv] (setItem ov iv v)
      release [v, ov, iv] []) := by intro _; rfl) : PG X (.Subscript o i pos) (gSub to ti t) := by
  intro pins s σ H v u Q I r h
  rw [ha]
  refine wpAny_bind (wpAny_holding (thn (ho pins s σ H _ I h) fun ov s1 ⟨x, H1, I1, r1, q1⟩ => ?_))
  refine wpAny_bind (wpAny_holding (thn (hi pins s1 σ H1 _ I1 q1) fun iv s2 ⟨y, H2, I2, r2, q2⟩ => ?_))
  refine wpAny_bind (wpAny_standAt (wpAny_bind (wpAny_holding (thn (hs pins s2 σ H2 x y v ov iv u _ I2 r1 r2 r q2) fun _ s3 ⟨H3, I3, q3⟩ => ?_))))
  exact wpAny_release ⟨σ, H3, I3, q3⟩
/- target = value -/
def tAsg (te : TE) (g : TG) : TS := fun D σ H => te σ H fun x H1 => g x σ H1 D.nx
theorem ps_asg {tg e : Expr} {te : TE} {g : TG} (he : PE X e te) (hg : PG X tg g) (hs : swapsWithSole [tg] e pos.line X.env = pure false := by rfl) (hw : swappedStores [tg] e X.env = pure none := by rfl)
    (h1 : (assignEach [tg] X.env).map (·.2) = [assign tg X.env] := by rfl) : PS X (.Assign [tg] e pos) (tAsg te g) := by
  intro pins s σ H D I h
  refine wpAny_Assign_stores (thn (he pins s σ H _ I h) fun v s1 ⟨x, H1, I1, r1, q1⟩ => ?_) hs hw
  rw [h1]
  exact thn (hg pins s1 σ H1 x v _ I1 r1 q1) fun _ s2 q => q
/- name = value -/
theorem ps_set {i : Nat} {x : Str} {e : Expr} {te : TE} {pos' : Pos} (hN : X.N.Nodup) (hi : X.N[i]? = some x) (hx : Loc X.env.scope x) (he : PE X e te) (hs : swapsWith e (some (.Name x pos')) pos.line X.env = pure false := by rfl) (hf : X.fn x = true ∨ X.env.scope.names.lookup x = some .local := by first | exact .inl rfl | exact .inr rfl | assumption) :
    PS X (.Assign [.Name x pos'] e pos) (tAsg te (gName i)) := by
  intro pins s σ H D I h
  refine wpAny_Assign_Name (thn (he pins s σ H _ I h) fun v s1 ⟨y, H1, I1, r1, q1⟩ => ?_) hs
  exact store_ok I1 hN hi hx r1 (fun s2 I2 => ⟨_, H1, I2, q1⟩) hf
/- a, b = x, y with plain local names: stored from the right; the pair itself is not tracked (the opening rows as in PyProof/Rows/TupAssign.lean:23) -/
def tPar (i j : Nat) (ta : TA) : TS := fun D σ H => ta σ H fun vs H1 => ∃ v w, vs = [v, w] ∧ D.nx ((σ.set i (some v)).set j (some w)) H1
/- name op= e -/
def tAug (i : Nat) (te : TE) (ti : TIp) : TS := fun D σ H => ∃ x, σ[i]? = some (some x) ∧ te σ H fun y H1 => ti x y H1 fun z H2 => D.nx (σ.set i (some z)) H2
/- o[i] op= e -/
def tAugS (to ti te : TE) (tget : V → V → Hp → VK → Prop) (tip : TIp) (tset : TSet) : TS := fun D σ H => to σ H fun o H1 => ti σ H1 fun i H2 => tget o i H2 fun x H3 => te σ H3 fun y H4 => tip x y H4 fun z H5 => tset o i z H5 fun H6 => D.nx σ H6
/- o[i], by values -/
def PGet (X : Cx) (t : V → V → Hp → VK → Prop) : Prop :=
  ∀ (pins : List (Addr × Obj)) (s : Shared) (σ : St) (H : Hp) (o i : V) (ov iv : Value) (Q : VK), Inv X pins σ H s → RelV o ov → RelV i iv → t o i H Q →
    wpAny (model X.prog X.w) X.A (getItem ov iv) (EP X pins σ Q) X.xe s
/- ints -/
def ipI (f : Int → Int → Int) : TIp := fun x y H Q => ∃ i j, x = .int i ∧ y = .int j ∧ Q (.int (f i j)) H
end

/-! ### while -/
section
variable {X : Cx} {pos : Pos}
/- the invariant W with its measure -/
def tWhile (c : TT) (tb : TS) : TS := fun D σ H => ∃ W : Nat → St → Hp → Prop, (∃ m, W m σ H) ∧ ∀ m σ H, W m σ H →
  c σ H fun b H1 => if b = true then ∃ N : St → Hp → Prop, (∀ σ' H', N σ' H' → ∃ m', m' < m ∧ W m' σ' H') ∧ tb { D with nx := N, ct := N, bk := D.nx } σ H1 else D.nx σ H1
end

/-! ### what a loop or a comprehension walks -/
/- at turn i: it yields x (the heap may grow), or it stops -/
structure It where
  go : Nat → Hp → Prop
  yld : Nat → Hp → V → Hp → Prop
  stop : Nat → Hp → Prop
/- the iterator's own objects may turn: they are not the frame's, not pinned, younger than the entry (or a comprehension's own) -/
def FpOk (X : Cx) (pins : List (Addr × Obj)) (H : Hp) (b : Addr) : Prop :=
  H b = none ∧ b ≠ X.env.locals ∧ b ∉ X.fs ∧ (b ∈ X.ex ∨ X.s₀.heap.objs.size ≤ b) ∧ (∀ x c, X.env.cells.lookup x = some c → c ≠ b) ∧ ∀ p ∈ X.pn ++ pins, p.1 ≠ b
theorem Inv.fpOk {X : Cx} {pins : List (Addr × Obj)} {σ : St} {H H' : Hp} {s : Shared} {b : Addr} (I : Inv X pins σ H s) (hb : s.heap.objs.size ≤ b) (hn : H' b = none) : FpOk X pins H' b := by
  refine ⟨hn, Nat.ne_of_gt (Nat.lt_of_lt_of_le I.lt hb), I.nofs hb, .inr (Nat.le_trans I.sz hb), fun x c e z => ?_, fun p hp z => ?_⟩
  · obtain ⟨v, q⟩ := I.cell x c e
    exact absurd (Nat.lt_of_lt_of_le q.lt (by rw [z]; exact hb)) (Nat.lt_irrefl _)
  · exact absurd (Nat.lt_of_lt_of_le (Heap.lt_size (I.pin p hp).1) (by rw [z]; exact hb)) (Nat.lt_irrefl _)
structure Turn (P : Program) (w : World) (K : PySem.W.Frag) (tg : Expr) (J : It) (fp : List Addr) (it : Addr) (tn : Nat → Heap → Prop) : Prop where
  mem : it ∈ fp
  obj : ∀ i h, tn i h → ∀ b ∈ fp, ∃ o, h.get? b = some o ∧ ∀ v, o.data ≠ .cell v
  keep : ∀ i h h', tn i h → (∀ b ∈ fp, ∀ o, h.get? b = some o → h'.get? b = some o) → tn i h'
  item : ∀ (X : Cx), X.prog = P → X.w = w → X.K = K → X.calm = true → ∀ (i : Nat) (pins : List (Addr × Obj)) (s : Shared) (σ : St) (H : Hp) (E : Value → Shared → Prop), Inv X pins σ H s → (∀ b ∈ fp, FpOk X pins H b) → tn i s.heap → J.go i H →
    wpAny (model P w) X.A (pyNext (.ref it)) (fun r s1 => ∃ u, r = some u ∧
      wpAny (model P w) X.A (letOwnedTupleGo tg (.ref it) u) (fun _ s2 => ∃ x H', Inv X pins σ H' s2 ∧ RelV x u ∧ J.yld i H x H' ∧ tn (i + 1) s2.heap ∧ ∀ b ∈ fp, H' b = none) E s1) E s
  done : ∀ (X : Cx), X.prog = P → X.w = w → X.K = K → X.calm = true → ∀ (i : Nat) (pins : List (Addr × Obj)) (s : Shared) (σ : St) (H : Hp) (E : Value → Shared → Prop), Inv X pins σ H s → (∀ b ∈ fp, FpOk X pins H b) → tn i s.heap → J.stop i H →
    wpAny (model P w) X.A (pyNext (.ref it)) (fun r s1 => r = none ∧ Inv X pins σ H s1) E s
  self : ∀ (A : Around) (i : Nat) (s : Shared) (Q : Value → Shared → Prop) (E : Value → Shared → Prop), tn i s.heap → Q (.ref it) s → wpAny (model P w) A (pyIter (.ref it)) Q E s
abbrev TI := St → Hp → (It → Hp → Prop) → Prop
/- an iterator has come -/
def PIE (X : Cx) (pins : List (Addr × Obj)) (σ : St) (tg : Expr) (R : It → Hp → Prop) (itv : Value) (s2 : Shared) : Prop :=
  ∃ (it : Addr) (fp : List Addr) (tn : Nat → Heap → Prop) (J : It) (H' : Hp), itv = .ref it ∧ Inv X pins σ H' s2 ∧ Turn X.prog X.w X.K tg J fp it tn ∧ tn 0 s2.heap ∧ (∀ b ∈ fp, FpOk X pins H' b) ∧ R J H'
def PI (X : Cx) (tg iter : Expr) (wi : TI) : Prop :=
  ∀ (pins : List (Addr × Obj)) (s : Shared) (σ : St) (H : Hp) (R : It → Hp → Prop), Inv X pins σ H s → wi σ H R →
    wpAny (model X.prog X.w) X.A (eval iter X.env) (fun v s1 => wpAny (model X.prog X.w) X.A (pyIter v) (PIE X pins σ tg R) X.xe s1) X.xe s

/- the step ahead of the store is nothing for an iterator that keeps no tuple -/
theorem go_of {M : Model} {A : Around} {E : Value → Shared → Prop} {s : Shared} {tg : Expr} {it : Addr} {u : Value} {o : Obj} {n : String} {vs : Array Value} {Q : Unit → Shared → Prop} (ho : s.heap.get? it = some o) (hc : o.cls = .type n) (hd : o.data = .fields vs)
    (hn : ["enumerate", "zip", "dict_itemiterator", "dict_reverseitemiterator", "odict_iterator", "itertools.zip_longest", "itertools.pairwise"].contains n = false) (hQ : Q () s) : wpAny M A (letOwnedTupleGo tg (.ref it) u) Q E s := by
  unfold letOwnedTupleGo
  cases tg <;> first
    | exact wpAny_pure hQ
    | (cases u <;> first
        | exact wpAny_pure hQ
        | (refine wpAny_bind (wpAny_load ho ?_)
           rw [hc, hd]
           show wpAny M A (if (["enumerate", "zip", "dict_itemiterator", "dict_reverseitemiterator", "odict_iterator", "itertools.zip_longest", "itertools.pairwise"].contains n && vs[0]? == some (rawInt _)) = true then _ else _) Q E s
           rw [if_neg (by intro h; rw [hn, Bool.false_and] at h; cases h)]
           exact wpAny_pure hQ))

/- the list at a, as it stands at each turn (a loop may append to it) -/
def Itl (K : PySem.W.Frag) (a : Addr) : It :=
  ⟨fun i H => ∃ xs x, SqL K H a xs ∧ xs[i]? = some x, fun i H x H' => H' = H ∧ ∀ xs, SqL K H a xs → xs[i]? = some x, fun i H => ∃ xs, SqL K H a xs ∧ xs.length ≤ i⟩
def Itt (K : PySem.W.Frag) (a : Addr) : It :=
  ⟨fun i H => ∃ xs x, SqT K H a xs ∧ xs[i]? = some x, fun i H x H' => H' = H ∧ ∀ xs, SqT K H a xs → xs[i]? = some x, fun i H => ∃ xs, SqT K H a xs ∧ xs.length ≤ i⟩
/- lo, lo + 1, .. (n of them) -/
def Itr (lo : Int) (n : Nat) : It := ⟨fun i _ => i < n, fun i H x H' => H' = H ∧ x = .int (lo + i), fun i _ => n ≤ i⟩
theorem turn_list {P : Program} {w : World} {K : PySem.W.Frag} {tg : Expr} (a it : Addr) : Turn P w K tg (Itl K a) [it] it (fun i h => h.IsListIter it a i) where
  mem := by simp
  obj := fun i h st b hb => by
    have e : b = it := by simpa using hb
    subst e
    obtain ⟨o, e, c, d⟩ := st
    exact ⟨o, e, fun v z => by rw [d] at z; cases z⟩
  keep := fun i h h' st k => st.at fun o e => k it (by simp) o e
  item := by
    intro X hP hw hK hc i pins s σ H E I hf st hg
    subst hP hw hK
    obtain ⟨xs, x, hq, hx⟩ := hg
    obtain ⟨its, rv, p, hz⟩ := I.list hq
    obtain ⟨u, hu, ru⟩ := rv.get hx
    obtain ⟨f0, f1, f2, f3, f4, f5⟩ := hf it (by simp)
    refine wpAny_pyNext_list_item st p.isList (x := u) (by simpa using hu) fun h' st' sb => ?_
    have I1 : Inv X pins σ H { s with heap := h' } := I.turned (t' := s.toks) (fun b o hb e => (sb.2 b hb).trans e) f0 f1 f3 f4 f5
    obtain ⟨o, e, c, d⟩ := id st'
    exact ⟨u, rfl, go_of (s := { s with heap := h' }) e c d (by decide) ⟨x, H, I1, ru, ⟨rfl, fun ys hy => by rw [I.list_inj hy hq]; exact hx⟩, st', fun b hb => (hf b hb).1⟩⟩
  done := by
    intro X hP hw hK hc i pins s σ H E I hf st hg
    subst hP hw hK
    obtain ⟨xs, hq, hx⟩ := hg
    obtain ⟨its, rv, p, hz⟩ := I.list hq
    obtain ⟨f0, f1, f2, f3, f4, f5⟩ := hf it (by simp)
    have hl := rv.length
    exact wpAny_pyNext_list_end (I.ok.hd hc) st p.isList (by simp; omega) fun h' eb => ⟨rfl, I.turned (t' := s.toks) (fun b o hb e => eb b o hb e) f0 f1 f3 f4 f5⟩
  self := fun _ _ _ _ _ st h => wpAny_pyIter_listiter st h
theorem turn_range {P : Program} {w : World} {K : PySem.W.Frag} {tg : Expr} (it : Addr) (lo : Int) (n : Nat) : Turn P w K tg (Itr lo n) [it] it (fun i h => IsRangeIter h it (lo + (i : Nat) * 1) ((n : Int) - (i : Nat)) 1) where
  mem := by simp
  obj := fun i h st b hb => by
    have e : b = it := by simpa using hb
    subst e
    exact ⟨_, st, fun v z => by
      have z' : Data.fields _ = Data.cell v := z
      cases z'⟩
  keep := fun i h h' st k => k it (by simp) _ st
  item := by
    intro X hP hw hK hc i pins s σ H E I hf st hg
    subst hP hw hK
    obtain ⟨f0, f1, f2, f3, f4, f5⟩ := hf it (by simp)
    have W := Walks.range (prog := X.prog) (w := X.w) (I.ok.hd hc) it lo 1 n
    refine W.item i s _ _ hg st fun v h' tk hv st' kk => ?_
    obtain ⟨t, rfl⟩ := hv
    have I1 : Inv X pins σ H { s with heap := h', toks := tk } := I.turned (fun b o hb e => kk b o (by simpa using hb) e) f0 f1 f3 f4 f5
    refine ⟨_, rfl, go_of (s := { s with heap := h', toks := tk }) (n := "range_iterator") st' rfl rfl (by decide) ⟨.int (lo + i), H, I1, ⟨t, ?_⟩, ⟨rfl, rfl⟩, st', fun b hb => (hf b hb).1⟩⟩
    rw [Int.mul_one]
  done := by
    intro X hP hw hK hc i pins s σ H E I hf st hg
    subst hP hw hK
    obtain ⟨f0, f1, f2, f3, f4, f5⟩ := hf it (by simp)
    exact wpAny_pyNext_range_end (I.ok.hd hc) st (by have : n ≤ i := hg; omega) fun h' eb => ⟨rfl, I.turned (t' := s.toks) (fun b o hb e => eb b o hb e) f0 f1 f3 f4 f5⟩
  self := fun _ _ _ _ _ st h => wpAny_pyIter_rangeiter st h
end L2

namespace L2
open PySem PySem.Spec PyProof.Rows
section
variable {X : Cx} {tg : Expr}
def iList (K : PySem.W.Frag) (tl : TE) : TI := fun σ H R => tl σ H fun x H1 => ∃ a, x = .ref a ∧ (∃ xs, SqL K H1 a xs) ∧ R (Itl K a) H1
def iTup (K : PySem.W.Frag) (tl : TE) : TI := fun σ H R => tl σ H fun x H1 => ∃ a, x = .ref a ∧ (∃ xs, SqT K H1 a xs) ∧ R (Itt K a) H1
theorem pi_list {l : Expr} {tl : TE} (hl : PE X l tl) : PI X tg l (iList X.K tl) := by
  intro pins s σ H R I h
  refine thn (hl pins s σ H _ I h) fun v s1 ⟨x, H1, I1, r1, q1⟩ => ?_
  obtain ⟨a, e, ⟨xs, hq⟩, q⟩ := q1
  subst e
  cases r1
  obtain ⟨its, rv, p, hz⟩ := I1.list hq
  refine wpAny_pyIter_list p.isList ?_
  refine ⟨s1.heap.objs.size, [s1.heap.objs.size], _, _, H1, rfl, I1.kept (t' := s1.toks) fun b o e => Heap.get?_push_of_some _ e, turn_list a _, ⟨_, Heap.get?_push_size _ rfl, rfl, rfl⟩, fun b hb => ?_, q⟩
  have e : b = s1.heap.objs.size := by simpa using hb
  subst e
  exact I1.fpOk (Nat.le_refl _) (I1.hok.fresh (Nat.le_refl _))
/- a range object just made, walked -/
theorem range_it {pins : List (Addr × Obj)} {σ : St} {H : Hp} {s : Shared} {R : It → Hp → Prop} {E : Value → Shared → Prop} {lo hi : Int} {t u v : Tok} {tk : Nat} (I : Inv X pins σ H s) (h1 : -(2 ^ 62) ≤ lo) (h2 : lo < 2 ^ 62) (h3 : -(2 ^ 62) ≤ hi) (h4 : hi < 2 ^ 62)
    (q : R (Itr lo (hi - lo).toNat) H) : wpAny (model X.prog X.w) X.A (pyIter (.ref s.heap.objs.size)) (PIE X pins σ tg R) E { s with heap := s.heap.push { cls := .type "range", data := .fields #[.int lo t, .int hi u, .int 1 v] }, toks := tk } := by
  refine wpAny_pyIter_range (IsRange.new ..) (small_one h1 h2 h3 h4) ?_
  have I1 : Inv X pins σ H { s with heap := s.heap.push { cls := .type "range", data := .fields #[.int lo t, .int hi u, .int 1 v] }, toks := tk } := I.kept fun b o e => Heap.get?_push_of_some _ e
  refine ⟨(s.heap.push { cls := .type "range", data := .fields #[.int lo t, .int hi u, .int 1 v] }).objs.size, [(s.heap.push { cls := .type "range", data := .fields #[.int lo t, .int hi u, .int 1 v] }).objs.size], _, _, H, rfl,
    I1.kept (t' := tk) fun b o e => Heap.get?_push_of_some _ e, turn_range _ lo (hi - lo).toNat, ?_, fun b hb => ?_, q⟩
  · have e1 : lo + ((0 : Nat) : Int) * 1 = lo := by simp
    have e2 : (((hi - lo).toNat : Nat) : Int) - ((0 : Nat) : Int) = Builtin.Range.rangeSize lo hi 1 := by rw [rangeSize_one]; split <;> omega
    show IsRangeIter _ _ (lo + ((0 : Nat) : Int) * 1) ((((hi - lo).toNat : Nat) : Int) - ((0 : Nat) : Int)) 1
    rw [e1, e2]
    exact Heap.get?_push_size _ rfl
  · have e : b = (s.heap.push { cls := .type "range", data := .fields #[.int lo t, .int hi u, .int 1 v] }).objs.size := by simpa using hb
    subst e
    exact I1.fpOk (Nat.le_refl _) (I1.hok.fresh (Nat.le_refl _))
def iRng1 (ta : TA) : TI := fun σ H R => ta σ H fun vs H1 => ∃ j : Int, vs = [.int j] ∧ -(2 ^ 62) ≤ j ∧ j < 2 ^ 62 ∧ R (Itr 0 j.toNat) H1
def iRng2 (ta : TA) : TI := fun σ H R => ta σ H fun vs H1 => ∃ i j : Int, vs = [.int i, .int j] ∧ (-(2 ^ 62) ≤ i ∧ i < 2 ^ 62 ∧ -(2 ^ 62) ≤ j ∧ j < 2 ^ 62) ∧ R (Itr i (j - i).toNat) H1
theorem pi_range1 {a : Expr} {ta : TA} {p pos : Pos} (hg : Gl X "range") (hm : X.mg "range" = none) (ha : PA X [a] ta) (hs : starEach [a] X.env = [(false, eval a X.env)] := by rfl) : PI X tg (.Call (.Name "range" p) [a] [] pos) (iRng1 ta) := by
  intro pins s σ H R I h
  refine Call_ (ld_blt I hg hm boot_range (PyProof.Rows.callWith_type1 (thn (ha pos pins s σ H _ I h) fun us s1 ⟨vs, H1, I1, r1, q1⟩ => ?_) hs rfl))
  obtain ⟨j, e, q1, q2, q⟩ := q1
  subst e
  cases r1 with
  | cons r rr =>
    cases rr
    obtain ⟨t, rfl⟩ := r
    exact call_range_1 (range_it I1 (by omega) (by omega) q1 q2 (by simpa using q))
theorem pi_range2 {a b : Expr} {ta : TA} {p pos : Pos} (hg : Gl X "range") (hm : X.mg "range" = none) (ha : PA X [a, b] ta) (hs : starEach [a, b] X.env = [(false, eval a X.env), (false, eval b X.env)] := by rfl) (hs2 : starEach [b] X.env = [(false, eval b X.env)] := by rfl) :
    PI X tg (.Call (.Name "range" p) [a, b] [] pos) (iRng2 ta) := by
  intro pins s σ H R I h
  refine Call_ (ld_blt I hg hm boot_range (PyProof.Rows.callWith_type1 (thn (ha pos pins s σ H _ I h) fun us s1 ⟨vs, H1, I1, r1, q1⟩ => ?_) (by rw [hs, hs2]) (by rw [hs2]; rfl)))
  obtain ⟨i, j, e, ⟨q1, q2, q3, q4⟩, q⟩ := q1
  subst e
  cases r1 with
  | cons r rr =>
    cases rr with
    | cons r' rr =>
      cases rr
      obtain ⟨t, rfl⟩ := r
      obtain ⟨t', rfl⟩ := r'
      exact call_range_2 (range_it I1 q1 q2 q3 q4 q)

/-! ### for -/
/- W: the invariant by the turn and a measure; N: what the body is to reach -/
def tFor (wi : TI) (g : TG) (tb : TS) : TS := fun D σ H => wi σ H fun J H1 => ∃ W : Nat → Nat → St → Hp → Prop, (∃ m, W 0 m σ H1) ∧ ∀ i m σ H, W i m σ H →
  (J.stop i H ∧ D.nx σ H) ∨ (J.go i H ∧ ∃ N : St → Hp → Prop, (∀ σ' H', N σ' H' → ∃ m', m' < m ∧ W (i + 1) m' σ' H') ∧ ∀ x H', J.yld i H x H' → g x σ H' fun σ2 H2 => tb { D with nx := N, ct := N, bk := D.nx } σ2 H2)
/- the records at fp as they stand -/
def pinsAt (fp : List Addr) (h : Heap) : List (Addr × Obj) := fp.filterMap fun b => (h.get? b).map fun o => (b, o)
theorem mem_pinsAt {fp : List Addr} {h : Heap} {b : Addr} {o : Obj} (hb : b ∈ fp) (e : h.get? b = some o) : (b, o) ∈ pinsAt fp h := List.mem_filterMap.mpr ⟨b, hb, by rw [e]; rfl⟩
theorem of_pinsAt {fp : List Addr} {h : Heap} {p : Addr × Obj} (hp : p ∈ pinsAt fp h) : p.1 ∈ fp ∧ h.get? p.1 = some p.2 := by
  obtain ⟨b, hb, e⟩ := List.mem_filterMap.mp hp
  cases q : h.get? b with
  | none => rw [q] at e; cases e
  | some o =>
    rw [q] at e
    have e' : (b, o) = p := Option.some.inj e
    subst e'
    exact ⟨hb, q⟩
theorem Inv.pinned {pins : List (Addr × Obj)} {σ : St} {H : Hp} {s : Shared} {fp : List Addr} (I : Inv X pins σ H s) (hf : ∀ b ∈ fp, FpOk X pins H b) (ho : ∀ b ∈ fp, ∃ o, s.heap.get? b = some o ∧ ∀ v, o.data ≠ .cell v) : Inv X (pins ++ pinsAt fp s.heap) σ H s :=
  I.pins_of fun p hp => (List.mem_append.mp hp).elim (fun z => I.pin p (List.mem_append_right _ z)) fun z => by
    obtain ⟨hb, e⟩ := of_pinsAt z
    obtain ⟨f0, f1, f2, _⟩ := hf p.1 hb
    obtain ⟨o, e', d⟩ := ho p.1 hb
    rw [e] at e'; cases e'
    exact ⟨e, f0, f1, f2, d⟩
theorem Inv.unpinned {pins pl : List (Addr × Obj)} {σ : St} {H : Hp} {s : Shared} (I : Inv X (pins ++ pl) σ H s) : Inv X pins σ H s := I.pins_of fun p hp => I.pin p (List.mem_append_right _ (List.mem_append_left _ hp))
theorem ps_for {iter : Expr} {body : List Stmt} {wi : TI} {g : TG} {tb : TS} {pos : Pos} (hp : PassesOwn (model X.prog X.w) X.A X.env X.xe) (hc : X.calm = true) (hi : PI X tg iter wi) (hg : PG X tg g) (hb : PSs X body tb)
    (hs : ∀ x, foldedSetIterable iter X.env x = pure x := by intro _; rfl) : PS X (.For tg iter body [] pos) (tFor wi g tb) := by
  intro pins s σ H D I h
  refine wpAny_For (thn (hi pins s σ H _ I h) fun v s1 h1 => thn h1 fun itv s2 h2 => ?_) hs
  obtain ⟨it, fp, tn, J, H2, e, I2, T, st2, f2, W, ⟨m0, w0⟩, turn⟩ := h2
  subst e
  -- what stays true of the iterator's objects through the loop
  have stat : ∀ {H' : Hp}, (∀ b ∈ fp, H' b = none) → ∀ b ∈ fp, FpOk X pins H' b := fun hn b hb => ⟨hn b hb, (f2 b hb).2⟩
  refine codeAny_forLoop_any (fun n s' => ∃ i σ' H', Inv X pins σ' H' s' ∧ tn i s'.heap ∧ (∀ b ∈ fp, H' b = none) ∧ W i n σ' H') ?_ m0 ⟨0, σ, H2, I2, st2, fun b hb => (f2 b hb).1, w0⟩
  rintro n s3 ⟨i, σ3, H3, I3, st3, fr3, w3⟩
  rcases turn i n σ3 H3 w3 with ⟨stop, qn⟩ | ⟨go, N, hN, step⟩
  · refine wpAny_passesOwn hp (thn (T.done X rfl rfl rfl hc i pins s3 σ3 H3 X.xe I3 (stat fr3) st3 stop) fun r s4 ⟨hr, I4⟩ => ?_)
    subst hr
    exact wpAny_execs_nil ⟨σ3, H3, I4, qn⟩
  · refine wpAny_passesOwn hp (thn (T.item X rfl rfl rfl hc i pins s3 σ3 H3 X.xe I3 (stat fr3) st3 go) fun r s4 ⟨u, hr, h4⟩ => ?_)
    subst hr
    refine wpAny_passesOwn hp (thn h4 fun _ s5 ⟨x, H5, I5, r5, y5, st5, fr5⟩ => ?_)
    have I5' := I5.pinned (stat fr5) (T.obj _ _ st5)
    refine wpAny_passesOwn hp (thn (hg _ s5 σ3 H5 x u _ I5' r5 (step x H5 y5)) fun _ s6 ⟨σ6, H6, I6, q6⟩ => ?_)
    refine wpAny_passesOwn hp (thn (hb _ s6 σ6 H6 _ I6 q6) fun f s7 q7 => ?_)
    have again : ∀ {σ7 : St} {H7 : Hp}, Inv X (pins ++ pinsAt fp s5.heap) σ7 H7 s7 → N σ7 H7 → ∃ m, m < n ∧ ∃ i σ' H', Inv X pins σ' H' s7 ∧ tn i s7.heap ∧ (∀ b ∈ fp, H' b = none) ∧ W i m σ' H' := fun {σ7 H7} I7 n7 => by
      obtain ⟨m', hm, w7⟩ := hN σ7 H7 n7
      refine ⟨m', hm, i + 1, σ7, H7, I7.unpinned, T.keep _ _ _ st5 fun b hb o e => (I7.pin (b, o) (List.mem_append_right _ (List.mem_append_right _ (mem_pinsAt hb e)))).1, fun b hb => ?_, w7⟩
      obtain ⟨o, e, d⟩ := T.obj _ _ st5 b hb
      exact (I7.pin (b, o) (List.mem_append_right _ (List.mem_append_right _ (mem_pinsAt hb e)))).2.1
    cases f with
    | next => obtain ⟨σ7, H7, I7, n7⟩ := q7; exact again I7 n7
    | cont => obtain ⟨σ7, H7, I7, n7⟩ := q7; exact again I7 n7
    | brk => obtain ⟨σ7, H7, I7, q7⟩ := q7; exact ⟨σ7, H7, I7.unpinned, q7⟩
    | ret v => obtain ⟨x7, σ7, H7, I7, r7, q7⟩ := q7; exact ⟨x7, σ7, H7, I7.unpinned, r7, q7⟩
end

/-! ### the forms one uses -/
/- over a list that the body leaves as it is -/
theorem for_list {K : PySem.W.Frag} {a : Addr} {xs : List V} {g : TG} {tb : TS} {D : Ends} {σ : St} {H : Hp} (Pv : Nat → St → Hp → Prop) (h0 : Pv 0 σ H) (hl : ∀ i σ H, i ≤ xs.length → Pv i σ H → SqL K H a xs)
    (hs : ∀ i x σ H, xs[i]? = some x → Pv i σ H → g x σ H fun σ2 H2 => tb { D with nx := Pv (i + 1), ct := Pv (i + 1), bk := D.nx } σ2 H2) (hd : ∀ σ H, Pv xs.length σ H → D.nx σ H) :
    ∃ W : Nat → Nat → St → Hp → Prop, (∃ m, W 0 m σ H) ∧ ∀ i m σ H, W i m σ H →
      ((Itl K a).stop i H ∧ D.nx σ H) ∨ ((Itl K a).go i H ∧ ∃ N : St → Hp → Prop, (∀ σ' H', N σ' H' → ∃ m', m' < m ∧ W (i + 1) m' σ' H') ∧ ∀ x H', (Itl K a).yld i H x H' → g x σ H' fun σ2 H2 => tb { D with nx := N, ct := N, bk := D.nx } σ2 H2) := by
  refine ⟨fun i m σ H => m = xs.length - i ∧ i ≤ xs.length ∧ Pv i σ H, ⟨xs.length, by simp, Nat.zero_le _, h0⟩, ?_⟩
  rintro i m σ H ⟨rfl, hi, p⟩
  have q := hl i σ H hi p
  by_cases hlt : i < xs.length
  · refine .inr ⟨⟨xs, xs[i], q, by simp [hlt]⟩, Pv (i + 1), fun σ' H' p' => ⟨xs.length - (i + 1), by omega, rfl, hlt, p'⟩, fun x H' y => ?_⟩
    obtain ⟨e, y⟩ := y
    subst e
    exact hs i x σ _ (y xs q) p
  · have e : i = xs.length := by omega
    subst e
    exact .inl ⟨⟨xs, q, Nat.le_refl _⟩, hd σ H p⟩
theorem for_range {lo : Int} {n : Nat} {g : TG} {tb : TS} {D : Ends} {σ : St} {H : Hp} (Pv : Nat → St → Hp → Prop) (h0 : Pv 0 σ H)
    (hs : ∀ i σ H, i < n → Pv i σ H → g (.int (lo + i)) σ H fun σ2 H2 => tb { D with nx := Pv (i + 1), ct := Pv (i + 1), bk := D.nx } σ2 H2) (hd : ∀ σ H, Pv n σ H → D.nx σ H) :
    ∃ W : Nat → Nat → St → Hp → Prop, (∃ m, W 0 m σ H) ∧ ∀ i m σ H, W i m σ H →
      ((Itr lo n).stop i H ∧ D.nx σ H) ∨ ((Itr lo n).go i H ∧ ∃ N : St → Hp → Prop, (∀ σ' H', N σ' H' → ∃ m', m' < m ∧ W (i + 1) m' σ' H') ∧ ∀ x H', (Itr lo n).yld i H x H' → g x σ H' fun σ2 H2 => tb { D with nx := N, ct := N, bk := D.nx } σ2 H2) := by
  refine ⟨fun i m σ H => m = n - i ∧ i ≤ n ∧ Pv i σ H, ⟨n, by simp, Nat.zero_le _, h0⟩, ?_⟩
  rintro i m σ H ⟨rfl, hi, p⟩
  by_cases hlt : i < n
  · refine .inr ⟨hlt, Pv (i + 1), fun σ' H' p' => ⟨n - (i + 1), by omega, rfl, hlt, p'⟩, fun x H' y => ?_⟩
    obtain ⟨e, y⟩ := y
    subst e y
    exact hs i σ _ hlt p
  · have e : i = n := by omega
    subst e
    exact .inl ⟨Nat.le_refl _, hd σ H p⟩
/- while, by a word and a measure of the state -/
end L2

namespace L2
open PySem PySem.Spec PyProof.Rows

abbrev R2 := V → V → Hp → VK → Prop
/- a two-place operation on values: f is binaryOp op, inplaceOp op or compareOp op -/
def OpR (X : Cx) (f : Value → Value → Sem Value) (r : R2) : Prop :=
  ∀ (pins : List (Addr × Obj)) (s : Shared) (σ : St) (H : Hp) (x y : V) (v u : Value) (Q : VK), Inv X pins σ H s → RelV x v → RelV y u → r x y H Q →
    wpAny (model X.prog X.w) X.A (f v u) (EP X pins σ Q) X.xe s
/- a one-place operation -/
def UnR (X : Cx) (f : Value → Sem Value) (r : V → Hp → VK → Prop) : Prop :=
  ∀ (pins : List (Addr × Obj)) (s : Shared) (σ : St) (H : Hp) (x : V) (v : Value) (Q : VK), Inv X pins σ H s → RelV x v → r x H Q →
    wpAny (model X.prog X.w) X.A (f v) (EP X pins σ Q) X.xe s
/- a call of a value that is known (a builtin, a type) with values -/
def CallR (X : Cx) (f : Value) (r : List V → Hp → VK → Prop) : Prop :=
  ∀ (pins : List (Addr × Obj)) (s : Shared) (σ : St) (H : Hp) (xs : List V) (us : List Value) (Q : VK), Inv X pins σ H s → Vals xs us → r xs H Q →
    wpAny (model X.prog X.w) X.A (call f us) (EP X pins σ Q) X.xe s
/- a value's truth -/
def TruR (X : Cx) (r : V → Hp → (Bool → Hp → Prop) → Prop) : Prop :=
  ∀ (pins : List (Addr × Obj)) (s : Shared) (σ : St) (H : Hp) (x : V) (v : Value) (Q : Bool → Hp → Prop), Inv X pins σ H s → RelV x v → r x H Q →
    wpAny (model X.prog X.w) X.A (truthy v) (TP X pins σ Q) X.xe s

def tOp (r : R2) (ta tb : TE) : TE := fun σ H Q => ta σ H fun x H1 => tb σ H1 fun y H2 => r x y H2 Q
def tUn (r : V → Hp → VK → Prop) (ta : TE) : TE := fun σ H Q => ta σ H fun x H1 => r x H1 Q
/- ints in, under C, and a value out -/
def rI (C : Int → Int → Prop) (g : Int → Int → V) : R2 := fun x y H Q => ∃ i j, x = .int i ∧ y = .int j ∧ C i j ∧ Q (g i j) H
def rI0 (g : Int → Int → V) : R2 := fun x y H Q => ∃ i j, x = .int i ∧ y = .int j ∧ Q (g i j) H
def rU (g : Int → V) : V → Hp → VK → Prop := fun x H Q => ∃ i, x = .int i ∧ Q (g i) H

section
variable {X : Cx} {a b c : Expr} {ta tb tc : TE} {pos : Pos}

theorem binT (ha : PE X a ta) (hb : PE X b tb) {pins : List (Addr × Obj)} {s : Shared} {σ : St} {H : Hp} {R : V → V → Hp → Prop} (I : Inv X pins σ H s)
    (h : ta σ H fun x H1 => tb σ H1 fun y H2 => R x y H2) {Q : Value → Shared → Prop} {f : Value → Value → Sem Value}
    (hf : ∀ v u s2 x y H2, Inv X pins σ H2 s2 → RelV x v → RelV y u → R x y H2 → wpAny (model X.prog X.w) X.A (f v u) Q X.xe s2) :
    wpAny (model X.prog X.w) X.A (eval a X.env) (fun v s₁ => wpAny (model X.prog X.w) X.A (eval b X.env) (fun u s₂ => wpAny (model X.prog X.w) X.A (f v u) Q X.xe s₂) X.xe s₁) X.xe s := by
  refine thn (ha pins s σ H _ I h) fun v s1 ⟨x, H1, I1, r1, q1⟩ => ?_
  refine thn (hb pins s1 σ H1 _ I1 q1) fun u s2 ⟨y, H2, I2, r2, q2⟩ => ?_
  exact hf v u s2 x y H2 I2 r1 r2 q2

theorem pe_op {op : Operator} {r : R2} (ho : OpR X (binaryOp op) r) (ha : PE X a ta) (hb : PE X b tb) : PE X (.BinOp a op b pos) (tOp r ta tb) := by
  intro pins s σ H Q I h
  exact wpAny_BinOp (binT ha hb I h fun v u s2 x y H2 I2 rx ry q => ho pins s2 σ H2 x y v u Q I2 rx ry q)
theorem pe_un {op : UnaryOp} {r : V → Hp → VK → Prop} (ho : UnR X (unaryOp op) r) (ha : PE X a ta) : PE X (.UnaryOp op a pos) (tUn r ta) := by
  intro pins s σ H Q I h
  exact UnaryOp_ (thn (ha pins s σ H _ I h) fun v s1 ⟨x, H1, I1, r1, q1⟩ => ho pins s1 σ H1 x v Q I1 r1 q1)
/- a op= e at a name: the name's slot i -/
theorem opI {f : Value → Value → Sem Value} {C : Int → Int → Prop} {g : Int → Int → Int}
    (rule : ∀ (i j : Int) (t u : Tok) (s : Shared) (Q : Value → Shared → Prop) (E : Value → Shared → Prop), C i j → Q (.int (g i j) s.toks) { s with toks := s.toks + 1 } → wpAny (model X.prog X.w) X.A (f (.int i t) (.int j u)) Q E s) :
    OpR X f (rI C fun i j => .int (g i j)) := by
  intro pins s σ H x y v u Q I rx ry h
  obtain ⟨i, j, rfl, rfl, hc, q⟩ := h
  obtain ⟨t, rfl⟩ := rx
  obtain ⟨t', rfl⟩ := ry
  exact rule i j t t' s _ _ hc ⟨.int (g i j), H, I.tok _, ⟨_, rfl⟩, q⟩
theorem opI0 {f : Value → Value → Sem Value} {g : Int → Int → Int}
    (rule : ∀ (i j : Int) (t u : Tok) (s : Shared) (Q : Value → Shared → Prop) (E : Value → Shared → Prop), Q (.int (g i j) s.toks) { s with toks := s.toks + 1 } → wpAny (model X.prog X.w) X.A (f (.int i t) (.int j u)) Q E s) :
    OpR X f (rI0 fun i j => .int (g i j)) := by
  intro pins s σ H x y v u Q I rx ry h
  obtain ⟨i, j, rfl, rfl, q⟩ := h
  obtain ⟨t, rfl⟩ := rx
  obtain ⟨t', rfl⟩ := ry
  exact rule i j t t' s _ _ ⟨.int (g i j), H, I.tok _, ⟨_, rfl⟩, q⟩
theorem opB0 {f : Value → Value → Sem Value} {g : Int → Int → Bool}
    (rule : ∀ (i j : Int) (t u : Tok) (s : Shared) (Q : Value → Shared → Prop) (E : Value → Shared → Prop), Q (.bool (g i j)) s → wpAny (model X.prog X.w) X.A (f (.int i t) (.int j u)) Q E s) :
    OpR X f (rI0 fun i j => .bl (g i j)) := by
  intro pins s σ H x y v u Q I rx ry h
  obtain ⟨i, j, rfl, rfl, q⟩ := h
  obtain ⟨t, rfl⟩ := rx
  obtain ⟨t', rfl⟩ := ry
  exact rule i j t t' s _ _ ⟨.bl (g i j), H, I, rfl, q⟩

def CDiv (i j : Int) : Prop := 0 < j ∧ j < 1073741824
def CDivN (i j : Int) : Prop := j ≠ 0 ∧ j.natAbs < 1073741824
def CPow (i j : Int) : Prop := 0 ≤ j ∧ j ≤ 1000000 ∧ i.natAbs < 2 ^ 64
def CMul (i j : Int) : Prop := (-(2 ^ 64) < i ∧ i < 2 ^ 64) ∨ (-(2 ^ 64) < j ∧ j < 2 ^ 64)
theorem CMul.ok {i j : Int} (h : CMul i j) : IntMulOk i j := by
  rcases h with ⟨h1, h2⟩ | ⟨h1, h2⟩
  · exact .of_left (intBits_le_64 h1 h2)
  · exact .of_right (intBits_le_64 h1 h2)
theorem two_pow_nn (k : Nat) : (0 : Int) ≤ 2 ^ k := by
  rw [two_pow_cast]
  exact Int.natCast_nonneg _

theorem op_add : OpR X (binaryOp .Add) (rI0 fun i j => .int (i + j)) := opI0 fun _ _ _ _ _ _ _ q => add_int q
theorem op_sub : OpR X (binaryOp .Sub) (rI0 fun i j => .int (i - j)) := opI0 fun _ _ _ _ _ _ _ q => sub_int q
theorem op_mul : OpR X (binaryOp .Mult) (rI CMul fun i j => .int (i * j)) := opI fun _ _ _ _ _ _ _ hc q => mul_int q hc.ok
/- // by a positive divisor -/
theorem op_fdiv : OpR X (binaryOp .FloorDiv) (rI CDiv fun i j => .int (i / j)) := opI fun i j _ _ _ _ _ hc q => by
  have h1 : (0 : Int) < j := hc.1
  have h2 : j < 1073741824 := hc.2
  exact floordiv_int (by omega) (by rw [Int.fdiv_eq_ediv_of_nonneg i (by omega)]; exact q) (.inl (PyProof.noPylong_small (by omega)))
/- % by a positive divisor of any size -/
theorem op_mod : OpR X (binaryOp .Mod) (rI (fun _ j => 0 < j) fun i j => .int (i % j)) := opI fun i j _ _ _ _ _ hc q => by
  have h1 : (0 : Int) < j := hc
  exact mod_int' (by omega) (by rw [Int.fmod_eq_emod_of_nonneg i (by omega)]; exact q)
theorem op_pow : OpR X (binaryOp .Pow) (rI CPow fun i j => .int (i ^ j.toNat)) := opI fun _ _ _ _ _ _ _ hc q => pow_int_small hc.1 hc.2.1 hc.2.2 q
theorem op_shr : OpR X (binaryOp .RShift) (rI (fun _ j => 0 ≤ j) fun i j => .int (i / 2 ^ j.toNat)) := opI fun i j _ _ _ _ _ hc q =>
  rshift_int hc (by rw [Int.fdiv_eq_ediv_of_nonneg i (two_pow_nn _)]; exact q)
theorem op_and : OpR X (binaryOp .BitAnd) (rI0 fun i j => .int (Builtin.bitAnd i j)) := opI0 fun _ _ _ _ _ _ _ q => and_int q
theorem unI {f : Value → Sem Value} {g : Int → Int}
    (rule : ∀ (i : Int) (t : Tok) (s : Shared) (Q : Value → Shared → Prop) (E : Value → Shared → Prop), Q (.int (g i) s.toks) { s with toks := s.toks + 1 } → wpAny (model X.prog X.w) X.A (f (.int i t)) Q E s) :
    UnR X f (rU fun i => .int (g i)) := by
  intro pins s σ H x v Q I rx h
  obtain ⟨i, rfl, q⟩ := h
  obtain ⟨t, rfl⟩ := rx
  exact rule i t s _ _ ⟨.int (g i), H, I.tok _, ⟨_, rfl⟩, q⟩
theorem un_neg : UnR X (unaryOp .USub) (rU fun i => .int (-i)) := unI fun _ _ _ _ _ q => neg_int q
end

/-! ### comparisons -/
/- the scalars that == tells apart as data does -/
def scal : V → V → Bool
  | .non, .non => true | .non, .int _ => true | .int _, .non => true | .non, .bl _ => true | .bl _, .non => true | .non, .str _ => true | .str _, .non => true
  | .int _, .int _ => true | .bl _, .bl _ => true | .str _, .str _ => true | .byt _, .byt _ => true
  | .int _, .str _ => true | .str _, .int _ => true | .bl _, .str _ => true | .str _, .bl _ => true
  | _, _ => false
def rEq : R2 := fun x y H Q => scal x y = true ∧ Q (.bl (decide (x = y))) H
def rNe : R2 := fun x y H Q => scal x y = true ∧ Q (.bl (!decide (x = y))) H

theorem dec_int {i j : Int} : decide (V.int i = V.int j) = (i == j) := by
  rw [Bool.eq_iff_iff]
  simp
theorem dec_bl {i j : Bool} : decide (V.bl i = V.bl j) = (i == j) := by
  rw [Bool.eq_iff_iff]
  simp
theorem dec_str {i j : Str} : decide (V.str i = V.str j) = (i == j) := by
  rw [Bool.eq_iff_iff]
  simp
theorem dec_byt {i j : Array UInt8} : decide (V.byt i = V.byt j) = (i.toList == j.toList) := by
  rw [Bool.eq_iff_iff]
  cases i
  cases j
  simp

section
variable {X : Cx} {a b c : Expr} {ta tb tc : TE} {pos : Pos}
theorem fin_bl {pins : List (Addr × Obj)} {σ : St} {H : Hp} {s : Shared} {Q : VK} {k k' : Bool} (I : Inv X pins σ H s) (q : Q (.bl k) H) (e : k = k') : EP X pins σ Q (.bool k') s := by
  subst e
  exact ⟨.bl k, H, I, rfl, q⟩
theorem op_eq : OpR X (compareOp .Eq) rEq := by
  intro pins s σ H x y v u Q I rx ry h
  obtain ⟨hs, q⟩ := h
  cases x with
  | non =>
    cases rx
    cases y with
    | non => cases ry; exact PySem.EqNone.eq_none_none (fin_bl I q (by simp))
    | bl j => cases ry; exact PySem.EqNone.eq_none_bool (fin_bl I q (by simp))
    | int j => obtain ⟨t', rfl⟩ := ry; exact PySem.EqNone.eq_none_int (fin_bl I q (by simp))
    | str j => obtain ⟨t', rfl⟩ := ry; exact PySem.EqNone.eq_none_str (fin_bl I q (by simp))
    | _ => exact absurd (show false = true from hs) Bool.false_ne_true
  | bl i =>
    cases rx
    cases y with
    | non => cases ry; exact PySem.EqNone.eq_bool_none (fin_bl I q (by simp))
    | bl j => cases ry; exact eq_bool (fin_bl I q dec_bl)
    | str j => obtain ⟨t', rfl⟩ := ry; exact PySem.EqMixed.eq_bool_str (fin_bl I q (by simp))
    | _ => exact absurd (show false = true from hs) Bool.false_ne_true
  | int i =>
    obtain ⟨t, rfl⟩ := rx
    cases y with
    | non => cases ry; exact PySem.EqNone.eq_int_none (fin_bl I q (by simp))
    | int j => obtain ⟨t', rfl⟩ := ry; exact eq_int (fin_bl I q dec_int)
    | str j => obtain ⟨t', rfl⟩ := ry; exact PySem.EqMixed.eq_int_str (fin_bl I q (by simp))
    | _ => exact absurd (show false = true from hs) Bool.false_ne_true
  | str i =>
    obtain ⟨t, rfl⟩ := rx
    cases y with
    | non => cases ry; exact PySem.EqNone.eq_str_none (fin_bl I q (by simp))
    | bl j => cases ry; exact PySem.EqMixed.eq_str_bool (fin_bl I q (by simp))
    | int j => obtain ⟨t', rfl⟩ := ry; exact PySem.EqMixed.eq_str_int (fin_bl I q (by simp))
    | str j => obtain ⟨t', rfl⟩ := ry; exact eq_str (fin_bl I q dec_str)
    | _ => exact absurd (show false = true from hs) Bool.false_ne_true
  | byt i =>
    obtain ⟨t, rfl⟩ := rx
    cases y with
    | byt j => obtain ⟨t', rfl⟩ := ry; exact PySem.W.eq_bytes (fin_bl I q dec_byt)
    | _ => exact absurd (show false = true from hs) Bool.false_ne_true
  | _ => cases y <;> exact absurd (show false = true from hs) Bool.false_ne_true
theorem op_ne : OpR X (compareOp .NotEq) rNe := by
  intro pins s σ H x y v u Q I rx ry h
  obtain ⟨hs, q⟩ := h
  cases x with
  | non =>
    cases rx
    cases y with
    | non => cases ry; exact PySem.EqNone.ne_none_none (fin_bl I q (by simp))
    | bl j => cases ry; exact PySem.EqNone.ne_none_bool (fin_bl I q (by simp))
    | int j => obtain ⟨t', rfl⟩ := ry; exact PySem.EqNone.ne_none_int (fin_bl I q (by simp))
    | str j => obtain ⟨t', rfl⟩ := ry; exact PySem.EqNone.ne_none_str (fin_bl I q (by simp))
    | _ => exact absurd (show false = true from hs) Bool.false_ne_true
  | bl i =>
    cases rx
    cases y with
    | non => cases ry; exact PySem.EqNone.ne_bool_none (fin_bl I q (by simp))
    | bl j => cases ry; exact ne_bool (fin_bl I q (congrArg not dec_bl))
    | str j => obtain ⟨t', rfl⟩ := ry; exact PySem.EqMixed.ne_bool_str (fin_bl I q (by simp))
    | _ => exact absurd (show false = true from hs) Bool.false_ne_true
  | int i =>
    obtain ⟨t, rfl⟩ := rx
    cases y with
    | non => cases ry; exact PySem.EqNone.ne_int_none (fin_bl I q (by simp))
    | int j => obtain ⟨t', rfl⟩ := ry; exact ne_int (fin_bl I q (congrArg not dec_int))
    | str j => obtain ⟨t', rfl⟩ := ry; exact PySem.EqMixed.ne_int_str (fin_bl I q (by simp))
    | _ => exact absurd (show false = true from hs) Bool.false_ne_true
  | str i =>
    obtain ⟨t, rfl⟩ := rx
    cases y with
    | non => cases ry; exact PySem.EqNone.ne_str_none (fin_bl I q (by simp))
    | bl j => cases ry; exact PySem.EqMixed.ne_str_bool (fin_bl I q (by simp))
    | int j => obtain ⟨t', rfl⟩ := ry; exact PySem.EqMixed.ne_str_int (fin_bl I q (by simp))
    | str j => obtain ⟨t', rfl⟩ := ry; exact ne_str (fin_bl I q (congrArg not dec_str))
    | _ => exact absurd (show false = true from hs) Bool.false_ne_true
  | byt i =>
    obtain ⟨t, rfl⟩ := rx
    cases y with
    | byt j => obtain ⟨t', rfl⟩ := ry; exact PySem.W.ne_bytes (fin_bl I q (congrArg not dec_byt))
    | _ => exact absurd (show false = true from hs) Bool.false_ne_true
  | _ => cases y <;> exact absurd (show false = true from hs) Bool.false_ne_true

theorem op_lt : OpR X (compareOp .Lt) (rI0 fun i j => .bl (decide (i < j))) := opB0 fun _ _ _ _ _ _ _ q => lt_int q
theorem op_le : OpR X (compareOp .LtE) (rI0 fun i j => .bl (decide (i ≤ j))) := opB0 fun _ _ _ _ _ _ _ q => le_int q
theorem op_gt : OpR X (compareOp .Gt) (rI0 fun i j => .bl (decide (j < i))) := opB0 fun _ _ _ _ _ _ _ q => gt_int q
theorem op_ge : OpR X (compareOp .GtE) (rI0 fun i j => .bl (decide (j ≤ i))) := opB0 fun _ _ _ _ _ _ _ q => ge_int q
/- the one string within the other -/
/- is None, is not None: the right side a value none -/
/- is, is not of two objects that are tracked lists or instances -/
def isObj : HO → Bool
  | .lst _ => true
  | .ins _ _ _ => true
  | _ => false
/- two rules for one operation: by cases -/
theorem OpR.or {f : Value → Value → Sem Value} {r r' : R2} (h : OpR X f r) (h' : OpR X f r') : OpR X f (fun x y H Q => r x y H Q ∨ r' x y H Q) := by
  intro pins s σ H x y v u Q I rx ry q
  rcases q with q | q
  · exact h pins s σ H x y v u Q I rx ry q
  · exact h' pins s σ H x y v u Q I rx ry q

theorem nomark (b : Expr) {op : CmpOp} (h : op ≠ .In := by decide) (h2 : op ≠ .NotIn := by decide) : behindInMarks op b = false := by
  have e1 : (op == CmpOp.In) = false := by cases op <;> first | rfl | exact absurd rfl h
  have e2 : (op == CmpOp.NotIn) = false := by cases op <;> first | rfl | exact absurd rfl h2
  cases b <;> simp [behindInMarks, e1, e2]
/- a comparison as a value; hm: nomark b, or (for in, not in) by with_unfolding_all rfl -/
theorem pe_cmpR {op : CmpOp} {r : R2} (ho : OpR X (compareOp op) r) (ha : PE X a ta) (hb : PE X b tb) (hm : behindInMarks op b = false) : PE X (.Compare a [op] [b] pos) (tOp r ta tb) := by
  intro pins s σ H Q I h
  exact wpAny_Compare1 (binT ha hb I h fun v u s2 x y H2 I2 rx ry q => ho pins s2 σ H2 x y v u Q I2 rx ry q) hm
/- a reading of a value as a test -/
def tTest (t : TE) : TT := fun σ H Q => t σ H fun x H' => ∃ k, x = .bl k ∧ Q k H'
theorem pt_cmpR {op : CmpOp} {r : R2} (ho : OpR X (compareOp op) r) (ha : PE X a ta) (hb : PE X b tb) (hm : behindInMarks op b = false) : PT X (.Compare a [op] [b] pos) (tTest (tOp r ta tb)) := by
  intro pins s σ H Q I h
  refine wpAny_isTrue_Compare1 (thn (ha pins s σ H _ I h) fun v s1 ⟨x, H1, I1, r1, q1⟩ => thn (hb pins s1 σ H1 _ I1 q1) fun u s2 ⟨y, H2, I2, r2, q2⟩ =>
    thn (ho pins s2 σ H2 x y v u _ I2 r1 r2 q2) fun c s3 ⟨z, H3, I3, r3, k, e, q3⟩ => ?_) hm
  subst e
  cases r3
  exact wpAny_truthy_bool ⟨H3, I3, q3⟩
/- a op1 b op2 c -/
def tChain (r r' : R2) (ta tb tc : TE) : TE := fun σ H Q => ta σ H fun x H1 => tb σ H1 fun y H2 => r x y H2 fun z H3 => ∃ k, z = .bl k ∧
  (if k = true then tc σ H3 fun w' H4 => r' y w' H4 Q else Q (.bl false) H3)
theorem pe_chain {op op' : CmpOp} {r r' : R2} (ho : OpR X (compareOp op) r) (ho' : OpR X (compareOp op') r') (ha : PE X a ta) (hb : PE X b tb) (hc : PE X c tc)
    (hm : lastMarks [op, op'] [b, c] = false := by with_unfolding_all rfl) : PE X (.Compare a [op, op'] [b, c] pos) (tChain r r' ta tb tc) := by
  intro pins s σ H Q I h
  refine Compare_chain (thn (ha pins s σ H _ I h) fun v s1 ⟨x, H1, I1, r1, q1⟩ => chain_link (thn (hb pins s1 σ H1 _ I1 q1) fun u s2 ⟨y, H2, I2, r2, q2⟩ =>
    thn (ho pins s2 σ H2 x y v u _ I2 r1 r2 q2) fun d s3 ⟨z, H3, I3, r3, k, e, q3⟩ => ?_)) hm
  subst e
  cases r3
  refine wpAny_truthy_bool ?_
  cases k with
  | false => exact ite_ff ⟨.bl false, H3, I3, rfl, q3⟩
  | true => exact ite_tt (chain_last (thn (hc pins s3 σ H3 _ I3 q3) fun w' s4 ⟨z', H4, I4, r4, q4⟩ => ho' pins s4 σ H4 y z' u w' Q I4 r2 r4 q4))
theorem pt_chain {op op' : CmpOp} {r r' : R2} (ho : OpR X (compareOp op) r) (ho' : OpR X (compareOp op') r') (ha : PE X a ta) (hb : PE X b tb) (hc : PE X c tc)
    (hm : lastMarks [op, op'] [b, c] = false := by with_unfolding_all rfl) : PT X (.Compare a [op, op'] [b, c] pos) (tTest (tChain r r' ta tb tc)) := by
  intro pins s σ H Q I h
  refine isTrue_chain (thn (ha pins s σ H _ I h) fun v s1 ⟨x, H1, I1, r1, q1⟩ => test_link (thn (hb pins s1 σ H1 _ I1 q1) fun u s2 ⟨y, H2, I2, r2, q2⟩ =>
    thn (ho pins s2 σ H2 x y v u _ I2 r1 r2 q2) fun d s3 ⟨z, H3, I3, r3, k, e, q3⟩ => ?_)) hm
  subst e
  cases r3
  refine wpAny_truthy_bool ?_
  cases k with
  | false =>
    obtain ⟨k', e', q'⟩ := q3
    cases e'
    exact ite_ff ⟨H3, I3, q'⟩
  | true =>
    refine ite_tt (test_last (thn (hc pins s3 σ H3 _ I3 q3) fun w' s4 ⟨z', H4, I4, r4, q4⟩ => thn (ho' pins s4 σ H4 y z' u w' _ I4 r2 r4 q4) fun d' s5 ⟨z2, H5, I5, r5, k2, e2, q5⟩ => ?_))
    subst e2
    cases r5
    exact wpAny_truthy_bool ⟨H5, I5, q5⟩

/-! ### truth -/
/- a value's truth by the abstract heap -/
def TruV (K : PySem.W.Frag) (x : V) (H : Hp) (k : Bool) : Prop :=
  match x with
  | .non => k = false
  | .bl b => k = b
  | .int i => k = (i != 0)
  | .str y => y.length ≤ sizeLine ∧ k = ((y.length : Int) != 0)
  | .byt y => y.size ≤ sizeLine ∧ k = ((y.size : Int) != 0)
  | .ref p => (∃ xs, SqL K H p xs ∧ k = !xs.isEmpty) ∨ (∃ xs, SqT K H p xs ∧ k = !xs.isEmpty) ∨ ∃ kvs, H p = some (.dK kvs) ∧ k = !kvs.isEmpty
  | _ => False
theorem line63 : (sizeLine : Nat) < 2 ^ 63 := by rw [sizeLine_eq]; decide
/- any expression whose test is its value's truth (a name, a call, a subscript, a field ..: he by fun _ => rfl) -/
def PlainIxT (b : Expr) : Prop := ∀ o i, subscripted b false o i = operate [o, i] (getItem o i)
/- s[i], 0 ≤ i < len -/
/- b[i], 0 ≤ i < len -/
theorem vals1 {x : V} {us : List Value} (r : Vals [x] us) : ∃ u, us = [u] ∧ RelV x u := by
  cases r with
  | cons r1 r2 => cases r2; exact ⟨_, rfl, r1⟩
theorem vals2 {x y : V} {us : List Value} (r : Vals [x, y] us) : ∃ u w', us = [u, w'] ∧ RelV x u ∧ RelV y w' := by
  cases r with
  | cons r1 r2 =>
    cases r2 with
    | cons r3 r4 => cases r4; exact ⟨_, _, rfl, r1, r3⟩
theorem call_min2 (hc : X.calm = true) : CallR X (.builtin "min") (fun xs H Q => ∃ i j, xs = [.int i, .int j] ∧ Q (.int (if j < i then j else i)) H) := by
  intro pins s σ H xs us Q I r h
  obtain ⟨i, j, rfl, q⟩ := h
  obtain ⟨u, w', rfl, ⟨t, rfl⟩, ⟨t', rfl⟩⟩ := vals2 r
  refine min_two_ints (I.ok.hd hc) fun h' tk k => ⟨_, H, I.kept k, ?_, q⟩
  by_cases hj : j < i
  · rw [if_pos hj, if_pos hj]; exact ⟨_, rfl⟩
  · rw [if_neg hj, if_neg hj]; exact ⟨_, rfl⟩
/- len of a str, a bytes, a list, a tuple -/
def LenV (K : PySem.W.Frag) (x : V) (H : Hp) (n : Nat) : Prop :=
  match x with
  | .str y => y.length ≤ sizeLine ∧ n = y.length
  | .byt y => y.size ≤ sizeLine ∧ n = y.size
  | .ref p => (∃ xs, SqL K H p xs ∧ n = xs.length) ∨ ∃ xs, SqT K H p xs ∧ n = xs.length
  | _ => False
/- divmod: a new tuple -/
end
end L2

namespace L2
open PySem PySem.Spec PyProof.Rows

/-! ### an instance, its attributes a map -/
structure ObjM (h : Heap) (x dx C : Addr) (mA : Str → Option Value) : Prop where
  obj : h.get? x = some (PySem.W.instObj C dx)
  ns : h.Ns1 dx mA
  ne : dx ≠ x

theorem lookIn_ns {h : Heap} {dx : Addr} {mA : Str → Option Value} (n : h.Ns1 dx mA) : ∃ od, h.get? dx = some od ∧ ∀ name, PySem.W.lookIn name od = some (mA name) := by
  obtain ⟨o, es, ep, ho, hd, hk, _, hm⟩ := n
  refine ⟨o, ho, fun name => ?_⟩
  have e := hm name
  unfold nsFind findBy at e
  rw [← Array.find?_toList] at e
  unfold PySem.W.lookIn
  rw [hd]
  dsimp only
  split
  · rename_i y q
    rw [q] at e
    exact congrArg some e
  · rename_i q
    rw [q] at e
    have a : es.toList.any (·.refKey) = false := by
      rw [List.any_eq_false]
      intro y hy
      obtain ⟨z, t, hkey⟩ := hk y (Array.mem_toList_iff.mp hy)
      simp [DictEntry.refKey, hkey]
    have a' : ¬ es.toList.any (·.refKey) = true := by rw [a]; exact Bool.false_ne_true
    rw [if_neg a']
    exact congrArg some e

theorem ObjM.look {h : Heap} {x dx C : Addr} {mA : Str → Option Value} (I : ObjM h x dx C mA) : ∃ od, PySem.W.InstAt h x (PySem.W.instObj C dx) C (some od) ∧ ∀ name, PySem.W.lookIn name od = some (mA name) :=
  let ⟨od, ho, hl⟩ := lookIn_ns I.ns
  ⟨od, ⟨I.obj, rfl, rfl, ho⟩, hl⟩

section
variable {prog : Program} {w : World} {A : Around} {E : Value → Shared → Prop} {s : Shared} {K : PySem.W.Frag} {x dx C f : Addr} {mA : Str → Option Value} {name : Str} {v : Value}

theorem get_map {expr : Bool} {Q : Value → Shared → Prop} (X : K.In s.heap) (I : ObjM s.heap x dx C mA) (hg : PySem.W.plainGet K C name = true) (hh : PySem.W.hasDictIn K C = true)
    (ha : PySem.W.findIn K (.ref C) name = some none) (hv : mA name = some v) (hv' : PySem.W.handedIn v = true) (h : Q v { s with toks := s.toks + 1 }) :
    wpAny (model prog w) A (getAttr (.ref x) name expr) Q E s := by
  obtain ⟨od, J, hl⟩ := I.look
  exact PySem.W.get_value X J (PySem.W.plainGet_of hg).1 (PySem.W.findObj_own hh ha rfl (by rw [hl, hv])) hv' h

theorem get_meth {pl : Sem Bool} {Q : Value × List Value → Shared → Prop} (X : K.In s.heap) (I : ObjM s.heap x dx C mA) (hg : PySem.W.plainGet K C name = true)
    (hf : PySem.W.findIn K (.ref C) name = some (some (.ref f))) (ht : PySem.W.isFn K (.ref f) = true) (hv : mA name = none) (h : Q (.ref f, [.ref x]) s) :
    wpAny (model prog w) A (getMethod (.ref x) name pl) Q E s := by
  obtain ⟨od, J, hl⟩ := I.look
  exact PySem.W.method_fn X J (PySem.W.plainGet_of hg).1 (PySem.W.plainGet_of hg).2 hf (beq_iff_eq.mp ht) (by show (PySem.W.lookIn name od).map (·.isSome) = some false; rw [hl, hv]; rfl) h

theorem set_map {ns : List Str} {Q : Unit → Shared → Prop} (X : K.In s.heap) (I : ObjM s.heap x dx C mA)
    (hs : PySem.W.findIn K (.ref C) "__setattr__" = some (some (.builtin "object.__setattr__"))) (hp : PySem.W.plainOver K C = true) (ht : PySem.W.takerIn K C name = some none) (hh : PySem.W.hasDictIn K C = true)
    (hw : PySem.Within mA ns) (hsz : ns.length ≤ sizeLine)
    (h : ∀ h', ObjM h' x dx C (fun y => if y = name then some v else mA y) → Heap.SameBut dx s.heap h' → Q () { s with heap := h', toks := s.toks + 2 }) :
    wpAny (model prog w) A (setAttr (.ref x) name v) Q E s := by
  obtain ⟨od, J, hl⟩ := I.look
  refine PySem.W.set_plain X J hs (PySem.W.osa_open (s := { s with toks := s.toks + 1 }) (r := none) X J hp ht fun b => ?_)
  obtain ⟨cd, hc, hd'⟩ := PySem.W.any_some hh
  have hx : s.heap.get? x = some ⟨.ref C, some dx, .plain, #[]⟩ := I.obj
  refine wpAny_bind (wpAny_pure (wpAny_bind (wpAny_bind (wpAny_loadPart hx (wpAny_bind (PySem.W.Looks.here (s := { s with toks := s.toks + 1 }) (PySem.W.looks_clsIn X hc) ?_))))))
  rw [hd']
  refine wpAny_pure (a := some dx) (wpAny_bind (wpAny_pure (wpAny_bind ?_)))
  refine wpAny_nsSet1 (s := { s with toks := s.toks + 1 }) I.ns fun h' hn2 hs2 => ?_
  obtain ⟨oD, esD, epD, hoD, hdD, hcD⟩ := hn2.count (PySem.Within.cons name v hw)
  refine wpAny_bind (wpAny_lookBehind hoD (by rw [hdD]; exact pastItsLine_dict (Nat.le_trans hcD (by rw [List.length_cons]; omega))) ?_)
  exact wpAny_pure (h _ ⟨(hs2.2 _ (Ne.symm I.ne)).trans I.obj, hn2, I.ne⟩ hs2)

/- C(..): the dict at the heap's end, the instance behind it; then its __init__ -/
theorem make_map {R : Result → Shared → Prop} {vs : List Value} {kw : List (Str × Value)} (X : K.In s.heap) (hm : PySem.W.makesIn K C = true)
    (hi : PySem.W.findIn K (.ref C) "__init__" = some (some (.ref f))) (hf : PySem.W.typeIn K (.ref f) = some (.type "function"))
    (h : codeAny (model prog w) (A.under (.builtin "type.__call__" ⟨.ref C :: vs, kw⟩)) (.call (.ref f) ⟨.ref (s.heap.objs.size + 1) :: vs, kw⟩) (PySem.W.InitBack (s.heap.objs.size + 1) R)
      { s with heap := (s.heap.push PySem.W.emptyDict).push (PySem.W.instObj C s.heap.objs.size) }) :
    codeAny (model prog w) A (.call (.ref C) ⟨vs, kw⟩) R s := by
  obtain ⟨hh, g, d, t, os⟩ := s
  exact PySem.W.make_core (PySem.W.makes_of X hm) (PySem.W.looks_findIn X hi) (fun self => PySem.W.bind_fn X self hf) (.inl rfl) h
/- C() where there is no __init__ but object's -/
theorem make_map0 {R : Result → Shared → Prop} (X : K.In s.heap) (hm : PySem.W.makesIn K C = true)
    (hi : PySem.W.findIn K (.ref C) "__init__" = some (some (.builtin "object.__init__")))
    (hb : ∀ self, PySem.W.Looks (model prog w) s.heap (bindSpecial (.builtin "object.__init__") self) (.builtin "object.__init__", [self]))
    (h : codeAny (model prog w) (A.under (.builtin "type.__call__" ⟨[.ref C], []⟩)) (.call (.builtin "object.__init__") ⟨[.ref (s.heap.objs.size + 1)], []⟩) (PySem.W.InitBack (s.heap.objs.size + 1) R)
      { s with heap := (s.heap.push PySem.W.emptyDict).push (PySem.W.instObj C s.heap.objs.size) }) :
    codeAny (model prog w) A (.call (.ref C) ⟨[], []⟩) R s := by
  obtain ⟨hh, g, d, t, os⟩ := s
  exact PySem.W.make_core (PySem.W.makes_of X hm) (PySem.W.looks_findIn X hi) hb (.inr ⟨rfl, rfl⟩) h
end

/-! ### the attributes as a list of pairs -/
def putF (f : Str) (v : V) : List (Str × V) → List (Str × V)
  | [] => [(f, v)]
  | (g, x) :: r => if g = f then (g, v) :: r else (g, x) :: putF f v r
theorem lookup_putF (f g : Str) (v : V) : ∀ fs : List (Str × V), (putF f v fs).lookup g = if g = f then some v else fs.lookup g
  | [] => by
    show List.lookup g [(f, v)] = _
    by_cases h : g = f
    · have hb : (g == f) = true := beq_iff_eq.mpr h
      simp only [List.lookup, hb, if_pos h]
    · have hb : (g == f) = false := beq_eq_false_iff_ne.mpr h
      simp only [List.lookup, hb, if_neg h]
  | (k, x) :: r => by
    have ih := lookup_putF f g v r
    rw [show putF f v ((k, x) :: r) = (if k = f then (k, v) :: r else (k, x) :: putF f v r) from rfl]
    by_cases hk : k = f
    · rw [if_pos hk]
      by_cases h : g = k
      · have hb : (g == k) = true := beq_iff_eq.mpr h
        simp only [List.lookup, hb, if_pos (h.trans hk)]
      · have hb : (g == k) = false := beq_eq_false_iff_ne.mpr h
        simp only [List.lookup, hb, if_neg (fun e : g = f => h (e.trans hk.symm))]
    · rw [if_neg hk]
      by_cases h : g = k
      · have hb : (g == k) = true := beq_iff_eq.mpr h
        simp only [List.lookup, hb, if_neg (fun e : g = f => hk (h.symm.trans e))]
      · have hb : (g == k) = false := beq_eq_false_iff_ne.mpr h
        simp only [List.lookup, hb]
        exact ih
theorem keys_putF (f : Str) (v : V) : ∀ fs : List (Str × V), f ∈ (putF f v fs).map (·.1) ∧ ∀ g, g ∈ fs.map (·.1) → g ∈ (putF f v fs).map (·.1)
  | [] => ⟨by simp [putF], fun g h => by simp at h⟩
  | (k, x) :: r => by
    obtain ⟨i1, i2⟩ := keys_putF f v r
    rw [show putF f v ((k, x) :: r) = (if k = f then (k, v) :: r else (k, x) :: putF f v r) from rfl]
    by_cases hk : k = f
    · rw [if_pos hk]
      subst hk
      exact ⟨by simp, fun g h => by simpa using h⟩
    · rw [if_neg hk]
      refine ⟨?_, fun g h => ?_⟩
      · rw [List.map_cons]
        exact List.mem_cons_of_mem _ i1
      · rw [List.map_cons] at h ⊢
        rcases List.mem_cons.mp h with e | e
        · exact List.mem_cons.mpr (.inl e)
        · exact List.mem_cons_of_mem _ (i2 g e)
theorem length_putF (f : Str) (v : V) : ∀ fs : List (Str × V), (putF f v fs).length ≤ fs.length + 1
  | [] => by simp [putF]
  | (k, x) :: r => by
    have ih := length_putF f v r
    rw [show putF f v ((k, x) :: r) = (if k = f then (k, v) :: r else (k, x) :: putF f v r) from rfl]
    by_cases hk : k = f
    · rw [if_pos hk, List.length_cons, List.length_cons]; omega
    · rw [if_neg hk, List.length_cons, List.length_cons]; omega

theorem RelO.some_of {v : V} {o : Option Value} (r : RelO (some v) o) : ∃ u, o = some u ∧ RelV v u := by
  cases o with
  | none => exact (show False from r).elim
  | some u => exact ⟨u, rfl, r⟩
theorem RelO.none_of {o : Option Value} (r : RelO none o) : o = none := by
  cases o with
  | none => rfl
  | some u => exact (show False from r).elim
theorem handed_of {v : V} {u : Value} (r : RelV v u) : PySem.W.handedIn u = true := by
  cases v with
  | non => cases (show u = Value.none from r); rfl
  | bl b => cases (show u = Value.bool b from r); rfl
  | int i => obtain ⟨t, e⟩ := (show ∃ t, u = Value.int i t from r); cases e; rfl
  | str x => obtain ⟨t, e⟩ := (show ∃ t, u = Value.str x t from r); cases e; rfl
  | byt b => obtain ⟨t, e⟩ := (show ∃ t, u = Value.bytes b t from r); cases e; rfl
  | flt b => obtain ⟨t, e⟩ := (show ∃ t, u = Value.float b t from r); cases e; rfl
  | ref a => cases (show u = Value.ref a from r); rfl
  | ty n => cases (show u = Value.type n from r); rfl

section
variable {P : Program} {w : World} {H H' : Hp} {h h' : Heap} {a C dx : Addr} {fs fs' : List (Str × V)}
theorem ins_get (hok : HOk P w H h) (e : H a = some (.ins C dx fs)) : ∃ mA, ObjM h a dx C mA ∧ (∀ f, RelO (fs.lookup f) (mA f)) ∧ PySem.Within mA (fs.map (·.1)) ∧ fs.length ≤ 1000 ∧ H dx = some (.own a) := by
  obtain ⟨d, z, ne, ob, mA, n, r, q⟩ := (show ObjOk P w H h a (.ins C dx fs) from hok a _ e)
  exact ⟨mA, ⟨ob, n, ne⟩, r, q, z, d⟩
end

/-! ### what of the text a class must have -/
structure Cls (K : PySem.W.Frag) (C : Addr) : Prop where
  pg : PySem.W.plainGet K C Str.empty = true
  hd : PySem.W.hasDictIn K C = true
  po : PySem.W.plainOver K C = true
  sa : PySem.W.findIn K (.ref C) "__setattr__" = some (some (.builtin "object.__setattr__"))
theorem Cls.get {K : PySem.W.Frag} {C : Addr} (c : Cls K C) (f : Str) : PySem.W.plainGet K C f = true := c.pg
/- no class of it has the name -/
def NoAttr (K : PySem.W.Frag) (C : Addr) (f : Str) : Prop := PySem.W.findIn K (.ref C) f = some none
theorem NoAttr.taker {K : PySem.W.Frag} {C : Addr} {f : Str} (n : NoAttr K C f) : PySem.W.takerIn K C f = some none := by
  unfold PySem.W.takerIn
  rw [show PySem.W.findIn K (.ref C) f = some none from n]
  rfl
/- a constant of the class -/
structure Con (K : PySem.W.Frag) (C : Addr) (f : Str) (v : V) (u : Value) : Prop where
  at_ : PySem.W.findIn K (.ref C) f = some (some u)
  rel : RelV v u
  get : PySem.W.specialIn K u "__get__" = some none
  cp : PySem.W.copiedNames.contains f = false
/- a method: a plain def of the class or of one above it -/
structure Meth (K : PySem.W.Frag) (C : Addr) (m : Str) (f : Addr) : Prop where
  at_ : PySem.W.findIn K (.ref C) m = some (some (.ref f))
  fn : PySem.W.isFn K (.ref f) = true
  kp : PySem.W.keepIn K (.ref f) = true

section
variable {X : Cx} {pins : List (Addr × Obj)} {σ : St} {H : Hp} {s : Shared} {a C dx : Addr} {fs : List (Str × V)} {f : Str} {v : V} {A : Around} {E : Value → Shared → Prop}

theorem getattr_ok {b : Bool} {Q : Value → Shared → Prop} (I : Inv X pins σ H s) (e : H a = some (.ins C dx fs)) (c : Cls X.K C) (n : NoAttr X.K C f) (l : fs.lookup f = some v)
    (h : ∀ u s', Inv X pins σ H s' → RelV v u → Q u s') : wpAny (model X.prog X.w) A (getAttr (.ref a) f b) Q E s := by
  obtain ⟨mA, O, r, _, _, _⟩ := ins_get I.hok e
  obtain ⟨u, hu, ru⟩ := RelO.some_of (v := v) (o := mA f) (by rw [← l]; exact r f)
  exact get_map I.kIn O (c.get f) c.hd n hu (handed_of ru) (h u _ (I.tok _) ru)

theorem getmeth_ok {m : Str} {g : Addr} {pl : Sem Bool} {Q : Value × List Value → Shared → Prop} (I : Inv X pins σ H s) (e : H a = some (.ins C dx fs)) (c : Cls X.K C) (k : Meth X.K C m g) (l : fs.lookup m = none)
    (h : Q (.ref g, [.ref a]) s) : wpAny (model X.prog X.w) A (getMethod (.ref a) m pl) Q E s := by
  obtain ⟨mA, O, r, _, _, _⟩ := ins_get I.hok e
  have hn : mA m = none := RelO.none_of (by rw [← l]; exact r m)
  exact get_meth I.kIn O (c.get m) k.at_ k.fn hn h

theorem setattr_ok {y : V} {u : Value} {Q : Unit → Shared → Prop} (I : Inv X pins σ H s) (e : H a = some (.ins C dx fs)) (c : Cls X.K C) (n : NoAttr X.K C f) (hl : fs.length < 1000) (ry : RelV y u)
    (h : ∀ s', Inv X pins σ (upd H a (.ins C dx (putF f y fs))) s' → Q () s') : wpAny (model X.prog X.w) A (setAttr (.ref a) f u) Q E s := by
  obtain ⟨mA, O, r, wi, _, ho⟩ := ins_get I.hok e
  have hz : (fs.map (·.1)).length ≤ sizeLine := by rw [List.length_map, sizeLine_eq]; omega
  refine set_map I.kIn O c.sa c.po n.taker c.hd wi hz fun h' O' sb => h _ ?_
  have hd : ∃ o, h'.get? dx = some o := let ⟨o, _, _, e', _⟩ := O'.ns; ⟨o, e'⟩
  refine I.write (x := a) (e := dx) (by rw [e]; exact True.intro) (.inr ho) (fun b q hb z => (sb.2 b hb).trans z) hd ?_
  refine ⟨by rw [upd_ne O.ne]; exact ho, ?_, O.ne, O'.obj, _, O'.ns, fun g => ?_, fun g hg => ?_⟩
  · have := length_putF f y fs; omega
  · show RelO ((putF f y fs).lookup g) (if g = f then some u else mA g)
    rw [lookup_putF]
    by_cases q : g = f
    · rw [if_pos q, if_pos q]; exact ry
    · rw [if_neg q, if_neg q]; exact r g
  · by_cases q : g = f
    · rw [q]; exact (keys_putF f y fs).1
    · refine (keys_putF f y fs).2 g (wi g fun z => hg ?_)
      show (if g = f then some u else mA g) = none
      rw [if_neg q]; exact z

/- a new instance, tracked, without attributes -/
theorem Inv.made (I : Inv X pins σ H s) : Inv X pins σ (upd (upd H s.heap.objs.size (.own (s.heap.objs.size + 1))) (s.heap.objs.size + 1) (.ins C s.heap.objs.size []))
    { s with heap := (s.heap.push PySem.W.emptyDict).push (PySem.W.instObj C s.heap.objs.size) } := by
  have e1 : (s.heap.push PySem.W.emptyDict).get? s.heap.objs.size = some PySem.W.emptyDict := Heap.get?_push_size s.heap rfl
  have e2 : ((s.heap.push PySem.W.emptyDict).push (PySem.W.instObj C s.heap.objs.size)).get? (s.heap.objs.size + 1) = some (PySem.W.instObj C s.heap.objs.size) := by
    have := Heap.get?_push_size (s.heap.push PySem.W.emptyDict) (o := PySem.W.instObj C s.heap.objs.size) rfl
    rwa [Heap.size_push] at this
  have e3 : (s.heap.push PySem.W.emptyDict).Ns s.heap.objs.size (fun _ => none) := ⟨PySem.W.emptyDict, #[], _, e1, rfl, (fun e he => absurd he (by simp)), fun _ => rfl⟩
  have I1 := I.laid (a := s.heap.objs.size) (o := .own (s.heap.objs.size + 1)) (h' := s.heap.push PySem.W.emptyDict) (t' := s.toks) (fun b u q => Heap.get?_push_of_some _ q) (Nat.le_refl _) ⟨_, e1⟩
  refine I1.laid (a := s.heap.objs.size + 1) (o := .ins C s.heap.objs.size []) (t' := s.toks) (fun b u q => Heap.get?_push_of_some _ q) (Nat.le_of_eq (Heap.size_push _ _)) ?_
  have ne : s.heap.objs.size ≠ s.heap.objs.size + 1 := Nat.ne_of_lt (Nat.lt_succ_self _)
  refine ⟨by rw [upd_ne ne, upd_same], Nat.zero_le _, ne, e2, fun _ => none, (Heap.Ns1.of_empty e3).at fun o q => Heap.get?_push_of_some _ q, fun _ => True.intro, fun y hy => absurd rfl hy⟩

/- e.f where nothing but the object is asked: through attributeBase (super) and the last hold -/
theorem attr_of {prog : Program} {w : World} {env : Env} {e : Expr} {f : Str} {pos : Pos} {s : Shared} {Q : Value → Shared → Prop} (hb : attributeBase e f env (eval e env) = eval e env)
    (h : wpAny (model prog w) A (eval e env) (fun o s₁ => wpAny (model prog w) A (getAttr o f true) Q E s₁) E s) : wpAny (model prog w) A (eval (.Attribute e f pos) env) Q E s :=
  Attribute_any_ h (by rw [arm_eval_Attribute, hb])
end

/-! ### readings and rules -/
/- e.f, an attribute of the instance -/
def tFld (K : PySem.W.Frag) (ta : TE) (f : Str) : TE := fun σ H Q => ta σ H fun x H1 => ∃ a C dx fs v, x = .ref a ∧ H1 a = some (.ins C dx fs) ∧ Cls K C ∧ NoAttr K C f ∧ fs.lookup f = some v ∧ Q v H1
/- e.f, a constant of the class -/
def tCon (K : PySem.W.Frag) (ta : TE) (f : Str) : TE := fun σ H Q => ta σ H fun x H1 => ∃ a C dx fs v u, x = .ref a ∧ H1 a = some (.ins C dx fs) ∧ Cls K C ∧ Con K C f v u ∧ fs.lookup f = none ∧ Q v H1
/- e.f = value -/
def sFld (K : PySem.W.Frag) (ta tv : TE) (f : Str) : TS := fun D σ H => tv σ H fun y H1 => ta σ H1 fun x H2 => ∃ a C dx fs, x = .ref a ∧ H2 a = some (.ins C dx fs) ∧ Cls K C ∧ NoAttr K C f ∧ fs.length < 1000 ∧
  D.nx σ (upd H2 a (.ins C dx (putF f y fs)))
/- an augmented operator on two values -/
def InOp (X : Cx) (op : Operator) (rd : V → V → Hp → VK → Prop) : Prop :=
  ∀ (pins : List (Addr × Obj)) (s : Shared) (σ : St) (H : Hp) (x y : V) (u v : Value) (Q : VK), Inv X pins σ H s → RelV x u → RelV y v → rd x y H Q → wpAny (model X.prog X.w) X.A (inplaceOp op u v) (EP X pins σ Q) X.xe s
/- e.f op= value -/
def sFldAug (K : PySem.W.Frag) (ta tv : TE) (rd : V → V → Hp → VK → Prop) (f : Str) : TS := fun D σ H => ta σ H fun x H1 => ∃ a C dx fs v, x = .ref a ∧ H1 a = some (.ins C dx fs) ∧ Cls K C ∧ NoAttr K C f ∧ fs.lookup f = some v ∧
  tv σ H1 fun y H2 => rd v y H2 fun z H3 => ∃ dx' fs', H3 a = some (.ins C dx' fs') ∧ fs'.length < 1000 ∧ D.nx σ (upd H3 a (.ins C dx' (putF f z fs')))

section
variable {X : Cx} {o e value : Expr} {f : Str} {pos pos' tpos : Pos} {ta tv : TE}
theorem pe_fld (he : PE X e ta) (hb : attributeBase e f X.env (eval e X.env) = eval e X.env) : PE X (.Attribute e f pos) (tFld X.K ta f) := by
  intro pins s σ H Q I h
  refine attr_of hb (thn (he pins s σ H _ I h) fun u s1 ⟨x, H1, I1, rx, a, C, dx, fs, v, ex, ea, c, n, l, q⟩ => ?_)
  subst ex
  obtain rfl : u = Value.ref a := rx
  exact getattr_ok I1 ea c n l fun u' s2 I2 ru => ⟨v, H1, I2, ru, q⟩
theorem ps_fld (ha : PE X o ta) (hv : PE X value tv) (hs : swapsWith value (some (.Attribute o f pos')) pos.line X.env = pure false) : PS X (.Assign [.Attribute o f pos'] value pos) (sFld X.K ta tv f) := by
  intro pins s σ H D I h
  refine plainObj_wpAny_Assign_Attribute (thn (hv pins s σ H _ I h) fun u s1 ⟨y, H1, I1, ry, q⟩ => thn (ha pins s1 σ H1 _ I1 q) fun ov s2 ⟨x, H2, I2, rx, a, C, dx, fs, ex, ea, c, n, l, q2⟩ => ?_) hs
  subst ex
  obtain rfl : ov = Value.ref a := rx
  exact setattr_ok I2 ea c n l ry fun s3 I3 => ⟨σ, _, I3, q2⟩
def rAdd : V → V → Hp → VK → Prop := fun x y H Q => ∃ i j, x = .int i ∧ y = .int j ∧ Q (.int (i + j)) H
def rSub : V → V → Hp → VK → Prop := fun x y H Q => ∃ i j, x = .int i ∧ y = .int j ∧ Q (.int (i - j)) H
/- what is between an instance and its method: the tree of a method call -/
end

/-! ### isinstance -/
section
variable {X : Cx} {pins : List (Addr × Obj)} {σ : St} {H : Hp} {s : Shared} {A : Around} {E : Value → Shared → Prop} {Q : Value → Shared → Prop} {c : Value} {b : Bool}
/- the type of a value, as the fragment's deciders take it; for an instance its class -/
inductive TyOf (K : PySem.W.Frag) (H : Hp) : V → Value → Prop where
  | non : TyOf K H .non (.type "NoneType")
  | bl (x : Bool) : TyOf K H (.bl x) (.type "bool")
  | int (i : Int) : TyOf K H (.int i) (.type "int")
  | str (x : Str) : TyOf K H (.str x) (.type "str")
  | flt (x : UInt64) : TyOf K H (.flt x) (.type "float")
  | lst {a : Addr} {xs : List V} (e : H a = some (.lst xs)) : TyOf K H (.ref a) (.type "list")
  | frz {a : Addr} {o : Obj} {xs : List V} (e : H a = some (.frz o (.lst xs))) : TyOf K H (.ref a) (.type "list")
  | tup {a : Addr} {xs : List V} (e : H a = some (.tup xs)) : TyOf K H (.ref a) (.type "tuple")
  | dK {a : Addr} {kvs : List (Key × V)} (e : H a = some (.dK kvs)) : TyOf K H (.ref a) (.type "dict")
  | dT {a : Addr} {kvs : List (List Key × V)} (e : H a = some (.dT kvs)) : TyOf K H (.ref a) (.type "dict")
  | ins {a C dx : Addr} {fs : List (Str × V)} (e : H a = some (.ins C dx fs)) (cl : Cls K C) (ha : PySem.W.findIn K (.ref C) "__class__" = some (some (.builtin "object.__class__")))
      (hn : PySem.W.specialIn K (.builtin "object.__class__") "__get__" = some (some (.builtin "getset_descriptor.__get__"))) (htk : PySem.W.takesIn K (.builtin "object.__class__") = some true)
      (hm : PySem.W.mroIn K C (.type "object") = some true) : TyOf K H (.ref a) (.ref C)
/- isinstance(x, c) for one class c, a built-in or an own one: kitOne's answer -/
theorem isinst_ok {x : V} {u t : Value} (I : Inv X pins σ H s) (rx : RelV x u) (ty : TyOf X.K H x t) (e : PySem.W.kitOne X.K t c = some b) (h : ∀ tk, Q (.bool b) { s with toks := tk }) :
    wpAny (model X.prog X.w) A (call (.builtin "isinstance") [u, c]) Q E s := by
  cases ty with
  | non => cases (show u = Value.none from rx); exact PySem.W.kia_one PySem.W.kitx_none I.kIn True.intro e (fun z => nomatch z) h
  | bl y => cases (show u = Value.bool y from rx); exact PySem.W.kia_one PySem.W.kitx_bool I.kIn True.intro e (fun z => nomatch z) h
  | int i => obtain ⟨t, q⟩ := (show ∃ t, u = Value.int i t from rx); cases q; exact PySem.W.kia_one PySem.W.kitx_int I.kIn True.intro e (fun z => nomatch z) h
  | str y => obtain ⟨t, q⟩ := (show ∃ t, u = Value.str y t from rx); cases q; exact PySem.W.kia_one PySem.W.kitx_str I.kIn True.intro e (fun z => nomatch z) h
  | flt y => obtain ⟨t, q⟩ := (show ∃ t, u = Value.float y t from rx); cases q; exact PySem.W.kia_one PySem.W.kitx_float I.kIn True.intro e (fun z => nomatch z) h
  | @lst a xs ea =>
    cases (show u = Value.ref a from rx)
    obtain ⟨_, _, n, _, h1⟩ := (show ObjOk X.prog X.w H s.heap a (.lst xs) from I.hok a _ ea)
    exact PySem.W.kia_one PySem.W.kitx_list I.kIn ⟨_, h1, rfl⟩ e (fun z => nomatch z) h
  | @frz a ob xs ea =>
    cases (show u = Value.ref a from rx)
    obtain ⟨_, _, _, n, _, h1⟩ := (show ObjOk X.prog X.w H s.heap a (.frz ob (.lst xs)) from I.hok a _ ea)
    exact PySem.W.kia_one PySem.W.kitx_list I.kIn ⟨_, h1, rfl⟩ e (fun z => nomatch z) h
  | @tup a xs ea =>
    cases (show u = Value.ref a from rx)
    obtain ⟨_, _, _, p⟩ := (show ObjOk X.prog X.w H s.heap a (.tup xs) from I.hok a _ ea)
    obtain ⟨o, h1, h2, _⟩ := p
    exact PySem.W.kia_one PySem.W.kitx_tuple I.kIn ⟨o, h1, h2⟩ e (fun z => nomatch z) h
  | @dK a kvs ea =>
    cases (show u = Value.ref a from rx)
    obtain ⟨_, _, vs, _, p⟩ := (show ObjOk X.prog X.w H s.heap a (.dK kvs) from I.hok a _ ea)
    obtain ⟨o, es, ep, h1, h2, _⟩ := p
    exact PySem.W.kia_one PySem.W.kitx_dict I.kIn ⟨o, h1, h2.1⟩ e (fun z => nomatch z) h
  | @dT a kvs ea =>
    cases (show u = Value.ref a from rx)
    obtain ⟨_, _, xs, _, o, es, ep, h1, h2, _⟩ := (show ObjOk X.prog X.w H s.heap a (.dT kvs) from I.hok a _ ea)
    exact PySem.W.kia_one PySem.W.kitx_dict I.kIn ⟨o, h1, h2.1⟩ e (fun z => nomatch z) h
  | @ins a C dx fs ea cl ha hn htk hm =>
    cases (show u = Value.ref a from rx)
    obtain ⟨mA, O, _⟩ := ins_get I.hok ea
    obtain ⟨od, J, _⟩ := O.look
    exact PySem.W.kia_one (PySem.W.kitx_own (cl.get _) cl.hd ha hn htk hm) I.kIn J e (fun z => nomatch z) h
end
end L2

namespace L2
open PySem PySem.Spec PyProof.Rows

/-! ### room -/
structure Room (k : Nat) (A : Around) : Prop where
  hd : A.handled = none
  dp : A.depth + 3 * k + 5 < recursionLimit
  un : A.units + 16 * k + 200 < cLine
theorem Room.mono {j k : Nat} {A : Around} (r : Room k A) (h : j ≤ k) : Room j A := ⟨r.hd, by have := r.dp; omega, by have := r.un; omega⟩
theorem Room.deeper {k : Nat} {A : Around} (r : Room (k + 1) A) (env : Env) : Room k (A.deeper env) :=
  ⟨r.hd, by have := r.dp; show A.depth + 1 + 3 * k + 5 < _; omega, by have := r.un; show A.units + 3 + 16 * k + 200 < _; omega⟩
theorem Room.in1 {k : Nat} {A : Around} (r : Room (k + 1) A) : Room k A.in1 :=
  ⟨r.hd, by have := r.dp; show A.depth + 3 * k + 5 < _; omega, by have := r.un; show A.units + 1 + 16 * k + 200 < _; omega⟩
theorem make_depth {A : Around} {C : Addr} {us : List Value} {kw : List (Str × Value)} : (A.under (.builtin "type.__call__" ⟨.ref C :: us, kw⟩)).depth = A.depth + 1 := by
  first | rfl | simp [Around.under, Code.weight, Code.isCreation, Code.isGuard, Code.isCaller, Code.frames, Code.isFrame, guardIds]
theorem make_units {A : Around} {C : Addr} {us : List Value} {kw : List (Str × Value)} : (A.under (.builtin "type.__call__" ⟨.ref C :: us, kw⟩)).units = A.units + 1 := by
  first | rfl | simp [Around.under, Code.cUnits, Code.frames, Code.isFrame]
theorem Room.make {k : Nat} {A : Around} (r : Room (k + 1) A) (C : Addr) (us : List Value) (kw : List (Str × Value)) : Room k (A.under (.builtin "type.__call__" ⟨.ref C :: us, kw⟩)) :=
  ⟨r.hd, by have := r.dp; rw [make_depth]; omega, by have := r.un; rw [make_units]; omega⟩
theorem Room.depth {k : Nat} {A : Around} (r : Room k A) : A.depth < recursionLimit := by have := r.dp; omega
theorem Room.units {k : Nat} {A : Around} (r : Room k A) : A.units + 64 < cLine := by have := r.un; omega
theorem Room.units0 {k : Nat} {A : Around} (r : Room k A) : A.units < cLine := by have := r.un; omega

/-! ### argument lists and displays -/
def tNil : TA := fun _ H Q => Q [] H
def tCons (ta : TE) (tr : TA) : TA := fun σ H Q => ta σ H fun x H1 => tr σ H1 fun xs H2 => Q (x :: xs) H2
section
variable {X : Cx} {e : Expr} {es : List Expr} {te : TE} {t : TA} {pos : Pos}
theorem pa_nil : PA X [] tNil := fun _ _ _ _ H Q I h => Calls.spliced_nil ⟨[], H, I, .nil, h⟩
theorem pa_cons (ha : PE X e te) (hr : PA X es t) (hs : starEach (e :: es) X.env = (false, eval e X.env) :: starEach es X.env := by rfl) : PA X (e :: es) (tCons te t) := by
  intro pos pins s σ H Q I h
  rw [hs]
  show wpAny _ _ (spliced ((false, eval e X.env) :: backTo pos (starEach es X.env))) _ _ s
  refine Calls.spliced_cons (thn (ha pins s σ H _ I h) fun u s1 ⟨x, H1, I1, r1, q1⟩ => ?_)
  exact thn (hr pos pins s1 σ H1 _ I1 q1) fun us s2 ⟨xs, H2, I2, r2, q2⟩ => ⟨x :: xs, H2, I2, .cons r1 r2, q2⟩

/- a tuple, a list of written items -/
def tTup (t : TA) : TE := fun σ H Q => t σ H fun xs H1 => xs.length ≤ sizeLine ∧ ∀ p, H1 p = none → Q (.ref p) (upd H1 p (.tup xs))
def tLst (t : TA) : TE := fun σ H Q => t σ H fun xs H1 => xs.length ≤ sizeLine ∧ ∀ p, H1 p = none → Q (.ref p) (upd H1 p (.lst xs))
theorem pe_tup {x1} (h : PA X es t) : PE X (.Tuple es x1 pos) (tTup t) := by
  intro pins s σ H Q I hq
  refine wpAny_Tuple_spliced (thn (h pos pins s σ H _ I hq) fun us s1 ⟨xs, H1, I1, r, z, q⟩ => ⟨by rw [← r.length]; exact z, ?_⟩)
  have hf : H1 s1.heap.objs.size = none := I1.hok.fresh (Nat.le_refl _)
  refine ⟨.ref s1.heap.objs.size, upd H1 s1.heap.objs.size (.tup xs), I1.laid (t' := s1.toks) (fun b u e => Heap.get?_push_of_some _ e) (Nat.le_refl _) ?_, rfl, q _ hf⟩
  exact ⟨z, us, r, ⟨_, Heap.get?_push_size _ rfl, rfl, _, rfl⟩⟩
theorem pe_lst (h : PA X es t) : PE X (.List es pos) (tLst t) := by
  intro pins s σ H Q I hq
  refine wpAny_List_spliced (thn (h pos pins s σ H _ I hq) fun us s1 ⟨xs, H1, I1, r, z, q⟩ => ⟨by rw [← r.length]; exact z, ?_⟩)
  have hf : H1 s1.heap.objs.size = none := I1.hok.fresh (Nat.le_refl _)
  refine ⟨.ref s1.heap.objs.size, upd H1 s1.heap.objs.size (.lst xs), I1.laid (t' := s1.toks) (fun b u e => Heap.get?_push_of_some _ e) (Nat.le_refl _) ?_, rfl, q _ hf⟩
  exact ⟨z, us, 0, r, Heap.get?_push_size _ rfl⟩
end

/-! ### what a def promises -/
/- a def's promise: the bound arguments in the parameters' order, the heap, the wanted end, the wanted exception -/
abbrev Sp := List V → Hp → VK → XK → Prop
/- how an exception lies behind a call (file 08 gives it): the callers' frames, abstract heap and state ahead of the call, the wish, the exception, the state -/
abbrev CXT := List Env → Hp → Shared → XK → Value → Shared → Prop

/- the state at a call -/
structure Env0 (P : Program) (w : World) (K : PySem.W.Frag) (mg : Str → Option Value) (base : Heap) (A : Around) (outer : List Env) (s : Shared) (H : Hp) : Prop where
  frames : A.frames = some outer
  mod : Mod K mg base
  bs : ∀ b o, base.get? b = some o → s.heap.get? b = some o ∧ H b = none
  bsz : base.objs.size ≤ s.heap.objs.size
  funs : s.heap.FunFrames base outer
  frf : ∀ b ∈ frs outer, H b = none
  hok : HOk P w H s.heap
  bare : AllBare s.gens
/- a call's end -/
def CE (outer : List Env) (P : Program) (w : World) (H : Hp) (s : Shared) (Q : VK) (u : Value) (s' : Shared) : Prop :=
  ∃ v H', s'.os = s.os ∧ AllBare s'.gens ∧ Un (frs outer) [] H H' s.heap s'.heap ∧ HOk P w H' s'.heap ∧ RelV v u ∧ Q v H'
def CR (CX : CXT) (outer : List Env) (P : Program) (w : World) (H : Hp) (s : Shared) (Q : VK) (E : XK) (r : Result) (s' : Shared) : Prop :=
  match r with
  | .ok (.ret u) => CE outer P w H s Q u s'
  | .ok _ => False
  | .error e => CX outer H s E e s'
structure FnOk (P : Program) (w : World) (K : PySem.W.Frag) (mg : Str → Option Value) (base : Heap) (CX : CXT) (k : Nat) (f : Addr) (fd : FuncData) (ps : List Str) (sp : Sp) : Prop where
  len : ∀ vs H Q E, sp vs H Q E → vs.length = ps.length
  run : ∀ (A : Around) (outer : List Env) (s : Shared) (H : Hp) (args : Args) (us : List Value) (vs : List V) (Q : VK) (E : XK), Room k A → Env0 P w K mg base A outer s H → BindsTo s fd args (ps.zip us) → Vals vs us → sp vs H Q E →
    codeAny (model P w) A (.call (.ref f) args) (CR CX outer P w H s Q E) s
theorem FnOk.mono {P : Program} {w : World} {K : PySem.W.Frag} {mg : Str → Option Value} {base : Heap} {CX : CXT} {j k : Nat} {f : Addr} {fd : FuncData} {ps : List Str} {sp : Sp} (F : FnOk P w K mg base CX j f fd ps sp) (h : j ≤ k) :
    FnOk P w K mg base CX k f fd ps sp := ⟨F.len, fun A outer s H args us vs Q E hr => F.run A outer s H args us vs Q E (hr.mono h)⟩
/- a weaker promise -/
theorem FnOk.imp {P : Program} {w : World} {K : PySem.W.Frag} {mg : Str → Option Value} {base : Heap} {CX : CXT} {k : Nat} {f : Addr} {fd : FuncData} {ps : List Str} {sp sp' : Sp} (F : FnOk P w K mg base CX k f fd ps sp)
    (h : ∀ vs H Q E, sp' vs H Q E → sp vs H Q E) : FnOk P w K mg base CX k f fd ps sp' :=
  ⟨fun vs H Q E q => F.len vs H Q E (h _ _ _ _ q), fun A outer s H args us vs Q E hr he hb hv hs => F.run A outer s H args us vs Q E hr he hb hv (h _ _ _ _ hs)⟩

theorem Env0.make {P : Program} {w : World} {K : PySem.W.Frag} {mg : Str → Option Value} {base : Heap} {A : Around} {outer : List Env} {s : Shared} {H : Hp} (e : Env0 P w K mg base A outer s H) (C : Addr) (us : List Value) (kw : List (Str × Value)) :
    Env0 P w K mg base (A.under (.builtin "type.__call__" ⟨.ref C :: us, kw⟩)) outer s H := ⟨by first | exact e.frames | (simpa [Around.under, Code.envs, Code.isFrame, pushEnvs] using e.frames), e.mod, e.bs, e.bsz, e.funs, e.frf, e.hok, e.bare⟩
theorem Env0.in1 {P : Program} {w : World} {K : PySem.W.Frag} {mg : Str → Option Value} {base : Heap} {A : Around} {outer : List Env} {s : Shared} {H : Hp} (e : Env0 P w K mg base A outer s H) :
    Env0 P w K mg base A.in1 outer s H := ⟨e.frames, e.mod, e.bs, e.bsz, e.funs, e.frf, e.hok, e.bare⟩

section
variable {X : Cx} {pins : List (Addr × Obj)} {σ : St} {H : Hp} {s s' : Shared}
/- from a body: what a callee wants -/
theorem Inv.env0 (I : Inv X pins σ H s) : Env0 X.prog X.w X.K X.mg X.base X.A X.stack s H :=
  ⟨I.ok.frames, I.ok.mod, I.bs, Nat.le_trans I.ok.bsz I.sz, I.stack, I.stkFree, I.hok, I.bare⟩
/- behind a call -/
theorem Inv.after {Q : VK} {u : Value} (I : Inv X pins σ H s) (h : CE X.stack X.prog X.w H s Q u s') : EP X pins σ Q u s' := by
  obtain ⟨v, H', os, bare, un, hok, r, q⟩ := h
  obtain ⟨hh, g, d, t, os'⟩ := s'
  obtain rfl : os' = s.os := os
  exact ⟨v, H', I.call (h' := hh) (g' := g) (d' := d) (t' := t) (ch := []) un hok bare (fun b z => absurd z (by simp)), r, q⟩
end

/-! ### calls -/
/- f(..): the written arguments, then the defaults dvs; E: what is wanted of an exception -/
def tCall (sp : Sp) (dvs : List V) (E : XK) (t : TA) : TE := fun σ H Q => t σ H fun vs H1 => sp (vs ++ dvs) H1 Q E
/- o.m(..) of an instance of the class at C -/
def tMeth (C : Addr) (m : Str) (sp : Sp) (dvs : List V) (E : XK) (ta : TE) (t : TA) : TE := fun σ H Q => ta σ H fun x H1 => ∃ a dx fs, x = .ref a ∧ H1 a = some (.ins C dx fs) ∧ fs.lookup m = none ∧
  t σ H1 fun vs H2 => sp (x :: (vs ++ dvs)) H2 Q E
/- C(..): a new instance and its dict, then __init__ -/
def tMake (C : Addr) (sp : Sp) (dvs : List V) (E : XK) (t : TA) : TE := fun σ H Q => t σ H fun vs H1 => ∀ x dx, H1 x = none → H1 dx = none → dx ≠ x →
  sp (.ref x :: (vs ++ dvs)) (upd (upd H1 dx (.own x)) x (.ins C dx [])) (fun v H2 => v = .non ∧ Q (.ref x) H2) E

/- how the parameters are bound: us the positional arguments, kw the keywords' values by name, ds the defaults that fill up -/
def Binds (K : PySem.W.Frag) (fd : FuncData) (ps : List Str) (ds : List Value) : Prop :=
  ∀ (s : Shared) (us : List Value), K.In s.heap → (us ++ ds).length = ps.length → BindsTo s fd ⟨us, []⟩ (ps.zip (us ++ ds))
/- every parameter is given -/
theorem Binds.all {K : PySem.W.Frag} {fd : FuncData} {ps : List Str} (h : ∀ us : List Value, us.length = ps.length → bindArgs fd ⟨us, []⟩ = pure (ps.zip us)) : Binds K fd ps [] := fun s us _ hl => by
  rw [List.append_nil] at hl ⊢
  exact .of_eq (h us hl)

/- an exception of a callee reaches what this body wants of exceptions -/
def Passes (CX : CXT) (X : Cx) (E : XK) : Prop := ∀ (pins : List (Addr × Obj)) (σ : St) (H : Hp) (s : Shared) (e : Value) (s' : Shared), Inv X pins σ H s → CX X.stack H s E e s' → X.xe e s'

section
variable {X : Cx} {CX : CXT} {k : Nat} {f C : Addr} {fd : FuncData} {ps : List Str} {sp : Sp} {dvs : List V} {ds : List Value} {E : XK} {x m : Str} {p pos apos : Pos} {e o : Expr} {es : List Expr} {ta : TE} {t : TA}

/- the callee runs -/
theorem run_fn {pins : List (Addr × Obj)} {σ : St} {H : Hp} {s : Shared} {Q : VK} {us : List Value} {vs : List V} (F : FnOk X.prog X.w X.K X.mg X.base CX k f fd ps sp) (hr : Room k X.A) (hb : Binds X.K fd ps ds) (hd : Vals dvs ds) (hx : Passes CX X E)
    (I : Inv X pins σ H s) (r : Vals vs us) (h : sp (vs ++ dvs) H Q E) : wpAny (model X.prog X.w) X.A (call (.ref f) us) (EP X pins σ Q) X.xe s := by
  have r2 : Vals (vs ++ dvs) (us ++ ds) := r.append hd
  have hl : (us ++ ds).length = ps.length := by rw [← r2.length]; exact F.len _ _ _ _ h
  refine wpAny_call (codeAny_mono (F.run X.A X.stack s H ⟨us, []⟩ (us ++ ds) (vs ++ dvs) Q E hr I.env0 (hb s us I.kIn hl) r2 h) fun r s' hq => ?_)
  cases r with
  | error e => exact hx pins σ H s e s' I hq
  | ok fl =>
    cases fl with
    | ret u => exact I.after hq
    | next => exact False.elim hq
    | brk => exact False.elim hq
    | cont => exact False.elim hq

theorem pe_call (F : FnOk X.prog X.w X.K X.mg X.base CX k f fd ps sp) (hr : Room k X.A) (hg : Gl X x) (hm : X.mg x = some (.ref f)) (hk : PySem.W.keepIn X.K (.ref f) = true) (hb : Binds X.K fd ps ds) (hd : Vals dvs ds) (hx : Passes CX X E)
    (ha : PA X (e :: es) t) (hdb : (x == ("__debug__" : Str)) = false := by decide) (he : starEach (e :: es) X.env = (false, eval e X.env) :: starEach es X.env := by rfl) (hpl : (backTo pos (starEach es X.env)).any (·.1) = false := by rfl) :
    PE X (.Call (.Name x p) (e :: es) [] pos) (tCall sp dvs E t) := by
  intro pins s σ H Q I h
  refine wpAny_Call_Name_kw (ld_glob I hg hm ?_ hdb)
  refine PySem.W.callWith_K (h₀ := X.base) I.ok.mod.kin hk (thn (ha pos pins s σ H _ I h) fun us s1 ⟨vs, H1, I1, r, q⟩ => ⟨I1.kIn, ?_⟩) he hpl
  exact run_fn F hr hb hd hx I1 r q
/- o.m(e, ..) -/
/- o.m() -/
/- what a class must have to be made -/
structure Mk (K : PySem.W.Frag) (C f : Addr) : Prop where
  makes : PySem.W.makesIn K C = true
  init : PySem.W.findIn K (.ref C) "__init__" = some (some (.ref f))
  fn : PySem.W.isFn K (.ref f) = true
  kp : PySem.W.keepIn K (.ref C) = true

theorem run_make {pins : List (Addr × Obj)} {σ : St} {H : Hp} {s : Shared} {Q : VK} {us : List Value} {vs : List V} (M : Mk X.K C f) (F : FnOk X.prog X.w X.K X.mg X.base CX k f fd ps sp) (hr : Room (k + 1) X.A) (hb : Binds X.K fd ps ds) (hd : Vals dvs ds)
    (hx : Passes CX X E) (I : Inv X pins σ H s) (r : Vals vs us)
    (h : ∀ x dx, H x = none → H dx = none → dx ≠ x → sp (.ref x :: (vs ++ dvs)) (upd (upd H dx (.own x)) x (.ins C dx [])) (fun v H2 => v = .non ∧ Q (.ref x) H2) E) :
    wpAny (model X.prog X.w) X.A (call (.ref C) us) (EP X pins σ Q) X.xe s := by
  have hq := h (s.heap.objs.size + 1) s.heap.objs.size (I.hok.fresh (Nat.le_succ _)) (I.hok.fresh (Nat.le_refl _)) (Nat.ne_of_lt (Nat.lt_succ_self _))
  have I2 := Inv.made (C := C) I
  have r2 : Vals (V.ref (s.heap.objs.size + 1) :: (vs ++ dvs)) (Value.ref (s.heap.objs.size + 1) :: (us ++ ds)) := .cons rfl (r.append hd)
  have hl : (Value.ref (s.heap.objs.size + 1) :: us ++ ds).length = ps.length := by
    have e := r2.length
    rw [F.len _ _ _ _ hq] at e
    exact e.symm
  refine wpAny_call (make_map (f := f) I.kIn M.makes M.init (beq_iff_eq.mp M.fn) (codeAny_mono (F.run _ X.stack _ _ ⟨Value.ref (s.heap.objs.size + 1) :: us, []⟩ (Value.ref (s.heap.objs.size + 1) :: (us ++ ds)) _ _ E (hr.make C us [])
    (I2.env0.make C us []) (hb _ (Value.ref (s.heap.objs.size + 1) :: us) I2.kIn hl) r2 hq) fun r s' hq' => ?_))
  cases r with
  | error e => exact hx pins σ _ _ e s' I2 hq'
  | ok fl =>
    cases fl with
    | ret u =>
      obtain ⟨v, H', I3, rv, ev, q3⟩ := I2.after hq'
      subst ev
      exact ⟨rv, ⟨V.ref (s.heap.objs.size + 1), H', I3, rfl, q3⟩⟩
    | next => exact False.elim hq'
    | brk => exact False.elim hq'
    | cont => exact False.elim hq'
theorem pe_make (M : Mk X.K C f) (F : FnOk X.prog X.w X.K X.mg X.base CX k f fd ps sp) (hr : Room (k + 1) X.A) (hg : Gl X x) (hm : X.mg x = some (.ref C)) (hb : Binds X.K fd ps ds) (hd : Vals dvs ds) (hx : Passes CX X E)
    (ha : PA X (e :: es) t) (hdb : (x == ("__debug__" : Str)) = false := by decide) (he : starEach (e :: es) X.env = (false, eval e X.env) :: starEach es X.env := by rfl) (hpl : (backTo pos (starEach es X.env)).any (·.1) = false := by rfl) :
    PE X (.Call (.Name x p) (e :: es) [] pos) (tMake C sp dvs E t) := by
  intro pins s σ H Q I h
  refine wpAny_Call_Name_kw (ld_glob I hg hm ?_ hdb)
  refine PySem.W.callWith_K (h₀ := X.base) I.ok.mod.kin M.kp (thn (ha pos pins s σ H _ I h) fun us s1 ⟨vs, H1, I1, r, q⟩ => ⟨I1.kIn, ?_⟩) he hpl
  exact run_make M F hr hb hd hx I1 r q
end

/-! ### keywords -/
/- the values of the keywords, from the left -/
def PK (X : Cx) (kws : List Keyword) (t : TA) : Prop :=
  ∀ (pos : Pos) (pins : List (Addr × Obj)) (s : Shared) (σ : St) (H : Hp) (Q : List V → Hp → Prop), Inv X pins σ H s → t σ H Q → wpAny (model X.prog X.w) X.A (evalAll ((backToKw pos (keywordEach kws X.env)).map (·.2))) (AP X pins σ Q) X.xe s
section
variable {X : Cx} {CX : CXT} {k : Nat} {f C : Addr} {fd : FuncData} {ps ks : List Str} {sp : Sp} {E : XK} {x m : Str} {p pos apos kpos : Pos} {e o : Expr} {es : List Expr} {kws : List Keyword} {te ta : TE} {t tk : TA} {nm : Option Str}
theorem pk_nil : PK X [] tNil := fun _ _ _ _ H Q I h => wpAny_evalAll_nil ⟨[], H, I, .nil, h⟩
theorem pk_cons (ha : PE X e te) (hr : PK X kws t) : PK X (⟨nm, e, kpos⟩ :: kws) (tCons te t) := by
  intro pos pins s σ H Q I h
  show wpAny _ _ (evalAll ((do let v ← eval e X.env; standAt pos; pure v) :: (backToKw pos (keywordEach kws X.env)).map (·.2))) _ _ s
  refine wpAny_evalAll_cons (wpAny_bind (thn (ha pins s σ H _ I h) fun u s1 ⟨x, H1, I1, r1, q1⟩ => wpAny_bind (wpAny_standAt (wpAny_pure ?_))))
  exact thn (hr pos pins s1 σ H1 _ I1 q1) fun us s2 ⟨xs, H2, I2, r2, q2⟩ => ⟨x :: xs, H2, I2, .cons r1 r2, q2⟩

/- how a call with keywords binds: g puts the positional values us and the keywords' values ws (names ks) in the parameters' order, defaults among them -/
structure KBinds (K : PySem.W.Frag) (fd : FuncData) (ps ks : List Str) (g : List Value → List Value → List Value) (gV : List V → List V → List V) : Prop where
  to : ∀ (s : Shared) (us ws : List Value), K.In s.heap → (g us ws).length = ps.length → BindsTo s fd ⟨us, ks.zip ws⟩ (ps.zip (g us ws))
  rel : ∀ {vs : List V} {us : List Value} {zs : List V} {ws : List Value}, Vals vs us → Vals zs ws → Vals (gV vs zs) (g us ws)
def tCallK (sp : Sp) (gV : List V → List V → List V) (E : XK) (t tk : TA) : TE := fun σ H Q => t σ H fun vs H1 => tk σ H1 fun zs H2 => sp (gV vs zs) H2 Q E
variable {g : List Value → List Value → List Value} {gV : List V → List V → List V}
/- f(e, .., k = v, ..) -/
end

/-! ### a def's body keeps its promise -/
/- names: the parameters first -/
structure FnScope (N P : List Str) (sc : Scope) : Prop where
  kind : sc.kind = .function
  co : sc.isCoroutine = false
  gen : sc.isGenerator = false
  nd : N.Nodup
  pre : N.take P.length = P
  par : ∀ x ∈ P, sc.names.lookup x = some .local ∨ sc.names.lookup x = some .cell
  nofree : ∀ y ∈ sc.names, y.2 ≠ .free

theorem bindL_out {kindOf : Str → Option NameKind} {x : Str} : ∀ {binds : List (Str × Value)} {m : Str → Option Value}, (∀ v, (x, v) ∉ binds) → bindL kindOf binds m x = m x
  | [], _, _ => rfl
  | (n, v) :: r, m, h => by
    unfold bindL
    rw [bindL_out fun w hw => h w (List.mem_cons_of_mem _ hw)]
    split
    · have : x ≠ n := by rintro rfl; exact h v List.mem_cons_self
      simp [this]
    · rfl
theorem bindC_out {kindOf : Str → Option NameKind} {x : Str} : ∀ {binds : List (Str × Value)} {m : Str → Option Value}, (∀ v, (x, v) ∉ binds) → bindC kindOf binds m x = m x
  | [], _, _ => rfl
  | (n, v) :: r, m, h => by
    unfold bindC
    rw [bindC_out fun w hw => h w (List.mem_cons_of_mem _ hw)]
    split
    · rfl
    · have : x ≠ n := by rintro rfl; exact h v List.mem_cons_self
      simp [this]
theorem bindL_get {kindOf : Str → Option NameKind} {x : Str} {v : Value} : ∀ {P : List Str} {vs : List Value} {i : Nat} {m : Str → Option Value}, P.Nodup → P[i]? = some x → vs[i]? = some v → kindOf x = some .local →
    bindL kindOf (P.zip vs) m x = some v
  | [], _, _, _, _, h, _, _ => by simp at h
  | _ :: _, [], _, _, _, _, h, _ => by simp at h
  | p :: P, w :: vs, 0, m, nd, h1, h2, hk => by
    simp at h1 h2; subst h1; subst h2
    show bindL kindOf ((p, w) :: P.zip vs) m p = _
    unfold bindL
    rw [bindL_out fun v hv => (List.nodup_cons.mp nd).1 (List.of_mem_zip hv).1, if_pos hk]
    simp
  | p :: P, w :: vs, i + 1, m, nd, h1, h2, hk => by
    show bindL kindOf ((p, w) :: P.zip vs) m x = _
    unfold bindL
    exact bindL_get (i := i) (List.nodup_cons.mp nd).2 (by simpa using h1) (by simpa using h2) hk
theorem bindC_get {kindOf : Str → Option NameKind} {x : Str} {v : Value} : ∀ {P : List Str} {vs : List Value} {i : Nat} {m : Str → Option Value}, P.Nodup → P[i]? = some x → vs[i]? = some v → kindOf x ≠ some .local →
    bindC kindOf (P.zip vs) m x = some v
  | [], _, _, _, _, h, _, _ => by simp at h
  | _ :: _, [], _, _, _, _, h, _ => by simp at h
  | p :: P, w :: vs, 0, m, nd, h1, h2, hk => by
    simp at h1 h2; subst h1; subst h2
    show bindC kindOf ((p, w) :: P.zip vs) m p = _
    unfold bindC
    rw [bindC_out fun v hv => (List.nodup_cons.mp nd).1 (List.of_mem_zip hv).1, if_neg hk]
    simp
  | p :: P, w :: vs, i + 1, m, nd, h1, h2, hk => by
    show bindC kindOf ((p, w) :: P.zip vs) m x = _
    unfold bindC
    exact bindC_get (i := i) (List.nodup_cons.mp nd).2 (by simpa using h1) (by simpa using h2) hk

/- the names' values at the entry -/
def start (N : List Str) (vs : List V) : St := vs.map some ++ List.replicate (N.length - vs.length) none

/- the context of a def's body, at its entry; an exception leaves the frame, then lies as CX says -/
def cxOf (CX : CXT) (P : Program) (w : World) (K : PySem.W.Frag) (mg : Str → Option Value) (base : Heap) (N : List Str) (qual : Str) (scope : Scope) (f : Addr) (cd : Value) (A : Around) (outer : List Env) (s : Shared) (H : Hp) (E : XK) : Cx where
  prog := P
  w := w
  K := K
  mg := mg
  base := base
  A := A.deeper (envOfC qual scope s.heap.objs.size f cd)
  N := N
  s₀ := s
  H₀ := H
  env := envOfC qual scope s.heap.objs.size f cd
  outer := outer
  stack := envOfC qual scope s.heap.objs.size f cd :: outer
  ex := []
  calm := true
  fn := fun _ => true
  pn := []
  xe := fun e s' => wpAny (model P w) (A.deeper (envOfC qual scope s.heap.objs.size f cd)) (leaving (envOfC qual scope s.heap.objs.size f cd) e) (fun _ s'' => CX outer H s E e s'') (fun e' s'' => CX outer H s E e' s'') s'

theorem cell_has {sc : Scope} {n : Nat} {x : Str} (h : sc.names.lookup x = some .cell) : ∃ c, (cellsFrom n sc.names []).lookup x = some c := by
  have q := PySem.W.cellsFrom_some sc.names n [] (.inl h)
  exact Option.isSome_iff_exists.mp q

theorem inv_start {CX : CXT} {P : Program} {w : World} {K : PySem.W.Frag} {mg : Str → Option Value} {base : Heap} {N ps : List Str} {qual : Str} {scope : Scope} {f : Addr} {cd : Value} {A : Around} {outer : List Env} {s s1 : Shared} {H : Hp} {E : XK} {us : List Value} {vs : List V}
    (S : FnScope N ps scope) (hd : A.handled = none) (e0 : Env0 P w K mg base A outer s H) (hl : vs.length = ps.length) (r : Vals vs us)
    (x : InCallC s s.heap.objs.size (bindL (envOfC qual scope s.heap.objs.size f cd).kindOf (ps.zip us) fun _ => none) (cellsFrom (s.heap.objs.size + 1) scope.names []) (bindC (envOfC qual scope s.heap.objs.size f cd).kindOf (ps.zip us) fun _ => none) s1) :
    Inv (cxOf CX P w K mg base N qual scope f cd A outer s H E) [] (start N vs) H s1 := by
  have hpl : ps.length ≤ N.length := by have := congrArg List.length S.pre; rw [List.length_take] at this; omega
  obtain ⟨h1, tk, rfl, hk⟩ := x.done
  have noA : ∀ b : Addr, b ∉ (cxOf CX P w K mg base N qual scope f cd A outer s H E).ex := fun b z => absurd (show b ∈ ([] : List Addr) from z) (by simp)
  refine ⟨⟨e0.mod, S.kind, rfl, rfl, Nat.le_refl _, fun y z c h1 h2 => ?_, fun y hy => ?_, fun y c _ h => ?_, fun _ => hd, Around.frames_deeper e0.frames, .inr ⟨rfl, rfl⟩, fun b z => absurd z (noA b), e0.bs, e0.bsz, fun b _ _ => noA b, fun b z => absurd z (noA b), e0.funs, e0.frf⟩,
    rfl, e0.bare, Un.kept hk, ⟨_, x.toInCall.ns, fun i y v h1 h2 h3 => ?_⟩, fun y c h => ⟨_, x.cell y c h⟩, e0.hok.fresh (Nat.le_refl _), fun y c h => ?_, fun p hp => absurd (show p ∈ ([] : List (Addr × Obj)) from hp) (by simp), e0.hok.kept hk, ?_⟩
  · exact name_of_addr x.apart (PySem.mem_of_lookup h1) (PySem.mem_of_lookup h2)
  · have hy : scope.names.lookup y = some .cell ∨ scope.names.lookup y = some .free := hy
    rcases hy with hy | hy
    · exact cell_has hy
    · exact absurd rfl (S.nofree _ (PySem.mem_of_lookup hy))
  · exact Nat.le_of_lt (x.above y c (PySem.mem_of_lookup h))
  · have hi : i < vs.length := by
      unfold start at h2
      by_cases hi : i < vs.length
      · exact hi
      · rw [List.getElem?_append_right (by simpa using hi)] at h2
        rw [List.getElem?_replicate] at h2
        split at h2 <;> cases h2
    have ha : vs[i]? = some v := by
      unfold start at h2
      rw [List.getElem?_append_left (by simpa using hi), List.getElem?_map] at h2
      cases e : vs[i]? with
      | none => rw [e] at h2; cases h2
      | some a => rw [e] at h2; cases h2; rfl
    obtain ⟨u, hu, rv⟩ := r.get ha
    have hp : ps[i]? = some y := by
      rw [← S.pre, List.getElem?_take_of_lt (by omega)]; exact h1
    have ndP : ps.Nodup := by rw [← S.pre]; exact S.nd.sublist (List.take_sublist _ _)
    refine ⟨u, rv, ?_⟩
    rcases S.par y (List.mem_of_getElem? hp) with k | k
    · exact .inl ⟨k, bindL_get ndP hp hu k⟩
    · obtain ⟨c, e⟩ := cell_has (n := s.heap.objs.size + 1) k
      refine .inr ⟨.inl k, c, e, ?_⟩
      have q := x.cell y c e
      rw [bindC_get ndP hp hu (by show scope.names.lookup y ≠ _; rw [k]; decide)] at q
      exact q
  · exact e0.hok.fresh (Nat.le_of_lt (x.above y c (PySem.mem_of_lookup h)))
  · unfold start
    show _ = N.length
    rw [List.length_append, List.length_map, List.length_replicate]
    omega

/- THE RULE: a def (or a method) of the text, by its body. The body's reading t is chosen for each entry; it is run at the parameters' values -/
theorem fn_of {CX : CXT} {P : Program} {w : World} {K : PySem.W.Frag} {mg : Str → Option Value} {base : Heap} {k : Nat} {f : Addr} {name qual : Str} {params : Arguments} {body : List Stmt} {scope : Scope} {dV kV doc pm cdv ct oc : Value} {an od : Option Addr}
    {osl : Array (Option Value)} {N ps : List Str} {sp : Sp} (lk : K.lookup f = some ⟨oc, od, .func (PySem.W.fnOf name qual params body scope dV kV doc pm an cdv ct), osl⟩) (hcd : PySem.W.codeIn K cdv qual = true) (S : FnScope N ps scope)
    (len : ∀ vs H Q E, sp vs H Q E → vs.length = ps.length)
    (hbody : ∀ (A : Around) (outer : List Env) (s : Shared) (H : Hp) (vs : List V) (Q : VK) (E : XK), Room k (A.deeper (envOfC qual scope s.heap.objs.size f cdv)) → sp vs H Q E →
      ∃ t, PSs (cxOf CX P w K mg base N qual scope f cdv A outer s H E) body t ∧ t { nx := fun _ H' => Q .non H', rt := Q } (start N vs) H) :
    FnOk P w K mg base CX (k + 1) f (PySem.W.fnOf name qual params body scope dV kV doc pm an cdv ct) ps sp := by
  refine ⟨len, fun A outer s H args us vs Q E hr e0 hb r hsp => ?_⟩
  have hl := len _ _ _ _ hsp
  have KX : K.In s.heap := e0.mod.kin.keeps fun b o e => (e0.bs b o e).1
  have lim : s.heap.NoLimit := e0.mod.nolimit.keeps fun b o e => (e0.bs b o e).1
  have hkind : ∀ y ∈ ps.zip us, scope.names.lookup y.1 = some .local ∨ (scope.names.lookup y.1 = some .cell ∧ ((cellsFrom (s.heap.objs.size + 1) scope.names []).lookup y.1).isSome = true) := fun ⟨n, v⟩ hy => by
    rcases S.par n (List.of_mem_zip hy).1 with q | q
    · exact .inl q
    · exact .inr ⟨q, PySem.W.cellsFrom_some _ _ _ (.inl q)⟩
  refine codeAny_call_function hr.depth (KX _ _ lk) rfl S.co S.gen rfl (PySem.W.codeRec_of KX hcd) (hb _ _ _ _ ?_)
  refine wpAny_newFunctionEnv_cells S.kind hkind fun env he s1 x => ?_
  subst he
  refine ⟨lim.keeps x.toInCall.keep, codeAny_func ?_⟩
  obtain ⟨t, ht, hq⟩ := hbody A outer s H vs Q E (hr.deeper _) hsp
  have I : Inv (cxOf CX P w K mg base N qual scope f cdv A outer s H E) [] (start N vs) H s1 := inv_start S hr.hd e0 hl r x
  refine wpAny_mono (ht [] s1 (start N vs) H _ I hq) (fun fl s' hs => ?_) fun e s' hs => hs
  have fin : ∀ {σ' : St} {H' : Hp} {v : V} {u : Value}, Inv (cxOf CX P w K mg base N qual scope f cdv A outer s H E) [] σ' H' s' → RelV v u → Q v H' → CE outer P w H s Q u s' :=
    fun {σ' H' v u} J rv q => ⟨v, H', J.os, J.bare, J.base, J.hok, rv, q⟩
  cases fl with
  | ret u =>
    obtain ⟨v, σ', H', J, rv, q⟩ := hs
    exact fin J rv q
  | next =>
    obtain ⟨σ', H', J, q⟩ := hs
    exact fin (v := V.non) (u := Value.none) J rfl q
  | brk =>
    obtain ⟨_, _, _, q⟩ := hs
    exact False.elim q
  | cont =>
    obtain ⟨_, _, _, q⟩ := hs
    exact False.elim q
end L2

namespace L2
open PySem PySem.Spec PyProof.Rows
section
variable {X : Cx} {x : Str} {p pos : Pos} {e : Expr} {es : List Expr} {t : TA} {id T : String} {r : List V → Hp → VK → Prop}

def tCB (r : List V → Hp → VK → Prop) (t : TA) : TE := fun σ H Q => t σ H fun vs H1 => r vs H1 Q
/- f(e, ..), f a built-in function -/
theorem pe_callB (hc : CallR X (.builtin id) r) (hg : Gl X x) (hm : X.mg x = none) (hv : bootBuiltins x = some (.builtin id)) (ha : PA X (e :: es) t) (hn : x ≠ "__name__" := by decide) (hdb : (x == ("__debug__" : Str)) = false := by decide)
    (he : starEach (e :: es) X.env = (false, eval e X.env) :: starEach es X.env := by rfl) (hpl : (backTo pos (starEach es X.env)).any (·.1) = false := by rfl) : PE X (.Call (.Name x p) (e :: es) [] pos) (tCB r t) := by
  intro pins s σ H Q I h
  refine wpAny_Call_Name_kw (ld_blt I hg hm hv ?_ hn hdb)
  exact PyProof.Rows.callWith_builtin1 (thn (ha pos pins s σ H _ I h) fun us s1 ⟨vs, H1, I1, r1, q1⟩ => hc pins s1 σ H1 vs us Q I1 r1 q1) he hpl
/- T(e, ..), T a built-in type -/
theorem pe_callTy (hc : CallR X (.type T) r) (hg : Gl X x) (hm : X.mg x = none) (hv : bootBuiltins x = some (.type T)) (ha : PA X (e :: es) t) (hn : x ≠ "__name__" := by decide) (hdb : (x == ("__debug__" : Str)) = false := by decide)
    (he : starEach (e :: es) X.env = (false, eval e X.env) :: starEach es X.env := by rfl) (hpl : (backTo pos (starEach es X.env)).any (·.1) = false := by rfl) : PE X (.Call (.Name x p) (e :: es) [] pos) (tCB r t) := by
  intro pins s σ H Q I h
  refine wpAny_Call_Name_kw (ld_blt I hg hm hv ?_ hn hdb)
  exact PyProof.Rows.callWith_type1 (thn (ha pos pins s σ H _ I h) fun us s1 ⟨vs, H1, I1, r1, q1⟩ => hc pins s1 σ H1 vs us Q I1 r1 q1) he hpl
/- T() -/
end
end L2

namespace HT
open PySem PyProof.Rows

/- t < u of tuples of ints -/
def lexLt : List Int → List Int → Bool
  | [], [] => false
  | [], _ :: _ => true
  | _ :: _, [] => false
  | x :: xs, y :: ys => if x = y then lexLt xs ys else decide (x < y)
section
open PySem.SeqAt
open PySem.AutoSeq1 (wpAny_loadPart')
open PySem.MeetsSeq PySem.MeetsSeq2 PySem.MeetsSeq3

end

section
variable {prog : Program} {w : World} {A : Around} {E : Value → Shared → Prop} {s : Shared}

/- t + u, t not empty -/
/- a slice's bound as a place among n (d where it is left out) -/
def sIx (n d : Nat) : Option Int → Nat
  | none => d
  | some v => if v < 0 then (v + (n : Int)).toNat else min v.toNat n
end
end HT

namespace L2
open PySem PySem.Spec PyProof.Rows

/-! ### the parts of a slice -/
abbrev TO := St → Hp → (Option Int → Hp → Prop) → Prop
/- a slice's part (left out, or an int) -/
def PO (X : Cx) (e : Option Expr) (t : TO) : Prop :=
  ∀ (pins : List (Addr × Obj)) (s : Shared) (σ : St) (H : Hp) (Q : Option Int → Hp → Prop), Inv X pins σ H s → t σ H Q →
    wpAny (model X.prog X.w) X.A (evalPart e X.env) (fun u s' => ∃ o H', Inv X pins σ H' s' ∧ IsPart u o ∧ Q o H') X.xe s
def tNoPart : TO := fun _ H Q => Q none H
def tPart (t : TE) : TO := fun σ H Q => t σ H fun x H1 => ∃ i, x = .int i ∧ Q (some i) H1

section
variable {X : Cx} {e : Expr} {te : TE} {lo hi : Option Expr} {tl th : TO} {pos p2 : Pos}

/- what a slice of a value is, by values: the slice object stands at sl -/
def SlR (X : Cx) (r : V → Option Int → Option Int → Hp → VK → Prop) : Prop :=
  ∀ (pins : List (Addr × Obj)) (s : Shared) (σ : St) (H : Hp) (x : V) (v vl vu : Value) (lo hi : Option Int) (sl : Addr) (Q : VK), Inv X pins σ H s → RelV x v → s.heap.IsSliceOf sl vl vu .none → IsPart vl lo → IsPart vu hi → r x lo hi H Q →
    ∃ T id, typeLookup (.type T) "__getitem__" = pure (some (.builtin id)) ∧ s.TypeIs v T ∧ wpAny (model X.prog X.w) X.A (getItem v (.ref sl)) (EP X pins σ Q) X.xe s
theorem SlR.or {r r' : V → Option Int → Option Int → Hp → VK → Prop} (h : SlR X r) (h' : SlR X r') : SlR X (fun x lo hi H Q => r x lo hi H Q ∨ r' x lo hi H Q) := by
  intro pins s σ H x v vl vu lo hi sl Q I rx hs pl pu q
  rcases q with q | q
  · exact h pins s σ H x v vl vu lo hi sl Q I rx hs pl pu q
  · exact h' pins s σ H x v vl vu lo hi sl Q I rx hs pl pu q
def tSl (r : V → Option Int → Option Int → Hp → VK → Prop) (te : TE) (tl th : TO) : TE := fun σ H Q => te σ H fun x H1 => tl σ H1 fun l H2 => th σ H2 fun u H3 => r x l u H3 Q
/- a[lo:hi], any a -/
/- the items of xs[lo:hi] -/
def cutV (xs : List V) (lo hi : Option Int) : List V := (xs.drop (HT.sIx xs.length 0 lo)).take (HT.sIx xs.length xs.length hi - HT.sIx xs.length 0 lo)
/- t[lo:hi], not the whole of it (the whole would be t itself) -/
def rSlT (K : PySem.W.Frag) : V → Option Int → Option Int → Hp → VK → Prop := fun x lo hi H Q => ∃ a xs, x = .ref a ∧ SqT K H a xs ∧
  ¬ (HT.sIx xs.length 0 lo = 0 ∧ HT.sIx xs.length xs.length hi = xs.length) ∧ ∀ p, H p = none → Q (.ref p) (upd H p (.tup (cutV xs lo hi)))
def rLtT (K : PySem.W.Frag) : R2 := fun x y H Q => ∃ a b ns ms, x = .ref a ∧ y = .ref b ∧ SqT K H a (ns.map V.int) ∧ SqT K H b (ms.map V.int) ∧ Q (.bl (HT.lexLt ns ms)) H
/- t + u, t not empty: u empty gives t itself -/
def rCatT (K : PySem.W.Frag) : R2 := fun x y H Q => ∃ a b xs ys, x = .ref a ∧ y = .ref b ∧ SqT K H a xs ∧ SqT K H b ys ∧ xs ≠ [] ∧ xs.length + ys.length ≤ sizeLine ∧
  (ys = [] → Q (.ref a) H) ∧ (ys ≠ [] → ∀ p, H p = none → Q (.ref p) (upd H p (.tup (xs ++ ys))))
/- tuple(t) -/
end
end L2

namespace L2
open PySem PySem.Spec PyProof.Rows

/-! ### places -/
/- the place that an index of any sign means -/
def ixN (n : Nat) (i : Int) : Option Nat := if 0 ≤ i then (if i < n then some i.toNat else none) else if -(n : Int) ≤ i then some (i + n).toNat else none
def atI {α : Type} (xs : List α) (i : Int) : Option α := (ixN xs.length i).bind fun j => xs[j]?
theorem ixN_seq {n : Nat} {i : Int} {j : Nat} (h : ixN n i = some j) : seqIndex? i n = some j ∧ j < n ∧ -(n : Int) ≤ i ∧ i < n := by
  unfold ixN at h
  by_cases h0 : 0 ≤ i
  · rw [if_pos h0] at h
    by_cases h1 : i < n
    · rw [if_pos h1] at h
      have e : i.toNat = j := Option.some.inj h
      exact ⟨by rw [seqIndex_of h0 h1, e], by omega, by omega, h1⟩
    · rw [if_neg h1] at h; cases h
  · rw [if_neg h0] at h
    by_cases h1 : -(n : Int) ≤ i
    · rw [if_pos h1] at h
      have e : (i + n).toNat = j := Option.some.inj h
      exact ⟨by rw [seqIndex_neg (by omega) h1, e], by omega, h1, by omega⟩
    · rw [if_neg h1] at h; cases h
theorem atI_get {α : Type} {xs : List α} {i : Int} {v : α} (h : atI xs i = some v) : ∃ j, seqIndex? i xs.length = some j ∧ xs[j]? = some v ∧ j < xs.length ∧ -(xs.length : Int) ≤ i ∧ i < xs.length := by
  unfold atI at h
  cases e : ixN xs.length i with
  | none => rw [e] at h; cases h
  | some j =>
    rw [e] at h
    obtain ⟨h1, h2, h3, h4⟩ := ixN_seq e
    exact ⟨j, h1, h, h2, h3, h4⟩
theorem atI_nat {α : Type} {xs : List α} {j : Nat} {v : α} (h : xs[j]? = some v) : atI xs (j : Int) = some v := by
  have hj : j < xs.length := (List.getElem?_eq_some_iff.mp h).1
  have e : ixN xs.length (j : Int) = some j := by
    unfold ixN
    rw [if_pos (by omega), if_pos (by omega)]; simp
  unfold atI; rw [e]; exact h
/- what stands as an index of a plain subscript -/
def PlainIx (b : Expr) : Prop := ∀ o i, subscripted b false o i = operate [o, i] (getItem o i)
/- a subscript by values -/
def IxR (X : Cx) (r : R2) : Prop :=
  ∀ (value slice : Expr) (pins : List (Addr × Obj)) (s : Shared) (σ : St) (H : Hp) (x y : V) (v u : Value) (Q : VK), Inv X pins σ H s → RelV x v → RelV y u → r x y H Q →
    subscripted slice false v u = operate [v, u] (getItem v u) → wpAny (model X.prog X.w) X.A (subscriptTail value slice v u) (EP X pins σ Q) X.xe s
/- a call of a builtin's method by values: the receiver, the arguments -/
def MtR (X : Cx) (id : String) (r : V → List V → Hp → VK → Prop) : Prop :=
  ∀ (pins : List (Addr × Obj)) (s : Shared) (σ : St) (H : Hp) (x : V) (xs : List V) (v : Value) (us : List Value) (Q : VK), Inv X pins σ H s → RelV x v → Vals xs us → r x xs H Q →
    wpAny (model X.prog X.w) X.A (call (.builtin id) (v :: us)) (EP X pins σ Q) X.xe s
section
variable {X : Cx} {a b : Expr} {ta tb : TE} {pos : Pos}
theorem IxR.or {r r' : R2} (h : IxR X r) (h' : IxR X r') : IxR X (fun x y H Q => r x y H Q ∨ r' x y H Q) := by
  intro value slice pins s σ H x y v u Q I rx ry q hs
  rcases q with q | q
  · exact h value slice pins s σ H x y v u Q I rx ry q hs
  · exact h' value slice pins s σ H x y v u Q I rx ry q hs
theorem MtR.or {id : String} {r r' : V → List V → Hp → VK → Prop} (h : MtR X id r) (h' : MtR X id r') : MtR X id (fun x xs H Q => r x xs H Q ∨ r' x xs H Q) := by
  intro pins s σ H x xs v us Q I rx rs q
  rcases q with q | q
  · exact h pins s σ H x xs v us Q I rx rs q
  · exact h' pins s σ H x xs v us Q I rx rs q
/- a[b] -/
theorem pe_ix {r : R2} (hr : IxR X r) (ha : PE X a ta) (hb : PE X b tb) (hs : PlainIx b) : PE X (.Subscript a b pos) (tOp r ta tb) := by
  intro pins s σ H Q I h
  exact Subscript_ (binT ha hb I h fun v u s2 x y H2 I2 rx ry q => hr a b pins s2 σ H2 x y v u Q I2 rx ry q (hs _ _))

def rIxL (K : PySem.W.Frag) : R2 := fun x y H Q => ∃ p xs i v, x = .ref p ∧ y = .int i ∧ SqL K H p xs ∧ atI xs i = some v ∧ Q v H
def rIxT (K : PySem.W.Frag) : R2 := fun x y H Q => ∃ p xs i v, x = .ref p ∧ y = .int i ∧ SqT K H p xs ∧ atI xs i = some v ∧ Q v H
def rIxS : R2 := fun x y H Q => ∃ z i c, x = .str z ∧ y = .int i ∧ z.length ≤ sizeLine ∧ atI z.cps.toList i = some c ∧ Q (.str ⟨#[c]⟩) H
theorem ix_list : IxR X (rIxL X.K) := by
  intro value slice pins s σ H x y v u Q I rx ry h hs
  obtain ⟨p, xs, i, z, rfl, rfl, hq, he, q⟩ := h
  cases rx
  obtain ⟨t, rfl⟩ := ry
  obtain ⟨its, r, pl, hz⟩ := I.list hq
  obtain ⟨j, h1, h2, h3, h4, h5⟩ := atI_get he
  obtain ⟨w, ew, rw'⟩ := r.get h2
  have hl := r.length
  have hn := line63
  have fin : EP X pins σ Q w s := ⟨z, H, I, rw', q⟩
  by_cases h0 : 0 ≤ i
  · have hj : i.toNat = j := by
      rw [seqIndex_of h0 h5] at h1
      exact Option.some.inj h1
    exact item_listR pl.isList h0 (by omega) (by rw [hj]; simpa using ew) fin hs
  · have hj : (i + (its.toArray.size : Int)).toNat = j := by
      rw [seqIndex_neg (by omega) h4] at h1
      rw [List.size_toArray, ← hl]
      exact Option.some.inj h1
    exact subscriptTail_builtinR (x := w) pl.isList.typeIs slot_list_getitem.lookup
      (wpAny_getItem_list_neg (Q := fun r s' => r = w ∧ EP X pins σ Q r s') pl.isList (by omega) (by rw [List.size_toArray] <;> omega) (by omega) (by rw [hj]; simpa using ew) ⟨rfl, fin⟩) hs
theorem ix_tup : IxR X (rIxT X.K) := by
  intro value slice pins s σ H x y v u Q I rx ry h hs
  obtain ⟨p, xs, i, z, rfl, rfl, hq, he, q⟩ := h
  cases rx
  obtain ⟨t, rfl⟩ := ry
  obtain ⟨its, r, pl, hz⟩ := I.tuple hq
  obtain ⟨j, h1, h2, h3, h4, h5⟩ := atI_get he
  obtain ⟨w, ew, rw'⟩ := r.get h2
  have hl := r.length
  have hn := line63
  have fin : EP X pins σ Q w s := ⟨z, H, I, rw', q⟩
  exact subscriptTail_builtinR (x := w) pl.typeIs slot_tuple_getitem.lookup
    (getItem_tuple (j := j) (Q := fun r s' => r = w ∧ EP X pins σ Q r s') pl (by omega) (by omega) (by rw [List.size_toArray, ← hl]; exact h1) (by simpa using ew) ⟨rfl, fin⟩) hs
/- list, tuple or str -/
def rIx (K : PySem.W.Frag) : R2 := fun x y H Q => rIxL K x y H Q ∨ rIxT K x y H Q ∨ rIxS x y H Q
/- the list's object behind a store -/
theorem mapSeq_set (its : List Value) (n j : Nat) (u : Value) : Obj.mapSeq (·.setIfInBounds j u) { cls := .type "list", data := .seq its.toArray n } = { cls := .type "list", data := .seq (its.set j u).toArray n } := by
  simp [Obj.mapSeq]
theorem Inv.lst {pins : List (Addr × Obj)} {σ : St} {H : Hp} {s : Shared} {p : Addr} {xs : List V} (I : Inv X pins σ H s) (h : H p = some (.lst xs)) :
    ∃ (its : List Value) (n : Nat), Vals xs its ∧ s.heap.get? p = some { cls := .type "list", data := .seq its.toArray n } ∧ xs.length ≤ sizeLine := by
  obtain ⟨z, its, n, r, e⟩ := I.hok p _ h
  exact ⟨its, n, r, e, z⟩
/- the list at p is written by an update of its object -/
theorem Inv.lstUpd {pins : List (Addr × Obj)} {σ : St} {H : Hp} {s : Shared} {p : Addr} {xs ys : List V} {its its' : List Value} {n n' : Nat} {f : Obj → Obj} (I : Inv X pins σ H s) (h : H p = some (.lst xs))
    (ho : s.heap.get? p = some { cls := .type "list", data := .seq its.toArray n }) (hf : f { cls := .type "list", data := .seq its.toArray n } = { cls := .type "list", data := .seq its'.toArray n' }) (r : Vals ys its') (hz : ys.length ≤ sizeLine) (t : Nat) :
    Inv X pins σ (upd H p (.lst ys)) { s with heap := s.heap.update p f, toks := t } := by
  have e : (s.heap.update p f).get? p = some { cls := .type "list", data := .seq its'.toArray n' } := by
    rw [Heap.get?_update_self f ho (by rw [hf] <;> rfl), hf]
  refine I.write (x := p) (e := p) (by rw [h]; trivial) (.inl rfl) (fun b u hb q => (Heap.get?_update_other _ _ (Ne.symm hb)).trans q) ⟨_, e⟩ ?_
  exact ⟨hz, its', n', r, e⟩
def rSetL : V → V → V → Hp → (Hp → Prop) → Prop := fun o i v H Q => ∃ p xs k j, o = .ref p ∧ i = .int k ∧ H p = some (.lst xs) ∧ ixN xs.length k = some j ∧ Q (upd H p (.lst (xs.set j v)))
theorem set_list : PSet X rSetL := by
  intro pins s σ H o i v ov iv u Q I ro ri rv h
  obtain ⟨p, xs, k, j, rfl, rfl, hp, hj, q⟩ := h
  cases ro
  obtain ⟨t, rfl⟩ := ri
  obtain ⟨its, n, r, ho, hz⟩ := I.lst hp
  obtain ⟨h1, h2, h3, h4⟩ := ixN_seq hj
  have hl := r.length
  have hn := line63
  have I' : Inv X pins σ (upd H p (.lst (xs.set j v))) { s with heap := s.heap.update p (Obj.mapSeq (·.setIfInBounds j u)) } :=
    I.lstUpd hp ho (mapSeq_set its n j u) (r.set rv j) (by rw [List.length_set]; exact hz) s.toks
  by_cases h0 : 0 ≤ k
  · have hk : k.toNat = j := by
      rw [seqIndex_of h0 h4] at h1
      exact Option.some.inj h1
    exact PySem.W.ki_setAt ho h0 (by omega) (by rw [List.size_toArray, ← hl]; exact h4) (by rw [hk]; exact ⟨_, I', q⟩)
  · have hk : (k + (its.toArray.size : Int)).toNat = j := by
      rw [seqIndex_neg (by omega) h3] at h1
      rw [List.size_toArray, ← hl]
      exact Option.some.inj h1
    exact PySem.W.ki_setBack ho (by omega) (by rw [List.size_toArray, ← hl]; exact h3) (by omega) (by rw [hk]; exact ⟨_, I', q⟩)

/-! ### slices -/
/- xs[lo:hi] of a list: a new list -/
def rSlL (K : PySem.W.Frag) : V → Option Int → Option Int → Hp → VK → Prop := fun x lo hi H Q => ∃ a xs, x = .ref a ∧ SqL K H a xs ∧ ∀ p, H p = none → Q (.ref p) (upd H p (.lst (cutV xs lo hi)))
def flatV : V → Bool
  | .non => true
  | .bl _ => true
  | .int _ => true
  | .str _ => true
  | _ => false
/- == of flat values -/
def eqV : V → V → Bool
  | .non, .non => true
  | .bl a, .bl b => a == b
  | .bl a, .int b => (if a then 1 else 0) == b
  | .int a, .bl b => a == (if b then 1 else 0)
  | .int a, .int b => a == b
  | .str a, .str b => a == b
  | _, _ => false
theorem eqAt_V {A : Around} {s : Shared} {y x : V} {u v : Value} (ry : RelV y u) (rx : RelV x v) (fy : flatV y = true) (fx : flatV x = true) : SeqAt.EqAt A s u v (eqV y x) := by
  cases y with
  | non =>
    cases ry
    cases x with
    | non => cases rx; exact SeqAt.EqAt.same _
    | bl b => cases rx; exact SeqAt.EqAt.none_bool b
    | int b => obtain ⟨t, rfl⟩ := rx; exact SeqAt.EqAt.none_int b t
    | str b => obtain ⟨t, rfl⟩ := rx; exact SeqAt.EqAt.none_str b t
    | _ => exact absurd (show false = true from fx) Bool.false_ne_true
  | bl a =>
    cases ry
    cases x with
    | non => cases rx; exact SeqAt.EqAt.bool_none a
    | bl b => cases rx; exact SeqAt.EqAt.bool_bool a b
    | int b => obtain ⟨t, rfl⟩ := rx; exact SeqAt.EqAt.bool_int a b t
    | str b => obtain ⟨t, rfl⟩ := rx; exact SeqAt.EqAt.bool_str a b t
    | _ => exact absurd (show false = true from fx) Bool.false_ne_true
  | int a =>
    obtain ⟨t', rfl⟩ := ry
    cases x with
    | non => cases rx; exact SeqAt.EqAt.int_none a t'
    | bl b => cases rx; exact SeqAt.EqAt.int_bool a t' b
    | int b => obtain ⟨t, rfl⟩ := rx; exact SeqAt.EqAt.int_int a t' b t
    | str b => obtain ⟨t, rfl⟩ := rx; exact SeqAt.EqAt.int_str a t' b t
    | _ => exact absurd (show false = true from fx) Bool.false_ne_true
  | str a =>
    obtain ⟨t', rfl⟩ := ry
    cases x with
    | non => cases rx; exact SeqAt.EqAt.str_none a t'
    | bl b => cases rx; exact SeqAt.EqAt.str_bool a t' b
    | int b => obtain ⟨t, rfl⟩ := rx; exact SeqAt.EqAt.str_int a t' b t
    | str b => obtain ⟨t, rfl⟩ := rx; exact SeqAt.EqAt.str_str a t' b t
    | _ => exact absurd (show false = true from fx) Bool.false_ne_true
  | _ => exact absurd (show false = true from fy) Bool.false_ne_true
/- the items' answers, read off the values (a value's own answer does not lean on its token) -/
def eqU (x : V) (u : Value) : Bool := match u with
  | .none => eqV .non x
  | .bool b => eqV (.bl b) x
  | .int i _ => eqV (.int i) x
  | .str z _ => eqV (.str z) x
  | _ => false
theorem eqU_of {x y : V} {u : Value} (r : RelV y u) (f : flatV y = true) : eqU x u = eqV y x := by
  cases y with
  | non => cases r; rfl
  | bl b => cases r; rfl
  | int i => obtain ⟨t, rfl⟩ := r; rfl
  | str z => obtain ⟨t, rfl⟩ := r; rfl
  | _ => exact absurd (show false = true from f) Bool.false_ne_true
theorem any_eqU {x : V} : ∀ {xs : List V} {us : List Value}, Vals xs us → xs.all flatV = true → us.any (eqU x) = xs.any fun y => eqV y x
  | _, _, .nil, _ => rfl
  | y :: xs, u :: us, .cons r t, f => by
    rw [List.all_cons, Bool.and_eq_true] at f
    rw [List.any_cons, List.any_cons, eqU_of r f.1, any_eqU t f.2]
theorem mem_eqAt {A : Around} {s : Shared} {x : V} {v : Value} (rx : RelV x v) (fx : flatV x = true) : ∀ {xs : List V} {us : List Value}, Vals xs us → xs.all flatV = true → ∀ u ∈ us, SeqAt.EqAt A s u v (eqU x u)
  | _, _, .nil, _ => fun u hu => by cases hu
  | y :: xs, u :: us, .cons r t, f => fun u' hu => by
    rw [List.all_cons, Bool.and_eq_true] at f
    rcases List.mem_cons.mp hu with rfl | hu
    · rw [eqU_of r f.1]; exact eqAt_V r rx f.1 fx
    · exact mem_eqAt rx fx t f.2 u' hu
def inV (x : V) (xs : List V) : Bool := xs.any fun y => eqV y x
/- x in a list or tuple of flat items -/
def rIn (K : PySem.W.Frag) (neg : Bool) : R2 := fun x y H Q => ∃ p xs, y = .ref p ∧ (SqL K H p xs ∨ SqT K H p xs) ∧ flatV x = true ∧ xs.all flatV = true ∧ Q (.bl (if neg then !inV x xs else inV x xs)) H
theorem op_in_seq : OpR X (compareOp .In) (rIn X.K false) := by
  intro pins s σ H x y v u Q I rx ry h
  obtain ⟨p, xs, rfl, hq, fx, fs, q⟩ := h
  cases ry
  rcases hq with hq | hq
  · obtain ⟨its, r, pl, hz⟩ := I.list hq
    refine SeqAt.in_listAt (eqU x) pl.isList (fun w hw => mem_eqAt rx fx r fs w (by simpa using hw)) ⟨.bl _, H, I, rfl, ?_⟩
    rw [show its.toArray.any (eqU x) = its.any (eqU x) by simp, any_eqU r fs]
    exact q
  · obtain ⟨its, r, pl, hz⟩ := I.tuple hq
    refine SeqAt.in_tupleAt (eqU x) pl (fun w hw => mem_eqAt rx fx r fs w (by simpa using hw)) ⟨.bl _, H, I, rfl, ?_⟩
    rw [show its.toArray.any (eqU x) = its.any (eqU x) by simp, any_eqU r fs]
    exact q
theorem op_notIn_seq : OpR X (compareOp .NotIn) (rIn X.K true) := by
  intro pins s σ H x y v u Q I rx ry h
  obtain ⟨p, xs, rfl, hq, fx, fs, q⟩ := h
  cases ry
  rcases hq with hq | hq
  · obtain ⟨its, r, pl, hz⟩ := I.list hq
    refine SeqAt.notIn_listAt (eqU x) pl.isList (fun w hw => mem_eqAt rx fx r fs w (by simpa using hw)) ⟨.bl _, H, I, rfl, ?_⟩
    rw [show its.toArray.any (eqU x) = its.any (eqU x) by simp, any_eqU r fs]
    exact q
  · obtain ⟨its, r, pl, hz⟩ := I.tuple hq
    refine SeqAt.notIn_tupleAt (eqU x) pl (fun w hw => mem_eqAt rx fx r fs w (by simpa using hw)) ⟨.bl _, H, I, rfl, ?_⟩
    rw [show its.toArray.any (eqU x) = its.any (eqU x) by simp, any_eqU r fs]
    exact q
theorem call_len_seq : CallR X (.builtin "len") (fun xs H Q => ∃ p ys, xs = [.ref p] ∧ (SqL X.K H p ys ∨ SqT X.K H p ys) ∧ Q (.int ys.length) H) := by
  intro pins s σ H xs us Q I r h
  obtain ⟨p, ys, rfl, hq, q⟩ := h
  obtain ⟨u, rfl, rx⟩ := vals1 r
  cases rx
  have hn := line63
  rcases hq with hq | hq
  · obtain ⟨its, r', pl, hz⟩ := I.list hq
    have hlen := r'.length
    exact Calls.call_len_list pl.isList (by simp only [List.size_toArray] <;> omega) ⟨.int ys.length, H, I.tok _, ⟨s.toks + 1, by rw [List.size_toArray, hlen]⟩, q⟩
  · obtain ⟨its, r', pl, hz⟩ := I.tuple hq
    have hlen := r'.length
    exact len_tuple pl (by simp only [List.size_toArray] <;> omega) ⟨.int ys.length, H, I.tok _, ⟨s.toks + 1, by rw [List.size_toArray, hlen]⟩, q⟩
theorem CallR.or {f : Value} {r r' : List V → Hp → VK → Prop} (h : CallR X f r) (h' : CallR X f r') : CallR X f (fun xs H Q => r xs H Q ∨ r' xs H Q) := by
  intro pins s σ H xs us Q I rs q
  rcases q with q | q
  · exact h pins s σ H xs us Q I rs q
  · exact h' pins s σ H xs us Q I rs q
theorem call_list_of : CallR X (.type "list") (fun xs H Q => ∃ p ys, xs = [.ref p] ∧ (SqL X.K H p ys ∨ SqT X.K H p ys) ∧ ∀ l, H l = none → Q (.ref l) (upd H l (.lst ys))) := by
  intro pins s σ H xs us Q I r h
  obtain ⟨p, ys, rfl, hq, q⟩ := h
  obtain ⟨u, rfl, rx⟩ := vals1 r
  cases rx
  have fin : ∀ (its : List Value), Vals ys its → ys.length ≤ sizeLine → ∀ (h' : Heap) (c' : Nat), (∀ b o', s.heap.get? b = some o' → h'.get? b = some o') →
      h'.get? s.heap.objs.size = some { cls := .type "list", dict := none, data := .seq its.toArray c', slots := #[] } → EP X pins σ Q (.ref s.heap.objs.size) { s with heap := h' } := fun its r' hz h' c' kp e =>
    ⟨.ref s.heap.objs.size, _, I.laid (t' := s.toks) kp (Nat.le_refl _) (show ObjOk X.prog X.w _ h' _ (.lst ys) from ⟨hz, its, c', r', e⟩), rfl, q _ (I.hok.fresh (Nat.le_refl _))⟩
  rcases hq with hq | hq
  · obtain ⟨its, r', pl, hz⟩ := I.list hq
    have hlen := r'.length
    obtain ⟨o, ho, hc, n, hd⟩ := pl.isList
    exact call_list_seq p (.inl rfl) ho hc hd (fun h' c' kp e => fin its r' hz h' c' kp e) (by simp only [List.size_toArray] <;> omega)
  · obtain ⟨its, r', pl, hz⟩ := I.tuple hq
    have hlen := r'.length
    obtain ⟨o, ho, hc, n, hd⟩ := pl
    exact call_list_seq p (.inr rfl) ho hc hd (fun h' c' kp e => fin its r' hz h' c' kp e) (by simp only [List.size_toArray] <;> omega)
theorem call_tuple_of : CallR X (.type "tuple") (fun xs H Q => ∃ p ys, xs = [.ref p] ∧ ((SqL X.K H p ys ∧ ∀ l, H l = none → Q (.ref l) (upd H l (.tup ys))) ∨ (SqT X.K H p ys ∧ Q (.ref p) H))) := by
  intro pins s σ H xs us Q I r h
  obtain ⟨p, ys, rfl, h⟩ := h
  obtain ⟨u, rfl, rx⟩ := vals1 r
  cases rx
  rcases h with ⟨hq, q⟩ | ⟨hq, q⟩
  · obtain ⟨its, r', pl, hz⟩ := I.list hq
    have hlen := r'.length
    refine call_tuple_list pl.isList (fun h' kp => ?_) (by simp only [List.size_toArray] <;> omega)
    have I1 : Inv X pins σ H { s with heap := h' } := I.kept (t' := s.toks) kp
    have I2 : Inv X pins σ (upd H h'.objs.size (.tup ys)) { s with heap := h'.push { cls := .type "tuple", data := .seq its.toArray } } :=
      I1.laid (t' := s.toks) (fun b o e => Heap.get?_push_of_some _ e) (Nat.le_refl _) (show ObjOk X.prog X.w _ _ _ (.tup ys) from ⟨hz, its, r', IsTup.new _ _⟩)
    exact ⟨.ref h'.objs.size, _, I2, rfl, q _ (I1.hok.fresh (Nat.le_refl _))⟩
  · obtain ⟨its, r', pl, hz⟩ := I.tuple hq
    exact call_tuple_same pl ⟨.ref p, H, I, rfl, q⟩

/-! ### the call of a builtin's method: o.m(..) -/
/- the value is of that builtin type -/
def tyV (K : PySem.W.Frag) (T : String) (x : V) (H : Hp) : Prop := match x with
  | .str _ => T = "str"
  | .int _ => T = "int"
  | .ref p => (T = "list" ∧ ∃ xs, SqL K H p xs) ∨ (T = "tuple" ∧ ∃ o, K.lookup p = some o ∧ o.cls = .type "tuple" ∧ o.dict = none) ∨
      (T = "dict" ∧ ((∃ kvs, H p = some (.dK kvs)) ∨ ∃ kvs, H p = some (.dT kvs))) ∨ (T = "set" ∧ ∃ S n, H p = some (.set S n))
  | _ => False
theorem tyV_is {pins : List (Addr × Obj)} {σ : St} {H : Hp} {s : Shared} {T : String} {x : V} {v : Value} (I : Inv X pins σ H s) (r : RelV x v) (ty : tyV X.K T x H) :
    s.TypeIs v T ∧ ∀ a, v = .ref a → ∃ ob, s.heap.get? a = some ob ∧ ob.dict = none := by
  cases x with
  | str z =>
    obtain ⟨t, rfl⟩ := r
    cases (show T = "str" from ty)
    exact ⟨typeIs_str s z t, fun _ e => nomatch e⟩
  | int i =>
    obtain ⟨t, rfl⟩ := r
    cases (show T = "int" from ty)
    exact ⟨typeIs_int s i t, fun _ e => nomatch e⟩
  | ref p =>
    cases r
    rcases ty with ⟨rfl, xs, hq⟩ | ⟨rfl, o, hk, hc, hd⟩ | ⟨rfl, hk⟩ | ⟨rfl, S, n, hk⟩
    · obtain ⟨its, _, pl, _⟩ := I.list hq
      refine ⟨pl.isList.typeIs, fun a e => ?_⟩
      cases e
      obtain ⟨o, n, e, c, hd, _⟩ := pl
      exact ⟨o, e, hd⟩
    · refine ⟨⟨o, I.kIn p o hk, hc⟩, fun a e => ?_⟩
      cases e
      exact ⟨o, I.kIn _ o hk, hd⟩
    · have z : ∃ o, s.heap.get? p = some o ∧ o.ExactDict := by
        rcases hk with ⟨kvs, hk⟩ | ⟨kvs, hk⟩
        · obtain ⟨_, _, _, _, o, _, _, e, ex, _⟩ := I.hok p _ hk
          exact ⟨o, e, ex⟩
        · obtain ⟨_, _, _, _, o, _, _, e, ex, _⟩ := I.hok p _ hk
          exact ⟨o, e, ex⟩
      obtain ⟨o, e, ex⟩ := z
      refine ⟨⟨o, e, ex.1⟩, fun a e2 => ?_⟩
      cases e2
      exact ⟨o, e, ex.2.1⟩
    · obtain ⟨o, _, _, _, e, ex, _⟩ := I.hok p _ hk
      refine ⟨⟨o, e, ex.1⟩, fun a e2 => ?_⟩
      cases e2
      exact ⟨o, e, ex.2.1⟩
  | _ => exact False.elim ty
def tBM0 (K : PySem.W.Frag) (T : String) (r : V → List V → Hp → VK → Prop) (to : TE) : TE := fun σ H Q => to σ H fun x H1 => tyV K T x H1 ∧ r x [] H1 Q
def tBM (K : PySem.W.Frag) (T : String) (r : V → List V → Hp → VK → Prop) (to : TE) (t : TA) : TE := fun σ H Q => to σ H fun x H1 => tyV K T x H1 ∧ t σ H1 fun xs H2 => r x xs H2 Q
variable {o e : Expr} {es : List Expr} {to : TE} {t : TA} {name : Str} {apos cpos : Pos} {T id : String} {r : V → List V → Hp → VK → Prop}
theorem pe_bm (pa : PlainAttrs T) (slot : Slot T name id) (hty : typeOf (.builtin id) = pure (.type "method_descriptor")) (hm : MtR X id r) (ho : PE X o to) (ha : PA X (e :: es) t)
    (hbase : attributeBase o name X.env (eval o X.env) = eval o X.env := by rfl)
    (hfew : ((backTo cpos (starEach (e :: es) X.env)).all (fun x => !x.1) && (backToKw cpos (keywordEach [] X.env)).all (fun x => x.1.isSome)
      && decide ((e :: es).length + ([] : List Keyword).length + (if ([] : List Keyword).isEmpty then 0 else 1) < 30)) = true := by rfl)
    (hline : (apos.endLine == cpos.line) = true := by rfl) (hs : starEach (e :: es) X.env = (false, eval e X.env) :: starEach es X.env := by rfl) (hplain : (backTo cpos (starEach es X.env)).any (·.1) = false := by rfl) :
    PE X (.Call (.Attribute o name apos) (e :: es) [] cpos) (tBM X.K T r to t) := by
  intro pins s σ H Q I h
  refine wpAny_Call_method_late hbase hfew hline rfl (thn (ho pins s σ H _ I h) fun v s1 ⟨x, H1, I1, r1, ty, q1⟩ => ?_)
  obtain ⟨h1, h2⟩ := tyV_is I1 r1 ty
  refine ⟨T, id, pa, slot, hty, h1, h2, ?_⟩
  have hA := ha cpos pins s1 σ H1 _ I1 q1
  rw [hs] at hA ⊢
  refine Calls.callWith_builtin (by show (false || (backTo cpos (starEach es X.env)).any (·.1)) = false; rw [hplain] <;> rfl) (Calls.evalArgs_plain ?_)
  exact thn hA fun us s2 ⟨vs, H2, I2, r2, q2⟩ => hm pins s2 σ H2 x vs v us Q I2 r1 r2 q2
/- xs.append(e), list.index on a module's tuple .. are MtR facts of 06m -/
end
end L2

namespace L2
open PySem PySem.Spec PyProof.Rows

def MtM (X : Cx) (id : String) (r : V → List V → Hp → VK → Prop) : Prop :=
  ∀ (pins : List (Addr × Obj)) (s : Shared) (σ : St) (H : Hp) (x : V) (xs : List V) (v : Value) (us : List Value) (Q : VK), Inv X pins σ H s → RelV x v → Vals xs us → r x xs H Q →
    wpAny (model X.prog X.w) X.A (call (.builtin id) (v :: us)) (EP X pins σ Q) X.xe s

/-! ### lists of values -/
theorem Vals.one : ∀ {x : V} {us : List Value}, Vals [x] us → ∃ u, us = [u] ∧ RelV x u
  | _, _, .cons r .nil => ⟨_, rfl, r⟩
theorem Vals.two : ∀ {x y : V} {us : List Value}, Vals [x, y] us → ∃ u v, us = [u, v] ∧ RelV x u ∧ RelV y v
  | _, _, _, .cons r (.cons q .nil) => ⟨_, _, rfl, r, q⟩
theorem Vals.zero : ∀ {us : List Value}, Vals [] us → us = []
  | _, .nil => rfl
theorem Vals.dropLast {xs : List V} {us : List Value} (h : Vals xs us) : Vals xs.dropLast us.dropLast := by
  induction h with
  | nil => exact .nil
  | cons r t ih =>
    cases t with
    | nil => exact .nil
    | cons q t' => exact .cons r ih
theorem Vals.eraseIdx : ∀ {xs : List V} {us : List Value} (i : Nat), Vals xs us → Vals (xs.eraseIdx i) (us.eraseIdx i)
  | _, _, _, .nil => .nil
  | _, _, 0, .cons _ t => t
  | _, _, i + 1, .cons r t => .cons r (Vals.eraseIdx i t)
theorem Vals.reverse {xs : List V} {us : List Value} (h : Vals xs us) : Vals xs.reverse us.reverse := by
  induction h with
  | nil => exact .nil
  | cons r t ih => rw [List.reverse_cons, List.reverse_cons]; exact Vals.append ih (.cons r .nil)
section
variable {X : Cx} {pins : List (Addr × Obj)} {σ : St} {H : Hp} {s : Shared} {l b : Addr} {xs ys zs : List V}

/-! ### the two steps: a tracked list is rewritten, a new list is laid -/
theorem Inv.lset {its its' : List Value} {n : Nat} {f : Array Value → Array Value} {t' : Nat} (I : Inv X pins σ H s) (hH : H l = some (.lst xs))
    (e : s.heap.get? l = some { cls := .type "list", data := .seq its.toArray n }) (hf : f its.toArray = its'.toArray) (hv : Vals ys its') (hz : ys.length ≤ sizeLine) :
    Inv X pins σ (upd H l (.lst ys)) { s with heap := s.heap.update l (Obj.mapSeq f), toks := t' } := by
  have q := PySem.IsL.update e f
  rw [hf] at q
  refine I.write (x := l) (e := l) (by rw [hH]; exact trivial) (.inl rfl) (fun b' u hb hu => (Heap.get?_update_other s.heap (Obj.mapSeq f) (Ne.symm hb)).trans hu) ⟨_, q⟩ ?_
  exact ⟨hz, its', _, hv, q⟩
theorem Inv.lnew {its : List Value} {t' : Nat} (I : Inv X pins σ H s) (hv : Vals ys its) (hz : ys.length ≤ sizeLine) :
    Inv X pins σ (upd H s.heap.objs.size (.lst ys)) { s with heap := s.heap.push { cls := .type "list", data := .seq its.toArray }, toks := t' } :=
  I.laid (fun _ _ q => Heap.get?_push_of_some _ q) (Nat.le_refl _) ⟨hz, its, 0, hv, Heap.get?_push_size _ rfl⟩
theorem Inv.fresh (I : Inv X pins σ H s) : H s.heap.objs.size = none := I.hok.fresh (Nat.le_refl _)
theorem Inv.lstM (I : Inv X pins σ H s) (hH : H l = some (.lst xs)) : xs.length ≤ sizeLine ∧ ∃ (its : List Value) (n : Nat), Vals xs its ∧ xs.length = its.length ∧ s.heap.get? l = some { cls := .type "list", data := .seq its.toArray n } := by
  obtain ⟨z, its, n, r, e⟩ := I.hok l _ hH
  exact ⟨z, its, n, r, r.length, e⟩

end

section
variable {X : Cx}

/-! ### methods -/
def rAppend : V → List V → Hp → VK → Prop := fun x vs H Q => ∃ l xs y, x = .ref l ∧ vs = [y] ∧ H l = some (.lst xs) ∧ xs.length < sizeLine ∧ Q .non (upd H l (.lst (xs ++ [y])))
theorem mt_append : MtM X "list.append" rAppend := by
  intro pins s σ H x vs v us Q I rx rv h
  obtain ⟨l, xs, y, rfl, rfl, hH, hz, q⟩ := h
  cases rx
  obtain ⟨u, rfl, ru⟩ := rv.one
  obtain ⟨z, its, n, r, hl, e⟩ := I.lstM hH
  refine call_meets F.slot_list_append ⟨_, e, rfl⟩ F.entry_list_append (F.args_list_append_2 _ _) (PySem.list_append l its.toArray n u (by rw [List.size_toArray]; omega)) ⟨e, ?_⟩
  refine ⟨.non, _, I.lset (its' := its ++ [u]) hH e (by simp) (r.append (.cons ru .nil)) ?_, rfl, q⟩
  rw [List.length_append, List.length_singleton]
  omega

def rExtend : V → List V → Hp → VK → Prop := fun x vs H Q => ∃ l b xs zs, x = .ref l ∧ vs = [.ref b] ∧ H l = some (.lst xs) ∧ H b = some (.lst zs) ∧ xs.length + zs.length ≤ sizeLine ∧ Q .non (upd H l (.lst (xs ++ zs)))
def rPop : V → List V → Hp → VK → Prop := fun x vs H Q => ∃ l xs y, x = .ref l ∧ vs = [] ∧ H l = some (.lst xs) ∧ xs[xs.length - 1]? = some y ∧ Q y (upd H l (.lst xs.dropLast))
def rPopAt : V → List V → Hp → VK → Prop := fun x vs H Q => ∃ l xs i k y, x = .ref l ∧ vs = [.int i] ∧ H l = some (.lst xs) ∧ -(2 ^ 63) ≤ i ∧ i < 2 ^ 63 ∧ seqIndex? i xs.length = some k ∧ xs[k]? = some y ∧ Q y (upd H l (.lst (xs.eraseIdx k)))
def rReverse : V → List V → Hp → VK → Prop := fun x vs H Q => ∃ l xs, x = .ref l ∧ vs = [] ∧ H l = some (.lst xs) ∧ Q .non (upd H l (.lst xs.reverse))
def rClear : V → List V → Hp → VK → Prop := fun x vs H Q => ∃ l xs, x = .ref l ∧ vs = [] ∧ H l = some (.lst xs) ∧ Q .non (upd H l (.lst []))
def rCat : R2 := fun x y H Q => ∃ l b xs zs, x = .ref l ∧ y = .ref b ∧ H l = some (.lst xs) ∧ H b = some (.lst zs) ∧ xs.length + zs.length ≤ sizeLine ∧ ∀ p, H p = none → Q (.ref p) (upd H p (.lst (xs ++ zs)))
theorem op_cat : OpR X (binaryOp .Add) rCat := by
  intro pins s σ H x y v u Q I rx ry h
  obtain ⟨l, b, xs, zs, rfl, rfl, hH, hB, hz, q⟩ := h
  cases rx
  cases ry
  obtain ⟨z, its, n, r, hl, e⟩ := I.lstM hH
  obtain ⟨z2, its2, n2, r2, hl2, e2⟩ := I.lstM hB
  refine PySem.P.add_list e e2 ?_ (by rw [List.size_toArray, List.size_toArray]; omega)
  have ea : its.toArray ++ its2.toArray = (its ++ its2).toArray := by simp
  rw [ea]
  exact ⟨.ref _, _, I.lnew (t' := s.toks) (r.append r2) (by rw [List.length_append]; omega), rfl, q _ I.fresh⟩
/- a list times an int (a negative one is nothing) -/
def rRep : R2 := fun x y H Q => ∃ l k xs, x = .ref l ∧ y = .int k ∧ H l = some (.lst xs) ∧ -(2 ^ 63) ≤ k ∧ k < 2 ^ 63 ∧ xs.length * k.toNat ≤ sizeLine ∧
  ∀ p, H p = none → Q (.ref p) (upd H p (.lst (List.replicate k.toNat xs).flatten))
end

/-! ### xs[a:b] = ys -/
section
variable {prog : Program} {w : World} {A : Around} {E : Value → Shared → Prop} {s : Shared}
set_option maxRecDepth 100000 in
/- list.__setitem__ with a slice of step one and another list -/
end

section
variable {X : Cx}
/- xs[a:c] = ys of another list, at the value level: sl is the slice object that was just made -/
end
end L2

namespace Att
open PySem PySem.W PySem.Calls PyProof.Rows

/-! ### the script -/
theorem ints_of_wellAll {P : Params} {h : Heap} : ∀ (ns : List Int) (vs : List Value), WellAll P h vs (ns.map WData.int) → IntsAre vs ns := by
  intro ns
  induction ns with
  | nil =>
    intro vs w
    rw [List.map_nil] at w
    cases w
    exact .nil
  | cons n ns ih =>
    intro vs w
    rw [List.map_cons] at w
    cases w with
    | cons a b =>
      cases a
      exact .cons _ _ (ih _ b)

theorem script_of {l : OpenLaw} {n : Nat} (hn : l.most = some n) {P : Params} {h : Heap} {args : List WData} {vals : List Value}
    (hpre : l.row.toRowW.claim.pre args = true) (hwl : WellAll P h vals args) :
    ∃ a vs ns, vals = [Value.ref a] ∧ args = [WData.list (ns.map WData.int)] ∧ h.get? a = some { cls := .type "list", data := .seq vs.toArray } ∧ IntsAre vs ns ∧ ns.length ≤ n := by
  have hsh : WShape.hasAll [] args [.list .int] = true := (pre_splitW hpre).1
  have hc : l.pre.holds [] { args := args } = true := (pre_splitW hpre).2
  obtain ⟨d, r, rfl, h1, h2⟩ := hasAllW_cons hsh
  obtain rfl := hasAllW_nil h2
  obtain ⟨xs, rfl, h3⟩ := hasW_list h1
  obtain ⟨ns, rfl⟩ := items_int h3
  have hlen : ns.length ≤ n := by
    unfold OpenLaw.pre at hc
    have h4 : (WTm.not (.lt (.lit (.int (n : Int))) (.len (.arg 0)))).holds [] { args := [.list (ns.map .int)] } = true := by
      have h4 := (holds_andW hc).1
      rw [hn] at h4
      exact h4
    have h5 := condW_of h4 (w_not (w_lt w_lit (w_len_list (w_arg rfl))))
    rw [List.length_map] at h5
    refine Nat.le_of_not_lt fun q => ?_
    have q' : (n : Int) < ((ns.length : Nat) : Int) := by omega
    first
      | (rw [decide_eq_true q'] at h5; exact absurd h5 (by decide))
      | (simp at h5; omega)
  cases hwl with
  | cons w1 w2 =>
    cases w2
    cases w1 with
    | list ho hall => exact ⟨_, _, ns, rfl, rfl, ho, ints_of_wellAll ns _ hall, hlen⟩

theorem post_true (l : OpenLaw) (args : List WData) : l.row.toRowW.claim.post args (.bool true) args = true :=
  postW_of (r := l.row.toRowW) (X := (true == true))
    (show WShape.has [] (.bool true) .bool = true by first | rfl | decide | simp [WShape.has, WShape.arms, WShape.armsAll])
    (show (WTm.eq .res (.lit (.bool true))).value [] { args := args, res := some (.bool true), after := args } = some (.bool (true == true)) from w_eq_bool (w_res rfl) w_lit) rfl

/-! ### the attachment: holds_open's last premise (the goal 'hc' behind k_head) from a wpAny of the law's body -/
/- the same from a codeAny of the CALL (for a layer whose function contracts speak of calls) -/
theorem attach_call {l : OpenLaw} {n : Nat} {q : Program} {loose : List Str} {XP : (Str → Option Value) → Heap → Prop} {YP : World → Heap → Prop} {d : DefRec}
    (hn : l.most = some n) (hdf : d.params.defaults = [])
    (call : ∀ (w : World) (s₀ s₁ : Shared) (mg mb : Str → Option Value) (fa : Addr) (o : Obj) (pm cd doc : Value) (a : Addr) (vs : List Value) (ns : List Int),
      Ground q loose [] XP w s₀ mg mb s₁.heap → YP w s₁.heap →
      s₁.heap.get? fa = some o → o.data = .func (docDef d.name d.params d.body d.scope pm cd doc) → s₁.heap.CodeRec cd d.name → mg d.name = some (.ref fa) →
      s₁.heap.get? a = some { cls := .type "list", data := .seq vs.toArray } → IntsAre vs ns → ns.length ≤ n → s₁.gens = #[] →
      codeAny (model l.prog w) callerA (.call (.ref fa) ⟨[.ref a], []⟩) (fun r s' => r = .ok (.ret (.bool true)) ∧ OldK s₁.heap s'.heap ∧ s'.os = s₁.os ∧ AllBare s'.gens) s₁) :
    WalkO q loose XP YP l.row.toRowW d [] (fun f vs => PySem.call f vs) := by
  intro w s₀ s₁ mg mb G Y fa o pm cd doc dV kV ho hd hcd hD hmg hg args vals as hpre hlay hrd hwl hlo
  obtain rfl : dV = .none := Dflts.none hD hdf
  obtain rfl : kV = .none := Dflts.noKw hD
  obtain ⟨a, vs, ns, rfl, rfl, hobj, hints, hlen⟩ := script_of hn hpre hwl
  refine enter_call (codeAny_mono (call w s₀ s₁ mg mb fa o pm cd doc a vs ns G Y ho (fd_plain hd) hcd hmg hobj hints hlen hg) fun r s' hq => ?_)
  obtain ⟨rfl, h2, h3, h4⟩ := hq
  exact ⟨.inl ⟨.bool true, .bool true, [], rfl, fun _ => rfl, .bool true, post_true l _, fun _ => ⟨List.Pairwise.nil, fun _ hm => (nomatch hm)⟩⟩, h2, h3, h4⟩

/- the same where the top left finished generators (o_head chose holds_openN): nothing may have changed at all and no generator may be left -/
section
variable {prog : Program} {w : World} {A : Around} {E : Value → Shared → Prop} {s : Shared} {K : Frag}

/- a def of the module, or a method (qual 'C.m'), entered: the frame is the next address; cells behind it -/
/- C(..): dict at size, instance at size + 1, then __init__ -/
/- x.name where the instance's dict holds the name and the class does not -/
/- x.m(..): the method found in the class -/
def noObjs (h : Heap) : Heap := { h with objs := #[] }
def ledger (h : Heap) (L d : Addr) : List (Addr × Obj) := (List.range h.objs.size).filterMap fun a => if a = L ∨ a = d then none else (h.get? a).map fun o => (a, o)
/- Upd of the head entry (for append_K, setItem_K ..) -/
/- x.name = v over any heap: L is any namespace of the heap (the frame's, say): its map stays, its object is not told; all else but the dict stays -/
end
end Att

namespace L2
open PySem PySem.Spec PyProof.Rows

theorem vals_ints : ∀ {vs : List Value} {ns : List Int}, IntsAre vs ns → Vals (ns.map V.int) vs
  | _, _, .nil => .nil
  | _, _, .cons n t h => .cons ⟨t, rfl⟩ (vals_ints h)

/- nothing is tracked but the script, known to the object (or it is an object of the module) -/
def Only (H : Hp) : Prop := ∀ b, H b = none ∨ ∃ o xs, H b = some (.frz o (.lst xs))

/- THE HEAD: the law's promise, at the heap behind the top. F, the promise of the law's def, may use that base is part of the heap (so K.In base, base.Ns mainGlobals mg stand in Mod) -/
theorem law_call {P : Program} {w : World} {K : PySem.W.Frag} {mg mb : Str → Option Value} {CX : CXT} {k : Nat} {fa a : Addr} {fd : FuncData} {x : Str} {sp : Sp} {s₁ : Shared} {vs : List Value} {ns : List Int}
    (KX : K.In s₁.heap) (hns : s₁.heap.Ns mainGlobals mg) (hb : s₁.heap.Ns builtinsNs mb) (hbb : ∀ x : Str, x ≠ "__name__" → mb x = bootBuiltins x) (hlim : s₁.heap.NoLimit) (hg : s₁.gens = #[])
    (ha : s₁.heap.get? a = some { cls := .type "list", data := .seq vs.toArray }) (hi : IntsAre vs ns) (hl : ns.length ≤ sizeLine) (hr : Room k callerA)
    (F : ∀ base : Heap, K.In base → base.Ns mainGlobals mg → FnOk P w K mg base CX k fa fd [x] sp) (hbind : ∀ (s : Shared) (u : Value), BindsTo s fd ⟨[u], []⟩ [(x, u)])
    (hsp : ∀ H : Hp, Only H → SqL K H a (ns.map V.int) → sp [.ref a] H (fun v _ => v = .bl true) fun _ _ _ => False)
    (hCX : ∀ H e s', CX [] H s₁ (fun _ _ _ => False) e s' → False) :
    codeAny (model P w) callerA (.call (.ref fa) ⟨[.ref a], []⟩) (fun r s' => r = .ok (.ret (.bool true)) ∧ OldK s₁.heap s'.heap ∧ s'.os = s₁.os ∧ AllBare s'.gens) s₁ := by
  have rv := vals_ints hi
  have lenV := hi.length
  -- from an abstract heap in which nothing but the script may be tracked
  have core : ∀ H : Hp, Only H → SqL K H a (ns.map V.int) → HOk P w H s₁.heap → (∀ b, H b ≠ none → b = a) → (H a ≠ none → K.lookup a = none) →
      codeAny (model P w) callerA (.call (.ref fa) ⟨[.ref a], []⟩) (fun r s' => r = .ok (.ret (.bool true)) ∧ OldK s₁.heap s'.heap ∧ s'.os = s₁.os ∧ AllBare s'.gens) s₁ := by
    intro H hO hS hok hA hK
    have base_of : ∀ {b : Addr} {o : Obj}, s₁.heap.get? b = some o → H b = none → (hidT s₁.heap H).get? b = some o := fun e n => hidT_get e n
    have noA : ∀ {b : Addr} {o : Obj} {es : Array DictEntry} {ep : Nat}, s₁.heap.get? b = some o → o.data = .dict es ep → H b = none := fun {b o es ep} e d => by
      cases q : H b with
      | none => rfl
      | some u =>
        have e' : b = a := hA b (by rw [q]; simp)
        subst e'
        rw [ha] at e; cases e
        have d' : Data.seq vs.toArray _ = Data.dict es ep := d
        cases d'
    have nsK : ∀ {b : Addr} {m : Str → Option Value}, s₁.heap.Ns b m → (hidT s₁.heap H).Ns b m := fun {b m} ⟨o, es, ep, e, d, r⟩ => ⟨o, es, ep, base_of e (noA e d), d, r⟩
    have hKb : K.In (hidT s₁.heap H) := fun b o e => base_of (KX b o e) (by
      cases q : H b with
      | none => rfl
      | some u =>
        have e' : b = a := hA b (by rw [q]; simp)
        subst e'
        rw [hK (by rw [q]; simp)] at e; cases e)
    have hM : Mod K mg (hidT s₁.heap H) := ⟨hKb, nsK hns, ⟨mb, nsK hb, hbb⟩, let ⟨mc, h1, h2⟩ := hlim; ⟨mc, nsK h1, h2⟩⟩
    have e0 : Env0 P w K mg (hidT s₁.heap H) callerA [] s₁ H := ⟨rfl, hM, fun b o e => of_hidT e, Nat.le_of_eq (hidT_size _ _), trivial, fun b hb => absurd (show b ∈ ([] : List Addr) from hb) (by simp), hok, .of_eq hg⟩
    refine codeAny_mono ((F _ hKb (nsK hns)).run callerA [] s₁ H ⟨[.ref a], []⟩ [.ref a] [.ref a] _ _ hr e0 (hbind s₁ (.ref a)) (.cons rfl .nil) (hsp H hO hS)) fun r s' h => ?_
    cases r with
    | error e => exact (hCX H e s' h).elim
    | ok fl =>
      cases fl with
      | next => exact False.elim h
      | brk => exact False.elim h
      | cont => exact False.elim h
      | ret u =>
        obtain ⟨v, H', os, bare, un, hok', r', q⟩ := h
        have q' : v = .bl true := q
        subst q'
        obtain rfl : u = Value.bool true := r'
        refine ⟨rfl, OldK.of_keep fun b o e => ?_, os, bare⟩
        cases q : H b with
        | none => exact un.keep b o e q (by intro z; exact absurd (show b ∈ ([] : List Addr) from z) (by simp)) (by simp)
        | some u =>
          rcases hO b with z | ⟨ob, xs, z⟩
          · rw [q] at z; cases z
          · have z2 := un.frzs b ob _ z
            obtain ⟨e1, _⟩ := hok b _ z
            obtain ⟨e2, _⟩ := hok' b _ z2
            rw [e] at e1; cases e1
            exact e2
  cases hk : K.lookup a with
  | some o =>
    -- the script is one of the module's own objects
    have e := KX a o hk
    rw [ha] at e
    cases e
    refine core (fun _ => none) (fun _ => .inl rfl) (.inr ⟨_, vs.toArray, _, hk, rfl, rfl, rfl, by rw [List.size_toArray, lenV]; exact hl, by simpa using rv⟩) (fun b u z => by have z' : (none : Option HO) = some u := z; cases z') (fun b z => absurd rfl z) fun z => absurd rfl z
  | none =>
    refine core (fun b => if b = a then some (.frz { cls := .type "list", data := .seq vs.toArray } (.lst (ns.map V.int))) else none) (fun b => ?_) (.inl (.inr ⟨{ cls := .type "list", data := .seq vs.toArray }, if_pos rfl⟩)) (fun b u z => ?_) (fun b z => ?_) fun _ => hk
    · by_cases hb : b = a
      · exact .inr ⟨_, _, if_pos hb⟩
      · exact .inl (if_neg hb)
    · by_cases hb : b = a
      · have z' := (if_pos hb).symm.trans z
        cases z'
        subst hb
        exact ⟨ha, by rw [List.length_map]; exact hl, vs, _, rv, ha⟩
      · have z' := (if_neg hb).symm.trans z
        cases z'
    · by_cases hb : b = a
      · exact hb
      · exact absurd (if_neg hb) z
end L2

namespace L2
open PySem PySem.Spec PyProof.Rows

abbrev KOf {K : PySem.W.Frag} {h : Heap} (_ : K.In h) : PySem.W.Frag := K

/- the goal that k_head leaves (case hc), from the law's promise. F gives the function object fd (K's own) once, then the promise over every base -/
theorem walk_of {l : PySem.W.OpenLaw} {n k : Nat} {q : Program} {loose : List Str} {XP : (Str → Option Value) → Heap → Prop} {YP : World → Heap → Prop} {d : DefRec} {K : Params → PySem.W.Frag} {CX : World → CXT} {sp : World → Sp} {x : Str}
    (hn : l.most = some n) (hn2 : n ≤ sizeLine) (hdf : d.params.defaults = []) (hr : Room k callerA)
    (hY : ∀ (w : World) (h : Heap), YP w h → (K w.params).In h)
    (F : ∀ (w : World) (mg : Str → Option Value) (fa : Addr) (h : Heap), (K w.params).In h → h.Ns mainGlobals mg → mg d.name = some (.ref fa) →
      ∃ fd : FuncData, (∀ (s : Shared) (u : Value), BindsTo s fd ⟨[u], []⟩ [(x, u)]) ∧
        ∀ base : Heap, (K w.params).In base → base.Ns mainGlobals mg → FnOk l.prog w (K w.params) mg base (CX w) k fa fd [x] (sp w))
    (hsp : ∀ (w : World) (H : Hp) (a : Addr) (ns : List Int), ns.length ≤ n → Only H → SqL (K w.params) H a (ns.map V.int) → sp w [.ref a] H (fun v _ => v = .bl true) fun _ _ _ => False)
    (hCX : ∀ (w : World) (H : Hp) (s : Shared) (e : Value) (s' : Shared), CX w [] H s (fun _ _ _ => False) e s' → False) :
    PySem.W.WalkO q loose XP YP l.row.toRowW d [] (fun f vs => PySem.call f vs) := by
  refine Att.attach_call hn hdf fun w s₀ s₁ mg mb fa o pm cd doc a vs ns G Y ho hd hcd hmg hobj hints hlen hg => ?_
  have KX := hY w _ Y
  obtain ⟨fd, hb, hF⟩ := F w mg fa _ KX G.T.g hmg
  exact law_call KX G.T.g G.T.b G.T.builtins G.T.nolimit hg hobj hints (Nat.le_trans hlen hn2) hr hF hb (fun H hO hS => hsp w H a ns hlen hO hS) fun H e s' => hCX w H s₁ e s'
/- the same where the promise hangs on the written part alone: (sp := My.sp_law), no hole under a binder -/
theorem walk_ofK {l : PySem.W.OpenLaw} {n k : Nat} {q : Program} {loose : List Str} {XP : (Str → Option Value) → Heap → Prop} {YP : World → Heap → Prop} {d : DefRec} {K : Params → PySem.W.Frag} {CX : CXT} {sp : PySem.W.Frag → Sp} {x : Str}
    (hn : l.most = some n) (hn2 : n ≤ sizeLine) (hdf : d.params.defaults = []) (hr : Room k callerA)
    (hY : ∀ (w : World) (h : Heap), YP w h → (K w.params).In h)
    (F : ∀ (w : World) (mg : Str → Option Value) (fa : Addr) (h : Heap), (K w.params).In h → h.Ns mainGlobals mg → mg d.name = some (.ref fa) →
      ∃ fd : FuncData, (∀ (s : Shared) (u : Value), BindsTo s fd ⟨[u], []⟩ [(x, u)]) ∧
        ∀ base : Heap, (K w.params).In base → base.Ns mainGlobals mg → FnOk l.prog w (K w.params) mg base CX k fa fd [x] (sp (K w.params)))
    (hsp : ∀ (K : PySem.W.Frag) (H : Hp) (a : Addr) (ns : List Int), ns.length ≤ n → Only H → SqL K H a (ns.map V.int) → sp K [.ref a] H (fun v _ => v = .bl true) fun _ _ _ => False)
    (hCX : ∀ (H : Hp) (s : Shared) (e : Value) (s' : Shared), CX [] H s (fun _ _ _ => False) e s' → False) :
    PySem.W.WalkO q loose XP YP l.row.toRowW d [] (fun f vs => PySem.call f vs) :=
  walk_of (K := K) (CX := fun _ => CX) (sp := fun w => sp (K w.params)) hn hn2 hdf hr hY F (fun w H a ns h1 h2 h3 => hsp (K w.params) H a ns h1 h2 h3) fun _ H s e s' => hCX H s e s'
end L2

/- THE LAST THEOREM (shape; LID, My.* are yours):
   My.Adr: a structure of the addresses that your layer names (classes, functions); My.Txt K t: a structure (Prop) of the equations over K;
   My.txt_mk : {K} {implicit addresses ..} (e1 : nsIn K mainGlobals "law" = some (some (.ref f))) (e2 : K.lookup f = some ⟨oc, od, .func (fnOf "law" "law" params body scope dV kV doc pm an cdv ct), sl⟩) (e3 : codeIn K cdv "law" = true) .. : ∃ t, My.Txt K t

set_option maxRecDepth 100000 in
set_option maxHeartbeats 0 in
theorem PySem.Challenge.cw_LID_holds : PySem.Challenge.rw_LID.Holds := by
  w_on; o_law; k_head; (case hw => w_witness2)
  k_fill
  refine L2.walk_of (l := PySem.Challenge.rw_LID) (n := 63) (k := 40) (x := "script") (CX := fun w => ..) (sp := fun _ => My.sp_law) rfl (by decide) rfl ⟨rfl, by decide, by decide⟩ (fun w h Y => PySem.W.kIn_of Y) ?F ?S ?C
  case F =>
    intro w mg fa h KX G hmg
    have T : ∃ t, My.Txt (L2.KOf KX) t := by
      dsimp only [L2.KOf]                          -- K must stand as «<heap const> w.params» for k_is
      refine' My.txt_mk ?e1 ?e2 ?e3 ..
      (case e1 => PySem.W.k_is)                    -- in the order: a name -> its address -> its object -> its parts
      (case e2 => PySem.W.k_is)
      ..
    obtain ⟨t, T⟩ := T
    have e0 := hmg.symm.trans (PySem.W.mg_of KX G T.law)
    cases e0                                       -- fa is the law's own address
    exact ⟨_, fun s u => .of_eq rfl, fun base kb nb => My.law_fn T kb nb⟩     -- if «.of_eq rfl» comes too early: refine' ⟨_, ?b, fun base kb nb => My.law_fn T kb nb⟩; exact fun s u => .of_eq rfl
  case S => exact fun w H a ns hl hO hS => ..
  case C => exact ..
(the tactic k_is has no namespace: write k_is) -/

/-! SHORT WORDS over the layer: a def of the text, its body, what a loop and a test want. -/
namespace L2
open PySem PySem.Spec PyProof.Rows

/-! ### the text by places -/
/- the j-th statement of a class's body -/
def inClass (s : Stmt) (j : Nat) : Stmt := match s with
  | .ClassDef _ _ _ body _ _ _ _ _ _ _ => body.getD j (.Pass ⟨0, 0, 0, 0⟩)
  | _ => .Pass ⟨0, 0, 0, 0⟩
def defArgs (s : Stmt) : Arguments := match s with
  | .FunctionDef _ a _ _ _ _ _ _ _ _ => a
  | _ => { posonlyargs := [], args := [], vararg := none, kwonlyargs := [], kw_defaults := [], kwarg := none, defaults := [] }
def defBody (s : Stmt) : List Stmt := match s with
  | .FunctionDef _ _ b _ _ _ _ _ _ _ => b
  | _ => []
def defScope (s : Stmt) : Scope := match s with
  | .FunctionDef _ _ _ _ _ _ sc _ _ _ => sc
  | _ => { kind := .function, names := [], isGenerator := false, isCoroutine := false }

/-! ### no exception leaves a def -/
abbrev CX0 : CXT := fun _ _ _ _ _ _ => False
abbrev E0 : XK := fun _ _ _ => False
theorem pass0 {X : Cx} : Passes CX0 X E0 := fun _ _ _ _ _ _ _ h => h.elim

/-! ### a def (or method) of the text as it stands behind the top -/
structure Fun (K : PySem.W.Frag) (x qual : Str) (st : Stmt) (f : Addr) (fd : FuncData) : Prop where
  ex : ∃ (oc : Value) (od : Option Addr) (kV doc pm : Value) (an : Option Addr) (cdv ct : Value) (osl : Array (Option Value)),
    fd = PySem.W.fnOf x qual (defArgs st) (defBody st) (defScope st) .none kV doc pm an cdv ct ∧ K.lookup f = some ⟨oc, od, .func fd, osl⟩ ∧ PySem.W.codeIn K cdv qual = true
  kp : PySem.W.keepIn K (.ref f) = true
section
variable {P : Program} {w : World} {K : PySem.W.Frag} {mg : Str → Option Value} {base : Heap}
/- THE RULE for a def: its body as a term of rules, and the reading of that term -/
theorem Fun.ok {x qual : Str} {st : Stmt} {f : Addr} {fd : FuncData} {N ps : List Str} {k : Nat} {sp : Sp} (F : Fun K x qual st f fd) (S : FnScope N ps (defScope st)) (len : ∀ vs H Q E, sp vs H Q E → vs.length = ps.length)
    (hbody : ∀ (cdv : Value) (A : Around) (outer : List Env) (s : Shared) (H : Hp) (vs : List V) (Q : VK) (E : XK), Room k (A.deeper (envOfC qual (defScope st) s.heap.objs.size f cdv)) → sp vs H Q E →
      ∃ t, PSs (cxOf CX0 P w K mg base N qual (defScope st) f cdv A outer s H E).nox (defBody st) t ∧ t { nx := fun _ H' => Q .non H', rt := Q } (start N vs) H) : FnOk P w K mg base CX0 (k + 1) f fd ps sp := by
  obtain ⟨oc, od, kV, doc, pm, an, cdv, ct, osl, rfl, lk, hcd⟩ := F.ex
  refine fn_of lk hcd S len fun A outer s H vs Q E hr hsp => ?_
  obtain ⟨t, h, q⟩ := hbody cdv A outer s H vs Q E hr hsp
  exact ⟨t, h.nox, q⟩
/- how its arguments bind (no defaults): h is «fun _ _ _ _ _ _ us hl => match us, hl with | [_, _], _ => rfl», one _ a parameter -/
theorem Fun.binds {x qual : Str} {st : Stmt} {f : Addr} {fd : FuncData} {ps : List Str} (F : Fun K x qual st f fd)
    (h : ∀ (kV doc pm : Value) (an : Option Addr) (cdv ct : Value) (us : List Value), us.length = ps.length → bindArgs (PySem.W.fnOf x qual (defArgs st) (defBody st) (defScope st) .none kV doc pm an cdv ct) ⟨us, []⟩ = pure (ps.zip us)) : Binds K fd ps [] := by
  obtain ⟨oc, od, kV, doc, pm, an, cdv, ct, osl, rfl, lk, hcd⟩ := F.ex
  exact .all (h kV doc pm an cdv ct)
theorem fun_mk {x qual : Str} {st : Stmt} {f : Addr} {oc : Value} {od an : Option Addr} {osl : Array (Option Value)} {kV doc pm cdv ct : Value} (l : K.lookup f = some ⟨oc, od, .func (PySem.W.fnOf x qual (defArgs st) (defBody st) (defScope st) .none kV doc pm an cdv ct), osl⟩)
    (c : PySem.W.codeIn K cdv qual = true) (k : PySem.W.keepIn K (.ref f) = true) : Fun K x qual st f (PySem.W.fnOf x qual (defArgs st) (defBody st) (defScope st) .none kV doc pm an cdv ct) := ⟨⟨oc, od, kV, doc, pm, an, cdv, ct, osl, rfl, l, c⟩, k⟩
end
section
variable {X : Cx}
theorem pv (i : Nat) {x : Str} {pos : Pos} (hN : X.N[i]? = some x := by rfl) (hv : Vis X.env.scope x := by first | exact Or.inl rfl | exact Or.inr (Or.inl rfl) | exact Or.inr (Or.inr rfl)) (hd : (x == ("__debug__" : Str)) = false := by decide)
    (hcd : (x == ("__classdict__" : Str)) = false := by decide) : PE X (.Name x pos) (tVar i) := pe_var hN hv hd hcd
end

/-! ### tests -/
theorem ite2 {c A B : Prop} [Decidable c] (h1 : c → A) (h2 : ¬ c → B) : if c then A else B := by
  by_cases h : c
  · rw [if_pos h]
    exact h1 h
  · rw [if_neg h]
    exact h2 h
/- all that was tracked is as it was -/
def Same (H H' : Hp) : Prop := ∀ b o, H b = some o → H' b = some o
theorem Same.refl (H : Hp) : Same H H := fun _ _ h => h
theorem Same.trans {H H1 H2 : Hp} (a : Same H H1) (b : Same H1 H2) : Same H H2 := fun c o h => b c o (a c o h)
theorem Same.free {H H' : Hp} (e : Same H H') {l : Addr} (h : H' l = Option.none) : H l = Option.none := by
  cases q : H l with
  | none => rfl
  | some o =>
    rw [e l o q] at h
    cases h
theorem Same.seq {K : PySem.W.Frag} {H H' : Hp} {a : Addr} {xs : List V} (e : Same H H') (h : SqL K H a xs) : SqL K H' a xs := by
  rcases h with (h | ⟨o, h⟩) | h
  · exact .inl (.inl (e _ _ h))
  · exact .inl (.inr ⟨o, e _ _ h⟩)
  · exact .inr h

end L2

set_option Elab.async false
set_option linter.all false
set_option maxRecDepth 100000
set_option maxHeartbeats 4000000
namespace L2
open PySem PySem.Spec PyProof.Rows

/-! OWN EXCEPTIONS over the layer: raise, passing a frame, try .. except C as n. -/

theorem ObjOk.has {P : Program} {w : World} {H : Hp} {h : Heap} {a : Addr} {o : HO} (x : ObjOk P w H h a o) : ∃ u, h.get? a = some u := by
  cases o with
  | lst xs => obtain ⟨_, _, _, _, q⟩ := x; exact ⟨_, q⟩
  | tup xs => obtain ⟨_, _, _, ob, q, _⟩ := x; exact ⟨ob, q⟩
  | dK kvs => obtain ⟨_, _, _, _, ob, _, _, q, _⟩ := x; exact ⟨ob, q⟩
  | dT kvs => obtain ⟨_, _, _, _, ob, _, _, q, _⟩ := x; exact ⟨ob, q⟩
  | set S n => obtain ⟨ob, _, _, _, q, _⟩ := x; exact ⟨ob, q⟩
  | ins C dx fs => obtain ⟨_, _, _, q, _⟩ := x; exact ⟨_, q⟩
  | own y => obtain ⟨ob, q⟩ := x; exact ⟨ob, q⟩
  | xd fs => obtain ⟨_, ⟨ob, _, _, q, _⟩, _⟩ := x; exact ⟨ob, q⟩
  | rng lo hi => obtain ⟨_, _, _, q⟩ := x; exact ⟨_, q⟩
  | frz ob u => obtain ⟨q, _⟩ := x; exact ⟨_, q⟩
  | tbl ps => exact ⟨_, (show h.get? a = some _ from x)⟩
  | met f y => exact ⟨_, (show h.get? a = some _ from x)⟩
  | ext φ => obtain ⟨_, ⟨ob, q⟩, _⟩ := x; exact ⟨ob, q⟩

/- an own exception of class C flies at a: B is the heap at the raise without the frames l; what is tracked, and what stood in g, lies in B -/
def Fly (l : List Env) (g : Heap) (H : Hp) (a : Addr) (C : Value) (h : Heap) : Prop :=
  ∃ (B : Heap) (t : Addr), Heap.FlyingW B l a C (.ref t) h ∧ H a = none ∧
    ∀ b o, h.get? b = some o → ((∃ u, g.get? b = some u) ∨ ∃ u, H b = some u) → b ∉ frs l → B.get? b = some o
/- how an own exception lies behind a call -/
def CXO (P : Program) (w : World) : CXT := fun outer H s E e s' =>
  ∃ (a : Addr) (C : Value) (H' : Hp), e = .ref a ∧ s'.os = s.os ∧ AllBare s'.gens ∧ Un (frs outer) [] H H' s.heap s'.heap ∧ HOk P w H' s'.heap ∧ Fly outer s.heap H' a C s'.heap ∧ E C none H'

theorem mem_frs_cons {env : Env} {outer : List Env} {L b : Addr} (hf : env.frame = some L) (hb : b ∈ frs (env :: outer)) : b = L ∨ b ∈ frs outer := by
  obtain ⟨e, he, q⟩ := List.mem_filterMap.mp hb
  rcases List.mem_cons.mp he with rfl | he
  · rw [hf] at q; exact .inl (Option.some.inj q).symm
  · exact .inr (List.mem_filterMap.mpr ⟨e, he, q⟩)
theorem frs_cons_of {env : Env} {outer : List Env} {b : Addr} (hb : b ∈ frs outer) : b ∈ frs (env :: outer) := by
  obtain ⟨e, he, q⟩ := List.mem_filterMap.mp hb
  exact List.mem_filterMap.mpr ⟨e, List.mem_cons_of_mem _ he, q⟩

/- the exception goes out of the frame of env -/
theorem fly_out {P : Program} {w : World} {env : Env} {outer : List Env} {L : Addr} {H H' : Hp} {g h1 h2 B : Heap} {a t : Addr} {C : Value}
    (hf : env.frame = some L) (hL : g.get? L = none) (U : Un (frs outer) [] H H' g h1) (ok : HOk P w H' h1) (frf : ∀ b ∈ frs (env :: outer), H' b = none)
    (frd : ∀ b ∈ frs outer, ∀ o, h1.get? b = some o → ∀ vs, o.data ≠ .fields vs)
    (inB : ∀ b o, h1.get? b = some o → ((∃ u, g.get? b = some u) ∨ ∃ u, H' b = some u) → b ∉ frs (env :: outer) → B.get? b = some o)
    (fl : Heap.FlyingW B outer a C (.ref t) h2) (ha : H' a = none) (up : h1.UpToSlots h2) : Un (frs outer) [] H H' g h2 ∧ HOk P w H' h2 ∧ Fly outer g H' a C h2 := by
  have stay : ∀ b o, h1.get? b = some o → ((∃ u, g.get? b = some u) ∨ ∃ u, H' b = some u) → b ∉ frs outer → h2.get? b = some o ∧ B.get? b = some o := fun b o e hb hn => by
    have nf : b ∉ frs (env :: outer) := fun z => by
      rcases mem_frs_cons hf z with rfl | z2
      · rcases hb with ⟨u, q⟩ | ⟨u, q⟩
        · rw [hL] at q; cases q
        · rw [frf _ z] at q; cases q
      · exact hn z2
    have q := inB b o e hb nf
    exact ⟨fl.1 b o q, q⟩
  have nx : ([] : List Addr) = [] := rfl
  have hx : ∀ b : Addr, b ∉ ([] : List Addr) := fun b z => nomatch z
  have track : ∀ b u, H' b = some u → b ∉ frs outer := fun b u q z => by
    rw [frf b (frs_cons_of z)] at q; cases q
  refine ⟨⟨fun b o e n hb hx => ?_, fun b o e n hb hx => ?_, U.free, fun b o e hx => ?_, U.tups, U.frzs, U.tbls⟩, fun b u q => ?_, B, t, fl, ha, fun b o e hb hn => ?_⟩
  · exact (stay b o (U.keep b o e n hb hx) (.inl ⟨o, e⟩) hb).1
  · obtain ⟨sl, e1⟩ := U.slot b o e n hb hx
    obtain ⟨sl2, e2⟩ := up b _ e1 (frd b hb _ e1)
    exact ⟨sl2, e2⟩
  · obtain ⟨o', e1⟩ := U.there b o e hx
    by_cases hb : b ∈ frs outer
    · obtain ⟨sl2, e2⟩ := up b _ e1 (frd b hb _ e1)
      exact ⟨_, e2⟩
    · exact ⟨o', (stay b o' e1 (.inl ⟨o, e⟩) hb).1⟩
  · refine (ok b u q).stay (fun c v hc e => ?_) (fun _ z => z) fun _ _ z => z
    have tc : ∃ u', H' c = some u' := by
      rcases hc with rfl | hc
      · exact ⟨u, q⟩
      · exact ⟨_, hc⟩
    obtain ⟨u', q'⟩ := tc
    exact (stay c v e (.inr ⟨u', q'⟩) (track c u' q')).1
  · have h1b : ∃ o', h1.get? b = some o' := by
      rcases hb with ⟨u, q⟩ | ⟨u, q⟩
      · exact U.there b u q (hx b)
      · exact (ok b u q).has
    obtain ⟨o', e1⟩ := h1b
    obtain ⟨e2, e3⟩ := stay b o' e1 hb hn
    rw [e] at e2; cases e2
    exact e3

/- what a raise in the body, with the wish E, becomes -/
def Raises (X : Cx) (E : XK) : Prop := ∀ (pins : List (Addr × Obj)) (σ : St) (H : Hp) (s : Shared) (a : Addr) (C : Value) (vs : List Value) (h' : Heap), Inv X pins σ H s → Heap.MadeExcOf s.heap h' a C vs → E C none H → X.xe (.ref a) { s with heap := h' }

section
variable {P : Program} {w : World} {K : PySem.W.Frag} {mg : Str → Option Value} {base : Heap} {N : List Str} {qual : Str} {scope : Scope} {f : Addr} {cd : Value} {A : Around} {outer : List Env} {s : Shared} {H : Hp} {E : XK}

theorem Inv.frd {X : Cx} {pins : List (Addr × Obj)} {σ : St} {H : Hp} {s : Shared} (I : Inv X pins σ H s) : ∀ b ∈ frs X.stack, ∀ o, s.heap.get? b = some o → ∀ vs, o.data ≠ .fields vs := fun b hb o e => by
  obtain ⟨_, o', e', d⟩ := I.stack.mem hb
  rw [e] at e'; cases e'
  exact d
theorem Inv.hasNo {X : Cx} {pins : List (Addr × Obj)} {σ : St} {H : Hp} {s : Shared} {a : Addr} (I : Inv X pins σ H s) (e : s.heap.get? a = none) : H a = none := by
  cases q : H a with
  | none => rfl
  | some u =>
    obtain ⟨o, z⟩ := (I.hok a u q).has
    rw [e] at z; cases z

theorem raises_fn : Raises (cxOf (CXO P w) P w K mg base N qual scope f cd A outer s H E) E := by
  intro pins σ H1 s1 a C vs h' I hx hE
  have hin : ∀ env ∈ (envOfC qual scope s.heap.objs.size f cd :: outer), ∀ b, env.frame = some b → b ∈ frs (envOfC qual scope s.heap.objs.size f cd :: outer) := fun env he b hb => List.mem_filterMap.mpr ⟨env, he, hb⟩
  have fr0 : (A.deeper (envOfC qual scope s.heap.objs.size f cd)).frames = some (envOfC qual scope s.heap.objs.size f cd :: outer) := I.ok.frames
  have sn : s.heap.get? s.heap.objs.size = none := Heap.get?_none_of_le (Nat.le_refl _)
  refine wpAny_leaves_madeW (L := s.heap.objs.size) (base := PySem.W.hideAll s1.heap (frs (envOfC qual scope s.heap.objs.size f cd :: outer))) (h := s1.heap) fr0 rfl (fun b o q => PySem.W.of_hideAll _ q) (PySem.W.funFrames_hide I.stack hin) hx fun h2 t fl _ _ up => ?_
  have frd := I.frd
  obtain ⟨u1, u2, u3⟩ := fly_out (P := P) (w := w) (L := s.heap.objs.size) (h1 := s1.heap) rfl sn I.base I.hok I.stkFree (fun b hb o e => frd b (frs_cons_of hb) o e) (fun b o e _ hn => PySem.W.hideAll_get _ e hn) fl (I.hasNo hx.new) ((Heap.UpToSlots.of_keeps hx.keeps).trans up)
  exact ⟨a, C, H1, rfl, I.os, I.bare, u1, u2, u3, hE⟩

end

/-! ### the def that raises -/
theorem Fun.okX {P : Program} {w : World} {K : PySem.W.Frag} {mg : Str → Option Value} {base : Heap} {x qual : Str} {st : Stmt} {f : Addr} {fd : FuncData} {N ps : List Str} {k : Nat} {sp : Sp} (F : Fun K x qual st f fd) (S : FnScope N ps (defScope st)) (len : ∀ vs H Q E, sp vs H Q E → vs.length = ps.length)
    (hbody : ∀ (cdv : Value) (A : Around) (outer : List Env) (s : Shared) (H : Hp) (vs : List V) (Q : VK) (E : XK), Room k (A.deeper (envOfC qual (defScope st) s.heap.objs.size f cdv)) → sp vs H Q E →
      ∃ t, PSs (cxOf (CXO P w) P w K mg base N qual (defScope st) f cdv A outer s H E) (defBody st) t ∧ t { nx := fun _ H' => Q .non H', rt := Q } (start N vs) H) : FnOk P w K mg base (CXO P w) (k + 1) f fd ps sp := by
  obtain ⟨oc, od, kV, doc, pm, an, cdv, ct, osl, rfl, lk, hcd⟩ := F.ex
  exact fn_of lk hcd S len fun A outer s H vs Q E hr hsp => hbody cdv A outer s H vs Q E hr hsp

/-! ### raise C(..) -/
/- an own class of exceptions, straight or not under ValueError, without an __init__ -/
structure ExC (K : PySem.W.Frag) (C : Addr) : Prop where
  ex : PySem.W.excIn K C [.type "ValueError", .type "Exception", .type "BaseException", .type "object"] "ValueError.__new__" = true

theorem exc_obj {K : PySem.W.Frag} {h : Heap} {C : Addr} {bmB : List Value} {nid : String} (Y : K.In h) (z : PySem.W.excIn K C bmB nid = true) :
    ∃ bm Nn nm qn bs hd sn sub ab col dd k0 k1 k2 k3 k5 mN, h.get? C = some (excClassObj nm qn C Nn bs bm hd sn sub ab col dd k0 k1 k2 k3 k5 nid) ∧ h.Ns Nn mN ∧ mN "__init__" = none ∧ OwnTail h bmB bm := by
  unfold PySem.W.excIn at z
  split at z
  · next d1 c1 s1 hlk =>
    split at z
    · next C1 b1 j0 j1 j2 j3 n1 j5 em es =>
      simp only [Bool.and_eq_true, beq_iff_eq, Bool.not_eq_true'] at z
      obtain ⟨⟨⟨⟨⟨z1, z2⟩, z3⟩, z4⟩, z5⟩, z6⟩ := z
      subst z1 z2
      obtain ⟨a1, a2, a3, a4, a5, a6, a7, a8, a9, a10, a11⟩ := c1
      dsimp only at em z3 z5 z6
      subst em z3
      obtain ⟨l1⟩ := s1
      have es' : l1 = [j0, j1, j2, j3, some (.builtin n1), j5] := es
      subst es'
      exact ⟨b1, a4, a1, a5, a2, a6, a7, a8, a9, a10, d1, j0, j1, j2, j3, j5, _, Y _ _ hlk, .of_isNs (PySem.W.isNs_of_in Y z5), PySem.W.nsMap_none_of_in Y z5 z6, PySem.W.tail_of_in Y z4⟩
    · exact absurd z (by decide)
  · exact absurd z (by decide)

section
variable {X : Cx} {E : XK} {x : Str} {C : Addr} {e : Expr} {es : List Expr} {t : TA} {np cpos pos : Pos}
def tRaise (E : XK) (C : Addr) (t : TA) : TS := fun _ σ H => t σ H fun vs H1 => vs.length ≤ sizeLine ∧ E (.ref C) none H1
theorem ps_raise (R : Raises X E) (c : ExC X.K C) (hc : X.calm = true) (hg : Gl X x) (hm : X.mg x = some (.ref C)) (ha : PA X (e :: es) t) (hdb : (x == ("__debug__" : Str)) = false := by decide)
    (he : starEach (e :: es) X.env = (false, eval e X.env) :: starEach es X.env := by rfl) (hpl : (backTo cpos (starEach es X.env)).any (·.1) = false := by rfl) :
    PS X (.Raise (some (.Call (.Name x np) (e :: es) [] cpos)) none pos) (tRaise E C t) := by
  intro pins s σ H D I h
  obtain ⟨bm, Nn, nm, qn, bs, hd, sn, sub, ab, col, dd, k0, k1, k2, k3, k5, mN, hC, hN, hni, TL⟩ := exc_obj I.ok.mod.kin c.ex
  refine wpAny_Raise_call_subT (C := C) (nm := nm) (q := qn) (N := Nn) (bs := bs) (bm := bm) (hdct := hd) (sn := sn) (sub := sub) (ab := ab) (col := col) (dd := dd) (k0 := k0) (k1 := k1) (k2 := k2) (k3 := k3) (k5 := k5)
    PySem.F.excBase_ValueError (mN := mN) (TL.hasType PySem.F.excBase_ValueError.hasBase) (I.ok.hd hc) ?_ hni (ld_glob I hg hm ⟨rfl, ?_⟩ hdb)
  · rw [he]
    show (false || (backTo cpos (starEach es X.env)).any (·.1)) = false
    rw [hpl]; rfl
  · have q := ha cpos pins s σ H _ I h
    rw [he] at q ⊢
    refine Calls.evalArgs_plain (thn q fun us s2 hs => ?_)
    obtain ⟨vs, H2, I2, r, hl, hE⟩ := hs
    exact ⟨rfl, by rw [← r.length]; exact hl, I2.bk _ _ hC, hN.keeps I2.bk, TL.keeps I2.bk, fun h' a hx => R pins σ H2 s2 a _ us h' I2 hx hE⟩
end

/-! ### try: .. except C as n: .. -/
/- the state moved on while an exception landed: what is tracked, what stood at the entry and what is pinned is kept, all else up to slots -/
theorem Inv.moved {X : Cx} {pins : List (Addr × Obj)} {σ : St} {H : Hp} {s : Shared} {h' : Heap} (I : Inv X pins σ H s)
    (keep : ∀ b o, s.heap.get? b = some o → ((∃ u, X.s₀.heap.get? b = some u ∧ b ∉ X.ex) ∨ (∃ u, H b = some u) ∨ ∃ p ∈ X.pn ++ pins, p.1 = b) → b ∉ frs X.stack → h'.get? b = some o) (up : s.heap.UpToSlots h') : Inv X pins σ H { s with heap := h' } := by
  have neL : ∀ b o, X.s₀.heap.get? b = some o → b ≠ X.env.locals := fun b o e => Nat.ne_of_lt (Nat.lt_of_lt_of_le (Heap.lt_size e) I.ok.above)
  have nst : ∀ b, b ≠ X.env.locals → b ∉ X.fs → b ∉ frs X.stack := fun b h1 h2 z => (List.mem_cons.mp (I.stkSub b z)).elim h1 h2
  have fsd : ∀ b ∈ X.fs, ∀ o, X.s₀.heap.get? b = some o → ∀ vs, o.data ≠ .fields vs := fun b hb o e => by
    obtain ⟨_, o', e', d⟩ := I.ok.funs.mem hb
    rw [e] at e'; cases e'
    exact d
  have cellK : ∀ c v, s.heap.IsCell c v → h'.IsCell c v := fun c v ⟨o, ho, hd⟩ => by
    obtain ⟨sl, q⟩ := up c o ho fun vs z => by rw [hd] at z; cases z
    exact ⟨_, q, hd⟩
  refine ⟨I.ok, I.os, I.bare, ⟨fun b o e n hb hx => ?_, fun b o e n hb hx => ?_, I.base.free, fun b o e hx => ?_, I.base.tups, I.base.frzs, I.base.tbls⟩, ?_, fun y c e => ?_, I.free, I.freeC, fun p hp => ?_, fun b u q => ?_, I.len⟩
  · exact keep b o (I.base.keep b o e n hb hx) (.inl ⟨o, e, hx⟩) (nst b (neL b o e) hb)
  · obtain ⟨sl, e1⟩ := I.base.slot b o e n hb hx
    obtain ⟨sl2, e2⟩ := up b _ e1 (fsd b hb o e)
    exact ⟨sl2, e2⟩
  · obtain ⟨o', e1⟩ := I.base.there b o e hx
    by_cases hb : b ∈ X.fs
    · obtain ⟨sl, e2⟩ := I.base.slot b o e (I.ok.frf b hb) hb hx
      obtain ⟨sl2, e3⟩ := up b _ e2 (fsd b hb o e)
      exact ⟨_, e3⟩
    · exact ⟨o', keep b o' e1 (.inl ⟨o, e, hx⟩) (nst b (neL b o e) hb)⟩
  · obtain ⟨m, hn, hl⟩ := I.loc
    refine ⟨m, up.ns hn, fun i y v e1 e2 e3 => ?_⟩
    obtain ⟨u, r, l⟩ := hl i y v e1 e2 e3
    refine ⟨u, r, ?_⟩
    rcases l with l | ⟨k, c, e, z⟩
    · exact .inl l
    · exact .inr ⟨k, c, e, cellK c _ z⟩
  · obtain ⟨v, z⟩ := I.cell y c e
    exact ⟨v, cellK c v z⟩
  · obtain ⟨e, n, ne, nf, d⟩ := I.pin p hp
    exact ⟨keep p.1 p.2 e (.inr (.inr ⟨p, hp, rfl⟩)) (nst p.1 ne nf), n, ne, nf, d⟩
  · refine (I.hok b u q).stay (fun c v hc e => ?_) (fun _ z => z) fun _ _ z => z
    have tc : ∃ u', H c = some u' := by
      rcases hc with rfl | hc
      · exact ⟨u, q⟩
      · exact ⟨_, hc⟩
    obtain ⟨u', q'⟩ := tc
    refine keep c v e (.inr (.inl ⟨u', q'⟩)) fun z => ?_
    rw [I.stkFree c z] at q'; cases q'

/- an object of the state that nobody tracks is tracked from here on -/
theorem Inv.track {X : Cx} {pins : List (Addr × Obj)} {σ : St} {H : Hp} {s : Shared} {a : Addr} {ob : Obj} {vs : Array Value} {o : HO} (I : Inv X pins σ H s) (ha : H a = none) (hob : s.heap.get? a = some ob) (hd : ob.data = .fields vs)
    (h0 : X.s₀.heap.get? a = none) (hp : ∀ p ∈ X.pn ++ pins, p.1 ≠ a) (new : ObjOk X.prog X.w (upd H a o) s.heap a o) : Inv X pins σ (upd H a o) s := by
  have nt : ∀ b u, H b = some u → b ≠ a := fun b u q => ne_of_none q ha
  refine ⟨I.ok, I.os, I.bare, ⟨I.base.keep, I.base.slot, fun b u e n hx => ?_, I.base.there, fun b xs q => ?_, fun b u xs q => ?_, fun b ps q => ?_⟩, I.loc, I.cell, ?_, fun y c e => ?_, fun p q => ?_, fun b u q => ?_, I.len⟩
  · have ne : b ≠ a := fun z => by rw [z, h0] at e; cases e
    rw [upd_ne ne]; exact I.base.free b u e n hx
  · have z := I.base.tups b xs q
    rw [upd_ne (nt _ _ z)]; exact z
  · have z := I.base.frzs b u xs q
    rw [upd_ne (nt _ _ z)]; exact z
  · obtain ⟨m, z⟩ := I.base.tbls b ps q
    exact ⟨m, by rw [upd_ne (nt _ _ z)]; exact z⟩
  · have ne : X.env.locals ≠ a := fun z => by
      obtain ⟨m, ⟨oL, es, ep, e1, e2, _⟩, _⟩ := I.loc
      rw [z, hob] at e1; cases e1
      rw [hd] at e2; cases e2
    rw [upd_ne ne]; exact I.free
  · have ne : c ≠ a := fun z => by
      obtain ⟨v, oc, e1, e2⟩ := I.cell y c e
      rw [z, hob] at e1; cases e1
      rw [hd] at e2; cases e2
    rw [upd_ne ne]; exact I.freeC y c e
  · obtain ⟨e, n, r⟩ := I.pin p q
    exact ⟨e, by rw [upd_ne (hp p q)]; exact n, r⟩
  · by_cases hb : b = a
    · subst hb; rw [upd_same] at q; cases q; exact new
    · rw [upd_ne hb] at q
      exact (I.hok b u q).stay (fun c v _ z => z) (fun c z => by rw [upd_ne (nt _ _ z)]; exact z) fun c xs z => by rw [upd_ne (nt _ _ z)]; exact z

/- the exception at a, caught: an object of class C -/
def exO (a : Addr) (C : Value) : HO := .ext fun h => ∃ ob vs, h.get? a = some ob ∧ ob.cls = C ∧ ob.data = .fields vs

def Landed (X : Cx) (pins : List (Addr × Obj)) (Kx : Value → Hp → Prop) (e : Value) (s' : Shared) : Prop :=
  ∃ (a : Addr) (C : Value) (σ : St) (H : Hp) (g : Heap), e = .ref a ∧ Inv X pins σ H s' ∧ Fly X.stack g H a C s'.heap ∧ (∀ p ∈ X.pn ++ pins, ∃ u, g.get? p.1 = some u) ∧
    (∀ b u, X.s₀.heap.get? b = some u → b ∉ X.ex → ∃ u', g.get? b = some u') ∧ Kx C H
/- the context of a try's body -/
abbrev tryCx (X : Cx) (pins : List (Addr × Obj)) (Kx : Value → Hp → Prop) : Cx := { X with pn := X.pn ++ pins, xe := Landed X pins Kx }
/- the context of an except suite, the exception at a in hand -/
abbrev suiteCx (X : Cx) (a : Addr) : Cx := { X with A := X.A.mark (some (.ref a)), calm := false, xe := fun _ _ => False }
section
variable {X : Cx} {pins pins' : List (Addr × Obj)} {σ : St} {H : Hp} {s : Shared} {Kx : Value → Hp → Prop} {a : Addr}
theorem Inv.toTry (I : Inv X pins σ H s) : Inv (tryCx X pins Kx) [] σ H s :=
  ⟨⟨I.ok.mod, I.ok.kind, I.ok.glob, I.ok.blt, I.ok.above, I.ok.inj, I.ok.has, I.ok.cab, I.ok.hd, I.ok.frames, I.ok.stk, I.ok.exf, I.ok.bs, I.ok.bsz, I.ok.noex, I.ok.exfs, I.ok.funs, I.ok.frf⟩,
    I.os, I.bare, I.base, I.loc, I.cell, I.free, I.freeC, fun p hp => I.pin p (by simpa using hp), I.hok, I.len⟩
theorem Inv.ofTry (I : Inv (tryCx X pins Kx) pins' σ H s) : Inv X pins σ H s :=
  ⟨⟨I.ok.mod, I.ok.kind, I.ok.glob, I.ok.blt, I.ok.above, I.ok.inj, I.ok.has, I.ok.cab, I.ok.hd, I.ok.frames, I.ok.stk, I.ok.exf, I.ok.bs, I.ok.bsz, I.ok.noex, I.ok.exfs, I.ok.funs, I.ok.frf⟩,
    I.os, I.bare, I.base, I.loc, I.cell, I.free, I.freeC, fun p hp => I.pin p (List.mem_append_left _ hp), I.hok, I.len⟩
theorem Inv.toSuite (I : Inv X pins σ H s) : Inv (suiteCx X a) pins σ H s :=
  ⟨⟨I.ok.mod, I.ok.kind, I.ok.glob, I.ok.blt, I.ok.above, I.ok.inj, I.ok.has, I.ok.cab, (fun z => nomatch z), I.ok.frames, I.ok.stk, I.ok.exf, I.ok.bs, I.ok.bsz, I.ok.noex, I.ok.exfs, I.ok.funs, I.ok.frf⟩,
    I.os, I.bare, I.base, I.loc, I.cell, I.free, I.freeC, I.pin, I.hok, I.len⟩
theorem Inv.ofSuite (hd : X.calm = true → X.A.handled = none) (I : Inv (suiteCx X a) pins σ H s) : Inv X pins σ H s :=
  ⟨⟨I.ok.mod, I.ok.kind, I.ok.glob, I.ok.blt, I.ok.above, I.ok.inj, I.ok.has, I.ok.cab, hd, I.ok.frames, I.ok.stk, I.ok.exf, I.ok.bs, I.ok.bsz, I.ok.noex, I.ok.exfs, I.ok.funs, I.ok.frf⟩,
    I.os, I.bare, I.base, I.loc, I.cell, I.free, I.freeC, I.pin, I.hok, I.len⟩
theorem passes_try : Passes (CXO X.prog X.w) (tryCx X pins Kx) (fun C _ H => Kx C H) := by
  intro p2 σ1 H1 s1 e s' I hc
  obtain ⟨a, C, H', rfl, os, bare, un, hok, fly, hE⟩ := hc
  have I0 : Inv X pins σ1 H1 s1 := I.ofTry
  have I' : Inv X pins σ1 H' s' := I0.call' os un hok bare fun b z => nomatch z
  exact ⟨a, C, σ1, H', s1.heap, rfl, I', fly, fun p hp => ⟨p.2, (I0.pin p hp).1⟩, fun b u q hx => I0.base.there b u q hx, hE⟩

/- the frame's own map has changed -/
theorem Inv.frame {σ' : St} {h' : Heap} {m' : Str → Option Value} {t' : Nat} (I : Inv X pins σ H s) (hn : h'.Ns X.env.locals m') (hs : Heap.SameBut X.env.locals s.heap h')
    (hl : ∀ (i : Nat) (x : Str) (v : V), X.N[i]? = some x → σ'[i]? = some (some v) → Vis X.env.scope x → ∃ u, RelV v u ∧ Look X.env h' m' x u) (hlen : σ'.length = σ.length) : Inv X pins σ' H { s with heap := h', toks := t' } := by
  have neL : ∀ b o, X.s₀.heap.get? b = some o → b ≠ X.env.locals := fun b o e => Nat.ne_of_lt (Nat.lt_of_lt_of_le (Heap.lt_size e) I.ok.above)
  refine ⟨I.ok, I.os, I.bare, ⟨fun b o e n hb hx => (hs.2 b (neL b o e)).trans (I.base.keep b o e n hb hx), fun b o e n hb hx => ?_, I.base.free, fun b o e hx => ?_, I.base.tups, I.base.frzs, I.base.tbls⟩, ⟨m', hn, hl⟩, fun y c e => ?_, I.free, I.freeC, fun p hp => ?_, fun b u q => ?_, hlen.trans I.len⟩
  · obtain ⟨sl, e1⟩ := I.base.slot b o e n hb hx
    exact ⟨sl, (hs.2 b (neL b o e)).trans e1⟩
  · obtain ⟨o', e1⟩ := I.base.there b o e hx
    exact ⟨o', (hs.2 b (neL b o e)).trans e1⟩
  · obtain ⟨v, z⟩ := I.cell y c e
    exact ⟨v, z.sameBut hs (I.cne y c e)⟩
  · obtain ⟨e, n, ne, nf, d⟩ := I.pin p hp
    exact ⟨(hs.2 p.1 ne).trans e, n, ne, nf, d⟩
  · refine (I.hok b u q).stay (fun c v hc e => (hs.2 c ?_).trans e) (fun _ z => z) fun _ _ z => z
    intro z
    have fr := I.free
    rcases hc with rfl | hc
    · rw [z, fr] at q; cases q
    · rw [z, fr] at hc; cases hc
/- the name of an except clause goes -/
theorem unset_ok {M : Model} {A : Around} {E : Value → Shared → Prop} {i : Nat} {n : Str} {pos : Pos} {Q : Unit → Shared → Prop} (I : Inv X pins σ H s) (hi : X.N[i]? = some n) (hN : X.N.Nodup) (hk : X.env.scope.names.lookup n = some .local)
    (h : ∀ s', Inv X pins (σ.set i none) H s' → Q () s') : wpAny M A (do bindName X.env n .none; unbindBehindTheSuite X.env n pos) Q E s := by
  obtain ⟨m, hn, hl⟩ := id I.loc
  refine wpAny_nameGoes_keeps (m := m) hk hn (by rw [I.ok.kind]; rfl) fun h' v hn' hs => h _ (I.frame hn' hs (fun j y v' e1 e2 e3 => ?_) (by simp))
  have hij : j ≠ i := fun z => by
    rw [z] at e2
    have hiσ : i < σ.length := by rw [I.len]; exact (List.getElem?_eq_some_iff.mp hi).1
    rw [List.getElem?_set_self hiσ] at e2
    cases e2
  rw [List.getElem?_set_ne (Ne.symm hij)] at e2
  obtain ⟨u, r, q⟩ := hl j y v' e1 e2 e3
  refine ⟨u, r, ?_⟩
  rcases q with ⟨k, e⟩ | ⟨k, c, e, z⟩
  · have ne : y ≠ n := fun z => hij (nodup_ix hN e1 (z ▸ hi))
    exact .inl ⟨k, by simp [ne, e]⟩
  · exact .inr ⟨k, c, e, z.sameBut hs (I.cne y c e)⟩
end

section
variable {X : Cx} {body suite : List Stmt} {b₀ : Stmt} {n x : Str} {i : Nat} {R : Addr} {np hpos pos : Pos} {tb : (Value → Hp → Prop) → TS} {th : TS}
/- try: body except R as n (slot i): suite. Behind an exception nothing is known of the names -/
def tTry (K : PySem.W.Frag) (R : Addr) (i N : Nat) (tb : (Value → Hp → Prop) → TS) (th : TS) : TS := fun D σ H =>
  tb (fun C H' => PySem.W.exmOne K C (.ref R) = some true ∧ ∀ a, H' a = none →
    th { nx := fun σ' H2 => D.nx (σ'.set i none) H2, rt := D.rt, bk := fun σ' H2 => D.bk (σ'.set i none) H2, ct := fun σ' H2 => D.ct (σ'.set i none) H2 } ((List.replicate N none).set i (some (.ref a))) (upd H' a (exO a C))) D σ H
theorem ps_try (hst : X.stack = X.env :: X.outer ∧ X.env.frame = some X.env.locals) (hex : X.ex = []) (hN : X.N.Nodup) (hi : X.N[i]? = some n) (hk : X.env.scope.names.lookup n = some .local) (hg : Gl X x) (hm : X.mg x = some (.ref R))
    (hb : ∀ pins Kx, PSs (tryCx X pins Kx) body (tb Kx)) (hs : ∀ a, PSs (suiteCx X a) (b₀ :: suite) th) (hdb : (x == ("__debug__" : Str)) = false := by decide) :
    PS X (.Try body [.ExceptHandler (some (.Name x np)) (some n) (b₀ :: suite) hpos] [] [] pos) (tTry X.K R i X.N.length tb th) := by
  intro pins s σ H D I h
  refine wpAny_Try_except (wpAny_mono (hb pins _ [] s σ H D I.toTry h) (fun f s1 q => ?_) fun e s1 q => ?_)
  · cases f with
    | next => obtain ⟨σ', H', I', q⟩ := q; exact wpAny_execs_nil ⟨σ', H', I'.ofTry, q⟩
    | brk => obtain ⟨σ', H', I', q⟩ := q; exact ⟨σ', H', I'.ofTry, q⟩
    | cont => obtain ⟨σ', H', I', q⟩ := q; exact ⟨σ', H', I'.ofTry, q⟩
    | ret u => obtain ⟨v, σ', H', I', r, q⟩ := q; exact ⟨v, σ', H', I'.ofTry, r, q⟩
  · obtain ⟨a, C, σ1, H1, g, rfl, I1, ⟨B, t, fl, ha, inB⟩, hpn, hg0, hm1, hk1⟩ := q
    obtain ⟨es1, es2⟩ := hst
    have mv : ∀ h', Heap.FlyingW B X.stack a C (.ref t) h' → s1.heap.UpToSlots h' → Inv X pins σ1 H1 { s1 with heap := h' } := fun h' fl' up => I1.moved (fun b o e hb hn => fl'.1 b o (inB b o e (by
      rcases hb with ⟨u, q, hx⟩ | ⟨u, q⟩ | ⟨p, hp, rfl⟩
      · exact .inl (hg0 b u q hx)
      · exact .inr ⟨u, q⟩
      · exact .inl (hpn p hp)) hn)) up
    have frA : X.A.frames = some (X.env :: X.outer) := by rw [← es1]; exact I.ok.frames
    rw [es1] at fl
    refine wpAny_looks_onW frA es2 fl fun h4 hl4 up4 => ?_
    refine wpAny_landsW hl4 fun h5 fl5 up5 => ?_
    have I5 := mv h5 (by rw [es1]; exact fl5) (up4.trans up5)
    obtain ⟨ob5, hob5, hc5⟩ := fl5.there
    have LT : PySem.W.Looks (model X.prog X.w) h5 (typeOf (.ref a)) C := hc5 ▸ (PySem.W.Looks.ld hob5).andThen .now
    refine wpAny_handleBy_cons (codeAny_handlers_test (ld_glob (X := suiteCx X a) I5.toSuite hg hm ?_ hdb)) (by intro z; cases z)
    refine (PySem.W.exm_one (K := X.K) (I5.kIn : X.K.In h5) LT hm1) _ _ _ _ (fun _ _ z => z) ?_
    refine codeAny_handlers_suite_as ?_
    refine lands_againW fl5 fun h6 fl6 up6 => ?_
    have I6 := mv h6 (by rw [es1]; exact fl6) ((up4.trans up5).trans up6)
    obtain ⟨ob6, vs6, hob6, hc6, hd6, _⟩ := fl6.first
    have nfr : ∀ o, s1.heap.get? a = some o → a ∉ frs X.stack := fun o e z => by
      obtain ⟨ob, vs, q1, _, q2, _⟩ := fl.first
      exact I1.frd a z ob q1 vs q2
    have notin : ∀ u, g.get? a = some u → False := fun u q => by
      obtain ⟨ob, vs, q1, _, q2, _⟩ := fl.first
      have z := inB a ob q1 (.inl ⟨u, q⟩) (nfr ob q1)
      rw [fl.2.1] at z; cases z
    have h0 : X.s₀.heap.get? a = none := by
      cases q : X.s₀.heap.get? a with
      | none => rfl
      | some u =>
        obtain ⟨u', z⟩ := hg0 a u q (by rw [hex]; exact fun z => nomatch z)
        exact (notin u' z).elim
    have hp : ∀ p ∈ X.pn ++ pins, p.1 ≠ a := fun p hp z => by
      obtain ⟨u, q⟩ := hpn p hp
      rw [z] at q
      exact notin u q
    have I7 : Inv X pins σ1 (upd H1 a (exO a C)) { s1 with heap := h6 } := I6.track ha hob6 hd6 h0 hp
      ⟨⟨ob6, vs6, hob6, hc6, hd6⟩, ⟨ob6, hob6⟩, fun ha hb ⟨o, v, z1, z2⟩ k => ⟨o, v, k o z1, z2⟩⟩
    have I8 : Inv X pins (List.replicate X.N.length none) (upd H1 a (exO a C)) { s1 with heap := h6 } := I7.weak (by rw [List.length_replicate, I7.len]) fun j v q => by
      rw [List.getElem?_replicate] at q
      split at q <;> cases q
    refine store_ok (X := suiteCx X a) I8.toSuite hN hi (.inl hk) (v := .ref a) rfl (fun s9 I9 => ?_) (.inr hk)
    refine wpAny_mono (hs a pins s9 _ _ _ I9 (hk1 a ha)) (fun f s10 q => ?_) fun _ _ z => z.elim
    have out : ∀ {σ' : St} {H' : Hp}, Inv (suiteCx X a) pins σ' H' s10 → Inv X pins σ' H' s10 := fun J => J.ofSuite I.ok.hd
    cases f with
    | next => obtain ⟨σ', H', J, q⟩ := q; exact unset_ok (out J) hi hN hk fun s11 J2 => ⟨_, H', J2, q⟩
    | brk => obtain ⟨σ', H', J, q⟩ := q; exact unset_ok (out J) hi hN hk fun s11 J2 => ⟨_, H', J2, q⟩
    | cont => obtain ⟨σ', H', J, q⟩ := q; exact unset_ok (out J) hi hN hk fun s11 J2 => ⟨_, H', J2, q⟩
    | ret u => obtain ⟨v, σ', H', J, r, q⟩ := q; exact unset_ok (out J) hi hN hk fun s11 J2 => ⟨v, _, H', J2, r, q⟩
end
end L2

set_option Elab.async false
set_option linter.all false
set_option maxRecDepth 100000
set_option maxHeartbeats 4000000
namespace L2
open PySem PySem.Spec PyProof.Rows

/-! TEXTS, lists of flat values, isinstance over the layer -/
section
variable {X : Cx}
def rSlS : V → Option Int → Option Int → Hp → VK → Prop := fun x lo hi H Q => ∃ z, x = .str z ∧ z.length ≤ sizeLine ∧ Q (.str (Txt.slice z lo hi)) H
theorem countP_eqU {x : V} : ∀ {xs : List V} {us : List Value}, Vals xs us → xs.all flatV = true → us.countP (eqU x) = xs.countP fun y => eqV y x
  | _, _, .nil, _ => rfl
  | y :: xs, u :: us, .cons r t, f => by
    rw [List.all_cons, Bool.and_eq_true] at f
    rw [List.countP_cons, List.countP_cons, eqU_of r f.1, countP_eqU t f.2]
theorem mt_count : MtR X "list.count" (fun x vs H Q => ∃ l xs y, x = .ref l ∧ vs = [y] ∧ H l = some (.lst xs) ∧ flatV y = true ∧ xs.all flatV = true ∧ Q (.int (xs.countP fun z => eqV z y : Nat)) H) := by
  intro pins s σ H x vs v us Q I rx rv h
  obtain ⟨l, xs, y, rfl, rfl, hH, fy, fx, q⟩ := h
  cases rx
  obtain ⟨u, rfl, ru⟩ := rv.one
  obtain ⟨z, its, n, r, hl, e⟩ := I.lstM hH
  refine call_meets PySem.F.slot_list_count ⟨_, e, rfl⟩ PySem.F.entry_list_count (PySem.F.args_list_count_2 _ _) (SeqAt.list_countAt l its.toArray n none #[] u (eqU y)) ⟨e, fun w hw => mem_eqAt ru fy r fx w (by simpa using hw), ?_⟩
  rw [← countP_eqU r fx] at q
  exact ⟨.int _, H, I.tok _, ⟨_, rfl⟩, q⟩
theorem mt_index : MtR X "list.index" (fun x vs H Q => ∃ l xs y j z, x = .ref l ∧ vs = [y] ∧ H l = some (.lst xs) ∧ flatV y = true ∧ xs.all flatV = true ∧ xs[j]? = some z ∧ eqV z y = true ∧ (∀ m z', m < j → xs[m]? = some z' → eqV z' y = false) ∧ Q (.int (j : Nat)) H) := by
  intro pins s σ H x vs v us Q I rx rv h
  obtain ⟨l, xs, y, j, z, rfl, rfl, hH, fy, fx, hj, hz, hno, q⟩ := h
  cases rx
  obtain ⟨u, rfl, ru⟩ := rv.one
  obtain ⟨zz, its, n, r, hl, e⟩ := I.lstM hH
  have hjl : j < its.length := by rw [← hl]; exact (List.getElem?_eq_some_iff.mp hj).1
  have ans : ∀ (m : Nat) (hm : m < its.length) (w : V), xs[m]? = some w → eqU y its[m] = eqV w y := fun m hm w hw => by
    obtain ⟨uu, e1, e2⟩ := r.get hw
    have e3 : its[m] = uu := by rw [List.getElem?_eq_getElem hm] at e1; exact Option.some.inj e1
    rw [e3]
    exact eqU_of e2 (List.all_eq_true.mp fx w (List.mem_of_getElem? hw))
  have hline := line63
  have hsm : (j : Int) < 2 ^ 63 - 1 := by
    have : j < sizeLine := by omega
    have h2 : sizeLine = 16777216 := sizeLine_eq
    omega
  refine call_meets PySem.F.slot_list_index ⟨_, e, rfl⟩ PySem.F.entry_list_index (PySem.F.args_list_index_2 _ _) (SeqAt.list_indexAt l its.toArray n none #[] u (eqU y) j (by simpa using hjl) hsm ?_ ?_) ⟨e, fun w hw => mem_eqAt ru fy r fx w (by simpa using hw), ?_⟩
  · show eqU y its.toArray[j] = true
    rw [List.getElem_toArray, ans j hjl z hj]; exact hz
  · intro m hm hmj
    have hm' : m < its.length := by simpa using hm
    have hx : m < xs.length := by omega
    show eqU y its.toArray[m] = false
    rw [List.getElem_toArray, ans m hm' xs[m] (List.getElem?_eq_getElem hx)]
    exact hno m _ hmj (List.getElem?_eq_getElem hx)
  · exact ⟨.int _, H, I.tok _, ⟨_, rfl⟩, q⟩

/- == of two lists of flat values -/
def eqL : List V → List V → Bool
  | [], [] => true
  | x :: xs, y :: ys => eqV x y && eqL xs ys
  | _, _ => false
theorem eqL_len : ∀ {xs ys : List V}, xs.length ≠ ys.length → eqL xs ys = false
  | [], [], h => absurd rfl h
  | [], _ :: _, _ => rfl
  | _ :: _, [], _ => rfl
  | x :: xs, y :: ys, h => by
    have : eqL xs ys = false := eqL_len fun z => h (by rw [List.length_cons, List.length_cons, z])
    show (eqV x y && eqL xs ys) = false
    rw [this, Bool.and_false]
theorem eqL_all : ∀ (xs ys : List V), xs.length = ys.length → (List.range xs.length).all (fun j => eqV (xs.getD j .non) (ys.getD j .non)) = eqL xs ys
  | [], [], _ => rfl
  | [], _ :: _, h => nomatch h
  | _ :: _, [], h => nomatch h
  | x :: xs, y :: ys, h => by
    have ih := eqL_all xs ys (by simpa using h)
    rw [List.length_cons, List.range_succ_eq_map, List.all_cons, List.all_map]
    show (eqV x y && _) = (eqV x y && eqL xs ys)
    rw [← ih]
    rfl
def rEqL (K : PySem.W.Frag) (neg : Bool) : R2 := fun x y H Q => ∃ l b xs ys, x = .ref l ∧ y = .ref b ∧ SqL K H l xs ∧ SqL K H b ys ∧ xs.all flatV = true ∧ ys.all flatV = true ∧ Q (.bl (if neg then !eqL xs ys else eqL xs ys)) H
theorem flat_at {xs ys : List V} {its its2 : List Value} {A : Around} {s : Shared} (r : Vals xs its) (r2 : Vals ys its2) (fx : xs.all flatV = true) (fy : ys.all flatV = true) :
    ∀ (j : Nat) (h1 : j < its.toArray.size) (h2 : j < its2.toArray.size), SeqAt.EqAt A s its.toArray[j] its2.toArray[j] (eqV (xs.getD j .non) (ys.getD j .non)) := by
  intro j h1 h2
  have l1 := r.length
  have l2 := r2.length
  have hx : j < xs.length := by rw [l1]; simpa using h1
  have hy : j < ys.length := by rw [l2]; simpa using h2
  obtain ⟨u, e1, q1⟩ := r.get (List.getElem?_eq_getElem hx)
  obtain ⟨w, e2, q2⟩ := r2.get (List.getElem?_eq_getElem hy)
  have e3 : its.toArray[j] = u := by
    rw [List.getElem_toArray]; rw [List.getElem?_eq_getElem (by simpa using h1)] at e1; exact Option.some.inj e1
  have e4 : its2.toArray[j] = w := by
    rw [List.getElem_toArray]; rw [List.getElem?_eq_getElem (by simpa using h2)] at e2; exact Option.some.inj e2
  have g1 : xs.getD j .non = xs[j] := by rw [List.getD_eq_getElem?_getD, List.getElem?_eq_getElem hx]; rfl
  have g2 : ys.getD j .non = ys[j] := by rw [List.getD_eq_getElem?_getD, List.getElem?_eq_getElem hy]; rfl
  rw [e3, e4, g1, g2]
  exact eqAt_V q1 q2 (List.all_eq_true.mp fx _ (List.getElem_mem hx)) (List.all_eq_true.mp fy _ (List.getElem_mem hy))
theorem op_eq_lst (hu : X.A.units < cLine) : OpR X (compareOp .Eq) (rEqL X.K false) := by
  intro pins s σ H x y v u Q I rx ry h
  obtain ⟨l, b, xs, ys, rfl, rfl, hx, hy, fx, fy, q⟩ := h
  cases rx; cases ry
  obtain ⟨its, r, pl, _⟩ := I.list hx
  obtain ⟨its2, r2, pl2, _⟩ := I.list hy
  have l1 := r.length
  have l2 := r2.length
  by_cases hl : xs.length = ys.length
  · refine SeqAt.eq_listAt pl.isList pl2.isList (by simp; omega) hu (flat_at r r2 fx fy) ?_
    rw [List.size_toArray, ← l1, eqL_all xs ys hl]
    exact ⟨.bl _, H, I, rfl, q⟩
  · refine SeqAt.eq_list_lengthsAt pl.isList pl2.isList (by simp; omega) hu ?_
    rw [show (if false = true then !eqL xs ys else eqL xs ys) = false from eqL_len hl] at q
    exact ⟨.bl _, H, I, rfl, q⟩
/- all(xs) of bools -/
end

/- a new object laid and tracked, at an address where none was -/
theorem Inv.laidN {X : Cx} {pins : List (Addr × Obj)} {σ : St} {H : Hp} {s : Shared} {h' : Heap} {a : Addr} {o : HO} {t' : Nat} (I : Inv X pins σ H s) (k : ∀ b u, s.heap.get? b = some u → h'.get? b = some u) (hn : s.heap.get? a = none)
    (new : ObjOk X.prog X.w (upd H a o) h' a o) : Inv X pins σ (upd H a o) { s with heap := h', toks := t' } := by
  have ha : H a = none := I.hasNo hn
  have nt : ∀ b u, H b = some u → b ≠ a := fun b u q => ne_of_none q ha
  refine I.un ⟨fun b u q _ _ _ => k b u q, fun b u q _ _ _ => ⟨u.slots, k b u q⟩, fun b u q n _ => ?_, fun b u q _ => ⟨u, k b u q⟩, fun b xs q => ?_, fun b u xs q => ?_, fun b ps q => ⟨#[], ?_⟩⟩ fun b u q => ?_
  · have ne : b ≠ a := fun z => by rw [z, hn] at q; cases q
    rw [upd_ne ne]; exact n
  · rw [upd_ne (nt _ _ q)]; exact q
  · rw [upd_ne (nt _ _ q)]; exact q
  · rw [upd_ne (nt _ _ q), q]; simp
  · by_cases hb : b = a
    · subst hb; rw [upd_same] at q; cases q; exact new
    · rw [upd_ne hb] at q
      exact (I.hok b u q).stay (fun c v _ z => k c v z) (fun c z => by rw [upd_ne (nt _ _ z)]; exact z) fun c xs z => by rw [upd_ne (nt _ _ z)]; exact z

/-! ### [x in z for x in text] -/
/- the sign c stands in the text z -/
def inS (z : Str) (c : Nat) : Bool := !(Builtin.Str.occurrences z ⟨#[c]⟩ 0 z.length 1).isEmpty
section
variable {X : Cx} {x z : Str} {p1 p2 p3 px pos : Pos} {iter : Expr} {ti : TE} {scope : Scope} {cl : List (Str × Addr)} {zs : Str}
/- z is read inside the block: the text zs -/
def ZRead (X : Cx) (scope : Scope) (cl : List (Str × Addr)) (z : Str) (p2 : Pos) (zs : Str) (σ : St) : Prop :=
  ∀ (pins : List (Addr × Obj)) (H : Hp) (s1 s3 : Shared) (C : Addr) (Q : Value → Shared → Prop) (E : Value → Shared → Prop), Inv X pins σ H s1 → (∀ b o, s1.heap.get? b = some o → s3.heap.get? b = some o) → (∀ t, Q (.str zs t) s3) →
    wpAny (model X.prog X.w) X.A (eval (.Name z p2) (compEnvC scope cl C X.env)) Q E s3
def tCompIn (X : Cx) (scope : Scope) (cl : List (Str × Addr)) (z : Str) (p2 : Pos) (ti : TE) : TE := fun σ H Q => ∃ zs, ZRead X scope cl z p2 zs σ ∧ ti σ H fun v H1 => ∃ y, v = .str y ∧ y.length ≤ sizeLine ∧
  ∀ p, H1 p = none → Q (.ref p) (upd H1 p (.lst (y.cps.toList.map fun c => V.bl (inS zs c))))
/- z a module's text -/
/- z a name of the def, in a cell -/
end

/-! ### isinstance -/
section
variable {X : Cx}
theorem call_isi_ty : CallR X (.builtin "isinstance") (fun xs H Q => ∃ x T t b, xs = [x, .ty T] ∧ TyOf X.K H x t ∧ PySem.W.kitOne X.K t (.type T) = some b ∧ Q (.bl b) H) := by
  intro pins s σ H xs us Q I r h
  obtain ⟨x, T, t, b, rfl, ty, e, q⟩ := h
  obtain ⟨u, w', rfl, rx, ry⟩ := vals2 r
  cases (show w' = Value.type T from ry)
  exact isinst_ok I rx ty e fun tk => ⟨.bl b, H, I.tok _, rfl, q⟩
theorem call_isi_own : CallR X (.builtin "isinstance") (fun xs H Q => ∃ x C t b, xs = [x, .ref C] ∧ TyOf X.K H x t ∧ PySem.W.kitOne X.K t (.ref C) = some b ∧ Q (.bl b) H) := by
  intro pins s σ H xs us Q I r h
  obtain ⟨x, C, t, b, rfl, ty, e, q⟩ := h
  obtain ⟨u, w', rfl, rx, ry⟩ := vals2 r
  cases (show w' = Value.ref C from ry)
  exact isinst_ok I rx ty e fun tk => ⟨.bl b, H, I.tok _, rfl, q⟩
end

/-! ### names of the module, in short -/
section
variable {X : Cx} {x : Str} {pos : Pos}
theorem pe_gref {a : Addr} (hg : Gl X x) (hm : X.mg x = some (.ref a)) (hd : (x == ("__debug__" : Str)) = false := by decide) : PE X (.Name x pos) (tC (.ref a)) := pe_glob hg hm rfl hd
theorem pe_gty {T : String} (hg : Gl X x) (hm : X.mg x = none) (hv : bootBuiltins x = some (.type T)) (hn : x ≠ "__name__" := by decide) (hd : (x == ("__debug__" : Str)) = false := by decide) : PE X (.Name x pos) (tC (.ty T)) := pe_bltn hg hm hv rfl hn hd
end
end L2

set_option Elab.async false
set_option linter.all false
set_option maxRecDepth 100000
set_option maxHeartbeats 4000000
namespace L2
open PySem PySem.Spec PyProof.Rows PySem.W PySem.Calls Builtin Builtin.ObjectAttr Builtin.Getset_descriptor

section
variable {prog : Program} {w : World} {A : Around} {E : Value → Shared → Prop} {s : Shared} {K : PySem.W.Frag} {a C : Addr} {o : Obj} {R : Result → Shared → Prop}
/- what is asked of an own class of exceptions for isinstance -/
structure ExI (K : PySem.W.Frag) (C : Addr) : Prop where
  cl : (PySem.W.clsIn K C).isSome = true
  g1 : PySem.W.findIn K (.ref C) "__getattribute__" = some (some (.builtin "BaseException.__getattribute__"))
  g2 : PySem.W.findIn K (.ref C) "__getattr__" = some none
  g3 : PySem.W.findIn K (.ref C) "__class__" = some (some (.builtin "object.__class__"))
  g4 : PySem.W.mroIn K C (.type "object") = some true
  g5 : PySem.W.mroIn K C (.type "BaseException") = some true
  g6 : PySem.W.specialIn K (.builtin "object.__class__") "__get__" = some (some (.builtin "getset_descriptor.__get__"))
  g7 : PySem.W.takesIn K (.builtin "object.__class__") = some true
theorem exc_get {tp : Value} (Y : K.In s.heap) (c : ExI K C) (hx : s.heap.get? a = some o) (hc : o.cls = .ref C) (h : R (.ok (.ret (.ref C))) s) :
    codeAny (model prog w) A (.call (.builtin "getset_descriptor.__get__") ⟨[.builtin "object.__class__", .ref a, tp], []⟩) R s := by
  obtain ⟨hh, g, dr, t, os⟩ := s
  have L0 : Looks (model prog w) hh (typeOf (.ref a)) (.ref C) := hc ▸ (Looks.ld hx).andThen .now
  have L1 := looks_mroIn (M := model prog w) Y c.g4
  refine codeAny_call_builtin KF.slot_gs.plain KF.entry_gs (KF.slot_gs.check _ _ _ _ _ _ _ _ KF.type_class (KF.args_gs _ _ _) ?_)
  unfold Builtin.«getset_descriptor.__get__» descrGet
  rw [dga_obj]
  refine wpAny_bind (wpAny_pure ?_)
  unfold descrGetter descrCheckInstance descrNameAndClass isInstance
  simp only [KF.owner_class]
  repeat lk
  refine ⟨Code.quiet_builtin _ (by decide +kernel), codeAny_builtin KF.entry_class ?_⟩
  unfold Builtin.«object.__class__» shownTypeOf
  repeat lk
  exact h
theorem exc_entry {tk : Tok} {Q : Fin → Shared → Prop} (Y : K.In s.heap) (c : ExI K C) (hx : s.heap.get? a = some o) (hc : o.cls = .ref C) (h : Q (.done (.ret (.ref C))) s) :
    wpAny (model prog w) A (Builtin.«object.__getattribute__» ⟨[.ref a, .str "__class__" tk], []⟩) Q E s := by
  obtain ⟨hh, g, dr, t, os⟩ := s
  have L0 : Looks (model prog w) hh (typeOf (.ref a)) (.ref C) := hc ▸ (Looks.ld hx).andThen .now
  have L1 := looks_findIn (M := model prog w) Y c.g3
  have L2 := looks_specialIn (M := model prog w) Y c.g6
  have L3 := looks_takesIn (M := model prog w) Y c.g7
  unfold Builtin.«object.__getattribute__»
  repeat lk
  refine wpAny_run (c := .call (.builtin "getset_descriptor.__get__") ⟨[.builtin "object.__class__", .ref a, .ref C], []⟩) (h := none) (exc_get (R := _) Y c hx hc ?_)
  exact wpAny_pure (wpAny_pure h)
theorem exc_check {M : Model} {nameV : Value} {Q : Unit → Shared → Prop} (Y : K.In s.heap) (c : ExI K C) (hx : s.heap.get? a = some o) (hc : o.cls = .ref C) (h : Q () s) :
    wpAny M A (checkBuiltinCall "BaseException.__getattribute__" ⟨[.ref a, nameV], []⟩) Q E s := by
  obtain ⟨hh, g, dr, t, os⟩ := s
  have L0 : Looks M hh (typeOf (.ref a)) (.ref C) := hc ▸ (Looks.ld hx).andThen .now
  have L1 := looks_mroIn (M := M) Y c.g5
  have hk : builtinKind "BaseException.__getattribute__" = some .slot := by decide +kernel
  have hsplit : splitId "BaseException.__getattribute__" = some ("BaseException", "__getattribute__") := by decide +kernel
  have ha := PySem.F.args_bexc_ga (.ref a) nameV
  simp only [checkBuiltinCall, hk, hsplit]
  refine wpAny_bind ?_
  unfold isInstance
  refine wpAny_bind (L0.at ?_)
  refine L1.at ?_
  rw [if_neg (by decide)]
  exact wpAny_of_eq ha h
theorem exc_attr {Q : Option Value → Shared → Prop} (Y : K.In s.heap) (c : ExI K C) (hx : s.heap.get? a = some o) (hc : o.cls = .ref C) (h : Q (some (.ref C)) { s with toks := s.toks + 1 }) :
    wpAny (model prog w) A (getAttr? (.ref a) "__class__") Q E s := by
  obtain ⟨hh, g, dr, t, os⟩ := s
  have L0 : Looks (model prog w) hh (typeOf (.ref a)) (.ref C) := hc ▸ (Looks.ld hx).andThen .now
  have L1 := looks_findIn (M := model prog w) Y c.g1
  have L2 := looks_findIn (M := model prog w) Y c.g2
  have f3 := PySem.F.excAttr_ValueError.ga.bind (.ref a)
  unfold getAttr? getAttrBy? getAttrBy
  refine wpAny_bind (wpAny_mkText (wpAny_bind (wpAny_attempt (wpAny_holding (wpAny_bind (L0.at (wpAny_bind (L1.at ?_))))))))
  dsimp only
  rw [if_neg (show ¬ ((onTheHeap (Value.ref C) && Value.builtin "BaseException.__getattribute__" == Value.builtin "object.__getattribute__") = true) by
    rw [show (Value.builtin "BaseException.__getattribute__" == Value.builtin "object.__getattribute__") = false by decide +kernel, Bool.and_false]; decide)]
  unfold getAttrByItsOwn hookBefore
  rw [if_pos (show onTheHeap (Value.ref C) = true from rfl)]
  refine wpAny_bind (L2.at ?_)
  unfold callGetattribute
  rw [if_neg (by decide)]
  unfold boundAndCalled
  refine wpAny_bind (wpAny_attempt (wpAny_holding (wpAny_bind (wpAny_of_eq f3 ?_))))
  refine wpAny_call (codeAny_call_builtin PySem.F.excAttr_ValueError.ga.plain PySem.F.entry_bexc_ga (exc_check Y c hx hc (exc_entry Y c hx hc ?_)))
  exact wpAny_pure (wpAny_pure h)

theorem kitx_exc (c : ExI K C) : KitX K (.ref a) (.ref C) (fun h => ∃ ob vs, h.get? a = some ob ∧ ob.cls = .ref C ∧ ob.data = .fields vs) where
  ty := fun M h Y ⟨ob, vs, hx, hc, _⟩ => hc ▸ (Looks.ld hx).andThen .now
  it := fun M h Y _ => by
    obtain ⟨cd, hcd⟩ := Option.isSome_iff_exists.mp c.cl
    unfold clsIn at hcd
    split at hcd
    · next ho =>
      intro A' Q' E' s' k q
      unfold isType loadHead
      exact wpAny_bind (wpAny_loadPart (k _ _ (Y _ _ ho)) (wpAny_pure q))
    · cases hcd
  ne := fun h tp dd its n sl Y htp => by
    obtain ⟨cd, hcd⟩ := Option.isSome_iff_exists.mp c.cl
    refine Bool.eq_false_iff.mpr fun q => ?_
    have e : C = tp := Value.ref.inj (beq_iff_eq.mp q)
    subst e
    unfold clsIn at hcd
    split at hcd
    · next ho =>
      have z := (Y _ _ ho).symm.trans htp
      cases z
    · cases hcd
  ca := fun Y ⟨ob, vs, hx, hc, _⟩ k => exc_attr Y c hx hc k
end
/- isinstance of an exception that is in hand -/
theorem call_isi_exc {X : Cx} : CallR X (.builtin "isinstance") (fun xs H Q => ∃ (a C D : Addr) (b : Bool), xs = [.ref a, .ref D] ∧ H a = some (exO a (.ref C)) ∧ ExI X.K C ∧ PySem.W.kitOne X.K (.ref C) (.ref D) = some b ∧ Q (.bl b) H) := by
  intro pins s σ H xs us Q I r h
  obtain ⟨a, C, D, b, rfl, ha, c, e, q⟩ := h
  obtain ⟨u, w', rfl, rx, ry⟩ := vals2 r
  cases (show u = Value.ref a from rx)
  cases (show w' = Value.ref D from ry)
  obtain ⟨p, _⟩ := I.hok a _ ha
  exact kia_one (kitx_exc c) I.kIn p e (fun z => nomatch z) fun tk => ⟨.bl b, H, I.tok _, rfl, q⟩
theorem call_isi_excT {X : Cx} : CallR X (.builtin "isinstance") (fun xs H Q => ∃ (a C : Addr) (T : String) (b : Bool), xs = [.ref a, .ty T] ∧ H a = some (exO a (.ref C)) ∧ ExI X.K C ∧ PySem.W.kitOne X.K (.ref C) (.type T) = some b ∧ Q (.bl b) H) := by
  intro pins s σ H xs us Q I r h
  obtain ⟨a, C, T, b, rfl, ha, c, e, q⟩ := h
  obtain ⟨u, w', rfl, rx, ry⟩ := vals2 r
  cases (show u = Value.ref a from rx)
  cases (show w' = Value.type T from ry)
  obtain ⟨p, _⟩ := I.hok a _ ha
  exact kia_one (kitx_exc c) I.kIn p e (fun z => nomatch z) fun tk => ⟨.bl b, H, I.tok _, rfl, q⟩
end L2

set_option Elab.async false
set_option linter.all false
set_option maxRecDepth 100000
set_option maxHeartbeats 4000000
namespace L2
open PySem PySem.Spec PyProof.Rows

/-! LIST COMPREHENSIONS over the layer: the block is a context of its own -/
theorem thnF {α : Type} {t : Sem α} {Q Q' : α → Shared → Prop} {M : Model} {A : Around} {E : Value → Shared → Prop} {s : Shared} (h : wpAny M A t Q (fun _ _ => False) s) (hQ : ∀ a s, Q a s → Q' a s) : wpAny M A t Q' E s := wpAny_mono h hQ fun _ _ z => z.elim

abbrev testsOf (ifs : List Expr) (env : Env) : Sem Bool := forIn ifs true fun c r => if r = true then do let ok ← isTrue c env (eval c env); pure (ForInStep.yield ok) else pure (ForInStep.yield r)

/- the turns of the block, by a word I and a measure -/
theorem comp_turns {prog : Program} {w : World} {A : Around} {R : Result → Shared → Prop} {s : Shared} {elt tg iter : Expr} {ifs : List Expr} {scope : Scope} {pos : Pos} {it acc : Value} {env : Env} (J : Nat → Shared → Prop)
    (turn : ∀ k s1, J k s1 → wpAny (model prog w) A (pyNext it) (fun r s2 => match r with
      | none => R (.ok .next) s2
      | some v => wpAny (model prog w) A (letOwnedTupleGo tg it v) (fun _ s3 => wpAny (model prog w) A (assign tg env v) (fun _ s4 => wpAny (model prog w) A (testsOf ifs env) (fun ok s5 =>
          if ok = true then wpAny (model prog w) A (eval elt env) (fun x s6 => wpAny (model prog w) A (call (.builtin "list.append") [acc, x]) (fun _ s7 => ∃ m, m < k ∧ J m s7) (fun _ _ => False) s6) (fun _ _ => False) s5
          else ∃ m, m < k ∧ J m s5) (fun _ _ => False) s4) (fun _ _ => False) s3) (fun _ _ => False) s2) (fun _ _ => False) s1)
    (k : Nat) (h : J k s) : codeAny (model prog w) A (.compLoop (.ListComp elt [⟨tg, iter, ifs, 0⟩] scope pos) 0 it acc env) R s := by
  refine codeAny_loop rfl J (fun k s1 hJ => ?_) k h
  refine wpAny_noted ?_
  rw [compTurn_list]
  refine wpAny_bind (wpAny_standAt (wpAny_bind (thnF (turn k s1 hJ) fun r s2 h2 => ?_)))
  cases r with
  | none => exact wpAny_pure h2
  | some v =>
    refine wpAny_bind (thnF h2 fun _ s3 h3 => wpAny_bind (thnF h3 fun _ s4 h4 => wpAny_bind (thnF h4 fun ok s5 h5 => ?_)))
    cases ok with
    | false => exact wpAny_pure ⟨rfl, h5⟩
    | true => exact wpAny_bind (wpAny_bind (thnF h5 fun x s6 h6 => wpAny_bind (thnF h6 fun _ s7 h7 => wpAny_pure (wpAny_pure ⟨rfl, h7⟩))))

/- the block's context: its frame C, its names N, entered at s0 with H0; ex: the iterator's objects -/
abbrev compCx (X : Cx) (N : List Str) (scope : Scope) (cl : List (Str × Addr)) (C : Addr) (s0 : Shared) (H0 : Hp) (ex : List Addr) (pins : List (Addr × Obj)) : Cx :=
  { X with N := N, s₀ := s0, H₀ := H0, env := compEnvC scope cl C X.env, outer := X.stack, stack := X.stack, ex := ex, fn := fun _ => false, pn := X.pn ++ pins, xe := fun _ _ => False }
/- the block's names that are read from around: their slots there -/
def FreeOk (X : Cx) (scope : Scope) (cl : List (Str × Addr)) : List Str → List (Option Nat) → Prop
  | [], [] => True
  | _ :: N, none :: fr => FreeOk X scope cl N fr
  | y :: N, some i :: fr => (X.N[i]? = some y ∧ (X.env.kindOf y = some .cell ∨ X.env.kindOf y = some .free) ∧ ((relabel scope X.env).names.lookup y = some .cell ∨ (relabel scope X.env).names.lookup y = some .free) ∧
      ∃ c, X.env.cells.lookup y = some c ∧ cl.lookup y = some c) ∧ FreeOk X scope cl N fr
  | _, _ => False
def compSt (fr : List (Option Nat)) (σ : St) : St := fr.map fun o => match o with | none => none | some i => (σ[i]?).getD none
theorem FreeOk.len {X : Cx} {scope : Scope} {cl : List (Str × Addr)} : ∀ {N : List Str} {fr : List (Option Nat)}, FreeOk X scope cl N fr → fr.length = N.length
  | [], [], _ => rfl
  | _ :: N, none :: fr, h => by rw [List.length_cons, List.length_cons, FreeOk.len (N := N) h]
  | _ :: N, some i :: fr, h => by rw [List.length_cons, List.length_cons, FreeOk.len (N := N) h.2]
  | [], _ :: _, h => h.elim
  | _ :: _, [], h => h.elim
theorem FreeOk.at {X : Cx} {scope : Scope} {cl : List (Str × Addr)} {σ : St} {v : V} {y : Str} : ∀ {N : List Str} {fr : List (Option Nat)} {j : Nat}, FreeOk X scope cl N fr → N[j]? = some y → (compSt fr σ)[j]? = some (some v) →
    ∃ i : Nat, σ[i]? = some (some v) ∧ X.N[i]? = some y ∧ (X.env.kindOf y = some .cell ∨ X.env.kindOf y = some .free) ∧ ((relabel scope X.env).names.lookup y = some .cell ∨ (relabel scope X.env).names.lookup y = some .free) ∧
      ∃ c, X.env.cells.lookup y = some c ∧ cl.lookup y = some c
  | [], [], j, _, e, _ => by simp at e
  | [], _ :: _, _, h, _, _ => h.elim
  | _ :: _, [], _, h, _, _ => h.elim
  | _ :: N, none :: fr, 0, _, _, q => by cases q
  | _ :: N, none :: fr, j + 1, h, e, q => FreeOk.at (N := N) (fr := fr) (j := j) h e q
  | x :: N, some i :: fr, 0, h, e, q => by
    have e' : x = y := Option.some.inj e
    subst e'
    have q' : some ((σ[i]?).getD none) = some (some v) := q
    refine ⟨i, ?_, h.1⟩
    cases z : σ[i]? with
    | none => rw [z] at q'; cases q'
    | some o => rw [z] at q'; exact congrArg some (Option.some.inj q')
  | _ :: N, some i :: fr, j + 1, h, e, q => FreeOk.at (N := N) (fr := fr) (j := j) h.2 e q
def ClOk (X : Cx) : List (Str × Addr) → Prop
  | [] => True
  | (y, c) :: r => X.env.cells.lookup y = some c ∧ ClOk X r
theorem ClOk.at {X : Cx} {y : Str} {c : Addr} : ∀ {cl : List (Str × Addr)}, ClOk X cl → cl.lookup y = some c → X.env.cells.lookup y = some c
  | [], _, e => by cases e
  | (z, d) :: r, h, e => by
    rw [List.lookup_cons] at e
    cases q : y == z with
    | true =>
      rw [q] at e
      have e1 : y = z := by simpa using q
      have e2 : d = c := Option.some.inj e
      subst e1 e2
      exact h.1
    | false =>
      rw [q] at e
      exact ClOk.at h.2 e
theorem lookup_all {α : Type} {p : Str × α → Bool} {y : Str} {k : α} : ∀ {l : List (Str × α)}, l.all p = true → l.lookup y = some k → p (y, k) = true
  | [], _, e => by cases e
  | (z, d) :: r, h, e => by
    rw [List.all_cons, Bool.and_eq_true] at h
    rw [List.lookup_cons] at e
    cases q : y == z with
    | true =>
      rw [q] at e
      have e1 : y = z := by simpa using q
      have e2 : d = k := Option.some.inj e
      subst e1 e2
      exact h.1
    | false =>
      rw [q] at e
      exact lookup_all h.2 e

section
variable {X : Cx} {pins : List (Addr × Obj)} {σ : St} {H : Hp} {s : Shared} {N : List Str} {fr : List (Option Nat)} {scope : Scope} {cl : List (Str × Addr)}
/- the block is entered -/
theorem Inv.block {ex : List Addr} {h' : Heap} {C : Addr} {m : Str → Option Value} {tk : Nat} (I : Inv X pins σ H s) (hkind : scope.kind = .function) (hfr : FreeOk X scope cl N fr) (hcl : ClOk X cl)
    (hhas : ((relabel scope X.env).names.all fun p => !(p.2 == .cell || p.2 == .free) || (cl.lookup p.1).isSome) = true) (hex : ∀ b ∈ ex, FpOk X pins H b) (hlt : ∀ b ∈ ex, b < s.heap.objs.size)
    (old : ∀ b o, s.heap.get? b = some o → h'.get? b = some o) (hC : s.heap.objs.size ≤ C) (hns : h'.Ns C m) : Inv (compCx X N scope cl C s H ex pins) [] (compSt fr σ) H { s with heap := h', toks := tk } := by
  have nst : ∀ b, b ≠ X.env.locals → b ∉ X.fs → b ∉ frs X.stack := fun b h1 h2 z => (List.mem_cons.mp (I.stkSub b z)).elim h1 h2
  have ltC : ∀ b o, s.heap.get? b = some o → b ≠ C := fun b o e => Nat.ne_of_lt (Nat.lt_of_lt_of_le (Heap.lt_size e) hC)
  refine ⟨⟨I.ok.mod, hkind, I.ok.glob, I.ok.blt, hC, fun x y c e1 e2 => I.ok.inj x y c (hcl.at e1) (hcl.at e2), fun x hx => ?_, (fun _ _ z => nomatch z), I.ok.hd, I.ok.frames, .inl rfl, fun b hb => ⟨Nat.ne_of_lt (Nat.lt_of_lt_of_le (hlt b hb) hC), fun x c e => (hex b hb).2.2.2.2.1 x c (hcl.at e)⟩,
      I.bs, Nat.le_trans I.ok.bsz I.sz, fun b o e hb => ?_, fun b hb => nst b (hex b hb).2.1 (hex b hb).2.2.1, I.stack, I.stkFree⟩, rfl, I.bare, Un.kept old, ⟨m, hns, fun i x v e1 e2 e3 => ?_⟩, fun x c e => ?_, ?_, fun x c e => I.freeC x c (hcl.at e), fun p hp => ?_, I.hok.kept old, ?_⟩
  · have q : ∃ k, (relabel scope X.env).names.lookup x = some k ∧ (k = .cell ∨ k = .free) := hx.elim (fun z => ⟨_, z, .inl rfl⟩) fun z => ⟨_, z, .inr rfl⟩
    obtain ⟨k, q1, q2⟩ := q
    have z := lookup_all hhas q1
    have z2 : (cl.lookup x).isSome = true := by
      rcases q2 with rfl | rfl
      · simpa using z
      · simpa using z
    exact Option.isSome_iff_exists.mp z2
  · rcases (hex b hb).2.2.2.1 with z | z
    · exact I.ok.noex b o e z
    · exact absurd (Nat.lt_of_lt_of_le (Nat.lt_of_lt_of_le (Heap.lt_size e) I.ok.bsz) z) (Nat.lt_irrefl _)
  · obtain ⟨j, q1, q2, q3, q4, c, q5, q6⟩ := hfr.at e1 e2
    obtain ⟨m0, hn0, hl0⟩ := I.loc
    obtain ⟨u, r, l⟩ := hl0 j x v q2 q1 (q3.elim (fun z => .inr (.inl z)) fun z => .inr (.inr z))
    refine ⟨u, r, .inr ⟨q4, c, q6, ?_⟩⟩
    rcases l with ⟨k, _⟩ | ⟨_, c', e', o, ho, hd⟩
    · rcases q3 with z | z
      · rw [z] at k; cases k
      · rw [z] at k; cases k
    · rw [q5] at e'; cases e'
      exact ⟨o, old _ _ ho, hd⟩
  · obtain ⟨v, o, ho, hd⟩ := I.cell x c (hcl.at e)
    exact ⟨v, o, old _ _ ho, hd⟩
  · exact I.hok.fresh hC
  · have hp' : p ∈ X.pn ++ pins := by simpa using hp
    obtain ⟨e, n, ne, nf, d⟩ := I.pin p hp'
    exact ⟨old _ _ e, n, ltC _ _ e, nst _ ne nf, d⟩
  · show (compSt fr σ).length = N.length
    unfold compSt
    rw [List.length_map, hfr.len]

/- a list of the state that nobody tracks is tracked from here on -/
theorem Inv.trackS {a : Addr} {ob : Obj} {vs : Array Value} {n : Nat} {o : HO} (I : Inv X pins σ H s) (ha : H a = none) (hob : s.heap.get? a = some ob) (hd : ob.data = .seq vs n)
    (h0 : X.s₀.heap.get? a = none) (hp : ∀ p ∈ X.pn ++ pins, p.1 ≠ a) (new : ObjOk X.prog X.w (upd H a o) s.heap a o) : Inv X pins σ (upd H a o) s := by
  have nt : ∀ b u, H b = some u → b ≠ a := fun b u q => ne_of_none q ha
  refine ⟨I.ok, I.os, I.bare, ⟨I.base.keep, I.base.slot, fun b u e n hx => ?_, I.base.there, fun b xs q => ?_, fun b u xs q => ?_, fun b ps q => ?_⟩, I.loc, I.cell, ?_, fun y c e => ?_, fun p q => ?_, fun b u q => ?_, I.len⟩
  · have ne : b ≠ a := fun z => by rw [z, h0] at e; cases e
    rw [upd_ne ne]; exact I.base.free b u e n hx
  · have z := I.base.tups b xs q
    rw [upd_ne (nt _ _ z)]; exact z
  · have z := I.base.frzs b u xs q
    rw [upd_ne (nt _ _ z)]; exact z
  · obtain ⟨m, z⟩ := I.base.tbls b ps q
    exact ⟨m, by rw [upd_ne (nt _ _ z)]; exact z⟩
  · have ne : X.env.locals ≠ a := fun z => by
      obtain ⟨m, ⟨oL, es, ep, e1, e2, _⟩, _⟩ := I.loc
      rw [z, hob] at e1; cases e1
      rw [hd] at e2; cases e2
    rw [upd_ne ne]; exact I.free
  · have ne : c ≠ a := fun z => by
      obtain ⟨v, oc, e1, e2⟩ := I.cell y c e
      rw [z, hob] at e1; cases e1
      rw [hd] at e2; cases e2
    rw [upd_ne ne]; exact I.freeC y c e
  · obtain ⟨e, n, r⟩ := I.pin p q
    exact ⟨e, by rw [upd_ne (hp p q)]; exact n, r⟩
  · by_cases hb : b = a
    · subst hb; rw [upd_same] at q; cases q; exact new
    · rw [upd_ne hb] at q
      exact (I.hok b u q).stay (fun c v _ z => z) (fun c z => by rw [upd_ne (nt _ _ z)]; exact z) fun c xs z => by rw [upd_ne (nt _ _ z)]; exact z
end

/-! ### the tests of a block -/
def PTs (X : Cx) (ifs : List Expr) (t : TT) : Prop :=
  ∀ (pins : List (Addr × Obj)) (s : Shared) (σ : St) (H : Hp) (Q : Bool → Hp → Prop), Inv X pins σ H s → t σ H Q → wpAny (model X.prog X.w) X.A (testsOf ifs X.env) (TP X pins σ Q) X.xe s
def tTrue : TT := fun _ H Q => Q true H
theorem pts_nil {X : Cx} : PTs X [] tTrue := fun _ _ _ H _ I h => wpAny_tests_nil ⟨H, I, h⟩
/- the list acc is laid and handed on -/
def endC (Q : VK) (acc : List V) (H : Hp) : Prop := ∀ p, H p = none → Q (.ref p) (upd H p (.lst acc))
def tComp (fr : List (Option Nat)) (wi : TI) (g : TG) (tt : TT) (te : TE) : TE := fun σ H Q => wi σ H fun J H1 => ∃ W : Nat → Nat → List V → St → Hp → Prop, (∃ m, W 0 m [] (compSt fr σ) H1) ∧ ∀ i m acc σ1 H, W i m acc σ1 H →
  (J.stop i H ∧ endC Q acc H) ∨
  (J.go i H ∧ acc.length < sizeLine ∧ ∃ N : List V → St → Hp → Prop, (∀ acc' σ' H', N acc' σ' H' → ∃ m', m' < m ∧ W (i + 1) m' acc' σ' H') ∧ ∀ x H', J.yld i H x H' → g x σ1 H' fun σ2 H2 => tt σ2 H2 fun b H3 => if b = true then te σ2 H3 fun y H4 => N (acc ++ [y]) σ2 H4 else N acc σ2 H3)
theorem pe_comp {X : Cx} {elt tg iter : Expr} {ifs : List Expr} {scope : Scope} {cl : List (Str × Addr)} {pos : Pos} {N : List Str} {fr : List (Option Nat)} {wi : TI} {g : TG} {tt : TT} {te : TE}
    (hc : X.calm = true) (hi : PI X tg iter wi) (hclos : closureFor scope X.env = pure cl) (hcell : ∀ y ∈ scope.names, y.2 ≠ .cell) (hkind : scope.kind = .function)
    (hnames : ∀ y ∈ scope.names, y.2 = .local → scope.names.lookup y.1 = some .local) (hfr : FreeOk X scope cl N fr) (hcl : ClOk X cl)
    (hhas : ((relabel scope X.env).names.all fun p => !(p.2 == .cell || p.2 == .free) || (cl.lookup p.1).isSome) = true)
    (hg : ∀ C s0 H0 ex pins, PG (compCx X N scope cl C s0 H0 ex pins) tg g) (ht : ∀ C s0 H0 ex pins, PTs (compCx X N scope cl C s0 H0 ex pins) ifs tt) (he : ∀ C s0 H0 ex pins, PE (compCx X N scope cl C s0 H0 ex pins) elt te)
    (hs : ∀ v, foldedSetIterable iter X.env v = pure v := by intro _; rfl) : PE X (.ListComp elt [⟨tg, iter, ifs, 0⟩] scope pos) (tComp fr wi g tt te) := by
  intro pins s σ H Q I h
  rw [eval_ListComp]
  refine wpAny_comprehension_free (use := none) rfl hs hclos hkind hnames (thn (hi pins s σ H _ I h) fun xv s1 h1 => thn h1 fun itv s2 h2 => ?_)
  obtain ⟨it, fp, tn, J, H2, e, I2, T, st2, f2, W, ⟨m0, w0⟩, turn⟩ := h2
  subst e
  refine wpAny_newObj_type (wpAny_newFunctionEnv hcell (fun y hy => nomatch hy) (fun h4 hns hsb => ?_) hkind)
  dsimp only at hns hsb ⊢
  generalize hD : s2.heap.objs.size = D at *
  generalize hG : s2.heap.push { cls := .type "list", dict := none, data := .seq ([] : List Value).toArray } = G at hns hsb ⊢
  have hC : G.objs.size = D + 1 := by rw [← hG, Heap.size_push, hD]
  generalize hCC : G.objs.size = C at hns hsb hC ⊢
  subst hC
  have old : ∀ b o, s2.heap.get? b = some o → h4.get? b = some o := fun b o e => by
    have lt := Heap.lt_size e
    rw [hD] at lt
    exact hsb.extBut b o (Nat.ne_of_lt (Nat.lt_succ_of_lt lt)) (Heap.get?_push_of_some _ (hG ▸ Heap.get?_push_of_some _ e))
  have hDl : h4.get? D = some { cls := .type "list", dict := none, data := .seq ([] : List Value).toArray 0 } :=
    hsb.extBut _ _ (Nat.ne_of_lt (Nat.lt_succ_self _)) (Heap.get?_push_of_some _ (hG ▸ hD ▸ Heap.get?_push_size _ rfl))
  have flt : ∀ b ∈ fp, b < D := fun b hb => by
    obtain ⟨o, e, _⟩ := T.obj 0 _ st2 b hb
    have lt := Heap.lt_size e
    rw [hD] at lt
    exact lt
  have nst : ∀ b, b ≠ X.env.locals → b ∉ X.fs → b ∉ frs X.stack := fun b h1 h2 z => (List.mem_cons.mp (I2.stkSub b z)).elim h1 h2
  have pl : ∀ p ∈ X.pn ++ pins, p.1 < D := fun p hp => by
    have lt := Heap.lt_size (I2.pin p hp).1
    rw [hD] at lt
    exact lt
  have I4 : ∀ tk, Inv (compCx X N scope cl (D + 1) s2 H2 fp pins) [] (compSt fr σ) H2 { s2 with heap := h4, toks := tk } := fun tk =>
    I2.block hkind hfr hcl hhas f2 (fun b hb => by rw [hD]; exact flt b hb) old (by rw [hD]; exact Nat.le_succ _) hns
  have stat : ∀ {H' : Hp} {o : Obj}, (∀ b ∈ fp, H' b = none) → ∀ b ∈ fp, FpOk (compCx X N scope cl (D + 1) s2 H2 fp pins) [(D, o)] H' b := fun {H' o} hn b hb => by
    obtain ⟨_, k1, k2, _, k4, k5⟩ := f2 b hb
    refine ⟨hn b hb, Nat.ne_of_lt (Nat.lt_succ_of_lt (flt b hb)), nst b k1 k2, .inl hb, fun x c e => k4 x c (hcl.at e), fun p hp => ?_⟩
    rcases List.mem_append.mp hp with hp | hp
    · exact k5 p hp
    · rw [List.mem_singleton.mp hp]
      exact (Nat.ne_of_lt (flt b hb)).symm
  have dnf : D ∉ frs X.stack := fun z => by
    obtain ⟨_, o, e, _⟩ := I2.stack.mem z
    have lt := Heap.lt_size e
    rw [hD] at lt
    exact absurd lt (Nat.lt_irrefl _)
  have loop : ∀ tk, codeAny (model X.prog X.w) X.A (.compLoop (.ListComp elt [⟨tg, iter, ifs, 0⟩] scope pos) 0 (.ref it) (.ref D) (compEnvC scope cl (D + 1) X.env)) (compPost (model X.prog X.w) X.A X.xe none (EP X pins σ Q) (.ref D) (D + 1)) { s2 with heap := h4, toks := tk } := fun tk => by
    refine comp_turns (fun k s' => ∃ i σ' H' its nD acc, Inv (compCx X N scope cl (D + 1) s2 H2 fp pins) [] σ' H' s' ∧
        s'.heap.get? D = some { cls := .type "list", dict := none, data := .seq (List.toArray its) nD } ∧ H' D = none ∧ Vals acc its ∧ acc.length ≤ sizeLine ∧ tn i s'.heap ∧ (∀ b ∈ fp, H' b = none) ∧ W i k acc σ' H') ?_ m0
      ⟨0, _, H2, [], 0, [], I4 tk, hDl, I2.hok.fresh (by rw [hD]; exact Nat.le_refl _), .nil, Nat.zero_le _, T.keep 0 _ _ st2 fun b _ o e => old b o e, fun b hb => (f2 b hb).1, w0⟩
    rintro k s5 ⟨i, σ5, H5, its, nD, acc, I5, hL, hn5, va, hacc, st5, fr5, w5⟩
    have dcell : ∀ x c, cl.lookup x = some c → c ≠ D := fun x c e z => by
      obtain ⟨v, q⟩ := I2.cell x c (hcl.at e)
      have lt := q.lt
      rw [hD, z] at lt
      exact absurd lt (Nat.lt_irrefl _)
    have I5' : Inv (compCx X N scope cl (D + 1) s2 H2 fp pins) [(D, { cls := .type "list", dict := none, data := .seq (List.toArray its) nD })] σ5 H5 s5 := I5.pins_of fun p hp => by
      rw [List.mem_singleton.mp hp]
      exact ⟨hL, hn5, Nat.ne_of_lt (Nat.lt_succ_self _), dnf, fun v z => by cases z⟩
    rcases turn i k acc σ5 H5 w5 with ⟨stop, qn⟩ | ⟨go, hlt, N1, hN1, step⟩
    · refine thnF (T.done (compCx X N scope cl (D + 1) s2 H2 fp pins) rfl rfl rfl hc i _ s5 _ H5 _ I5' (stat fr5) st5 stop) fun r s6 ⟨hr, I6⟩ => ?_
      subst hr
      obtain ⟨m6, hn6, _⟩ := I6.loc
      refine ⟨m6, hn6, fun h7 hs7 => ?_⟩
      have hL7 : h7.get? D = some { cls := .type "list", dict := none, data := .seq (List.toArray its) nD } := hs7.extBut _ _ (Nat.ne_of_lt (Nat.lt_succ_self _)) (I6.pin (D, _) (List.mem_append_right _ (List.mem_singleton.mpr rfl))).1
      have neC : ∀ b o, s2.heap.get? b = some o → b ≠ D + 1 := fun b o e => by
        have lt := Heap.lt_size e
        rw [hD] at lt
        exact Nat.ne_of_lt (Nat.lt_succ_of_lt lt)
      have nt : ∀ b u, H5 b = some u → b ≠ D + 1 := fun b u q z => by
        have f := I6.free
        rw [z] at q
        rw [show H5 (D + 1) = none from f] at q
        cases q
      have un : Un (frs X.stack) fp H2 H5 s2.heap h7 := ⟨fun b o e n hb hx => hs7.extBut b o (neC b o e) (I6.base.keep b o e n hb hx),
        fun b o e n hb hx => let ⟨sl, q⟩ := I6.base.slot b o e n hb hx; ⟨sl, hs7.extBut b _ (neC b o e) q⟩, I6.base.free, fun b o e hx => let ⟨o', q⟩ := I6.base.there b o e hx; ⟨o', hs7.extBut b _ (neC b o e) q⟩, I6.base.tups, I6.base.frzs, I6.base.tbls⟩
      have hok : HOk X.prog X.w H5 h7 := fun b u q => (I6.hok b u q).stay (fun c v hc e => hs7.extBut c v (by
        rcases hc with rfl | hc
        · exact nt _ _ q
        · exact nt _ _ hc) e) (fun _ z => z) fun _ _ z => z
      have I8 : Inv X pins σ H5 { s6 with heap := h7 } := I2.call' (s' := { s6 with heap := h7 }) I6.os un hok I6.bare fun b hb => let ⟨_, k1, _, k3, k4, k5⟩ := f2 b hb; ⟨k3, k1, k4, k5⟩
      have I9 : Inv X pins σ (upd H5 D (.lst acc)) { s6 with heap := h7 } := I8.trackS hn5 hL7 rfl (by
          cases z : X.s₀.heap.get? D with
          | none => rfl
          | some o =>
            have lt := Nat.lt_of_lt_of_le (Heap.lt_size z) I2.sz
            rw [hD] at lt
            exact absurd lt (Nat.lt_irrefl _)) (fun p hp => Nat.ne_of_lt (pl p hp)) ⟨hacc, its, nD, va, hL7⟩
      exact ⟨.ref D, _, I9, rfl, qn D hn5⟩
    · refine thnF (T.item (compCx X N scope cl (D + 1) s2 H2 fp pins) rfl rfl rfl hc i _ s5 _ H5 _ I5' (stat fr5) st5 go) fun r s6 ⟨u, hr, h6⟩ => ?_
      subst hr
      refine thnF h6 fun _ s7 ⟨x, H7, I7, r7, y7, st7, fr7⟩ => ?_
      have I7' : Inv (compCx X N scope cl (D + 1) s2 H2 fp pins) ([(D, { cls := .type "list", dict := none, data := .seq (List.toArray its) nD })] ++ pinsAt fp s7.heap) σ5 H7 s7 := I7.pinned (stat fr7) (T.obj _ _ st7)
      refine thnF (hg _ _ _ _ _ _ s7 _ H7 x u _ I7' r7 (step x H7 y7)) fun _ s8 ⟨σ8, H8, I8, q8⟩ => ?_
      refine thnF (ht _ _ _ _ _ _ s8 σ8 H8 _ I8 q8) fun ok s9 ⟨H9, I9, q9⟩ => ?_
      have wk : ∀ {σ' : St} {H' : Hp} {s' : Shared}, Inv (compCx X N scope cl (D + 1) s2 H2 fp pins) ([(D, { cls := .type "list", dict := none, data := .seq (List.toArray its) nD })] ++ pinsAt fp s7.heap) σ' H' s' →
          tn (i + 1) s'.heap ∧ (∀ b ∈ fp, H' b = none) ∧ s'.heap.get? D = some { cls := .type "list", dict := none, data := .seq (List.toArray its) nD } ∧ H' D = none := fun {σ' H' s'} J' => by
        have pin : ∀ p ∈ ([(D, { cls := .type "list", dict := none, data := .seq (List.toArray its) nD })] : List (Addr × Obj)) ++ pinsAt fp s7.heap, s'.heap.get? p.1 = some p.2 ∧ H' p.1 = none := fun p hp => let ⟨e, n, _⟩ := J'.pin p (List.mem_append_right _ hp); ⟨e, n⟩
        refine ⟨T.keep _ _ _ st7 fun b hb o e => (pin (b, o) (List.mem_append_right _ (mem_pinsAt hb e))).1, fun b hb => ?_, (pin (D, _) (List.mem_append_left _ (List.mem_singleton.mpr rfl))).1, (pin (D, _) (List.mem_append_left _ (List.mem_singleton.mpr rfl))).2⟩
        obtain ⟨o, e, _⟩ := T.obj _ _ st7 b hb
        exact (pin (b, o) (List.mem_append_right _ (mem_pinsAt hb e))).2
      cases ok with
      | false =>
        obtain ⟨m', hm, w9⟩ := hN1 _ _ _ q9
        obtain ⟨k1, k2, k3, k4⟩ := wk I9
        exact ⟨m', hm, i + 1, σ8, H9, its, nD, acc, I9.pins_of (fun _ z => nomatch z), k3, k4, va, hacc, k1, k2, w9⟩
      | true =>
        refine thnF (he _ _ _ _ _ _ s9 σ8 H9 _ I9 q9) fun y s10 ⟨v, H10, I10, r10, q10⟩ => ?_
        obtain ⟨m', hm, w10⟩ := hN1 _ _ _ q10
        obtain ⟨k1, k2, k3, k4⟩ := wk I10
        refine call_meets F.slot_list_append ⟨_, k3, rfl⟩ F.entry_list_append (F.args_list_append_2 _ _) (PySem.list_append D its.toArray nD y (by rw [List.size_toArray, ← va.length]; omega)) ⟨k3, ?_⟩
        have up : ∀ b o, b ≠ D → s10.heap.get? b = some o → (s10.heap.update D (Obj.mapSeq fun z => z.push y)).get? b = some o := fun b o hb e => (Heap.get?_update_other s10.heap _ (Ne.symm hb)).trans e
        have I11 : Inv (compCx X N scope cl (D + 1) s2 H2 fp pins) [] σ8 H10 { s10 with heap := s10.heap.update D (Obj.mapSeq fun z => z.push y), toks := s10.toks } :=
          (I10.pins_of (pins' := []) fun _ z => nomatch z).turned up k4 (Nat.ne_of_lt (Nat.lt_succ_self _)) (.inr (by rw [hD]; exact Nat.le_refl _)) dcell fun p hp => by
            have hp' : p ∈ X.pn ++ pins := by simpa using hp
            exact Nat.ne_of_lt (pl p hp')
        have q := PySem.IsL.update k3 (fun z => z.push y)
        rw [show (List.toArray its).push y = (its ++ [y]).toArray by simp] at q
        refine ⟨m', hm, i + 1, σ8, H10, its ++ [y], _, acc ++ [v], I11, q, k4, va.append (.cons r10 .nil), ?_, T.keep _ _ _ k1 fun b hb o e => up b o (Nat.ne_of_lt (flt b hb)) e, k2, w10⟩
        rw [List.length_append, List.length_singleton]
        omega
  exact codeAny_compStart_list (loop _) (T.self _ 0 _ _ _ (T.keep 0 _ _ st2 fun b _ o e => old b o e) (loop _))
/- over a list that the block leaves as it is -/
theorem comp_list {K : PySem.W.Frag} {a : Addr} {xs : List V} {g : TG} {tt : TT} {te : TE} {σ0 : St} {H : Hp} {Q : VK} (Pv : Nat → List V → St → Hp → Prop) (h0 : Pv 0 [] σ0 H) (hz : xs.length ≤ sizeLine) (hl : ∀ i acc σ H, i ≤ xs.length → Pv i acc σ H → SqL K H a xs)
    (hs : ∀ i x acc σ H, acc.length ≤ i → xs[i]? = some x → Pv i acc σ H → g x σ H fun σ2 H2 => tt σ2 H2 fun b H3 => if b = true then te σ2 H3 fun y H4 => (acc ++ [y]).length ≤ i + 1 ∧ Pv (i + 1) (acc ++ [y]) σ2 H4 else acc.length ≤ i + 1 ∧ Pv (i + 1) acc σ2 H3)
    (hd : ∀ acc σ H, acc.length ≤ xs.length → Pv xs.length acc σ H → endC Q acc H) :
    ∃ W : Nat → Nat → List V → St → Hp → Prop, (∃ m, W 0 m [] σ0 H) ∧ ∀ i m acc σ1 H, W i m acc σ1 H →
      ((Itl K a).stop i H ∧ endC Q acc H) ∨
      ((Itl K a).go i H ∧ acc.length < sizeLine ∧ ∃ N : List V → St → Hp → Prop, (∀ acc' σ' H', N acc' σ' H' → ∃ m', m' < m ∧ W (i + 1) m' acc' σ' H') ∧ ∀ x H', (Itl K a).yld i H x H' → g x σ1 H' fun σ2 H2 => tt σ2 H2 fun b H3 => if b = true then te σ2 H3 fun y H4 => N (acc ++ [y]) σ2 H4 else N acc σ2 H3) := by
  refine ⟨fun i m acc σ H => m = xs.length - i ∧ i ≤ xs.length ∧ acc.length ≤ i ∧ Pv i acc σ H, ⟨xs.length, by simp, Nat.zero_le _, Nat.zero_le _, h0⟩, ?_⟩
  rintro i m acc σ1 H ⟨rfl, hi, ha, p⟩
  have q := hl i acc σ1 H hi p
  by_cases hlt : i < xs.length
  · refine .inr ⟨⟨xs, xs[i], q, by simp [hlt]⟩, by omega, fun acc' σ' H' => acc'.length ≤ i + 1 ∧ Pv (i + 1) acc' σ' H', fun acc' σ' H' z => ⟨xs.length - (i + 1), by omega, rfl, hlt, z.1, z.2⟩, fun x H' y => ?_⟩
    obtain ⟨e, y⟩ := y
    subst e
    exact hs i x acc σ1 _ ha (y xs q) p
  · have e : i = xs.length := by omega
    subst e
    exact .inl ⟨⟨xs, q, Nat.le_refl _⟩, hd acc σ1 H ha p⟩
/- over a tuple that the block leaves as it is -/
/- over lo, lo + 1, .. (n of them) -/
theorem comp_range {lo : Int} {n : Nat} {g : TG} {tt : TT} {te : TE} {σ0 : St} {H : Hp} {Q : VK} (Pv : Nat → List V → St → Hp → Prop) (h0 : Pv 0 [] σ0 H) (hz : n ≤ sizeLine)
    (hs : ∀ i acc σ H, i < n → acc.length ≤ i → Pv i acc σ H → g (.int (lo + i)) σ H fun σ2 H2 => tt σ2 H2 fun b H3 => if b = true then te σ2 H3 fun y H4 => (acc ++ [y]).length ≤ i + 1 ∧ Pv (i + 1) (acc ++ [y]) σ2 H4 else acc.length ≤ i + 1 ∧ Pv (i + 1) acc σ2 H3)
    (hd : ∀ acc σ H, acc.length ≤ n → Pv n acc σ H → endC Q acc H) :
    ∃ W : Nat → Nat → List V → St → Hp → Prop, (∃ m, W 0 m [] σ0 H) ∧ ∀ i m acc σ1 H, W i m acc σ1 H →
      ((Itr lo n).stop i H ∧ endC Q acc H) ∨
      ((Itr lo n).go i H ∧ acc.length < sizeLine ∧ ∃ N : List V → St → Hp → Prop, (∀ acc' σ' H', N acc' σ' H' → ∃ m', m' < m ∧ W (i + 1) m' acc' σ' H') ∧ ∀ x H', (Itr lo n).yld i H x H' → g x σ1 H' fun σ2 H2 => tt σ2 H2 fun b H3 => if b = true then te σ2 H3 fun y H4 => N (acc ++ [y]) σ2 H4 else N acc σ2 H3) := by
  refine ⟨fun i m acc σ H => m = n - i ∧ i ≤ n ∧ acc.length ≤ i ∧ Pv i acc σ H, ⟨n, by simp, Nat.zero_le _, Nat.zero_le _, h0⟩, ?_⟩
  rintro i m acc σ1 H ⟨rfl, hi, ha, p⟩
  by_cases hlt : i < n
  · refine .inr ⟨hlt, by omega, fun acc' σ' H' => acc'.length ≤ i + 1 ∧ Pv (i + 1) acc' σ' H', fun acc' σ' H' z => ⟨n - (i + 1), by omega, rfl, hlt, z.1, z.2⟩, fun x H' y => ?_⟩
    obtain ⟨e, y⟩ := y
    subst e y
    exact hs i acc σ1 _ hlt ha p
  · have e : i = n := by omega
    subst e
    exact .inl ⟨Nat.le_refl _, hd acc σ1 H ha p⟩
end L2

set_option Elab.async false
set_option linter.all false
set_option maxRecDepth 100000
set_option maxHeartbeats 4000000
namespace L2
open PySem PySem.Spec PyProof.Rows

/-! == and != over data: a value that shows a tree -/
mutual
inductive DV (K : PySem.W.Frag) (H : Hp) : V → PyData → Prop
  | non : DV K H .non .none
  | bl (b : Bool) : DV K H (.bl b) (.bool b)
  | int (i : Int) : DV K H (.int i) (.int i)
  | str (x : Str) (h : (PyData.str x).canLay0 = true) : DV K H (.str x) (.str x)
  | lst {a : Addr} {xs : List V} {ds : List PyData} (h : SqL K H a xs) (r : DVs K H xs ds) : DV K H (.ref a) (.list ds)
  | tup {a : Addr} {xs : List V} {ds : List PyData} (h : SqT K H a xs) (r : DVs K H xs ds) : DV K H (.ref a) (.tuple ds)
inductive DVs (K : PySem.W.Frag) (H : Hp) : List V → List PyData → Prop
  | nil : DVs K H [] []
  | cons {x : V} {xs : List V} {d : PyData} {ds : List PyData} (h : DV K H x d) (r : DVs K H xs ds) : DVs K H (x :: xs) (d :: ds)
end
mutual
theorem DV.can {K : PySem.W.Frag} {H : Hp} : ∀ {x : V} {d : PyData}, DV K H x d → d.canLay0 = true
  | _, _, .non => by simp only [PyData.canLay0]
  | _, _, .bl _ => by simp only [PyData.canLay0]
  | _, _, .int _ => by simp only [PyData.canLay0]
  | _, _, .str _ h => h
  | _, _, .lst _ r => by simp only [PyData.canLay0]; exact DVs.can r
  | _, _, .tup _ r => by simp only [PyData.canLay0]; exact DVs.can r
theorem DVs.can {K : PySem.W.Frag} {H : Hp} : ∀ {xs : List V} {ds : List PyData}, DVs K H xs ds → PyData.canLayAll0 ds = true
  | _, _, .nil => by simp only [PyData.canLayAll0]
  | _, _, .cons h r => by simp only [PyData.canLayAll0, Bool.and_eq_true]; exact ⟨DV.can h, DVs.can r⟩
end
theorem SqT.sameT {K : PySem.W.Frag} {H H' : Hp} {a : Addr} {xs : List V} (e : Same H H') (h : SqT K H a xs) : SqT K H' a xs := by
  rcases h with (h | ⟨o, h⟩) | h
  · exact .inl (.inl (e _ _ h))
  · exact .inl (.inr ⟨o, e _ _ h⟩)
  · exact .inr h
mutual
theorem DV.same {K : PySem.W.Frag} {H H' : Hp} (s : Same H H') : ∀ {x : V} {d : PyData}, DV K H x d → DV K H' x d
  | _, _, .non => .non
  | _, _, .bl b => .bl b
  | _, _, .int i => .int i
  | _, _, .str x h => .str x h
  | _, _, .lst h r => .lst (s.seq h) (DVs.same s r)
  | _, _, .tup h r => .tup (SqT.sameT s h) (DVs.same s r)
theorem DVs.same {K : PySem.W.Frag} {H H' : Hp} (s : Same H H') : ∀ {xs : List V} {ds : List PyData}, DVs K H xs ds → DVs K H' xs ds
  | _, _, .nil => .nil
  | _, _, .cons h r => .cons (DV.same s h) (DVs.same s r)
end
section
variable {X : Cx} {pins : List (Addr × Obj)} {σ : St} {H : Hp} {s : Shared}
mutual
theorem DV.reads (I : Inv X pins σ H s) : ∀ {x : V} {d : PyData} {u : Value}, DV X.K H x d → RelV x u → ∃ as, Reads s.heap u d as
  | _, _, _, .non, r => by cases r; exact ⟨_, .none⟩
  | _, _, _, .bl b, r => by cases r; exact ⟨_, .bool b⟩
  | _, _, _, .int i, r => by obtain ⟨t, rfl⟩ := r; exact ⟨_, .int i t⟩
  | _, _, _, .str x _, r => by obtain ⟨t, rfl⟩ := r; exact ⟨_, .str x t⟩
  | _, _, _, .lst h rs, r => by
    cases r
    obtain ⟨its, v, pl, _⟩ := I.list h
    obtain ⟨o, n, ho, hc, _, hd⟩ := pl
    obtain ⟨as, q⟩ := DVs.reads I rs v
    exact ⟨_, .list ho hc hd (by simpa using q)⟩
  | _, _, _, .tup h rs, r => by
    cases r
    obtain ⟨its, v, pl, _⟩ := I.tuple h
    obtain ⟨o, ho, hc, n, hd⟩ := pl
    obtain ⟨as, q⟩ := DVs.reads I rs v
    exact ⟨_, .tuple ho hc hd (by simpa using q)⟩
theorem DVs.reads (I : Inv X pins σ H s) : ∀ {xs : List V} {ds : List PyData} {us : List Value}, DVs X.K H xs ds → Vals xs us → ∃ as, ReadsAll s.heap us ds as
  | _, _, _, .nil, .nil => ⟨_, .nil⟩
  | _, _, _, .cons h r, .cons v vs => by
    obtain ⟨as, q1⟩ := DV.reads I h v
    obtain ⟨bs, q2⟩ := DVs.reads I r vs
    exact ⟨_, .cons q1 q2⟩
end
end
def rEqD (K : PySem.W.Frag) (neg : Bool) : R2 := fun x y H Q => ∃ dx dy, DV K H x dx ∧ DV K H y dy ∧ dx.depth ≤ 60 ∧ Q (.bl (if neg then !PyData.eqv dx dy else PyData.eqv dx dy)) H
end L2

set_option Elab.async false
set_option linter.all false
set_option maxRecDepth 100000
set_option maxHeartbeats 4000000
namespace L2
open PySem PySem.Spec PyProof.Rows

/-! TEXTS: split by one sign, join, find -/
/- the parts between the signs c -/
def spl (c : Nat) : List Nat → List (List Nat)
  | [] => [[]]
  | x :: r => if x = c then [] :: spl c r else match spl c r with
    | [] => [[x]]
    | w :: ws => (x :: w) :: ws
def joinL (c : Nat) : List (List Nat) → List Nat
  | [] => []
  | [p] => p
  | p :: q :: r => p ++ c :: joinL c (q :: r)
/- str.split by one sign -/
def rSplit : V → List V → Hp → VK → Prop := fun x xs H Q => ∃ z c, x = .str z ∧ xs = [.str ⟨#[c]⟩] ∧ z.length + 2 ≤ sizeLine ∧ ∀ p, H p = none → Q (.ref p) (upd H p (.lst ((spl c z.cps.toList).map fun l => V.str ⟨l.toArray⟩)))
/- the first place of a sign -/
def pos? (c : Nat) : List Nat → Option Nat
  | [] => none
  | x :: r => if x = c then some 0 else (pos? c r).map (· + 1)
section
variable {X : Cx}
def tAddRepl (i : Nat) (c1 c2 c3 : Str) (t : TA) : TA := fun σ H Q => ∃ z : Str, σ[i]? = some (some (.str z)) ∧ z.length ≤ 1000 ∧ c1.length ≤ 10 ∧ c3.length ≤ 10 ∧ t σ H fun vs H1 => Q (.str (z ++ c1) :: .str (Txt.replace z c2 c3) :: vs) H1
end
end L2

set_option Elab.async false
set_option linter.all false
set_option maxRecDepth 100000
set_option maxHeartbeats 4000000
namespace L2
open PySem PySem.Spec PyProof.Rows
section
variable {X : Cx} {x : Str} {pos : Pos}
theorem pe_gintE {k : Int} (hg : Gl X x) (hm : ∃ t, X.mg x = some (.int k t)) (hd : (x == ("__debug__" : Str)) = false := by decide) : PE X (.Name x pos) (tC (.int k)) := by
  obtain ⟨t, hm⟩ := hm
  exact pe_glob hg hm ⟨t, rfl⟩ hd
/- an empty dict -/
def tDNew : TE := fun _ H Q => ∀ p, H p = none → Q (.ref p) (upd H p (.dK []))
theorem pe_dnew {X : Cx} {pos : Pos} : PE X (.Dict [] [] pos) tDNew := by
  intro pins s σ H Q I h
  have lt : sysModules < s.heap.objs.size := Nat.lt_trans (show sysModules < mainGlobals by decide) (I.mod.glob.keeps I.bk).lt
  have new : ObjOk X.prog X.w (upd H s.heap.objs.size (.dK [])) (s.heap.push { cls := .type "dict", data := .dict #[] }) s.heap.objs.size (.dK []) :=
    ⟨Nat.zero_le _, beq_eq_false_iff_ne.mpr (Ne.symm (Nat.ne_of_lt lt)), [], .nil, Heap.DictOf.new s.heap⟩
  exact wpAny_Dict_empty ⟨.ref s.heap.objs.size, _, I.laid (t' := s.toks) (fun _ _ q => Heap.get?_push_of_some _ q) (Nat.le_refl _) new, rfl, h _ (I.hok.fresh (Nat.le_refl _))⟩
theorem nd1 (x : Str) : [x].Nodup := by simp
def notStar : Expr → Bool
  | .Starred _ _ => false
  | _ => true
theorem star_cons {e : Expr} {es : List Expr} {env : Env} (h : notStar e = true) : starEach (e :: es) env = (false, eval e env) :: starEach es env := by
  cases e <;> first | rfl | cases h
theorem pac {e : Expr} {es : List Expr} {te : TE} {t : TA} (ha : PE X e te) (hr : PA X es t) (h : notStar e = true := by rfl) : PA X (e :: es) (tCons te t) := pa_cons ha hr (star_cons h)
end
end L2
namespace K1
open PySem L2
def figs : Str := ⟨#[48, 49, 50, 51, 52, 53, 54, 55, 56, 57]⟩
def two (n : Nat) : Str := ⟨#[48 + n / 10, 48 + n % 10]⟩
theorem sl2 (a b c d e : Nat) : Txt.slice ⟨#[a, b, c, d, e]⟩ none (some 2) = ⟨#[a, b]⟩ := by rfl
/- the kinds of things that are no text and no list of ours: what isinstance tells of them -/
def numV : V → Int → Int → Bool
  | .int i, lo, hi => decide (lo ≤ i ∧ i ≤ hi)
  | _, _, _ => false
/- a thing whose kind is known -/
inductive Kd (H : Hp) : V → String → Prop where
  | non : Kd H .non "NoneType"
  | bl (b : Bool) : Kd H (.bl b) "bool"
  | int (i : Int) : Kd H (.int i) "int"
  | str (x : Str) : Kd H (.str x) "str"
  | lst {a : Addr} {xs : List V} (e : H a = some (.lst xs)) : Kd H (.ref a) "list"
  | tup {a : Addr} {xs : List V} (e : H a = some (.tup xs)) : Kd H (.ref a) "tuple"
  | dK {a : Addr} {kvs : List (Key × V)} (e : H a = some (.dK kvs)) : Kd H (.ref a) "dict"
theorem Kd.ty {K : PySem.W.Frag} {H : Hp} {v : V} {T : String} (k : Kd H v T) : TyOf K H v (.type T) := by
  cases k with
  | non => exact .non
  | bl b => exact .bl b
  | int i => exact .int i
  | str x => exact .str x
  | lst e => exact .lst e
  | tup e => exact .tup e
  | dK e => exact .dK e
theorem Kd.same {H H' : Hp} {v : V} {T : String} (s : Same H H') (k : Kd H v T) : Kd H' v T := by
  cases k with
  | non => exact .non
  | bl b => exact .bl b
  | int i => exact .int i
  | str x => exact .str x
  | lst e => exact .lst (s _ _ e)
  | tup e => exact .tup (s _ _ e)
  | dK e => exact .dK (s _ _ e)
theorem kit_int {K : PySem.W.Frag} {H : Hp} {v : V} {T : String} (k : Kd H v T) : PySem.W.kitOne K (.type T) (.type "int") = some (decide (T = "int" ∨ T = "bool")) := by
  cases k <;> rfl
theorem kit_bool {K : PySem.W.Frag} {H : Hp} {v : V} {T : String} (k : Kd H v T) : PySem.W.kitOne K (.type T) (.type "bool") = some (decide (T = "bool")) := by
  cases k <;> rfl
theorem itT {c A B : Prop} [Decidable c] (h : c) (a : A) : if c then A else B := by rw [if_pos h]; exact a
theorem itF {c A B : Prop} [Decidable c] (h : ¬ c) (b : B) : if c then A else B := by rw [if_neg h]; exact b


def dg (c : Nat) : Bool := decide (48 ≤ c ∧ c ≤ 57)

def figB (z : Str) : Bool := !decide (V.str z = V.str (Str.ofString "")) && (z.cps.toList.map fun c => inS figs c).all id

theorem same_new {H : Hp} {p : Addr} (h : H p = none) (o : HO) : Same H (upd H p o) := fun b u q => by rw [upd_ne (ne_of_none q h)]; exact q

/- HH:MM -/
def wr (m : Nat) : Str := two (m / 60) ++ Str.ofString ":" ++ two (m % 60)

def formL : List Nat → Bool
  | [a, b, c, d, e] => decide (c = 58) && (dg a && dg b && dg d && dg e)
  | _ => false

def formV : V → Bool
  | .str z => formL z.cps.toList
  | _ => false

def dueL : List Nat → Option Nat
  | [a, b, c, d, e] => if formL [a, b, c, d, e] = true ∧ 10 * (a - 48) + (b - 48) ≤ 47 ∧ 10 * (d - 48) + (e - 48) ≤ 59 then some (60 * (10 * (a - 48) + (b - 48)) + (10 * (d - 48) + (e - 48))) else none
  | _ => none

def dueV : V → Option Nat
  | .str z => dueL z.cps.toList
  | _ => none

def wholeV : V → Bool
  | .int _ => true
  | _ => false

theorem flat_ints (ns : List Int) : (ns.map V.int).all flatV = true := by
  rw [List.all_map]; exact List.all_eq_true.mpr fun _ _ => rfl

/- the tape at tp stands at k, all else of H is kept -/
structure Bump (tp : Addr) (k : Int) (H H' : Hp) : Prop where
  keep : ∀ b o, b ≠ tp → H b = some o → H' b = some o
  tape : H' tp = some (.lst [.int k])

theorem Bump.trans {tp : Addr} {k k' : Int} {H H1 H2 : Hp} (a : Bump tp k H H1) (b : Bump tp k' H1 H2) : Bump tp k' H H2 := ⟨fun c o n h => b.keep c o n (a.keep c o n h), b.tape⟩

theorem Bump.same {tp : Addr} {k : Int} {H H1 H2 : Hp} (a : Bump tp k H H1) (s : Same H1 H2) : Bump tp k H H2 := ⟨fun c o n h => s _ _ (a.keep c o n h), s _ _ a.tape⟩

/- a list of the module's own -/
def Own (K : PySem.W.Frag) (a : Addr) (xs : List V) : Prop := ∃ (o : Obj) (its : Array Value) (n : Nat), K.lookup a = some o ∧ o.cls = .type "list" ∧ o.dict = none ∧ o.data = .seq its n ∧ its.size ≤ sizeLine ∧ Vals xs its.toList
/- the script at a, apart from the tape at tp -/
def Scr (K : PySem.W.Frag) (H : Hp) (a tp : Addr) (ns : List Int) : Prop := (a ≠ tp ∧ Rd H a (.lst (ns.map V.int))) ∨ Own K a (ns.map V.int)
theorem Scr.sq {K : PySem.W.Frag} {H : Hp} {a tp : Addr} {ns : List Int} (h : Scr K H a tp ns) : SqL K H a (ns.map V.int) := h.imp (·.2) id
theorem Scr.same {K : PySem.W.Frag} {H H' : Hp} {a tp : Addr} {ns : List Int} (h : Scr K H a tp ns) (s : Same H H') : Scr K H' a tp ns :=
  h.imp (fun ⟨n, r⟩ => ⟨n, r.imp (s _ _) fun ⟨o, q⟩ => ⟨o, s _ _ q⟩⟩) id
theorem Bump.scr {K : PySem.W.Frag} {tp a : Addr} {k : Int} {H H' : Hp} {ns : List Int} (b : Bump tp k H H') (h : Scr K H a tp ns) : Scr K H' a tp ns :=
  h.imp (fun ⟨n, r⟩ => ⟨n, r.imp (b.keep _ _ n) fun ⟨o, q⟩ => ⟨o, b.keep _ _ n q⟩⟩) id
theorem Scr.new {K : PySem.W.Frag} {H : Hp} {a tp : Addr} {ns : List Int} (h : SqL K H a (ns.map V.int)) (n : H tp = none) (o : HO) : Scr K (upd H tp o) a tp ns := by
  rcases h with (h | ⟨u, h⟩) | h
  · exact .inl ⟨ne_of_none h n, .inl (by rw [upd_ne (ne_of_none h n)]; exact h)⟩
  · exact .inl ⟨ne_of_none h n, .inr ⟨u, by rw [upd_ne (ne_of_none h n)]; exact h⟩⟩
  · exact .inr h
theorem mulM {x y : Int} (h0 : 0 ≤ y) (h1 : y < 18446744073709551616) : CMul x y := .inr ⟨by omega, by omega⟩

def optV : Option Nat → V
  | none => .non
  | some m => .int (m : Nat)

def toldV (wh : Int) (v : V) : Option V :=
  if wh = 0 then (if numV v 0 2879 = true then (match v with | .int i => some (.str (wr i.toNat)) | _ => none) else none) else (dueV v).map fun m => .int (m : Nat)

/- texts, none longer than 100 signs -/
def Short (xs : List V) : Prop := ∀ v ∈ xs, ∃ z : Str, v = .str z ∧ z.length ≤ 100

theorem at2 {x y : V} {d : Int} (h0 : 0 ≤ d) (h1 : d < 2) : atI [x, y] d = some x ∨ atI [x, y] d = some y := by
  rcases (show d = 0 ∨ d = 1 by omega) with rfl | rfl
  · exact .inl rfl
  · exact .inr rfl
theorem at_all {p : V → Prop} {xs : List V} {d : Int} (h : ∀ v ∈ xs, p v) (h0 : 0 ≤ d) (h1 : d < xs.length) : ∃ v, atI xs d = some v ∧ p v := by
  have hl : d.toNat < xs.length := by omega
  refine ⟨xs[d.toNat], ?_, h _ (List.getElem_mem hl)⟩
  have q : atI xs ((d.toNat : Nat) : Int) = some xs[d.toNat] := atI_nat (List.getElem?_eq_getElem hl)
  rw [show ((d.toNat : Nat) : Int) = d by omega] at q
  exact q
end K1

set_option Elab.async false
set_option linter.all false
set_option maxRecDepth 100000
set_option maxHeartbeats 4000000
namespace L2
open PySem PySem.Spec PyProof.Rows

/-! OBJECTS of one of several classes; objects without an __init__; sums -/
section
variable {X : Cx} {m : Str} {o e : Expr} {es : List Expr} {ta : TE} {t : TA} {pos apos : Pos}
/- o.m(..): the reading tells the class, the def and its promise -/
def tMethD (X : Cx) (m : Str) (ta : TE) (t : TA) : TE := fun σ H Q => ta σ H fun x H1 => ∃ (a C dx : Addr) (fs : List (Str × V)) (f : Addr) (fd : FuncData) (k : Nat) (ps : List Str) (sp : Sp) (CX : CXT) (E : XK),
  x = .ref a ∧ H1 a = some (.ins C dx fs) ∧ fs.lookup m = none ∧ Cls X.K C ∧ Meth X.K C m f ∧ FnOk X.prog X.w X.K X.mg X.base CX k f fd ps sp ∧ Room k X.A ∧ Binds X.K fd ps [] ∧ Passes CX X E ∧ t σ H1 fun vs H2 => sp (.ref a :: vs) H2 Q E
theorem pe_methD {pl : Sem Bool} (he : PE X o ta) (ha : PA X (e :: es) t)
    (hst : starEach (e :: es) X.env = (false, eval e X.env) :: starEach es X.env := by rfl) (hpl : (backTo pos (starEach es X.env)).any (·.1) = false := by rfl)
    (ht : eval (.Call (.Attribute o m apos) (e :: es) [] pos) X.env = (do
      let ov ← eval o X.env
      standAt apos.atName
      let (f, first) ← holding [ov] (getMethod ov m pl)
      callWith pos f first (backTo pos (starEach (e :: es) X.env)) (backToKw pos (keywordEach [] X.env))) := by rfl) :
    PE X (.Call (.Attribute o m apos) (e :: es) [] pos) (tMethD X m ta t) := by
  intro pins s σ H Q I h
  refine PySem.W.methodCall_KW (pl := pl) (thn (he pins s σ H _ I h) fun u s1 ⟨x, H1, I1, rx, a, C, dx, fs, f, fd, k, ps, sp, CX, E, ex, ea, l, c, hm, F, hr, hb, hx, q⟩ => ?_) ht
  subst ex
  obtain rfl : u = Value.ref a := rx
  refine getmeth_ok I1 ea c hm l ?_
  refine PySem.W.callWith_K (first := [.ref a]) (h₀ := X.base) I.ok.mod.kin hm.kp (thn (ha pos pins s1 σ H1 _ I1 q) fun us s2 ⟨vs, H2, I2, r, q2⟩ => ⟨I2.kIn, ?_⟩) hst hpl
  exact run_fn (us := .ref a :: us) (vs := .ref a :: vs) (dvs := []) F hr hb .nil hx I2 (.cons rfl r) (by rw [List.append_nil]; exact q2)
theorem pe_meth0D {pl : Sem Bool} (he : PE X o ta)
    (ht : eval (.Call (.Attribute o m apos) [] [] pos) X.env = (do
      let ov ← eval o X.env
      standAt apos.atName
      let (f, first) ← holding [ov] (getMethod ov m pl)
      callWith pos f first (backTo pos (starEach [] X.env)) (backToKw pos (keywordEach [] X.env))) := by rfl) :
    PE X (.Call (.Attribute o m apos) [] [] pos) (tMethD X m ta tNil) := by
  intro pins s σ H Q I h
  refine PySem.W.methodCall_KW (pl := pl) (thn (he pins s σ H _ I h) fun u s1 ⟨x, H1, I1, rx, a, C, dx, fs, f, fd, k, ps, sp, CX, E, ex, ea, l, c, hm, F, hr, hb, hx, q⟩ => ?_) ht
  subst ex
  obtain rfl : u = Value.ref a := rx
  refine getmeth_ok I1 ea c hm l ?_
  exact PySem.W.callWith_K0 (first := [.ref a]) I1.kIn hm.kp (run_fn (us := [.ref a]) (vs := [.ref a]) (dvs := []) F hr hb .nil hx I1 (.cons rfl .nil) q)

/- a class that is made with object's __init__ -/
structure MkN (K : PySem.W.Frag) (C : Addr) : Prop where
  makes : PySem.W.makesIn K C = true
  init : PySem.W.findIn K (.ref C) "__init__" = some (some (.builtin "object.__init__"))
  kp : PySem.W.keepIn K (.ref C) = true
def tMakeN (C : Addr) : TE := fun _ H Q => ∀ x dx, H x = none → H dx = none → dx ≠ x → Q (.ref x) (upd (upd H dx (.own x)) x (.ins C dx []))
theorem pe_makeN {C : Addr} {x : Str} {p : Pos} (M : MkN X.K C) (hg : Gl X x) (hm : X.mg x = some (.ref C)) (hdb : (x == ("__debug__" : Str)) = false := by decide) : PE X (.Call (.Name x p) [] [] pos) (tMakeN C) := by
  intro pins s σ H Q I h
  refine wpAny_Call_Name_kw (ld_glob I hg hm ?_ hdb)
  refine PySem.W.callWith_K0 I.kIn M.kp ?_
  have q := h (s.heap.objs.size + 1) s.heap.objs.size (I.hok.fresh (Nat.le_succ _)) (I.hok.fresh (Nat.le_refl _)) (Nat.ne_of_lt (Nat.lt_succ_self _))
  have I2 := Inv.made (C := C) I
  have Y := PySem.W.makes_of (M := model X.prog X.w) I.kIn M.makes
  refine wpAny_call (make_map0 (C := C) I.kIn M.makes M.init (fun self => PySem.W.Looks.of_pure (PySem.W.oi_bind self)) ?_)
  have g1 : ((s.heap.push PySem.W.emptyDict).push (PySem.W.instObj C s.heap.objs.size)).get? (s.heap.objs.size + 1) = some (PySem.W.instObj C s.heap.objs.size) := by
    have := Heap.get?_push_size (s.heap.push PySem.W.emptyDict) (o := PySem.W.instObj C s.heap.objs.size) rfl
    rw [Heap.size_push] at this
    exact this
  have t1 : PySem.W.Looks (model X.prog X.w) ((s.heap.push PySem.W.emptyDict).push (PySem.W.instObj C s.heap.objs.size)) (typeOf (.ref (s.heap.objs.size + 1))) (.ref C) := (PySem.W.Looks.ld g1).andThen .now
  have t2 : PySem.W.Looks (model X.prog X.w) ((s.heap.push PySem.W.emptyDict).push (PySem.W.instObj C s.heap.objs.size)) (isInstance (.ref (s.heap.objs.size + 1)) (.type "object")) true :=
    t1.andThen (Y.top.keeps fun b o e => Heap.get?_push_of_some _ (Heap.get?_push_of_some _ e))
  refine codeAny_call_builtin PySem.W.oi_plain PySem.W.entry_oi ?_
  refine @PySem.W.check_slot (model X.prog X.w) _ _ _ "object.__init__" "object" "__init__" (.ref (s.heap.objs.size + 1)) [] [] _ PySem.W.oi_kind PySem.W.oi_split t2 (PySem.W.oi_args _) ?_
  rw [PySem.W.oi_run]
  exact wpAny_pure (And.intro rfl ⟨.ref _, _, I2, rfl, q⟩)
end

/-! ### sum of a list of ints -/
theorem preSum_take (ns : List Int) : ∀ k, k ≤ ns.length → preSum (fun i => ns.getD i 0) k = (ns.take k).sum
  | 0, _ => by simp [preSum]
  | k + 1, h => by
    have ih := preSum_take ns k (by omega)
    show preSum (fun i => ns.getD i 0) k + ns.getD k 0 = _
    rw [ih, List.take_add_one, List.sum_append]
    have hk : k < ns.length := by omega
    rw [List.getD_eq_getElem?_getD, List.getElem?_eq_getElem hk]
    simp
theorem call_sum_list {X : Cx} (hc : X.calm = true) : CallR X (.builtin "sum") (fun xs H Q => ∃ (p : Addr) (ns : List Int), xs = [.ref p] ∧ SqL X.K H p (ns.map V.int) ∧ (∀ n ∈ ns, 0 ≤ n ∧ n ≤ 1000000) ∧ ns.length ≤ 1000 ∧ Q (.int ns.sum) H) := by
  intro pins s σ H xs us Q I r h
  obtain ⟨p, ns, rfl, hq, hb, hl, q⟩ := h
  obtain ⟨u, rfl, rx⟩ := vals1 r
  cases rx
  obtain ⟨its, r', pl, hz⟩ := I.list hq
  have hlen := r'.length
  obtain ⟨o, n, ho, _⟩ := id pl
  have hne : p ≠ s.heap.objs.size := Nat.ne_of_lt (Heap.lt_size ho)
  have bound : ∀ k, k ≤ ns.length → 0 ≤ (ns.take k).sum ∧ (ns.take k).sum ≤ 1000000 * k := by
    intro k
    induction k with
    | zero => intro _; simp
    | succ k ih =>
      intro hk
      have hk' : k < ns.length := by omega
      have := ih (by omega)
      have b := hb ns[k] (List.getElem_mem hk')
      rw [List.take_add_one, List.sum_append, List.getElem?_eq_getElem hk']
      simp only [Option.toList_some, List.sum_cons, List.sum_nil]
      omega
  refine call_sum_walk (wpAny_pyIter_list pl.isList ?_)
  refine ⟨s.heap.objs.size, [s.heap.objs.size, p], [s.heap.objs.size], its.toArray.size, _, _, fun i => ns.getD i 0, rfl, Walks.list (A := X.A.in1) (I.ok.hd hc) _ _ hne its.toArray, ⟨⟨_, Heap.get?_push_size _ rfl, rfl, rfl⟩, ?_⟩, ?_, ?_, ?_, fun h' tk t' hk => ?_⟩
  · obtain ⟨o2, e2, r2⟩ := pl.isList
    exact ⟨o2, Heap.get?_push_of_some _ e2, r2⟩
  · intro b hb'
    show b < (s.heap.push _).objs.size
    rw [Heap.size_push]
    rcases List.mem_cons.mp hb' with rfl | hb'
    · exact Nat.lt_succ_self _
    · rw [List.mem_singleton.mp hb']
      exact Nat.lt_succ_of_lt (Heap.lt_size ho)
  · intro i v hv
    have hv' : its[i]? = some v := by simpa using hv
    have hi : i < ns.length := by
      have := (List.getElem?_eq_some_iff.mp hv').1
      rw [← hlen, List.length_map] at this; exact this
    obtain ⟨w, e1, e2⟩ := r'.get (i := i) (x := .int ns[i]) (by rw [List.getElem?_map, List.getElem?_eq_getElem hi]; rfl)
    rw [hv'] at e1
    cases e1
    obtain ⟨t, rfl⟩ := e2
    exact ⟨t, by dsimp only; rw [List.getD_eq_getElem?_getD, List.getElem?_eq_getElem hi]; rfl⟩
  · intro j hj
    have hj' : j < ns.length := by
      rw [List.size_toArray, ← hlen, List.length_map] at hj; exact hj
    have b1 := hb ns[j] (List.getElem_mem hj')
    have b2 := bound (j + 1) (by omega)
    have e1 : ns.getD j 0 = ns[j] := by rw [List.getD_eq_getElem?_getD, List.getElem?_eq_getElem hj']; rfl
    rw [preSum_take ns (j + 1) (by omega)]
    dsimp only
    rw [e1]
    have b3 : (1000000 : Int) * ((j + 1 : Nat) : Int) ≤ 1000000000 := by omega
    unfold InLong
    omega
  · have hk2 : ∀ b o, s.heap.get? b = some o → h'.get? b = some o := fun b o e => hk b o (fun z => by
      have e1 := Heap.lt_size e
      rw [List.mem_singleton.mp z] at e1
      exact absurd e1 (Nat.lt_irrefl _)) (Heap.get?_push_of_some _ e)
    have e : preSum (fun i => ns.getD i 0) its.toArray.size = ns.sum := by
      rw [List.size_toArray, ← hlen, List.length_map, preSum_take ns _ (Nat.le_refl _), List.take_length]
    rw [e]
    exact ⟨.int _, H, I.kept (t' := tk) hk2, ⟨_, rfl⟩, q⟩

/-! ### a def with defaults -/
structure FunD (K : PySem.W.Frag) (x qual : Str) (st : Stmt) (f : Addr) (fd : FuncData) (D : Addr) (ds : List Value) : Prop where
  ex : ∃ (oc : Value) (od : Option Addr) (kV doc pm : Value) (an : Option Addr) (cdv ct : Value) (osl : Array (Option Value)),
    fd = PySem.W.fnOf x qual (defArgs st) (defBody st) (defScope st) (.ref D) kV doc pm an cdv ct ∧ K.lookup f = some ⟨oc, od, .func fd, osl⟩ ∧ PySem.W.codeIn K cdv qual = true
  dt : ∃ (o : Obj) (n : Nat), K.lookup D = some o ∧ o.data = .seq ds.toArray n
  kp : PySem.W.keepIn K (.ref f) = true
section
variable {P : Program} {w : World} {K : PySem.W.Frag} {mg : Str → Option Value} {base : Heap} {x qual : Str} {st : Stmt} {f D : Addr} {fd : FuncData} {ds : List Value}
theorem FunD.ok {N ps : List Str} {k : Nat} {sp : Sp} (F : FunD K x qual st f fd D ds) (S : FnScope N ps (defScope st)) (len : ∀ vs H Q E, sp vs H Q E → vs.length = ps.length)
    (hbody : ∀ (cdv : Value) (A : Around) (outer : List Env) (s : Shared) (H : Hp) (vs : List V) (Q : VK) (E : XK), Room k (A.deeper (envOfC qual (defScope st) s.heap.objs.size f cdv)) → sp vs H Q E →
      ∃ t, PSs (cxOf CX0 P w K mg base N qual (defScope st) f cdv A outer s H E).nox (defBody st) t ∧ t { nx := fun _ H' => Q .non H', rt := Q } (start N vs) H) : FnOk P w K mg base CX0 (k + 1) f fd ps sp := by
  obtain ⟨oc, od, kV, doc, pm, an, cdv, ct, osl, rfl, lk, hcd⟩ := F.ex
  refine fn_of lk hcd S len fun A outer s H vs Q E hr hsp => ?_
  obtain ⟨t, h, q⟩ := hbody cdv A outer s H vs Q E hr hsp
  exact ⟨t, h.nox, q⟩
theorem FunD.okX {N ps : List Str} {k : Nat} {sp : Sp} (F : FunD K x qual st f fd D ds) (S : FnScope N ps (defScope st)) (len : ∀ vs H Q E, sp vs H Q E → vs.length = ps.length)
    (hbody : ∀ (cdv : Value) (A : Around) (outer : List Env) (s : Shared) (H : Hp) (vs : List V) (Q : VK) (E : XK), Room k (A.deeper (envOfC qual (defScope st) s.heap.objs.size f cdv)) → sp vs H Q E →
      ∃ t, PSs (cxOf (CXO P w) P w K mg base N qual (defScope st) f cdv A outer s H E) (defBody st) t ∧ t { nx := fun _ H' => Q .non H', rt := Q } (start N vs) H) : FnOk P w K mg base (CXO P w) (k + 1) f fd ps sp := by
  obtain ⟨oc, od, kV, doc, pm, an, cdv, ct, osl, rfl, lk, hcd⟩ := F.ex
  exact fn_of lk hcd S len fun A outer s H vs Q E hr hsp => hbody cdv A outer s H vs Q E hr hsp
end
end L2

set_option Elab.async false
set_option linter.all false
set_option maxRecDepth 100000
set_option maxHeartbeats 4000000
namespace K1
open PySem L2
/-! RULES OF DAYS: the mirror, and an object that shows a rule -/
inductive RT where
  | always
  | week (b : Nat)
  | span (a b : Nat) (r : RT)
  | each (n : Nat) (ss : List Nat)
  | either (r s : RT)
  | both (r s : RT)
  | but (ds : List Nat) (r : RT)
def RT.weight : RT → Nat
  | .always | .week _ | .each _ _ => 1
  | .span _ _ r | .but _ r => 1 + r.weight
  | .either r s | .both r s => 1 + (r.weight + s.weight)
def RT.depth : RT → Nat
  | .always | .week _ | .each _ _ => 1
  | .span _ _ r | .but _ r => 1 + r.depth
  | .either r s | .both r s => 1 + max r.depth s.depth
def RT.runs : RT → Nat → Bool
  | .always, _ => true
  | .week b, d => b / 2 ^ (d % 7) % 2 == 1
  | .span a b r, d => decide (a ≤ d) && decide (d ≤ b) && r.runs d
  | .each n ss, d => ss.contains (d % n)
  | .either r s, d => r.runs d || s.runs d
  | .both r s, d => r.runs d && s.runs d
  | .but ds r, d => r.runs d != ds.contains d
theorem RT.depth_pos : ∀ r : RT, 1 ≤ r.depth
  | .always | .week _ | .each _ _ => Nat.le_refl 1
  | .span _ _ r | .but _ r => Nat.le_add_right 1 _
  | .either r s | .both r s => Nat.le_add_right 1 _
/- the seven classes -/
structure RC where
  rule : Addr
  week : Addr
  span : Addr
  each : Addr
  either : Addr
  both : Addr
  but : Addr
abbrev natV (l : List Nat) : List V := l.map fun n => V.int (n : Nat)
/- the object at a shows the rule r -/
inductive RAt (c : RC) (K : PySem.W.Frag) (H : Hp) : Addr → RT → Prop
  | always {a dx : Addr} (h : H a = some (.ins c.rule dx [])) : RAt c K H a .always
  | week {a dx : Addr} {b : Nat} (h : H a = some (.ins c.week dx [("bits", .int (b : Nat))])) (hb : b ≤ 127) : RAt c K H a (.week b)
  | span {a dx i : Addr} {x y : Nat} {r : RT} (h : H a = some (.ins c.span dx [("first", .int (x : Nat)), ("last", .int (y : Nat)), ("inner", .ref i)])) (hx : x ≤ y) (hy : y ≤ 9999) (hi : RAt c K H i r) : RAt c K H a (.span x y r)
  | each {a dx p : Addr} {n : Nat} {ss : List Nat} (h : H a = some (.ins c.each dx [("length", .int (n : Nat)), ("starts", .ref p)])) (hn : 1 ≤ n) (hn2 : n ≤ 28) (hp : SqT K H p (natV ss)) : RAt c K H a (.each n ss)
  | either {a dx i j : Addr} {r s : RT} (h : H a = some (.ins c.either dx [("one", .ref i), ("other", .ref j)])) (hi : RAt c K H i r) (hj : RAt c K H j s) : RAt c K H a (.either r s)
  | both {a dx i j : Addr} {r s : RT} (h : H a = some (.ins c.both dx [("one", .ref i), ("other", .ref j)])) (hi : RAt c K H i r) (hj : RAt c K H j s) : RAt c K H a (.both r s)
  | but {a dx p i : Addr} {ds : List Nat} {r : RT} (h : H a = some (.ins c.but dx [("days", .ref p), ("inner", .ref i)])) (hp : SqT K H p (natV ds)) (hi : RAt c K H i r) : RAt c K H a (.but ds r)
theorem RAt.same {c : RC} {K : PySem.W.Frag} {H H' : Hp} (s : Same H H') {a : Addr} {r : RT} (h : RAt c K H a r) : RAt c K H' a r := by
  induction h with
  | always h => exact .always (s _ _ h)
  | week h hb => exact .week (s _ _ h) hb
  | span h hx hy _ ih => exact .span (s _ _ h) hx hy ih
  | each h hn hn2 hp => exact .each (s _ _ h) hn hn2 (SqT.sameT s hp)
  | either h _ _ i1 i2 => exact .either (s _ _ h) i1 i2
  | both h _ _ i1 i2 => exact .both (s _ _ h) i1 i2
  | but h hp _ ih => exact .but (s _ _ h) (SqT.sameT s hp) ih
theorem inV_nats (d : Nat) : ∀ l : List Nat, inV (.int (d : Nat)) (natV l) = l.contains d
  | [] => rfl
  | x :: r => by
    have ih := inV_nats d r
    show (eqV (.int ((x : Nat) : Int)) (.int ((d : Nat) : Int)) || inV (.int ((d : Nat) : Int)) (natV r)) = _
    rw [ih, List.contains_cons]
    congr 1
    show (((x : Nat) : Int) == ((d : Nat) : Int)) = (d == x)
    rw [Bool.eq_iff_iff, beq_iff_eq, beq_iff_eq]
    omega
theorem flat_nats (l : List Nat) : (natV l).all flatV = true := by
  rw [List.all_map]; exact List.all_eq_true.mpr fun _ _ => rfl
theorem bit_of (b k : Nat) : (Builtin.bitAnd (((b : Nat) : Int) / 2 ^ k) 1 == 1) = (b / 2 ^ k % 2 == 1) := by
  have e : ((b : Nat) : Int) / 2 ^ k = ((b / 2 ^ k : Nat) : Int) := by
    rw [Int.natCast_ediv, Int.natCast_pow]
    rfl
  rw [e, PyProof.Rows.bitAnd_pp (Int.natCast_nonneg _) (by decide)]
  have e2 : (((b / 2 ^ k : Nat) : Int).toNat &&& (1 : Int).toNat : Nat) = b / 2 ^ k % 2 := by
    rw [Int.toNat_natCast]
    exact Nat.and_one_is_mod _
  rw [e2, Bool.eq_iff_iff, beq_iff_eq, beq_iff_eq]
  omega
end K1

set_option Elab.async false
set_option linter.all false
set_option maxRecDepth 100000
set_option maxHeartbeats 600000
namespace L2
open PySem PySem.Spec PyProof.Rows
/-! max of a list of numbers, with a default -/
def mxB : Option Int → Int → Int
  | none, y => y
  | some x, y => if y > x then y else x
def mxL : Option Int → List Int → Option Int
  | b, [] => b
  | b, y :: r => mxL (some (mxB b y)) r
def MxAt (S : Addr) (h : Heap) (b : Option Int) : Prop := ∃ (vs : Array Value) (c : Nat), h.get? S = some { cls := .type "list", dict := none, data := .seq vs c, slots := #[] } ∧ match b with
  | none => vs = #[]
  | some x => ∃ t, vs = #[.int x t, .int x t]
def MxRes (d : Value) (b : Option Int) (v : Value) : Prop := match b with
  | none => v = d
  | some x => ∃ t, v = .int x t
theorem MxAt.keep {S : Addr} {h h' : Heap} {b : Option Int} (m : MxAt S h b) (k : ∀ o, h.get? S = some o → h'.get? S = some o) : MxAt S h' b :=
  let ⟨vs, c, e, z⟩ := m
  ⟨vs, c, k _ e, z⟩
theorem maxd_loop {prog : Program} {w : World} {A : Around} {R : Result → Shared → Prop} {I : Addr} {fp wr : List Addr} {n : Nat} {P : Nat → Value → Prop} {St : Nat → Heap → Prop} {nm : Str} {d : Value} {g : Nat → Int}
    (W : Walks prog w A.in1 I fp wr n P St) (hg : ∀ i v, P i v → ∃ t, v = .int (g i) t) {S : Addr} (out : S ∉ fp) :
    ∀ (l : List Int) (j : Nat) (s : Shared) (b : Option Int), j + l.length = n → (∀ i y, l[i]? = some y → y = g (j + i)) → St j s.heap → MxAt S s.heap b →
    (∀ v h' tk, MxRes d (mxL b l) v → (∀ a o, a ∉ wr → a ≠ S → s.heap.get? a = some o → h'.get? a = some o) → R (.ok (.ret v)) { s with heap := h', toks := tk }) →
    codeAny (model prog w) A (.builtin "max.loop" ⟨[.ref I, .none, .ref S], [(nm, d)]⟩) R s := by
  have out2 : S ∉ wr := fun z => out (W.sub _ z)
  have nme : (toString "max" ++ toString ".loop" : String) = "max.loop" := by decide
  intro l
  induction l with
  | nil =>
    intro j s b hj hl st m q
    obtain rfl : j = n := hj
    obtain ⟨vs, c, e, z⟩ := id m
    apply codeAny_builtin PySem.F.entry_max_loop
    rw [Around.under_plainId PySem.F.plain_max_loop]
    apply wpAny_bind
    apply wpAny_seqItems e rfl
    apply wpAny_bind
    apply wpAny_tryCatch
    apply W.done s _ _ st
    intro h' tk k
    cases b with
    | none =>
      subst z
      apply wpAny_bind
      apply wpAny_rule
      apply wpAny_pure
      exact q d h' tk rfl fun a o h1 _ h3 => k a o h1 h3
    | some x =>
      obtain ⟨t, rfl⟩ := z
      apply wpAny_bind
      refine wpAny_updateSeq (k S _ out2 e) rfl ?_
      apply wpAny_bind
      apply wpAny_letGo
      apply wpAny_pure
      exact q _ _ tk ⟨t, rfl⟩ fun a o h1 h2 h3 => (Heap.get?_update_other _ _ (Ne.symm h2)).trans (k a o h1 h3)
  | cons y l ih =>
    intro j s b hj hl st m q
    obtain ⟨vs, c, e, z⟩ := id m
    have hj2 : j < n := by rw [← hj, List.length_cons]; omega
    have ey : y = g j := hl 0 y rfl
    apply codeAny_builtin PySem.F.entry_max_loop
    rw [Around.under_plainId PySem.F.plain_max_loop]
    apply wpAny_bind
    apply wpAny_seqItems e rfl
    apply wpAny_bind
    apply wpAny_tryCatch
    apply W.item j s _ _ hj2 st
    intro v h' tk pv st' k
    obtain ⟨tv, rfl⟩ := hg j v pv
    have e' := k S _ out2 e
    have next : ∀ (h2 : Heap), MxAt S h2 (some (mxB b y)) → (∀ a o, a ≠ S → h'.get? a = some o → h2.get? a = some o) → codeAny (model prog w) A (.builtin "max.loop" ⟨[.ref I, .none, .ref S], [(nm, d)]⟩) R { s with heap := h2, toks := tk } := fun h2 m2 k2 =>
      ih (j + 1) { s with heap := h2, toks := tk } _ (by rw [← hj, List.length_cons]; omega) (fun i y' hy => (hl (i + 1) y' hy).trans (by congr 1; omega))
        (W.frame _ _ _ st' fun a ha o ho => k2 a o (fun z => out (z ▸ ha)) ho) m2 fun v2 h3 tk2 r k3 => q v2 h3 tk2 r fun a o h1 h2' h3' => k3 a o h1 h2' (k2 a o h2' (k a o h1 h3'))
    cases b with
    | none =>
      subst z
      show wpAny _ _ (updateSeq S (fun _ => #[.int (g j) tv, .int (g j) tv]) >>= _) _ _ _
      apply wpAny_bind
      refine wpAny_updateSeq e' rfl ?_
      rw [nme]
      apply wpAny_pure
      refine ⟨plainId_quiet PySem.F.plain_max_loop _, next _ ⟨_, _, Heap.get?_update_self _ e' rfl, tv, ?_⟩ fun a o h1 h2 => (Heap.get?_update_other _ _ (Ne.symm h1)).trans h2⟩
      rw [ey]; rfl
    | some x =>
      obtain ⟨t, rfl⟩ := z
      show wpAny _ _ (tryCatch (holding [.int (g j) tv, .int (g j) tv] (richCompare .Gt (.int (g j) tv) (.int x t) >>= _)) _ >>= _) _ _ _
      apply wpAny_bind
      apply wpAny_tryCatch
      apply wpAny_holding
      apply wpAny_bind
      refine CmpOf.ints_gt (P := fun i v => ∃ t, v = .int (if i = 0 then g j else x) t) (fun i => if i = 0 then g j else x) (fun _ _ z => z) 0 1 _ _ _ _ _ ⟨_, rfl⟩ ⟨_, rfl⟩ ?_
      apply wpAny_bind
      apply wpAny_holding
      apply wpAny_truthy_bool
      apply wpAny_bind
      apply wpAny_letGo
      apply wpAny_pure
      by_cases gt : g j > x
      · rw [if_pos (show (fun i j_1 : Nat => decide ((if i = 0 then g j else x) > if j_1 = 0 then g j else x)) 0 1 = true from decide_eq_true gt)]
        apply wpAny_bind
        refine wpAny_updateSeq e' rfl ?_
        apply wpAny_bind
        apply wpAny_letGo
        rw [nme]
        apply wpAny_pure
        refine ⟨plainId_quiet PySem.F.plain_max_loop _, next _ ⟨_, _, Heap.get?_update_self _ e' rfl, tv, ?_⟩ fun a o h1 h2 => (Heap.get?_update_other _ _ (Ne.symm h1)).trans h2⟩
        rw [show mxB (some x) y = g j by rw [ey]; exact if_pos gt]
      · rw [if_neg (show ¬(fun i j_1 : Nat => decide ((if i = 0 then g j else x) > if j_1 = 0 then g j else x)) 0 1 = true from fun z => gt (of_decide_eq_true z))]
        apply wpAny_bind
        apply wpAny_letGo
        rw [nme]
        apply wpAny_pure
        refine ⟨plainId_quiet PySem.F.plain_max_loop _, next _ ⟨_, _, e', t, ?_⟩ fun a o _ h2 => h2⟩
        rw [show mxB (some x) y = x by rw [ey]; exact if_neg gt]
theorem args_maxd (a v : Value) : argsOk "max" ⟨[a], [(Str.ofString "default", v)]⟩ := by unfold argsOk; kernel_rfl
theorem call_maxd {X : Cx} {pins : List (Addr × Obj)} {s : Shared} {σ : St} {H : Hp} {Q : VK} {p : Addr} {ns : List Int} {d : Int} {td : Tok} (hc : X.calm = true) (I : Inv X pins σ H s) (hq : SqL X.K H p (ns.map V.int)) (q : Q (.int ((mxL none ns).getD d)) H) :
    wpAny (model X.prog X.w) X.A (call (.builtin "max") [.ref p] [(Str.ofString "default", .int d td)]) (EP X pins σ Q) X.xe s := by
  obtain ⟨its, r', pl, hz⟩ := I.list hq
  have hlen := r'.length
  obtain ⟨o, n, ho, _⟩ := id pl
  have hne : p ≠ s.heap.objs.size := Nat.ne_of_lt (Heap.lt_size ho)
  have nme : (toString "max" ++ toString ".loop" : String) = "max.loop" := by decide
  refine kmb_tree PySem.F.kind_max PySem.F.plain_max PySem.F.entry_max (args_maxd _ _) ?_
  show wpAny _ _ (Builtin.Builtins.bindParams "max" ["key", "default"] 0 ⟨[], [(Str.ofString "default", .int d td)]⟩ >>= _) _ _ s
  apply wpAny_bind
  refine wpAny_of_eq (show Builtin.Builtins.bindParams "max" ["key", "default"] 0 ⟨[], [(Str.ofString "default", .int d td)]⟩ = pure [none, some (.int d td)] from rfl) ?_
  apply wpAny_bind
  apply wpAny_pure
  apply wpAny_bind
  refine wpAny_pyIter_list pl.isList ?_
  apply wpAny_bind
  refine wpAny_newObj_type ?_
  rw [nme]
  refine wpAny_pure ⟨plainId_quiet PySem.F.plain_max_loop _, ?_⟩
  refine maxd_loop (fp := [s.heap.objs.size, p]) (wr := [s.heap.objs.size]) (g := fun i => ns.getD i 0) (Walks.list (A := X.A.in1) (I.ok.hd hc) _ _ hne its.toArray) ?_ ?_ ns 0 _ none ?_ ?_ ?_ ?_ ?_
  · intro i v hv
    have hv' : its[i]? = some v := by simpa using hv
    have hi : i < ns.length := by
      have := (List.getElem?_eq_some_iff.mp hv').1
      rw [← hlen, List.length_map] at this; exact this
    obtain ⟨w, e1, e2⟩ := r'.get (i := i) (x := .int ns[i]) (by rw [List.getElem?_map, List.getElem?_eq_getElem hi]; rfl)
    rw [hv'] at e1
    cases e1
    obtain ⟨t, rfl⟩ := e2
    exact ⟨t, by rw [List.getD_eq_getElem?_getD, List.getElem?_eq_getElem hi]; rfl⟩
  · intro hm
    have e1 : (s.heap.push { cls := .type "list_iterator", data := .fields #[.ref p, .int 0 0] }).objs.size = s.heap.objs.size + 1 := Heap.size_push ..
    have lt := Heap.lt_size ho
    rcases List.mem_cons.mp hm with z | z
    · have : s.heap.objs.size + 1 = s.heap.objs.size := e1.symm.trans z
      omega
    · have : s.heap.objs.size + 1 = p := e1.symm.trans (List.mem_singleton.mp z)
      rw [← this] at lt
      exact absurd lt (Nat.not_lt.mpr (Nat.le_succ _))
  · rw [List.size_toArray, ← hlen, List.length_map, Nat.zero_add]
  · intro i y hy
    rw [Nat.zero_add, List.getD_eq_getElem?_getD, hy]
    rfl
  · refine ⟨⟨_, Heap.get?_push_of_some _ (Heap.get?_push_size _ rfl), rfl, rfl⟩, ?_⟩
    obtain ⟨o2, e2, r2⟩ := pl.isList
    exact ⟨o2, Heap.get?_push_of_some _ (Heap.get?_push_of_some _ e2), r2⟩
  · exact ⟨_, _, Heap.get?_push_size _ rfl, rfl⟩
  · intro v h' tk r k
    have k2 : ∀ b o, s.heap.get? b = some o → h'.get? b = some o := fun b o e => k b o (fun z => by
        have e1 := Heap.lt_size e
        rw [List.mem_singleton.mp z] at e1
        exact absurd e1 (Nat.lt_irrefl _)) (fun z => by
        have e1 := Heap.lt_size (Heap.get?_push_of_some { cls := .type "list_iterator", data := .fields #[.ref p, .int 0 0] } e)
        rw [z] at e1
        exact absurd e1 (Nat.lt_irrefl _)) (Heap.get?_push_of_some _ (Heap.get?_push_of_some _ e))
    have hv : ∃ tv, v = .int ((mxL none ns).getD d) tv := by
      cases e : mxL none ns with
      | none => rw [e] at r; exact ⟨td, r⟩
      | some x => rw [e] at r; exact r
    obtain ⟨tv, rfl⟩ := hv
    exact ⟨.int _, H, I.kept (t' := tk) k2, ⟨_, rfl⟩, q⟩
/- max(e, default = c) -/
def tMaxd (K : PySem.W.Frag) (t tk : TA) : TE := fun σ H Q => t σ H fun vs H1 => tk σ H1 fun zs H2 => ∃ (p : Addr) (ns : List Int) (d : Int), vs = [.ref p] ∧ zs = [.int d] ∧ SqL K H2 p (ns.map V.int) ∧ Q (.int ((mxL none ns).getD d)) H2
theorem pe_maxd {X : Cx} {e : Expr} {es : List Expr} {kws : List Keyword} {t tk : TA} {p pos : Pos} (hc : X.calm = true) (hg : Gl X "max") (hm : X.mg "max" = none) (hv : bootBuiltins "max" = some (.builtin "max"))
    (ha : PA X (e :: es) t) (hkw : PK X kws tk) (hall : (backToKw pos (keywordEach kws X.env)).all (·.1.isSome) = true := by rfl) (hks : (backToKw pos (keywordEach kws X.env)).filterMap (·.1) = [Str.ofString "default"] := by rfl)
    (he : starEach (e :: es) X.env = (false, eval e X.env) :: starEach es X.env := by rfl)
    (hpl : (backTo pos (starEach (e :: es) X.env)).any (·.1) = false := by rfl) (hpk : (backToKw pos (keywordEach kws X.env)).any (·.1.isNone) = false := by rfl) :
    PE X (.Call (.Name "max" p) (e :: es) kws pos) (tMaxd X.K t tk) := by
  intro pins s σ H Q I h
  refine wpAny_Call_Name_kw (ld_blt I hg hm hv ?_ (by decide) (by decide))
  refine callWith_builtin_kwB hpl hpk (evalArgs_kw2 hall (thn (ha pos pins s σ H _ I h) fun us s1 ⟨vs, H1, I1, r, q⟩ => ?_) he)
  refine thn (hkw pos pins s1 σ H1 _ I1 q) fun ws s2 ⟨zs, H2, I2, rz, q2⟩ => ?_
  rw [hks]
  obtain ⟨l, ns, d, rfl, rfl, hq, q3⟩ := q2
  obtain ⟨u, rfl, rx⟩ := vals1 r
  cases rx
  obtain ⟨u, rfl, td, rfl⟩ := vals1 rz
  exact call_maxd hc I2 hq q3
end L2

set_option Elab.async false
set_option linter.all false
namespace L2
open PySem
/-! SETS OF INTS: the table stays in order -/
abbrev Ris (xs : Array Nat) : Prop := xs.toList.Pairwise (· < ·)
theorem ris_lt {xs : Array Nat} (h : Ris xs) {i k d : Nat} (hik : i < k) (hk : k < xs.size) : xs.getD i d < xs.getD k d := by
  have q := List.pairwise_iff_getElem.mp h i k (by simpa using Nat.lt_trans hik hk) (by simpa using hk) hik
  simpa [Array.getD, Nat.lt_trans hik hk, hk] using q
theorem below_go {xs : Array Nat} {j : Nat} (h : Ris xs) : ∀ (n lo hi : Nat), hi - lo ≤ n → lo ≤ hi → hi ≤ xs.size → (∀ i, i < lo → xs.getD i j < j) → (∀ i, hi ≤ i → i < xs.size → j ≤ xs.getD i j) →
    SetTable.below.go xs j n lo hi ≤ xs.size ∧ (∀ i, i < SetTable.below.go xs j n lo hi → xs.getD i j < j) ∧ ∀ i, SetTable.below.go xs j n lo hi ≤ i → i < xs.size → j ≤ xs.getD i j
  | 0, lo, hi, hn, hl, hs, h1, h2 => by
    have e : lo = hi := by omega
    subst e
    exact ⟨hs, h1, h2⟩
  | n + 1, lo, hi, hn, hl, hs, h1, h2 => by
    unfold SetTable.below.go
    by_cases c : lo < hi
    · rw [if_pos c]
      dsimp only
      by_cases d : xs.getD ((lo + hi) / 2) j < j
      · rw [if_pos d]
        refine below_go h n _ hi (by omega) (by omega) hs (fun i hi' => ?_) h2
        by_cases e : i = (lo + hi) / 2
        · rw [e]; exact d
        · exact Nat.lt_trans (ris_lt h (show i < (lo + hi) / 2 by omega) (by omega)) d
      · rw [if_neg d]
        refine below_go h n lo _ (by omega) (by omega) (by omega) h1 (fun i hi' hz => ?_)
        by_cases e : i = (lo + hi) / 2
        · rw [e]; omega
        · have := ris_lt (d := j) h (show (lo + hi) / 2 < i by omega) hz
          omega
    · rw [if_neg c]
      have e : lo = hi := by omega
      subst e
      exact ⟨hs, h1, h2⟩
theorem below_is {xs : Array Nat} {j : Nat} (h : Ris xs) : SetTable.below xs j ≤ xs.size ∧ (∀ i, i < SetTable.below xs j → xs.getD i j < j) ∧ ∀ i, SetTable.below xs j ≤ i → i < xs.size → j ≤ xs.getD i j :=
  below_go h _ 0 _ (by omega) (Nat.zero_le _) (Nat.le_refl _) (fun i z => absurd z (Nat.not_lt_zero _)) (fun i a b => by omega)
theorem ris_insert {xs : Array Nat} {j : Nat} (h : Ris xs) (hn : xs[SetTable.below xs j]? ≠ some j) : Ris (SetTable.insertAt xs (SetTable.below xs j) j) := by
  obtain ⟨hb, h1, h2⟩ := below_is (j := j) h
  show List.Pairwise _ _
  rw [SetTable.toList_insertAt]
  have get : ∀ i (hi : i < xs.size), xs.getD i j = xs.toList[i]'(by simpa using hi) := fun i hi => by simp [Array.getD, hi]
  have far : ∀ b ∈ xs.toList.drop (SetTable.below xs j), j < b := fun b hb' => by
    obtain ⟨i, hi, rfl⟩ := List.getElem_of_mem hb'
    rw [List.length_drop] at hi
    have hz : SetTable.below xs j + i < xs.size := by simpa using (show SetTable.below xs j + i < xs.toList.length by omega)
    rw [List.getElem_drop, ← get _ hz]
    have g := h2 _ (Nat.le_add_right (SetTable.below xs j) i) hz
    refine Nat.lt_of_le_of_ne g fun e => ?_
    by_cases i0 : i = 0
    · subst i0
      refine hn ?_
      rw [Nat.add_zero] at e hz
      rw [Array.getElem?_eq_getElem hz]
      have := get _ hz
      rw [← e] at this
      simpa using this.symm
    · have l := ris_lt (d := j) h (show SetTable.below xs j < SetTable.below xs j + i by omega) hz
      have g0 := h2 _ (Nat.le_refl _) (show SetTable.below xs j < xs.size by omega)
      omega
  refine List.pairwise_append.mpr ⟨h.sublist (List.take_sublist _ _), List.pairwise_cons.mpr ⟨far, h.sublist (List.drop_sublist _ _)⟩, fun a ha b hb' => ?_⟩
  have ha' : a < j := by
    obtain ⟨i, hi, rfl⟩ := List.getElem_of_mem ha
    rw [List.length_take] at hi
    have hz : i < xs.size := by have : xs.toList.length = xs.size := by simp
                                omega
    rw [List.getElem_take, ← get _ hz]
    exact h1 i (by omega)
  rcases List.mem_cons.mp hb' with rfl | hb'
  · exact ha'
  · exact Nat.lt_trans ha' (far b hb')
/- no dummies, and in order where it is plain -/
structure TabOk (t : SetTable) : Prop where
  du : t.dummies = #[]
  ri : t.plain = true → Ris t.place
theorem has_none (j : Nat) : SetTable.has #[] j = false := rfl
theorem slot_empty {t : SetTable} {j : Nat} (h : t.slot j = .empty) : t.place[SetTable.below t.place j]? ≠ some j := by
  intro e
  unfold SetTable.slot at h
  dsimp only at h
  rw [e] at h
  simp at h
theorem slot_dummy {t : SetTable} (ht : TabOk t) {j : Nat} : t.slot j ≠ .dummy := by
  unfold SetTable.slot
  rw [ht.du]
  dsimp only
  split
  · intro z; cases z
  · rw [has_none]
    intro z; cases z
theorem probe_go {t : SetTable} (ht : TabOk t) {g : Nat → Int} {h : Int} : ∀ (n : Nat) (p : SetTable.Probe) (j : Nat) (d : Option Nat), p.dummy = none → SetTable.probe.go t g h n p = some (.empty j d) → t.slot j = .empty ∧ d = none
  | 0, p, j, d, _, e => by cases e
  | n + 1, p, j, d, hp, e => by
    unfold SetTable.probe.go at e
    cases c : t.slot p.j with
    | empty =>
      rw [c] at e
      injection e with e
      injection e with e1 e2
      subst e1
      exact ⟨c, e2.symm.trans hp⟩
    | dummy => exact absurd c (slot_dummy ht)
    | live i =>
      rw [c] at e
      dsimp only at e
      split at e
      · injection e with e; cases e
      · refine probe_go ht n _ j d ?_ e
        unfold SetTable.advance
        split
        · exact hp
        · exact hp
theorem lay_ok {t : SetTable} (ht : TabOk t) (es : Array (Int × Value)) (h : Int) (x : Value) : TabOk (layNew t es h x).2.1 ∧ (layNew t es h x).2.1.led = t.led := by
  unfold layNew
  cases c : t.freeSlot h with
  | none => exact ⟨⟨rfl, fun z => by cases z⟩, rfl⟩
  | some q =>
    obtain ⟨j, wd⟩ := q
    have hj : t.slot j = .empty := by
      unfold SetTable.freeSlot at c
      split at c
      · rename_i j' d' e'
        obtain ⟨e1, rfl⟩ := probe_go ht _ _ _ _ rfl e'
        injection c with c
        injection c with c1 c2
        rw [← c1]
        exact e1
      · cases c
    dsimp only
    unfold SetTable.orStandIn
    split
    · refine ⟨⟨?_, fun z => ?_⟩, rfl⟩
      · show (if SetTable.has t.dummies j = true then _ else t.dummies) = #[]
        rw [ht.du, has_none]
        rfl
      · exact ris_insert (ht.ri z) (slot_empty hj)
    · exact ⟨⟨rfl, fun z => by cases z⟩, rfl⟩
theorem relay_ok {t : SetTable} (ht : TabOk t) (es : Array (Int × Value)) (n : Nat) : TabOk (relayAll t es n).2.1 ∧ (relayAll t es n).2.1.led = t.led := by
  unfold relayAll
  cases c : t.relaid (es.map (·.1)) n with
  | none => exact ⟨⟨rfl, fun z => by cases z⟩, rfl⟩
  | some q =>
    obtain ⟨t', ord⟩ := q
    dsimp only
    split
    · unfold SetTable.relaid SetTable.laid at c
      cases c2 : SetTable.layClean (SetTable.sizeAbove n - 1) (es.map (·.1)) with
      | none => rw [c2] at c; cases c
      | some ow =>
        rw [c2] at c
        injection c with c
        injection c with c1 c3
        subst c1
        refine ⟨⟨rfl, fun _ => ?_⟩, rfl⟩
        show List.Pairwise _ _
        rw [List.toList_toArray]
        rw [List.map_filterMap]
        refine List.Pairwise.sublist (l₂ := List.range (SetTable.sizeAbove n - 1 + 1)) ?_ List.pairwise_lt_range
        have key : ∀ l : List Nat, List.Sublist (l.filterMap fun j => Option.map (fun p : Nat × Nat => p.1) ((ow.getD j none).map fun y => (j, y))) l := by
          intro l
          induction l with
          | nil => exact .slnil
          | cons a r ih =>
            rw [List.filterMap_cons]
            cases ow.getD a none with
            | none => exact ih.cons _
            | some y => exact ih.cons_cons _
        exact key _
    · exact ⟨⟨rfl, fun z => by cases z⟩, rfl⟩
end L2

set_option Elab.async false
set_option linter.all false
set_option maxRecDepth 100000
set_option maxHeartbeats 4000000
namespace L2
open PySem
def keyOf (e : Int × Value) : Int := match e.2 with
  | .int k _ => k
  | _ => 0
section
variable {prog : Program} {w : World}
theorem elem_int {l : List (Int × Value)} (h : ElemsOf (intKind prog w) l) {e : Int × Value} (he : e ∈ l) : ∃ t, e.2 = .int (keyOf e) t := by
  obtain ⟨⟨k, hk, _⟩, _⟩ := h e he
  obtain ⟨t, q⟩ := Value.isInt_shape (k := k) (v := e.2) hk
  refine ⟨t, ?_⟩
  unfold keyOf
  rw [q]
theorem elem_is {l : List (Int × Value)} (h : ElemsOf (intKind prog w) l) {e : Int × Value} (he : e ∈ l) {k : Int} (q : (intKind prog w).is k e.2 = true) : keyOf e = k := by
  obtain ⟨t, q⟩ := Value.isInt_shape (k := k) (v := e.2) q
  unfold keyOf
  rw [q]
/- the set at a has just the ints ks -/
def ISet (prog : Program) (w : World) (h : Heap) (a : Addr) (ks : List Int) : Prop := ∃ (o : Obj) (es : Array (Int × Value)) (ep : Nat) (t : SetTable),
  h.get? a = some o ∧ o.ExactSet ∧ o.data = .set es ep t ∧ ElemsOf (intKind prog w) es.toList ∧ t.fits es.size = true ∧ TabOk t ∧ (w.params.followText "set-order" = false → t.led = true) ∧
  (es.toList.map keyOf).Nodup ∧ (∀ k, k ∈ es.toList.map keyOf ↔ k ∈ ks) ∧ es.size ≤ ks.length
theorem ISet.keep {h h' : Heap} {a : Addr} {ks : List Int} (x : ISet prog w h a ks) (k : ∀ o, h.get? a = some o → h'.get? a = some o) : ISet prog w h' a ks :=
  let ⟨o, es, ep, t, ho, r⟩ := x
  ⟨o, es, ep, t, k _ ho, r⟩
theorem iset_store {h : Heap} {a : Addr} {o : Obj} {es es' : Array (Int × Value)} {ep : Nat} {t t' : SetTable} {ks : List Int} (ho : h.get? a = some o) (hex : o.ExactSet) (hd : o.data = .set es ep t)
    (hel : ElemsOf (intKind prog w) es'.toList) (hf : t'.fits es'.size = true) (ht : TabOk t') (hl : w.params.followText "set-order" = false → t'.led = true) (nd : (es'.toList.map keyOf).Nodup)
    (mem : ∀ k, k ∈ es'.toList.map keyOf ↔ k ∈ ks) (sz : es'.size ≤ ks.length) :
    (h.update a (Obj.putSet es' t')).get? a = some { o with data := .set es' (ep + 1) t' } ∧ ISet prog w (h.update a (Obj.putSet es' t')) a ks := by
  have g : (h.update a (Obj.putSet es' t')).get? a = some { o with data := .set es' (ep + 1) t' } := by
    have q := Heap.get?_update_self (Obj.putSet es' t') ho (by rw [putSet_of es' t' hd]; rfl)
    rw [putSet_of es' t' hd] at q; exact q
  exact ⟨g, _, es', ep + 1, t', g, hex, rfl, hel, hf, ht, hl, nd, mem, sz⟩
theorem perm_size {es es' : Array (Int × Value)} (p : List.Perm es'.toList es.toList) : es'.size = es.size := by
  have := p.length_eq
  simpa using this
theorem iset_add {A : Around} {E : Value → Shared → Prop} {s : Shared} {a : Addr} {ks : List Int} {k : Int} {tk : Tok} {Q : Bool → Shared → Prop} (hS : ISet prog w s.heap a ks) (hr : ks.length + 1 < scanBound)
    (h : ∀ b h', Heap.SameBut a s.heap h' → ISet prog w h' a (ks ++ [k]) → Q b { s with heap := h' }) : wpAny (model prog w) A (setAddHashed a (.int k tk) ((intKind prog w).hash k)) Q E s := by
  obtain ⟨o, es, ep, t, ho, hex, hd, hel, hf, ht, hl, nd, mem, sz⟩ := hS
  have hz : es.size < scanBound := by omega
  have hkey : (intKind prog w).is k (.int k tk) = true := intKind_is _ _ _ _
  unfold setAddHashed setAddHashedIn
  refine wpAny_holding (wpAny_bind (wpAny_setState_of ho hd hf ?_))
  dsimp only; rw [byScan_of (knd := intKind prog w) (x := .int k tk) rfl hz hel]
  simp only [↓reduceIte]; unfold setAddByScan
  refine wpAny_bind (wpAny_bind (wpAny_rule (wpAny_bind (wpAny_setScan_of hkey ho hd hf hel ?_))))
  cases hc : List.findIdx? (fun e => (intKind prog w).is k e.2) es.toList with
  | some j =>
    dsimp only
    obtain ⟨hj, hp, _⟩ := List.findIdx?_eq_some_iff_getElem.mp hc
    have hk : k ∈ es.toList.map keyOf := List.mem_map.mpr ⟨es.toList[j], List.getElem_mem hj, elem_is hel (List.getElem_mem hj) hp⟩
    have q := h false s.heap (Heap.SameBut.refl a s.heap) ⟨o, es, ep, t, ho, hex, hd, hel, hf, ht, hl, nd, fun k' => by
      rw [List.mem_append, List.mem_singleton, mem k']
      exact ⟨.inl, fun z => z.elim id fun e => by rw [e]; exact (mem k).mp hk⟩, by rw [List.length_append]; omega⟩
    exact wpAny_pure (wpAny_pure q)
  | none =>
    dsimp only
    have hk : k ∉ es.toList.map keyOf := fun z => by
      obtain ⟨e, he, ek⟩ := List.mem_map.mp z
      have q := List.findIdx?_eq_none_iff.mp hc e he
      obtain ⟨te, ee⟩ := elem_int hel he
      rw [ee, ek, intKind_is] at q
      cases q
    have gw : ∀ (b : Bool) {s1 : Shared} {Q' : Unit → Shared → Prop}, Q' () s1 → wpAny (model prog w) A (match b with | true => rule "set.scan.the-table-gave-way" | false => pure ()) Q' E s1 :=
      fun b s1 Q' q => by
        cases b
        · exact wpAny_pure q
        · exact wpAny_rule q
    have pm := layNew_perm t es ((intKind prog w).hash k) (.int k tk); have fm := layNew_fits t es ((intKind prog w).hash k) (.int k tk)
    obtain ⟨tm, lm⟩ := lay_ok ht es ((intKind prog w).hash k) (.int k tk)
    generalize layNew t es ((intKind prog w).hash k) (.int k tk) = L at pm fm tm lm ⊢
    obtain ⟨es1, t1, wd, gv⟩ := L
    dsimp only at pm fm tm lm ⊢; rw [Array.toList_push] at pm
    have hel1 : ElemsOf (intKind prog w) es1.toList := (hel.push hkey rfl).perm pm
    have km : List.Perm (es1.toList.map keyOf) (es.toList.map keyOf ++ [k]) := by
      have := pm.map keyOf
      rw [List.map_append] at this
      exact this
    have nd1 : (es1.toList.map keyOf).Nodup := km.nodup_iff.mpr (List.nodup_append.mpr ⟨nd, by simp, fun a ha b hb => by
      rw [List.mem_singleton] at hb
      subst hb
      intro e
      subst e
      exact hk ha⟩)
    have mem1 : ∀ k', k' ∈ es1.toList.map keyOf ↔ k' ∈ ks ++ [k] := fun k' => by
      rw [km.mem_iff, List.mem_append, List.mem_append, mem k']
    have sz1 : es1.size = es.size + 1 := by
      have := pm.length_eq
      simpa using this
    have z1 : es1.size ≤ (ks ++ [k]).length := by rw [List.length_append, List.length_singleton]; omega
    have l1 : w.params.followText "set-order" = false → t1.led = true := fun z => lm.trans (hl z)
    refine wpAny_bind (gw _ ?_)
    have tail : ∀ {R : Option Bool → Shared → Prop}, (∀ h', Heap.SameBut a s.heap h' → ISet prog w h' a (ks ++ [k]) → R (some true) { s with heap := h' }) →
        wpAny (model prog w) A (do
          storeSet a es1 t1
          if (!wd && t1.tooFull) = true then do
            (match (relayAll t1 es1 (SetTable.grown es1.size)).2.2 with | true => rule "set.scan.the-table-gave-way" | false => pure ())
            storeSet a (relayAll t1 es1 (SetTable.grown es1.size)).1 (relayAll t1 es1 (SetTable.grown es1.size)).2.1
            pure (some true)
          else pure (some true)) R E s := by
      intro R hR
      refine wpAny_bind (wpAny_storeSet_of ho hd ?_ (fits_of_scanBound (by omega)))
      obtain ⟨g1, i1⟩ := iset_store (prog := prog) (w := w) ho hex hd hel1 fm tm l1 nd1 mem1 z1
      have b1 := Heap.SameBut.update s.heap a (Obj.putSet es1 t1)
      split
      · have p2 := relayAll_perm t1 es1 (SetTable.grown es1.size); have f2 := relayAll_fits t1 es1 (SetTable.grown es1.size)
        obtain ⟨t2, l2⟩ := relay_ok tm es1 (SetTable.grown es1.size)
        generalize relayAll t1 es1 (SetTable.grown es1.size) = Y at p2 f2 t2 l2 ⊢
        obtain ⟨es2, t3, gv2⟩ := Y
        dsimp only at p2 f2 t2 l2 ⊢
        have s2 := perm_size p2
        refine wpAny_bind (gw _ (wpAny_bind (wpAny_storeSet_of g1 rfl ?_ (fits_of_scanBound (by omega)))))
        obtain ⟨_, i2⟩ := iset_store (prog := prog) (w := w) (ks := ks ++ [k]) g1 hex rfl (hel1.perm p2) f2 t2 (fun z => l2.trans (l1 z)) ((p2.map keyOf).nodup_iff.mpr nd1) (fun k' => by rw [(p2.map keyOf).mem_iff]; exact mem1 k') (by omega)
        exact wpAny_pure (hR _ (b1.trans (Heap.SameBut.update _ a _)) i2)
      · exact wpAny_pure (hR _ b1 i1)
    split
    · refine wpAny_bind ?_
      rw [hashByValue_scannable 8 (show Value.scannable (.int k tk) = true from rfl)]
      refine wpAny_pure ?_
      show wpAny _ _ _ _ _ _
      exact tail fun h' hb hi => wpAny_pure (h true h' hb hi)
    · refine wpAny_bind (wpAny_pure ?_)
      exact tail fun h' hb hi => wpAny_pure (h true h' hb hi)
end
end L2

set_option Elab.async false
set_option linter.all false
set_option maxRecDepth 100000
set_option maxHeartbeats 4000000
namespace L2
open PySem PySem.Spec PyProof.Rows
section
variable {prog : Program} {w : World} {A : Around} {R : Result → Shared → Prop} {I : Addr} {fp wr : List Addr} {G : Array GenState → Array GenState → Prop} {n : Nat} {P : Nat → Value → Prop} {St : Nat → Shared → Prop}
theorem iset_loop (W : WalksS prog w A.in1 I fp wr G n P St) (S : Addr) (hSf : S ∉ fp) (val : Nat → Int) (hval : ∀ i v, P i v → ∃ t, v = .int (val i) t) (hb : n + 1 < scanBound) :
    ∀ (k i : Nat) (s : Shared), n - i = k → i ≤ n → St i s → ISet prog w s.heap S ((List.range i).map val) → (∀ s', Moved (S :: wr) G s s' → ISet prog w s'.heap S ((List.range n).map val) → R (.ok (.ret .none)) s') →
      codeAny (model prog w) A (.builtin "set.update.loop" ⟨[.ref S, .ref I], []⟩) R s := by
  have nw : S ∉ wr := fun z => hSf (W.sub _ z)
  have sb : ∀ b ∈ wr, b ∈ S :: wr := fun b z => List.mem_cons_of_mem _ z
  intro k
  induction k with
  | zero =>
    intro i s hk hi st hS hR
    obtain rfl : i = n := by omega
    refine codeAny_builtin PyProof.Rows.F.entry_set_update_loop ?_
    rw [Around.under_plainId PyProof.Rows.F.plain_set_update_loop _]
    refine wpAny_bind (m := pyNext (.ref I)) (W.done s _ _ st fun s' hm => ?_)
    exact wpAny_pure (hR s' (hm.mono sb) (hS.keep fun o e => hm.heap S o nw e))
  | succ k ih =>
    intro i s hk hi st hS hR
    have lt : i < n := by omega
    refine codeAny_builtin PyProof.Rows.F.entry_set_update_loop ?_
    rw [Around.under_plainId PyProof.Rows.F.plain_set_update_loop _]
    refine wpAny_bind (m := pyNext (.ref I)) (W.item i s _ _ lt st fun v s' hP st' hm => ?_)
    obtain ⟨tk, rfl⟩ := hval i v hP
    have hS' := hS.keep fun o e => hm.heap S o nw e
    refine wpAny_bind (m := holding [Value.int (val i) tk] (setAdd S (.int (val i) tk))) (wpAny_holding ?_)
    unfold setAdd
    refine wpAny_holding (wpAny_bind ((intKind prog w).pyHash (k := val i) (intKind_is _ _ _ _) ?_))
    refine iset_add (s := { s' with toks := s'.toks + 1 }) hS' (by rw [List.length_map, List.length_range]; omega) fun b h' hsb hi => ?_
    have e : ((List.range i).map val) ++ [val i] = (List.range (i + 1)).map val := by rw [List.range_succ, List.map_append]; rfl
    rw [e] at hi
    refine wpAny_pure ⟨plainId_quiet PyProof.Rows.F.plain_set_update_loop _, ih (i + 1) _ (by omega) lt (W.frame _ s' _ _ st' (Nat.le_succ _) fun b hb o e => ?_) hi fun s'' hm'' hS'' => ?_⟩
    · rw [hsb.2 b (fun z : b = S => hSf (by rw [← z]; exact hb))]; exact e
    · refine hR s'' (Moved.trans W.gtrans ((hm.mono sb).then_heap (Nat.le_succ _) fun b o hb e => ?_) hm'') hS''
      rw [hsb.2 b (fun z : b = S => hb (by rw [z]; exact List.mem_cons_self))]; exact e
end
end L2

set_option Elab.async false
set_option linter.all false
set_option maxRecDepth 100000
set_option maxHeartbeats 4000000
namespace L2
open PySem
theorem erase_perm {α : Type} : ∀ (l : List α) (i : Nat) (x : α), l[i]? = some x → List.Perm (x :: l.eraseIdx i) l
  | [], i, x, h => by cases h
  | a :: r, 0, x, h => by cases h; exact .refl _
  | a :: r, i + 1, x, h => (List.Perm.swap a x _).trans ((erase_perm r i x h).cons a)
theorem pick_go {α : Type} (f : Nat → Nat) : ∀ (n k : Nat) (l : List α) (out : Array α), l.length = n → List.Perm (pickOrder.go f n k l out).toList (out.toList ++ l)
  | 0, k, l, out, h => by
    cases l with
    | nil => unfold pickOrder.go; rw [List.append_nil]
    | cons a r => cases h
  | n + 1, k, l, out, h => by
    unfold pickOrder.go
    have hl : f k % l.length < l.length := Nat.mod_lt _ (by omega)
    rw [List.getElem?_eq_getElem hl]
    dsimp only
    have p := erase_perm l _ _ (List.getElem?_eq_getElem hl)
    refine (pick_go f n (k + 1) _ _ ?_).trans ?_
    · have := p.length_eq
      rw [List.length_cons] at this
      omega
    · rw [Array.toList_push, List.append_assoc]
      exact List.Perm.append_left _ p
theorem pick_perm {α : Type} (f : Nat → Nat) (xs : Array α) : List.Perm (pickOrder f xs).toList xs.toList := by
  have := pick_go f xs.size 0 xs.toList #[] (by simp)
  rw [show (#[] : Array α).toList ++ xs.toList = xs.toList from rfl] at this
  exact this
section
variable {prog : Program} {w : World} {A : Around} {E : Value → Shared → Prop} {s : Shared}
theorem wp_choose {M : Model} {src : Source} {n : Nat} {Q : Nat → Shared → Prop} (hn : n ≠ 0) (h : ∀ i d, i < n → Q i { s with drawn := d }) : wpAny M A (choose src n) Q E s := fun Γ p hΓ => by
  show Sem.wp M Γ (Sem.choose src n Sem.pure) _ _ p s
  unfold Sem.wp
  refine ⟨hn, ?_⟩
  unfold Sem.wp
  exact h _ _ (Nat.mod_lt _ (Nat.pos_of_ne_zero hn))
theorem wp_order {M : Model} {α : Type} : ∀ (n : Nat) (xs : List α) (s : Shared) {Q : List α → Shared → Prop}, xs.length = n → (∀ ys d, List.Perm ys xs → Q ys { s with drawn := d }) → wpAny M A (drawOrder n xs) Q E s
  | 0, xs, s, Q, hl, h => by
    cases xs with
    | nil => exact wpAny_pure (h [] s.drawn .nil)
    | cons a r => cases hl
  | n + 1, xs, s, Q, hl, h => by
    cases xs with
    | nil => cases hl
    | cons a r =>
      unfold drawOrder
      refine wpAny_bind (wp_choose (by simp) fun i d hi => ?_)
      rw [List.getElem?_eq_getElem hi]
      dsimp only
      have p := erase_perm (a :: r) _ _ (List.getElem?_eq_getElem hi)
      refine wpAny_bind (wp_order n _ _ (by have := p.length_eq; rw [List.length_cons] at this; omega) fun ys d' hp => ?_)
      exact wpAny_pure (h _ d' ((hp.cons _).trans p))
/- a set's iterator -/
def SIt (h : Heap) (I : Addr) (f : Value) (i : Nat) (p n ep : Nat) : Prop := ∃ o, h.get? I = some o ∧ o.cls = .type "set_iterator" ∧ o.data = .fields #[f, .int i 0, .ref p, .int n 0, .int ep 0]
theorem SIt.ty {I p n ep i : Nat} {f : Value} (x : SIt s.heap I f i p n ep) : s.TypeIs (.ref I) "set_iterator" := let ⟨o, ho, hc, _⟩ := x; ⟨o, ho, hc⟩
/- the set at p, as it lies -/
def SAt (h : Heap) (p ep : Nat) (es : Array (Int × Value)) (t : SetTable) : Prop := ∃ o, h.get? p = some o ∧ o.ExactSet ∧ o.data = .set es ep t ∧ t.fits es.size = true
theorem slot_sit_next : Slot "set_iterator" "__next__" "set_iterator.__next__" := .of (owner := "set_iterator") (n := "__next__") (by rw [typeLookup_type, builtinLookup_eq_fast]; kernel_rfl) (by decide +kernel) (by decide +kernel) (by decide +kernel) (by first | exact .inl (by decide +kernel) | exact .inr (by decide +kernel)) (by rw [isSubtype_type]; kernel_rfl)
theorem entry_sit_next : entryFor table "set_iterator.__next__" = some Builtin.«set_iterator.__next__» := entryFor_of_tree (by kernel_rfl)
theorem args_sit_next (a : Value) : argsOk "set_iterator.__next__" ⟨[a], []⟩ := by unfold argsOk; kernel_rfl
theorem entry_s_iter : entryFor table "set.__iter__" = some Builtin.«frozenset.__iter__» := entryFor_alias (id' := "frozenset.__iter__") (by kernel_rfl) rfl (by decide +kernel) (by kernel_rfl)
theorem look_sit : typeLookup (.type "set_iterator") "__next__" = pure (some (.builtin "set_iterator.__next__")) := slot_sit_next.lookup
theorem iter_set {p ep : Nat} {es : Array (Int × Value)} {t : SetTable} {Q : Value → Shared → Prop} (hS : SAt s.heap p ep es t)
    (hq : (w.params.followText "set-order" = true ∨ (t.plain = true ∨ es.size ≤ 1)) → Q (.ref s.heap.objs.size) { s with heap := s.heap.push { cls := .type "set_iterator", data := .fields #[.int 0 0, .int 0 0, .ref p, .int es.size 0, .int ep 0] } })
    (hd : ∀ (ys : List Nat) (d : Drawn), List.Perm ys (List.range es.size) → Q (.ref (s.heap.objs.size + 1)) { s with heap := (s.heap.push { cls := .type "tuple", data := .seq (ys.map fun i => rawInt (i : Nat)).toArray }).push { cls := .type "set_iterator", data := .fields #[.ref s.heap.objs.size, .int 0 0, .ref p, .int es.size 0, .int ep 0] }, drawn := d })
    (hz : es.size ≤ sizeLine) : wpAny (model prog w) A (pyIter (.ref p)) Q E s := by
  obtain ⟨o, ho, hex, hdt, hf⟩ := hS
  have hT : s.TypeIs (.ref p) "set" := ⟨o, ho, hex.1⟩
  refine wpAny_pyIter_slot hT F.slot_set_iter (wpAny_call_entry F.slot_set_iter hT entry_s_iter ?_ (F.args_set_iter_1 _))
  unfold Builtin.«frozenset.__iter__»
  refine wpAny_bind (m := Builtin.Frozenset.slot0 "__iter__" _) (wpAny_pure ?_)
  refine wpAny_bind (m := Builtin.Frozenset.sizeOf p) ?_
  unfold Builtin.Frozenset.sizeOf setEntries
  refine wpAny_bind (wpAny_bind (wpAny_setState_of ho hdt hf (wpAny_pure (wpAny_pure ?_))))
  unfold setDrawn setsByText
  refine wpAny_bind (wpAny_bind (wpAny_setState_of ho hdt hf (wpAny_bind (wpAny_bind (wpAny_askSetting (wpAny_pure (wpAny_pure ?_)))))))
  have low : ∀ {f : Value} {h2 : Heap} {d : Drawn}, h2.get? p = some o → Q (.ref h2.objs.size) { s with heap := h2.push { cls := .type "set_iterator", data := .fields #[f, .int 0 0, .ref p, .int es.size 0, .int ep 0] }, drawn := d } →
      wpAny (model prog w) A.in1 (do
        let ep' ← setEpoch p
        let it ← newFields "set_iterator" [f, rawInt 0, Value.ref p, rawInt (es.size : Nat), rawInt (ep' : Nat)]
        ret it) (fun fin s' => ∃ v, fin = Fin.done (Flow.ret v) ∧ ∃ T' r, s'.TypeIs v T' ∧ typeLookup (Value.type T') (Str.ofString "__next__") = pure (some r) ∧ Q v s') E { s with heap := h2, drawn := d } := fun {f h2 d} g q => by
    refine wpAny_bind (wpAny_setEpoch_of (s := { s with heap := h2, drawn := d }) g hdt hf ?_)
    exact wpAny_bind (wpAny_newObj_type (wpAny_pure ⟨_, rfl, "set_iterator", _, ⟨_, Heap.get?_push_size _ rfl, rfl⟩, look_sit, q⟩))
  refine wpAny_ite_split (fun c => ?_) (fun c => ?_)
  · refine wpAny_bind (wp_order es.size _ _ (by simp) fun ys d hp => ?_)
    have hy : ys.length = es.size := by have := hp.length_eq; simpa using this
    refine wpAny_bind (m := newTuple _) (wpAny_newObj_type ?_ (by show (ys.map fun i => rawInt (i : Nat)).toArray.size ≤ sizeLine; rw [List.size_toArray, List.length_map, hy]; exact hz))
    have q := hd ys d hp
    have e : s.heap.objs.size + 1 = (s.heap.push { cls := .type "tuple", data := .seq (ys.map fun i => rawInt (i : Nat)).toArray }).objs.size := (Heap.size_push _ _).symm
    rw [e] at q
    exact low (Heap.get?_push_of_some _ ho) q
  · refine wpAny_bind (wpAny_pure (low (d := s.drawn) ho (hq ?_)))
    have c' : ¬ (!w.params.followText "set-order" && (!t.plain && decide (es.size > 1))) = true := c
    cases h1 : w.params.followText "set-order" with
    | true => exact .inl rfl
    | false =>
      right
      cases h2 : t.plain with
      | true => exact .inl rfl
      | false =>
        right
        rw [h1, h2] at c'
        simp at c'
        exact c'
end
end L2

set_option Elab.async false
set_option linter.all false
set_option maxRecDepth 100000
set_option maxHeartbeats 4000000
namespace L2
open PySem
section
variable {prog : Program} {w : World} {A : Around} {E : Value → Shared → Prop} {s : Shared}
theorem sit_upd {h : Heap} {I p n ep i : Nat} {f g : Value} (x : SIt h I f i p n ep) :
    SIt ((h.update I (Obj.mapFields (·.setIfInBounds 0 g))).update I (Obj.mapFields (·.setIfInBounds 1 (rawInt ((i : Int) + 1))))) I g (i + 1) p n ep := by
  obtain ⟨o, ho, hc, hd⟩ := x
  have d1 := Obj.data_mapFields hd (·.setIfInBounds 0 g)
  have g1 := Heap.get?_update_self (Obj.mapFields (·.setIfInBounds 0 g)) ho (Obj.isFreed_of_fields d1)
  have d2 := Obj.data_mapFields d1 (·.setIfInBounds 1 (rawInt ((i : Int) + 1)))
  refine ⟨_, Heap.get?_update_self _ g1 (Obj.isFreed_of_fields d2), (Obj.cls_mapFields ..).trans ((Obj.cls_mapFields ..).trans hc), ?_⟩
  rw [d2]
  simp [rawInt]
theorem next_some {I p ep i slot nx : Nat} {es : Array (Int × Value)} {t : SetTable} {x : Value} {Q : Option Value → Shared → Prop} (hI : SIt s.heap I (.int slot 0) i p es.size ep) (hS : SAt s.heap p ep es t)
    (hN : ∀ (A' : Around) (E' : Value → Shared → Prop) (Q' : Option (Value × Nat) → Shared → Prop), Q' (some (x, nx)) s → wpAny (model prog w) A' (setNext p slot i ep) Q' E' s)
    (hQ : ∀ h', SIt h' I (.int nx 0) (i + 1) p es.size ep → Heap.SameBut I s.heap h' → Q (some x) { s with heap := h' }) : wpAny (model prog w) A (pyNext (.ref I)) Q E s := by
  obtain ⟨o, ho, hc, hd⟩ := id hI
  obtain ⟨op, hop, hex, hdp, hf⟩ := hS
  unfold pyNext
  refine wpAny_bind (wpAny_attempt (wpAny_callSpecial?_slot (name := Str.ofString "__next__") hI.ty slot_sit_next (wpAny_call_entry slot_sit_next hI.ty entry_sit_next ?_ (args_sit_next _))))
  unfold Builtin.«set_iterator.__next__»
  refine wpAny_bind (m := slotArgs "__next__" 0 _) (wpAny_pure ?_)
  refine wpAny_bind (wpAny_fieldsOf ho hd ?_)
  dsimp only
  unfold setEntries
  refine wpAny_bind (wpAny_bind (wpAny_setState_of hop hdp hf (wpAny_pure ?_)))
  rw [if_neg (by simp)]
  simp only [Int.toNat_natCast]
  refine wpAny_bind (hN _ _ _ ?_)
  dsimp only
  refine wpAny_bind (wpAny_setField ho hd (by simp) ?_)
  have d1 := Obj.data_mapFields hd (·.setIfInBounds 0 (rawInt ((nx : Nat) : Int)))
  have g1 := Heap.get?_update_self (Obj.mapFields (·.setIfInBounds 0 (rawInt ((nx : Nat) : Int)))) ho (Obj.isFreed_of_fields d1)
  refine wpAny_bind (wpAny_setField (s := { s with heap := s.heap.update I (Obj.mapFields (·.setIfInBounds 0 (rawInt ((nx : Nat) : Int)))) }) g1 d1 (by simp) ?_)
  exact wpAny_pure ⟨_, rfl, wpAny_pure (hQ _ (sit_upd hI) ((Heap.SameBut.update ..).trans (Heap.SameBut.update ..)))⟩
theorem next_none {I p ep i slot : Nat} {es : Array (Int × Value)} {t : SetTable} {Q : Option Value → Shared → Prop} (hh : A.handled = none) (hI : SIt s.heap I (.int slot 0) i p es.size ep) (hS : SAt s.heap p ep es t)
    (hN : ∀ (A' : Around) (E' : Value → Shared → Prop) (Q' : Option (Value × Nat) → Shared → Prop), Q' none s → wpAny (model prog w) A' (setNext p slot i ep) Q' E' s)
    (hQ : ∀ h', Heap.ExtBut I s.heap h' → Q none { s with heap := h' }) : wpAny (model prog w) A (pyNext (.ref I)) Q E s := by
  obtain ⟨o, ho, hc, hd⟩ := id hI
  obtain ⟨op, hop, hex, hdp, hf⟩ := id hS
  unfold pyNext
  refine wpAny_bind (wpAny_attempt (wpAny_callSpecial?_slot (name := Str.ofString "__next__") hI.ty slot_sit_next (wpAny_call_entry slot_sit_next hI.ty entry_sit_next ?_ (args_sit_next _))))
  unfold Builtin.«set_iterator.__next__»
  refine wpAny_bind (m := slotArgs "__next__" 0 _) (wpAny_pure ?_)
  refine wpAny_bind (wpAny_fieldsOf ho hd ?_)
  dsimp only
  unfold setEntries
  refine wpAny_bind (wpAny_bind (wpAny_setState_of hop hdp hf (wpAny_pure ?_)))
  rw [if_neg (by simp)]
  simp only [Int.toNat_natCast]
  refine wpAny_bind (hN _ _ _ ?_)
  dsimp only
  refine wpAny_bind (wpAny_setField ho hd (by simp) ?_)
  have s1 := Heap.SameBut.update s.heap I (Obj.mapFields (·.setIfInBounds 2 Value.none))
  simp only [newExc, newTuple]
  refine wpAny_bind (wpAny_bind (wpAny_newObj_type (wpAny_bind (m := firstArgMember _ _) (wpAny_of_eq (a := Value.none) (by simp only [firstArgMember]; rfl) (wpAny_newObj_type ?_ (by size_fits)))) (by size_fits)))
  simp only [raiseNew]
  refine wpAny_bind (wpAny_handled ?_)
  rw [show A.in1.handled = none from hh]
  refine wpAny_bind (wpAny_pure (wpAny_throw ?_)); refine wpAny_bind (wpAny_isInstance (T := "StopIteration") (b := true) ⟨_, Heap.get?_push_size _ rfl, rfl⟩ isSubtype_stop ?_)
  exact wpAny_pure (hQ _ ((s1.extBut.push _).push _))
/- the order that was drawn -/
def TAt (h : Heap) (T : Nat) (ys : List Nat) : Prop := ∃ o, h.get? T = some o ∧ o.cls = .type "tuple" ∧ ∃ n, o.data = .seq (ys.map fun i => rawInt (i : Nat)).toArray n
theorem tup_some {I p ep i T j : Nat} {es : Array (Int × Value)} {t : SetTable} {ys : List Nat} {e : Int × Value} {Q : Option Value → Shared → Prop} (hI : SIt s.heap I (.ref T) i p es.size ep) (hS : SAt s.heap p ep es t) (hT : TAt s.heap T ys)
    (hj : ys[i]? = some j) (he : es[j]? = some e) (hQ : ∀ h', SIt h' I (.ref T) (i + 1) p es.size ep → Heap.SameBut I s.heap h' → Q (some e.2) { s with heap := h' }) : wpAny (model prog w) A (pyNext (.ref I)) Q E s := by
  obtain ⟨o, ho, hc, hd⟩ := id hI
  obtain ⟨op, hop, hex, hdp, hf⟩ := id hS
  unfold pyNext
  refine wpAny_bind (wpAny_attempt (wpAny_callSpecial?_slot (name := Str.ofString "__next__") hI.ty slot_sit_next (wpAny_call_entry slot_sit_next hI.ty entry_sit_next ?_ (args_sit_next _))))
  unfold Builtin.«set_iterator.__next__»
  refine wpAny_bind (m := slotArgs "__next__" 0 _) (wpAny_pure ?_)
  refine wpAny_bind (wpAny_fieldsOf ho hd ?_)
  dsimp only
  unfold setEntries
  refine wpAny_bind (wpAny_bind (wpAny_setState_of hop hdp hf (wpAny_pure ?_)))
  rw [if_neg (by simp)]
  obtain ⟨oT, hoT, hcT, nT, hdT⟩ := hT
  refine wpAny_bind (wpAny_seqItems hoT hdT ?_)
  dsimp only
  rw [Int.toNat_natCast, List.getElem?_toArray, List.getElem?_map, hj]
  show wpAny _ _ (setNextDrawn p j ep >>= _) _ _ s
  unfold setNextDrawn
  refine wpAny_bind (wpAny_bind (wpAny_setState_of hop hdp hf ?_))
  dsimp only
  rw [if_neg (by simp)]
  rw [he]
  refine wpAny_pure (wpAny_bind (wpAny_setField ho hd (by simp) ?_))
  have d1 := Obj.data_mapFields hd (·.setIfInBounds 1 (rawInt ((i : Int) + 1)))
  refine wpAny_pure ⟨_, rfl, wpAny_pure (hQ _ ⟨_, Heap.get?_update_self _ ho (Obj.isFreed_of_fields d1), (Obj.cls_mapFields ..).trans hc, ?_⟩ (Heap.SameBut.update ..))⟩
  rw [d1]
  simp [rawInt]
theorem tup_none {I p ep i T : Nat} {es : Array (Int × Value)} {t : SetTable} {ys : List Nat} {Q : Option Value → Shared → Prop} (hh : A.handled = none) (hI : SIt s.heap I (.ref T) i p es.size ep) (hS : SAt s.heap p ep es t) (hT : TAt s.heap T ys)
    (hj : ys[i]? = none) (hQ : ∀ h', Heap.ExtBut I s.heap h' → Q none { s with heap := h' }) : wpAny (model prog w) A (pyNext (.ref I)) Q E s := by
  obtain ⟨o, ho, hc, hd⟩ := id hI
  obtain ⟨op, hop, hex, hdp, hf⟩ := id hS
  unfold pyNext
  refine wpAny_bind (wpAny_attempt (wpAny_callSpecial?_slot (name := Str.ofString "__next__") hI.ty slot_sit_next (wpAny_call_entry slot_sit_next hI.ty entry_sit_next ?_ (args_sit_next _))))
  unfold Builtin.«set_iterator.__next__»
  refine wpAny_bind (m := slotArgs "__next__" 0 _) (wpAny_pure ?_)
  refine wpAny_bind (wpAny_fieldsOf ho hd ?_)
  dsimp only
  unfold setEntries
  refine wpAny_bind (wpAny_bind (wpAny_setState_of hop hdp hf (wpAny_pure ?_)))
  rw [if_neg (by simp)]
  obtain ⟨oT, hoT, hcT, nT, hdT⟩ := hT
  refine wpAny_bind (wpAny_seqItems hoT hdT ?_)
  dsimp only
  rw [Int.toNat_natCast, List.getElem?_toArray, List.getElem?_map, hj]
  dsimp only [Option.map_none]
  refine wpAny_bind (wpAny_setField ho hd (by simp) ?_)
  have d1 := Obj.data_mapFields hd (·.setIfInBounds 0 (rawInt 0))
  have g1 := Heap.get?_update_self (Obj.mapFields (·.setIfInBounds 0 (rawInt 0))) ho (Obj.isFreed_of_fields d1)
  refine wpAny_bind (wpAny_setField (s := { s with heap := s.heap.update I (Obj.mapFields (·.setIfInBounds 0 (rawInt 0))) }) g1 d1 (by simp) ?_)
  have s1 := (Heap.SameBut.update s.heap I (Obj.mapFields (·.setIfInBounds 0 (rawInt 0)))).trans (Heap.SameBut.update (s.heap.update I (Obj.mapFields (·.setIfInBounds 0 (rawInt 0)))) I (Obj.mapFields (·.setIfInBounds 2 Value.none)))
  simp only [newExc, newTuple]
  refine wpAny_bind (wpAny_bind (wpAny_newObj_type (wpAny_bind (m := firstArgMember _ _) (wpAny_of_eq (a := Value.none) (by simp only [firstArgMember]; rfl) (wpAny_newObj_type ?_ (by size_fits)))) (by size_fits)))
  simp only [raiseNew]
  refine wpAny_bind (wpAny_handled ?_)
  rw [show A.in1.handled = none from hh]
  refine wpAny_bind (wpAny_pure (wpAny_throw ?_)); refine wpAny_bind (wpAny_isInstance (T := "StopIteration") (b := true) ⟨_, Heap.get?_push_size _ rfl, rfl⟩ isSubtype_stop ?_)
  exact wpAny_pure (hQ _ ((s1.extBut.push _).push _))
/- setNext, by the text -/
theorem setNext_text {p ep slot i : Nat} {es : Array (Int × Value)} {t : SetTable} {Q : Option (Value × Nat) → Shared → Prop} (hx : w.params.followText "set-order" = true) (hS : SAt s.heap p ep es t)
    (h : Q (((pickOrder (w.params.setOrder p ep) es)[i]?).map fun e => (e.2, slot)) s) : wpAny (model prog w) A (setNext p slot i ep) Q E s := by
  obtain ⟨op, hop, hex, hdp, hf⟩ := hS
  unfold setNext setsByText
  refine wpAny_bind (wpAny_setState_of hop hdp hf (wpAny_bind (wpAny_bind (wpAny_askSetting (wpAny_pure ?_)))))
  dsimp only
  rw [if_pos (show (model prog w).w.params.followText "set-order" = true from hx), if_neg (by simp)]
  unfold setWalk setsByText
  refine wpAny_bind (wpAny_bind (wpAny_setState_of hop hdp hf (wpAny_bind (wpAny_bind (wpAny_askSetting (wpAny_pure ?_))))))
  dsimp only
  rw [if_pos (show (model prog w).w.params.followText "set-order" = true from hx)]
  exact wpAny_bind (wpAny_askSetting (wpAny_pure (wpAny_pure h)))
/- setNext, by the places -/
theorem setNext_place {p ep slot i : Nat} {es : Array (Int × Value)} {t : SetTable} {Q : Option (Value × Nat) → Shared → Prop} (hx : w.params.followText "set-order" = false) (hp : t.plain = true ∨ es.size ≤ 1) (hl : t.led = true) (hS : SAt s.heap p ep es t)
    (h : Q (match es[SetTable.below t.place slot]?, t.place[SetTable.below t.place slot]? with | some (_, x), some j => some (x, j + 1) | _, _ => none) s) : wpAny (model prog w) A (setNext p slot i ep) Q E s := by
  obtain ⟨op, hop, hex, hdp, hf⟩ := hS
  unfold setNext setsByText
  refine wpAny_bind (wpAny_setState_of hop hdp hf (wpAny_bind (wpAny_bind (wpAny_askSetting (wpAny_pure ?_)))))
  dsimp only
  rw [if_neg (show ¬ (model prog w).w.params.followText "set-order" = true by intro z; rw [show (model prog w).w.params.followText "set-order" = w.params.followText "set-order" from rfl, hx] at z; cases z)]
  refine wpAny_ite_split (fun c => ?_) (fun c => ?_)
  · exfalso
    have c' : (!t.plain && decide (es.size > 1)) = true := c
    rw [Bool.and_eq_true, decide_eq_true_eq] at c'
    rcases hp with hp | hp
    · rw [hp] at c'; cases c'.1
    · omega
  · refine wpAny_bind ?_
    show wpAny _ _ (if (!t.led && !es.isEmpty) = true then unsupported _ else pure ()) _ _ _
    rw [if_neg (by rw [hl]; simp)]
    exact wpAny_pure (wpAny_pure h)
end
end L2

set_option Elab.async false
set_option linter.all false
set_option maxRecDepth 100000
set_option maxHeartbeats 4000000
namespace L2
open PySem PyProof.Rows
section
variable {prog : Program} {w : World} {A : Around} {E : Value → Shared → Prop} {s : Shared}
theorem slot_sit_iter : Slot "set_iterator" "__iter__" "set_iterator.__iter__" := .of (owner := "set_iterator") (n := "__iter__") (by rw [typeLookup_type, builtinLookup_eq_fast]; kernel_rfl) (by decide +kernel) (by decide +kernel) (by decide +kernel) (by first | exact .inl (by decide +kernel) | exact .inr (by decide +kernel)) (by rw [isSubtype_type]; kernel_rfl)
theorem entry_sit_iter : entryFor table "set_iterator.__iter__" = some Builtin.«dict_keyiterator.__iter__» := entryFor_alias (id' := "dict_keyiterator.__iter__") (by kernel_rfl) rfl (by decide +kernel) (by kernel_rfl)
theorem args_sit_iter (a : Value) : argsOk "set_iterator.__iter__" ⟨[a], []⟩ := by unfold argsOk; kernel_rfl
theorem iter_sit {I p n ep i : Nat} {f : Value} {Q : Value → Shared → Prop} (x : SIt s.heap I f i p n ep) (h : Q (.ref I) s) : wpAny (model prog w) A (pyIter (.ref I)) Q E s := by
  refine wpAny_pyIter_slot x.ty slot_sit_iter (wpAny_call_entry slot_sit_iter x.ty entry_sit_iter (show wpAny _ _ (ret (.ref I)) _ _ s from ?_) (args_sit_iter _))
  exact wpAny_pure ⟨_, rfl, "set_iterator", _, x.ty, look_sit, h⟩
theorem SIt.keep {h h' : Heap} {I p n ep i : Nat} {f : Value} (x : SIt h I f i p n ep) (k : ∀ o, h.get? I = some o → h'.get? I = some o) : SIt h' I f i p n ep := let ⟨o, ho, r⟩ := x; ⟨o, k _ ho, r⟩
theorem SAt.keep {h h' : Heap} {p ep : Nat} {es : Array (Int × Value)} {t : SetTable} (x : SAt h p ep es t) (k : ∀ o, h.get? p = some o → h'.get? p = some o) : SAt h' p ep es t := let ⟨o, ho, r⟩ := x; ⟨o, k _ ho, r⟩
theorem TAt.keep {h h' : Heap} {T : Nat} {ys : List Nat} (x : TAt h T ys) (k : ∀ o, h.get? T = some o → h'.get? T = some o) : TAt h' T ys := let ⟨o, ho, r⟩ := x; ⟨o, k _ ho, r⟩
theorem walk_text (hh : A.handled = none) (I p ep : Nat) (hne : p ≠ I) (es : Array (Int × Value)) (t : SetTable) (hx : w.params.followText "set-order" = true) :
    Walks prog w A I [I, p] [I] es.size (fun i v => ((pickOrder (w.params.setOrder p ep) es).toList.map (·.2))[i]? = some v) (fun i h => SIt h I (.int 0 0) i p es.size ep ∧ SAt h p ep es t) where
  sub := fun b hb => by rw [List.mem_singleton] at hb; rw [hb]; exact List.mem_cons_self
  frame := fun _ _ _ st k => ⟨st.1.keep (k I List.mem_cons_self), st.2.keep (k p (List.mem_cons_of_mem _ List.mem_cons_self))⟩
  item := fun i s Q E hi st hQ => by
    have hl : i < (pickOrder (w.params.setOrder p ep) es).size := by
      have := (pick_perm (w.params.setOrder p ep) es).length_eq
      rw [Array.length_toList, Array.length_toList] at this
      omega
    have g := Array.getElem?_eq_getElem hl
    refine next_some (nx := 0) (x := ((pickOrder (w.params.setOrder p ep) es)[i]).2) (slot := 0) st.1 st.2 (fun A' E' Q' q => setNext_text hx st.2 (by rw [g]; exact q)) fun h' hI hb => ?_
    refine hQ _ h' s.toks ?_ ⟨hI, st.2.keep fun o e => hb.extBut p o hne e⟩ fun b o hn e => hb.extBut b o (fun z => hn (by rw [z]; exact List.mem_singleton.mpr rfl)) e
    rw [List.getElem?_map, Array.getElem?_toList, g]; rfl
  done := fun s Q E st hQ => by
    have g : (pickOrder (w.params.setOrder p ep) es)[es.size]? = none := by
      have := (pick_perm (w.params.setOrder p ep) es).length_eq
      rw [Array.length_toList, Array.length_toList] at this
      exact Array.getElem?_eq_none (by omega)
    exact next_none (slot := 0) hh st.1 st.2 (fun A' E' Q' q => setNext_text hx st.2 (by rw [g]; exact q)) fun h' hb => hQ h' s.toks fun b o hn e => hb b o (fun z => hn (by rw [z]; exact List.mem_singleton.mpr rfl)) e
  self := fun _ _ _ _ st hQ => iter_sit st.1 hQ
def slotAt (t : SetTable) : Nat → Nat
  | 0 => 0
  | i + 1 => t.place.getD i 0 + 1
theorem below_at {t : SetTable} (h : Ris t.place) : ∀ i, i ≤ t.place.size → SetTable.below t.place (slotAt t i) = i
  | 0, _ => by
    obtain ⟨b0, b1, b2⟩ := below_is (j := slotAt t 0) h
    by_cases c : SetTable.below t.place (slotAt t 0) = 0
    · exact c
    · exact absurd (b1 0 (by omega)) (Nat.not_lt_zero _)
  | i + 1, hi => by
    obtain ⟨b0, b1, b2⟩ := below_is (j := slotAt t (i + 1)) h
    have e : ∀ k d, k < t.place.size → t.place.getD k d = t.place.getD k 0 := fun k d hk => by simp [Array.getD, hk]
    have c1 : i < SetTable.below t.place (slotAt t (i + 1)) := by
      by_cases c : SetTable.below t.place (slotAt t (i + 1)) ≤ i
      · have := b2 i c hi
        rw [e i _ hi] at this
        exact absurd this (Nat.not_succ_le_self _)
      · omega
    by_cases c2 : SetTable.below t.place (slotAt t (i + 1)) = i + 1
    · exact c2
    · have l := b1 (i + 1) (by omega)
      have hk : i + 1 < t.place.size := by omega
      rw [e _ _ hk] at l
      have r : t.place.getD i 0 < t.place.getD (i + 1) 0 := ris_lt (d := 0) h (Nat.lt_succ_self i) hk
      have l' : t.place.getD (i + 1) 0 < t.place.getD i 0 + 1 := l
      omega
theorem walk_place (hh : A.handled = none) (I p ep : Nat) (hne : p ≠ I) (es : Array (Int × Value)) (t : SetTable) (hx : w.params.followText "set-order" = false) (hp : t.plain = true ∨ es.size ≤ 1) (hl : t.led = true) (hz : t.place.size = es.size) (hr : Ris t.place) :
    Walks prog w A I [I, p] [I] es.size (fun i v => (es.toList.map (·.2))[i]? = some v) (fun i h => SIt h I (.int (slotAt t i) 0) i p es.size ep ∧ SAt h p ep es t) where
  sub := fun b hb => by rw [List.mem_singleton] at hb; rw [hb]; exact List.mem_cons_self
  frame := fun _ _ _ st k => ⟨st.1.keep (k I List.mem_cons_self), st.2.keep (k p (List.mem_cons_of_mem _ List.mem_cons_self))⟩
  item := fun i s Q E hi st hQ => by
    have g := Array.getElem?_eq_getElem hi
    have hi2 : i < t.place.size := by omega
    have g2 := Array.getElem?_eq_getElem hi2
    have e2 : slotAt t (i + 1) = t.place[i] + 1 := by
      show t.place.getD i 0 + 1 = _
      simp [Array.getD, hi2]
    refine next_some (nx := t.place[i] + 1) (x := (es[i]).2) (slot := slotAt t i) st.1 st.2 (fun A' E' Q' q => setNext_place hx hp hl st.2 (by rw [below_at hr i (by omega), g, g2]; exact q)) fun h' hI hb => ?_
    refine hQ _ h' s.toks ?_ ⟨by rw [e2]; exact hI, st.2.keep fun o e => hb.extBut p o hne e⟩ fun b o hn e => hb.extBut b o (fun z => hn (by rw [z]; exact List.mem_singleton.mpr rfl)) e
    rw [List.getElem?_map, Array.getElem?_toList, g]; rfl
  done := fun s Q E st hQ => by
    have g : es[es.size]? = none := Array.getElem?_eq_none (Nat.le_refl _)
    exact next_none (slot := slotAt t es.size) hh st.1 st.2 (fun A' E' Q' q => setNext_place hx hp hl st.2 (by rw [below_at hr _ (by omega), g]; exact q)) fun h' hb => hQ h' s.toks fun b o hn e => hb b o (fun z => hn (by rw [z]; exact List.mem_singleton.mpr rfl)) e
  self := fun _ _ _ _ st hQ => iter_sit st.1 hQ
theorem walk_drawn (hh : A.handled = none) (I p T ep : Nat) (hne : p ≠ I) (hnT : T ≠ I) (es : Array (Int × Value)) (t : SetTable) (ys : List Nat) (hy : List.Perm ys (List.range es.size)) :
    Walks prog w A I [I, p, T] [I] es.size (fun i v => (ys.map fun j => (es.getD j (0, .none)).2)[i]? = some v) (fun i h => SIt h I (.ref T) i p es.size ep ∧ SAt h p ep es t ∧ TAt h T ys) where
  sub := fun b hb => by rw [List.mem_singleton] at hb; rw [hb]; exact List.mem_cons_self
  frame := fun _ _ _ st k => ⟨st.1.keep (k I (by simp)), st.2.1.keep (k p (by simp)), st.2.2.keep (k T (by simp))⟩
  item := fun i s Q E hi st hQ => by
    have hl : i < ys.length := by have := hy.length_eq; rw [List.length_range] at this; omega
    have g := List.getElem?_eq_getElem hl
    have hj : ys[i] < es.size := List.mem_range.mp (hy.mem_iff.mp (List.getElem_mem hl))
    refine tup_some st.1 st.2.1 st.2.2 g (Array.getElem?_eq_getElem hj) fun h' hI hb => ?_
    refine hQ _ h' s.toks ?_ ⟨hI, st.2.1.keep fun o e => hb.extBut p o hne e, st.2.2.keep fun o e => hb.extBut T o hnT e⟩ fun b o hn e => hb.extBut b o (fun z => hn (by rw [z]; exact List.mem_singleton.mpr rfl)) e
    rw [List.getElem?_map, g]
    simp [Array.getD, hj]
  done := fun s Q E st hQ => by
    have g : ys[es.size]? = none := List.getElem?_eq_none (by have := hy.length_eq; rw [List.length_range] at this; omega)
    exact tup_none hh st.1 st.2.1 st.2.2 g fun h' hb => hQ h' s.toks fun b o hn e => hb b o (fun z => hn (by rw [z]; exact List.mem_singleton.mpr rfl)) e
  self := fun _ _ _ _ st hQ => iter_sit st.1 hQ
theorem ints_of {l : List (Int × Value)} (h : ∀ e ∈ l, ∃ t, e.2 = .int (keyOf e) t) : IntsAre (l.map (·.2)) (l.map keyOf) := by
  induction l with
  | nil => exact .nil
  | cons e r ih =>
    obtain ⟨t, q⟩ := h e List.mem_cons_self
    rw [List.map_cons, List.map_cons, q]
    exact .cons _ t (ih fun x hx => h x (List.mem_cons_of_mem _ hx))
theorem range_getD {α : Type} (es : Array α) (d : α) : (List.range es.size).map (fun j => es.getD j d) = es.toList := by
  refine List.ext_getElem (by simp) fun i h1 h2 => ?_
  have hi : i < es.size := by simpa using h2
  simp [Array.getD, hi]
/- what a walk over a set meets -/
theorem iter_iset {p : Addr} {ks : List Int} {Q : Value → Shared → Prop} (hh : A.handled = none) (hS : ISet prog w s.heap p ks) (hk : ks.length ≤ 1000)
    (h : ∀ (I : Addr) (fp : List Addr) (St : Nat → Heap → Prop) (h' : Heap) (d : Drawn) (its : List Value) (ns : List Int), Walks prog w A I fp [I] its.length (fun i v => its[i]? = some v) St → St 0 h' →
      (∀ b o, s.heap.get? b = some o → h'.get? b = some o) → (∀ b ∈ fp, b = p ∨ s.heap.objs.size ≤ b) → s.heap.objs.size ≤ I → IntsAre its ns → ns.Nodup → (∀ k, k ∈ ns ↔ k ∈ ks) → its.length ≤ ks.length → Q (.ref I) { s with heap := h', drawn := d }) :
    wpAny (model prog w) A (pyIter (.ref p)) Q E s := by
  obtain ⟨o, es, ep, t, ho, hex, hd, hel, hf, ht, hl, nd, mem, sz⟩ := hS
  have hS : SAt s.heap p ep es t := ⟨o, ho, hex, hd, hf⟩
  have hp : p < s.heap.objs.size := Heap.lt_size ho
  have hz : t.place.size = es.size := by
    unfold SetTable.fits at hf
    rw [Bool.and_eq_true] at hf
    exact beq_iff_eq.mp hf.1
  have fin : ∀ (l : List (Int × Value)), List.Perm l es.toList → IntsAre (l.map (·.2)) (l.map keyOf) ∧ (l.map keyOf).Nodup ∧ (∀ k, k ∈ l.map keyOf ↔ k ∈ ks) ∧ (l.map (·.2)).length = es.size := fun l pl =>
    ⟨ints_of fun e he => elem_int hel (pl.mem_iff.mp he), (pl.map keyOf).nodup_iff.mpr nd, fun k => ((pl.map keyOf).mem_iff).trans (mem k), by rw [List.length_map, pl.length_eq, Array.length_toList]⟩
  have lf : ∀ b ∈ [s.heap.objs.size, p], b = p ∨ s.heap.objs.size ≤ b := fun b hb => by
    simp only [List.mem_cons, List.not_mem_nil, or_false] at hb
    rcases hb with rfl | rfl
    · exact .inr (Nat.le_refl _)
    · exact .inl rfl
  refine iter_set hS (fun c => ?_) (fun ys d hy => ?_) (Nat.le_trans (Nat.le_trans sz hk) (by decide))
  · cases hx : w.params.followText "set-order" with
    | true =>
      obtain ⟨f1, f2, f3, f4⟩ := fin _ (pick_perm (w.params.setOrder p ep) es)
      have W := walk_text (prog := prog) hh s.heap.objs.size p ep (Nat.ne_of_lt hp) es t hx
      rw [← f4] at W
      exact h _ _ _ _ s.drawn _ _ W ⟨⟨_, Heap.get?_push_size _ rfl, rfl, by rw [f4]; rfl⟩, hS.keep fun o e => Heap.get?_push_of_some _ e⟩ (fun b o e => Heap.get?_push_of_some _ e) lf (Nat.le_refl _) f1 f2 f3 (by omega)
    | false =>
      have c' : t.plain = true ∨ es.size ≤ 1 := by
        rcases c with c | c
        · rw [hx] at c; cases c
        · exact c
      have hr : Ris t.place := by
        rcases c' with c' | c'
        · exact ht.ri c'
        · have hl1 : t.place.toList.length ≤ 1 := by rw [Array.length_toList]; omega
          show List.Pairwise _ _
          match t.place.toList, hl1 with
          | [], _ => exact .nil
          | [a], _ => exact List.pairwise_singleton _ _
      obtain ⟨f1, f2, f3, f4⟩ := fin _ (.refl _)
      have W := walk_place (prog := prog) hh s.heap.objs.size p ep (Nat.ne_of_lt hp) es t hx c' (hl hx) hz hr
      rw [← f4] at W
      exact h _ _ _ _ s.drawn _ _ W ⟨⟨_, Heap.get?_push_size _ rfl, rfl, by rw [f4]; rfl⟩, hS.keep fun o e => Heap.get?_push_of_some _ e⟩ (fun b o e => Heap.get?_push_of_some _ e) lf (Nat.le_refl _) f1 f2 f3 (by omega)
  · have pl : List.Perm (ys.map fun j => es.getD j (0, .none)) es.toList := by
      have := hy.map fun j => es.getD j (0, Value.none)
      rw [range_getD] at this
      exact this
    obtain ⟨f1, f2, f3, f4⟩ := fin _ pl
    have W := walk_drawn (prog := prog) (w := w) (A := A) hh (s.heap.objs.size + 1) p s.heap.objs.size ep (Nat.ne_of_lt (Nat.lt_succ_of_lt hp)) (Nat.ne_of_lt (Nat.lt_succ_self _)) es t ys hy
    rw [List.map_map] at f1 f4
    have f4' : (ys.map fun j => (es.getD j (0, .none)).2).length = es.size := f4
    rw [← f4'] at W
    have gI : ((s.heap.push { cls := .type "tuple", data := .seq (ys.map fun i => rawInt (i : Nat)).toArray }).push { cls := .type "set_iterator", data := .fields #[.ref s.heap.objs.size, .int 0 0, .ref p, .int es.size 0, .int ep 0] }).get? (s.heap.objs.size + 1) = some { cls := .type "set_iterator", data := .fields #[.ref s.heap.objs.size, .int 0 0, .ref p, .int es.size 0, .int ep 0] } := by
      have := Heap.get?_push_size (s.heap.push { cls := .type "tuple", data := .seq (ys.map fun i => rawInt (i : Nat)).toArray }) (o := { cls := .type "set_iterator", data := .fields #[.ref s.heap.objs.size, .int 0 0, .ref p, .int es.size 0, .int ep 0] }) rfl
      rw [Heap.size_push] at this
      exact this
    refine h _ _ _ _ d _ _ W ⟨⟨_, gI, rfl, by rw [f4']; rfl⟩, hS.keep fun o e => Heap.get?_push_of_some _ (Heap.get?_push_of_some _ e), ⟨_, Heap.get?_push_of_some _ (Heap.get?_push_size _ rfl), rfl, _, rfl⟩⟩ (fun b o e => Heap.get?_push_of_some _ (Heap.get?_push_of_some _ e)) (fun b hb => ?_) (Nat.le_succ _) f1 f2 f3 (by omega)
    · simp only [List.mem_cons, List.not_mem_nil, or_false] at hb
      rcases hb with rfl | rfl | rfl
      · exact .inr (Nat.le_succ _)
      · exact .inl rfl
      · exact .inr (Nat.le_refl _)
end
end L2

set_option Elab.async false
set_option linter.all false
set_option maxRecDepth 100000
set_option maxHeartbeats 4000000
namespace L2
open PySem PyProof.Rows
section
variable {prog : Program} {w : World} {A : Around} {E : Value → Shared → Prop} {s : Shared}
theorem hint_set {r : Addr} {Q : Bool → Shared → Prop} (hT : s.TypeIs (.ref r) "set") (h : Q false s) : wpAny (model prog w) A (Builtin.List.listLengthHint (.ref r)) Q E s := by
  unfold Builtin.List.listLengthHint
  refine wpAny_bind (wpAny_specialOf hT F.slot_set_len.lookup ?_)
  generalize hi : ("set.__len__" : String) = idx
  wp_delta; rw [show splitId idx = some ("set", "__len__") from by subst hi; decide +kernel]
  subst hi; refine wpAny_bind (wpAny_isInstance (T := "set") (b := true) hT (by rw [isSubtype_type]; kernel_rfl) ?_)
  refine wpAny_ite_split (fun z => absurd z (by decide)) (fun _ => wpAny_ite_split (fun _ => ?_) (fun z => absurd (by decide +kernel) z))
  exact wpAny_bind (wpAny_typeOf hT (wpAny_pure h))
/- what is met, in some order -/
def Met (ks : List Int) (its : List Value) : Prop := ∃ ns, IntsAre its ns ∧ ns.Nodup ∧ (∀ k, k ∈ ns ↔ k ∈ ks) ∧ its.length ≤ ks.length
theorem ISet.ty {p : Addr} {ks : List Int} (x : ISet prog w s.heap p ks) : s.TypeIs (.ref p) "set" := let ⟨o, _, _, _, ho, hex, _⟩ := x; ⟨o, ho, hex.1⟩
theorem ISet.lt {h : Heap} {p : Addr} {ks : List Int} (x : ISet prog w h p ks) : p < h.objs.size := let ⟨_, _, _, _, ho, _⟩ := x; Heap.lt_size ho
theorem items_eq {its : List Value} {acc : Array Value} (h : ItemsOf (fun i v => its[i]? = some v) acc its.length) : acc.toList = its := by
  refine List.ext_getElem? fun i => ?_
  by_cases hi : i < its.length
  · have ha : i < acc.size := by rw [h.1]; exact hi
    have := h.2 i acc[i] (Array.getElem?_eq_getElem ha)
    rw [Array.getElem?_toList, Array.getElem?_eq_getElem ha, this]
  · have e : acc.toList.length = its.length := by rw [Array.length_toList, h.1]
    rw [List.getElem?_eq_none (l := its) (by omega), List.getElem?_eq_none (l := acc.toList) (by omega)]
theorem extend_iset {R : Result → Shared → Prop} {p S : Addr} {ks : List Int} {res : Value} {c₀ : Nat} (hh : A.handled = none) (hS : ISet prog w s.heap p ks) (hk : ks.length ≤ 1000) (hne : S ≠ p)
    (hl : s.heap.get? S = some { cls := .type "list", data := .seq #[] c₀ })
    (hR : ∀ h' d tk acc c, (∀ b o, b ≠ S → s.heap.get? b = some o → h'.get? b = some o) → h'.get? S = some { cls := .type "list", dict := none, data := .seq acc c, slots := #[] } → Met ks acc.toList → R (.ok (.ret res)) { s with heap := h', drawn := d, toks := tk }) :
    wpAny (model prog w) A.in1 (Builtin.List.listExtendWith (.ref S) (.ref p) res) (fun fin s' => match fin with | .done f => R (.ok f) s' | .again c' => c'.quiet = true ∧ codeAny (model prog w) A c' R s') (fun e s' => R (.error e) s') s := by
  unfold Builtin.List.listExtendWith
  refine wpAny_bind (wpAny_typeOf (T := "set") hS.ty ?_)
  have e1 : Builtin.List.listSameRef (.ref S) (.ref p) = false := by simp [Builtin.List.listSameRef, hne]
  have e2 : (Value.type "set" == Value.type "list") = false := by decide
  have e3 : (Value.type "set" == Value.type "tuple") = false := by decide
  simp only [e1, e2, e3, Bool.or_false, Bool.false_eq_true, if_false]
  refine wpAny_bind (iter_iset (A := A.in1) hh hS hk fun I fp St h1 d its ns W st keep hfp hI i1 i2 i3 i4 => ?_)
  have hSlt := Heap.lt_size hl
  have hSf : S ∉ fp := fun z => by
    rcases hfp S z with e | e
    · exact hne e
    · exact absurd hSlt (Nat.not_lt.mpr e)
  have hIS : I ≠ S := fun z => absurd hSlt (Nat.not_lt.mpr (by rw [← z]; exact hI))
  have g1 := keep _ _ hl
  have fin : ∀ (h : Heap) (c : Nat) (tk : Nat), St 0 h → (∀ b o, b ≠ S → s.heap.get? b = some o → h.get? b = some o) → h.get? S = some { cls := .type "list", data := .seq #[] c } →
      codeAny (model prog w) A (.builtin "list.extend.loop" ⟨[.ref S, .ref I, res], []⟩) R { s with heap := h, drawn := d, toks := tk } := fun h c tk st' k g => by
    refine codeAny_extend_loopS W.toS (Nat.le_trans (Nat.le_trans i4 hk) (by decide)) S hSf res its.length 0 _ #[] c rfl (Nat.zero_le _) st' g (ItemsOf.nil _) fun s' acc c' hm g' hacc => ?_
    have e := items_eq hacc
    have es : s' = { s with heap := s'.heap, drawn := d, toks := s'.toks } := by
      obtain ⟨a1, a2, a3, a4, a5⟩ := s'
      have b1 : a2 = s.gens := hm.gens
      have b2 : a3 = d := hm.drawn
      have b3 : a5 = s.os := hm.os
      subst b1 b2 b3
      rfl
    rw [es]
    refine hR s'.heap d s'.toks acc c' (fun b o hb q => hm.heap b o (fun z => ?_) (k b o hb q)) g' (by rw [e]; exact ⟨ns, i1, i2, i3, i4⟩)
    rcases List.mem_cons.mp z with z | z
    · exact hb z
    · exact absurd (Heap.lt_size q) (Nat.not_lt.mpr (by rw [List.mem_singleton.mp z]; exact hI))
  refine wpAny_bind (wpAny_holding (hint_set (s := { s with heap := h1, drawn := d }) (hS.keep (keep p)).ty ?_))
  refine wpAny_ite_split (fun _ => ?_) (fun _ => wpAny_pure ⟨plainId_quiet F.plain_extend_loop _, fin _ c₀ _ st (fun b o _ e => keep b o e) g1⟩)
  refine wpAny_bind (wpAny_rule (wpAny_bind ?_))
  show wpAny _ _ (updateSeq S (fun xs => xs.push .none) >>= fun _ => updateSeq S (fun xs => xs.pop)) _ _ _
  refine wpAny_bind (wpAny_updateSeq (s := { s with heap := h1, drawn := d }) g1 rfl ?_)
  have g2 := Heap.get?_update_self (Obj.mapSeq (fun xs => xs.push Value.none)) g1 rfl
  refine wpAny_updateSeq (s := { s with heap := h1.update S (Obj.mapSeq (fun xs => xs.push Value.none)), drawn := d }) (hz := by seq_fits) g2 rfl ?_
  have g3 := Heap.get?_update_self (Obj.mapSeq (fun xs => xs.pop)) g2 rfl
  refine wpAny_pure ⟨plainId_quiet F.plain_extend_loop _, fin _ _ _ (W.frame 0 _ _ st fun b hb o e => ?_) (fun b o hb e => ?_) g3⟩
  · have hb' : b ≠ S := fun z => hSf (z ▸ hb)
    exact (Heap.get?_update_other _ _ (Ne.symm hb')).trans ((Heap.get?_update_other _ _ (Ne.symm hb')).trans e)
  · exact (Heap.get?_update_other _ _ (Ne.symm hb)).trans ((Heap.get?_update_other _ _ (Ne.symm hb)).trans (keep b o e))
theorem collect_iset {R : List Value → Shared → Prop} {p : Addr} {ks : List Int} (hh : A.handled = none) (hS : ISet prog w s.heap p ks) (hk : ks.length ≤ 1000)
    (h : ∀ h' d tk its, (∀ b o, s.heap.get? b = some o → h'.get? b = some o) → Met ks its → R its { s with heap := h', drawn := d, toks := tk }) : wpAny (model prog w) A (collect (.ref p)) R E s := by
  have lt := hS.lt
  unfold collect
  refine wpAny_bind (wpAny_runValue (codeAny_builtin F.entry_proto_collect ?_))
  rw [Around.under_plainId F.plain_proto_collect _]
  show wpAny _ A.in1 (newList [] >>= fun l0 => again (.builtin "list.__iadd__" ⟨[l0, .ref p], []⟩)) _ _ s
  refine wpAny_bind (wpAny_newObj_type (wpAny_pure ⟨plainId_quiet F.plain_list_iadd _, codeAny_builtin F.entry_list_iadd ?_⟩))
  rw [Around.under_plainId F.plain_list_iadd _]
  have g0 : (s.heap.push { cls := .type "list", data := .seq ([] : List Value).toArray }).get? s.heap.objs.size = some { cls := .type "list", data := .seq #[] } := Heap.get?_push_size _ rfl
  have key := extend_iset (A := A) (s := { s with heap := s.heap.push { cls := .type "list", data := .seq ([] : List Value).toArray } }) (res := .ref s.heap.objs.size)
    (R := fun (q : Result) (s' : Shared) => ∃ (h' : Heap) (d : Drawn) (tk : Nat) (acc : Array Value) (c : Nat), q = .ok (.ret (.ref s.heap.objs.size)) ∧ s' = { s with heap := h', drawn := d, toks := tk } ∧ (∀ b o, s.heap.get? b = some o → h'.get? b = some o) ∧
      h'.get? s.heap.objs.size = some { cls := .type "list", dict := none, data := .seq acc c, slots := #[] } ∧ Met ks acc.toList) hh (hS.keep fun o e => Heap.get?_push_of_some _ e) hk (Nat.ne_of_gt lt) g0
    (fun h' d tk acc c k g m => ⟨h', d, tk, acc, c, rfl, rfl, fun b o e => k b o (Nat.ne_of_lt (Heap.lt_size e)) (Heap.get?_push_of_some _ e), g, m⟩)
  show wpAny _ A.in1 (Builtin.List.listExtendWith (.ref s.heap.objs.size) (.ref p) (.ref s.heap.objs.size)) _ _ _
  refine wpAny_mono key (fun fi s' x => ?_) fun e s' x => ?_
  · cases fi with
    | done f =>
      obtain ⟨h', d, tk, acc, c, e, rfl, k, g, m⟩ := x
      cases e
      exact wpAny_bind (m := load s.heap.objs.size) (wpAny_load g (wpAny_pure (h h' d tk _ k m)))
    | again c1 =>
      refine ⟨x.1, codeAny_mono x.2 fun q s2 y => ?_⟩
      obtain ⟨h', d, tk, acc, c, rfl, rfl, k, g, m⟩ := y
      exact wpAny_bind (m := load s.heap.objs.size) (wpAny_load g (wpAny_pure (h h' d tk _ k m)))
  · obtain ⟨_, _, _, _, _, e', _⟩ := x
    cases e'
end
end L2

set_option Elab.async false
set_option linter.all false
set_option maxRecDepth 100000
set_option maxHeartbeats 4000000
namespace L2
open PySem PySem.Spec PyProof.Rows
section
variable {prog : Program} {w : World} {A : Around} {E : Value → Shared → Prop} {s : Shared}
theorem IntsAre.len {vs : List Value} {ns : List Int} (h : IntsAre vs ns) : vs.length = ns.length := by
  induction h with
  | nil => rfl
  | cons n t _ ih => rw [List.length_cons, List.length_cons, ih]
theorem lt_of_le_nodup {zs : List Int} (h : zs.Pairwise (· ≤ ·)) (n : zs.Nodup) : zs.Pairwise (· < ·) :=
  (List.Pairwise.and h n).imp fun ⟨a, b⟩ => by omega
/- sorted of a set of ints -/
theorem sorted_iset {p : Addr} {ks : List Int} {Q : Value → Shared → Prop} (hh : A.handled = none) (hS : ISet prog w s.heap p ks) (hk : ks.length < 64)
    (h : ∀ (D : Addr) (h' : Heap) (d : Drawn) (tk : Nat) (out : Array Value) (e : Nat) (zs : List Int), (∀ b o, s.heap.get? b = some o → h'.get? b = some o) → s.heap.get? D = none → h'.get? D = some (seqObj "list" out e) → IntsAre out.toList zs → zs.Pairwise (· < ·) →
      (∀ k, k ∈ zs ↔ k ∈ ks) → zs.length ≤ ks.length → Q (.ref D) { s with heap := h', drawn := d, toks := tk }) : wpAny (model prog w) A (call (.builtin "sorted") [.ref p]) Q E s := by
  refine Calls.call_function_entry kind_sorted plain_sorted entry_sorted (args_sorted1 _) ?_
  unfold Builtin.«sorted»
  refine wpAny_bind (m := checkCount "sorted" 1 1 _) (wpAny_pure (wpAny_bind (collect_iset (A := A.in1) hh hS (by omega) fun h1 d tk its keep mt => ?_)))
  obtain ⟨ns, i1, i2, i3, i4⟩ := mt
  have hz : its.length ≤ sizeLine := Nat.le_trans (Nat.le_trans i4 (Nat.le_of_lt hk)) (by decide)
  refine wpAny_bind (wpAny_newList ?_ hz)
  have g : (h1.push (seqObj "list" its.toArray 0)).get? h1.objs.size = some (seqObj "list" its.toArray 0) := Heap.get?_push_size _ rfl
  have no : s.heap.get? h1.objs.size = none := by
    cases c : s.heap.get? h1.objs.size with
    | none => rfl
    | some o => exact absurd (Heap.lt_size (keep _ _ c)) (Nat.lt_irrefl _)
  refine wpAny_bind (wpAny_holding (wpAny_call_entry (s := { s with heap := h1.push (seqObj "list" its.toArray 0), drawn := d, toks := tk }) slot_list_sort ⟨_, g, rfl⟩ entry_list_sort (list_sort_tree g i1 (by omega) fun out ns' a1 a2 a3 => ⟨_, rfl, ?_⟩) (args_list_sort _)))
  obtain ⟨e, ge⟩ := sortedHeap_at (out := out) g
  have nz : ns'.Nodup := a2.nodup_iff.mpr i2
  refine wpAny_pure ⟨_, rfl, h h1.objs.size _ d tk out e ns' (fun b o q => ?_) no ge a1 (lt_of_le_nodup a3 nz) (fun k => (a2.mem_iff).trans (i3 k)) (by have := a2.length_eq; have := IntsAre.len i1; omega)⟩
  have lb := Heap.lt_size (keep b o q)
  exact (sortedHeap_old (Nat.ne_of_lt lb) (by rw [Heap.size_push]; exact Nat.lt_succ_of_lt lb)).trans (Heap.get?_push_of_some _ (keep b o q))
def freshS (w : World) : Obj := { cls := .type "set", dict := none, data := .set #[] 0 (.fresh 0 0 (!w.params.followText "set-order")) }
theorem iset_fresh {h : Heap} {a : Addr} (g : h.get? a = some (freshS w)) : ISet prog w h a [] :=
  ⟨_, #[], 0, _, g, ⟨rfl, rfl, rfl⟩, rfl, (fun e he => by cases he), rfl, ⟨rfl, fun _ => List.Pairwise.nil⟩, (fun z => by show (!w.params.followText "set-order") = true; rw [z]; rfl), List.Pairwise.nil, (fun k => by simp), Nat.zero_le _⟩
theorem set_new1 (x : Value) {Q : Value → Shared → Prop} (h : Q (.ref s.heap.objs.size) { s with heap := s.heap.push (freshS w) }) :
    codeAny (model prog w) A (.call (.builtin "set.__new__") ⟨[.type "set", x], []⟩) (wants Q E) s := by
  refine codeAny_of_tree (show wpAny _ A.in1 (do checkBuiltinCall "set.__new__" ⟨[.type "set", x], []⟩; again (.builtin "set.__new__" ⟨[.type "set", x], []⟩)) _ _ s from ?_)
  refine wpAny_bind (wpAny_of_eq (PySem.F.newCall_set_1 x) (wpAny_pure ⟨plainId_quiet PySem.F.plain_set_new _, codeAny_builtin PySem.F.entry_set_new ?_⟩))
  rw [Around.under_plainId PySem.F.plain_set_new _]; unfold Builtin.«set.__new__» Builtin.Frozenset.newClass
  have sb := sub_set_self
  obtain ⟨hp, g, d, tk, os⟩ := s
  dsimp only; wp_walk
  refine wpAny_askSetting (wpAny_pure ?_); dsimp only; simp only [newObj]
  exact wpAny_bind (wpAny_alloc (wpAny_pure (wpAny_pure h)))
theorem call_iset {l : Addr} {items : Array Value} {ns : List Int} {Q : Value → Shared → Prop} (hh : A.handled = none) (hl : s.heap.IsList l items) (hi : IntsAre items.toList ns) (hb : items.size + 1 < scanBound)
    (h : ∀ (h' : Heap) (tk : Nat), ISet prog w h' s.heap.objs.size ((List.range items.size).map fun i => ns.getD i 0) → (∀ b o, s.heap.get? b = some o → h'.get? b = some o) → Q (.ref s.heap.objs.size) { s with heap := h', toks := tk }) :
    wpAny (model prog w) A (call (.type "set") [.ref l]) Q E s := by
  obtain ⟨c, tl, mr⟩ := PySem.F.called_set.mro
  have md := PySem.F.called_set.made
  have sb := PySem.F.called_set.sub
  refine wpAny_call (codeAny_of_tree (show wpAny _ _ (callAny (.type "set") _) _ _ _ from wpAny_pure ⟨Code.quiet_builtin _ (by decide +kernel), codeAny_builtin PySem.F.entry_type_call ?_⟩))
  rw [Around.under_plain (weight_type_call_type "set" [.ref l] []) rfl]
  have k1 := PySem.F.called_set.notType
  have k2 := PySem.F.called_set.canCreate
  have k3 := PySem.F.typeCall_set_1 (.ref l)
  repeat (any_goals (first | assumption | wp_step))
  refine codeAny_mono (set_new1 (.ref l) (E := E) (Q := fun ob s1 => ob = .ref s.heap.objs.size ∧ s1 = { s with heap := s.heap.push (freshS w) }) ⟨rfl, rfl⟩) fun r s1 hr => ?_
  cases r with
  | error e => exact hr
  | ok fl =>
    cases fl with
    | ret ob =>
      obtain ⟨rfl, rfl⟩ := hr
      have g0 : (s.heap.push (freshS w)).get? s.heap.objs.size = some (freshS w) := Heap.get?_push_size _ rfl
      have hT : Shared.TypeIs { s with heap := s.heap.push (freshS w) } (.ref s.heap.objs.size) "set" := ⟨_, g0, rfl⟩
      have u1 := PySem.F.called_set.init.lookup
      have u2 := PySem.F.called_set.init.bind (.ref s.heap.objs.size)
      repeat (any_goals (first | assumption | wp_step))
      refine codeAny_mono (codeAny_call_builtin (R := wants (fun r s2 => r = .none ∧ ∃ h' tk, s2 = { s with heap := h', toks := tk } ∧ ISet prog w h' s.heap.objs.size ((List.range items.size).map fun i => ns.getD i 0) ∧ (∀ b o, s.heap.get? b = some o → h'.get? b = some o)) E)
        PySem.F.called_set.init.plain PySem.F.entry_set_init (check_set_init_1 hT ?_)) fun r2 s2 hr2 => ?_
      · obtain ⟨ol, hol, hcl, nl, hdl⟩ := id hl
        obtain ⟨oc, od, oda, os⟩ := ol
        simp only at hcl hdl
        subst hcl; subst hdl
        have v1 : (s.heap.push (freshS w)).get? l = some { cls := .type "list", dict := od, data := .seq items nl, slots := os } := Heap.get?_push_of_some _ hol
        have v2 := PySem.F.sub_list_set
        have v3 := PySem.F.sub_list_frozenset
        have v4 : (Value.type "list" == Value.type "dict") = false := by decide
        have hl1 : (s.heap.push (freshS w)).IsList l items := ⟨_, v1, rfl, nl, rfl⟩
        have fd : (freshS w).data = .set #[] 0 (.fresh 0 0 (!w.params.followText "set-order")) := rfl
        unfold Builtin.«set.__init__» noKeywords Builtin.Frozenset.updateFrom
        generalize hPI : pyIter = PI
        wp_walk
        subst hPI
        refine wpAny_pyIter_list hl1 (wpAny_bind (wpAny_runValue ?_))
        have lS : l < s.heap.objs.size := Heap.lt_size hol
        have h3 : A.in1.in1.in1.handled = none := by simp [hh]
        have nI : l ≠ (s.heap.push (freshS w)).objs.size := by rw [Heap.size_push]; exact Nat.ne_of_lt (Nat.lt_succ_of_lt lS)
        have nS : s.heap.objs.size ∉ [(s.heap.push (freshS w)).objs.size, l] := by
          rw [Heap.size_push]; intro z
          simp only [List.mem_cons, List.not_mem_nil, or_false] at z
          rcases z with z | z
          · exact absurd z (Nat.ne_of_lt (Nat.lt_succ_self _))
          · exact absurd z (Nat.ne_of_gt lS)
        refine iset_loop ((Walks.list h3 _ l nI items).toS) s.heap.objs.size nS (fun i => ns.getD i 0) (fun i v hv => IntsAre.int_at hi i v (by rw [Array.getElem?_toList]; exact hv)) hb (items.size - 0) 0 _ (by omega) (Nat.zero_le _)
          ⟨⟨_, Heap.get?_push_size _ rfl, rfl, rfl⟩, (hl1.push _)⟩ (iset_fresh (Heap.get?_push_of_some _ g0)) fun s' hm hS' => ?_
        obtain ⟨h', g', d', tk', os'⟩ := s'
        have eg : g' = s.gens := hm.gens
        have ed : d' = s.drawn := hm.drawn
        have eo : os' = s.os := hm.os
        subst eg ed eo
        refine wpAny_pure (wpAny_pure ⟨rfl, h', tk', rfl, hS', fun b o e => ?_⟩)
        have lb := Heap.lt_size e
        refine hm.heap b o (fun z => ?_) (Heap.get?_push_of_some _ (Heap.get?_push_of_some _ e))
        simp only [List.mem_cons, List.not_mem_nil, or_false] at z
        rcases z with z | z
        · exact absurd z (Nat.ne_of_lt lb)
        · rw [Heap.size_push] at z
          exact absurd z (Nat.ne_of_lt (Nat.lt_succ_of_lt lb))
      · cases r2 with
        | error e => exact hr2
        | ok f2 =>
          cases f2 with
          | ret r =>
            obtain ⟨rfl, h', tk, rfl, hS', hk'⟩ := hr2
            repeat (any_goals (first | assumption | wp_step))
            exact h _ _ hS' hk'
          | _ => exact hr2.elim
    | _ => exact hr.elim
end
end L2

set_option Elab.async false
set_option linter.all false
set_option maxRecDepth 100000
set_option maxHeartbeats 4000000
namespace L2
open PySem PySem.Spec PyProof.Rows
theorem Inv.drawnTo {X : Cx} {pins : List (Addr × Obj)} {σ : St} {H : Hp} {s : Shared} (I : Inv X pins σ H s) (d : Drawn) : Inv X pins σ H { s with drawn := d } := ⟨I.ok, I.os, I.bare, I.base, I.loc, I.cell, I.free, I.freeC, I.pin, I.hok, I.len⟩
/- a set of ints -/
def setO (P : Program) (w : World) (a : Addr) (ks : List Int) : HO := .ext fun h => ISet P w h a ks
theorem setO_ok {P : Program} {w : World} {H : Hp} {h : Heap} {a : Addr} {ks : List Int} (x : ISet P w h a ks) : ObjOk P w H h a (setO P w a ks) :=
  ⟨x, let ⟨o, _, _, _, ho, _⟩ := id x; ⟨o, ho⟩, fun h1 h2 y k => ISet.keep (h := h1) y k⟩
theorem ints_vals : ∀ {ns : List Int} {us : List Value}, Vals (ns.map V.int) us → IntsAre us ns
  | [], _, .nil => .nil
  | n :: r, _, .cons (b := u) h t => by
    obtain ⟨tk, rfl⟩ := h
    exact .cons n tk (ints_vals t)
theorem vals_of_ints : ∀ {ns : List Int} {us : List Value}, IntsAre us ns → Vals (ns.map V.int) us
  | _, _, .nil => .nil
  | _, _, .cons n t h => .cons ⟨t, rfl⟩ (vals_of_ints h)
theorem call_setI {X : Cx} (hc : X.calm = true) : CallR X (.type "set") (fun xs H Q => ∃ (p : Addr) (ns : List Int), xs = [.ref p] ∧ SqL X.K H p (ns.map V.int) ∧ ns.length ≤ 1000 ∧ ∀ l, H l = none → Q (.ref l) (upd H l (setO X.prog X.w l ns))) := by
  intro pins s σ H xs us Q I r h
  obtain ⟨p, ns, rfl, hq, hl, q⟩ := h
  obtain ⟨u, rfl, rx⟩ := vals1 r
  cases rx
  obtain ⟨its, r', pl, hz⟩ := I.list hq
  have ia : IntsAre its ns := ints_vals r'
  have ln : its.length = ns.length := IntsAre.len ia
  refine call_iset (I.ok.hd hc) pl.isList (by simpa using ia) (by rw [List.size_toArray, ln]; show _ < 4096; omega) fun h' tk hS keep => ?_
  have e : (List.range its.toArray.size).map (fun i => ns.getD i 0) = ns := by
    rw [List.size_toArray, ln]
    refine List.ext_getElem (by simp) fun i h1 h2 => ?_
    simp [List.getD_eq_getElem?_getD, h2]
  rw [e] at hS
  exact ⟨.ref _, _, I.laid (t' := tk) keep (Nat.le_refl _) (setO_ok hS), rfl, q _ (I.hok.fresh (Nat.le_refl _))⟩
theorem call_sortedI {X : Cx} (hc : X.calm = true) : CallR X (.builtin "sorted") (fun xs H Q => ∃ (p : Addr) (ks : List Int), xs = [.ref p] ∧ H p = some (setO X.prog X.w p ks) ∧ ks.length < 64 ∧
    ∀ (l : Addr) (zs : List Int), H l = none → zs.Pairwise (· < ·) → (∀ k, k ∈ zs ↔ k ∈ ks) → zs.length ≤ ks.length → Q (.ref l) (upd H l (.lst (zs.map V.int)))) := by
  intro pins s σ H xs us Q I r h
  obtain ⟨p, ks, rfl, hp, hl, q⟩ := h
  obtain ⟨u, rfl, rx⟩ := vals1 r
  cases rx
  have hS : ISet X.prog X.w s.heap p ks := (I.hok p _ hp).1
  refine sorted_iset (I.ok.hd hc) hS hl fun D h' d tk out e zs keep no g ia pw mem le => ?_
  have hz : (zs.map V.int).length ≤ sizeLine := by
    rw [List.length_map]
    exact Nat.le_trans (Nat.le_trans le (Nat.le_of_lt hl)) (by decide)
  have new : ObjOk X.prog X.w (upd H D (.lst (zs.map V.int))) h' D (.lst (zs.map V.int)) := ⟨hz, out.toList, e, vals_of_ints ia, by rw [Array.toArray_toList]; exact g⟩
  exact ⟨.ref D, _, (I.laidN (t' := tk) keep no new).drawnTo d, rfl, q D zs (I.hasNo no) pw mem le⟩
end L2

set_option Elab.async false
set_option linter.all false
set_option maxRecDepth 100000
set_option maxHeartbeats 4000000
namespace L2
open PySem PySem.Spec PyProof.Rows
/-! name = [.. for ..]: stored while the block's frame is still there -/
theorem ps_setc {X : Cx} {i0 : Nat} {x0 : Str} {pos' spos : Pos} {elt tg iter : Expr} {ifs : List Expr} {scope : Scope} {cl : List (Str × Addr)} {pos : Pos} {N : List Str} {fr : List (Option Nat)} {wi : TI} {g : TG} {tt : TT} {te : TE}
    (hN0 : X.N.Nodup) (hi0 : X.N[i0]? = some x0) (hx0 : Loc X.env.scope x0) (hc : X.calm = true) (hi : PI X tg iter wi) (hclos : closureFor scope X.env = pure cl) (hcell : ∀ y ∈ scope.names, y.2 ≠ .cell) (hkind : scope.kind = .function)
    (hnames : ∀ y ∈ scope.names, y.2 = .local → scope.names.lookup y.1 = some .local) (hfr : FreeOk X scope cl N fr) (hcl : ClOk X cl)
    (hhas : ((relabel scope X.env).names.all fun p => !(p.2 == .cell || p.2 == .free) || (cl.lookup p.1).isSome) = true)
    (hg : ∀ C s0 H0 ex pins, PG (compCx X N scope cl C s0 H0 ex pins) tg g) (ht : ∀ C s0 H0 ex pins, PTs (compCx X N scope cl C s0 H0 ex pins) ifs tt) (he : ∀ C s0 H0 ex pins, PE (compCx X N scope cl C s0 H0 ex pins) elt te)
    (hsw : swapsWith (.ListComp elt [⟨tg, iter, ifs, 0⟩] scope pos) (some (.Name x0 pos')) spos.line X.env = pure true := by rfl) (hf0 : X.fn x0 = true ∨ X.env.scope.names.lookup x0 = some .local := by first | exact .inl rfl | exact .inr rfl)
    (hs : ∀ v, foldedSetIterable iter X.env v = pure v := by intro _; rfl) : PS X (.Assign [.Name x0 pos'] (.ListComp elt [⟨tg, iter, ifs, 0⟩] scope pos) spos) (tAsg (tComp fr wi g tt te) (gName i0)) := by
  intro pins s σ H D0 I h
  rw [exec_Assign_Name_used _ _ _ _ hsw]
  refine wpAny_bind (wpAny_standAt (wpAny_bind ?_))
  show wpAny _ _ (do let _ ← comprehension (.ListComp elt [⟨tg, iter, ifs, 0⟩] scope pos) scope X.env _ (newList []) false (eval iter X.env) (some (assign (.Name x0 pos') X.env))) _ _ s
  refine wpAny_bind (thn (wpAny_comprehension_free (use := some (assign (.Name x0 pos') X.env)) (Q := fun _ s' => SP X pins D0 .next s') rfl hs hclos hkind hnames (thn (hi pins s σ H _ I h) fun xv s1 h1 => thn h1 fun itv s2 h2 => ?_)) fun _ s' hq => wpAny_pure (wpAny_pure hq))
  obtain ⟨it, fp, tn, J, H2, e, I2, T, st2, f2, W, ⟨m0, w0⟩, turn⟩ := h2
  subst e
  refine wpAny_newObj_type (wpAny_newFunctionEnv hcell (fun y hy => nomatch hy) (fun h4 hns hsb => ?_) hkind)
  dsimp only at hns hsb ⊢
  generalize hD : s2.heap.objs.size = D at *
  generalize hG : s2.heap.push { cls := .type "list", dict := none, data := .seq ([] : List Value).toArray } = G at hns hsb ⊢
  have hC : G.objs.size = D + 1 := by rw [← hG, Heap.size_push, hD]
  generalize hCC : G.objs.size = C at hns hsb hC ⊢
  subst hC
  have old : ∀ b o, s2.heap.get? b = some o → h4.get? b = some o := fun b o e => by
    have lt := Heap.lt_size e
    rw [hD] at lt
    exact hsb.extBut b o (Nat.ne_of_lt (Nat.lt_succ_of_lt lt)) (Heap.get?_push_of_some _ (hG ▸ Heap.get?_push_of_some _ e))
  have hDl : h4.get? D = some { cls := .type "list", dict := none, data := .seq ([] : List Value).toArray 0 } :=
    hsb.extBut _ _ (Nat.ne_of_lt (Nat.lt_succ_self _)) (Heap.get?_push_of_some _ (hG ▸ hD ▸ Heap.get?_push_size _ rfl))
  have flt : ∀ b ∈ fp, b < D := fun b hb => by
    obtain ⟨o, e, _⟩ := T.obj 0 _ st2 b hb
    have lt := Heap.lt_size e
    rw [hD] at lt
    exact lt
  have nst : ∀ b, b ≠ X.env.locals → b ∉ X.fs → b ∉ frs X.stack := fun b h1 h2 z => (List.mem_cons.mp (I2.stkSub b z)).elim h1 h2
  have pl : ∀ p ∈ X.pn ++ pins, p.1 < D := fun p hp => by
    have lt := Heap.lt_size (I2.pin p hp).1
    rw [hD] at lt
    exact lt
  have I4 : ∀ tk, Inv (compCx X N scope cl (D + 1) s2 H2 fp pins) [] (compSt fr σ) H2 { s2 with heap := h4, toks := tk } := fun tk =>
    I2.block hkind hfr hcl hhas f2 (fun b hb => by rw [hD]; exact flt b hb) old (by rw [hD]; exact Nat.le_succ _) hns
  have stat : ∀ {H' : Hp} {o : Obj}, (∀ b ∈ fp, H' b = none) → ∀ b ∈ fp, FpOk (compCx X N scope cl (D + 1) s2 H2 fp pins) [(D, o)] H' b := fun {H' o} hn b hb => by
    obtain ⟨_, k1, k2, _, k4, k5⟩ := f2 b hb
    refine ⟨hn b hb, Nat.ne_of_lt (Nat.lt_succ_of_lt (flt b hb)), nst b k1 k2, .inl hb, fun x c e => k4 x c (hcl.at e), fun p hp => ?_⟩
    rcases List.mem_append.mp hp with hp | hp
    · exact k5 p hp
    · rw [List.mem_singleton.mp hp]
      exact (Nat.ne_of_lt (flt b hb)).symm
  have dnf : D ∉ frs X.stack := fun z => by
    obtain ⟨_, o, e, _⟩ := I2.stack.mem z
    have lt := Heap.lt_size e
    rw [hD] at lt
    exact absurd lt (Nat.lt_irrefl _)
  have loop : ∀ tk, codeAny (model X.prog X.w) X.A (.compLoop (.ListComp elt [⟨tg, iter, ifs, 0⟩] scope pos) 0 (.ref it) (.ref D) (compEnvC scope cl (D + 1) X.env)) (compPost (model X.prog X.w) X.A X.xe (some (assign (.Name x0 pos') X.env)) (fun _ s' => SP X pins D0 .next s') (.ref D) (D + 1)) { s2 with heap := h4, toks := tk } := fun tk => by
    refine comp_turns (fun k s' => ∃ i σ' H' its nD acc, Inv (compCx X N scope cl (D + 1) s2 H2 fp pins) [] σ' H' s' ∧
        s'.heap.get? D = some { cls := .type "list", dict := none, data := .seq (List.toArray its) nD } ∧ H' D = none ∧ Vals acc its ∧ acc.length ≤ sizeLine ∧ tn i s'.heap ∧ (∀ b ∈ fp, H' b = none) ∧ W i k acc σ' H') ?_ m0
      ⟨0, _, H2, [], 0, [], I4 tk, hDl, I2.hok.fresh (by rw [hD]; exact Nat.le_refl _), .nil, Nat.zero_le _, T.keep 0 _ _ st2 fun b _ o e => old b o e, fun b hb => (f2 b hb).1, w0⟩
    rintro k s5 ⟨i, σ5, H5, its, nD, acc, I5, hL, hn5, va, hacc, st5, fr5, w5⟩
    have dcell : ∀ x c, cl.lookup x = some c → c ≠ D := fun x c e z => by
      obtain ⟨v, q⟩ := I2.cell x c (hcl.at e)
      have lt := q.lt
      rw [hD, z] at lt
      exact absurd lt (Nat.lt_irrefl _)
    have I5' : Inv (compCx X N scope cl (D + 1) s2 H2 fp pins) [(D, { cls := .type "list", dict := none, data := .seq (List.toArray its) nD })] σ5 H5 s5 := I5.pins_of fun p hp => by
      rw [List.mem_singleton.mp hp]
      exact ⟨hL, hn5, Nat.ne_of_lt (Nat.lt_succ_self _), dnf, fun v z => by cases z⟩
    rcases turn i k acc σ5 H5 w5 with ⟨stop, qn⟩ | ⟨go, hlt, N1, hN1, step⟩
    · refine thnF (T.done (compCx X N scope cl (D + 1) s2 H2 fp pins) rfl rfl rfl hc i _ s5 _ H5 _ I5' (stat fr5) st5 stop) fun r s6 ⟨hr, I6⟩ => ?_
      subst hr
      obtain ⟨m6, hn6, _⟩ := I6.loc
      have hL6 := (I6.pin (D, { cls := .type "list", dict := none, data := .seq (List.toArray its) nD }) (List.mem_append_right _ (List.mem_singleton.mpr rfl))).1
      have I8 : Inv X pins σ H5 s6 := I2.call' (s' := s6) I6.os I6.base I6.hok I6.bare fun b hb => let ⟨_, k1, _, k3, k4, k5⟩ := f2 b hb; ⟨k3, k1, k4, k5⟩
      have I9 : Inv X pins σ (upd H5 D (.lst acc)) s6 := I8.trackS hn5 hL6 rfl (by
          cases z : X.s₀.heap.get? D with
          | none => rfl
          | some o =>
            have lt := Nat.lt_of_lt_of_le (Heap.lt_size z) I2.sz
            rw [hD] at lt
            exact absurd lt (Nat.lt_irrefl _)) (fun p hp => Nat.ne_of_lt (pl p hp)) ⟨hacc, its, nD, va, hL6⟩
      have ltL : X.env.locals < D + 1 := by
        have := I2.lt
        rw [hD] at this
        exact Nat.lt_succ_of_lt this
      have ltC : ∀ x c, X.env.cells.lookup x = some c → c < D + 1 := fun x c e => by
        obtain ⟨v, q⟩ := I2.cell x c e
        have lt := q.lt
        rw [hD] at lt
        exact Nat.lt_succ_of_lt lt
      refine wpAny_assign_Name (store_ok2 (v := .ref D) I9 hN0 hi0 hx0 rfl (fun s7 I10 hz => ?_) hf0)
      obtain ⟨aa, sb, ha⟩ := hz
      have nC : D + 1 ≠ aa := by
        rcases ha with rfl | ha
        · exact Nat.ne_of_gt ltL
        · exact Nat.ne_of_gt (ltC _ _ ha)
      refine ⟨m6, hn6.sameBut sb nC, fun h8 hs8 => ⟨_, _, I10.turned (h' := h8) (t' := s7.toks) (fun b o hb e => hs8.extBut b o hb e) ?_ (Nat.ne_of_gt ltL) (.inr ?_) (fun x c e => Nat.ne_of_lt (ltC x c e)) (fun p hp => Nat.ne_of_lt (Nat.lt_succ_of_lt (pl p hp))), qn D hn5⟩⟩
      · rw [upd_ne (Nat.ne_of_gt (Nat.lt_succ_self D))]
        exact I6.free
      · have := I2.sz
        rw [hD] at this
        exact Nat.le_succ_of_le this
    · refine thnF (T.item (compCx X N scope cl (D + 1) s2 H2 fp pins) rfl rfl rfl hc i _ s5 _ H5 _ I5' (stat fr5) st5 go) fun r s6 ⟨u, hr, h6⟩ => ?_
      subst hr
      refine thnF h6 fun _ s7 ⟨x, H7, I7, r7, y7, st7, fr7⟩ => ?_
      have I7' : Inv (compCx X N scope cl (D + 1) s2 H2 fp pins) ([(D, { cls := .type "list", dict := none, data := .seq (List.toArray its) nD })] ++ pinsAt fp s7.heap) σ5 H7 s7 := I7.pinned (stat fr7) (T.obj _ _ st7)
      refine thnF (hg _ _ _ _ _ _ s7 _ H7 x u _ I7' r7 (step x H7 y7)) fun _ s8 ⟨σ8, H8, I8, q8⟩ => ?_
      refine thnF (ht _ _ _ _ _ _ s8 σ8 H8 _ I8 q8) fun ok s9 ⟨H9, I9, q9⟩ => ?_
      have wk : ∀ {σ' : St} {H' : Hp} {s' : Shared}, Inv (compCx X N scope cl (D + 1) s2 H2 fp pins) ([(D, { cls := .type "list", dict := none, data := .seq (List.toArray its) nD })] ++ pinsAt fp s7.heap) σ' H' s' →
          tn (i + 1) s'.heap ∧ (∀ b ∈ fp, H' b = none) ∧ s'.heap.get? D = some { cls := .type "list", dict := none, data := .seq (List.toArray its) nD } ∧ H' D = none := fun {σ' H' s'} J' => by
        have pin : ∀ p ∈ ([(D, { cls := .type "list", dict := none, data := .seq (List.toArray its) nD })] : List (Addr × Obj)) ++ pinsAt fp s7.heap, s'.heap.get? p.1 = some p.2 ∧ H' p.1 = none := fun p hp => let ⟨e, n, _⟩ := J'.pin p (List.mem_append_right _ hp); ⟨e, n⟩
        refine ⟨T.keep _ _ _ st7 fun b hb o e => (pin (b, o) (List.mem_append_right _ (mem_pinsAt hb e))).1, fun b hb => ?_, (pin (D, _) (List.mem_append_left _ (List.mem_singleton.mpr rfl))).1, (pin (D, _) (List.mem_append_left _ (List.mem_singleton.mpr rfl))).2⟩
        obtain ⟨o, e, _⟩ := T.obj _ _ st7 b hb
        exact (pin (b, o) (List.mem_append_right _ (mem_pinsAt hb e))).2
      cases ok with
      | false =>
        obtain ⟨m', hm, w9⟩ := hN1 _ _ _ q9
        obtain ⟨k1, k2, k3, k4⟩ := wk I9
        exact ⟨m', hm, i + 1, σ8, H9, its, nD, acc, I9.pins_of (fun _ z => nomatch z), k3, k4, va, hacc, k1, k2, w9⟩
      | true =>
        refine thnF (he _ _ _ _ _ _ s9 σ8 H9 _ I9 q9) fun y s10 ⟨v, H10, I10, r10, q10⟩ => ?_
        obtain ⟨m', hm, w10⟩ := hN1 _ _ _ q10
        obtain ⟨k1, k2, k3, k4⟩ := wk I10
        refine call_meets F.slot_list_append ⟨_, k3, rfl⟩ F.entry_list_append (F.args_list_append_2 _ _) (PySem.list_append D its.toArray nD y (by rw [List.size_toArray, ← va.length]; omega)) ⟨k3, ?_⟩
        have up : ∀ b o, b ≠ D → s10.heap.get? b = some o → (s10.heap.update D (Obj.mapSeq fun z => z.push y)).get? b = some o := fun b o hb e => (Heap.get?_update_other s10.heap _ (Ne.symm hb)).trans e
        have I11 : Inv (compCx X N scope cl (D + 1) s2 H2 fp pins) [] σ8 H10 { s10 with heap := s10.heap.update D (Obj.mapSeq fun z => z.push y), toks := s10.toks } :=
          (I10.pins_of (pins' := []) fun _ z => nomatch z).turned up k4 (Nat.ne_of_lt (Nat.lt_succ_self _)) (.inr (by rw [hD]; exact Nat.le_refl _)) dcell fun p hp => by
            have hp' : p ∈ X.pn ++ pins := by simpa using hp
            exact Nat.ne_of_lt (pl p hp')
        have q := PySem.IsL.update k3 (fun z => z.push y)
        rw [show (List.toArray its).push y = (its ++ [y]).toArray by simp] at q
        refine ⟨m', hm, i + 1, σ8, H10, its ++ [y], _, acc ++ [v], I11, q, k4, va.append (.cons r10 .nil), ?_, T.keep _ _ _ k1 fun b hb o e => up b o (Nat.ne_of_lt (flt b hb)) e, k2, w10⟩
        rw [List.length_append, List.length_singleton]
        omega
  exact codeAny_compStart_list (loop _) (T.self _ 0 _ _ _ (T.keep 0 _ _ st2 fun b _ o e => old b o e) (loop _))
end L2

set_option Elab.async false
set_option linter.all false
set_option maxRecDepth 100000
set_option maxHeartbeats 4000000
namespace K1
open PySem L2
/-! RULES OF DAYS: which are good; what is new behind a call; trees of a law -/
/- 1 to 12 rising numbers from lo to hi -/
structure Rsg (l : List Nat) (lo hi : Nat) : Prop where
  one : 1 ≤ l.length
  few : l.length ≤ 12
  up : l.Pairwise (· < ·)
  all : ∀ x ∈ l, lo ≤ x ∧ x ≤ hi
def RT.good : RT → Prop
  | .always => True
  | .week b => b ≤ 127
  | .span a b r => a ≤ b ∧ b ≤ 9999 ∧ r.good
  | .each n ss => 1 ≤ n ∧ n ≤ 28 ∧ Rsg ss 0 (n - 1)
  | .either r s | .both r s => r.good ∧ s.good
  | .but ds r => Rsg ds 0 9999 ∧ r.good
structure OwnC (K : PySem.W.Frag) (C : Addr) : Prop where
  ha : PySem.W.findIn K (.ref C) "__class__" = some (some (.builtin "object.__class__"))
  hn : PySem.W.specialIn K (.builtin "object.__class__") "__get__" = some (some (.builtin "getset_descriptor.__get__"))
  tk : PySem.W.takesIn K (.builtin "object.__class__") = some true
  hm : PySem.W.mroIn K C (.type "object") = some true
theorem OwnC.ty {K : PySem.W.Frag} {C : Addr} (o : OwnC K C) (c : Cls K C) {H : Hp} {a dx : Addr} {fs : List (Str × V)} (e : H a = some (.ins C dx fs)) : TyOf K H (.ref a) (.ref C) := .ins e c o.ha o.hn o.tk o.hm
/- what is new in H' -/
def dif (H' H : Hp) : Hp := fun a => match H a with
  | none => H' a
  | some _ => none
theorem dif_at {H' H : Hp} {a : Addr} {o : HO} (n : H a = none) (e : H' a = some o) : dif H' H a = some o := by
  unfold dif; rw [n]; exact e
theorem dif_of {H' H : Hp} {a : Addr} {o : HO} (e : dif H' H a = some o) : H a = none ∧ H' a = some o := by
  unfold dif at e
  cases h : H a with
  | none => rw [h] at e; exact ⟨rfl, e⟩
  | some u => rw [h] at e; cases e
theorem dif_sub (H' H : Hp) : Same (dif H' H) H' := fun _ _ e => (dif_of e).2
theorem dif_mono {H0 H H' H2 : Hp} (s0 : Same H0 H) (s1 : ∀ a o, H a = none → H' a = some o → H2 a = some o) : Same (dif H' H) (dif H2 H0) := fun a o e =>
  dif_at (s0.free (dif_of e).1) (s1 a o (dif_of e).1 (dif_of e).2)
theorem same_upd {H0 H : Hp} {x : Addr} (n : H0 x = none) (s : Same H0 H) (o : HO) : Same H0 (upd H x o) := fun b u e => by
  rw [upd_ne (ne_of_none e n)]; exact s _ _ e
theorem num_ok {b : Nat} {lo hi : Int} (h1 : lo ≤ b) (h2 : (b : Int) ≤ hi) : numV (.int (b : Nat)) lo hi = true := decide_eq_true ⟨h1, h2⟩
/- a tree of a law shows the rule r; its lists lie beside the tape -/
inductive TAtr (tp : Addr) (H : Hp) : V → RT → Prop
  | always {a : Addr} (h : H a = some (.tup [.str (Str.ofString "always")])) : TAtr tp H (.ref a) .always
  | week {a : Addr} {b : Nat} (h : H a = some (.tup [.str (Str.ofString "week"), .int (b : Nat)])) : TAtr tp H (.ref a) (.week b)
  | span {a : Addr} {x y : Nat} {v : V} {r : RT} (h : H a = some (.tup [.str (Str.ofString "span"), .int (x : Nat), .int (y : Nat), v])) (hv : TAtr tp H v r) : TAtr tp H (.ref a) (.span x y r)
  | each {a l : Addr} {n : Nat} {ss : List Nat} (h : H a = some (.tup [.str (Str.ofString "each"), .int (n : Nat), .ref l])) (hl : H l = some (.lst (natV ss))) (ne : l ≠ tp) : TAtr tp H (.ref a) (.each n ss)
  | either {a : Addr} {v u : V} {r s : RT} (h : H a = some (.tup [.str (Str.ofString "either"), v, u])) (hv : TAtr tp H v r) (hu : TAtr tp H u s) : TAtr tp H (.ref a) (.either r s)
  | both {a : Addr} {v u : V} {r s : RT} (h : H a = some (.tup [.str (Str.ofString "both"), v, u])) (hv : TAtr tp H v r) (hu : TAtr tp H u s) : TAtr tp H (.ref a) (.both r s)
  | but {a l : Addr} {ds : List Nat} {v : V} {r : RT} (h : H a = some (.tup [.str (Str.ofString "but"), .ref l, v])) (hl : H l = some (.lst (natV ds))) (ne : l ≠ tp) (hv : TAtr tp H v r) : TAtr tp H (.ref a) (.but ds r)
/- kept but for the tape (and tuples are kept) -/
theorem TAtr.keep {tp : Addr} {H H' : Hp} (k : ∀ b o, b ≠ tp → H b = some o → H' b = some o) (nt : ∀ xs, H tp ≠ some (.tup xs)) {v : V} {r : RT} (h : TAtr tp H v r) : TAtr tp H' v r := by
  have q : ∀ {a xs}, H a = some (.tup xs) → H' a = some (.tup xs) := fun {a xs} e => k _ _ (fun z => by rw [z] at e; exact nt _ e) e
  induction h with
  | always h => exact .always (q h)
  | week h => exact .week (q h)
  | span h _ ih => exact .span (q h) ih
  | each h hl ne => exact .each (q h) (k _ _ ne hl) ne
  | either h _ _ i1 i2 => exact .either (q h) i1 i2
  | both h _ _ i1 i2 => exact .both (q h) i1 i2
  | but h hl ne _ ih => exact .but (q h) (k _ _ ne hl) ne ih
theorem TAtr.same {tp : Addr} {H H' : Hp} (s : Same H H') {v : V} {r : RT} (h : TAtr tp H v r) : TAtr tp H' v r := by
  induction h with
  | always h => exact .always (s _ _ h)
  | week h => exact .week (s _ _ h)
  | span h _ ih => exact .span (s _ _ h) ih
  | each h hl ne => exact .each (s _ _ h) (s _ _ hl) ne
  | either h _ _ i1 i2 => exact .either (s _ _ h) i1 i2
  | both h _ _ i1 i2 => exact .both (s _ _ h) i1 i2
  | but h hl ne _ ih => exact .but (s _ _ h) (s _ _ hl) ne ih
theorem tape_tup {H : Hp} {tp : Addr} {ys : List V} (h : H tp = some (.lst ys)) (xs : List V) : H tp ≠ some (.tup xs) := fun e => by rw [h] at e; cases e
theorem TAtr.bump {tp : Addr} {k : Int} {ys : List V} {H H' : Hp} (ht : H tp = some (.lst ys)) (b : Bump tp k H H') {v : V} {r : RT} (h : TAtr tp H v r) : TAtr tp H' v r := h.keep b.keep (tape_tup ht)
/- an object of the program stays where the tape moves -/
theorem RAt.bump {c : RC} {K : PySem.W.Frag} {tp : Addr} {k : Int} {ys : List V} {H H' : Hp} (ht : H tp = some (.lst ys)) (b : Bump tp k H H') {a : Addr} {r : RT} (h : RAt c K H a r) : RAt c K H' a r := by
  have q : ∀ {x C dx fs}, H x = some (.ins C dx fs) → H' x = some (.ins C dx fs) := fun {x C dx fs} e => b.keep _ _ (fun z => by rw [z, ht] at e; cases e) e
  have qt : ∀ {p xs}, SqT K H p xs → SqT K H' p xs := fun {p xs} e => e.imp (fun r => r.imp (fun e => b.keep _ _ (fun z => by rw [z, ht] at e; cases e) e) (fun ⟨o, e⟩ => ⟨o, b.keep _ _ (fun z => by rw [z, ht] at e; cases e) e⟩)) id
  induction h with
  | always h => exact .always (q h)
  | week h hb => exact .week (q h) hb
  | span h hx hy _ ih => exact .span (q h) hx hy ih
  | each h hn hn2 hp => exact .each (q h) hn hn2 (qt hp)
  | either h _ _ i1 i2 => exact .either (q h) i1 i2
  | both h _ _ i1 i2 => exact .both (q h) i1 i2
  | but h hp _ ih => exact .but (q h) (qt hp) ih
end K1
namespace L2
open PySem PySem.Spec PyProof.Rows
theorem passE0 {X : Cx} : Passes (CXO X.prog X.w) X E0 := fun _ _ _ _ _ _ _ h => by
  obtain ⟨_, _, _, _, _, _, _, _, _, z⟩ := h
  exact z.elim
theorem ps_nox {X : Cx} {st : Stmt} {t : TS} (h : PS X.nox st t) : PS X st t := fun pins s σ H D I q =>
  wpAny_mono (h pins s σ H D (I.wish _) q) (fun _ _ z => z.unwish) fun _ _ z => False.elim z
end L2
namespace K1
open PySem L2
/- the first place at which f is true -/
def Fst (f : Nat → Bool) (lo n : Nat) : Option Nat → Prop
  | none => ∀ j, j < n → f (lo + j) = false
  | some x => ∃ i, i < n ∧ x = lo + i ∧ f (lo + i) = true ∧ ∀ j, j < i → f (lo + j) = false
theorem Fst.one {f g : Nat → Bool} {lo n m : Nat} {x y : Option Nat} (h : Fst f lo n x) (h' : Fst g lo m y) (fg : ∀ j, j < n → j < m → f (lo + j) = g (lo + j)) (fn : ∀ j, m ≤ j → j < n → f (lo + j) = false) (gm : ∀ j, n ≤ j → j < m → g (lo + j) = false) : x = y := by
  cases x with
  | none =>
    cases y with
    | none => rfl
    | some y =>
      obtain ⟨i, hi, rfl, hy, _⟩ := h'
      by_cases c : i < n
      · have := h i c
        rw [fg i c hi, hy] at this
        cases this
      · rw [gm i (by omega) hi] at hy
        cases hy
  | some x =>
    obtain ⟨i, hi, rfl, hx, hb⟩ := h
    have im : i < m := by
      by_cases c : i < m
      · exact c
      · rw [fn i (by omega) hi] at hx
        cases hx
    rw [fg i hi im] at hx
    cases y with
    | none =>
      rw [h' i im] at hx
      cases hx
    | some y =>
      obtain ⟨j, hj, rfl, hy, hc⟩ := h'
      have e : i = j := by
        rcases Nat.lt_trichotomy i j with c | c | c
        · rw [hc i c] at hx; cases hx
        · exact c
        · have jn : j < n := by omega
          rw [← fg j jn hj, hb j c] at hy
          cases hy
      rw [e]
end K1

set_option Elab.async false
set_option linter.all false
set_option maxRecDepth 100000
set_option maxHeartbeats 4000000
namespace K05
open PySem L2 K1
seal PySem.wpAny
def top (i : Nat) : Stmt := PySem.Challenge.pw_roadbook_k05_next_days.main.body.getD i (.Pass ⟨0, 0, 0, 0⟩)
abbrev s_is_any_number : Stmt := top 15
theorem sc_is_any_number : FnScope ["value"] ["value"] (defScope s_is_any_number) := ⟨rfl, rfl, rfl, by decide +kernel, rfl, by decide +kernel, by decide +kernel⟩
abbrev s_is_number : Stmt := top 16
theorem sc_is_number : FnScope ["value", "least", "most"] ["value", "least", "most"] (defScope s_is_number) := ⟨rfl, rfl, rfl, by decide +kernel, rfl, by decide +kernel, by decide +kernel⟩
abbrev s_are_rising : Stmt := top 17
theorem sc_are_rising : FnScope ["values", "longest", "least", "most", "floor", "value"] ["values", "longest", "least", "most"] (defScope s_are_rising) := ⟨rfl, rfl, rfl, by decide +kernel, rfl, by decide +kernel, by decide +kernel⟩
abbrev s_copy_of : Stmt := top 27
theorem sc_copy_of : FnScope ["rule"] ["rule"] (defScope s_copy_of) := ⟨rfl, rfl, rfl, by decide +kernel, rfl, by decide +kernel, by decide +kernel⟩
abbrev s_check_size : Stmt := top 28
theorem sc_check_size : FnScope ["rule"] ["rule"] (defScope s_check_size) := ⟨rfl, rfl, rfl, by decide +kernel, rfl, by decide +kernel, by decide +kernel⟩
abbrev s_list_text : Stmt := top 29
abbrev s_next_day : Stmt := top 37
theorem sc_next_day : FnScope ["rule", "day", "most", "later"] ["rule", "day", "most"] (defScope s_next_day) := ⟨rfl, rfl, rfl, by decide +kernel, rfl, by decide +kernel, by decide +kernel⟩
abbrev s_law_cell : Stmt := top 39
theorem sc_law_cell : FnScope ["_law_script", "_law_k"] ["_law_script", "_law_k"] (defScope s_law_cell) := ⟨rfl, rfl, rfl, by decide +kernel, rfl, by decide +kernel, by decide +kernel⟩
abbrev s_law_draw : Stmt := top 40
theorem sc_law_draw : FnScope ["_law_script", "_law_tape", "_law_many", "_law_number"] ["_law_script", "_law_tape", "_law_many"] (defScope s_law_draw) := ⟨rfl, rfl, rfl, by decide +kernel, rfl, by decide +kernel, by decide +kernel⟩
abbrev s_law_whole : Stmt := top 41
theorem sc_law_whole : FnScope ["_law_found"] ["_law_found"] (defScope s_law_whole) := ⟨rfl, rfl, rfl, by decide +kernel, rfl, by decide +kernel, by decide +kernel⟩
abbrev s_law_rising : Stmt := top 42
theorem sc_law_rising : FnScope ["_law_script", "_law_tape", "_law_least", "_law_most", "_law_many", "_law_found"] ["_law_script", "_law_tape", "_law_least", "_law_most"] (defScope s_law_rising) := ⟨rfl, rfl, rfl, by decide +kernel, rfl, by decide +kernel, by decide +kernel⟩
abbrev s_law_leaf : Stmt := top 43
theorem sc_law_leaf : FnScope ["_law_script", "_law_tape", "_law_kind", "_law_length"] ["_law_script", "_law_tape"] (defScope s_law_leaf) := ⟨rfl, rfl, rfl, by decide +kernel, rfl, by decide +kernel, by decide +kernel⟩
abbrev s_law_tree : Stmt := top 44
theorem sc_law_tree : FnScope ["_law_script", "_law_tape", "_law_room", "_law_deep", "_law_kind", "_law_first", "_law_one", "_law_within"] ["_law_script", "_law_tape", "_law_room", "_law_deep"] (defScope s_law_tree) := ⟨rfl, rfl, rfl, by decide +kernel, rfl, by decide +kernel, by decide +kernel⟩
abbrev s_law_made : Stmt := top 45
theorem sc_law_made : FnScope ["_law_tree_here"] ["_law_tree_here"] (defScope s_law_made) := ⟨rfl, rfl, rfl, by decide +kernel, rfl, by decide +kernel, by decide +kernel⟩
abbrev s_law_runs : Stmt := top 46
theorem sc_law_runs : FnScope ["_law_tree_here", "_law_day", "_law_rest", "_law_k"] ["_law_tree_here", "_law_day"] (defScope s_law_runs) := ⟨rfl, rfl, rfl, by decide +kernel, rfl, by decide +kernel, by decide +kernel⟩
abbrev s_law_class : Stmt := top 47
theorem sc_law_class : FnScope ["_law_error", "_law_words", "_law_found"] ["_law_error"] (defScope s_law_class) := ⟨rfl, rfl, rfl, by decide +kernel, rfl, by decide +kernel, by decide +kernel⟩
abbrev s_law_due : Stmt := top 48
theorem sc_law_due : FnScope ["_law_tree_here", "_law_day", "_law_most", "_law_later"] ["_law_tree_here", "_law_day", "_law_most"] (defScope s_law_due) := ⟨rfl, rfl, rfl, by decide +kernel, rfl, by decide +kernel, by decide +kernel⟩
abbrev s_law_told : Stmt := top 49
theorem sc_law_told : FnScope ["_law_rule", "_law_day", "_law_most", "_law_caught", "_law_error"] ["_law_rule", "_law_day", "_law_most"] (defScope s_law_told) := ⟨rfl, rfl, rfl, by decide +kernel, rfl, by decide +kernel, by decide +kernel⟩
abbrev s_law_same : Stmt := top 50
theorem sc_law_same : FnScope ["_law_found", "_law_due_here"] ["_law_found", "_law_due_here"] (defScope s_law_same) := ⟨rfl, rfl, rfl, by decide +kernel, rfl, by decide +kernel, by decide +kernel⟩
abbrev s_law : Stmt := top 51
theorem sc_law : FnScope ["_law_script", "_law_tape", "_law_tree_here", "_law_rule", "_law_k", "_law_days", "_law_day", "_law_most", "_law_far", "_law_never", "_law_some", "_law_number", "_law_odd", "_law_no_rule", "_law_told_here"] ["_law_script"] (defScope s_law) := ⟨rfl, rfl, rfl, by decide +kernel, rfl, by decide +kernel, by decide +kernel⟩
abbrev s_Rule_copied : Stmt := inClass (top 30) 0
theorem sc_Rule_copied : FnScope ["self"] ["self"] (defScope s_Rule_copied) := ⟨rfl, rfl, rfl, by decide +kernel, rfl, by decide +kernel, by decide +kernel⟩
abbrev s_Rule_parts : Stmt := inClass (top 30) 1
theorem sc_Rule_parts : FnScope ["self"] ["self"] (defScope s_Rule_parts) := ⟨rfl, rfl, rfl, by decide +kernel, rfl, by decide +kernel, by decide +kernel⟩
abbrev s_Rule_runs : Stmt := inClass (top 30) 2
theorem sc_Rule_runs : FnScope ["self", "day"] ["self", "day"] (defScope s_Rule_runs) := ⟨rfl, rfl, rfl, by decide +kernel, rfl, by decide +kernel, by decide +kernel⟩
abbrev s_Rule_words : Stmt := inClass (top 30) 3
abbrev s_Rule_weight : Stmt := inClass (top 30) 4
theorem sc_Rule_weight : FnScope ["self"] ["self"] (defScope s_Rule_weight) := ⟨rfl, rfl, rfl, by decide +kernel, rfl, by decide +kernel, by decide +kernel⟩
abbrev s_Rule_depth : Stmt := inClass (top 30) 5
theorem sc_Rule_depth : FnScope ["self"] ["self"] (defScope s_Rule_depth) := ⟨rfl, rfl, rfl, by decide +kernel, rfl, by decide +kernel, by decide +kernel⟩
abbrev s_Week_init : Stmt := inClass (top 31) 0
theorem sc_Week_init : FnScope ["self", "bits"] ["self", "bits"] (defScope s_Week_init) := ⟨rfl, rfl, rfl, by decide +kernel, rfl, by decide +kernel, by decide +kernel⟩
abbrev s_Week_copied : Stmt := inClass (top 31) 1
theorem sc_Week_copied : FnScope ["self"] ["self"] (defScope s_Week_copied) := ⟨rfl, rfl, rfl, by decide +kernel, rfl, by decide +kernel, by decide +kernel⟩
abbrev s_Week_runs : Stmt := inClass (top 31) 2
theorem sc_Week_runs : FnScope ["self", "day"] ["self", "day"] (defScope s_Week_runs) := ⟨rfl, rfl, rfl, by decide +kernel, rfl, by decide +kernel, by decide +kernel⟩
abbrev s_Week_words : Stmt := inClass (top 31) 3
abbrev s_Span_init : Stmt := inClass (top 32) 0
theorem sc_Span_init : FnScope ["self", "first", "last", "rule"] ["self", "first", "last", "rule"] (defScope s_Span_init) := ⟨rfl, rfl, rfl, by decide +kernel, rfl, by decide +kernel, by decide +kernel⟩
abbrev s_Span_copied : Stmt := inClass (top 32) 1
theorem sc_Span_copied : FnScope ["self"] ["self"] (defScope s_Span_copied) := ⟨rfl, rfl, rfl, by decide +kernel, rfl, by decide +kernel, by decide +kernel⟩
abbrev s_Span_parts : Stmt := inClass (top 32) 2
theorem sc_Span_parts : FnScope ["self"] ["self"] (defScope s_Span_parts) := ⟨rfl, rfl, rfl, by decide +kernel, rfl, by decide +kernel, by decide +kernel⟩
abbrev s_Span_runs : Stmt := inClass (top 32) 3
theorem sc_Span_runs : FnScope ["self", "day"] ["self", "day"] (defScope s_Span_runs) := ⟨rfl, rfl, rfl, by decide +kernel, rfl, by decide +kernel, by decide +kernel⟩
abbrev s_Span_words : Stmt := inClass (top 32) 4
abbrev s_Each_init : Stmt := inClass (top 33) 0
theorem sc_Each_init : FnScope ["self", "length", "starts"] ["self", "length", "starts"] (defScope s_Each_init) := ⟨rfl, rfl, rfl, by decide +kernel, rfl, by decide +kernel, by decide +kernel⟩
abbrev s_Each_copied : Stmt := inClass (top 33) 1
theorem sc_Each_copied : FnScope ["self"] ["self"] (defScope s_Each_copied) := ⟨rfl, rfl, rfl, by decide +kernel, rfl, by decide +kernel, by decide +kernel⟩
abbrev s_Each_runs : Stmt := inClass (top 33) 2
theorem sc_Each_runs : FnScope ["self", "day"] ["self", "day"] (defScope s_Each_runs) := ⟨rfl, rfl, rfl, by decide +kernel, rfl, by decide +kernel, by decide +kernel⟩
abbrev s_Each_words : Stmt := inClass (top 33) 3
abbrev s_Either_init : Stmt := inClass (top 34) 0
theorem sc_Either_init : FnScope ["self", "one", "other"] ["self", "one", "other"] (defScope s_Either_init) := ⟨rfl, rfl, rfl, by decide +kernel, rfl, by decide +kernel, by decide +kernel⟩
abbrev s_Either_copied : Stmt := inClass (top 34) 1
theorem sc_Either_copied : FnScope ["self"] ["self"] (defScope s_Either_copied) := ⟨rfl, rfl, rfl, by decide +kernel, rfl, by decide +kernel, by decide +kernel⟩
abbrev s_Either_parts : Stmt := inClass (top 34) 2
theorem sc_Either_parts : FnScope ["self"] ["self"] (defScope s_Either_parts) := ⟨rfl, rfl, rfl, by decide +kernel, rfl, by decide +kernel, by decide +kernel⟩
abbrev s_Either_runs : Stmt := inClass (top 34) 3
theorem sc_Either_runs : FnScope ["self", "day"] ["self", "day"] (defScope s_Either_runs) := ⟨rfl, rfl, rfl, by decide +kernel, rfl, by decide +kernel, by decide +kernel⟩
abbrev s_Either_words : Stmt := inClass (top 34) 4
abbrev s_Both_init : Stmt := inClass (top 35) 0
theorem sc_Both_init : FnScope ["self", "one", "other"] ["self", "one", "other"] (defScope s_Both_init) := ⟨rfl, rfl, rfl, by decide +kernel, rfl, by decide +kernel, by decide +kernel⟩
abbrev s_Both_copied : Stmt := inClass (top 35) 1
theorem sc_Both_copied : FnScope ["self"] ["self"] (defScope s_Both_copied) := ⟨rfl, rfl, rfl, by decide +kernel, rfl, by decide +kernel, by decide +kernel⟩
abbrev s_Both_parts : Stmt := inClass (top 35) 2
theorem sc_Both_parts : FnScope ["self"] ["self"] (defScope s_Both_parts) := ⟨rfl, rfl, rfl, by decide +kernel, rfl, by decide +kernel, by decide +kernel⟩
abbrev s_Both_runs : Stmt := inClass (top 35) 3
theorem sc_Both_runs : FnScope ["self", "day"] ["self", "day"] (defScope s_Both_runs) := ⟨rfl, rfl, rfl, by decide +kernel, rfl, by decide +kernel, by decide +kernel⟩
abbrev s_Both_words : Stmt := inClass (top 35) 4
abbrev s_But_init : Stmt := inClass (top 36) 0
theorem sc_But_init : FnScope ["self", "days", "rule"] ["self", "days", "rule"] (defScope s_But_init) := ⟨rfl, rfl, rfl, by decide +kernel, rfl, by decide +kernel, by decide +kernel⟩
abbrev s_But_copied : Stmt := inClass (top 36) 1
theorem sc_But_copied : FnScope ["self"] ["self"] (defScope s_But_copied) := ⟨rfl, rfl, rfl, by decide +kernel, rfl, by decide +kernel, by decide +kernel⟩
abbrev s_But_parts : Stmt := inClass (top 36) 2
theorem sc_But_parts : FnScope ["self"] ["self"] (defScope s_But_parts) := ⟨rfl, rfl, rfl, by decide +kernel, rfl, by decide +kernel, by decide +kernel⟩
abbrev s_But_runs : Stmt := inClass (top 36) 3
theorem sc_But_runs : FnScope ["self", "day"] ["self", "day"] (defScope s_But_runs) := ⟨rfl, rfl, rfl, by decide +kernel, rfl, by decide +kernel, by decide +kernel⟩
abbrev s_But_words : Stmt := inClass (top 36) 4
theorem b_ValueError : bootBuiltins "ValueError" = some (.type "ValueError") := by decide +kernel
theorem b_bool : bootBuiltins "bool" = some (.type "bool") := by decide +kernel
theorem b_int : bootBuiltins "int" = some (.type "int") := by decide +kernel
theorem b_isinstance : bootBuiltins "isinstance" = some (.builtin "isinstance") := by decide +kernel
theorem b_len : bootBuiltins "len" = some (.builtin "len") := by decide +kernel
theorem b_list : bootBuiltins "list" = some (.type "list") := by decide +kernel
theorem b_max : bootBuiltins "max" = some (.builtin "max") := by decide +kernel
theorem b_min : bootBuiltins "min" = some (.builtin "min") := by decide +kernel
theorem b_set : bootBuiltins "set" = some (.type "set") := by decide +kernel
theorem b_sorted : bootBuiltins "sorted" = some (.builtin "sorted") := by decide +kernel
theorem b_sum : bootBuiltins "sum" = some (.builtin "sum") := by decide +kernel
theorem b_tuple : bootBuiltins "tuple" = some (.type "tuple") := by decide +kernel
structure Adr where
  f_is_any_number : Addr
  d_is_any_number : FuncData
  f_is_number : Addr
  d_is_number : FuncData
  f_are_rising : Addr
  d_are_rising : FuncData
  f_copy_of : Addr
  d_copy_of : FuncData
  f_check_size : Addr
  d_check_size : FuncData
  f_list_text : Addr
  d_list_text : FuncData
  f_next_day : Addr
  d_next_day : FuncData
  D_next_day : Addr
  dv_next_day : List Value
  f_law_cell : Addr
  d_law_cell : FuncData
  f_law_draw : Addr
  d_law_draw : FuncData
  f_law_whole : Addr
  d_law_whole : FuncData
  f_law_rising : Addr
  d_law_rising : FuncData
  f_law_leaf : Addr
  d_law_leaf : FuncData
  f_law_tree : Addr
  d_law_tree : FuncData
  f_law_made : Addr
  d_law_made : FuncData
  f_law_runs : Addr
  d_law_runs : FuncData
  f_law_class : Addr
  d_law_class : FuncData
  f_law_due : Addr
  d_law_due : FuncData
  f_law_told : Addr
  d_law_told : FuncData
  f_law_same : Addr
  d_law_same : FuncData
  f_law : Addr
  d_law : FuncData
  f_Rule_copied : Addr
  d_Rule_copied : FuncData
  f_Rule_parts : Addr
  d_Rule_parts : FuncData
  f_Rule_runs : Addr
  d_Rule_runs : FuncData
  f_Rule_words : Addr
  d_Rule_words : FuncData
  f_Rule_weight : Addr
  d_Rule_weight : FuncData
  f_Rule_depth : Addr
  d_Rule_depth : FuncData
  f_Week_init : Addr
  d_Week_init : FuncData
  f_Week_copied : Addr
  d_Week_copied : FuncData
  f_Week_runs : Addr
  d_Week_runs : FuncData
  f_Week_words : Addr
  d_Week_words : FuncData
  f_Span_init : Addr
  d_Span_init : FuncData
  f_Span_copied : Addr
  d_Span_copied : FuncData
  f_Span_parts : Addr
  d_Span_parts : FuncData
  f_Span_runs : Addr
  d_Span_runs : FuncData
  f_Span_words : Addr
  d_Span_words : FuncData
  f_Each_init : Addr
  d_Each_init : FuncData
  f_Each_copied : Addr
  d_Each_copied : FuncData
  f_Each_runs : Addr
  d_Each_runs : FuncData
  f_Each_words : Addr
  d_Each_words : FuncData
  f_Either_init : Addr
  d_Either_init : FuncData
  f_Either_copied : Addr
  d_Either_copied : FuncData
  f_Either_parts : Addr
  d_Either_parts : FuncData
  f_Either_runs : Addr
  d_Either_runs : FuncData
  f_Either_words : Addr
  d_Either_words : FuncData
  f_Both_init : Addr
  d_Both_init : FuncData
  f_Both_copied : Addr
  d_Both_copied : FuncData
  f_Both_parts : Addr
  d_Both_parts : FuncData
  f_Both_runs : Addr
  d_Both_runs : FuncData
  f_Both_words : Addr
  d_Both_words : FuncData
  f_But_init : Addr
  d_But_init : FuncData
  f_But_copied : Addr
  d_But_copied : FuncData
  f_But_parts : Addr
  d_But_parts : FuncData
  f_But_runs : Addr
  d_But_runs : FuncData
  f_But_words : Addr
  d_But_words : FuncData
  c_RoadError : Addr
  c_BadClock : Addr
  c_BadRule : Addr
  c_TooMany : Addr
  c_BadName : Addr
  c_Twice : Addr
  c_NoStop : Addr
  c_BadNumber : Addr
  c_BadCalls : Addr
  c_NoRun : Addr
  c_TooLate : Addr
  c_NoTraveller : Addr
  c_BadLine : Addr
  c_Rule : Addr
  c_Week : Addr
  c_Span : Addr
  c_Each : Addr
  c_Either : Addr
  c_Both : Addr
  c_But : Addr
structure Tab (K : PySem.W.Frag) (mg : Str → Option Value) (t : Adr) : Prop where
  z_ValueError : mg "ValueError" = none
  z_bool : mg "bool" = none
  z_int : mg "int" = none
  z_isinstance : mg "isinstance" = none
  z_len : mg "len" = none
  z_list : mg "list" = none
  z_max : mg "max" = none
  z_min : mg "min" = none
  z_range : mg "range" = none
  z_set : mg "set" = none
  z_sorted : mg "sorted" = none
  z_str : mg "str" = none
  z_sum : mg "sum" = none
  z_tuple : mg "tuple" = none
  m_LAST_DAY : ∃ tk, mg "LAST_DAY" = some (.int 9999 tk)
  m_WEEK_DAYS : ∃ tk, mg "WEEK_DAYS" = some (.int 7 tk)
  m_ALL_WEEK : ∃ tk, mg "ALL_WEEK" = some (.int 127 tk)
  m_MOST_LENGTH : ∃ tk, mg "MOST_LENGTH" = some (.int 28 tk)
  m_MOST_LISTED : ∃ tk, mg "MOST_LISTED" = some (.int 12 tk)
  m_MOST_WEIGHT : ∃ tk, mg "MOST_WEIGHT" = some (.int 15 tk)
  m_MOST_DEPTH : ∃ tk, mg "MOST_DEPTH" = some (.int 8 tk)
  m_MOST_LATER : ∃ tk, mg "MOST_LATER" = some (.int 400 tk)
  F_is_any_number : Fun K "is_any_number" "is_any_number" s_is_any_number t.f_is_any_number t.d_is_any_number
  m_is_any_number : mg "is_any_number" = some (.ref t.f_is_any_number)
  b_is_any_number : Binds K t.d_is_any_number ["value"] []
  F_is_number : Fun K "is_number" "is_number" s_is_number t.f_is_number t.d_is_number
  m_is_number : mg "is_number" = some (.ref t.f_is_number)
  b_is_number : Binds K t.d_is_number ["value", "least", "most"] []
  F_are_rising : Fun K "are_rising" "are_rising" s_are_rising t.f_are_rising t.d_are_rising
  m_are_rising : mg "are_rising" = some (.ref t.f_are_rising)
  b_are_rising : Binds K t.d_are_rising ["values", "longest", "least", "most"] []
  F_copy_of : Fun K "copy_of" "copy_of" s_copy_of t.f_copy_of t.d_copy_of
  m_copy_of : mg "copy_of" = some (.ref t.f_copy_of)
  b_copy_of : Binds K t.d_copy_of ["rule"] []
  F_check_size : Fun K "check_size" "check_size" s_check_size t.f_check_size t.d_check_size
  m_check_size : mg "check_size" = some (.ref t.f_check_size)
  b_check_size : Binds K t.d_check_size ["rule"] []
  F_list_text : Fun K "list_text" "list_text" s_list_text t.f_list_text t.d_list_text
  m_list_text : mg "list_text" = some (.ref t.f_list_text)
  b_list_text : Binds K t.d_list_text ["numbers"] []
  F_next_day : FunD K "next_day" "next_day" s_next_day t.f_next_day t.d_next_day t.D_next_day t.dv_next_day
  v_next_day : Vals [.int 400] t.dv_next_day
  bd_next_day : Binds K t.d_next_day ["rule", "day", "most"] t.dv_next_day
  m_next_day : mg "next_day" = some (.ref t.f_next_day)
  b_next_day : Binds K t.d_next_day ["rule", "day", "most"] []
  F_law_cell : Fun K "_law_cell" "_law_cell" s_law_cell t.f_law_cell t.d_law_cell
  m_law_cell : mg "_law_cell" = some (.ref t.f_law_cell)
  b_law_cell : Binds K t.d_law_cell ["_law_script", "_law_k"] []
  F_law_draw : Fun K "_law_draw" "_law_draw" s_law_draw t.f_law_draw t.d_law_draw
  m_law_draw : mg "_law_draw" = some (.ref t.f_law_draw)
  b_law_draw : Binds K t.d_law_draw ["_law_script", "_law_tape", "_law_many"] []
  F_law_whole : Fun K "_law_whole" "_law_whole" s_law_whole t.f_law_whole t.d_law_whole
  m_law_whole : mg "_law_whole" = some (.ref t.f_law_whole)
  b_law_whole : Binds K t.d_law_whole ["_law_found"] []
  F_law_rising : Fun K "_law_rising" "_law_rising" s_law_rising t.f_law_rising t.d_law_rising
  m_law_rising : mg "_law_rising" = some (.ref t.f_law_rising)
  b_law_rising : Binds K t.d_law_rising ["_law_script", "_law_tape", "_law_least", "_law_most"] []
  F_law_leaf : Fun K "_law_leaf" "_law_leaf" s_law_leaf t.f_law_leaf t.d_law_leaf
  m_law_leaf : mg "_law_leaf" = some (.ref t.f_law_leaf)
  b_law_leaf : Binds K t.d_law_leaf ["_law_script", "_law_tape"] []
  F_law_tree : Fun K "_law_tree" "_law_tree" s_law_tree t.f_law_tree t.d_law_tree
  m_law_tree : mg "_law_tree" = some (.ref t.f_law_tree)
  b_law_tree : Binds K t.d_law_tree ["_law_script", "_law_tape", "_law_room", "_law_deep"] []
  F_law_made : Fun K "_law_made" "_law_made" s_law_made t.f_law_made t.d_law_made
  m_law_made : mg "_law_made" = some (.ref t.f_law_made)
  b_law_made : Binds K t.d_law_made ["_law_tree_here"] []
  F_law_runs : Fun K "_law_runs" "_law_runs" s_law_runs t.f_law_runs t.d_law_runs
  m_law_runs : mg "_law_runs" = some (.ref t.f_law_runs)
  b_law_runs : Binds K t.d_law_runs ["_law_tree_here", "_law_day"] []
  F_law_class : Fun K "_law_class" "_law_class" s_law_class t.f_law_class t.d_law_class
  m_law_class : mg "_law_class" = some (.ref t.f_law_class)
  b_law_class : Binds K t.d_law_class ["_law_error"] []
  F_law_due : Fun K "_law_due" "_law_due" s_law_due t.f_law_due t.d_law_due
  m_law_due : mg "_law_due" = some (.ref t.f_law_due)
  b_law_due : Binds K t.d_law_due ["_law_tree_here", "_law_day", "_law_most"] []
  F_law_told : Fun K "_law_told" "_law_told" s_law_told t.f_law_told t.d_law_told
  m_law_told : mg "_law_told" = some (.ref t.f_law_told)
  b_law_told : Binds K t.d_law_told ["_law_rule", "_law_day", "_law_most"] []
  F_law_same : Fun K "_law_same" "_law_same" s_law_same t.f_law_same t.d_law_same
  m_law_same : mg "_law_same" = some (.ref t.f_law_same)
  b_law_same : Binds K t.d_law_same ["_law_found", "_law_due_here"] []
  F_law : Fun K "law" "law" s_law t.f_law t.d_law
  m_law : mg "law" = some (.ref t.f_law)
  b_law : Binds K t.d_law ["_law_script"] []
  F_Rule_copied : Fun K "copied" "Rule.copied" s_Rule_copied t.f_Rule_copied t.d_Rule_copied
  b_Rule_copied : Binds K t.d_Rule_copied ["self"] []
  F_Rule_parts : Fun K "parts" "Rule.parts" s_Rule_parts t.f_Rule_parts t.d_Rule_parts
  b_Rule_parts : Binds K t.d_Rule_parts ["self"] []
  F_Rule_runs : Fun K "runs" "Rule.runs" s_Rule_runs t.f_Rule_runs t.d_Rule_runs
  b_Rule_runs : Binds K t.d_Rule_runs ["self", "day"] []
  F_Rule_words : Fun K "words" "Rule.words" s_Rule_words t.f_Rule_words t.d_Rule_words
  b_Rule_words : Binds K t.d_Rule_words ["self"] []
  F_Rule_weight : Fun K "weight" "Rule.weight" s_Rule_weight t.f_Rule_weight t.d_Rule_weight
  b_Rule_weight : Binds K t.d_Rule_weight ["self"] []
  F_Rule_depth : Fun K "depth" "Rule.depth" s_Rule_depth t.f_Rule_depth t.d_Rule_depth
  b_Rule_depth : Binds K t.d_Rule_depth ["self"] []
  F_Week_init : Fun K "__init__" "Week.__init__" s_Week_init t.f_Week_init t.d_Week_init
  b_Week_init : Binds K t.d_Week_init ["self", "bits"] []
  F_Week_copied : Fun K "copied" "Week.copied" s_Week_copied t.f_Week_copied t.d_Week_copied
  b_Week_copied : Binds K t.d_Week_copied ["self"] []
  F_Week_runs : Fun K "runs" "Week.runs" s_Week_runs t.f_Week_runs t.d_Week_runs
  b_Week_runs : Binds K t.d_Week_runs ["self", "day"] []
  F_Week_words : Fun K "words" "Week.words" s_Week_words t.f_Week_words t.d_Week_words
  b_Week_words : Binds K t.d_Week_words ["self"] []
  F_Span_init : Fun K "__init__" "Span.__init__" s_Span_init t.f_Span_init t.d_Span_init
  b_Span_init : Binds K t.d_Span_init ["self", "first", "last", "rule"] []
  F_Span_copied : Fun K "copied" "Span.copied" s_Span_copied t.f_Span_copied t.d_Span_copied
  b_Span_copied : Binds K t.d_Span_copied ["self"] []
  F_Span_parts : Fun K "parts" "Span.parts" s_Span_parts t.f_Span_parts t.d_Span_parts
  b_Span_parts : Binds K t.d_Span_parts ["self"] []
  F_Span_runs : Fun K "runs" "Span.runs" s_Span_runs t.f_Span_runs t.d_Span_runs
  b_Span_runs : Binds K t.d_Span_runs ["self", "day"] []
  F_Span_words : Fun K "words" "Span.words" s_Span_words t.f_Span_words t.d_Span_words
  b_Span_words : Binds K t.d_Span_words ["self"] []
  F_Each_init : Fun K "__init__" "Each.__init__" s_Each_init t.f_Each_init t.d_Each_init
  b_Each_init : Binds K t.d_Each_init ["self", "length", "starts"] []
  F_Each_copied : Fun K "copied" "Each.copied" s_Each_copied t.f_Each_copied t.d_Each_copied
  b_Each_copied : Binds K t.d_Each_copied ["self"] []
  F_Each_runs : Fun K "runs" "Each.runs" s_Each_runs t.f_Each_runs t.d_Each_runs
  b_Each_runs : Binds K t.d_Each_runs ["self", "day"] []
  F_Each_words : Fun K "words" "Each.words" s_Each_words t.f_Each_words t.d_Each_words
  b_Each_words : Binds K t.d_Each_words ["self"] []
  F_Either_init : Fun K "__init__" "Either.__init__" s_Either_init t.f_Either_init t.d_Either_init
  b_Either_init : Binds K t.d_Either_init ["self", "one", "other"] []
  F_Either_copied : Fun K "copied" "Either.copied" s_Either_copied t.f_Either_copied t.d_Either_copied
  b_Either_copied : Binds K t.d_Either_copied ["self"] []
  F_Either_parts : Fun K "parts" "Either.parts" s_Either_parts t.f_Either_parts t.d_Either_parts
  b_Either_parts : Binds K t.d_Either_parts ["self"] []
  F_Either_runs : Fun K "runs" "Either.runs" s_Either_runs t.f_Either_runs t.d_Either_runs
  b_Either_runs : Binds K t.d_Either_runs ["self", "day"] []
  F_Either_words : Fun K "words" "Either.words" s_Either_words t.f_Either_words t.d_Either_words
  b_Either_words : Binds K t.d_Either_words ["self"] []
  F_Both_init : Fun K "__init__" "Both.__init__" s_Both_init t.f_Both_init t.d_Both_init
  b_Both_init : Binds K t.d_Both_init ["self", "one", "other"] []
  F_Both_copied : Fun K "copied" "Both.copied" s_Both_copied t.f_Both_copied t.d_Both_copied
  b_Both_copied : Binds K t.d_Both_copied ["self"] []
  F_Both_parts : Fun K "parts" "Both.parts" s_Both_parts t.f_Both_parts t.d_Both_parts
  b_Both_parts : Binds K t.d_Both_parts ["self"] []
  F_Both_runs : Fun K "runs" "Both.runs" s_Both_runs t.f_Both_runs t.d_Both_runs
  b_Both_runs : Binds K t.d_Both_runs ["self", "day"] []
  F_Both_words : Fun K "words" "Both.words" s_Both_words t.f_Both_words t.d_Both_words
  b_Both_words : Binds K t.d_Both_words ["self"] []
  F_But_init : Fun K "__init__" "But.__init__" s_But_init t.f_But_init t.d_But_init
  b_But_init : Binds K t.d_But_init ["self", "days", "rule"] []
  F_But_copied : Fun K "copied" "But.copied" s_But_copied t.f_But_copied t.d_But_copied
  b_But_copied : Binds K t.d_But_copied ["self"] []
  F_But_parts : Fun K "parts" "But.parts" s_But_parts t.f_But_parts t.d_But_parts
  b_But_parts : Binds K t.d_But_parts ["self"] []
  F_But_runs : Fun K "runs" "But.runs" s_But_runs t.f_But_runs t.d_But_runs
  b_But_runs : Binds K t.d_But_runs ["self", "day"] []
  F_But_words : Fun K "words" "But.words" s_But_words t.f_But_words t.d_But_words
  b_But_words : Binds K t.d_But_words ["self"] []
  cl_Rule : Cls K t.c_Rule
  mkn_Rule : MkN K t.c_Rule
  me_Rule_copied : Meth K t.c_Rule "copied" t.f_Rule_copied
  me_Rule_depth : Meth K t.c_Rule "depth" t.f_Rule_depth
  me_Rule_parts : Meth K t.c_Rule "parts" t.f_Rule_parts
  me_Rule_runs : Meth K t.c_Rule "runs" t.f_Rule_runs
  me_Rule_weight : Meth K t.c_Rule "weight" t.f_Rule_weight
  me_Rule_words : Meth K t.c_Rule "words" t.f_Rule_words
  na_Rule_bits : NoAttr K t.c_Rule "bits"
  na_Rule_first : NoAttr K t.c_Rule "first"
  na_Rule_last : NoAttr K t.c_Rule "last"
  na_Rule_inner : NoAttr K t.c_Rule "inner"
  na_Rule_length : NoAttr K t.c_Rule "length"
  na_Rule_starts : NoAttr K t.c_Rule "starts"
  na_Rule_one : NoAttr K t.c_Rule "one"
  na_Rule_other : NoAttr K t.c_Rule "other"
  na_Rule_days : NoAttr K t.c_Rule "days"
  cl_Week : Cls K t.c_Week
  mk_Week : Mk K t.c_Week t.f_Week_init
  me_Week_copied : Meth K t.c_Week "copied" t.f_Week_copied
  me_Week_depth : Meth K t.c_Week "depth" t.f_Rule_depth
  me_Week_parts : Meth K t.c_Week "parts" t.f_Rule_parts
  me_Week_runs : Meth K t.c_Week "runs" t.f_Week_runs
  me_Week_weight : Meth K t.c_Week "weight" t.f_Rule_weight
  me_Week_words : Meth K t.c_Week "words" t.f_Week_words
  na_Week_bits : NoAttr K t.c_Week "bits"
  na_Week_first : NoAttr K t.c_Week "first"
  na_Week_last : NoAttr K t.c_Week "last"
  na_Week_inner : NoAttr K t.c_Week "inner"
  na_Week_length : NoAttr K t.c_Week "length"
  na_Week_starts : NoAttr K t.c_Week "starts"
  na_Week_one : NoAttr K t.c_Week "one"
  na_Week_other : NoAttr K t.c_Week "other"
  na_Week_days : NoAttr K t.c_Week "days"
  cl_Span : Cls K t.c_Span
  mk_Span : Mk K t.c_Span t.f_Span_init
  me_Span_copied : Meth K t.c_Span "copied" t.f_Span_copied
  me_Span_depth : Meth K t.c_Span "depth" t.f_Rule_depth
  me_Span_parts : Meth K t.c_Span "parts" t.f_Span_parts
  me_Span_runs : Meth K t.c_Span "runs" t.f_Span_runs
  me_Span_weight : Meth K t.c_Span "weight" t.f_Rule_weight
  me_Span_words : Meth K t.c_Span "words" t.f_Span_words
  na_Span_bits : NoAttr K t.c_Span "bits"
  na_Span_first : NoAttr K t.c_Span "first"
  na_Span_last : NoAttr K t.c_Span "last"
  na_Span_inner : NoAttr K t.c_Span "inner"
  na_Span_length : NoAttr K t.c_Span "length"
  na_Span_starts : NoAttr K t.c_Span "starts"
  na_Span_one : NoAttr K t.c_Span "one"
  na_Span_other : NoAttr K t.c_Span "other"
  na_Span_days : NoAttr K t.c_Span "days"
  cl_Each : Cls K t.c_Each
  mk_Each : Mk K t.c_Each t.f_Each_init
  me_Each_copied : Meth K t.c_Each "copied" t.f_Each_copied
  me_Each_depth : Meth K t.c_Each "depth" t.f_Rule_depth
  me_Each_parts : Meth K t.c_Each "parts" t.f_Rule_parts
  me_Each_runs : Meth K t.c_Each "runs" t.f_Each_runs
  me_Each_weight : Meth K t.c_Each "weight" t.f_Rule_weight
  me_Each_words : Meth K t.c_Each "words" t.f_Each_words
  na_Each_bits : NoAttr K t.c_Each "bits"
  na_Each_first : NoAttr K t.c_Each "first"
  na_Each_last : NoAttr K t.c_Each "last"
  na_Each_inner : NoAttr K t.c_Each "inner"
  na_Each_length : NoAttr K t.c_Each "length"
  na_Each_starts : NoAttr K t.c_Each "starts"
  na_Each_one : NoAttr K t.c_Each "one"
  na_Each_other : NoAttr K t.c_Each "other"
  na_Each_days : NoAttr K t.c_Each "days"
  cl_Either : Cls K t.c_Either
  mk_Either : Mk K t.c_Either t.f_Either_init
  me_Either_copied : Meth K t.c_Either "copied" t.f_Either_copied
  me_Either_depth : Meth K t.c_Either "depth" t.f_Rule_depth
  me_Either_parts : Meth K t.c_Either "parts" t.f_Either_parts
  me_Either_runs : Meth K t.c_Either "runs" t.f_Either_runs
  me_Either_weight : Meth K t.c_Either "weight" t.f_Rule_weight
  me_Either_words : Meth K t.c_Either "words" t.f_Either_words
  na_Either_bits : NoAttr K t.c_Either "bits"
  na_Either_first : NoAttr K t.c_Either "first"
  na_Either_last : NoAttr K t.c_Either "last"
  na_Either_inner : NoAttr K t.c_Either "inner"
  na_Either_length : NoAttr K t.c_Either "length"
  na_Either_starts : NoAttr K t.c_Either "starts"
  na_Either_one : NoAttr K t.c_Either "one"
  na_Either_other : NoAttr K t.c_Either "other"
  na_Either_days : NoAttr K t.c_Either "days"
  cl_Both : Cls K t.c_Both
  mk_Both : Mk K t.c_Both t.f_Both_init
  me_Both_copied : Meth K t.c_Both "copied" t.f_Both_copied
  me_Both_depth : Meth K t.c_Both "depth" t.f_Rule_depth
  me_Both_parts : Meth K t.c_Both "parts" t.f_Both_parts
  me_Both_runs : Meth K t.c_Both "runs" t.f_Both_runs
  me_Both_weight : Meth K t.c_Both "weight" t.f_Rule_weight
  me_Both_words : Meth K t.c_Both "words" t.f_Both_words
  na_Both_bits : NoAttr K t.c_Both "bits"
  na_Both_first : NoAttr K t.c_Both "first"
  na_Both_last : NoAttr K t.c_Both "last"
  na_Both_inner : NoAttr K t.c_Both "inner"
  na_Both_length : NoAttr K t.c_Both "length"
  na_Both_starts : NoAttr K t.c_Both "starts"
  na_Both_one : NoAttr K t.c_Both "one"
  na_Both_other : NoAttr K t.c_Both "other"
  na_Both_days : NoAttr K t.c_Both "days"
  cl_But : Cls K t.c_But
  mk_But : Mk K t.c_But t.f_But_init
  me_But_copied : Meth K t.c_But "copied" t.f_But_copied
  me_But_depth : Meth K t.c_But "depth" t.f_Rule_depth
  me_But_parts : Meth K t.c_But "parts" t.f_But_parts
  me_But_runs : Meth K t.c_But "runs" t.f_But_runs
  me_But_weight : Meth K t.c_But "weight" t.f_Rule_weight
  me_But_words : Meth K t.c_But "words" t.f_But_words
  na_But_bits : NoAttr K t.c_But "bits"
  na_But_first : NoAttr K t.c_But "first"
  na_But_last : NoAttr K t.c_But "last"
  na_But_inner : NoAttr K t.c_But "inner"
  na_But_length : NoAttr K t.c_But "length"
  na_But_starts : NoAttr K t.c_But "starts"
  na_But_one : NoAttr K t.c_But "one"
  na_But_other : NoAttr K t.c_But "other"
  na_But_days : NoAttr K t.c_But "days"
  ow_Rule : OwnC K t.c_Rule
  ki_Rule_Rule : PySem.W.kitOne K (.ref t.c_Rule) (.ref t.c_Rule) = some true
  ow_Week : OwnC K t.c_Week
  ki_Week_Rule : PySem.W.kitOne K (.ref t.c_Week) (.ref t.c_Rule) = some true
  ow_Span : OwnC K t.c_Span
  ki_Span_Rule : PySem.W.kitOne K (.ref t.c_Span) (.ref t.c_Rule) = some true
  ow_Each : OwnC K t.c_Each
  ki_Each_Rule : PySem.W.kitOne K (.ref t.c_Each) (.ref t.c_Rule) = some true
  ow_Either : OwnC K t.c_Either
  ki_Either_Rule : PySem.W.kitOne K (.ref t.c_Either) (.ref t.c_Rule) = some true
  ow_Both : OwnC K t.c_Both
  ki_Both_Rule : PySem.W.kitOne K (.ref t.c_Both) (.ref t.c_Rule) = some true
  ow_But : OwnC K t.c_But
  ki_But_Rule : PySem.W.kitOne K (.ref t.c_But) (.ref t.c_Rule) = some true
  kt_NoneType_Rule : PySem.W.kitOne K (.type "NoneType") (.ref t.c_Rule) = some false
  kt_str_Rule : PySem.W.kitOne K (.type "str") (.ref t.c_Rule) = some false
  kt_int_Rule : PySem.W.kitOne K (.type "int") (.ref t.c_Rule) = some false
  kt_list_Rule : PySem.W.kitOne K (.type "list") (.ref t.c_Rule) = some false
  kt_dict_Rule : PySem.W.kitOne K (.type "dict") (.ref t.c_Rule) = some false
  m_RoadError : mg "RoadError" = some (.ref t.c_RoadError)
  m_BadClock : mg "BadClock" = some (.ref t.c_BadClock)
  m_BadRule : mg "BadRule" = some (.ref t.c_BadRule)
  m_TooMany : mg "TooMany" = some (.ref t.c_TooMany)
  m_BadName : mg "BadName" = some (.ref t.c_BadName)
  m_Twice : mg "Twice" = some (.ref t.c_Twice)
  m_NoStop : mg "NoStop" = some (.ref t.c_NoStop)
  m_BadNumber : mg "BadNumber" = some (.ref t.c_BadNumber)
  m_BadCalls : mg "BadCalls" = some (.ref t.c_BadCalls)
  m_NoRun : mg "NoRun" = some (.ref t.c_NoRun)
  m_TooLate : mg "TooLate" = some (.ref t.c_TooLate)
  m_NoTraveller : mg "NoTraveller" = some (.ref t.c_NoTraveller)
  m_BadLine : mg "BadLine" = some (.ref t.c_BadLine)
  m_Rule : mg "Rule" = some (.ref t.c_Rule)
  m_Week : mg "Week" = some (.ref t.c_Week)
  m_Span : mg "Span" = some (.ref t.c_Span)
  m_Each : mg "Each" = some (.ref t.c_Each)
  m_Either : mg "Either" = some (.ref t.c_Either)
  m_Both : mg "Both" = some (.ref t.c_Both)
  m_But : mg "But" = some (.ref t.c_But)
  e_BadClock : ExC K t.c_BadClock
  i_BadClock : ExI K t.c_BadClock
  k_BadClock_BadClock : PySem.W.kitOne K (.ref t.c_BadClock) (.ref t.c_BadClock) = some true
  k_BadClock_BadRule : PySem.W.kitOne K (.ref t.c_BadClock) (.ref t.c_BadRule) = some false
  k_BadClock_TooMany : PySem.W.kitOne K (.ref t.c_BadClock) (.ref t.c_TooMany) = some false
  k_BadClock_BadName : PySem.W.kitOne K (.ref t.c_BadClock) (.ref t.c_BadName) = some false
  k_BadClock_Twice : PySem.W.kitOne K (.ref t.c_BadClock) (.ref t.c_Twice) = some false
  k_BadClock_NoStop : PySem.W.kitOne K (.ref t.c_BadClock) (.ref t.c_NoStop) = some false
  k_BadClock_BadNumber : PySem.W.kitOne K (.ref t.c_BadClock) (.ref t.c_BadNumber) = some false
  k_BadClock_BadCalls : PySem.W.kitOne K (.ref t.c_BadClock) (.ref t.c_BadCalls) = some false
  k_BadClock_NoRun : PySem.W.kitOne K (.ref t.c_BadClock) (.ref t.c_NoRun) = some false
  k_BadClock_TooLate : PySem.W.kitOne K (.ref t.c_BadClock) (.ref t.c_TooLate) = some false
  k_BadClock_NoTraveller : PySem.W.kitOne K (.ref t.c_BadClock) (.ref t.c_NoTraveller) = some false
  k_BadClock_BadLine : PySem.W.kitOne K (.ref t.c_BadClock) (.ref t.c_BadLine) = some false
  v_BadClock : PySem.W.kitOne K (.ref t.c_BadClock) (.type "ValueError") = some true
  x_BadClock : PySem.W.exmOne K (.ref t.c_BadClock) (.ref t.c_RoadError) = some true
  e_BadRule : ExC K t.c_BadRule
  i_BadRule : ExI K t.c_BadRule
  k_BadRule_BadClock : PySem.W.kitOne K (.ref t.c_BadRule) (.ref t.c_BadClock) = some false
  k_BadRule_BadRule : PySem.W.kitOne K (.ref t.c_BadRule) (.ref t.c_BadRule) = some true
  k_BadRule_TooMany : PySem.W.kitOne K (.ref t.c_BadRule) (.ref t.c_TooMany) = some false
  k_BadRule_BadName : PySem.W.kitOne K (.ref t.c_BadRule) (.ref t.c_BadName) = some false
  k_BadRule_Twice : PySem.W.kitOne K (.ref t.c_BadRule) (.ref t.c_Twice) = some false
  k_BadRule_NoStop : PySem.W.kitOne K (.ref t.c_BadRule) (.ref t.c_NoStop) = some false
  k_BadRule_BadNumber : PySem.W.kitOne K (.ref t.c_BadRule) (.ref t.c_BadNumber) = some false
  k_BadRule_BadCalls : PySem.W.kitOne K (.ref t.c_BadRule) (.ref t.c_BadCalls) = some false
  k_BadRule_NoRun : PySem.W.kitOne K (.ref t.c_BadRule) (.ref t.c_NoRun) = some false
  k_BadRule_TooLate : PySem.W.kitOne K (.ref t.c_BadRule) (.ref t.c_TooLate) = some false
  k_BadRule_NoTraveller : PySem.W.kitOne K (.ref t.c_BadRule) (.ref t.c_NoTraveller) = some false
  k_BadRule_BadLine : PySem.W.kitOne K (.ref t.c_BadRule) (.ref t.c_BadLine) = some false
  v_BadRule : PySem.W.kitOne K (.ref t.c_BadRule) (.type "ValueError") = some true
  x_BadRule : PySem.W.exmOne K (.ref t.c_BadRule) (.ref t.c_RoadError) = some true
  e_BadNumber : ExC K t.c_BadNumber
  i_BadNumber : ExI K t.c_BadNumber
  k_BadNumber_BadClock : PySem.W.kitOne K (.ref t.c_BadNumber) (.ref t.c_BadClock) = some false
  k_BadNumber_BadRule : PySem.W.kitOne K (.ref t.c_BadNumber) (.ref t.c_BadRule) = some false
  k_BadNumber_TooMany : PySem.W.kitOne K (.ref t.c_BadNumber) (.ref t.c_TooMany) = some false
  k_BadNumber_BadName : PySem.W.kitOne K (.ref t.c_BadNumber) (.ref t.c_BadName) = some false
  k_BadNumber_Twice : PySem.W.kitOne K (.ref t.c_BadNumber) (.ref t.c_Twice) = some false
  k_BadNumber_NoStop : PySem.W.kitOne K (.ref t.c_BadNumber) (.ref t.c_NoStop) = some false
  k_BadNumber_BadNumber : PySem.W.kitOne K (.ref t.c_BadNumber) (.ref t.c_BadNumber) = some true
  k_BadNumber_BadCalls : PySem.W.kitOne K (.ref t.c_BadNumber) (.ref t.c_BadCalls) = some false
  k_BadNumber_NoRun : PySem.W.kitOne K (.ref t.c_BadNumber) (.ref t.c_NoRun) = some false
  k_BadNumber_TooLate : PySem.W.kitOne K (.ref t.c_BadNumber) (.ref t.c_TooLate) = some false
  k_BadNumber_NoTraveller : PySem.W.kitOne K (.ref t.c_BadNumber) (.ref t.c_NoTraveller) = some false
  k_BadNumber_BadLine : PySem.W.kitOne K (.ref t.c_BadNumber) (.ref t.c_BadLine) = some false
  v_BadNumber : PySem.W.kitOne K (.ref t.c_BadNumber) (.type "ValueError") = some true
  x_BadNumber : PySem.W.exmOne K (.ref t.c_BadNumber) (.ref t.c_RoadError) = some true
section
variable {P : Program} {w : World} {K : PySem.W.Frag} {mg : Str → Option Value} {base : Heap} {t : Adr}
def spAnyN : Sp := fun vs H Q _ => ∃ (v : V) (T : String), vs = [v] ∧ Kd H v T ∧ Q (.bl (wholeV v)) H
theorem ok_is_any_number (Tx : Tab K mg t) : FnOk P w K mg base CX0 1 t.f_is_any_number t.d_is_any_number ["value"] spAnyN := by
  refine Tx.F_is_any_number.ok sc_is_any_number (fun vs H Q E h => ?_) (fun cdv A outer s H vs Q E hr h => ?_)
  · obtain ⟨v, T, rfl, _⟩ := h
    rfl
  obtain ⟨v, T, rfl, kd, q⟩ := h
  refine ⟨_, (pss_one (ps_ret (pe_and (pe_callB call_isi_ty rfl Tx.z_isinstance b_isinstance (pac (pv 0) (pac (pe_gty rfl Tx.z_int b_int) pa_nil))) (pe_one (pe_not (pe_callB call_isi_ty rfl Tx.z_isinstance b_isinstance (pac (pv 0) (pac (pe_gty rfl Tx.z_bool b_bool) pa_nil)))))))), ?_⟩
  refine ⟨_, rfl, v, "int", _, _, rfl, kd.ty, kit_int kd, _, rfl, ?_⟩
  cases kd with
  | non => exact itF (by decide) q
  | str x => exact itF (by decide) q
  | lst e => exact itF (by decide) q
  | tup e => exact itF (by decide) q
  | dK e => exact itF (by decide) q
  | bl b => exact itT (by decide) ⟨_, rfl, _, "bool", _, _, rfl, (Kd.bl b).ty (H := H), kit_bool (H := H) (.bl b), _, rfl, q⟩
  | int i => exact itT (by decide) ⟨_, rfl, _, "bool", _, _, rfl, (Kd.int i).ty (H := H), kit_bool (H := H) (.int i), _, rfl, q⟩

def spNum : Sp := fun vs H Q _ => ∃ (v : V) (lo hi : Int) (T : String), vs = [v, .int lo, .int hi] ∧ Kd H v T ∧ Q (.bl (numV v lo hi)) H
theorem ok_is_number (Tx : Tab K mg t) : FnOk P w K mg base CX0 2 t.f_is_number t.d_is_number ["value", "least", "most"] spNum := by
  refine Tx.F_is_number.ok sc_is_number (fun vs H Q E h => ?_) (fun cdv A outer s H vs Q E hr h => ?_)
  · obtain ⟨v, lo, hi, T, rfl, _⟩ := h
    rfl
  obtain ⟨v, lo, hi, T, rfl, kd, q⟩ := h
  refine ⟨_, (pss_one (ps_ret (pe_and (pe_call (ok_is_any_number Tx) (hr.mono (by omega)) rfl Tx.m_is_any_number Tx.F_is_any_number.kp Tx.b_is_any_number .nil pass0 (pac (pv 0) pa_nil)) (pe_one (pe_chain op_le op_le (pv 1) (pv 0) (pv 2)))))), ?_⟩
  refine ⟨_, rfl, v, T, rfl, kd, _, rfl, ?_⟩
  cases kd with
  | non => exact itF Bool.false_ne_true q
  | str x => exact itF Bool.false_ne_true q
  | lst e => exact itF Bool.false_ne_true q
  | tup e => exact itF Bool.false_ne_true q
  | dK e => exact itF Bool.false_ne_true q
  | bl b => exact itF Bool.false_ne_true q
  | int i =>
    refine itT rfl ?_
    refine ⟨_, rfl, _, rfl, _, _, rfl, rfl, _, rfl, ?_⟩
    refine ite2 (fun c => ?_) (fun c => ?_)
    · refine ⟨_, rfl, _, _, rfl, rfl, ?_⟩
      have c' : lo ≤ i := of_decide_eq_true c
      have e : decide (i ≤ hi) = numV (.int i) lo hi := by
        show decide (i ≤ hi) = decide (lo ≤ i ∧ i ≤ hi)
        exact decide_eq_decide.mpr ⟨fun z => ⟨c', z⟩, fun z => z.2⟩
      rw [← e] at q; exact q
    · have c' : ¬ lo ≤ i := of_decide_eq_false (Bool.eq_false_iff.mpr c)
      have e : false = numV (.int i) lo hi := by
        show false = decide (lo ≤ i ∧ i ≤ hi)
        exact (decide_eq_false fun z => c' z.1).symm
      rw [← e] at q; exact q


/- a list of rising numbers within the bounds -/
def spRis : Sp := fun vs H Q _ => ∃ (a : Addr) (ss : List Nat) (n lo : Nat) (hi : Int), vs = [.ref a, .int (n : Nat), .int (lo : Nat), .int hi] ∧ H a = some (.lst (natV ss)) ∧ 1 ≤ ss.length ∧ ss.length ≤ n ∧ ss.Pairwise (· < ·) ∧ (∀ x ∈ ss, lo ≤ x ∧ ((x : Nat) : Int) ≤ hi) ∧ Q (.bl true) H
theorem ok_are_rising (Tx : Tab K mg t) : FnOk P w K mg base CX0 3 t.f_are_rising t.d_are_rising ["values", "longest", "least", "most"] spRis := by
  refine Tx.F_are_rising.ok sc_are_rising (fun vs H Q E h => ?_) (fun cdv A outer s H vs Q E hr h => ?_)
  · obtain ⟨a, ss, n, lo, hi, rfl, _⟩ := h
    rfl
  obtain ⟨a, ss, n, lo, hi, rfl, ha, l1, l2, up, al, q⟩ := h
  refine ⟨_, (pss_cons (ps_if (PW.pt (pw_or (pt_not (pt_val (pe_callB call_isi_ty rfl Tx.z_isinstance b_isinstance (pac (pv 0) (pac (pe_gty rfl Tx.z_list b_list) pa_nil))))) (pw_or1 (pt_not (pt_chain op_le op_le pe_int (pe_callB call_len_seq rfl Tx.z_len b_len (pac (pv 0) pa_nil)) (pv 1))))))
    (pss_one (ps_ret pe_bl))
    pss_nil)
    (pss_cons (ps_set (i := 4) sc_are_rising.nd rfl (Or.inl rfl) (pv 2))
    (pss_cons (ps_for PassesOwn.never rfl (pi_list (pv 0)) (pg_name (i := 5) sc_are_rising.nd rfl (Or.inl rfl))
    (pss_cons (ps_if (pt_not (pt_val (pe_call (ok_is_number Tx) (hr.mono (by omega)) rfl Tx.m_is_number Tx.F_is_number.kp Tx.b_is_number .nil pass0 (pac (pv 5) (pac (pv 4) (pac (pv 3) pa_nil))))))
    (pss_one (ps_ret pe_bl))
    pss_nil)
    (pss_one (ps_set (i := 4) sc_are_rising.nd rfl (Or.inl rfl) (pe_op op_add (pv 5) pe_int)))))
    (pss_one (ps_ret pe_bl))))), ?_⟩
  have hlen : (natV ss).length = ss.length := List.length_map ..
  refine ⟨_, rfl, .ref a, "list", _, _, rfl, .lst ha, rfl, _, rfl, itF (by decide) ?_⟩
  refine ⟨_, rfl, a, _, rfl, .inl (SqL.of ha), _, _, rfl, rfl, _, rfl, itT (decide_eq_true (by rw [hlen]; omega)) ?_⟩
  refine ⟨_, rfl, _, _, rfl, rfl, _, rfl, itF (by rw [decide_eq_true (show (((natV ss).length : Nat) : Int) ≤ ((n : Nat) : Int) by rw [hlen]; omega)]; decide) ?_⟩
  refine ⟨_, rfl, _, rfl, a, rfl, ⟨_, SqL.of ha⟩, for_list (xs := natV ss) (fun i σ H' => H' = H ∧ ∃ (f : Nat) (v : Option V), σ = [some (.ref a), some (.int (n : Nat)), some (.int (lo : Nat)), some (.int hi), some (.int (f : Nat)), v] ∧ ∀ j x, i ≤ j → ss[j]? = some x → f ≤ x)
    ⟨rfl, lo, _, rfl, fun j x _ e => (al x (List.mem_of_getElem? e)).1⟩ (fun i σ H' _ ⟨e, _⟩ => by rw [e]; exact SqL.of ha) ?_ ?_⟩
  · rintro i x σ H' hx ⟨rfl, f, v, rfl, hf⟩
    rw [List.getElem?_map] at hx
    cases hs : ss[i]? with
    | none => rw [hs] at hx; cases hx
    | some m =>
      rw [hs] at hx
      obtain rfl : V.int ((m : Nat) : Int) = x := Option.some.inj hx
      have hm := al m (List.mem_of_getElem? hs)
      have fm := hf i m (Nat.le_refl _) hs
      refine ⟨_, rfl, _, rfl, _, rfl, .int (m : Nat), _, _, "int", rfl, .int _, _, rfl, itF (by rw [num_ok (by omega) hm.2]; decide) ?_⟩
      refine ⟨_, rfl, _, _, rfl, rfl, rfl, m + 1, _, rfl, fun j y hj e => ?_⟩
      have := List.pairwise_iff_getElem.mp up i j (List.getElem?_eq_some_iff.mp hs).1 (List.getElem?_eq_some_iff.mp e).1 (by omega)
      rw [(List.getElem?_eq_some_iff.mp hs).2, (List.getElem?_eq_some_iff.mp e).2] at this
      exact this
  · rintro σ H' ⟨rfl, f, v, rfl, _⟩
    exact q

/- the classes of rules as the module has them -/
abbrev rc (t : Adr) : RC := ⟨t.c_Rule, t.c_Week, t.c_Span, t.c_Each, t.c_Either, t.c_Both, t.c_But⟩
/- runs, of an object that shows a rule of one sort (q) no deeper than n -/
def spRuns (c : RC) (K : PySem.W.Frag) (q : RT → Prop) (n : Nat) : Sp := fun vs H Q _ => ∃ (a : Addr) (r : RT) (d : Nat), vs = [.ref a, .int (d : Nat)] ∧ RAt c K H a r ∧ q r ∧ r.depth ≤ n ∧ Q (.bl (r.runs d)) H
def isAlways : RT → Prop | .always => True | _ => False
def isWeek : RT → Prop | .week _ => True | _ => False
def isSpan : RT → Prop | .span _ _ _ => True | _ => False
def isEach : RT → Prop | .each _ _ => True | _ => False
def isEither : RT → Prop | .either _ _ => True | _ => False
def isBoth : RT → Prop | .both _ _ => True | _ => False
def isBut : RT → Prop | .but _ _ => True | _ => False
/- the seven defs, for rules no deeper than n -/
structure RunsOk (P : Program) (w : World) (K : PySem.W.Frag) (mg : Str → Option Value) (base : Heap) (t : Adr) (n : Nat) : Prop where
  rule : FnOk P w K mg base CX0 (n + 1) t.f_Rule_runs t.d_Rule_runs ["self", "day"] (spRuns (rc t) K isAlways n)
  week : FnOk P w K mg base CX0 (n + 1) t.f_Week_runs t.d_Week_runs ["self", "day"] (spRuns (rc t) K isWeek n)
  span : FnOk P w K mg base CX0 (n + 1) t.f_Span_runs t.d_Span_runs ["self", "day"] (spRuns (rc t) K isSpan n)
  each : FnOk P w K mg base CX0 (n + 1) t.f_Each_runs t.d_Each_runs ["self", "day"] (spRuns (rc t) K isEach n)
  either : FnOk P w K mg base CX0 (n + 1) t.f_Either_runs t.d_Either_runs ["self", "day"] (spRuns (rc t) K isEither n)
  both : FnOk P w K mg base CX0 (n + 1) t.f_Both_runs t.d_Both_runs ["self", "day"] (spRuns (rc t) K isBoth n)
  but : FnOk P w K mg base CX0 (n + 1) t.f_But_runs t.d_But_runs ["self", "day"] (spRuns (rc t) K isBut n)
/- what a call o.runs(day) asks, told of the object at a -/
theorem RunsOk.at {n : Nat} (R : RunsOk P w K mg base t n) (Tx : Tab K mg t) {H : Hp} {a : Addr} {r : RT} (h : RAt (rc t) K H a r) (hn : r.depth ≤ n) :
    ∃ (C dx : Addr) (fs : List (Str × V)) (f : Addr) (fd : FuncData) (sp : Sp), H a = some (.ins C dx fs) ∧ fs.lookup ("runs" : Str) = none ∧ Cls K C ∧ Meth K C "runs" f ∧ FnOk P w K mg base CX0 (n + 1) f fd ["self", "day"] sp ∧ Binds K fd ["self", "day"] [] ∧
      ∀ (d : Nat) (Q : VK), Q (.bl (r.runs d)) H → sp [.ref a, .int (d : Nat)] H Q E0 := by
  cases h with
  | always h => exact ⟨_, _, _, _, _, _, h, rfl, Tx.cl_Rule, Tx.me_Rule_runs, R.rule, Tx.b_Rule_runs, fun d Q q => ⟨a, _, d, rfl, .always h, trivial, hn, q⟩⟩
  | week h hb => exact ⟨_, _, _, _, _, _, h, rfl, Tx.cl_Week, Tx.me_Week_runs, R.week, Tx.b_Week_runs, fun d Q q => ⟨a, _, d, rfl, .week h hb, trivial, hn, q⟩⟩
  | span h hx hy hi => exact ⟨_, _, _, _, _, _, h, rfl, Tx.cl_Span, Tx.me_Span_runs, R.span, Tx.b_Span_runs, fun d Q q => ⟨a, _, d, rfl, .span h hx hy hi, trivial, hn, q⟩⟩
  | each h h1 h2 hp => exact ⟨_, _, _, _, _, _, h, rfl, Tx.cl_Each, Tx.me_Each_runs, R.each, Tx.b_Each_runs, fun d Q q => ⟨a, _, d, rfl, .each h h1 h2 hp, trivial, hn, q⟩⟩
  | either h hi hj => exact ⟨_, _, _, _, _, _, h, rfl, Tx.cl_Either, Tx.me_Either_runs, R.either, Tx.b_Either_runs, fun d Q q => ⟨a, _, d, rfl, .either h hi hj, trivial, hn, q⟩⟩
  | both h hi hj => exact ⟨_, _, _, _, _, _, h, rfl, Tx.cl_Both, Tx.me_Both_runs, R.both, Tx.b_Both_runs, fun d Q q => ⟨a, _, d, rfl, .both h hi hj, trivial, hn, q⟩⟩
  | but h hp hi => exact ⟨_, _, _, _, _, _, h, rfl, Tx.cl_But, Tx.me_But_runs, R.but, Tx.b_But_runs, fun d Q q => ⟨a, _, d, rfl, .but h hp hi, trivial, hn, q⟩⟩
theorem runs_rule (Tx : Tab K mg t) (n : Nat) : FnOk P w K mg base CX0 (n + 1) t.f_Rule_runs t.d_Rule_runs ["self", "day"] (spRuns (rc t) K isAlways n) := by
  refine Tx.F_Rule_runs.ok sc_Rule_runs (fun vs H Q E h => ?_) (fun cdv A outer s H vs Q E hr h => ?_)
  · obtain ⟨a, r, d, rfl, _⟩ := h
    rfl
  obtain ⟨a, r, d, rfl, h, hq, hn, q⟩ := h
  refine ⟨_, (pss_one (ps_ret pe_bl)), ?_⟩
  cases r <;> first | exact q | exact hq.elim
theorem runs_week (Tx : Tab K mg t) (n : Nat) : FnOk P w K mg base CX0 (n + 1) t.f_Week_runs t.d_Week_runs ["self", "day"] (spRuns (rc t) K isWeek n) := by
  refine Tx.F_Week_runs.ok sc_Week_runs (fun vs H Q E h => ?_) (fun cdv A outer s H vs Q E hr h => ?_)
  · obtain ⟨a, r, d, rfl, _⟩ := h
    rfl
  obtain ⟨a, r, d, rfl, h, hq, hn, q⟩ := h
  refine ⟨_, (pss_one (ps_ret (pe_cmpR op_eq (pe_op op_and (pe_op op_shr (pe_fld (pv 0) rfl) (pe_op op_mod (pv 1) (pe_gintE rfl Tx.m_WEEK_DAYS))) pe_int) pe_int (nomark _)))), ?_⟩
  cases h with
  | week h hb =>
    rename_i dx b
    refine ⟨_, rfl, a, _, _, _, _, rfl, h, Tx.cl_Week, Tx.na_Week_bits, rfl, _, rfl, _, _, rfl, rfl, (by show (0 : Int) < 7; decide), _, _, rfl, rfl, Int.emod_nonneg _ (by decide), _, _, rfl, rfl, rfl, ?_⟩
    have e : (((d : Nat) : Int) % 7).toNat = d % 7 := by omega
    have e2 : decide (V.int (Builtin.bitAnd (((b : Nat) : Int) / 2 ^ (((d : Nat) : Int) % 7).toNat) 1) = V.int 1) = (RT.week b).runs d := by
      rw [e]
      have := bit_of b (d % 7)
      rw [dec_int]
      exact this
    rw [← e2] at q
    exact q
  | _ => exact hq.elim
theorem runs_each (Tx : Tab K mg t) (n : Nat) : FnOk P w K mg base CX0 (n + 1) t.f_Each_runs t.d_Each_runs ["self", "day"] (spRuns (rc t) K isEach n) := by
  refine Tx.F_Each_runs.ok sc_Each_runs (fun vs H Q E h => ?_) (fun cdv A outer s H vs Q E hr h => ?_)
  · obtain ⟨a, r, d, rfl, _⟩ := h
    rfl
  obtain ⟨a, r, d, rfl, h, hq, hn, q⟩ := h
  refine ⟨_, (pss_one (ps_ret (pe_cmpR op_in_seq (pe_op op_mod (pv 1) (pe_fld (pv 0) rfl)) (pe_fld (pv 0) rfl) rfl))), ?_⟩
  cases h with
  | each h h1 h2 hp =>
    rename_i dx p m ss
    refine ⟨_, rfl, _, rfl, a, _, _, _, _, rfl, h, Tx.cl_Each, Tx.na_Each_length, rfl, _, _, rfl, rfl, (by show (0 : Int) < _; omega), _, rfl, a, _, _, _, _, rfl, h, Tx.cl_Each, Tx.na_Each_starts, rfl, p, _, rfl, .inr hp, rfl, flat_nats ss, ?_⟩
    have e : ((d : Nat) : Int) % ((m : Nat) : Int) = ((d % m : Nat) : Int) := by omega
    have e2 : inV (.int (((d : Nat) : Int) % ((m : Nat) : Int))) (natV ss) = (RT.each m ss).runs d := by
      rw [e]
      exact inV_nats (d % m) ss
    rw [← e2] at q
    exact q
  | _ => exact hq.elim
theorem runs_span (Tx : Tab K mg t) (n : Nat) (R : RunsOk P w K mg base t n) : FnOk P w K mg base CX0 (n + 2) t.f_Span_runs t.d_Span_runs ["self", "day"] (spRuns (rc t) K isSpan (n + 1)) := by
  refine Tx.F_Span_runs.ok sc_Span_runs (fun vs H Q E h => ?_) (fun cdv A outer s H vs Q E hr h => ?_)
  · obtain ⟨a, r, d, rfl, _⟩ := h
    rfl
  obtain ⟨a, r, d, rfl, h, hq, hn, q⟩ := h
  refine ⟨_, (pss_one (ps_ret (pe_and (pe_chain op_le op_le (pe_fld (pv 0) rfl) (pv 1) (pe_fld (pv 0) rfl)) (pe_one (pe_methD (pe_fld (pv 0) rfl) (pac (pv 1) pa_nil)))))), ?_⟩
  cases h with
  | span h hx hy hi =>
    rename_i dx i x y r
    have hd : r.depth ≤ n := by
      have : (RT.span x y r).depth = 1 + r.depth := rfl
      omega
    obtain ⟨C, dx2, fs, f, fd, sp, g1, g2, g3, g4, g5, g6, g7⟩ := R.at Tx hi hd
    refine ⟨_, rfl, a, _, _, _, _, rfl, h, Tx.cl_Span, Tx.na_Span_first, rfl, ?_⟩
    have fin : ∀ b : Bool, b = (decide (x ≤ d) && decide (d ≤ y) && r.runs d) → Q (.bl b) H := fun b e => by rw [e]; exact q
    refine ⟨_, rfl, _, _, rfl, rfl, _, rfl, ?_⟩
    by_cases h1 : x ≤ d
    · refine itT (decide_eq_true (by omega)) ?_
      refine ⟨_, rfl, a, _, _, _, _, rfl, h, Tx.cl_Span, Tx.na_Span_last, rfl, _, _, rfl, rfl, _, rfl, ?_⟩
      by_cases h2 : d ≤ y
      · refine itT (decide_eq_true (by omega)) ?_
        refine ⟨_, rfl, a, _, _, _, _, rfl, h, Tx.cl_Span, Tx.na_Span_inner, rfl, i, C, dx2, fs, f, fd, _, _, sp, CX0, E0, rfl, g1, g2, g3, g4, g5, hr.mono (by omega), g6, pass0, _, rfl, ?_⟩
        exact g7 d Q (fin _ (by rw [decide_eq_true h1, decide_eq_true h2]; rfl))
      · refine itF (by rw [decide_eq_false (by omega)]; decide) ?_
        exact fin _ (by rw [decide_eq_false h2, Bool.and_false, Bool.false_and])
    · refine itF (by rw [decide_eq_false (by omega)]; decide) ?_
      exact ⟨_, rfl, itF (by decide) (fin _ (by rw [decide_eq_false h1, Bool.false_and, Bool.false_and]))⟩
  | _ => exact hq.elim
theorem runs_either (Tx : Tab K mg t) (n : Nat) (R : RunsOk P w K mg base t n) : FnOk P w K mg base CX0 (n + 2) t.f_Either_runs t.d_Either_runs ["self", "day"] (spRuns (rc t) K isEither (n + 1)) := by
  refine Tx.F_Either_runs.ok sc_Either_runs (fun vs H Q E h => ?_) (fun cdv A outer s H vs Q E hr h => ?_)
  · obtain ⟨a, r, d, rfl, _⟩ := h
    rfl
  obtain ⟨a, r, d, rfl, h, hq, hn, q⟩ := h
  refine ⟨_, (pss_one (ps_ret (pe_or (pe_methD (pe_fld (pv 0) rfl) (pac (pv 1) pa_nil)) (pe_one (pe_methD (pe_fld (pv 0) rfl) (pac (pv 1) pa_nil)))))), ?_⟩
  cases h with
  | either h hi hj =>
    rename_i dx i j r s'
    have hd : r.depth ≤ n ∧ s'.depth ≤ n := by
      have : (RT.either r s').depth = 1 + max r.depth s'.depth := rfl
      omega
    obtain ⟨C, dx2, fs, f, fd, sp, g1, g2, g3, g4, g5, g6, g7⟩ := R.at Tx hi hd.1
    refine ⟨_, rfl, a, _, _, _, _, rfl, h, Tx.cl_Either, Tx.na_Either_one, rfl, i, C, dx2, fs, f, fd, _, _, sp, CX0, E0, rfl, g1, g2, g3, g4, g5, hr.mono (by omega), g6, pass0, _, rfl, g7 d _ ⟨_, rfl, ?_⟩⟩
    have q' : Q (.bl (r.runs d || s'.runs d)) H := q
    cases e : r.runs d with
    | true => exact itT rfl (by rw [e] at q'; exact q')
    | false =>
      refine itF (by decide) ?_
      obtain ⟨C, dx2, fs, f, fd, sp, g1, g2, g3, g4, g5, g6, g7⟩ := R.at Tx hj hd.2
      refine ⟨_, rfl, a, _, _, _, _, rfl, h, Tx.cl_Either, Tx.na_Either_other, rfl, j, C, dx2, fs, f, fd, _, _, sp, CX0, E0, rfl, g1, g2, g3, g4, g5, hr.mono (by omega), g6, pass0, _, rfl, g7 d _ ?_⟩
      rw [e, Bool.false_or] at q'
      exact q'
  | _ => exact hq.elim
theorem runs_both (Tx : Tab K mg t) (n : Nat) (R : RunsOk P w K mg base t n) : FnOk P w K mg base CX0 (n + 2) t.f_Both_runs t.d_Both_runs ["self", "day"] (spRuns (rc t) K isBoth (n + 1)) := by
  refine Tx.F_Both_runs.ok sc_Both_runs (fun vs H Q E h => ?_) (fun cdv A outer s H vs Q E hr h => ?_)
  · obtain ⟨a, r, d, rfl, _⟩ := h
    rfl
  obtain ⟨a, r, d, rfl, h, hq, hn, q⟩ := h
  refine ⟨_, (pss_one (ps_ret (pe_and (pe_methD (pe_fld (pv 0) rfl) (pac (pv 1) pa_nil)) (pe_one (pe_methD (pe_fld (pv 0) rfl) (pac (pv 1) pa_nil)))))), ?_⟩
  cases h with
  | both h hi hj =>
    rename_i dx i j r s'
    have hd : r.depth ≤ n ∧ s'.depth ≤ n := by
      have : (RT.both r s').depth = 1 + max r.depth s'.depth := rfl
      omega
    obtain ⟨C, dx2, fs, f, fd, sp, g1, g2, g3, g4, g5, g6, g7⟩ := R.at Tx hi hd.1
    refine ⟨_, rfl, a, _, _, _, _, rfl, h, Tx.cl_Both, Tx.na_Both_one, rfl, i, C, dx2, fs, f, fd, _, _, sp, CX0, E0, rfl, g1, g2, g3, g4, g5, hr.mono (by omega), g6, pass0, _, rfl, g7 d _ ⟨_, rfl, ?_⟩⟩
    have q' : Q (.bl (r.runs d && s'.runs d)) H := q
    cases e : r.runs d with
    | false => exact itF (by decide) (by rw [e] at q'; exact q')
    | true =>
      refine itT rfl ?_
      obtain ⟨C, dx2, fs, f, fd, sp, g1, g2, g3, g4, g5, g6, g7⟩ := R.at Tx hj hd.2
      refine ⟨_, rfl, a, _, _, _, _, rfl, h, Tx.cl_Both, Tx.na_Both_other, rfl, j, C, dx2, fs, f, fd, _, _, sp, CX0, E0, rfl, g1, g2, g3, g4, g5, hr.mono (by omega), g6, pass0, _, rfl, g7 d _ ?_⟩
      rw [e, Bool.true_and] at q'
      exact q'
  | _ => exact hq.elim
theorem runs_but (Tx : Tab K mg t) (n : Nat) (R : RunsOk P w K mg base t n) : FnOk P w K mg base CX0 (n + 2) t.f_But_runs t.d_But_runs ["self", "day"] (spRuns (rc t) K isBut (n + 1)) := by
  refine Tx.F_But_runs.ok sc_But_runs (fun vs H Q E h => ?_) (fun cdv A outer s H vs Q E hr h => ?_)
  · obtain ⟨a, r, d, rfl, _⟩ := h
    rfl
  obtain ⟨a, r, d, rfl, h, hq, hn, q⟩ := h
  refine ⟨_, (pss_one (ps_ret (pe_cmpR op_ne (pe_methD (pe_fld (pv 0) rfl) (pac (pv 1) pa_nil)) (pe_cmpR op_in_seq (pv 1) (pe_fld (pv 0) rfl) rfl) (nomark _)))), ?_⟩
  cases h with
  | but h hp hi =>
    rename_i dx p i ds r
    have hd : r.depth ≤ n := by
      have : (RT.but ds r).depth = 1 + r.depth := rfl
      omega
    obtain ⟨C, dx2, fs, f, fd, sp, g1, g2, g3, g4, g5, g6, g7⟩ := R.at Tx hi hd
    refine ⟨_, rfl, a, _, _, _, _, rfl, h, Tx.cl_But, Tx.na_But_inner, rfl, i, C, dx2, fs, f, fd, _, _, sp, CX0, E0, rfl, g1, g2, g3, g4, g5, hr.mono (by omega), g6, pass0, _, rfl, g7 d _ ?_⟩
    refine ⟨_, rfl, _, rfl, a, _, _, _, _, rfl, h, Tx.cl_But, Tx.na_But_days, rfl, p, _, rfl, .inr hp, rfl, flat_nats ds, rfl, ?_⟩
    have q' : Q (.bl (r.runs d != ds.contains d)) H := q
    have e : (!decide (V.bl (r.runs d) = V.bl (inV (.int ((d : Nat) : Int)) (natV ds)))) = (r.runs d != ds.contains d) := by
      rw [inV_nats, dec_bl]
      rfl
    rw [← e] at q'
    exact q'
  | _ => exact hq.elim
theorem runs_ok (Tx : Tab K mg t) : ∀ n, RunsOk P w K mg base t n
  | 0 => by
    have no : ∀ {q : RT → Prop}, ∀ vs H Q E, spRuns (rc t) K q 0 vs H Q E → False := fun vs H Q E h => by
      obtain ⟨a, r, d, rfl, h, hq, hn, _⟩ := h
      have := r.depth_pos
      omega
    exact ⟨runs_rule Tx 0, runs_week Tx 0,
      Tx.F_Span_runs.ok sc_Span_runs (fun vs H Q E h => (no vs H Q E h).elim) (fun cdv A outer s H vs Q E hr h => (no vs H Q E h).elim), runs_each Tx 0,
      Tx.F_Either_runs.ok sc_Either_runs (fun vs H Q E h => (no vs H Q E h).elim) (fun cdv A outer s H vs Q E hr h => (no vs H Q E h).elim),
      Tx.F_Both_runs.ok sc_Both_runs (fun vs H Q E h => (no vs H Q E h).elim) (fun cdv A outer s H vs Q E hr h => (no vs H Q E h).elim),
      Tx.F_But_runs.ok sc_But_runs (fun vs H Q E h => (no vs H Q E h).elim) (fun cdv A outer s H vs Q E hr h => (no vs H Q E h).elim)⟩
  | n + 1 => have R := runs_ok Tx n
    ⟨runs_rule Tx (n + 1), runs_week Tx (n + 1), runs_span Tx n R, runs_each Tx (n + 1), runs_either Tx n R, runs_both Tx n R, runs_but Tx n R⟩

def PartsIs (c : RC) (K : PySem.W.Frag) (H : Hp) (r : RT) (xs : List V) : Prop := match r with
  | .always | .week _ | .each _ _ => xs = []
  | .span _ _ r1 | .but _ r1 => ∃ i, xs = [.ref i] ∧ RAt c K H i r1
  | .either r1 r2 | .both r1 r2 => ∃ i j, xs = [.ref i, .ref j] ∧ RAt c K H i r1 ∧ RAt c K H j r2
/- parts, of an object that shows a rule of one sort -/
def spParts (c : RC) (K : PySem.W.Frag) (q : RT → Prop) : Sp := fun vs H Q _ => ∃ (a : Addr) (r : RT), vs = [.ref a] ∧ RAt c K H a r ∧ q r ∧ ∀ p xs, H p = none → PartsIs c K H r xs → Q (.ref p) (upd H p (.lst xs))
def isLeaf : RT → Prop | .always | .week _ | .each _ _ => True | _ => False
theorem parts_rule (Tx : Tab K mg t) : FnOk P w K mg base CX0 1 t.f_Rule_parts t.d_Rule_parts ["self"] (spParts (rc t) K isLeaf) := by
  refine Tx.F_Rule_parts.ok sc_Rule_parts (fun vs H Q E h => ?_) (fun cdv A outer s H vs Q E hr h => ?_)
  · obtain ⟨a, r, rfl, _⟩ := h
    rfl
  obtain ⟨a, r, rfl, h, hq, q⟩ := h
  refine ⟨_, (pss_one (ps_ret (pe_lst pa_nil))), ?_⟩
  refine ⟨by show 0 ≤ sizeLine; decide, fun p hp => q p _ hp ?_⟩
  cases r <;> first | rfl | exact hq.elim
theorem parts_span (Tx : Tab K mg t) : FnOk P w K mg base CX0 1 t.f_Span_parts t.d_Span_parts ["self"] (spParts (rc t) K isSpan) := by
  refine Tx.F_Span_parts.ok sc_Span_parts (fun vs H Q E h => ?_) (fun cdv A outer s H vs Q E hr h => ?_)
  · obtain ⟨a, r, rfl, _⟩ := h
    rfl
  obtain ⟨a, r, rfl, h, hq, q⟩ := h
  refine ⟨_, (pss_one (ps_ret (pe_lst (pac (pe_fld (pv 0) rfl) pa_nil)))), ?_⟩
  cases h with
  | span h hx hy hi => exact ⟨_, rfl, a, _, _, _, _, rfl, h, Tx.cl_Span, Tx.na_Span_inner, rfl, by show 1 ≤ sizeLine; decide, fun p hp => q p _ hp ⟨_, rfl, hi⟩⟩
  | _ => exact hq.elim
theorem parts_but (Tx : Tab K mg t) : FnOk P w K mg base CX0 1 t.f_But_parts t.d_But_parts ["self"] (spParts (rc t) K isBut) := by
  refine Tx.F_But_parts.ok sc_But_parts (fun vs H Q E h => ?_) (fun cdv A outer s H vs Q E hr h => ?_)
  · obtain ⟨a, r, rfl, _⟩ := h
    rfl
  obtain ⟨a, r, rfl, h, hq, q⟩ := h
  refine ⟨_, (pss_one (ps_ret (pe_lst (pac (pe_fld (pv 0) rfl) pa_nil)))), ?_⟩
  cases h with
  | but h hp hi => exact ⟨_, rfl, a, _, _, _, _, rfl, h, Tx.cl_But, Tx.na_But_inner, rfl, by show 1 ≤ sizeLine; decide, fun p hp => q p _ hp ⟨_, rfl, hi⟩⟩
  | _ => exact hq.elim
theorem parts_either (Tx : Tab K mg t) : FnOk P w K mg base CX0 1 t.f_Either_parts t.d_Either_parts ["self"] (spParts (rc t) K isEither) := by
  refine Tx.F_Either_parts.ok sc_Either_parts (fun vs H Q E h => ?_) (fun cdv A outer s H vs Q E hr h => ?_)
  · obtain ⟨a, r, rfl, _⟩ := h
    rfl
  obtain ⟨a, r, rfl, h, hq, q⟩ := h
  refine ⟨_, (pss_one (ps_ret (pe_lst (pac (pe_fld (pv 0) rfl) (pac (pe_fld (pv 0) rfl) pa_nil))))), ?_⟩
  cases h with
  | either h hi hj => exact ⟨_, rfl, a, _, _, _, _, rfl, h, Tx.cl_Either, Tx.na_Either_one, rfl, _, rfl, a, _, _, _, _, rfl, h, Tx.cl_Either, Tx.na_Either_other, rfl, by show 2 ≤ sizeLine; decide, fun p hp => q p _ hp ⟨_, _, rfl, hi, hj⟩⟩
  | _ => exact hq.elim
theorem parts_both (Tx : Tab K mg t) : FnOk P w K mg base CX0 1 t.f_Both_parts t.d_Both_parts ["self"] (spParts (rc t) K isBoth) := by
  refine Tx.F_Both_parts.ok sc_Both_parts (fun vs H Q E h => ?_) (fun cdv A outer s H vs Q E hr h => ?_)
  · obtain ⟨a, r, rfl, _⟩ := h
    rfl
  obtain ⟨a, r, rfl, h, hq, q⟩ := h
  refine ⟨_, (pss_one (ps_ret (pe_lst (pac (pe_fld (pv 0) rfl) (pac (pe_fld (pv 0) rfl) pa_nil))))), ?_⟩
  cases h with
  | both h hi hj => exact ⟨_, rfl, a, _, _, _, _, rfl, h, Tx.cl_Both, Tx.na_Both_one, rfl, _, rfl, a, _, _, _, _, rfl, h, Tx.cl_Both, Tx.na_Both_other, rfl, by show 2 ≤ sizeLine; decide, fun p hp => q p _ hp ⟨_, _, rfl, hi, hj⟩⟩
  | _ => exact hq.elim
/- what a call o.parts() asks -/
theorem parts_at (Tx : Tab K mg t) {H : Hp} {a : Addr} {r : RT} (h : RAt (rc t) K H a r) :
    ∃ (C dx : Addr) (fs : List (Str × V)) (f : Addr) (fd : FuncData) (sp : Sp), H a = some (.ins C dx fs) ∧ fs.lookup ("parts" : Str) = none ∧ Cls K C ∧ Meth K C "parts" f ∧ FnOk P w K mg base CX0 1 f fd ["self"] sp ∧ Binds K fd ["self"] [] ∧
      ∀ (Q : VK), (∀ p xs, H p = none → PartsIs (rc t) K H r xs → Q (.ref p) (upd H p (.lst xs))) → sp [.ref a] H Q E0 := by
  cases h with
  | always h => exact ⟨_, _, _, _, _, _, h, rfl, Tx.cl_Rule, Tx.me_Rule_parts, parts_rule Tx, Tx.b_Rule_parts, fun Q q => ⟨a, _, rfl, .always h, trivial, q⟩⟩
  | week h hb => exact ⟨_, _, _, _, _, _, h, rfl, Tx.cl_Week, Tx.me_Week_parts, parts_rule Tx, Tx.b_Rule_parts, fun Q q => ⟨a, _, rfl, .week h hb, trivial, q⟩⟩
  | span h hx hy hi => exact ⟨_, _, _, _, _, _, h, rfl, Tx.cl_Span, Tx.me_Span_parts, parts_span Tx, Tx.b_Span_parts, fun Q q => ⟨a, _, rfl, .span h hx hy hi, trivial, q⟩⟩
  | each h h1 h2 hp => exact ⟨_, _, _, _, _, _, h, rfl, Tx.cl_Each, Tx.me_Each_parts, parts_rule Tx, Tx.b_Rule_parts, fun Q q => ⟨a, _, rfl, .each h h1 h2 hp, trivial, q⟩⟩
  | either h hi hj => exact ⟨_, _, _, _, _, _, h, rfl, Tx.cl_Either, Tx.me_Either_parts, parts_either Tx, Tx.b_Either_parts, fun Q q => ⟨a, _, rfl, .either h hi hj, trivial, q⟩⟩
  | both h hi hj => exact ⟨_, _, _, _, _, _, h, rfl, Tx.cl_Both, Tx.me_Both_parts, parts_both Tx, Tx.b_Both_parts, fun Q q => ⟨a, _, rfl, .both h hi hj, trivial, q⟩⟩
  | but h hp hi => exact ⟨_, _, _, _, _, _, h, rfl, Tx.cl_But, Tx.me_But_parts, parts_but Tx, Tx.b_But_parts, fun Q q => ⟨a, _, rfl, .but h hp hi, trivial, q⟩⟩
/- how an object's class has a method of Rule's own -/
theorem meth_at (Tx : Tab K mg t) {H : Hp} {a : Addr} {r : RT} (h : RAt (rc t) K H a r) : ∃ (C dx : Addr) (fs : List (Str × V)), H a = some (.ins C dx fs) ∧ Cls K C ∧ (fs.lookup ("weight" : Str) = none ∧ Meth K C "weight" t.f_Rule_weight) ∧ (fs.lookup ("depth" : Str) = none ∧ Meth K C "depth" t.f_Rule_depth) := by
  cases h with
  | always h => exact ⟨_, _, _, h, Tx.cl_Rule, ⟨rfl, Tx.me_Rule_weight⟩, ⟨rfl, Tx.me_Rule_depth⟩⟩
  | week h hb => exact ⟨_, _, _, h, Tx.cl_Week, ⟨rfl, Tx.me_Week_weight⟩, ⟨rfl, Tx.me_Week_depth⟩⟩
  | span h hx hy hi => exact ⟨_, _, _, h, Tx.cl_Span, ⟨rfl, Tx.me_Span_weight⟩, ⟨rfl, Tx.me_Span_depth⟩⟩
  | each h h1 h2 hp => exact ⟨_, _, _, h, Tx.cl_Each, ⟨rfl, Tx.me_Each_weight⟩, ⟨rfl, Tx.me_Each_depth⟩⟩
  | either h hi hj => exact ⟨_, _, _, h, Tx.cl_Either, ⟨rfl, Tx.me_Either_weight⟩, ⟨rfl, Tx.me_Either_depth⟩⟩
  | both h hi hj => exact ⟨_, _, _, h, Tx.cl_Both, ⟨rfl, Tx.me_Both_weight⟩, ⟨rfl, Tx.me_Both_depth⟩⟩
  | but h hp hi => exact ⟨_, _, _, h, Tx.cl_But, ⟨rfl, Tx.me_But_weight⟩, ⟨rfl, Tx.me_But_depth⟩⟩

/- o.m() where the reading may not name the context (inside a comprehension) -/
def tMethC (P : Program) (w : World) (K : PySem.W.Frag) (mg : Str → Option Value) (base : Heap) (k : Nat) (m : Str) (ta : TE) : TE := fun σ H Q => ta σ H fun x H1 => ∃ (a C dx : Addr) (fs : List (Str × V)) (f : Addr) (fd : FuncData) (ps : List Str) (sp : Sp),
  x = .ref a ∧ H1 a = some (.ins C dx fs) ∧ fs.lookup m = none ∧ Cls K C ∧ Meth K C m f ∧ FnOk P w K mg base CX0 k f fd ps sp ∧ Binds K fd ps [] ∧ sp [.ref a] H1 Q E0
theorem pe_methC {X : Cx} {m : Str} {o : Expr} {ta : TE} {pos apos : Pos} {pl : Sem Bool} (P : Program) (w : World) (K : PySem.W.Frag) (mg : Str → Option Value) (base : Heap) (k : Nat) (hr : Room k X.A) (he : PE X o ta)
    (hP : X.prog = P := by rfl) (hw : X.w = w := by rfl) (hK : X.K = K := by rfl) (hm : X.mg = mg := by rfl) (hb : X.base = base := by rfl)
    (ht : eval (.Call (.Attribute o m apos) [] [] pos) X.env = (do
      let ov ← eval o X.env
      standAt apos.atName
      let (f, first) ← holding [ov] (getMethod ov m pl)
      callWith pos f first (backTo pos (starEach [] X.env)) (backToKw pos (keywordEach [] X.env))) := by rfl) :
    PE X (.Call (.Attribute o m apos) [] [] pos) (tMethC P w K mg base k m ta) := by
  subst hP hw hK hm hb
  intro pins s σ H Q I h
  refine PySem.W.methodCall_KW (pl := pl) (thn (he pins s σ H _ I h) fun u s1 ⟨x, H1, I1, rx, a, C, dx, fs, f, fd, ps, sp, ex, ea, l, c, hm, F, hb, q⟩ => ?_) ht
  subst ex
  obtain rfl : u = Value.ref a := rx
  refine getmeth_ok I1 ea c hm l ?_
  exact PySem.W.callWith_K0 (first := [.ref a]) I1.kIn hm.kp (run_fn (us := [.ref a]) (vs := [.ref a]) (dvs := []) F hr hb .nil pass0 I1 (.cons rfl .nil) q)
def kids : RT → List RT
  | .always | .week _ | .each _ _ => []
  | .span _ _ r | .but _ r => [r]
  | .either r s | .both r s => [r, s]
theorem kids_weight (r : RT) : r.weight = 1 + ((kids r).map RT.weight).sum := by
  cases r <;> simp [kids, RT.weight]
theorem kids_deep {r k : RT} (h : k ∈ kids r) : k.depth < r.depth := by
  cases r <;> simp [kids] at h
  all_goals simp only [RT.depth]
  · subst h; omega
  · rcases h with rfl | rfl <;> omega
  · rcases h with rfl | rfl <;> omega
  · subst h; omega
theorem kids_len (r : RT) : (kids r).length ≤ 2 := by
  cases r <;> simp [kids]
theorem parts_kids {c : RC} {K : PySem.W.Frag} {H : Hp} {r : RT} {xs : List V} (h : PartsIs c K H r xs) : xs.length = (kids r).length ∧ ∀ (i : Nat) (x : V), xs[i]? = some x → ∃ (j : Addr) (k : RT), x = .ref j ∧ (kids r)[i]? = some k ∧ RAt c K H j k := by
  have none : ∀ (i : Nat) (x : V), ([] : List V)[i]? = some x → False := fun i x e => by cases e
  have one : ∀ {a : Addr} {r1 : RT}, RAt c K H a r1 → ∀ (i : Nat) (x : V), [V.ref a][i]? = some x → ∃ (j : Addr) (k : RT), x = .ref j ∧ [r1][i]? = some k ∧ RAt c K H j k := fun {a r1} q i x e => by
    match i, e with
    | 0, e => exact ⟨a, r1, (Option.some.inj e).symm, rfl, q⟩
    | _ + 1, e => cases e
  have two : ∀ {a b : Addr} {r1 r2 : RT}, RAt c K H a r1 → RAt c K H b r2 → ∀ (i : Nat) (x : V), [V.ref a, V.ref b][i]? = some x → ∃ (j : Addr) (k : RT), x = .ref j ∧ [r1, r2][i]? = some k ∧ RAt c K H j k := fun {a b r1 r2} q1 q2 i x e => by
    match i, e with
    | 0, e => exact ⟨a, r1, (Option.some.inj e).symm, rfl, q1⟩
    | 1, e => exact ⟨b, r2, (Option.some.inj e).symm, rfl, q2⟩
    | _ + 2, e => cases e
  cases r with
  | always => cases h; exact ⟨rfl, fun i x e => (none i x e).elim⟩
  | week b => cases h; exact ⟨rfl, fun i x e => (none i x e).elim⟩
  | each n ss => cases h; exact ⟨rfl, fun i x e => (none i x e).elim⟩
  | span a b r1 => obtain ⟨i, rfl, q⟩ := h; exact ⟨rfl, one q⟩
  | but ds r1 => obtain ⟨i, rfl, q⟩ := h; exact ⟨rfl, one q⟩
  | either r1 r2 => obtain ⟨i, j, rfl, q1, q2⟩ := h; exact ⟨rfl, two q1 q2⟩
  | both r1 r2 => obtain ⟨i, j, rfl, q1, q2⟩ := h; exact ⟨rfl, two q1 q2⟩
theorem sum_ints : ∀ l : List Nat, (l.map fun n => ((n : Nat) : Int)).sum = ((l.sum : Nat) : Int)
  | [] => rfl
  | x :: r => by
    rw [List.map_cons, List.sum_cons, List.sum_cons, sum_ints r]
    omega
theorem le_sum {x : Nat} : ∀ {l : List Nat}, x ∈ l → x ≤ l.sum
  | y :: r, h => by
    rw [List.sum_cons]
    rcases List.mem_cons.mp h with rfl | h
    · omega
    · have := le_sum h
      omega
/- weight, of a rule no deeper than n -/
def spWeight (c : RC) (K : PySem.W.Frag) (n : Nat) : Sp := fun vs H Q _ => ∃ (a : Addr) (r : RT), vs = [.ref a] ∧ RAt c K H a r ∧ r.depth ≤ n ∧ r.weight ≤ 1000000 ∧ ∀ H', Same H H' → Q (.int (r.weight : Nat)) H'
theorem weight_ok (Tx : Tab K mg t) : ∀ n : Nat, FnOk P w K mg base CX0 (n + 1) t.f_Rule_weight t.d_Rule_weight ["self"] (spWeight (rc t) K n) := by
  intro n
  induction n with
  | zero =>
    refine Tx.F_Rule_weight.ok sc_Rule_weight (fun vs H Q E h => ?_) (fun cdv A outer s H vs Q E hr h => ?_)
    · obtain ⟨a, r, rfl, _⟩ := h
      rfl
    · obtain ⟨a, r, rfl, h, hd, _⟩ := h
      have := r.depth_pos
      omega
  | succ n ih =>
  refine Tx.F_Rule_weight.ok sc_Rule_weight (fun vs H Q E h => ?_) (fun cdv A outer s H vs Q E hr h => ?_)
  · obtain ⟨a, r, rfl, _⟩ := h
    rfl
  obtain ⟨a, r, rfl, h, hd, hw, q⟩ := h
  refine ⟨_, (pss_one (ps_ret (pe_op op_add pe_int (pe_callB (call_sum_list rfl) rfl Tx.z_sum b_sum (pac (pe_comp (cl := []) (N := ["part"]) (fr := [none]) rfl (pi_list (pe_meth0D (pv 0))) rfl (by decide +kernel) rfl (by decide +kernel) trivial trivial rfl (fun _ _ _ _ _ => pg_name (i := 0) (nd1 _) rfl (Or.inl rfl)) (fun _ _ _ _ _ => pts_nil) (fun _ _ _ _ _ => pe_methC P w K mg base (n + 1) (hr.mono (by omega)) (pv 0))) pa_nil))))), ?_⟩
  obtain ⟨C, dx, fs, f, fd, sp, l, lk, cl, me, F, hb, pp⟩ := parts_at (P := P) (w := w) (mg := mg) (base := base) Tx h
  refine ⟨_, rfl, a, C, dx, fs, f, fd, _, _, sp, CX0, E0, rfl, l, lk, cl, me, F, hr.mono (by omega), hb, pass0, pp _ fun p xs hp hx => ?_⟩
  obtain ⟨hl, hk⟩ := parts_kids hx
  have kl := kids_len r
  have s0 : Same H (upd H p (.lst xs)) := same_new hp _
  refine ⟨p, rfl, ⟨xs, SqL.of upd_same⟩, comp_list (K := K) (a := p) (xs := xs) (fun i acc σ H' => Same (upd H p (.lst xs)) H' ∧ acc = (((kids r).take i).map fun k => V.int (k.weight : Nat)) ∧ ∃ v, σ = [v])
    ⟨Same.refl _, rfl, _, rfl⟩ (by show xs.length ≤ sizeLine; exact Nat.le_trans (by omega) (show 2 ≤ sizeLine by decide)) (fun i acc σ H' _ ⟨s', _⟩ => SqL.of (s' _ _ upd_same)) ?_ ?_⟩
  · rintro i x acc σ H' ha hx ⟨s', e, v, rfl⟩
    obtain ⟨j, k, rfl, hk1, hk2⟩ := hk i x hx
    have km : k ∈ kids r := List.mem_of_getElem? hk1
    have kd := kids_deep km
    have kw : k.weight ≤ r.weight := by
      rw [kids_weight r]
      have := le_sum (List.mem_map_of_mem (f := RT.weight) km)
      omega
    dsimp only [gName, tTrue]
    rw [if_pos rfl]
    have hj := hk2.same (s0.trans s')
    obtain ⟨C2, dx2, fs2, l2, cl2, ⟨lk2, me2⟩, _⟩ := meth_at Tx hj
    refine ⟨_, rfl, j, C2, dx2, fs2, _, _, _, _, rfl, l2, lk2, cl2, me2, ih, Tx.b_Rule_weight, j, k, rfl, hj, by omega, by omega, fun H3 s3 => ⟨?_, s'.trans s3, ?_, _, rfl⟩⟩
    · rw [List.length_append, List.length_singleton]; omega
    · rw [e, List.take_add_one, hk1]
      simp
  · rintro acc σ H' ha ⟨s', e, v, rfl⟩ p3 g3
    have e2 : acc = ((((kids r).map RT.weight).map fun n => ((n : Nat) : Int)).map V.int) := by
      rw [e, hl, List.take_length, List.map_map, List.map_map]
      rfl
    refine ⟨p3, _, rfl, SqL.of (by rw [upd_same, e2]), ?_, ?_, ?_⟩
    · intro n hn
      obtain ⟨m, hm, rfl⟩ := List.mem_map.mp hn
      have := le_sum hm
      have := kids_weight r
      omega
    · rw [List.length_map, List.length_map]; omega
    · have s4 := (s0.trans s').trans (same_new g3 (.lst acc))
      have q2 := q _ s4
      rw [kids_weight r] at q2
      refine ⟨_, _, rfl, rfl, ?_⟩
      rw [sum_ints]
      exact q2

theorem mxL_nat : ∀ (l : List Nat) (x : Nat), mxL (some ((x : Nat) : Int)) (l.map fun n => ((n : Nat) : Int)) = some (((l.foldl max x : Nat)) : Int)
  | [], x => rfl
  | y :: r, x => by
    show mxL (some (mxB (some ((x : Nat) : Int)) ((y : Nat) : Int))) _ = _
    have e : mxB (some ((x : Nat) : Int)) ((y : Nat) : Int) = ((max x y : Nat) : Int) := by
      show (if ((y : Nat) : Int) > ((x : Nat) : Int) then ((y : Nat) : Int) else ((x : Nat) : Int)) = _
      split <;> omega
    rw [e]
    exact mxL_nat r (max x y)
theorem kids_depth (r : RT) : (1 : Int) + (mxL none (((kids r).map RT.depth).map fun n => ((n : Nat) : Int))).getD 0 = ((r.depth : Nat) : Int) := by
  have one : ∀ k : Nat, (1 : Int) + (mxL none ([k].map fun n => ((n : Nat) : Int))).getD 0 = ((1 + k : Nat) : Int) := fun k => by
    show (1 : Int) + ((k : Nat) : Int) = _
    omega
  have two : ∀ k m : Nat, (1 : Int) + (mxL none ([k, m].map fun n => ((n : Nat) : Int))).getD 0 = ((1 + max k m : Nat) : Int) := fun k m => by
    show (1 : Int) + (mxL (some ((k : Nat) : Int)) ([m].map fun n => ((n : Nat) : Int))).getD 0 = _
    rw [mxL_nat]
    show (1 : Int) + ((max k m : Nat) : Int) = _
    omega
  cases r with
  | always => rfl
  | week b => rfl
  | each n ss => rfl
  | span a b r1 => exact one _
  | but ds r1 => exact one _
  | either r1 r2 => exact two _ _
  | both r1 r2 => exact two _ _
/- depth, of a rule no deeper than n -/
def spDepth (c : RC) (K : PySem.W.Frag) (n : Nat) : Sp := fun vs H Q _ => ∃ (a : Addr) (r : RT), vs = [.ref a] ∧ RAt c K H a r ∧ r.depth ≤ n ∧ ∀ H', Same H H' → Q (.int (r.depth : Nat)) H'
theorem depth_ok (Tx : Tab K mg t) : ∀ n : Nat, FnOk P w K mg base CX0 (n + 1) t.f_Rule_depth t.d_Rule_depth ["self"] (spDepth (rc t) K n) := by
  intro n
  induction n with
  | zero =>
    refine Tx.F_Rule_depth.ok sc_Rule_depth (fun vs H Q E h => ?_) (fun cdv A outer s H vs Q E hr h => ?_)
    · obtain ⟨a, r, rfl, _⟩ := h
      rfl
    · obtain ⟨a, r, rfl, h, hd, _⟩ := h
      have := r.depth_pos
      omega
  | succ n ih =>
  refine Tx.F_Rule_depth.ok sc_Rule_depth (fun vs H Q E h => ?_) (fun cdv A outer s H vs Q E hr h => ?_)
  · obtain ⟨a, r, rfl, _⟩ := h
    rfl
  obtain ⟨a, r, rfl, h, hd, q⟩ := h
  refine ⟨_, (pss_one (ps_ret (pe_op op_add pe_int (pe_maxd rfl rfl Tx.z_max b_max (pac (pe_comp (cl := []) (N := ["part"]) (fr := [none]) rfl (pi_list (pe_meth0D (pv 0))) rfl (by decide +kernel) rfl (by decide +kernel) trivial trivial rfl (fun _ _ _ _ _ => pg_name (i := 0) (nd1 _) rfl (Or.inl rfl)) (fun _ _ _ _ _ => pts_nil) (fun _ _ _ _ _ => pe_methC P w K mg base (n + 1) (hr.mono (by omega)) (pv 0))) pa_nil) (pk_cons pe_int pk_nil))))), ?_⟩
  obtain ⟨C, dx, fs, f, fd, sp, l, lk, cl, me, F, hb, pp⟩ := parts_at (P := P) (w := w) (mg := mg) (base := base) Tx h
  refine ⟨_, rfl, a, C, dx, fs, f, fd, _, _, sp, CX0, E0, rfl, l, lk, cl, me, F, hr.mono (by omega), hb, pass0, pp _ fun p xs hp hx => ?_⟩
  obtain ⟨hl, hk⟩ := parts_kids hx
  have kl := kids_len r
  have s0 : Same H (upd H p (.lst xs)) := same_new hp _
  refine ⟨p, rfl, ⟨xs, SqL.of upd_same⟩, comp_list (K := K) (a := p) (xs := xs) (fun i acc σ H' => Same (upd H p (.lst xs)) H' ∧ acc = (((kids r).take i).map fun k => V.int (k.depth : Nat)) ∧ ∃ v, σ = [v])
    ⟨Same.refl _, rfl, _, rfl⟩ (by show xs.length ≤ sizeLine; exact Nat.le_trans (by omega) (show 2 ≤ sizeLine by decide)) (fun i acc σ H' _ ⟨s', _⟩ => SqL.of (s' _ _ upd_same)) ?_ ?_⟩
  · rintro i x acc σ H' ha hx ⟨s', e, v, rfl⟩
    obtain ⟨j, k, rfl, hk1, hk2⟩ := hk i x hx
    have km : k ∈ kids r := List.mem_of_getElem? hk1
    have kd := kids_deep km
    dsimp only [gName, tTrue]
    rw [if_pos rfl]
    have hj := hk2.same (s0.trans s')
    obtain ⟨C2, dx2, fs2, l2, cl2, _, ⟨lk2, me2⟩⟩ := meth_at Tx hj
    refine ⟨_, rfl, j, C2, dx2, fs2, _, _, _, _, rfl, l2, lk2, cl2, me2, ih, Tx.b_Rule_depth, j, k, rfl, hj, by omega, fun H3 s3 => ⟨?_, s'.trans s3, ?_, _, rfl⟩⟩
    · rw [List.length_append, List.length_singleton]; omega
    · rw [e, List.take_add_one, hk1]
      simp
  · rintro acc σ H' ha ⟨s', e, v, rfl⟩ p3 g3
    have e2 : acc = ((((kids r).map RT.depth).map fun n => ((n : Nat) : Int)).map V.int) := by
      rw [e, hl, List.take_length, List.map_map, List.map_map]
      rfl
    have s4 := (s0.trans s').trans (same_new g3 (.lst acc))
    have q2 := q _ s4
    rw [← kids_depth r] at q2
    exact ⟨p3, _, 0, rfl, rfl, SqL.of (by rw [upd_same, e2]), _, _, rfl, rfl, q2⟩

/- check_size, of a rule that is small enough -/
def spSize (c : RC) (K : PySem.W.Frag) : Sp := fun vs H Q _ => ∃ (a : Addr) (r : RT), vs = [.ref a] ∧ RAt c K H a r ∧ r.weight ≤ 15 ∧ r.depth ≤ 8 ∧ ∀ H', Same H H' → Q .non H'
theorem ok_check_size (Tx : Tab K mg t) : FnOk P w K mg base CX0 10 t.f_check_size t.d_check_size ["rule"] (spSize (rc t) K) := by
  refine Tx.F_check_size.ok sc_check_size (fun vs H Q E h => ?_) (fun cdv A outer s H vs Q E hr h => ?_)
  · obtain ⟨a, r, rfl, _⟩ := h
    rfl
  obtain ⟨a, r, rfl, h, hw, hd, q⟩ := h
  refine ⟨_, (pss_cons (ps_if (pt_cmpR op_gt (pe_meth0D (pv 0)) (pe_gintE rfl Tx.m_MOST_WEIGHT) (nomark _))
    (pss_one ps_never)
    pss_nil)
    (pss_one (ps_if (pt_cmpR op_gt (pe_meth0D (pv 0)) (pe_gintE rfl Tx.m_MOST_DEPTH) (nomark _))
    (pss_one ps_never)
    pss_nil))), ?_⟩
  obtain ⟨C, dx, fs, l, cl, ⟨lk, me⟩, _⟩ := meth_at Tx h
  refine ⟨_, rfl, a, C, dx, fs, _, _, _, _, _, CX0, E0, rfl, l, lk, cl, me, weight_ok Tx 8, hr.mono (by omega), Tx.b_Rule_weight, pass0, a, r, rfl, h, hd, by omega, fun H1 s1 => ?_⟩
  refine ⟨_, _, rfl, rfl, _, rfl, itF (by rw [decide_eq_false (by omega)]; decide) ?_⟩
  have h1 := h.same s1
  obtain ⟨C, dx, fs, l, cl, _, ⟨lk, me⟩⟩ := meth_at Tx h1
  refine ⟨_, rfl, a, C, dx, fs, _, _, _, _, _, CX0, E0, rfl, l, lk, cl, me, depth_ok Tx 8, hr.mono (by omega), Tx.b_Rule_depth, pass0, a, r, rfl, h1, hd, fun H2 s2 => ?_⟩
  exact ⟨_, _, rfl, rfl, _, rfl, itF (by rw [decide_eq_false (by omega)]; decide) (q H2 (s1.trans s2))⟩
/- copied, of a rule of one sort (q) no deeper than n -/
def spCopied (c : RC) (K : PySem.W.Frag) (q : RT → Prop) (n : Nat) : Sp := fun vs H Q _ => ∃ (a : Addr) (r : RT), vs = [.ref a] ∧ RAt c K H a r ∧ q r ∧ r.good ∧ r.weight ≤ 15 ∧ r.depth ≤ 8 ∧ r.depth ≤ n ∧ ∀ b H', Same H H' → RAt c K (dif H' H) b r → Q (.ref b) H'
structure CopOk (P : Program) (w : World) (K : PySem.W.Frag) (mg : Str → Option Value) (base : Heap) (t : Adr) (n : Nat) : Prop where
  rule : FnOk P w K mg base CX0 (4 * n + 10) t.f_Rule_copied t.d_Rule_copied ["self"] (spCopied (rc t) K isAlways n)
  week : FnOk P w K mg base CX0 (4 * n + 10) t.f_Week_copied t.d_Week_copied ["self"] (spCopied (rc t) K isWeek n)
  span : FnOk P w K mg base CX0 (4 * n + 10) t.f_Span_copied t.d_Span_copied ["self"] (spCopied (rc t) K isSpan n)
  each : FnOk P w K mg base CX0 (4 * n + 10) t.f_Each_copied t.d_Each_copied ["self"] (spCopied (rc t) K isEach n)
  either : FnOk P w K mg base CX0 (4 * n + 10) t.f_Either_copied t.d_Either_copied ["self"] (spCopied (rc t) K isEither n)
  both : FnOk P w K mg base CX0 (4 * n + 10) t.f_Both_copied t.d_Both_copied ["self"] (spCopied (rc t) K isBoth n)
  but : FnOk P w K mg base CX0 (4 * n + 10) t.f_But_copied t.d_But_copied ["self"] (spCopied (rc t) K isBut n)
/- what a call o.copied() asks, and what isinstance tells -/
theorem CopOk.at {n : Nat} (R : CopOk P w K mg base t n) (Tx : Tab K mg t) {H : Hp} {a : Addr} {r : RT} (h : RAt (rc t) K H a r) (g : r.good) (hw : r.weight ≤ 15) (hd : r.depth ≤ 8) (hn : r.depth ≤ n) :
    ∃ (C dx : Addr) (fs : List (Str × V)) (f : Addr) (fd : FuncData) (sp : Sp), H a = some (.ins C dx fs) ∧ fs.lookup ("copied" : Str) = none ∧ Cls K C ∧ Meth K C "copied" f ∧ FnOk P w K mg base CX0 (4 * n + 10) f fd ["self"] sp ∧ Binds K fd ["self"] [] ∧
      ∀ (Q : VK), (∀ b H', Same H H' → RAt (rc t) K (dif H' H) b r → Q (.ref b) H') → sp [.ref a] H Q E0 := by
  cases h with
  | always h => exact ⟨_, _, _, _, _, _, h, rfl, Tx.cl_Rule, Tx.me_Rule_copied, R.rule, Tx.b_Rule_copied, fun Q q => ⟨a, _, rfl, .always h, trivial, g, hw, hd, hn, q⟩⟩
  | week h hb => exact ⟨_, _, _, _, _, _, h, rfl, Tx.cl_Week, Tx.me_Week_copied, R.week, Tx.b_Week_copied, fun Q q => ⟨a, _, rfl, .week h hb, trivial, g, hw, hd, hn, q⟩⟩
  | span h hx hy hi => exact ⟨_, _, _, _, _, _, h, rfl, Tx.cl_Span, Tx.me_Span_copied, R.span, Tx.b_Span_copied, fun Q q => ⟨a, _, rfl, .span h hx hy hi, trivial, g, hw, hd, hn, q⟩⟩
  | each h h1 h2 hp => exact ⟨_, _, _, _, _, _, h, rfl, Tx.cl_Each, Tx.me_Each_copied, R.each, Tx.b_Each_copied, fun Q q => ⟨a, _, rfl, .each h h1 h2 hp, trivial, g, hw, hd, hn, q⟩⟩
  | either h hi hj => exact ⟨_, _, _, _, _, _, h, rfl, Tx.cl_Either, Tx.me_Either_copied, R.either, Tx.b_Either_copied, fun Q q => ⟨a, _, rfl, .either h hi hj, trivial, g, hw, hd, hn, q⟩⟩
  | both h hi hj => exact ⟨_, _, _, _, _, _, h, rfl, Tx.cl_Both, Tx.me_Both_copied, R.both, Tx.b_Both_copied, fun Q q => ⟨a, _, rfl, .both h hi hj, trivial, g, hw, hd, hn, q⟩⟩
  | but h hp hi => exact ⟨_, _, _, _, _, _, h, rfl, Tx.cl_But, Tx.me_But_copied, R.but, Tx.b_But_copied, fun Q q => ⟨a, _, rfl, .but h hp hi, trivial, g, hw, hd, hn, q⟩⟩
/- an object that shows a rule is one -/
theorem is_rule (Tx : Tab K mg t) {H : Hp} {a : Addr} {r : RT} (h : RAt (rc t) K H a r) : ∃ C, TyOf K H (.ref a) (.ref C) ∧ PySem.W.kitOne K (.ref C) (.ref t.c_Rule) = some true := by
  cases h with
  | always h => exact ⟨_, Tx.ow_Rule.ty Tx.cl_Rule h, Tx.ki_Rule_Rule⟩
  | week h hb => exact ⟨_, Tx.ow_Week.ty Tx.cl_Week h, Tx.ki_Week_Rule⟩
  | span h hx hy hi => exact ⟨_, Tx.ow_Span.ty Tx.cl_Span h, Tx.ki_Span_Rule⟩
  | each h h1 h2 hp => exact ⟨_, Tx.ow_Each.ty Tx.cl_Each h, Tx.ki_Each_Rule⟩
  | either h hi hj => exact ⟨_, Tx.ow_Either.ty Tx.cl_Either h, Tx.ki_Either_Rule⟩
  | both h hi hj => exact ⟨_, Tx.ow_Both.ty Tx.cl_Both h, Tx.ki_Both_Rule⟩
  | but h hp hi => exact ⟨_, Tx.ow_But.ty Tx.cl_But h, Tx.ki_But_Rule⟩
def spCopy (c : RC) (K : PySem.W.Frag) (n : Nat) : Sp := fun vs H Q _ => ∃ (a : Addr) (r : RT), vs = [.ref a] ∧ RAt c K H a r ∧ r.good ∧ r.weight ≤ 15 ∧ r.depth ≤ 8 ∧ r.depth ≤ n ∧ ∀ b H', Same H H' → RAt c K (dif H' H) b r → Q (.ref b) H'
theorem copy_ok (Tx : Tab K mg t) (n : Nat) (R : CopOk P w K mg base t n) : FnOk P w K mg base CX0 (4 * n + 11) t.f_copy_of t.d_copy_of ["rule"] (spCopy (rc t) K n) := by
  refine Tx.F_copy_of.ok sc_copy_of (fun vs H Q E h => ?_) (fun cdv A outer s H vs Q E hr h => ?_)
  · obtain ⟨a, r, rfl, _⟩ := h
    rfl
  obtain ⟨a, r, rfl, h, g, hw, hd, hn, q⟩ := h
  refine ⟨_, (pss_cons (ps_if (pt_not (pt_val (pe_callB call_isi_own rfl Tx.z_isinstance b_isinstance (pac (pv 0) (pac (pe_gref rfl Tx.m_Rule) pa_nil)))))
    (pss_one ps_never)
    pss_nil)
    (pss_one (ps_ret (pe_meth0D (pv 0))))), ?_⟩
  obtain ⟨C0, ty, ki⟩ := is_rule Tx h
  refine ⟨_, rfl, .ref a, t.c_Rule, _, _, rfl, ty, ki, _, rfl, itF (by decide) ?_⟩
  obtain ⟨C, dx, fs, f, fd, sp, g1, g2, g3, g4, g5, g6, g7⟩ := R.at Tx h g hw hd hn
  exact ⟨_, rfl, a, C, dx, fs, f, fd, _, _, sp, CX0, E0, rfl, g1, g2, g3, g4, g5, hr.mono (by omega), g6, pass0, g7 _ q⟩
theorem few1 (f : Str) (v : V) : (putF f v []).length < 1000 := Nat.lt_of_le_of_lt (length_putF _ _ _) (by decide)
theorem few2 (f g : Str) (v u : V) : (putF f v (putF g u [])).length < 1000 := Nat.lt_of_le_of_lt (length_putF _ _ _) (Nat.lt_of_le_of_lt (Nat.succ_le_succ (length_putF _ _ _)) (by decide))
/- __init__ at the new object x of the class C, made over H0 -/
structure New (H0 H : Hp) (x C : Addr) : Prop where
  no : H0 x = none
  sm : Same H0 H
  at_ : ∃ dx, H x = some (.ins C dx [])
def spWeek (c : RC) (K : PySem.W.Frag) : Sp := fun vs H Q _ => ∃ (x : Addr) (H0 : Hp) (b : Nat), vs = [.ref x, .int (b : Nat)] ∧ New H0 H x c.week ∧ b ≤ 127 ∧ ∀ H', Same H0 H' → RAt c K (dif H' H0) x (.week b) → Q .non H'
def spEach (c : RC) (K : PySem.W.Frag) : Sp := fun vs H Q _ => ∃ (x l : Addr) (H0 : Hp) (n : Nat) (ss : List Nat), vs = [.ref x, .int (n : Nat), .ref l] ∧ New H0 H x c.each ∧ H0 l = some (.lst (natV ss)) ∧ (RT.each n ss).good ∧ ∀ H', Same H0 H' → RAt c K (dif H' H0) x (.each n ss) → Q .non H'
def spSpan (c : RC) (K : PySem.W.Frag) (n : Nat) : Sp := fun vs H Q _ => ∃ (x i : Addr) (H0 : Hp) (a b : Nat) (r : RT), vs = [.ref x, .int (a : Nat), .int (b : Nat), .ref i] ∧ New H0 H x c.span ∧ RAt c K H0 i r ∧ (RT.span a b r).good ∧ (RT.span a b r).weight ≤ 15 ∧ (RT.span a b r).depth ≤ 8 ∧ r.depth ≤ n ∧
  ∀ H', Same H0 H' → RAt c K (dif H' H0) x (.span a b r) → Q .non H'
def spBut (c : RC) (K : PySem.W.Frag) (n : Nat) : Sp := fun vs H Q _ => ∃ (x l i : Addr) (H0 : Hp) (ds : List Nat) (r : RT), vs = [.ref x, .ref l, .ref i] ∧ New H0 H x c.but ∧ H0 l = some (.lst (natV ds)) ∧ RAt c K H0 i r ∧ (RT.but ds r).good ∧ (RT.but ds r).weight ≤ 15 ∧ (RT.but ds r).depth ≤ 8 ∧ r.depth ≤ n ∧
  ∀ H', Same H0 H' → RAt c K (dif H' H0) x (.but ds r) → Q .non H'
def spPair (c : RC) (K : PySem.W.Frag) (n : Nat) (C : Addr) (mk : RT → RT → RT) : Sp := fun vs H Q _ => ∃ (x i j : Addr) (H0 : Hp) (r s : RT), vs = [.ref x, .ref i, .ref j] ∧ New H0 H x C ∧ RAt c K H0 i r ∧ RAt c K H0 j s ∧ (mk r s).good ∧ (mk r s).weight ≤ 15 ∧ (mk r s).depth ≤ 8 ∧ r.depth ≤ n ∧ s.depth ≤ n ∧
  ∀ H', Same H0 H' → RAt c K (dif H' H0) x (mk r s) → Q .non H'
theorem init_Week (Tx : Tab K mg t) : FnOk P w K mg base CX0 3 t.f_Week_init t.d_Week_init ["self", "bits"] (spWeek (rc t) K) := by
  refine Tx.F_Week_init.ok sc_Week_init (fun vs H Q E h => ?_) (fun cdv A outer s H vs Q E hr h => ?_)
  · obtain ⟨x, H0, b, rfl, _⟩ := h
    rfl
  obtain ⟨x, H0, b, rfl, ⟨n0, s0, dx, hx⟩, hb, q⟩ := h
  refine ⟨_, (pss_cons (ps_if (pt_not (pt_val (pe_call (ok_is_number Tx) (hr.mono (by omega)) rfl Tx.m_is_number Tx.F_is_number.kp Tx.b_is_number .nil pass0 (pac (pv 1) (pac pe_int (pac (pe_gintE rfl Tx.m_ALL_WEEK) pa_nil))))))
    (pss_one ps_never)
    pss_nil)
    (pss_one (ps_fld (pv 0) (pv 1) rfl))), ?_⟩
  refine ⟨_, rfl, .int (b : Nat), 0, 127, "int", rfl, .int _, _, rfl, itF (by rw [num_ok (by omega) (by omega)]; decide) ?_⟩
  exact ⟨_, rfl, _, rfl, x, _, dx, [], rfl, hx, Tx.cl_Week, Tx.na_Week_bits, by decide, q _ (same_upd n0 s0 _) (.week (dif_at n0 upd_same) hb)⟩
theorem init_Each (Tx : Tab K mg t) : FnOk P w K mg base CX0 4 t.f_Each_init t.d_Each_init ["self", "length", "starts"] (spEach (rc t) K) := by
  refine Tx.F_Each_init.ok sc_Each_init (fun vs H Q E h => ?_) (fun cdv A outer s H vs Q E hr h => ?_)
  · obtain ⟨x, l, H0, n, ss, rfl, _⟩ := h
    rfl
  obtain ⟨x, l, H0, n, ss, rfl, ⟨n0, s0, dx, hx⟩, hl, ⟨b1, b2, g⟩, q⟩ := h
  refine ⟨_, (pss_cons (ps_if (pt_not (pt_val (pe_call (ok_is_number Tx) (hr.mono (by omega)) rfl Tx.m_is_number Tx.F_is_number.kp Tx.b_is_number .nil pass0 (pac (pv 1) (pac pe_int (pac (pe_gintE rfl Tx.m_MOST_LENGTH) pa_nil))))))
    (pss_one ps_never)
    pss_nil)
    (pss_cons (ps_if (pt_not (pt_val (pe_call (ok_are_rising Tx) (hr.mono (by omega)) rfl Tx.m_are_rising Tx.F_are_rising.kp Tx.b_are_rising .nil pass0 (pac (pv 2) (pac (pe_gintE rfl Tx.m_MOST_LISTED) (pac pe_int (pac (pe_op op_sub (pv 1) pe_int) pa_nil)))))))
    (pss_one ps_never)
    pss_nil)
    (pss_cons (ps_fld (pv 0) (pv 1) rfl)
    (pss_one (ps_fld (pv 0) (pe_callTy call_tuple_of rfl Tx.z_tuple b_tuple (pac (pv 2) pa_nil)) rfl))))), ?_⟩
  refine ⟨_, rfl, .int (n : Nat), 1, 28, "int", rfl, .int _, _, rfl, itF (by rw [num_ok (by omega) (by omega)]; decide) ?_⟩
  refine ⟨_, rfl, _, rfl, _, _, rfl, rfl, l, ss, 12, 0, _, rfl, s0 _ _ hl, g.one, g.few, g.up, fun y hy => ⟨Nat.zero_le _, by have := (g.all y hy).2; omega⟩, _, rfl, itF (by decide) ?_⟩
  refine ⟨_, rfl, _, rfl, x, _, dx, [], rfl, hx, Tx.cl_Each, Tx.na_Each_length, by decide, ?_⟩
  have s1 := same_upd n0 s0 (.ins t.c_Each dx (putF "length" (.int (n : Nat)) []))
  refine ⟨_, rfl, l, _, rfl, .inl ⟨SqL.of (s1 _ _ hl), fun p hp => ?_⟩⟩
  have np : p ≠ x := fun z => by rw [z, upd_same] at hp; cases hp
  have p0 : H0 p = none := s1.free hp
  refine ⟨_, rfl, x, _, dx, _, rfl, (by rw [upd_ne np.symm]; exact upd_same), Tx.cl_Each, Tx.na_Each_starts, few1 _ _, ?_⟩
  refine q _ (same_upd n0 (same_upd p0 s1 _) _) (.each (dif_at n0 upd_same) b1 b2 (SqT.of (dif_at p0 (by rw [upd_ne np]; exact upd_same))))
/- self.f = copy_of(..), and what was new stays new -/
theorem keep_new {H0 H1 H2 : Hp} {x : Addr} {o1 : HO} (s0 : Same H0 H1) (x1 : H1 x = some o1) (o : HO) : Same (dif H2 H1) (dif (upd H2 x o) H0) :=
  dif_mono s0 fun a u n e => by rw [upd_ne (fun z => by rw [z, x1] at n; cases n)]; exact e
theorem same_dif {H0 H1 H2 : Hp} (s : Same H1 H2) : Same (dif H1 H0) (dif H2 H0) := fun a o e => dif_at (dif_of e).1 (s _ _ (dif_of e).2)
theorem init_Span (Tx : Tab K mg t) (n : Nat) (R : CopOk P w K mg base t n) : FnOk P w K mg base CX0 (4 * n + 12) t.f_Span_init t.d_Span_init ["self", "first", "last", "rule"] (spSpan (rc t) K n) := by
  refine Tx.F_Span_init.ok sc_Span_init (fun vs H Q E h => ?_) (fun cdv A outer s H vs Q E hr h => ?_)
  · obtain ⟨x, i, H0, a, b, r, rfl, _⟩ := h
    rfl
  obtain ⟨x, i, H0, a, b, r, rfl, ⟨n0, s0, dx, hx⟩, hi, ⟨b1, b2, g⟩, hw, hd, hn, q⟩ := h
  have ew : (RT.span a b r).weight = 1 + r.weight := rfl
  have ed : (RT.span a b r).depth = 1 + r.depth := rfl
  refine ⟨_, (pss_cons (ps_if (pt_not (pt_val (pe_call (ok_is_number Tx) (hr.mono (by omega)) rfl Tx.m_is_number Tx.F_is_number.kp Tx.b_is_number .nil pass0 (pac (pv 1) (pac pe_int (pac (pe_gintE rfl Tx.m_LAST_DAY) pa_nil))))))
    (pss_one ps_never)
    pss_nil)
    (pss_cons (ps_if (pt_not (pt_val (pe_call (ok_is_number Tx) (hr.mono (by omega)) rfl Tx.m_is_number Tx.F_is_number.kp Tx.b_is_number .nil pass0 (pac (pv 2) (pac (pv 1) (pac (pe_gintE rfl Tx.m_LAST_DAY) pa_nil))))))
    (pss_one ps_never)
    pss_nil)
    (pss_cons (ps_fld (pv 0) (pv 1) rfl)
    (pss_cons (ps_fld (pv 0) (pv 2) rfl)
    (pss_cons (ps_fld (pv 0) (pe_call (copy_ok Tx n R) (hr.mono (by omega)) rfl Tx.m_copy_of Tx.F_copy_of.kp Tx.b_copy_of .nil pass0 (pac (pv 3) pa_nil)) rfl)
    (pss_one (ps_expr (pe_call (ok_check_size Tx) (hr.mono (by omega)) rfl Tx.m_check_size Tx.F_check_size.kp Tx.b_check_size .nil pass0 (pac (pv 0) pa_nil))))))))), ?_⟩
  refine ⟨_, rfl, .int (a : Nat), 0, 9999, "int", rfl, .int _, _, rfl, itF (by rw [num_ok (by omega) (by omega)]; decide) ?_⟩
  refine ⟨_, rfl, _, rfl, .int (b : Nat), (a : Nat), 9999, "int", rfl, .int _, _, rfl, itF (by rw [num_ok (by omega) (by omega)]; decide) ?_⟩
  refine ⟨_, rfl, _, rfl, x, _, dx, [], rfl, hx, Tx.cl_Span, Tx.na_Span_first, by decide, ?_⟩
  have s1 := same_upd n0 s0 (.ins t.c_Span dx (putF "first" (.int (a : Nat)) []))
  refine ⟨_, rfl, _, rfl, x, _, dx, _, rfl, upd_same, Tx.cl_Span, Tx.na_Span_last, few1 _ _, ?_⟩
  have s2 := same_upd n0 s1 (.ins t.c_Span dx (putF "last" (.int (b : Nat)) (putF "first" (.int (a : Nat)) [])))
  refine ⟨_, rfl, i, r, rfl, hi.same s2, g, by omega, by omega, hn, fun c H3 s3 h3 => ?_⟩
  refine ⟨_, rfl, x, _, dx, _, rfl, s3 _ _ upd_same, Tx.cl_Span, Tx.na_Span_inner, few2 _ _ _ _, ?_⟩
  have s4 := same_upd n0 (s2.trans s3) (.ins t.c_Span dx (putF "inner" (.ref c) (putF "last" (.int (b : Nat)) (putF "first" (.int (a : Nat)) []))))
  have fin : RAt (rc t) K (dif (upd H3 x (.ins t.c_Span dx (putF "inner" (.ref c) (putF "last" (.int (b : Nat)) (putF "first" (.int (a : Nat)) []))))) H0) x (.span a b r) :=
    .span (dif_at n0 upd_same) b1 b2 (h3.same (keep_new s2 upd_same _))
  exact ⟨_, rfl, x, _, rfl, fin.same (dif_sub _ _), hw, hd, fun H5 s5 => q H5 (s4.trans s5) (fin.same (same_dif s5))⟩
theorem init_But (Tx : Tab K mg t) (n : Nat) (R : CopOk P w K mg base t n) : FnOk P w K mg base CX0 (4 * n + 12) t.f_But_init t.d_But_init ["self", "days", "rule"] (spBut (rc t) K n) := by
  refine Tx.F_But_init.ok sc_But_init (fun vs H Q E h => ?_) (fun cdv A outer s H vs Q E hr h => ?_)
  · obtain ⟨x, l, i, H0, ds, r, rfl, _⟩ := h
    rfl
  obtain ⟨x, l, i, H0, ds, r, rfl, ⟨n0, s0, dx, hx⟩, hl, hi, ⟨b1, g⟩, hw, hd, hn, q⟩ := h
  have ew : (RT.but ds r).weight = 1 + r.weight := rfl
  have ed : (RT.but ds r).depth = 1 + r.depth := rfl
  refine ⟨_, (pss_cons (ps_if (pt_not (pt_val (pe_call (ok_are_rising Tx) (hr.mono (by omega)) rfl Tx.m_are_rising Tx.F_are_rising.kp Tx.b_are_rising .nil pass0 (pac (pv 1) (pac (pe_gintE rfl Tx.m_MOST_LISTED) (pac pe_int (pac (pe_gintE rfl Tx.m_LAST_DAY) pa_nil)))))))
    (pss_one ps_never)
    pss_nil)
    (pss_cons (ps_fld (pv 0) (pe_callTy call_tuple_of rfl Tx.z_tuple b_tuple (pac (pv 1) pa_nil)) rfl)
    (pss_cons (ps_fld (pv 0) (pe_call (copy_ok Tx n R) (hr.mono (by omega)) rfl Tx.m_copy_of Tx.F_copy_of.kp Tx.b_copy_of .nil pass0 (pac (pv 2) pa_nil)) rfl)
    (pss_one (ps_expr (pe_call (ok_check_size Tx) (hr.mono (by omega)) rfl Tx.m_check_size Tx.F_check_size.kp Tx.b_check_size .nil pass0 (pac (pv 0) pa_nil))))))), ?_⟩
  refine ⟨_, rfl, l, ds, 12, 0, _, rfl, s0 _ _ hl, b1.one, b1.few, b1.up, fun y hy => ⟨Nat.zero_le _, by have := (b1.all y hy).2; omega⟩, _, rfl, itF (by decide) ?_⟩
  refine ⟨_, rfl, l, _, rfl, .inl ⟨SqL.of (s0 _ _ hl), fun p hp => ?_⟩⟩
  have np : p ≠ x := fun z => by rw [z, hx] at hp; cases hp
  have p0 : H0 p = none := s0.free hp
  have s1 := same_upd p0 s0 (.tup (natV ds))
  refine ⟨_, rfl, x, _, dx, [], rfl, (by rw [upd_ne np.symm]; exact hx), Tx.cl_But, Tx.na_But_days, by decide, ?_⟩
  have s2 := same_upd n0 s1 (.ins t.c_But dx (putF "days" (.ref p) []))
  refine ⟨_, rfl, i, r, rfl, hi.same s2, g, by omega, by omega, hn, fun c H3 s3 h3 => ?_⟩
  refine ⟨_, rfl, x, _, dx, _, rfl, s3 _ _ upd_same, Tx.cl_But, Tx.na_But_inner, few1 _ _, ?_⟩
  have s4 := same_upd n0 (s2.trans s3) (.ins t.c_But dx (putF "inner" (.ref c) (putF "days" (.ref p) [])))
  have ep : H3 p = some (.tup (natV ds)) := s3 _ _ (by rw [upd_ne np]; exact upd_same)
  have fin : RAt (rc t) K (dif (upd H3 x (.ins t.c_But dx (putF "inner" (.ref c) (putF "days" (.ref p) [])))) H0) x (.but ds r) :=
    .but (dif_at n0 upd_same) (SqT.of (dif_at p0 (by rw [upd_ne np]; exact ep))) (h3.same (keep_new s2 upd_same _))
  exact ⟨_, rfl, x, _, rfl, fin.same (dif_sub _ _), hw, hd, fun H5 s5 => q H5 (s4.trans s5) (fin.same (same_dif s5))⟩
theorem init_Either (Tx : Tab K mg t) (n : Nat) (R : CopOk P w K mg base t n) : FnOk P w K mg base CX0 (4 * n + 12) t.f_Either_init t.d_Either_init ["self", "one", "other"] (spPair (rc t) K n t.c_Either .either) := by
  refine Tx.F_Either_init.ok sc_Either_init (fun vs H Q E h => ?_) (fun cdv A outer s H vs Q E hr h => ?_)
  · obtain ⟨x, i, j, H0, r, s', rfl, _⟩ := h
    rfl
  obtain ⟨x, i, j, H0, r, r2, rfl, ⟨n0, s0, dx, hx⟩, hi, hj, ⟨g1, g2⟩, hw, hd, hn1, hn2, q⟩ := h
  have ew : (RT.either r r2).weight = 1 + (r.weight + r2.weight) := rfl
  have ed : (RT.either r r2).depth = 1 + max r.depth r2.depth := rfl
  refine ⟨_, (pss_cons (ps_fld (pv 0) (pe_call (copy_ok Tx n R) (hr.mono (by omega)) rfl Tx.m_copy_of Tx.F_copy_of.kp Tx.b_copy_of .nil pass0 (pac (pv 1) pa_nil)) rfl)
    (pss_cons (ps_fld (pv 0) (pe_call (copy_ok Tx n R) (hr.mono (by omega)) rfl Tx.m_copy_of Tx.F_copy_of.kp Tx.b_copy_of .nil pass0 (pac (pv 2) pa_nil)) rfl)
    (pss_one (ps_expr (pe_call (ok_check_size Tx) (hr.mono (by omega)) rfl Tx.m_check_size Tx.F_check_size.kp Tx.b_check_size .nil pass0 (pac (pv 0) pa_nil)))))), ?_⟩
  refine ⟨_, rfl, i, r, rfl, hi.same s0, g1, by omega, by omega, hn1, fun c H1 s1 h1 => ?_⟩
  refine ⟨_, rfl, x, _, dx, _, rfl, s1 _ _ hx, Tx.cl_Either, Tx.na_Either_one, by decide, ?_⟩
  have s2 := same_upd n0 (s0.trans s1) (.ins t.c_Either dx (putF "one" (.ref c) []))
  refine ⟨_, rfl, j, r2, rfl, hj.same s2, g2, by omega, by omega, hn2, fun d H3 s3 h3 => ?_⟩
  refine ⟨_, rfl, x, _, dx, _, rfl, s3 _ _ upd_same, Tx.cl_Either, Tx.na_Either_other, few1 _ _, ?_⟩
  have s4 := same_upd n0 (s2.trans s3) (.ins t.c_Either dx (putF "other" (.ref d) (putF "one" (.ref c) [])))
  have c1 : Same (dif H1 H) (dif (upd H3 x (.ins t.c_Either dx (putF "other" (.ref d) (putF "one" (.ref c) [])))) H0) := dif_mono s0 fun a u nn e => by
    have ne : a ≠ x := fun z => by rw [z, hx] at nn; cases nn
    rw [upd_ne ne]
    exact s3 _ _ (by rw [upd_ne ne]; exact e)
  have fin : RAt (rc t) K (dif (upd H3 x (.ins t.c_Either dx (putF "other" (.ref d) (putF "one" (.ref c) [])))) H0) x (.either r r2) :=
    .either (dif_at n0 upd_same) (h1.same c1) (h3.same (keep_new s2 upd_same _))
  exact ⟨_, rfl, x, _, rfl, fin.same (dif_sub _ _), hw, hd, fun H5 s5 => q H5 (s4.trans s5) (fin.same (same_dif s5))⟩
theorem init_Both (Tx : Tab K mg t) (n : Nat) (R : CopOk P w K mg base t n) : FnOk P w K mg base CX0 (4 * n + 12) t.f_Both_init t.d_Both_init ["self", "one", "other"] (spPair (rc t) K n t.c_Both .both) := by
  refine Tx.F_Both_init.ok sc_Both_init (fun vs H Q E h => ?_) (fun cdv A outer s H vs Q E hr h => ?_)
  · obtain ⟨x, i, j, H0, r, s', rfl, _⟩ := h
    rfl
  obtain ⟨x, i, j, H0, r, r2, rfl, ⟨n0, s0, dx, hx⟩, hi, hj, ⟨g1, g2⟩, hw, hd, hn1, hn2, q⟩ := h
  have ew : (RT.both r r2).weight = 1 + (r.weight + r2.weight) := rfl
  have ed : (RT.both r r2).depth = 1 + max r.depth r2.depth := rfl
  refine ⟨_, (pss_cons (ps_fld (pv 0) (pe_call (copy_ok Tx n R) (hr.mono (by omega)) rfl Tx.m_copy_of Tx.F_copy_of.kp Tx.b_copy_of .nil pass0 (pac (pv 1) pa_nil)) rfl)
    (pss_cons (ps_fld (pv 0) (pe_call (copy_ok Tx n R) (hr.mono (by omega)) rfl Tx.m_copy_of Tx.F_copy_of.kp Tx.b_copy_of .nil pass0 (pac (pv 2) pa_nil)) rfl)
    (pss_one (ps_expr (pe_call (ok_check_size Tx) (hr.mono (by omega)) rfl Tx.m_check_size Tx.F_check_size.kp Tx.b_check_size .nil pass0 (pac (pv 0) pa_nil)))))), ?_⟩
  refine ⟨_, rfl, i, r, rfl, hi.same s0, g1, by omega, by omega, hn1, fun c H1 s1 h1 => ?_⟩
  refine ⟨_, rfl, x, _, dx, _, rfl, s1 _ _ hx, Tx.cl_Both, Tx.na_Both_one, by decide, ?_⟩
  have s2 := same_upd n0 (s0.trans s1) (.ins t.c_Both dx (putF "one" (.ref c) []))
  refine ⟨_, rfl, j, r2, rfl, hj.same s2, g2, by omega, by omega, hn2, fun d H3 s3 h3 => ?_⟩
  refine ⟨_, rfl, x, _, dx, _, rfl, s3 _ _ upd_same, Tx.cl_Both, Tx.na_Both_other, few1 _ _, ?_⟩
  have s4 := same_upd n0 (s2.trans s3) (.ins t.c_Both dx (putF "other" (.ref d) (putF "one" (.ref c) [])))
  have c1 : Same (dif H1 H) (dif (upd H3 x (.ins t.c_Both dx (putF "other" (.ref d) (putF "one" (.ref c) [])))) H0) := dif_mono s0 fun a u nn e => by
    have ne : a ≠ x := fun z => by rw [z, hx] at nn; cases nn
    rw [upd_ne ne]
    exact s3 _ _ (by rw [upd_ne ne]; exact e)
  have fin : RAt (rc t) K (dif (upd H3 x (.ins t.c_Both dx (putF "other" (.ref d) (putF "one" (.ref c) [])))) H0) x (.both r r2) :=
    .both (dif_at n0 upd_same) (h1.same c1) (h3.same (keep_new s2 upd_same _))
  exact ⟨_, rfl, x, _, rfl, fin.same (dif_sub _ _), hw, hd, fun H5 s5 => q H5 (s4.trans s5) (fin.same (same_dif s5))⟩
/- a new object, just made -/
theorem made_new {H : Hp} {x dx C : Addr} (nx : H x = none) (nd : H dx = none) : New H (upd (upd H dx (.own x)) x (.ins C dx [])) x C :=
  ⟨nx, same_upd nx (same_upd nd (Same.refl _) _) _, dx, upd_same⟩
theorem copied_rule (Tx : Tab K mg t) (n : Nat) : FnOk P w K mg base CX0 (4 * n + 10) t.f_Rule_copied t.d_Rule_copied ["self"] (spCopied (rc t) K isAlways n) := by
  refine Tx.F_Rule_copied.ok sc_Rule_copied (fun vs H Q E h => ?_) (fun cdv A outer s H vs Q E hr h => ?_)
  · obtain ⟨a, r, rfl, _⟩ := h
    rfl
  obtain ⟨a, r, rfl, h, hq, g, hw, hd, hn, q⟩ := h
  refine ⟨_, (pss_one (ps_ret (pe_makeN Tx.mkn_Rule rfl Tx.m_Rule))), ?_⟩
  cases h with
  | always h => exact fun x dx nx nd nex => q x _ (same_upd nx (same_upd nd (Same.refl _) _) _) (.always (dif_at nx upd_same))
  | _ => exact hq.elim
theorem copied_week (Tx : Tab K mg t) (n : Nat) : FnOk P w K mg base CX0 (4 * n + 10) t.f_Week_copied t.d_Week_copied ["self"] (spCopied (rc t) K isWeek n) := by
  refine Tx.F_Week_copied.ok sc_Week_copied (fun vs H Q E h => ?_) (fun cdv A outer s H vs Q E hr h => ?_)
  · obtain ⟨a, r, rfl, _⟩ := h
    rfl
  obtain ⟨a, r, rfl, h, hq, g, hw, hd, hn, q⟩ := h
  refine ⟨_, (pss_one (ps_ret (pe_make Tx.mk_Week (init_Week Tx) (hr.mono (by omega)) rfl Tx.m_Week Tx.b_Week_init .nil pass0 (pac (pe_fld (pv 0) rfl) pa_nil)))), ?_⟩
  cases h with
  | week h hb => exact ⟨_, rfl, a, _, _, _, _, rfl, h, Tx.cl_Week, Tx.na_Week_bits, rfl, fun x dx nx nd nex => ⟨x, H, _, rfl, made_new nx nd, hb, fun H' s' h' => ⟨rfl, q x H' s' h'⟩⟩⟩
  | _ => exact hq.elim
theorem copied_each (Tx : Tab K mg t) (n : Nat) : FnOk P w K mg base CX0 (4 * n + 10) t.f_Each_copied t.d_Each_copied ["self"] (spCopied (rc t) K isEach n) := by
  refine Tx.F_Each_copied.ok sc_Each_copied (fun vs H Q E h => ?_) (fun cdv A outer s H vs Q E hr h => ?_)
  · obtain ⟨a, r, rfl, _⟩ := h
    rfl
  obtain ⟨a, r, rfl, h, hq, g, hw, hd, hn, q⟩ := h
  refine ⟨_, (pss_one (ps_ret (pe_make Tx.mk_Each (init_Each Tx) (hr.mono (by omega)) rfl Tx.m_Each Tx.b_Each_init .nil pass0 (pac (pe_fld (pv 0) rfl) (pac (pe_callTy call_list_of rfl Tx.z_list b_list (pac (pe_fld (pv 0) rfl) pa_nil)) pa_nil))))), ?_⟩
  cases h with
  | each h h1 h2 hp =>
    rename_i dx0 p0 m0 ss0
    refine ⟨_, rfl, a, _, _, _, _, rfl, h, Tx.cl_Each, Tx.na_Each_length, rfl, _, rfl, a, _, _, _, _, rfl, h, Tx.cl_Each, Tx.na_Each_starts, rfl, _, _, rfl, .inr hp, fun l hl x dx nx nd nex => ?_⟩
    have s1 := same_new hl (.lst (natV ss0))
    exact ⟨x, l, _, _, _, rfl, made_new nx nd, upd_same, g, fun H' s' h' => ⟨rfl, q x H' (s1.trans s') (h'.same (dif_mono s1 fun _ _ _ e => e))⟩⟩
  | _ => exact hq.elim
theorem copied_span (Tx : Tab K mg t) (n : Nat) (R : CopOk P w K mg base t n) : FnOk P w K mg base CX0 (4 * (n + 1) + 10) t.f_Span_copied t.d_Span_copied ["self"] (spCopied (rc t) K isSpan (n + 1)) := by
  refine Tx.F_Span_copied.ok sc_Span_copied (fun vs H Q E h => ?_) (fun cdv A outer s H vs Q E hr h => ?_)
  · obtain ⟨a, r, rfl, _⟩ := h
    rfl
  obtain ⟨a, r, rfl, h, hq, g, hw, hd, hn, q⟩ := h
  refine ⟨_, (pss_one (ps_ret (pe_make Tx.mk_Span (init_Span Tx n R) (hr.mono (by omega)) rfl Tx.m_Span Tx.b_Span_init .nil pass0 (pac (pe_fld (pv 0) rfl) (pac (pe_fld (pv 0) rfl) (pac (pe_fld (pv 0) rfl) pa_nil)))))), ?_⟩
  cases h with
  | span h hx hy hi =>
    rename_i dx0 i x0 y0 r0
    have ed : (RT.span x0 y0 r0).depth = 1 + r0.depth := rfl
    exact ⟨_, rfl, a, _, _, _, _, rfl, h, Tx.cl_Span, Tx.na_Span_first, rfl, _, rfl, a, _, _, _, _, rfl, h, Tx.cl_Span, Tx.na_Span_last, rfl, _, rfl, a, _, _, _, _, rfl, h, Tx.cl_Span, Tx.na_Span_inner, rfl,
      fun x dx nx nd nex => ⟨x, _, H, _, _, _, rfl, made_new nx nd, hi, g, hw, hd, by omega, fun H' s' h' => ⟨rfl, q x H' s' h'⟩⟩⟩
  | _ => exact hq.elim
theorem copied_but (Tx : Tab K mg t) (n : Nat) (R : CopOk P w K mg base t n) : FnOk P w K mg base CX0 (4 * (n + 1) + 10) t.f_But_copied t.d_But_copied ["self"] (spCopied (rc t) K isBut (n + 1)) := by
  refine Tx.F_But_copied.ok sc_But_copied (fun vs H Q E h => ?_) (fun cdv A outer s H vs Q E hr h => ?_)
  · obtain ⟨a, r, rfl, _⟩ := h
    rfl
  obtain ⟨a, r, rfl, h, hq, g, hw, hd, hn, q⟩ := h
  refine ⟨_, (pss_one (ps_ret (pe_make Tx.mk_But (init_But Tx n R) (hr.mono (by omega)) rfl Tx.m_But Tx.b_But_init .nil pass0 (pac (pe_callTy call_list_of rfl Tx.z_list b_list (pac (pe_fld (pv 0) rfl) pa_nil)) (pac (pe_fld (pv 0) rfl) pa_nil))))), ?_⟩
  cases h with
  | but h hp hi =>
    rename_i dx0 p0 i ds0 r0
    have ed : (RT.but ds0 r0).depth = 1 + r0.depth := rfl
    refine ⟨_, rfl, a, _, _, _, _, rfl, h, Tx.cl_But, Tx.na_But_days, rfl, _, _, rfl, .inr hp, fun l hl => ?_⟩
    have s1 := same_new hl (.lst (natV ds0))
    exact ⟨_, rfl, a, _, _, _, _, rfl, s1 _ _ h, Tx.cl_But, Tx.na_But_inner, rfl, fun x dx nx nd nex => ⟨x, l, _, _, _, _, rfl, made_new nx nd, upd_same, hi.same s1, g, hw, hd, by omega, fun H' s' h' => ⟨rfl, q x H' (s1.trans s') (h'.same (dif_mono s1 fun _ _ _ e => e))⟩⟩⟩
  | _ => exact hq.elim
theorem copied_either (Tx : Tab K mg t) (n : Nat) (R : CopOk P w K mg base t n) : FnOk P w K mg base CX0 (4 * (n + 1) + 10) t.f_Either_copied t.d_Either_copied ["self"] (spCopied (rc t) K isEither (n + 1)) := by
  refine Tx.F_Either_copied.ok sc_Either_copied (fun vs H Q E h => ?_) (fun cdv A outer s H vs Q E hr h => ?_)
  · obtain ⟨a, r, rfl, _⟩ := h
    rfl
  obtain ⟨a, r, rfl, h, hq, g, hw, hd, hn, q⟩ := h
  refine ⟨_, (pss_one (ps_ret (pe_make Tx.mk_Either (init_Either Tx n R) (hr.mono (by omega)) rfl Tx.m_Either Tx.b_Either_init .nil pass0 (pac (pe_fld (pv 0) rfl) (pac (pe_fld (pv 0) rfl) pa_nil))))), ?_⟩
  cases h with
  | either h hi hj =>
    rename_i dx0 i j r0 r1
    have ed : (RT.either r0 r1).depth = 1 + max r0.depth r1.depth := rfl
    exact ⟨_, rfl, a, _, _, _, _, rfl, h, Tx.cl_Either, Tx.na_Either_one, rfl, _, rfl, a, _, _, _, _, rfl, h, Tx.cl_Either, Tx.na_Either_other, rfl,
      fun x dx nx nd nex => ⟨x, _, _, H, _, _, rfl, made_new nx nd, hi, hj, g, hw, hd, by omega, by omega, fun H' s' h' => ⟨rfl, q x H' s' h'⟩⟩⟩
  | _ => exact hq.elim
theorem copied_both (Tx : Tab K mg t) (n : Nat) (R : CopOk P w K mg base t n) : FnOk P w K mg base CX0 (4 * (n + 1) + 10) t.f_Both_copied t.d_Both_copied ["self"] (spCopied (rc t) K isBoth (n + 1)) := by
  refine Tx.F_Both_copied.ok sc_Both_copied (fun vs H Q E h => ?_) (fun cdv A outer s H vs Q E hr h => ?_)
  · obtain ⟨a, r, rfl, _⟩ := h
    rfl
  obtain ⟨a, r, rfl, h, hq, g, hw, hd, hn, q⟩ := h
  refine ⟨_, (pss_one (ps_ret (pe_make Tx.mk_Both (init_Both Tx n R) (hr.mono (by omega)) rfl Tx.m_Both Tx.b_Both_init .nil pass0 (pac (pe_fld (pv 0) rfl) (pac (pe_fld (pv 0) rfl) pa_nil))))), ?_⟩
  cases h with
  | both h hi hj =>
    rename_i dx0 i j r0 r1
    have ed : (RT.both r0 r1).depth = 1 + max r0.depth r1.depth := rfl
    exact ⟨_, rfl, a, _, _, _, _, rfl, h, Tx.cl_Both, Tx.na_Both_one, rfl, _, rfl, a, _, _, _, _, rfl, h, Tx.cl_Both, Tx.na_Both_other, rfl,
      fun x dx nx nd nex => ⟨x, _, _, H, _, _, rfl, made_new nx nd, hi, hj, g, hw, hd, by omega, by omega, fun H' s' h' => ⟨rfl, q x H' s' h'⟩⟩⟩
  | _ => exact hq.elim
theorem cop_ok (Tx : Tab K mg t) : ∀ n, CopOk P w K mg base t n
  | 0 => by
    have no : ∀ {q : RT → Prop}, ∀ vs H Q E, spCopied (rc t) K q 0 vs H Q E → False := fun vs H Q E h => by
      obtain ⟨a, r, rfl, h, hq, g, hw, hd, hn, _⟩ := h
      have := r.depth_pos
      omega
    exact ⟨copied_rule Tx 0, copied_week Tx 0,
      Tx.F_Span_copied.ok sc_Span_copied (fun vs H Q E h => (no vs H Q E h).elim) (fun cdv A outer s H vs Q E hr h => (no vs H Q E h).elim), copied_each Tx 0,
      Tx.F_Either_copied.ok sc_Either_copied (fun vs H Q E h => (no vs H Q E h).elim) (fun cdv A outer s H vs Q E hr h => (no vs H Q E h).elim),
      Tx.F_Both_copied.ok sc_Both_copied (fun vs H Q E h => (no vs H Q E h).elim) (fun cdv A outer s H vs Q E hr h => (no vs H Q E h).elim),
      Tx.F_But_copied.ok sc_But_copied (fun vs H Q E h => (no vs H Q E h).elim) (fun cdv A outer s H vs Q E hr h => (no vs H Q E h).elim)⟩
  | n + 1 => have R := cop_ok Tx n
    ⟨copied_rule Tx (n + 1), copied_week Tx (n + 1), copied_span Tx n R, copied_each Tx (n + 1), copied_either Tx n R, copied_both Tx n R, copied_but Tx n R⟩
theorem ini_Span (Tx : Tab K mg t) : FnOk P w K mg base CX0 40 t.f_Span_init t.d_Span_init ["self", "first", "last", "rule"] (spSpan (rc t) K 7) := init_Span Tx 7 (cop_ok Tx 7)
theorem ini_But (Tx : Tab K mg t) : FnOk P w K mg base CX0 40 t.f_But_init t.d_But_init ["self", "days", "rule"] (spBut (rc t) K 7) := init_But Tx 7 (cop_ok Tx 7)
theorem ini_Either (Tx : Tab K mg t) : FnOk P w K mg base CX0 40 t.f_Either_init t.d_Either_init ["self", "one", "other"] (spPair (rc t) K 7 t.c_Either .either) := init_Either Tx 7 (cop_ok Tx 7)
theorem ini_Both (Tx : Tab K mg t) : FnOk P w K mg base CX0 40 t.f_Both_init t.d_Both_init ["self", "one", "other"] (spPair (rc t) K 7 t.c_Both .both) := init_Both Tx 7 (cop_ok Tx 7)
theorem ini_Week (Tx : Tab K mg t) : FnOk P w K mg base CX0 40 t.f_Week_init t.d_Week_init ["self", "bits"] (spWeek (rc t) K) := (init_Week Tx).mono (by omega)
theorem ini_Each (Tx : Tab K mg t) : FnOk P w K mg base CX0 40 t.f_Each_init t.d_Each_init ["self", "length", "starts"] (spEach (rc t) K) := (init_Each Tx).mono (by omega)

/- next_day: no rule; no day; no number; or the first day on which it runs -/
def spNext (t : Adr) (K : PySem.W.Frag) : Sp := fun vs H Q E => ∃ (rv dv mv : V), vs = [rv, dv, mv] ∧
  ((∃ T, Kd H rv T ∧ PySem.W.kitOne K (.type T) (.ref t.c_Rule) = some false ∧ E (.ref t.c_BadRule) none H) ∨
   (∃ (a : Addr) (r : RT) (Td Tm : String), rv = .ref a ∧ RAt (rc t) K H a r ∧ r.depth ≤ 8 ∧ Kd H dv Td ∧ Kd H mv Tm ∧ (numV dv 0 9999 = false → E (.ref t.c_BadClock) none H) ∧ (numV dv 0 9999 = true → numV mv 0 400 = false → E (.ref t.c_BadNumber) none H) ∧
     ∀ d m : Nat, dv = .int (d : Nat) → mv = .int (m : Nat) → d ≤ 9999 → m ≤ 400 → ∀ x, Fst r.runs d (min (d + m) 9999 + 1 - d) x → Q (optV x) H))
theorem ok_next_day (Tx : Tab K mg t) : FnOk P w K mg base (CXO P w) 11 t.f_next_day t.d_next_day ["rule", "day", "most"] (spNext t K) := by
  refine Tx.F_next_day.okX sc_next_day (fun vs H Q E h => ?_) (fun cdv A outer s H vs Q E hr h => ?_)
  · obtain ⟨rv, dv, mv, rfl, _⟩ := h
    rfl
  obtain ⟨rv, dv, mv, rfl, h⟩ := h
  refine ⟨_, (pss_cons (ps_if (pt_not (pt_val (pe_callB call_isi_own rfl Tx.z_isinstance b_isinstance (pac (pv 0) (pac (pe_gref rfl Tx.m_Rule) pa_nil)))))
    (pss_one (ps_raise raises_fn Tx.e_BadRule rfl rfl Tx.m_BadRule (pac pe_str pa_nil)))
    pss_nil)
    (pss_cons (ps_if (pt_not (pt_val (pe_call (ok_is_number Tx) (hr.mono (by omega)) rfl Tx.m_is_number Tx.F_is_number.kp Tx.b_is_number .nil pass0 (pac (pv 1) (pac pe_int (pac (pe_gintE rfl Tx.m_LAST_DAY) pa_nil))))))
    (pss_one (ps_raise raises_fn Tx.e_BadClock rfl rfl Tx.m_BadClock (pac pe_str pa_nil)))
    pss_nil)
    (pss_cons (ps_if (pt_not (pt_val (pe_call (ok_is_number Tx) (hr.mono (by omega)) rfl Tx.m_is_number Tx.F_is_number.kp Tx.b_is_number .nil pass0 (pac (pv 2) (pac pe_int (pac (pe_gintE rfl Tx.m_MOST_LATER) pa_nil))))))
    (pss_one (ps_raise raises_fn Tx.e_BadNumber rfl rfl Tx.m_BadNumber (pac pe_str pa_nil)))
    pss_nil)
    (pss_cons (ps_nox (ps_for PassesOwn.never rfl (pi_range2 rfl Tx.z_range (pac (pv 1) (pac (pe_op op_add (pe_callB (call_min2 rfl) rfl Tx.z_min b_min (pac (pe_op op_add (pv 1) (pv 2)) (pac (pe_gintE rfl Tx.m_LAST_DAY) pa_nil))) pe_int) pa_nil))) (pg_name (i := 3) sc_next_day.nd rfl (Or.inl rfl))
    (pss_one (ps_if (pt_val (pe_methD (pv 0) (pac (pv 3) pa_nil)))
    (pss_one (ps_ret (pv 3)))
    pss_nil))))
    (pss_one (ps_ret pe_non)))))), ?_⟩
  rcases h with ⟨T, kd, ki, e⟩ | ⟨a, r, Td, Tm, rfl, h, h8, kd, km, e1, e2, q⟩
  · exact ⟨_, rfl, rv, t.c_Rule, _, _, rfl, kd.ty, ki, _, rfl, itT (by decide) ⟨by show 1 ≤ sizeLine; decide, e⟩⟩
  obtain ⟨C0, ty, ki⟩ := is_rule Tx h
  refine ⟨_, rfl, .ref a, t.c_Rule, _, _, rfl, ty, ki, _, rfl, itF (by decide) ?_⟩
  refine ⟨_, rfl, dv, 0, 9999, Td, rfl, kd, _, rfl, ?_⟩
  by_cases hd : numV dv 0 9999 = true
  · refine itF (by rw [hd]; decide) ?_
    refine ⟨_, rfl, mv, 0, 400, Tm, rfl, km, _, rfl, ?_⟩
    by_cases hm : numV mv 0 400 = true
    · refine itF (by rw [hm]; decide) ?_
      cases dv with
      | int di =>
        cases mv with
        | int mi =>
          have b1 : 0 ≤ di ∧ di ≤ 9999 := of_decide_eq_true hd
          have b2 : 0 ≤ mi ∧ mi ≤ 400 := of_decide_eq_true hm
          obtain ⟨d, rfl⟩ : ∃ d : Nat, di = (d : Nat) := ⟨di.toNat, by omega⟩
          obtain ⟨m, rfl⟩ : ∃ m : Nat, mi = (m : Nat) := ⟨mi.toNat, by omega⟩
          have eN : ((if (9999 : Int) < ((d : Nat) : Int) + ((m : Nat) : Int) then (9999 : Int) else ((d : Nat) : Int) + ((m : Nat) : Int)) + 1 - ((d : Nat) : Int)).toNat = min (d + m) 9999 + 1 - d := by split <;> omega
          have q' := q d m rfl rfl (by omega) (by omega)
          rw [← eN] at q'
          refine ⟨_, rfl, _, rfl, _, rfl, _, _, rfl, rfl, _, _, rfl, _, _, rfl, rfl, _, _, rfl, ⟨by omega, by omega, by split <;> omega, by split <;> omega⟩, for_range (fun i σ H' => H' = H ∧ (∀ j, j < i → r.runs (d + j) = false) ∧ ∃ vk, σ = [some (.ref a), some (.int (d : Nat)), some (.int (m : Nat)), vk]) ⟨rfl, fun j hj => absurd hj (Nat.not_lt_zero _), _, rfl⟩ ?_ ?_⟩
          · rintro i σ H' hi ⟨rfl, hf, vk, rfl⟩
            have e : V.int (((d : Nat) : Int) + ((i : Nat) : Int)) = V.int (((d + i : Nat) : Nat) : Int) := congrArg V.int (by omega)
            rw [e]
            obtain ⟨C, dx2, fs, f, fd, sp, g1, g2, g3, g4, g5, g6, g7⟩ := (runs_ok (P := P) (w := w) (mg := mg) (base := base) Tx 8).at Tx h h8
            refine ⟨_, rfl, a, C, dx2, fs, f, fd, _, _, sp, CX0, E0, rfl, g1, g2, g3, g4, g5, hr.mono (by omega), g6, pass0, _, rfl, g7 (d + i) _ ⟨_, rfl, ?_⟩⟩
            cases c : r.runs (d + i) with
            | true => exact itT rfl ⟨_, rfl, q' (some (d + i)) ⟨i, hi, rfl, c, hf⟩⟩
            | false =>
              refine itF (by decide) ⟨rfl, fun j hj => ?_, _, rfl⟩
              rcases Nat.lt_succ_iff_lt_or_eq.mp hj with z | z
              · exact hf j z
              · rw [z]; exact c
          · rintro σ H' ⟨rfl, hf, vk, rfl⟩
            exact q' none hf
        | _ => cases hm
      | _ => cases hd
    · exact itT (by rw [Bool.eq_false_iff.mpr hm]; rfl) ⟨by show 1 ≤ sizeLine; decide, e2 hd (Bool.eq_false_iff.mpr hm)⟩
  · exact itT (by rw [Bool.eq_false_iff.mpr hd]; rfl) ⟨by show 1 ≤ sizeLine; decide, e1 (Bool.eq_false_iff.mpr hd)⟩

def spCell (K : PySem.W.Frag) : Sp := fun vs H Q _ => ∃ (a : Addr) (ns : List Int) (k : Int), vs = [.ref a, .int k] ∧ SqL K H a (ns.map V.int) ∧ 0 ≤ k ∧ ∀ (i : Int) H', Same H H' → Q (.int i) H'
theorem ok_law_cell (Tx : Tab K mg t) : FnOk P w K mg base CX0 1 t.f_law_cell t.d_law_cell ["_law_script", "_law_k"] (spCell K) := by
  refine Tx.F_law_cell.ok sc_law_cell (fun vs H Q E h => ?_) (fun cdv A outer s H vs Q E hr h => ?_)
  · obtain ⟨a, ns, k, rfl, _⟩ := h
    rfl
  obtain ⟨a, ns, k, rfl, hS, h0, q⟩ := h
  refine ⟨_, (pss_cons (ps_if (pt_cmpR (op_eq_lst hr.units0) (pv 0) (pe_lst pa_nil) (nomark _))
    (pss_one (ps_ret pe_int))
    pss_nil)
    (pss_one (ps_ret (pe_ix ix_list (pv 0) (pe_op op_mod (pv 1) (pe_callB call_len_seq rfl Tx.z_len b_len (pac (pv 0) pa_nil))) (fun _ _ => rfl))))), ?_⟩
  refine ⟨_, rfl, (by show 0 ≤ sizeLine; decide), fun p hp => ?_⟩
  have sm := same_new hp (.lst [])
  refine ⟨a, p, _, _, rfl, rfl, sm.seq hS, SqL.of upd_same, flat_ints ns, rfl, _, rfl, ?_⟩
  cases ns with
  | nil => exact itT rfl (q 0 _ sm)
  | cons n r =>
    refine itF (by intro z; cases z) ?_
    have hl : (((n :: r).map V.int).length : Int) = ((n :: r).length : Int) := by rw [List.length_map]
    have hpos : (0 : Int) < (((n :: r).map V.int).length : Nat) := by rw [List.length_map, List.length_cons]; omega
    have hlt : (k % (((n :: r).map V.int).length : Nat)).toNat < (n :: r).length := by
      have h1 := Int.emod_nonneg k (show ((((n :: r).map V.int).length : Nat) : Int) ≠ 0 by omega)
      have h2 := Int.emod_lt_of_pos k hpos
      omega
    have h1 := Int.emod_nonneg k (show ((((n :: r).map V.int).length : Nat) : Int) ≠ 0 by omega)
    refine ⟨_, rfl, _, rfl, _, rfl, a, _, rfl, .inl (sm.seq hS), _, _, rfl, rfl, hpos, a, _, _, .int ((n :: r)[(k % (((n :: r).map V.int).length : Nat)).toNat]), rfl, rfl, sm.seq hS, ?_, q _ _ sm⟩
    · have e : k % (((n :: r).map V.int).length : Nat) = (((k % (((n :: r).map V.int).length : Nat)).toNat : Nat) : Int) := by omega
      have q2 : atI ((n :: r).map V.int) (((k % (((n :: r).map V.int).length : Nat)).toNat : Nat) : Int) = some (.int ((n :: r)[(k % (((n :: r).map V.int).length : Nat)).toNat])) := atI_nat (by rw [List.getElem?_map, List.getElem?_eq_getElem hlt]; rfl)
      rw [← e] at q2
      exact q2

def spDraw (K : PySem.W.Frag) : Sp := fun vs H Q _ => ∃ (a tp : Addr) (ns : List Int) (k n : Int), vs = [.ref a, .ref tp, .int n] ∧ Scr K H a tp ns ∧ H tp = some (.lst [.int k]) ∧ 0 ≤ k ∧ k ≤ 100000 ∧ 0 < n ∧ n < 1073741824 ∧
  ∀ (d : Int) H', 0 ≤ d → d < n → Bump tp (k + 1) H H' → Q (.int d) H'
theorem ok_law_draw (Tx : Tab K mg t) : FnOk P w K mg base CX0 2 t.f_law_draw t.d_law_draw ["_law_script", "_law_tape", "_law_many"] (spDraw K) := by
  refine Tx.F_law_draw.ok sc_law_draw (fun vs H Q E h => ?_) (fun cdv A outer s H vs Q E hr h => ?_)
  · obtain ⟨a, tp, ns, k, n, rfl, _⟩ := h
    rfl
  obtain ⟨a, tp, ns, k, n, rfl, hS, hT, h0, h1, hn0, hn1, q⟩ := h
  refine ⟨_, (pss_cons (ps_asg (pe_op op_add (pe_ix ix_list (pv 1) pe_int (fun _ _ => rfl)) pe_int) (pg_sub (pv 1) pe_int set_list))
    (pss_cons (ps_set (i := 3) sc_law_draw.nd rfl (Or.inl rfl) (pe_op op_add (pe_op op_add (pe_op op_mod (pe_call (ok_law_cell Tx) (hr.mono (by omega)) rfl Tx.m_law_cell Tx.F_law_cell.kp Tx.b_law_cell .nil pass0 (pac (pv 0) (pac (pe_op op_sub (pe_ix ix_list (pv 1) pe_int (fun _ _ => rfl)) pe_int) pa_nil))) pe_int) (pe_op op_mul pe_int (pe_ix ix_list (pv 1) pe_int (fun _ _ => rfl)))) pe_int))
    (pss_one (ps_ret (pe_op op_mod (pe_op op_fdiv (pe_op op_mod (pe_op op_mul (pe_op op_mod (pe_op op_mul (pv 3) (pv 3)) pe_int) (pv 3)) pe_int) pe_int) (pv 2)))))), ?_⟩
  refine ⟨_, rfl, tp, _, 0, _, rfl, rfl, SqL.of hT, rfl, _, _, rfl, rfl, _, rfl, tp, _, 0, 0, rfl, rfl, hT, rfl, ?_⟩
  have b1 : Bump tp (k + 1) H (upd H tp (.lst [.int (k + 1)])) := ⟨fun c o nn h => by rw [upd_ne nn]; exact h, upd_same⟩
  refine ⟨_, rfl, _, rfl, tp, _, 0, _, rfl, rfl, SqL.of b1.tape, rfl, _, _, rfl, rfl, a, ns, _, rfl, (b1.scr hS).sq, (by show 0 ≤ k + 1 - 1; omega), fun i H' sm => ?_⟩
  have b2 := b1.same sm
  refine ⟨_, _, rfl, rfl, (by show (0 : Int) < 1000000007; decide), _, rfl, tp, _, 0, _, rfl, rfl, SqL.of b2.tape, rfl, _, _, rfl, rfl, .inl ⟨by decide, by decide⟩, _, _, rfl, rfl, _, _, rfl, rfl, ?_⟩
  have g1 : 0 ≤ i % 1000000007 := Int.emod_nonneg _ (by decide)
  have g2 : i % 1000000007 < 1000000007 := Int.emod_lt_of_pos _ (by decide)
  generalize hv : i % 1000000007 + 7919 * (k + 1) + 13 = v
  have v0 : 0 ≤ v := by omega
  have v1 : v < 18446744073709551616 := by omega
  have e1 : (i % 1000000007 + 7919 * (k + 1) + 13 : Int) = v := hv
  refine ⟨_, rfl, _, rfl, _, _, rfl, rfl, mulM (by show 0 ≤ i % 1000000007 + 7919 * (k + 1) + 13; omega) (by show i % 1000000007 + 7919 * (k + 1) + 13 < _; omega), _, _, rfl, rfl, (by show (0 : Int) < 1000000007; decide), _, rfl, _, _, rfl, rfl,
    mulM (by show 0 ≤ i % 1000000007 + 7919 * (k + 1) + 13; omega) (by show i % 1000000007 + 7919 * (k + 1) + 13 < _; omega), _, _, rfl, rfl, (by show (0 : Int) < 998244353; decide), _, _, rfl, rfl, ⟨by decide, by decide⟩, _, rfl, _, _, rfl, rfl, hn0, ?_⟩
  exact q _ H' (Int.emod_nonneg _ (by omega)) (Int.emod_lt_of_pos _ hn0) b2


def spWhole : Sp := fun vs H Q _ => ∃ (v : V) (T : String), vs = [v] ∧ Kd H v T ∧ Q (.bl (wholeV v)) H
theorem ok_law_whole (Tx : Tab K mg t) : FnOk P w K mg base CX0 1 t.f_law_whole t.d_law_whole ["_law_found"] spWhole := by
  refine Tx.F_law_whole.ok sc_law_whole (fun vs H Q E h => ?_) (fun cdv A outer s H vs Q E hr h => ?_)
  · obtain ⟨v, T, rfl, _⟩ := h
    rfl
  obtain ⟨v, T, rfl, kd, q⟩ := h
  refine ⟨_, (pss_one (ps_ret (pe_and (pe_callB call_isi_ty rfl Tx.z_isinstance b_isinstance (pac (pv 0) (pac (pe_gty rfl Tx.z_int b_int) pa_nil))) (pe_one (pe_not (pe_callB call_isi_ty rfl Tx.z_isinstance b_isinstance (pac (pv 0) (pac (pe_gty rfl Tx.z_bool b_bool) pa_nil)))))))), ?_⟩
  refine ⟨_, rfl, v, "int", _, _, rfl, kd.ty, kit_int kd, _, rfl, ?_⟩
  cases kd with
  | non => exact itF (by decide) q
  | str x => exact itF (by decide) q
  | lst e => exact itF (by decide) q
  | tup e => exact itF (by decide) q
  | dK e => exact itF (by decide) q
  | bl b => exact itT (by decide) ⟨_, rfl, _, "bool", _, _, rfl, (Kd.bl b).ty (H := H), kit_bool (H := H) (.bl b), _, rfl, q⟩
  | int i => exact itT (by decide) ⟨_, rfl, _, "bool", _, _, rfl, (Kd.int i).ty (H := H), kit_bool (H := H) (.int i), _, rfl, q⟩


theorem eq4 {x y : V} {i i' j j' : Int} (h : i = i') (g : j = j') : [x, y, V.int i, V.int j] = [x, y, V.int i', V.int j'] := by rw [h, g]
theorem ne_tp {H' : Hp} {tp : Addr} {k : Int} {p : Addr} (z : H' tp = some (.lst [.int k])) (g : H' p = none) : p ≠ tp := fun e => by
  rw [e, z] at g
  cases g
/- rising numbers, drawn -/
def spRising (K : PySem.W.Frag) : Sp := fun vs H Q _ => ∃ (a tp : Addr) (ns : List Int) (k : Int) (lo hi : Nat), vs = [.ref a, .ref tp, .int (lo : Nat), .int (hi : Nat)] ∧ Scr K H a tp ns ∧ H tp = some (.lst [.int k]) ∧ 0 ≤ k ∧ k ≤ 90000 ∧ lo ≤ hi ∧ hi ≤ 9999 ∧
  ∀ (l : Addr) (zs : List Nat) (k' : Int) (H' : Hp), Bump tp k' H H' → k ≤ k' → k' ≤ k + 14 → H' l = some (.lst (natV zs)) → l ≠ tp → Rsg zs lo hi → Q (.ref l) H'
theorem nat_ints (zs : List Nat) : natV zs = (zs.map fun n => ((n : Nat) : Int)).map V.int := by
  rw [List.map_map]; rfl
/- a rising list of whole numbers from nought on, as such -/
theorem rsg_of {zs : List Int} {ks : List Nat} {lo hi : Nat} (pw : zs.Pairwise (· < ·)) (mem : ∀ k, k ∈ zs ↔ k ∈ ks.map fun n => ((n : Nat) : Int)) (le : zs.length ≤ ks.length) (hk : ∀ z ∈ ks, lo ≤ z ∧ z ≤ hi) (h1 : 1 ≤ ks.length) (h12 : ks.length ≤ 12) :
    zs.map V.int = natV (zs.map Int.toNat) ∧ Rsg (zs.map Int.toNat) lo hi := by
  have nn : ∀ z ∈ zs, ∃ n : Nat, z = ((n : Nat) : Int) ∧ lo ≤ n ∧ n ≤ hi := fun z hz => by
    obtain ⟨n, hn, rfl⟩ := List.mem_map.mp ((mem z).mp hz)
    exact ⟨n, rfl, hk n hn⟩
  refine ⟨?_, ?_, ?_, ?_, ?_⟩
  · show zs.map V.int = (zs.map Int.toNat).map _
    rw [List.map_map]
    refine List.map_congr_left fun z hz => ?_
    obtain ⟨n, rfl, _⟩ := nn z hz
    rfl
  · rw [List.length_map]
    match ks, h1 with
    | x :: r, _ =>
      have := (mem ((x : Nat) : Int)).mpr (List.mem_map.mpr ⟨x, List.mem_cons_self, rfl⟩)
      exact List.length_pos_of_mem this
  · rw [List.length_map]; omega
  · rw [List.pairwise_map]
    refine List.Pairwise.imp_of_mem (fun {x y} hx hy h => ?_) pw
    obtain ⟨n, rfl, _⟩ := nn x hx
    obtain ⟨m, rfl, _⟩ := nn y hy
    simp only [Int.toNat_natCast]
    omega
  · intro x hx
    obtain ⟨z, hz, rfl⟩ := List.mem_map.mp hx
    obtain ⟨n, rfl, q⟩ := nn z hz
    exact q
theorem ok_law_rising (Tx : Tab K mg t) : FnOk P w K mg base CX0 3 t.f_law_rising t.d_law_rising ["_law_script", "_law_tape", "_law_least", "_law_most"] (spRising K) := by
  refine Tx.F_law_rising.ok sc_law_rising (fun vs H Q E h => ?_) (fun cdv A outer s H vs Q E hr h => ?_)
  · obtain ⟨a, tp, ns, k, lo, hi, rfl, _⟩ := h
    rfl
  obtain ⟨a, tp, ns, k, lo, hi, rfl, S, hT, k0, k1, lh, hh, q⟩ := h
  refine ⟨_, (pss_cons (ps_set (i := 4) sc_law_rising.nd rfl (Or.inl rfl) (pe_op op_add pe_int (pe_call (ok_law_draw Tx) (hr.mono (by omega)) rfl Tx.m_law_draw Tx.F_law_draw.kp Tx.b_law_draw .nil pass0 (pac (pv 0) (pac (pv 1) (pac pe_int pa_nil))))))
    (pss_cons (ps_if (pt_cmpR op_eq (pe_call (ok_law_draw Tx) (hr.mono (by omega)) rfl Tx.m_law_draw Tx.F_law_draw.kp Tx.b_law_draw .nil pass0 (pac (pv 0) (pac (pv 1) (pac pe_int pa_nil)))) pe_int (nomark _))
    (pss_one (ps_set (i := 4) sc_law_rising.nd rfl (Or.inl rfl) pe_int))
    pss_nil)
    (pss_cons (ps_setc (i0 := 5) (cl := [(Str.ofString "_law_tape", s.heap.objs.size + 2), (Str.ofString "_law_script", s.heap.objs.size + 1), (Str.ofString "_law_most", s.heap.objs.size + 4), (Str.ofString "_law_least", s.heap.objs.size + 3)]) (N := ["_law_k", "_law_least", "_law_script", "_law_tape", "_law_most"]) (fr := [none, some 2, some 0, some 1, some 3]) sc_law_rising.nd rfl (Or.inl rfl) rfl (pi_range1 rfl Tx.z_range (pac (pv 4) pa_nil)) rfl (by decide +kernel) rfl (by decide +kernel) ⟨⟨rfl, Or.inl rfl, Or.inl rfl, _, rfl, rfl⟩, ⟨⟨rfl, Or.inl rfl, Or.inl rfl, _, rfl, rfl⟩, ⟨⟨rfl, Or.inl rfl, Or.inl rfl, _, rfl, rfl⟩, ⟨⟨rfl, Or.inl rfl, Or.inl rfl, _, rfl, rfl⟩, trivial⟩⟩⟩⟩ ⟨rfl, ⟨rfl, ⟨rfl, ⟨rfl, trivial⟩⟩⟩⟩ rfl (fun _ _ _ _ _ => (pg_name (i := 0) (show List.Nodup (["_law_k", "_law_least", "_law_script", "_law_tape", "_law_most"] : List Str) by decide +kernel) rfl (Or.inl rfl))) (fun _ _ _ _ _ => pts_nil) (fun _ _ _ _ _ => (pe_op op_add (pv 1) (pe_call (ok_law_draw Tx) (hr.mono (by omega)) rfl Tx.m_law_draw Tx.F_law_draw.kp Tx.b_law_draw .nil pass0 (pac (pv 2) (pac (pv 3) (pac (pe_op op_add (pe_op op_sub (pv 4) (pv 1)) pe_int) pa_nil)))))))
    (pss_one (ps_ret (pe_callB (call_sortedI rfl) rfl Tx.z_sorted b_sorted (pac (pe_callTy (call_setI rfl) rfl Tx.z_set b_set (pac (pv 5) pa_nil)) pa_nil))))))), ?_⟩
  refine ⟨_, rfl, _, rfl, a, tp, ns, k, 4, rfl, S, hT, k0, by omega, by decide, by decide, fun d1 H1 d10 d11 b1 => ⟨_, _, rfl, rfl, ?_⟩⟩
  refine ⟨_, rfl, _, rfl, a, tp, ns, k + 1, 8, rfl, b1.scr S, b1.tape, by omega, by omega, by decide, by decide, fun d2 H2 d20 d21 b2 => ⟨rfl, _, rfl, ite2 (fun _ => ?_) (fun _ => ?_)⟩⟩
  all_goals
    have B2 := b1.trans b2
    refine ⟨_, rfl, _, rfl, by omega, by omega, comp_range (fun i acc σ H' => ∃ (zs : List Nat) (vk : Option V), acc = natV zs ∧ zs.length = i ∧ (∀ z ∈ zs, lo ≤ z ∧ z ≤ hi) ∧ Bump tp (k + 1 + 1 + i) H H' ∧ σ = [vk, some (.int (lo : Nat)), some (.ref a), some (.ref tp), some (.int (hi : Nat))])
      ⟨[], _, rfl, rfl, (fun z hz => by cases hz), by simpa using B2, rfl⟩ (Nat.le_trans (show _ ≤ 12 by omega) (by decide)) ?_ ?_⟩
    · rintro i acc σ H' hi' ha ⟨zs, vk, rfl, hz, hb, B, rfl⟩
      dsimp only [gName, tTrue]
      rw [if_pos rfl]
      refine ⟨_, rfl, _, rfl, _, rfl, _, rfl, _, rfl, _, _, rfl, rfl, _, _, rfl, rfl, a, tp, ns, k + 1 + 1 + i, _, rfl, B.scr S, B.tape, by omega, by omega, by omega, by omega, fun d H4 d0 d1 b4 => ?_⟩
      refine ⟨_, _, rfl, rfl, by rw [List.length_append, List.length_singleton]; omega, zs ++ [lo + d.toNat], _, ?_, by rw [List.length_append, List.length_singleton]; omega, fun z hz' => ?_, ?_, rfl⟩
      · have e : ((lo : Nat) : Int) + d = ((lo + d.toNat : Nat) : Int) := by omega
        show natV zs ++ [V.int (((lo : Nat) : Int) + d)] = List.map _ (zs ++ [lo + d.toNat])
        rw [List.map_append, e]
        rfl
      · rcases List.mem_append.mp hz' with hz' | hz'
        · exact hb z hz'
        · rw [List.mem_singleton] at hz'
          omega
      · have := B.trans b4
        have e : k + 1 + 1 + ((i : Nat) : Int) + 1 = k + 1 + 1 + ((i + 1 : Nat) : Int) := by omega
        rw [e] at this
        exact this
    · rintro acc σ H' ha ⟨zs, vk, rfl, hz, hb, B, rfl⟩ p hp
      have s1 := same_new hp (.lst (natV zs))
      have z12 : zs.length ≤ 12 := by omega
      have z1 : 1 ≤ zs.length := by omega
      refine ⟨_, rfl, p, _, rfl, SqL.of (by rw [upd_same, nat_ints zs]), by rw [List.length_map]; omega, fun l hl => ?_⟩
      refine ⟨l, _, rfl, upd_same, by rw [List.length_map]; omega, fun l2 ys hl2 pw mem le => ?_⟩
      obtain ⟨e1, g⟩ := rsg_of pw mem (by rw [List.length_map] at le; exact le) hb z1 z12
      have s2 := same_new hl (setO P w l (zs.map fun n => ((n : Nat) : Int)))
      have s3 := same_new hl2 (.lst (ys.map V.int))
      have B3 := ((B.same s1).same s2).same s3
      refine q l2 _ _ _ B3 (by omega) (by omega) (by rw [upd_same, e1]) (fun z => ?_) g
      have h2 : upd (upd H' p (.lst (natV zs))) l (setO P w l (zs.map fun n => ((n : Nat) : Int))) l2 = none := hl2
      have := ((B.same s1).same s2).tape
      rw [← z, h2] at this
      cases this

/- a leaf, drawn -/
def spLeaf (K : PySem.W.Frag) : Sp := fun vs H Q _ => ∃ (a tp : Addr) (ns : List Int) (k : Int), vs = [.ref a, .ref tp] ∧ Scr K H a tp ns ∧ H tp = some (.lst [.int k]) ∧ 0 ≤ k ∧ k ≤ 80000 ∧
  ∀ (v : V) (r : RT) (k' : Int) (H' : Hp), Bump tp k' H H' → k ≤ k' → k' ≤ k + 16 → TAtr tp H' v r → r.good → r.weight = 1 → r.depth = 1 → Q v H'
theorem ok_law_leaf (Tx : Tab K mg t) : FnOk P w K mg base CX0 4 t.f_law_leaf t.d_law_leaf ["_law_script", "_law_tape"] (spLeaf K) := by
  refine Tx.F_law_leaf.ok sc_law_leaf (fun vs H Q E h => ?_) (fun cdv A outer s H vs Q E hr h => ?_)
  · obtain ⟨a, tp, ns, k, rfl, _⟩ := h
    rfl
  obtain ⟨a, tp, ns, k, rfl, S, hT, k0, k1, q⟩ := h
  refine ⟨_, (pss_cons (ps_set (i := 2) sc_law_leaf.nd rfl (Or.inl rfl) (pe_call (ok_law_draw Tx) (hr.mono (by omega)) rfl Tx.m_law_draw Tx.F_law_draw.kp Tx.b_law_draw .nil pass0 (pac (pv 0) (pac (pv 1) (pac pe_int pa_nil)))))
    (pss_cons (ps_if (pt_cmpR op_eq (pv 2) pe_int (nomark _))
    (pss_one (ps_ret (pe_tup (pac pe_str pa_nil))))
    pss_nil)
    (pss_cons (ps_if (pt_cmpR op_lt (pv 2) pe_int (nomark _))
    (pss_one (ps_ret (pe_tup (pac pe_str (pac (pe_ix ix_list (pe_lst (pac (pe_call (ok_law_draw Tx) (hr.mono (by omega)) rfl Tx.m_law_draw Tx.F_law_draw.kp Tx.b_law_draw .nil pass0 (pac (pv 0) (pac (pv 1) (pac pe_int pa_nil)))) (pac (pe_op op_add pe_int (pe_call (ok_law_draw Tx) (hr.mono (by omega)) rfl Tx.m_law_draw Tx.F_law_draw.kp Tx.b_law_draw .nil pass0 (pac (pv 0) (pac (pv 1) (pac pe_int pa_nil))))) (pac pe_int pa_nil)))) (pe_op op_sub (pv 2) pe_int) (fun _ _ => rfl)) pa_nil)))))
    pss_nil)
    (pss_cons (ps_set (i := 3) sc_law_leaf.nd rfl (Or.inl rfl) (pe_op op_add pe_int (pe_call (ok_law_draw Tx) (hr.mono (by omega)) rfl Tx.m_law_draw Tx.F_law_draw.kp Tx.b_law_draw .nil pass0 (pac (pv 0) (pac (pv 1) (pac (pe_ix ix_list (pe_lst (pac pe_int (pac pe_int pa_nil))) (pe_op op_sub (pv 2) pe_int) (fun _ _ => rfl)) pa_nil))))))
    (pss_one (ps_ret (pe_tup (pac pe_str (pac (pv 3) (pac (pe_call (ok_law_rising Tx) (hr.mono (by omega)) rfl Tx.m_law_rising Tx.F_law_rising.kp Tx.b_law_rising .nil pass0 (pac (pv 0) (pac (pv 1) (pac pe_int (pac (pe_op op_sub (pv 3) pe_int) pa_nil))))) pa_nil)))))))))), ?_⟩
  refine ⟨_, rfl, _, rfl, a, tp, ns, k, 6, rfl, S, hT, k0, by omega, by decide, by decide, fun c H1 c0 c1 b1 => ?_⟩
  refine ⟨_, rfl, rfl, _, rfl, ?_⟩
  by_cases h0 : c = 0
  · refine itT (by subst h0; decide) ⟨by show 1 ≤ sizeLine; decide, fun p hp => ?_⟩
    exact q _ .always _ _ (b1.same (same_new hp _)) (by omega) (by omega) (.always upd_same) trivial rfl rfl
  · refine itF (by rw [dec_int]; simpa using h0) ?_
    refine ⟨_, rfl, _, _, rfl, rfl, _, rfl, ?_⟩
    by_cases h4 : c < 4
    · refine itT (decide_eq_true h4) ?_
      refine ⟨_, rfl, _, rfl, a, tp, ns, k + 1, 128, rfl, b1.scr S, b1.tape, by omega, by omega, by decide, by decide, fun d1 H2 d10 d11 b2 => ?_⟩
      have B2 := b1.trans b2
      refine ⟨_, rfl, _, rfl, a, tp, ns, k + 1 + 1, 4, rfl, B2.scr S, B2.tape, by omega, by omega, by decide, by decide, fun d2 H3 d20 d21 b3 => ⟨_, _, rfl, rfl, by show 3 ≤ sizeLine; decide, fun p hp => ?_⟩⟩
      have B3 := B2.trans b3
      obtain ⟨vb, eb, b, rfl, hb⟩ := at_all (p := fun v => ∃ n : Nat, v = V.int (n : Nat) ∧ n ≤ 127) (xs := [.int d1, .int (1 + d2), .int 31]) (d := c - 1) (fun v hv => by
        simp only [List.mem_cons, List.not_mem_nil, or_false] at hv
        rcases hv with rfl | rfl | rfl
        · exact ⟨d1.toNat, congrArg V.int (by omega), by omega⟩
        · exact ⟨(1 + d2).toNat, congrArg V.int (by omega), by omega⟩
        · exact ⟨31, rfl, by decide⟩) (by omega) (by show c - 1 < 3; omega)
      refine ⟨_, rfl, _, _, rfl, rfl, p, _, _, _, rfl, rfl, SqL.of upd_same, eb, by show 2 ≤ sizeLine; decide, fun p2 hp2 => ?_⟩
      exact q _ (.week b) _ _ ((B3.same (same_new hp _)).same (same_new hp2 _)) (by omega) (by omega) (.week upd_same) hb rfl rfl
    · refine itF (by rw [decide_eq_false h4]; decide) ?_
      refine ⟨_, rfl, _, rfl, by show 2 ≤ sizeLine; decide, fun p hp => ?_⟩
      have B1 := b1.same (same_new hp (.lst [.int 28, .int 7]))
      obtain ⟨vm, em, m, rfl, hm1, hm2⟩ := at_all (p := fun v => ∃ n : Nat, v = V.int (n : Nat) ∧ 1 ≤ n ∧ n ≤ 28) (xs := [.int 28, .int 7]) (d := c - 4) (fun v hv => by
        simp only [List.mem_cons, List.not_mem_nil, or_false] at hv
        rcases hv with rfl | rfl
        · exact ⟨28, rfl, by decide, by decide⟩
        · exact ⟨7, rfl, by decide, by decide⟩) (by omega) (by show c - 4 < 2; omega)
      refine ⟨_, rfl, _, _, rfl, rfl, p, _, _, _, rfl, rfl, SqL.of upd_same, em, a, tp, ns, k + 1, _, rfl, B1.scr S, B1.tape, by omega, by omega, by omega, by omega, fun d H2 d0 d1 b2 => ⟨_, _, rfl, rfl, ?_⟩⟩
      have B2 := B1.trans b2
      obtain ⟨n, en⟩ : ∃ n : Nat, 1 + d = ((n : Nat) : Int) := ⟨(1 + d).toNat, by omega⟩
      refine ⟨_, rfl, _, rfl, _, rfl, _, rfl, _, _, rfl, rfl, a, tp, ns, k + 1 + 1, 0, n - 1, eq4 rfl (by omega), B2.scr S, B2.tape, by omega, by omega, by omega, by omega, fun l zs k' H3 b3 u1 u2 hl hne g => ?_⟩
      refine ⟨by show 3 ≤ sizeLine; decide, fun p3 hp3 => ?_⟩
      have s3 := same_new hp3 (.tup [.str (Str.ofString "each"), .int (1 + d), .ref l])
      have hp3' : upd H3 p3 (.tup [.str (Str.ofString "each"), .int (1 + d), .ref l]) p3 = some (.tup [.str (Str.ofString "each"), .int ((n : Nat) : Int), .ref l]) := by rw [upd_same, en]
      exact q _ (.each n zs) _ _ ((B2.trans b3).same s3) (by omega) (by omega) (.each hp3' (s3 _ _ hl) hne) ⟨by omega, by omega, g⟩ rfl rfl

/- a tree, drawn: no more room, no deeper than told -/
def spTree (K : PySem.W.Frag) (n : Nat) : Sp := fun vs H Q _ => ∃ (a tp : Addr) (ns : List Int) (k : Int) (room deep : Nat), vs = [.ref a, .ref tp, .int (room : Nat), .int (deep : Nat)] ∧ Scr K H a tp ns ∧ H tp = some (.lst [.int k]) ∧ 0 ≤ k ∧ k + 40 * room ≤ 70000 ∧ 1 ≤ room ∧ room ≤ 15 ∧ 1 ≤ deep ∧ deep ≤ n ∧
  ∀ (v : V) (r : RT) (k' : Int) (H' : Hp), Bump tp k' H H' → k ≤ k' → k' ≤ k + 40 * room → TAtr tp H' v r → r.good → r.weight ≤ room → r.depth ≤ deep → Q v H'
theorem tree_ok (Tx : Tab K mg t) : ∀ n : Nat, FnOk P w K mg base CX0 (n + 5) t.f_law_tree t.d_law_tree ["_law_script", "_law_tape", "_law_room", "_law_deep"] (spTree K n) := by
  intro n
  induction n with
  | zero =>
    refine Tx.F_law_tree.ok sc_law_tree (fun vs H Q E h => ?_) (fun cdv A outer s H vs Q E hr h => ?_)
    · obtain ⟨a, tp, ns, k, room, deep, rfl, _⟩ := h
      rfl
    · obtain ⟨a, tp, ns, k, room, deep, rfl, S, hT, k0, k1, r1, r15, d1, dn, _⟩ := h
      omega
  | succ n ih =>
  refine Tx.F_law_tree.ok sc_law_tree (fun vs H Q E h => ?_) (fun cdv A outer s H vs Q E hr h => ?_)
  · obtain ⟨a, tp, ns, k, room, deep, rfl, _⟩ := h
    rfl
  obtain ⟨a, tp, ns, k, room, deep, rfl, S, hT, k0, k1, r1, r15, dd1, dn, q⟩ := h
  refine ⟨_, (pss_cons (ps_set (i := 4) sc_law_tree.nd rfl (Or.inl rfl) (pe_call (ok_law_draw Tx) (hr.mono (by omega)) rfl Tx.m_law_draw Tx.F_law_draw.kp Tx.b_law_draw .nil pass0 (pac (pv 0) (pac (pv 1) (pac pe_int pa_nil)))))
    (pss_cons (ps_if (PW.pt (pw_or (pt_cmpR op_eq (pv 2) pe_int (nomark _)) (pw_or (pt_cmpR op_eq (pv 3) pe_int (nomark _)) (pw_or1 (PW.pt (pw_and (pt_cmpR op_eq (pv 4) pe_int (nomark _)) (pw_and1 (pt_cmpR op_lt (pv 2) pe_int (nomark _)))))))))
    (pss_one (ps_ret (pe_call (ok_law_leaf Tx) (hr.mono (by omega)) rfl Tx.m_law_leaf Tx.F_law_leaf.kp Tx.b_law_leaf .nil pass0 (pac (pv 0) (pac (pv 1) pa_nil)))))
    pss_nil)
    (pss_cons (ps_if (PW.pt (pw_and (pt_cmpR op_lt (pv 4) pe_int (nomark _)) (pw_and1 (pt_cmpR op_gt (pv 2) pe_int (nomark _)))))
    (pss_cons (ps_set (i := 5) sc_law_tree.nd rfl (Or.inl rfl) (pe_op op_add pe_int (pe_call (ok_law_draw Tx) (hr.mono (by omega)) rfl Tx.m_law_draw Tx.F_law_draw.kp Tx.b_law_draw .nil pass0 (pac (pv 0) (pac (pv 1) (pac (pe_op op_sub (pv 2) pe_int) pa_nil))))))
    (pss_cons (ps_set (i := 6) sc_law_tree.nd rfl (Or.inl rfl) (pe_call ih (hr.mono (by omega)) rfl Tx.m_law_tree Tx.F_law_tree.kp Tx.b_law_tree .nil pass0 (pac (pv 0) (pac (pv 1) (pac (pv 5) (pac (pe_op op_sub (pv 3) pe_int) pa_nil))))))
    (pss_one (ps_ret (pe_tup (pac (pe_ix ix_list (pe_lst (pac pe_str (pac pe_str pa_nil))) (pe_op op_mod (pv 4) pe_int) (fun _ _ => rfl)) (pac (pv 6) (pac (pe_call ih (hr.mono (by omega)) rfl Tx.m_law_tree Tx.F_law_tree.kp Tx.b_law_tree .nil pass0 (pac (pv 0) (pac (pv 1) (pac (pe_op op_sub (pe_op op_sub (pv 2) pe_int) (pv 5)) (pac (pe_op op_sub (pv 3) pe_int) pa_nil))))) pa_nil))))))))
    pss_nil)
    (pss_cons (ps_set (i := 7) sc_law_tree.nd rfl (Or.inl rfl) (pe_call ih (hr.mono (by omega)) rfl Tx.m_law_tree Tx.F_law_tree.kp Tx.b_law_tree .nil pass0 (pac (pv 0) (pac (pv 1) (pac (pe_op op_sub (pv 2) pe_int) (pac (pe_op op_sub (pv 3) pe_int) pa_nil))))))
    (pss_cons (ps_if (pt_cmpR op_eq (pe_op op_mod (pv 4) pe_int) pe_int (nomark _))
    (pss_cons (ps_set (i := 5) sc_law_tree.nd rfl (Or.inl rfl) (pe_ix ix_list (pe_lst (pac (pe_call (ok_law_draw Tx) (hr.mono (by omega)) rfl Tx.m_law_draw Tx.F_law_draw.kp Tx.b_law_draw .nil pass0 (pac (pv 0) (pac (pv 1) (pac pe_int pa_nil)))) (pac (pe_call (ok_law_draw Tx) (hr.mono (by omega)) rfl Tx.m_law_draw Tx.F_law_draw.kp Tx.b_law_draw .nil pass0 (pac (pv 0) (pac (pv 1) (pac pe_int pa_nil)))) pa_nil))) (pe_op op_fdiv (pe_call (ok_law_draw Tx) (hr.mono (by omega)) rfl Tx.m_law_draw Tx.F_law_draw.kp Tx.b_law_draw .nil pass0 (pac (pv 0) (pac (pv 1) (pac pe_int pa_nil)))) pe_int) (fun _ _ => rfl)))
    (pss_one (ps_ret (pe_tup (pac pe_str (pac (pv 5) (pac (pe_callB (call_min2 rfl) rfl Tx.z_min b_min (pac pe_int (pac (pe_op op_add (pv 5) (pe_ix ix_list (pe_lst (pac pe_int (pac pe_int (pac pe_int (pac pe_int pa_nil))))) (pe_call (ok_law_draw Tx) (hr.mono (by omega)) rfl Tx.m_law_draw Tx.F_law_draw.kp Tx.b_law_draw .nil pass0 (pac (pv 0) (pac (pv 1) (pac pe_int pa_nil)))) (fun _ _ => rfl))) pa_nil))) (pac (pv 7) pa_nil))))))))
    pss_nil)
    (pss_one (ps_ret (pe_tup (pac pe_str (pac (pe_call (ok_law_rising Tx) (hr.mono (by omega)) rfl Tx.m_law_rising Tx.F_law_rising.kp Tx.b_law_rising .nil pass0 (pac (pv 0) (pac (pv 1) (pac pe_int (pac (pe_ix ix_list (pe_lst (pac pe_int (pac pe_int pa_nil))) (pe_op op_fdiv (pe_call (ok_law_draw Tx) (hr.mono (by omega)) rfl Tx.m_law_draw Tx.F_law_draw.kp Tx.b_law_draw .nil pass0 (pac (pv 0) (pac (pv 1) (pac pe_int pa_nil)))) pe_int) (fun _ _ => rfl)) pa_nil))))) (pac (pv 7) pa_nil))))))))))), ?_⟩
  refine ⟨_, rfl, _, rfl, a, tp, ns, k, 6, rfl, S, hT, k0, by omega, by decide, by decide, fun c H1 c0 c1 b1 => ?_⟩
  have lf : ∀ (v : V) (r : RT) (k' : Int) (H' : Hp), Bump tp k' H1 H' → k + 1 ≤ k' → k' ≤ k + 1 + 16 → TAtr tp H' v r → r.good → r.weight = 1 → r.depth = 1 → Q v H' := fun v r k' H' b u1 u2 ht g w1 w2 => q v r k' H' (b1.trans b) (by omega) (by omega) ht g (by omega) (by omega)
  refine ⟨_, rfl, rfl, _, rfl, ?_⟩
  by_cases hr1 : room = 1
  · exact itT (decide_eq_true (congrArg V.int (by omega))) (itT rfl ⟨_, rfl, _, rfl, a, tp, ns, k + 1, rfl, b1.scr S, b1.tape, by omega, by omega, lf⟩)
  refine itF (by rw [dec_int]; simp only [beq_iff_eq]; omega) ?_
  refine ⟨_, rfl, rfl, _, rfl, ?_⟩
  by_cases hd1 : deep = 1
  · exact itT (decide_eq_true (congrArg V.int (by omega))) (itT rfl ⟨_, rfl, _, rfl, a, tp, ns, k + 1, rfl, b1.scr S, b1.tape, by omega, by omega, lf⟩)
  refine itF (by rw [dec_int]; simp only [beq_iff_eq]; omega) ?_
  refine ⟨_, rfl, rfl, _, rfl, ?_⟩
  rcases (show (c = 0 ∧ room < 6) ∨ (c = 0 ∧ ¬ room < 6) ∨ c ≠ 0 by omega) with ⟨h0, h6⟩ | ⟨h0, h6⟩ | h0
  · refine itT (decide_eq_true (congrArg V.int h0)) ⟨_, rfl, _, _, rfl, rfl, _, rfl, ?_⟩
    exact itT (decide_eq_true (by omega)) ⟨_, rfl, _, rfl, a, tp, ns, k + 1, rfl, b1.scr S, b1.tape, by omega, by omega, lf⟩
  all_goals first
    | refine itT (decide_eq_true (congrArg V.int h0)) ⟨_, rfl, _, _, rfl, rfl, _, rfl, itF (by rw [decide_eq_false (by omega)]; decide) ?_⟩
    | refine itF (by rw [dec_int]; simpa using h0) (itF (by decide) ?_)
  all_goals
    clear h0
    rcases (show (c < 3 ∧ 2 < room) ∨ (c < 3 ∧ ¬ 2 < room) ∨ ¬ c < 3 by omega) with ⟨h3, h2⟩ | ⟨h3, h2⟩ | h3
    · refine ⟨_, rfl, _, _, rfl, rfl, _, rfl, itT (decide_eq_true h3) ⟨_, rfl, _, _, rfl, rfl, _, rfl, itT (decide_eq_true (by omega)) ?_⟩⟩
      refine ⟨_, rfl, _, rfl, _, rfl, _, _, rfl, rfl, a, tp, ns, k + 1, _, rfl, b1.scr S, b1.tape, by omega, by omega, by omega, by omega, fun d H2 d0 d1 b2 => ⟨_, _, rfl, rfl, ?_⟩⟩
      have B2 := b1.trans b2
      obtain ⟨f, ef⟩ : ∃ f : Nat, 1 + d = ((f : Nat) : Int) := ⟨(1 + d).toNat, by omega⟩
      refine ⟨_, rfl, _, rfl, _, rfl, _, rfl, _, _, rfl, rfl, a, tp, ns, k + 1 + 1, f, deep - 1, eq4 ef (by omega), B2.scr S, B2.tape, by omega, by omega, by omega, by omega, by omega, by omega, fun v1 r1 k1' H3 b3 u1 u2 t1 g1 w1 e1 => ?_⟩
      have B3 := B2.trans b3
      refine ⟨by show 2 ≤ sizeLine; decide, fun p hp => ?_⟩
      have sp := same_new hp (.lst [.str (Str.ofString "either"), .str (Str.ofString "both")])
      have B3' := B3.same sp
      have hx := at2 (x := .str (Str.ofString "either")) (y := .str (Str.ofString "both")) (d := c % 2) (Int.emod_nonneg _ (by decide)) (Int.emod_lt_of_pos _ (by decide))
      obtain ⟨wv, ew, ww⟩ : ∃ (wv : V), atI [V.str (Str.ofString "either"), .str (Str.ofString "both")] (c % 2) = some wv ∧ (wv = .str (Str.ofString "either") ∨ wv = .str (Str.ofString "both")) := by
        rcases hx with hx | hx
        · exact ⟨_, hx, .inl rfl⟩
        · exact ⟨_, hx, .inr rfl⟩
      refine ⟨_, rfl, _, _, rfl, rfl, (by show (0 : Int) < 2; decide), p, _, _, wv, rfl, rfl, SqL.of upd_same, ew, _, rfl, ?_⟩
      refine ⟨_, rfl, _, rfl, _, rfl, _, _, rfl, rfl, _, rfl, _, _, rfl, rfl, _, rfl, _, _, rfl, rfl, a, tp, ns, k1', room - 1 - f, deep - 1, eq4 (by omega) (by omega), B3'.scr S, B3'.tape, by omega, by omega, by omega, by omega, by omega, by omega, fun v2 r2 k2' H4 b4 u3 u4 t2 g2 w2 e2 => ?_⟩
      refine ⟨by show 3 ≤ sizeLine; decide, fun p2 hp2 => ?_⟩
      have s2 := same_new hp2 (.tup [wv, v1, v2])
      have T1 := ((t1.same sp).bump B3'.tape b4).same s2
      have T2 := t2.same s2
      have B5 := (B3'.trans b4).same s2
      rcases ww with rfl | rfl
      · have ed : (RT.either r1 r2).depth = 1 + max r1.depth r2.depth := rfl
        have ew2 : (RT.either r1 r2).weight = 1 + (r1.weight + r2.weight) := rfl
        exact q _ (.either r1 r2) _ _ B5 (by omega) (by omega) (.either upd_same T1 T2) ⟨g1, g2⟩ (by omega) (by omega)
      · have ed : (RT.both r1 r2).depth = 1 + max r1.depth r2.depth := rfl
        have ew2 : (RT.both r1 r2).weight = 1 + (r1.weight + r2.weight) := rfl
        exact q _ (.both r1 r2) _ _ B5 (by omega) (by omega) (.both upd_same T1 T2) ⟨g1, g2⟩ (by omega) (by omega)
    all_goals first
      | refine ⟨_, rfl, _, _, rfl, rfl, _, rfl, itT (decide_eq_true h3) ⟨_, rfl, _, _, rfl, rfl, _, rfl, itF (by rw [decide_eq_false (by omega)]; decide) ?_⟩⟩
      | refine ⟨_, rfl, _, _, rfl, rfl, _, rfl, itF (by rw [decide_eq_false h3]; decide) (itF (by decide) ?_)⟩
    all_goals
      refine ⟨_, rfl, _, rfl, _, rfl, _, _, rfl, rfl, _, rfl, _, _, rfl, rfl, a, tp, ns, k + 1, room - 1, deep - 1, eq4 (by omega) (by omega), b1.scr S, b1.tape, by omega, by omega, by omega, by omega, by omega, by omega, fun v1 r1 k1' H2 b2 u1 u2 t1 g1 w1 e1 => ?_⟩
      have B2 := b1.trans b2
      refine ⟨_, rfl, _, _, rfl, rfl, (by show (0 : Int) < 2; decide), rfl, _, rfl, ite2 (fun _ => ?_) (fun _ => ?_)⟩
      · refine ⟨_, rfl, _, rfl, a, tp, ns, k1', 40, rfl, B2.scr S, B2.tape, by omega, by omega, by decide, by decide, fun x1 H3 x10 x11 b3 => ?_⟩
        have B3 := B2.trans b3
        refine ⟨_, rfl, _, rfl, a, tp, ns, k1' + 1, 10000, rfl, B3.scr S, B3.tape, by omega, by omega, by decide, by decide, fun x2 H4 x20 x21 b4 => ⟨by show 2 ≤ sizeLine; decide, fun p hp => ?_⟩⟩
        have B4 := B3.trans b4
        have sp := same_new hp (.lst [.int x1, .int x2])
        have B4' := B4.same sp
        have np : p ≠ tp := ne_tp B4.tape hp
        refine ⟨_, rfl, _, rfl, a, tp, ns, k1' + 1 + 1, 3, rfl, B4'.scr S, B4'.tape, by omega, by omega, by decide, by decide, fun x3 H5 x30 x31 b5 => ⟨_, _, rfl, rfl, ⟨by decide, by decide⟩, ?_⟩⟩
        have B5 := B4'.trans b5
        obtain ⟨vf, ef, f, rfl, hf⟩ := at_all (p := fun v => ∃ n : Nat, v = V.int (n : Nat) ∧ n ≤ 9999) (xs := [.int x1, .int x2]) (d := x3 / 2) (fun v hv => by
          simp only [List.mem_cons, List.not_mem_nil, or_false] at hv
          rcases hv with rfl | rfl
          · exact ⟨x1.toNat, congrArg V.int (by omega), by omega⟩
          · exact ⟨x2.toNat, congrArg V.int (by omega), by omega⟩) (by omega) (by show x3 / 2 < 2; omega)
        refine ⟨p, _, _, _, rfl, rfl, SqL.of (b5.keep _ _ np upd_same), ef, ?_⟩
        refine ⟨_, rfl, _, rfl, by show 4 ≤ sizeLine; decide, fun p2 hp2 => ?_⟩
        have sp2 := same_new hp2 (.lst [.int 0, .int 6, .int 30, .int 9999])
        have B5' := B5.same sp2
        have np2 : p2 ≠ tp := ne_tp B5.tape hp2
        refine ⟨_, rfl, _, rfl, a, tp, ns, k1' + 1 + 1 + 1, 4, rfl, B5'.scr S, B5'.tape, by omega, by omega, by decide, by decide, fun x4 H6 x40 x41 b6 => ?_⟩
        have B6 := B5'.trans b6
        obtain ⟨vg, eg, g, rfl, hg⟩ := at_all (p := fun v => ∃ n : Nat, v = V.int (n : Nat) ∧ n ≤ 9999) (xs := [.int 0, .int 6, .int 30, .int 9999]) (d := x4) (fun v hv => by
          simp only [List.mem_cons, List.not_mem_nil, or_false] at hv
          rcases hv with rfl | rfl | rfl | rfl
          · exact ⟨0, rfl, by decide⟩
          · exact ⟨6, rfl, by decide⟩
          · exact ⟨30, rfl, by decide⟩
          · exact ⟨9999, rfl, by decide⟩) x40 (by show x4 < 4; omega)
        refine ⟨p2, _, _, _, rfl, rfl, SqL.of (b6.keep _ _ np2 upd_same), eg, _, _, rfl, rfl, _, _, rfl, _, rfl, by show 4 ≤ sizeLine; decide, fun p3 hp3 => ?_⟩
        obtain ⟨y, ey, hy1, hy2⟩ : ∃ y : Nat, (if ((f : Nat) : Int) + ((g : Nat) : Int) < 9999 then ((f : Nat) : Int) + ((g : Nat) : Int) else (9999 : Int)) = ((y : Nat) : Int) ∧ f ≤ y ∧ y ≤ 9999 := by
          by_cases z : ((f : Nat) : Int) + ((g : Nat) : Int) < 9999
          · exact ⟨f + g, by rw [if_pos z]; omega, by omega, by omega⟩
          · exact ⟨9999, by rw [if_neg z]; rfl, by omega, by omega⟩
        have s3 := same_new hp3 (.tup [.str (Str.ofString "span"), .int (f : Nat), .int (if ((f : Nat) : Int) + ((g : Nat) : Int) < 9999 then ((f : Nat) : Int) + ((g : Nat) : Int) else (9999 : Int)), v1])
        have T1 := ((((((t1.bump B2.tape b3).bump B3.tape b4).same sp).bump B4'.tape b5).same sp2).bump B5'.tape b6).same s3
        have ed : (RT.span f y r1).depth = 1 + r1.depth := rfl
        have ew2 : (RT.span f y r1).weight = 1 + r1.weight := rfl
        have at3 : upd H6 p3 (.tup [.str (Str.ofString "span"), .int (f : Nat), .int (if ((f : Nat) : Int) + ((g : Nat) : Int) < 9999 then ((f : Nat) : Int) + ((g : Nat) : Int) else (9999 : Int)), v1]) p3 = some (.tup [.str (Str.ofString "span"), .int (f : Nat), .int (y : Nat), v1]) := by rw [upd_same, ey]
        exact q _ (.span f y r1) _ _ (B6.same s3) (by omega) (by omega) (.span at3 T1) ⟨hy1, hy2, g1⟩ (by omega) (by omega)
      · refine ⟨_, rfl, _, rfl, by show 2 ≤ sizeLine; decide, fun p hp => ?_⟩
        have sp := same_new hp (.lst [.int 40, .int 9999])
        have B2' := B2.same sp
        have np : p ≠ tp := ne_tp B2.tape hp
        refine ⟨_, rfl, _, rfl, a, tp, ns, k1', 3, rfl, B2'.scr S, B2'.tape, by omega, by omega, by decide, by decide, fun x3 H3 x30 x31 b3 => ⟨_, _, rfl, rfl, ⟨by decide, by decide⟩, ?_⟩⟩
        have B3 := B2'.trans b3
        obtain ⟨vf, ef, f, rfl, hf⟩ := at_all (p := fun v => ∃ n : Nat, v = V.int (n : Nat) ∧ n ≤ 9999) (xs := [.int 40, .int 9999]) (d := x3 / 2) (fun v hv => by
          simp only [List.mem_cons, List.not_mem_nil, or_false] at hv
          rcases hv with rfl | rfl
          · exact ⟨40, rfl, by decide⟩
          · exact ⟨9999, rfl, by decide⟩) (by omega) (by show x3 / 2 < 2; omega)
        refine ⟨p, _, _, _, rfl, rfl, SqL.of (b3.keep _ _ np upd_same), ef, a, tp, ns, k1' + 1, 0, f, rfl, B3.scr S, B3.tape, by omega, by omega, by omega, hf, fun l zs k2 H4 b4 u3 u4 hl hne g => ?_⟩
        refine ⟨_, rfl, by show 3 ≤ sizeLine; decide, fun p3 hp3 => ?_⟩
        have s3 := same_new hp3 (.tup [.str (Str.ofString "but"), .ref l, v1])
        have T1 := (((t1.same sp).bump B2'.tape b3).bump B3.tape b4).same s3
        have ed : (RT.but zs r1).depth = 1 + r1.depth := rfl
        have ew2 : (RT.but zs r1).weight = 1 + r1.weight := rfl
        exact q _ (.but zs r1) _ _ ((B3.trans b4).same s3) (by omega) (by omega) (.but upd_same (s3 _ _ hl) hne T1) ⟨⟨g.one, g.few, g.up, fun y hy => ⟨Nat.zero_le _, Nat.le_trans (g.all y hy).2 hf⟩⟩, g1⟩ (by omega) (by omega)

/- the program's rule of a tree no deeper than n -/
def spMade (c : RC) (K : PySem.W.Frag) (n : Nat) : Sp := fun vs H Q _ => ∃ (tp : Addr) (v : V) (r : RT), vs = [v] ∧ TAtr tp H v r ∧ r.good ∧ r.weight ≤ 15 ∧ r.depth ≤ 8 ∧ r.depth ≤ n ∧ ∀ b H', Same H H' → RAt c K H' b r → Q (.ref b) H'
theorem made_ok (Tx : Tab K mg t) : ∀ n : Nat, FnOk P w K mg base CX0 (n + 42) t.f_law_made t.d_law_made ["_law_tree_here"] (spMade (rc t) K n) := by
  intro n
  induction n with
  | zero =>
    refine Tx.F_law_made.ok sc_law_made (fun vs H Q E h => ?_) (fun cdv A outer s H vs Q E hr h => ?_)
    · obtain ⟨tp, v, r, rfl, _⟩ := h
      rfl
    · obtain ⟨tp, v, r, rfl, h, g, hw, h8, hd, _⟩ := h
      have := r.depth_pos
      omega
  | succ n ih =>
  refine Tx.F_law_made.ok sc_law_made (fun vs H Q E h => ?_) (fun cdv A outer s H vs Q E hr h => ?_)
  · obtain ⟨tp, v, r, rfl, _⟩ := h
    rfl
  obtain ⟨tp, v, r, rfl, h, g, hw, h8, hd, q⟩ := h
  refine ⟨_, (pss_cons (ps_if (pt_cmpR op_eq (pe_ix ix_tup (pv 0) pe_int (fun _ _ => rfl)) pe_str (nomark _))
    (pss_one (ps_ret (pe_makeN Tx.mkn_Rule rfl Tx.m_Rule)))
    pss_nil)
    (pss_cons (ps_if (pt_cmpR op_eq (pe_ix ix_tup (pv 0) pe_int (fun _ _ => rfl)) pe_str (nomark _))
    (pss_one (ps_ret (pe_make Tx.mk_Week (ini_Week Tx) (hr.mono (by omega)) rfl Tx.m_Week Tx.b_Week_init .nil pass0 (pac (pe_ix ix_tup (pv 0) pe_int (fun _ _ => rfl)) pa_nil))))
    pss_nil)
    (pss_cons (ps_if (pt_cmpR op_eq (pe_ix ix_tup (pv 0) pe_int (fun _ _ => rfl)) pe_str (nomark _))
    (pss_one (ps_ret (pe_make Tx.mk_Each (ini_Each Tx) (hr.mono (by omega)) rfl Tx.m_Each Tx.b_Each_init .nil pass0 (pac (pe_ix ix_tup (pv 0) pe_int (fun _ _ => rfl)) (pac (pe_callTy call_list_of rfl Tx.z_list b_list (pac (pe_ix ix_tup (pv 0) pe_int (fun _ _ => rfl)) pa_nil)) pa_nil)))))
    pss_nil)
    (pss_cons (ps_if (pt_cmpR op_eq (pe_ix ix_tup (pv 0) pe_int (fun _ _ => rfl)) pe_str (nomark _))
    (pss_one (ps_ret (pe_make Tx.mk_Span (ini_Span Tx) (hr.mono (by omega)) rfl Tx.m_Span Tx.b_Span_init .nil pass0 (pac (pe_ix ix_tup (pv 0) pe_int (fun _ _ => rfl)) (pac (pe_ix ix_tup (pv 0) pe_int (fun _ _ => rfl)) (pac (pe_call ih (hr.mono (by omega)) rfl Tx.m_law_made Tx.F_law_made.kp Tx.b_law_made .nil pass0 (pac (pe_ix ix_tup (pv 0) pe_int (fun _ _ => rfl)) pa_nil)) pa_nil))))))
    pss_nil)
    (pss_cons (ps_if (pt_cmpR op_eq (pe_ix ix_tup (pv 0) pe_int (fun _ _ => rfl)) pe_str (nomark _))
    (pss_one (ps_ret (pe_make Tx.mk_But (ini_But Tx) (hr.mono (by omega)) rfl Tx.m_But Tx.b_But_init .nil pass0 (pac (pe_callTy call_list_of rfl Tx.z_list b_list (pac (pe_ix ix_tup (pv 0) pe_int (fun _ _ => rfl)) pa_nil)) (pac (pe_call ih (hr.mono (by omega)) rfl Tx.m_law_made Tx.F_law_made.kp Tx.b_law_made .nil pass0 (pac (pe_ix ix_tup (pv 0) pe_int (fun _ _ => rfl)) pa_nil)) pa_nil)))))
    pss_nil)
    (pss_cons (ps_if (pt_cmpR op_eq (pe_ix ix_tup (pv 0) pe_int (fun _ _ => rfl)) pe_str (nomark _))
    (pss_one (ps_ret (pe_make Tx.mk_Either (ini_Either Tx) (hr.mono (by omega)) rfl Tx.m_Either Tx.b_Either_init .nil pass0 (pac (pe_call ih (hr.mono (by omega)) rfl Tx.m_law_made Tx.F_law_made.kp Tx.b_law_made .nil pass0 (pac (pe_ix ix_tup (pv 0) pe_int (fun _ _ => rfl)) pa_nil)) (pac (pe_call ih (hr.mono (by omega)) rfl Tx.m_law_made Tx.F_law_made.kp Tx.b_law_made .nil pass0 (pac (pe_ix ix_tup (pv 0) pe_int (fun _ _ => rfl)) pa_nil)) pa_nil)))))
    pss_nil)
    (pss_one (ps_ret (pe_make Tx.mk_Both (ini_Both Tx) (hr.mono (by omega)) rfl Tx.m_Both Tx.b_Both_init .nil pass0 (pac (pe_call ih (hr.mono (by omega)) rfl Tx.m_law_made Tx.F_law_made.kp Tx.b_law_made .nil pass0 (pac (pe_ix ix_tup (pv 0) pe_int (fun _ _ => rfl)) pa_nil)) (pac (pe_call ih (hr.mono (by omega)) rfl Tx.m_law_made Tx.F_law_made.kp Tx.b_law_made .nil pass0 (pac (pe_ix ix_tup (pv 0) pe_int (fun _ _ => rfl)) pa_nil)) pa_nil))))))))))), ?_⟩
  cases h with
  | always h =>
    refine ⟨_, rfl, _, _, 0, _, rfl, rfl, SqT.of h, rfl, rfl, _, rfl, itT (by decide +kernel) ?_⟩
    exact fun x dx nx nd nex => q x _ (same_upd nx (same_upd nd (Same.refl _) _) _) (.always upd_same)
  | week h =>
    refine ⟨_, rfl, _, _, 0, _, rfl, rfl, SqT.of h, rfl, rfl, _, rfl, itF (by decide +kernel) ?_⟩
    refine ⟨_, rfl, _, _, 0, _, rfl, rfl, SqT.of h, rfl, rfl, _, rfl, itT (by decide +kernel) ?_⟩
    exact ⟨_, rfl, _, _, 1, _, rfl, rfl, SqT.of h, rfl, fun x dx nx nd nex => ⟨x, H, _, rfl, made_new nx nd, g, fun H' s' h' => ⟨rfl, q x H' s' (h'.same (dif_sub _ _))⟩⟩⟩
  | each h hl ne =>
    rename_i a l m ss
    refine ⟨_, rfl, _, _, 0, _, rfl, rfl, SqT.of h, rfl, rfl, _, rfl, itF (by decide +kernel) ?_⟩
    refine ⟨_, rfl, _, _, 0, _, rfl, rfl, SqT.of h, rfl, rfl, _, rfl, itF (by decide +kernel) ?_⟩
    refine ⟨_, rfl, _, _, 0, _, rfl, rfl, SqT.of h, rfl, rfl, _, rfl, itT (by decide +kernel) ?_⟩
    refine ⟨_, rfl, _, _, 1, _, rfl, rfl, SqT.of h, rfl, _, rfl, _, _, 2, _, rfl, rfl, SqT.of h, rfl, l, _, rfl, .inl (SqL.of hl), fun p hp x dx nx nd nex => ?_⟩
    have s1 := same_new hp (.lst (natV ss))
    exact ⟨x, p, _, _, _, rfl, made_new nx nd, upd_same, g, fun H' s' h' => ⟨rfl, q x H' (s1.trans s') (h'.same (dif_sub _ _))⟩⟩
  | span h hv =>
    rename_i a x0 y0 v r
    have ed : (RT.span x0 y0 r).depth = 1 + r.depth := rfl
    have ew : (RT.span x0 y0 r).weight = 1 + r.weight := rfl
    refine ⟨_, rfl, _, _, 0, _, rfl, rfl, SqT.of h, rfl, rfl, _, rfl, itF (by decide +kernel) ?_⟩
    refine ⟨_, rfl, _, _, 0, _, rfl, rfl, SqT.of h, rfl, rfl, _, rfl, itF (by decide +kernel) ?_⟩
    refine ⟨_, rfl, _, _, 0, _, rfl, rfl, SqT.of h, rfl, rfl, _, rfl, itF (by decide +kernel) ?_⟩
    refine ⟨_, rfl, _, _, 0, _, rfl, rfl, SqT.of h, rfl, rfl, _, rfl, itT (by decide +kernel) ?_⟩
    refine ⟨_, rfl, _, _, 1, _, rfl, rfl, SqT.of h, rfl, _, rfl, _, _, 2, _, rfl, rfl, SqT.of h, rfl, _, rfl, _, _, 3, _, rfl, rfl, SqT.of h, rfl, tp, v, r, rfl, hv, g.2.2, by omega, by omega, by omega, fun b H1 s1 h1 => ?_⟩
    exact fun x dx nx nd nex => ⟨x, b, H1, x0, y0, r, rfl, made_new nx nd, h1, g, hw, h8, by omega, fun H' s' h' => ⟨rfl, q x H' (s1.trans s') (h'.same (dif_sub _ _))⟩⟩
  | but h hl ne hv =>
    rename_i a l ds v r
    have ed : (RT.but ds r).depth = 1 + r.depth := rfl
    have ew : (RT.but ds r).weight = 1 + r.weight := rfl
    refine ⟨_, rfl, _, _, 0, _, rfl, rfl, SqT.of h, rfl, rfl, _, rfl, itF (by decide +kernel) ?_⟩
    refine ⟨_, rfl, _, _, 0, _, rfl, rfl, SqT.of h, rfl, rfl, _, rfl, itF (by decide +kernel) ?_⟩
    refine ⟨_, rfl, _, _, 0, _, rfl, rfl, SqT.of h, rfl, rfl, _, rfl, itF (by decide +kernel) ?_⟩
    refine ⟨_, rfl, _, _, 0, _, rfl, rfl, SqT.of h, rfl, rfl, _, rfl, itF (by decide +kernel) ?_⟩
    refine ⟨_, rfl, _, _, 0, _, rfl, rfl, SqT.of h, rfl, rfl, _, rfl, itT (by decide +kernel) ?_⟩
    refine ⟨_, rfl, _, _, 1, _, rfl, rfl, SqT.of h, rfl, l, _, rfl, .inl (SqL.of hl), fun p hp => ?_⟩
    have s1 := same_new hp (.lst (natV ds))
    have h1 := s1 _ _ h
    refine ⟨_, rfl, _, _, 2, _, rfl, rfl, SqT.of h1, rfl, tp, v, r, rfl, hv.same s1, g.2, by omega, by omega, by omega, fun b H2 s2 h2 => ?_⟩
    exact fun x dx nx nd nex => ⟨x, p, b, H2, ds, r, rfl, made_new nx nd, s2 _ _ upd_same, h2, g, hw, h8, by omega, fun H' s' h' => ⟨rfl, q x H' ((s1.trans s2).trans s') (h'.same (dif_sub _ _))⟩⟩
  | either h hv hu =>
    rename_i a v u r r2
    have ed : (RT.either r r2).depth = 1 + max r.depth r2.depth := rfl
    have ew : (RT.either r r2).weight = 1 + (r.weight + r2.weight) := rfl
    refine ⟨_, rfl, _, _, 0, _, rfl, rfl, SqT.of h, rfl, rfl, _, rfl, itF (by decide +kernel) ?_⟩
    refine ⟨_, rfl, _, _, 0, _, rfl, rfl, SqT.of h, rfl, rfl, _, rfl, itF (by decide +kernel) ?_⟩
    refine ⟨_, rfl, _, _, 0, _, rfl, rfl, SqT.of h, rfl, rfl, _, rfl, itF (by decide +kernel) ?_⟩
    refine ⟨_, rfl, _, _, 0, _, rfl, rfl, SqT.of h, rfl, rfl, _, rfl, itF (by decide +kernel) ?_⟩
    refine ⟨_, rfl, _, _, 0, _, rfl, rfl, SqT.of h, rfl, rfl, _, rfl, itF (by decide +kernel) ?_⟩
    refine ⟨_, rfl, _, _, 0, _, rfl, rfl, SqT.of h, rfl, rfl, _, rfl, itT (by decide +kernel) ?_⟩
    refine ⟨_, rfl, _, _, 1, _, rfl, rfl, SqT.of h, rfl, tp, v, r, rfl, hv, g.1, by omega, by omega, by omega, fun b H1 s1 h1 => ?_⟩
    have h2 := s1 _ _ h
    refine ⟨_, rfl, _, _, 2, _, rfl, rfl, SqT.of h2, rfl, tp, u, r2, rfl, hu.same s1, g.2, by omega, by omega, by omega, fun c H2 s2 h3 => ?_⟩
    exact fun x dx nx nd nex => ⟨x, b, c, H2, r, r2, rfl, made_new nx nd, h1.same s2, h3, g, hw, h8, by omega, by omega, fun H' s' h' => ⟨rfl, q x H' ((s1.trans s2).trans s') (h'.same (dif_sub _ _))⟩⟩
  | both h hv hu =>
    rename_i a v u r r2
    have ed : (RT.both r r2).depth = 1 + max r.depth r2.depth := rfl
    have ew : (RT.both r r2).weight = 1 + (r.weight + r2.weight) := rfl
    refine ⟨_, rfl, _, _, 0, _, rfl, rfl, SqT.of h, rfl, rfl, _, rfl, itF (by decide +kernel) ?_⟩
    refine ⟨_, rfl, _, _, 0, _, rfl, rfl, SqT.of h, rfl, rfl, _, rfl, itF (by decide +kernel) ?_⟩
    refine ⟨_, rfl, _, _, 0, _, rfl, rfl, SqT.of h, rfl, rfl, _, rfl, itF (by decide +kernel) ?_⟩
    refine ⟨_, rfl, _, _, 0, _, rfl, rfl, SqT.of h, rfl, rfl, _, rfl, itF (by decide +kernel) ?_⟩
    refine ⟨_, rfl, _, _, 0, _, rfl, rfl, SqT.of h, rfl, rfl, _, rfl, itF (by decide +kernel) ?_⟩
    refine ⟨_, rfl, _, _, 0, _, rfl, rfl, SqT.of h, rfl, rfl, _, rfl, itF (by decide +kernel) ?_⟩
    refine ⟨_, rfl, _, _, 1, _, rfl, rfl, SqT.of h, rfl, tp, v, r, rfl, hv, g.1, by omega, by omega, by omega, fun b H1 s1 h1 => ?_⟩
    have h2 := s1 _ _ h
    refine ⟨_, rfl, _, _, 2, _, rfl, rfl, SqT.of h2, rfl, tp, u, r2, rfl, hu.same s1, g.2, by omega, by omega, by omega, fun c H2 s2 h3 => ?_⟩
    exact fun x dx nx nd nex => ⟨x, b, c, H2, r, r2, rfl, made_new nx nd, h1.same s2, h3, g, hw, h8, by omega, by omega, fun H' s' h' => ⟨rfl, q x H' ((s1.trans s2).trans s') (h'.same (dif_sub _ _))⟩⟩

/- the law's own going by a rule no deeper than n -/
def spLRuns (n : Nat) : Sp := fun vs H Q _ => ∃ (tp : Addr) (v : V) (r : RT) (d : Nat), vs = [v, .int (d : Nat)] ∧ TAtr tp H v r ∧ r.good ∧ r.depth ≤ n ∧ ∀ H', Same H H' → Q (.bl (r.runs d)) H'
theorem lruns_ok (Tx : Tab K mg t) : ∀ n : Nat, FnOk P w K mg base CX0 (n + 1) t.f_law_runs t.d_law_runs ["_law_tree_here", "_law_day"] (spLRuns n) := by
  intro n
  induction n with
  | zero =>
    refine Tx.F_law_runs.ok sc_law_runs (fun vs H Q E h => ?_) (fun cdv A outer s H vs Q E hr h => ?_)
    · obtain ⟨tp, v, r, d, rfl, _⟩ := h
      rfl
    · obtain ⟨tp, v, r, d, rfl, h, g, hd, _⟩ := h
      have := r.depth_pos
      omega
  | succ n ih =>
  refine Tx.F_law_runs.ok sc_law_runs (fun vs H Q E h => ?_) (fun cdv A outer s H vs Q E hr h => ?_)
  · obtain ⟨tp, v, r, d, rfl, _⟩ := h
    rfl
  obtain ⟨tp, v, r, d, rfl, h, g, hd, q⟩ := h
  refine ⟨_, (pss_cons (ps_if (pt_cmpR op_eq (pe_ix ix_tup (pv 0) pe_int (fun _ _ => rfl)) pe_str (nomark _))
    (pss_cons (ps_set (i := 2) sc_law_runs.nd rfl (Or.inl rfl) (pe_ix ix_tup (pv 0) pe_int (fun _ _ => rfl)))
    (pss_cons (ps_for PassesOwn.never rfl (pi_range1 rfl Tx.z_range (pac (pe_op op_mod (pv 1) pe_int) pa_nil)) (pg_name (i := 3) sc_law_runs.nd rfl (Or.inl rfl))
    (pss_one (ps_set (i := 2) sc_law_runs.nd rfl (Or.inl rfl) (pe_op op_fdiv (pv 2) pe_int))))
    (pss_one (ps_ret (pe_cmpR op_eq (pe_op op_mod (pv 2) pe_int) pe_int (nomark _))))))
    pss_nil)
    (pss_cons (ps_if (pt_cmpR op_eq (pe_ix ix_tup (pv 0) pe_int (fun _ _ => rfl)) pe_str (nomark _))
    (pss_one (ps_ret (pe_cmpR op_in_seq (pe_op op_sub (pv 1) (pe_op op_mul (pe_op op_fdiv (pv 1) (pe_ix ix_tup (pv 0) pe_int (fun _ _ => rfl))) (pe_ix ix_tup (pv 0) pe_int (fun _ _ => rfl)))) (pe_ix ix_tup (pv 0) pe_int (fun _ _ => rfl)) rfl)))
    pss_nil)
    (pss_cons (ps_if (pt_cmpR op_eq (pe_ix ix_tup (pv 0) pe_int (fun _ _ => rfl)) pe_str (nomark _))
    (pss_one (ps_ret (pe_and (pe_cmpR op_ge (pv 1) (pe_ix ix_tup (pv 0) pe_int (fun _ _ => rfl)) (nomark _)) (pe_and (pe_cmpR op_le (pv 1) (pe_ix ix_tup (pv 0) pe_int (fun _ _ => rfl)) (nomark _)) (pe_one (pe_call ih (hr.mono (by omega)) rfl Tx.m_law_runs Tx.F_law_runs.kp Tx.b_law_runs .nil pass0 (pac (pe_ix ix_tup (pv 0) pe_int (fun _ _ => rfl)) (pac (pv 1) pa_nil))))))))
    pss_nil)
    (pss_cons (ps_if (pt_cmpR op_eq (pe_ix ix_tup (pv 0) pe_int (fun _ _ => rfl)) pe_str (nomark _))
    (pss_one (ps_ret (pe_cmpR op_ne (pe_call ih (hr.mono (by omega)) rfl Tx.m_law_runs Tx.F_law_runs.kp Tx.b_law_runs .nil pass0 (pac (pe_ix ix_tup (pv 0) pe_int (fun _ _ => rfl)) (pac (pv 1) pa_nil))) (pe_cmpR op_in_seq (pv 1) (pe_ix ix_tup (pv 0) pe_int (fun _ _ => rfl)) rfl) (nomark _))))
    pss_nil)
    (pss_cons (ps_if (pt_cmpR op_eq (pe_ix ix_tup (pv 0) pe_int (fun _ _ => rfl)) pe_str (nomark _))
    (pss_one (ps_ret (pe_cmpR op_in_seq pe_bl (pe_lst (pac (pe_call ih (hr.mono (by omega)) rfl Tx.m_law_runs Tx.F_law_runs.kp Tx.b_law_runs .nil pass0 (pac (pe_ix ix_tup (pv 0) pe_int (fun _ _ => rfl)) (pac (pv 1) pa_nil))) (pac (pe_call ih (hr.mono (by omega)) rfl Tx.m_law_runs Tx.F_law_runs.kp Tx.b_law_runs .nil pass0 (pac (pe_ix ix_tup (pv 0) pe_int (fun _ _ => rfl)) (pac (pv 1) pa_nil))) pa_nil))) rfl)))
    pss_nil)
    (pss_cons (ps_if (pt_cmpR op_eq (pe_ix ix_tup (pv 0) pe_int (fun _ _ => rfl)) pe_str (nomark _))
    (pss_one (ps_ret (pe_cmpR op_notIn_seq pe_bl (pe_lst (pac (pe_call ih (hr.mono (by omega)) rfl Tx.m_law_runs Tx.F_law_runs.kp Tx.b_law_runs .nil pass0 (pac (pe_ix ix_tup (pv 0) pe_int (fun _ _ => rfl)) (pac (pv 1) pa_nil))) (pac (pe_call ih (hr.mono (by omega)) rfl Tx.m_law_runs Tx.F_law_runs.kp Tx.b_law_runs .nil pass0 (pac (pe_ix ix_tup (pv 0) pe_int (fun _ _ => rfl)) (pac (pv 1) pa_nil))) pa_nil))) rfl)))
    pss_nil)
    (pss_one (ps_ret pe_bl)))))))), ?_⟩
  cases h with
  | always h =>
    refine ⟨_, rfl, _, _, 0, _, rfl, rfl, SqT.of h, rfl, rfl, _, rfl, itF (by decide +kernel) ?_⟩
    refine ⟨_, rfl, _, _, 0, _, rfl, rfl, SqT.of h, rfl, rfl, _, rfl, itF (by decide +kernel) ?_⟩
    refine ⟨_, rfl, _, _, 0, _, rfl, rfl, SqT.of h, rfl, rfl, _, rfl, itF (by decide +kernel) ?_⟩
    refine ⟨_, rfl, _, _, 0, _, rfl, rfl, SqT.of h, rfl, rfl, _, rfl, itF (by decide +kernel) ?_⟩
    refine ⟨_, rfl, _, _, 0, _, rfl, rfl, SqT.of h, rfl, rfl, _, rfl, itF (by decide +kernel) ?_⟩
    refine ⟨_, rfl, _, _, 0, _, rfl, rfl, SqT.of h, rfl, rfl, _, rfl, itF (by decide +kernel) ?_⟩
    exact q _ (Same.refl _)
  | week h =>
    rename_i a b
    refine ⟨_, rfl, _, _, 0, _, rfl, rfl, SqT.of h, rfl, rfl, _, rfl, itT (by decide +kernel) ?_⟩
    refine ⟨_, rfl, _, _, 1, _, rfl, rfl, SqT.of h, rfl, ?_⟩
    have eN : (((d : Nat) : Int) % 7).toNat = d % 7 := by omega
    refine ⟨_, rfl, _, _, rfl, rfl, (by show (0 : Int) < 7; decide), _, rfl, (by omega), (by omega), for_range (fun i σ H' => H' = H ∧ ∃ vk, σ = [some (.ref a), some (.int (d : Nat)), some (.int ((b / 2 ^ i : Nat) : Nat)), vk]) ⟨rfl, _, by rw [Nat.pow_zero, Nat.div_one]; rfl⟩ ?_ ?_⟩
    · rintro i σ H' hi ⟨rfl, vk, rfl⟩
      refine ⟨_, rfl, _, _, rfl, rfl, ⟨by decide, by decide⟩, rfl, some (.int (0 + ((i : Nat) : Int))), ?_⟩
      have e : (((b / 2 ^ i : Nat) : Nat) : Int) / 2 = ((b / 2 ^ (i + 1) : Nat) : Int) := by
        rw [Nat.pow_succ, ← Nat.div_div_eq_div_mul]
        omega
      rw [← e]
      rfl
    · rintro σ H' ⟨rfl, vk, rfl⟩
      refine ⟨_, rfl, _, _, rfl, rfl, (by show (0 : Int) < 2; decide), rfl, ?_⟩
      have q1 := q H' (Same.refl _)
      have e : (RT.week b).runs d = decide (V.int ((((b / 2 ^ ((((d : Nat) : Int) % 7).toNat) : Nat) : Nat) : Int) % 2) = V.int 1) := by
        rw [eN, dec_int]
        show (b / 2 ^ (d % 7) % 2 == 1) = _
        rw [Bool.eq_iff_iff, beq_iff_eq, beq_iff_eq]
        omega
      rw [e] at q1
      exact q1
  | each h hl ne =>
    rename_i a l m ss
    obtain ⟨g1, g2, g3⟩ := g
    refine ⟨_, rfl, _, _, 0, _, rfl, rfl, SqT.of h, rfl, rfl, _, rfl, itF (by decide +kernel) ?_⟩
    refine ⟨_, rfl, _, _, 0, _, rfl, rfl, SqT.of h, rfl, rfl, _, rfl, itT (by decide +kernel) ?_⟩
    have e1 : ((d : Nat) : Int) - ((d : Nat) : Int) / ((m : Nat) : Int) * ((m : Nat) : Int) = ((d % m : Nat) : Int) := by
      have := Int.emod_def ((d : Nat) : Int) ((m : Nat) : Int)
      rw [Int.mul_comm] at this
      omega
    refine ⟨_, rfl, _, rfl, _, rfl, _, _, 1, _, rfl, rfl, SqT.of h, rfl, _, _, rfl, rfl, ⟨by omega, by omega⟩, _, rfl, _, _, 1, _, rfl, rfl, SqT.of h, rfl, _, _, rfl, rfl, .inr ⟨by omega, by omega⟩, _, _, rfl, rfl, _, rfl, _, _, 2, _, rfl, rfl, SqT.of h, rfl, l, _, rfl, .inl (SqL.of hl), rfl, flat_nats ss, ?_⟩
    have q1 := q H (Same.refl _)
    have e2 : inV (.int (((d : Nat) : Int) - ((d : Nat) : Int) / ((m : Nat) : Int) * ((m : Nat) : Int))) (natV ss) = (RT.each m ss).runs d := by
      rw [e1]
      exact inV_nats (d % m) ss
    rw [← e2] at q1
    exact q1
  | span h hv =>
    rename_i a x y v r
    have ed : (RT.span x y r).depth = 1 + r.depth := rfl
    have q' : ∀ b : Bool, b = (decide (x ≤ d) && decide (d ≤ y) && r.runs d) → ∀ H', Same H H' → Q (.bl b) H' := fun b e H' s' => by rw [e]; exact q H' s'
    refine ⟨_, rfl, _, _, 0, _, rfl, rfl, SqT.of h, rfl, rfl, _, rfl, itF (by decide +kernel) ?_⟩
    refine ⟨_, rfl, _, _, 0, _, rfl, rfl, SqT.of h, rfl, rfl, _, rfl, itF (by decide +kernel) ?_⟩
    refine ⟨_, rfl, _, _, 0, _, rfl, rfl, SqT.of h, rfl, rfl, _, rfl, itT (by decide +kernel) ?_⟩
    refine ⟨_, rfl, _, rfl, _, _, 1, _, rfl, rfl, SqT.of h, rfl, _, _, rfl, rfl, _, rfl, ?_⟩
    by_cases h1 : x ≤ d
    · refine itT (decide_eq_true (by omega)) ?_
      refine ⟨_, rfl, _, rfl, _, _, 2, _, rfl, rfl, SqT.of h, rfl, _, _, rfl, rfl, _, rfl, ?_⟩
      by_cases h2 : d ≤ y
      · refine itT (decide_eq_true (by omega)) ?_
        exact ⟨_, rfl, _, _, 3, _, rfl, rfl, SqT.of h, rfl, _, rfl, tp, v, r, d, rfl, hv, g.2.2, by omega, fun H' s' => q' _ (by rw [decide_eq_true h1, decide_eq_true h2]; rfl) H' s'⟩
      · refine itF (by rw [decide_eq_false (by omega)]; decide) ?_
        exact q' _ (by rw [decide_eq_false h2, Bool.and_false, Bool.false_and]) H (Same.refl _)
    · refine itF (by rw [decide_eq_false (by omega)]; decide) ?_
      exact q' _ (by rw [decide_eq_false h1, Bool.false_and, Bool.false_and]) H (Same.refl _)
  | but h hl ne hv =>
    rename_i a l ds v r
    have ed : (RT.but ds r).depth = 1 + r.depth := rfl
    refine ⟨_, rfl, _, _, 0, _, rfl, rfl, SqT.of h, rfl, rfl, _, rfl, itF (by decide +kernel) ?_⟩
    refine ⟨_, rfl, _, _, 0, _, rfl, rfl, SqT.of h, rfl, rfl, _, rfl, itF (by decide +kernel) ?_⟩
    refine ⟨_, rfl, _, _, 0, _, rfl, rfl, SqT.of h, rfl, rfl, _, rfl, itF (by decide +kernel) ?_⟩
    refine ⟨_, rfl, _, _, 0, _, rfl, rfl, SqT.of h, rfl, rfl, _, rfl, itT (by decide +kernel) ?_⟩
    refine ⟨_, rfl, _, _, 2, _, rfl, rfl, SqT.of h, rfl, _, rfl, tp, v, r, d, rfl, hv, g.2, by omega, fun H1 s1 => ?_⟩
    have h1 := s1 _ _ h
    refine ⟨_, rfl, _, rfl, _, _, 1, _, rfl, rfl, SqT.of h1, rfl, l, _, rfl, .inl (SqL.of (s1 _ _ hl)), rfl, flat_nats ds, rfl, ?_⟩
    have q1 := q H1 s1
    have e : (RT.but ds r).runs d = (!decide (V.bl (r.runs d) = V.bl (inV (.int ((d : Nat) : Int)) (natV ds)))) := by
      rw [inV_nats, dec_bl]
      rfl
    rw [e] at q1
    exact q1
  | either h hv hu =>
    rename_i a v u r r2
    have ed : (RT.either r r2).depth = 1 + max r.depth r2.depth := rfl
    refine ⟨_, rfl, _, _, 0, _, rfl, rfl, SqT.of h, rfl, rfl, _, rfl, itF (by decide +kernel) ?_⟩
    refine ⟨_, rfl, _, _, 0, _, rfl, rfl, SqT.of h, rfl, rfl, _, rfl, itF (by decide +kernel) ?_⟩
    refine ⟨_, rfl, _, _, 0, _, rfl, rfl, SqT.of h, rfl, rfl, _, rfl, itF (by decide +kernel) ?_⟩
    refine ⟨_, rfl, _, _, 0, _, rfl, rfl, SqT.of h, rfl, rfl, _, rfl, itF (by decide +kernel) ?_⟩
    refine ⟨_, rfl, _, _, 0, _, rfl, rfl, SqT.of h, rfl, rfl, _, rfl, itT (by decide +kernel) ?_⟩
    refine ⟨_, rfl, _, _, 1, _, rfl, rfl, SqT.of h, rfl, _, rfl, tp, v, r, d, rfl, hv, g.1, by omega, fun H1 s1 => ?_⟩
    have h1 := s1 _ _ h
    refine ⟨_, rfl, _, _, 2, _, rfl, rfl, SqT.of h1, rfl, _, rfl, tp, u, r2, d, rfl, hu.same s1, g.2, by omega, fun H2 s2 => ?_⟩
    refine ⟨by show 2 ≤ sizeLine; decide, fun p hp => ⟨p, _, rfl, .inl (SqL.of upd_same), rfl, rfl, ?_⟩⟩
    have q1 := q _ ((s1.trans s2).trans (same_new hp (.lst [.bl (r.runs d), .bl (r2.runs d)])))
    have e : (RT.either r r2).runs d = inV (.bl true) [.bl (r.runs d), .bl (r2.runs d)] := by
      show (r.runs d || r2.runs d) = _
      cases r.runs d <;> cases r2.runs d <;> rfl
    rw [e] at q1
    exact q1
  | both h hv hu =>
    rename_i a v u r r2
    have ed : (RT.both r r2).depth = 1 + max r.depth r2.depth := rfl
    refine ⟨_, rfl, _, _, 0, _, rfl, rfl, SqT.of h, rfl, rfl, _, rfl, itF (by decide +kernel) ?_⟩
    refine ⟨_, rfl, _, _, 0, _, rfl, rfl, SqT.of h, rfl, rfl, _, rfl, itF (by decide +kernel) ?_⟩
    refine ⟨_, rfl, _, _, 0, _, rfl, rfl, SqT.of h, rfl, rfl, _, rfl, itF (by decide +kernel) ?_⟩
    refine ⟨_, rfl, _, _, 0, _, rfl, rfl, SqT.of h, rfl, rfl, _, rfl, itF (by decide +kernel) ?_⟩
    refine ⟨_, rfl, _, _, 0, _, rfl, rfl, SqT.of h, rfl, rfl, _, rfl, itF (by decide +kernel) ?_⟩
    refine ⟨_, rfl, _, _, 0, _, rfl, rfl, SqT.of h, rfl, rfl, _, rfl, itT (by decide +kernel) ?_⟩
    refine ⟨_, rfl, _, _, 1, _, rfl, rfl, SqT.of h, rfl, _, rfl, tp, v, r, d, rfl, hv, g.1, by omega, fun H1 s1 => ?_⟩
    have h1 := s1 _ _ h
    refine ⟨_, rfl, _, _, 2, _, rfl, rfl, SqT.of h1, rfl, _, rfl, tp, u, r2, d, rfl, hu.same s1, g.2, by omega, fun H2 s2 => ?_⟩
    refine ⟨by show 2 ≤ sizeLine; decide, fun p hp => ⟨p, _, rfl, .inl (SqL.of upd_same), rfl, rfl, ?_⟩⟩
    have q1 := q _ ((s1.trans s2).trans (same_new hp (.lst [.bl (r.runs d), .bl (r2.runs d)])))
    have e : (RT.both r r2).runs d = !inV (.bl false) [.bl (r.runs d), .bl (r2.runs d)] := by
      show (r.runs d && r2.runs d) = _
      cases r.runs d <;> cases r2.runs d <;> rfl
    rw [e] at q1
    exact q1

def spClass (t : Adr) : Sp := fun vs H Q _ => ∃ a : Addr, vs = [.ref a] ∧ ((H a = some (exO a (.ref t.c_BadRule)) ∧ ∀ H', Same H H' → Q (.str (Str.ofString "rule")) H') ∨ (H a = some (exO a (.ref t.c_BadClock)) ∧ ∀ H', Same H H' → Q (.str (Str.ofString "clock")) H') ∨ (H a = some (exO a (.ref t.c_BadNumber)) ∧ ∀ H', Same H H' → Q (.str (Str.ofString "number")) H'))
theorem ok_law_class (Tx : Tab K mg t) : FnOk P w K mg base CX0 1 t.f_law_class t.d_law_class ["_law_error"] (spClass t) := by
  refine Tx.F_law_class.ok sc_law_class (fun vs H Q E h => ?_) (fun cdv A outer s H vs Q E hr h => ?_)
  · obtain ⟨a, rfl, _⟩ := h
    rfl
  obtain ⟨a, rfl, h⟩ := h
  refine ⟨_, (pss_cons (ps_set (i := 1) sc_law_class.nd rfl (Or.inl rfl) (pe_lst (pac pe_str (pac pe_str (pac pe_str (pac pe_str (pac pe_str (pac pe_str (pac pe_str pa_nil)))))))))
    (pss_cons (ps_set (i := 1) sc_law_class.nd rfl (Or.inl rfl) (pe_op op_cat (pv 1) (pe_lst (pac pe_str (pac pe_str (pac pe_str (pac pe_str (pac pe_str pa_nil))))))))
    (pss_cons (ps_set (i := 2) sc_law_class.nd rfl (Or.inl rfl) (pe_lst (pac (pe_callB call_isi_exc rfl Tx.z_isinstance b_isinstance (pac (pv 0) (pac (pe_gref rfl Tx.m_BadClock) pa_nil))) (pac (pe_callB call_isi_exc rfl Tx.z_isinstance b_isinstance (pac (pv 0) (pac (pe_gref rfl Tx.m_BadRule) pa_nil))) (pac (pe_callB call_isi_exc rfl Tx.z_isinstance b_isinstance (pac (pv 0) (pac (pe_gref rfl Tx.m_TooMany) pa_nil))) pa_nil)))))
    (pss_cons (ps_set (i := 2) sc_law_class.nd rfl (Or.inl rfl) (pe_op op_cat (pv 2) (pe_lst (pac (pe_callB call_isi_exc rfl Tx.z_isinstance b_isinstance (pac (pv 0) (pac (pe_gref rfl Tx.m_BadName) pa_nil))) (pac (pe_callB call_isi_exc rfl Tx.z_isinstance b_isinstance (pac (pv 0) (pac (pe_gref rfl Tx.m_Twice) pa_nil))) (pac (pe_callB call_isi_exc rfl Tx.z_isinstance b_isinstance (pac (pv 0) (pac (pe_gref rfl Tx.m_NoStop) pa_nil))) pa_nil))))))
    (pss_cons (ps_set (i := 2) sc_law_class.nd rfl (Or.inl rfl) (pe_op op_cat (pv 2) (pe_lst (pac (pe_callB call_isi_exc rfl Tx.z_isinstance b_isinstance (pac (pv 0) (pac (pe_gref rfl Tx.m_BadNumber) pa_nil))) (pac (pe_callB call_isi_exc rfl Tx.z_isinstance b_isinstance (pac (pv 0) (pac (pe_gref rfl Tx.m_BadCalls) pa_nil))) (pac (pe_callB call_isi_exc rfl Tx.z_isinstance b_isinstance (pac (pv 0) (pac (pe_gref rfl Tx.m_NoRun) pa_nil))) pa_nil))))))
    (pss_cons (ps_set (i := 2) sc_law_class.nd rfl (Or.inl rfl) (pe_op op_cat (pv 2) (pe_lst (pac (pe_callB call_isi_exc rfl Tx.z_isinstance b_isinstance (pac (pv 0) (pac (pe_gref rfl Tx.m_TooLate) pa_nil))) (pac (pe_callB call_isi_exc rfl Tx.z_isinstance b_isinstance (pac (pv 0) (pac (pe_gref rfl Tx.m_NoTraveller) pa_nil))) (pac (pe_callB call_isi_exc rfl Tx.z_isinstance b_isinstance (pac (pv 0) (pac (pe_gref rfl Tx.m_BadLine) pa_nil))) pa_nil))))))
    (pss_cons (ps_if (PW.pt (pw_or (pt_cmpR op_ne (pe_bm PySem.F.plainAttrs_list PySem.F.slot_list_count PySem.F.type_list_count mt_count (pv 2) (pac pe_bl pa_nil)) pe_int (nomark _)) (pw_or1 (pt_not (pt_val (pe_callB call_isi_excT rfl Tx.z_isinstance b_isinstance (pac (pv 0) (pac (pe_gty rfl Tx.z_ValueError b_ValueError) pa_nil))))))))
    (pss_one (ps_ret pe_str))
    pss_nil)
    (pss_one (ps_ret (pe_ix ix_list (pv 1) (pe_bm PySem.F.plainAttrs_list PySem.F.slot_list_index PySem.F.type_list_index mt_index (pv 2) (pac pe_bl pa_nil)) (fun _ _ => rfl))))))))))), ?_⟩
  rcases h with ⟨ha, q⟩ | ⟨ha, q⟩ | ⟨ha, q⟩
  · refine ⟨by show 7 ≤ sizeLine; decide, fun p1 h1 => ?_⟩
    have s1 := same_new h1 (.lst [.str (Str.ofString "clock"), .str (Str.ofString "rule"), .str (Str.ofString "many"), .str (Str.ofString "name"), .str (Str.ofString "twice"), .str (Str.ofString "stop"), .str (Str.ofString "number")])
    refine ⟨_, rfl, by show 5 ≤ sizeLine; decide, fun p2 h2 => ?_⟩
    have s2 := same_new h2 (.lst [.str (Str.ofString "calls"), .str (Str.ofString "run"), .str (Str.ofString "late"), .str (Str.ofString "traveller"), .str (Str.ofString "line")])
    refine ⟨p1, p2, _, _, rfl, rfl, s2 _ _ upd_same, upd_same, by show 12 ≤ sizeLine; decide, fun p3 h3 => ?_⟩
    have s3 := s1.trans (s2.trans (same_new h3 (.lst ([.str (Str.ofString "clock"), .str (Str.ofString "rule"), .str (Str.ofString "many"), .str (Str.ofString "name"), .str (Str.ofString "twice"), .str (Str.ofString "stop"), .str (Str.ofString "number")] ++ [.str (Str.ofString "calls"), .str (Str.ofString "run"), .str (Str.ofString "late"), .str (Str.ofString "traveller"), .str (Str.ofString "line")]))))
    have a3 := s3 _ _ ha
    refine ⟨_, rfl, a, t.c_BadRule, t.c_BadClock, _, rfl, a3, Tx.i_BadRule, Tx.k_BadRule_BadClock, _, rfl, a, t.c_BadRule, t.c_BadRule, _, rfl, a3, Tx.i_BadRule, Tx.k_BadRule_BadRule, _, rfl, a, t.c_BadRule, t.c_TooMany, _, rfl, a3, Tx.i_BadRule, Tx.k_BadRule_TooMany, by show 3 ≤ sizeLine; decide, fun p4 h4 => ?_⟩
    have s4 := same_new h4 (.lst [.bl false, .bl true, .bl false])
    have a4 := s4 _ _ a3
    refine ⟨_, rfl, _, rfl, a, t.c_BadRule, t.c_BadName, _, rfl, a4, Tx.i_BadRule, Tx.k_BadRule_BadName, _, rfl, a, t.c_BadRule, t.c_Twice, _, rfl, a4, Tx.i_BadRule, Tx.k_BadRule_Twice, _, rfl, a, t.c_BadRule, t.c_NoStop, _, rfl, a4, Tx.i_BadRule, Tx.k_BadRule_NoStop, by show 3 ≤ sizeLine; decide, fun p5 h5 => ?_⟩
    have s5 := same_new h5 (.lst [.bl false, .bl false, .bl false])
    refine ⟨p4, p5, _, _, rfl, rfl, s5 _ _ upd_same, upd_same, by show 6 ≤ sizeLine; decide, fun p6 h6 => ?_⟩
    have s6 := s5.trans (same_new h6 (.lst [.bl false, .bl true, .bl false, .bl false, .bl false, .bl false]))
    have a6 := s6 _ _ a4
    refine ⟨_, rfl, _, rfl, a, t.c_BadRule, t.c_BadNumber, _, rfl, a6, Tx.i_BadRule, Tx.k_BadRule_BadNumber, _, rfl, a, t.c_BadRule, t.c_BadCalls, _, rfl, a6, Tx.i_BadRule, Tx.k_BadRule_BadCalls, _, rfl, a, t.c_BadRule, t.c_NoRun, _, rfl, a6, Tx.i_BadRule, Tx.k_BadRule_NoRun, by show 3 ≤ sizeLine; decide, fun p7 h7 => ?_⟩
    have s7 := same_new h7 (.lst [.bl false, .bl false, .bl false])
    refine ⟨p6, p7, _, _, rfl, rfl, s7 _ _ upd_same, upd_same, by show 9 ≤ sizeLine; decide, fun p8 h8 => ?_⟩
    have s8 := s7.trans (same_new h8 (.lst [.bl false, .bl true, .bl false, .bl false, .bl false, .bl false, .bl false, .bl false, .bl false]))
    have a8 := s8 _ _ a6
    refine ⟨_, rfl, _, rfl, a, t.c_BadRule, t.c_TooLate, _, rfl, a8, Tx.i_BadRule, Tx.k_BadRule_TooLate, _, rfl, a, t.c_BadRule, t.c_NoTraveller, _, rfl, a8, Tx.i_BadRule, Tx.k_BadRule_NoTraveller, _, rfl, a, t.c_BadRule, t.c_BadLine, _, rfl, a8, Tx.i_BadRule, Tx.k_BadRule_BadLine, by show 3 ≤ sizeLine; decide, fun p9 h9 => ?_⟩
    have s9 := same_new h9 (.lst [.bl false, .bl false, .bl false])
    refine ⟨p8, p9, _, _, rfl, rfl, s9 _ _ upd_same, upd_same, by show 12 ≤ sizeLine; decide, fun p10 h10 => ?_⟩
    have s10 := s9.trans (same_new h10 (.lst [.bl false, .bl true, .bl false, .bl false, .bl false, .bl false, .bl false, .bl false, .bl false, .bl false, .bl false, .bl false]))
    have a10 := s10 _ _ a8
    refine ⟨_, rfl, .inl ⟨rfl, _, SqL.of upd_same⟩, p10, _, _, rfl, rfl, upd_same, rfl, rfl, rfl, _, rfl, ?_⟩
    refine itF (by decide) ?_
    refine ⟨_, rfl, a, t.c_BadRule, "ValueError", _, rfl, a10, Tx.i_BadRule, Tx.v_BadRule, _, rfl, ?_⟩
    refine itF (by decide) ?_
    refine ⟨_, rfl, _, rfl, .inl ⟨rfl, _, SqL.of upd_same⟩, p10, _, _, 1, .bl true, rfl, rfl, upd_same, rfl, rfl, rfl, rfl, (fun m z' hm e => by
      have hm' : m = 0 := by omega
      rcases hm' with rfl <;> (cases e; rfl)), p3, _, 1, _, rfl, rfl, SqL.of (s10 _ _ (s8 _ _ (s6 _ _ (s4 _ _ upd_same)))), rfl, ?_⟩
    exact q _ (s3.trans (s4.trans (s6.trans (s8.trans s10))))
  · refine ⟨by show 7 ≤ sizeLine; decide, fun p1 h1 => ?_⟩
    have s1 := same_new h1 (.lst [.str (Str.ofString "clock"), .str (Str.ofString "rule"), .str (Str.ofString "many"), .str (Str.ofString "name"), .str (Str.ofString "twice"), .str (Str.ofString "stop"), .str (Str.ofString "number")])
    refine ⟨_, rfl, by show 5 ≤ sizeLine; decide, fun p2 h2 => ?_⟩
    have s2 := same_new h2 (.lst [.str (Str.ofString "calls"), .str (Str.ofString "run"), .str (Str.ofString "late"), .str (Str.ofString "traveller"), .str (Str.ofString "line")])
    refine ⟨p1, p2, _, _, rfl, rfl, s2 _ _ upd_same, upd_same, by show 12 ≤ sizeLine; decide, fun p3 h3 => ?_⟩
    have s3 := s1.trans (s2.trans (same_new h3 (.lst ([.str (Str.ofString "clock"), .str (Str.ofString "rule"), .str (Str.ofString "many"), .str (Str.ofString "name"), .str (Str.ofString "twice"), .str (Str.ofString "stop"), .str (Str.ofString "number")] ++ [.str (Str.ofString "calls"), .str (Str.ofString "run"), .str (Str.ofString "late"), .str (Str.ofString "traveller"), .str (Str.ofString "line")]))))
    have a3 := s3 _ _ ha
    refine ⟨_, rfl, a, t.c_BadClock, t.c_BadClock, _, rfl, a3, Tx.i_BadClock, Tx.k_BadClock_BadClock, _, rfl, a, t.c_BadClock, t.c_BadRule, _, rfl, a3, Tx.i_BadClock, Tx.k_BadClock_BadRule, _, rfl, a, t.c_BadClock, t.c_TooMany, _, rfl, a3, Tx.i_BadClock, Tx.k_BadClock_TooMany, by show 3 ≤ sizeLine; decide, fun p4 h4 => ?_⟩
    have s4 := same_new h4 (.lst [.bl true, .bl false, .bl false])
    have a4 := s4 _ _ a3
    refine ⟨_, rfl, _, rfl, a, t.c_BadClock, t.c_BadName, _, rfl, a4, Tx.i_BadClock, Tx.k_BadClock_BadName, _, rfl, a, t.c_BadClock, t.c_Twice, _, rfl, a4, Tx.i_BadClock, Tx.k_BadClock_Twice, _, rfl, a, t.c_BadClock, t.c_NoStop, _, rfl, a4, Tx.i_BadClock, Tx.k_BadClock_NoStop, by show 3 ≤ sizeLine; decide, fun p5 h5 => ?_⟩
    have s5 := same_new h5 (.lst [.bl false, .bl false, .bl false])
    refine ⟨p4, p5, _, _, rfl, rfl, s5 _ _ upd_same, upd_same, by show 6 ≤ sizeLine; decide, fun p6 h6 => ?_⟩
    have s6 := s5.trans (same_new h6 (.lst [.bl true, .bl false, .bl false, .bl false, .bl false, .bl false]))
    have a6 := s6 _ _ a4
    refine ⟨_, rfl, _, rfl, a, t.c_BadClock, t.c_BadNumber, _, rfl, a6, Tx.i_BadClock, Tx.k_BadClock_BadNumber, _, rfl, a, t.c_BadClock, t.c_BadCalls, _, rfl, a6, Tx.i_BadClock, Tx.k_BadClock_BadCalls, _, rfl, a, t.c_BadClock, t.c_NoRun, _, rfl, a6, Tx.i_BadClock, Tx.k_BadClock_NoRun, by show 3 ≤ sizeLine; decide, fun p7 h7 => ?_⟩
    have s7 := same_new h7 (.lst [.bl false, .bl false, .bl false])
    refine ⟨p6, p7, _, _, rfl, rfl, s7 _ _ upd_same, upd_same, by show 9 ≤ sizeLine; decide, fun p8 h8 => ?_⟩
    have s8 := s7.trans (same_new h8 (.lst [.bl true, .bl false, .bl false, .bl false, .bl false, .bl false, .bl false, .bl false, .bl false]))
    have a8 := s8 _ _ a6
    refine ⟨_, rfl, _, rfl, a, t.c_BadClock, t.c_TooLate, _, rfl, a8, Tx.i_BadClock, Tx.k_BadClock_TooLate, _, rfl, a, t.c_BadClock, t.c_NoTraveller, _, rfl, a8, Tx.i_BadClock, Tx.k_BadClock_NoTraveller, _, rfl, a, t.c_BadClock, t.c_BadLine, _, rfl, a8, Tx.i_BadClock, Tx.k_BadClock_BadLine, by show 3 ≤ sizeLine; decide, fun p9 h9 => ?_⟩
    have s9 := same_new h9 (.lst [.bl false, .bl false, .bl false])
    refine ⟨p8, p9, _, _, rfl, rfl, s9 _ _ upd_same, upd_same, by show 12 ≤ sizeLine; decide, fun p10 h10 => ?_⟩
    have s10 := s9.trans (same_new h10 (.lst [.bl true, .bl false, .bl false, .bl false, .bl false, .bl false, .bl false, .bl false, .bl false, .bl false, .bl false, .bl false]))
    have a10 := s10 _ _ a8
    refine ⟨_, rfl, .inl ⟨rfl, _, SqL.of upd_same⟩, p10, _, _, rfl, rfl, upd_same, rfl, rfl, rfl, _, rfl, ?_⟩
    refine itF (by decide) ?_
    refine ⟨_, rfl, a, t.c_BadClock, "ValueError", _, rfl, a10, Tx.i_BadClock, Tx.v_BadClock, _, rfl, ?_⟩
    refine itF (by decide) ?_
    refine ⟨_, rfl, _, rfl, .inl ⟨rfl, _, SqL.of upd_same⟩, p10, _, _, 0, .bl true, rfl, rfl, upd_same, rfl, rfl, rfl, rfl, (fun m z' hm => absurd hm (Nat.not_lt_zero _)), p3, _, 0, _, rfl, rfl, SqL.of (s10 _ _ (s8 _ _ (s6 _ _ (s4 _ _ upd_same)))), rfl, ?_⟩
    exact q _ (s3.trans (s4.trans (s6.trans (s8.trans s10))))
  · refine ⟨by show 7 ≤ sizeLine; decide, fun p1 h1 => ?_⟩
    have s1 := same_new h1 (.lst [.str (Str.ofString "clock"), .str (Str.ofString "rule"), .str (Str.ofString "many"), .str (Str.ofString "name"), .str (Str.ofString "twice"), .str (Str.ofString "stop"), .str (Str.ofString "number")])
    refine ⟨_, rfl, by show 5 ≤ sizeLine; decide, fun p2 h2 => ?_⟩
    have s2 := same_new h2 (.lst [.str (Str.ofString "calls"), .str (Str.ofString "run"), .str (Str.ofString "late"), .str (Str.ofString "traveller"), .str (Str.ofString "line")])
    refine ⟨p1, p2, _, _, rfl, rfl, s2 _ _ upd_same, upd_same, by show 12 ≤ sizeLine; decide, fun p3 h3 => ?_⟩
    have s3 := s1.trans (s2.trans (same_new h3 (.lst ([.str (Str.ofString "clock"), .str (Str.ofString "rule"), .str (Str.ofString "many"), .str (Str.ofString "name"), .str (Str.ofString "twice"), .str (Str.ofString "stop"), .str (Str.ofString "number")] ++ [.str (Str.ofString "calls"), .str (Str.ofString "run"), .str (Str.ofString "late"), .str (Str.ofString "traveller"), .str (Str.ofString "line")]))))
    have a3 := s3 _ _ ha
    refine ⟨_, rfl, a, t.c_BadNumber, t.c_BadClock, _, rfl, a3, Tx.i_BadNumber, Tx.k_BadNumber_BadClock, _, rfl, a, t.c_BadNumber, t.c_BadRule, _, rfl, a3, Tx.i_BadNumber, Tx.k_BadNumber_BadRule, _, rfl, a, t.c_BadNumber, t.c_TooMany, _, rfl, a3, Tx.i_BadNumber, Tx.k_BadNumber_TooMany, by show 3 ≤ sizeLine; decide, fun p4 h4 => ?_⟩
    have s4 := same_new h4 (.lst [.bl false, .bl false, .bl false])
    have a4 := s4 _ _ a3
    refine ⟨_, rfl, _, rfl, a, t.c_BadNumber, t.c_BadName, _, rfl, a4, Tx.i_BadNumber, Tx.k_BadNumber_BadName, _, rfl, a, t.c_BadNumber, t.c_Twice, _, rfl, a4, Tx.i_BadNumber, Tx.k_BadNumber_Twice, _, rfl, a, t.c_BadNumber, t.c_NoStop, _, rfl, a4, Tx.i_BadNumber, Tx.k_BadNumber_NoStop, by show 3 ≤ sizeLine; decide, fun p5 h5 => ?_⟩
    have s5 := same_new h5 (.lst [.bl false, .bl false, .bl false])
    refine ⟨p4, p5, _, _, rfl, rfl, s5 _ _ upd_same, upd_same, by show 6 ≤ sizeLine; decide, fun p6 h6 => ?_⟩
    have s6 := s5.trans (same_new h6 (.lst [.bl false, .bl false, .bl false, .bl false, .bl false, .bl false]))
    have a6 := s6 _ _ a4
    refine ⟨_, rfl, _, rfl, a, t.c_BadNumber, t.c_BadNumber, _, rfl, a6, Tx.i_BadNumber, Tx.k_BadNumber_BadNumber, _, rfl, a, t.c_BadNumber, t.c_BadCalls, _, rfl, a6, Tx.i_BadNumber, Tx.k_BadNumber_BadCalls, _, rfl, a, t.c_BadNumber, t.c_NoRun, _, rfl, a6, Tx.i_BadNumber, Tx.k_BadNumber_NoRun, by show 3 ≤ sizeLine; decide, fun p7 h7 => ?_⟩
    have s7 := same_new h7 (.lst [.bl true, .bl false, .bl false])
    refine ⟨p6, p7, _, _, rfl, rfl, s7 _ _ upd_same, upd_same, by show 9 ≤ sizeLine; decide, fun p8 h8 => ?_⟩
    have s8 := s7.trans (same_new h8 (.lst [.bl false, .bl false, .bl false, .bl false, .bl false, .bl false, .bl true, .bl false, .bl false]))
    have a8 := s8 _ _ a6
    refine ⟨_, rfl, _, rfl, a, t.c_BadNumber, t.c_TooLate, _, rfl, a8, Tx.i_BadNumber, Tx.k_BadNumber_TooLate, _, rfl, a, t.c_BadNumber, t.c_NoTraveller, _, rfl, a8, Tx.i_BadNumber, Tx.k_BadNumber_NoTraveller, _, rfl, a, t.c_BadNumber, t.c_BadLine, _, rfl, a8, Tx.i_BadNumber, Tx.k_BadNumber_BadLine, by show 3 ≤ sizeLine; decide, fun p9 h9 => ?_⟩
    have s9 := same_new h9 (.lst [.bl false, .bl false, .bl false])
    refine ⟨p8, p9, _, _, rfl, rfl, s9 _ _ upd_same, upd_same, by show 12 ≤ sizeLine; decide, fun p10 h10 => ?_⟩
    have s10 := s9.trans (same_new h10 (.lst [.bl false, .bl false, .bl false, .bl false, .bl false, .bl false, .bl true, .bl false, .bl false, .bl false, .bl false, .bl false]))
    have a10 := s10 _ _ a8
    refine ⟨_, rfl, .inl ⟨rfl, _, SqL.of upd_same⟩, p10, _, _, rfl, rfl, upd_same, rfl, rfl, rfl, _, rfl, ?_⟩
    refine itF (by decide) ?_
    refine ⟨_, rfl, a, t.c_BadNumber, "ValueError", _, rfl, a10, Tx.i_BadNumber, Tx.v_BadNumber, _, rfl, ?_⟩
    refine itF (by decide) ?_
    refine ⟨_, rfl, _, rfl, .inl ⟨rfl, _, SqL.of upd_same⟩, p10, _, _, 6, .bl true, rfl, rfl, upd_same, rfl, rfl, rfl, rfl, (fun m z' hm e => by
      have hm' : m = 0 ∨ m = 1 ∨ m = 2 ∨ m = 3 ∨ m = 4 ∨ m = 5 := by omega
      rcases hm' with rfl | rfl | rfl | rfl | rfl | rfl <;> (cases e; rfl)), p3, _, 6, _, rfl, rfl, SqL.of (s10 _ _ (s8 _ _ (s6 _ _ (s4 _ _ upd_same)))), rfl, ?_⟩
    exact q _ (s3.trans (s4.trans (s6.trans (s8.trans s10))))

/- the first day by the law's own going -/
def spDue : Sp := fun vs H Q _ => ∃ (tp : Addr) (v : V) (r : RT) (d m : Nat), vs = [v, .int (d : Nat), .int (m : Nat)] ∧ TAtr tp H v r ∧ r.good ∧ r.depth ≤ 8 ∧ d ≤ 9999 ∧ m ≤ 400 ∧
  ∀ x H', Same H H' → Fst (fun y => decide (y < 10000) && r.runs y) d (m + 1) x → Q (optV x) H'
theorem ok_law_due (Tx : Tab K mg t) : FnOk P w K mg base CX0 10 t.f_law_due t.d_law_due ["_law_tree_here", "_law_day", "_law_most"] spDue := by
  refine Tx.F_law_due.ok sc_law_due (fun vs H Q E h => ?_) (fun cdv A outer s H vs Q E hr h => ?_)
  · obtain ⟨tp, v, r, d, m, rfl, _⟩ := h
    rfl
  obtain ⟨tp, v, r, d, m, rfl, h, g, h8, hd, hm, q⟩ := h
  refine ⟨_, (pss_cons (ps_for PassesOwn.never rfl (pi_range2 rfl Tx.z_range (pac (pv 1) (pac (pe_op op_add (pe_op op_add (pv 1) (pv 2)) pe_int) pa_nil))) (pg_name (i := 3) sc_law_due.nd rfl (Or.inl rfl))
    (pss_one (ps_if (PW.pt (pw_and (pt_cmpR op_lt (pv 3) pe_int (nomark _)) (pw_and1 (pt_val (pe_call (lruns_ok Tx 8) (hr.mono (by omega)) rfl Tx.m_law_runs Tx.F_law_runs.kp Tx.b_law_runs .nil pass0 (pac (pv 0) (pac (pv 3) pa_nil)))))))
    (pss_one (ps_ret (pv 3)))
    pss_nil)))
    (pss_one (ps_ret pe_non))), ?_⟩
  have eN : (((d : Nat) : Int) + ((m : Nat) : Int) + 1 - ((d : Nat) : Int)).toNat = m + 1 := by omega
  rw [← eN] at q
  refine ⟨_, rfl, _, rfl, _, rfl, _, _, rfl, rfl, _, _, rfl, rfl, _, _, rfl, ⟨by omega, by omega, by omega, by omega⟩, for_range (fun i σ H' => Same H H' ∧ (∀ j, j < i → (decide (d + j < 10000) && r.runs (d + j)) = false) ∧ ∃ vk, σ = [some v, some (.int (d : Nat)), some (.int (m : Nat)), vk]) ⟨Same.refl _, fun j hj => absurd hj (Nat.not_lt_zero _), _, rfl⟩ ?_ ?_⟩
  · rintro i σ H' hi ⟨s', hf, vk, rfl⟩
    have e : V.int (((d : Nat) : Int) + ((i : Nat) : Int)) = V.int (((d + i : Nat) : Nat) : Int) := congrArg V.int (by omega)
    rw [e]
    have next : ∀ H2, Same H H2 → (decide (d + i < 10000) && r.runs (d + i)) = false → Same H H2 ∧ (∀ j, j < i + 1 → (decide (d + j < 10000) && r.runs (d + j)) = false) ∧ ∃ vk, [some v, some (.int (d : Nat)), some (.int (m : Nat)), some (V.int ((d + i : Nat) : Nat))] = [some v, some (V.int (d : Nat)), some (.int (m : Nat)), vk] := fun H2 s2 c =>
      ⟨s2, fun j hj => by
        rcases Nat.lt_succ_iff_lt_or_eq.mp hj with z | z
        · exact hf j z
        · rw [z]; exact c, _, rfl⟩
    refine ⟨_, rfl, _, _, rfl, rfl, _, rfl, ?_⟩
    by_cases c : d + i < 10000
    · refine itT (decide_eq_true (by omega)) ?_
      refine ⟨_, rfl, _, rfl, tp, v, r, d + i, rfl, h.same s', g, h8, fun H2 s2 => ⟨_, rfl, ?_⟩⟩
      cases c2 : r.runs (d + i) with
      | true => exact itT rfl ⟨_, rfl, q (some (d + i)) H2 (s'.trans s2) ⟨i, hi, rfl, by dsimp only; rw [decide_eq_true c, c2]; rfl, hf⟩⟩
      | false => exact itF (by decide) (next H2 (s'.trans s2) (by rw [c2, Bool.and_false]))
    · refine itF (by rw [decide_eq_false (by omega)]; decide) ?_
      exact itF (by decide) (next H' s' (by rw [decide_eq_false c]; rfl))
  · rintro σ H' ⟨s', hf, vk, rfl⟩
    exact q none H' s' hf
/- alike -/
def spSameV : Sp := fun vs H Q _ => ∃ x : Option Nat, vs = [optV x, optV x] ∧ Q (.bl true) H
theorem ok_law_same (Tx : Tab K mg t) : FnOk P w K mg base CX0 2 t.f_law_same t.d_law_same ["_law_found", "_law_due_here"] spSameV := by
  refine Tx.F_law_same.ok sc_law_same (fun vs H Q E h => ?_) (fun cdv A outer s H vs Q E hr h => ?_)
  · obtain ⟨x, rfl, _⟩ := h
    rfl
  obtain ⟨x, rfl, q⟩ := h
  refine ⟨_, (pss_one (ps_ret (pe_ifExp (pt_cmp (pc_isN (pv 1))) (pe_cmp (pc_isN (pv 0))) (pe_and (pe_call (ok_law_whole Tx) (hr.mono (by omega)) rfl Tx.m_law_whole Tx.F_law_whole.kp Tx.b_law_whole .nil pass0 (pac (pv 0) pa_nil)) (pe_one (pe_cmpR op_eq (pv 0) (pv 1) (nomark _))))))), ?_⟩
  cases x with
  | none => exact ⟨_, rfl, _, rfl, itT (by decide) ⟨_, rfl, q⟩⟩
  | some n =>
    refine ⟨_, rfl, _, rfl, itF (by show ¬ (decide (V.int ((n : Nat) : Int) = V.non)) = true; rw [decide_eq_false (by intro z; cases z)]; decide) ?_⟩
    refine ⟨_, rfl, .int (n : Nat), "int", rfl, .int _, _, rfl, itT rfl ?_⟩
    refine ⟨_, rfl, _, rfl, rfl, ?_⟩
    have e : decide (V.int ((n : Nat) : Int) = V.int ((n : Nat) : Int)) = true := decide_eq_true rfl
    rw [← e] at q
    exact q

def spTold (t : Adr) (K : PySem.W.Frag) : Sp := fun vs H Q _ => ∃ (rv dv mv : V), vs = [rv, dv, mv] ∧
  ((∃ T, Kd H rv T ∧ PySem.W.kitOne K (.type T) (.ref t.c_Rule) = some false ∧ ∀ H', Same H H' → Q (.str (Str.ofString "rule")) H') ∨
   (∃ (a : Addr) (r : RT) (Td Tm : String), rv = .ref a ∧ RAt (rc t) K H a r ∧ r.depth ≤ 8 ∧ Kd H dv Td ∧ Kd H mv Tm ∧ (numV dv 0 9999 = false → ∀ H', Same H H' → Q (.str (Str.ofString "clock")) H') ∧ (numV dv 0 9999 = true → numV mv 0 400 = false → ∀ H', Same H H' → Q (.str (Str.ofString "number")) H') ∧
     ∀ d m : Nat, dv = .int (d : Nat) → mv = .int (m : Nat) → d ≤ 9999 → m ≤ 400 → ∀ x, Fst r.runs d (min (d + m) 9999 + 1 - d) x → Q (optV x) H))
theorem ok_law_told (Tx : Tab K mg t) : FnOk P w K mg base CX0 12 t.f_law_told t.d_law_told ["_law_rule", "_law_day", "_law_most"] (spTold t K) := by
  refine Tx.F_law_told.ok sc_law_told (fun vs H Q E h => ?_) (fun cdv A outer s H vs Q E hr h => ?_)
  · obtain ⟨rv, dv, mv, rfl, _⟩ := h
    rfl
  obtain ⟨rv, dv, mv, rfl, h⟩ := h
  refine ⟨_, (pss_cons (ps_set (i := 3) sc_law_told.nd rfl (Or.inl rfl) pe_non)
    (pss_cons (ps_try (i := 4) ⟨rfl, rfl⟩ rfl sc_law_told.nd rfl rfl rfl Tx.m_RoadError
    (fun pins Kx => (pss_one (ps_ret (pe_call (ok_next_day Tx) (hr.mono (by omega)) rfl Tx.m_next_day Tx.F_next_day.kp Tx.b_next_day .nil passes_try (pac (pv 0) (pac (pv 1) (pac (pv 2) pa_nil)))))))
    (fun a => (pss_one (ps_set (i := 3) sc_law_told.nd rfl (Or.inl rfl) (pv 4)))))
    (pss_one (ps_ret (pe_call (ok_law_class Tx) (hr.mono (by omega)) rfl Tx.m_law_class Tx.F_law_class.kp Tx.b_law_class .nil pass0 (pac (pv 3) pa_nil)))))), ?_⟩
  rcases h with ⟨T, kd, ki, q⟩ | ⟨a, r, Td, Tm, rfl, h, h8, kd, km, q1, q2, q⟩
  · exact ⟨_, rfl, _, rfl, _, rfl, rv, dv, mv, rfl, .inl ⟨T, kd, ki, Tx.x_BadRule, fun x hx => ⟨_, rfl, _, rfl, x, rfl, .inl ⟨upd_same, fun H2 s2 => q H2 ((same_new hx _).trans s2)⟩⟩⟩⟩
  · exact ⟨_, rfl, _, rfl, _, rfl, _, dv, mv, rfl, .inr ⟨a, r, Td, Tm, rfl, h, h8, kd, km,
      fun e => ⟨Tx.x_BadClock, fun x hx => ⟨_, rfl, _, rfl, x, rfl, .inr (.inl ⟨upd_same, fun H2 s2 => q1 e H2 ((same_new hx _).trans s2)⟩)⟩⟩,
      fun e e2 => ⟨Tx.x_BadNumber, fun x hx => ⟨_, rfl, _, rfl, x, rfl, .inr (.inr ⟨upd_same, fun H2 s2 => q2 e e2 H2 ((same_new hx _).trans s2)⟩)⟩⟩, q⟩⟩

theorem eq3 {x : V} {i i' j j' : Int} (h : i = i') (g : j = j') : [x, V.int i, V.int j] = [x, V.int i', V.int j'] := by rw [h, g]
/- what the program tells, and what the law's own going does -/
theorem alike {r : RT} {d m : Nat} {x y : Option Nat} (hd : d ≤ 9999) (h : Fst r.runs d (min (d + m) 9999 + 1 - d) x) (g : Fst (fun y => decide (y < 10000) && r.runs y) d (m + 1) y) : x = y :=
  Fst.one h g (fun j a b => by rw [decide_eq_true (show d + j < 10000 by omega)]; rfl) (fun j a b => by omega) (fun j a b => by
    rw [decide_eq_false (show ¬ d + j < 10000 by omega)]
    rfl)
/- a thing of a known kind that is no number up to hi -/
def OddTo (H : Hp) (hi : Int) (v : V) : Prop := (∃ T, Kd H v T) ∧ numV v 0 hi = false
theorem OddTo.same {H H' : Hp} {hi : Int} {v : V} (h : OddTo H hi v) (s : Same H H') : OddTo H' hi v := ⟨let ⟨T, k⟩ := h.1; ⟨T, k.same s⟩, h.2⟩
/- what is no rule -/
def NoRl (K : PySem.W.Frag) (c : Addr) (H : Hp) (v : V) : Prop := ∃ T, Kd H v T ∧ PySem.W.kitOne K (.type T) (.ref c) = some false
theorem NoRl.same {K : PySem.W.Frag} {c : Addr} {H H' : Hp} {v : V} (h : NoRl K c H v) (s : Same H H') : NoRl K c H' v := let ⟨T, k, e⟩ := h; ⟨T, k.same s, e⟩
def sp_law (K : PySem.W.Frag) : Sp := fun vs H Q _ => ∃ (a : Addr) (ns : List Int), vs = [.ref a] ∧ SqL K H a (ns.map V.int) ∧ ns.length ≤ 63 ∧ ∀ H', Q (.bl true) H'
theorem ok_law (Tx : Tab K mg t) : FnOk P w K mg base CX0 80 t.f_law t.d_law ["_law_script"] (sp_law K) := by
  refine Tx.F_law.ok sc_law (fun vs H Q E h => ?_) (fun cdv A outer s H vs Q E hr h => ?_)
  · obtain ⟨a, ns, rfl, _⟩ := h
    rfl
  obtain ⟨a, ns, rfl, hS, hlen, q⟩ := h
  refine ⟨_, (pss_cons (ps_set (i := 1) sc_law.nd rfl (Or.inl rfl) (pe_lst (pac pe_int pa_nil)))
    (pss_cons (ps_set (i := 2) sc_law.nd rfl (Or.inl rfl) (pe_call (tree_ok Tx 4) (hr.mono (by omega)) rfl Tx.m_law_tree Tx.F_law_tree.kp Tx.b_law_tree .nil pass0 (pac (pv 0) (pac (pv 1) (pac (pe_ix ix_list (pe_lst (pac pe_int (pac pe_int (pac pe_int (pac pe_int pa_nil))))) (pe_call (ok_law_draw Tx) (hr.mono (by omega)) rfl Tx.m_law_draw Tx.F_law_draw.kp Tx.b_law_draw .nil pass0 (pac (pv 0) (pac (pv 1) (pac pe_int pa_nil)))) (fun _ _ => rfl)) (pac pe_int pa_nil))))))
    (pss_cons (ps_set (i := 3) sc_law.nd rfl (Or.inl rfl) (pe_call (made_ok Tx 8) (hr.mono (by omega)) rfl Tx.m_law_made Tx.F_law_made.kp Tx.b_law_made .nil pass0 (pac (pv 2) pa_nil)))
    (pss_cons (ps_for PassesOwn.never rfl (pi_range1 rfl Tx.z_range (pac pe_int pa_nil)) (pg_name (i := 4) sc_law.nd rfl (Or.inl rfl))
    (pss_cons (ps_set (i := 5) sc_law.nd rfl (Or.inl rfl) (pe_lst (pac (pe_call (ok_law_draw Tx) (hr.mono (by omega)) rfl Tx.m_law_draw Tx.F_law_draw.kp Tx.b_law_draw .nil pass0 (pac (pv 0) (pac (pv 1) (pac pe_int pa_nil)))) (pac (pe_call (ok_law_draw Tx) (hr.mono (by omega)) rfl Tx.m_law_draw Tx.F_law_draw.kp Tx.b_law_draw .nil pass0 (pac (pv 0) (pac (pv 1) (pac pe_int pa_nil)))) (pac (pe_op op_sub pe_int (pe_call (ok_law_draw Tx) (hr.mono (by omega)) rfl Tx.m_law_draw Tx.F_law_draw.kp Tx.b_law_draw .nil pass0 (pac (pv 0) (pac (pv 1) (pac pe_int pa_nil))))) pa_nil)))))
    (pss_cons (ps_set (i := 6) sc_law.nd rfl (Or.inl rfl) (pe_ix ix_list (pv 5) (pv 4) (fun _ _ => rfl)))
    (pss_cons (ps_set (i := 7) sc_law.nd rfl (Or.inl rfl) (pe_ix ix_list (pe_lst (pac pe_int (pac pe_int (pac pe_int (pac pe_int (pac pe_int (pac (pe_call (ok_law_draw Tx) (hr.mono (by omega)) rfl Tx.m_law_draw Tx.F_law_draw.kp Tx.b_law_draw .nil pass0 (pac (pv 0) (pac (pv 1) (pac pe_int pa_nil)))) pa_nil))))))) (pe_call (ok_law_draw Tx) (hr.mono (by omega)) rfl Tx.m_law_draw Tx.F_law_draw.kp Tx.b_law_draw .nil pass0 (pac (pv 0) (pac (pv 1) (pac pe_int pa_nil)))) (fun _ _ => rfl)))
    (pss_one (ps_if (pt_not (pt_val (pe_call (ok_law_same Tx) (hr.mono (by omega)) rfl Tx.m_law_same Tx.F_law_same.kp Tx.b_law_same .nil pass0 (pac (pe_call (ok_law_told Tx) (hr.mono (by omega)) rfl Tx.m_law_told Tx.F_law_told.kp Tx.b_law_told .nil pass0 (pac (pv 3) (pac (pv 6) (pac (pv 7) pa_nil)))) (pac (pe_call (ok_law_due Tx) (hr.mono (by omega)) rfl Tx.m_law_due Tx.F_law_due.kp Tx.b_law_due .nil pass0 (pac (pv 2) (pac (pv 6) (pac (pv 7) pa_nil)))) pa_nil)))))
    (pss_one (ps_ret pe_bl))
    pss_nil))))))
    (pss_cons (ps_set (i := 8) sc_law.nd rfl (Or.inl rfl) (pe_op op_mul pe_int (pe_call (ok_law_draw Tx) (hr.mono (by omega)) rfl Tx.m_law_draw Tx.F_law_draw.kp Tx.b_law_draw .nil pass0 (pac (pv 0) (pac (pv 1) (pac pe_int pa_nil))))))
    (pss_cons (ps_set (i := 9) sc_law.nd rfl (Or.inl rfl) (pe_lst (pac (pe_tup (pac pe_str (pac pe_int (pac pe_int (pac (pe_tup (pac pe_str pa_nil)) pa_nil))))) (pac (pe_tup (pac pe_str (pac pe_int pa_nil))) pa_nil))))
    (pss_cons (ps_expr (pe_bm PySem.F.plainAttrs_list PySem.F.slot_list_append PySem.F.type_list_append mt_append (pv 9) (pac (pe_tup (pac pe_str (pac pe_int (pac pe_int (pac (pe_tup (pac pe_str (pac (pe_op op_add pe_int (pe_call (ok_law_draw Tx) (hr.mono (by omega)) rfl Tx.m_law_draw Tx.F_law_draw.kp Tx.b_law_draw .nil pass0 (pac (pv 0) (pac (pv 1) (pac pe_int pa_nil))))) pa_nil))) pa_nil))))) pa_nil)))
    (pss_cons (ps_set (i := 10) sc_law.nd rfl (Or.inl rfl) (pe_ix ix_list (pv 9) (pe_call (ok_law_draw Tx) (hr.mono (by omega)) rfl Tx.m_law_draw Tx.F_law_draw.kp Tx.b_law_draw .nil pass0 (pac (pv 0) (pac (pv 1) (pac pe_int pa_nil)))) (fun _ _ => rfl)))
    (pss_cons (ps_if (pt_not (pt_val (pe_call (ok_law_same Tx) (hr.mono (by omega)) rfl Tx.m_law_same Tx.F_law_same.kp Tx.b_law_same .nil pass0 (pac (pe_call (ok_next_day Tx) (hr.mono (by omega)) rfl Tx.m_next_day Tx.F_next_day.kp Tx.bd_next_day Tx.v_next_day passE0 (pac (pe_call (made_ok Tx 8) (hr.mono (by omega)) rfl Tx.m_law_made Tx.F_law_made.kp Tx.b_law_made .nil pass0 (pac (pv 10) pa_nil)) (pac (pv 8) pa_nil))) (pac (pe_call (ok_law_due Tx) (hr.mono (by omega)) rfl Tx.m_law_due Tx.F_law_due.kp Tx.b_law_due .nil pass0 (pac (pv 10) (pac (pv 8) (pac pe_int pa_nil)))) pa_nil)))))
    (pss_one (ps_ret pe_bl))
    pss_nil)
    (pss_cons (ps_set (i := 11) sc_law.nd rfl (Or.inl rfl) (pe_call (ok_law_draw Tx) (hr.mono (by omega)) rfl Tx.m_law_draw Tx.F_law_draw.kp Tx.b_law_draw .nil pass0 (pac (pv 0) (pac (pv 1) (pac (pe_op op_pow pe_int pe_int) pa_nil)))))
    (pss_cons (ps_set (i := 12) sc_law.nd rfl (Or.inl rfl) (pe_ix ix_list (pe_lst (pac (pe_un un_neg pe_int) (pac pe_bl (pac pe_non (pac pe_str (pac (pe_lst (pac pe_int pa_nil)) (pac pe_dnew (pac pe_bl (pac (pe_op op_pow pe_int pe_int) pa_nil))))))))) (pe_op op_mod (pv 11) pe_int) (fun _ _ => rfl)))
    (pss_cons (ps_set (i := 13) sc_law.nd rfl (Or.inl rfl) (pe_ix ix_list (pe_lst (pac pe_non (pac pe_str (pac pe_int (pac (pe_lst pa_nil) (pac pe_dnew pa_nil)))))) (pe_op op_mod (pe_op op_fdiv (pv 11) pe_int) pe_int) (fun _ _ => rfl)))
    (pss_cons (ps_set (i := 6) sc_law.nd rfl (Or.inl rfl) (pe_ix ix_list (pe_lst (pac (pv 12) (pac pe_int pa_nil))) (pe_op op_mod (pe_op op_fdiv (pv 11) pe_int) pe_int) (fun _ _ => rfl)))
    (pss_cons (ps_set (i := 7) sc_law.nd rfl (Or.inl rfl) (pe_ix ix_list (pe_lst (pac (pv 12) (pac pe_int pa_nil))) (pe_op op_mod (pe_op op_fdiv (pv 11) pe_int) pe_int) (fun _ _ => rfl)))
    (pss_cons (ps_set (i := 14) sc_law.nd rfl (Or.inl rfl) (pe_lst (pac (pe_call (ok_law_told Tx) (hr.mono (by omega)) rfl Tx.m_law_told Tx.F_law_told.kp Tx.b_law_told .nil pass0 (pac (pv 13) (pac (pv 6) (pac (pv 7) pa_nil)))) (pac (pe_call (ok_law_told Tx) (hr.mono (by omega)) rfl Tx.m_law_told Tx.F_law_told.kp Tx.b_law_told .nil pass0 (pac (pv 3) (pac (pv 6) (pac (pv 7) pa_nil)))) (pac (pe_call (ok_law_told Tx) (hr.mono (by omega)) rfl Tx.m_law_told Tx.F_law_told.kp Tx.b_law_told .nil pass0 (pac (pv 3) (pac pe_int (pac (pv 7) pa_nil)))) pa_nil)))))
    (pss_one (ps_ret (pe_cmpR (op_eq_lst hr.units0) (pv 14) (pe_lst (pac pe_str (pac pe_str (pac pe_str pa_nil)))) (nomark _))))))))))))))))))), ?_⟩
  refine ⟨by show 1 ≤ sizeLine; decide, fun tp htp => ?_⟩
  have S0 := Scr.new hS htp (.lst [.int 0])
  refine ⟨_, rfl, _, rfl, by show 4 ≤ sizeLine; decide, fun p hp => ?_⟩
  have s0 := same_new hp (.lst [.int 1, .int 3, .int 5, .int 7])
  have np : p ≠ tp := ne_tp upd_same hp
  refine ⟨_, rfl, _, rfl, a, tp, ns, 0, 4, rfl, S0.same s0, s0 _ _ upd_same, by decide, by decide, by decide, by decide, fun d H1 d0 d1 b1 => ?_⟩
  obtain ⟨vr, er, room, rfl, hr1, hr2⟩ := at_all (p := fun v => ∃ n : Nat, v = V.int (n : Nat) ∧ 1 ≤ n ∧ n ≤ 7) (xs := [.int 1, .int 3, .int 5, .int 7]) (d := d) (fun v hv => by
    simp only [List.mem_cons, List.not_mem_nil, or_false] at hv
    rcases hv with rfl | rfl | rfl | rfl
    · exact ⟨1, rfl, by decide, by decide⟩
    · exact ⟨3, rfl, by decide, by decide⟩
    · exact ⟨5, rfl, by decide, by decide⟩
    · exact ⟨7, rfl, by decide, by decide⟩) d0 (by show d < 4; omega)
  have S1 := b1.scr (S0.same s0)
  refine ⟨p, _, _, _, rfl, rfl, SqL.of (b1.keep _ _ np upd_same), er, a, tp, ns, 0 + 1, room, 4, rfl, S1, b1.tape, by omega, by omega, hr1, by omega, by decide, by decide, fun v r k' H2 b2 u1 u2 T2 g w2 e2 => ?_⟩
  have S2 := b2.scr S1
  refine ⟨_, rfl, tp, v, r, rfl, T2, g, by omega, by omega, by omega, fun b H3 s3 R3 => ?_⟩
  refine ⟨3, rfl, by decide, by decide, for_range (n := 3) (fun i σ H' => ∃ (vk vds vd vm : Option V) (k : Int), σ = [some (.ref a), some (.ref tp), some v, some (.ref b), vk, vds, vd, vm, none, none, none, none, none, none, none] ∧ Scr K H' a tp ns ∧ H' tp = some (.lst [.int k]) ∧ 0 ≤ k ∧ k ≤ 300 + 5 * i ∧ TAtr tp H' v r ∧ RAt (rc t) K H' b r)
    ⟨_, _, _, _, k', rfl, S2.same s3, s3 _ _ b2.tape, by omega, by omega, T2.same s3, R3⟩ ?_ ?_⟩
  · rintro i σ H4 hi ⟨vk, vds, vd, vm, k, rfl, S, hT, k0, k1, T4, R4⟩
    refine ⟨_, rfl, _, rfl, a, tp, ns, k, 42, rfl, S, hT, by omega, by omega, by decide, by decide, fun x1 H5 x10 x11 c1 => ?_⟩
    refine ⟨_, rfl, _, rfl, a, tp, ns, k + 1, 10000, rfl, c1.scr S, c1.tape, by omega, by omega, by decide, by decide, fun x2 H6 x20 x21 c2 => ?_⟩
    have C2 := c1.trans c2
    refine ⟨_, rfl, _, rfl, a, tp, ns, k + 1 + 1, 9, rfl, C2.scr S, C2.tape, by omega, by omega, by decide, by decide, fun x3 H7 x30 x31 c3 => ⟨_, _, rfl, rfl, by show 3 ≤ sizeLine; decide, fun p1 g1 => ?_⟩⟩
    have C3 := C2.trans c3
    have s1 := same_new g1 (.lst [.int x1, .int x2, .int (9999 - x3)])
    have C3' := C3.same s1
    obtain ⟨vd, ed, day, rfl, hday⟩ := at_all (p := fun v => ∃ n : Nat, v = V.int (n : Nat) ∧ n ≤ 9999) (xs := [.int x1, .int x2, .int (9999 - x3)]) (d := 0 + ((i : Nat) : Int)) (fun v hv => by
      simp only [List.mem_cons, List.not_mem_nil, or_false] at hv
      rcases hv with rfl | rfl | rfl
      · exact ⟨x1.toNat, congrArg V.int (by omega), by omega⟩
      · exact ⟨x2.toNat, congrArg V.int (by omega), by omega⟩
      · exact ⟨(9999 - x3).toNat, congrArg V.int (by omega), by omega⟩) (by omega) (by show 0 + ((i : Nat) : Int) < 3; omega)
    refine ⟨_, rfl, _, rfl, p1, _, _, _, rfl, rfl, SqL.of upd_same, ed, ?_⟩
    refine ⟨_, rfl, _, rfl, a, tp, ns, k + 1 + 1 + 1, 60, rfl, C3'.scr S, C3'.tape, by omega, by omega, by decide, by decide, fun x4 H8 x40 x41 c4 => ⟨by show 6 ≤ sizeLine; decide, fun p2 g2 => ?_⟩⟩
    have C4 := C3'.trans c4
    have s2 := same_new g2 (.lst [.int 0, .int 1, .int 6, .int 7, .int 30, .int x4])
    have C4' := C4.same s2
    have np2 : p2 ≠ tp := ne_tp C4.tape g2
    refine ⟨_, rfl, _, rfl, a, tp, ns, k + 1 + 1 + 1 + 1, 6, rfl, C4'.scr S, C4'.tape, by omega, by omega, by decide, by decide, fun x5 H9 x50 x51 c5 => ?_⟩
    have C5 := C4'.trans c5
    obtain ⟨vm, em, most, rfl, hmost⟩ := at_all (p := fun v => ∃ n : Nat, v = V.int (n : Nat) ∧ n ≤ 400) (xs := [.int 0, .int 1, .int 6, .int 7, .int 30, .int x4]) (d := x5) (fun v hv => by
      simp only [List.mem_cons, List.not_mem_nil, or_false] at hv
      rcases hv with rfl | rfl | rfl | rfl | rfl | rfl
      · exact ⟨0, rfl, by decide⟩
      · exact ⟨1, rfl, by decide⟩
      · exact ⟨6, rfl, by decide⟩
      · exact ⟨7, rfl, by decide⟩
      · exact ⟨30, rfl, by decide⟩
      · exact ⟨x4.toNat, congrArg V.int (by omega), by omega⟩) x50 (by show x5 < 6; omega)
    refine ⟨p2, _, _, _, rfl, rfl, SqL.of (c5.keep _ _ np2 upd_same), em, ?_⟩
    have T9 := T4.bump hT C5
    have R9 := R4.bump hT C5
    refine ⟨_, rfl, _, rfl, _, rfl, _, _, _, rfl, .inr ⟨b, r, "int", "int", rfl, R9, by omega, .int _, .int _, (fun e => by rw [num_ok (by omega) (by omega)] at e; cases e), (fun _ e => by rw [num_ok (by omega) (by omega)] at e; cases e), fun d' m' ed' em' hd' hm' x hx => ?_⟩⟩
    obtain rfl : day = d' := by injection ed' with z; omega
    obtain rfl : most = m' := by injection em' with z; omega
    refine ⟨_, rfl, _, rfl, _, rfl, tp, v, r, day, most, rfl, T9, g, by omega, hday, hmost, fun y H10 s10 hy => ?_⟩
    obtain rfl := alike hday hx hy
    refine ⟨x, rfl, _, rfl, itF (by decide) ?_⟩
    have e5 : k + 1 + 1 + 1 + 1 + 1 ≤ 300 + 5 * ((i + 1 : Nat) : Int) := by omega
    exact ⟨_, _, _, _, _, rfl, (C5.scr S).same s10, s10 _ _ C5.tape, by omega, e5, T9.same s10, R9.same s10⟩
  · rintro σ H4 ⟨vk, vds, vd, vm, k, rfl, S, hT, k0, k1, T4, R4⟩
    have k15 : k ≤ 315 := by omega
    refine ⟨_, rfl, _, rfl, a, tp, ns, k, 3, rfl, S, hT, by omega, by omega, by decide, by decide, fun x1 H5 x10 x11 c1 => ⟨_, _, rfl, rfl, .inl ⟨by decide, by decide⟩, ?_⟩⟩
    refine ⟨by show 1 ≤ sizeLine; decide, fun q1 h1 => ?_⟩
    have s1 := same_new h1 (.tup [.str (Str.ofString "always")])
    refine ⟨by show 4 ≤ sizeLine; decide, fun q2 h2 => ?_⟩
    have s2 := same_new h2 (.tup [.str (Str.ofString "span"), .int 500, .int 510, .ref q1])
    refine ⟨by show 2 ≤ sizeLine; decide, fun q3 h3 => ?_⟩
    have s3' := same_new h3 (.tup [.str (Str.ofString "week"), .int 0])
    refine ⟨by show 2 ≤ sizeLine; decide, fun q4 h4 => ?_⟩
    have s4 := same_new h4 (.lst [.ref q2, .ref q3])
    have C1 := ((c1.same s1).same s2).same s3'
    have C1' := C1.same s4
    have n4 : q4 ≠ tp := ne_tp C1.tape h4
    refine ⟨_, rfl, .inl ⟨rfl, _, SqL.of upd_same⟩, ?_⟩
    refine ⟨_, rfl, _, rfl, a, tp, ns, k + 1, 127, rfl, C1'.scr S, C1'.tape, by omega, by omega, by decide, by decide, fun x2 H6 x20 x21 c2 => ⟨_, _, rfl, rfl, ?_⟩⟩
    have C2 := C1'.trans c2
    obtain ⟨wb, ewb⟩ : ∃ n : Nat, 1 + x2 = ((n : Nat) : Int) := ⟨(1 + x2).toNat, by omega⟩
    refine ⟨by show 2 ≤ sizeLine; decide, fun q5 h5 => ⟨by show 4 ≤ sizeLine; decide, fun q6 h6 => ?_⟩⟩
    have s5 := same_new h5 (.tup [.str (Str.ofString "week"), .int (1 + x2)])
    have s6 := same_new h6 (.tup [.str (Str.ofString "span"), .int 399, .int 401, .ref q5])
    have e4 : H6 q4 = some (.lst [.ref q2, .ref q3]) := c2.keep _ _ n4 upd_same
    refine ⟨q4, _, _, rfl, rfl, s6 _ _ (s5 _ _ e4), by show 2 < sizeLine; decide, ?_⟩
    generalize hHn : upd (upd (upd H6 q5 (.tup [.str (Str.ofString "week"), .int (1 + x2)])) q6 (.tup [.str (Str.ofString "span"), .int 399, .int 401, .ref q5])) q4 (.lst ([.ref q2, .ref q3] ++ [.ref q6])) = Hn
    have at4 : Hn q4 = some (.lst [.ref q2, .ref q3, .ref q6]) := by rw [← hHn, upd_same]; rfl
    have oth : ∀ b o, b ≠ q4 → upd (upd H6 q5 (.tup [.str (Str.ofString "week"), .int (1 + x2)])) q6 (.tup [.str (Str.ofString "span"), .int 399, .int 401, .ref q5]) b = some o → Hn b = some o := fun b o n e => by rw [← hHn, upd_ne n]; exact e
    have tn : Hn tp = some (.lst [.int (k + 1 + 1)]) := oth _ _ (Ne.symm n4) (s6 _ _ (s5 _ _ C2.tape))
    have Bn : Bump tp (k + 1 + 1) H4 Hn := ⟨fun x o n e => oth _ _ (fun z => by
      have := C1.keep x o n e
      rw [z, h4] at this
      cases this) (s6 _ _ (s5 _ _ (C2.keep x o n e))), tn⟩
    have old : ∀ x o, upd (upd (upd H5 q1 (.tup [.str (Str.ofString "always")])) q2 (.tup [.str (Str.ofString "span"), .int 500, .int 510, .ref q1])) q3 (.tup [.str (Str.ofString "week"), .int 0]) x = some o → x ≠ tp → Hn x = some o := fun x o e n => oth _ _ (fun z => by rw [z, h4] at e; cases e) (s6 _ _ (s5 _ _ (c2.keep _ _ n (s4 _ _ e))))
    have ntup : ∀ {x xs}, upd (upd (upd H5 q1 (.tup [.str (Str.ofString "always")])) q2 (.tup [.str (Str.ofString "span"), .int 500, .int 510, .ref q1])) q3 (.tup [.str (Str.ofString "week"), .int 0]) x = some (.tup xs) → x ≠ tp := fun {x xs} e z => by
      have := C1.tape
      rw [← z, e] at this
      cases this
    have E1 := s3' _ _ (s2 _ _ (upd_same (H := H5) (a := q1) (o := .tup [.str (Str.ofString "always")])))
    have E2 := s3' _ _ (upd_same (H := upd H5 q1 (.tup [.str (Str.ofString "always")])) (a := q2) (o := .tup [.str (Str.ofString "span"), .int 500, .int 510, .ref q1]))
    have E3 := upd_same (H := upd (upd H5 q1 (.tup [.str (Str.ofString "always")])) q2 (.tup [.str (Str.ofString "span"), .int 500, .int 510, .ref q1])) (a := q3) (o := .tup [.str (Str.ofString "week"), .int 0])
    have n5 : q5 ≠ q4 := fun z => by rw [z, e4] at h5; cases h5
    have n6 : q6 ≠ q4 := fun z => by rw [z, s5 _ _ e4] at h6; cases h6
    have t1 : TAtr tp Hn (.ref q2) (.span 500 510 .always) := .span (old _ _ E2 (ntup E2)) (.always (old _ _ E1 (ntup E1)))
    have t2 : TAtr tp Hn (.ref q3) (.week 0) := .week (old _ _ E3 (ntup E3))
    have w5 : Hn q5 = some (.tup [.str (Str.ofString "week"), .int ((wb : Nat) : Int)]) := by
      have w : Hn q5 = some (.tup [.str (Str.ofString "week"), .int (1 + x2)]) := oth q5 _ n5 (s6 _ _ upd_same)
      rw [ewb] at w
      exact w
    have t3 : TAtr tp Hn (.ref q6) (.span 399 401 (.week wb)) := .span (oth q6 _ n6 upd_same) (.week w5)
    refine ⟨_, rfl, _, rfl, _, rfl, a, tp, ns, k + 1 + 1, 3, rfl, Bn.scr S, tn, by omega, by omega, by decide, by decide, fun x3 H7 x30 x31 c3 => ?_⟩
    have C3 := Bn.trans c3
    obtain ⟨v2, e2', r2, T7, g2, w2', d2'⟩ := at_all (p := fun v => ∃ r2 : RT, TAtr tp H7 v r2 ∧ r2.good ∧ r2.weight ≤ 15 ∧ r2.depth ≤ 8) (xs := [.ref q2, .ref q3, .ref q6]) (d := x3) (fun v hv => by
      simp only [List.mem_cons, List.not_mem_nil, or_false] at hv
      rcases hv with rfl | rfl | rfl
      · exact ⟨_, t1.bump tn c3, ⟨by decide, by decide, trivial⟩, by decide, by decide⟩
      · exact ⟨_, t2.bump tn c3, Nat.zero_le _, by show 1 ≤ 15; decide, by show 1 ≤ 8; decide⟩
      · exact ⟨_, t3.bump tn c3, ⟨by decide, by decide, by show wb ≤ 127; omega⟩, by show 2 ≤ 15; decide, by show 2 ≤ 8; decide⟩) x30 (by show x3 < 3; omega)
    refine ⟨q4, _, _, _, rfl, rfl, SqL.of (c3.keep _ _ n4 at4), e2', ?_⟩
    obtain ⟨far, efar⟩ : ∃ n : Nat, 200 * x1 = ((n : Nat) : Int) := ⟨(200 * x1).toNat, by omega⟩
    have hfar : far ≤ 400 := by omega
    refine ⟨_, rfl, tp, v2, r2, rfl, T7, g2, w2', d2', d2', fun b2 H8 s8 R8 => ?_⟩
    refine ⟨_, rfl, _, _, _, rfl, .inr ⟨b2, r2, "int", "int", rfl, R8, d2', .int _, .int _, (fun e => by
      have e' : numV (.int (200 * x1)) 0 9999 = false := e
      rw [efar, num_ok (by omega) (by omega)] at e'
      cases e'), (fun _ e => by rw [show numV (.int 400) 0 400 = true by decide] at e; cases e), fun d' m' ed' em' hd' hm' x hx => ?_⟩⟩
    obtain rfl : far = d' := by injection ed' with z; omega
    obtain rfl : 400 = m' := by injection em' with z; omega
    refine ⟨_, rfl, _, rfl, tp, v2, r2, far, 400, eq3 efar rfl, T7.same s8, g2, d2', by omega, by decide, fun y H9 s9 hy => ?_⟩
    obtain rfl := alike (by omega) hx hy
    refine ⟨x, rfl, _, rfl, itF (by decide) ?_⟩
    have C9 := (C3.same s8).same s9
    refine ⟨_, rfl, _, rfl, _, _, rfl, rfl, ⟨by decide, by decide, by decide⟩, a, tp, ns, k + 1 + 1 + 1, _, rfl, C9.scr S, C9.tape, by omega, by omega, by decide, by decide, fun x4 H10 x40 x41 c4 => ?_⟩
    have C10 := C9.trans c4
    refine ⟨_, rfl, by show 1 ≤ sizeLine; decide, fun p1 g1 => ?_⟩
    intro p2 gg2
    refine ⟨_, _, rfl, rfl, ⟨by decide, by decide, by decide⟩, by show 8 ≤ sizeLine; decide, fun p3 g3 => ?_⟩
    have v1 := same_new g1 (.lst [.int 3])
    have v2s := same_new gg2 (.dK [])
    have v3 := same_new g3 (.lst [.int (-1), .bl true, .non, .str (Str.ofString "3"), .ref p1, .ref p2, .bl false, .int (10 ^ 20)])
    have v13 := (v1.trans v2s).trans v3
    obtain ⟨ov, eo, oT, oN⟩ := at_all (p := fun v => (∃ T, Kd (upd (upd (upd H10 p1 (.lst [.int 3])) p2 (.dK [])) p3 (.lst [.int (-1), .bl true, .non, .str (Str.ofString "3"), .ref p1, .ref p2, .bl false, .int (10 ^ 20)])) v T) ∧ ∀ hi : Int, hi ≤ 9999 → numV v 0 hi = false) (xs := [.int (-1), .bl true, .non, .str (Str.ofString "3"), .ref p1, .ref p2, .bl false, .int (10 ^ 20)]) (d := x4 % 8) (fun v hv => by
      simp only [List.mem_cons, List.not_mem_nil, or_false] at hv
      rcases hv with rfl | rfl | rfl | rfl | rfl | rfl | rfl | rfl
      · exact ⟨⟨_, .int _⟩, fun hi hh => show decide ((0 : Int) ≤ -1 ∧ (-1 : Int) ≤ hi) = false from decide_eq_false (fun z => absurd z.1 (by decide))⟩
      · exact ⟨⟨_, .bl _⟩, fun _ _ => rfl⟩
      · exact ⟨⟨_, .non⟩, fun _ _ => rfl⟩
      · exact ⟨⟨_, .str _⟩, fun _ _ => rfl⟩
      · exact ⟨⟨_, .lst (v3 _ _ (v2s _ _ upd_same))⟩, fun _ _ => rfl⟩
      · exact ⟨⟨_, .dK (v3 _ _ upd_same)⟩, fun _ _ => rfl⟩
      · exact ⟨⟨_, .bl _⟩, fun _ _ => rfl⟩
      · exact ⟨⟨_, .int _⟩, fun hi hh => show decide ((0 : Int) ≤ 10 ^ 20 ∧ (10 ^ 20 : Int) ≤ hi) = false from decide_eq_false (fun z => by have := z.2; omega)⟩) (Int.emod_nonneg _ (by decide)) (by show x4 % 8 < 8; exact Int.emod_lt_of_pos _ (by decide))
    refine ⟨_, rfl, _, _, rfl, rfl, (by show (0 : Int) < 8; decide), p3, _, _, _, rfl, rfl, SqL.of upd_same, eo, ?_⟩
    refine ⟨by show 0 ≤ sizeLine; decide, fun p4 g4 => ?_⟩
    intro p5 g5
    refine ⟨by show 5 ≤ sizeLine; decide, fun p6 g6 => ?_⟩
    have v4 := same_new g4 (.lst [])
    have v5 := same_new g5 (.dK [])
    have v6 := same_new g6 (.lst [.non, .str (Str.ofString "always"), .int 5, .ref p4, .ref p5])
    have vm' : Same H10 (upd (upd (upd (upd (upd (upd H10 p1 (.lst [.int 3])) p2 (.dK [])) p3 (.lst [.int (-1), .bl true, .non, .str (Str.ofString "3"), .ref p1, .ref p2, .bl false, .int (10 ^ 20)])) p4 (.lst [])) p5 (.dK [])) p6 (.lst [.non, .str (Str.ofString "always"), .int 5, .ref p4, .ref p5])) := v13.trans ((v4.trans v5).trans v6)
    obtain ⟨nv, en, nN⟩ := at_all (p := NoRl K t.c_Rule (upd (upd (upd (upd (upd (upd H10 p1 (.lst [.int 3])) p2 (.dK [])) p3 (.lst [.int (-1), .bl true, .non, .str (Str.ofString "3"), .ref p1, .ref p2, .bl false, .int (10 ^ 20)])) p4 (.lst [])) p5 (.dK [])) p6 (.lst [.non, .str (Str.ofString "always"), .int 5, .ref p4, .ref p5]))) (xs := [.non, .str (Str.ofString "always"), .int 5, .ref p4, .ref p5]) (d := x4 / 8 % 5) (fun v hv => by
      simp only [List.mem_cons, List.not_mem_nil, or_false] at hv
      rcases hv with rfl | rfl | rfl | rfl | rfl
      · exact ⟨_, .non, Tx.kt_NoneType_Rule⟩
      · exact ⟨_, .str _, Tx.kt_str_Rule⟩
      · exact ⟨_, .int _, Tx.kt_int_Rule⟩
      · exact ⟨_, .lst (v6 _ _ (v5 _ _ upd_same)), Tx.kt_list_Rule⟩
      · exact ⟨_, .dK (v6 _ _ upd_same), Tx.kt_dict_Rule⟩) (Int.emod_nonneg _ (by decide)) (by show x4 / 8 % 5 < 5; exact Int.emod_lt_of_pos _ (by decide))
    refine ⟨_, rfl, _, _, rfl, rfl, ⟨by decide, by decide⟩, _, _, rfl, rfl, (by show (0 : Int) < 5; decide), p6, _, _, _, rfl, rfl, SqL.of upd_same, en, ?_⟩
    have oM : ∃ T, Kd (upd (upd (upd (upd (upd (upd H10 p1 (.lst [.int 3])) p2 (.dK [])) p3 (.lst [.int (-1), .bl true, .non, .str (Str.ofString "3"), .ref p1, .ref p2, .bl false, .int (10 ^ 20)])) p4 (.lst [])) p5 (.dK [])) p6 (.lst [.non, .str (Str.ofString "always"), .int 5, .ref p4, .ref p5])) ov T := let ⟨T, kd⟩ := oT; ⟨T, kd.same ((v4.trans v5).trans v6)⟩
    refine ⟨_, rfl, by show 2 ≤ sizeLine; decide, fun p7 g7 => ?_⟩
    have v7 := same_new g7 (.lst [ov, .int 10000])
    obtain ⟨dv, edv, dT⟩ := at_all (p := OddTo (upd (upd (upd (upd (upd (upd (upd H10 p1 (.lst [.int 3])) p2 (.dK [])) p3 (.lst [.int (-1), .bl true, .non, .str (Str.ofString "3"), .ref p1, .ref p2, .bl false, .int (10 ^ 20)])) p4 (.lst [])) p5 (.dK [])) p6 (.lst [.non, .str (Str.ofString "always"), .int 5, .ref p4, .ref p5])) p7 (.lst [ov, .int 10000])) 9999) (xs := [ov, .int 10000]) (d := x4 / 40 % 2) (fun v hv => by
      simp only [List.mem_cons, List.not_mem_nil, or_false] at hv
      rcases hv with rfl | rfl
      · exact ⟨let ⟨T, kd⟩ := oM; ⟨T, kd.same v7⟩, oN 9999 (by decide)⟩
      · exact ⟨⟨_, .int _⟩, by decide⟩) (Int.emod_nonneg _ (by decide)) (by show x4 / 40 % 2 < 2; exact Int.emod_lt_of_pos _ (by decide))
    refine ⟨_, rfl, _, _, rfl, rfl, ⟨by decide, by decide⟩, _, _, rfl, rfl, (by show (0 : Int) < 2; decide), p7, _, _, _, rfl, rfl, SqL.of upd_same, edv, ?_⟩
    refine ⟨_, rfl, by show 2 ≤ sizeLine; decide, fun p8 g8 => ?_⟩
    have v8 := same_new g8 (.lst [ov, .int 401])
    have vf : Same H10 (upd (upd (upd (upd (upd (upd (upd (upd H10 p1 (.lst [.int 3])) p2 (.dK [])) p3 (.lst [.int (-1), .bl true, .non, .str (Str.ofString "3"), .ref p1, .ref p2, .bl false, .int (10 ^ 20)])) p4 (.lst [])) p5 (.dK [])) p6 (.lst [.non, .str (Str.ofString "always"), .int 5, .ref p4, .ref p5])) p7 (.lst [ov, .int 10000])) p8 (.lst [ov, .int 401])) := vm'.trans (v7.trans v8)
    obtain ⟨mv, emv, mT⟩ := at_all (p := OddTo (upd (upd (upd (upd (upd (upd (upd (upd H10 p1 (.lst [.int 3])) p2 (.dK [])) p3 (.lst [.int (-1), .bl true, .non, .str (Str.ofString "3"), .ref p1, .ref p2, .bl false, .int (10 ^ 20)])) p4 (.lst [])) p5 (.dK [])) p6 (.lst [.non, .str (Str.ofString "always"), .int 5, .ref p4, .ref p5])) p7 (.lst [ov, .int 10000])) p8 (.lst [ov, .int 401])) 400) (xs := [ov, .int 401]) (d := x4 / 80 % 2) (fun v hv => by
      simp only [List.mem_cons, List.not_mem_nil, or_false] at hv
      rcases hv with rfl | rfl
      · exact ⟨let ⟨T, kd⟩ := oM; ⟨T, kd.same (v7.trans v8)⟩, oN 400 (by decide)⟩
      · exact ⟨⟨_, .int _⟩, by decide⟩) (Int.emod_nonneg _ (by decide)) (by show x4 / 80 % 2 < 2; exact Int.emod_lt_of_pos _ (by decide))
    refine ⟨_, rfl, _, _, rfl, rfl, ⟨by decide, by decide⟩, _, _, rfl, rfl, (by show (0 : Int) < 2; decide), p8, _, _, _, rfl, rfl, SqL.of upd_same, emv, ?_⟩
    have dF := dT.same v8
    have nF := nN.same (v7.trans v8)
    have RF : RAt (rc t) K (upd (upd (upd (upd (upd (upd (upd (upd H10 p1 (.lst [.int 3])) p2 (.dK [])) p3 (.lst [.int (-1), .bl true, .non, .str (Str.ofString "3"), .ref p1, .ref p2, .bl false, .int (10 ^ 20)])) p4 (.lst [])) p5 (.dK [])) p6 (.lst [.non, .str (Str.ofString "always"), .int 5, .ref p4, .ref p5])) p7 (.lst [ov, .int 10000])) p8 (.lst [ov, .int 401])) b r := (R4.bump hT C10).same vf
    obtain ⟨nT, nk, ni⟩ := nF
    refine ⟨_, rfl, _, rfl, _, rfl, _, _, _, rfl, .inl ⟨nT, nk, ni, fun J1 y1 => ?_⟩⟩
    obtain ⟨⟨dTy, dk⟩, dn⟩ := dF.same y1
    obtain ⟨⟨mTy, mk⟩, mn⟩ := mT.same y1
    refine ⟨_, rfl, _, rfl, _, rfl, _, _, _, rfl, .inr ⟨b, r, dTy, mTy, rfl, RF.same y1, by omega, dk, mk, (fun _ J2 y2 => ?_), (fun e _ => by rw [dn] at e; cases e), fun d' m' ed' em' hd' hm' x hx => by
      rw [ed', num_ok (by omega) (by omega)] at dn
      cases dn⟩⟩
    obtain ⟨⟨mTy2, mk2⟩, mn2⟩ := (mT.same y1).same y2
    refine ⟨_, rfl, _, rfl, _, _, _, rfl, .inr ⟨b, r, "int", mTy2, rfl, (RF.same y1).same y2, by omega, .int _, mk2, (fun e => by rw [show numV (.int 9999) 0 9999 = true by decide] at e; cases e), (fun _ _ J3 y3 => ?_), fun d' m' ed' em' hd' hm' x hx => by
      rw [em', num_ok (by omega) (by omega)] at mn2
      cases mn2⟩⟩
    refine ⟨by show 3 ≤ sizeLine; decide, fun p9 g9 => ?_⟩
    refine ⟨_, rfl, by show 3 ≤ sizeLine; decide, fun p10 g10 => ?_⟩
    have z10 := same_new g10 (.lst [.str (Str.ofString "rule"), .str (Str.ofString "clock"), .str (Str.ofString "number")])
    refine ⟨p9, p10, _, _, rfl, rfl, SqL.of (z10 _ _ upd_same), SqL.of upd_same, rfl, rfl, ?_⟩
    have e : eqL [.str (Str.ofString "rule"), .str (Str.ofString "clock"), .str (Str.ofString "number")] [.str (Str.ofString "rule"), .str (Str.ofString "clock"), .str (Str.ofString "number")] = true := by decide +kernel
    show Q (.bl (eqL [.str (Str.ofString "rule"), .str (Str.ofString "clock"), .str (Str.ofString "number")] [.str (Str.ofString "rule"), .str (Str.ofString "clock"), .str (Str.ofString "number")])) _
    rw [e]
    exact q _

end
theorem all_mk {K : PySem.W.Frag} {h : Heap} {mg : Str → Option Value} (X : K.In h) (G : h.Ns mainGlobals mg)
    {F_is_any_number : Addr} {oc_is_any_number kV_is_any_number dc_is_any_number pm_is_any_number cd_is_any_number ct_is_any_number : Value} {od_is_any_number an_is_any_number : Option Addr} {sl_is_any_number : Array (Option Value)}
    {F_is_number : Addr} {oc_is_number kV_is_number dc_is_number pm_is_number cd_is_number ct_is_number : Value} {od_is_number an_is_number : Option Addr} {sl_is_number : Array (Option Value)}
    {F_are_rising : Addr} {oc_are_rising kV_are_rising dc_are_rising pm_are_rising cd_are_rising ct_are_rising : Value} {od_are_rising an_are_rising : Option Addr} {sl_are_rising : Array (Option Value)}
    {F_copy_of : Addr} {oc_copy_of kV_copy_of dc_copy_of pm_copy_of cd_copy_of ct_copy_of : Value} {od_copy_of an_copy_of : Option Addr} {sl_copy_of : Array (Option Value)}
    {F_check_size : Addr} {oc_check_size kV_check_size dc_check_size pm_check_size cd_check_size ct_check_size : Value} {od_check_size an_check_size : Option Addr} {sl_check_size : Array (Option Value)}
    {F_list_text : Addr} {oc_list_text kV_list_text dc_list_text pm_list_text cd_list_text ct_list_text : Value} {od_list_text an_list_text : Option Addr} {sl_list_text : Array (Option Value)}
    {F_next_day : Addr} {oc_next_day kV_next_day dc_next_day pm_next_day cd_next_day ct_next_day : Value} {od_next_day an_next_day : Option Addr} {sl_next_day : Array (Option Value)}
    {D_next_day : Addr} {ocD_next_day : Value} {odD_next_day : Option Addr} {n_next_day : Nat} {slD_next_day : Array (Option Value)}
    {td0_next_day : Tok}
    {F_law_cell : Addr} {oc_law_cell kV_law_cell dc_law_cell pm_law_cell cd_law_cell ct_law_cell : Value} {od_law_cell an_law_cell : Option Addr} {sl_law_cell : Array (Option Value)}
    {F_law_draw : Addr} {oc_law_draw kV_law_draw dc_law_draw pm_law_draw cd_law_draw ct_law_draw : Value} {od_law_draw an_law_draw : Option Addr} {sl_law_draw : Array (Option Value)}
    {F_law_whole : Addr} {oc_law_whole kV_law_whole dc_law_whole pm_law_whole cd_law_whole ct_law_whole : Value} {od_law_whole an_law_whole : Option Addr} {sl_law_whole : Array (Option Value)}
    {F_law_rising : Addr} {oc_law_rising kV_law_rising dc_law_rising pm_law_rising cd_law_rising ct_law_rising : Value} {od_law_rising an_law_rising : Option Addr} {sl_law_rising : Array (Option Value)}
    {F_law_leaf : Addr} {oc_law_leaf kV_law_leaf dc_law_leaf pm_law_leaf cd_law_leaf ct_law_leaf : Value} {od_law_leaf an_law_leaf : Option Addr} {sl_law_leaf : Array (Option Value)}
    {F_law_tree : Addr} {oc_law_tree kV_law_tree dc_law_tree pm_law_tree cd_law_tree ct_law_tree : Value} {od_law_tree an_law_tree : Option Addr} {sl_law_tree : Array (Option Value)}
    {F_law_made : Addr} {oc_law_made kV_law_made dc_law_made pm_law_made cd_law_made ct_law_made : Value} {od_law_made an_law_made : Option Addr} {sl_law_made : Array (Option Value)}
    {F_law_runs : Addr} {oc_law_runs kV_law_runs dc_law_runs pm_law_runs cd_law_runs ct_law_runs : Value} {od_law_runs an_law_runs : Option Addr} {sl_law_runs : Array (Option Value)}
    {F_law_class : Addr} {oc_law_class kV_law_class dc_law_class pm_law_class cd_law_class ct_law_class : Value} {od_law_class an_law_class : Option Addr} {sl_law_class : Array (Option Value)}
    {F_law_due : Addr} {oc_law_due kV_law_due dc_law_due pm_law_due cd_law_due ct_law_due : Value} {od_law_due an_law_due : Option Addr} {sl_law_due : Array (Option Value)}
    {F_law_told : Addr} {oc_law_told kV_law_told dc_law_told pm_law_told cd_law_told ct_law_told : Value} {od_law_told an_law_told : Option Addr} {sl_law_told : Array (Option Value)}
    {F_law_same : Addr} {oc_law_same kV_law_same dc_law_same pm_law_same cd_law_same ct_law_same : Value} {od_law_same an_law_same : Option Addr} {sl_law_same : Array (Option Value)}
    {F_law : Addr} {oc_law kV_law dc_law pm_law cd_law ct_law : Value} {od_law an_law : Option Addr} {sl_law : Array (Option Value)}
    {F_Rule_copied : Addr} {oc_Rule_copied kV_Rule_copied dc_Rule_copied pm_Rule_copied cd_Rule_copied ct_Rule_copied : Value} {od_Rule_copied an_Rule_copied : Option Addr} {sl_Rule_copied : Array (Option Value)}
    {F_Rule_parts : Addr} {oc_Rule_parts kV_Rule_parts dc_Rule_parts pm_Rule_parts cd_Rule_parts ct_Rule_parts : Value} {od_Rule_parts an_Rule_parts : Option Addr} {sl_Rule_parts : Array (Option Value)}
    {F_Rule_runs : Addr} {oc_Rule_runs kV_Rule_runs dc_Rule_runs pm_Rule_runs cd_Rule_runs ct_Rule_runs : Value} {od_Rule_runs an_Rule_runs : Option Addr} {sl_Rule_runs : Array (Option Value)}
    {F_Rule_words : Addr} {oc_Rule_words kV_Rule_words dc_Rule_words pm_Rule_words cd_Rule_words ct_Rule_words : Value} {od_Rule_words an_Rule_words : Option Addr} {sl_Rule_words : Array (Option Value)}
    {F_Rule_weight : Addr} {oc_Rule_weight kV_Rule_weight dc_Rule_weight pm_Rule_weight cd_Rule_weight ct_Rule_weight : Value} {od_Rule_weight an_Rule_weight : Option Addr} {sl_Rule_weight : Array (Option Value)}
    {F_Rule_depth : Addr} {oc_Rule_depth kV_Rule_depth dc_Rule_depth pm_Rule_depth cd_Rule_depth ct_Rule_depth : Value} {od_Rule_depth an_Rule_depth : Option Addr} {sl_Rule_depth : Array (Option Value)}
    {F_Week_init : Addr} {oc_Week_init kV_Week_init dc_Week_init pm_Week_init cd_Week_init ct_Week_init : Value} {od_Week_init an_Week_init : Option Addr} {sl_Week_init : Array (Option Value)}
    {F_Week_copied : Addr} {oc_Week_copied kV_Week_copied dc_Week_copied pm_Week_copied cd_Week_copied ct_Week_copied : Value} {od_Week_copied an_Week_copied : Option Addr} {sl_Week_copied : Array (Option Value)}
    {F_Week_runs : Addr} {oc_Week_runs kV_Week_runs dc_Week_runs pm_Week_runs cd_Week_runs ct_Week_runs : Value} {od_Week_runs an_Week_runs : Option Addr} {sl_Week_runs : Array (Option Value)}
    {F_Week_words : Addr} {oc_Week_words kV_Week_words dc_Week_words pm_Week_words cd_Week_words ct_Week_words : Value} {od_Week_words an_Week_words : Option Addr} {sl_Week_words : Array (Option Value)}
    {F_Span_init : Addr} {oc_Span_init kV_Span_init dc_Span_init pm_Span_init cd_Span_init ct_Span_init : Value} {od_Span_init an_Span_init : Option Addr} {sl_Span_init : Array (Option Value)}
    {F_Span_copied : Addr} {oc_Span_copied kV_Span_copied dc_Span_copied pm_Span_copied cd_Span_copied ct_Span_copied : Value} {od_Span_copied an_Span_copied : Option Addr} {sl_Span_copied : Array (Option Value)}
    {F_Span_parts : Addr} {oc_Span_parts kV_Span_parts dc_Span_parts pm_Span_parts cd_Span_parts ct_Span_parts : Value} {od_Span_parts an_Span_parts : Option Addr} {sl_Span_parts : Array (Option Value)}
    {F_Span_runs : Addr} {oc_Span_runs kV_Span_runs dc_Span_runs pm_Span_runs cd_Span_runs ct_Span_runs : Value} {od_Span_runs an_Span_runs : Option Addr} {sl_Span_runs : Array (Option Value)}
    {F_Span_words : Addr} {oc_Span_words kV_Span_words dc_Span_words pm_Span_words cd_Span_words ct_Span_words : Value} {od_Span_words an_Span_words : Option Addr} {sl_Span_words : Array (Option Value)}
    {F_Each_init : Addr} {oc_Each_init kV_Each_init dc_Each_init pm_Each_init cd_Each_init ct_Each_init : Value} {od_Each_init an_Each_init : Option Addr} {sl_Each_init : Array (Option Value)}
    {F_Each_copied : Addr} {oc_Each_copied kV_Each_copied dc_Each_copied pm_Each_copied cd_Each_copied ct_Each_copied : Value} {od_Each_copied an_Each_copied : Option Addr} {sl_Each_copied : Array (Option Value)}
    {F_Each_runs : Addr} {oc_Each_runs kV_Each_runs dc_Each_runs pm_Each_runs cd_Each_runs ct_Each_runs : Value} {od_Each_runs an_Each_runs : Option Addr} {sl_Each_runs : Array (Option Value)}
    {F_Each_words : Addr} {oc_Each_words kV_Each_words dc_Each_words pm_Each_words cd_Each_words ct_Each_words : Value} {od_Each_words an_Each_words : Option Addr} {sl_Each_words : Array (Option Value)}
    {F_Either_init : Addr} {oc_Either_init kV_Either_init dc_Either_init pm_Either_init cd_Either_init ct_Either_init : Value} {od_Either_init an_Either_init : Option Addr} {sl_Either_init : Array (Option Value)}
    {F_Either_copied : Addr} {oc_Either_copied kV_Either_copied dc_Either_copied pm_Either_copied cd_Either_copied ct_Either_copied : Value} {od_Either_copied an_Either_copied : Option Addr} {sl_Either_copied : Array (Option Value)}
    {F_Either_parts : Addr} {oc_Either_parts kV_Either_parts dc_Either_parts pm_Either_parts cd_Either_parts ct_Either_parts : Value} {od_Either_parts an_Either_parts : Option Addr} {sl_Either_parts : Array (Option Value)}
    {F_Either_runs : Addr} {oc_Either_runs kV_Either_runs dc_Either_runs pm_Either_runs cd_Either_runs ct_Either_runs : Value} {od_Either_runs an_Either_runs : Option Addr} {sl_Either_runs : Array (Option Value)}
    {F_Either_words : Addr} {oc_Either_words kV_Either_words dc_Either_words pm_Either_words cd_Either_words ct_Either_words : Value} {od_Either_words an_Either_words : Option Addr} {sl_Either_words : Array (Option Value)}
    {F_Both_init : Addr} {oc_Both_init kV_Both_init dc_Both_init pm_Both_init cd_Both_init ct_Both_init : Value} {od_Both_init an_Both_init : Option Addr} {sl_Both_init : Array (Option Value)}
    {F_Both_copied : Addr} {oc_Both_copied kV_Both_copied dc_Both_copied pm_Both_copied cd_Both_copied ct_Both_copied : Value} {od_Both_copied an_Both_copied : Option Addr} {sl_Both_copied : Array (Option Value)}
    {F_Both_parts : Addr} {oc_Both_parts kV_Both_parts dc_Both_parts pm_Both_parts cd_Both_parts ct_Both_parts : Value} {od_Both_parts an_Both_parts : Option Addr} {sl_Both_parts : Array (Option Value)}
    {F_Both_runs : Addr} {oc_Both_runs kV_Both_runs dc_Both_runs pm_Both_runs cd_Both_runs ct_Both_runs : Value} {od_Both_runs an_Both_runs : Option Addr} {sl_Both_runs : Array (Option Value)}
    {F_Both_words : Addr} {oc_Both_words kV_Both_words dc_Both_words pm_Both_words cd_Both_words ct_Both_words : Value} {od_Both_words an_Both_words : Option Addr} {sl_Both_words : Array (Option Value)}
    {F_But_init : Addr} {oc_But_init kV_But_init dc_But_init pm_But_init cd_But_init ct_But_init : Value} {od_But_init an_But_init : Option Addr} {sl_But_init : Array (Option Value)}
    {F_But_copied : Addr} {oc_But_copied kV_But_copied dc_But_copied pm_But_copied cd_But_copied ct_But_copied : Value} {od_But_copied an_But_copied : Option Addr} {sl_But_copied : Array (Option Value)}
    {F_But_parts : Addr} {oc_But_parts kV_But_parts dc_But_parts pm_But_parts cd_But_parts ct_But_parts : Value} {od_But_parts an_But_parts : Option Addr} {sl_But_parts : Array (Option Value)}
    {F_But_runs : Addr} {oc_But_runs kV_But_runs dc_But_runs pm_But_runs cd_But_runs ct_But_runs : Value} {od_But_runs an_But_runs : Option Addr} {sl_But_runs : Array (Option Value)}
    {F_But_words : Addr} {oc_But_words kV_But_words dc_But_words pm_But_words cd_But_words ct_But_words : Value} {od_But_words an_But_words : Option Addr} {sl_But_words : Array (Option Value)}
    {C_RoadError : Addr}
    {C_BadClock : Addr}
    {C_BadRule : Addr}
    {C_TooMany : Addr}
    {C_BadName : Addr}
    {C_Twice : Addr}
    {C_NoStop : Addr}
    {C_BadNumber : Addr}
    {C_BadCalls : Addr}
    {C_NoRun : Addr}
    {C_TooLate : Addr}
    {C_NoTraveller : Addr}
    {C_BadLine : Addr}
    {C_Rule : Addr}
    {C_Week : Addr}
    {C_Span : Addr}
    {C_Each : Addr}
    {C_Either : Addr}
    {C_Both : Addr}
    {C_But : Addr}
    {cd_BadClock : PySem.ClassData}
    {cd_BadRule : PySem.ClassData}
    {cd_BadNumber : PySem.ClassData}
    {t_LAST_DAY : Tok}
    {t_WEEK_DAYS : Tok}
    {t_ALL_WEEK : Tok}
    {t_MOST_LENGTH : Tok}
    {t_MOST_LISTED : Tok}
    {t_MOST_WEIGHT : Tok}
    {t_MOST_DEPTH : Tok}
    {t_MOST_LATER : Tok}
    (a_is_any_number : PySem.W.nsIn K mainGlobals "is_any_number" = some (some (.ref F_is_any_number)))
    (l_is_any_number : K.lookup F_is_any_number = some ⟨oc_is_any_number, od_is_any_number, .func (PySem.W.fnOf "is_any_number" "is_any_number" (defArgs s_is_any_number) (defBody s_is_any_number) (defScope s_is_any_number) .none kV_is_any_number dc_is_any_number pm_is_any_number an_is_any_number cd_is_any_number ct_is_any_number), sl_is_any_number⟩)
    (q_is_any_number : PySem.W.codeIn K cd_is_any_number "is_any_number" = true)
    (k_is_any_number : PySem.W.keepIn K (.ref F_is_any_number) = true)
    (a_is_number : PySem.W.nsIn K mainGlobals "is_number" = some (some (.ref F_is_number)))
    (l_is_number : K.lookup F_is_number = some ⟨oc_is_number, od_is_number, .func (PySem.W.fnOf "is_number" "is_number" (defArgs s_is_number) (defBody s_is_number) (defScope s_is_number) .none kV_is_number dc_is_number pm_is_number an_is_number cd_is_number ct_is_number), sl_is_number⟩)
    (q_is_number : PySem.W.codeIn K cd_is_number "is_number" = true)
    (k_is_number : PySem.W.keepIn K (.ref F_is_number) = true)
    (a_are_rising : PySem.W.nsIn K mainGlobals "are_rising" = some (some (.ref F_are_rising)))
    (l_are_rising : K.lookup F_are_rising = some ⟨oc_are_rising, od_are_rising, .func (PySem.W.fnOf "are_rising" "are_rising" (defArgs s_are_rising) (defBody s_are_rising) (defScope s_are_rising) .none kV_are_rising dc_are_rising pm_are_rising an_are_rising cd_are_rising ct_are_rising), sl_are_rising⟩)
    (q_are_rising : PySem.W.codeIn K cd_are_rising "are_rising" = true)
    (k_are_rising : PySem.W.keepIn K (.ref F_are_rising) = true)
    (a_copy_of : PySem.W.nsIn K mainGlobals "copy_of" = some (some (.ref F_copy_of)))
    (l_copy_of : K.lookup F_copy_of = some ⟨oc_copy_of, od_copy_of, .func (PySem.W.fnOf "copy_of" "copy_of" (defArgs s_copy_of) (defBody s_copy_of) (defScope s_copy_of) .none kV_copy_of dc_copy_of pm_copy_of an_copy_of cd_copy_of ct_copy_of), sl_copy_of⟩)
    (q_copy_of : PySem.W.codeIn K cd_copy_of "copy_of" = true)
    (k_copy_of : PySem.W.keepIn K (.ref F_copy_of) = true)
    (a_check_size : PySem.W.nsIn K mainGlobals "check_size" = some (some (.ref F_check_size)))
    (l_check_size : K.lookup F_check_size = some ⟨oc_check_size, od_check_size, .func (PySem.W.fnOf "check_size" "check_size" (defArgs s_check_size) (defBody s_check_size) (defScope s_check_size) .none kV_check_size dc_check_size pm_check_size an_check_size cd_check_size ct_check_size), sl_check_size⟩)
    (q_check_size : PySem.W.codeIn K cd_check_size "check_size" = true)
    (k_check_size : PySem.W.keepIn K (.ref F_check_size) = true)
    (a_list_text : PySem.W.nsIn K mainGlobals "list_text" = some (some (.ref F_list_text)))
    (l_list_text : K.lookup F_list_text = some ⟨oc_list_text, od_list_text, .func (PySem.W.fnOf "list_text" "list_text" (defArgs s_list_text) (defBody s_list_text) (defScope s_list_text) .none kV_list_text dc_list_text pm_list_text an_list_text cd_list_text ct_list_text), sl_list_text⟩)
    (q_list_text : PySem.W.codeIn K cd_list_text "list_text" = true)
    (k_list_text : PySem.W.keepIn K (.ref F_list_text) = true)
    (a_next_day : PySem.W.nsIn K mainGlobals "next_day" = some (some (.ref F_next_day)))
    (l_next_day : K.lookup F_next_day = some ⟨oc_next_day, od_next_day, .func (PySem.W.fnOf "next_day" "next_day" (defArgs s_next_day) (defBody s_next_day) (defScope s_next_day) (.ref D_next_day) kV_next_day dc_next_day pm_next_day an_next_day cd_next_day ct_next_day), sl_next_day⟩)
    (q_next_day : PySem.W.codeIn K cd_next_day "next_day" = true)
    (k_next_day : PySem.W.keepIn K (.ref F_next_day) = true)
    (t_next_day : K.lookup D_next_day = some ⟨ocD_next_day, odD_next_day, .seq (List.toArray [.int 400 td0_next_day]) n_next_day, slD_next_day⟩)
    (a_law_cell : PySem.W.nsIn K mainGlobals "_law_cell" = some (some (.ref F_law_cell)))
    (l_law_cell : K.lookup F_law_cell = some ⟨oc_law_cell, od_law_cell, .func (PySem.W.fnOf "_law_cell" "_law_cell" (defArgs s_law_cell) (defBody s_law_cell) (defScope s_law_cell) .none kV_law_cell dc_law_cell pm_law_cell an_law_cell cd_law_cell ct_law_cell), sl_law_cell⟩)
    (q_law_cell : PySem.W.codeIn K cd_law_cell "_law_cell" = true)
    (k_law_cell : PySem.W.keepIn K (.ref F_law_cell) = true)
    (a_law_draw : PySem.W.nsIn K mainGlobals "_law_draw" = some (some (.ref F_law_draw)))
    (l_law_draw : K.lookup F_law_draw = some ⟨oc_law_draw, od_law_draw, .func (PySem.W.fnOf "_law_draw" "_law_draw" (defArgs s_law_draw) (defBody s_law_draw) (defScope s_law_draw) .none kV_law_draw dc_law_draw pm_law_draw an_law_draw cd_law_draw ct_law_draw), sl_law_draw⟩)
    (q_law_draw : PySem.W.codeIn K cd_law_draw "_law_draw" = true)
    (k_law_draw : PySem.W.keepIn K (.ref F_law_draw) = true)
    (a_law_whole : PySem.W.nsIn K mainGlobals "_law_whole" = some (some (.ref F_law_whole)))
    (l_law_whole : K.lookup F_law_whole = some ⟨oc_law_whole, od_law_whole, .func (PySem.W.fnOf "_law_whole" "_law_whole" (defArgs s_law_whole) (defBody s_law_whole) (defScope s_law_whole) .none kV_law_whole dc_law_whole pm_law_whole an_law_whole cd_law_whole ct_law_whole), sl_law_whole⟩)
    (q_law_whole : PySem.W.codeIn K cd_law_whole "_law_whole" = true)
    (k_law_whole : PySem.W.keepIn K (.ref F_law_whole) = true)
    (a_law_rising : PySem.W.nsIn K mainGlobals "_law_rising" = some (some (.ref F_law_rising)))
    (l_law_rising : K.lookup F_law_rising = some ⟨oc_law_rising, od_law_rising, .func (PySem.W.fnOf "_law_rising" "_law_rising" (defArgs s_law_rising) (defBody s_law_rising) (defScope s_law_rising) .none kV_law_rising dc_law_rising pm_law_rising an_law_rising cd_law_rising ct_law_rising), sl_law_rising⟩)
    (q_law_rising : PySem.W.codeIn K cd_law_rising "_law_rising" = true)
    (k_law_rising : PySem.W.keepIn K (.ref F_law_rising) = true)
    (a_law_leaf : PySem.W.nsIn K mainGlobals "_law_leaf" = some (some (.ref F_law_leaf)))
    (l_law_leaf : K.lookup F_law_leaf = some ⟨oc_law_leaf, od_law_leaf, .func (PySem.W.fnOf "_law_leaf" "_law_leaf" (defArgs s_law_leaf) (defBody s_law_leaf) (defScope s_law_leaf) .none kV_law_leaf dc_law_leaf pm_law_leaf an_law_leaf cd_law_leaf ct_law_leaf), sl_law_leaf⟩)
    (q_law_leaf : PySem.W.codeIn K cd_law_leaf "_law_leaf" = true)
    (k_law_leaf : PySem.W.keepIn K (.ref F_law_leaf) = true)
    (a_law_tree : PySem.W.nsIn K mainGlobals "_law_tree" = some (some (.ref F_law_tree)))
    (l_law_tree : K.lookup F_law_tree = some ⟨oc_law_tree, od_law_tree, .func (PySem.W.fnOf "_law_tree" "_law_tree" (defArgs s_law_tree) (defBody s_law_tree) (defScope s_law_tree) .none kV_law_tree dc_law_tree pm_law_tree an_law_tree cd_law_tree ct_law_tree), sl_law_tree⟩)
    (q_law_tree : PySem.W.codeIn K cd_law_tree "_law_tree" = true)
    (k_law_tree : PySem.W.keepIn K (.ref F_law_tree) = true)
    (a_law_made : PySem.W.nsIn K mainGlobals "_law_made" = some (some (.ref F_law_made)))
    (l_law_made : K.lookup F_law_made = some ⟨oc_law_made, od_law_made, .func (PySem.W.fnOf "_law_made" "_law_made" (defArgs s_law_made) (defBody s_law_made) (defScope s_law_made) .none kV_law_made dc_law_made pm_law_made an_law_made cd_law_made ct_law_made), sl_law_made⟩)
    (q_law_made : PySem.W.codeIn K cd_law_made "_law_made" = true)
    (k_law_made : PySem.W.keepIn K (.ref F_law_made) = true)
    (a_law_runs : PySem.W.nsIn K mainGlobals "_law_runs" = some (some (.ref F_law_runs)))
    (l_law_runs : K.lookup F_law_runs = some ⟨oc_law_runs, od_law_runs, .func (PySem.W.fnOf "_law_runs" "_law_runs" (defArgs s_law_runs) (defBody s_law_runs) (defScope s_law_runs) .none kV_law_runs dc_law_runs pm_law_runs an_law_runs cd_law_runs ct_law_runs), sl_law_runs⟩)
    (q_law_runs : PySem.W.codeIn K cd_law_runs "_law_runs" = true)
    (k_law_runs : PySem.W.keepIn K (.ref F_law_runs) = true)
    (a_law_class : PySem.W.nsIn K mainGlobals "_law_class" = some (some (.ref F_law_class)))
    (l_law_class : K.lookup F_law_class = some ⟨oc_law_class, od_law_class, .func (PySem.W.fnOf "_law_class" "_law_class" (defArgs s_law_class) (defBody s_law_class) (defScope s_law_class) .none kV_law_class dc_law_class pm_law_class an_law_class cd_law_class ct_law_class), sl_law_class⟩)
    (q_law_class : PySem.W.codeIn K cd_law_class "_law_class" = true)
    (k_law_class : PySem.W.keepIn K (.ref F_law_class) = true)
    (a_law_due : PySem.W.nsIn K mainGlobals "_law_due" = some (some (.ref F_law_due)))
    (l_law_due : K.lookup F_law_due = some ⟨oc_law_due, od_law_due, .func (PySem.W.fnOf "_law_due" "_law_due" (defArgs s_law_due) (defBody s_law_due) (defScope s_law_due) .none kV_law_due dc_law_due pm_law_due an_law_due cd_law_due ct_law_due), sl_law_due⟩)
    (q_law_due : PySem.W.codeIn K cd_law_due "_law_due" = true)
    (k_law_due : PySem.W.keepIn K (.ref F_law_due) = true)
    (a_law_told : PySem.W.nsIn K mainGlobals "_law_told" = some (some (.ref F_law_told)))
    (l_law_told : K.lookup F_law_told = some ⟨oc_law_told, od_law_told, .func (PySem.W.fnOf "_law_told" "_law_told" (defArgs s_law_told) (defBody s_law_told) (defScope s_law_told) .none kV_law_told dc_law_told pm_law_told an_law_told cd_law_told ct_law_told), sl_law_told⟩)
    (q_law_told : PySem.W.codeIn K cd_law_told "_law_told" = true)
    (k_law_told : PySem.W.keepIn K (.ref F_law_told) = true)
    (a_law_same : PySem.W.nsIn K mainGlobals "_law_same" = some (some (.ref F_law_same)))
    (l_law_same : K.lookup F_law_same = some ⟨oc_law_same, od_law_same, .func (PySem.W.fnOf "_law_same" "_law_same" (defArgs s_law_same) (defBody s_law_same) (defScope s_law_same) .none kV_law_same dc_law_same pm_law_same an_law_same cd_law_same ct_law_same), sl_law_same⟩)
    (q_law_same : PySem.W.codeIn K cd_law_same "_law_same" = true)
    (k_law_same : PySem.W.keepIn K (.ref F_law_same) = true)
    (a_law : PySem.W.nsIn K mainGlobals "law" = some (some (.ref F_law)))
    (l_law : K.lookup F_law = some ⟨oc_law, od_law, .func (PySem.W.fnOf "law" "law" (defArgs s_law) (defBody s_law) (defScope s_law) .none kV_law dc_law pm_law an_law cd_law ct_law), sl_law⟩)
    (q_law : PySem.W.codeIn K cd_law "law" = true)
    (k_law : PySem.W.keepIn K (.ref F_law) = true)
    (a_RoadError : PySem.W.nsIn K mainGlobals "RoadError" = some (some (.ref C_RoadError)))
    (a_BadClock : PySem.W.nsIn K mainGlobals "BadClock" = some (some (.ref C_BadClock)))
    (a_BadRule : PySem.W.nsIn K mainGlobals "BadRule" = some (some (.ref C_BadRule)))
    (a_TooMany : PySem.W.nsIn K mainGlobals "TooMany" = some (some (.ref C_TooMany)))
    (a_BadName : PySem.W.nsIn K mainGlobals "BadName" = some (some (.ref C_BadName)))
    (a_Twice : PySem.W.nsIn K mainGlobals "Twice" = some (some (.ref C_Twice)))
    (a_NoStop : PySem.W.nsIn K mainGlobals "NoStop" = some (some (.ref C_NoStop)))
    (a_BadNumber : PySem.W.nsIn K mainGlobals "BadNumber" = some (some (.ref C_BadNumber)))
    (a_BadCalls : PySem.W.nsIn K mainGlobals "BadCalls" = some (some (.ref C_BadCalls)))
    (a_NoRun : PySem.W.nsIn K mainGlobals "NoRun" = some (some (.ref C_NoRun)))
    (a_TooLate : PySem.W.nsIn K mainGlobals "TooLate" = some (some (.ref C_TooLate)))
    (a_NoTraveller : PySem.W.nsIn K mainGlobals "NoTraveller" = some (some (.ref C_NoTraveller)))
    (a_BadLine : PySem.W.nsIn K mainGlobals "BadLine" = some (some (.ref C_BadLine)))
    (a_Rule : PySem.W.nsIn K mainGlobals "Rule" = some (some (.ref C_Rule)))
    (a_Week : PySem.W.nsIn K mainGlobals "Week" = some (some (.ref C_Week)))
    (a_Span : PySem.W.nsIn K mainGlobals "Span" = some (some (.ref C_Span)))
    (a_Each : PySem.W.nsIn K mainGlobals "Each" = some (some (.ref C_Each)))
    (a_Either : PySem.W.nsIn K mainGlobals "Either" = some (some (.ref C_Either)))
    (a_Both : PySem.W.nsIn K mainGlobals "Both" = some (some (.ref C_Both)))
    (a_But : PySem.W.nsIn K mainGlobals "But" = some (some (.ref C_But)))
    (fi_Rule_copied : PySem.W.findIn K (.ref C_Rule) "copied" = some (some (.ref F_Rule_copied)))
    (is_Rule_copied : PySem.W.isFn K (.ref F_Rule_copied) = true)
    (l_Rule_copied : K.lookup F_Rule_copied = some ⟨oc_Rule_copied, od_Rule_copied, .func (PySem.W.fnOf "copied" "Rule.copied" (defArgs s_Rule_copied) (defBody s_Rule_copied) (defScope s_Rule_copied) .none kV_Rule_copied dc_Rule_copied pm_Rule_copied an_Rule_copied cd_Rule_copied ct_Rule_copied), sl_Rule_copied⟩)
    (q_Rule_copied : PySem.W.codeIn K cd_Rule_copied "Rule.copied" = true)
    (k_Rule_copied : PySem.W.keepIn K (.ref F_Rule_copied) = true)
    (fi_Rule_parts : PySem.W.findIn K (.ref C_Rule) "parts" = some (some (.ref F_Rule_parts)))
    (is_Rule_parts : PySem.W.isFn K (.ref F_Rule_parts) = true)
    (l_Rule_parts : K.lookup F_Rule_parts = some ⟨oc_Rule_parts, od_Rule_parts, .func (PySem.W.fnOf "parts" "Rule.parts" (defArgs s_Rule_parts) (defBody s_Rule_parts) (defScope s_Rule_parts) .none kV_Rule_parts dc_Rule_parts pm_Rule_parts an_Rule_parts cd_Rule_parts ct_Rule_parts), sl_Rule_parts⟩)
    (q_Rule_parts : PySem.W.codeIn K cd_Rule_parts "Rule.parts" = true)
    (k_Rule_parts : PySem.W.keepIn K (.ref F_Rule_parts) = true)
    (fi_Rule_runs : PySem.W.findIn K (.ref C_Rule) "runs" = some (some (.ref F_Rule_runs)))
    (is_Rule_runs : PySem.W.isFn K (.ref F_Rule_runs) = true)
    (l_Rule_runs : K.lookup F_Rule_runs = some ⟨oc_Rule_runs, od_Rule_runs, .func (PySem.W.fnOf "runs" "Rule.runs" (defArgs s_Rule_runs) (defBody s_Rule_runs) (defScope s_Rule_runs) .none kV_Rule_runs dc_Rule_runs pm_Rule_runs an_Rule_runs cd_Rule_runs ct_Rule_runs), sl_Rule_runs⟩)
    (q_Rule_runs : PySem.W.codeIn K cd_Rule_runs "Rule.runs" = true)
    (k_Rule_runs : PySem.W.keepIn K (.ref F_Rule_runs) = true)
    (fi_Rule_words : PySem.W.findIn K (.ref C_Rule) "words" = some (some (.ref F_Rule_words)))
    (is_Rule_words : PySem.W.isFn K (.ref F_Rule_words) = true)
    (l_Rule_words : K.lookup F_Rule_words = some ⟨oc_Rule_words, od_Rule_words, .func (PySem.W.fnOf "words" "Rule.words" (defArgs s_Rule_words) (defBody s_Rule_words) (defScope s_Rule_words) .none kV_Rule_words dc_Rule_words pm_Rule_words an_Rule_words cd_Rule_words ct_Rule_words), sl_Rule_words⟩)
    (q_Rule_words : PySem.W.codeIn K cd_Rule_words "Rule.words" = true)
    (k_Rule_words : PySem.W.keepIn K (.ref F_Rule_words) = true)
    (fi_Rule_weight : PySem.W.findIn K (.ref C_Rule) "weight" = some (some (.ref F_Rule_weight)))
    (is_Rule_weight : PySem.W.isFn K (.ref F_Rule_weight) = true)
    (l_Rule_weight : K.lookup F_Rule_weight = some ⟨oc_Rule_weight, od_Rule_weight, .func (PySem.W.fnOf "weight" "Rule.weight" (defArgs s_Rule_weight) (defBody s_Rule_weight) (defScope s_Rule_weight) .none kV_Rule_weight dc_Rule_weight pm_Rule_weight an_Rule_weight cd_Rule_weight ct_Rule_weight), sl_Rule_weight⟩)
    (q_Rule_weight : PySem.W.codeIn K cd_Rule_weight "Rule.weight" = true)
    (k_Rule_weight : PySem.W.keepIn K (.ref F_Rule_weight) = true)
    (fi_Rule_depth : PySem.W.findIn K (.ref C_Rule) "depth" = some (some (.ref F_Rule_depth)))
    (is_Rule_depth : PySem.W.isFn K (.ref F_Rule_depth) = true)
    (l_Rule_depth : K.lookup F_Rule_depth = some ⟨oc_Rule_depth, od_Rule_depth, .func (PySem.W.fnOf "depth" "Rule.depth" (defArgs s_Rule_depth) (defBody s_Rule_depth) (defScope s_Rule_depth) .none kV_Rule_depth dc_Rule_depth pm_Rule_depth an_Rule_depth cd_Rule_depth ct_Rule_depth), sl_Rule_depth⟩)
    (q_Rule_depth : PySem.W.codeIn K cd_Rule_depth "Rule.depth" = true)
    (k_Rule_depth : PySem.W.keepIn K (.ref F_Rule_depth) = true)
    (fi_Week_init : PySem.W.findIn K (.ref C_Week) "__init__" = some (some (.ref F_Week_init)))
    (is_Week_init : PySem.W.isFn K (.ref F_Week_init) = true)
    (l_Week_init : K.lookup F_Week_init = some ⟨oc_Week_init, od_Week_init, .func (PySem.W.fnOf "__init__" "Week.__init__" (defArgs s_Week_init) (defBody s_Week_init) (defScope s_Week_init) .none kV_Week_init dc_Week_init pm_Week_init an_Week_init cd_Week_init ct_Week_init), sl_Week_init⟩)
    (q_Week_init : PySem.W.codeIn K cd_Week_init "Week.__init__" = true)
    (k_Week_init : PySem.W.keepIn K (.ref F_Week_init) = true)
    (fi_Week_copied : PySem.W.findIn K (.ref C_Week) "copied" = some (some (.ref F_Week_copied)))
    (is_Week_copied : PySem.W.isFn K (.ref F_Week_copied) = true)
    (l_Week_copied : K.lookup F_Week_copied = some ⟨oc_Week_copied, od_Week_copied, .func (PySem.W.fnOf "copied" "Week.copied" (defArgs s_Week_copied) (defBody s_Week_copied) (defScope s_Week_copied) .none kV_Week_copied dc_Week_copied pm_Week_copied an_Week_copied cd_Week_copied ct_Week_copied), sl_Week_copied⟩)
    (q_Week_copied : PySem.W.codeIn K cd_Week_copied "Week.copied" = true)
    (k_Week_copied : PySem.W.keepIn K (.ref F_Week_copied) = true)
    (fi_Week_runs : PySem.W.findIn K (.ref C_Week) "runs" = some (some (.ref F_Week_runs)))
    (is_Week_runs : PySem.W.isFn K (.ref F_Week_runs) = true)
    (l_Week_runs : K.lookup F_Week_runs = some ⟨oc_Week_runs, od_Week_runs, .func (PySem.W.fnOf "runs" "Week.runs" (defArgs s_Week_runs) (defBody s_Week_runs) (defScope s_Week_runs) .none kV_Week_runs dc_Week_runs pm_Week_runs an_Week_runs cd_Week_runs ct_Week_runs), sl_Week_runs⟩)
    (q_Week_runs : PySem.W.codeIn K cd_Week_runs "Week.runs" = true)
    (k_Week_runs : PySem.W.keepIn K (.ref F_Week_runs) = true)
    (fi_Week_words : PySem.W.findIn K (.ref C_Week) "words" = some (some (.ref F_Week_words)))
    (is_Week_words : PySem.W.isFn K (.ref F_Week_words) = true)
    (l_Week_words : K.lookup F_Week_words = some ⟨oc_Week_words, od_Week_words, .func (PySem.W.fnOf "words" "Week.words" (defArgs s_Week_words) (defBody s_Week_words) (defScope s_Week_words) .none kV_Week_words dc_Week_words pm_Week_words an_Week_words cd_Week_words ct_Week_words), sl_Week_words⟩)
    (q_Week_words : PySem.W.codeIn K cd_Week_words "Week.words" = true)
    (k_Week_words : PySem.W.keepIn K (.ref F_Week_words) = true)
    (fi_Span_init : PySem.W.findIn K (.ref C_Span) "__init__" = some (some (.ref F_Span_init)))
    (is_Span_init : PySem.W.isFn K (.ref F_Span_init) = true)
    (l_Span_init : K.lookup F_Span_init = some ⟨oc_Span_init, od_Span_init, .func (PySem.W.fnOf "__init__" "Span.__init__" (defArgs s_Span_init) (defBody s_Span_init) (defScope s_Span_init) .none kV_Span_init dc_Span_init pm_Span_init an_Span_init cd_Span_init ct_Span_init), sl_Span_init⟩)
    (q_Span_init : PySem.W.codeIn K cd_Span_init "Span.__init__" = true)
    (k_Span_init : PySem.W.keepIn K (.ref F_Span_init) = true)
    (fi_Span_copied : PySem.W.findIn K (.ref C_Span) "copied" = some (some (.ref F_Span_copied)))
    (is_Span_copied : PySem.W.isFn K (.ref F_Span_copied) = true)
    (l_Span_copied : K.lookup F_Span_copied = some ⟨oc_Span_copied, od_Span_copied, .func (PySem.W.fnOf "copied" "Span.copied" (defArgs s_Span_copied) (defBody s_Span_copied) (defScope s_Span_copied) .none kV_Span_copied dc_Span_copied pm_Span_copied an_Span_copied cd_Span_copied ct_Span_copied), sl_Span_copied⟩)
    (q_Span_copied : PySem.W.codeIn K cd_Span_copied "Span.copied" = true)
    (k_Span_copied : PySem.W.keepIn K (.ref F_Span_copied) = true)
    (fi_Span_parts : PySem.W.findIn K (.ref C_Span) "parts" = some (some (.ref F_Span_parts)))
    (is_Span_parts : PySem.W.isFn K (.ref F_Span_parts) = true)
    (l_Span_parts : K.lookup F_Span_parts = some ⟨oc_Span_parts, od_Span_parts, .func (PySem.W.fnOf "parts" "Span.parts" (defArgs s_Span_parts) (defBody s_Span_parts) (defScope s_Span_parts) .none kV_Span_parts dc_Span_parts pm_Span_parts an_Span_parts cd_Span_parts ct_Span_parts), sl_Span_parts⟩)
    (q_Span_parts : PySem.W.codeIn K cd_Span_parts "Span.parts" = true)
    (k_Span_parts : PySem.W.keepIn K (.ref F_Span_parts) = true)
    (fi_Span_runs : PySem.W.findIn K (.ref C_Span) "runs" = some (some (.ref F_Span_runs)))
    (is_Span_runs : PySem.W.isFn K (.ref F_Span_runs) = true)
    (l_Span_runs : K.lookup F_Span_runs = some ⟨oc_Span_runs, od_Span_runs, .func (PySem.W.fnOf "runs" "Span.runs" (defArgs s_Span_runs) (defBody s_Span_runs) (defScope s_Span_runs) .none kV_Span_runs dc_Span_runs pm_Span_runs an_Span_runs cd_Span_runs ct_Span_runs), sl_Span_runs⟩)
    (q_Span_runs : PySem.W.codeIn K cd_Span_runs "Span.runs" = true)
    (k_Span_runs : PySem.W.keepIn K (.ref F_Span_runs) = true)
    (fi_Span_words : PySem.W.findIn K (.ref C_Span) "words" = some (some (.ref F_Span_words)))
    (is_Span_words : PySem.W.isFn K (.ref F_Span_words) = true)
    (l_Span_words : K.lookup F_Span_words = some ⟨oc_Span_words, od_Span_words, .func (PySem.W.fnOf "words" "Span.words" (defArgs s_Span_words) (defBody s_Span_words) (defScope s_Span_words) .none kV_Span_words dc_Span_words pm_Span_words an_Span_words cd_Span_words ct_Span_words), sl_Span_words⟩)
    (q_Span_words : PySem.W.codeIn K cd_Span_words "Span.words" = true)
    (k_Span_words : PySem.W.keepIn K (.ref F_Span_words) = true)
    (fi_Each_init : PySem.W.findIn K (.ref C_Each) "__init__" = some (some (.ref F_Each_init)))
    (is_Each_init : PySem.W.isFn K (.ref F_Each_init) = true)
    (l_Each_init : K.lookup F_Each_init = some ⟨oc_Each_init, od_Each_init, .func (PySem.W.fnOf "__init__" "Each.__init__" (defArgs s_Each_init) (defBody s_Each_init) (defScope s_Each_init) .none kV_Each_init dc_Each_init pm_Each_init an_Each_init cd_Each_init ct_Each_init), sl_Each_init⟩)
    (q_Each_init : PySem.W.codeIn K cd_Each_init "Each.__init__" = true)
    (k_Each_init : PySem.W.keepIn K (.ref F_Each_init) = true)
    (fi_Each_copied : PySem.W.findIn K (.ref C_Each) "copied" = some (some (.ref F_Each_copied)))
    (is_Each_copied : PySem.W.isFn K (.ref F_Each_copied) = true)
    (l_Each_copied : K.lookup F_Each_copied = some ⟨oc_Each_copied, od_Each_copied, .func (PySem.W.fnOf "copied" "Each.copied" (defArgs s_Each_copied) (defBody s_Each_copied) (defScope s_Each_copied) .none kV_Each_copied dc_Each_copied pm_Each_copied an_Each_copied cd_Each_copied ct_Each_copied), sl_Each_copied⟩)
    (q_Each_copied : PySem.W.codeIn K cd_Each_copied "Each.copied" = true)
    (k_Each_copied : PySem.W.keepIn K (.ref F_Each_copied) = true)
    (fi_Each_runs : PySem.W.findIn K (.ref C_Each) "runs" = some (some (.ref F_Each_runs)))
    (is_Each_runs : PySem.W.isFn K (.ref F_Each_runs) = true)
    (l_Each_runs : K.lookup F_Each_runs = some ⟨oc_Each_runs, od_Each_runs, .func (PySem.W.fnOf "runs" "Each.runs" (defArgs s_Each_runs) (defBody s_Each_runs) (defScope s_Each_runs) .none kV_Each_runs dc_Each_runs pm_Each_runs an_Each_runs cd_Each_runs ct_Each_runs), sl_Each_runs⟩)
    (q_Each_runs : PySem.W.codeIn K cd_Each_runs "Each.runs" = true)
    (k_Each_runs : PySem.W.keepIn K (.ref F_Each_runs) = true)
    (fi_Each_words : PySem.W.findIn K (.ref C_Each) "words" = some (some (.ref F_Each_words)))
    (is_Each_words : PySem.W.isFn K (.ref F_Each_words) = true)
    (l_Each_words : K.lookup F_Each_words = some ⟨oc_Each_words, od_Each_words, .func (PySem.W.fnOf "words" "Each.words" (defArgs s_Each_words) (defBody s_Each_words) (defScope s_Each_words) .none kV_Each_words dc_Each_words pm_Each_words an_Each_words cd_Each_words ct_Each_words), sl_Each_words⟩)
    (q_Each_words : PySem.W.codeIn K cd_Each_words "Each.words" = true)
    (k_Each_words : PySem.W.keepIn K (.ref F_Each_words) = true)
    (fi_Either_init : PySem.W.findIn K (.ref C_Either) "__init__" = some (some (.ref F_Either_init)))
    (is_Either_init : PySem.W.isFn K (.ref F_Either_init) = true)
    (l_Either_init : K.lookup F_Either_init = some ⟨oc_Either_init, od_Either_init, .func (PySem.W.fnOf "__init__" "Either.__init__" (defArgs s_Either_init) (defBody s_Either_init) (defScope s_Either_init) .none kV_Either_init dc_Either_init pm_Either_init an_Either_init cd_Either_init ct_Either_init), sl_Either_init⟩)
    (q_Either_init : PySem.W.codeIn K cd_Either_init "Either.__init__" = true)
    (k_Either_init : PySem.W.keepIn K (.ref F_Either_init) = true)
    (fi_Either_copied : PySem.W.findIn K (.ref C_Either) "copied" = some (some (.ref F_Either_copied)))
    (is_Either_copied : PySem.W.isFn K (.ref F_Either_copied) = true)
    (l_Either_copied : K.lookup F_Either_copied = some ⟨oc_Either_copied, od_Either_copied, .func (PySem.W.fnOf "copied" "Either.copied" (defArgs s_Either_copied) (defBody s_Either_copied) (defScope s_Either_copied) .none kV_Either_copied dc_Either_copied pm_Either_copied an_Either_copied cd_Either_copied ct_Either_copied), sl_Either_copied⟩)
    (q_Either_copied : PySem.W.codeIn K cd_Either_copied "Either.copied" = true)
    (k_Either_copied : PySem.W.keepIn K (.ref F_Either_copied) = true)
    (fi_Either_parts : PySem.W.findIn K (.ref C_Either) "parts" = some (some (.ref F_Either_parts)))
    (is_Either_parts : PySem.W.isFn K (.ref F_Either_parts) = true)
    (l_Either_parts : K.lookup F_Either_parts = some ⟨oc_Either_parts, od_Either_parts, .func (PySem.W.fnOf "parts" "Either.parts" (defArgs s_Either_parts) (defBody s_Either_parts) (defScope s_Either_parts) .none kV_Either_parts dc_Either_parts pm_Either_parts an_Either_parts cd_Either_parts ct_Either_parts), sl_Either_parts⟩)
    (q_Either_parts : PySem.W.codeIn K cd_Either_parts "Either.parts" = true)
    (k_Either_parts : PySem.W.keepIn K (.ref F_Either_parts) = true)
    (fi_Either_runs : PySem.W.findIn K (.ref C_Either) "runs" = some (some (.ref F_Either_runs)))
    (is_Either_runs : PySem.W.isFn K (.ref F_Either_runs) = true)
    (l_Either_runs : K.lookup F_Either_runs = some ⟨oc_Either_runs, od_Either_runs, .func (PySem.W.fnOf "runs" "Either.runs" (defArgs s_Either_runs) (defBody s_Either_runs) (defScope s_Either_runs) .none kV_Either_runs dc_Either_runs pm_Either_runs an_Either_runs cd_Either_runs ct_Either_runs), sl_Either_runs⟩)
    (q_Either_runs : PySem.W.codeIn K cd_Either_runs "Either.runs" = true)
    (k_Either_runs : PySem.W.keepIn K (.ref F_Either_runs) = true)
    (fi_Either_words : PySem.W.findIn K (.ref C_Either) "words" = some (some (.ref F_Either_words)))
    (is_Either_words : PySem.W.isFn K (.ref F_Either_words) = true)
    (l_Either_words : K.lookup F_Either_words = some ⟨oc_Either_words, od_Either_words, .func (PySem.W.fnOf "words" "Either.words" (defArgs s_Either_words) (defBody s_Either_words) (defScope s_Either_words) .none kV_Either_words dc_Either_words pm_Either_words an_Either_words cd_Either_words ct_Either_words), sl_Either_words⟩)
    (q_Either_words : PySem.W.codeIn K cd_Either_words "Either.words" = true)
    (k_Either_words : PySem.W.keepIn K (.ref F_Either_words) = true)
    (fi_Both_init : PySem.W.findIn K (.ref C_Both) "__init__" = some (some (.ref F_Both_init)))
    (is_Both_init : PySem.W.isFn K (.ref F_Both_init) = true)
    (l_Both_init : K.lookup F_Both_init = some ⟨oc_Both_init, od_Both_init, .func (PySem.W.fnOf "__init__" "Both.__init__" (defArgs s_Both_init) (defBody s_Both_init) (defScope s_Both_init) .none kV_Both_init dc_Both_init pm_Both_init an_Both_init cd_Both_init ct_Both_init), sl_Both_init⟩)
    (q_Both_init : PySem.W.codeIn K cd_Both_init "Both.__init__" = true)
    (k_Both_init : PySem.W.keepIn K (.ref F_Both_init) = true)
    (fi_Both_copied : PySem.W.findIn K (.ref C_Both) "copied" = some (some (.ref F_Both_copied)))
    (is_Both_copied : PySem.W.isFn K (.ref F_Both_copied) = true)
    (l_Both_copied : K.lookup F_Both_copied = some ⟨oc_Both_copied, od_Both_copied, .func (PySem.W.fnOf "copied" "Both.copied" (defArgs s_Both_copied) (defBody s_Both_copied) (defScope s_Both_copied) .none kV_Both_copied dc_Both_copied pm_Both_copied an_Both_copied cd_Both_copied ct_Both_copied), sl_Both_copied⟩)
    (q_Both_copied : PySem.W.codeIn K cd_Both_copied "Both.copied" = true)
    (k_Both_copied : PySem.W.keepIn K (.ref F_Both_copied) = true)
    (fi_Both_parts : PySem.W.findIn K (.ref C_Both) "parts" = some (some (.ref F_Both_parts)))
    (is_Both_parts : PySem.W.isFn K (.ref F_Both_parts) = true)
    (l_Both_parts : K.lookup F_Both_parts = some ⟨oc_Both_parts, od_Both_parts, .func (PySem.W.fnOf "parts" "Both.parts" (defArgs s_Both_parts) (defBody s_Both_parts) (defScope s_Both_parts) .none kV_Both_parts dc_Both_parts pm_Both_parts an_Both_parts cd_Both_parts ct_Both_parts), sl_Both_parts⟩)
    (q_Both_parts : PySem.W.codeIn K cd_Both_parts "Both.parts" = true)
    (k_Both_parts : PySem.W.keepIn K (.ref F_Both_parts) = true)
    (fi_Both_runs : PySem.W.findIn K (.ref C_Both) "runs" = some (some (.ref F_Both_runs)))
    (is_Both_runs : PySem.W.isFn K (.ref F_Both_runs) = true)
    (l_Both_runs : K.lookup F_Both_runs = some ⟨oc_Both_runs, od_Both_runs, .func (PySem.W.fnOf "runs" "Both.runs" (defArgs s_Both_runs) (defBody s_Both_runs) (defScope s_Both_runs) .none kV_Both_runs dc_Both_runs pm_Both_runs an_Both_runs cd_Both_runs ct_Both_runs), sl_Both_runs⟩)
    (q_Both_runs : PySem.W.codeIn K cd_Both_runs "Both.runs" = true)
    (k_Both_runs : PySem.W.keepIn K (.ref F_Both_runs) = true)
    (fi_Both_words : PySem.W.findIn K (.ref C_Both) "words" = some (some (.ref F_Both_words)))
    (is_Both_words : PySem.W.isFn K (.ref F_Both_words) = true)
    (l_Both_words : K.lookup F_Both_words = some ⟨oc_Both_words, od_Both_words, .func (PySem.W.fnOf "words" "Both.words" (defArgs s_Both_words) (defBody s_Both_words) (defScope s_Both_words) .none kV_Both_words dc_Both_words pm_Both_words an_Both_words cd_Both_words ct_Both_words), sl_Both_words⟩)
    (q_Both_words : PySem.W.codeIn K cd_Both_words "Both.words" = true)
    (k_Both_words : PySem.W.keepIn K (.ref F_Both_words) = true)
    (fi_But_init : PySem.W.findIn K (.ref C_But) "__init__" = some (some (.ref F_But_init)))
    (is_But_init : PySem.W.isFn K (.ref F_But_init) = true)
    (l_But_init : K.lookup F_But_init = some ⟨oc_But_init, od_But_init, .func (PySem.W.fnOf "__init__" "But.__init__" (defArgs s_But_init) (defBody s_But_init) (defScope s_But_init) .none kV_But_init dc_But_init pm_But_init an_But_init cd_But_init ct_But_init), sl_But_init⟩)
    (q_But_init : PySem.W.codeIn K cd_But_init "But.__init__" = true)
    (k_But_init : PySem.W.keepIn K (.ref F_But_init) = true)
    (fi_But_copied : PySem.W.findIn K (.ref C_But) "copied" = some (some (.ref F_But_copied)))
    (is_But_copied : PySem.W.isFn K (.ref F_But_copied) = true)
    (l_But_copied : K.lookup F_But_copied = some ⟨oc_But_copied, od_But_copied, .func (PySem.W.fnOf "copied" "But.copied" (defArgs s_But_copied) (defBody s_But_copied) (defScope s_But_copied) .none kV_But_copied dc_But_copied pm_But_copied an_But_copied cd_But_copied ct_But_copied), sl_But_copied⟩)
    (q_But_copied : PySem.W.codeIn K cd_But_copied "But.copied" = true)
    (k_But_copied : PySem.W.keepIn K (.ref F_But_copied) = true)
    (fi_But_parts : PySem.W.findIn K (.ref C_But) "parts" = some (some (.ref F_But_parts)))
    (is_But_parts : PySem.W.isFn K (.ref F_But_parts) = true)
    (l_But_parts : K.lookup F_But_parts = some ⟨oc_But_parts, od_But_parts, .func (PySem.W.fnOf "parts" "But.parts" (defArgs s_But_parts) (defBody s_But_parts) (defScope s_But_parts) .none kV_But_parts dc_But_parts pm_But_parts an_But_parts cd_But_parts ct_But_parts), sl_But_parts⟩)
    (q_But_parts : PySem.W.codeIn K cd_But_parts "But.parts" = true)
    (k_But_parts : PySem.W.keepIn K (.ref F_But_parts) = true)
    (fi_But_runs : PySem.W.findIn K (.ref C_But) "runs" = some (some (.ref F_But_runs)))
    (is_But_runs : PySem.W.isFn K (.ref F_But_runs) = true)
    (l_But_runs : K.lookup F_But_runs = some ⟨oc_But_runs, od_But_runs, .func (PySem.W.fnOf "runs" "But.runs" (defArgs s_But_runs) (defBody s_But_runs) (defScope s_But_runs) .none kV_But_runs dc_But_runs pm_But_runs an_But_runs cd_But_runs ct_But_runs), sl_But_runs⟩)
    (q_But_runs : PySem.W.codeIn K cd_But_runs "But.runs" = true)
    (k_But_runs : PySem.W.keepIn K (.ref F_But_runs) = true)
    (fi_But_words : PySem.W.findIn K (.ref C_But) "words" = some (some (.ref F_But_words)))
    (is_But_words : PySem.W.isFn K (.ref F_But_words) = true)
    (l_But_words : K.lookup F_But_words = some ⟨oc_But_words, od_But_words, .func (PySem.W.fnOf "words" "But.words" (defArgs s_But_words) (defBody s_But_words) (defScope s_But_words) .none kV_But_words dc_But_words pm_But_words an_But_words cd_But_words ct_But_words), sl_But_words⟩)
    (q_But_words : PySem.W.codeIn K cd_But_words "But.words" = true)
    (k_But_words : PySem.W.keepIn K (.ref F_But_words) = true)
    (pg_Rule : PySem.W.plainGet K C_Rule Str.empty = true)
    (hd_Rule : PySem.W.hasDictIn K C_Rule = true)
    (po_Rule : PySem.W.plainOver K C_Rule = true)
    (sa_Rule : PySem.W.findIn K (.ref C_Rule) "__setattr__" = some (some (.builtin "object.__setattr__")))
    (mk_Rule : PySem.W.makesIn K C_Rule = true)
    (kc_Rule : PySem.W.keepIn K (.ref C_Rule) = true)
    (in_Rule : PySem.W.findIn K (.ref C_Rule) "__init__" = some (some (.builtin "object.__init__")))
    (na_Rule_bits : PySem.W.findIn K (.ref C_Rule) "bits" = some none)
    (na_Rule_first : PySem.W.findIn K (.ref C_Rule) "first" = some none)
    (na_Rule_last : PySem.W.findIn K (.ref C_Rule) "last" = some none)
    (na_Rule_inner : PySem.W.findIn K (.ref C_Rule) "inner" = some none)
    (na_Rule_length : PySem.W.findIn K (.ref C_Rule) "length" = some none)
    (na_Rule_starts : PySem.W.findIn K (.ref C_Rule) "starts" = some none)
    (na_Rule_one : PySem.W.findIn K (.ref C_Rule) "one" = some none)
    (na_Rule_other : PySem.W.findIn K (.ref C_Rule) "other" = some none)
    (na_Rule_days : PySem.W.findIn K (.ref C_Rule) "days" = some none)
    (pg_Week : PySem.W.plainGet K C_Week Str.empty = true)
    (hd_Week : PySem.W.hasDictIn K C_Week = true)
    (po_Week : PySem.W.plainOver K C_Week = true)
    (sa_Week : PySem.W.findIn K (.ref C_Week) "__setattr__" = some (some (.builtin "object.__setattr__")))
    (mk_Week : PySem.W.makesIn K C_Week = true)
    (kc_Week : PySem.W.keepIn K (.ref C_Week) = true)
    (me_Week_depth : PySem.W.findIn K (.ref C_Week) "depth" = some (some (.ref F_Rule_depth)))
    (me_Week_parts : PySem.W.findIn K (.ref C_Week) "parts" = some (some (.ref F_Rule_parts)))
    (me_Week_weight : PySem.W.findIn K (.ref C_Week) "weight" = some (some (.ref F_Rule_weight)))
    (na_Week_bits : PySem.W.findIn K (.ref C_Week) "bits" = some none)
    (na_Week_first : PySem.W.findIn K (.ref C_Week) "first" = some none)
    (na_Week_last : PySem.W.findIn K (.ref C_Week) "last" = some none)
    (na_Week_inner : PySem.W.findIn K (.ref C_Week) "inner" = some none)
    (na_Week_length : PySem.W.findIn K (.ref C_Week) "length" = some none)
    (na_Week_starts : PySem.W.findIn K (.ref C_Week) "starts" = some none)
    (na_Week_one : PySem.W.findIn K (.ref C_Week) "one" = some none)
    (na_Week_other : PySem.W.findIn K (.ref C_Week) "other" = some none)
    (na_Week_days : PySem.W.findIn K (.ref C_Week) "days" = some none)
    (pg_Span : PySem.W.plainGet K C_Span Str.empty = true)
    (hd_Span : PySem.W.hasDictIn K C_Span = true)
    (po_Span : PySem.W.plainOver K C_Span = true)
    (sa_Span : PySem.W.findIn K (.ref C_Span) "__setattr__" = some (some (.builtin "object.__setattr__")))
    (mk_Span : PySem.W.makesIn K C_Span = true)
    (kc_Span : PySem.W.keepIn K (.ref C_Span) = true)
    (me_Span_depth : PySem.W.findIn K (.ref C_Span) "depth" = some (some (.ref F_Rule_depth)))
    (me_Span_weight : PySem.W.findIn K (.ref C_Span) "weight" = some (some (.ref F_Rule_weight)))
    (na_Span_bits : PySem.W.findIn K (.ref C_Span) "bits" = some none)
    (na_Span_first : PySem.W.findIn K (.ref C_Span) "first" = some none)
    (na_Span_last : PySem.W.findIn K (.ref C_Span) "last" = some none)
    (na_Span_inner : PySem.W.findIn K (.ref C_Span) "inner" = some none)
    (na_Span_length : PySem.W.findIn K (.ref C_Span) "length" = some none)
    (na_Span_starts : PySem.W.findIn K (.ref C_Span) "starts" = some none)
    (na_Span_one : PySem.W.findIn K (.ref C_Span) "one" = some none)
    (na_Span_other : PySem.W.findIn K (.ref C_Span) "other" = some none)
    (na_Span_days : PySem.W.findIn K (.ref C_Span) "days" = some none)
    (pg_Each : PySem.W.plainGet K C_Each Str.empty = true)
    (hd_Each : PySem.W.hasDictIn K C_Each = true)
    (po_Each : PySem.W.plainOver K C_Each = true)
    (sa_Each : PySem.W.findIn K (.ref C_Each) "__setattr__" = some (some (.builtin "object.__setattr__")))
    (mk_Each : PySem.W.makesIn K C_Each = true)
    (kc_Each : PySem.W.keepIn K (.ref C_Each) = true)
    (me_Each_depth : PySem.W.findIn K (.ref C_Each) "depth" = some (some (.ref F_Rule_depth)))
    (me_Each_parts : PySem.W.findIn K (.ref C_Each) "parts" = some (some (.ref F_Rule_parts)))
    (me_Each_weight : PySem.W.findIn K (.ref C_Each) "weight" = some (some (.ref F_Rule_weight)))
    (na_Each_bits : PySem.W.findIn K (.ref C_Each) "bits" = some none)
    (na_Each_first : PySem.W.findIn K (.ref C_Each) "first" = some none)
    (na_Each_last : PySem.W.findIn K (.ref C_Each) "last" = some none)
    (na_Each_inner : PySem.W.findIn K (.ref C_Each) "inner" = some none)
    (na_Each_length : PySem.W.findIn K (.ref C_Each) "length" = some none)
    (na_Each_starts : PySem.W.findIn K (.ref C_Each) "starts" = some none)
    (na_Each_one : PySem.W.findIn K (.ref C_Each) "one" = some none)
    (na_Each_other : PySem.W.findIn K (.ref C_Each) "other" = some none)
    (na_Each_days : PySem.W.findIn K (.ref C_Each) "days" = some none)
    (pg_Either : PySem.W.plainGet K C_Either Str.empty = true)
    (hd_Either : PySem.W.hasDictIn K C_Either = true)
    (po_Either : PySem.W.plainOver K C_Either = true)
    (sa_Either : PySem.W.findIn K (.ref C_Either) "__setattr__" = some (some (.builtin "object.__setattr__")))
    (mk_Either : PySem.W.makesIn K C_Either = true)
    (kc_Either : PySem.W.keepIn K (.ref C_Either) = true)
    (me_Either_depth : PySem.W.findIn K (.ref C_Either) "depth" = some (some (.ref F_Rule_depth)))
    (me_Either_weight : PySem.W.findIn K (.ref C_Either) "weight" = some (some (.ref F_Rule_weight)))
    (na_Either_bits : PySem.W.findIn K (.ref C_Either) "bits" = some none)
    (na_Either_first : PySem.W.findIn K (.ref C_Either) "first" = some none)
    (na_Either_last : PySem.W.findIn K (.ref C_Either) "last" = some none)
    (na_Either_inner : PySem.W.findIn K (.ref C_Either) "inner" = some none)
    (na_Either_length : PySem.W.findIn K (.ref C_Either) "length" = some none)
    (na_Either_starts : PySem.W.findIn K (.ref C_Either) "starts" = some none)
    (na_Either_one : PySem.W.findIn K (.ref C_Either) "one" = some none)
    (na_Either_other : PySem.W.findIn K (.ref C_Either) "other" = some none)
    (na_Either_days : PySem.W.findIn K (.ref C_Either) "days" = some none)
    (pg_Both : PySem.W.plainGet K C_Both Str.empty = true)
    (hd_Both : PySem.W.hasDictIn K C_Both = true)
    (po_Both : PySem.W.plainOver K C_Both = true)
    (sa_Both : PySem.W.findIn K (.ref C_Both) "__setattr__" = some (some (.builtin "object.__setattr__")))
    (mk_Both : PySem.W.makesIn K C_Both = true)
    (kc_Both : PySem.W.keepIn K (.ref C_Both) = true)
    (me_Both_depth : PySem.W.findIn K (.ref C_Both) "depth" = some (some (.ref F_Rule_depth)))
    (me_Both_weight : PySem.W.findIn K (.ref C_Both) "weight" = some (some (.ref F_Rule_weight)))
    (na_Both_bits : PySem.W.findIn K (.ref C_Both) "bits" = some none)
    (na_Both_first : PySem.W.findIn K (.ref C_Both) "first" = some none)
    (na_Both_last : PySem.W.findIn K (.ref C_Both) "last" = some none)
    (na_Both_inner : PySem.W.findIn K (.ref C_Both) "inner" = some none)
    (na_Both_length : PySem.W.findIn K (.ref C_Both) "length" = some none)
    (na_Both_starts : PySem.W.findIn K (.ref C_Both) "starts" = some none)
    (na_Both_one : PySem.W.findIn K (.ref C_Both) "one" = some none)
    (na_Both_other : PySem.W.findIn K (.ref C_Both) "other" = some none)
    (na_Both_days : PySem.W.findIn K (.ref C_Both) "days" = some none)
    (pg_But : PySem.W.plainGet K C_But Str.empty = true)
    (hd_But : PySem.W.hasDictIn K C_But = true)
    (po_But : PySem.W.plainOver K C_But = true)
    (sa_But : PySem.W.findIn K (.ref C_But) "__setattr__" = some (some (.builtin "object.__setattr__")))
    (mk_But : PySem.W.makesIn K C_But = true)
    (kc_But : PySem.W.keepIn K (.ref C_But) = true)
    (me_But_depth : PySem.W.findIn K (.ref C_But) "depth" = some (some (.ref F_Rule_depth)))
    (me_But_weight : PySem.W.findIn K (.ref C_But) "weight" = some (some (.ref F_Rule_weight)))
    (na_But_bits : PySem.W.findIn K (.ref C_But) "bits" = some none)
    (na_But_first : PySem.W.findIn K (.ref C_But) "first" = some none)
    (na_But_last : PySem.W.findIn K (.ref C_But) "last" = some none)
    (na_But_inner : PySem.W.findIn K (.ref C_But) "inner" = some none)
    (na_But_length : PySem.W.findIn K (.ref C_But) "length" = some none)
    (na_But_starts : PySem.W.findIn K (.ref C_But) "starts" = some none)
    (na_But_one : PySem.W.findIn K (.ref C_But) "one" = some none)
    (na_But_other : PySem.W.findIn K (.ref C_But) "other" = some none)
    (na_But_days : PySem.W.findIn K (.ref C_But) "days" = some none)
    (oa_Rule : PySem.W.findIn K (.ref C_Rule) "__class__" = some (some (.builtin "object.__class__")))
    (ob_Rule : PySem.W.specialIn K (.builtin "object.__class__") "__get__" = some (some (.builtin "getset_descriptor.__get__")))
    (oc_Rule : PySem.W.takesIn K (.builtin "object.__class__") = some true)
    (od_Rule : PySem.W.mroIn K C_Rule (.type "object") = some true)
    (ki_Rule_Rule : PySem.W.kitOne K (.ref C_Rule) (.ref C_Rule) = some true)
    (oa_Week : PySem.W.findIn K (.ref C_Week) "__class__" = some (some (.builtin "object.__class__")))
    (ob_Week : PySem.W.specialIn K (.builtin "object.__class__") "__get__" = some (some (.builtin "getset_descriptor.__get__")))
    (oc_Week : PySem.W.takesIn K (.builtin "object.__class__") = some true)
    (od_Week : PySem.W.mroIn K C_Week (.type "object") = some true)
    (ki_Week_Rule : PySem.W.kitOne K (.ref C_Week) (.ref C_Rule) = some true)
    (oa_Span : PySem.W.findIn K (.ref C_Span) "__class__" = some (some (.builtin "object.__class__")))
    (ob_Span : PySem.W.specialIn K (.builtin "object.__class__") "__get__" = some (some (.builtin "getset_descriptor.__get__")))
    (oc_Span : PySem.W.takesIn K (.builtin "object.__class__") = some true)
    (od_Span : PySem.W.mroIn K C_Span (.type "object") = some true)
    (ki_Span_Rule : PySem.W.kitOne K (.ref C_Span) (.ref C_Rule) = some true)
    (oa_Each : PySem.W.findIn K (.ref C_Each) "__class__" = some (some (.builtin "object.__class__")))
    (ob_Each : PySem.W.specialIn K (.builtin "object.__class__") "__get__" = some (some (.builtin "getset_descriptor.__get__")))
    (oc_Each : PySem.W.takesIn K (.builtin "object.__class__") = some true)
    (od_Each : PySem.W.mroIn K C_Each (.type "object") = some true)
    (ki_Each_Rule : PySem.W.kitOne K (.ref C_Each) (.ref C_Rule) = some true)
    (oa_Either : PySem.W.findIn K (.ref C_Either) "__class__" = some (some (.builtin "object.__class__")))
    (ob_Either : PySem.W.specialIn K (.builtin "object.__class__") "__get__" = some (some (.builtin "getset_descriptor.__get__")))
    (oc_Either : PySem.W.takesIn K (.builtin "object.__class__") = some true)
    (od_Either : PySem.W.mroIn K C_Either (.type "object") = some true)
    (ki_Either_Rule : PySem.W.kitOne K (.ref C_Either) (.ref C_Rule) = some true)
    (oa_Both : PySem.W.findIn K (.ref C_Both) "__class__" = some (some (.builtin "object.__class__")))
    (ob_Both : PySem.W.specialIn K (.builtin "object.__class__") "__get__" = some (some (.builtin "getset_descriptor.__get__")))
    (oc_Both : PySem.W.takesIn K (.builtin "object.__class__") = some true)
    (od_Both : PySem.W.mroIn K C_Both (.type "object") = some true)
    (ki_Both_Rule : PySem.W.kitOne K (.ref C_Both) (.ref C_Rule) = some true)
    (oa_But : PySem.W.findIn K (.ref C_But) "__class__" = some (some (.builtin "object.__class__")))
    (ob_But : PySem.W.specialIn K (.builtin "object.__class__") "__get__" = some (some (.builtin "getset_descriptor.__get__")))
    (oc_But : PySem.W.takesIn K (.builtin "object.__class__") = some true)
    (od_But : PySem.W.mroIn K C_But (.type "object") = some true)
    (ki_But_Rule : PySem.W.kitOne K (.ref C_But) (.ref C_Rule) = some true)
    (kt_NoneType_Rule : PySem.W.kitOne K (.type "NoneType") (.ref C_Rule) = some false)
    (kt_str_Rule : PySem.W.kitOne K (.type "str") (.ref C_Rule) = some false)
    (kt_int_Rule : PySem.W.kitOne K (.type "int") (.ref C_Rule) = some false)
    (kt_list_Rule : PySem.W.kitOne K (.type "list") (.ref C_Rule) = some false)
    (kt_dict_Rule : PySem.W.kitOne K (.type "dict") (.ref C_Rule) = some false)
    (e_BadClock : PySem.W.excIn K C_BadClock [.type "ValueError", .type "Exception", .type "BaseException", .type "object"] "ValueError.__new__" = true)
    (g0_BadClock : PySem.W.clsIn K C_BadClock = some cd_BadClock)
    (g1_BadClock : PySem.W.findIn K (.ref C_BadClock) "__getattribute__" = some (some (.builtin "BaseException.__getattribute__")))
    (g2_BadClock : PySem.W.findIn K (.ref C_BadClock) "__getattr__" = some none)
    (g3_BadClock : PySem.W.findIn K (.ref C_BadClock) "__class__" = some (some (.builtin "object.__class__")))
    (g4_BadClock : PySem.W.mroIn K C_BadClock (.type "object") = some true)
    (g5_BadClock : PySem.W.mroIn K C_BadClock (.type "BaseException") = some true)
    (g6_BadClock : PySem.W.specialIn K (.builtin "object.__class__") "__get__" = some (some (.builtin "getset_descriptor.__get__")))
    (g7_BadClock : PySem.W.takesIn K (.builtin "object.__class__") = some true)
    (k_BadClock_BadClock : PySem.W.kitOne K (.ref C_BadClock) (.ref C_BadClock) = some true)
    (k_BadClock_BadRule : PySem.W.kitOne K (.ref C_BadClock) (.ref C_BadRule) = some false)
    (k_BadClock_TooMany : PySem.W.kitOne K (.ref C_BadClock) (.ref C_TooMany) = some false)
    (k_BadClock_BadName : PySem.W.kitOne K (.ref C_BadClock) (.ref C_BadName) = some false)
    (k_BadClock_Twice : PySem.W.kitOne K (.ref C_BadClock) (.ref C_Twice) = some false)
    (k_BadClock_NoStop : PySem.W.kitOne K (.ref C_BadClock) (.ref C_NoStop) = some false)
    (k_BadClock_BadNumber : PySem.W.kitOne K (.ref C_BadClock) (.ref C_BadNumber) = some false)
    (k_BadClock_BadCalls : PySem.W.kitOne K (.ref C_BadClock) (.ref C_BadCalls) = some false)
    (k_BadClock_NoRun : PySem.W.kitOne K (.ref C_BadClock) (.ref C_NoRun) = some false)
    (k_BadClock_TooLate : PySem.W.kitOne K (.ref C_BadClock) (.ref C_TooLate) = some false)
    (k_BadClock_NoTraveller : PySem.W.kitOne K (.ref C_BadClock) (.ref C_NoTraveller) = some false)
    (k_BadClock_BadLine : PySem.W.kitOne K (.ref C_BadClock) (.ref C_BadLine) = some false)
    (v_BadClock : PySem.W.kitOne K (.ref C_BadClock) (.type "ValueError") = some true)
    (x_BadClock : PySem.W.exmOne K (.ref C_BadClock) (.ref C_RoadError) = some true)
    (e_BadRule : PySem.W.excIn K C_BadRule [.type "ValueError", .type "Exception", .type "BaseException", .type "object"] "ValueError.__new__" = true)
    (g0_BadRule : PySem.W.clsIn K C_BadRule = some cd_BadRule)
    (g1_BadRule : PySem.W.findIn K (.ref C_BadRule) "__getattribute__" = some (some (.builtin "BaseException.__getattribute__")))
    (g2_BadRule : PySem.W.findIn K (.ref C_BadRule) "__getattr__" = some none)
    (g3_BadRule : PySem.W.findIn K (.ref C_BadRule) "__class__" = some (some (.builtin "object.__class__")))
    (g4_BadRule : PySem.W.mroIn K C_BadRule (.type "object") = some true)
    (g5_BadRule : PySem.W.mroIn K C_BadRule (.type "BaseException") = some true)
    (g6_BadRule : PySem.W.specialIn K (.builtin "object.__class__") "__get__" = some (some (.builtin "getset_descriptor.__get__")))
    (g7_BadRule : PySem.W.takesIn K (.builtin "object.__class__") = some true)
    (k_BadRule_BadClock : PySem.W.kitOne K (.ref C_BadRule) (.ref C_BadClock) = some false)
    (k_BadRule_BadRule : PySem.W.kitOne K (.ref C_BadRule) (.ref C_BadRule) = some true)
    (k_BadRule_TooMany : PySem.W.kitOne K (.ref C_BadRule) (.ref C_TooMany) = some false)
    (k_BadRule_BadName : PySem.W.kitOne K (.ref C_BadRule) (.ref C_BadName) = some false)
    (k_BadRule_Twice : PySem.W.kitOne K (.ref C_BadRule) (.ref C_Twice) = some false)
    (k_BadRule_NoStop : PySem.W.kitOne K (.ref C_BadRule) (.ref C_NoStop) = some false)
    (k_BadRule_BadNumber : PySem.W.kitOne K (.ref C_BadRule) (.ref C_BadNumber) = some false)
    (k_BadRule_BadCalls : PySem.W.kitOne K (.ref C_BadRule) (.ref C_BadCalls) = some false)
    (k_BadRule_NoRun : PySem.W.kitOne K (.ref C_BadRule) (.ref C_NoRun) = some false)
    (k_BadRule_TooLate : PySem.W.kitOne K (.ref C_BadRule) (.ref C_TooLate) = some false)
    (k_BadRule_NoTraveller : PySem.W.kitOne K (.ref C_BadRule) (.ref C_NoTraveller) = some false)
    (k_BadRule_BadLine : PySem.W.kitOne K (.ref C_BadRule) (.ref C_BadLine) = some false)
    (v_BadRule : PySem.W.kitOne K (.ref C_BadRule) (.type "ValueError") = some true)
    (x_BadRule : PySem.W.exmOne K (.ref C_BadRule) (.ref C_RoadError) = some true)
    (e_BadNumber : PySem.W.excIn K C_BadNumber [.type "ValueError", .type "Exception", .type "BaseException", .type "object"] "ValueError.__new__" = true)
    (g0_BadNumber : PySem.W.clsIn K C_BadNumber = some cd_BadNumber)
    (g1_BadNumber : PySem.W.findIn K (.ref C_BadNumber) "__getattribute__" = some (some (.builtin "BaseException.__getattribute__")))
    (g2_BadNumber : PySem.W.findIn K (.ref C_BadNumber) "__getattr__" = some none)
    (g3_BadNumber : PySem.W.findIn K (.ref C_BadNumber) "__class__" = some (some (.builtin "object.__class__")))
    (g4_BadNumber : PySem.W.mroIn K C_BadNumber (.type "object") = some true)
    (g5_BadNumber : PySem.W.mroIn K C_BadNumber (.type "BaseException") = some true)
    (g6_BadNumber : PySem.W.specialIn K (.builtin "object.__class__") "__get__" = some (some (.builtin "getset_descriptor.__get__")))
    (g7_BadNumber : PySem.W.takesIn K (.builtin "object.__class__") = some true)
    (k_BadNumber_BadClock : PySem.W.kitOne K (.ref C_BadNumber) (.ref C_BadClock) = some false)
    (k_BadNumber_BadRule : PySem.W.kitOne K (.ref C_BadNumber) (.ref C_BadRule) = some false)
    (k_BadNumber_TooMany : PySem.W.kitOne K (.ref C_BadNumber) (.ref C_TooMany) = some false)
    (k_BadNumber_BadName : PySem.W.kitOne K (.ref C_BadNumber) (.ref C_BadName) = some false)
    (k_BadNumber_Twice : PySem.W.kitOne K (.ref C_BadNumber) (.ref C_Twice) = some false)
    (k_BadNumber_NoStop : PySem.W.kitOne K (.ref C_BadNumber) (.ref C_NoStop) = some false)
    (k_BadNumber_BadNumber : PySem.W.kitOne K (.ref C_BadNumber) (.ref C_BadNumber) = some true)
    (k_BadNumber_BadCalls : PySem.W.kitOne K (.ref C_BadNumber) (.ref C_BadCalls) = some false)
    (k_BadNumber_NoRun : PySem.W.kitOne K (.ref C_BadNumber) (.ref C_NoRun) = some false)
    (k_BadNumber_TooLate : PySem.W.kitOne K (.ref C_BadNumber) (.ref C_TooLate) = some false)
    (k_BadNumber_NoTraveller : PySem.W.kitOne K (.ref C_BadNumber) (.ref C_NoTraveller) = some false)
    (k_BadNumber_BadLine : PySem.W.kitOne K (.ref C_BadNumber) (.ref C_BadLine) = some false)
    (v_BadNumber : PySem.W.kitOne K (.ref C_BadNumber) (.type "ValueError") = some true)
    (x_BadNumber : PySem.W.exmOne K (.ref C_BadNumber) (.ref C_RoadError) = some true)
    (z_ValueError : PySem.W.nsIn K mainGlobals "ValueError" = some none)
    (z_bool : PySem.W.nsIn K mainGlobals "bool" = some none)
    (z_int : PySem.W.nsIn K mainGlobals "int" = some none)
    (z_isinstance : PySem.W.nsIn K mainGlobals "isinstance" = some none)
    (z_len : PySem.W.nsIn K mainGlobals "len" = some none)
    (z_list : PySem.W.nsIn K mainGlobals "list" = some none)
    (z_max : PySem.W.nsIn K mainGlobals "max" = some none)
    (z_min : PySem.W.nsIn K mainGlobals "min" = some none)
    (z_range : PySem.W.nsIn K mainGlobals "range" = some none)
    (z_set : PySem.W.nsIn K mainGlobals "set" = some none)
    (z_sorted : PySem.W.nsIn K mainGlobals "sorted" = some none)
    (z_str : PySem.W.nsIn K mainGlobals "str" = some none)
    (z_sum : PySem.W.nsIn K mainGlobals "sum" = some none)
    (z_tuple : PySem.W.nsIn K mainGlobals "tuple" = some none)
    (v_LAST_DAY : PySem.W.nsIn K mainGlobals "LAST_DAY" = some (some (.int 9999 t_LAST_DAY)))
    (v_WEEK_DAYS : PySem.W.nsIn K mainGlobals "WEEK_DAYS" = some (some (.int 7 t_WEEK_DAYS)))
    (v_ALL_WEEK : PySem.W.nsIn K mainGlobals "ALL_WEEK" = some (some (.int 127 t_ALL_WEEK)))
    (v_MOST_LENGTH : PySem.W.nsIn K mainGlobals "MOST_LENGTH" = some (some (.int 28 t_MOST_LENGTH)))
    (v_MOST_LISTED : PySem.W.nsIn K mainGlobals "MOST_LISTED" = some (some (.int 12 t_MOST_LISTED)))
    (v_MOST_WEIGHT : PySem.W.nsIn K mainGlobals "MOST_WEIGHT" = some (some (.int 15 t_MOST_WEIGHT)))
    (v_MOST_DEPTH : PySem.W.nsIn K mainGlobals "MOST_DEPTH" = some (some (.int 8 t_MOST_DEPTH)))
    (v_MOST_LATER : PySem.W.nsIn K mainGlobals "MOST_LATER" = some (some (.int 400 t_MOST_LATER)))
    : ∃ t : Adr, Tab K mg t := by
  have Fis_any_number := fun_mk (st := s_is_any_number) l_is_any_number q_is_any_number k_is_any_number
  have Bis_any_number := Fis_any_number.binds (ps := ["value"]) fun _ _ _ _ _ _ us hl => match us, hl with | [_], _ => rfl
  have Fis_number := fun_mk (st := s_is_number) l_is_number q_is_number k_is_number
  have Bis_number := Fis_number.binds (ps := ["value", "least", "most"]) fun _ _ _ _ _ _ us hl => match us, hl with | [_, _, _], _ => rfl
  have Fare_rising := fun_mk (st := s_are_rising) l_are_rising q_are_rising k_are_rising
  have Bare_rising := Fare_rising.binds (ps := ["values", "longest", "least", "most"]) fun _ _ _ _ _ _ us hl => match us, hl with | [_, _, _, _], _ => rfl
  have Fcopy_of := fun_mk (st := s_copy_of) l_copy_of q_copy_of k_copy_of
  have Bcopy_of := Fcopy_of.binds (ps := ["rule"]) fun _ _ _ _ _ _ us hl => match us, hl with | [_], _ => rfl
  have Fcheck_size := fun_mk (st := s_check_size) l_check_size q_check_size k_check_size
  have Bcheck_size := Fcheck_size.binds (ps := ["rule"]) fun _ _ _ _ _ _ us hl => match us, hl with | [_], _ => rfl
  have Flist_text := fun_mk (st := s_list_text) l_list_text q_list_text k_list_text
  have Blist_text := Flist_text.binds (ps := ["numbers"]) fun _ _ _ _ _ _ us hl => match us, hl with | [_], _ => rfl
  have Fnext_day : FunD K "next_day" "next_day" s_next_day F_next_day (PySem.W.fnOf "next_day" "next_day" (defArgs s_next_day) (defBody s_next_day) (defScope s_next_day) (.ref D_next_day) kV_next_day dc_next_day pm_next_day an_next_day cd_next_day ct_next_day) D_next_day [Value.int 400 td0_next_day] := ⟨⟨_, _, _, _, _, _, _, _, _, rfl, l_next_day, q_next_day⟩, ⟨_, _, t_next_day, rfl⟩, k_next_day⟩
  have Bnext_day : Binds K (PySem.W.fnOf "next_day" "next_day" (defArgs s_next_day) (defBody s_next_day) (defScope s_next_day) (.ref D_next_day) kV_next_day dc_next_day pm_next_day an_next_day cd_next_day ct_next_day) ["rule", "day", "most"] [] := fun s us kin hl => match us, hl with | [_, _, _], _ => .of_defaults rfl (kin _ _ t_next_day) rfl rfl rfl
  have BDnext_day : Binds K (PySem.W.fnOf "next_day" "next_day" (defArgs s_next_day) (defBody s_next_day) (defScope s_next_day) (.ref D_next_day) kV_next_day dc_next_day pm_next_day an_next_day cd_next_day ct_next_day) ["rule", "day", "most"] [Value.int 400 td0_next_day] := fun s us kin hl => by
    have hl2 : us.length = 2 := by simpa using hl
    match us, hl2 with
    | [_, _], _ => exact .of_defaults rfl (kin _ _ t_next_day) rfl rfl rfl
  have Flaw_cell := fun_mk (st := s_law_cell) l_law_cell q_law_cell k_law_cell
  have Blaw_cell := Flaw_cell.binds (ps := ["_law_script", "_law_k"]) fun _ _ _ _ _ _ us hl => match us, hl with | [_, _], _ => rfl
  have Flaw_draw := fun_mk (st := s_law_draw) l_law_draw q_law_draw k_law_draw
  have Blaw_draw := Flaw_draw.binds (ps := ["_law_script", "_law_tape", "_law_many"]) fun _ _ _ _ _ _ us hl => match us, hl with | [_, _, _], _ => rfl
  have Flaw_whole := fun_mk (st := s_law_whole) l_law_whole q_law_whole k_law_whole
  have Blaw_whole := Flaw_whole.binds (ps := ["_law_found"]) fun _ _ _ _ _ _ us hl => match us, hl with | [_], _ => rfl
  have Flaw_rising := fun_mk (st := s_law_rising) l_law_rising q_law_rising k_law_rising
  have Blaw_rising := Flaw_rising.binds (ps := ["_law_script", "_law_tape", "_law_least", "_law_most"]) fun _ _ _ _ _ _ us hl => match us, hl with | [_, _, _, _], _ => rfl
  have Flaw_leaf := fun_mk (st := s_law_leaf) l_law_leaf q_law_leaf k_law_leaf
  have Blaw_leaf := Flaw_leaf.binds (ps := ["_law_script", "_law_tape"]) fun _ _ _ _ _ _ us hl => match us, hl with | [_, _], _ => rfl
  have Flaw_tree := fun_mk (st := s_law_tree) l_law_tree q_law_tree k_law_tree
  have Blaw_tree := Flaw_tree.binds (ps := ["_law_script", "_law_tape", "_law_room", "_law_deep"]) fun _ _ _ _ _ _ us hl => match us, hl with | [_, _, _, _], _ => rfl
  have Flaw_made := fun_mk (st := s_law_made) l_law_made q_law_made k_law_made
  have Blaw_made := Flaw_made.binds (ps := ["_law_tree_here"]) fun _ _ _ _ _ _ us hl => match us, hl with | [_], _ => rfl
  have Flaw_runs := fun_mk (st := s_law_runs) l_law_runs q_law_runs k_law_runs
  have Blaw_runs := Flaw_runs.binds (ps := ["_law_tree_here", "_law_day"]) fun _ _ _ _ _ _ us hl => match us, hl with | [_, _], _ => rfl
  have Flaw_class := fun_mk (st := s_law_class) l_law_class q_law_class k_law_class
  have Blaw_class := Flaw_class.binds (ps := ["_law_error"]) fun _ _ _ _ _ _ us hl => match us, hl with | [_], _ => rfl
  have Flaw_due := fun_mk (st := s_law_due) l_law_due q_law_due k_law_due
  have Blaw_due := Flaw_due.binds (ps := ["_law_tree_here", "_law_day", "_law_most"]) fun _ _ _ _ _ _ us hl => match us, hl with | [_, _, _], _ => rfl
  have Flaw_told := fun_mk (st := s_law_told) l_law_told q_law_told k_law_told
  have Blaw_told := Flaw_told.binds (ps := ["_law_rule", "_law_day", "_law_most"]) fun _ _ _ _ _ _ us hl => match us, hl with | [_, _, _], _ => rfl
  have Flaw_same := fun_mk (st := s_law_same) l_law_same q_law_same k_law_same
  have Blaw_same := Flaw_same.binds (ps := ["_law_found", "_law_due_here"]) fun _ _ _ _ _ _ us hl => match us, hl with | [_, _], _ => rfl
  have Flaw := fun_mk (st := s_law) l_law q_law k_law
  have Blaw := Flaw.binds (ps := ["_law_script"]) fun _ _ _ _ _ _ us hl => match us, hl with | [_], _ => rfl
  have FRule_copied := fun_mk (st := s_Rule_copied) l_Rule_copied q_Rule_copied k_Rule_copied
  have BRule_copied := FRule_copied.binds (ps := ["self"]) fun _ _ _ _ _ _ us hl => match us, hl with | [_], _ => rfl
  have FRule_parts := fun_mk (st := s_Rule_parts) l_Rule_parts q_Rule_parts k_Rule_parts
  have BRule_parts := FRule_parts.binds (ps := ["self"]) fun _ _ _ _ _ _ us hl => match us, hl with | [_], _ => rfl
  have FRule_runs := fun_mk (st := s_Rule_runs) l_Rule_runs q_Rule_runs k_Rule_runs
  have BRule_runs := FRule_runs.binds (ps := ["self", "day"]) fun _ _ _ _ _ _ us hl => match us, hl with | [_, _], _ => rfl
  have FRule_words := fun_mk (st := s_Rule_words) l_Rule_words q_Rule_words k_Rule_words
  have BRule_words := FRule_words.binds (ps := ["self"]) fun _ _ _ _ _ _ us hl => match us, hl with | [_], _ => rfl
  have FRule_weight := fun_mk (st := s_Rule_weight) l_Rule_weight q_Rule_weight k_Rule_weight
  have BRule_weight := FRule_weight.binds (ps := ["self"]) fun _ _ _ _ _ _ us hl => match us, hl with | [_], _ => rfl
  have FRule_depth := fun_mk (st := s_Rule_depth) l_Rule_depth q_Rule_depth k_Rule_depth
  have BRule_depth := FRule_depth.binds (ps := ["self"]) fun _ _ _ _ _ _ us hl => match us, hl with | [_], _ => rfl
  have FWeek_init := fun_mk (st := s_Week_init) l_Week_init q_Week_init k_Week_init
  have BWeek_init := FWeek_init.binds (ps := ["self", "bits"]) fun _ _ _ _ _ _ us hl => match us, hl with | [_, _], _ => rfl
  have FWeek_copied := fun_mk (st := s_Week_copied) l_Week_copied q_Week_copied k_Week_copied
  have BWeek_copied := FWeek_copied.binds (ps := ["self"]) fun _ _ _ _ _ _ us hl => match us, hl with | [_], _ => rfl
  have FWeek_runs := fun_mk (st := s_Week_runs) l_Week_runs q_Week_runs k_Week_runs
  have BWeek_runs := FWeek_runs.binds (ps := ["self", "day"]) fun _ _ _ _ _ _ us hl => match us, hl with | [_, _], _ => rfl
  have FWeek_words := fun_mk (st := s_Week_words) l_Week_words q_Week_words k_Week_words
  have BWeek_words := FWeek_words.binds (ps := ["self"]) fun _ _ _ _ _ _ us hl => match us, hl with | [_], _ => rfl
  have FSpan_init := fun_mk (st := s_Span_init) l_Span_init q_Span_init k_Span_init
  have BSpan_init := FSpan_init.binds (ps := ["self", "first", "last", "rule"]) fun _ _ _ _ _ _ us hl => match us, hl with | [_, _, _, _], _ => rfl
  have FSpan_copied := fun_mk (st := s_Span_copied) l_Span_copied q_Span_copied k_Span_copied
  have BSpan_copied := FSpan_copied.binds (ps := ["self"]) fun _ _ _ _ _ _ us hl => match us, hl with | [_], _ => rfl
  have FSpan_parts := fun_mk (st := s_Span_parts) l_Span_parts q_Span_parts k_Span_parts
  have BSpan_parts := FSpan_parts.binds (ps := ["self"]) fun _ _ _ _ _ _ us hl => match us, hl with | [_], _ => rfl
  have FSpan_runs := fun_mk (st := s_Span_runs) l_Span_runs q_Span_runs k_Span_runs
  have BSpan_runs := FSpan_runs.binds (ps := ["self", "day"]) fun _ _ _ _ _ _ us hl => match us, hl with | [_, _], _ => rfl
  have FSpan_words := fun_mk (st := s_Span_words) l_Span_words q_Span_words k_Span_words
  have BSpan_words := FSpan_words.binds (ps := ["self"]) fun _ _ _ _ _ _ us hl => match us, hl with | [_], _ => rfl
  have FEach_init := fun_mk (st := s_Each_init) l_Each_init q_Each_init k_Each_init
  have BEach_init := FEach_init.binds (ps := ["self", "length", "starts"]) fun _ _ _ _ _ _ us hl => match us, hl with | [_, _, _], _ => rfl
  have FEach_copied := fun_mk (st := s_Each_copied) l_Each_copied q_Each_copied k_Each_copied
  have BEach_copied := FEach_copied.binds (ps := ["self"]) fun _ _ _ _ _ _ us hl => match us, hl with | [_], _ => rfl
  have FEach_runs := fun_mk (st := s_Each_runs) l_Each_runs q_Each_runs k_Each_runs
  have BEach_runs := FEach_runs.binds (ps := ["self", "day"]) fun _ _ _ _ _ _ us hl => match us, hl with | [_, _], _ => rfl
  have FEach_words := fun_mk (st := s_Each_words) l_Each_words q_Each_words k_Each_words
  have BEach_words := FEach_words.binds (ps := ["self"]) fun _ _ _ _ _ _ us hl => match us, hl with | [_], _ => rfl
  have FEither_init := fun_mk (st := s_Either_init) l_Either_init q_Either_init k_Either_init
  have BEither_init := FEither_init.binds (ps := ["self", "one", "other"]) fun _ _ _ _ _ _ us hl => match us, hl with | [_, _, _], _ => rfl
  have FEither_copied := fun_mk (st := s_Either_copied) l_Either_copied q_Either_copied k_Either_copied
  have BEither_copied := FEither_copied.binds (ps := ["self"]) fun _ _ _ _ _ _ us hl => match us, hl with | [_], _ => rfl
  have FEither_parts := fun_mk (st := s_Either_parts) l_Either_parts q_Either_parts k_Either_parts
  have BEither_parts := FEither_parts.binds (ps := ["self"]) fun _ _ _ _ _ _ us hl => match us, hl with | [_], _ => rfl
  have FEither_runs := fun_mk (st := s_Either_runs) l_Either_runs q_Either_runs k_Either_runs
  have BEither_runs := FEither_runs.binds (ps := ["self", "day"]) fun _ _ _ _ _ _ us hl => match us, hl with | [_, _], _ => rfl
  have FEither_words := fun_mk (st := s_Either_words) l_Either_words q_Either_words k_Either_words
  have BEither_words := FEither_words.binds (ps := ["self"]) fun _ _ _ _ _ _ us hl => match us, hl with | [_], _ => rfl
  have FBoth_init := fun_mk (st := s_Both_init) l_Both_init q_Both_init k_Both_init
  have BBoth_init := FBoth_init.binds (ps := ["self", "one", "other"]) fun _ _ _ _ _ _ us hl => match us, hl with | [_, _, _], _ => rfl
  have FBoth_copied := fun_mk (st := s_Both_copied) l_Both_copied q_Both_copied k_Both_copied
  have BBoth_copied := FBoth_copied.binds (ps := ["self"]) fun _ _ _ _ _ _ us hl => match us, hl with | [_], _ => rfl
  have FBoth_parts := fun_mk (st := s_Both_parts) l_Both_parts q_Both_parts k_Both_parts
  have BBoth_parts := FBoth_parts.binds (ps := ["self"]) fun _ _ _ _ _ _ us hl => match us, hl with | [_], _ => rfl
  have FBoth_runs := fun_mk (st := s_Both_runs) l_Both_runs q_Both_runs k_Both_runs
  have BBoth_runs := FBoth_runs.binds (ps := ["self", "day"]) fun _ _ _ _ _ _ us hl => match us, hl with | [_, _], _ => rfl
  have FBoth_words := fun_mk (st := s_Both_words) l_Both_words q_Both_words k_Both_words
  have BBoth_words := FBoth_words.binds (ps := ["self"]) fun _ _ _ _ _ _ us hl => match us, hl with | [_], _ => rfl
  have FBut_init := fun_mk (st := s_But_init) l_But_init q_But_init k_But_init
  have BBut_init := FBut_init.binds (ps := ["self", "days", "rule"]) fun _ _ _ _ _ _ us hl => match us, hl with | [_, _, _], _ => rfl
  have FBut_copied := fun_mk (st := s_But_copied) l_But_copied q_But_copied k_But_copied
  have BBut_copied := FBut_copied.binds (ps := ["self"]) fun _ _ _ _ _ _ us hl => match us, hl with | [_], _ => rfl
  have FBut_parts := fun_mk (st := s_But_parts) l_But_parts q_But_parts k_But_parts
  have BBut_parts := FBut_parts.binds (ps := ["self"]) fun _ _ _ _ _ _ us hl => match us, hl with | [_], _ => rfl
  have FBut_runs := fun_mk (st := s_But_runs) l_But_runs q_But_runs k_But_runs
  have BBut_runs := FBut_runs.binds (ps := ["self", "day"]) fun _ _ _ _ _ _ us hl => match us, hl with | [_, _], _ => rfl
  have FBut_words := fun_mk (st := s_But_words) l_But_words q_But_words k_But_words
  have BBut_words := FBut_words.binds (ps := ["self"]) fun _ _ _ _ _ _ us hl => match us, hl with | [_], _ => rfl
  exact ⟨⟨F_is_any_number, PySem.W.fnOf "is_any_number" "is_any_number" (defArgs s_is_any_number) (defBody s_is_any_number) (defScope s_is_any_number) .none kV_is_any_number dc_is_any_number pm_is_any_number an_is_any_number cd_is_any_number ct_is_any_number, F_is_number, PySem.W.fnOf "is_number" "is_number" (defArgs s_is_number) (defBody s_is_number) (defScope s_is_number) .none kV_is_number dc_is_number pm_is_number an_is_number cd_is_number ct_is_number, F_are_rising, PySem.W.fnOf "are_rising" "are_rising" (defArgs s_are_rising) (defBody s_are_rising) (defScope s_are_rising) .none kV_are_rising dc_are_rising pm_are_rising an_are_rising cd_are_rising ct_are_rising, F_copy_of, PySem.W.fnOf "copy_of" "copy_of" (defArgs s_copy_of) (defBody s_copy_of) (defScope s_copy_of) .none kV_copy_of dc_copy_of pm_copy_of an_copy_of cd_copy_of ct_copy_of, F_check_size, PySem.W.fnOf "check_size" "check_size" (defArgs s_check_size) (defBody s_check_size) (defScope s_check_size) .none kV_check_size dc_check_size pm_check_size an_check_size cd_check_size ct_check_size, F_list_text, PySem.W.fnOf "list_text" "list_text" (defArgs s_list_text) (defBody s_list_text) (defScope s_list_text) .none kV_list_text dc_list_text pm_list_text an_list_text cd_list_text ct_list_text, F_next_day, PySem.W.fnOf "next_day" "next_day" (defArgs s_next_day) (defBody s_next_day) (defScope s_next_day) (.ref D_next_day) kV_next_day dc_next_day pm_next_day an_next_day cd_next_day ct_next_day, D_next_day, [.int 400 td0_next_day], F_law_cell, PySem.W.fnOf "_law_cell" "_law_cell" (defArgs s_law_cell) (defBody s_law_cell) (defScope s_law_cell) .none kV_law_cell dc_law_cell pm_law_cell an_law_cell cd_law_cell ct_law_cell, F_law_draw, PySem.W.fnOf "_law_draw" "_law_draw" (defArgs s_law_draw) (defBody s_law_draw) (defScope s_law_draw) .none kV_law_draw dc_law_draw pm_law_draw an_law_draw cd_law_draw ct_law_draw, F_law_whole, PySem.W.fnOf "_law_whole" "_law_whole" (defArgs s_law_whole) (defBody s_law_whole) (defScope s_law_whole) .none kV_law_whole dc_law_whole pm_law_whole an_law_whole cd_law_whole ct_law_whole, F_law_rising, PySem.W.fnOf "_law_rising" "_law_rising" (defArgs s_law_rising) (defBody s_law_rising) (defScope s_law_rising) .none kV_law_rising dc_law_rising pm_law_rising an_law_rising cd_law_rising ct_law_rising, F_law_leaf, PySem.W.fnOf "_law_leaf" "_law_leaf" (defArgs s_law_leaf) (defBody s_law_leaf) (defScope s_law_leaf) .none kV_law_leaf dc_law_leaf pm_law_leaf an_law_leaf cd_law_leaf ct_law_leaf, F_law_tree, PySem.W.fnOf "_law_tree" "_law_tree" (defArgs s_law_tree) (defBody s_law_tree) (defScope s_law_tree) .none kV_law_tree dc_law_tree pm_law_tree an_law_tree cd_law_tree ct_law_tree, F_law_made, PySem.W.fnOf "_law_made" "_law_made" (defArgs s_law_made) (defBody s_law_made) (defScope s_law_made) .none kV_law_made dc_law_made pm_law_made an_law_made cd_law_made ct_law_made, F_law_runs, PySem.W.fnOf "_law_runs" "_law_runs" (defArgs s_law_runs) (defBody s_law_runs) (defScope s_law_runs) .none kV_law_runs dc_law_runs pm_law_runs an_law_runs cd_law_runs ct_law_runs, F_law_class, PySem.W.fnOf "_law_class" "_law_class" (defArgs s_law_class) (defBody s_law_class) (defScope s_law_class) .none kV_law_class dc_law_class pm_law_class an_law_class cd_law_class ct_law_class, F_law_due, PySem.W.fnOf "_law_due" "_law_due" (defArgs s_law_due) (defBody s_law_due) (defScope s_law_due) .none kV_law_due dc_law_due pm_law_due an_law_due cd_law_due ct_law_due, F_law_told, PySem.W.fnOf "_law_told" "_law_told" (defArgs s_law_told) (defBody s_law_told) (defScope s_law_told) .none kV_law_told dc_law_told pm_law_told an_law_told cd_law_told ct_law_told, F_law_same, PySem.W.fnOf "_law_same" "_law_same" (defArgs s_law_same) (defBody s_law_same) (defScope s_law_same) .none kV_law_same dc_law_same pm_law_same an_law_same cd_law_same ct_law_same, F_law, PySem.W.fnOf "law" "law" (defArgs s_law) (defBody s_law) (defScope s_law) .none kV_law dc_law pm_law an_law cd_law ct_law, F_Rule_copied, PySem.W.fnOf "copied" "Rule.copied" (defArgs s_Rule_copied) (defBody s_Rule_copied) (defScope s_Rule_copied) .none kV_Rule_copied dc_Rule_copied pm_Rule_copied an_Rule_copied cd_Rule_copied ct_Rule_copied, F_Rule_parts, PySem.W.fnOf "parts" "Rule.parts" (defArgs s_Rule_parts) (defBody s_Rule_parts) (defScope s_Rule_parts) .none kV_Rule_parts dc_Rule_parts pm_Rule_parts an_Rule_parts cd_Rule_parts ct_Rule_parts, F_Rule_runs, PySem.W.fnOf "runs" "Rule.runs" (defArgs s_Rule_runs) (defBody s_Rule_runs) (defScope s_Rule_runs) .none kV_Rule_runs dc_Rule_runs pm_Rule_runs an_Rule_runs cd_Rule_runs ct_Rule_runs, F_Rule_words, PySem.W.fnOf "words" "Rule.words" (defArgs s_Rule_words) (defBody s_Rule_words) (defScope s_Rule_words) .none kV_Rule_words dc_Rule_words pm_Rule_words an_Rule_words cd_Rule_words ct_Rule_words, F_Rule_weight, PySem.W.fnOf "weight" "Rule.weight" (defArgs s_Rule_weight) (defBody s_Rule_weight) (defScope s_Rule_weight) .none kV_Rule_weight dc_Rule_weight pm_Rule_weight an_Rule_weight cd_Rule_weight ct_Rule_weight, F_Rule_depth, PySem.W.fnOf "depth" "Rule.depth" (defArgs s_Rule_depth) (defBody s_Rule_depth) (defScope s_Rule_depth) .none kV_Rule_depth dc_Rule_depth pm_Rule_depth an_Rule_depth cd_Rule_depth ct_Rule_depth, F_Week_init, PySem.W.fnOf "__init__" "Week.__init__" (defArgs s_Week_init) (defBody s_Week_init) (defScope s_Week_init) .none kV_Week_init dc_Week_init pm_Week_init an_Week_init cd_Week_init ct_Week_init, F_Week_copied, PySem.W.fnOf "copied" "Week.copied" (defArgs s_Week_copied) (defBody s_Week_copied) (defScope s_Week_copied) .none kV_Week_copied dc_Week_copied pm_Week_copied an_Week_copied cd_Week_copied ct_Week_copied, F_Week_runs, PySem.W.fnOf "runs" "Week.runs" (defArgs s_Week_runs) (defBody s_Week_runs) (defScope s_Week_runs) .none kV_Week_runs dc_Week_runs pm_Week_runs an_Week_runs cd_Week_runs ct_Week_runs, F_Week_words, PySem.W.fnOf "words" "Week.words" (defArgs s_Week_words) (defBody s_Week_words) (defScope s_Week_words) .none kV_Week_words dc_Week_words pm_Week_words an_Week_words cd_Week_words ct_Week_words, F_Span_init, PySem.W.fnOf "__init__" "Span.__init__" (defArgs s_Span_init) (defBody s_Span_init) (defScope s_Span_init) .none kV_Span_init dc_Span_init pm_Span_init an_Span_init cd_Span_init ct_Span_init, F_Span_copied, PySem.W.fnOf "copied" "Span.copied" (defArgs s_Span_copied) (defBody s_Span_copied) (defScope s_Span_copied) .none kV_Span_copied dc_Span_copied pm_Span_copied an_Span_copied cd_Span_copied ct_Span_copied, F_Span_parts, PySem.W.fnOf "parts" "Span.parts" (defArgs s_Span_parts) (defBody s_Span_parts) (defScope s_Span_parts) .none kV_Span_parts dc_Span_parts pm_Span_parts an_Span_parts cd_Span_parts ct_Span_parts, F_Span_runs, PySem.W.fnOf "runs" "Span.runs" (defArgs s_Span_runs) (defBody s_Span_runs) (defScope s_Span_runs) .none kV_Span_runs dc_Span_runs pm_Span_runs an_Span_runs cd_Span_runs ct_Span_runs, F_Span_words, PySem.W.fnOf "words" "Span.words" (defArgs s_Span_words) (defBody s_Span_words) (defScope s_Span_words) .none kV_Span_words dc_Span_words pm_Span_words an_Span_words cd_Span_words ct_Span_words, F_Each_init, PySem.W.fnOf "__init__" "Each.__init__" (defArgs s_Each_init) (defBody s_Each_init) (defScope s_Each_init) .none kV_Each_init dc_Each_init pm_Each_init an_Each_init cd_Each_init ct_Each_init, F_Each_copied, PySem.W.fnOf "copied" "Each.copied" (defArgs s_Each_copied) (defBody s_Each_copied) (defScope s_Each_copied) .none kV_Each_copied dc_Each_copied pm_Each_copied an_Each_copied cd_Each_copied ct_Each_copied, F_Each_runs, PySem.W.fnOf "runs" "Each.runs" (defArgs s_Each_runs) (defBody s_Each_runs) (defScope s_Each_runs) .none kV_Each_runs dc_Each_runs pm_Each_runs an_Each_runs cd_Each_runs ct_Each_runs, F_Each_words, PySem.W.fnOf "words" "Each.words" (defArgs s_Each_words) (defBody s_Each_words) (defScope s_Each_words) .none kV_Each_words dc_Each_words pm_Each_words an_Each_words cd_Each_words ct_Each_words, F_Either_init, PySem.W.fnOf "__init__" "Either.__init__" (defArgs s_Either_init) (defBody s_Either_init) (defScope s_Either_init) .none kV_Either_init dc_Either_init pm_Either_init an_Either_init cd_Either_init ct_Either_init, F_Either_copied, PySem.W.fnOf "copied" "Either.copied" (defArgs s_Either_copied) (defBody s_Either_copied) (defScope s_Either_copied) .none kV_Either_copied dc_Either_copied pm_Either_copied an_Either_copied cd_Either_copied ct_Either_copied, F_Either_parts, PySem.W.fnOf "parts" "Either.parts" (defArgs s_Either_parts) (defBody s_Either_parts) (defScope s_Either_parts) .none kV_Either_parts dc_Either_parts pm_Either_parts an_Either_parts cd_Either_parts ct_Either_parts, F_Either_runs, PySem.W.fnOf "runs" "Either.runs" (defArgs s_Either_runs) (defBody s_Either_runs) (defScope s_Either_runs) .none kV_Either_runs dc_Either_runs pm_Either_runs an_Either_runs cd_Either_runs ct_Either_runs, F_Either_words, PySem.W.fnOf "words" "Either.words" (defArgs s_Either_words) (defBody s_Either_words) (defScope s_Either_words) .none kV_Either_words dc_Either_words pm_Either_words an_Either_words cd_Either_words ct_Either_words, F_Both_init, PySem.W.fnOf "__init__" "Both.__init__" (defArgs s_Both_init) (defBody s_Both_init) (defScope s_Both_init) .none kV_Both_init dc_Both_init pm_Both_init an_Both_init cd_Both_init ct_Both_init, F_Both_copied, PySem.W.fnOf "copied" "Both.copied" (defArgs s_Both_copied) (defBody s_Both_copied) (defScope s_Both_copied) .none kV_Both_copied dc_Both_copied pm_Both_copied an_Both_copied cd_Both_copied ct_Both_copied, F_Both_parts, PySem.W.fnOf "parts" "Both.parts" (defArgs s_Both_parts) (defBody s_Both_parts) (defScope s_Both_parts) .none kV_Both_parts dc_Both_parts pm_Both_parts an_Both_parts cd_Both_parts ct_Both_parts, F_Both_runs, PySem.W.fnOf "runs" "Both.runs" (defArgs s_Both_runs) (defBody s_Both_runs) (defScope s_Both_runs) .none kV_Both_runs dc_Both_runs pm_Both_runs an_Both_runs cd_Both_runs ct_Both_runs, F_Both_words, PySem.W.fnOf "words" "Both.words" (defArgs s_Both_words) (defBody s_Both_words) (defScope s_Both_words) .none kV_Both_words dc_Both_words pm_Both_words an_Both_words cd_Both_words ct_Both_words, F_But_init, PySem.W.fnOf "__init__" "But.__init__" (defArgs s_But_init) (defBody s_But_init) (defScope s_But_init) .none kV_But_init dc_But_init pm_But_init an_But_init cd_But_init ct_But_init, F_But_copied, PySem.W.fnOf "copied" "But.copied" (defArgs s_But_copied) (defBody s_But_copied) (defScope s_But_copied) .none kV_But_copied dc_But_copied pm_But_copied an_But_copied cd_But_copied ct_But_copied, F_But_parts, PySem.W.fnOf "parts" "But.parts" (defArgs s_But_parts) (defBody s_But_parts) (defScope s_But_parts) .none kV_But_parts dc_But_parts pm_But_parts an_But_parts cd_But_parts ct_But_parts, F_But_runs, PySem.W.fnOf "runs" "But.runs" (defArgs s_But_runs) (defBody s_But_runs) (defScope s_But_runs) .none kV_But_runs dc_But_runs pm_But_runs an_But_runs cd_But_runs ct_But_runs, F_But_words, PySem.W.fnOf "words" "But.words" (defArgs s_But_words) (defBody s_But_words) (defScope s_But_words) .none kV_But_words dc_But_words pm_But_words an_But_words cd_But_words ct_But_words, C_RoadError, C_BadClock, C_BadRule, C_TooMany, C_BadName, C_Twice, C_NoStop, C_BadNumber, C_BadCalls, C_NoRun, C_TooLate, C_NoTraveller, C_BadLine, C_Rule, C_Week, C_Span, C_Each, C_Either, C_Both, C_But⟩, ⟨PySem.W.mg_none_of X G z_ValueError,
    PySem.W.mg_none_of X G z_bool,
    PySem.W.mg_none_of X G z_int,
    PySem.W.mg_none_of X G z_isinstance,
    PySem.W.mg_none_of X G z_len,
    PySem.W.mg_none_of X G z_list,
    PySem.W.mg_none_of X G z_max,
    PySem.W.mg_none_of X G z_min,
    PySem.W.mg_none_of X G z_range,
    PySem.W.mg_none_of X G z_set,
    PySem.W.mg_none_of X G z_sorted,
    PySem.W.mg_none_of X G z_str,
    PySem.W.mg_none_of X G z_sum,
    PySem.W.mg_none_of X G z_tuple,
    ⟨_, PySem.W.mg_of X G v_LAST_DAY⟩,
    ⟨_, PySem.W.mg_of X G v_WEEK_DAYS⟩,
    ⟨_, PySem.W.mg_of X G v_ALL_WEEK⟩,
    ⟨_, PySem.W.mg_of X G v_MOST_LENGTH⟩,
    ⟨_, PySem.W.mg_of X G v_MOST_LISTED⟩,
    ⟨_, PySem.W.mg_of X G v_MOST_WEIGHT⟩,
    ⟨_, PySem.W.mg_of X G v_MOST_DEPTH⟩,
    ⟨_, PySem.W.mg_of X G v_MOST_LATER⟩,
    Fis_any_number,
    PySem.W.mg_of X G a_is_any_number,
    Bis_any_number,
    Fis_number,
    PySem.W.mg_of X G a_is_number,
    Bis_number,
    Fare_rising,
    PySem.W.mg_of X G a_are_rising,
    Bare_rising,
    Fcopy_of,
    PySem.W.mg_of X G a_copy_of,
    Bcopy_of,
    Fcheck_size,
    PySem.W.mg_of X G a_check_size,
    Bcheck_size,
    Flist_text,
    PySem.W.mg_of X G a_list_text,
    Blist_text,
    Fnext_day,
    .cons ⟨_, rfl⟩ (.nil),
    BDnext_day,
    PySem.W.mg_of X G a_next_day,
    Bnext_day,
    Flaw_cell,
    PySem.W.mg_of X G a_law_cell,
    Blaw_cell,
    Flaw_draw,
    PySem.W.mg_of X G a_law_draw,
    Blaw_draw,
    Flaw_whole,
    PySem.W.mg_of X G a_law_whole,
    Blaw_whole,
    Flaw_rising,
    PySem.W.mg_of X G a_law_rising,
    Blaw_rising,
    Flaw_leaf,
    PySem.W.mg_of X G a_law_leaf,
    Blaw_leaf,
    Flaw_tree,
    PySem.W.mg_of X G a_law_tree,
    Blaw_tree,
    Flaw_made,
    PySem.W.mg_of X G a_law_made,
    Blaw_made,
    Flaw_runs,
    PySem.W.mg_of X G a_law_runs,
    Blaw_runs,
    Flaw_class,
    PySem.W.mg_of X G a_law_class,
    Blaw_class,
    Flaw_due,
    PySem.W.mg_of X G a_law_due,
    Blaw_due,
    Flaw_told,
    PySem.W.mg_of X G a_law_told,
    Blaw_told,
    Flaw_same,
    PySem.W.mg_of X G a_law_same,
    Blaw_same,
    Flaw,
    PySem.W.mg_of X G a_law,
    Blaw,
    FRule_copied,
    BRule_copied,
    FRule_parts,
    BRule_parts,
    FRule_runs,
    BRule_runs,
    FRule_words,
    BRule_words,
    FRule_weight,
    BRule_weight,
    FRule_depth,
    BRule_depth,
    FWeek_init,
    BWeek_init,
    FWeek_copied,
    BWeek_copied,
    FWeek_runs,
    BWeek_runs,
    FWeek_words,
    BWeek_words,
    FSpan_init,
    BSpan_init,
    FSpan_copied,
    BSpan_copied,
    FSpan_parts,
    BSpan_parts,
    FSpan_runs,
    BSpan_runs,
    FSpan_words,
    BSpan_words,
    FEach_init,
    BEach_init,
    FEach_copied,
    BEach_copied,
    FEach_runs,
    BEach_runs,
    FEach_words,
    BEach_words,
    FEither_init,
    BEither_init,
    FEither_copied,
    BEither_copied,
    FEither_parts,
    BEither_parts,
    FEither_runs,
    BEither_runs,
    FEither_words,
    BEither_words,
    FBoth_init,
    BBoth_init,
    FBoth_copied,
    BBoth_copied,
    FBoth_parts,
    BBoth_parts,
    FBoth_runs,
    BBoth_runs,
    FBoth_words,
    BBoth_words,
    FBut_init,
    BBut_init,
    FBut_copied,
    BBut_copied,
    FBut_parts,
    BBut_parts,
    FBut_runs,
    BBut_runs,
    FBut_words,
    BBut_words,
    ⟨pg_Rule, hd_Rule, po_Rule, sa_Rule⟩,
    ⟨mk_Rule, in_Rule, kc_Rule⟩,
    ⟨fi_Rule_copied, is_Rule_copied, k_Rule_copied⟩,
    ⟨fi_Rule_depth, is_Rule_depth, k_Rule_depth⟩,
    ⟨fi_Rule_parts, is_Rule_parts, k_Rule_parts⟩,
    ⟨fi_Rule_runs, is_Rule_runs, k_Rule_runs⟩,
    ⟨fi_Rule_weight, is_Rule_weight, k_Rule_weight⟩,
    ⟨fi_Rule_words, is_Rule_words, k_Rule_words⟩,
    na_Rule_bits,
    na_Rule_first,
    na_Rule_last,
    na_Rule_inner,
    na_Rule_length,
    na_Rule_starts,
    na_Rule_one,
    na_Rule_other,
    na_Rule_days,
    ⟨pg_Week, hd_Week, po_Week, sa_Week⟩,
    ⟨mk_Week, fi_Week_init, is_Week_init, kc_Week⟩,
    ⟨fi_Week_copied, is_Week_copied, k_Week_copied⟩,
    ⟨me_Week_depth, is_Rule_depth, k_Rule_depth⟩,
    ⟨me_Week_parts, is_Rule_parts, k_Rule_parts⟩,
    ⟨fi_Week_runs, is_Week_runs, k_Week_runs⟩,
    ⟨me_Week_weight, is_Rule_weight, k_Rule_weight⟩,
    ⟨fi_Week_words, is_Week_words, k_Week_words⟩,
    na_Week_bits,
    na_Week_first,
    na_Week_last,
    na_Week_inner,
    na_Week_length,
    na_Week_starts,
    na_Week_one,
    na_Week_other,
    na_Week_days,
    ⟨pg_Span, hd_Span, po_Span, sa_Span⟩,
    ⟨mk_Span, fi_Span_init, is_Span_init, kc_Span⟩,
    ⟨fi_Span_copied, is_Span_copied, k_Span_copied⟩,
    ⟨me_Span_depth, is_Rule_depth, k_Rule_depth⟩,
    ⟨fi_Span_parts, is_Span_parts, k_Span_parts⟩,
    ⟨fi_Span_runs, is_Span_runs, k_Span_runs⟩,
    ⟨me_Span_weight, is_Rule_weight, k_Rule_weight⟩,
    ⟨fi_Span_words, is_Span_words, k_Span_words⟩,
    na_Span_bits,
    na_Span_first,
    na_Span_last,
    na_Span_inner,
    na_Span_length,
    na_Span_starts,
    na_Span_one,
    na_Span_other,
    na_Span_days,
    ⟨pg_Each, hd_Each, po_Each, sa_Each⟩,
    ⟨mk_Each, fi_Each_init, is_Each_init, kc_Each⟩,
    ⟨fi_Each_copied, is_Each_copied, k_Each_copied⟩,
    ⟨me_Each_depth, is_Rule_depth, k_Rule_depth⟩,
    ⟨me_Each_parts, is_Rule_parts, k_Rule_parts⟩,
    ⟨fi_Each_runs, is_Each_runs, k_Each_runs⟩,
    ⟨me_Each_weight, is_Rule_weight, k_Rule_weight⟩,
    ⟨fi_Each_words, is_Each_words, k_Each_words⟩,
    na_Each_bits,
    na_Each_first,
    na_Each_last,
    na_Each_inner,
    na_Each_length,
    na_Each_starts,
    na_Each_one,
    na_Each_other,
    na_Each_days,
    ⟨pg_Either, hd_Either, po_Either, sa_Either⟩,
    ⟨mk_Either, fi_Either_init, is_Either_init, kc_Either⟩,
    ⟨fi_Either_copied, is_Either_copied, k_Either_copied⟩,
    ⟨me_Either_depth, is_Rule_depth, k_Rule_depth⟩,
    ⟨fi_Either_parts, is_Either_parts, k_Either_parts⟩,
    ⟨fi_Either_runs, is_Either_runs, k_Either_runs⟩,
    ⟨me_Either_weight, is_Rule_weight, k_Rule_weight⟩,
    ⟨fi_Either_words, is_Either_words, k_Either_words⟩,
    na_Either_bits,
    na_Either_first,
    na_Either_last,
    na_Either_inner,
    na_Either_length,
    na_Either_starts,
    na_Either_one,
    na_Either_other,
    na_Either_days,
    ⟨pg_Both, hd_Both, po_Both, sa_Both⟩,
    ⟨mk_Both, fi_Both_init, is_Both_init, kc_Both⟩,
    ⟨fi_Both_copied, is_Both_copied, k_Both_copied⟩,
    ⟨me_Both_depth, is_Rule_depth, k_Rule_depth⟩,
    ⟨fi_Both_parts, is_Both_parts, k_Both_parts⟩,
    ⟨fi_Both_runs, is_Both_runs, k_Both_runs⟩,
    ⟨me_Both_weight, is_Rule_weight, k_Rule_weight⟩,
    ⟨fi_Both_words, is_Both_words, k_Both_words⟩,
    na_Both_bits,
    na_Both_first,
    na_Both_last,
    na_Both_inner,
    na_Both_length,
    na_Both_starts,
    na_Both_one,
    na_Both_other,
    na_Both_days,
    ⟨pg_But, hd_But, po_But, sa_But⟩,
    ⟨mk_But, fi_But_init, is_But_init, kc_But⟩,
    ⟨fi_But_copied, is_But_copied, k_But_copied⟩,
    ⟨me_But_depth, is_Rule_depth, k_Rule_depth⟩,
    ⟨fi_But_parts, is_But_parts, k_But_parts⟩,
    ⟨fi_But_runs, is_But_runs, k_But_runs⟩,
    ⟨me_But_weight, is_Rule_weight, k_Rule_weight⟩,
    ⟨fi_But_words, is_But_words, k_But_words⟩,
    na_But_bits,
    na_But_first,
    na_But_last,
    na_But_inner,
    na_But_length,
    na_But_starts,
    na_But_one,
    na_But_other,
    na_But_days,
    ⟨oa_Rule, ob_Rule, oc_Rule, od_Rule⟩,
    ki_Rule_Rule,
    ⟨oa_Week, ob_Week, oc_Week, od_Week⟩,
    ki_Week_Rule,
    ⟨oa_Span, ob_Span, oc_Span, od_Span⟩,
    ki_Span_Rule,
    ⟨oa_Each, ob_Each, oc_Each, od_Each⟩,
    ki_Each_Rule,
    ⟨oa_Either, ob_Either, oc_Either, od_Either⟩,
    ki_Either_Rule,
    ⟨oa_Both, ob_Both, oc_Both, od_Both⟩,
    ki_Both_Rule,
    ⟨oa_But, ob_But, oc_But, od_But⟩,
    ki_But_Rule,
    kt_NoneType_Rule,
    kt_str_Rule,
    kt_int_Rule,
    kt_list_Rule,
    kt_dict_Rule,
    PySem.W.mg_of X G a_RoadError,
    PySem.W.mg_of X G a_BadClock,
    PySem.W.mg_of X G a_BadRule,
    PySem.W.mg_of X G a_TooMany,
    PySem.W.mg_of X G a_BadName,
    PySem.W.mg_of X G a_Twice,
    PySem.W.mg_of X G a_NoStop,
    PySem.W.mg_of X G a_BadNumber,
    PySem.W.mg_of X G a_BadCalls,
    PySem.W.mg_of X G a_NoRun,
    PySem.W.mg_of X G a_TooLate,
    PySem.W.mg_of X G a_NoTraveller,
    PySem.W.mg_of X G a_BadLine,
    PySem.W.mg_of X G a_Rule,
    PySem.W.mg_of X G a_Week,
    PySem.W.mg_of X G a_Span,
    PySem.W.mg_of X G a_Each,
    PySem.W.mg_of X G a_Either,
    PySem.W.mg_of X G a_Both,
    PySem.W.mg_of X G a_But,
    ⟨e_BadClock⟩,
    ⟨by rw [g0_BadClock]; rfl, g1_BadClock, g2_BadClock, g3_BadClock, g4_BadClock, g5_BadClock, g6_BadClock, g7_BadClock⟩,
    k_BadClock_BadClock,
    k_BadClock_BadRule,
    k_BadClock_TooMany,
    k_BadClock_BadName,
    k_BadClock_Twice,
    k_BadClock_NoStop,
    k_BadClock_BadNumber,
    k_BadClock_BadCalls,
    k_BadClock_NoRun,
    k_BadClock_TooLate,
    k_BadClock_NoTraveller,
    k_BadClock_BadLine,
    v_BadClock,
    x_BadClock,
    ⟨e_BadRule⟩,
    ⟨by rw [g0_BadRule]; rfl, g1_BadRule, g2_BadRule, g3_BadRule, g4_BadRule, g5_BadRule, g6_BadRule, g7_BadRule⟩,
    k_BadRule_BadClock,
    k_BadRule_BadRule,
    k_BadRule_TooMany,
    k_BadRule_BadName,
    k_BadRule_Twice,
    k_BadRule_NoStop,
    k_BadRule_BadNumber,
    k_BadRule_BadCalls,
    k_BadRule_NoRun,
    k_BadRule_TooLate,
    k_BadRule_NoTraveller,
    k_BadRule_BadLine,
    v_BadRule,
    x_BadRule,
    ⟨e_BadNumber⟩,
    ⟨by rw [g0_BadNumber]; rfl, g1_BadNumber, g2_BadNumber, g3_BadNumber, g4_BadNumber, g5_BadNumber, g6_BadNumber, g7_BadNumber⟩,
    k_BadNumber_BadClock,
    k_BadNumber_BadRule,
    k_BadNumber_TooMany,
    k_BadNumber_BadName,
    k_BadNumber_Twice,
    k_BadNumber_NoStop,
    k_BadNumber_BadNumber,
    k_BadNumber_BadCalls,
    k_BadNumber_NoRun,
    k_BadNumber_TooLate,
    k_BadNumber_NoTraveller,
    k_BadNumber_BadLine,
    v_BadNumber,
    x_BadNumber⟩⟩
end K05
def PySem.W.Fast.tw6161435612981050527 : Nat := 0
def PySem.W.Fast.tw18042328896482560948 : Nat := 0
def PySem.W.Fast.tw8089984660850667970 : Nat := 0
def PySem.W.Fast.tw10053251442615874496 : Nat := 0
def PySem.W.Fast.tw13316325068318270442 : Nat := 0
def PySem.W.Fast.tw5357065757294013471 : Nat := 0
def PySem.W.Fast.tw811655991622724969 : Nat := 0
def PySem.W.Fast.tw5047776741999760853 : Nat := 0
def PySem.W.Fast.tw6896343311628542972 : Nat := 0
def PySem.W.Fast.tw17414343074792305733 : Nat := 0
def PySem.W.Fast.tw4616937317692342691 : Nat := 0
def PySem.W.Fast.tw12301748271821156708 : Nat := 0
def PySem.W.Fast.tw991298273750881843 : Nat := 0
def PySem.W.Fast.tw13188897694964955251 : Nat := 0
def PySem.W.Fast.tw10935726162765280105 : Nat := 0
def PySem.W.Fast.tw9035424001724178219 : Nat := 0
def PySem.W.Fast.tw8896774885176138962 : Nat := 0
def PySem.W.Fast.tw3235365985532677200 : Nat := 0
def PySem.W.Fast.tw9927921977192680250 : Nat := 0
def PySem.W.Fast.tw16911239174826766491 : Nat := 0
def PySem.W.Fast.tw11760326189944230762 : Nat := 0
def PySem.W.Fast.tw2112931012704770206 : Nat := 0
def PySem.W.Fast.tw17140501388020490260 : Nat := 0
def PySem.W.Fast.tw2605553733756600046 : Nat := 0
open PySem PySem.W PyProof.Rows
set_option maxRecDepth 100000 in
set_option maxHeartbeats 0 in
theorem PySem.Challenge.cw_roadbook_k05_next_days_holds : PySem.Challenge.rw_roadbook_k05_next_days.Holds := by
  w_on; o_law; k_head; (case hw => w_witness2)
  k_fill
  refine L2.walk_ofK (l := PySem.Challenge.rw_roadbook_k05_next_days) (n := 63) (k := 80) (x := "_law_script") (CX := L2.CX0) (sp := K05.sp_law) rfl (by decide) rfl ⟨rfl, by decide, by decide⟩ (fun w h Y => PySem.W.kIn_of Y) ?F (fun _ _ a ns hl _ hS => ⟨a, ns, rfl, hS, hl, fun _ => rfl⟩) fun _ _ _ _ z => z
  case F =>
    intro w mg fa h KX G hmg
    have T : ∃ t, K05.Tab (L2.KOf KX) mg t := by
      dsimp only [L2.KOf]
      refine' K05.all_mk KX G ?a_is_any_number ?l_is_any_number ?q_is_any_number ?k_is_any_number ?a_is_number ?l_is_number ?q_is_number ?k_is_number ?a_are_rising ?l_are_rising ?q_are_rising ?k_are_rising ?a_copy_of ?l_copy_of ?q_copy_of ?k_copy_of ?a_check_size ?l_check_size ?q_check_size ?k_check_size ?a_list_text ?l_list_text ?q_list_text ?k_list_text ?a_next_day ?l_next_day ?q_next_day ?k_next_day ?t_next_day ?a_law_cell ?l_law_cell ?q_law_cell ?k_law_cell ?a_law_draw ?l_law_draw ?q_law_draw ?k_law_draw ?a_law_whole ?l_law_whole ?q_law_whole ?k_law_whole ?a_law_rising ?l_law_rising ?q_law_rising ?k_law_rising ?a_law_leaf ?l_law_leaf ?q_law_leaf ?k_law_leaf ?a_law_tree ?l_law_tree ?q_law_tree ?k_law_tree ?a_law_made ?l_law_made ?q_law_made ?k_law_made ?a_law_runs ?l_law_runs ?q_law_runs ?k_law_runs ?a_law_class ?l_law_class ?q_law_class ?k_law_class ?a_law_due ?l_law_due ?q_law_due ?k_law_due ?a_law_told ?l_law_told ?q_law_told ?k_law_told ?a_law_same ?l_law_same ?q_law_same ?k_law_same ?a_law ?l_law ?q_law ?k_law ?a_RoadError ?a_BadClock ?a_BadRule ?a_TooMany ?a_BadName ?a_Twice ?a_NoStop ?a_BadNumber ?a_BadCalls ?a_NoRun ?a_TooLate ?a_NoTraveller ?a_BadLine ?a_Rule ?a_Week ?a_Span ?a_Each ?a_Either ?a_Both ?a_But ?fi_Rule_copied ?is_Rule_copied ?l_Rule_copied ?q_Rule_copied ?k_Rule_copied ?fi_Rule_parts ?is_Rule_parts ?l_Rule_parts ?q_Rule_parts ?k_Rule_parts ?fi_Rule_runs ?is_Rule_runs ?l_Rule_runs ?q_Rule_runs ?k_Rule_runs ?fi_Rule_words ?is_Rule_words ?l_Rule_words ?q_Rule_words ?k_Rule_words ?fi_Rule_weight ?is_Rule_weight ?l_Rule_weight ?q_Rule_weight ?k_Rule_weight ?fi_Rule_depth ?is_Rule_depth ?l_Rule_depth ?q_Rule_depth ?k_Rule_depth ?fi_Week_init ?is_Week_init ?l_Week_init ?q_Week_init ?k_Week_init ?fi_Week_copied ?is_Week_copied ?l_Week_copied ?q_Week_copied ?k_Week_copied ?fi_Week_runs ?is_Week_runs ?l_Week_runs ?q_Week_runs ?k_Week_runs ?fi_Week_words ?is_Week_words ?l_Week_words ?q_Week_words ?k_Week_words ?fi_Span_init ?is_Span_init ?l_Span_init ?q_Span_init ?k_Span_init ?fi_Span_copied ?is_Span_copied ?l_Span_copied ?q_Span_copied ?k_Span_copied ?fi_Span_parts ?is_Span_parts ?l_Span_parts ?q_Span_parts ?k_Span_parts ?fi_Span_runs ?is_Span_runs ?l_Span_runs ?q_Span_runs ?k_Span_runs ?fi_Span_words ?is_Span_words ?l_Span_words ?q_Span_words ?k_Span_words ?fi_Each_init ?is_Each_init ?l_Each_init ?q_Each_init ?k_Each_init ?fi_Each_copied ?is_Each_copied ?l_Each_copied ?q_Each_copied ?k_Each_copied ?fi_Each_runs ?is_Each_runs ?l_Each_runs ?q_Each_runs ?k_Each_runs ?fi_Each_words ?is_Each_words ?l_Each_words ?q_Each_words ?k_Each_words ?fi_Either_init ?is_Either_init ?l_Either_init ?q_Either_init ?k_Either_init ?fi_Either_copied ?is_Either_copied ?l_Either_copied ?q_Either_copied ?k_Either_copied ?fi_Either_parts ?is_Either_parts ?l_Either_parts ?q_Either_parts ?k_Either_parts ?fi_Either_runs ?is_Either_runs ?l_Either_runs ?q_Either_runs ?k_Either_runs ?fi_Either_words ?is_Either_words ?l_Either_words ?q_Either_words ?k_Either_words ?fi_Both_init ?is_Both_init ?l_Both_init ?q_Both_init ?k_Both_init ?fi_Both_copied ?is_Both_copied ?l_Both_copied ?q_Both_copied ?k_Both_copied ?fi_Both_parts ?is_Both_parts ?l_Both_parts ?q_Both_parts ?k_Both_parts ?fi_Both_runs ?is_Both_runs ?l_Both_runs ?q_Both_runs ?k_Both_runs ?fi_Both_words ?is_Both_words ?l_Both_words ?q_Both_words ?k_Both_words ?fi_But_init ?is_But_init ?l_But_init ?q_But_init ?k_But_init ?fi_But_copied ?is_But_copied ?l_But_copied ?q_But_copied ?k_But_copied ?fi_But_parts ?is_But_parts ?l_But_parts ?q_But_parts ?k_But_parts ?fi_But_runs ?is_But_runs ?l_But_runs ?q_But_runs ?k_But_runs ?fi_But_words ?is_But_words ?l_But_words ?q_But_words ?k_But_words ?pg_Rule ?hd_Rule ?po_Rule ?sa_Rule ?mk_Rule ?kc_Rule ?in_Rule ?na_Rule_bits ?na_Rule_first ?na_Rule_last ?na_Rule_inner ?na_Rule_length ?na_Rule_starts ?na_Rule_one ?na_Rule_other ?na_Rule_days ?pg_Week ?hd_Week ?po_Week ?sa_Week ?mk_Week ?kc_Week ?me_Week_depth ?me_Week_parts ?me_Week_weight ?na_Week_bits ?na_Week_first ?na_Week_last ?na_Week_inner ?na_Week_length ?na_Week_starts ?na_Week_one ?na_Week_other ?na_Week_days ?pg_Span ?hd_Span ?po_Span ?sa_Span ?mk_Span ?kc_Span ?me_Span_depth ?me_Span_weight ?na_Span_bits ?na_Span_first ?na_Span_last ?na_Span_inner ?na_Span_length ?na_Span_starts ?na_Span_one ?na_Span_other ?na_Span_days ?pg_Each ?hd_Each ?po_Each ?sa_Each ?mk_Each ?kc_Each ?me_Each_depth ?me_Each_parts ?me_Each_weight ?na_Each_bits ?na_Each_first ?na_Each_last ?na_Each_inner ?na_Each_length ?na_Each_starts ?na_Each_one ?na_Each_other ?na_Each_days ?pg_Either ?hd_Either ?po_Either ?sa_Either ?mk_Either ?kc_Either ?me_Either_depth ?me_Either_weight ?na_Either_bits ?na_Either_first ?na_Either_last ?na_Either_inner ?na_Either_length ?na_Either_starts ?na_Either_one ?na_Either_other ?na_Either_days ?pg_Both ?hd_Both ?po_Both ?sa_Both ?mk_Both ?kc_Both ?me_Both_depth ?me_Both_weight ?na_Both_bits ?na_Both_first ?na_Both_last ?na_Both_inner ?na_Both_length ?na_Both_starts ?na_Both_one ?na_Both_other ?na_Both_days ?pg_But ?hd_But ?po_But ?sa_But ?mk_But ?kc_But ?me_But_depth ?me_But_weight ?na_But_bits ?na_But_first ?na_But_last ?na_But_inner ?na_But_length ?na_But_starts ?na_But_one ?na_But_other ?na_But_days ?oa_Rule ?ob_Rule ?oc_Rule ?od_Rule ?ki_Rule_Rule ?oa_Week ?ob_Week ?oc_Week ?od_Week ?ki_Week_Rule ?oa_Span ?ob_Span ?oc_Span ?od_Span ?ki_Span_Rule ?oa_Each ?ob_Each ?oc_Each ?od_Each ?ki_Each_Rule ?oa_Either ?ob_Either ?oc_Either ?od_Either ?ki_Either_Rule ?oa_Both ?ob_Both ?oc_Both ?od_Both ?ki_Both_Rule ?oa_But ?ob_But ?oc_But ?od_But ?ki_But_Rule ?kt_NoneType_Rule ?kt_str_Rule ?kt_int_Rule ?kt_list_Rule ?kt_dict_Rule ?e_BadClock ?g0_BadClock ?g1_BadClock ?g2_BadClock ?g3_BadClock ?g4_BadClock ?g5_BadClock ?g6_BadClock ?g7_BadClock ?k_BadClock_BadClock ?k_BadClock_BadRule ?k_BadClock_TooMany ?k_BadClock_BadName ?k_BadClock_Twice ?k_BadClock_NoStop ?k_BadClock_BadNumber ?k_BadClock_BadCalls ?k_BadClock_NoRun ?k_BadClock_TooLate ?k_BadClock_NoTraveller ?k_BadClock_BadLine ?v_BadClock ?x_BadClock ?e_BadRule ?g0_BadRule ?g1_BadRule ?g2_BadRule ?g3_BadRule ?g4_BadRule ?g5_BadRule ?g6_BadRule ?g7_BadRule ?k_BadRule_BadClock ?k_BadRule_BadRule ?k_BadRule_TooMany ?k_BadRule_BadName ?k_BadRule_Twice ?k_BadRule_NoStop ?k_BadRule_BadNumber ?k_BadRule_BadCalls ?k_BadRule_NoRun ?k_BadRule_TooLate ?k_BadRule_NoTraveller ?k_BadRule_BadLine ?v_BadRule ?x_BadRule ?e_BadNumber ?g0_BadNumber ?g1_BadNumber ?g2_BadNumber ?g3_BadNumber ?g4_BadNumber ?g5_BadNumber ?g6_BadNumber ?g7_BadNumber ?k_BadNumber_BadClock ?k_BadNumber_BadRule ?k_BadNumber_TooMany ?k_BadNumber_BadName ?k_BadNumber_Twice ?k_BadNumber_NoStop ?k_BadNumber_BadNumber ?k_BadNumber_BadCalls ?k_BadNumber_NoRun ?k_BadNumber_TooLate ?k_BadNumber_NoTraveller ?k_BadNumber_BadLine ?v_BadNumber ?x_BadNumber ?z_ValueError ?z_bool ?z_int ?z_isinstance ?z_len ?z_list ?z_max ?z_min ?z_range ?z_set ?z_sorted ?z_str ?z_sum ?z_tuple ?v_LAST_DAY ?v_WEEK_DAYS ?v_ALL_WEEK ?v_MOST_LENGTH ?v_MOST_LISTED ?v_MOST_WEIGHT ?v_MOST_DEPTH ?v_MOST_LATER
      (case a_is_any_number => k_is)
      (case l_is_any_number => k_is)
      (case q_is_any_number => k_is)
      (case k_is_any_number => k_is)
      (case a_is_number => k_is)
      (case l_is_number => k_is)
      (case q_is_number => k_is)
      (case k_is_number => k_is)
      (case a_are_rising => k_is)
      (case l_are_rising => k_is)
      (case q_are_rising => k_is)
      (case k_are_rising => k_is)
      (case a_copy_of => k_is)
      (case l_copy_of => k_is)
      (case q_copy_of => k_is)
      (case k_copy_of => k_is)
      (case a_check_size => k_is)
      (case l_check_size => k_is)
      (case q_check_size => k_is)
      (case k_check_size => k_is)
      (case a_list_text => k_is)
      (case l_list_text => k_is)
      (case q_list_text => k_is)
      (case k_list_text => k_is)
      (case a_next_day => k_is)
      (case l_next_day => k_is)
      (case q_next_day => k_is)
      (case k_next_day => k_is)
      (case t_next_day => k_is)
      (case a_law_cell => k_is)
      (case l_law_cell => k_is)
      (case q_law_cell => k_is)
      (case k_law_cell => k_is)
      (case a_law_draw => k_is)
      (case l_law_draw => k_is)
      (case q_law_draw => k_is)
      (case k_law_draw => k_is)
      (case a_law_whole => k_is)
      (case l_law_whole => k_is)
      (case q_law_whole => k_is)
      (case k_law_whole => k_is)
      (case a_law_rising => k_is)
      (case l_law_rising => k_is)
      (case q_law_rising => k_is)
      (case k_law_rising => k_is)
      (case a_law_leaf => k_is)
      (case l_law_leaf => k_is)
      (case q_law_leaf => k_is)
      (case k_law_leaf => k_is)
      (case a_law_tree => k_is)
      (case l_law_tree => k_is)
      (case q_law_tree => k_is)
      (case k_law_tree => k_is)
      (case a_law_made => k_is)
      (case l_law_made => k_is)
      (case q_law_made => k_is)
      (case k_law_made => k_is)
      (case a_law_runs => k_is)
      (case l_law_runs => k_is)
      (case q_law_runs => k_is)
      (case k_law_runs => k_is)
      (case a_law_class => k_is)
      (case l_law_class => k_is)
      (case q_law_class => k_is)
      (case k_law_class => k_is)
      (case a_law_due => k_is)
      (case l_law_due => k_is)
      (case q_law_due => k_is)
      (case k_law_due => k_is)
      (case a_law_told => k_is)
      (case l_law_told => k_is)
      (case q_law_told => k_is)
      (case k_law_told => k_is)
      (case a_law_same => k_is)
      (case l_law_same => k_is)
      (case q_law_same => k_is)
      (case k_law_same => k_is)
      (case a_law => k_is)
      (case l_law => k_is)
      (case q_law => k_is)
      (case k_law => k_is)
      (case a_RoadError => k_is)
      (case a_BadClock => k_is)
      (case a_BadRule => k_is)
      (case a_TooMany => k_is)
      (case a_BadName => k_is)
      (case a_Twice => k_is)
      (case a_NoStop => k_is)
      (case a_BadNumber => k_is)
      (case a_BadCalls => k_is)
      (case a_NoRun => k_is)
      (case a_TooLate => k_is)
      (case a_NoTraveller => k_is)
      (case a_BadLine => k_is)
      (case a_Rule => k_is)
      (case a_Week => k_is)
      (case a_Span => k_is)
      (case a_Each => k_is)
      (case a_Either => k_is)
      (case a_Both => k_is)
      (case a_But => k_is)
      (case fi_Rule_copied => k_is)
      (case is_Rule_copied => k_is)
      (case l_Rule_copied => k_is)
      (case q_Rule_copied => k_is)
      (case k_Rule_copied => k_is)
      (case fi_Rule_parts => k_is)
      (case is_Rule_parts => k_is)
      (case l_Rule_parts => k_is)
      (case q_Rule_parts => k_is)
      (case k_Rule_parts => k_is)
      (case fi_Rule_runs => k_is)
      (case is_Rule_runs => k_is)
      (case l_Rule_runs => k_is)
      (case q_Rule_runs => k_is)
      (case k_Rule_runs => k_is)
      (case fi_Rule_words => k_is)
      (case is_Rule_words => k_is)
      (case l_Rule_words => k_is)
      (case q_Rule_words => k_is)
      (case k_Rule_words => k_is)
      (case fi_Rule_weight => k_is)
      (case is_Rule_weight => k_is)
      (case l_Rule_weight => k_is)
      (case q_Rule_weight => k_is)
      (case k_Rule_weight => k_is)
      (case fi_Rule_depth => k_is)
      (case is_Rule_depth => k_is)
      (case l_Rule_depth => k_is)
      (case q_Rule_depth => k_is)
      (case k_Rule_depth => k_is)
      (case fi_Week_init => k_is)
      (case is_Week_init => k_is)
      (case l_Week_init => k_is)
      (case q_Week_init => k_is)
      (case k_Week_init => k_is)
      (case fi_Week_copied => k_is)
      (case is_Week_copied => k_is)
      (case l_Week_copied => k_is)
      (case q_Week_copied => k_is)
      (case k_Week_copied => k_is)
      (case fi_Week_runs => k_is)
      (case is_Week_runs => k_is)
      (case l_Week_runs => k_is)
      (case q_Week_runs => k_is)
      (case k_Week_runs => k_is)
      (case fi_Week_words => k_is)
      (case is_Week_words => k_is)
      (case l_Week_words => k_is)
      (case q_Week_words => k_is)
      (case k_Week_words => k_is)
      (case fi_Span_init => k_is)
      (case is_Span_init => k_is)
      (case l_Span_init => k_is)
      (case q_Span_init => k_is)
      (case k_Span_init => k_is)
      (case fi_Span_copied => k_is)
      (case is_Span_copied => k_is)
      (case l_Span_copied => k_is)
      (case q_Span_copied => k_is)
      (case k_Span_copied => k_is)
      (case fi_Span_parts => k_is)
      (case is_Span_parts => k_is)
      (case l_Span_parts => k_is)
      (case q_Span_parts => k_is)
      (case k_Span_parts => k_is)
      (case fi_Span_runs => k_is)
      (case is_Span_runs => k_is)
      (case l_Span_runs => k_is)
      (case q_Span_runs => k_is)
      (case k_Span_runs => k_is)
      (case fi_Span_words => k_is)
      (case is_Span_words => k_is)
      (case l_Span_words => k_is)
      (case q_Span_words => k_is)
      (case k_Span_words => k_is)
      (case fi_Each_init => k_is)
      (case is_Each_init => k_is)
      (case l_Each_init => k_is)
      (case q_Each_init => k_is)
      (case k_Each_init => k_is)
      (case fi_Each_copied => k_is)
      (case is_Each_copied => k_is)
      (case l_Each_copied => k_is)
      (case q_Each_copied => k_is)
      (case k_Each_copied => k_is)
      (case fi_Each_runs => k_is)
      (case is_Each_runs => k_is)
      (case l_Each_runs => k_is)
      (case q_Each_runs => k_is)
      (case k_Each_runs => k_is)
      (case fi_Each_words => k_is)
      (case is_Each_words => k_is)
      (case l_Each_words => k_is)
      (case q_Each_words => k_is)
      (case k_Each_words => k_is)
      (case fi_Either_init => k_is)
      (case is_Either_init => k_is)
      (case l_Either_init => k_is)
      (case q_Either_init => k_is)
      (case k_Either_init => k_is)
      (case fi_Either_copied => k_is)
      (case is_Either_copied => k_is)
      (case l_Either_copied => k_is)
      (case q_Either_copied => k_is)
      (case k_Either_copied => k_is)
      (case fi_Either_parts => k_is)
      (case is_Either_parts => k_is)
      (case l_Either_parts => k_is)
      (case q_Either_parts => k_is)
      (case k_Either_parts => k_is)
      (case fi_Either_runs => k_is)
      (case is_Either_runs => k_is)
      (case l_Either_runs => k_is)
      (case q_Either_runs => k_is)
      (case k_Either_runs => k_is)
      (case fi_Either_words => k_is)
      (case is_Either_words => k_is)
      (case l_Either_words => k_is)
      (case q_Either_words => k_is)
      (case k_Either_words => k_is)
      (case fi_Both_init => k_is)
      (case is_Both_init => k_is)
      (case l_Both_init => k_is)
      (case q_Both_init => k_is)
      (case k_Both_init => k_is)
      (case fi_Both_copied => k_is)
      (case is_Both_copied => k_is)
      (case l_Both_copied => k_is)
      (case q_Both_copied => k_is)
      (case k_Both_copied => k_is)
      (case fi_Both_parts => k_is)
      (case is_Both_parts => k_is)
      (case l_Both_parts => k_is)
      (case q_Both_parts => k_is)
      (case k_Both_parts => k_is)
      (case fi_Both_runs => k_is)
      (case is_Both_runs => k_is)
      (case l_Both_runs => k_is)
      (case q_Both_runs => k_is)
      (case k_Both_runs => k_is)
      (case fi_Both_words => k_is)
      (case is_Both_words => k_is)
      (case l_Both_words => k_is)
      (case q_Both_words => k_is)
      (case k_Both_words => k_is)
      (case fi_But_init => k_is)
      (case is_But_init => k_is)
      (case l_But_init => k_is)
      (case q_But_init => k_is)
      (case k_But_init => k_is)
      (case fi_But_copied => k_is)
      (case is_But_copied => k_is)
      (case l_But_copied => k_is)
      (case q_But_copied => k_is)
      (case k_But_copied => k_is)
      (case fi_But_parts => k_is)
      (case is_But_parts => k_is)
      (case l_But_parts => k_is)
      (case q_But_parts => k_is)
      (case k_But_parts => k_is)
      (case fi_But_runs => k_is)
      (case is_But_runs => k_is)
      (case l_But_runs => k_is)
      (case q_But_runs => k_is)
      (case k_But_runs => k_is)
      (case fi_But_words => k_is)
      (case is_But_words => k_is)
      (case l_But_words => k_is)
      (case q_But_words => k_is)
      (case k_But_words => k_is)
      (case pg_Rule => k_is)
      (case hd_Rule => k_is)
      (case po_Rule => k_is)
      (case sa_Rule => k_is)
      (case mk_Rule => k_is)
      (case kc_Rule => k_is)
      (case in_Rule => k_is)
      (case na_Rule_bits => k_is)
      (case na_Rule_first => k_is)
      (case na_Rule_last => k_is)
      (case na_Rule_inner => k_is)
      (case na_Rule_length => k_is)
      (case na_Rule_starts => k_is)
      (case na_Rule_one => k_is)
      (case na_Rule_other => k_is)
      (case na_Rule_days => k_is)
      (case pg_Week => k_is)
      (case hd_Week => k_is)
      (case po_Week => k_is)
      (case sa_Week => k_is)
      (case mk_Week => k_is)
      (case kc_Week => k_is)
      (case me_Week_depth => k_is)
      (case me_Week_parts => k_is)
      (case me_Week_weight => k_is)
      (case na_Week_bits => k_is)
      (case na_Week_first => k_is)
      (case na_Week_last => k_is)
      (case na_Week_inner => k_is)
      (case na_Week_length => k_is)
      (case na_Week_starts => k_is)
      (case na_Week_one => k_is)
      (case na_Week_other => k_is)
      (case na_Week_days => k_is)
      (case pg_Span => k_is)
      (case hd_Span => k_is)
      (case po_Span => k_is)
      (case sa_Span => k_is)
      (case mk_Span => k_is)
      (case kc_Span => k_is)
      (case me_Span_depth => k_is)
      (case me_Span_weight => k_is)
      (case na_Span_bits => k_is)
      (case na_Span_first => k_is)
      (case na_Span_last => k_is)
      (case na_Span_inner => k_is)
      (case na_Span_length => k_is)
      (case na_Span_starts => k_is)
      (case na_Span_one => k_is)
      (case na_Span_other => k_is)
      (case na_Span_days => k_is)
      (case pg_Each => k_is)
      (case hd_Each => k_is)
      (case po_Each => k_is)
      (case sa_Each => k_is)
      (case mk_Each => k_is)
      (case kc_Each => k_is)
      (case me_Each_depth => k_is)
      (case me_Each_parts => k_is)
      (case me_Each_weight => k_is)
      (case na_Each_bits => k_is)
      (case na_Each_first => k_is)
      (case na_Each_last => k_is)
      (case na_Each_inner => k_is)
      (case na_Each_length => k_is)
      (case na_Each_starts => k_is)
      (case na_Each_one => k_is)
      (case na_Each_other => k_is)
      (case na_Each_days => k_is)
      (case pg_Either => k_is)
      (case hd_Either => k_is)
      (case po_Either => k_is)
      (case sa_Either => k_is)
      (case mk_Either => k_is)
      (case kc_Either => k_is)
      (case me_Either_depth => k_is)
      (case me_Either_weight => k_is)
      (case na_Either_bits => k_is)
      (case na_Either_first => k_is)
      (case na_Either_last => k_is)
      (case na_Either_inner => k_is)
      (case na_Either_length => k_is)
      (case na_Either_starts => k_is)
      (case na_Either_one => k_is)
      (case na_Either_other => k_is)
      (case na_Either_days => k_is)
      (case pg_Both => k_is)
      (case hd_Both => k_is)
      (case po_Both => k_is)
      (case sa_Both => k_is)
      (case mk_Both => k_is)
      (case kc_Both => k_is)
      (case me_Both_depth => k_is)
      (case me_Both_weight => k_is)
      (case na_Both_bits => k_is)
      (case na_Both_first => k_is)
      (case na_Both_last => k_is)
      (case na_Both_inner => k_is)
      (case na_Both_length => k_is)
      (case na_Both_starts => k_is)
      (case na_Both_one => k_is)
      (case na_Both_other => k_is)
      (case na_Both_days => k_is)
      (case pg_But => k_is)
      (case hd_But => k_is)
      (case po_But => k_is)
      (case sa_But => k_is)
      (case mk_But => k_is)
      (case kc_But => k_is)
      (case me_But_depth => k_is)
      (case me_But_weight => k_is)
      (case na_But_bits => k_is)
      (case na_But_first => k_is)
      (case na_But_last => k_is)
      (case na_But_inner => k_is)
      (case na_But_length => k_is)
      (case na_But_starts => k_is)
      (case na_But_one => k_is)
      (case na_But_other => k_is)
      (case na_But_days => k_is)
      (case oa_Rule => k_is)
      (case ob_Rule => k_is)
      (case oc_Rule => k_is)
      (case od_Rule => k_is)
      (case ki_Rule_Rule => kit_is)
      (case oa_Week => k_is)
      (case ob_Week => k_is)
      (case oc_Week => k_is)
      (case od_Week => k_is)
      (case ki_Week_Rule => kit_is)
      (case oa_Span => k_is)
      (case ob_Span => k_is)
      (case oc_Span => k_is)
      (case od_Span => k_is)
      (case ki_Span_Rule => kit_is)
      (case oa_Each => k_is)
      (case ob_Each => k_is)
      (case oc_Each => k_is)
      (case od_Each => k_is)
      (case ki_Each_Rule => kit_is)
      (case oa_Either => k_is)
      (case ob_Either => k_is)
      (case oc_Either => k_is)
      (case od_Either => k_is)
      (case ki_Either_Rule => kit_is)
      (case oa_Both => k_is)
      (case ob_Both => k_is)
      (case oc_Both => k_is)
      (case od_Both => k_is)
      (case ki_Both_Rule => kit_is)
      (case oa_But => k_is)
      (case ob_But => k_is)
      (case oc_But => k_is)
      (case od_But => k_is)
      (case ki_But_Rule => kit_is)
      (case kt_NoneType_Rule => kit_is)
      (case kt_str_Rule => kit_is)
      (case kt_int_Rule => kit_is)
      (case kt_list_Rule => kit_is)
      (case kt_dict_Rule => kit_is)
      (case e_BadClock => k_exc)
      (case g0_BadClock => k_is)
      (case g1_BadClock => k_is)
      (case g2_BadClock => k_is)
      (case g3_BadClock => k_is)
      (case g4_BadClock => k_is)
      (case g5_BadClock => k_is)
      (case g6_BadClock => k_is)
      (case g7_BadClock => k_is)
      (case k_BadClock_BadClock => kit_is)
      (case k_BadClock_BadRule => kit_is)
      (case k_BadClock_TooMany => kit_is)
      (case k_BadClock_BadName => kit_is)
      (case k_BadClock_Twice => kit_is)
      (case k_BadClock_NoStop => kit_is)
      (case k_BadClock_BadNumber => kit_is)
      (case k_BadClock_BadCalls => kit_is)
      (case k_BadClock_NoRun => kit_is)
      (case k_BadClock_TooLate => kit_is)
      (case k_BadClock_NoTraveller => kit_is)
      (case k_BadClock_BadLine => kit_is)
      (case v_BadClock => kit_is)
      (case x_BadClock => kts_exm)
      (case e_BadRule => k_exc)
      (case g0_BadRule => k_is)
      (case g1_BadRule => k_is)
      (case g2_BadRule => k_is)
      (case g3_BadRule => k_is)
      (case g4_BadRule => k_is)
      (case g5_BadRule => k_is)
      (case g6_BadRule => k_is)
      (case g7_BadRule => k_is)
      (case k_BadRule_BadClock => kit_is)
      (case k_BadRule_BadRule => kit_is)
      (case k_BadRule_TooMany => kit_is)
      (case k_BadRule_BadName => kit_is)
      (case k_BadRule_Twice => kit_is)
      (case k_BadRule_NoStop => kit_is)
      (case k_BadRule_BadNumber => kit_is)
      (case k_BadRule_BadCalls => kit_is)
      (case k_BadRule_NoRun => kit_is)
      (case k_BadRule_TooLate => kit_is)
      (case k_BadRule_NoTraveller => kit_is)
      (case k_BadRule_BadLine => kit_is)
      (case v_BadRule => kit_is)
      (case x_BadRule => kts_exm)
      (case e_BadNumber => k_exc)
      (case g0_BadNumber => k_is)
      (case g1_BadNumber => k_is)
      (case g2_BadNumber => k_is)
      (case g3_BadNumber => k_is)
      (case g4_BadNumber => k_is)
      (case g5_BadNumber => k_is)
      (case g6_BadNumber => k_is)
      (case g7_BadNumber => k_is)
      (case k_BadNumber_BadClock => kit_is)
      (case k_BadNumber_BadRule => kit_is)
      (case k_BadNumber_TooMany => kit_is)
      (case k_BadNumber_BadName => kit_is)
      (case k_BadNumber_Twice => kit_is)
      (case k_BadNumber_NoStop => kit_is)
      (case k_BadNumber_BadNumber => kit_is)
      (case k_BadNumber_BadCalls => kit_is)
      (case k_BadNumber_NoRun => kit_is)
      (case k_BadNumber_TooLate => kit_is)
      (case k_BadNumber_NoTraveller => kit_is)
      (case k_BadNumber_BadLine => kit_is)
      (case v_BadNumber => kit_is)
      (case x_BadNumber => kts_exm)
      (case z_ValueError => k_is)
      (case z_bool => k_is)
      (case z_int => k_is)
      (case z_isinstance => k_is)
      (case z_len => k_is)
      (case z_list => k_is)
      (case z_max => k_is)
      (case z_min => k_is)
      (case z_range => k_is)
      (case z_set => k_is)
      (case z_sorted => k_is)
      (case z_str => k_is)
      (case z_sum => k_is)
      (case z_tuple => k_is)
      (case v_LAST_DAY => k_is)
      (case v_WEEK_DAYS => k_is)
      (case v_ALL_WEEK => k_is)
      (case v_MOST_LENGTH => k_is)
      (case v_MOST_LISTED => k_is)
      (case v_MOST_WEIGHT => k_is)
      (case v_MOST_DEPTH => k_is)
      (case v_MOST_LATER => k_is)
    obtain ⟨t, T⟩ := T
    have e0 := hmg.symm.trans T.m_law
    cases e0
    refine' ⟨t.d_law, ?b, fun base kb nb => K05.ok_law T⟩
    obtain ⟨oc, od, kV, doc, pm, an, cdv, ct, osl, e, _, _⟩ := T.F_law.ex
    rw [e]
    exact fun s u => .of_eq rfl
