
import PyProof.Rows.All
import Wide.All
import OpenK.AllK
import Wide.FinOn
import Lean
import PyProof.EqAt
import PyProof.EqKinds
import PyProof.TupleCall
import KE.KIntText
import PyProof.CompFree
import PyProof.P3Eq
import PyProof.NeData
import PyProof.StrLawsTight
import PyProof.StrLawsReplace
import PyProof.StrCalls2
import KE.IntTextLaws
import PySem.Challenge.RW_roadbook_k02_moments
set_option Elab.async false
set_option linter.all false
set_option maxRecDepth 100000
/-! THE HAND LAYER, for ints, bools, texts, own classes, LISTS and tuples (index, slices, in, append, pop ..), calls, loops. Paste it whole ahead of your own text; what your proof does not reach may be deleted. -/
namespace L2
open PySem PySem.Spec PyProof.Rows

/- a key: an int or a str -/
abbrev Key := Sum Int Str
def keyIs : Key → Value → Bool
  | .inl k, v => Value.isInt k v
  | .inr x, v => Value.isStrOf x v
def keyH (w : World) : Key → Int
  | .inl k => hashInt k
  | .inr x => hashStr w x
theorem keyIs_shape : ∀ {k : Key} {v : Value}, keyIs k v = true → (∃ i t, k = Sum.inl i ∧ v = Value.int i t) ∨ (∃ x t, k = Sum.inr x ∧ v = Value.str x t)
  | .inl i, v, h => by
    obtain ⟨t, e⟩ := Value.isInt_shape (k := i) (v := v) h
    exact .inl ⟨i, t, rfl, e⟩
  | .inr x, v, h => by
    obtain ⟨t, e⟩ := Value.isStrOf_shape (x := x) (v := v) h
    exact .inr ⟨x, t, rfl, e⟩
theorem key_ll (a b : Int) : decide ((Sum.inl a : Key) = Sum.inl b) = (a == b) := by
  by_cases e : a = b
  · subst e; simp
  · have h : ¬ (Sum.inl a : Key) = Sum.inl b := fun q => e (Sum.inl.inj q)
    rw [decide_eq_false h]
    exact (beq_eq_false_iff_ne.mpr e).symm
theorem key_rr (a b : Str) : decide ((Sum.inr a : Key) = Sum.inr b) = decide (a = b) := by
  by_cases e : a = b
  · subst e; simp
  · have h : ¬ (Sum.inr a : Key) = Sum.inr b := fun q => e (Sum.inr.inj q)
    rw [decide_eq_false h, decide_eq_false e]
theorem key_lr (a : Int) (b : Str) : decide ((Sum.inl a : Key) = Sum.inr b) = false := decide_eq_false (fun q => nomatch q)
theorem key_rl (a : Str) (b : Int) : decide ((Sum.inr a : Key) = Sum.inl b) = false := decide_eq_false (fun q => nomatch q)

def mixKind (prog : Program) (w : World) : PySem.KeyKind prog w Key where
  is := keyIs
  hash := keyH w
  inj := fun v a b ha hb => by
    rcases keyIs_shape ha with ⟨i, t, rfl, rfl⟩ | ⟨x, t, rfl, rfl⟩
    · rcases keyIs_shape hb with ⟨j, u, rfl, e⟩ | ⟨y, u, rfl, e⟩
      · injection e with e1 _; rw [e1]
      · exact nomatch e
    · rcases keyIs_shape hb with ⟨j, u, rfl, e⟩ | ⟨y, u, rfl, e⟩
      · exact nomatch e
      · injection e with e1 _; rw [e1]
  byValue := fun k v h => by
    rcases keyIs_shape h with ⟨i, t, rfl, rfl⟩ | ⟨x, t, rfl, rfl⟩ <;> rfl
  pyHash := fun hv h => by
    rcases keyIs_shape hv with ⟨i, t, rfl, rfl⟩ | ⟨x, t, rfl, rfl⟩
    · exact wpAny_pyHash_int h
    · exact wpAny_pyHash_str h
  eqBool := fun hu hv h => by
    rcases keyIs_shape hu with ⟨i, t, rfl, rfl⟩ | ⟨x, t, rfl, rfl⟩
    · rcases keyIs_shape hv with ⟨j, u, rfl, rfl⟩ | ⟨y, u, rfl, rfl⟩
      · rw [key_ll] at h; exact wpAny_eqBool_int h
      · rw [key_lr] at h; exact SeqAt.EqAt.int_str i t y u _ _ _ _ h
    · rcases keyIs_shape hv with ⟨j, u, rfl, rfl⟩ | ⟨y, u, rfl, rfl⟩
      · rw [key_rl] at h; exact SeqAt.EqAt.str_int x t j u _ _ _ _ h
      · rw [key_rr] at h; exact wpAny_eqBool_str h
  «strs» := fun k x t v h => by
    rcases keyIs_shape h with ⟨i, u, rfl, e⟩ | ⟨y, u, rfl, e⟩
    · exact nomatch e
    · injection e with e1 _
      subst e1
      cases v <;> rfl

end L2

namespace L2
open PySem PySem.Spec PyProof.Rows

/- a value, without the heap -/
inductive V where
  | non | bl (b : Bool) | int (i : Int) | str (x : Str) | byt (b : Array UInt8) | flt (b : UInt64) | ref (a : Addr) | ty (n : String)
  deriving DecidableEq

def RelV : V → Value → Prop
  | .non, u => u = Value.none
  | .bl b, u => u = Value.bool b
  | .int i, u => ∃ t, u = Value.int i t
  | .str x, u => ∃ t, u = Value.str x t
  | .byt b, u => ∃ t, u = Value.bytes b t
  | .flt b, u => ∃ t, u = Value.float b t
  | .ref a, u => u = Value.ref a
  | .ty n, u => u = Value.type n

abbrev Vals : List V → List Value → Prop := Paired RelV
theorem Vals.length {xs : List V} {us : List Value} (r : Vals xs us) : xs.length = us.length := Paired.length r
theorem Vals.get : ∀ {xs : List V} {us : List Value} {i : Nat} {x : V}, Vals xs us → xs[i]? = some x → ∃ u, us[i]? = some u ∧ RelV x u
  | _, _, _, _, .nil, e => by simp at e
  | _, _, 0, _, .cons r _, e => by simp at e; subst e; exact ⟨_, rfl, r⟩
  | _, _, i + 1, x, .cons _ t, e => by
    obtain ⟨u, h1, h2⟩ := Vals.get (i := i) (x := x) t (by simpa using e)
    exact ⟨u, by simpa using h1, h2⟩
theorem Vals.set {x : V} {u : Value} (r : RelV x u) : ∀ {xs : List V} {us : List Value} (i : Nat), Vals xs us → Vals (xs.set i x) (us.set i u)
  | _, _, _, .nil => .nil
  | _, _, 0, .cons _ t => .cons r t
  | _, _, i + 1, .cons q t => .cons q (Vals.set r i t)
theorem Vals.append : ∀ {xs ys : List V} {us ws : List Value}, Vals xs us → Vals ys ws → Vals (xs ++ ys) (us ++ ws)
  | _, _, _, _, .nil, s => s
  | _, _, _, _, .cons r t, s => .cons r (Vals.append t s)
theorem Vals.take : ∀ {xs : List V} {us : List Value} (n : Nat), Vals xs us → Vals (xs.take n) (us.take n)
  | _, _, 0, _ => .nil
  | _, _, _ + 1, .nil => .nil
  | _, _, n + 1, .cons r t => .cons r (Vals.take n t)
theorem Vals.drop : ∀ {xs : List V} {us : List Value} (n : Nat), Vals xs us → Vals (xs.drop n) (us.drop n)
  | _, _, 0, r => r
  | _, _, _ + 1, .nil => .nil
  | _, _, n + 1, .cons _ t => Vals.drop n t
theorem Vals.none_of : ∀ {xs : List V} {us : List Value} {i : Nat}, Vals xs us → xs[i]? = none → us[i]? = none := fun {xs us i} r e => by
  have h1 := r.length
  have h2 : xs.length ≤ i := List.getElem?_eq_none_iff.mp e
  exact List.getElem?_eq_none_iff.mpr (by omega)

def RelO : Option V → Option Value → Prop
  | some v, some u => RelV v u
  | none, none => True
  | _, _ => False
def KV {κ : Type} : List (κ × V) → List (κ × Value) → Prop := Paired fun (p : κ × V) (q : κ × Value) => p.1 = q.1 ∧ RelV p.2 q.2

/- a key of a dict (00_mix): an int or a text -/
def kV : Key → V
  | .inl i => .int i
  | .inr x => .str x

/- what stands at a tracked address -/
inductive HO where
  /-- a list -/
  | lst (xs : List V)
  /-- a tuple (never changes) -/
  | tup (xs : List V)
  /-- a dict whose keys are ints and texts; one whose keys are tuples of ints and texts (the empty one is both) -/
  | dK (kvs : List (Key × V)) | dT (kvs : List (List Key × V))
  /-- a set of ints: its members, its size -/
  | set (S : Int → Bool) (n : Nat)
  /-- an instance of the class at C, its dict at dx, its attributes -/
  | ins (C dx : Addr) (fs : List (Str × V))
  /-- the dict of the instance at x -/
  | own (x : Addr)
  /-- the dict of an exception -/
  | xd (fs : List (Str × V))
  /-- a bound method, f of x -/
  | met (f x : Addr)
  /-- a range object lo, lo + 1, .. below hi -/
  | rng (lo hi : Int)
  /-- a thing that is known to the object (the script; a dict while a loop walks it): read, never written while it is so -/
  | frz (o : Obj) (u : HO)
  /-- a code object's table -/
  | tbl (ps : Array Value)
  /-- any other thing, by what is true of its one object (a def of one's own: SetO a S n := HO.ext fun h => ..) -/
  | ext (φ : Heap → Prop)

abbrev Hp := Addr → Option HO
def upd (H : Hp) (a : Addr) (o : HO) : Hp := fun b => if b = a then some o else H b
theorem upd_same {H : Hp} {a : Addr} {o : HO} : upd H a o a = some o := by unfold upd; rw [if_pos rfl]
theorem upd_ne {H : Hp} {a b : Addr} {o : HO} (h : b ≠ a) : upd H a o b = H b := by unfold upd; rw [if_neg h]
/- two objects of different content stand apart -/
theorem ne_of_none {H : Hp} {a b : Addr} {o : HO} (h : H a = some o) (h' : H b = none) : a ≠ b := by
  intro e; subst e; rw [h] at h'; cases h'

section
variable (P : Program) (w : World)
def ObjOk (H : Hp) (h : Heap) (a : Addr) : HO → Prop
  | .lst xs => xs.length ≤ sizeLine ∧ ∃ (its : List Value) (n : Nat), Vals xs its ∧ h.get? a = some { cls := .type "list", data := .seq its.toArray n }
  | .tup xs => xs.length ≤ sizeLine ∧ ∃ its : List Value, Vals xs its ∧ IsTup h a its.toArray
  | .dK kvs => kvs.length ≤ sizeLine ∧ (a == sysModules) = false ∧ ∃ vs, KV kvs vs ∧ h.DictOf (mixKind P w) a vs
  | .dT kvs => kvs.length ≤ sizeLine ∧ (a == sysModules) = false ∧ ∃ xs : List (List Key × Addr × Value),
      Paired (fun (p : List Key × V) (q : List Key × Addr × Value) => p.1 = q.1 ∧ H q.2.1 = some (.tup (p.1.map kV)) ∧ RelV p.2 q.2.2) kvs xs ∧
      ∃ o es ep, h.get? a = some o ∧ o.ExactDict ∧ o.data = .dict es ep ∧ es.toList = xs.map (entryOfKey (tupleKind (mixKind P w))) ∧ (xs.map (·.1)).Nodup
  | .set S n => h.SetOf (intKind P w) a S n
  | .ins C dx fs => H dx = some (.own a) ∧ fs.length ≤ 1000 ∧ dx ≠ a ∧ h.get? a = some (PySem.W.instObj C dx) ∧
      ∃ mA, h.Ns1 dx mA ∧ (∀ f, RelO (fs.lookup f) (mA f)) ∧ PySem.Within mA (fs.map (·.1))
  | .own _ => ∃ o, h.get? a = some o
  | .xd fs => ∃ mA, h.Ns1 a mA ∧ ∀ f, RelO (fs.lookup f) (mA f)
  | .rng lo hi => ∃ t u v, h.get? a = some { cls := .type "range", data := .fields #[.int lo t, .int hi u, .int 1 v] }
  | .frz o u => h.get? a = some o ∧ ObjOk H h a u
  | .tbl ps => h.get? a = some { cls := .none, data := .fields ps }
  | .met f x => h.get? a = some (PySem.W.methodObj (.ref f) (.ref x))
  | .ext φ => φ h ∧ (∃ o, h.get? a = some o) ∧ ∀ h1 h2 : Heap, φ h1 → (∀ o, h1.get? a = some o → h2.get? a = some o) → φ h2
/- the abstract heap is held -/
def HOk (H : Hp) (h : Heap) : Prop := ∀ a o, H a = some o → ObjOk P w H h a o
end

section
variable {P : Program} {w : World} {H H' : Hp} {h h' : Heap} {a : Addr} {o : HO}
theorem ObjOk.lt (x : ObjOk P w H h a o) : a < h.objs.size := by
  cases o with
  | lst xs => obtain ⟨_, _, _, _, e⟩ := x; exact Heap.lt_size e
  | tup xs => obtain ⟨_, _, _, p⟩ := x; exact p.lt
  | dK kvs => obtain ⟨_, _, _, _, o, _, _, e, _⟩ := x; exact Heap.lt_size e
  | dT kvs => obtain ⟨_, _, _, _, o, _, _, e, _⟩ := x; exact Heap.lt_size e
  | set S n => obtain ⟨o, _, _, _, e, _⟩ := x; exact Heap.lt_size e
  | ins C dx fs => obtain ⟨_, _, _, e, _⟩ := x; exact Heap.lt_size e
  | own y => obtain ⟨_, e⟩ := x; exact Heap.lt_size e
  | xd fs => obtain ⟨_, ⟨_, _, _, e, _⟩, _⟩ := x; exact Heap.lt_size e
  | rng lo hi => obtain ⟨_, _, _, e⟩ := x; exact Heap.lt_size e
  | frz ob u => obtain ⟨e, _⟩ := x; exact Heap.lt_size e
  | tbl ps => exact Heap.lt_size (show h.get? a = some _ from x)
  | met f y => exact Heap.lt_size (show h.get? a = some _ from x)
  | ext φ => obtain ⟨_, ⟨_, e⟩, _⟩ := x; exact Heap.lt_size e
theorem Paired.mapP {α β : Type} {F G : α → β → Prop} : ∀ {l₁ : List α} {l₂ : List β}, Paired F l₁ l₂ → (∀ a b, F a b → G a b) → Paired G l₁ l₂
  | _, _, .nil, _ => .nil
  | _, _, .cons r t, f => .cons (f _ _ r) (Paired.mapP t f)
/- what an object's description leans on: its own object, its own dict, the tuples -/
theorem ObjOk.stay (x : ObjOk P w H h a o) (k : ∀ b u, (b = a ∨ H b = some (.own a)) → h.get? b = some u → h'.get? b = some u)
    (ho : ∀ b, H b = some (.own a) → H' b = some (.own a)) (ht : ∀ b xs, H b = some (.tup xs) → H' b = some (.tup xs)) : ObjOk P w H' h' a o := by
  induction o with
  | lst xs => obtain ⟨z, its, n, r, e⟩ := x; exact ⟨z, its, n, r, k _ _ (.inl rfl) e⟩
  | tup xs => obtain ⟨z, its, r, ob, e, c⟩ := x; exact ⟨z, its, r, ob, k _ _ (.inl rfl) e, c⟩
  | dK kvs => obtain ⟨z, y, vs, r, ob, es, ep, e, c⟩ := x; exact ⟨z, y, vs, r, ob, es, ep, k _ _ (.inl rfl) e, c⟩
  | dT kvs =>
    obtain ⟨z, y, xs, r, ob, es, ep, e, c⟩ := x
    exact ⟨z, y, xs, Paired.mapP r fun p q z => ⟨z.1, ht _ _ z.2.1, z.2.2⟩, ob, es, ep, k _ _ (.inl rfl) e, c⟩
  | set S n => obtain ⟨ob, es, ep, t, e, c⟩ := x; exact ⟨ob, es, ep, t, k _ _ (.inl rfl) e, c⟩
  | ins C dx fs =>
    obtain ⟨d, z, ne, e, mA, ⟨od, es, ep, e2, c⟩, r⟩ := x
    exact ⟨ho _ d, z, ne, k _ _ (.inl rfl) e, mA, ⟨od, es, ep, k _ _ (.inr d) e2, c⟩, r⟩
  | own y => obtain ⟨ob, e⟩ := x; exact ⟨ob, k _ _ (.inl rfl) e⟩
  | xd fs => obtain ⟨mA, ⟨od, es, ep, e, c⟩, r⟩ := x; exact ⟨mA, ⟨od, es, ep, k _ _ (.inl rfl) e, c⟩, r⟩
  | rng lo hi => obtain ⟨t, u, v, e⟩ := x; exact ⟨t, u, v, k _ _ (.inl rfl) e⟩
  | frz ob u ih => obtain ⟨e, q⟩ := x; exact ⟨k _ _ (.inl rfl) e, ih q⟩
  | tbl ps =>
    have e : h.get? a = some { cls := .none, data := .fields ps } := x
    show h'.get? a = some { cls := .none, data := .fields ps }
    exact k a _ (.inl rfl) e
  | met f y =>
    have e : h.get? a = some (PySem.W.methodObj (.ref f) (.ref y)) := x
    show h'.get? a = some (PySem.W.methodObj (.ref f) (.ref y))
    exact k a _ (.inl rfl) e
  | ext φ => obtain ⟨p, ⟨o, e⟩, st⟩ := x; exact ⟨st _ _ p fun o q => k _ _ (.inl rfl) q, ⟨o, k _ _ (.inl rfl) e⟩, st⟩
theorem HOk.lt (x : HOk P w H h) (e : H a = some o) : a < h.objs.size := (x a o e).lt
theorem HOk.fresh (x : HOk P w H h) (e : h.objs.size ≤ a) : H a = none := by
  cases q : H a with
  | none => rfl
  | some u => exact absurd (Nat.lt_of_lt_of_le (x.lt q) e) (Nat.lt_irrefl _)
/- every object of the heap is kept -/
theorem HOk.kept (x : HOk P w H h) (k : ∀ b u, h.get? b = some u → h'.get? b = some u) : HOk P w H h' := fun a o e =>
  (x a o e).stay (fun b u _ q => k b u q) (fun _ q => q) fun _ _ q => q
/- a new object is laid and tracked -/
theorem HOk.laid (x : HOk P w H h) (k : ∀ b u, h.get? b = some u → h'.get? b = some u) (hp : h.objs.size ≤ a) (new : ObjOk P w (upd H a o) h' a o) : HOk P w (upd H a o) h' := fun b u e => by
  have hn := x.fresh hp
  by_cases hb : b = a
  · subst hb; rw [upd_same] at e; cases e; exact new
  · rw [upd_ne hb] at e
    exact (x b u e).stay (fun c v _ q => k c v q) (fun c q => by rw [upd_ne (ne_of_none q hn)]; exact q) fun c xs q => by rw [upd_ne (ne_of_none q hn)]; exact q
end

/- what may be read as u: it is u, or a known u -/
def Rd (H : Hp) (a : Addr) (u : HO) : Prop := H a = some u ∨ ∃ o, H a = some (.frz o u)
theorem Rd.of {H : Hp} {a : Addr} {u : HO} (h : H a = some u) : Rd H a u := .inl h
theorem Rd.ok {P : Program} {w : World} {H : Hp} {h : Heap} {a : Addr} {u : HO} (r : Rd H a u) (x : HOk P w H h) : ObjOk P w H h a u := by
  rcases r with r | ⟨o, r⟩
  · exact x a u r
  · obtain ⟨_, q⟩ := x a _ r
    exact q
/- what may be written -/
def Mut : Option HO → Prop
  | some (.lst _) => True
  | some (.dK _) => True
  | some (.dT _) => True
  | some (.set _ _) => True
  | some (.ins _ _ _) => True
  | some (.ext _) => True
  | _ => False
section
variable {P : Program} {w : World} {H : Hp} {h h' : Heap} {x e : Addr} {o' : HO}
/- the object at e is changed: x itself, or the dict of the instance x -/
theorem HOk.write (ok : HOk P w H h) (mu : Mut (H x)) (he : e = x ∨ H e = some (.own x)) (k : ∀ b u, b ≠ e → h.get? b = some u → h'.get? b = some u) (heo : ∃ u, h'.get? e = some u)
    (new : ObjOk P w (upd H x o') h' x o') : HOk P w (upd H x o') h' := fun b u q => by
  have nown : ∀ c y, H c = some (.own y) → c ≠ x := fun c y r z => by subst z; rw [r] at mu; exact mu
  have ntup : ∀ c xs, H c = some (.tup xs) → c ≠ x := fun c xs r z => by subst z; rw [r] at mu; exact mu
  by_cases hb : b = x
  · subst hb; rw [upd_same] at q; cases q; exact new
  · rw [upd_ne hb] at q
    by_cases hbe : b = e
    · have q' : H b = some (.own x) := by
        rcases he with z | z
        · exact absurd (hbe.trans z) hb
        · rw [hbe]; exact z
      rw [q] at q'; cases q'
      obtain ⟨v, hv⟩ := heo
      exact ⟨v, by rw [hbe]; exact hv⟩
    · refine (ok b u q).stay (fun c v hc r => k c v ?_ r) (fun c r => by rw [upd_ne (nown c b r)]; exact r) fun c xs r => by rw [upd_ne (ntup c xs r)]; exact r
      rcases hc with rfl | hc
      · exact hbe
      · rintro rfl
        rcases he with z | z
        · exact nown c b hc z
        · rw [hc] at z; cases z; exact hb rfl
end

/-! ### kept unless tracked; of the frames at fs (the callers') the slots may change (an exception that passes writes there); of the records at ex (iterators) nothing is said -/
structure Un (fs ex : List Addr) (H H' : Hp) (h h' : Heap) : Prop where
  keep : ∀ b o, h.get? b = some o → H b = none → b ∉ fs → b ∉ ex → h'.get? b = some o
  slot : ∀ b o, h.get? b = some o → H b = none → b ∈ fs → b ∉ ex → ∃ sl, h'.get? b = some { o with slots := sl }
  free : ∀ b o, h.get? b = some o → H b = none → b ∉ ex → H' b = none
  there : ∀ b o, h.get? b = some o → b ∉ ex → ∃ o', h'.get? b = some o'
  tups : ∀ b xs, H b = some (.tup xs) → H' b = some (.tup xs)
  frzs : ∀ b o u, H b = some (.frz o u) → H' b = some (.frz o u)
  tbls : ∀ b ps, H b = some (.tbl ps) → ∃ more, H' b = some (.tbl (ps ++ more))
section
variable {fs fs' ex ex' : List Addr} {H H1 H2 : Hp} {h h1 h2 h' : Heap} {a x e : Addr} {o : HO}
theorem Un.any (u : Un fs ex H H1 h h1) {b : Addr} {ob : Obj} (q : h.get? b = some ob) (n : H b = none) (hx : b ∉ ex) : ∃ sl, h1.get? b = some { ob with slots := sl } := by
  by_cases hb : b ∈ fs
  · exact u.slot b ob q n hb hx
  · exact ⟨ob.slots, u.keep b ob q n hb hx⟩
theorem Un.trans (a : Un fs ex H H1 h h1) (b : Un fs ex H1 H2 h1 h2) : Un fs ex H H2 h h2 where
  keep := fun c ob q n hc hx => b.keep c ob (a.keep c ob q n hc hx) (a.free c ob q n hx) hc hx
  slot := fun c ob q n hc hx => by
    obtain ⟨sl, e1⟩ := a.slot c ob q n hc hx
    obtain ⟨sl', e2⟩ := b.slot c _ e1 (a.free c ob q n hx) hc hx
    exact ⟨sl', e2⟩
  free := fun c ob q n hx => by
    obtain ⟨o', e1⟩ := a.there c ob q hx
    exact b.free c o' e1 (a.free c ob q n hx) hx
  there := fun c ob q hx => by
    obtain ⟨o', e1⟩ := a.there c ob q hx
    exact b.there c o' e1 hx
  tups := fun c xs q => b.tups c xs (a.tups c xs q)
  frzs := fun c ob xs q => b.frzs c ob xs (a.frzs c ob xs q)
  tbls := fun c ps q => by
    obtain ⟨m1, e1⟩ := a.tbls c ps q
    obtain ⟨m2, e2⟩ := b.tbls c _ e1
    exact ⟨m1 ++ m2, by rw [e2, Array.append_assoc]⟩
theorem Un.kept (k : ∀ b u, h.get? b = some u → h'.get? b = some u) : Un fs ex H H h h' :=
  ⟨fun b ob q _ _ _ => k b ob q, fun b ob q _ _ _ => ⟨ob.slots, k b ob q⟩, fun _ _ _ n _ => n, fun b ob q _ => ⟨ob, k b ob q⟩, fun _ _ q => q, fun _ _ _ q => q, fun _ ps q => ⟨#[], by rw [q]; simp⟩⟩
theorem Un.refl : Un fs ex H H h h := Un.kept fun _ _ q => q
theorem Un.laid (k : ∀ b u, h.get? b = some u → h'.get? b = some u) (hp : h.objs.size ≤ a) (hn : H a = none) : Un fs ex H (upd H a o) h h' where
  keep := fun b u q _ _ _ => k b u q
  slot := fun b u q _ _ _ => ⟨u.slots, k b u q⟩
  free := fun b u q n _ => by rw [upd_ne (Nat.ne_of_lt (Nat.lt_of_lt_of_le (Heap.lt_size q) hp))]; exact n
  there := fun b u q _ => ⟨u, k b u q⟩
  tups := fun b xs q => by rw [upd_ne (ne_of_none q hn)]; exact q
  frzs := fun b u xs q => by rw [upd_ne (ne_of_none q hn)]; exact q
  tbls := fun b ps q => ⟨#[], by rw [upd_ne (ne_of_none q hn), q]; simp⟩
theorem Un.write (mu : Mut (H x)) (he : e = x ∨ H e = some (.own x)) (k : ∀ b u, b ≠ e → h.get? b = some u → h'.get? b = some u) (heo : ∃ u, h'.get? e = some u) : Un fs ex H (upd H x o) h h' := by
  have hx : ∀ b, H b = none → b ≠ x := fun b n z => by subst z; rw [n] at mu; exact mu
  have hb : ∀ b, H b = none → b ≠ e := fun b n z => by
    subst z
    rcases he with r | r
    · exact hx b n r
    · rw [n] at r; cases r
  have hm : ∀ b u, H b = some u → ¬ Mut (some u) → b ≠ x := fun b u q nm z => by subst z; rw [q] at mu; exact nm mu
  refine ⟨fun b u q n _ _ => k b u (hb b n) q, fun b u q n _ _ => ⟨u.slots, k b u (hb b n) q⟩, fun b u q n _ => by rw [upd_ne (hx b n)]; exact n, fun b u q _ => ?_,
    fun b xs q => by rw [upd_ne (hm b _ q fun z => z)]; exact q, fun b u xs q => by rw [upd_ne (hm b _ q fun z => z)]; exact q, fun b ps q => ⟨#[], by rw [upd_ne (hm b _ q fun z => z), q]; simp⟩⟩
  by_cases hbe : b = e
  · subst hbe; exact heo
  · exact ⟨u, k b u hbe q⟩
theorem Un.mono (u : Un fs ex H H1 h h1) (hs : ∀ b ∈ fs, b ∈ fs') (hx : ∀ b ∈ ex, b ∈ ex') : Un fs' ex' H H1 h h1 :=
  ⟨fun b ob q n hb he => u.keep b ob q n (fun z => hb (hs b z)) fun z => he (hx b z), fun _ _ q n _ he => u.any q n fun z => he (hx _ z), fun b ob q n he => u.free b ob q n fun z => he (hx b z), fun b ob q he => u.there b ob q fun z => he (hx b z), u.tups, u.frzs, u.tbls⟩
end

/-! ### the heap without what is tracked -/
def trk (h : Heap) (H : Hp) : List Addr := (List.range h.objs.size).filter fun a => (H a).isSome
def hidT (h : Heap) (H : Hp) : Heap := PySem.W.hideAll h (trk h H)
theorem hidT_size (h : Heap) (H : Hp) : (hidT h H).objs.size = h.objs.size := PySem.W.hideAll_size _ _
theorem hidT_get {h : Heap} {H : Hp} {b : Addr} {o : Obj} (e : h.get? b = some o) (n : H b = none) : (hidT h H).get? b = some o :=
  PySem.W.hideAll_get _ e fun hm => by
    have q : (H b).isSome = true := (List.mem_filter.mp hm).2
    rw [n] at q; simp at q
theorem of_hidT {h : Heap} {H : Hp} {b : Addr} {o : Obj} (e : (hidT h H).get? b = some o) : h.get? b = some o ∧ H b = none := by
  have e' : h.get? b = some o := PySem.W.of_hideAll (trk h H) e
  refine ⟨e', ?_⟩
  cases q : H b with
  | none => rfl
  | some x =>
    have hm : b ∈ trk h H := List.mem_filter.mpr ⟨List.mem_range.mpr (Heap.lt_size e'), by simp [q]⟩
    have z : (hidT h H).get? b = none := PySem.W.hideAll_none (trk h H) hm
    rw [z] at e; cases e

/-! ### OpenK's ledger, filled with every new object but one -/
def allNews (g h : Heap) (L : Addr) : List (Addr × Obj) := (List.range h.objs.size).filterMap fun a => if a = L ∨ (g.get? a).isSome = true then none else (h.get? a).map fun o => (a, o)
def rest (g h : Heap) (L d : Addr) : List (Addr × Obj) := (allNews g h L).filter fun p => decide (p.1 ≠ d)
/- behind a rule that changed d alone: all else but the frame is kept -/
end L2

namespace L2
open PySem PySem.Spec PyProof.Rows

/- the module's facts, over the base: the heap at the law's entry without what is tracked there -/
structure Mod (K : PySem.W.Frag) (mg : Str → Option Value) (base : Heap) : Prop where
  kin : K.In base
  glob : base.Ns mainGlobals mg
  blt : ∃ mb, base.Ns builtinsNs mb ∧ ∀ x : Str, x ≠ "__name__" → mb x = bootBuiltins x
  nolimit : base.NoLimit

/- the context: a def's body (or a comprehension's block) running. base: fixed through the whole law; s₀, H₀: the entry; outer: the frames whose slots others may change (a def's callers); stack: all frames that run;
   ex: iterators that were made ahead of the entry and are walked here (a comprehension's); fn: the names whose cells were made at the entry (a def: all; a comprehension's block: its own); calm: not within an except suite; pn: pins that every state bears; xe: what is wanted of an exception that leaves the code -/
structure Cx where
  prog : Program
  w : World
  K : PySem.W.Frag
  mg : Str → Option Value
  base : Heap
  A : Around
  N : List Str
  s₀ : Shared
  H₀ : Hp
  env : Env
  outer : List Env
  stack : List Env
  ex : List Addr
  fn : Str → Bool
  calm : Bool
  pn : List (Addr × Obj)
  xe : Value → Shared → Prop
/- the callers' frames -/
def frs (l : List Env) : List Addr := l.filterMap (·.frame)
abbrev Cx.fs (X : Cx) : List Addr := frs X.outer

def Vis (sc : Scope) (x : Str) : Prop := sc.names.lookup x = some .local ∨ sc.names.lookup x = some .cell ∨ sc.names.lookup x = some .free
def Loc (sc : Scope) (x : Str) : Prop := sc.names.lookup x = some .local ∨ sc.names.lookup x = some .cell
def Look (env : Env) (h : Heap) (m : Str → Option Value) (x : Str) (u : Value) : Prop :=
  (env.kindOf x = some .local ∧ m x = some u) ∨ ((env.kindOf x = some .cell ∨ env.kindOf x = some .free) ∧ ∃ c, env.cells.lookup x = some c ∧ h.IsCell c (some u))

structure Cx.Ok (X : Cx) : Prop where
  mod : Mod X.K X.mg X.base
  kind : X.env.scope.kind = .function
  glob : X.env.globals = mainGlobals
  blt : X.env.builtins = builtinsNs
  above : X.s₀.heap.objs.size ≤ X.env.locals
  inj : ∀ x y c, X.env.cells.lookup x = some c → X.env.cells.lookup y = some c → x = y
  has : ∀ x, (X.env.kindOf x = some .cell ∨ X.env.kindOf x = some .free) → ∃ c, X.env.cells.lookup x = some c
  cab : ∀ x c, X.fn x = true → X.env.cells.lookup x = some c → X.s₀.heap.objs.size ≤ c
  hd : X.calm = true → X.A.handled = none
  frames : X.A.frames = some X.stack
  stk : X.stack = X.outer ∨ (X.stack = X.env :: X.outer ∧ X.env.frame = some X.env.locals)
  exf : ∀ b ∈ X.ex, b ≠ X.env.locals ∧ ∀ x c, X.env.cells.lookup x = some c → c ≠ b
  bs : ∀ b o, X.base.get? b = some o → X.s₀.heap.get? b = some o ∧ X.H₀ b = none
  bsz : X.base.objs.size ≤ X.s₀.heap.objs.size
  noex : ∀ b o, X.base.get? b = some o → b ∉ X.ex
  exfs : ∀ b ∈ X.ex, b ∉ X.fs
  funs : X.s₀.heap.FunFrames X.base X.outer
  frf : ∀ b ∈ X.fs, X.H₀ b = none

structure Inv (X : Cx) (pins : List (Addr × Obj)) (σ : List (Option V)) (H : Hp) (s : Shared) : Prop where
  ok : X.Ok
  os : s.os = X.s₀.os
  bare : AllBare s.gens
  base : Un X.fs X.ex X.H₀ H X.s₀.heap s.heap
  loc : ∃ m, s.heap.Ns X.env.locals m ∧ ∀ (i : Nat) (x : Str) (v : V), X.N[i]? = some x → σ[i]? = some (some v) → Vis X.env.scope x → ∃ u, RelV v u ∧ Look X.env s.heap m x u
  cell : ∀ x c, X.env.cells.lookup x = some c → ∃ v, s.heap.IsCell c v
  free : H X.env.locals = none
  freeC : ∀ x c, X.env.cells.lookup x = some c → H c = none
  pin : ∀ p ∈ X.pn ++ pins, s.heap.get? p.1 = some p.2 ∧ H p.1 = none ∧ p.1 ≠ X.env.locals ∧ p.1 ∉ X.fs ∧ ∀ v, p.2.data ≠ .cell v
  hok : HOk X.prog X.w H s.heap
  len : σ.length = X.N.length

section
variable {X : Cx} {pins : List (Addr × Obj)} {σ : List (Option V)} {H H' : Hp} {s : Shared} {h' : Heap}

theorem Cx.Ok.nofr (ok : X.Ok) {b : Addr} {o : Obj} (e : X.base.get? b = some o) : b ∉ X.fs := fun hb => by
  have := (ok.funs.mem hb).1
  rw [e] at this; cases this
theorem Inv.bs (I : Inv X pins σ H s) : ∀ b o, X.base.get? b = some o → s.heap.get? b = some o ∧ H b = none := fun b o e =>
  ⟨I.base.keep b o (I.ok.bs b o e).1 (I.ok.bs b o e).2 (I.ok.nofr e) (I.ok.noex b o e), I.base.free b o (I.ok.bs b o e).1 (I.ok.bs b o e).2 (I.ok.noex b o e)⟩
theorem Inv.bk (I : Inv X pins σ H s) : ∀ b o, X.base.get? b = some o → s.heap.get? b = some o := fun b o e => (I.bs b o e).1
theorem Inv.mod (I : Inv X pins σ H s) : Mod X.K X.mg X.base := I.ok.mod
theorem Inv.kIn (I : Inv X pins σ H s) : X.K.In s.heap := I.ok.mod.kin.keeps I.bk
theorem Inv.nolimit (I : Inv X pins σ H s) : s.heap.NoLimit := I.ok.mod.nolimit.keeps I.bk
/- the frame over the base: for OpenK's rules (K.In X.base is I.mod.kin) -/
theorem Inv.fr (I : Inv X pins σ H s) : ∃ m, Fr X.base X.env.locals s.heap m :=
  let ⟨m, hn, _⟩ := I.loc
  ⟨m, hn, I.bk, Nat.le_trans I.ok.bsz I.ok.above⟩
theorem Inv.lt (I : Inv X pins σ H s) : X.env.locals < s.heap.objs.size := let ⟨_, hn, _⟩ := I.loc; hn.lt
theorem Inv.sz (I : Inv X pins σ H s) : X.s₀.heap.objs.size ≤ s.heap.objs.size := Nat.le_trans I.ok.above (Nat.le_of_lt I.lt)
theorem Inv.nofs (I : Inv X pins σ H s) {a : Addr} (h : s.heap.objs.size ≤ a) : a ∉ X.fs := fun hb => by
  obtain ⟨_, o, ho, _⟩ := I.ok.funs.mem hb
  exact absurd (Nat.lt_of_lt_of_le (Heap.lt_size ho) (Nat.le_trans I.sz h)) (Nat.lt_irrefl _)
theorem Inv.cne (I : Inv X pins σ H s) : ∀ x c, X.env.cells.lookup x = some c → c ≠ X.env.locals := fun x c e z => by
  obtain ⟨v, o, ho, hd⟩ := I.cell x c e
  obtain ⟨m, ⟨o', es, ep, ho', hd', _⟩, _⟩ := I.loc
  rw [z, ho'] at ho; cases ho; rw [hd'] at hd; cases hd
theorem Inv.funs (I : Inv X pins σ H s) : s.heap.FunFrames X.base X.outer := by
  have all : ∀ (l : List Env), (∀ b ∈ frs l, b ∈ X.fs) → X.s₀.heap.FunFrames X.base l → s.heap.FunFrames X.base l := by
    intro l
    induction l with
    | nil => intro _ _; trivial
    | cons env r ih =>
      intro hs hl
      obtain ⟨hk, ⟨L, o, hf, hn, ho, hd⟩, hr⟩ := hl
      have hL : L ∈ X.fs := hs L (by unfold frs; rw [List.filterMap_cons, hf]; exact List.mem_cons_self)
      obtain ⟨sl, e⟩ := I.base.slot L o ho (I.ok.frf L hL) hL fun z => I.ok.exfs L z hL
      exact ⟨hk, ⟨L, _, hf, hn, e, hd⟩, ih (fun b hb => hs b (by unfold frs; rw [List.filterMap_cons, hf]; exact List.mem_cons_of_mem _ hb)) hr⟩
  exact all X.outer (fun _ hb => hb) I.ok.funs

/- the frames that run, for a call -/
theorem Inv.stack (I : Inv X pins σ H s) : s.heap.FunFrames X.base X.stack := by
  rcases I.ok.stk with e | ⟨e, hf⟩
  · rw [e]; exact I.funs
  · rw [e]
    obtain ⟨m, hn, _⟩ := I.loc
    refine .cons (by rw [I.ok.kind]; decide) hf hn ?_ I.funs
    exact Heap.get?_none_of_le (Nat.le_trans I.ok.bsz I.ok.above)
theorem Inv.stkSub (I : Inv X pins σ H s) : ∀ b ∈ frs X.stack, b ∈ X.env.locals :: X.fs := fun b hb => by
  rcases I.ok.stk with e | ⟨e, hf⟩
  · rw [e] at hb; exact List.mem_cons_of_mem _ hb
  · rw [e] at hb
    unfold frs at hb
    rw [List.filterMap_cons, hf] at hb
    exact hb
theorem Inv.stkFree (I : Inv X pins σ H s) : ∀ b ∈ frs X.stack, H b = none := fun b hb => by
  rcases List.mem_cons.mp (I.stkSub b hb) with e | hb
  · rw [e]; exact I.free
  · obtain ⟨_, o, ho, _⟩ := I.ok.funs.mem hb
    exact I.base.free b o ho (I.ok.frf b hb) fun z => I.ok.exfs b z hb

/- THE STEP: the untracked objects but the frame and the records at ch are kept (the callers' frames up to slots), the frame's map is kept, the new abstract heap is held -/
theorem Inv.step {g' : Array GenState} {t' : Nat} {d' : Drawn} {ch : List Addr} (I : Inv X pins σ H s)
    (hch : ∀ b ∈ ch, (b ∈ X.ex ∨ X.s₀.heap.objs.size ≤ b) ∧ b ≠ X.env.locals ∧ (∀ x c, X.env.cells.lookup x = some c → c ≠ b) ∧ ∀ p ∈ X.pn ++ pins, p.1 ≠ b)
    (keep : ∀ b o, b ≠ X.env.locals → b ∉ X.fs → b ∉ ch → s.heap.get? b = some o → H b = none → h'.get? b = some o)
    (slot : ∀ b o, b ≠ X.env.locals → b ∈ X.fs → b ∉ ch → s.heap.get? b = some o → H b = none → ∃ sl, h'.get? b = some { o with slots := sl }) (free : ∀ b o, b ∉ ch → s.heap.get? b = some o → H b = none → H' b = none)
    (there : ∀ b o, b ∉ ch → s.heap.get? b = some o → ∃ o', h'.get? b = some o')
    (tups : ∀ b xs, H b = some (.tup xs) → H' b = some (.tup xs)) (frzs : ∀ b o u, H b = some (.frz o u) → H' b = some (.frz o u)) (tbls : ∀ b ps, H b = some (.tbl ps) → ∃ more, H' b = some (.tbl (ps ++ more)))
    (ns : ∀ m, s.heap.Ns X.env.locals m → h'.Ns X.env.locals m) (hok : HOk X.prog X.w H' h') (hg : AllBare g') :
    Inv X pins σ H' { s with heap := h', gens := g', drawn := d', toks := t' } := by
  have neL : ∀ b o, X.s₀.heap.get? b = some o → b ≠ X.env.locals := fun b o e => Nat.ne_of_lt (Nat.lt_of_lt_of_le (Heap.lt_size e) I.ok.above)
  have neC : ∀ b o, X.s₀.heap.get? b = some o → b ∉ X.ex → b ∉ ch := fun b o e hx hb => by
    rcases (hch b hb).1 with z | z
    · exact hx z
    · exact absurd (Nat.lt_of_lt_of_le (Heap.lt_size e) z) (Nat.lt_irrefl _)
  have cellK : ∀ x c, X.env.cells.lookup x = some c → ∀ v, s.heap.IsCell c v → h'.IsCell c v := fun x c e v ⟨o, ho, hd⟩ => by
    have nch : c ∉ ch := fun z => (hch c z).2.2.1 x c e rfl
    by_cases hc : c ∈ X.fs
    · obtain ⟨sl, q⟩ := slot c o (I.cne x c e) hc nch ho (I.freeC x c e)
      exact ⟨_, q, hd⟩
    · exact ⟨o, keep c o (I.cne x c e) hc nch ho (I.freeC x c e), hd⟩
  refine ⟨I.ok, I.os, hg, ⟨fun b o e n hb hx => ?_, fun b o e n hb hx => ?_, fun b o e n hx => ?_, fun b o e hx => ?_, fun b xs e => tups b xs (I.base.tups b xs e), fun b o xs e => frzs b o xs (I.base.frzs b o xs e), fun b ps e => ?_⟩, ?_, fun x c e => ?_, ?_, fun x c e => ?_, fun p hp => ?_, hok, I.len⟩
  · exact keep b o (neL b o e) hb (neC b o e hx) (I.base.keep b o e n hb hx) (I.base.free b o e n hx)
  · obtain ⟨sl, e1⟩ := I.base.slot b o e n hb hx
    obtain ⟨sl', e2⟩ := slot b _ (neL b o e) hb (neC b o e hx) e1 (I.base.free b o e n hx)
    exact ⟨sl', e2⟩
  · obtain ⟨o', e1⟩ := I.base.there b o e hx
    exact free b o' (neC b o e hx) e1 (I.base.free b o e n hx)
  · obtain ⟨o', e1⟩ := I.base.there b o e hx
    exact there b o' (neC b o e hx) e1
  · obtain ⟨m1, e1⟩ := I.base.tbls b ps e
    obtain ⟨m2, e2⟩ := tbls b _ e1
    exact ⟨m1 ++ m2, by rw [e2, Array.append_assoc]⟩
  · obtain ⟨m, hn, hl⟩ := I.loc
    refine ⟨m, ns m hn, fun i x v e1 e2 e3 => ?_⟩
    obtain ⟨u, r, l⟩ := hl i x v e1 e2 e3
    refine ⟨u, r, ?_⟩
    rcases l with l | ⟨k, c, e, z⟩
    · exact .inl l
    · exact .inr ⟨k, c, e, cellK x c e _ z⟩
  · obtain ⟨v, z⟩ := I.cell x c e
    exact ⟨v, cellK x c e v z⟩
  · obtain ⟨m, ⟨o, _, _, ho, _⟩, _⟩ := I.loc
    exact free _ o (fun z => (hch _ z).2.1 rfl) ho I.free
  · obtain ⟨v, o, ho, hd⟩ := I.cell x c e
    exact free c o (fun z => (hch c z).2.2.1 x c e rfl) ho (I.freeC x c e)
  · obtain ⟨e, n, ne, nf, d⟩ := I.pin p hp
    have nch : p.1 ∉ ch := fun z => (hch p.1 z).2.2.2 p hp rfl
    exact ⟨keep p.1 p.2 ne nf nch e n, free p.1 p.2 nch e n, ne, nf, d⟩
/- .. where the frame's own object is kept too -/
theorem Inv.un {t' : Nat} (I : Inv X pins σ H s) (u : Un X.fs [] H H' s.heap h') (hok : HOk X.prog X.w H' h') : Inv X pins σ H' { s with heap := h', toks := t' } := by
  obtain ⟨m, ⟨o, es, ep, ho, r⟩, _⟩ := id I.loc
  obtain ⟨sl, hL⟩ := u.any ho I.free (by simp)
  exact I.step (g' := s.gens) (d' := s.drawn) (ch := []) (fun _ z => nomatch z) (fun b o _ hb _ e n => u.keep b o e n hb (by simp)) (fun b o _ hb _ e n => u.slot b o e n hb (by simp)) (fun b o _ e n => u.free b o e n (by simp)) (fun b o _ e => u.there b o e (by simp)) u.tups u.frzs u.tbls (fun m' hm => by
    obtain ⟨o', es', ep', ho', r'⟩ := hm
    rw [ho] at ho'; cases ho'
    exact ⟨_, es', ep', hL, r'⟩) hok I.bare
/- behind a call (or a comprehension's block): the slots of this frame may have changed too, the records at ch may have turned -/
theorem Inv.call {g' : Array GenState} {t' : Nat} {d' : Drawn} {ch : List Addr} (I : Inv X pins σ H s) (u : Un (frs X.stack) ch H H' s.heap h') (hok : HOk X.prog X.w H' h') (hg : AllBare g')
    (hch : ∀ b ∈ ch, (b ∈ X.ex ∨ X.s₀.heap.objs.size ≤ b) ∧ b ≠ X.env.locals ∧ (∀ x c, X.env.cells.lookup x = some c → c ≠ b) ∧ ∀ p ∈ X.pn ++ pins, p.1 ≠ b) :
    Inv X pins σ H' { s with heap := h', gens := g', drawn := d', toks := t' } := by
  obtain ⟨m, ⟨o, es, ep, ho, r⟩, _⟩ := id I.loc
  obtain ⟨sl, hL⟩ := u.any ho I.free fun z => (hch _ z).2.1 rfl
  exact I.step (ch := ch) hch (fun b o hL hb hc e n => u.keep b o e n (fun z => (List.mem_cons.mp (I.stkSub b z)).elim hL hb) hc) (fun b o _ _ hc e n => u.any e n hc) (fun b o hc e n => u.free b o e n hc) (fun b o hc e => u.there b o e hc) u.tups u.frzs u.tbls (fun m' hm => by
    obtain ⟨o', es', ep', ho', r'⟩ := hm
    rw [ho] at ho'; cases ho'
    exact ⟨_, es', ep', hL, r'⟩) hok hg
/- an untracked record of ours (an iterator) has turned -/
theorem Inv.turned {t' : Nat} {it : Addr} (I : Inv X pins σ H s) (k : ∀ b o, b ≠ it → s.heap.get? b = some o → h'.get? b = some o) (hn : H it = none) (hL : it ≠ X.env.locals)
    (h1 : it ∈ X.ex ∨ X.s₀.heap.objs.size ≤ it) (h2 : ∀ x c, X.env.cells.lookup x = some c → c ≠ it) (h3 : ∀ p ∈ X.pn ++ pins, p.1 ≠ it) : Inv X pins σ H { s with heap := h', toks := t' } := by
  have nit : ∀ b u, H b = some u → b ≠ it := fun b u e z => by rw [z, hn] at e; cases e
  refine I.step (g' := s.gens) (d' := s.drawn) (ch := [it]) (fun b hb => ?_) (fun b o _ _ hc e _ => k b o (fun z => hc (by simp [z])) e) (fun b o _ _ hc e _ => ⟨o.slots, k b o (fun z => hc (by simp [z])) e⟩) (fun _ _ _ _ n => n)
    (fun b o hc e => ⟨o, k b o (fun z => hc (by simp [z])) e⟩) (fun _ _ e => e) (fun _ _ _ e => e) (fun b ps e => ⟨#[], by rw [e]; simp⟩) (fun m hm => ?_) (fun b u e => ?_) I.bare
  · have e : b = it := by simpa using hb
    subst e
    exact ⟨h1, hL, h2, h3⟩
  · obtain ⟨o, es, ep, ho, r⟩ := hm
    exact ⟨o, es, ep, k _ o (Ne.symm hL) ho, r⟩
  · refine (I.hok b u e).stay (fun c v hc q => k c v ?_ q) (fun _ q => q) fun _ _ q => q
    rcases hc with z | z
    · rw [z]; exact nit b u e
    · exact nit c _ z
theorem Inv.tok (I : Inv X pins σ H s) (t : Nat) : Inv X pins σ H { s with toks := t } := I.un (h' := s.heap) (t' := t) Un.refl I.hok
/- all objects kept -/
theorem Inv.kept {t' : Nat} (I : Inv X pins σ H s) (k : ∀ b u, s.heap.get? b = some u → h'.get? b = some u) : Inv X pins σ H { s with heap := h', toks := t' } := I.un (Un.kept k) (I.hok.kept k)
/- a new object laid and tracked -/
theorem Inv.laid {a : Addr} {o : HO} {t' : Nat} (I : Inv X pins σ H s) (k : ∀ b u, s.heap.get? b = some u → h'.get? b = some u) (hp : s.heap.objs.size ≤ a) (new : ObjOk X.prog X.w (upd H a o) h' a o) :
    Inv X pins σ (upd H a o) { s with heap := h', toks := t' } := I.un (Un.laid k hp (I.hok.fresh hp)) (I.hok.laid k hp new)
/- an object written -/
theorem Inv.write {x e : Addr} {o : HO} {t' : Nat} (I : Inv X pins σ H s) (mu : Mut (H x)) (he : e = x ∨ H e = some (.own x)) (k : ∀ b u, b ≠ e → s.heap.get? b = some u → h'.get? b = some u) (heo : ∃ u, h'.get? e = some u)
    (new : ObjOk X.prog X.w (upd H x o) h' x o) : Inv X pins σ (upd H x o) { s with heap := h', toks := t' } := I.un (Un.write mu he k heo) (I.hok.write mu he k heo new)
/- forgetting slots, pins -/
theorem Inv.weak {σ' : List (Option V)} (I : Inv X pins σ H s) (hl : σ'.length = σ.length) (w : ∀ (i : Nat) v, σ'[i]? = some (some v) → σ[i]? = some (some v)) : Inv X pins σ' H s :=
  ⟨I.ok, I.os, I.bare, I.base, let ⟨m, hn, hl'⟩ := I.loc; ⟨m, hn, fun i x v e1 e2 e3 => hl' i x v e1 (w i v e2) e3⟩, I.cell, I.free, I.freeC, I.pin, I.hok, hl.trans I.len⟩
theorem Inv.pins_of {pins' : List (Addr × Obj)} (I : Inv X pins σ H s) (h : ∀ p ∈ pins', s.heap.get? p.1 = some p.2 ∧ H p.1 = none ∧ p.1 ≠ X.env.locals ∧ p.1 ∉ X.fs ∧ ∀ v, p.2.data ≠ .cell v) : Inv X pins' σ H s :=
  ⟨I.ok, I.os, I.bare, I.base, I.loc, I.cell, I.free, I.freeC, fun p hp => (List.mem_append.mp hp).elim (fun z => I.pin p (List.mem_append_left _ z)) (h p), I.hok, I.len⟩

theorem nodup_ix {N : List Str} (hN : N.Nodup) {i j : Nat} {x : Str} (a : N[i]? = some x) (b : N[j]? = some x) : i = j := by
  obtain ⟨h1, e1⟩ := List.getElem?_eq_some_iff.mp a
  obtain ⟨h2, e2⟩ := List.getElem?_eq_some_iff.mp b
  exact (List.getElem_inj hN).mp (e1.trans e2.symm)

/- a name is stored; what changed -/
theorem store_ok2 {M : Model} {A : Around} {E : Value → Shared → Prop} {i : Nat} {x : Str} {v : V} {u : Value} {Q : Unit → Shared → Prop} (I : Inv X pins σ H s) (hN : X.N.Nodup) (hi : X.N[i]? = some x) (hx : Loc X.env.scope x) (r : RelV v u)
    (h : ∀ s', Inv X pins (σ.set i (some v)) H s' → (∃ a, Heap.SameBut a s.heap s'.heap ∧ (a = X.env.locals ∨ X.env.cells.lookup x = some a)) → Q () s') (hf : X.fn x = true ∨ X.env.scope.names.lookup x = some .local := by first | exact .inl rfl | exact .inr rfl | assumption) : wpAny M A (storeName X.env x u) Q E s := by
  obtain ⟨m, hn, hl⟩ := id I.loc
  have hcls : (X.env.scope.kind == .class || (X.env.scope.kind == .module && X.env.locals != X.env.globals)) = false := by rw [I.ok.kind]; rfl
  have hiσ : i < σ.length := by rw [I.len]; exact (List.getElem?_eq_some_iff.mp hi).1
  have cne := I.cne
  have tracked : ∀ {a : Addr} {h' : Heap}, (∃ o, s.heap.get? a = some o ∧ H a = none) → Heap.SameBut a s.heap h' → HOk X.prog X.w H h' := fun {a h'} ha hs b ob e => by
    obtain ⟨_, _, hfree⟩ := ha
    refine (I.hok b ob e).stay (fun c w' hc q => (hs.2 c ?_).trans q) (fun _ q => q) fun _ _ q => q
    rintro rfl
    rcases hc with rfl | hc
    · rw [hfree] at e; cases e
    · rw [hfree] at hc; cases hc
  rcases hx with hk | hk
  · refine wpAny_storeName_local hk hn (fun h' hn' hs => ?_) hcls
    obtain ⟨oL, _, _, hoL, _⟩ := id hn
    refine h _ ⟨I.ok, I.os, I.bare, ⟨fun b o e n hb hx => ?_, fun b o e n hb hx => ?_, I.base.free, fun b o e hx => ?_, I.base.tups, I.base.frzs, I.base.tbls⟩, ⟨_, hn', fun j y v' e1 e2 e3 => ?_⟩, fun y c e => ?_, I.free, I.freeC, fun p hp => ?_, tracked ⟨oL, hoL, I.free⟩ hs, by simpa using I.len⟩ ⟨_, hs, .inl rfl⟩
    · exact (hs.2 b (Nat.ne_of_lt (Nat.lt_of_lt_of_le (Heap.lt_size e) I.ok.above))).trans (I.base.keep b o e n hb hx)
    · obtain ⟨sl, e1⟩ := I.base.slot b o e n hb hx
      exact ⟨sl, (hs.2 b (Nat.ne_of_lt (Nat.lt_of_lt_of_le (Heap.lt_size e) I.ok.above))).trans e1⟩
    · obtain ⟨o', e1⟩ := I.base.there b o e hx
      exact ⟨o', (hs.2 b (Nat.ne_of_lt (Nat.lt_of_lt_of_le (Heap.lt_size e) I.ok.above))).trans e1⟩
    · by_cases hj : j = i
      · subst hj
        rw [hi] at e1; cases e1
        rw [List.getElem?_set_self hiσ] at e2
        cases e2
        exact ⟨u, r, .inl ⟨hk, by simp⟩⟩
      · rw [List.getElem?_set_ne (Ne.symm hj)] at e2
        obtain ⟨u', r', q⟩ := hl j y v' e1 e2 e3
        refine ⟨u', r', ?_⟩
        rcases q with ⟨k, e⟩ | ⟨k, c, e, z⟩
        · refine .inl ⟨k, ?_⟩
          have : y ≠ x := fun e => hj (nodup_ix hN e1 (e ▸ hi))
          simp [this, e]
        · exact .inr ⟨k, c, e, z.sameBut hs (cne y c e)⟩
    · obtain ⟨w', z⟩ := I.cell y c e
      exact ⟨w', z.sameBut hs (cne y c e)⟩
    · obtain ⟨e, n, ne, nf, d⟩ := I.pin p hp
      exact ⟨(hs.2 p.1 ne).trans e, n, ne, nf, d⟩
  · have hfn : X.fn x = true := by
      rcases hf with z | z
      · exact z
      · rw [z] at hk; cases hk
    obtain ⟨c, hc⟩ := I.ok.has x (.inl hk)
    obtain ⟨w', z⟩ := I.cell x c hc
    refine wpAny_storeName_cell I.ok.kind hk hc z (fun h' hc' hs => ?_)
    obtain ⟨oc, hoc, hocd⟩ := id z
    refine h { s with heap := h' } ⟨I.ok, I.os, I.bare, ⟨fun b o e n hb hx => ?_, fun b o e n hb hx => ?_, I.base.free, fun b o e hx => ?_, I.base.tups, I.base.frzs, I.base.tbls⟩, ⟨m, hn.sameBut hs (Ne.symm (cne x c hc)), fun j y v' e1 e2 e3 => ?_⟩, fun y c' e => ?_, I.free, I.freeC, fun p hp => ?_, tracked ⟨oc, hoc, I.freeC x c hc⟩ hs, by simpa using I.len⟩ ⟨c, hs, .inr hc⟩
    · exact (hs.2 b (Nat.ne_of_lt (Nat.lt_of_lt_of_le (Heap.lt_size e) (I.ok.cab x c hfn hc)))).trans (I.base.keep b o e n hb hx)
    · obtain ⟨sl, e1⟩ := I.base.slot b o e n hb hx
      exact ⟨sl, (hs.2 b (Nat.ne_of_lt (Nat.lt_of_lt_of_le (Heap.lt_size e) (I.ok.cab x c hfn hc)))).trans e1⟩
    · obtain ⟨o', e1⟩ := I.base.there b o e hx
      exact ⟨o', (hs.2 b (Nat.ne_of_lt (Nat.lt_of_lt_of_le (Heap.lt_size e) (I.ok.cab x c hfn hc)))).trans e1⟩
    · by_cases hj : j = i
      · subst hj
        rw [hi] at e1; cases e1
        rw [List.getElem?_set_self hiσ] at e2
        cases e2
        exact ⟨u, r, .inr ⟨.inl hk, c, hc, hc'⟩⟩
      · rw [List.getElem?_set_ne (Ne.symm hj)] at e2
        obtain ⟨u', r', q⟩ := hl j y v' e1 e2 e3
        refine ⟨u', r', ?_⟩
        rcases q with q | ⟨k, c', e, z'⟩
        · exact .inl q
        · refine .inr ⟨k, c', e, z'.sameBut hs ?_⟩
          rintro rfl
          exact hj (nodup_ix hN e1 (I.ok.inj _ _ _ e hc ▸ hi))
    · by_cases hcc : c' = c
      · subst hcc; exact ⟨_, hc'⟩
      · obtain ⟨w2, z2⟩ := I.cell y c' e
        exact ⟨w2, z2.sameBut hs hcc⟩
    · obtain ⟨e, n, ne, nf, d⟩ := I.pin p hp
      refine ⟨(hs.2 p.1 ?_).trans e, n, ne, nf, d⟩
      intro q
      rw [q, hoc] at e
      have q' : oc = p.2 := Option.some.inj e
      exact d w' (by rw [← q']; exact hocd)
theorem store_ok {M : Model} {A : Around} {E : Value → Shared → Prop} {i : Nat} {x : Str} {v : V} {u : Value} {Q : Unit → Shared → Prop} (I : Inv X pins σ H s) (hN : X.N.Nodup) (hi : X.N[i]? = some x) (hx : Loc X.env.scope x) (r : RelV v u)
    (h : ∀ s', Inv X pins (σ.set i (some v)) H s' → Q () s') (hf : X.fn x = true ∨ X.env.scope.names.lookup x = some .local := by first | exact .inl rfl | exact .inr rfl | assumption) : wpAny M A (storeName X.env x u) Q E s :=
  store_ok2 I hN hi hx r (fun s' I' _ => h s' I') hf
/- behind a call or a block, the state as it is -/
theorem Inv.call' {s' : Shared} {ch : List Addr} (I : Inv X pins σ H s) (ho : s'.os = s.os) (u : Un (frs X.stack) ch H H' s.heap s'.heap) (hok : HOk X.prog X.w H' s'.heap) (hg : AllBare s'.gens)
    (hch : ∀ b ∈ ch, (b ∈ X.ex ∨ X.s₀.heap.objs.size ≤ b) ∧ b ≠ X.env.locals ∧ (∀ x c, X.env.cells.lookup x = some c → c ≠ b) ∧ ∀ p ∈ X.pn ++ pins, p.1 ≠ b) : Inv X pins σ H' s' := by
  obtain ⟨h', g', d', t', o'⟩ := s'
  have e : o' = s.os := ho
  subst e
  exact I.call (g' := g') (t' := t') (d' := d') u hok hg hch
end

/-! ### the judgements -/
/- an exception: its class, its own dict's address (where it has one), the abstract heap behind it -/
abbrev XK := Value → Option Addr → Hp → Prop
abbrev St := List (Option V)
abbrev VK := V → Hp → Prop
/- an expression's reading; a test's; an argument list's -/
abbrev TE := St → Hp → VK → Prop
abbrev TT := St → Hp → (Bool → Hp → Prop) → Prop
abbrev TA := St → Hp → (List V → Hp → Prop) → Prop
/- what is wanted behind a statement -/
structure Ends where
  nx : St → Hp → Prop
  rt : VK
  bk : St → Hp → Prop := fun _ _ => False
  ct : St → Hp → Prop := fun _ _ => False
abbrev TS := Ends → St → Hp → Prop

def EP (X : Cx) (pins : List (Addr × Obj)) (σ : St) (Q : VK) (u : Value) (s' : Shared) : Prop := ∃ v H', Inv X pins σ H' s' ∧ RelV v u ∧ Q v H'
def TP (X : Cx) (pins : List (Addr × Obj)) (σ : St) (Q : Bool → Hp → Prop) (b : Bool) (s' : Shared) : Prop := ∃ H', Inv X pins σ H' s' ∧ Q b H'
def AP (X : Cx) (pins : List (Addr × Obj)) (σ : St) (Q : List V → Hp → Prop) (us : List Value) (s' : Shared) : Prop := ∃ vs H', Inv X pins σ H' s' ∧ Vals vs us ∧ Q vs H'
def SP (X : Cx) (pins : List (Addr × Obj)) (D : Ends) (f : Flow) (s' : Shared) : Prop :=
  match f with
  | .next => ∃ σ' H', Inv X pins σ' H' s' ∧ D.nx σ' H'
  | .brk => ∃ σ' H', Inv X pins σ' H' s' ∧ D.bk σ' H'
  | .cont => ∃ σ' H', Inv X pins σ' H' s' ∧ D.ct σ' H'
  | .ret u => ∃ v σ' H', Inv X pins σ' H' s' ∧ RelV v u ∧ D.rt v H'

def PE (X : Cx) (e : Expr) (t : TE) : Prop :=
  ∀ (pins : List (Addr × Obj)) (s : Shared) (σ : St) (H : Hp) (Q : VK), Inv X pins σ H s → t σ H Q → wpAny (model X.prog X.w) X.A (eval e X.env) (EP X pins σ Q) X.xe s
def PT (X : Cx) (e : Expr) (t : TT) : Prop :=
  ∀ (pins : List (Addr × Obj)) (s : Shared) (σ : St) (H : Hp) (Q : Bool → Hp → Prop), Inv X pins σ H s → t σ H Q → wpAny (model X.prog X.w) X.A (isTrue e X.env (eval e X.env)) (TP X pins σ Q) X.xe s
/- a test whatever its 'whole' is (and, or) -/
def PW (X : Cx) (e : Expr) (t : TT) : Prop :=
  ∀ (whole : Sem Value) (pins : List (Addr × Obj)) (s : Shared) (σ : St) (H : Hp) (Q : Bool → Hp → Prop), Inv X pins σ H s → t σ H Q → wpAny (model X.prog X.w) X.A (isTrue e X.env whole) (TP X pins σ Q) X.xe s
theorem PW.pt {X : Cx} {e : Expr} {t : TT} (h : PW X e t) : PT X e t := h _
/- an argument list (no star), from the left -/
def PA (X : Cx) (es : List Expr) (t : TA) : Prop :=
  ∀ (pos : Pos) (pins : List (Addr × Obj)) (s : Shared) (σ : St) (H : Hp) (Q : List V → Hp → Prop), Inv X pins σ H s → t σ H Q → wpAny (model X.prog X.w) X.A (spliced (backTo pos (starEach es X.env))) (AP X pins σ Q) X.xe s
def PS (X : Cx) (st : Stmt) (t : TS) : Prop :=
  ∀ (pins : List (Addr × Obj)) (s : Shared) (σ : St) (H : Hp) (D : Ends), Inv X pins σ H s → t D σ H → wpAny (model X.prog X.w) X.A (exec st X.env) (SP X pins D) X.xe s
def PSs (X : Cx) (st : List Stmt) (t : TS) : Prop :=
  ∀ (pins : List (Addr × Obj)) (s : Shared) (σ : St) (H : Hp) (D : Ends), Inv X pins σ H s → t D σ H → wpAny (model X.prog X.w) X.A (execs st X.env) (SP X pins D) X.xe s
/- weaken the end -/
theorem thn {α : Type} {t : Sem α} {Q Q' : α → Shared → Prop} {M : Model} {A : Around} {E : Value → Shared → Prop} {s : Shared} (h : wpAny M A t Q E s) (hQ : ∀ a s, Q a s → Q' a s) : wpAny M A t Q' E s := wpAny_mono h hQ fun _ _ x => x
end L2

namespace L2
open PySem PySem.Spec PyProof.Rows
section
variable {X : Cx}

/- two expressions in a row -/
def tVar (i : Nat) : TE := fun σ H Q => ∃ v, σ[i]? = some (some v) ∧ Q v H
def tC (v : V) : TE := fun _ H Q => Q v H
theorem pe_var {i : Nat} {x : Str} {pos : Pos} (hN : X.N[i]? = some x) (hv : Vis X.env.scope x) (hd : (x == ("__debug__" : Str)) = false := by decide) (hcd : (x == ("__classdict__" : Str)) = false := by decide) : PE X (.Name x pos) (tVar i) := by
  intro pins s σ H Q I h
  obtain ⟨v, e, h⟩ := h
  obtain ⟨m, hn, hl⟩ := I.loc
  obtain ⟨u, r, l⟩ := hl i x v hN e hv
  have fin : EP X pins σ Q u s := ⟨v, H, I, r, h⟩
  rcases l with ⟨hk, hm⟩ | ⟨hk, c, hc, hcell⟩
  · exact wpAny_Name (wpAny_loadName_local I.ok.kind hk hn hm fin) hd
  · rcases hk with hk | hk
    · exact wpAny_Name (wpAny_loadName_cell I.ok.kind hk hc hcell fin) hd
    · exact wpAny_Name (wpAny_loadName_free I.ok.kind hk hc hcell fin hcd) hd
theorem pe_int {i j pos} : PE X (.Constant (.int i) j pos) (tC (.int i)) := fun _ _ _ H _ I h => wpAny_Constant_int ⟨.int i, H, I.tok _, ⟨_, rfl⟩, h⟩
theorem pe_bl {b j pos} : PE X (.Constant (.bool b) j pos) (tC (.bl b)) := fun _ _ _ H _ I h => Constant_bool ⟨.bl b, H, I, rfl, h⟩
theorem pe_non {j pos} : PE X (.Constant .none j pos) (tC .non) := fun _ _ _ H _ I h => Constant_none ⟨.non, H, I, rfl, h⟩
theorem pe_str {x j pos} : PE X (.Constant (.str x) j pos) (tC (.str x)) := fun _ _ _ H _ I h => Calls.Constant_str ⟨.str x, H, I.tok _, ⟨_, rfl⟩, h⟩

/- a global name of the def -/
def Gl (X : Cx) (x : Str) : Prop := X.env.kindOf x = some .globalImplicit
theorem ld_glob {E : Value → Shared → Prop} {pins : List (Addr × Obj)} {s : Shared} {σ : St} {H : Hp} {x : Str} {u : Value} {pos : Pos} {Q : Value → Shared → Prop} (I : Inv X pins σ H s) (hg : Gl X x) (hm : X.mg x = some u) (h : Q u s)
    (hd : (x == ("__debug__" : Str)) = false := by decide) : wpAny (model X.prog X.w) X.A (eval (.Name x pos) X.env) Q E s :=
  Calls.Name_function_global I.ok.kind hg (Calls.loadGlobal_global (by rw [I.ok.glob]; exact I.mod.glob.keeps I.bk) hm h) hd
theorem ld_blt {E : Value → Shared → Prop} {pins : List (Addr × Obj)} {s : Shared} {σ : St} {H : Hp} {x : Str} {u : Value} {pos : Pos} {Q : Value → Shared → Prop} (I : Inv X pins σ H s) (hg : Gl X x) (hm : X.mg x = none) (hv : bootBuiltins x = some u) (h : Q u s)
    (hn : x ≠ "__name__" := by decide) (hd : (x == ("__debug__" : Str)) = false := by decide) : wpAny (model X.prog X.w) X.A (eval (.Name x pos) X.env) Q E s := by
  obtain ⟨mb, h1, h2⟩ := I.mod.blt
  exact Calls.Name_function_global I.ok.kind hg (Calls.loadGlobal_builtin (by rw [I.ok.glob]; exact I.mod.glob.keeps I.bk) hm (by rw [I.ok.blt]; exact h1.keeps I.bk) ((h2 x hn).trans hv) h) hd
/- a module's constant, a class, a function, as a value -/
theorem pe_glob {x : Str} {v : V} {u : Value} {pos : Pos} (hg : Gl X x) (hm : X.mg x = some u) (r : RelV v u) (hd : (x == ("__debug__" : Str)) = false := by decide) : PE X (.Name x pos) (tC v) :=
  fun _ _ _ H _ I h => ld_glob I hg hm ⟨v, H, I, r, h⟩ hd
theorem pe_bltn {x : Str} {v : V} {u : Value} {pos : Pos} (hg : Gl X x) (hm : X.mg x = none) (hv : bootBuiltins x = some u) (r : RelV v u) (hn : x ≠ "__name__" := by decide) (hd : (x == ("__debug__" : Str)) = false := by decide) : PE X (.Name x pos) (tC v) :=
  fun _ _ _ H _ I h => ld_blt I hg hm hv ⟨v, H, I, r, h⟩ hn hd

/-! ### arithmetic -/
/- two ints -/
def t2I (ta tb : TE) (k : Int → Int → Hp → Prop) : St → Hp → Prop := fun σ H => ta σ H fun x H1 => tb σ H1 fun y H2 => ∃ i j, x = .int i ∧ y = .int j ∧ k i j H2
def tAdd (ta tb : TE) : TE := fun σ H Q => t2I ta tb (fun i j H2 => Q (.int (i + j)) H2) σ H
def tSub (ta tb : TE) : TE := fun σ H Q => t2I ta tb (fun i j H2 => Q (.int (i - j)) H2) σ H
/- the left factor below 2^64 -/
def tMul (ta tb : TE) : TE := fun σ H Q => t2I ta tb (fun i j H2 => (-(2 ^ 64) < i ∧ i < 2 ^ 64) ∧ Q (.int (i * j)) H2) σ H
variable {a b : Expr} {ta tb : TE} {pos : Pos}
def PC (X : Cx) (op : CmpOp) (a b : Expr) (t : TE) : Prop :=
  ∀ (pins : List (Addr × Obj)) (s : Shared) (σ : St) (H : Hp) (Q : VK), Inv X pins σ H s → t σ H Q →
    wpAny (model X.prog X.w) X.A (eval a X.env) (fun v s₁ => wpAny (model X.prog X.w) X.A (eval b X.env) (fun u s₂ => wpAny (model X.prog X.w) X.A (compareOp op v u) (EP X pins σ Q) X.xe s₂) X.xe s₁) X.xe s
theorem nobehind (b : Expr) {op : CmpOp} (h : op ≠ .In) (h2 : op ≠ .NotIn) : behindInMarks op b = false := by
  have e1 : (op == CmpOp.In) = false := by cases op <;> first | rfl | exact absurd rfl h
  have e2 : (op == CmpOp.NotIn) = false := by cases op <;> first | rfl | exact absurd rfl h2
  cases b <;> simp [behindInMarks, e1, e2]
def tCmp (p : Int → Int → Bool) (ta tb : TE) : TE := fun σ H Q => t2I ta tb (fun i j H2 => Q (.bl (p i j)) H2) σ H
abbrev tLt : TE → TE → TE := tCmp fun i j => decide (i < j)
abbrev tLe : TE → TE → TE := tCmp fun i j => decide (i ≤ j)
abbrev tGt : TE → TE → TE := tCmp fun i j => decide (j < i)
abbrev tGe : TE → TE → TE := tCmp fun i j => decide (j ≤ i)
abbrev tEqI : TE → TE → TE := tCmp fun i j => decide (i = j)
abbrev tNeI : TE → TE → TE := tCmp fun i j => !decide (i = j)
/- a comparison of two ints, by its rule -/
/- is None -/
def tIsN (ta : TE) : TE := fun σ H Q => ta σ H fun x H1 => Q (.bl (decide (x = .non))) H1
def tNotN (ta : TE) : TE := fun σ H Q => ta σ H fun x H1 => Q (.bl (!decide (x = .non))) H1
theorem RelV.none_iff {x : V} {v : Value} (r : RelV x v) : (v == Value.none) = decide (x = .non) := by
  cases x with
  | non => cases r; rfl
  | bl _ => cases r; rfl
  | int _ => obtain ⟨t, rfl⟩ := r; rfl
  | str _ => obtain ⟨t, rfl⟩ := r; rfl
  | byt _ => obtain ⟨t, rfl⟩ := r; rfl
  | flt _ => obtain ⟨t, rfl⟩ := r; rfl
  | ref _ => cases r; rfl
  | ty _ => cases r; rfl
theorem pc_isN {j pos'} (ha : PE X a ta) : PC X .Is a (.Constant .none j pos') (tIsN ta) := by
  intro pins s σ H Q I h
  refine thn (ha pins s σ H _ I h) fun v s1 ⟨x, H1, I1, r1, q1⟩ => ?_
  exact Constant_none (is_none_gen ⟨.bl _, H1, I1, by rw [r1.none_iff]; rfl, q1⟩)
theorem pc_notN {j pos'} (ha : PE X a ta) : PC X .IsNot a (.Constant .none j pos') (tNotN ta) := by
  intro pins s σ H Q I h
  refine thn (ha pins s σ H _ I h) fun v s1 ⟨x, H1, I1, r1, q1⟩ => ?_
  exact Constant_none (isnot_none_gen ⟨.bl _, H1, I1, by rw [r1.none_iff]; rfl, q1⟩)
/- a comparison as a value, as a test -/
def tB (t : TE) : TT := fun σ H Q => t σ H fun x H1 => ∃ c, x = .bl c ∧ Q c H1
theorem pt_cmp {op : CmpOp} {t : TE} (h : PC X op a b t) (h1 : behindInMarks op b = false := by first | exact nobehind _ (by decide) (by decide) | rfl) : PT X (.Compare a [op] [b] pos) (tB t) := by
  intro pins s σ H Q I hw
  refine wpAny_isTrue_Compare1 (thn (h pins s σ H _ I hw) fun v s1 h1 => thn h1 fun u s2 h2 => thn h2 fun c s3 ⟨x, H1, I1, r1, q1⟩ => ?_) h1
  obtain ⟨d, rfl, q⟩ := q1
  cases r1
  exact wpAny_truthy_bool ⟨H1, I1, q⟩
/- an expression whose value is a bool, as a test -/
theorem pt_val {e : Expr} {t : TE} (h : PE X e t) (he : ∀ whole, isTrue e X.env whole = (do let v ← whole; standAt e.pos; holding [v] (truthy v)) := by intro _; rfl) : PT X e (tB t) := by
  intro pins s σ H Q I hw
  refine isTrue_plain (thn (h pins s σ H _ I hw) fun v s1 ⟨x, H1, I1, r1, q1⟩ => ?_) (he _)
  obtain ⟨d, rfl, q⟩ := q1
  cases r1
  exact wpAny_truthy_bool ⟨H1, I1, q⟩

/-! ### and, or, not -/
variable {tA tB' : TT} {rest : List Expr}
def tAnd (t u : TT) : TT := fun σ H Q => t σ H fun c H1 => if c = true then u σ H1 Q else Q false H1
def tOr (t u : TT) : TT := fun σ H Q => t σ H fun c H1 => if c = true then Q true H1 else u σ H1 Q
def tNot (t : TT) : TT := fun σ H Q => t σ H fun c H1 => Q (!c) H1
theorem pw_and1 (ha : PT X a tA) : PW X (.BoolOp .And [a] pos) tA := by
  intro wh pins s σ H Q I h
  refine isTrue_and (thn (ha pins s σ H Q I h) fun c s1 e => ?_)
  cases c with
  | true => exact isTrue_and_nil e
  | false => exact e
theorem pw_or1 (ha : PT X a tA) : PW X (.BoolOp .Or [a] pos) tA := by
  intro wh pins s σ H Q I h
  refine isTrue_or (thn (ha pins s σ H Q I h) fun c s1 e => ?_)
  cases c with
  | false => exact isTrue_or_nil e
  | true => exact e
theorem pw_and (ha : PT X a tA) (hb : PW X (.BoolOp .And (b :: rest) pos) tB') : PW X (.BoolOp .And (a :: b :: rest) pos) (tAnd tA tB') := by
  intro wh pins s σ H Q I h
  refine isTrue_and (thn (ha pins s σ H _ I h) fun c s1 ⟨H1, I1, q1⟩ => ?_)
  cases c with
  | true => exact hb wh pins s1 σ H1 Q I1 q1
  | false => exact ⟨H1, I1, q1⟩
theorem pw_or (ha : PT X a tA) (hb : PW X (.BoolOp .Or (b :: rest) pos) tB') : PW X (.BoolOp .Or (a :: b :: rest) pos) (tOr tA tB') := by
  intro wh pins s σ H Q I h
  refine isTrue_or (thn (ha pins s σ H _ I h) fun c s1 ⟨H1, I1, q1⟩ => ?_)
  cases c with
  | true => exact ⟨H1, I1, q1⟩
  | false => exact hb wh pins s1 σ H1 Q I1 q1
theorem pt_not (ha : PT X a tA) : PT X (.UnaryOp .Not a pos) (tNot tA) := by
  intro pins s σ H Q I h
  exact isTrue_not (ha pins s σ H (fun c H1 => Q (!c) H1) I h)
/- .. as values (bools) -/
def tAndV (ta tb : TE) : TE := fun σ H Q => ta σ H fun x H1 => ∃ c, x = .bl c ∧ if c = true then tb σ H1 Q else Q (.bl false) H1
def tOrV (ta tb : TE) : TE := fun σ H Q => ta σ H fun x H1 => ∃ c, x = .bl c ∧ if c = true then Q (.bl true) H1 else tb σ H1 Q
def tNotV (ta : TE) : TE := fun σ H Q => ta σ H fun x H1 => ∃ c, x = .bl c ∧ Q (.bl (!c)) H1
theorem pe_one {op} {t : TE} (h : PE X a t) : PE X (.BoolOp op [a] pos) t := fun pins s σ H Q I hw => BoolOp_one (h pins s σ H Q I hw)
theorem pe_and (ha : PE X a ta) (hb : PE X (.BoolOp .And (b :: rest) pos) tb) : PE X (.BoolOp .And (a :: b :: rest) pos) (tAndV ta tb) := by
  intro pins s σ H Q I h
  refine BoolOp_and (thn (ha pins s σ H _ I h) fun v s1 ⟨x, H1, I1, r1, q1⟩ => ?_)
  obtain ⟨c, rfl, q1⟩ := q1
  cases r1
  refine wpAny_truthy_bool ?_
  cases c with
  | true => exact hb pins s1 σ H1 Q I1 q1
  | false => exact ⟨.bl false, H1, I1, rfl, q1⟩
theorem pe_not (ha : PE X a ta) : PE X (.UnaryOp .Not a pos) (tNotV ta) := by
  intro pins s σ H Q I h
  refine UnaryOp_ (thn (ha pins s σ H _ I h) fun v s1 ⟨x, H1, I1, r1, q1⟩ => ?_)
  obtain ⟨c, rfl, q1⟩ := q1
  cases r1
  exact not_of (wpAny_truthy_bool ⟨.bl (!c), H1, I1, rfl, q1⟩)
/- a if t else b -/
def tIf (t : TT) (ta tb : TE) : TE := fun σ H Q => t σ H fun c H1 => if c = true then ta σ H1 Q else tb σ H1 Q
end
end L2

namespace L2
open PySem PySem.Spec PyProof.Rows

/-! ### a list, a tuple that is read: tracked, frozen, or an object of the module -/
def SqL (K : PySem.W.Frag) (H : Hp) (a : Addr) (xs : List V) : Prop :=
  Rd H a (.lst xs) ∨
    ∃ (o : Obj) (its : Array Value) (n : Nat), K.lookup a = some o ∧ o.cls = .type "list" ∧ o.dict = none ∧ o.data = .seq its n ∧ its.size ≤ sizeLine ∧ Vals xs its.toList
def SqT (K : PySem.W.Frag) (H : Hp) (a : Addr) (xs : List V) : Prop :=
  Rd H a (.tup xs) ∨
    ∃ (o : Obj) (its : Array Value) (n : Nat), K.lookup a = some o ∧ o.cls = .type "tuple" ∧ o.data = .seq its n ∧ its.size ≤ sizeLine ∧ Vals xs its.toList
def absV : Value → Option V
  | .none => some .non
  | .bool b => some (.bl b)
  | .int i _ => some (.int i)
  | .str x _ => some (.str x)
  | .bytes b _ => some (.byt b)
  | .float b _ => some (.flt b)
  | .ref a => some (.ref a)
  | .type n => some (.ty n)
  | _ => none
theorem RelV.abs {x : V} {u : Value} (r : RelV x u) : absV u = some x := by
  cases x with
  | non => cases r; rfl
  | bl _ => cases r; rfl
  | int _ => obtain ⟨t, rfl⟩ := r; rfl
  | str _ => obtain ⟨t, rfl⟩ := r; rfl
  | byt _ => obtain ⟨t, rfl⟩ := r; rfl
  | flt _ => obtain ⟨t, rfl⟩ := r; rfl
  | ref _ => cases r; rfl
  | ty _ => cases r; rfl
theorem RelV.inj {x y : V} {u : Value} (r : RelV x u) (q : RelV y u) : x = y := Option.some.inj (r.abs.symm.trans q.abs)
theorem Vals.inj : ∀ {xs ys : List V} {us : List Value}, Vals xs us → Vals ys us → xs = ys
  | _, _, _, .nil, .nil => rfl
  | _, _, _, .cons r t, .cons r' t' => by rw [r.inj r', Vals.inj t t']
section
variable {X : Cx} {pins : List (Addr × Obj)} {σ : St} {H : Hp} {s : Shared} {a : Addr} {xs ys : List V}
theorem SqL.of {K : PySem.W.Frag} (h : H a = some (.lst xs)) : SqL K H a xs := .inl (.inl h)
theorem SqT.of {K : PySem.W.Frag} (h : H a = some (.tup xs)) : SqT K H a xs := .inl (.inl h)
theorem Inv.list (I : Inv X pins σ H s) (h : SqL X.K H a xs) : ∃ its : List Value, Vals xs its ∧ PlainL s.heap a its.toArray ∧ xs.length ≤ sizeLine := by
  rcases h with h | ⟨o, its, n, hk, hc, hd, hs, hz, r⟩
  · obtain ⟨z, its, n, r, e⟩ := h.ok I.hok
    exact ⟨its, r, ⟨_, n, e, rfl, rfl, rfl⟩, z⟩
  · refine ⟨its.toList, r, ⟨o, n, I.kIn a o hk, hc, hd, by simpa using hs⟩, ?_⟩
    have e := r.length
    simp only [Array.length_toList] at e
    omega
theorem Inv.tuple (I : Inv X pins σ H s) (h : SqT X.K H a xs) : ∃ its : List Value, Vals xs its ∧ IsTup s.heap a its.toArray ∧ xs.length ≤ sizeLine := by
  rcases h with h | ⟨o, its, n, hk, hc, hs, hz, r⟩
  · obtain ⟨z, its, r, p⟩ := h.ok I.hok
    exact ⟨its, r, p, z⟩
  · refine ⟨its.toList, r, ⟨o, I.kIn a o hk, hc, n, by simpa using hs⟩, ?_⟩
    have e := r.length
    simp only [Array.length_toList] at e
    omega
theorem Inv.tuple_inj (I : Inv X pins σ H s) (h : SqT X.K H a xs) (h' : SqT X.K H a ys) : xs = ys := by
  obtain ⟨its, r, ⟨o, e, _, n, d⟩, _⟩ := I.tuple h
  obtain ⟨its', r', ⟨o', e', _, n', d'⟩, _⟩ := I.tuple h'
  rw [e] at e'; cases e'
  rw [d] at d'
  injection d' with d1 _
  have : its = its' := by simpa using congrArg Array.toList d1
  subst this
  exact r.inj r'
end

/-! ### another wish about exceptions -/
abbrev Cx.wish (X : Cx) (E : Value → Shared → Prop) : Cx := { X with xe := E }
/- no exception leaves -/
abbrev Cx.nox (X : Cx) : Cx := X.wish fun _ _ => False
theorem Cx.Ok.wish {X : Cx} (ok : X.Ok) (E : Value → Shared → Prop) : (X.wish E).Ok :=
  ⟨ok.mod, ok.kind, ok.glob, ok.blt, ok.above, ok.inj, ok.has, ok.cab, ok.hd, ok.frames, ok.stk, ok.exf, ok.bs, ok.bsz, ok.noex, ok.exfs, ok.funs, ok.frf⟩
theorem Cx.Ok.unwish {X : Cx} {E : Value → Shared → Prop} (ok : (X.wish E).Ok) : X.Ok :=
  ⟨ok.mod, ok.kind, ok.glob, ok.blt, ok.above, ok.inj, ok.has, ok.cab, ok.hd, ok.frames, ok.stk, ok.exf, ok.bs, ok.bsz, ok.noex, ok.exfs, ok.funs, ok.frf⟩
section
variable {X : Cx} {pins : List (Addr × Obj)} {σ : St} {H : Hp} {s : Shared} {E : Value → Shared → Prop}
theorem Inv.wish (I : Inv X pins σ H s) (E : Value → Shared → Prop) : Inv (X.wish E) pins σ H s := ⟨I.ok.wish E, I.os, I.bare, I.base, I.loc, I.cell, I.free, I.freeC, I.pin, I.hok, I.len⟩
theorem Inv.unwish (I : Inv (X.wish E) pins σ H s) : Inv X pins σ H s := ⟨I.ok.unwish, I.os, I.bare, I.base, I.loc, I.cell, I.free, I.freeC, I.pin, I.hok, I.len⟩
theorem SP.unwish {D : Ends} {f : Flow} {s' : Shared} (h : SP (X.wish E) pins D f s') : SP X pins D f s' := by
  cases f with
  | next => obtain ⟨σ', H', I, q⟩ := h; exact ⟨σ', H', I.unwish, q⟩
  | brk => obtain ⟨σ', H', I, q⟩ := h; exact ⟨σ', H', I.unwish, q⟩
  | cont => obtain ⟨σ', H', I, q⟩ := h; exact ⟨σ', H', I.unwish, q⟩
  | ret u => obtain ⟨v, σ', H', I, r, q⟩ := h; exact ⟨v, σ', H', I.unwish, r, q⟩
theorem PE.nox {e : Expr} {t : TE} (h : PE X.nox e t) : PE X e t := fun pins s σ H Q I hw =>
  wpAny_mono (h pins s σ H Q (I.wish _) hw) (fun _ _ ⟨v, H', I', r, q⟩ => ⟨v, H', I'.unwish, r, q⟩) fun _ _ z => False.elim z
theorem PT.nox {e : Expr} {t : TT} (h : PT X.nox e t) : PT X e t := fun pins s σ H Q I hw =>
  wpAny_mono (h pins s σ H Q (I.wish _) hw) (fun _ _ ⟨H', I', q⟩ => ⟨H', I'.unwish, q⟩) fun _ _ z => False.elim z
theorem PSs.nox {st : List Stmt} {t : TS} (h : PSs X.nox st t) : PSs X st t := fun pins s σ H D I hw =>
  wpAny_mono (h pins s σ H D (I.wish _) hw) (fun _ _ q => q.unwish) fun _ _ z => False.elim z
end

/-! ### blocks and small statements -/
section
variable {X : Cx} {st : Stmt} {rest : List Stmt} {t u : TS} {e : Expr} {te : TE} {pos : Pos}
def tNext : TS := fun D σ H => D.nx σ H
def tSeq (t u : TS) : TS := fun D σ H => t { D with nx := u D } σ H
theorem pss_nil : PSs X [] tNext := fun _ _ σ H _ I h => wpAny_execs_nil ⟨σ, H, I, h⟩
theorem pss_cons (h1 : PS X st t) (h2 : PSs X rest u) : PSs X (st :: rest) (tSeq t u) := by
  intro pins s σ H D I h
  refine wpAny_execs_cons (thn (h1 pins s σ H { D with nx := u D } I h) fun f s1 q => ?_)
  cases f with
  | next =>
    obtain ⟨σ', H', I', q⟩ := q
    exact h2 pins s1 σ' H' D I' q
  | ret v => exact q
  | brk => exact q
  | cont => exact q
theorem pss_one (h1 : PS X st t) : PSs X [st] t := by
  intro pins s σ H D I h
  refine wpAny_execs_cons (thn (h1 pins s σ H D I h) fun f s1 q => ?_)
  cases f with
  | next => exact wpAny_execs_nil q
  | ret v => exact q
  | brk => exact q
  | cont => exact q
def tBreak : TS := fun D σ H => D.bk σ H
def tCont : TS := fun D σ H => D.ct σ H
/- in a def's body nothing is shown -/
/- a docstring -/
/- an expression whose value is dropped -/
def tDrop (te : TE) : TS := fun D σ H => te σ H fun _ H1 => D.nx σ H1
def tRet (te : TE) : TS := fun D σ H => te σ H D.rt
theorem ps_ret (he : PE X e te) : PS X (.Return (some e) pos) (tRet te) := by
  intro pins s σ H D I h
  exact wpAny_Return_some (thn (he pins s σ H _ I h) fun v s1 ⟨x, H1, I1, r1, q1⟩ => ⟨x, σ, H1, I1, r1, q1⟩)
def tRetN : TS := fun D _ H => D.rt .non H
def tIfS (c : TT) (t u : TS) : TS := fun D σ H => c σ H fun b H1 => if b = true then t D σ H1 else u D σ H1
theorem ps_if {c : Expr} {a b : List Stmt} {tc : TT} (hc : PT X c tc) (ha : PSs X a t) (hb : PSs X b u) : PS X (.If c a b pos) (tIfS tc t u) := by
  intro pins s σ H D I h
  refine wpAny_If (thn (hc pins s σ H _ I h) fun d s1 ⟨H1, I1, q1⟩ => ?_)
  cases d with
  | true => exact ha pins s1 σ H1 D I1 q1
  | false => exact hb pins s1 σ H1 D I1 q1
/- code that the proof never comes to -/
def tNever : TS := fun _ _ _ => False
end

/-! ### targets -/
abbrev TG := V → St → Hp → (St → Hp → Prop) → Prop
abbrev TGs := List V → St → Hp → (St → Hp → Prop) → Prop
def PG (X : Cx) (target : Expr) (t : TG) : Prop :=
  ∀ (pins : List (Addr × Obj)) (s : Shared) (σ : St) (H : Hp) (v : V) (u : Value) (Q : St → Hp → Prop), Inv X pins σ H s → RelV v u → t v σ H Q →
    wpAny (model X.prog X.w) X.A (assign target X.env u) (fun _ s' => ∃ σ' H', Inv X pins σ' H' s' ∧ Q σ' H') X.xe s
/- several targets, one after another -/
def PGs (X : Cx) (ts : List Expr) (t : TGs) : Prop :=
  ∀ (pins : List (Addr × Obj)) (s : Shared) (σ : St) (H : Hp) (vs : List V) (us : List Value) (Q : St → Hp → Prop), Inv X pins σ H s → Vals vs us → t vs σ H Q →
    wpAny (model X.prog X.w) X.A (assignInOrder ((assignEach ts X.env).map (·.2)) us) (fun _ s' => ∃ σ' H', Inv X pins σ' H' s' ∧ Q σ' H') X.xe s
/- o[i] = v, by values -/
abbrev TSet := V → V → V → Hp → (Hp → Prop) → Prop
def PSet (X : Cx) (t : TSet) : Prop :=
  ∀ (pins : List (Addr × Obj)) (s : Shared) (σ : St) (H : Hp) (o i v : V) (ov iv u : Value) (Q : Hp → Prop), Inv X pins σ H s → RelV o ov → RelV i iv → RelV v u → t o i v H Q →
    wpAny (model X.prog X.w) X.A (setItem ov iv u) (fun _ s' => ∃ H', Inv X pins σ H' s' ∧ Q H') X.xe s
/- a op= b, by values -/
abbrev TIp := V → V → Hp → VK → Prop
def PIp (X : Cx) (op : Operator) (t : TIp) : Prop :=
  ∀ (pins : List (Addr × Obj)) (s : Shared) (σ : St) (H : Hp) (x y : V) (v u : Value) (Q : VK), Inv X pins σ H s → RelV x v → RelV y u → t x y H Q →
    wpAny (model X.prog X.w) X.A (inplaceOp op v u) (EP X pins σ Q) X.xe s
section
variable {X : Cx} {pos : Pos}
def gName (i : Nat) : TG := fun v σ H Q => Q (σ.set i (some v)) H
theorem pg_name {i : Nat} {x : Str} (hN : X.N.Nodup) (hi : X.N[i]? = some x) (hx : Loc X.env.scope x) (hf : X.fn x = true ∨ X.env.scope.names.lookup x = some .local := by first | exact .inl rfl | exact .inr rfl | assumption) : PG X (.Name x pos) (gName i) := by
  intro pins s σ H v u Q I r h
  exact wpAny_assign_Name (store_ok I hN hi hx r (fun s' I' => ⟨_, H, I', h⟩) hf)
def gNil : TGs := fun vs σ H Q => vs = [] ∧ Q σ H
def gCons (t : TG) (u : TGs) : TGs := fun vs σ H Q => ∃ v r, vs = v :: r ∧ t v σ H fun σ' H' => u r σ' H' Q
/- (a, b, ..) = a tuple of that length -/
def gTup (K : PySem.W.Frag) (n : Nat) (t : TGs) : TG := fun v σ H Q => ∃ a xs, v = .ref a ∧ SqT K H a xs ∧ xs.length = n ∧ t xs σ H Q
/- o[i] = .. -/
def gSub (to ti : TE) (t : TSet) : TG := fun v σ H Q => to σ H fun o H1 => ti σ H1 fun i H2 => t o i v H2 fun H3 => Q σ H3
theorem pg_sub {o i : Expr} {to ti : TE} {t : TSet} (ho : PE X o to) (hi : PE X i ti) (hs : PSet X t)
    (ha : ∀ v, assign (.Subscript o i pos) X.env v = (do
      let ov ← holding [v] (eval o X.env)
      let iv ← holding [v, ov] (eval i X.env)
      standAt pos
      holding [v, ov, iv] (setItem ov iv v)
      release [v, ov, iv] []) := by intro _; rfl) : PG X (.Subscript o i pos) (gSub to ti t) := by
  intro pins s σ H v u Q I r h
  rw [ha]
  refine wpAny_bind (wpAny_holding (thn (ho pins s σ H _ I h) fun ov s1 ⟨x, H1, I1, r1, q1⟩ => ?_))
  refine wpAny_bind (wpAny_holding (thn (hi pins s1 σ H1 _ I1 q1) fun iv s2 ⟨y, H2, I2, r2, q2⟩ => ?_))
  refine wpAny_bind (wpAny_standAt (wpAny_bind (wpAny_holding (thn (hs pins s2 σ H2 x y v ov iv u _ I2 r1 r2 r q2) fun _ s3 ⟨H3, I3, q3⟩ => ?_))))
  exact wpAny_release ⟨σ, H3, I3, q3⟩
/- target = value -/
def tAsg (te : TE) (g : TG) : TS := fun D σ H => te σ H fun x H1 => g x σ H1 D.nx
theorem ps_asg {tg e : Expr} {te : TE} {g : TG} (he : PE X e te) (hg : PG X tg g) (hs : swapsWithSole [tg] e pos.line X.env = pure false := by rfl) (hw : swappedStores [tg] e X.env = pure none := by rfl)
    (h1 : (assignEach [tg] X.env).map (·.2) = [assign tg X.env] := by rfl) : PS X (.Assign [tg] e pos) (tAsg te g) := by
  intro pins s σ H D I h
  refine wpAny_Assign_stores (thn (he pins s σ H _ I h) fun v s1 ⟨x, H1, I1, r1, q1⟩ => ?_) hs hw
  rw [h1]
  exact thn (hg pins s1 σ H1 x v _ I1 r1 q1) fun _ s2 q => q
/- name = value -/
theorem ps_set {i : Nat} {x : Str} {e : Expr} {te : TE} {pos' : Pos} (hN : X.N.Nodup) (hi : X.N[i]? = some x) (hx : Loc X.env.scope x) (he : PE X e te) (hs : swapsWith e (some (.Name x pos')) pos.line X.env = pure false := by rfl) (hf : X.fn x = true ∨ X.env.scope.names.lookup x = some .local := by first | exact .inl rfl | exact .inr rfl | assumption) :
    PS X (.Assign [.Name x pos'] e pos) (tAsg te (gName i)) := by
  intro pins s σ H D I h
  refine wpAny_Assign_Name (thn (he pins s σ H _ I h) fun v s1 ⟨y, H1, I1, r1, q1⟩ => ?_) hs
  exact store_ok I1 hN hi hx r1 (fun s2 I2 => ⟨_, H1, I2, q1⟩) hf
/- a, b = x, y with plain local names: stored from the right; the pair itself is not tracked (the opening rows as in PyProof/Rows/TupAssign.lean:23) -/
def tPar (i j : Nat) (ta : TA) : TS := fun D σ H => ta σ H fun vs H1 => ∃ v w, vs = [v, w] ∧ D.nx ((σ.set i (some v)).set j (some w)) H1
/- name op= e -/
def tAug (i : Nat) (te : TE) (ti : TIp) : TS := fun D σ H => ∃ x, σ[i]? = some (some x) ∧ te σ H fun y H1 => ti x y H1 fun z H2 => D.nx (σ.set i (some z)) H2
/- o[i] op= e -/
def tAugS (to ti te : TE) (tget : V → V → Hp → VK → Prop) (tip : TIp) (tset : TSet) : TS := fun D σ H => to σ H fun o H1 => ti σ H1 fun i H2 => tget o i H2 fun x H3 => te σ H3 fun y H4 => tip x y H4 fun z H5 => tset o i z H5 fun H6 => D.nx σ H6
/- o[i], by values -/
def PGet (X : Cx) (t : V → V → Hp → VK → Prop) : Prop :=
  ∀ (pins : List (Addr × Obj)) (s : Shared) (σ : St) (H : Hp) (o i : V) (ov iv : Value) (Q : VK), Inv X pins σ H s → RelV o ov → RelV i iv → t o i H Q →
    wpAny (model X.prog X.w) X.A (getItem ov iv) (EP X pins σ Q) X.xe s
/- ints -/
def ipI (f : Int → Int → Int) : TIp := fun x y H Q => ∃ i j, x = .int i ∧ y = .int j ∧ Q (.int (f i j)) H
end

/-! ### while -/
section
variable {X : Cx} {pos : Pos}
/- the invariant W with its measure -/
def tWhile (c : TT) (tb : TS) : TS := fun D σ H => ∃ W : Nat → St → Hp → Prop, (∃ m, W m σ H) ∧ ∀ m σ H, W m σ H →
  c σ H fun b H1 => if b = true then ∃ N : St → Hp → Prop, (∀ σ' H', N σ' H' → ∃ m', m' < m ∧ W m' σ' H') ∧ tb { D with nx := N, ct := N, bk := D.nx } σ H1 else D.nx σ H1
end

/-! ### what a loop or a comprehension walks -/
/- at turn i: it yields x (the heap may grow), or it stops -/
structure It where
  go : Nat → Hp → Prop
  yld : Nat → Hp → V → Hp → Prop
  stop : Nat → Hp → Prop
/- the iterator's own objects may turn: they are not the frame's, not pinned, younger than the entry (or a comprehension's own) -/
def FpOk (X : Cx) (pins : List (Addr × Obj)) (H : Hp) (b : Addr) : Prop :=
  H b = none ∧ b ≠ X.env.locals ∧ b ∉ X.fs ∧ (b ∈ X.ex ∨ X.s₀.heap.objs.size ≤ b) ∧ (∀ x c, X.env.cells.lookup x = some c → c ≠ b) ∧ ∀ p ∈ X.pn ++ pins, p.1 ≠ b
theorem Inv.fpOk {X : Cx} {pins : List (Addr × Obj)} {σ : St} {H H' : Hp} {s : Shared} {b : Addr} (I : Inv X pins σ H s) (hb : s.heap.objs.size ≤ b) (hn : H' b = none) : FpOk X pins H' b := by
  refine ⟨hn, Nat.ne_of_gt (Nat.lt_of_lt_of_le I.lt hb), I.nofs hb, .inr (Nat.le_trans I.sz hb), fun x c e z => ?_, fun p hp z => ?_⟩
  · obtain ⟨v, q⟩ := I.cell x c e
    exact absurd (Nat.lt_of_lt_of_le q.lt (by rw [z]; exact hb)) (Nat.lt_irrefl _)
  · exact absurd (Nat.lt_of_lt_of_le (Heap.lt_size (I.pin p hp).1) (by rw [z]; exact hb)) (Nat.lt_irrefl _)
structure Turn (P : Program) (w : World) (K : PySem.W.Frag) (tg : Expr) (J : It) (fp : List Addr) (it : Addr) (tn : Nat → Heap → Prop) : Prop where
  mem : it ∈ fp
  obj : ∀ i h, tn i h → ∀ b ∈ fp, ∃ o, h.get? b = some o ∧ ∀ v, o.data ≠ .cell v
  keep : ∀ i h h', tn i h → (∀ b ∈ fp, ∀ o, h.get? b = some o → h'.get? b = some o) → tn i h'
  item : ∀ (X : Cx), X.prog = P → X.w = w → X.K = K → X.calm = true → ∀ (i : Nat) (pins : List (Addr × Obj)) (s : Shared) (σ : St) (H : Hp) (E : Value → Shared → Prop), Inv X pins σ H s → (∀ b ∈ fp, FpOk X pins H b) → tn i s.heap → J.go i H →
    wpAny (model P w) X.A (pyNext (.ref it)) (fun r s1 => ∃ u, r = some u ∧
      wpAny (model P w) X.A (letOwnedTupleGo tg (.ref it) u) (fun _ s2 => ∃ x H', Inv X pins σ H' s2 ∧ RelV x u ∧ J.yld i H x H' ∧ tn (i + 1) s2.heap ∧ ∀ b ∈ fp, H' b = none) E s1) E s
  done : ∀ (X : Cx), X.prog = P → X.w = w → X.K = K → X.calm = true → ∀ (i : Nat) (pins : List (Addr × Obj)) (s : Shared) (σ : St) (H : Hp) (E : Value → Shared → Prop), Inv X pins σ H s → (∀ b ∈ fp, FpOk X pins H b) → tn i s.heap → J.stop i H →
    wpAny (model P w) X.A (pyNext (.ref it)) (fun r s1 => r = none ∧ Inv X pins σ H s1) E s
  self : ∀ (A : Around) (i : Nat) (s : Shared) (Q : Value → Shared → Prop) (E : Value → Shared → Prop), tn i s.heap → Q (.ref it) s → wpAny (model P w) A (pyIter (.ref it)) Q E s
abbrev TI := St → Hp → (It → Hp → Prop) → Prop
/- an iterator has come -/
def PIE (X : Cx) (pins : List (Addr × Obj)) (σ : St) (tg : Expr) (R : It → Hp → Prop) (itv : Value) (s2 : Shared) : Prop :=
  ∃ (it : Addr) (fp : List Addr) (tn : Nat → Heap → Prop) (J : It) (H' : Hp), itv = .ref it ∧ Inv X pins σ H' s2 ∧ Turn X.prog X.w X.K tg J fp it tn ∧ tn 0 s2.heap ∧ (∀ b ∈ fp, FpOk X pins H' b) ∧ R J H'
def PI (X : Cx) (tg iter : Expr) (wi : TI) : Prop :=
  ∀ (pins : List (Addr × Obj)) (s : Shared) (σ : St) (H : Hp) (R : It → Hp → Prop), Inv X pins σ H s → wi σ H R →
    wpAny (model X.prog X.w) X.A (eval iter X.env) (fun v s1 => wpAny (model X.prog X.w) X.A (pyIter v) (PIE X pins σ tg R) X.xe s1) X.xe s

/- the step ahead of the store is nothing for an iterator that keeps no tuple -/
theorem go_of {M : Model} {A : Around} {E : Value → Shared → Prop} {s : Shared} {tg : Expr} {it : Addr} {u : Value} {o : Obj} {n : String} {vs : Array Value} {Q : Unit → Shared → Prop} (ho : s.heap.get? it = some o) (hc : o.cls = .type n) (hd : o.data = .fields vs)
    (hn : ["enumerate", "zip", "dict_itemiterator", "dict_reverseitemiterator", "odict_iterator", "itertools.zip_longest", "itertools.pairwise"].contains n = false) (hQ : Q () s) : wpAny M A (letOwnedTupleGo tg (.ref it) u) Q E s := by
  unfold letOwnedTupleGo
  cases tg <;> first
    | exact wpAny_pure hQ
    | (cases u <;> first
        | exact wpAny_pure hQ
        | (refine wpAny_bind (wpAny_load ho ?_)
           rw [hc, hd]
           show wpAny M A (if (["enumerate", "zip", "dict_itemiterator", "dict_reverseitemiterator", "odict_iterator", "itertools.zip_longest", "itertools.pairwise"].contains n && vs[0]? == some (rawInt _)) = true then _ else _) Q E s
           rw [if_neg (by intro h; rw [hn, Bool.false_and] at h; cases h)]
           exact wpAny_pure hQ))

/- the list at a, as it stands at each turn (a loop may append to it) -/
def Itl (K : PySem.W.Frag) (a : Addr) : It :=
  ⟨fun i H => ∃ xs x, SqL K H a xs ∧ xs[i]? = some x, fun i H x H' => H' = H ∧ ∀ xs, SqL K H a xs → xs[i]? = some x, fun i H => ∃ xs, SqL K H a xs ∧ xs.length ≤ i⟩
def Itt (K : PySem.W.Frag) (a : Addr) : It :=
  ⟨fun i H => ∃ xs x, SqT K H a xs ∧ xs[i]? = some x, fun i H x H' => H' = H ∧ ∀ xs, SqT K H a xs → xs[i]? = some x, fun i H => ∃ xs, SqT K H a xs ∧ xs.length ≤ i⟩
/- lo, lo + 1, .. (n of them) -/
def Itr (lo : Int) (n : Nat) : It := ⟨fun i _ => i < n, fun i H x H' => H' = H ∧ x = .int (lo + i), fun i _ => n ≤ i⟩
theorem turn_tuple {P : Program} {w : World} {K : PySem.W.Frag} {tg : Expr} (a it : Addr) : Turn P w K tg (Itt K a) [it] it (fun i h => h.IsTupleIter it a i) where
  mem := by simp
  obj := fun i h st b hb => by
    have e : b = it := by simpa using hb
    subst e
    obtain ⟨o, e, c, d⟩ := st
    exact ⟨o, e, fun v z => by rw [d] at z; cases z⟩
  keep := fun i h h' st k => st.at fun o e => k it (by simp) o e
  item := by
    intro X hP hw hK hc i pins s σ H E I hf st hg
    subst hP hw hK
    obtain ⟨xs, x, hq, hx⟩ := hg
    obtain ⟨its, rv, p, hz⟩ := I.tuple hq
    obtain ⟨u, hu, ru⟩ := rv.get hx
    obtain ⟨f0, f1, f2, f3, f4, f5⟩ := hf it (by simp)
    refine wpAny_pyNext_tuple_item st (show s.heap.IsTuple a its.toArray from p) (x := u) (by simpa using hu) fun h' st' sb => ?_
    have I1 : Inv X pins σ H { s with heap := h' } := I.turned (t' := s.toks) (fun b o hb e => (sb.2 b hb).trans e) f0 f1 f3 f4 f5
    obtain ⟨o, e, c, d⟩ := id st'
    exact ⟨u, rfl, go_of (s := { s with heap := h' }) e c d (by decide) ⟨x, H, I1, ru, ⟨rfl, fun ys hy => by rw [I.tuple_inj hy hq]; exact hx⟩, st', fun b hb => (hf b hb).1⟩⟩
  done := by
    intro X hP hw hK hc i pins s σ H E I hf st hg
    subst hP hw hK
    obtain ⟨xs, hq, hx⟩ := hg
    obtain ⟨its, rv, p, hz⟩ := I.tuple hq
    obtain ⟨f0, f1, f2, f3, f4, f5⟩ := hf it (by simp)
    have hl := rv.length
    exact wpAny_pyNext_tuple_end (I.ok.hd hc) st (show s.heap.IsTuple a its.toArray from p) (by simp; omega) fun h' eb => ⟨rfl, I.turned (t' := s.toks) (fun b o hb e => eb b o hb e) f0 f1 f3 f4 f5⟩
  self := fun _ _ _ _ _ st h => wpAny_pyIter_tupleiter st h
theorem turn_range {P : Program} {w : World} {K : PySem.W.Frag} {tg : Expr} (it : Addr) (lo : Int) (n : Nat) : Turn P w K tg (Itr lo n) [it] it (fun i h => IsRangeIter h it (lo + (i : Nat) * 1) ((n : Int) - (i : Nat)) 1) where
  mem := by simp
  obj := fun i h st b hb => by
    have e : b = it := by simpa using hb
    subst e
    exact ⟨_, st, fun v z => by
      have z' : Data.fields _ = Data.cell v := z
      cases z'⟩
  keep := fun i h h' st k => k it (by simp) _ st
  item := by
    intro X hP hw hK hc i pins s σ H E I hf st hg
    subst hP hw hK
    obtain ⟨f0, f1, f2, f3, f4, f5⟩ := hf it (by simp)
    have W := Walks.range (prog := X.prog) (w := X.w) (I.ok.hd hc) it lo 1 n
    refine W.item i s _ _ hg st fun v h' tk hv st' kk => ?_
    obtain ⟨t, rfl⟩ := hv
    have I1 : Inv X pins σ H { s with heap := h', toks := tk } := I.turned (fun b o hb e => kk b o (by simpa using hb) e) f0 f1 f3 f4 f5
    refine ⟨_, rfl, go_of (s := { s with heap := h', toks := tk }) (n := "range_iterator") st' rfl rfl (by decide) ⟨.int (lo + i), H, I1, ⟨t, ?_⟩, ⟨rfl, rfl⟩, st', fun b hb => (hf b hb).1⟩⟩
    rw [Int.mul_one]
  done := by
    intro X hP hw hK hc i pins s σ H E I hf st hg
    subst hP hw hK
    obtain ⟨f0, f1, f2, f3, f4, f5⟩ := hf it (by simp)
    exact wpAny_pyNext_range_end (I.ok.hd hc) st (by have : n ≤ i := hg; omega) fun h' eb => ⟨rfl, I.turned (t' := s.toks) (fun b o hb e => eb b o hb e) f0 f1 f3 f4 f5⟩
  self := fun _ _ _ _ _ st h => wpAny_pyIter_rangeiter st h
end L2

namespace L2
open PySem PySem.Spec PyProof.Rows
section
variable {X : Cx} {tg : Expr}
def iList (K : PySem.W.Frag) (tl : TE) : TI := fun σ H R => tl σ H fun x H1 => ∃ a, x = .ref a ∧ (∃ xs, SqL K H1 a xs) ∧ R (Itl K a) H1
def iTup (K : PySem.W.Frag) (tl : TE) : TI := fun σ H R => tl σ H fun x H1 => ∃ a, x = .ref a ∧ (∃ xs, SqT K H1 a xs) ∧ R (Itt K a) H1
theorem pi_tup {l : Expr} {tl : TE} (hl : PE X l tl) : PI X tg l (iTup X.K tl) := by
  intro pins s σ H R I h
  refine thn (hl pins s σ H _ I h) fun v s1 ⟨x, H1, I1, r1, q1⟩ => ?_
  obtain ⟨a, e, ⟨xs, hq⟩, q⟩ := q1
  subst e
  cases r1
  obtain ⟨its, rv, p, hz⟩ := I1.tuple hq
  refine wpAny_pyIter_tuple (show s1.heap.IsTuple a its.toArray from p) ?_
  refine ⟨s1.heap.objs.size, [s1.heap.objs.size], _, _, H1, rfl, I1.kept (t' := s1.toks) fun b o e => Heap.get?_push_of_some _ e, turn_tuple a _, ⟨_, Heap.get?_push_size _ rfl, rfl, rfl⟩, fun b hb => ?_, q⟩
  have e : b = s1.heap.objs.size := by simpa using hb
  subst e
  exact I1.fpOk (Nat.le_refl _) (I1.hok.fresh (Nat.le_refl _))
/- a range object just made, walked -/
theorem range_it {pins : List (Addr × Obj)} {σ : St} {H : Hp} {s : Shared} {R : It → Hp → Prop} {E : Value → Shared → Prop} {lo hi : Int} {t u v : Tok} {tk : Nat} (I : Inv X pins σ H s) (h1 : -(2 ^ 62) ≤ lo) (h2 : lo < 2 ^ 62) (h3 : -(2 ^ 62) ≤ hi) (h4 : hi < 2 ^ 62)
    (q : R (Itr lo (hi - lo).toNat) H) : wpAny (model X.prog X.w) X.A (pyIter (.ref s.heap.objs.size)) (PIE X pins σ tg R) E { s with heap := s.heap.push { cls := .type "range", data := .fields #[.int lo t, .int hi u, .int 1 v] }, toks := tk } := by
  refine wpAny_pyIter_range (IsRange.new ..) (small_one h1 h2 h3 h4) ?_
  have I1 : Inv X pins σ H { s with heap := s.heap.push { cls := .type "range", data := .fields #[.int lo t, .int hi u, .int 1 v] }, toks := tk } := I.kept fun b o e => Heap.get?_push_of_some _ e
  refine ⟨(s.heap.push { cls := .type "range", data := .fields #[.int lo t, .int hi u, .int 1 v] }).objs.size, [(s.heap.push { cls := .type "range", data := .fields #[.int lo t, .int hi u, .int 1 v] }).objs.size], _, _, H, rfl,
    I1.kept (t' := tk) fun b o e => Heap.get?_push_of_some _ e, turn_range _ lo (hi - lo).toNat, ?_, fun b hb => ?_, q⟩
  · have e1 : lo + ((0 : Nat) : Int) * 1 = lo := by simp
    have e2 : (((hi - lo).toNat : Nat) : Int) - ((0 : Nat) : Int) = Builtin.Range.rangeSize lo hi 1 := by rw [rangeSize_one]; split <;> omega
    show IsRangeIter _ _ (lo + ((0 : Nat) : Int) * 1) ((((hi - lo).toNat : Nat) : Int) - ((0 : Nat) : Int)) 1
    rw [e1, e2]
    exact Heap.get?_push_size _ rfl
  · have e : b = (s.heap.push { cls := .type "range", data := .fields #[.int lo t, .int hi u, .int 1 v] }).objs.size := by simpa using hb
    subst e
    exact I1.fpOk (Nat.le_refl _) (I1.hok.fresh (Nat.le_refl _))
def iRng1 (ta : TA) : TI := fun σ H R => ta σ H fun vs H1 => ∃ j : Int, vs = [.int j] ∧ -(2 ^ 62) ≤ j ∧ j < 2 ^ 62 ∧ R (Itr 0 j.toNat) H1
def iRng2 (ta : TA) : TI := fun σ H R => ta σ H fun vs H1 => ∃ i j : Int, vs = [.int i, .int j] ∧ (-(2 ^ 62) ≤ i ∧ i < 2 ^ 62 ∧ -(2 ^ 62) ≤ j ∧ j < 2 ^ 62) ∧ R (Itr i (j - i).toNat) H1
theorem pi_range1 {a : Expr} {ta : TA} {p pos : Pos} (hg : Gl X "range") (hm : X.mg "range" = none) (ha : PA X [a] ta) (hs : starEach [a] X.env = [(false, eval a X.env)] := by rfl) : PI X tg (.Call (.Name "range" p) [a] [] pos) (iRng1 ta) := by
  intro pins s σ H R I h
  refine Call_ (ld_blt I hg hm boot_range (PyProof.Rows.callWith_type1 (thn (ha pos pins s σ H _ I h) fun us s1 ⟨vs, H1, I1, r1, q1⟩ => ?_) hs rfl))
  obtain ⟨j, e, q1, q2, q⟩ := q1
  subst e
  cases r1 with
  | cons r rr =>
    cases rr
    obtain ⟨t, rfl⟩ := r
    exact call_range_1 (range_it I1 (by omega) (by omega) q1 q2 (by simpa using q))
/- W: the invariant by the turn and a measure; N: what the body is to reach -/
def tFor (wi : TI) (g : TG) (tb : TS) : TS := fun D σ H => wi σ H fun J H1 => ∃ W : Nat → Nat → St → Hp → Prop, (∃ m, W 0 m σ H1) ∧ ∀ i m σ H, W i m σ H →
  (J.stop i H ∧ D.nx σ H) ∨ (J.go i H ∧ ∃ N : St → Hp → Prop, (∀ σ' H', N σ' H' → ∃ m', m' < m ∧ W (i + 1) m' σ' H') ∧ ∀ x H', J.yld i H x H' → g x σ H' fun σ2 H2 => tb { D with nx := N, ct := N, bk := D.nx } σ2 H2)
/- the records at fp as they stand -/
def pinsAt (fp : List Addr) (h : Heap) : List (Addr × Obj) := fp.filterMap fun b => (h.get? b).map fun o => (b, o)
theorem mem_pinsAt {fp : List Addr} {h : Heap} {b : Addr} {o : Obj} (hb : b ∈ fp) (e : h.get? b = some o) : (b, o) ∈ pinsAt fp h := List.mem_filterMap.mpr ⟨b, hb, by rw [e]; rfl⟩
theorem of_pinsAt {fp : List Addr} {h : Heap} {p : Addr × Obj} (hp : p ∈ pinsAt fp h) : p.1 ∈ fp ∧ h.get? p.1 = some p.2 := by
  obtain ⟨b, hb, e⟩ := List.mem_filterMap.mp hp
  cases q : h.get? b with
  | none => rw [q] at e; cases e
  | some o =>
    rw [q] at e
    have e' : (b, o) = p := Option.some.inj e
    subst e'
    exact ⟨hb, q⟩
theorem Inv.pinned {pins : List (Addr × Obj)} {σ : St} {H : Hp} {s : Shared} {fp : List Addr} (I : Inv X pins σ H s) (hf : ∀ b ∈ fp, FpOk X pins H b) (ho : ∀ b ∈ fp, ∃ o, s.heap.get? b = some o ∧ ∀ v, o.data ≠ .cell v) : Inv X (pins ++ pinsAt fp s.heap) σ H s :=
  I.pins_of fun p hp => (List.mem_append.mp hp).elim (fun z => I.pin p (List.mem_append_right _ z)) fun z => by
    obtain ⟨hb, e⟩ := of_pinsAt z
    obtain ⟨f0, f1, f2, _⟩ := hf p.1 hb
    obtain ⟨o, e', d⟩ := ho p.1 hb
    rw [e] at e'; cases e'
    exact ⟨e, f0, f1, f2, d⟩
theorem Inv.unpinned {pins pl : List (Addr × Obj)} {σ : St} {H : Hp} {s : Shared} (I : Inv X (pins ++ pl) σ H s) : Inv X pins σ H s := I.pins_of fun p hp => I.pin p (List.mem_append_right _ (List.mem_append_left _ hp))
theorem ps_for {iter : Expr} {body : List Stmt} {wi : TI} {g : TG} {tb : TS} {pos : Pos} (hp : PassesOwn (model X.prog X.w) X.A X.env X.xe) (hc : X.calm = true) (hi : PI X tg iter wi) (hg : PG X tg g) (hb : PSs X body tb)
    (hs : ∀ x, foldedSetIterable iter X.env x = pure x := by intro _; rfl) : PS X (.For tg iter body [] pos) (tFor wi g tb) := by
  intro pins s σ H D I h
  refine wpAny_For (thn (hi pins s σ H _ I h) fun v s1 h1 => thn h1 fun itv s2 h2 => ?_) hs
  obtain ⟨it, fp, tn, J, H2, e, I2, T, st2, f2, W, ⟨m0, w0⟩, turn⟩ := h2
  subst e
  -- what stays true of the iterator's objects through the loop
  have stat : ∀ {H' : Hp}, (∀ b ∈ fp, H' b = none) → ∀ b ∈ fp, FpOk X pins H' b := fun hn b hb => ⟨hn b hb, (f2 b hb).2⟩
  refine codeAny_forLoop_any (fun n s' => ∃ i σ' H', Inv X pins σ' H' s' ∧ tn i s'.heap ∧ (∀ b ∈ fp, H' b = none) ∧ W i n σ' H') ?_ m0 ⟨0, σ, H2, I2, st2, fun b hb => (f2 b hb).1, w0⟩
  rintro n s3 ⟨i, σ3, H3, I3, st3, fr3, w3⟩
  rcases turn i n σ3 H3 w3 with ⟨stop, qn⟩ | ⟨go, N, hN, step⟩
  · refine wpAny_passesOwn hp (thn (T.done X rfl rfl rfl hc i pins s3 σ3 H3 X.xe I3 (stat fr3) st3 stop) fun r s4 ⟨hr, I4⟩ => ?_)
    subst hr
    exact wpAny_execs_nil ⟨σ3, H3, I4, qn⟩
  · refine wpAny_passesOwn hp (thn (T.item X rfl rfl rfl hc i pins s3 σ3 H3 X.xe I3 (stat fr3) st3 go) fun r s4 ⟨u, hr, h4⟩ => ?_)
    subst hr
    refine wpAny_passesOwn hp (thn h4 fun _ s5 ⟨x, H5, I5, r5, y5, st5, fr5⟩ => ?_)
    have I5' := I5.pinned (stat fr5) (T.obj _ _ st5)
    refine wpAny_passesOwn hp (thn (hg _ s5 σ3 H5 x u _ I5' r5 (step x H5 y5)) fun _ s6 ⟨σ6, H6, I6, q6⟩ => ?_)
    refine wpAny_passesOwn hp (thn (hb _ s6 σ6 H6 _ I6 q6) fun f s7 q7 => ?_)
    have again : ∀ {σ7 : St} {H7 : Hp}, Inv X (pins ++ pinsAt fp s5.heap) σ7 H7 s7 → N σ7 H7 → ∃ m, m < n ∧ ∃ i σ' H', Inv X pins σ' H' s7 ∧ tn i s7.heap ∧ (∀ b ∈ fp, H' b = none) ∧ W i m σ' H' := fun {σ7 H7} I7 n7 => by
      obtain ⟨m', hm, w7⟩ := hN σ7 H7 n7
      refine ⟨m', hm, i + 1, σ7, H7, I7.unpinned, T.keep _ _ _ st5 fun b hb o e => (I7.pin (b, o) (List.mem_append_right _ (List.mem_append_right _ (mem_pinsAt hb e)))).1, fun b hb => ?_, w7⟩
      obtain ⟨o, e, d⟩ := T.obj _ _ st5 b hb
      exact (I7.pin (b, o) (List.mem_append_right _ (List.mem_append_right _ (mem_pinsAt hb e)))).2.1
    cases f with
    | next => obtain ⟨σ7, H7, I7, n7⟩ := q7; exact again I7 n7
    | cont => obtain ⟨σ7, H7, I7, n7⟩ := q7; exact again I7 n7
    | brk => obtain ⟨σ7, H7, I7, q7⟩ := q7; exact ⟨σ7, H7, I7.unpinned, q7⟩
    | ret v => obtain ⟨x7, σ7, H7, I7, r7, q7⟩ := q7; exact ⟨x7, σ7, H7, I7.unpinned, r7, q7⟩
end

/-! ### the forms one uses -/
/- over a list that the body leaves as it is -/
theorem for_range {lo : Int} {n : Nat} {g : TG} {tb : TS} {D : Ends} {σ : St} {H : Hp} (Pv : Nat → St → Hp → Prop) (h0 : Pv 0 σ H)
    (hs : ∀ i σ H, i < n → Pv i σ H → g (.int (lo + i)) σ H fun σ2 H2 => tb { D with nx := Pv (i + 1), ct := Pv (i + 1), bk := D.nx } σ2 H2) (hd : ∀ σ H, Pv n σ H → D.nx σ H) :
    ∃ W : Nat → Nat → St → Hp → Prop, (∃ m, W 0 m σ H) ∧ ∀ i m σ H, W i m σ H →
      ((Itr lo n).stop i H ∧ D.nx σ H) ∨ ((Itr lo n).go i H ∧ ∃ N : St → Hp → Prop, (∀ σ' H', N σ' H' → ∃ m', m' < m ∧ W (i + 1) m' σ' H') ∧ ∀ x H', (Itr lo n).yld i H x H' → g x σ H' fun σ2 H2 => tb { D with nx := N, ct := N, bk := D.nx } σ2 H2) := by
  refine ⟨fun i m σ H => m = n - i ∧ i ≤ n ∧ Pv i σ H, ⟨n, by simp, Nat.zero_le _, h0⟩, ?_⟩
  rintro i m σ H ⟨rfl, hi, p⟩
  by_cases hlt : i < n
  · refine .inr ⟨hlt, Pv (i + 1), fun σ' H' p' => ⟨n - (i + 1), by omega, rfl, hlt, p'⟩, fun x H' y => ?_⟩
    obtain ⟨e, y⟩ := y
    subst e y
    exact hs i σ _ hlt p
  · have e : i = n := by omega
    subst e
    exact .inl ⟨Nat.le_refl _, hd σ H p⟩
/- while, by a word and a measure of the state -/
end L2

namespace L2
open PySem PySem.Spec PyProof.Rows

abbrev R2 := V → V → Hp → VK → Prop
/- a two-place operation on values: f is binaryOp op, inplaceOp op or compareOp op -/
def OpR (X : Cx) (f : Value → Value → Sem Value) (r : R2) : Prop :=
  ∀ (pins : List (Addr × Obj)) (s : Shared) (σ : St) (H : Hp) (x y : V) (v u : Value) (Q : VK), Inv X pins σ H s → RelV x v → RelV y u → r x y H Q →
    wpAny (model X.prog X.w) X.A (f v u) (EP X pins σ Q) X.xe s
/- a one-place operation -/
def UnR (X : Cx) (f : Value → Sem Value) (r : V → Hp → VK → Prop) : Prop :=
  ∀ (pins : List (Addr × Obj)) (s : Shared) (σ : St) (H : Hp) (x : V) (v : Value) (Q : VK), Inv X pins σ H s → RelV x v → r x H Q →
    wpAny (model X.prog X.w) X.A (f v) (EP X pins σ Q) X.xe s
/- a call of a value that is known (a builtin, a type) with values -/
def CallR (X : Cx) (f : Value) (r : List V → Hp → VK → Prop) : Prop :=
  ∀ (pins : List (Addr × Obj)) (s : Shared) (σ : St) (H : Hp) (xs : List V) (us : List Value) (Q : VK), Inv X pins σ H s → Vals xs us → r xs H Q →
    wpAny (model X.prog X.w) X.A (call f us) (EP X pins σ Q) X.xe s
/- a value's truth -/
def TruR (X : Cx) (r : V → Hp → (Bool → Hp → Prop) → Prop) : Prop :=
  ∀ (pins : List (Addr × Obj)) (s : Shared) (σ : St) (H : Hp) (x : V) (v : Value) (Q : Bool → Hp → Prop), Inv X pins σ H s → RelV x v → r x H Q →
    wpAny (model X.prog X.w) X.A (truthy v) (TP X pins σ Q) X.xe s

def tOp (r : R2) (ta tb : TE) : TE := fun σ H Q => ta σ H fun x H1 => tb σ H1 fun y H2 => r x y H2 Q
def tUn (r : V → Hp → VK → Prop) (ta : TE) : TE := fun σ H Q => ta σ H fun x H1 => r x H1 Q
/- ints in, under C, and a value out -/
def rI (C : Int → Int → Prop) (g : Int → Int → V) : R2 := fun x y H Q => ∃ i j, x = .int i ∧ y = .int j ∧ C i j ∧ Q (g i j) H
def rI0 (g : Int → Int → V) : R2 := fun x y H Q => ∃ i j, x = .int i ∧ y = .int j ∧ Q (g i j) H
def rU (g : Int → V) : V → Hp → VK → Prop := fun x H Q => ∃ i, x = .int i ∧ Q (g i) H

section
variable {X : Cx} {a b c : Expr} {ta tb tc : TE} {pos : Pos}

theorem binT (ha : PE X a ta) (hb : PE X b tb) {pins : List (Addr × Obj)} {s : Shared} {σ : St} {H : Hp} {R : V → V → Hp → Prop} (I : Inv X pins σ H s)
    (h : ta σ H fun x H1 => tb σ H1 fun y H2 => R x y H2) {Q : Value → Shared → Prop} {f : Value → Value → Sem Value}
    (hf : ∀ v u s2 x y H2, Inv X pins σ H2 s2 → RelV x v → RelV y u → R x y H2 → wpAny (model X.prog X.w) X.A (f v u) Q X.xe s2) :
    wpAny (model X.prog X.w) X.A (eval a X.env) (fun v s₁ => wpAny (model X.prog X.w) X.A (eval b X.env) (fun u s₂ => wpAny (model X.prog X.w) X.A (f v u) Q X.xe s₂) X.xe s₁) X.xe s := by
  refine thn (ha pins s σ H _ I h) fun v s1 ⟨x, H1, I1, r1, q1⟩ => ?_
  refine thn (hb pins s1 σ H1 _ I1 q1) fun u s2 ⟨y, H2, I2, r2, q2⟩ => ?_
  exact hf v u s2 x y H2 I2 r1 r2 q2

theorem pe_op {op : Operator} {r : R2} (ho : OpR X (binaryOp op) r) (ha : PE X a ta) (hb : PE X b tb) : PE X (.BinOp a op b pos) (tOp r ta tb) := by
  intro pins s σ H Q I h
  exact wpAny_BinOp (binT ha hb I h fun v u s2 x y H2 I2 rx ry q => ho pins s2 σ H2 x y v u Q I2 rx ry q)
theorem pe_un {op : UnaryOp} {r : V → Hp → VK → Prop} (ho : UnR X (unaryOp op) r) (ha : PE X a ta) : PE X (.UnaryOp op a pos) (tUn r ta) := by
  intro pins s σ H Q I h
  exact UnaryOp_ (thn (ha pins s σ H _ I h) fun v s1 ⟨x, H1, I1, r1, q1⟩ => ho pins s1 σ H1 x v Q I1 r1 q1)
/- a op= e at a name: the name's slot i -/
theorem opI {f : Value → Value → Sem Value} {C : Int → Int → Prop} {g : Int → Int → Int}
    (rule : ∀ (i j : Int) (t u : Tok) (s : Shared) (Q : Value → Shared → Prop) (E : Value → Shared → Prop), C i j → Q (.int (g i j) s.toks) { s with toks := s.toks + 1 } → wpAny (model X.prog X.w) X.A (f (.int i t) (.int j u)) Q E s) :
    OpR X f (rI C fun i j => .int (g i j)) := by
  intro pins s σ H x y v u Q I rx ry h
  obtain ⟨i, j, rfl, rfl, hc, q⟩ := h
  obtain ⟨t, rfl⟩ := rx
  obtain ⟨t', rfl⟩ := ry
  exact rule i j t t' s _ _ hc ⟨.int (g i j), H, I.tok _, ⟨_, rfl⟩, q⟩
theorem opI0 {f : Value → Value → Sem Value} {g : Int → Int → Int}
    (rule : ∀ (i j : Int) (t u : Tok) (s : Shared) (Q : Value → Shared → Prop) (E : Value → Shared → Prop), Q (.int (g i j) s.toks) { s with toks := s.toks + 1 } → wpAny (model X.prog X.w) X.A (f (.int i t) (.int j u)) Q E s) :
    OpR X f (rI0 fun i j => .int (g i j)) := by
  intro pins s σ H x y v u Q I rx ry h
  obtain ⟨i, j, rfl, rfl, q⟩ := h
  obtain ⟨t, rfl⟩ := rx
  obtain ⟨t', rfl⟩ := ry
  exact rule i j t t' s _ _ ⟨.int (g i j), H, I.tok _, ⟨_, rfl⟩, q⟩
theorem opB0 {f : Value → Value → Sem Value} {g : Int → Int → Bool}
    (rule : ∀ (i j : Int) (t u : Tok) (s : Shared) (Q : Value → Shared → Prop) (E : Value → Shared → Prop), Q (.bool (g i j)) s → wpAny (model X.prog X.w) X.A (f (.int i t) (.int j u)) Q E s) :
    OpR X f (rI0 fun i j => .bl (g i j)) := by
  intro pins s σ H x y v u Q I rx ry h
  obtain ⟨i, j, rfl, rfl, q⟩ := h
  obtain ⟨t, rfl⟩ := rx
  obtain ⟨t', rfl⟩ := ry
  exact rule i j t t' s _ _ ⟨.bl (g i j), H, I, rfl, q⟩

def CDiv (i j : Int) : Prop := 0 < j ∧ j < 1073741824
def CDivN (i j : Int) : Prop := j ≠ 0 ∧ j.natAbs < 1073741824
def CPow (i j : Int) : Prop := 0 ≤ j ∧ j ≤ 1000000 ∧ i.natAbs < 2 ^ 64
def CMul (i j : Int) : Prop := (-(2 ^ 64) < i ∧ i < 2 ^ 64) ∨ (-(2 ^ 64) < j ∧ j < 2 ^ 64)
theorem CMul.ok {i j : Int} (h : CMul i j) : IntMulOk i j := by
  rcases h with ⟨h1, h2⟩ | ⟨h1, h2⟩
  · exact .of_left (intBits_le_64 h1 h2)
  · exact .of_right (intBits_le_64 h1 h2)
theorem op_add : OpR X (binaryOp .Add) (rI0 fun i j => .int (i + j)) := opI0 fun _ _ _ _ _ _ _ q => add_int q
theorem op_sub : OpR X (binaryOp .Sub) (rI0 fun i j => .int (i - j)) := opI0 fun _ _ _ _ _ _ _ q => sub_int q
theorem op_mul : OpR X (binaryOp .Mult) (rI CMul fun i j => .int (i * j)) := opI fun _ _ _ _ _ _ _ hc q => mul_int q hc.ok
/- // by a positive divisor -/
theorem op_fdiv : OpR X (binaryOp .FloorDiv) (rI CDiv fun i j => .int (i / j)) := opI fun i j _ _ _ _ _ hc q => by
  have h1 : (0 : Int) < j := hc.1
  have h2 : j < 1073741824 := hc.2
  exact floordiv_int (by omega) (by rw [Int.fdiv_eq_ediv_of_nonneg i (by omega)]; exact q) (.inl (PyProof.noPylong_small (by omega)))
/- % by a positive divisor of any size -/
theorem op_mod : OpR X (binaryOp .Mod) (rI (fun _ j => 0 < j) fun i j => .int (i % j)) := opI fun i j _ _ _ _ _ hc q => by
  have h1 : (0 : Int) < j := hc
  exact mod_int' (by omega) (by rw [Int.fmod_eq_emod_of_nonneg i (by omega)]; exact q)
theorem op_pow : OpR X (binaryOp .Pow) (rI CPow fun i j => .int (i ^ j.toNat)) := opI fun _ _ _ _ _ _ _ hc q => pow_int_small hc.1 hc.2.1 hc.2.2 q
theorem unI {f : Value → Sem Value} {g : Int → Int}
    (rule : ∀ (i : Int) (t : Tok) (s : Shared) (Q : Value → Shared → Prop) (E : Value → Shared → Prop), Q (.int (g i) s.toks) { s with toks := s.toks + 1 } → wpAny (model X.prog X.w) X.A (f (.int i t)) Q E s) :
    UnR X f (rU fun i => .int (g i)) := by
  intro pins s σ H x v Q I rx h
  obtain ⟨i, rfl, q⟩ := h
  obtain ⟨t, rfl⟩ := rx
  exact rule i t s _ _ ⟨.int (g i), H, I.tok _, ⟨_, rfl⟩, q⟩
theorem un_neg : UnR X (unaryOp .USub) (rU fun i => .int (-i)) := unI fun _ _ _ _ _ q => neg_int q
end

/-! ### comparisons -/
/- the scalars that == tells apart as data does -/
def scal : V → V → Bool
  | .non, .non => true | .non, .int _ => true | .int _, .non => true | .non, .bl _ => true | .bl _, .non => true | .non, .str _ => true | .str _, .non => true
  | .int _, .int _ => true | .bl _, .bl _ => true | .str _, .str _ => true | .byt _, .byt _ => true
  | .int _, .str _ => true | .str _, .int _ => true | .bl _, .str _ => true | .str _, .bl _ => true
  | _, _ => false
def rEq : R2 := fun x y H Q => scal x y = true ∧ Q (.bl (decide (x = y))) H
def rNe : R2 := fun x y H Q => scal x y = true ∧ Q (.bl (!decide (x = y))) H

theorem dec_int {i j : Int} : decide (V.int i = V.int j) = (i == j) := by
  rw [Bool.eq_iff_iff]
  simp
theorem dec_bl {i j : Bool} : decide (V.bl i = V.bl j) = (i == j) := by
  rw [Bool.eq_iff_iff]
  simp
theorem dec_str {i j : Str} : decide (V.str i = V.str j) = (i == j) := by
  rw [Bool.eq_iff_iff]
  simp
theorem dec_byt {i j : Array UInt8} : decide (V.byt i = V.byt j) = (i.toList == j.toList) := by
  rw [Bool.eq_iff_iff]
  cases i
  cases j
  simp

section
variable {X : Cx} {a b c : Expr} {ta tb tc : TE} {pos : Pos}
theorem fin_bl {pins : List (Addr × Obj)} {σ : St} {H : Hp} {s : Shared} {Q : VK} {k k' : Bool} (I : Inv X pins σ H s) (q : Q (.bl k) H) (e : k = k') : EP X pins σ Q (.bool k') s := by
  subst e
  exact ⟨.bl k, H, I, rfl, q⟩
theorem op_eq : OpR X (compareOp .Eq) rEq := by
  intro pins s σ H x y v u Q I rx ry h
  obtain ⟨hs, q⟩ := h
  cases x with
  | non =>
    cases rx
    cases y with
    | non => cases ry; exact PySem.EqNone.eq_none_none (fin_bl I q (by simp))
    | bl j => cases ry; exact PySem.EqNone.eq_none_bool (fin_bl I q (by simp))
    | int j => obtain ⟨t', rfl⟩ := ry; exact PySem.EqNone.eq_none_int (fin_bl I q (by simp))
    | str j => obtain ⟨t', rfl⟩ := ry; exact PySem.EqNone.eq_none_str (fin_bl I q (by simp))
    | _ => exact absurd (show false = true from hs) Bool.false_ne_true
  | bl i =>
    cases rx
    cases y with
    | non => cases ry; exact PySem.EqNone.eq_bool_none (fin_bl I q (by simp))
    | bl j => cases ry; exact eq_bool (fin_bl I q dec_bl)
    | str j => obtain ⟨t', rfl⟩ := ry; exact PySem.EqMixed.eq_bool_str (fin_bl I q (by simp))
    | _ => exact absurd (show false = true from hs) Bool.false_ne_true
  | int i =>
    obtain ⟨t, rfl⟩ := rx
    cases y with
    | non => cases ry; exact PySem.EqNone.eq_int_none (fin_bl I q (by simp))
    | int j => obtain ⟨t', rfl⟩ := ry; exact eq_int (fin_bl I q dec_int)
    | str j => obtain ⟨t', rfl⟩ := ry; exact PySem.EqMixed.eq_int_str (fin_bl I q (by simp))
    | _ => exact absurd (show false = true from hs) Bool.false_ne_true
  | str i =>
    obtain ⟨t, rfl⟩ := rx
    cases y with
    | non => cases ry; exact PySem.EqNone.eq_str_none (fin_bl I q (by simp))
    | bl j => cases ry; exact PySem.EqMixed.eq_str_bool (fin_bl I q (by simp))
    | int j => obtain ⟨t', rfl⟩ := ry; exact PySem.EqMixed.eq_str_int (fin_bl I q (by simp))
    | str j => obtain ⟨t', rfl⟩ := ry; exact eq_str (fin_bl I q dec_str)
    | _ => exact absurd (show false = true from hs) Bool.false_ne_true
  | byt i =>
    obtain ⟨t, rfl⟩ := rx
    cases y with
    | byt j => obtain ⟨t', rfl⟩ := ry; exact PySem.W.eq_bytes (fin_bl I q dec_byt)
    | _ => exact absurd (show false = true from hs) Bool.false_ne_true
  | _ => cases y <;> exact absurd (show false = true from hs) Bool.false_ne_true
theorem op_ne : OpR X (compareOp .NotEq) rNe := by
  intro pins s σ H x y v u Q I rx ry h
  obtain ⟨hs, q⟩ := h
  cases x with
  | non =>
    cases rx
    cases y with
    | non => cases ry; exact PySem.EqNone.ne_none_none (fin_bl I q (by simp))
    | bl j => cases ry; exact PySem.EqNone.ne_none_bool (fin_bl I q (by simp))
    | int j => obtain ⟨t', rfl⟩ := ry; exact PySem.EqNone.ne_none_int (fin_bl I q (by simp))
    | str j => obtain ⟨t', rfl⟩ := ry; exact PySem.EqNone.ne_none_str (fin_bl I q (by simp))
    | _ => exact absurd (show false = true from hs) Bool.false_ne_true
  | bl i =>
    cases rx
    cases y with
    | non => cases ry; exact PySem.EqNone.ne_bool_none (fin_bl I q (by simp))
    | bl j => cases ry; exact ne_bool (fin_bl I q (congrArg not dec_bl))
    | str j => obtain ⟨t', rfl⟩ := ry; exact PySem.EqMixed.ne_bool_str (fin_bl I q (by simp))
    | _ => exact absurd (show false = true from hs) Bool.false_ne_true
  | int i =>
    obtain ⟨t, rfl⟩ := rx
    cases y with
    | non => cases ry; exact PySem.EqNone.ne_int_none (fin_bl I q (by simp))
    | int j => obtain ⟨t', rfl⟩ := ry; exact ne_int (fin_bl I q (congrArg not dec_int))
    | str j => obtain ⟨t', rfl⟩ := ry; exact PySem.EqMixed.ne_int_str (fin_bl I q (by simp))
    | _ => exact absurd (show false = true from hs) Bool.false_ne_true
  | str i =>
    obtain ⟨t, rfl⟩ := rx
    cases y with
    | non => cases ry; exact PySem.EqNone.ne_str_none (fin_bl I q (by simp))
    | bl j => cases ry; exact PySem.EqMixed.ne_str_bool (fin_bl I q (by simp))
    | int j => obtain ⟨t', rfl⟩ := ry; exact PySem.EqMixed.ne_str_int (fin_bl I q (by simp))
    | str j => obtain ⟨t', rfl⟩ := ry; exact ne_str (fin_bl I q (congrArg not dec_str))
    | _ => exact absurd (show false = true from hs) Bool.false_ne_true
  | byt i =>
    obtain ⟨t, rfl⟩ := rx
    cases y with
    | byt j => obtain ⟨t', rfl⟩ := ry; exact PySem.W.ne_bytes (fin_bl I q (congrArg not dec_byt))
    | _ => exact absurd (show false = true from hs) Bool.false_ne_true
  | _ => cases y <;> exact absurd (show false = true from hs) Bool.false_ne_true

theorem op_lt : OpR X (compareOp .Lt) (rI0 fun i j => .bl (decide (i < j))) := opB0 fun _ _ _ _ _ _ _ q => lt_int q
theorem op_le : OpR X (compareOp .LtE) (rI0 fun i j => .bl (decide (i ≤ j))) := opB0 fun _ _ _ _ _ _ _ q => le_int q
theorem op_gt : OpR X (compareOp .Gt) (rI0 fun i j => .bl (decide (j < i))) := opB0 fun _ _ _ _ _ _ _ q => gt_int q
theorem op_ge : OpR X (compareOp .GtE) (rI0 fun i j => .bl (decide (j ≤ i))) := opB0 fun _ _ _ _ _ _ _ q => ge_int q
/- the one string within the other -/
/- is None, is not None: the right side a value none -/
/- is, is not of two objects that are tracked lists or instances -/
def isObj : HO → Bool
  | .lst _ => true
  | .ins _ _ _ => true
  | _ => false
/- two rules for one operation: by cases -/
theorem OpR.or {f : Value → Value → Sem Value} {r r' : R2} (h : OpR X f r) (h' : OpR X f r') : OpR X f (fun x y H Q => r x y H Q ∨ r' x y H Q) := by
  intro pins s σ H x y v u Q I rx ry q
  rcases q with q | q
  · exact h pins s σ H x y v u Q I rx ry q
  · exact h' pins s σ H x y v u Q I rx ry q

theorem nomark (b : Expr) {op : CmpOp} (h : op ≠ .In := by decide) (h2 : op ≠ .NotIn := by decide) : behindInMarks op b = false := by
  have e1 : (op == CmpOp.In) = false := by cases op <;> first | rfl | exact absurd rfl h
  have e2 : (op == CmpOp.NotIn) = false := by cases op <;> first | rfl | exact absurd rfl h2
  cases b <;> simp [behindInMarks, e1, e2]
/- a comparison as a value; hm: nomark b, or (for in, not in) by with_unfolding_all rfl -/
theorem pe_cmpR {op : CmpOp} {r : R2} (ho : OpR X (compareOp op) r) (ha : PE X a ta) (hb : PE X b tb) (hm : behindInMarks op b = false) : PE X (.Compare a [op] [b] pos) (tOp r ta tb) := by
  intro pins s σ H Q I h
  exact wpAny_Compare1 (binT ha hb I h fun v u s2 x y H2 I2 rx ry q => ho pins s2 σ H2 x y v u Q I2 rx ry q) hm
/- a reading of a value as a test -/
def tTest (t : TE) : TT := fun σ H Q => t σ H fun x H' => ∃ k, x = .bl k ∧ Q k H'
theorem pt_cmpR {op : CmpOp} {r : R2} (ho : OpR X (compareOp op) r) (ha : PE X a ta) (hb : PE X b tb) (hm : behindInMarks op b = false) : PT X (.Compare a [op] [b] pos) (tTest (tOp r ta tb)) := by
  intro pins s σ H Q I h
  refine wpAny_isTrue_Compare1 (thn (ha pins s σ H _ I h) fun v s1 ⟨x, H1, I1, r1, q1⟩ => thn (hb pins s1 σ H1 _ I1 q1) fun u s2 ⟨y, H2, I2, r2, q2⟩ =>
    thn (ho pins s2 σ H2 x y v u _ I2 r1 r2 q2) fun c s3 ⟨z, H3, I3, r3, k, e, q3⟩ => ?_) hm
  subst e
  cases r3
  exact wpAny_truthy_bool ⟨H3, I3, q3⟩
/- a op1 b op2 c -/
def tChain (r r' : R2) (ta tb tc : TE) : TE := fun σ H Q => ta σ H fun x H1 => tb σ H1 fun y H2 => r x y H2 fun z H3 => ∃ k, z = .bl k ∧
  (if k = true then tc σ H3 fun w' H4 => r' y w' H4 Q else Q (.bl false) H3)
theorem pe_chain {op op' : CmpOp} {r r' : R2} (ho : OpR X (compareOp op) r) (ho' : OpR X (compareOp op') r') (ha : PE X a ta) (hb : PE X b tb) (hc : PE X c tc)
    (hm : lastMarks [op, op'] [b, c] = false := by with_unfolding_all rfl) : PE X (.Compare a [op, op'] [b, c] pos) (tChain r r' ta tb tc) := by
  intro pins s σ H Q I h
  refine Compare_chain (thn (ha pins s σ H _ I h) fun v s1 ⟨x, H1, I1, r1, q1⟩ => chain_link (thn (hb pins s1 σ H1 _ I1 q1) fun u s2 ⟨y, H2, I2, r2, q2⟩ =>
    thn (ho pins s2 σ H2 x y v u _ I2 r1 r2 q2) fun d s3 ⟨z, H3, I3, r3, k, e, q3⟩ => ?_)) hm
  subst e
  cases r3
  refine wpAny_truthy_bool ?_
  cases k with
  | false => exact ite_ff ⟨.bl false, H3, I3, rfl, q3⟩
  | true => exact ite_tt (chain_last (thn (hc pins s3 σ H3 _ I3 q3) fun w' s4 ⟨z', H4, I4, r4, q4⟩ => ho' pins s4 σ H4 y z' u w' Q I4 r2 r4 q4))
/- a value's truth by the abstract heap -/
def TruV (K : PySem.W.Frag) (x : V) (H : Hp) (k : Bool) : Prop :=
  match x with
  | .non => k = false
  | .bl b => k = b
  | .int i => k = (i != 0)
  | .str y => y.length ≤ sizeLine ∧ k = ((y.length : Int) != 0)
  | .byt y => y.size ≤ sizeLine ∧ k = ((y.size : Int) != 0)
  | .ref p => (∃ xs, SqL K H p xs ∧ k = !xs.isEmpty) ∨ (∃ xs, SqT K H p xs ∧ k = !xs.isEmpty) ∨ ∃ kvs, H p = some (.dK kvs) ∧ k = !kvs.isEmpty
  | _ => False
theorem line63 : (sizeLine : Nat) < 2 ^ 63 := by rw [sizeLine_eq]; decide
/- any expression whose test is its value's truth (a name, a call, a subscript, a field ..: he by fun _ => rfl) -/
theorem op_add_str : OpR X (binaryOp .Add) (fun x y H Q => ∃ i j, x = .str i ∧ y = .str j ∧ i.length + j.length ≤ sizeLine ∧ Q (.str (i ++ j)) H) := by
  intro pins s σ H x y v u Q I rx ry h
  obtain ⟨i, j, rfl, rfl, hz, q⟩ := h
  obtain ⟨t, rfl⟩ := rx
  obtain ⟨t', rfl⟩ := ry
  exact add_str (fun t' tk => ⟨.str (i ++ j), H, I.tok _, ⟨_, rfl⟩, q⟩) hz
def PlainIxT (b : Expr) : Prop := ∀ o i, subscripted b false o i = operate [o, i] (getItem o i)
/- s[i], 0 ≤ i < len -/
/- b[i], 0 ≤ i < len -/
theorem vals1 {x : V} {us : List Value} (r : Vals [x] us) : ∃ u, us = [u] ∧ RelV x u := by
  cases r with
  | cons r1 r2 => cases r2; exact ⟨_, rfl, r1⟩
theorem vals2 {x y : V} {us : List Value} (r : Vals [x, y] us) : ∃ u w', us = [u, w'] ∧ RelV x u ∧ RelV y w' := by
  cases r with
  | cons r1 r2 =>
    cases r2 with
    | cons r3 r4 => cases r4; exact ⟨_, _, rfl, r1, r3⟩
theorem call_max2 (hc : X.calm = true) : CallR X (.builtin "max") (fun xs H Q => ∃ i j, xs = [.int i, .int j] ∧ Q (.int (if j > i then j else i)) H) := by
  intro pins s σ H xs us Q I r h
  obtain ⟨i, j, rfl, q⟩ := h
  obtain ⟨u, w', rfl, ⟨t, rfl⟩, ⟨t', rfl⟩⟩ := vals2 r
  refine max_two_ints (I.ok.hd hc) fun h' tk k => ⟨_, H, I.kept k, ?_, q⟩
  by_cases hj : j > i
  · rw [if_pos hj, if_pos hj]; exact ⟨_, rfl⟩
  · rw [if_neg hj, if_neg hj]; exact ⟨_, rfl⟩
theorem call_str_int : CallR X (.type "str") (fun xs H Q => ∃ i, xs = [.int i] ∧ i.natAbs.log2 < 1920 ∧ Q (.str (toString i)) H) := by
  intro pins s σ H xs us Q I r h
  obtain ⟨i, rfl, hz, q⟩ := h
  obtain ⟨u, rfl, t, rfl⟩ := vals1 r
  exact PySem.P.str_of_int hz ⟨.str _, H, I.tok _, ⟨_, rfl⟩, q⟩
/- len of a str, a bytes, a list, a tuple -/
def LenV (K : PySem.W.Frag) (x : V) (H : Hp) (n : Nat) : Prop :=
  match x with
  | .str y => y.length ≤ sizeLine ∧ n = y.length
  | .byt y => y.size ≤ sizeLine ∧ n = y.size
  | .ref p => (∃ xs, SqL K H p xs ∧ n = xs.length) ∨ ∃ xs, SqT K H p xs ∧ n = xs.length
  | _ => False
/- divmod: a new tuple -/
end
end L2

namespace L2
open PySem PySem.Spec PyProof.Rows

/-! ### an instance, its attributes a map -/
structure ObjM (h : Heap) (x dx C : Addr) (mA : Str → Option Value) : Prop where
  obj : h.get? x = some (PySem.W.instObj C dx)
  ns : h.Ns1 dx mA
  ne : dx ≠ x

theorem lookIn_ns {h : Heap} {dx : Addr} {mA : Str → Option Value} (n : h.Ns1 dx mA) : ∃ od, h.get? dx = some od ∧ ∀ name, PySem.W.lookIn name od = some (mA name) := by
  obtain ⟨o, es, ep, ho, hd, hk, _, hm⟩ := n
  refine ⟨o, ho, fun name => ?_⟩
  have e := hm name
  unfold nsFind findBy at e
  rw [← Array.find?_toList] at e
  unfold PySem.W.lookIn
  rw [hd]
  dsimp only
  split
  · rename_i y q
    rw [q] at e
    exact congrArg some e
  · rename_i q
    rw [q] at e
    have a : es.toList.any (·.refKey) = false := by
      rw [List.any_eq_false]
      intro y hy
      obtain ⟨z, t, hkey⟩ := hk y (Array.mem_toList_iff.mp hy)
      simp [DictEntry.refKey, hkey]
    have a' : ¬ es.toList.any (·.refKey) = true := by rw [a]; exact Bool.false_ne_true
    rw [if_neg a']
    exact congrArg some e

theorem ObjM.look {h : Heap} {x dx C : Addr} {mA : Str → Option Value} (I : ObjM h x dx C mA) : ∃ od, PySem.W.InstAt h x (PySem.W.instObj C dx) C (some od) ∧ ∀ name, PySem.W.lookIn name od = some (mA name) :=
  let ⟨od, ho, hl⟩ := lookIn_ns I.ns
  ⟨od, ⟨I.obj, rfl, rfl, ho⟩, hl⟩

section
variable {prog : Program} {w : World} {A : Around} {E : Value → Shared → Prop} {s : Shared} {K : PySem.W.Frag} {x dx C f : Addr} {mA : Str → Option Value} {name : Str} {v : Value}

/- C(..): the dict at the heap's end, the instance behind it; then its __init__ -/
/- C() where there is no __init__ but object's -/
end

/-! ### the attributes as a list of pairs -/
def putF (f : Str) (v : V) : List (Str × V) → List (Str × V)
  | [] => [(f, v)]
  | (g, x) :: r => if g = f then (g, v) :: r else (g, x) :: putF f v r
theorem RelO.none_of {o : Option Value} (r : RelO none o) : o = none := by
  cases o with
  | none => rfl
  | some u => exact (show False from r).elim
section
variable {P : Program} {w : World} {H H' : Hp} {h h' : Heap} {a C dx : Addr} {fs fs' : List (Str × V)}
theorem ins_get (hok : HOk P w H h) (e : H a = some (.ins C dx fs)) : ∃ mA, ObjM h a dx C mA ∧ (∀ f, RelO (fs.lookup f) (mA f)) ∧ PySem.Within mA (fs.map (·.1)) ∧ fs.length ≤ 1000 ∧ H dx = some (.own a) := by
  obtain ⟨d, z, ne, ob, mA, n, r, q⟩ := (show ObjOk P w H h a (.ins C dx fs) from hok a _ e)
  exact ⟨mA, ⟨ob, n, ne⟩, r, q, z, d⟩
end

/-! ### what of the text a class must have -/
structure Cls (K : PySem.W.Frag) (C : Addr) : Prop where
  pg : PySem.W.plainGet K C Str.empty = true
  hd : PySem.W.hasDictIn K C = true
  po : PySem.W.plainOver K C = true
  sa : PySem.W.findIn K (.ref C) "__setattr__" = some (some (.builtin "object.__setattr__"))
theorem Cls.get {K : PySem.W.Frag} {C : Addr} (c : Cls K C) (f : Str) : PySem.W.plainGet K C f = true := c.pg
/- no class of it has the name -/
def NoAttr (K : PySem.W.Frag) (C : Addr) (f : Str) : Prop := PySem.W.findIn K (.ref C) f = some none
/- a constant of the class -/
structure Con (K : PySem.W.Frag) (C : Addr) (f : Str) (v : V) (u : Value) : Prop where
  at_ : PySem.W.findIn K (.ref C) f = some (some u)
  rel : RelV v u
  get : PySem.W.specialIn K u "__get__" = some none
  cp : PySem.W.copiedNames.contains f = false
/- a method: a plain def of the class or of one above it -/
structure Meth (K : PySem.W.Frag) (C : Addr) (m : Str) (f : Addr) : Prop where
  at_ : PySem.W.findIn K (.ref C) m = some (some (.ref f))
  fn : PySem.W.isFn K (.ref f) = true
  kp : PySem.W.keepIn K (.ref f) = true

section
variable {X : Cx} {pins : List (Addr × Obj)} {σ : St} {H : Hp} {s : Shared} {a C dx : Addr} {fs : List (Str × V)} {f : Str} {v : V} {A : Around} {E : Value → Shared → Prop}

/- a new instance, tracked, without attributes -/
theorem Inv.made (I : Inv X pins σ H s) : Inv X pins σ (upd (upd H s.heap.objs.size (.own (s.heap.objs.size + 1))) (s.heap.objs.size + 1) (.ins C s.heap.objs.size []))
    { s with heap := (s.heap.push PySem.W.emptyDict).push (PySem.W.instObj C s.heap.objs.size) } := by
  have e1 : (s.heap.push PySem.W.emptyDict).get? s.heap.objs.size = some PySem.W.emptyDict := Heap.get?_push_size s.heap rfl
  have e2 : ((s.heap.push PySem.W.emptyDict).push (PySem.W.instObj C s.heap.objs.size)).get? (s.heap.objs.size + 1) = some (PySem.W.instObj C s.heap.objs.size) := by
    have := Heap.get?_push_size (s.heap.push PySem.W.emptyDict) (o := PySem.W.instObj C s.heap.objs.size) rfl
    rwa [Heap.size_push] at this
  have e3 : (s.heap.push PySem.W.emptyDict).Ns s.heap.objs.size (fun _ => none) := ⟨PySem.W.emptyDict, #[], _, e1, rfl, (fun e he => absurd he (by simp)), fun _ => rfl⟩
  have I1 := I.laid (a := s.heap.objs.size) (o := .own (s.heap.objs.size + 1)) (h' := s.heap.push PySem.W.emptyDict) (t' := s.toks) (fun b u q => Heap.get?_push_of_some _ q) (Nat.le_refl _) ⟨_, e1⟩
  refine I1.laid (a := s.heap.objs.size + 1) (o := .ins C s.heap.objs.size []) (t' := s.toks) (fun b u q => Heap.get?_push_of_some _ q) (Nat.le_of_eq (Heap.size_push _ _)) ?_
  have ne : s.heap.objs.size ≠ s.heap.objs.size + 1 := Nat.ne_of_lt (Nat.lt_succ_self _)
  refine ⟨by rw [upd_ne ne, upd_same], Nat.zero_le _, ne, e2, fun _ => none, (Heap.Ns1.of_empty e3).at fun o q => Heap.get?_push_of_some _ q, fun _ => True.intro, fun y hy => absurd rfl hy⟩

/- e.f where nothing but the object is asked: through attributeBase (super) and the last hold -/
end

/-! ### readings and rules -/
/- e.f, an attribute of the instance -/
def tFld (K : PySem.W.Frag) (ta : TE) (f : Str) : TE := fun σ H Q => ta σ H fun x H1 => ∃ a C dx fs v, x = .ref a ∧ H1 a = some (.ins C dx fs) ∧ Cls K C ∧ NoAttr K C f ∧ fs.lookup f = some v ∧ Q v H1
/- e.f, a constant of the class -/
def tCon (K : PySem.W.Frag) (ta : TE) (f : Str) : TE := fun σ H Q => ta σ H fun x H1 => ∃ a C dx fs v u, x = .ref a ∧ H1 a = some (.ins C dx fs) ∧ Cls K C ∧ Con K C f v u ∧ fs.lookup f = none ∧ Q v H1
/- e.f = value -/
def sFld (K : PySem.W.Frag) (ta tv : TE) (f : Str) : TS := fun D σ H => tv σ H fun y H1 => ta σ H1 fun x H2 => ∃ a C dx fs, x = .ref a ∧ H2 a = some (.ins C dx fs) ∧ Cls K C ∧ NoAttr K C f ∧ fs.length < 1000 ∧
  D.nx σ (upd H2 a (.ins C dx (putF f y fs)))
/- an augmented operator on two values -/
def InOp (X : Cx) (op : Operator) (rd : V → V → Hp → VK → Prop) : Prop :=
  ∀ (pins : List (Addr × Obj)) (s : Shared) (σ : St) (H : Hp) (x y : V) (u v : Value) (Q : VK), Inv X pins σ H s → RelV x u → RelV y v → rd x y H Q → wpAny (model X.prog X.w) X.A (inplaceOp op u v) (EP X pins σ Q) X.xe s
/- e.f op= value -/
def sFldAug (K : PySem.W.Frag) (ta tv : TE) (rd : V → V → Hp → VK → Prop) (f : Str) : TS := fun D σ H => ta σ H fun x H1 => ∃ a C dx fs v, x = .ref a ∧ H1 a = some (.ins C dx fs) ∧ Cls K C ∧ NoAttr K C f ∧ fs.lookup f = some v ∧
  tv σ H1 fun y H2 => rd v y H2 fun z H3 => ∃ dx' fs', H3 a = some (.ins C dx' fs') ∧ fs'.length < 1000 ∧ D.nx σ (upd H3 a (.ins C dx' (putF f z fs')))

section
variable {X : Cx} {o e value : Expr} {f : Str} {pos pos' tpos : Pos} {ta tv : TE}
def rAdd : V → V → Hp → VK → Prop := fun x y H Q => ∃ i j, x = .int i ∧ y = .int j ∧ Q (.int (i + j)) H
def rSub : V → V → Hp → VK → Prop := fun x y H Q => ∃ i j, x = .int i ∧ y = .int j ∧ Q (.int (i - j)) H
/- what is between an instance and its method: the tree of a method call -/
end

/-! ### isinstance -/
section
variable {X : Cx} {pins : List (Addr × Obj)} {σ : St} {H : Hp} {s : Shared} {A : Around} {E : Value → Shared → Prop} {Q : Value → Shared → Prop} {c : Value} {b : Bool}
/- the type of a value, as the fragment's deciders take it; for an instance its class -/
inductive TyOf (K : PySem.W.Frag) (H : Hp) : V → Value → Prop where
  | non : TyOf K H .non (.type "NoneType")
  | bl (x : Bool) : TyOf K H (.bl x) (.type "bool")
  | int (i : Int) : TyOf K H (.int i) (.type "int")
  | str (x : Str) : TyOf K H (.str x) (.type "str")
  | flt (x : UInt64) : TyOf K H (.flt x) (.type "float")
  | lst {a : Addr} {xs : List V} (e : H a = some (.lst xs)) : TyOf K H (.ref a) (.type "list")
  | frz {a : Addr} {o : Obj} {xs : List V} (e : H a = some (.frz o (.lst xs))) : TyOf K H (.ref a) (.type "list")
  | tup {a : Addr} {xs : List V} (e : H a = some (.tup xs)) : TyOf K H (.ref a) (.type "tuple")
  | dK {a : Addr} {kvs : List (Key × V)} (e : H a = some (.dK kvs)) : TyOf K H (.ref a) (.type "dict")
  | dT {a : Addr} {kvs : List (List Key × V)} (e : H a = some (.dT kvs)) : TyOf K H (.ref a) (.type "dict")
  | ins {a C dx : Addr} {fs : List (Str × V)} (e : H a = some (.ins C dx fs)) (cl : Cls K C) (ha : PySem.W.findIn K (.ref C) "__class__" = some (some (.builtin "object.__class__")))
      (hn : PySem.W.specialIn K (.builtin "object.__class__") "__get__" = some (some (.builtin "getset_descriptor.__get__"))) (htk : PySem.W.takesIn K (.builtin "object.__class__") = some true)
      (hm : PySem.W.mroIn K C (.type "object") = some true) : TyOf K H (.ref a) (.ref C)
/- isinstance(x, c) for one class c, a built-in or an own one: kitOne's answer -/
theorem isinst_ok {x : V} {u t : Value} (I : Inv X pins σ H s) (rx : RelV x u) (ty : TyOf X.K H x t) (e : PySem.W.kitOne X.K t c = some b) (h : ∀ tk, Q (.bool b) { s with toks := tk }) :
    wpAny (model X.prog X.w) A (call (.builtin "isinstance") [u, c]) Q E s := by
  cases ty with
  | non => cases (show u = Value.none from rx); exact PySem.W.kia_one PySem.W.kitx_none I.kIn True.intro e (fun z => nomatch z) h
  | bl y => cases (show u = Value.bool y from rx); exact PySem.W.kia_one PySem.W.kitx_bool I.kIn True.intro e (fun z => nomatch z) h
  | int i => obtain ⟨t, q⟩ := (show ∃ t, u = Value.int i t from rx); cases q; exact PySem.W.kia_one PySem.W.kitx_int I.kIn True.intro e (fun z => nomatch z) h
  | str y => obtain ⟨t, q⟩ := (show ∃ t, u = Value.str y t from rx); cases q; exact PySem.W.kia_one PySem.W.kitx_str I.kIn True.intro e (fun z => nomatch z) h
  | flt y => obtain ⟨t, q⟩ := (show ∃ t, u = Value.float y t from rx); cases q; exact PySem.W.kia_one PySem.W.kitx_float I.kIn True.intro e (fun z => nomatch z) h
  | @lst a xs ea =>
    cases (show u = Value.ref a from rx)
    obtain ⟨_, _, n, _, h1⟩ := (show ObjOk X.prog X.w H s.heap a (.lst xs) from I.hok a _ ea)
    exact PySem.W.kia_one PySem.W.kitx_list I.kIn ⟨_, h1, rfl⟩ e (fun z => nomatch z) h
  | @frz a ob xs ea =>
    cases (show u = Value.ref a from rx)
    obtain ⟨_, _, _, n, _, h1⟩ := (show ObjOk X.prog X.w H s.heap a (.frz ob (.lst xs)) from I.hok a _ ea)
    exact PySem.W.kia_one PySem.W.kitx_list I.kIn ⟨_, h1, rfl⟩ e (fun z => nomatch z) h
  | @tup a xs ea =>
    cases (show u = Value.ref a from rx)
    obtain ⟨_, _, _, p⟩ := (show ObjOk X.prog X.w H s.heap a (.tup xs) from I.hok a _ ea)
    obtain ⟨o, h1, h2, _⟩ := p
    exact PySem.W.kia_one PySem.W.kitx_tuple I.kIn ⟨o, h1, h2⟩ e (fun z => nomatch z) h
  | @dK a kvs ea =>
    cases (show u = Value.ref a from rx)
    obtain ⟨_, _, vs, _, p⟩ := (show ObjOk X.prog X.w H s.heap a (.dK kvs) from I.hok a _ ea)
    obtain ⟨o, es, ep, h1, h2, _⟩ := p
    exact PySem.W.kia_one PySem.W.kitx_dict I.kIn ⟨o, h1, h2.1⟩ e (fun z => nomatch z) h
  | @dT a kvs ea =>
    cases (show u = Value.ref a from rx)
    obtain ⟨_, _, xs, _, o, es, ep, h1, h2, _⟩ := (show ObjOk X.prog X.w H s.heap a (.dT kvs) from I.hok a _ ea)
    exact PySem.W.kia_one PySem.W.kitx_dict I.kIn ⟨o, h1, h2.1⟩ e (fun z => nomatch z) h
  | @ins a C dx fs ea cl ha hn htk hm =>
    cases (show u = Value.ref a from rx)
    obtain ⟨mA, O, _⟩ := ins_get I.hok ea
    obtain ⟨od, J, _⟩ := O.look
    exact PySem.W.kia_one (PySem.W.kitx_own (cl.get _) cl.hd ha hn htk hm) I.kIn J e (fun z => nomatch z) h
end
end L2

namespace L2
open PySem PySem.Spec PyProof.Rows

/-! ### room -/
structure Room (k : Nat) (A : Around) : Prop where
  hd : A.handled = none
  dp : A.depth + 3 * k + 5 < recursionLimit
  un : A.units + 16 * k + 200 < cLine
theorem Room.mono {j k : Nat} {A : Around} (r : Room k A) (h : j ≤ k) : Room j A := ⟨r.hd, by have := r.dp; omega, by have := r.un; omega⟩
theorem Room.deeper {k : Nat} {A : Around} (r : Room (k + 1) A) (env : Env) : Room k (A.deeper env) :=
  ⟨r.hd, by have := r.dp; show A.depth + 1 + 3 * k + 5 < _; omega, by have := r.un; show A.units + 3 + 16 * k + 200 < _; omega⟩
theorem Room.in1 {k : Nat} {A : Around} (r : Room (k + 1) A) : Room k A.in1 :=
  ⟨r.hd, by have := r.dp; show A.depth + 3 * k + 5 < _; omega, by have := r.un; show A.units + 1 + 16 * k + 200 < _; omega⟩
theorem make_depth {A : Around} {C : Addr} {us : List Value} {kw : List (Str × Value)} : (A.under (.builtin "type.__call__" ⟨.ref C :: us, kw⟩)).depth = A.depth + 1 := by
  first | rfl | simp [Around.under, Code.weight, Code.isCreation, Code.isGuard, Code.isCaller, Code.frames, Code.isFrame, guardIds]
theorem make_units {A : Around} {C : Addr} {us : List Value} {kw : List (Str × Value)} : (A.under (.builtin "type.__call__" ⟨.ref C :: us, kw⟩)).units = A.units + 1 := by
  first | rfl | simp [Around.under, Code.cUnits, Code.frames, Code.isFrame]
theorem Room.make {k : Nat} {A : Around} (r : Room (k + 1) A) (C : Addr) (us : List Value) (kw : List (Str × Value)) : Room k (A.under (.builtin "type.__call__" ⟨.ref C :: us, kw⟩)) :=
  ⟨r.hd, by have := r.dp; rw [make_depth]; omega, by have := r.un; rw [make_units]; omega⟩
theorem Room.depth {k : Nat} {A : Around} (r : Room k A) : A.depth < recursionLimit := by have := r.dp; omega
theorem Room.units {k : Nat} {A : Around} (r : Room k A) : A.units + 64 < cLine := by have := r.un; omega
theorem Room.units0 {k : Nat} {A : Around} (r : Room k A) : A.units < cLine := by have := r.un; omega

/-! ### argument lists and displays -/
def tNil : TA := fun _ H Q => Q [] H
def tCons (ta : TE) (tr : TA) : TA := fun σ H Q => ta σ H fun x H1 => tr σ H1 fun xs H2 => Q (x :: xs) H2
section
variable {X : Cx} {e : Expr} {es : List Expr} {te : TE} {t : TA} {pos : Pos}
theorem pa_nil : PA X [] tNil := fun _ _ _ _ H Q I h => Calls.spliced_nil ⟨[], H, I, .nil, h⟩
theorem pa_cons (ha : PE X e te) (hr : PA X es t) (hs : starEach (e :: es) X.env = (false, eval e X.env) :: starEach es X.env := by rfl) : PA X (e :: es) (tCons te t) := by
  intro pos pins s σ H Q I h
  rw [hs]
  show wpAny _ _ (spliced ((false, eval e X.env) :: backTo pos (starEach es X.env))) _ _ s
  refine Calls.spliced_cons (thn (ha pins s σ H _ I h) fun u s1 ⟨x, H1, I1, r1, q1⟩ => ?_)
  exact thn (hr pos pins s1 σ H1 _ I1 q1) fun us s2 ⟨xs, H2, I2, r2, q2⟩ => ⟨x :: xs, H2, I2, .cons r1 r2, q2⟩

/- a tuple, a list of written items -/
def tTup (t : TA) : TE := fun σ H Q => t σ H fun xs H1 => xs.length ≤ sizeLine ∧ ∀ p, H1 p = none → Q (.ref p) (upd H1 p (.tup xs))
def tLst (t : TA) : TE := fun σ H Q => t σ H fun xs H1 => xs.length ≤ sizeLine ∧ ∀ p, H1 p = none → Q (.ref p) (upd H1 p (.lst xs))
theorem pe_tup {x1} (h : PA X es t) : PE X (.Tuple es x1 pos) (tTup t) := by
  intro pins s σ H Q I hq
  refine wpAny_Tuple_spliced (thn (h pos pins s σ H _ I hq) fun us s1 ⟨xs, H1, I1, r, z, q⟩ => ⟨by rw [← r.length]; exact z, ?_⟩)
  have hf : H1 s1.heap.objs.size = none := I1.hok.fresh (Nat.le_refl _)
  refine ⟨.ref s1.heap.objs.size, upd H1 s1.heap.objs.size (.tup xs), I1.laid (t' := s1.toks) (fun b u e => Heap.get?_push_of_some _ e) (Nat.le_refl _) ?_, rfl, q _ hf⟩
  exact ⟨z, us, r, ⟨_, Heap.get?_push_size _ rfl, rfl, _, rfl⟩⟩
theorem pe_lst (h : PA X es t) : PE X (.List es pos) (tLst t) := by
  intro pins s σ H Q I hq
  refine wpAny_List_spliced (thn (h pos pins s σ H _ I hq) fun us s1 ⟨xs, H1, I1, r, z, q⟩ => ⟨by rw [← r.length]; exact z, ?_⟩)
  have hf : H1 s1.heap.objs.size = none := I1.hok.fresh (Nat.le_refl _)
  refine ⟨.ref s1.heap.objs.size, upd H1 s1.heap.objs.size (.lst xs), I1.laid (t' := s1.toks) (fun b u e => Heap.get?_push_of_some _ e) (Nat.le_refl _) ?_, rfl, q _ hf⟩
  exact ⟨z, us, 0, r, Heap.get?_push_size _ rfl⟩
end

/-! ### what a def promises -/
/- a def's promise: the bound arguments in the parameters' order, the heap, the wanted end, the wanted exception -/
abbrev Sp := List V → Hp → VK → XK → Prop
/- how an exception lies behind a call (file 08 gives it): the callers' frames, abstract heap and state ahead of the call, the wish, the exception, the state -/
abbrev CXT := List Env → Hp → Shared → XK → Value → Shared → Prop

/- the state at a call -/
structure Env0 (P : Program) (w : World) (K : PySem.W.Frag) (mg : Str → Option Value) (base : Heap) (A : Around) (outer : List Env) (s : Shared) (H : Hp) : Prop where
  frames : A.frames = some outer
  mod : Mod K mg base
  bs : ∀ b o, base.get? b = some o → s.heap.get? b = some o ∧ H b = none
  bsz : base.objs.size ≤ s.heap.objs.size
  funs : s.heap.FunFrames base outer
  frf : ∀ b ∈ frs outer, H b = none
  hok : HOk P w H s.heap
  bare : AllBare s.gens
/- a call's end -/
def CE (outer : List Env) (P : Program) (w : World) (H : Hp) (s : Shared) (Q : VK) (u : Value) (s' : Shared) : Prop :=
  ∃ v H', s'.os = s.os ∧ AllBare s'.gens ∧ Un (frs outer) [] H H' s.heap s'.heap ∧ HOk P w H' s'.heap ∧ RelV v u ∧ Q v H'
def CR (CX : CXT) (outer : List Env) (P : Program) (w : World) (H : Hp) (s : Shared) (Q : VK) (E : XK) (r : Result) (s' : Shared) : Prop :=
  match r with
  | .ok (.ret u) => CE outer P w H s Q u s'
  | .ok _ => False
  | .error e => CX outer H s E e s'
structure FnOk (P : Program) (w : World) (K : PySem.W.Frag) (mg : Str → Option Value) (base : Heap) (CX : CXT) (k : Nat) (f : Addr) (fd : FuncData) (ps : List Str) (sp : Sp) : Prop where
  len : ∀ vs H Q E, sp vs H Q E → vs.length = ps.length
  run : ∀ (A : Around) (outer : List Env) (s : Shared) (H : Hp) (args : Args) (us : List Value) (vs : List V) (Q : VK) (E : XK), Room k A → Env0 P w K mg base A outer s H → BindsTo s fd args (ps.zip us) → Vals vs us → sp vs H Q E →
    codeAny (model P w) A (.call (.ref f) args) (CR CX outer P w H s Q E) s
theorem FnOk.mono {P : Program} {w : World} {K : PySem.W.Frag} {mg : Str → Option Value} {base : Heap} {CX : CXT} {j k : Nat} {f : Addr} {fd : FuncData} {ps : List Str} {sp : Sp} (F : FnOk P w K mg base CX j f fd ps sp) (h : j ≤ k) :
    FnOk P w K mg base CX k f fd ps sp := ⟨F.len, fun A outer s H args us vs Q E hr => F.run A outer s H args us vs Q E (hr.mono h)⟩
/- a weaker promise -/
theorem FnOk.imp {P : Program} {w : World} {K : PySem.W.Frag} {mg : Str → Option Value} {base : Heap} {CX : CXT} {k : Nat} {f : Addr} {fd : FuncData} {ps : List Str} {sp sp' : Sp} (F : FnOk P w K mg base CX k f fd ps sp)
    (h : ∀ vs H Q E, sp' vs H Q E → sp vs H Q E) : FnOk P w K mg base CX k f fd ps sp' :=
  ⟨fun vs H Q E q => F.len vs H Q E (h _ _ _ _ q), fun A outer s H args us vs Q E hr he hb hv hs => F.run A outer s H args us vs Q E hr he hb hv (h _ _ _ _ hs)⟩

theorem Env0.make {P : Program} {w : World} {K : PySem.W.Frag} {mg : Str → Option Value} {base : Heap} {A : Around} {outer : List Env} {s : Shared} {H : Hp} (e : Env0 P w K mg base A outer s H) (C : Addr) (us : List Value) (kw : List (Str × Value)) :
    Env0 P w K mg base (A.under (.builtin "type.__call__" ⟨.ref C :: us, kw⟩)) outer s H := ⟨by first | exact e.frames | (simpa [Around.under, Code.envs, Code.isFrame, pushEnvs] using e.frames), e.mod, e.bs, e.bsz, e.funs, e.frf, e.hok, e.bare⟩
theorem Env0.in1 {P : Program} {w : World} {K : PySem.W.Frag} {mg : Str → Option Value} {base : Heap} {A : Around} {outer : List Env} {s : Shared} {H : Hp} (e : Env0 P w K mg base A outer s H) :
    Env0 P w K mg base A.in1 outer s H := ⟨e.frames, e.mod, e.bs, e.bsz, e.funs, e.frf, e.hok, e.bare⟩

section
variable {X : Cx} {pins : List (Addr × Obj)} {σ : St} {H : Hp} {s s' : Shared}
/- from a body: what a callee wants -/
theorem Inv.env0 (I : Inv X pins σ H s) : Env0 X.prog X.w X.K X.mg X.base X.A X.stack s H :=
  ⟨I.ok.frames, I.ok.mod, I.bs, Nat.le_trans I.ok.bsz I.sz, I.stack, I.stkFree, I.hok, I.bare⟩
/- behind a call -/
theorem Inv.after {Q : VK} {u : Value} (I : Inv X pins σ H s) (h : CE X.stack X.prog X.w H s Q u s') : EP X pins σ Q u s' := by
  obtain ⟨v, H', os, bare, un, hok, r, q⟩ := h
  obtain ⟨hh, g, d, t, os'⟩ := s'
  obtain rfl : os' = s.os := os
  exact ⟨v, H', I.call (h' := hh) (g' := g) (d' := d) (t' := t) (ch := []) un hok bare (fun b z => absurd z (by simp)), r, q⟩
end

/-! ### calls -/
/- f(..): the written arguments, then the defaults dvs; E: what is wanted of an exception -/
def tCall (sp : Sp) (dvs : List V) (E : XK) (t : TA) : TE := fun σ H Q => t σ H fun vs H1 => sp (vs ++ dvs) H1 Q E
/- o.m(..) of an instance of the class at C -/
def tMeth (C : Addr) (m : Str) (sp : Sp) (dvs : List V) (E : XK) (ta : TE) (t : TA) : TE := fun σ H Q => ta σ H fun x H1 => ∃ a dx fs, x = .ref a ∧ H1 a = some (.ins C dx fs) ∧ fs.lookup m = none ∧
  t σ H1 fun vs H2 => sp (x :: (vs ++ dvs)) H2 Q E
/- C(..): a new instance and its dict, then __init__ -/
def tMake (C : Addr) (sp : Sp) (dvs : List V) (E : XK) (t : TA) : TE := fun σ H Q => t σ H fun vs H1 => ∀ x dx, H1 x = none → H1 dx = none → dx ≠ x →
  sp (.ref x :: (vs ++ dvs)) (upd (upd H1 dx (.own x)) x (.ins C dx [])) (fun v H2 => v = .non ∧ Q (.ref x) H2) E

/- how the parameters are bound: us the positional arguments, kw the keywords' values by name, ds the defaults that fill up -/
def Binds (K : PySem.W.Frag) (fd : FuncData) (ps : List Str) (ds : List Value) : Prop :=
  ∀ (s : Shared) (us : List Value), K.In s.heap → (us ++ ds).length = ps.length → BindsTo s fd ⟨us, []⟩ (ps.zip (us ++ ds))
/- every parameter is given -/
theorem Binds.all {K : PySem.W.Frag} {fd : FuncData} {ps : List Str} (h : ∀ us : List Value, us.length = ps.length → bindArgs fd ⟨us, []⟩ = pure (ps.zip us)) : Binds K fd ps [] := fun s us _ hl => by
  rw [List.append_nil] at hl ⊢
  exact .of_eq (h us hl)

/- an exception of a callee reaches what this body wants of exceptions -/
def Passes (CX : CXT) (X : Cx) (E : XK) : Prop := ∀ (pins : List (Addr × Obj)) (σ : St) (H : Hp) (s : Shared) (e : Value) (s' : Shared), Inv X pins σ H s → CX X.stack H s E e s' → X.xe e s'

section
variable {X : Cx} {CX : CXT} {k : Nat} {f C : Addr} {fd : FuncData} {ps : List Str} {sp : Sp} {dvs : List V} {ds : List Value} {E : XK} {x m : Str} {p pos apos : Pos} {e o : Expr} {es : List Expr} {ta : TE} {t : TA}

/- the callee runs -/
theorem run_fn {pins : List (Addr × Obj)} {σ : St} {H : Hp} {s : Shared} {Q : VK} {us : List Value} {vs : List V} (F : FnOk X.prog X.w X.K X.mg X.base CX k f fd ps sp) (hr : Room k X.A) (hb : Binds X.K fd ps ds) (hd : Vals dvs ds) (hx : Passes CX X E)
    (I : Inv X pins σ H s) (r : Vals vs us) (h : sp (vs ++ dvs) H Q E) : wpAny (model X.prog X.w) X.A (call (.ref f) us) (EP X pins σ Q) X.xe s := by
  have r2 : Vals (vs ++ dvs) (us ++ ds) := r.append hd
  have hl : (us ++ ds).length = ps.length := by rw [← r2.length]; exact F.len _ _ _ _ h
  refine wpAny_call (codeAny_mono (F.run X.A X.stack s H ⟨us, []⟩ (us ++ ds) (vs ++ dvs) Q E hr I.env0 (hb s us I.kIn hl) r2 h) fun r s' hq => ?_)
  cases r with
  | error e => exact hx pins σ H s e s' I hq
  | ok fl =>
    cases fl with
    | ret u => exact I.after hq
    | next => exact False.elim hq
    | brk => exact False.elim hq
    | cont => exact False.elim hq

theorem pe_call (F : FnOk X.prog X.w X.K X.mg X.base CX k f fd ps sp) (hr : Room k X.A) (hg : Gl X x) (hm : X.mg x = some (.ref f)) (hk : PySem.W.keepIn X.K (.ref f) = true) (hb : Binds X.K fd ps ds) (hd : Vals dvs ds) (hx : Passes CX X E)
    (ha : PA X (e :: es) t) (hdb : (x == ("__debug__" : Str)) = false := by decide) (he : starEach (e :: es) X.env = (false, eval e X.env) :: starEach es X.env := by rfl) (hpl : (backTo pos (starEach es X.env)).any (·.1) = false := by rfl) :
    PE X (.Call (.Name x p) (e :: es) [] pos) (tCall sp dvs E t) := by
  intro pins s σ H Q I h
  refine wpAny_Call_Name_kw (ld_glob I hg hm ?_ hdb)
  refine PySem.W.callWith_K (h₀ := X.base) I.ok.mod.kin hk (thn (ha pos pins s σ H _ I h) fun us s1 ⟨vs, H1, I1, r, q⟩ => ⟨I1.kIn, ?_⟩) he hpl
  exact run_fn F hr hb hd hx I1 r q
/- o.m(e, ..) -/
/- o.m() -/
/- what a class must have to be made -/
structure Mk (K : PySem.W.Frag) (C f : Addr) : Prop where
  makes : PySem.W.makesIn K C = true
  init : PySem.W.findIn K (.ref C) "__init__" = some (some (.ref f))
  fn : PySem.W.isFn K (.ref f) = true
  kp : PySem.W.keepIn K (.ref C) = true

end

/-! ### keywords -/
/- the values of the keywords, from the left -/
def PK (X : Cx) (kws : List Keyword) (t : TA) : Prop :=
  ∀ (pos : Pos) (pins : List (Addr × Obj)) (s : Shared) (σ : St) (H : Hp) (Q : List V → Hp → Prop), Inv X pins σ H s → t σ H Q → wpAny (model X.prog X.w) X.A (evalAll ((backToKw pos (keywordEach kws X.env)).map (·.2))) (AP X pins σ Q) X.xe s
section
variable {X : Cx} {CX : CXT} {k : Nat} {f C : Addr} {fd : FuncData} {ps ks : List Str} {sp : Sp} {E : XK} {x m : Str} {p pos apos kpos : Pos} {e o : Expr} {es : List Expr} {kws : List Keyword} {te ta : TE} {t tk : TA} {nm : Option Str}
/- how a call with keywords binds: g puts the positional values us and the keywords' values ws (names ks) in the parameters' order, defaults among them -/
structure KBinds (K : PySem.W.Frag) (fd : FuncData) (ps ks : List Str) (g : List Value → List Value → List Value) (gV : List V → List V → List V) : Prop where
  to : ∀ (s : Shared) (us ws : List Value), K.In s.heap → (g us ws).length = ps.length → BindsTo s fd ⟨us, ks.zip ws⟩ (ps.zip (g us ws))
  rel : ∀ {vs : List V} {us : List Value} {zs : List V} {ws : List Value}, Vals vs us → Vals zs ws → Vals (gV vs zs) (g us ws)
def tCallK (sp : Sp) (gV : List V → List V → List V) (E : XK) (t tk : TA) : TE := fun σ H Q => t σ H fun vs H1 => tk σ H1 fun zs H2 => sp (gV vs zs) H2 Q E
variable {g : List Value → List Value → List Value} {gV : List V → List V → List V}
/- f(e, .., k = v, ..) -/
end

/-! ### a def's body keeps its promise -/
/- names: the parameters first -/
structure FnScope (N P : List Str) (sc : Scope) : Prop where
  kind : sc.kind = .function
  co : sc.isCoroutine = false
  gen : sc.isGenerator = false
  nd : N.Nodup
  pre : N.take P.length = P
  par : ∀ x ∈ P, sc.names.lookup x = some .local ∨ sc.names.lookup x = some .cell
  nofree : ∀ y ∈ sc.names, y.2 ≠ .free

theorem bindL_out {kindOf : Str → Option NameKind} {x : Str} : ∀ {binds : List (Str × Value)} {m : Str → Option Value}, (∀ v, (x, v) ∉ binds) → bindL kindOf binds m x = m x
  | [], _, _ => rfl
  | (n, v) :: r, m, h => by
    unfold bindL
    rw [bindL_out fun w hw => h w (List.mem_cons_of_mem _ hw)]
    split
    · have : x ≠ n := by rintro rfl; exact h v List.mem_cons_self
      simp [this]
    · rfl
theorem bindC_out {kindOf : Str → Option NameKind} {x : Str} : ∀ {binds : List (Str × Value)} {m : Str → Option Value}, (∀ v, (x, v) ∉ binds) → bindC kindOf binds m x = m x
  | [], _, _ => rfl
  | (n, v) :: r, m, h => by
    unfold bindC
    rw [bindC_out fun w hw => h w (List.mem_cons_of_mem _ hw)]
    split
    · rfl
    · have : x ≠ n := by rintro rfl; exact h v List.mem_cons_self
      simp [this]
theorem bindL_get {kindOf : Str → Option NameKind} {x : Str} {v : Value} : ∀ {P : List Str} {vs : List Value} {i : Nat} {m : Str → Option Value}, P.Nodup → P[i]? = some x → vs[i]? = some v → kindOf x = some .local →
    bindL kindOf (P.zip vs) m x = some v
  | [], _, _, _, _, h, _, _ => by simp at h
  | _ :: _, [], _, _, _, _, h, _ => by simp at h
  | p :: P, w :: vs, 0, m, nd, h1, h2, hk => by
    simp at h1 h2; subst h1; subst h2
    show bindL kindOf ((p, w) :: P.zip vs) m p = _
    unfold bindL
    rw [bindL_out fun v hv => (List.nodup_cons.mp nd).1 (List.of_mem_zip hv).1, if_pos hk]
    simp
  | p :: P, w :: vs, i + 1, m, nd, h1, h2, hk => by
    show bindL kindOf ((p, w) :: P.zip vs) m x = _
    unfold bindL
    exact bindL_get (i := i) (List.nodup_cons.mp nd).2 (by simpa using h1) (by simpa using h2) hk
theorem bindC_get {kindOf : Str → Option NameKind} {x : Str} {v : Value} : ∀ {P : List Str} {vs : List Value} {i : Nat} {m : Str → Option Value}, P.Nodup → P[i]? = some x → vs[i]? = some v → kindOf x ≠ some .local →
    bindC kindOf (P.zip vs) m x = some v
  | [], _, _, _, _, h, _, _ => by simp at h
  | _ :: _, [], _, _, _, _, h, _ => by simp at h
  | p :: P, w :: vs, 0, m, nd, h1, h2, hk => by
    simp at h1 h2; subst h1; subst h2
    show bindC kindOf ((p, w) :: P.zip vs) m p = _
    unfold bindC
    rw [bindC_out fun v hv => (List.nodup_cons.mp nd).1 (List.of_mem_zip hv).1, if_neg hk]
    simp
  | p :: P, w :: vs, i + 1, m, nd, h1, h2, hk => by
    show bindC kindOf ((p, w) :: P.zip vs) m x = _
    unfold bindC
    exact bindC_get (i := i) (List.nodup_cons.mp nd).2 (by simpa using h1) (by simpa using h2) hk

/- the names' values at the entry -/
def start (N : List Str) (vs : List V) : St := vs.map some ++ List.replicate (N.length - vs.length) none

/- the context of a def's body, at its entry; an exception leaves the frame, then lies as CX says -/
def cxOf (CX : CXT) (P : Program) (w : World) (K : PySem.W.Frag) (mg : Str → Option Value) (base : Heap) (N : List Str) (qual : Str) (scope : Scope) (f : Addr) (cd : Value) (A : Around) (outer : List Env) (s : Shared) (H : Hp) (E : XK) : Cx where
  prog := P
  w := w
  K := K
  mg := mg
  base := base
  A := A.deeper (envOfC qual scope s.heap.objs.size f cd)
  N := N
  s₀ := s
  H₀ := H
  env := envOfC qual scope s.heap.objs.size f cd
  outer := outer
  stack := envOfC qual scope s.heap.objs.size f cd :: outer
  ex := []
  calm := true
  fn := fun _ => true
  pn := []
  xe := fun e s' => wpAny (model P w) (A.deeper (envOfC qual scope s.heap.objs.size f cd)) (leaving (envOfC qual scope s.heap.objs.size f cd) e) (fun _ s'' => CX outer H s E e s'') (fun e' s'' => CX outer H s E e' s'') s'

theorem cell_has {sc : Scope} {n : Nat} {x : Str} (h : sc.names.lookup x = some .cell) : ∃ c, (cellsFrom n sc.names []).lookup x = some c := by
  have q := PySem.W.cellsFrom_some sc.names n [] (.inl h)
  exact Option.isSome_iff_exists.mp q

theorem inv_start {CX : CXT} {P : Program} {w : World} {K : PySem.W.Frag} {mg : Str → Option Value} {base : Heap} {N ps : List Str} {qual : Str} {scope : Scope} {f : Addr} {cd : Value} {A : Around} {outer : List Env} {s s1 : Shared} {H : Hp} {E : XK} {us : List Value} {vs : List V}
    (S : FnScope N ps scope) (hd : A.handled = none) (e0 : Env0 P w K mg base A outer s H) (hl : vs.length = ps.length) (r : Vals vs us)
    (x : InCallC s s.heap.objs.size (bindL (envOfC qual scope s.heap.objs.size f cd).kindOf (ps.zip us) fun _ => none) (cellsFrom (s.heap.objs.size + 1) scope.names []) (bindC (envOfC qual scope s.heap.objs.size f cd).kindOf (ps.zip us) fun _ => none) s1) :
    Inv (cxOf CX P w K mg base N qual scope f cd A outer s H E) [] (start N vs) H s1 := by
  have hpl : ps.length ≤ N.length := by have := congrArg List.length S.pre; rw [List.length_take] at this; omega
  obtain ⟨h1, tk, rfl, hk⟩ := x.done
  have noA : ∀ b : Addr, b ∉ (cxOf CX P w K mg base N qual scope f cd A outer s H E).ex := fun b z => absurd (show b ∈ ([] : List Addr) from z) (by simp)
  refine ⟨⟨e0.mod, S.kind, rfl, rfl, Nat.le_refl _, fun y z c h1 h2 => ?_, fun y hy => ?_, fun y c _ h => ?_, fun _ => hd, Around.frames_deeper e0.frames, .inr ⟨rfl, rfl⟩, fun b z => absurd z (noA b), e0.bs, e0.bsz, fun b _ _ => noA b, fun b z => absurd z (noA b), e0.funs, e0.frf⟩,
    rfl, e0.bare, Un.kept hk, ⟨_, x.toInCall.ns, fun i y v h1 h2 h3 => ?_⟩, fun y c h => ⟨_, x.cell y c h⟩, e0.hok.fresh (Nat.le_refl _), fun y c h => ?_, fun p hp => absurd (show p ∈ ([] : List (Addr × Obj)) from hp) (by simp), e0.hok.kept hk, ?_⟩
  · exact name_of_addr x.apart (PySem.mem_of_lookup h1) (PySem.mem_of_lookup h2)
  · have hy : scope.names.lookup y = some .cell ∨ scope.names.lookup y = some .free := hy
    rcases hy with hy | hy
    · exact cell_has hy
    · exact absurd rfl (S.nofree _ (PySem.mem_of_lookup hy))
  · exact Nat.le_of_lt (x.above y c (PySem.mem_of_lookup h))
  · have hi : i < vs.length := by
      unfold start at h2
      by_cases hi : i < vs.length
      · exact hi
      · rw [List.getElem?_append_right (by simpa using hi)] at h2
        rw [List.getElem?_replicate] at h2
        split at h2 <;> cases h2
    have ha : vs[i]? = some v := by
      unfold start at h2
      rw [List.getElem?_append_left (by simpa using hi), List.getElem?_map] at h2
      cases e : vs[i]? with
      | none => rw [e] at h2; cases h2
      | some a => rw [e] at h2; cases h2; rfl
    obtain ⟨u, hu, rv⟩ := r.get ha
    have hp : ps[i]? = some y := by
      rw [← S.pre, List.getElem?_take_of_lt (by omega)]; exact h1
    have ndP : ps.Nodup := by rw [← S.pre]; exact S.nd.sublist (List.take_sublist _ _)
    refine ⟨u, rv, ?_⟩
    rcases S.par y (List.mem_of_getElem? hp) with k | k
    · exact .inl ⟨k, bindL_get ndP hp hu k⟩
    · obtain ⟨c, e⟩ := cell_has (n := s.heap.objs.size + 1) k
      refine .inr ⟨.inl k, c, e, ?_⟩
      have q := x.cell y c e
      rw [bindC_get ndP hp hu (by show scope.names.lookup y ≠ _; rw [k]; decide)] at q
      exact q
  · exact e0.hok.fresh (Nat.le_of_lt (x.above y c (PySem.mem_of_lookup h)))
  · unfold start
    show _ = N.length
    rw [List.length_append, List.length_map, List.length_replicate]
    omega

/- THE RULE: a def (or a method) of the text, by its body. The body's reading t is chosen for each entry; it is run at the parameters' values -/
theorem fn_of {CX : CXT} {P : Program} {w : World} {K : PySem.W.Frag} {mg : Str → Option Value} {base : Heap} {k : Nat} {f : Addr} {name qual : Str} {params : Arguments} {body : List Stmt} {scope : Scope} {dV kV doc pm cdv ct oc : Value} {an od : Option Addr}
    {osl : Array (Option Value)} {N ps : List Str} {sp : Sp} (lk : K.lookup f = some ⟨oc, od, .func (PySem.W.fnOf name qual params body scope dV kV doc pm an cdv ct), osl⟩) (hcd : PySem.W.codeIn K cdv qual = true) (S : FnScope N ps scope)
    (len : ∀ vs H Q E, sp vs H Q E → vs.length = ps.length)
    (hbody : ∀ (A : Around) (outer : List Env) (s : Shared) (H : Hp) (vs : List V) (Q : VK) (E : XK), Room k (A.deeper (envOfC qual scope s.heap.objs.size f cdv)) → sp vs H Q E →
      ∃ t, PSs (cxOf CX P w K mg base N qual scope f cdv A outer s H E) body t ∧ t { nx := fun _ H' => Q .non H', rt := Q } (start N vs) H) :
    FnOk P w K mg base CX (k + 1) f (PySem.W.fnOf name qual params body scope dV kV doc pm an cdv ct) ps sp := by
  refine ⟨len, fun A outer s H args us vs Q E hr e0 hb r hsp => ?_⟩
  have hl := len _ _ _ _ hsp
  have KX : K.In s.heap := e0.mod.kin.keeps fun b o e => (e0.bs b o e).1
  have lim : s.heap.NoLimit := e0.mod.nolimit.keeps fun b o e => (e0.bs b o e).1
  have hkind : ∀ y ∈ ps.zip us, scope.names.lookup y.1 = some .local ∨ (scope.names.lookup y.1 = some .cell ∧ ((cellsFrom (s.heap.objs.size + 1) scope.names []).lookup y.1).isSome = true) := fun ⟨n, v⟩ hy => by
    rcases S.par n (List.of_mem_zip hy).1 with q | q
    · exact .inl q
    · exact .inr ⟨q, PySem.W.cellsFrom_some _ _ _ (.inl q)⟩
  refine codeAny_call_function hr.depth (KX _ _ lk) rfl S.co S.gen rfl (PySem.W.codeRec_of KX hcd) (hb _ _ _ _ ?_)
  refine wpAny_newFunctionEnv_cells S.kind hkind fun env he s1 x => ?_
  subst he
  refine ⟨lim.keeps x.toInCall.keep, codeAny_func ?_⟩
  obtain ⟨t, ht, hq⟩ := hbody A outer s H vs Q E (hr.deeper _) hsp
  have I : Inv (cxOf CX P w K mg base N qual scope f cdv A outer s H E) [] (start N vs) H s1 := inv_start S hr.hd e0 hl r x
  refine wpAny_mono (ht [] s1 (start N vs) H _ I hq) (fun fl s' hs => ?_) fun e s' hs => hs
  have fin : ∀ {σ' : St} {H' : Hp} {v : V} {u : Value}, Inv (cxOf CX P w K mg base N qual scope f cdv A outer s H E) [] σ' H' s' → RelV v u → Q v H' → CE outer P w H s Q u s' :=
    fun {σ' H' v u} J rv q => ⟨v, H', J.os, J.bare, J.base, J.hok, rv, q⟩
  cases fl with
  | ret u =>
    obtain ⟨v, σ', H', J, rv, q⟩ := hs
    exact fin J rv q
  | next =>
    obtain ⟨σ', H', J, q⟩ := hs
    exact fin (v := V.non) (u := Value.none) J rfl q
  | brk =>
    obtain ⟨_, _, _, q⟩ := hs
    exact False.elim q
  | cont =>
    obtain ⟨_, _, _, q⟩ := hs
    exact False.elim q
end L2

namespace L2
open PySem PySem.Spec PyProof.Rows
section
variable {X : Cx} {x : Str} {p pos : Pos} {e : Expr} {es : List Expr} {t : TA} {id T : String} {r : List V → Hp → VK → Prop}

def tCB (r : List V → Hp → VK → Prop) (t : TA) : TE := fun σ H Q => t σ H fun vs H1 => r vs H1 Q
/- f(e, ..), f a built-in function -/
theorem pe_callB (hc : CallR X (.builtin id) r) (hg : Gl X x) (hm : X.mg x = none) (hv : bootBuiltins x = some (.builtin id)) (ha : PA X (e :: es) t) (hn : x ≠ "__name__" := by decide) (hdb : (x == ("__debug__" : Str)) = false := by decide)
    (he : starEach (e :: es) X.env = (false, eval e X.env) :: starEach es X.env := by rfl) (hpl : (backTo pos (starEach es X.env)).any (·.1) = false := by rfl) : PE X (.Call (.Name x p) (e :: es) [] pos) (tCB r t) := by
  intro pins s σ H Q I h
  refine wpAny_Call_Name_kw (ld_blt I hg hm hv ?_ hn hdb)
  exact PyProof.Rows.callWith_builtin1 (thn (ha pos pins s σ H _ I h) fun us s1 ⟨vs, H1, I1, r1, q1⟩ => hc pins s1 σ H1 vs us Q I1 r1 q1) he hpl
/- T(e, ..), T a built-in type -/
theorem pe_callTy (hc : CallR X (.type T) r) (hg : Gl X x) (hm : X.mg x = none) (hv : bootBuiltins x = some (.type T)) (ha : PA X (e :: es) t) (hn : x ≠ "__name__" := by decide) (hdb : (x == ("__debug__" : Str)) = false := by decide)
    (he : starEach (e :: es) X.env = (false, eval e X.env) :: starEach es X.env := by rfl) (hpl : (backTo pos (starEach es X.env)).any (·.1) = false := by rfl) : PE X (.Call (.Name x p) (e :: es) [] pos) (tCB r t) := by
  intro pins s σ H Q I h
  refine wpAny_Call_Name_kw (ld_blt I hg hm hv ?_ hn hdb)
  exact PyProof.Rows.callWith_type1 (thn (ha pos pins s σ H _ I h) fun us s1 ⟨vs, H1, I1, r1, q1⟩ => hc pins s1 σ H1 vs us Q I1 r1 q1) he hpl
/- T() -/
end
end L2

namespace HT
open PySem PyProof.Rows

/- t < u of tuples of ints -/
def lexLt : List Int → List Int → Bool
  | [], [] => false
  | [], _ :: _ => true
  | _ :: _, [] => false
  | x :: xs, y :: ys => if x = y then lexLt xs ys else decide (x < y)
section
open PySem.SeqAt
open PySem.AutoSeq1 (wpAny_loadPart')
open PySem.MeetsSeq PySem.MeetsSeq2 PySem.MeetsSeq3

end

section
variable {prog : Program} {w : World} {A : Around} {E : Value → Shared → Prop} {s : Shared}

/- t + u, t not empty -/
/- a slice's bound as a place among n (d where it is left out) -/
def sIx (n d : Nat) : Option Int → Nat
  | none => d
  | some v => if v < 0 then (v + (n : Int)).toNat else min v.toNat n
end
end HT

namespace L2
open PySem PySem.Spec PyProof.Rows

/-! ### the parts of a slice -/
abbrev TO := St → Hp → (Option Int → Hp → Prop) → Prop
/- a slice's part (left out, or an int) -/
def PO (X : Cx) (e : Option Expr) (t : TO) : Prop :=
  ∀ (pins : List (Addr × Obj)) (s : Shared) (σ : St) (H : Hp) (Q : Option Int → Hp → Prop), Inv X pins σ H s → t σ H Q →
    wpAny (model X.prog X.w) X.A (evalPart e X.env) (fun u s' => ∃ o H', Inv X pins σ H' s' ∧ IsPart u o ∧ Q o H') X.xe s
def tNoPart : TO := fun _ H Q => Q none H
def tPart (t : TE) : TO := fun σ H Q => t σ H fun x H1 => ∃ i, x = .int i ∧ Q (some i) H1

section
variable {X : Cx} {e : Expr} {te : TE} {lo hi : Option Expr} {tl th : TO} {pos p2 : Pos}

theorem po_none : PO X none tNoPart := by
  intro pins s σ H Q I h
  rw [evalPart_none]
  exact wpAny_pure ⟨none, H, I, .none, h⟩
theorem po_some (h : PE X e te) : PO X (some e) (tPart te) := by
  intro pins s σ H Q I hw
  rw [evalPart_some]
  refine thn (h pins s σ H _ I hw) fun u s1 ⟨x, H1, I1, r1, q1⟩ => ?_
  obtain ⟨i, rfl, q⟩ := q1
  obtain ⟨t, rfl⟩ := r1
  exact ⟨some i, H1, I1, .int i t, q⟩

/- what a slice of a value is, by values: the slice object stands at sl -/
def SlR (X : Cx) (r : V → Option Int → Option Int → Hp → VK → Prop) : Prop :=
  ∀ (pins : List (Addr × Obj)) (s : Shared) (σ : St) (H : Hp) (x : V) (v vl vu : Value) (lo hi : Option Int) (sl : Addr) (Q : VK), Inv X pins σ H s → RelV x v → s.heap.IsSliceOf sl vl vu .none → IsPart vl lo → IsPart vu hi → r x lo hi H Q →
    ∃ T id, typeLookup (.type T) "__getitem__" = pure (some (.builtin id)) ∧ s.TypeIs v T ∧ wpAny (model X.prog X.w) X.A (getItem v (.ref sl)) (EP X pins σ Q) X.xe s
theorem SlR.or {r r' : V → Option Int → Option Int → Hp → VK → Prop} (h : SlR X r) (h' : SlR X r') : SlR X (fun x lo hi H Q => r x lo hi H Q ∨ r' x lo hi H Q) := by
  intro pins s σ H x v vl vu lo hi sl Q I rx hs pl pu q
  rcases q with q | q
  · exact h pins s σ H x v vl vu lo hi sl Q I rx hs pl pu q
  · exact h' pins s σ H x v vl vu lo hi sl Q I rx hs pl pu q
def tSl (r : V → Option Int → Option Int → Hp → VK → Prop) (te : TE) (tl th : TO) : TE := fun σ H Q => te σ H fun x H1 => tl σ H1 fun l H2 => th σ H2 fun u H3 => r x l u H3 Q
/- a[lo:hi], any a -/
theorem pe_slice {r : V → Option Int → Option Int → Hp → VK → Prop} (hr : SlR X r) (he : PE X e te) (hl : PO X lo tl) (hu : PO X hi th) : PE X (.Subscript e (.Slice lo hi none p2) pos) (tSl r te tl th) := by
  intro pins s σ H Q I h
  refine Subscript_ (thn (he pins s σ H _ I h) fun v s1 ⟨x, H1, I1, r1, q1⟩ => ?_)
  refine wpAny_Slice (thn (hl pins s1 σ H1 _ I1 q1) fun vl s2 ⟨l, H2, I2, pl, q2⟩ => thn (hu pins s2 σ H2 _ I2 q2) fun vu s3 ⟨u, H3, I3, pu, q3⟩ => ?_)
  rw [evalPart_none]
  refine wpAny_pure ?_
  have I4 : Inv X pins σ H3 { s3 with heap := s3.heap.push { cls := .type "slice", data := .fields #[vl, vu, .none] } } := I3.kept (t' := s3.toks) fun b ob q => Heap.get?_push_of_some _ q
  obtain ⟨T, id, hT, ht, hg⟩ := hr pins { s3 with heap := s3.heap.push { cls := .type "slice", data := .fields #[vl, vu, .none] } } σ H3 x v vl vu l u s3.heap.objs.size Q I4 r1 (Heap.IsSliceOf.new ..) pl pu q3
  show wpAny (model X.prog X.w) X.A (subscriptTail e (.Slice lo hi none p2) v (.ref s3.heap.objs.size)) (EP X pins σ Q) X.xe { s3 with heap := s3.heap.push { cls := .type "slice", data := .fields #[vl, vu, .none] } }
  exact tail_any (ops := [.ref s3.heap.objs.size, v]) ht hT hg (by with_unfolding_all rfl)

/- the items of xs[lo:hi] -/
def cutV (xs : List V) (lo hi : Option Int) : List V := (xs.drop (HT.sIx xs.length 0 lo)).take (HT.sIx xs.length xs.length hi - HT.sIx xs.length 0 lo)
/- t[lo:hi], not the whole of it (the whole would be t itself) -/
def rSlT (K : PySem.W.Frag) : V → Option Int → Option Int → Hp → VK → Prop := fun x lo hi H Q => ∃ a xs, x = .ref a ∧ SqT K H a xs ∧
  ¬ (HT.sIx xs.length 0 lo = 0 ∧ HT.sIx xs.length xs.length hi = xs.length) ∧ ∀ p, H p = none → Q (.ref p) (upd H p (.tup (cutV xs lo hi)))
def rLtT (K : PySem.W.Frag) : R2 := fun x y H Q => ∃ a b ns ms, x = .ref a ∧ y = .ref b ∧ SqT K H a (ns.map V.int) ∧ SqT K H b (ms.map V.int) ∧ Q (.bl (HT.lexLt ns ms)) H
/- t + u, t not empty: u empty gives t itself -/
def rCatT (K : PySem.W.Frag) : R2 := fun x y H Q => ∃ a b xs ys, x = .ref a ∧ y = .ref b ∧ SqT K H a xs ∧ SqT K H b ys ∧ xs ≠ [] ∧ xs.length + ys.length ≤ sizeLine ∧
  (ys = [] → Q (.ref a) H) ∧ (ys ≠ [] → ∀ p, H p = none → Q (.ref p) (upd H p (.tup (xs ++ ys))))
/- tuple(t) -/
end
end L2

namespace L2
open PySem PySem.Spec PyProof.Rows

/-! ### places -/
/- the place that an index of any sign means -/
def ixN (n : Nat) (i : Int) : Option Nat := if 0 ≤ i then (if i < n then some i.toNat else none) else if -(n : Int) ≤ i then some (i + n).toNat else none
def atI {α : Type} (xs : List α) (i : Int) : Option α := (ixN xs.length i).bind fun j => xs[j]?
theorem ixN_seq {n : Nat} {i : Int} {j : Nat} (h : ixN n i = some j) : seqIndex? i n = some j ∧ j < n ∧ -(n : Int) ≤ i ∧ i < n := by
  unfold ixN at h
  by_cases h0 : 0 ≤ i
  · rw [if_pos h0] at h
    by_cases h1 : i < n
    · rw [if_pos h1] at h
      have e : i.toNat = j := Option.some.inj h
      exact ⟨by rw [seqIndex_of h0 h1, e], by omega, by omega, h1⟩
    · rw [if_neg h1] at h; cases h
  · rw [if_neg h0] at h
    by_cases h1 : -(n : Int) ≤ i
    · rw [if_pos h1] at h
      have e : (i + n).toNat = j := Option.some.inj h
      exact ⟨by rw [seqIndex_neg (by omega) h1, e], by omega, h1, by omega⟩
    · rw [if_neg h1] at h; cases h
theorem atI_get {α : Type} {xs : List α} {i : Int} {v : α} (h : atI xs i = some v) : ∃ j, seqIndex? i xs.length = some j ∧ xs[j]? = some v ∧ j < xs.length ∧ -(xs.length : Int) ≤ i ∧ i < xs.length := by
  unfold atI at h
  cases e : ixN xs.length i with
  | none => rw [e] at h; cases h
  | some j =>
    rw [e] at h
    obtain ⟨h1, h2, h3, h4⟩ := ixN_seq e
    exact ⟨j, h1, h, h2, h3, h4⟩
theorem atI_nat {α : Type} {xs : List α} {j : Nat} {v : α} (h : xs[j]? = some v) : atI xs (j : Int) = some v := by
  have hj : j < xs.length := (List.getElem?_eq_some_iff.mp h).1
  have e : ixN xs.length (j : Int) = some j := by
    unfold ixN
    rw [if_pos (by omega), if_pos (by omega)]; simp
  unfold atI; rw [e]; exact h
/- what stands as an index of a plain subscript -/
def PlainIx (b : Expr) : Prop := ∀ o i, subscripted b false o i = operate [o, i] (getItem o i)
/- a subscript by values -/
def IxR (X : Cx) (r : R2) : Prop :=
  ∀ (value slice : Expr) (pins : List (Addr × Obj)) (s : Shared) (σ : St) (H : Hp) (x y : V) (v u : Value) (Q : VK), Inv X pins σ H s → RelV x v → RelV y u → r x y H Q →
    subscripted slice false v u = operate [v, u] (getItem v u) → wpAny (model X.prog X.w) X.A (subscriptTail value slice v u) (EP X pins σ Q) X.xe s
/- a call of a builtin's method by values: the receiver, the arguments -/
def MtR (X : Cx) (id : String) (r : V → List V → Hp → VK → Prop) : Prop :=
  ∀ (pins : List (Addr × Obj)) (s : Shared) (σ : St) (H : Hp) (x : V) (xs : List V) (v : Value) (us : List Value) (Q : VK), Inv X pins σ H s → RelV x v → Vals xs us → r x xs H Q →
    wpAny (model X.prog X.w) X.A (call (.builtin id) (v :: us)) (EP X pins σ Q) X.xe s
section
variable {X : Cx} {a b : Expr} {ta tb : TE} {pos : Pos}
theorem IxR.or {r r' : R2} (h : IxR X r) (h' : IxR X r') : IxR X (fun x y H Q => r x y H Q ∨ r' x y H Q) := by
  intro value slice pins s σ H x y v u Q I rx ry q hs
  rcases q with q | q
  · exact h value slice pins s σ H x y v u Q I rx ry q hs
  · exact h' value slice pins s σ H x y v u Q I rx ry q hs
theorem MtR.or {id : String} {r r' : V → List V → Hp → VK → Prop} (h : MtR X id r) (h' : MtR X id r') : MtR X id (fun x xs H Q => r x xs H Q ∨ r' x xs H Q) := by
  intro pins s σ H x xs v us Q I rx rs q
  rcases q with q | q
  · exact h pins s σ H x xs v us Q I rx rs q
  · exact h' pins s σ H x xs v us Q I rx rs q
/- a[b] -/
theorem pe_ix {r : R2} (hr : IxR X r) (ha : PE X a ta) (hb : PE X b tb) (hs : PlainIx b) : PE X (.Subscript a b pos) (tOp r ta tb) := by
  intro pins s σ H Q I h
  exact Subscript_ (binT ha hb I h fun v u s2 x y H2 I2 rx ry q => hr a b pins s2 σ H2 x y v u Q I2 rx ry q (hs _ _))

def rIxL (K : PySem.W.Frag) : R2 := fun x y H Q => ∃ p xs i v, x = .ref p ∧ y = .int i ∧ SqL K H p xs ∧ atI xs i = some v ∧ Q v H
def rIxT (K : PySem.W.Frag) : R2 := fun x y H Q => ∃ p xs i v, x = .ref p ∧ y = .int i ∧ SqT K H p xs ∧ atI xs i = some v ∧ Q v H
def rIxS : R2 := fun x y H Q => ∃ z i c, x = .str z ∧ y = .int i ∧ z.length ≤ sizeLine ∧ atI z.cps.toList i = some c ∧ Q (.str ⟨#[c]⟩) H
theorem ix_list : IxR X (rIxL X.K) := by
  intro value slice pins s σ H x y v u Q I rx ry h hs
  obtain ⟨p, xs, i, z, rfl, rfl, hq, he, q⟩ := h
  cases rx
  obtain ⟨t, rfl⟩ := ry
  obtain ⟨its, r, pl, hz⟩ := I.list hq
  obtain ⟨j, h1, h2, h3, h4, h5⟩ := atI_get he
  obtain ⟨w, ew, rw'⟩ := r.get h2
  have hl := r.length
  have hn := line63
  have fin : EP X pins σ Q w s := ⟨z, H, I, rw', q⟩
  by_cases h0 : 0 ≤ i
  · have hj : i.toNat = j := by
      rw [seqIndex_of h0 h5] at h1
      exact Option.some.inj h1
    exact item_listR pl.isList h0 (by omega) (by rw [hj]; simpa using ew) fin hs
  · have hj : (i + (its.toArray.size : Int)).toNat = j := by
      rw [seqIndex_neg (by omega) h4] at h1
      rw [List.size_toArray, ← hl]
      exact Option.some.inj h1
    exact subscriptTail_builtinR (x := w) pl.isList.typeIs slot_list_getitem.lookup
      (wpAny_getItem_list_neg (Q := fun r s' => r = w ∧ EP X pins σ Q r s') pl.isList (by omega) (by rw [List.size_toArray] <;> omega) (by omega) (by rw [hj]; simpa using ew) ⟨rfl, fin⟩) hs
theorem ix_tup : IxR X (rIxT X.K) := by
  intro value slice pins s σ H x y v u Q I rx ry h hs
  obtain ⟨p, xs, i, z, rfl, rfl, hq, he, q⟩ := h
  cases rx
  obtain ⟨t, rfl⟩ := ry
  obtain ⟨its, r, pl, hz⟩ := I.tuple hq
  obtain ⟨j, h1, h2, h3, h4, h5⟩ := atI_get he
  obtain ⟨w, ew, rw'⟩ := r.get h2
  have hl := r.length
  have hn := line63
  have fin : EP X pins σ Q w s := ⟨z, H, I, rw', q⟩
  exact subscriptTail_builtinR (x := w) pl.typeIs slot_tuple_getitem.lookup
    (getItem_tuple (j := j) (Q := fun r s' => r = w ∧ EP X pins σ Q r s') pl (by omega) (by omega) (by rw [List.size_toArray, ← hl]; exact h1) (by simpa using ew) ⟨rfl, fin⟩) hs
theorem ix_str : IxR X rIxS := by
  intro value slice pins s σ H x y v u Q I rx ry h hs
  obtain ⟨z, i, c, rfl, rfl, hz, he, q⟩ := h
  obtain ⟨t, rfl⟩ := rx
  obtain ⟨t', rfl⟩ := ry
  obtain ⟨j, h1, h2, h3, h4, h5⟩ := atI_get he
  have hl : z.cps.toList.length = z.length := by simp [Str.length]
  rw [hl] at h1 h4 h5
  have hn := line63
  exact tail_any (typeIs_str s z t) slot_str_getitem.lookup (getItem_str (c := c) (by
    have e1 : decide (i < -(2 ^ 63 : Int)) = false := decide_eq_false (by omega)
    have e2 : decide (i ≥ 2 ^ 63) = false := decide_eq_false (by omega)
    rw [e1, e2, Bool.or_false]) (by rw [h1]; simpa using h2) ⟨.str ⟨#[c]⟩, H, I.tok _, ⟨_, rfl⟩, q⟩) hs
/- list, tuple or str -/
def rIx (K : PySem.W.Frag) : R2 := fun x y H Q => rIxL K x y H Q ∨ rIxT K x y H Q ∨ rIxS x y H Q
/- the list's object behind a store -/
theorem mapSeq_set (its : List Value) (n j : Nat) (u : Value) : Obj.mapSeq (·.setIfInBounds j u) { cls := .type "list", data := .seq its.toArray n } = { cls := .type "list", data := .seq (its.set j u).toArray n } := by
  simp [Obj.mapSeq]
theorem Inv.lst {pins : List (Addr × Obj)} {σ : St} {H : Hp} {s : Shared} {p : Addr} {xs : List V} (I : Inv X pins σ H s) (h : H p = some (.lst xs)) :
    ∃ (its : List Value) (n : Nat), Vals xs its ∧ s.heap.get? p = some { cls := .type "list", data := .seq its.toArray n } ∧ xs.length ≤ sizeLine := by
  obtain ⟨z, its, n, r, e⟩ := I.hok p _ h
  exact ⟨its, n, r, e, z⟩
/- the list at p is written by an update of its object -/
theorem Inv.lstUpd {pins : List (Addr × Obj)} {σ : St} {H : Hp} {s : Shared} {p : Addr} {xs ys : List V} {its its' : List Value} {n n' : Nat} {f : Obj → Obj} (I : Inv X pins σ H s) (h : H p = some (.lst xs))
    (ho : s.heap.get? p = some { cls := .type "list", data := .seq its.toArray n }) (hf : f { cls := .type "list", data := .seq its.toArray n } = { cls := .type "list", data := .seq its'.toArray n' }) (r : Vals ys its') (hz : ys.length ≤ sizeLine) (t : Nat) :
    Inv X pins σ (upd H p (.lst ys)) { s with heap := s.heap.update p f, toks := t } := by
  have e : (s.heap.update p f).get? p = some { cls := .type "list", data := .seq its'.toArray n' } := by
    rw [Heap.get?_update_self f ho (by rw [hf] <;> rfl), hf]
  refine I.write (x := p) (e := p) (by rw [h]; trivial) (.inl rfl) (fun b u hb q => (Heap.get?_update_other _ _ (Ne.symm hb)).trans q) ⟨_, e⟩ ?_
  exact ⟨hz, its', n', r, e⟩
def rSetL : V → V → V → Hp → (Hp → Prop) → Prop := fun o i v H Q => ∃ p xs k j, o = .ref p ∧ i = .int k ∧ H p = some (.lst xs) ∧ ixN xs.length k = some j ∧ Q (upd H p (.lst (xs.set j v)))
theorem set_list : PSet X rSetL := by
  intro pins s σ H o i v ov iv u Q I ro ri rv h
  obtain ⟨p, xs, k, j, rfl, rfl, hp, hj, q⟩ := h
  cases ro
  obtain ⟨t, rfl⟩ := ri
  obtain ⟨its, n, r, ho, hz⟩ := I.lst hp
  obtain ⟨h1, h2, h3, h4⟩ := ixN_seq hj
  have hl := r.length
  have hn := line63
  have I' : Inv X pins σ (upd H p (.lst (xs.set j v))) { s with heap := s.heap.update p (Obj.mapSeq (·.setIfInBounds j u)) } :=
    I.lstUpd hp ho (mapSeq_set its n j u) (r.set rv j) (by rw [List.length_set]; exact hz) s.toks
  by_cases h0 : 0 ≤ k
  · have hk : k.toNat = j := by
      rw [seqIndex_of h0 h4] at h1
      exact Option.some.inj h1
    exact PySem.W.ki_setAt ho h0 (by omega) (by rw [List.size_toArray, ← hl]; exact h4) (by rw [hk]; exact ⟨_, I', q⟩)
  · have hk : (k + (its.toArray.size : Int)).toNat = j := by
      rw [seqIndex_neg (by omega) h3] at h1
      rw [List.size_toArray, ← hl]
      exact Option.some.inj h1
    exact PySem.W.ki_setBack ho (by omega) (by rw [List.size_toArray, ← hl]; exact h3) (by omega) (by rw [hk]; exact ⟨_, I', q⟩)

/-! ### slices -/
/- xs[lo:hi] of a list: a new list -/
def rSlL (K : PySem.W.Frag) : V → Option Int → Option Int → Hp → VK → Prop := fun x lo hi H Q => ∃ a xs, x = .ref a ∧ SqL K H a xs ∧ ∀ p, H p = none → Q (.ref p) (upd H p (.lst (cutV xs lo hi)))
def flatV : V → Bool
  | .non => true
  | .bl _ => true
  | .int _ => true
  | .str _ => true
  | _ => false
/- == of flat values -/
def eqV : V → V → Bool
  | .non, .non => true
  | .bl a, .bl b => a == b
  | .bl a, .int b => (if a then 1 else 0) == b
  | .int a, .bl b => a == (if b then 1 else 0)
  | .int a, .int b => a == b
  | .str a, .str b => a == b
  | _, _ => false
theorem eqAt_V {A : Around} {s : Shared} {y x : V} {u v : Value} (ry : RelV y u) (rx : RelV x v) (fy : flatV y = true) (fx : flatV x = true) : SeqAt.EqAt A s u v (eqV y x) := by
  cases y with
  | non =>
    cases ry
    cases x with
    | non => cases rx; exact SeqAt.EqAt.same _
    | bl b => cases rx; exact SeqAt.EqAt.none_bool b
    | int b => obtain ⟨t, rfl⟩ := rx; exact SeqAt.EqAt.none_int b t
    | str b => obtain ⟨t, rfl⟩ := rx; exact SeqAt.EqAt.none_str b t
    | _ => exact absurd (show false = true from fx) Bool.false_ne_true
  | bl a =>
    cases ry
    cases x with
    | non => cases rx; exact SeqAt.EqAt.bool_none a
    | bl b => cases rx; exact SeqAt.EqAt.bool_bool a b
    | int b => obtain ⟨t, rfl⟩ := rx; exact SeqAt.EqAt.bool_int a b t
    | str b => obtain ⟨t, rfl⟩ := rx; exact SeqAt.EqAt.bool_str a b t
    | _ => exact absurd (show false = true from fx) Bool.false_ne_true
  | int a =>
    obtain ⟨t', rfl⟩ := ry
    cases x with
    | non => cases rx; exact SeqAt.EqAt.int_none a t'
    | bl b => cases rx; exact SeqAt.EqAt.int_bool a t' b
    | int b => obtain ⟨t, rfl⟩ := rx; exact SeqAt.EqAt.int_int a t' b t
    | str b => obtain ⟨t, rfl⟩ := rx; exact SeqAt.EqAt.int_str a t' b t
    | _ => exact absurd (show false = true from fx) Bool.false_ne_true
  | str a =>
    obtain ⟨t', rfl⟩ := ry
    cases x with
    | non => cases rx; exact SeqAt.EqAt.str_none a t'
    | bl b => cases rx; exact SeqAt.EqAt.str_bool a t' b
    | int b => obtain ⟨t, rfl⟩ := rx; exact SeqAt.EqAt.str_int a t' b t
    | str b => obtain ⟨t, rfl⟩ := rx; exact SeqAt.EqAt.str_str a t' b t
    | _ => exact absurd (show false = true from fx) Bool.false_ne_true
  | _ => exact absurd (show false = true from fy) Bool.false_ne_true
/- the items' answers, read off the values (a value's own answer does not lean on its token) -/
def eqU (x : V) (u : Value) : Bool := match u with
  | .none => eqV .non x
  | .bool b => eqV (.bl b) x
  | .int i _ => eqV (.int i) x
  | .str z _ => eqV (.str z) x
  | _ => false
theorem eqU_of {x y : V} {u : Value} (r : RelV y u) (f : flatV y = true) : eqU x u = eqV y x := by
  cases y with
  | non => cases r; rfl
  | bl b => cases r; rfl
  | int i => obtain ⟨t, rfl⟩ := r; rfl
  | str z => obtain ⟨t, rfl⟩ := r; rfl
  | _ => exact absurd (show false = true from f) Bool.false_ne_true
theorem mem_eqAt {A : Around} {s : Shared} {x : V} {v : Value} (rx : RelV x v) (fx : flatV x = true) : ∀ {xs : List V} {us : List Value}, Vals xs us → xs.all flatV = true → ∀ u ∈ us, SeqAt.EqAt A s u v (eqU x u)
  | _, _, .nil, _ => fun u hu => by cases hu
  | y :: xs, u :: us, .cons r t, f => fun u' hu => by
    rw [List.all_cons, Bool.and_eq_true] at f
    rcases List.mem_cons.mp hu with rfl | hu
    · rw [eqU_of r f.1]; exact eqAt_V r rx f.1 fx
    · exact mem_eqAt rx fx t f.2 u' hu
def inV (x : V) (xs : List V) : Bool := xs.any fun y => eqV y x
/- x in a list or tuple of flat items -/
def rIn (K : PySem.W.Frag) (neg : Bool) : R2 := fun x y H Q => ∃ p xs, y = .ref p ∧ (SqL K H p xs ∨ SqT K H p xs) ∧ flatV x = true ∧ xs.all flatV = true ∧ Q (.bl (if neg then !inV x xs else inV x xs)) H
theorem call_len_seq : CallR X (.builtin "len") (fun xs H Q => ∃ p ys, xs = [.ref p] ∧ (SqL X.K H p ys ∨ SqT X.K H p ys) ∧ Q (.int ys.length) H) := by
  intro pins s σ H xs us Q I r h
  obtain ⟨p, ys, rfl, hq, q⟩ := h
  obtain ⟨u, rfl, rx⟩ := vals1 r
  cases rx
  have hn := line63
  rcases hq with hq | hq
  · obtain ⟨its, r', pl, hz⟩ := I.list hq
    have hlen := r'.length
    exact Calls.call_len_list pl.isList (by simp only [List.size_toArray] <;> omega) ⟨.int ys.length, H, I.tok _, ⟨s.toks + 1, by rw [List.size_toArray, hlen]⟩, q⟩
  · obtain ⟨its, r', pl, hz⟩ := I.tuple hq
    have hlen := r'.length
    exact len_tuple pl (by simp only [List.size_toArray] <;> omega) ⟨.int ys.length, H, I.tok _, ⟨s.toks + 1, by rw [List.size_toArray, hlen]⟩, q⟩
theorem call_len_str : CallR X (.builtin "len") (fun xs H Q => ∃ z, xs = [.str z] ∧ z.length ≤ sizeLine ∧ Q (.int z.length) H) := by
  intro pins s σ H xs us Q I r h
  obtain ⟨z, rfl, hz, q⟩ := h
  obtain ⟨u, rfl, t, rfl⟩ := vals1 r
  have hn := line63
  exact len_str (by omega) ⟨.int z.length, H, I.tok _, ⟨_, rfl⟩, q⟩
theorem CallR.or {f : Value} {r r' : List V → Hp → VK → Prop} (h : CallR X f r) (h' : CallR X f r') : CallR X f (fun xs H Q => r xs H Q ∨ r' xs H Q) := by
  intro pins s σ H xs us Q I rs q
  rcases q with q | q
  · exact h pins s σ H xs us Q I rs q
  · exact h' pins s σ H xs us Q I rs q
/- the value is of that builtin type -/
def tyV (K : PySem.W.Frag) (T : String) (x : V) (H : Hp) : Prop := match x with
  | .str _ => T = "str"
  | .int _ => T = "int"
  | .ref p => (T = "list" ∧ ∃ xs, SqL K H p xs) ∨ (T = "tuple" ∧ ∃ o, K.lookup p = some o ∧ o.cls = .type "tuple" ∧ o.dict = none) ∨
      (T = "dict" ∧ ((∃ kvs, H p = some (.dK kvs)) ∨ ∃ kvs, H p = some (.dT kvs))) ∨ (T = "set" ∧ ∃ S n, H p = some (.set S n))
  | _ => False
theorem tyV_is {pins : List (Addr × Obj)} {σ : St} {H : Hp} {s : Shared} {T : String} {x : V} {v : Value} (I : Inv X pins σ H s) (r : RelV x v) (ty : tyV X.K T x H) :
    s.TypeIs v T ∧ ∀ a, v = .ref a → ∃ ob, s.heap.get? a = some ob ∧ ob.dict = none := by
  cases x with
  | str z =>
    obtain ⟨t, rfl⟩ := r
    cases (show T = "str" from ty)
    exact ⟨typeIs_str s z t, fun _ e => nomatch e⟩
  | int i =>
    obtain ⟨t, rfl⟩ := r
    cases (show T = "int" from ty)
    exact ⟨typeIs_int s i t, fun _ e => nomatch e⟩
  | ref p =>
    cases r
    rcases ty with ⟨rfl, xs, hq⟩ | ⟨rfl, o, hk, hc, hd⟩ | ⟨rfl, hk⟩ | ⟨rfl, S, n, hk⟩
    · obtain ⟨its, _, pl, _⟩ := I.list hq
      refine ⟨pl.isList.typeIs, fun a e => ?_⟩
      cases e
      obtain ⟨o, n, e, c, hd, _⟩ := pl
      exact ⟨o, e, hd⟩
    · refine ⟨⟨o, I.kIn p o hk, hc⟩, fun a e => ?_⟩
      cases e
      exact ⟨o, I.kIn _ o hk, hd⟩
    · have z : ∃ o, s.heap.get? p = some o ∧ o.ExactDict := by
        rcases hk with ⟨kvs, hk⟩ | ⟨kvs, hk⟩
        · obtain ⟨_, _, _, _, o, _, _, e, ex, _⟩ := I.hok p _ hk
          exact ⟨o, e, ex⟩
        · obtain ⟨_, _, _, _, o, _, _, e, ex, _⟩ := I.hok p _ hk
          exact ⟨o, e, ex⟩
      obtain ⟨o, e, ex⟩ := z
      refine ⟨⟨o, e, ex.1⟩, fun a e2 => ?_⟩
      cases e2
      exact ⟨o, e, ex.2.1⟩
    · obtain ⟨o, _, _, _, e, ex, _⟩ := I.hok p _ hk
      refine ⟨⟨o, e, ex.1⟩, fun a e2 => ?_⟩
      cases e2
      exact ⟨o, e, ex.2.1⟩
  | _ => exact False.elim ty
def tBM0 (K : PySem.W.Frag) (T : String) (r : V → List V → Hp → VK → Prop) (to : TE) : TE := fun σ H Q => to σ H fun x H1 => tyV K T x H1 ∧ r x [] H1 Q
def tBM (K : PySem.W.Frag) (T : String) (r : V → List V → Hp → VK → Prop) (to : TE) (t : TA) : TE := fun σ H Q => to σ H fun x H1 => tyV K T x H1 ∧ t σ H1 fun xs H2 => r x xs H2 Q
variable {o e : Expr} {es : List Expr} {to : TE} {t : TA} {name : Str} {apos cpos : Pos} {T id : String} {r : V → List V → Hp → VK → Prop}
theorem pe_bm (pa : PlainAttrs T) (slot : Slot T name id) (hty : typeOf (.builtin id) = pure (.type "method_descriptor")) (hm : MtR X id r) (ho : PE X o to) (ha : PA X (e :: es) t)
    (hbase : attributeBase o name X.env (eval o X.env) = eval o X.env := by rfl)
    (hfew : ((backTo cpos (starEach (e :: es) X.env)).all (fun x => !x.1) && (backToKw cpos (keywordEach [] X.env)).all (fun x => x.1.isSome)
      && decide ((e :: es).length + ([] : List Keyword).length + (if ([] : List Keyword).isEmpty then 0 else 1) < 30)) = true := by rfl)
    (hline : (apos.endLine == cpos.line) = true := by rfl) (hs : starEach (e :: es) X.env = (false, eval e X.env) :: starEach es X.env := by rfl) (hplain : (backTo cpos (starEach es X.env)).any (·.1) = false := by rfl) :
    PE X (.Call (.Attribute o name apos) (e :: es) [] cpos) (tBM X.K T r to t) := by
  intro pins s σ H Q I h
  refine wpAny_Call_method_late hbase hfew hline rfl (thn (ho pins s σ H _ I h) fun v s1 ⟨x, H1, I1, r1, ty, q1⟩ => ?_)
  obtain ⟨h1, h2⟩ := tyV_is I1 r1 ty
  refine ⟨T, id, pa, slot, hty, h1, h2, ?_⟩
  have hA := ha cpos pins s1 σ H1 _ I1 q1
  rw [hs] at hA ⊢
  refine Calls.callWith_builtin (by show (false || (backTo cpos (starEach es X.env)).any (·.1)) = false; rw [hplain] <;> rfl) (Calls.evalArgs_plain ?_)
  exact thn hA fun us s2 ⟨vs, H2, I2, r2, q2⟩ => hm pins s2 σ H2 x vs v us Q I2 r1 r2 q2
/- xs.append(e), list.index on a module's tuple .. are MtR facts of 06m -/
end
end L2

namespace L2
open PySem PySem.Spec PyProof.Rows

def MtM (X : Cx) (id : String) (r : V → List V → Hp → VK → Prop) : Prop :=
  ∀ (pins : List (Addr × Obj)) (s : Shared) (σ : St) (H : Hp) (x : V) (xs : List V) (v : Value) (us : List Value) (Q : VK), Inv X pins σ H s → RelV x v → Vals xs us → r x xs H Q →
    wpAny (model X.prog X.w) X.A (call (.builtin id) (v :: us)) (EP X pins σ Q) X.xe s

/-! ### lists of values -/
theorem Vals.one : ∀ {x : V} {us : List Value}, Vals [x] us → ∃ u, us = [u] ∧ RelV x u
  | _, _, .cons r .nil => ⟨_, rfl, r⟩
theorem Vals.two : ∀ {x y : V} {us : List Value}, Vals [x, y] us → ∃ u v, us = [u, v] ∧ RelV x u ∧ RelV y v
  | _, _, _, .cons r (.cons q .nil) => ⟨_, _, rfl, r, q⟩
theorem Vals.zero : ∀ {us : List Value}, Vals [] us → us = []
  | _, .nil => rfl
theorem Vals.dropLast {xs : List V} {us : List Value} (h : Vals xs us) : Vals xs.dropLast us.dropLast := by
  induction h with
  | nil => exact .nil
  | cons r t ih =>
    cases t with
    | nil => exact .nil
    | cons q t' => exact .cons r ih
theorem Vals.eraseIdx : ∀ {xs : List V} {us : List Value} (i : Nat), Vals xs us → Vals (xs.eraseIdx i) (us.eraseIdx i)
  | _, _, _, .nil => .nil
  | _, _, 0, .cons _ t => t
  | _, _, i + 1, .cons r t => .cons r (Vals.eraseIdx i t)
theorem Vals.reverse {xs : List V} {us : List Value} (h : Vals xs us) : Vals xs.reverse us.reverse := by
  induction h with
  | nil => exact .nil
  | cons r t ih => rw [List.reverse_cons, List.reverse_cons]; exact Vals.append ih (.cons r .nil)
theorem Vals.rep {xs : List V} {us : List Value} (h : Vals xs us) : ∀ k : Nat, Vals (List.replicate k xs).flatten (List.replicate k us).flatten
  | 0 => .nil
  | k + 1 => by
    rw [List.replicate_succ, List.replicate_succ, List.flatten_cons, List.flatten_cons]
    exact Vals.append h (Vals.rep h k)
theorem foldl_rep (its : List Value) : ∀ (k : Nat) (acc : List Value),
    List.foldl (fun x1 x2 => x1 ++ x2) acc.toArray (List.replicate k its.toArray) = (acc ++ (List.replicate k its).flatten).toArray
  | 0, acc => by simp
  | k + 1, acc => by
    have e : acc.toArray ++ its.toArray = (acc ++ its).toArray := by simp
    have e2 : (acc ++ its) ++ (List.replicate k its).flatten = acc ++ (List.replicate (k + 1) its).flatten := by
      rw [List.replicate_succ, List.flatten_cons, List.append_assoc]
    rw [← e2, ← foldl_rep its k (acc ++ its), ← e, List.replicate_succ, List.foldl_cons]

section
variable {X : Cx} {pins : List (Addr × Obj)} {σ : St} {H : Hp} {s : Shared} {l b : Addr} {xs ys zs : List V}

/-! ### the two steps: a tracked list is rewritten, a new list is laid -/
theorem Inv.lnew {its : List Value} {t' : Nat} (I : Inv X pins σ H s) (hv : Vals ys its) (hz : ys.length ≤ sizeLine) :
    Inv X pins σ (upd H s.heap.objs.size (.lst ys)) { s with heap := s.heap.push { cls := .type "list", data := .seq its.toArray }, toks := t' } :=
  I.laid (fun _ _ q => Heap.get?_push_of_some _ q) (Nat.le_refl _) ⟨hz, its, 0, hv, Heap.get?_push_size _ rfl⟩
theorem Inv.fresh (I : Inv X pins σ H s) : H s.heap.objs.size = none := I.hok.fresh (Nat.le_refl _)
theorem Inv.lstM (I : Inv X pins σ H s) (hH : H l = some (.lst xs)) : xs.length ≤ sizeLine ∧ ∃ (its : List Value) (n : Nat), Vals xs its ∧ xs.length = its.length ∧ s.heap.get? l = some { cls := .type "list", data := .seq its.toArray n } := by
  obtain ⟨z, its, n, r, e⟩ := I.hok l _ hH
  exact ⟨z, its, n, r, r.length, e⟩

theorem notLongL {n : Nat} (h : n ≤ sizeLine) : Builtin.List.listTooLong n = false := by
  unfold Builtin.List.listTooLong
  exact decide_eq_false (by omega)
end

section
variable {X : Cx}

/-! ### methods -/
def rAppend : V → List V → Hp → VK → Prop := fun x vs H Q => ∃ l xs y, x = .ref l ∧ vs = [y] ∧ H l = some (.lst xs) ∧ xs.length < sizeLine ∧ Q .non (upd H l (.lst (xs ++ [y])))
def rExtend : V → List V → Hp → VK → Prop := fun x vs H Q => ∃ l b xs zs, x = .ref l ∧ vs = [.ref b] ∧ H l = some (.lst xs) ∧ H b = some (.lst zs) ∧ xs.length + zs.length ≤ sizeLine ∧ Q .non (upd H l (.lst (xs ++ zs)))
def rPop : V → List V → Hp → VK → Prop := fun x vs H Q => ∃ l xs y, x = .ref l ∧ vs = [] ∧ H l = some (.lst xs) ∧ xs[xs.length - 1]? = some y ∧ Q y (upd H l (.lst xs.dropLast))
def rPopAt : V → List V → Hp → VK → Prop := fun x vs H Q => ∃ l xs i k y, x = .ref l ∧ vs = [.int i] ∧ H l = some (.lst xs) ∧ -(2 ^ 63) ≤ i ∧ i < 2 ^ 63 ∧ seqIndex? i xs.length = some k ∧ xs[k]? = some y ∧ Q y (upd H l (.lst (xs.eraseIdx k)))
def rReverse : V → List V → Hp → VK → Prop := fun x vs H Q => ∃ l xs, x = .ref l ∧ vs = [] ∧ H l = some (.lst xs) ∧ Q .non (upd H l (.lst xs.reverse))
def rClear : V → List V → Hp → VK → Prop := fun x vs H Q => ∃ l xs, x = .ref l ∧ vs = [] ∧ H l = some (.lst xs) ∧ Q .non (upd H l (.lst []))
def rCat : R2 := fun x y H Q => ∃ l b xs zs, x = .ref l ∧ y = .ref b ∧ H l = some (.lst xs) ∧ H b = some (.lst zs) ∧ xs.length + zs.length ≤ sizeLine ∧ ∀ p, H p = none → Q (.ref p) (upd H p (.lst (xs ++ zs)))
theorem op_cat : OpR X (binaryOp .Add) rCat := by
  intro pins s σ H x y v u Q I rx ry h
  obtain ⟨l, b, xs, zs, rfl, rfl, hH, hB, hz, q⟩ := h
  cases rx
  cases ry
  obtain ⟨z, its, n, r, hl, e⟩ := I.lstM hH
  obtain ⟨z2, its2, n2, r2, hl2, e2⟩ := I.lstM hB
  refine PySem.P.add_list e e2 ?_ (by rw [List.size_toArray, List.size_toArray]; omega)
  have ea : its.toArray ++ its2.toArray = (its ++ its2).toArray := by simp
  rw [ea]
  exact ⟨.ref _, _, I.lnew (t' := s.toks) (r.append r2) (by rw [List.length_append]; omega), rfl, q _ I.fresh⟩
/- a list times an int (a negative one is nothing) -/
def rRep : R2 := fun x y H Q => ∃ l k xs, x = .ref l ∧ y = .int k ∧ H l = some (.lst xs) ∧ -(2 ^ 63) ≤ k ∧ k < 2 ^ 63 ∧ xs.length * k.toNat ≤ sizeLine ∧
  ∀ p, H p = none → Q (.ref p) (upd H p (.lst (List.replicate k.toNat xs).flatten))
theorem len_rep {α : Type} (xs : List α) (k : Nat) : (List.replicate k xs).flatten.length = k * xs.length := by
  induction k with
  | zero => simp
  | succ k ih => rw [List.replicate_succ, List.flatten_cons, List.length_append, ih, Nat.succ_mul, Nat.add_comm]
theorem op_rep : OpR X (binaryOp .Mult) rRep := by
  intro pins s σ H x y v u Q I rx ry h
  obtain ⟨l, k, xs, rfl, rfl, hH, h1, h2, hz, q⟩ := h
  cases rx
  obtain ⟨t, rfl⟩ := ry
  obtain ⟨z, its, n, r, hl, e⟩ := I.lstM hH
  have hlen : its.toArray.size * k.toNat ≤ sizeLine := by rw [List.size_toArray, ← hl]; exact hz
  have hcap : ¬ its.toArray.size * k.toNat > (2 ^ 63 - 1) / 8 := by
    have : (sizeLine : Nat) ≤ (2 ^ 63 - 1) / 8 := by decide
    omega
  have hfit : ¬ (!Builtin.List.listFitsIndex k) = true := by
    rw [fitsIndex_both h1 h2]
    exact Bool.false_ne_true
  have hlong : ¬ Builtin.List.listTooLong (its.toArray.size * k.toNat) = true := by
    rw [notLongL hlen]
    exact Bool.false_ne_true
  have hnew : List.foldl (fun x1 x2 => x1 ++ x2) #[] (List.replicate (if its.toArray.isEmpty = true then 0 else k.toNat) its.toArray) = (List.replicate k.toNat its).flatten.toArray := by
    have f0 : ∀ m : Nat, List.foldl (fun x1 x2 => x1 ++ x2) #[] (List.replicate m its.toArray) = (List.replicate m its).flatten.toArray := fun m => by
      have := foldl_rep its m []
      rw [List.nil_append] at this
      exact this
    rw [f0]
    cases its with
    | nil => simp
    | cons a r' => rw [if_neg (by simp)]
  refine wpAny_binaryOp_repeat_ref (T := "list") (U := "int") (by decide) ⟨_, e, rfl⟩ (fun s' => typeIs_int s' k t) noFill_list_mul F.fills_int_mul F.slot_int_rmul repeat_list F.slot_int_index.lookup
    (call_meets F.slot_int_rmul (typeIs_int s k t) F.entry_int_rmul (F.args_int_rmul_2 _ _) (int___rmul___int_list k t l its.toArray n)
      ⟨e, rfl, ⟨_, e, rfl⟩, call_meets F.slot_list_mul ⟨_, e, rfl⟩ F.entry_list_mul (F.args_list_mul_2 _ _) (AutoListH.list___mul___list_int_3 l its.toArray n k t hfit hcap hlong) ⟨e, ?_⟩⟩)
  rw [hnew]
  exact ⟨.ref _, _, I.lnew (t' := s.toks) (r.rep k.toNat) (by rw [len_rep, Nat.mul_comm]; exact hz), rfl, q _ I.fresh⟩

/-! ### del xs[i] -/
end

/-! ### xs[a:b] = ys -/
section
variable {prog : Program} {w : World} {A : Around} {E : Value → Shared → Prop} {s : Shared}
set_option maxRecDepth 100000 in
/- list.__setitem__ with a slice of step one and another list -/
end

section
variable {X : Cx}
/- xs[a:c] = ys of another list, at the value level: sl is the slice object that was just made -/
end
end L2

namespace Att
open PySem PySem.W PySem.Calls PyProof.Rows

/-! ### the script -/
theorem ints_of_wellAll {P : Params} {h : Heap} : ∀ (ns : List Int) (vs : List Value), WellAll P h vs (ns.map WData.int) → IntsAre vs ns := by
  intro ns
  induction ns with
  | nil =>
    intro vs w
    rw [List.map_nil] at w
    cases w
    exact .nil
  | cons n ns ih =>
    intro vs w
    rw [List.map_cons] at w
    cases w with
    | cons a b =>
      cases a
      exact .cons _ _ (ih _ b)

theorem script_of {l : OpenLaw} {n : Nat} (hn : l.most = some n) {P : Params} {h : Heap} {args : List WData} {vals : List Value}
    (hpre : l.row.toRowW.claim.pre args = true) (hwl : WellAll P h vals args) :
    ∃ a vs ns, vals = [Value.ref a] ∧ args = [WData.list (ns.map WData.int)] ∧ h.get? a = some { cls := .type "list", data := .seq vs.toArray } ∧ IntsAre vs ns ∧ ns.length ≤ n := by
  have hsh : WShape.hasAll [] args [.list .int] = true := (pre_splitW hpre).1
  have hc : l.pre.holds [] { args := args } = true := (pre_splitW hpre).2
  obtain ⟨d, r, rfl, h1, h2⟩ := hasAllW_cons hsh
  obtain rfl := hasAllW_nil h2
  obtain ⟨xs, rfl, h3⟩ := hasW_list h1
  obtain ⟨ns, rfl⟩ := items_int h3
  have hlen : ns.length ≤ n := by
    unfold OpenLaw.pre at hc
    have h4 : (WTm.not (.lt (.lit (.int (n : Int))) (.len (.arg 0)))).holds [] { args := [.list (ns.map .int)] } = true := by
      have h4 := (holds_andW hc).1
      rw [hn] at h4
      exact h4
    have h5 := condW_of h4 (w_not (w_lt w_lit (w_len_list (w_arg rfl))))
    rw [List.length_map] at h5
    refine Nat.le_of_not_lt fun q => ?_
    have q' : (n : Int) < ((ns.length : Nat) : Int) := by omega
    first
      | (rw [decide_eq_true q'] at h5; exact absurd h5 (by decide))
      | (simp at h5; omega)
  cases hwl with
  | cons w1 w2 =>
    cases w2
    cases w1 with
    | list ho hall => exact ⟨_, _, ns, rfl, rfl, ho, ints_of_wellAll ns _ hall, hlen⟩

theorem post_true (l : OpenLaw) (args : List WData) : l.row.toRowW.claim.post args (.bool true) args = true :=
  postW_of (r := l.row.toRowW) (X := (true == true))
    (show WShape.has [] (.bool true) .bool = true by first | rfl | decide | simp [WShape.has, WShape.arms, WShape.armsAll])
    (show (WTm.eq .res (.lit (.bool true))).value [] { args := args, res := some (.bool true), after := args } = some (.bool (true == true)) from w_eq_bool (w_res rfl) w_lit) rfl

/-! ### the attachment: holds_open's last premise (the goal 'hc' behind k_head) from a wpAny of the law's body -/
/- the same from a codeAny of the CALL (for a layer whose function contracts speak of calls) -/
theorem attach_call {l : OpenLaw} {n : Nat} {q : Program} {loose : List Str} {XP : (Str → Option Value) → Heap → Prop} {YP : World → Heap → Prop} {d : DefRec}
    (hn : l.most = some n) (hdf : d.params.defaults = [])
    (call : ∀ (w : World) (s₀ s₁ : Shared) (mg mb : Str → Option Value) (fa : Addr) (o : Obj) (pm cd doc : Value) (a : Addr) (vs : List Value) (ns : List Int),
      Ground q loose [] XP w s₀ mg mb s₁.heap → YP w s₁.heap →
      s₁.heap.get? fa = some o → o.data = .func (docDef d.name d.params d.body d.scope pm cd doc) → s₁.heap.CodeRec cd d.name → mg d.name = some (.ref fa) →
      s₁.heap.get? a = some { cls := .type "list", data := .seq vs.toArray } → IntsAre vs ns → ns.length ≤ n → s₁.gens = #[] →
      codeAny (model l.prog w) callerA (.call (.ref fa) ⟨[.ref a], []⟩) (fun r s' => r = .ok (.ret (.bool true)) ∧ OldK s₁.heap s'.heap ∧ s'.os = s₁.os ∧ AllBare s'.gens) s₁) :
    WalkO q loose XP YP l.row.toRowW d [] (fun f vs => PySem.call f vs) := by
  intro w s₀ s₁ mg mb G Y fa o pm cd doc dV kV ho hd hcd hD hmg hg args vals as hpre hlay hrd hwl hlo
  obtain rfl : dV = .none := Dflts.none hD hdf
  obtain rfl : kV = .none := Dflts.noKw hD
  obtain ⟨a, vs, ns, rfl, rfl, hobj, hints, hlen⟩ := script_of hn hpre hwl
  refine enter_call (codeAny_mono (call w s₀ s₁ mg mb fa o pm cd doc a vs ns G Y ho (fd_plain hd) hcd hmg hobj hints hlen hg) fun r s' hq => ?_)
  obtain ⟨rfl, h2, h3, h4⟩ := hq
  exact ⟨.inl ⟨.bool true, .bool true, [], rfl, fun _ => rfl, .bool true, post_true l _, fun _ => ⟨List.Pairwise.nil, fun _ hm => (nomatch hm)⟩⟩, h2, h3, h4⟩

/- the same where the top left finished generators (o_head chose holds_openN): nothing may have changed at all and no generator may be left -/
section
variable {prog : Program} {w : World} {A : Around} {E : Value → Shared → Prop} {s : Shared} {K : Frag}

/- a def of the module, or a method (qual 'C.m'), entered: the frame is the next address; cells behind it -/
/- C(..): dict at size, instance at size + 1, then __init__ -/
/- x.name where the instance's dict holds the name and the class does not -/
/- x.m(..): the method found in the class -/
def noObjs (h : Heap) : Heap := { h with objs := #[] }
def ledger (h : Heap) (L d : Addr) : List (Addr × Obj) := (List.range h.objs.size).filterMap fun a => if a = L ∨ a = d then none else (h.get? a).map fun o => (a, o)
/- Upd of the head entry (for append_K, setItem_K ..) -/
/- x.name = v over any heap: L is any namespace of the heap (the frame's, say): its map stays, its object is not told; all else but the dict stays -/
end
end Att

namespace L2
open PySem PySem.Spec PyProof.Rows

theorem vals_ints : ∀ {vs : List Value} {ns : List Int}, IntsAre vs ns → Vals (ns.map V.int) vs
  | _, _, .nil => .nil
  | _, _, .cons n t h => .cons ⟨t, rfl⟩ (vals_ints h)

/- nothing is tracked but the script, known to the object (or it is an object of the module) -/
def Only (H : Hp) : Prop := ∀ b, H b = none ∨ ∃ o xs, H b = some (.frz o (.lst xs))

/- THE HEAD: the law's promise, at the heap behind the top. F, the promise of the law's def, may use that base is part of the heap (so K.In base, base.Ns mainGlobals mg stand in Mod) -/
theorem law_call {P : Program} {w : World} {K : PySem.W.Frag} {mg mb : Str → Option Value} {CX : CXT} {k : Nat} {fa a : Addr} {fd : FuncData} {x : Str} {sp : Sp} {s₁ : Shared} {vs : List Value} {ns : List Int}
    (KX : K.In s₁.heap) (hns : s₁.heap.Ns mainGlobals mg) (hb : s₁.heap.Ns builtinsNs mb) (hbb : ∀ x : Str, x ≠ "__name__" → mb x = bootBuiltins x) (hlim : s₁.heap.NoLimit) (hg : s₁.gens = #[])
    (ha : s₁.heap.get? a = some { cls := .type "list", data := .seq vs.toArray }) (hi : IntsAre vs ns) (hl : ns.length ≤ sizeLine) (hr : Room k callerA)
    (F : ∀ base : Heap, K.In base → base.Ns mainGlobals mg → FnOk P w K mg base CX k fa fd [x] sp) (hbind : ∀ (s : Shared) (u : Value), BindsTo s fd ⟨[u], []⟩ [(x, u)])
    (hsp : ∀ H : Hp, Only H → SqL K H a (ns.map V.int) → sp [.ref a] H (fun v _ => v = .bl true) fun _ _ _ => False)
    (hCX : ∀ H e s', CX [] H s₁ (fun _ _ _ => False) e s' → False) :
    codeAny (model P w) callerA (.call (.ref fa) ⟨[.ref a], []⟩) (fun r s' => r = .ok (.ret (.bool true)) ∧ OldK s₁.heap s'.heap ∧ s'.os = s₁.os ∧ AllBare s'.gens) s₁ := by
  have rv := vals_ints hi
  have lenV := hi.length
  -- from an abstract heap in which nothing but the script may be tracked
  have core : ∀ H : Hp, Only H → SqL K H a (ns.map V.int) → HOk P w H s₁.heap → (∀ b, H b ≠ none → b = a) → (H a ≠ none → K.lookup a = none) →
      codeAny (model P w) callerA (.call (.ref fa) ⟨[.ref a], []⟩) (fun r s' => r = .ok (.ret (.bool true)) ∧ OldK s₁.heap s'.heap ∧ s'.os = s₁.os ∧ AllBare s'.gens) s₁ := by
    intro H hO hS hok hA hK
    have base_of : ∀ {b : Addr} {o : Obj}, s₁.heap.get? b = some o → H b = none → (hidT s₁.heap H).get? b = some o := fun e n => hidT_get e n
    have noA : ∀ {b : Addr} {o : Obj} {es : Array DictEntry} {ep : Nat}, s₁.heap.get? b = some o → o.data = .dict es ep → H b = none := fun {b o es ep} e d => by
      cases q : H b with
      | none => rfl
      | some u =>
        have e' : b = a := hA b (by rw [q]; simp)
        subst e'
        rw [ha] at e; cases e
        have d' : Data.seq vs.toArray _ = Data.dict es ep := d
        cases d'
    have nsK : ∀ {b : Addr} {m : Str → Option Value}, s₁.heap.Ns b m → (hidT s₁.heap H).Ns b m := fun {b m} ⟨o, es, ep, e, d, r⟩ => ⟨o, es, ep, base_of e (noA e d), d, r⟩
    have hKb : K.In (hidT s₁.heap H) := fun b o e => base_of (KX b o e) (by
      cases q : H b with
      | none => rfl
      | some u =>
        have e' : b = a := hA b (by rw [q]; simp)
        subst e'
        rw [hK (by rw [q]; simp)] at e; cases e)
    have hM : Mod K mg (hidT s₁.heap H) := ⟨hKb, nsK hns, ⟨mb, nsK hb, hbb⟩, let ⟨mc, h1, h2⟩ := hlim; ⟨mc, nsK h1, h2⟩⟩
    have e0 : Env0 P w K mg (hidT s₁.heap H) callerA [] s₁ H := ⟨rfl, hM, fun b o e => of_hidT e, Nat.le_of_eq (hidT_size _ _), trivial, fun b hb => absurd (show b ∈ ([] : List Addr) from hb) (by simp), hok, .of_eq hg⟩
    refine codeAny_mono ((F _ hKb (nsK hns)).run callerA [] s₁ H ⟨[.ref a], []⟩ [.ref a] [.ref a] _ _ hr e0 (hbind s₁ (.ref a)) (.cons rfl .nil) (hsp H hO hS)) fun r s' h => ?_
    cases r with
    | error e => exact (hCX H e s' h).elim
    | ok fl =>
      cases fl with
      | next => exact False.elim h
      | brk => exact False.elim h
      | cont => exact False.elim h
      | ret u =>
        obtain ⟨v, H', os, bare, un, hok', r', q⟩ := h
        have q' : v = .bl true := q
        subst q'
        obtain rfl : u = Value.bool true := r'
        refine ⟨rfl, OldK.of_keep fun b o e => ?_, os, bare⟩
        cases q : H b with
        | none => exact un.keep b o e q (by intro z; exact absurd (show b ∈ ([] : List Addr) from z) (by simp)) (by simp)
        | some u =>
          rcases hO b with z | ⟨ob, xs, z⟩
          · rw [q] at z; cases z
          · have z2 := un.frzs b ob _ z
            obtain ⟨e1, _⟩ := hok b _ z
            obtain ⟨e2, _⟩ := hok' b _ z2
            rw [e] at e1; cases e1
            exact e2
  cases hk : K.lookup a with
  | some o =>
    -- the script is one of the module's own objects
    have e := KX a o hk
    rw [ha] at e
    cases e
    refine core (fun _ => none) (fun _ => .inl rfl) (.inr ⟨_, vs.toArray, _, hk, rfl, rfl, rfl, by rw [List.size_toArray, lenV]; exact hl, by simpa using rv⟩) (fun b u z => by have z' : (none : Option HO) = some u := z; cases z') (fun b z => absurd rfl z) fun z => absurd rfl z
  | none =>
    refine core (fun b => if b = a then some (.frz { cls := .type "list", data := .seq vs.toArray } (.lst (ns.map V.int))) else none) (fun b => ?_) (.inl (.inr ⟨{ cls := .type "list", data := .seq vs.toArray }, if_pos rfl⟩)) (fun b u z => ?_) (fun b z => ?_) fun _ => hk
    · by_cases hb : b = a
      · exact .inr ⟨_, _, if_pos hb⟩
      · exact .inl (if_neg hb)
    · by_cases hb : b = a
      · have z' := (if_pos hb).symm.trans z
        cases z'
        subst hb
        exact ⟨ha, by rw [List.length_map]; exact hl, vs, _, rv, ha⟩
      · have z' := (if_neg hb).symm.trans z
        cases z'
    · by_cases hb : b = a
      · exact hb
      · exact absurd (if_neg hb) z
end L2

namespace L2
open PySem PySem.Spec PyProof.Rows

abbrev KOf {K : PySem.W.Frag} {h : Heap} (_ : K.In h) : PySem.W.Frag := K

/- the goal that k_head leaves (case hc), from the law's promise. F gives the function object fd (K's own) once, then the promise over every base -/
theorem walk_of {l : PySem.W.OpenLaw} {n k : Nat} {q : Program} {loose : List Str} {XP : (Str → Option Value) → Heap → Prop} {YP : World → Heap → Prop} {d : DefRec} {K : Params → PySem.W.Frag} {CX : World → CXT} {sp : World → Sp} {x : Str}
    (hn : l.most = some n) (hn2 : n ≤ sizeLine) (hdf : d.params.defaults = []) (hr : Room k callerA)
    (hY : ∀ (w : World) (h : Heap), YP w h → (K w.params).In h)
    (F : ∀ (w : World) (mg : Str → Option Value) (fa : Addr) (h : Heap), (K w.params).In h → h.Ns mainGlobals mg → mg d.name = some (.ref fa) →
      ∃ fd : FuncData, (∀ (s : Shared) (u : Value), BindsTo s fd ⟨[u], []⟩ [(x, u)]) ∧
        ∀ base : Heap, (K w.params).In base → base.Ns mainGlobals mg → FnOk l.prog w (K w.params) mg base (CX w) k fa fd [x] (sp w))
    (hsp : ∀ (w : World) (H : Hp) (a : Addr) (ns : List Int), ns.length ≤ n → Only H → SqL (K w.params) H a (ns.map V.int) → sp w [.ref a] H (fun v _ => v = .bl true) fun _ _ _ => False)
    (hCX : ∀ (w : World) (H : Hp) (s : Shared) (e : Value) (s' : Shared), CX w [] H s (fun _ _ _ => False) e s' → False) :
    PySem.W.WalkO q loose XP YP l.row.toRowW d [] (fun f vs => PySem.call f vs) := by
  refine Att.attach_call hn hdf fun w s₀ s₁ mg mb fa o pm cd doc a vs ns G Y ho hd hcd hmg hobj hints hlen hg => ?_
  have KX := hY w _ Y
  obtain ⟨fd, hb, hF⟩ := F w mg fa _ KX G.T.g hmg
  exact law_call KX G.T.g G.T.b G.T.builtins G.T.nolimit hg hobj hints (Nat.le_trans hlen hn2) hr hF hb (fun H hO hS => hsp w H a ns hlen hO hS) fun H e s' => hCX w H s₁ e s'
/- the same where the promise hangs on the written part alone: (sp := My.sp_law), no hole under a binder -/
theorem walk_ofK {l : PySem.W.OpenLaw} {n k : Nat} {q : Program} {loose : List Str} {XP : (Str → Option Value) → Heap → Prop} {YP : World → Heap → Prop} {d : DefRec} {K : Params → PySem.W.Frag} {CX : CXT} {sp : PySem.W.Frag → Sp} {x : Str}
    (hn : l.most = some n) (hn2 : n ≤ sizeLine) (hdf : d.params.defaults = []) (hr : Room k callerA)
    (hY : ∀ (w : World) (h : Heap), YP w h → (K w.params).In h)
    (F : ∀ (w : World) (mg : Str → Option Value) (fa : Addr) (h : Heap), (K w.params).In h → h.Ns mainGlobals mg → mg d.name = some (.ref fa) →
      ∃ fd : FuncData, (∀ (s : Shared) (u : Value), BindsTo s fd ⟨[u], []⟩ [(x, u)]) ∧
        ∀ base : Heap, (K w.params).In base → base.Ns mainGlobals mg → FnOk l.prog w (K w.params) mg base CX k fa fd [x] (sp (K w.params)))
    (hsp : ∀ (K : PySem.W.Frag) (H : Hp) (a : Addr) (ns : List Int), ns.length ≤ n → Only H → SqL K H a (ns.map V.int) → sp K [.ref a] H (fun v _ => v = .bl true) fun _ _ _ => False)
    (hCX : ∀ (H : Hp) (s : Shared) (e : Value) (s' : Shared), CX [] H s (fun _ _ _ => False) e s' → False) :
    PySem.W.WalkO q loose XP YP l.row.toRowW d [] (fun f vs => PySem.call f vs) :=
  walk_of (K := K) (CX := fun _ => CX) (sp := fun w => sp (K w.params)) hn hn2 hdf hr hY F (fun w H a ns h1 h2 h3 => hsp (K w.params) H a ns h1 h2 h3) fun _ H s e s' => hCX H s e s'
end L2

/- THE LAST THEOREM (shape; LID, My.* are yours):
   My.Adr: a structure of the addresses that your layer names (classes, functions); My.Txt K t: a structure (Prop) of the equations over K;
   My.txt_mk : {K} {implicit addresses ..} (e1 : nsIn K mainGlobals "law" = some (some (.ref f))) (e2 : K.lookup f = some ⟨oc, od, .func (fnOf "law" "law" params body scope dV kV doc pm an cdv ct), sl⟩) (e3 : codeIn K cdv "law" = true) .. : ∃ t, My.Txt K t

set_option maxRecDepth 100000 in
set_option maxHeartbeats 0 in
theorem PySem.Challenge.cw_LID_holds : PySem.Challenge.rw_LID.Holds := by
  w_on; o_law; k_head; (case hw => w_witness2)
  k_fill
  refine L2.walk_of (l := PySem.Challenge.rw_LID) (n := 63) (k := 40) (x := "script") (CX := fun w => ..) (sp := fun _ => My.sp_law) rfl (by decide) rfl ⟨rfl, by decide, by decide⟩ (fun w h Y => PySem.W.kIn_of Y) ?F ?S ?C
  case F =>
    intro w mg fa h KX G hmg
    have T : ∃ t, My.Txt (L2.KOf KX) t := by
      dsimp only [L2.KOf]                          -- K must stand as «<heap const> w.params» for k_is
      refine' My.txt_mk ?e1 ?e2 ?e3 ..
      (case e1 => PySem.W.k_is)                    -- in the order: a name -> its address -> its object -> its parts
      (case e2 => PySem.W.k_is)
      ..
    obtain ⟨t, T⟩ := T
    have e0 := hmg.symm.trans (PySem.W.mg_of KX G T.law)
    cases e0                                       -- fa is the law's own address
    exact ⟨_, fun s u => .of_eq rfl, fun base kb nb => My.law_fn T kb nb⟩     -- if «.of_eq rfl» comes too early: refine' ⟨_, ?b, fun base kb nb => My.law_fn T kb nb⟩; exact fun s u => .of_eq rfl
  case S => exact fun w H a ns hl hO hS => ..
  case C => exact ..
(the tactic k_is has no namespace: write k_is) -/

/-! SHORT WORDS over the layer: a def of the text, its body, what a loop and a test want. -/
namespace L2
open PySem PySem.Spec PyProof.Rows

/-! ### the text by places -/
/- the j-th statement of a class's body -/
def inClass (s : Stmt) (j : Nat) : Stmt := match s with
  | .ClassDef _ _ _ body _ _ _ _ _ _ _ => body.getD j (.Pass ⟨0, 0, 0, 0⟩)
  | _ => .Pass ⟨0, 0, 0, 0⟩
def defArgs (s : Stmt) : Arguments := match s with
  | .FunctionDef _ a _ _ _ _ _ _ _ _ => a
  | _ => { posonlyargs := [], args := [], vararg := none, kwonlyargs := [], kw_defaults := [], kwarg := none, defaults := [] }
def defBody (s : Stmt) : List Stmt := match s with
  | .FunctionDef _ _ b _ _ _ _ _ _ _ => b
  | _ => []
def defScope (s : Stmt) : Scope := match s with
  | .FunctionDef _ _ _ _ _ _ sc _ _ _ => sc
  | _ => { kind := .function, names := [], isGenerator := false, isCoroutine := false }

/-! ### no exception leaves a def -/
abbrev CX0 : CXT := fun _ _ _ _ _ _ => False
abbrev E0 : XK := fun _ _ _ => False
theorem pass0 {X : Cx} : Passes CX0 X E0 := fun _ _ _ _ _ _ _ h => h.elim

/-! ### a def (or method) of the text as it stands behind the top -/
structure Fun (K : PySem.W.Frag) (x qual : Str) (st : Stmt) (f : Addr) (fd : FuncData) : Prop where
  ex : ∃ (oc : Value) (od : Option Addr) (kV doc pm : Value) (an : Option Addr) (cdv ct : Value) (osl : Array (Option Value)),
    fd = PySem.W.fnOf x qual (defArgs st) (defBody st) (defScope st) .none kV doc pm an cdv ct ∧ K.lookup f = some ⟨oc, od, .func fd, osl⟩ ∧ PySem.W.codeIn K cdv qual = true
  kp : PySem.W.keepIn K (.ref f) = true
section
variable {P : Program} {w : World} {K : PySem.W.Frag} {mg : Str → Option Value} {base : Heap}
/- THE RULE for a def: its body as a term of rules, and the reading of that term -/
theorem Fun.ok {x qual : Str} {st : Stmt} {f : Addr} {fd : FuncData} {N ps : List Str} {k : Nat} {sp : Sp} (F : Fun K x qual st f fd) (S : FnScope N ps (defScope st)) (len : ∀ vs H Q E, sp vs H Q E → vs.length = ps.length)
    (hbody : ∀ (cdv : Value) (A : Around) (outer : List Env) (s : Shared) (H : Hp) (vs : List V) (Q : VK) (E : XK), Room k (A.deeper (envOfC qual (defScope st) s.heap.objs.size f cdv)) → sp vs H Q E →
      ∃ t, PSs (cxOf CX0 P w K mg base N qual (defScope st) f cdv A outer s H E).nox (defBody st) t ∧ t { nx := fun _ H' => Q .non H', rt := Q } (start N vs) H) : FnOk P w K mg base CX0 (k + 1) f fd ps sp := by
  obtain ⟨oc, od, kV, doc, pm, an, cdv, ct, osl, rfl, lk, hcd⟩ := F.ex
  refine fn_of lk hcd S len fun A outer s H vs Q E hr hsp => ?_
  obtain ⟨t, h, q⟩ := hbody cdv A outer s H vs Q E hr hsp
  exact ⟨t, h.nox, q⟩
/- how its arguments bind (no defaults): h is «fun _ _ _ _ _ _ us hl => match us, hl with | [_, _], _ => rfl», one _ a parameter -/
theorem Fun.binds {x qual : Str} {st : Stmt} {f : Addr} {fd : FuncData} {ps : List Str} (F : Fun K x qual st f fd)
    (h : ∀ (kV doc pm : Value) (an : Option Addr) (cdv ct : Value) (us : List Value), us.length = ps.length → bindArgs (PySem.W.fnOf x qual (defArgs st) (defBody st) (defScope st) .none kV doc pm an cdv ct) ⟨us, []⟩ = pure (ps.zip us)) : Binds K fd ps [] := by
  obtain ⟨oc, od, kV, doc, pm, an, cdv, ct, osl, rfl, lk, hcd⟩ := F.ex
  exact .all (h kV doc pm an cdv ct)
theorem fun_mk {x qual : Str} {st : Stmt} {f : Addr} {oc : Value} {od an : Option Addr} {osl : Array (Option Value)} {kV doc pm cdv ct : Value} (l : K.lookup f = some ⟨oc, od, .func (PySem.W.fnOf x qual (defArgs st) (defBody st) (defScope st) .none kV doc pm an cdv ct), osl⟩)
    (c : PySem.W.codeIn K cdv qual = true) (k : PySem.W.keepIn K (.ref f) = true) : Fun K x qual st f (PySem.W.fnOf x qual (defArgs st) (defBody st) (defScope st) .none kV doc pm an cdv ct) := ⟨⟨oc, od, kV, doc, pm, an, cdv, ct, osl, rfl, l, c⟩, k⟩
end
section
variable {X : Cx}
theorem pv (i : Nat) {x : Str} {pos : Pos} (hN : X.N[i]? = some x := by rfl) (hv : Vis X.env.scope x := by first | exact Or.inl rfl | exact Or.inr (Or.inl rfl) | exact Or.inr (Or.inr rfl)) (hd : (x == ("__debug__" : Str)) = false := by decide)
    (hcd : (x == ("__classdict__" : Str)) = false := by decide) : PE X (.Name x pos) (tVar i) := pe_var hN hv hd hcd
end

/-! ### tests -/
theorem iteF {A B : Prop} (h : B) : if false = true then A else B := by
  rw [if_neg Bool.false_ne_true]
  exact h
theorem iteT {A B : Prop} (h : A) : if true = true then A else B := by
  rw [if_pos rfl]
  exact h
theorem ite2 {c A B : Prop} [Decidable c] (h1 : c → A) (h2 : ¬ c → B) : if c then A else B := by
  by_cases h : c
  · rw [if_pos h]
    exact h1 h
  · rw [if_neg h]
    exact h2 h
/- all that was tracked is as it was -/
def Same (H H' : Hp) : Prop := ∀ b o, H b = some o → H' b = some o
theorem Same.refl (H : Hp) : Same H H := fun _ _ h => h
theorem Same.trans {H H1 H2 : Hp} (a : Same H H1) (b : Same H1 H2) : Same H H2 := fun c o h => b c o (a c o h)
theorem Same.free {H H' : Hp} (e : Same H H') {l : Addr} (h : H' l = Option.none) : H l = Option.none := by
  cases q : H l with
  | none => rfl
  | some o =>
    rw [e l o q] at h
    cases h
theorem Same.seq {K : PySem.W.Frag} {H H' : Hp} {a : Addr} {xs : List V} (e : Same H H') (h : SqL K H a xs) : SqL K H' a xs := by
  rcases h with (h | ⟨o, h⟩) | h
  · exact .inl (.inl (e _ _ h))
  · exact .inl (.inr ⟨o, e _ _ h⟩)
  · exact .inr h

end L2

set_option Elab.async false
set_option linter.all false
set_option maxRecDepth 100000
set_option maxHeartbeats 4000000
namespace L2
open PySem PySem.Spec PyProof.Rows

/-! OWN EXCEPTIONS over the layer: raise, passing a frame, try .. except C as n. -/

theorem ObjOk.has {P : Program} {w : World} {H : Hp} {h : Heap} {a : Addr} {o : HO} (x : ObjOk P w H h a o) : ∃ u, h.get? a = some u := by
  cases o with
  | lst xs => obtain ⟨_, _, _, _, q⟩ := x; exact ⟨_, q⟩
  | tup xs => obtain ⟨_, _, _, ob, q, _⟩ := x; exact ⟨ob, q⟩
  | dK kvs => obtain ⟨_, _, _, _, ob, _, _, q, _⟩ := x; exact ⟨ob, q⟩
  | dT kvs => obtain ⟨_, _, _, _, ob, _, _, q, _⟩ := x; exact ⟨ob, q⟩
  | set S n => obtain ⟨ob, _, _, _, q, _⟩ := x; exact ⟨ob, q⟩
  | ins C dx fs => obtain ⟨_, _, _, q, _⟩ := x; exact ⟨_, q⟩
  | own y => obtain ⟨ob, q⟩ := x; exact ⟨ob, q⟩
  | xd fs => obtain ⟨_, ⟨ob, _, _, q, _⟩, _⟩ := x; exact ⟨ob, q⟩
  | rng lo hi => obtain ⟨_, _, _, q⟩ := x; exact ⟨_, q⟩
  | frz ob u => obtain ⟨q, _⟩ := x; exact ⟨_, q⟩
  | tbl ps => exact ⟨_, (show h.get? a = some _ from x)⟩
  | met f y => exact ⟨_, (show h.get? a = some _ from x)⟩
  | ext φ => obtain ⟨_, ⟨ob, q⟩, _⟩ := x; exact ⟨ob, q⟩

/- an own exception of class C flies at a: B is the heap at the raise without the frames l; what is tracked, and what stood in g, lies in B -/
def Fly (l : List Env) (g : Heap) (H : Hp) (a : Addr) (C : Value) (h : Heap) : Prop :=
  ∃ (B : Heap) (t : Addr), Heap.FlyingW B l a C (.ref t) h ∧ H a = none ∧
    ∀ b o, h.get? b = some o → ((∃ u, g.get? b = some u) ∨ ∃ u, H b = some u) → b ∉ frs l → B.get? b = some o
/- how an own exception lies behind a call -/
def CXO (P : Program) (w : World) : CXT := fun outer H s E e s' =>
  ∃ (a : Addr) (C : Value) (H' : Hp), e = .ref a ∧ s'.os = s.os ∧ AllBare s'.gens ∧ Un (frs outer) [] H H' s.heap s'.heap ∧ HOk P w H' s'.heap ∧ Fly outer s.heap H' a C s'.heap ∧ E C none H'

theorem mem_frs_cons {env : Env} {outer : List Env} {L b : Addr} (hf : env.frame = some L) (hb : b ∈ frs (env :: outer)) : b = L ∨ b ∈ frs outer := by
  obtain ⟨e, he, q⟩ := List.mem_filterMap.mp hb
  rcases List.mem_cons.mp he with rfl | he
  · rw [hf] at q; exact .inl (Option.some.inj q).symm
  · exact .inr (List.mem_filterMap.mpr ⟨e, he, q⟩)
theorem frs_cons_of {env : Env} {outer : List Env} {b : Addr} (hb : b ∈ frs outer) : b ∈ frs (env :: outer) := by
  obtain ⟨e, he, q⟩ := List.mem_filterMap.mp hb
  exact List.mem_filterMap.mpr ⟨e, List.mem_cons_of_mem _ he, q⟩

/- the exception goes out of the frame of env -/
theorem fly_out {P : Program} {w : World} {env : Env} {outer : List Env} {L : Addr} {H H' : Hp} {g h1 h2 B : Heap} {a t : Addr} {C : Value}
    (hf : env.frame = some L) (hL : g.get? L = none) (U : Un (frs outer) [] H H' g h1) (ok : HOk P w H' h1) (frf : ∀ b ∈ frs (env :: outer), H' b = none)
    (frd : ∀ b ∈ frs outer, ∀ o, h1.get? b = some o → ∀ vs, o.data ≠ .fields vs)
    (inB : ∀ b o, h1.get? b = some o → ((∃ u, g.get? b = some u) ∨ ∃ u, H' b = some u) → b ∉ frs (env :: outer) → B.get? b = some o)
    (fl : Heap.FlyingW B outer a C (.ref t) h2) (ha : H' a = none) (up : h1.UpToSlots h2) : Un (frs outer) [] H H' g h2 ∧ HOk P w H' h2 ∧ Fly outer g H' a C h2 := by
  have stay : ∀ b o, h1.get? b = some o → ((∃ u, g.get? b = some u) ∨ ∃ u, H' b = some u) → b ∉ frs outer → h2.get? b = some o ∧ B.get? b = some o := fun b o e hb hn => by
    have nf : b ∉ frs (env :: outer) := fun z => by
      rcases mem_frs_cons hf z with rfl | z2
      · rcases hb with ⟨u, q⟩ | ⟨u, q⟩
        · rw [hL] at q; cases q
        · rw [frf _ z] at q; cases q
      · exact hn z2
    have q := inB b o e hb nf
    exact ⟨fl.1 b o q, q⟩
  have nx : ([] : List Addr) = [] := rfl
  have hx : ∀ b : Addr, b ∉ ([] : List Addr) := fun b z => nomatch z
  have track : ∀ b u, H' b = some u → b ∉ frs outer := fun b u q z => by
    rw [frf b (frs_cons_of z)] at q; cases q
  refine ⟨⟨fun b o e n hb hx => ?_, fun b o e n hb hx => ?_, U.free, fun b o e hx => ?_, U.tups, U.frzs, U.tbls⟩, fun b u q => ?_, B, t, fl, ha, fun b o e hb hn => ?_⟩
  · exact (stay b o (U.keep b o e n hb hx) (.inl ⟨o, e⟩) hb).1
  · obtain ⟨sl, e1⟩ := U.slot b o e n hb hx
    obtain ⟨sl2, e2⟩ := up b _ e1 (frd b hb _ e1)
    exact ⟨sl2, e2⟩
  · obtain ⟨o', e1⟩ := U.there b o e hx
    by_cases hb : b ∈ frs outer
    · obtain ⟨sl2, e2⟩ := up b _ e1 (frd b hb _ e1)
      exact ⟨_, e2⟩
    · exact ⟨o', (stay b o' e1 (.inl ⟨o, e⟩) hb).1⟩
  · refine (ok b u q).stay (fun c v hc e => ?_) (fun _ z => z) fun _ _ z => z
    have tc : ∃ u', H' c = some u' := by
      rcases hc with rfl | hc
      · exact ⟨u, q⟩
      · exact ⟨_, hc⟩
    obtain ⟨u', q'⟩ := tc
    exact (stay c v e (.inr ⟨u', q'⟩) (track c u' q')).1
  · have h1b : ∃ o', h1.get? b = some o' := by
      rcases hb with ⟨u, q⟩ | ⟨u, q⟩
      · exact U.there b u q (hx b)
      · exact (ok b u q).has
    obtain ⟨o', e1⟩ := h1b
    obtain ⟨e2, e3⟩ := stay b o' e1 hb hn
    rw [e] at e2; cases e2
    exact e3

/- what a raise in the body, with the wish E, becomes -/
def Raises (X : Cx) (E : XK) : Prop := ∀ (pins : List (Addr × Obj)) (σ : St) (H : Hp) (s : Shared) (a : Addr) (C : Value) (vs : List Value) (h' : Heap), Inv X pins σ H s → Heap.MadeExcOf s.heap h' a C vs → E C none H → X.xe (.ref a) { s with heap := h' }

section
variable {P : Program} {w : World} {K : PySem.W.Frag} {mg : Str → Option Value} {base : Heap} {N : List Str} {qual : Str} {scope : Scope} {f : Addr} {cd : Value} {A : Around} {outer : List Env} {s : Shared} {H : Hp} {E : XK}

theorem Inv.frd {X : Cx} {pins : List (Addr × Obj)} {σ : St} {H : Hp} {s : Shared} (I : Inv X pins σ H s) : ∀ b ∈ frs X.stack, ∀ o, s.heap.get? b = some o → ∀ vs, o.data ≠ .fields vs := fun b hb o e => by
  obtain ⟨_, o', e', d⟩ := I.stack.mem hb
  rw [e] at e'; cases e'
  exact d
theorem Inv.hasNo {X : Cx} {pins : List (Addr × Obj)} {σ : St} {H : Hp} {s : Shared} {a : Addr} (I : Inv X pins σ H s) (e : s.heap.get? a = none) : H a = none := by
  cases q : H a with
  | none => rfl
  | some u =>
    obtain ⟨o, z⟩ := (I.hok a u q).has
    rw [e] at z; cases z

theorem raises_fn : Raises (cxOf (CXO P w) P w K mg base N qual scope f cd A outer s H E) E := by
  intro pins σ H1 s1 a C vs h' I hx hE
  have hin : ∀ env ∈ (envOfC qual scope s.heap.objs.size f cd :: outer), ∀ b, env.frame = some b → b ∈ frs (envOfC qual scope s.heap.objs.size f cd :: outer) := fun env he b hb => List.mem_filterMap.mpr ⟨env, he, hb⟩
  have fr0 : (A.deeper (envOfC qual scope s.heap.objs.size f cd)).frames = some (envOfC qual scope s.heap.objs.size f cd :: outer) := I.ok.frames
  have sn : s.heap.get? s.heap.objs.size = none := Heap.get?_none_of_le (Nat.le_refl _)
  refine wpAny_leaves_madeW (L := s.heap.objs.size) (base := PySem.W.hideAll s1.heap (frs (envOfC qual scope s.heap.objs.size f cd :: outer))) (h := s1.heap) fr0 rfl (fun b o q => PySem.W.of_hideAll _ q) (PySem.W.funFrames_hide I.stack hin) hx fun h2 t fl _ _ up => ?_
  have frd := I.frd
  obtain ⟨u1, u2, u3⟩ := fly_out (P := P) (w := w) (L := s.heap.objs.size) (h1 := s1.heap) rfl sn I.base I.hok I.stkFree (fun b hb o e => frd b (frs_cons_of hb) o e) (fun b o e _ hn => PySem.W.hideAll_get _ e hn) fl (I.hasNo hx.new) ((Heap.UpToSlots.of_keeps hx.keeps).trans up)
  exact ⟨a, C, H1, rfl, I.os, I.bare, u1, u2, u3, hE⟩

theorem passes_fn : Passes (CXO P w) (cxOf (CXO P w) P w K mg base N qual scope f cd A outer s H E) E := by
  intro pins σ H1 s1 e s' I hc
  obtain ⟨a, C, H', rfl, os, bare, un, hok, ⟨B, t, fl, ha, inB⟩, hE⟩ := hc
  have I' : Inv (cxOf (CXO P w) P w K mg base N qual scope f cd A outer s H E) pins σ H' s' := I.call' os un hok bare fun b z => nomatch z
  have fr0 : (A.deeper (envOfC qual scope s.heap.objs.size f cd)).frames = some (envOfC qual scope s.heap.objs.size f cd :: outer) := I.ok.frames
  have sn : s.heap.get? s.heap.objs.size = none := Heap.get?_none_of_le (Nat.le_refl _)
  refine wpAny_leaves_onW (L := s.heap.objs.size) fr0 rfl fl fun h2 fl2 up => ?_
  have frd := I'.frd
  obtain ⟨u1, u2, u3⟩ := fly_out (P := P) (w := w) (L := s.heap.objs.size) (h1 := s'.heap) rfl sn I'.base I'.hok I'.stkFree (fun b hb o e => frd b (frs_cons_of hb) o e) (fun b o e hb hn => inB b o e (hb.imp (fun ⟨u, q⟩ => I.base.there b u q fun z => nomatch z) id) hn) fl2 ha up
  exact ⟨a, C, H', rfl, I'.os, I'.bare, u1, u2, u3, hE⟩
end

/-! ### the def that raises -/
theorem Fun.okX {P : Program} {w : World} {K : PySem.W.Frag} {mg : Str → Option Value} {base : Heap} {x qual : Str} {st : Stmt} {f : Addr} {fd : FuncData} {N ps : List Str} {k : Nat} {sp : Sp} (F : Fun K x qual st f fd) (S : FnScope N ps (defScope st)) (len : ∀ vs H Q E, sp vs H Q E → vs.length = ps.length)
    (hbody : ∀ (cdv : Value) (A : Around) (outer : List Env) (s : Shared) (H : Hp) (vs : List V) (Q : VK) (E : XK), Room k (A.deeper (envOfC qual (defScope st) s.heap.objs.size f cdv)) → sp vs H Q E →
      ∃ t, PSs (cxOf (CXO P w) P w K mg base N qual (defScope st) f cdv A outer s H E) (defBody st) t ∧ t { nx := fun _ H' => Q .non H', rt := Q } (start N vs) H) : FnOk P w K mg base (CXO P w) (k + 1) f fd ps sp := by
  obtain ⟨oc, od, kV, doc, pm, an, cdv, ct, osl, rfl, lk, hcd⟩ := F.ex
  exact fn_of lk hcd S len fun A outer s H vs Q E hr hsp => hbody cdv A outer s H vs Q E hr hsp

/-! ### raise C(..) -/
/- an own class of exceptions, straight or not under ValueError, without an __init__ -/
structure ExC (K : PySem.W.Frag) (C : Addr) : Prop where
  ex : PySem.W.excIn K C [.type "ValueError", .type "Exception", .type "BaseException", .type "object"] "ValueError.__new__" = true

theorem exc_obj {K : PySem.W.Frag} {h : Heap} {C : Addr} {bmB : List Value} {nid : String} (Y : K.In h) (z : PySem.W.excIn K C bmB nid = true) :
    ∃ bm Nn nm qn bs hd sn sub ab col dd k0 k1 k2 k3 k5 mN, h.get? C = some (excClassObj nm qn C Nn bs bm hd sn sub ab col dd k0 k1 k2 k3 k5 nid) ∧ h.Ns Nn mN ∧ mN "__init__" = none ∧ OwnTail h bmB bm := by
  unfold PySem.W.excIn at z
  split at z
  · next d1 c1 s1 hlk =>
    split at z
    · next C1 b1 j0 j1 j2 j3 n1 j5 em es =>
      simp only [Bool.and_eq_true, beq_iff_eq, Bool.not_eq_true'] at z
      obtain ⟨⟨⟨⟨⟨z1, z2⟩, z3⟩, z4⟩, z5⟩, z6⟩ := z
      subst z1 z2
      obtain ⟨a1, a2, a3, a4, a5, a6, a7, a8, a9, a10, a11⟩ := c1
      dsimp only at em z3 z5 z6
      subst em z3
      obtain ⟨l1⟩ := s1
      have es' : l1 = [j0, j1, j2, j3, some (.builtin n1), j5] := es
      subst es'
      exact ⟨b1, a4, a1, a5, a2, a6, a7, a8, a9, a10, d1, j0, j1, j2, j3, j5, _, Y _ _ hlk, .of_isNs (PySem.W.isNs_of_in Y z5), PySem.W.nsMap_none_of_in Y z5 z6, PySem.W.tail_of_in Y z4⟩
    · exact absurd z (by decide)
  · exact absurd z (by decide)

section
variable {X : Cx} {E : XK} {x : Str} {C : Addr} {e : Expr} {es : List Expr} {t : TA} {np cpos pos : Pos}
def tRaise (E : XK) (C : Addr) (t : TA) : TS := fun _ σ H => t σ H fun vs H1 => vs.length ≤ sizeLine ∧ E (.ref C) none H1
theorem ps_raise (R : Raises X E) (c : ExC X.K C) (hc : X.calm = true) (hg : Gl X x) (hm : X.mg x = some (.ref C)) (ha : PA X (e :: es) t) (hdb : (x == ("__debug__" : Str)) = false := by decide)
    (he : starEach (e :: es) X.env = (false, eval e X.env) :: starEach es X.env := by rfl) (hpl : (backTo cpos (starEach es X.env)).any (·.1) = false := by rfl) :
    PS X (.Raise (some (.Call (.Name x np) (e :: es) [] cpos)) none pos) (tRaise E C t) := by
  intro pins s σ H D I h
  obtain ⟨bm, Nn, nm, qn, bs, hd, sn, sub, ab, col, dd, k0, k1, k2, k3, k5, mN, hC, hN, hni, TL⟩ := exc_obj I.ok.mod.kin c.ex
  refine wpAny_Raise_call_subT (C := C) (nm := nm) (q := qn) (N := Nn) (bs := bs) (bm := bm) (hdct := hd) (sn := sn) (sub := sub) (ab := ab) (col := col) (dd := dd) (k0 := k0) (k1 := k1) (k2 := k2) (k3 := k3) (k5 := k5)
    PySem.F.excBase_ValueError (mN := mN) (TL.hasType PySem.F.excBase_ValueError.hasBase) (I.ok.hd hc) ?_ hni (ld_glob I hg hm ⟨rfl, ?_⟩ hdb)
  · rw [he]
    show (false || (backTo cpos (starEach es X.env)).any (·.1)) = false
    rw [hpl]; rfl
  · have q := ha cpos pins s σ H _ I h
    rw [he] at q ⊢
    refine Calls.evalArgs_plain (thn q fun us s2 hs => ?_)
    obtain ⟨vs, H2, I2, r, hl, hE⟩ := hs
    exact ⟨rfl, by rw [← r.length]; exact hl, I2.bk _ _ hC, hN.keeps I2.bk, TL.keeps I2.bk, fun h' a hx => R pins σ H2 s2 a _ us h' I2 hx hE⟩
end

/-! ### try: .. except C as n: .. -/
/- the state moved on while an exception landed: what is tracked, what stood at the entry and what is pinned is kept, all else up to slots -/
theorem Inv.moved {X : Cx} {pins : List (Addr × Obj)} {σ : St} {H : Hp} {s : Shared} {h' : Heap} (I : Inv X pins σ H s)
    (keep : ∀ b o, s.heap.get? b = some o → ((∃ u, X.s₀.heap.get? b = some u ∧ b ∉ X.ex) ∨ (∃ u, H b = some u) ∨ ∃ p ∈ X.pn ++ pins, p.1 = b) → b ∉ frs X.stack → h'.get? b = some o) (up : s.heap.UpToSlots h') : Inv X pins σ H { s with heap := h' } := by
  have neL : ∀ b o, X.s₀.heap.get? b = some o → b ≠ X.env.locals := fun b o e => Nat.ne_of_lt (Nat.lt_of_lt_of_le (Heap.lt_size e) I.ok.above)
  have nst : ∀ b, b ≠ X.env.locals → b ∉ X.fs → b ∉ frs X.stack := fun b h1 h2 z => (List.mem_cons.mp (I.stkSub b z)).elim h1 h2
  have fsd : ∀ b ∈ X.fs, ∀ o, X.s₀.heap.get? b = some o → ∀ vs, o.data ≠ .fields vs := fun b hb o e => by
    obtain ⟨_, o', e', d⟩ := I.ok.funs.mem hb
    rw [e] at e'; cases e'
    exact d
  have cellK : ∀ c v, s.heap.IsCell c v → h'.IsCell c v := fun c v ⟨o, ho, hd⟩ => by
    obtain ⟨sl, q⟩ := up c o ho fun vs z => by rw [hd] at z; cases z
    exact ⟨_, q, hd⟩
  refine ⟨I.ok, I.os, I.bare, ⟨fun b o e n hb hx => ?_, fun b o e n hb hx => ?_, I.base.free, fun b o e hx => ?_, I.base.tups, I.base.frzs, I.base.tbls⟩, ?_, fun y c e => ?_, I.free, I.freeC, fun p hp => ?_, fun b u q => ?_, I.len⟩
  · exact keep b o (I.base.keep b o e n hb hx) (.inl ⟨o, e, hx⟩) (nst b (neL b o e) hb)
  · obtain ⟨sl, e1⟩ := I.base.slot b o e n hb hx
    obtain ⟨sl2, e2⟩ := up b _ e1 (fsd b hb o e)
    exact ⟨sl2, e2⟩
  · obtain ⟨o', e1⟩ := I.base.there b o e hx
    by_cases hb : b ∈ X.fs
    · obtain ⟨sl, e2⟩ := I.base.slot b o e (I.ok.frf b hb) hb hx
      obtain ⟨sl2, e3⟩ := up b _ e2 (fsd b hb o e)
      exact ⟨_, e3⟩
    · exact ⟨o', keep b o' e1 (.inl ⟨o, e, hx⟩) (nst b (neL b o e) hb)⟩
  · obtain ⟨m, hn, hl⟩ := I.loc
    refine ⟨m, up.ns hn, fun i y v e1 e2 e3 => ?_⟩
    obtain ⟨u, r, l⟩ := hl i y v e1 e2 e3
    refine ⟨u, r, ?_⟩
    rcases l with l | ⟨k, c, e, z⟩
    · exact .inl l
    · exact .inr ⟨k, c, e, cellK c _ z⟩
  · obtain ⟨v, z⟩ := I.cell y c e
    exact ⟨v, cellK c v z⟩
  · obtain ⟨e, n, ne, nf, d⟩ := I.pin p hp
    exact ⟨keep p.1 p.2 e (.inr (.inr ⟨p, hp, rfl⟩)) (nst p.1 ne nf), n, ne, nf, d⟩
  · refine (I.hok b u q).stay (fun c v hc e => ?_) (fun _ z => z) fun _ _ z => z
    have tc : ∃ u', H c = some u' := by
      rcases hc with rfl | hc
      · exact ⟨u, q⟩
      · exact ⟨_, hc⟩
    obtain ⟨u', q'⟩ := tc
    refine keep c v e (.inr (.inl ⟨u', q'⟩)) fun z => ?_
    rw [I.stkFree c z] at q'; cases q'

/- an object of the state that nobody tracks is tracked from here on -/
theorem Inv.track {X : Cx} {pins : List (Addr × Obj)} {σ : St} {H : Hp} {s : Shared} {a : Addr} {ob : Obj} {vs : Array Value} {o : HO} (I : Inv X pins σ H s) (ha : H a = none) (hob : s.heap.get? a = some ob) (hd : ob.data = .fields vs)
    (h0 : X.s₀.heap.get? a = none) (hp : ∀ p ∈ X.pn ++ pins, p.1 ≠ a) (new : ObjOk X.prog X.w (upd H a o) s.heap a o) : Inv X pins σ (upd H a o) s := by
  have nt : ∀ b u, H b = some u → b ≠ a := fun b u q => ne_of_none q ha
  refine ⟨I.ok, I.os, I.bare, ⟨I.base.keep, I.base.slot, fun b u e n hx => ?_, I.base.there, fun b xs q => ?_, fun b u xs q => ?_, fun b ps q => ?_⟩, I.loc, I.cell, ?_, fun y c e => ?_, fun p q => ?_, fun b u q => ?_, I.len⟩
  · have ne : b ≠ a := fun z => by rw [z, h0] at e; cases e
    rw [upd_ne ne]; exact I.base.free b u e n hx
  · have z := I.base.tups b xs q
    rw [upd_ne (nt _ _ z)]; exact z
  · have z := I.base.frzs b u xs q
    rw [upd_ne (nt _ _ z)]; exact z
  · obtain ⟨m, z⟩ := I.base.tbls b ps q
    exact ⟨m, by rw [upd_ne (nt _ _ z)]; exact z⟩
  · have ne : X.env.locals ≠ a := fun z => by
      obtain ⟨m, ⟨oL, es, ep, e1, e2, _⟩, _⟩ := I.loc
      rw [z, hob] at e1; cases e1
      rw [hd] at e2; cases e2
    rw [upd_ne ne]; exact I.free
  · have ne : c ≠ a := fun z => by
      obtain ⟨v, oc, e1, e2⟩ := I.cell y c e
      rw [z, hob] at e1; cases e1
      rw [hd] at e2; cases e2
    rw [upd_ne ne]; exact I.freeC y c e
  · obtain ⟨e, n, r⟩ := I.pin p q
    exact ⟨e, by rw [upd_ne (hp p q)]; exact n, r⟩
  · by_cases hb : b = a
    · subst hb; rw [upd_same] at q; cases q; exact new
    · rw [upd_ne hb] at q
      exact (I.hok b u q).stay (fun c v _ z => z) (fun c z => by rw [upd_ne (nt _ _ z)]; exact z) fun c xs z => by rw [upd_ne (nt _ _ z)]; exact z

/- the exception at a, caught: an object of class C -/
def exO (a : Addr) (C : Value) : HO := .ext fun h => ∃ ob vs, h.get? a = some ob ∧ ob.cls = C ∧ ob.data = .fields vs

def Landed (X : Cx) (pins : List (Addr × Obj)) (Kx : Value → Hp → Prop) (e : Value) (s' : Shared) : Prop :=
  ∃ (a : Addr) (C : Value) (σ : St) (H : Hp) (g : Heap), e = .ref a ∧ Inv X pins σ H s' ∧ Fly X.stack g H a C s'.heap ∧ (∀ p ∈ X.pn ++ pins, ∃ u, g.get? p.1 = some u) ∧
    (∀ b u, X.s₀.heap.get? b = some u → b ∉ X.ex → ∃ u', g.get? b = some u') ∧ Kx C H
/- the context of a try's body -/
abbrev tryCx (X : Cx) (pins : List (Addr × Obj)) (Kx : Value → Hp → Prop) : Cx := { X with pn := X.pn ++ pins, xe := Landed X pins Kx }
/- the context of an except suite, the exception at a in hand -/
abbrev suiteCx (X : Cx) (a : Addr) : Cx := { X with A := X.A.mark (some (.ref a)), calm := false, xe := fun _ _ => False }
section
variable {X : Cx} {pins pins' : List (Addr × Obj)} {σ : St} {H : Hp} {s : Shared} {Kx : Value → Hp → Prop} {a : Addr}
theorem Inv.toTry (I : Inv X pins σ H s) : Inv (tryCx X pins Kx) [] σ H s :=
  ⟨⟨I.ok.mod, I.ok.kind, I.ok.glob, I.ok.blt, I.ok.above, I.ok.inj, I.ok.has, I.ok.cab, I.ok.hd, I.ok.frames, I.ok.stk, I.ok.exf, I.ok.bs, I.ok.bsz, I.ok.noex, I.ok.exfs, I.ok.funs, I.ok.frf⟩,
    I.os, I.bare, I.base, I.loc, I.cell, I.free, I.freeC, fun p hp => I.pin p (by simpa using hp), I.hok, I.len⟩
theorem Inv.ofTry (I : Inv (tryCx X pins Kx) pins' σ H s) : Inv X pins σ H s :=
  ⟨⟨I.ok.mod, I.ok.kind, I.ok.glob, I.ok.blt, I.ok.above, I.ok.inj, I.ok.has, I.ok.cab, I.ok.hd, I.ok.frames, I.ok.stk, I.ok.exf, I.ok.bs, I.ok.bsz, I.ok.noex, I.ok.exfs, I.ok.funs, I.ok.frf⟩,
    I.os, I.bare, I.base, I.loc, I.cell, I.free, I.freeC, fun p hp => I.pin p (List.mem_append_left _ hp), I.hok, I.len⟩
theorem Inv.toSuite (I : Inv X pins σ H s) : Inv (suiteCx X a) pins σ H s :=
  ⟨⟨I.ok.mod, I.ok.kind, I.ok.glob, I.ok.blt, I.ok.above, I.ok.inj, I.ok.has, I.ok.cab, (fun z => nomatch z), I.ok.frames, I.ok.stk, I.ok.exf, I.ok.bs, I.ok.bsz, I.ok.noex, I.ok.exfs, I.ok.funs, I.ok.frf⟩,
    I.os, I.bare, I.base, I.loc, I.cell, I.free, I.freeC, I.pin, I.hok, I.len⟩
theorem Inv.ofSuite (hd : X.calm = true → X.A.handled = none) (I : Inv (suiteCx X a) pins σ H s) : Inv X pins σ H s :=
  ⟨⟨I.ok.mod, I.ok.kind, I.ok.glob, I.ok.blt, I.ok.above, I.ok.inj, I.ok.has, I.ok.cab, hd, I.ok.frames, I.ok.stk, I.ok.exf, I.ok.bs, I.ok.bsz, I.ok.noex, I.ok.exfs, I.ok.funs, I.ok.frf⟩,
    I.os, I.bare, I.base, I.loc, I.cell, I.free, I.freeC, I.pin, I.hok, I.len⟩
theorem passes_try : Passes (CXO X.prog X.w) (tryCx X pins Kx) (fun C _ H => Kx C H) := by
  intro p2 σ1 H1 s1 e s' I hc
  obtain ⟨a, C, H', rfl, os, bare, un, hok, fly, hE⟩ := hc
  have I0 : Inv X pins σ1 H1 s1 := I.ofTry
  have I' : Inv X pins σ1 H' s' := I0.call' os un hok bare fun b z => nomatch z
  exact ⟨a, C, σ1, H', s1.heap, rfl, I', fly, fun p hp => ⟨p.2, (I0.pin p hp).1⟩, fun b u q hx => I0.base.there b u q hx, hE⟩

/- the frame's own map has changed -/
theorem Inv.frame {σ' : St} {h' : Heap} {m' : Str → Option Value} {t' : Nat} (I : Inv X pins σ H s) (hn : h'.Ns X.env.locals m') (hs : Heap.SameBut X.env.locals s.heap h')
    (hl : ∀ (i : Nat) (x : Str) (v : V), X.N[i]? = some x → σ'[i]? = some (some v) → Vis X.env.scope x → ∃ u, RelV v u ∧ Look X.env h' m' x u) (hlen : σ'.length = σ.length) : Inv X pins σ' H { s with heap := h', toks := t' } := by
  have neL : ∀ b o, X.s₀.heap.get? b = some o → b ≠ X.env.locals := fun b o e => Nat.ne_of_lt (Nat.lt_of_lt_of_le (Heap.lt_size e) I.ok.above)
  refine ⟨I.ok, I.os, I.bare, ⟨fun b o e n hb hx => (hs.2 b (neL b o e)).trans (I.base.keep b o e n hb hx), fun b o e n hb hx => ?_, I.base.free, fun b o e hx => ?_, I.base.tups, I.base.frzs, I.base.tbls⟩, ⟨m', hn, hl⟩, fun y c e => ?_, I.free, I.freeC, fun p hp => ?_, fun b u q => ?_, hlen.trans I.len⟩
  · obtain ⟨sl, e1⟩ := I.base.slot b o e n hb hx
    exact ⟨sl, (hs.2 b (neL b o e)).trans e1⟩
  · obtain ⟨o', e1⟩ := I.base.there b o e hx
    exact ⟨o', (hs.2 b (neL b o e)).trans e1⟩
  · obtain ⟨v, z⟩ := I.cell y c e
    exact ⟨v, z.sameBut hs (I.cne y c e)⟩
  · obtain ⟨e, n, ne, nf, d⟩ := I.pin p hp
    exact ⟨(hs.2 p.1 ne).trans e, n, ne, nf, d⟩
  · refine (I.hok b u q).stay (fun c v hc e => (hs.2 c ?_).trans e) (fun _ z => z) fun _ _ z => z
    intro z
    have fr := I.free
    rcases hc with rfl | hc
    · rw [z, fr] at q; cases q
    · rw [z, fr] at hc; cases hc
/- the name of an except clause goes -/
theorem unset_ok {M : Model} {A : Around} {E : Value → Shared → Prop} {i : Nat} {n : Str} {pos : Pos} {Q : Unit → Shared → Prop} (I : Inv X pins σ H s) (hi : X.N[i]? = some n) (hN : X.N.Nodup) (hk : X.env.scope.names.lookup n = some .local)
    (h : ∀ s', Inv X pins (σ.set i none) H s' → Q () s') : wpAny M A (do bindName X.env n .none; unbindBehindTheSuite X.env n pos) Q E s := by
  obtain ⟨m, hn, hl⟩ := id I.loc
  refine wpAny_nameGoes_keeps (m := m) hk hn (by rw [I.ok.kind]; rfl) fun h' v hn' hs => h _ (I.frame hn' hs (fun j y v' e1 e2 e3 => ?_) (by simp))
  have hij : j ≠ i := fun z => by
    rw [z] at e2
    have hiσ : i < σ.length := by rw [I.len]; exact (List.getElem?_eq_some_iff.mp hi).1
    rw [List.getElem?_set_self hiσ] at e2
    cases e2
  rw [List.getElem?_set_ne (Ne.symm hij)] at e2
  obtain ⟨u, r, q⟩ := hl j y v' e1 e2 e3
  refine ⟨u, r, ?_⟩
  rcases q with ⟨k, e⟩ | ⟨k, c, e, z⟩
  · have ne : y ≠ n := fun z => hij (nodup_ix hN e1 (z ▸ hi))
    exact .inl ⟨k, by simp [ne, e]⟩
  · exact .inr ⟨k, c, e, z.sameBut hs (I.cne y c e)⟩
end

section
variable {X : Cx} {body suite : List Stmt} {b₀ : Stmt} {n x : Str} {i : Nat} {R : Addr} {np hpos pos : Pos} {tb : (Value → Hp → Prop) → TS} {th : TS}
/- try: body except R as n (slot i): suite. Behind an exception nothing is known of the names -/
def tTry (K : PySem.W.Frag) (R : Addr) (i N : Nat) (tb : (Value → Hp → Prop) → TS) (th : TS) : TS := fun D σ H =>
  tb (fun C H' => PySem.W.exmOne K C (.ref R) = some true ∧ ∀ a, H' a = none →
    th { nx := fun σ' H2 => D.nx (σ'.set i none) H2, rt := D.rt, bk := fun σ' H2 => D.bk (σ'.set i none) H2, ct := fun σ' H2 => D.ct (σ'.set i none) H2 } ((List.replicate N none).set i (some (.ref a))) (upd H' a (exO a C))) D σ H
theorem ps_try (hst : X.stack = X.env :: X.outer ∧ X.env.frame = some X.env.locals) (hex : X.ex = []) (hN : X.N.Nodup) (hi : X.N[i]? = some n) (hk : X.env.scope.names.lookup n = some .local) (hg : Gl X x) (hm : X.mg x = some (.ref R))
    (hb : ∀ pins Kx, PSs (tryCx X pins Kx) body (tb Kx)) (hs : ∀ a, PSs (suiteCx X a) (b₀ :: suite) th) (hdb : (x == ("__debug__" : Str)) = false := by decide) :
    PS X (.Try body [.ExceptHandler (some (.Name x np)) (some n) (b₀ :: suite) hpos] [] [] pos) (tTry X.K R i X.N.length tb th) := by
  intro pins s σ H D I h
  refine wpAny_Try_except (wpAny_mono (hb pins _ [] s σ H D I.toTry h) (fun f s1 q => ?_) fun e s1 q => ?_)
  · cases f with
    | next => obtain ⟨σ', H', I', q⟩ := q; exact wpAny_execs_nil ⟨σ', H', I'.ofTry, q⟩
    | brk => obtain ⟨σ', H', I', q⟩ := q; exact ⟨σ', H', I'.ofTry, q⟩
    | cont => obtain ⟨σ', H', I', q⟩ := q; exact ⟨σ', H', I'.ofTry, q⟩
    | ret u => obtain ⟨v, σ', H', I', r, q⟩ := q; exact ⟨v, σ', H', I'.ofTry, r, q⟩
  · obtain ⟨a, C, σ1, H1, g, rfl, I1, ⟨B, t, fl, ha, inB⟩, hpn, hg0, hm1, hk1⟩ := q
    obtain ⟨es1, es2⟩ := hst
    have mv : ∀ h', Heap.FlyingW B X.stack a C (.ref t) h' → s1.heap.UpToSlots h' → Inv X pins σ1 H1 { s1 with heap := h' } := fun h' fl' up => I1.moved (fun b o e hb hn => fl'.1 b o (inB b o e (by
      rcases hb with ⟨u, q, hx⟩ | ⟨u, q⟩ | ⟨p, hp, rfl⟩
      · exact .inl (hg0 b u q hx)
      · exact .inr ⟨u, q⟩
      · exact .inl (hpn p hp)) hn)) up
    have frA : X.A.frames = some (X.env :: X.outer) := by rw [← es1]; exact I.ok.frames
    rw [es1] at fl
    refine wpAny_looks_onW frA es2 fl fun h4 hl4 up4 => ?_
    refine wpAny_landsW hl4 fun h5 fl5 up5 => ?_
    have I5 := mv h5 (by rw [es1]; exact fl5) (up4.trans up5)
    obtain ⟨ob5, hob5, hc5⟩ := fl5.there
    have LT : PySem.W.Looks (model X.prog X.w) h5 (typeOf (.ref a)) C := hc5 ▸ (PySem.W.Looks.ld hob5).andThen .now
    refine wpAny_handleBy_cons (codeAny_handlers_test (ld_glob (X := suiteCx X a) I5.toSuite hg hm ?_ hdb)) (by intro z; cases z)
    refine (PySem.W.exm_one (K := X.K) (I5.kIn : X.K.In h5) LT hm1) _ _ _ _ (fun _ _ z => z) ?_
    refine codeAny_handlers_suite_as ?_
    refine lands_againW fl5 fun h6 fl6 up6 => ?_
    have I6 := mv h6 (by rw [es1]; exact fl6) ((up4.trans up5).trans up6)
    obtain ⟨ob6, vs6, hob6, hc6, hd6, _⟩ := fl6.first
    have nfr : ∀ o, s1.heap.get? a = some o → a ∉ frs X.stack := fun o e z => by
      obtain ⟨ob, vs, q1, _, q2, _⟩ := fl.first
      exact I1.frd a z ob q1 vs q2
    have notin : ∀ u, g.get? a = some u → False := fun u q => by
      obtain ⟨ob, vs, q1, _, q2, _⟩ := fl.first
      have z := inB a ob q1 (.inl ⟨u, q⟩) (nfr ob q1)
      rw [fl.2.1] at z; cases z
    have h0 : X.s₀.heap.get? a = none := by
      cases q : X.s₀.heap.get? a with
      | none => rfl
      | some u =>
        obtain ⟨u', z⟩ := hg0 a u q (by rw [hex]; exact fun z => nomatch z)
        exact (notin u' z).elim
    have hp : ∀ p ∈ X.pn ++ pins, p.1 ≠ a := fun p hp z => by
      obtain ⟨u, q⟩ := hpn p hp
      rw [z] at q
      exact notin u q
    have I7 : Inv X pins σ1 (upd H1 a (exO a C)) { s1 with heap := h6 } := I6.track ha hob6 hd6 h0 hp
      ⟨⟨ob6, vs6, hob6, hc6, hd6⟩, ⟨ob6, hob6⟩, fun ha hb ⟨o, v, z1, z2⟩ k => ⟨o, v, k o z1, z2⟩⟩
    have I8 : Inv X pins (List.replicate X.N.length none) (upd H1 a (exO a C)) { s1 with heap := h6 } := I7.weak (by rw [List.length_replicate, I7.len]) fun j v q => by
      rw [List.getElem?_replicate] at q
      split at q <;> cases q
    refine store_ok (X := suiteCx X a) I8.toSuite hN hi (.inl hk) (v := .ref a) rfl (fun s9 I9 => ?_) (.inr hk)
    refine wpAny_mono (hs a pins s9 _ _ _ I9 (hk1 a ha)) (fun f s10 q => ?_) fun _ _ z => z.elim
    have out : ∀ {σ' : St} {H' : Hp}, Inv (suiteCx X a) pins σ' H' s10 → Inv X pins σ' H' s10 := fun J => J.ofSuite I.ok.hd
    cases f with
    | next => obtain ⟨σ', H', J, q⟩ := q; exact unset_ok (out J) hi hN hk fun s11 J2 => ⟨_, H', J2, q⟩
    | brk => obtain ⟨σ', H', J, q⟩ := q; exact unset_ok (out J) hi hN hk fun s11 J2 => ⟨_, H', J2, q⟩
    | cont => obtain ⟨σ', H', J, q⟩ := q; exact unset_ok (out J) hi hN hk fun s11 J2 => ⟨_, H', J2, q⟩
    | ret u => obtain ⟨v, σ', H', J, r, q⟩ := q; exact unset_ok (out J) hi hN hk fun s11 J2 => ⟨v, _, H', J2, r, q⟩
end
end L2

set_option Elab.async false
set_option linter.all false
set_option maxRecDepth 100000
set_option maxHeartbeats 4000000
namespace L2
open PySem PySem.Spec PyProof.Rows

/-! TEXTS, lists of flat values, isinstance over the layer -/
section
variable {X : Cx}
theorem call_int_str : CallR X (.type "int") (fun xs H Q => ∃ z n, xs = [.str z] ∧ PySem.intText? z = some n ∧ z.length ≤ 640 ∧ Q (.int n) H) := by
  intro pins s σ H xs us Q I r h
  obtain ⟨z, n, rfl, hn, hz, q⟩ := h
  obtain ⟨u, rfl, t, rfl⟩ := vals1 r
  exact PySem.W.KIN.call_text hn hz ⟨.int n, H, I.tok _, ⟨_, rfl⟩, q⟩
theorem mt_zfill : MtR X "str.zfill" (fun x xs H Q => ∃ z i, x = .str z ∧ xs = [.int i] ∧ PadOk i = true ∧ Q (.str (Txt.zfill z i)) H) := by
  intro pins s σ H x xs v us Q I rx r h
  obtain ⟨z, i, rfl, rfl, hp, q⟩ := h
  obtain ⟨t, rfl⟩ := rx
  obtain ⟨u, rfl, t', rfl⟩ := vals1 r
  exact SC.zfill hp fun t2 k => ⟨.str _, H, I.tok _, ⟨_, rfl⟩, q⟩
def rSlS : V → Option Int → Option Int → Hp → VK → Prop := fun x lo hi H Q => ∃ z, x = .str z ∧ z.length ≤ sizeLine ∧ Q (.str (Txt.slice z lo hi)) H
theorem part_of {v : Value} {o : Option Int} (p : IsPart v o) : ∃ l : Option (Int × Tok), v = partValue l ∧ l.map (·.1) = o := by
  cases p with
  | none => exact ⟨none, rfl, rfl⟩
  | int i t => exact ⟨some (i, t), rfl, rfl⟩
theorem sl_str : SlR X rSlS := by
  intro pins s σ H x v vl vu lo hi sl Q I rx hs pl pu h
  obtain ⟨z, rfl, hz, q⟩ := h
  obtain ⟨t, rfl⟩ := rx
  obtain ⟨l, rfl, rfl⟩ := part_of pl
  obtain ⟨u, rfl, rfl⟩ := part_of pu
  refine ⟨"str", _, PySem.F.slot_str_getitem.lookup, typeIs_str s z t, wpAny_getItem_str_slice (l := l) (u := u) (st := none) hs rfl ?_⟩
  exact post_val_or_str ⟨Nat.le_trans (Txt.slice_le z _ _) hz, fun t' k => ⟨.str _, H, I.tok _, ⟨_, rfl⟩, q⟩⟩

/-! ### lists of flat values -/
theorem countP_eqU {x : V} : ∀ {xs : List V} {us : List Value}, Vals xs us → xs.all flatV = true → us.countP (eqU x) = xs.countP fun y => eqV y x
  | _, _, .nil, _ => rfl
  | y :: xs, u :: us, .cons r t, f => by
    rw [List.all_cons, Bool.and_eq_true] at f
    rw [List.countP_cons, List.countP_cons, eqU_of r f.1, countP_eqU t f.2]
theorem mt_count : MtR X "list.count" (fun x vs H Q => ∃ l xs y, x = .ref l ∧ vs = [y] ∧ H l = some (.lst xs) ∧ flatV y = true ∧ xs.all flatV = true ∧ Q (.int (xs.countP fun z => eqV z y : Nat)) H) := by
  intro pins s σ H x vs v us Q I rx rv h
  obtain ⟨l, xs, y, rfl, rfl, hH, fy, fx, q⟩ := h
  cases rx
  obtain ⟨u, rfl, ru⟩ := rv.one
  obtain ⟨z, its, n, r, hl, e⟩ := I.lstM hH
  refine call_meets PySem.F.slot_list_count ⟨_, e, rfl⟩ PySem.F.entry_list_count (PySem.F.args_list_count_2 _ _) (SeqAt.list_countAt l its.toArray n none #[] u (eqU y)) ⟨e, fun w hw => mem_eqAt ru fy r fx w (by simpa using hw), ?_⟩
  rw [← countP_eqU r fx] at q
  exact ⟨.int _, H, I.tok _, ⟨_, rfl⟩, q⟩
theorem mt_index : MtR X "list.index" (fun x vs H Q => ∃ l xs y j z, x = .ref l ∧ vs = [y] ∧ H l = some (.lst xs) ∧ flatV y = true ∧ xs.all flatV = true ∧ xs[j]? = some z ∧ eqV z y = true ∧ (∀ m z', m < j → xs[m]? = some z' → eqV z' y = false) ∧ Q (.int (j : Nat)) H) := by
  intro pins s σ H x vs v us Q I rx rv h
  obtain ⟨l, xs, y, j, z, rfl, rfl, hH, fy, fx, hj, hz, hno, q⟩ := h
  cases rx
  obtain ⟨u, rfl, ru⟩ := rv.one
  obtain ⟨zz, its, n, r, hl, e⟩ := I.lstM hH
  have hjl : j < its.length := by rw [← hl]; exact (List.getElem?_eq_some_iff.mp hj).1
  have ans : ∀ (m : Nat) (hm : m < its.length) (w : V), xs[m]? = some w → eqU y its[m] = eqV w y := fun m hm w hw => by
    obtain ⟨uu, e1, e2⟩ := r.get hw
    have e3 : its[m] = uu := by rw [List.getElem?_eq_getElem hm] at e1; exact Option.some.inj e1
    rw [e3]
    exact eqU_of e2 (List.all_eq_true.mp fx w (List.mem_of_getElem? hw))
  have hline := line63
  have hsm : (j : Int) < 2 ^ 63 - 1 := by
    have : j < sizeLine := by omega
    have h2 : sizeLine = 16777216 := sizeLine_eq
    omega
  refine call_meets PySem.F.slot_list_index ⟨_, e, rfl⟩ PySem.F.entry_list_index (PySem.F.args_list_index_2 _ _) (SeqAt.list_indexAt l its.toArray n none #[] u (eqU y) j (by simpa using hjl) hsm ?_ ?_) ⟨e, fun w hw => mem_eqAt ru fy r fx w (by simpa using hw), ?_⟩
  · show eqU y its.toArray[j] = true
    rw [List.getElem_toArray, ans j hjl z hj]; exact hz
  · intro m hm hmj
    have hm' : m < its.length := by simpa using hm
    have hx : m < xs.length := by omega
    show eqU y its.toArray[m] = false
    rw [List.getElem_toArray, ans m hm' xs[m] (List.getElem?_eq_getElem hx)]
    exact hno m _ hmj (List.getElem?_eq_getElem hx)
  · exact ⟨.int _, H, I.tok _, ⟨_, rfl⟩, q⟩

/- == of two lists of flat values -/
def eqL : List V → List V → Bool
  | [], [] => true
  | x :: xs, y :: ys => eqV x y && eqL xs ys
  | _, _ => false
theorem eqL_len : ∀ {xs ys : List V}, xs.length ≠ ys.length → eqL xs ys = false
  | [], [], h => absurd rfl h
  | [], _ :: _, _ => rfl
  | _ :: _, [], _ => rfl
  | x :: xs, y :: ys, h => by
    have : eqL xs ys = false := eqL_len fun z => h (by rw [List.length_cons, List.length_cons, z])
    show (eqV x y && eqL xs ys) = false
    rw [this, Bool.and_false]
theorem eqL_all : ∀ (xs ys : List V), xs.length = ys.length → (List.range xs.length).all (fun j => eqV (xs.getD j .non) (ys.getD j .non)) = eqL xs ys
  | [], [], _ => rfl
  | [], _ :: _, h => nomatch h
  | _ :: _, [], h => nomatch h
  | x :: xs, y :: ys, h => by
    have ih := eqL_all xs ys (by simpa using h)
    rw [List.length_cons, List.range_succ_eq_map, List.all_cons, List.all_map]
    show (eqV x y && _) = (eqV x y && eqL xs ys)
    rw [← ih]
    rfl
def rEqL (K : PySem.W.Frag) (neg : Bool) : R2 := fun x y H Q => ∃ l b xs ys, x = .ref l ∧ y = .ref b ∧ SqL K H l xs ∧ SqL K H b ys ∧ xs.all flatV = true ∧ ys.all flatV = true ∧ Q (.bl (if neg then !eqL xs ys else eqL xs ys)) H
theorem flat_at {xs ys : List V} {its its2 : List Value} {A : Around} {s : Shared} (r : Vals xs its) (r2 : Vals ys its2) (fx : xs.all flatV = true) (fy : ys.all flatV = true) :
    ∀ (j : Nat) (h1 : j < its.toArray.size) (h2 : j < its2.toArray.size), SeqAt.EqAt A s its.toArray[j] its2.toArray[j] (eqV (xs.getD j .non) (ys.getD j .non)) := by
  intro j h1 h2
  have l1 := r.length
  have l2 := r2.length
  have hx : j < xs.length := by rw [l1]; simpa using h1
  have hy : j < ys.length := by rw [l2]; simpa using h2
  obtain ⟨u, e1, q1⟩ := r.get (List.getElem?_eq_getElem hx)
  obtain ⟨w, e2, q2⟩ := r2.get (List.getElem?_eq_getElem hy)
  have e3 : its.toArray[j] = u := by
    rw [List.getElem_toArray]; rw [List.getElem?_eq_getElem (by simpa using h1)] at e1; exact Option.some.inj e1
  have e4 : its2.toArray[j] = w := by
    rw [List.getElem_toArray]; rw [List.getElem?_eq_getElem (by simpa using h2)] at e2; exact Option.some.inj e2
  have g1 : xs.getD j .non = xs[j] := by rw [List.getD_eq_getElem?_getD, List.getElem?_eq_getElem hx]; rfl
  have g2 : ys.getD j .non = ys[j] := by rw [List.getD_eq_getElem?_getD, List.getElem?_eq_getElem hy]; rfl
  rw [e3, e4, g1, g2]
  exact eqAt_V q1 q2 (List.all_eq_true.mp fx _ (List.getElem_mem hx)) (List.all_eq_true.mp fy _ (List.getElem_mem hy))
theorem op_eq_lst (hu : X.A.units < cLine) : OpR X (compareOp .Eq) (rEqL X.K false) := by
  intro pins s σ H x y v u Q I rx ry h
  obtain ⟨l, b, xs, ys, rfl, rfl, hx, hy, fx, fy, q⟩ := h
  cases rx; cases ry
  obtain ⟨its, r, pl, _⟩ := I.list hx
  obtain ⟨its2, r2, pl2, _⟩ := I.list hy
  have l1 := r.length
  have l2 := r2.length
  by_cases hl : xs.length = ys.length
  · refine SeqAt.eq_listAt pl.isList pl2.isList (by simp; omega) hu (flat_at r r2 fx fy) ?_
    rw [List.size_toArray, ← l1, eqL_all xs ys hl]
    exact ⟨.bl _, H, I, rfl, q⟩
  · refine SeqAt.eq_list_lengthsAt pl.isList pl2.isList (by simp; omega) hu ?_
    rw [show (if false = true then !eqL xs ys else eqL xs ys) = false from eqL_len hl] at q
    exact ⟨.bl _, H, I, rfl, q⟩
theorem op_ne_lst (hu : X.A.units < cLine) : OpR X (compareOp .NotEq) (rEqL X.K true) := by
  intro pins s σ H x y v u Q I rx ry h
  obtain ⟨l, b, xs, ys, rfl, rfl, hx, hy, fx, fy, q⟩ := h
  cases rx; cases ry
  obtain ⟨its, r, pl, _⟩ := I.list hx
  obtain ⟨its2, r2, pl2, _⟩ := I.list hy
  have l1 := r.length
  have l2 := r2.length
  by_cases hl : xs.length = ys.length
  · refine SeqAt.RcNeAt.lists pl.isList pl2.isList (by simp; omega) hu (flat_at r r2 fx fy) _ _ _ _ ?_
    rw [List.size_toArray, ← l1, eqL_all xs ys hl]
    exact ⟨.bl _, H, I, rfl, q⟩
  · refine SeqAt.RcNeAt.lists_lengths pl.isList pl2.isList (by simp; omega) hu _ _ _ _ ?_
    rw [show (if true = true then !eqL xs ys else eqL xs ys) = true by rw [eqL_len hl]; rfl] at q
    exact ⟨.bl _, H, I, rfl, q⟩

/- all(xs) of bools -/
theorem all_range : ∀ bs : List Bool, (List.range bs.length).all (fun i => bs.getD i false) = bs.all id
  | [] => rfl
  | b :: bs => by
    rw [List.length_cons, List.range_succ_eq_map, List.all_cons, List.all_map, List.all_cons]
    show (b && _) = (b && _)
    rw [← all_range bs]
    rfl
theorem call_all_list (hc : X.calm = true) : CallR X (.builtin "all") (fun xs H Q => ∃ (p : Addr) (bs : List Bool), xs = [.ref p] ∧ SqL X.K H p (bs.map V.bl) ∧ Q (.bl (bs.all id)) H) := by
  intro pins s σ H xs us Q I r h
  obtain ⟨p, bs, rfl, hq, q⟩ := h
  obtain ⟨u, rfl, rx⟩ := vals1 r
  cases rx
  obtain ⟨its, r', pl, hz⟩ := I.list hq
  have hlen := r'.length
  obtain ⟨o, n, ho, _⟩ := id pl
  have hne : p ≠ s.heap.objs.size := Nat.ne_of_lt (Heap.lt_size ho)
  have tr : TruthOf X.prog X.w X.A.in1 (fun i v => its.toArray[i]? = some v) (fun i => bs.getD i false) := by
    intro i v s2 Q2 E2 hv hq2
    have hv' : its[i]? = some v := by simpa using hv
    have hi : i < bs.length := by
      have := (List.getElem?_eq_some_iff.mp hv').1
      rw [← hlen, List.length_map] at this; exact this
    obtain ⟨w, e1, e2⟩ := r'.get (i := i) (x := .bl bs[i]) (by rw [List.getElem?_map, List.getElem?_eq_getElem hi]; rfl)
    rw [hv'] at e1
    cases e1
    cases e2
    refine wpAny_truthy_bool ?_
    have e3 : bs.getD i false = bs[i] := by rw [List.getD_eq_getElem?_getD, List.getElem?_eq_getElem hi]; rfl
    have q3 : Q2 (bs.getD i false) s2 := hq2
    rw [e3] at q3
    exact q3
  refine call_all_walk (wpAny_pyIter_list pl.isList ?_)
  refine ⟨s.heap.objs.size, [s.heap.objs.size, p], [s.heap.objs.size], its.toArray.size, _, _, _, rfl, Walks.list (A := X.A.in1) (I.ok.hd hc) _ _ hne its.toArray, ⟨⟨_, Heap.get?_push_size _ rfl, rfl, rfl⟩, ?_⟩, tr, fun h' tk hk => ?_⟩
  · obtain ⟨o2, e2, r2⟩ := pl.isList
    exact ⟨o2, Heap.get?_push_of_some _ e2, r2⟩
  · have hk2 : ∀ b o, s.heap.get? b = some o → h'.get? b = some o := fun b o e => hk b o (fun z => by
      have e1 := Heap.lt_size e
      rw [List.mem_singleton.mp z] at e1
      exact absurd e1 (Nat.lt_irrefl _)) (Heap.get?_push_of_some _ e)
    have e : (List.range its.toArray.size).all (fun i => bs.getD i false) = bs.all id := by
      rw [List.size_toArray, ← hlen, List.length_map]; exact all_range bs
    rw [e]
    exact ⟨.bl _, H, I.kept (t' := tk) hk2, rfl, q⟩
end

/- a new object laid and tracked, at an address where none was -/
theorem Inv.laidN {X : Cx} {pins : List (Addr × Obj)} {σ : St} {H : Hp} {s : Shared} {h' : Heap} {a : Addr} {o : HO} {t' : Nat} (I : Inv X pins σ H s) (k : ∀ b u, s.heap.get? b = some u → h'.get? b = some u) (hn : s.heap.get? a = none)
    (new : ObjOk X.prog X.w (upd H a o) h' a o) : Inv X pins σ (upd H a o) { s with heap := h', toks := t' } := by
  have ha : H a = none := I.hasNo hn
  have nt : ∀ b u, H b = some u → b ≠ a := fun b u q => ne_of_none q ha
  refine I.un ⟨fun b u q _ _ _ => k b u q, fun b u q _ _ _ => ⟨u.slots, k b u q⟩, fun b u q n _ => ?_, fun b u q _ => ⟨u, k b u q⟩, fun b xs q => ?_, fun b u xs q => ?_, fun b ps q => ⟨#[], ?_⟩⟩ fun b u q => ?_
  · have ne : b ≠ a := fun z => by rw [z, hn] at q; cases q
    rw [upd_ne ne]; exact n
  · rw [upd_ne (nt _ _ q)]; exact q
  · rw [upd_ne (nt _ _ q)]; exact q
  · rw [upd_ne (nt _ _ q), q]; simp
  · by_cases hb : b = a
    · subst hb; rw [upd_same] at q; cases q; exact new
    · rw [upd_ne hb] at q
      exact (I.hok b u q).stay (fun c v _ z => k c v z) (fun c z => by rw [upd_ne (nt _ _ z)]; exact z) fun c xs z => by rw [upd_ne (nt _ _ z)]; exact z

/-! ### [x in z for x in text] -/
/- the sign c stands in the text z -/
def inS (z : Str) (c : Nat) : Bool := !(Builtin.Str.occurrences z ⟨#[c]⟩ 0 z.length 1).isEmpty
theorem vals_signs {g : Nat → Bool} : ∀ (cs : List Nat) (vs rs : List Value), vs.length = cs.length → (∀ (j : Nat) (v : Value), vs[j]? = some v → ∃ c u, cs[j]? = some c ∧ v = .str ⟨#[c]⟩ u) →
    Paired (fun v r => ∀ c u, v = .str ⟨#[c]⟩ u → r = .bool (g c)) vs rs → Vals (cs.map fun c => V.bl (g c)) rs
  | [], [], _, _, _, .nil => .nil
  | [], _ :: _, _, h, _, _ => nomatch h
  | _ :: _, [], _, h, _, _ => nomatch h
  | c :: cs, v :: vs, _, h, hg, .cons r t => by
    obtain ⟨c', u, e1, e2⟩ := hg 0 v rfl
    have e3 : c = c' := by simpa using e1
    subst e3
    exact .cons (r c u e2) (vals_signs cs vs _ (by simpa using h) (fun j w hw => by simpa using hg (j + 1) w (by simpa using hw)) t)
section
variable {X : Cx} {x z : Str} {p1 p2 p3 px pos : Pos} {iter : Expr} {ti : TE} {scope : Scope} {cl : List (Str × Addr)} {zs : Str}
/- z is read inside the block: the text zs -/
def ZRead (X : Cx) (scope : Scope) (cl : List (Str × Addr)) (z : Str) (p2 : Pos) (zs : Str) (σ : St) : Prop :=
  ∀ (pins : List (Addr × Obj)) (H : Hp) (s1 s3 : Shared) (C : Addr) (Q : Value → Shared → Prop) (E : Value → Shared → Prop), Inv X pins σ H s1 → (∀ b o, s1.heap.get? b = some o → s3.heap.get? b = some o) → (∀ t, Q (.str zs t) s3) →
    wpAny (model X.prog X.w) X.A (eval (.Name z p2) (compEnvC scope cl C X.env)) Q E s3
def tCompIn (X : Cx) (scope : Scope) (cl : List (Str × Addr)) (z : Str) (p2 : Pos) (ti : TE) : TE := fun σ H Q => ∃ zs, ZRead X scope cl z p2 zs σ ∧ ti σ H fun v H1 => ∃ y, v = .str y ∧ y.length ≤ sizeLine ∧
  ∀ p, H1 p = none → Q (.ref p) (upd H1 p (.lst (y.cps.toList.map fun c => V.bl (inS zs c))))
theorem pe_compIn (hc : X.calm = true) (hi : PE X iter ti) (hclos : closureFor scope X.env = pure cl) (hcell : ∀ y ∈ scope.names, y.2 ≠ .cell) (hkind : scope.kind = .function)
    (hnames : ∀ y ∈ scope.names, y.2 = .local → scope.names.lookup y.1 = some .local) (hx : scope.names.lookup x = some .local) (hs : ∀ v, foldedSetIterable iter X.env v = pure v := by intro _; rfl) (hd : (x == ("__debug__" : Str)) = false := by decide) :
    PE X (.ListComp (.Compare (.Name x p1) [.In] [.Name z p2] p3) [⟨.Name x px, iter, [], 0⟩] scope pos) (tCompIn X scope cl z p2 ti) := by
  intro pins s σ H Q I h
  obtain ⟨zs, zr, h⟩ := h
  refine wpAny_ListComp_free (cl := cl) (fun _ => true) (fun v r => ∀ c u, v = .str ⟨#[c]⟩ u → r = .bool (inS zs c)) hclos hcell hkind hnames hx (thn (hi pins s σ H _ I h) fun xv s1 ⟨v, H1, I1, r1, y, ev, hy, q⟩ => ?_) hs
  subst ev
  obtain ⟨t, rfl⟩ := r1
  refine wpAny_pyIter_str fun o St W hst => ?_
  have old : ∀ (h' : Heap), (∀ b o', b ∉ [s1.heap.objs.size] → (s1.heap.push o).get? b = some o' → h'.get? b = some o') → ∀ b o', s1.heap.get? b = some o' → h'.get? b = some o' := fun h' hk b o' e =>
    hk b o' (fun z => by
      have e1 := Heap.lt_size e
      rw [List.mem_singleton.mp z] at e1
      exact absurd e1 (Nat.lt_irrefl _)) (Heap.get?_push_of_some _ e)
  refine ⟨s1.heap.objs.size, [s1.heap.objs.size], [s1.heap.objs.size], y.cps.size, SignAt y, St, rfl, W X.A (I1.ok.hd hc), hy, hst, fun b hb => ?_, ⟨?_, ?_⟩, ?_⟩
  · rw [List.mem_singleton.mp hb]
    show s1.heap.objs.size < (s1.heap.push o).objs.size
    rw [Heap.size_push]; exact Nat.lt_succ_self _
  · intro C i v s3 m3 E' _ hP hn hm hk _
    exact wpAny_pure ⟨rfl, s3.heap, s3.toks, rfl, fun _ _ e => e⟩
  · intro C i v s3 m3 E' _ hP _ hn hm hk _
    obtain ⟨c, u, _, rfl⟩ := hP
    refine wpAny_Compare1 (wpAny_Name (wpAny_loadName_local (env := compEnvC scope cl C X.env) (m := m3) hkind (lookup_relabel_local hx) hn hm ?_) hd)
    refine zr pins H1 s1 s3 C _ _ I1 (old _ hk) fun t3 => ?_
    refine in_str ⟨fun c' u' e => ?_, s3.heap, s3.toks, rfl, fun _ _ e => e⟩
    injection e with e1 _
    injection e1 with e2
    have e3 : c = c' := by simpa using e2
    subst e3
    rfl
  · intro D h' tk ys vs hnew hl hpl hlen hP hF hk
    have hn1 : s1.heap.get? D = none := by
      cases e : s1.heap.get? D with
      | none => rfl
      | some u =>
        have := Heap.get?_push_of_some o e
        rw [show (s1.heap.push o).get? D = none from hnew] at this
        cases this
    obtain ⟨n, hD⟩ := hpl
    have hfil : vs.filter (fun _ => true) = vs := List.filter_eq_self.mpr fun _ _ => rfl
    rw [hfil] at hF
    have V1 : Vals (y.cps.toList.map fun c => V.bl (inS zs c)) ys.toList := vals_signs y.cps.toList vs ys.toList (by rw [hlen]; simp) (fun j v hv => by
      obtain ⟨c, u, e1, e2⟩ := hP j v hv
      exact ⟨c, u, by simpa using e1, e2⟩) hF
    have new : ObjOk X.prog X.w (upd H1 D (.lst (y.cps.toList.map fun c => V.bl (inS zs c)))) h' D (.lst (y.cps.toList.map fun c => V.bl (inS zs c))) := by
      refine ⟨?_, ys.toList, n, V1, ?_⟩
      · rw [List.length_map]
        have : y.cps.toList.length = y.length := by simp [Str.length]
        omega
      · rw [Array.toArray_toList]; exact hD
    exact ⟨.ref D, _, I1.laidN (t' := tk) (old h' hk) hn1 new, rfl, q D (I1.hasNo hn1)⟩
/- z a module's text -/
theorem zread_glob {σ : St} {t : Tok} (hg : (relabel scope X.env).names.lookup z = some .globalImplicit) (hkind : scope.kind = .function) (hm : X.mg z = some (.str zs t)) (hd : (z == ("__debug__" : Str)) = false := by decide) : ZRead X scope cl z p2 zs σ := by
  intro pins H s1 s3 C Q E I k q
  exact Calls.Name_function_global (env := compEnvC scope cl C X.env) hkind hg (Calls.loadGlobal_global (env := compEnvC scope cl C X.env) (by
    show s3.heap.Ns X.env.globals X.mg
    rw [I.ok.glob]; exact (I.mod.glob.keeps I.bk).keeps k) hm (q t)) hd
/- z a name of the def, in a cell -/
theorem zread_cell {σ : St} {i : Nat} {c : Addr} (hi : X.N[i]? = some z) (hv : σ[i]? = some (some (.str zs))) (hk : X.env.scope.names.lookup z = some .cell) (hc : X.env.cells.lookup z = some c) (hcl : cl.lookup z = some c)
    (hr : (relabel scope X.env).names.lookup z = some .cell) (hkind : scope.kind = .function) (hd : (z == ("__debug__" : Str)) = false := by decide) : ZRead X scope cl z p2 zs σ := by
  intro pins H s1 s3 C Q E I k q
  obtain ⟨m, hn, hl⟩ := I.loc
  obtain ⟨u, ⟨t, rfl⟩, l⟩ := hl i z _ hi hv (.inr (.inl hk))
  rcases l with ⟨kk, _⟩ | ⟨kk, c', hc', o, ho, hod⟩
  · have kk' : X.env.scope.names.lookup z = some .local := kk
    rw [hk] at kk'; cases kk'
  · rw [hc] at hc'; cases hc'
    exact wpAny_Name (wpAny_loadName_cell (env := compEnvC scope cl C X.env) hkind hr hcl ⟨o, k _ _ ho, hod⟩ (q t)) hd
end

/-! ### isinstance -/
section
variable {X : Cx}
theorem call_isi_ty : CallR X (.builtin "isinstance") (fun xs H Q => ∃ x T t b, xs = [x, .ty T] ∧ TyOf X.K H x t ∧ PySem.W.kitOne X.K t (.type T) = some b ∧ Q (.bl b) H) := by
  intro pins s σ H xs us Q I r h
  obtain ⟨x, T, t, b, rfl, ty, e, q⟩ := h
  obtain ⟨u, w', rfl, rx, ry⟩ := vals2 r
  cases (show w' = Value.type T from ry)
  exact isinst_ok I rx ty e fun tk => ⟨.bl b, H, I.tok _, rfl, q⟩
end

/-! ### names of the module, in short -/
section
variable {X : Cx} {x : Str} {pos : Pos}
theorem pe_gref {a : Addr} (hg : Gl X x) (hm : X.mg x = some (.ref a)) (hd : (x == ("__debug__" : Str)) = false := by decide) : PE X (.Name x pos) (tC (.ref a)) := pe_glob hg hm rfl hd
theorem pe_gty {T : String} (hg : Gl X x) (hm : X.mg x = none) (hv : bootBuiltins x = some (.type T)) (hn : x ≠ "__name__" := by decide) (hd : (x == ("__debug__" : Str)) = false := by decide) : PE X (.Name x pos) (tC (.ty T)) := pe_bltn hg hm hv rfl hn hd
end
end L2

set_option Elab.async false
set_option linter.all false
set_option maxRecDepth 100000
set_option maxHeartbeats 4000000
namespace L2
open PySem PySem.Spec PyProof.Rows PySem.W PySem.Calls Builtin Builtin.ObjectAttr Builtin.Getset_descriptor

section
variable {prog : Program} {w : World} {A : Around} {E : Value → Shared → Prop} {s : Shared} {K : PySem.W.Frag} {a C : Addr} {o : Obj} {R : Result → Shared → Prop}
/- what is asked of an own class of exceptions for isinstance -/
structure ExI (K : PySem.W.Frag) (C : Addr) : Prop where
  cl : (PySem.W.clsIn K C).isSome = true
  g1 : PySem.W.findIn K (.ref C) "__getattribute__" = some (some (.builtin "BaseException.__getattribute__"))
  g2 : PySem.W.findIn K (.ref C) "__getattr__" = some none
  g3 : PySem.W.findIn K (.ref C) "__class__" = some (some (.builtin "object.__class__"))
  g4 : PySem.W.mroIn K C (.type "object") = some true
  g5 : PySem.W.mroIn K C (.type "BaseException") = some true
  g6 : PySem.W.specialIn K (.builtin "object.__class__") "__get__" = some (some (.builtin "getset_descriptor.__get__"))
  g7 : PySem.W.takesIn K (.builtin "object.__class__") = some true
theorem exc_get {tp : Value} (Y : K.In s.heap) (c : ExI K C) (hx : s.heap.get? a = some o) (hc : o.cls = .ref C) (h : R (.ok (.ret (.ref C))) s) :
    codeAny (model prog w) A (.call (.builtin "getset_descriptor.__get__") ⟨[.builtin "object.__class__", .ref a, tp], []⟩) R s := by
  obtain ⟨hh, g, dr, t, os⟩ := s
  have L0 : Looks (model prog w) hh (typeOf (.ref a)) (.ref C) := hc ▸ (Looks.ld hx).andThen .now
  have L1 := looks_mroIn (M := model prog w) Y c.g4
  refine codeAny_call_builtin KF.slot_gs.plain KF.entry_gs (KF.slot_gs.check _ _ _ _ _ _ _ _ KF.type_class (KF.args_gs _ _ _) ?_)
  unfold Builtin.«getset_descriptor.__get__» descrGet
  rw [dga_obj]
  refine wpAny_bind (wpAny_pure ?_)
  unfold descrGetter descrCheckInstance descrNameAndClass isInstance
  simp only [KF.owner_class]
  repeat lk
  refine ⟨Code.quiet_builtin _ (by decide +kernel), codeAny_builtin KF.entry_class ?_⟩
  unfold Builtin.«object.__class__» shownTypeOf
  repeat lk
  exact h
theorem exc_entry {tk : Tok} {Q : Fin → Shared → Prop} (Y : K.In s.heap) (c : ExI K C) (hx : s.heap.get? a = some o) (hc : o.cls = .ref C) (h : Q (.done (.ret (.ref C))) s) :
    wpAny (model prog w) A (Builtin.«object.__getattribute__» ⟨[.ref a, .str "__class__" tk], []⟩) Q E s := by
  obtain ⟨hh, g, dr, t, os⟩ := s
  have L0 : Looks (model prog w) hh (typeOf (.ref a)) (.ref C) := hc ▸ (Looks.ld hx).andThen .now
  have L1 := looks_findIn (M := model prog w) Y c.g3
  have L2 := looks_specialIn (M := model prog w) Y c.g6
  have L3 := looks_takesIn (M := model prog w) Y c.g7
  unfold Builtin.«object.__getattribute__»
  repeat lk
  refine wpAny_run (c := .call (.builtin "getset_descriptor.__get__") ⟨[.builtin "object.__class__", .ref a, .ref C], []⟩) (h := none) (exc_get (R := _) Y c hx hc ?_)
  exact wpAny_pure (wpAny_pure h)
theorem exc_check {M : Model} {nameV : Value} {Q : Unit → Shared → Prop} (Y : K.In s.heap) (c : ExI K C) (hx : s.heap.get? a = some o) (hc : o.cls = .ref C) (h : Q () s) :
    wpAny M A (checkBuiltinCall "BaseException.__getattribute__" ⟨[.ref a, nameV], []⟩) Q E s := by
  obtain ⟨hh, g, dr, t, os⟩ := s
  have L0 : Looks M hh (typeOf (.ref a)) (.ref C) := hc ▸ (Looks.ld hx).andThen .now
  have L1 := looks_mroIn (M := M) Y c.g5
  have hk : builtinKind "BaseException.__getattribute__" = some .slot := by decide +kernel
  have hsplit : splitId "BaseException.__getattribute__" = some ("BaseException", "__getattribute__") := by decide +kernel
  have ha := PySem.F.args_bexc_ga (.ref a) nameV
  simp only [checkBuiltinCall, hk, hsplit]
  refine wpAny_bind ?_
  unfold isInstance
  refine wpAny_bind (L0.at ?_)
  refine L1.at ?_
  rw [if_neg (by decide)]
  exact wpAny_of_eq ha h
theorem exc_attr {Q : Option Value → Shared → Prop} (Y : K.In s.heap) (c : ExI K C) (hx : s.heap.get? a = some o) (hc : o.cls = .ref C) (h : Q (some (.ref C)) { s with toks := s.toks + 1 }) :
    wpAny (model prog w) A (getAttr? (.ref a) "__class__") Q E s := by
  obtain ⟨hh, g, dr, t, os⟩ := s
  have L0 : Looks (model prog w) hh (typeOf (.ref a)) (.ref C) := hc ▸ (Looks.ld hx).andThen .now
  have L1 := looks_findIn (M := model prog w) Y c.g1
  have L2 := looks_findIn (M := model prog w) Y c.g2
  have f3 := PySem.F.excAttr_ValueError.ga.bind (.ref a)
  unfold getAttr? getAttrBy? getAttrBy
  refine wpAny_bind (wpAny_mkText (wpAny_bind (wpAny_attempt (wpAny_holding (wpAny_bind (L0.at (wpAny_bind (L1.at ?_))))))))
  dsimp only
  rw [if_neg (show ¬ ((onTheHeap (Value.ref C) && Value.builtin "BaseException.__getattribute__" == Value.builtin "object.__getattribute__") = true) by
    rw [show (Value.builtin "BaseException.__getattribute__" == Value.builtin "object.__getattribute__") = false by decide +kernel, Bool.and_false]; decide)]
  unfold getAttrByItsOwn hookBefore
  rw [if_pos (show onTheHeap (Value.ref C) = true from rfl)]
  refine wpAny_bind (L2.at ?_)
  unfold callGetattribute
  rw [if_neg (by decide)]
  unfold boundAndCalled
  refine wpAny_bind (wpAny_attempt (wpAny_holding (wpAny_bind (wpAny_of_eq f3 ?_))))
  refine wpAny_call (codeAny_call_builtin PySem.F.excAttr_ValueError.ga.plain PySem.F.entry_bexc_ga (exc_check Y c hx hc (exc_entry Y c hx hc ?_)))
  exact wpAny_pure (wpAny_pure h)

theorem kitx_exc (c : ExI K C) : KitX K (.ref a) (.ref C) (fun h => ∃ ob vs, h.get? a = some ob ∧ ob.cls = .ref C ∧ ob.data = .fields vs) where
  ty := fun M h Y ⟨ob, vs, hx, hc, _⟩ => hc ▸ (Looks.ld hx).andThen .now
  it := fun M h Y _ => by
    obtain ⟨cd, hcd⟩ := Option.isSome_iff_exists.mp c.cl
    unfold clsIn at hcd
    split at hcd
    · next ho =>
      intro A' Q' E' s' k q
      unfold isType loadHead
      exact wpAny_bind (wpAny_loadPart (k _ _ (Y _ _ ho)) (wpAny_pure q))
    · cases hcd
  ne := fun h tp dd its n sl Y htp => by
    obtain ⟨cd, hcd⟩ := Option.isSome_iff_exists.mp c.cl
    refine Bool.eq_false_iff.mpr fun q => ?_
    have e : C = tp := Value.ref.inj (beq_iff_eq.mp q)
    subst e
    unfold clsIn at hcd
    split at hcd
    · next ho =>
      have z := (Y _ _ ho).symm.trans htp
      cases z
    · cases hcd
  ca := fun Y ⟨ob, vs, hx, hc, _⟩ k => exc_attr Y c hx hc k
end
/- isinstance of an exception that is in hand -/
theorem call_isi_exc {X : Cx} : CallR X (.builtin "isinstance") (fun xs H Q => ∃ (a C D : Addr) (b : Bool), xs = [.ref a, .ref D] ∧ H a = some (exO a (.ref C)) ∧ ExI X.K C ∧ PySem.W.kitOne X.K (.ref C) (.ref D) = some b ∧ Q (.bl b) H) := by
  intro pins s σ H xs us Q I r h
  obtain ⟨a, C, D, b, rfl, ha, c, e, q⟩ := h
  obtain ⟨u, w', rfl, rx, ry⟩ := vals2 r
  cases (show u = Value.ref a from rx)
  cases (show w' = Value.ref D from ry)
  obtain ⟨p, _⟩ := I.hok a _ ha
  exact kia_one (kitx_exc c) I.kIn p e (fun z => nomatch z) fun tk => ⟨.bl b, H, I.tok _, rfl, q⟩
theorem call_isi_excT {X : Cx} : CallR X (.builtin "isinstance") (fun xs H Q => ∃ (a C : Addr) (T : String) (b : Bool), xs = [.ref a, .ty T] ∧ H a = some (exO a (.ref C)) ∧ ExI X.K C ∧ PySem.W.kitOne X.K (.ref C) (.type T) = some b ∧ Q (.bl b) H) := by
  intro pins s σ H xs us Q I r h
  obtain ⟨a, C, T, b, rfl, ha, c, e, q⟩ := h
  obtain ⟨u, w', rfl, rx, ry⟩ := vals2 r
  cases (show u = Value.ref a from rx)
  cases (show w' = Value.type T from ry)
  obtain ⟨p, _⟩ := I.hok a _ ha
  exact kia_one (kitx_exc c) I.kIn p e (fun z => nomatch z) fun tk => ⟨.bl b, H, I.tok _, rfl, q⟩
end L2

set_option Elab.async false
set_option linter.all false
set_option maxRecDepth 100000
set_option maxHeartbeats 4000000
namespace L2
open PySem PySem.Spec PyProof.Rows

/-! LIST COMPREHENSIONS over the layer: the block is a context of its own -/
theorem thnF {α : Type} {t : Sem α} {Q Q' : α → Shared → Prop} {M : Model} {A : Around} {E : Value → Shared → Prop} {s : Shared} (h : wpAny M A t Q (fun _ _ => False) s) (hQ : ∀ a s, Q a s → Q' a s) : wpAny M A t Q' E s := wpAny_mono h hQ fun _ _ z => z.elim

abbrev testsOf (ifs : List Expr) (env : Env) : Sem Bool := forIn ifs true fun c r => if r = true then do let ok ← isTrue c env (eval c env); pure (ForInStep.yield ok) else pure (ForInStep.yield r)

/- the turns of the block, by a word I and a measure -/
theorem comp_turns {prog : Program} {w : World} {A : Around} {R : Result → Shared → Prop} {s : Shared} {elt tg iter : Expr} {ifs : List Expr} {scope : Scope} {pos : Pos} {it acc : Value} {env : Env} (J : Nat → Shared → Prop)
    (turn : ∀ k s1, J k s1 → wpAny (model prog w) A (pyNext it) (fun r s2 => match r with
      | none => R (.ok .next) s2
      | some v => wpAny (model prog w) A (letOwnedTupleGo tg it v) (fun _ s3 => wpAny (model prog w) A (assign tg env v) (fun _ s4 => wpAny (model prog w) A (testsOf ifs env) (fun ok s5 =>
          if ok = true then wpAny (model prog w) A (eval elt env) (fun x s6 => wpAny (model prog w) A (call (.builtin "list.append") [acc, x]) (fun _ s7 => ∃ m, m < k ∧ J m s7) (fun _ _ => False) s6) (fun _ _ => False) s5
          else ∃ m, m < k ∧ J m s5) (fun _ _ => False) s4) (fun _ _ => False) s3) (fun _ _ => False) s2) (fun _ _ => False) s1)
    (k : Nat) (h : J k s) : codeAny (model prog w) A (.compLoop (.ListComp elt [⟨tg, iter, ifs, 0⟩] scope pos) 0 it acc env) R s := by
  refine codeAny_loop rfl J (fun k s1 hJ => ?_) k h
  refine wpAny_noted ?_
  rw [compTurn_list]
  refine wpAny_bind (wpAny_standAt (wpAny_bind (thnF (turn k s1 hJ) fun r s2 h2 => ?_)))
  cases r with
  | none => exact wpAny_pure h2
  | some v =>
    refine wpAny_bind (thnF h2 fun _ s3 h3 => wpAny_bind (thnF h3 fun _ s4 h4 => wpAny_bind (thnF h4 fun ok s5 h5 => ?_)))
    cases ok with
    | false => exact wpAny_pure ⟨rfl, h5⟩
    | true => exact wpAny_bind (wpAny_bind (thnF h5 fun x s6 h6 => wpAny_bind (thnF h6 fun _ s7 h7 => wpAny_pure (wpAny_pure ⟨rfl, h7⟩))))

/- the block's context: its frame C, its names N, entered at s0 with H0; ex: the iterator's objects -/
abbrev compCx (X : Cx) (N : List Str) (scope : Scope) (cl : List (Str × Addr)) (C : Addr) (s0 : Shared) (H0 : Hp) (ex : List Addr) (pins : List (Addr × Obj)) : Cx :=
  { X with N := N, s₀ := s0, H₀ := H0, env := compEnvC scope cl C X.env, outer := X.stack, stack := X.stack, ex := ex, fn := fun _ => false, pn := X.pn ++ pins, xe := fun _ _ => False }
/- the block's names that are read from around: their slots there -/
def FreeOk (X : Cx) (scope : Scope) (cl : List (Str × Addr)) : List Str → List (Option Nat) → Prop
  | [], [] => True
  | _ :: N, none :: fr => FreeOk X scope cl N fr
  | y :: N, some i :: fr => (X.N[i]? = some y ∧ (X.env.kindOf y = some .cell ∨ X.env.kindOf y = some .free) ∧ ((relabel scope X.env).names.lookup y = some .cell ∨ (relabel scope X.env).names.lookup y = some .free) ∧
      ∃ c, X.env.cells.lookup y = some c ∧ cl.lookup y = some c) ∧ FreeOk X scope cl N fr
  | _, _ => False
def compSt (fr : List (Option Nat)) (σ : St) : St := fr.map fun o => match o with | none => none | some i => (σ[i]?).getD none
theorem FreeOk.len {X : Cx} {scope : Scope} {cl : List (Str × Addr)} : ∀ {N : List Str} {fr : List (Option Nat)}, FreeOk X scope cl N fr → fr.length = N.length
  | [], [], _ => rfl
  | _ :: N, none :: fr, h => by rw [List.length_cons, List.length_cons, FreeOk.len (N := N) h]
  | _ :: N, some i :: fr, h => by rw [List.length_cons, List.length_cons, FreeOk.len (N := N) h.2]
  | [], _ :: _, h => h.elim
  | _ :: _, [], h => h.elim
theorem FreeOk.at {X : Cx} {scope : Scope} {cl : List (Str × Addr)} {σ : St} {v : V} {y : Str} : ∀ {N : List Str} {fr : List (Option Nat)} {j : Nat}, FreeOk X scope cl N fr → N[j]? = some y → (compSt fr σ)[j]? = some (some v) →
    ∃ i : Nat, σ[i]? = some (some v) ∧ X.N[i]? = some y ∧ (X.env.kindOf y = some .cell ∨ X.env.kindOf y = some .free) ∧ ((relabel scope X.env).names.lookup y = some .cell ∨ (relabel scope X.env).names.lookup y = some .free) ∧
      ∃ c, X.env.cells.lookup y = some c ∧ cl.lookup y = some c
  | [], [], j, _, e, _ => by simp at e
  | [], _ :: _, _, h, _, _ => h.elim
  | _ :: _, [], _, h, _, _ => h.elim
  | _ :: N, none :: fr, 0, _, _, q => by cases q
  | _ :: N, none :: fr, j + 1, h, e, q => FreeOk.at (N := N) (fr := fr) (j := j) h e q
  | x :: N, some i :: fr, 0, h, e, q => by
    have e' : x = y := Option.some.inj e
    subst e'
    have q' : some ((σ[i]?).getD none) = some (some v) := q
    refine ⟨i, ?_, h.1⟩
    cases z : σ[i]? with
    | none => rw [z] at q'; cases q'
    | some o => rw [z] at q'; exact congrArg some (Option.some.inj q')
  | _ :: N, some i :: fr, j + 1, h, e, q => FreeOk.at (N := N) (fr := fr) (j := j) h.2 e q
def ClOk (X : Cx) : List (Str × Addr) → Prop
  | [] => True
  | (y, c) :: r => X.env.cells.lookup y = some c ∧ ClOk X r
theorem ClOk.at {X : Cx} {y : Str} {c : Addr} : ∀ {cl : List (Str × Addr)}, ClOk X cl → cl.lookup y = some c → X.env.cells.lookup y = some c
  | [], _, e => by cases e
  | (z, d) :: r, h, e => by
    rw [List.lookup_cons] at e
    cases q : y == z with
    | true =>
      rw [q] at e
      have e1 : y = z := by simpa using q
      have e2 : d = c := Option.some.inj e
      subst e1 e2
      exact h.1
    | false =>
      rw [q] at e
      exact ClOk.at h.2 e
theorem lookup_all {α : Type} {p : Str × α → Bool} {y : Str} {k : α} : ∀ {l : List (Str × α)}, l.all p = true → l.lookup y = some k → p (y, k) = true
  | [], _, e => by cases e
  | (z, d) :: r, h, e => by
    rw [List.all_cons, Bool.and_eq_true] at h
    rw [List.lookup_cons] at e
    cases q : y == z with
    | true =>
      rw [q] at e
      have e1 : y = z := by simpa using q
      have e2 : d = k := Option.some.inj e
      subst e1 e2
      exact h.1
    | false =>
      rw [q] at e
      exact lookup_all h.2 e

section
variable {X : Cx} {pins : List (Addr × Obj)} {σ : St} {H : Hp} {s : Shared} {N : List Str} {fr : List (Option Nat)} {scope : Scope} {cl : List (Str × Addr)}
/- the block is entered -/
theorem Inv.block {ex : List Addr} {h' : Heap} {C : Addr} {m : Str → Option Value} {tk : Nat} (I : Inv X pins σ H s) (hkind : scope.kind = .function) (hfr : FreeOk X scope cl N fr) (hcl : ClOk X cl)
    (hhas : ((relabel scope X.env).names.all fun p => !(p.2 == .cell || p.2 == .free) || (cl.lookup p.1).isSome) = true) (hex : ∀ b ∈ ex, FpOk X pins H b) (hlt : ∀ b ∈ ex, b < s.heap.objs.size)
    (old : ∀ b o, s.heap.get? b = some o → h'.get? b = some o) (hC : s.heap.objs.size ≤ C) (hns : h'.Ns C m) : Inv (compCx X N scope cl C s H ex pins) [] (compSt fr σ) H { s with heap := h', toks := tk } := by
  have nst : ∀ b, b ≠ X.env.locals → b ∉ X.fs → b ∉ frs X.stack := fun b h1 h2 z => (List.mem_cons.mp (I.stkSub b z)).elim h1 h2
  have ltC : ∀ b o, s.heap.get? b = some o → b ≠ C := fun b o e => Nat.ne_of_lt (Nat.lt_of_lt_of_le (Heap.lt_size e) hC)
  refine ⟨⟨I.ok.mod, hkind, I.ok.glob, I.ok.blt, hC, fun x y c e1 e2 => I.ok.inj x y c (hcl.at e1) (hcl.at e2), fun x hx => ?_, (fun _ _ z => nomatch z), I.ok.hd, I.ok.frames, .inl rfl, fun b hb => ⟨Nat.ne_of_lt (Nat.lt_of_lt_of_le (hlt b hb) hC), fun x c e => (hex b hb).2.2.2.2.1 x c (hcl.at e)⟩,
      I.bs, Nat.le_trans I.ok.bsz I.sz, fun b o e hb => ?_, fun b hb => nst b (hex b hb).2.1 (hex b hb).2.2.1, I.stack, I.stkFree⟩, rfl, I.bare, Un.kept old, ⟨m, hns, fun i x v e1 e2 e3 => ?_⟩, fun x c e => ?_, ?_, fun x c e => I.freeC x c (hcl.at e), fun p hp => ?_, I.hok.kept old, ?_⟩
  · have q : ∃ k, (relabel scope X.env).names.lookup x = some k ∧ (k = .cell ∨ k = .free) := hx.elim (fun z => ⟨_, z, .inl rfl⟩) fun z => ⟨_, z, .inr rfl⟩
    obtain ⟨k, q1, q2⟩ := q
    have z := lookup_all hhas q1
    have z2 : (cl.lookup x).isSome = true := by
      rcases q2 with rfl | rfl
      · simpa using z
      · simpa using z
    exact Option.isSome_iff_exists.mp z2
  · rcases (hex b hb).2.2.2.1 with z | z
    · exact I.ok.noex b o e z
    · exact absurd (Nat.lt_of_lt_of_le (Nat.lt_of_lt_of_le (Heap.lt_size e) I.ok.bsz) z) (Nat.lt_irrefl _)
  · obtain ⟨j, q1, q2, q3, q4, c, q5, q6⟩ := hfr.at e1 e2
    obtain ⟨m0, hn0, hl0⟩ := I.loc
    obtain ⟨u, r, l⟩ := hl0 j x v q2 q1 (q3.elim (fun z => .inr (.inl z)) fun z => .inr (.inr z))
    refine ⟨u, r, .inr ⟨q4, c, q6, ?_⟩⟩
    rcases l with ⟨k, _⟩ | ⟨_, c', e', o, ho, hd⟩
    · rcases q3 with z | z
      · rw [z] at k; cases k
      · rw [z] at k; cases k
    · rw [q5] at e'; cases e'
      exact ⟨o, old _ _ ho, hd⟩
  · obtain ⟨v, o, ho, hd⟩ := I.cell x c (hcl.at e)
    exact ⟨v, o, old _ _ ho, hd⟩
  · exact I.hok.fresh hC
  · have hp' : p ∈ X.pn ++ pins := by simpa using hp
    obtain ⟨e, n, ne, nf, d⟩ := I.pin p hp'
    exact ⟨old _ _ e, n, ltC _ _ e, nst _ ne nf, d⟩
  · show (compSt fr σ).length = N.length
    unfold compSt
    rw [List.length_map, hfr.len]

/- a list of the state that nobody tracks is tracked from here on -/
theorem Inv.trackS {a : Addr} {ob : Obj} {vs : Array Value} {n : Nat} {o : HO} (I : Inv X pins σ H s) (ha : H a = none) (hob : s.heap.get? a = some ob) (hd : ob.data = .seq vs n)
    (h0 : X.s₀.heap.get? a = none) (hp : ∀ p ∈ X.pn ++ pins, p.1 ≠ a) (new : ObjOk X.prog X.w (upd H a o) s.heap a o) : Inv X pins σ (upd H a o) s := by
  have nt : ∀ b u, H b = some u → b ≠ a := fun b u q => ne_of_none q ha
  refine ⟨I.ok, I.os, I.bare, ⟨I.base.keep, I.base.slot, fun b u e n hx => ?_, I.base.there, fun b xs q => ?_, fun b u xs q => ?_, fun b ps q => ?_⟩, I.loc, I.cell, ?_, fun y c e => ?_, fun p q => ?_, fun b u q => ?_, I.len⟩
  · have ne : b ≠ a := fun z => by rw [z, h0] at e; cases e
    rw [upd_ne ne]; exact I.base.free b u e n hx
  · have z := I.base.tups b xs q
    rw [upd_ne (nt _ _ z)]; exact z
  · have z := I.base.frzs b u xs q
    rw [upd_ne (nt _ _ z)]; exact z
  · obtain ⟨m, z⟩ := I.base.tbls b ps q
    exact ⟨m, by rw [upd_ne (nt _ _ z)]; exact z⟩
  · have ne : X.env.locals ≠ a := fun z => by
      obtain ⟨m, ⟨oL, es, ep, e1, e2, _⟩, _⟩ := I.loc
      rw [z, hob] at e1; cases e1
      rw [hd] at e2; cases e2
    rw [upd_ne ne]; exact I.free
  · have ne : c ≠ a := fun z => by
      obtain ⟨v, oc, e1, e2⟩ := I.cell y c e
      rw [z, hob] at e1; cases e1
      rw [hd] at e2; cases e2
    rw [upd_ne ne]; exact I.freeC y c e
  · obtain ⟨e, n, r⟩ := I.pin p q
    exact ⟨e, by rw [upd_ne (hp p q)]; exact n, r⟩
  · by_cases hb : b = a
    · subst hb; rw [upd_same] at q; cases q; exact new
    · rw [upd_ne hb] at q
      exact (I.hok b u q).stay (fun c v _ z => z) (fun c z => by rw [upd_ne (nt _ _ z)]; exact z) fun c xs z => by rw [upd_ne (nt _ _ z)]; exact z
end

/-! ### the tests of a block -/
def PTs (X : Cx) (ifs : List Expr) (t : TT) : Prop :=
  ∀ (pins : List (Addr × Obj)) (s : Shared) (σ : St) (H : Hp) (Q : Bool → Hp → Prop), Inv X pins σ H s → t σ H Q → wpAny (model X.prog X.w) X.A (testsOf ifs X.env) (TP X pins σ Q) X.xe s
def tTrue : TT := fun _ H Q => Q true H
theorem pts_nil {X : Cx} : PTs X [] tTrue := fun _ _ _ H _ I h => wpAny_tests_nil ⟨H, I, h⟩
/- the list acc is laid and handed on -/
def endC (Q : VK) (acc : List V) (H : Hp) : Prop := ∀ p, H p = none → Q (.ref p) (upd H p (.lst acc))
def tComp (fr : List (Option Nat)) (wi : TI) (g : TG) (tt : TT) (te : TE) : TE := fun σ H Q => wi σ H fun J H1 => ∃ W : Nat → Nat → List V → St → Hp → Prop, (∃ m, W 0 m [] (compSt fr σ) H1) ∧ ∀ i m acc σ1 H, W i m acc σ1 H →
  (J.stop i H ∧ endC Q acc H) ∨
  (J.go i H ∧ acc.length < sizeLine ∧ ∃ N : List V → St → Hp → Prop, (∀ acc' σ' H', N acc' σ' H' → ∃ m', m' < m ∧ W (i + 1) m' acc' σ' H') ∧ ∀ x H', J.yld i H x H' → g x σ1 H' fun σ2 H2 => tt σ2 H2 fun b H3 => if b = true then te σ2 H3 fun y H4 => N (acc ++ [y]) σ2 H4 else N acc σ2 H3)
theorem pe_comp {X : Cx} {elt tg iter : Expr} {ifs : List Expr} {scope : Scope} {cl : List (Str × Addr)} {pos : Pos} {N : List Str} {fr : List (Option Nat)} {wi : TI} {g : TG} {tt : TT} {te : TE}
    (hc : X.calm = true) (hi : PI X tg iter wi) (hclos : closureFor scope X.env = pure cl) (hcell : ∀ y ∈ scope.names, y.2 ≠ .cell) (hkind : scope.kind = .function)
    (hnames : ∀ y ∈ scope.names, y.2 = .local → scope.names.lookup y.1 = some .local) (hfr : FreeOk X scope cl N fr) (hcl : ClOk X cl)
    (hhas : ((relabel scope X.env).names.all fun p => !(p.2 == .cell || p.2 == .free) || (cl.lookup p.1).isSome) = true)
    (hg : ∀ C s0 H0 ex pins, PG (compCx X N scope cl C s0 H0 ex pins) tg g) (ht : ∀ C s0 H0 ex pins, PTs (compCx X N scope cl C s0 H0 ex pins) ifs tt) (he : ∀ C s0 H0 ex pins, PE (compCx X N scope cl C s0 H0 ex pins) elt te)
    (hs : ∀ v, foldedSetIterable iter X.env v = pure v := by intro _; rfl) : PE X (.ListComp elt [⟨tg, iter, ifs, 0⟩] scope pos) (tComp fr wi g tt te) := by
  intro pins s σ H Q I h
  rw [eval_ListComp]
  refine wpAny_comprehension_free (use := none) rfl hs hclos hkind hnames (thn (hi pins s σ H _ I h) fun xv s1 h1 => thn h1 fun itv s2 h2 => ?_)
  obtain ⟨it, fp, tn, J, H2, e, I2, T, st2, f2, W, ⟨m0, w0⟩, turn⟩ := h2
  subst e
  refine wpAny_newObj_type (wpAny_newFunctionEnv hcell (fun y hy => nomatch hy) (fun h4 hns hsb => ?_) hkind)
  dsimp only at hns hsb ⊢
  generalize hD : s2.heap.objs.size = D at *
  generalize hG : s2.heap.push { cls := .type "list", dict := none, data := .seq ([] : List Value).toArray } = G at hns hsb ⊢
  have hC : G.objs.size = D + 1 := by rw [← hG, Heap.size_push, hD]
  generalize hCC : G.objs.size = C at hns hsb hC ⊢
  subst hC
  have old : ∀ b o, s2.heap.get? b = some o → h4.get? b = some o := fun b o e => by
    have lt := Heap.lt_size e
    rw [hD] at lt
    exact hsb.extBut b o (Nat.ne_of_lt (Nat.lt_succ_of_lt lt)) (Heap.get?_push_of_some _ (hG ▸ Heap.get?_push_of_some _ e))
  have hDl : h4.get? D = some { cls := .type "list", dict := none, data := .seq ([] : List Value).toArray 0 } :=
    hsb.extBut _ _ (Nat.ne_of_lt (Nat.lt_succ_self _)) (Heap.get?_push_of_some _ (hG ▸ hD ▸ Heap.get?_push_size _ rfl))
  have flt : ∀ b ∈ fp, b < D := fun b hb => by
    obtain ⟨o, e, _⟩ := T.obj 0 _ st2 b hb
    have lt := Heap.lt_size e
    rw [hD] at lt
    exact lt
  have nst : ∀ b, b ≠ X.env.locals → b ∉ X.fs → b ∉ frs X.stack := fun b h1 h2 z => (List.mem_cons.mp (I2.stkSub b z)).elim h1 h2
  have pl : ∀ p ∈ X.pn ++ pins, p.1 < D := fun p hp => by
    have lt := Heap.lt_size (I2.pin p hp).1
    rw [hD] at lt
    exact lt
  have I4 : ∀ tk, Inv (compCx X N scope cl (D + 1) s2 H2 fp pins) [] (compSt fr σ) H2 { s2 with heap := h4, toks := tk } := fun tk =>
    I2.block hkind hfr hcl hhas f2 (fun b hb => by rw [hD]; exact flt b hb) old (by rw [hD]; exact Nat.le_succ _) hns
  have stat : ∀ {H' : Hp} {o : Obj}, (∀ b ∈ fp, H' b = none) → ∀ b ∈ fp, FpOk (compCx X N scope cl (D + 1) s2 H2 fp pins) [(D, o)] H' b := fun {H' o} hn b hb => by
    obtain ⟨_, k1, k2, _, k4, k5⟩ := f2 b hb
    refine ⟨hn b hb, Nat.ne_of_lt (Nat.lt_succ_of_lt (flt b hb)), nst b k1 k2, .inl hb, fun x c e => k4 x c (hcl.at e), fun p hp => ?_⟩
    rcases List.mem_append.mp hp with hp | hp
    · exact k5 p hp
    · rw [List.mem_singleton.mp hp]
      exact (Nat.ne_of_lt (flt b hb)).symm
  have dnf : D ∉ frs X.stack := fun z => by
    obtain ⟨_, o, e, _⟩ := I2.stack.mem z
    have lt := Heap.lt_size e
    rw [hD] at lt
    exact absurd lt (Nat.lt_irrefl _)
  have loop : ∀ tk, codeAny (model X.prog X.w) X.A (.compLoop (.ListComp elt [⟨tg, iter, ifs, 0⟩] scope pos) 0 (.ref it) (.ref D) (compEnvC scope cl (D + 1) X.env)) (compPost (model X.prog X.w) X.A X.xe none (EP X pins σ Q) (.ref D) (D + 1)) { s2 with heap := h4, toks := tk } := fun tk => by
    refine comp_turns (fun k s' => ∃ i σ' H' its nD acc, Inv (compCx X N scope cl (D + 1) s2 H2 fp pins) [] σ' H' s' ∧
        s'.heap.get? D = some { cls := .type "list", dict := none, data := .seq (List.toArray its) nD } ∧ H' D = none ∧ Vals acc its ∧ acc.length ≤ sizeLine ∧ tn i s'.heap ∧ (∀ b ∈ fp, H' b = none) ∧ W i k acc σ' H') ?_ m0
      ⟨0, _, H2, [], 0, [], I4 tk, hDl, I2.hok.fresh (by rw [hD]; exact Nat.le_refl _), .nil, Nat.zero_le _, T.keep 0 _ _ st2 fun b _ o e => old b o e, fun b hb => (f2 b hb).1, w0⟩
    rintro k s5 ⟨i, σ5, H5, its, nD, acc, I5, hL, hn5, va, hacc, st5, fr5, w5⟩
    have dcell : ∀ x c, cl.lookup x = some c → c ≠ D := fun x c e z => by
      obtain ⟨v, q⟩ := I2.cell x c (hcl.at e)
      have lt := q.lt
      rw [hD, z] at lt
      exact absurd lt (Nat.lt_irrefl _)
    have I5' : Inv (compCx X N scope cl (D + 1) s2 H2 fp pins) [(D, { cls := .type "list", dict := none, data := .seq (List.toArray its) nD })] σ5 H5 s5 := I5.pins_of fun p hp => by
      rw [List.mem_singleton.mp hp]
      exact ⟨hL, hn5, Nat.ne_of_lt (Nat.lt_succ_self _), dnf, fun v z => by cases z⟩
    rcases turn i k acc σ5 H5 w5 with ⟨stop, qn⟩ | ⟨go, hlt, N1, hN1, step⟩
    · refine thnF (T.done (compCx X N scope cl (D + 1) s2 H2 fp pins) rfl rfl rfl hc i _ s5 _ H5 _ I5' (stat fr5) st5 stop) fun r s6 ⟨hr, I6⟩ => ?_
      subst hr
      obtain ⟨m6, hn6, _⟩ := I6.loc
      refine ⟨m6, hn6, fun h7 hs7 => ?_⟩
      have hL7 : h7.get? D = some { cls := .type "list", dict := none, data := .seq (List.toArray its) nD } := hs7.extBut _ _ (Nat.ne_of_lt (Nat.lt_succ_self _)) (I6.pin (D, _) (List.mem_append_right _ (List.mem_singleton.mpr rfl))).1
      have neC : ∀ b o, s2.heap.get? b = some o → b ≠ D + 1 := fun b o e => by
        have lt := Heap.lt_size e
        rw [hD] at lt
        exact Nat.ne_of_lt (Nat.lt_succ_of_lt lt)
      have nt : ∀ b u, H5 b = some u → b ≠ D + 1 := fun b u q z => by
        have f := I6.free
        rw [z] at q
        rw [show H5 (D + 1) = none from f] at q
        cases q
      have un : Un (frs X.stack) fp H2 H5 s2.heap h7 := ⟨fun b o e n hb hx => hs7.extBut b o (neC b o e) (I6.base.keep b o e n hb hx),
        fun b o e n hb hx => let ⟨sl, q⟩ := I6.base.slot b o e n hb hx; ⟨sl, hs7.extBut b _ (neC b o e) q⟩, I6.base.free, fun b o e hx => let ⟨o', q⟩ := I6.base.there b o e hx; ⟨o', hs7.extBut b _ (neC b o e) q⟩, I6.base.tups, I6.base.frzs, I6.base.tbls⟩
      have hok : HOk X.prog X.w H5 h7 := fun b u q => (I6.hok b u q).stay (fun c v hc e => hs7.extBut c v (by
        rcases hc with rfl | hc
        · exact nt _ _ q
        · exact nt _ _ hc) e) (fun _ z => z) fun _ _ z => z
      have I8 : Inv X pins σ H5 { s6 with heap := h7 } := I2.call' (s' := { s6 with heap := h7 }) I6.os un hok I6.bare fun b hb => let ⟨_, k1, _, k3, k4, k5⟩ := f2 b hb; ⟨k3, k1, k4, k5⟩
      have I9 : Inv X pins σ (upd H5 D (.lst acc)) { s6 with heap := h7 } := I8.trackS hn5 hL7 rfl (by
          cases z : X.s₀.heap.get? D with
          | none => rfl
          | some o =>
            have lt := Nat.lt_of_lt_of_le (Heap.lt_size z) I2.sz
            rw [hD] at lt
            exact absurd lt (Nat.lt_irrefl _)) (fun p hp => Nat.ne_of_lt (pl p hp)) ⟨hacc, its, nD, va, hL7⟩
      exact ⟨.ref D, _, I9, rfl, qn D hn5⟩
    · refine thnF (T.item (compCx X N scope cl (D + 1) s2 H2 fp pins) rfl rfl rfl hc i _ s5 _ H5 _ I5' (stat fr5) st5 go) fun r s6 ⟨u, hr, h6⟩ => ?_
      subst hr
      refine thnF h6 fun _ s7 ⟨x, H7, I7, r7, y7, st7, fr7⟩ => ?_
      have I7' : Inv (compCx X N scope cl (D + 1) s2 H2 fp pins) ([(D, { cls := .type "list", dict := none, data := .seq (List.toArray its) nD })] ++ pinsAt fp s7.heap) σ5 H7 s7 := I7.pinned (stat fr7) (T.obj _ _ st7)
      refine thnF (hg _ _ _ _ _ _ s7 _ H7 x u _ I7' r7 (step x H7 y7)) fun _ s8 ⟨σ8, H8, I8, q8⟩ => ?_
      refine thnF (ht _ _ _ _ _ _ s8 σ8 H8 _ I8 q8) fun ok s9 ⟨H9, I9, q9⟩ => ?_
      have wk : ∀ {σ' : St} {H' : Hp} {s' : Shared}, Inv (compCx X N scope cl (D + 1) s2 H2 fp pins) ([(D, { cls := .type "list", dict := none, data := .seq (List.toArray its) nD })] ++ pinsAt fp s7.heap) σ' H' s' →
          tn (i + 1) s'.heap ∧ (∀ b ∈ fp, H' b = none) ∧ s'.heap.get? D = some { cls := .type "list", dict := none, data := .seq (List.toArray its) nD } ∧ H' D = none := fun {σ' H' s'} J' => by
        have pin : ∀ p ∈ ([(D, { cls := .type "list", dict := none, data := .seq (List.toArray its) nD })] : List (Addr × Obj)) ++ pinsAt fp s7.heap, s'.heap.get? p.1 = some p.2 ∧ H' p.1 = none := fun p hp => let ⟨e, n, _⟩ := J'.pin p (List.mem_append_right _ hp); ⟨e, n⟩
        refine ⟨T.keep _ _ _ st7 fun b hb o e => (pin (b, o) (List.mem_append_right _ (mem_pinsAt hb e))).1, fun b hb => ?_, (pin (D, _) (List.mem_append_left _ (List.mem_singleton.mpr rfl))).1, (pin (D, _) (List.mem_append_left _ (List.mem_singleton.mpr rfl))).2⟩
        obtain ⟨o, e, _⟩ := T.obj _ _ st7 b hb
        exact (pin (b, o) (List.mem_append_right _ (mem_pinsAt hb e))).2
      cases ok with
      | false =>
        obtain ⟨m', hm, w9⟩ := hN1 _ _ _ q9
        obtain ⟨k1, k2, k3, k4⟩ := wk I9
        exact ⟨m', hm, i + 1, σ8, H9, its, nD, acc, I9.pins_of (fun _ z => nomatch z), k3, k4, va, hacc, k1, k2, w9⟩
      | true =>
        refine thnF (he _ _ _ _ _ _ s9 σ8 H9 _ I9 q9) fun y s10 ⟨v, H10, I10, r10, q10⟩ => ?_
        obtain ⟨m', hm, w10⟩ := hN1 _ _ _ q10
        obtain ⟨k1, k2, k3, k4⟩ := wk I10
        refine call_meets F.slot_list_append ⟨_, k3, rfl⟩ F.entry_list_append (F.args_list_append_2 _ _) (PySem.list_append D its.toArray nD y (by rw [List.size_toArray, ← va.length]; omega)) ⟨k3, ?_⟩
        have up : ∀ b o, b ≠ D → s10.heap.get? b = some o → (s10.heap.update D (Obj.mapSeq fun z => z.push y)).get? b = some o := fun b o hb e => (Heap.get?_update_other s10.heap _ (Ne.symm hb)).trans e
        have I11 : Inv (compCx X N scope cl (D + 1) s2 H2 fp pins) [] σ8 H10 { s10 with heap := s10.heap.update D (Obj.mapSeq fun z => z.push y), toks := s10.toks } :=
          (I10.pins_of (pins' := []) fun _ z => nomatch z).turned up k4 (Nat.ne_of_lt (Nat.lt_succ_self _)) (.inr (by rw [hD]; exact Nat.le_refl _)) dcell fun p hp => by
            have hp' : p ∈ X.pn ++ pins := by simpa using hp
            exact Nat.ne_of_lt (pl p hp')
        have q := PySem.IsL.update k3 (fun z => z.push y)
        rw [show (List.toArray its).push y = (its ++ [y]).toArray by simp] at q
        refine ⟨m', hm, i + 1, σ8, H10, its ++ [y], _, acc ++ [v], I11, q, k4, va.append (.cons r10 .nil), ?_, T.keep _ _ _ k1 fun b hb o e => up b o (Nat.ne_of_lt (flt b hb)) e, k2, w10⟩
        rw [List.length_append, List.length_singleton]
        omega
  exact codeAny_compStart_list (loop _) (T.self _ 0 _ _ _ (T.keep 0 _ _ st2 fun b _ o e => old b o e) (loop _))
/- over a list that the block leaves as it is -/
/- over a tuple that the block leaves as it is -/
theorem comp_tup {K : PySem.W.Frag} {a : Addr} {xs : List V} {g : TG} {tt : TT} {te : TE} {σ0 : St} {H : Hp} {Q : VK} (Pv : Nat → List V → St → Hp → Prop) (h0 : Pv 0 [] σ0 H) (hz : xs.length ≤ sizeLine) (hl : ∀ i acc σ H, i ≤ xs.length → Pv i acc σ H → SqT K H a xs)
    (hs : ∀ i x acc σ H, acc.length ≤ i → xs[i]? = some x → Pv i acc σ H → g x σ H fun σ2 H2 => tt σ2 H2 fun b H3 => if b = true then te σ2 H3 fun y H4 => (acc ++ [y]).length ≤ i + 1 ∧ Pv (i + 1) (acc ++ [y]) σ2 H4 else acc.length ≤ i + 1 ∧ Pv (i + 1) acc σ2 H3)
    (hd : ∀ acc σ H, acc.length ≤ xs.length → Pv xs.length acc σ H → endC Q acc H) :
    ∃ W : Nat → Nat → List V → St → Hp → Prop, (∃ m, W 0 m [] σ0 H) ∧ ∀ i m acc σ1 H, W i m acc σ1 H →
      ((Itt K a).stop i H ∧ endC Q acc H) ∨
      ((Itt K a).go i H ∧ acc.length < sizeLine ∧ ∃ N : List V → St → Hp → Prop, (∀ acc' σ' H', N acc' σ' H' → ∃ m', m' < m ∧ W (i + 1) m' acc' σ' H') ∧ ∀ x H', (Itt K a).yld i H x H' → g x σ1 H' fun σ2 H2 => tt σ2 H2 fun b H3 => if b = true then te σ2 H3 fun y H4 => N (acc ++ [y]) σ2 H4 else N acc σ2 H3) := by
  refine ⟨fun i m acc σ H => m = xs.length - i ∧ i ≤ xs.length ∧ acc.length ≤ i ∧ Pv i acc σ H, ⟨xs.length, by simp, Nat.zero_le _, Nat.zero_le _, h0⟩, ?_⟩
  rintro i m acc σ1 H ⟨rfl, hi, ha, p⟩
  have q := hl i acc σ1 H hi p
  by_cases hlt : i < xs.length
  · refine .inr ⟨⟨xs, xs[i], q, by simp [hlt]⟩, by omega, fun acc' σ' H' => acc'.length ≤ i + 1 ∧ Pv (i + 1) acc' σ' H', fun acc' σ' H' z => ⟨xs.length - (i + 1), by omega, rfl, hlt, z.1, z.2⟩, fun x H' y => ?_⟩
    obtain ⟨e, y⟩ := y
    subst e
    exact hs i x acc σ1 _ ha (y xs q) p
  · have e : i = xs.length := by omega
    subst e
    exact .inl ⟨⟨xs, q, Nat.le_refl _⟩, hd acc σ1 H ha p⟩
/- over lo, lo + 1, .. (n of them) -/
end L2

set_option Elab.async false
set_option linter.all false
set_option maxRecDepth 100000
set_option maxHeartbeats 4000000
namespace L2
open PySem PySem.Spec PyProof.Rows

/-! == and != over data: a value that shows a tree -/
mutual
inductive DV (K : PySem.W.Frag) (H : Hp) : V → PyData → Prop
  | non : DV K H .non .none
  | bl (b : Bool) : DV K H (.bl b) (.bool b)
  | int (i : Int) : DV K H (.int i) (.int i)
  | str (x : Str) (h : (PyData.str x).canLay0 = true) : DV K H (.str x) (.str x)
  | lst {a : Addr} {xs : List V} {ds : List PyData} (h : SqL K H a xs) (r : DVs K H xs ds) : DV K H (.ref a) (.list ds)
  | tup {a : Addr} {xs : List V} {ds : List PyData} (h : SqT K H a xs) (r : DVs K H xs ds) : DV K H (.ref a) (.tuple ds)
inductive DVs (K : PySem.W.Frag) (H : Hp) : List V → List PyData → Prop
  | nil : DVs K H [] []
  | cons {x : V} {xs : List V} {d : PyData} {ds : List PyData} (h : DV K H x d) (r : DVs K H xs ds) : DVs K H (x :: xs) (d :: ds)
end
mutual
theorem DV.can {K : PySem.W.Frag} {H : Hp} : ∀ {x : V} {d : PyData}, DV K H x d → d.canLay0 = true
  | _, _, .non => by simp only [PyData.canLay0]
  | _, _, .bl _ => by simp only [PyData.canLay0]
  | _, _, .int _ => by simp only [PyData.canLay0]
  | _, _, .str _ h => h
  | _, _, .lst _ r => by simp only [PyData.canLay0]; exact DVs.can r
  | _, _, .tup _ r => by simp only [PyData.canLay0]; exact DVs.can r
theorem DVs.can {K : PySem.W.Frag} {H : Hp} : ∀ {xs : List V} {ds : List PyData}, DVs K H xs ds → PyData.canLayAll0 ds = true
  | _, _, .nil => by simp only [PyData.canLayAll0]
  | _, _, .cons h r => by simp only [PyData.canLayAll0, Bool.and_eq_true]; exact ⟨DV.can h, DVs.can r⟩
end
theorem SqT.sameT {K : PySem.W.Frag} {H H' : Hp} {a : Addr} {xs : List V} (e : Same H H') (h : SqT K H a xs) : SqT K H' a xs := by
  rcases h with (h | ⟨o, h⟩) | h
  · exact .inl (.inl (e _ _ h))
  · exact .inl (.inr ⟨o, e _ _ h⟩)
  · exact .inr h
mutual
theorem DV.same {K : PySem.W.Frag} {H H' : Hp} (s : Same H H') : ∀ {x : V} {d : PyData}, DV K H x d → DV K H' x d
  | _, _, .non => .non
  | _, _, .bl b => .bl b
  | _, _, .int i => .int i
  | _, _, .str x h => .str x h
  | _, _, .lst h r => .lst (s.seq h) (DVs.same s r)
  | _, _, .tup h r => .tup (SqT.sameT s h) (DVs.same s r)
theorem DVs.same {K : PySem.W.Frag} {H H' : Hp} (s : Same H H') : ∀ {xs : List V} {ds : List PyData}, DVs K H xs ds → DVs K H' xs ds
  | _, _, .nil => .nil
  | _, _, .cons h r => .cons (DV.same s h) (DVs.same s r)
end
section
variable {X : Cx} {pins : List (Addr × Obj)} {σ : St} {H : Hp} {s : Shared}
mutual
theorem DV.reads (I : Inv X pins σ H s) : ∀ {x : V} {d : PyData} {u : Value}, DV X.K H x d → RelV x u → ∃ as, Reads s.heap u d as
  | _, _, _, .non, r => by cases r; exact ⟨_, .none⟩
  | _, _, _, .bl b, r => by cases r; exact ⟨_, .bool b⟩
  | _, _, _, .int i, r => by obtain ⟨t, rfl⟩ := r; exact ⟨_, .int i t⟩
  | _, _, _, .str x _, r => by obtain ⟨t, rfl⟩ := r; exact ⟨_, .str x t⟩
  | _, _, _, .lst h rs, r => by
    cases r
    obtain ⟨its, v, pl, _⟩ := I.list h
    obtain ⟨o, n, ho, hc, _, hd⟩ := pl
    obtain ⟨as, q⟩ := DVs.reads I rs v
    exact ⟨_, .list ho hc hd (by simpa using q)⟩
  | _, _, _, .tup h rs, r => by
    cases r
    obtain ⟨its, v, pl, _⟩ := I.tuple h
    obtain ⟨o, ho, hc, n, hd⟩ := pl
    obtain ⟨as, q⟩ := DVs.reads I rs v
    exact ⟨_, .tuple ho hc hd (by simpa using q)⟩
theorem DVs.reads (I : Inv X pins σ H s) : ∀ {xs : List V} {ds : List PyData} {us : List Value}, DVs X.K H xs ds → Vals xs us → ∃ as, ReadsAll s.heap us ds as
  | _, _, _, .nil, .nil => ⟨_, .nil⟩
  | _, _, _, .cons h r, .cons v vs => by
    obtain ⟨as, q1⟩ := DV.reads I h v
    obtain ⟨bs, q2⟩ := DVs.reads I r vs
    exact ⟨_, .cons q1 q2⟩
end
end
def rEqD (K : PySem.W.Frag) (neg : Bool) : R2 := fun x y H Q => ∃ dx dy, DV K H x dx ∧ DV K H y dy ∧ dx.depth ≤ 60 ∧ Q (.bl (if neg then !PyData.eqv dx dy else PyData.eqv dx dy)) H
theorem op_eqD {X : Cx} (hu : X.A.units + 64 < cLine) : OpR X (compareOp .Eq) (rEqD X.K false) := by
  intro pins s σ H x y v u Q I rx ry h
  obtain ⟨dx, dy, hx, hy, hd, q⟩ := h
  obtain ⟨as, r1⟩ := hx.reads I rx
  obtain ⟨bs, r2⟩ := hy.reads I ry
  exact SeqAt.compareEq_reads r1 r2 hx.can hy.can (by omega) ⟨.bl _, H, I, rfl, q⟩
theorem op_neD {X : Cx} (hu : X.A.units + 64 < cLine) : OpR X (compareOp .NotEq) (rEqD X.K true) := by
  intro pins s σ H x y v u Q I rx ry h
  obtain ⟨dx, dy, hx, hy, hd, q⟩ := h
  obtain ⟨as, r1⟩ := hx.reads I rx
  obtain ⟨bs, r2⟩ := hy.reads I ry
  exact SeqAt.compareNe_reads r1 r2 hx.can hy.can (by omega) ⟨.bl _, H, I, rfl, q⟩
end L2

set_option Elab.async false
set_option linter.all false
set_option maxRecDepth 100000
set_option maxHeartbeats 4000000
namespace L2
open PySem PySem.Spec PyProof.Rows

/-! TEXTS: split by one sign, join, find -/
/- the parts between the signs c -/
def spl (c : Nat) : List Nat → List (List Nat)
  | [] => [[]]
  | x :: r => if x = c then [] :: spl c r else match spl c r with
    | [] => [[x]]
    | w :: ws => (x :: w) :: ws
def joinL (c : Nat) : List (List Nat) → List Nat
  | [] => []
  | [p] => p
  | p :: q :: r => p ++ c :: joinL c (q :: r)
theorem spl_ne (c : Nat) : ∀ l : List Nat, spl c l ≠ []
  | [] => by simp [spl]
  | x :: r => by
    unfold spl
    by_cases h : x = c
    · rw [if_pos h]; simp
    · rw [if_neg h]
      cases q : spl c r <;> simp
theorem spl_free (c : Nat) : ∀ p : List Nat, c ∉ p → spl c p = [p]
  | [], _ => rfl
  | x :: r, h => by
    have h1 : x ≠ c := fun z => h (by rw [z]; exact List.mem_cons_self)
    have h2 : c ∉ r := fun z => h (List.mem_cons_of_mem _ z)
    unfold spl
    rw [if_neg h1, spl_free c r h2]
theorem spl_cut (c : Nat) (rest : List Nat) : ∀ p : List Nat, c ∉ p → spl c (p ++ c :: rest) = p :: spl c rest
  | [], _ => by
    show spl c (c :: rest) = _
    rw [spl, if_pos rfl]
  | x :: r, h => by
    have h1 : x ≠ c := fun z => h (by rw [z]; exact List.mem_cons_self)
    have h2 : c ∉ r := fun z => h (List.mem_cons_of_mem _ z)
    show spl c (x :: (r ++ c :: rest)) = _
    rw [spl, if_neg h1, spl_cut c rest r h2]
theorem spl_join (c : Nat) : ∀ ps : List (List Nat), ps ≠ [] → (∀ p ∈ ps, c ∉ p) → spl c (joinL c ps) = ps
  | [], h, _ => absurd rfl h
  | [p], _, h => spl_free c p (h p List.mem_cons_self)
  | p :: q :: r, _, h => by
    show spl c (p ++ c :: joinL c (q :: r)) = _
    rw [spl_cut c _ p (h p List.mem_cons_self), spl_join c (q :: r) (by simp) fun z hz => h z (List.mem_cons_of_mem _ hz)]
theorem join_toList (c : Nat) : ∀ ps : List Str, (Str.join ⟨#[c]⟩ ps).cps.toList = joinL c (ps.map fun p => p.cps.toList)
  | [] => rfl
  | [p] => rfl
  | p :: q :: r => by
    show (p ++ ⟨#[c]⟩ ++ Str.join ⟨#[c]⟩ (q :: r)).cps.toList = p.cps.toList ++ c :: joinL c ((q :: r).map fun p => p.cps.toList)
    rw [← join_toList c (q :: r), Str.cps_append, Str.cps_append]
    simp
theorem split_eq (x : Str) (c : Nat) : (Txt.split x ⟨#[c]⟩).map (fun p => p.cps.toList) = spl c x.cps.toList := by
  have h1 := StrLaws.join_split x ⟨#[c]⟩
  have h2 := StrLaws.split_free x c
  have h3 : Txt.split x ⟨#[c]⟩ ≠ [] := fun z => by
    have := split_pos x ⟨#[c]⟩
    rw [z] at this
    exact absurd this (by decide)
  have h4 : joinL c ((Txt.split x ⟨#[c]⟩).map fun p => p.cps.toList) = x.cps.toList := by rw [← join_toList, h1]
  rw [← h4, spl_join]
  · intro z
    exact h3 (List.map_eq_nil_iff.mp z)
  · intro p hp
    obtain ⟨q, hq, rfl⟩ := List.mem_map.mp hp
    exact h2 q hq
theorem split_map (x : Str) (c : Nat) : Txt.split x ⟨#[c]⟩ = (spl c x.cps.toList).map fun l => ⟨l.toArray⟩ := by
  rw [← split_eq, List.map_map]
  have e : ((fun l : List Nat => (⟨l.toArray⟩ : Str)) ∘ fun p : Str => p.cps.toList) = id := by
    funext p
    cases p
    simp
  rw [e, List.map_id]
theorem spl_len (c : Nat) : ∀ l : List Nat, (spl c l).length ≤ l.length + 1
  | [] => Nat.le_refl _
  | x :: r => by
    have := spl_len c r
    unfold spl
    by_cases h : x = c
    · rw [if_pos h, List.length_cons, List.length_cons]; omega
    · rw [if_neg h]
      cases q : spl c r with
      | nil => simp
      | cons w ws => rw [q] at this; simp only [List.length_cons] at this ⊢; omega
theorem vals_from : ∀ (ts : List Str) (k : Nat), Vals (ts.map V.str) (strsFrom k ts)
  | [], _ => .nil
  | x :: r, k => .cons ⟨k, rfl⟩ (vals_from r (k + 1))
/- str.split by one sign -/
def rSplit : V → List V → Hp → VK → Prop := fun x xs H Q => ∃ z c, x = .str z ∧ xs = [.str ⟨#[c]⟩] ∧ z.length + 2 ≤ sizeLine ∧ ∀ p, H p = none → Q (.ref p) (upd H p (.lst ((spl c z.cps.toList).map fun l => V.str ⟨l.toArray⟩)))
theorem mt_split {X : Cx} : MtR X "str.split" rSplit := by
  intro pins s σ H x xs v us Q I rx r h
  obtain ⟨z, c, rfl, rfl, hz, q⟩ := h
  obtain ⟨t, rfl⟩ := rx
  obtain ⟨u, rfl, t', rfl⟩ := vals1 r
  have hl := spl_len c z.cps.toList
  have hl2 : z.cps.toList.length = z.length := by simp [Str.length]
  have em : (spl c z.cps.toList).map (fun l => V.str ⟨l.toArray⟩) = (Txt.split z ⟨#[c]⟩).map V.str := by rw [split_map, List.map_map]; rfl
  have fin : ∀ (its : List Value) (tk : Nat), Vals ((Txt.split z ⟨#[c]⟩).map V.str) its → EP X pins σ Q (.ref s.heap.objs.size) { s with heap := s.heap.push { cls := .type "list", data := .seq its.toArray }, toks := tk } := fun its tk vv => by
    rw [em] at q
    refine ⟨.ref _, _, I.lnew (t' := tk) vv ?_, rfl, q _ I.fresh⟩
    rw [List.length_map, split_map, List.length_map]
    omega
  cases h1 : (decide (z.length < (⟨#[c]⟩ : Str).length) || decide (Builtin.Str.strKind z < Builtin.Str.strKind ⟨#[c]⟩)) with
  | true =>
    have e : Txt.split z ⟨#[c]⟩ = [z] := by unfold Txt.split; rw [if_pos h1]
    rw [e] at fin
    exact call_meets F.slot_str_split (typeIs_str _ _ _) F.entry_str_split (F.args_str_split_2 _ _) (meets_str_split_cannot_occur z ⟨#[c]⟩ t t' h1) (fin [.str z t] s.toks (.cons ⟨t, rfl⟩ .nil))
  | false =>
    cases h2 : (Builtin.Str.occurrences z ⟨#[c]⟩ 0 z.length (z.length + 1)).isEmpty with
    | true =>
      have e : Txt.split z ⟨#[c]⟩ = [z] := by unfold Txt.split; rw [if_neg (by rw [h1]; decide), if_pos h2]
      rw [e] at fin
      exact call_meets F.slot_str_split (typeIs_str _ _ _) F.entry_str_split (F.args_str_split_2 _ _) (meets_str_split_not_found z ⟨#[c]⟩ t t' h1 rfl h2) (fin [.str z t] s.toks (.cons ⟨t, rfl⟩ .nil))
    | false =>
      have e : Txt.split z ⟨#[c]⟩ = Builtin.Str.partsBetween z (Builtin.Str.occurrences z ⟨#[c]⟩ 0 z.length (z.length + 1)) (⟨#[c]⟩ : Str).length := by unfold Txt.split; rw [if_neg (by rw [h1]; decide), if_neg (by rw [h2]; decide)]
      have hs2 : (Builtin.Str.partsBetween z (Builtin.Str.occurrences z ⟨#[c]⟩ 0 z.length (z.length + 1)) (⟨#[c]⟩ : Str).length).length ≤ sizeLine := by
        rw [← e, split_map, List.length_map]
        omega
      refine call_meets F.slot_str_split (typeIs_str _ _ _) F.entry_str_split (F.args_str_split_2 _ _) (meets_str_split_sep z ⟨#[c]⟩ t t' h1 rfl h2 (by omega) hs2) ?_
      rw [e] at fin
      exact fin _ _ (vals_from _ s.toks)
theorem mt_sfind {X : Cx} : MtR X "str.find" (fun x xs H Q => ∃ z y, x = .str z ∧ xs = [.str y] ∧ Q (.int (Txt.find z y)) H) := by
  intro pins s σ H x xs v us Q I rx r h
  obtain ⟨z, y, rfl, rfl, q⟩ := h
  obtain ⟨t, rfl⟩ := rx
  obtain ⟨u, rfl, t', rfl⟩ := vals1 r
  exact SC.find ⟨.int _, H, I.tok _, ⟨_, rfl⟩, q⟩
/- the first place of a sign -/
def pos? (c : Nat) : List Nat → Option Nat
  | [] => none
  | x :: r => if x = c then some 0 else (pos? c r).map (· + 1)
theorem pos_none {c : Nat} : ∀ {l : List Nat}, pos? c l = none → c ∉ l
  | [], _, h => by cases h
  | x :: r, e, h => by
    unfold pos? at e
    by_cases hx : x = c
    · rw [if_pos hx] at e; cases e
    · rw [if_neg hx, Option.map_eq_none_iff] at e
      rcases List.mem_cons.mp h with z | z
      · exact hx z.symm
      · exact pos_none e z
theorem pos_some {c : Nat} : ∀ {l : List Nat} {i : Nat}, pos? c l = some i → l = l.take i ++ c :: l.drop (i + 1) ∧ c ∉ l.take i
  | [], _, e => by cases e
  | x :: r, i, e => by
    unfold pos? at e
    by_cases hx : x = c
    · rw [if_pos hx] at e
      cases e
      subst hx
      simp
    · rw [if_neg hx] at e
      obtain ⟨j, hj, rfl⟩ := Option.map_eq_some_iff.mp e
      obtain ⟨h1, h2⟩ := pos_some hj
      refine ⟨?_, ?_⟩
      · show x :: r = x :: (r.take j) ++ c :: r.drop (j + 1)
        rw [List.cons_append, ← h1]
      · show c ∉ x :: r.take j
        intro z
        rcases List.mem_cons.mp z with z | z
        · exact hx z.symm
        · exact h2 z
theorem at_one (x : Str) (c i : Nat) : StrLaws.At x ⟨#[c]⟩ x.length i ↔ x.cps.toList[i]? = some c := StrLaws.subAt_one x c i
theorem find_pos (x : Str) (c : Nat) : Txt.find x ⟨#[c]⟩ = match pos? c x.cps.toList with | none => -1 | some i => (i : Int) := by
  unfold Txt.find
  rcases StrLaws.occ_head x ⟨#[c]⟩ 1 (Nat.le_refl 1) with ⟨e, h⟩ | ⟨i, r, e, h1, h2⟩
  · rw [e]
    cases q : pos? c x.cps.toList with
    | none => rfl
    | some j =>
      obtain ⟨g1, g2⟩ := pos_some q
      have lt : j < x.cps.toList.length ∨ x.cps.toList.length ≤ j := by omega
      have z : x.cps.toList[j]? = some c := by
        rw [g1, List.getElem?_append_right (by rw [List.length_take]; omega)]
        have e2 : j - (x.cps.toList.take j).length = 0 := by
          have := congrArg List.length g1
          simp only [List.length_append, List.length_cons, List.length_take, List.length_drop] at this
          rw [List.length_take]
          omega
        rw [e2]
        rfl
      exact absurd ((at_one x c j).mpr z) (h j)
  · rw [e]
    have z := (at_one x c i).mp h1
    cases q : pos? c x.cps.toList with
    | none => exact absurd (List.mem_of_getElem? z) (pos_none q)
    | some j =>
      obtain ⟨g1, g2⟩ := pos_some q
      have hj : x.cps.toList[j]? = some c := by
        rw [g1, List.getElem?_append_right (by rw [List.length_take]; omega)]
        have e2 : j - (x.cps.toList.take j).length = 0 := by
          have := congrArg List.length g1
          simp only [List.length_append, List.length_cons, List.length_take, List.length_drop] at this
          rw [List.length_take]
          omega
        rw [e2]
        rfl
      have l1 : ¬ j < i := fun lt => h2 j lt ((at_one x c j).mpr hj)
      have l2 : ¬ i < j := fun lt => g2 (by
        have : (x.cps.toList.take j)[i]? = some c := by rw [List.getElem?_take_of_lt lt]; exact z
        exact List.mem_of_getElem? this)
      have e3 : i = j := by omega
      rw [e3]
/-! ### [.., x + c1, x.replace(c2, c3), ..]: the texts' tokens are known to be none of nought -/
section
variable {X : Cx}
theorem var_ok {pins : List (Addr × Obj)} {s : Shared} {σ : St} {H : Hp} {i : Nat} {x : Str} {v : V} {pos : Pos} {E : Value → Shared → Prop} {Q : Value → Shared → Prop} (I : Inv X pins σ H s) (hN : X.N[i]? = some x) (hk : X.env.scope.names.lookup x = some .local) (hv : σ[i]? = some (some v))
    (q : ∀ u, RelV v u → Q u s) (hd : (x == ("__debug__" : Str)) = false := by decide) : wpAny (model X.prog X.w) X.A (eval (.Name x pos) X.env) Q E s := by
  obtain ⟨m, hn, hl⟩ := I.loc
  obtain ⟨u, r, l⟩ := hl i x v hN hv (.inl hk)
  rcases l with ⟨_, e⟩ | ⟨k, _⟩
  · exact wpAny_Name (wpAny_loadName_local (env := X.env) I.ok.kind hk hn e (q u r)) hd
  · have hk' : X.env.kindOf x = some .local := hk
    rcases k with k | k <;> rw [hk'] at k <;> cases k
def tAddRepl (i : Nat) (c1 c2 c3 : Str) (t : TA) : TA := fun σ H Q => ∃ z : Str, σ[i]? = some (some (.str z)) ∧ z.length ≤ 1000 ∧ c1.length ≤ 10 ∧ c3.length ≤ 10 ∧ t σ H fun vs H1 => Q (.str (z ++ c1) :: .str (Txt.replace z c2 c3) :: vs) H1
theorem pa_addRepl {x : Str} {i : Nat} {c1 c2 c3 : Str} {k1 k2 k3 : Nat} {p1 p2 p3 p4 p5 p6 ap cp : Pos} {es : List Expr} {t : TA} (hN : X.N[i]? = some x) (hk : X.env.scope.names.lookup x = some .local) (hyz : (c2 == c3) = false) (hr : PA X es t)
    (hd : (x == ("__debug__" : Str)) = false := by decide)
    (hs : starEach (.BinOp (.Name x p1) .Add (.Constant (.str c1) k1 p2) p3 :: .Call (.Attribute (.Name x p4) "replace" ap) [.Constant (.str c2) k2 p5, .Constant (.str c3) k3 p6] [] cp :: es) X.env =
      (false, eval (.BinOp (.Name x p1) .Add (.Constant (.str c1) k1 p2) p3) X.env) :: (false, eval (.Call (.Attribute (.Name x p4) "replace" ap) [.Constant (.str c2) k2 p5, .Constant (.str c3) k3 p6] [] cp) X.env) :: starEach es X.env := by rfl)
    (hbase : attributeBase (.Name x p4) "replace" X.env (eval (.Name x p4) X.env) = eval (.Name x p4) X.env := by rfl)
    (hfew : ((backTo cp (starEach [.Constant (.str c2) k2 p5, .Constant (.str c3) k3 p6] X.env)).all (fun x => !x.1) && (backToKw cp (keywordEach [] X.env)).all (fun x => x.1.isSome)
      && decide (([.Constant (.str c2) k2 p5, .Constant (.str c3) k3 p6] : List Expr).length + ([] : List Keyword).length + (if ([] : List Keyword).isEmpty then 0 else 1) < 30)) = true := by rfl)
    (hline : (ap.endLine == cp.line) = true := by rfl) :
    PA X (.BinOp (.Name x p1) .Add (.Constant (.str c1) k1 p2) p3 :: .Call (.Attribute (.Name x p4) "replace" ap) [.Constant (.str c2) k2 p5, .Constant (.str c3) k3 p6] [] cp :: es) (tAddRepl i c1 c2 c3 t) := by
  intro pos pins s σ H Q I h
  obtain ⟨z, hv, hz, l1, l3, q⟩ := h
  rw [hs]
  show wpAny _ _ (spliced ((false, eval (.BinOp (.Name x p1) .Add (.Constant (.str c1) k1 p2) p3) X.env) :: backTo pos ((false, eval (.Call (.Attribute (.Name x p4) "replace" ap) [.Constant (.str c2) k2 p5, .Constant (.str c3) k3 p6] [] cp) X.env) :: starEach es X.env))) _ _ s
  have second : ∀ (s1 : Shared) (u1 : Value), Inv X pins σ H s1 → 1 ≤ s1.toks → RelV (.str (z ++ c1)) u1 →
      wpAny (model X.prog X.w) X.A (spliced (backTo pos ((false, eval (.Call (.Attribute (.Name x p4) "replace" ap) [.Constant (.str c2) k2 p5, .Constant (.str c3) k3 p6] [] cp) X.env) :: starEach es X.env))) (fun us s2 => AP X pins σ Q (u1 :: us) s2) X.xe s1 := fun s1 u1 I1 ht r1 => by
    show wpAny _ _ (spliced ((false, eval (.Call (.Attribute (.Name x p4) "replace" ap) [.Constant (.str c2) k2 p5, .Constant (.str c3) k3 p6] [] cp) X.env) :: backTo pos (starEach es X.env))) _ _ s1
    refine Calls.spliced_cons (wpAny_Call_method_late hbase hfew hline rfl (var_ok I1 hN hk hv (fun u ru => ?_) hd))
    obtain ⟨g1, g2⟩ := tyV_is (T := "str") I1 ru rfl
    refine ⟨"str", _, F.plainAttrs_str, F.slot_str_replace, F.type_str_replace, g1, g2, ?_⟩
    obtain ⟨t0, rfl⟩ := ru
    refine Calls.callWith_builtin rfl (Calls.evalArgs_plain (x := eval (.Constant (.str c2) k2 p5) X.env) (rest := [(false, eval (.Constant (.str c3) k3 p6) X.env)]) ?_)
    refine Calls.spliced_cons ?_
    refine Calls.Constant_str ?_
    refine Calls.spliced_cons ?_
    refine Calls.Constant_str ?_
    refine Calls.spliced_nil ?_
    refine SC.replace (fun e => by have e' : s1.toks = 0 := e; omega) (fun e => by have e' : s1.toks + 1 = 0 := e; omega) (fun e => by have e' : s1.toks = s1.toks + 1 := e; omega) hyz ?_ fun t' k => ?_
    · have e1 : (z.length + 1) * c3.length ≤ 1001 * 10 := Nat.mul_le_mul (by omega) l3
      omega
    · exact thn (hr pos pins _ σ H _ (I1.tok k) q) fun us s2 ⟨xs, H2, I2, r2, q2⟩ => ⟨.str (z ++ c1) :: .str (Txt.replace z c2 c3) :: xs, H2, I2, .cons r1 (.cons ⟨t', rfl⟩ r2), q2⟩
  refine Calls.spliced_cons (wpAny_BinOp (var_ok I hN hk hv (fun u ru => ?_) hd))
  obtain ⟨t0, rfl⟩ := ru
  refine Calls.Constant_str (P.add_str ?_)
  have sz : (z ++ c1).length ≤ sizeLine := by
    rw [Str.length_append]
    exact Nat.le_trans (show z.length + c1.length ≤ 1010 by omega) (by decide)
  split
  · rename_i h0
    refine second _ _ (I.tok _) (Nat.succ_le_succ (Nat.zero_le _)) ?_
    have : z ++ c1 = c1 := by
      have e : z.cps = #[] := Array.size_eq_zero_iff.mp (by simpa [Str.length] using h0)
      exact Str.ext' (by rw [Str.cps_append, e]; simp)
    rw [this]
    exact ⟨_, rfl⟩
  · split
    · rename_i h0
      refine second _ _ (I.tok _) (Nat.succ_le_succ (Nat.zero_le _)) ?_
      have : z ++ c1 = z := by
        have e : c1.cps = #[] := Array.size_eq_zero_iff.mp (by simpa [Str.length] using h0)
        exact Str.ext' (by rw [Str.cps_append, e]; simp)
      rw [this]
      exact ⟨_, rfl⟩
    · exact ⟨sz, second _ _ (I.tok _) (Nat.succ_le_succ (Nat.zero_le _)) ⟨_, rfl⟩⟩
end
end L2

set_option Elab.async false
set_option linter.all false
set_option maxRecDepth 100000
set_option maxHeartbeats 4000000
namespace L2
open PySem PySem.Spec PyProof.Rows
section
variable {X : Cx} {x : Str} {pos : Pos}
theorem pe_gintE {k : Int} (hg : Gl X x) (hm : ∃ t, X.mg x = some (.int k t)) (hd : (x == ("__debug__" : Str)) = false := by decide) : PE X (.Name x pos) (tC (.int k)) := by
  obtain ⟨t, hm⟩ := hm
  exact pe_glob hg hm ⟨t, rfl⟩ hd
/- an empty dict -/
def tDNew : TE := fun _ H Q => ∀ p, H p = none → Q (.ref p) (upd H p (.dK []))
theorem pe_dnew {X : Cx} {pos : Pos} : PE X (.Dict [] [] pos) tDNew := by
  intro pins s σ H Q I h
  have lt : sysModules < s.heap.objs.size := Nat.lt_trans (show sysModules < mainGlobals by decide) (I.mod.glob.keeps I.bk).lt
  have new : ObjOk X.prog X.w (upd H s.heap.objs.size (.dK [])) (s.heap.push { cls := .type "dict", data := .dict #[] }) s.heap.objs.size (.dK []) :=
    ⟨Nat.zero_le _, beq_eq_false_iff_ne.mpr (Ne.symm (Nat.ne_of_lt lt)), [], .nil, Heap.DictOf.new s.heap⟩
  exact wpAny_Dict_empty ⟨.ref s.heap.objs.size, _, I.laid (t' := s.toks) (fun _ _ q => Heap.get?_push_of_some _ q) (Nat.le_refl _) new, rfl, h _ (I.hok.fresh (Nat.le_refl _))⟩
theorem nd1 (x : Str) : [x].Nodup := by simp
def notStar : Expr → Bool
  | .Starred _ _ => false
  | _ => true
theorem star_cons {e : Expr} {es : List Expr} {env : Env} (h : notStar e = true) : starEach (e :: es) env = (false, eval e env) :: starEach es env := by
  cases e <;> first | rfl | cases h
theorem pac {e : Expr} {es : List Expr} {te : TE} {t : TA} (ha : PE X e te) (hr : PA X es t) (h : notStar e = true := by rfl) : PA X (e :: es) (tCons te t) := pa_cons ha hr (star_cons h)
end
end L2
namespace K1
open PySem L2
def figs : Str := ⟨#[48, 49, 50, 51, 52, 53, 54, 55, 56, 57]⟩
theorem figs_eq : Str.ofString "0123456789" = figs := by decide +kernel
theorem occ_fig : ∀ c : Nat, Builtin.Str.occurrences figs ⟨#[c]⟩ 0 10 1 = if 48 ≤ c ∧ c ≤ 57 then [c - 48] else [] := by
  intro c
  by_cases h : 48 ≤ c ∧ c ≤ 57
  · rw [if_pos h]
    have : c = 48 ∨ c = 49 ∨ c = 50 ∨ c = 51 ∨ c = 52 ∨ c = 53 ∨ c = 54 ∨ c = 55 ∨ c = 56 ∨ c = 57 := by omega
    rcases this with rfl | rfl | rfl | rfl | rfl | rfl | rfl | rfl | rfl | rfl <;> decide +kernel
  · rw [if_neg h]
    have n0 : c ≠ 48 := by omega
    have n1 : c ≠ 49 := by omega
    have n2 : c ≠ 50 := by omega
    have n3 : c ≠ 51 := by omega
    have n4 : c ≠ 52 := by omega
    have n5 : c ≠ 53 := by omega
    have n6 : c ≠ 54 := by omega
    have n7 : c ≠ 55 := by omega
    have n8 : c ≠ 56 := by omega
    have n9 : c ≠ 57 := by omega
    unfold Builtin.Str.occurrences
    simp [figs, Builtin.Str.subAt, n0.symm, n1.symm, n2.symm, n3.symm, n4.symm, n5.symm, n6.symm, n7.symm, n8.symm, n9.symm, Str.length]
    rw [show List.range' 0 11 = [0, 1, 2, 3, 4, 5, 6, 7, 8, 9, 10] from rfl]
    simp [List.forIn_cons, n0.symm, n1.symm, n2.symm, n3.symm, n4.symm, n5.symm, n6.symm, n7.symm, n8.symm, n9.symm]
def two (n : Nat) : Str := ⟨#[48 + n / 10, 48 + n % 10]⟩
theorem two_ok : ∀ n : Nat, n < 60 → Txt.zfill (Str.ofString (toString (n : Int))) 2 = two n := by decide +kernel
theorem sl2 (a b c d e : Nat) : Txt.slice ⟨#[a, b, c, d, e]⟩ none (some 2) = ⟨#[a, b]⟩ := by rfl
theorem sl3 (a b c d e : Nat) : Txt.slice ⟨#[a, b, c, d, e]⟩ (some 3) none = ⟨#[d, e]⟩ := by
  unfold Txt.slice
  rw [show Builtin.Str.strSliceIndices (some 3) none 1 (Str.length ⟨#[a, b, c, d, e]⟩) = [3, 4] from (by decide +kernel : Builtin.Str.strSliceIndices (some 3) none 1 5 = [3, 4])]
  rfl

/- the kinds of things that are no text and no list of ours: what isinstance tells of them -/
def numV : V → Int → Int → Bool
  | .int i, lo, hi => decide (lo ≤ i ∧ i ≤ hi)
  | _, _, _ => false
/- a thing whose kind is known -/
inductive Kd (H : Hp) : V → String → Prop where
  | non : Kd H .non "NoneType"
  | bl (b : Bool) : Kd H (.bl b) "bool"
  | int (i : Int) : Kd H (.int i) "int"
  | str (x : Str) : Kd H (.str x) "str"
  | lst {a : Addr} {xs : List V} (e : H a = some (.lst xs)) : Kd H (.ref a) "list"
  | tup {a : Addr} {xs : List V} (e : H a = some (.tup xs)) : Kd H (.ref a) "tuple"
  | dK {a : Addr} {kvs : List (Key × V)} (e : H a = some (.dK kvs)) : Kd H (.ref a) "dict"
theorem Kd.ty {K : PySem.W.Frag} {H : Hp} {v : V} {T : String} (k : Kd H v T) : TyOf K H v (.type T) := by
  cases k with
  | non => exact .non
  | bl b => exact .bl b
  | int i => exact .int i
  | str x => exact .str x
  | lst e => exact .lst e
  | tup e => exact .tup e
  | dK e => exact .dK e
theorem Kd.same {H H' : Hp} {v : V} {T : String} (s : Same H H') (k : Kd H v T) : Kd H' v T := by
  cases k with
  | non => exact .non
  | bl b => exact .bl b
  | int i => exact .int i
  | str x => exact .str x
  | lst e => exact .lst (s _ _ e)
  | tup e => exact .tup (s _ _ e)
  | dK e => exact .dK (s _ _ e)
theorem kit_int {K : PySem.W.Frag} {H : Hp} {v : V} {T : String} (k : Kd H v T) : PySem.W.kitOne K (.type T) (.type "int") = some (decide (T = "int" ∨ T = "bool")) := by
  cases k <;> rfl
theorem kit_bool {K : PySem.W.Frag} {H : Hp} {v : V} {T : String} (k : Kd H v T) : PySem.W.kitOne K (.type T) (.type "bool") = some (decide (T = "bool")) := by
  cases k <;> rfl
theorem kit_str {K : PySem.W.Frag} {H : Hp} {v : V} {T : String} (k : Kd H v T) : PySem.W.kitOne K (.type T) (.type "str") = some (decide (T = "str")) := by
  cases k <;> rfl

theorem itT {c A B : Prop} [Decidable c] (h : c) (a : A) : if c then A else B := by rw [if_pos h]; exact a
theorem itF {c A B : Prop} [Decidable c] (h : ¬ c) (b : B) : if c then A else B := by rw [if_neg h]; exact b


def dg (c : Nat) : Bool := decide (48 ≤ c ∧ c ≤ 57)

theorem inS_figs (c : Nat) : inS figs c = dg c := by
  unfold inS dg
  rw [show figs.length = 10 from rfl, occ_fig c]
  by_cases h : 48 ≤ c ∧ c ≤ 57
  · rw [if_pos h, decide_eq_true h]; rfl
  · rw [if_neg h, decide_eq_false h]; rfl

def figB (z : Str) : Bool := !decide (V.str z = V.str (Str.ofString "")) && (z.cps.toList.map fun c => inS figs c).all id

theorem same_new {H : Hp} {p : Addr} (h : H p = none) (o : HO) : Same H (upd H p o) := fun b u q => by rw [upd_ne (ne_of_none q h)]; exact q

theorem map_bl {α : Type} (g : α → Bool) (l : List α) : (l.map fun c => V.bl (g c)) = (l.map g).map V.bl := by rw [List.map_map]; rfl

theorem log_small : ∀ n : Nat, n < 60 → n.log2 < 1920 := by decide +kernel

/- HH:MM -/
def wr (m : Nat) : Str := two (m / 60) ++ Str.ofString ":" ++ two (m % 60)

def formL : List Nat → Bool
  | [a, b, c, d, e] => decide (c = 58) && (dg a && dg b && dg d && dg e)
  | _ => false

def formV : V → Bool
  | .str z => formL z.cps.toList
  | _ => false

theorem five {z : Str} (h : z.length = 5) : ∃ a b c d e, z = ⟨#[a, b, c, d, e]⟩ := by
  obtain ⟨⟨l⟩⟩ := z
  have h' : l.length = 5 := h
  match l, h' with
  | [a, b, c, d, e], _ => exact ⟨a, b, c, d, e, rfl⟩

theorem form_ne {z : Str} (h : z.length ≠ 5) : formL z.cps.toList = false := by
  obtain ⟨⟨l⟩⟩ := z
  have h' : l.length ≠ 5 := h
  match l, h' with
  | [], _ => rfl
  | [_], _ => rfl
  | [_, _], _ => rfl
  | [_, _, _], _ => rfl
  | [_, _, _, _], _ => rfl
  | [_, _, _, _, _], h => exact absurd rfl h
  | _ :: _ :: _ :: _ :: _ :: _ :: _, _ => rfl

theorem fig4 (a b d e : Nat) : figB ⟨#[a, b, d, e]⟩ = (dg a && dg b && dg d && dg e) := by
  unfold figB
  rw [decide_eq_false (show ¬ (V.str ⟨#[a, b, d, e]⟩ = V.str (Str.ofString "")) from fun z => by
    injection z with z1
    have z2 : (#[a, b, d, e] : Array Nat) = (Str.ofString "").cps := congrArg Str.cps z1
    have z3 := congrArg Array.size z2
    rw [show (Str.ofString "").cps.size = 0 by decide +kernel] at z3
    exact absurd (show (4 : Nat) = 0 from z3) (by decide))]
  simp only [List.map_cons, List.map_nil, inS_figs, List.all_cons, List.all_nil, Bool.not_false, Bool.true_and, id, Bool.and_true, Bool.and_assoc]

theorem colon (c : Nat) : decide (V.str ⟨#[c]⟩ = V.str (Str.ofString ":")) = decide (c = 58) := by
  refine decide_eq_decide.mpr ⟨fun z => ?_, fun z => by subst z; decide +kernel⟩
  injection z with z1
  have z2 : (#[c] : Array Nat) = (Str.ofString ":").cps := congrArg Str.cps z1
  rw [show (Str.ofString ":").cps = #[58] by decide +kernel] at z2
  simpa using z2

def dueL : List Nat → Option Nat
  | [a, b, c, d, e] => if formL [a, b, c, d, e] = true ∧ 10 * (a - 48) + (b - 48) ≤ 47 ∧ 10 * (d - 48) + (e - 48) ≤ 59 then some (60 * (10 * (a - 48) + (b - 48)) + (10 * (d - 48) + (e - 48))) else none
  | _ => none

def dueV : V → Option Nat
  | .str z => dueL z.cps.toList
  | _ => none

theorem due_no {l : List Nat} (h : formL l = false) : dueL l = none := by
  match l, h with
  | [], _ => rfl
  | [_], _ => rfl
  | [_, _], _ => rfl
  | [_, _, _], _ => rfl
  | [_, _, _, _], _ => rfl
  | [a, b, c, d, e], h =>
    show (if formL [a, b, c, d, e] = true ∧ _ then _ else _) = none
    rw [if_neg]
    rw [h]
    exact fun z => nomatch z.1
  | _ :: _ :: _ :: _ :: _ :: _ :: _, _ => rfl

theorem form5 {z : Str} (h : formL z.cps.toList = true) : ∃ a b c d e, z = ⟨#[a, b, c, d, e]⟩ := five (by
  by_cases h5 : z.length = 5
  · exact h5
  · rw [form_ne h5] at h; cases h)

theorem dg_of {c : Nat} (h : dg c = true) : 48 ≤ c ∧ c ≤ 57 := of_decide_eq_true h

theorem form_dg {a b c d e : Nat} (h : formL [a, b, c, d, e] = true) : (48 ≤ a ∧ a ≤ 57) ∧ (48 ≤ b ∧ b ≤ 57) ∧ c = 58 ∧ (48 ≤ d ∧ d ≤ 57) ∧ (48 ≤ e ∧ e ≤ 57) := by
  have h' : (decide (c = 58) && (dg a && dg b && dg d && dg e)) = true := h
  simp only [Bool.and_eq_true, decide_eq_true_eq] at h'
  exact ⟨dg_of h'.2.1.1.1, dg_of h'.2.1.1.2, h'.1, dg_of h'.2.1.2, dg_of h'.2.2⟩

theorem int2 {a b : Nat} (ha : 48 ≤ a ∧ a ≤ 57) (hb : 48 ≤ b ∧ b ≤ 57) : PySem.intText? ⟨#[a, b]⟩ = some ((10 * (a - 48) + (b - 48) : Nat) : Int) := by
  rw [PySem.intText_digits (x := ⟨#[a, b]⟩) (fun c hc => by
    have hc' : c ∈ [a, b] := hc
    simp only [List.mem_cons, List.not_mem_nil, or_false] at hc'
    rcases hc' with rfl | rfl
    · exact ha
    · exact hb) (by intro z; cases z) (by show 2 ≤ 4300; decide)]
  have e : PySem.NumText.digitsVal [a, b] = 10 * (a - 48) + (b - 48) := by
    show (0 * 10 + (a - 48)) * 10 + (b - 48) = _
    omega
  exact congrArg (fun n : Nat => some (n : Int)) e

def wholeV : V → Bool
  | .int _ => true
  | _ => false

theorem flat_ints (ns : List Int) : (ns.map V.int).all flatV = true := by
  rw [List.all_map]; exact List.all_eq_true.mpr fun _ _ => rfl

/- the tape at tp stands at k, all else of H is kept -/
structure Bump (tp : Addr) (k : Int) (H H' : Hp) : Prop where
  keep : ∀ b o, b ≠ tp → H b = some o → H' b = some o
  tape : H' tp = some (.lst [.int k])

theorem Bump.trans {tp : Addr} {k k' : Int} {H H1 H2 : Hp} (a : Bump tp k H H1) (b : Bump tp k' H1 H2) : Bump tp k' H H2 := ⟨fun c o n h => b.keep c o n (a.keep c o n h), b.tape⟩

theorem Bump.same {tp : Addr} {k : Int} {H H1 H2 : Hp} (a : Bump tp k H H1) (s : Same H1 H2) : Bump tp k H H2 := ⟨fun c o n h => s _ _ (a.keep c o n h), s _ _ a.tape⟩

/- a list of the module's own -/
def Own (K : PySem.W.Frag) (a : Addr) (xs : List V) : Prop := ∃ (o : Obj) (its : Array Value) (n : Nat), K.lookup a = some o ∧ o.cls = .type "list" ∧ o.dict = none ∧ o.data = .seq its n ∧ its.size ≤ sizeLine ∧ Vals xs its.toList
/- the script at a, apart from the tape at tp -/
def Scr (K : PySem.W.Frag) (H : Hp) (a tp : Addr) (ns : List Int) : Prop := (a ≠ tp ∧ Rd H a (.lst (ns.map V.int))) ∨ Own K a (ns.map V.int)
theorem Scr.sq {K : PySem.W.Frag} {H : Hp} {a tp : Addr} {ns : List Int} (h : Scr K H a tp ns) : SqL K H a (ns.map V.int) := h.imp (·.2) id
theorem Scr.same {K : PySem.W.Frag} {H H' : Hp} {a tp : Addr} {ns : List Int} (h : Scr K H a tp ns) (s : Same H H') : Scr K H' a tp ns :=
  h.imp (fun ⟨n, r⟩ => ⟨n, r.imp (s _ _) fun ⟨o, q⟩ => ⟨o, s _ _ q⟩⟩) id
theorem Bump.scr {K : PySem.W.Frag} {tp a : Addr} {k : Int} {H H' : Hp} {ns : List Int} (b : Bump tp k H H') (h : Scr K H a tp ns) : Scr K H' a tp ns :=
  h.imp (fun ⟨n, r⟩ => ⟨n, r.imp (b.keep _ _ n) fun ⟨o, q⟩ => ⟨o, b.keep _ _ n q⟩⟩) id
theorem Scr.new {K : PySem.W.Frag} {H : Hp} {a tp : Addr} {ns : List Int} (h : SqL K H a (ns.map V.int)) (n : H tp = none) (o : HO) : Scr K (upd H tp o) a tp ns := by
  rcases h with (h | ⟨u, h⟩) | h
  · exact .inl ⟨ne_of_none h n, .inl (by rw [upd_ne (ne_of_none h n)]; exact h)⟩
  · exact .inl ⟨ne_of_none h n, .inr ⟨u, by rw [upd_ne (ne_of_none h n)]; exact h⟩⟩
  · exact .inr h
theorem mulM {x y : Int} (h0 : 0 ≤ y) (h1 : y < 18446744073709551616) : CMul x y := .inr ⟨by omega, by omega⟩

theorem wr_eq (m : Nat) : wr m = ⟨#[48 + m / 60 / 10, 48 + m / 60 % 10, 58, 48 + m % 60 / 10, 48 + m % 60 % 10]⟩ := by
  unfold wr two
  rw [show Str.ofString ":" = ⟨#[58]⟩ by decide +kernel]
  rfl

theorem fig_at {i : Nat} (h : i < 10) : atI figs.cps.toList (i : Int) = some (48 + i) := by
  refine atI_nat ?_
  match i, h with
  | 0, _ => rfl
  | 1, _ => rfl
  | 2, _ => rfl
  | 3, _ => rfl
  | 4, _ => rfl
  | 5, _ => rfl
  | 6, _ => rfl
  | 7, _ => rfl
  | 8, _ => rfl
  | 9, _ => rfl

theorem fig_at' {i : Int} (h0 : 0 ≤ i) (h : i < 10) : atI (Str.ofString "0123456789").cps.toList i = some (48 + i.toNat) := by
  rw [figs_eq]
  have e : i = ((i.toNat : Nat) : Int) := by omega
  rw [e]
  exact fig_at (by omega)

theorem ten_le : (Str.ofString "0123456789").length ≤ sizeLine := by rw [figs_eq]; show 10 ≤ sizeLine; decide


def optV : Option Nat → V
  | none => .non
  | some m => .int (m : Nat)

theorem colonN (c : Nat) : (!decide (V.str ⟨#[c]⟩ = V.str (Str.ofString ":"))) = !decide (c = 58) := by rw [colon]

def toldV (wh : Int) (v : V) : Option V :=
  if wh = 0 then (if numV v 0 2879 = true then (match v with | .int i => some (.str (wr i.toNat)) | _ => none) else none) else (dueV v).map fun m => .int (m : Nat)

/- texts, none longer than 100 signs -/
def Short (xs : List V) : Prop := ∀ v ∈ xs, ∃ z : Str, v = .str z ∧ z.length ≤ 100

theorem short_at {xs : List V} (h : Short xs) {d : Int} (h0 : 0 ≤ d) (h1 : d < xs.length) : ∃ z : Str, atI xs d = some (.str z) ∧ z.length ≤ 100 := by
  have hl : d.toNat < xs.length := by omega
  obtain ⟨z, e, l⟩ := h xs[d.toNat] (List.getElem_mem hl)
  refine ⟨z, ?_, l⟩
  have q : atI xs ((d.toNat : Nat) : Int) = some xs[d.toNat] := atI_nat (List.getElem?_eq_getElem hl)
  rw [e] at q
  rw [show ((d.toNat : Nat) : Int) = d by omega] at q
  exact q

theorem short_nil : Short [] := fun _ h => by cases h

theorem short_cons {z : Str} {xs : List V} (h : z.length ≤ 100) (t : Short xs) : Short (.str z :: xs) := fun v hv => by
  rcases List.mem_cons.mp hv with rfl | hv
  · exact ⟨z, rfl, h⟩
  · exact t v hv

theorem short_app {xs ys : List V} (a : Short xs) (b : Short ys) : Short (xs ++ ys) := fun v hv => (List.mem_append.mp hv).elim (a v) (b v)

theorem len2 {a b : Str} {n m : Nat} (ha : a.length ≤ n) (hb : b.length ≤ m) : (a ++ b).length ≤ n + m := by rw [Str.length_append]; omega

theorem signs_len : (Str.ofString "0123456789:;- ./a").cps.toList.length = 17 := by decide +kernel

theorem sign_at {d : Int} (h0 : 0 ≤ d) (h1 : d < 17) : ∃ c, atI (Str.ofString "0123456789:;- ./a").cps.toList d = some c := by
  have hl : d.toNat < (Str.ofString "0123456789:;- ./a").cps.toList.length := by rw [signs_len]; omega
  refine ⟨(Str.ofString "0123456789:;- ./a").cps.toList[d.toNat], ?_⟩
  have q : atI (Str.ofString "0123456789:;- ./a").cps.toList ((d.toNat : Nat) : Int) = some (Str.ofString "0123456789:;- ./a").cps.toList[d.toNat] := atI_nat (List.getElem?_eq_getElem hl)
  rw [show ((d.toNat : Nat) : Int) = d by omega] at q
  exact q

theorem line100 {n : Nat} (h : n ≤ 100) : n ≤ sizeLine := Nat.le_trans h (by decide)

theorem due_wr {m : Nat} (h : m ≤ 2879) : dueL (wr m).cps.toList = some m := by
  rw [wr_eq]
  show (if formL _ = true ∧ 10 * (48 + m / 60 / 10 - 48) + (48 + m / 60 % 10 - 48) ≤ 47 ∧ 10 * (48 + m % 60 / 10 - 48) + (48 + m % 60 % 10 - 48) ≤ 59 then some (60 * (10 * (48 + m / 60 / 10 - 48) + (48 + m / 60 % 10 - 48)) + (10 * (48 + m % 60 / 10 - 48) + (48 + m % 60 % 10 - 48))) else none) = some m
  have e : ∀ x, x < 10 → dg (48 + x) = true := fun x hx => decide_eq_true ⟨by omega, by omega⟩
  have hf : formL [48 + m / 60 / 10, 48 + m / 60 % 10, 58, 48 + m % 60 / 10, 48 + m % 60 % 10] = true := by
    show (decide (58 = 58) && (dg (48 + m / 60 / 10) && dg (48 + m / 60 % 10) && dg (48 + m % 60 / 10) && dg (48 + m % 60 % 10))) = true
    rw [e _ (by omega), e _ (by omega), e _ (by omega), e _ (by omega)]
    rfl
  exact (if_pos ⟨hf, by omega, by omega⟩).trans (congrArg some (by omega))
theorem at_all {p : V → Prop} {xs : List V} {d : Int} (h : ∀ v ∈ xs, p v) (h0 : 0 ≤ d) (h1 : d < xs.length) : ∃ v, atI xs d = some v ∧ p v := by
  have hl : d.toNat < xs.length := by omega
  refine ⟨xs[d.toNat], ?_, h _ (List.getElem_mem hl)⟩
  have q : atI xs ((d.toNat : Nat) : Int) = some xs[d.toNat] := atI_nat (List.getElem?_eq_getElem hl)
  rw [show ((d.toNat : Nat) : Int) = d by omega] at q
  exact q
end K1

set_option Elab.async false
set_option linter.all false
set_option maxRecDepth 100000
set_option maxHeartbeats 4000000
namespace K1
open PySem L2
/-! numbers by figures, moments by texts -/
abbrev valL (l : List Nat) : Nat := PySem.NumText.digitsVal l
def numL (l : List Nat) : Option Nat := if l.length ≤ 5 ∧ l ≠ [] ∧ l.all dg = true ∧ ¬ (l.head? = some 48 ∧ l ≠ [48]) then some (valL l) else none
theorem str_eq_list {z y : Str} : decide (V.str z = V.str y) = decide (z.cps.toList = y.cps.toList) := by
  refine decide_eq_decide.mpr ⟨fun h => ?_, fun h => ?_⟩
  · injection h with h
    rw [h]
  · have : z.cps = y.cps := by
      rcases z with ⟨⟨a⟩⟩
      rcases y with ⟨⟨b⟩⟩
      exact congrArg List.toArray h
    exact congrArg V.str (Str.ext' this)
theorem figB_eq (z : Str) : figB z = (decide (z.cps.toList ≠ []) && z.cps.toList.all dg) := by
  unfold figB
  rw [str_eq_list, show (Str.ofString "").cps.toList = [] by decide +kernel]
  congr 1
  · by_cases h : z.cps.toList = []
    · rw [decide_eq_true h, decide_eq_false (fun q => q h)]; rfl
    · rw [decide_eq_false h, decide_eq_true h]; rfl
  · rw [List.all_map]
    congr 1
    funext c
    exact inS_figs c
theorem all_digits {l : List Nat} (h : l.all dg = true) : PySem.NumText.AllDigits l := fun c hc => of_decide_eq_true (List.all_eq_true.mp h c hc)
theorem int_val {z : Str} (h : z.cps.toList.all dg = true) (h1 : z.cps.toList ≠ []) (h2 : z.length ≤ 640) : PySem.intText? z = some ((valL z.cps.toList : Nat) : Int) := PySem.intText_digits (all_digits h) h1 (by omega)
def momL (l : List Nat) : Option Nat := match pos? 32 l with
  | none => none
  | some i => if 1 ≤ i ∧ i ≤ 4 ∧ (l.take i).all dg = true ∧ ¬ ((l.take i).head? = some 48 ∧ l.take i ≠ [48]) then (match dueL (l.drop (i + 1)) with
    | some m => if m < 1440 then some (1440 * valL (l.take i) + m) else none
    | none => none) else none
def momV : V → Option Nat
  | .str z => momL z.cps.toList
  | _ => none
/- the text of a moment -/
def mtx (d m : Nat) : Str := Str.ofString (toString (d : Int)) ++ Str.ofString " " ++ wr m
theorem str_len (z : Str) : z.cps.toList.length = z.length := by simp [Str.length]
theorem sl_to (z : Str) (j : Nat) (h : j ≤ z.length) : Txt.slice z none (some (j : Int)) = ⟨(z.cps.toList.take j).toArray⟩ := by
  have e := StrLaws.sliceText_to (x := z) (j := (j : Int)) ⟨by omega, by rw [str_len]; omega⟩
  rw [List.drop_zero, show ((j : Int) - 0).toNat = j by omega] at e
  exact e
theorem sl_from (z : Str) (j : Nat) (h : j ≤ z.length) : Txt.slice z (some (j : Int)) none = ⟨(z.cps.toList.drop j).toArray⟩ := by
  have e := StrLaws.sliceText_from (x := z) (i := (j : Int)) ⟨by omega, by rw [str_len]; omega⟩
  rw [show ((j : Int)).toNat = j by omega, List.take_of_length_le (by rw [List.length_drop]; omega)] at e
  exact e
theorem take_of_pos {l : List Nat} {i : Nat} (h : pos? 32 l = some i) : (l.take i).length = i ∧ i < l.length := by
  obtain ⟨h1, _⟩ := pos_some h
  have e := congrArg List.length h1
  simp only [List.length_append, List.length_cons, List.length_take, List.length_drop] at e
  constructor
  · rw [List.length_take]; omega
  · omega
theorem val5 {l : List Nat} (h5 : l.length = 5) (hd : l.all dg = true) (h0 : l.head? ≠ some 48) : 10000 ≤ valL l := by
  match l, h5 with
  | [a, b, c, d, e], _ =>
    have ha : 48 ≤ a ∧ a ≤ 57 := of_decide_eq_true (List.all_eq_true.mp hd a (by simp))
    have h0' : a ≠ 48 := fun z => h0 (by rw [z]; rfl)
    show 10000 ≤ ((((0 * 10 + (a - 48)) * 10 + (b - 48)) * 10 + (c - 48)) * 10 + (d - 48)) * 10 + (e - 48)
    omega
theorem val_lt : ∀ {l : List Nat}, l.all dg = true → valL l < 10 ^ l.length := fun {l} h => by
  have key : ∀ (l : List Nat) (acc n : Nat), acc < 10 ^ n → l.all dg = true → l.foldl (fun acc c => acc * 10 + (c - 48)) acc < 10 ^ (n + l.length) := by
    intro l
    induction l with
    | nil => intro acc n h _; simpa using h
    | cons c r ih =>
      intro acc n h hd
      rw [List.all_cons, Bool.and_eq_true] at hd
      have hc : 48 ≤ c ∧ c ≤ 57 := of_decide_eq_true hd.1
      have := ih (acc * 10 + (c - 48)) (n + 1) (by rw [Nat.pow_succ]; omega) hd.2
      rw [List.foldl_cons, List.length_cons]
      rw [show n + (r.length + 1) = n + 1 + r.length by omega]
      exact this
  have := key l 0 0 (by decide) h
  rw [Nat.zero_add] at this
  exact this
/- what the two words of a text make: number_by, minute_of, moment_of -/
theorem mom_words (l : List Nat) : momL l = (match spl 32 l with
    | [a, b] => (match numL a, dueL b with | some d, some m => if d ≤ 9999 ∧ m ≤ 1439 then some (d * 1440 + m) else none | _, _ => none)
    | _ => none) := by
  unfold momL
  cases hp : pos? 32 l with
  | none =>
    rw [spl_free 32 l (pos_none hp)]
  | some i =>
    obtain ⟨h1, h2⟩ := pos_some hp
    obtain ⟨t1, t2⟩ := take_of_pos hp
    have es : spl 32 l = l.take i :: spl 32 (l.drop (i + 1)) := (congrArg (spl 32) h1).trans (spl_cut 32 _ _ h2)
    rw [es]
    dsimp only
    clear es h1 hp
    generalize l.take i = A at *
    generalize l.drop (i + 1) = B at *
    -- B with a further blank is no clock
    have noClock : 32 ∈ B → dueL B = none := fun hm => due_no (by
      match B, hm with
      | [], hm => cases hm
      | [_], _ => rfl
      | [_, _], _ => rfl
      | [_, _, _], _ => rfl
      | [_, _, _, _], _ => rfl
      | [a, b, c, d, e], hm =>
        cases hf : formL [a, b, c, d, e] with
        | false => rfl
        | true =>
          obtain ⟨ha, hb, hc, hd, he⟩ := form_dg hf
          simp only [List.mem_cons, List.not_mem_nil, or_false] at hm
          omega
      | _ :: _ :: _ :: _ :: _ :: _ :: _, _ => rfl)
    by_cases hB32 : 32 ∈ B
    · rw [noClock hB32]
      have : ∃ x y r, spl 32 B = x :: y :: r := by
        cases hq : pos? 32 B with
        | none => exact absurd hB32 (pos_none hq)
        | some j =>
          obtain ⟨g1, g2⟩ := pos_some hq
          rw [g1, spl_cut 32 _ _ g2]
          cases hs : spl 32 (B.drop (j + 1)) with
          | nil => exact absurd hs (spl_ne _ _)
          | cons y r => exact ⟨_, y, r, rfl⟩
      obtain ⟨x, y, r, e⟩ := this
      rw [e]
      show (if _ then none else none) = none
      split <;> rfl
    · rw [spl_free 32 B hB32]
      show _ = (match numL A, dueL B with | some d, some m => if d ≤ 9999 ∧ m ≤ 1439 then some (d * 1440 + m) else none | _, _ => none)
      by_cases hc : 1 ≤ i ∧ i ≤ 4 ∧ A.all dg = true ∧ ¬ (A.head? = some 48 ∧ A ≠ [48])
      · rw [if_pos hc]
        have hn : numL A = some (valL A) := if_pos ⟨by omega, (fun z => by rw [z] at t1; simp at t1; omega), hc.2.2.1, hc.2.2.2⟩
        rw [hn]
        cases hd : dueL B with
        | none => rfl
        | some m =>
          show (if m < 1440 then some (1440 * valL A + m) else none) = if valL A ≤ 9999 ∧ m ≤ 1439 then some (valL A * 1440 + m) else none
          have hv := val_lt hc.2.2.1
          rw [t1] at hv
          have hv2 : valL A ≤ 9999 := by
            have : 10 ^ i ≤ 10 ^ 4 := Nat.pow_le_pow_right (by decide) hc.2.1
            have e4 : (10 : Nat) ^ 4 = 10000 := rfl
            omega
          by_cases hm : m < 1440
          · rw [if_pos hm, if_pos ⟨hv2, by omega⟩]
            exact congrArg some (by omega)
          · rw [if_neg hm, if_neg (fun z => hm (by omega))]
      · rw [if_neg hc]
        cases hn : numL A with
        | none => rfl
        | some d =>
          cases hd : dueL B with
          | none => rfl
          | some m =>
            show none = if d ≤ 9999 ∧ m ≤ 1439 then some (d * 1440 + m) else none
            unfold numL at hn
            split at hn
            · rename_i hh
              obtain ⟨k1, k2, k3, k4⟩ := hh
              cases hn
              have h5 : A.length = 5 := by
                have : ¬ A.length ≤ 4 := fun z => hc ⟨by
                  have : A.length ≠ 0 := fun y => k2 (List.length_eq_zero_iff.mp y)
                  omega, by omega, k3, k4⟩
                omega
              have h0 : A.head? ≠ some 48 := fun z => k4 ⟨z, fun y => by rw [y] at h5; cases h5⟩
              rw [if_neg (fun z => by have := val5 h5 k3 h0; omega)]
            · cases hn
theorem val_zero {r : List Nat} : valL (48 :: r) = valL r := rfl
theorem day_facts {d : Nat} (h : d < 10000) : ∀ l, l = (Str.ofString (toString ((d : Nat) : Int))).cps.toList → 1 ≤ l.length ∧ l.length ≤ 4 ∧ l.all dg = true ∧ ¬ (l.head? = some 48 ∧ l ≠ [48]) ∧ valL l = d ∧ 32 ∉ l := by
  intro l e
  rw [PySem.W.KIN.signs_num] at e
  have hl : l.length = (Nat.toDigits 10 d).length := by rw [e, List.length_map]
  have dig : ∀ c ∈ l, 48 ≤ c ∧ c ≤ 57 := fun c hc => by
    rw [e] at hc
    obtain ⟨ch, hch, e2⟩ := List.mem_map.mp hc
    have r := PyProof.Rows.digit_range (Nat.isDigit_of_mem_toDigits (by decide) (by decide) hch)
    rw [← e2]
    exact r
  have hall : l.all dg = true := List.all_eq_true.mpr fun c hc => decide_eq_true (dig c hc)
  have hv : valL l = d := by rw [e]; exact PySem.W.KIN.val_back d
  refine ⟨by rw [hl]; exact PyProof.Rows.tDigits_len_ge 10 d, by rw [hl]; exact PyProof.Rows.digits10_le (by decide) (show d < 10 ^ 4 from h), hall, fun ⟨z1, z2⟩ => ?_, hv, fun z => ?_⟩
  · match l, z1, z2, hl, hv, hall with
    | 48 :: r, _, z2, hl, hv, hall =>
      have hr : r ≠ [] := fun z => z2 (by rw [z])
      have hr1 : 1 ≤ r.length := by
        cases r with
        | nil => exact absurd rfl hr
        | cons _ _ => simp
      rw [List.all_cons, Bool.and_eq_true] at hall
      have lt := val_lt hall.2
      rw [val_zero] at hv
      rw [hv] at lt
      have le := PyProof.Rows.digits10_le hr1 lt
      rw [← hl, List.length_cons] at le
      omega
  · have := dig 32 z
    omega
theorem pos_app {A B : List Nat} (h : 32 ∉ A) : pos? 32 (A ++ 32 :: B) = some A.length := by
  induction A with
  | nil => rfl
  | cons x r ih =>
    have h1 : x ≠ 32 := fun z => h (by rw [z]; exact List.mem_cons_self)
    have h2 : 32 ∉ r := fun z => h (List.mem_cons_of_mem _ z)
    show (if x = 32 then some 0 else (pos? 32 (r ++ 32 :: B)).map (· + 1)) = _
    rw [if_neg h1, ih h2]
    rfl
theorem mtx_list (d m : Nat) : (mtx d m).cps.toList = (Str.ofString (toString ((d : Nat) : Int))).cps.toList ++ 32 :: (wr m).cps.toList := by
  unfold mtx
  rw [Str.cps_append, Str.cps_append, show (Str.ofString " ").cps = #[32] by decide +kernel]
  simp
end K1

set_option Elab.async false
set_option linter.all false
set_option maxRecDepth 100000
set_option maxHeartbeats 4000000
namespace K02
open PySem L2 K1
seal PySem.wpAny
def top (i : Nat) : Stmt := PySem.Challenge.pw_roadbook_k02_moments.main.body.getD i (.Pass ⟨0, 0, 0, 0⟩)
abbrev s_is_any_number : Stmt := top 17
theorem sc_is_any_number : FnScope ["value"] ["value"] (defScope s_is_any_number) := ⟨rfl, rfl, rfl, by decide +kernel, rfl, by decide +kernel, by decide +kernel⟩
abbrev s_is_number : Stmt := top 18
theorem sc_is_number : FnScope ["value", "least", "most"] ["value", "least", "most"] (defScope s_is_number) := ⟨rfl, rfl, rfl, by decide +kernel, rfl, by decide +kernel, by decide +kernel⟩
abbrev s_are_figures : Stmt := top 19
theorem sc_are_figures : FnScope ["text"] ["text"] (defScope s_are_figures) := ⟨rfl, rfl, rfl, by decide +kernel, rfl, by decide +kernel, by decide +kernel⟩
abbrev s_number_by : Stmt := top 20
theorem sc_number_by : FnScope ["text"] ["text"] (defScope s_number_by) := ⟨rfl, rfl, rfl, by decide +kernel, rfl, by decide +kernel, by decide +kernel⟩
abbrev s_two_figures : Stmt := top 27
theorem sc_two_figures : FnScope ["number"] ["number"] (defScope s_two_figures) := ⟨rfl, rfl, rfl, by decide +kernel, rfl, by decide +kernel, by decide +kernel⟩
abbrev s_clock_text : Stmt := top 28
theorem sc_clock_text : FnScope ["minute"] ["minute"] (defScope s_clock_text) := ⟨rfl, rfl, rfl, by decide +kernel, rfl, by decide +kernel, by decide +kernel⟩
abbrev s_has_clock_form : Stmt := top 29
theorem sc_has_clock_form : FnScope ["text"] ["text"] (defScope s_has_clock_form) := ⟨rfl, rfl, rfl, by decide +kernel, rfl, by decide +kernel, by decide +kernel⟩
abbrev s_minute_of : Stmt := top 30
theorem sc_minute_of : FnScope ["text", "minutes", "minute"] ["text"] (defScope s_minute_of) := ⟨rfl, rfl, rfl, by decide +kernel, rfl, by decide +kernel, by decide +kernel⟩
abbrev s_moment_of : Stmt := top 31
theorem sc_moment_of : FnScope ["day", "minute"] ["day", "minute"] (defScope s_moment_of) := ⟨rfl, rfl, rfl, by decide +kernel, rfl, by decide +kernel, by decide +kernel⟩
abbrev s_day_and_minute : Stmt := top 32
theorem sc_day_and_minute : FnScope ["moment"] ["moment"] (defScope s_day_and_minute) := ⟨rfl, rfl, rfl, by decide +kernel, rfl, by decide +kernel, by decide +kernel⟩
abbrev s_moment_text : Stmt := top 33
theorem sc_moment_text : FnScope ["moment", "parts"] ["moment"] (defScope s_moment_text) := ⟨rfl, rfl, rfl, by decide +kernel, rfl, by decide +kernel, by decide +kernel⟩
abbrev s_moment_by : Stmt := top 34
theorem sc_moment_by : FnScope ["text", "words"] ["text"] (defScope s_moment_by) := ⟨rfl, rfl, rfl, by decide +kernel, rfl, by decide +kernel, by decide +kernel⟩
abbrev s_law_cell : Stmt := top 36
theorem sc_law_cell : FnScope ["_law_script", "_law_k"] ["_law_script", "_law_k"] (defScope s_law_cell) := ⟨rfl, rfl, rfl, by decide +kernel, rfl, by decide +kernel, by decide +kernel⟩
abbrev s_law_draw : Stmt := top 37
theorem sc_law_draw : FnScope ["_law_script", "_law_tape", "_law_many", "_law_number"] ["_law_script", "_law_tape", "_law_many"] (defScope s_law_draw) := ⟨rfl, rfl, rfl, by decide +kernel, rfl, by decide +kernel, by decide +kernel⟩
abbrev s_law_whole : Stmt := top 38
theorem sc_law_whole : FnScope ["_law_found"] ["_law_found"] (defScope s_law_whole) := ⟨rfl, rfl, rfl, by decide +kernel, rfl, by decide +kernel, by decide +kernel⟩
abbrev s_law_class : Stmt := top 39
theorem sc_law_class : FnScope ["_law_error", "_law_words", "_law_found"] ["_law_error"] (defScope s_law_class) := ⟨rfl, rfl, rfl, by decide +kernel, rfl, by decide +kernel, by decide +kernel⟩
abbrev s_law_written : Stmt := top 40
theorem sc_law_written : FnScope ["_law_day", "_law_minute", "_law_figures", "_law_rest", "_law_clock"] ["_law_day", "_law_minute"] (defScope s_law_written) := ⟨rfl, rfl, rfl, by decide +kernel, rfl, by decide +kernel, by decide +kernel⟩
abbrev s_law_due : Stmt := top 41
theorem sc_law_due : FnScope ["_law_text", "_law_figures", "_law_at", "_law_word", "_law_clock"] ["_law_text"] (defScope s_law_due) := ⟨rfl, rfl, rfl, by decide +kernel, rfl, by decide +kernel, by decide +kernel⟩
abbrev s_law_told : Stmt := top 42
theorem sc_law_told : FnScope ["_law_which", "_law_thing", "_law_minute", "_law_caught", "_law_error"] ["_law_which", "_law_thing", "_law_minute"] (defScope s_law_told) := ⟨rfl, rfl, rfl, by decide +kernel, rfl, by decide +kernel, by decide +kernel⟩
abbrev s_law_changed : Stmt := top 43
theorem sc_law_changed : FnScope ["_law_script", "_law_tape", "_law_text", "_law_at", "_law_sign", "_law_some"] ["_law_script", "_law_tape", "_law_text"] (defScope s_law_changed) := ⟨rfl, rfl, rfl, by decide +kernel, rfl, by decide +kernel, by decide +kernel⟩
abbrev s_law_right : Stmt := top 44
theorem sc_law_right : FnScope ["_law_day", "_law_minute", "_law_moment", "_law_pair", "_law_text"] ["_law_day", "_law_minute"] (defScope s_law_right) := ⟨rfl, rfl, rfl, by decide +kernel, rfl, by decide +kernel, by decide +kernel⟩
abbrev s_law : Stmt := top 45
theorem sc_law : FnScope ["_law_script", "_law_tape", "_law_k", "_law_day", "_law_minute", "_law_other", "_law_due_here", "_law_found", "_law_number", "_law_odd", "_law_moment", "_law_thing", "_law_told_here"] ["_law_script"] (defScope s_law) := ⟨rfl, rfl, rfl, by decide +kernel, rfl, by decide +kernel, by decide +kernel⟩
theorem b_ValueError : bootBuiltins "ValueError" = some (.type "ValueError") := by decide +kernel
theorem b_all : bootBuiltins "all" = some (.builtin "all") := by decide +kernel
theorem b_bool : bootBuiltins "bool" = some (.type "bool") := by decide +kernel
theorem b_int : bootBuiltins "int" = some (.type "int") := by decide +kernel
theorem b_isinstance : bootBuiltins "isinstance" = some (.builtin "isinstance") := by decide +kernel
theorem b_len : bootBuiltins "len" = some (.builtin "len") := by decide +kernel
theorem b_max : bootBuiltins "max" = some (.builtin "max") := by decide +kernel
theorem b_str : bootBuiltins "str" = some (.type "str") := by decide +kernel
theorem b_tuple : bootBuiltins "tuple" = some (.type "tuple") := by decide +kernel
structure Adr where
  f_is_any_number : Addr
  d_is_any_number : FuncData
  f_is_number : Addr
  d_is_number : FuncData
  f_are_figures : Addr
  d_are_figures : FuncData
  f_number_by : Addr
  d_number_by : FuncData
  f_two_figures : Addr
  d_two_figures : FuncData
  f_clock_text : Addr
  d_clock_text : FuncData
  f_has_clock_form : Addr
  d_has_clock_form : FuncData
  f_minute_of : Addr
  d_minute_of : FuncData
  f_moment_of : Addr
  d_moment_of : FuncData
  f_day_and_minute : Addr
  d_day_and_minute : FuncData
  f_moment_text : Addr
  d_moment_text : FuncData
  f_moment_by : Addr
  d_moment_by : FuncData
  f_law_cell : Addr
  d_law_cell : FuncData
  f_law_draw : Addr
  d_law_draw : FuncData
  f_law_whole : Addr
  d_law_whole : FuncData
  f_law_class : Addr
  d_law_class : FuncData
  f_law_written : Addr
  d_law_written : FuncData
  f_law_due : Addr
  d_law_due : FuncData
  f_law_told : Addr
  d_law_told : FuncData
  f_law_changed : Addr
  d_law_changed : FuncData
  f_law_right : Addr
  d_law_right : FuncData
  f_law : Addr
  d_law : FuncData
  c_RoadError : Addr
  c_BadClock : Addr
  c_BadRule : Addr
  c_TooMany : Addr
  c_BadName : Addr
  c_Twice : Addr
  c_NoStop : Addr
  c_BadNumber : Addr
  c_BadCalls : Addr
  c_NoRun : Addr
  c_TooLate : Addr
  c_NoTraveller : Addr
  c_BadLine : Addr
structure Tab (K : PySem.W.Frag) (mg : Str → Option Value) (t : Adr) : Prop where
  z_ValueError : mg "ValueError" = none
  z_all : mg "all" = none
  z_bool : mg "bool" = none
  z_int : mg "int" = none
  z_isinstance : mg "isinstance" = none
  z_len : mg "len" = none
  z_max : mg "max" = none
  z_range : mg "range" = none
  z_str : mg "str" = none
  z_tuple : mg "tuple" = none
  m_FIGURES : ∃ tk, mg "FIGURES" = some (.str (Str.ofString "0123456789") tk)
  m_MOST_FIGURES : ∃ tk, mg "MOST_FIGURES" = some (.int 5 tk)
  m_LAST_DAY : ∃ tk, mg "LAST_DAY" = some (.int 9999 tk)
  m_DAY_MINUTES : ∃ tk, mg "DAY_MINUTES" = some (.int 1440 tk)
  m_HOUR_MINUTES : ∃ tk, mg "HOUR_MINUTES" = some (.int 60 tk)
  m_LAST_MINUTE : ∃ tk, mg "LAST_MINUTE" = some (.int 2879 tk)
  m_LAST_MOMENT : ∃ tk, mg "LAST_MOMENT" = some (.int 14399999 tk)
  F_is_any_number : Fun K "is_any_number" "is_any_number" s_is_any_number t.f_is_any_number t.d_is_any_number
  m_is_any_number : mg "is_any_number" = some (.ref t.f_is_any_number)
  b_is_any_number : Binds K t.d_is_any_number ["value"] []
  F_is_number : Fun K "is_number" "is_number" s_is_number t.f_is_number t.d_is_number
  m_is_number : mg "is_number" = some (.ref t.f_is_number)
  b_is_number : Binds K t.d_is_number ["value", "least", "most"] []
  F_are_figures : Fun K "are_figures" "are_figures" s_are_figures t.f_are_figures t.d_are_figures
  m_are_figures : mg "are_figures" = some (.ref t.f_are_figures)
  b_are_figures : Binds K t.d_are_figures ["text"] []
  F_number_by : Fun K "number_by" "number_by" s_number_by t.f_number_by t.d_number_by
  m_number_by : mg "number_by" = some (.ref t.f_number_by)
  b_number_by : Binds K t.d_number_by ["text"] []
  F_two_figures : Fun K "two_figures" "two_figures" s_two_figures t.f_two_figures t.d_two_figures
  m_two_figures : mg "two_figures" = some (.ref t.f_two_figures)
  b_two_figures : Binds K t.d_two_figures ["number"] []
  F_clock_text : Fun K "clock_text" "clock_text" s_clock_text t.f_clock_text t.d_clock_text
  m_clock_text : mg "clock_text" = some (.ref t.f_clock_text)
  b_clock_text : Binds K t.d_clock_text ["minute"] []
  F_has_clock_form : Fun K "has_clock_form" "has_clock_form" s_has_clock_form t.f_has_clock_form t.d_has_clock_form
  m_has_clock_form : mg "has_clock_form" = some (.ref t.f_has_clock_form)
  b_has_clock_form : Binds K t.d_has_clock_form ["text"] []
  F_minute_of : Fun K "minute_of" "minute_of" s_minute_of t.f_minute_of t.d_minute_of
  m_minute_of : mg "minute_of" = some (.ref t.f_minute_of)
  b_minute_of : Binds K t.d_minute_of ["text"] []
  F_moment_of : Fun K "moment_of" "moment_of" s_moment_of t.f_moment_of t.d_moment_of
  m_moment_of : mg "moment_of" = some (.ref t.f_moment_of)
  b_moment_of : Binds K t.d_moment_of ["day", "minute"] []
  F_day_and_minute : Fun K "day_and_minute" "day_and_minute" s_day_and_minute t.f_day_and_minute t.d_day_and_minute
  m_day_and_minute : mg "day_and_minute" = some (.ref t.f_day_and_minute)
  b_day_and_minute : Binds K t.d_day_and_minute ["moment"] []
  F_moment_text : Fun K "moment_text" "moment_text" s_moment_text t.f_moment_text t.d_moment_text
  m_moment_text : mg "moment_text" = some (.ref t.f_moment_text)
  b_moment_text : Binds K t.d_moment_text ["moment"] []
  F_moment_by : Fun K "moment_by" "moment_by" s_moment_by t.f_moment_by t.d_moment_by
  m_moment_by : mg "moment_by" = some (.ref t.f_moment_by)
  b_moment_by : Binds K t.d_moment_by ["text"] []
  F_law_cell : Fun K "_law_cell" "_law_cell" s_law_cell t.f_law_cell t.d_law_cell
  m_law_cell : mg "_law_cell" = some (.ref t.f_law_cell)
  b_law_cell : Binds K t.d_law_cell ["_law_script", "_law_k"] []
  F_law_draw : Fun K "_law_draw" "_law_draw" s_law_draw t.f_law_draw t.d_law_draw
  m_law_draw : mg "_law_draw" = some (.ref t.f_law_draw)
  b_law_draw : Binds K t.d_law_draw ["_law_script", "_law_tape", "_law_many"] []
  F_law_whole : Fun K "_law_whole" "_law_whole" s_law_whole t.f_law_whole t.d_law_whole
  m_law_whole : mg "_law_whole" = some (.ref t.f_law_whole)
  b_law_whole : Binds K t.d_law_whole ["_law_found"] []
  F_law_class : Fun K "_law_class" "_law_class" s_law_class t.f_law_class t.d_law_class
  m_law_class : mg "_law_class" = some (.ref t.f_law_class)
  b_law_class : Binds K t.d_law_class ["_law_error"] []
  F_law_written : Fun K "_law_written" "_law_written" s_law_written t.f_law_written t.d_law_written
  m_law_written : mg "_law_written" = some (.ref t.f_law_written)
  b_law_written : Binds K t.d_law_written ["_law_day", "_law_minute"] []
  F_law_due : Fun K "_law_due" "_law_due" s_law_due t.f_law_due t.d_law_due
  m_law_due : mg "_law_due" = some (.ref t.f_law_due)
  b_law_due : Binds K t.d_law_due ["_law_text"] []
  F_law_told : Fun K "_law_told" "_law_told" s_law_told t.f_law_told t.d_law_told
  m_law_told : mg "_law_told" = some (.ref t.f_law_told)
  b_law_told : Binds K t.d_law_told ["_law_which", "_law_thing", "_law_minute"] []
  F_law_changed : Fun K "_law_changed" "_law_changed" s_law_changed t.f_law_changed t.d_law_changed
  m_law_changed : mg "_law_changed" = some (.ref t.f_law_changed)
  b_law_changed : Binds K t.d_law_changed ["_law_script", "_law_tape", "_law_text"] []
  F_law_right : Fun K "_law_right" "_law_right" s_law_right t.f_law_right t.d_law_right
  m_law_right : mg "_law_right" = some (.ref t.f_law_right)
  b_law_right : Binds K t.d_law_right ["_law_day", "_law_minute"] []
  F_law : Fun K "law" "law" s_law t.f_law t.d_law
  m_law : mg "law" = some (.ref t.f_law)
  b_law : Binds K t.d_law ["_law_script"] []
  m_RoadError : mg "RoadError" = some (.ref t.c_RoadError)
  m_BadClock : mg "BadClock" = some (.ref t.c_BadClock)
  m_BadRule : mg "BadRule" = some (.ref t.c_BadRule)
  m_TooMany : mg "TooMany" = some (.ref t.c_TooMany)
  m_BadName : mg "BadName" = some (.ref t.c_BadName)
  m_Twice : mg "Twice" = some (.ref t.c_Twice)
  m_NoStop : mg "NoStop" = some (.ref t.c_NoStop)
  m_BadNumber : mg "BadNumber" = some (.ref t.c_BadNumber)
  m_BadCalls : mg "BadCalls" = some (.ref t.c_BadCalls)
  m_NoRun : mg "NoRun" = some (.ref t.c_NoRun)
  m_TooLate : mg "TooLate" = some (.ref t.c_TooLate)
  m_NoTraveller : mg "NoTraveller" = some (.ref t.c_NoTraveller)
  m_BadLine : mg "BadLine" = some (.ref t.c_BadLine)
  e_BadClock : ExC K t.c_BadClock
  i_BadClock : ExI K t.c_BadClock
  k_BadClock_BadClock : PySem.W.kitOne K (.ref t.c_BadClock) (.ref t.c_BadClock) = some true
  k_BadClock_BadRule : PySem.W.kitOne K (.ref t.c_BadClock) (.ref t.c_BadRule) = some false
  k_BadClock_TooMany : PySem.W.kitOne K (.ref t.c_BadClock) (.ref t.c_TooMany) = some false
  k_BadClock_BadName : PySem.W.kitOne K (.ref t.c_BadClock) (.ref t.c_BadName) = some false
  k_BadClock_Twice : PySem.W.kitOne K (.ref t.c_BadClock) (.ref t.c_Twice) = some false
  k_BadClock_NoStop : PySem.W.kitOne K (.ref t.c_BadClock) (.ref t.c_NoStop) = some false
  k_BadClock_BadNumber : PySem.W.kitOne K (.ref t.c_BadClock) (.ref t.c_BadNumber) = some false
  k_BadClock_BadCalls : PySem.W.kitOne K (.ref t.c_BadClock) (.ref t.c_BadCalls) = some false
  k_BadClock_NoRun : PySem.W.kitOne K (.ref t.c_BadClock) (.ref t.c_NoRun) = some false
  k_BadClock_TooLate : PySem.W.kitOne K (.ref t.c_BadClock) (.ref t.c_TooLate) = some false
  k_BadClock_NoTraveller : PySem.W.kitOne K (.ref t.c_BadClock) (.ref t.c_NoTraveller) = some false
  k_BadClock_BadLine : PySem.W.kitOne K (.ref t.c_BadClock) (.ref t.c_BadLine) = some false
  v_BadClock : PySem.W.kitOne K (.ref t.c_BadClock) (.type "ValueError") = some true
  x_BadClock : PySem.W.exmOne K (.ref t.c_BadClock) (.ref t.c_RoadError) = some true
section
variable {P : Program} {w : World} {K : PySem.W.Frag} {mg : Str → Option Value} {base : Heap} {t : Adr}
def spAnyN : Sp := fun vs H Q _ => ∃ (v : V) (T : String), vs = [v] ∧ Kd H v T ∧ Q (.bl (wholeV v)) H
theorem ok_is_any_number (Tx : Tab K mg t) : FnOk P w K mg base CX0 1 t.f_is_any_number t.d_is_any_number ["value"] spAnyN := by
  refine Tx.F_is_any_number.ok sc_is_any_number (fun vs H Q E h => ?_) (fun cdv A outer s H vs Q E hr h => ?_)
  · obtain ⟨v, T, rfl, _⟩ := h
    rfl
  obtain ⟨v, T, rfl, kd, q⟩ := h
  refine ⟨_, (pss_one (ps_ret (pe_and (pe_callB call_isi_ty rfl Tx.z_isinstance b_isinstance (pac (pv 0) (pac (pe_gty rfl Tx.z_int b_int) pa_nil))) (pe_one (pe_not (pe_callB call_isi_ty rfl Tx.z_isinstance b_isinstance (pac (pv 0) (pac (pe_gty rfl Tx.z_bool b_bool) pa_nil)))))))), ?_⟩
  refine ⟨_, rfl, v, "int", _, _, rfl, kd.ty, kit_int kd, _, rfl, ?_⟩
  cases kd with
  | non => exact itF (by decide) q
  | str x => exact itF (by decide) q
  | lst e => exact itF (by decide) q
  | tup e => exact itF (by decide) q
  | dK e => exact itF (by decide) q
  | bl b => exact itT (by decide) ⟨_, rfl, _, "bool", _, _, rfl, (Kd.bl b).ty (H := H), kit_bool (H := H) (.bl b), _, rfl, q⟩
  | int i => exact itT (by decide) ⟨_, rfl, _, "bool", _, _, rfl, (Kd.int i).ty (H := H), kit_bool (H := H) (.int i), _, rfl, q⟩

def spNum : Sp := fun vs H Q _ => ∃ (v : V) (lo hi : Int) (T : String), vs = [v, .int lo, .int hi] ∧ Kd H v T ∧ Q (.bl (numV v lo hi)) H
theorem ok_is_number (Tx : Tab K mg t) : FnOk P w K mg base CX0 2 t.f_is_number t.d_is_number ["value", "least", "most"] spNum := by
  refine Tx.F_is_number.ok sc_is_number (fun vs H Q E h => ?_) (fun cdv A outer s H vs Q E hr h => ?_)
  · obtain ⟨v, lo, hi, T, rfl, _⟩ := h
    rfl
  obtain ⟨v, lo, hi, T, rfl, kd, q⟩ := h
  refine ⟨_, (pss_one (ps_ret (pe_and (pe_call (ok_is_any_number Tx) (hr.mono (by omega)) rfl Tx.m_is_any_number Tx.F_is_any_number.kp Tx.b_is_any_number .nil pass0 (pac (pv 0) pa_nil)) (pe_one (pe_chain op_le op_le (pv 1) (pv 0) (pv 2)))))), ?_⟩
  refine ⟨_, rfl, v, T, rfl, kd, _, rfl, ?_⟩
  cases kd with
  | non => exact itF Bool.false_ne_true q
  | str x => exact itF Bool.false_ne_true q
  | lst e => exact itF Bool.false_ne_true q
  | tup e => exact itF Bool.false_ne_true q
  | dK e => exact itF Bool.false_ne_true q
  | bl b => exact itF Bool.false_ne_true q
  | int i =>
    refine itT rfl ?_
    refine ⟨_, rfl, _, rfl, _, _, rfl, rfl, _, rfl, ?_⟩
    refine ite2 (fun c => ?_) (fun c => ?_)
    · refine ⟨_, rfl, _, _, rfl, rfl, ?_⟩
      have c' : lo ≤ i := of_decide_eq_true c
      have e : decide (i ≤ hi) = numV (.int i) lo hi := by
        show decide (i ≤ hi) = decide (lo ≤ i ∧ i ≤ hi)
        exact decide_eq_decide.mpr ⟨fun z => ⟨c', z⟩, fun z => z.2⟩
      rw [← e] at q; exact q
    · have c' : ¬ lo ≤ i := of_decide_eq_false (Bool.eq_false_iff.mpr c)
      have e : false = numV (.int i) lo hi := by
        show false = decide (lo ≤ i ∧ i ≤ hi)
        exact (decide_eq_false fun z => c' z.1).symm
      rw [← e] at q; exact q


def spFig : Sp := fun vs H Q _ => ∃ z : Str, vs = [.str z] ∧ z.length ≤ sizeLine ∧ ∀ H', Same H H' → Q (.bl (figB z)) H'
theorem ok_are_figures (Tx : Tab K mg t) : FnOk P w K mg base CX0 1 t.f_are_figures t.d_are_figures ["text"] spFig := by
  refine Tx.F_are_figures.ok sc_are_figures (fun vs H Q E h => ?_) (fun cdv A outer s H vs Q E hr h => ?_)
  · obtain ⟨z, rfl, _⟩ := h
    rfl
  obtain ⟨z, rfl, hz, q⟩ := h
  obtain ⟨tk, mf⟩ := Tx.m_FIGURES
  rw [figs_eq] at mf
  refine ⟨_, (pss_one (ps_ret (pe_and (pe_cmpR op_ne (pv 0) pe_str (nomark _)) (pe_one (pe_callB (call_all_list rfl) rfl Tx.z_all b_all (pac (pe_compIn (cl := []) rfl (pv 0) rfl (by decide +kernel) rfl (by decide +kernel) rfl) pa_nil)))))), ?_⟩
  refine ⟨_, rfl, rfl, _, rfl, ?_⟩
  refine ite2 (fun c => ?_) (fun c => ?_)
  · refine ⟨figs, zread_glob (t := tk) rfl rfl mf, _, rfl, z, rfl, hz, fun p hp => ?_⟩
    refine ⟨p, z.cps.toList.map (fun c => inS figs c), rfl, SqL.of (by rw [upd_same, map_bl]), ?_⟩
    have e : ((z.cps.toList.map fun c => inS figs c).all id) = figB z := by
      unfold figB
      rw [show (!decide (V.str z = V.str (Str.ofString ""))) = true from c, Bool.true_and]
    have q2 := q _ (same_new hp (HO.lst (z.cps.toList.map fun c => V.bl (inS figs c))))
    rw [← e] at q2; exact q2
  · have e : false = figB z := by
      unfold figB
      rw [show (!decide (V.str z = V.str (Str.ofString ""))) = false from Bool.eq_false_iff.mpr c, Bool.false_and]
    have q2 := q _ (Same.refl _)
    rw [← e] at q2; exact q2


def spNumBy : Sp := fun vs H Q _ => ∃ z : Str, vs = [.str z] ∧ z.length ≤ sizeLine ∧ ∀ H', Same H H' → Q (optV (numL z.cps.toList)) H'
theorem ok_number_by (Tx : Tab K mg t) : FnOk P w K mg base CX0 2 t.f_number_by t.d_number_by ["text"] spNumBy := by
  refine Tx.F_number_by.ok sc_number_by (fun vs H Q E h => ?_) (fun cdv A outer s H vs Q E hr h => ?_)
  · obtain ⟨z, rfl, _⟩ := h
    rfl
  obtain ⟨z, rfl, hz, q⟩ := h
  refine ⟨_, (pss_cons (ps_if (PW.pt (pw_or (pt_cmpR op_gt (pe_callB call_len_str rfl Tx.z_len b_len (pac (pv 0) pa_nil)) (pe_gintE rfl Tx.m_MOST_FIGURES) (nomark _)) (pw_or1 (pt_not (pt_val (pe_call (ok_are_figures Tx) (hr.mono (by omega)) rfl Tx.m_are_figures Tx.F_are_figures.kp Tx.b_are_figures .nil pass0 (pac (pv 0) pa_nil)))))))
    (pss_one (ps_ret pe_non))
    pss_nil)
    (pss_cons (ps_if (PW.pt (pw_and (pt_cmpR op_eq (pe_ix ix_str (pv 0) pe_int (fun _ _ => rfl)) pe_str (nomark _)) (pw_and1 (pt_cmpR op_ne (pv 0) pe_str (nomark _)))))
    (pss_one (ps_ret pe_non))
    pss_nil)
    (pss_one (ps_ret (pe_callTy call_int_str rfl Tx.z_int b_int (pac (pv 0) pa_nil)))))), ?_⟩
  refine ⟨_, rfl, z, rfl, hz, _, _, rfl, rfl, _, rfl, ?_⟩
  have hl := str_len z
  by_cases h5 : z.length ≤ 5
  · refine itF (fun y => by have := of_decide_eq_true y; omega) ?_
    refine ⟨_, rfl, z, rfl, hz, fun H1 s1 => ⟨_, rfl, ?_⟩⟩
    have q1 := q H1 s1
    by_cases hf : figB z = true
    · refine itF (by rw [hf]; decide) ?_
      rw [figB_eq, Bool.and_eq_true] at hf
      have hne : z.cps.toList ≠ [] := of_decide_eq_true hf.1
      obtain ⟨c, r, ec⟩ := List.exists_cons_of_ne_nil hne
      have e0 : decide (V.str (⟨#[c]⟩ : Str) = V.str (Str.ofString "0")) = decide (c = 48) := by
        rw [str_eq_list, show (Str.ofString "0").cps.toList = [48] by decide +kernel]
        exact decide_eq_decide.mpr ⟨fun y => by simpa using y, fun y => by rw [y]⟩
      have e1 : decide (V.str z = V.str (Str.ofString "0")) = decide (z.cps.toList = [48]) := by
        rw [str_eq_list, show (Str.ofString "0").cps.toList = [48] by decide +kernel]
      have hv := int_val hf.2 hne (by omega)
      have fin : ¬ (z.cps.toList.head? = some 48 ∧ z.cps.toList ≠ [48]) → ∃ v, some (some (V.str z)) = some (some v) ∧ ∃ zz n, [v] = [V.str zz] ∧ PySem.intText? zz = some n ∧ zz.length ≤ 640 ∧ Q (.int n) H1 := fun hn => by
        rw [show numL z.cps.toList = some (valL z.cps.toList) from if_pos ⟨by omega, hne, hf.2, hn⟩] at q1
        exact ⟨_, rfl, z, _, rfl, hv, by omega, q1⟩
      refine ⟨_, rfl, _, 0, c, rfl, rfl, hz, (by rw [ec]; exact atI_nat (j := 0) rfl), rfl, _, rfl, ?_⟩
      by_cases h0 : c = 48
      · refine itT (by rw [e0, decide_eq_true h0]) ?_
        refine ⟨_, rfl, rfl, _, rfl, ?_⟩
        by_cases h1 : z.cps.toList = [48]
        · refine itF (by rw [e1, decide_eq_true h1]; decide) ?_
          exact fin fun y => y.2 h1
        · refine itT (by rw [e1, decide_eq_false h1]; rfl) ?_
          rw [show numL z.cps.toList = none from if_neg fun y => y.2.2.2 ⟨by rw [ec, h0]; rfl, h1⟩] at q1
          exact q1
      · refine itF (by rw [e0, decide_eq_false h0]; decide) ?_
        refine itF (by decide) ?_
        exact fin fun y => h0 (by have := y.1; rw [ec] at this; exact Option.some.inj this)
    · refine itT (by rw [Bool.eq_false_iff.mpr hf]; rfl) ?_
      rw [show numL z.cps.toList = none from if_neg fun y => hf (by rw [figB_eq, y.2.2.1, decide_eq_true y.2.1]; rfl)] at q1
      exact q1
  · refine itT (by refine decide_eq_true ?_; omega) ?_
    have q1 := q H (Same.refl _)
    rw [show numL z.cps.toList = none from if_neg fun y => h5 (by have := y.1; omega)] at q1
    exact q1

def spTwo : Sp := fun vs H Q _ => ∃ n : Int, vs = [.int n] ∧ 0 ≤ n ∧ n < 60 ∧ Q (.str (two n.toNat)) H
theorem ok_two_figures (Tx : Tab K mg t) : FnOk P w K mg base CX0 1 t.f_two_figures t.d_two_figures ["number"] spTwo := by
  refine Tx.F_two_figures.ok sc_two_figures (fun vs H Q E h => ?_) (fun cdv A outer s H vs Q E hr h => ?_)
  · obtain ⟨n, rfl, _⟩ := h
    rfl
  obtain ⟨n, rfl, h0, h1, q⟩ := h
  refine ⟨_, (pss_one (ps_ret (pe_bm PySem.F.plainAttrs_str PySem.F.slot_str_zfill PySem.F.type_str_zfill mt_zfill (pe_callTy call_str_int rfl Tx.z_str b_str (pac (pv 0) pa_nil)) (pac pe_int pa_nil)))), ?_⟩
  have e : n = ((n.toNat : Nat) : Int) := by omega
  refine ⟨_, rfl, n, rfl, log_small _ (by omega), rfl, _, 2, rfl, rfl, by decide +kernel, ?_⟩
  have e2 := two_ok n.toNat (by omega)
  rw [← e] at e2
  rw [← e2] at q; exact q


def spClk (BC : Addr) : Sp := fun vs H Q E => ∃ (v : V) (T : String), vs = [v] ∧ Kd H v T ∧ ((∃ m : Nat, v = .int m ∧ m ≤ 2879 ∧ Q (.str (wr m)) H) ∨ (numV v 0 2879 = false ∧ E (.ref BC) none H))
theorem ok_clock_text (Tx : Tab K mg t) : FnOk P w K mg base (CXO P w) 3 t.f_clock_text t.d_clock_text ["minute"] (spClk t.c_BadClock) := by
  refine Tx.F_clock_text.okX sc_clock_text (fun vs H Q E h => ?_) (fun cdv A outer s H vs Q E hr h => ?_)
  · obtain ⟨v, T, rfl, _⟩ := h
    rfl
  obtain ⟨v, T, rfl, kd, h⟩ := h
  refine ⟨_, (pss_cons (ps_if (pt_not (pt_val (pe_call (ok_is_number Tx) (hr.mono (by omega)) rfl Tx.m_is_number Tx.F_is_number.kp Tx.b_is_number .nil pass0 (pac (pv 0) (pac pe_int (pac (pe_gintE rfl Tx.m_LAST_MINUTE) pa_nil))))))
    (pss_one (ps_raise raises_fn Tx.e_BadClock rfl rfl Tx.m_BadClock (pac pe_str pa_nil)))
    pss_nil)
    (pss_one (ps_ret (pe_op op_add_str (pe_op op_add_str (pe_call (ok_two_figures Tx) (hr.mono (by omega)) rfl Tx.m_two_figures Tx.F_two_figures.kp Tx.b_two_figures .nil pass0 (pac (pe_op op_fdiv (pv 0) (pe_gintE rfl Tx.m_HOUR_MINUTES)) pa_nil)) pe_str) (pe_call (ok_two_figures Tx) (hr.mono (by omega)) rfl Tx.m_two_figures Tx.F_two_figures.kp Tx.b_two_figures .nil pass0 (pac (pe_op op_mod (pv 0) (pe_gintE rfl Tx.m_HOUR_MINUTES)) pa_nil)))))), ?_⟩
  refine ⟨_, rfl, v, 0, 2879, T, rfl, kd, _, rfl, ?_⟩
  rcases h with ⟨m, rfl, hm, q⟩ | ⟨e, q⟩
  · rw [show numV (.int (m : Int)) 0 2879 = true from decide_eq_true ⟨by omega, by omega⟩]
    refine iteF ?_
    refine ⟨_, rfl, _, _, rfl, rfl, ⟨by decide, by decide⟩, _, rfl, by omega, by omega, _, _, rfl, rfl, ?_, ?_⟩
    · show 3 ≤ sizeLine; decide
    refine ⟨_, rfl, _, _, rfl, rfl, (by show (0 : Int) < 60; decide), _, rfl, by omega, by omega, _, _, rfl, rfl, ?_, ?_⟩
    · show 5 ≤ sizeLine; decide
    · have e1 : ((m : Int) / 60).toNat = m / 60 := by omega
      have e2 : ((m : Int) % 60).toNat = m % 60 := by omega
      unfold wr at q; rw [← e1, ← e2] at q; exact q
  · rw [e]
    refine iteT ?_
    exact ⟨by show 1 ≤ sizeLine; decide, q⟩


def spForm : Sp := fun vs H Q _ => ∃ (v : V) (T : String), vs = [v] ∧ Kd H v T ∧ (∀ z, v = .str z → z.length ≤ sizeLine) ∧ ∀ H', Same H H' → Q (.bl (formV v)) H'
theorem ok_has_clock_form (Tx : Tab K mg t) : FnOk P w K mg base CX0 2 t.f_has_clock_form t.d_has_clock_form ["text"] spForm := by
  refine Tx.F_has_clock_form.ok sc_has_clock_form (fun vs H Q E h => ?_) (fun cdv A outer s H vs Q E hr h => ?_)
  · obtain ⟨v, T, rfl, _⟩ := h
    rfl
  obtain ⟨v, T, rfl, kd, hlen, q⟩ := h
  refine ⟨_, (pss_cons (ps_if (PW.pt (pw_or (pt_not (pt_val (pe_callB call_isi_ty rfl Tx.z_isinstance b_isinstance (pac (pv 0) (pac (pe_gty rfl Tx.z_str b_str) pa_nil))))) (pw_or1 (pt_cmpR op_ne (pe_callB call_len_str rfl Tx.z_len b_len (pac (pv 0) pa_nil)) pe_int (nomark _)))))
    (pss_one (ps_ret pe_bl))
    pss_nil)
    (pss_one (ps_ret (pe_and (pe_cmpR op_eq (pe_ix ix_str (pv 0) pe_int (fun _ _ => rfl)) pe_str (nomark _)) (pe_one (pe_call (ok_are_figures Tx) (hr.mono (by omega)) rfl Tx.m_are_figures Tx.F_are_figures.kp Tx.b_are_figures .nil pass0 (pac (pe_op op_add_str (pe_slice sl_str (pv 0) po_none (po_some pe_int)) (pe_slice sl_str (pv 0) (po_some pe_int) po_none)) pa_nil))))))), ?_⟩
  refine ⟨_, rfl, v, "str", _, _, rfl, kd.ty, kit_str kd, _, rfl, ?_⟩
  cases kd with
  | non => exact itT (by decide) (q _ (Same.refl _))
  | bl b => exact itT (by decide) (q _ (Same.refl _))
  | int i => exact itT (by decide) (q _ (Same.refl _))
  | lst e => exact itT (by decide) (q _ (Same.refl _))
  | tup e => exact itT (by decide) (q _ (Same.refl _))
  | dK e => exact itT (by decide) (q _ (Same.refl _))
  | str z =>
    refine itF (by decide) ?_
    refine ⟨_, rfl, z, rfl, hlen z rfl, rfl, _, rfl, ?_⟩
    by_cases h5 : z.length = 5
    · refine itF (by rw [h5]; decide) ?_
      obtain ⟨a, b, c, d, e, rfl⟩ := five h5
      refine ⟨_, rfl, _, 2, c, rfl, rfl, hlen _ rfl, rfl, rfl, _, rfl, ?_⟩
      by_cases hc : c = 58
      · refine itT (by rw [colon, decide_eq_true hc]) ?_
        refine ⟨_, rfl, 2, rfl, _, rfl, hlen _ rfl, _, rfl, 3, rfl, _, rfl, hlen _ rfl, _, _, rfl, rfl, ?_, ⟨#[a, b, d, e]⟩, ?_, ?_, fun H' sm => ?_⟩
        · rw [sl2, sl3]; show 4 ≤ sizeLine; decide
        · rw [sl2, sl3]; rfl
        · show 4 ≤ sizeLine; decide
        · have q2 := q H' sm
          rw [show formV (.str ⟨#[a, b, c, d, e]⟩) = figB ⟨#[a, b, d, e]⟩ by
            rw [fig4]; show (decide (c = 58) && _) = _; rw [decide_eq_true hc, Bool.true_and]] at q2
          exact q2
      · refine itF (by rw [colon, decide_eq_false hc]; decide) ?_
        have q2 := q _ (Same.refl _)
        rw [show formV (.str ⟨#[a, b, c, d, e]⟩) = false by
          show (decide (c = 58) && _) = _; rw [decide_eq_false hc, Bool.false_and]] at q2
        exact q2
    · have q2 := q _ (Same.refl _)
      rw [show formV (.str z) = false from form_ne h5] at q2
      refine itT ?_ q2
      rw [decide_eq_false (fun z1 => h5 (by injection z1 with z2; omega))]; rfl

def spMin (BC : Addr) : Sp := fun vs H Q E => ∃ (v : V) (T : String), vs = [v] ∧ Kd H v T ∧ (∀ z, v = .str z → z.length ≤ sizeLine) ∧
  (∀ m H', dueV v = some m → Same H H' → Q (.int (m : Nat)) H') ∧ (∀ H', dueV v = none → Same H H' → E (.ref BC) none H')
theorem ok_minute_of (Tx : Tab K mg t) : FnOk P w K mg base (CXO P w) 3 t.f_minute_of t.d_minute_of ["text"] (spMin t.c_BadClock) := by
  refine Tx.F_minute_of.okX sc_minute_of (fun vs H Q E h => ?_) (fun cdv A outer s H vs Q E hr h => ?_)
  · obtain ⟨v, T, rfl, _⟩ := h
    rfl
  obtain ⟨v, T, rfl, kd, hlen, hq, he⟩ := h
  refine ⟨_, (pss_cons (ps_if (pt_not (pt_val (pe_call (ok_has_clock_form Tx) (hr.mono (by omega)) rfl Tx.m_has_clock_form Tx.F_has_clock_form.kp Tx.b_has_clock_form .nil pass0 (pac (pv 0) pa_nil))))
    (pss_one (ps_raise raises_fn Tx.e_BadClock rfl rfl Tx.m_BadClock (pac pe_str pa_nil)))
    pss_nil)
    (pss_cons (ps_set (i := 1) sc_minute_of.nd rfl (Or.inl rfl) (pe_callTy call_int_str rfl Tx.z_int b_int (pac (pe_slice sl_str (pv 0) (po_some pe_int) po_none) pa_nil)))
    (pss_cons (ps_if (pt_cmpR op_ge (pv 1) (pe_gintE rfl Tx.m_HOUR_MINUTES) (nomark _))
    (pss_one (ps_raise raises_fn Tx.e_BadClock rfl rfl Tx.m_BadClock (pac pe_str pa_nil)))
    pss_nil)
    (pss_cons (ps_set (i := 2) sc_minute_of.nd rfl (Or.inl rfl) (pe_op op_add (pe_op op_mul (pe_callTy call_int_str rfl Tx.z_int b_int (pac (pe_slice sl_str (pv 0) po_none (po_some pe_int)) pa_nil)) (pe_gintE rfl Tx.m_HOUR_MINUTES)) (pv 1)))
    (pss_cons (ps_if (pt_cmpR op_gt (pv 2) (pe_gintE rfl Tx.m_LAST_MINUTE) (nomark _))
    (pss_one (ps_raise raises_fn Tx.e_BadClock rfl rfl Tx.m_BadClock (pac pe_str pa_nil)))
    pss_nil)
    (pss_one (ps_ret (pv 2)))))))), ?_⟩
  refine ⟨_, rfl, v, T, rfl, kd, hlen, fun H' sm => ⟨_, rfl, ?_⟩⟩
  by_cases hf : formV v = true
  · refine itF (by rw [hf]; decide) ?_
    cases v with
    | str z =>
      obtain ⟨a, b, c, d, e, rfl⟩ := form5 hf
      have hf' : formL [a, b, c, d, e] = true := hf
      obtain ⟨ha, hb, hc, hd, hee⟩ := form_dg hf'
      refine ⟨_, rfl, 3, rfl, _, rfl, hlen _ rfl, _, _, rfl, (by rw [sl3]; exact int2 hd hee), (by rw [sl3]; show 2 ≤ 640; decide), ?_⟩
      refine ⟨_, rfl, _, _, rfl, rfl, _, rfl, ?_⟩
      by_cases h60 : 10 * (d - 48) + (e - 48) ≤ 59
      · refine itF (by intro z; have := of_decide_eq_true z; omega) ?_
        refine ⟨_, rfl, 2, rfl, _, rfl, hlen _ rfl, _, _, rfl, (by rw [sl2]; exact int2 ha hb), (by rw [sl2]; show 2 ≤ 640; decide), _, _, rfl, rfl, .inr ⟨by decide, by decide⟩, _, rfl, _, _, rfl, rfl, ?_⟩
        refine ⟨_, rfl, _, _, rfl, rfl, _, rfl, ?_⟩
        by_cases h47 : 10 * (a - 48) + (b - 48) ≤ 47
        · refine itF (by intro z; have := of_decide_eq_true z; omega) ?_
          have q := hq _ H' (show dueL [a, b, c, d, e] = some _ from if_pos ⟨hf', h47, h60⟩) sm
          have e1 : ((60 * (10 * (a - 48) + (b - 48)) + (10 * (d - 48) + (e - 48)) : Nat) : Int) = ((10 * (a - 48) + (b - 48) : Nat) : Int) * 60 + ((10 * (d - 48) + (e - 48) : Nat) : Int) := by omega
          rw [e1] at q
          exact ⟨_, rfl, q⟩
        · refine itT (by refine decide_eq_true ?_; omega) ?_
          exact ⟨by show 1 ≤ sizeLine; decide, he H' (show dueL [a, b, c, d, e] = none from if_neg fun z => h47 z.2.1) sm⟩
      · refine itT (by refine decide_eq_true ?_; omega) ?_
        exact ⟨by show 1 ≤ sizeLine; decide, he H' (show dueL [a, b, c, d, e] = none from if_neg fun z => h60 z.2.2) sm⟩
    | _ => cases hf
  · have hf0 : formV v = false := Bool.eq_false_iff.mpr hf
    refine itT (by rw [hf0]; rfl) ?_
    refine ⟨by show 1 ≤ sizeLine; decide, he H' ?_ sm⟩
    cases v with
    | str z => exact due_no hf0
    | _ => rfl


def spMom (BC : Addr) : Sp := fun vs H Q E => ∃ (d m : V) (Td Tm : String), vs = [d, m] ∧ Kd H d Td ∧ Kd H m Tm ∧ (∀ i j : Int, d = .int i → m = .int j → 0 ≤ i → i ≤ 9999 → 0 ≤ j → j ≤ 1439 → Q (.int (i * 1440 + j)) H) ∧ ((numV d 0 9999 && numV m 0 1439) = false → E (.ref BC) none H)
theorem ok_moment_of (Tx : Tab K mg t) : FnOk P w K mg base (CXO P w) 3 t.f_moment_of t.d_moment_of ["day", "minute"] (spMom t.c_BadClock) := by
  refine Tx.F_moment_of.okX sc_moment_of (fun vs H Q E h => ?_) (fun cdv A outer s H vs Q E hr h => ?_)
  · obtain ⟨d, m, Td, Tm, rfl, _⟩ := h
    rfl
  obtain ⟨d, m, Td, Tm, rfl, kd, km, hq, he⟩ := h
  refine ⟨_, (pss_cons (ps_if (pt_not (pt_val (pe_call (ok_is_number Tx) (hr.mono (by omega)) rfl Tx.m_is_number Tx.F_is_number.kp Tx.b_is_number .nil pass0 (pac (pv 0) (pac pe_int (pac (pe_gintE rfl Tx.m_LAST_DAY) pa_nil))))))
    (pss_one (ps_raise raises_fn Tx.e_BadClock rfl rfl Tx.m_BadClock (pac pe_str pa_nil)))
    pss_nil)
    (pss_cons (ps_if (pt_not (pt_val (pe_call (ok_is_number Tx) (hr.mono (by omega)) rfl Tx.m_is_number Tx.F_is_number.kp Tx.b_is_number .nil pass0 (pac (pv 1) (pac pe_int (pac (pe_op op_sub (pe_gintE rfl Tx.m_DAY_MINUTES) pe_int) pa_nil))))))
    (pss_one (ps_raise raises_fn Tx.e_BadClock rfl rfl Tx.m_BadClock (pac pe_str pa_nil)))
    pss_nil)
    (pss_one (ps_ret (pe_op op_add (pe_op op_mul (pv 0) (pe_gintE rfl Tx.m_DAY_MINUTES)) (pv 1)))))), ?_⟩
  refine ⟨_, rfl, d, 0, 9999, Td, rfl, kd, _, rfl, ?_⟩
  by_cases hd : numV d 0 9999 = true
  · refine itF (by rw [hd]; decide) ?_
    refine ⟨_, rfl, _, _, rfl, rfl, m, 0, 1439, Tm, rfl, km, _, rfl, ?_⟩
    by_cases hm : numV m 0 1439 = true
    · refine itF (by rw [hm]; decide) ?_
      cases d with
      | int i =>
        cases m with
        | int j =>
          have b1 : 0 ≤ i ∧ i ≤ 9999 := of_decide_eq_true hd
          have b2 : 0 ≤ j ∧ j ≤ 1439 := of_decide_eq_true hm
          exact ⟨_, rfl, _, _, rfl, rfl, .inr ⟨by decide, by decide⟩, _, rfl, _, _, rfl, rfl, hq i j rfl rfl b1.1 b1.2 b2.1 b2.2⟩
        | _ => cases hm
      | _ => cases hd
    · refine itT (by rw [Bool.eq_false_iff.mpr hm]; rfl) ?_
      exact ⟨by show 1 ≤ sizeLine; decide, he (by rw [Bool.eq_false_iff.mpr hm, Bool.and_false])⟩
  · refine itT (by rw [Bool.eq_false_iff.mpr hd]; rfl) ?_
    exact ⟨by show 1 ≤ sizeLine; decide, he (by rw [Bool.eq_false_iff.mpr hd, Bool.false_and])⟩

def spDam (BC : Addr) : Sp := fun vs H Q E => ∃ (v : V) (T : String), vs = [v] ∧ Kd H v T ∧ (∀ i : Int, v = .int i → 0 ≤ i → i ≤ 14399999 → ∀ p, H p = none → Q (.ref p) (upd H p (.tup [.int (i / 1440), .int (i % 1440)]))) ∧ (numV v 0 14399999 = false → E (.ref BC) none H)
theorem ok_day_and_minute (Tx : Tab K mg t) : FnOk P w K mg base (CXO P w) 3 t.f_day_and_minute t.d_day_and_minute ["moment"] (spDam t.c_BadClock) := by
  refine Tx.F_day_and_minute.okX sc_day_and_minute (fun vs H Q E h => ?_) (fun cdv A outer s H vs Q E hr h => ?_)
  · obtain ⟨v, T, rfl, _⟩ := h
    rfl
  obtain ⟨v, T, rfl, kd, hq, he⟩ := h
  refine ⟨_, (pss_cons (ps_if (pt_not (pt_val (pe_call (ok_is_number Tx) (hr.mono (by omega)) rfl Tx.m_is_number Tx.F_is_number.kp Tx.b_is_number .nil pass0 (pac (pv 0) (pac pe_int (pac (pe_gintE rfl Tx.m_LAST_MOMENT) pa_nil))))))
    (pss_one (ps_raise raises_fn Tx.e_BadClock rfl rfl Tx.m_BadClock (pac pe_str pa_nil)))
    pss_nil)
    (pss_one (ps_ret (pe_tup (pac (pe_op op_fdiv (pv 0) (pe_gintE rfl Tx.m_DAY_MINUTES)) (pac (pe_op op_mod (pv 0) (pe_gintE rfl Tx.m_DAY_MINUTES)) pa_nil)))))), ?_⟩
  refine ⟨_, rfl, v, 0, 14399999, T, rfl, kd, _, rfl, ?_⟩
  by_cases hd : numV v 0 14399999 = true
  · refine itF (by rw [hd]; decide) ?_
    cases v with
    | int i =>
      have b1 : 0 ≤ i ∧ i ≤ 14399999 := of_decide_eq_true hd
      exact ⟨_, rfl, _, _, rfl, rfl, ⟨by decide, by decide⟩, _, rfl, _, _, rfl, rfl, (by show (0 : Int) < 1440; decide), by show 2 ≤ sizeLine; decide, fun p hp => hq i rfl b1.1 b1.2 p hp⟩
    | _ => cases hd
  · refine itT (by rw [Bool.eq_false_iff.mpr hd]; rfl) ?_
    exact ⟨by show 1 ≤ sizeLine; decide, he (Bool.eq_false_iff.mpr hd)⟩

theorem log_day : ∀ n : Nat, n < 10000 → n.log2 < 1920 := fun n h => by
  by_cases h0 : n = 0
  · subst h0; decide
  · exact Nat.lt_trans ((Nat.log2_lt h0 (k := 14)).mpr (Nat.lt_trans h (by decide))) (by decide)
theorem day_len {d : Nat} (h : d < 10000) : (Str.ofString (toString ((d : Nat) : Int))).length ≤ 4 := by
  obtain ⟨_, q, _⟩ := day_facts h _ rfl
  rw [str_len] at q
  exact q
def spMtx (BC : Addr) : Sp := fun vs H Q E => ∃ (v : V) (T : String), vs = [v] ∧ Kd H v T ∧ (∀ i : Nat, v = .int (i : Nat) → i ≤ 14399999 → ∀ H', Same H H' → Q (.str (mtx (i / 1440) (i % 1440))) H') ∧ (numV v 0 14399999 = false → E (.ref BC) none H)
theorem ok_moment_text (Tx : Tab K mg t) : FnOk P w K mg base (CXO P w) 4 t.f_moment_text t.d_moment_text ["moment"] (spMtx t.c_BadClock) := by
  refine Tx.F_moment_text.okX sc_moment_text (fun vs H Q E h => ?_) (fun cdv A outer s H vs Q E hr h => ?_)
  · obtain ⟨v, T, rfl, _⟩ := h
    rfl
  obtain ⟨v, T, rfl, kd, hq, he⟩ := h
  refine ⟨_, (pss_cons (ps_set (i := 1) sc_moment_text.nd rfl (Or.inl rfl) (pe_call (ok_day_and_minute Tx) (hr.mono (by omega)) rfl Tx.m_day_and_minute Tx.F_day_and_minute.kp Tx.b_day_and_minute .nil passes_fn (pac (pv 0) pa_nil)))
    (pss_one (ps_ret (pe_op op_add_str (pe_op op_add_str (pe_callTy call_str_int rfl Tx.z_str b_str (pac (pe_ix ix_tup (pv 1) pe_int (fun _ _ => rfl)) pa_nil)) pe_str) (pe_call (ok_clock_text Tx) (hr.mono (by omega)) rfl Tx.m_clock_text Tx.F_clock_text.kp Tx.b_clock_text .nil passes_fn (pac (pe_ix ix_tup (pv 1) pe_int (fun _ _ => rfl)) pa_nil)))))), ?_⟩
  refine ⟨_, rfl, v, T, rfl, kd, fun i ei h0 h1 p hp => ?_, he⟩
  obtain ⟨n, rfl⟩ := Int.eq_ofNat_of_zero_le h0
  have hn : n ≤ 14399999 := by omega
  have e1 : ((n : Nat) : Int) / 1440 = ((n / 1440 : Nat) : Int) := by omega
  have e2 : ((n : Nat) : Int) % 1440 = ((n % 1440 : Nat) : Int) := by omega
  have dl := day_len (d := n / 1440) (by omega)
  have sm := same_new hp (.tup [.int (((n : Nat) : Int) / 1440), .int (((n : Nat) : Int) % 1440)])
  refine ⟨_, rfl, p, _, 0, _, rfl, rfl, SqT.of upd_same, rfl, _, rfl, (by rw [e1]; exact log_day _ (by omega)), _, _, rfl, rfl, ?_, ?_⟩
  · rw [e1]
    show _ + 1 ≤ sizeLine
    exact Nat.le_trans (Nat.add_le_add_right dl 1) (by decide)
  refine ⟨_, rfl, p, _, 1, _, rfl, rfl, SqT.of upd_same, rfl, _, "int", rfl, .int _, .inl ⟨n % 1440, (by rw [e2]), (by omega), _, _, rfl, rfl, ?_, ?_⟩⟩
  · have wl : (wr (n % 1440)).length = 5 := by rw [wr_eq]; rfl
    rw [e1, Str.length_append, wl]
    show _ + 1 + 5 ≤ sizeLine
    exact Nat.le_trans (Nat.add_le_add_right (Nat.add_le_add_right dl 1) 5) (by decide)
  · have q2 := hq n ei hn _ sm
    unfold mtx at q2
    rw [← e1] at q2
    exact q2

def spMby (BC : Addr) : Sp := fun vs H Q E => ∃ (v : V) (T : String), vs = [v] ∧ Kd H v T ∧ (∀ z, v = .str z → z.length ≤ 1000) ∧
  (∀ m H', momV v = some m → Same H H' → Q (.int (m : Nat)) H') ∧ (∀ H', momV v = none → Same H H' → E (.ref BC) none H')
theorem spl_short (c : Nat) : ∀ (l : List Nat), ∀ p ∈ spl c l, p.length ≤ l.length
  | [], p, hp => by
    have : p = [] := by simpa [spl] using hp
    rw [this]
    exact Nat.le_refl _
  | x :: r, p, hp => by
    unfold spl at hp
    by_cases h : x = c
    · rw [if_pos h] at hp
      rcases List.mem_cons.mp hp with rfl | hp
      · exact Nat.zero_le _
      · exact Nat.le_succ_of_le (spl_short c r p hp)
    · rw [if_neg h] at hp
      cases q : spl c r with
      | nil => exact absurd q (spl_ne c r)
      | cons w ws =>
        rw [q] at hp
        rcases List.mem_cons.mp hp with rfl | hp
        · have := spl_short c r w (by rw [q]; exact List.mem_cons_self)
          rw [List.length_cons, List.length_cons]
          omega
        · exact Nat.le_succ_of_le (spl_short c r p (by rw [q]; exact List.mem_cons_of_mem _ hp))
theorem kd_opt {H : Hp} (o : Option Nat) : ∃ T, Kd H (optV o) T := by
  cases o with
  | none => exact ⟨_, .non⟩
  | some m => exact ⟨_, .int _⟩
theorem blank1 : Str.ofString " " = ⟨#[32]⟩ := by decide +kernel
theorem ok_moment_by (Tx : Tab K mg t) : FnOk P w K mg base (CXO P w) 4 t.f_moment_by t.d_moment_by ["text"] (spMby t.c_BadClock) := by
  refine Tx.F_moment_by.okX sc_moment_by (fun vs H Q E h => ?_) (fun cdv A outer s H vs Q E hr h => ?_)
  · obtain ⟨v, T, rfl, _⟩ := h
    rfl
  obtain ⟨v, T, rfl, kd, hlen, hq, he⟩ := h
  refine ⟨_, (pss_cons (ps_if (pt_not (pt_val (pe_callB call_isi_ty rfl Tx.z_isinstance b_isinstance (pac (pv 0) (pac (pe_gty rfl Tx.z_str b_str) pa_nil)))))
    (pss_one (ps_raise raises_fn Tx.e_BadClock rfl rfl Tx.m_BadClock (pac pe_str pa_nil)))
    pss_nil)
    (pss_cons (ps_set (i := 1) sc_moment_by.nd rfl (Or.inl rfl) (pe_bm PySem.F.plainAttrs_str PySem.F.slot_str_split PySem.F.type_str_split mt_split (pv 0) (pac pe_str pa_nil)))
    (pss_cons (ps_if (pt_cmpR op_ne (pe_callB call_len_seq rfl Tx.z_len b_len (pac (pv 1) pa_nil)) pe_int (nomark _))
    (pss_one (ps_raise raises_fn Tx.e_BadClock rfl rfl Tx.m_BadClock (pac pe_str pa_nil)))
    pss_nil)
    (pss_one (ps_ret (pe_call (ok_moment_of Tx) (hr.mono (by omega)) rfl Tx.m_moment_of Tx.F_moment_of.kp Tx.b_moment_of .nil passes_fn (pac (pe_call (ok_number_by Tx) (hr.mono (by omega)) rfl Tx.m_number_by Tx.F_number_by.kp Tx.b_number_by .nil pass0 (pac (pe_ix ix_list (pv 1) pe_int (fun _ _ => rfl)) pa_nil)) (pac (pe_call (ok_minute_of Tx) (hr.mono (by omega)) rfl Tx.m_minute_of Tx.F_minute_of.kp Tx.b_minute_of .nil passes_fn (pac (pe_ix ix_list (pv 1) pe_int (fun _ _ => rfl)) pa_nil)) pa_nil)))))))), ?_⟩
  refine ⟨_, rfl, v, "str", _, _, rfl, kd.ty, kit_str kd, _, rfl, ?_⟩
  cases kd with
  | non => exact itT (by decide) ⟨by show 1 ≤ sizeLine; decide, he _ rfl (Same.refl _)⟩
  | bl b => exact itT (by decide) ⟨by show 1 ≤ sizeLine; decide, he _ rfl (Same.refl _)⟩
  | int i => exact itT (by decide) ⟨by show 1 ≤ sizeLine; decide, he _ rfl (Same.refl _)⟩
  | lst e => exact itT (by decide) ⟨by show 1 ≤ sizeLine; decide, he _ rfl (Same.refl _)⟩
  | tup e => exact itT (by decide) ⟨by show 1 ≤ sizeLine; decide, he _ rfl (Same.refl _)⟩
  | dK e => exact itT (by decide) ⟨by show 1 ≤ sizeLine; decide, he _ rfl (Same.refl _)⟩
  | str z =>
    refine itF (by decide) ?_
    have hz := hlen z rfl
    have hz2 : z.length + 2 ≤ sizeLine := Nat.le_trans (Nat.add_le_add_right hz 2) (by decide)
    refine ⟨_, rfl, rfl, z, 32, rfl, (by rw [blank1]), hz2, fun p hp => ?_⟩
    have sm := same_new hp (.lst ((spl 32 z.cps.toList).map fun l => V.str ⟨l.toArray⟩))
    have hm := mom_words z.cps.toList
    have hsh := spl_short 32 z.cps.toList
    have hm' : momV (.str z) = momL z.cps.toList := rfl
    rw [hm] at hm'
    refine ⟨_, rfl, p, _, rfl, .inl (SqL.of upd_same), rfl, _, rfl, ?_⟩
    generalize hw : spl 32 z.cps.toList = ws at *
    by_cases h2 : ws.length = 2
    · refine itF (by rw [List.length_map, h2]; decide) ?_
      match ws, h2, hm', hsh, sm with
      | [a, b], _, hm', hsh, sm =>
        have la := hsh a (by simp)
        have lb := hsh b (by simp)
        rw [str_len] at la lb
        have sza : (⟨a.toArray⟩ : Str).length ≤ sizeLine := Nat.le_trans (show a.toArray.size ≤ 1000 by simp; omega) (by decide)
        have szb : (⟨b.toArray⟩ : Str).length ≤ sizeLine := Nat.le_trans (show b.toArray.size ≤ 1000 by simp; omega) (by decide)
        refine ⟨_, rfl, p, _, 0, _, rfl, rfl, SqL.of upd_same, rfl, ⟨a.toArray⟩, rfl, sza, fun H1 s1 => ?_⟩
        refine ⟨_, rfl, p, _, 1, _, rfl, rfl, SqL.of (s1 _ _ upd_same), rfl, .str ⟨b.toArray⟩, "str", rfl, .str _, (fun y e => by injection e with e; rw [← e]; exact szb), fun m H2 e s2 => ?_, fun H2 e s2 => ?_⟩
        · have e' : dueL b = some m := by simpa using (show dueL b.toArray.toList = some m from e)
          obtain ⟨Td, kd2⟩ := kd_opt (H := H2) (numL a)
          have ea : (⟨a.toArray⟩ : Str).cps.toList = a := by simp
          rw [ea]
          refine ⟨optV (numL a), .int (m : Nat), Td, "int", rfl, kd2, .int _, fun i j ei ej i0 i1 j0 j1 => ?_, fun hf => ?_⟩
          · cases hn : numL a with
            | none => rw [hn] at ei; cases ei
            | some d =>
              rw [hn] at ei
              have ei' : ((d : Nat) : Int) = i := V.int.inj ei
              have ej' : ((m : Nat) : Int) = j := V.int.inj ej
              have q2 := hq (d * 1440 + m) H2 (by rw [hm']; show (match numL a, dueL b with | some d, some m => _ | _, _ => none) = _; rw [hn, e']; exact if_pos ⟨by omega, by omega⟩) (sm.trans (s1.trans s2))
              rw [← ei', ← ej']
              have e3 : (((d * 1440 + m : Nat)) : Int) = ((d : Nat) : Int) * 1440 + ((m : Nat) : Int) := by omega
              rw [e3] at q2
              exact q2
          · refine he H2 ?_ (sm.trans (s1.trans s2))
            rw [hm']
            show (match numL a, dueL b with | some d, some m => (if d ≤ 9999 ∧ m ≤ 1439 then some (d * 1440 + m) else none) | _, _ => none) = none
            cases hn : numL a with
            | none => rfl
            | some d =>
              rw [e']
              refine if_neg fun ⟨z1, z2⟩ => ?_
              rw [hn] at hf
              have f1 : numV (optV (some d)) 0 9999 = true := decide_eq_true ⟨by omega, by omega⟩
              have f2 : numV (.int ((m : Nat) : Int)) 0 1439 = true := decide_eq_true ⟨by omega, by omega⟩
              rw [f1, f2] at hf
              cases hf
        · have e' : dueL b = none := by simpa using (show dueL b.toArray.toList = none from e)
          refine he H2 ?_ (sm.trans (s1.trans s2))
          rw [hm']
          show (match numL a, dueL b with | some d, some m => (if d ≤ 9999 ∧ m ≤ 1439 then some (d * 1440 + m) else none) | _, _ => none) = none
          rw [e']
          cases numL a <;> rfl
    · refine itT (by
        rw [List.length_map]
        rw [decide_eq_false (fun y => h2 (by injection y with y; omega))]
        rfl) ?_
      refine ⟨by show 1 ≤ sizeLine; decide, he _ ?_ sm⟩
      rw [hm']
      match ws, h2 with
      | [], _ => rfl
      | [_], _ => rfl
      | [_, _], h2 => exact absurd rfl h2
      | _ :: _ :: _ :: _, _ => rfl

def spWhole : Sp := fun vs H Q _ => ∃ (v : V) (T : String), vs = [v] ∧ Kd H v T ∧ Q (.bl (wholeV v)) H
theorem ok_law_whole (Tx : Tab K mg t) : FnOk P w K mg base CX0 1 t.f_law_whole t.d_law_whole ["_law_found"] spWhole := by
  refine Tx.F_law_whole.ok sc_law_whole (fun vs H Q E h => ?_) (fun cdv A outer s H vs Q E hr h => ?_)
  · obtain ⟨v, T, rfl, _⟩ := h
    rfl
  obtain ⟨v, T, rfl, kd, q⟩ := h
  refine ⟨_, (pss_one (ps_ret (pe_and (pe_callB call_isi_ty rfl Tx.z_isinstance b_isinstance (pac (pv 0) (pac (pe_gty rfl Tx.z_int b_int) pa_nil))) (pe_one (pe_not (pe_callB call_isi_ty rfl Tx.z_isinstance b_isinstance (pac (pv 0) (pac (pe_gty rfl Tx.z_bool b_bool) pa_nil)))))))), ?_⟩
  refine ⟨_, rfl, v, "int", _, _, rfl, kd.ty, kit_int kd, _, rfl, ?_⟩
  cases kd with
  | non => exact itF (by decide) q
  | str x => exact itF (by decide) q
  | lst e => exact itF (by decide) q
  | tup e => exact itF (by decide) q
  | dK e => exact itF (by decide) q
  | bl b => exact itT (by decide) ⟨_, rfl, _, "bool", _, _, rfl, (Kd.bl b).ty (H := H), kit_bool (H := H) (.bl b), _, rfl, q⟩
  | int i => exact itT (by decide) ⟨_, rfl, _, "bool", _, _, rfl, (Kd.int i).ty (H := H), kit_bool (H := H) (.int i), _, rfl, q⟩


def spCell (K : PySem.W.Frag) : Sp := fun vs H Q _ => ∃ (a : Addr) (ns : List Int) (k : Int), vs = [.ref a, .int k] ∧ SqL K H a (ns.map V.int) ∧ 0 ≤ k ∧ ∀ (i : Int) H', Same H H' → Q (.int i) H'
theorem ok_law_cell (Tx : Tab K mg t) : FnOk P w K mg base CX0 1 t.f_law_cell t.d_law_cell ["_law_script", "_law_k"] (spCell K) := by
  refine Tx.F_law_cell.ok sc_law_cell (fun vs H Q E h => ?_) (fun cdv A outer s H vs Q E hr h => ?_)
  · obtain ⟨a, ns, k, rfl, _⟩ := h
    rfl
  obtain ⟨a, ns, k, rfl, hS, h0, q⟩ := h
  refine ⟨_, (pss_cons (ps_if (pt_cmpR (op_eq_lst hr.units0) (pv 0) (pe_lst pa_nil) (nomark _))
    (pss_one (ps_ret pe_int))
    pss_nil)
    (pss_one (ps_ret (pe_ix ix_list (pv 0) (pe_op op_mod (pv 1) (pe_callB call_len_seq rfl Tx.z_len b_len (pac (pv 0) pa_nil))) (fun _ _ => rfl))))), ?_⟩
  refine ⟨_, rfl, (by show 0 ≤ sizeLine; decide), fun p hp => ?_⟩
  have sm := same_new hp (.lst [])
  refine ⟨a, p, _, _, rfl, rfl, sm.seq hS, SqL.of upd_same, flat_ints ns, rfl, _, rfl, ?_⟩
  cases ns with
  | nil => exact itT rfl (q 0 _ sm)
  | cons n r =>
    refine itF (by intro z; cases z) ?_
    have hl : (((n :: r).map V.int).length : Int) = ((n :: r).length : Int) := by rw [List.length_map]
    have hpos : (0 : Int) < (((n :: r).map V.int).length : Nat) := by rw [List.length_map, List.length_cons]; omega
    have hlt : (k % (((n :: r).map V.int).length : Nat)).toNat < (n :: r).length := by
      have h1 := Int.emod_nonneg k (show ((((n :: r).map V.int).length : Nat) : Int) ≠ 0 by omega)
      have h2 := Int.emod_lt_of_pos k hpos
      omega
    have h1 := Int.emod_nonneg k (show ((((n :: r).map V.int).length : Nat) : Int) ≠ 0 by omega)
    refine ⟨_, rfl, _, rfl, _, rfl, a, _, rfl, .inl (sm.seq hS), _, _, rfl, rfl, hpos, a, _, _, .int ((n :: r)[(k % (((n :: r).map V.int).length : Nat)).toNat]), rfl, rfl, sm.seq hS, ?_, q _ _ sm⟩
    · have e : k % (((n :: r).map V.int).length : Nat) = (((k % (((n :: r).map V.int).length : Nat)).toNat : Nat) : Int) := by omega
      have q2 : atI ((n :: r).map V.int) (((k % (((n :: r).map V.int).length : Nat)).toNat : Nat) : Int) = some (.int ((n :: r)[(k % (((n :: r).map V.int).length : Nat)).toNat])) := atI_nat (by rw [List.getElem?_map, List.getElem?_eq_getElem hlt]; rfl)
      rw [← e] at q2
      exact q2

def spDraw (K : PySem.W.Frag) : Sp := fun vs H Q _ => ∃ (a tp : Addr) (ns : List Int) (k n : Int), vs = [.ref a, .ref tp, .int n] ∧ Scr K H a tp ns ∧ H tp = some (.lst [.int k]) ∧ 0 ≤ k ∧ k ≤ 100000 ∧ 0 < n ∧ n < 1073741824 ∧
  ∀ (d : Int) H', 0 ≤ d → d < n → Bump tp (k + 1) H H' → Q (.int d) H'
theorem ok_law_draw (Tx : Tab K mg t) : FnOk P w K mg base CX0 2 t.f_law_draw t.d_law_draw ["_law_script", "_law_tape", "_law_many"] (spDraw K) := by
  refine Tx.F_law_draw.ok sc_law_draw (fun vs H Q E h => ?_) (fun cdv A outer s H vs Q E hr h => ?_)
  · obtain ⟨a, tp, ns, k, n, rfl, _⟩ := h
    rfl
  obtain ⟨a, tp, ns, k, n, rfl, hS, hT, h0, h1, hn0, hn1, q⟩ := h
  refine ⟨_, (pss_cons (ps_asg (pe_op op_add (pe_ix ix_list (pv 1) pe_int (fun _ _ => rfl)) pe_int) (pg_sub (pv 1) pe_int set_list))
    (pss_cons (ps_set (i := 3) sc_law_draw.nd rfl (Or.inl rfl) (pe_op op_add (pe_op op_add (pe_op op_mod (pe_call (ok_law_cell Tx) (hr.mono (by omega)) rfl Tx.m_law_cell Tx.F_law_cell.kp Tx.b_law_cell .nil pass0 (pac (pv 0) (pac (pe_op op_sub (pe_ix ix_list (pv 1) pe_int (fun _ _ => rfl)) pe_int) pa_nil))) pe_int) (pe_op op_mul pe_int (pe_ix ix_list (pv 1) pe_int (fun _ _ => rfl)))) pe_int))
    (pss_one (ps_ret (pe_op op_mod (pe_op op_fdiv (pe_op op_mod (pe_op op_mul (pe_op op_mod (pe_op op_mul (pv 3) (pv 3)) pe_int) (pv 3)) pe_int) pe_int) (pv 2)))))), ?_⟩
  refine ⟨_, rfl, tp, _, 0, _, rfl, rfl, SqL.of hT, rfl, _, _, rfl, rfl, _, rfl, tp, _, 0, 0, rfl, rfl, hT, rfl, ?_⟩
  have b1 : Bump tp (k + 1) H (upd H tp (.lst [.int (k + 1)])) := ⟨fun c o nn h => by rw [upd_ne nn]; exact h, upd_same⟩
  refine ⟨_, rfl, _, rfl, tp, _, 0, _, rfl, rfl, SqL.of b1.tape, rfl, _, _, rfl, rfl, a, ns, _, rfl, (b1.scr hS).sq, (by show 0 ≤ k + 1 - 1; omega), fun i H' sm => ?_⟩
  have b2 := b1.same sm
  refine ⟨_, _, rfl, rfl, (by show (0 : Int) < 1000000007; decide), _, rfl, tp, _, 0, _, rfl, rfl, SqL.of b2.tape, rfl, _, _, rfl, rfl, .inl ⟨by decide, by decide⟩, _, _, rfl, rfl, _, _, rfl, rfl, ?_⟩
  have g1 : 0 ≤ i % 1000000007 := Int.emod_nonneg _ (by decide)
  have g2 : i % 1000000007 < 1000000007 := Int.emod_lt_of_pos _ (by decide)
  generalize hv : i % 1000000007 + 7919 * (k + 1) + 13 = v
  have v0 : 0 ≤ v := by omega
  have v1 : v < 18446744073709551616 := by omega
  have e1 : (i % 1000000007 + 7919 * (k + 1) + 13 : Int) = v := hv
  refine ⟨_, rfl, _, rfl, _, _, rfl, rfl, mulM (by show 0 ≤ i % 1000000007 + 7919 * (k + 1) + 13; omega) (by show i % 1000000007 + 7919 * (k + 1) + 13 < _; omega), _, _, rfl, rfl, (by show (0 : Int) < 1000000007; decide), _, rfl, _, _, rfl, rfl,
    mulM (by show 0 ≤ i % 1000000007 + 7919 * (k + 1) + 13; omega) (by show i % 1000000007 + 7919 * (k + 1) + 13 < _; omega), _, _, rfl, rfl, (by show (0 : Int) < 998244353; decide), _, _, rfl, rfl, ⟨by decide, by decide⟩, _, rfl, _, _, rfl, rfl, hn0, ?_⟩
  exact q _ H' (Int.emod_nonneg _ (by omega)) (Int.emod_lt_of_pos _ hn0) b2


def spClass (BC : Addr) : Sp := fun vs H Q _ => ∃ a : Addr, vs = [.ref a] ∧ H a = some (exO a (.ref BC)) ∧ ∀ H', Same H H' → Q (.str (Str.ofString "clock")) H'
theorem ok_law_class (Tx : Tab K mg t) : FnOk P w K mg base CX0 1 t.f_law_class t.d_law_class ["_law_error"] (spClass t.c_BadClock) := by
  refine Tx.F_law_class.ok sc_law_class (fun vs H Q E h => ?_) (fun cdv A outer s H vs Q E hr h => ?_)
  · obtain ⟨a, rfl, _⟩ := h
    rfl
  obtain ⟨a, rfl, ha, q⟩ := h
  refine ⟨_, (pss_cons (ps_set (i := 1) sc_law_class.nd rfl (Or.inl rfl) (pe_lst (pac pe_str (pac pe_str (pac pe_str (pac pe_str (pac pe_str (pac pe_str (pac pe_str pa_nil)))))))))
    (pss_cons (ps_set (i := 1) sc_law_class.nd rfl (Or.inl rfl) (pe_op op_cat (pv 1) (pe_lst (pac pe_str (pac pe_str (pac pe_str (pac pe_str (pac pe_str pa_nil))))))))
    (pss_cons (ps_set (i := 2) sc_law_class.nd rfl (Or.inl rfl) (pe_lst (pac (pe_callB call_isi_exc rfl Tx.z_isinstance b_isinstance (pac (pv 0) (pac (pe_gref rfl Tx.m_BadClock) pa_nil))) (pac (pe_callB call_isi_exc rfl Tx.z_isinstance b_isinstance (pac (pv 0) (pac (pe_gref rfl Tx.m_BadRule) pa_nil))) (pac (pe_callB call_isi_exc rfl Tx.z_isinstance b_isinstance (pac (pv 0) (pac (pe_gref rfl Tx.m_TooMany) pa_nil))) pa_nil)))))
    (pss_cons (ps_set (i := 2) sc_law_class.nd rfl (Or.inl rfl) (pe_op op_cat (pv 2) (pe_lst (pac (pe_callB call_isi_exc rfl Tx.z_isinstance b_isinstance (pac (pv 0) (pac (pe_gref rfl Tx.m_BadName) pa_nil))) (pac (pe_callB call_isi_exc rfl Tx.z_isinstance b_isinstance (pac (pv 0) (pac (pe_gref rfl Tx.m_Twice) pa_nil))) (pac (pe_callB call_isi_exc rfl Tx.z_isinstance b_isinstance (pac (pv 0) (pac (pe_gref rfl Tx.m_NoStop) pa_nil))) pa_nil))))))
    (pss_cons (ps_set (i := 2) sc_law_class.nd rfl (Or.inl rfl) (pe_op op_cat (pv 2) (pe_lst (pac (pe_callB call_isi_exc rfl Tx.z_isinstance b_isinstance (pac (pv 0) (pac (pe_gref rfl Tx.m_BadNumber) pa_nil))) (pac (pe_callB call_isi_exc rfl Tx.z_isinstance b_isinstance (pac (pv 0) (pac (pe_gref rfl Tx.m_BadCalls) pa_nil))) (pac (pe_callB call_isi_exc rfl Tx.z_isinstance b_isinstance (pac (pv 0) (pac (pe_gref rfl Tx.m_NoRun) pa_nil))) pa_nil))))))
    (pss_cons (ps_set (i := 2) sc_law_class.nd rfl (Or.inl rfl) (pe_op op_cat (pv 2) (pe_lst (pac (pe_callB call_isi_exc rfl Tx.z_isinstance b_isinstance (pac (pv 0) (pac (pe_gref rfl Tx.m_TooLate) pa_nil))) (pac (pe_callB call_isi_exc rfl Tx.z_isinstance b_isinstance (pac (pv 0) (pac (pe_gref rfl Tx.m_NoTraveller) pa_nil))) (pac (pe_callB call_isi_exc rfl Tx.z_isinstance b_isinstance (pac (pv 0) (pac (pe_gref rfl Tx.m_BadLine) pa_nil))) pa_nil))))))
    (pss_cons (ps_if (PW.pt (pw_or (pt_cmpR op_ne (pe_bm PySem.F.plainAttrs_list PySem.F.slot_list_count PySem.F.type_list_count mt_count (pv 2) (pac pe_bl pa_nil)) pe_int (nomark _)) (pw_or1 (pt_not (pt_val (pe_callB call_isi_excT rfl Tx.z_isinstance b_isinstance (pac (pv 0) (pac (pe_gty rfl Tx.z_ValueError b_ValueError) pa_nil))))))))
    (pss_one (ps_ret pe_str))
    pss_nil)
    (pss_one (ps_ret (pe_ix ix_list (pv 1) (pe_bm PySem.F.plainAttrs_list PySem.F.slot_list_index PySem.F.type_list_index mt_index (pv 2) (pac pe_bl pa_nil)) (fun _ _ => rfl))))))))))), ?_⟩
  refine ⟨by show 7 ≤ sizeLine; decide, fun p1 h1 => ?_⟩
  have s1 := same_new h1 (.lst [.str (Str.ofString "clock"), .str (Str.ofString "rule"), .str (Str.ofString "many"), .str (Str.ofString "name"), .str (Str.ofString "twice"), .str (Str.ofString "stop"), .str (Str.ofString "number")])
  refine ⟨_, rfl, by show 5 ≤ sizeLine; decide, fun p2 h2 => ?_⟩
  have s2 := same_new h2 (.lst [.str (Str.ofString "calls"), .str (Str.ofString "run"), .str (Str.ofString "late"), .str (Str.ofString "traveller"), .str (Str.ofString "line")])
  refine ⟨p1, p2, _, _, rfl, rfl, s2 _ _ upd_same, upd_same, by show 12 ≤ sizeLine; decide, fun p3 h3 => ?_⟩
  have s3 := s1.trans (s2.trans (same_new h3 (.lst ([.str (Str.ofString "clock"), .str (Str.ofString "rule"), .str (Str.ofString "many"), .str (Str.ofString "name"), .str (Str.ofString "twice"), .str (Str.ofString "stop"), .str (Str.ofString "number")] ++ [.str (Str.ofString "calls"), .str (Str.ofString "run"), .str (Str.ofString "late"), .str (Str.ofString "traveller"), .str (Str.ofString "line")]))))
  have a3 := s3 _ _ ha
  refine ⟨_, rfl, a, t.c_BadClock, t.c_BadClock, _, rfl, a3, Tx.i_BadClock, Tx.k_BadClock_BadClock, _, rfl, a, t.c_BadClock, t.c_BadRule, _, rfl, a3, Tx.i_BadClock, Tx.k_BadClock_BadRule, _, rfl, a, t.c_BadClock, t.c_TooMany, _, rfl, a3, Tx.i_BadClock, Tx.k_BadClock_TooMany, by show 3 ≤ sizeLine; decide, fun p4 h4 => ?_⟩
  have s4 := same_new h4 (.lst [.bl true, .bl false, .bl false])
  have a4 := s4 _ _ a3
  refine ⟨_, rfl, _, rfl, a, t.c_BadClock, t.c_BadName, _, rfl, a4, Tx.i_BadClock, Tx.k_BadClock_BadName, _, rfl, a, t.c_BadClock, t.c_Twice, _, rfl, a4, Tx.i_BadClock, Tx.k_BadClock_Twice, _, rfl, a, t.c_BadClock, t.c_NoStop, _, rfl, a4, Tx.i_BadClock, Tx.k_BadClock_NoStop, by show 3 ≤ sizeLine; decide, fun p5 h5 => ?_⟩
  have s5 := same_new h5 (.lst [.bl false, .bl false, .bl false])
  refine ⟨p4, p5, _, _, rfl, rfl, s5 _ _ upd_same, upd_same, by show 6 ≤ sizeLine; decide, fun p6 h6 => ?_⟩
  have s6 := s5.trans (same_new h6 (.lst [.bl true, .bl false, .bl false, .bl false, .bl false, .bl false]))
  have a6 := s6 _ _ a4
  refine ⟨_, rfl, _, rfl, a, t.c_BadClock, t.c_BadNumber, _, rfl, a6, Tx.i_BadClock, Tx.k_BadClock_BadNumber, _, rfl, a, t.c_BadClock, t.c_BadCalls, _, rfl, a6, Tx.i_BadClock, Tx.k_BadClock_BadCalls, _, rfl, a, t.c_BadClock, t.c_NoRun, _, rfl, a6, Tx.i_BadClock, Tx.k_BadClock_NoRun, by show 3 ≤ sizeLine; decide, fun p7 h7 => ?_⟩
  have s7 := same_new h7 (.lst [.bl false, .bl false, .bl false])
  refine ⟨p6, p7, _, _, rfl, rfl, s7 _ _ upd_same, upd_same, by show 9 ≤ sizeLine; decide, fun p8 h8 => ?_⟩
  have s8 := s7.trans (same_new h8 (.lst [.bl true, .bl false, .bl false, .bl false, .bl false, .bl false, .bl false, .bl false, .bl false]))
  have a8 := s8 _ _ a6
  refine ⟨_, rfl, _, rfl, a, t.c_BadClock, t.c_TooLate, _, rfl, a8, Tx.i_BadClock, Tx.k_BadClock_TooLate, _, rfl, a, t.c_BadClock, t.c_NoTraveller, _, rfl, a8, Tx.i_BadClock, Tx.k_BadClock_NoTraveller, _, rfl, a, t.c_BadClock, t.c_BadLine, _, rfl, a8, Tx.i_BadClock, Tx.k_BadClock_BadLine, by show 3 ≤ sizeLine; decide, fun p9 h9 => ?_⟩
  have s9 := same_new h9 (.lst [.bl false, .bl false, .bl false])
  refine ⟨p8, p9, _, _, rfl, rfl, s9 _ _ upd_same, upd_same, by show 12 ≤ sizeLine; decide, fun p10 h10 => ?_⟩
  have s10 := s9.trans (same_new h10 (.lst [.bl true, .bl false, .bl false, .bl false, .bl false, .bl false, .bl false, .bl false, .bl false, .bl false, .bl false, .bl false]))
  have a10 := s10 _ _ a8
  refine ⟨_, rfl, .inl ⟨rfl, _, SqL.of upd_same⟩, p10, _, _, rfl, rfl, upd_same, rfl, rfl, rfl, _, rfl, ?_⟩
  refine itF (by decide) ?_
  refine ⟨_, rfl, a, t.c_BadClock, "ValueError", _, rfl, a10, Tx.i_BadClock, Tx.v_BadClock, _, rfl, ?_⟩
  refine itF (by decide) ?_
  refine ⟨_, rfl, _, rfl, .inl ⟨rfl, _, SqL.of upd_same⟩, p10, _, _, 0, .bl true, rfl, rfl, upd_same, rfl, rfl, rfl, rfl, (fun m z' hm => absurd hm (Nat.not_lt_zero _)), p3, _, 0, _, rfl, rfl, SqL.of (s10 _ _ (s8 _ _ (s6 _ _ (s4 _ _ upd_same)))), rfl, ?_⟩
  exact q _ (s3.trans (s4.trans (s6.trans (s8.trans s10))))

def spWritten : Sp := fun vs H Q _ => ∃ d m : Nat, vs = [.int (d : Nat), .int (m : Nat)] ∧ d ≤ 9999 ∧ m ≤ 1439 ∧ Q (.str (mtx d m)) H
theorem mtx_eq (d m : Nat) : mtx d m = Str.ofString (toString ((d : Nat) : Int)) ++ Str.ofString " " ++ (⟨#[48 + m / 60 / 10, 48 + m / 60 % 10, 58]⟩ : Str) ++ ⟨#[48 + m % 60 / 10]⟩ ++ ⟨#[48 + m % 60 % 10]⟩ := by
  unfold mtx
  rw [wr_eq]
  refine Str.ext' ?_
  simp only [Str.cps_append, Array.append_assoc]
  rfl
theorem ok_law_written (Tx : Tab K mg t) : FnOk P w K mg base CX0 1 t.f_law_written t.d_law_written ["_law_day", "_law_minute"] spWritten := by
  refine Tx.F_law_written.ok sc_law_written (fun vs H Q E h => ?_) (fun cdv A outer s H vs Q E hr h => ?_)
  · obtain ⟨d, m, rfl, _⟩ := h
    rfl
  obtain ⟨d, m, rfl, hd, hm, q⟩ := h
  have dl := day_len (d := d) (by omega)
  have bl : (Str.ofString " ").length = 1 := by decide +kernel
  have cl : (Str.ofString ":") = ⟨#[58]⟩ := by decide +kernel
  refine ⟨_, (pss_cons (ps_set (i := 2) sc_law_written.nd rfl (Or.inl rfl) pe_str)
    (pss_cons (ps_set (i := 3) sc_law_written.nd rfl (Or.inl rfl) (pe_op op_mod (pv 1) pe_int))
    (pss_cons (ps_set (i := 4) sc_law_written.nd rfl (Or.inl rfl) (pe_op op_add_str (pe_op op_add_str (pe_ix ix_str (pv 2) (pe_op op_fdiv (pv 1) pe_int) (fun _ _ => rfl)) (pe_ix ix_str (pv 2) (pe_op op_mod (pe_op op_fdiv (pv 1) pe_int) pe_int) (fun _ _ => rfl))) pe_str))
    (pss_one (ps_ret (pe_op op_add_str (pe_op op_add_str (pe_op op_add_str (pe_op op_add_str (pe_callTy call_str_int rfl Tx.z_str b_str (pac (pv 0) pa_nil)) pe_str) (pv 4)) (pe_ix ix_str (pv 2) (pe_op op_fdiv (pv 3) pe_int) (fun _ _ => rfl))) (pe_ix ix_str (pv 2) (pe_op op_mod (pv 3) pe_int) (fun _ _ => rfl)))))))), ?_⟩
  refine ⟨_, rfl, _, _, rfl, rfl, (by show (0 : Int) < 60; decide), ?_⟩
  refine ⟨_, rfl, _, rfl, _, _, rfl, rfl, ⟨by decide, by decide⟩, _, _, _, rfl, rfl, ten_le, fig_at' (by omega) (by omega), ?_⟩
  refine ⟨_, rfl, _, rfl, _, _, rfl, rfl, ⟨by decide, by decide⟩, _, _, rfl, rfl, (by show (0 : Int) < 10; decide), _, _, _, rfl, rfl, ten_le, fig_at' (by omega) (by omega), _, _, rfl, rfl, (by show 2 ≤ sizeLine; decide), _, _, rfl, rfl, (by rw [cl]; show 3 ≤ sizeLine; decide), ?_⟩
  refine ⟨_, rfl, _, rfl, log_day d (by omega), _, _, rfl, rfl, (by rw [bl]; exact Nat.le_trans (Nat.add_le_add_right dl 1) (by decide)), ?_⟩
  refine ⟨_, rfl, _, _, rfl, rfl, ?_, ?_⟩
  · rw [Str.length_append, bl, cl]
    show _ + 1 + 3 ≤ sizeLine
    exact Nat.le_trans (Nat.add_le_add_right (Nat.add_le_add_right dl 1) 3) (by decide)
  refine ⟨_, rfl, _, rfl, _, _, rfl, rfl, ⟨by decide, by decide⟩, _, _, _, rfl, rfl, ten_le, fig_at' (by omega) (by omega), _, _, rfl, rfl, ?_, ?_⟩
  · rw [Str.length_append, Str.length_append, bl, cl]
    show _ + 1 + 3 + 1 ≤ sizeLine
    exact Nat.le_trans (Nat.add_le_add_right (Nat.add_le_add_right (Nat.add_le_add_right dl 1) 3) 1) (by decide)
  refine ⟨_, rfl, _, rfl, _, _, rfl, rfl, (by show (0 : Int) < 10; decide), _, _, _, rfl, rfl, ten_le, fig_at' (by omega) (by omega), _, _, rfl, rfl, ?_, ?_⟩
  · rw [Str.length_append, Str.length_append, Str.length_append, bl, cl]
    show _ + 1 + 3 + 1 + 1 ≤ sizeLine
    exact Nat.le_trans (Nat.add_le_add_right (Nat.add_le_add_right (Nat.add_le_add_right (Nat.add_le_add_right dl 1) 3) 1) 1) (by decide)
  rw [mtx_eq] at q
  have a1 : ((m : Int) / 600).toNat = m / 60 / 10 := by omega
  have a2 : ((m : Int) / 60 % 10).toNat = m / 60 % 10 := by omega
  have a3 : ((m : Int) % 60 / 10).toNat = m % 60 / 10 := by omega
  have a4 : ((m : Int) % 60 % 10).toNat = m % 60 % 10 := by omega
  rw [← a1, ← a2, ← a3, ← a4] at q
  rw [cl]
  exact q

def spDue : Sp := fun vs H Q _ => ∃ z : Str, vs = [.str z] ∧ z.length ≤ 1000 ∧ ∀ H', Same H H' → Q (optV (momL z.cps.toList)) H'
theorem inS_all (z : Str) : (z.cps.toList.map fun c => inS (Str.ofString "0123456789") c).all id = z.cps.toList.all dg := by
  rw [figs_eq, List.all_map]
  congr 1
  funext c
  exact inS_figs c
theorem ok_law_due (Tx : Tab K mg t) : FnOk P w K mg base CX0 1 t.f_law_due t.d_law_due ["_law_text"] spDue := by
  refine Tx.F_law_due.ok sc_law_due (fun vs H Q E h => ?_) (fun cdv A outer s H vs Q E hr h => ?_)
  · obtain ⟨z, rfl, _⟩ := h
    rfl
  obtain ⟨z, rfl, hz, q⟩ := h
  have zl : z.length ≤ sizeLine := Nat.le_trans hz (by decide)
  have hl := str_len z
  refine ⟨_, (pss_cons (ps_set (i := 1) sc_law_due.nd rfl (Or.inr rfl) pe_str)
    (pss_cons (ps_set (i := 2) sc_law_due.nd rfl (Or.inl rfl) (pe_bm PySem.F.plainAttrs_str PySem.F.slot_str_find PySem.F.type_str_find mt_sfind (pv 0) (pac pe_str pa_nil)))
    (pss_cons (ps_set (i := 3) sc_law_due.nd rfl (Or.inl rfl) (pe_slice sl_str (pv 0) po_none (po_some (pe_callB (call_max2 rfl) rfl Tx.z_max b_max (pac pe_int (pac (pv 2) pa_nil))))))
    (pss_cons (ps_set (i := 4) sc_law_due.nd rfl (Or.inl rfl) (pe_slice sl_str (pv 0) (po_some (pe_op op_add (pv 2) pe_int)) po_none))
    (pss_cons (ps_if (PW.pt (pw_or (pt_cmpR op_lt (pv 2) pe_int (nomark _)) (pw_or (pt_cmpR op_gt (pe_callB call_len_str rfl Tx.z_len b_len (pac (pv 3) pa_nil)) pe_int (nomark _)) (pw_or1 (PW.pt (pw_and (pt_cmpR op_eq (pe_ix ix_str (pv 3) pe_int (fun _ _ => rfl)) pe_str (nomark _)) (pw_and1 (pt_cmpR op_ne (pv 3) pe_str (nomark _)))))))))
    (pss_one (ps_ret pe_non))
    pss_nil)
    (pss_cons (ps_if (PW.pt (pw_or (pt_cmpR op_ne (pe_callB call_len_str rfl Tx.z_len b_len (pac (pv 4) pa_nil)) pe_int (nomark _)) (pw_or1 (pt_cmpR op_ne (pe_ix ix_str (pv 4) pe_int (fun _ _ => rfl)) pe_str (nomark _)))))
    (pss_one (ps_ret pe_non))
    pss_nil)
    (pss_cons (ps_if (pt_not (pt_val (pe_callB (call_all_list rfl) rfl Tx.z_all b_all (pac (pe_compIn (cl := [(Str.ofString "_law_figures", s.heap.objs.size + 1)]) rfl (pe_op op_add_str (pe_op op_add_str (pv 3) (pe_slice sl_str (pv 4) po_none (po_some pe_int))) (pe_slice sl_str (pv 4) (po_some pe_int) po_none)) rfl (by decide +kernel) rfl (by decide +kernel) rfl) pa_nil))))
    (pss_one (ps_ret pe_non))
    pss_nil)
    (pss_cons (ps_if (PW.pt (pw_or (pt_cmpR op_gt (pe_callTy call_int_str rfl Tx.z_int b_int (pac (pe_slice sl_str (pv 4) po_none (po_some pe_int)) pa_nil)) pe_int (nomark _)) (pw_or1 (pt_cmpR op_gt (pe_callTy call_int_str rfl Tx.z_int b_int (pac (pe_slice sl_str (pv 4) (po_some pe_int) po_none) pa_nil)) pe_int (nomark _)))))
    (pss_one (ps_ret pe_non))
    pss_nil)
    (pss_one (ps_ret (pe_op op_add (pe_op op_add (pe_op op_mul pe_int (pe_callTy call_int_str rfl Tx.z_int b_int (pac (pv 3) pa_nil))) (pe_op op_mul pe_int (pe_callTy call_int_str rfl Tx.z_int b_int (pac (pe_slice sl_str (pv 4) po_none (po_some pe_int)) pa_nil)))) (pe_callTy call_int_str rfl Tx.z_int b_int (pac (pe_slice sl_str (pv 4) (po_some pe_int) po_none) pa_nil))))))))))))), ?_⟩
  refine ⟨_, rfl, rfl, _, _, rfl, rfl, ?_⟩
  rw [blank1, find_pos]
  cases hp : pos? 32 z.cps.toList with
  | none =>
    have e : momL z.cps.toList = none := by unfold momL; rw [hp]
    refine ⟨_, rfl, _, rfl, _, _, rfl, 0, rfl, z, rfl, zl, ?_⟩
    refine ⟨_, rfl, _, rfl, _, _, rfl, rfl, 0, rfl, z, rfl, zl, ?_⟩
    refine ⟨_, rfl, _, _, rfl, rfl, _, rfl, ?_⟩
    refine itT (by decide) ?_
    have q1 := q _ (Same.refl _)
    rw [e] at q1
    exact q1
  | some i =>
    dsimp only
    obtain ⟨t1, t2⟩ := take_of_pos hp
    have hi : i ≤ z.length := by omega
    have emax : (if ((i : Nat) : Int) > 0 then ((i : Nat) : Int) else 0) = ((i : Nat) : Int) := by omega
    have w1 : Txt.slice z none (some (if ((i : Nat) : Int) > 0 then ((i : Nat) : Int) else 0)) = ⟨(z.cps.toList.take i).toArray⟩ := by rw [emax]; exact sl_to z i hi
    have w2 : Txt.slice z (some (((i : Nat) : Int) + 1)) none = ⟨(z.cps.toList.drop (i + 1)).toArray⟩ := by
      rw [show ((i : Nat) : Int) + 1 = ((i + 1 : Nat) : Int) by omega]
      exact sl_from z (i + 1) (by omega)
    refine ⟨_, rfl, _, rfl, _, _, rfl, _, rfl, z, rfl, zl, ?_⟩
    refine ⟨_, rfl, _, rfl, _, _, rfl, rfl, _, rfl, z, rfl, zl, ?_⟩
    rw [w1, w2]
    generalize hA : z.cps.toList.take i = A at *
    generalize hB : z.cps.toList.drop (i + 1) = B at *
    have lA : A.length ≤ 1000 := by rw [t1]; omega
    have lB : B.length ≤ 1000 := by rw [← hB, List.length_drop]; omega
    have szA : (⟨A.toArray⟩ : Str).length ≤ sizeLine := Nat.le_trans (show A.toArray.size ≤ 1000 by simp; omega) (by decide)
    have szB : (⟨B.toArray⟩ : Str).length ≤ sizeLine := Nat.le_trans (show B.toArray.size ≤ 1000 by simp; omega) (by decide)
    have eA : (⟨A.toArray⟩ : Str).length = i := by show A.toArray.size = i; simp [t1]
    have eB : (⟨B.toArray⟩ : Str).length = B.length := by show B.toArray.size = _; simp
    have em : momL z.cps.toList = if 1 ≤ i ∧ i ≤ 4 ∧ A.all dg = true ∧ ¬ (A.head? = some 48 ∧ A ≠ [48]) then (match dueL B with | some m => if m < 1440 then some (1440 * valL A + m) else none | none => none) else none := by
      unfold momL
      rw [hp]
      show (if 1 ≤ i ∧ i ≤ 4 ∧ (z.cps.toList.take i).all dg = true ∧ ¬ ((z.cps.toList.take i).head? = some 48 ∧ z.cps.toList.take i ≠ [48]) then (match dueL (z.cps.toList.drop (i + 1)) with | some m => if m < 1440 then some (1440 * valL (z.cps.toList.take i) + m) else none | none => none) else none) = _
      rw [hA, hB]
    have no : momL z.cps.toList = none → ∀ H', Same H H' → Q .non H' := fun e H' s' => by
      have q1 := q H' s'
      rw [e] at q1
      exact q1
    -- at < 1
    refine ⟨_, rfl, _, _, rfl, rfl, _, rfl, ?_⟩
    by_cases h1 : 1 ≤ i
    · refine itF (fun y => by have := of_decide_eq_true y; omega) ?_
      refine ⟨_, rfl, _, rfl, szA, _, _, rfl, rfl, _, rfl, ?_⟩
      rw [eA]
      by_cases h4 : i ≤ 4
      · refine itF (fun y => by have := of_decide_eq_true y; omega) ?_
        have hne : A ≠ [] := fun y => by rw [y] at t1; simp at t1; omega
        obtain ⟨c, r, ec⟩ := List.exists_cons_of_ne_nil hne
        have e0 : decide (V.str (⟨#[c]⟩ : Str) = V.str (Str.ofString "0")) = decide (c = 48) := by
          rw [str_eq_list, show (Str.ofString "0").cps.toList = [48] by decide +kernel]
          exact decide_eq_decide.mpr ⟨fun y => by simpa using y, fun y => by rw [y]⟩
        have e1 : decide (V.str (⟨A.toArray⟩ : Str) = V.str (Str.ofString "0")) = decide (A = [48]) := by
          rw [str_eq_list, show (Str.ofString "0").cps.toList = [48] by decide +kernel]
        refine ⟨_, rfl, _, 0, c, rfl, rfl, szA, (by show atI A 0 = some c; rw [ec]; exact atI_nat (j := 0) rfl), rfl, _, rfl, ?_⟩
        by_cases hn : A.head? = some 48 ∧ A ≠ [48]
        · have h0 : c = 48 := by have := hn.1; rw [ec] at this; exact Option.some.inj this
          refine itT (by rw [e0, decide_eq_true h0]) ?_
          refine ⟨_, rfl, rfl, _, rfl, itT (by rw [e1, decide_eq_false hn.2]; rfl) ?_⟩
          exact no (by rw [em]; exact if_neg fun y => y.2.2.2 hn) _ (Same.refl _)
        by_cases h0 : c = 48
        all_goals first
          | (refine itT (by rw [e0, decide_eq_true h0]) ?_
             refine ⟨_, rfl, rfl, _, rfl, itF (by rw [e1, decide_eq_true (show A = [48] from Classical.byContradiction fun h48 => hn ⟨by rw [ec, h0]; rfl, h48⟩)]; decide) ?_⟩)
          | (refine itF (by rw [e0, decide_eq_false h0]; decide) ?_
             refine itF (by decide) ?_)
        all_goals
          -- the clock's form
          refine ⟨_, rfl, _, rfl, szB, rfl, _, rfl, ?_⟩
          rw [eB]
          by_cases h5 : B.length = 5
          · refine itF (by rw [h5]; decide) ?_
            match B, h5, em, szB with
            | [b0, b1, b2, b3, b4], _, em, szB =>
              refine ⟨_, rfl, _, 2, b2, rfl, rfl, szB, rfl, rfl, _, rfl, ?_⟩
              by_cases hc : b2 = 58
              · refine itF (by rw [colonN, decide_eq_true hc]; decide) ?_
                refine ⟨Str.ofString "0123456789", zread_cell (i := 1) (c := s.heap.objs.size + 1) rfl rfl rfl rfl rfl rfl rfl, _, rfl, _, rfl, 2, rfl, _, rfl, szB, _, _, rfl, rfl, ?_, _, rfl, 3, rfl, _, rfl, szB, _, _, rfl, rfl, ?_, _, rfl, ?_, fun p hp2 => ?_⟩
                · rw [sl2]; exact Nat.le_trans (show A.toArray.size + 2 ≤ 1002 by simp; omega) (by decide)
                · rw [sl2, sl3, Str.length_append]; exact Nat.le_trans (show A.toArray.size + 2 + 2 ≤ 1004 by simp; omega) (by decide)
                · rw [sl2, sl3, Str.length_append, Str.length_append]; exact Nat.le_trans (show A.toArray.size + 2 + 2 ≤ 1004 by simp; omega) (by decide)
                · rw [sl2, sl3] at *
                  have sm := same_new hp2 (.lst (((⟨A.toArray⟩ : Str) ++ ⟨#[b0, b1]⟩ ++ ⟨#[b3, b4]⟩).cps.toList.map fun c => V.bl (inS (Str.ofString "0123456789") c)))
                  refine ⟨p, ((⟨A.toArray⟩ : Str) ++ ⟨#[b0, b1]⟩ ++ ⟨#[b3, b4]⟩).cps.toList.map (fun c => inS (Str.ofString "0123456789") c), rfl, SqL.of (by rw [upd_same, map_bl]), _, rfl, ?_⟩
                  have eall : (((⟨A.toArray⟩ : Str) ++ ⟨#[b0, b1]⟩ ++ ⟨#[b3, b4]⟩).cps.toList.map (fun c => inS (Str.ofString "0123456789") c)).all id = (A.all dg && (dg b0 && dg b1 && dg b3 && dg b4)) := by
                    rw [inS_all, Str.cps_append, Str.cps_append]
                    simp [Bool.and_assoc]
                  rw [eall]
                  by_cases hd4 : (A.all dg && (dg b0 && dg b1 && dg b3 && dg b4)) = true
                  · refine itF (by rw [hd4]; decide) ?_
                    rw [Bool.and_eq_true] at hd4
                    have hf : formL [b0, b1, b2, b3, b4] = true := by
                      show (decide (b2 = 58) && (dg b0 && dg b1 && dg b3 && dg b4)) = true
                      rw [decide_eq_true hc, hd4.2]; rfl
                    obtain ⟨g0, g1, _, g3, g4⟩ := form_dg hf
                    have em2 : momL z.cps.toList = (match dueL [b0, b1, b2, b3, b4] with | some m => if m < 1440 then some (1440 * valL A + m) else none | none => none) := by
                      rw [em]; exact if_pos ⟨h1, h4, hd4.1, hn⟩
                    refine ⟨_, rfl, 2, rfl, _, rfl, szB, _, _, rfl, (by rw [sl2]; exact int2 g0 g1), (by rw [sl2]; show 2 ≤ 640; decide), _, _, rfl, rfl, _, rfl, ?_⟩
                    by_cases h23 : 10 * (b0 - 48) + (b1 - 48) ≤ 23
                    · refine itF (by intro y; have := of_decide_eq_true y; omega) ?_
                      refine ⟨_, rfl, 3, rfl, _, rfl, szB, _, _, rfl, (by rw [sl3]; exact int2 g3 g4), (by rw [sl3]; show 2 ≤ 640; decide), _, _, rfl, rfl, _, rfl, ?_⟩
                      by_cases h59 : 10 * (b3 - 48) + (b4 - 48) ≤ 59
                      · refine itF (by intro y; have := of_decide_eq_true y; omega) ?_
                        have hval := int_val (z := ⟨A.toArray⟩) hd4.1 hne (by rw [eA]; omega)
                        refine ⟨_, rfl, _, _, rfl, hval, (by rw [eA]; omega), _, _, rfl, rfl, .inl ⟨by decide, by decide⟩, _, rfl, 2, rfl, _, rfl, szB, _, _, rfl, (by rw [sl2]; exact int2 g0 g1), (by rw [sl2]; show 2 ≤ 640; decide), _, _, rfl, rfl, .inl ⟨by decide, by decide⟩, _, _, rfl, rfl,
                          _, rfl, 3, rfl, _, rfl, szB, _, _, rfl, (by rw [sl3]; exact int2 g3 g4), (by rw [sl3]; show 2 ≤ 640; decide), _, _, rfl, rfl, ?_⟩
                        have q1 := q _ sm
                        rw [em2, show dueL [b0, b1, b2, b3, b4] = some (60 * (10 * (b0 - 48) + (b1 - 48)) + (10 * (b3 - 48) + (b4 - 48))) from if_pos ⟨hf, by omega, h59⟩] at q1
                        have q2 : Q (optV (if 60 * (10 * (b0 - 48) + (b1 - 48)) + (10 * (b3 - 48) + (b4 - 48)) < 1440 then some (1440 * valL A + (60 * (10 * (b0 - 48) + (b1 - 48)) + (10 * (b3 - 48) + (b4 - 48)))) else none)) _ := q1
                        rw [if_pos (by omega)] at q2
                        have q3 : Q (V.int ((1440 * valL A + (60 * (10 * (b0 - 48) + (b1 - 48)) + (10 * (b3 - 48) + (b4 - 48))) : Nat) : Int)) _ := q2
                        have e5 : ((1440 * valL A + (60 * (10 * (b0 - 48) + (b1 - 48)) + (10 * (b3 - 48) + (b4 - 48))) : Nat) : Int) = 1440 * ((valL A : Nat) : Int) + 60 * ((10 * (b0 - 48) + (b1 - 48) : Nat) : Int) + ((10 * (b3 - 48) + (b4 - 48) : Nat) : Int) := by omega
                        rw [e5] at q3
                        exact q3
                      · refine itT (by refine decide_eq_true ?_; omega) ?_
                        exact no (by rw [em2, show dueL [b0, b1, b2, b3, b4] = none from if_neg fun y => h59 y.2.2]) _ sm
                    · refine itT (by refine decide_eq_true ?_; omega) ?_
                      refine no ?_ _ sm
                      rw [em2]
                      by_cases hdu : formL [b0, b1, b2, b3, b4] = true ∧ 10 * (b0 - 48) + (b1 - 48) ≤ 47 ∧ 10 * (b3 - 48) + (b4 - 48) ≤ 59
                      · rw [show dueL [b0, b1, b2, b3, b4] = some (60 * (10 * (b0 - 48) + (b1 - 48)) + (10 * (b3 - 48) + (b4 - 48))) from if_pos hdu]
                        exact if_neg (by omega)
                      · rw [show dueL [b0, b1, b2, b3, b4] = none from if_neg hdu]
                  · refine itT (by rw [Bool.eq_false_iff.mpr hd4]; rfl) ?_
                    refine no ?_ _ sm
                    rw [em]
                    by_cases ha : A.all dg = true
                    · rw [ha, Bool.true_and] at hd4
                      have : dueL [b0, b1, b2, b3, b4] = none := due_no (l := [b0, b1, b2, b3, b4]) (by show (decide (b2 = 58) && (dg b0 && dg b1 && dg b3 && dg b4)) = false; rw [Bool.eq_false_iff.mpr hd4, Bool.and_false])
                      rw [this]
                      split <;> rfl
                    · exact if_neg fun y => ha y.2.2.1
              · refine itT (by rw [colonN, decide_eq_false hc]; rfl) ?_
                refine no ?_ _ (Same.refl _)
                rw [em, show dueL [b0, b1, b2, b3, b4] = none from due_no (l := [b0, b1, b2, b3, b4]) (by show (decide (b2 = 58) && (dg b0 && dg b1 && dg b3 && dg b4)) = false; rw [decide_eq_false hc, Bool.false_and])]
                split <;> rfl
          · refine itT (by rw [decide_eq_false (fun y => h5 (by injection y with y; omega))]; rfl) ?_
            refine no ?_ _ (Same.refl _)
            have : dueL B = none := by
              have := due_no (l := B) (by
                have := form_ne (z := ⟨B.toArray⟩) (by rw [eB]; exact h5)
                simpa using this)
              exact this
            rw [em, this]
            split <;> rfl
      · refine itT (by refine decide_eq_true ?_; omega) ?_
        exact no (by rw [em]; exact if_neg fun y => h4 y.2.1) _ (Same.refl _)
    · refine itT (by refine decide_eq_true ?_; omega) ?_
      exact no (by rw [em]; exact if_neg fun y => h1 y.1) _ (Same.refl _)

/- what is told of good ones -/
def ToldOk (wh : Int) (v m : V) (H : Hp) (u : V) : Prop :=
  (wh = 0 ∧ ∃ i j : Int, v = .int i ∧ m = .int j ∧ u = .int (i * 1440 + j)) ∨
  (wh = 1 ∧ ∃ (i : Int) (p : Addr), v = .int i ∧ u = .ref p ∧ H p = some (.tup [.int (i / 1440), .int (i % 1440)])) ∨
  (wh = 2 ∧ ∃ i : Nat, v = .int (i : Nat) ∧ u = .str (mtx (i / 1440) (i % 1440))) ∨
  (wh = 3 ∧ ∃ k : Nat, momV v = some k ∧ u = .int (k : Nat))
/- what is refused -/
def toldNo (wh : Int) (v m : V) : Bool :=
  if wh = 0 then !(numV v 0 9999 && numV m 0 1439) else if wh = 1 then !numV v 0 14399999 else if wh = 2 then !numV v 0 14399999 else (momV v).isNone
def spTold : Sp := fun vs H Q _ => ∃ (wh : Int) (v m : V) (T Tm : String), vs = [.int wh, v, m] ∧ 0 ≤ wh ∧ wh ≤ 3 ∧ Kd H v T ∧ Kd H m Tm ∧ (∀ z, v = .str z → z.length ≤ 1000) ∧ (∀ H' u, toldNo wh v m = false → ToldOk wh v m H' u → Same H H' → Q u H') ∧
  ∀ r H', toldNo wh v m = true → Same H H' → H' r = some (.lst [.str (Str.ofString "clock")]) → Q (.ref r) H'
theorem ok_law_told (Tx : Tab K mg t) : FnOk P w K mg base CX0 5 t.f_law_told t.d_law_told ["_law_which", "_law_thing", "_law_minute"] spTold := by
  refine Tx.F_law_told.ok sc_law_told (fun vs H Q E h => ?_) (fun cdv A outer s H vs Q E hr h => ?_)
  · obtain ⟨wh, v, m, T, Tm, rfl, _⟩ := h
    rfl
  obtain ⟨wh, v, m, T, Tm, rfl, w0, w3, kd, km, hlen, hq, he⟩ := h
  refine ⟨_, (pss_cons (ps_set (i := 3) sc_law_told.nd rfl (Or.inl rfl) pe_non)
    (pss_cons (ps_try (i := 4) ⟨rfl, rfl⟩ rfl sc_law_told.nd rfl rfl rfl Tx.m_RoadError
    (fun pins Kx => (pss_cons (ps_if (pt_cmpR op_eq (pv 0) pe_int (nomark _))
    (pss_one (ps_ret (pe_call (ok_moment_of Tx) (hr.mono (by omega)) rfl Tx.m_moment_of Tx.F_moment_of.kp Tx.b_moment_of .nil passes_try (pac (pv 1) (pac (pv 2) pa_nil)))))
    pss_nil)
    (pss_cons (ps_if (pt_cmpR op_eq (pv 0) pe_int (nomark _))
    (pss_one (ps_ret (pe_call (ok_day_and_minute Tx) (hr.mono (by omega)) rfl Tx.m_day_and_minute Tx.F_day_and_minute.kp Tx.b_day_and_minute .nil passes_try (pac (pv 1) pa_nil))))
    pss_nil)
    (pss_cons (ps_if (pt_cmpR op_eq (pv 0) pe_int (nomark _))
    (pss_one (ps_ret (pe_call (ok_moment_text Tx) (hr.mono (by omega)) rfl Tx.m_moment_text Tx.F_moment_text.kp Tx.b_moment_text .nil passes_try (pac (pv 1) pa_nil))))
    pss_nil)
    (pss_one (ps_ret (pe_call (ok_moment_by Tx) (hr.mono (by omega)) rfl Tx.m_moment_by Tx.F_moment_by.kp Tx.b_moment_by .nil passes_try (pac (pv 1) pa_nil))))))))
    (fun a => (pss_one (ps_set (i := 3) sc_law_told.nd rfl (Or.inl rfl) (pv 4)))))
    (pss_one (ps_ret (pe_lst (pac (pe_call (ok_law_class Tx) (hr.mono (by omega)) rfl Tx.m_law_class Tx.F_law_class.kp Tx.b_law_class .nil pass0 (pac (pv 3) pa_nil)) pa_nil)))))), ?_⟩
  have back : ∀ H1 : Hp, Same H H1 → toldNo wh v m = true → PySem.W.exmOne K (.ref t.c_BadClock) (.ref t.c_RoadError) = some true ∧ ∀ a, H1 a = none → ∀ H2, Same (upd H1 a (exO a (.ref t.c_BadClock))) H2 → ∀ p, H2 p = none → Q (.ref p) (upd H2 p (.lst [.str (Str.ofString "clock")])) := fun H1 s1 e =>
    ⟨Tx.x_BadClock, fun a ha H2 s2 p hp => he p _ e ((s1.trans (same_new ha _)).trans (s2.trans (same_new hp _))) upd_same⟩
  refine ⟨_, rfl, rfl, _, rfl, ?_⟩
  by_cases h0 : wh = 0
  · refine itT (by subst h0; decide) ?_
    have en : toldNo wh v m = !(numV v 0 9999 && numV m 0 1439) := by unfold toldNo; rw [if_pos h0]
    refine ⟨_, rfl, _, rfl, v, m, T, Tm, rfl, kd, km, fun i j ei ej i0 i1 j0 j1 => ?_, fun hf => ?_⟩
    · refine hq H _ ?_ (.inl ⟨h0, i, j, ei, ej, rfl⟩) (Same.refl _)
      rw [en, ei, ej]
      have f1 : numV (.int i) 0 9999 = true := decide_eq_true ⟨i0, i1⟩
      have f2 : numV (.int j) 0 1439 = true := decide_eq_true ⟨j0, j1⟩
      rw [f1, f2]
      rfl
    · obtain ⟨b1, b2⟩ := back H (Same.refl _) (by rw [en, hf]; rfl)
      exact ⟨b1, fun a ha => ⟨_, rfl, _, rfl, a, rfl, upd_same, fun H2 s2 => ⟨by show 1 ≤ sizeLine; decide, fun p hp => b2 a ha H2 s2 p hp⟩⟩⟩
  · refine itF (fun z => h0 (by have := of_decide_eq_true z; injection this)) ?_
    refine ⟨_, rfl, rfl, _, rfl, ?_⟩
    by_cases h1 : wh = 1
    · refine itT (by subst h1; decide) ?_
      have en : toldNo wh v m = !numV v 0 14399999 := by unfold toldNo; rw [if_neg h0, if_pos h1]
      refine ⟨_, rfl, v, T, rfl, kd, fun i ei i0 i1 p hp => ?_, fun hf => ?_⟩
      · refine hq _ _ ?_ (.inr (.inl ⟨h1, i, p, ei, rfl, upd_same⟩)) (same_new hp _)
        rw [en, ei, show numV (.int i) 0 14399999 = true from decide_eq_true ⟨i0, i1⟩]
        rfl
      · obtain ⟨b1, b2⟩ := back H (Same.refl _) (by rw [en, hf]; rfl)
        exact ⟨b1, fun a ha => ⟨_, rfl, _, rfl, a, rfl, upd_same, fun H2 s2 => ⟨by show 1 ≤ sizeLine; decide, fun p hp => b2 a ha H2 s2 p hp⟩⟩⟩
    · refine itF (fun z => h1 (by have := of_decide_eq_true z; injection this)) ?_
      refine ⟨_, rfl, rfl, _, rfl, ?_⟩
      by_cases h2 : wh = 2
      · refine itT (by subst h2; decide) ?_
        have en : toldNo wh v m = !numV v 0 14399999 := by unfold toldNo; rw [if_neg h0, if_neg h1, if_pos h2]
        refine ⟨_, rfl, v, T, rfl, kd, fun i ei i1 H' s' => ?_, fun hf => ?_⟩
        · refine hq _ _ ?_ (.inr (.inr (.inl ⟨h2, i, ei, rfl⟩))) s'
          rw [en, ei, show numV (.int ((i : Nat) : Int)) 0 14399999 = true from decide_eq_true ⟨by omega, by omega⟩]
          rfl
        · obtain ⟨b1, b2⟩ := back H (Same.refl _) (by rw [en, hf]; rfl)
          exact ⟨b1, fun a ha => ⟨_, rfl, _, rfl, a, rfl, upd_same, fun H2 s2 => ⟨by show 1 ≤ sizeLine; decide, fun p hp => b2 a ha H2 s2 p hp⟩⟩⟩
      · refine itF (fun z => h2 (by have := of_decide_eq_true z; injection this)) ?_
        have h3 : wh = 3 := by omega
        have en : toldNo wh v m = (momV v).isNone := by unfold toldNo; rw [if_neg h0, if_neg h1, if_neg h2]
        refine ⟨_, rfl, v, T, rfl, kd, hlen, fun k H' e s' => ?_, fun H' e s' => ?_⟩
        · exact hq _ _ (by rw [en, e]; rfl) (.inr (.inr (.inr ⟨h3, k, e, rfl⟩))) s'
        · obtain ⟨b1, b2⟩ := back H' s' (by rw [en, e]; rfl)
          exact ⟨b1, fun a ha => ⟨_, rfl, _, rfl, a, rfl, upd_same, fun H2 s2 => ⟨by show 1 ≤ sizeLine; decide, fun p hp => b2 a ha H2 s2 p hp⟩⟩⟩

def spChg (K : PySem.W.Frag) : Sp := fun vs H Q _ => ∃ (a tp : Addr) (ns : List Int) (k : Int) (z0 : Str), vs = [.ref a, .ref tp, .str z0] ∧ 1 ≤ z0.length ∧ z0.length ≤ 20 ∧ Scr K H a tp ns ∧ H tp = some (.lst [.int k]) ∧ 0 ≤ k ∧ k ≤ 90000 ∧
  ∀ (z : Str) H', z.length ≤ 100 → Bump tp (k + 3) H H' → Q (.str z) H'
theorem dbl_len (c : Nat) : ∀ l : List Nat, (StrLaws.dbl c l).length ≤ 2 * l.length
  | [] => Nat.le_refl _
  | x :: r => by
    have := dbl_len c r
    unfold StrLaws.dbl
    split <;> simp only [List.length_cons] <;> omega
theorem ok_law_changed (Tx : Tab K mg t) : FnOk P w K mg base CX0 3 t.f_law_changed t.d_law_changed ["_law_script", "_law_tape", "_law_text"] (spChg K) := by
  refine Tx.F_law_changed.ok sc_law_changed (fun vs H Q E h => ?_) (fun cdv A outer s H vs Q E hr h => ?_)
  · obtain ⟨a, tp, ns, k, z0, rfl, _⟩ := h
    rfl
  obtain ⟨a, tp, ns, k, z0, rfl, hz1, hz, hS, hT, h0, h1, q⟩ := h
  have zl : z0.length ≤ sizeLine := line100 (by omega)
  refine ⟨_, (pss_cons (ps_set (i := 3) sc_law_changed.nd rfl (Or.inl rfl) (pe_call (ok_law_draw Tx) (hr.mono (by omega)) rfl Tx.m_law_draw Tx.F_law_draw.kp Tx.b_law_draw .nil pass0 (pac (pv 0) (pac (pv 1) (pac (pe_callB call_len_str rfl Tx.z_len b_len (pac (pv 2) pa_nil)) pa_nil)))))
    (pss_cons (ps_set (i := 4) sc_law_changed.nd rfl (Or.inl rfl) (pe_ix ix_str pe_str (pe_call (ok_law_draw Tx) (hr.mono (by omega)) rfl Tx.m_law_draw Tx.F_law_draw.kp Tx.b_law_draw .nil pass0 (pac (pv 0) (pac (pv 1) (pac pe_int pa_nil)))) (fun _ _ => rfl)))
    (pss_cons (ps_set (i := 5) sc_law_changed.nd rfl (Or.inl rfl) (pe_lst (pac (pe_op op_add_str (pe_op op_add_str (pe_slice sl_str (pv 2) po_none (po_some (pv 3))) (pv 4)) (pe_slice sl_str (pv 2) (po_some (pe_op op_add (pv 3) pe_int)) po_none)) (pac (pe_op op_add_str (pe_op op_add_str (pe_slice sl_str (pv 2) po_none (po_some (pv 3))) (pv 4)) (pe_slice sl_str (pv 2) (po_some (pv 3)) po_none)) (pac (pe_op op_add_str (pe_slice sl_str (pv 2) po_none (po_some (pv 3))) (pe_slice sl_str (pv 2) (po_some (pe_op op_add (pv 3) pe_int)) po_none)) pa_nil)))))
    (pss_cons (ps_set (i := 5) sc_law_changed.nd rfl (Or.inl rfl) (pe_op op_cat (pv 5) (pe_lst (pac (pe_op op_add_str pe_str (pv 2)) (pa_addRepl (i := 2) rfl rfl (by decide +kernel) (pac (pe_op op_add_str pe_str (pv 2)) (pac pe_str pa_nil)))))))
    (pss_cons (ps_set (i := 5) sc_law_changed.nd rfl (Or.inl rfl) (pe_op op_cat (pv 5) (pe_lst (pac pe_str (pac pe_str (pac pe_str (pac pe_str (pac pe_str (pac pe_str (pac pe_str (pac pe_str pa_nil)))))))))))
    (pss_one (ps_ret (pe_ix ix_list (pv 5) (pe_call (ok_law_draw Tx) (hr.mono (by omega)) rfl Tx.m_law_draw Tx.F_law_draw.kp Tx.b_law_draw .nil pass0 (pac (pv 0) (pac (pv 1) (pac pe_int pa_nil)))) (fun _ _ => rfl))))))))), ?_⟩
  refine ⟨_, rfl, _, rfl, _, rfl, z0, rfl, zl, a, tp, ns, k, _, rfl, hS, hT, h0, by omega, by omega, by omega, fun d1 H1 d10 d11 b1 => ?_⟩
  refine ⟨_, rfl, _, rfl, a, tp, ns, k + 1, 17, rfl, b1.scr hS, b1.tape, by omega, by omega, by decide, by decide, fun d2 H2 d20 d21 b2 => ?_⟩
  obtain ⟨c, hc⟩ := sign_at d20 d21
  refine ⟨_, _, c, rfl, rfl, (by rw [show (Str.ofString "0123456789:;- ./a").length = 17 by decide +kernel]; decide), hc, ?_⟩
  have sl1 := Txt.slice_le z0 none (some d1)
  have sl2' := Txt.slice_le z0 (some (d1 + 1)) none
  have sl3' := Txt.slice_le z0 (some d1) none
  have cl : (⟨#[c]⟩ : Str).length ≤ 1 := Nat.le_refl 1
  have l1 : (Txt.slice z0 none (some d1) ++ ⟨#[c]⟩).length ≤ 21 := len2 (n := 20) (m := 1) (by omega) cl
  have l2 : (Txt.slice z0 none (some d1) ++ ⟨#[c]⟩ ++ Txt.slice z0 (some (d1 + 1)) none).length ≤ 41 := len2 (n := 21) (m := 20) l1 (by omega)
  have l3 : (Txt.slice z0 none (some d1) ++ ⟨#[c]⟩ ++ Txt.slice z0 (some d1) none).length ≤ 41 := len2 (n := 21) (m := 20) l1 (by omega)
  have l4 : (Txt.slice z0 none (some d1) ++ Txt.slice z0 (some (d1 + 1)) none).length ≤ 40 := len2 (n := 20) (m := 20) (by omega) (by omega)
  refine ⟨_, rfl, _, rfl, d1, rfl, _, rfl, zl, _, rfl, _, _, rfl, rfl, (by rw [← Str.length_append]; exact line100 (by omega)), _, rfl, _, rfl, _, _, rfl, rfl, _, rfl, _, rfl, zl, _, _, rfl, rfl, (by rw [← Str.length_append]; exact line100 (by omega)),
    _, rfl, _, rfl, d1, rfl, _, rfl, zl, _, rfl, _, _, rfl, rfl, (by rw [← Str.length_append]; exact line100 (by omega)), _, rfl, _, rfl, d1, rfl, _, rfl, zl, _, _, rfl, rfl, (by rw [← Str.length_append]; exact line100 (by omega)),
    _, rfl, _, rfl, d1, rfl, _, rfl, zl, _, rfl, _, rfl, _, _, rfl, rfl, _, rfl, _, rfl, zl, _, _, rfl, rfl, (by rw [← Str.length_append]; exact line100 (by omega)), (by show 3 ≤ sizeLine; decide), fun p1 g1 => ?_⟩
  generalize hL1 : ([.str (Txt.slice z0 none (some d1) ++ ⟨#[c]⟩ ++ Txt.slice z0 (some (d1 + 1)) none), .str (Txt.slice z0 none (some d1) ++ ⟨#[c]⟩ ++ Txt.slice z0 (some d1) none), .str (Txt.slice z0 none (some d1) ++ Txt.slice z0 (some (d1 + 1)) none)] : List V) = L1
  have sL1 : Short L1 ∧ L1.length = 3 := by
    rw [← hL1]
    exact ⟨short_cons (Nat.le_trans l2 (by decide)) (short_cons (Nat.le_trans l3 (by decide)) (short_cons (Nat.le_trans l4 (by decide)) short_nil)), rfl⟩
  have s1 := same_new g1 (.lst L1)
  have lb : (Str.ofString " ").length = 1 := by decide +kernel
  have l0 : (Str.ofString "0").length = 1 := by decide +kernel
  have lr : (Txt.replace z0 (Str.ofString " ") (Str.ofString "  ")).length ≤ 40 := by
    rw [show Str.ofString " " = ⟨#[32]⟩ by decide +kernel, show Str.ofString "  " = ⟨#[32, 32]⟩ by decide +kernel, ← str_len, StrLaws.replace_double]
    have := dbl_len 32 z0.cps.toList
    rw [str_len] at this
    omega
  refine ⟨_, rfl, _, rfl, _, _, rfl, rfl, (by rw [lb]; exact line100 (by omega)), z0, rfl, by omega, by decide +kernel, by decide +kernel, _, rfl, _, _, rfl, rfl, (by rw [l0]; exact line100 (by omega)), (by show 5 ≤ sizeLine; decide), fun p2 g2 => ?_⟩
  generalize hL2 : ([.str (Str.ofString " " ++ z0), .str (z0 ++ Str.ofString " "), .str (Txt.replace z0 (Str.ofString " ") (Str.ofString "  ")), .str (Str.ofString "0" ++ z0), .str (Str.ofString "10000 00:00")] : List V) = L2
  have sL2 : Short L2 ∧ L2.length = 5 := by
    rw [← hL2]
    exact ⟨short_cons (Nat.le_trans (len2 (n := 1) (m := 20) (Nat.le_of_eq lb) hz) (by decide)) (short_cons (Nat.le_trans (len2 (n := 20) (m := 1) hz (Nat.le_of_eq lb)) (by decide)) (short_cons (Nat.le_trans lr (by decide)) (short_cons (Nat.le_trans (len2 (n := 1) (m := 20) (Nat.le_of_eq l0) hz) (by decide)) (short_cons (by decide +kernel) short_nil)))), rfl⟩
  have s2 := same_new g2 (.lst L2)
  refine ⟨p1, p2, _, _, rfl, rfl, s2 _ _ upd_same, upd_same, (by rw [sL1.2, sL2.2]; decide), fun p3 g3 => ?_⟩
  have s3 := s2.trans (same_new g3 (.lst (L1 ++ L2)))
  refine ⟨_, rfl, (by show 8 ≤ sizeLine; decide), fun p4 g4 => ?_⟩
  generalize hL3 : ([.str (Str.ofString "99999 00:00"), .str (Str.ofString "5 24:00"), .str (Str.ofString "5 23:60"), .str (Str.ofString "9999 23:59"), .str (Str.ofString "00 00:00"), .str (Str.ofString "5"), .str (Str.ofString " 00:00"), .str (Str.ofString "123456 00:00")] : List V) = L3
  have sL3 : Short L3 ∧ L3.length = 8 := by
    rw [← hL3]
    exact ⟨short_cons (by decide +kernel) (short_cons (by decide +kernel) (short_cons (by decide +kernel) (short_cons (by decide +kernel) (short_cons (by decide +kernel) (short_cons (by decide +kernel) (short_cons (by decide +kernel) (short_cons (by decide +kernel) short_nil))))))), rfl⟩
  have s4 := same_new g4 (.lst L3)
  refine ⟨p3, p4, _, _, rfl, rfl, s4 _ _ upd_same, upd_same, (by rw [List.length_append, sL1.2, sL2.2, sL3.2]; decide), fun p5 g5 => ?_⟩
  have s5 := s4.trans (same_new g5 (.lst (L1 ++ L2 ++ L3)))
  have sA := s1.trans (s3.trans s5)
  have b7 := (b1.trans b2).same sA
  have n5 : p5 ≠ tp := fun e => by
    have z := s4 _ _ (s3 _ _ (s1 _ _ b2.tape))
    rw [e, z] at g5
    cases g5
  refine ⟨_, rfl, _, rfl, _, rfl, a, tp, ns, k + 1 + 1, 16, rfl, b7.scr hS, b7.tape, by omega, by omega, by decide, by decide, fun d3 H3 d30 d31 b3 => ?_⟩
  have sh : Short (L1 ++ L2 ++ L3) := short_app (short_app sL1.1 sL2.1) sL3.1
  obtain ⟨z, hz2, hl⟩ := short_at sh d30 (by rw [List.length_append, List.length_append, sL1.2, sL2.2, sL3.2]; exact d31)
  have bb := b7.trans b3
  rw [show k + 1 + 1 + 1 = k + 3 by omega] at bb
  exact ⟨p5, _, d3, .str z, rfl, rfl, SqL.of (b3.keep _ _ n5 upd_same), hz2, q z H3 hl bb⟩

def spRight : Sp := fun vs H Q _ => ∃ d m : Nat, vs = [.int (d : Nat), .int (m : Nat)] ∧ d ≤ 9999 ∧ m ≤ 1439 ∧ ∀ H', Same H H' → Q (.bl true) H'
theorem mom_mtx {d m : Nat} (hd : d ≤ 9999) (hm : m ≤ 1439) : momL (mtx d m).cps.toList = some (1440 * d + m) := by
  obtain ⟨f1, f2, f3, f4, f5, f6⟩ := day_facts (d := d) (by omega) _ rfl
  rw [mtx_list]
  generalize (Str.ofString (toString ((d : Nat) : Int))).cps.toList = A at *
  unfold momL
  rw [pos_app f6]
  show (if 1 ≤ A.length ∧ A.length ≤ 4 ∧ ((A ++ 32 :: (wr m).cps.toList).take A.length).all dg = true ∧ ¬ (((A ++ 32 :: (wr m).cps.toList).take A.length).head? = some 48 ∧ (A ++ 32 :: (wr m).cps.toList).take A.length ≠ [48]) then
    (match dueL ((A ++ 32 :: (wr m).cps.toList).drop (A.length + 1)) with | some k => if k < 1440 then some (1440 * valL ((A ++ 32 :: (wr m).cps.toList).take A.length) + k) else none | none => none) else none) = _
  rw [List.take_left' rfl, show (A ++ 32 :: (wr m).cps.toList).drop (A.length + 1) = (wr m).cps.toList by rw [List.drop_append]; simp, if_pos ⟨f1, f2, f3, f4⟩, due_wr (by omega)]
  show (if m < 1440 then some (1440 * valL A + m) else none) = _
  rw [if_pos (by omega), f5]
theorem mtx_len {d m : Nat} (hd : d ≤ 9999) : 7 ≤ (mtx d m).length ∧ (mtx d m).length ≤ 10 := by
  obtain ⟨f1, f2, _⟩ := day_facts (d := d) (by omega) _ rfl
  have e := congrArg List.length (mtx_list d m)
  rw [List.length_append, List.length_cons, str_len, wr_eq] at e
  have e2 : (#[48 + m / 60 / 10, 48 + m / 60 % 10, 58, 48 + m % 60 / 10, 48 + m % 60 % 10] : Array Nat).toList.length = 5 := rfl
  rw [e2] at e
  omega
theorem ok_law_right (Tx : Tab K mg t) : FnOk P w K mg base CX0 6 t.f_law_right t.d_law_right ["_law_day", "_law_minute"] spRight := by
  refine Tx.F_law_right.ok sc_law_right (fun vs H Q E h => ?_) (fun cdv A outer s H vs Q E hr h => ?_)
  · obtain ⟨d, m, rfl, _⟩ := h
    rfl
  obtain ⟨d, m, rfl, hd, hm, q⟩ := h
  refine ⟨_, (pss_cons (ps_set (i := 2) sc_law_right.nd rfl (Or.inl rfl) (pe_call (ok_law_told Tx) (hr.mono (by omega)) rfl Tx.m_law_told Tx.F_law_told.kp Tx.b_law_told .nil pass0 (pac pe_int (pac (pv 0) (pac (pv 1) pa_nil)))))
    (pss_cons (ps_if (PW.pt (pw_or (pt_not (pt_val (pe_call (ok_law_whole Tx) (hr.mono (by omega)) rfl Tx.m_law_whole Tx.F_law_whole.kp Tx.b_law_whole .nil pass0 (pac (pv 2) pa_nil)))) (pw_or1 (pt_cmpR op_ne (pv 2) (pe_op op_add (pe_op op_mul pe_int (pv 0)) (pv 1)) (nomark _)))))
    (pss_one (ps_ret pe_bl))
    pss_nil)
    (pss_cons (ps_set (i := 3) sc_law_right.nd rfl (Or.inl rfl) (pe_call (ok_law_told Tx) (hr.mono (by omega)) rfl Tx.m_law_told Tx.F_law_told.kp Tx.b_law_told .nil pass0 (pac pe_int (pac (pv 2) (pac pe_int pa_nil)))))
    (pss_cons (ps_if (PW.pt (pw_or (pt_not (pt_val (pe_callB call_isi_ty rfl Tx.z_isinstance b_isinstance (pac (pv 3) (pac (pe_gty rfl Tx.z_tuple b_tuple) pa_nil))))) (pw_or (pt_cmpR (op_neD hr.units) (pv 3) (pe_tup (pac (pv 0) (pac (pv 1) pa_nil))) (nomark _)) (pw_or1 (pt_not (pt_val (pe_callB (call_all_list rfl) rfl Tx.z_all b_all (pac (pe_comp (cl := []) (N := ["_law_one"]) (fr := [none]) rfl (pi_tup (pv 3)) rfl (by decide +kernel) rfl (by decide +kernel) trivial trivial rfl (fun _ _ _ _ _ => pg_name (i := 0) (nd1 _) rfl (Or.inl rfl)) (fun _ _ _ _ _ => pts_nil) (fun _ _ _ _ _ => pe_call (ok_law_whole Tx) (hr.mono (by decide)) rfl Tx.m_law_whole Tx.F_law_whole.kp Tx.b_law_whole .nil pass0 (pa_cons (pv 0) pa_nil))) pa_nil))))))))
    (pss_one (ps_ret pe_bl))
    pss_nil)
    (pss_cons (ps_set (i := 4) sc_law_right.nd rfl (Or.inl rfl) (pe_call (ok_law_written Tx) (hr.mono (by omega)) rfl Tx.m_law_written Tx.F_law_written.kp Tx.b_law_written .nil pass0 (pac (pv 0) (pac (pv 1) pa_nil))))
    (pss_one (ps_ret (pe_and (pe_cmpR op_eq (pe_call (ok_law_told Tx) (hr.mono (by omega)) rfl Tx.m_law_told Tx.F_law_told.kp Tx.b_law_told .nil pass0 (pac pe_int (pac (pv 2) (pac pe_int pa_nil)))) (pv 4) (nomark _)) (pe_one (pe_cmpR op_eq (pe_call (ok_law_told Tx) (hr.mono (by omega)) rfl Tx.m_law_told Tx.F_law_told.kp Tx.b_law_told .nil pass0 (pac pe_int (pac (pv 4) (pac pe_int pa_nil)))) (pv 2) (nomark _))))))))))), ?_⟩
  have n0 : toldNo 0 (.int (d : Nat)) (.int (m : Nat)) = false := by
    unfold toldNo
    rw [if_pos rfl, show numV (.int ((d : Nat) : Int)) 0 9999 = true from decide_eq_true ⟨by omega, by omega⟩, show numV (.int ((m : Nat) : Int)) 0 1439 = true from decide_eq_true ⟨by omega, by omega⟩]
    rfl
  have nn : ∀ i : Int, 0 ≤ i → i ≤ 14399999 → numV (.int i) 0 14399999 = true := fun i a b => decide_eq_true ⟨a, b⟩
  refine ⟨_, rfl, _, rfl, 0, .int (d : Nat), .int (m : Nat), "int", "int", rfl, by decide, by decide, .int _, .int _, (fun z e => by cases e), (fun H1 u _ k s1 => ?_), (fun r H1 e => by rw [n0] at e; cases e)⟩
  have ku : u = .int (((d : Nat) : Int) * 1440 + ((m : Nat) : Int)) := by
    rcases k with ⟨_, i, j, e1, e2, e3⟩ | ⟨z, _⟩ | ⟨z, _⟩ | ⟨z, _⟩
    · cases e1; cases e2; exact e3
    · exact absurd z (by decide)
    · exact absurd z (by decide)
    · exact absurd z (by decide)
  subst ku
  refine ⟨_, rfl, .int _, "int", rfl, .int _, _, rfl, itF Bool.false_ne_true ?_⟩
  refine ⟨_, rfl, _, rfl, _, _, rfl, rfl, .inl ⟨by decide, by decide⟩, _, rfl, _, _, rfl, rfl, rfl, _, rfl, itF ?_ ?_⟩
  · rw [show ((d : Nat) : Int) * 1440 + ((m : Nat) : Int) = 1440 * ((d : Nat) : Int) + ((m : Nat) : Int) by omega]
    simp
  have n1 : toldNo 1 (.int (((d : Nat) : Int) * 1440 + ((m : Nat) : Int))) (.int 0) = false := by
    unfold toldNo
    rw [if_neg (by decide), if_pos rfl, nn _ (by omega) (by omega)]
    rfl
  have n2 : toldNo 2 (.int (((d : Nat) : Int) * 1440 + ((m : Nat) : Int))) (.int 0) = false := by
    unfold toldNo
    rw [if_neg (by decide), if_neg (by decide), if_pos rfl, nn _ (by omega) (by omega)]
    rfl
  refine ⟨_, rfl, 1, .int _, .int 0, "int", "int", rfl, by decide, by decide, .int _, .int _, (fun z e => by cases e), (fun H2 u _ k s2 => ?_), (fun r H2 e => by rw [n1] at e; cases e)⟩
  obtain ⟨p, rfl, hp⟩ : ∃ p, u = .ref p ∧ H2 p = some (.tup [.int (d : Nat), .int (m : Nat)]) := by
    rcases k with ⟨z, _⟩ | ⟨_, i, p, e1, e2, e3⟩ | ⟨z, _⟩ | ⟨z, _⟩
    · exact absurd z (by decide)
    · have e1' : ((d : Nat) : Int) * 1440 + ((m : Nat) : Int) = i := V.int.inj e1
      rw [← e1'] at e3
      rw [show (((d : Nat) : Int) * 1440 + ((m : Nat) : Int)) / 1440 = ((d : Nat) : Int) by omega, show (((d : Nat) : Int) * 1440 + ((m : Nat) : Int)) % 1440 = ((m : Nat) : Int) by omega] at e3
      exact ⟨p, e2, e3⟩
    · exact absurd z (by decide)
    · exact absurd z (by decide)
  -- isinstance(pair, tuple)
  refine ⟨_, rfl, .ref p, "tuple", _, _, rfl, (Kd.tup hp).ty, rfl, _, rfl, itF (by decide) ?_⟩
  -- pair != (day, minute)
  refine ⟨_, rfl, _, rfl, _, rfl, by show 2 ≤ sizeLine; decide, fun p2 g2 => ?_⟩
  have s3 := same_new g2 (.tup [.int (d : Nat), .int (m : Nat)])
  have dv : ∀ (H' : Hp) (a : Addr), H' a = some (.tup [.int (d : Nat), .int (m : Nat)]) → DV K H' (.ref a) (.tuple [.int (d : Nat), .int (m : Nat)]) := fun H' a e => .tup (SqT.of e) (.cons (.int _) (.cons (.int _) .nil))
  have eqq : PyData.eqv (.tuple [.int ((d : Nat) : Int), .int ((m : Nat) : Int)]) (.tuple [.int ((d : Nat) : Int), .int ((m : Nat) : Int)]) = true := SeqAt.eqv_refl _ (dv H2 p hp).can
  refine ⟨_, _, dv _ p (s3 _ _ hp), dv _ p2 upd_same, ?_, _, rfl, itF (by rw [eqq]; decide) ?_⟩
  · exact Nat.le_of_ble_eq_true rfl
  -- all([whole(one) for one in pair])
  refine ⟨_, rfl, p, rfl, ⟨_, SqT.of (s3 _ _ hp)⟩, comp_tup (K := K) (a := p) (xs := [.int (d : Nat), .int (m : Nat)]) (fun i acc σ H' => Same (upd H2 p2 (.tup [.int (d : Nat), .int (m : Nat)])) H' ∧ acc = List.replicate i (.bl true) ∧ ∃ v, σ = [v])
    ⟨Same.refl _, rfl, _, rfl⟩ (by show 2 ≤ sizeLine; decide) (fun i acc σ H' _ ⟨s', _⟩ => SqT.of (s' _ _ (s3 _ _ hp))) ?_ ?_⟩
  · rintro i x acc σ H' ha hx ⟨s', e, v, rfl⟩
    obtain ⟨n, rfl⟩ : ∃ n : Int, x = .int n := by
      match i, hx with
      | 0, hx => exact ⟨_, (Option.some.inj hx).symm⟩
      | 1, hx => exact ⟨_, (Option.some.inj hx).symm⟩
      | _ + 2, hx => cases hx
    dsimp only [gName, tTrue]
    rw [if_pos rfl]
    refine ⟨_, rfl, .int n, "int", rfl, .int _, ?_, s', ?_, _, rfl⟩
    · rw [List.length_append, List.length_singleton]; omega
    · rw [e]
      show List.replicate i (V.bl true) ++ [.bl true] = _
      rw [← List.replicate_succ']
  · rintro acc σ H' ha ⟨s', e, v, rfl⟩ p3 g3
    have e2 : acc = ([true, true] : List Bool).map V.bl := by rw [e]; rfl
    refine ⟨p3, [true, true], rfl, SqL.of (by rw [upd_same, e2]), _, rfl, itF (by decide) ?_⟩
    have s4 := s'.trans (same_new g3 (.lst acc))
    -- text = written(day, minute)
    refine ⟨_, rfl, _, rfl, d, m, rfl, hd, hm, ?_⟩
    refine ⟨_, rfl, 2, .int _, .int 0, "int", "int", rfl, by decide, by decide, .int _, .int _, (fun z e => by cases e), (fun H5 u _ k s5 => ?_), (fun r H5 e => by rw [n2] at e; cases e)⟩
    have ku : u = .str (mtx d m) := by
      rcases k with ⟨z, _⟩ | ⟨z, _⟩ | ⟨_, i, e1, e3⟩ | ⟨z, _⟩
      · exact absurd z (by decide)
      · exact absurd z (by decide)
      · have e1' : ((d : Nat) : Int) * 1440 + ((m : Nat) : Int) = ((i : Nat) : Int) := V.int.inj e1
        have i1 : i / 1440 = d := by omega
        have i2 : i % 1440 = m := by omega
        rw [i1, i2] at e3
        exact e3
      · exact absurd z (by decide)
    subst ku
    refine ⟨_, rfl, rfl, _, rfl, itT (by simp) ?_⟩
    have ml := mtx_len (d := d) (m := m) hd
    have n3 : toldNo 3 (.str (mtx d m)) (.int 0) = false := by
      unfold toldNo
      rw [if_neg (by decide), if_neg (by decide), if_neg (by decide)]
      show (momL (mtx d m).cps.toList).isNone = false
      rw [mom_mtx hd hm]
      rfl
    refine ⟨_, rfl, 3, .str (mtx d m), .int 0, "str", "int", rfl, by decide, by decide, .str _, .int _, (fun z e => by injection e with e; rw [← e]; omega), (fun H6 u _ k s6 => ?_), (fun r H6 e => by rw [n3] at e; cases e)⟩
    have ku : u = .int (((d : Nat) : Int) * 1440 + ((m : Nat) : Int)) := by
      rcases k with ⟨z, _⟩ | ⟨z, _⟩ | ⟨z, _⟩ | ⟨_, k, e1, e3⟩
      · exact absurd z (by decide)
      · exact absurd z (by decide)
      · exact absurd z (by decide)
      · have e1' : momL (mtx d m).cps.toList = some k := e1
        rw [mom_mtx hd hm] at e1'
        cases e1'
        rw [e3]
        exact congrArg V.int (by omega)
    subst ku
    refine ⟨_, rfl, rfl, ?_⟩
    have q2 := q H6 ((s1.trans s2).trans ((s3.trans s4).trans (s5.trans s6)))
    rw [decide_eq_true rfl]
    exact q2

def sp_law (K : PySem.W.Frag) : Sp := fun vs H Q _ => ∃ (a : Addr) (ns : List Int), vs = [.ref a] ∧ SqL K H a (ns.map V.int) ∧ ns.length ≤ 63 ∧ ∀ H', Q (.bl true) H'
/- a thing of a known kind, no text longer than a few signs, no number from 0 to 14400000 -/
structure Odd (H : Hp) (v : V) : Prop where
  kd : ∃ T, Kd H v T
  no : ∀ hi : Int, hi ≤ 14399999 → numV v 0 hi = false
  mo : momV v = none
  le : ∀ z, v = .str z → z.length ≤ 1000
theorem Odd.same {H H' : Hp} {v : V} (b : Odd H v) (s : Same H H') : Odd H' v := ⟨let ⟨T, k⟩ := b.kd; ⟨T, k.same s⟩, b.no, b.mo, b.le⟩
theorem odd_int {H : Hp} {i : Int} (h : ¬ (0 ≤ i ∧ i ≤ 14399999)) : Odd H (.int i) := ⟨⟨_, .int _⟩, fun hi hh => decide_eq_false (fun z => h ⟨z.1, by omega⟩), rfl, fun z e => by cases e⟩
/- a number beyond a bound, or an odd thing -/
def Beyond (H : Hp) (b : Int) (v : V) : Prop := (∃ T, Kd H v T) ∧ numV v 0 b = false ∧ (∀ z, v = .str z → z.length ≤ 1000)
theorem Beyond.same {H H' : Hp} {b : Int} {v : V} (h : Beyond H b v) (s : Same H H') : Beyond H' b v := ⟨let ⟨T, k⟩ := h.1; ⟨T, k.same s⟩, h.2⟩
theorem Odd.beyond {H : Hp} {v : V} (h : Odd H v) {b : Int} (hb : b ≤ 14399999) : Beyond H b v := ⟨h.kd, h.no b hb, h.le⟩
theorem beyond_int {H : Hp} {b i : Int} (h : ¬ (0 ≤ i ∧ i ≤ b)) : Beyond H b (.int i) := ⟨⟨_, .int _⟩, decide_eq_false h, fun z e => by cases e⟩
theorem ok_law (Tx : Tab K mg t) : FnOk P w K mg base CX0 8 t.f_law t.d_law ["_law_script"] (sp_law K) := by
  refine Tx.F_law.ok sc_law (fun vs H Q E h => ?_) (fun cdv A outer s H vs Q E hr h => ?_)
  · obtain ⟨a, ns, rfl, _⟩ := h
    rfl
  obtain ⟨a, ns, rfl, hS, hlen, q⟩ := h
  refine ⟨_, (pss_cons (ps_set (i := 1) sc_law.nd rfl (Or.inl rfl) (pe_lst (pac pe_int pa_nil)))
    (pss_cons (ps_for PassesOwn.never rfl (pi_range1 rfl Tx.z_range (pac pe_int pa_nil)) (pg_name (i := 2) sc_law.nd rfl (Or.inl rfl))
    (pss_cons (ps_set (i := 3) sc_law.nd rfl (Or.inl rfl) (pe_ix ix_list (pe_lst (pac pe_int (pac pe_int (pac pe_int (pac pe_int (pac pe_int (pac pe_int (pac pe_int (pac pe_int (pac (pe_call (ok_law_draw Tx) (hr.mono (by omega)) rfl Tx.m_law_draw Tx.F_law_draw.kp Tx.b_law_draw .nil pass0 (pac (pv 0) (pac (pv 1) (pac pe_int pa_nil)))) pa_nil)))))))))) (pe_call (ok_law_draw Tx) (hr.mono (by omega)) rfl Tx.m_law_draw Tx.F_law_draw.kp Tx.b_law_draw .nil pass0 (pac (pv 0) (pac (pv 1) (pac pe_int pa_nil)))) (fun _ _ => rfl)))
    (pss_cons (ps_set (i := 4) sc_law.nd rfl (Or.inl rfl) (pe_ix ix_list (pe_lst (pac pe_int (pac pe_int (pac pe_int (pac pe_int (pac (pe_call (ok_law_draw Tx) (hr.mono (by omega)) rfl Tx.m_law_draw Tx.F_law_draw.kp Tx.b_law_draw .nil pass0 (pac (pv 0) (pac (pv 1) (pac pe_int pa_nil)))) pa_nil)))))) (pe_call (ok_law_draw Tx) (hr.mono (by omega)) rfl Tx.m_law_draw Tx.F_law_draw.kp Tx.b_law_draw .nil pass0 (pac (pv 0) (pac (pv 1) (pac pe_int pa_nil)))) (fun _ _ => rfl)))
    (pss_cons (ps_if (pt_not (pt_val (pe_call (ok_law_right Tx) (hr.mono (by omega)) rfl Tx.m_law_right Tx.F_law_right.kp Tx.b_law_right .nil pass0 (pac (pv 3) (pac (pv 4) pa_nil)))))
    (pss_one (ps_ret pe_bl))
    pss_nil)
    (pss_cons (ps_set (i := 5) sc_law.nd rfl (Or.inl rfl) (pe_call (ok_law_changed Tx) (hr.mono (by omega)) rfl Tx.m_law_changed Tx.F_law_changed.kp Tx.b_law_changed .nil pass0 (pac (pv 0) (pac (pv 1) (pac (pe_call (ok_law_written Tx) (hr.mono (by omega)) rfl Tx.m_law_written Tx.F_law_written.kp Tx.b_law_written .nil pass0 (pac (pv 3) (pac (pv 4) pa_nil))) pa_nil)))))
    (pss_cons (ps_set (i := 6) sc_law.nd rfl (Or.inl rfl) (pe_call (ok_law_due Tx) (hr.mono (by omega)) rfl Tx.m_law_due Tx.F_law_due.kp Tx.b_law_due .nil pass0 (pac (pv 5) pa_nil)))
    (pss_cons (ps_set (i := 7) sc_law.nd rfl (Or.inl rfl) (pe_call (ok_law_told Tx) (hr.mono (by omega)) rfl Tx.m_law_told Tx.F_law_told.kp Tx.b_law_told .nil pass0 (pac pe_int (pac (pv 5) (pac pe_int pa_nil)))))
    (pss_one (ps_if (PW.pt (pw_or (PW.pt (pw_and (pt_cmp (pc_isN (pv 6))) (pw_and1 (pt_cmpR (op_ne_lst hr.units0) (pv 7) (pe_lst (pac pe_str pa_nil)) (nomark _))))) (pw_or1 (PW.pt (pw_and (pt_cmp (pc_notN (pv 6))) (pw_and1 (PW.pt (pw_or (pt_cmpR op_ne (pv 7) (pv 6) (nomark _)) (pw_or1 (pt_not (pt_val (pe_call (ok_law_whole Tx) (hr.mono (by omega)) rfl Tx.m_law_whole Tx.F_law_whole.kp Tx.b_law_whole .nil pass0 (pac (pv 7) pa_nil)))))))))))))
    (pss_one (ps_ret pe_bl))
    pss_nil)))))))))
    (pss_cons (ps_set (i := 8) sc_law.nd rfl (Or.inl rfl) (pe_call (ok_law_draw Tx) (hr.mono (by omega)) rfl Tx.m_law_draw Tx.F_law_draw.kp Tx.b_law_draw .nil pass0 (pac (pv 0) (pac (pv 1) (pac (pe_op op_pow pe_int pe_int) pa_nil)))))
    (pss_cons (ps_set (i := 9) sc_law.nd rfl (Or.inl rfl) (pe_ix ix_list (pe_lst (pac (pe_un un_neg pe_int) (pac pe_bl (pac pe_non (pac pe_str (pac (pe_lst (pac pe_int pa_nil)) (pac pe_dnew (pac pe_bl (pac (pe_tup (pac pe_int pa_nil)) (pac (pe_op op_pow pe_int pe_int) pa_nil)))))))))) (pe_op op_mod (pv 8) pe_int) (fun _ _ => rfl)))
    (pss_cons (ps_set (i := 3) sc_law.nd rfl (Or.inl rfl) (pe_ix ix_list (pe_lst (pac pe_int (pac (pv 9) pa_nil))) (pe_op op_mod (pe_op op_fdiv (pv 8) pe_int) pe_int) (fun _ _ => rfl)))
    (pss_cons (ps_set (i := 4) sc_law.nd rfl (Or.inl rfl) (pe_ix ix_list (pe_lst (pac pe_int (pac (pv 9) (pac pe_int pa_nil)))) (pe_op op_mod (pe_op op_fdiv (pv 8) pe_int) pe_int) (fun _ _ => rfl)))
    (pss_cons (ps_set (i := 10) sc_law.nd rfl (Or.inl rfl) (pe_ix ix_list (pe_lst (pac pe_int (pac (pv 9) pa_nil))) (pe_op op_mod (pe_op op_fdiv (pv 8) pe_int) pe_int) (fun _ _ => rfl)))
    (pss_cons (ps_set (i := 11) sc_law.nd rfl (Or.inl rfl) (pe_ix ix_list (pe_lst (pac pe_int (pac pe_non (pac pe_bl (pac (pe_lst (pac pe_str pa_nil)) (pac pe_dnew (pac (pe_tup (pac pe_str (pac pe_str pa_nil))) pa_nil))))))) (pe_op op_mod (pe_op op_fdiv (pv 8) pe_int) pe_int) (fun _ _ => rfl)))
    (pss_cons (ps_set (i := 12) sc_law.nd rfl (Or.inl rfl) (pe_lst (pac (pe_call (ok_law_told Tx) (hr.mono (by omega)) rfl Tx.m_law_told Tx.F_law_told.kp Tx.b_law_told .nil pass0 (pac pe_int (pac (pv 3) (pac pe_int pa_nil)))) (pac (pe_call (ok_law_told Tx) (hr.mono (by omega)) rfl Tx.m_law_told Tx.F_law_told.kp Tx.b_law_told .nil pass0 (pac pe_int (pac pe_int (pac (pv 4) pa_nil)))) (pac (pe_call (ok_law_told Tx) (hr.mono (by omega)) rfl Tx.m_law_told Tx.F_law_told.kp Tx.b_law_told .nil pass0 (pac pe_int (pac (pv 10) (pac pe_int pa_nil)))) (pac (pe_call (ok_law_told Tx) (hr.mono (by omega)) rfl Tx.m_law_told Tx.F_law_told.kp Tx.b_law_told .nil pass0 (pac pe_int (pac (pv 10) (pac pe_int pa_nil)))) pa_nil))))))
    (pss_one (ps_ret (pe_cmpR (op_eqD hr.units) (pe_op op_cat (pv 12) (pe_lst (pac (pe_call (ok_law_told Tx) (hr.mono (by omega)) rfl Tx.m_law_told Tx.F_law_told.kp Tx.b_law_told .nil pass0 (pac pe_int (pac (pv 11) (pac pe_int pa_nil)))) (pac (pe_call (ok_law_told Tx) (hr.mono (by omega)) rfl Tx.m_law_told Tx.F_law_told.kp Tx.b_law_told .nil pass0 (pac pe_int (pac (pv 3) (pac (pv 4) pa_nil)))) pa_nil)))) (pe_op op_rep (pe_lst (pac (pe_lst (pac pe_str pa_nil)) pa_nil)) pe_int) (nomark _))))))))))))), ?_⟩
  refine ⟨by show 1 ≤ sizeLine; decide, fun tp htp => ?_⟩
  have S0 := Scr.new hS htp (.lst [.int 0])
  refine ⟨6, rfl, by decide, by decide, for_range (n := 6) (fun i σ H2 => ∃ v2 v3 v4 v5 v6 v7 : Option V, σ = [some (.ref a), some (.ref tp), v2, v3, v4, v5, v6, v7, none, none, none, none, none] ∧ Scr K H2 a tp ns ∧ H2 tp = some (.lst [.int (7 * (i : Int))])) ⟨_, _, _, _, _, _, rfl, S0, upd_same⟩ ?_ ?_⟩
  · rintro i σ H2 hi ⟨v2, v3, v4, v5, v6, v7, rfl, S, hT⟩
    have ne_tp : ∀ {H' : Hp} {k : Int} {p : Addr}, H' tp = some (.lst [.int k]) → H' p = none → p ≠ tp := fun {H' k p} z g e => by
      rw [e, z] at g
      cases g
    refine ⟨_, rfl, _, rfl, a, tp, ns, 7 * (i : Int), 10000, rfl, S, hT, by omega, by omega, by decide, by decide, fun d1 H3 d10 d11 b1 => ?_⟩
    refine ⟨by show 9 ≤ sizeLine; decide, fun p1 g1 => ?_⟩
    have s1 := same_new g1 (.lst [.int 0, .int 9999, .int 9, .int 10, .int 99, .int 100, .int 999, .int 1000, .int d1])
    have B1 := b1.same s1
    have n1 := ne_tp b1.tape g1
    refine ⟨_, rfl, _, rfl, a, tp, ns, 7 * (i : Int) + 1, 9, rfl, B1.scr S, B1.tape, by omega, by omega, by decide, by decide, fun d2 H4 d20 d21 b2 => ?_⟩
    have B2 := B1.trans b2
    obtain ⟨vd, ed, d, rfl, hd⟩ := at_all (p := fun v => ∃ n : Nat, v = V.int (n : Nat) ∧ n ≤ 9999) (xs := [.int 0, .int 9999, .int 9, .int 10, .int 99, .int 100, .int 999, .int 1000, .int d1]) (d := d2) (fun v hv => by
      simp only [List.mem_cons, List.not_mem_nil, or_false] at hv
      rcases hv with rfl | rfl | rfl | rfl | rfl | rfl | rfl | rfl | rfl
      · exact ⟨0, rfl, by decide⟩
      · exact ⟨9999, rfl, by decide⟩
      · exact ⟨9, rfl, by decide⟩
      · exact ⟨10, rfl, by decide⟩
      · exact ⟨99, rfl, by decide⟩
      · exact ⟨100, rfl, by decide⟩
      · exact ⟨999, rfl, by decide⟩
      · exact ⟨1000, rfl, by decide⟩
      · exact ⟨d1.toNat, congrArg V.int (by omega), by omega⟩) d20 d21
    refine ⟨p1, _, d2, _, rfl, rfl, SqL.of (b2.keep _ _ n1 upd_same), ed, ?_⟩
    refine ⟨_, rfl, _, rfl, a, tp, ns, 7 * (i : Int) + 1 + 1, 1440, rfl, B2.scr S, B2.tape, by omega, by omega, by decide, by decide, fun d3 H5 d30 d31 b3 => ?_⟩
    have B3 := B2.trans b3
    refine ⟨by show 5 ≤ sizeLine; decide, fun p2 g2 => ?_⟩
    have s2 := same_new g2 (.lst [.int 0, .int 1439, .int 59, .int 60, .int d3])
    have B3' := B3.same s2
    have n2 := ne_tp B3.tape g2
    refine ⟨_, rfl, _, rfl, a, tp, ns, 7 * (i : Int) + 1 + 1 + 1, 5, rfl, B3'.scr S, B3'.tape, by omega, by omega, by decide, by decide, fun d4 H6 d40 d41 b4 => ?_⟩
    have B4 := B3'.trans b4
    obtain ⟨vm, em, m, rfl, hm⟩ := at_all (p := fun v => ∃ n : Nat, v = V.int (n : Nat) ∧ n ≤ 1439) (xs := [.int 0, .int 1439, .int 59, .int 60, .int d3]) (d := d4) (fun v hv => by
      simp only [List.mem_cons, List.not_mem_nil, or_false] at hv
      rcases hv with rfl | rfl | rfl | rfl | rfl
      · exact ⟨0, rfl, by decide⟩
      · exact ⟨1439, rfl, by decide⟩
      · exact ⟨59, rfl, by decide⟩
      · exact ⟨60, rfl, by decide⟩
      · exact ⟨d3.toNat, congrArg V.int (by omega), by omega⟩) d40 d41
    refine ⟨p2, _, d4, _, rfl, rfl, SqL.of (b4.keep _ _ n2 upd_same), em, ?_⟩
    refine ⟨_, rfl, _, rfl, d, m, rfl, hd, hm, fun H7 s7 => ⟨_, rfl, itF (by decide) ?_⟩⟩
    have B7 := B4.same s7
    have ml := mtx_len (d := d) (m := m) hd
    refine ⟨_, rfl, _, rfl, _, rfl, _, rfl, d, m, rfl, hd, hm, a, tp, ns, 7 * (i : Int) + 1 + 1 + 1 + 1, mtx d m, rfl, by omega, by omega, B7.scr S, B7.tape, by omega, by omega, fun z H8 hz b8 => ?_⟩
    have B8 := B7.trans b8
    refine ⟨_, rfl, z, rfl, by omega, fun H9 s9 => ?_⟩
    have fin : ∀ H12, Same H9 H12 → ∀ w2 w3 w4 w5 w6 w7 : Option V, ∃ v2 v3 v4 v5 v6 v7 : Option V, [some (.ref a), some (.ref tp), w2, w3, w4, w5, w6, w7, none, none, none, none, none] = [some (V.ref a), some (.ref tp), v2, v3, v4, v5, v6, v7, none, none, none, none, none] ∧ Scr K H12 a tp ns ∧ H12 tp = some (.lst [.int (7 * ((i + 1 : Nat) : Int))]) := fun H12 s12 w2 w3 w4 w5 w6 w7 => by
      have B12 := (B8.same s9).same s12
      refine ⟨_, _, _, _, _, _, rfl, B12.scr S, ?_⟩
      have e := B12.tape
      rw [show 7 * (i : Int) + 1 + 1 + 1 + 1 + 3 = 7 * ((i + 1 : Nat) : Int) by omega] at e
      exact e
    have en : toldNo 3 (.str z) (.int 0) = (momL z.cps.toList).isNone := by
      unfold toldNo
      rw [if_neg (by decide), if_neg (by decide), if_neg (by decide)]
      rfl
    refine ⟨_, rfl, 3, .str z, .int 0, "str", "int", rfl, by decide, by decide, .str _, .int _, (fun y e => by injection e with e; rw [← e]; omega), (fun H12 u e k s12 => ?_), (fun r H12 e s12 hr12 => ?_)⟩
    · rw [en] at e
      cases ed : momL z.cps.toList with
      | none => rw [ed] at e; cases e
      | some m' =>
        have ku : u = .int ((m' : Nat) : Int) := by
          rcases k with ⟨z, _⟩ | ⟨z, _⟩ | ⟨z, _⟩ | ⟨_, k, e1, e3⟩
          · exact absurd z (by decide)
          · exact absurd z (by decide)
          · exact absurd z (by decide)
          · have e1' : momL z.cps.toList = some k := e1
            rw [ed] at e1'
            cases e1'
            exact e3
        subst ku
        refine ⟨_, rfl, _, rfl, itF Bool.false_ne_true (itF Bool.false_ne_true ?_)⟩
        refine ⟨_, rfl, _, rfl, itT rfl ?_⟩
        refine ⟨_, rfl, _, rfl, rfl, _, rfl, itF (by show (!decide (V.int ((m' : Nat) : Int) = V.int ((m' : Nat) : Int))) ≠ true; simp) ?_⟩
        refine ⟨_, rfl, .int (m' : Nat), "int", rfl, .int _, _, rfl, itF Bool.false_ne_true ?_⟩
        exact fin H12 s12 _ _ _ _ _ _
    · rw [en] at e
      cases ed : momL z.cps.toList with
      | some m' => rw [ed] at e; cases e
      | none =>
        refine ⟨_, rfl, _, rfl, itT (by decide) ?_⟩
        refine ⟨_, rfl, by show 1 ≤ sizeLine; decide, fun p9 g9 => ?_⟩
        have s13 := same_new g9 (.lst [.str (Str.ofString "clock")])
        refine ⟨r, p9, _, _, rfl, rfl, SqL.of (s13 _ _ hr12), SqL.of upd_same, rfl, rfl, _, rfl, itF (by decide) ?_⟩
        refine ⟨_, rfl, _, rfl, itF (by decide) (itF (by decide) ?_)⟩
        exact fin _ (s12.trans s13) _ _ _ _ _ _
  · rintro σ H2 ⟨v2, v3, v4, v5, v6, v7, rfl, S, hT⟩
    refine ⟨_, rfl, _, rfl, _, _, rfl, rfl, ⟨by decide, by decide, by decide⟩, a, tp, ns, 7 * ((6 : Nat) : Int), _, rfl, S, hT, by decide, by decide, by decide, by decide, fun d H3 d0 d1 b1 => ?_⟩
    refine ⟨_, rfl, by show 1 ≤ sizeLine; decide, fun p1 g1 => ?_⟩
    intro p2 g2
    refine ⟨by show 1 ≤ sizeLine; decide, fun p3 g3 => ?_⟩
    refine ⟨_, _, rfl, rfl, ⟨by decide, by decide, by decide⟩, by show 9 ≤ sizeLine; decide, fun p4 g4 => ?_⟩
    have s1 := same_new g1 (.lst [.int 5])
    have s2 := same_new g2 (.dK [])
    have s3 := same_new g3 (.tup [.int 5])
    have hb : ∀ v ∈ [V.int (-1), .bl true, .non, .str (Str.ofString "5"), .ref p1, .ref p2, .bl false, .ref p3, .int (10 ^ (20 : Int).toNat)], Odd (upd (upd (upd H3 p1 (.lst [.int 5])) p2 (.dK [])) p3 (.tup [.int 5])) v := by
      have five : ∀ z, V.str (Str.ofString "5") = .str z → z.length ≤ 1000 := fun z e => by
        injection e with e
        rw [← e]
        decide +kernel
      intro v hv
      simp only [List.mem_cons, List.not_mem_nil, or_false] at hv
      rcases hv with rfl | rfl | rfl | rfl | rfl | rfl | rfl | rfl | rfl
      · exact odd_int (by omega)
      · exact ⟨⟨_, .bl _⟩, fun _ _ => rfl, rfl, fun z e => by cases e⟩
      · exact ⟨⟨_, .non⟩, fun _ _ => rfl, rfl, fun z e => by cases e⟩
      · exact ⟨⟨_, .str _⟩, fun _ _ => rfl, by decide +kernel, five⟩
      · exact ⟨⟨_, .lst (s3 _ _ (s2 _ _ upd_same))⟩, fun _ _ => rfl, rfl, fun z e => by cases e⟩
      · exact ⟨⟨_, .dK (s3 _ _ upd_same)⟩, fun _ _ => rfl, rfl, fun z e => by cases e⟩
      · exact ⟨⟨_, .bl _⟩, fun _ _ => rfl, rfl, fun z e => by cases e⟩
      · exact ⟨⟨_, .tup upd_same⟩, fun _ _ => rfl, rfl, fun z e => by cases e⟩
      · exact odd_int (by decide)
    obtain ⟨odd, eo, bo⟩ := at_all hb (d := d % 9) (by omega) (by show d % 9 < 9; omega)
    have s4 := same_new g4 (.lst [V.int (-1), .bl true, .non, .str (Str.ofString "5"), .ref p1, .ref p2, .bl false, .ref p3, .int (10 ^ (20 : Int).toNat)])
    refine ⟨_, rfl, _, _, rfl, rfl, (by show (0 : Int) < 9; decide), p4, _, _, odd, rfl, rfl, SqL.of upd_same, eo, ?_⟩
    have bo4 := bo.same s4
    -- day
    refine ⟨_, rfl, by show 2 ≤ sizeLine; decide, fun p5 g5 => ?_⟩
    have s5 := same_new g5 (.lst [V.int 10000, odd])
    obtain ⟨vd, ed, kd⟩ := at_all (p := Beyond _ 9999) (xs := [V.int 10000, odd]) (d := d / 9 % 2) (fun v hv => by
      simp only [List.mem_cons, List.not_mem_nil, or_false] at hv
      rcases hv with rfl | rfl
      · exact beyond_int (by omega)
      · exact bo4.beyond (by decide)) (by omega) (by show d / 9 % 2 < 2; omega)
    refine ⟨_, rfl, _, _, rfl, rfl, ⟨by decide, by decide⟩, _, _, rfl, rfl, (by show (0 : Int) < 2; decide), p5, _, _, vd, rfl, rfl, SqL.of upd_same, ed, ?_⟩
    have bo5 := bo4.same s5
    -- minute
    refine ⟨_, rfl, by show 3 ≤ sizeLine; decide, fun p6 g6 => ?_⟩
    have s6 := same_new g6 (.lst [V.int 1440, odd, V.int 2879])
    obtain ⟨vm, em, km⟩ := at_all (p := Beyond _ 1439) (xs := [V.int 1440, odd, V.int 2879]) (d := d / 18 % 3) (fun v hv => by
      simp only [List.mem_cons, List.not_mem_nil, or_false] at hv
      rcases hv with rfl | rfl | rfl
      · exact beyond_int (by omega)
      · exact bo5.beyond (by decide)
      · exact beyond_int (by omega)) (by omega) (by show d / 18 % 3 < 3; omega)
    refine ⟨_, rfl, _, _, rfl, rfl, ⟨by decide, by decide⟩, _, _, rfl, rfl, (by show (0 : Int) < 3; decide), p6, _, _, vm, rfl, rfl, SqL.of upd_same, em, ?_⟩
    have bo6 := bo5.same s6
    -- moment
    refine ⟨_, rfl, by show 2 ≤ sizeLine; decide, fun p7 g7 => ?_⟩
    have s7 := same_new g7 (.lst [V.int 14400000, odd])
    obtain ⟨vo, eo7, ko⟩ := at_all (p := Beyond _ 14399999) (xs := [V.int 14400000, odd]) (d := d / 54 % 2) (fun v hv => by
      simp only [List.mem_cons, List.not_mem_nil, or_false] at hv
      rcases hv with rfl | rfl
      · exact beyond_int (by omega)
      · exact bo6.beyond (by decide)) (by omega) (by show d / 54 % 2 < 2; omega)
    refine ⟨_, rfl, _, _, rfl, rfl, ⟨by decide, by decide⟩, _, _, rfl, rfl, (by show (0 : Int) < 2; decide), p7, _, _, vo, rfl, rfl, SqL.of upd_same, eo7, ?_⟩
    -- thing
    refine ⟨by show 1 ≤ sizeLine; decide, fun p8 g8 => ?_⟩
    intro p9 g9
    refine ⟨by show 2 ≤ sizeLine; decide, fun p10 g10 => ?_⟩
    refine ⟨by show 6 ≤ sizeLine; decide, fun p11 g11 => ?_⟩
    have s8 := same_new g8 (.lst [.str (Str.ofString "0 00:00")])
    have s9 := same_new g9 (.dK [])
    have s10 := same_new g10 (.tup [.str (Str.ofString "0"), .str (Str.ofString "00:00")])
    have s11 := same_new g11 (.lst [V.int 5, .non, .bl true, .ref p8, .ref p9, .ref p10])
    obtain ⟨th, et, ⟨Tt, kt⟩, mt, lt⟩ := at_all (p := fun v => (∃ T, Kd (upd (upd (upd (upd (upd (upd (upd (upd (upd (upd (upd H3 p1 (.lst [.int 5])) p2 (.dK [])) p3 (.tup [.int 5])) p4 (.lst [V.int (-1), .bl true, .non, .str (Str.ofString "5"), .ref p1, .ref p2, .bl false, .ref p3, .int (10 ^ (20 : Int).toNat)])) p5 (.lst [V.int 10000, odd])) p6 (.lst [V.int 1440, odd, V.int 2879])) p7 (.lst [V.int 14400000, odd])) p8 (.lst [.str (Str.ofString "0 00:00")])) p9 (.dK [])) p10 (.tup [.str (Str.ofString "0"), .str (Str.ofString "00:00")])) p11 (.lst [V.int 5, .non, .bl true, .ref p8, .ref p9, .ref p10])) v T) ∧ momV v = none ∧ ∀ z, v = .str z → z.length ≤ 1000)
      (xs := [V.int 5, .non, .bl true, .ref p8, .ref p9, .ref p10]) (d := d / 108 % 6) (fun v hv => by
      simp only [List.mem_cons, List.not_mem_nil, or_false] at hv
      rcases hv with rfl | rfl | rfl | rfl | rfl | rfl
      · exact ⟨⟨_, .int _⟩, rfl, fun z e => by cases e⟩
      · exact ⟨⟨_, .non⟩, rfl, fun z e => by cases e⟩
      · exact ⟨⟨_, .bl _⟩, rfl, fun z e => by cases e⟩
      · exact ⟨⟨_, .lst (s11 _ _ (s10 _ _ (s9 _ _ upd_same)))⟩, rfl, fun z e => by cases e⟩
      · exact ⟨⟨_, .dK (s11 _ _ (s10 _ _ upd_same))⟩, rfl, fun z e => by cases e⟩
      · exact ⟨⟨_, .tup (s11 _ _ upd_same)⟩, rfl, fun z e => by cases e⟩) (by omega) (by show d / 108 % 6 < 6; omega)
    refine ⟨_, rfl, _, _, rfl, rfl, ⟨by decide, by decide⟩, _, _, rfl, rfl, (by show (0 : Int) < 6; decide), p11, _, _, th, rfl, rfl, SqL.of upd_same, et, ?_⟩
    have kd11 := kd.same (s5.trans (s6.trans (s7.trans (s8.trans (s9.trans (s10.trans s11))))))
    have km11 := km.same (s6.trans (s7.trans (s8.trans (s9.trans (s10.trans s11)))))
    have ko11 := ko.same (s7.trans (s8.trans (s9.trans (s10.trans s11))))
    generalize (upd (upd (upd (upd (upd (upd (upd (upd (upd (upd (upd H3 p1 (.lst [.int 5])) p2 (.dK [])) p3 (.tup [.int 5])) p4 (.lst [V.int (-1), .bl true, .non, .str (Str.ofString "5"), .ref p1, .ref p2, .bl false, .ref p3, .int (10 ^ (20 : Int).toNat)])) p5 (.lst [V.int 10000, odd])) p6 (.lst [V.int 1440, odd, V.int 2879])) p7 (.lst [V.int 14400000, odd])) p8 (.lst [.str (Str.ofString "0 00:00")])) p9 (.dK [])) p10 (.tup [.str (Str.ofString "0"), .str (Str.ofString "00:00")])) p11 (.lst [V.int 5, .non, .bl true, .ref p8, .ref p9, .ref p10])) = HH at kd11 km11 ko11 kt ⊢
    -- the six
    have no0 : ∀ m : V, toldNo 0 vd m = true := fun m => by unfold toldNo; rw [if_pos rfl, kd11.2.1]; rfl
    have no0' : toldNo 0 (.int 9999) vm = true := by unfold toldNo; rw [if_pos rfl, km11.2.1, Bool.and_false]; rfl
    have no1 : toldNo 1 vo (.int 0) = true := by unfold toldNo; rw [if_neg (by decide), if_pos rfl, ko11.2.1]; rfl
    have no2 : toldNo 2 vo (.int 0) = true := by unfold toldNo; rw [if_neg (by decide), if_neg (by decide), if_pos rfl, ko11.2.1]; rfl
    have no3 : toldNo 3 th (.int 0) = true := by unfold toldNo; rw [if_neg (by decide), if_neg (by decide), if_neg (by decide), mt]; rfl
    obtain ⟨Td, kd12⟩ := kd11.1
    refine ⟨_, rfl, 0, vd, .int 0, Td, "int", rfl, by decide, by decide, kd12, .int _, kd11.2.2, (fun H9 u e => by rw [no0] at e; cases e), (fun r1 I1 _ t1 hr1 => ?_)⟩
    obtain ⟨Tm, km12⟩ := (km11.same t1).1
    refine ⟨_, rfl, 0, .int 9999, vm, "int", Tm, rfl, by decide, by decide, .int _, km12, (fun z e => by cases e), (fun H9 u e => by rw [no0'] at e; cases e), (fun r2 I2 _ t2 hr2 => ?_)⟩
    obtain ⟨To, ko12⟩ := (ko11.same (t1.trans t2)).1
    refine ⟨_, rfl, 1, vo, .int 0, To, "int", rfl, by decide, by decide, ko12, .int _, ko11.2.2, (fun H9 u e => by rw [no1] at e; cases e), (fun r3 I3 _ t3 hr3 => ?_)⟩
    refine ⟨_, rfl, 2, vo, .int 0, To, "int", rfl, by decide, by decide, ko12.same t3, .int _, ko11.2.2, (fun H9 u e => by rw [no2] at e; cases e), (fun r4 I4 _ t4 hr4 => ?_)⟩
    refine ⟨by show 4 ≤ sizeLine; decide, fun q1 f1 => ?_⟩
    have t5 := same_new f1 (.lst [.ref r1, .ref r2, .ref r3, .ref r4])
    have tt := t1.trans (t2.trans (t3.trans (t4.trans t5)))
    refine ⟨_, rfl, _, rfl, 3, th, .int 0, Tt, "int", rfl, by decide, by decide, kt.same tt, .int _, lt, (fun H9 u e => by rw [no3] at e; cases e), (fun r5 I5 _ t6 hr5 => ?_)⟩
    obtain ⟨Tm2, km13⟩ := (km11.same (tt.trans t6)).1
    refine ⟨_, rfl, _, rfl, 0, vd, vm, Td, Tm2, rfl, by decide, by decide, kd12.same (tt.trans t6), km13, kd11.2.2, (fun H9 u e => by rw [no0] at e; cases e), (fun r6 I6 _ t7 hr6 => ?_)⟩
    refine ⟨by show 2 ≤ sizeLine; decide, fun q2 f2 => ?_⟩
    have t8 := same_new f2 (.lst [.ref r5, .ref r6])
    refine ⟨q1, q2, _, _, rfl, rfl, t8 _ _ (t7 _ _ (t6 _ _ upd_same)), upd_same, by show 6 ≤ sizeLine; decide, fun q3 f3 => ?_⟩
    have t9 := same_new f3 (.lst ([.ref r1, .ref r2, .ref r3, .ref r4] ++ [.ref r5, .ref r6]))
    refine ⟨by show 1 ≤ sizeLine; decide, fun q4 f4 => ?_⟩
    have t10 := same_new f4 (.lst [.str (Str.ofString "clock")])
    refine ⟨by show 1 ≤ sizeLine; decide, fun q5 f5 => ?_⟩
    have t11 := same_new f5 (.lst [.ref q4])
    refine ⟨q5, 6, _, rfl, rfl, upd_same, by decide, by decide, by show 1 * 6 ≤ sizeLine; decide, fun q6 f6 => ?_⟩
    have t12 := same_new f6 (.lst ((List.replicate (6 : Int).toNat [V.ref q4]).flatten))
    have ck : ∀ (H' : Hp) (r : Addr), H' r = some (.lst [.str (Str.ofString "clock")]) → DV K H' (.ref r) (.list [.str (Str.ofString "clock")]) := fun H' r e => .lst (SqL.of e) (.cons (.str _ (by decide +kernel)) .nil)
    have u9 := t9.trans (t10.trans (t11.trans t12))
    have h1 := u9 _ _ (t8 _ _ (t7 _ _ (t6 _ _ (t5 _ _ (t4 _ _ (t3 _ _ (t2 _ _ hr1)))))))
    have h2 := u9 _ _ (t8 _ _ (t7 _ _ (t6 _ _ (t5 _ _ (t4 _ _ (t3 _ _ hr2))))))
    have h3 := u9 _ _ (t8 _ _ (t7 _ _ (t6 _ _ (t5 _ _ (t4 _ _ hr3)))))
    have h4 := u9 _ _ (t8 _ _ (t7 _ _ (t6 _ _ (t5 _ _ hr4))))
    have h5 := u9 _ _ (t8 _ _ (t7 _ _ hr5))
    have h6 := u9 _ _ (t8 _ _ hr6)
    have hq4 := t12 _ _ (t11 _ _ upd_same)
    refine ⟨_, _, .lst (SqL.of (t12 _ _ (t11 _ _ (t10 _ _ upd_same)))) (.cons (ck _ _ h1) (.cons (ck _ _ h2) (.cons (ck _ _ h3) (.cons (ck _ _ h4) (.cons (ck _ _ h5) (.cons (ck _ _ h6) .nil)))))),
      .lst (SqL.of upd_same) (.cons (ck _ _ hq4) (.cons (ck _ _ hq4) (.cons (ck _ _ hq4) (.cons (ck _ _ hq4) (.cons (ck _ _ hq4) (.cons (ck _ _ hq4) .nil)))))), ?_, ?_⟩
    · decide +kernel
    · have e : PyData.eqv (.list [.list [.str (Str.ofString "clock")], .list [.str (Str.ofString "clock")], .list [.str (Str.ofString "clock")], .list [.str (Str.ofString "clock")], .list [.str (Str.ofString "clock")], .list [.str (Str.ofString "clock")]]) (.list [.list [.str (Str.ofString "clock")], .list [.str (Str.ofString "clock")], .list [.str (Str.ofString "clock")], .list [.str (Str.ofString "clock")], .list [.str (Str.ofString "clock")], .list [.str (Str.ofString "clock")]]) = true := by decide +kernel
      show Q (.bl (PyData.eqv _ _)) _
      rw [e]
      exact q _

end
theorem all_mk {K : PySem.W.Frag} {h : Heap} {mg : Str → Option Value} (X : K.In h) (G : h.Ns mainGlobals mg)
    {F_is_any_number : Addr} {oc_is_any_number kV_is_any_number dc_is_any_number pm_is_any_number cd_is_any_number ct_is_any_number : Value} {od_is_any_number an_is_any_number : Option Addr} {sl_is_any_number : Array (Option Value)}
    {F_is_number : Addr} {oc_is_number kV_is_number dc_is_number pm_is_number cd_is_number ct_is_number : Value} {od_is_number an_is_number : Option Addr} {sl_is_number : Array (Option Value)}
    {F_are_figures : Addr} {oc_are_figures kV_are_figures dc_are_figures pm_are_figures cd_are_figures ct_are_figures : Value} {od_are_figures an_are_figures : Option Addr} {sl_are_figures : Array (Option Value)}
    {F_number_by : Addr} {oc_number_by kV_number_by dc_number_by pm_number_by cd_number_by ct_number_by : Value} {od_number_by an_number_by : Option Addr} {sl_number_by : Array (Option Value)}
    {F_two_figures : Addr} {oc_two_figures kV_two_figures dc_two_figures pm_two_figures cd_two_figures ct_two_figures : Value} {od_two_figures an_two_figures : Option Addr} {sl_two_figures : Array (Option Value)}
    {F_clock_text : Addr} {oc_clock_text kV_clock_text dc_clock_text pm_clock_text cd_clock_text ct_clock_text : Value} {od_clock_text an_clock_text : Option Addr} {sl_clock_text : Array (Option Value)}
    {F_has_clock_form : Addr} {oc_has_clock_form kV_has_clock_form dc_has_clock_form pm_has_clock_form cd_has_clock_form ct_has_clock_form : Value} {od_has_clock_form an_has_clock_form : Option Addr} {sl_has_clock_form : Array (Option Value)}
    {F_minute_of : Addr} {oc_minute_of kV_minute_of dc_minute_of pm_minute_of cd_minute_of ct_minute_of : Value} {od_minute_of an_minute_of : Option Addr} {sl_minute_of : Array (Option Value)}
    {F_moment_of : Addr} {oc_moment_of kV_moment_of dc_moment_of pm_moment_of cd_moment_of ct_moment_of : Value} {od_moment_of an_moment_of : Option Addr} {sl_moment_of : Array (Option Value)}
    {F_day_and_minute : Addr} {oc_day_and_minute kV_day_and_minute dc_day_and_minute pm_day_and_minute cd_day_and_minute ct_day_and_minute : Value} {od_day_and_minute an_day_and_minute : Option Addr} {sl_day_and_minute : Array (Option Value)}
    {F_moment_text : Addr} {oc_moment_text kV_moment_text dc_moment_text pm_moment_text cd_moment_text ct_moment_text : Value} {od_moment_text an_moment_text : Option Addr} {sl_moment_text : Array (Option Value)}
    {F_moment_by : Addr} {oc_moment_by kV_moment_by dc_moment_by pm_moment_by cd_moment_by ct_moment_by : Value} {od_moment_by an_moment_by : Option Addr} {sl_moment_by : Array (Option Value)}
    {F_law_cell : Addr} {oc_law_cell kV_law_cell dc_law_cell pm_law_cell cd_law_cell ct_law_cell : Value} {od_law_cell an_law_cell : Option Addr} {sl_law_cell : Array (Option Value)}
    {F_law_draw : Addr} {oc_law_draw kV_law_draw dc_law_draw pm_law_draw cd_law_draw ct_law_draw : Value} {od_law_draw an_law_draw : Option Addr} {sl_law_draw : Array (Option Value)}
    {F_law_whole : Addr} {oc_law_whole kV_law_whole dc_law_whole pm_law_whole cd_law_whole ct_law_whole : Value} {od_law_whole an_law_whole : Option Addr} {sl_law_whole : Array (Option Value)}
    {F_law_class : Addr} {oc_law_class kV_law_class dc_law_class pm_law_class cd_law_class ct_law_class : Value} {od_law_class an_law_class : Option Addr} {sl_law_class : Array (Option Value)}
    {F_law_written : Addr} {oc_law_written kV_law_written dc_law_written pm_law_written cd_law_written ct_law_written : Value} {od_law_written an_law_written : Option Addr} {sl_law_written : Array (Option Value)}
    {F_law_due : Addr} {oc_law_due kV_law_due dc_law_due pm_law_due cd_law_due ct_law_due : Value} {od_law_due an_law_due : Option Addr} {sl_law_due : Array (Option Value)}
    {F_law_told : Addr} {oc_law_told kV_law_told dc_law_told pm_law_told cd_law_told ct_law_told : Value} {od_law_told an_law_told : Option Addr} {sl_law_told : Array (Option Value)}
    {F_law_changed : Addr} {oc_law_changed kV_law_changed dc_law_changed pm_law_changed cd_law_changed ct_law_changed : Value} {od_law_changed an_law_changed : Option Addr} {sl_law_changed : Array (Option Value)}
    {F_law_right : Addr} {oc_law_right kV_law_right dc_law_right pm_law_right cd_law_right ct_law_right : Value} {od_law_right an_law_right : Option Addr} {sl_law_right : Array (Option Value)}
    {F_law : Addr} {oc_law kV_law dc_law pm_law cd_law ct_law : Value} {od_law an_law : Option Addr} {sl_law : Array (Option Value)}
    {C_RoadError : Addr}
    {C_BadClock : Addr}
    {C_BadRule : Addr}
    {C_TooMany : Addr}
    {C_BadName : Addr}
    {C_Twice : Addr}
    {C_NoStop : Addr}
    {C_BadNumber : Addr}
    {C_BadCalls : Addr}
    {C_NoRun : Addr}
    {C_TooLate : Addr}
    {C_NoTraveller : Addr}
    {C_BadLine : Addr}
    {cd_BadClock : PySem.ClassData}
    {t_FIGURES : Tok}
    {t_MOST_FIGURES : Tok}
    {t_LAST_DAY : Tok}
    {t_DAY_MINUTES : Tok}
    {t_HOUR_MINUTES : Tok}
    {t_LAST_MINUTE : Tok}
    {t_LAST_MOMENT : Tok}
    (a_is_any_number : PySem.W.nsIn K mainGlobals "is_any_number" = some (some (.ref F_is_any_number)))
    (l_is_any_number : K.lookup F_is_any_number = some ⟨oc_is_any_number, od_is_any_number, .func (PySem.W.fnOf "is_any_number" "is_any_number" (defArgs s_is_any_number) (defBody s_is_any_number) (defScope s_is_any_number) .none kV_is_any_number dc_is_any_number pm_is_any_number an_is_any_number cd_is_any_number ct_is_any_number), sl_is_any_number⟩)
    (q_is_any_number : PySem.W.codeIn K cd_is_any_number "is_any_number" = true)
    (k_is_any_number : PySem.W.keepIn K (.ref F_is_any_number) = true)
    (a_is_number : PySem.W.nsIn K mainGlobals "is_number" = some (some (.ref F_is_number)))
    (l_is_number : K.lookup F_is_number = some ⟨oc_is_number, od_is_number, .func (PySem.W.fnOf "is_number" "is_number" (defArgs s_is_number) (defBody s_is_number) (defScope s_is_number) .none kV_is_number dc_is_number pm_is_number an_is_number cd_is_number ct_is_number), sl_is_number⟩)
    (q_is_number : PySem.W.codeIn K cd_is_number "is_number" = true)
    (k_is_number : PySem.W.keepIn K (.ref F_is_number) = true)
    (a_are_figures : PySem.W.nsIn K mainGlobals "are_figures" = some (some (.ref F_are_figures)))
    (l_are_figures : K.lookup F_are_figures = some ⟨oc_are_figures, od_are_figures, .func (PySem.W.fnOf "are_figures" "are_figures" (defArgs s_are_figures) (defBody s_are_figures) (defScope s_are_figures) .none kV_are_figures dc_are_figures pm_are_figures an_are_figures cd_are_figures ct_are_figures), sl_are_figures⟩)
    (q_are_figures : PySem.W.codeIn K cd_are_figures "are_figures" = true)
    (k_are_figures : PySem.W.keepIn K (.ref F_are_figures) = true)
    (a_number_by : PySem.W.nsIn K mainGlobals "number_by" = some (some (.ref F_number_by)))
    (l_number_by : K.lookup F_number_by = some ⟨oc_number_by, od_number_by, .func (PySem.W.fnOf "number_by" "number_by" (defArgs s_number_by) (defBody s_number_by) (defScope s_number_by) .none kV_number_by dc_number_by pm_number_by an_number_by cd_number_by ct_number_by), sl_number_by⟩)
    (q_number_by : PySem.W.codeIn K cd_number_by "number_by" = true)
    (k_number_by : PySem.W.keepIn K (.ref F_number_by) = true)
    (a_two_figures : PySem.W.nsIn K mainGlobals "two_figures" = some (some (.ref F_two_figures)))
    (l_two_figures : K.lookup F_two_figures = some ⟨oc_two_figures, od_two_figures, .func (PySem.W.fnOf "two_figures" "two_figures" (defArgs s_two_figures) (defBody s_two_figures) (defScope s_two_figures) .none kV_two_figures dc_two_figures pm_two_figures an_two_figures cd_two_figures ct_two_figures), sl_two_figures⟩)
    (q_two_figures : PySem.W.codeIn K cd_two_figures "two_figures" = true)
    (k_two_figures : PySem.W.keepIn K (.ref F_two_figures) = true)
    (a_clock_text : PySem.W.nsIn K mainGlobals "clock_text" = some (some (.ref F_clock_text)))
    (l_clock_text : K.lookup F_clock_text = some ⟨oc_clock_text, od_clock_text, .func (PySem.W.fnOf "clock_text" "clock_text" (defArgs s_clock_text) (defBody s_clock_text) (defScope s_clock_text) .none kV_clock_text dc_clock_text pm_clock_text an_clock_text cd_clock_text ct_clock_text), sl_clock_text⟩)
    (q_clock_text : PySem.W.codeIn K cd_clock_text "clock_text" = true)
    (k_clock_text : PySem.W.keepIn K (.ref F_clock_text) = true)
    (a_has_clock_form : PySem.W.nsIn K mainGlobals "has_clock_form" = some (some (.ref F_has_clock_form)))
    (l_has_clock_form : K.lookup F_has_clock_form = some ⟨oc_has_clock_form, od_has_clock_form, .func (PySem.W.fnOf "has_clock_form" "has_clock_form" (defArgs s_has_clock_form) (defBody s_has_clock_form) (defScope s_has_clock_form) .none kV_has_clock_form dc_has_clock_form pm_has_clock_form an_has_clock_form cd_has_clock_form ct_has_clock_form), sl_has_clock_form⟩)
    (q_has_clock_form : PySem.W.codeIn K cd_has_clock_form "has_clock_form" = true)
    (k_has_clock_form : PySem.W.keepIn K (.ref F_has_clock_form) = true)
    (a_minute_of : PySem.W.nsIn K mainGlobals "minute_of" = some (some (.ref F_minute_of)))
    (l_minute_of : K.lookup F_minute_of = some ⟨oc_minute_of, od_minute_of, .func (PySem.W.fnOf "minute_of" "minute_of" (defArgs s_minute_of) (defBody s_minute_of) (defScope s_minute_of) .none kV_minute_of dc_minute_of pm_minute_of an_minute_of cd_minute_of ct_minute_of), sl_minute_of⟩)
    (q_minute_of : PySem.W.codeIn K cd_minute_of "minute_of" = true)
    (k_minute_of : PySem.W.keepIn K (.ref F_minute_of) = true)
    (a_moment_of : PySem.W.nsIn K mainGlobals "moment_of" = some (some (.ref F_moment_of)))
    (l_moment_of : K.lookup F_moment_of = some ⟨oc_moment_of, od_moment_of, .func (PySem.W.fnOf "moment_of" "moment_of" (defArgs s_moment_of) (defBody s_moment_of) (defScope s_moment_of) .none kV_moment_of dc_moment_of pm_moment_of an_moment_of cd_moment_of ct_moment_of), sl_moment_of⟩)
    (q_moment_of : PySem.W.codeIn K cd_moment_of "moment_of" = true)
    (k_moment_of : PySem.W.keepIn K (.ref F_moment_of) = true)
    (a_day_and_minute : PySem.W.nsIn K mainGlobals "day_and_minute" = some (some (.ref F_day_and_minute)))
    (l_day_and_minute : K.lookup F_day_and_minute = some ⟨oc_day_and_minute, od_day_and_minute, .func (PySem.W.fnOf "day_and_minute" "day_and_minute" (defArgs s_day_and_minute) (defBody s_day_and_minute) (defScope s_day_and_minute) .none kV_day_and_minute dc_day_and_minute pm_day_and_minute an_day_and_minute cd_day_and_minute ct_day_and_minute), sl_day_and_minute⟩)
    (q_day_and_minute : PySem.W.codeIn K cd_day_and_minute "day_and_minute" = true)
    (k_day_and_minute : PySem.W.keepIn K (.ref F_day_and_minute) = true)
    (a_moment_text : PySem.W.nsIn K mainGlobals "moment_text" = some (some (.ref F_moment_text)))
    (l_moment_text : K.lookup F_moment_text = some ⟨oc_moment_text, od_moment_text, .func (PySem.W.fnOf "moment_text" "moment_text" (defArgs s_moment_text) (defBody s_moment_text) (defScope s_moment_text) .none kV_moment_text dc_moment_text pm_moment_text an_moment_text cd_moment_text ct_moment_text), sl_moment_text⟩)
    (q_moment_text : PySem.W.codeIn K cd_moment_text "moment_text" = true)
    (k_moment_text : PySem.W.keepIn K (.ref F_moment_text) = true)
    (a_moment_by : PySem.W.nsIn K mainGlobals "moment_by" = some (some (.ref F_moment_by)))
    (l_moment_by : K.lookup F_moment_by = some ⟨oc_moment_by, od_moment_by, .func (PySem.W.fnOf "moment_by" "moment_by" (defArgs s_moment_by) (defBody s_moment_by) (defScope s_moment_by) .none kV_moment_by dc_moment_by pm_moment_by an_moment_by cd_moment_by ct_moment_by), sl_moment_by⟩)
    (q_moment_by : PySem.W.codeIn K cd_moment_by "moment_by" = true)
    (k_moment_by : PySem.W.keepIn K (.ref F_moment_by) = true)
    (a_law_cell : PySem.W.nsIn K mainGlobals "_law_cell" = some (some (.ref F_law_cell)))
    (l_law_cell : K.lookup F_law_cell = some ⟨oc_law_cell, od_law_cell, .func (PySem.W.fnOf "_law_cell" "_law_cell" (defArgs s_law_cell) (defBody s_law_cell) (defScope s_law_cell) .none kV_law_cell dc_law_cell pm_law_cell an_law_cell cd_law_cell ct_law_cell), sl_law_cell⟩)
    (q_law_cell : PySem.W.codeIn K cd_law_cell "_law_cell" = true)
    (k_law_cell : PySem.W.keepIn K (.ref F_law_cell) = true)
    (a_law_draw : PySem.W.nsIn K mainGlobals "_law_draw" = some (some (.ref F_law_draw)))
    (l_law_draw : K.lookup F_law_draw = some ⟨oc_law_draw, od_law_draw, .func (PySem.W.fnOf "_law_draw" "_law_draw" (defArgs s_law_draw) (defBody s_law_draw) (defScope s_law_draw) .none kV_law_draw dc_law_draw pm_law_draw an_law_draw cd_law_draw ct_law_draw), sl_law_draw⟩)
    (q_law_draw : PySem.W.codeIn K cd_law_draw "_law_draw" = true)
    (k_law_draw : PySem.W.keepIn K (.ref F_law_draw) = true)
    (a_law_whole : PySem.W.nsIn K mainGlobals "_law_whole" = some (some (.ref F_law_whole)))
    (l_law_whole : K.lookup F_law_whole = some ⟨oc_law_whole, od_law_whole, .func (PySem.W.fnOf "_law_whole" "_law_whole" (defArgs s_law_whole) (defBody s_law_whole) (defScope s_law_whole) .none kV_law_whole dc_law_whole pm_law_whole an_law_whole cd_law_whole ct_law_whole), sl_law_whole⟩)
    (q_law_whole : PySem.W.codeIn K cd_law_whole "_law_whole" = true)
    (k_law_whole : PySem.W.keepIn K (.ref F_law_whole) = true)
    (a_law_class : PySem.W.nsIn K mainGlobals "_law_class" = some (some (.ref F_law_class)))
    (l_law_class : K.lookup F_law_class = some ⟨oc_law_class, od_law_class, .func (PySem.W.fnOf "_law_class" "_law_class" (defArgs s_law_class) (defBody s_law_class) (defScope s_law_class) .none kV_law_class dc_law_class pm_law_class an_law_class cd_law_class ct_law_class), sl_law_class⟩)
    (q_law_class : PySem.W.codeIn K cd_law_class "_law_class" = true)
    (k_law_class : PySem.W.keepIn K (.ref F_law_class) = true)
    (a_law_written : PySem.W.nsIn K mainGlobals "_law_written" = some (some (.ref F_law_written)))
    (l_law_written : K.lookup F_law_written = some ⟨oc_law_written, od_law_written, .func (PySem.W.fnOf "_law_written" "_law_written" (defArgs s_law_written) (defBody s_law_written) (defScope s_law_written) .none kV_law_written dc_law_written pm_law_written an_law_written cd_law_written ct_law_written), sl_law_written⟩)
    (q_law_written : PySem.W.codeIn K cd_law_written "_law_written" = true)
    (k_law_written : PySem.W.keepIn K (.ref F_law_written) = true)
    (a_law_due : PySem.W.nsIn K mainGlobals "_law_due" = some (some (.ref F_law_due)))
    (l_law_due : K.lookup F_law_due = some ⟨oc_law_due, od_law_due, .func (PySem.W.fnOf "_law_due" "_law_due" (defArgs s_law_due) (defBody s_law_due) (defScope s_law_due) .none kV_law_due dc_law_due pm_law_due an_law_due cd_law_due ct_law_due), sl_law_due⟩)
    (q_law_due : PySem.W.codeIn K cd_law_due "_law_due" = true)
    (k_law_due : PySem.W.keepIn K (.ref F_law_due) = true)
    (a_law_told : PySem.W.nsIn K mainGlobals "_law_told" = some (some (.ref F_law_told)))
    (l_law_told : K.lookup F_law_told = some ⟨oc_law_told, od_law_told, .func (PySem.W.fnOf "_law_told" "_law_told" (defArgs s_law_told) (defBody s_law_told) (defScope s_law_told) .none kV_law_told dc_law_told pm_law_told an_law_told cd_law_told ct_law_told), sl_law_told⟩)
    (q_law_told : PySem.W.codeIn K cd_law_told "_law_told" = true)
    (k_law_told : PySem.W.keepIn K (.ref F_law_told) = true)
    (a_law_changed : PySem.W.nsIn K mainGlobals "_law_changed" = some (some (.ref F_law_changed)))
    (l_law_changed : K.lookup F_law_changed = some ⟨oc_law_changed, od_law_changed, .func (PySem.W.fnOf "_law_changed" "_law_changed" (defArgs s_law_changed) (defBody s_law_changed) (defScope s_law_changed) .none kV_law_changed dc_law_changed pm_law_changed an_law_changed cd_law_changed ct_law_changed), sl_law_changed⟩)
    (q_law_changed : PySem.W.codeIn K cd_law_changed "_law_changed" = true)
    (k_law_changed : PySem.W.keepIn K (.ref F_law_changed) = true)
    (a_law_right : PySem.W.nsIn K mainGlobals "_law_right" = some (some (.ref F_law_right)))
    (l_law_right : K.lookup F_law_right = some ⟨oc_law_right, od_law_right, .func (PySem.W.fnOf "_law_right" "_law_right" (defArgs s_law_right) (defBody s_law_right) (defScope s_law_right) .none kV_law_right dc_law_right pm_law_right an_law_right cd_law_right ct_law_right), sl_law_right⟩)
    (q_law_right : PySem.W.codeIn K cd_law_right "_law_right" = true)
    (k_law_right : PySem.W.keepIn K (.ref F_law_right) = true)
    (a_law : PySem.W.nsIn K mainGlobals "law" = some (some (.ref F_law)))
    (l_law : K.lookup F_law = some ⟨oc_law, od_law, .func (PySem.W.fnOf "law" "law" (defArgs s_law) (defBody s_law) (defScope s_law) .none kV_law dc_law pm_law an_law cd_law ct_law), sl_law⟩)
    (q_law : PySem.W.codeIn K cd_law "law" = true)
    (k_law : PySem.W.keepIn K (.ref F_law) = true)
    (a_RoadError : PySem.W.nsIn K mainGlobals "RoadError" = some (some (.ref C_RoadError)))
    (a_BadClock : PySem.W.nsIn K mainGlobals "BadClock" = some (some (.ref C_BadClock)))
    (a_BadRule : PySem.W.nsIn K mainGlobals "BadRule" = some (some (.ref C_BadRule)))
    (a_TooMany : PySem.W.nsIn K mainGlobals "TooMany" = some (some (.ref C_TooMany)))
    (a_BadName : PySem.W.nsIn K mainGlobals "BadName" = some (some (.ref C_BadName)))
    (a_Twice : PySem.W.nsIn K mainGlobals "Twice" = some (some (.ref C_Twice)))
    (a_NoStop : PySem.W.nsIn K mainGlobals "NoStop" = some (some (.ref C_NoStop)))
    (a_BadNumber : PySem.W.nsIn K mainGlobals "BadNumber" = some (some (.ref C_BadNumber)))
    (a_BadCalls : PySem.W.nsIn K mainGlobals "BadCalls" = some (some (.ref C_BadCalls)))
    (a_NoRun : PySem.W.nsIn K mainGlobals "NoRun" = some (some (.ref C_NoRun)))
    (a_TooLate : PySem.W.nsIn K mainGlobals "TooLate" = some (some (.ref C_TooLate)))
    (a_NoTraveller : PySem.W.nsIn K mainGlobals "NoTraveller" = some (some (.ref C_NoTraveller)))
    (a_BadLine : PySem.W.nsIn K mainGlobals "BadLine" = some (some (.ref C_BadLine)))
    (e_BadClock : PySem.W.excIn K C_BadClock [.type "ValueError", .type "Exception", .type "BaseException", .type "object"] "ValueError.__new__" = true)
    (g0_BadClock : PySem.W.clsIn K C_BadClock = some cd_BadClock)
    (g1_BadClock : PySem.W.findIn K (.ref C_BadClock) "__getattribute__" = some (some (.builtin "BaseException.__getattribute__")))
    (g2_BadClock : PySem.W.findIn K (.ref C_BadClock) "__getattr__" = some none)
    (g3_BadClock : PySem.W.findIn K (.ref C_BadClock) "__class__" = some (some (.builtin "object.__class__")))
    (g4_BadClock : PySem.W.mroIn K C_BadClock (.type "object") = some true)
    (g5_BadClock : PySem.W.mroIn K C_BadClock (.type "BaseException") = some true)
    (g6_BadClock : PySem.W.specialIn K (.builtin "object.__class__") "__get__" = some (some (.builtin "getset_descriptor.__get__")))
    (g7_BadClock : PySem.W.takesIn K (.builtin "object.__class__") = some true)
    (k_BadClock_BadClock : PySem.W.kitOne K (.ref C_BadClock) (.ref C_BadClock) = some true)
    (k_BadClock_BadRule : PySem.W.kitOne K (.ref C_BadClock) (.ref C_BadRule) = some false)
    (k_BadClock_TooMany : PySem.W.kitOne K (.ref C_BadClock) (.ref C_TooMany) = some false)
    (k_BadClock_BadName : PySem.W.kitOne K (.ref C_BadClock) (.ref C_BadName) = some false)
    (k_BadClock_Twice : PySem.W.kitOne K (.ref C_BadClock) (.ref C_Twice) = some false)
    (k_BadClock_NoStop : PySem.W.kitOne K (.ref C_BadClock) (.ref C_NoStop) = some false)
    (k_BadClock_BadNumber : PySem.W.kitOne K (.ref C_BadClock) (.ref C_BadNumber) = some false)
    (k_BadClock_BadCalls : PySem.W.kitOne K (.ref C_BadClock) (.ref C_BadCalls) = some false)
    (k_BadClock_NoRun : PySem.W.kitOne K (.ref C_BadClock) (.ref C_NoRun) = some false)
    (k_BadClock_TooLate : PySem.W.kitOne K (.ref C_BadClock) (.ref C_TooLate) = some false)
    (k_BadClock_NoTraveller : PySem.W.kitOne K (.ref C_BadClock) (.ref C_NoTraveller) = some false)
    (k_BadClock_BadLine : PySem.W.kitOne K (.ref C_BadClock) (.ref C_BadLine) = some false)
    (v_BadClock : PySem.W.kitOne K (.ref C_BadClock) (.type "ValueError") = some true)
    (x_BadClock : PySem.W.exmOne K (.ref C_BadClock) (.ref C_RoadError) = some true)
    (z_ValueError : PySem.W.nsIn K mainGlobals "ValueError" = some none)
    (z_all : PySem.W.nsIn K mainGlobals "all" = some none)
    (z_bool : PySem.W.nsIn K mainGlobals "bool" = some none)
    (z_int : PySem.W.nsIn K mainGlobals "int" = some none)
    (z_isinstance : PySem.W.nsIn K mainGlobals "isinstance" = some none)
    (z_len : PySem.W.nsIn K mainGlobals "len" = some none)
    (z_max : PySem.W.nsIn K mainGlobals "max" = some none)
    (z_range : PySem.W.nsIn K mainGlobals "range" = some none)
    (z_str : PySem.W.nsIn K mainGlobals "str" = some none)
    (z_tuple : PySem.W.nsIn K mainGlobals "tuple" = some none)
    (v_FIGURES : PySem.W.nsIn K mainGlobals "FIGURES" = some (some (.str (Str.ofString "0123456789") t_FIGURES)))
    (v_MOST_FIGURES : PySem.W.nsIn K mainGlobals "MOST_FIGURES" = some (some (.int 5 t_MOST_FIGURES)))
    (v_LAST_DAY : PySem.W.nsIn K mainGlobals "LAST_DAY" = some (some (.int 9999 t_LAST_DAY)))
    (v_DAY_MINUTES : PySem.W.nsIn K mainGlobals "DAY_MINUTES" = some (some (.int 1440 t_DAY_MINUTES)))
    (v_HOUR_MINUTES : PySem.W.nsIn K mainGlobals "HOUR_MINUTES" = some (some (.int 60 t_HOUR_MINUTES)))
    (v_LAST_MINUTE : PySem.W.nsIn K mainGlobals "LAST_MINUTE" = some (some (.int 2879 t_LAST_MINUTE)))
    (v_LAST_MOMENT : PySem.W.nsIn K mainGlobals "LAST_MOMENT" = some (some (.int 14399999 t_LAST_MOMENT)))
    : ∃ t : Adr, Tab K mg t := by
  have Fis_any_number := fun_mk (st := s_is_any_number) l_is_any_number q_is_any_number k_is_any_number
  have Bis_any_number := Fis_any_number.binds (ps := ["value"]) fun _ _ _ _ _ _ us hl => match us, hl with | [_], _ => rfl
  have Fis_number := fun_mk (st := s_is_number) l_is_number q_is_number k_is_number
  have Bis_number := Fis_number.binds (ps := ["value", "least", "most"]) fun _ _ _ _ _ _ us hl => match us, hl with | [_, _, _], _ => rfl
  have Fare_figures := fun_mk (st := s_are_figures) l_are_figures q_are_figures k_are_figures
  have Bare_figures := Fare_figures.binds (ps := ["text"]) fun _ _ _ _ _ _ us hl => match us, hl with | [_], _ => rfl
  have Fnumber_by := fun_mk (st := s_number_by) l_number_by q_number_by k_number_by
  have Bnumber_by := Fnumber_by.binds (ps := ["text"]) fun _ _ _ _ _ _ us hl => match us, hl with | [_], _ => rfl
  have Ftwo_figures := fun_mk (st := s_two_figures) l_two_figures q_two_figures k_two_figures
  have Btwo_figures := Ftwo_figures.binds (ps := ["number"]) fun _ _ _ _ _ _ us hl => match us, hl with | [_], _ => rfl
  have Fclock_text := fun_mk (st := s_clock_text) l_clock_text q_clock_text k_clock_text
  have Bclock_text := Fclock_text.binds (ps := ["minute"]) fun _ _ _ _ _ _ us hl => match us, hl with | [_], _ => rfl
  have Fhas_clock_form := fun_mk (st := s_has_clock_form) l_has_clock_form q_has_clock_form k_has_clock_form
  have Bhas_clock_form := Fhas_clock_form.binds (ps := ["text"]) fun _ _ _ _ _ _ us hl => match us, hl with | [_], _ => rfl
  have Fminute_of := fun_mk (st := s_minute_of) l_minute_of q_minute_of k_minute_of
  have Bminute_of := Fminute_of.binds (ps := ["text"]) fun _ _ _ _ _ _ us hl => match us, hl with | [_], _ => rfl
  have Fmoment_of := fun_mk (st := s_moment_of) l_moment_of q_moment_of k_moment_of
  have Bmoment_of := Fmoment_of.binds (ps := ["day", "minute"]) fun _ _ _ _ _ _ us hl => match us, hl with | [_, _], _ => rfl
  have Fday_and_minute := fun_mk (st := s_day_and_minute) l_day_and_minute q_day_and_minute k_day_and_minute
  have Bday_and_minute := Fday_and_minute.binds (ps := ["moment"]) fun _ _ _ _ _ _ us hl => match us, hl with | [_], _ => rfl
  have Fmoment_text := fun_mk (st := s_moment_text) l_moment_text q_moment_text k_moment_text
  have Bmoment_text := Fmoment_text.binds (ps := ["moment"]) fun _ _ _ _ _ _ us hl => match us, hl with | [_], _ => rfl
  have Fmoment_by := fun_mk (st := s_moment_by) l_moment_by q_moment_by k_moment_by
  have Bmoment_by := Fmoment_by.binds (ps := ["text"]) fun _ _ _ _ _ _ us hl => match us, hl with | [_], _ => rfl
  have Flaw_cell := fun_mk (st := s_law_cell) l_law_cell q_law_cell k_law_cell
  have Blaw_cell := Flaw_cell.binds (ps := ["_law_script", "_law_k"]) fun _ _ _ _ _ _ us hl => match us, hl with | [_, _], _ => rfl
  have Flaw_draw := fun_mk (st := s_law_draw) l_law_draw q_law_draw k_law_draw
  have Blaw_draw := Flaw_draw.binds (ps := ["_law_script", "_law_tape", "_law_many"]) fun _ _ _ _ _ _ us hl => match us, hl with | [_, _, _], _ => rfl
  have Flaw_whole := fun_mk (st := s_law_whole) l_law_whole q_law_whole k_law_whole
  have Blaw_whole := Flaw_whole.binds (ps := ["_law_found"]) fun _ _ _ _ _ _ us hl => match us, hl with | [_], _ => rfl
  have Flaw_class := fun_mk (st := s_law_class) l_law_class q_law_class k_law_class
  have Blaw_class := Flaw_class.binds (ps := ["_law_error"]) fun _ _ _ _ _ _ us hl => match us, hl with | [_], _ => rfl
  have Flaw_written := fun_mk (st := s_law_written) l_law_written q_law_written k_law_written
  have Blaw_written := Flaw_written.binds (ps := ["_law_day", "_law_minute"]) fun _ _ _ _ _ _ us hl => match us, hl with | [_, _], _ => rfl
  have Flaw_due := fun_mk (st := s_law_due) l_law_due q_law_due k_law_due
  have Blaw_due := Flaw_due.binds (ps := ["_law_text"]) fun _ _ _ _ _ _ us hl => match us, hl with | [_], _ => rfl
  have Flaw_told := fun_mk (st := s_law_told) l_law_told q_law_told k_law_told
  have Blaw_told := Flaw_told.binds (ps := ["_law_which", "_law_thing", "_law_minute"]) fun _ _ _ _ _ _ us hl => match us, hl with | [_, _, _], _ => rfl
  have Flaw_changed := fun_mk (st := s_law_changed) l_law_changed q_law_changed k_law_changed
  have Blaw_changed := Flaw_changed.binds (ps := ["_law_script", "_law_tape", "_law_text"]) fun _ _ _ _ _ _ us hl => match us, hl with | [_, _, _], _ => rfl
  have Flaw_right := fun_mk (st := s_law_right) l_law_right q_law_right k_law_right
  have Blaw_right := Flaw_right.binds (ps := ["_law_day", "_law_minute"]) fun _ _ _ _ _ _ us hl => match us, hl with | [_, _], _ => rfl
  have Flaw := fun_mk (st := s_law) l_law q_law k_law
  have Blaw := Flaw.binds (ps := ["_law_script"]) fun _ _ _ _ _ _ us hl => match us, hl with | [_], _ => rfl
  exact ⟨⟨F_is_any_number, PySem.W.fnOf "is_any_number" "is_any_number" (defArgs s_is_any_number) (defBody s_is_any_number) (defScope s_is_any_number) .none kV_is_any_number dc_is_any_number pm_is_any_number an_is_any_number cd_is_any_number ct_is_any_number, F_is_number, PySem.W.fnOf "is_number" "is_number" (defArgs s_is_number) (defBody s_is_number) (defScope s_is_number) .none kV_is_number dc_is_number pm_is_number an_is_number cd_is_number ct_is_number, F_are_figures, PySem.W.fnOf "are_figures" "are_figures" (defArgs s_are_figures) (defBody s_are_figures) (defScope s_are_figures) .none kV_are_figures dc_are_figures pm_are_figures an_are_figures cd_are_figures ct_are_figures, F_number_by, PySem.W.fnOf "number_by" "number_by" (defArgs s_number_by) (defBody s_number_by) (defScope s_number_by) .none kV_number_by dc_number_by pm_number_by an_number_by cd_number_by ct_number_by, F_two_figures, PySem.W.fnOf "two_figures" "two_figures" (defArgs s_two_figures) (defBody s_two_figures) (defScope s_two_figures) .none kV_two_figures dc_two_figures pm_two_figures an_two_figures cd_two_figures ct_two_figures, F_clock_text, PySem.W.fnOf "clock_text" "clock_text" (defArgs s_clock_text) (defBody s_clock_text) (defScope s_clock_text) .none kV_clock_text dc_clock_text pm_clock_text an_clock_text cd_clock_text ct_clock_text, F_has_clock_form, PySem.W.fnOf "has_clock_form" "has_clock_form" (defArgs s_has_clock_form) (defBody s_has_clock_form) (defScope s_has_clock_form) .none kV_has_clock_form dc_has_clock_form pm_has_clock_form an_has_clock_form cd_has_clock_form ct_has_clock_form, F_minute_of, PySem.W.fnOf "minute_of" "minute_of" (defArgs s_minute_of) (defBody s_minute_of) (defScope s_minute_of) .none kV_minute_of dc_minute_of pm_minute_of an_minute_of cd_minute_of ct_minute_of, F_moment_of, PySem.W.fnOf "moment_of" "moment_of" (defArgs s_moment_of) (defBody s_moment_of) (defScope s_moment_of) .none kV_moment_of dc_moment_of pm_moment_of an_moment_of cd_moment_of ct_moment_of, F_day_and_minute, PySem.W.fnOf "day_and_minute" "day_and_minute" (defArgs s_day_and_minute) (defBody s_day_and_minute) (defScope s_day_and_minute) .none kV_day_and_minute dc_day_and_minute pm_day_and_minute an_day_and_minute cd_day_and_minute ct_day_and_minute, F_moment_text, PySem.W.fnOf "moment_text" "moment_text" (defArgs s_moment_text) (defBody s_moment_text) (defScope s_moment_text) .none kV_moment_text dc_moment_text pm_moment_text an_moment_text cd_moment_text ct_moment_text, F_moment_by, PySem.W.fnOf "moment_by" "moment_by" (defArgs s_moment_by) (defBody s_moment_by) (defScope s_moment_by) .none kV_moment_by dc_moment_by pm_moment_by an_moment_by cd_moment_by ct_moment_by, F_law_cell, PySem.W.fnOf "_law_cell" "_law_cell" (defArgs s_law_cell) (defBody s_law_cell) (defScope s_law_cell) .none kV_law_cell dc_law_cell pm_law_cell an_law_cell cd_law_cell ct_law_cell, F_law_draw, PySem.W.fnOf "_law_draw" "_law_draw" (defArgs s_law_draw) (defBody s_law_draw) (defScope s_law_draw) .none kV_law_draw dc_law_draw pm_law_draw an_law_draw cd_law_draw ct_law_draw, F_law_whole, PySem.W.fnOf "_law_whole" "_law_whole" (defArgs s_law_whole) (defBody s_law_whole) (defScope s_law_whole) .none kV_law_whole dc_law_whole pm_law_whole an_law_whole cd_law_whole ct_law_whole, F_law_class, PySem.W.fnOf "_law_class" "_law_class" (defArgs s_law_class) (defBody s_law_class) (defScope s_law_class) .none kV_law_class dc_law_class pm_law_class an_law_class cd_law_class ct_law_class, F_law_written, PySem.W.fnOf "_law_written" "_law_written" (defArgs s_law_written) (defBody s_law_written) (defScope s_law_written) .none kV_law_written dc_law_written pm_law_written an_law_written cd_law_written ct_law_written, F_law_due, PySem.W.fnOf "_law_due" "_law_due" (defArgs s_law_due) (defBody s_law_due) (defScope s_law_due) .none kV_law_due dc_law_due pm_law_due an_law_due cd_law_due ct_law_due, F_law_told, PySem.W.fnOf "_law_told" "_law_told" (defArgs s_law_told) (defBody s_law_told) (defScope s_law_told) .none kV_law_told dc_law_told pm_law_told an_law_told cd_law_told ct_law_told, F_law_changed, PySem.W.fnOf "_law_changed" "_law_changed" (defArgs s_law_changed) (defBody s_law_changed) (defScope s_law_changed) .none kV_law_changed dc_law_changed pm_law_changed an_law_changed cd_law_changed ct_law_changed, F_law_right, PySem.W.fnOf "_law_right" "_law_right" (defArgs s_law_right) (defBody s_law_right) (defScope s_law_right) .none kV_law_right dc_law_right pm_law_right an_law_right cd_law_right ct_law_right, F_law, PySem.W.fnOf "law" "law" (defArgs s_law) (defBody s_law) (defScope s_law) .none kV_law dc_law pm_law an_law cd_law ct_law, C_RoadError, C_BadClock, C_BadRule, C_TooMany, C_BadName, C_Twice, C_NoStop, C_BadNumber, C_BadCalls, C_NoRun, C_TooLate, C_NoTraveller, C_BadLine⟩, ⟨PySem.W.mg_none_of X G z_ValueError,
    PySem.W.mg_none_of X G z_all,
    PySem.W.mg_none_of X G z_bool,
    PySem.W.mg_none_of X G z_int,
    PySem.W.mg_none_of X G z_isinstance,
    PySem.W.mg_none_of X G z_len,
    PySem.W.mg_none_of X G z_max,
    PySem.W.mg_none_of X G z_range,
    PySem.W.mg_none_of X G z_str,
    PySem.W.mg_none_of X G z_tuple,
    ⟨_, PySem.W.mg_of X G v_FIGURES⟩,
    ⟨_, PySem.W.mg_of X G v_MOST_FIGURES⟩,
    ⟨_, PySem.W.mg_of X G v_LAST_DAY⟩,
    ⟨_, PySem.W.mg_of X G v_DAY_MINUTES⟩,
    ⟨_, PySem.W.mg_of X G v_HOUR_MINUTES⟩,
    ⟨_, PySem.W.mg_of X G v_LAST_MINUTE⟩,
    ⟨_, PySem.W.mg_of X G v_LAST_MOMENT⟩,
    Fis_any_number,
    PySem.W.mg_of X G a_is_any_number,
    Bis_any_number,
    Fis_number,
    PySem.W.mg_of X G a_is_number,
    Bis_number,
    Fare_figures,
    PySem.W.mg_of X G a_are_figures,
    Bare_figures,
    Fnumber_by,
    PySem.W.mg_of X G a_number_by,
    Bnumber_by,
    Ftwo_figures,
    PySem.W.mg_of X G a_two_figures,
    Btwo_figures,
    Fclock_text,
    PySem.W.mg_of X G a_clock_text,
    Bclock_text,
    Fhas_clock_form,
    PySem.W.mg_of X G a_has_clock_form,
    Bhas_clock_form,
    Fminute_of,
    PySem.W.mg_of X G a_minute_of,
    Bminute_of,
    Fmoment_of,
    PySem.W.mg_of X G a_moment_of,
    Bmoment_of,
    Fday_and_minute,
    PySem.W.mg_of X G a_day_and_minute,
    Bday_and_minute,
    Fmoment_text,
    PySem.W.mg_of X G a_moment_text,
    Bmoment_text,
    Fmoment_by,
    PySem.W.mg_of X G a_moment_by,
    Bmoment_by,
    Flaw_cell,
    PySem.W.mg_of X G a_law_cell,
    Blaw_cell,
    Flaw_draw,
    PySem.W.mg_of X G a_law_draw,
    Blaw_draw,
    Flaw_whole,
    PySem.W.mg_of X G a_law_whole,
    Blaw_whole,
    Flaw_class,
    PySem.W.mg_of X G a_law_class,
    Blaw_class,
    Flaw_written,
    PySem.W.mg_of X G a_law_written,
    Blaw_written,
    Flaw_due,
    PySem.W.mg_of X G a_law_due,
    Blaw_due,
    Flaw_told,
    PySem.W.mg_of X G a_law_told,
    Blaw_told,
    Flaw_changed,
    PySem.W.mg_of X G a_law_changed,
    Blaw_changed,
    Flaw_right,
    PySem.W.mg_of X G a_law_right,
    Blaw_right,
    Flaw,
    PySem.W.mg_of X G a_law,
    Blaw,
    PySem.W.mg_of X G a_RoadError,
    PySem.W.mg_of X G a_BadClock,
    PySem.W.mg_of X G a_BadRule,
    PySem.W.mg_of X G a_TooMany,
    PySem.W.mg_of X G a_BadName,
    PySem.W.mg_of X G a_Twice,
    PySem.W.mg_of X G a_NoStop,
    PySem.W.mg_of X G a_BadNumber,
    PySem.W.mg_of X G a_BadCalls,
    PySem.W.mg_of X G a_NoRun,
    PySem.W.mg_of X G a_TooLate,
    PySem.W.mg_of X G a_NoTraveller,
    PySem.W.mg_of X G a_BadLine,
    ⟨e_BadClock⟩,
    ⟨by rw [g0_BadClock]; rfl, g1_BadClock, g2_BadClock, g3_BadClock, g4_BadClock, g5_BadClock, g6_BadClock, g7_BadClock⟩,
    k_BadClock_BadClock,
    k_BadClock_BadRule,
    k_BadClock_TooMany,
    k_BadClock_BadName,
    k_BadClock_Twice,
    k_BadClock_NoStop,
    k_BadClock_BadNumber,
    k_BadClock_BadCalls,
    k_BadClock_NoRun,
    k_BadClock_TooLate,
    k_BadClock_NoTraveller,
    k_BadClock_BadLine,
    v_BadClock,
    x_BadClock⟩⟩
end K02
open PySem PySem.W PyProof.Rows
set_option maxRecDepth 100000 in
set_option maxHeartbeats 0 in
theorem PySem.Challenge.cw_roadbook_k02_moments_holds : PySem.Challenge.rw_roadbook_k02_moments.Holds := by
  w_on; o_law; k_head; (case hw => w_witness2)
  k_fill
  refine L2.walk_ofK (l := PySem.Challenge.rw_roadbook_k02_moments) (n := 63) (k := 8) (x := "_law_script") (CX := L2.CX0) (sp := K02.sp_law) rfl (by decide) rfl ⟨rfl, by decide, by decide⟩ (fun w h Y => PySem.W.kIn_of Y) ?F (fun _ _ a ns hl _ hS => ⟨a, ns, rfl, hS, hl, fun _ => rfl⟩) fun _ _ _ _ z => z
  case F =>
    intro w mg fa h KX G hmg
    have T : ∃ t, K02.Tab (L2.KOf KX) mg t := by
      dsimp only [L2.KOf]
      refine' K02.all_mk KX G ?a_is_any_number ?l_is_any_number ?q_is_any_number ?k_is_any_number ?a_is_number ?l_is_number ?q_is_number ?k_is_number ?a_are_figures ?l_are_figures ?q_are_figures ?k_are_figures ?a_number_by ?l_number_by ?q_number_by ?k_number_by ?a_two_figures ?l_two_figures ?q_two_figures ?k_two_figures ?a_clock_text ?l_clock_text ?q_clock_text ?k_clock_text ?a_has_clock_form ?l_has_clock_form ?q_has_clock_form ?k_has_clock_form ?a_minute_of ?l_minute_of ?q_minute_of ?k_minute_of ?a_moment_of ?l_moment_of ?q_moment_of ?k_moment_of ?a_day_and_minute ?l_day_and_minute ?q_day_and_minute ?k_day_and_minute ?a_moment_text ?l_moment_text ?q_moment_text ?k_moment_text ?a_moment_by ?l_moment_by ?q_moment_by ?k_moment_by ?a_law_cell ?l_law_cell ?q_law_cell ?k_law_cell ?a_law_draw ?l_law_draw ?q_law_draw ?k_law_draw ?a_law_whole ?l_law_whole ?q_law_whole ?k_law_whole ?a_law_class ?l_law_class ?q_law_class ?k_law_class ?a_law_written ?l_law_written ?q_law_written ?k_law_written ?a_law_due ?l_law_due ?q_law_due ?k_law_due ?a_law_told ?l_law_told ?q_law_told ?k_law_told ?a_law_changed ?l_law_changed ?q_law_changed ?k_law_changed ?a_law_right ?l_law_right ?q_law_right ?k_law_right ?a_law ?l_law ?q_law ?k_law ?a_RoadError ?a_BadClock ?a_BadRule ?a_TooMany ?a_BadName ?a_Twice ?a_NoStop ?a_BadNumber ?a_BadCalls ?a_NoRun ?a_TooLate ?a_NoTraveller ?a_BadLine ?e_BadClock ?g0_BadClock ?g1_BadClock ?g2_BadClock ?g3_BadClock ?g4_BadClock ?g5_BadClock ?g6_BadClock ?g7_BadClock ?k_BadClock_BadClock ?k_BadClock_BadRule ?k_BadClock_TooMany ?k_BadClock_BadName ?k_BadClock_Twice ?k_BadClock_NoStop ?k_BadClock_BadNumber ?k_BadClock_BadCalls ?k_BadClock_NoRun ?k_BadClock_TooLate ?k_BadClock_NoTraveller ?k_BadClock_BadLine ?v_BadClock ?x_BadClock ?z_ValueError ?z_all ?z_bool ?z_int ?z_isinstance ?z_len ?z_max ?z_range ?z_str ?z_tuple ?v_FIGURES ?v_MOST_FIGURES ?v_LAST_DAY ?v_DAY_MINUTES ?v_HOUR_MINUTES ?v_LAST_MINUTE ?v_LAST_MOMENT
      (case a_is_any_number => k_is)
      (case l_is_any_number => k_is)
      (case q_is_any_number => k_is)
      (case k_is_any_number => k_is)
      (case a_is_number => k_is)
      (case l_is_number => k_is)
      (case q_is_number => k_is)
      (case k_is_number => k_is)
      (case a_are_figures => k_is)
      (case l_are_figures => k_is)
      (case q_are_figures => k_is)
      (case k_are_figures => k_is)
      (case a_number_by => k_is)
      (case l_number_by => k_is)
      (case q_number_by => k_is)
      (case k_number_by => k_is)
      (case a_two_figures => k_is)
      (case l_two_figures => k_is)
      (case q_two_figures => k_is)
      (case k_two_figures => k_is)
      (case a_clock_text => k_is)
      (case l_clock_text => k_is)
      (case q_clock_text => k_is)
      (case k_clock_text => k_is)
      (case a_has_clock_form => k_is)
      (case l_has_clock_form => k_is)
      (case q_has_clock_form => k_is)
      (case k_has_clock_form => k_is)
      (case a_minute_of => k_is)
      (case l_minute_of => k_is)
      (case q_minute_of => k_is)
      (case k_minute_of => k_is)
      (case a_moment_of => k_is)
      (case l_moment_of => k_is)
      (case q_moment_of => k_is)
      (case k_moment_of => k_is)
      (case a_day_and_minute => k_is)
      (case l_day_and_minute => k_is)
      (case q_day_and_minute => k_is)
      (case k_day_and_minute => k_is)
      (case a_moment_text => k_is)
      (case l_moment_text => k_is)
      (case q_moment_text => k_is)
      (case k_moment_text => k_is)
      (case a_moment_by => k_is)
      (case l_moment_by => k_is)
      (case q_moment_by => k_is)
      (case k_moment_by => k_is)
      (case a_law_cell => k_is)
      (case l_law_cell => k_is)
      (case q_law_cell => k_is)
      (case k_law_cell => k_is)
      (case a_law_draw => k_is)
      (case l_law_draw => k_is)
      (case q_law_draw => k_is)
      (case k_law_draw => k_is)
      (case a_law_whole => k_is)
      (case l_law_whole => k_is)
      (case q_law_whole => k_is)
      (case k_law_whole => k_is)
      (case a_law_class => k_is)
      (case l_law_class => k_is)
      (case q_law_class => k_is)
      (case k_law_class => k_is)
      (case a_law_written => k_is)
      (case l_law_written => k_is)
      (case q_law_written => k_is)
      (case k_law_written => k_is)
      (case a_law_due => k_is)
      (case l_law_due => k_is)
      (case q_law_due => k_is)
      (case k_law_due => k_is)
      (case a_law_told => k_is)
      (case l_law_told => k_is)
      (case q_law_told => k_is)
      (case k_law_told => k_is)
      (case a_law_changed => k_is)
      (case l_law_changed => k_is)
      (case q_law_changed => k_is)
      (case k_law_changed => k_is)
      (case a_law_right => k_is)
      (case l_law_right => k_is)
      (case q_law_right => k_is)
      (case k_law_right => k_is)
      (case a_law => k_is)
      (case l_law => k_is)
      (case q_law => k_is)
      (case k_law => k_is)
      (case a_RoadError => k_is)
      (case a_BadClock => k_is)
      (case a_BadRule => k_is)
      (case a_TooMany => k_is)
      (case a_BadName => k_is)
      (case a_Twice => k_is)
      (case a_NoStop => k_is)
      (case a_BadNumber => k_is)
      (case a_BadCalls => k_is)
      (case a_NoRun => k_is)
      (case a_TooLate => k_is)
      (case a_NoTraveller => k_is)
      (case a_BadLine => k_is)
      (case e_BadClock => k_exc)
      (case g0_BadClock => k_is)
      (case g1_BadClock => k_is)
      (case g2_BadClock => k_is)
      (case g3_BadClock => k_is)
      (case g4_BadClock => k_is)
      (case g5_BadClock => k_is)
      (case g6_BadClock => k_is)
      (case g7_BadClock => k_is)
      (case k_BadClock_BadClock => kit_is)
      (case k_BadClock_BadRule => kit_is)
      (case k_BadClock_TooMany => kit_is)
      (case k_BadClock_BadName => kit_is)
      (case k_BadClock_Twice => kit_is)
      (case k_BadClock_NoStop => kit_is)
      (case k_BadClock_BadNumber => kit_is)
      (case k_BadClock_BadCalls => kit_is)
      (case k_BadClock_NoRun => kit_is)
      (case k_BadClock_TooLate => kit_is)
      (case k_BadClock_NoTraveller => kit_is)
      (case k_BadClock_BadLine => kit_is)
      (case v_BadClock => kit_is)
      (case x_BadClock => kts_exm)
      (case z_ValueError => k_is)
      (case z_all => k_is)
      (case z_bool => k_is)
      (case z_int => k_is)
      (case z_isinstance => k_is)
      (case z_len => k_is)
      (case z_max => k_is)
      (case z_range => k_is)
      (case z_str => k_is)
      (case z_tuple => k_is)
      (case v_FIGURES => k_is)
      (case v_MOST_FIGURES => k_is)
      (case v_LAST_DAY => k_is)
      (case v_DAY_MINUTES => k_is)
      (case v_HOUR_MINUTES => k_is)
      (case v_LAST_MINUTE => k_is)
      (case v_LAST_MOMENT => k_is)
    obtain ⟨t, T⟩ := T
    have e0 := hmg.symm.trans T.m_law
    cases e0
    refine' ⟨t.d_law, ?b, fun base kb nb => K02.ok_law T⟩
    obtain ⟨oc, od, kV, doc, pm, an, cdv, ct, osl, e, _, _⟩ := T.F_law.ex
    rw [e]
    exact fun s u => .of_eq rfl
